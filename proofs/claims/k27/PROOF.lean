import PyProof.Rows.All
import Wide.All
import OpenK.AllK
import Wide.FinOn
import Lean
import PyProof.EqAt
import PyProof.EqKinds
import PyProof.TupleCall
import PySem.Challenge.RW_tentloops_k27_whole_five_exchanges
set_option Elab.async false
set_option linter.all false
set_option maxRecDepth 100000
namespace L2
open PySem PySem.Spec PyProof.Rows
noncomputable abbrev Key:=Sum Int Str
noncomputable def V0:Key→Value→Bool
 | .inl k,v=>Value.isInt k v
 | .inr x,v=>Value.isStrOf x v
noncomputable def keyH (w:World):Key→Int
 | .inl k=>hashInt k
 | .inr x=>hashStr w x
theorem Y6:∀ {k:Key} {v:Value},V0 k v=true→(∃ i t,k=Sum.inl i∧v=Value.int i t)∨(∃ x t,k=Sum.inr x∧v=Value.str x t)
 | .inl i,v,h=>by
  obtain ⟨t,e⟩:=Value.isInt_shape (k:=i) (v:=v) h
  exact .inl ⟨i,t,rfl,e⟩
 | .inr x,v,h=>by
  obtain ⟨t,e⟩:=Value.isStrOf_shape (x:=x) (v:=v) h
  exact .inr ⟨x,t,rfl,e⟩
theorem Zgv (i:Int) (t:Tok):V0 (.inl i) (.int i t)=true:=by simp [V0,Value.isInt]
theorem J5 (x:Str) (t:Tok):V0 (.inr x) (.str x t)=true:=by simp [V0,Value.isStrOf]
theorem Zm7 (a b:Int):decide ((Sum.inl a:Key)=Sum.inl b)=(a == b):=by
 by_cases e:a=b
 ·subst e; simp
 ·have h:¬ (Sum.inl a:Key)=Sum.inl b:=fun q=>e (Sum.inl.inj q)
  rw [decide_eq_false h]
  exact (beq_eq_false_iff_ne.mpr e).symm
theorem Zm4 (a b:Str):decide ((Sum.inr a:Key)=Sum.inr b)=decide (a=b):=by
 by_cases e:a=b
 ·subst e; simp
 ·have h:¬ (Sum.inr a:Key)=Sum.inr b:=fun q=>e (Sum.inr.inj q)
  rw [decide_eq_false h,decide_eq_false e]
theorem Zm6 (a:Int) (b:Str):decide ((Sum.inl a:Key)=Sum.inr b)=false:=decide_eq_false (fun q=>nomatch q)
theorem Zm5 (a:Str) (b:Int):decide ((Sum.inr a:Key)=Sum.inl b)=false:=decide_eq_false (fun q=>nomatch q)
noncomputable def Z9 (prog:Program) (w:World):PySem.KeyKind prog w Key where
 is:=V0
 hash:=keyH w
 inj:=fun v a b ha hb=>by
  rcases Y6 ha with ⟨i,t,rfl,rfl⟩ | ⟨x,t,rfl,rfl⟩
  ·rcases Y6 hb with ⟨j,u,rfl,e⟩ | ⟨y,u,rfl,e⟩
   ·injection e with e1 _; rw [e1]
   ·exact nomatch e
  ·rcases Y6 hb with ⟨j,u,rfl,e⟩ | ⟨y,u,rfl,e⟩
   ·exact nomatch e
   ·injection e with e1 _; rw [e1]
 byValue:=fun k v h=>by
  rcases Y6 h with ⟨i,t,rfl,rfl⟩ | ⟨x,t,rfl,rfl⟩ <;> rfl
 pyHash:=fun hv h=>by
  rcases Y6 hv with ⟨i,t,rfl,rfl⟩ | ⟨x,t,rfl,rfl⟩
  ·exact wpAny_pyHash_int h
  ·exact wpAny_pyHash_str h
 eqBool:=fun hu hv h=>by
  rcases Y6 hu with ⟨i,t,rfl,rfl⟩ | ⟨x,t,rfl,rfl⟩
  ·rcases Y6 hv with ⟨j,u,rfl,rfl⟩ | ⟨y,u,rfl,rfl⟩
   ·rw [Zm7] at h; exact wpAny_eqBool_int h
   ·rw [Zm6] at h; exact SeqAt.EqAt.int_str i t y u _ _ _ _ h
  ·rcases Y6 hv with ⟨j,u,rfl,rfl⟩ | ⟨y,u,rfl,rfl⟩
   ·rw [Zm5] at h; exact SeqAt.EqAt.str_int x t j u _ _ _ _ h
   ·rw [Zm4] at h; exact wpAny_eqBool_str h
 «strs»:=fun k x t v h=>by
  rcases Y6 h with ⟨i,u,rfl,e⟩ | ⟨y,u,rfl,e⟩
  ·exact nomatch e
  ·injection e with e1 _
   subst e1
   cases v <;> rfl
theorem Zc1 (prog:Program) (w:World) (i:Int) (t:Tok):(Z9 prog w).is (.inl i) (.int i t)=true:=Zgv i t
theorem Zc0 (prog:Program) (w:World) (x:Str) (t:Tok):(Z9 prog w).is (.inr x) (.str x t)=true:=J5 x t
end L2
namespace L2
open PySem PySem.Spec PyProof.Rows
inductive V where
 | non | bl (b:Bool) | int (i:Int) | str (x:Str) | byt (b:Array UInt8) | flt (b:UInt64) | ref (a:Addr) | ty (n:String)
 deriving DecidableEq
set_option genInjectivity false
set_option genSizeOf false
noncomputable def RelV:V→Value→Prop
 | .non,u=>u=Value.none
 | .bl b,u=>u=Value.bool b
 | .int i,u=>∃ t,u=Value.int i t
 | .str x,u=>∃ t,u=Value.str x t
 | .byt b,u=>∃ t,u=Value.bytes b t
 | .flt b,u=>∃ t,u=Value.float b t
 | .ref a,u=>u=Value.ref a
 | .ty n,u=>u=Value.type n
noncomputable abbrev Vals:List V→List Value→Prop:=Paired RelV
theorem Vals.length {xs:List V} {us:List Value} (r:Vals xs us):xs.length=us.length:=Paired.length r
theorem Vals.get:∀ {xs:List V} {us:List Value} {i:Nat} {x:V},Vals xs us→xs[i]?=some x→∃ u,us[i]?=some u∧RelV x u
 | _,_,_,_,.nil,e=>by simp at e
 | _,_,0,_,.cons r _,e=>by simp at e; subst e; exact ⟨_,rfl,r⟩
 | _,_,i + 1,x,.cons _ t,e=>by
  obtain ⟨u,h1,h2⟩:=Vals.get (i:=i) (x:=x) t (by simpa using e)
  exact ⟨u,by simpa using h1,h2⟩
theorem Vals.set {x:V} {u:Value} (r:RelV x u):∀ {xs:List V} {us:List Value} (i:Nat),Vals xs us→Vals (xs.set i x) (us.set i u)
 | _,_,_,.nil=>.nil
 | _,_,0,.cons _ t=>.cons r t
 | _,_,i + 1,.cons q t=>.cons q (Vals.set r i t)
theorem Vals.append:∀ {xs ys:List V} {us ws:List Value},Vals xs us→Vals ys ws→Vals (xs ++ ys) (us ++ ws)
 | _,_,_,_,.nil,s=>s
 | _,_,_,_,.cons r t,s=>.cons r (Vals.append t s)
theorem Vals.take:∀ {xs:List V} {us:List Value} (n:Nat),Vals xs us→Vals (xs.take n) (us.take n)
 | _,_,0,_=>.nil
 | _,_,_ + 1,.nil=>.nil
 | _,_,n + 1,.cons r t=>.cons r (Vals.take n t)
theorem Vals.drop:∀ {xs:List V} {us:List Value} (n:Nat),Vals xs us→Vals (xs.drop n) (us.drop n)
 | _,_,0,r=>r
 | _,_,_ + 1,.nil=>.nil
 | _,_,n + 1,.cons _ t=>Vals.drop n t
noncomputable def RelO:Option V→Option Value→Prop
 | some v,some u=>RelV v u
 | none,none=>True
 | _,_=>False
noncomputable def KV {κ:Type}:List (κ × V)→List (κ × Value)→Prop:=Paired fun (p:κ × V) (q:κ × Value)=>p.1=q.1∧RelV p.2 q.2
noncomputable def kV:Key→V
 | .inl i=>.int i
 | .inr x=>.str x
inductive HO where
 /-- a list -/
 | lst (xs:List V)
 /-- a tuple (never changes) -/
 | tup (xs:List V)
 /-- a dict whose keys are ints and texts; one whose keys are tuples of ints and texts (the empty one is both) -/
 | dK (kvs:List (Key × V)) | dT (kvs:List (List Key × V))
 /-- a set of ints: its members,its size -/
 | set (S:Int→Bool) (n:Nat)
 /-- an instance of the class at C,its dict at dx,its attributes -/
 | ins (C dx:Addr) (fs:List (Str × V))
 /-- the dict of the instance at x -/
 | own (x:Addr)
 /-- the dict of an exception -/
 | xd (fs:List (Str × V))
 /-- a bound method,f of x -/
 | met (f x:Addr)
 /-- a range object lo,lo + 1,.. below hi -/
 | rng (lo hi:Int)
 /-- a thing that is known to the object (the script; a dict while a loop walks it): read,never written while it is so -/
 | frz (o:Obj) (u:HO)
 /-- a code object's table -/
 | tbl (ps:Array Value)
 /-- any other thing,by what is true of its one object (a def of one's own: SetO a S n:=HO.ext fun h=>..) -/
 | ext (φ:Heap→Prop)
noncomputable abbrev Hp:=Addr→Option HO
noncomputable def upd (H:Hp) (a:Addr) (o:HO):Hp:=fun b=>if b=a then some o else H b
theorem Zb {H:Hp} {a:Addr} {o:HO}:upd H a o a=some o:=by unfold upd; rw [if_pos rfl]
theorem Zf {H:Hp} {a b:Addr} {o:HO} (h:b≠a):upd H a o b=H b:=by unfold upd; rw [if_neg h]
theorem Zjz {H:Hp} {a:Addr} {o u:HO}:upd (upd H a o) a u=upd H a u:=by
 funext b; unfold upd; split <;> rfl
theorem Zk {H:Hp} {a b:Addr} {o:HO} (h:H a=some o) (h':H b=none):a≠b:=by
 intro e; subst e; rw [h] at h'; cases h'
section
variable (P:Program) (w:World)
noncomputable def Yf (H:Hp) (h:Heap) (a:Addr):HO→Prop
 | .lst xs=>xs.length≤sizeLine∧∃ (its:List Value) (n:Nat),Vals xs its∧h.get? a=some { cls:=.type "list",data:=.seq its.toArray n }
 | .tup xs=>xs.length≤sizeLine∧∃ its:List Value,Vals xs its∧IsTup h a its.toArray
 | .dK kvs=>kvs.length≤sizeLine∧(a == sysModules)=false∧∃ vs,KV kvs vs∧h.DictOf (Z9 P w) a vs
 | .dT kvs=>kvs.length≤sizeLine∧(a == sysModules)=false∧∃ xs:List (List Key × Addr × Value),
   Paired (fun (p:List Key × V) (q:List Key × Addr × Value)=>p.1=q.1∧H q.2.1=some (.tup (p.1.map kV))∧RelV p.2 q.2.2) kvs xs ∧
   ∃ o es ep,h.get? a=some o∧o.ExactDict∧o.data=.dict es ep∧es.toList=xs.map (entryOfKey (tupleKind (Z9 P w)))∧(xs.map (·.1)).Nodup
 | .set S n=>h.SetOf (intKind P w) a S n
 | .ins C dx fs=>H dx=some (.own a)∧fs.length≤1000∧dx≠a∧h.get? a=some (PySem.W.instObj C dx) ∧
   ∃ mA,h.Ns1 dx mA∧(∀ f,RelO (fs.lookup f) (mA f))∧PySem.Within mA (fs.map (·.1))
 | .own _=>∃ o,h.get? a=some o
 | .xd fs=>∃ mA,h.Ns1 a mA∧∀ f,RelO (fs.lookup f) (mA f)
 | .rng lo hi=>∃ t u v,h.get? a=some { cls:=.type "range",data:=.fields #[.int lo t,.int hi u,.int 1 v] }
 | .frz o u=>h.get? a=some o∧Yf H h a u
 | .tbl ps=>h.get? a=some { cls:=.none,data:=.fields ps }
 | .met f x=>h.get? a=some (PySem.W.methodObj (.ref f) (.ref x))
 | .ext φ=>φ h∧(∃ o,h.get? a=some o)∧∀ h1 h2:Heap,φ h1→(∀ o,h1.get? a=some o→h2.get? a=some o)→φ h2
noncomputable def HOk (H:Hp) (h:Heap):Prop:=∀ a o,H a=some o→Yf P w H h a o
end
section
variable {P:Program} {w:World} {H H':Hp} {h h':Heap} {a:Addr} {o:HO}
theorem Yf.lt (x:Yf P w H h a o):a < h.objs.size:=by
 cases o with
 | lst xs=>obtain ⟨_,_,_,_,e⟩:=x; exact Heap.lt_size e
 | tup xs=>obtain ⟨_,_,_,p⟩:=x; exact p.lt
 | dK kvs=>obtain ⟨_,_,_,_,o,_,_,e,_⟩:=x; exact Heap.lt_size e
 | dT kvs=>obtain ⟨_,_,_,_,o,_,_,e,_⟩:=x; exact Heap.lt_size e
 | set S n=>obtain ⟨o,_,_,_,e,_⟩:=x; exact Heap.lt_size e
 | ins C dx fs=>obtain ⟨_,_,_,e,_⟩:=x; exact Heap.lt_size e
 | own y=>obtain ⟨_,e⟩:=x; exact Heap.lt_size e
 | xd fs=>obtain ⟨_,⟨_,_,_,e,_⟩,_⟩:=x; exact Heap.lt_size e
 | rng lo hi=>obtain ⟨_,_,_,e⟩:=x; exact Heap.lt_size e
 | frz ob u=>obtain ⟨e,_⟩:=x; exact Heap.lt_size e
 | tbl ps=>exact Heap.lt_size (show h.get? a=some _ from x)
 | met f y=>exact Heap.lt_size (show h.get? a=some _ from x)
 | ext φ=>obtain ⟨_,⟨_,e⟩,_⟩:=x; exact Heap.lt_size e
theorem Paired.mapP {α β:Type} {F G:α→β→Prop}:∀ {l₁:List α} {l₂:List β},Paired F l₁ l₂→(∀ a b,F a b→G a b)→Paired G l₁ l₂
 | _,_,.nil,_=>.nil
 | _,_,.cons r t,f=>.cons (f _ _ r) (Paired.mapP t f)
theorem Yf.stay (x:Yf P w H h a o) (k:∀ b u,(b=a∨H b=some (.own a))→h.get? b=some u→h'.get? b=some u)
  (ho:∀ b,H b=some (.own a)→H' b=some (.own a)) (ht:∀ b xs,H b=some (.tup xs)→H' b=some (.tup xs)):Yf P w H' h' a o:=by
 induction o with
 | lst xs=>obtain ⟨z,its,n,r,e⟩:=x; exact ⟨z,its,n,r,k _ _ (.inl rfl) e⟩
 | tup xs=>obtain ⟨z,its,r,ob,e,c⟩:=x; exact ⟨z,its,r,ob,k _ _ (.inl rfl) e,c⟩
 | dK kvs=>obtain ⟨z,y,vs,r,ob,es,ep,e,c⟩:=x; exact ⟨z,y,vs,r,ob,es,ep,k _ _ (.inl rfl) e,c⟩
 | dT kvs =>
  obtain ⟨z,y,xs,r,ob,es,ep,e,c⟩:=x
  exact ⟨z,y,xs,Paired.mapP r fun p q z=>⟨z.1,ht _ _ z.2.1,z.2.2⟩,ob,es,ep,k _ _ (.inl rfl) e,c⟩
 | set S n=>obtain ⟨ob,es,ep,t,e,c⟩:=x; exact ⟨ob,es,ep,t,k _ _ (.inl rfl) e,c⟩
 | ins C dx fs =>
  obtain ⟨d,z,ne,e,mA,⟨od,es,ep,e2,c⟩,r⟩:=x
  exact ⟨ho _ d,z,ne,k _ _ (.inl rfl) e,mA,⟨od,es,ep,k _ _ (.inr d) e2,c⟩,r⟩
 | own y=>obtain ⟨ob,e⟩:=x; exact ⟨ob,k _ _ (.inl rfl) e⟩
 | xd fs=>obtain ⟨mA,⟨od,es,ep,e,c⟩,r⟩:=x; exact ⟨mA,⟨od,es,ep,k _ _ (.inl rfl) e,c⟩,r⟩
 | rng lo hi=>obtain ⟨t,u,v,e⟩:=x; exact ⟨t,u,v,k _ _ (.inl rfl) e⟩
 | frz ob u ih=>obtain ⟨e,q⟩:=x; exact ⟨k _ _ (.inl rfl) e,ih q⟩
 | tbl ps =>
  have e:h.get? a=some { cls:=.none,data:=.fields ps }:=x
  show h'.get? a=some { cls:=.none,data:=.fields ps }
  exact k a _ (.inl rfl) e
 | met f y =>
  have e:h.get? a=some (PySem.W.methodObj (.ref f) (.ref y)):=x
  show h'.get? a=some (PySem.W.methodObj (.ref f) (.ref y))
  exact k a _ (.inl rfl) e
 | ext φ=>obtain ⟨p,⟨o,e⟩,st⟩:=x; exact ⟨st _ _ p fun o q=>k _ _ (.inl rfl) q,⟨o,k _ _ (.inl rfl) e⟩,st⟩
theorem HOk.lt (x:HOk P w H h) (e:H a=some o):a < h.objs.size:=(x a o e).lt
theorem HOk.fresh (x:HOk P w H h) (e:h.objs.size≤a):H a=none:=by
 cases q:H a with
 | none=>rfl
 | some u=>exact absurd (Nat.lt_of_lt_of_le (x.lt q) e) (Nat.lt_irrefl _)
theorem HOk.kept (x:HOk P w H h) (k:∀ b u,h.get? b=some u→h'.get? b=some u):HOk P w H h':=fun a o e =>
 (x a o e).stay (fun b u _ q=>k b u q) (fun _ q=>q) fun _ _ q=>q
theorem HOk.laid (x:HOk P w H h) (k:∀ b u,h.get? b=some u→h'.get? b=some u) (hp:h.objs.size≤a) (new:Yf P w (upd H a o) h' a o):HOk P w (upd H a o) h':=fun b u e=>by
 have hn:=x.fresh hp
 by_cases hb:b=a
 ·subst hb; rw [Zb] at e; cases e; exact new
 ·rw [Zf hb] at e
  exact (x b u e).stay (fun c v _ q=>k c v q) (fun c q=>by rw [Zf (Zk q hn)]; exact q) fun c xs q=>by rw [Zf (Zk q hn)]; exact q
end
noncomputable def Rd (H:Hp) (a:Addr) (u:HO):Prop:=H a=some u∨∃ o,H a=some (.frz o u)
theorem Rd.ok {P:Program} {w:World} {H:Hp} {h:Heap} {a:Addr} {u:HO} (r:Rd H a u) (x:HOk P w H h):Yf P w H h a u:=by
 rcases r with r | ⟨o,r⟩
 ·exact x a u r
 ·obtain ⟨_,q⟩:=x a _ r
  exact q
noncomputable def Mut:Option HO→Prop
 | some (.lst _)=>True
 | some (.dK _)=>True
 | some (.dT _)=>True
 | some (.set _ _)=>True
 | some (.ins _ _ _)=>True
 | some (.ext _)=>True
 | _=>False
section
variable {P:Program} {w:World} {H:Hp} {h h':Heap} {x e:Addr} {o':HO}
theorem HOk.write (ok:HOk P w H h) (mu:Mut (H x)) (he:e=x∨H e=some (.own x)) (k:∀ b u,b≠e→h.get? b=some u→h'.get? b=some u) (heo:∃ u,h'.get? e=some u)
  (new:Yf P w (upd H x o') h' x o'):HOk P w (upd H x o') h':=fun b u q=>by
 have nown:∀ c y,H c=some (.own y)→c≠x:=fun c y r z=>by subst z; rw [r] at mu; exact mu
 have ntup:∀ c xs,H c=some (.tup xs)→c≠x:=fun c xs r z=>by subst z; rw [r] at mu; exact mu
 by_cases hb:b=x
 ·subst hb; rw [Zb] at q; cases q; exact new
 ·rw [Zf hb] at q
  by_cases hbe:b=e
  ·have q':H b=some (.own x):=by
    rcases he with z | z
    ·exact absurd (hbe.trans z) hb
    ·rw [hbe]; exact z
   rw [q] at q'; cases q'
   obtain ⟨v,hv⟩:=heo
   exact ⟨v,by rw [hbe]; exact hv⟩
  ·refine (ok b u q).stay (fun c v hc r=>k c v ?_ r) (fun c r=>by rw [Zf (nown c b r)]; exact r) fun c xs r=>by rw [Zf (ntup c xs r)]; exact r
   rcases hc with rfl | hc
   ·exact hbe
   ·rintro rfl
    rcases he with z | z
    ·exact nown c b hc z
    ·rw [hc] at z; cases z; exact hb rfl
end
structure Un (fs ex:List Addr) (H H':Hp) (h h':Heap):Prop where
 keep:∀ b o,h.get? b=some o→H b=none→b ∉ fs→b ∉ ex→h'.get? b=some o
 slot:∀ b o,h.get? b=some o→H b=none→b∈fs→b ∉ ex→∃ sl,h'.get? b=some { o with slots:=sl }
 free:∀ b o,h.get? b=some o→H b=none→b ∉ ex→H' b=none
 there:∀ b o,h.get? b=some o→b ∉ ex→∃ o',h'.get? b=some o'
 tups:∀ b xs,H b=some (.tup xs)→H' b=some (.tup xs)
 frzs:∀ b o u,H b=some (.frz o u)→H' b=some (.frz o u)
 tbls:∀ b ps,H b=some (.tbl ps)→∃ more,H' b=some (.tbl (ps ++ more))
section
variable {fs fs' ex ex':List Addr} {H H1 H2:Hp} {h h1 h2 h':Heap} {a x e:Addr} {o:HO}
theorem Un.any (u:Un fs ex H H1 h h1) {b:Addr} {ob:Obj} (q:h.get? b=some ob) (n:H b=none) (hx:b ∉ ex):∃ sl,h1.get? b=some { ob with slots:=sl }:=by
 by_cases hb:b∈fs
 ·exact u.slot b ob q n hb hx
 ·exact ⟨ob.slots,u.keep b ob q n hb hx⟩
theorem Un.kept (k:∀ b u,h.get? b=some u→h'.get? b=some u):Un fs ex H H h h' :=
 ⟨fun b ob q _ _ _=>k b ob q,fun b ob q _ _ _=>⟨ob.slots,k b ob q⟩,fun _ _ _ n _=>n,fun b ob q _=>⟨ob,k b ob q⟩,fun _ _ q=>q,fun _ _ _ q=>q,fun _ ps q=>⟨#[],by rw [q]; simp⟩⟩
theorem Un.refl:Un fs ex H H h h:=Un.kept fun _ _ q=>q
theorem Un.laid (k:∀ b u,h.get? b=some u→h'.get? b=some u) (hp:h.objs.size≤a) (hn:H a=none):Un fs ex H (upd H a o) h h' where
 keep:=fun b u q _ _ _=>k b u q
 slot:=fun b u q _ _ _=>⟨u.slots,k b u q⟩
 free:=fun b u q n _=>by rw [Zf (Nat.ne_of_lt (Nat.lt_of_lt_of_le (Heap.lt_size q) hp))]; exact n
 there:=fun b u q _=>⟨u,k b u q⟩
 tups:=fun b xs q=>by rw [Zf (Zk q hn)]; exact q
 frzs:=fun b u xs q=>by rw [Zf (Zk q hn)]; exact q
 tbls:=fun b ps q=>⟨#[],by rw [Zf (Zk q hn),q]; simp⟩
theorem Un.write (mu:Mut (H x)) (he:e=x∨H e=some (.own x)) (k:∀ b u,b≠e→h.get? b=some u→h'.get? b=some u) (heo:∃ u,h'.get? e=some u):Un fs ex H (upd H x o) h h':=by
 have hx:∀ b,H b=none→b≠x:=fun b n z=>by subst z; rw [n] at mu; exact mu
 have hb:∀ b,H b=none→b≠e:=fun b n z=>by
  subst z
  rcases he with r | r
  ·exact hx b n r
  ·rw [n] at r; cases r
 have hm:∀ b u,H b=some u→¬ Mut (some u)→b≠x:=fun b u q nm z=>by subst z; rw [q] at mu; exact nm mu
 refine ⟨fun b u q n _ _=>k b u (hb b n) q,fun b u q n _ _=>⟨u.slots,k b u (hb b n) q⟩,fun b u q n _=>by rw [Zf (hx b n)]; exact n,fun b u q _=>?_,
  fun b xs q=>by rw [Zf (hm b _ q fun z=>z)]; exact q,fun b u xs q=>by rw [Zf (hm b _ q fun z=>z)]; exact q,fun b ps q=>⟨#[],by rw [Zf (hm b _ q fun z=>z),q]; simp⟩⟩
 by_cases hbe:b=e
 ·subst hbe; exact heo
 ·exact ⟨u,k b u hbe q⟩
end
noncomputable def trk (h:Heap) (H:Hp):List Addr:=(List.range h.objs.size).filter fun a=>(H a).isSome
noncomputable def hidT (h:Heap) (H:Hp):Heap:=PySem.W.hideAll h (trk h H)
theorem Zgy (h:Heap) (H:Hp):(hidT h H).objs.size=h.objs.size:=PySem.W.hideAll_size _ _
theorem Zi1 {h:Heap} {H:Hp} {b:Addr} {o:Obj} (e:h.get? b=some o) (n:H b=none):(hidT h H).get? b=some o :=
 PySem.W.hideAll_get _ e fun hm=>by
  have q:(H b).isSome=true:=(List.mem_filter.mp hm).2
  rw [n] at q; simp at q
theorem Zk2 {h:Heap} {H:Hp} {b:Addr} {o:Obj} (e:(hidT h H).get? b=some o):h.get? b=some o∧H b=none:=by
 have e':h.get? b=some o:=PySem.W.of_hideAll (trk h H) e
 refine ⟨e',?_⟩
 cases q:H b with
 | none=>rfl
 | some x =>
  have hm:b∈trk h H:=List.mem_filter.mpr ⟨List.mem_range.mpr (Heap.lt_size e'),by simp [q]⟩
  have z:(hidT h H).get? b=none:=PySem.W.hideAll_none (trk h H) hm
  rw [z] at e; cases e
noncomputable def Zlu (g h:Heap) (L:Addr):List (Addr × Obj):=(List.range h.objs.size).filterMap fun a=>if a=L∨(g.get? a).isSome=true then none else (h.get? a).map fun o=>(a,o)
noncomputable def rest (g h:Heap) (L d:Addr):List (Addr × Obj):=(Zlu g h L).filter fun p=>decide (p.1≠d)
end L2
namespace L2
open PySem PySem.Spec PyProof.Rows
structure Mod (K:PySem.W.Frag) (mg:Str→Option Value) (base:Heap):Prop where
 kin:K.In base
 glob:base.Ns mainGlobals mg
 blt:∃ mb,base.Ns builtinsNs mb∧∀ x:Str,x≠"__name__"→mb x=bootBuiltins x
 nolimit:base.NoLimit
structure Cx where
 prog:Program
 w:World
 K:PySem.W.Frag
 mg:Str→Option Value
 base:Heap
 A:Around
 N:List Str
 s₀:Shared
 H₀:Hp
 env:Env
 outer:List Env
 stack:List Env
 ex:List Addr
 fn:Str→Bool
 calm:Bool
 pn:List (Addr × Obj)
 xe:Value→Shared→Prop
noncomputable def frs (l:List Env):List Addr:=l.filterMap (·.frame)
noncomputable abbrev Cx.fs (X:Cx):List Addr:=frs X.outer
noncomputable def Vis (sc:Scope) (x:Str):Prop:=sc.names.lookup x=some .local∨sc.names.lookup x=some .cell∨sc.names.lookup x=some .free
noncomputable def Loc (sc:Scope) (x:Str):Prop:=sc.names.lookup x=some .local∨sc.names.lookup x=some .cell
noncomputable def Look (env:Env) (h:Heap) (m:Str→Option Value) (x:Str) (u:Value):Prop :=
 (env.kindOf x=some .local∧m x=some u)∨((env.kindOf x=some .cell∨env.kindOf x=some .free)∧∃ c,env.cells.lookup x=some c∧h.IsCell c (some u))
structure Cx.Ok (X:Cx):Prop where
 mod:Mod X.K X.mg X.base
 kind:X.env.scope.kind=.function
 glob:X.env.globals=mainGlobals
 blt:X.env.builtins=builtinsNs
 above:X.s₀.heap.objs.size≤X.env.locals
 inj:∀ x y c,X.env.cells.lookup x=some c→X.env.cells.lookup y=some c→x=y
 has:∀ x,(X.env.kindOf x=some .cell∨X.env.kindOf x=some .free)→∃ c,X.env.cells.lookup x=some c
 cab:∀ x c,X.fn x=true→X.env.cells.lookup x=some c→X.s₀.heap.objs.size≤c
 hd:X.calm=true→X.A.handled=none
 frames:X.A.frames=some X.stack
 stk:X.stack=X.outer∨(X.stack=X.env :: X.outer∧X.env.frame=some X.env.locals)
 exf:∀ b∈X.ex,b≠X.env.locals∧∀ x c,X.env.cells.lookup x=some c→c≠b
 bs:∀ b o,X.base.get? b=some o→X.s₀.heap.get? b=some o∧X.H₀ b=none
 bsz:X.base.objs.size≤X.s₀.heap.objs.size
 noex:∀ b o,X.base.get? b=some o→b ∉ X.ex
 exfs:∀ b∈X.ex,b ∉ X.fs
 funs:X.s₀.heap.FunFrames X.base X.outer
 frf:∀ b∈X.fs,X.H₀ b=none
structure Inv (X:Cx) (pins:List (Addr × Obj)) (σ:List (Option V)) (H:Hp) (s:Shared):Prop where
 ok:X.Ok
 os:s.os=X.s₀.os
 bare:AllBare s.gens
 base:Un X.fs X.ex X.H₀ H X.s₀.heap s.heap
 loc:∃ m,s.heap.Ns X.env.locals m∧∀ (i:Nat) (x:Str) (v:V),X.N[i]?=some x→σ[i]?=some (some v)→Vis X.env.scope x→∃ u,RelV v u∧Look X.env s.heap m x u
 cell:∀ x c,X.env.cells.lookup x=some c→∃ v,s.heap.IsCell c v
 free:H X.env.locals=none
 freeC:∀ x c,X.env.cells.lookup x=some c→H c=none
 pin:∀ p∈X.pn ++ pins,s.heap.get? p.1=some p.2∧H p.1=none∧p.1≠X.env.locals∧p.1 ∉ X.fs∧∀ v,p.2.data≠.cell v
 hok:HOk X.prog X.w H s.heap
 len:σ.length=X.N.length
section
variable {X:Cx} {pins:List (Addr × Obj)} {σ:List (Option V)} {H H':Hp} {s:Shared} {h':Heap}
theorem Cx.Ok.nofr (ok:X.Ok) {b:Addr} {o:Obj} (e:X.base.get? b=some o):b ∉ X.fs:=fun hb=>by
 have:=(ok.funs.mem hb).1
 rw [e] at this; cases this
theorem Inv.bs (I:Inv X pins σ H s):∀ b o,X.base.get? b=some o→s.heap.get? b=some o∧H b=none:=fun b o e =>
 ⟨I.base.keep b o (I.ok.bs b o e).1 (I.ok.bs b o e).2 (I.ok.nofr e) (I.ok.noex b o e),I.base.free b o (I.ok.bs b o e).1 (I.ok.bs b o e).2 (I.ok.noex b o e)⟩
theorem Inv.bk (I:Inv X pins σ H s):∀ b o,X.base.get? b=some o→s.heap.get? b=some o:=fun b o e=>(I.bs b o e).1
theorem Inv.mod (I:Inv X pins σ H s):Mod X.K X.mg X.base:=I.ok.mod
theorem Inv.kIn (I:Inv X pins σ H s):X.K.In s.heap:=I.ok.mod.kin.keeps I.bk
theorem Inv.lt (I:Inv X pins σ H s):X.env.locals < s.heap.objs.size:=let ⟨_,hn,_⟩:=I.loc; hn.lt
theorem Inv.sz (I:Inv X pins σ H s):X.s₀.heap.objs.size≤s.heap.objs.size:=Nat.le_trans I.ok.above (Nat.le_of_lt I.lt)
theorem Inv.nofs (I:Inv X pins σ H s) {a:Addr} (h:s.heap.objs.size≤a):a ∉ X.fs:=fun hb=>by
 obtain ⟨_,o,ho,_⟩:=I.ok.funs.mem hb
 exact absurd (Nat.lt_of_lt_of_le (Heap.lt_size ho) (Nat.le_trans I.sz h)) (Nat.lt_irrefl _)
theorem Inv.cne (I:Inv X pins σ H s):∀ x c,X.env.cells.lookup x=some c→c≠X.env.locals:=fun x c e z=>by
 obtain ⟨v,o,ho,hd⟩:=I.cell x c e
 obtain ⟨m,⟨o',es,ep,ho',hd',_⟩,_⟩:=I.loc
 rw [z,ho'] at ho; cases ho; rw [hd'] at hd; cases hd
theorem Inv.funs (I:Inv X pins σ H s):s.heap.FunFrames X.base X.outer:=by
 have all:∀ (l:List Env),(∀ b∈frs l,b∈X.fs)→X.s₀.heap.FunFrames X.base l→s.heap.FunFrames X.base l:=by
  intro l
  induction l with
  | nil=>intro _ _; trivial
  | cons env r ih =>
   intro hs hl
   obtain ⟨hk,⟨L,o,hf,hn,ho,hd⟩,hr⟩:=hl
   have hL:L∈X.fs:=hs L (by unfold frs; rw [List.filterMap_cons,hf]; exact List.mem_cons_self)
   obtain ⟨sl,e⟩:=I.base.slot L o ho (I.ok.frf L hL) hL fun z=>I.ok.exfs L z hL
   exact ⟨hk,⟨L,_,hf,hn,e,hd⟩,ih (fun b hb=>hs b (by unfold frs; rw [List.filterMap_cons,hf]; exact List.mem_cons_of_mem _ hb)) hr⟩
 exact all X.outer (fun _ hb=>hb) I.ok.funs
theorem Inv.stack (I:Inv X pins σ H s):s.heap.FunFrames X.base X.stack:=by
 rcases I.ok.stk with e | ⟨e,hf⟩
 ·rw [e]; exact I.funs
 ·rw [e]
  obtain ⟨m,hn,_⟩:=I.loc
  refine .cons (by rw [I.ok.kind]; decide) hf hn ?_ I.funs
  exact Heap.get?_none_of_le (Nat.le_trans I.ok.bsz I.ok.above)
theorem Inv.stkSub (I:Inv X pins σ H s):∀ b∈frs X.stack,b∈X.env.locals :: X.fs:=fun b hb=>by
 rcases I.ok.stk with e | ⟨e,hf⟩
 ·rw [e] at hb; exact List.mem_cons_of_mem _ hb
 ·rw [e] at hb
  unfold frs at hb
  rw [List.filterMap_cons,hf] at hb
  exact hb
theorem Inv.stkFree (I:Inv X pins σ H s):∀ b∈frs X.stack,H b=none:=fun b hb=>by
 rcases List.mem_cons.mp (I.stkSub b hb) with e | hb
 ·rw [e]; exact I.free
 ·obtain ⟨_,o,ho,_⟩:=I.ok.funs.mem hb
  exact I.base.free b o ho (I.ok.frf b hb) fun z=>I.ok.exfs b z hb
theorem Inv.step {g':Array GenState} {t':Nat} {d':Drawn} {ch:List Addr} (I:Inv X pins σ H s)
  (hch:∀ b∈ch,(b∈X.ex∨X.s₀.heap.objs.size≤b)∧b≠X.env.locals∧(∀ x c,X.env.cells.lookup x=some c→c≠b)∧∀ p∈X.pn ++ pins,p.1≠b)
  (keep:∀ b o,b≠X.env.locals→b ∉ X.fs→b ∉ ch→s.heap.get? b=some o→H b=none→h'.get? b=some o)
  (slot:∀ b o,b≠X.env.locals→b∈X.fs→b ∉ ch→s.heap.get? b=some o→H b=none→∃ sl,h'.get? b=some { o with slots:=sl }) (free:∀ b o,b ∉ ch→s.heap.get? b=some o→H b=none→H' b=none)
  (there:∀ b o,b ∉ ch→s.heap.get? b=some o→∃ o',h'.get? b=some o')
  (tups:∀ b xs,H b=some (.tup xs)→H' b=some (.tup xs)) (frzs:∀ b o u,H b=some (.frz o u)→H' b=some (.frz o u)) (tbls:∀ b ps,H b=some (.tbl ps)→∃ more,H' b=some (.tbl (ps ++ more)))
  (ns:∀ m,s.heap.Ns X.env.locals m→h'.Ns X.env.locals m) (hok:HOk X.prog X.w H' h') (hg:AllBare g') :
  Inv X pins σ H' { s with heap:=h',gens:=g',drawn:=d',toks:=t' }:=by
 have neL:∀ b o,X.s₀.heap.get? b=some o→b≠X.env.locals:=fun b o e=>Nat.ne_of_lt (Nat.lt_of_lt_of_le (Heap.lt_size e) I.ok.above)
 have neC:∀ b o,X.s₀.heap.get? b=some o→b ∉ X.ex→b ∉ ch:=fun b o e hx hb=>by
  rcases (hch b hb).1 with z | z
  ·exact hx z
  ·exact absurd (Nat.lt_of_lt_of_le (Heap.lt_size e) z) (Nat.lt_irrefl _)
 have cellK:∀ x c,X.env.cells.lookup x=some c→∀ v,s.heap.IsCell c v→h'.IsCell c v:=fun x c e v ⟨o,ho,hd⟩=>by
  have nch:c ∉ ch:=fun z=>(hch c z).2.2.1 x c e rfl
  by_cases hc:c∈X.fs
  ·obtain ⟨sl,q⟩:=slot c o (I.cne x c e) hc nch ho (I.freeC x c e)
   exact ⟨_,q,hd⟩
  ·exact ⟨o,keep c o (I.cne x c e) hc nch ho (I.freeC x c e),hd⟩
 refine ⟨I.ok,I.os,hg,⟨fun b o e n hb hx=>?_,fun b o e n hb hx=>?_,fun b o e n hx=>?_,fun b o e hx=>?_,fun b xs e=>tups b xs (I.base.tups b xs e),fun b o xs e=>frzs b o xs (I.base.frzs b o xs e),fun b ps e=>?_⟩,?_,fun x c e=>?_,?_,fun x c e=>?_,fun p hp=>?_,hok,I.len⟩
 ·exact keep b o (neL b o e) hb (neC b o e hx) (I.base.keep b o e n hb hx) (I.base.free b o e n hx)
 ·obtain ⟨sl,e1⟩:=I.base.slot b o e n hb hx
  obtain ⟨sl',e2⟩:=slot b _ (neL b o e) hb (neC b o e hx) e1 (I.base.free b o e n hx)
  exact ⟨sl',e2⟩
 ·obtain ⟨o',e1⟩:=I.base.there b o e hx
  exact free b o' (neC b o e hx) e1 (I.base.free b o e n hx)
 ·obtain ⟨o',e1⟩:=I.base.there b o e hx
  exact there b o' (neC b o e hx) e1
 ·obtain ⟨m1,e1⟩:=I.base.tbls b ps e
  obtain ⟨m2,e2⟩:=tbls b _ e1
  exact ⟨m1 ++ m2,by rw [e2,Array.append_assoc]⟩
 ·obtain ⟨m,hn,hl⟩:=I.loc
  refine ⟨m,ns m hn,fun i x v e1 e2 e3=>?_⟩
  obtain ⟨u,r,l⟩:=hl i x v e1 e2 e3
  refine ⟨u,r,?_⟩
  rcases l with l | ⟨k,c,e,z⟩
  ·exact .inl l
  ·exact .inr ⟨k,c,e,cellK x c e _ z⟩
 ·obtain ⟨v,z⟩:=I.cell x c e
  exact ⟨v,cellK x c e v z⟩
 ·obtain ⟨m,⟨o,_,_,ho,_⟩,_⟩:=I.loc
  exact free _ o (fun z=>(hch _ z).2.1 rfl) ho I.free
 ·obtain ⟨v,o,ho,hd⟩:=I.cell x c e
  exact free c o (fun z=>(hch c z).2.2.1 x c e rfl) ho (I.freeC x c e)
 ·obtain ⟨e,n,ne,nf,d⟩:=I.pin p hp
  have nch:p.1 ∉ ch:=fun z=>(hch p.1 z).2.2.2 p hp rfl
  exact ⟨keep p.1 p.2 ne nf nch e n,free p.1 p.2 nch e n,ne,nf,d⟩
theorem Inv.un {t':Nat} (I:Inv X pins σ H s) (u:Un X.fs [] H H' s.heap h') (hok:HOk X.prog X.w H' h'):Inv X pins σ H' { s with heap:=h',toks:=t' }:=by
 obtain ⟨m,⟨o,es,ep,ho,r⟩,_⟩:=id I.loc
 obtain ⟨sl,hL⟩:=u.any ho I.free (by simp)
 exact I.step (g':=s.gens) (d':=s.drawn) (ch:=[]) (fun _ z=>nomatch z) (fun b o _ hb _ e n=>u.keep b o e n hb (by simp)) (fun b o _ hb _ e n=>u.slot b o e n hb (by simp)) (fun b o _ e n=>u.free b o e n (by simp)) (fun b o _ e=>u.there b o e (by simp)) u.tups u.frzs u.tbls (fun m' hm=>by
  obtain ⟨o',es',ep',ho',r'⟩:=hm
  rw [ho] at ho'; cases ho'
  exact ⟨_,es',ep',hL,r'⟩) hok I.bare
theorem Inv.call {g':Array GenState} {t':Nat} {d':Drawn} {ch:List Addr} (I:Inv X pins σ H s) (u:Un (frs X.stack) ch H H' s.heap h') (hok:HOk X.prog X.w H' h') (hg:AllBare g')
  (hch:∀ b∈ch,(b∈X.ex∨X.s₀.heap.objs.size≤b)∧b≠X.env.locals∧(∀ x c,X.env.cells.lookup x=some c→c≠b)∧∀ p∈X.pn ++ pins,p.1≠b) :
  Inv X pins σ H' { s with heap:=h',gens:=g',drawn:=d',toks:=t' }:=by
 obtain ⟨m,⟨o,es,ep,ho,r⟩,_⟩:=id I.loc
 obtain ⟨sl,hL⟩:=u.any ho I.free fun z=>(hch _ z).2.1 rfl
 exact I.step (ch:=ch) hch (fun b o hL hb hc e n=>u.keep b o e n (fun z=>(List.mem_cons.mp (I.stkSub b z)).elim hL hb) hc) (fun b o _ _ hc e n=>u.any e n hc) (fun b o hc e n=>u.free b o e n hc) (fun b o hc e=>u.there b o e hc) u.tups u.frzs u.tbls (fun m' hm=>by
  obtain ⟨o',es',ep',ho',r'⟩:=hm
  rw [ho] at ho'; cases ho'
  exact ⟨_,es',ep',hL,r'⟩) hok hg
theorem Inv.turned {t':Nat} {it:Addr} (I:Inv X pins σ H s) (k:∀ b o,b≠it→s.heap.get? b=some o→h'.get? b=some o) (hn:H it=none) (hL:it≠X.env.locals)
  (h1:it∈X.ex∨X.s₀.heap.objs.size≤it) (h2:∀ x c,X.env.cells.lookup x=some c→c≠it) (h3:∀ p∈X.pn ++ pins,p.1≠it):Inv X pins σ H { s with heap:=h',toks:=t' }:=by
 have nit:∀ b u,H b=some u→b≠it:=fun b u e z=>by rw [z,hn] at e; cases e
 refine I.step (g':=s.gens) (d':=s.drawn) (ch:=[it]) (fun b hb=>?_) (fun b o _ _ hc e _=>k b o (fun z=>hc (by simp [z])) e) (fun b o _ _ hc e _=>⟨o.slots,k b o (fun z=>hc (by simp [z])) e⟩) (fun _ _ _ _ n=>n)
  (fun b o hc e=>⟨o,k b o (fun z=>hc (by simp [z])) e⟩) (fun _ _ e=>e) (fun _ _ _ e=>e) (fun b ps e=>⟨#[],by rw [e]; simp⟩) (fun m hm=>?_) (fun b u e=>?_) I.bare
 ·have e:b=it:=by simpa using hb
  subst e
  exact ⟨h1,hL,h2,h3⟩
 ·obtain ⟨o,es,ep,ho,r⟩:=hm
  exact ⟨o,es,ep,k _ o (Ne.symm hL) ho,r⟩
 ·refine (I.hok b u e).stay (fun c v hc q=>k c v ?_ q) (fun _ q=>q) fun _ _ q=>q
  rcases hc with z | z
  ·rw [z]; exact nit b u e
  ·exact nit c _ z
theorem Inv.tok (I:Inv X pins σ H s) (t:Nat):Inv X pins σ H { s with toks:=t }:=I.un (h':=s.heap) (t':=t) Un.refl I.hok
theorem Inv.kept {t':Nat} (I:Inv X pins σ H s) (k:∀ b u,s.heap.get? b=some u→h'.get? b=some u):Inv X pins σ H { s with heap:=h',toks:=t' }:=I.un (Un.kept k) (I.hok.kept k)
theorem Inv.laid {a:Addr} {o:HO} {t':Nat} (I:Inv X pins σ H s) (k:∀ b u,s.heap.get? b=some u→h'.get? b=some u) (hp:s.heap.objs.size≤a) (new:Yf X.prog X.w (upd H a o) h' a o) :
  Inv X pins σ (upd H a o) { s with heap:=h',toks:=t' }:=I.un (Un.laid k hp (I.hok.fresh hp)) (I.hok.laid k hp new)
theorem Inv.write {x e:Addr} {o:HO} {t':Nat} (I:Inv X pins σ H s) (mu:Mut (H x)) (he:e=x∨H e=some (.own x)) (k:∀ b u,b≠e→s.heap.get? b=some u→h'.get? b=some u) (heo:∃ u,h'.get? e=some u)
  (new:Yf X.prog X.w (upd H x o) h' x o):Inv X pins σ (upd H x o) { s with heap:=h',toks:=t' }:=I.un (Un.write mu he k heo) (I.hok.write mu he k heo new)
theorem Inv.pins_of {pins':List (Addr × Obj)} (I:Inv X pins σ H s) (h:∀ p∈pins',s.heap.get? p.1=some p.2∧H p.1=none∧p.1≠X.env.locals∧p.1 ∉ X.fs∧∀ v,p.2.data≠.cell v):Inv X pins' σ H s :=
 ⟨I.ok,I.os,I.bare,I.base,I.loc,I.cell,I.free,I.freeC,fun p hp=>(List.mem_append.mp hp).elim (fun z=>I.pin p (List.mem_append_left _ z)) (h p),I.hok,I.len⟩
theorem Zbv {N:List Str} (hN:N.Nodup) {i j:Nat} {x:Str} (a:N[i]?=some x) (b:N[j]?=some x):i=j:=by
 obtain ⟨h1,e1⟩:=List.getElem?_eq_some_iff.mp a
 obtain ⟨h2,e2⟩:=List.getElem?_eq_some_iff.mp b
 exact (List.getElem_inj hN).mp (e1.trans e2.symm)
theorem Ug {M:Model} {A:Around} {E:Value→Shared→Prop} {i:Nat} {x:Str} {v:V} {u:Value} {Q:Unit→Shared→Prop} (I:Inv X pins σ H s) (hN:X.N.Nodup) (hi:X.N[i]?=some x) (hx:Loc X.env.scope x) (r:RelV v u)
  (h:∀ s',Inv X pins (σ.set i (some v)) H s'→(∃ a,Heap.SameBut a s.heap s'.heap∧(a=X.env.locals∨X.env.cells.lookup x=some a))→Q () s') (hf:X.fn x=true∨X.env.scope.names.lookup x=some .local:=by first | exact .inl rfl | exact .inr rfl | assumption):wpAny M A (storeName X.env x u) Q E s:=by
 obtain ⟨m,hn,hl⟩:=id I.loc
 have hcls:(X.env.scope.kind == .class || (X.env.scope.kind == .module && X.env.locals != X.env.globals))=false:=by rw [I.ok.kind]; rfl
 have hiσ:i < σ.length:=by rw [I.len]; exact (List.getElem?_eq_some_iff.mp hi).1
 have cne:=I.cne
 have tracked:∀ {a:Addr} {h':Heap},(∃ o,s.heap.get? a=some o∧H a=none)→Heap.SameBut a s.heap h'→HOk X.prog X.w H h':=fun {a h'} ha hs b ob e=>by
  obtain ⟨_,_,hfree⟩:=ha
  refine (I.hok b ob e).stay (fun c w' hc q=>(hs.2 c ?_).trans q) (fun _ q=>q) fun _ _ q=>q
  rintro rfl
  rcases hc with rfl | hc
  ·rw [hfree] at e; cases e
  ·rw [hfree] at hc; cases hc
 rcases hx with hk | hk
 ·refine wpAny_storeName_local hk hn (fun h' hn' hs=>?_) hcls
  obtain ⟨oL,_,_,hoL,_⟩:=id hn
  refine h _ ⟨I.ok,I.os,I.bare,⟨fun b o e n hb hx=>?_,fun b o e n hb hx=>?_,I.base.free,fun b o e hx=>?_,I.base.tups,I.base.frzs,I.base.tbls⟩,⟨_,hn',fun j y v' e1 e2 e3=>?_⟩,fun y c e=>?_,I.free,I.freeC,fun p hp=>?_,tracked ⟨oL,hoL,I.free⟩ hs,by simpa using I.len⟩ ⟨_,hs,.inl rfl⟩
  ·exact (hs.2 b (Nat.ne_of_lt (Nat.lt_of_lt_of_le (Heap.lt_size e) I.ok.above))).trans (I.base.keep b o e n hb hx)
  ·obtain ⟨sl,e1⟩:=I.base.slot b o e n hb hx
   exact ⟨sl,(hs.2 b (Nat.ne_of_lt (Nat.lt_of_lt_of_le (Heap.lt_size e) I.ok.above))).trans e1⟩
  ·obtain ⟨o',e1⟩:=I.base.there b o e hx
   exact ⟨o',(hs.2 b (Nat.ne_of_lt (Nat.lt_of_lt_of_le (Heap.lt_size e) I.ok.above))).trans e1⟩
  ·by_cases hj:j=i
   ·subst hj
    rw [hi] at e1; cases e1
    rw [List.getElem?_set_self hiσ] at e2
    cases e2
    exact ⟨u,r,.inl ⟨hk,by simp⟩⟩
   ·rw [List.getElem?_set_ne (Ne.symm hj)] at e2
    obtain ⟨u',r',q⟩:=hl j y v' e1 e2 e3
    refine ⟨u',r',?_⟩
    rcases q with ⟨k,e⟩ | ⟨k,c,e,z⟩
    ·refine .inl ⟨k,?_⟩
     have:y≠x:=fun e=>hj (Zbv hN e1 (e ▸ hi))
     simp [this,e]
    ·exact .inr ⟨k,c,e,z.sameBut hs (cne y c e)⟩
  ·obtain ⟨w',z⟩:=I.cell y c e
   exact ⟨w',z.sameBut hs (cne y c e)⟩
  ·obtain ⟨e,n,ne,nf,d⟩:=I.pin p hp
   exact ⟨(hs.2 p.1 ne).trans e,n,ne,nf,d⟩
 ·have hfn:X.fn x=true:=by
   rcases hf with z | z
   ·exact z
   ·rw [z] at hk; cases hk
  obtain ⟨c,hc⟩:=I.ok.has x (.inl hk)
  obtain ⟨w',z⟩:=I.cell x c hc
  refine wpAny_storeName_cell I.ok.kind hk hc z (fun h' hc' hs=>?_)
  obtain ⟨oc,hoc,hocd⟩:=id z
  refine h { s with heap:=h' } ⟨I.ok,I.os,I.bare,⟨fun b o e n hb hx=>?_,fun b o e n hb hx=>?_,I.base.free,fun b o e hx=>?_,I.base.tups,I.base.frzs,I.base.tbls⟩,⟨m,hn.sameBut hs (Ne.symm (cne x c hc)),fun j y v' e1 e2 e3=>?_⟩,fun y c' e=>?_,I.free,I.freeC,fun p hp=>?_,tracked ⟨oc,hoc,I.freeC x c hc⟩ hs,by simpa using I.len⟩ ⟨c,hs,.inr hc⟩
  ·exact (hs.2 b (Nat.ne_of_lt (Nat.lt_of_lt_of_le (Heap.lt_size e) (I.ok.cab x c hfn hc)))).trans (I.base.keep b o e n hb hx)
  ·obtain ⟨sl,e1⟩:=I.base.slot b o e n hb hx
   exact ⟨sl,(hs.2 b (Nat.ne_of_lt (Nat.lt_of_lt_of_le (Heap.lt_size e) (I.ok.cab x c hfn hc)))).trans e1⟩
  ·obtain ⟨o',e1⟩:=I.base.there b o e hx
   exact ⟨o',(hs.2 b (Nat.ne_of_lt (Nat.lt_of_lt_of_le (Heap.lt_size e) (I.ok.cab x c hfn hc)))).trans e1⟩
  ·by_cases hj:j=i
   ·subst hj
    rw [hi] at e1; cases e1
    rw [List.getElem?_set_self hiσ] at e2
    cases e2
    exact ⟨u,r,.inr ⟨.inl hk,c,hc,hc'⟩⟩
   ·rw [List.getElem?_set_ne (Ne.symm hj)] at e2
    obtain ⟨u',r',q⟩:=hl j y v' e1 e2 e3
    refine ⟨u',r',?_⟩
    rcases q with q | ⟨k,c',e,z'⟩
    ·exact .inl q
    ·refine .inr ⟨k,c',e,z'.sameBut hs ?_⟩
     rintro rfl
     exact hj (Zbv hN e1 (I.ok.inj _ _ _ e hc ▸ hi))
  ·by_cases hcc:c'=c
   ·subst hcc; exact ⟨_,hc'⟩
   ·obtain ⟨w2,z2⟩:=I.cell y c' e
    exact ⟨w2,z2.sameBut hs hcc⟩
  ·obtain ⟨e,n,ne,nf,d⟩:=I.pin p hp
   refine ⟨(hs.2 p.1 ?_).trans e,n,ne,nf,d⟩
   intro q
   rw [q,hoc] at e
   have q':oc=p.2:=Option.some.inj e
   exact d w' (by rw [← q']; exact hocd)
theorem Oz {M:Model} {A:Around} {E:Value→Shared→Prop} {i:Nat} {x:Str} {v:V} {u:Value} {Q:Unit→Shared→Prop} (I:Inv X pins σ H s) (hN:X.N.Nodup) (hi:X.N[i]?=some x) (hx:Loc X.env.scope x) (r:RelV v u)
  (h:∀ s',Inv X pins (σ.set i (some v)) H s'→Q () s') (hf:X.fn x=true∨X.env.scope.names.lookup x=some .local:=by first | exact .inl rfl | exact .inr rfl | assumption):wpAny M A (storeName X.env x u) Q E s :=
 Ug I hN hi hx r (fun s' I' _=>h s' I') hf
theorem Inv.call' {s':Shared} {ch:List Addr} (I:Inv X pins σ H s) (ho:s'.os=s.os) (u:Un (frs X.stack) ch H H' s.heap s'.heap) (hok:HOk X.prog X.w H' s'.heap) (hg:AllBare s'.gens)
  (hch:∀ b∈ch,(b∈X.ex∨X.s₀.heap.objs.size≤b)∧b≠X.env.locals∧(∀ x c,X.env.cells.lookup x=some c→c≠b)∧∀ p∈X.pn ++ pins,p.1≠b):Inv X pins σ H' s':=by
 obtain ⟨h',g',d',t',o'⟩:=s'
 have e:o'=s.os:=ho
 subst e
 exact I.call (g':=g') (t':=t') (d':=d') u hok hg hch
end
noncomputable abbrev XK:=Value→Option Addr→Hp→Prop
noncomputable abbrev St:=List (Option V)
noncomputable abbrev VK:=V→Hp→Prop
noncomputable abbrev TE:=St→Hp→VK→Prop
noncomputable abbrev TT:=St→Hp→(Bool→Hp→Prop)→Prop
noncomputable abbrev TA:=St→Hp→(List V→Hp→Prop)→Prop
structure Ends where
 nx:St→Hp→Prop
 rt:VK
 bk:St→Hp→Prop:=fun _ _=>False
 ct:St→Hp→Prop:=fun _ _=>False
noncomputable abbrev TS:=Ends→St→Hp→Prop
noncomputable def EP (X:Cx) (pins:List (Addr × Obj)) (σ:St) (Q:VK) (u:Value) (s':Shared):Prop:=∃ v H',Inv X pins σ H' s'∧RelV v u∧Q v H'
noncomputable def TP (X:Cx) (pins:List (Addr × Obj)) (σ:St) (Q:Bool→Hp→Prop) (b:Bool) (s':Shared):Prop:=∃ H',Inv X pins σ H' s'∧Q b H'
noncomputable def AP (X:Cx) (pins:List (Addr × Obj)) (σ:St) (Q:List V→Hp→Prop) (us:List Value) (s':Shared):Prop:=∃ vs H',Inv X pins σ H' s'∧Vals vs us∧Q vs H'
noncomputable def SP (X:Cx) (pins:List (Addr × Obj)) (D:Ends) (f:Flow) (s':Shared):Prop :=
 match f with
 | .next=>∃ σ' H',Inv X pins σ' H' s'∧D.nx σ' H'
 | .brk=>∃ σ' H',Inv X pins σ' H' s'∧D.bk σ' H'
 | .cont=>∃ σ' H',Inv X pins σ' H' s'∧D.ct σ' H'
 | .ret u=>∃ v σ' H',Inv X pins σ' H' s'∧RelV v u∧D.rt v H'
noncomputable def PE (X:Cx) (e:Expr) (t:TE):Prop :=
 ∀ (pins:List (Addr × Obj)) (s:Shared) (σ:St) (H:Hp) (Q:VK),Inv X pins σ H s→t σ H Q→wpAny (model X.prog X.w) X.A (eval e X.env) (EP X pins σ Q) X.xe s
noncomputable def PT (X:Cx) (e:Expr) (t:TT):Prop :=
 ∀ (pins:List (Addr × Obj)) (s:Shared) (σ:St) (H:Hp) (Q:Bool→Hp→Prop),Inv X pins σ H s→t σ H Q→wpAny (model X.prog X.w) X.A (isTrue e X.env (eval e X.env)) (TP X pins σ Q) X.xe s
noncomputable def PW (X:Cx) (e:Expr) (t:TT):Prop :=
 ∀ (whole:Sem Value) (pins:List (Addr × Obj)) (s:Shared) (σ:St) (H:Hp) (Q:Bool→Hp→Prop),Inv X pins σ H s→t σ H Q→wpAny (model X.prog X.w) X.A (isTrue e X.env whole) (TP X pins σ Q) X.xe s
theorem PW.pt {X:Cx} {e:Expr} {t:TT} (h:PW X e t):PT X e t:=h _
noncomputable def PA (X:Cx) (es:List Expr) (t:TA):Prop :=
 ∀ (pos:Pos) (pins:List (Addr × Obj)) (s:Shared) (σ:St) (H:Hp) (Q:List V→Hp→Prop),Inv X pins σ H s→t σ H Q→wpAny (model X.prog X.w) X.A (spliced (backTo pos (starEach es X.env))) (AP X pins σ Q) X.xe s
noncomputable def PS (X:Cx) (st:Stmt) (t:TS):Prop :=
 ∀ (pins:List (Addr × Obj)) (s:Shared) (σ:St) (H:Hp) (D:Ends),Inv X pins σ H s→t D σ H→wpAny (model X.prog X.w) X.A (exec st X.env) (SP X pins D) X.xe s
noncomputable def PSs (X:Cx) (st:List Stmt) (t:TS):Prop :=
 ∀ (pins:List (Addr × Obj)) (s:Shared) (σ:St) (H:Hp) (D:Ends),Inv X pins σ H s→t D σ H→wpAny (model X.prog X.w) X.A (execs st X.env) (SP X pins D) X.xe s
theorem thn {α:Type} {t:Sem α} {Q Q':α→Shared→Prop} {M:Model} {A:Around} {E:Value→Shared→Prop} {s:Shared} (h:wpAny M A t Q E s) (hQ:∀ a s,Q a s→Q' a s):wpAny M A t Q' E s:=wpAny_mono h hQ fun _ _ x=>x
end L2
namespace L2
open PySem PySem.Spec PyProof.Rows
section
variable {X:Cx}
noncomputable def tVar (i:Nat):TE:=fun σ H Q=>∃ v,σ[i]?=some (some v)∧Q v H
noncomputable def tC (v:V):TE:=fun _ H Q=>Q v H
theorem Zmp {i:Nat} {x:Str} {pos:Pos} (hN:X.N[i]?=some x) (hv:Vis X.env.scope x) (hd:(x == ("__debug__":Str))=false:=by decide) (hcd:(x == ("__classdict__":Str))=false:=by decide):PE X (.Name x pos) (tVar i):=by
 intro pins s σ H Q I h
 obtain ⟨v,e,h⟩:=h
 obtain ⟨m,hn,hl⟩:=I.loc
 obtain ⟨u,r,l⟩:=hl i x v hN e hv
 have fin:EP X pins σ Q u s:=⟨v,H,I,r,h⟩
 rcases l with ⟨hk,hm⟩ | ⟨hk,c,hc,hcell⟩
 ·exact wpAny_Name (wpAny_loadName_local I.ok.kind hk hn hm fin) hd
 ·rcases hk with hk | hk
  ·exact wpAny_Name (wpAny_loadName_cell I.ok.kind hk hc hcell fin) hd
  ·exact wpAny_Name (wpAny_loadName_free I.ok.kind hk hc hcell fin hcd) hd
theorem Zd {i j pos}:PE X (.Constant (.int i) j pos) (tC (.int i)):=fun _ _ _ H _ I h=>wpAny_Constant_int ⟨.int i,H,I.tok _,⟨_,rfl⟩,h⟩
theorem Xv {b j pos}:PE X (.Constant (.bool b) j pos) (tC (.bl b)):=fun _ _ _ H _ I h=>Constant_bool ⟨.bl b,H,I,rfl,h⟩
theorem W3 {j pos}:PE X (.Constant .none j pos) (tC .non):=fun _ _ _ H _ I h=>Constant_none ⟨.non,H,I,rfl,h⟩
theorem Xp {x j pos}:PE X (.Constant (.str x) j pos) (tC (.str x)):=fun _ _ _ H _ I h=>Calls.Constant_str ⟨.str x,H,I.tok _,⟨_,rfl⟩,h⟩
noncomputable def Gl (X:Cx) (x:Str):Prop:=X.env.kindOf x=some .globalImplicit
theorem Vn {E:Value→Shared→Prop} {pins:List (Addr × Obj)} {s:Shared} {σ:St} {H:Hp} {x:Str} {u:Value} {pos:Pos} {Q:Value→Shared→Prop} (I:Inv X pins σ H s) (hg:Gl X x) (hm:X.mg x=some u) (h:Q u s)
  (hd:(x == ("__debug__":Str))=false:=by decide):wpAny (model X.prog X.w) X.A (eval (.Name x pos) X.env) Q E s :=
 Calls.Name_function_global I.ok.kind hg (Calls.loadGlobal_global (by rw [I.ok.glob]; exact I.mod.glob.keeps I.bk) hm h) hd
theorem X2 {E:Value→Shared→Prop} {pins:List (Addr × Obj)} {s:Shared} {σ:St} {H:Hp} {x:Str} {u:Value} {pos:Pos} {Q:Value→Shared→Prop} (I:Inv X pins σ H s) (hg:Gl X x) (hm:X.mg x=none) (hv:bootBuiltins x=some u) (h:Q u s)
  (hn:x≠"__name__":=by decide) (hd:(x == ("__debug__":Str))=false:=by decide):wpAny (model X.prog X.w) X.A (eval (.Name x pos) X.env) Q E s:=by
 obtain ⟨mb,h1,h2⟩:=I.mod.blt
 exact Calls.Name_function_global I.ok.kind hg (Calls.loadGlobal_builtin (by rw [I.ok.glob]; exact I.mod.glob.keeps I.bk) hm (by rw [I.ok.blt]; exact h1.keeps I.bk) ((h2 x hn).trans hv) h) hd
theorem Zdm {x:Str} {v:V} {u:Value} {pos:Pos} (hg:Gl X x) (hm:X.mg x=some u) (r:RelV v u) (hd:(x == ("__debug__":Str))=false:=by decide):PE X (.Name x pos) (tC v) :=
 fun _ _ _ H _ I h=>Vn I hg hm ⟨v,H,I,r,h⟩ hd
theorem Vk {x:Str} {v:V} {u:Value} {pos:Pos} (hg:Gl X x) (hm:X.mg x=none) (hv:bootBuiltins x=some u) (r:RelV v u) (hn:x≠"__name__":=by decide) (hd:(x == ("__debug__":Str))=false:=by decide):PE X (.Name x pos) (tC v) :=
 fun _ _ _ H _ I h=>X2 I hg hm hv ⟨v,H,I,r,h⟩ hn hd
variable {a b:Expr} {ta tb:TE} {pos:Pos}
noncomputable def PC (X:Cx) (op:CmpOp) (a b:Expr) (t:TE):Prop :=
 ∀ (pins:List (Addr × Obj)) (s:Shared) (σ:St) (H:Hp) (Q:VK),Inv X pins σ H s→t σ H Q →
  wpAny (model X.prog X.w) X.A (eval a X.env) (fun v s₁=>wpAny (model X.prog X.w) X.A (eval b X.env) (fun u s₂=>wpAny (model X.prog X.w) X.A (compareOp op v u) (EP X pins σ Q) X.xe s₂) X.xe s₁) X.xe s
noncomputable def tB (t:TE):TT:=fun σ H Q=>t σ H fun x H1=>∃ c,x=.bl c∧Q c H1
theorem Zf0 {op:CmpOp} {t:TE} (h:PC X op a b t) (h1:behindInMarks op b=false:=by first | exact nobehind _ (by decide) (by decide) | rfl):PT X (.Compare a [op] [b] pos) (tB t):=by
 intro pins s σ H Q I hw
 refine wpAny_isTrue_Compare1 (thn (h pins s σ H _ I hw) fun v s1 h1=>thn h1 fun u s2 h2=>thn h2 fun c s3 zz0=>?_) h1
 obtain ⟨x,H1,I1,r1,q1⟩:=zz0
 obtain ⟨d,rfl,q⟩:=q1
 cases r1
 exact wpAny_truthy_bool ⟨H1,I1,q⟩
theorem Xy {e:Expr} {t:TE} (h:PE X e t) (he:∀ whole,isTrue e X.env whole=(do let v ← whole; standAt e.pos; holding [v] (truthy v)):=by intro _; rfl):PT X e (tB t):=by
 intro pins s σ H Q I hw
 refine isTrue_plain (thn (h pins s σ H _ I hw) fun v s1 zz1=>?_) (he _)
 obtain ⟨x,H1,I1,r1,q1⟩:=zz1
 obtain ⟨d,rfl,q⟩:=q1
 cases r1
 exact wpAny_truthy_bool ⟨H1,I1,q⟩
variable {tA tB':TT} {rest:List Expr}
noncomputable def tAnd (t u:TT):TT:=fun σ H Q=>t σ H fun c H1=>if c=true then u σ H1 Q else Q false H1
noncomputable def tOr (t u:TT):TT:=fun σ H Q=>t σ H fun c H1=>if c=true then Q true H1 else u σ H1 Q
noncomputable def tNot (t:TT):TT:=fun σ H Q=>t σ H fun c H1=>Q (!c) H1
theorem U3 (ha:PT X a tA):PW X (.BoolOp .And [a] pos) tA:=by
 intro wh pins s σ H Q I h
 refine isTrue_and (thn (ha pins s σ H Q I h) fun c s1 e=>?_)
 cases c with
 | true=>exact isTrue_and_nil e
 | false=>exact e
theorem J3 (ha:PT X a tA):PW X (.BoolOp .Or [a] pos) tA:=by
 intro wh pins s σ H Q I h
 refine isTrue_or (thn (ha pins s σ H Q I h) fun c s1 e=>?_)
 cases c with
 | false=>exact isTrue_or_nil e
 | true=>exact e
theorem Kr (ha:PT X a tA) (hb:PW X (.BoolOp .And (b :: rest) pos) tB'):PW X (.BoolOp .And (a :: b :: rest) pos) (tAnd tA tB'):=by
 intro wh pins s σ H Q I h
 refine isTrue_and (thn (ha pins s σ H _ I h) fun c s1 zz9=>?_)
 obtain ⟨H1,I1,q1⟩:=zz9
 cases c with
 | true=>exact hb wh pins s1 σ H1 Q I1 q1
 | false=>exact ⟨H1,I1,q1⟩
theorem Qc (ha:PT X a tA) (hb:PW X (.BoolOp .Or (b :: rest) pos) tB'):PW X (.BoolOp .Or (a :: b :: rest) pos) (tOr tA tB'):=by
 intro wh pins s σ H Q I h
 refine isTrue_or (thn (ha pins s σ H _ I h) fun c s1 zz9=>?_)
 obtain ⟨H1,I1,q1⟩:=zz9
 cases c with
 | true=>exact ⟨H1,I1,q1⟩
 | false=>exact hb wh pins s1 σ H1 Q I1 q1
theorem Xz (ha:PT X a tA):PT X (.UnaryOp .Not a pos) (tNot tA):=by
 intro pins s σ H Q I h
 exact isTrue_not (ha pins s σ H (fun c H1=>Q (!c) H1) I h)
noncomputable def Znr (ta tb:TE):TE:=fun σ H Q=>ta σ H fun x H1=>∃ c,x=.bl c∧if c=true then tb σ H1 Q else Q (.bl false) H1
noncomputable def Znm (ta:TE):TE:=fun σ H Q=>ta σ H fun x H1=>∃ c,x=.bl c∧Q (.bl (!c)) H1
theorem Zbm {op} {t:TE} (h:PE X a t):PE X (.BoolOp op [a] pos) t:=fun pins s σ H Q I hw=>BoolOp_one (h pins s σ H Q I hw)
theorem Zbo (ha:PE X a ta) (hb:PE X (.BoolOp .And (b :: rest) pos) tb):PE X (.BoolOp .And (a :: b :: rest) pos) (Znr ta tb):=by
 intro pins s σ H Q I h
 refine BoolOp_and (thn (ha pins s σ H _ I h) fun v s1 zz9=>?_)
 obtain ⟨x,H1,I1,r1,q1⟩:=zz9
 obtain ⟨c,rfl,q1⟩:=q1
 cases r1
 refine wpAny_truthy_bool ?_
 cases c with
 | true=>exact hb pins s1 σ H1 Q I1 q1
 | false=>exact ⟨.bl false,H1,I1,rfl,q1⟩
theorem Zmq (ha:PE X a ta):PE X (.UnaryOp .Not a pos) (Znm ta):=by
 intro pins s σ H Q I h
 refine UnaryOp_ (thn (ha pins s σ H _ I h) fun v s1 zz9=>?_)
 obtain ⟨x,H1,I1,r1,q1⟩:=zz9
 obtain ⟨c,rfl,q1⟩:=q1
 cases r1
 exact not_of (wpAny_truthy_bool ⟨.bl (!c),H1,I1,rfl,q1⟩)
noncomputable def tIf (t:TT) (ta tb:TE):TE:=fun σ H Q=>t σ H fun c H1=>if c=true then ta σ H1 Q else tb σ H1 Q
theorem Zbn {c:Expr} (hc:PT X c tA) (ha:PE X a ta) (hb:PE X b tb):PE X (.IfExp c a b pos) (tIf tA ta tb):=by
 intro pins s σ H Q I h
 refine wpAny_IfExp (thn (hc pins s σ H _ I h) fun d s1 zz9=>?_)
 obtain ⟨H1,I1,q1⟩:=zz9
 cases d with
 | true=>exact ha pins s1 σ H1 Q I1 q1
 | false=>exact hb pins s1 σ H1 Q I1 q1
end
end L2
namespace L2
open PySem PySem.Spec PyProof.Rows
noncomputable def SqL (K:PySem.W.Frag) (H:Hp) (a:Addr) (xs:List V):Prop :=
 Rd H a (.lst xs) ∨
  ∃ (o:Obj) (its:Array Value) (n:Nat),K.lookup a=some o∧o.cls=.type "list"∧o.dict=none∧o.data=.seq its n∧its.size≤sizeLine∧Vals xs its.toList
noncomputable def SqT (K:PySem.W.Frag) (H:Hp) (a:Addr) (xs:List V):Prop :=
 Rd H a (.tup xs) ∨
  ∃ (o:Obj) (its:Array Value) (n:Nat),K.lookup a=some o∧o.cls=.type "tuple"∧o.data=.seq its n∧its.size≤sizeLine∧Vals xs its.toList
noncomputable def absV:Value→Option V
 | .none=>some .non
 | .bool b=>some (.bl b)
 | .int i _=>some (.int i)
 | .str x _=>some (.str x)
 | .bytes b _=>some (.byt b)
 | .float b _=>some (.flt b)
 | .ref a=>some (.ref a)
 | .type n=>some (.ty n)
 | _=>none
theorem RelV.abs {x:V} {u:Value} (r:RelV x u):absV u=some x:=by
 cases x with
 | non=>cases r; rfl
 | bl _=>cases r; rfl
 | int _=>obtain ⟨t,rfl⟩:=r; rfl
 | str _=>obtain ⟨t,rfl⟩:=r; rfl
 | byt _=>obtain ⟨t,rfl⟩:=r; rfl
 | flt _=>obtain ⟨t,rfl⟩:=r; rfl
 | ref _=>cases r; rfl
 | ty _=>cases r; rfl
theorem RelV.inj {x y:V} {u:Value} (r:RelV x u) (q:RelV y u):x=y:=Option.some.inj (r.abs.symm.trans q.abs)
theorem Vals.inj:∀ {xs ys:List V} {us:List Value},Vals xs us→Vals ys us→xs=ys
 | _,_,_,.nil,.nil=>rfl
 | _,_,_,.cons r t,.cons r' t'=>by rw [r.inj r',Vals.inj t t']
section
variable {X:Cx} {pins:List (Addr × Obj)} {σ:St} {H:Hp} {s:Shared} {a:Addr} {xs ys:List V}
theorem SqL.of {K:PySem.W.Frag} (h:H a=some (.lst xs)):SqL K H a xs:=.inl (.inl h)
theorem SqT.of {K:PySem.W.Frag} (h:H a=some (.tup xs)):SqT K H a xs:=.inl (.inl h)
theorem Inv.list (I:Inv X pins σ H s) (h:SqL X.K H a xs):∃ its:List Value,Vals xs its∧PlainL s.heap a its.toArray∧xs.length≤sizeLine:=by
 rcases h with h | ⟨o,its,n,hk,hc,hd,hs,hz,r⟩
 ·obtain ⟨z,its,n,r,e⟩:=h.ok I.hok
  exact ⟨its,r,⟨_,n,e,rfl,rfl,rfl⟩,z⟩
 ·refine ⟨its.toList,r,⟨o,n,I.kIn a o hk,hc,hd,by simpa using hs⟩,?_⟩
  have e:=r.length
  simp only [Array.length_toList] at e
  omega
theorem Inv.tuple (I:Inv X pins σ H s) (h:SqT X.K H a xs):∃ its:List Value,Vals xs its∧IsTup s.heap a its.toArray∧xs.length≤sizeLine:=by
 rcases h with h | ⟨o,its,n,hk,hc,hs,hz,r⟩
 ·obtain ⟨z,its,r,p⟩:=h.ok I.hok
  exact ⟨its,r,p,z⟩
 ·refine ⟨its.toList,r,⟨o,I.kIn a o hk,hc,n,by simpa using hs⟩,?_⟩
  have e:=r.length
  simp only [Array.length_toList] at e
  omega
theorem Inv.list_inj (I:Inv X pins σ H s) (h:SqL X.K H a xs) (h':SqL X.K H a ys):xs=ys:=by
 obtain ⟨its,r,⟨o,n,e,_,_,d⟩,_⟩:=I.list h
 obtain ⟨its',r',⟨o',n',e',_,_,d'⟩,_⟩:=I.list h'
 rw [e] at e'; cases e'
 rw [d] at d'
 injection d' with d1 _
 have:its=its':=by simpa using congrArg Array.toList d1
 subst this
 exact r.inj r'
theorem Inv.tuple_inj (I:Inv X pins σ H s) (h:SqT X.K H a xs) (h':SqT X.K H a ys):xs=ys:=by
 obtain ⟨its,r,⟨o,e,_,n,d⟩,_⟩:=I.tuple h
 obtain ⟨its',r',⟨o',e',_,n',d'⟩,_⟩:=I.tuple h'
 rw [e] at e'; cases e'
 rw [d] at d'
 injection d' with d1 _
 have:its=its':=by simpa using congrArg Array.toList d1
 subst this
 exact r.inj r'
end
noncomputable abbrev Cx.wish (X:Cx) (E:Value→Shared→Prop):Cx:={ X with xe:=E }
noncomputable abbrev Cx.nox (X:Cx):Cx:=X.wish fun _ _=>False
theorem Cx.Ok.wish {X:Cx} (ok:X.Ok) (E:Value→Shared→Prop):(X.wish E).Ok :=
 ⟨ok.mod,ok.kind,ok.glob,ok.blt,ok.above,ok.inj,ok.has,ok.cab,ok.hd,ok.frames,ok.stk,ok.exf,ok.bs,ok.bsz,ok.noex,ok.exfs,ok.funs,ok.frf⟩
theorem Cx.Ok.unwish {X:Cx} {E:Value→Shared→Prop} (ok:(X.wish E).Ok):X.Ok :=
 ⟨ok.mod,ok.kind,ok.glob,ok.blt,ok.above,ok.inj,ok.has,ok.cab,ok.hd,ok.frames,ok.stk,ok.exf,ok.bs,ok.bsz,ok.noex,ok.exfs,ok.funs,ok.frf⟩
section
variable {X:Cx} {pins:List (Addr × Obj)} {σ:St} {H:Hp} {s:Shared} {E:Value→Shared→Prop}
theorem Inv.wish (I:Inv X pins σ H s) (E:Value→Shared→Prop):Inv (X.wish E) pins σ H s:=⟨I.ok.wish E,I.os,I.bare,I.base,I.loc,I.cell,I.free,I.freeC,I.pin,I.hok,I.len⟩
theorem Inv.unwish (I:Inv (X.wish E) pins σ H s):Inv X pins σ H s:=⟨I.ok.unwish,I.os,I.bare,I.base,I.loc,I.cell,I.free,I.freeC,I.pin,I.hok,I.len⟩
theorem SP.unwish {D:Ends} {f:Flow} {s':Shared} (h:SP (X.wish E) pins D f s'):SP X pins D f s':=by
 cases f with
 | next=>obtain ⟨σ',H',I,q⟩:=h; exact ⟨σ',H',I.unwish,q⟩
 | brk=>obtain ⟨σ',H',I,q⟩:=h; exact ⟨σ',H',I.unwish,q⟩
 | cont=>obtain ⟨σ',H',I,q⟩:=h; exact ⟨σ',H',I.unwish,q⟩
 | ret u=>obtain ⟨v,σ',H',I,r,q⟩:=h; exact ⟨v,σ',H',I.unwish,r,q⟩
theorem PSs.nox {st:List Stmt} {t:TS} (h:PSs X.nox st t):PSs X st t:=fun pins s σ H D I hw =>
 wpAny_mono (h pins s σ H D (I.wish _) hw) (fun _ _ q=>q.unwish) fun _ _ z=>False.elim z
end
section
variable {X:Cx} {st:Stmt} {rest:List Stmt} {t u:TS} {e:Expr} {te:TE} {pos:Pos}
noncomputable def X8:TS:=fun D σ H=>D.nx σ H
noncomputable def tSeq (t u:TS):TS:=fun D σ H=>t { D with nx:=u D } σ H
theorem Zy:PSs X [] X8:=fun _ _ σ H _ I h=>wpAny_execs_nil ⟨σ,H,I,h⟩
theorem Ze (h1:PS X st t) (h2:PSs X rest u):PSs X (st :: rest) (tSeq t u):=by
 intro pins s σ H D I h
 refine wpAny_execs_cons (thn (h1 pins s σ H { D with nx:=u D } I h) fun f s1 q=>?_)
 cases f with
 | next =>
  obtain ⟨σ',H',I',q⟩:=q
  exact h2 pins s1 σ' H' D I' q
 | ret v=>exact q
 | brk=>exact q
 | cont=>exact q
theorem Zg (h1:PS X st t):PSs X [st] t:=by
 intro pins s σ H D I h
 refine wpAny_execs_cons (thn (h1 pins s σ H D I h) fun f s1 q=>?_)
 cases f with
 | next=>exact wpAny_execs_nil q
 | ret v=>exact q
 | brk=>exact q
 | cont=>exact q
noncomputable def Zmc:TS:=fun D σ H=>D.bk σ H
theorem Zh8:PS X (.Break pos) Zmc:=fun _ _ σ H _ I h=>wpAny_Break ⟨σ,H,I,h⟩
theorem Inv.quiet {pins:List (Addr × Obj)} {σ:St} {H:Hp} {s:Shared} (I:Inv X pins σ H s):interactive X.env=false:=by simp [interactive,I.ok.kind]
noncomputable def Zji (te:TE):TS:=fun D σ H=>te σ H fun _ H1=>D.nx σ H1
theorem Xg (he:PE X e te) (hs:swapsWith e none pos.line X.env=pure false:=by rfl):PS X (.Expr e pos) (Zji te):=by
 intro pins s σ H D I h
 refine wpAny_Expr_any (thn (he pins s σ H _ I h) fun v s1 zz2=>?_) I.quiet hs
 obtain ⟨x,H1,I1,r1,q1⟩:=zz2
 exact ⟨σ,H1,I1,q1⟩
noncomputable def tRet (te:TE):TS:=fun D σ H=>te σ H D.rt
theorem Zo (he:PE X e te):PS X (.Return (some e) pos) (tRet te):=by
 intro pins s σ H D I h
 refine wpAny_Return_some (thn (he pins s σ H _ I h) fun v s1 zz3=>?_)
 obtain ⟨x,H1,I1,r1,q1⟩:=zz3
 exact ⟨x,σ,H1,I1,r1,q1⟩
noncomputable def tIfS (c:TT) (t u:TS):TS:=fun D σ H=>c σ H fun b H1=>if b=true then t D σ H1 else u D σ H1
theorem Z8 {c:Expr} {a b:List Stmt} {tc:TT} (hc:PT X c tc) (ha:PSs X a t) (hb:PSs X b u):PS X (.If c a b pos) (tIfS tc t u):=by
 intro pins s σ H D I h
 refine wpAny_If (thn (hc pins s σ H _ I h) fun d s1 zz9=>?_)
 obtain ⟨H1,I1,q1⟩:=zz9
 cases d with
 | true=>exact ha pins s1 σ H1 D I1 q1
 | false=>exact hb pins s1 σ H1 D I1 q1
noncomputable def Zl5:TS:=fun _ _ _=>False
theorem Uo {sts:List Stmt}:PSs X sts Zl5:=fun _ _ _ _ _ _ h=>h.elim
end
noncomputable abbrev TG:=V→St→Hp→(St→Hp→Prop)→Prop
noncomputable abbrev TGs:=List V→St→Hp→(St→Hp→Prop)→Prop
noncomputable def PG (X:Cx) (target:Expr) (t:TG):Prop :=
 ∀ (pins:List (Addr × Obj)) (s:Shared) (σ:St) (H:Hp) (v:V) (u:Value) (Q:St→Hp→Prop),Inv X pins σ H s→RelV v u→t v σ H Q →
  wpAny (model X.prog X.w) X.A (assign target X.env u) (fun _ s'=>∃ σ' H',Inv X pins σ' H' s'∧Q σ' H') X.xe s
noncomputable def PGs (X:Cx) (ts:List Expr) (t:TGs):Prop :=
 ∀ (pins:List (Addr × Obj)) (s:Shared) (σ:St) (H:Hp) (vs:List V) (us:List Value) (Q:St→Hp→Prop),Inv X pins σ H s→Vals vs us→t vs σ H Q →
  wpAny (model X.prog X.w) X.A (assignInOrder ((assignEach ts X.env).map (·.2)) us) (fun _ s'=>∃ σ' H',Inv X pins σ' H' s'∧Q σ' H') X.xe s
noncomputable abbrev TSet:=V→V→V→Hp→(Hp→Prop)→Prop
noncomputable def PSet (X:Cx) (t:TSet):Prop :=
 ∀ (pins:List (Addr × Obj)) (s:Shared) (σ:St) (H:Hp) (o i v:V) (ov iv u:Value) (Q:Hp→Prop),Inv X pins σ H s→RelV o ov→RelV i iv→RelV v u→t o i v H Q →
  wpAny (model X.prog X.w) X.A (setItem ov iv u) (fun _ s'=>∃ H',Inv X pins σ H' s'∧Q H') X.xe s
section
variable {X:Cx} {pos:Pos}
noncomputable def Zn (i:Nat):TG:=fun v σ H Q=>Q (σ.set i (some v)) H
theorem Zl {i:Nat} {x:Str} (hN:X.N.Nodup) (hi:X.N[i]?=some x) (hx:Loc X.env.scope x) (hf:X.fn x=true∨X.env.scope.names.lookup x=some .local:=by first | exact .inl rfl | exact .inr rfl | assumption):PG X (.Name x pos) (Zn i):=by
 intro pins s σ H v u Q I r h
 exact wpAny_assign_Name (Oz I hN hi hx r (fun s' I'=>⟨_,H,I',h⟩) hf)
noncomputable def gNil:TGs:=fun vs σ H Q=>vs=[]∧Q σ H
noncomputable def Zn5 (t:TG) (u:TGs):TGs:=fun vs σ H Q=>∃ v r,vs=v :: r∧t v σ H fun σ' H'=>u r σ' H' Q
theorem X1:PGs X [] gNil:=by
 intro pins s σ H vs us Q I r h
 obtain ⟨e,h⟩:=h
 subst e
 cases r
 exact assignInOrder_nil ⟨σ,H,I,h⟩
theorem Z2 {e:Expr} {es:List Expr} {t:TG} {u:TGs} (h1:PG X e t) (h2:PGs X es u)
  (hs:(assignEach (e :: es) X.env).map (·.2)=assign e X.env :: (assignEach es X.env).map (·.2):=by rfl):PGs X (e :: es) (Zn5 t u):=by
 intro pins s σ H vs us Q I r h
 obtain ⟨v,vr,e1,h⟩:=h
 subst e1
 cases r with
 | cons r rr =>
  rw [hs]
  refine assignInOrder_cons (thn (h1 pins s σ H _ _ _ I r h) fun _ s1 zz9=>?_)
  obtain ⟨σ1,H1,I1,q1⟩:=zz9
  exact h2 pins s1 σ1 H1 _ _ Q I1 rr q1
noncomputable def gTup (K:PySem.W.Frag) (n:Nat) (t:TGs):TG:=fun v σ H Q=>∃ a xs,v=.ref a∧SqT K H a xs∧xs.length=n∧t xs σ H Q
theorem W0 {es:List Expr} {k:Nat} {t:TGs} {n:Nat} (hc:X.calm=true) (h:PGs X es t)
  (hn:(assignEach es X.env).length=n:=by rfl) (hst:(assignEach es X.env).findIdx? (·.1)=none:=by rfl):PG X (.Tuple es k pos) (gTup X.K n t):=by
 intro pins s σ H v u Q I r hw
 obtain ⟨a,xs,e1,hq,hl,hw⟩:=hw
 subst e1
 cases r
 obtain ⟨its,rv,ht,hz⟩:=I.tuple hq
 refine assign_Tuple_tuple (I.ok.hd hc) ht (by simp [hn,← hl,rv.length]) hst fun h' hx=>?_
 have I1:Inv X pins σ H { s with heap:=h' }:=I.kept (t':=s.toks) fun b o e=>hx b o (Nat.ne_of_lt (Heap.lt_size e)) e
 exact h pins _ σ H xs _ Q I1 (by simpa using rv) hw
noncomputable def gSub (to ti:TE) (t:TSet):TG:=fun v σ H Q=>to σ H fun o H1=>ti σ H1 fun i H2=>t o i v H2 fun H3=>Q σ H3
theorem W1 {o i:Expr} {to ti:TE} {t:TSet} (ho:PE X o to) (hi:PE X i ti) (hs:PSet X t)
  (ha:∀ v,assign (.Subscript o i pos) X.env v=(do
   let ov ← holding [v] (eval o X.env)
   let iv ← holding [v,ov] (eval i X.env)
   standAt pos
   holding [v,ov,iv] (setItem ov iv v)
   release [v,ov,iv] []):=by intro _; rfl):PG X (.Subscript o i pos) (gSub to ti t):=by
 intro pins s σ H v u Q I r h
 rw [ha]
 refine wpAny_bind (wpAny_holding (thn (ho pins s σ H _ I h) fun ov s1 zz9=>?_))
 obtain ⟨x,H1,I1,r1,q1⟩:=zz9
 refine wpAny_bind (wpAny_holding (thn (hi pins s1 σ H1 _ I1 q1) fun iv s2 zz9=>?_))
 obtain ⟨y,H2,I2,r2,q2⟩:=zz9
 refine wpAny_bind (wpAny_standAt (wpAny_bind (wpAny_holding (thn (hs pins s2 σ H2 x y v ov iv u _ I2 r1 r2 r q2) fun _ s3 zz9=>?_))))
 obtain ⟨H3,I3,q3⟩:=zz9
 exact wpAny_release ⟨σ,H3,I3,q3⟩
noncomputable def tAsg (te:TE) (g:TG):TS:=fun D σ H=>te σ H fun x H1=>g x σ H1 D.nx
theorem Xn {tg e:Expr} {te:TE} {g:TG} (he:PE X e te) (hg:PG X tg g) (hs:swapsWithSole [tg] e pos.line X.env=pure false:=by rfl) (hw:swappedStores [tg] e X.env=pure none:=by rfl)
  (h1:(assignEach [tg] X.env).map (·.2)=[assign tg X.env]:=by rfl):PS X (.Assign [tg] e pos) (tAsg te g):=by
 intro pins s σ H D I h
 refine wpAny_Assign_stores (thn (he pins s σ H _ I h) fun v s1 zz4=>?_) hs hw
 obtain ⟨x,H1,I1,r1,q1⟩:=zz4
 rw [h1]
 exact thn (hg pins s1 σ H1 x v _ I1 r1 q1) fun _ s2 q=>q
theorem Zq {i:Nat} {x:Str} {e:Expr} {te:TE} {pos':Pos} (hN:X.N.Nodup) (hi:X.N[i]?=some x) (hx:Loc X.env.scope x) (he:PE X e te) (hs:swapsWith e (some (.Name x pos')) pos.line X.env=pure false:=by rfl) (hf:X.fn x=true∨X.env.scope.names.lookup x=some .local:=by first | exact .inl rfl | exact .inr rfl | assumption) :
  PS X (.Assign [.Name x pos'] e pos) (tAsg te (Zn i)):=by
 intro pins s σ H D I h
 refine wpAny_Assign_Name (thn (he pins s σ H _ I h) fun v s1 zz5=>?_) hs
 obtain ⟨y,H1,I1,r1,q1⟩:=zz5
 exact Oz I1 hN hi hx r1 (fun s2 I2=>⟨_,H1,I2,q1⟩) hf
end
section
variable {X:Cx} {pos:Pos}
noncomputable def O9 (c:TT) (tb:TS):TS:=fun D σ H=>∃ W:Nat→St→Hp→Prop,(∃ m,W m σ H)∧∀ m σ H,W m σ H →
 c σ H fun b H1=>if b=true then ∃ N:St→Hp→Prop,(∀ σ' H',N σ' H'→∃ m',m' < m∧W m' σ' H')∧tb { D with nx:=N,ct:=N,bk:=D.nx } σ H1 else D.nx σ H1
theorem O1 {c:Expr} {body:List Stmt} {tc:TT} {tb:TS} (hp:PassesOwn (model X.prog X.w) X.A X.env X.xe) (hc:PT X c tc) (hb:PSs X body tb):PS X (.While c body [] pos) (O9 tc tb):=by
 intro pins s σ H D I h
 obtain ⟨W,⟨m0,w0⟩,turn⟩:=h
 refine wpAny_While (codeAny_whileLoop (fun n s'=>∃ σ' H',Inv X pins σ' H' s'∧W n σ' H') ?_ m0 ⟨σ,H,I,w0⟩)
 rintro n s1 ⟨σ1,H1,I1,w1⟩
 refine wpAny_passesOwn hp (thn (hc pins s1 σ1 H1 _ I1 (turn n σ1 H1 w1)) fun b s2 zz9=>?_)
 obtain ⟨H2,I2,q2⟩:=zz9
 cases b with
 | true =>
  obtain ⟨N,hN,q2⟩:=q2
  rw [if_pos rfl]
  refine wpAny_passesOwn hp (thn (hb pins s2 σ1 H2 _ I2 q2) fun f s3 q3=>?_)
  cases f with
  | next =>
   obtain ⟨σ3,H3,I3,n3⟩:=q3
   obtain ⟨m',hm,w3⟩:=hN σ3 H3 n3
   exact ⟨m',hm,σ3,H3,I3,w3⟩
  | cont =>
   obtain ⟨σ3,H3,I3,n3⟩:=q3
   obtain ⟨m',hm,w3⟩:=hN σ3 H3 n3
   exact ⟨m',hm,σ3,H3,I3,w3⟩
  | brk=>exact q3
  | ret v=>exact q3
 | false =>
  rw [if_neg Bool.false_ne_true]
  exact wpAny_execs_nil ⟨σ1,H2,I2,q2⟩
end
structure It where
 go:Nat→Hp→Prop
 yld:Nat→Hp→V→Hp→Prop
 stop:Nat→Hp→Prop
noncomputable def FpOk (X:Cx) (pins:List (Addr × Obj)) (H:Hp) (b:Addr):Prop :=
 H b=none∧b≠X.env.locals∧b ∉ X.fs∧(b∈X.ex∨X.s₀.heap.objs.size≤b)∧(∀ x c,X.env.cells.lookup x=some c→c≠b)∧∀ p∈X.pn ++ pins,p.1≠b
theorem Inv.fpOk {X:Cx} {pins:List (Addr × Obj)} {σ:St} {H H':Hp} {s:Shared} {b:Addr} (I:Inv X pins σ H s) (hb:s.heap.objs.size≤b) (hn:H' b=none):FpOk X pins H' b:=by
 refine ⟨hn,Nat.ne_of_gt (Nat.lt_of_lt_of_le I.lt hb),I.nofs hb,.inr (Nat.le_trans I.sz hb),fun x c e z=>?_,fun p hp z=>?_⟩
 ·obtain ⟨v,q⟩:=I.cell x c e
  exact absurd (Nat.lt_of_lt_of_le q.lt (by rw [z]; exact hb)) (Nat.lt_irrefl _)
 ·exact absurd (Nat.lt_of_lt_of_le (Heap.lt_size (I.pin p hp).1) (by rw [z]; exact hb)) (Nat.lt_irrefl _)
structure Turn (P:Program) (w:World) (K:PySem.W.Frag) (tg:Expr) (J:It) (fp:List Addr) (it:Addr) (tn:Nat→Heap→Prop):Prop where
 mem:it∈fp
 obj:∀ i h,tn i h→∀ b∈fp,∃ o,h.get? b=some o∧∀ v,o.data≠.cell v
 keep:∀ i h h',tn i h→(∀ b∈fp,∀ o,h.get? b=some o→h'.get? b=some o)→tn i h'
 item:∀ (X:Cx),X.prog=P→X.w=w→X.K=K→X.calm=true→∀ (i:Nat) (pins:List (Addr × Obj)) (s:Shared) (σ:St) (H:Hp) (E:Value→Shared→Prop),Inv X pins σ H s→(∀ b∈fp,FpOk X pins H b)→tn i s.heap→J.go i H →
  wpAny (model P w) X.A (pyNext (.ref it)) (fun r s1=>∃ u,r=some u ∧
   wpAny (model P w) X.A (letOwnedTupleGo tg (.ref it) u) (fun _ s2=>∃ x H',Inv X pins σ H' s2∧RelV x u∧J.yld i H x H'∧tn (i + 1) s2.heap∧∀ b∈fp,H' b=none) E s1) E s
 done:∀ (X:Cx),X.prog=P→X.w=w→X.K=K→X.calm=true→∀ (i:Nat) (pins:List (Addr × Obj)) (s:Shared) (σ:St) (H:Hp) (E:Value→Shared→Prop),Inv X pins σ H s→(∀ b∈fp,FpOk X pins H b)→tn i s.heap→J.stop i H →
  wpAny (model P w) X.A (pyNext (.ref it)) (fun r s1=>r=none∧Inv X pins σ H s1) E s
 self:∀ (A:Around) (i:Nat) (s:Shared) (Q:Value→Shared→Prop) (E:Value→Shared→Prop),tn i s.heap→Q (.ref it) s→wpAny (model P w) A (pyIter (.ref it)) Q E s
noncomputable abbrev TI:=St→Hp→(It→Hp→Prop)→Prop
noncomputable def PIE (X:Cx) (pins:List (Addr × Obj)) (σ:St) (tg:Expr) (R:It→Hp→Prop) (itv:Value) (s2:Shared):Prop :=
 ∃ (it:Addr) (fp:List Addr) (tn:Nat→Heap→Prop) (J:It) (H':Hp),itv=.ref it∧Inv X pins σ H' s2∧Turn X.prog X.w X.K tg J fp it tn∧tn 0 s2.heap∧(∀ b∈fp,FpOk X pins H' b)∧R J H'
noncomputable def PI (X:Cx) (tg iter:Expr) (wi:TI):Prop :=
 ∀ (pins:List (Addr × Obj)) (s:Shared) (σ:St) (H:Hp) (R:It→Hp→Prop),Inv X pins σ H s→wi σ H R →
  wpAny (model X.prog X.w) X.A (eval iter X.env) (fun v s1=>wpAny (model X.prog X.w) X.A (pyIter v) (PIE X pins σ tg R) X.xe s1) X.xe s
theorem Ob {M:Model} {A:Around} {E:Value→Shared→Prop} {s:Shared} {tg:Expr} {it:Addr} {u:Value} {o:Obj} {n:String} {vs:Array Value} {Q:Unit→Shared→Prop} (ho:s.heap.get? it=some o) (hc:o.cls=.type n) (hd:o.data=.fields vs)
    (hn:["enumerate","zip","dict_itemiterator","dict_reverseitemiterator","odict_iterator","itertools.zip_longest","itertools.pairwise"].contains n=false) (hQ:Q () s):wpAny M A (letOwnedTupleGo tg (.ref it) u) Q E s:=by
  unfold letOwnedTupleGo
  cases tg <;> first
    | exact wpAny_pure hQ
    | (cases u <;> first
        | exact wpAny_pure hQ
        | (refine wpAny_bind (wpAny_load ho ?_)
           rw [hc,hd]
           show wpAny M A (if (["enumerate","zip","dict_itemiterator","dict_reverseitemiterator","odict_iterator","itertools.zip_longest","itertools.pairwise"].contains n && vs[0]? == some (rawInt _))=true then _ else _) Q E s
           rw [if_neg (by intro h; rw [hn,Bool.false_and] at h; cases h)]
           exact wpAny_pure hQ))
noncomputable def Itl (K:PySem.W.Frag) (a:Addr):It :=
 ⟨fun i H=>∃ xs x,SqL K H a xs∧xs[i]?=some x,fun i H x H'=>H'=H∧∀ xs,SqL K H a xs→xs[i]?=some x,fun i H=>∃ xs,SqL K H a xs∧xs.length≤i⟩
noncomputable def Itt (K:PySem.W.Frag) (a:Addr):It :=
 ⟨fun i H=>∃ xs x,SqT K H a xs∧xs[i]?=some x,fun i H x H'=>H'=H∧∀ xs,SqT K H a xs→xs[i]?=some x,fun i H=>∃ xs,SqT K H a xs∧xs.length≤i⟩
noncomputable def Itr (lo:Int) (n:Nat):It:=⟨fun i _=>i < n,fun i H x H'=>H'=H∧x=.int (lo + i),fun i _=>n≤i⟩
theorem Zfe {P:Program} {w:World} {K:PySem.W.Frag} {tg:Expr} (a it:Addr):Turn P w K tg (Itl K a) [it] it (fun i h=>h.IsListIter it a i) where
 mem:=by simp
 obj:=fun i h st b hb=>by
  have e:b=it:=by simpa using hb
  subst e
  obtain ⟨o,e,c,d⟩:=st
  exact ⟨o,e,fun v z=>by rw [d] at z; cases z⟩
 keep:=fun i h h' st k=>st.at fun o e=>k it (by simp) o e
 item:=by
  intro X hP hw hK hc i pins s σ H E I hf st hg
  subst hP hw hK
  obtain ⟨xs,x,hq,hx⟩:=hg
  obtain ⟨its,rv,p,hz⟩:=I.list hq
  obtain ⟨u,hu,ru⟩:=rv.get hx
  obtain ⟨f0,f1,f2,f3,f4,f5⟩:=hf it (by simp)
  refine wpAny_pyNext_list_item st p.isList (x:=u) (by simpa using hu) fun h' st' sb=>?_
  have I1:Inv X pins σ H { s with heap:=h' }:=I.turned (t':=s.toks) (fun b o hb e=>(sb.2 b hb).trans e) f0 f1 f3 f4 f5
  obtain ⟨o,e,c,d⟩:=id st'
  exact ⟨u,rfl,Ob (s:={ s with heap:=h' }) e c d (by decide) ⟨x,H,I1,ru,⟨rfl,fun ys hy=>by rw [I.list_inj hy hq]; exact hx⟩,st',fun b hb=>(hf b hb).1⟩⟩
 done:=by
  intro X hP hw hK hc i pins s σ H E I hf st hg
  subst hP hw hK
  obtain ⟨xs,hq,hx⟩:=hg
  obtain ⟨its,rv,p,hz⟩:=I.list hq
  obtain ⟨f0,f1,f2,f3,f4,f5⟩:=hf it (by simp)
  have hl:=rv.length
  exact wpAny_pyNext_list_end (I.ok.hd hc) st p.isList (by simp; omega) fun h' eb=>⟨rfl,I.turned (t':=s.toks) (fun b o hb e=>eb b o hb e) f0 f1 f3 f4 f5⟩
 self:=fun _ _ _ _ _ st h=>wpAny_pyIter_listiter st h
theorem Zd9 {P:Program} {w:World} {K:PySem.W.Frag} {tg:Expr} (a it:Addr):Turn P w K tg (Itt K a) [it] it (fun i h=>h.IsTupleIter it a i) where
 mem:=by simp
 obj:=fun i h st b hb=>by
  have e:b=it:=by simpa using hb
  subst e
  obtain ⟨o,e,c,d⟩:=st
  exact ⟨o,e,fun v z=>by rw [d] at z; cases z⟩
 keep:=fun i h h' st k=>st.at fun o e=>k it (by simp) o e
 item:=by
  intro X hP hw hK hc i pins s σ H E I hf st hg
  subst hP hw hK
  obtain ⟨xs,x,hq,hx⟩:=hg
  obtain ⟨its,rv,p,hz⟩:=I.tuple hq
  obtain ⟨u,hu,ru⟩:=rv.get hx
  obtain ⟨f0,f1,f2,f3,f4,f5⟩:=hf it (by simp)
  refine wpAny_pyNext_tuple_item st (show s.heap.IsTuple a its.toArray from p) (x:=u) (by simpa using hu) fun h' st' sb=>?_
  have I1:Inv X pins σ H { s with heap:=h' }:=I.turned (t':=s.toks) (fun b o hb e=>(sb.2 b hb).trans e) f0 f1 f3 f4 f5
  obtain ⟨o,e,c,d⟩:=id st'
  exact ⟨u,rfl,Ob (s:={ s with heap:=h' }) e c d (by decide) ⟨x,H,I1,ru,⟨rfl,fun ys hy=>by rw [I.tuple_inj hy hq]; exact hx⟩,st',fun b hb=>(hf b hb).1⟩⟩
 done:=by
  intro X hP hw hK hc i pins s σ H E I hf st hg
  subst hP hw hK
  obtain ⟨xs,hq,hx⟩:=hg
  obtain ⟨its,rv,p,hz⟩:=I.tuple hq
  obtain ⟨f0,f1,f2,f3,f4,f5⟩:=hf it (by simp)
  have hl:=rv.length
  exact wpAny_pyNext_tuple_end (I.ok.hd hc) st (show s.heap.IsTuple a its.toArray from p) (by simp; omega) fun h' eb=>⟨rfl,I.turned (t':=s.toks) (fun b o hb e=>eb b o hb e) f0 f1 f3 f4 f5⟩
 self:=fun _ _ _ _ _ st h=>wpAny_pyIter_tupleiter st h
theorem Zea {P:Program} {w:World} {K:PySem.W.Frag} {tg:Expr} (it:Addr) (lo:Int) (n:Nat):Turn P w K tg (Itr lo n) [it] it (fun i h=>IsRangeIter h it (lo + (i:Nat) * 1) ((n:Int) - (i:Nat)) 1) where
 mem:=by simp
 obj:=fun i h st b hb=>by
  have e:b=it:=by simpa using hb
  subst e
  exact ⟨_,st,fun v z=>by
   have z':Data.fields _=Data.cell v:=z
   cases z'⟩
 keep:=fun i h h' st k=>k it (by simp) _ st
 item:=by
  intro X hP hw hK hc i pins s σ H E I hf st hg
  subst hP hw hK
  obtain ⟨f0,f1,f2,f3,f4,f5⟩:=hf it (by simp)
  have W:=Walks.range (prog:=X.prog) (w:=X.w) (I.ok.hd hc) it lo 1 n
  refine W.item i s _ _ hg st fun v h' tk hv st' kk=>?_
  obtain ⟨t,rfl⟩:=hv
  have I1:Inv X pins σ H { s with heap:=h',toks:=tk }:=I.turned (fun b o hb e=>kk b o (by simpa using hb) e) f0 f1 f3 f4 f5
  refine ⟨_,rfl,Ob (s:={ s with heap:=h',toks:=tk }) (n:="range_iterator") st' rfl rfl (by decide) ⟨.int (lo + i),H,I1,⟨t,?_⟩,⟨rfl,rfl⟩,st',fun b hb=>(hf b hb).1⟩⟩
  rw [Int.mul_one]
 done:=by
  intro X hP hw hK hc i pins s σ H E I hf st hg
  subst hP hw hK
  obtain ⟨f0,f1,f2,f3,f4,f5⟩:=hf it (by simp)
  exact wpAny_pyNext_range_end (I.ok.hd hc) st (by have:n≤i:=hg; omega) fun h' eb=>⟨rfl,I.turned (t':=s.toks) (fun b o hb e=>eb b o hb e) f0 f1 f3 f4 f5⟩
 self:=fun _ _ _ _ _ st h=>wpAny_pyIter_rangeiter st h
end L2
namespace L2
open PySem PySem.Spec PyProof.Rows
section
variable {X:Cx} {tg:Expr}
noncomputable def Zjs (K:PySem.W.Frag) (tl:TE):TI:=fun σ H R=>tl σ H fun x H1=>∃ a,x=.ref a∧(∃ xs,SqL K H1 a xs)∧R (Itl K a) H1
noncomputable def iTup (K:PySem.W.Frag) (tl:TE):TI:=fun σ H R=>tl σ H fun x H1=>∃ a,x=.ref a∧(∃ xs,SqT K H1 a xs)∧R (Itt K a) H1
theorem Yt {l:Expr} {tl:TE} (hl:PE X l tl):PI X tg l (Zjs X.K tl):=by
 intro pins s σ H R I h
 refine thn (hl pins s σ H _ I h) fun v s1 zz9=>?_
 obtain ⟨x,H1,I1,r1,q1⟩:=zz9
 obtain ⟨a,e,⟨xs,hq⟩,q⟩:=q1
 subst e
 cases r1
 obtain ⟨its,rv,p,hz⟩:=I1.list hq
 refine wpAny_pyIter_list p.isList ?_
 refine ⟨s1.heap.objs.size,[s1.heap.objs.size],_,_,H1,rfl,I1.kept (t':=s1.toks) fun b o e=>Heap.get?_push_of_some _ e,Zfe a _,⟨_,Heap.get?_push_size _ rfl,rfl,rfl⟩,fun b hb=>?_,q⟩
 have e:b=s1.heap.objs.size:=by simpa using hb
 subst e
 exact I1.fpOk (Nat.le_refl _) (I1.hok.fresh (Nat.le_refl _))
theorem Zf4 {l:Expr} {tl:TE} (hl:PE X l tl):PI X tg l (iTup X.K tl):=by
 intro pins s σ H R I h
 refine thn (hl pins s σ H _ I h) fun v s1 zz9=>?_
 obtain ⟨x,H1,I1,r1,q1⟩:=zz9
 obtain ⟨a,e,⟨xs,hq⟩,q⟩:=q1
 subst e
 cases r1
 obtain ⟨its,rv,p,hz⟩:=I1.tuple hq
 refine wpAny_pyIter_tuple (show s1.heap.IsTuple a its.toArray from p) ?_
 refine ⟨s1.heap.objs.size,[s1.heap.objs.size],_,_,H1,rfl,I1.kept (t':=s1.toks) fun b o e=>Heap.get?_push_of_some _ e,Zd9 a _,⟨_,Heap.get?_push_size _ rfl,rfl,rfl⟩,fun b hb=>?_,q⟩
 have e:b=s1.heap.objs.size:=by simpa using hb
 subst e
 exact I1.fpOk (Nat.le_refl _) (I1.hok.fresh (Nat.le_refl _))
theorem Zbi {pins:List (Addr × Obj)} {σ:St} {H:Hp} {s:Shared} {R:It→Hp→Prop} {E:Value→Shared→Prop} {lo hi:Int} {t u v:Tok} {tk:Nat} (I:Inv X pins σ H s) (h1:-(2 ^ 62)≤lo) (h2:lo < 2 ^ 62) (h3:-(2 ^ 62)≤hi) (h4:hi < 2 ^ 62)
  (q:R (Itr lo (hi - lo).toNat) H):wpAny (model X.prog X.w) X.A (pyIter (.ref s.heap.objs.size)) (PIE X pins σ tg R) E { s with heap:=s.heap.push { cls:=.type "range",data:=.fields #[.int lo t,.int hi u,.int 1 v] },toks:=tk }:=by
 refine wpAny_pyIter_range (IsRange.new ..) (small_one h1 h2 h3 h4) ?_
 have I1:Inv X pins σ H { s with heap:=s.heap.push { cls:=.type "range",data:=.fields #[.int lo t,.int hi u,.int 1 v] },toks:=tk }:=I.kept fun b o e=>Heap.get?_push_of_some _ e
 refine ⟨(s.heap.push { cls:=.type "range",data:=.fields #[.int lo t,.int hi u,.int 1 v] }).objs.size,[(s.heap.push { cls:=.type "range",data:=.fields #[.int lo t,.int hi u,.int 1 v] }).objs.size],_,_,H,rfl,
  I1.kept (t':=tk) fun b o e=>Heap.get?_push_of_some _ e,Zea _ lo (hi - lo).toNat,?_,fun b hb=>?_,q⟩
 ·have e1:lo + ((0:Nat):Int) * 1=lo:=by simp
  have e2:(((hi - lo).toNat:Nat):Int) - ((0:Nat):Int)=Builtin.Range.rangeSize lo hi 1:=by rw [rangeSize_one]; split <;> omega
  show IsRangeIter _ _ (lo + ((0:Nat):Int) * 1) ((((hi - lo).toNat:Nat):Int) - ((0:Nat):Int)) 1
  rw [e1,e2]
  exact Heap.get?_push_size _ rfl
 ·have e:b=(s.heap.push { cls:=.type "range",data:=.fields #[.int lo t,.int hi u,.int 1 v] }).objs.size:=by simpa using hb
  subst e
  exact I1.fpOk (Nat.le_refl _) (I1.hok.fresh (Nat.le_refl _))
noncomputable def Zn2 (ta:TA):TI:=fun σ H R=>ta σ H fun vs H1=>∃ j:Int,vs=[.int j]∧-(2 ^ 62)≤j∧j < 2 ^ 62∧R (Itr 0 j.toNat) H1
noncomputable def Zn1 (ta:TA):TI:=fun σ H R=>ta σ H fun vs H1=>∃ i j:Int,vs=[.int i,.int j]∧(-(2 ^ 62)≤i∧i < 2 ^ 62∧-(2 ^ 62)≤j∧j < 2 ^ 62)∧R (Itr i (j - i).toNat) H1
theorem Z7 {a:Expr} {ta:TA} {p pos:Pos} (hg:Gl X "range") (hm:X.mg "range"=none) (ha:PA X [a] ta) (hs:starEach [a] X.env=[(false,eval a X.env)]:=by rfl):PI X tg (.Call (.Name "range" p) [a] [] pos) (Zn2 ta):=by
 intro pins s σ H R I h
 refine Call_ (X2 I hg hm boot_range (PyProof.Rows.callWith_type1 (thn (ha pos pins s σ H _ I h) fun us s1 zz6=>?_) hs rfl))
 obtain ⟨vs,H1,I1,r1,q1⟩:=zz6
 obtain ⟨j,e,q1,q2,q⟩:=q1
 subst e
 cases r1 with
 | cons r rr =>
  cases rr
  obtain ⟨t,rfl⟩:=r
  exact call_range_1 (Zbi I1 (by omega) (by omega) q1 q2 (by simpa using q))
theorem Zf6 {a b:Expr} {ta:TA} {p pos:Pos} (hg:Gl X "range") (hm:X.mg "range"=none) (ha:PA X [a,b] ta) (hs:starEach [a,b] X.env=[(false,eval a X.env),(false,eval b X.env)]:=by rfl) (hs2:starEach [b] X.env=[(false,eval b X.env)]:=by rfl) :
  PI X tg (.Call (.Name "range" p) [a,b] [] pos) (Zn1 ta):=by
 intro pins s σ H R I h
 refine Call_ (X2 I hg hm boot_range (PyProof.Rows.callWith_type1 (thn (ha pos pins s σ H _ I h) fun us s1 ⟨vs,H1,I1,r1,q1⟩=>?_) (by rw [hs,hs2]) (by rw [hs2]; rfl)))
 obtain ⟨i,j,e,⟨q1,q2,q3,q4⟩,q⟩:=q1
 subst e
 cases r1 with
 | cons r rr =>
  cases rr with
  | cons r' rr =>
   cases rr
   obtain ⟨t,rfl⟩:=r
   obtain ⟨t',rfl⟩:=r'
   exact call_range_2 (Zbi I1 q1 q2 q3 q4 q)
noncomputable def tFor (wi:TI) (g:TG) (tb:TS):TS:=fun D σ H=>wi σ H fun J H1=>∃ W:Nat→Nat→St→Hp→Prop,(∃ m,W 0 m σ H1)∧∀ i m σ H,W i m σ H →
 (J.stop i H∧D.nx σ H)∨(J.go i H∧∃ N:St→Hp→Prop,(∀ σ' H',N σ' H'→∃ m',m' < m∧W (i + 1) m' σ' H')∧∀ x H',J.yld i H x H'→g x σ H' fun σ2 H2=>tb { D with nx:=N,ct:=N,bk:=D.nx } σ2 H2)
noncomputable def Up (fp:List Addr) (h:Heap):List (Addr × Obj):=fp.filterMap fun b=>(h.get? b).map fun o=>(b,o)
theorem Qd {fp:List Addr} {h:Heap} {b:Addr} {o:Obj} (hb:b∈fp) (e:h.get? b=some o):(b,o)∈Up fp h:=List.mem_filterMap.mpr ⟨b,hb,by rw [e]; rfl⟩
theorem Zgk {fp:List Addr} {h:Heap} {p:Addr × Obj} (hp:p∈Up fp h):p.1∈fp∧h.get? p.1=some p.2:=by
 obtain ⟨b,hb,e⟩:=List.mem_filterMap.mp hp
 cases q:h.get? b with
 | none=>rw [q] at e; cases e
 | some o =>
  rw [q] at e
  have e':(b,o)=p:=Option.some.inj e
  subst e'
  exact ⟨hb,q⟩
theorem Inv.pinned {pins:List (Addr × Obj)} {σ:St} {H:Hp} {s:Shared} {fp:List Addr} (I:Inv X pins σ H s) (hf:∀ b∈fp,FpOk X pins H b) (ho:∀ b∈fp,∃ o,s.heap.get? b=some o∧∀ v,o.data≠.cell v):Inv X (pins ++ Up fp s.heap) σ H s :=
 I.pins_of fun p hp=>(List.mem_append.mp hp).elim (fun z=>I.pin p (List.mem_append_right _ z)) fun z=>by
  obtain ⟨hb,e⟩:=Zgk z
  obtain ⟨f0,f1,f2,_⟩:=hf p.1 hb
  obtain ⟨o,e',d⟩:=ho p.1 hb
  rw [e] at e'; cases e'
  exact ⟨e,f0,f1,f2,d⟩
theorem Inv.unpinned {pins pl:List (Addr × Obj)} {σ:St} {H:Hp} {s:Shared} (I:Inv X (pins ++ pl) σ H s):Inv X pins σ H s:=I.pins_of fun p hp=>I.pin p (List.mem_append_right _ (List.mem_append_left _ hp))
theorem Yg {iter:Expr} {body:List Stmt} {wi:TI} {g:TG} {tb:TS} {pos:Pos} (hp:PassesOwn (model X.prog X.w) X.A X.env X.xe) (hc:X.calm=true) (hi:PI X tg iter wi) (hg:PG X tg g) (hb:PSs X body tb)
  (hs:∀ x,foldedSetIterable iter X.env x=pure x:=by intro _; rfl):PS X (.For tg iter body [] pos) (tFor wi g tb):=by
 intro pins s σ H D I h
 refine wpAny_For (thn (hi pins s σ H _ I h) fun v s1 h1=>thn h1 fun itv s2 h2=>?_) hs
 obtain ⟨it,fp,tn,J,H2,e,I2,T,st2,f2,W,⟨m0,w0⟩,turn⟩:=h2
 subst e
 have stat:∀ {H':Hp},(∀ b∈fp,H' b=none)→∀ b∈fp,FpOk X pins H' b:=fun hn b hb=>⟨hn b hb,(f2 b hb).2⟩
 refine codeAny_forLoop_any (fun n s'=>∃ i σ' H',Inv X pins σ' H' s'∧tn i s'.heap∧(∀ b∈fp,H' b=none)∧W i n σ' H') ?_ m0 ⟨0,σ,H2,I2,st2,fun b hb=>(f2 b hb).1,w0⟩
 rintro n s3 ⟨i,σ3,H3,I3,st3,fr3,w3⟩
 rcases turn i n σ3 H3 w3 with ⟨stop,qn⟩ | ⟨go,N,hN,step⟩
 ·refine wpAny_passesOwn hp (thn (T.done X rfl rfl rfl hc i pins s3 σ3 H3 X.xe I3 (stat fr3) st3 stop) fun r s4 ⟨hr,I4⟩=>?_)
  subst hr
  exact wpAny_execs_nil ⟨σ3,H3,I4,qn⟩
 ·refine wpAny_passesOwn hp (thn (T.item X rfl rfl rfl hc i pins s3 σ3 H3 X.xe I3 (stat fr3) st3 go) fun r s4 ⟨u,hr,h4⟩=>?_)
  subst hr
  refine wpAny_passesOwn hp (thn h4 fun _ s5 zz9=>?_)
  obtain ⟨x,H5,I5,r5,y5,st5,fr5⟩:=zz9
  have I5':=I5.pinned (stat fr5) (T.obj _ _ st5)
  refine wpAny_passesOwn hp (thn (hg _ s5 σ3 H5 x u _ I5' r5 (step x H5 y5)) fun _ s6 zz9=>?_)
  obtain ⟨σ6,H6,I6,q6⟩:=zz9
  refine wpAny_passesOwn hp (thn (hb _ s6 σ6 H6 _ I6 q6) fun f s7 q7=>?_)
  have again:∀ {σ7:St} {H7:Hp},Inv X (pins ++ Up fp s5.heap) σ7 H7 s7→N σ7 H7→∃ m,m < n∧∃ i σ' H',Inv X pins σ' H' s7∧tn i s7.heap∧(∀ b∈fp,H' b=none)∧W i m σ' H':=fun {σ7 H7} I7 n7=>by
   obtain ⟨m',hm,w7⟩:=hN σ7 H7 n7
   refine ⟨m',hm,i + 1,σ7,H7,I7.unpinned,T.keep _ _ _ st5 fun b hb o e=>(I7.pin (b,o) (List.mem_append_right _ (List.mem_append_right _ (Qd hb e)))).1,fun b hb=>?_,w7⟩
   obtain ⟨o,e,d⟩:=T.obj _ _ st5 b hb
   exact (I7.pin (b,o) (List.mem_append_right _ (List.mem_append_right _ (Qd hb e)))).2.1
  cases f with
  | next=>obtain ⟨σ7,H7,I7,n7⟩:=q7; exact again I7 n7
  | cont=>obtain ⟨σ7,H7,I7,n7⟩:=q7; exact again I7 n7
  | brk=>obtain ⟨σ7,H7,I7,q7⟩:=q7; exact ⟨σ7,H7,I7.unpinned,q7⟩
  | ret v=>obtain ⟨x7,σ7,H7,I7,r7,q7⟩:=q7; exact ⟨x7,σ7,H7,I7.unpinned,r7,q7⟩
end
theorem Jb {K:PySem.W.Frag} {a:Addr} {xs:List V} {g:TG} {tb:TS} {D:Ends} {σ:St} {H:Hp} (Pv:Nat→St→Hp→Prop) (h0:Pv 0 σ H) (hl:∀ i σ H,i≤xs.length→Pv i σ H→SqL K H a xs)
  (hs:∀ i x σ H,xs[i]?=some x→Pv i σ H→g x σ H fun σ2 H2=>tb { D with nx:=Pv (i + 1),ct:=Pv (i + 1),bk:=D.nx } σ2 H2) (hd:∀ σ H,Pv xs.length σ H→D.nx σ H) :
  ∃ W:Nat→Nat→St→Hp→Prop,(∃ m,W 0 m σ H)∧∀ i m σ H,W i m σ H →
   ((Itl K a).stop i H∧D.nx σ H)∨((Itl K a).go i H∧∃ N:St→Hp→Prop,(∀ σ' H',N σ' H'→∃ m',m' < m∧W (i + 1) m' σ' H')∧∀ x H',(Itl K a).yld i H x H'→g x σ H' fun σ2 H2=>tb { D with nx:=N,ct:=N,bk:=D.nx } σ2 H2):=by
 refine ⟨fun i m σ H=>m=xs.length - i∧i≤xs.length∧Pv i σ H,⟨xs.length,by simp,Nat.zero_le _,h0⟩,?_⟩
 rintro i m σ H ⟨rfl,hi,p⟩
 have q:=hl i σ H hi p
 by_cases hlt:i < xs.length
 ·refine .inr ⟨⟨xs,xs[i],q,by simp [hlt]⟩,Pv (i + 1),fun σ' H' p'=>⟨xs.length - (i + 1),by omega,rfl,hlt,p'⟩,fun x H' y=>?_⟩
  obtain ⟨e,y⟩:=y
  subst e
  exact hs i x σ _ (y xs q) p
 ·have e:i=xs.length:=by omega
  subst e
  exact .inl ⟨⟨xs,q,Nat.le_refl _⟩,hd σ H p⟩
theorem Zlk {K:PySem.W.Frag} {a:Addr} {xs:List V} {g:TG} {tb:TS} {D:Ends} {σ:St} {H:Hp} (Pv:Nat→St→Hp→Prop) (h0:Pv 0 σ H) (hl:∀ i σ H,i≤xs.length→Pv i σ H→SqT K H a xs)
  (hs:∀ i x σ H,xs[i]?=some x→Pv i σ H→g x σ H fun σ2 H2=>tb { D with nx:=Pv (i + 1),ct:=Pv (i + 1),bk:=D.nx } σ2 H2) (hd:∀ σ H,Pv xs.length σ H→D.nx σ H) :
  ∃ W:Nat→Nat→St→Hp→Prop,(∃ m,W 0 m σ H)∧∀ i m σ H,W i m σ H →
   ((Itt K a).stop i H∧D.nx σ H)∨((Itt K a).go i H∧∃ N:St→Hp→Prop,(∀ σ' H',N σ' H'→∃ m',m' < m∧W (i + 1) m' σ' H')∧∀ x H',(Itt K a).yld i H x H'→g x σ H' fun σ2 H2=>tb { D with nx:=N,ct:=N,bk:=D.nx } σ2 H2):=by
 refine ⟨fun i m σ H=>m=xs.length - i∧i≤xs.length∧Pv i σ H,⟨xs.length,by simp,Nat.zero_le _,h0⟩,?_⟩
 rintro i m σ H ⟨rfl,hi,p⟩
 have q:=hl i σ H hi p
 by_cases hlt:i < xs.length
 ·refine .inr ⟨⟨xs,xs[i],q,by simp [hlt]⟩,Pv (i + 1),fun σ' H' p'=>⟨xs.length - (i + 1),by omega,rfl,hlt,p'⟩,fun x H' y=>?_⟩
  obtain ⟨e,y⟩:=y
  subst e
  exact hs i x σ _ (y xs q) p
 ·have e:i=xs.length:=by omega
  subst e
  exact .inl ⟨⟨xs,q,Nat.le_refl _⟩,hd σ H p⟩
theorem Yy {lo:Int} {n:Nat} {g:TG} {tb:TS} {D:Ends} {σ:St} {H:Hp} (Pv:Nat→St→Hp→Prop) (h0:Pv 0 σ H)
  (hs:∀ i σ H,i < n→Pv i σ H→g (.int (lo + i)) σ H fun σ2 H2=>tb { D with nx:=Pv (i + 1),ct:=Pv (i + 1),bk:=D.nx } σ2 H2) (hd:∀ σ H,Pv n σ H→D.nx σ H) :
  ∃ W:Nat→Nat→St→Hp→Prop,(∃ m,W 0 m σ H)∧∀ i m σ H,W i m σ H →
   ((Itr lo n).stop i H∧D.nx σ H)∨((Itr lo n).go i H∧∃ N:St→Hp→Prop,(∀ σ' H',N σ' H'→∃ m',m' < m∧W (i + 1) m' σ' H')∧∀ x H',(Itr lo n).yld i H x H'→g x σ H' fun σ2 H2=>tb { D with nx:=N,ct:=N,bk:=D.nx } σ2 H2):=by
 refine ⟨fun i m σ H=>m=n - i∧i≤n∧Pv i σ H,⟨n,by simp,Nat.zero_le _,h0⟩,?_⟩
 rintro i m σ H ⟨rfl,hi,p⟩
 by_cases hlt:i < n
 ·refine .inr ⟨hlt,Pv (i + 1),fun σ' H' p'=>⟨n - (i + 1),by omega,rfl,hlt,p'⟩,fun x H' y=>?_⟩
  obtain ⟨e,y⟩:=y
  subst e y
  exact hs i σ _ hlt p
 ·have e:i=n:=by omega
  subst e
  exact .inl ⟨Nat.le_refl _,hd σ H p⟩
end L2
namespace L2
open PySem PySem.Spec PyProof.Rows
noncomputable abbrev R2:=V→V→Hp→VK→Prop
noncomputable def OpR (X:Cx) (f:Value→Value→Sem Value) (r:R2):Prop :=
 ∀ (pins:List (Addr × Obj)) (s:Shared) (σ:St) (H:Hp) (x y:V) (v u:Value) (Q:VK),Inv X pins σ H s→RelV x v→RelV y u→r x y H Q →
  wpAny (model X.prog X.w) X.A (f v u) (EP X pins σ Q) X.xe s
noncomputable def UnR (X:Cx) (f:Value→Sem Value) (r:V→Hp→VK→Prop):Prop :=
 ∀ (pins:List (Addr × Obj)) (s:Shared) (σ:St) (H:Hp) (x:V) (v:Value) (Q:VK),Inv X pins σ H s→RelV x v→r x H Q →
  wpAny (model X.prog X.w) X.A (f v) (EP X pins σ Q) X.xe s
noncomputable def Jk (X:Cx) (f:Value) (r:List V→Hp→VK→Prop):Prop :=
 ∀ (pins:List (Addr × Obj)) (s:Shared) (σ:St) (H:Hp) (xs:List V) (us:List Value) (Q:VK),Inv X pins σ H s→Vals xs us→r xs H Q →
  wpAny (model X.prog X.w) X.A (call f us) (EP X pins σ Q) X.xe s
noncomputable def TruR (X:Cx) (r:V→Hp→(Bool→Hp→Prop)→Prop):Prop :=
 ∀ (pins:List (Addr × Obj)) (s:Shared) (σ:St) (H:Hp) (x:V) (v:Value) (Q:Bool→Hp→Prop),Inv X pins σ H s→RelV x v→r x H Q →
  wpAny (model X.prog X.w) X.A (truthy v) (TP X pins σ Q) X.xe s
noncomputable def tOp (r:R2) (ta tb:TE):TE:=fun σ H Q=>ta σ H fun x H1=>tb σ H1 fun y H2=>r x y H2 Q
noncomputable def tUn (r:V→Hp→VK→Prop) (ta:TE):TE:=fun σ H Q=>ta σ H fun x H1=>r x H1 Q
noncomputable def rI (C:Int→Int→Prop) (g:Int→Int→V):R2:=fun x y H Q=>∃ i j,x=.int i∧y=.int j∧C i j∧Q (g i j) H
noncomputable def rI0 (g:Int→Int→V):R2:=fun x y H Q=>∃ i j,x=.int i∧y=.int j∧Q (g i j) H
noncomputable def rU (g:Int→V):V→Hp→VK→Prop:=fun x H Q=>∃ i,x=.int i∧Q (g i) H
section
variable {X:Cx} {a b c:Expr} {ta tb tc:TE} {pos:Pos}
theorem binT (ha:PE X a ta) (hb:PE X b tb) {pins:List (Addr × Obj)} {s:Shared} {σ:St} {H:Hp} {R:V→V→Hp→Prop} (I:Inv X pins σ H s)
  (h:ta σ H fun x H1=>tb σ H1 fun y H2=>R x y H2) {Q:Value→Shared→Prop} {f:Value→Value→Sem Value}
  (hf:∀ v u s2 x y H2,Inv X pins σ H2 s2→RelV x v→RelV y u→R x y H2→wpAny (model X.prog X.w) X.A (f v u) Q X.xe s2) :
  wpAny (model X.prog X.w) X.A (eval a X.env) (fun v s₁=>wpAny (model X.prog X.w) X.A (eval b X.env) (fun u s₂=>wpAny (model X.prog X.w) X.A (f v u) Q X.xe s₂) X.xe s₁) X.xe s:=by
 refine thn (ha pins s σ H _ I h) fun v s1 zz9=>?_
 obtain ⟨x,H1,I1,r1,q1⟩:=zz9
 refine thn (hb pins s1 σ H1 _ I1 q1) fun u s2 zz9=>?_
 obtain ⟨y,H2,I2,r2,q2⟩:=zz9
 exact hf v u s2 x y H2 I2 r1 r2 q2
theorem Zi {op:Operator} {r:R2} (ho:OpR X (binaryOp op) r) (ha:PE X a ta) (hb:PE X b tb):PE X (.BinOp a op b pos) (tOp r ta tb):=by
 intro pins s σ H Q I h
 exact wpAny_BinOp (binT ha hb I h fun v u s2 x y H2 I2 rx ry q=>ho pins s2 σ H2 x y v u Q I2 rx ry q)
theorem Znv {op:UnaryOp} {r:V→Hp→VK→Prop} (ho:UnR X (unaryOp op) r) (ha:PE X a ta):PE X (.UnaryOp op a pos) (tUn r ta):=by
 intro pins s σ H Q I h
 refine UnaryOp_ (thn (ha pins s σ H _ I h) fun v s1 zz7=>?_)
 obtain ⟨x,H1,I1,r1,q1⟩:=zz7
 exact ho pins s1 σ H1 x v Q I1 r1 q1
theorem opI {f:Value→Value→Sem Value} {C:Int→Int→Prop} {g:Int→Int→Int}
  (rule:∀ (i j:Int) (t u:Tok) (s:Shared) (Q:Value→Shared→Prop) (E:Value→Shared→Prop),C i j→Q (.int (g i j) s.toks) { s with toks:=s.toks + 1 }→wpAny (model X.prog X.w) X.A (f (.int i t) (.int j u)) Q E s) :
  OpR X f (rI C fun i j=>.int (g i j)):=by
 intro pins s σ H x y v u Q I rx ry h
 obtain ⟨i,j,rfl,rfl,hc,q⟩:=h
 obtain ⟨t,rfl⟩:=rx
 obtain ⟨t',rfl⟩:=ry
 exact rule i j t t' s _ _ hc ⟨.int (g i j),H,I.tok _,⟨_,rfl⟩,q⟩
theorem opI0 {f:Value→Value→Sem Value} {g:Int→Int→Int}
  (rule:∀ (i j:Int) (t u:Tok) (s:Shared) (Q:Value→Shared→Prop) (E:Value→Shared→Prop),Q (.int (g i j) s.toks) { s with toks:=s.toks + 1 }→wpAny (model X.prog X.w) X.A (f (.int i t) (.int j u)) Q E s) :
  OpR X f (rI0 fun i j=>.int (g i j)):=by
 intro pins s σ H x y v u Q I rx ry h
 obtain ⟨i,j,rfl,rfl,q⟩:=h
 obtain ⟨t,rfl⟩:=rx
 obtain ⟨t',rfl⟩:=ry
 exact rule i j t t' s _ _ ⟨.int (g i j),H,I.tok _,⟨_,rfl⟩,q⟩
theorem opB0 {f:Value→Value→Sem Value} {g:Int→Int→Bool}
  (rule:∀ (i j:Int) (t u:Tok) (s:Shared) (Q:Value→Shared→Prop) (E:Value→Shared→Prop),Q (.bool (g i j)) s→wpAny (model X.prog X.w) X.A (f (.int i t) (.int j u)) Q E s) :
  OpR X f (rI0 fun i j=>.bl (g i j)):=by
 intro pins s σ H x y v u Q I rx ry h
 obtain ⟨i,j,rfl,rfl,q⟩:=h
 obtain ⟨t,rfl⟩:=rx
 obtain ⟨t',rfl⟩:=ry
 exact rule i j t t' s _ _ ⟨.bl (g i j),H,I,rfl,q⟩
noncomputable def CDiv (i j:Int):Prop:=0 < j∧j < 1073741824
noncomputable def CPow (i j:Int):Prop:=0≤j∧j≤1000000∧i.natAbs < 2 ^ 64
noncomputable def CMul (i j:Int):Prop:=(-(2 ^ 64) < i∧i < 2 ^ 64)∨(-(2 ^ 64) < j∧j < 2 ^ 64)
theorem CMul.ok {i j:Int} (h:CMul i j):IntMulOk i j:=by
 rcases h with ⟨h1,h2⟩ | ⟨h1,h2⟩
 ·exact .of_left (intBits_le_64 h1 h2)
 ·exact .of_right (intBits_le_64 h1 h2)
theorem Ya:OpR X (binaryOp .Add) (rI0 fun i j=>.int (i + j)):=opI0 fun _ _ _ _ _ _ _ q=>add_int q
theorem Qt:OpR X (binaryOp .Sub) (rI0 fun i j=>.int (i - j)):=opI0 fun _ _ _ _ _ _ _ q=>sub_int q
theorem Xd:OpR X (binaryOp .Mult) (rI CMul fun i j=>.int (i * j)):=opI fun _ _ _ _ _ _ _ hc q=>mul_int q hc.ok
theorem Yd:OpR X (binaryOp .FloorDiv) (rI CDiv fun i j=>.int (i / j)):=opI fun i j _ _ _ _ _ hc q=>by
 have h1:(0:Int) < j:=hc.1
 have h2:j < 1073741824:=hc.2
 exact floordiv_int (by omega) (by rw [Int.fdiv_eq_ediv_of_nonneg i (by omega)]; exact q) (.inl (PyProof.noPylong_small (by omega)))
theorem Zz:OpR X (binaryOp .Mod) (rI (fun _ j=>0 < j) fun i j=>.int (i % j)):=opI fun i j _ _ _ _ _ hc q=>by
 have h1:(0:Int) < j:=hc
 exact mod_int' (by omega) (by rw [Int.fmod_eq_emod_of_nonneg i (by omega)]; exact q)
theorem Zmt:OpR X (binaryOp .Pow) (rI CPow fun i j=>.int (i ^ j.toNat)):=opI fun _ _ _ _ _ _ _ hc q=>pow_int_small hc.1 hc.2.1 hc.2.2 q
theorem unI {f:Value→Sem Value} {g:Int→Int}
  (rule:∀ (i:Int) (t:Tok) (s:Shared) (Q:Value→Shared→Prop) (E:Value→Shared→Prop),Q (.int (g i) s.toks) { s with toks:=s.toks + 1 }→wpAny (model X.prog X.w) X.A (f (.int i t)) Q E s) :
  UnR X f (rU fun i=>.int (g i)):=by
 intro pins s σ H x v Q I rx h
 obtain ⟨i,rfl,q⟩:=h
 obtain ⟨t,rfl⟩:=rx
 exact rule i t s _ _ ⟨.int (g i),H,I.tok _,⟨_,rfl⟩,q⟩
theorem Zl0:UnR X (unaryOp .USub) (rU fun i=>.int (-i)):=unI fun _ _ _ _ _ q=>neg_int q
end
noncomputable def scal:V→V→Bool
 | .non,.non=>true | .non,.int _=>true | .int _,.non=>true | .non,.bl _=>true | .bl _,.non=>true | .non,.str _=>true | .str _,.non=>true
 | .int _,.int _=>true | .bl _,.bl _=>true | .str _,.str _=>true | .byt _,.byt _=>true
 | .int _,.str _=>true | .str _,.int _=>true | .bl _,.str _=>true | .str _,.bl _=>true
 | _,_=>false
noncomputable def rEq:R2:=fun x y H Q=>scal x y=true∧Q (.bl (decide (x=y))) H
noncomputable def rNe:R2:=fun x y H Q=>scal x y=true∧Q (.bl (!decide (x=y))) H
theorem Zd2 {i j:Int}:decide (V.int i=V.int j)=(i == j):=by
 rw [Bool.eq_iff_iff]
 simp
theorem Zg9 {i j:Bool}:decide (V.bl i=V.bl j)=(i == j):=by
 rw [Bool.eq_iff_iff]
 simp
theorem Zd1 {i j:Str}:decide (V.str i=V.str j)=(i == j):=by
 rw [Bool.eq_iff_iff]
 simp
theorem Zd3 {i j:Array UInt8}:decide (V.byt i=V.byt j)=(i.toList == j.toList):=by
 rw [Bool.eq_iff_iff]
 cases i
 cases j
 simp
section
variable {X:Cx} {a b c:Expr} {ta tb tc:TE} {pos:Pos}
theorem Z5 {pins:List (Addr × Obj)} {σ:St} {H:Hp} {s:Shared} {Q:VK} {k k':Bool} (I:Inv X pins σ H s) (q:Q (.bl k) H) (e:k=k'):EP X pins σ Q (.bool k') s:=by
 subst e
 exact ⟨.bl k,H,I,rfl,q⟩
theorem Yv:OpR X (compareOp .Eq) rEq:=by
 intro pins s σ H x y v u Q I rx ry h
 obtain ⟨hs,q⟩:=h
 cases x with
 | non =>
  cases rx
  cases y with
  | non=>cases ry; exact PySem.EqNone.eq_none_none (Z5 I q (by simp))
  | bl j=>cases ry; exact PySem.EqNone.eq_none_bool (Z5 I q (by simp))
  | int j=>obtain ⟨t',rfl⟩:=ry; exact PySem.EqNone.eq_none_int (Z5 I q (by simp))
  | str j=>obtain ⟨t',rfl⟩:=ry; exact PySem.EqNone.eq_none_str (Z5 I q (by simp))
  | _=>exact absurd (show false=true from hs) Bool.false_ne_true
 | bl i =>
  cases rx
  cases y with
  | non=>cases ry; exact PySem.EqNone.eq_bool_none (Z5 I q (by simp))
  | bl j=>cases ry; exact eq_bool (Z5 I q Zg9)
  | str j=>obtain ⟨t',rfl⟩:=ry; exact PySem.EqMixed.eq_bool_str (Z5 I q (by simp))
  | _=>exact absurd (show false=true from hs) Bool.false_ne_true
 | int i =>
  obtain ⟨t,rfl⟩:=rx
  cases y with
  | non=>cases ry; exact PySem.EqNone.eq_int_none (Z5 I q (by simp))
  | int j=>obtain ⟨t',rfl⟩:=ry; exact eq_int (Z5 I q Zd2)
  | str j=>obtain ⟨t',rfl⟩:=ry; exact PySem.EqMixed.eq_int_str (Z5 I q (by simp))
  | _=>exact absurd (show false=true from hs) Bool.false_ne_true
 | str i =>
  obtain ⟨t,rfl⟩:=rx
  cases y with
  | non=>cases ry; exact PySem.EqNone.eq_str_none (Z5 I q (by simp))
  | bl j=>cases ry; exact PySem.EqMixed.eq_str_bool (Z5 I q (by simp))
  | int j=>obtain ⟨t',rfl⟩:=ry; exact PySem.EqMixed.eq_str_int (Z5 I q (by simp))
  | str j=>obtain ⟨t',rfl⟩:=ry; exact eq_str (Z5 I q Zd1)
  | _=>exact absurd (show false=true from hs) Bool.false_ne_true
 | byt i =>
  obtain ⟨t,rfl⟩:=rx
  cases y with
  | byt j=>obtain ⟨t',rfl⟩:=ry; exact PySem.W.eq_bytes (Z5 I q Zd3)
  | _=>exact absurd (show false=true from hs) Bool.false_ne_true
 | _=>cases y <;> exact absurd (show false=true from hs) Bool.false_ne_true
theorem Q5:OpR X (compareOp .NotEq) rNe:=by
 intro pins s σ H x y v u Q I rx ry h
 obtain ⟨hs,q⟩:=h
 cases x with
 | non =>
  cases rx
  cases y with
  | non=>cases ry; exact PySem.EqNone.ne_none_none (Z5 I q (by simp))
  | bl j=>cases ry; exact PySem.EqNone.ne_none_bool (Z5 I q (by simp))
  | int j=>obtain ⟨t',rfl⟩:=ry; exact PySem.EqNone.ne_none_int (Z5 I q (by simp))
  | str j=>obtain ⟨t',rfl⟩:=ry; exact PySem.EqNone.ne_none_str (Z5 I q (by simp))
  | _=>exact absurd (show false=true from hs) Bool.false_ne_true
 | bl i =>
  cases rx
  cases y with
  | non=>cases ry; exact PySem.EqNone.ne_bool_none (Z5 I q (by simp))
  | bl j=>cases ry; exact ne_bool (Z5 I q (congrArg not Zg9))
  | str j=>obtain ⟨t',rfl⟩:=ry; exact PySem.EqMixed.ne_bool_str (Z5 I q (by simp))
  | _=>exact absurd (show false=true from hs) Bool.false_ne_true
 | int i =>
  obtain ⟨t,rfl⟩:=rx
  cases y with
  | non=>cases ry; exact PySem.EqNone.ne_int_none (Z5 I q (by simp))
  | int j=>obtain ⟨t',rfl⟩:=ry; exact ne_int (Z5 I q (congrArg not Zd2))
  | str j=>obtain ⟨t',rfl⟩:=ry; exact PySem.EqMixed.ne_int_str (Z5 I q (by simp))
  | _=>exact absurd (show false=true from hs) Bool.false_ne_true
 | str i =>
  obtain ⟨t,rfl⟩:=rx
  cases y with
  | non=>cases ry; exact PySem.EqNone.ne_str_none (Z5 I q (by simp))
  | bl j=>cases ry; exact PySem.EqMixed.ne_str_bool (Z5 I q (by simp))
  | int j=>obtain ⟨t',rfl⟩:=ry; exact PySem.EqMixed.ne_str_int (Z5 I q (by simp))
  | str j=>obtain ⟨t',rfl⟩:=ry; exact ne_str (Z5 I q (congrArg not Zd1))
  | _=>exact absurd (show false=true from hs) Bool.false_ne_true
 | byt i =>
  obtain ⟨t,rfl⟩:=rx
  cases y with
  | byt j=>obtain ⟨t',rfl⟩:=ry; exact PySem.W.ne_bytes (Z5 I q (congrArg not Zd3))
  | _=>exact absurd (show false=true from hs) Bool.false_ne_true
 | _=>cases y <;> exact absurd (show false=true from hs) Bool.false_ne_true
theorem Q6:OpR X (compareOp .Lt) (rI0 fun i j=>.bl (decide (i < j))):=opB0 fun _ _ _ _ _ _ _ q=>lt_int q
theorem Znw:OpR X (compareOp .LtE) (rI0 fun i j=>.bl (decide (i≤j))):=opB0 fun _ _ _ _ _ _ _ q=>le_int q
theorem U6:OpR X (compareOp .Gt) (rI0 fun i j=>.bl (decide (j < i))):=opB0 fun _ _ _ _ _ _ _ q=>gt_int q
theorem Zjo:OpR X (compareOp .GtE) (rI0 fun i j=>.bl (decide (j≤i))):=opB0 fun _ _ _ _ _ _ _ q=>ge_int q
theorem Zmu:OpR X (compareOp .Is) (fun x y H Q=>y=.non∧Q (.bl (decide (x=.non))) H):=by
 intro pins s σ H x y v u Q I rx ry h
 obtain ⟨rfl,q⟩:=h
 cases ry
 refine is_none_gen (Z5 I q ?_)
 cases x <;> first
  | (cases rx; rfl)
  | (obtain ⟨t,rfl⟩:=rx; rfl)
theorem Qj:OpR X (compareOp .IsNot) (fun x y H Q=>y=.non∧Q (.bl (!decide (x=.non))) H):=by
 intro pins s σ H x y v u Q I rx ry h
 obtain ⟨rfl,q⟩:=h
 cases ry
 refine isnot_none_gen (Z5 I q ?_)
 cases x <;> first
  | (cases rx; rfl)
  | (obtain ⟨t,rfl⟩:=rx; rfl)
theorem Zu (b:Expr) {op:CmpOp} (h:op≠.In:=by decide) (h2:op≠.NotIn:=by decide):behindInMarks op b=false:=by
 have e1:(op == CmpOp.In)=false:=by cases op <;> first | rfl | exact absurd rfl h
 have e2:(op == CmpOp.NotIn)=false:=by cases op <;> first | rfl | exact absurd rfl h2
 cases b <;> simp [behindInMarks,e1,e2]
theorem Jq {op:CmpOp} {r:R2} (ho:OpR X (compareOp op) r) (ha:PE X a ta) (hb:PE X b tb) (hm:behindInMarks op b=false):PE X (.Compare a [op] [b] pos) (tOp r ta tb):=by
 intro pins s σ H Q I h
 exact wpAny_Compare1 (binT ha hb I h fun v u s2 x y H2 I2 rx ry q=>ho pins s2 σ H2 x y v u Q I2 rx ry q) hm
noncomputable def Zni (t:TE):TT:=fun σ H Q=>t σ H fun x H'=>∃ k,x=.bl k∧Q k H'
theorem Zt {op:CmpOp} {r:R2} (ho:OpR X (compareOp op) r) (ha:PE X a ta) (hb:PE X b tb) (hm:behindInMarks op b=false):PT X (.Compare a [op] [b] pos) (Zni (tOp r ta tb)):=by
 intro pins s σ H Q I h
 refine wpAny_isTrue_Compare1 (thn (ha pins s σ H _ I h) fun v s1 ⟨x,H1,I1,r1,q1⟩=>thn (hb pins s1 σ H1 _ I1 q1) fun u s2 ⟨y,H2,I2,r2,q2⟩ =>
  thn (ho pins s2 σ H2 x y v u _ I2 r1 r2 q2) fun c s3 ⟨z,H3,I3,r3,k,e,q3⟩=>?_) hm
 subst e
 cases r3
 exact wpAny_truthy_bool ⟨H3,I3,q3⟩
noncomputable def Zmb (r r':R2) (ta tb tc:TE):TE:=fun σ H Q=>ta σ H fun x H1=>tb σ H1 fun y H2=>r x y H2 fun z H3=>∃ k,z=.bl k ∧
 (if k=true then tc σ H3 fun w' H4=>r' y w' H4 Q else Q (.bl false) H3)
theorem Zif {op op':CmpOp} {r r':R2} (ho:OpR X (compareOp op) r) (ho':OpR X (compareOp op') r') (ha:PE X a ta) (hb:PE X b tb) (hc:PE X c tc)
  (hm:lastMarks [op,op'] [b,c]=false:=by with_unfolding_all rfl):PE X (.Compare a [op,op'] [b,c] pos) (Zmb r r' ta tb tc):=by
 intro pins s σ H Q I h
 refine Compare_chain (thn (ha pins s σ H _ I h) fun v s1 ⟨x,H1,I1,r1,q1⟩=>chain_link (thn (hb pins s1 σ H1 _ I1 q1) fun u s2 ⟨y,H2,I2,r2,q2⟩ =>
  thn (ho pins s2 σ H2 x y v u _ I2 r1 r2 q2) fun d s3 ⟨z,H3,I3,r3,k,e,q3⟩=>?_)) hm
 subst e
 cases r3
 refine wpAny_truthy_bool ?_
 cases k with
 | false=>exact ite_ff ⟨.bl false,H3,I3,rfl,q3⟩
 | true=>exact ite_tt (chain_last (thn (hc pins s3 σ H3 _ I3 q3) fun w' s4 ⟨z',H4,I4,r4,q4⟩=>ho' pins s4 σ H4 y z' u w' Q I4 r2 r4 q4))
noncomputable def TruV (K:PySem.W.Frag) (x:V) (H:Hp) (k:Bool):Prop :=
 match x with
 | .non=>k=false
 | .bl b=>k=b
 | .int i=>k=(i != 0)
 | .str y=>y.length≤sizeLine∧k=((y.length:Int) != 0)
 | .byt y=>y.size≤sizeLine∧k=((y.size:Int) != 0)
 | .ref p=>(∃ xs,SqL K H p xs∧k=!xs.isEmpty)∨(∃ xs,SqT K H p xs∧k=!xs.isEmpty)∨∃ kvs,H p=some (.dK kvs)∧k=!kvs.isEmpty
 | _=>False
theorem Zey {κ:Type} {kvs:List (κ × V)} {vs:List (κ × Value)} (r:KV kvs vs):(!vs.isEmpty)=!kvs.isEmpty:=by
 cases r <;> rfl
theorem K5 {xs:List V} {its:List Value} (r:Vals xs its):(!its.toArray.isEmpty)=!xs.isEmpty:=by
 cases r <;> simp
theorem Uv:(sizeLine:Nat) < 2 ^ 63:=by rw [sizeLine_eq]; decide
theorem Zl3:TruR X (fun x H Q=>∃ k,TruV X.K x H k∧Q k H):=by
 intro pins s σ H x v Q I rx h
 obtain ⟨k,e,q⟩:=h
 have hl:=Uv
 have hs:sizeLine=16777216:=sizeLine_eq
 cases x with
 | non =>
  cases rx
  have e':k=false:=e
  subst e'
  exact truthy_none ⟨H,I,q⟩
 | bl b =>
  cases rx
  have e':k=b:=e
  subst e'
  exact wpAny_truthy_bool ⟨H,I,q⟩
 | int i =>
  obtain ⟨t,rfl⟩:=rx
  have e':k=(i != 0):=e
  subst e'
  exact PySem.P.truthy_int ⟨H,I,q⟩
 | str y =>
  obtain ⟨t,rfl⟩:=rx
  obtain ⟨hy,e'⟩:y.length≤sizeLine∧k=((y.length:Int) != 0):=e
  subst e'
  exact PySem.P.truthy_str (by omega) ⟨H,I.tok _,q⟩
 | byt y =>
  obtain ⟨t,rfl⟩:=rx
  obtain ⟨hy,e'⟩:y.size≤sizeLine∧k=((y.size:Int) != 0):=e
  subst e'
  exact PySem.W.truthy_bytes (by omega) ⟨H,I.tok _,q⟩
 | ref p =>
  cases rx
  have e':(∃ xs,SqL X.K H p xs∧k=!xs.isEmpty)∨(∃ xs,SqT X.K H p xs∧k=!xs.isEmpty)∨∃ kvs,H p=some (.dK kvs)∧k=!kvs.isEmpty:=e
  rcases e' with ⟨xs,hx,e'⟩ | ⟨xs,hx,e'⟩ | ⟨kvs,hx,e'⟩
  ·subst e'
   obtain ⟨its,r,pl,hz⟩:=I.list hx
   have hlen:=r.length
   exact wpAny_truthy_list pl.isList (by simp only [List.size_toArray]; omega) ⟨H,I.tok _,by rw [K5 r]; exact q⟩
  ·subst e'
   obtain ⟨its,r,pl,hz⟩:=I.tuple hx
   have hlen:=r.length
   exact truthy_tuple pl (by simp only [List.size_toArray]; omega) ⟨H,I.tok _,by rw [K5 r]; exact q⟩
  ·subst e'
   obtain ⟨hz,hS,vs,r,m⟩:kvs.length≤sizeLine∧(p == sysModules)=false∧∃ vs,KV kvs vs∧s.heap.DictOf (Z9 X.prog X.w) p vs:=I.hok p _ hx
   have hlen:kvs.length=vs.length:=Paired.length r
   exact wpAny_truthy_dict hS m (by omega) ⟨H,I.tok _,by rw [Zey r]; exact q⟩
 | _=>exact (show False from e).elim
theorem O0 (ha:PE X a ta) (he:∀ whole,isTrue a X.env whole=(do let v ← whole; standAt a.pos; holding [v] (truthy v))) :
  PT X a (fun σ H Q=>ta σ H fun x H'=>∃ k,TruV X.K x H' k∧Q k H'):=by
 intro pins s σ H Q I h
 refine isTrue_plain (thn (ha pins s σ H _ I h) fun v s1 zz8=>?_) (he _)
 obtain ⟨x,H1,I1,r1,q1⟩:=zz8
 exact Zl3 pins s1 σ H1 x v Q I1 r1 q1
theorem Jz {x:V} {us:List Value} (r:Vals [x] us):∃ u,us=[u]∧RelV x u:=by
 cases r with
 | cons r1 r2=>cases r2; exact ⟨_,rfl,r1⟩
end
end L2
namespace L2
open PySem PySem.Spec PyProof.Rows
structure ObjM (h:Heap) (x dx C:Addr) (mA:Str→Option Value):Prop where
 obj:h.get? x=some (PySem.W.instObj C dx)
 ns:h.Ns1 dx mA
 ne:dx≠x
theorem Zgt {h:Heap} {dx:Addr} {mA:Str→Option Value} (n:h.Ns1 dx mA):∃ od,h.get? dx=some od∧∀ name,PySem.W.lookIn name od=some (mA name):=by
 obtain ⟨o,es,ep,ho,hd,hk,_,hm⟩:=n
 refine ⟨o,ho,fun name=>?_⟩
 have e:=hm name
 unfold nsFind findBy at e
 rw [← Array.find?_toList] at e
 unfold PySem.W.lookIn
 rw [hd]
 dsimp only
 split
 ·rename_i y q
  rw [q] at e
  exact congrArg some e
 ·rename_i q
  rw [q] at e
  have a:es.toList.any (·.refKey)=false:=by
   rw [List.any_eq_false]
   intro y hy
   obtain ⟨z,t,hkey⟩:=hk y (Array.mem_toList_iff.mp hy)
   simp [DictEntry.refKey,hkey]
  have a':¬ es.toList.any (·.refKey)=true:=by rw [a]; exact Bool.false_ne_true
  rw [if_neg a']
  exact congrArg some e
theorem ObjM.look {h:Heap} {x dx C:Addr} {mA:Str→Option Value} (I:ObjM h x dx C mA):∃ od,PySem.W.InstAt h x (PySem.W.instObj C dx) C (some od)∧∀ name,PySem.W.lookIn name od=some (mA name) :=
 let ⟨od,ho,hl⟩:=Zgt I.ns
 ⟨od,⟨I.obj,rfl,rfl,ho⟩,hl⟩
section
variable {prog:Program} {w:World} {A:Around} {E:Value→Shared→Prop} {s:Shared} {K:PySem.W.Frag} {x dx C f:Addr} {mA:Str→Option Value} {name:Str} {v:Value}
theorem Zlg {expr:Bool} {Q:Value→Shared→Prop} (X:K.In s.heap) (I:ObjM s.heap x dx C mA) (hg:PySem.W.plainGet K C name=true) (hh:PySem.W.hasDictIn K C=true)
  (ha:PySem.W.findIn K (.ref C) name=some none) (hv:mA name=some v) (hv':PySem.W.handedIn v=true) (h:Q v { s with toks:=s.toks + 1 }) :
  wpAny (model prog w) A (getAttr (.ref x) name expr) Q E s:=by
 obtain ⟨od,J,hl⟩:=I.look
 exact PySem.W.get_value X J (PySem.W.plainGet_of hg).1 (PySem.W.findObj_own hh ha rfl (by rw [hl,hv])) hv' h
theorem Zi4 {pl:Sem Bool} {Q:Value × List Value→Shared→Prop} (X:K.In s.heap) (I:ObjM s.heap x dx C mA) (hg:PySem.W.plainGet K C name=true)
  (hf:PySem.W.findIn K (.ref C) name=some (some (.ref f))) (ht:PySem.W.isFn K (.ref f)=true) (hv:mA name=none) (h:Q (.ref f,[.ref x]) s) :
  wpAny (model prog w) A (getMethod (.ref x) name pl) Q E s:=by
 obtain ⟨od,J,hl⟩:=I.look
 exact PySem.W.method_fn X J (PySem.W.plainGet_of hg).1 (PySem.W.plainGet_of hg).2 hf (beq_iff_eq.mp ht) (by show (PySem.W.lookIn name od).map (·.isSome)=some false; rw [hl,hv]; rfl) h
theorem Zki {ns:List Str} {Q:Unit→Shared→Prop} (X:K.In s.heap) (I:ObjM s.heap x dx C mA)
  (hs:PySem.W.findIn K (.ref C) "__setattr__"=some (some (.builtin "object.__setattr__"))) (hp:PySem.W.plainOver K C=true) (ht:PySem.W.takerIn K C name=some none) (hh:PySem.W.hasDictIn K C=true)
  (hw:PySem.Within mA ns) (hsz:ns.length≤sizeLine)
  (h:∀ h',ObjM h' x dx C (fun y=>if y=name then some v else mA y)→Heap.SameBut dx s.heap h'→Q () { s with heap:=h',toks:=s.toks + 2 }) :
  wpAny (model prog w) A (setAttr (.ref x) name v) Q E s:=by
 obtain ⟨od,J,hl⟩:=I.look
 refine PySem.W.set_plain X J hs (PySem.W.osa_open (s:={ s with toks:=s.toks + 1 }) (r:=none) X J hp ht fun b=>?_)
 obtain ⟨cd,hc,hd'⟩:=PySem.W.any_some hh
 have hx:s.heap.get? x=some ⟨.ref C,some dx,.plain,#[]⟩:=I.obj
 refine wpAny_bind (wpAny_pure (wpAny_bind (wpAny_bind (wpAny_loadPart hx (wpAny_bind (PySem.W.Looks.here (s:={ s with toks:=s.toks + 1 }) (PySem.W.looks_clsIn X hc) ?_))))))
 rw [hd']
 refine wpAny_pure (a:=some dx) (wpAny_bind (wpAny_pure (wpAny_bind ?_)))
 refine wpAny_nsSet1 (s:={ s with toks:=s.toks + 1 }) I.ns fun h' hn2 hs2=>?_
 obtain ⟨oD,esD,epD,hoD,hdD,hcD⟩:=hn2.count (PySem.Within.cons name v hw)
 refine wpAny_bind (wpAny_lookBehind hoD (by rw [hdD]; exact pastItsLine_dict (Nat.le_trans hcD (by rw [List.length_cons]; omega))) ?_)
 exact wpAny_pure (h _ ⟨(hs2.2 _ (Ne.symm I.ne)).trans I.obj,hn2,I.ne⟩ hs2)
theorem Zip {R:Result→Shared→Prop} {vs:List Value} {kw:List (Str × Value)} (X:K.In s.heap) (hm:PySem.W.makesIn K C=true)
  (hi:PySem.W.findIn K (.ref C) "__init__"=some (some (.ref f))) (hf:PySem.W.typeIn K (.ref f)=some (.type "function"))
  (h:codeAny (model prog w) (A.under (.builtin "type.__call__" ⟨.ref C :: vs,kw⟩)) (.call (.ref f) ⟨.ref (s.heap.objs.size + 1) :: vs,kw⟩) (PySem.W.InitBack (s.heap.objs.size + 1) R)
   { s with heap:=(s.heap.push PySem.W.emptyDict).push (PySem.W.instObj C s.heap.objs.size) }) :
  codeAny (model prog w) A (.call (.ref C) ⟨vs,kw⟩) R s:=by
 obtain ⟨hh,g,d,t,os⟩:=s
 exact PySem.W.make_core (PySem.W.makes_of X hm) (PySem.W.looks_findIn X hi) (fun self=>PySem.W.bind_fn X self hf) (.inl rfl) h
end
noncomputable def putF (f:Str) (v:V):List (Str × V)→List (Str × V)
 | []=>[(f,v)]
 | (g,x) :: r=>if g=f then (g,v) :: r else (g,x) :: putF f v r
theorem Z1 (f g:Str) (v:V):∀ fs:List (Str × V),(putF f v fs).lookup g=if g=f then some v else fs.lookup g
 | []=>by
  show List.lookup g [(f,v)]=_
  by_cases h:g=f
  ·have hb:(g == f)=true:=beq_iff_eq.mpr h
   simp only [List.lookup,hb,if_pos h]
  ·have hb:(g == f)=false:=beq_eq_false_iff_ne.mpr h
   simp only [List.lookup,hb,if_neg h]
 | (k,x) :: r=>by
  have ih:=Z1 f g v r
  rw [show putF f v ((k,x) :: r)=(if k=f then (k,v) :: r else (k,x) :: putF f v r) from rfl]
  by_cases hk:k=f
  ·rw [if_pos hk]
   by_cases h:g=k
   ·have hb:(g == k)=true:=beq_iff_eq.mpr h
    simp only [List.lookup,hb,if_pos (h.trans hk)]
   ·have hb:(g == k)=false:=beq_eq_false_iff_ne.mpr h
    simp only [List.lookup,hb,if_neg (fun e:g=f=>h (e.trans hk.symm))]
  ·rw [if_neg hk]
   by_cases h:g=k
   ·have hb:(g == k)=true:=beq_iff_eq.mpr h
    simp only [List.lookup,hb,if_neg (fun e:g=f=>hk (h.symm.trans e))]
   ·have hb:(g == k)=false:=beq_eq_false_iff_ne.mpr h
    simp only [List.lookup,hb]
    exact ih
theorem Uw (f:Str) (v:V):∀ fs:List (Str × V),f∈(putF f v fs).map (·.1)∧∀ g,g∈fs.map (·.1)→g∈(putF f v fs).map (·.1)
 | []=>⟨by simp [putF],fun g h=>by simp at h⟩
 | (k,x) :: r=>by
  obtain ⟨i1,i2⟩:=Uw f v r
  rw [show putF f v ((k,x) :: r)=(if k=f then (k,v) :: r else (k,x) :: putF f v r) from rfl]
  by_cases hk:k=f
  ·rw [if_pos hk]
   subst hk
   exact ⟨by simp,fun g h=>by simpa using h⟩
  ·rw [if_neg hk]
   refine ⟨?_,fun g h=>?_⟩
   ·rw [List.map_cons]
    exact List.mem_cons_of_mem _ i1
   ·rw [List.map_cons] at h ⊢
    rcases List.mem_cons.mp h with e | e
    ·exact List.mem_cons.mpr (.inl e)
    ·exact List.mem_cons_of_mem _ (i2 g e)
theorem Ox (f:Str) (v:V):∀ fs:List (Str × V),(putF f v fs).length≤fs.length + 1
 | []=>by simp [putF]
 | (k,x) :: r=>by
  have ih:=Ox f v r
  rw [show putF f v ((k,x) :: r)=(if k=f then (k,v) :: r else (k,x) :: putF f v r) from rfl]
  by_cases hk:k=f
  ·rw [if_pos hk,List.length_cons,List.length_cons]; omega
  ·rw [if_neg hk,List.length_cons,List.length_cons]; omega
theorem RelO.some_of {v:V} {o:Option Value} (r:RelO (some v) o):∃ u,o=some u∧RelV v u:=by
 cases o with
 | none=>exact (show False from r).elim
 | some u=>exact ⟨u,rfl,r⟩
theorem RelO.none_of {o:Option Value} (r:RelO none o):o=none:=by
 cases o with
 | none=>rfl
 | some u=>exact (show False from r).elim
theorem Zgz {v:V} {u:Value} (r:RelV v u):PySem.W.handedIn u=true:=by
 cases v with
 | non=>cases (show u=Value.none from r); rfl
 | bl b=>cases (show u=Value.bool b from r); rfl
 | int i=>obtain ⟨t,e⟩:=(show ∃ t,u=Value.int i t from r); cases e; rfl
 | str x=>obtain ⟨t,e⟩:=(show ∃ t,u=Value.str x t from r); cases e; rfl
 | byt b=>obtain ⟨t,e⟩:=(show ∃ t,u=Value.bytes b t from r); cases e; rfl
 | flt b=>obtain ⟨t,e⟩:=(show ∃ t,u=Value.float b t from r); cases e; rfl
 | ref a=>cases (show u=Value.ref a from r); rfl
 | ty n=>cases (show u=Value.type n from r); rfl
section
variable {P:Program} {w:World} {H H':Hp} {h h':Heap} {a C dx:Addr} {fs fs':List (Str × V)}
theorem Oa (hok:HOk P w H h) (e:H a=some (.ins C dx fs)):∃ mA,ObjM h a dx C mA∧(∀ f,RelO (fs.lookup f) (mA f))∧PySem.Within mA (fs.map (·.1))∧fs.length≤1000∧H dx=some (.own a):=by
 obtain ⟨d,z,ne,ob,mA,n,r,q⟩:=(show Yf P w H h a (.ins C dx fs) from hok a _ e)
 exact ⟨mA,⟨ob,n,ne⟩,r,q,z,d⟩
end
structure Cls (K:PySem.W.Frag) (C:Addr):Prop where
 pg:PySem.W.plainGet K C Str.empty=true
 hd:PySem.W.hasDictIn K C=true
 po:PySem.W.plainOver K C=true
 sa:PySem.W.findIn K (.ref C) "__setattr__"=some (some (.builtin "object.__setattr__"))
theorem Cls.get {K:PySem.W.Frag} {C:Addr} (c:Cls K C) (f:Str):PySem.W.plainGet K C f=true:=c.pg
noncomputable def W7 (K:PySem.W.Frag) (C:Addr) (f:Str):Prop:=PySem.W.findIn K (.ref C) f=some none
theorem W7.taker {K:PySem.W.Frag} {C:Addr} {f:Str} (n:W7 K C f):PySem.W.takerIn K C f=some none:=by
 unfold PySem.W.takerIn
 rw [show PySem.W.findIn K (.ref C) f=some none from n]
 rfl
structure Meth (K:PySem.W.Frag) (C:Addr) (m:Str) (f:Addr):Prop where
 at_:PySem.W.findIn K (.ref C) m=some (some (.ref f))
 fn:PySem.W.isFn K (.ref f)=true
 kp:PySem.W.keepIn K (.ref f)=true
section
variable {X:Cx} {pins:List (Addr × Obj)} {σ:St} {H:Hp} {s:Shared} {a C dx:Addr} {fs:List (Str × V)} {f:Str} {v:V} {A:Around} {E:Value→Shared→Prop}
theorem Zez {b:Bool} {Q:Value→Shared→Prop} (I:Inv X pins σ H s) (e:H a=some (.ins C dx fs)) (c:Cls X.K C) (n:W7 X.K C f) (l:fs.lookup f=some v)
  (h:∀ u s',Inv X pins σ H s'→RelV v u→Q u s'):wpAny (model X.prog X.w) A (getAttr (.ref a) f b) Q E s:=by
 obtain ⟨mA,O,r,_,_,_⟩:=Oa I.hok e
 obtain ⟨u,hu,ru⟩:=RelO.some_of (v:=v) (o:=mA f) (by rw [← l]; exact r f)
 exact Zlg I.kIn O (c.get f) c.hd n hu (Zgz ru) (h u _ (I.tok _) ru)
theorem V2 {m:Str} {g:Addr} {pl:Sem Bool} {Q:Value × List Value→Shared→Prop} (I:Inv X pins σ H s) (e:H a=some (.ins C dx fs)) (c:Cls X.K C) (k:Meth X.K C m g) (l:fs.lookup m=none)
  (h:Q (.ref g,[.ref a]) s):wpAny (model X.prog X.w) A (getMethod (.ref a) m pl) Q E s:=by
 obtain ⟨mA,O,r,_,_,_⟩:=Oa I.hok e
 have hn:mA m=none:=RelO.none_of (by rw [← l]; exact r m)
 exact Zi4 I.kIn O (c.get m) k.at_ k.fn hn h
theorem Zei {y:V} {u:Value} {Q:Unit→Shared→Prop} (I:Inv X pins σ H s) (e:H a=some (.ins C dx fs)) (c:Cls X.K C) (n:W7 X.K C f) (hl:fs.length < 1000) (ry:RelV y u)
  (h:∀ s',Inv X pins σ (upd H a (.ins C dx (putF f y fs))) s'→Q () s'):wpAny (model X.prog X.w) A (setAttr (.ref a) f u) Q E s:=by
 obtain ⟨mA,O,r,wi,_,ho⟩:=Oa I.hok e
 have hz:(fs.map (·.1)).length≤sizeLine:=by rw [List.length_map,sizeLine_eq]; omega
 refine Zki I.kIn O c.sa c.po n.taker c.hd wi hz fun h' O' sb=>h _ ?_
 have hd:∃ o,h'.get? dx=some o:=let ⟨o,_,_,e',_⟩:=O'.ns; ⟨o,e'⟩
 refine I.write (x:=a) (e:=dx) (by rw [e]; exact True.intro) (.inr ho) (fun b q hb z=>(sb.2 b hb).trans z) hd ?_
 refine ⟨by rw [Zf O.ne]; exact ho,?_,O.ne,O'.obj,_,O'.ns,fun g=>?_,fun g hg=>?_⟩
 ·have:=Ox f y fs; omega
 ·show RelO ((putF f y fs).lookup g) (if g=f then some u else mA g)
  rw [Z1]
  by_cases q:g=f
  ·rw [if_pos q,if_pos q]; exact ry
  ·rw [if_neg q,if_neg q]; exact r g
 ·by_cases q:g=f
  ·rw [q]; exact (Uw f y fs).1
  ·refine (Uw f y fs).2 g (wi g fun z=>hg ?_)
   show (if g=f then some u else mA g)=none
   rw [if_neg q]; exact z
theorem Inv.made (I:Inv X pins σ H s):Inv X pins σ (upd (upd H s.heap.objs.size (.own (s.heap.objs.size + 1))) (s.heap.objs.size + 1) (.ins C s.heap.objs.size []))
  { s with heap:=(s.heap.push PySem.W.emptyDict).push (PySem.W.instObj C s.heap.objs.size) }:=by
 have e1:(s.heap.push PySem.W.emptyDict).get? s.heap.objs.size=some PySem.W.emptyDict:=Heap.get?_push_size s.heap rfl
 have e2:((s.heap.push PySem.W.emptyDict).push (PySem.W.instObj C s.heap.objs.size)).get? (s.heap.objs.size + 1)=some (PySem.W.instObj C s.heap.objs.size):=by
  have:=Heap.get?_push_size (s.heap.push PySem.W.emptyDict) (o:=PySem.W.instObj C s.heap.objs.size) rfl
  rwa [Heap.size_push] at this
 have e3:(s.heap.push PySem.W.emptyDict).Ns s.heap.objs.size (fun _=>none):=⟨PySem.W.emptyDict,#[],_,e1,rfl,(fun e he=>absurd he (by simp)),fun _=>rfl⟩
 have I1:=I.laid (a:=s.heap.objs.size) (o:=.own (s.heap.objs.size + 1)) (h':=s.heap.push PySem.W.emptyDict) (t':=s.toks) (fun b u q=>Heap.get?_push_of_some _ q) (Nat.le_refl _) ⟨_,e1⟩
 refine I1.laid (a:=s.heap.objs.size + 1) (o:=.ins C s.heap.objs.size []) (t':=s.toks) (fun b u q=>Heap.get?_push_of_some _ q) (Nat.le_of_eq (Heap.size_push _ _)) ?_
 have ne:s.heap.objs.size≠s.heap.objs.size + 1:=Nat.ne_of_lt (Nat.lt_succ_self _)
 refine ⟨by rw [Zf ne,Zb],Nat.zero_le _,ne,e2,fun _=>none,(Heap.Ns1.of_empty e3).at fun o q=>Heap.get?_push_of_some _ q,fun _=>True.intro,fun y hy=>absurd rfl hy⟩
theorem Zls {prog:Program} {w:World} {env:Env} {e:Expr} {f:Str} {pos:Pos} {s:Shared} {Q:Value→Shared→Prop} (hb:attributeBase e f env (eval e env)=eval e env)
  (h:wpAny (model prog w) A (eval e env) (fun o s₁=>wpAny (model prog w) A (getAttr o f true) Q E s₁) E s):wpAny (model prog w) A (eval (.Attribute e f pos) env) Q E s :=
 Attribute_any_ h (by rw [arm_eval_Attribute,hb])
end
noncomputable def tFld (K:PySem.W.Frag) (ta:TE) (f:Str):TE:=fun σ H Q=>ta σ H fun x H1=>∃ a C dx fs v,x=.ref a∧H1 a=some (.ins C dx fs)∧Cls K C∧W7 K C f∧fs.lookup f=some v∧Q v H1
noncomputable def sFld (K:PySem.W.Frag) (ta tv:TE) (f:Str):TS:=fun D σ H=>tv σ H fun y H1=>ta σ H1 fun x H2=>∃ a C dx fs,x=.ref a∧H2 a=some (.ins C dx fs)∧Cls K C∧W7 K C f∧fs.length < 1000 ∧
 D.nx σ (upd H2 a (.ins C dx (putF f y fs)))
section
variable {X:Cx} {o e value:Expr} {f:Str} {pos pos' tpos:Pos} {ta tv:TE}
theorem Wl (he:PE X e ta) (hb:attributeBase e f X.env (eval e X.env)=eval e X.env):PE X (.Attribute e f pos) (tFld X.K ta f):=by
 intro pins s σ H Q I h
 refine Zls hb (thn (he pins s σ H _ I h) fun u s1 zz9=>?_)
 obtain ⟨x,H1,I1,rx,a,C,dx,fs,v,ex,ea,c,n,l,q⟩:=zz9
 subst ex
 obtain rfl:u=Value.ref a:=rx
 exact Zez I1 ea c n l fun u' s2 I2 ru=>⟨v,H1,I2,ru,q⟩
theorem Kt (ha:PE X o ta) (hv:PE X value tv) (hs:swapsWith value (some (.Attribute o f pos')) pos.line X.env=pure false):PS X (.Assign [.Attribute o f pos'] value pos) (sFld X.K ta tv f):=by
 intro pins s σ H D I h
 refine plainObj_wpAny_Assign_Attribute (thn (hv pins s σ H _ I h) fun u s1 zz9=>?_) hs
 obtain ⟨y,H1,I1,ry,q⟩:=zz9
 refine thn (ha pins s1 σ H1 _ I1 q) fun ov s2 zz10=>?_
 obtain ⟨x,H2,I2,rx,a,C,dx,fs,ex,ea,c,n,l,q2⟩:=zz10
 subst ex
 obtain rfl:ov=Value.ref a:=rx
 exact Zei I2 ea c n l ry fun s3 I3=>⟨σ,_,I3,q2⟩
end
section
variable {X:Cx} {pins:List (Addr × Obj)} {σ:St} {H:Hp} {s:Shared} {A:Around} {E:Value→Shared→Prop} {Q:Value→Shared→Prop} {c:Value} {b:Bool}
inductive TyOf (K:PySem.W.Frag) (H:Hp):V→Value→Prop where
 | non:TyOf K H .non (.type "NoneType")
 | bl (x:Bool):TyOf K H (.bl x) (.type "bool")
 | int (i:Int):TyOf K H (.int i) (.type "int")
 | str (x:Str):TyOf K H (.str x) (.type "str")
 | flt (x:UInt64):TyOf K H (.flt x) (.type "float")
 | lst {a:Addr} {xs:List V} (e:H a=some (.lst xs)):TyOf K H (.ref a) (.type "list")
 | frz {a:Addr} {o:Obj} {xs:List V} (e:H a=some (.frz o (.lst xs))):TyOf K H (.ref a) (.type "list")
 | tup {a:Addr} {xs:List V} (e:H a=some (.tup xs)):TyOf K H (.ref a) (.type "tuple")
 | dK {a:Addr} {kvs:List (Key × V)} (e:H a=some (.dK kvs)):TyOf K H (.ref a) (.type "dict")
 | dT {a:Addr} {kvs:List (List Key × V)} (e:H a=some (.dT kvs)):TyOf K H (.ref a) (.type "dict")
 | ins {a C dx:Addr} {fs:List (Str × V)} (e:H a=some (.ins C dx fs)) (cl:Cls K C) (ha:PySem.W.findIn K (.ref C) "__class__"=some (some (.builtin "object.__class__")))
   (hn:PySem.W.specialIn K (.builtin "object.__class__") "__get__"=some (some (.builtin "getset_descriptor.__get__"))) (htk:PySem.W.takesIn K (.builtin "object.__class__")=some true)
   (hm:PySem.W.mroIn K C (.type "object")=some true):TyOf K H (.ref a) (.ref C)
theorem Zgw {x:V} {u t:Value} (I:Inv X pins σ H s) (rx:RelV x u) (ty:TyOf X.K H x t) (e:PySem.W.kitOne X.K t c=some b) (h:∀ tk,Q (.bool b) { s with toks:=tk }) :
  wpAny (model X.prog X.w) A (call (.builtin "isinstance") [u,c]) Q E s:=by
 cases ty with
 | non=>cases (show u=Value.none from rx); exact PySem.W.kia_one PySem.W.kitx_none I.kIn True.intro e (fun z=>nomatch z) h
 | bl y=>cases (show u=Value.bool y from rx); exact PySem.W.kia_one PySem.W.kitx_bool I.kIn True.intro e (fun z=>nomatch z) h
 | int i=>obtain ⟨t,q⟩:=(show ∃ t,u=Value.int i t from rx); cases q; exact PySem.W.kia_one PySem.W.kitx_int I.kIn True.intro e (fun z=>nomatch z) h
 | str y=>obtain ⟨t,q⟩:=(show ∃ t,u=Value.str y t from rx); cases q; exact PySem.W.kia_one PySem.W.kitx_str I.kIn True.intro e (fun z=>nomatch z) h
 | flt y=>obtain ⟨t,q⟩:=(show ∃ t,u=Value.float y t from rx); cases q; exact PySem.W.kia_one PySem.W.kitx_float I.kIn True.intro e (fun z=>nomatch z) h
 | @lst a xs ea =>
  cases (show u=Value.ref a from rx)
  obtain ⟨_,_,n,_,h1⟩:=(show Yf X.prog X.w H s.heap a (.lst xs) from I.hok a _ ea)
  exact PySem.W.kia_one PySem.W.kitx_list I.kIn ⟨_,h1,rfl⟩ e (fun z=>nomatch z) h
 | @frz a ob xs ea =>
  cases (show u=Value.ref a from rx)
  obtain ⟨_,_,_,n,_,h1⟩:=(show Yf X.prog X.w H s.heap a (.frz ob (.lst xs)) from I.hok a _ ea)
  exact PySem.W.kia_one PySem.W.kitx_list I.kIn ⟨_,h1,rfl⟩ e (fun z=>nomatch z) h
 | @tup a xs ea =>
  cases (show u=Value.ref a from rx)
  obtain ⟨_,_,_,p⟩:=(show Yf X.prog X.w H s.heap a (.tup xs) from I.hok a _ ea)
  obtain ⟨o,h1,h2,_⟩:=p
  exact PySem.W.kia_one PySem.W.kitx_tuple I.kIn ⟨o,h1,h2⟩ e (fun z=>nomatch z) h
 | @dK a kvs ea =>
  cases (show u=Value.ref a from rx)
  obtain ⟨_,_,vs,_,p⟩:=(show Yf X.prog X.w H s.heap a (.dK kvs) from I.hok a _ ea)
  obtain ⟨o,es,ep,h1,h2,_⟩:=p
  exact PySem.W.kia_one PySem.W.kitx_dict I.kIn ⟨o,h1,h2.1⟩ e (fun z=>nomatch z) h
 | @dT a kvs ea =>
  cases (show u=Value.ref a from rx)
  obtain ⟨_,_,xs,_,o,es,ep,h1,h2,_⟩:=(show Yf X.prog X.w H s.heap a (.dT kvs) from I.hok a _ ea)
  exact PySem.W.kia_one PySem.W.kitx_dict I.kIn ⟨o,h1,h2.1⟩ e (fun z=>nomatch z) h
 | @ins a C dx fs ea cl ha hn htk hm =>
  cases (show u=Value.ref a from rx)
  obtain ⟨mA,O,_⟩:=Oa I.hok ea
  obtain ⟨od,J,_⟩:=O.look
  exact PySem.W.kia_one (PySem.W.kitx_own (cl.get _) cl.hd ha hn htk hm) I.kIn J e (fun z=>nomatch z) h
end
end L2
namespace L2
open PySem PySem.Spec PyProof.Rows
structure Room (k:Nat) (A:Around):Prop where
 hd:A.handled=none
 dp:A.depth + 3 * k + 5 < recursionLimit
 un:A.units + 16 * k + 200 < cLine
theorem Room.mono {j k:Nat} {A:Around} (r:Room k A) (h:j≤k):Room j A:=⟨r.hd,by have:=r.dp; omega,by have:=r.un; omega⟩
theorem Room.deeper {k:Nat} {A:Around} (r:Room (k + 1) A) (env:Env):Room k (A.deeper env) :=
 ⟨r.hd,by have:=r.dp; show A.depth + 1 + 3 * k + 5 < _; omega,by have:=r.un; show A.units + 3 + 16 * k + 200 < _; omega⟩
theorem Zex {A:Around} {C:Addr} {us:List Value} {kw:List (Str × Value)}:(A.under (.builtin "type.__call__" ⟨.ref C :: us,kw⟩)).depth=A.depth + 1:=by
 first | rfl | simp [Around.under,Code.weight,Code.isCreation,Code.isGuard,Code.isCaller,Code.frames,Code.isFrame,guardIds]
theorem Zew {A:Around} {C:Addr} {us:List Value} {kw:List (Str × Value)}:(A.under (.builtin "type.__call__" ⟨.ref C :: us,kw⟩)).units=A.units + 1:=by
 first | rfl | simp [Around.under,Code.cUnits,Code.frames,Code.isFrame]
theorem Room.make {k:Nat} {A:Around} (r:Room (k + 1) A) (C:Addr) (us:List Value) (kw:List (Str × Value)):Room k (A.under (.builtin "type.__call__" ⟨.ref C :: us,kw⟩)) :=
 ⟨r.hd,by have:=r.dp; rw [Zex]; omega,by have:=r.un; rw [Zew]; omega⟩
theorem Room.depth {k:Nat} {A:Around} (r:Room k A):A.depth < recursionLimit:=by have:=r.dp; omega
theorem Room.units {k:Nat} {A:Around} (r:Room k A):A.units + 64 < cLine:=by have:=r.un; omega
noncomputable def tNil:TA:=fun _ H Q=>Q [] H
noncomputable def Zjj (ta:TE) (tr:TA):TA:=fun σ H Q=>ta σ H fun x H1=>tr σ H1 fun xs H2=>Q (x :: xs) H2
section
variable {X:Cx} {e:Expr} {es:List Expr} {te:TE} {t:TA} {pos:Pos}
theorem Zc:PA X [] tNil:=fun _ _ _ _ H Q I h=>Calls.spliced_nil ⟨[],H,I,.nil,h⟩
theorem Za (ha:PE X e te) (hr:PA X es t) (hs:starEach (e :: es) X.env=(false,eval e X.env) :: starEach es X.env:=by rfl):PA X (e :: es) (Zjj te t):=by
 intro pos pins s σ H Q I h
 rw [hs]
 show wpAny _ _ (spliced ((false,eval e X.env) :: backTo pos (starEach es X.env))) _ _ s
 refine Calls.spliced_cons (thn (ha pins s σ H _ I h) fun u s1 zz9=>?_)
 obtain ⟨x,H1,I1,r1,q1⟩:=zz9
 refine thn (hr pos pins s1 σ H1 _ I1 q1) fun us s2 zz11=>?_
 obtain ⟨xs,H2,I2,r2,q2⟩:=zz11
 exact ⟨x :: xs,H2,I2,.cons r1 r2,q2⟩
noncomputable def tTup (t:TA):TE:=fun σ H Q=>t σ H fun xs H1=>xs.length≤sizeLine∧∀ p,H1 p=none→Q (.ref p) (upd H1 p (.tup xs))
noncomputable def tLst (t:TA):TE:=fun σ H Q=>t σ H fun xs H1=>xs.length≤sizeLine∧∀ p,H1 p=none→Q (.ref p) (upd H1 p (.lst xs))
theorem Y8 {x1} (h:PA X es t):PE X (.Tuple es x1 pos) (tTup t):=by
 intro pins s σ H Q I hq
 refine wpAny_Tuple_spliced (thn (h pos pins s σ H _ I hq) fun us s1 zz7=>?_)
 obtain ⟨xs,H1,I1,r,z,q⟩:=zz7
 refine ⟨by rw [← r.length]; exact z,?_⟩
 have hf:H1 s1.heap.objs.size=none:=I1.hok.fresh (Nat.le_refl _)
 refine ⟨.ref s1.heap.objs.size,upd H1 s1.heap.objs.size (.tup xs),I1.laid (t':=s1.toks) (fun b u e=>Heap.get?_push_of_some _ e) (Nat.le_refl _) ?_,rfl,q _ hf⟩
 exact ⟨z,us,r,⟨_,Heap.get?_push_size _ rfl,rfl,_,rfl⟩⟩
theorem Y4 (h:PA X es t):PE X (.List es pos) (tLst t):=by
 intro pins s σ H Q I hq
 refine wpAny_List_spliced (thn (h pos pins s σ H _ I hq) fun us s1 zz7=>?_)
 obtain ⟨xs,H1,I1,r,z,q⟩:=zz7
 refine ⟨by rw [← r.length]; exact z,?_⟩
 have hf:H1 s1.heap.objs.size=none:=I1.hok.fresh (Nat.le_refl _)
 refine ⟨.ref s1.heap.objs.size,upd H1 s1.heap.objs.size (.lst xs),I1.laid (t':=s1.toks) (fun b u e=>Heap.get?_push_of_some _ e) (Nat.le_refl _) ?_,rfl,q _ hf⟩
 exact ⟨z,us,0,r,Heap.get?_push_size _ rfl⟩
end
noncomputable abbrev Sp:=List V→Hp→VK→XK→Prop
noncomputable abbrev CXT:=List Env→Hp→Shared→XK→Value→Shared→Prop
structure Env0 (P:Program) (w:World) (K:PySem.W.Frag) (mg:Str→Option Value) (base:Heap) (A:Around) (outer:List Env) (s:Shared) (H:Hp):Prop where
 frames:A.frames=some outer
 mod:Mod K mg base
 bs:∀ b o,base.get? b=some o→s.heap.get? b=some o∧H b=none
 bsz:base.objs.size≤s.heap.objs.size
 funs:s.heap.FunFrames base outer
 frf:∀ b∈frs outer,H b=none
 hok:HOk P w H s.heap
 bare:AllBare s.gens
noncomputable def CE (outer:List Env) (P:Program) (w:World) (H:Hp) (s:Shared) (Q:VK) (u:Value) (s':Shared):Prop :=
 ∃ v H',s'.os=s.os∧AllBare s'.gens∧Un (frs outer) [] H H' s.heap s'.heap∧HOk P w H' s'.heap∧RelV v u∧Q v H'
noncomputable def CR (CX:CXT) (outer:List Env) (P:Program) (w:World) (H:Hp) (s:Shared) (Q:VK) (E:XK) (r:Result) (s':Shared):Prop :=
 match r with
 | .ok (.ret u)=>CE outer P w H s Q u s'
 | .ok _=>False
 | .error e=>CX outer H s E e s'
structure FnOk (P:Program) (w:World) (K:PySem.W.Frag) (mg:Str→Option Value) (base:Heap) (CX:CXT) (k:Nat) (f:Addr) (fd:FuncData) (ps:List Str) (sp:Sp):Prop where
 len:∀ vs H Q E,sp vs H Q E→vs.length=ps.length
 run:∀ (A:Around) (outer:List Env) (s:Shared) (H:Hp) (args:Args) (us:List Value) (vs:List V) (Q:VK) (E:XK),Room k A→Env0 P w K mg base A outer s H→BindsTo s fd args (ps.zip us)→Vals vs us→sp vs H Q E →
  codeAny (model P w) A (.call (.ref f) args) (CR CX outer P w H s Q E) s
theorem Env0.make {P:Program} {w:World} {K:PySem.W.Frag} {mg:Str→Option Value} {base:Heap} {A:Around} {outer:List Env} {s:Shared} {H:Hp} (e:Env0 P w K mg base A outer s H) (C:Addr) (us:List Value) (kw:List (Str × Value)) :
  Env0 P w K mg base (A.under (.builtin "type.__call__" ⟨.ref C :: us,kw⟩)) outer s H:=⟨by first | exact e.frames | (simpa [Around.under,Code.envs,Code.isFrame,pushEnvs] using e.frames),e.mod,e.bs,e.bsz,e.funs,e.frf,e.hok,e.bare⟩
section
variable {X:Cx} {pins:List (Addr × Obj)} {σ:St} {H:Hp} {s s':Shared}
theorem Inv.env0 (I:Inv X pins σ H s):Env0 X.prog X.w X.K X.mg X.base X.A X.stack s H :=
 ⟨I.ok.frames,I.ok.mod,I.bs,Nat.le_trans I.ok.bsz I.sz,I.stack,I.stkFree,I.hok,I.bare⟩
theorem Inv.after {Q:VK} {u:Value} (I:Inv X pins σ H s) (h:CE X.stack X.prog X.w H s Q u s'):EP X pins σ Q u s':=by
 obtain ⟨v,H',os,bare,un,hok,r,q⟩:=h
 obtain ⟨hh,g,d,t,os'⟩:=s'
 obtain rfl:os'=s.os:=os
 exact ⟨v,H',I.call (h':=hh) (g':=g) (d':=d) (t':=t) (ch:=[]) un hok bare (fun b z=>absurd z (by simp)),r,q⟩
end
noncomputable def Zjk (sp:Sp) (dvs:List V) (E:XK) (t:TA):TE:=fun σ H Q=>t σ H fun vs H1=>sp (vs ++ dvs) H1 Q E
noncomputable def Zjh (C:Addr) (m:Str) (sp:Sp) (dvs:List V) (E:XK) (ta:TE) (t:TA):TE:=fun σ H Q=>ta σ H fun x H1=>∃ a dx fs,x=.ref a∧H1 a=some (.ins C dx fs)∧fs.lookup m=none ∧
 t σ H1 fun vs H2=>sp (x :: (vs ++ dvs)) H2 Q E
noncomputable def Znn (C:Addr) (sp:Sp) (dvs:List V) (E:XK) (t:TA):TE:=fun σ H Q=>t σ H fun vs H1=>∀ x dx,H1 x=none→H1 dx=none→dx≠x →
 sp (.ref x :: (vs ++ dvs)) (upd (upd H1 dx (.own x)) x (.ins C dx [])) (fun v H2=>v=.non∧Q (.ref x) H2) E
noncomputable def Wi (K:PySem.W.Frag) (fd:FuncData) (ps:List Str) (ds:List Value):Prop :=
 ∀ (s:Shared) (us:List Value),K.In s.heap→(us ++ ds).length=ps.length→BindsTo s fd ⟨us,[]⟩ (ps.zip (us ++ ds))
theorem Wi.all {K:PySem.W.Frag} {fd:FuncData} {ps:List Str} (h:∀ us:List Value,us.length=ps.length→bindArgs fd ⟨us,[]⟩=pure (ps.zip us)):Wi K fd ps []:=fun s us _ hl=>by
 rw [List.append_nil] at hl ⊢
 exact .of_eq (h us hl)
noncomputable def Qz (CX:CXT) (X:Cx) (E:XK):Prop:=∀ (pins:List (Addr × Obj)) (σ:St) (H:Hp) (s:Shared) (e:Value) (s':Shared),Inv X pins σ H s→CX X.stack H s E e s'→X.xe e s'
section
variable {X:Cx} {CX:CXT} {k:Nat} {f C:Addr} {fd:FuncData} {ps:List Str} {sp:Sp} {dvs:List V} {ds:List Value} {E:XK} {x m:Str} {p pos apos:Pos} {e o:Expr} {es:List Expr} {ta:TE} {t:TA}
theorem Zbf {pins:List (Addr × Obj)} {σ:St} {H:Hp} {s:Shared} {Q:VK} {us:List Value} {vs:List V} (F:FnOk X.prog X.w X.K X.mg X.base CX k f fd ps sp) (hr:Room k X.A) (hb:Wi X.K fd ps ds) (hd:Vals dvs ds) (hx:Qz CX X E)
  (I:Inv X pins σ H s) (r:Vals vs us) (h:sp (vs ++ dvs) H Q E):wpAny (model X.prog X.w) X.A (call (.ref f) us) (EP X pins σ Q) X.xe s:=by
 have r2:Vals (vs ++ dvs) (us ++ ds):=r.append hd
 have hl:(us ++ ds).length=ps.length:=by rw [← r2.length]; exact F.len _ _ _ _ h
 refine wpAny_call (codeAny_mono (F.run X.A X.stack s H ⟨us,[]⟩ (us ++ ds) (vs ++ dvs) Q E hr I.env0 (hb s us I.kIn hl) r2 h) fun r s' hq=>?_)
 cases r with
 | error e=>exact hx pins σ H s e s' I hq
 | ok fl =>
  cases fl with
  | ret u=>exact I.after hq
  | next=>exact False.elim hq
  | brk=>exact False.elim hq
  | cont=>exact False.elim hq
theorem Zky (F:FnOk X.prog X.w X.K X.mg X.base CX k f fd ps sp) (hr:Room k X.A) (hg:Gl X x) (hm:X.mg x=some (.ref f)) (hk:PySem.W.keepIn X.K (.ref f)=true) (hb:Wi X.K fd ps ds) (hd:Vals dvs ds) (hx:Qz CX X E)
  (ha:PA X (e :: es) t) (hdb:(x == ("__debug__":Str))=false:=by decide) (he:starEach (e :: es) X.env=(false,eval e X.env) :: starEach es X.env:=by rfl) (hpl:(backTo pos (starEach es X.env)).any (·.1)=false:=by rfl) :
  PE X (.Call (.Name x p) (e :: es) [] pos) (Zjk sp dvs E t):=by
 intro pins s σ H Q I h
 refine wpAny_Call_Name_kw (Vn I hg hm ?_ hdb)
 refine PySem.W.callWith_K (h₀:=X.base) I.ok.mod.kin hk (thn (ha pos pins s σ H _ I h) fun us s1 zz12=>?_) he hpl
 obtain ⟨vs,H1,I1,r,q⟩:=zz12
 refine ⟨I1.kIn,?_⟩
 exact Zbf F hr hb hd hx I1 r q
theorem Je {pl:Sem Bool} (he:PE X o ta) (c:Cls X.K C) (hm:Meth X.K C m f) (F:FnOk X.prog X.w X.K X.mg X.base CX k f fd ps sp) (hr:Room k X.A) (hb:Wi X.K fd ps ds) (hd:Vals dvs ds) (hx:Qz CX X E) (ha:PA X (e :: es) t)
  (hst:starEach (e :: es) X.env=(false,eval e X.env) :: starEach es X.env:=by rfl) (hpl:(backTo pos (starEach es X.env)).any (·.1)=false:=by rfl)
  (ht:eval (.Call (.Attribute o m apos) (e :: es) [] pos) X.env=(do
   let ov ← eval o X.env
   standAt apos.atName
   let (f,first) ← holding [ov] (getMethod ov m pl)
   callWith pos f first (backTo pos (starEach (e :: es) X.env)) (backToKw pos (keywordEach [] X.env))):=by rfl) :
  PE X (.Call (.Attribute o m apos) (e :: es) [] pos) (Zjh C m sp dvs E ta t):=by
 intro pins s σ H Q I h
 refine PySem.W.methodCall_KW (pl:=pl) (thn (he pins s σ H _ I h) fun u s1 zz13=>?_) ht
 obtain ⟨x,H1,I1,rx,a,dx,fs,ex,ea,l,q⟩:=zz13
 subst ex
 obtain rfl:u=Value.ref a:=rx
 refine V2 I1 ea c hm l ?_
 refine PySem.W.callWith_K (first:=[.ref a]) (h₀:=X.base) I.ok.mod.kin hm.kp (thn (ha pos pins s1 σ H1 _ I1 q) fun us s2 zz14=>?_) hst hpl
 obtain ⟨vs,H2,I2,r,q2⟩:=zz14
 refine ⟨I2.kIn,?_⟩
 exact Zbf (us:=.ref a :: us) (vs:=.ref a :: vs) F hr hb hd hx I2 (.cons rfl r) q2
theorem O2 {pl:Sem Bool} (he:PE X o ta) (c:Cls X.K C) (hm:Meth X.K C m f) (F:FnOk X.prog X.w X.K X.mg X.base CX k f fd ps sp) (hr:Room k X.A) (hb:Wi X.K fd ps ds) (hd:Vals dvs ds) (hx:Qz CX X E)
  (ht:eval (.Call (.Attribute o m apos) [] [] pos) X.env=(do
   let ov ← eval o X.env
   standAt apos.atName
   let (f,first) ← holding [ov] (getMethod ov m pl)
   callWith pos f first (backTo pos (starEach [] X.env)) (backToKw pos (keywordEach [] X.env))):=by rfl) :
  PE X (.Call (.Attribute o m apos) [] [] pos) (Zjh C m sp dvs E ta tNil):=by
 intro pins s σ H Q I h
 refine PySem.W.methodCall_KW (pl:=pl) (thn (he pins s σ H _ I h) fun u s1 zz15=>?_) ht
 obtain ⟨x,H1,I1,rx,a,dx,fs,ex,ea,l,q⟩:=zz15
 subst ex
 obtain rfl:u=Value.ref a:=rx
 refine V2 I1 ea c hm l ?_
 exact PySem.W.callWith_K0 (first:=[.ref a]) I1.kIn hm.kp (Zbf (us:=[.ref a]) (vs:=[.ref a]) F hr hb hd hx I1 (.cons rfl .nil) q)
structure Mk (K:PySem.W.Frag) (C f:Addr):Prop where
 makes:PySem.W.makesIn K C=true
 init:PySem.W.findIn K (.ref C) "__init__"=some (some (.ref f))
 fn:PySem.W.isFn K (.ref f)=true
 kp:PySem.W.keepIn K (.ref C)=true
theorem Zh2 {pins:List (Addr × Obj)} {σ:St} {H:Hp} {s:Shared} {Q:VK} {us:List Value} {vs:List V} (M:Mk X.K C f) (F:FnOk X.prog X.w X.K X.mg X.base CX k f fd ps sp) (hr:Room (k + 1) X.A) (hb:Wi X.K fd ps ds) (hd:Vals dvs ds)
  (hx:Qz CX X E) (I:Inv X pins σ H s) (r:Vals vs us)
  (h:∀ x dx,H x=none→H dx=none→dx≠x→sp (.ref x :: (vs ++ dvs)) (upd (upd H dx (.own x)) x (.ins C dx [])) (fun v H2=>v=.non∧Q (.ref x) H2) E) :
  wpAny (model X.prog X.w) X.A (call (.ref C) us) (EP X pins σ Q) X.xe s:=by
 have hq:=h (s.heap.objs.size + 1) s.heap.objs.size (I.hok.fresh (Nat.le_succ _)) (I.hok.fresh (Nat.le_refl _)) (Nat.ne_of_lt (Nat.lt_succ_self _))
 have I2:=Inv.made (C:=C) I
 have r2:Vals (V.ref (s.heap.objs.size + 1) :: (vs ++ dvs)) (Value.ref (s.heap.objs.size + 1) :: (us ++ ds)):=.cons rfl (r.append hd)
 have hl:(Value.ref (s.heap.objs.size + 1) :: us ++ ds).length=ps.length:=by
  have e:=r2.length
  rw [F.len _ _ _ _ hq] at e
  exact e.symm
 refine wpAny_call (Zip (f:=f) I.kIn M.makes M.init (beq_iff_eq.mp M.fn) (codeAny_mono (F.run _ X.stack _ _ ⟨Value.ref (s.heap.objs.size + 1) :: us,[]⟩ (Value.ref (s.heap.objs.size + 1) :: (us ++ ds)) _ _ E (hr.make C us [])
  (I2.env0.make C us []) (hb _ (Value.ref (s.heap.objs.size + 1) :: us) I2.kIn hl) r2 hq) fun r s' hq'=>?_))
 cases r with
 | error e=>exact hx pins σ _ _ e s' I2 hq'
 | ok fl =>
  cases fl with
  | ret u =>
   obtain ⟨v,H',I3,rv,ev,q3⟩:=I2.after hq'
   subst ev
   exact ⟨rv,⟨V.ref (s.heap.objs.size + 1),H',I3,rfl,q3⟩⟩
  | next=>exact False.elim hq'
  | brk=>exact False.elim hq'
  | cont=>exact False.elim hq'
theorem Zdl (M:Mk X.K C f) (F:FnOk X.prog X.w X.K X.mg X.base CX k f fd ps sp) (hr:Room (k + 1) X.A) (hg:Gl X x) (hm:X.mg x=some (.ref C)) (hb:Wi X.K fd ps ds) (hd:Vals dvs ds) (hx:Qz CX X E)
  (ha:PA X (e :: es) t) (hdb:(x == ("__debug__":Str))=false:=by decide) (he:starEach (e :: es) X.env=(false,eval e X.env) :: starEach es X.env:=by rfl) (hpl:(backTo pos (starEach es X.env)).any (·.1)=false:=by rfl) :
  PE X (.Call (.Name x p) (e :: es) [] pos) (Znn C sp dvs E t):=by
 intro pins s σ H Q I h
 refine wpAny_Call_Name_kw (Vn I hg hm ?_ hdb)
 refine PySem.W.callWith_K (h₀:=X.base) I.ok.mod.kin M.kp (thn (ha pos pins s σ H _ I h) fun us s1 zz16=>?_) he hpl
 obtain ⟨vs,H1,I1,r,q⟩:=zz16
 refine ⟨I1.kIn,?_⟩
 exact Zh2 M F hr hb hd hx I1 r q
end
structure FnScope (N P:List Str) (sc:Scope):Prop where
 kind:sc.kind=.function
 co:sc.isCoroutine=false
 gen:sc.isGenerator=false
 nd:N.Nodup
 pre:N.take P.length=P
 par:∀ x∈P,sc.names.lookup x=some .local∨sc.names.lookup x=some .cell
 nofree:∀ y∈sc.names,y.2≠.free
theorem F1 {kindOf:Str→Option NameKind} {x:Str}:∀ {binds:List (Str × Value)} {m:Str→Option Value},(∀ v,(x,v) ∉ binds)→bindL kindOf binds m x=m x
 | [],_,_=>rfl
 | (n,v) :: r,m,h=>by
  unfold bindL
  rw [F1 fun w hw=>h w (List.mem_cons_of_mem _ hw)]
  split
  ·have:x≠n:=by rintro rfl; exact h v List.mem_cons_self
   simp [this]
  ·rfl
theorem F3 {kindOf:Str→Option NameKind} {x:Str}:∀ {binds:List (Str × Value)} {m:Str→Option Value},(∀ v,(x,v) ∉ binds)→bindC kindOf binds m x=m x
 | [],_,_=>rfl
 | (n,v) :: r,m,h=>by
  unfold bindC
  rw [F3 fun w hw=>h w (List.mem_cons_of_mem _ hw)]
  split
  ·rfl
  ·have:x≠n:=by rintro rfl; exact h v List.mem_cons_self
   simp [this]
theorem F2 {kindOf:Str→Option NameKind} {x:Str} {v:Value}:∀ {P:List Str} {vs:List Value} {i:Nat} {m:Str→Option Value},P.Nodup→P[i]?=some x→vs[i]?=some v→kindOf x=some .local →
  bindL kindOf (P.zip vs) m x=some v
 | [],_,_,_,_,h,_,_=>by simp at h
 | _ :: _,[],_,_,_,_,h,_=>by simp at h
 | p :: P,w :: vs,0,m,nd,h1,h2,hk=>by
  simp at h1 h2; subst h1; subst h2
  show bindL kindOf ((p,w) :: P.zip vs) m p=_
  unfold bindL
  rw [F1 fun v hv=>(List.nodup_cons.mp nd).1 (List.of_mem_zip hv).1,if_pos hk]
  simp
 | p :: P,w :: vs,i + 1,m,nd,h1,h2,hk=>by
  show bindL kindOf ((p,w) :: P.zip vs) m x=_
  unfold bindL
  exact F2 (i:=i) (List.nodup_cons.mp nd).2 (by simpa using h1) (by simpa using h2) hk
theorem F4 {kindOf:Str→Option NameKind} {x:Str} {v:Value}:∀ {P:List Str} {vs:List Value} {i:Nat} {m:Str→Option Value},P.Nodup→P[i]?=some x→vs[i]?=some v→kindOf x≠some .local →
  bindC kindOf (P.zip vs) m x=some v
 | [],_,_,_,_,h,_,_=>by simp at h
 | _ :: _,[],_,_,_,_,h,_=>by simp at h
 | p :: P,w :: vs,0,m,nd,h1,h2,hk=>by
  simp at h1 h2; subst h1; subst h2
  show bindC kindOf ((p,w) :: P.zip vs) m p=_
  unfold bindC
  rw [F3 fun v hv=>(List.nodup_cons.mp nd).1 (List.of_mem_zip hv).1,if_neg hk]
  simp
 | p :: P,w :: vs,i + 1,m,nd,h1,h2,hk=>by
  show bindC kindOf ((p,w) :: P.zip vs) m x=_
  unfold bindC
  exact F4 (i:=i) (List.nodup_cons.mp nd).2 (by simpa using h1) (by simpa using h2) hk
noncomputable def start (N:List Str) (vs:List V):St:=vs.map some ++ List.replicate (N.length - vs.length) none
noncomputable def cxOf (CX:CXT) (P:Program) (w:World) (K:PySem.W.Frag) (mg:Str→Option Value) (base:Heap) (N:List Str) (qual:Str) (scope:Scope) (f:Addr) (cd:Value) (A:Around) (outer:List Env) (s:Shared) (H:Hp) (E:XK):Cx where
 prog:=P
 w:=w
 K:=K
 mg:=mg
 base:=base
 A:=A.deeper (envOfC qual scope s.heap.objs.size f cd)
 N:=N
 s₀:=s
 H₀:=H
 env:=envOfC qual scope s.heap.objs.size f cd
 outer:=outer
 stack:=envOfC qual scope s.heap.objs.size f cd :: outer
 ex:=[]
 calm:=true
 fn:=fun _=>true
 pn:=[]
 xe:=fun e s'=>wpAny (model P w) (A.deeper (envOfC qual scope s.heap.objs.size f cd)) (leaving (envOfC qual scope s.heap.objs.size f cd) e) (fun _ s''=>CX outer H s E e s'') (fun e' s''=>CX outer H s E e' s'') s'
theorem Zcf {sc:Scope} {n:Nat} {x:Str} (h:sc.names.lookup x=some .cell):∃ c,(cellsFrom n sc.names []).lookup x=some c:=by
 have q:=PySem.W.cellsFrom_some sc.names n [] (.inl h)
 exact Option.isSome_iff_exists.mp q
theorem Zgx {CX:CXT} {P:Program} {w:World} {K:PySem.W.Frag} {mg:Str→Option Value} {base:Heap} {N ps:List Str} {qual:Str} {scope:Scope} {f:Addr} {cd:Value} {A:Around} {outer:List Env} {s s1:Shared} {H:Hp} {E:XK} {us:List Value} {vs:List V}
  (S:FnScope N ps scope) (hd:A.handled=none) (e0:Env0 P w K mg base A outer s H) (hl:vs.length=ps.length) (r:Vals vs us)
  (x:InCallC s s.heap.objs.size (bindL (envOfC qual scope s.heap.objs.size f cd).kindOf (ps.zip us) fun _=>none) (cellsFrom (s.heap.objs.size + 1) scope.names []) (bindC (envOfC qual scope s.heap.objs.size f cd).kindOf (ps.zip us) fun _=>none) s1) :
  Inv (cxOf CX P w K mg base N qual scope f cd A outer s H E) [] (start N vs) H s1:=by
 have hpl:ps.length≤N.length:=by have:=congrArg List.length S.pre; rw [List.length_take] at this; omega
 obtain ⟨h1,tk,rfl,hk⟩:=x.done
 have noA:∀ b:Addr,b ∉ (cxOf CX P w K mg base N qual scope f cd A outer s H E).ex:=fun b z=>absurd (show b∈([]:List Addr) from z) (by simp)
 refine ⟨⟨e0.mod,S.kind,rfl,rfl,Nat.le_refl _,fun y z c h1 h2=>?_,fun y hy=>?_,fun y c _ h=>?_,fun _=>hd,Around.frames_deeper e0.frames,.inr ⟨rfl,rfl⟩,fun b z=>absurd z (noA b),e0.bs,e0.bsz,fun b _ _=>noA b,fun b z=>absurd z (noA b),e0.funs,e0.frf⟩,
  rfl,e0.bare,Un.kept hk,⟨_,x.toInCall.ns,fun i y v h1 h2 h3=>?_⟩,fun y c h=>⟨_,x.cell y c h⟩,e0.hok.fresh (Nat.le_refl _),fun y c h=>?_,fun p hp=>absurd (show p∈([]:List (Addr × Obj)) from hp) (by simp),e0.hok.kept hk,?_⟩
 ·exact name_of_addr x.apart (PySem.mem_of_lookup h1) (PySem.mem_of_lookup h2)
 ·have hy:scope.names.lookup y=some .cell∨scope.names.lookup y=some .free:=hy
  rcases hy with hy | hy
  ·exact Zcf hy
  ·exact absurd rfl (S.nofree _ (PySem.mem_of_lookup hy))
 ·exact Nat.le_of_lt (x.above y c (PySem.mem_of_lookup h))
 ·have hi:i < vs.length:=by
   unfold start at h2
   by_cases hi:i < vs.length
   ·exact hi
   ·rw [List.getElem?_append_right (by simpa using hi)] at h2
    rw [List.getElem?_replicate] at h2
    split at h2 <;> cases h2
  have ha:vs[i]?=some v:=by
   unfold start at h2
   rw [List.getElem?_append_left (by simpa using hi),List.getElem?_map] at h2
   cases e:vs[i]? with
   | none=>rw [e] at h2; cases h2
   | some a=>rw [e] at h2; cases h2; rfl
  obtain ⟨u,hu,rv⟩:=r.get ha
  have hp:ps[i]?=some y:=by
   rw [← S.pre,List.getElem?_take_of_lt (by omega)]; exact h1
  have ndP:ps.Nodup:=by rw [← S.pre]; exact S.nd.sublist (List.take_sublist _ _)
  refine ⟨u,rv,?_⟩
  rcases S.par y (List.mem_of_getElem? hp) with k | k
  ·exact .inl ⟨k,F2 ndP hp hu k⟩
  ·obtain ⟨c,e⟩:=Zcf (n:=s.heap.objs.size + 1) k
   refine .inr ⟨.inl k,c,e,?_⟩
   have q:=x.cell y c e
   rw [F4 ndP hp hu (by show scope.names.lookup y≠_; rw [k]; decide)] at q
   exact q
 ·exact e0.hok.fresh (Nat.le_of_lt (x.above y c (PySem.mem_of_lookup h)))
 ·unfold start
  show _=N.length
  rw [List.length_append,List.length_map,List.length_replicate]
  omega
theorem Zjv {CX:CXT} {P:Program} {w:World} {K:PySem.W.Frag} {mg:Str→Option Value} {base:Heap} {k:Nat} {f:Addr} {name qual:Str} {params:Arguments} {body:List Stmt} {scope:Scope} {dV kV doc pm cdv ct oc:Value} {an od:Option Addr}
  {osl:Array (Option Value)} {N ps:List Str} {sp:Sp} (lk:K.lookup f=some ⟨oc,od,.func (PySem.W.fnOf name qual params body scope dV kV doc pm an cdv ct),osl⟩) (hcd:PySem.W.codeIn K cdv qual=true) (S:FnScope N ps scope)
  (len:∀ vs H Q E,sp vs H Q E→vs.length=ps.length)
  (hbody:∀ (A:Around) (outer:List Env) (s:Shared) (H:Hp) (vs:List V) (Q:VK) (E:XK),Room k (A.deeper (envOfC qual scope s.heap.objs.size f cdv))→sp vs H Q E →
   ∃ t,PSs (cxOf CX P w K mg base N qual scope f cdv A outer s H E) body t∧t { nx:=fun _ H'=>Q .non H',rt:=Q } (start N vs) H) :
  FnOk P w K mg base CX (k + 1) f (PySem.W.fnOf name qual params body scope dV kV doc pm an cdv ct) ps sp:=by
 refine ⟨len,fun A outer s H args us vs Q E hr e0 hb r hsp=>?_⟩
 have hl:=len _ _ _ _ hsp
 have KX:K.In s.heap:=e0.mod.kin.keeps fun b o e=>(e0.bs b o e).1
 have lim:s.heap.NoLimit:=e0.mod.nolimit.keeps fun b o e=>(e0.bs b o e).1
 have hkind:∀ y∈ps.zip us,scope.names.lookup y.1=some .local∨(scope.names.lookup y.1=some .cell∧((cellsFrom (s.heap.objs.size + 1) scope.names []).lookup y.1).isSome=true):=fun ⟨n,v⟩ hy=>by
  rcases S.par n (List.of_mem_zip hy).1 with q | q
  ·exact .inl q
  ·exact .inr ⟨q,PySem.W.cellsFrom_some _ _ _ (.inl q)⟩
 refine codeAny_call_function hr.depth (KX _ _ lk) rfl S.co S.gen rfl (PySem.W.codeRec_of KX hcd) (hb _ _ _ _ ?_)
 refine wpAny_newFunctionEnv_cells S.kind hkind fun env he s1 x=>?_
 subst he
 refine ⟨lim.keeps x.toInCall.keep,codeAny_func ?_⟩
 obtain ⟨t,ht,hq⟩:=hbody A outer s H vs Q E (hr.deeper _) hsp
 have I:Inv (cxOf CX P w K mg base N qual scope f cdv A outer s H E) [] (start N vs) H s1:=Zgx S hr.hd e0 hl r x
 refine wpAny_mono (ht [] s1 (start N vs) H _ I hq) (fun fl s' hs=>?_) fun e s' hs=>hs
 have fin:∀ {σ':St} {H':Hp} {v:V} {u:Value},Inv (cxOf CX P w K mg base N qual scope f cdv A outer s H E) [] σ' H' s'→RelV v u→Q v H'→CE outer P w H s Q u s' :=
  fun {σ' H' v u} J rv q=>⟨v,H',J.os,J.bare,J.base,J.hok,rv,q⟩
 cases fl with
 | ret u =>
  obtain ⟨v,σ',H',J,rv,q⟩:=hs
  exact fin J rv q
 | next =>
  obtain ⟨σ',H',J,q⟩:=hs
  exact fin (v:=V.non) (u:=Value.none) J rfl q
 | brk =>
  obtain ⟨_,_,_,q⟩:=hs
  exact False.elim q
 | cont =>
  obtain ⟨_,_,_,q⟩:=hs
  exact False.elim q
end L2
namespace L2
open PySem PySem.Spec PyProof.Rows
section
variable {X:Cx} {x:Str} {p pos:Pos} {e:Expr} {es:List Expr} {t:TA} {id T:String} {r:List V→Hp→VK→Prop}
noncomputable def tCB (r:List V→Hp→VK→Prop) (t:TA):TE:=fun σ H Q=>t σ H fun vs H1=>r vs H1 Q
theorem Zm (hc:Jk X (.builtin id) r) (hg:Gl X x) (hm:X.mg x=none) (hv:bootBuiltins x=some (.builtin id)) (ha:PA X (e :: es) t) (hn:x≠"__name__":=by decide) (hdb:(x == ("__debug__":Str))=false:=by decide)
  (he:starEach (e :: es) X.env=(false,eval e X.env) :: starEach es X.env:=by rfl) (hpl:(backTo pos (starEach es X.env)).any (·.1)=false:=by rfl):PE X (.Call (.Name x p) (e :: es) [] pos) (tCB r t):=by
 intro pins s σ H Q I h
 refine wpAny_Call_Name_kw (X2 I hg hm hv ?_ hn hdb)
 refine PyProof.Rows.callWith_builtin1 (thn (ha pos pins s σ H _ I h) fun us s1 zz17=>?_) he hpl
 obtain ⟨vs,H1,I1,r1,q1⟩:=zz17
 exact hc pins s1 σ H1 vs us Q I1 r1 q1
theorem Ys (hc:Jk X (.type T) r) (hg:Gl X x) (hm:X.mg x=none) (hv:bootBuiltins x=some (.type T)) (ha:PA X (e :: es) t) (hn:x≠"__name__":=by decide) (hdb:(x == ("__debug__":Str))=false:=by decide)
  (he:starEach (e :: es) X.env=(false,eval e X.env) :: starEach es X.env:=by rfl) (hpl:(backTo pos (starEach es X.env)).any (·.1)=false:=by rfl):PE X (.Call (.Name x p) (e :: es) [] pos) (tCB r t):=by
 intro pins s σ H Q I h
 refine wpAny_Call_Name_kw (X2 I hg hm hv ?_ hn hdb)
 refine PyProof.Rows.callWith_type1 (thn (ha pos pins s σ H _ I h) fun us s1 zz18=>?_) he hpl
 obtain ⟨vs,H1,I1,r1,q1⟩:=zz18
 exact hc pins s1 σ H1 vs us Q I1 r1 q1
end
end L2
namespace HT
open PySem PyProof.Rows
noncomputable def lexLt:List Int→List Int→Bool
 | [],[]=>false
 | [],_ :: _=>true
 | _ :: _,[]=>false
 | x :: xs,y :: ys=>if x=y then lexLt xs ys else decide (x < y)
theorem Qe (x y:Int) (xs ys:List Int):lexLt (x :: xs) (y :: ys)=if x=y then lexLt xs ys else decide (x < y):=rfl
theorem Uc:lexLt [] []=false:=rfl
theorem Jt (y:Int) (ys:List Int):lexLt [] (y :: ys)=true:=rfl
theorem Wu (x:Int) (xs:List Int):lexLt (x :: xs) []=false:=rfl
theorem Zjc (A:Around) (s:Shared) (a:Int) (t:Tok) (c:Int) (u:Tok):∃ e,SeqAt.EqAt A s (.int a t) (.int c u) e∧(e=true ↔ a=c) :=
 ⟨(a == c),SeqAt.EqAt.int_int a t c u,by simp⟩
theorem Zh5 (A:Around) (s:Shared) (a:Int) (t:Tok) (c:Int) (u:Tok) (prog:Program) (w:World) (E:Value→Shared→Prop) (Q:Value→Shared→Prop) (h:Q (.bool (decide (a < c))) s) :
  wpAny (model prog w) A (richCompare .Lt (.int a t) (.int c u)) Q E s :=
 (PyProof.Rows.lt_int h:wpAny (model prog w) A (compareOp .Lt (.int a t) (.int c u)) Q E s)
section
variable {prog:Program} {w:World} {A:Around} {E:Value→Shared→Prop} {s:Shared}
noncomputable def sIx (n d:Nat):Option Int→Nat
 | none=>d
 | some v=>if v < 0 then (v + (n:Int)).toNat else min v.toNat n
theorem sIx_none (n d:Nat):sIx n d none=d:=rfl
theorem sIx_nat (n d k:Nat):sIx n d (some (k:Int))=min k n:=by
 show (if (k:Int) < 0 then ((k:Int) + (n:Int)).toNat else min (k:Int).toNat n)=min k n
 rw [if_neg (by omega),Int.toNat_natCast]
end
end HT
namespace L2
open PySem PySem.Spec PyProof.Rows
noncomputable abbrev TO:=St→Hp→(Option Int→Hp→Prop)→Prop
noncomputable def PO (X:Cx) (e:Option Expr) (t:TO):Prop :=
 ∀ (pins:List (Addr × Obj)) (s:Shared) (σ:St) (H:Hp) (Q:Option Int→Hp→Prop),Inv X pins σ H s→t σ H Q →
  wpAny (model X.prog X.w) X.A (evalPart e X.env) (fun u s'=>∃ o H',Inv X pins σ H' s'∧IsPart u o∧Q o H') X.xe s
noncomputable def Zj2:TO:=fun _ H Q=>Q none H
noncomputable def Znl (t:TE):TO:=fun σ H Q=>t σ H fun x H1=>∃ i,x=.int i∧Q (some i) H1
theorem Qf {ns:List Int}:∀ {us:List Value},Vals (ns.map V.int) us→IntsAre us ns:=by
 induction ns with
 | nil=>intro us r; rw [List.map_nil] at r; cases r; exact .nil
 | cons n ns ih =>
  intro us r
  rw [List.map_cons] at r
  cases r with
  | cons r1 r2 =>
   obtain ⟨t,e⟩:=r1
   subst e
   exact .cons n t (ih r2)
section
variable {X:Cx} {e:Expr} {te:TE} {lo hi:Option Expr} {tl th:TO} {pos p2:Pos}
theorem Jp:PO X none Zj2:=by
 intro pins s σ H Q I h
 rw [evalPart_none]
 exact wpAny_pure ⟨none,H,I,.none,h⟩
theorem X0 (h:PE X e te):PO X (some e) (Znl te):=by
 intro pins s σ H Q I hw
 rw [evalPart_some]
 refine thn (h pins s σ H _ I hw) fun u s1 zz9=>?_
 obtain ⟨x,H1,I1,r1,q1⟩:=zz9
 obtain ⟨i,rfl,q⟩:=q1
 obtain ⟨t,rfl⟩:=r1
 exact ⟨some i,H1,I1,.int i t,q⟩
noncomputable def SlR (X:Cx) (r:V→Option Int→Option Int→Hp→VK→Prop):Prop :=
 ∀ (pins:List (Addr × Obj)) (s:Shared) (σ:St) (H:Hp) (x:V) (v vl vu:Value) (lo hi:Option Int) (sl:Addr) (Q:VK),Inv X pins σ H s→RelV x v→s.heap.IsSliceOf sl vl vu .none→IsPart vl lo→IsPart vu hi→r x lo hi H Q →
  ∃ T id,typeLookup (.type T) "__getitem__"=pure (some (.builtin id))∧s.TypeIs v T∧wpAny (model X.prog X.w) X.A (getItem v (.ref sl)) (EP X pins σ Q) X.xe s
noncomputable def tSl (r:V→Option Int→Option Int→Hp→VK→Prop) (te:TE) (tl th:TO):TE:=fun σ H Q=>te σ H fun x H1=>tl σ H1 fun l H2=>th σ H2 fun u H3=>r x l u H3 Q
theorem Wa {r:V→Option Int→Option Int→Hp→VK→Prop} (hr:SlR X r) (he:PE X e te) (hl:PO X lo tl) (hu:PO X hi th):PE X (.Subscript e (.Slice lo hi none p2) pos) (tSl r te tl th):=by
 intro pins s σ H Q I h
 refine Subscript_ (thn (he pins s σ H _ I h) fun v s1 zz9=>?_)
 obtain ⟨x,H1,I1,r1,q1⟩:=zz9
 refine wpAny_Slice (thn (hl pins s1 σ H1 _ I1 q1) fun vl s2 zz19=>?_)
 obtain ⟨l,H2,I2,pl,q2⟩:=zz19
 refine thn (hu pins s2 σ H2 _ I2 q2) fun vu s3 zz9=>?_
 obtain ⟨u,H3,I3,pu,q3⟩:=zz9
 rw [evalPart_none]
 refine wpAny_pure ?_
 have I4:Inv X pins σ H3 { s3 with heap:=s3.heap.push { cls:=.type "slice",data:=.fields #[vl,vu,.none] } }:=I3.kept (t':=s3.toks) fun b ob q=>Heap.get?_push_of_some _ q
 obtain ⟨T,id,hT,ht,hg⟩:=hr pins { s3 with heap:=s3.heap.push { cls:=.type "slice",data:=.fields #[vl,vu,.none] } } σ H3 x v vl vu l u s3.heap.objs.size Q I4 r1 (Heap.IsSliceOf.new ..) pl pu q3
 show wpAny (model X.prog X.w) X.A (subscriptTail e (.Slice lo hi none p2) v (.ref s3.heap.objs.size)) (EP X pins σ Q) X.xe { s3 with heap:=s3.heap.push { cls:=.type "slice",data:=.fields #[vl,vu,.none] } }
 exact tail_any (ops:=[.ref s3.heap.objs.size,v]) ht hT hg (by with_unfolding_all rfl)
noncomputable def cutV (xs:List V) (lo hi:Option Int):List V:=(xs.drop (HT.sIx xs.length 0 lo)).take (HT.sIx xs.length xs.length hi - HT.sIx xs.length 0 lo)
theorem Zc7 (xs:List V) (lo hi:Option Int):(cutV xs lo hi).length≤xs.length:=by
 unfold cutV
 rw [List.length_take,List.length_drop]
 omega
end
end L2
namespace L2
open PySem PySem.Spec PyProof.Rows
noncomputable def ixN (n:Nat) (i:Int):Option Nat:=if 0≤i then (if i < n then some i.toNat else none) else if -(n:Int)≤i then some (i + n).toNat else none
noncomputable def atI {α:Type} (xs:List α) (i:Int):Option α:=(ixN xs.length i).bind fun j=>xs[j]?
theorem Zdx {n:Nat} {i:Int} {j:Nat} (h:ixN n i=some j):seqIndex? i n=some j∧j < n∧-(n:Int)≤i∧i < n:=by
 unfold ixN at h
 by_cases h0:0≤i
 ·rw [if_pos h0] at h
  by_cases h1:i < n
  ·rw [if_pos h1] at h
   have e:i.toNat=j:=Option.some.inj h
   exact ⟨by rw [seqIndex_of h0 h1,e],by omega,by omega,h1⟩
  ·rw [if_neg h1] at h; cases h
 ·rw [if_neg h0] at h
  by_cases h1:-(n:Int)≤i
  ·rw [if_pos h1] at h
   have e:(i + n).toNat=j:=Option.some.inj h
   exact ⟨by rw [seqIndex_neg (by omega) h1,e],by omega,h1,by omega⟩
  ·rw [if_neg h1] at h; cases h
theorem Zd7 {α:Type} {xs:List α} {i:Int} {v:α} (h:atI xs i=some v):∃ j,seqIndex? i xs.length=some j∧xs[j]?=some v∧j < xs.length∧-(xs.length:Int)≤i∧i < xs.length:=by
 unfold atI at h
 cases e:ixN xs.length i with
 | none=>rw [e] at h; cases h
 | some j =>
  rw [e] at h
  obtain ⟨h1,h2,h3,h4⟩:=Zdx e
  exact ⟨j,h1,h,h2,h3,h4⟩
theorem Yu {α:Type} {xs:List α} {j:Nat} {v:α} (h:xs[j]?=some v):atI xs (j:Int)=some v:=by
 have hj:j < xs.length:=(List.getElem?_eq_some_iff.mp h).1
 have e:ixN xs.length (j:Int)=some j:=by
  unfold ixN
  rw [if_pos (by omega),if_pos (by omega)]; simp
 unfold atI; rw [e]; exact h
noncomputable def Zlv (b:Expr):Prop:=∀ o i,subscripted b false o i=operate [o,i] (getItem o i)
noncomputable def IxR (X:Cx) (r:R2):Prop :=
 ∀ (value slice:Expr) (pins:List (Addr × Obj)) (s:Shared) (σ:St) (H:Hp) (x y:V) (v u:Value) (Q:VK),Inv X pins σ H s→RelV x v→RelV y u→r x y H Q →
  subscripted slice false v u=operate [v,u] (getItem v u)→wpAny (model X.prog X.w) X.A (subscriptTail value slice v u) (EP X pins σ Q) X.xe s
noncomputable def MtR (X:Cx) (id:String) (r:V→List V→Hp→VK→Prop):Prop :=
 ∀ (pins:List (Addr × Obj)) (s:Shared) (σ:St) (H:Hp) (x:V) (xs:List V) (v:Value) (us:List Value) (Q:VK),Inv X pins σ H s→RelV x v→Vals xs us→r x xs H Q →
  wpAny (model X.prog X.w) X.A (call (.builtin id) (v :: us)) (EP X pins σ Q) X.xe s
section
variable {X:Cx} {a b:Expr} {ta tb:TE} {pos:Pos}
theorem Zp {r:R2} (hr:IxR X r) (ha:PE X a ta) (hb:PE X b tb) (hs:Zlv b):PE X (.Subscript a b pos) (tOp r ta tb):=by
 intro pins s σ H Q I h
 exact Subscript_ (binT ha hb I h fun v u s2 x y H2 I2 rx ry q=>hr a b pins s2 σ H2 x y v u Q I2 rx ry q (hs _ _))
noncomputable def rIxL (K:PySem.W.Frag):R2:=fun x y H Q=>∃ p xs i v,x=.ref p∧y=.int i∧SqL K H p xs∧atI xs i=some v∧Q v H
noncomputable def rIxT (K:PySem.W.Frag):R2:=fun x y H Q=>∃ p xs i v,x=.ref p∧y=.int i∧SqT K H p xs∧atI xs i=some v∧Q v H
theorem Zs:IxR X (rIxL X.K):=by
 intro value slice pins s σ H x y v u Q I rx ry h hs
 obtain ⟨p,xs,i,z,rfl,rfl,hq,he,q⟩:=h
 cases rx
 obtain ⟨t,rfl⟩:=ry
 obtain ⟨its,r,pl,hz⟩:=I.list hq
 obtain ⟨j,h1,h2,h3,h4,h5⟩:=Zd7 he
 obtain ⟨w,ew,rw'⟩:=r.get h2
 have hl:=r.length
 have hn:=Uv
 have fin:EP X pins σ Q w s:=⟨z,H,I,rw',q⟩
 by_cases h0:0≤i
 ·have hj:i.toNat=j:=by
   rw [seqIndex_of h0 h5] at h1
   exact Option.some.inj h1
  exact item_listR pl.isList h0 (by omega) (by rw [hj]; simpa using ew) fin hs
 ·have hj:(i + (its.toArray.size:Int)).toNat=j:=by
   rw [seqIndex_neg (by omega) h4] at h1
   rw [List.size_toArray,← hl]
   exact Option.some.inj h1
  exact subscriptTail_builtinR (x:=w) pl.isList.typeIs slot_list_getitem.lookup
   (wpAny_getItem_list_neg (Q:=fun r s'=>r=w∧EP X pins σ Q r s') pl.isList (by omega) (by rw [List.size_toArray] <;> omega) (by omega) (by rw [hj]; simpa using ew) ⟨rfl,fin⟩) hs
theorem Jh:IxR X (rIxT X.K):=by
 intro value slice pins s σ H x y v u Q I rx ry h hs
 obtain ⟨p,xs,i,z,rfl,rfl,hq,he,q⟩:=h
 cases rx
 obtain ⟨t,rfl⟩:=ry
 obtain ⟨its,r,pl,hz⟩:=I.tuple hq
 obtain ⟨j,h1,h2,h3,h4,h5⟩:=Zd7 he
 obtain ⟨w,ew,rw'⟩:=r.get h2
 have hl:=r.length
 have hn:=Uv
 have fin:EP X pins σ Q w s:=⟨z,H,I,rw',q⟩
 exact subscriptTail_builtinR (x:=w) pl.typeIs slot_tuple_getitem.lookup
  (getItem_tuple (j:=j) (Q:=fun r s'=>r=w∧EP X pins σ Q r s') pl (by omega) (by omega) (by rw [List.size_toArray,← hl]; exact h1) (by simpa using ew) ⟨rfl,fin⟩) hs
theorem Zev (its:List Value) (n j:Nat) (u:Value):Obj.mapSeq (·.setIfInBounds j u) { cls:=.type "list",data:=.seq its.toArray n }={ cls:=.type "list",data:=.seq (its.set j u).toArray n }:=by
 simp [Obj.mapSeq]
theorem Inv.lst {pins:List (Addr × Obj)} {σ:St} {H:Hp} {s:Shared} {p:Addr} {xs:List V} (I:Inv X pins σ H s) (h:H p=some (.lst xs)) :
  ∃ (its:List Value) (n:Nat),Vals xs its∧s.heap.get? p=some { cls:=.type "list",data:=.seq its.toArray n }∧xs.length≤sizeLine:=by
 obtain ⟨z,its,n,r,e⟩:=I.hok p _ h
 exact ⟨its,n,r,e,z⟩
theorem Inv.lstUpd {pins:List (Addr × Obj)} {σ:St} {H:Hp} {s:Shared} {p:Addr} {xs ys:List V} {its its':List Value} {n n':Nat} {f:Obj→Obj} (I:Inv X pins σ H s) (h:H p=some (.lst xs))
  (ho:s.heap.get? p=some { cls:=.type "list",data:=.seq its.toArray n }) (hf:f { cls:=.type "list",data:=.seq its.toArray n }={ cls:=.type "list",data:=.seq its'.toArray n' }) (r:Vals ys its') (hz:ys.length≤sizeLine) (t:Nat) :
  Inv X pins σ (upd H p (.lst ys)) { s with heap:=s.heap.update p f,toks:=t }:=by
 have e:(s.heap.update p f).get? p=some { cls:=.type "list",data:=.seq its'.toArray n' }:=by
  rw [Heap.get?_update_self f ho (by rw [hf] <;> rfl),hf]
 refine I.write (x:=p) (e:=p) (by rw [h]; trivial) (.inl rfl) (fun b u hb q=>(Heap.get?_update_other _ _ (Ne.symm hb)).trans q) ⟨_,e⟩ ?_
 exact ⟨hz,its',n',r,e⟩
noncomputable def Znu:V→V→V→Hp→(Hp→Prop)→Prop:=fun o i v H Q=>∃ p xs k j,o=.ref p∧i=.int k∧H p=some (.lst xs)∧ixN xs.length k=some j∧Q (upd H p (.lst (xs.set j v)))
theorem Xr:PSet X Znu:=by
 intro pins s σ H o i v ov iv u Q I ro ri rv h
 obtain ⟨p,xs,k,j,rfl,rfl,hp,hj,q⟩:=h
 cases ro
 obtain ⟨t,rfl⟩:=ri
 obtain ⟨its,n,r,ho,hz⟩:=I.lst hp
 obtain ⟨h1,h2,h3,h4⟩:=Zdx hj
 have hl:=r.length
 have hn:=Uv
 have I':Inv X pins σ (upd H p (.lst (xs.set j v))) { s with heap:=s.heap.update p (Obj.mapSeq (·.setIfInBounds j u)) } :=
  I.lstUpd hp ho (Zev its n j u) (r.set rv j) (by rw [List.length_set]; exact hz) s.toks
 by_cases h0:0≤k
 ·have hk:k.toNat=j:=by
   rw [seqIndex_of h0 h4] at h1
   exact Option.some.inj h1
  exact PySem.W.ki_setAt ho h0 (by omega) (by rw [List.size_toArray,← hl]; exact h4) (by rw [hk]; exact ⟨_,I',q⟩)
 ·have hk:(k + (its.toArray.size:Int)).toNat=j:=by
   rw [seqIndex_neg (by omega) h3] at h1
   rw [List.size_toArray,← hl]
   exact Option.some.inj h1
  exact PySem.W.ki_setBack ho (by omega) (by rw [List.size_toArray,← hl]; exact h3) (by omega) (by rw [hk]; exact ⟨_,I',q⟩)
theorem Zat (lo hi:Option Int) (n:Nat):(sliceBounds lo hi none n).1=((HT.sIx n 0 lo:Nat):Int)∧(sliceBounds lo hi none n).2.1=((HT.sIx n n hi:Nat):Int)∧(sliceBounds lo hi none n).2.2=1:=by
 refine ⟨?_,?_,rfl⟩
 ·cases lo with
  | none=>simp [sliceBounds,HT.sIx]
  | some i =>
   simp only [sliceBounds,HT.sIx,Option.getD_none,show (1:Int) > 0 by decide,if_true]
   by_cases h:i < 0
   ·simp only [h,if_true] <;> omega
   ·simp only [h,if_false] <;> omega
 ·cases hi with
  | none=>simp [sliceBounds,HT.sIx]
  | some i =>
   simp only [sliceBounds,HT.sIx,Option.getD_none,show (1:Int) > 0 by decide,if_true]
   by_cases h:i < 0
   ·simp only [h,if_true] <;> omega
   ·simp only [h,if_false] <;> omega
theorem F6 (its:List Value) (lo hi:Option Int):slicePick its.toArray lo hi none=((its.drop (HT.sIx its.length 0 lo)).take (HT.sIx its.length its.length hi - HT.sIx its.length 0 lo)).toArray:=by
 obtain ⟨h1,h2,h3⟩:=Zat lo hi its.toArray.size
 unfold slicePick
 rw [h1,h2,h3]
 simp only [sliceRange_one,pick_run,List.size_toArray] <;> rfl
noncomputable def rSlL (K:PySem.W.Frag):V→Option Int→Option Int→Hp→VK→Prop:=fun x lo hi H Q=>∃ a xs,x=.ref a∧SqL K H a xs∧∀ p,H p=none→Q (.ref p) (upd H p (.lst (cutV xs lo hi)))
theorem Ve:SlR X (rSlL X.K):=by
 intro pins s σ H x v vl vu lo hi sl Q I rx hs pl pu h
 obtain ⟨a,xs,rfl,hx,q⟩:=h
 cases rx
 obtain ⟨its,r,ht,hz⟩:=I.list hx
 have hlen:=r.length
 refine ⟨"list",_,slot_list_getitem.lookup,ht.isList.typeIs,?_⟩
 refine wpAny_getItem_list_slice ht.isList hs pl pu .none (by simp) ?_ (by rw [List.size_toArray] <;> omega)
 rw [F6,← hlen]
 refine ⟨.ref s.heap.objs.size,_,I.laid (t':=s.toks) (o:=.lst (cutV xs lo hi)) (fun b ob q=>Heap.get?_push_of_some _ q) (Nat.le_refl _) ?_,rfl,q _ (I.hok.fresh (Nat.le_refl _))⟩
 exact ⟨Nat.le_trans (Zc7 xs lo hi) hz,_,0,(r.drop (HT.sIx xs.length 0 lo)).take (HT.sIx xs.length xs.length hi - HT.sIx xs.length 0 lo),Heap.get?_push_size _ rfl⟩
noncomputable def Qh:V→Bool
 | .non=>true
 | .bl _=>true
 | .int _=>true
 | .str _=>true
 | _=>false
noncomputable def eqV:V→V→Bool
 | .non,.non=>true
 | .bl a,.bl b=>a == b
 | .bl a,.int b=>(if a then 1 else 0) == b
 | .int a,.bl b=>a == (if b then 1 else 0)
 | .int a,.int b=>a == b
 | .str a,.str b=>a == b
 | _,_=>false
theorem Zm9 {A:Around} {s:Shared} {y x:V} {u v:Value} (ry:RelV y u) (rx:RelV x v) (fy:Qh y=true) (fx:Qh x=true):SeqAt.EqAt A s u v (eqV y x):=by
 cases y with
 | non =>
  cases ry
  cases x with
  | non=>cases rx; exact SeqAt.EqAt.same _
  | bl b=>cases rx; exact SeqAt.EqAt.none_bool b
  | int b=>obtain ⟨t,rfl⟩:=rx; exact SeqAt.EqAt.none_int b t
  | str b=>obtain ⟨t,rfl⟩:=rx; exact SeqAt.EqAt.none_str b t
  | _=>exact absurd (show false=true from fx) Bool.false_ne_true
 | bl a =>
  cases ry
  cases x with
  | non=>cases rx; exact SeqAt.EqAt.bool_none a
  | bl b=>cases rx; exact SeqAt.EqAt.bool_bool a b
  | int b=>obtain ⟨t,rfl⟩:=rx; exact SeqAt.EqAt.bool_int a b t
  | str b=>obtain ⟨t,rfl⟩:=rx; exact SeqAt.EqAt.bool_str a b t
  | _=>exact absurd (show false=true from fx) Bool.false_ne_true
 | int a =>
  obtain ⟨t',rfl⟩:=ry
  cases x with
  | non=>cases rx; exact SeqAt.EqAt.int_none a t'
  | bl b=>cases rx; exact SeqAt.EqAt.int_bool a t' b
  | int b=>obtain ⟨t,rfl⟩:=rx; exact SeqAt.EqAt.int_int a t' b t
  | str b=>obtain ⟨t,rfl⟩:=rx; exact SeqAt.EqAt.int_str a t' b t
  | _=>exact absurd (show false=true from fx) Bool.false_ne_true
 | str a =>
  obtain ⟨t',rfl⟩:=ry
  cases x with
  | non=>cases rx; exact SeqAt.EqAt.str_none a t'
  | bl b=>cases rx; exact SeqAt.EqAt.str_bool a t' b
  | int b=>obtain ⟨t,rfl⟩:=rx; exact SeqAt.EqAt.str_int a t' b t
  | str b=>obtain ⟨t,rfl⟩:=rx; exact SeqAt.EqAt.str_str a t' b t
  | _=>exact absurd (show false=true from fx) Bool.false_ne_true
 | _=>exact absurd (show false=true from fy) Bool.false_ne_true
noncomputable def eqU (x:V) (u:Value):Bool:=match u with
 | .none=>eqV .non x
 | .bool b=>eqV (.bl b) x
 | .int i _=>eqV (.int i) x
 | .str z _=>eqV (.str z) x
 | _=>false
theorem Zg7 {x y:V} {u:Value} (r:RelV y u) (f:Qh y=true):eqU x u=eqV y x:=by
 cases y with
 | non=>cases r; rfl
 | bl b=>cases r; rfl
 | int i=>obtain ⟨t,rfl⟩:=r; rfl
 | str z=>obtain ⟨t,rfl⟩:=r; rfl
 | _=>exact absurd (show false=true from f) Bool.false_ne_true
theorem Gv {x:V}:∀ {xs:List V} {us:List Value},Vals xs us→xs.all Qh=true→us.any (eqU x)=xs.any fun y=>eqV y x
 | _,_,.nil,_=>rfl
 | y :: xs,u :: us,.cons r t,f=>by
  rw [List.all_cons,Bool.and_eq_true] at f
  rw [List.any_cons,List.any_cons,Zg7 r f.1,Gv t f.2]
theorem O4 {A:Around} {s:Shared} {x:V} {v:Value} (rx:RelV x v) (fx:Qh x=true):∀ {xs:List V} {us:List Value},Vals xs us→xs.all Qh=true→∀ u∈us,SeqAt.EqAt A s u v (eqU x u)
 | _,_,.nil,_=>fun u hu=>by cases hu
 | y :: xs,u :: us,.cons r t,f=>fun u' hu=>by
  rw [List.all_cons,Bool.and_eq_true] at f
  rcases List.mem_cons.mp hu with rfl | hu
  ·rw [Zg7 r f.1]; exact Zm9 r rx f.1 fx
  ·exact O4 rx fx t f.2 u' hu
noncomputable def inV (x:V) (xs:List V):Bool:=xs.any fun y=>eqV y x
noncomputable def rIn (K:PySem.W.Frag) (neg:Bool):R2:=fun x y H Q=>∃ p xs,y=.ref p∧(SqL K H p xs∨SqT K H p xs)∧Qh x=true∧xs.all Qh=true∧Q (.bl (if neg then !inV x xs else inV x xs)) H
theorem Zbp:OpR X (compareOp .NotIn) (rIn X.K true):=by
 intro pins s σ H x y v u Q I rx ry h
 obtain ⟨p,xs,rfl,hq,fx,fs,q⟩:=h
 cases ry
 rcases hq with hq | hq
 ·obtain ⟨its,r,pl,hz⟩:=I.list hq
  refine SeqAt.notIn_listAt (eqU x) pl.isList (fun w hw=>O4 rx fx r fs w (by simpa using hw)) ⟨.bl _,H,I,rfl,?_⟩
  rw [show its.toArray.any (eqU x)=its.any (eqU x) by simp,Gv r fs]
  exact q
 ·obtain ⟨its,r,pl,hz⟩:=I.tuple hq
  refine SeqAt.notIn_tupleAt (eqU x) pl (fun w hw=>O4 rx fx r fs w (by simpa using hw)) ⟨.bl _,H,I,rfl,?_⟩
  rw [show its.toArray.any (eqU x)=its.any (eqU x) by simp,Gv r fs]
  exact q
theorem Zh:Jk X (.builtin "len") (fun xs H Q=>∃ p ys,xs=[.ref p]∧(SqL X.K H p ys∨SqT X.K H p ys)∧Q (.int ys.length) H):=by
 intro pins s σ H xs us Q I r h
 obtain ⟨p,ys,rfl,hq,q⟩:=h
 obtain ⟨u,rfl,rx⟩:=Jz r
 cases rx
 have hn:=Uv
 rcases hq with hq | hq
 ·obtain ⟨its,r',pl,hz⟩:=I.list hq
  have hlen:=r'.length
  exact Calls.call_len_list pl.isList (by simp only [List.size_toArray] <;> omega) ⟨.int ys.length,H,I.tok _,⟨s.toks + 1,by rw [List.size_toArray,hlen]⟩,q⟩
 ·obtain ⟨its,r',pl,hz⟩:=I.tuple hq
  have hlen:=r'.length
  exact len_tuple pl (by simp only [List.size_toArray] <;> omega) ⟨.int ys.length,H,I.tok _,⟨s.toks + 1,by rw [List.size_toArray,hlen]⟩,q⟩
theorem Yo:Jk X (.type "list") (fun xs H Q=>∃ p ys,xs=[.ref p]∧(SqL X.K H p ys∨SqT X.K H p ys)∧∀ l,H l=none→Q (.ref l) (upd H l (.lst ys))):=by
 intro pins s σ H xs us Q I r h
 obtain ⟨p,ys,rfl,hq,q⟩:=h
 obtain ⟨u,rfl,rx⟩:=Jz r
 cases rx
 have fin:∀ (its:List Value),Vals ys its→ys.length≤sizeLine→∀ (h':Heap) (c':Nat),(∀ b o',s.heap.get? b=some o'→h'.get? b=some o') →
   h'.get? s.heap.objs.size=some { cls:=.type "list",dict:=none,data:=.seq its.toArray c',slots:=#[] }→EP X pins σ Q (.ref s.heap.objs.size) { s with heap:=h' }:=fun its r' hz h' c' kp e =>
  ⟨.ref s.heap.objs.size,_,I.laid (t':=s.toks) kp (Nat.le_refl _) (show Yf X.prog X.w _ h' _ (.lst ys) from ⟨hz,its,c',r',e⟩),rfl,q _ (I.hok.fresh (Nat.le_refl _))⟩
 rcases hq with hq | hq
 ·obtain ⟨its,r',pl,hz⟩:=I.list hq
  have hlen:=r'.length
  obtain ⟨o,ho,hc,n,hd⟩:=pl.isList
  exact call_list_seq p (.inl rfl) ho hc hd (fun h' c' kp e=>fin its r' hz h' c' kp e) (by simp only [List.size_toArray] <;> omega)
 ·obtain ⟨its,r',pl,hz⟩:=I.tuple hq
  have hlen:=r'.length
  obtain ⟨o,ho,hc,n,hd⟩:=pl
  exact call_list_seq p (.inr rfl) ho hc hd (fun h' c' kp e=>fin its r' hz h' c' kp e) (by simp only [List.size_toArray] <;> omega)
theorem F9:Jk X (.type "tuple") (fun xs H Q=>∃ p ys,xs=[.ref p]∧((SqL X.K H p ys∧∀ l,H l=none→Q (.ref l) (upd H l (.tup ys)))∨(SqT X.K H p ys∧Q (.ref p) H))):=by
 intro pins s σ H xs us Q I r h
 obtain ⟨p,ys,rfl,h⟩:=h
 obtain ⟨u,rfl,rx⟩:=Jz r
 cases rx
 rcases h with ⟨hq,q⟩ | ⟨hq,q⟩
 ·obtain ⟨its,r',pl,hz⟩:=I.list hq
  have hlen:=r'.length
  refine call_tuple_list pl.isList (fun h' kp=>?_) (by simp only [List.size_toArray] <;> omega)
  have I1:Inv X pins σ H { s with heap:=h' }:=I.kept (t':=s.toks) kp
  have I2:Inv X pins σ (upd H h'.objs.size (.tup ys)) { s with heap:=h'.push { cls:=.type "tuple",data:=.seq its.toArray } } :=
   I1.laid (t':=s.toks) (fun b o e=>Heap.get?_push_of_some _ e) (Nat.le_refl _) (show Yf X.prog X.w _ _ _ (.tup ys) from ⟨hz,its,r',IsTup.new _ _⟩)
  exact ⟨.ref h'.objs.size,_,I2,rfl,q _ (I1.hok.fresh (Nat.le_refl _))⟩
 ·obtain ⟨its,r',pl,hz⟩:=I.tuple hq
  exact call_tuple_same pl ⟨.ref p,H,I,rfl,q⟩
noncomputable def tyV (K:PySem.W.Frag) (T:String) (x:V) (H:Hp):Prop:=match x with
 | .str _=>T="str"
 | .int _=>T="int"
 | .ref p=>(T="list"∧∃ xs,SqL K H p xs)∨(T="tuple"∧∃ o,K.lookup p=some o∧o.cls=.type "tuple"∧o.dict=none) ∨
   (T="dict"∧((∃ kvs,H p=some (.dK kvs))∨∃ kvs,H p=some (.dT kvs)))∨(T="set"∧∃ S n,H p=some (.set S n))
 | _=>False
theorem Zl1 {pins:List (Addr × Obj)} {σ:St} {H:Hp} {s:Shared} {T:String} {x:V} {v:Value} (I:Inv X pins σ H s) (r:RelV x v) (ty:tyV X.K T x H) :
  s.TypeIs v T∧∀ a,v=.ref a→∃ ob,s.heap.get? a=some ob∧ob.dict=none:=by
 cases x with
 | str z =>
  obtain ⟨t,rfl⟩:=r
  cases (show T="str" from ty)
  exact ⟨typeIs_str s z t,fun _ e=>nomatch e⟩
 | int i =>
  obtain ⟨t,rfl⟩:=r
  cases (show T="int" from ty)
  exact ⟨typeIs_int s i t,fun _ e=>nomatch e⟩
 | ref p =>
  cases r
  rcases ty with ⟨rfl,xs,hq⟩ | ⟨rfl,o,hk,hc,hd⟩ | ⟨rfl,hk⟩ | ⟨rfl,S,n,hk⟩
  ·obtain ⟨its,_,pl,_⟩:=I.list hq
   refine ⟨pl.isList.typeIs,fun a e=>?_⟩
   cases e
   obtain ⟨o,n,e,c,hd,_⟩:=pl
   exact ⟨o,e,hd⟩
  ·refine ⟨⟨o,I.kIn p o hk,hc⟩,fun a e=>?_⟩
   cases e
   exact ⟨o,I.kIn _ o hk,hd⟩
  ·have z:∃ o,s.heap.get? p=some o∧o.ExactDict:=by
    rcases hk with ⟨kvs,hk⟩ | ⟨kvs,hk⟩
    ·obtain ⟨_,_,_,_,o,_,_,e,ex,_⟩:=I.hok p _ hk
     exact ⟨o,e,ex⟩
    ·obtain ⟨_,_,_,_,o,_,_,e,ex,_⟩:=I.hok p _ hk
     exact ⟨o,e,ex⟩
   obtain ⟨o,e,ex⟩:=z
   refine ⟨⟨o,e,ex.1⟩,fun a e2=>?_⟩
   cases e2
   exact ⟨o,e,ex.2.1⟩
  ·obtain ⟨o,_,_,_,e,ex,_⟩:=I.hok p _ hk
   refine ⟨⟨o,e,ex.1⟩,fun a e2=>?_⟩
   cases e2
   exact ⟨o,e,ex.2.1⟩
 | _=>exact False.elim ty
noncomputable def tBM (K:PySem.W.Frag) (T:String) (r:V→List V→Hp→VK→Prop) (to:TE) (t:TA):TE:=fun σ H Q=>to σ H fun x H1=>tyV K T x H1∧t σ H1 fun xs H2=>r x xs H2 Q
variable {o e:Expr} {es:List Expr} {to:TE} {t:TA} {name:Str} {apos cpos:Pos} {T id:String} {r:V→List V→Hp→VK→Prop}
theorem Wg (pa:PlainAttrs T) (slot:Slot T name id) (hty:typeOf (.builtin id)=pure (.type "method_descriptor")) (hm:MtR X id r) (ho:PE X o to) (ha:PA X (e :: es) t)
  (hbase:attributeBase o name X.env (eval o X.env)=eval o X.env:=by rfl)
  (hfew:((backTo cpos (starEach (e :: es) X.env)).all (fun x=>!x.1) && (backToKw cpos (keywordEach [] X.env)).all (fun x=>x.1.isSome)
   && decide ((e :: es).length + ([]:List Keyword).length + (if ([]:List Keyword).isEmpty then 0 else 1) < 30))=true:=by rfl)
  (hline:(apos.endLine == cpos.line)=true:=by rfl) (hs:starEach (e :: es) X.env=(false,eval e X.env) :: starEach es X.env:=by rfl) (hplain:(backTo cpos (starEach es X.env)).any (·.1)=false:=by rfl) :
  PE X (.Call (.Attribute o name apos) (e :: es) [] cpos) (tBM X.K T r to t):=by
 intro pins s σ H Q I h
 refine wpAny_Call_method_late hbase hfew hline rfl (thn (ho pins s σ H _ I h) fun v s1 zz9=>?_)
 obtain ⟨x,H1,I1,r1,ty,q1⟩:=zz9
 obtain ⟨h1,h2⟩:=Zl1 I1 r1 ty
 refine ⟨T,id,pa,slot,hty,h1,h2,?_⟩
 have hA:=ha cpos pins s1 σ H1 _ I1 q1
 rw [hs] at hA ⊢
 refine Calls.callWith_builtin (by show (false || (backTo cpos (starEach es X.env)).any (·.1))=false; rw [hplain] <;> rfl) (Calls.evalArgs_plain ?_)
 refine thn hA fun us s2 zz20=>?_
 obtain ⟨vs,H2,I2,r2,q2⟩:=zz20
 exact hm pins s2 σ H2 x vs v us Q I2 r1 r2 q2
end
end L2
namespace L2
open PySem PySem.Spec PyProof.Rows
noncomputable def MtM (X:Cx) (id:String) (r:V→List V→Hp→VK→Prop):Prop :=
 ∀ (pins:List (Addr × Obj)) (s:Shared) (σ:St) (H:Hp) (x:V) (xs:List V) (v:Value) (us:List Value) (Q:VK),Inv X pins σ H s→RelV x v→Vals xs us→r x xs H Q →
  wpAny (model X.prog X.w) X.A (call (.builtin id) (v :: us)) (EP X pins σ Q) X.xe s
theorem Vals.one {x:V} {us:List Value} (h:Vals [x] us):∃ u,us=[u]∧RelV x u:=by
  cases h with
  | cons r t=>cases t; exact ⟨_,rfl,r⟩
theorem Vals.two {x y:V} {us:List Value} (h:Vals [x,y] us):∃ u v,us=[u,v]∧RelV x u∧RelV y v:=by
  cases h with
  | cons r t =>
    obtain ⟨v,rfl,q⟩:=Vals.one t
    exact ⟨_,v,rfl,r,q⟩
theorem Vals.eraseIdx:∀ {xs:List V} {us:List Value} (i:Nat),Vals xs us→Vals (xs.eraseIdx i) (us.eraseIdx i)
 | _,_,_,.nil=>.nil
 | _,_,0,.cons _ t=>t
 | _,_,i + 1,.cons r t=>.cons r (Vals.eraseIdx i t)
theorem Vals.rep {xs:List V} {us:List Value} (h:Vals xs us):∀ k:Nat,Vals (List.replicate k xs).flatten (List.replicate k us).flatten
 | 0=>.nil
 | k + 1=>by
  rw [List.replicate_succ,List.replicate_succ,List.flatten_cons,List.flatten_cons]
  exact Vals.append h (Vals.rep h k)
theorem Fq {α:Type}:∀ (l:List α) (i:Nat),(l.eraseIdx i).length≤l.length
 | [],_=>Nat.le_refl _
 | _ :: _,0=>Nat.le_succ _
 | _ :: r,i + 1=>Nat.succ_le_succ (Fq r i)
theorem Fw (its:List Value):∀ (k:Nat) (acc:List Value),
  List.foldl (fun x1 x2=>x1 ++ x2) acc.toArray (List.replicate k its.toArray)=(acc ++ (List.replicate k its).flatten).toArray
 | 0,acc=>by simp
 | k + 1,acc=>by
  have e:acc.toArray ++ its.toArray=(acc ++ its).toArray:=by simp
  have e2:(acc ++ its) ++ (List.replicate k its).flatten=acc ++ (List.replicate (k + 1) its).flatten:=by
   rw [List.replicate_succ,List.flatten_cons,List.append_assoc]
  rw [← e2,← Fw its k (acc ++ its),← e,List.replicate_succ,List.foldl_cons]
section
variable {X:Cx} {pins:List (Addr × Obj)} {σ:St} {H:Hp} {s:Shared} {l b:Addr} {xs ys zs:List V}
theorem Inv.lset {its its':List Value} {n:Nat} {f:Array Value→Array Value} {t':Nat} (I:Inv X pins σ H s) (hH:H l=some (.lst xs))
  (e:s.heap.get? l=some { cls:=.type "list",data:=.seq its.toArray n }) (hf:f its.toArray=its'.toArray) (hv:Vals ys its') (hz:ys.length≤sizeLine) :
  Inv X pins σ (upd H l (.lst ys)) { s with heap:=s.heap.update l (Obj.mapSeq f),toks:=t' }:=by
 have q:=PySem.IsL.update e f
 rw [hf] at q
 refine I.write (x:=l) (e:=l) (by rw [hH]; exact trivial) (.inl rfl) (fun b' u hb hu=>(Heap.get?_update_other s.heap (Obj.mapSeq f) (Ne.symm hb)).trans hu) ⟨_,q⟩ ?_
 exact ⟨hz,its',_,hv,q⟩
theorem Inv.lnew {its:List Value} {t':Nat} (I:Inv X pins σ H s) (hv:Vals ys its) (hz:ys.length≤sizeLine) :
  Inv X pins σ (upd H s.heap.objs.size (.lst ys)) { s with heap:=s.heap.push { cls:=.type "list",data:=.seq its.toArray },toks:=t' } :=
 I.laid (fun _ _ q=>Heap.get?_push_of_some _ q) (Nat.le_refl _) ⟨hz,its,0,hv,Heap.get?_push_size _ rfl⟩
theorem Inv.fresh (I:Inv X pins σ H s):H s.heap.objs.size=none:=I.hok.fresh (Nat.le_refl _)
theorem Inv.lstM (I:Inv X pins σ H s) (hH:H l=some (.lst xs)):xs.length≤sizeLine∧∃ (its:List Value) (n:Nat),Vals xs its∧xs.length=its.length∧s.heap.get? l=some { cls:=.type "list",data:=.seq its.toArray n }:=by
 obtain ⟨z,its,n,r,e⟩:=I.hok l _ hH
 exact ⟨z,its,n,r,r.length,e⟩
theorem Zbu {n:Nat} (h:n≤sizeLine):Builtin.List.listTooLong n=false:=by
 unfold Builtin.List.listTooLong
 exact decide_eq_false (by omega)
end
section
variable {X:Cx}
noncomputable def Zko:V→List V→Hp→VK→Prop:=fun x vs H Q=>∃ l xs y,x=.ref l∧vs=[y]∧H l=some (.lst xs)∧xs.length < sizeLine∧Q .non (upd H l (.lst (xs ++ [y])))
theorem Y2:MtM X "list.append" Zko:=by
 intro pins s σ H x vs v us Q I rx rv h
 obtain ⟨l,xs,y,rfl,rfl,hH,hz,q⟩:=h
 cases rx
 obtain ⟨u,rfl,ru⟩:=rv.one
 obtain ⟨z,its,n,r,hl,e⟩:=I.lstM hH
 refine call_meets F.slot_list_append ⟨_,e,rfl⟩ F.entry_list_append (F.args_list_append_2 _ _) (PySem.list_append l its.toArray n u (by rw [List.size_toArray]; omega)) ⟨e,?_⟩
 refine ⟨.non,_,I.lset (its':=its ++ [u]) hH e (by simp) (r.append (.cons ru .nil)) ?_,rfl,q⟩
 rw [List.length_append,List.length_singleton]
 omega
noncomputable def Zkn:V→List V→Hp→VK→Prop:=fun x vs H Q=>∃ l b xs zs,x=.ref l∧vs=[.ref b]∧H l=some (.lst xs)∧H b=some (.lst zs)∧xs.length + zs.length≤sizeLine∧Q .non (upd H l (.lst (xs ++ zs)))
theorem Zgp:MtM X "list.extend" Zkn:=by
 intro pins s σ H x vs v us Q I rx rv h
 obtain ⟨l,b,xs,zs,rfl,rfl,hH,hB,hz,q⟩:=h
 cases rx
 obtain ⟨u,rfl,ru⟩:=rv.one
 cases ru
 obtain ⟨z,its,n,r,hl,e⟩:=I.lstM hH
 obtain ⟨z2,its2,n2,r2,hl2,e2⟩:=I.lstM hB
 have hsz:its.toArray.size + its2.toArray.size≤sizeLine:=by rw [List.size_toArray,List.size_toArray]; omega
 have hlong:¬ (!its.toArray.isEmpty && Builtin.List.listTooLong (its.toArray.size + its2.toArray.size))=true:=by
  rw [Zbu hsz,Bool.and_false]
  exact Bool.false_ne_true
 refine call_meets F.slot_list_extend ⟨_,e,rfl⟩ F.entry_list_extend (F.args_list_extend_2 _ _)
  (AutoSeq1.list_extend_list_list_0 l its.toArray n b its2.toArray n2 hlong (by rw [List.size_toArray]; omega) (by omega)) ⟨e,e2,?_⟩
 refine ⟨.non,_,I.lset (its':=its ++ its2) hH e (by simp) (r.append r2) ?_,rfl,q⟩
 rw [List.length_append]
 omega
noncomputable def Zmh:V→List V→Hp→VK→Prop:=fun x vs H Q=>∃ l xs i k y,x=.ref l∧vs=[.int i]∧H l=some (.lst xs)∧-(2 ^ 63)≤i∧i < 2 ^ 63∧seqIndex? i xs.length=some k∧xs[k]?=some y∧Q y (upd H l (.lst (xs.eraseIdx k)))
theorem Zbz:MtM X "list.pop" Zmh:=by
 intro pins s σ H x vs v us Q I rx rv h
 obtain ⟨l,xs,i,k,y,rfl,rfl,hH,h1,h2,hk,hy,q⟩:=h
 cases rx
 obtain ⟨u,rfl,ru⟩:=rv.one
 obtain ⟨t,rfl⟩:=ru
 obtain ⟨z,its,n,r,hl,e⟩:=I.lstM hH
 obtain ⟨w,hw,rw'⟩:=r.get hy
 refine call_meets F.slot_list_pop ⟨_,e,rfl⟩ F.entry_list_pop (F.args_list_pop_2 _ _)
  (MeetsSeq.list_pop_at l its.toArray n i t k w (fitsIndex_both h1 h2) (by rw [List.size_toArray,← hl]; exact hk) (by rw [← Array.getElem?_toList]; exact hw) (by rw [List.size_toArray]; omega)) ⟨e,?_⟩
 refine ⟨y,_,I.lset (its':=its.eraseIdx k) hH e ?_ (r.eraseIdx k) ?_,rw',q⟩
 ·show its.toArray.eraseIdxIfInBounds k=(its.eraseIdx k).toArray
  rw [List.eraseIdxIfInBounds_toArray]
 ·have:=Fq xs k
  omega
noncomputable def rCat:R2:=fun x y H Q=>∃ l b xs zs,x=.ref l∧y=.ref b∧H l=some (.lst xs)∧H b=some (.lst zs)∧xs.length + zs.length≤sizeLine∧∀ p,H p=none→Q (.ref p) (upd H p (.lst (xs ++ zs)))
theorem Kv:OpR X (binaryOp .Add) rCat:=by
 intro pins s σ H x y v u Q I rx ry h
 obtain ⟨l,b,xs,zs,rfl,rfl,hH,hB,hz,q⟩:=h
 cases rx
 cases ry
 obtain ⟨z,its,n,r,hl,e⟩:=I.lstM hH
 obtain ⟨z2,its2,n2,r2,hl2,e2⟩:=I.lstM hB
 refine PySem.P.add_list e e2 ?_ (by rw [List.size_toArray,List.size_toArray]; omega)
 have ea:its.toArray ++ its2.toArray=(its ++ its2).toArray:=by simp
 rw [ea]
 exact ⟨.ref _,_,I.lnew (t':=s.toks) (r.append r2) (by rw [List.length_append]; omega),rfl,q _ I.fresh⟩
noncomputable def rRep:R2:=fun x y H Q=>∃ l k xs,x=.ref l∧y=.int k∧H l=some (.lst xs)∧-(2 ^ 63)≤k∧k < 2 ^ 63∧xs.length * k.toNat≤sizeLine ∧
 ∀ p,H p=none→Q (.ref p) (upd H p (.lst (List.replicate k.toNat xs).flatten))
theorem Zk9 {α:Type} (xs:List α) (k:Nat):(List.replicate k xs).flatten.length=k * xs.length:=by
 induction k with
 | zero=>simp
 | succ k ih=>rw [List.replicate_succ,List.flatten_cons,List.length_append,ih,Nat.succ_mul,Nat.add_comm]
theorem Ku:OpR X (binaryOp .Mult) rRep:=by
 intro pins s σ H x y v u Q I rx ry h
 obtain ⟨l,k,xs,rfl,rfl,hH,h1,h2,hz,q⟩:=h
 cases rx
 obtain ⟨t,rfl⟩:=ry
 obtain ⟨z,its,n,r,hl,e⟩:=I.lstM hH
 have hlen:its.toArray.size * k.toNat≤sizeLine:=by rw [List.size_toArray,← hl]; exact hz
 have hcap:¬ its.toArray.size * k.toNat > (2 ^ 63 - 1) / 8:=by
  have:(sizeLine:Nat)≤(2 ^ 63 - 1) / 8:=by decide
  omega
 have hfit:¬ (!Builtin.List.listFitsIndex k)=true:=by
  rw [fitsIndex_both h1 h2]
  exact Bool.false_ne_true
 have hlong:¬ Builtin.List.listTooLong (its.toArray.size * k.toNat)=true:=by
  rw [Zbu hlen]
  exact Bool.false_ne_true
 have hnew:List.foldl (fun x1 x2=>x1 ++ x2) #[] (List.replicate (if its.toArray.isEmpty=true then 0 else k.toNat) its.toArray)=(List.replicate k.toNat its).flatten.toArray:=by
  have f0:∀ m:Nat,List.foldl (fun x1 x2=>x1 ++ x2) #[] (List.replicate m its.toArray)=(List.replicate m its).flatten.toArray:=fun m=>by
   have:=Fw its m []
   rw [List.nil_append] at this
   exact this
  rw [f0]
  cases its with
  | nil=>simp
  | cons a r'=>rw [if_neg (by simp)]
 refine wpAny_binaryOp_repeat_ref (T:="list") (U:="int") (by decide) ⟨_,e,rfl⟩ (fun s'=>typeIs_int s' k t) noFill_list_mul F.fills_int_mul F.slot_int_rmul repeat_list F.slot_int_index.lookup
  (call_meets F.slot_int_rmul (typeIs_int s k t) F.entry_int_rmul (F.args_int_rmul_2 _ _) (int___rmul___int_list k t l its.toArray n)
   ⟨e,rfl,⟨_,e,rfl⟩,call_meets F.slot_list_mul ⟨_,e,rfl⟩ F.entry_list_mul (F.args_list_mul_2 _ _) (AutoListH.list___mul___list_int_3 l its.toArray n k t hfit hcap hlong) ⟨e,?_⟩⟩)
 rw [hnew]
 exact ⟨.ref _,_,I.lnew (t':=s.toks) (r.rep k.toNat) (by rw [Zk9,Nat.mul_comm]; exact hz),rfl,q _ I.fresh⟩
end
end L2
namespace L2
open PySem PySem.Spec PyProof.Rows
section
variable {κ:Type} [DecidableEq κ]
noncomputable def valV (kvs:List (κ × V)) (k:κ):Option V:=(kvs.find? fun kv=>decide (kv.1=k)).map (·.2)
noncomputable def putK (kvs:List (κ × V)) (k:κ) (v:V):List (κ × V) :=
 if (kvs.any fun kv=>decide (kv.1=k))=true then kvs.map (fun kv=>if kv.1=k then (kv.1,v) else kv) else kvs ++ [(k,v)]
theorem Zaf {p:κ × V} {r:List (κ × V)} {k:κ} (e:p.1=k):valV (p :: r) k=some p.2:=by simp [valV,List.find?_cons,e]
theorem Zag {p:κ × V} {r:List (κ × V)} {k:κ} (e:¬ p.1=k):valV (p :: r) k=valV r k:=by simp [valV,List.find?_cons,e]
theorem Ow (kvs:List (κ × V)) (k:κ) (v:V):(putK kvs k v).length≤kvs.length + 1:=by
 unfold putK
 split
 ·rw [List.length_map]; omega
 ·rw [List.length_append,List.length_cons,List.length_nil]; omega
theorem RelO.isSome_eq {o:Option V} {u:Option Value} (r:RelO o u):o.isSome=u.isSome:=by
 cases o with
 | none=>cases u with
  | none=>rfl
  | some _=>exact (show False from r).elim
 | some _=>cases u with
  | none=>exact (show False from r).elim
  | some _=>rfl
theorem RelO.getD {o:Option V} {u:Option Value} {d:V} {d':Value} (r:RelO o u) (rd:RelV d d'):RelV (o.getD d) (u.getD d'):=by
 cases o with
 | none=>cases u with
  | none=>exact rd
  | some _=>exact (show False from r).elim
 | some _=>cases u with
  | none=>exact (show False from r).elim
  | some _=>exact r
theorem KV.val {kvs:List (κ × V)} {vs:List (κ × Value)} (r:KV kvs vs) (k:κ):RelO (valV kvs k) (valueAt vs k):=by
 unfold KV at r
 induction r with
 | nil=>exact True.intro
 | @cons p q ps qs h t ih =>
  obtain ⟨h1,h2⟩:=h
  by_cases e:p.1=k
  ·have e':q.1=k:=h1.symm.trans e
   have b:valueAt (q :: qs) k=some q.2:=by simp [valueAt,List.find?_cons,e']
   rw [Zaf e,b]; exact h2
  ·have e':¬ q.1=k:=fun z=>e (h1.trans z)
   have b:valueAt (q :: qs) k=valueAt qs k:=by simp [valueAt,List.find?_cons,e']
   rw [Zag e,b]; exact ih
theorem KV.any {kvs:List (κ × V)} {vs:List (κ × Value)} (r:KV kvs vs) (k:κ):(kvs.any fun kv=>decide (kv.1=k))=vs.any fun kv=>decide (kv.1=k):=by
 unfold KV at r
 induction r with
 | nil=>rfl
 | cons h t ih=>rw [List.any_cons,List.any_cons,ih,h.1]
theorem KV.repl {kvs:List (κ × V)} {vs:List (κ × Value)} (r:KV kvs vs) (k:κ) {y:V} {u:Value} (ry:RelV y u) :
  KV (kvs.map fun kv=>if kv.1=k then (kv.1,y) else kv) (vs.map fun kv=>if kv.1=k then (kv.1,u) else kv):=by
 unfold KV at r ⊢
 induction r with
 | nil=>exact .nil
 | @cons p q ps qs h t ih =>
  rw [List.map_cons,List.map_cons]
  refine .cons ?_ ih
  obtain ⟨h1,h2⟩:=h
  by_cases e:p.1=k
  ·rw [if_pos e,if_pos (h1.symm.trans e)]; exact ⟨h1,ry⟩
  ·rw [if_neg e,if_neg (fun z=>e (h1.trans z))]; exact ⟨h1,h2⟩
theorem KV.put {kvs:List (κ × V)} {vs:List (κ × Value)} (r:KV kvs vs) (k:κ) {y:V} {u:Value} (ry:RelV y u):KV (putK kvs k y) (stored vs k u):=by
 unfold putK stored
 rw [r.any k]
 by_cases e:(vs.any fun kv=>decide (kv.1=k))=true
 ·rw [if_pos e,if_pos e]; exact r.repl k ry
 ·rw [if_neg e,if_neg e]; exact Paired.snoc r ⟨rfl,ry⟩
theorem KV.length {kvs:List (κ × V)} {vs:List (κ × Value)} (r:KV kvs vs):kvs.length=vs.length:=Paired.length r
end
theorem V1 {P:Program} {w:World} {k:Key} {u:Value} (r:RelV (kV k) u):(Z9 P w).is k u=true:=by
 cases k with
 | inl i=>obtain ⟨t,e⟩:=(show ∃ t,u=Value.int i t from r); subst e; exact Zc1 P w i t
 | inr x=>obtain ⟨t,e⟩:=(show ∃ t,u=Value.str x t from r); subst e; exact Zc0 P w x t
theorem Fs {P:Program} {w:World}:∀ {ks:List Key} {us:List Value},Vals (ks.map kV) us→ItemsAre (Z9 P w) ks us
 | [],_,r=>by rw [List.map_nil] at r; cases r; exact .nil
 | k :: ks,_,r=>by
  rw [List.map_cons] at r
  cases r with
  | cons h t=>exact .cons (V1 h) (Fs t)
noncomputable abbrev KT (H:Hp):List (List Key × V)→List (List Key × Addr × Value)→Prop:=Paired fun p q=>p.1=q.1∧H q.2.1=some (.tup (p.1.map kV))∧RelV p.2 q.2.2
theorem KT.val {H:Hp} {kvs:List (List Key × V)} {xs:List (List Key × Addr × Value)} (r:KT H kvs xs) (k:List Key):RelO (valV kvs k) ((atKey xs k).map (·.2)):=by
 induction r with
 | nil=>exact True.intro
 | @cons p q ps qs h t ih =>
  obtain ⟨h1,_,h2⟩:=h
  by_cases e:p.1=k
  ·have e':q.1=k:=h1.symm.trans e
   have b:atKey (q :: qs) k=some q.2:=by simp [atKey,List.find?_cons,e']
   rw [Zaf e,b]; exact h2
  ·have e':¬ q.1=k:=fun z=>e (h1.trans z)
   have b:atKey (q :: qs) k=atKey qs k:=by simp [atKey,List.find?_cons,e']
   rw [Zag e,b]; exact ih
section
variable {P:Program} {w:World} {H:Hp} {h:Heap} {a:Addr}
theorem Zjm {u:HO} (ok:HOk P w H h) (e:Rd H a u):Yf P w H h a u:=e.ok ok
theorem Od {kvs:List (Key × V)} (ok:HOk P w H h) (e:Rd H a (.dK kvs)):kvs.length≤sizeLine∧(a == sysModules)=false∧∃ vs,KV kvs vs∧h.DictOf (Z9 P w) a vs :=
 show Yf P w H h a (.dK kvs) from Zjm ok e
theorem Zjw {kvs:List (Key × V)} (ok:HOk P w H h) (e:H a=some (.dK kvs)):kvs.length≤sizeLine∧(a == sysModules)=false∧∃ vs,KV kvs vs∧h.DictOf (Z9 P w) a vs:=Od ok (.inl e)
theorem K4 {ks:List Key} (ok:HOk P w H h) (e:H a=some (.tup (ks.map kV))):(tupleKind (Z9 P w)).is h ks a:=by
 obtain ⟨_,its,r,o,h1,h2,n,h3⟩:=(show Yf P w H h a (.tup (ks.map kV)) from ok a _ e)
 exact ⟨o,its.toArray,n,h1,h2,h3,by simpa using Fs r⟩
theorem Ga {kvs:List (List Key × V)} (ok:HOk P w H h) (e:Rd H a (.dT kvs)):kvs.length≤sizeLine∧(a == sysModules)=false ∧
  ∃ xs,KT H kvs xs∧h.DictOfH (tupleKind (Z9 P w)) a xs:=by
 obtain ⟨z,y,xs,r,o,es,ep,h1,h2,h3,h4,h5⟩:=(show Yf P w H h a (.dT kvs) from Zjm ok e)
 refine ⟨z,y,xs,r,o,es,ep,h1,h2,h3,h4,fun x hx=>?_,h5⟩
 have all:∀ {l:List (List Key × V)} {m:List (List Key × Addr × Value)},KT H l m→∀ x∈m,(tupleKind (Z9 P w)).is h x.1 x.2.1:=by
  intro l m q
  induction q with
  | nil=>intro x hx; exact nomatch hx
  | @cons p q ps qs hq t ih =>
   intro x hx
   rcases List.mem_cons.mp hx with e | hx
   ·subst e
    exact K4 ok (by rw [← hq.1]; exact hq.2.1)
   ·exact ih x hx
 exact all r x hx
end
noncomputable def DGet (H:Hp) (a:Addr) (y:V) (r:Option V):Prop :=
 (∃ kvs k,Rd H a (.dK kvs)∧y=kV k∧r=valV kvs k)∨∃ kvs k b,Rd H a (.dT kvs)∧y=.ref b∧H b=some (.tup (k.map kV))∧r=valV kvs k
theorem DGet.k {H:Hp} {a:Addr} {kvs:List (Key × V)} {k:Key} (e:H a=some (.dK kvs)):DGet H a (kV k) (valV kvs k):=.inl ⟨kvs,k,.inl e,rfl,rfl⟩
section
variable {X:Cx} {pins:List (Addr × Obj)} {σ:St} {H:Hp} {s:Shared} {a:Addr} {y v:V} {u r:Value} {o:Option V} {A:Around} {E:Value→Shared→Prop}
theorem Inv.big (I:Inv X pins σ H s):sysModules < s.heap.objs.size:=by
 have h:mainGlobals < s.heap.objs.size:=(I.mod.glob.keeps I.bk).lt
 exact Nat.lt_trans (by decide) h
theorem Zha {Q:Value→Shared→Prop} (hu:A.units + 1 < cLine) (I:Inv X pins σ H s) (g:DGet H a y (some v)) (ry:RelV y u) (h:∀ w' s',Inv X pins σ H s'→RelV v w'→Q w' s') :
  wpAny (model X.prog X.w) A (getItem (.ref a) u) Q E s:=by
 rcases g with ⟨kvs,k,e,ey,l⟩ | ⟨kvs,k,b,e,ey,eb,l⟩
 ·subst ey
  obtain ⟨z,hd,vs,rel,dd⟩:=Od I.hok e
  obtain ⟨w',hw,rw'⟩:=RelO.some_of (v:=v) (o:=valueAt vs k) (by rw [l]; exact rel.val k)
  exact wpAny_getItem_of (V1 ry) dd.mapOf hw (h w' _ (I.tok _) rw')
 ·subst ey
  cases (show u=Value.ref b from ry)
  obtain ⟨z,hd,xs,rel,dd⟩:=Ga I.hok e
  obtain ⟨w',hw,rw'⟩:=RelO.some_of (v:=v) (o:=(atKey xs k).map (·.2)) (by rw [l]; exact rel.val k)
  obtain ⟨p,hp,hp2⟩:=Option.map_eq_some_iff.mp hw
  refine wpAny_getItem_heap (tupleKind_room_in1 hu) (K4 I.hok eb) dd hp ?_
  rw [hp2]
  exact h w' _ (I.tok _) rw'
theorem Zlo {Q:Value→Shared→Prop} (hu:A.units + 1 < cLine) (I:Inv X pins σ H s) (g:DGet H a y o) (ry:RelV y u) (h:∀ s',Inv X pins σ H s'→Q (.bool (!o.isSome)) s') :
  wpAny (model X.prog X.w) A (compareOp .NotIn u (.ref a)) Q E s:=by
 rcases g with ⟨kvs,k,e,ey,l⟩ | ⟨kvs,k,b,e,ey,eb,l⟩
 ·subst ey
  obtain ⟨z,hd,vs,rel,dd⟩:=Od I.hok e
  refine wpAny_notIn_of (V1 ry) hd dd.mapOf ?_
  rw [← (rel.val k).isSome_eq,← l]
  exact h _ (I.tok _)
 ·subst ey
  cases (show u=Value.ref b from ry)
  obtain ⟨z,hd,xs,rel,dd⟩:=Ga I.hok e
  refine wpAny_notIn_heap (tupleKind_room_in1 hu) (K4 I.hok eb) hd dd ?_
  have q:=(rel.val k).isSome_eq
  rw [Option.isSome_map] at q
  rw [← q,← l]
  exact h _ (I.tok _)
theorem Zd4 {h':Heap} {t':Nat} {ob:HO} (I:Inv X pins σ H s) (mu:Mut (H a)) (hs:Heap.SameBut a s.heap h') (he:∃ q,h'.get? a=some q) (new:Yf X.prog X.w (upd H a ob) h' a ob) :
  Inv X pins σ (upd H a ob) { s with heap:=h',toks:=t' } :=
 I.write (x:=a) (e:=a) mu (.inl rfl) (fun b q hb z=>(hs.2 b hb).trans z) he new
theorem Zg8 {P:Program} {w:World} {H':Hp} {h':Heap} {kvs:List (Key × V)} {vs:List (Key × Value)} (z:kvs.length≤sizeLine) (hd:(a == sysModules)=false) (rel:KV kvs vs) (dd:h'.DictOf (Z9 P w) a vs) :
  Yf P w H' h' a (.dK kvs):=⟨z,hd,vs,rel,dd⟩
end
noncomputable def NoSl (i:Expr):Prop:=∀ ov iv,subscripted i false ov iv=operate [ov,iv] (getItem ov iv)
theorem Zj7 {prog:Program} {w:World} {A:Around} {E:Value→Shared→Prop} {s:Shared} {env:Env} {value slice:Expr} {pos:Pos} {T id:String} {Q:Value→Shared→Prop}
  (hl:typeLookup (.type T) "__getitem__"=pure (some (.builtin id))) (hs:NoSl slice)
  (h:wpAny (model prog w) A (eval value env) (fun o s₁=>wpAny (model prog w) A (eval slice env) (fun i s₂=>s₂.TypeIs o T∧wpAny (model prog w) A (getItem o i) Q E s₂) E s₁) E s) :
  wpAny (model prog w) A (eval (.Subscript value slice pos) env) Q E s:=by
 refine Subscript_ (wpAny_mono h (fun o s₁ h₁=>wpAny_mono h₁ (fun i s₂ h₂=>?_) fun _ _ x=>x) fun _ _ x=>x)
 obtain ⟨hT,h₂⟩:=h₂
 unfold subscriptTail
 refine wpAny_bind ?_
 rw [getitemInPython_of_ne hT.not_modules]
 refine wpAny_bind (wpAny_specialOf hT hl ?_)
 have fin:wpAny (model prog w) A (subscripted slice false o i) (fun r s₃=>wpAny (model prog w) A (letTemporaryGo value o r >>= fun _=>pure r) Q E s₃) E s₂:=by
  rw [hs o i]
  exact wpAny_operating (wpAny_mono h₂ (fun r s₃ h₃=>wpAny_bind (wpAny_letTemporaryGo (wpAny_pure h₃))) fun _ _ x=>x)
 first
  | exact wpAny_pure (wpAny_bind fin)
  | exact wpAny_bind (wpAny_pure (wpAny_bind fin))
  | exact wpAny_bind fin
theorem Zc6 {X:Cx} {pins:List (Addr × Obj)} {σ:St} {H:Hp} {s:Shared} {a:Addr} {y:V} {o:Option V} (I:Inv X pins σ H s) (g:DGet H a y o):s.TypeIs (.ref a) "dict":=by
 rcases g with ⟨kvs,k,e,_,_⟩ | ⟨kvs,k,b,e,_,_,_⟩
 ·obtain ⟨_,_,vs,_,dd⟩:=Od I.hok e
  exact dd.typeIs
 ·obtain ⟨_,_,xs,_,dd⟩:=Ga I.hok e
  exact dd.typeIs
noncomputable def Znp (td ty:TE):TE:=fun σ H Q=>td σ H fun x H1=>ty σ H1 fun y H2=>∃ a v,x=.ref a∧DGet H2 a y (some v)∧Q v H2
noncomputable def Zj5 (ty td:TE):TE:=fun σ H Q=>ty σ H fun y H1=>td σ H1 fun x H2=>∃ a o,x=.ref a∧DGet H2 a y o∧Q (.bl (!o.isSome)) H2
section
variable {X:Cx} {o i e value:Expr} {pos pos' tpos:Pos} {td ty tv:TE}
theorem Zdn (hu:X.A.units + 1 < cLine) (ho:PE X o td) (hi:PE X i ty) (hs:NoSl i):PE X (.Subscript o i pos) (Znp td ty):=by
 intro pins s σ H Q I h
 refine Zj7 PySem.F.slot_dict_getitem.lookup hs (thn (ho pins s σ H _ I h) fun u s1 zz21=>?_)
 obtain ⟨x,H1,I1,rx,q1⟩:=zz21
 refine thn (hi pins s1 σ H1 _ I1 q1) fun iv s2 zz9=>?_
 obtain ⟨y,H2,I2,ry,a,v,ex,g,q2⟩:=zz9
 subst ex
 obtain rfl:u=Value.ref a:=rx
 exact ⟨Zc6 I2 g,Zha hu I2 g ry fun w' s3 I3 rw'=>⟨v,H2,I3,rw',q2⟩⟩
theorem Zf8 (hu:X.A.units + 1 < cLine) (hi:PE X i ty) (ho:PE X o td):PC X .NotIn i o (Zj5 ty td):=by
 intro pins s σ H Q I h
 refine thn (hi pins s σ H _ I h) fun iv s1 zz22=>?_
 obtain ⟨y,H1,I1,ry,q1⟩:=zz22
 refine thn (ho pins s1 σ H1 _ I1 q1) fun u s2 zz9=>?_
 obtain ⟨x,H2,I2,rx,a,ov,ex,g,q2⟩:=zz9
 subst ex
 obtain rfl:u=Value.ref a:=rx
 exact Zlo hu I2 g ry fun s3 I3=>⟨.bl (!ov.isSome),H2,I3,rfl,q2⟩
end
theorem Zcc {P:Program} {w:World} {H:Hp} (h:Heap) (hb:sysModules < h.objs.size):Yf P w H (h.push { cls:=.type "dict",data:=.dict #[] }) h.objs.size (.dK []) :=
 ⟨Nat.zero_le _,beq_eq_false_iff_ne.mpr (Ne.symm (Nat.ne_of_lt hb)),[],.nil,Heap.DictOf.new h⟩
noncomputable def Zl9:TE:=fun _ H Q=>∀ p,H p=none→Q (.ref p) (upd H p (.dK []))
section
variable {X:Cx} {pos:Pos}
theorem Zie:PE X (.Dict [] [] pos) Zl9:=fun pins s σ H Q I h =>
 wpAny_Dict_empty ⟨.ref s.heap.objs.size,_,I.laid (a:=s.heap.objs.size) (o:=.dK []) (t':=s.toks) (fun _ _ q=>Heap.get?_push_of_some _ q) (Nat.le_refl _) (Zcc s.heap I.big),rfl,h _ (I.hok.fresh (Nat.le_refl _))⟩
end
noncomputable def Zai:List (TE × TE)→St→Hp→(List (V × V)→Hp→Prop)→Prop
 | [],_,H,Q=>Q [] H
 | (tk,tv) :: r,σ,H,Q=>tk σ H fun x H1=>tv σ H1 fun y H2=>Zai r σ H2 fun ps H3=>Q ((x,y) :: ps) H3
noncomputable abbrev VV:List (V × V)→List (Value × Value)→Prop:=Paired fun p q=>RelV p.1 q.1∧RelV p.2 q.2
noncomputable def PPs (X:Cx) (pos:Pos) (keys:List (Option Expr)) (values:List Expr) (trs:List (TE × TE)):Prop :=
 ∀ (pins:List (Addr × Obj)) (s:Shared) (σ:St) (H:Hp) (Q:List (V × V)→Hp→Prop),Inv X pins σ H s→Zai trs σ H Q →
  wpAny (model X.prog X.w) X.A (evalPairs (pairTrees keys values X.env pos)) (fun vs s'=>∃ ps H',Inv X pins σ H' s'∧VV ps vs∧Q ps H') X.xe s
theorem Go {X:Cx} {pos:Pos}:PPs X pos [] [] []:=fun pins s σ H Q I h=>pairTrees_nil_walk ⟨[],H,I,.nil,h⟩
theorem Xt {X:Cx} {pos:Pos} {k v:Expr} {ks:List (Option Expr)} {vs:List Expr} {tk tv:TE} {trs:List (TE × TE)} (hk:PE X k tk) (hv:PE X v tv) (hr:PPs X pos ks vs trs) :
  PPs X pos (some k :: ks) (v :: vs) ((tk,tv) :: trs):=fun pins s σ H Q I h =>
 pairTrees_cons_walk (thn (hk pins s σ H _ I h) fun u s1 ⟨x,H1,I1,rx,q1⟩=>thn (hv pins s1 σ H1 _ I1 q1) fun w2 s2 ⟨y,H2,I2,ry,q2⟩ =>
  thn (hr pins s2 σ H2 _ I2 q2) fun ws s3 ⟨ps,H3,I3,rel,q3⟩=>⟨(x,y) :: ps,H3,I3,.cons ⟨rx,ry⟩ rel,q3⟩)
noncomputable def W4 (kvs more:List (Key × V)):List (Key × V):=more.foldl (fun acc kv=>putK acc kv.1 kv.2) kvs
theorem KV.merge:∀ {more:List (Key × V)} {rs:List (Key × Value)} {kvs:List (Key × V)} {vs:List (Key × Value)},KV more rs→KV kvs vs→KV (W4 kvs more) (merged vs rs):=by
 intro more rs kvs vs r
 unfold KV at r
 induction r generalizing kvs vs with
 | nil=>intro q; exact q
 | @cons p q ps qs h t ih =>
  intro r0
  have e:KV (putK kvs p.1 p.2) (stored vs q.1 q.2):=by
   have:=r0.put p.1 h.2
   rw [← h.1]; exact this
  exact ih e
theorem Ud:∀ (more kvs:List (Key × V)),(W4 kvs more).length≤kvs.length + more.length
 | [],kvs=>by show kvs.length≤kvs.length + 0; omega
 | p :: r,kvs=>by
  have h1:=Ud r (putK kvs p.1 p.2)
  have h2:=Ow kvs p.1 p.2
  show (W4 (putK kvs p.1 p.2) r).length≤_
  rw [List.length_cons]; omega
theorem Ge {P:Program} {w:World}:∀ {kvs:List (Key × V)} {ws:List (Value × Value)},VV (kvs.map fun kv=>(kV kv.1,kv.2)) ws→∃ rs,Carries (Z9 P w) ws rs∧KV kvs rs
 | [],_,r=>by rw [List.map_nil] at r; cases r; exact ⟨[],True.intro,.nil⟩
 | p :: kvs,_,r=>by
  rw [List.map_cons] at r
  cases r with
  | @cons a b as bs h t =>
   obtain ⟨rs,c,q⟩:=Ge (P:=P) (w:=w) t
   obtain ⟨b1,b2⟩:=b
   exact ⟨(p.1,b2) :: rs,⟨V1 h.1,rfl,c⟩,.cons ⟨rfl,h.2⟩ q⟩
noncomputable def Zno (trs:List (TE × TE)):TE:=fun σ H Q=>∀ p,H p=none→Zai trs σ (upd H p (.dK [])) fun ps H2=>H2 p=some (.dK [])∧∃ kvs:List (Key × V),ps=kvs.map (fun kv=>(kV kv.1,kv.2))∧kvs.length≤15∧Q (.ref p) (upd H2 p (.dK (W4 [] kvs)))
theorem Gp {X:Cx} {pos:Pos} {keys:List (Option Expr)} {values:List Expr} {trs:List (TE × TE)} (h:PPs X pos keys values trs) (hall:keys.all (·.isSome)=true) (hl:keys.length=values.length) (h0:keys≠[])
  (h15:keys.length≤15):PE X (.Dict keys values pos) (Zno trs):=by
 intro pins s σ H Q I q
 have hn:=I.hok.fresh (Nat.le_refl s.heap.objs.size)
 have I1:=I.laid (a:=s.heap.objs.size) (o:=.dK []) (h':=s.heap.push { cls:=.type "dict",data:=.dict #[] }) (t':=s.toks) (fun _ _ q=>Heap.get?_push_of_some _ q) (Nat.le_refl _) (Zcc s.heap I.big)
 refine wpAny_Dict_walk (knd:=Z9 X.prog X.w) hall hl h0 h15 (thn (h pins _ σ _ _ I1 (q _ hn)) fun ws s2 zz9=>?_)
 obtain ⟨ps,H2,I2,rel,e,kvs,ep,lk,q2⟩:=zz9
 subst ep
 obtain ⟨rs,c,rk⟩:=Ge (P:=X.prog) (w:=X.w) rel
 obtain ⟨z,hd,vs0,r0,dd⟩:=Zjw I2.hok e
 cases r0
 refine ⟨rs,c,dd,fun h' dd' hs=>⟨.ref s.heap.objs.size,_,?_,rfl,q2⟩⟩
 have hz:(W4 [] kvs).length≤sizeLine:=by
  have h1:=Ud kvs []
  rw [List.length_nil] at h1
  rw [sizeLine_eq]; omega
 have he:∃ q,h'.get? s.heap.objs.size=some q:=let ⟨q,_,_,hq,_⟩:=dd'; ⟨q,hq⟩
 exact Zd4 I2 (by rw [e]; exact True.intro) hs he (Zg8 hz hd (rk.merge .nil) dd')
structure M2 (X:Cx) (o:Expr) (m:Str) (apos:Pos) (e f:Expr) (cpos:Pos):Prop where
 base:attributeBase o m X.env (eval o X.env)=eval o X.env
 few:((backTo cpos (starEach [e,f] X.env)).all (fun x=>!x.1) && (backToKw cpos (keywordEach [] X.env)).all (fun x=>x.1.isSome)
  && decide (([e,f]:List Expr).length + ([]:List Keyword).length + (if ([]:List Keyword).isEmpty then 0 else 1) < 30))=true
 line:(apos.endLine == cpos.line)=true
 trees:backTo cpos (starEach [e,f] X.env)=[(false,eval e X.env),(false,eval f X.env)]
noncomputable def IsD (H:Hp) (a:Addr):Prop:=(∃ kvs,Rd H a (.dK kvs))∨∃ kvs,Rd H a (.dT kvs)
theorem K6 {X:Cx} {pins:List (Addr × Obj)} {σ:St} {H:Hp} {s:Shared} {a:Addr} (I:Inv X pins σ H s) (d:IsD H a) :
  s.TypeIs (.ref a) "dict"∧(∀ b,Value.ref a=.ref b→∃ ob,s.heap.get? b=some ob∧ob.dict=none)∧(a == sysModules)=false:=by
 rcases d with ⟨kvs,e⟩ | ⟨kvs,e⟩
 ·obtain ⟨_,hd,vs,_,dd⟩:=Od I.hok e
  refine ⟨dd.typeIs,fun b q=>?_,hd⟩
  cases q
  obtain ⟨ob,_,_,h1,h2,_⟩:=dd
  exact ⟨ob,h1,h2.2.1⟩
 ·obtain ⟨_,hd,xs,_,dd⟩:=Ga I.hok e
  refine ⟨dd.typeIs,fun b q=>?_,hd⟩
  cases q
  obtain ⟨ob,_,_,h1,h2,_⟩:=dd
  exact ⟨ob,h1,h2.2.1⟩
section
variable {X:Cx} {pins:List (Addr × Obj)} {σ:St} {H:Hp} {s:Shared} {a:Addr} {y d:V} {u r:Value} {o:Option V} {A:Around} {E:Value→Shared→Prop}
theorem Znd {Q:Value→Shared→Prop} (hu:A.units + 1 < cLine) (I:Inv X pins σ H s) (g:DGet H a y o) (ry:RelV y u) (rd:RelV d r) (h:∀ w' s',Inv X pins σ H s'→RelV (o.getD d) w'→Q w' s') :
  wpAny (model X.prog X.w) A (call (.builtin "dict.get") [.ref a,u,r]) Q E s:=by
 rcases g with ⟨kvs,k,e,ey,l⟩ | ⟨kvs,k,b,e,ey,eb,l⟩
 ·subst ey
  obtain ⟨z,hd,vs,rel,dd⟩:=Od I.hok e
  refine call_meetsIn PySem.F.slot_dict_get dd.typeIs PySem.F.entry_dict_get (PySem.F.args_dict_get_3 _ _ _) (meets_dict_get_default (Z9 X.prog X.w) a (V1 ry) hd r) ⟨_,dd.mapOf,h _ _ (I.tok _) ?_⟩
  rw [l]
  exact (rel.val k).getD rd
 ·subst ey
  cases (show u=Value.ref b from ry)
  obtain ⟨z,hd,xs,rel,dd⟩:=Ga I.hok e
  refine call_meetsIn PySem.F.slot_dict_get dd.typeIs PySem.F.entry_dict_get (PySem.F.args_dict_get_3 _ _ _) (meetsH_dict_get_default (tupleKind (Z9 X.prog X.w)) a b hd r) ⟨tupleKind_room_in1 hu,k,xs,K4 I.hok eb,dd,h _ _ (I.tok _) ?_⟩
  rw [l]
  exact (rel.val k).getD rd
end
noncomputable def Zma (td ty tx:TE):TE:=fun σ H Q=>td σ H fun x H1=>∃ a,x=.ref a∧IsD H1 a∧ty σ H1 fun y H2=>tx σ H2 fun z H3=>∃ o,DGet H3 a y o∧Q (o.getD z) H3
section
variable {X:Cx} {o e f:Expr} {apos cpos:Pos} {td ty tx:TE}
theorem Vx (hu:X.A.units + 1 < cLine) (ho:PE X o td) (he:PE X e ty) (hf:PE X f tx) (m:M2 X o "get" apos e f cpos):PE X (.Call (.Attribute o "get" apos) [e,f] [] cpos) (Zma td ty tx):=by
 intro pins s σ H Q I h
 refine wpAny_Call_method m.base m.few m.line PySem.F.plainAttrs_dict PySem.F.slot_dict_get PySem.F.type_dict_get (thn (ho pins s σ H _ I h) fun u s1 zz9=>?_)
 obtain ⟨x,H1,I1,rx,a,ex,d,q1⟩:=zz9
 subst ex
 obtain rfl:u=Value.ref a:=rx
 obtain ⟨t1,t2,_⟩:=K6 I1 d
 refine ⟨t1,t2,?_⟩
 rw [m.trees]
 refine Calls.callWith_builtin rfl (Calls.evalArgs_plain (Calls.spliced_cons (thn (he pins s1 σ H1 _ I1 q1) fun iv s2 ⟨y,H2,I2,ry,q2⟩ =>
  Calls.spliced_cons (thn (hf pins s2 σ H2 _ I2 q2) fun fv s3 ⟨z,H3,I3,rz,ov,g,q3⟩=>Calls.spliced_nil ?_))))
 exact Znd hu I3 g ry rz fun w' s4 I4 rw'=>⟨_,H3,I4,rw',q3⟩
end
end L2
namespace Att
open PySem PySem.W PySem.Calls PyProof.Rows
theorem K7 {P:Params} {h:Heap}:∀ (ns:List Int) (vs:List Value),WellAll P h vs (ns.map WData.int)→IntsAre vs ns:=by
 intro ns
 induction ns with
 | nil =>
  intro vs w
  rw [List.map_nil] at w
  cases w
  exact .nil
 | cons n ns ih =>
  intro vs w
  rw [List.map_cons] at w
  cases w with
  | cons a b =>
   cases a
   exact .cons _ _ (ih _ b)
theorem Zfs {l:OpenLaw} {n:Nat} (hn:l.most=some n) {P:Params} {h:Heap} {args:List WData} {vals:List Value}
  (hpre:l.row.toRowW.claim.pre args=true) (hwl:WellAll P h vals args) :
  ∃ a vs ns,vals=[Value.ref a]∧args=[WData.list (ns.map WData.int)]∧h.get? a=some { cls:=.type "list",data:=.seq vs.toArray }∧IntsAre vs ns∧ns.length≤n:=by
 have hsh:WShape.hasAll [] args [.list .int]=true:=(pre_splitW hpre).1
 have hc:l.pre.holds [] { args:=args }=true:=(pre_splitW hpre).2
 obtain ⟨d,r,rfl,h1,h2⟩:=hasAllW_cons hsh
 obtain rfl:=hasAllW_nil h2
 obtain ⟨xs,rfl,h3⟩:=hasW_list h1
 obtain ⟨ns,rfl⟩:=items_int h3
 have hlen:ns.length≤n:=by
  unfold OpenLaw.pre at hc
  have h4:(WTm.not (.lt (.lit (.int (n:Int))) (.len (.arg 0)))).holds [] { args:=[.list (ns.map .int)] }=true:=by
   have h4:=(holds_andW hc).1
   rw [hn] at h4
   exact h4
  have h5:=condW_of h4 (w_not (w_lt w_lit (w_len_list (w_arg rfl))))
  rw [List.length_map] at h5
  refine Nat.le_of_not_lt fun q=>?_
  have q':(n:Int) < ((ns.length:Nat):Int):=by omega
  first
   | (rw [decide_eq_true q'] at h5; exact absurd h5 (by decide))
   | (simp at h5; omega)
 cases hwl with
 | cons w1 w2 =>
  cases w2
  cases w1 with
  | list ho hall=>exact ⟨_,_,ns,rfl,rfl,ho,K7 ns _ hall,hlen⟩
theorem Zf1 (l:OpenLaw) (args:List WData):l.row.toRowW.claim.post args (.bool true) args=true :=
 postW_of (r:=l.row.toRowW) (X:=(true == true))
  (show WShape.has [] (.bool true) .bool=true by first | rfl | decide | simp [WShape.has,WShape.arms,WShape.armsAll])
  (show (WTm.eq .res (.lit (.bool true))).value [] { args:=args,res:=some (.bool true),after:=args }=some (.bool (true == true)) from w_eq_bool (w_res rfl) w_lit) rfl
theorem attach_call {l:OpenLaw} {n:Nat} {q:Program} {loose:List Str} {XP:(Str→Option Value)→Heap→Prop} {YP:World→Heap→Prop} {d:DefRec}
  (hn:l.most=some n) (hdf:d.params.defaults=[])
  (call:∀ (w:World) (s₀ s₁:Shared) (mg mb:Str→Option Value) (fa:Addr) (o:Obj) (pm cd doc:Value) (a:Addr) (vs:List Value) (ns:List Int),
   Ground q loose [] XP w s₀ mg mb s₁.heap→YP w s₁.heap →
   s₁.heap.get? fa=some o→o.data=.func (docDef d.name d.params d.body d.scope pm cd doc)→s₁.heap.CodeRec cd d.name→mg d.name=some (.ref fa) →
   s₁.heap.get? a=some { cls:=.type "list",data:=.seq vs.toArray }→IntsAre vs ns→ns.length≤n→s₁.gens=#[] →
   codeAny (model l.prog w) callerA (.call (.ref fa) ⟨[.ref a],[]⟩) (fun r s'=>r=.ok (.ret (.bool true))∧OldK s₁.heap s'.heap∧s'.os=s₁.os∧AllBare s'.gens) s₁) :
  WalkO q loose XP YP l.row.toRowW d [] (fun f vs=>PySem.call f vs):=by
 intro w s₀ s₁ mg mb G Y fa o pm cd doc dV kV ho hd hcd hD hmg hg args vals as hpre hlay hrd hwl hlo
 obtain rfl:dV=.none:=Dflts.none hD hdf
 obtain rfl:kV=.none:=Dflts.noKw hD
 obtain ⟨a,vs,ns,rfl,rfl,hobj,hints,hlen⟩:=Zfs hn hpre hwl
 refine enter_call (codeAny_mono (call w s₀ s₁ mg mb fa o pm cd doc a vs ns G Y ho (fd_plain hd) hcd hmg hobj hints hlen hg) fun r s' hq=>?_)
 obtain ⟨rfl,h2,h3,h4⟩:=hq
 exact ⟨.inl ⟨.bool true,.bool true,[],rfl,fun _=>rfl,.bool true,Zf1 l _,fun _=>⟨List.Pairwise.nil,fun _ hm=>(nomatch hm)⟩⟩,h2,h3,h4⟩
end Att
namespace L2
open PySem PySem.Spec PyProof.Rows
theorem Gy:∀ {vs:List Value} {ns:List Int},IntsAre vs ns→Vals (ns.map V.int) vs
 | _,_,.nil=>.nil
 | _,_,.cons n t h=>.cons ⟨t,rfl⟩ (Gy h)
noncomputable def Only (H:Hp):Prop:=∀ b,H b=none∨∃ o xs,H b=some (.frz o (.lst xs))
theorem Zix {P:Program} {w:World} {K:PySem.W.Frag} {mg mb:Str→Option Value} {CX:CXT} {k:Nat} {fa a:Addr} {fd:FuncData} {x:Str} {sp:Sp} {s₁:Shared} {vs:List Value} {ns:List Int}
  (KX:K.In s₁.heap) (hns:s₁.heap.Ns mainGlobals mg) (hb:s₁.heap.Ns builtinsNs mb) (hbb:∀ x:Str,x≠"__name__"→mb x=bootBuiltins x) (hlim:s₁.heap.NoLimit) (hg:s₁.gens=#[])
  (ha:s₁.heap.get? a=some { cls:=.type "list",data:=.seq vs.toArray }) (hi:IntsAre vs ns) (hl:ns.length≤sizeLine) (hr:Room k callerA)
  (F:∀ base:Heap,K.In base→base.Ns mainGlobals mg→FnOk P w K mg base CX k fa fd [x] sp) (hbind:∀ (s:Shared) (u:Value),BindsTo s fd ⟨[u],[]⟩ [(x,u)])
  (hsp:∀ H:Hp,Only H→SqL K H a (ns.map V.int)→sp [.ref a] H (fun v _=>v=.bl true) fun _ _ _=>False)
  (hCX:∀ H e s',CX [] H s₁ (fun _ _ _=>False) e s'→False) :
  codeAny (model P w) callerA (.call (.ref fa) ⟨[.ref a],[]⟩) (fun r s'=>r=.ok (.ret (.bool true))∧OldK s₁.heap s'.heap∧s'.os=s₁.os∧AllBare s'.gens) s₁:=by
 have rv:=Gy hi
 have lenV:=hi.length
 have core:∀ H:Hp,Only H→SqL K H a (ns.map V.int)→HOk P w H s₁.heap→(∀ b,H b≠none→b=a)→(H a≠none→K.lookup a=none) →
   codeAny (model P w) callerA (.call (.ref fa) ⟨[.ref a],[]⟩) (fun r s'=>r=.ok (.ret (.bool true))∧OldK s₁.heap s'.heap∧s'.os=s₁.os∧AllBare s'.gens) s₁:=by
  intro H hO hS hok hA hK
  have base_of:∀ {b:Addr} {o:Obj},s₁.heap.get? b=some o→H b=none→(hidT s₁.heap H).get? b=some o:=fun e n=>Zi1 e n
  have noA:∀ {b:Addr} {o:Obj} {es:Array DictEntry} {ep:Nat},s₁.heap.get? b=some o→o.data=.dict es ep→H b=none:=fun {b o es ep} e d=>by
   cases q:H b with
   | none=>rfl
   | some u =>
    have e':b=a:=hA b (by rw [q]; simp)
    subst e'
    rw [ha] at e; cases e
    have d':Data.seq vs.toArray _=Data.dict es ep:=d
    cases d'
  have nsK:∀ {b:Addr} {m:Str→Option Value},s₁.heap.Ns b m→(hidT s₁.heap H).Ns b m:=fun {b m} ⟨o,es,ep,e,d,r⟩=>⟨o,es,ep,base_of e (noA e d),d,r⟩
  have hKb:K.In (hidT s₁.heap H):=fun b o e=>base_of (KX b o e) (by
   cases q:H b with
   | none=>rfl
   | some u =>
    have e':b=a:=hA b (by rw [q]; simp)
    subst e'
    rw [hK (by rw [q]; simp)] at e; cases e)
  have hM:Mod K mg (hidT s₁.heap H):=⟨hKb,nsK hns,⟨mb,nsK hb,hbb⟩,let ⟨mc,h1,h2⟩:=hlim; ⟨mc,nsK h1,h2⟩⟩
  have e0:Env0 P w K mg (hidT s₁.heap H) callerA [] s₁ H:=⟨rfl,hM,fun b o e=>Zk2 e,Nat.le_of_eq (Zgy _ _),trivial,fun b hb=>absurd (show b∈([]:List Addr) from hb) (by simp),hok,.of_eq hg⟩
  refine codeAny_mono ((F _ hKb (nsK hns)).run callerA [] s₁ H ⟨[.ref a],[]⟩ [.ref a] [.ref a] _ _ hr e0 (hbind s₁ (.ref a)) (.cons rfl .nil) (hsp H hO hS)) fun r s' h=>?_
  cases r with
  | error e=>exact (hCX H e s' h).elim
  | ok fl =>
   cases fl with
   | next=>exact False.elim h
   | brk=>exact False.elim h
   | cont=>exact False.elim h
   | ret u =>
    obtain ⟨v,H',os,bare,un,hok',r',q⟩:=h
    have q':v=.bl true:=q
    subst q'
    obtain rfl:u=Value.bool true:=r'
    refine ⟨rfl,OldK.of_keep fun b o e=>?_,os,bare⟩
    cases q:H b with
    | none=>exact un.keep b o e q (by intro z; exact absurd (show b∈([]:List Addr) from z) (by simp)) (by simp)
    | some u =>
     rcases hO b with z | ⟨ob,xs,z⟩
     ·rw [q] at z; cases z
     ·have z2:=un.frzs b ob _ z
      obtain ⟨e1,_⟩:=hok b _ z
      obtain ⟨e2,_⟩:=hok' b _ z2
      rw [e] at e1; cases e1
      exact e2
 cases hk:K.lookup a with
 | some o =>
  have e:=KX a o hk
  rw [ha] at e
  cases e
  refine core (fun _=>none) (fun _=>.inl rfl) (.inr ⟨_,vs.toArray,_,hk,rfl,rfl,rfl,by rw [List.size_toArray,lenV]; exact hl,by simpa using rv⟩) (fun b u z=>by have z':(none:Option HO)=some u:=z; cases z') (fun b z=>absurd rfl z) fun z=>absurd rfl z
 | none =>
  refine core (fun b=>if b=a then some (.frz { cls:=.type "list",data:=.seq vs.toArray } (.lst (ns.map V.int))) else none) (fun b=>?_) (.inl (.inr ⟨{ cls:=.type "list",data:=.seq vs.toArray },if_pos rfl⟩)) (fun b u z=>?_) (fun b z=>?_) fun _=>hk
  ·by_cases hb:b=a
   ·exact .inr ⟨_,_,if_pos hb⟩
   ·exact .inl (if_neg hb)
  ·by_cases hb:b=a
   ·have z':=(if_pos hb).symm.trans z
    cases z'
    subst hb
    exact ⟨ha,by rw [List.length_map]; exact hl,vs,_,rv,ha⟩
   ·have z':=(if_neg hb).symm.trans z
    cases z'
  ·by_cases hb:b=a
   ·exact hb
   ·exact absurd (if_neg hb) z
end L2
namespace L2
open PySem PySem.Spec PyProof.Rows
noncomputable abbrev KOf {K:PySem.W.Frag} {h:Heap} (_:K.In h):PySem.W.Frag:=K
theorem Zjx {l:PySem.W.OpenLaw} {n k:Nat} {q:Program} {loose:List Str} {XP:(Str→Option Value)→Heap→Prop} {YP:World→Heap→Prop} {d:DefRec} {K:Params→PySem.W.Frag} {CX:World→CXT} {sp:World→Sp} {x:Str}
  (hn:l.most=some n) (hn2:n≤sizeLine) (hdf:d.params.defaults=[]) (hr:Room k callerA)
  (hY:∀ (w:World) (h:Heap),YP w h→(K w.params).In h)
  (F:∀ (w:World) (mg:Str→Option Value) (fa:Addr) (h:Heap),(K w.params).In h→h.Ns mainGlobals mg→mg d.name=some (.ref fa) →
   ∃ fd:FuncData,(∀ (s:Shared) (u:Value),BindsTo s fd ⟨[u],[]⟩ [(x,u)]) ∧
    ∀ base:Heap,(K w.params).In base→base.Ns mainGlobals mg→FnOk l.prog w (K w.params) mg base (CX w) k fa fd [x] (sp w))
  (hsp:∀ (w:World) (H:Hp) (a:Addr) (ns:List Int),ns.length≤n→Only H→SqL (K w.params) H a (ns.map V.int)→sp w [.ref a] H (fun v _=>v=.bl true) fun _ _ _=>False)
  (hCX:∀ (w:World) (H:Hp) (s:Shared) (e:Value) (s':Shared),CX w [] H s (fun _ _ _=>False) e s'→False) :
  PySem.W.WalkO q loose XP YP l.row.toRowW d [] (fun f vs=>PySem.call f vs):=by
 refine Att.attach_call hn hdf fun w s₀ s₁ mg mb fa o pm cd doc a vs ns G Y ho hd hcd hmg hobj hints hlen hg=>?_
 have KX:=hY w _ Y
 obtain ⟨fd,hb,hF⟩:=F w mg fa _ KX G.T.g hmg
 exact Zix KX G.T.g G.T.b G.T.builtins G.T.nolimit hg hobj hints (Nat.le_trans hlen hn2) hr hF hb (fun H hO hS=>hsp w H a ns hlen hO hS) fun H e s'=>hCX w H s₁ e s'
end L2
namespace L2
open PySem PySem.Spec PyProof.Rows
noncomputable def Wv (s:Stmt) (j:Nat):Stmt:=match s with
 | .ClassDef _ _ _ body _ _ _ _ _ _ _=>body.getD j (.Pass ⟨0,0,0,0⟩)
 | _=>.Pass ⟨0,0,0,0⟩
noncomputable def Xh (s:Stmt):Arguments:=match s with
 | .FunctionDef _ a _ _ _ _ _ _ _ _=>a
 | _=>{ posonlyargs:=[],args:=[],vararg:=none,kwonlyargs:=[],kw_defaults:=[],kwarg:=none,defaults:=[] }
noncomputable def Yz (s:Stmt):List Stmt:=match s with
 | .FunctionDef _ _ b _ _ _ _ _ _ _=>b
 | _=>[]
noncomputable def Zj (s:Stmt):Scope:=match s with
 | .FunctionDef _ _ _ _ _ _ sc _ _ _=>sc
 | _=>{ kind:=.function,names:=[],isGenerator:=false,isCoroutine:=false }
noncomputable abbrev E0:XK:=fun _ _ _=>False
structure Fun (K:PySem.W.Frag) (x qual:Str) (st:Stmt) (f:Addr) (fd:FuncData):Prop where
 ex:∃ (oc:Value) (od:Option Addr) (kV doc pm:Value) (an:Option Addr) (cdv ct:Value) (osl:Array (Option Value)),
  fd=PySem.W.fnOf x qual (Xh st) (Yz st) (Zj st) .none kV doc pm an cdv ct∧K.lookup f=some ⟨oc,od,.func fd,osl⟩∧PySem.W.codeIn K cdv qual=true
 kp:PySem.W.keepIn K (.ref f)=true
section
variable {P:Program} {w:World} {K:PySem.W.Frag} {mg:Str→Option Value} {base:Heap}
theorem Fun.binds {x qual:Str} {st:Stmt} {f:Addr} {fd:FuncData} {ps:List Str} (F:Fun K x qual st f fd)
  (h:∀ (kV doc pm:Value) (an:Option Addr) (cdv ct:Value) (us:List Value),us.length=ps.length→bindArgs (PySem.W.fnOf x qual (Xh st) (Yz st) (Zj st) .none kV doc pm an cdv ct) ⟨us,[]⟩=pure (ps.zip us)):Wi K fd ps []:=by
 obtain ⟨oc,od,kV,doc,pm,an,cdv,ct,osl,rfl,lk,hcd⟩:=F.ex
 exact .all (h kV doc pm an cdv ct)
theorem K8 {x qual:Str} {st:Stmt} {f:Addr} {oc:Value} {od an:Option Addr} {osl:Array (Option Value)} {kV doc pm cdv ct:Value} (l:K.lookup f=some ⟨oc,od,.func (PySem.W.fnOf x qual (Xh st) (Yz st) (Zj st) .none kV doc pm an cdv ct),osl⟩)
  (c:PySem.W.codeIn K cdv qual=true) (k:PySem.W.keepIn K (.ref f)=true):Fun K x qual st f (PySem.W.fnOf x qual (Xh st) (Yz st) (Zj st) .none kV doc pm an cdv ct):=⟨⟨oc,od,kV,doc,pm,an,cdv,ct,osl,rfl,l,c⟩,k⟩
end
theorem Zab {A:Around} {k:Nat} (hr:Room k A):A.units + 1 < cLine:=Nat.lt_of_le_of_lt (Nat.add_le_add_left (by decide:1≤64) _) hr.units
theorem Zx {n:Nat} (h:n≤1000):n < sizeLine:=Nat.lt_of_le_of_lt h (by decide)
section
variable {X:Cx}
theorem pv (i:Nat) {x:Str} {pos:Pos} (hN:X.N[i]?=some x:=by rfl) (hv:Vis X.env.scope x:=by first | exact Or.inl rfl | exact Or.inr (Or.inl rfl) | exact Or.inr (Or.inr rfl)) (hd:(x == ("__debug__":Str))=false:=by decide)
  (hcd:(x == ("__classdict__":Str))=false:=by decide):PE X (.Name x pos) (tVar i):=Zmp hN hv hd hcd
end
theorem iteF {A B:Prop} (h:B):if false=true then A else B:=by
 rw [if_neg Bool.false_ne_true]
 exact h
theorem iteT {A B:Prop} (h:A):if true=true then A else B:=by
 rw [if_pos rfl]
 exact h
theorem ite2 {c A B:Prop} [Decidable c] (h1:c→A) (h2:¬ c→B):if c then A else B:=by
 by_cases h:c
 ·rw [if_pos h]
  exact h1 h
 ·rw [if_neg h]
  exact h2 h
noncomputable def Same (H H':Hp):Prop:=∀ b o,H b=some o→H' b=some o
theorem Same.refl (H:Hp):Same H H:=fun _ _ h=>h
theorem Same.trans {H H1 H2:Hp} (a:Same H H1) (b:Same H1 H2):Same H H2:=fun c o h=>b c o (a c o h)
theorem Same.free {H H':Hp} (e:Same H H') {l:Addr} (h:H' l=Option.none):H l=Option.none:=by
 cases q:H l with
 | none=>rfl
 | some o =>
  rw [e l o q] at h
  cases h
theorem Same.seq {K:PySem.W.Frag} {H H':Hp} {a:Addr} {xs:List V} (e:Same H H') (h:SqL K H a xs):SqL K H' a xs:=by
 rcases h with (h | ⟨o,h⟩) | h
 ·exact .inl (.inl (e _ _ h))
 ·exact .inl (.inr ⟨o,e _ _ h⟩)
 ·exact .inr h
end L2
set_option maxHeartbeats 4000000
namespace L2
open PySem PySem.Spec PyProof.Rows
noncomputable def Z6 (env:Env):List (Str × NameKind)→List (Str × Addr)→List (Str × Addr)
 | [],acc=>acc
 | (n,k) :: r,acc=>if (k == NameKind.free)=true then (match env.cells.lookup n with
  | some c=>Z6 env r ((n,c) :: acc)
  | none=>Z6 env r acc) else Z6 env r acc
theorem Wd {env:Env}:∀ (ns:List (Str × NameKind)) (acc:List (Str × Addr)),(∀ x c,acc.lookup x=some c→env.cells.lookup x=some c) →
  ∀ x c,(Z6 env ns acc).lookup x=some c→env.cells.lookup x=some c
 | [],acc,h=>h
 | (n,k) :: r,acc,h=>by
  unfold Z6
  split
  ·cases e:env.cells.lookup n with
   | none=>exact Wd r acc h
   | some c =>
    refine Wd r _ fun x d hx=>?_
    rw [List.lookup_cons] at hx
    cases hb:x == n with
    | true =>
     rw [hb] at hx
     cases hx
     rw [beq_iff_eq.mp hb]
     exact e
    | false =>
     rw [hb] at hx
     exact h x d hx
  ·exact Wd r acc h
theorem W8 {env:Env}:∀ (ns:List (Str × NameKind)) (acc:List (Str × Addr)) (x:Str),(∃ c,acc.lookup x=some c)→∃ c,(Z6 env ns acc).lookup x=some c
 | [],acc,x,h=>h
 | (n,k) :: r,acc,x,h=>by
  unfold Z6
  split
  ·cases e:env.cells.lookup n with
   | none=>exact W8 r acc x h
   | some c =>
    refine W8 r _ x ?_
    rw [List.lookup_cons]
    cases hb:x == n with
    | true=>exact ⟨c,rfl⟩
    | false=>exact h
  ·exact W8 r acc x h
theorem W5 {env:Env}:∀ (ns:List (Str × NameKind)) (acc:List (Str × Addr)) (x:Str),(x,NameKind.free)∈ns→(∃ c,env.cells.lookup x=some c)→∃ c,(Z6 env ns acc).lookup x=some c
 | [],acc,x,h,_=>by cases h
 | (n,k) :: r,acc,x,h,hc=>by
  rcases List.mem_cons.mp h with e | h
  ·cases e
   obtain ⟨c,hc⟩:=hc
   unfold Z6
   rw [if_pos (show (NameKind.free == NameKind.free)=true by decide),hc]
   exact W8 r _ n ⟨c,by rw [List.lookup_cons,beq_self_eq_true]⟩
  ·unfold Z6
   split
   ·cases e:env.cells.lookup n with
    | none=>exact W5 r acc x h hc
    | some c=>exact W5 r _ x h hc
   ·exact W5 r acc x h hc
theorem V6 {env:Env} (f:Str × NameKind→List (Str × Addr)→Sem (ForInStep (List (Str × Addr))))
  (hf:∀ name kind cs,f (name,kind) cs=if (kind == NameKind.free)=true then (do let a ← cellOf env name; pure (.yield ((name,a) :: cs))) else pure (.yield cs)) :
  ∀ (ns:List (Str × NameKind)) (acc:List (Str × Addr)),(∀ y∈ns,y.2=.free→∃ c,env.cells.lookup y.1=some c)→forIn ns acc f=pure (Z6 env ns acc)
 | [],acc,_=>by rw [List.forIn_nil]; rfl
 | (n,k) :: r,acc,h=>by
  rw [List.forIn_cons,hf]
  unfold Z6
  have hr:∀ y∈r,y.2=.free→∃ c,env.cells.lookup y.1=some c:=fun y hy=>h y (List.mem_cons_of_mem _ hy)
  split
  ·rename_i hk
   obtain ⟨c,hc⟩:=h (n,k) List.mem_cons_self (by simpa using hk)
   have hc':env.cells.lookup n=some c:=hc
   have e:cellOf env n=pure c:=by unfold cellOf; rw [hc']
   rw [e,hc']
   exact V6 f hf r ((n,c) :: acc) hr
  ·exact V6 f hf r acc hr
theorem Vd {env:Env} {scope:Scope} (h:∀ y∈scope.names,y.2=.free→∃ c,env.cells.lookup y.1=some c):closureFor scope env=pure (Z6 env scope.names []):=by
 unfold closureFor
 dsimp only
 rw [V6 (env:=env) _ (fun name kind cs=>by split <;> rfl) scope.names [] h]
 rfl
theorem Ws (env:Env):∀ (names:List (Str × NameKind)) (x:Str),
  (names.map fun (n,k)=>if (k == NameKind.free && env.scope.kind == .function && env.kindOf n == some .cell) then (n,NameKind.cell) else (n,k)).lookup x =
   (names.lookup x).map fun k=>if (k == NameKind.free && env.scope.kind == .function && env.kindOf x == some .cell)=true then NameKind.cell else k
 | [],_=>rfl
 | (n,k) :: r,x=>by
  have ih:=Ws env r x
  have e:(if (k == NameKind.free && env.scope.kind == .function && env.kindOf n == some .cell)=true then (n,NameKind.cell) else (n,k))=(n,if (k == NameKind.free && env.scope.kind == .function && env.kindOf n == some .cell)=true then NameKind.cell else k):=by split <;> rfl
  show List.lookup x ((if (k == NameKind.free && env.scope.kind == .function && env.kindOf n == some .cell)=true then (n,NameKind.cell) else (n,k)) :: _)=_
  rw [e,List.lookup_cons,List.lookup_cons]
  cases hx:x == n with
  | true =>
   have e2:x=n:=beq_iff_eq.mp hx
   subst e2
   rfl
  | false=>exact ih
theorem Um {env:Env} {names:List (Str × NameKind)} {x:Str} {k:NameKind} (hc:∀ y∈names,y.2≠.cell)
  (h:(names.map fun (n,k)=>if (k == NameKind.free && env.scope.kind == .function && env.kindOf n == some .cell) then (n,NameKind.cell) else (n,k)).lookup x=some k) (hk:k=.cell∨k=.free):names.lookup x=some .free:=by
 rw [Ws] at h
 cases e:names.lookup x with
 | none=>rw [e] at h; cases h
 | some k' =>
  rw [e] at h
  have hk':k'≠.cell:=hc _ (PySem.mem_of_lookup e)
  have h':(if (k' == NameKind.free && env.scope.kind == .function && env.kindOf x == some .cell)=true then NameKind.cell else k')=k:=Option.some.inj h
  split at h'
  ·rename_i q
   simp only [Bool.and_eq_true,beq_iff_eq] at q
   rw [q.1.1]
  ·subst h'
   rcases hk with z | z
   ·exact absurd z hk'
   ·rw [z]
theorem Q4 {env:Env} {names:List (Str × NameKind)} {x:Str} (h:names.lookup x=some .free) :
  (names.map fun (n,k)=>if (k == NameKind.free && env.scope.kind == .function && env.kindOf n == some .cell) then (n,NameKind.cell) else (n,k)).lookup x≠some .local:=by
 rw [Ws,h]
 intro z
 have z':(if (NameKind.free == NameKind.free && env.scope.kind == .function && env.kindOf x == some .cell)=true then NameKind.cell else NameKind.free)=.local:=Option.some.inj z
 split at z' <;> cases z'
noncomputable def Xc (X:Cx) (N':List Str) (scope:Scope) (C:Addr) (s₀:Shared) (H₀:Hp) (ex:List Addr):Cx :=
 { X with N:=N',s₀:=s₀,H₀:=H₀,env:=compEnvC scope (Z6 X.env scope.names []) C X.env,outer:=X.stack,ex:=ex,fn:=fun _=>false,pn:=[],xe:=fun _ _=>False }
noncomputable def FvOk (X:Cx) (scope:Scope):List (Str × Nat)→Prop
 | []=>True
 | (x,j) :: r=>(X.N[j]?=some x∧scope.names.lookup x=some .free∧(X.env.kindOf x=some .cell∨X.env.kindOf x=some .free))∧FvOk X scope r
theorem FvOk.mem {X:Cx} {scope:Scope}:∀ {l:List (Str × Nat)},FvOk X scope l→∀ y∈l,X.N[y.2]?=some y.1∧scope.names.lookup y.1=some .free∧(X.env.kindOf y.1=some .cell∨X.env.kindOf y.1=some .free)
 | [],_,_,h=>by cases h
 | (x,j) :: r,h,y,hy=>by
  rcases List.mem_cons.mp hy with e | hy
  ·cases e; exact h.1
  ·exact FvOk.mem h.2 y hy
noncomputable def blkN (ts:List Str) (fv:List (Str × Nat)):List Str:=ts ++ fv.map (·.1)
noncomputable def blkS (ts:List Str) (fv:List (Str × Nat)) (σ:St):St:=ts.map (fun _=>none) ++ fv.map fun y=>(σ[y.2]?).join
structure BlkOk (X:Cx) (scope:Scope) (fv:List (Str × Nat)):Prop where
 kind:scope.kind=.function
 nocell:∀ y∈scope.names,y.2≠.cell
 names:∀ y∈scope.names,y.2=.local→scope.names.lookup y.1=some .local
 free:∀ y∈scope.names,y.2=.free→X.env.kindOf y.1=some .cell∨X.env.kindOf y.1=some .free
 fvs:FvOk X scope fv
section
variable {X:Cx} {pins:List (Addr × Obj)} {σ:St} {H:Hp} {s:Shared} {scope:Scope} {ts:List Str} {fv:List (Str × Nat)}
theorem Zhe {h':Heap} {fp:List Addr} {tk:Nat} (B:BlkOk X scope fv) (I:Inv X pins σ H s) (hf:∀ b∈fp,FpOk X pins H b) (ho:∀ b∈fp,∃ o,s.heap.get? b=some o)
  (hn:h'.Ns s.heap.objs.size (fun _=>none)) (hk:∀ b o,s.heap.get? b=some o→h'.get? b=some o) :
  Inv (Xc X (blkN ts fv) scope s.heap.objs.size s H fp) [] (blkS ts fv σ) H { s with heap:=h',toks:=tk }:=by
 have has:∀ y∈scope.names,y.2=.free→∃ c,X.env.cells.lookup y.1=some c:=fun y hy e=>I.ok.has y.1 (B.free y hy e)
 have snd:∀ x c,(Z6 X.env scope.names []).lookup x=some c→X.env.cells.lookup x=some c:=Wd _ _ (fun x c h=>by simp at h)
 have fr:∀ x,(scope.names.lookup x=some .free)→∃ c,(Z6 X.env scope.names []).lookup x=some c:=fun x hx =>
  W5 _ _ x (PySem.mem_of_lookup hx) (has _ (PySem.mem_of_lookup hx) rfl)
 have nfs:∀ b∈fp,b ∉ frs X.stack:=fun b hb z=>by
  obtain ⟨_,h1,h2,_⟩:=hf b hb
  rcases List.mem_cons.mp (I.stkSub b z) with e | e
  ·exact h1 e
  ·exact h2 e
 have lt:∀ b∈fp,b < s.heap.objs.size:=fun b hb=>let ⟨o,e⟩:=ho b hb; Heap.lt_size e
 refine ⟨⟨I.ok.mod,?_,I.ok.glob,I.ok.blt,Nat.le_refl _,fun x y c h1 h2=>I.ok.inj x y c (snd x c h1) (snd y c h2),fun x hx=>?_,fun _ _ h=>absurd (show false=true from h) Bool.false_ne_true,I.ok.hd,I.ok.frames,.inl rfl,fun b hb=>⟨Nat.ne_of_lt (lt b hb),fun x c e=>(hf b hb).2.2.2.2.1 x c (snd x c e)⟩,I.bs,Nat.le_trans I.ok.bsz I.sz,fun b o e hb=>?_,nfs,I.stack,I.stkFree⟩,
  rfl,I.bare,Un.kept hk,⟨_,hn,fun i x v h1 h2 h3=>?_⟩,fun x c e=>?_,I.fresh,fun x c e=>I.freeC x c (snd x c e),fun p hp=>?_,I.hok.kept hk,?_⟩
 ·exact B.kind
 ·refine fr x ?_
  have hx':(relabel scope X.env).names.lookup x=some .cell∨(relabel scope X.env).names.lookup x=some .free:=hx
  rcases hx' with e | e
  ·exact Um B.nocell e (.inl rfl)
  ·exact Um B.nocell e (.inr rfl)
 ·rcases (hf b hb).2.2.2.1 with z | z
  ·exact I.ok.noex b o e z
  ·exact absurd (Nat.lt_of_lt_of_le (Heap.lt_size e) (Nat.le_trans I.ok.bsz z)) (Nat.lt_irrefl _)
 ·have h1:(ts ++ fv.map (·.1))[i]?=some x:=h1
  have h2:(ts.map (fun _=>(none:Option V)) ++ fv.map fun y=>(σ[y.2]?).join)[i]?=some (some v):=h2
  by_cases hi:i < ts.length
  ·rw [List.getElem?_append_left (by simpa using hi),List.getElem?_map] at h2
   cases e:ts[i]? with
   | none=>rw [e] at h2; cases h2
   | some z=>rw [e] at h2; cases h2
  ·rw [List.getElem?_append_right (by simpa using hi),List.length_map,List.getElem?_map] at h2
   rw [List.getElem?_append_right (by simpa using hi),List.getElem?_map] at h1
   cases e:fv[i - ts.length]? with
   | none=>rw [e] at h2; cases h2
   | some y =>
    rw [e] at h1 h2
    have e1:y.1=x:=by simpa using h1
    have e2:(σ[y.2]?).join=some v:=by simpa using h2
    obtain ⟨f1,f2,f3⟩:=B.fvs.mem y (List.mem_of_getElem? e)
    have e3:σ[y.2]?=some (some v):=by
     cases q:σ[y.2]? with
     | none=>rw [q] at e2; cases e2
     | some z=>rw [q] at e2; exact congrArg some e2
    obtain ⟨m,hm,hl⟩:=I.loc
    obtain ⟨u,r,l⟩:=hl y.2 y.1 v f1 e3 (by rcases f3 with z | z; exact .inr (.inl z); exact .inr (.inr z))
    rw [e1] at f2 f3 l
    refine ⟨u,r,?_⟩
    obtain ⟨c,hc⟩:=fr x f2
    have hc':=snd x c hc
    rcases l with ⟨l1,_⟩ | ⟨_,c2,l2,l3⟩
    ·rcases f3 with z | z
     ·rw [l1] at z; cases z
     ·rw [l1] at z; cases z
    ·rw [hc'] at l2
     cases l2
     have hv:Vis (relabel scope X.env) x:=h3
     rcases hv with z | z | z
     ·exfalso
      exact Q4 f2 z
     ·exact .inr ⟨.inl z,c,hc,l3.keeps hk⟩
     ·exact .inr ⟨.inr z,c,hc,l3.keeps hk⟩
 ·obtain ⟨v,z⟩:=I.cell x c (snd x c e)
  exact ⟨v,z.keeps hk⟩
 ·exact absurd (show p∈([]:List (Addr × Obj)) from hp) (by simp)
 ·show (ts.map (fun _=>(none:Option V)) ++ fv.map fun y=>(σ[y.2]?).join).length=(ts ++ fv.map (·.1)).length
  simp
theorem Inv.apart {C:Addr} {h':Heap} (I:Inv X pins σ H s) (hs:Heap.SameBut C s.heap h') (hC:H C=none) (h0:X.s₀.heap.objs.size≤C) (hL:C≠X.env.locals) (hc:∀ x c,X.env.cells.lookup x=some c→c≠C) (hp:∀ p∈X.pn ++ pins,p.1≠C) :
  Inv X pins σ H { s with heap:=h' } :=
 I.turned (t':=s.toks) (it:=C) (fun b o hb e=>(hs.2 b hb).trans e) hC hL (.inr h0) hc hp
theorem Zlr {s':Shared} {H':Hp} {σ':St} {C:Addr} {N':List Str} {fp:List Addr} (I:Inv X pins σ H s) (hf:∀ b∈fp,FpOk X pins H b) (hC:s.heap.objs.size≤C)
  (J:Inv (Xc X N' scope C s H fp) [] σ' H' s'):Inv X pins σ H' s'∧H' C=none∧X.s₀.heap.objs.size≤C∧C≠X.env.locals∧(∀ x c,X.env.cells.lookup x=some c→c≠C)∧(∀ p∈X.pn ++ pins,p.1≠C):=by
 refine ⟨I.call' J.os J.base J.hok J.bare fun b hb=>?_,J.free,Nat.le_trans I.sz hC,Nat.ne_of_gt (Nat.lt_of_lt_of_le I.lt hC),fun x c e z=>?_,fun p hp z=>?_⟩
 ·obtain ⟨_,h1,_,h3,h4,h5⟩:=hf b hb
  exact ⟨h3,h1,h4,h5⟩
 ·obtain ⟨v,q⟩:=I.cell x c e
  exact absurd (Nat.lt_of_lt_of_le q.lt (by rw [z]; exact hC)) (Nat.lt_irrefl _)
 ·exact absurd (Nat.lt_of_lt_of_le (Heap.lt_size (I.pin p hp).1) (by rw [z]; exact hC)) (Nat.lt_irrefl _)
end
end L2
set_option maxHeartbeats 4000000
namespace L2
open PySem PySem.Spec PyProof.Rows
noncomputable abbrev TB:=St→Hp→(St→Hp→Prop)→Prop
noncomputable def PTs (X:Cx) (ifs:List Expr) (t:TT):Prop :=
 ∀ (pins:List (Addr × Obj)) (s:Shared) (σ:St) (H:Hp) (Q:Bool→Hp→Prop),Inv X pins σ H s→t σ H Q →
  wpAny (model X.prog X.w) X.A (forIn ifs true fun c r=>if r=true then do let ok ← isTrue c X.env (eval c X.env); pure (ForInStep.yield ok) else pure (ForInStep.yield r)) (TP X pins σ Q) X.xe s
noncomputable def tYes:TT:=fun _ H Q=>Q true H
theorem Y1 {X:Cx}:PTs X [] tYes:=fun pins s σ H Q I h=>wpAny_tests_nil ⟨H,I,h⟩
theorem Jc {X:Cx} {c:Expr} {t:TT} (h:PT X c t):PTs X [c] t:=fun pins s σ H Q I hq=>wpAny_tests_one (h pins s σ H Q I hq)
noncomputable def PB (X:Cx) (kont:Sem Fin) (c:Code) (t:TB):Prop :=
 ∀ (pins:List (Addr × Obj)) (s:Shared) (σ:St) (H:Hp) (N:St→Hp→Prop),Inv X pins σ H s→t σ H N →
  wpAny (model X.prog X.w) X.A kont (fun fin s'=>fin=.again c∧∃ σ' H',Inv X pins σ' H' s'∧N σ' H') X.xe s
noncomputable def Wx (J:It) (g:TG) (tt:TT) (tb:TB) (R:St→Hp→Prop) (σ:St) (H:Hp):Prop :=
 ∃ W:Nat→Nat→St→Hp→Prop,(∃ m,W 0 m σ H)∧∀ i m σ H,W i m σ H →
  (J.stop i H∧R σ H)∨(J.go i H∧∃ N:St→Hp→Prop,(∀ σ' H',N σ' H'→∃ m',m' < m∧W (i + 1) m' σ' H') ∧
   ∀ x H',J.yld i H x H'→g x σ H' fun σ2 H2=>tt σ2 H2 fun b H3=>if b=true then tb σ2 H3 N else N σ2 H3)
section
variable {X:Cx}
theorem Uy {e tg:Expr} {d:Nat} {acc:Value} {ifs:List Expr} {kont:Sem Fin} {J:It} {fp:List Addr} {it:Addr} {tn:Nat→Heap→Prop} {g:TG} {tt:TT} {tb:TB} {p:Pos} {pins:List (Addr × Obj)} {s:Shared} {σ:St} {H:Hp} {R:St→Hp→Prop}
  {RR:Result→Shared→Prop} (hxe:X.xe=fun _ _=>False)
  (hcq:Code.quiet (.compLoop e d (.ref it) acc X.env)=true) (hden:(model X.prog X.w).den (.compLoop e d (.ref it) acc X.env)=(compTurn e d (.ref it) acc X.env).onRaise (fun x=>do noteFrame x X.env; theTreesLotGoes x))
  (hund:X.A.under (.compLoop e d (.ref it) acc X.env)=X.A)
  (heq:compTurn e d (.ref it) acc X.env=(standAt p >>= fun _=>pyNext (.ref it) >>= fun r=>match r with
   | none=>pure (.done .next)
   | some v=>letOwnedTupleGo tg (.ref it) v >>= fun _=>assign tg X.env v >>= fun _ =>
    (forIn ifs true fun c r=>if r=true then do let ok ← isTrue c X.env (eval c X.env); pure (ForInStep.yield ok) else pure (ForInStep.yield r)) >>= fun ok =>
     if ok=true then kont else again (.compLoop e d (.ref it) acc X.env)))
  (T:Turn X.prog X.w X.K tg J fp it tn) (hc:X.calm=true) (hg:PG X tg g) (ht:PTs X ifs tt) (hb:PB X kont (.compLoop e d (.ref it) acc X.env) tb)
  (hf:∀ b∈fp,FpOk X pins H b) (I:Inv X pins σ H s) (st:tn 0 s.heap) (h:Wx J g tt tb R σ H)
  (hR:∀ s' σ' H',Inv X pins σ' H' s'→R σ' H'→RR (.ok .next) s') :
  codeAny (model X.prog X.w) X.A (.compLoop e d (.ref it) acc X.env) RR s:=by
 obtain ⟨W,⟨m0,w0⟩,turn⟩:=h
 have stat:∀ {H':Hp},(∀ b∈fp,H' b=none)→∀ b∈fp,FpOk X pins H' b:=fun hn b hb=>⟨hn b hb,(hf b hb).2⟩
 refine codeAny_loop hcq (fun n s'=>∃ i σ' H',Inv X pins σ' H' s'∧tn i s'.heap∧(∀ b∈fp,H' b=none)∧W i n σ' H') ?_ m0 ⟨0,σ,H,I,st,fun b hb=>(hf b hb).1,w0⟩
 rintro n s3 ⟨i,σ3,H3,I3,st3,fr3,w3⟩
 rw [hden,hund]
 refine wpAny_noted (wpAny_mono (E:=fun _ _=>False) ?_ (fun _ _ q=>q) fun _ _ z=>z.elim)
 rw [heq]
 have hxe':∀ {α:Type} {t:Sem α} {Q:α→Shared→Prop} {s:Shared},wpAny (model X.prog X.w) X.A t Q X.xe s→wpAny (model X.prog X.w) X.A t Q (fun _ _=>False) s:=fun h=>by rw [hxe] at h; exact h
 refine wpAny_bind (wpAny_standAt (wpAny_bind ?_))
 rcases turn i n σ3 H3 w3 with ⟨stop,qn⟩ | ⟨go,N,hN,step⟩
 ·refine thn (T.done X rfl rfl rfl hc i pins s3 σ3 H3 _ I3 (stat fr3) st3 stop) fun r s4 ⟨hr,I4⟩=>?_
  subst hr
  exact wpAny_pure (hR s4 σ3 H3 I4 qn)
 ·refine thn (T.item X rfl rfl rfl hc i pins s3 σ3 H3 _ I3 (stat fr3) st3 go) fun r s4 ⟨u,hr,h4⟩=>?_
  subst hr
  refine wpAny_bind (thn h4 fun _ s5 zz9=>?_)
  obtain ⟨x,H5,I5,r5,y5,st5,fr5⟩:=zz9
  have I5':=I5.pinned (stat fr5) (T.obj _ _ st5)
  refine wpAny_bind (hxe' (thn (hg _ s5 σ3 H5 x u _ I5' r5 (step x H5 y5)) fun _ s6 zz9=>?_))
  obtain ⟨σ6,H6,I6,q6⟩:=zz9
  refine wpAny_bind (hxe ▸ thn (ht _ s6 σ6 H6 _ I6 q6) fun ok s7 zz9=>?_)
  obtain ⟨H7,I7,q7⟩:=zz9
  have back:∀ {σ7:St} {H7:Hp} {s7:Shared},Inv X (pins ++ Up fp s5.heap) σ7 H7 s7→N σ7 H7→∃ m,m < n∧∃ i σ' H',Inv X pins σ' H' s7∧tn i s7.heap∧(∀ b∈fp,H' b=none)∧W i m σ' H':=fun {σ7 H7 s7} I7 n7=>by
   obtain ⟨m',hm,w7⟩:=hN σ7 H7 n7
   refine ⟨m',hm,i + 1,σ7,H7,I7.unpinned,T.keep _ _ _ st5 fun b hb o e=>(I7.pin (b,o) (List.mem_append_right _ (List.mem_append_right _ (Qd hb e)))).1,fun b hb=>?_,w7⟩
   obtain ⟨o,e,d⟩:=T.obj _ _ st5 b hb
   exact (I7.pin (b,o) (List.mem_append_right _ (List.mem_append_right _ (Qd hb e)))).2.1
  cases ok with
  | false=>exact hxe ▸ wpAny_pure ⟨rfl,back I7 q7⟩
  | true =>
   refine thn (hb _ s7 σ6 H7 N I7 q7) fun fin s8 zz9=>?_
   obtain ⟨hfin,σ8,H8,I8,q8⟩:=zz9
   subst hfin
   exact ⟨rfl,back I8 q8⟩
end
end L2
set_option maxHeartbeats 4000000
namespace L2
open PySem PySem.Spec PyProof.Rows
noncomputable def Zec (te:TE) (D:Addr):TB:=fun σ H N=>te σ H fun v H1=>∃ xs,H1 D=some (.lst xs)∧xs.length < sizeLine∧N σ (upd H1 D (.lst (xs ++ [v])))
section
variable {X:Cx}
theorem Yj {elt:Expr} {te:TE} {D:Addr} {c:Code} (he:PE X elt te) :
  PB X ((eval elt X.env >>= fun x=>call (.builtin "list.append") [.ref D,x] >>= fun _=>pure ()) >>= fun _=>again c) c (Zec te D):=by
 intro pins s σ H N I h
 refine wpAny_bind (wpAny_bind (thn (he pins s σ H _ I h) fun u s1 zz9=>?_))
 obtain ⟨v,H1,I1,r1,q1⟩:=zz9
 obtain ⟨xs,hD,hl,q⟩:=q1
 refine wpAny_bind (thn (Y2 pins s1 σ H1 (.ref D) [v] (.ref D) [u] (fun _ H2=>N σ H2) I1 rfl (.cons r1 .nil) ⟨D,xs,v,rfl,rfl,hD,hl,q⟩) fun _ s2 zz9=>?_)
 obtain ⟨_,H2,I2,_,q2⟩:=zz9
 exact wpAny_pure (wpAny_pure ⟨rfl,σ,H2,I2,q2⟩)
noncomputable def tGen (wi:TI) (g:TG) (tt:TT) (tb:TB):TB:=fun σ H N=>wi σ H fun J H1=>Wx J g tt tb N σ H1
theorem Ze3 {prog:Program} {w:World} {A:Around} {R:Result→Shared→Prop} {s:Shared} {elt:Expr} {t0 i0:Expr} {f0:List Expr} {t1 i1:Expr} {f1:List Expr} {scope:Scope} {pos:Pos} {it acc:Value} {env:Env}
  (h0:codeAny (model prog w) A (.compLoop (.ListComp elt [⟨t0,i0,f0,0⟩,⟨t1,i1,f1,0⟩] scope pos) 1 it acc env) R s)
  (h:wpAny (model prog w) A (pyIter it) (fun it' s'=>codeAny (model prog w) A (.compLoop (.ListComp elt [⟨t0,i0,f0,0⟩,⟨t1,i1,f1,0⟩] scope pos) 1 it' acc env) R s')
   (notedBy (model prog w) A env fun x s'=>R (.error x) s') s) :
  codeAny (model prog w) A (.compStart (.ListComp elt [⟨t0,i0,f0,0⟩,⟨t1,i1,f1,0⟩] scope pos) 1 it acc env) R s:=by
 refine codeAny_of_tree ?_
 show wpAny _ _ ((compStart (.ListComp elt [⟨t0,i0,f0,0⟩,⟨t1,i1,f1,0⟩] scope pos) 1 it acc env).onRaise (fun x=>do noteFrame x env; standAt theWindowsPlace)) _ _ s
 refine wpAny_notedAt ?_
 unfold compStart
 show wpAny _ _ (ask >>= _) _ _ s
 refine wpAny_bind (wpAny_askSetting (wpAny_ite ?_))
 split
 ·first
   | exact wpAny_bind (wpAny_pure (wpAny_pure (And.intro rfl h0)))
   | exact wpAny_pure (And.intro rfl h0)
 ·first
   | exact wpAny_bind (wpAny_rule (wpAny_bind (wpAny_standAt (wpAny_bind (wpAny_mono h (fun it' s' h'=>wpAny_pure (And.intro rfl h')) fun _ _ x=>x)))))
   | (refine wpAny_bind (wpAny_rule ?_); show wpAny _ _ (standAt i1.pos >>= _) _ _ s; exact wpAny_bind (wpAny_standAt (wpAny_bind (wpAny_mono h (fun it' s' h'=>wpAny_pure (And.intro rfl h')) fun _ _ x=>x))))
theorem Zf9 {elt t0 i0 t1 i1:Expr} {f0 f1:List Expr} {scope:Scope} {pos:Pos} {D:Addr} {c:Code} {wi:TI} {g:TG} {tt:TT} {te:TE} (hxe:X.xe=fun _ _=>False) (hc:X.calm=true)
  (hi:PI X t1 i1 wi) (hg:PG X t1 g) (ht:PTs X f1 tt) (he:PE X elt te) (hs:∀ x,foldedSetIterable i1 X.env x=pure x:=by intro _; rfl) :
  PB X (eval i1 X.env >>= fun x=>standAt i1.pos >>= fun _=>foldedSetIterable i1 X.env x >>= fun x=>holding [x] (pyIter x) >>= fun it =>
   runOwn (.compStart (.ListComp elt [⟨t0,i0,f0,0⟩,⟨t1,i1,f1,0⟩] scope pos) 1 it (.ref D) X.env) X.env >>= fun _=>again c) c (tGen wi g tt (Zec te D)):=by
 intro pins s σ H N I h
 refine wpAny_bind (thn (hi pins s σ H _ I h) fun v s1 h1=>wpAny_bind (wpAny_standAt ?_))
 rw [hs]
 refine wpAny_bind (wpAny_pure (wpAny_bind (wpAny_holding (thn h1 fun itv s2 h2=>?_))))
 obtain ⟨it,fp,tn,J,H2,e,I2,T,st2,f2,L⟩:=h2
 subst e
 have loop:∀ (A:Around),A=X.A→codeAny (model X.prog X.w) A (.compLoop (.ListComp elt [⟨t0,i0,f0,0⟩,⟨t1,i1,f1,0⟩] scope pos) 1 (.ref it) (.ref D) X.env)
   (fun r s'=>match r with | .ok f=>wpAny (model X.prog X.w) X.A (again c) (fun fin s'=>fin=.again c∧∃ σ' H',Inv X pins σ' H' s'∧N σ' H') X.xe s' | .error e=>cameBackBy (model X.prog X.w) X.A X.env X.xe e s') s2:=by
  rintro A rfl
  exact Uy (tg:=t1) (ifs:=f1) (R:=N) hxe rfl rfl rfl rfl T hc hg ht (Yj (c:=.compLoop (.ListComp elt [⟨t0,i0,f0,0⟩,⟨t1,i1,f1,0⟩] scope pos) 1 (.ref it) (.ref D) X.env) he) f2 I2 st2 L fun s' σ' H' I' q=>wpAny_pure ⟨rfl,σ',H',I',q⟩
 refine wpAny_bind (wpAny_runOwn (h:=none) ?_)
 exact Ze3 (loop _ rfl) (T.self _ _ _ _ _ st2 (loop _ rfl))
end
end L2
set_option maxHeartbeats 4000000
namespace L2
open PySem PySem.Spec PyProof.Rows
noncomputable def Ka (ts:List Str) (fv:List (Str × Nat)) (wi:TI) (g:TG) (tt:TT) (tb:Addr→TB):TE:=fun σ H Q=>wi σ H fun J H1=>∀ D,H1 D=none →
 Wx J g tt (tb D) (fun _ H'=>Q (.ref D) H') (blkS ts fv σ) (upd H1 D (.lst []))
section
variable {X:Cx} {ts:List Str} {fv:List (Str × Nat)} {scope:Scope} {elt t0 i0:Expr} {f0:List Expr} {rest:List Comprehension} {pos:Pos} {wi:TI} {g:TG} {tt:TT} {tb:Addr→TB} {kont:Env→Addr→Addr→Sem Fin}
theorem F0 (B:BlkOk X scope fv) (hc:X.calm=true) (hi:PI X t0 i0 wi)
  (hg:∀ C s₀ H₀ ex,PG (Xc X (blkN ts fv) scope C s₀ H₀ ex) t0 g) (ht:∀ C s₀ H₀ ex,PTs (Xc X (blkN ts fv) scope C s₀ H₀ ex) f0 tt)
  (heq:∀ (env:Env) (it D:Addr),compTurn (.ListComp elt (⟨t0,i0,f0,0⟩ :: rest) scope pos) 0 (.ref it) (.ref D) env=(standAt i0.pos >>= fun _=>pyNext (.ref it) >>= fun r=>match r with
   | none=>pure (.done .next)
   | some v=>letOwnedTupleGo t0 (.ref it) v >>= fun _=>assign t0 env v >>= fun _ =>
    (forIn f0 true fun c r=>if r=true then do let ok ← isTrue c env (eval c env); pure (ForInStep.yield ok) else pure (ForInStep.yield r)) >>= fun ok =>
     if ok=true then kont env it D else again (.compLoop (.ListComp elt (⟨t0,i0,f0,0⟩ :: rest) scope pos) 0 (.ref it) (.ref D) env)))
  (hb:∀ C s₀ H₀ ex it D,PB (Xc X (blkN ts fv) scope C s₀ H₀ ex) (kont (Xc X (blkN ts fv) scope C s₀ H₀ ex).env it D) (.compLoop (.ListComp elt (⟨t0,i0,f0,0⟩ :: rest) scope pos) 0 (.ref it) (.ref D) (Xc X (blkN ts fv) scope C s₀ H₀ ex).env) (tb D))
  {pins:List (Addr × Obj)} {s:Shared} {σ:St} {H:Hp} {Q:VK} {RR:Value→Addr→Result→Shared→Prop} (I:Inv X pins σ H s) (h:Ka ts fv wi g tt tb σ H Q)
  (hRR:∀ D C s' H',Inv X pins σ H' s'→H' C=none→X.s₀.heap.objs.size≤C→C≠X.env.locals→(∀ x c,X.env.cells.lookup x=some c→c≠C)→(∀ p∈X.pn ++ pins,p.1≠C)→(∃ m,s'.heap.Ns C m)→Q (.ref D) H'→RR (.ref D) C (.ok .next) s') :
  wpAny (model X.prog X.w) X.A (eval i0 X.env) (fun x s₁=>wpAny (model X.prog X.w) X.A (pyIter x) (fun it s₂=>wpAny (model X.prog X.w) X.A (newList []) (fun acc s₃ =>
   wpAny (model X.prog X.w) X.A (newFunctionEnv scope X.env.globals (Z6 X.env scope.names []) [] X.env.qual none .none (some X.env)) (fun cenv s₄ =>
    codeAny (model X.prog X.w) X.A (.compStart (.ListComp elt (⟨t0,i0,f0,0⟩ :: rest) scope pos) 0 it acc { cenv with scope:=relabel scope X.env }) (RR acc cenv.locals) s₄) X.xe s₃) X.xe s₂) X.xe s₁) X.xe s:=by
 refine thn (hi pins s σ H _ I h) fun v s1 h1=>thn h1 fun itv s2 h2=>?_
 obtain ⟨it,fp,tn,J,H2,e,I2,T,st2,f2,L⟩:=h2
 subst e
 have L:=L s2.heap.objs.size I2.fresh
 refine wpAny_newObj_type ?_
 have I3:Inv X pins σ (upd H2 s2.heap.objs.size (.lst [])) { s2 with heap:=s2.heap.push { cls:=.type "list",data:=.seq ([]:List Value).toArray },toks:=s2.toks }:=I2.lnew (its:=[]) (t':=s2.toks) .nil (Nat.zero_le _)
 have ho2:∀ b∈fp,∃ o,s2.heap.get? b=some o∧∀ v,o.data≠.cell v:=T.obj _ _ st2
 have f3:∀ b∈fp,FpOk X pins (upd H2 s2.heap.objs.size (.lst [])) b:=fun b hb=>by
  obtain ⟨o,ho,_⟩:=ho2 b hb
  refine ⟨?_,(f2 b hb).2⟩
  rw [Zf (Nat.ne_of_lt (Heap.lt_size ho))]
  exact (f2 b hb).1
 have st3:tn 0 (s2.heap.push { cls:=.type "list",data:=.seq ([]:List Value).toArray }):=T.keep _ _ _ st2 fun b _ o e=>Heap.get?_push_of_some _ e
 have ho3:∀ b∈fp,∃ o,(s2.heap.push { cls:=.type "list",data:=.seq ([]:List Value).toArray }).get? b=some o:=fun b hb=>let ⟨o,e,_⟩:=ho2 b hb; ⟨o,Heap.get?_push_of_some _ e⟩
 generalize hs3:({ s2 with heap:=s2.heap.push { cls:=.type "list",data:=.seq ([]:List Value).toArray },toks:=s2.toks }:Shared)=s3 at I3
 have eh:s2.heap.push { cls:=.type "list",data:=.seq ([]:List Value).toArray }=s3.heap:=by rw [← hs3]
 rw [eh] at st3 ho3
 refine wpAny_newFunctionEnv B.nocell (by intro y hy; simp at hy) (fun h₁ hns hsb=>?_) B.kind
 have hk:∀ b o,s3.heap.get? b=some o→h₁.get? b=some o:=fun b o e=>hsb.extBut b o (Nat.ne_of_lt (Heap.lt_size e)) (Heap.get?_push_of_some _ e)
 have I4:=Zhe (ts:=ts) (tk:=s3.toks + ([]:List (Str × Value)).length) B I3 f3 ho3 hns hk
 have f4:∀ b∈fp,FpOk (Xc X (blkN ts fv) scope s3.heap.objs.size s3 (upd H2 s2.heap.objs.size (.lst [])) fp) [] (upd H2 s2.heap.objs.size (.lst [])) b:=fun b hb=>by
  obtain ⟨f0,f1,f2',f3',f4',f5'⟩:=f3 b hb
  obtain ⟨o,eo⟩:=ho3 b hb
  exact ⟨f0,Nat.ne_of_lt (Heap.lt_size eo),I4.ok.exfs b hb,.inl hb,(I4.ok.exf b hb).2,fun p hp=>absurd (show p∈([]:List (Addr × Obj)) from hp) (by simp)⟩
 have st4:tn 0 h₁:=T.keep _ _ _ st3 fun b _ o e=>hk b o e
 have loop:codeAny (model X.prog X.w) X.A (.compLoop (.ListComp elt (⟨t0,i0,f0,0⟩ :: rest) scope pos) 0 (.ref it) (.ref s2.heap.objs.size) (Xc X (blkN ts fv) scope s3.heap.objs.size s3 (upd H2 s2.heap.objs.size (.lst [])) fp).env)
   (RR (.ref s2.heap.objs.size) s3.heap.objs.size) { s3 with heap:=h₁,toks:=s3.toks + ([]:List (Str × Value)).length }:=by
  refine Uy (X:=Xc X (blkN ts fv) scope s3.heap.objs.size s3 (upd H2 s2.heap.objs.size (.lst [])) fp) (tg:=t0) (ifs:=f0) (R:=fun _ H'=>Q (.ref s2.heap.objs.size) H') rfl rfl rfl rfl (heq _ it s2.heap.objs.size) T hc (hg _ _ _ _) (ht _ _ _ _) (hb _ _ _ _ it s2.heap.objs.size) f4 I4 st4 L fun s' σ' H' J' q=>?_
  obtain ⟨e1,e2,e3,e4,e5,e6⟩:=Zlr I3 f3 (Nat.le_refl _) J'
  obtain ⟨m,hm,_⟩:=J'.loc
  exact hRR _ _ s' H' e1 e2 e3 e4 e5 e6 ⟨m,hm⟩ q
 exact codeAny_compStart_list loop (T.self _ _ _ _ _ st4 loop)
theorem Y0 (B:BlkOk X scope fv) (hc:X.calm=true) (hi:PI X t0 i0 wi)
  (hg:∀ C s₀ H₀ ex,PG (Xc X (blkN ts fv) scope C s₀ H₀ ex) t0 g) (ht:∀ C s₀ H₀ ex,PTs (Xc X (blkN ts fv) scope C s₀ H₀ ex) f0 tt)
  (heq:∀ (env:Env) (it D:Addr),compTurn (.ListComp elt (⟨t0,i0,f0,0⟩ :: rest) scope pos) 0 (.ref it) (.ref D) env=(standAt i0.pos >>= fun _=>pyNext (.ref it) >>= fun r=>match r with
   | none=>pure (.done .next)
   | some v=>letOwnedTupleGo t0 (.ref it) v >>= fun _=>assign t0 env v >>= fun _ =>
    (forIn f0 true fun c r=>if r=true then do let ok ← isTrue c env (eval c env); pure (ForInStep.yield ok) else pure (ForInStep.yield r)) >>= fun ok =>
     if ok=true then kont env it D else again (.compLoop (.ListComp elt (⟨t0,i0,f0,0⟩ :: rest) scope pos) 0 (.ref it) (.ref D) env)))
  (hb:∀ C s₀ H₀ ex it D,PB (Xc X (blkN ts fv) scope C s₀ H₀ ex) (kont (Xc X (blkN ts fv) scope C s₀ H₀ ex).env it D) (.compLoop (.ListComp elt (⟨t0,i0,f0,0⟩ :: rest) scope pos) 0 (.ref it) (.ref D) (Xc X (blkN ts fv) scope C s₀ H₀ ex).env) (tb D))
  (hs:∀ x,foldedSetIterable i0 X.env x=pure x:=by intro _; rfl) :
  PE X (.ListComp elt (⟨t0,i0,f0,0⟩ :: rest) scope pos) (Ka ts fv wi g tt tb):=by
 intro pins s σ H Q I h
 rw [eval_ListComp]
 refine wpAny_comprehension_free (use:=none) rfl hs (Vd fun y hy e=>I.ok.has y.1 (B.free y hy e)) B.kind B.names ?_
 refine F0 (RR:=fun acc C=>compPost (model X.prog X.w) X.A X.xe none (EP X pins σ Q) acc C) B hc hi hg ht heq hb I h fun D C s' H' I' e2 e3 e4 e5 e6 hm q=>?_
 obtain ⟨m,hm⟩:=hm
 exact ⟨m,hm,fun h' hs'=>⟨.ref D,H',I'.apart hs' e2 e3 e4 e5 e6,rfl,q⟩⟩
theorem Xs {i:Nat} {y:Str} {py spos:Pos} (B:BlkOk X scope fv) (hc:X.calm=true) (hN:X.N.Nodup) (hiy:X.N[i]?=some y) (hyl:X.env.scope.names.lookup y=some .local)
  (hsw:swapsWith (.ListComp elt (⟨t0,i0,f0,0⟩ :: rest) scope pos) (some (.Name y py)) spos.line X.env=pure true) (hi:PI X t0 i0 wi)
  (hg:∀ C s₀ H₀ ex,PG (Xc X (blkN ts fv) scope C s₀ H₀ ex) t0 g) (ht:∀ C s₀ H₀ ex,PTs (Xc X (blkN ts fv) scope C s₀ H₀ ex) f0 tt)
  (heq:∀ (env:Env) (it D:Addr),compTurn (.ListComp elt (⟨t0,i0,f0,0⟩ :: rest) scope pos) 0 (.ref it) (.ref D) env=(standAt i0.pos >>= fun _=>pyNext (.ref it) >>= fun r=>match r with
   | none=>pure (.done .next)
   | some v=>letOwnedTupleGo t0 (.ref it) v >>= fun _=>assign t0 env v >>= fun _ =>
    (forIn f0 true fun c r=>if r=true then do let ok ← isTrue c env (eval c env); pure (ForInStep.yield ok) else pure (ForInStep.yield r)) >>= fun ok =>
     if ok=true then kont env it D else again (.compLoop (.ListComp elt (⟨t0,i0,f0,0⟩ :: rest) scope pos) 0 (.ref it) (.ref D) env)))
  (hb:∀ C s₀ H₀ ex it D,PB (Xc X (blkN ts fv) scope C s₀ H₀ ex) (kont (Xc X (blkN ts fv) scope C s₀ H₀ ex).env it D) (.compLoop (.ListComp elt (⟨t0,i0,f0,0⟩ :: rest) scope pos) 0 (.ref it) (.ref D) (Xc X (blkN ts fv) scope C s₀ H₀ ex).env) (tb D))
  (hs:∀ x,foldedSetIterable i0 X.env x=pure x:=by intro _; rfl) :
  PS X (.Assign [.Name y py] (.ListComp elt (⟨t0,i0,f0,0⟩ :: rest) scope pos) spos) (tAsg (Ka ts fv wi g tt tb) (Zn i)):=by
 intro pins s σ H D0 I h
 rw [exec_Assign_Name_used _ _ _ _ hsw]
 refine wpAny_bind (wpAny_standAt (wpAny_bind ?_))
 show wpAny _ X.A (do let _ ← comprehension (.ListComp elt (⟨t0,i0,f0,0⟩ :: rest) scope pos) scope X.env _ (newList []) false (eval i0 X.env) (some (assign (.Name y py) X.env))) _ _ s
 refine wpAny_bind (wpAny_mono (wpAny_comprehension_free (use:=some (assign (.Name y py) X.env)) (Q:=fun _ s'=>SP X pins D0 .next s') rfl hs (Vd fun y hy e=>I.ok.has y.1 (B.free y hy e)) B.kind B.names ?_) (fun _ s' hq=>wpAny_pure (wpAny_pure hq)) fun _ _ e=>e)
 refine F0 (Q:=fun x H1=>Zn i x σ H1 D0.nx) (RR:=fun acc C=>compPost (model X.prog X.w) X.A X.xe (some (assign (.Name y py) X.env)) (fun _ s'=>SP X pins D0 .next s') acc C) B hc hi hg ht heq hb I h fun D C s' H' I' e2 e3 e4 e5 e6 hm q=>?_
 obtain ⟨m,hm⟩:=hm
 show wpAny _ X.A (assign (.Name y py) X.env (.ref D)) _ _ _
 refine wpAny_assign_Name (Ug I' hN hiy (.inl hyl) (show RelV (.ref D) (.ref D) from rfl) (fun s'' I'' hch=>?_) (.inr hyl))
 obtain ⟨a,hsb,ha⟩:=hch
 have haC:C≠a:=by
  rcases ha with e | e
  ·rw [e]; exact e4
  ·exact fun z=>e5 y a e z.symm
 exact ⟨m,hm.sameBut hsb haC,fun h' hs'=>⟨_,H',I''.apart hs' e2 e3 e4 e5 e6,q⟩⟩
end
end L2
set_option maxHeartbeats 4000000
namespace L2
open PySem PySem.Spec PyProof.Rows
noncomputable def FlyT (e T:Addr) (cls a0:Value) (h:Heap):Prop :=
 ∃ oe vs oT ts,h.get? e=some oe∧(oe.cls=cls∧vs[0]?=some a0)∧oe.data=.fields vs∧vs[1]?=some (.ref T)∧T≠e∧h.get? T=some oT∧oT.data=.fields ts∧ts[3]?=some .none
noncomputable def CXr (P:Program) (w:World):CXT:=fun outer H s E ev s' =>
 ∃ (e T:Addr) (cls a0:Value) (H':Hp),ev=.ref e∧s'.os=s.os∧AllBare s'.gens∧Un (frs outer) [] H H' s.heap s'.heap∧HOk P w H' s'.heap ∧
  s.heap.get? e=none∧s.heap.get? T=none∧H' e=none∧H' T=none∧FlyT e T cls a0 s'.heap∧E cls none H'
theorem Wh {X:Cx}:Qz (CXr X.prog X.w) X E0:=fun _ _ _ _ _ _ _ h=>by
 obtain ⟨_,_,_,_,_,_,_,_,_,_,_,_,_,_,_,z⟩:=h
 exact z.elim
theorem Zlp {P:Program} {w:World} {H:Hp} {s:Shared} {e:Value} {s':Shared} (h:CXr P w [] H s (fun _ _ _=>False) e s'):False:=by
 obtain ⟨_,_,_,_,_,_,_,_,_,_,_,_,_,_,_,z⟩:=h
 exact z
section
variable {P:Program} {w:World} {K:PySem.W.Frag} {mg:Str→Option Value} {base:Heap}
theorem Fun.okR {x qual:Str} {st:Stmt} {f:Addr} {fd:FuncData} {N ps:List Str} {k:Nat} {sp:Sp} (F:Fun K x qual st f fd) (S:FnScope N ps (Zj st)) (len:∀ vs H Q E,sp vs H Q E→vs.length=ps.length)
  (hbody:∀ (cdv:Value) (A:Around) (outer:List Env) (s:Shared) (H:Hp) (vs:List V) (Q:VK) (E:XK),Room k (A.deeper (envOfC qual (Zj st) s.heap.objs.size f cdv))→sp vs H Q E →
   ∃ t,PSs (cxOf (CXr P w) P w K mg base N qual (Zj st) f cdv A outer s H E).nox (Yz st) t∧t { nx:=fun _ H'=>Q .non H',rt:=Q } (start N vs) H):FnOk P w K mg base (CXr P w) (k + 1) f fd ps sp:=by
 obtain ⟨oc,od,kV,doc,pm,an,cdv,ct,osl,rfl,lk,hcd⟩:=F.ex
 refine Zjv lk hcd S len fun A outer s H vs Q E hr hsp=>?_
 obtain ⟨t,h,q⟩:=hbody cdv A outer s H vs Q E hr hsp
 exact ⟨t,h.nox,q⟩
end
section
variable {X:Cx}
theorem W6:Jk X (.builtin "isinstance") (fun xs H Q=>∃ x T t b,xs=[x,.ty T]∧TyOf X.K H x t∧PySem.W.kitOne X.K t (.type T)=some b∧Q (.bl b) H):=by
 intro pins s σ H xs us Q I r h
 obtain ⟨x,T,t,b,rfl,hty,hk,q⟩:=h
 obtain ⟨u,v,rfl,ru,rv⟩:=r.two
 obtain rfl:v=Value.type T:=rv
 exact Zgw I ru hty hk fun tk=>⟨.bl b,H,I.tok _,rfl,q⟩
theorem Vz {K:PySem.W.Frag} {T:String}:PySem.W.kitOne K (.type T) (.type T)=some true:=by
 unfold PySem.W.kitOne
 rw [if_pos (by simp)]
theorem Yh {X:Cx} {scope:Scope} (h:scope.names.all (fun y=>y.2 != .free || X.env.kindOf y.1 == some .cell || X.env.kindOf y.1 == some .free)=true) :
  ∀ y∈scope.names,y.2=.free→X.env.kindOf y.1=some .cell∨X.env.kindOf y.1=some .free:=fun y hy e=>by
 have:=List.all_eq_true.mp h y hy
 simp [e] at this
 exact this
end
theorem walk_r {l:PySem.W.OpenLaw} {k:Nat} {q:Program} {loose:List Str} {XP:(Str→Option Value)→Heap→Prop} {YP:World→Heap→Prop} {d:DefRec} {K:Params→PySem.W.Frag} {spl:PySem.W.Frag→Sp}
  (hn:l.most=some 63) (hdf:d.params.defaults=[]) (hr:Room k callerA) (hY:∀ (w:World) (h:Heap),YP w h→(K w.params).In h)
  (hsp:∀ (K:PySem.W.Frag) (H:Hp) (a:Addr) (ns:List Int),ns.length≤63→SqL K H a (ns.map V.int)→spl K [.ref a] H (fun v _=>v=.bl true) fun _ _ _=>False)
  (F:∀ (w:World) (mg:Str→Option Value) (fa:Addr) (h:Heap),(K w.params).In h→h.Ns mainGlobals mg→mg d.name=some (.ref fa) →
   ∃ fd:FuncData,(∀ (s:Shared) (u:Value),BindsTo s fd ⟨[u],[]⟩ [("_law_script",u)]) ∧
    ∀ base:Heap,(K w.params).In base→base.Ns mainGlobals mg→FnOk l.prog w (K w.params) mg base (CXr l.prog w) k fa fd ["_law_script"] (spl (K w.params))) :
  PySem.W.WalkO q loose XP YP l.row.toRowW d [] (fun f vs=>PySem.call f vs) :=
 Zjx (n:=63) (k:=k) (x:="_law_script") (CX:=fun w=>CXr l.prog w) (sp:=fun w=>spl (K w.params)) hn (by decide) hdf hr hY F (fun w H a ns hl _ hS=>hsp _ H a ns hl hS) (fun w H s e s' h=>Zlp h)
end L2
set_option maxHeartbeats 4000000
namespace L2
open PySem PySem.Spec PyProof.Rows
noncomputable def ExT (e:Addr) (T:Option Addr) (cls a0:Value) (h:Heap):Prop:=match T with
 | some T=>FlyT e T cls a0 h
 | none=>∃ oe vs,h.get? e=some oe∧(oe.cls=cls∧vs[0]?=some a0)∧oe.data=.fields vs∧vs[1]?=some .none
structure FxOk (X:Cx) (pins:List (Addr × Obj)) (H:Hp) (b:Addr):Prop where
 nt:H b=none
 nl:b≠X.env.locals
 nf:b ∉ X.fs
 n0:X.s₀.heap.get? b=none
 nc:∀ x c,X.env.cells.lookup x=some c→c≠b
 np:∀ p∈X.pn ++ pins,p.1≠b
noncomputable def XS (fr:Bool) (X:Cx) (pins:List (Addr × Obj)) (R:Value→St→Hp→Prop) (ev:Value) (s':Shared):Prop :=
 ∃ (e:Addr) (T:Option Addr) (cls a0:Value) (σ':St) (H':Hp),ev=.ref e∧Inv X pins σ' H' s'∧ExT e T cls a0 s'.heap∧FxOk X pins H' e∧(∀ t,T=some t→FxOk X pins H' t)∧(T=none→fr=true)∧R cls σ' H'
noncomputable abbrev TSX:=Ends→(Value→St→Hp→Prop)→St→Hp→Prop
noncomputable abbrev TEX:=St→Hp→VK→XK→Prop
noncomputable def PSX (fr:Bool) (X:Cx) (st:Stmt) (t:TSX):Prop :=
 ∀ (pins:List (Addr × Obj)) (s:Shared) (σ:St) (H:Hp) (D:Ends) (R:Value→St→Hp→Prop),Inv X pins σ H s→t D R σ H→wpAny (model X.prog X.w) X.A (exec st X.env) (SP X pins D) (XS fr X pins R) s
noncomputable def PSsX (fr:Bool) (X:Cx) (st:List Stmt) (t:TSX):Prop :=
 ∀ (pins:List (Addr × Obj)) (s:Shared) (σ:St) (H:Hp) (D:Ends) (R:Value→St→Hp→Prop),Inv X pins σ H s→t D R σ H→wpAny (model X.prog X.w) X.A (execs st X.env) (SP X pins D) (XS fr X pins R) s
noncomputable def PEX (fr:Bool) (X:Cx) (e:Expr) (t:TEX):Prop :=
 ∀ (pins:List (Addr × Obj)) (s:Shared) (σ:St) (H:Hp) (Q:VK) (E:XK),Inv X pins σ H s→t σ H Q E→wpAny (model X.prog X.w) X.A (eval e X.env) (EP X pins σ Q) (XS fr X pins fun cls σ' H'=>σ'=σ∧E cls none H') s
section
variable {X:Cx} {fr:Bool}
theorem Y3 {st:Stmt} {t:TS} (h:PS X st t) (hx:X.xe=(fun _ _=>False):=by rfl):PSX fr X st (fun D _ σ H=>t D σ H):=fun pins s σ H D R I q=>by
 have:=h pins s σ H D I q
 rw [hx] at this
 exact wpAny_mono this (fun _ _ z=>z) fun _ _ z=>z.elim
noncomputable def Znk (t u:TSX):TSX:=fun D R σ H=>t { D with nx:=u D R } R σ H
theorem Z3 {st:Stmt} {rest:List Stmt} {t u:TSX} (h1:PSX fr X st t) (h2:PSsX fr X rest u):PSsX fr X (st :: rest) (Znk t u):=by
 intro pins s σ H D R I h
 refine wpAny_execs_cons (thn (h1 pins s σ H { D with nx:=u D R } R I h) fun f s1 q=>?_)
 cases f with
 | next =>
  obtain ⟨σ',H',I',q⟩:=q
  exact h2 pins s1 σ' H' D R I' q
 | ret v=>exact q
 | brk=>exact q
 | cont=>exact q
theorem Yl {st:Stmt} {t:TSX} (h1:PSX fr X st t):PSsX fr X [st] t:=by
 intro pins s σ H D R I h
 refine wpAny_execs_cons (thn (h1 pins s σ H D R I h) fun f s1 q=>?_)
 cases f with
 | next=>exact wpAny_execs_nil q
 | ret v=>exact q
 | brk=>exact q
 | cont=>exact q
theorem Jo:PSsX fr X [] (fun D _ σ H=>D.nx σ H):=fun _ _ σ H _ _ I h=>wpAny_execs_nil ⟨σ,H,I,h⟩
noncomputable def tIfX (c:TT) (t u:TSX):TSX:=fun D R σ H=>c σ H fun b H1=>if b=true then t D R σ H1 else u D R σ H1
theorem Vj {c:Expr} {a b:List Stmt} {tc:TT} {t u:TSX} {pos:Pos} (hc:PT X c tc) (ha:PSsX fr X a t) (hb:PSsX fr X b u) (hx:X.xe=(fun _ _=>False):=by rfl):PSX fr X (.If c a b pos) (tIfX tc t u):=by
 intro pins s σ H D R I h
 have h0:=hc pins s σ H _ I h
 rw [hx] at h0
 refine wpAny_If (wpAny_mono h0 (fun d s1 zz23=>?_) fun _ _ z=>z.elim)
 obtain ⟨H1,I1,q1⟩:=zz23
 cases d with
 | true=>exact ha pins s1 σ H1 D R I1 q1
 | false=>exact hb pins s1 σ H1 D R I1 q1
noncomputable def Zl7 (te:TEX):TSX:=fun D R σ H=>te σ H (fun _ H1=>D.nx σ H1) fun cls _ H1=>R cls σ H1
theorem Qr {e:Expr} {te:TEX} {pos:Pos} (he:PEX fr X e te) (hs:swapsWith e none pos.line X.env=pure false:=by rfl):PSX fr X (.Expr e pos) (Zl7 te):=by
 intro pins s σ H D R I h
 refine wpAny_Expr_any (wpAny_mono (he pins s σ H _ _ I h) (fun v s1 ⟨x,H1,I1,r1,q1⟩=>⟨σ,H1,I1,q1⟩) ?_) I.quiet hs
 rintro ev s1 ⟨e,T,cls,a0,σ',H',h1,h2,h3,h4,h5,h7,rfl,h6⟩
 exact ⟨e,T,cls,a0,σ',H',h1,h2,h3,h4,h5,h7,h6⟩
noncomputable def Znj (i:Nat) (te:TEX):TSX:=fun D R σ H=>te σ H (fun x H1=>D.nx (σ.set i (some x)) H1) fun cls _ H1=>R cls σ H1
theorem U4 {i:Nat} {x:Str} {e:Expr} {te:TEX} {pos pos':Pos} (hN:X.N.Nodup) (hi:X.N[i]?=some x) (hx:Loc X.env.scope x) (he:PEX fr X e te) (hs:swapsWith e (some (.Name x pos')) pos.line X.env=pure false:=by rfl)
  (hf:X.fn x=true∨X.env.scope.names.lookup x=some .local:=by first | exact .inl rfl | exact .inr rfl | assumption):PSX fr X (.Assign [.Name x pos'] e pos) (Znj i te):=by
 intro pins s σ H D R I h
 refine wpAny_Assign_Name (wpAny_mono (he pins s σ H _ _ I h) (fun v s1 ⟨y,H1,I1,r1,q1⟩=>?_) ?_) hs
 ·exact Oz I1 hN hi hx r1 (fun s2 I2=>⟨_,H1,I2,q1⟩) hf
 ·rintro ev s1 ⟨e,T,cls,a0,σ',H',h1,h2,h3,h4,h5,h7,rfl,h6⟩
  exact ⟨e,T,cls,a0,σ',H',h1,h2,h3,h4,h5,h7,h6⟩
theorem Inv.cxr {pins:List (Addr × Obj)} {σ:St} {H:Hp} {s s':Shared} {E:XK} {ev:Value} (I:Inv X pins σ H s) (hex:X.ex=[]) (h:CXr X.prog X.w X.stack H s E ev s'):XS fr X pins (fun cls σ' H'=>σ'=σ∧E cls none H') ev s':=by
 obtain ⟨e,T,cls,a0,H',rfl,os,bare,un,hok,ne,nT,he,hT,fl,q⟩:=h
 have I':Inv X pins σ H' s':=I.call' os un hok bare fun b hb=>absurd hb (by simp)
 have fx:∀ b,s.heap.get? b=none→H' b=none→FxOk X pins H' b:=fun b hb hn=>by
  refine ⟨hn,fun z=>?_,fun z=>?_,?_,fun x c e z=>?_,fun p hp z=>?_⟩
  ·obtain ⟨m,⟨o,_,_,ho,_⟩,_⟩:=I.loc
   rw [z,ho] at hb; cases hb
  ·obtain ⟨_,o,ho,_⟩:=I.funs.mem z
   rw [ho] at hb; cases hb
  ·cases q:X.s₀.heap.get? b with
   | none=>rfl
   | some o =>
    obtain ⟨o',e'⟩:=I.base.there b o q (by rw [hex]; simp)
    rw [hb] at e'; cases e'
  ·obtain ⟨v,o,ho,_⟩:=I.cell x c e
   rw [z,hb] at ho; cases ho
  ·have:=(I.pin p hp).1
   rw [z,hb] at this; cases this
 exact ⟨e,some T,cls,a0,σ,H',rfl,I',fl,fx e ne he,fun t ht=>by cases ht; exact fx T nT hT,(fun z=>nomatch z),rfl,q⟩
variable {k:Nat} {f C:Addr} {fd:FuncData} {ps:List Str} {sp:Sp} {dvs:List V} {ds:List Value} {x m:Str} {p pos apos:Pos} {e o:Expr} {es:List Expr} {ta:TE} {t:TA}
theorem Zdf {pins:List (Addr × Obj)} {σ:St} {H:Hp} {s:Shared} {Q:VK} {E:XK} {us:List Value} {vs:List V} (F:FnOk X.prog X.w X.K X.mg X.base (CXr X.prog X.w) k f fd ps sp) (hr:Room k X.A) (hb:Wi X.K fd ps ds) (hd:Vals dvs ds) (hex:X.ex=[])
  (I:Inv X pins σ H s) (r:Vals vs us) (h:sp (vs ++ dvs) H Q E):wpAny (model X.prog X.w) X.A (call (.ref f) us) (EP X pins σ Q) (XS fr X pins fun cls σ' H'=>σ'=σ∧E cls none H') s:=by
 have r2:Vals (vs ++ dvs) (us ++ ds):=r.append hd
 have hl:(us ++ ds).length=ps.length:=by rw [← r2.length]; exact F.len _ _ _ _ h
 refine wpAny_call (codeAny_mono (F.run X.A X.stack s H ⟨us,[]⟩ (us ++ ds) (vs ++ dvs) Q E hr I.env0 (hb s us I.kIn hl) r2 h) fun r s' hq=>?_)
 cases r with
 | error e=>exact I.cxr hex hq
 | ok fl =>
  cases fl with
  | ret u=>exact I.after hq
  | next=>exact False.elim hq
  | brk=>exact False.elim hq
  | cont=>exact False.elim hq
noncomputable def Zfg (sp:Sp) (dvs:List V) (t:TA):TEX:=fun σ H Q E=>t σ H fun vs H1=>sp (vs ++ dvs) H1 Q E
theorem Zic (F:FnOk X.prog X.w X.K X.mg X.base (CXr X.prog X.w) k f fd ps sp) (hr:Room k X.A) (hg:Gl X x) (hm:X.mg x=some (.ref f)) (hk:PySem.W.keepIn X.K (.ref f)=true) (hb:Wi X.K fd ps ds) (hd:Vals dvs ds)
  (ha:PA X (e :: es) t) (hex:X.ex=[]:=by rfl) (hx:X.xe=(fun _ _=>False):=by rfl) (hdb:(x == ("__debug__":Str))=false:=by decide) (he:starEach (e :: es) X.env=(false,eval e X.env) :: starEach es X.env:=by rfl) (hpl:(backTo pos (starEach es X.env)).any (·.1)=false:=by rfl) :
  PEX fr X (.Call (.Name x p) (e :: es) [] pos) (Zfg sp dvs t):=by
 intro pins s σ H Q E I h
 have h0:=ha pos pins s σ H _ I h
 rw [hx] at h0
 refine wpAny_Call_Name_kw (Vn I hg hm ?_ hdb)
 refine PySem.W.callWith_K (h₀:=X.base) I.ok.mod.kin hk (wpAny_mono h0 (fun us s1 zz24=>?_) fun _ _ z=>z.elim) he hpl
 obtain ⟨vs,H1,I1,r,q⟩:=zz24
 refine ⟨I1.kIn,?_⟩
 exact Zdf F hr hb hd hex I1 r q
noncomputable def Zl6 (C:Addr) (m:Str) (sp:Sp) (dvs:List V) (ta:TE) (t:TA):TEX:=fun σ H Q E=>ta σ H fun x H1=>∃ a dx fs,x=.ref a∧H1 a=some (.ins C dx fs)∧fs.lookup m=none ∧
 t σ H1 fun vs H2=>sp (x :: (vs ++ dvs)) H2 Q E
theorem Vw {pl:Sem Bool} (he:PE X o ta) (c:Cls X.K C) (hm:Meth X.K C m f) (F:FnOk X.prog X.w X.K X.mg X.base (CXr X.prog X.w) k f fd ps sp) (hr:Room k X.A) (hb:Wi X.K fd ps ds) (hd:Vals dvs ds) (ha:PA X (e :: es) t)
  (hex:X.ex=[]:=by rfl) (hx:X.xe=(fun _ _=>False):=by rfl) (hst:starEach (e :: es) X.env=(false,eval e X.env) :: starEach es X.env:=by rfl) (hpl:(backTo pos (starEach es X.env)).any (·.1)=false:=by rfl)
  (ht:eval (.Call (.Attribute o m apos) (e :: es) [] pos) X.env=(do
   let ov ← eval o X.env
   standAt apos.atName
   let (f,first) ← holding [ov] (getMethod ov m pl)
   callWith pos f first (backTo pos (starEach (e :: es) X.env)) (backToKw pos (keywordEach [] X.env))):=by rfl) :
  PEX fr X (.Call (.Attribute o m apos) (e :: es) [] pos) (Zl6 C m sp dvs ta t):=by
 intro pins s σ H Q E I h
 have h0:=he pins s σ H _ I h
 rw [hx] at h0
 refine PySem.W.methodCall_KW (pl:=pl) (wpAny_mono h0 (fun u s1 zz25=>?_) fun _ _ z=>z.elim) ht
 obtain ⟨x,H1,I1,rx,a,dx,fs,ex,ea,l,q⟩:=zz25
 subst ex
 obtain rfl:u=Value.ref a:=rx
 refine V2 I1 ea c hm l ?_
 have h1:=ha pos pins s1 σ H1 _ I1 q
 rw [hx] at h1
 refine PySem.W.callWith_K (first:=[.ref a]) (h₀:=X.base) I.ok.mod.kin hm.kp (wpAny_mono h1 (fun us s2 zz26=>?_) fun _ _ z=>z.elim) hst hpl
 obtain ⟨vs,H2,I2,r,q2⟩:=zz26
 refine ⟨I2.kIn,?_⟩
 exact Zdf (us:=.ref a :: us) (vs:=.ref a :: vs) F hr hb hd hex I2 (.cons rfl r) q2
end
end L2
set_option maxHeartbeats 4000000
namespace L2
open PySem PySem.Spec PyProof.Rows
theorem Yf.there {P:Program} {w:World} {H:Hp} {h:Heap} {a:Addr}:∀ {o:HO},Yf P w H h a o→∃ ob,h.get? a=some ob
 | .lst _,x=>by obtain ⟨_,_,_,_,e⟩:=x; exact ⟨_,e⟩
 | .tup _,x=>by obtain ⟨_,_,_,ob,e,_⟩:=x; exact ⟨_,e⟩
 | .dK _,x=>by obtain ⟨_,_,_,_,o,_,_,e,_⟩:=x; exact ⟨_,e⟩
 | .dT _,x=>by obtain ⟨_,_,_,_,o,_,_,e,_⟩:=x; exact ⟨_,e⟩
 | .set _ _,x=>by obtain ⟨o,_,_,_,e,_⟩:=x; exact ⟨_,e⟩
 | .ins _ _ _,x=>by obtain ⟨_,_,_,e,_⟩:=x; exact ⟨_,e⟩
 | .own _,x=>by obtain ⟨_,e⟩:=x; exact ⟨_,e⟩
 | .xd _,x=>by obtain ⟨_,⟨_,_,_,e,_⟩,_⟩:=x; exact ⟨_,e⟩
 | .rng _ _,x=>by obtain ⟨_,_,_,e⟩:=x; exact ⟨_,e⟩
 | .frz _ _,x=>by obtain ⟨e,_⟩:=x; exact ⟨_,e⟩
 | .tbl _,x=>⟨_,(show h.get? a=some _ from x)⟩
 | .met _ _,x=>⟨_,(show h.get? a=some _ from x)⟩
 | .ext _,x=>by obtain ⟨_,⟨_,e⟩,_⟩:=x; exact ⟨_,e⟩
section
variable {X:Cx} {pins:List (Addr × Obj)} {σ:St} {H:Hp} {s:Shared}
theorem Inv.untr (I:Inv X pins σ H s) {b:Addr} (hb:s.heap.get? b=none):H b=none:=by
 cases q:H b with
 | none=>rfl
 | some o =>
  obtain ⟨ob,e⟩:=(I.hok b o q).there
  rw [hb] at e; cases e
theorem Inv.fxOk (I:Inv X pins σ H s) (hex:X.ex=[]) {b:Addr} (hb:s.heap.get? b=none):FxOk X pins H b:=by
 refine ⟨I.untr hb,fun z=>?_,fun z=>?_,?_,fun x c e z=>?_,fun p hp z=>?_⟩
 ·obtain ⟨m,⟨o,_,_,ho,_⟩,_⟩:=I.loc
  rw [z,ho] at hb; cases hb
 ·obtain ⟨_,o,ho,_⟩:=I.funs.mem z
  rw [ho] at hb; cases hb
 ·cases q:X.s₀.heap.get? b with
  | none=>rfl
  | some o =>
   obtain ⟨o',e'⟩:=I.base.there b o q (by rw [hex]; simp)
   rw [hb] at e'; cases e'
 ·obtain ⟨v,o,ho,_⟩:=I.cell x c e
  rw [z,hb] at ho; cases ho
 ·have:=(I.pin p hp).1
  rw [z,hb] at this; cases this
end
structure ExcK (K:PySem.W.Frag) (C:Addr) (bmB:List Value) (newId:String):Prop where
 q:PySem.W.excIn K C bmB newId=true
theorem Zll {K:PySem.W.Frag} {h:Heap} {C:Addr} {bmB:List Value} {newId:String} (X:K.In h) (q:PySem.W.excIn K C bmB newId=true) :
  ∃ bm N nm q bs hdct sn sub ab col dd k0 k1 k2 k3 k5 mN,h.get? C=some (excClassObj nm q C N bs bm hdct sn sub ab col dd k0 k1 k2 k3 k5 newId)∧h.Ns N mN∧mN "__init__"=none∧OwnTail h bmB bm:=by
 unfold PySem.W.excIn at q
 split at q
 ·rename_i dd cd sl ho
  split at q
  ·rename_i C' bm k0 k1 k2 k3 n k5 hm hs
   simp only [Bool.and_eq_true,beq_iff_eq,Bool.not_eq_true'] at q
   obtain ⟨⟨⟨⟨⟨rfl,rfl⟩,hdel⟩,ht⟩,hok⟩,hni⟩:=q
   obtain ⟨nm,bs,mro,ns,qn,hd,sn,sub,ab,col,del⟩:=cd
   dsimp only at hm hdel hok hni
   subst hm hdel
   have hsl:sl=#[k0,k1,k2,k3,some (.builtin n),k5]:=by
    obtain ⟨l⟩:=sl
    simp only at hs
    rw [hs]
   subst hsl
   exact ⟨bm,ns,nm,qn,bs,hd,sn,sub,ab,col,dd,k0,k1,k2,k3,k5,_,X _ _ ho,.of_isNs (PySem.W.isNs_of_in X hok),PySem.W.nsMap_none_of_in X hok hni,PySem.W.tail_of_in X ht⟩
  ·cases q
 ·cases q
section
variable {X:Cx}
noncomputable def Zl4 (C:Addr) (t:TA):TSX:=fun _ R σ H=>t σ H fun vs H1=>vs.length≤1000∧R (.ref C) σ H1
theorem Jd {C:Addr} {bmB:List Value} {B newId initId:String} {x:Str} {np cpos pos:Pos} {e:Expr} {es:List Expr} {t:TA} (K:ExcK X.K C bmB newId) (FB:ExcBaseFacts B newId initId bmB) (hg:Gl X x) (hm:X.mg x=some (.ref C)) (hc:X.calm=true) (ha:PA X (e :: es) t)
  (hex:X.ex=[]:=by rfl) (hx:X.xe=(fun _ _=>False):=by rfl) (hdb:(x == ("__debug__":Str))=false:=by decide) (he:starEach (e :: es) X.env=(false,eval e X.env) :: starEach es X.env:=by rfl) (hpl:(backTo cpos (starEach es X.env)).any (·.1)=false:=by rfl) :
  PSX true X (.Raise (some (.Call (.Name x np) (e :: es) [] cpos)) none pos) (Zl4 C t):=by
 intro pins s σ H D R I h
 obtain ⟨tl,N,nm,q,bs,hdct,sn,sub,ab,col,dd,k0,k1,k2,k3,k5,mN,hC,hN,hni,T⟩:=Zll I.ok.mod.kin K.q
 refine wpAny_Raise_call_subT (C:=C) (nm:=nm) (q:=q) (N:=N) (bs:=bs) (bm:=tl) (hdct:=hdct) (sn:=sn) (sub:=sub) (ab:=ab) (col:=col) (dd:=dd) (k0:=k0) (k1:=k1) (k2:=k2) (k3:=k3) (k5:=k5)
  FB (mN:=mN) (T.hasType FB.hasBase) (I.ok.hd hc) (by rw [he]; show (false || (backTo cpos (starEach es X.env)).any (·.1))=false; rw [hpl]; rfl) hni (Vn I hg hm ⟨rfl,?_⟩ hdb)
 have h0:=ha cpos pins s σ H _ I h
 rw [hx] at h0
 rw [he] at h0 ⊢
 refine Calls.evalArgs_plain (wpAny_mono h0 (fun us s₂ zz27=>?_) fun _ _ z=>z.elim)
 obtain ⟨vs,H1,I1,r1,hl,q1⟩:=zz27
 have kb:=I1.bk
 refine ⟨rfl,?_,kb _ _ hC,hN.keeps kb,T.keeps kb,fun h' ea hm'=>?_⟩
 ·rw [← r1.length]
  exact Nat.le_of_lt (Zx hl)
 obtain ⟨tt,h1,h2,h3⟩:=hm'.there
 have I2:Inv X pins σ H1 { s₂ with heap:=h' }:=I1.kept (t':=s₂.toks) hm'.keeps
 have fx:=I1.fxOk hex hm'.new
 exact ⟨ea,none,.ref C,.ref tt,σ,H1,rfl,I2,⟨_,_,h1,⟨rfl,rfl⟩,rfl,rfl⟩,⟨fx.nt,fx.nl,fx.nf,fx.n0,fx.nc,fx.np⟩,(fun t z=>nomatch z),(fun _=>rfl),q1⟩
theorem Un.leave {fs:List Addr} {H₀ H:Hp} {h₀ h h':Heap} (u:Un fs [] H₀ H h₀ h) (hk:∀ b o,h₀.get? b=some o→b ∉ fs→h.get? b=some o→h'.get? b=some o)
  (hs:∀ b o,b∈fs→h.get? b=some o→∃ sl,h'.get? b=some { o with slots:=sl }) (ht:∀ b o,h₀.get? b=some o→∀ o',h.get? b=some o'→∃ o'',h'.get? b=some o''):Un fs [] H₀ H h₀ h' where
 keep:=fun b o e n hb hx=>hk b o e hb (u.keep b o e n hb hx)
 slot:=fun b o e n hb hx=>by
  obtain ⟨sl,e1⟩:=u.slot b o e n hb hx
  obtain ⟨sl',e2⟩:=hs b _ hb e1
  exact ⟨sl',e2⟩
 free:=u.free
 there:=fun b o e hx=>by
  obtain ⟨o',e1⟩:=u.there b o e hx
  exact ht b o e o' e1
 tups:=u.tups
 frzs:=u.frzs
 tbls:=u.tbls
theorem Gs {X:Cx} {pins:List (Addr × Obj)} {σ:St} {H:Hp} {s:Shared} (I:Inv X pins σ H s) (as:List Addr) (hs:∀ b∈frs X.stack,b∈as):s.heap.FunFrames (PySem.W.hideAll s.heap as) X.stack:=by
 have all:∀ (l:List Env),(∀ b∈frs l,b∈as)→s.heap.FunFrames X.base l→s.heap.FunFrames (PySem.W.hideAll s.heap as) l:=by
  intro l
  induction l with
  | nil=>intro _ _; trivial
  | cons env r ih =>
   intro hs hl
   obtain ⟨hk,⟨L,o,hf,hn,ho,hd⟩,hr⟩:=hl
   have hL:L∈as:=hs L (by unfold frs; rw [List.filterMap_cons,hf]; exact List.mem_cons_self)
   exact ⟨hk,⟨L,o,hf,PySem.W.hideAll_none as hL,ho,hd⟩,ih (fun b hb=>hs b (by unfold frs; rw [List.filterMap_cons,hf]; exact List.mem_cons_of_mem _ hb)) hr⟩
 exact all X.stack hs I.stack
theorem Inv.fnd {X:Cx} {pins:List (Addr × Obj)} {σ:St} {H:Hp} {s:Shared} (I:Inv X pins σ H s) {b:Addr} (hb:b∈frs X.stack) {o:Obj} (e:s.heap.get? b=some o):∀ vs,o.data≠.fields vs:=by
 obtain ⟨_,o',e',d⟩:=I.stack.mem hb
 rw [e] at e'; cases e'
 exact d
end
end L2
set_option maxHeartbeats 4000000
namespace L2
open PySem PySem.Spec PyProof.Rows
theorem FxOk.none {X:Cx} {pins:List (Addr × Obj)} {H:Hp} {b:Addr} (h:FxOk X pins H b):FxOk X [] H b:=⟨h.nt,h.nl,h.nf,h.n0,h.nc,fun p hp=>h.np p (by rw [List.append_nil] at hp; exact List.mem_append_left _ hp)⟩
section
variable {P:Program} {w:World} {K:PySem.W.Frag} {mg:Str→Option Value} {base:Heap}
theorem Ziw {N:List Str} {qual:Str} {scope:Scope} {f:Addr} {cd:Value} {A:Around} {outer:List Env} {s s':Shared} {H:Hp} {E:XK} {ev:Value}
  {fr:Bool} (h:XS fr (cxOf (CXr P w) P w K mg base N qual scope f cd A outer s H E).nox [] (fun cls _ H'=>E cls none H') ev s'):(cxOf (CXr P w) P w K mg base N qual scope f cd A outer s H E).xe ev s':=by
 obtain ⟨e,T,cls,a0,σ',H',rfl,I,hx,fe,fT,_,q⟩:=h
 show wpAny (model P w) (A.deeper (envOfC qual scope s.heap.objs.size f cd)) (leaving (envOfC qual scope s.heap.objs.size f cd) (.ref e)) (fun _ s''=>CXr P w outer H s E (.ref e) s'') (fun e' s''=>CXr P w outer H s E e' s'') s'
 have hst:(cxOf (CXr P w) P w K mg base N qual scope f cd A outer s H E).nox.stack=envOfC qual scope s.heap.objs.size f cd :: outer:=rfl
 have hfr:(A.deeper (envOfC qual scope s.heap.objs.size f cd)).frames=some (envOfC qual scope s.heap.objs.size f cd :: outer):=I.ok.frames
 have n0:∀ b,b∈e :: T.toList→s.heap.get? b=none:=fun b hb=>by
  rcases List.mem_cons.mp hb with z | z
  ·rw [z]; exact fe.n0
  ·cases T with
   | none=>simp at z
   | some t =>
    have:b=t:=by simpa using z
    rw [this]; exact (fT t rfl).n0
 have nt:∀ b,b∈e :: T.toList→H' b=none:=fun b hb=>by
  rcases List.mem_cons.mp hb with z | z
  ·rw [z]; exact fe.nt
  ·cases T with
   | none=>simp at z
   | some t =>
    have:b=t:=by simpa using z
    rw [this]; exact (fT t rfl).nt
 have hB:∀ b o,b ∉ e :: T.toList→b ∉ frs (envOfC qual scope s.heap.objs.size f cd :: outer)→s'.heap.get? b=some o→(PySem.W.hideAll s'.heap ((e :: T.toList) ++ frs (envOfC qual scope s.heap.objs.size f cd :: outer))).get? b=some o:=fun b o h1 h2 e1 =>
  PySem.W.hideAll_get _ e1 fun z=>(List.mem_append.mp z).elim h1 h2
 have hl:s'.heap.FunFrames (PySem.W.hideAll s'.heap ((e :: T.toList) ++ frs (envOfC qual scope s.heap.objs.size f cd :: outer))) (envOfC qual scope s.heap.objs.size f cd :: outer):=Gs I _ fun b hb=>List.mem_append_right _ hb
 have hkb:(PySem.W.hideAll s'.heap ((e :: T.toList) ++ frs (envOfC qual scope s.heap.objs.size f cd :: outer))).StaysIn s'.heap:=fun b o e1=>PySem.W.of_hideAll _ e1
 have hen:(PySem.W.hideAll s'.heap ((e :: T.toList) ++ frs (envOfC qual scope s.heap.objs.size f cd :: outer))).get? e=none:=PySem.W.hideAll_none _ (List.mem_append_left _ List.mem_cons_self)
 have fin:∀ h',Heap.LeftW (PySem.W.hideAll s'.heap ((e :: T.toList) ++ frs (envOfC qual scope s.heap.objs.size f cd :: outer))) (envOfC qual scope s.heap.objs.size f cd :: outer) e cls a0 s'.heap h'→CXr P w outer H s E (.ref e) { s' with heap:=h' }:=fun h' ⟨k1,k2,k3,k4⟩=>by
  obtain ⟨oe,vs,T',oT,ts,x1,x2,x3,x4,x5,x6,x7,x8,x9⟩:=k3
  have notfr:∀ b o,b∈frs (envOfC qual scope s.heap.objs.size f cd :: outer)→s'.heap.get? b=some o→∃ sl,h'.get? b=some { o with slots:=sl }:=fun b o hb e1=>k4 b o e1 (I.fnd hb e1)
  have kept:∀ b o,b ∉ e :: T.toList→b ∉ frs (envOfC qual scope s.heap.objs.size f cd :: outer)→s'.heap.get? b=some o→h'.get? b=some o:=fun b o h1 h2 e1=>k1 b o (hB b o h1 h2 e1)
  have nL:∀ b o,s.heap.get? b=some o→b ∉ frs outer→b ∉ frs (envOfC qual scope s.heap.objs.size f cd :: outer):=fun b o e1 h2 z=>by
   have z':b∈s.heap.objs.size :: frs outer:=z
   rcases List.mem_cons.mp z' with z1 | z1
   ·rw [z1] at e1; exact absurd (Heap.lt_size e1) (Nat.lt_irrefl _)
   ·exact h2 z1
  have nE:∀ b o,s.heap.get? b=some o→b ∉ e :: T.toList:=fun b o e1 z=>by rw [n0 b z] at e1; cases e1
  have trk:∀ b u,H' b=some u→∀ o,s'.heap.get? b=some o→h'.get? b=some o:=fun b u hu o e1=>by
   refine kept b o (fun z=>by rw [nt b z] at hu; cases hu) (fun z=>?_) e1
   rw [I.stkFree b z] at hu; cases hu
  have hT':s.heap.get? T'=none∧H' T'=none:=by
   by_cases hz:s'.heap.get? T'=none
   ·refine ⟨?_,I.untr hz⟩
    cases q':s.heap.get? T' with
    | none=>rfl
    | some o =>
     obtain ⟨o',e'⟩:=I.base.there T' o q' (by simp [cxOf])
     rw [hz] at e'; cases e'
   ·obtain ⟨o,ho⟩:=Option.ne_none_iff_exists'.mp hz
    by_cases h1:T'∈e :: T.toList
    ·exact ⟨n0 T' h1,nt T' h1⟩
    ·by_cases h2:T'∈frs (envOfC qual scope s.heap.objs.size f cd :: outer)
     ·exfalso
      obtain ⟨sl,e'⟩:=notfr T' o h2 ho
      rw [x7] at e'
      cases e'
      exact I.fnd h2 ho ts x8
     ·rw [hB T' o h1 h2 ho] at x5; cases x5
  refine ⟨e,T',cls,a0,H',rfl,I.os,I.bare,?_,fun b u hu=>?_,fe.n0,hT'.1,fe.nt,hT'.2,⟨oe,vs,oT,ts,x1,x2,x3,x4,x6,x7,x8,x9⟩,q⟩
  ·refine Un.leave I.base (fun b o e1 h1 e2=>kept b o (nE b o e1) (nL b o e1 h1) e2) (fun b o hb e1=>notfr b o (List.mem_cons_of_mem _ hb) e1) fun b o e1 o' e2=>?_
   by_cases h2:b∈frs outer
   ·obtain ⟨sl,e'⟩:=notfr b o' (List.mem_cons_of_mem _ h2) e2
    exact ⟨_,e'⟩
   ·exact ⟨o',kept b o' (nE b o e1) (nL b o e1 h2) e2⟩
  ·refine (I.hok b u hu).stay (fun c v hc e1=>?_) (fun _ z=>z) fun _ _ z=>z
   rcases hc with z | z
   ·exact trk c u (by rw [z]; exact hu) v e1
   ·exact trk c _ z v e1
 cases T with
 | none =>
  obtain ⟨oe,vs,x1,x2,x3,x4⟩:=hx
  obtain ⟨x21,x22⟩:=x2
  subst x21
  exact wpAny_leaving_firstW hfr hl rfl x1 hkb hen x3 x4 x22 fin
 | some t =>
  obtain ⟨oe,vs,oT,ts,x1,x2,x3,x4,x5,x6,x7,x8⟩:=hx
  exact wpAny_leaving_nextW hfr hl rfl ⟨oe,vs,t,oT,ts,x1,x2,x3,x4,PySem.W.hideAll_none _ (List.mem_append_left _ (by simp)),x5,x6,x7,x8⟩ hkb hen fin
theorem Fun.okX {x qual:Str} {st:Stmt} {f:Addr} {fd:FuncData} {N ps:List Str} {k:Nat} {sp:Sp} (F:Fun K x qual st f fd) (S:FnScope N ps (Zj st)) (len:∀ vs H Q E,sp vs H Q E→vs.length=ps.length)
  (hbody:∀ (cdv:Value) (A:Around) (outer:List Env) (s:Shared) (H:Hp) (vs:List V) (Q:VK) (E:XK),Room k (A.deeper (envOfC qual (Zj st) s.heap.objs.size f cdv))→sp vs H Q E →
   ∃ t,PSsX true (cxOf (CXr P w) P w K mg base N qual (Zj st) f cdv A outer s H E).nox (Yz st) t∧t { nx:=fun _ H'=>Q .non H',rt:=Q } (fun cls _ H'=>E cls none H') (start N vs) H):FnOk P w K mg base (CXr P w) (k + 1) f fd ps sp:=by
 obtain ⟨oc,od,kV,doc,pm,an,cdv,ct,osl,rfl,lk,hcd⟩:=F.ex
 refine Zjv lk hcd S len fun A outer s H vs Q E hr hsp=>?_
 obtain ⟨t,h,q⟩:=hbody cdv A outer s H vs Q E hr hsp
 refine ⟨fun D σ H'=>t D (fun cls _ H''=>E cls none H'') σ H',fun pins s' σ' H' D I hD=>?_,q⟩
 refine wpAny_mono (h pins s' σ' H' D _ (I.wish _) hD) (fun _ _ z=>z.unwish) fun ev s'' z=>Ziw (fr:=true) ?_
 obtain ⟨e,T,cls,a0,σ2,H2,h1,h2,h3,h4,h5,h7,h6⟩:=z
 exact ⟨e,T,cls,a0,σ2,H2,h1,h2.pins_of (fun p hp=>absurd hp (by simp)),h3,h4.none,fun t ht=>(h5 t ht).none,h7,h6⟩
end
end L2
set_option maxHeartbeats 4000000
namespace L2
open PySem PySem.Spec PyProof.Rows
end L2
set_option maxHeartbeats 4000000
namespace L2
open PySem PySem.Spec PyProof.Rows
section
variable {X:Cx} {pins:List (Addr × Obj)} {σ:St} {H:Hp} {s:Shared} {A:Around} {E:Value→Shared→Prop} {a:Addr}
theorem Znc {kvs:List (Key × V)} {k:Key} {d:V} {u r:Value} {Q:Value→Shared→Prop} (I:Inv X pins σ H s) (e:H a=some (.dK kvs)) (hl:kvs.length < sizeLine) (ry:RelV (kV k) u) (rd:RelV d r)
  (h1:∀ v w' s',valV kvs k=some v→Inv X pins σ H s'→RelV v w'→Q w' s') (h2:valV kvs k=none→∀ s',Inv X pins σ (upd H a (.dK (putK kvs k d))) s'→Q r s') :
  wpAny (model X.prog X.w) A (call (.builtin "dict.setdefault") [.ref a,u,r]) Q E s:=by
 obtain ⟨z,hd,vs,rel,dd⟩:=Zjw I.hok e
 have hz:vs.length≤sizeLine:=by rw [← rel.length]; exact z
 refine call_meetsIn PySem.F.slot_dict_setdefault dd.typeIs PySem.F.entry_dict_setdefault (PySem.F.args_dict_setdefault_3 _ _ _) (kt_meets_setdefault (Z9 X.prog X.w) a (V1 ry) hd r) ⟨vs,dd,hz,fun v hv=>?_,fun hv h' dd' hs=>?_⟩
 ·have rel':=rel.val k
  rw [hv] at rel'
  cases q:valV kvs k with
  | none=>rw [q] at rel'; exact rel'.elim
  | some y=>rw [q] at rel'; exact h1 y v _ q (I.tok _) rel'
 ·have rel':=rel.val k
  rw [hv] at rel'
  cases q:valV kvs k with
  | some y=>rw [q] at rel'; exact rel'.elim
  | none =>
   have he:∃ q,h'.get? a=some q:=let ⟨q,_,_,hq,_⟩:=dd'; ⟨q,hq⟩
   have hl2:(putK kvs k d).length≤sizeLine:=by have:=Ow kvs k d; omega
   exact h2 q _ (Zd4 I (by rw [e]; exact True.intro) hs he (Zg8 hl2 hd (rel.put k rd) dd'))
end
noncomputable def Zl8 (td ty tx:TE):TE:=fun σ H Q=>td σ H fun x H1=>∃ a,x=.ref a∧IsD H1 a∧ty σ H1 fun y H2=>tx σ H2 fun z H3=>∃ kvs k,H3 a=some (.dK kvs)∧kvs.length < sizeLine∧y=kV k ∧
 (∀ v,valV kvs k=some v→Q v H3)∧(valV kvs k=none→Q z (upd H3 a (.dK (putK kvs k z))))
section
variable {X:Cx} {o e f:Expr} {apos cpos:Pos} {td ty tx:TE}
theorem Zid (ho:PE X o td) (he:PE X e ty) (hf:PE X f tx) (m:M2 X o "setdefault" apos e f cpos):PE X (.Call (.Attribute o "setdefault" apos) [e,f] [] cpos) (Zl8 td ty tx):=by
 intro pins s σ H Q I h
 refine wpAny_Call_method m.base m.few m.line PySem.F.plainAttrs_dict PySem.F.slot_dict_setdefault PySem.F.type_dict_setdefault (thn (ho pins s σ H _ I h) fun u s1 zz9=>?_)
 obtain ⟨x,H1,I1,rx,a,ex,d,q1⟩:=zz9
 subst ex
 obtain rfl:u=Value.ref a:=rx
 obtain ⟨t1,t2,_⟩:=K6 I1 d
 refine ⟨t1,t2,?_⟩
 rw [m.trees]
 refine Calls.callWith_builtin rfl (Calls.evalArgs_plain (Calls.spliced_cons (thn (he pins s1 σ H1 _ I1 q1) fun iv s2 ⟨y,H2,I2,ry,q2⟩ =>
  Calls.spliced_cons (thn (hf pins s2 σ H2 _ I2 q2) fun fv s3 ⟨z,H3,I3,rz,kvs,k,hk,hl,ey,q3,q4⟩=>Calls.spliced_nil ?_))))
 subst ey
 exact Znc I3 hk hl ry rz (fun v w' s' hv I' rw'=>⟨v,H3,I',rw',q3 v hv⟩) fun hv s' I'=>⟨z,_,I',rz,q4 hv⟩
end
end L2
set_option maxHeartbeats 4000000
namespace L2
open PySem PySem.Spec PyProof.Rows
section
variable {X:Cx} {pins:List (Addr × Obj)} {σ:St} {H:Hp} {s:Shared} {a:Addr}
theorem Inv.freeze {u:HO} {ob:Obj} (I:Inv X pins σ H s) (e:H a=some u) (mu:Mut (some u)) (ho:s.heap.get? a=some ob):Inv X pins σ (upd H a (.frz ob u)) s:=by
 have nown:∀ c y,H c=some (.own y)→c≠a:=fun c y r z=>by subst z; rw [r] at e; cases e; exact mu
 have ntup:∀ c xs,H c=some (.tup xs)→c≠a:=fun c xs r z=>by subst z; rw [r] at e; cases e; exact mu
 have nfrz:∀ c o xs,H c=some (.frz o xs)→c≠a:=fun c o xs r z=>by subst z; rw [r] at e; cases e; exact mu
 have ntbl:∀ c ps,H c=some (.tbl ps)→c≠a:=fun c ps r z=>by subst z; rw [r] at e; cases e; exact mu
 have un:Un X.fs [] H (upd H a (.frz ob u)) s.heap s.heap:=⟨fun _ _ q _ _ _=>q,fun _ o q _ _ _=>⟨o.slots,q⟩,fun b o q n _=>by rw [Zf (fun z=>by rw [z,e] at n; cases n)]; exact n,fun b o q _=>⟨o,q⟩,
  fun b xs q=>by rw [Zf (ntup b xs q)]; exact q,fun b o xs q=>by rw [Zf (nfrz b o xs q)]; exact q,fun b ps q=>⟨#[],by rw [Zf (ntbl b ps q),q]; simp⟩⟩
 have hok:HOk X.prog X.w (upd H a (.frz ob u)) s.heap:=fun b v q=>by
  have st:∀ c w',Yf X.prog X.w H s.heap c w'→Yf X.prog X.w (upd H a (.frz ob u)) s.heap c w':=fun c w' x=>x.stay (fun _ _ _ q=>q) (fun d r=>by rw [Zf (nown d c r)]; exact r) fun d xs r=>by rw [Zf (ntup d xs r)]; exact r
  by_cases hb:b=a
  ·subst hb
   rw [Zb] at q
   cases q
   exact ⟨ho,st _ _ (I.hok _ _ e)⟩
  ·rw [Zf hb] at q
   exact st _ _ (I.hok b v q)
 exact I.un (h':=s.heap) (t':=s.toks) un hok
end
section
theorem KV.at {kvs:List (Key × V)} {vs:List (Key × Value)} (r:KV kvs vs):∀ {i:Nat} {k:Key} {v:V},kvs[i]?=some (k,v)→∃ u,vs[i]?=some (k,u)∧RelV v u:=by
 induction r with
 | nil=>intro i k v h; simp at h
 | cons r t ih =>
  intro i k v h
  cases i with
  | zero =>
   simp at h
   subst h
   exact ⟨_,by rw [List.getElem?_cons_zero]; exact congrArg some (Prod.ext r.1.symm rfl),r.2⟩
  | succ i =>
   obtain ⟨u,h1,h2⟩:=ih (by simpa using h)
   exact ⟨u,by simpa using h1,h2⟩
theorem Znz {P:Program} {w:World} {k:Key} {u:Value} (h:(Z9 P w).is k u=true):RelV (kV k) u:=by
 cases k with
 | inl i=>obtain ⟨t,e⟩:=Value.isInt_shape (k:=i) (v:=u) h; exact ⟨t,e⟩
 | inr x=>obtain ⟨t,e⟩:=Value.isStrOf_shape (x:=x) (v:=u) h; exact ⟨t,e⟩
theorem Jw {X:Cx} {pins:List (Addr × Obj)} {σ:St} {H:Hp} {s:Shared} {d:Addr} {o:Obj} {kvs:List (Key × V)} (I:Inv X pins σ H s) (e:H d=some (.frz o (.dK kvs))) :
  ∃ vs ep,KV kvs vs∧s.heap.DictAt (Z9 X.prog X.w) d vs ep∧s.heap.get? d=some o:=by
 obtain ⟨ho,_,_,vs,rel,dd⟩:=I.hok d _ e
 obtain ⟨ep,da⟩:=dd.dictAt
 exact ⟨vs,ep,rel,da,ho⟩
noncomputable def epOf (o:Obj):Nat:=match o.data with
 | .dict _ ep=>ep
 | _=>0
theorem Oc {P:Program} {w:World} {h:Heap} {d:Addr} {o:Obj} {vs:List (Key × Value)} {ep:Nat} (da:h.DictAt (Z9 P w) d vs ep) (ho:h.get? d=some o):ep=epOf o:=by
 obtain ⟨o',es,h1,_,h2,_⟩:=da
 rw [ho] at h1
 cases h1
 unfold epOf
 rw [h2]
theorem Zfd {P:Program} {w:World} {K:PySem.W.Frag} {tg:Expr} (d it:Addr) (kvs:List (Key × V)) (o:Obj) :
  Turn P w K tg ⟨fun i H=>i < kvs.length∧H d=some (.frz o (.dK kvs)),fun i H x H'=>H'=H∧∃ k,kvs[i]?=some (k,x),fun i H=>kvs.length≤i∧H d=some (.frz o (.dK kvs))⟩ [it] it (fun i h=>h.IsValIter it d i kvs.length (epOf o)) where
 mem:=by simp
 obj:=fun i h st b hb=>by
  have e:b=it:=by simpa using hb
  subst e
  obtain ⟨o,e,c,d⟩:=st
  exact ⟨o,e,fun v z=>by rw [d] at z; cases z⟩
 keep:=fun i h h' st k=>st.at fun o e=>k it (by simp) o e
 item:=by
  intro X hP hw hK hc i pins s σ H E I hf st hg
  subst hP hw hK
  obtain ⟨hi,hq⟩:=hg
  obtain ⟨vs,ep,rel,da,ho⟩:=Jw I hq
  have hep:=Oc da ho
  subst hep
  obtain ⟨f0,f1,f2,f3,f4,f5⟩:=hf it (by simp)
  obtain ⟨⟨k,v⟩,hx⟩:∃ p,kvs[i]?=some p:=⟨_,List.getElem?_eq_getElem hi⟩
  obtain ⟨u,hu,ru⟩:=rel.at hx
  have hlen:vs.length=kvs.length:=rel.length.symm
  rw [← hlen] at st
  refine wpAny_pyNext_values_item st da hu fun h' st' sb=>?_
  have I1:Inv X pins σ H { s with heap:=h' }:=I.turned (t':=s.toks) (fun b o hb e=>(sb.2 b hb).trans e) f0 f1 f3 f4 f5
  rw [hlen] at st'
  obtain ⟨oi,e,c,dd⟩:=id st'
  exact ⟨u,rfl,Ob (s:={ s with heap:=h' }) e c dd (by decide) ⟨v,H,I1,ru,⟨rfl,k,hx⟩,st',fun b hb=>(hf b hb).1⟩⟩
 done:=by
  intro X hP hw hK hc i pins s σ H E I hf st hg
  subst hP hw hK
  obtain ⟨hi,hq⟩:=hg
  obtain ⟨vs,ep,rel,da,ho⟩:=Jw I hq
  have hep:=Oc da ho
  subst hep
  obtain ⟨f0,f1,f2,f3,f4,f5⟩:=hf it (by simp)
  have hlen:vs.length=kvs.length:=rel.length.symm
  rw [← hlen] at st
  exact wpAny_pyNext_values_end (I.ok.hd hc) st da (by rw [List.getElem?_eq_none]; omega) fun h' eb=>⟨rfl,I.turned (t':=s.toks) (fun b o hb e=>eb b o hb e) f0 f1 f3 f4 f5⟩
 self:=fun _ _ _ _ _ st h=>wpAny_pyIter_valiter st h
end
end L2
set_option maxHeartbeats 4000000
namespace L2
open PySem PySem.Spec PyProof.Rows
section
variable {X:Cx} {tg:Expr} {l:Expr} {tl:TE}
noncomputable def Itv2 (d:Addr) (kvs:List (Key × V)) (o:Obj):It:=⟨fun i H=>i < kvs.length∧H d=some (.frz o (.dK kvs)),fun i H x H'=>H'=H∧∃ k,kvs[i]?=some (k,x),fun i H=>kvs.length≤i∧H d=some (.frz o (.dK kvs))⟩
noncomputable def Zjt (J:Addr→List (Key × V)→Obj→It) (tl:TE):TI:=fun σ H R=>tl σ H fun x H1=>∃ a kvs,x=.ref a∧((H1 a=some (.dK kvs)∧∀ o,R (J a kvs o) (upd H1 a (.frz o (.dK kvs))))∨∃ o,H1 a=some (.frz o (.dK kvs))∧R (J a kvs o) H1)
theorem Zcd {pins:List (Addr × Obj)} {σ:St} {H:Hp} {s:Shared} {a:Addr} {kvs:List (Key × V)} {R:Obj→Hp→Prop} (I:Inv X pins σ H s)
  (h:(H a=some (.dK kvs)∧∀ o,R o (upd H a (.frz o (.dK kvs))))∨∃ o,H a=some (.frz o (.dK kvs))∧R o H):∃ o H',H' a=some (.frz o (.dK kvs))∧Inv X pins σ H' s∧R o H':=by
 rcases h with ⟨e,r⟩ | ⟨o,e,r⟩
 ·obtain ⟨ob,ho⟩:=(I.hok a _ e).there
  exact ⟨ob,_,Zb,I.freeze e True.intro ho,r ob⟩
 ·exact ⟨o,H,e,I,r⟩
structure M0 (X:Cx) (o:Expr) (m:Str) (apos cpos:Pos):Prop where
 base:attributeBase o m X.env (eval o X.env)=eval o X.env
 few:((backTo cpos (starEach [] X.env)).all (fun x=>!x.1) && (backToKw cpos (keywordEach [] X.env)).all (fun x=>x.1.isSome)
  && decide (([]:List Expr).length + ([]:List Keyword).length + (if ([]:List Keyword).isEmpty then 0 else 1) < 30))=true
 line:(apos.endLine == cpos.line)=true
theorem Zkt {apos cpos:Pos} (hl:PE X l tl) (m:M0 X l "values" apos cpos):PI X tg (.Call (.Attribute l "values" apos) [] [] cpos) (Zjt Itv2 tl):=by
 intro pins s σ H R I h
 refine wpAny_Call_method m.base m.few m.line PySem.F.plainAttrs_dict PySem.F.slot_dict_values PySem.F.type_dict_values (thn (hl pins s σ H _ I h) fun v s1 zz9=>?_)
 obtain ⟨x,H1,I1,r1,q1⟩:=zz9
 obtain ⟨a,kvs,e,q⟩:=q1
 subst e
 cases r1
 obtain ⟨o,H2,e2,I2,q2⟩:=Zcd (R:=fun o H=>R (Itv2 a kvs o) H) I1 q
 obtain ⟨vs,ep,rel,da,ho⟩:=Jw I2 e2
 have hep:=Oc da ho
 subst hep
 obtain ⟨_,_,hsys,_⟩:=I2.hok a _ e2
 have isd:IsD H2 a:=.inl ⟨kvs,.inr ⟨o,e2⟩⟩
 obtain ⟨t1,t2,_⟩:=K6 I2 isd
 refine ⟨t1,t2,?_⟩
 refine Calls.callWith_builtin rfl (PyProof.Rows.evalArgs_empty ?_)
 refine call_meetsIn PySem.F.slot_dict_values da.dictOf.typeIs PySem.F.entry_dict_values (PySem.F.args_dict_values_1 _) (meets_dict_values (Z9 X.prog X.w) a hsys) ⟨⟨vs,da.dictOf⟩,?_⟩
 have I3:Inv X pins σ H2 { s1 with heap:=s1.heap.push { cls:=.type "dict_values",data:=.fields #[.ref a] } }:=I2.kept (t':=s1.toks) fun b o e=>Heap.get?_push_of_some _ e
 refine wpAny_pyIter_values ⟨_,Heap.get?_push_size _ rfl,rfl,rfl⟩ (da.push _) ?_
 have hlen:vs.length=kvs.length:=rel.length.symm
 rw [hlen]
 refine ⟨(s1.heap.push { cls:=.type "dict_values",data:=.fields #[.ref a] }).objs.size,[(s1.heap.push { cls:=.type "dict_values",data:=.fields #[.ref a] }).objs.size],_,_,H2,rfl,I3.kept (t':=s1.toks) fun b o e=>Heap.get?_push_of_some _ e,Zfd a _ kvs o,⟨_,Heap.get?_push_size _ rfl,rfl,rfl⟩,fun b hb=>?_,q2⟩
 have e:b=(s1.heap.push { cls:=.type "dict_values",data:=.fields #[.ref a] }).objs.size:=by simpa using hb
 subst e
 exact I3.fpOk (Nat.le_refl _) (I3.hok.fresh (Nat.le_refl _))
end
section
noncomputable def Ite (K:PySem.W.Frag) (a:Addr):It :=
 ⟨fun i H=>∃ xs x,SqL K H a xs∧xs[i]?=some x,fun i H x H'=>∃ q y,H q=none∧x=.ref q∧(∀ xs,SqL K H a xs→xs[i]?=some y)∧H'=upd H q (.tup [.int i,y]),fun i H=>∃ xs,SqL K H a xs∧xs.length≤i⟩
theorem Zff {P:Program} {w:World} {K:PySem.W.Frag} {elts:List Expr} {x1:Nat} {pos:Pos} (a e it:Addr) (hne:e≠it):Turn P w K (.Tuple elts x1 pos) (Ite K a) [e,it] e (fun i h=>(∃ old,IsEnum h e it i old)∧h.IsListIter it a i) where
 mem:=by simp
 obj:=fun i h st b hb=>by
  obtain ⟨⟨old,h1⟩,o,h2,c,d⟩:=st
  rcases List.mem_cons.mp hb with z | z
  ·subst z
   exact ⟨_,h1,fun v z=>by
    have z':Data.fields _=Data.cell v:=z
    cases z'⟩
  ·have z:b=it:=by simpa using z
   subst z
   exact ⟨o,h2,fun v z=>by rw [d] at z; cases z⟩
 keep:=fun i h h' st k=>⟨let ⟨old,h1⟩:=st.1; ⟨old,k e (by simp) _ h1⟩,st.2.at fun o q=>k it (by simp) o q⟩
 item:=by
  intro X hP hw hK hc i pins s σ H E I hf st hg
  subst hP hw hK
  obtain ⟨xs,x,hq,hx⟩:=hg
  obtain ⟨its,rv,p,hz⟩:=I.list hq
  obtain ⟨u,hu,ru⟩:=rv.get hx
  obtain ⟨f0,f1,f2,f3,f4,f5⟩:=hf e (by simp)
  obtain ⟨g0,g1,g2,g3,g4,g5⟩:=hf it (by simp)
  obtain ⟨⟨old,he⟩,hit⟩:=st
  refine wpAny_pyNext_enum_item he hit p.isList (x:=u) (by simpa using hu) hne fun h' ho' hit' ht' hsz' kk=>?_
  have eo:=Heap.lt_size he
  have io:it < s.heap.objs.size:=let ⟨o,q,_⟩:=hit; Heap.lt_size q
  refine ⟨.ref s.heap.objs.size,rfl,wpAny_letOwnedTupleGo_enum ho' fun h'' he'' sb=>?_⟩
  have keepb:∀ b o,b≠e→b≠it→s.heap.get? b=some o→h''.get? b=some o:=fun b o h1 h2 q=>(sb.2 b h1).trans (kk b o h1 h2 q)
  have ht'':h''.get? s.heap.objs.size=some { cls:=.type "tuple",data:=.seq #[.int i s.toks,u] }:=(sb.2 _ (Nat.ne_of_gt eo)).trans ht'
  have hn:H s.heap.objs.size=none:=I.hok.fresh (Nat.le_refl _)
  have I2:Inv X pins σ (upd H s.heap.objs.size (.tup [.int i,x])) { s with heap:=h'',toks:=s.toks + 1 }:=by
   refine I.step (g':=s.gens) (d':=s.drawn) (ch:=[e,it]) (fun b hb=>?_) (fun b o _ _ hc q _=>keepb b o (fun z=>hc (by simp [z])) (fun z=>hc (by simp [z])) q) (fun b o _ _ hc q _=>⟨o.slots,keepb b o (fun z=>hc (by simp [z])) (fun z=>hc (by simp [z])) q⟩) (fun b o _ q n=>by rw [Zf (Nat.ne_of_lt (Heap.lt_size q))]; exact n)
    (fun b o hc q=>⟨o,keepb b o (fun z=>hc (by simp [z])) (fun z=>hc (by simp [z])) q⟩) (fun b ys q=>by rw [Zf (Zk q hn)]; exact q) (fun b o ys q=>by rw [Zf (Zk q hn)]; exact q) (fun b ps q=>⟨#[],by rw [Zf (Zk q hn),q]; simp⟩) (fun m hm=>?_) (fun b v q=>?_) I.bare
   ·rcases List.mem_cons.mp hb with z | z
    ·subst z; exact ⟨f3,f1,f4,f5⟩
    ·have z:b=it:=by simpa using z
     subst z; exact ⟨g3,g1,g4,g5⟩
   ·obtain ⟨o,es,ep,ho,r⟩:=hm
    exact ⟨o,es,ep,keepb _ o (Ne.symm f1) (Ne.symm g1) ho,r⟩
   ·by_cases hb:b=s.heap.objs.size
    ·subst hb
     rw [Zb] at q
     cases q
     exact ⟨by show 2≤sizeLine; decide,[.int i s.toks,u],.cons ⟨_,rfl⟩ (.cons ru .nil),⟨_,ht'',rfl,_,rfl⟩⟩
    ·rw [Zf hb] at q
     refine (I.hok b v q).stay (fun c w' hc z=>keepb c w' ?_ ?_ z) (fun d z=>by rw [Zf (Zk z hn)]; exact z) fun d ys z=>by rw [Zf (Zk z hn)]; exact z
     ·rintro rfl
      rcases hc with z | z
      ·rw [z,q] at f0; cases f0
      ·rw [f0] at z; cases z
     ·rintro rfl
      rcases hc with z | z
      ·rw [z,q] at g0; cases g0
      ·rw [g0] at z; cases z
  refine ⟨.ref s.heap.objs.size,_,I2,rfl,⟨_,x,hn,rfl,fun ys hy=>by rw [I.list_inj hy hq]; exact hx,rfl⟩,⟨⟨u,he''⟩,hit'.at fun o q=>(sb.2 it (Ne.symm hne)).trans q⟩,fun b hb=>?_⟩
  rcases List.mem_cons.mp hb with z | z
  ·subst z; rw [Zf (Nat.ne_of_lt eo)]; exact f0
  ·have z:b=it:=by simpa using z
   subst z; rw [Zf (Nat.ne_of_lt io)]; exact g0
 done:=by
  intro X hP hw hK hc i pins s σ H E I hf st hg
  subst hP hw hK
  obtain ⟨xs,hq,hx⟩:=hg
  obtain ⟨its,rv,p,hz⟩:=I.list hq
  obtain ⟨g0,g1,g2,g3,g4,g5⟩:=hf it (by simp)
  obtain ⟨⟨old,he⟩,hit⟩:=st
  have hl:=rv.length
  exact wpAny_pyNext_enum_end (I.ok.hd hc) he hit p.isList (by simp; omega) fun h' eb=>⟨rfl,I.turned (t':=s.toks) (fun b o hb e=>eb b o hb e) g0 g1 g3 g4 g5⟩
 self:=fun _ _ _ _ _ st h=>by
  obtain ⟨⟨old,he⟩,_⟩:=st
  exact wpAny_pyIter_enum he h
variable {X:Cx}
noncomputable def Zn4 (K:PySem.W.Frag) (ta:TA):TI:=fun σ H R=>ta σ H fun vs H1=>∃ a,vs=[.ref a]∧(∃ xs,SqL K H1 a xs)∧R (Ite K a) H1
theorem Zkv {elts:List Expr} {x1:Nat} {tpos p pos:Pos} {l:Expr} {ta:TA} (hg:Gl X "enumerate") (hm:X.mg "enumerate"=none) (ha:PA X [l] ta) (hs:starEach [l] X.env=[(false,eval l X.env)]:=by rfl):PI X (.Tuple elts x1 tpos) (.Call (.Name "enumerate" p) [l] [] pos) (Zn4 X.K ta):=by
 intro pins s σ H R I h
 refine Call_ (X2 I hg hm boot_enumerate (PyProof.Rows.callWith_type1 (thn (ha pos pins s σ H _ I h) fun us s1 zz28=>?_) hs rfl))
 obtain ⟨vs,H1,I1,r1,q1⟩:=zz28
 obtain ⟨a,e,⟨xs,hq⟩,q⟩:=q1
 subst e
 obtain ⟨u,rfl,ru⟩:=Jz r1
 cases ru
 obtain ⟨its,rv,pl,hz⟩:=I1.list hq
 refine call_enumerate_list pl.isList fun h' he hit hsz hk=>wpAny_pyIter_enum he ?_
 have I2:Inv X pins σ H1 { s1 with heap:=h' }:=I1.kept (t':=s1.toks) hk
 refine ⟨s1.heap.objs.size + 1,[s1.heap.objs.size + 1,s1.heap.objs.size],_,_,H1,rfl,I2,Zff a _ _ (Nat.succ_ne_self _),⟨⟨.none,he⟩,hit⟩,fun b hb=>?_,q⟩
 rcases List.mem_cons.mp hb with z | z
 ·subst z; exact I1.fpOk (Nat.le_succ _) (I1.hok.fresh (Nat.le_succ _))
 ·have z:b=s1.heap.objs.size:=by simpa using z
  subst z; exact I1.fpOk (Nat.le_refl _) (I1.hok.fresh (Nat.le_refl _))
theorem Zi7 {K:PySem.W.Frag} {a:Addr} {xs:List V} {g:TG} {tb:TS} {D:Ends} {σ:St} {H:Hp} (Pv:Nat→St→Hp→Prop) (h0:Pv 0 σ H) (hl:∀ i σ H,i≤xs.length→Pv i σ H→SqL K H a xs)
  (hs:∀ i x σ H q,xs[i]?=some x→H q=none→Pv i σ H→g (.ref q) σ (upd H q (.tup [.int i,x])) fun σ2 H2=>tb { D with nx:=Pv (i + 1),ct:=Pv (i + 1),bk:=D.nx } σ2 H2) (hd:∀ σ H,Pv xs.length σ H→D.nx σ H) :
  ∃ W:Nat→Nat→St→Hp→Prop,(∃ m,W 0 m σ H)∧∀ i m σ H,W i m σ H →
   ((Ite K a).stop i H∧D.nx σ H)∨((Ite K a).go i H∧∃ N:St→Hp→Prop,(∀ σ' H',N σ' H'→∃ m',m' < m∧W (i + 1) m' σ' H')∧∀ x H',(Ite K a).yld i H x H'→g x σ H' fun σ2 H2=>tb { D with nx:=N,ct:=N,bk:=D.nx } σ2 H2):=by
 refine ⟨fun i m σ H=>m=xs.length - i∧i≤xs.length∧Pv i σ H,⟨xs.length,by simp,Nat.zero_le _,h0⟩,?_⟩
 rintro i m σ H ⟨rfl,hi,p⟩
 have q:=hl i σ H hi p
 by_cases hlt:i < xs.length
 ·refine .inr ⟨⟨xs,xs[i],q,by simp [hlt]⟩,Pv (i + 1),fun σ' H' p'=>⟨xs.length - (i + 1),by omega,rfl,hlt,p'⟩,fun x H' y=>?_⟩
  obtain ⟨c,z,hn,e1,e2,e3⟩:=y
  subst e1 e3
  exact hs i z σ H c (e2 xs q) hn p
 ·have e:i=xs.length:=by omega
  subst e
  exact .inl ⟨⟨xs,q,Nat.le_refl _⟩,hd σ H p⟩
theorem Zi6 {d:Addr} {kvs:List (Key × V)} {o:Obj} {g:TG} {tb:TS} {D:Ends} {σ:St} {H:Hp} (Pv:Nat→St→Hp→Prop) (h0:Pv 0 σ H) (hl:∀ i σ H,i≤kvs.length→Pv i σ H→H d=some (.frz o (.dK kvs)))
  (hs:∀ i k x σ H,kvs[i]?=some (k,x)→Pv i σ H→g x σ H fun σ2 H2=>tb { D with nx:=Pv (i + 1),ct:=Pv (i + 1),bk:=D.nx } σ2 H2) (hd:∀ σ H,Pv kvs.length σ H→D.nx σ H) :
  ∃ W:Nat→Nat→St→Hp→Prop,(∃ m,W 0 m σ H)∧∀ i m σ H,W i m σ H →
   ((Itv2 d kvs o).stop i H∧D.nx σ H)∨((Itv2 d kvs o).go i H∧∃ N:St→Hp→Prop,(∀ σ' H',N σ' H'→∃ m',m' < m∧W (i + 1) m' σ' H')∧∀ x H',(Itv2 d kvs o).yld i H x H'→g x σ H' fun σ2 H2=>tb { D with nx:=N,ct:=N,bk:=D.nx } σ2 H2):=by
 refine ⟨fun i m σ H=>m=kvs.length - i∧i≤kvs.length∧Pv i σ H,⟨kvs.length,by simp,Nat.zero_le _,h0⟩,?_⟩
 rintro i m σ H ⟨rfl,hi,p⟩
 have q:=hl i σ H hi p
 by_cases hlt:i < kvs.length
 ·refine .inr ⟨⟨hlt,q⟩,Pv (i + 1),fun σ' H' p'=>⟨kvs.length - (i + 1),by omega,rfl,hlt,p'⟩,fun x H' y=>?_⟩
  obtain ⟨e,k,y⟩:=y
  subst e
  exact hs i k x σ _ y p
 ·have e:i=kvs.length:=by omega
  subst e
  exact .inl ⟨⟨Nat.le_refl _,q⟩,hd σ H p⟩
noncomputable def Zj3 (ta:TA):TE:=fun σ H Q=>ta σ H fun vs H1=>∃ n:Nat,vs=[.int n]∧n≤1000∧∀ p,H1 p=none→Q (.ref p) (upd H1 p (.lst ((List.range n).map fun (i:Nat)=>V.int i)))
theorem Qs {a:Expr} {ta:TA} {p1 p2 pos pos2:Pos} (hgl:Gl X "list") (hml:X.mg "list"=none) (hg:Gl X "range") (hm:X.mg "range"=none) (hc:X.calm=true) (ha:PA X [a] ta) (hs:starEach [a] X.env=[(false,eval a X.env)]:=by rfl)
  (hs2:starEach [.Call (.Name "range" p2) [a] [] pos2] X.env=[(false,eval (.Call (.Name "range" p2) [a] [] pos2) X.env)]:=by rfl):PE X (.Call (.Name "list" p1) [.Call (.Name "range" p2) [a] [] pos2] [] pos) (Zj3 ta):=by
 intro pins s σ H Q I h
 refine Call_ (X2 I hgl hml PySem.Pv.boot_list (PyProof.Rows.callWith_type1 ?_ hs2 rfl))
 rw [hs2]
 refine Calls.spliced_cons ?_
 refine Call_ (X2 I hg hm boot_range (PyProof.Rows.callWith_type1 (thn (ha pos2 pins s σ H _ I h) fun us s1 zz29=>?_) hs rfl))
 obtain ⟨vs,H1,I1,r1,q1⟩:=zz29
 obtain ⟨n,e,hn,q⟩:=q1
 subst e
 obtain ⟨u,rfl,ru⟩:=Jz r1
 obtain ⟨t,rfl⟩:=ru
 refine call_range_1 (Calls.spliced_nil ?_)
 have hr:Builtin.Range.rangeSize 0 (n:Int) 1=n:=by rw [rangeSize_one]; split <;> omega
 refine call_list_range (I.ok.hd hc) (IsRange.new ..) (small_one (by omega) (by omega) (by omega) (by omega)) hr (by omega) fun h' tk acc c' hk hS hacc=>?_
 have hk1:∀ b o,s1.heap.get? b=some o→h'.get? b=some o:=fun b o e=>hk b o (Heap.get?_push_of_some _ e)
 have hv:Vals ((List.range n).map fun (i:Nat)=>V.int i) acc.toList:=by
  have gen:∀ (l:List Value) (k:Nat),(∀ (j:Nat) (v:Value),l[j]?=some v→∃ t,v=.int ((k + j:Nat):Int) t)→Vals ((List.range' k l.length).map fun (i:Nat)=>V.int i) l:=by
   intro l
   induction l with
   | nil=>intro k _; exact .nil
   | cons v r ih =>
    intro k h
    obtain ⟨t,e⟩:=h 0 v rfl
    rw [List.length_cons,List.range'_succ,List.map_cons]
    refine .cons ⟨t,by rw [e]; rfl⟩ (ih (k + 1) fun j w hw=>?_)
    obtain ⟨t',e'⟩:=h (j + 1) w (by simpa using hw)
    exact ⟨t',by rw [e']; congr 1; omega⟩
  have hl:acc.toList.length=n:=by rw [Array.length_toList]; exact hacc.1
  have:=gen acc.toList 0 fun j v hj=>by
   obtain ⟨t,e⟩:=hacc.2 j v (by rw [← Array.getElem?_toList]; exact hj)
   exact ⟨t,by rw [e]; congr 1; omega⟩
  rw [hl,← List.range_eq_range'] at this
  exact this
 have hle:s1.heap.objs.size≤(s1.heap.push { cls:=.type "range",data:=.fields #[.int 0 s1.toks,.int (n:Int) t,.int 1 (s1.toks + 1)] }).objs.size:=by rw [Heap.size_push]; exact Nat.le_succ _
 refine ⟨.ref _,upd H1 _ (.lst ((List.range n).map fun (i:Nat)=>V.int i)),I1.laid hk1 (Nat.le_of_lt (by first | exact Nat.lt_of_le_of_lt hle (Heap.lt_size hS) | (rw [Heap.size_push]; exact Nat.lt_succ_self _))) ⟨?_,acc.toList,c',hv,?_⟩,rfl,q _ (I1.hok.fresh ?_)⟩
 ·rw [List.length_map,List.length_range,sizeLine_eq]; omega
 ·simpa using hS
 ·rw [Heap.size_push]; exact Nat.le_succ _
end
end L2
set_option maxHeartbeats 4000000
namespace L2
open PySem PySem.Spec PyProof.Rows
noncomputable abbrev TJ:=Str→TE
end L2
set_option maxHeartbeats 4000000
namespace L2
open PySem PySem.Spec PyProof.Rows
section
variable {X:Cx}
theorem Yw (K:PySem.W.Frag) (h:X.K=K:=by rfl):IxR X (rIxL K):=h ▸ Zs
theorem Zdw (K:PySem.W.Frag) (h:X.K=K:=by rfl):IxR X (rIxT K):=h ▸ Jh
theorem Vq (K:PySem.W.Frag) (h:X.K=K:=by rfl):Jk X (.type "tuple") (fun xs H Q=>∃ p ys,xs=[.ref p]∧((SqL K H p ys∧∀ l,H l=none→Q (.ref l) (upd H l (.tup ys)))∨(SqT K H p ys∧Q (.ref p) H))):=h ▸ F9
variable {tg l e:Expr} {tl ta:TE} {f:Str} {pos:Pos}
theorem Zia (K:PySem.W.Frag) (hl:PE X l tl) (h:X.K=K:=by rfl):PI X tg l (Zjs K tl):=h ▸ Yt hl
theorem Zdk (K:PySem.W.Frag) (hl:PE X l tl) (h:X.K=K:=by rfl):PI X tg l (iTup K tl):=h ▸ Zf4 hl
end
end L2
set_option maxHeartbeats 4000000
namespace L2
open PySem PySem.Spec PyProof.Rows
section
variable {prog:Program} {w:World} {A:Around} {E:Value→Shared→Prop}
theorem Zn6 {it l:Addr} {xs:Array Value} (ne:l≠it) (k:Nat):∀ (i:Nat) (s:Shared) (Q:List Value→Shared→Prop),s.heap.IsListIter it l i→s.heap.IsList l xs→i + k≤xs.size →
  (∀ h',h'.IsListIter it l (i + k)→Heap.SameBut it s.heap h'→Q ((xs.toList.drop i).take k) { s with heap:=h' })→wpAny (model prog w) A (draw (.ref it) k) Q E s:=by
 induction k with
 | zero =>
  intro i s Q a b c q
  have z:=q s.heap a (Heap.SameBut.refl ..)
  rw [List.take_zero] at z
  exact wpAny_pure z
 | succ k ih =>
  intro i s Q a b c q
  have lt:i < xs.size:=by omega
  refine wpAny_bind (m:=pyNext (.ref it)) (wpAny_pyNext_list_item a b (x:=xs[i]) (by simp [lt]) fun g st sb=>?_)
  refine wpAny_bind (wpAny_holding (ih (i + 1) _ _ st (b.extBut sb.extBut ne) (by omega) fun g2 st2 sb2=>wpAny_pure ?_))
  have z:=q g2 (by rw [Nat.add_right_comm] at st2; exact st2) (sb.trans sb2)
  rwa [List.drop_eq_getElem_cons (by simpa using lt),List.take_succ_cons,Array.getElem_toList] at z
theorem Zj0 {l:Addr} {xs:Array Value} {s:Shared} {Q:List Value→Shared→Prop} (hc:A.handled=none) (b:s.heap.IsList l xs)
  (q:∀ h',Heap.ExtBut s.heap.objs.size s.heap h'→Q xs.toList { s with heap:=h' }):wpAny (model prog w) A (unpackItems (.ref l) xs.size none) Q E s:=by
 have ne:l≠s.heap.objs.size:=by obtain ⟨o,ho,_⟩:=b; exact Nat.ne_of_lt (Heap.lt_size ho)
 unfold unpackItems notIterableAtAll
 refine wpAny_bind (wpAny_bind (wpAny_specialOf b.typeIs PySem.F.slot_list_iter.lookup (wpAny_pure ?_)))
 rw [if_neg (by decide)]
 refine wpAny_bind (wpAny_holding (wpAny_pyIter_list b ?_))
 refine wpAny_bind (wpAny_holding (Zn6 ne xs.size 0 _ _ ⟨_,Heap.get?_push_size _ rfl,rfl,rfl⟩ (b.push _) (by omega) fun g st sb=>?_))
 have e:(xs.toList.drop 0).take xs.size=xs.toList:=by rw [List.drop_zero,List.take_of_length_le]; simp
 rw [e,if_neg (by simp)]
 refine wpAny_bind (wpAny_holding (wpAny_pyNext_list_end hc st ((b.push _).extBut sb.extBut ne) (by simp) fun g2 eb=>?_))
 rw [if_neg (by decide)]
 exact wpAny_pure (q g2 fun c o hb z=>eb c o hb (sb.extBut c o hb (Heap.get?_push_of_some _ z)))
end
section
variable {X:Cx} {pos:Pos}
noncomputable def gLst (K:PySem.W.Frag) (n:Nat) (t:TGs):TG:=fun v σ H Q=>∃ a xs,v=.ref a∧SqL K H a xs∧xs.length=n∧t xs σ H Q
theorem Zmo {es:List Expr} {k:Nat} {t:TGs} {n:Nat} (hc:X.calm=true) (h:PGs X es t)
  (hn:(assignEach es X.env).length=n:=by rfl) (hst:(assignEach es X.env).findIdx? (·.1)=none:=by rfl):PG X (.Tuple es k pos) (gLst X.K n t):=by
 intro pins s σ H v u Q I r hw
 obtain ⟨a,xs,e1,hq,hl,hw⟩:=hw
 subst e1
 cases r
 obtain ⟨its,rv,p,hz⟩:=I.list hq
 rw [assign_Tuple]
 refine wpAny_bind (wpAny_standAt ?_)
 unfold unpack
 have hn2:(assignEach es X.env).length=its.toArray.size:=by rw [hn,← hl,rv.length]; simp
 rw [hn2,hst]
 refine wpAny_bind (wpAny_holding (Zj0 (I.ok.hd hc) p.isList fun h' hx=>?_))
 have I1:Inv X pins σ H { s with heap:=h' }:=I.kept (t':=s.toks) fun b o e=>hx b o (Nat.ne_of_lt (Heap.lt_size e)) e
 exact h pins _ σ H xs _ Q I1 (by simpa using rv) hw
end
end L2
set_option maxHeartbeats 4000000
namespace L2
open PySem PySem.Spec PyProof.Rows
noncomputable def Gf (w:World) (K:PySem.W.Frag) (a:Addr) (kvs:List (Key × V)):Prop :=
 ∃ o es ep vs,K.lookup a=some o∧o.ExactDict∧o.data=.dict es ep∧(∀ e∈es,∃ k,V0 k e.key=true∧e.hash=keyH w k)∧(∀ P:Program,Pairs (Z9 P w) es.toList vs)∧(vs.map (·.1)).Nodup∧KV kvs vs∧(a == sysModules)=false
section
variable {X:Cx} {i o:Expr} {ty td:TE} {pos:Pos}
theorem Gf.here {pins:List (Addr × Obj)} {σ:St} {H:Hp} {s:Shared} {a:Addr} {kvs:List (Key × V)} (h:Gf X.w X.K a kvs) (I:Inv X pins σ H s):(a == sysModules)=false∧∃ vs,KV kvs vs∧s.heap.DictOf (Z9 X.prog X.w) a vs:=by
 obtain ⟨o,es,ep,vs,h1,h2,h3,h4,h5,h6,h7,h8⟩:=h
 exact ⟨h8,vs,h7,o,es,ep,I.kIn a o h1,h2,h3,h4,h5 X.prog,h6⟩
noncomputable def Zj4 (w:World) (K:PySem.W.Frag) (ty td:TE):TE:=fun σ H Q=>ty σ H fun y H1=>td σ H1 fun x H2=>∃ a kvs k,x=.ref a∧Gf w K a kvs∧y=kV k∧Q (.bl (!(valV kvs k).isSome)) H2
theorem Zf7 (hi:PE X i ty) (ho:PE X o td):PC X .NotIn i o (Zj4 X.w X.K ty td):=by
 intro pins s σ H Q I h
 refine thn (hi pins s σ H _ I h) fun iv s1 zz30=>?_
 obtain ⟨y,H1,I1,ry,q1⟩:=zz30
 refine thn (ho pins s1 σ H1 _ I1 q1) fun u s2 zz9=>?_
 obtain ⟨x,H2,I2,rx,a,kvs,k,ex,g,ey,q2⟩:=zz9
 subst ex ey
 obtain rfl:u=Value.ref a:=rx
 obtain ⟨hd,vs,rel,dd⟩:=g.here I2
 refine wpAny_notIn_of (V1 ry) hd dd.mapOf ?_
 rw [← (rel.val k).isSome_eq]
 exact ⟨.bl _,H2,I2.tok _,rfl,q2⟩
end
section
noncomputable def Itm2 (d:Addr) (kvs:List (Key × V)) (o:Obj):It :=
 ⟨fun i H=>i < kvs.length∧H d=some (.frz o (.dK kvs)),fun i H x H'=>∃ q k v,H q=none∧x=.ref q∧kvs[i]?=some (k,v)∧H'=upd H q (.tup [kV k,v]),fun i H=>kvs.length≤i∧H d=some (.frz o (.dK kvs))⟩
theorem Zeb {P:Program} {w:World} {K:PySem.W.Frag} {elts:List Expr} {x1:Nat} {pos:Pos} (d it:Addr) (kvs:List (Key × V)) (o:Obj) :
  Turn P w K (.Tuple elts x1 pos) (Itm2 d kvs o) [it] it (fun i h=>∃ a b,IsItemIter h it d i kvs.length (epOf o) a b) where
 mem:=by simp
 obj:=fun i h st b hb=>by
  have e:b=it:=by simpa using hb
  subst e
  obtain ⟨a,c,z⟩:=st
  exact ⟨_,z,fun v y=>by
   have y':Data.fields _=Data.cell v:=y
   cases y'⟩
 keep:=fun i h h' st k=>by
  obtain ⟨a,c,z⟩:=st
  exact ⟨a,c,k it (by simp) _ z⟩
 item:=by
  intro X hP hw hK hc i pins s σ H E I hf st hg
  subst hP hw hK
  obtain ⟨hi,hq⟩:=hg
  obtain ⟨vs,ep,rel,da,ho⟩:=Jw I hq
  have hep:=Oc da ho
  subst hep
  obtain ⟨f0,f1,f2,f3,f4,f5⟩:=hf it (by simp)
  obtain ⟨⟨k,v⟩,hx⟩:∃ p,kvs[i]?=some p:=⟨_,List.getElem?_eq_getElem hi⟩
  obtain ⟨u,hu,ru⟩:=rel.at hx
  have hlen:vs.length=kvs.length:=rel.length.symm
  obtain ⟨a0,b0,st⟩:=st
  rw [← hlen] at st
  have itlt:=Heap.lt_size st
  refine wpAny_pyNext_items_item st da hu fun key h' hk st' ht hsz kk=>?_
  rw [hlen] at st'
  refine ⟨.ref s.heap.objs.size,rfl,wpAny_letOwnedTupleGo_items st' fun h'' st'' sb=>?_⟩
  have keepb:∀ b z,b≠it→s.heap.get? b=some z→h''.get? b=some z:=fun b z hb e=>(sb.2 b hb).trans (kk b z hb e)
  have ht'':h''.get? s.heap.objs.size=some { cls:=.type "tuple",data:=.seq #[key,u] }:=(sb.2 _ (Nat.ne_of_gt itlt)).trans ht
  have hn:H s.heap.objs.size=none:=I.hok.fresh (Nat.le_refl _)
  have I2:Inv X pins σ (upd H s.heap.objs.size (.tup [kV k,v])) { s with heap:=h'' }:=by
   refine I.step (g':=s.gens) (d':=s.drawn) (ch:=[it]) (fun b hb=>?_) (fun b o _ _ hc q _=>keepb b o (fun z=>hc (by simp [z])) q) (fun b o _ _ hc q _=>⟨o.slots,keepb b o (fun z=>hc (by simp [z])) q⟩) (fun b o _ q n=>by rw [Zf (Nat.ne_of_lt (Heap.lt_size q))]; exact n)
    (fun b o hc q=>⟨o,keepb b o (fun z=>hc (by simp [z])) q⟩) (fun b ys q=>by rw [Zf (Zk q hn)]; exact q) (fun b o ys q=>by rw [Zf (Zk q hn)]; exact q) (fun b ps q=>⟨#[],by rw [Zf (Zk q hn),q]; simp⟩) (fun m hm=>?_) (fun b v' q=>?_) I.bare
   ·have z:b=it:=by simpa using hb
    subst z; exact ⟨f3,f1,f4,f5⟩
   ·obtain ⟨o,es,ep,ho,r⟩:=hm
    exact ⟨o,es,ep,keepb _ o (Ne.symm f1) ho,r⟩
   ·by_cases hb:b=s.heap.objs.size
    ·subst hb
     rw [Zb] at q
     cases q
     exact ⟨by show 2≤sizeLine; decide,[key,u],.cons (Znz hk) (.cons ru .nil),⟨_,ht'',rfl,_,rfl⟩⟩
    ·rw [Zf hb] at q
     refine (I.hok b v' q).stay (fun c w' hc z=>keepb c w' ?_ z) (fun d z=>by rw [Zf (Zk z hn)]; exact z) fun d ys z=>by rw [Zf (Zk z hn)]; exact z
     rintro rfl
     rcases hc with z | z
     ·rw [z,q] at f0; cases f0
     ·rw [f0] at z; cases z
  refine ⟨.ref s.heap.objs.size,_,I2,rfl,⟨_,k,v,hn,rfl,hx,rfl⟩,⟨_,_,st''⟩,fun b hb=>?_⟩
  have z:b=it:=by simpa using hb
  subst z; rw [Zf (Nat.ne_of_lt itlt)]; exact f0
 done:=by
  intro X hP hw hK hc i pins s σ H E I hf st hg
  subst hP hw hK
  obtain ⟨hi,hq⟩:=hg
  obtain ⟨vs,ep,rel,da,ho⟩:=Jw I hq
  have hep:=Oc da ho
  subst hep
  obtain ⟨f0,f1,f2,f3,f4,f5⟩:=hf it (by simp)
  have hlen:vs.length=kvs.length:=rel.length.symm
  obtain ⟨a0,b0,st⟩:=st
  rw [← hlen] at st
  exact wpAny_pyNext_items_end (I.ok.hd hc) st da (by rw [List.getElem?_eq_none]; omega) fun h' eb=>⟨rfl,I.turned (t':=s.toks) (fun b o hb e=>eb b o hb e) f0 f1 f3 f4 f5⟩
 self:=fun _ _ _ _ _ st h=>by
  obtain ⟨a,b,st⟩:=st
  exact PySem.W.kcp_self st h
variable {X:Cx} {l:Expr} {tl:TE}
theorem Zib {elts:List Expr} {x1:Nat} {tpos apos cpos:Pos} (hl:PE X l tl) (m:M0 X l "items" apos cpos):PI X (.Tuple elts x1 tpos) (.Call (.Attribute l "items" apos) [] [] cpos) (Zjt Itm2 tl):=by
 intro pins s σ H R I h
 refine wpAny_Call_method m.base m.few m.line PySem.F.plainAttrs_dict PySem.F.slot_dict_items PySem.F.type_dict_items (thn (hl pins s σ H _ I h) fun v s1 zz9=>?_)
 obtain ⟨x,H1,I1,r1,q1⟩:=zz9
 obtain ⟨a,kvs,e,q⟩:=q1
 subst e
 cases r1
 obtain ⟨o,H2,e2,I2,q2⟩:=Zcd (R:=fun o H=>R (Itm2 a kvs o) H) I1 q
 obtain ⟨vs,ep,rel,da,ho⟩:=Jw I2 e2
 have hep:=Oc da ho
 subst hep
 obtain ⟨_,_,hsys,_⟩:=I2.hok a _ e2
 have isd:IsD H2 a:=.inl ⟨kvs,.inr ⟨o,e2⟩⟩
 obtain ⟨t1,t2,_⟩:=K6 I2 isd
 refine ⟨t1,t2,?_⟩
 refine Calls.callWith_builtin rfl (PyProof.Rows.evalArgs_empty ?_)
 refine call_meetsIn PySem.F.slot_dict_items da.dictOf.typeIs PySem.F.entry_dict_items (PySem.F.args_dict_items_1 _) (meets_dict_items (Z9 X.prog X.w) a hsys) ⟨⟨vs,da.dictOf⟩,?_⟩
 have I3:Inv X pins σ H2 { s1 with heap:=s1.heap.push { cls:=.type "dict_items",data:=.fields #[.ref a] } }:=I2.kept (t':=s1.toks) fun b o e=>Heap.get?_push_of_some _ e
 refine wpAny_pyIter_items ⟨_,Heap.get?_push_size _ rfl,rfl,rfl⟩ (da.push _) ?_
 have hlen:vs.length=kvs.length:=rel.length.symm
 rw [hlen]
 refine ⟨(s1.heap.push { cls:=.type "dict_items",data:=.fields #[.ref a] }).objs.size,[(s1.heap.push { cls:=.type "dict_items",data:=.fields #[.ref a] }).objs.size],_,_,H2,rfl,I3.kept (t':=s1.toks) fun b o e=>Heap.get?_push_of_some _ e,Zeb a _ kvs o,⟨_,_,Heap.get?_push_size _ rfl⟩,fun b hb=>?_,q2⟩
 have e:b=(s1.heap.push { cls:=.type "dict_items",data:=.fields #[.ref a] }).objs.size:=by simpa using hb
 subst e
 exact I3.fpOk (Nat.le_refl _) (I3.hok.fresh (Nat.le_refl _))
theorem Zg2 {d:Addr} {kvs:List (Key × V)} {o:Obj} {g:TG} {tb:TS} {D:Ends} {σ:St} {H:Hp} (Pv:Nat→St→Hp→Prop) (h0:Pv 0 σ H) (hl:∀ i σ H,i≤kvs.length→Pv i σ H→H d=some (.frz o (.dK kvs)))
  (hs:∀ i k x σ H q,kvs[i]?=some (k,x)→H q=none→Pv i σ H→g (.ref q) σ (upd H q (.tup [kV k,x])) fun σ2 H2=>tb { D with nx:=Pv (i + 1),ct:=Pv (i + 1),bk:=D.nx } σ2 H2) (hd:∀ σ H,Pv kvs.length σ H→D.nx σ H) :
  ∃ W:Nat→Nat→St→Hp→Prop,(∃ m,W 0 m σ H)∧∀ i m σ H,W i m σ H →
   ((Itm2 d kvs o).stop i H∧D.nx σ H)∨((Itm2 d kvs o).go i H∧∃ N:St→Hp→Prop,(∀ σ' H',N σ' H'→∃ m',m' < m∧W (i + 1) m' σ' H')∧∀ x H',(Itm2 d kvs o).yld i H x H'→g x σ H' fun σ2 H2=>tb { D with nx:=N,ct:=N,bk:=D.nx } σ2 H2):=by
 refine ⟨fun i m σ H=>m=kvs.length - i∧i≤kvs.length∧Pv i σ H,⟨kvs.length,by simp,Nat.zero_le _,h0⟩,?_⟩
 rintro i m σ H ⟨rfl,hi,p⟩
 have q:=hl i σ H hi p
 by_cases hlt:i < kvs.length
 ·refine .inr ⟨⟨hlt,q⟩,Pv (i + 1),fun σ' H' p'=>⟨kvs.length - (i + 1),by omega,rfl,hlt,p'⟩,fun x H' y=>?_⟩
  obtain ⟨c,k,v,hn,e1,y,e2⟩:=y
  subst e1 e2
  exact hs i k v σ H c y hn p
 ·have e:i=kvs.length:=by omega
  subst e
  exact .inl ⟨⟨Nat.le_refl _,q⟩,hd σ H p⟩
end
section
noncomputable def Itr3 (lo st:Int) (n:Nat):It:=⟨fun i _=>i < n,fun i H x H'=>H'=H∧x=.int (lo + i * st),fun i _=>n≤i⟩
theorem Oi {P:Program} {w:World} {K:PySem.W.Frag} {tg:Expr} (it:Addr) (lo st:Int) (n:Nat):Turn P w K tg (Itr3 lo st n) [it] it (fun i h=>IsRangeIter h it (lo + (i:Nat) * st) ((n:Int) - (i:Nat)) st) where
 mem:=by simp
 obj:=fun i h st b hb=>by
  have e:b=it:=by simpa using hb
  subst e
  exact ⟨_,st,fun v z=>by
   have z':Data.fields _=Data.cell v:=z
   cases z'⟩
 keep:=fun i h h' st k=>k it (by simp) _ st
 item:=by
  intro X hP hw hK hc i pins s σ H E I hf st' hg
  subst hP hw hK
  obtain ⟨f0,f1,f2,f3,f4,f5⟩:=hf it (by simp)
  have W:=Walks.range (prog:=X.prog) (w:=X.w) (I.ok.hd hc) it lo st n
  refine W.item i s _ _ hg st' fun v h' tk hv st2 kk=>?_
  obtain ⟨t,rfl⟩:=hv
  have I1:Inv X pins σ H { s with heap:=h',toks:=tk }:=I.turned (fun b o hb e=>kk b o (by simpa using hb) e) f0 f1 f3 f4 f5
  exact ⟨_,rfl,Ob (s:={ s with heap:=h',toks:=tk }) (n:="range_iterator") st2 rfl rfl (by decide) ⟨.int (lo + i * st),H,I1,⟨t,rfl⟩,⟨rfl,rfl⟩,st2,fun b hb=>(hf b hb).1⟩⟩
 done:=by
  intro X hP hw hK hc i pins s σ H E I hf st' hg
  subst hP hw hK
  obtain ⟨f0,f1,f2,f3,f4,f5⟩:=hf it (by simp)
  exact wpAny_pyNext_range_end (I.ok.hd hc) st' (by have:n≤i:=hg; omega) fun h' eb=>⟨rfl,I.turned (t':=s.toks) (fun b o hb e=>eb b o hb e) f0 f1 f3 f4 f5⟩
 self:=fun _ _ _ _ _ st h=>wpAny_pyIter_rangeiter st h
end
section
variable {X:Cx} {tg:Expr}
noncomputable def Zn0 (ta:TA):TI:=fun σ H R=>ta σ H fun vs H1=>∃ n:Nat,vs=[.int 0,.int (3 * n:Nat),.int 3]∧n≤1000∧R (Itr3 0 3 n) H1
theorem Zfz {pins:List (Addr × Obj)} {σ:St} {H:Hp} {s:Shared} {R:It→Hp→Prop} {E:Value→Shared→Prop} {n:Nat} {t u v:Tok} {tk:Nat} (I:Inv X pins σ H s) (hn:n≤1000)
  (q:R (Itr3 0 3 n) H):wpAny (model X.prog X.w) X.A (pyIter (.ref s.heap.objs.size)) (PIE X pins σ tg R) E { s with heap:=s.heap.push { cls:=.type "range",data:=.fields #[.int 0 t,.int (3 * n:Nat) u,.int 3 v] },toks:=tk }:=by
 have hr:Builtin.Range.rangeSize 0 ((3 * n:Nat):Int) 3=n:=by
  unfold Builtin.Range.rangeSize
  rw [if_pos (by decide)]
  split <;> omega
 have hsm:Builtin.Range.small 0 ((3 * n:Nat):Int) 3=true:=by
  unfold Builtin.Range.small
  rw [hr]
  have e:∀ z:Int,-(2 ^ 62)≤z→z < 2 ^ 62→Builtin.Range.rangeFitsLong z=true:=fun z h1 h2=>by
   unfold Builtin.Range.rangeFitsLong
   rw [Bool.and_eq_true,decide_eq_true_eq,decide_eq_true_eq]
   omega
  have e2:=e ((3 * n:Nat):Int) (by omega) (by omega)
  have e4:=e (n:Int) (by omega) (by omega)
  have e5:=e (((3 * n:Nat):Int) + (3 - 1)) (by omega) (by omega)
  rw [e 0 (by decide) (by decide),e2,e 3 (by decide) (by decide),e4,if_pos (by decide),e5,Bool.or_true]
  rfl
 refine wpAny_pyIter_range (IsRange.new ..) hsm ?_
 have I1:Inv X pins σ H { s with heap:=s.heap.push { cls:=.type "range",data:=.fields #[.int 0 t,.int (3 * n:Nat) u,.int 3 v] },toks:=tk }:=I.kept fun b o e=>Heap.get?_push_of_some _ e
 refine ⟨(s.heap.push { cls:=.type "range",data:=.fields #[.int 0 t,.int (3 * n:Nat) u,.int 3 v] }).objs.size,[(s.heap.push { cls:=.type "range",data:=.fields #[.int 0 t,.int (3 * n:Nat) u,.int 3 v] }).objs.size],_,_,H,rfl,
  I1.kept (t':=tk) fun b o e=>Heap.get?_push_of_some _ e,Oi _ 0 3 n,?_,fun b hb=>?_,q⟩
 ·show IsRangeIter _ _ ((0:Int) + ((0:Nat):Int) * 3) (((n:Nat):Int) - ((0:Nat):Int)) 3
  have e1:(0:Int) + ((0:Nat):Int) * 3=0:=by simp
  have e2:((n:Nat):Int) - ((0:Nat):Int)=Builtin.Range.rangeSize 0 ((3 * n:Nat):Int) 3:=by rw [hr]; simp
  rw [e1,e2]
  exact Heap.get?_push_size _ rfl
 ·have e:b=(s.heap.push { cls:=.type "range",data:=.fields #[.int 0 t,.int (3 * n:Nat) u,.int 3 v] }).objs.size:=by simpa using hb
  subst e
  exact I1.fpOk (Nat.le_refl _) (I1.hok.fresh (Nat.le_refl _))
theorem Zf5 {a b c:Expr} {ta:TA} {p pos:Pos} (hg:Gl X "range") (hm:X.mg "range"=none) (ha:PA X [a,b,c] ta) (hs:starEach [a,b,c] X.env=[(false,eval a X.env),(false,eval b X.env),(false,eval c X.env)]:=by rfl) (hs2:starEach [b,c] X.env=[(false,eval b X.env),(false,eval c X.env)]:=by rfl) :
  PI X tg (.Call (.Name "range" p) [a,b,c] [] pos) (Zn0 ta):=by
 intro pins s σ H R I h
 refine Call_ (X2 I hg hm boot_range (PyProof.Rows.callWith_type1 (thn (ha pos pins s σ H _ I h) fun us s1 ⟨vs,H1,I1,r1,q1⟩=>?_) (by rw [hs,hs2]) (by rw [hs2]; rfl)))
 obtain ⟨n,e,hn,q⟩:=q1
 subst e
 cases r1 with
 | cons r rr =>
  cases rr with
  | cons r' rr =>
   cases rr with
   | cons r'' rr =>
    cases rr
    obtain ⟨t,rfl⟩:=r
    obtain ⟨t',rfl⟩:=r'
    obtain ⟨t'',rfl⟩:=r''
    exact call_range_3 (by decide) (Zfz I1 hn q) (.inl (PyProof.noPylong_small (by decide)))
theorem Zc2 {lo st:Int} {n:Nat} {g:TG} {tt:TT} {tb:TB} {R:St→Hp→Prop} {σ:St} {H:Hp} (Pv:Nat→St→Hp→Prop) (h0:Pv 0 σ H)
  (hs:∀ (i:Nat) σ H,i < n→Pv i σ H→g (.int (lo + i * st)) σ H fun σ2 H2=>tt σ2 H2 fun b H3=>if b=true then tb σ2 H3 (Pv (i + 1)) else Pv (i + 1) σ2 H3) (hd:∀ σ H,Pv n σ H→R σ H):Wx (Itr3 lo st n) g tt tb R σ H:=by
 refine ⟨fun i m σ H=>m=n - i∧i≤n∧Pv i σ H,⟨n,by simp,Nat.zero_le _,h0⟩,?_⟩
 rintro i m σ H ⟨rfl,hi,p⟩
 by_cases hlt:i < n
 ·refine .inr ⟨hlt,Pv (i + 1),fun σ' H' p'=>⟨n - (i + 1),by omega,rfl,hlt,p'⟩,fun x H' y=>?_⟩
  obtain ⟨e,y⟩:=y
  subst e y
  exact hs i σ _ hlt p
 ·have e:i=n:=by omega
  subst e
  exact .inl ⟨Nat.le_refl _,hd σ H p⟩
end
section
variable {X:Cx} {fr:Bool} {pos:Pos}
noncomputable def Znq (te:TEX) (g:TG):TSX:=fun D R σ H=>te σ H (fun x H1=>g x σ H1 D.nx) fun cls _ H1=>R cls σ H1
theorem Zkq {tg e:Expr} {te:TEX} {g:TG} (he:PEX fr X e te) (hg:PG X tg g) (hs:swapsWithSole [tg] e pos.line X.env=pure false:=by rfl) (hw:swappedStores [tg] e X.env=pure none:=by rfl)
  (h1:(assignEach [tg] X.env).map (·.2)=[assign tg X.env]:=by rfl) (hx:X.xe=(fun _ _=>False):=by rfl):PSX fr X (.Assign [tg] e pos) (Znq te g):=by
 intro pins s σ H D R I h
 refine wpAny_Assign_stores (wpAny_mono (he pins s σ H _ _ I h) (fun v s1 ⟨x,H1,I1,r1,q1⟩=>?_) ?_) hs hw
 ·rw [h1]
  have z:=hg pins s1 σ H1 x v _ I1 r1 q1
  rw [hx] at z
  exact wpAny_mono z (fun _ _ y=>y) fun _ _ y=>y.elim
 ·rintro ev s1 ⟨e,T,cls,a0,σ',H',g1,g2,g3,g4,g5,g7,rfl,g6⟩
  exact ⟨e,T,cls,a0,σ',H',g1,g2,g3,g4,g5,g7,g6⟩
end
theorem Qo {X:Cx} (K:PySem.W.Frag) (h:X.K=K:=by rfl):SlR X (rSlL K):=h ▸ Ve
theorem kdict_mk2 {w:World} {K:PySem.W.Frag} {a:Addr} {h1 h2:Int} {t1 t2 t3 t4:Tok} {ep:Nat} {x1 y1 x2 y2:Str}
  (l:K.lookup a=some ⟨.type "dict",none,.dict #[⟨h1,.str x1 t1,.str y1 t2⟩,⟨h2,.str x2 t3,.str y2 t4⟩] ep,#[]⟩) (e1:h1=hashStr w x1) (e2:h2=hashStr w x2) (ne:x1≠x2) (sy:(a == sysModules)=false) :
  Gf w K a [(Sum.inr x1,.str y1),(Sum.inr x2,.str y2)]:=by
 refine ⟨_,_,_,[(Sum.inr x1,.str y1 t2),(Sum.inr x2,.str y2 t4)],l,⟨rfl,rfl,rfl⟩,rfl,fun e he=>?_,fun P=>?_,?_,?_,sy⟩
 ·have he:e=⟨h1,.str x1 t1,.str y1 t2⟩∨e=⟨h2,.str x2 t3,.str y2 t4⟩:=by simpa using he
  rcases he with rfl | rfl
  ·exact ⟨Sum.inr x1,J5 x1 t1,e1⟩
  ·exact ⟨Sum.inr x2,J5 x2 t3,e2⟩
 ·exact .cons (J5 x1 t1) rfl (.cons (J5 x2 t3) rfl .nil)
 ·refine List.nodup_cons.mpr ⟨?_,by simp⟩
  simp [ne]
 ·exact .cons ⟨rfl,⟨_,rfl⟩⟩ (.cons ⟨rfl,⟨_,rfl⟩⟩ .nil)
end L2
set_option maxHeartbeats 4000000
namespace L2
open PySem PySem.Spec PyProof.Rows
section
variable {X:Cx}
noncomputable def rEqL (K:PySem.W.Frag):R2:=fun x y H Q=>∃ a b ns ms,x=.ref a∧y=.ref b∧SqL K H a (List.map V.int ns)∧SqL K H b (List.map V.int ms)∧Q (.bl (decide (ns=ms))) H
theorem Zmv (hu:X.A.units + 64 < cLine):OpR X (compareOp .Eq) (rEqL X.K):=by
 intro pins s σ H x y v u Q I rx ry h
 obtain ⟨a,b,ns,ms,rfl,rfl,ha,hb,q⟩:=h
 cases rx
 cases ry
 obtain ⟨ia,ra,pa,_⟩:=I.list ha
 obtain ⟨ib,rb,pb,_⟩:=I.list hb
 exact PySem.W.eq_intsK pa.isList (Qf ra) pb.isList (Qf rb) hu ⟨.bl _,H,I,rfl,q⟩
theorem Zhh (bs:List Bool):((List.range bs.length).all fun i=>bs.getD i true)=bs.all id:=by
 rw [Bool.eq_iff_iff,List.all_eq_true,List.all_eq_true]
 constructor
 ·intro h b hb
  obtain ⟨i,hi,rfl⟩:=List.mem_iff_getElem.mp hb
  have:=h i (List.mem_range.mpr hi)
  rw [List.getD_eq_getElem?_getD,List.getElem?_eq_getElem hi] at this
  exact this
 ·intro h i hi
  have hi:=List.mem_range.mp hi
  rw [List.getD_eq_getElem?_getD,List.getElem?_eq_getElem hi]
  exact h _ (List.getElem_mem hi)
theorem Zch (hc:X.calm=true):Jk X (.builtin "all") (fun xs H Q=>∃ p bs,xs=[.ref p]∧SqL X.K H p (List.map V.bl bs)∧Q (.bl (bs.all id)) H):=by
 intro pins s σ H xs us Q I r h
 obtain ⟨p,bs,rfl,hq,q⟩:=h
 obtain ⟨u,rfl,ru⟩:=Jz r
 cases ru
 obtain ⟨its,rv,pl,hz⟩:=I.list hq
 have ne:p≠s.heap.objs.size:=by obtain ⟨o,ho,_⟩:=pl.isList; exact Nat.ne_of_lt (Heap.lt_size ho)
 refine call_all_walk (wpAny_pyIter_list pl.isList ⟨s.heap.objs.size,_,_,_,_,_,fun i=>bs.getD i true,rfl,Walks.list (A:=X.A.in1) (show X.A.in1.handled=none from I.ok.hd hc) s.heap.objs.size p ne its.toArray,⟨⟨_,Heap.get?_push_size _ rfl,rfl,rfl⟩,pl.isList.push _⟩,?_,?_⟩)
 ·intro i v s' Q' E' hv hq'
  have hv:its[i]?=some v:=by simpa using hv
  have hlen:=rv.length
  rw [List.length_map] at hlen
  have hi:i < bs.length:=by have:=(List.getElem?_eq_some_iff.mp hv).1; omega
  obtain ⟨u,hu,ru⟩:=rv.get (show (bs.map V.bl)[i]?=some (V.bl bs[i]) by rw [List.getElem?_map,List.getElem?_eq_getElem hi]; rfl)
  rw [hv] at hu
  cases hu
  cases ru
  have e:bs.getD i true=bs[i]:=by rw [List.getD_eq_getElem?_getD,List.getElem?_eq_getElem hi]; rfl
  refine wpAny_truthy_bool ?_
  have hq':Q' (bs.getD i true) s':=hq'
  rw [e] at hq'
  exact hq'
 ·intro h' tk hk
  have I1:Inv X pins σ H { s with heap:=h',toks:=tk }:=I.kept fun b o e=>hk b o (fun z=>absurd (Heap.lt_size e) (by rw [List.mem_singleton.mp z]; exact Nat.lt_irrefl _)) (Heap.get?_push_of_some _ e)
  have hlen:its.toArray.size=bs.length:=by have:=rv.length; rw [List.length_map] at this; simp; omega
  refine ⟨.bl (bs.all id),H,I1,?_,q⟩
  show Value.bool _=_
  rw [hlen,Zhh]
end
section
noncomputable def Ze9 (K:PySem.W.Frag) (a:Addr) (n:Nat):It :=
 ⟨fun i H=>i < n∧∃ xs,SqL K H a xs∧xs.length=n,fun i H x H'=>H'=H∧∀ xs,SqL K H a xs→xs[n - 1 - i]?=some x,fun i H=>n≤i∧∃ xs,SqL K H a xs∧xs.length=n⟩
theorem Zhl {P:Program} {w:World} {K:PySem.W.Frag} {tg:Expr} (a it:Addr) (n:Nat):Turn P w K tg (Ze9 K a n) [it] it (fun i h=>i≤n∧h.IsRevIter it a ((n:Int) - 1 - i)) where
 mem:=by simp
 obj:=fun i h st b hb=>by
  have e:b=it:=by simpa using hb
  subst e
  obtain ⟨_,o,e,c,d⟩:=st
  exact ⟨o,e,fun v z=>by rw [d] at z; cases z⟩
 keep:=fun i h h' st k=>⟨st.1,st.2.at fun o e=>k it (by simp) o e⟩
 item:=by
  intro X hP hw hK hc i pins s σ H E I hf st hg
  subst hP hw hK
  obtain ⟨hi,xs,hq,hl⟩:=hg
  obtain ⟨its,rv,p,hz⟩:=I.list hq
  obtain ⟨f0,f1,f2,f3,f4,f5⟩:=hf it (by simp)
  have hlt:n - 1 - i < xs.length:=by omega
  obtain ⟨u,hu,ru⟩:=rv.get (List.getElem?_eq_getElem hlt)
  have e1:(n:Int) - 1 - i=((n - 1 - i:Nat):Int):=by omega
  have st2:=st.2
  rw [e1] at st2
  refine wpAny_pyNext_rev_item st2 p.isList (x:=u) (by simpa using hu) fun h' st' sb=>?_
  have I1:Inv X pins σ H { s with heap:=h' }:=I.turned (t':=s.toks) (fun b o hb e=>(sb.2 b hb).trans e) f0 f1 f3 f4 f5
  have e2:((n - 1 - i:Nat):Int) - 1=(n:Int) - 1 - ((i + 1:Nat):Int):=by omega
  rw [e2] at st'
  obtain ⟨o,e,c,d⟩:=id st'
  exact ⟨u,rfl,Ob (s:={ s with heap:=h' }) e c d (by decide) ⟨xs[n - 1 - i],H,I1,ru,⟨rfl,fun ys hy=>by rw [I.list_inj hy hq]; exact List.getElem?_eq_getElem hlt⟩,⟨hi,st'⟩,fun b hb=>(hf b hb).1⟩⟩
 done:=by
  intro X hP hw hK hc i pins s σ H E I hf st hg
  subst hP hw hK
  obtain ⟨hi,xs,hq,hl⟩:=hg
  obtain ⟨f0,f1,f2,f3,f4,f5⟩:=hf it (by simp)
  have st2:=st.2
  rw [show (n:Int) - 1 - i=-1 by have:=st.1; omega] at st2
  exact wpAny_pyNext_rev_end (I.ok.hd hc) st2 fun h' eb=>⟨rfl,I.turned (t':=s.toks) (fun b o hb e=>eb b o hb e) f0 f1 f3 f4 f5⟩
 self:=fun _ _ _ _ _ st h=>wpAny_pyIter_revIter st.2 h
variable {X:Cx} {tg:Expr}
noncomputable def iRev (K:PySem.W.Frag) (ta:TA):TI:=fun σ H R=>ta σ H fun vs H1=>∃ a xs,vs=[.ref a]∧SqL K H1 a xs∧R (Ze9 K a xs.length) H1
theorem Zmn {l:Expr} {ta:TA} {p pos:Pos} (hg:Gl X "reversed") (hm:X.mg "reversed"=none) (ha:PA X [l] ta) (hs:starEach [l] X.env=[(false,eval l X.env)]:=by rfl):PI X tg (.Call (.Name "reversed" p) [l] [] pos) (iRev X.K ta):=by
 intro pins s σ H R I h
 refine Call_ (X2 I hg hm boot_reversed (PyProof.Rows.callWith_type1 (thn (ha pos pins s σ H _ I h) fun us s1 zz31=>?_) hs rfl))
 obtain ⟨vs,H1,I1,r1,q1⟩:=zz31
 obtain ⟨a,xs,e,hq,q⟩:=q1
 subst e
 obtain ⟨u,rfl,ru⟩:=Jz r1
 cases ru
 obtain ⟨its,rv,pl,hz⟩:=I1.list hq
 refine call_reversed_list pl.isList ?_
 have I2:Inv X pins σ H1 { s1 with heap:=s1.heap.push (revObj a ((its.toArray.size:Int) - 1)) }:=I1.kept (t':=s1.toks) fun b o e=>Heap.get?_push_of_some _ e
 have hn:its.toArray.size=xs.length:=by have:=rv.length; simp; omega
 rw [hn] at I2 ⊢
 have st:(s1.heap.push (revObj a ((xs.length:Int) - 1))).IsRevIter s1.heap.objs.size a ((xs.length:Int) - 1 - ((0:Nat):Int)):=by
  rw [show (xs.length:Int) - 1 - ((0:Nat):Int)=(xs.length:Int) - 1 by simp]
  exact ⟨_,Heap.get?_push_size _ rfl,rfl,rfl⟩
 refine wpAny_pyIter_revIter st ?_
 refine ⟨s1.heap.objs.size,[s1.heap.objs.size],_,_,H1,rfl,I2,Zhl a _ xs.length,⟨Nat.zero_le _,st⟩,fun b hb=>?_,q⟩
 have e:b=s1.heap.objs.size:=by simpa using hb
 subst e
 exact I1.fpOk (Nat.le_refl _) (I1.hok.fresh (Nat.le_refl _))
theorem Ziu {K:PySem.W.Frag} {a:Addr} {xs:List V} {g:TG} {tt:TT} {tb:TB} {R:St→Hp→Prop} {σ:St} {H:Hp} (Pv:Nat→St→Hp→Prop) (h0:Pv 0 σ H) (hl:∀ i σ H,i≤xs.length→Pv i σ H→SqL K H a xs)
  (hs:∀ (i:Nat) x σ H,xs.reverse[i]?=some x→Pv i σ H→g x σ H fun σ2 H2=>tt σ2 H2 fun b H3=>if b=true then tb σ2 H3 (Pv (i + 1)) else Pv (i + 1) σ2 H3) (hd:∀ σ H,Pv xs.length σ H→R σ H):Wx (Ze9 K a xs.length) g tt tb R σ H:=by
 refine ⟨fun i m σ H=>m=xs.length - i∧i≤xs.length∧Pv i σ H,⟨xs.length,by simp,Nat.zero_le _,h0⟩,?_⟩
 rintro i m σ H ⟨rfl,hi,p⟩
 have q:=hl i σ H hi p
 by_cases hlt:i < xs.length
 ·refine .inr ⟨⟨hlt,xs,q,rfl⟩,Pv (i + 1),fun σ' H' p'=>⟨xs.length - (i + 1),by omega,rfl,hlt,p'⟩,fun x H' y=>?_⟩
  obtain ⟨e,y⟩:=y
  subst e
  exact hs i x σ _ (by rw [List.getElem?_reverse hlt]; exact y xs q) p
 ·have e:i=xs.length:=by omega
  subst e
  exact .inl ⟨⟨Nat.le_refl _,xs,q,rfl⟩,hd σ H p⟩
end
section
noncomputable def Itz (K:PySem.W.Frag) (a b:Addr):It :=
  ⟨fun i H=>∃ xs ys x y,SqL K H a xs∧SqL K H b ys∧xs[i]?=some x∧ys[i]?=some y,
   fun i H v H'=>∃ q x y,H q=none∧v=.ref q∧(∀ xs,SqL K H a xs→xs[i]?=some x)∧(∀ ys,SqL K H b ys→ys[i]?=some y)∧H'=upd H q (.tup [x,y]),
   fun i H=>∃ xs ys,SqL K H a xs∧SqL K H b ys∧(xs.length≤i∨ys.length≤i)⟩
theorem Zhk {P:Program} {w:World} {K:PySem.W.Frag} {elts:List Expr} {x1:Nat} {pos:Pos} (a b z TI TO i1 i2:Addr) (D:ZipApart z TI TO i1 i2 a b) :
  Turn P w K (.Tuple elts x1 pos) (Itz K a b) [z,TI,TO,i1,i2] z (fun i h=>IsZip h z TI TO .none∧IsPair h TI (.ref i1) (.ref i2)∧(∃ u v,IsPair h TO u v)∧h.IsListIter i1 a i∧h.IsListIter i2 b i) where
 mem:=by simp
 obj:=fun i h st c hc=>by
  obtain ⟨s1,s2,⟨u,v,s3⟩,⟨o4,e4,c4,d4⟩,o5,e5,c5,d5⟩:=st
  have hc:c=z∨c=TI∨c=TO∨c=i1∨c=i2:=by simpa using hc
  rcases hc with rfl | rfl | rfl | rfl | rfl
  ·exact ⟨_,s1,fun v y=>by have y':Data.fields _=Data.cell v:=y; cases y'⟩
  ·exact ⟨_,s2,fun v y=>by have y':Data.seq _ _=Data.cell v:=y; cases y'⟩
  ·exact ⟨_,s3,fun v y=>by have y':Data.seq _ _=Data.cell v:=y; cases y'⟩
  ·exact ⟨o4,e4,fun v y=>by rw [d4] at y; cases y⟩
  ·exact ⟨o5,e5,fun v y=>by rw [d5] at y; cases y⟩
 keep:=fun i h h' st k=>by
  obtain ⟨s1,s2,⟨u,v,s3⟩,s4,s5⟩:=st
  exact ⟨k z (by simp) _ s1,k TI (by simp) _ s2,⟨u,v,k TO (by simp) _ s3⟩,s4.at fun o e=>k i1 (by simp) o e,s5.at fun o e=>k i2 (by simp) o e⟩
 item:=by
  intro X hP hw hK hc i pins s σ H E I hf st hg
  subst hP hw hK
  obtain ⟨xs,ys,x,y,hqx,hqy,hx,hy⟩:=hg
  obtain ⟨itx,rvx,px,_⟩:=I.list hqx
  obtain ⟨ity,rvy,py,_⟩:=I.list hqy
  obtain ⟨u,hu,ru⟩:=rvx.get hx
  obtain ⟨v,hv,rv⟩:=rvy.get hy
  obtain ⟨s1,s2,⟨u0,v0,s3⟩,s4,s5⟩:=st
  refine wpAny_pyNext_zip_item D s1 s2 s3 s4 s5 px.isList py.isList (x:=u) (y:=v) (by simpa using hu) (by simpa using hv) fun h' a1 a2 a3 a4 a5 a6 a7=>?_
  refine ⟨.ref s.heap.objs.size,rfl,wpAny_letOwnedTupleGo_zip a1 fun h'' b1 sb=>?_⟩
  have lt:∀ c∈[z,TI,TO,i1,i2],c < s.heap.objs.size:=fun c hc=>by
   obtain ⟨o,e,_⟩:∃ o,s.heap.get? c=some o∧True:=by
    have hc:c=z∨c=TI∨c=TO∨c=i1∨c=i2:=by simpa using hc
    rcases hc with rfl | rfl | rfl | rfl | rfl
    ·exact ⟨_,s1,trivial⟩
    ·exact ⟨_,s2,trivial⟩
    ·exact ⟨_,s3,trivial⟩
    ·obtain ⟨o,e,_⟩:=s4; exact ⟨o,e,trivial⟩
    ·obtain ⟨o,e,_⟩:=s5; exact ⟨o,e,trivial⟩
   exact Heap.lt_size e
  have keepb:∀ c o,c≠z→c≠TO→c≠i1→c≠i2→s.heap.get? c=some o→h''.get? c=some o:=fun c o n1 n2 n3 n4 e=>(sb.2 c n1).trans (a7 c o n1 n2 n3 n4 e)
  have zl:=lt z (by simp)
  have ht'':h''.get? s.heap.objs.size=some { cls:=.type "tuple",data:=.seq #[u,v] }:=(sb.2 _ (Nat.ne_of_gt zl)).trans a5
  have hn:H s.heap.objs.size=none:=I.hok.fresh (Nat.le_refl _)
  have I2:Inv X pins σ (upd H s.heap.objs.size (.tup [x,y])) { s with heap:=h'' }:=by
   have out:∀ c,c ∉ [z,TO,i1,i2]→c≠z∧c≠TO∧c≠i1∧c≠i2:=fun c hc=>by simpa using hc
   refine I.step (g':=s.gens) (d':=s.drawn) (ch:=[z,TO,i1,i2]) (fun c hc=>?_) (fun c o _ _ hc q _=>?_) (fun c o _ _ hc q _=>⟨o.slots,?_⟩) (fun c o _ q n=>by rw [Zf (Nat.ne_of_lt (Heap.lt_size q))]; exact n)
    (fun c o hc q=>⟨o,?_⟩) (fun c zs q=>by rw [Zf (Zk q hn)]; exact q) (fun c o zs q=>by rw [Zf (Zk q hn)]; exact q) (fun c ps q=>⟨#[],by rw [Zf (Zk q hn),q]; simp⟩) (fun m hm=>?_) (fun c v' q=>?_) I.bare
   ·have hc:c=z∨c=TO∨c=i1∨c=i2:=by simpa using hc
    have hm:c∈[z,TI,TO,i1,i2]:=by rcases hc with rfl | rfl | rfl | rfl <;> simp
    obtain ⟨f0,f1,f2,f3,f4,f5⟩:=hf c hm
    exact ⟨f3,f1,f4,f5⟩
   ·obtain ⟨n1,n2,n3,n4⟩:=out c hc; exact keepb c o n1 n2 n3 n4 q
   ·obtain ⟨n1,n2,n3,n4⟩:=out c hc; exact keepb c o n1 n2 n3 n4 q
   ·obtain ⟨n1,n2,n3,n4⟩:=out c hc; exact keepb c o n1 n2 n3 n4 q
   ·obtain ⟨o,es,ep,ho,r⟩:=hm
    exact ⟨o,es,ep,keepb _ o (Ne.symm (hf z (by simp)).2.1) (Ne.symm (hf TO (by simp)).2.1) (Ne.symm (hf i1 (by simp)).2.1) (Ne.symm (hf i2 (by simp)).2.1) ho,r⟩
   ·by_cases hb:c=s.heap.objs.size
    ·subst hb
     rw [Zb] at q
     cases q
     exact ⟨by show 2≤sizeLine; decide,[u,v],.cons ru (.cons rv .nil),⟨_,ht'',rfl,_,rfl⟩⟩
    ·rw [Zf hb] at q
     refine (I.hok c v' q).stay (fun e w' he y'=>keepb e w' ?_ ?_ ?_ ?_ y') (fun d y'=>by rw [Zf (Zk y' hn)]; exact y') fun d zs y'=>by rw [Zf (Zk y' hn)]; exact y'
     all_goals
      rintro rfl
      have hz0:H e=none:=(hf e (by simp)).1
      rcases he with y' | y'
      ·rw [y',q] at hz0; cases hz0
      ·rw [hz0] at y'; cases y'
  refine ⟨.ref s.heap.objs.size,_,I2,rfl,⟨_,x,y,hn,rfl,fun xs' hy'=>by rw [I.list_inj hy' hqx]; exact hx,fun ys' hy'=>by rw [I.list_inj hy' hqy]; exact hy,rfl⟩,
   ⟨b1,(sb.2 TI D.TIz).trans (a7 TI _ D.TIz D.TITO D.TIi1 D.TIi2 s2),⟨u,v,(sb.2 TO D.TOz).trans a2⟩,a3.at fun o e=>(sb.2 i1 D.i1z).trans e,a4.at fun o e=>(sb.2 i2 D.i2z).trans e⟩,fun c hc=>?_⟩
  rw [Zf (Nat.ne_of_lt (lt c hc))]
  exact (hf c hc).1
 done:=by
  intro X hP hw hK hc i pins s σ H E I hf st hg
  subst hP hw hK
  obtain ⟨xs,ys,hqx,hqy,hlen⟩:=hg
  obtain ⟨itx,rvx,px,_⟩:=I.list hqx
  obtain ⟨ity,rvy,py,_⟩:=I.list hqy
  obtain ⟨s1,s2,⟨u0,v0,s3⟩,s4,s5⟩:=st
  have l1:=rvx.length
  have l2:=rvy.length
  refine wpAny_pyNext_zip_end (I.ok.hd hc) D s1 s2 s3 s4 s5 px.isList py.isList ?_ fun h' eb=>⟨rfl,?_⟩
  ·rcases hlen with z | z
   ·exact .inl (by simp; omega)
   ·exact .inr (by simp; omega)
  ·have out:∀ c,c ∉ [z,TO,i1,i2]→c≠z∧c≠TO∧c≠i1∧c≠i2:=fun c hc=>by simpa using hc
   refine I.step (g':=s.gens) (d':=s.drawn) (t':=s.toks) (ch:=[z,TO,i1,i2]) (fun c hc=>?_) (fun c o _ _ hc q _=>?_) (fun c o _ _ hc q _=>⟨o.slots,?_⟩) (fun c o _ q n=>n)
    (fun c o hc q=>⟨o,?_⟩) (fun c zs q=>q) (fun c o zs q=>q) (fun c ps q=>⟨#[],by rw [q]; simp⟩) (fun m hm=>?_) (fun c v' q=>?_) I.bare
   ·have hc:c=z∨c=TO∨c=i1∨c=i2:=by simpa using hc
    have hm:c∈[z,TI,TO,i1,i2]:=by rcases hc with rfl | rfl | rfl | rfl <;> simp
    obtain ⟨f0,f1,f2,f3,f4,f5⟩:=hf c hm
    exact ⟨f3,f1,f4,f5⟩
   ·obtain ⟨n1,n2,n3,n4⟩:=out c hc; exact eb c o n1 n2 n3 n4 q
   ·obtain ⟨n1,n2,n3,n4⟩:=out c hc; exact eb c o n1 n2 n3 n4 q
   ·obtain ⟨n1,n2,n3,n4⟩:=out c hc; exact eb c o n1 n2 n3 n4 q
   ·obtain ⟨o,es,ep,ho,r⟩:=hm
    exact ⟨o,es,ep,eb _ o (Ne.symm (hf z (by simp)).2.1) (Ne.symm (hf TO (by simp)).2.1) (Ne.symm (hf i1 (by simp)).2.1) (Ne.symm (hf i2 (by simp)).2.1) ho,r⟩
   ·refine (I.hok c v' q).stay (fun e w' he y'=>eb e w' ?_ ?_ ?_ ?_ y') (fun d y'=>y') fun d zs y'=>y'
    all_goals
     rintro rfl
     have hz0:H e=none:=(hf e (by simp)).1
     rcases he with y' | y'
     ·rw [y',q] at hz0; cases hz0
     ·rw [hz0] at y'; cases y'
 self:=fun _ _ _ _ _ st h=>wpAny_pyIter_zip st.1 h
theorem Zfa {N a b:Nat} (la:a < N) (lb:b < N):ZipApart (N + 4) (N + 2) (N + 3) N (N + 1) a b:=by
 constructor <;> (intro z; first | exact absurd (show (_:Nat)=_ from z) (by omega) | omega)
variable {X:Cx}
noncomputable def iZip (K:PySem.W.Frag) (ta:TA):TI:=fun σ H R=>ta σ H fun vs H1=>∃ a b xs ys,vs=[.ref a,.ref b]∧SqL K H1 a xs∧SqL K H1 b ys∧R (Itz K a b) H1
theorem Zf3 {elts:List Expr} {x1:Nat} {tpos p pos:Pos} {l m:Expr} {ta:TA} (hg:Gl X "zip") (hm:X.mg "zip"=none) (ha:PA X [l,m] ta) (hs:starEach [l,m] X.env=[(false,eval l X.env),(false,eval m X.env)]:=by rfl) (hs2:starEach [m] X.env=[(false,eval m X.env)]:=by rfl) :
  PI X (.Tuple elts x1 tpos) (.Call (.Name "zip" p) [l,m] [] pos) (iZip X.K ta):=by
 intro pins s σ H R I h
 refine Call_ (X2 I hg hm boot_zip (PyProof.Rows.callWith_type1 (thn (ha pos pins s σ H _ I h) fun us s1 ⟨vs,H1,I1,r1,q1⟩=>?_) (by rw [hs,hs2]) (by rw [hs2]; rfl)))
 obtain ⟨a,b,xs,ys,e,hqx,hqy,q⟩:=q1
 subst e
 obtain ⟨u,v,rfl,ru,rv⟩:=r1.two
 cases ru
 cases rv
 obtain ⟨itx,rvx,px,_⟩:=I1.list hqx
 obtain ⟨ity,rvy,py,_⟩:=I1.list hqy
 have la:a < s1.heap.objs.size:=by obtain ⟨o,ho,_⟩:=px.isList; exact Heap.lt_size ho
 have lb:b < s1.heap.objs.size:=by obtain ⟨o,ho,_⟩:=py.isList; exact Heap.lt_size ho
 refine call_zip_2 px.isList py.isList fun h' z1 z2 z3 z4 z5 z6 z7=>wpAny_pyIter_zip z1 ?_
 have I2:Inv X pins σ H1 { s1 with heap:=h' }:=I1.kept (t':=s1.toks) z7
 generalize hN:s1.heap.objs.size=N at *
 refine ⟨N + 4,[N + 4,N + 2,N + 3,N,N + 1],_,_,H1,rfl,I2,Zhk a b (N + 4) (N + 2) (N + 3) N (N + 1) (Zfa la lb),⟨z1,z2,⟨_,_,z3⟩,z4,z5⟩,fun c hc=>?_,q⟩
 have hc:s1.heap.objs.size≤c:=by
  have hc:c=N + 4∨c=N + 2∨c=N + 3∨c=N∨c=N + 1:=by simpa using hc
  rw [hN]
  rcases hc with rfl | rfl | rfl | rfl | rfl
  ·exact Nat.le_add_right _ _
  ·exact Nat.le_add_right _ _
  ·exact Nat.le_add_right _ _
  ·exact Nat.le_refl _
  ·exact Nat.le_add_right _ _
 exact I1.fpOk hc (I1.hok.fresh hc)
theorem Zit {K:PySem.W.Frag} {a b:Addr} {xs ys:List V} {g:TG} {tt:TT} {tb:TB} {R:St→Hp→Prop} {σ:St} {H:Hp} (hlen:xs.length=ys.length) (Pv:Nat→St→Hp→Prop) (h0:Pv 0 σ H) (hl:∀ i σ H,i≤xs.length→Pv i σ H→SqL K H a xs∧SqL K H b ys)
  (hs:∀ (i:Nat) x y σ H q,xs[i]?=some x→ys[i]?=some y→H q=none→Pv i σ H→g (.ref q) σ (upd H q (.tup [x,y])) fun σ2 H2=>tt σ2 H2 fun b H3=>if b=true then tb σ2 H3 (Pv (i + 1)) else Pv (i + 1) σ2 H3) (hd:∀ σ H,Pv xs.length σ H→R σ H):Wx (Itz K a b) g tt tb R σ H:=by
 refine ⟨fun i m σ H=>m=xs.length - i∧i≤xs.length∧Pv i σ H,⟨xs.length,by simp,Nat.zero_le _,h0⟩,?_⟩
 rintro i m σ H ⟨rfl,hi,p⟩
 obtain ⟨q1,q2⟩:=hl i σ H hi p
 by_cases hlt:i < xs.length
 ·have hlt2:i < ys.length:=by omega
  refine .inr ⟨⟨xs,ys,xs[i],ys[i],q1,q2,by simp [hlt],by simp [hlt2]⟩,Pv (i + 1),fun σ' H' p'=>⟨xs.length - (i + 1),by omega,rfl,hlt,p'⟩,fun x H' y=>?_⟩
  obtain ⟨c,u,v,hn,e1,y1,y2,e2⟩:=y
  subst e1 e2
  exact hs i u v σ H c (y1 xs q1) (y2 ys q2) hn p
 ·have e:i=xs.length:=by omega
  subst e
  exact .inl ⟨⟨xs,ys,q1,q2,.inl (Nat.le_refl _)⟩,hd σ H p⟩
theorem Zlj {K:PySem.W.Frag} {a b:Addr} {xs ys:List V} {g:TG} {tb:TS} {D:Ends} {σ:St} {H:Hp} (hlen:xs.length=ys.length) (Pv:Nat→St→Hp→Prop) (h0:Pv 0 σ H) (hl:∀ i σ H,i≤xs.length→Pv i σ H→SqL K H a xs∧SqL K H b ys)
  (hs:∀ i x y σ H q,xs[i]?=some x→ys[i]?=some y→H q=none→Pv i σ H→g (.ref q) σ (upd H q (.tup [x,y])) fun σ2 H2=>tb { D with nx:=Pv (i + 1),ct:=Pv (i + 1),bk:=D.nx } σ2 H2) (hd:∀ σ H,Pv xs.length σ H→D.nx σ H) :
  ∃ W:Nat→Nat→St→Hp→Prop,(∃ m,W 0 m σ H)∧∀ i m σ H,W i m σ H →
   ((Itz K a b).stop i H∧D.nx σ H)∨((Itz K a b).go i H∧∃ N:St→Hp→Prop,(∀ σ' H',N σ' H'→∃ m',m' < m∧W (i + 1) m' σ' H')∧∀ x H',(Itz K a b).yld i H x H'→g x σ H' fun σ2 H2=>tb { D with nx:=N,ct:=N,bk:=D.nx } σ2 H2):=by
 refine ⟨fun i m σ H=>m=xs.length - i∧i≤xs.length∧Pv i σ H,⟨xs.length,by simp,Nat.zero_le _,h0⟩,?_⟩
 rintro i m σ H ⟨rfl,hi,p⟩
 obtain ⟨q1,q2⟩:=hl i σ H hi p
 by_cases hlt:i < xs.length
 ·have hlt2:i < ys.length:=by omega
  refine .inr ⟨⟨xs,ys,xs[i],ys[i],q1,q2,by simp [hlt],by simp [hlt2]⟩,Pv (i + 1),fun σ' H' p'=>⟨xs.length - (i + 1),by omega,rfl,hlt,p'⟩,fun x H' y=>?_⟩
  obtain ⟨c,u,v,hn,e1,y1,y2,e2⟩:=y
  subst e1 e2
  exact hs i u v σ H c (y1 xs q1) (y2 ys q2) hn p
 ·have e:i=xs.length:=by omega
  subst e
  exact .inl ⟨⟨xs,ys,q1,q2,.inl (Nat.le_refl _)⟩,hd σ H p⟩
end
end L2
set_option maxHeartbeats 4000000
namespace L2
open PySem PySem.Spec PyProof.Rows
section
variable {prog:Program} {w:World} {A:Around} {E:Value→Shared→Prop} {s:Shared}
noncomputable abbrev upIt (a n:Int):Obj:={ cls:=.type "range_iterator",data:=.fields #[rawInt (a + (n - 1) * 1),rawInt n,rawInt (-1)] }
theorem Vp {z:Int} (h1:-(2 ^ 62)≤z) (h2:z < 2 ^ 62):Builtin.Range.rangeFitsLong z=true:=by
 unfold Builtin.Range.rangeFitsLong
 rw [Bool.and_eq_true,decide_eq_true_eq,decide_eq_true_eq]
 omega
theorem Zh3 (r:Addr) (a b:Int) (t u v:Tok) (hs:(Builtin.Range.rangeFitsLong a && Builtin.Range.rangeFitsLong b && Builtin.Range.rangeFitsLong 1 && Builtin.Range.rangeFitsLong (-1) && Builtin.Range.rangeFitsLong (a - 1) && Builtin.Range.rangeFitsLong (Builtin.Range.rangeSize a b 1))=true) :
  Meets (Builtin.«range.__reversed__» ⟨[.ref r],[]⟩) (fun _ R s=>IsRange s.heap r a b 1 t u v∧R (.ok (.ret (.ref s.heap.objs.size))) { s with heap:=s.heap.push (upIt a (Builtin.Range.rangeSize a b 1)) }) :=
 .of_wp fun prog w A R s h=>by
  obtain ⟨hp,g,d,tk,os⟩:=s
  obtain ⟨hl,h⟩:=h
  unfold Builtin.«range.__reversed__»
  refine wpAny_bind (wpAny_of_eq (a:=Value.ref r) rfl ?_)
  refine wpAny_bind (m:=Builtin.Range.rangeFields (.ref r)) ?_
  unfold Builtin.Range.rangeFields
  refine wpAny_bind (wpAny_field hl rfl (x:=.int a t) rfl ?_)
  refine wpAny_bind (wpAny_of_eq (a:=some a) rfl ?_)
  refine wpAny_bind (wpAny_field hl rfl (x:=.int b u) rfl ?_)
  refine wpAny_bind (wpAny_of_eq (a:=some b) rfl ?_)
  refine wpAny_bind (wpAny_field hl rfl (x:=.int 1 v) rfl ?_)
  refine wpAny_bind (wpAny_of_eq (a:=some 1) rfl ?_)
  refine wpAny_pure ?_
  dsimp only
  simp only [hs,Bool.not_true,Bool.false_eq_true,if_false,if_true]
  exact wpAny_bind (wpAny_newObj_type (wpAny_pure ⟨_,rfl,h⟩))
theorem Zmg:isSubtype (.type "range_iterator") (.type "reversed")=pure false:=by
 rw [isSubtype_type]
 kernel_rfl
theorem Zkj {r:Addr} {a b:Int} {t u v:Tok} {Z:Value→Shared→Prop} (hr:IsRange s.heap r a b 1 t u v)
  (hs:(Builtin.Range.rangeFitsLong a && Builtin.Range.rangeFitsLong b && Builtin.Range.rangeFitsLong 1 && Builtin.Range.rangeFitsLong (-1) && Builtin.Range.rangeFitsLong (a - 1) && Builtin.Range.rangeFitsLong (Builtin.Range.rangeSize a b 1))=true)
  (q:Z (.ref s.heap.objs.size) { s with heap:=s.heap.push (upIt a (Builtin.Range.rangeSize a b 1)) }) :
  codeAny (model prog w) A (.call (.builtin "reversed.__new__") ⟨[.type "reversed",.ref r],[]⟩) (wants Z E) s:=by
 have hT:s.TypeIs (.ref r) "range":=⟨_,hr,rfl⟩
 refine codeAny_of_tree (show wpAny _ A.in1 (checkBuiltinCall "reversed.__new__" ⟨[.type "reversed",.ref r],[]⟩ >>= fun _=>again (.builtin "reversed.__new__" ⟨[.type "reversed",.ref r],[]⟩)) _ _ s from ?_)
 refine wpAny_bind (wpAny_of_eq (PySem.F.newCall_reversed_1 (.ref r)) (wpAny_pure ⟨plainId_quiet PySem.F.plain_reversed_new _,codeAny_builtin PySem.F.entry_reversed_new ?_⟩))
 rw [Around.under_plainId PySem.F.plain_reversed_new _]
 unfold Builtin.«reversed.__new__»
 refine wpAny_bind (wpAny_of_eq (newClass_reversed (.ref r)) ?_)
 refine wpAny_bind (wpAny_of_eq (a:=()) (by first | rfl | kernel_rfl) (wpAny_bind (wpAny_of_eq (a:=()) (by first | rfl | kernel_rfl) ?_)))
 refine wpAny_bind (wpAny_specialOf hT PySem.F.slot_range_reversed.lookup (wpAny_bind (wpAny_of_eq (PySem.F.slot_range_reversed.bind (.ref r)) ?_)))
 have ne:¬ ((Value.builtin "range.__reversed__" == Value.none)=true):=Bool.false_ne_true
 dsimp only
 first | rw [if_neg ne] | (show wpAny _ _ (if (Value.builtin "range.__reversed__" == Value.none)=true then _ else _) _ _ _; rw [if_neg ne])
 refine wpAny_bind (wpAny_rule (wpAny_bind (m:=runValue (.call (.builtin "range.__reversed__") ⟨[.ref r],[]⟩)) ?_))
 show wpAny _ _ (call (.builtin "range.__reversed__") [.ref r]) _ _ _
 refine call_meets PySem.F.slot_range_reversed hT PySem.F.entry_range_reversed (PySem.F.args_range_reversed_1 _) (Zh3 r a b t u v hs) ⟨hr,?_⟩
 first | exact wpAny_pure q | exact wpAny_bind (wpAny_pure (wpAny_pure q))
theorem Zkk {r:Addr} {a b:Int} {t u v:Tok} {Q:Value→Shared→Prop} (hr:IsRange s.heap r a b 1 t u v)
  (hs:(Builtin.Range.rangeFitsLong a && Builtin.Range.rangeFitsLong b && Builtin.Range.rangeFitsLong 1 && Builtin.Range.rangeFitsLong (-1) && Builtin.Range.rangeFitsLong (a - 1) && Builtin.Range.rangeFitsLong (Builtin.Range.rangeSize a b 1))=true)
  (q:Q (.ref s.heap.objs.size) { s with heap:=s.heap.push (upIt a (Builtin.Range.rangeSize a b 1)) }):wpAny (model prog w) A (call (.type "reversed") [.ref r]) Q E s:=by
 refine callType_other (U:="range_iterator") (Q₁:=fun o z=>o=.ref s.heap.objs.size∧z={ s with heap:=s.heap.push (upIt a (Builtin.Range.rangeSize a b 1)) }) (by decide +kernel) PySem.F.create_reversed ⟨_,_,PySem.F.mro_reversed⟩ PySem.F.made_reversed Zmg (PySem.F.typeCall_reversed_1 _) (Zkj hr hs ⟨rfl,rfl⟩) ?_
 rintro o z ⟨rfl,rfl⟩
 exact ⟨⟨_,Heap.get?_push_size _ rfl,rfl⟩,q⟩
end
section
variable {X:Cx} {tg:Expr}
noncomputable def Zn3 (ta:TA):TI:=fun σ H R=>ta σ H fun vs H1=>∃ (i:Int) (n:Nat),vs=[.int i,.int (i + n)]∧0≤i∧i + n≤100000∧R (Itr3 (i + n - 1) (-1) n) H1
theorem Zku {a b:Expr} {ta:TA} {p1 p2 pos pos2:Pos} (hgl:Gl X "reversed") (hml:X.mg "reversed"=none) (hg:Gl X "range") (hm:X.mg "range"=none) (ha:PA X [a,b] ta) (hs:starEach [a,b] X.env=[(false,eval a X.env),(false,eval b X.env)]:=by rfl) (hsb:starEach [b] X.env=[(false,eval b X.env)]:=by rfl)
  (hs2:starEach [.Call (.Name "range" p2) [a,b] [] pos2] X.env=[(false,eval (.Call (.Name "range" p2) [a,b] [] pos2) X.env)]:=by rfl):PI X tg (.Call (.Name "reversed" p1) [.Call (.Name "range" p2) [a,b] [] pos2] [] pos) (Zn3 ta):=by
 intro pins s σ H R I h
 refine Call_ (X2 I hgl hml boot_reversed (PyProof.Rows.callWith_type1 ?_ hs2 rfl))
 rw [hs2]
 refine Calls.spliced_cons ?_
 refine Call_ (X2 I hg hm boot_range (PyProof.Rows.callWith_type1 (thn (ha pos2 pins s σ H _ I h) fun us s1 ⟨vs,H1,I1,r1,q1⟩=>?_) (by rw [hs,hsb]) (by rw [hsb]; rfl)))
 obtain ⟨i,n,e,h0,h1,q⟩:=q1
 subst e
 obtain ⟨u,v,rfl,ru,rv⟩:=r1.two
 obtain ⟨t,rfl⟩:=ru
 obtain ⟨t',rfl⟩:=rv
 refine call_range_2 (Calls.spliced_nil ?_)
 have hr:Builtin.Range.rangeSize i (i + n) 1=n:=by rw [rangeSize_one]; split <;> omega
 have fits:(Builtin.Range.rangeFitsLong i && Builtin.Range.rangeFitsLong (i + n) && Builtin.Range.rangeFitsLong 1 && Builtin.Range.rangeFitsLong (-1) && Builtin.Range.rangeFitsLong (i - 1) && Builtin.Range.rangeFitsLong (Builtin.Range.rangeSize i (i + n) 1))=true:=by
  rw [hr,Vp (by omega) (by omega),Vp (by omega) (by omega),Vp (by decide) (by decide),Vp (by decide) (by decide),Vp (by omega) (by omega),Vp (by omega) (by omega)]
  rfl
 refine Zkk (IsRange.new ..) fits ?_
 rw [hr]
 have I2:Inv X pins σ H1 { s1 with heap:=s1.heap.push { cls:=.type "range",data:=.fields #[.int i t,.int (i + n) t',.int 1 s1.toks] },toks:=s1.toks + 1 }:=I1.kept fun b o e=>Heap.get?_push_of_some _ e
 have st:IsRangeIter ((s1.heap.push { cls:=.type "range",data:=.fields #[.int i t,.int (i + n) t',.int 1 s1.toks] }).push (upIt i n)) (s1.heap.push { cls:=.type "range",data:=.fields #[.int i t,.int (i + n) t',.int 1 s1.toks] }).objs.size (i + n - 1 + ((0:Nat):Int) * (-1)) ((n:Int) - ((0:Nat):Int)) (-1):=by
  have e1:i + (n:Int) - 1 + ((0:Nat):Int) * (-1)=i + ((n:Int) - 1) * 1:=by simp; omega
  have e2:(n:Int) - ((0:Nat):Int)=n:=by simp
  rw [e1,e2]
  exact Heap.get?_push_size _ rfl
 refine wpAny_pyIter_rangeiter st ?_
 refine ⟨_,[(s1.heap.push { cls:=.type "range",data:=.fields #[.int i t,.int (i + n) t',.int 1 s1.toks] }).objs.size],_,_,H1,rfl,I2.kept (t':=s1.toks + 1) fun b o e=>Heap.get?_push_of_some _ e,Oi _ (i + n - 1) (-1) n,st,fun b hb=>?_,q⟩
 have e:b=(s1.heap.push { cls:=.type "range",data:=.fields #[.int i t,.int (i + n) t',.int 1 s1.toks] }).objs.size:=by simpa using hb
 subst e
 exact I2.fpOk (Nat.le_refl _) (I2.hok.fresh (Nat.le_refl _))
theorem Ze0 {lo st:Int} {n:Nat} {g:TG} {tb:TS} {D:Ends} {σ:St} {H:Hp} (Pv:Nat→St→Hp→Prop) (h0:Pv 0 σ H)
  (hs:∀ (i:Nat) σ H,i < n→Pv i σ H→g (.int (lo + i * st)) σ H fun σ2 H2=>tb { D with nx:=Pv (i + 1),ct:=Pv (i + 1),bk:=D.nx } σ2 H2) (hd:∀ σ H,Pv n σ H→D.nx σ H) :
  ∃ W:Nat→Nat→St→Hp→Prop,(∃ m,W 0 m σ H)∧∀ i m σ H,W i m σ H →
   ((Itr3 lo st n).stop i H∧D.nx σ H)∨((Itr3 lo st n).go i H∧∃ N:St→Hp→Prop,(∀ σ' H',N σ' H'→∃ m',m' < m∧W (i + 1) m' σ' H')∧∀ x H',(Itr3 lo st n).yld i H x H'→g x σ H' fun σ2 H2=>tb { D with nx:=N,ct:=N,bk:=D.nx } σ2 H2):=by
 refine ⟨fun i m σ H=>m=n - i∧i≤n∧Pv i σ H,⟨n,by simp,Nat.zero_le _,h0⟩,?_⟩
 rintro i m σ H ⟨rfl,hi,p⟩
 by_cases hlt:i < n
 ·refine .inr ⟨hlt,Pv (i + 1),fun σ' H' p'=>⟨n - (i + 1),by omega,rfl,hlt,p'⟩,fun x H' y=>?_⟩
  obtain ⟨e,y⟩:=y
  subst e y
  exact hs i σ _ hlt p
 ·have e:i=n:=by omega
  subst e
  exact .inl ⟨Nat.le_refl _,hd σ H p⟩
theorem Zkw {pos:Pos} (K:PySem.W.Frag) {es:List Expr} {k:Nat} {t:TGs} {n:Nat} (hc:X.calm=true) (h:PGs X es t)
  (hn:(assignEach es X.env).length=n:=by rfl) (hst:(assignEach es X.env).findIdx? (·.1)=none:=by rfl) (hk:X.K=K:=by rfl):PG X (.Tuple es k pos) (gTup K n t):=hk ▸ W0 hc h hn hst
end
end L2
set_option maxHeartbeats 4000000
namespace KT
open PySem L2
noncomputable def mV:Option Nat→V
 | none=>.non
 | some j=>.int j
structure TD (M:List (Option Nat)) (ns:List Int):Prop where
 n:∃ n,1≤n∧n≤40∧M.length=3 * n
 len:ns.length=M.length
 inv:∀ (i j:Nat),M[i]?=some (some j)→M[j]?=some (some i)∧i≠j
 rng:∀ (i:Nat) x,ns[i]?=some x→0≤x∧x≤9999
 eqv:∀ (i j:Nat) x,ns[i]?=some x→ns[j]?=some x→i=j∨M[i]?=some (some j)
 eqm:∀ (i j:Nat),M[i]?=some (some j)→ns[j]?=ns[i]?
structure SewOk (N:Nat) (F:List Nat) (M:List (Option Nat)):Prop where
 len:M.length=N
 nd:F.Nodup
 free:∀ f∈F,f < N∧M[f]?=some none
 inv:∀ (i j:Nat),M[i]?=some (some j)→M[j]?=some (some i)∧i≠j
theorem SewOk.start (N:Nat):SewOk N (List.range N) (List.replicate N none):=by
 refine ⟨by simp,List.nodup_range,fun f hf=>?_,fun i j h=>?_⟩
 ·have h:=List.mem_range.mp hf
  exact ⟨h,by rw [List.getElem?_replicate,if_pos h]⟩
 ·rw [List.getElem?_replicate] at h
  split at h <;> cases h
theorem SewOk.skip {N:Nat} {one:Nat} {F:List Nat} {M:List (Option Nat)} (h:SewOk N (one :: F) M):SewOk N F M :=
 ⟨h.len,(List.nodup_cons.mp h.nd).2,fun f hf=>h.free f (List.mem_cons_of_mem _ hf),h.inv⟩
theorem SewOk.pair {N:Nat} {one other k:Nat} {F:List Nat} {M:List (Option Nat)} (h:SewOk N (one :: F) M) (hk:F[k]?=some other):SewOk N (F.eraseIdx k) ((M.set one (some other)).set other (some one)):=by
 obtain ⟨n1,n2⟩:=List.nodup_cons.mp h.nd
 have hm:other∈F:=List.mem_of_getElem? hk
 have hne:one≠other:=fun z=>n1 (z ▸ hm)
 obtain ⟨h1,f1⟩:=h.free one List.mem_cons_self
 obtain ⟨h2,f2⟩:=h.free other (List.mem_cons_of_mem _ hm)
 have l1:one < M.length:=by rw [h.len]; exact h1
 have l2:other < M.length:=by rw [h.len]; exact h2
 have g1:((M.set one (some other)).set other (some one))[one]?=some (some other):=by
  rw [List.getElem?_set_ne (Ne.symm hne),List.getElem?_set_self l1]
 have g2:((M.set one (some other)).set other (some one))[other]?=some (some one):=by
  rw [List.getElem?_set_self (by rw [List.length_set]; exact l2)]
 have g3:∀ i,i≠one→i≠other→((M.set one (some other)).set other (some one))[i]?=M[i]?:=fun i a b=>by
  rw [List.getElem?_set_ne (Ne.symm b),List.getElem?_set_ne (Ne.symm a)]
 refine ⟨by rw [List.length_set,List.length_set]; exact h.len,n2.sublist (List.eraseIdx_sublist F k),fun f hf=>?_,fun i j e=>?_⟩
 ·obtain ⟨i,hi,hik,e⟩:=List.mem_eraseIdx_iff_getElem.mp hf
  have fm:f∈F:=e ▸ List.getElem_mem hi
  obtain ⟨a,b⟩:=h.free f (List.mem_cons_of_mem _ fm)
  have c1:f≠one:=fun z=>n1 (z ▸ fm)
  have c2:f≠other:=fun z=>by
   obtain ⟨hk',ek⟩:=List.getElem?_eq_some_iff.mp hk
   exact hik ((List.getElem_inj n2).mp (e.trans (z.trans ek.symm)))
  exact ⟨a,by rw [g3 f c1 c2]; exact b⟩
 ·by_cases c1:i=one
  ·subst c1
   rw [g1] at e
   cases e
   exact ⟨g2,hne⟩
  ·by_cases c2:i=other
   ·subst c2
    rw [g2] at e
    cases e
    exact ⟨g1,Ne.symm hne⟩
   ·rw [g3 i c1 c2] at e
    obtain ⟨a,b⟩:=h.inv i j e
    have d1:j≠one:=fun z=>by rw [z,f1] at a; cases a
    have d2:j≠other:=fun z=>by rw [z,f2] at a; cases a
    exact ⟨by rw [g3 j d1 d2]; exact a,b⟩
noncomputable def nm (s t:Int) (i:Nat):Int:=(s + t * i) % 10000
noncomputable def rep (M:List (Option Nat)) (i:Nat):Nat:=match M[i]? with
 | some (some j)=>if j < i then j else i
 | _=>i
noncomputable def flat (M:List (Option Nat)) (s t:Int):List Int:=(List.range M.length).map fun i=>nm s t (rep M i)
noncomputable def Vs:List Int:=[1,3,7,9,37,1009,3333,9999]
theorem nm_d:∀ t∈Vs,∀ d:Fin 42,t * ((d.val:Nat):Int) % 10000=0→d.val=0:=by decide +kernel
theorem Zmw {s t:Int} (ht:t∈Vs) {i j:Nat} (hi:i < 42) (hj:j < 42) (h:nm s t i=nm s t j):i=j:=by
  have key:∀ a b:Nat,b≤a→a < 42→nm s t a=nm s t b→a=b:=fun a b hab ha e=>by
    have e2:=Int.emod_eq_emod_iff_emod_sub_eq_zero.mp e
    rw [Int.add_sub_add_left,← Int.mul_sub,← Int.natCast_sub hab] at e2
    have:=nm_d t ht ⟨a - b,Nat.lt_of_le_of_lt (Nat.sub_le _ _) ha⟩ e2
    exact Nat.le_antisymm (Nat.sub_eq_zero_iff_le.mp this) hab
  rcases Nat.le_total i j with h' | h'
  · exact (key j i h' hj h.symm).symm
  · exact key i j h' hi h
theorem Zfx {M:List (Option Nat)} {i N:Nat} (h:i < N):rep M i < N:=by
 unfold rep
 split
 ·split <;> omega
 ·exact h
theorem Ul (M:List (Option Nat)) (i:Nat):rep M i=i∨(∃ j,M[i]?=some (some j)∧j < i∧rep M i=j):=by
 cases e:M[i]? with
 | none=>exact .inl (by unfold rep; rw [e])
 | some o =>
  cases o with
  | none=>exact .inl (by unfold rep; rw [e])
  | some j =>
   by_cases h:j < i
   ·exact .inr ⟨j,rfl,h,by unfold rep; rw [e]; exact if_pos h⟩
   ·exact .inl (by unfold rep; rw [e]; exact if_neg h)
theorem O6 {M:List (Option Nat)} {s t:Int} {i:Nat} {x:Int} (h:(flat M s t)[i]?=some x):i < M.length∧x=nm s t (rep M i):=by
 unfold flat at h
 rw [List.getElem?_map] at h
 by_cases hi:i < M.length
 ·rw [List.getElem?_range hi] at h
  exact ⟨hi,(Option.some.inj h).symm⟩
 ·rw [List.getElem?_eq_none (by simpa using hi)] at h
  cases h
theorem Zdy {M:List (Option Nat)} {s t:Int} {i:Nat} (hi:i < M.length):(flat M s t)[i]?=some (nm s t (rep M i)):=by
 unfold flat
 rw [List.getElem?_map,List.getElem?_range hi]
 rfl
theorem Zj1 {M:List (Option Nat)} {s t:Int} {n:Nat} (h1:1≤n) (h2:n≤14) (hM:M.length=3 * n) (hinv:∀ (i j:Nat),M[i]?=some (some j)→M[j]?=some (some i)∧i≠j) (ht:t∈Vs):TD M (flat M s t) where
 n:=⟨n,h1,by omega,hM⟩
 len:=by unfold flat; simp
 inv:=hinv
 rng:=fun i x h=>by
  obtain ⟨_,rfl⟩:=O6 h
  unfold nm
  omega
 eqv:=fun i j x hi hj=>by
  obtain ⟨li,ei⟩:=O6 hi
  obtain ⟨lj,ej⟩:=O6 hj
  have e:rep M i=rep M j:=Zmw ht (by have:=Zfx (M:=M) li; omega) (by have:=Zfx (M:=M) lj; omega) (ei.symm.trans ej)
  rcases Ul M i with a | ⟨a,ha,la,ra⟩
  ·rcases Ul M j with b | ⟨b,hb,lb,rb⟩
   ·exact .inl (a.symm.trans (e.trans b))
   ·have:b=i:=by rw [← rb,← e,a]
    subst this
    exact .inr (hinv j b hb).1
  ·rcases Ul M j with b | ⟨b,hb,lb,rb⟩
   ·have:a=j:=by rw [← ra,e,b]
    subst this
    exact .inr ha
   ·have:a=b:=by rw [← ra,e,rb]
    subst this
    have c1:=(hinv i a ha).1
    have c2:=(hinv j a hb).1
    rw [c1] at c2
    exact .inl (by cases c2; rfl)
 eqm:=fun i j h=>by
  obtain ⟨h',hne⟩:=hinv i j h
  have li:i < M.length:=(List.getElem?_eq_some_iff.mp h).1
  have lj:j < M.length:=(List.getElem?_eq_some_iff.mp h').1
  rw [Zdy li,Zdy lj]
  have e:rep M j=rep M i:=by
   by_cases c:j < i
   ·have a:rep M i=j:=by unfold rep; rw [h]; exact if_pos c
    have b:rep M j=j:=by unfold rep; rw [h']; exact if_neg (by omega)
    rw [a,b]
   ·have a:rep M i=i:=by unfold rep; rw [h]; exact if_neg c
    have b:rep M j=i:=by unfold rep; rw [h']; exact if_pos (by omega)
    rw [a,b]
  rw [e]
end KT
set_option maxHeartbeats 4000000
namespace KT
open PySem L2
noncomputable def pl (ns:List Int) (n:Nat) (x:Int):List Nat:=(List.range n).filter fun i=>decide (ns[i]?=some x)
noncomputable def keys (ns:List Int):Nat→List Int
 | 0=>[]
 | n + 1=>match ns[n]? with
  | some x=>if x∈keys ns n then keys ns n else keys ns n ++ [x]
  | none=>keys ns n
theorem Xo {ns:List Int} {n:Nat} {x:Int} {i:Nat}:i∈pl ns n x ↔ i < n∧ns[i]?=some x:=by
 unfold pl
 rw [List.mem_filter,List.mem_range]
 simp
theorem Zh9 (ns:List Int) (n:Nat) (x:Int):(pl ns n x).Nodup:=(List.nodup_range).sublist List.filter_sublist
theorem Zf2 (ns:List Int) (n:Nat) (x:Int):(pl ns n x).Pairwise (· < ·):=(List.pairwise_lt_range).sublist List.filter_sublist
theorem Zdi {ns:List Int} {n:Nat} {x:Int} (h:ns[n]?=some x):pl ns (n + 1) x=pl ns n x ++ [n]:=by
 unfold pl
 rw [List.range_succ,List.filter_append]
 congr 1
 simp [h]
theorem Zbk {ns:List Int} {n:Nat} {x:Int} (h:ns[n]?≠some x):pl ns (n + 1) x=pl ns n x:=by
 unfold pl
 rw [List.range_succ,List.filter_append]
 simp [h]
theorem Q7 {ns:List Int} {n:Nat} {x:Int} (h:ns[n]?=some x):keys ns (n + 1)=if x∈keys ns n then keys ns n else keys ns n ++ [x]:=by
 show (match ns[n]? with | some x=>if x∈keys ns n then keys ns n else keys ns n ++ [x] | none=>keys ns n)=_
 rw [h]
theorem Ju {ns:List Int}:∀ {n:Nat} {x:Int},x∈keys ns n ↔ ∃ i,i < n∧ns[i]?=some x
 | 0,x=>by simp [keys]
 | n + 1,x=>by
  have ih:=Ju (ns:=ns) (n:=n) (x:=x)
  have e:x∈keys ns (n + 1) ↔ x∈keys ns n∨ns[n]?=some x:=by
   cases h:ns[n]? with
   | none =>
    have:keys ns (n + 1)=keys ns n:=by
     show (match ns[n]? with | some x=>if x∈keys ns n then keys ns n else keys ns n ++ [x] | none=>keys ns n)=_
     rw [h]
    rw [this]; simp
   | some y =>
    rw [Q7 h]
    split
    ·constructor
     ·exact .inl
     ·rintro (z | z)
      ·exact z
      ·cases z; assumption
    ·rw [List.mem_append,List.mem_singleton]
     constructor
     ·rintro (z | z)
      ·exact .inl z
      ·exact .inr (by rw [z])
     ·rintro (z | z)
      ·exact .inl z
      ·exact .inr (by cases z; rfl)
  rw [e,ih]
  constructor
  ·rintro (⟨i,h1,h2⟩ | h)
   ·exact ⟨i,by omega,h2⟩
   ·exact ⟨n,by omega,h⟩
  ·rintro ⟨i,h1,h2⟩
   by_cases c:i=n
   ·subst c; exact .inr h2
   ·exact .inl ⟨i,by omega,h2⟩
theorem Zb4 (ns:List Int):∀ n,(keys ns n).length≤n
 | 0=>Nat.le_refl _
 | n + 1=>by
  have ih:=Zb4 ns n
  cases h:ns[n]? with
  | none =>
   have:keys ns (n + 1)=keys ns n:=by
    show (match ns[n]? with | some x=>if x∈keys ns n then keys ns n else keys ns n ++ [x] | none=>keys ns n)=_
    rw [h]
   rw [this]; omega
  | some y =>
   rw [Q7 h]
   split
   ·omega
   ·rw [List.length_append,List.length_singleton]; omega
theorem Zmm {ns:List Int} {n:Nat} {x:Int} (h:x ∉ keys ns n):pl ns n x=[]:=by
 cases e:pl ns n x with
 | nil=>rfl
 | cons a r =>
  have:a∈pl ns n x:=by rw [e]; exact List.mem_cons_self
  obtain ⟨h1,h2⟩:=Xo.mp this
  exact absurd (Ju.mpr ⟨a,h1,h2⟩) h
theorem Zbl {M:List (Option Nat)} {ns:List Int} (td:TD M ns) (n:Nat) (x:Int):(pl ns n x).length≤2:=by
 match e:pl ns n x with
 | []=>simp
 | [_]=>simp
 | [_,_]=>simp
 | a :: b :: c :: r =>
  exfalso
  have nd:=Zh9 ns n x
  rw [e] at nd
  have ha:=(Xo.mp (show a∈pl ns n x by rw [e]; simp)).2
  have hb:=(Xo.mp (show b∈pl ns n x by rw [e]; simp)).2
  have hc:=(Xo.mp (show c∈pl ns n x by rw [e]; simp)).2
  simp only [List.nodup_cons,List.mem_cons,not_or] at nd
  obtain ⟨⟨n1,n2,_⟩,⟨n3,_⟩,_⟩:=nd
  rcases td.eqv a b x ha hb with z | z
  ·exact n1 z
  ·rcases td.eqv a c x ha hc with y | y
   ·exact n2 y
   ·rw [z] at y
    cases y
    exact n3 rfl
theorem Vv {M:List (Option Nat)} {ns:List Int} (td:TD M ns) {x:Int} (hx:x∈keys ns ns.length) :
  (∃ a,pl ns ns.length x=[a]∧ns[a]?=some x∧M[a]?=some none)∨(∃ a b,a < b∧pl ns ns.length x=[a,b]∧ns[a]?=some x∧ns[b]?=some x∧M[a]?=some (some b)∧M[b]?=some (some a)):=by
 obtain ⟨i,h1,h2⟩:=Ju.mp hx
 have mi:i∈pl ns ns.length x:=Xo.mpr ⟨h1,h2⟩
 have l2:=Zbl td ns.length x
 have st:=Zf2 ns ns.length x
 match e:pl ns ns.length x with
 | []=>rw [e] at mi; simp at mi
 | [a] =>
  obtain ⟨ga,ha⟩:=Xo.mp (show a∈pl ns ns.length x by rw [e]; simp)
  refine .inl ⟨a,rfl,ha,?_⟩
  have la:a < M.length:=by rw [← td.len]; exact ga
  cases q:M[a]? with
  | none=>rw [List.getElem?_eq_none_iff] at q; omega
  | some o =>
   cases o with
   | none=>rfl
   | some b =>
    exfalso
    have hb:ns[b]?=some x:=by rw [td.eqm a b q]; exact ha
    have mb:b∈pl ns ns.length x:=Xo.mpr ⟨(List.getElem?_eq_some_iff.mp hb).1,hb⟩
    rw [e,List.mem_singleton] at mb
    exact (td.inv a b q).2 mb.symm
 | [a,b] =>
  obtain ⟨ga,ha⟩:=Xo.mp (show a∈pl ns ns.length x by rw [e]; simp)
  obtain ⟨gb,hb⟩:=Xo.mp (show b∈pl ns ns.length x by rw [e]; simp)
  rw [e] at st
  have hab:a < b:=by simpa using st
  rcases td.eqv a b x ha hb with z | z
  ·omega
  ·exact .inr ⟨a,b,hab,rfl,ha,hb,z,(td.inv a b z).1⟩
 | a :: b :: c :: r=>rw [e] at l2; simp at l2
noncomputable def part (M:List (Option Nat)) (ns:List Int) (ks:List Int):List (Option Nat):=(List.range M.length).map fun i=>match ns[i]? with
 | some x=>if x∈ks then M.getD i none else none
 | none=>none
theorem Xu (M:List (Option Nat)) (ns ks:List Int):(part M ns ks).length=M.length:=by unfold part; simp
theorem Jr {M:List (Option Nat)} {ns ks:List Int} (td:TD M ns) {i:Nat} {x:Int} (h:ns[i]?=some x):(part M ns ks)[i]?=some (if x∈ks then M.getD i none else none):=by
 have li:i < M.length:=by rw [← td.len]; exact (List.getElem?_eq_some_iff.mp h).1
 unfold part
 rw [List.getElem?_map,List.getElem?_range li]
 simp [h]
theorem Zih {M:List (Option Nat)} {ns:List Int} (td:TD M ns):part M ns []=List.replicate M.length none:=by
 apply List.ext_getElem?
 intro i
 by_cases li:i < M.length
 ·obtain ⟨x,hx⟩:∃ x,ns[i]?=some x:=⟨_,List.getElem?_eq_getElem (by rw [td.len]; exact li)⟩
  rw [Jr td hx,List.getElem?_replicate,if_pos li]
  simp
 ·rw [List.getElem?_eq_none (by rw [Xu]; omega),List.getElem?_eq_none (by simp; omega)]
theorem Zii {M:List (Option Nat)} {ns:List Int} (td:TD M ns):part M ns (keys ns ns.length)=M:=by
 apply List.ext_getElem?
 intro i
 by_cases li:i < M.length
 ·have ln:i < ns.length:=by rw [td.len]; exact li
  obtain ⟨x,hx⟩:∃ x,ns[i]?=some x:=⟨_,List.getElem?_eq_getElem ln⟩
  rw [Jr td hx,if_pos (Ju.mpr ⟨i,ln,hx⟩),List.getD_eq_getElem?_getD,List.getElem?_eq_getElem li]
  rfl
 ·rw [List.getElem?_eq_none (by rw [Xu]; omega),List.getElem?_eq_none (by omega)]
theorem Zig {M:List (Option Nat)} {ns ks:List Int} (td:TD M ns) {x:Int} {a:Nat} (hp:pl ns ns.length x=[a]) (hm:M[a]?=some none):part M ns (ks ++ [x])=part M ns ks:=by
 apply List.ext_getElem?
 intro i
 by_cases li:i < M.length
 ·have ln:i < ns.length:=by rw [td.len]; exact li
  obtain ⟨y,hy⟩:∃ x,ns[i]?=some x:=⟨_,List.getElem?_eq_getElem ln⟩
  rw [Jr td hy,Jr td hy]
  by_cases c:y=x
  ·subst c
   have:i∈pl ns ns.length y:=Xo.mpr ⟨ln,hy⟩
   rw [hp,List.mem_singleton] at this
   subst this
   have:M.getD i none=none:=by rw [List.getD_eq_getElem?_getD,hm]; rfl
   rw [this]
   simp
  ·simp [c]
 ·rw [List.getElem?_eq_none (by rw [Xu]; omega),List.getElem?_eq_none (by rw [Xu]; omega)]
theorem Zga {M:List (Option Nat)} {ns ks:List Int} (td:TD M ns) {x:Int} {a b:Nat} (hp:pl ns ns.length x=[a,b]) (hab:a < b) (ha:M[a]?=some (some b)) (hb:M[b]?=some (some a)) :
  part M ns (ks ++ [x])=((part M ns ks).set a (some b)).set b (some a):=by
 have la:a < M.length:=(List.getElem?_eq_some_iff.mp ha).1
 have lb:b < M.length:=(List.getElem?_eq_some_iff.mp hb).1
 have na:=(Xo.mp (show a∈pl ns ns.length x by rw [hp]; simp)).2
 have nb:=(Xo.mp (show b∈pl ns ns.length x by rw [hp]; simp)).2
 apply List.ext_getElem?
 intro i
 by_cases li:i < M.length
 ·have ln:i < ns.length:=by rw [td.len]; exact li
  obtain ⟨y,hy⟩:∃ x,ns[i]?=some x:=⟨_,List.getElem?_eq_getElem ln⟩
  rw [Jr td hy]
  by_cases cb:i=b
  ·subst cb
   rw [nb] at hy; cases hy
   rw [List.getElem?_set_self (by rw [List.length_set,Xu]; exact lb),if_pos (by simp),List.getD_eq_getElem?_getD,hb]
   rfl
  ·rw [List.getElem?_set_ne (Ne.symm cb)]
   by_cases ca:i=a
   ·subst ca
    rw [na] at hy; cases hy
    rw [List.getElem?_set_self (by rw [Xu]; exact la),if_pos (by simp),List.getD_eq_getElem?_getD,ha]
    rfl
   ·rw [List.getElem?_set_ne (Ne.symm ca),Jr td hy]
    have:y≠x:=by
     rintro rfl
     have:i∈pl ns ns.length y:=Xo.mpr ⟨ln,hy⟩
     rw [hp] at this
     simp at this
     omega
    simp [this]
 ·rw [List.getElem?_eq_none (by rw [Xu]; omega),List.getElem?_eq_none (by rw [List.length_set,List.length_set,Xu]; omega)]
end KT
set_option maxHeartbeats 4000000
namespace KT
open PySem L2
noncomputable def nV (i:Nat):V:=.int (i:Int)
theorem Jl {g:Int→V} {y:Int}:∀ {ks:List Int},valV (ks.map fun x=>((Sum.inl x:Key),g x)) (Sum.inl y)=if y∈ks then some (g y) else none
 | []=>by simp [valV]
 | k :: r=>by
  have ih:=Jl (g:=g) (y:=y) (ks:=r)
  unfold valV at ih ⊢
  rw [List.map_cons,List.find?_cons]
  by_cases c:k=y
  ·subst c
   simp
  ·have:(decide ((Sum.inl k:Key)=Sum.inl y))=false:=by
    rw [decide_eq_false_iff_not]
    intro z
    cases z
    exact c rfl
   simp only [this]
   rw [ih]
   have:(y∈k :: r) ↔ y∈r:=by
    rw [List.mem_cons]
    exact ⟨fun z=>z.elim (fun w=>absurd w.symm c) id,.inr⟩
   simp only [this]
theorem Zkp {g:Int→V} {y:Int} {v:V} {ks:List Int} (h:y ∉ ks):putK (ks.map fun x=>((Sum.inl x:Key),g x)) (Sum.inl y) v=(ks.map fun x=>((Sum.inl x:Key),g x)) ++ [(Sum.inl y,v)]:=by
 unfold putK
 rw [if_neg]
 intro z
 rw [List.any_eq_true] at z
 obtain ⟨kv,h1,h2⟩:=z
 obtain ⟨x,hx,rfl⟩:=List.mem_map.mp h1
 have:(Sum.inl x:Key)=Sum.inl y:=of_decide_eq_true h2
 cases this
 exact h hx
theorem Z0 {α:Type} {f:α→V} {l:List α} {i:Nat} {x:α} (h:l[i]?=some x):atI (l.map f) (i:Int)=some (f x):=Yu (by rw [List.getElem?_map,h]; rfl)
theorem Wj {H:Hp} {p q:Addr} {o:HO} (h:upd H p o q=none):q≠p∧H q=none:=by
 by_cases c:q=p
 ·subst c; rw [Zb] at h; cases h
 ·rw [Zf c] at h; exact ⟨c,h⟩
end KT
set_option maxHeartbeats 4000000
namespace KT
open PySem L2
noncomputable def after (p:Int):Int:=if p % 3=2 then p - 2 else p + 1
noncomputable def Zr (p:Int):Int:=if p % 3=0 then p + 2 else p - 1
noncomputable def Yp (left:Bool) (a b:Nat):List Int:=if left then [after a,Zr b,after b,Zr a] else [after a,Zr a,after b,Zr b]
noncomputable def mvI (left:Bool) (a b:Nat) (z:Int):Int :=
 if z=after a then (if left then Zr b else Zr a) else if z=Zr b then (if left then after b else after a) else if z=after b then (if left then Zr a else Zr b) else if z=Zr a then (if left then after a else after b) else z
noncomputable def glV (left:Bool) (a b:Nat):List (Key × V):=(Yp left a b).map fun x=>((Sum.inl x:Key),V.int (mvI left a b x))
theorem Yk (p:Nat):after p / 3=(p:Int) / 3∧after p≠p∧0≤after p:=by unfold after; split <;> omega
theorem Yc (p:Nat):Zr p / 3=(p:Int) / 3∧Zr p≠p∧0≤Zr p:=by unfold Zr; split <;> omega
theorem U1 (p:Nat):after p≠Zr p:=by unfold after Zr; split <;> split <;> omega
theorem Ji {a b:Nat} (h:a / 3≠b / 3):after a≠Zr a∧after a≠after b∧after a≠Zr b∧Zr a≠after b∧Zr a≠Zr b∧after b≠Zr b:=by
 obtain ⟨h1,_,_⟩:=Yk a
 obtain ⟨h2,_,_⟩:=Yc a
 obtain ⟨h3,_,_⟩:=Yk b
 obtain ⟨h4,_,_⟩:=Yc b
 have e:¬ (a:Int) / 3=(b:Int) / 3:=by omega
 refine ⟨U1 a,fun z=>e ?_,fun z=>e ?_,fun z=>e ?_,fun z=>e ?_,U1 b⟩
 ·rw [← h1,← h3,z]
 ·rw [← h1,← h4,z]
 ·rw [← h2,← h3,z]
 ·rw [← h2,← h4,z]
theorem Vy:∀ (kvs acc:List (Key × V)),((acc ++ kvs).map (·.1)).Nodup→W4 acc kvs=acc ++ kvs
 | [],acc,_=>by simp [W4]
 | kv :: r,acc,h=>by
  have h1:(acc.any fun x=>decide (x.1=kv.1))=false:=by
   rw [List.any_eq_false]
   intro x hx z
   have z:x.1=kv.1:=of_decide_eq_true z
   rw [List.map_append,List.map_cons] at h
   have:=(List.nodup_append.mp h).2.2 x.1 (List.mem_map.mpr ⟨x,hx,rfl⟩) kv.1 List.mem_cons_self
   exact this z
  have h2:putK acc kv.1 kv.2=acc ++ [kv]:=by
   unfold putK
   rw [if_neg (by rw [h1]; decide)]
  show W4 (putK acc kv.1 kv.2) r=_
  rw [h2,Vy r (acc ++ [kv]) (by simpa using h)]
  simp
theorem Zb1 {left:Bool} {a b:Nat} (h:a / 3≠b / 3):W4 [] (glV left a b)=glV left a b:=by
 obtain ⟨h1,h2,h3,h4,h5,h6⟩:=Ji h
 refine Vy (glV left a b) [] ?_
 unfold glV Yp
 rw [List.nil_append,List.map_map]
 cases left <;> simp [h1,h2,h3,h4,h5,h6,Ne.symm h1,Ne.symm h2,Ne.symm h3,Ne.symm h4,Ne.symm h5,Ne.symm h6]
theorem Zb6 {a b:Nat} (h:a / 3≠b / 3):glV true a b=[(Sum.inl (after a),.int (Zr b)),(Sum.inl (Zr b),.int (after b)),(Sum.inl (after b),.int (Zr a)),(Sum.inl (Zr a),.int (after a))]:=by
 obtain ⟨h1,h2,h3,h4,h5,h6⟩:=Ji h
 unfold glV Yp mvI
 simp [h1,h2,h3,h4,h5,h6,Ne.symm h1,Ne.symm h2,Ne.symm h3,Ne.symm h4,Ne.symm h5,Ne.symm h6]
theorem Fv {a b:Nat} (h:a / 3≠b / 3):glV false a b=[(Sum.inl (after a),.int (Zr a)),(Sum.inl (Zr a),.int (after b)),(Sum.inl (after b),.int (Zr b)),(Sum.inl (Zr b),.int (after a))]:=by
 obtain ⟨h1,h2,h3,h4,h5,h6⟩:=Ji h
 unfold glV Yp mvI
 simp [h1,h2,h3,h4,h5,h6,Ne.symm h1,Ne.symm h2,Ne.symm h3,Ne.symm h4,Ne.symm h5,Ne.symm h6]
theorem Zlz {left:Bool} {a b:Nat} {z:Int}:(valV (glV left a b) (Sum.inl z)).getD (V.int z)=V.int (mvI left a b z):=by
 unfold glV
 rw [Jl]
 by_cases c:z∈Yp left a b
 ·rw [if_pos c]; rfl
 ·rw [if_neg c]
  have:mvI left a b z=z:=by
   unfold mvI
   have n1:¬ z=after a:=fun e=>c (by unfold Yp; split <;> simp [e])
   have n2:¬ z=Zr b:=fun e=>c (by unfold Yp; split <;> simp [e])
   have n3:¬ z=after b:=fun e=>c (by unfold Yp; split <;> simp [e])
   have n4:¬ z=Zr a:=fun e=>c (by unfold Yp; split <;> simp [e])
   rw [if_neg n1,if_neg n2,if_neg n3,if_neg n4]
  rw [this]
  rfl
end KT
set_option maxHeartbeats 4000000
namespace KT
open PySem L2
theorem O3 (left:Bool) (i j:Nat) (z:Int):mvI left i j z=z∨mvI left i j z=after i∨mvI left i j z=Zr i∨mvI left i j z=after j∨mvI left i j z=Zr j:=by
 unfold mvI
 by_cases c1:z=after i
 ·cases left <;> simp [c1]
 ·by_cases c2:z=Zr j
  ·rw [if_neg c1,if_pos c2]; cases left <;> simp
  ·by_cases c3:z=after j
   ·rw [if_neg c1,if_neg c2,if_pos c3]; cases left <;> simp
   ·by_cases c4:z=Zr i
    ·rw [if_neg c1,if_neg c2,if_neg c3,if_pos c4]; cases left <;> simp
    ·rw [if_neg c1,if_neg c2,if_neg c3,if_neg c4]; exact .inl rfl
noncomputable def mvN (left:Bool) (i j z:Nat):Nat:=(mvI left i j z).toNat
theorem Zgo (left:Bool) (i j z:Nat):0≤mvI left i j z:=by
 have h1:=(Yk i).2.2
 have h2:=(Yc i).2.2
 have h3:=(Yk j).2.2
 have h4:=(Yc j).2.2
 rcases O3 left i j z with e | e | e | e | e <;> rw [e] <;> omega
theorem Wn (left:Bool) (i j z:Nat):((mvN left i j z:Nat):Int)=mvI left i j z:=Int.toNat_of_nonneg (Zgo left i j z)
theorem Zdo {i j:Nat} (h:i / 3≠j / 3) (left:Bool) (z:Int):mvI (!left) i j (mvI left i j z)=z:=by
 obtain ⟨h1,h2,h3,h4,h5,h6⟩:=Ji h
 by_cases c1:z=after i
 ·subst c1; cases left <;> simp [mvI,h1,h2,h3,h4,h5,h6,Ne.symm h1,Ne.symm h2,Ne.symm h3,Ne.symm h4,Ne.symm h5,Ne.symm h6]
 ·by_cases c2:z=Zr j
  ·subst c2; cases left <;> simp [mvI,h1,h2,h3,h4,h5,h6,Ne.symm h1,Ne.symm h2,Ne.symm h3,Ne.symm h4,Ne.symm h5,Ne.symm h6]
  ·by_cases c3:z=after j
   ·subst c3; cases left <;> simp [mvI,h1,h2,h3,h4,h5,h6,Ne.symm h1,Ne.symm h2,Ne.symm h3,Ne.symm h4,Ne.symm h5,Ne.symm h6]
   ·by_cases c4:z=Zr i
    ·subst c4; cases left <;> simp [mvI,h1,h2,h3,h4,h5,h6,Ne.symm h1,Ne.symm h2,Ne.symm h3,Ne.symm h4,Ne.symm h5,Ne.symm h6]
    ·cases left <;> simp [mvI,c1,c2,c3,c4]
theorem Xj {i j:Nat} (h:i / 3≠j / 3) (left:Bool) (z:Nat):mvN (!left) i j (mvN left i j z)=z:=by
 have:=Zdo h left z
 rw [← Wn left,← Wn] at this
 omega
theorem Qw {i j:Nat} (h:i / 3≠j / 3) (left:Bool) (z:Nat):mvN left i j (mvN (!left) i j z)=z:=by
 have:=Xj h (!left) z
 rw [Bool.not_not] at this
 exact this
theorem Uz {p:Int} {q a:Nat} (e:(q:Int)=p) (h:p / 3=(a:Int) / 3):q / 3=a / 3:=by omega
theorem Gc {p:Int} {q i n:Nat} (e:(q:Int)=p) (h:p / 3=(i:Int) / 3) (hi:i < 3 * n):q < 3 * n:=by omega
theorem Zac {p:Int} {i n:Nat} (h0:0≤p) (h:p / 3=(i:Int) / 3) (hi:i < 3 * n):0≤p∧p < 3 * (n:Int):=⟨h0,by omega⟩
theorem Wm {i j n:Nat} (hi:i < 3 * n) (hj:j < 3 * n) (left:Bool) {z:Nat} (hz:z < 3 * n):mvN left i j z < 3 * n:=by
 have e:=Wn left i j z
 rcases O3 left i j z with q | q | q | q | q <;> rw [q] at e
 ·exact Gc e rfl hz
 ·exact Gc e (Yk i).1 hi
 ·exact Gc e (Yc i).1 hi
 ·exact Gc e (Yk j).1 hj
 ·exact Gc e (Yc j).1 hj
theorem Vm {i j:Nat} (h:i / 3≠j / 3) (left:Bool) {y z:Nat} (e:mvN left i j y=mvN left i j z):y=z:=by
 have:=congrArg (mvN (!left) i j) e
 rw [Xj h,Xj h] at this
 exact this
noncomputable def exN (left:Bool) (i j:Nat) (ns:List Int):List Int:=(List.range ns.length).map fun z=>ns.getD (mvN (!left) i j z) 0
noncomputable def exM (left:Bool) (i j:Nat) (M:List (Option Nat)):List (Option Nat):=(List.range M.length).map fun z=>(M.getD (mvN (!left) i j z) none).map (mvN left i j)
theorem Qk (left:Bool) (i j:Nat) (ns:List Int):(exN left i j ns).length=ns.length:=by unfold exN; simp
theorem Ql (left:Bool) (i j:Nat) (M:List (Option Nat)):(exM left i j M).length=M.length:=by unfold exM; simp
section
variable {M:List (Option Nat)} {ns:List Int} {i j:Nat}
theorem Jy (td:TD M ns) (hi:i < M.length) (hj:j < M.length) (h:i / 3≠j / 3) (left:Bool) {z:Nat}:z < M.length→(exN left i j ns)[z]?=ns[mvN (!left) i j z]?:=by
 intro hz
 obtain ⟨n,_,_,hn⟩:=td.n
 rw [hn] at hi hj hz
 have hz':=Wm hi hj (!left) hz
 have l1:z < ns.length:=by rw [td.len,hn]; exact hz
 have l2:mvN (!left) i j z < ns.length:=by rw [td.len,hn]; exact hz'
 unfold exN
 rw [List.getElem?_map,List.getElem?_range l1]
 show some (ns.getD _ 0)=_
 rw [List.getD_eq_getElem?_getD,List.getElem?_eq_getElem l2]
 rfl
theorem Qm (td:TD M ns) (hi:i < M.length) (hj:j < M.length) (h:i / 3≠j / 3) (left:Bool) {z:Nat}:z < M.length→(exM left i j M)[z]?=(M[mvN (!left) i j z]?).map (Option.map (mvN left i j)):=by
 intro hz
 obtain ⟨n,_,_,hn⟩:=td.n
 have hz0:=hz
 rw [hn] at hi hj hz
 have hz':=Wm hi hj (!left) hz
 have l2:mvN (!left) i j z < M.length:=by rw [hn]; exact hz'
 unfold exM
 rw [List.getElem?_map,List.getElem?_range hz0]
 show some ((M.getD _ none).map _)=_
 rw [List.getD_eq_getElem?_getD,List.getElem?_eq_getElem l2]
 rfl
theorem TD.ex (td:TD M ns) (hi:i < M.length) (hj:j < M.length) (h:i / 3≠j / 3) (left:Bool):TD (exM left i j M) (exN left i j ns) where
 n:=by obtain ⟨n,a,b,c⟩:=td.n; exact ⟨n,a,b,by rw [Ql]; exact c⟩
 len:=by rw [Qk,Ql]; exact td.len
 inv:=fun p q e=>by
  have hp:p < M.length:=by have:=(List.getElem?_eq_some_iff.mp e).1; rw [Ql] at this; exact this
  rw [Qm td hi hj h left hp] at e
  cases e1:M[mvN (!left) i j p]? with
  | none=>rw [e1] at e; cases e
  | some o =>
   cases o with
   | none=>rw [e1] at e; cases e
   | some b =>
    rw [e1] at e
    have e2:mvN left i j b=q:=by have:=Option.some.inj e; exact Option.some.inj this
    obtain ⟨i1,i2⟩:=td.inv _ _ e1
    have hb:b < M.length:=(List.getElem?_eq_some_iff.mp i1).1
    obtain ⟨n,_,_,hn⟩:=td.n
    have hq:q < M.length:=by rw [← e2,hn]; rw [hn] at hi hj hb; exact Wm hi hj left hb
    have eb:mvN (!left) i j q=b:=by rw [← e2,Xj h]
    refine ⟨?_,fun z=>i2 ?_⟩
    ·rw [Qm td hi hj h left hq,eb,i1]
     show some (some (mvN left i j (mvN (!left) i j p)))=_
     rw [Qw h]
    ·rw [z,eb]
 rng:=fun p x e=>by
  have hp:p < M.length:=by have:=(List.getElem?_eq_some_iff.mp e).1; rw [Qk,td.len] at this; exact this
  rw [Jy td hi hj h left hp] at e
  exact td.rng _ x e
 eqv:=fun p q x e1 e2=>by
  have hp:p < M.length:=by have:=(List.getElem?_eq_some_iff.mp e1).1; rw [Qk,td.len] at this; exact this
  have hq:q < M.length:=by have:=(List.getElem?_eq_some_iff.mp e2).1; rw [Qk,td.len] at this; exact this
  rw [Jy td hi hj h left hp] at e1
  rw [Jy td hi hj h left hq] at e2
  rcases td.eqv _ _ x e1 e2 with z | z
  ·exact .inl (Vm h (!left) z)
  ·right
   rw [Qm td hi hj h left hp,z]
   show some (some (mvN left i j (mvN (!left) i j q)))=_
   rw [Qw h]
 eqm:=fun p q e=>by
  have hp:p < M.length:=by have:=(List.getElem?_eq_some_iff.mp e).1; rw [Ql] at this; exact this
  have e0:=e
  rw [Qm td hi hj h left hp] at e
  cases e1:M[mvN (!left) i j p]? with
  | none=>rw [e1] at e; cases e
  | some o =>
   cases o with
   | none=>rw [e1] at e; cases e
   | some b =>
    rw [e1] at e
    have e2:mvN left i j b=q:=by have:=Option.some.inj e; exact Option.some.inj this
    obtain ⟨i1,i2⟩:=td.inv _ _ e1
    have hb:b < M.length:=(List.getElem?_eq_some_iff.mp i1).1
    obtain ⟨n,_,_,hn⟩:=td.n
    have hq:q < M.length:=by rw [← e2,hn]; rw [hn] at hi hj hb; exact Wm hi hj left hb
    have eb:mvN (!left) i j q=b:=by rw [← e2,Xj h]
    rw [Jy td hi hj h left hp,Jy td hi hj h left hq,eb]
    exact td.eqm _ _ e1
end
noncomputable def nst (left:Bool) (i j:Nat) (ns:List Int) (k:Nat):List Int:=(List.range ns.length).map fun z=>if ((mvN (!left) i j z:Nat):Int)∈(Yp left i j).take k then ns.getD (mvN (!left) i j z) 0 else ns.getD z 0
theorem Zil (left:Bool) (i j:Nat) (ns:List Int):nst left i j ns 0=ns:=by
 apply List.ext_getElem?
 intro z
 unfold nst
 rw [List.getElem?_map]
 by_cases hz:z < ns.length
 ·rw [List.getElem?_range hz,List.take_zero]
  simp [hz]
 ·rw [List.getElem?_eq_none (by simpa using hz),List.getElem?_eq_none (by omega)]
  rfl
theorem Zin {i j:Nat} {left:Bool} {z:Int} (h:z ∉ Yp left i j) (l2:Bool):mvI l2 i j z=z:=by
 have n1:¬ z=after i:=fun e=>h (by unfold Yp; split <;> simp [e])
 have n2:¬ z=Zr j:=fun e=>h (by unfold Yp; split <;> simp [e])
 have n3:¬ z=after j:=fun e=>h (by unfold Yp; split <;> simp [e])
 have n4:¬ z=Zr i:=fun e=>h (by unfold Yp; split <;> simp [e])
 unfold mvI
 rw [if_neg n1,if_neg n2,if_neg n3,if_neg n4]
theorem Zb7 (left:Bool) (i j:Nat):(Yp left i j).length=4:=by unfold Yp; split <;> rfl
theorem Zk3 {i j:Nat} (h:i / 3≠j / 3) (left:Bool) (ns:List Int):nst left i j ns 4=exN left i j ns:=by
 unfold nst exN
 apply List.map_congr_left
 intro z _
 by_cases c:((mvN (!left) i j z:Nat):Int)∈(Yp left i j).take 4
 ·rw [if_pos c]
 ·rw [if_neg c]
  rw [List.take_of_length_le (Nat.le_of_eq (Zb7 left i j))] at c
  have e1:=Zin c left
  rw [Wn,] at e1
  have e2:=Zdo h (!left) (z:Int)
  rw [Bool.not_not] at e2
  rw [e2] at e1
  have:mvN (!left) i j z=z:=by have:=Wn (!left) i j z; omega
  rw [this]
theorem Zim {i j:Nat} (h:i / 3≠j / 3) {left:Bool} {ns:List Int} {k p:Nat} (hk:(Yp left i j)[k]?=some (p:Int)) (hq:mvN left i j p < ns.length) :
  (nst left i j ns k).set (mvN left i j p) (ns.getD p 0)=nst left i j ns (k + 1):=by
 apply List.ext_getElem?
 intro z
 unfold nst
 by_cases c:z=mvN left i j p
 ·subst c
  rw [List.getElem?_set_self (by simpa using hq),List.getElem?_map,List.getElem?_range hq]
  have e:mvN (!left) i j (mvN left i j p)=p:=Xj h left p
  have:((mvN (!left) i j (mvN left i j p):Nat):Int)∈(Yp left i j).take (k + 1):=by rw [e,List.take_add_one,hk]; simp
  simp only [Option.map_some,this,if_true]
  rw [e]
 ·rw [List.getElem?_set_ne (Ne.symm c),List.getElem?_map,List.getElem?_map]
  by_cases d:z < ns.length
  ·rw [List.getElem?_range d]
   have ne:¬ ((mvN (!left) i j z:Nat):Int)=(p:Int):=fun e=>c (by
    have e:mvN (!left) i j z=p:=by omega
    rw [← e,Qw h])
   have:((mvN (!left) i j z:Nat):Int)∈(Yp left i j).take (k + 1) ↔ ((mvN (!left) i j z:Nat):Int)∈(Yp left i j).take k:=by
    rw [List.take_add_one,hk]
    simp [ne]
   simp only [Option.map_some,this]
  ·rw [List.getElem?_eq_none (by simpa using d)]
   rfl
theorem Zli {left:Bool} {i j n k:Nat} {p:Int} (hi:i < 3 * n) (hj:j < 3 * n) (hk:(Yp left i j)[k]?=some p):0≤p∧p < 3 * (n:Int):=by
 have hm:p∈Yp left i j:=List.mem_of_getElem? hk
 obtain ⟨a1,_,a3⟩:=Yk i
 obtain ⟨b1,_,b3⟩:=Yc i
 obtain ⟨c1,_,c3⟩:=Yk j
 obtain ⟨d1,_,d3⟩:=Yc j
 have hm:p=after i∨p=Zr i∨p=after j∨p=Zr j:=by
  unfold Yp at hm
  split at hm <;> simp at hm <;> rcases hm with e | e | e | e <;> simp [e]
 rcases hm with e | e | e | e <;> rw [e]
 ·exact Zac a3 a1 hi
 ·exact Zac b3 b1 hi
 ·exact Zac c3 c1 hj
 ·exact Zac d3 d1 hj
noncomputable def mfil {α:Type} (left:Bool) (i j n:Nat) (f:Nat→α) (d:α) (k:Nat):List α:=(List.range n).map fun z=>if mvN (!left) i j z < k then f z else d
theorem Fj {α:Type} (left:Bool) (i j n:Nat) (f:Nat→α) (d:α):mfil left i j n f d 0=List.replicate n d:=by
 unfold mfil
 apply List.ext_getElem?
 intro z
 rw [List.getElem?_map,List.getElem?_replicate]
 by_cases h:z < n
 ·rw [List.getElem?_range h,if_pos h]; simp
 ·rw [List.getElem?_eq_none (by simpa using h),if_neg h]; rfl
theorem Zb0 {α:Type} (left:Bool) (i j n:Nat) (f:Nat→α) (d:α) (k:Nat):(mfil left i j n f d k).length=n:=by unfold mfil; simp
theorem Fl {α:Type} {left:Bool} {i j n:Nat} {f:Nat→α} {d:α} {k:Nat} (h:i / 3≠j / 3) (hk:mvN left i j k < n):(mfil left i j n f d k).set (mvN left i j k) (f (mvN left i j k))=mfil left i j n f d (k + 1):=by
 apply List.ext_getElem?
 intro z
 unfold mfil
 by_cases c:z=mvN left i j k
 ·subst c
  rw [List.getElem?_set_self (by simpa using hk),List.getElem?_map,List.getElem?_range hk]
  have e:mvN (!left) i j (mvN left i j k)=k:=Xj h left k
  simp only [Option.map_some]
  rw [e,if_pos (by omega)]
 ·rw [List.getElem?_set_ne (Ne.symm c),List.getElem?_map,List.getElem?_map]
  by_cases d:z < n
  ·rw [List.getElem?_range d]
   have ne:mvN (!left) i j z≠k:=fun e=>c (by rw [← e,Qw h])
   have:mvN (!left) i j z < k + 1 ↔ mvN (!left) i j z < k:=by omega
   simp only [Option.map_some,this]
  ·rw [List.getElem?_eq_none (by simpa using d)]
   rfl
theorem Zgr {α:Type} {left:Bool} {i j n:Nat} {f:Nat→α} {d:α} {k:Nat} (h:i / 3≠j / 3) (hd:f (mvN left i j k)=d):mfil left i j n f d k=mfil left i j n f d (k + 1):=by
 unfold mfil
 apply List.map_congr_left
 intro z _
 by_cases c:mvN (!left) i j z=k
 ·have:z=mvN left i j k:=by rw [← c,Qw h]
  subst this
  rw [if_neg (by omega),if_pos (by omega),hd]
 ·have:mvN (!left) i j z < k + 1 ↔ mvN (!left) i j z < k:=by omega
  simp only [this]
theorem Zio {α:Type} {left:Bool} {i j m:Nat} {f:Nat→α} {d:α} (hi:i < 3 * m) (hj:j < 3 * m):mfil left i j (3 * m) f d (3 * m)=(List.range (3 * m)).map f:=by
 unfold mfil
 apply List.map_congr_left
 intro z hz
 rw [if_pos (Wm hi hj _ (List.mem_range.mp hz))]
end KT
set_option maxHeartbeats 4000000
namespace KT
open PySem L2
theorem Zgn {i j:Nat} (h:i / 3≠j / 3) (left:Bool):mvN left i j i=i∧mvN left i j j=j:=by
 obtain ⟨a1,a2,_⟩:=Yk i
 obtain ⟨b1,b2,_⟩:=Yc i
 obtain ⟨c1,c2,_⟩:=Yk j
 obtain ⟨d1,d2,_⟩:=Yc j
 have e:¬ (i:Int) / 3=(j:Int) / 3:=by omega
 have i1:¬ (i:Int)=after i:=fun z=>a2 z.symm
 have i2:¬ (i:Int)=Zr i:=fun z=>b2 z.symm
 have i3:¬ (i:Int)=after j:=fun z=>e (by rw [← c1,← z])
 have i4:¬ (i:Int)=Zr j:=fun z=>e (by rw [← d1,← z])
 have j1:¬ (j:Int)=after i:=fun z=>e (by rw [← a1,← z])
 have j2:¬ (j:Int)=Zr i:=fun z=>e (by rw [← b1,← z])
 have j3:¬ (j:Int)=after j:=fun z=>c2 z.symm
 have j4:¬ (j:Int)=Zr j:=fun z=>d2 z.symm
 constructor
 ·have:mvI left i j i=i:=by unfold mvI; rw [if_neg i1,if_neg i4,if_neg i3,if_neg i2]
  have:=Wn left i j i
  omega
 ·have:mvI left i j j=j:=by unfold mvI; rw [if_neg j1,if_neg j4,if_neg j3,if_neg j2]
  have:=Wn left i j j
  omega
section
variable {M:List (Option Nat)} {ns:List Int} {i j:Nat}
theorem Zm8 (td:TD M ns) (hi:i < M.length) (hj:j < M.length) (h:i / 3≠j / 3) (left:Bool) (hm:M[i]?=some (some j)):(exM left i j M)[i]?=some (some j)∧(exN left i j ns)[i]?=ns[i]?:=by
 rw [Qm td hi hj h left hi,Jy td hi hj h left hi,(Zgn h (!left)).1,hm]
 show some (some (mvN left i j j))=_∧_
 rw [(Zgn h left).2]
 exact ⟨rfl,rfl⟩
end
noncomputable def side (p k:Nat):Nat:=p - p % 3 + (p + k) % 3
theorem Zkh {p k n:Nat} (h:p < 3 * n):side p k < 3 * n:=by unfold side; omega
theorem Zau (p k:Nat):side p k / 3=p / 3:=by unfold side; omega
end KT
set_option maxHeartbeats 4000000
namespace KT
open PySem L2
noncomputable def X3 (M:List (Option Nat)) (p:Int):Bool:=decide (0≤p∧p < M.length) && (M.getD p.toNat none).isSome
noncomputable def Ww (M:List (Option Nat)) (a p:Int):Bool:=match M.getD a.toNat none with
 | some m=>decide (p / 3=(m:Int) / 3) && !decide (p=(m:Int))
 | none=>false
noncomputable def rot {α:Type} (ws:List α) (s:Nat):List α:=ws.drop s ++ ws.take s
noncomputable def Jg (M:List (Option Nat)) (ws vs:List Int):List Bool:=(ws.zip vs).map fun p=>Ww M p.1 p.2
noncomputable def Wz (M:List (Option Nat)) (ws:List Int):Bool:=!ws.isEmpty && ((ws.map (X3 M)).all id && (Jg M ws (rot ws (1 % ws.length))).all id)
theorem Xx {α:Type} (ws:List α) {s:Nat} (h:s≤ws.length):(rot ws s).length=ws.length:=by
 unfold rot
 rw [List.length_append,List.length_drop,List.length_take]
 omega
theorem Jn {α:Type} {ws:List α} {s k:Nat} (hs:s < ws.length) (hk:k < ws.length):(rot ws s)[k]?=ws[(k + s) % ws.length]?:=by
 unfold rot
 by_cases c:k < ws.length - s
 ·rw [List.getElem?_append_left (by rw [List.length_drop]; exact c),List.getElem?_drop,Nat.mod_eq_of_lt (by omega),Nat.add_comm]
 ·rw [List.getElem?_append_right (by rw [List.length_drop]; omega),List.length_drop,List.getElem?_take_of_lt (by omega)]
  have:(k + s) % ws.length=k - (ws.length - s):=by
   rw [show k + s=(k - (ws.length - s)) + ws.length by omega,Nat.add_mod_right,Nat.mod_eq_of_lt (by omega)]
  rw [this]
structure Pl (M:List (Option Nat)) (ws:List Nat):Prop where
 ne:ws≠[]
 has:∀ p∈ws,∃ m,M[p]?=some (some m)
 nxt:∀ (k:Nat) (a p:Nat),ws[k]?=some a→ws[(k + 1) % ws.length]?=some p→∀ m,M[a]?=some (some m)→p / 3=m / 3∧p≠m
noncomputable abbrev wI (ws:List Nat):List Int:=ws.map fun (x:Nat)=>(x:Int)
theorem Fz {M:List (Option Nat)} {p:Nat}:X3 M (p:Int)=true ↔ ∃ m,M[p]?=some (some m):=by
 unfold X3
 rw [Bool.and_eq_true,decide_eq_true_eq,Int.toNat_natCast]
 constructor
 ·rintro ⟨⟨_,h1⟩,h2⟩
  have h1:p < M.length:=by omega
  rw [List.getD_eq_getElem?_getD,List.getElem?_eq_getElem h1] at h2
  obtain ⟨m,hm⟩:=Option.isSome_iff_exists.mp h2
  exact ⟨m,by rw [List.getElem?_eq_getElem h1]; exact congrArg some hm⟩
 ·rintro ⟨m,hm⟩
  have h1:p < M.length:=(List.getElem?_eq_some_iff.mp hm).1
  exact ⟨⟨by omega,by omega⟩,by rw [List.getD_eq_getElem?_getD,hm]; rfl⟩
theorem K9 {M:List (Option Nat)} {a p m:Nat} (h:M[a]?=some (some m)):Ww M (a:Int) (p:Int)=true ↔ p / 3=m / 3∧p≠m:=by
 unfold Ww
 rw [Int.toNat_natCast,List.getD_eq_getElem?_getD,h]
 show (decide ((p:Int) / 3=(m:Int) / 3) && !decide ((p:Int)=(m:Int)))=true ↔ _
 rw [Bool.and_eq_true,decide_eq_true_eq,Bool.not_eq_true',decide_eq_false_iff_not]
 omega
theorem Zda {M:List (Option Nat)} {ws vs:List Int} (hl:ws.length=vs.length):(Jg M ws vs).all id=true ↔ ∀ (k:Nat) (a p:Int),ws[k]?=some a→vs[k]?=some p→Ww M a p=true:=by
 unfold Jg
 rw [List.all_eq_true]
 constructor
 ·intro h k a p ha hp
  refine h (Ww M a p) (List.mem_map.mpr ⟨(a,p),?_,rfl⟩)
  exact List.mem_of_getElem? (i:=k) (by rw [List.getElem?_zip_eq_some]; exact ⟨ha,hp⟩)
 ·intro h b hb
  obtain ⟨⟨a,p⟩,hm,rfl⟩:=List.mem_map.mp hb
  obtain ⟨k,hk⟩:=List.getElem?_of_mem hm
  rw [List.getElem?_zip_eq_some] at hk
  exact h k a p hk.1 hk.2
theorem Fd {M:List (Option Nat)} {ws:List Nat}:Wz M (wI ws)=true ↔ Pl M ws:=by
 have hl:(wI ws).length=ws.length:=by simp
 unfold Wz
 rw [Bool.and_eq_true,Bool.and_eq_true,Bool.not_eq_true',hl]
 constructor
 ·rintro ⟨h0,h1,h2⟩
  have hne:ws≠[]:=by
   rintro rfl
   cases h0
  have hpos:0 < ws.length:=by cases ws with | nil=>exact absurd rfl hne | cons _ _=>simp
  have hh:∀ p∈ws,∃ m,M[p]?=some (some m):=fun p hp=>by
   refine Fz.mp (List.all_eq_true.mp h1 _ (List.mem_map.mpr ⟨(p:Int),List.mem_map.mpr ⟨p,hp,rfl⟩,rfl⟩))
  refine ⟨hne,hh,fun k a p ha hp m hm=>?_⟩
  have hs:1 % ws.length < (wI ws).length:=by rw [hl]; exact Nat.mod_lt _ hpos
  have hk:k < (wI ws).length:=by rw [hl]; exact (List.getElem?_eq_some_iff.mp ha).1
  refine (K9 hm).mp ((Zda (by rw [Xx _ (Nat.le_of_lt hs)])).mp h2 k a p (by rw [List.getElem?_map,ha]; rfl) ?_)
  rw [Jn hs hk,hl,show (k + 1 % ws.length) % ws.length=(k + 1) % ws.length by rw [Nat.add_mod_mod],List.getElem?_map,hp]
  rfl
 ·rintro ⟨h0,h1,h2⟩
  have hpos:0 < ws.length:=by cases ws with | nil=>exact absurd rfl h0 | cons _ _=>simp
  have hs:1 % ws.length < (wI ws).length:=by rw [hl]; exact Nat.mod_lt _ hpos
  refine ⟨by cases ws with | nil=>exact absurd rfl h0 | cons _ _=>rfl,?_,?_⟩
  ·rw [List.all_eq_true]
   intro b hb
   obtain ⟨p',hp',rfl⟩:=List.mem_map.mp hb
   obtain ⟨p,hp,rfl⟩:=List.mem_map.mp hp'
   exact Fz.mpr (h1 p hp)
  ·refine (Zda (by rw [Xx _ (Nat.le_of_lt hs)])).mpr fun k a p ha hp=>?_
   have hk:k < (wI ws).length:=(List.getElem?_eq_some_iff.mp ha).1
   rw [Jn hs hk,hl,show (k + 1 % ws.length) % ws.length=(k + 1) % ws.length by rw [Nat.add_mod_mod]] at hp
   rw [List.getElem?_map] at ha hp
   cases ea:ws[k]? with
   | none=>rw [ea] at ha; cases ha
   | some a' =>
    cases ep:ws[(k + 1) % ws.length]? with
    | none=>rw [ep] at hp; cases hp
    | some p' =>
     rw [ea] at ha; cases ha
     rw [ep] at hp; cases hp
     obtain ⟨m,hm⟩:=h1 a' (List.mem_of_getElem? ea)
     exact (K9 hm).mpr (h2 k a' p' ea ep m hm)
structure Ch (M:List (Option Nat)) (row:List Nat):Prop where
 has:∀ p∈row,∃ m,M[p]?=some (some m)
 nxt:∀ (k:Nat) (a p m:Nat),row[k]?=some a→row[k + 1]?=some p→M[a]?=some (some m)→p / 3=m / 3∧p≠m
theorem Ch.one {M:List (Option Nat)} {p m:Nat} (h:M[p]?=some (some m)):Ch M [p]:=by
 refine ⟨fun q hq=>?_,fun k a q m' _ hq=>?_⟩
 ·rw [List.mem_singleton] at hq; subst hq; exact ⟨m,h⟩
 ·simp at hq
theorem Ch.snoc {M:List (Option Nat)} {row:List Nat} {a p m:Nat} (h:Ch M row) (hl:row.getLast?=some a) (hm:M[a]?=some (some m)) (h1:p / 3=m / 3) (h2:p≠m) (hp:∃ q,M[p]?=some (some q)):Ch M (row ++ [p]):=by
 refine ⟨fun q hq=>?_,fun k b q m' hb hq hm'=>?_⟩
 ·rcases List.mem_append.mp hq with z | z
  ·exact h.has q z
  ·rw [List.mem_singleton] at z; subst z; exact hp
 ·by_cases c:k + 1 < row.length
  ·rw [List.getElem?_append_left c] at hq
   rw [List.getElem?_append_left (by omega)] at hb
   exact h.nxt k b q m' hb hq hm'
  ·have hk:k + 1 < (row ++ [p]).length:=(List.getElem?_eq_some_iff.mp hq).1
   rw [List.length_append,List.length_singleton] at hk
   have hk:k + 1=row.length:=by omega
   rw [List.getElem?_append_right (by omega),hk] at hq
   have:q=p:=by simpa using hq.symm
   subst this
   rw [List.getElem?_append_left (by omega)] at hb
   rw [List.getLast?_eq_getElem?,show row.length - 1=k by omega,hb] at hl
   cases hl
   rw [hm] at hm'
   cases hm'
   exact ⟨h1,h2⟩
theorem Ch.cut {M:List (Option Nat)} {row:List Nat} {s e a:Nat} (h:Ch M row) (hse:s < e) (h1:row[s]?=some a) (h2:row[e]?=some a):Pl M ((row.drop s).take (e - s)):=by
 have he:e < row.length:=(List.getElem?_eq_some_iff.mp h2).1
 have hl:((row.drop s).take (e - s)).length=e - s:=by rw [List.length_take,List.length_drop]; omega
 have gt:∀ k,k < e - s→((row.drop s).take (e - s))[k]?=row[s + k]?:=fun k hk=>by rw [List.getElem?_take_of_lt hk,List.getElem?_drop]
 refine ⟨fun z=>by rw [z] at hl; simp at hl; omega,fun p hp=>?_,fun k b p hb hp m hm=>?_⟩
 ·exact h.has p (List.mem_of_mem_drop (List.mem_of_mem_take hp))
 ·rw [hl] at hp
  have hk:k < e - s:=by have:=(List.getElem?_eq_some_iff.mp hb).1; rw [hl] at this; exact this
  rw [gt k hk] at hb
  by_cases c:k + 1 < e - s
  ·rw [Nat.mod_eq_of_lt c,gt _ c] at hp
   exact h.nxt (s + k) b p m hb (by rw [show s + k + 1=s + (k + 1) by omega]; exact hp) hm
  ·have hk:k + 1=e - s:=by omega
   rw [hk,Nat.mod_self,gt 0 (by omega),Nat.add_zero,h1] at hp
   cases hp
   exact h.nxt (s + k) b a m hb (by rw [show s + k + 1=e by omega]; exact h2) hm
end KT
set_option maxHeartbeats 4000000
namespace KT
open PySem L2
end KT
set_option maxHeartbeats 4000000
namespace L2
open PySem PySem.Spec PyProof.Rows
end L2
set_option maxHeartbeats 4000000
namespace L2
open PySem PySem.Spec PyProof.Rows
end L2
set_option maxHeartbeats 4000000
namespace HL
open PySem PyProof.Rows HT
section
open PySem.SeqAt
open PySem.AutoSeq1 (wpAny_loadPart')
open PySem.MeetsSeq PySem.MeetsSeq2 PySem.MeetsSeq3
theorem Vo {us:List Value} {ns:List Int} (h:IntsAre us ns):∀ {i:Nat},i < us.length→∃ t,us[i]?=some (.int (ns.getD i 0) t):=by
 induction h with
 | nil=>intro i hi; simp at hi
 | cons n t h ih =>
  intro i hi
  cases i with
  | zero=>exact ⟨t,rfl⟩
  | succ i=>obtain ⟨t',e⟩:=ih (i:=i) (by simpa using hi); exact ⟨t',e⟩
theorem Zk8 {a b:List Int} {i:Nat} (h:a.length≤i∨b.length≤i):lexLt (a.drop i) (b.drop i)=decide (a.length - i < b.length - i):=by
 by_cases ha:a.length≤i
 ·rw [List.drop_eq_nil_of_le ha]
  by_cases hb:b.length≤i
  ·rw [List.drop_eq_nil_of_le hb,Uc]; exact (decide_eq_false (by omega)).symm
  ·cases e:b.drop i with
   | nil=>exact absurd (List.drop_eq_nil_iff.mp e) hb
   | cons c t=>rw [Jt]; exact (decide_eq_true (by omega)).symm
 ·have hb:b.length≤i:=by omega
  rw [List.drop_eq_nil_of_le hb]
  cases e:a.drop i with
  | nil=>exact absurd (List.drop_eq_nil_iff.mp e) ha
  | cons c t=>rw [Wu]; exact (decide_eq_false (by omega)).symm
theorem Zd0 {a:List Int} {i:Nat} (h:i < a.length):a.drop i=a.getD i 0 :: a.drop (i + 1):=by
 rw [List.drop_eq_getElem_cons h,List.getD_eq_getElem?_getD,List.getElem?_eq_getElem h]; rfl
theorem Zk6 (l b:Addr) (xs ys:Array Value) (n n2:Nat) (dd dd2:Option Addr) (sl sl2:Array (Option Value)) (ns ms:List Int) (hi:IntsAre xs.toList ns) (hj:IntsAre ys.toList ms) (k:Nat) :
  ∀ i:Nat,i≤xs.size→i≤ys.size→min xs.size ys.size - i=k→Meets (Builtin.«list.__eq__.loop» ⟨[.ref l,.ref b,rawInt i,rawInt 0],[]⟩)
   (fun _ R s=>s.heap.get? l=some { cls:=.type "list",dict:=dd,data:=.seq xs n,slots:=sl }∧s.heap.get? b=some { cls:=.type "list",dict:=dd2,data:=.seq ys n2,slots:=sl2 }∧R (.ok (.ret (.bool (lexLt (ns.drop i) (ms.drop i))))) s):=by
 have z1:xs.size=ns.length:=by rw [← hi.length]; simp
 have z2:ys.size=ms.length:=by rw [← hj.length]; simp
 induction k with
 | zero =>
  intro i b1 b2 hk prog w A R s h
  obtain ⟨hp,g,d,tk,os⟩:=s
  obtain ⟨hl,hb,h⟩:=h
  rw [Zk8 (by omega)] at h
  have hv:(decide (ns.length - i < ms.length - i))=decide (xs.size < ys.size):=by
   apply decide_eq_decide.mpr
   omega
  rw [hv] at h
  wp_walk using wpAny_loadPart' hl,wpAny_loadPart' hb
  by_cases c:i < xs.size
  ·have e1:xs[((i:Nat):Int).toNat]?=some xs[i]:=by simp [c]
   have e2:ys[((i:Nat):Int).toNat]?=none:=by simp; omega
   rw [e1,e2]
   wp_walk using wpAny_loadPart' hl,wpAny_loadPart' hb
   exact h
  ·have e1:xs[((i:Nat):Int).toNat]?=none:=by simp; omega
   rw [e1]
   wp_walk using wpAny_loadPart' hl,wpAny_loadPart' hb
   exact h
 | succ k ih =>
  intro i b1 b2 hk prog w A R s h
  obtain ⟨hp,g,d,tk,os⟩:=s
  obtain ⟨hl,hb,h⟩:=h
  have c1:i < xs.size:=by omega
  have c2:i < ys.size:=by omega
  obtain ⟨t1,q1⟩:=Vo hi (i:=i) (by simpa using c1)
  obtain ⟨t2,q2⟩:=Vo hj (i:=i) (by simpa using c2)
  have e1:xs[((i:Nat):Int).toNat]?=some (.int (ns.getD i 0) t1):=by simpa using q1
  have e2:ys[((i:Nat):Int).toNat]?=some (.int (ms.getD i 0) t2):=by simpa using q2
  have hc:((i:Int) + 1)=((i + 1:Nat):Int):=by push_cast; rfl
  rw [Zd0 (a:=ns) (i:=i) (by omega),Zd0 (a:=ms) (i:=i) (by omega),Qe] at h
  wp_walk using wpAny_loadPart' hl,wpAny_loadPart' hb
  rw [e1,e2]
  obtain ⟨ev,he,hiff⟩:=Zjc A.in1 ⟨hp,g,d,tk,os⟩ (ns.getD i 0) t1 (ms.getD i 0) t2
  refine wpAny_bind (he prog w _ _ ?_)
  cases ev with
  | true =>
   rw [if_pos (hiff.mp rfl)] at h
   wp_walk
   rw [hc]
   refine ⟨plainId_quiet plain_eq_loop _,codeAny_builtin entry_eq_loop ?_⟩
   rw [Around.under_plainId plain_eq_loop _]
   exact ih (i + 1) (by omega) (by omega) (by omega) prog w A R _ ⟨hl,hb,h⟩
  | false =>
   rw [if_neg (fun q=>absurd (hiff.mpr q) Bool.false_ne_true)] at h
   wp_walk using wpAny_loadPart' hl,wpAny_loadPart' hb
   rw [e1,e2]
   have hri:=Zh5 A.in1 ⟨hp,g,d,tk,os⟩ (ns.getD i 0) t1 (ms.getD i 0) t2 prog w
   wp_walk using hri
   exact h
theorem Zk7 (l b:Addr) (xs ys:Array Value) (n n2:Nat) (dd dd2:Option Addr) (sl sl2:Array (Option Value)) (ns ms:List Int) (hi:IntsAre xs.toList ns) (hj:IntsAre ys.toList ms) :
  Meets (Builtin.«list.__lt__» ⟨[.ref l,.ref b],[]⟩)
   (fun _ R s=>s.heap.get? l=some { cls:=.type "list",dict:=dd,data:=.seq xs n,slots:=sl }∧s.heap.get? b=some { cls:=.type "list",dict:=dd2,data:=.seq ys n2,slots:=sl2 }∧R (.ok (.ret (.bool (lexLt ns ms)))) s):=by
 intro prog w A R s h
 obtain ⟨hp,g,d,tk,os⟩:=s
 obtain ⟨hl,hb,h⟩:=h
 have f3:=AutoSeq1.sub_list_list
 wp_walk using wpAny_loadPart' hl,wpAny_loadPart' hb
 refine ⟨plainId_quiet plain_eq_loop _,codeAny_builtin entry_eq_loop ?_⟩
 rw [Around.under_plainId plain_eq_loop _]
 exact Zk6 l b xs ys n n2 dd dd2 sl sl2 ns ms hi hj _ 0 (Nat.zero_le _) (Nat.zero_le _) rfl prog w A R _ ⟨hl,hb,h⟩
end
section
variable {prog:Program} {w:World} {A:Around} {E:Value→Shared→Prop} {s:Shared}
theorem lt_lists {l b:Addr} {xs ys:Array Value} {ns ms:List Int} {Q:Value→Shared→Prop} (hl:s.heap.IsList l xs) (hb:s.heap.IsList b ys) (hi:IntsAre xs.toList ns) (hj:IntsAre ys.toList ms)
  (hu:A.units < cLine) (h:Q (.bool (lexLt ns ms)) s):wpAny (model prog w) A (richCompare .Lt (.ref l) (.ref b)) Q E s:=by
 obtain ⟨⟨cls,dd,data,sl⟩,ho,hc,n,hd⟩:=id hl
 obtain ⟨⟨cls2,dd2,data2,sl2⟩,ho2,hc2,n2,hd2⟩:=id hb
 simp only at hc hd hc2 hd2
 subst hc hd hc2 hd2
 exact richCompare_meets_room (op:=.Lt) ⟨_,ho,rfl⟩ ⟨_,ho2,rfl⟩ PySem.F.slot_list_lt PySem.F.entry_list_lt (PySem.F.args_list_lt_2 _ _) (Zk7 l b xs ys n n2 dd dd2 sl sl2 ns ms hi hj)
  ⟨ho,ho2,show Value.bool (lexLt ns ms)≠Value.notImplemented∧Q (.bool (lexLt ns ms)) s from ⟨(fun x=>nomatch x),h⟩⟩ hu
end
section
variable {prog:Program} {w:World} {A:Around} {R:Result→Shared→Prop} {I:Addr} {fp wr:List Addr} {n:Nat} {P:Nat→Value→Prop} {St:Nat→Heap→Prop}
theorem U9 {g:Heap} {B:Addr} {f:Obj→Obj} (b:Addr) (o:Obj) (bB:b≠B) (e:g.get? b=some o):(g.update B f).get? b=some o:=(Heap.get?_update_other _ _ (Ne.symm bB)).trans e
noncomputable def CmpIn (prog:Program) (w:World) (A:Around) (J:Heap→Prop) (P:Nat→Value→Prop) (bt:Nat→Nat→Bool):Prop :=
 ∀ i j vi vj (s:Shared) (Q:Value→Shared→Prop) (E:Value→Shared→Prop),J s.heap→P i vi→P j vj→Q (.bool (bt i j)) s→wpAny (model prog w) A (richCompare .Lt vi vj) Q E s
theorem Zmx {J:Heap→Prop} (V:Walks prog w A.in1 I fp wr n P St) (bt:Nat→Nat→Bool) (cmp:CmpIn prog w A.in1 J P bt) (B:Addr) (nB:B ∉ fp) (stay:∀ h h':Heap,J h→(∀ b o,b ∉ wr→b≠B→h.get? b=some o→h'.get? b=some o)→J h') :
  ∀ (k j:Nat) (s:Shared) (u:Value) (c:Nat),n - (j + 1)=k→j + 1≤n→St (j + 1) s.heap→J s.heap→P (argBest bt j) u→s.heap.get? B=some { cls:=.type "list",dict:=none,data:=.seq #[u,u] c,slots:=#[] } →
  (∀ v h' tk,P (argBest bt (n - 1)) v→(∀ b o,b ∉ wr→b≠B→s.heap.get? b=some o→h'.get? b=some o)→R (.ok (.ret v)) { s with heap:=h',toks:=tk }) →
  codeAny (model prog w) A (.builtin "min.loop" ⟨[.ref I,.none,.ref B],[]⟩) R s:=by
 have nW:B ∉ wr:=fun z=>nB (V.sub _ z)
 have nm:(toString "min" ++ toString ".loop":String)="min.loop":=by decide
 intro k
 induction k with
 | zero =>
  intro j s u c ek lj st hJ pu hB out
  have last:j + 1=n:=by omega
  refine codeAny_builtin F.entry_min_loop ?_; rw [Around.under_plainId F.plain_min_loop _]
  show wpAny _ A.in1 (seqItems? (.ref B) >>= _) _ _ s
  refine wpAny_bind (wpAny_seqItems hB rfl ?_); show wpAny _ A.in1 (tryCatch (pyNext (.ref I)) _ >>= _) _ _ s
  refine wpAny_bind (wpAny_tryCatch (V.done s _ _ (last ▸ st) fun g tk kp=>?_))
  have hB2:=kp B _ nW hB
  show wpAny _ A.in1 (updateSeq B (fun _=>#[]) >>= _) _ _ _
  refine wpAny_bind (wpAny_updateSeq hB2 rfl (wpAny_bind (wpAny_letGo (wpAny_pure ?_))))
  exact out u _ tk (by rw [← last]; exact pu) fun b o bw bB e=>(Heap.get?_update_other _ _ (Ne.symm bB)).trans (kp b o bw e)
 | succ k ih =>
  intro j s u c ek lj st hJ pu hB out
  have more:j + 1 < n:=by omega
  refine codeAny_builtin F.entry_min_loop ?_; rw [Around.under_plainId F.plain_min_loop _]
  show wpAny _ A.in1 (seqItems? (.ref B) >>= _) _ _ s
  refine wpAny_bind (wpAny_seqItems hB rfl ?_); show wpAny _ A.in1 (tryCatch (pyNext (.ref I)) _ >>= _) _ _ s
  refine wpAny_bind (wpAny_tryCatch (V.item (j + 1) s _ _ more st fun v g tk pv st2 kp=>?_))
  have hB2:=kp B _ nW hB
  have hJ2:J g:=stay _ _ hJ fun b o bw _ e=>kp b o bw e
  show wpAny _ A.in1 (tryCatch (holding [v,v] (richCompare .Lt v u >>= _)) _ >>= _) _ _ _
  refine wpAny_bind (wpAny_tryCatch (wpAny_holding (wpAny_bind (cmp (j + 1) (argBest bt j) v u _ _ _ hJ2 pv pu ?_))))
  refine wpAny_bind (wpAny_holding (wpAny_truthy_bool ?_)); refine wpAny_bind (wpAny_letGo (wpAny_pure ?_))
  cases less:bt (j + 1) (argBest bt j) with
  | true =>
   simp only [if_true]
   refine wpAny_bind (wpAny_updateSeq hB2 rfl (wpAny_bind (wpAny_letGo ?_))); rw [nm]
   refine wpAny_pure ⟨plainId_quiet F.plain_min_loop _,ih (j + 1) _ v _ (by omega) more (V.frame _ _ _ st2 fun b bf o e=>U9 b o (fun z=>nB (z ▸ bf)) e) (stay _ _ hJ2 fun b o _ bB e=>U9 b o bB e) (by simp only [argBest,less,if_true]; exact pv) (Heap.get?_update_self _ hB2 rfl) fun v' g' tk' pv' kp'=>?_⟩
   exact out v' g' tk' pv' fun b o bw bB e=>kp' b o bw bB (U9 b o bB (kp b o bw e))
  | false =>
   simp only [Bool.false_eq_true,if_false]
   refine wpAny_bind (wpAny_letGo ?_); rw [nm]
   refine wpAny_pure ⟨plainId_quiet F.plain_min_loop _,ih (j + 1) _ u c (by omega) more st2 hJ2 (by simp only [argBest,less,Bool.false_eq_true,if_false]; exact pu) hB2 fun v' g' tk' pv' kp'=>?_⟩
   exact out v' g' tk' pv' fun b o bw bB e=>kp' b o bw bB (kp b o bw e)
theorem Zgq {J:Heap→Prop} (V:Walks prog w A.in1 I fp wr n P St) (bt:Nat→Nat→Bool) (cmp:CmpIn prog w A.in1 J P bt) (B:Addr) (nB:B ∉ fp) (stay:∀ h h':Heap,J h→(∀ b o,b ∉ wr→b≠B→h.get? b=some o→h'.get? b=some o)→J h') (hn:0 < n) {s:Shared} {c:Nat} (st:St 0 s.heap) (hJ:J s.heap)
  (hB:s.heap.get? B=some { cls:=.type "list",dict:=none,data:=.seq #[] c,slots:=#[] })
  (out:∀ v h' tk,P (argBest bt (n - 1)) v→(∀ b o,b ∉ wr→b≠B→s.heap.get? b=some o→h'.get? b=some o)→R (.ok (.ret v)) { s with heap:=h',toks:=tk }) :
  codeAny (model prog w) A (.builtin "min.loop" ⟨[.ref I,.none,.ref B],[]⟩) R s:=by
 have nW:B ∉ wr:=fun z=>nB (V.sub _ z)
 have nm:(toString "min" ++ toString ".loop":String)="min.loop":=by decide
 refine codeAny_builtin F.entry_min_loop ?_; rw [Around.under_plainId F.plain_min_loop _]
 show wpAny _ A.in1 (seqItems? (.ref B) >>= _) _ _ s
 refine wpAny_bind (wpAny_seqItems hB rfl ?_); show wpAny _ A.in1 (tryCatch (pyNext (.ref I)) _ >>= _) _ _ s
 refine wpAny_bind (wpAny_tryCatch (V.item 0 s _ _ hn st fun v g tk pv st2 kp=>?_))
 have hB2:=kp B _ nW hB
 have hJ2:J g:=stay _ _ hJ fun b o bw _ e=>kp b o bw e
 show wpAny _ A.in1 (updateSeq B (fun _=>#[v,v]) >>= _) _ _ _
 refine wpAny_bind (wpAny_updateSeq hB2 rfl ?_); rw [nm]
 refine wpAny_pure ⟨plainId_quiet F.plain_min_loop _,Zmx V bt cmp B nB stay _ 0 _ v _ rfl hn (V.frame _ _ _ st2 fun b bf o e=>U9 b o (fun z=>nB (z ▸ bf)) e) (stay _ _ hJ2 fun b o _ bB e=>U9 b o bB e) pv (Heap.get?_update_self _ hB2 rfl) fun v' g' tk' pv' kp'=>?_⟩
 exact out v' g' tk' pv' fun b o bw bB e=>kp' b o bw bB (U9 b o bB (kp b o bw e))
end
section
variable {prog:Program} {w:World} {A:Around} {E:Value→Shared→Prop} {s:Shared}
theorem min_walk {x:Value} {Q:Value→Shared→Prop} (h:wpAny (model prog w) A.in1 (pyIter x) (fun it s₂=>∃ I fp wr n P St bt J,it=.ref I∧Walks prog w A.in1 I fp wr n P St∧St 0 s₂.heap∧(∀ b∈fp,b < s₂.heap.objs.size)∧0 < n∧CmpIn prog w A.in1 J P bt ∧
   J s₂.heap∧(∀ h h':Heap,J h→(∀ b o,b ∉ wr→b≠s₂.heap.objs.size→h.get? b=some o→h'.get? b=some o)→J h') ∧
   ∀ v h' tk,P (argBest bt (n - 1)) v→(∀ b o,b ∉ wr→s₂.heap.get? b=some o→h'.get? b=some o)→Q v { s₂ with heap:=h',toks:=tk }) E s) :
  wpAny (model prog w) A (call (.builtin "min") [x]) Q E s:=by
 have nm:(toString "min" ++ toString ".loop":String)="min.loop":=by decide
 refine call_function_tree F.kind_min F.plain_min F.entry_min (F.args_min1 _) ?_
 show wpAny _ A.in1 (Builtin.Builtins.bindParams "min" ["key","default"] 0 ⟨[],[]⟩ >>= _) _ _ s
 have none2:Builtin.Builtins.bindParams "min" ["key","default"] 0 ⟨[],[]⟩=pure [none,none]:=rfl
 refine wpAny_bind (wpAny_of_eq none2 ?_); refine wpAny_bind (wpAny_pure ?_)
 refine wpAny_bind (wpAny_mono h (fun it s₂ q=>?_) fun _ _ z=>z)
 obtain ⟨I,fp,wr,n,P,St,bt,J,rfl,V,st,lo,hn,cmp,hJ,stay,out⟩:=q
 refine wpAny_bind (wpAny_newObj_type ?_)
 have nB:s₂.heap.objs.size ∉ fp:=fun z=>Nat.lt_irrefl _ (lo _ z)
 have hJ2:=stay _ _ hJ fun b o _ _ e=>Heap.get?_push_of_some { cls:=.type "list",data:=.seq #[] } e
 rw [nm]
 refine wpAny_pure ⟨plainId_quiet F.plain_min_loop _,Zgq V bt cmp s₂.heap.objs.size nB stay hn (V.frame _ _ _ st fun b _ o e=>Heap.get?_push_of_some _ e) hJ2 (Heap.get?_push_size _ rfl) fun v g tk pv kp=>?_⟩
 exact out v g tk pv fun b o bw e=>kp b o bw (Nat.ne_of_lt (Heap.lt_size e)) (Heap.get?_push_of_some _ e)
end
end HL
set_option maxHeartbeats 4000000
namespace L2
open PySem PySem.Spec PyProof.Rows
section
variable {X:Cx}
noncomputable def LsAt (as:List Addr) (nss:Nat→List Int) (h:Heap):Prop:=∀ i a,as[i]?=some a→∃ its:List Value,h.IsList a its.toArray∧IntsAre its (nss i)
theorem LsAt.cmp {P:Program} {w:World} {A:Around} {as:List Addr} {nss:Nat→List Int} (hu:A.units < cLine) :
  HL.CmpIn P w A (LsAt as nss) (fun i v=>∃ a,as[i]?=some a∧v=.ref a) fun i j=>HT.lexLt (nss i) (nss j):=by
 rintro i j vi vj s Q E hJ ⟨a,ea,rfl⟩ ⟨b,eb,rfl⟩ q
 obtain ⟨ia,la,na⟩:=hJ i a ea
 obtain ⟨ib,lb,nb⟩:=hJ j b eb
 exact HL.lt_lists la lb (by simpa using na) (by simpa using nb) hu q
theorem LsAt.stay {as:List Addr} {nss:Nat→List Int} {h h':Heap} {no:Addr→Prop} (hJ:LsAt as nss h) (hno:∀ (i:Nat) (a:Addr),as[i]?=some a→¬ no a) (k:∀ b o,¬ no b→h.get? b=some o→h'.get? b=some o):LsAt as nss h':=by
 intro i a e
 obtain ⟨its,⟨o,ho,hc⟩,n⟩:=hJ i a e
 exact ⟨its,⟨o,k a o (hno i a e) ho,hc⟩,n⟩
theorem LsAt.of {pins:List (Addr × Obj)} {σ:St} {H:Hp} {s:Shared} {as:List Addr} {nss:Nat→List Int} (I:Inv X pins σ H s) (h:∀ i a,as[i]?=some a→SqL X.K H a ((nss i).map V.int)):LsAt as nss s.heap:=by
 intro i a e
 obtain ⟨its,r,p,_⟩:=I.list (h i a e)
 exact ⟨its,p.isList,Qf r⟩
theorem LsAt.lt {as:List Addr} {nss:Nat→List Int} {h:Heap} (hJ:LsAt as nss h) {i:Nat} {a:Addr} (e:as[i]?=some a):a < h.objs.size:=by
 obtain ⟨_,⟨o,ho,_⟩,_⟩:=hJ i a e
 exact Heap.lt_size ho
noncomputable def Znf (nss:Nat→List Int) (n:Nat):Nat:=argBest (fun i j=>HT.lexLt (nss i) (nss j)) (n - 1)
theorem Ze4 (hc:X.calm=true) (hu:X.A.units + 64 < cLine):Jk X (.builtin "min") (fun xs H Q=>∃ (p:Addr) (as:List Addr) (nss:Nat→List Int),xs=[.ref p]∧SqL X.K H p (as.map V.ref)∧(∀ i a,as[i]?=some a→SqL X.K H a ((nss i).map V.int))∧0 < as.length ∧
  ∀ a,as[Znf nss as.length]?=some a→Q (.ref a) H):=by
 intro pins s σ H xs us Q I r h
 obtain ⟨p,as,nss,rfl,hp,hl,hn,q⟩:=h
 obtain ⟨u,rfl,ru⟩:=Jz r
 cases ru
 obtain ⟨its,rv,pl,hz⟩:=I.list hp
 have hJ:LsAt as nss s.heap:=LsAt.of I hl
 have ne:p≠s.heap.objs.size:=by obtain ⟨o,ho,_⟩:=pl.isList; exact Nat.ne_of_lt (Heap.lt_size ho)
 have hlen:its.toArray.size=as.length:=by have:=rv.length; rw [List.length_map] at this; simp; omega
 have hat:∀ (i:Nat) (v:Value),its.toArray[i]?=some v→∃ a,as[i]?=some a∧v=.ref a:=fun i v e=>by
  have e':its[i]?=some v:=by simpa using e
  have hi:i < as.length:=by have:=(List.getElem?_eq_some_iff.mp e').1; rw [List.size_toArray] at hlen; omega
  obtain ⟨u,hu',ru⟩:=rv.get (i:=i) (show (as.map V.ref)[i]?=some (V.ref as[i]) by rw [List.getElem?_map,List.getElem?_eq_getElem hi]; rfl)
  rw [e'] at hu'
  cases hu'
  cases ru
  exact ⟨as[i],List.getElem?_eq_getElem hi,rfl⟩
 have W:=Walks.list (prog:=X.prog) (w:=X.w) (A:=X.A.in1) (show X.A.in1.handled=none from I.ok.hd hc) s.heap.objs.size p ne its.toArray
 refine HL.min_walk (wpAny_pyIter_list pl.isList ⟨s.heap.objs.size,_,_,_,fun i v=>∃ a,as[i]?=some a∧v=.ref a,_,fun i j=>HT.lexLt (nss i) (nss j),LsAt as nss,rfl,
  ⟨W.sub,W.frame,fun i s' Q' E' hi st hQ=>W.item i s' Q' E' hi st fun v h' tk e st' k=>hQ v h' tk (hat i v e) st' k,W.done,W.self⟩,⟨⟨_,Heap.get?_push_size _ rfl,rfl,rfl⟩,pl.isList.push _⟩,?_,by rw [hlen]; exact hn,LsAt.cmp (by show X.A.units + 1 < cLine; omega),?_,?_,?_⟩)
 ·intro b hb
  show b < (s.heap.push _).objs.size
  rw [Heap.size_push]
  rcases List.mem_cons.mp hb with rfl | hb
  ·exact Nat.lt_succ_self _
  ·have:=List.mem_singleton.mp hb
   subst this
   obtain ⟨o,ho,_⟩:=pl.isList
   exact Nat.lt_succ_of_lt (Heap.lt_size ho)
 ·exact hJ.stay (no:=fun _=>False) (fun _ _ _=>id) fun b o _ e=>Heap.get?_push_of_some _ e
 ·intro h h' j k
  refine j.stay (no:=fun b=>b∈[s.heap.objs.size]∨b=(s.heap.push { cls:=.type "list_iterator",data:=.fields #[.ref p,.int 0 0] }).objs.size) (fun i a e=>?_) (fun b o n e=>k b o (fun z=>n (.inl z)) (fun z=>n (.inr z)) e)
  have l:=hJ.lt e
  rw [Heap.size_push,List.mem_singleton]
  exact fun z=>z.elim (fun z=>Nat.ne_of_lt l z) fun z=>Nat.ne_of_lt (Nat.lt_succ_of_lt l) z
 ·rintro v h' tk ⟨a,ea,rfl⟩ hk
  have I1:Inv X pins σ H { s with heap:=h',toks:=tk }:=I.kept fun b o e=>hk b o (fun z=>absurd (Heap.lt_size e) (by rw [List.mem_singleton.mp z]; exact Nat.lt_irrefl _)) (Heap.get?_push_of_some _ e)
  rw [hlen] at ea
  exact ⟨.ref a,H,I1,rfl,q a ea⟩
end
end L2
namespace HT
theorem Gq:∀ a:List Int,lexLt a a=false
 | []=>rfl
 | x :: a=>by rw [Qe,if_pos rfl]; exact Gq a
theorem Fo:∀ a b:List Int,lexLt a b=false→lexLt b a=false→a=b
 | [],[],_,_=>rfl
 | [],_ :: _,h,_=>by rw [Jt] at h; cases h
 | _ :: _,[],_,h=>by rw [Jt] at h; cases h
 | x :: a,y :: b,h1,h2=>by
  rw [Qe] at h1 h2
  by_cases e:x=y
  ·subst e
   rw [if_pos rfl] at h1 h2
   rw [Fo a b h1 h2]
  ·rw [if_neg e] at h1
   rw [if_neg (fun z=>e z.symm)] at h2
   have:=of_decide_eq_false h1
   have:=of_decide_eq_false h2
   omega
theorem Fn:∀ a b c:List Int,lexLt a b=true→lexLt b c=true→lexLt a c=true
 | [],[],_,h,_=>by rw [Uc] at h; cases h
 | [],_ :: _,[],_,h=>by rw [Wu] at h; cases h
 | [],_ :: _,_ :: _,_,_=>rfl
 | _ :: _,[],_,h,_=>by rw [Wu] at h; cases h
 | _ :: _,_ :: _,[],_,h=>by rw [Wu] at h; cases h
 | x :: a,y :: b,z :: c,h1,h2=>by
  rw [Qe] at h1 h2 ⊢
  by_cases e1:x=y
  ·subst e1
   rw [if_pos rfl] at h1
   by_cases e2:x=z
   ·subst e2
    rw [if_pos rfl] at h2 ⊢
    exact Fn a b c h1 h2
   ·rw [if_neg e2] at h2 ⊢; exact h2
  ·rw [if_neg e1] at h1
   have g1:=of_decide_eq_true h1
   by_cases e2:y=z
   ·subst e2
    rw [if_neg e1]; exact h1
   ·rw [if_neg e2] at h2
    have g2:=of_decide_eq_true h2
    rw [if_neg (by omega)]
    exact decide_eq_true (by omega)
theorem best_le (nss:Nat→List Int):∀ n i,i≤n→lexLt (nss i) (nss (PySem.argBest (fun i j=>lexLt (nss i) (nss j)) n))=false
 | 0,i,h=>by
  have:i=0:=by omega
  subst this
  exact Gq _
 | n + 1,i,h=>by
  have ih:=best_le nss n
  unfold PySem.argBest
  cases e:lexLt (nss (n + 1)) (nss (PySem.argBest (fun i j=>lexLt (nss i) (nss j)) n)) with
  | true =>
   rw [if_pos rfl]
   by_cases c:i=n + 1
   ·subst c; exact Gq _
   ·cases f:lexLt (nss i) (nss (n + 1)) with
    | false=>rfl
    | true =>
     have:=Fn _ _ _ f e
     rw [ih i (by omega)] at this
     cases this
  | false =>
   rw [if_neg (by decide)]
   by_cases c:i=n + 1
   ·subst c; exact e
   ·exact ih i (by omega)
noncomputable def IsLeast (S:List Int→Prop) (a:List Int):Prop:=S a∧∀ b,S b→lexLt b a=false
theorem IsLeast.eq {S T:List Int→Prop} {a b:List Int} (h1:IsLeast S a) (h2:IsLeast T b) (hST:∀ x,S x ↔ T x):a=b :=
 Fo a b (h2.2 a ((hST a).mp h1.1)) (h1.2 b ((hST b).mpr h2.1))
end HT
set_option maxHeartbeats 4000000
namespace L2
open PySem PySem.Spec PyProof.Rows
end L2
set_option maxHeartbeats 4000000
namespace L2
open PySem PySem.Spec PyProof.Rows
end L2
set_option maxHeartbeats 4000000
namespace L2
open PySem PySem.Spec PyProof.Rows
end L2
set_option maxHeartbeats 4000000
namespace L2
open PySem PySem.Spec PyProof.Rows
end L2
namespace L2
open PySem PySem.Spec PyProof.Rows
end L2
set_option maxHeartbeats 4000000
namespace KT
open PySem L2
noncomputable def aftN (i:Nat):Nat:=if i % 3=2 then i - 2 else i + 1
theorem Zd8 (i:Nat):after (i:Int)=(aftN i:Int):=by unfold after aftN; split <;> split <;> omega
theorem V9 (i:Nat):aftN i / 3=i / 3:=by unfold aftN; split <;> omega
noncomputable def nxC (M:List (Option Nat)) (c:Nat):Option Nat:=(M[aftN c]?).join
noncomputable abbrev InvM (M:List (Option Nat)):Prop:=∀ (i j:Nat),M[i]?=some (some j)→M[j]?=some (some i)∧i≠j
end KT
set_option maxHeartbeats 4000000
namespace KT
open PySem L2
noncomputable def befN (i:Nat):Nat:=if i % 3=0 then i + 2 else i - 1
theorem Zd6 (i:Nat):Zr (i:Int)=(befN i:Int):=by unfold Zr befN; split <;> split <;> omega
noncomputable abbrev sL:Str:=Str.ofString "L"
end KT
set_option maxHeartbeats 4000000
namespace L2
open PySem PySem.Spec PyProof.Rows
end L2
set_option maxHeartbeats 4000000
namespace L2
open PySem PySem.Spec PyProof.Rows
section
variable {P:Program} {w:World} {K:PySem.W.Frag} {mg:Str→Option Value} {base:Heap} {x qual:Str} {st:Stmt} {f:Addr} {fd:FuncData} {N ps:List Str} {k:Nat} {sp:Sp}
theorem Fun.aR (F:Fun K x qual st f fd) (S:FnScope N ps (Zj st))
  (hbody:∀ (cdv:Value) (A:Around) (outer:List Env) (s:Shared) (H:Hp) (vs:List V) (Q:VK) (E:XK),Room k (A.deeper (envOfC qual (Zj st) s.heap.objs.size f cdv))→sp vs H Q E →
   ∃ t,PSs (cxOf (CXr P w) P w K mg base N qual (Zj st) f cdv A outer s H E).nox (Yz st) t∧t { nx:=fun _ H'=>Q .non H',rt:=Q } (start N vs) H)
  (len:∀ vs H Q E,sp vs H Q E→vs.length=ps.length:=by (intro vs H Q E h; (repeat obtain ⟨_,h⟩:=h); subst_vars; rfl)):FnOk P w K mg base (CXr P w) (k + 1) f fd ps sp:=F.okR S len hbody
theorem Fun.aX (F:Fun K x qual st f fd) (S:FnScope N ps (Zj st))
  (hbody:∀ (cdv:Value) (A:Around) (outer:List Env) (s:Shared) (H:Hp) (vs:List V) (Q:VK) (E:XK),Room k (A.deeper (envOfC qual (Zj st) s.heap.objs.size f cdv))→sp vs H Q E →
   ∃ t,PSsX true (cxOf (CXr P w) P w K mg base N qual (Zj st) f cdv A outer s H E).nox (Yz st) t∧t { nx:=fun _ H'=>Q .non H',rt:=Q } (fun cls _ H'=>E cls none H') (start N vs) H)
  (len:∀ vs H Q E,sp vs H Q E→vs.length=ps.length:=by (intro vs H Q E h; (repeat obtain ⟨_,h⟩:=h); subst_vars; rfl)):FnOk P w K mg base (CXr P w) (k + 1) f fd ps sp:=F.okX S len hbody
end
end L2
set_option maxHeartbeats 4000000
namespace L2
open PySem PySem.Spec PyProof.Rows
section
variable {X:Cx}
theorem F8 (K:PySem.W.Frag) (h:X.K=K:=by rfl):OpR X (compareOp .NotIn) (rIn K true):=h ▸ Zbp
end
end L2
set_option maxHeartbeats 4000000
namespace L2
open PySem PySem.Spec PyProof.Rows PySem.SeqAt
end L2
set_option maxHeartbeats 4000000
namespace KT
open PySem L2
end KT
set_option maxHeartbeats 4000000
namespace KT
open PySem L2
theorem Qy {P:Nat→Bool}:∀ (l:List Nat) (k h:Nat),(l.filter P)[k]?=some h→∃ l1 l2,l=l1 ++ h :: l2∧P h=true∧(l1.filter P).length=k
 | [],k,h,e=>by simp at e
 | x :: r,k,h,e=>by
  by_cases c:P x=true
  ·rw [List.filter_cons_of_pos c] at e
   cases k with
   | zero=>cases e; exact ⟨[],r,rfl,c,rfl⟩
   | succ k =>
    obtain ⟨l1,l2,e1,e2,e3⟩:=Qy r k h e
    exact ⟨x :: l1,l2,by rw [e1]; rfl,e2,by rw [List.filter_cons_of_pos c,List.length_cons,e3]⟩
  ·rw [List.filter_cons_of_neg c] at e
   obtain ⟨l1,l2,e1,e2,e3⟩:=Qy r k h e
   exact ⟨x :: l1,l2,by rw [e1]; rfl,e2,by rw [List.filter_cons_of_neg c,e3]⟩
theorem Zjr (a:Nat):¬ (a:Int)=after a:=by have:=Yk a; omega
theorem Zjq (a:Nat):¬ (a:Int)=Zr a:=by have:=Yc a; omega
theorem K2 {a b:Nat} (h:a / 3≠b / 3):¬ (a:Int)=after b:=by have:=(Yk b).1; omega
theorem K1 {a b:Nat} (h:a / 3≠b / 3):¬ (a:Int)=Zr b:=by have:=(Yc b).1; omega
theorem Zby {left:Bool} {a b z:Nat} (h:z / 3=a / 3∨z / 3=b / 3):mvN left a b z / 3=a / 3∨mvN left a b z / 3=b / 3:=by
 have e:=Wn left a b z
 rcases O3 left a b z with c | c | c | c | c <;> rw [c] at e
 ·rw [Uz e rfl]; exact h
 ·exact .inl (Uz e (Yk a).1)
 ·exact .inl (Uz e (Yc a).1)
 ·exact .inr (Uz e (Yk b).1)
 ·exact .inr (Uz e (Yc b).1)
theorem Zbx {left:Bool} {a b z:Nat} (h1:z / 3≠a / 3) (h2:z / 3≠b / 3):mvN left a b z=z:=by
 have:mvI left a b z=z:=by
  unfold mvI
  rw [if_neg (K2 h1),if_neg (K1 h2),if_neg (K2 h2),if_neg (K1 h1)]
 unfold mvN
 rw [this]
 exact Int.toNat_natCast z
noncomputable def Zw (a b q:Nat):Bool:=!decide (q=a) && !decide (q=b)
noncomputable def Yi (a b:Nat) (ws:List Nat):List Nat:=ws.filter (Zw a b)
noncomputable def mtN (M:List (Option Nat)) (h:Nat):Nat:=(M.getD h none).getD 0
noncomputable def Wc (a b e f:Nat):List Nat:=if e / 3=f / 3 then [] else [a,b].filter fun q=>decide (q / 3=e / 3)
noncomputable def Xm (M:List (Option Nat)) (left:Bool) (a b h f:Nat):List Nat:=mvN left a b h :: Wc a b (mvN left a b (mtN M h)) (mvN left a b f)
noncomputable def Yn (ks:List Nat):List (Nat × Nat):=ks.zip (rot ks (1 % ks.length))
noncomputable def Yb (M:List (Option Nat)) (left:Bool) (a b:Nat) (ps:List (Nat × Nat)):List Nat:=(ps.map fun q=>Xm M left a b q.1 q.2).flatten
theorem Gb (a b e f:Nat):(Wc a b e f).length≤2:=by
 unfold Wc
 split
 ·exact Nat.zero_le _
 ·exact List.length_filter_le _ _
theorem Fb (M:List (Option Nat)) (left:Bool) (a b:Nat):∀ ps:List (Nat × Nat),(Yb M left a b ps).length≤3 * ps.length
 | []=>Nat.le_refl _
 | q :: r=>by
  have ih:=Fb M left a b r
  have h1:=Gb a b (mvN left a b (mtN M q.1)) (mvN left a b q.2)
  have e:Yb M left a b (q :: r)=Xm M left a b q.1 q.2 ++ Yb M left a b r:=rfl
  rw [e,List.length_append]
  unfold Xm
  rw [List.length_cons,List.length_cons]
  omega
theorem Zem {M:List (Option Nat)} {left:Bool} {a b i h f:Nat} {ps:List (Nat × Nat)} (hq:ps[i]?=some (h,f)):Yb M left a b (ps.take (i + 1))=Yb M left a b (ps.take i) ++ Xm M left a b h f:=by
 unfold Yb
 rw [List.take_add_one,hq,List.map_append,List.flatten_append]
 simp
theorem Uq (ks:List Nat):(Yn ks).length=ks.length:=by
 unfold Yn
 by_cases z:ks.length=0
 ·have:ks=[]:=List.length_eq_zero_iff.mp z
  subst this; rfl
 ·rw [List.length_zip,Xx _ (Nat.le_of_lt (Nat.mod_lt _ (by omega))),Nat.min_self]
theorem Zhb {a b e f:Nat} (hab:a / 3≠b / 3) (hne:e / 3≠f / 3) (he:e / 3=a / 3∨e / 3=b / 3):Wc a b e f=[if a / 3=e / 3 then a else b]:=by
 unfold Wc
 rw [if_neg hne]
 rcases he with he | he
 ·rw [if_pos he.symm,List.filter_cons_of_pos (by simp [he]),List.filter_cons_of_neg (by simp only [decide_eq_true_eq]; omega)]
  rfl
 ·rw [if_neg (by omega),List.filter_cons_of_neg (by simp only [decide_eq_true_eq]; omega),List.filter_cons_of_pos (by simp [he])]
  rfl
end KT
set_option maxHeartbeats 4000000
namespace KT
open PySem L2
theorem Zfw {ws:List Nat} {j i:Nat} (hj:j < ws.length) (hi:i < ws.length):(rot ws (j + 1))[i]?=ws[(i + (j + 1)) % ws.length]?:=by
 by_cases z:j + 1 < ws.length
 ·exact Jn z hi
 ·have e:j + 1=ws.length:=by omega
  rw [e,Nat.add_mod_right,Nat.mod_eq_of_lt hi]
  unfold rot
  rw [List.drop_length,List.take_length,List.nil_append]
theorem Zc5 {P:Nat→Bool} {l:List Nat} {k h:Nat} (hk:(l.filter P)[k]?=some h):∃ j,l[j]?=some h∧P h=true∧(l.filter P)[(k + 1) % (l.filter P).length]?=((rot l (j + 1)).filter P)[0]?:=by
 obtain ⟨l1,l2,e,hh,hl⟩:=Qy l k h hk
 subst e
 refine ⟨l1.length,by rw [List.getElem?_append_right (Nat.le_refl _),Nat.sub_self]; rfl,hh,?_⟩
 have er:rot (l1 ++ h :: l2) (l1.length + 1)=l2 ++ (l1 ++ [h]):=by
  unfold rot
  have e:l1 ++ h :: l2=(l1 ++ [h]) ++ l2:=by simp
  rw [e,show l1.length + 1=(l1 ++ [h]).length by simp,List.drop_left,List.take_left]
 rw [er]
 have ef:(l1 ++ h :: l2).filter P=l1.filter P ++ h :: l2.filter P:=by rw [List.filter_append,List.filter_cons_of_pos hh]
 rw [ef,List.filter_append,List.filter_append,List.filter_cons_of_pos hh]
 cases e2:l2.filter P with
 | cons q r =>
  rw [Nat.mod_eq_of_lt (by simp; omega),List.getElem?_append_right (by omega),show k + 1 - (l1.filter P).length=1 by omega]
  rfl
 | nil =>
  rw [show (l1.filter P ++ [h]).length=k + 1 by simp [hl],Nat.mod_self]
  rfl
noncomputable def CH (R:Nat→Nat→Prop) (l:List Nat):Prop:=∀ (k u v:Nat),l[k]?=some u→l[k + 1]?=some v→R u v
theorem CH.app {R:Nat→Nat→Prop} {l r:List Nat} {x:Nat} (h1:CH R (l ++ [x])) (h2:CH R (x :: r)):CH R (l ++ x :: r):=by
 intro k u v hu hv
 by_cases z:k + 1≤l.length
 ·refine h1 k u v ?_ ?_
  ·rw [List.getElem?_append_left (by omega)] at hu ⊢; exact hu
  ·by_cases z2:k + 1 < l.length
   ·rw [List.getElem?_append_left z2] at hv ⊢; exact hv
   ·rw [List.getElem?_append_right (by omega),show k + 1 - l.length=0 by omega] at hv ⊢
    exact hv
 ·refine h2 (k - l.length) u v ?_ ?_
  ·rw [List.getElem?_append_right (by omega)] at hu; exact hu
  ·rw [List.getElem?_append_right (by omega),show k + 1 - l.length=k - l.length + 1 by omega] at hv; exact hv
noncomputable def Nx (M:List (Option Nat)) (u v:Nat):Prop:=∃ m,M[u]?=some (some m)∧v / 3=m / 3∧v≠m
theorem Pl.chain {M:List (Option Nat)} {x:Nat} {t:List Nat} (h:CH (Nx M) (x :: t ++ [x])):Pl M (x :: t):=by
 have hl:(x :: t).length=t.length + 1:=rfl
 refine ⟨List.cons_ne_nil _ _,fun p hp=>?_,fun k u p hu hp m hm=>?_⟩
 ·obtain ⟨k,hk,e⟩:=List.mem_iff_getElem.mp hp
  have e1:(x :: t ++ [x])[k]?=some p:=by rw [List.getElem?_append_left hk,List.getElem?_eq_getElem hk,e]
  have hk2:k + 1 < (x :: t ++ [x]).length:=by rw [List.length_append,List.length_singleton]; omega
  obtain ⟨m,hm,_⟩:=h k p _ e1 (List.getElem?_eq_getElem hk2)
  exact ⟨m,hm⟩
 ·have hk:=(List.getElem?_eq_some_iff.mp hu).1
  have e1:(x :: t ++ [x])[k]?=some u:=by rw [List.getElem?_append_left hk]; exact hu
  have e2:(x :: t ++ [x])[k + 1]?=some p:=by
   by_cases z:k + 1 < (x :: t).length
   ·rw [Nat.mod_eq_of_lt z] at hp
    rw [List.getElem?_append_left z]; exact hp
   ·have e:k + 1=(x :: t).length:=by omega
    rw [e,Nat.mod_self] at hp
    rw [e,List.getElem?_append_right (Nat.le_refl _),Nat.sub_self]
    exact hp
  obtain ⟨m',hm',a1,a2⟩:=h k u p e1 e2
  rw [hm] at hm'
  cases hm'
  exact ⟨a1,a2⟩
theorem mv_a {left:Bool} {a b:Nat} (h:a / 3≠b / 3):mvN left a b a=a∧mvN left a b b=b:=by
 have h':=Ne.symm h
 have i1:mvI left a b a=a:=by
  unfold mvI
  rw [if_neg (Zjr a),if_neg (K1 h),if_neg (K2 h),if_neg (Zjq a)]
 have i2:mvI left a b b=b:=by
  unfold mvI
  rw [if_neg (K2 h'),if_neg (Zjq b),if_neg (Zjr b),if_neg (K1 h')]
 unfold mvN
 rw [i1,i2]
 exact ⟨Int.toNat_natCast a,Int.toNat_natCast b⟩
section
variable {M:List (Option Nat)} {ns:List Int} {left:Bool} {a b:Nat}
theorem Ux (td:TD M ns) (ha:a < M.length) (hb:b < M.length) (hab:a / 3≠b / 3) {y m:Nat} (hy:M[y]?=some (some m)):(exM left a b M)[mvN left a b y]?=some (some (mvN left a b m)):=by
 obtain ⟨n,_,_,hn⟩:=td.n
 have hyl:y < M.length:=(List.getElem?_eq_some_iff.mp hy).1
 have hz:mvN left a b y < M.length:=by rw [hn] at ha hb hyl ⊢; exact Wm ha hb left hyl
 rw [Qm td ha hb hab left hz,Xj hab,hy]
 rfl
theorem Zgm (td:TD M ns) (hM:M[a]?=some (some b)) (hab:a / 3≠b / 3) {ws:List Nat} (hP:Pl M ws) {k h f:Nat} (hh:(Yi a b ws)[k]?=some h) (hf:(Yi a b ws)[(k + 1) % (Yi a b ws).length]?=some f) :
  ∃ m,M[h]?=some (some m)∧((f / 3=m / 3∧f≠m)∨(m / 3=a / 3∧f / 3=b / 3)∨(m / 3=b / 3∧f / 3=a / 3)):=by
 have inv:=td.inv
 have hMb:=(inv a b hM).1
 have ha:a < M.length:=(List.getElem?_eq_some_iff.mp hM).1
 have hb:b < M.length:=(List.getElem?_eq_some_iff.mp hMb).1
 obtain ⟨j,hj,hPh,nx⟩:=Zc5 hh
 have hjl:=(List.getElem?_eq_some_iff.mp hj).1
 have hfk:Zw a b f=true:=(List.mem_filter.mp (List.mem_of_getElem? hf)).2
 have kb:∀ q,Zw a b q=true→q≠a∧q≠b:=fun q hq=>by
  unfold Zw at hq
  simpa using hq
 obtain ⟨hha,hhb⟩:=kb h hPh
 obtain ⟨hfa,hfb⟩:=kb f hfk
 obtain ⟨m,hm⟩:=hP.has h (List.mem_of_getElem? hj)
 have emt:mtN M h=m:=by unfold mtN; rw [List.getD_eq_getElem?_getD,hm]; rfl
 have hma:m≠a:=fun z=>by subst z; have:=(inv h m hm).1; rw [hM] at this; cases this; exact hhb rfl
 have hmb:m≠b:=fun z=>by subst z; have:=(inv h m hm).1; rw [hMb] at this; cases this; exact hha rfl
 have nx:((rot ws (j + 1)).filter (Zw a b))[0]?=some f:=nx.symm.trans hf
 have t0:=Zfw hjl (show 0 < ws.length by omega)
 rw [Nat.zero_add] at t0
 have key:(f / 3=m / 3∧f≠m)∨(m / 3=a / 3∧f / 3=b / 3)∨(m / 3=b / 3∧f / 3=a / 3):=by
  have ep:=List.getElem?_eq_getElem (Nat.mod_lt (j + 1) (show 0 < ws.length by omega))
  obtain ⟨n1,n2⟩:=hP.nxt j h _ hj ep m hm
  generalize ws[(j + 1) % ws.length]'(Nat.mod_lt (j + 1) (by omega))=p at ep n1 n2
  cases hr:rot ws (j + 1) with
  | nil =>
   have:=Xx ws (show j + 1≤ws.length by omega)
   rw [hr] at this
   simp at this
   omega
  | cons p' r =>
   rw [hr,ep] at t0
   have t0:some p'=some p:=t0
   cases t0
   rw [hr] at nx
   by_cases c:Zw a b p=true
   ·rw [List.filter_cons_of_pos c] at nx
    have nx:some p=some f:=nx
    cases nx
    exact .inl ⟨n1,n2⟩
   ·rw [List.filter_cons_of_neg c] at nx
    have hpc:p=a∨p=b:=by
     unfold Zw at c
     simp only [Bool.and_eq_true,Bool.not_eq_true',decide_eq_false_iff_not,not_and,Decidable.not_not] at c
     by_cases z:p=a
     ·exact .inl z
     ·exact .inr (c z)
    cases r with
    | nil=>simp at nx
    | cons q r =>
     have h2:1 < ws.length:=by
      have:=Xx ws (show j + 1≤ws.length by omega)
      rw [hr] at this
      simp only [List.length_cons] at this
      omega
     have t1:=Zfw hjl h2
     rw [hr] at t1
     have t1:ws[(1 + (j + 1)) % ws.length]?=some q:=t1.symm
     have t1':ws[((j + 1) % ws.length + 1) % ws.length]?=some q:=by rw [Nat.mod_add_mod,Nat.add_comm]; exact t1
     have qk:∀ d,M[p]?=some (some d)→q / 3=d / 3∧q≠d:=fun d hd=>hP.nxt _ p q ep t1' d hd
     have fin:∀ d,M[p]?=some (some d)→p / 3≠d / 3→(d=a∨d=b)→f / 3=d / 3:=fun d hd hne hdab=>by
      obtain ⟨q1,q2⟩:=qk d hd
      have hqk:Zw a b q=true:=by
       unfold Zw
       have q3:q≠p:=fun z=>hne (by rw [← z,q1])
       have:q≠a∧q≠b:=by
        rcases hpc with e | e <;> rcases hdab with e' | e' <;> subst e <;> subst e' <;> first | exact ⟨q3,q2⟩ | exact ⟨q2,q3⟩ | exact absurd rfl hne
       rw [decide_eq_false this.1,decide_eq_false this.2]
       rfl
      rw [List.filter_cons_of_pos hqk] at nx
      have nx:some q=some f:=nx
      cases nx
      exact q1
     rcases hpc with e | e
     ·subst e
      exact .inr (.inl ⟨n1.symm,fin b hM hab (.inr rfl)⟩)
     ·subst e
      exact .inr (.inr ⟨n1.symm,fin a hMb (Ne.symm hab) (.inl rfl)⟩)
 exact ⟨m,hm,key⟩
theorem Zn7 (td:TD M ns) (hM:M[a]?=some (some b)) (hab:a / 3≠b / 3) {ws:List Nat} (hP:Pl M ws) {k h f:Nat} (hh:(Yi a b ws)[k]?=some h) (hf:(Yi a b ws)[(k + 1) % (Yi a b ws).length]?=some f) :
  CH (Nx (exM left a b M)) (Xm M left a b h f ++ [mvN left a b f]):=by
 have inv:=td.inv
 have hMb:=(inv a b hM).1
 have ha:a < M.length:=(List.getElem?_eq_some_iff.mp hM).1
 have hb:b < M.length:=(List.getElem?_eq_some_iff.mp hMb).1
 obtain ⟨ma,mb⟩:=@mv_a left a b hab
 have hPh:Zw a b h=true:=(List.mem_filter.mp (List.mem_of_getElem? hh)).2
 have hfk:Zw a b f=true:=(List.mem_filter.mp (List.mem_of_getElem? hf)).2
 have kb:∀ q,Zw a b q=true→q≠a∧q≠b:=fun q hq=>by
  unfold Zw at hq
  simpa using hq
 obtain ⟨hha,hhb⟩:=kb h hPh
 obtain ⟨hfa,hfb⟩:=kb f hfk
 obtain ⟨m,hm,key⟩:=Zgm td hM hab hP hh hf
 have emt:mtN M h=m:=by unfold mtN; rw [List.getD_eq_getElem?_getD,hm]; rfl
 have hma:m≠a:=fun z=>by subst z; have:=(inv h m hm).1; rw [hM] at this; cases this; exact hhb rfl
 have hmb:m≠b:=fun z=>by subst z; have:=(inv h m hm).1; rw [hMb] at this; cases this; exact hha rfl
 have x0:=Ux (left:=left) td ha hb hab hm
 have inj:=fun {y z:Nat} (e:mvN left a b y=mvN left a b z)=>Vm hab left e
 unfold Xm
 rw [emt]
 by_cases hc:mvN left a b m / 3=mvN left a b f / 3
 ·have ec:Wc a b (mvN left a b m) (mvN left a b f)=[]:=if_pos hc
  rw [ec]
  have hfm:f≠m:=by
   rcases key with k1 | k1 | k1
   ·exact k1.2
   ·exact fun z=>hab (by rw [← k1.1,← k1.2,z])
   ·exact fun z=>hab (by rw [← k1.1,← k1.2,z])
  intro i u v hu hv
  have hi:i + 1 < 2:=(List.getElem?_eq_some_iff.mp hv).1
  have hi:i=0:=by omega
  subst hi
  cases hu
  cases hv
  exact ⟨_,x0,hc.symm,fun z=>hfm (inj z)⟩
 ·have hm3:m / 3=a / 3∨m / 3=b / 3:=by
   rcases key with k1 | k1 | k1
   ·refine Classical.byContradiction fun z=>hc ?_
    have c1:m / 3≠a / 3:=fun y=>z (.inl y)
    have c2:m / 3≠b / 3:=fun y=>z (.inr y)
    rw [Zbx c1 c2,Zbx (by rw [k1.1]; exact c1) (by rw [k1.1]; exact c2),k1.1]
   ·exact .inl k1.1
   ·exact .inr k1.1
  have hf3:f / 3=a / 3∨f / 3=b / 3:=by
   rcases key with k1 | k1 | k1
   ·rw [k1.1]; exact hm3
   ·exact .inr k1.2
   ·exact .inl k1.2
  have xm:=Zby (left:=left) hm3
  have xf:=Zby (left:=left) hf3
  rw [Zhb hab hc xm]
  have xa:=Ux (left:=left) td ha hb hab hM
  have xb:=Ux (left:=left) td ha hb hab hMb
  rw [ma,mb] at xa
  rw [mb,ma] at xb
  have nm_a:mvN left a b m≠a:=fun z=>hma (inj (z.trans ma.symm))
  have nm_b:mvN left a b m≠b:=fun z=>hmb (inj (z.trans mb.symm))
  have nf_a:mvN left a b f≠a:=fun z=>hfa (inj (z.trans ma.symm))
  have nf_b:mvN left a b f≠b:=fun z=>hfb (inj (z.trans mb.symm))
  by_cases y:a / 3=mvN left a b m / 3
  ·rw [if_pos y]
   intro i u v hu hv
   have hi:i + 1 < 3:=(List.getElem?_eq_some_iff.mp hv).1
   rcases (show i=0∨i=1 by omega) with e | e
   ·subst e; cases hu; cases hv
    exact ⟨_,x0,y,fun z=>nm_a z.symm⟩
   ·subst e; cases hu; cases hv
    exact ⟨_,xa,xf.resolve_left (fun z=>hc (y.symm.trans z.symm)),nf_b⟩
  ·rw [if_neg y]
   intro i u v hu hv
   have hi:i + 1 < 3:=(List.getElem?_eq_some_iff.mp hv).1
   rcases (show i=0∨i=1 by omega) with e | e
   ·subst e; cases hu; cases hv
    exact ⟨_,x0,(xm.resolve_left (fun z=>y z.symm)).symm,fun z=>nm_b z.symm⟩
   ·subst e; cases hu; cases hv
    exact ⟨_,xb,xf.resolve_right (fun z=>hc ((xm.resolve_left (fun w=>y w.symm)).trans z.symm)),nf_a⟩
theorem Ks {R:Nat→Nat→Prop}:∀ (r:List Nat) (h z:Nat),(∀ (k u v:Nat),(h :: r ++ [z])[k]?=some u→(h :: r ++ [z])[k + 1]?=some v→CH R (Xm M left a b u v ++ [mvN left a b v]))→CH R (Yb M left a b ((h :: r).zip (r ++ [z])) ++ [mvN left a b z])
 | [],h,z,B=>by
  have e:Yb M left a b ([h].zip ([] ++ [z]))=Xm M left a b h z:=by unfold Yb; simp
  rw [e]
  exact B 0 h z rfl rfl
 | f :: r,h,z,B=>by
  have ih:=Ks r f z fun k u v hu hv=>B (k + 1) u v hu hv
  have e:Yb M left a b ((h :: f :: r).zip (f :: r ++ [z]))=Xm M left a b h f ++ Yb M left a b ((f :: r).zip (r ++ [z])):=rfl
  rw [e,List.append_assoc]
  have hd:∃ t,Yb M left a b ((f :: r).zip (r ++ [z])) ++ [mvN left a b z]=mvN left a b f :: t:=by
   cases r with
   | nil=>exact ⟨_,rfl⟩
   | cons _ _=>exact ⟨_,rfl⟩
  obtain ⟨t,ht⟩:=hd
  rw [ht] at ih ⊢
  exact CH.app (B 0 h f rfl rfl) ih
theorem Zlc (td:TD M ns) (hM:M[a]?=some (some b)) (hab:a / 3≠b / 3) {ws:List Nat} (hP:Pl M ws):Yi a b ws≠[]:=by
 intro hk
 have inv:=td.inv
 have hMb:=(inv a b hM).1
 have all:∀ q∈ws,q=a∨q=b:=fun q hq=>by
  have:¬ Zw a b q=true:=fun z=>by
   have hm:q∈Yi a b ws:=List.mem_filter.mpr ⟨hq,z⟩
   rw [hk] at hm
   exact absurd hm List.not_mem_nil
  unfold Zw at this
  simp only [Bool.and_eq_true,Bool.not_eq_true',decide_eq_false_iff_not,not_and,Decidable.not_not] at this
  by_cases z:q=a
  ·exact .inl z
  ·exact .inr (this z)
 have hp:0 < ws.length:=by have:=hP.ne; cases ws with | nil=>exact absurd rfl this | cons _ _=>simp
 have e0:=List.getElem?_eq_getElem hp
 have e1:=List.getElem?_eq_getElem (Nat.mod_lt (0 + 1) hp)
 have n:=hP.nxt 0 _ _ e0 e1
 have h0:=all _ (List.mem_of_getElem? e0)
 have h1:=all _ (List.mem_of_getElem? e1)
 generalize ws[0]=u at n h0
 generalize ws[(0 + 1) % ws.length]'(Nat.mod_lt _ hp)=v at n h1
 rcases h0 with rfl | rfl
 ·obtain ⟨n1,n2⟩:=n _ hM
  rcases h1 with rfl | rfl
  ·exact hab n1
  ·exact n2 rfl
 ·obtain ⟨n1,n2⟩:=n _ hMb
  rcases h1 with rfl | rfl
  ·exact n2 rfl
  ·exact hab n1.symm
theorem Pl.pull (td:TD M ns) (hM:M[a]?=some (some b)) (hab:a / 3≠b / 3) {ws:List Nat} (hP:Pl M ws):Pl (exM left a b M) (Yb M left a b (Yn (Yi a b ws))):=by
 have hne:=Zlc td hM hab hP
 have B:=fun k h f e1 e2=>@Zn7 M ns left a b td hM hab ws hP k h f e1 e2
 generalize Yi a b ws=ks at hne B
 cases ks with
 | nil=>exact absurd rfl hne
 | cons h r =>
  have er:rot (h :: r) (1 % (h :: r).length)=r ++ [h]:=by
   cases r with
   | nil=>rw [show 1 % [h].length=0 from Nat.mod_self 1]; rfl
   | cons q r' =>
    rw [Nat.mod_eq_of_lt (by simp)]
    rfl
  unfold Yn
  rw [er]
  have C:=Ks (M:=M) (left:=left) (a:=a) (b:=b) (R:=Nx (exM left a b M)) r h h fun k u v hu hv=>by
   have hk:k < (h :: r).length:=by
    have:=(List.getElem?_eq_some_iff.mp hv).1
    rw [List.length_append,List.length_singleton] at this
    omega
   refine B k u v ?_ ?_
   ·rw [List.getElem?_append_left hk] at hu; exact hu
   ·by_cases z:k + 1 < (h :: r).length
    ·rw [Nat.mod_eq_of_lt z]
     rw [List.getElem?_append_left z] at hv
     exact hv
    ·have e:k + 1=(h :: r).length:=by omega
     rw [e,List.getElem?_append_right (Nat.le_refl _),Nat.sub_self] at hv
     rw [e,Nat.mod_self]
     exact hv
  have hd:∃ t,Yb M left a b ((h :: r).zip (r ++ [h]))=mvN left a b h :: t:=by
   cases r with
   | nil=>exact ⟨_,rfl⟩
   | cons _ _=>exact ⟨_,rfl⟩
  obtain ⟨t,ht⟩:=hd
  rw [ht] at C ⊢
  exact Pl.chain C
end
end KT
set_option maxHeartbeats 4000000
namespace KT
open PySem L2
section
variable {M:List (Option Nat)} {ns:List Int} {left:Bool} {a b:Nat}
theorem Zld {q:Nat} (h:Zw a b q=true):q≠a∧q≠b:=by unfold Zw at h; simpa using h
theorem CH.tail {R:Nat→Nat→Prop} {x:Nat} {l:List Nat} (h:CH R (x :: l)):CH R l:=fun k u v hu hv=>h (k + 1) u v hu hv
theorem Fr (hab:a / 3≠b / 3):∀ ps:List (Nat × Nat),(∀ q∈ps,Zw a b q.1=true)→Yi a b (Yb M left a b ps)=ps.map fun q=>mvN left a b q.1
 | [],_=>rfl
 | q :: r,h=>by
  have ih:=Fr hab r fun z hz=>h z (List.mem_cons_of_mem _ hz)
  obtain ⟨ma,mb⟩:=@mv_a left a b hab
  obtain ⟨h1,h2⟩:=Zld (h q List.mem_cons_self)
  have k1:Zw a b (mvN left a b q.1)=true:=by
   unfold Zw
   rw [decide_eq_false (fun z=>h1 (Vm hab left (z.trans ma.symm))),decide_eq_false (fun z=>h2 (Vm hab left (z.trans mb.symm)))]
   rfl
  have c0:(Wc a b (mvN left a b (mtN M q.1)) (mvN left a b q.2)).filter (Zw a b)=[]:=by
   rw [List.filter_eq_nil_iff]
   intro c hc
   unfold Wc at hc
   split at hc
   ·exact absurd hc List.not_mem_nil
   ·have hc:=(List.mem_filter.mp hc).1
    have:c=a∨c=b:=by simpa using hc
    unfold Zw
    rcases this with z | z <;> subst z <;> simp
  have e:Yb M left a b (q :: r)=Xm M left a b q.1 q.2 ++ Yb M left a b r:=rfl
  unfold Yi at ih ⊢
  rw [e,List.filter_append,ih]
  unfold Xm
  rw [List.filter_cons_of_pos k1,c0]
  rfl
theorem Pl.toChain {x:Nat} {t:List Nat} (h:Pl M (x :: t)):CH (Nx M) (x :: t ++ [x]):=by
 intro k u v hu hv
 have hk:k < (x :: t).length:=by
  have:=(List.getElem?_eq_some_iff.mp hv).1
  rw [List.length_append,List.length_singleton] at this
  omega
 rw [List.getElem?_append_left hk] at hu
 have hv':(x :: t)[(k + 1) % (x :: t).length]?=some v:=by
  by_cases z:k + 1 < (x :: t).length
  ·rw [List.getElem?_append_left z] at hv
   rw [Nat.mod_eq_of_lt z]; exact hv
  ·have e:k + 1=(x :: t).length:=by omega
   rw [e,List.getElem?_append_right (Nat.le_refl _),Nat.sub_self] at hv
   rw [e,Nat.mod_self]; exact hv
 obtain ⟨m,hm⟩:=h.has u (List.mem_of_getElem? hu)
 exact ⟨m,hm,h.nxt k u v hu hv' m hm⟩
end
end KT
set_option maxHeartbeats 4000000
namespace KT
open PySem L2
end KT
set_option maxHeartbeats 4000000
namespace KT
open PySem L2
theorem Zkm {α:Type} (A B:List α):rot (A ++ B) A.length=B ++ A:=by unfold rot; simp
noncomputable def Tn {α:Type} (u v:List α):Prop:=∃ A B,u=A ++ B∧v=B ++ A
theorem Tn.rot {α:Type} {u v:List α} (h:Tn u v):∃ s,s≤u.length∧v=KT.rot u s:=by
 obtain ⟨A,B,rfl,rfl⟩:=h
 exact ⟨A.length,by simp,(Zkm A B).symm⟩
theorem Tn.symm {α:Type} {u v:List α} (h:Tn u v):Tn v u:=by
 obtain ⟨A,B,rfl,rfl⟩:=h
 exact ⟨B,A,rfl,rfl⟩
theorem Tn.trans {α:Type} {u v w:List α} (h:Tn u v) (g:Tn v w):Tn u w:=by
 obtain ⟨A,B,rfl,rfl⟩:=h
 obtain ⟨C,D,e,rfl⟩:=g
 rcases List.append_eq_append_iff.mp e with ⟨X,e1,e2⟩ | ⟨X,e1,e2⟩
 ·subst e1 e2
  exact ⟨X,D ++ B,by simp,by simp⟩
 ·subst e1 e2
  exact ⟨A ++ C,X,by simp,by simp⟩
theorem Tn.len {α:Type} {u v:List α} (h:Tn u v):v.length=u.length:=by
 obtain ⟨A,B,rfl,rfl⟩:=h
 simp [Nat.add_comm]
section
variable {M:List (Option Nat)} {ns:List Int} {left:Bool} {a b:Nat}
noncomputable abbrev pW (M:List (Option Nat)) (left:Bool) (a b:Nat) (ws:List Nat):List Nat:=Yb M left a b (Yn (Yi a b ws))
end
end KT
set_option maxHeartbeats 4000000
namespace KT
open PySem L2
theorem V8 (i:Nat):befN i / 3=i / 3:=by unfold befN; split <;> omega
end KT
set_option maxHeartbeats 4000000
namespace KT
open PySem L2
structure Mv (M:List (Option Nat)) (ns:List Int) (x:Int) (a b:Nat):Prop where
 hM:M[a]?=some (some b)
 lt:a < b
 nm:ns[a]?=some x
 ab:a / 3≠b / 3
inductive Row:List (Option Nat)→List Int→List (Int × Bool)→List (Option Nat)→List Int→Prop
 | nil {M:List (Option Nat)} {ns:List Int}:Row M ns [] M ns
 | cons {M M':List (Option Nat)} {ns ns':List Int} {x:Int} {left:Bool} {a b:Nat} {r:List (Int × Bool)}:TD M ns→Mv M ns x a b→Row (exM left a b M) (exN left a b ns) r M' ns'→Row M ns ((x,left) :: r) M' ns'
inductive RowW:List (Option Nat)→List Int→List Nat→List (Int × Bool)→List (Option Nat)→List Int→List Nat→Prop
 | nil {M:List (Option Nat)} {ns:List Int} {ws:List Nat}:RowW M ns ws [] M ns ws
 | cons {M M':List (Option Nat)} {ns ns':List Int} {ws ws':List Nat} {x:Int} {left:Bool} {a b:Nat} {r:List (Int × Bool)}:TD M ns→Mv M ns x a b→Pl M ws→ws.length≤1000→RowW (exM left a b M) (exN left a b ns) (pW M left a b ws) r M' ns' ws'→RowW M ns ws ((x,left) :: r) M' ns' ws'
theorem Pl.tn {M:List (Option Nat)} {u v:List Nat} (h:Pl M u) (t:Tn u v):Pl M v:=by
 have hl:=t.len
 have hp:0 < u.length:=List.length_pos_iff.mpr h.ne
 obtain ⟨s,hs,e⟩:=t.rot
 rcases Nat.lt_or_ge s u.length with z | z
 ·have g:∀ k,k < u.length→v[k]?=u[(k + s) % u.length]?:=fun k hk=>by rw [e]; exact Jn z hk
  refine ⟨fun z=>by rw [z] at hl; simp at hl; omega,fun p hp'=>h.has p ?_,fun k x p hx hp' m hm=>?_⟩
  ·obtain ⟨A,B,rfl,rfl⟩:=t
   simp only [List.mem_append] at hp' ⊢
   exact hp'.symm
  ·have hk:k < u.length:=by rw [← hl]; exact (List.getElem?_eq_some_iff.mp hx).1
   rw [g k hk] at hx
   rw [hl,g _ (Nat.mod_lt _ hp)] at hp'
   refine h.nxt _ x p hx ?_ m hm
   rw [← hp']
   congr 1
   rw [Nat.mod_add_mod,Nat.mod_add_mod]
   congr 1
   omega
 ·have:s=u.length:=by omega
  subst this
  have e2:KT.rot u u.length=u:=by unfold KT.rot; simp
  rw [e,e2]; exact h
section
variable {M M':List (Option Nat)} {ns ns':List Int} {ws ws':List Nat} {mv:List (Int × Bool)} {x:Int} {left:Bool} {a b:Nat}
theorem Mv.lts (h:Mv M ns x a b) (td:TD M ns):a < M.length∧b < M.length:=⟨(List.getElem?_eq_some_iff.mp h.hM).1,(List.getElem?_eq_some_iff.mp (td.inv a b h.hM).1).1⟩
theorem Mv.td (h:Mv M ns x a b) (td:TD M ns):TD (exM left a b M) (exN left a b ns):=td.ex (h.lts td).1 (h.lts td).2 h.ab left
end
end KT
set_option maxHeartbeats 4000000
namespace KT
open PySem L2
section
variable {M:List (Option Nat)} {ns:List Int} {kp:Nat→Bool}
theorem Vc {kp:Nat→Bool}:∀ {X:List Nat} {h:Nat} {t:List Nat},X.filter kp=h :: t→∃ pre l,X=pre ++ h :: l∧pre.filter kp=[]∧l.filter kp=t∧kp h=true
 | [],_,_,e=>by cases e
 | x :: X,h,t,e=>by
  cases c:kp x with
  | true =>
   rw [List.filter_cons_of_pos c] at e
   injection e with e1 e2
   subst e1
   exact ⟨[],X,rfl,rfl,e2,c⟩
  | false =>
   rw [List.filter_cons_of_neg (by rw [c]; decide)] at e
   obtain ⟨pre,l,e1,e2,e3,e4⟩:=Vc e
   exact ⟨x :: pre,l,by rw [e1]; rfl,by rw [List.filter_cons_of_neg (by rw [c]; decide)]; exact e2,e3,e4⟩
end
section
variable {M:List (Option Nat)} {ns:List Int} {l1 l2:Bool} {a b c d:Nat}
theorem Zlb (hab:a / 3≠b / 3) (ws:List Nat):Yi a b (pW M l1 a b ws)=(Yi a b ws).map (mvN l1 a b):=by
 have ef:(Yn (Yi a b ws)).map Prod.fst=Yi a b ws:=by
  unfold Yn
  refine List.map_fst_zip ?_
  have:=Uq (Yi a b ws)
  unfold Yn at this
  rw [List.length_zip] at this
  omega
 unfold pW
 rw [Fr hab _ fun q hq=>(List.mem_filter.mp (show q.1∈Yi a b ws by rw [← ef]; exact List.mem_map.mpr ⟨q,hq,rfl⟩)).2]
 conv=>rhs; rw [← ef]
 rw [List.map_map]
 rfl
end
end KT
set_option maxHeartbeats 4000000
namespace L2
open PySem PySem.Spec PyProof.Rows PySem.SeqAt
end L2
set_option maxHeartbeats 4000000
namespace L2
open PySem PySem.Spec PyProof.Rows
noncomputable def XB (X:Cx) (pins:List (Addr × Obj)) (E:XK) (ev:Value) (s':Shared):Prop :=
 ∃ (e T:Addr) (cls a0:Value) (σ':St) (H':Hp),ev=.ref e∧Inv X pins σ' H' s'∧FlyT e T cls a0 s'.heap∧FxOk X pins H' e∧FxOk X pins H' T∧E cls none H'
noncomputable def Held (X:Cx) (pins:List (Addr × Obj)):Prop:=∀ b∈X.ex,∃ o,(b,o)∈pins
noncomputable def PEC (X:Cx) (e:Expr) (t:TEX):Prop :=
 ∀ (pins:List (Addr × Obj)) (s:Shared) (σ:St) (H:Hp) (Q:VK) (E:XK),Held X pins→Inv X pins σ H s→t σ H Q E→wpAny (model X.prog X.w) X.A (eval e X.env) (EP X pins σ Q) (XB X pins E) s
noncomputable abbrev TAX:=St→Hp→(List V→Hp→Prop)→XK→Prop
noncomputable def PAC (X:Cx) (es:List Expr) (t:TAX):Prop :=
 ∀ (pos:Pos) (pins:List (Addr × Obj)) (s:Shared) (σ:St) (H:Hp) (Q:List V→Hp→Prop) (E:XK),Held X pins→Inv X pins σ H s→t σ H Q E→wpAny (model X.prog X.w) X.A (spliced (backTo pos (starEach es X.env))) (AP X pins σ Q) (XB X pins E) s
section
variable {X:Cx} {pins:List (Addr × Obj)} {σ:St} {H:Hp} {s:Shared}
variable {k:Nat} {f C:Addr} {fd:FuncData} {ps:List Str} {sp:Sp} {dvs:List V} {ds:List Value} {x m:Str} {p pos apos:Pos} {e o:Expr} {es:List Expr} {ta:TE} {t:TA}
noncomputable def Znh (t:TAX):TEX:=fun σ H Q E=>t σ H (fun xs H1=>xs.length≤sizeLine∧∀ p,H1 p=none→Q (.ref p) (upd H1 p (.tup xs))) E
theorem Zkx {x1} {t:TAX} (h:PAC X es t):PEC X (.Tuple es x1 pos) (Znh t):=by
 intro pins s σ H Q E hp I hq
 refine wpAny_Tuple_spliced (wpAny_mono (h pos pins s σ H _ E hp I hq) (fun us s1 zz7=>?_) fun _ _ z=>z)
 obtain ⟨xs,H1,I1,r,z,q⟩:=zz7
 refine ⟨by rw [← r.length]; exact z,?_⟩
 have hf:H1 s1.heap.objs.size=none:=I1.hok.fresh (Nat.le_refl _)
 refine ⟨.ref s1.heap.objs.size,upd H1 s1.heap.objs.size (.tup xs),I1.laid (t':=s1.toks) (fun b u e=>Heap.get?_push_of_some _ e) (Nat.le_refl _) ?_,rfl,q _ hf⟩
 exact ⟨z,us,r,⟨_,Heap.get?_push_size _ rfl,rfl,_,rfl⟩⟩
end
noncomputable abbrev TBX:=St→Hp→(St→Hp→Prop)→XK→Prop
end L2
set_option maxHeartbeats 4000000
namespace L2
open PySem PySem.Spec PyProof.Rows
noncomputable def Rise (l:List Nat):Prop:=l.Pairwise (· < ·)
theorem Vi {xs:Array Nat} (hr:Rise xs.toList) {i k x y:Nat} (hi:xs[i]?=some x) (hk:xs[k]?=some y) (h:i < k):x < y:=by
 have e1:xs.toList[i]?=some x:=by rw [Array.getElem?_toList]; exact hi
 have e2:xs.toList[k]?=some y:=by rw [Array.getElem?_toList]; exact hk
 obtain ⟨l1,q1⟩:=List.getElem?_eq_some_iff.mp e1
 obtain ⟨l2,q2⟩:=List.getElem?_eq_some_iff.mp e2
 have:=List.pairwise_iff_getElem.mp hr i k l1 l2 h
 rw [q1,q2] at this
 exact this
theorem V7 {xs:Array Nat} {j:Nat} (hr:Rise xs.toList):∀ (fuel lo hi:Nat),hi - lo≤fuel→lo≤hi→hi≤xs.size→(∀ i x,i < lo→xs[i]?=some x→x < j)→(∀ i x,hi≤i→xs[i]?=some x→j≤x) →
  (∀ i x,i < SetTable.below.go xs j fuel lo hi→xs[i]?=some x→x < j)∧(∀ i x,SetTable.below.go xs j fuel lo hi≤i→xs[i]?=some x→j≤x)
 | 0,lo,hi,hf,hl,hs,h1,h2=>by
  have:lo=hi:=by omega
  subst this
  exact ⟨h1,h2⟩
 | fuel + 1,lo,hi,hf,hl,hs,h1,h2=>by
  unfold SetTable.below.go
  by_cases c:lo < hi
  ·rw [if_pos c]
   have hm:(lo + hi) / 2 < xs.size:=by omega
   have em:xs[(lo + hi) / 2]?=some xs[(lo + hi) / 2]:=Array.getElem?_eq_getElem hm
   have eg:xs.getD ((lo + hi) / 2) j=xs[(lo + hi) / 2]:=by rw [Array.getD_eq_getD_getElem?,em]; rfl
   dsimp only
   rw [eg]
   by_cases z:xs[(lo + hi) / 2] < j
   ·rw [if_pos z]
    refine V7 hr fuel _ _ (by omega) (by omega) hs (fun i x hi' hx=>?_) h2
    by_cases e:i=(lo + hi) / 2
    ·subst e; rw [em] at hx; cases hx; exact z
    ·exact Nat.lt_trans (Vi hr hx em (by omega)) z
   ·rw [if_neg z]
    refine V7 hr fuel _ _ (by omega) (by omega) (by omega) h1 (fun i x hi' hx=>?_)
    by_cases e:i=(lo + hi) / 2
    ·subst e; rw [em] at hx; cases hx; omega
    ·have:=Vi hr em hx (by omega); omega
  ·rw [if_neg c]
   have:lo=hi:=by omega
   subst this
   exact ⟨h1,h2⟩
theorem Zci {xs:Array Nat} {j:Nat} (hr:Rise xs.toList):∀ i x,i < SetTable.below xs j→xs[i]?=some x→x < j :=
 (V7 hr xs.size 0 xs.size (by omega) (by omega) (by omega) (fun i x h=>by omega) (fun i x h hx=>by rw [Array.getElem?_eq_none h] at hx; cases hx)).1
theorem O8 {xs:Array Nat} {j:Nat} (hr:Rise xs.toList):∀ i x,SetTable.below xs j≤i→xs[i]?=some x→j≤x :=
 (V7 hr xs.size 0 xs.size (by omega) (by omega) (by omega) (fun i x h=>by omega) (fun i x h hx=>by rw [Array.getElem?_eq_none h] at hx; cases hx)).2
theorem Zcr {xs:Array Nat} {j:Nat} (hr:Rise xs.toList) (hn:xs[SetTable.below xs j]?≠some j):Rise (SetTable.insertAt xs (SetTable.below xs j) j).toList:=by
 unfold Rise
 rw [SetTable.toList_insertAt,List.pairwise_append]
 have hr':xs.toList.Pairwise (· < ·):=hr
 have ht:∀ a∈xs.toList.take (SetTable.below xs j),a < j:=fun a ha=>by
  obtain ⟨i,hi,e⟩:=List.mem_iff_getElem.mp ha
  rw [List.getElem_take] at e
  rw [List.length_take] at hi
  refine Zci hr i a (by omega) ?_
  rw [← Array.getElem?_toList,List.getElem?_eq_getElem (by omega),e]
 have hd:∀ a∈xs.toList.drop (SetTable.below xs j),j < a:=fun a ha=>by
  obtain ⟨i,hi,e⟩:=List.mem_iff_getElem.mp ha
  rw [List.getElem_drop] at e
  rw [List.length_drop] at hi
  have ea:xs[SetTable.below xs j + i]?=some a:=by rw [← Array.getElem?_toList,List.getElem?_eq_getElem (by omega),e]
  have h1:=O8 (j:=j) hr _ a (by omega) ea
  rcases Nat.lt_or_ge j a with z | z
  ·exact z
  ·have:a=j:=by omega
   subst this
   cases i with
   | zero=>exact absurd ea hn
   | succ i =>
    have hb:SetTable.below xs a < xs.size:=by rw [Array.length_toList] at hi; omega
    have eb:=Array.getElem?_eq_getElem hb
    have h2:=O8 hr _ _ (Nat.le_refl _) eb
    have h3:=Vi hr eb ea (by omega)
    omega
 refine ⟨hr'.sublist (List.take_sublist ..),?_,fun a ha b hb=>?_⟩
 ·rw [List.pairwise_cons]
  exact ⟨hd,hr'.sublist (List.drop_sublist ..)⟩
 ·rcases List.mem_cons.mp hb with rfl | hb
  ·exact ht a ha
  ·exact Nat.lt_trans (ht a ha) (hd b hb)
noncomputable def Gg (t:SetTable) (j:Nat):Prop:=t.place[SetTable.below t.place j]?≠some j
theorem Gz {t:SetTable} {j:Nat} (h:∀ i,t.slot j≠.live i):Gg t j:=by
 intro e
 unfold SetTable.slot at h
 refine h (SetTable.below t.place j) ?_
 dsimp only
 rw [if_pos (by rw [e]; exact beq_self_eq_true _)]
theorem Vu {t:SetTable} {ha:Nat→Int} {h:Int}:∀ (fuel:Nat) (p:SetTable.Probe) (j:Nat) (d:Option Nat),SetTable.probe.go t ha h fuel p=some (.empty j d)→(∀ e,p.dummy=some e→Gg t e)→Gg t j∧∀ e,d=some e→Gg t e
 | 0,p,j,d,e,hp=>by unfold SetTable.probe.go at e; cases e
 | fuel + 1,p,j,d,e,hp=>by
  unfold SetTable.probe.go at e
  cases c:t.slot p.j with
  | empty =>
   rw [c] at e
   cases e
   exact ⟨Gz (fun i z=>by rw [c] at z; cases z),hp⟩
  | dummy =>
   rw [c] at e
   refine Vu fuel _ j d e fun x hx=>?_
   have adv:∀ q:SetTable.Probe,(t.advance q).dummy=q.dummy:=fun q=>by unfold SetTable.advance; split <;> rfl
   rw [adv] at hx
   cases hx
   exact Gz fun i z=>by rw [c] at z; cases z
  | live i =>
   rw [c] at e
   dsimp only at e
   split at e
   ·cases e
   ·refine Vu fuel _ j d e fun x hx=>?_
    have adv:∀ q:SetTable.Probe,(t.advance q).dummy=q.dummy:=fun q=>by unfold SetTable.advance; split <;> rfl
    rw [adv] at hx
    exact hp x hx
theorem Qb (n:Nat):Rise (Array.range n).toList:=by
 unfold Rise
 rw [Array.toList_range]
 exact List.pairwise_lt_range
theorem Zc3 {t:SetTable} (es:Array (Int × Value)) (h:Int) (x:Value) (hr:Rise t.place.toList):Rise (layNew t es h x).2.1.place.toList∧(layNew t es h x).2.1.led=t.led:=by
 unfold layNew
 split
 ·rename_i slot wd e
  have hf:Gg t slot:=by
   unfold SetTable.freeSlot SetTable.probe at e
   split at e
   ·rename_i j d ep
    obtain ⟨h1,h2⟩:=Vu _ _ j d ep (fun e he=>by unfold SetTable.probeStart at he; cases he)
    cases d with
    | none=>cases e; exact h1
    | some q=>cases e; exact h2 q rfl
   ·cases e
  dsimp only
  unfold SetTable.orStandIn
  split
  ·exact ⟨Zcr hr hf,rfl⟩
  ·exact ⟨Qb _,rfl⟩
 ·exact ⟨Qb _,rfl⟩
theorem Zgu (f:Nat→Option Nat) (n:Nat):Rise (((List.range n).filterMap fun j=>(f j).map (j,·)).map (·.1)):=by
 have e:∀ l:List Nat,(l.filterMap fun j=>(f j).map (j,·)).map (·.1)=l.filter fun j=>(f j).isSome:=fun l=>by
  induction l with
  | nil=>rfl
  | cons a l ih =>
   cases c:f a with
   | none=>rw [List.filterMap_cons_none (by rw [c]; rfl),List.filter_cons_of_neg (by rw [c]; decide),ih]
   | some b=>rw [List.filterMap_cons_some (b:=(a,b)) (by rw [c]; rfl),List.filter_cons_of_pos (by rw [c]; rfl),List.map_cons,ih]
 unfold Rise
 rw [e]
 exact List.pairwise_lt_range.filter _
theorem F7 (t:SetTable) (es:Array (Int × Value)) (n:Nat):Rise (relayAll t es n).2.1.place.toList∧(relayAll t es n).2.1.led=t.led:=by
 unfold relayAll
 split
 ·rename_i t' order e
  dsimp only
  split
  ·unfold SetTable.relaid SetTable.laid at e
   cases c:SetTable.layClean (SetTable.sizeAbove n - 1) (es.map (·.1)) with
   | none=>rw [c] at e; cases e
   | some owner =>
    rw [c] at e
    have e:_=some (t',order):=e
    simp only [Option.pure_def,Option.bind_eq_bind,Option.bind_some,Option.some.injEq,Prod.mk.injEq] at e
    obtain ⟨rfl,_⟩:=e
    exact ⟨Zgu (fun j=>owner.getD j none) _,rfl⟩
  ·exact ⟨Qb _,rfl⟩
 ·exact ⟨Qb _,rfl⟩
end L2
set_option maxHeartbeats 4000000
namespace L2
open PySem PySem.Spec PyProof.Rows
noncomputable def WSet (P:Program) (w:World) (h:Heap) (a:Addr) (ks:List Int):Prop :=
 ∃ (o:Obj) (es:Array (Int × Value)) (ep:Nat) (t:SetTable) (ks':List Int),h.get? a=some o∧o.ExactSet∧o.data=.set es ep t∧ElemsOf (intKind P w) es.toList∧IntsAre (es.toList.map (·.2)) ks'∧ks'.Perm ks ∧
  es.size < scanBound∧t.fits es.size=true∧Rise t.place.toList∧(w.params.followText "set-order"=true∨t.led=true)
theorem Fu {k:Int}:∀ {es:List (Int × Value)} {ks:List Int},IntsAre (es.map (·.2)) ks→((∃ e∈es,Value.isInt k e.2=true) ↔ k∈ks)
 | [],ks,h=>by
  cases h
  refine ⟨fun zz32=>?_,fun hk=>absurd hk List.not_mem_nil⟩
  obtain ⟨e,he,_⟩:=zz32
  exact absurd he List.not_mem_nil
 | (hh,v) :: es,ks,h=>by
  have h:IntsAre (v :: es.map (·.2)) ks:=h
  cases h with
  | @cons _ ns n t hr =>
   have ih:=Fu (k:=k) hr
   constructor
   ·rintro ⟨e,he,hi⟩
    rcases List.mem_cons.mp he with rfl | he
    ·obtain ⟨t',e'⟩:=Value.isInt_shape hi
     cases e'
     exact List.mem_cons_self
    ·exact List.mem_cons_of_mem _ (ih.mp ⟨e,he,hi⟩)
   ·intro hk
    rcases List.mem_cons.mp hk with rfl | hk
    ·exact ⟨_,List.mem_cons_self,by simp [Value.isInt]⟩
    ·obtain ⟨e,he,hi⟩:=ih.mpr hk
     exact ⟨e,List.mem_cons_of_mem _ he,hi⟩
theorem Q9:∀ {us vs:List Value},us.Perm vs→∀ {ks:List Int},IntsAre vs ks→∃ ks',IntsAre us ks'∧ks'.Perm ks:=by
 intro us vs p
 induction p with
 | nil=>intro ks h; exact ⟨ks,h,.refl _⟩
 | cons x p ih =>
  intro ks h
  cases h with
  | cons n t hr =>
   obtain ⟨ks',h1,h2⟩:=ih hr
   exact ⟨n :: ks',.cons n t h1,h2.cons n⟩
 | swap x y l =>
  intro ks h
  cases h with
  | cons n t hr =>
   cases hr with
   | cons m u hr=>exact ⟨m :: n :: _,.cons m u (.cons n t hr),.swap n m _⟩
 | trans p q ihp ihq =>
  intro ks h
  obtain ⟨k1,h1,h2⟩:=ihq h
  obtain ⟨k2,h3,h4⟩:=ihp h1
  exact ⟨k2,h3,h4.trans h2⟩
theorem Ft:∀ {vs:List Value} {ks:List Int},IntsAre vs ks→∀ (n:Int) (t:Tok),IntsAre (vs ++ [.int n t]) (ks ++ [n])
 | _,_,.nil,n,t=>.cons n t .nil
 | _,_,.cons m u h,n,t=>.cons m u (Ft h n t)
section
variable {P:Program} {w:World} {A:Around} {E:Value→Shared→Prop} {s:Shared}
theorem WSet.lt {h:Heap} {a:Addr} {ks:List Int} (x:WSet P w h a ks):a < h.objs.size:=by obtain ⟨o,_,_,_,_,ho,_⟩:=x; exact Heap.lt_size ho
theorem WSet.kept {h h':Heap} {a:Addr} {ks:List Int} (x:WSet P w h a ks) (k:∀ o,h.get? a=some o→h'.get? a=some o):WSet P w h' a ks:=by
 obtain ⟨o,es,ep,t,ks',ho,r⟩:=x; exact ⟨o,es,ep,t,ks',k _ ho,r⟩
theorem Zad {h:Heap} {a:Addr} {o:Obj} {es:Array (Int × Value)} {ep:Nat} {t:SetTable} (ho:h.get? a=some o) (hd:o.data=.set es ep t) (es':Array (Int × Value)) (t':SetTable) :
  (h.update a (Obj.putSet es' t')).get? a=some { o with data:=.set es' (ep + 1) t' }:=by
 have q:=putSet_of es' t' hd
 rw [← q]
 exact Heap.get?_update_self _ ho (by rw [q]; rfl)
theorem Zhi {a:Addr} {k:Int} {tk:Tok} {ks:List Int} {Q:Bool→Shared→Prop} (hS:WSet P w s.heap a ks) (room:ks.length + 1 < scanBound)
  (h:∀ h',Heap.SameBut a s.heap h'→WSet P w h' a (step_dedup ks k)→Q (!ks.any (· == k)) { s with heap:=h' }) :
  wpAny (model P w) A (setAddHashed a (.int k tk) ((intKind P w).hash k)) Q E s:=by
 obtain ⟨o,es,ep,t,ns,ho,ex,od,el,hI,pm,lt,ft,rs,ld⟩:=id hS
 have ik:(intKind P w).is k (.int k tk)=true:=intKind_is _ _ _ _
 have hmem:=(Fu (k:=k) hI).trans pm.mem_iff
 have sz:es.size=ks.length:=by rw [← pm.length_eq,← hI.length,List.length_map,Array.length_toList]
 have fin:∀ (b:Bool) {s₁:Shared} {R:Unit→Shared→Prop},R () s₁→wpAny (model P w) A (match b with | true=>rule "set.scan.the-table-gave-way" | false=>pure ()) R E s₁:=fun b s₁ R q=>by
  cases b
  ·exact wpAny_pure q
  ·exact wpAny_rule q
 unfold setAddHashed setAddHashedIn; refine wpAny_holding ?_
 refine wpAny_bind (wpAny_setState_of ho od ft ?_)
 dsimp only
 rw [byScan_of (x:=.int k tk) rfl lt el,if_pos rfl]
 unfold setAddByScan; refine wpAny_bind (wpAny_bind (wpAny_rule (wpAny_bind (wpAny_setScan_of ik ho od ft el ?_))))
 cases c:List.findIdx? (fun e=>(intKind P w).is k e.2) es.toList with
 | some j =>
  obtain ⟨hj,pj,_⟩:=List.findIdx?_eq_some_iff_getElem.mp c
  have yes:ks.any (· == k)=true:=List.any_eq_true.mpr ⟨k,hmem.mp ⟨es.toList[j],List.getElem_mem hj,pj⟩,beq_self_eq_true _⟩
  have z:=h s.heap (Heap.SameBut.refl a s.heap) (by unfold step_dedup; rw [if_pos yes]; exact hS)
  rw [yes] at z
  exact wpAny_pure (wpAny_pure z)
 | none =>
  have no:ks.any (· == k)=false:=by
   rw [List.any_eq_false]
   intro x hx z
   obtain ⟨e,he,hi⟩:=hmem.mpr (show k∈ks by rw [← (beq_iff_eq.mp z)]; exact hx)
   exact absurd (show (intKind P w).is k e.2=true from hi) (by rw [List.findIdx?_eq_none_iff.mp c e he]; decide)
  rw [no,show step_dedup ks k=ks ++ [k] by unfold step_dedup; rw [no]; rfl] at h
  have g1:=layNew_perm t es ((intKind P w).hash k) (.int k tk)
  have g2:=layNew_fits t es ((intKind P w).hash k) (.int k tk)
  have g3:=Zc3 es ((intKind P w).hash k) (.int k tk) rs
  dsimp only
  generalize layNew t es ((intKind P w).hash k) (.int k tk)=lay at g1 g2 g3 ⊢
  obtain ⟨es1,t1,du,gv⟩:=lay
  dsimp only at g1 g2 g3 ⊢
  have p1:es1.toList.Perm (es.toList ++ [((intKind P w).hash k,Value.int k tk)]):=by rw [← Array.toList_push]; exact g1
  have el1:=(el.push ik rfl).perm p1
  have lt1:es1.size < scanBound:=by
   have:=p1.length_eq
   rw [List.length_append,Array.length_toList,Array.length_toList,List.length_singleton] at this
   omega
  have ld1:w.params.followText "set-order"=true∨t1.led=true:=by rw [g3.2]; exact ld
  obtain ⟨n1,i1,i2⟩:=Q9 (p1.map (·.2)) (show IntsAre ((es.toList ++ [((intKind P w).hash k,Value.int k tk)]).map (·.2)) (ns ++ [k]) by rw [List.map_append]; exact Ft hI k tk)
  replace i2:=i2.trans (pm.append_right [k])
  refine wpAny_bind (fin _ ?_)
  rw [hashByValue_scannable 8 (x:=.int k tk) rfl,show plainKind (.int k tk)=true from rfl,ite_self]
  refine wpAny_bind (wpAny_pure ?_)
  try rw [if_pos rfl]
  refine wpAny_bind (wpAny_storeSet_of ho od ?_ (fits_of_scanBound lt1))
  have o1:=Zad ho od es1 t1
  have s1:=Heap.SameBut.update s.heap a (Obj.putSet es1 t1)
  split
  ·have q1:=relayAll_perm t1 es1 (SetTable.grown es1.size)
   have q2:=relayAll_fits t1 es1 (SetTable.grown es1.size)
   have q3:=F7 t1 es1 (SetTable.grown es1.size)
   generalize relayAll t1 es1 (SetTable.grown es1.size)=rl at q1 q2 q3 ⊢
   obtain ⟨es2,t2,g2⟩:=rl
   dsimp only at q1 q2 q3 ⊢
   have lt2:es2.size < scanBound:=by rw [← Array.length_toList,q1.length_eq,Array.length_toList]; exact lt1
   obtain ⟨n2,j1,j2⟩:=Q9 (q1.map (·.2)) i1
   refine wpAny_bind (fin _ (wpAny_bind (wpAny_storeSet_of o1 rfl ?_ (fits_of_scanBound lt2))))
   exact wpAny_pure (wpAny_pure (h _ (s1.trans (Heap.SameBut.update _ a _)) ⟨_,es2,_,t2,n2,Zad o1 rfl es2 t2,ex,rfl,el1.perm q1,j1,j2.trans i2,lt2,q2,q3.1,by rw [q3.2]; exact ld1⟩))
  ·exact wpAny_pure (wpAny_pure (h _ s1 ⟨_,es1,_,t1,n1,o1,ex,rfl,el1,i1,i2,lt1,g2,g3.1,ld1⟩))
end
end L2
set_option maxHeartbeats 4000000
namespace L2
open PySem PySem.Spec PyProof.Rows
section
variable {P:Program} {w:World} {A:Around} {E:Value→Shared→Prop} {s:Shared}
noncomputable def set0 (w:World):Obj:={ cls:=.type "set",dict:=none,data:=.set #[] 0 (.fresh 0 0 (!w.params.followText "set-order")) }
theorem Zlw {h:Heap} {a:Addr} (e:h.get? a=some (set0 w)):WSet P w h a []:=by
 refine ⟨_,#[],0,_,[],e,⟨rfl,rfl,rfl⟩,rfl,fun e he=>by simp at he,.nil,.refl _,by decide,by rfl,List.Pairwise.nil,?_⟩
 show w.params.followText "set-order"=true∨(!w.params.followText "set-order")=true
 cases w.params.followText "set-order"
 ·exact .inr rfl
 ·exact .inl rfl
theorem Zk4 {x:Value} {Q:Value→Shared→Prop} (h:Q (.ref s.heap.objs.size) { s with heap:=s.heap.push (set0 w) }):codeAny (model P w) A (.call (.builtin "set.__new__") ⟨[.type "set",x],[]⟩) (wants Q E) s:=by
 refine codeAny_call_builtin_code (plainId_quiet PySem.F.plain_set_new _) (wpAny_of_eq (PySem.F.newCall_set_1 x) (codeAny_builtin PySem.F.entry_set_new ?_))
 rw [Around.under_plainId PySem.F.plain_set_new _]
 unfold Builtin.«set.__new__» Builtin.Frozenset.newClass
 have hsub:=sub_set_self
 obtain ⟨hp,g,d,tk,os⟩:=s
 wp_walk
 refine wpAny_askSetting (wpAny_pure ?_)
 simp only [newObj]
 exact wpAny_bind (wpAny_alloc (wpAny_pure (wpAny_pure h)))
variable {R:Result→Shared→Prop} {I:Addr} {fp wr:List Addr} {G:Array GenState→Array GenState→Prop} {n:Nat} {Pv:Nat→Value→Prop} {St:Nat→Shared→Prop}
theorem Zjb (W:WalksS P w A.in1 I fp wr G n Pv St) {S:Addr} (hS:S ∉ fp) {val:Nat→Int} (hv:∀ i v,Pv i v→∃ t,v=.int (val i) t) (hb:n + 1 < scanBound):∀ (k i:Nat) (s:Shared),n - i=k→i≤n→St i s→WSet P w s.heap S (firstMet val i) →
   (∀ s',Moved (S :: wr) G s s'→WSet P w s'.heap S (firstMet val n)→R (.ok (.ret .none)) s')→codeAny (model P w) A (.builtin "set.update.loop" ⟨[.ref S,.ref I],[]⟩) R s:=by
 have hw:S ∉ wr:=fun z=>hS (W.sub _ z)
 have mn:∀ b∈wr,b∈S :: wr:=fun b hb=>List.mem_cons_of_mem _ hb
 intro k
 induction k with
 | zero =>
  intro i s hk hi st ws fin
  obtain rfl:i=n:=by omega
  refine codeAny_builtin PyProof.Rows.F.entry_set_update_loop ?_
  rw [Around.under_plainId PyProof.Rows.F.plain_set_update_loop _]
  show wpAny _ A.in1 (pyNext (.ref I) >>= _) _ _ s
  exact wpAny_bind (W.done s _ _ st fun s' hm=>wpAny_pure (fin s' (hm.mono mn) (ws.kept fun o e=>hm.heap S o hw e)))
 | succ k ih =>
  intro i s hk hi st ws fin
  have lt:i < n:=by omega
  refine codeAny_builtin PyProof.Rows.F.entry_set_update_loop ?_
  rw [Around.under_plainId PyProof.Rows.F.plain_set_update_loop _]
  show wpAny _ A.in1 (pyNext (.ref I) >>= _) _ _ s
  refine wpAny_bind (W.item i s _ _ lt st fun v s1 hP st1 hm=>?_)
  obtain ⟨t,rfl⟩:=hv i v hP
  have ws1:WSet P w s1.heap S (firstMet val i):=ws.kept fun o e=>hm.heap S o hw e
  show wpAny _ A.in1 (holding [Value.int (val i) t] (setAdd S (.int (val i) t)) >>= _) _ _ s1
  have hl:=firstMet_length_le val i
  unfold setAdd
  refine wpAny_bind (wpAny_holding (wpAny_holding (wpAny_bind ((intKind P w).pyHash (k:=val i) (intKind_is _ _ _ _) (Zhi (s:={ s1 with toks:=s1.toks + 1 }) ws1 (by omega) fun h' sb ws2=>?_)))))
  rw [← firstMet_succ] at ws2
  have ot:∀ b o,b≠S→s1.heap.get? b=some o→h'.get? b=some o:=fun b o hb e=>by rw [sb.2 b hb]; exact e
  refine wpAny_pure ⟨plainId_quiet PyProof.Rows.F.plain_set_update_loop _,ih (i + 1) _ (by omega) lt (W.frame _ s1 _ _ st1 (Nat.le_succ _) fun b hb o e=>ot b o (fun z=>hS (z ▸ hb)) e) ws2 fun s3 hm3 ws3=>?_⟩
  exact fin s3 (Moved.trans W.gtrans ((hm.mono mn).then_heap (Nat.le_succ _) fun b o hb e=>ot b o (fun z=>hb (z ▸ List.mem_cons_self)) e) hm3) ws3
set_option maxHeartbeats 8000000 in
theorem Zco {l:Addr} {its:Array Value} {ns:List Int} {Q:Value→Shared→Prop} (hh:A.handled=none) (hl:s.heap.IsList l its) (hi:IntsAre its.toList ns) (hb:its.size + 1 < scanBound)
  (h:∀ (h':Heap) (tk:Nat),WSet P w h' s.heap.objs.size (firstMet (fun i=>ns.getD i 0) its.size)→(∀ b o,s.heap.get? b=some o→h'.get? b=some o)→Q (.ref s.heap.objs.size) { s with heap:=h',toks:=tk }) :
  wpAny (model P w) A (call (.type "set") [.ref l]) Q E s:=by
 obtain ⟨c,tl,hmro⟩:=PySem.F.called_set.mro
 have hmade:=PySem.F.called_set.made
 have hsub:=PySem.F.called_set.sub
 have h1:=PySem.F.called_set.notType
 have h2:=PySem.F.called_set.canCreate
 have hct:=PySem.F.typeCall_set_1 (.ref l)
 refine wpAny_call (codeAny_of_tree (wpAny_pure ⟨Code.quiet_builtin _ (by decide +kernel),codeAny_builtin PySem.F.entry_type_call ?_⟩))
 rw [Around.under_plain (weight_type_call_type "set" [.ref l] []) rfl]
 repeat (any_goals (first | assumption | wp_step))
 refine codeAny_mono (Zk4 (E:=E) (x:=.ref l) (Q:=fun v s₁=>v=.ref s.heap.objs.size∧s₁={ s with heap:=s.heap.push (set0 w) }) ⟨rfl,rfl⟩) fun r s₁ hr=>?_
 cases r with
 | error e=>exact hr
 | ok fl =>
  cases fl with
  | ret v =>
   obtain ⟨rfl,rfl⟩:=hr
   have e0:(s.heap.push (set0 w)).get? s.heap.objs.size=some (set0 w):=Heap.get?_push_size _ rfl
   have hT:Shared.TypeIs { s with heap:=s.heap.push (set0 w) } (.ref s.heap.objs.size) "set":=⟨_,e0,rfl⟩
   have hli:=PySem.F.called_set.init.lookup
   have hbi:=PySem.F.called_set.init.bind (.ref s.heap.objs.size)
   repeat (any_goals (first | assumption | wp_step))
   refine codeAny_mono (codeAny_call_builtin (R:=wants (fun r s₂=>r=.none∧∃ h' tk,s₂={ s with heap:=h',toks:=tk }∧WSet P w h' s.heap.objs.size (firstMet (fun i=>ns.getD i 0) its.size)∧∀ b o,s.heap.get? b=some o→h'.get? b=some o) E)
    PySem.F.called_set.init.plain PySem.F.entry_set_init (check_set_init_1 hT ?_)) fun r₂ s₂ hr₂=>?_
   ·obtain ⟨ol,hol,hcl,nl,hdl⟩:=id hl
    have ll:l < s.heap.objs.size:=Heap.lt_size hol
    obtain ⟨ocls,odict,odata,oslots⟩:=ol
    simp only at hcl hdl
    subst hcl; subst hdl
    have hol':(s.heap.push (set0 w)).get? l=some { cls:=.type "list",dict:=odict,data:=.seq its nl,slots:=oslots }:=Heap.get?_push_of_some _ hol
    have k1:=PySem.F.sub_list_set
    have k2:=PySem.F.sub_list_frozenset
    have k3:(Value.type "list" == Value.type "dict")=false:=by decide
    have hl1:(s.heap.push (set0 w)).IsList l its:=⟨_,hol',rfl,nl,rfl⟩
    unfold Builtin.«set.__init__» noKeywords Builtin.Frozenset.updateFrom
    generalize hPI:pyIter=PI
    unfold set0 at e0 hol' hl1 hT ⊢
    wp_walk
    subst hPI
    refine wpAny_pyIter_list hl1 (wpAny_bind (wpAny_runValue ?_))
    have hs:(s.heap.push (set0 w)).objs.size=s.heap.objs.size + 1:=Heap.size_push ..
    unfold set0 at hs
    refine Zjb ((Walks.list (show A.in1.in1.in1.handled=none by simp [hh]) _ l (by rw [hs]; exact Nat.ne_of_lt (Nat.lt_succ_of_lt ll)) its).toS) (S:=s.heap.objs.size) (by rw [hs]; simp only [List.mem_cons,List.not_mem_nil,or_false,not_or]; exact ⟨Nat.ne_of_lt (Nat.lt_succ_self _),Nat.ne_of_gt ll⟩) (val:=fun i=>ns.getD i 0)
     (fun i v hv=>PyProof.Rows.IntsAre.int_at hi i v (by rw [Array.getElem?_toList]; exact hv)) hb (its.size - 0) 0 _ (by omega) (Nat.zero_le _)
     ⟨⟨_,Heap.get?_push_size _ rfl,rfl,rfl⟩,(hl1.push _)⟩ (Zlw (Heap.get?_push_of_some _ e0)) fun s' hm ws=>?_
    obtain ⟨h',g',d',tk',os'⟩:=s'
    obtain rfl:g'=s.gens:=hm.gens
    obtain rfl:d'=s.drawn:=hm.drawn
    obtain rfl:os'=s.os:=hm.os
    refine wpAny_pure (wpAny_pure ⟨rfl,h',tk',rfl,ws,fun b o e=>?_⟩)
    have hb:=Heap.lt_size e
    refine hm.heap b o ?_ (Heap.get?_push_of_some _ (Heap.get?_push_of_some _ e))
    rw [hs]
    simp only [List.mem_cons,List.not_mem_nil,or_false,not_or]
    exact ⟨Nat.ne_of_lt hb,Nat.ne_of_lt (Nat.lt_succ_of_lt hb)⟩
   ·cases r₂ with
    | error e=>exact hr₂
    | ok fl₂ =>
     cases fl₂ with
     | ret r =>
      obtain ⟨rfl,h',tk,rfl,ws,kp⟩:=hr₂
      repeat (any_goals (first | assumption | wp_step))
      exact h _ _ ws kp
     | _=>exact hr₂.elim
  | _=>exact hr.elim
end
end L2
set_option maxHeartbeats 4000000
namespace PySem.F
theorem sti_next:Slot "set_iterator" "__next__" "set_iterator.__next__" :=
 .of (owner:="set_iterator") (n:="__next__") (by rw [typeLookup_type,builtinLookup_eq_fast]; kernel_rfl) (by decide +kernel) (by decide +kernel) (by decide +kernel) (by first | exact .inl (by decide +kernel) | exact .inr (by decide +kernel)) (by rw [isSubtype_type]; kernel_rfl)
theorem sti_entry:entryFor table "set_iterator.__next__"=some Builtin.«set_iterator.__next__»:=entryFor_of_tree (by kernel_rfl)
theorem sti_args (a:Value):argsOk "set_iterator.__next__" ⟨[a],[]⟩:=by unfold argsOk; kernel_rfl
theorem st_iter_entry:entryFor table "set.__iter__"=some Builtin.«frozenset.__iter__»:=entryFor_alias (id':="frozenset.__iter__") (by kernel_rfl) rfl (by decide +kernel) (by kernel_rfl)
theorem sti_iter:Slot "set_iterator" "__iter__" "set_iterator.__iter__" :=
 .of (owner:="set_iterator") (n:="__iter__") (by rw [typeLookup_type,builtinLookup_eq_fast]; kernel_rfl) (by decide +kernel) (by decide +kernel) (by decide +kernel) (by first | exact .inl (by decide +kernel) | exact .inr (by decide +kernel)) (by rw [isSubtype_type]; kernel_rfl)
theorem sti_iter_entry:entryFor table "set_iterator.__iter__"=some Builtin.«dict_keyiterator.__iter__»:=entryFor_alias (id':="dict_keyiterator.__iter__") (by kernel_rfl) rfl (by decide +kernel) (by kernel_rfl)
theorem sti_iter_args (a:Value):argsOk "set_iterator.__iter__" ⟨[a],[]⟩:=by unfold argsOk; kernel_rfl
end PySem.F
namespace L2
open PySem PySem.Spec PyProof.Rows
theorem V5 {α:Type}:∀ {l:List α} {i:Nat} (hi:i < l.length),(l[i] :: l.eraseIdx i).Perm l
 | a :: l,0,_=>.refl _
 | a :: l,i + 1,hi=>(List.Perm.swap ..).trans ((V5 (l:=l) (Nat.lt_of_succ_lt_succ hi)).cons a)
theorem Zdj {α:Type} {next:Nat→Nat}:∀ (fuel k:Nat) (left:List α) (out:Array α),left.length≤fuel→∃ r,(pickOrder.go next fuel k left out).toList=out.toList ++ r∧r.Perm left
 | 0,k,left,out,h=>by
  have:left=[]:=List.eq_nil_of_length_eq_zero (by omega)
  subst this
  exact ⟨[],by unfold pickOrder.go; simp,.nil⟩
 | fuel + 1,k,left,out,h=>by
  unfold pickOrder.go
  cases left with
  | nil=>exact ⟨[],by simp,.nil⟩
  | cons a l =>
   have hi:next k % (a :: l).length < (a :: l).length:=Nat.mod_lt _ (by simp)
   generalize next k % (a :: l).length=i at hi
   rw [List.getElem?_eq_getElem hi]
   dsimp only
   obtain ⟨r,h1,h2⟩:=Zdj (next:=next) fuel (k + 1) ((a :: l).eraseIdx i) (out.push (a :: l)[i]) (by rw [List.length_eraseIdx_of_lt hi]; omega)
   refine ⟨(a :: l)[i] :: r,by rw [h1,Array.toList_push,List.append_assoc]; rfl,?_⟩
   exact (h2.cons _).trans (V5 hi)
theorem Fe {α:Type} (next:Nat→Nat) (xs:Array α):(pickOrder next xs).toList.Perm xs.toList:=by
 obtain ⟨r,h1,h2⟩:=Zdj (next:=next) xs.size 0 xs.toList #[] (by simp)
 have:(pickOrder next xs).toList=r:=h1
 rw [this]
 exact h2
section
variable {P:Program} {w:World} {A:Around} {E:Value→Shared→Prop} {s:Shared}
theorem Zfb {src:Source} {n:Nat} {Q:Nat→Shared→Prop} (hn:n≠0) (h:∀ i,i < n→Q i { s with drawn:=s.drawn.bump src }):wpAny (model P w) A (choose src n) Q E s:=fun _ _ _=>⟨hn,h _ (Nat.mod_lt _ (Nat.pos_of_ne_zero hn))⟩
theorem Fy {α:Type}:∀ (n:Nat) (l:List α) (s:Shared) (Q:List α→Shared→Prop),l.length≤n→(∀ r d',r.Perm l→Q r { s with drawn:=d' })→wpAny (model P w) A (drawOrder n l) Q E s
 | 0,l,s,Q,hl,h=>by
  have:l=[]:=List.eq_nil_of_length_eq_zero (by omega)
  subst this
  exact wpAny_pure (h [] s.drawn .nil)
 | n + 1,[],s,Q,hl,h=>wpAny_pure (h [] s.drawn .nil)
 | n + 1,a :: l,s,Q,hl,h=>by
  unfold drawOrder
  refine wpAny_bind (Zfb (by simp) fun i hi=>?_)
  rw [List.getElem?_eq_getElem hi]
  refine wpAny_bind (Fy n _ _ _ (by rw [List.length_eraseIdx_of_lt hi]; omega) fun r d' pr=>wpAny_pure (h _ d' ?_))
  exact (pr.cons _).trans (V5 hi)
noncomputable def Xk (fst:Value) (i:Nat) (a:Addr) (n ep:Nat):Obj:={ cls:=.type "set_iterator",data:=.fields #[fst,.int i 0,.ref a,.int n 0,.int ep 0] }
theorem Zej {h:Heap} {I a:Addr} {f g:Value} {i j n ep:Nat} (ho:h.get? I=some (Xk f i a n ep)) :
  ((h.update I (Obj.mapFields (·.setIfInBounds 0 g))).update I (Obj.mapFields (·.setIfInBounds 1 (.int j 0)))).get? I=some (Xk g j a n ep):=by
 have h1:=Heap.get?_update_self (Obj.mapFields (·.setIfInBounds 0 g)) ho rfl
 exact Heap.get?_update_self (Obj.mapFields (·.setIfInBounds 1 (.int j 0))) h1 rfl
theorem Zek {h:Heap} {I a:Addr} {f:Value} {i j n ep:Nat} (ho:h.get? I=some (Xk f i a n ep)) :
  (h.update I (Obj.mapFields (·.setIfInBounds 1 (.int j 0)))).get? I=some (Xk f j a n ep):=Heap.get?_update_self (Obj.mapFields (·.setIfInBounds 1 (.int j 0))) ho rfl
theorem Zhp {I a:Addr} {o:Obj} {es:Array (Int × Value)} {ep:Nat} {t:SetTable} {i sl sl':Nat} {x:Value} {Q:Option Value→Shared→Prop} (hI:s.heap.get? I=some (Xk (.int sl 0) i a es.size ep)) (ho:s.heap.get? a=some o) (hd:o.data=.set es ep t) (hf:t.fits es.size=true)
  (nx:∀ (B:Around) (F:Value→Shared→Prop) (R:Option (Value × Nat)→Shared→Prop),R (some (x,sl')) s→wpAny (model P w) B (setNext a sl i ep) R F s)
  (h:∀ h',h'.get? I=some (Xk (.int sl' 0) (i + 1) a es.size ep)→Heap.SameBut I s.heap h'→Q (some x) { s with heap:=h' }):wpAny (model P w) A (pyNext (.ref I)) Q E s:=by
 have hT:s.TypeIs (.ref I) "set_iterator":=⟨_,hI,rfl⟩
 unfold pyNext
 refine wpAny_bind (wpAny_attempt (wpAny_callSpecial?_slot (name:=Str.ofString "__next__") hT PySem.F.sti_next (wpAny_call_entry PySem.F.sti_next hT PySem.F.sti_entry ?_ (PySem.F.sti_args _))))
 unfold Builtin.«set_iterator.__next__»
 refine wpAny_bind (m:=slotArgs "__next__" 0 _) (wpAny_pure ?_)
 refine wpAny_bind (wpAny_fieldsOf hI rfl ?_)
 dsimp only
 refine wpAny_bind (wpAny_setEntries_of ho hd hf ?_)
 rw [if_neg (by simp)]
 refine wpAny_bind (nx _ _ _ ?_)
 refine wpAny_bind (wpAny_setField (x:=rawInt sl') hI rfl (by simp) ?_)
 have h1:=Heap.get?_update_self (Obj.mapFields (·.setIfInBounds 0 (rawInt sl'))) hI rfl
 refine wpAny_bind (wpAny_setField (x:=rawInt ((i:Int) + 1)) h1 rfl (by simp) ?_)
 exact wpAny_pure ⟨_,rfl,wpAny_pure (h _ (Zej hI) ((Heap.SameBut.update ..).trans (Heap.SameBut.update ..)))⟩
theorem Zaj {I:Addr} {ob:Obj} {vs:Array Value} {Q:Fin→Shared→Prop} (hh:A.handled=none) (hI:s.heap.get? I=some ob) (hd:ob.data=.fields vs) (hz:2 < vs.size) (h:∀ h' e,Heap.ExtBut I s.heap h'→(∃ o,h'.get? e=some o∧o.cls=.type "StopIteration")→E (.ref e) { s with heap:=h' }) :
  wpAny (model P w) A (do setField (.ref I) 2 .none; raiseNew (← newExc (.type "StopIteration") []):Sem Fin) Q E s:=by
 refine wpAny_bind (wpAny_setField hI hd hz ?_)
 simp only [newExc,newTuple]
 refine wpAny_bind (wpAny_bind (wpAny_newObj_type ?_ (by size_fits)))
 refine wpAny_bind (m:=firstArgMember _ _) (wpAny_of_eq (a:=Value.none) (by first | rfl | (simp only [firstArgMember]; rfl)) ?_)
 refine wpAny_newObj_type ?_ (by size_fits)
 refine wpAny_raiseNew_none hh (h _ _ (((Heap.SameBut.update ..).extBut.push _).push _) ⟨_,Heap.get?_push_size _ rfl,rfl⟩)
theorem Zhq {I a:Addr} {o:Obj} {es:Array (Int × Value)} {ep:Nat} {t:SetTable} {i sl:Nat} {Q:Option Value→Shared→Prop} (hh:A.handled=none) (hI:s.heap.get? I=some (Xk (.int sl 0) i a es.size ep)) (ho:s.heap.get? a=some o) (hd:o.data=.set es ep t) (hf:t.fits es.size=true)
  (nx:∀ (B:Around) (F:Value→Shared→Prop) (R:Option (Value × Nat)→Shared→Prop),R none s→wpAny (model P w) B (setNext a sl i ep) R F s)
  (h:∀ h',Heap.ExtBut I s.heap h'→Q none { s with heap:=h' }):wpAny (model P w) A (pyNext (.ref I)) Q E s:=by
 have hT:s.TypeIs (.ref I) "set_iterator":=⟨_,hI,rfl⟩
 unfold pyNext
 refine wpAny_bind (wpAny_attempt (wpAny_callSpecial?_slot (name:=Str.ofString "__next__") hT PySem.F.sti_next (wpAny_call_entry PySem.F.sti_next hT PySem.F.sti_entry ?_ (PySem.F.sti_args _))))
 unfold Builtin.«set_iterator.__next__»
 refine wpAny_bind (m:=slotArgs "__next__" 0 _) (wpAny_pure ?_)
 refine wpAny_bind (wpAny_fieldsOf hI rfl ?_)
 dsimp only
 refine wpAny_bind (wpAny_setEntries_of ho hd hf ?_)
 rw [if_neg (by simp)]
 refine wpAny_bind (nx _ _ _ ?_)
 dsimp only
 refine Zaj (A:=A.in1) hh hI rfl (by simp) fun h' e ex zz9=>?_
 obtain ⟨ob,he,hc⟩:=zz9
 refine wpAny_bind (wpAny_isInstance (T:="StopIteration") (b:=true) ⟨ob,he,hc⟩ isSubtype_stop ?_)
 exact wpAny_pure (h _ ex)
theorem Zhr {I a T:Addr} {o:Obj} {es:Array (Int × Value)} {ep:Nat} {t:SetTable} {i p:Nat} {ob:Obj} {ps:Array Value} {c:Nat} {tk:Tok} {e:Int × Value} {Q:Option Value→Shared→Prop} (hI:s.heap.get? I=some (Xk (.ref T) i a es.size ep)) (ho:s.heap.get? a=some o) (hd:o.data=.set es ep t) (hf:t.fits es.size=true)
  (hT:s.heap.get? T=some ob) (hob:ob.data=.seq ps c) (hp:ps[i]?=some (.int p tk)) (he:es[p]?=some e)
  (h:∀ h',h'.get? I=some (Xk (.ref T) (i + 1) a es.size ep)→Heap.SameBut I s.heap h'→Q (some e.2) { s with heap:=h' }):wpAny (model P w) A (pyNext (.ref I)) Q E s:=by
 have hTy:s.TypeIs (.ref I) "set_iterator":=⟨_,hI,rfl⟩
 unfold pyNext
 refine wpAny_bind (wpAny_attempt (wpAny_callSpecial?_slot (name:=Str.ofString "__next__") hTy PySem.F.sti_next (wpAny_call_entry PySem.F.sti_next hTy PySem.F.sti_entry ?_ (PySem.F.sti_args _))))
 unfold Builtin.«set_iterator.__next__»
 refine wpAny_bind (m:=slotArgs "__next__" 0 _) (wpAny_pure ?_)
 refine wpAny_bind (wpAny_fieldsOf hI rfl ?_)
 dsimp only
 refine wpAny_bind (wpAny_setEntries_of ho hd hf ?_)
 rw [if_neg (by simp)]
 refine wpAny_bind (wpAny_seqItems hT hob ?_)
 dsimp only
 rw [show ((i:Int)).toNat=i from Int.toNat_natCast i,hp]
 dsimp only
 refine wpAny_bind ?_
 unfold setNextDrawn
 refine wpAny_bind (wpAny_setState_of ho hd hf ?_)
 dsimp only
 rw [if_neg (by simp),show ((p:Int)).toNat=p from Int.toNat_natCast p,he]
 refine wpAny_pure ?_
 refine wpAny_bind (wpAny_setField (x:=rawInt ((i:Int) + 1)) hI rfl (by simp) ?_)
 exact wpAny_pure ⟨_,rfl,wpAny_pure (h _ (Zek hI) (Heap.SameBut.update ..))⟩
theorem Zhs {I a T:Addr} {o:Obj} {es:Array (Int × Value)} {ep:Nat} {t:SetTable} {i:Nat} {ob:Obj} {ps:Array Value} {c:Nat} {Q:Option Value→Shared→Prop} (hh:A.handled=none) (hI:s.heap.get? I=some (Xk (.ref T) i a es.size ep)) (ho:s.heap.get? a=some o) (hd:o.data=.set es ep t) (hf:t.fits es.size=true)
  (hT:s.heap.get? T=some ob) (hob:ob.data=.seq ps c) (hp:ps[i]?=none)
  (h:∀ h',Heap.ExtBut I s.heap h'→Q none { s with heap:=h' }):wpAny (model P w) A (pyNext (.ref I)) Q E s:=by
 have hTy:s.TypeIs (.ref I) "set_iterator":=⟨_,hI,rfl⟩
 unfold pyNext
 refine wpAny_bind (wpAny_attempt (wpAny_callSpecial?_slot (name:=Str.ofString "__next__") hTy PySem.F.sti_next (wpAny_call_entry PySem.F.sti_next hTy PySem.F.sti_entry ?_ (PySem.F.sti_args _))))
 unfold Builtin.«set_iterator.__next__»
 refine wpAny_bind (m:=slotArgs "__next__" 0 _) (wpAny_pure ?_)
 refine wpAny_bind (wpAny_fieldsOf hI rfl ?_)
 dsimp only
 refine wpAny_bind (wpAny_setEntries_of ho hd hf ?_)
 rw [if_neg (by simp)]
 refine wpAny_bind (wpAny_seqItems hT hob ?_)
 dsimp only
 rw [show ((i:Int)).toNat=i from Int.toNat_natCast i,hp]
 dsimp only
 refine wpAny_bind (wpAny_setField (x:=rawInt 0) hI rfl (by simp) ?_)
 have h1:=Heap.get?_update_self (Obj.mapFields (·.setIfInBounds 0 (rawInt 0))) hI rfl
 refine Zaj (s:={ s with heap:=s.heap.update I (Obj.mapFields (·.setIfInBounds 0 (rawInt 0))) }) (A:=A.in1) hh h1 rfl (by simp) fun h' e ex zz9=>?_
 obtain ⟨ob,he,hc⟩:=zz9
 refine wpAny_bind (wpAny_isInstance (T:="StopIteration") (b:=true) ⟨ob,he,hc⟩ isSubtype_stop ?_)
 exact wpAny_pure (h _ fun b u hb hu=>ex b u hb ((Heap.get?_update_other _ _ (Ne.symm hb)).trans hu))
theorem Zak {I a:Addr} {f:Value} {i n ep:Nat} {Q:Value→Shared→Prop} (hI:s.heap.get? I=some (Xk f i a n ep)) (h:Q (.ref I) s):wpAny (model P w) A (pyIter (.ref I)) Q E s:=by
 have hT:s.TypeIs (.ref I) "set_iterator":=⟨_,hI,rfl⟩
 refine wpAny_pyIter_slot hT PySem.F.sti_iter (wpAny_call_entry PySem.F.sti_iter hT PySem.F.sti_iter_entry ?_ (PySem.F.sti_iter_args _))
 exact wpAny_pure ⟨_,rfl,"set_iterator",_,hT,PySem.F.sti_next.lookup,h⟩
theorem Zgl {a:Addr} {o:Obj} {es:Array (Int × Value)} {ep:Nat} {t:SetTable} {i sl:Nat} {R:Option (Value × Nat)→Shared→Prop} (ho:s.heap.get? a=some o) (hd:o.data=.set es ep t) (hf:t.fits es.size=true) (hb:w.params.followText "set-order"=true)
  (h:R (((pickOrder (w.params.setOrder a ep) es)[i]?).map fun e=>(e.2,sl)) s):wpAny (model P w) A (setNext a sl i ep) R E s:=by
 unfold setNext setsByText
 refine wpAny_bind (wpAny_setState_of ho hd hf ?_)
 dsimp only
 refine wpAny_bind (wpAny_bind (wpAny_askSetting (wpAny_pure ?_)))
 show wpAny _ _ (if w.params.followText "set-order"=true then _ else _) _ _ _
 rw [if_pos hb,if_neg (by simp)]
 unfold setWalk setsByText
 refine wpAny_bind (wpAny_bind (wpAny_setState_of ho hd hf ?_))
 dsimp only
 refine wpAny_bind (wpAny_bind (wpAny_askSetting (wpAny_pure ?_)))
 show wpAny _ _ (if w.params.followText "set-order"=true then _ else _) _ _ _
 rw [if_pos hb]
 exact wpAny_bind (wpAny_askSetting (wpAny_pure (wpAny_pure h)))
theorem Zet {a:Addr} {o:Obj} {es:Array (Int × Value)} {ep:Nat} {t:SetTable} {i sl:Nat} {R:Option (Value × Nat)→Shared→Prop} (ho:s.heap.get? a=some o) (hd:o.data=.set es ep t) (hf:t.fits es.size=true) (hb:w.params.followText "set-order"=false) (hl:t.led=true) (hp:(!t.plain && decide (es.size > 1))=false)
  (h:R (match es[SetTable.below t.place sl]?,t.place[SetTable.below t.place sl]? with | some (_,x),some j=>some (x,j + 1) | _,_=>none) s):wpAny (model P w) A (setNext a sl i ep) R E s:=by
 unfold setNext setsByText
 refine wpAny_bind (wpAny_setState_of ho hd hf ?_)
 dsimp only
 refine wpAny_bind (wpAny_bind (wpAny_askSetting (wpAny_pure ?_)))
 show wpAny _ _ (if w.params.followText "set-order"=true then _ else _) _ _ _
 rw [if_neg (by rw [hb]; decide)]
 show wpAny _ _ (if (!t.plain && decide (es.size > 1))=true then _ else _) _ _ _
 rw [if_neg (by rw [hp]; decide)]
 refine wpAny_bind ?_
 show wpAny _ _ (if (!t.led && !es.isEmpty)=true then _ else _) _ _ _
 rw [if_neg (by rw [hl]; simp)]
 exact wpAny_pure (wpAny_pure h)
end
end L2
set_option maxHeartbeats 4000000
namespace L2
open PySem PySem.Spec PyProof.Rows
theorem Vo:∀ {vs:List Value} {ks:List Int},IntsAre vs ks→∀ (i:Nat) (v:Value),vs[i]?=some v→∃ t,v=.int (ks.getD i 0) t:=fun h i v e=>PyProof.Rows.IntsAre.int_at h i v e
section
variable {P:Program} {w:World} {A:Around} {E:Value→Shared→Prop} {s:Shared}
theorem Gx (hh:A.handled=none) {I a:Addr} (hne:a≠I) {o:Obj} {es:Array (Int × Value)} {ep:Nat} {t:SetTable} {out:List Int} {sl:Nat→Nat} {xs:List Value} (hd:o.data=.set es ep t) (hf:t.fits es.size=true) (hx:IntsAre xs out) (hl:xs.length=es.size)
  (nx:∀ (i:Nat) (s:Shared) (B:Around) (F:Value→Shared→Prop) (R:Option (Value × Nat)→Shared→Prop),s.heap.get? a=some o→i≤es.size→R ((xs[i]?).map fun x=>(x,sl (i + 1))) s→wpAny (model P w) B (setNext a (sl i) i ep) R F s) :
  Walks P w A I [I,a] [I] out.length (fun i v=>∃ t,v=.int (out.getD i 0) t) (fun i h=>h.get? I=some (Xk (.int (sl i) 0) i a es.size ep)∧h.get? a=some o):=by
 have hlo:out.length=es.size:=by rw [← hl]; exact hx.length.symm
 refine ⟨fun b hb=>by simp at hb; simp [hb],fun i h h' st k=>⟨k I (by simp) _ st.1,k a (by simp) _ st.2⟩,fun i s Q E hi st hQ=>?_,fun s Q E st hQ=>?_,fun i s Q E st hQ=>Zak st.1 hQ⟩
 ·have hi':i < xs.length:=by omega
  have ex:=List.getElem?_eq_getElem hi'
  refine Zhp (x:=xs[i]) (sl':=sl (i + 1)) st.1 st.2 hd hf (fun B F R r=>nx i s B F R st.2 (by omega) (by rw [ex]; exact r)) fun h' e sb=>?_
  exact hQ _ h' s.toks (Vo hx i _ ex) ⟨e,(sb.2 a hne).trans st.2⟩ fun b u hb hu=>(sb.2 b (fun z=>hb (by simp [z]))).trans hu
 ·rw [hlo] at st
  refine Zhq hh st.1 st.2 hd hf (fun B F R r=>nx es.size s B F R st.2 (Nat.le_refl _) (by rw [List.getElem?_eq_none (by omega)]; exact r)) fun h' ex=>?_
  exact hQ h' s.toks fun b u hb hu=>ex b u (fun z=>hb (by simp [z])) hu
theorem Zcj (hh:A.handled=none) {I a T:Addr} (hne:a≠I) (hTI:T≠I) {o ob:Obj} {es:Array (Int × Value)} {ep c:Nat} {t:SetTable} {out:List Int} {xs:List Value} {ps:List Nat} (hd:o.data=.set es ep t) (hf:t.fits es.size=true) (hx:IntsAre xs out) (hob:ob.data=.seq (ps.map fun (p:Nat)=>rawInt p).toArray c)
  (hp:∀ (i p:Nat),ps[i]?=some p→∃ e,es[p]?=some e∧xs[i]?=some e.2) (hl:xs.length=ps.length) :
  Walks P w A I [I,a,T] [I] out.length (fun i v=>∃ t,v=.int (out.getD i 0) t) (fun i h=>h.get? I=some (Xk (.ref T) i a es.size ep)∧h.get? a=some o∧h.get? T=some ob):=by
 have hlo:out.length=ps.length:=by rw [← hl]; exact hx.length.symm
 refine ⟨fun b hb=>by simp at hb; simp [hb],fun i h h' st k=>⟨k I (by simp) _ st.1,k a (by simp) _ st.2.1,k T (by simp) _ st.2.2⟩,fun i s Q E hi st hQ=>?_,fun s Q E st hQ=>?_,fun i s Q E st hQ=>Zak st.1 hQ⟩
 ·have ep':=List.getElem?_eq_getElem (show i < ps.length by omega)
  obtain ⟨e,he,hxi⟩:=hp i _ ep'
  refine Zhr (p:=ps[i]) (tk:=0) (e:=e) st.1 st.2.1 hd hf st.2.2 hob (by rw [List.getElem?_toArray,List.getElem?_map,ep']; rfl) he fun h' eI sb=>?_
  exact hQ _ h' s.toks (Vo hx i _ hxi) ⟨eI,(sb.2 a hne).trans st.2.1,(sb.2 T hTI).trans st.2.2⟩ fun b u hb hu=>(sb.2 b (fun z=>hb (by simp [z]))).trans hu
 ·refine Zhs hh st.1 st.2.1 hd hf st.2.2 hob (by rw [List.getElem?_toArray,List.getElem?_map,List.getElem?_eq_none (by omega)]; rfl) fun h' ex=>?_
  exact hQ h' s.toks fun b u hb hu=>ex b u (fun z=>hb (by simp [z])) hu
theorem Ziz (hh:A.handled=none) {a:Addr} {ks:List Int} {Q:Value→Shared→Prop} (hS:WSet P w s.heap a ks)
  (h:∀ (I:Addr) (h1:Heap) (d1:Drawn) (fp:List Addr) (out:List Int) (St:Nat→Heap→Prop),out.Perm ks→(∀ b o,s.heap.get? b=some o→h1.get? b=some o)→s.heap.objs.size≤I→(∀ b∈fp,b=a∨s.heap.objs.size≤b) →
   Walks P w A I fp [I] out.length (fun i v=>∃ t,v=.int (out.getD i 0) t) St→St 0 h1→Q (.ref I) { s with heap:=h1,drawn:=d1 }) :
  wpAny (model P w) A (pyIter (.ref a)) Q E s:=by
 obtain ⟨o,es,ep,t,ns,ho,ex,hd,el,hI,pm,lt,ft,rs,ld⟩:=hS
 have hT:s.TypeIs (.ref a) "set":=⟨o,ho,ex.1⟩
 have la:a < s.heap.objs.size:=Heap.lt_size ho
 have hne:a≠s.heap.objs.size:=Nat.ne_of_lt la
 have hsz:es.toList.map (·.2)=(es.map (·.2)).toList:=by simp
 have hps:t.place.size=es.size:=by
  simp only [SetTable.fits,Bool.and_eq_true,beq_iff_eq] at ft
  exact ft.1
 refine wpAny_pyIter_slot hT PySem.F.slot_set_iter (wpAny_call_entry PySem.F.slot_set_iter hT PySem.F.st_iter_entry ?_ (PySem.F.args_set_iter_1 _))
 unfold Builtin.«frozenset.__iter__» Builtin.Frozenset.slot0 Builtin.Frozenset.sizeOf
 refine wpAny_bind (wpAny_bind (m:=slotArgs "__iter__" 0 _) (wpAny_pure (wpAny_pure ?_)))
 refine wpAny_bind (wpAny_bind (wpAny_setEntries_of ho hd ft (wpAny_pure ?_)))
 unfold setDrawn setsByText
 refine wpAny_bind (wpAny_bind (wpAny_setState_of ho hd ft ?_))
 dsimp only
 refine wpAny_bind (wpAny_bind (wpAny_askSetting (wpAny_pure (wpAny_pure ?_))))
 have plainNew:(!w.params.followText "set-order" && (!t.plain && decide (es.size > 1)))=false→wpAny (model P w) A.in1 (do
   let first ← pure (rawInt 0)
   ret (← newFields "set_iterator" [first,rawInt 0,.ref a,rawInt es.size,rawInt (← setEpoch a)])) (fun fin s'=>∃ r,fin=.done (.ret r)∧∃ T' r',s'.TypeIs r T'∧typeLookup (.type T') "__next__"=pure (some r')∧Q r s') E s:=by
  intro nd
  refine wpAny_bind (wpAny_pure (wpAny_bind (wpAny_setEpoch_of ho hd ft ?_)))
  unfold newFields
  refine wpAny_bind (wpAny_newObj_type (wpAny_pure ⟨_,rfl,"set_iterator",_,⟨_,Heap.get?_push_size _ rfl,rfl⟩,PySem.F.sti_next.lookup,?_⟩))
  have e0:(s.heap.push { cls:=.type "set_iterator",data:=.fields [rawInt 0,rawInt 0,.ref a,rawInt es.size,rawInt ep].toArray }).get? s.heap.objs.size=some (Xk (.int 0 0) 0 a es.size ep):=Heap.get?_push_size _ rfl
  cases c:w.params.followText "set-order" with
  | true =>
   obtain ⟨k2,j1,j2⟩:=Q9 ((Fe (w.params.setOrder a ep) es).map (·.2)) hI
   refine h _ _ s.drawn [s.heap.objs.size,a] k2 _ (j2.trans pm) (fun b u hu=>Heap.get?_push_of_some _ hu) (Nat.le_refl _) (fun b hb=>?_) (Gx (sl:=fun _=>0) hh hne hd ft j1 ?_ fun i s B F R hs hi r=>Zgl hs hd ft c ?_) ⟨e0,Heap.get?_push_of_some _ ho⟩
   ·rcases List.mem_cons.mp hb with rfl | hb
    ·exact .inr (Nat.le_refl _)
    ·exact .inl (List.mem_singleton.mp hb)
   ·rw [List.length_map,(Fe (w.params.setOrder a ep) es).length_eq,Array.length_toList]
   ·rw [List.getElem?_map,Array.getElem?_toList,Option.map_map] at r
    exact r
  | false =>
   rw [c] at nd ld
   have nd:(!t.plain && decide (es.size > 1))=false:=nd
   have ld:t.led=true:=ld.resolve_left (by decide)
   refine h _ _ s.drawn [s.heap.objs.size,a] ns _ pm (fun b u hu=>Heap.get?_push_of_some _ hu) (Nat.le_refl _) (fun b hb=>?_) (Gx (sl:=fun i=>if i=0 then 0 else (t.place.getD (i - 1) 0) + 1) hh hne hd ft hI (by rw [List.length_map,Array.length_toList]) fun i s B F R hs hi r=>Zet hs hd ft c ld nd ?_) ⟨e0,Heap.get?_push_of_some _ ho⟩
   ·rcases List.mem_cons.mp hb with rfl | hb
    ·exact .inr (Nat.le_refl _)
    ·exact .inl (List.mem_singleton.mp hb)
   ·-- the place below is i
    have hb:SetTable.below t.place (if i=0 then 0 else (t.place.getD (i - 1) 0) + 1)=i∨(es.size≤SetTable.below t.place (if i=0 then 0 else (t.place.getD (i - 1) 0) + 1)∧i=es.size):=by
     generalize hj:(if i=0 then 0 else (t.place.getD (i - 1) 0) + 1)=j
     have ge:∀ k,k < i→∀ x,t.place[k]?=some x→x < j:=fun k hk x hx=>by
      rw [if_neg (by omega)] at hj
      have e1:=Array.getElem?_eq_getElem (show i - 1 < t.place.size by omega)
      have e2:t.place.getD (i - 1) 0=t.place[i - 1]'(by omega):=by rw [Array.getD_eq_getD_getElem?,e1]; rfl
      rw [e2] at hj
      by_cases z:k=i - 1
      ·subst z; rw [e1] at hx; cases hx; omega
      ·have:=Vi rs hx e1 (by omega); omega
     have lt':i≤SetTable.below t.place j:=by
      rcases Nat.lt_or_ge (SetTable.below t.place j) i with z | z
      ·have e1:=Array.getElem?_eq_getElem (show SetTable.below t.place j < t.place.size by omega)
       have h1:=ge _ z _ e1
       have h2:=O8 (j:=j) rs _ _ (Nat.le_refl _) e1
       omega
      ·exact z
     by_cases q:i < es.size
     ·left
      rcases Nat.lt_or_ge i (SetTable.below t.place j) with z | z
      ·have e1:=Array.getElem?_eq_getElem (show i < t.place.size by omega)
       have h1:=Zci (j:=j) rs i _ z e1
       by_cases i0:i=0
       ·rw [if_pos i0] at hj; omega
       ·rw [if_neg i0] at hj
        have e3:=Array.getElem?_eq_getElem (show i - 1 < t.place.size by omega)
        have e2:t.place.getD (i - 1) 0=t.place[i - 1]'(by omega):=by rw [Array.getD_eq_getD_getElem?,e3]; rfl
        rw [e2] at hj
        have:=Vi rs e3 e1 (by omega)
        omega
      ·omega
     ·exact .inr ⟨by omega,by omega⟩
    rcases hb with hb | ⟨hb,rfl⟩
    ·rw [hb]
     rcases Nat.lt_or_ge i es.size with z | z
     ·have e1:=Array.getElem?_eq_getElem (show i < t.place.size by omega)
      have e2:t.place.getD (i + 1 - 1) 0=t.place[i]'(by omega):=by rw [Array.getD_eq_getD_getElem?,Nat.add_sub_cancel,e1]; rfl
      rw [List.getElem?_map,Array.getElem?_toList,Array.getElem?_eq_getElem z,if_neg (by omega),e2] at r
      rw [Array.getElem?_eq_getElem z,e1]
      exact r
     ·rw [List.getElem?_map,Array.getElem?_toList,Array.getElem?_eq_none z] at r
      rw [Array.getElem?_eq_none z]
      exact r
    ·rw [List.getElem?_map,Array.getElem?_toList,Array.getElem?_eq_none (Nat.le_refl _)] at r
     rw [Array.getElem?_eq_none hb]
     exact r
 show wpAny _ _ (if (!w.params.followText "set-order" && (!t.plain && decide (es.size > 1)))=true then _ else _) _ _ _
 split
 ·-- drawn
  refine wpAny_bind (Fy _ _ _ _ (Nat.le_of_eq List.length_range) fun r d' pr=>?_)
  refine wpAny_bind (wpAny_newTuple ?_ (by rw [List.length_map,pr.length_eq,List.length_range]; exact fits_of_scanBound lt))
  refine wpAny_bind (wpAny_setEpoch_of (s:={ s with heap:=_,drawn:=d' }) (Heap.get?_push_of_some _ ho) hd ft ?_)
  unfold newFields
  refine wpAny_bind (wpAny_newObj_type (wpAny_pure ⟨_,rfl,"set_iterator",_,⟨_,Heap.get?_push_size _ rfl,rfl⟩,PySem.F.sti_next.lookup,?_⟩))
  have hs1:=Heap.size_push s.heap { cls:=.type "tuple",data:=.seq (r.map fun (i:Nat)=>rawInt i).toArray }
  obtain ⟨k2,j1,j2⟩:∃ k2,IntsAre (r.filterMap fun p=>(es[p]?).map (·.2)) k2∧k2.Perm ns:=by
   refine Q9 ?_ hI
   have e1:(List.range es.size).filterMap (fun p=>(es[p]?).map (·.2))=es.toList.map (·.2):=by
    have:=filterMap_getElem?_range (es.map (·.2))
    rw [Array.size_map] at this
    rw [Array.toList_map] at this
    rw [← this]
    congr 1
    funext p
    rw [Array.getElem?_map]
   rw [← e1]
   exact pr.filterMap _
  have hall:∀ p∈r,p < es.size:=fun p hp=>List.mem_range.mp (pr.mem_iff.mp hp)
  have hfm:∀ (l:List Nat),(∀ p∈l,p < es.size)→(l.filterMap fun p=>(es[p]?).map (·.2)).length=l.length∧∀ (i p:Nat),l[i]?=some p→∃ e,es[p]?=some e∧(l.filterMap fun p=>(es[p]?).map (·.2))[i]?=some e.2:=fun l=>by
   induction l with
   | nil=>intro _; exact ⟨rfl,fun i p e=>by simp at e⟩
   | cons q l ih =>
    intro hq
    have hq0:=Array.getElem?_eq_getElem (hq q List.mem_cons_self)
    obtain ⟨i1,i2⟩:=ih fun p hp=>hq p (List.mem_cons_of_mem _ hp)
    rw [List.filterMap_cons_some (b:=(es[q]'(hq q List.mem_cons_self)).2) (by rw [hq0]; rfl)]
    refine ⟨by rw [List.length_cons,List.length_cons,i1],fun i p e=>?_⟩
    cases i with
    | zero=>cases e; exact ⟨_,hq0,rfl⟩
    | succ i=>exact i2 i p e
  obtain ⟨f1,f2⟩:=hfm r hall
  refine h _ _ d' [_,a,s.heap.objs.size] k2 _ (j2.trans pm) (fun b u hu=>Heap.get?_push_of_some _ (Heap.get?_push_of_some _ hu)) (by rw [hs1]; exact Nat.le_succ _) (fun b hb=>?_) (Zcj (T:=s.heap.objs.size) hh ?_ ?_ hd ft j1 (ob:={ cls:=.type "tuple",data:=.seq (r.map fun (i:Nat)=>rawInt i).toArray }) rfl f2 f1) ⟨Heap.get?_push_size _ rfl,Heap.get?_push_of_some _ (Heap.get?_push_of_some _ ho),Heap.get?_push_of_some _ (Heap.get?_push_size _ rfl)⟩
  ·rcases List.mem_cons.mp hb with rfl | hb
   ·rw [hs1]; exact .inr (Nat.le_succ _)
   ·rcases List.mem_cons.mp hb with rfl | hb
    ·exact .inl rfl
    ·rw [List.mem_singleton.mp hb]; exact .inr (Nat.le_refl _)
  ·rw [hs1]; exact Nat.ne_of_lt (Nat.lt_succ_of_lt la)
  ·rw [hs1]; exact Nat.ne_of_lt (Nat.lt_succ_self _)
 ·rename_i c
  exact plainNew (by simpa using c)
end
end L2
set_option maxHeartbeats 4000000
namespace L2
open PySem PySem.Spec PyProof.Rows
noncomputable def dd (ks:List Int):List Int:=ks.foldl step_dedup []
theorem Oe:∀ (ks acc:List Int),acc.Nodup→(ks.foldl step_dedup acc).Nodup∧(∀ x,x∈ks.foldl step_dedup acc ↔ x∈acc∨x∈ks)∧(ks.foldl step_dedup acc).length≤acc.length + ks.length
 | [],acc,h=>⟨h,fun x=>by simp,by simp⟩
 | k :: ks,acc,h=>by
  have hs:(step_dedup acc k).Nodup∧(∀ x,x∈step_dedup acc k ↔ x∈acc∨x=k)∧(step_dedup acc k).length≤acc.length + 1:=by
   unfold step_dedup
   by_cases c:acc.any (· == k)=true
   ·rw [if_pos c]
    obtain ⟨y,hy,e⟩:=List.any_eq_true.mp c
    have e:=beq_iff_eq.mp e
    subst e
    exact ⟨h,fun x=>⟨.inl,fun z=>z.elim id fun e=>e ▸ hy⟩,by omega⟩
   ·rw [if_neg c]
    have hk:k ∉ acc:=fun z=>c (List.any_eq_true.mpr ⟨k,z,beq_self_eq_true _⟩)
    refine ⟨?_,fun x=>by simp,by simp⟩
    rw [List.nodup_append]
    refine ⟨h,by simp,fun a ha b hb e=>?_⟩
    rw [List.mem_singleton] at hb
    subst hb e
    exact hk ha
  obtain ⟨i1,i2,i3⟩:=Oe ks _ hs.1
  rw [List.foldl_cons]
  refine ⟨i1,fun x=>?_,?_⟩
  ·rw [i2,hs.2.1,List.mem_cons,or_assoc]
  ·have:=hs.2.2
   rw [List.length_cons]
   omega
theorem Zjd (ks:List Int):(dd ks).Nodup:=(Oe ks [] List.nodup_nil).1
theorem Zna {ks:List Int} {x:Int}:x∈dd ks ↔ x∈ks:=by
 have:=(Oe ks [] List.nodup_nil).2.1 x
 unfold dd
 simpa using this
theorem Znb (ks:List Int):(dd ks).length≤ks.length:=by
 have:=(Oe ks [] List.nodup_nil).2.2
 unfold dd
 simpa using this
theorem Zja (ks:List Int):firstMet (fun i=>ks.getD i 0) ks.length=dd ks:=by
 unfold firstMet dd
 congr 1
 apply List.ext_getElem?
 intro i
 rw [List.getElem?_map]
 by_cases h:i < ks.length
 ·rw [List.getElem?_range h,List.getElem?_eq_getElem h]
  show some (ks.getD i 0)=some ks[i]
  rw [List.getD_eq_getElem?_getD,List.getElem?_eq_getElem h]
  rfl
 ·rw [List.getElem?_eq_none (by rw [List.length_range]; omega),List.getElem?_eq_none (by omega)]
  rfl
section
variable {X:Cx}
theorem Inv.draw {pins:List (Addr × Obj)} {σ:List (Option V)} {H:Hp} {s:Shared} {d:Drawn} (I:Inv X pins σ H s):Inv X pins σ H { s with drawn:=d }:=⟨I.ok,I.os,I.bare,I.base,I.loc,I.cell,I.free,I.freeC,I.pin,I.hok,I.len⟩
noncomputable def setH (P:Program) (w:World) (a:Addr) (ks:List Int):HO:=.ext fun h=>WSet P w h a ks
theorem Zme {H:Hp} {h:Heap} {a:Addr} {ks:List Int} (ws:WSet X.prog X.w h a ks):Yf X.prog X.w H h a (setH X.prog X.w a ks):=by
 refine ⟨ws,?_,fun h1 h2 w1 k=>w1.kept k⟩
 obtain ⟨o,_,_,_,_,ho,_⟩:=ws
 exact ⟨o,ho⟩
theorem Zhd (hc:X.calm=true):Jk X (.type "set") (fun xs H Q=>∃ (p:Addr) (ks:List Int),xs=[.ref p]∧SqL X.K H p (ks.map V.int)∧ks.length < 64∧∀ q:Addr,H q=none→Q (.ref q) (upd H q (setH X.prog X.w q (dd ks)))):=by
 intro pins s σ H xs us Q I r h
 obtain ⟨p,ks,rfl,hp,h64,q⟩:=h
 obtain ⟨u,rfl,ru⟩:=Jz r
 obtain rfl:u=Value.ref p:=ru
 obtain ⟨its,rv,pl,_⟩:=I.list hp
 have hI:IntsAre its ks:=by simpa using Qf rv
 have hl:its.length=ks.length:=hI.length
 refine Zco (its:=its.toArray) (ns:=ks) (I.ok.hd hc) pl.isList (by simpa using hI) (by rw [List.size_toArray,hl]; unfold scanBound; omega) fun h' tk ws kp=>?_
 rw [show its.toArray.size=ks.length by rw [List.size_toArray]; exact hl,Zja] at ws
 exact ⟨.ref s.heap.objs.size,_,I.laid (t':=tk) kp (Nat.le_refl _) (Zme ws),rfl,q _ (I.hok.fresh (Nat.le_refl _))⟩
variable {P:Program} {w:World} {A:Around} {E:Value→Shared→Prop} {s:Shared}
theorem Zi0 {r:Addr} {Q:Bool→Shared→Prop} (hT:s.TypeIs (.ref r) "set") (h:Q false s):wpAny (model P w) A (Builtin.List.listLengthHint (.ref r)) Q E s:=by
 unfold Builtin.List.listLengthHint
 refine wpAny_bind (wpAny_specialOf hT PySem.F.slot_set_len.lookup ?_)
 generalize hid:("set.__len__":String)=id0
 wp_delta
 rw [show splitId id0=some ("set","__len__") from by subst hid; decide +kernel]
 subst hid
 refine wpAny_bind (wpAny_isInstance (T:="set") (b:=true) hT (by rw [isSubtype_type]; kernel_rfl) (wpAny_ite_split (fun z=>absurd z (by decide)) fun _=>wpAny_ite_split (fun _=>?_) fun z=>absurd (by decide +kernel) z))
 exact wpAny_bind (wpAny_typeOf hT (wpAny_pure h))
theorem Zc8 {a:Addr} {ks:List Int} {R:List Value→Shared→Prop} (hh:A.handled=none) (hS:WSet P w s.heap a ks) (hn:ks.length≤sizeLine)
  (h:∀ (h':Heap) (d':Drawn) (tk:Nat) (vs:List Value) (out:List Int),(∀ b o,s.heap.get? b=some o→h'.get? b=some o)→IntsAre vs out→out.Perm ks→R vs { s with heap:=h',drawn:=d',toks:=tk }) :
  wpAny (model P w) A (collect (.ref a)) R E s:=by
 have la:=hS.lt
 unfold collect
 refine wpAny_bind (wpAny_runValue (codeAny_builtin entry_proto_collect' ?_))
 rw [Around.under_plainId PySem.F.plain_proto_collect _]
 show wpAny _ A.in1 (newList [] >>= fun l=>again (.builtin "list.__iadd__" ⟨[l,.ref a],[]⟩)) _ _ s
 refine wpAny_bind (wpAny_newObj_type (wpAny_pure ⟨plainId_quiet PySem.F.plain_list_iadd _,codeAny_builtin entry_list_iadd' ?_⟩))
 rw [Around.under_plainId PySem.F.plain_list_iadd _]
 have e0:(s.heap.push { cls:=.type "list",data:=.seq ([]:List Value).toArray }).get? s.heap.objs.size=some { cls:=.type "list",data:=.seq #[] }:=Heap.get?_push_size _ rfl
 have ws1:WSet P w (s.heap.push { cls:=.type "list",data:=.seq ([]:List Value).toArray }) a ks:=hS.kept fun o e=>Heap.get?_push_of_some _ e
 have hT:Shared.TypeIs { s with heap:=s.heap.push { cls:=.type "list",data:=.seq ([]:List Value).toArray } } (.ref a) "set":=by obtain ⟨o,_,_,_,_,ho,ex,_⟩:=ws1; exact ⟨o,ho,ex.1⟩
 have hz:=Heap.size_push s.heap { cls:=.type "list",data:=.seq ([]:List Value).toArray }
 show wpAny _ A.in1 (Builtin.List.listExtendWith (.ref s.heap.objs.size) (.ref a) (.ref s.heap.objs.size)) _ _ _
 unfold Builtin.List.listExtendWith
 refine wpAny_bind (wpAny_typeOf hT ?_)
 have n1:Builtin.List.listSameRef (.ref s.heap.objs.size) (.ref a)=false:=by
  show (s.heap.objs.size == a)=false
  exact beq_eq_false_iff_ne.mpr (Nat.ne_of_gt la)
 simp only [n1,show (Value.type "set" == Value.type "list")=false by decide,show (Value.type "set" == Value.type "tuple")=false by decide,Bool.or_false,Bool.false_eq_true,if_false]
 refine wpAny_bind (Ziz (A:=A.in1) hh ws1 fun I h1 d1 fp out St pm kp hI hfp W st=>?_)
 have eS:=kp _ _ e0
 have hSf:s.heap.objs.size ∉ fp:=fun z=>by
  rcases hfp _ z with q | q
  ·exact Nat.ne_of_gt la q
  ·rw [hz] at q; exact absurd q (Nat.not_succ_le_self _)
 have hSI:s.heap.objs.size≠I:=fun z=>by rw [hz,← z] at hI; exact absurd hI (Nat.not_succ_le_self _)
 have tail:∀ (h2:Heap) (c tk:Nat),St 0 h2→(∀ b o,b≠s.heap.objs.size→h1.get? b=some o→h2.get? b=some o)→h2.get? s.heap.objs.size=some { cls:=.type "list",data:=.seq #[] c } →
   codeAny (model P w) A (.builtin "list.extend.loop" ⟨[.ref s.heap.objs.size,.ref I,.ref s.heap.objs.size],[]⟩) (fun q s'=>∃ (h':Heap) (tk:Nat) (acc:Array Value) (c':Nat),q=.ok (.ret (.ref s.heap.objs.size))∧s'={ s with heap:=h',drawn:=d1,toks:=tk }∧(∀ b o,s.heap.get? b=some o→h'.get? b=some o) ∧
    h'.get? s.heap.objs.size=some { cls:=.type "list",dict:=none,data:=.seq acc c',slots:=#[] }∧ItemsOf (fun i v=>∃ t,v=.int (out.getD i 0) t) acc out.length) { s with heap:=h2,drawn:=d1,toks:=tk }:=by
  intro h2 c tk st2 k2 e2
  refine codeAny_extend_loopS W.toS (by rw [pm.length_eq]; exact hn) _ hSf _ out.length 0 _ #[] c rfl (Nat.zero_le _) st2 e2 (ItemsOf.nil _) fun s' acc c' hm e3 it=>?_
  refine ⟨s'.heap,s'.toks,acc,c',rfl,?_,fun b o e=>?_,e3,it⟩
  ·have e1:s'.gens=s.gens:=hm.gens
   have e2:s'.drawn=d1:=hm.drawn
   have e3:s'.os=s.os:=hm.os
   rw [← e1,← e2,← e3]
  ·have lb:=Heap.lt_size e
   refine hm.heap b o ?_ (k2 b o (Nat.ne_of_lt lb) (kp _ _ (Heap.get?_push_of_some _ e)))
   simp only [List.mem_cons,List.not_mem_nil,or_false,not_or]
   refine ⟨Nat.ne_of_lt lb,fun z=>?_⟩
   rw [hz,← z] at hI
   exact absurd (Nat.lt_of_lt_of_le (Nat.lt_succ_of_lt lb) hI) (Nat.lt_irrefl _)
 refine wpAny_bind (wpAny_holding (Zi0 (by obtain ⟨o,ho,hc⟩:=hT; exact ⟨o,kp _ _ ho,hc⟩) ?_))
 have fin:∀ (q:Result) (s':Shared),(∃ (h':Heap) (tk:Nat) (acc:Array Value) (c':Nat),q=.ok (.ret (.ref s.heap.objs.size))∧s'={ s with heap:=h',drawn:=d1,toks:=tk }∧(∀ b o,s.heap.get? b=some o→h'.get? b=some o) ∧
    h'.get? s.heap.objs.size=some { cls:=.type "list",dict:=none,data:=.seq acc c',slots:=#[] }∧ItemsOf (fun i v=>∃ t,v=.int (out.getD i 0) t) acc out.length)→(match q with | .ok (.ret v)=>wpAny (model P w) A (match v with | .ref a=>(do match (← load a).data with | .seq xs _=>pure xs.toList | _=>unsupported "internal:collect") | _=>unsupported "internal:collect") R E s' | .ok _=>False | .error e=>E e s'):=by
  rintro q s' ⟨h',tk,acc,c',rfl,rfl,kp',e3,it⟩
  show wpAny _ A (load s.heap.objs.size >>= _) _ _ _
  refine wpAny_bind (wpAny_load e3 (wpAny_pure (h h' d1 tk acc.toList out kp' ?_ pm)))
  have gen:∀ (us:List Value) (os:List Int),us.length=os.length→(∀ (j:Nat) (v:Value),us[j]?=some v→∃ t,v=Value.int (os.getD j 0) t)→IntsAre us os:=by
   intro us
   induction us with
   | nil =>
    intro os hl _
    cases os with
    | nil=>exact .nil
    | cons _ _=>simp at hl
   | cons u r ih =>
    intro os hl hv
    cases os with
    | nil=>simp at hl
    | cons k ks =>
     obtain ⟨t,e⟩:=hv 0 u rfl
     have e:u=Value.int k t:=e
     subst e
     exact .cons k t (ih ks (by simpa using hl) fun j v hj=>hv (j + 1) v hj)
  exact gen _ _ (by rw [Array.length_toList]; exact it.1) fun j v hj=>it.2 j v (by rw [← Array.getElem?_toList]; exact hj)
 refine wpAny_ite_split (fun _=>?_) (fun z=>absurd (by decide +kernel) z)
 refine wpAny_bind (wpAny_rule (wpAny_bind ?_))
 show wpAny _ _ (updateSeq s.heap.objs.size (·.push .none) >>= fun _=>updateSeq s.heap.objs.size (·.pop)) _ _ _
 refine wpAny_bind (wpAny_updateSeq eS rfl ?_)
 have e2:=Heap.get?_update_self (Obj.mapSeq (·.push Value.none)) eS rfl
 refine wpAny_updateSeq (hz:=by seq_fits) e2 rfl ?_
 have e3:=Heap.get?_update_self (Obj.mapSeq (·.pop)) e2 rfl
 have ot:∀ b o,b≠s.heap.objs.size→h1.get? b=some o→((h1.update s.heap.objs.size (Obj.mapSeq (·.push Value.none))).update s.heap.objs.size (Obj.mapSeq (·.pop))).get? b=some o:=fun b o hb e =>
  (Heap.get?_update_other _ _ (Ne.symm hb)).trans ((Heap.get?_update_other _ _ (Ne.symm hb)).trans e)
 refine wpAny_pure ⟨plainId_quiet PySem.F.plain_extend_loop _,codeAny_mono (tail _ _ _ (W.frame 0 _ _ st fun b hb o e=>ot b o (fun z=>hSf (z ▸ hb)) e) ot e3) fun q s' y=>?_⟩
 exact fin q s' y
end
end L2
set_option maxHeartbeats 4000000
namespace L2
open PySem PySem.Spec PyProof.Rows
section
variable {X:Cx}
theorem Zcg (hc:X.calm=true):Jk X (.builtin "sorted") (fun xs H Q=>∃ (p:Addr) (ks:List Int),xs=[.ref p]∧H p=some (setH X.prog X.w p ks)∧ks.length < 64 ∧
  ∀ (q:Addr) (out:List Int),H q=none→out.Perm ks→out.Pairwise (·≤·)→Q (.ref q) (upd H q (.lst (out.map V.int)))):=by
 intro pins s σ H xs us Q I r h
 obtain ⟨p,ks,rfl,hp,h64,q⟩:=h
 obtain ⟨u,rfl,ru⟩:=Jz r
 obtain rfl:u=Value.ref p:=ru
 have ws:WSet X.prog X.w s.heap p ks:=(I.hok p _ hp).1
 refine Calls.call_function_entry kind_sorted plain_sorted entry_sorted (args_sorted1 _) ?_
 unfold Builtin.«sorted»
 refine wpAny_bind (m:=checkCount "sorted" 1 1 _) (wpAny_pure ?_)
 refine wpAny_bind (Zc8 (A:=X.A.in1) (I.ok.hd hc) ws (by rw [sizeLine_eq]; omega) fun h' d' tk vs out kp hI pm=>?_)
 have hl:vs.length=out.length:=hI.length
 have h64':out.length < 64:=by rw [pm.length_eq]; exact h64
 refine wpAny_bind (wpAny_newList ?_ (by rw [hl,sizeLine_eq]; omega))
 have I1:Inv X pins σ H { s with heap:=h',drawn:=d',toks:=tk }:=(I.kept (t':=tk) kp).draw
 have hoL:(h'.push { cls:=.type "list",data:=.seq vs.toArray }).get? h'.objs.size=some (seqObj "list" vs.toArray 0):=Heap.get?_push_size _ rfl
 refine wpAny_bind (wpAny_holding (wpAny_call_entry slot_list_sort ⟨_,hoL,rfl⟩ entry_list_sort (list_sort_tree hoL (by simpa using hI) (by omega) fun res ns a1 a2 a3=>⟨_,rfl,?_⟩) (args_list_sort _)))
 refine wpAny_pure ⟨_,rfl,?_⟩
 obtain ⟨e,he⟩:=sortedHeap_at (out:=res) hoL
 have k2:∀ b u,h'.get? b=some u→(sortedHeap (h'.push { cls:=.type "list",data:=.seq vs.toArray }) h'.objs.size vs res).get? b=some u:=fun b u hb=>by
  have lb:=Heap.lt_size hb
  rw [sortedHeap_old (Nat.ne_of_lt lb) (by rw [Heap.size_push]; exact Nat.lt_succ_of_lt lb)]
  exact Heap.get?_push_of_some _ hb
 have hv:Vals (ns.map V.int) res.toList:=by
  clear he k2
  generalize res.toList=l at a1
  clear a2 a3
  induction a1 with
  | nil=>exact .nil
  | cons i t _ ih=>exact .cons ⟨_,rfl⟩ ih
 refine ⟨.ref h'.objs.size,upd H h'.objs.size (.lst (ns.map V.int)),I1.laid k2 (Nat.le_refl _) ⟨?_,res.toList,e,hv,by rw [he]⟩,rfl,q _ ns I1.fresh (a2.trans pm) a3⟩
 rw [List.length_map,a2.length_eq,sizeLine_eq]; omega
end
end L2
set_option maxHeartbeats 1000000
namespace L2
open PySem PySem.Spec PyProof.Rows
end L2
set_option maxHeartbeats 4000000
namespace L2
open PySem PySem.Spec PyProof.Rows
theorem Zal {es rest:List Expr} {k:Nat} {p:Pos} {env:Env}:starEach (.Tuple es k p :: rest) env=(false,eval (.Tuple es k p) env) :: starEach rest env:=by rfl
theorem Zk1 {X:Cx} (K:PySem.W.Frag) (hu:X.A.units + 64 < cLine) (h:X.K=K:=by rfl):OpR X (compareOp .Eq) (rEqL K):=h ▸ Zmv hu
noncomputable def Wb (X:Cx) (N':List Str) (scope:Scope) (y0:Str) (C:Addr) (s₀:Shared) (H₀:Hp) (ex:List Addr):Cx :=
 { X with N:=N',s₀:=s₀,H₀:=H₀,env:=compEnvC scope ((y0,C + 1) :: Z6 X.env scope.names []) C X.env,outer:=X.stack,ex:=ex,fn:=fun x=>x == y0,pn:=[],xe:=fun _ _=>False }
structure BlkOy (X:Cx) (scope:Scope) (y0:Str) (fv:List (Str × Nat)):Prop where
 kind:scope.kind=.function
 own:∀ y∈scope.names,y.2=.cell→y.1=y0
 names:∀ y∈scope.names,y.2=.local→scope.names.lookup y.1=some .local
 free:∀ y∈scope.names,y.2=.free→X.env.kindOf y.1=some .cell∨X.env.kindOf y.1=some .free
 fvs:FvOk X scope fv
 cel:∀ n acc,cellsFrom n scope.names acc=(y0,n) :: acc
 psh:∀ h,pushCells h scope.names=h.push { cls:=.type "cell",data:=.cell none }
 nfr:scope.names.lookup y0=some .cell
theorem Zcz {M:Model} {A:Around} {E:Value→Shared→Prop} {s:Shared} {scope:Scope} {globals:Addr} {cl:List (Str × Addr)} {qual:Str} {env:Env} {y0:Str} {Q:Env→Shared→Prop}
  (cel:∀ n acc,cellsFrom n scope.names acc=(y0,n) :: acc) (psh:∀ h,pushCells h scope.names=h.push { cls:=.type "cell",data:=.cell none })
  (hQ:Q (newEnv scope s.heap.objs.size globals ((y0,s.heap.objs.size + 1) :: cl) qual none .none (some env) builtinsNs) { s with heap:=(s.heap.push { cls:=.type "dict",data:=.dict #[] }).push { cls:=.type "cell",data:=.cell none } }) :
  wpAny M A (newFunctionEnv scope globals cl [] qual none .none (some env)) Q E s:=by
 simp only [newFunctionEnv,Option.isSome_some,if_true]
 refine wpAny_bind (wpAny_alloc ?_)
 refine wpAny_bind (wpAny_layCells _ (fun name kind cells=>by cases hkc:kind == NameKind.cell <;> simp [hkc]) _ _ _ _ ?_)
 rw [cel,psh,show ({ s with heap:=s.heap.push { cls:=.type "dict",data:=.dict #[] } }:Shared).heap.objs.size=s.heap.objs.size + 1 from Heap.size_push ..]
 refine wpAny_bind ?_
 rw [List.forIn_nil]
 exact wpAny_pure (wpAny_pure hQ)
section
variable {X:Cx} {pins:List (Addr × Obj)} {σ:St} {H:Hp} {s:Shared} {scope:Scope} {y0:Str} {ts:List Str} {fv:List (Str × Nat)}
theorem Ze5 {h':Heap} {fp:List Addr} {tk:Nat} (B:BlkOy X scope y0 fv) (I:Inv X pins σ H s) (hf:∀ b∈fp,FpOk X pins H b) (ho:∀ b∈fp,∃ o,s.heap.get? b=some o)
  (hn:h'.Ns s.heap.objs.size (fun _=>none)) (hc:h'.IsCell (s.heap.objs.size + 1) none) (hk:∀ b o,s.heap.get? b=some o→h'.get? b=some o) :
  Inv (Wb X (blkN ts fv) scope y0 s.heap.objs.size s H fp) [] (blkS ts fv σ) H { s with heap:=h',toks:=tk }:=by
 have has:∀ y∈scope.names,y.2=.free→∃ c,X.env.cells.lookup y.1=some c:=fun y hy e=>I.ok.has y.1 (B.free y hy e)
 have snd:∀ x c,(Z6 X.env scope.names []).lookup x=some c→X.env.cells.lookup x=some c:=Wd _ _ (fun x c h=>by simp at h)
 have fr:∀ x,(scope.names.lookup x=some .free)→∃ c,(Z6 X.env scope.names []).lookup x=some c:=fun x hx =>
  W5 _ _ x (PySem.mem_of_lookup hx) (has _ (PySem.mem_of_lookup hx) rfl)
 have lk:∀ x c,((y0,s.heap.objs.size + 1) :: Z6 X.env scope.names []).lookup x=some c→(x=y0∧c=s.heap.objs.size + 1)∨(x≠y0∧(Z6 X.env scope.names []).lookup x=some c):=fun x c e=>by
  rw [List.lookup_cons] at e
  cases hx:x == y0 with
  | true=>rw [hx] at e; exact .inl ⟨beq_iff_eq.mp hx,(Option.some.inj e).symm⟩
  | false=>rw [hx] at e; exact .inr ⟨fun z=>by rw [z] at hx; simp at hx,e⟩
 have lko:∀ x c,x≠y0→(Z6 X.env scope.names []).lookup x=some c→((y0,s.heap.objs.size + 1) :: Z6 X.env scope.names []).lookup x=some c:=fun x c hx e=>by
  rw [List.lookup_cons,show (x == y0)=false from by simpa using hx]
  exact e
 have clt:∀ x c,(Z6 X.env scope.names []).lookup x=some c→c < s.heap.objs.size:=fun x c e=>by
  obtain ⟨v,z⟩:=I.cell x c (snd x c e)
  exact z.lt
 have nfs:∀ b∈fp,b ∉ frs X.stack:=fun b hb z=>by
  obtain ⟨_,h1,h2,_⟩:=hf b hb
  rcases List.mem_cons.mp (I.stkSub b z) with e | e
  ·exact h1 e
  ·exact h2 e
 have lt:∀ b∈fp,b < s.heap.objs.size:=fun b hb=>let ⟨o,e⟩:=ho b hb; Heap.lt_size e
 refine ⟨⟨I.ok.mod,?_,I.ok.glob,I.ok.blt,Nat.le_refl _,fun x y c h1 h2=>?_,fun x hx=>?_,fun x c _ e=>?_,I.ok.hd,I.ok.frames,.inl rfl,fun b hb=>⟨Nat.ne_of_lt (lt b hb),fun x c e=>?_⟩,I.bs,Nat.le_trans I.ok.bsz I.sz,fun b o e hb=>?_,nfs,I.stack,I.stkFree⟩,
  rfl,I.bare,Un.kept hk,⟨_,hn,fun i x v h1 h2 h3=>?_⟩,fun x c e=>?_,I.fresh,fun x c e=>?_,fun p hp=>?_,I.hok.kept hk,?_⟩
 ·exact B.kind
 ·rcases lk x c h1 with ⟨u1,u2⟩ | ⟨u1,u2⟩ <;> rcases lk y c h2 with ⟨w1,w2⟩ | ⟨w1,w2⟩
  ·rw [u1,w1]
  ·exact absurd (clt y c w2) (by rw [u2]; exact Nat.not_lt.mpr (Nat.le_succ _))
  ·exact absurd (clt x c u2) (by rw [w2]; exact Nat.not_lt.mpr (Nat.le_succ _))
  ·exact I.ok.inj x y c (snd x c u2) (snd y c w2)
 ·have hx':(relabel scope X.env).names.lookup x=some .cell∨(relabel scope X.env).names.lookup x=some .free:=hx
  show ∃ c,((y0,s.heap.objs.size + 1) :: Z6 X.env scope.names []).lookup x=some c
  by_cases hy:x=y0
  ·exact ⟨s.heap.objs.size + 1,by rw [List.lookup_cons,show (x == y0)=true from by simpa using hy]⟩
  ·have q:scope.names.lookup x=some .free:=by
    have key:∀ k,(relabel scope X.env).names.lookup x=some k→k=.cell∨k=.free→scope.names.lookup x=some .free:=fun k hk' hkk=>by
     have hk':(scope.names.map fun (n,k)=>if (k == NameKind.free && X.env.scope.kind == .function && X.env.kindOf n == some .cell) then (n,NameKind.cell) else (n,k)).lookup x=some k:=hk'
     rw [Ws] at hk'
     cases e:scope.names.lookup x with
     | none=>rw [e] at hk'; cases hk'
     | some k' =>
      rw [e] at hk'
      have nk:k'≠.cell:=fun z=>hy (B.own _ (PySem.mem_of_lookup e) z)
      have h':(if (k' == NameKind.free && X.env.scope.kind == .function && X.env.kindOf x == some .cell)=true then NameKind.cell else k')=k:=Option.some.inj hk'
      split at h'
      ·rename_i q
       simp only [Bool.and_eq_true,beq_iff_eq] at q
       rw [q.1.1]
      ·subst h'
       rcases hkk with z | z
       ·exact absurd z nk
       ·rw [z]
    rcases hx' with e | e
    ·exact key _ e (.inl rfl)
    ·exact key _ e (.inr rfl)
   obtain ⟨c,hc'⟩:=fr x q
   exact ⟨c,lko x c hy hc'⟩
 ·rcases lk x c e with ⟨_,u2⟩ | ⟨u1,u2⟩
  ·rw [u2]; exact Nat.le_succ _
  ·rename_i hfn
   exact absurd (beq_iff_eq.mp (show (x == y0)=true from hfn)) u1
 ·rcases lk x c e with ⟨_,u2⟩ | ⟨_,u2⟩
  ·rw [u2]; exact fun z=>absurd (lt b hb) (by rw [← z]; exact Nat.not_lt.mpr (Nat.le_succ _))
  ·exact (hf b hb).2.2.2.2.1 x c (snd x c u2)
 ·rcases (hf b hb).2.2.2.1 with z | z
  ·exact I.ok.noex b o e z
  ·exact absurd (Nat.lt_of_lt_of_le (Heap.lt_size e) (Nat.le_trans I.ok.bsz z)) (Nat.lt_irrefl _)
 ·have h1:(ts ++ fv.map (·.1))[i]?=some x:=h1
  have h2:(ts.map (fun _=>(none:Option V)) ++ fv.map fun y=>(σ[y.2]?).join)[i]?=some (some v):=h2
  by_cases hi:i < ts.length
  ·rw [List.getElem?_append_left (by simpa using hi),List.getElem?_map] at h2
   cases e:ts[i]? with
   | none=>rw [e] at h2; cases h2
   | some z=>rw [e] at h2; cases h2
  ·rw [List.getElem?_append_right (by simpa using hi),List.length_map,List.getElem?_map] at h2
   rw [List.getElem?_append_right (by simpa using hi),List.getElem?_map] at h1
   cases e:fv[i - ts.length]? with
   | none=>rw [e] at h2; cases h2
   | some y =>
    rw [e] at h1 h2
    have e1:y.1=x:=by simpa using h1
    have e2:(σ[y.2]?).join=some v:=by simpa using h2
    obtain ⟨f1,f2,f3⟩:=B.fvs.mem y (List.mem_of_getElem? e)
    have e3:σ[y.2]?=some (some v):=by
     cases q:σ[y.2]? with
     | none=>rw [q] at e2; cases e2
     | some z=>rw [q] at e2; exact congrArg some e2
    obtain ⟨m,hm,hl⟩:=I.loc
    obtain ⟨u,r,l⟩:=hl y.2 y.1 v f1 e3 (by rcases f3 with z | z; exact .inr (.inl z); exact .inr (.inr z))
    rw [e1] at f2 f3 l
    refine ⟨u,r,?_⟩
    obtain ⟨c,hc0⟩:=fr x f2
    have hx0:x≠y0:=fun z=>by rw [z,B.nfr] at f2; cases f2
    have hc1:=lko x c hx0 hc0
    have hc':=snd x c hc0
    rcases l with ⟨l1,_⟩ | ⟨_,c2,l2,l3⟩
    ·rcases f3 with z | z
     ·rw [l1] at z; cases z
     ·rw [l1] at z; cases z
    ·rw [hc'] at l2
     cases l2
     have hv:Vis (relabel scope X.env) x:=h3
     rcases hv with z | z | z
     ·exfalso
      exact Q4 f2 z
     ·exact .inr ⟨.inl z,c,hc1,l3.keeps hk⟩
     ·exact .inr ⟨.inr z,c,hc1,l3.keeps hk⟩
 ·rcases lk x c e with ⟨_,u2⟩ | ⟨_,u2⟩
  ·rw [u2]; exact ⟨_,hc⟩
  ·obtain ⟨v,z⟩:=I.cell x c (snd x c u2)
   exact ⟨v,z.keeps hk⟩
 ·rcases lk x c e with ⟨_,u2⟩ | ⟨_,u2⟩
  ·rw [u2]; exact I.hok.fresh (Nat.le_succ _)
  ·exact I.freeC x c (snd x c u2)
 ·exact absurd (show p∈([]:List (Addr × Obj)) from hp) (by simp)
 ·show (ts.map (fun _=>(none:Option V)) ++ fv.map fun y=>(σ[y.2]?).join).length=(ts ++ fv.map (·.1)).length
  simp
theorem Zjg {s':Shared} {H':Hp} {σ':St} {C:Addr} {N':List Str} {fp:List Addr} (I:Inv X pins σ H s) (hf:∀ b∈fp,FpOk X pins H b) (hC:s.heap.objs.size≤C)
  (J:Inv (Wb X N' scope y0 C s H fp) [] σ' H' s'):Inv X pins σ H' s'∧H' C=none∧X.s₀.heap.objs.size≤C∧C≠X.env.locals∧(∀ x c,X.env.cells.lookup x=some c→c≠C)∧(∀ p∈X.pn ++ pins,p.1≠C):=by
 refine ⟨I.call' J.os J.base J.hok J.bare fun b hb=>?_,J.free,Nat.le_trans I.sz hC,Nat.ne_of_gt (Nat.lt_of_lt_of_le I.lt hC),fun x c e z=>?_,fun p hp z=>?_⟩
 ·obtain ⟨_,h1,_,h3,h4,h5⟩:=hf b hb
  exact ⟨h3,h1,h4,h5⟩
 ·obtain ⟨v,q⟩:=I.cell x c e
  exact absurd (Nat.lt_of_lt_of_le q.lt (by rw [z]; exact hC)) (Nat.lt_irrefl _)
 ·exact absurd (Nat.lt_of_lt_of_le (Heap.lt_size (I.pin p hp).1) (by rw [z]; exact hC)) (Nat.lt_irrefl _)
end
section
variable {X:Cx} {y0:Str} {ts:List Str} {fv:List (Str × Nat)} {scope:Scope} {elt t0 i0:Expr} {f0:List Expr} {rest:List Comprehension} {pos:Pos} {wi:TI} {g:TG} {tt:TT} {tb:Addr→TB} {kont:Env→Addr→Addr→Sem Fin}
theorem Ze2 (B:BlkOy X scope y0 fv) (hc:X.calm=true) (hi:PI X t0 i0 wi)
  (hg:∀ C s₀ H₀ ex,PG (Wb X (blkN ts fv) scope y0 C s₀ H₀ ex) t0 g) (ht:∀ C s₀ H₀ ex,PTs (Wb X (blkN ts fv) scope y0 C s₀ H₀ ex) f0 tt)
  (heq:∀ (env:Env) (it D:Addr),compTurn (.ListComp elt (⟨t0,i0,f0,0⟩ :: rest) scope pos) 0 (.ref it) (.ref D) env=(standAt i0.pos >>= fun _=>pyNext (.ref it) >>= fun r=>match r with
   | none=>pure (.done .next)
   | some v=>letOwnedTupleGo t0 (.ref it) v >>= fun _=>assign t0 env v >>= fun _ =>
    (forIn f0 true fun c r=>if r=true then do let ok ← isTrue c env (eval c env); pure (ForInStep.yield ok) else pure (ForInStep.yield r)) >>= fun ok =>
     if ok=true then kont env it D else again (.compLoop (.ListComp elt (⟨t0,i0,f0,0⟩ :: rest) scope pos) 0 (.ref it) (.ref D) env)))
  (hb:∀ C s₀ H₀ ex it D,PB (Wb X (blkN ts fv) scope y0 C s₀ H₀ ex) (kont (Wb X (blkN ts fv) scope y0 C s₀ H₀ ex).env it D) (.compLoop (.ListComp elt (⟨t0,i0,f0,0⟩ :: rest) scope pos) 0 (.ref it) (.ref D) (Wb X (blkN ts fv) scope y0 C s₀ H₀ ex).env) (tb D))
  {pins:List (Addr × Obj)} {s:Shared} {σ:St} {H:Hp} {Q:VK} {RR:Value→Addr→Result→Shared→Prop} (I:Inv X pins σ H s) (h:Ka ts fv wi g tt tb σ H Q)
  (hRR:∀ D C s' H',Inv X pins σ H' s'→H' C=none→X.s₀.heap.objs.size≤C→C≠X.env.locals→(∀ x c,X.env.cells.lookup x=some c→c≠C)→(∀ p∈X.pn ++ pins,p.1≠C)→(∃ m,s'.heap.Ns C m)→Q (.ref D) H'→RR (.ref D) C (.ok .next) s') :
  wpAny (model X.prog X.w) X.A (eval i0 X.env) (fun x s₁=>wpAny (model X.prog X.w) X.A (pyIter x) (fun it s₂=>wpAny (model X.prog X.w) X.A (newList []) (fun acc s₃ =>
   wpAny (model X.prog X.w) X.A (newFunctionEnv scope X.env.globals (Z6 X.env scope.names []) [] X.env.qual none .none (some X.env)) (fun cenv s₄ =>
    codeAny (model X.prog X.w) X.A (.compStart (.ListComp elt (⟨t0,i0,f0,0⟩ :: rest) scope pos) 0 it acc { cenv with scope:=relabel scope X.env }) (RR acc cenv.locals) s₄) X.xe s₃) X.xe s₂) X.xe s₁) X.xe s:=by
 refine thn (hi pins s σ H _ I h) fun v s1 h1=>thn h1 fun itv s2 h2=>?_
 obtain ⟨it,fp,tn,J,H2,e,I2,T,st2,f2,L⟩:=h2
 subst e
 have L:=L s2.heap.objs.size I2.fresh
 refine wpAny_newObj_type ?_
 have I3:Inv X pins σ (upd H2 s2.heap.objs.size (.lst [])) { s2 with heap:=s2.heap.push { cls:=.type "list",data:=.seq ([]:List Value).toArray },toks:=s2.toks }:=I2.lnew (its:=[]) (t':=s2.toks) .nil (Nat.zero_le _)
 have ho2:∀ b∈fp,∃ o,s2.heap.get? b=some o∧∀ v,o.data≠.cell v:=T.obj _ _ st2
 have f3:∀ b∈fp,FpOk X pins (upd H2 s2.heap.objs.size (.lst [])) b:=fun b hb=>by
  obtain ⟨o,ho,_⟩:=ho2 b hb
  refine ⟨?_,(f2 b hb).2⟩
  rw [Zf (Nat.ne_of_lt (Heap.lt_size ho))]
  exact (f2 b hb).1
 have st3:tn 0 (s2.heap.push { cls:=.type "list",data:=.seq ([]:List Value).toArray }):=T.keep _ _ _ st2 fun b _ o e=>Heap.get?_push_of_some _ e
 have ho3:∀ b∈fp,∃ o,(s2.heap.push { cls:=.type "list",data:=.seq ([]:List Value).toArray }).get? b=some o:=fun b hb=>let ⟨o,e,_⟩:=ho2 b hb; ⟨o,Heap.get?_push_of_some _ e⟩
 generalize hs3:({ s2 with heap:=s2.heap.push { cls:=.type "list",data:=.seq ([]:List Value).toArray },toks:=s2.toks }:Shared)=s3 at I3
 have eh:s2.heap.push { cls:=.type "list",data:=.seq ([]:List Value).toArray }=s3.heap:=by rw [← hs3]
 rw [eh] at st3 ho3
 refine Zcz (y0:=y0) B.cel B.psh ?_
 have hk:∀ b o,s3.heap.get? b=some o→((s3.heap.push { cls:=.type "dict",data:=.dict #[] }).push { cls:=.type "cell",data:=.cell none }).get? b=some o:=fun b o e=>Heap.get?_push_of_some _ (Heap.get?_push_of_some _ e)
 have hns:((s3.heap.push { cls:=.type "dict",data:=.dict #[] }).push { cls:=.type "cell",data:=.cell none }).Ns s3.heap.objs.size (fun _=>none):=(Heap.Ns.new s3.heap (.type "dict")).keeps fun b o e=>Heap.get?_push_of_some _ e
 have hcl:((s3.heap.push { cls:=.type "dict",data:=.dict #[] }).push { cls:=.type "cell",data:=.cell none }).IsCell (s3.heap.objs.size + 1) none:=⟨_,by rw [← Heap.size_push s3.heap { cls:=.type "dict",data:=.dict #[] }]; exact Heap.get?_push_size _ rfl,rfl⟩
 generalize (s3.heap.push { cls:=.type "dict",data:=.dict #[] }).push { cls:=.type "cell",data:=.cell none }=h₁ at hk hns hcl ⊢
 have I4:=Ze5 (ts:=ts) (tk:=s3.toks) B I3 f3 ho3 hns hcl hk
 have f4:∀ b∈fp,FpOk (Wb X (blkN ts fv) scope y0 s3.heap.objs.size s3 (upd H2 s2.heap.objs.size (.lst [])) fp) [] (upd H2 s2.heap.objs.size (.lst [])) b:=fun b hb=>by
  obtain ⟨f0,f1,f2',f3',f4',f5'⟩:=f3 b hb
  obtain ⟨o,eo⟩:=ho3 b hb
  exact ⟨f0,Nat.ne_of_lt (Heap.lt_size eo),I4.ok.exfs b hb,.inl hb,(I4.ok.exf b hb).2,fun p hp=>absurd (show p∈([]:List (Addr × Obj)) from hp) (by simp)⟩
 have st4:tn 0 h₁:=T.keep _ _ _ st3 fun b _ o e=>hk b o e
 have loop:codeAny (model X.prog X.w) X.A (.compLoop (.ListComp elt (⟨t0,i0,f0,0⟩ :: rest) scope pos) 0 (.ref it) (.ref s2.heap.objs.size) (Wb X (blkN ts fv) scope y0 s3.heap.objs.size s3 (upd H2 s2.heap.objs.size (.lst [])) fp).env)
   (RR (.ref s2.heap.objs.size) s3.heap.objs.size) { s3 with heap:=h₁,toks:=s3.toks }:=by
  refine Uy (X:=Wb X (blkN ts fv) scope y0 s3.heap.objs.size s3 (upd H2 s2.heap.objs.size (.lst [])) fp) (tg:=t0) (ifs:=f0) (R:=fun _ H'=>Q (.ref s2.heap.objs.size) H') rfl rfl rfl rfl (heq _ it s2.heap.objs.size) T hc (hg _ _ _ _) (ht _ _ _ _) (hb _ _ _ _ it s2.heap.objs.size) f4 I4 st4 L fun s' σ' H' J' q=>?_
  obtain ⟨e1,e2,e3,e4,e5,e6⟩:=Zjg I3 f3 (Nat.le_refl _) J'
  obtain ⟨m,hm,_⟩:=J'.loc
  exact hRR _ _ s' H' e1 e2 e3 e4 e5 e6 ⟨m,hm⟩ q
 have eb:=I.ok.blt
 exact codeAny_compStart_list loop (T.self _ _ _ _ _ st4 loop)
theorem Zcs {i:Nat} {y:Str} {py spos:Pos} (B:BlkOy X scope y0 fv) (hc:X.calm=true) (hN:X.N.Nodup) (hiy:X.N[i]?=some y) (hyl:X.env.scope.names.lookup y=some .local)
  (hsw:swapsWith (.ListComp elt (⟨t0,i0,f0,0⟩ :: rest) scope pos) (some (.Name y py)) spos.line X.env=pure true) (hi:PI X t0 i0 wi)
  (hg:∀ C s₀ H₀ ex,PG (Wb X (blkN ts fv) scope y0 C s₀ H₀ ex) t0 g) (ht:∀ C s₀ H₀ ex,PTs (Wb X (blkN ts fv) scope y0 C s₀ H₀ ex) f0 tt)
  (heq:∀ (env:Env) (it D:Addr),compTurn (.ListComp elt (⟨t0,i0,f0,0⟩ :: rest) scope pos) 0 (.ref it) (.ref D) env=(standAt i0.pos >>= fun _=>pyNext (.ref it) >>= fun r=>match r with
   | none=>pure (.done .next)
   | some v=>letOwnedTupleGo t0 (.ref it) v >>= fun _=>assign t0 env v >>= fun _ =>
    (forIn f0 true fun c r=>if r=true then do let ok ← isTrue c env (eval c env); pure (ForInStep.yield ok) else pure (ForInStep.yield r)) >>= fun ok =>
     if ok=true then kont env it D else again (.compLoop (.ListComp elt (⟨t0,i0,f0,0⟩ :: rest) scope pos) 0 (.ref it) (.ref D) env)))
  (hb:∀ C s₀ H₀ ex it D,PB (Wb X (blkN ts fv) scope y0 C s₀ H₀ ex) (kont (Wb X (blkN ts fv) scope y0 C s₀ H₀ ex).env it D) (.compLoop (.ListComp elt (⟨t0,i0,f0,0⟩ :: rest) scope pos) 0 (.ref it) (.ref D) (Wb X (blkN ts fv) scope y0 C s₀ H₀ ex).env) (tb D))
  (hs:∀ x,foldedSetIterable i0 X.env x=pure x:=by intro _; rfl) :
  PS X (.Assign [.Name y py] (.ListComp elt (⟨t0,i0,f0,0⟩ :: rest) scope pos) spos) (tAsg (Ka ts fv wi g tt tb) (Zn i)):=by
 intro pins s σ H D0 I h
 rw [exec_Assign_Name_used _ _ _ _ hsw]
 refine wpAny_bind (wpAny_standAt (wpAny_bind ?_))
 show wpAny _ X.A (do let _ ← comprehension (.ListComp elt (⟨t0,i0,f0,0⟩ :: rest) scope pos) scope X.env _ (newList []) false (eval i0 X.env) (some (assign (.Name y py) X.env))) _ _ s
 refine wpAny_bind (wpAny_mono (wpAny_comprehension_free (use:=some (assign (.Name y py) X.env)) (Q:=fun _ s'=>SP X pins D0 .next s') rfl hs (Vd fun y hy e=>I.ok.has y.1 (B.free y hy e)) B.kind B.names ?_) (fun _ s' hq=>wpAny_pure (wpAny_pure hq)) fun _ _ e=>e)
 refine Ze2 (Q:=fun x H1=>Zn i x σ H1 D0.nx) (RR:=fun acc C=>compPost (model X.prog X.w) X.A X.xe (some (assign (.Name y py) X.env)) (fun _ s'=>SP X pins D0 .next s') acc C) B hc hi hg ht heq hb I h fun D C s' H' I' e2 e3 e4 e5 e6 hm q=>?_
 obtain ⟨m,hm⟩:=hm
 show wpAny _ X.A (assign (.Name y py) X.env (.ref D)) _ _ _
 refine wpAny_assign_Name (Ug I' hN hiy (.inl hyl) (show RelV (.ref D) (.ref D) from rfl) (fun s'' I'' hch=>?_) (.inr hyl))
 obtain ⟨a,hsb,ha⟩:=hch
 have haC:C≠a:=by
  rcases ha with e | e
  ·rw [e]; exact e4
  ·exact fun z=>e5 y a e z.symm
 exact ⟨m,hm.sameBut hsb haC,fun h' hs'=>⟨_,H',I''.apart hs' e2 e3 e4 e5 e6,q⟩⟩
end
end L2
set_option maxHeartbeats 4000000
namespace L2
open PySem PySem.Spec PyProof.Rows
structure PEc (X:Cx) (e:Expr) (t:TE):Prop where
 out:PE X e t
structure PAc (X:Cx) (es:List Expr) (t:TA):Prop where
 out:PA X es t
structure PIc (X:Cx) (tg it:Expr) (t:TI):Prop where
 out:PI X tg it t
structure PSc (X:Cx) (st:Stmt) (t:TS):Prop where
 out:PS X st t
structure PSsc (X:Cx) (b:List Stmt) (t:TS):Prop where
 out:PSs X b t
section
variable {X:Cx}
theorem Zkz:PAc X [] tNil:=⟨Zc⟩
theorem Qi {es rest:List Expr} {k:Nat} {p:Pos} {te:TE} {t:TA} (ha:PEc X (.Tuple es k p) te) (hr:PAc X rest t):PAc X (.Tuple es k p :: rest) (Zjj te t):=⟨Za ha.out hr.out Zal⟩
theorem Bxt {es:List Expr} {k:Nat} {p:Pos} {t:TA} (h:PAc X es t):PEc X (.Tuple es k p) (tTup t):=⟨Y8 h.out⟩
theorem Zks {tg l:Expr} {tl:TE} (h:PEc X l tl):PIc X tg l (iTup X.K tl):=⟨Zf4 h.out⟩
theorem Zh7 {tg:Expr} {es:List Expr} {k:Nat} {p pos:Pos} {body:List Stmt} {wi:TI} {g:TG} {tb:TS} (hp:PassesOwn (model X.prog X.w) X.A X.env X.xe) (hc:X.calm=true) (hi:PIc X tg (.Tuple es k p) wi) (hg:PG X tg g) (hb:PSs X body tb):PSc X (.For tg (.Tuple es k p) body [] pos) (tFor wi g tb):=⟨Yg hp hc hi.out hg hb⟩
theorem Fc {st:Stmt} {rest:List Stmt} {t u:TS} (h1:PSc X st t) (h2:PSsc X rest u):PSsc X (st :: rest) (tSeq t u):=⟨Ze h1.out h2.out⟩
theorem Zh6 {st:Stmt} {t:TS} (h1:PSc X st t):PSsc X [st] t:=⟨Zg h1.out⟩
theorem unwS {b:List Stmt} {R:TS→Prop} (h:∃ t,PSsc X b t∧R t):∃ t,PSs X b t∧R t:=by
 obtain ⟨t,o,r⟩:=h
 exact ⟨t,o.out,r⟩
end
end L2
set_option maxHeartbeats 4000000
namespace KT
open PySem L2
noncomputable def aB (i:Nat):Nat:=bif (i % 3).beq 2 then i - 2 else i + 1
noncomputable def bB (i:Nat):Nat:=bif (i % 3).beq 0 then i + 2 else i - 1
noncomputable def mvB (l:Bool) (a b z:Nat):Nat:=bif z.beq (aB a) then (bif l then bB b else bB a) else bif z.beq (bB b) then (bif l then aB b else aB a) else bif z.beq (aB b) then (bif l then bB a else bB b) else bif z.beq (bB a) then (bif l then aB a else aB b) else z
theorem beqD (x y:Nat):x.beq y=decide (x=y):=by
 rw [Bool.eq_iff_iff,Nat.beq_eq,decide_eq_true_iff]
theorem Ze8 (i:Nat):aB i=aftN i:=by
 unfold aB aftN
 by_cases h:i % 3=2
 ·rw [if_pos h,h]; rfl
 ·rw [if_neg h,beqD,decide_eq_false h]; rfl
theorem Ze6 (i:Nat):bB i=befN i:=by
 unfold bB befN
 by_cases h:i % 3=0
 ·rw [if_pos h,h]; rfl
 ·rw [if_neg h,beqD,decide_eq_false h]; rfl
theorem Qx (l:Bool) (a b z:Nat):mvB l a b z=mvN l a b z:=by
 have f:∀ (x y:Nat),((x:Int)=(y:Int))=(x=y):=fun x y=>propext Int.ofNat_inj
 unfold mvB mvN mvI
 rw [Zd8,Zd8,Zd6,Zd6]
 simp only [f,beqD,Ze8,Ze6]
 by_cases h1:z=aftN a
 ·simp [h1]; cases l <;> simp
 ·simp only [h1,decide_false,cond_false,if_false]
  by_cases h2:z=befN b
  ·simp [h2]; cases l <;> simp
  ·simp only [h2,decide_false,cond_false,if_false]
   by_cases h3:z=aftN b
   ·simp [h3]; cases l <;> simp
   ·simp only [h3,decide_false,cond_false,if_false]
    by_cases h4:z=befN a
    ·simp [h4]; cases l <;> simp
    ·simp [h4]
noncomputable def fxE (l:Bool) (s:Nat × Nat × Nat × Nat):Nat × Nat × Nat × Nat:=(mvN l s.1 s.2.1 s.2.2.1,mvN l s.1 s.2.1 s.2.2.2,s.1,s.2.1)
noncomputable def fxG:List Bool→Nat × Nat × Nat × Nat→Nat→Nat
 | [],_,z=>z
 | l :: r,s,z=>fxG r (fxE l s) (mvN l s.1 s.2.1 z)
noncomputable def fxO:List Bool→Nat × Nat × Nat × Nat→Bool
 | [],_=>true
 | l :: r,s=>!decide (s.1 / 3=s.2.1 / 3) && fxO r (fxE l s)
noncomputable def fxS:List Bool→Nat × Nat × Nat × Nat→Nat × Nat × Nat × Nat
 | [],s=>s
 | l :: r,s=>fxS r (fxE l s)
noncomputable def fo (n:Nat) (k:Nat→Bool):Bool:=match n with
 | 0=>k 0
 | m + 1=>k (m + 1)
theorem Ze1 (n:Nat) (k:Nat→Bool):fo n k=k n:=by cases n <;> rfl
noncomputable def foL:List Nat→(List Nat→Bool)→Bool
 | [],k=>k []
 | x :: r,k=>fo x fun x=>foL r fun r=>k (x :: r)
theorem Zb8:∀ (l:List Nat) (k:List Nat→Bool),foL l k=k l
 | [],_=>rfl
 | x :: r,k=>by unfold foL; rw [Ze1,Zb8 r]
noncomputable def Zaa (z f y:Nat):Nat:=3 * (f / 3) + (y % 3 + f % 3 + 3 - z % 3) % 3
noncomputable def rhoB (F:List Nat) (a b c d y:Nat):Nat:=bif (y / 3).beq 0 then Zaa (aB a) (F.getD (aB a) 0) y else bif (y / 3).beq 1 then Zaa (12 - b - c) (F.getD (12 - b - c) 0) y else Zaa (aB d) (F.getD (aB d) 0) y
noncomputable def endB (F:List Nat) (a b c d p q r t:Nat):Bool :=
 ((List.range 9).all fun y=>bif y.beq a || y.beq b || y.beq c || y.beq d then true else (rhoB F a b c d y).beq (F.getD y 0)) &&
 (((rhoB F a b c d a).beq p && (rhoB F a b c d b).beq q) || ((rhoB F a b c d a).beq q && (rhoB F a b c d b).beq p)) &&
 (((rhoB F a b c d c).beq r && (rhoB F a b c d d).beq t) || ((rhoB F a b c d c).beq t && (rhoB F a b c d d).beq r)) &&
 !(rhoB F a b c d 0 / 3).beq (rhoB F a b c d 3 / 3) && !(rhoB F a b c d 0 / 3).beq (rhoB F a b c d 6 / 3) && !(rhoB F a b c d 3 / 3).beq (rhoB F a b c d 6 / 3)
noncomputable def runB (a b c d:Nat):List Bool→Nat→Nat→Nat→Nat→List Nat→Bool
 | [],p,q,r,t,F=>foL F fun F=>endB F a b c d p q r t
 | l :: ls,p,q,r,t,F=>!(p / 3).beq (q / 3) && fo (mvB l p q r) fun r'=>fo (mvB l p q t) fun t'=>foL (F.map (mvB l p q)) fun F'=>runB a b c d ls r' t' p q F'
noncomputable def allB:Nat→List Bool→(List Bool→Bool)→Bool
 | 0,ls,k=>k ls
 | n + 1,ls,k=>allB n (true :: ls) k && allB n (false :: ls) k
noncomputable def cheB (b c:Nat):Bool:=[0,1,2].all fun a=>[6,7,8].all fun d=>allB 5 [] fun ls=>runB a b c d ls a b c d [0,1,2,3,4,5,6,7,8]
theorem Zjf:cheB 3 4=true∧cheB 3 5=true∧cheB 4 3=true∧cheB 4 5=true∧cheB 5 3=true∧cheB 5 4=true:=by decide +kernel
theorem U0:∀ (n:Nat) (ls:List Bool) (k:List Bool→Bool),allB n ls k=true→∀ ms:List Bool,ms.length=n→k (ms.reverse ++ ls)=true
 | 0,ls,k,h,ms,hm=>by
  have:ms=[]:=List.length_eq_zero_iff.mp hm
  subst this
  exact h
 | n + 1,ls,k,h,ms,hm=>by
  cases ms with
  | nil=>simp at hm
  | cons m ms =>
   unfold allB at h
   rw [Bool.and_eq_true] at h
   have hm':ms.length=n:=by simpa using hm
   rw [List.reverse_cons,List.append_assoc]
   cases m with
   | true=>exact U0 n _ k h.1 ms hm'
   | false=>exact U0 n _ k h.2 ms hm'
theorem Zmf {a b c d:Nat} (ha:a < 3) (hb:3≤b∧b < 6) (hc:3≤c∧c < 6) (hbc:b≠c) (hd:6≤d∧d < 9) {ls:List Bool} (hl:ls.length=5):runB a b c d ls a b c d [0,1,2,3,4,5,6,7,8]=true:=by
 have k:cheB b c=true→runB a b c d ls a b c d [0,1,2,3,4,5,6,7,8]=true:=fun h=>by
  unfold cheB at h
  have h:=List.all_eq_true.mp h a (by simp; omega)
  have h:=List.all_eq_true.mp h d (by simp; omega)
  have h:=U0 5 [] _ h ls.reverse (by simpa using hl)
  simpa using h
 obtain ⟨h1,h2,h3,h4,h5,h6⟩:=Zjf
 have e:(b=3∧c=4)∨(b=3∧c=5)∨(b=4∧c=3)∨(b=4∧c=5)∨(b=5∧c=3)∨(b=5∧c=4):=by omega
 rcases e with ⟨rfl,rfl⟩ | ⟨rfl,rfl⟩ | ⟨rfl,rfl⟩ | ⟨rfl,rfl⟩ | ⟨rfl,rfl⟩ | ⟨rfl,rfl⟩
 ·exact k h1
 ·exact k h2
 ·exact k h3
 ·exact k h4
 ·exact k h5
 ·exact k h6
theorem Fa {a b c d:Nat}:∀ (ls:List Bool) (p q r t:Nat) (F:List Nat),runB a b c d ls p q r t F=true→fxO ls (p,q,r,t)=true∧endB (F.map (fxG ls (p,q,r,t))) a b c d (fxS ls (p,q,r,t)).1 (fxS ls (p,q,r,t)).2.1 (fxS ls (p,q,r,t)).2.2.1 (fxS ls (p,q,r,t)).2.2.2=true
 | [],p,q,r,t,F,h=>by
  unfold runB at h
  rw [Zb8] at h
  refine ⟨rfl,?_⟩
  have e:F.map (fxG [] (p,q,r,t))=F:=by
   show F.map (fun z=>z)=F
   simp
  rw [e]
  exact h
 | l :: ls,p,q,r,t,F,h=>by
  unfold runB at h
  rw [Ze1,Ze1,Zb8,Bool.and_eq_true,Qx,Qx] at h
  obtain ⟨h1,h2⟩:=Fa ls _ _ _ _ _ h.2
  refine ⟨?_,?_⟩
  ·show (!decide (p / 3=q / 3) && fxO ls (fxE l (p,q,r,t)))=true
   rw [Bool.and_eq_true]
   refine ⟨?_,h1⟩
   have:=h.1
   rw [beqD] at this
   exact this
  ·rw [List.map_map] at h2
   have e:(fxG ls (mvN l p q r,mvN l p q t,p,q) ∘ mvB l p q)=fxG (l :: ls) (p,q,r,t):=by
    funext z
    show fxG ls (mvN l p q r,mvN l p q t,p,q) (mvB l p q z)=fxG ls (fxE l (p,q,r,t)) (mvN l p q z)
    rw [Qx]
    rfl
   rw [e] at h2
   exact h2
theorem nine {a b c d:Nat} (ha:a < 3) (hb:3≤b∧b < 6) (hc:3≤c∧c < 6) (hbc:b≠c) (hd:6≤d∧d < 9) {ls:List Bool} (hl:ls.length=5) :
  fxO ls (a,b,c,d)=true∧∃ (P0 P1 P2 R0 R1 R2:Nat) (rho:Nat→Nat),R0 < 3∧R1 < 3∧R2 < 3∧P0≠P1∧P0≠P2∧P1≠P2 ∧
   (∀ y,y < 9→rho y=3 * (if y / 3=0 then P0 else if y / 3=1 then P1 else P2) + (y % 3 + (if y / 3=0 then R0 else if y / 3=1 then R1 else R2)) % 3) ∧
   (∀ y,y < 9→y≠a→y≠b→y≠c→y≠d→rho y=fxG ls (a,b,c,d) y) ∧
   ((rho a=(fxS ls (a,b,c,d)).1∧rho b=(fxS ls (a,b,c,d)).2.1)∨(rho a=(fxS ls (a,b,c,d)).2.1∧rho b=(fxS ls (a,b,c,d)).1)) ∧
   ((rho c=(fxS ls (a,b,c,d)).2.2.1∧rho d=(fxS ls (a,b,c,d)).2.2.2)∨(rho c=(fxS ls (a,b,c,d)).2.2.2∧rho d=(fxS ls (a,b,c,d)).2.2.1)):=by
 obtain ⟨h1,h2⟩:=Fa ls a b c d _ (Zmf ha hb hc hbc hd hl)
 refine ⟨h1,?_⟩
 generalize hF:[0,1,2,3,4,5,6,7,8].map (fxG ls (a,b,c,d))=F at h2
 unfold endB at h2
 simp only [Bool.and_eq_true,Bool.or_eq_true,beqD,decide_eq_true_eq,Bool.not_eq_true',decide_eq_false_iff_not] at h2
 obtain ⟨⟨⟨⟨⟨k1,k2⟩,k3⟩,k4⟩,k5⟩,k6⟩:=h2
 have hG:∀ y,y < 9→F.getD y 0=fxG ls (a,b,c,d) y:=fun y hy=>by
  rw [← hF]
  match y,hy with
  | 0,_=>rfl
  | 1,_=>rfl
  | 2,_=>rfl
  | 3,_=>rfl
  | 4,_=>rfl
  | 5,_=>rfl
  | 6,_=>rfl
  | 7,_=>rfl
  | 8,_=>rfl
  | n + 9,h=>omega
 have rv:∀ y,y < 9→rhoB F a b c d y=3 * (if y / 3=0 then F.getD (aB a) 0 / 3 else if y / 3=1 then F.getD (12 - b - c) 0 / 3 else F.getD (aB d) 0 / 3) + (y % 3 + (if y / 3=0 then (F.getD (aB a) 0 % 3 + 3 - aB a % 3) % 3 else if y / 3=1 then (F.getD (12 - b - c) 0 % 3 + 3 - (12 - b - c) % 3) % 3 else (F.getD (aB d) 0 % 3 + 3 - aB d % 3) % 3)) % 3:=fun y hy=>by
  unfold rhoB Zaa
  rw [beqD,beqD]
  by_cases z0:y / 3=0
  ·simp only [z0,decide_true,cond_true,if_true]
   omega
  ·by_cases z1:y / 3=1
   ·simp only [z1,decide_true,cond_true,if_true,decide_false,cond_false,if_false,Nat.one_ne_zero]
    omega
   ·simp only [z0,z1,decide_false,cond_false,if_false]
    omega
 have e0:rhoB F a b c d 0 / 3=F.getD (aB a) 0 / 3:=by rw [rv 0 (by decide),if_pos (by decide)]; omega
 have e3:rhoB F a b c d 3 / 3=F.getD (12 - b - c) 0 / 3:=by rw [rv 3 (by decide),if_neg (by decide),if_pos (by decide)]; omega
 have e6:rhoB F a b c d 6 / 3=F.getD (aB d) 0 / 3:=by rw [rv 6 (by decide),if_neg (by decide),if_neg (by decide)]; omega
 refine ⟨F.getD (aB a) 0 / 3,F.getD (12 - b - c) 0 / 3,F.getD (aB d) 0 / 3,(F.getD (aB a) 0 % 3 + 3 - aB a % 3) % 3,(F.getD (12 - b - c) 0 % 3 + 3 - (12 - b - c) % 3) % 3,(F.getD (aB d) 0 % 3 + 3 - aB d % 3) % 3,rhoB F a b c d,Nat.mod_lt _ (by decide),Nat.mod_lt _ (by decide),Nat.mod_lt _ (by decide),?_,?_,?_,rv,?_,k2,k3⟩
 ·exact fun z=>k4 (by rw [e0,e3]; exact z)
 ·exact fun z=>k5 (by rw [e0,e6]; exact z)
 ·exact fun z=>k6 (by rw [e3,e6]; exact z)
 ·intro y hy n1 n2 n3 n4
  have h:=List.all_eq_true.mp k1 y (List.mem_range.mpr hy)
  simp only [n1,n2,n3,n4,decide_false,Bool.or_false,cond_false,decide_eq_true_eq] at h
  rw [h,hG y hy]
end KT
set_option maxHeartbeats 4000000
namespace KT
open PySem L2
noncomputable def clz (A B D k:Nat):Nat:=if k=0 then A else if k=1 then B else D
noncomputable def pz (A B D z:Nat):Nat:=3 * clz A B D (z / 3) + z % 3
noncomputable def pzS (A B D:Nat) (s:Nat × Nat × Nat × Nat):Nat × Nat × Nat × Nat:=(pz A B D s.1,pz A B D s.2.1,pz A B D s.2.2.1,pz A B D s.2.2.2)
noncomputable def lt9 (s:Nat × Nat × Nat × Nat):Prop:=s.1 < 9∧s.2.1 < 9∧s.2.2.1 < 9∧s.2.2.2 < 9
section
variable {A B D:Nat}
theorem Qq (z:Nat):pz A B D z / 3=clz A B D (z / 3):=by unfold pz; omega
theorem Zbj (z:Nat):pz A B D z % 3=z % 3:=by unfold pz; omega
theorem X4 (h1:A≠B) (h2:A≠D) (h3:B≠D) {j k:Nat} (hj:j < 3) (hk:k < 3) (e:clz A B D j=clz A B D k):j=k:=by
 unfold clz at e
 split at e <;> split at e <;> (try split at e) <;> (try split at e) <;> omega
theorem Wp (k:Nat):clz A B D k=A∨clz A B D k=B∨clz A B D k=D:=by
 unfold clz
 split
 ·exact .inl rfl
 ·split
  ·exact .inr (.inl rfl)
  ·exact .inr (.inr rfl)
theorem Zmi (h1:A≠B) (h2:A≠D) (h3:B≠D) {y z:Nat} (hy:y < 9) (hz:z < 9) (e:pz A B D y=pz A B D z):y=z:=by
 have e1:=Qq (A:=A) (B:=B) (D:=D) y
 have e2:=Qq (A:=A) (B:=B) (D:=D) z
 have e3:=Zbj (A:=A) (B:=B) (D:=D) y
 have e4:=Zbj (A:=A) (B:=B) (D:=D) z
 have:=X4 h1 h2 h3 (j:=y / 3) (k:=z / 3) (by omega) (by omega) (by rw [← e1,← e2,e])
 rw [e] at e3
 omega
theorem Zmk (z:Nat):aftN (pz A B D z)=pz A B D (aftN z):=by
 unfold pz
 rw [V9]
 generalize clz A B D (z / 3)=c
 unfold aftN
 split <;> split <;> omega
theorem Zmj (z:Nat):befN (pz A B D z)=pz A B D (befN z):=by
 unfold pz
 rw [V8]
 generalize clz A B D (z / 3)=c
 unfold befN
 split <;> split <;> omega
theorem aft9 {z:Nat} (h:z < 9):aftN z < 9:=by have:=V9 z; omega
theorem bef9 {z:Nat} (h:z < 9):befN z < 9:=by have:=V8 z; omega
theorem Zeu (h1:A≠B) (h2:A≠D) (h3:B≠D) (l:Bool) {i j z:Nat} (hi:i < 9) (hj:j < 9) (hz:z < 9):mvN l (pz A B D i) (pz A B D j) (pz A B D z)=pz A B D (mvN l i j z):=by
 have e:∀ u v,u < 9→v < 9→decide (pz A B D u=pz A B D v)=decide (u=v):=fun u v hu hv=>by
  by_cases h:u=v
  ·subst h; simp
  ·rw [decide_eq_false h,decide_eq_false fun z=>h (Zmi h1 h2 h3 hu hv z)]
 rw [← Qx,← Qx]
 unfold mvB
 simp only [Ze8,Ze6,Zmk,Zmj,beqD]
 rw [e z _ hz (aft9 hi),e z _ hz (bef9 hj),e z _ hz (aft9 hj),e z _ hz (bef9 hi)]
 cases decide (z=aftN i) <;> cases decide (z=befN j) <;> cases decide (z=aftN j) <;> cases decide (z=befN i) <;> cases l <;> rfl
theorem mv9 (l:Bool) {i j z:Nat} (hi:i < 9) (hj:j < 9) (hz:z < 9):mvN l i j z < 9:=Wm (n:=3) hi hj l hz
theorem Zg1 (h1:A≠B) (h2:A≠D) (h3:B≠D) (l:Bool) {s:Nat × Nat × Nat × Nat} (h:lt9 s):fxE l (pzS A B D s)=pzS A B D (fxE l s)∧lt9 (fxE l s):=by
 obtain ⟨a,b,c,d⟩:=h
 refine ⟨?_,mv9 l a b c,mv9 l a b d,a,b⟩
 unfold fxE pzS
 rw [Zeu h1 h2 h3 l a b c,Zeu h1 h2 h3 l a b d]
theorem Zju (h1:A≠B) (h2:A≠D) (h3:B≠D):∀ (ls:List Bool) (s:Nat × Nat × Nat × Nat),lt9 s→fxO ls s=true→fxO ls (pzS A B D s)=true∧fxS ls (pzS A B D s)=pzS A B D (fxS ls s)∧lt9 (fxS ls s)∧∀ z,z < 9→fxG ls (pzS A B D s) (pz A B D z)=pz A B D (fxG ls s z)∧fxG ls s z < 9
 | [],s,h,_=>⟨rfl,rfl,h,fun z hz=>⟨rfl,hz⟩⟩
 | l :: ls,s,h,o=>by
  obtain ⟨e1,e2⟩:=Zg1 h1 h2 h3 l h
  unfold fxO at o
  rw [Bool.and_eq_true] at o
  obtain ⟨i1,i2,i3,i4⟩:=Zju h1 h2 h3 ls (fxE l s) e2 o.2
  refine ⟨?_,?_,i3,fun z hz=>?_⟩
  ·unfold fxO
   rw [e1,i1,Bool.and_true]
   have ne:¬ s.1 / 3=s.2.1 / 3:=by simpa using o.1
   rw [decide_eq_false fun z=>ne (X4 h1 h2 h3 (by have:=h.1; omega) (by have:=h.2.1; omega) (by rw [← Qq,← Qq]; exact z))]
   rfl
  ·unfold fxS
   rw [e1,i2]
  ·unfold fxG
   rw [e1]
   obtain ⟨a,b,c,d⟩:=h
   rw [show mvN l (pzS A B D s).1 (pzS A B D s).2.1 (pz A B D z)=pz A B D (mvN l s.1 s.2.1 z) from Zeu h1 h2 h3 l a b hz]
   exact i4 _ (mv9 l a b hz)
theorem Zg0 (h1:A≠B) (h2:A≠D) (h3:B≠D) {z:Nat} (za:z / 3≠A) (zb:z / 3≠B) (zd:z / 3≠D):∀ (ls:List Bool) (s:Nat × Nat × Nat × Nat),lt9 s→fxG ls (pzS A B D s) z=z
 | [],_,_=>rfl
 | l :: ls,s,h=>by
  obtain ⟨e1,e2⟩:=Zg1 h1 h2 h3 l h
  have no:∀ k,z / 3≠clz A B D k:=fun k e=>by
   rcases Wp (A:=A) (B:=B) (D:=D) k with y | y | y <;> rw [y] at e
   ·exact za e
   ·exact zb e
   ·exact zd e
  unfold fxG
  rw [e1,show mvN l (pzS A B D s).1 (pzS A B D s).2.1 z=z from Zbx (by show _≠pz A B D s.1 / 3; rw [Qq]; exact no _) (by show _≠pz A B D s.2.1 / 3; rw [Qq]; exact no _)]
  exact Zg0 h1 h2 h3 za zb zd ls _ e2
end
structure Pt (a b c d:Nat):Prop where
 bc:b / 3=c / 3
 ne:b≠c
 ab:a / 3≠b / 3
 db:d / 3≠b / 3
 ad:a / 3≠d / 3
noncomputable def rhoN (A B D:Nat) (P R:Nat→Nat) (z:Nat):Nat:=if z / 3=A∨z / 3=B∨z / 3=D then 3 * P (z / 3) + (z % 3 + R (z / 3)) % 3 else z
structure Ren (A B D:Nat) (P R:Nat→Nat):Prop where
 r:∀ t,R t < 3
 i:∀ t,(t=A∨t=B∨t=D)→(P t=A∨P t=B∨P t=D)
 ab:P A≠P B
 ad:P A≠P D
 bd:P B≠P D
theorem Zc4 {a b c d:Nat} (h:Pt a b c d) {ls:List Bool} (hl:ls.length=5):fxO ls (a,b,c,d)=true∧∃ (P R:Nat→Nat),Ren (a / 3) (b / 3) (d / 3) P R ∧
  (∀ z,z≠a→z≠b→z≠c→z≠d→rhoN (a / 3) (b / 3) (d / 3) P R z=fxG ls (a,b,c,d) z) ∧
  ((rhoN (a / 3) (b / 3) (d / 3) P R a=(fxS ls (a,b,c,d)).1∧rhoN (a / 3) (b / 3) (d / 3) P R b=(fxS ls (a,b,c,d)).2.1)∨(rhoN (a / 3) (b / 3) (d / 3) P R a=(fxS ls (a,b,c,d)).2.1∧rhoN (a / 3) (b / 3) (d / 3) P R b=(fxS ls (a,b,c,d)).1)) ∧
  ((rhoN (a / 3) (b / 3) (d / 3) P R c=(fxS ls (a,b,c,d)).2.2.1∧rhoN (a / 3) (b / 3) (d / 3) P R d=(fxS ls (a,b,c,d)).2.2.2)∨(rhoN (a / 3) (b / 3) (d / 3) P R c=(fxS ls (a,b,c,d)).2.2.2∧rhoN (a / 3) (b / 3) (d / 3) P R d=(fxS ls (a,b,c,d)).2.2.1)):=by
 obtain ⟨bc,ne,ab,db,ad⟩:=h
 generalize hA:a / 3=A at *
 generalize hB:b / 3=B at *
 generalize hD:d / 3=D at *
 have h1:A≠B:=ab
 have h2:A≠D:=ad
 have h3:B≠D:=fun z=>db z.symm
 have ea:a=pz A B D (a % 3):=by unfold pz clz; rw [if_pos (by omega)]; omega
 have eb:b=pz A B D (3 + b % 3):=by unfold pz clz; rw [if_neg (by omega),if_pos (by omega)]; omega
 have ec:c=pz A B D (3 + c % 3):=by unfold pz clz; rw [if_neg (by omega),if_pos (by omega)]; omega
 have ed:d=pz A B D (6 + d % 3):=by unfold pz clz; rw [if_neg (by omega),if_neg (by omega)]; omega
 have es:(a,b,c,d)=pzS A B D (a % 3,3 + b % 3,3 + c % 3,6 + d % 3):=by unfold pzS; rw [← ea,← eb,← ec,← ed]
 have l9:lt9 (a % 3,3 + b % 3,3 + c % 3,6 + d % 3):=⟨by show a % 3 < 9; omega,by show 3 + b % 3 < 9; omega,by show 3 + c % 3 < 9; omega,by show 6 + d % 3 < 9; omega⟩
 obtain ⟨o,P0,P1,P2,R0,R1,R2,rho,r0,r1,r2,p01,p02,p12,rv,ro,re,rf⟩:=nine (a:=a % 3) (b:=3 + b % 3) (c:=3 + c % 3) (d:=6 + d % 3) (by omega) (by omega) (by omega) (by omega) (by omega) hl
 obtain ⟨i1,i2,i3,i4⟩:=Zju h1 h2 h3 ls _ l9 o
 have hout:=fun (z:Nat) (za:z / 3≠A) (zb:z / 3≠B) (zd:z / 3≠D)=>Zg0 h1 h2 h3 za zb zd ls _ l9
 rw [← es] at i1 i2 i4 hout
 obtain ⟨s1,s2,s3,s4⟩:=i3
 have v0:=rv (a % 3) (by omega)
 rw [if_pos (by omega),if_pos (by omega)] at v0
 have v1:=rv (3 + b % 3) (by omega)
 rw [if_neg (by omega),if_pos (by omega),if_neg (by omega),if_pos (by omega)] at v1
 have v2:=rv (6 + d % 3) (by omega)
 rw [if_neg (by omega),if_neg (by omega),if_neg (by omega),if_neg (by omega)] at v2
 have q0:P0 < 3:=by rcases re with ⟨e,_⟩ | ⟨e,_⟩ <;> rw [e] at v0 <;> omega
 have q1:P1 < 3:=by rcases re with ⟨_,e⟩ | ⟨_,e⟩ <;> rw [e] at v1 <;> omega
 have q2:P2 < 3:=by rcases rf with ⟨_,e⟩ | ⟨_,e⟩ <;> rw [e] at v2 <;> omega
 refine ⟨i1,fun t=>if t=A then clz A B D P0 else if t=B then clz A B D P1 else clz A B D P2,fun t=>if t=A then R0 else if t=B then R1 else R2,?_,?_⟩
 ·refine ⟨fun t=>?_,fun t _=>?_,?_,?_,?_⟩
  ·show (if t=A then R0 else if t=B then R1 else R2) < 3
   split
   ·exact r0
   ·split
    ·exact r1
    ·exact r2
  ·show (if t=A then clz A B D P0 else if t=B then clz A B D P1 else clz A B D P2)=A∨(if t=A then clz A B D P0 else if t=B then clz A B D P1 else clz A B D P2)=B∨(if t=A then clz A B D P0 else if t=B then clz A B D P1 else clz A B D P2)=D
   split
   ·exact Wp _
   ·split
    ·exact Wp _
    ·exact Wp _
  ·show (if A=A then clz A B D P0 else if A=B then clz A B D P1 else clz A B D P2)≠(if B=A then clz A B D P0 else if B=B then clz A B D P1 else clz A B D P2)
   rw [if_pos rfl,if_neg h1.symm,if_pos rfl]
   exact fun z=>p01 (X4 h1 h2 h3 q0 q1 z)
  ·show (if A=A then clz A B D P0 else if A=B then clz A B D P1 else clz A B D P2)≠(if D=A then clz A B D P0 else if D=B then clz A B D P1 else clz A B D P2)
   rw [if_pos rfl,if_neg h2.symm,if_neg h3.symm]
   exact fun z=>p02 (X4 h1 h2 h3 q0 q2 z)
  ·show (if B=A then clz A B D P0 else if B=B then clz A B D P1 else clz A B D P2)≠(if D=A then clz A B D P0 else if D=B then clz A B D P1 else clz A B D P2)
   rw [if_neg h1.symm,if_pos rfl,if_neg h2.symm,if_neg h3.symm]
   exact fun z=>p12 (X4 h1 h2 h3 q1 q2 z)
 ·generalize hP:(fun t=>if t=A then clz A B D P0 else if t=B then clz A B D P1 else clz A B D P2)=P
  generalize hR:(fun t=>if t=A then R0 else if t=B then R1 else R2)=R
  have rz:∀ y,y < 9→rhoN A B D P R (pz A B D y)=pz A B D (rho y):=fun y hy=>by
   unfold rhoN
   rw [Qq,Zbj,if_pos (Wp _)]
   have e:=rv y hy
   have k:y / 3=0∨y / 3=1∨y / 3=2:=by omega
   rw [← hP,← hR]
   show 3 * (if clz A B D (y / 3)=A then clz A B D P0 else if clz A B D (y / 3)=B then clz A B D P1 else clz A B D P2) + (y % 3 + (if clz A B D (y / 3)=A then R0 else if clz A B D (y / 3)=B then R1 else R2)) % 3=pz A B D (rho y)
   unfold pz
   rcases k with k | k | k
   ·rw [if_pos k,if_pos k] at e
    rw [show clz A B D (y / 3)=A by rw [k]; rfl,if_pos rfl,if_pos rfl,show rho y / 3=P0 by omega]
    omega
   ·rw [if_neg (by omega),if_pos k,if_neg (by omega),if_pos k] at e
    rw [show clz A B D (y / 3)=B by rw [k]; rfl,if_neg h1.symm,if_pos rfl,if_neg h1.symm,if_pos rfl,show rho y / 3=P1 by omega]
    omega
   ·rw [if_neg (by omega),if_neg (by omega),if_neg (by omega),if_neg (by omega)] at e
    rw [show clz A B D (y / 3)=D by rw [k]; rfl,if_neg h2.symm,if_neg h3.symm,if_neg h2.symm,if_neg h3.symm,show rho y / 3=P2 by omega]
    omega
  refine ⟨fun z za zb zc zd=>?_,?_,?_⟩
  ·have k:∀ y,y < 9→z=pz A B D y→rhoN A B D P R z=fxG ls (a,b,c,d) z:=fun y hy e=>by
    have n1:y≠a % 3:=fun u=>za (by rw [e,u]; exact ea.symm)
    have n2:y≠3 + b % 3:=fun u=>zb (by rw [e,u]; exact eb.symm)
    have n3:y≠3 + c % 3:=fun u=>zc (by rw [e,u]; exact ec.symm)
    have n4:y≠6 + d % 3:=fun u=>zd (by rw [e,u]; exact ed.symm)
    rw [e,rz y hy,ro y hy n1 n2 n3 n4,(i4 y hy).1]
   by_cases c1:z / 3=A
   ·exact k (z % 3) (by omega) (by unfold pz clz; rw [if_pos (by omega)]; omega)
   ·by_cases c2:z / 3=B
    ·exact k (3 + z % 3) (by omega) (by unfold pz clz; rw [if_neg (by omega),if_pos (by omega)]; omega)
    ·by_cases c3:z / 3=D
     ·exact k (6 + z % 3) (by omega) (by unfold pz clz; rw [if_neg (by omega),if_neg (by omega)]; omega)
     ·rw [hout z c1 c2 c3]
      unfold rhoN
      rw [if_neg fun u=>?_]
      rcases u with u | u | u
      ·exact c1 u
      ·exact c2 u
      ·exact c3 u
  ·rw [i2]
   have xa:=rz (a % 3) (by omega)
   have xb:=rz (3 + b % 3) (by omega)
   rw [← ea] at xa
   rw [← eb] at xb
   rw [xa,xb]
   rcases re with ⟨e,f⟩ | ⟨e,f⟩
   ·exact .inl ⟨by rw [e]; rfl,by rw [f]; rfl⟩
   ·exact .inr ⟨by rw [e]; rfl,by rw [f]; rfl⟩
  ·rw [i2]
   have xc:=rz (3 + c % 3) (by omega)
   have xd:=rz (6 + d % 3) (by omega)
   rw [← ec] at xc
   rw [← ed] at xd
   rw [xc,xd]
   rcases rf with ⟨e,f⟩ | ⟨e,f⟩
   ·exact .inl ⟨by rw [e]; rfl,by rw [f]; rfl⟩
   ·exact .inr ⟨by rw [e]; rfl,by rw [f]; rfl⟩
end KT
set_option maxHeartbeats 4000000
namespace KT
open PySem L2
theorem Zbw {a b:Nat} (h:a / 3≠b / 3) (l:Bool) (z:Nat):mvN l a b z=mvN l b a z:=by
 rw [← Qx,← Qx]
 unfold mvB
 simp only [Ze8,Ze6,beqD]
 have d1:=V9 a
 have d2:=V9 b
 have d3:=V8 a
 have d4:=V8 b
 have n1:∀ c,aftN c≠befN c:=fun c=>by unfold aftN befN; split <;> split <;> omega
 by_cases c1:z=aftN a
 ·subst c1
  have:=n1 a
  have x1:aftN a≠aftN b:=by omega
  have x2:aftN a≠befN b:=by omega
  simp [x1,x2,this]
 ·by_cases c2:z=befN b
  ·subst c2
   have:=n1 b
   have x1:befN b≠aftN a:=by omega
   have x2:befN b≠befN a:=by omega
   simp [x1,x2,this.symm]
  ·by_cases c3:z=aftN b
   ·subst c3
    have:=n1 b
    have x1:aftN b≠aftN a:=by omega
    simp [x1,this]
   ·by_cases c4:z=befN a
    ·subst c4
     have:=n1 a
     have x1:befN a≠aftN b:=by omega
     have x2:befN a≠befN b:=by omega
     simp [x1,x2,this.symm]
    ·simp [c1,c2,c3,c4]
theorem Zln {a b:Nat} (h:a / 3≠b / 3) (l:Bool) (M:List (Option Nat)):exM l a b M=exM l b a M:=by
 have e:∀ l,mvN l a b=mvN l b a:=fun l=>funext fun z=>Zbw h l z
 unfold exM
 rw [e,e]
theorem Zlm {a b:Nat} (h:a / 3≠b / 3) (l:Bool) (ns:List Int):exN l a b ns=exN l b a ns:=by
 have e:∀ l,mvN l a b=mvN l b a:=fun l=>funext fun z=>Zbw h l z
 unfold exN
 rw [e]
noncomputable def runM:List Bool→Nat × Nat × Nat × Nat→List (Option Nat)→List (Option Nat)
 | [],_,M=>M
 | l :: r,s,M=>runM r (fxE l s) (exM l s.1 s.2.1 M)
noncomputable def runN:List Bool→Nat × Nat × Nat × Nat→List Int→List Int
 | [],_,ns=>ns
 | l :: r,s,ns=>runN r (fxE l s) (exN l s.1 s.2.1 ns)
noncomputable def runW:List Bool→Nat × Nat × Nat × Nat→List (Option Nat)→List Nat→List Nat
 | [],_,_,ws=>ws
 | l :: r,s,M,ws=>runW r (fxE l s) (exM l s.1 s.2.1 M) (pW M l (min s.1 s.2.1) (max s.1 s.2.1) ws)
noncomputable def alt:List Bool→Int→Int→List (Int × Bool)
 | [],_,_=>[]
 | l :: r,x,y=>(x,l) :: alt r y x
structure Two (M:List (Option Nat)) (ns:List Int) (s:Nat × Nat × Nat × Nat) (x y:Int):Prop where
 e:M[s.1]?=some (some s.2.1)
 f:M[s.2.2.1]?=some (some s.2.2.2)
 nx:ns[s.1]?=some x
 ny:ns[s.2.2.1]?=some y
section
variable {M:List (Option Nat)} {ns:List Int} {s:Nat × Nat × Nat × Nat} {x y:Int}
theorem Two.mv (h:Two M ns s x y) (td:TD M ns) (hc:s.1 / 3≠s.2.1 / 3):Mv M ns x (min s.1 s.2.1) (max s.1 s.2.1):=by
 obtain ⟨e,f,nx,ny⟩:=h
 obtain ⟨i,ne⟩:=td.inv _ _ e
 rcases Nat.lt_or_ge s.1 s.2.1 with k | k
 ·rw [Nat.min_eq_left (by omega),Nat.max_eq_right (by omega)]
  exact ⟨e,k,nx,hc⟩
 ·rw [Nat.min_eq_right k,Nat.max_eq_left k]
  exact ⟨i,by omega,by rw [td.eqm _ _ e]; exact nx,hc.symm⟩
theorem mm_M (hc:s.1 / 3≠s.2.1 / 3) (l:Bool) (M:List (Option Nat)):exM l (min s.1 s.2.1) (max s.1 s.2.1) M=exM l s.1 s.2.1 M:=by
 rcases Nat.lt_or_ge s.1 s.2.1 with k | k
 ·rw [Nat.min_eq_left (by omega),Nat.max_eq_right (by omega)]
 ·rw [Nat.min_eq_right k,Nat.max_eq_left k,Zln hc]
theorem mm_N (hc:s.1 / 3≠s.2.1 / 3) (l:Bool) (ns:List Int):exN l (min s.1 s.2.1) (max s.1 s.2.1) ns=exN l s.1 s.2.1 ns:=by
 rcases Nat.lt_or_ge s.1 s.2.1 with k | k
 ·rw [Nat.min_eq_left (by omega),Nat.max_eq_right (by omega)]
 ·rw [Nat.min_eq_right k,Nat.max_eq_left k,Zlm hc]
theorem Zny (hc:s.1 / 3≠s.2.1 / 3) (l:Bool) (z:Nat):mvN l (min s.1 s.2.1) (max s.1 s.2.1) z=mvN l s.1 s.2.1 z:=by
 rcases Nat.lt_or_ge s.1 s.2.1 with k | k
 ·rw [Nat.min_eq_left (by omega),Nat.max_eq_right (by omega)]
 ·rw [Nat.min_eq_right k,Nat.max_eq_left k,Zbw hc]
theorem Two.lts (h:Two M ns s x y) (td:TD M ns):s.1 < M.length∧s.2.1 < M.length:=⟨(List.getElem?_eq_some_iff.mp h.e).1,(List.getElem?_eq_some_iff.mp (td.inv _ _ h.e).1).1⟩
theorem Zg5 (td:TD M ns) (h:Two M ns s x y) (hc:s.1 / 3≠s.2.1 / 3) (l:Bool) {z:Nat} (hz:z < M.length):(exN l s.1 s.2.1 ns)[mvN l s.1 s.2.1 z]?=ns[z]?:=by
 obtain ⟨h1,h2⟩:=h.lts td
 obtain ⟨n,_,_,hn⟩:=td.n
 have lt:mvN l s.1 s.2.1 z < M.length:=by rw [hn]; exact Wm (by omega) (by omega) l (by omega)
 rw [Jy td h1 h2 hc l lt,Xj hc]
theorem Two.ex (h:Two M ns s x y) (td:TD M ns) (hc:s.1 / 3≠s.2.1 / 3) (l:Bool):Two (exM l s.1 s.2.1 M) (exN l s.1 s.2.1 ns) (fxE l s) y x:=by
 obtain ⟨h1,h2⟩:=h.lts td
 obtain ⟨e1,e2⟩:=Zm8 td h1 h2 hc l h.e
 exact ⟨Ux td h1 h2 hc h.f,e1,(Zg5 td h hc l (List.getElem?_eq_some_iff.mp h.f).1).trans h.ny,e2.trans h.nx⟩
theorem Two.td (h:Two M ns s x y) (td:TD M ns) (hc:s.1 / 3≠s.2.1 / 3) (l:Bool):TD (exM l s.1 s.2.1 M) (exN l s.1 s.2.1 ns):=td.ex (h.lts td).1 (h.lts td).2 hc l
theorem ox {l:Bool} {ls:List Bool} (o:fxO (l :: ls) s=true):s.1 / 3≠s.2.1 / 3∧fxO ls (fxE l s)=true:=by
 unfold fxO at o
 rw [Bool.and_eq_true] at o
 exact ⟨by simpa using o.1,o.2⟩
noncomputable def kpS (s:Nat × Nat × Nat × Nat) (z:Nat):Bool:=Zw s.1 s.2.1 z && Zw s.2.2.1 s.2.2.2 z
theorem Zne {a b:Nat} (h:a / 3≠b / 3) (e f:Nat):(Wc a b e f).length≤1:=by
 unfold Wc
 split
 ·simp
 ·by_cases c1:a / 3=e / 3
  ·have c2:¬ b / 3=e / 3:=by omega
   simp [List.filter_cons,c1,c2]
  ·by_cases c2:b / 3=e / 3
   ·simp [List.filter_cons,c1,c2]
   ·simp [List.filter_cons,c1,c2]
theorem Zjn {a b:Nat} (h:a / 3≠b / 3) (l:Bool):∀ ps:List (Nat × Nat),(Yb M l a b ps).length≤2 * ps.length
 | []=>Nat.le_refl _
 | q :: r=>by
  have e:Yb M l a b (q :: r)=Xm M l a b q.1 q.2 ++ Yb M l a b r:=rfl
  have ih:=Zjn h l r
  have:=Zne h (mvN l a b (mtN M q.1)) (mvN l a b q.2)
  rw [e,List.length_append,List.length_cons]
  unfold Xm
  rw [List.length_cons]
  omega
theorem pW2 {a b:Nat} (h:a / 3≠b / 3) (l:Bool) (ws:List Nat):(pW M l a b ws).length≤2 * ws.length:=by
 have h1:=Zjn (M:=M) h l (Yn (Yi a b ws))
 rw [Uq] at h1
 have h2:(Yi a b ws).length≤ws.length:=List.length_filter_le _ _
 show (Yb M l a b (Yn (Yi a b ws))).length≤_
 omega
theorem Zdv (z:Nat):Zw (min s.1 s.2.1) (max s.1 s.2.1) z=Zw s.1 s.2.1 z:=by
 rcases Nat.lt_or_ge s.1 s.2.1 with k | k
 ·rw [Nat.min_eq_left (by omega),Nat.max_eq_right (by omega)]
 ·rw [Nat.min_eq_right k,Nat.max_eq_left k]
  unfold Zw
  rw [Bool.and_comm]
theorem Zla (hc:s.1 / 3≠s.2.1 / 3) (l:Bool) (ws:List Nat):(pW M l (min s.1 s.2.1) (max s.1 s.2.1) ws).filter (kpS (fxE l s))=(ws.filter (kpS s)).map (mvN l s.1 s.2.1):=by
 have hm:min s.1 s.2.1 / 3≠max s.1 s.2.1 / 3:=by
  rcases Nat.lt_or_ge s.1 s.2.1 with k | k
  ·rw [Nat.min_eq_left (by omega),Nat.max_eq_right (by omega)]; exact hc
  ·rw [Nat.min_eq_right k,Nat.max_eq_left k]; exact hc.symm
 have k1:=Zlb (M:=M) (l1:=l) hm ws
 have e1:∀ X:List Nat,X.filter (kpS (fxE l s))=(Yi (min s.1 s.2.1) (max s.1 s.2.1) X).filter (Zw (mvN l s.1 s.2.1 s.2.2.1) (mvN l s.1 s.2.1 s.2.2.2)):=fun X=>by
  unfold Yi
  rw [List.filter_filter]
  congr 1
  funext z
  rw [Zdv]
  rfl
 have e2:ws.filter (kpS s)=(Yi (min s.1 s.2.1) (max s.1 s.2.1) ws).filter (Zw s.2.2.1 s.2.2.2):=by
  unfold Yi
  rw [List.filter_filter]
  congr 1
  funext z
  rw [Zdv]
  unfold kpS
  rw [Bool.and_comm]
 rw [e1,k1,e2,List.filter_map]
 have e3:(mvN l (min s.1 s.2.1) (max s.1 s.2.1))=mvN l s.1 s.2.1:=funext fun z=>Zny hc l z
 rw [e3]
 congr 2
 funext z
 show Zw (mvN l s.1 s.2.1 s.2.2.1) (mvN l s.1 s.2.1 s.2.2.2) (mvN l s.1 s.2.1 z)=Zw s.2.2.1 s.2.2.2 z
 unfold Zw
 have d:∀ u,decide (mvN l s.1 s.2.1 z=mvN l s.1 s.2.1 u)=decide (z=u):=fun u=>by
  by_cases h:z=u
  ·subst h; simp
  ·rw [decide_eq_false h,decide_eq_false fun e=>h (Vm hc l e)]
 rw [d,d]
end
theorem U2:∀ (ls:List Bool) (s:Nat × Nat × Nat × Nat) (M:List (Option Nat)) (ns:List Int) (x y:Int),TD M ns→Two M ns s x y→fxO ls s=true →
  TD (runM ls s M) (runN ls s ns)∧(runM ls s M).length=M.length∧Row M ns (alt ls x y) (runM ls s M) (runN ls s ns)∧(∀ z,z < M.length→(runN ls s ns)[fxG ls s z]?=ns[z]?∧∀ m,M[z]?=some (some m)→(runM ls s M)[fxG ls s z]?=some (some (fxG ls s m))) ∧
  (∀ ws,Pl M ws→ws.length * 2 ^ ls.length≤2000→RowW M ns ws (alt ls x y) (runM ls s M) (runN ls s ns) (runW ls s M ws)∧Pl (runM ls s M) (runW ls s M ws)∧(runW ls s M ws).filter (kpS (fxS ls s))=(ws.filter (kpS s)).map (fxG ls s))
 | [],s,M,ns,x,y,td,_,_=>⟨td,rfl,.nil,fun z _=>⟨rfl,fun m hm=>hm⟩,fun ws hP _=>⟨.nil,hP,by show ws.filter (kpS s)=(ws.filter (kpS s)).map (fun z=>z); simp⟩⟩
 | l :: ls,s,M,ns,x,y,td,h,o=>by
  obtain ⟨hc,o⟩:=ox o
  obtain ⟨i1,i2,i3,i4,i5⟩:=U2 ls (fxE l s) _ _ y x (h.td td hc l) (h.ex td hc l) o
  have mv:=h.mv td hc
  obtain ⟨h1,h2⟩:=h.lts td
  rw [Ql] at i2
  have lt:∀ z,z < M.length→mvN l s.1 s.2.1 z < M.length:=fun z hz=>by
   obtain ⟨n,_,_,hn⟩:=td.n
   rw [hn]; exact Wm (by omega) (by omega) l (by omega)
  refine ⟨i1,i2,?_,fun z hz=>?_,fun ws hP hl=>?_⟩
  ·refine .cons td mv ?_
   rw [mm_M hc,mm_N hc]
   exact i3
  ·obtain ⟨k1,k2⟩:=i4 (mvN l s.1 s.2.1 z) (by rw [Ql]; exact lt z hz)
   exact ⟨k1.trans (Zg5 td h hc l hz),fun m hm=>k2 _ (Ux td h1 h2 hc hm)⟩
  ·have hp:2 ^ (l :: ls).length=2 ^ ls.length * 2:=by rw [List.length_cons,Nat.pow_succ]
   have p0:1≤2 ^ ls.length:=Nat.one_le_two_pow
   rw [hp] at hl
   have hl1:ws.length≤1000:=by
    have:ws.length * 2 * 1≤ws.length * 2 * 2 ^ ls.length:=Nat.mul_le_mul_left _ p0
    have e:ws.length * 2 * 2 ^ ls.length=ws.length * (2 ^ ls.length * 2):=by rw [Nat.mul_assoc,Nat.mul_comm 2]
    rw [e] at this
    omega
   have hP':Pl (exM l s.1 s.2.1 M) (pW M l (min s.1 s.2.1) (max s.1 s.2.1) ws):=by
    have:=hP.pull (left:=l) td mv.hM mv.ab
    rw [mm_M hc] at this
    exact this
   have hl2:(pW M l (min s.1 s.2.1) (max s.1 s.2.1) ws).length * 2 ^ ls.length≤2000:=by
    have:=Nat.mul_le_mul_right (2 ^ ls.length) (pW2 (M:=M) mv.ab l ws)
    have e:2 * ws.length * 2 ^ ls.length=ws.length * (2 ^ ls.length * 2):=by rw [Nat.mul_comm 2,Nat.mul_assoc,Nat.mul_comm 2]
    rw [e] at this
    omega
   obtain ⟨k1,k2,k3⟩:=i5 _ hP' hl2
   refine ⟨?_,k2,?_⟩
   ·refine .cons td mv hP hl1 ?_
    rw [mm_M hc,mm_N hc]
    exact k1
   ·show (runW ls (fxE l s) _ _).filter (kpS (fxS ls (fxE l s)))=_
    rw [k3,Zla hc,List.map_map]
    rfl
end KT
set_option maxHeartbeats 4000000
namespace KT
open PySem L2
structure Kq (M:List (Option Nat)) (a b c d:Nat):Prop where
 ab:M[a]?=some (some b)
 ba:M[b]?=some (some a)
 cd:M[c]?=some (some d)
 dc:M[d]?=some (some c)
 pt:Pt a b c d
section
variable {M:List (Option Nat)} {a b c d:Nat}
theorem K3 {z:Nat} (h:kpS (a,b,c,d) z=false):z=a∨z=b∨z=c∨z=d:=by
 unfold kpS Zw at h
 simp at h
 by_cases h1:z=a
 ·exact .inl h1
 ·by_cases h2:z=b
  ·exact .inr (.inl h2)
  ·by_cases h3:z=c
   ·exact .inr (.inr (.inl h3))
   ·exact .inr (.inr (.inr (h h1 h2 h3)))
theorem U8 {z:Nat} (h1:z≠a) (h2:z≠b) (h3:z≠c) (h4:z≠d):kpS (a,b,c,d) z=true:=by
 unfold kpS Zw
 simp [h1,h2,h3,h4]
theorem Kq.nb (K:Kq M a b c d) {g:Nat} (h:Nx M b g):kpS (a,b,c,d) g=true∧g / 3=a / 3:=by
 obtain ⟨m,hm,g1,g2⟩:=h
 rw [K.ba] at hm
 cases hm
 obtain ⟨bc,ne,ab,db,ad⟩:=K.pt
 refine ⟨U8 g2 (fun z=>?_) (fun z=>?_) (fun z=>?_),g1⟩ <;> subst z <;> omega
theorem Kq.nc (K:Kq M a b c d) {g:Nat} (h:Nx M c g):kpS (a,b,c,d) g=true∧g / 3=d / 3:=by
 obtain ⟨m,hm,g1,g2⟩:=h
 rw [K.cd] at hm
 cases hm
 obtain ⟨bc,ne,ab,db,ad⟩:=K.pt
 refine ⟨U8 (fun z=>?_) (fun z=>?_) (fun z=>?_) g2,g1⟩ <;> subst z <;> omega
theorem Kq.na (K:Kq M a b c d) {g:Nat} (h:Nx M a g):(kpS (a,b,c,d) g=true∨g=c)∧g / 3=b / 3:=by
 obtain ⟨m,hm,g1,g2⟩:=h
 rw [K.ab] at hm
 cases hm
 obtain ⟨bc,ne,ab,db,ad⟩:=K.pt
 refine ⟨?_,g1⟩
 by_cases e:g=c
 ·exact .inr e
 ·refine .inl (U8 (fun z=>?_) g2 e (fun z=>?_)) <;> subst z <;> omega
theorem Kq.nd (K:Kq M a b c d) {g:Nat} (h:Nx M d g):(kpS (a,b,c,d) g=true∨g=b)∧g / 3=b / 3:=by
 obtain ⟨m,hm,g1,g2⟩:=h
 rw [K.dc] at hm
 cases hm
 obtain ⟨bc,ne,ab,db,ad⟩:=K.pt
 refine ⟨?_,by omega⟩
 by_cases e:g=b
 ·exact .inr e
 ·refine .inl (U8 (fun z=>?_) e g2 (fun z=>?_)) <;> subst z <;> omega
theorem Qg {R:Nat→Nat→Prop} {q z:Nat} (r:List Nat) (h:CH R (q :: r ++ [z])):∃ g r',r ++ [z]=g :: r'∧R q g∧((r=[]∧g=z)∨∃ r2,r=g :: r2∧CH R (g :: r2 ++ [z])):=by
 cases r with
 | nil=>exact ⟨z,[],rfl,h 0 q z rfl rfl,.inl ⟨rfl,rfl⟩⟩
 | cons g r=>exact ⟨g,r ++ [z],rfl,h 0 q g rfl rfl,.inr ⟨r,rfl,h.tail⟩⟩
noncomputable def Fk (kp:Nat→Bool) (l:List Nat) (f:Nat):Prop:=∃ t,l.filter kp=f :: t
theorem Kq.fb (K:Kq M a b c d) {r:List Nat} {z:Nat} (h:CH (Nx M) (b :: r ++ [z])):∃ f,Fk (kpS (a,b,c,d)) (r ++ [z]) f∧f / 3=a / 3:=by
 obtain ⟨g,r',e,n,_⟩:=Qg r h
 obtain ⟨k1,k2⟩:=K.nb n
 exact ⟨g,⟨_,by rw [e,List.filter_cons_of_pos k1]⟩,k2⟩
theorem Kq.fc (K:Kq M a b c d) {r:List Nat} {z:Nat} (h:CH (Nx M) (c :: r ++ [z])):∃ f,Fk (kpS (a,b,c,d)) (r ++ [z]) f∧f / 3=d / 3:=by
 obtain ⟨g,r',e,n,_⟩:=Qg r h
 obtain ⟨k1,k2⟩:=K.nc n
 exact ⟨g,⟨_,by rw [e,List.filter_cons_of_pos k1]⟩,k2⟩
theorem no_c {z:Nat} (hz:kpS (a,b,c,d) z=true):z≠a∧z≠b∧z≠c∧z≠d:=by
 unfold kpS Zw at hz
 simp at hz
 exact ⟨hz.1.1,hz.1.2,hz.2.1,hz.2.2⟩
theorem Kq.fk (K:Kq M a b c d) {q z:Nat} {r:List Nat} (hz:kpS (a,b,c,d) z=true) (hq:kpS (a,b,c,d) q=false) (h:CH (Nx M) (q :: r ++ [z])):∃ f,Fk (kpS (a,b,c,d)) (r ++ [z]) f∧f / 3≠q / 3∧(q=b→f / 3=a / 3)∧(q=c→f / 3=d / 3):=by
 obtain ⟨bc,ne,ab,db,ad⟩:=K.pt
 have nk:∀ q,kpS (a,b,c,d) q=false→¬ kpS (a,b,c,d) q=true:=fun q h=>by rw [h]; decide
 have kc:kpS (a,b,c,d) c=false:=by unfold kpS Zw; simp
 have kb:kpS (a,b,c,d) b=false:=by unfold kpS Zw; simp
 rcases K3 hq with e | e | e | e
 ·subst e
  obtain ⟨g,r',e,n,o⟩:=Qg r h
  obtain ⟨k1,k2⟩:=K.na n
  rcases k1 with k1 | k1
  ·exact ⟨g,⟨_,by rw [e,List.filter_cons_of_pos k1]⟩,by omega,fun z=>by subst z; omega,fun z=>by subst z; omega⟩
  ·subst k1
   rcases o with ⟨_,y⟩ | ⟨r2,y,C⟩
   ·exact absurd y.symm (no_c hz).2.2.1
   ·obtain ⟨f,⟨t,ht⟩,f2⟩:=K.fc C
    refine ⟨f,⟨t,?_⟩,by omega,fun z=>by subst z; omega,fun z=>by subst z; omega⟩
    rw [y,List.cons_append,List.filter_cons_of_neg (nk _ kc)]
    exact ht
 ·subst e
  obtain ⟨f,F,f2⟩:=K.fb h
  exact ⟨f,F,by omega,fun _=>f2,fun z=>absurd z ne⟩
 ·subst e
  obtain ⟨f,F,f2⟩:=K.fc h
  exact ⟨f,F,by omega,fun z=>absurd z.symm ne,fun _=>f2⟩
 ·subst e
  obtain ⟨g,r',e,n,o⟩:=Qg r h
  obtain ⟨k1,k2⟩:=K.nd n
  rcases k1 with k1 | k1
  ·exact ⟨g,⟨_,by rw [e,List.filter_cons_of_pos k1]⟩,by omega,fun z=>by subst z; omega,fun z=>by subst z; omega⟩
  ·subst k1
   rcases o with ⟨_,y⟩ | ⟨r2,y,C⟩
   ·exact absurd y.symm (no_c hz).2.1
   ·obtain ⟨f,⟨t,ht⟩,f2⟩:=K.fb C
    refine ⟨f,⟨t,?_⟩,by omega,fun z=>by subst z; omega,fun z=>by subst z; omega⟩
    rw [y,List.cons_append,List.filter_cons_of_neg (nk _ kb)]
    exact ht
theorem Kq.uniq (K:Kq M a b c d):∀ (l l':List Nat) (h z:Nat),kpS (a,b,c,d) z=true→CH (Nx M) (h :: l ++ [z])→CH (Nx M) (h :: l' ++ [z])→l.filter (kpS (a,b,c,d))=l'.filter (kpS (a,b,c,d))→l=l'
 | [],[],_,_,_,_,_,_=>rfl
 | [],p :: r,h,z,hz,hc,hc',e=>by
  exfalso
  obtain ⟨m,hm,m1,_⟩:=hc 0 h z rfl rfl
  obtain ⟨m',hm',p1,_⟩:=hc' 0 h p rfl rfl
  rw [hm] at hm'; cases hm'
  cases hp:kpS (a,b,c,d) p with
  | true=>rw [List.filter_cons_of_pos hp] at e; cases e
  | false =>
   obtain ⟨f,⟨t,ht⟩,f1,_⟩:=K.fk hz hp hc'.tail
   rw [List.filter_cons_of_neg (by rw [hp]; decide)] at e
   rw [List.filter_append,← e,List.filter_cons_of_pos hz] at ht
   injection ht with ht _
   subst ht
   omega
 | p :: r,[],h,z,hz,hc,hc',e=>by
  exfalso
  obtain ⟨m,hm,m1,_⟩:=hc' 0 h z rfl rfl
  obtain ⟨m',hm',p1,_⟩:=hc 0 h p rfl rfl
  rw [hm] at hm'; cases hm'
  cases hp:kpS (a,b,c,d) p with
  | true=>rw [List.filter_cons_of_pos hp] at e; cases e
  | false =>
   obtain ⟨f,⟨t,ht⟩,f1,_⟩:=K.fk hz hp hc.tail
   rw [List.filter_cons_of_neg (by rw [hp]; decide)] at e
   rw [List.filter_append,e,List.filter_nil,List.filter_cons_of_pos hz] at ht
   injection ht with ht _
   subst ht
   omega
 | p :: r,p' :: r',h,z,hz,hc,hc',e=>by
  obtain ⟨m,hm,p1,_⟩:=hc 0 h p rfl rfl
  obtain ⟨m',hm',p1',_⟩:=hc' 0 h p' rfl rfl
  rw [hm] at hm'; cases hm'
  cases hp:kpS (a,b,c,d) p with
  | true =>
   cases hp':kpS (a,b,c,d) p' with
   | true =>
    rw [List.filter_cons_of_pos hp,List.filter_cons_of_pos hp'] at e
    injection e with e1 e2
    subst e1
    rw [K.uniq r r' p z hz hc.tail hc'.tail e2]
   | false =>
    exfalso
    obtain ⟨f,⟨t,ht⟩,f1,_⟩:=K.fk hz hp' hc'.tail
    rw [List.filter_cons_of_pos hp,List.filter_cons_of_neg (by rw [hp']; decide)] at e
    rw [List.filter_append,← e,List.cons_append] at ht
    injection ht with ht _
    subst ht
    omega
  | false =>
   cases hp':kpS (a,b,c,d) p' with
   | true =>
    exfalso
    obtain ⟨f,⟨t,ht⟩,f1,_⟩:=K.fk hz hp hc.tail
    rw [List.filter_cons_of_neg (by rw [hp]; decide),List.filter_cons_of_pos hp'] at e
    rw [List.filter_append,e,List.cons_append] at ht
    injection ht with ht _
    subst ht
    omega
   | false =>
    rw [List.filter_cons_of_neg (by rw [hp]; decide),List.filter_cons_of_neg (by rw [hp']; decide)] at e
    obtain ⟨f,⟨t,ht⟩,f1,f2,f3⟩:=K.fk hz hp hc.tail
    obtain ⟨f',⟨t',ht'⟩,f1',f2',f3'⟩:=K.fk hz hp' hc'.tail
    rw [List.filter_append,e,← List.filter_append,ht'] at ht
    injection ht with ht _
    subst ht
    obtain ⟨bc,ne,ab,db,ad⟩:=K.pt
    have:p=p':=by
     rcases K3 hp with u | u | u | u <;> rcases K3 hp' with u' | u' | u' | u'
     all_goals first
      | exact u.trans u'.symm
      | (exfalso; subst u; subst u'; omega)
      | (exfalso; have:=f2 u; have:=f3' u'; omega)
      | (exfalso; have:=f3 u; have:=f2' u'; omega)
    subst this
    rw [K.uniq r r' p z hz hc.tail hc'.tail e]
theorem Kq.ne (K:Kq M a b c d) {X:List Nat} (hX:Pl M X):X.filter (kpS (a,b,c,d))≠[]:=by
 intro z
 have all:∀ q∈X,kpS (a,b,c,d) q=false:=fun q hq=>by
  have:=List.filter_eq_nil_iff.mp z q hq
  simpa using this
 have nx:∀ q∈X,∃ g∈X,Nx M q g:=fun q hq=>by
  obtain ⟨k,hk,rfl⟩:=List.mem_iff_getElem.mp hq
  obtain ⟨m,hm⟩:=hX.has _ hq
  have hp:(k + 1) % X.length < X.length:=Nat.mod_lt _ (by omega)
  obtain ⟨h1,h2⟩:=hX.nxt k _ _ (List.getElem?_eq_getElem hk) (List.getElem?_eq_getElem hp) m hm
  exact ⟨_,List.getElem_mem hp,m,hm,h1,h2⟩
 have nb:b ∉ X:=fun hb=>by
  obtain ⟨g,hg,n⟩:=nx b hb
  have:=(K.nb n).1
  rw [all g hg] at this; cases this
 have nc:c ∉ X:=fun hb=>by
  obtain ⟨g,hg,n⟩:=nx c hb
  have:=(K.nc n).1
  rw [all g hg] at this; cases this
 cases X with
 | nil=>exact hX.ne rfl
 | cons q r =>
  obtain ⟨g,hg,n⟩:=nx q List.mem_cons_self
  have hk:=all g hg
  rcases K3 (all q List.mem_cons_self) with e | e | e | e
  ·subst e
   rcases (K.na n).1 with u | u
   ·rw [hk] at u; cases u
   ·exact nc (u ▸ hg)
  ·exact nb (e ▸ List.mem_cons_self)
  ·exact nc (e ▸ List.mem_cons_self)
  ·subst e
   rcases (K.nd n).1 with u | u
   ·rw [hk] at u; cases u
   ·exact nb (u ▸ hg)
theorem Kq.tn (K:Kq M a b c d) {X Y:List Nat} (hX:Pl M X) (hY:Pl M Y) (e:X.filter (kpS (a,b,c,d))=Y.filter (kpS (a,b,c,d))):Tn X Y:=by
 cases hk:X.filter (kpS (a,b,c,d)) with
 | nil=>exact absurd hk (K.ne hX)
 | cons h t =>
  obtain ⟨p1,l1,a1,a2,a3,a4⟩:=Vc hk
  obtain ⟨p2,l2,b1,b2,b3,_⟩:=Vc (e.symm.trans hk)
  have tX:Tn X (h :: (l1 ++ p1)):=⟨p1,h :: l1,a1,by simp⟩
  have tY:Tn Y (h :: (l2 ++ p2)):=⟨p2,h :: l2,b1,by simp⟩
  have:=K.uniq (l1 ++ p1) (l2 ++ p2) h h a4 (hX.tn tX).toChain (hY.tn tY).toChain (by rw [List.filter_append,List.filter_append,a2,a3,b2,b3])
  rw [this] at tX
  exact tX.trans tY.symm
end
end KT
set_option maxHeartbeats 4000000
namespace KT
open PySem L2
noncomputable def ords:List (Nat × Nat × Nat):=[(0,1,2),(0,2,1),(1,0,2),(1,2,0),(2,0,1),(2,1,0)]
noncomputable def lyc (t0 t1 t2:Nat) (o:Nat × Nat × Nat) (q:Nat):Nat:=if q=t0 then clz t0 t1 t2 o.1 else if q=t1 then clz t0 t1 t2 o.2.1 else if q=t2 then clz t0 t1 t2 o.2.2 else q
noncomputable def lyt (t0 t1 t2:Nat) (u q:Nat):Nat:=if q=t0 then u else if q=t1 then u / 3 else if q=t2 then u / 9 else 0
noncomputable def lyN (t0 t1 t2:Nat) (o:Nat × Nat × Nat) (u z:Nat):Nat:=3 * lyc t0 t1 t2 o (z / 3) + (z % 3 + lyt t0 t1 t2 u (z / 3)) % 3
noncomputable def swpI (x y n:Int):Int:=if n=x then y else if n=y then x else n
noncomputable def Gd (N:Nat) (ns ns':List Int) (x y:Int) (f:Nat→Nat):Prop:=∀ p,p < N→ns'[f p]?=(ns[p]?).map (swpI x y)
section
variable {t0 t1 t2:Nat} {o:Nat × Nat × Nat} {u:Nat}
theorem Wt (z:Nat):lyN t0 t1 t2 o u z / 3=lyc t0 t1 t2 o (z / 3):=by unfold lyN; omega
theorem Zdr (z:Nat):lyN t0 t1 t2 o u z % 3=(z % 3 + lyt t0 t1 t2 u (z / 3)) % 3:=by unfold lyN; omega
theorem Zk5 {q:Nat} (h0:q≠t0) (h1:q≠t1) (h2:q≠t2):lyc t0 t1 t2 o q=q∧lyt t0 t1 t2 u q=0:=by
 unfold lyc lyt
 rw [if_neg h0,if_neg h1,if_neg h2,if_neg h0,if_neg h1,if_neg h2]
 exact ⟨rfl,rfl⟩
theorem Zdq {z:Nat} (h0:z / 3≠t0) (h1:z / 3≠t1) (h2:z / 3≠t2):lyN t0 t1 t2 o u z=z:=by
 obtain ⟨e1,e2⟩:=Zk5 (o:=o) (u:=u) h0 h1 h2
 unfold lyN
 rw [e1,e2]
 omega
theorem Fm (q:Nat):(q=t0∧lyc t0 t1 t2 o q=clz t0 t1 t2 o.1)∨(q=t1∧q≠t0∧lyc t0 t1 t2 o q=clz t0 t1 t2 o.2.1)∨(q=t2∧q≠t0∧q≠t1∧lyc t0 t1 t2 o q=clz t0 t1 t2 o.2.2)∨(q≠t0∧q≠t1∧q≠t2∧lyc t0 t1 t2 o q=q):=by
 unfold lyc
 by_cases q0:q=t0
 ·exact .inl ⟨q0,if_pos q0⟩
 ·by_cases q1:q=t1
  ·exact .inr (.inl ⟨q1,q0,by rw [if_neg q0,if_pos q1]⟩)
  ·by_cases q2:q=t2
   ·exact .inr (.inr (.inl ⟨q2,q0,q1,by rw [if_neg q0,if_neg q1,if_pos q2]⟩))
   ·exact .inr (.inr (.inr ⟨q0,q1,q2,by rw [if_neg q0,if_neg q1,if_neg q2]⟩))
theorem U5 (ho:o∈ords):o.1 < 3∧o.2.1 < 3∧o.2.2 < 3∧o.1≠o.2.1∧o.1≠o.2.2∧o.2.1≠o.2.2:=by
 have h:∀ o∈ords,o.1 < 3∧o.2.1 < 3∧o.2.2 < 3∧o.1≠o.2.1∧o.1≠o.2.2∧o.2.1≠o.2.2:=by decide +kernel
 exact h o ho
theorem Qn {q k:Nat} (h0:q≠t0) (h1:q≠t1) (h2:q≠t2) (e:clz t0 t1 t2 k=q):False:=by
 rcases Wp (A:=t0) (B:=t1) (D:=t2) k with z | z | z
 ·exact h0 (e.symm.trans z)
 ·exact h1 (e.symm.trans z)
 ·exact h2 (e.symm.trans z)
theorem Zdp (h01:t0≠t1) (h02:t0≠t2) (h12:t1≠t2) (ho:o∈ords) {p q:Nat} (e:lyc t0 t1 t2 o p=lyc t0 t1 t2 o q):p=q:=by
 obtain ⟨l0,l1,l2,n1,n2,n3⟩:=U5 ho
 rcases Fm (t0:=t0) (t1:=t1) (t2:=t2) (o:=o) p with ⟨p0,pe⟩ | ⟨p0,p1,pe⟩ | ⟨p0,p1,p2,pe⟩ | ⟨p0,p1,p2,pe⟩ <;> rcases Fm (t0:=t0) (t1:=t1) (t2:=t2) (o:=o) q with ⟨q0,qe⟩ | ⟨q0,q1,qe⟩ | ⟨q0,q1,q2,qe⟩ | ⟨q0,q1,q2,qe⟩ <;> rw [pe,qe] at e
 ·exact p0.trans q0.symm
 ·exact absurd (X4 h01 h02 h12 l0 l1 e) n1
 ·exact absurd (X4 h01 h02 h12 l0 l2 e) n2
 ·exact (Qn q0 q1 q2 e).elim
 ·exact absurd (X4 h01 h02 h12 l0 l1 e.symm) n1
 ·exact p0.trans q0.symm
 ·exact absurd (X4 h01 h02 h12 l1 l2 e) n3
 ·exact (Qn q0 q1 q2 e).elim
 ·exact absurd (X4 h01 h02 h12 l0 l2 e.symm) n2
 ·exact absurd (X4 h01 h02 h12 l1 l2 e.symm) n3
 ·exact p0.trans q0.symm
 ·exact (Qn q0 q1 q2 e).elim
 ·exact (Qn p0 p1 p2 e.symm).elim
 ·exact (Qn p0 p1 p2 e.symm).elim
 ·exact (Qn p0 p1 p2 e.symm).elim
 ·exact e
theorem Zds (h01:t0≠t1) (h02:t0≠t2) (h12:t1≠t2) (ho:o∈ords) {p q:Nat} (e:lyN t0 t1 t2 o u p=lyN t0 t1 t2 o u q):p=q:=by
 have d:=Zdp h01 h02 h12 ho (p:=p / 3) (q:=q / 3) (by rw [← Wt (u:=u),← Wt (u:=u),e])
 have m1:=Zdr (t0:=t0) (t1:=t1) (t2:=t2) (o:=o) (u:=u) p
 have m2:=Zdr (t0:=t0) (t1:=t1) (t2:=t2) (o:=o) (u:=u) q
 rw [e,m2,d] at m1
 omega
theorem Zmz {n:Nat} (h0:t0 < n) (h1:t1 < n) (h2:t2 < n) {q:Nat} (hq:q < n):lyc t0 t1 t2 o q < n:=by
 have k:∀ j,clz t0 t1 t2 j < n:=fun j=>by
  rcases Wp (A:=t0) (B:=t1) (D:=t2) j with e | e | e <;> rw [e] <;> assumption
 unfold lyc
 split
 ·exact k _
 ·split
  ·exact k _
  ·split
   ·exact k _
   ·exact hq
theorem Zm0 {n:Nat} (h0:t0 < n) (h1:t1 < n) (h2:t2 < n) {z:Nat} (hz:z < 3 * n):lyN t0 t1 t2 o u z < 3 * n:=by
 have:=Zmz (o:=o) h0 h1 h2 (q:=z / 3) (by omega)
 have:=Wt (t0:=t0) (t1:=t1) (t2:=t2) (o:=o) (u:=u) z
 omega
theorem Zm3 (h01:t0≠t1) (h02:t0≠t2) (h12:t1≠t2) {A B D:Nat} {P R:Nat→Nat} (hT:∀ t,(t=t0∨t=t1∨t=t2) ↔ (t=A∨t=B∨t=D)) (h:Ren A B D P R):∃ o∈ords,∃ u,u < 27∧∀ z,lyN t0 t1 t2 o u z=rhoN A B D P R z:=by
 have inj:∀ s t,(s=A∨s=B∨s=D)→(t=A∨t=B∨t=D)→P s=P t→s=t:=fun s t hs ht e=>by
  have:=h.ab
  have:=h.ad
  have:=h.bd
  rcases hs with rfl | rfl | rfl <;> rcases ht with rfl | rfl | rfl <;> first | rfl | exact absurd e (by assumption) | exact absurd e.symm (by assumption)
 have k:∀ t,(t=t0∨t=t1∨t=t2)→∃ j,j < 3∧P t=clz t0 t1 t2 j:=fun t ht=>by
  rcases (hT _).mpr (h.i t ((hT t).mp ht)) with e | e | e
  ·exact ⟨0,by decide,e⟩
  ·exact ⟨1,by decide,e⟩
  ·exact ⟨2,by decide,e⟩
 obtain ⟨j0,l0,e0⟩:=k t0 (.inl rfl)
 obtain ⟨j1,l1,e1⟩:=k t1 (.inr (.inl rfl))
 obtain ⟨j2,l2,e2⟩:=k t2 (.inr (.inr rfl))
 have g0:=(hT t0).mp (.inl rfl)
 have g1:=(hT t1).mp (.inr (.inl rfl))
 have g2:=(hT t2).mp (.inr (.inr rfl))
 have d01:j0≠j1:=fun z=>h01 (inj t0 t1 g0 g1 (by rw [e0,e1,z]))
 have d02:j0≠j2:=fun z=>h02 (inj t0 t2 g0 g2 (by rw [e0,e2,z]))
 have d12:j1≠j2:=fun z=>h12 (inj t1 t2 g1 g2 (by rw [e1,e2,z]))
 have r0:=h.r t0
 have r1:=h.r t1
 have r2:=h.r t2
 refine ⟨(j0,j1,j2),?_,R t0 + 3 * R t1 + 9 * R t2,by omega,fun z=>?_⟩
 ·have hm:∀ a b c:Fin 3,a≠b→a≠c→b≠c→(a.1,b.1,c.1)∈ords:=by decide +kernel
  exact hm ⟨j0,l0⟩ ⟨j1,l1⟩ ⟨j2,l2⟩ (fun z=>d01 (congrArg Fin.val z)) (fun z=>d02 (congrArg Fin.val z)) (fun z=>d12 (congrArg Fin.val z))
 ·unfold rhoN
  by_cases c0:z / 3=t0
  ·rw [if_pos ((hT _).mp (.inl c0))]
   unfold lyN lyc lyt
   rw [if_pos c0,if_pos c0,c0,e0]
   show 3 * clz t0 t1 t2 j0 + _=_
   omega
  ·by_cases c1:z / 3=t1
   ·rw [if_pos ((hT _).mp (.inr (.inl c1)))]
    unfold lyN lyc lyt
    rw [if_neg c0,if_neg c0,if_pos c1,if_pos c1,c1,e1]
    show 3 * clz t0 t1 t2 j1 + _=_
    omega
   ·by_cases c2:z / 3=t2
    ·rw [if_pos ((hT _).mp (.inr (.inr c2)))]
     unfold lyN lyc lyt
     rw [if_neg c0,if_neg c0,if_neg c1,if_neg c1,if_pos c2,if_pos c2,c2,e2]
     show 3 * clz t0 t1 t2 j2 + _=_
     omega
    ·rw [if_neg fun w=>?_]
     ·exact Zdq c0 c1 c2
     ·rcases (hT _).mpr w with w | w | w
      ·exact c0 w
      ·exact c1 w
      ·exact c2 w
variable {M M':List (Option Nat)} {ns ns':List Int} {x y:Int}
theorem Gd.mate (td:TD M ns) (td':TD M' ns') {f:Nat→Nat} (hi:∀ p q,f p=f q→p=q) (g:Gd M.length ns ns' x y f) {p m:Nat} (h:M[p]?=some (some m)):M'[f p]?=some (some (f m)):=by
 obtain ⟨h2,ne⟩:=td.inv p m h
 have lp:=(List.getElem?_eq_some_iff.mp h).1
 have lm:=(List.getElem?_eq_some_iff.mp h2).1
 have e:=td.eqm p m h
 have g1:=g p lp
 have g2:=g m lm
 rw [e] at g2
 obtain ⟨v,hv⟩:∃ v,ns[p]?=some v:=⟨_,List.getElem?_eq_getElem (by rw [td.len]; exact lp)⟩
 rw [hv] at g1 g2
 rcases td'.eqv _ _ _ g1 g2 with z | z
 ·exact absurd (hi _ _ z) ne
 ·exact z
theorem Pl.ren (td:TD M ns) (td':TD M' ns') {f:Nat→Nat} (hi:∀ p q,f p=f q→p=q) (hc:∀ p q,p / 3=q / 3→f p / 3=f q / 3) (g:Gd M.length ns ns' x y f) {ws:List Nat} (hP:Pl M ws):Pl M' (ws.map f):=by
 refine ⟨fun z=>hP.ne (List.map_eq_nil_iff.mp z),fun p hp=>?_,fun k a p ha hp m hm=>?_⟩
 ·obtain ⟨q,hq,rfl⟩:=List.mem_map.mp hp
  obtain ⟨m,hm⟩:=hP.has q hq
  exact ⟨_,g.mate td td' hi hm⟩
 ·rw [List.length_map] at hp
  rw [List.getElem?_map] at ha hp
  obtain ⟨a',ha',rfl⟩:=Option.map_eq_some_iff.mp ha
  obtain ⟨p',hp',rfl⟩:=Option.map_eq_some_iff.mp hp
  obtain ⟨m',hm'⟩:=hP.has a' (List.mem_of_getElem? ha')
  rw [g.mate td td' hi hm'] at hm
  cases hm
  obtain ⟨h1,h2⟩:=hP.nxt k a' p' ha' hp' m' hm'
  exact ⟨hc _ _ h1,fun z=>h2 (hi _ _ z)⟩
end
theorem Zg4 {M:List (Option Nat)} {ns:List Int} {a b c d:Nat} {x y:Int} {ls:List Bool} {t0 t1 t2:Nat} (td:TD M ns) (h:Two M ns (a,b,c,d) x y) (pt:Pt a b c d) (hl:ls.length=5) (h01:t0≠t1) (h02:t0≠t2) (h12:t1≠t2) (hT:∀ t,(t=t0∨t=t1∨t=t2) ↔ (t=a / 3∨t=b / 3∨t=d / 3)) :
  fxO ls (a,b,c,d)=true∧∃ o∈ords,∃ u,u < 27∧Gd M.length ns (runN ls (a,b,c,d) ns) x y (lyN t0 t1 t2 o u)∧∀ ws,Pl M ws→ws.length≤60→Tn (runW ls (a,b,c,d) M ws) (ws.map (lyN t0 t1 t2 o u)):=by
 obtain ⟨o5,P,R,ren,rOut,rE,rF⟩:=Zc4 pt hl
 obtain ⟨o,ho,u,hu,hlay⟩:=Zm3 h01 h02 h12 hT ren
 obtain ⟨td5,len5,row5,car,thr⟩:=U2 ls (a,b,c,d) M ns x y td h o5
 have two5:∀ (ls:List Bool) (s:Nat × Nat × Nat × Nat) (M:List (Option Nat)) (ns:List Int) (x y:Int),TD M ns→Two M ns s x y→fxO ls s=true→(ls.length % 2=1→Two (runM ls s M) (runN ls s ns) (fxS ls s) y x)∧(ls.length % 2=0→Two (runM ls s M) (runN ls s ns) (fxS ls s) x y):=by
  intro ls
  induction ls with
  | nil=>exact fun s M ns x y _ h _=>⟨fun z=>by simp at z,fun _=>h⟩
  | cons l ls ih =>
   intro s M ns x y td h oo
   obtain ⟨hc,oo⟩:=ox oo
   obtain ⟨i1,i2⟩:=ih (fxE l s) _ _ y x (h.td td hc l) (h.ex td hc l) oo
   rw [List.length_cons]
   exact ⟨fun z=>i2 (by omega),fun z=>i1 (by omega)⟩
 have he:M[a]?=some (some b):=h.e
 have hff:M[c]?=some (some d):=h.f
 have tw:=(two5 ls _ M ns x y td h o5).1 (by rw [hl])
 have inj:=fun p q=>@Zds t0 t1 t2 o u h01 h02 h12 ho p q
 have hc:∀ p q,p / 3=q / 3→lyN t0 t1 t2 o u p / 3=lyN t0 t1 t2 o u q / 3:=fun p q e=>by rw [Wt,Wt,e]
 have hb:M[b]?=some (some a):=(td.inv a b h.e).1
 have hd:M[d]?=some (some c):=(td.inv c d h.f).1
 obtain ⟨e5,f5,nx5,ny5⟩:=tw
 have e5':=(td5.inv _ _ e5).1
 have f5':=(td5.inv _ _ f5).1
 have nx5':=(td5.eqm _ _ e5).trans nx5
 have ny5':=(td5.eqm _ _ f5).trans ny5
 rw [← hlay,← hlay] at rE rF
 have rOut':∀ z,z≠a→z≠b→z≠c→z≠d→lyN t0 t1 t2 o u z=fxG ls (a,b,c,d) z:=fun z z1 z2 z3 z4=>by rw [hlay]; exact rOut z z1 z2 z3 z4
 clear rOut hlay ren two5
 have nb:ns[b]?=some x:=(td.eqm a b h.e).trans h.nx
 have ndd:ns[d]?=some y:=(td.eqm c d h.f).trans h.ny
 have xy:x≠y:=fun z=>by
  have h1:=h.ny
  rw [← z] at h1
  obtain ⟨bc,ne,ab,db,ad⟩:=pt
  rcases td.eqv a c x h.nx h1 with k | k
  ·rw [k] at ab; omega
  ·rw [he] at k; cases k; exact ne rfl
 have gd:Gd M.length ns (runN ls (a,b,c,d) ns) x y (lyN t0 t1 t2 o u):=fun p hp=>by
  have s1:(some x).map (swpI x y)=some y:=by simp [swpI]
  have s2:(some y).map (swpI x y)=some x:=by simp [swpI,xy.symm]
  by_cases p1:p=a
  ·rw [p1,h.nx,s1]
   rcases rE with ⟨e,_⟩ | ⟨e,_⟩ <;> rw [e]
   ·exact nx5
   ·exact nx5'
  ·by_cases p2:p=b
   ·rw [p2,nb,s1]
    rcases rE with ⟨_,e⟩ | ⟨_,e⟩ <;> rw [e]
    ·exact nx5'
    ·exact nx5
   ·by_cases p3:p=c
    ·rw [p3,show ns[c]?=some y from h.ny,s2]
     rcases rF with ⟨e,_⟩ | ⟨e,_⟩ <;> rw [e]
     ·exact ny5
     ·exact ny5'
    ·by_cases p4:p=d
     ·rw [p4,ndd,s2]
      rcases rF with ⟨_,e⟩ | ⟨_,e⟩ <;> rw [e]
      ·exact ny5'
      ·exact ny5
     ·rw [rOut' p p1 p2 p3 p4,(car p hp).1]
      obtain ⟨v,hv⟩:∃ v,ns[p]?=some v:=⟨_,List.getElem?_eq_getElem (by rw [td.len]; exact hp)⟩
      have v1:v≠x:=fun z=>by
       rw [z] at hv
       rcases td.eqv p a x hv h.nx with k | k
       ·exact p1 k
       ·have:=(td.inv p a k).1
        rw [he] at this
        cases this
        exact p2 rfl
      have v2:v≠y:=fun z=>by
       rw [z] at hv
       rcases td.eqv p c y hv h.ny with k | k
       ·exact p3 k
       ·have:=(td.inv p c k).1
        rw [hff] at this
        cases this
        exact p4 rfl
      rw [hv]
      simp [swpI,v1,v2]
 refine ⟨o5,o,ho,u,hu,gd,fun ws hP hw=>?_⟩
 obtain ⟨_,pl5,fil⟩:=thr ws hP (by rw [hl]; omega)
 have plr:=Pl.ren td td5 inj hc gd hP
 generalize hf:lyN t0 t1 t2 o u=f at *
 have K:Kq (runM ls (a,b,c,d) M) (f a) (f b) (f c) (f d):=by
  refine ⟨gd.mate td td5 inj h.e,gd.mate td td5 inj hb,gd.mate td td5 inj h.f,gd.mate td td5 inj hd,?_⟩
  obtain ⟨bc,ne,ab,db,ad⟩:=pt
  have hc':∀ p q,f p / 3=f q / 3→p / 3=q / 3:=fun p q e=>by
   rw [← hf,Wt,Wt] at e
   exact Zdp h01 h02 h12 ho e
  exact ⟨hc _ _ bc,fun z=>ne (inj _ _ z),fun z=>ab (hc' _ _ z),fun z=>db (hc' _ _ z),fun z=>ad (hc' _ _ z)⟩
 have kk:kpS (fxS ls (a,b,c,d))=kpS (f a,f b,f c,f d):=by
  funext z
  unfold kpS
  have c1:Zw (fxS ls (a,b,c,d)).1 (fxS ls (a,b,c,d)).2.1 z=Zw (f a) (f b) z:=by
   rcases rE with ⟨e,e'⟩ | ⟨e,e'⟩ <;> rw [e,e']
   unfold Zw
   rw [Bool.and_comm]
  have c2:Zw (fxS ls (a,b,c,d)).2.2.1 (fxS ls (a,b,c,d)).2.2.2 z=Zw (f c) (f d) z:=by
   rcases rF with ⟨e,e'⟩ | ⟨e,e'⟩ <;> rw [e,e']
   unfold Zw
   rw [Bool.and_comm]
  rw [c1,c2]
 refine K.tn pl5 plr ?_
 rw [← kk,fil,kk,List.filter_map]
 have ef:(kpS (f a,f b,f c,f d) ∘ f)=kpS (a,b,c,d):=by
  funext z
  show kpS (f a,f b,f c,f d) (f z)=kpS (a,b,c,d) z
  have dd:∀ w,decide (f z=f w)=decide (z=w):=fun w=>by
   by_cases e:z=w
   ·subst e; simp
   ·rw [decide_eq_false e,decide_eq_false fun k=>e (inj _ _ k)]
  unfold kpS Zw
  rw [dd,dd,dd,dd]
 rw [ef]
 refine List.map_congr_left fun z hz=>?_
 obtain ⟨n1,n2,n3,n4⟩:=no_c (List.mem_filter.mp hz).2
 exact (rOut' z n1 n2 n3 n4).symm
end KT
set_option maxHeartbeats 4000000
namespace KT
open PySem L2
noncomputable def lyB (t0 t1 t2 cnt z:Nat):Bool:=decide ((z / 3=t0∧z % 3 < cnt)∨(z / 3=t1∧3 + z % 3 < cnt)∨(z / 3=t2∧6 + z % 3 < cnt))
noncomputable def lyL (t0 t1 t2:Nat) (o:Nat × Nat × Nat) (u N cnt:Nat):List Nat:=(List.range N).map fun z=>if lyB t0 t1 t2 cnt z=true then lyN t0 t1 t2 o u z else z
section
variable {t0 t1 t2:Nat} {o:Nat × Nat × Nat} {u N:Nat}
theorem U7 (cnt:Nat):(lyL t0 t1 t2 o u N cnt).length=N:=by unfold lyL; simp
theorem Zdt {cnt z:Nat} (hz:z < N):(lyL t0 t1 t2 o u N cnt)[z]?=some (if lyB t0 t1 t2 cnt z=true then lyN t0 t1 t2 o u z else z):=by
 unfold lyL
 rw [List.getElem?_map,List.getElem?_range hz]
 rfl
theorem Ziq:lyL t0 t1 t2 o u N 0=List.range N:=by
 have:∀ z,(if lyB t0 t1 t2 0 z=true then lyN t0 t1 t2 o u z else z)=z:=fun z=>by
  rw [if_neg]
  unfold lyB
  simp
 unfold lyL
 simp only [this]
 simp
theorem Zis:lyL t0 t1 t2 o u N 9=(List.range N).map (lyN t0 t1 t2 o u):=by
 unfold lyL
 refine List.map_congr_left fun z _=>?_
 by_cases h:lyB t0 t1 t2 9 z=true
 ·rw [if_pos h]
 ·rw [if_neg h]
  unfold lyB at h
  have h':=fun q=>h (decide_eq_true q)
  exact (Zdq (fun e=>h' (.inl ⟨e,by omega⟩)) (fun e=>h' (.inr (.inl ⟨e,by omega⟩))) (fun e=>h' (.inr (.inr ⟨e,by omega⟩)))).symm
theorem Zhc {A B D k:Nat} (hk:k < 3):(k=0∧clz A B D k=A)∨(k=1∧clz A B D k=B)∨(k=2∧clz A B D k=D):=by
 have:k=0∨k=1∨k=2:=by omega
 rcases this with rfl | rfl | rfl
 ·exact .inl ⟨rfl,rfl⟩
 ·exact .inr (.inl ⟨rfl,rfl⟩)
 ·exact .inr (.inr ⟨rfl,rfl⟩)
theorem Zir (h01:t0≠t1) (h02:t0≠t2) (h12:t1≠t2) {k s:Nat} (hk:k < 3) (hs:s < 3) (hN:3 * clz t0 t1 t2 k + s < N):(lyL t0 t1 t2 o u N (3 * k + s)).set (3 * clz t0 t1 t2 k + s) (lyN t0 t1 t2 o u (3 * clz t0 t1 t2 k + s))=lyL t0 t1 t2 o u N (3 * k + s + 1):=by
 have c:=Zhc (A:=t0) (B:=t1) (D:=t2) hk
 generalize clz t0 t1 t2 k=q at c hN ⊢
 apply List.ext_getElem?
 intro z
 by_cases hz:z < N
 ·rw [Zdt hz]
  by_cases e:z=3 * q + s
  ·subst e
   rw [List.getElem?_set_self (by rw [U7]; exact hz),if_pos]
   unfold lyB
   rw [decide_eq_true_iff]
   omega
  ·rw [List.getElem?_set_ne (Ne.symm e),Zdt hz]
   have:lyB t0 t1 t2 (3 * k + s) z=lyB t0 t1 t2 (3 * k + s + 1) z:=by
    unfold lyB
    rw [decide_eq_decide]
    omega
   rw [this]
 ·rw [List.getElem?_eq_none (by rw [List.length_set,U7]; omega),List.getElem?_eq_none (by rw [U7]; omega)]
theorem Zm1 (h01:t0≠t1) (h02:t0≠t2) (h12:t1≠t2) {k s:Nat} (hk:k < 3) (hs:s < 3):lyN t0 t1 t2 o u (3 * clz t0 t1 t2 k + s)=3 * clz t0 t1 t2 (clz o.1 o.2.1 o.2.2 k) + (s + u / clz 1 3 9 k) % 3:=by
 have e1:(3 * clz t0 t1 t2 k + s) / 3=clz t0 t1 t2 k:=by omega
 have e2:(3 * clz t0 t1 t2 k + s) % 3=s:=by omega
 unfold lyN lyc lyt
 rw [e1,e2]
 have:k=0∨k=1∨k=2:=by omega
 rcases this with rfl | rfl | rfl
 ·rw [show clz t0 t1 t2 0=t0 from rfl,if_pos rfl,if_pos rfl,show clz 1 3 9 0=1 from rfl,Nat.div_one]
  rfl
 ·rw [show clz t0 t1 t2 1=t1 from rfl,if_neg h01.symm,if_pos rfl,if_neg h01.symm,if_pos rfl]
  rfl
 ·rw [show clz t0 t1 t2 2=t2 from rfl,if_neg h02.symm,if_neg h12.symm,if_pos rfl,if_neg h02.symm,if_neg h12.symm,if_pos rfl]
  rfl
theorem Zk0 (ho:o∈ords):o.1 < 3∧o.2.1 < 3∧o.2.2 < 3:=⟨(U5 ho).1,(U5 ho).2.1,(U5 ho).2.2.1⟩
theorem Zms (ho:o∈ords) (k:Nat):clz o.1 o.2.1 o.2.2 k < 3:=by
 obtain ⟨a,b,c⟩:=Zk0 ho
 rcases Wp (A:=o.1) (B:=o.2.1) (D:=o.2.2) k with e | e | e <;> rw [e] <;> assumption
end
end KT
set_option maxHeartbeats 4000000
namespace KT
open PySem L2
theorem Gr {r:List Bool}:∀ (ls:List Bool) (s:Nat × Nat × Nat × Nat),fxO (ls ++ r) s=(fxO ls s && fxO r (fxS ls s))
 | [],s=>by simp [fxO,fxS]
 | l :: ls,s=>by
  show (!decide (s.1 / 3=s.2.1 / 3) && fxO (ls ++ r) (fxE l s))=((!decide (s.1 / 3=s.2.1 / 3) && fxO ls (fxE l s)) && fxO r (fxS ls (fxE l s)))
  rw [Gr ls,Bool.and_assoc]
theorem Zbh {r:List Bool}:∀ (ls:List Bool) (s:Nat × Nat × Nat × Nat) (M:List (Option Nat)),runM (ls ++ r) s M=runM r (fxS ls s) (runM ls s M)
 | [],_,_=>rfl
 | l :: ls,s,M=>Zbh ls (fxE l s) _
theorem Zbg {r:List Bool}:∀ (ls:List Bool) (s:Nat × Nat × Nat × Nat) (ns:List Int),runN (ls ++ r) s ns=runN r (fxS ls s) (runN ls s ns)
 | [],_,_=>rfl
 | l :: ls,s,ns=>Zbg ls (fxE l s) _
theorem Zdb:∀ (ls:List Bool) (s:Nat × Nat × Nat × Nat) (M:List (Option Nat)) (ns:List Int) (x y:Int),TD M ns→Two M ns s x y→fxO ls s=true→Two (runM ls s M) (runN ls s ns) (fxS ls s) (if ls.length % 2=0 then x else y) (if ls.length % 2=0 then y else x)
 | [],s,M,ns,x,y,_,h,_=>h
 | l :: ls,s,M,ns,x,y,td,h,oo=>by
  obtain ⟨hc,oo⟩:=ox oo
  have i:=Zdb ls (fxE l s) _ _ y x (h.td td hc l) (h.ex td hc l) oo
  have e:∀ (a b:Int),(if ls.length % 2=0 then a else b)=(if (l :: ls).length % 2=0 then b else a):=fun a b=>by
   rw [List.length_cons]
   by_cases c:ls.length % 2=0
   ·rw [if_pos c,if_neg (by omega)]
   ·rw [if_neg c,if_pos (by omega)]
  rw [e,e] at i
  exact i
theorem Gw:∀ (ls:List Bool) (x y:Int) (k:Nat) (l:Bool),ls[k]?=some l→(alt ls x y)[k]?=some (if k % 2=0 then x else y,l)
 | [],_,_,_,_,h=>by simp at h
 | a :: ls,x,y,0,l,h=>by cases h; rfl
 | a :: ls,x,y,k + 1,l,h=>by
  show (alt ls y x)[k]?=_
  rw [Gw ls y x k l h]
  by_cases c:k % 2=0
  ·rw [if_pos c,if_neg (by omega)]
  ·rw [if_neg c,if_pos (by omega)]
theorem Of:∀ (ls:List Bool) (x y:Int),(alt ls x y).length=ls.length
 | [],_,_=>rfl
 | _ :: ls,x,y=>by show (alt ls y x).length + 1=ls.length + 1; rw [Of]
theorem Zj8 {M:List (Option Nat)} {ns:List Int} {s:Nat × Nat × Nat × Nat} {x y:Int} {ls:List Bool} {k:Nat} {l:Bool} (td:TD M ns) (h:Two M ns s x y) (o:fxO ls s=true) (hl:ls[k]?=some l) :
  TD (runM (ls.take k) s M) (runN (ls.take k) s ns)∧(runM (ls.take k) s M).length=M.length∧∃ a b:Nat,Mv (runM (ls.take k) s M) (runN (ls.take k) s ns) (if k % 2=0 then x else y) a b∧runM (ls.take (k + 1)) s M=exM l a b (runM (ls.take k) s M)∧runN (ls.take (k + 1)) s ns=exN l a b (runN (ls.take k) s ns):=by
 have hk:k < ls.length:=(List.getElem?_eq_some_iff.mp hl).1
 have e1:ls.take (k + 1)=ls.take k ++ [l]:=by rw [List.take_add_one,hl]; rfl
 have e0:ls=ls.take (k + 1) ++ ls.drop (k + 1):=(List.take_append_drop _ _).symm
 have o1:fxO (ls.take (k + 1)) s=true:=by
  rw [e0,Gr,Bool.and_eq_true] at o
  exact o.1
 rw [e1,Gr,Bool.and_eq_true] at o1
 obtain ⟨o2,o3⟩:=o1
 obtain ⟨td',len',_⟩:=U2 (ls.take k) s M ns x y td h o2
 have tw:=Zdb (ls.take k) s M ns x y td h o2
 rw [List.length_take,Nat.min_eq_left (by omega)] at tw
 obtain ⟨hc,_⟩:=ox o3
 refine ⟨td',len',min (fxS (ls.take k) s).1 (fxS (ls.take k) s).2.1,max (fxS (ls.take k) s).1 (fxS (ls.take k) s).2.1,tw.mv td' hc,?_,?_⟩
 ·rw [e1,Zbh,mm_M hc]; rfl
 ·rw [e1,Zbg,mm_N hc]; rfl
theorem Mv.only {M:List (Option Nat)} {ns:List Int} {x:Int} {a b z j:Nat} (h:Mv M ns x a b) (td:TD M ns) (hz:ns[z]?=some x) (hj:M[z]?=some (some j)) (hl:z < j):z=a:=by
 rcases td.eqv z a x hz h.nm with e | e
 ·exact e
 ·rw [hj] at e
  cases e
  have:=(td.inv z a hj).1
  rw [h.hM] at this
  cases this
  have:=h.lt
  omega
theorem Zhn {a b t0 t1 t2:Nat} (h0:t0=a∨t0=b) (h1:t1=a∨t1=b) (h2:t2=a∨t2=b) (l1:t0 < t1) (l2:t1 < t2):False:=by
 rcases h0 with rfl | rfl <;> rcases h1 with rfl | rfl <;> rcases h2 with rfl | rfl <;> omega
theorem Zlh {a b c d t0 t1 t2:Nat} (ha:a=t0∨a=t1∨a=t2) (hb:b=t0∨b=t1∨b=t2) (hc:c=t0∨c=t1∨c=t2) (hd:d=t0∨d=t1∨d=t2) (ab:a≠b) (ac:a≠c) (ad:a≠d) (bc:b≠c) (bd:b≠d) (cd:c≠d):False:=by
 rcases ha with rfl | rfl | rfl <;> rcases hb with rfl | rfl | rfl <;> (try exact absurd rfl ab) <;> rcases hc with rfl | rfl | rfl <;> (try exact absurd rfl ac) <;> (try exact absurd rfl bc) <;> rcases hd with rfl | rfl | rfl <;> first | exact absurd rfl ad | exact absurd rfl bd | exact absurd rfl cd
theorem V4 {A B C D t0 t1 t2:Nat} (AB:A≠B) (CD:C≠D) (BC:B=C) (hlt:t0 < t1∧t1 < t2) (hm:∀ t,(t=t0∨t=t1∨t=t2) ↔ (t=A∨t=B∨t=C∨t=D)):D≠B∧A≠D∧∀ t,(t=t0∨t=t1∨t=t2) ↔ (t=A∨t=B∨t=D):=by
 subst BC
 have f:∀ t,(t=A∨t=B∨t=B∨t=D) ↔ (t=A∨t=B∨t=D):=fun t=>⟨fun h=>by rcases h with h | h | h | h; exact .inl h; exact .inr (.inl h); exact .inr (.inl h); exact .inr (.inr h),fun h=>by rcases h with h | h | h; exact .inl h; exact .inr (.inl h); exact .inr (.inr (.inr h))⟩
 refine ⟨CD.symm,fun z=>?_,fun t=>(hm t).trans (f t)⟩
 subst z
 have g:∀ t,(t=t0∨t=t1∨t=t2)→t=A∨t=B:=fun t h=>by
  rcases (hm t).mp h with e | e | e | e
  ·exact .inl e
  ·exact .inr e
  ·exact .inr e
  ·exact .inl e
 exact Zhn (g t0 (.inl rfl)) (g t1 (.inr (.inl rfl))) (g t2 (.inr (.inr rfl))) hlt.1 hlt.2
theorem Zmr {M:List (Option Nat)} {ns:List Int} {q j u v t0 t1 t2:Nat} {x y:Int} (td:TD M ns) (hq:M[q]?=some (some j)) (lq:q < j) (cq:q / 3≠j / 3) (hu:M[u]?=some (some v)) (lu:u < v) (cu:u / 3≠v / 3) (hqu:q≠u) (nx:ns[q]?=some x) (ny:ns[u]?=some y) (hlt:t0 < t1∧t1 < t2)
  (hm:∀ t,(t=t0∨t=t1∨t=t2) ↔ (t=q / 3∨t=j / 3∨t=u / 3∨t=v / 3)):∃ a b c d,Two M ns (a,b,c,d) x y∧Pt a b c d∧∀ t,(t=t0∨t=t1∨t=t2) ↔ (t=a / 3∨t=b / 3∨t=d / 3):=by
 have hj:=(td.inv q j hq).1
 have hv:=(td.inv u v hu).1
 have nj:ns[j]?=some x:=(td.eqm q j hq).trans nx
 have nv:ns[v]?=some y:=(td.eqm u v hu).trans ny
 have kq:q≠v:=fun z=>by
  rw [← z,hq] at hv
  have:j=u:=Option.some.inj (Option.some.inj hv)
  exact absurd lq (by rw [this,z]; exact Nat.not_lt.mpr (Nat.le_of_lt lu))
 have kj:j≠u:=fun z=>by
  rw [z,hu] at hj
  have:v=q:=Option.some.inj (Option.some.inj hj)
  exact absurd lu (by rw [this,← z]; exact Nat.not_lt.mpr (Nat.le_of_lt lq))
 have kv:j≠v:=fun z=>by
  rw [← z,hj] at hv
  exact hqu (Option.some.inj (Option.some.inj hv))
 have sw1:∀ {A B C D:Nat},(∀ t,(t=t0∨t=t1∨t=t2) ↔ (t=A∨t=B∨t=C∨t=D))→∀ t,(t=t0∨t=t1∨t=t2) ↔ (t=B∨t=A∨t=C∨t=D):=fun h t=>(h t).trans ⟨fun h=>by rcases h with h | h | h | h; exact .inr (.inl h); exact .inl h; exact .inr (.inr (.inl h)); exact .inr (.inr (.inr h)),fun h=>by rcases h with h | h | h | h; exact .inr (.inl h); exact .inl h; exact .inr (.inr (.inl h)); exact .inr (.inr (.inr h))⟩
 have sw2:∀ {A B C D:Nat},(∀ t,(t=t0∨t=t1∨t=t2) ↔ (t=A∨t=B∨t=C∨t=D))→∀ t,(t=t0∨t=t1∨t=t2) ↔ (t=A∨t=B∨t=D∨t=C):=fun h t=>(h t).trans ⟨fun h=>by rcases h with h | h | h | h; exact .inl h; exact .inr (.inl h); exact .inr (.inr (.inr h)); exact .inr (.inr (.inl h)),fun h=>by rcases h with h | h | h | h; exact .inl h; exact .inr (.inl h); exact .inr (.inr (.inr h)); exact .inr (.inr (.inl h))⟩
 by_cases c1:j / 3=u / 3
 ·obtain ⟨g1,g2,g3⟩:=V4 cq cu c1 hlt hm
  exact ⟨q,j,u,v,⟨hq,hu,nx,ny⟩,⟨c1,kj,cq,g1,g2⟩,g3⟩
 ·by_cases c2:q / 3=u / 3
  ·obtain ⟨g1,g2,g3⟩:=V4 cq.symm cu c2 hlt (sw1 hm)
   exact ⟨j,q,u,v,⟨hj,hu,nj,ny⟩,⟨c2,hqu,cq.symm,g1,g2⟩,g3⟩
  ·by_cases c3:j / 3=v / 3
   ·obtain ⟨g1,g2,g3⟩:=V4 cq cu.symm c3 hlt (sw2 hm)
    exact ⟨q,j,v,u,⟨hq,hv,nx,nv⟩,⟨c3,kv,cq,g1,g2⟩,g3⟩
   ·by_cases c4:q / 3=v / 3
    ·obtain ⟨g1,g2,g3⟩:=V4 cq.symm cu.symm c4 hlt (sw1 (sw2 hm))
     exact ⟨j,q,v,u,⟨hj,hv,nj,nv⟩,⟨c4,kq,cq.symm,g1,g2⟩,g3⟩
    ·exact absurd (Zlh ((hm _).mpr (.inl rfl)) ((hm _).mpr (.inr (.inl rfl))) ((hm _).mpr (.inr (.inr (.inl rfl)))) ((hm _).mpr (.inr (.inr (.inr rfl)))) cq c2 c4 c1 c3 cu) id
end KT
set_option maxHeartbeats 4000000
set_option genInjectivity false
set_option genSizeOf false
namespace KT
open PySem L2
noncomputable def bmV:List Value:=[.type "ValueError",.type "Exception",.type "BaseException",.type "object"]
theorem FBV:ExcBaseFacts "ValueError" "ValueError.__new__" "ValueError.__init__" bmV:=PySem.F.excBase_ValueError
theorem map_some {α:Type} {f:α→V} {l:List α} {i:Nat} {y:V} (h:(l.map f)[i]?=some y):∃ q,l[i]?=some q∧y=f q:=by
 rw [List.getElem?_map] at h
 cases e:l[i]? with
 | none=>rw [e] at h; cases h
 | some q=>rw [e] at h; cases h; exact ⟨q,rfl,rfl⟩
structure FT (K:PySem.W.Frag) (mg:Str→Option Value) (x:Str) (st:Stmt) (ps:List Str) (f:Addr) (d:FuncData):Prop where
 F:Fun K x x st f d
 b:Wi K d ps []
 g:mg x=some (.ref f)
structure FM (K:PySem.W.Frag) (C:Addr) (x q:Str) (st:Stmt) (ps:List Str) (f:Addr) (d:FuncData):Prop where
 F:Fun K x q st f d
 b:Wi K d ps []
 m:Meth K C x f
section
variable {X:Cx} {fr:Bool} {j k:Nat} {f:Addr} {fd:FuncData} {ps:List Str} {sp:Sp} {x:Str} {st:Stmt} {p pos:Pos} {e:Expr} {es:List Expr} {t:TA}
theorem pcT (F:FnOk X.prog X.w X.K X.mg X.base (CXr X.prog X.w) k f fd ps sp) (hr:Room j X.A) (q:FT X.K X.mg x st ps f fd) (ha:PA X (e :: es) t) (hk:k≤j:=by decide) (hg:Gl X x:=by rfl) (hdb:(x == ("__debug__":Str))=false:=by decide) (he:starEach (e :: es) X.env=(false,eval e X.env) :: starEach es X.env:=by rfl) (hpl:(backTo pos (starEach es X.env)).any (·.1)=false:=by rfl) :
  PE X (.Call (.Name x p) (e :: es) [] pos) (Zjk sp [] E0 t):=Zky F (hr.mono hk) hg q.g q.F.kp q.b .nil Wh ha hdb he hpl
theorem pxT (F:FnOk X.prog X.w X.K X.mg X.base (CXr X.prog X.w) k f fd ps sp) (hr:Room j X.A) (q:FT X.K X.mg x st ps f fd) (ha:PA X (e :: es) t) (hk:k≤j:=by decide) (hg:Gl X x:=by rfl) (hex:X.ex=[]:=by rfl) (hx:X.xe=(fun _ _=>False):=by rfl) (hdb:(x == ("__debug__":Str))=false:=by decide) (he:starEach (e :: es) X.env=(false,eval e X.env) :: starEach es X.env:=by rfl) (hpl:(backTo pos (starEach es X.env)).any (·.1)=false:=by rfl) :
  PEX fr X (.Call (.Name x p) (e :: es) [] pos) (Zfg sp [] t):=Zic F (hr.mono hk) hg q.g q.F.kp q.b .nil ha hex hx hdb he hpl
end
noncomputable def BA (q:Str) (st:Stmt) (ps:List Str):Prop:=∀ (x:Str) (kV doc pm:Value) (an:Option Addr) (cdv ct:Value) (us:List Value),us.length=ps.length→bindArgs (PySem.W.fnOf x q (Xh st) (Yz st) (Zj st) .none kV doc pm an cdv ct) ⟨us,[]⟩=pure (ps.zip us)
theorem Zdu {α:Type} {us:List α} (e:us.length=2):∃ a b,us=[a,b]:=by
 obtain ⟨a,us,rfl⟩:=List.exists_cons_of_length_eq_add_one e
 obtain ⟨b,rfl⟩:=List.length_eq_one_iff.mp (Nat.succ.inj e)
 exact ⟨a,b,rfl⟩
theorem Fp {α:Type} {us:List α} (e:us.length=3):∃ a b c,us=[a,b,c]:=by
 obtain ⟨a,us,rfl⟩:=List.exists_cons_of_length_eq_add_one e
 obtain ⟨b,c,rfl⟩:=Zdu (Nat.succ.inj e)
 exact ⟨a,b,c,rfl⟩
theorem ba1 {q:Str} {st:Stmt} {ps:List Str} (h:∀ (x:Str) (kV doc pm:Value) (an:Option Addr) (cdv ct:Value) (a:Value),bindArgs (PySem.W.fnOf x q (Xh st) (Yz st) (Zj st) .none kV doc pm an cdv ct) ⟨[a],[]⟩=pure (ps.zip [a])) (hl:ps.length=1):BA q st ps:=fun x kV doc pm an cdv ct us e=>by
 rw [hl] at e
 obtain ⟨a,rfl⟩:=List.length_eq_one_iff.mp e
 exact h x kV doc pm an cdv ct a
theorem ba2 {q:Str} {st:Stmt} {ps:List Str} (h:∀ (x:Str) (kV doc pm:Value) (an:Option Addr) (cdv ct:Value) (a b:Value),bindArgs (PySem.W.fnOf x q (Xh st) (Yz st) (Zj st) .none kV doc pm an cdv ct) ⟨[a,b],[]⟩=pure (ps.zip [a,b])) (hl:ps.length=2):BA q st ps:=fun x kV doc pm an cdv ct us e=>by
 rw [hl] at e
 obtain ⟨a,b,rfl⟩:=Zdu e
 exact h x kV doc pm an cdv ct a b
theorem ba3 {q:Str} {st:Stmt} {ps:List Str} (h:∀ (x:Str) (kV doc pm:Value) (an:Option Addr) (cdv ct:Value) (a b c:Value),bindArgs (PySem.W.fnOf x q (Xh st) (Yz st) (Zj st) .none kV doc pm an cdv ct) ⟨[a,b,c],[]⟩=pure (ps.zip [a,b,c])) (hl:ps.length=3):BA q st ps:=fun x kV doc pm an cdv ct us e=>by
 rw [hl] at e
 obtain ⟨a,b,c,rfl⟩:=Fp e
 exact h x kV doc pm an cdv ct a b c
theorem ba4 {q:Str} {st:Stmt} {ps:List Str} (h:∀ (x:Str) (kV doc pm:Value) (an:Option Addr) (cdv ct:Value) (a b c d:Value),bindArgs (PySem.W.fnOf x q (Xh st) (Yz st) (Zj st) .none kV doc pm an cdv ct) ⟨[a,b,c,d],[]⟩=pure (ps.zip [a,b,c,d])) (hl:ps.length=4):BA q st ps:=fun x kV doc pm an cdv ct us e=>by
 rw [hl] at e
 obtain ⟨a,us,rfl⟩:=List.exists_cons_of_length_eq_add_one e
 obtain ⟨b,c,d,rfl⟩:=Fp (Nat.succ.inj e)
 exact h x kV doc pm an cdv ct a b c d
section
variable {K:PySem.W.Frag} {h:Heap} {mg:Str→Option Value} {C:Addr} {x q:Str} {st:Stmt} {ps:List Str} {f:Addr} {oc:Value} {od an:Option Addr} {sl:Array (Option Value)} {kV doc pm cd ct:Value}
theorem FT.of (X:K.In h) (G:h.Ns mainGlobals mg) (B:BA x st ps) (a:PySem.W.nsIn K mainGlobals x=some (some (.ref f))) (l:K.lookup f=some ⟨oc,od,.func (PySem.W.fnOf x x (Xh st) (Yz st) (Zj st) .none kV doc pm an cd ct),sl⟩)
  (c:PySem.W.codeIn K cd x=true) (k:PySem.W.keepIn K (.ref f)=true):FT K mg x st ps f (PySem.W.fnOf x x (Xh st) (Yz st) (Zj st) .none kV doc pm an cd ct):=⟨K8 l c k,(K8 l c k).binds (B x),PySem.W.mg_of X G a⟩
theorem FM.of (B:BA q st ps) (a:PySem.W.findIn K (.ref C) x=some (some (.ref f))) (i:PySem.W.isFn K (.ref f)=true) (l:K.lookup f=some ⟨oc,od,.func (PySem.W.fnOf x q (Xh st) (Yz st) (Zj st) .none kV doc pm an cd ct),sl⟩)
  (c:PySem.W.codeIn K cd q=true) (k:PySem.W.keepIn K (.ref f)=true):FM K C x q st ps f (PySem.W.fnOf x q (Xh st) (Yz st) (Zj st) .none kV doc pm an cd ct):=⟨K8 l c k,(K8 l c k).binds (B x),⟨a,i,k⟩⟩
end
noncomputable def top (i:Nat):Stmt:=PySem.Challenge.pw_tentloops_k27_whole_five_exchanges.main.body.getD i (.Pass ⟨0,0,0,0⟩)
noncomputable abbrev Zde:Stmt:=top 12
noncomputable abbrev Zbe:Stmt:=top 13
noncomputable abbrev Ko:Stmt:=top 14
noncomputable abbrev Ki:Stmt:=top 15
noncomputable abbrev Kj:Stmt:=top 16
noncomputable abbrev Ov:Stmt:=Wv (top 17) 0
noncomputable abbrev Ot:Stmt:=Wv (top 17) 1
noncomputable abbrev Os:Stmt:=Wv (top 17) 2
noncomputable abbrev Qp:Stmt:=Wv (top 17) 5
noncomputable abbrev J6:Stmt:=Wv (top 17) 6
noncomputable abbrev Vh:Stmt:=Wv (top 17) 7
noncomputable abbrev Ub:Stmt:=Wv (top 17) 8
noncomputable abbrev Ou:Stmt:=Wv (top 17) 9
noncomputable abbrev Vg:Stmt:=Wv (top 17) 10
noncomputable abbrev Kk:Stmt:=top 20
noncomputable abbrev On:Stmt:=top 21
noncomputable abbrev Za1:Stmt:=top 22
noncomputable abbrev Za2:Stmt:=top 23
noncomputable abbrev Op:Stmt:=top 24
noncomputable abbrev Zbd:Stmt:=top 25
noncomputable abbrev Oq:Stmt:=top 27
noncomputable abbrev G9:Stmt:=top 28
noncomputable abbrev Zdc:Stmt:=top 29
noncomputable abbrev Ua:Stmt:=top 30
noncomputable abbrev Za0:Stmt:=top 31
noncomputable abbrev J2:Stmt:=top 33
noncomputable abbrev Za3:Stmt:=top 34
noncomputable abbrev Vf:Stmt:=top 35
noncomputable abbrev Zbb:Stmt:=top 37
noncomputable abbrev Zbc:Stmt:=top 38
noncomputable abbrev Oo:Stmt:=top 39
noncomputable abbrev Za6:Stmt:=top 40
noncomputable abbrev Za8:Stmt:=top 41
noncomputable abbrev Za5:Stmt:=top 42
noncomputable abbrev Za7:Stmt:=top 43
noncomputable abbrev Zdd:Stmt:=top 44
noncomputable abbrev G4:Stmt:=top 45
noncomputable abbrev Kn:Stmt:=top 46
noncomputable abbrev G8:Stmt:=top 47
noncomputable abbrev G3:Stmt:=top 48
noncomputable abbrev Za9:Stmt:=top 49
noncomputable abbrev Km:Stmt:=top 50
noncomputable abbrev Za4:Stmt:=top 51
noncomputable abbrev Kl:Stmt:=top 52
noncomputable abbrev G5:Stmt:=top 53
noncomputable abbrev G7:Stmt:=top 54
noncomputable abbrev Zba:Stmt:=top 55
noncomputable abbrev G6:Stmt:=top 56
noncomputable abbrev Zjl:Stmt:=top 57
structure Adr where
 (C_Tent f_after f_before f_cloth_of f_spots_of f_mates_of f_Tent_init f_Tent_rows f_Tent_size f_Tent_has_place f_Tent_look_place f_Tent_seam_at f_Tent_places f_Tent_mate f_Tent_sort_of f_look_way f_look_free f_square f_shifts f_exchanged f_driven f_crossable f_follows f_plain f_look_thread f_turned f_crossing_between f_pulled f_pulled_along f_l_free f_l_cell f_l_numbers f_l_sewn f_l_rows f_l_tent f_l_seam f_l_way f_l_shift f_l_around f_l_goals f_l_whole f_l_list f_l_cloths f_l_walk f_l_thread f_l_plain f_l_least f_l_lays f_l_pairs f_law g_CONTRARY_WAYS E_NoPlace E_NoSeam E_Rim E_Locked E_NoWay E_NoThread:Addr)
 (d_after d_before d_cloth_of d_spots_of d_mates_of d_Tent_init d_Tent_rows d_Tent_size d_Tent_has_place d_Tent_look_place d_Tent_seam_at d_Tent_places d_Tent_mate d_Tent_sort_of d_look_way d_look_free d_square d_shifts d_exchanged d_driven d_crossable d_follows d_plain d_look_thread d_turned d_crossing_between d_pulled d_pulled_along d_l_free d_l_cell d_l_numbers d_l_sewn d_l_rows d_l_tent d_l_seam d_l_way d_l_shift d_l_around d_l_goals d_l_whole d_l_list d_l_cloths d_l_walk d_l_thread d_l_plain d_l_least d_l_lays d_l_pairs d_law:FuncData)
 (k_GREATEST_NAME:Tok)
structure Txt (w:World) (K:PySem.W.Frag) (mg:Str→Option Value) (t:Adr):Prop where
 gC_Tent:mg "Tent"=some (.ref t.C_Tent)
 cl_Tent:Cls K t.C_Tent
 a_Tent_cloths:W7 K t.C_Tent "cloths"
 a_Tent_names_at:W7 K t.C_Tent "names_at"
 a_Tent_spots:W7 K t.C_Tent "spots"
 a_Tent_mates:W7 K t.C_Tent "mates"
 p_after:FT K mg "after" Zde ["place"] t.f_after t.d_after
 p_before:FT K mg "before" Zbe ["place"] t.f_before t.d_before
 p_cloth_of:FT K mg "cloth_of" Ko ["place"] t.f_cloth_of t.d_cloth_of
 p_spots_of:FT K mg "spots_of" Ki ["names_at"] t.f_spots_of t.d_spots_of
 p_mates_of:FT K mg "mates_of" Kj ["spots","count"] t.f_mates_of t.d_mates_of
 p_Tent_init:FM K t.C_Tent "__init__" "Tent.__init__" Ov ["self","rows"] t.f_Tent_init t.d_Tent_init
 p_Tent_rows:FM K t.C_Tent "rows" "Tent.rows" Ot ["self"] t.f_Tent_rows t.d_Tent_rows
 p_Tent_size:FM K t.C_Tent "size" "Tent.size" Os ["self"] t.f_Tent_size t.d_Tent_size
 p_Tent_has_place:FM K t.C_Tent "has_place" "Tent.has_place" Qp ["self","place"] t.f_Tent_has_place t.d_Tent_has_place
 p_Tent_look_place:FM K t.C_Tent "look_place" "Tent.look_place" J6 ["self","place"] t.f_Tent_look_place t.d_Tent_look_place
 p_Tent_seam_at:FM K t.C_Tent "seam_at" "Tent.seam_at" Vh ["self","place"] t.f_Tent_seam_at t.d_Tent_seam_at
 p_Tent_places:FM K t.C_Tent "places" "Tent.places" Ub ["self","seam"] t.f_Tent_places t.d_Tent_places
 p_Tent_mate:FM K t.C_Tent "mate" "Tent.mate" Ou ["self","place"] t.f_Tent_mate t.d_Tent_mate
 p_Tent_sort_of:FM K t.C_Tent "sort_of" "Tent.sort_of" Vg ["self","seam"] t.f_Tent_sort_of t.d_Tent_sort_of
 p_look_way:FT K mg "look_way" Kk ["way"] t.f_look_way t.d_look_way
 p_look_free:FT K mg "look_free" On ["tent","seam"] t.f_look_free t.d_look_free
 p_square:FT K mg "square" Za1 ["tent","seam"] t.f_square t.d_square
 p_shifts:FT K mg "shifts" Za2 ["tent","seam","way"] t.f_shifts t.d_shifts
 p_exchanged:FT K mg "exchanged" Op ["tent","seam","way"] t.f_exchanged t.d_exchanged
 p_driven:FT K mg "driven" Zbd ["tent","moves"] t.f_driven t.d_driven
 p_crossable:FT K mg "crossable" Oq ["tent","place"] t.f_crossable t.d_crossable
 p_follows:FT K mg "follows" G9 ["tent","ahead","place"] t.f_follows t.d_follows
 p_plain:FT K mg "plain" Zdc ["tent","word"] t.f_plain t.d_plain
 p_look_thread:FT K mg "look_thread" Ua ["tent","word"] t.f_look_thread t.d_look_thread
 p_turned:FT K mg "turned" Za0 ["word","by"] t.f_turned t.d_turned
 p_crossing_between:FT K mg "crossing_between" J2 ["own","entry","leaving"] t.f_crossing_between t.d_crossing_between
 p_pulled:FT K mg "pulled" Za3 ["tent","seam","way","word"] t.f_pulled t.d_pulled
 p_pulled_along:FT K mg "pulled_along" Vf ["tent","moves","word"] t.f_pulled_along t.d_pulled_along
 p_l_free:FT K mg "_law_free" Zbb ["_law_mates"] t.f_l_free t.d_l_free
 p_l_cell:FT K mg "_law_cell" Zbc ["_law_script","_law_at"] t.f_l_cell t.d_l_cell
 p_l_numbers:FT K mg "_law_numbers" Oo ["_law_cell_here","_law_many"] t.f_l_numbers t.d_l_numbers
 p_l_sewn:FT K mg "_law_sewn" Za6 ["_law_nums","_law_many","_law_share"] t.f_l_sewn t.d_l_sewn
 p_l_rows:FT K mg "_law_rows" Za8 ["_law_mates","_law_start","_law_step"] t.f_l_rows t.d_l_rows
 p_l_tent:FT K mg "_law_tent" Za5 ["_law_script"] t.f_l_tent t.d_l_tent
 p_l_seam:FT K mg "_law_seam" Za7 ["_law_rows_here","_law_place"] t.f_l_seam t.d_l_seam
 p_l_way:FT K mg "_law_way" Zdd ["_law_left"] t.f_l_way t.d_l_way
 p_l_shift:FT K mg "_law_shift" G4 ["_law_mates","_law_rows_here","_law_goals_here"] t.f_l_shift t.d_l_shift
 p_l_around:FT K mg "_law_around" Kn ["_law_mates","_law_place"] t.f_l_around t.d_l_around
 p_l_goals:FT K mg "_law_goals" G8 ["_law_mates","_law_place","_law_left"] t.f_l_goals t.d_l_goals
 p_l_whole:FT K mg "_law_whole" G3 ["_law_found"] t.f_l_whole t.d_l_whole
 p_l_list:FT K mg "_law_list" Za9 ["_law_found","_law_due"] t.f_l_list t.d_l_list
 p_l_cloths:FT K mg "_law_cloths" Km ["_law_found","_law_due"] t.f_l_cloths t.d_l_cloths
 p_l_walk:FT K mg "_law_walk" Za4 ["_law_mates","_law_nums"] t.f_l_walk t.d_l_walk
 p_l_thread:FT K mg "_law_thread" Kl ["_law_script","_law_at","_law_mates"] t.f_l_thread t.d_l_thread
 p_l_plain:FT K mg "_law_plain" G5 ["_law_mates","_law_word"] t.f_l_plain t.d_l_plain
 p_l_least:FT K mg "_law_least" G7 ["_law_mates","_law_word"] t.f_l_least t.d_l_least
 p_l_lays:FT K mg "_law_lays" Zba ["_law_rows_here","_law_fresh","_law_trio","_law_swap"] t.f_l_lays t.d_l_lays
 p_l_pairs:FT K mg "_law_pairs" G6 ["_law_mates"] t.f_l_pairs t.d_l_pairs
 p_law:FT K mg "law" Zjl ["_law_script"] t.f_law t.d_law
 mk_Tent:Mk K t.C_Tent t.f_Tent_init
 c_GREATEST_NAME:mg "GREATEST_NAME"=some (.int 9999 t.k_GREATEST_NAME)
 gd_CONTRARY_WAYS:mg "CONTRARY_WAYS"=some (.ref t.g_CONTRARY_WAYS)
 kd_CONTRARY_WAYS:Gf w K t.g_CONTRARY_WAYS [(Sum.inr "left",.str "right"),(Sum.inr "right",.str "left")]
 bl:∀ (s:Shared) (u:Value),BindsTo s t.d_law ⟨[u],[]⟩ [("_law_script",u)]
 n_all:mg "all"=none
 n_bool:mg "bool"=none
 n_enumerate:mg "enumerate"=none
 n_int:mg "int"=none
 n_isinstance:mg "isinstance"=none
 n_len:mg "len"=none
 n_list:mg "list"=none
 n_min:mg "min"=none
 n_range:mg "range"=none
 n_reversed:mg "reversed"=none
 n_set:mg "set"=none
 n_sorted:mg "sorted"=none
 n_tuple:mg "tuple"=none
 n_zip:mg "zip"=none
 gx_NoPlace:mg "NoPlace"=some (.ref t.E_NoPlace)
 x_NoPlace:ExcK K t.E_NoPlace bmV "ValueError.__new__"
 gx_NoSeam:mg "NoSeam"=some (.ref t.E_NoSeam)
 x_NoSeam:ExcK K t.E_NoSeam bmV "ValueError.__new__"
 gx_Rim:mg "Rim"=some (.ref t.E_Rim)
 x_Rim:ExcK K t.E_Rim bmV "ValueError.__new__"
 gx_Locked:mg "Locked"=some (.ref t.E_Locked)
 x_Locked:ExcK K t.E_Locked bmV "ValueError.__new__"
 gx_NoWay:mg "NoWay"=some (.ref t.E_NoWay)
 x_NoWay:ExcK K t.E_NoWay bmV "ValueError.__new__"
 gx_NoThread:mg "NoThread"=some (.ref t.E_NoThread)
 x_NoThread:ExcK K t.E_NoThread bmV "ValueError.__new__"
end KT
set_option maxHeartbeats 4000000
namespace KT
open PySem L2
theorem Same.add {H H1:Hp} {p:Addr} {o:HO} (s:Same H H1) (hp:H p=none):Same H (upd H1 p o):=fun b u e=>by rw [Zf (Zk e hp)]; exact s b u e
theorem Same.new {H:Hp} {p:Addr} {o:HO} (hp:H p=none):Same H (upd H p o):=Same.add (Same.refl H) hp
theorem Z4 {t u:TS} {D:Ends} {σ:St} {H:Hp} (Post:St→Hp→Prop) (ht:∀ nx:St→Hp→Prop,(∀ σ H,Post σ H→nx σ H)→t { D with nx:=nx } σ H) (hu:∀ σ H,Post σ H→u D σ H):tSeq t u D σ H:=ht (u D) hu
theorem Zv {t u:TS} {D:Ends} {σ:St} {H:Hp} (ht:∀ nx:St→Hp→Prop,(∀ σ H,u D σ H→nx σ H)→t { D with nx:=nx } σ H):tSeq t u D σ H:=ht (u D) fun _ _ h=>h
theorem Zb2 (xs:List Int) (y:Int):xs.map V.int ++ [V.int y]=(xs ++ [y]).map V.int:=by simp
theorem getI {ns:List Int} {n:Nat} (h:n < ns.length):(ns.map V.int)[n]?=some (V.int (ns.getD n 0)):=by
 rw [List.getElem?_map,List.getElem?_eq_getElem h,List.getD_eq_getElem?_getD,List.getElem?_eq_getElem h]
 rfl
noncomputable def cell (ns:List Int) (n:Int):Int:=if n < ns.length then ns.getD n.toNat 0 else if ns.length=0 then 31 * n + 7 else ns.getD (n % ns.length).toNat 0 % 1000003 + 101 * n
noncomputable def Zkg (K:PySem.W.Frag):Sp:=fun vs H Q _=>∃ (a:Addr) (ns:List Int) (n:Int),vs=[.ref a,.int n]∧SqL K H a (ns.map V.int)∧ns.length≤63∧0≤n∧n < 1000000∧Q (.int (cell ns n)) H
noncomputable def Zht:Sp:=fun vs H Q _=>∃ n:Int,vs=[.int n]∧Q (.bl true) H
noncomputable def Zed:Sp:=fun vs H Q _=>∃ (c:Int) (n:Nat),vs=[.int c,.int n]∧n≤60∧∀ (p:Addr) (xs:List Int) (H':Hp),Same H H'→H p=none→H' p=some (.lst (xs.map V.int))→xs.length=n→(∀ x∈xs,0≤x∧x < 1009)→Q (.ref p) H'
section
variable {P:Program} {w:World} {K:PySem.W.Frag} {mg:Str→Option Value} {base:Heap} {t:Adr}
theorem Zel:FnScope ["_law_found"] ["_law_found"] (Zj G3):=⟨rfl,rfl,rfl,by decide +kernel,rfl,by decide +kernel,by decide +kernel⟩
theorem Zen (T:Txt w K mg t):FnOk P w K mg base (CXr P w) 1 t.f_l_whole t.d_l_whole ["_law_found"] Zht:=by
 refine T.p_l_whole.F.aR Zel (fun cdv A outer s H vs Q E hr h=>?_)
 ·obtain ⟨p,rfl,k⟩:=h
  refine ⟨_,(Zg (Zo (Zbo (Zm W6 (by rfl) T.n_isinstance PyProof.Rows.boot_isinstance (Za (pv 0) (Za (Vk (v:=.ty "int") (by rfl) T.n_int PySem.Pv.boot_int rfl) Zc))) (Zbm (Zmq (Zm W6 (by rfl) T.n_isinstance PyProof.Rows.boot_isinstance (Za (pv 0) (Za (Vk (v:=.ty "bool") (by rfl) T.n_bool PySem.Pv.boot_bool rfl) Zc)))))))),?_⟩
  refine ⟨_,rfl,_,"int",_,true,rfl,TyOf.int p,Vz,_,rfl,iteT ?_⟩
  refine ⟨_,rfl,_,"bool",_,false,rfl,TyOf.int p,(by rfl),_,rfl,k⟩
theorem Zfu:FnScope ["_law_script","_law_at"] ["_law_script","_law_at"] (Zj Zbc):=⟨rfl,rfl,rfl,by decide +kernel,rfl,by decide +kernel,by decide +kernel⟩
theorem Jf (T:Txt w K mg t):FnOk P w K mg base (CXr P w) 1 t.f_l_cell t.d_l_cell ["_law_script","_law_at"] (Zkg K):=by
 refine T.p_l_cell.F.aR Zfu (fun cdv A outer s H vs Q E hr h=>?_)
 ·obtain ⟨a,ns,n,rfl,hS,hl,h0,h1,k⟩:=h
  refine ⟨_,(Ze (Z8 (Zt Q6 (pv 1) (Zm Zh (by rfl) T.n_len PySem.boot_len (Za (pv 0) Zc)) (Zu _)) (Zg (Zo (Zp Zs (pv 0) (pv 1) (fun _ _=>rfl)))) Zy)
   (Ze (Z8 (Zt Yv (Zm Zh (by rfl) T.n_len PySem.boot_len (Za (pv 0) Zc)) Zd (Zu _)) (Zg (Zo (Zi Ya (Zi Xd Zd (pv 1)) Zd))) Zy)
   (Zg (Zo (Zi Ya (Zi Zz (Zp Zs (pv 0) (Zi Zz (pv 1) (Zm Zh (by rfl) T.n_len PySem.boot_len (Za (pv 0) Zc))) (fun _ _=>rfl)) Zd) (Zi Xd Zd (pv 1))))))),?_⟩
  have el:((ns.map V.int).length:Int)=ns.length:=by simp
  refine ⟨_,rfl,_,rfl,a,_,rfl,.inl hS,_,_,rfl,rfl,_,rfl,?_⟩
  rw [el]
  refine ite2 (fun h=>?_) (fun h=>?_)
  ·have h:n < ns.length:=by simpa using h
   have e:cell ns n=ns.getD n.toNat 0:=if_pos h
   have en:n=(n.toNat:Int):=by omega
   have ei:atI (ns.map V.int) n=some (V.int (ns.getD n.toNat 0)):=by rw [en]; exact Yu (getI (n:=n.toNat) (by omega))
   rw [e] at k
   exact ⟨_,rfl,_,rfl,a,_,_,_,rfl,rfl,hS,ei,k⟩
  ·have h:¬ n < ns.length:=by simpa using h
   have e:cell ns n=if ns.length=0 then 31 * n + 7 else ns.getD (n % ns.length).toNat 0 % 1000003 + 101 * n:=if_neg h
   refine ⟨_,rfl,a,_,rfl,.inl hS,rfl,_,rfl,?_⟩
   rw [el]
   refine ite2 (fun g=>?_) (fun g=>?_)
   ·have g:ns.length=0:=by simpa using g
    refine ⟨_,rfl,_,_,rfl,rfl,.inl ⟨by decide,by decide⟩,_,_,rfl,rfl,?_⟩
    rw [if_pos g] at e
    rw [e] at k; exact k
   ·have g:¬ ns.length=0:=by simpa using g
    have gp:(0:Int) < ns.length:=by omega
    rw [if_neg g] at e
    have m0:=Int.emod_nonneg n (show (ns.length:Int)≠0 by omega)
    have m1:=Int.emod_lt_of_pos n gp
    refine ⟨_,rfl,_,rfl,_,rfl,a,_,rfl,.inl hS,_,_,rfl,rfl,(by rw [el]; exact gp),a,_,_,_,rfl,rfl,hS,(?_:atI _ _=some (V.int (ns.getD (n % ns.length).toNat 0))),_,_,rfl,rfl,(by show (0:Int) < 1000003; decide),_,rfl,_,_,rfl,rfl,.inl ⟨by decide,by decide⟩,_,_,rfl,rfl,?_⟩
    ·rw [el]
     have en:n % (ns.length:Int)=((n % (ns.length:Int)).toNat:Int):=by omega
     rw [en]
     exact Yu (getI (by omega))
    ·rw [e] at k; exact k
theorem Xw:FnScope ["_law_cell_here","_law_many","_law_row","_law_rest","_law_seed"] ["_law_cell_here","_law_many"] (Zj Oo):=⟨rfl,rfl,rfl,by decide +kernel,rfl,by decide +kernel,by decide +kernel⟩
theorem Qu (T:Txt w K mg t):FnOk P w K mg base (CXr P w) 1 t.f_l_numbers t.d_l_numbers ["_law_cell_here","_law_many"] Zed:=by
 refine T.p_l_numbers.F.aR Xw (fun cdv A outer s H vs Q E hr h=>?_)
 ·obtain ⟨c,n,rfl,hn60,k⟩:=h
  refine ⟨_,(Ze (Zq (i:=2) Xw.nd rfl (Or.inl rfl) (Y4 Zc))
   (Ze (Zq (i:=3) Xw.nd rfl (Or.inl rfl) (Zi Qt (pv 0) (Zi Zmt Zd Zd)))
   (Ze (O1 PassesOwn.never (PW.pt (Kr (Zt U6 (pv 3) Zd (Zu _)) (U3 (Zt Q6 (Zm Zh (by rfl) T.n_len PySem.boot_len (Za (pv 2) Zc)) (pv 1) (Zu _))))) (Ze (Xg (Wg PySem.F.plainAttrs_list PySem.F.slot_list_append PySem.F.type_list_append Y2 (pv 2) (Za (Zi Zz (pv 3) Zd) Zc)))
   (Zg (Zq (i:=3) Xw.nd rfl (Or.inl rfl) (Zi Yd (pv 3) Zd)))))
   (Ze (Zq (i:=4) Xw.nd rfl (Or.inl rfl) (Zi Zz (pv 0) Zd))
   (Ze (O1 PassesOwn.never (Zt Q6 (Zm Zh (by rfl) T.n_len PySem.boot_len (Za (pv 2) Zc)) (pv 1) (Zu _)) (Ze (Zq (i:=4) Xw.nd rfl (Or.inl rfl) (Zi Zz (Zi Ya (Zi Ya (Zi Xd (pv 4) Zd) Zd) (Zm Zh (by rfl) T.n_len PySem.boot_len (Za (pv 2) Zc))) Zd))
   (Zg (Xg (Wg PySem.F.plainAttrs_list PySem.F.slot_list_append PySem.F.type_list_append Y2 (pv 2) (Za (Zi Zz (Zi Yd (Zi Zz (Zi Xd (pv 4) Zd) Zd) Zd) Zd) Zc))))))
   (Zg (Zo (pv 2)))))))),?_⟩
  refine ⟨Nat.zero_le _,fun r hr0=>?_⟩
  refine ⟨_,rfl,_,_,rfl,rfl,⟨by decide,by decide,by decide⟩,_,_,rfl,rfl,?_⟩
  show tSeq (O9 _ _) _ _ _ _
  refine Z4 (fun σ H1=>∃ (xs:List Int) (rest:Int),σ=[some (.int c),some (.int n),some (.ref r),some (.int rest),none]∧Same H H1∧H1 r=some (.lst (xs.map V.int))∧xs.length≤n∧(∀ x∈xs,0≤x∧x < 1009)) (fun nx hnx=>?_) ?_
  ·refine ⟨fun m σ H1=>∃ (xs:List Int) (rest:Int),m=n - xs.length∧σ=[some (.int c),some (.int n),some (.ref r),some (.int rest),none]∧Same H H1∧H1 r=some (.lst (xs.map V.int))∧xs.length≤n∧(∀ x∈xs,0≤x∧x < 1009),
    ⟨n,[],_,rfl,rfl,Same.new hr0,Zb,Nat.zero_le _,fun x hx=>absurd hx (by simp)⟩,?_⟩
   rintro m σ H1 ⟨xs,rest,rfl,rfl,sm,h1,hl,hx⟩
   have el:((xs.map V.int).length:Int)=xs.length:=by simp
   refine ⟨_,rfl,_,_,rfl,rfl,_,rfl,?_⟩
   refine ite2 (fun _=>?_) (fun _=>?_)
   ·refine ⟨_,rfl,r,_,rfl,.inl (SqL.of h1),_,rfl,_,_,rfl,rfl,_,rfl,?_⟩
    rw [el]
    refine ite2 (fun g=>?_) (fun _=>?_)
    ·have g:(xs.length:Int) < n:=by simpa using g
     refine ⟨_,fun σ' H' h=>h,?_⟩
     refine ⟨_,rfl,.inl ⟨rfl,_,SqL.of h1⟩,_,rfl,_,_,rfl,rfl,(by show (0:Int) < 1009; decide),r,_,_,rfl,rfl,h1,(by rw [List.length_map]; exact Zx (by omega)),?_⟩
     refine ⟨_,rfl,_,_,rfl,rfl,⟨by decide,by decide⟩,?_⟩
     refine ⟨n - (xs ++ [rest % 1009]).length,?_,xs ++ [rest % 1009],_,rfl,rfl,Same.add sm hr0,?_,?_,?_⟩
     ·rw [List.length_append,List.length_singleton]; omega
     ·rw [Zb,← Zb2]
     ·rw [List.length_append,List.length_singleton]; omega
     ·intro x hm
      rcases List.mem_append.mp hm with z | z
      ·exact hx x z
      ·have:x=rest % 1009:=by simpa using z
       subst this
       omega
    ·exact hnx _ _ ⟨xs,rest,rfl,sm,h1,hl,hx⟩
   ·exact hnx _ _ ⟨xs,rest,rfl,sm,h1,hl,hx⟩
  rintro σ H1 ⟨xs,rest,rfl,sm,h1,hl,hx⟩
  refine ⟨_,rfl,_,_,rfl,rfl,(by show (0:Int) < 2147483629; decide),?_⟩
  show tSeq (O9 _ _) _ _ _ _
  refine Z4 (fun σ H1=>∃ (xs:List Int) (rest seed:Int),σ=[some (.int c),some (.int n),some (.ref r),some (.int rest),some (.int seed)]∧Same H H1∧H1 r=some (.lst (xs.map V.int))∧xs.length=n∧(∀ x∈xs,0≤x∧x < 1009)) (fun nx hnx=>?_) ?_
  ·refine ⟨fun m σ H1=>∃ (xs:List Int) (rest seed:Int),m=n - xs.length∧σ=[some (.int c),some (.int n),some (.ref r),some (.int rest),some (.int seed)]∧Same H H1∧H1 r=some (.lst (xs.map V.int))∧xs.length≤n∧(∀ x∈xs,0≤x∧x < 1009),
    ⟨n - xs.length,xs,rest,_,rfl,rfl,sm,h1,hl,hx⟩,?_⟩
   clear h1 hl hx sm xs rest
   rintro m σ H1 ⟨xs,rest,seed,rfl,rfl,sm,h1,hl,hx⟩
   have el:((xs.map V.int).length:Int)=xs.length:=by simp
   refine ⟨_,rfl,r,_,rfl,.inl (SqL.of h1),_,rfl,_,_,rfl,rfl,_,rfl,?_⟩
   rw [el]
   refine ite2 (fun g=>?_) (fun g=>?_)
   ·have g:(xs.length:Int) < n:=by simpa using g
    refine ⟨_,fun σ' H' h=>h,?_⟩
    refine ⟨_,rfl,_,_,rfl,rfl,.inr ⟨by decide,by decide⟩,_,_,rfl,rfl,_,rfl,r,_,rfl,.inl (SqL.of h1),_,_,rfl,rfl,_,_,rfl,rfl,(by show (0:Int) < 2147483647; decide),?_⟩
    obtain ⟨y,hy⟩:∃ y,y=(seed * 48271 + 12345 + ((xs.map V.int).length:Int)) % 2147483647 * 69621 % 2147483629 / 7 % 1009:=⟨_,rfl⟩
    refine ⟨_,rfl,.inl ⟨rfl,_,SqL.of h1⟩,_,rfl,_,_,rfl,rfl,.inr ⟨by decide,by decide⟩,_,_,rfl,rfl,(by show (0:Int) < 2147483629; decide),_,_,rfl,rfl,⟨by decide,by decide⟩,_,_,rfl,rfl,(by show (0:Int) < 1009; decide),r,_,_,rfl,rfl,h1,(by rw [List.length_map]; exact Zx (by omega)),?_⟩
    refine ⟨n - (xs ++ [y]).length,?_,xs ++ [y],_,_,rfl,rfl,Same.add sm hr0,?_,?_,?_⟩
    ·rw [List.length_append,List.length_singleton]; omega
    ·rw [Zb,← Zb2,hy]
    ·rw [List.length_append,List.length_singleton]; omega
    ·intro x hm
     rcases List.mem_append.mp hm with z | z
     ·exact hx x z
     ·have:x=y:=by simpa using z
      rw [this,hy]
      exact ⟨Int.emod_nonneg _ (by decide),Int.emod_lt_of_pos _ (by decide)⟩
   ·have g:¬ (xs.length:Int) < n:=by simpa using g
    exact hnx _ _ ⟨xs,rest,seed,rfl,sm,h1,by omega,hx⟩
  rintro σ H1 ⟨xs,rest,seed,rfl,sm,h1,hl,hx⟩
  exact ⟨_,rfl,k r xs H1 sm hr0 h1 hl hx⟩
noncomputable def Zkb (K:PySem.W.Frag):Sp:=fun vs H Q _=>∃ (a:Addr) (xs:List Int) (n:Nat) (sh:Int),vs=[.ref a,.int n,.int sh]∧H a=some (.lst (xs.map V.int))∧xs.length=60∧(∀ x∈xs,0≤x∧x < 1009)∧1≤n∧n≤14 ∧
 ∀ (p:Addr) (M:List (Option Nat)) (H':Hp),Same H H'→H p=none→H' p=some (.lst (M.map mV))→M.length=3 * n→(∀ (i j:Nat),M[i]?=some (some j)→M[j]?=some (some i)∧i≠j)→Q (.ref p) H'
theorem map_set {α:Type} (f:α→V) (l:List α) (i:Nat) (x:α):(l.map f).set i (f x)=(l.set i x).map f:=by rw [List.map_set]
theorem Wf {n i:Nat} (h:i < n):ixN n (i:Int)=some i:=by
 unfold ixN
 simp
 omega
theorem Zg6 {α β:Type} (f:α→β):∀ (l:List α) (i:Nat),(l.map f).eraseIdx i=(l.eraseIdx i).map f
 | [],_=>rfl
 | _ :: _,0=>rfl
 | a :: r,i + 1=>by rw [List.map_cons,List.eraseIdx_cons_succ,Zg6 f r i,List.eraseIdx_cons_succ,List.map_cons]
theorem natV (F:List Nat) (i:Nat):(F.map fun (j:Nat)=>V.int j)[i]?=(F[i]?).map fun (j:Nat)=>V.int j:=List.getElem?_map ..
theorem X7:FnScope ["_law_nums","_law_many","_law_share","_law_mates","_law_free_here","_law_at","_law_one","_law_pick","_law_other"] ["_law_nums","_law_many","_law_share"] (Zj Za6):=⟨rfl,rfl,rfl,by decide +kernel,rfl,by decide +kernel,by decide +kernel⟩
theorem Zgf (T:Txt w K mg t):FnOk P w K mg base (CXr P w) 1 t.f_l_sewn t.d_l_sewn ["_law_nums","_law_many","_law_share"] (Zkb K):=by
 refine T.p_l_sewn.F.aR X7 (fun cdv A outer s H vs Q E hr h=>?_)
 ·obtain ⟨a,xs,n,sh,rfl,ha,hl,hx,h1,h2,k⟩:=h
  refine ⟨_,(Ze (Zq (i:=3) X7.nd rfl (Or.inl rfl) (Zi Ku (Y4 (Za W3 Zc)) (Zi Xd Zd (pv 1))))
   (Ze (Zq (i:=4) X7.nd rfl (Or.inl rfl) (Qs rfl T.n_list rfl T.n_range rfl (Za (Zi Xd Zd (pv 1)) Zc)))
   (Ze (Zq (i:=5) X7.nd rfl (Or.inl rfl) Zd)
   (Ze (O1 PassesOwn.never (Zt U6 (Zm Zh (by rfl) T.n_len PySem.boot_len (Za (pv 4) Zc)) Zd (Zu _)) (Ze (Zq (i:=6) X7.nd rfl (Or.inl rfl) (Wg PySem.F.plainAttrs_list PySem.F.slot_list_pop PySem.F.type_list_pop Zbz (pv 4) (Za Zd Zc)))
   (Ze (Zq (i:=7) X7.nd rfl (Or.inl rfl) (Zp Zs (pv 0) (pv 5) (fun _ _=>rfl)))
   (Ze (Zq (i:=5) X7.nd rfl (Or.inl rfl) (Zi Ya (pv 5) Zd))
   (Zg (Z8 (Zt Zjo (Zi Zz (pv 7) Zd) (pv 2) (Zu _)) (Ze (Zq (i:=8) X7.nd rfl (Or.inl rfl) (Wg PySem.F.plainAttrs_list PySem.F.slot_list_pop PySem.F.type_list_pop Zbz (pv 4) (Za (Zi Zz (Zi Yd (pv 7) Zd) (Zm Zh (by rfl) T.n_len PySem.boot_len (Za (pv 4) Zc))) Zc)))
   (Ze (Xn (pv 8) (W1 (pv 3) (pv 6) Xr))
   (Zg (Xn (pv 6) (W1 (pv 3) (pv 8) Xr))))) Zy))))))
   (Zg (Zo (pv 3))))))),?_⟩
  refine ⟨(by show 1≤sizeLine; decide),fun q hq=>?_⟩
  refine ⟨_,rfl,_,_,rfl,rfl,.inl ⟨by decide,by decide⟩,q,_,_,rfl,rfl,Zb,(by omega),(by omega),?_,fun m hm=>?_⟩
  ·have:(3 * (n:Int)).toNat=3 * n:=by omega
   show 1 * (3 * (n:Int)).toNat≤sizeLine
   rw [this,sizeLine_eq]; omega
  have eN:(3 * (n:Int)).toNat=3 * n:=by omega
  have eM:(List.replicate (3 * (n:Int)).toNat [V.non]).flatten=(List.replicate (3 * n) (none:Option Nat)).map mV:=by
   rw [eN,List.flatten_replicate_singleton,List.map_replicate]
   rfl
  refine ⟨_,rfl,_,_,rfl,rfl,.inl ⟨by decide,by decide⟩,3 * n,(congrArg (fun z=>[V.int z]) (by omega:(3 * (n:Int))=((3 * n:Nat):Int))),by omega,fun f hf=>?_⟩
  have hfm:f≠m:=fun z=>by rw [z,Zb] at hf; cases hf
  have hm0:H m=none:=by
   have:m≠q:=fun z=>by rw [z,Zb] at hm; cases hm
   rw [Zf this] at hm; exact hm
  have hf0:H f=none:=by
   rw [Zf hfm] at hf
   have:f≠q:=fun z=>by rw [z,Zb] at hf; cases hf
   rw [Zf this] at hf; exact hf
  have sm0:Same H (upd (upd (upd H q (.lst [.non])) m (.lst (List.replicate (3 * (n:Int)).toNat [V.non]).flatten)) f (.lst ((List.range (3 * n)).map fun (i:Nat)=>V.int i))):=Same.add (Same.add (Same.new hq) hm0) hf0
  show tSeq (O9 _ _) _ _ _ _
  refine Z4 (fun σ H1=>∃ (M:List (Option Nat)) (v4 v5 v6 v7 v8:Option V),σ=[some (.ref a),some (.int n),some (.int sh),some (.ref m),v4,v5,v6,v7,v8]∧Same H H1∧H1 m=some (.lst (M.map mV))∧M.length=3 * n∧∀ (i j:Nat),M[i]?=some (some j)→M[j]?=some (some i)∧i≠j) (fun nx hnx=>?_) ?_
  ·refine ⟨fun c σ H1=>∃ (F:List Nat) (M:List (Option Nat)) (at':Nat) (v6 v7 v8:Option V),c=F.length∧σ=[some (.ref a),some (.int n),some (.int sh),some (.ref m),some (.ref f),some (.int at'),v6,v7,v8]∧Same H H1∧H1 m=some (.lst (M.map mV))∧H1 f=some (.lst (F.map fun (i:Nat)=>V.int i))∧SewOk (3 * n) F M∧at' + F.length≤3 * n,
    ⟨_,List.range (3 * n),List.replicate (3 * n) none,0,none,none,none,rfl,rfl,sm0,?_,Zb,SewOk.start _,by simp⟩,?_⟩
   ·rw [Zf hfm.symm,Zb,eM]
   rintro c σ H1 ⟨F,M,at',v6,v7,v8,rfl,rfl,sm,g1,g2,hs,hat⟩
   refine ⟨_,rfl,f,_,rfl,.inl (SqL.of g2),_,_,rfl,rfl,_,rfl,?_⟩
   rw [List.length_map]
   refine ite2 (fun g=>?_) (fun g=>?_)
   ·have g:1 < F.length:=by have:=of_decide_eq_true g; omega
    obtain ⟨one,F',rfl⟩:∃ one F',F=one :: F':=by
     cases F with
     | nil=>simp at g
     | cons a b=>exact ⟨a,b,rfl⟩
    rw [List.length_cons] at g hat
    refine ⟨_,fun σ' H' h=>h,?_⟩
    refine ⟨_,rfl,.inl ⟨rfl,_,SqL.of g2⟩,f,_,0,0,V.int one,rfl,rfl,g2,by decide,by decide,(by simp [seqIndex?]),rfl,?_⟩
    have e0:((one :: F').map fun (i:Nat)=>V.int i).eraseIdx 0=F'.map fun (i:Nat)=>V.int i:=rfl
    rw [e0]
    have g2':(upd H1 f (.lst (F'.map fun (i:Nat)=>V.int i))) f=some (.lst (F'.map fun (i:Nat)=>V.int i)):=Zb
    have g1':(upd H1 f (.lst (F'.map fun (i:Nat)=>V.int i))) m=some (.lst (M.map mV)):=by rw [Zf hfm.symm]; exact g1
    have sm':Same H (upd H1 f (.lst (F'.map fun (i:Nat)=>V.int i))):=Same.add sm hf0
    generalize upd H1 f (.lst (F'.map fun (i:Nat)=>V.int i))=H2 at g1' g2' sm' ⊢
    have hpick:at' < xs.length:=by omega
    refine ⟨_,rfl,_,rfl,a,_,_,_,rfl,rfl,SqL.of (sm' _ _ ha),Yu (getI hpick),?_⟩
    obtain ⟨p0,p1⟩:=hx _ (List.getElem_mem hpick)
    have ep:xs.getD at' 0=xs[at']:=by rw [List.getD_eq_getElem?_getD,List.getElem?_eq_getElem hpick]; rfl
    rw [ep]
    generalize xs[at']=pick at p0 p1 ⊢
    refine ⟨_,rfl,_,_,rfl,rfl,?_⟩
    refine ⟨_,rfl,_,_,rfl,rfl,(by show (0:Int) < 7; decide),_,rfl,_,_,rfl,rfl,_,rfl,?_⟩
    refine ite2 (fun _=>?_) (fun _=>?_)
    ·-- other=free.pop(..)
     have hF:(0:Int) < F'.length:=by omega
     have k0:=Int.emod_nonneg (pick / 7) (show (F'.length:Int)≠0 by omega)
     have k1:=Int.emod_lt_of_pos (pick / 7) hF
     obtain ⟨kk,hkk⟩:∃ kk:Nat,pick / 7 % (F'.length:Int)=kk:=⟨_,(Int.toNat_of_nonneg k0).symm⟩
     have hkl:kk < F'.length:=by omega
     refine ⟨_,rfl,.inl ⟨rfl,_,SqL.of g2'⟩,_,rfl,_,_,rfl,rfl,⟨by decide,by decide⟩,_,rfl,f,_,rfl,.inl (SqL.of g2'),_,_,rfl,rfl,(by rw [List.length_map]; exact hF),f,_,_,kk,V.int F'[kk],rfl,rfl,g2',?_,?_,?_,?_,?_⟩
     ·rw [List.length_map,hkk]; omega
     ·rw [List.length_map,hkk]; omega
     ·rw [List.length_map,hkk]; simp [seqIndex?]; omega
     ·rw [natV,List.getElem?_eq_getElem hkl]; rfl
     have e1:(F'.map fun (i:Nat)=>V.int i).eraseIdx kk=(F'.eraseIdx kk).map fun (i:Nat)=>V.int i:=by rw [Zg6]
     rw [e1]
     have hp:=hs.pair (List.getElem?_eq_getElem hkl)
     have l1:one < M.length:=by rw [hs.len]; exact (hs.free one List.mem_cons_self).1
     have l2:F'[kk] < M.length:=by rw [hs.len]; exact (hs.free _ (List.mem_cons_of_mem _ (List.getElem_mem hkl))).1
     have g1'':(upd H2 f (.lst ((F'.eraseIdx kk).map fun (i:Nat)=>V.int i))) m=some (.lst (M.map mV)):=by rw [Zf hfm.symm]; exact g1'
     refine ⟨_,rfl,_,rfl,_,rfl,m,_,_,one,rfl,rfl,g1'',(by rw [List.length_map]; exact Wf l1),?_⟩
     refine ⟨_,rfl,_,rfl,_,rfl,m,_,_,F'[kk],rfl,rfl,Zb,(by rw [List.length_set,List.length_map]; exact Wf l2),?_⟩
     refine ⟨(F'.eraseIdx kk).length,?_,F'.eraseIdx kk,(M.set one (some F'[kk])).set F'[kk] (some one),at' + 1,_,_,_,rfl,rfl,Same.add (Same.add (Same.add sm' hf0) hm0) hm0,?_,?_,hp,?_⟩
     ·rw [List.length_eraseIdx_of_lt hkl,List.length_cons]; omega
     ·rw [Zb]
      show some (HO.lst (((M.map mV).set one (mV (some F'[kk]))).set F'[kk] (mV (some one))))=_
      rw [map_set,map_set]
     ·rw [Zf hfm,Zf hfm,Zb]
     ·rw [List.length_eraseIdx_of_lt hkl]; omega
    ·exact ⟨F'.length,by rw [List.length_cons]; omega,F',M,at' + 1,_,_,_,rfl,rfl,sm',g1',g2',hs.skip,by omega⟩
   ·exact hnx _ _ ⟨M,_,_,_,_,_,rfl,sm,g1,hs.len,hs.inv⟩
  rintro σ H1 ⟨M,v4,v5,v6,v7,v8,rfl,sm,g1,hl',hi'⟩
  exact ⟨_,rfl,k m M H1 sm hm0 g1 hl' hi'⟩
end
end KT
set_option maxHeartbeats 4000000
namespace KT
open PySem L2
theorem Xq {lo:Int} {n:Nat} {g:TG} {tt:TT} {tb:TB} {R:St→Hp→Prop} {σ:St} {H:Hp} (Pv:Nat→St→Hp→Prop) (h0:Pv 0 σ H)
  (hs:∀ (i:Nat) σ H,i < n→Pv i σ H→g (.int (lo + i)) σ H fun σ2 H2=>tt σ2 H2 fun b H3=>if b=true then tb σ2 H3 (Pv (i + 1)) else Pv (i + 1) σ2 H3) (hd:∀ σ H,Pv n σ H→R σ H):Wx (Itr lo n) g tt tb R σ H:=by
 refine ⟨fun i m σ H=>m=n - i∧i≤n∧Pv i σ H,⟨n,by simp,Nat.zero_le _,h0⟩,?_⟩
 rintro i m σ H ⟨rfl,hi,p⟩
 by_cases hlt:i < n
 ·refine .inr ⟨hlt,Pv (i + 1),fun σ' H' p'=>⟨n - (i + 1),by omega,rfl,hlt,p'⟩,fun x H' y=>?_⟩
  obtain ⟨e,y⟩:=y
  subst e y
  exact hs i σ _ hlt p
 ·have e:i=n:=by omega
  subst e
  exact .inl ⟨Nat.le_refl _,hd σ H p⟩
theorem Y9 {K:PySem.W.Frag} {a:Addr} {xs:List V} {g:TG} {tt:TT} {tb:TB} {R:St→Hp→Prop} {σ:St} {H:Hp} (Pv:Nat→St→Hp→Prop) (h0:Pv 0 σ H) (hl:∀ i σ H,i≤xs.length→Pv i σ H→SqL K H a xs)
  (hs:∀ (i:Nat) x σ H,xs[i]?=some x→Pv i σ H→g x σ H fun σ2 H2=>tt σ2 H2 fun b H3=>if b=true then tb σ2 H3 (Pv (i + 1)) else Pv (i + 1) σ2 H3) (hd:∀ σ H,Pv xs.length σ H→R σ H):Wx (Itl K a) g tt tb R σ H:=by
 refine ⟨fun i m σ H=>m=xs.length - i∧i≤xs.length∧Pv i σ H,⟨xs.length,by simp,Nat.zero_le _,h0⟩,?_⟩
 rintro i m σ H ⟨rfl,hi,p⟩
 have q:=hl i σ H hi p
 by_cases hlt:i < xs.length
 ·refine .inr ⟨⟨xs,xs[i],q,by simp [hlt]⟩,Pv (i + 1),fun σ' H' p'=>⟨xs.length - (i + 1),by omega,rfl,hlt,p'⟩,fun x H' y=>?_⟩
  obtain ⟨e,y⟩:=y
  subst e
  exact hs i x σ _ (y xs q) p
 ·have e:i=xs.length:=by omega
  subst e
  exact .inl ⟨⟨xs,q,Nat.le_refl _⟩,hd σ H p⟩
theorem Zb3 {K:PySem.W.Frag} {a:Addr} {xs:List V} {g:TG} {tt:TT} {tb:TB} {R:St→Hp→Prop} {σ:St} {H:Hp} (Pv:Nat→St→Hp→Prop) (h0:Pv 0 σ H) (hl:∀ i σ H,i≤xs.length→Pv i σ H→SqT K H a xs)
  (hs:∀ (i:Nat) x σ H,xs[i]?=some x→Pv i σ H→g x σ H fun σ2 H2=>tt σ2 H2 fun b H3=>if b=true then tb σ2 H3 (Pv (i + 1)) else Pv (i + 1) σ2 H3) (hd:∀ σ H,Pv xs.length σ H→R σ H):Wx (Itt K a) g tt tb R σ H:=by
 refine ⟨fun i m σ H=>m=xs.length - i∧i≤xs.length∧Pv i σ H,⟨xs.length,by simp,Nat.zero_le _,h0⟩,?_⟩
 rintro i m σ H ⟨rfl,hi,p⟩
 have q:=hl i σ H hi p
 by_cases hlt:i < xs.length
 ·refine .inr ⟨⟨xs,xs[i],q,by simp [hlt]⟩,Pv (i + 1),fun σ' H' p'=>⟨xs.length - (i + 1),by omega,rfl,hlt,p'⟩,fun x H' y=>?_⟩
  obtain ⟨e,y⟩:=y
  subst e
  exact hs i x σ _ (y xs q) p
 ·have e:i=xs.length:=by omega
  subst e
  exact .inl ⟨⟨xs,q,Nat.le_refl _⟩,hd σ H p⟩
noncomputable def row3 (ns:List Int) (k:Nat):List V:=[.int (ns.getD (3 * k) 0),.int (ns.getD (3 * k + 1) 0),.int (ns.getD (3 * k + 2) 0)]
noncomputable def Yr (H:Hp) (r:Addr) (ns:List Int):Prop:=∃ ts:List Addr,H r=some (.lst (ts.map V.ref))∧ns.length=3 * ts.length∧∀ (k:Nat) (t:Addr),ts[k]?=some t→H t=some (.tup (row3 ns k))
theorem Yr.same {H H':Hp} {r:Addr} {ns:List Int} (h:Yr H r ns) (s:Same H H'):Yr H' r ns:=by
 obtain ⟨ts,h1,h2,h3⟩:=h
 exact ⟨ts,s _ _ h1,h2,fun k t e=>s _ _ (h3 k t e)⟩
noncomputable def Zkd:Sp:=fun vs H Q _=>∃ (a:Addr) (M:List (Option Nat)) (n:Nat) (st sp:Int),vs=[.ref a,.int st,.int sp]∧H a=some (.lst (M.map mV))∧M.length=3 * n∧1≤n∧n≤14∧(∀ (i j:Nat),M[i]?=some (some j)→M[j]?=some (some i)∧i≠j)∧sp∈Vs ∧
 ∀ (p:Addr) (H':Hp),Same H H'→H p=none→Yr H' p (flat M st sp)→Q (.ref p) H'
theorem Oj {t:Int} (h:t∈Vs):-(2 ^ 64) < t∧t < 2 ^ 64:=by
 simp only [Vs,List.mem_cons,List.not_mem_nil,or_false] at h
 rcases h with rfl | rfl | rfl | rfl | rfl | rfl | rfl | rfl <;> decide
theorem Zmy {M:List (Option Nat)} {i:Nat} (h:i < M.length):atI (M.map mV) (0 + (i:Int))=some (mV M[i]):=by
 rw [Int.zero_add]
 exact Yu (by rw [List.getElem?_map,List.getElem?_eq_getElem h]; rfl)
section
variable {P:Program} {w:World} {K:PySem.W.Frag} {mg:Str→Option Value} {base:Heap} {t:Adr}
theorem Q1:FnScope ["_law_mates","_law_start","_law_step","_law_flat","_law_at","_law_mate"] ["_law_mates","_law_start","_law_step"] (Zj Za8):=⟨rfl,rfl,rfl,by decide +kernel,rfl,by decide +kernel,by decide +kernel⟩
theorem Zgg (T:Txt w K mg t):FnOk P w K mg base (CXr P w) 1 t.f_l_rows t.d_l_rows ["_law_mates","_law_start","_law_step"] Zkd:=by
 refine T.p_l_rows.F.aR Q1 (fun cdv A outer s H vs Q E hr h=>?_)
 ·obtain ⟨a,M,n,st,sp,rfl,ha,hM,h1,h2,hi,hsp,k⟩:=h
  refine ⟨_,(Ze (Zq (i:=3) Q1.nd rfl (Or.inr rfl) (Y4 Zc))
   (Ze (Yg PassesOwn.never rfl (Z7 rfl T.n_range (Za (Zm Zh (by rfl) T.n_len PySem.boot_len (Za (pv 0) Zc)) Zc)) (Zl (i:=4) Q1.nd rfl (Or.inl rfl)) (Ze (Zq (i:=5) Q1.nd rfl (Or.inl rfl) (Zp Zs (pv 0) (pv 4) (fun _ _=>rfl)))
   (Zg (Z8 (PW.pt (Kr (Zt Qj (pv 5) W3 (Zu _)) (U3 (Zt Q6 (pv 5) (pv 4) (Zu _))))) (Zg (Xg (Wg PySem.F.plainAttrs_list PySem.F.slot_list_append PySem.F.type_list_append Y2 (pv 3) (Za (Zp Zs (pv 3) (pv 5) (fun _ _=>rfl)) Zc)))) (Zg (Xg (Wg PySem.F.plainAttrs_list PySem.F.slot_list_append PySem.F.type_list_append Y2 (pv 3) (Za (Zi Zz (Zi Ya (pv 1) (Zi Xd (pv 2) (pv 4))) Zd) Zc))))))))
   (Zg (Zo (Y0 (ts:=["_law_k"]) (fv:=[("_law_flat",3)]) ⟨rfl,by decide +kernel,by decide +kernel,Yh (by rfl),⟨⟨rfl,rfl,Or.inl rfl⟩,trivial⟩⟩ rfl (Z7 rfl T.n_range (Za (Zi Yd (Zm Zh (by rfl) T.n_len PySem.boot_len (Za (pv 0) Zc)) Zd) Zc)) (fun _ _ _ _=>(Zl (i:=0) (show List.Nodup (["_law_k","_law_flat"]:List Str) from by decide +kernel) rfl (Or.inl rfl) (Or.inr rfl))) (fun _ _ _ _=>Y1) (fun _ _ _=>rfl) (fun _ _ _ _ _ _=>Yj (Y8 (Za (Zp (Yw K) (pv 1) (Zi Xd Zd (pv 0)) (fun _ _=>rfl)) (Za (Zp (Yw K) (pv 1) (Zi Ya (Zi Xd Zd (pv 0)) Zd) (fun _ _=>rfl)) (Za (Zp (Yw K) (pv 1) (Zi Ya (Zi Xd Zd (pv 0)) Zd) (fun _ _=>rfl)) Zc)))))))))),?_⟩
  refine ⟨Nat.zero_le _,fun f hf=>?_⟩
  have eL:(((M.map mV).length:Nat):Int).toNat=M.length:=by simp
  have ha1:(upd H f (.lst [])) a=some (.lst (M.map mV)):=by rw [Zf (Zk ha hf)]; exact ha
  dsimp only [Zn]
  show tSeq (tFor _ _ _) _ _ _ _
  refine Z4 (fun σ H1=>∃ (v4 v5:Option V),σ=[some (.ref a),some (.int st),some (.int sp),some (.ref f),v4,v5]∧Same H H1∧H1 f=some (.lst ((flat M st sp).map V.int))) (fun nx hnx=>?_) ?_
  ·refine ⟨_,rfl,a,_,rfl,.inl (SqL.of ha1),_,rfl,by omega,by rw [List.length_map]; omega,?_⟩
   rw [eL]
   refine Yy (n:=M.length) (fun i σ H1=>∃ (v4 v5:Option V),σ=[some (.ref a),some (.int st),some (.int sp),some (.ref f),v4,v5]∧Same H H1∧H1 f=some (.lst (((List.range i).map fun i=>nm st sp (rep M i)).map V.int))) ⟨none,none,rfl,Same.new hf,Zb⟩ ?_ ?_
   ·rintro i σ H1 hlt ⟨v4,v5,rfl,sm,hfl⟩
    refine ⟨_,rfl,_,rfl,a,_,_,_,rfl,rfl,SqL.of (sm _ _ ha),Zmy hlt,?_⟩
    have fin:∀ x:Int,x=nm st sp (rep M i)→(upd H1 f (.lst (((List.range i).map fun i=>nm st sp (rep M i)).map V.int ++ [V.int x]))) f=some (.lst (((List.range (i + 1)).map fun i=>nm st sp (rep M i)).map V.int)):=fun x hx=>by
     rw [Zb,hx,List.range_succ]
     simp
    have hlen:(((List.range i).map fun i=>nm st sp (rep M i)).map V.int).length < sizeLine:=by
     rw [List.length_map,List.length_map,List.length_range]; exact Zx (by omega)
    refine ⟨_,rfl,rfl,_,rfl,?_⟩
    cases e:M[i] with
    | none =>
     have er:rep M i=i:=by unfold rep; rw [List.getElem?_eq_getElem hlt,e]
     refine iteF ?_
     refine iteF ?_
     refine ⟨_,rfl,.inl ⟨rfl,_,SqL.of hfl⟩,_,rfl,_,rfl,_,rfl,_,_,rfl,rfl,.inl (Oj hsp),_,_,rfl,rfl,_,_,rfl,rfl,(by show (0:Int) < 10000; decide),f,_,_,rfl,rfl,hfl,hlen,?_⟩
     exact ⟨_,_,rfl,Same.add sm hf,fin _ (by rw [er]; unfold nm; rw [Int.zero_add])⟩
    | some j =>
     have hMi:M[i]?=some (some j):=by rw [List.getElem?_eq_getElem hlt,e]
     refine iteT ?_
     refine ⟨_,rfl,_,rfl,_,_,rfl,rfl,_,rfl,?_⟩
     refine ite2 (fun g=>?_) (fun g=>?_)
     ·have g:j < i:=by have:=of_decide_eq_true g; omega
      have er:rep M i=j:=by unfold rep; rw [hMi]; exact if_pos g
      have erj:rep M j=j:=by unfold rep; rw [(hi i j hMi).1]; exact if_neg (by omega)
      have ej:atI (((List.range i).map fun i=>nm st sp (rep M i)).map V.int) (j:Int)=some (V.int (nm st sp (rep M i))):=by
       refine Yu ?_
       rw [List.getElem?_map,List.getElem?_map,List.getElem?_range g,er]
       show some (V.int (nm st sp (rep M j)))=_
       rw [erj]
      refine ⟨_,rfl,.inl ⟨rfl,_,SqL.of hfl⟩,_,rfl,_,rfl,f,_,_,_,rfl,rfl,SqL.of hfl,ej,f,_,_,rfl,rfl,hfl,hlen,?_⟩
      exact ⟨_,_,rfl,Same.add sm hf,fin _ rfl⟩
     ·have g:¬ j < i:=by
       have:¬ ((j:Int) < 0 + (i:Int)):=fun z=>g (decide_eq_true z)
       omega
      have er:rep M i=i:=by unfold rep; rw [hMi]; exact if_neg g
      refine ⟨_,rfl,.inl ⟨rfl,_,SqL.of hfl⟩,_,rfl,_,rfl,_,rfl,_,_,rfl,rfl,.inl (Oj hsp),_,_,rfl,rfl,_,_,rfl,rfl,(by show (0:Int) < 10000; decide),f,_,_,rfl,rfl,hfl,hlen,?_⟩
      exact ⟨_,_,rfl,Same.add sm hf,fin _ (by rw [er]; unfold nm; rw [Int.zero_add])⟩
   ·rintro σ H1 ⟨v4,v5,rfl,sm,hfl⟩
    exact hnx _ _ ⟨v4,v5,rfl,sm,hfl⟩
  rintro σ H1 ⟨v4,v5,rfl,sm,hfl⟩
  refine ⟨_,rfl,a,_,rfl,.inl (SqL.of (sm _ _ ha)),_,_,rfl,rfl,⟨by decide,by decide⟩,_,rfl,by rw [List.length_map]; omega,by rw [List.length_map]; omega,fun D hD=>?_⟩
  have eD:((((M.map mV).length:Nat):Int) / 3).toNat=n:=by rw [List.length_map,hM]; omega
  have hD0:H D=none:=sm.free hD
  have hfD:f≠D:=fun z=>by rw [z] at hfl; rw [hD] at hfl; cases hfl
  have hlf:(flat M st sp).length=3 * n:=by unfold flat; simp [hM]
  show Wx (Itr 0 ((((M.map mV).length:Nat):Int) / 3).toNat) _ _ _ _ _ _
  rw [eD]
  refine Xq (fun i σ H2=>∃ (ts:List Addr) (v:Option V),σ=[v,some (.ref f)]∧Same H H2∧H2 D=some (.lst (ts.map V.ref))∧ts.length=i∧H2 f=some (.lst ((flat M st sp).map V.int))∧∀ (k:Nat) (t:Addr),ts[k]?=some t→H2 t=some (.tup (row3 (flat M st sp) k)))
   ⟨[],none,rfl,Same.add sm hD0,Zb,rfl,by rw [Zf hfD]; exact hfl,fun k t z=>by simp at z⟩ ?_ ?_
  ·rintro i σ H2 hlt ⟨ts,v,rfl,sm2,g1,hl2,g2,g3⟩
   have at':∀ (c:Nat) (z:Int),c < 3→z=3 * (0 + (i:Int)) + c→atI ((flat M st sp).map V.int) z=some (V.int ((flat M st sp).getD (3 * i + c) 0)):=fun c z hc hz=>by
    have e:z=((3 * i + c:Nat):Int):=by omega
    rw [e]
    exact Yu (getI (by omega))
   dsimp only [Zn,tYes]
   rw [if_pos rfl]
   refine ⟨_,rfl,_,rfl,_,_,rfl,rfl,.inl ⟨by decide,by decide⟩,f,_,_,_,rfl,rfl,SqL.of g2,at' 0 _ (by decide) (by simp),?_⟩
   refine ⟨_,rfl,_,rfl,_,_,rfl,rfl,.inl ⟨by decide,by decide⟩,_,_,rfl,rfl,f,_,_,_,rfl,rfl,SqL.of g2,at' 1 _ (by decide) rfl,?_⟩
   refine ⟨_,rfl,_,rfl,_,_,rfl,rfl,.inl ⟨by decide,by decide⟩,_,_,rfl,rfl,f,_,_,_,rfl,rfl,SqL.of g2,at' 2 _ (by decide) rfl,?_⟩
   refine ⟨(by show 3≤sizeLine; decide),fun q hq=>?_⟩
   have hqD:q≠D:=fun z=>by rw [z,g1] at hq; cases hq
   have hqf:q≠f:=fun z=>by rw [z,g2] at hq; cases hq
   have hq0:H q=none:=sm2.free hq
   refine ⟨_,by rw [Zf (Ne.symm hqD)]; exact g1,(by rw [List.length_map]; exact Zx (by omega)),ts ++ [q],_,rfl,Same.add (Same.add sm2 hq0) hD0,?_,?_,?_,?_⟩
   ·rw [Zb]; simp
   ·rw [List.length_append,List.length_singleton,hl2]
   ·rw [Zf hfD,Zf (Ne.symm hqf)]; exact g2
   ·intro k t z
    by_cases hk:k < ts.length
    ·rw [List.getElem?_append_left hk] at z
     have g:=g3 k t z
     rw [Zf (fun e=>by rw [e,g1] at g; cases g),Zf (Zk g hq)]
     exact g
    ·have hk2:k=ts.length:=by
      have:=(List.getElem?_eq_some_iff.mp z).1
      rw [List.length_append,List.length_singleton] at this
      omega
     subst hk2
     have:t=q:=by simpa using z.symm
     subst this
     rw [Zf hqD,Zb,hl2]
     rfl
  ·rintro σ H2 ⟨ts,v,rfl,sm2,g1,hl2,g2,g3⟩
   exact k D H2 sm2 hD0 ⟨ts,g1,by rw [hlf,hl2],g3⟩
end
end KT
set_option maxHeartbeats 4000000
namespace KT
open PySem L2
theorem at4 {i:Int} (h0:0≤i) (h1:i < 4):∃ sh:Int,atI [V.int 0,V.int 0,V.int 1,V.int 3] i=some (V.int sh):=by
 obtain rfl | rfl | rfl | rfl:i=0∨i=1∨i=2∨i=3:=by omega
 all_goals exact ⟨_,rfl⟩
theorem at8 {i:Int} (h0:0≤i) (h1:i < 8):∃ sp:Int,sp∈Vs∧atI [V.int 1,V.int 3,V.int 7,V.int 9,V.int 37,V.int 1009,V.int 3333,V.int 9999] i=some (V.int sp):=by
 obtain rfl | rfl | rfl | rfl | rfl | rfl | rfl | rfl:i=0∨i=1∨i=2∨i=3∨i=4∨i=5∨i=6∨i=7:=by omega
 all_goals exact ⟨_,by decide,rfl⟩
noncomputable def Zka (K:PySem.W.Frag):Sp:=fun vs H Q _=>∃ (a:Addr) (ns:List Int),vs=[.ref a]∧SqL K H a (ns.map V.int)∧ns.length≤63 ∧
 ∀ (p m r:Addr) (M:List (Option Nat)) (nms:List Int) (H':Hp),Same H H'→H' p=some (.tup [.ref m,.ref r])→H' m=some (.lst (M.map mV))→Yr H' r nms→TD M nms→M.length≤42→H m=none→H r=none→Q (.ref p) H'
section
variable {P:Program} {w:World} {K:PySem.W.Frag} {mg:Str→Option Value} {base:Heap} {t:Adr}
theorem X6:FnScope ["_law_script","_law_head","_law_many","_law_names","_law_share","_law_mates","_law_step"] ["_law_script"] (Zj Za5):=⟨rfl,rfl,rfl,by decide +kernel,rfl,by decide +kernel,by decide +kernel⟩
theorem Zge (T:Txt w K mg t):FnOk P w K mg base (CXr P w) 2 t.f_l_tent t.d_l_tent ["_law_script"] (Zka K):=by
 refine T.p_l_tent.F.aR X6 (fun cdv A outer s H vs Q E hr h=>?_)
 ·obtain ⟨a,ns,rfl,hS,hl,k⟩:=h
  refine ⟨_,(Ze (Zq (i:=1) X6.nd rfl (Or.inl rfl) (pcT (Jf T) hr T.p_l_cell (Za (pv 0) (Za Zd Zc))))
   (Ze (Zq (i:=2) X6.nd rfl (Or.inl rfl) (Zi Ya Zd (Zi Zz (pv 1) Zd)))
   (Ze (Z8 (Zt Yv (Zi Zz (Zi Yd (pv 1) Zd) Zd) Zd (Zu _)) (Zg (Zq (i:=2) X6.nd rfl (Or.inl rfl) (Zi Ya Zd (Zi Zz (Zi Yd (pv 1) Zd) Zd)))) Zy)
   (Ze (Zq (i:=3) X6.nd rfl (Or.inl rfl) (pcT (Jf T) hr T.p_l_cell (Za (pv 0) (Za Zd Zc))))
   (Ze (Zq (i:=4) X6.nd rfl (Or.inl rfl) (Zp Jh (Y8 (Za Zd (Za Zd (Za Zd (Za Zd Zc))))) (Zi Zz (pv 3) Zd) (fun _ _=>rfl)))
   (Ze (Zq (i:=5) X6.nd rfl (Or.inl rfl) (pcT (Zgf T) hr T.p_l_sewn (Za (pcT (Qu T) hr T.p_l_numbers (Za (pcT (Jf T) hr T.p_l_cell (Za (pv 0) (Za Zd Zc))) (Za Zd Zc))) (Za (pv 2) (Za (pv 4) Zc)))))
   (Ze (Zq (i:=6) X6.nd rfl (Or.inl rfl) (Zp Jh (Y8 (Za Zd (Za Zd (Za Zd (Za Zd (Za Zd (Za Zd (Za Zd (Za Zd Zc))))))))) (Zi Zz (Zi Yd (pv 3) Zd) Zd) (fun _ _=>rfl)))
   (Zg (Zo (Y8 (Za (pv 5) (Za (pcT (Zgg T) hr T.p_l_rows (Za (pv 5) (Za (Zi Zz (Zi Yd (pv 3) Zd) Zd) (Za (pv 6) Zc)))) Zc)))))))))))),?_⟩
  refine ⟨_,rfl,a,ns,0,rfl,hS,hl,by decide,by decide,?_⟩
  generalize cell ns 0=hd
  refine ⟨_,rfl,_,_,rfl,rfl,(by show (0:Int) < 6; decide),_,_,rfl,rfl,?_⟩
  dsimp only [Zn]
  show tSeq (tIfS _ _ _) _ _ _ _
  refine Z4 (fun σ H1=>∃ n:Nat,1≤n∧n≤14∧σ=[some (.ref a),some (.int hd),some (.int n),none,none,none,none]∧H1=H) (fun nx hnx=>?_) ?_
  ·refine ⟨_,rfl,_,_,rfl,rfl,⟨by decide,by decide⟩,_,_,rfl,rfl,(by show (0:Int) < 9; decide),rfl,_,rfl,?_⟩
   refine ite2 (fun _=>?_) (fun _=>?_)
   ·refine ⟨_,rfl,_,_,rfl,rfl,⟨by decide,by decide⟩,_,_,rfl,rfl,(by show (0:Int) < 8; decide),_,_,rfl,rfl,?_⟩
    have e:(7 + hd / 54 % 8:Int)=((7 + (hd / 54 % 8).toNat:Nat):Int):=by omega
    exact hnx _ _ ⟨7 + (hd / 54 % 8).toNat,by omega,by omega,by rw [← e]; rfl,rfl⟩
   ·have e:(1 + hd % 6:Int)=((1 + (hd % 6).toNat:Nat):Int):=by omega
    exact hnx _ _ ⟨1 + (hd % 6).toNat,by omega,by omega,by rw [← e]; rfl,rfl⟩
  rintro σ H1 ⟨n,n1,n2,rfl,rfl⟩
  refine ⟨_,rfl,a,ns,2,rfl,hS,hl,by decide,by decide,?_⟩
  generalize cell ns 2=nam
  refine ⟨(by show 4≤sizeLine; decide),fun q hq=>?_⟩
  have m4:0≤nam % 4∧nam % 4 < 4:=by omega
  obtain ⟨sh,esh⟩:=at4 m4.1 m4.2
  refine ⟨_,rfl,_,_,rfl,rfl,(by show (0:Int) < 4; decide),q,_,_,_,rfl,rfl,SqT.of Zb,esh,?_⟩
  have s1:Same H1 (upd H1 q (.tup [V.int 0,V.int 0,V.int 1,V.int 3])):=Same.new hq
  refine ⟨_,rfl,a,ns,1,rfl,s1.seq hS,hl,by decide,by decide,?_⟩
  refine ⟨_,60,rfl,by decide,fun p xs H2 s2 hp h2 h60 hx=>?_⟩
  refine ⟨_,rfl,_,rfl,p,xs,n,sh,rfl,h2,h60,hx,n1,n2,fun m M H3 s3 hm hM hlen hinv=>?_⟩
  have s13:Same H1 H3:=(s1.trans s2).trans s3
  have hm0:H1 m=none:=(s1.trans s2).free hm
  refine ⟨(by show 8≤sizeLine; decide),fun q2 hq2=>?_⟩
  have m8:0≤nam / 4 % 8∧nam / 4 % 8 < 8:=by omega
  obtain ⟨sp,hsp,esp⟩:=at8 m8.1 m8.2
  refine ⟨_,rfl,_,_,rfl,rfl,⟨by decide,by decide⟩,_,_,rfl,rfl,(by show (0:Int) < 8; decide),q2,_,_,_,rfl,rfl,SqT.of Zb,esp,?_⟩
  have s14:Same H1 (upd H3 q2 (.tup [V.int 1,V.int 3,V.int 7,V.int 9,V.int 37,V.int 1009,V.int 3333,V.int 9999])):=Same.add s13 (s13.free hq2)
  have hM4:(upd H3 q2 (.tup [V.int 1,V.int 3,V.int 7,V.int 9,V.int 37,V.int 1009,V.int 3333,V.int 9999])) m=some (.lst (M.map mV)):=by rw [Zf (Zk hM hq2)]; exact hM
  refine ⟨_,rfl,_,rfl,_,rfl,_,_,rfl,rfl,⟨by decide,by decide⟩,_,_,rfl,rfl,(by show (0:Int) < 10000; decide),_,rfl,m,M,n,_,sp,rfl,hM4,hlen,n1,n2,hinv,hsp,fun r H5 s5 hr5 hrow=>?_⟩
  refine ⟨(by show 2≤sizeLine; decide),fun p5 hp5=>?_⟩
  have s15:=s14.trans s5
  have hr0:H1 r=none:=s14.free hr5
  refine k p5 m r M _ _ (Same.add s15 (s15.free hp5)) Zb ?_ (hrow.same (Same.new hp5)) (Zj1 n1 n2 hlen hinv hsp) (by omega) hm0 hr0
  rw [Zf (Zk (s5 _ _ hM4) hp5)]
  exact s5 _ _ hM4
end
end KT
set_option maxHeartbeats 4000000
namespace KT
open PySem L2
noncomputable def spk (ns:List Int) (n:Nat) (f:Int→Addr):List (Key × V):=(keys ns n).map fun x=>((Sum.inl x:Key),V.ref (f x))
structure SpotsF (H:Hp) (ns:List Int) (n:Nat) (f:Int→Addr):Prop where
 inj:∀ x∈keys ns n,∀ y∈keys ns n,f x=f y→x=y
 at':∀ x∈keys ns n,H (f x)=some (.lst ((pl ns n x).map nV))
noncomputable def Zck:Sp:=fun vs H Q _=>∃ (a:Addr) (M:List (Option Nat)) (ns:List Int),vs=[.ref a]∧H a=some (.lst (ns.map V.int))∧TD M ns∧ns.length≤120 ∧
 ∀ (d:Addr) (f:Int→Addr) (H':Hp),Same H H'→H d=none→H' d=some (.dK (spk ns ns.length f))→SpotsF H' ns ns.length f→(∀ x∈keys ns ns.length,H (f x)=none)→Q (.ref d) H'
section
variable {P:Program} {w:World} {K:PySem.W.Frag} {mg:Str→Option Value} {base:Heap} {t:Adr}
theorem J0:FnScope ["names_at","spots","place","name"] ["names_at"] (Zj Ki):=⟨rfl,rfl,rfl,by decide +kernel,rfl,by decide +kernel,by decide +kernel⟩
theorem Zct (T:Txt w K mg t):FnOk P w K mg base (CXr P w) 1 t.f_spots_of t.d_spots_of ["names_at"] Zck:=by
 refine T.p_spots_of.F.aR J0 (fun cdv A outer s H vs Q E hr h=>?_)
 ·obtain ⟨a,M,ns,rfl,ha,td,hl,k⟩:=h
  have hu:=Zab hr
  refine ⟨_,(Ze (Zq (i:=1) J0.nd rfl (Or.inl rfl) Zie)
   (Ze (Yg PassesOwn.never rfl (Zkv rfl T.n_enumerate (Za (pv 0) Zc)) (W0 rfl (Z2 (Zl (i:=2) J0.nd rfl (Or.inl rfl)) (Z2 (Zl (i:=3) J0.nd rfl (Or.inl rfl)) X1))) (Ze (Z8 (PW.pt (Qc (Zt Q6 (pv 3) Zd (Zu _)) (J3 (Zt U6 (pv 3) (Zdm (v:=.int 9999) rfl T.c_GREATEST_NAME ⟨_,rfl⟩) (Zu _))))) Uo Zy)
   (Ze (Xg (Wg PySem.F.plainAttrs_list PySem.F.slot_list_append PySem.F.type_list_append Y2 (Zid (pv 1) (pv 3) (Y4 Zc) ⟨rfl,rfl,rfl,rfl⟩) (Za (pv 2) Zc)))
   (Zg (Z8 (Zt U6 (Zm Zh (by rfl) T.n_len PySem.boot_len (Za (Zdn hu (pv 1) (pv 3) (fun _ _=>rfl)) Zc)) Zd (Zu _)) Uo Zy)))))
   (Zg (Zo (pv 1))))),?_⟩
  intro d hd
  have hda:a≠d:=Zk ha hd
  dsimp only [Zn]
  show tSeq (tFor _ _ _) _ _ _ _
  refine Z4 (fun σ H1=>∃ (f:Int→Addr) (v2 v3:Option V),σ=[some (.ref a),some (.ref d),v2,v3]∧Same H H1∧H1 d=some (.dK (spk ns ns.length f))∧SpotsF H1 ns ns.length f∧∀ x∈keys ns ns.length,H (f x)=none) (fun nx hnx=>?_) ?_
  ·refine ⟨_,rfl,a,rfl,⟨_,SqL.of (by rw [Zf hda]; exact ha)⟩,?_⟩
   have el:(ns.map V.int).length=ns.length:=by simp
   refine Zi7 (xs:=ns.map V.int) (fun i σ H1=>∃ (f:Int→Addr) (v2 v3:Option V),σ=[some (.ref a),some (.ref d),v2,v3]∧Same H H1∧H1 d=some (.dK (spk ns i f))∧SpotsF H1 ns i f∧∀ x∈keys ns i,H (f x)=none)
    ⟨fun _=>0,none,none,rfl,Same.new hd,Zb,⟨fun x hx=>by simp [keys] at hx,fun x hx=>by simp [keys] at hx⟩,fun x hx=>by simp [keys] at hx⟩ ?_ ?_ ?_
   ·rintro i σ H1 _ ⟨f,v2,v3,rfl,sm,_⟩
    exact SqL.of (sm _ _ ha)
   ·rintro i x0 σ H1 q hx hq ⟨f,v2,v3,rfl,sm,hd1,sf,hf0⟩
    have hi:i < ns.length:=by rw [← el]; exact (List.getElem?_eq_some_iff.mp hx).1
    obtain ⟨x,hx'⟩:∃ x,ns[i]?=some x:=⟨_,List.getElem?_eq_getElem hi⟩
    obtain rfl:x0=V.int x:=by rw [List.getElem?_map,hx'] at hx; exact (Option.some.inj hx).symm
    refine ⟨q,_,rfl,SqT.of Zb,rfl,_,_,rfl,_,_,rfl,rfl,?_⟩
    obtain ⟨x0,x1⟩:=td.rng i x hx'
    refine ⟨_,rfl,_,_,rfl,rfl,_,rfl,?_⟩
    rw [decide_eq_false (by omega:¬ x < 0)]
    refine iteF ?_
    refine ⟨_,rfl,_,_,rfl,rfl,_,rfl,?_⟩
    rw [decide_eq_false (by omega:¬ x > 9999)]
    refine iteF ?_
    have hdq:d≠q:=Zk hd1 hq
    have hd2:(upd H1 q (.tup [.int i,.int x])) d=some (.dK (spk ns i f)):=by rw [Zf hdq]; exact hd1
    dsimp only [X8]
    show tSeq (Zji _) _ _ _ _
    refine Z4 (fun σ H2=>∃ (f:Int→Addr),σ=[some (.ref a),some (.ref d),some (.int i),some (.int x)]∧Same H H2∧H2 d=some (.dK (spk ns (i + 1) f))∧SpotsF H2 ns (i + 1) f∧∀ x∈keys ns (i + 1),H (f x)=none) (fun nx2 hnx2=>?_) ?_
    ·refine ⟨_,rfl,d,rfl,.inl ⟨_,.inl hd2⟩,_,rfl,Nat.zero_le _,fun l hl'=>?_⟩
     obtain ⟨hlq,hl1⟩:=Wj hl'
     have hdl:d≠l:=Zk hd1 hl1
     have hd3:(upd (upd H1 q (.tup [.int i,.int x])) l (.lst [])) d=some (.dK (spk ns i f)):=by rw [Zf hdl]; exact hd2
     have hlk:(spk ns i f).length < sizeLine:=by unfold spk; rw [List.length_map]; exact Zx (by have:=Zb4 ns i; omega)
     have hq0:H q=none:=sm.free hq
     have hl0:H l=none:=sm.free hl1
     have smq:Same H (upd (upd H1 q (.tup [.int i,.int x])) l (.lst [])):=Same.add (Same.add sm hq0) hl0
     have hp2:(pl ns i x).length < sizeLine:=Zx (by have:=Zbl td i x; omega)
     have old:∀ b u,H1 b=some u→(upd (upd H1 q (.tup [.int i,.int x])) l (.lst [])) b=some u:=fun b u e=>by rw [Zf (Zk e hl1),Zf (Zk e hq)]; exact e
     refine ⟨spk ns i f,Sum.inl x,hd3,hlk,rfl,fun v hv=>?_,fun hv=>?_⟩
     ·-- the name stands already
      have hx2:x∈keys ns i:=by
       unfold spk at hv
       rw [Jl] at hv
       by_cases c:x∈keys ns i
       ·exact c
       ·rw [if_neg c] at hv; cases hv
      obtain rfl:v=V.ref (f x):=by
       unfold spk at hv
       rw [Jl,if_pos hx2] at hv
       exact (Option.some.inj hv).symm
      have ek:keys ns (i + 1)=keys ns i:=by rw [Q7 hx',if_pos hx2]
      have hfx:=old _ _ (sf.at' x hx2)
      refine ⟨.inl ⟨rfl,_,SqL.of hfx⟩,_,rfl,f x,_,_,rfl,rfl,hfx,by rw [List.length_map]; exact hp2,hnx2 _ _ ⟨f,rfl,Same.add smq (hf0 x hx2),?_,⟨?_,?_⟩,?_⟩⟩
      ·have:d≠f x:=fun z=>by rw [← z,hd3] at hfx; cases hfx
       rw [Zf this,hd3]
       unfold spk
       rw [ek]
      ·rw [ek]; exact sf.inj
      ·intro y hy
       rw [ek] at hy
       by_cases c:y=x
       ·subst c
        rw [Zb,Zdi hx',List.map_append]
        rfl
       ·have:f y≠f x:=fun z=>c (sf.inj y hy x hx2 z)
        rw [Zf this,old _ _ (sf.at' y hy),Zbk (by rw [hx']; intro z; cases z; exact c rfl)]
      ·rw [ek]; exact hf0
     ·-- a new name
      have hx2:x ∉ keys ns i:=by
       intro c
       unfold spk at hv
       rw [Jl,if_pos c] at hv
       cases hv
      have ek:keys ns (i + 1)=keys ns i ++ [x]:=by rw [Q7 hx',if_neg hx2]
      have ep:putK (spk ns i f) (Sum.inl x) (V.ref l)=spk ns (i + 1) (fun y=>if y=x then l else f y):=by
       unfold spk
       rw [Zkp hx2,ek,List.map_append]
       congr 1
       ·apply List.map_congr_left
        intro y hy
        dsimp only
        rw [if_neg (fun (z:y=x)=>hx2 (z ▸ hy))]
       ·simp
      rw [ep]
      have hl4:(upd (upd (upd H1 q (.tup [.int i,.int x])) l (.lst [])) d (.dK (spk ns (i + 1) (fun y=>if y=x then l else f y)))) l=some (.lst []):=by rw [Zf (Ne.symm hdl),Zb]
      refine ⟨.inl ⟨rfl,_,SqL.of hl4⟩,_,rfl,l,_,_,rfl,rfl,hl4,by decide,hnx2 _ _ ⟨fun y=>if y=x then l else f y,rfl,Same.add (Same.add smq hd) hl0,?_,⟨?_,?_⟩,?_⟩⟩
      ·rw [Zf hdl,Zb]
      ·intro y hy z hz e
       rw [ek,List.mem_append,List.mem_singleton] at hy hz
       by_cases c1:y=x
       ·by_cases c2:z=x
        ·rw [c1,c2]
        ·have hz':=hz.resolve_right c2
         simp only [c1,c2,if_true,if_false] at e
         exact absurd (sf.at' z hz') (by rw [← e,hl1]; intro w; cases w)
       ·have hy':=hy.resolve_right c1
        by_cases c2:z=x
        ·simp only [c1,c2,if_true,if_false] at e
         exact absurd (sf.at' y hy') (by rw [e,hl1]; intro w; cases w)
        ·have hz':=hz.resolve_right c2
         simp only [c1,c2,if_false] at e
         exact sf.inj y hy' z hz' e
      ·intro y hy
       rw [ek,List.mem_append,List.mem_singleton] at hy
       by_cases c:y=x
       ·subst c
        simp only [if_true]
        rw [Zb,Zdi hx',Zmm hx2]
        rfl
       ·have hy':=hy.resolve_right c
        have e1:=sf.at' y hy'
        have n1:f y≠l:=Zk e1 hl1
        have n2:f y≠d:=fun z=>by rw [z,hd1] at e1; cases e1
        simp only [c,if_false]
        rw [Zf n1,Zf n2,old _ _ e1,Zbk (by rw [hx']; intro z; cases z; exact c rfl)]
      ·intro y hy
       rw [ek,List.mem_append,List.mem_singleton] at hy
       by_cases c:y=x
       ·simp only [c,if_true]; exact hl0
       ·simp only [c,if_false]; exact hf0 y (hy.resolve_right c)
    rintro σ H2 ⟨f',rfl,sm2,hd4,sf2,hf2⟩
    have hx3:x∈keys ns (i + 1):=Ju.mpr ⟨i,by omega,hx'⟩
    have hg:valV (spk ns (i + 1) f') (Sum.inl x)=some (V.ref (f' x)):=by unfold spk; rw [Jl,if_pos hx3]
    refine ⟨_,rfl,_,rfl,d,_,rfl,?_,f' x,_,rfl,.inl (SqL.of (sf2.at' x hx3)),_,_,rfl,rfl,_,rfl,?_⟩
    ·exact .inl ⟨_,Sum.inl x,.inl hd4,rfl,hg.symm⟩
    have h2:=Zbl td (i + 1) x
    rw [decide_eq_false (by rw [List.length_map]; omega:¬ ((((pl ns (i + 1) x).map nV).length:Nat):Int) > 2)]
    refine iteF ?_
    exact ⟨f',_,_,rfl,sm2,hd4,sf2,hf2⟩
   ·rintro σ H1 ⟨f,v2,v3,rfl,sm,hd1,sf,hf0⟩
    rw [el] at hd1 sf hf0
    exact hnx _ _ ⟨f,v2,v3,rfl,sm,hd1,sf,hf0⟩
  rintro σ H1 ⟨f,v2,v3,rfl,sm,hd1,sf,hf0⟩
  exact ⟨_,rfl,k d f H1 sm hd hd1 sf hf0⟩
noncomputable def Zcl:Sp:=fun vs H Q _=>∃ (d:Addr) (M:List (Option Nat)) (ns:List Int) (f:Int→Addr),vs=[.ref d,.int ns.length]∧H d=some (.dK (spk ns ns.length f))∧SpotsF H ns ns.length f∧TD M ns∧ns.length≤120 ∧
 ∀ (m:Addr) (o:Obj) (H':Hp),(∀ b u,b≠d→H b=some u→H' b=some u)→H m=none→H' m=some (.lst (M.map mV))→H' d=some (.frz o (.dK (spk ns ns.length f)))→Q (.ref m) H'
theorem Va:FnScope ["spots","count","mates","pair"] ["spots","count"] (Zj Kj):=⟨rfl,rfl,rfl,by decide +kernel,rfl,by decide +kernel,by decide +kernel⟩
theorem Zcu (T:Txt w K mg t):FnOk P w K mg base (CXr P w) 1 t.f_mates_of t.d_mates_of ["spots","count"] Zcl:=by
 refine T.p_mates_of.F.aR Va (fun cdv A outer s H vs Q E hr h=>?_)
 ·obtain ⟨d,M,ns,f,rfl,hd,sf,td,hl,k⟩:=h
  refine ⟨_,(Ze (Zq (i:=2) Va.nd rfl (Or.inl rfl) (Zi Ku (Y4 (Za W3 Zc)) (pv 1)))
   (Ze (Yg PassesOwn.never rfl (Zkt (pv 0) ⟨rfl,rfl,rfl⟩) (Zl (i:=3) Va.nd rfl (Or.inl rfl)) (Zg (Z8 (Zt Yv (Zm Zh (by rfl) T.n_len PySem.boot_len (Za (pv 3) Zc)) Zd (Zu _)) (Ze (Xn (Zp Zs (pv 3) Zd (fun _ _=>rfl)) (W1 (pv 2) (Zp Zs (pv 3) Zd (fun _ _=>rfl)) Xr))
   (Zg (Xn (Zp Zs (pv 3) Zd (fun _ _=>rfl)) (W1 (pv 2) (Zp Zs (pv 3) Zd (fun _ _=>rfl)) Xr)))) Zy)))
   (Zg (Zo (pv 2))))),?_⟩
  refine ⟨(by show 1≤sizeLine; decide),fun q hq=>?_⟩
  refine ⟨_,rfl,q,_,_,rfl,rfl,Zb,by omega,by omega,?_,fun m hm=>?_⟩
  ·have:((ns.length:Nat):Int).toNat=ns.length:=by omega
   show 1 * ((ns.length:Nat):Int).toNat≤sizeLine
   rw [this,sizeLine_eq]; omega
  obtain ⟨hmq,hm0⟩:=Wj hm
  have eM:(List.replicate ((ns.length:Nat):Int).toNat [V.non]).flatten=(part M ns []).map mV:=by
   have:((ns.length:Nat):Int).toNat=M.length:=by rw [← td.len]; omega
   rw [this,List.flatten_replicate_singleton,Zih td,List.map_replicate]
   rfl
  rw [eM]
  have hdm:d≠m:=Zk hd hm0
  have hdq:d≠q:=Zk hd hq
  dsimp only [Zn]
  show tSeq (tFor _ _ _) _ _ _ _
  refine Z4 (fun σ H1=>∃ (o:Obj) (v:Option V),σ=[some (.ref d),some (.int ns.length),some (.ref m),v]∧(∀ b u,b≠d→H b=some u→H1 b=some u)∧H1 m=some (.lst (M.map mV))∧H1 d=some (.frz o (.dK (spk ns ns.length f)))) (fun nx hnx=>?_) ?_
  ·refine ⟨_,rfl,d,_,rfl,.inl ⟨by rw [Zf hdm,Zf hdq]; exact hd,fun o=>?_⟩⟩
   refine Zi6 (fun j σ H1=>∃ (v:Option V),σ=[some (.ref d),some (.int ns.length),some (.ref m),v]∧(∀ b u,b≠d→H b=some u→H1 b=some u)∧H1 m=some (.lst ((part M ns ((keys ns ns.length).take j)).map mV))∧H1 d=some (.frz o (.dK (spk ns ns.length f))))
    ⟨none,rfl,fun b u hb e=>?_,?_,Zb⟩ ?_ ?_ ?_
   ·rw [Zf hb,Zf (Zk e hm0),Zf (Zk e hq)]; exact e
   ·rw [Zf (Ne.symm hdm),Zb]
    rfl
   ·rintro j σ H1 _ ⟨v,rfl,old,h1,h2⟩
    exact h2
   ·rintro j k0 x0 σ H1 hk ⟨v,rfl,old,h1,h2⟩
    obtain ⟨x,hx,rfl⟩:∃ x,(keys ns ns.length)[j]?=some x∧x0=V.ref (f x):=by
     unfold spk at hk
     rw [List.getElem?_map] at hk
     cases e:(keys ns ns.length)[j]? with
     | none=>rw [e] at hk; cases hk
     | some x=>rw [e] at hk; cases hk; exact ⟨x,rfl,rfl⟩
    have hm1:x∈keys ns ns.length:=List.mem_of_getElem? hx
    have et:(keys ns ns.length).take (j + 1)=(keys ns ns.length).take j ++ [x]:=by
     rw [List.take_add_one,hx]; rfl
    have hfx:=sf.at' x hm1
    have hfd:f x≠d:=fun z=>by rw [z,hd] at hfx; cases hfx
    have hf1:=old _ _ hfd hfx
    dsimp only [Zn]
    refine ⟨_,rfl,f x,_,rfl,.inl (SqL.of hf1),rfl,_,rfl,?_⟩
    rcases Vv td hm1 with ⟨a,e,ea,ma⟩ | ⟨a,b,hab,e,ea,eb,ma,mb⟩
    ·rw [e] at hf1 ⊢
     refine iteF ?_
     refine ⟨_,rfl,old,?_,h2⟩
     rw [et,Zig td e ma]
     exact h1
    ·rw [e] at hf1 ⊢
     refine iteT ?_
     have la:a < (part M ns ((keys ns ns.length).take j)).length:=by rw [Xu]; exact (List.getElem?_eq_some_iff.mp ma).1
     have lb:b < (part M ns ((keys ns ns.length).take j)).length:=by rw [Xu]; exact (List.getElem?_eq_some_iff.mp mb).1
     have hfm:f x≠m:=Zk hfx hm0
     refine ⟨_,rfl,f x,_,_,_,rfl,rfl,SqL.of hf1,rfl,?_⟩
     refine ⟨_,rfl,_,rfl,f x,_,_,_,rfl,rfl,SqL.of hf1,rfl,m,_,_,a,rfl,rfl,h1,(by rw [List.length_map]; exact Wf la),?_⟩
     have hf2:(upd H1 m (.lst (((part M ns ((keys ns ns.length).take j)).map mV).set a (nV b)))) (f x)=some (.lst ([a,b].map nV)):=by rw [Zf hfm]; exact hf1
     refine ⟨_,rfl,f x,_,_,_,rfl,rfl,SqL.of hf2,rfl,?_⟩
     refine ⟨_,rfl,_,rfl,f x,_,_,_,rfl,rfl,SqL.of hf2,rfl,m,_,_,b,rfl,rfl,Zb,(by rw [List.length_set,List.length_map]; exact Wf lb),?_⟩
     refine ⟨_,rfl,fun c u hc ec=>?_,?_,?_⟩
     ·have:c≠m:=Zk ec hm0
      rw [Zf this,Zf this]
      exact old c u hc ec
     ·rw [Zb,et,Zga td e hab ma mb]
      show some (HO.lst ((((part M ns ((keys ns ns.length).take j)).map mV).set a (mV (some b))).set b (mV (some a))))=_
      rw [map_set,map_set]
     ·rw [Zf hdm,Zf hdm]; exact h2
   ·rintro σ H1 ⟨v,rfl,old,h1,h2⟩
    refine hnx _ _ ⟨o,v,rfl,old,?_,h2⟩
    have:(keys ns ns.length).take (spk ns ns.length f).length=keys ns ns.length:=by
     unfold spk; rw [List.length_map,List.take_length]
    rw [this,Zii td] at h1
    exact h1
  rintro σ H1 ⟨o,v,rfl,old,h1,h2⟩
  exact ⟨_,rfl,k m o H1 old hm0 h1 h2⟩
end
end KT
set_option maxHeartbeats 4000000
namespace KT
open PySem L2
noncomputable def Wq (cl na sp mt:Addr):List (Str × V):=putF "mates" (.ref mt) (putF "spots" (.ref sp) (putF "names_at" (.ref na) (putF "cloths" (.ref cl) [])))
theorem Ja (f:Str) (v:V):∀ fs:List (Str × V),(putF f v fs).length≤fs.length + 1
 | []=>by simp [putF]
 | (g,x) :: r=>by
  have:=Ja f v r
  unfold putF
  split
  ·simp
  ·simp only [List.length_cons]; omega
theorem s_cn:¬ ("cloths":Str)="names_at":=by decide
theorem s_cs:¬ ("cloths":Str)="spots":=by decide
theorem s_cm:¬ ("cloths":Str)="mates":=by decide
theorem s_ns:¬ ("names_at":Str)="spots":=by decide
theorem s_nm:¬ ("names_at":Str)="mates":=by decide
theorem s_sm:¬ ("spots":Str)="mates":=by decide
theorem Fx (cl na sp mt:Addr):(Wq cl na sp mt).lookup ("cloths":Str)=some (.ref cl):=by
 unfold Wq; rw [Z1,if_neg s_cm,Z1,if_neg s_cs,Z1,if_neg s_cn,Z1,if_pos rfl]
theorem Zca (cl na sp mt:Addr):(Wq cl na sp mt).lookup ("names_at":Str)=some (.ref na):=by
 unfold Wq; rw [Z1,if_neg s_nm,Z1,if_neg s_ns,Z1,if_pos rfl]
theorem Zb9 (cl na sp mt:Addr):(Wq cl na sp mt).lookup ("spots":Str)=some (.ref sp):=by
 unfold Wq; rw [Z1,if_neg s_sm,Z1,if_pos rfl]
theorem Zi9 (cl na sp mt:Addr):(Wq cl na sp mt).lookup ("mates":Str)=some (.ref mt):=by
 unfold Wq; rw [Z1,if_pos rfl]
theorem Y5 (cl na sp mt:Addr) {m:Str} (h:m≠"cloths"∧m≠"names_at"∧m≠"spots"∧m≠"mates":=by decide):(Wq cl na sp mt).lookup m=none:=by
 obtain ⟨h1,h2,h3,h4⟩:=h
 unfold Wq; rw [Z1,if_neg h4,Z1,if_neg h3,Z1,if_neg h2,Z1,if_neg h1]; rfl
structure TentB (C:Addr) (H:Hp) (p:Addr) (M:List (Option Nat)) (ns:List Int) (dx cl na sp mt:Addr) (o:Obj) (f:Int→Addr):Prop where
 ins:H p=some (.ins C dx (Wq cl na sp mt))
 rows:Yr H cl ns
 names:H na=some (.lst (ns.map V.int))
 spots:H sp=some (.frz o (.dK (spk ns ns.length f)))
 mates:H mt=some (.lst (M.map mV))
 at':∀ x∈keys ns ns.length,H (f x)=some (.lst ((pl ns ns.length x).map nV))
noncomputable def Ye (C:Addr) (H:Hp) (p:Addr) (M:List (Option Nat)) (ns:List Int):Prop:=∃ dx cl na sp mt o f,TentB C H p M ns dx cl na sp mt o f
theorem Ye.same {C:Addr} {H H':Hp} {p:Addr} {M:List (Option Nat)} {ns:List Int} (h:Ye C H p M ns) (s:Same H H'):Ye C H' p M ns:=by
 obtain ⟨dx,cl,na,sp,mt,o,f,b⟩:=h
 exact ⟨dx,cl,na,sp,mt,o,f,s _ _ b.ins,b.rows.same s,s _ _ b.names,s _ _ b.spots,s _ _ b.mates,fun x hx=>s _ _ (b.at' x hx)⟩
theorem Zah {ns:List Int} {k n:Nat} (h:ns.length=3 * n) (hk:k < n):(ns.take (3 * k)).map V.int ++ row3 ns k=(ns.take (3 * (k + 1))).map V.int:=by
 have e:ns.take (3 * (k + 1))=ns.take (3 * k) ++ [ns.getD (3 * k) 0,ns.getD (3 * k + 1) 0,ns.getD (3 * k + 2) 0]:=by
  have l0:3 * k < ns.length:=by omega
  have l1:3 * k + 1 < ns.length:=by omega
  have l2:3 * k + 2 < ns.length:=by omega
  have g:∀ i,i < ns.length→ns[i]?=some (ns.getD i 0):=fun i hi=>by rw [List.getD_eq_getElem?_getD,List.getElem?_eq_getElem hi]; rfl
  rw [show 3 * (k + 1)=3 * k + 1 + 1 + 1 by omega,List.take_add_one,List.take_add_one,List.take_add_one,g _ l0,g _ l1,g _ l2,List.append_assoc,List.append_assoc]
  rfl
 rw [e,List.map_append]
 rfl
noncomputable def Zas (C:Addr):Sp:=fun vs H Q _=>∃ (p r dx:Addr) (M:List (Option Nat)) (ns:List Int),vs=[.ref p,.ref r]∧H p=some (.ins C dx [])∧Yr H r ns∧TD M ns∧ns.length≤120 ∧
 ∀ (H':Hp),(∀ b u,b≠p→H b=some u→H' b=some u)→Ye C H' p M ns→Q .non H'
section
variable {P:Program} {w:World} {K:PySem.W.Frag} {mg:Str→Option Value} {base:Heap} {t:Adr}
theorem Zaz:FnScope ["self","rows"] ["self","rows"] (Zj Ov):=⟨rfl,rfl,rfl,by decide +kernel,rfl,by decide +kernel,by decide +kernel⟩
theorem Uu (T:Txt w K mg t):FnOk P w K mg base (CXr P w) 2 t.f_Tent_init t.d_Tent_init ["self","rows"] (Zas t.C_Tent):=by
  refine T.p_Tent_init.F.aR Zaz (fun cdv A outer s H vs Q E hr h=>?_)
  · obtain ⟨p,r,dx,M,ns,rfl,hp,⟨ts,hr1,hr2,hr3⟩,td,hl,k⟩:=h
    refine ⟨_,(Ze (Z8 (Xz (O0 (pv 1) (fun _=>rfl))) Uo Zy)
      (Ze (Kt (pv 0) (Y0 (ts:=["row"]) (fv:=[]) ⟨rfl,by decide +kernel,by decide +kernel,Yh (by rfl),trivial⟩ rfl (Yt (pv 1)) (fun _ _ _ _=>(Zl (i:=0) (show List.Nodup (["row"]:List Str) from by decide +kernel) rfl (Or.inl rfl) (Or.inr rfl))) (fun _ _ _ _=>Y1) (fun _ _ _=>rfl) (fun _ _ _ _ _ _=>Yj (Ys (Vq K) (by rfl) T.n_tuple PySem.Pv.boot_tuple (Za (pv 0) Zc)))) rfl)
      (Ze (Kt (pv 0) (Y0 (ts:=["row","name"]) (fv:=[]) ⟨rfl,by decide +kernel,by decide +kernel,Yh (by rfl),trivial⟩ rfl (Yt (Wl (pv 0) rfl)) (fun _ _ _ _=>(Zl (i:=0) (show List.Nodup (["row","name"]:List Str) from by decide +kernel) rfl (Or.inl rfl) (Or.inr rfl))) (fun _ _ _ _=>Y1) (fun _ _ _=>rfl) (fun _ _ _ _ _ _=>Zf9 rfl rfl (Zdk K (pv 0)) (Zl (i:=1) (show List.Nodup (["row","name"]:List Str) from by decide +kernel) rfl (Or.inl rfl) (Or.inr rfl)) Y1 (pv 1))) rfl)
      (Ze (Kt (pv 0) (pcT (Zct T) hr T.p_spots_of (Za (Wl (pv 0) rfl) Zc)) rfl)
      (Zg (Kt (pv 0) (pcT (Zcu T) hr T.p_mates_of (Za (Wl (pv 0) rfl) (Za (Zm Zh (by rfl) T.n_len PySem.boot_len (Za (Wl (pv 0) rfl) Zc)) Zc))) rfl)))))),?_⟩
    obtain ⟨n,n1,n2,hn⟩:=td.n
    have hnn:ns.length=3 * n:=by rw [td.len,hn]
    have htn:ts.length=n:=by omega
    have hrp:r≠p:=fun z=>by rw [z,hp] at hr1; cases hr1
    refine ⟨_,rfl,true,.inl ⟨_,SqL.of hr1,?_⟩,?_⟩
    · cases ts with
      | nil=>simp at htn; omega
      | cons _ _=>rfl
    refine iteF ?_
    dsimp only [X8]
    refine ⟨_,rfl,r,rfl,⟨_,SqL.of hr1⟩,fun D hD=>?_⟩
    have hDp:D≠p:=fun z=>by rw [z,hp] at hD; cases hD
    refine Y9 (xs:=ts.map V.ref) (fun i σ H1=>∃ (v:Option V),σ=[v]∧Same H H1∧H1 D=some (.lst ((ts.take i).map V.ref))) ⟨none,rfl,Same.new hD,Zb⟩ ?_ ?_ ?_
    · rintro i σ H1 _ ⟨v,rfl,sm,h1⟩
      exact SqL.of (sm _ _ hr1)
    · rintro i x σ H1 hx ⟨v,rfl,sm,h1⟩
      dsimp only [Zn,tYes]
      rw [if_pos rfl]
      obtain ⟨tt,ht,rfl⟩:=map_some hx
      refine ⟨_,rfl,tt,_,rfl,.inr ⟨SqT.of (sm _ _ (hr3 i tt ht)),_,h1,(by rw [List.length_map,List.length_take]; exact Zx (by omega)),_,rfl,Same.add sm hD,?_⟩⟩
      rw [Zb,List.take_add_one,ht,List.map_append]
      rfl
    rintro σ H1 ⟨v,rfl,sm1,h1⟩
    rw [List.length_map,List.take_length] at h1
    have hp1:=sm1 _ _ hp
    refine ⟨_,rfl,p,_,dx,_,rfl,hp1,T.cl_Tent,T.a_Tent_cloths,by decide,?_⟩
    have old2:∀ b u,b≠p→H b=some u→(upd H1 p (.ins t.C_Tent dx (putF "cloths" (.ref D) []))) b=some u:=fun b u hb e=>by rw [Zf hb]; exact sm1 b u e
    have hD2:(upd H1 p (.ins t.C_Tent dx (putF "cloths" (.ref D) []))) D=some (.lst (ts.map V.ref)):=by rw [Zf hDp]; exact h1
    have hp2:(upd H1 p (.ins t.C_Tent dx (putF "cloths" (.ref D) []))) p=some (.ins t.C_Tent dx (putF "cloths" (.ref D) [])):=Zb
    have ht2:∀ (k:Nat) (q:Addr),ts[k]?=some q→(upd H1 p (.ins t.C_Tent dx (putF "cloths" (.ref D) []))) q=some (.tup (row3 ns k)):=fun k q e=>by
      have e1:=hr3 k q e
      have:q≠p:=fun z=>by rw [z,hp] at e1; cases e1
      exact old2 q _ this e1
    generalize upd H1 p (.ins t.C_Tent dx (putF "cloths" (.ref D) []))=H2 at old2 hD2 hp2 ht2 ⊢
    refine ⟨_,rfl,p,_,dx,_,_,rfl,hp2,T.cl_Tent,T.a_Tent_cloths,rfl,D,rfl,⟨_,SqL.of hD2⟩,fun N hN=>?_⟩
    have hND:N≠D:=fun z=>by rw [z,hD2] at hN; cases hN
    have hNp:N≠p:=fun z=>by rw [z,hp2] at hN; cases hN
    refine Y9 (xs:=ts.map V.ref) (fun i σ H3=>∃ (v v':Option V),σ=[v,v']∧Same H2 H3∧H3 N=some (.lst ((ns.take (3 * i)).map V.int))) ⟨none,none,rfl,Same.new hN,Zb⟩ ?_ ?_ ?_
    · rintro i σ H3 _ ⟨v,v',rfl,sm,h3⟩
      exact SqL.of (sm _ _ hD2)
    · rintro i x σ H3 hx ⟨v,v',rfl,sm,h3⟩
      dsimp only [Zn,tYes]
      rw [if_pos rfl]
      obtain ⟨tt,ht,rfl⟩:=map_some hx
      have hi:i < n:=by rw [← htn]; exact (List.getElem?_eq_some_iff.mp ht).1
      refine ⟨_,rfl,tt,rfl,⟨_,SqT.of (sm _ _ (ht2 i tt ht))⟩,?_⟩
      refine Zb3 (xs:=row3 ns i) (fun j σ H4=>∃ (v':Option V),σ=[some (.ref tt),v']∧Same H2 H4∧H4 N=some (.lst ((ns.take (3 * i)).map V.int ++ (row3 ns i).take j))) ⟨v',rfl,sm,by rw [h3,List.take_zero,List.append_nil]⟩ ?_ ?_ ?_
      · rintro j σ H4 _ ⟨v',rfl,sm,h4⟩
        exact SqT.of (sm _ _ (ht2 i tt ht))
      · rintro j x σ H4 hx ⟨v',rfl,sm,h4⟩
        dsimp only [Zn,tYes]
        rw [if_pos rfl]
        refine ⟨_,rfl,_,h4,?_,_,rfl,Same.add sm hN,?_⟩
        · rw [List.length_append,List.length_map,List.length_take,List.length_take]
          exact Zx (by have:(row3 ns i).length=3:=rfl; omega)
        · rw [Zb,List.take_add_one,hx,← List.append_assoc]
          rfl
      · rintro σ H4 ⟨v',rfl,sm,h4⟩
        refine ⟨_,_,rfl,sm,?_⟩
        rw [h4,List.take_length,Zah hnn hi]
    rintro σ H3 ⟨v,v',rfl,sm3,h3⟩
    have eall:ns.take (3 * (ts.map V.ref).length)=ns:=by rw [List.length_map,htn,← hnn,List.take_length]
    rw [eall] at h3
    have hp3:=sm3 _ _ hp2
    refine ⟨_,rfl,p,_,dx,_,rfl,hp3,T.cl_Tent,T.a_Tent_names_at,(by have h1:=Ja "cloths" (.ref D) []; simp only [List.length_nil] at h1; omega),?_⟩
    have old4:∀ b u,b≠p→H2 b=some u→(upd H3 p (.ins t.C_Tent dx (putF "names_at" (.ref N) (putF "cloths" (.ref D) [])))) b=some u:=fun b u hb e=>by rw [Zf hb]; exact sm3 b u e
    have hN4:(upd H3 p (.ins t.C_Tent dx (putF "names_at" (.ref N) (putF "cloths" (.ref D) [])))) N=some (.lst (ns.map V.int)):=by rw [Zf hNp]; exact h3
    have hp4:(upd H3 p (.ins t.C_Tent dx (putF "names_at" (.ref N) (putF "cloths" (.ref D) [])))) p=some (.ins t.C_Tent dx (putF "names_at" (.ref N) (putF "cloths" (.ref D) []))):=Zb
    generalize upd H3 p (.ins t.C_Tent dx (putF "names_at" (.ref N) (putF "cloths" (.ref D) [])))=H4 at old4 hN4 hp4 ⊢
    have lk1:(putF "names_at" (.ref N) (putF "cloths" (.ref D) [])).lookup ("names_at":Str)=some (.ref N):=by rw [Z1,if_pos rfl]
    refine ⟨_,rfl,p,_,dx,_,_,rfl,hp4,T.cl_Tent,T.a_Tent_names_at,lk1,N,M,ns,rfl,hN4,td,hl,fun d f H5 sm5 hd5 hd5' sf hf0=>?_⟩
    have hp5:=sm5 _ _ hp4
    refine ⟨_,rfl,p,_,dx,_,rfl,hp5,T.cl_Tent,T.a_Tent_spots,(by have h1:=Ja "cloths" (.ref D) []; have h2:=Ja "names_at" (.ref N) (putF "cloths" (.ref D) []); simp only [List.length_nil] at h1; omega),?_⟩
    have hdp:d≠p:=fun z=>by rw [z,hp4] at hd5; cases hd5
    have hfp:∀ x∈keys ns ns.length,f x≠p:=fun x hx z=>by have:=hf0 x hx; rw [z,hp4] at this; cases this
    have old6:∀ b u,b≠p→H4 b=some u→(upd H5 p (.ins t.C_Tent dx (putF "spots" (.ref d) (putF "names_at" (.ref N) (putF "cloths" (.ref D) []))))) b=some u:=fun b u hb e=>by rw [Zf hb]; exact sm5 b u e
    have hp6:(upd H5 p (.ins t.C_Tent dx (putF "spots" (.ref d) (putF "names_at" (.ref N) (putF "cloths" (.ref D) []))))) p=some (.ins t.C_Tent dx (putF "spots" (.ref d) (putF "names_at" (.ref N) (putF "cloths" (.ref D) [])))):=Zb
    have hd6:(upd H5 p (.ins t.C_Tent dx (putF "spots" (.ref d) (putF "names_at" (.ref N) (putF "cloths" (.ref D) []))))) d=some (.dK (spk ns ns.length f)):=by rw [Zf hdp]; exact hd5'
    have sf6:SpotsF (upd H5 p (.ins t.C_Tent dx (putF "spots" (.ref d) (putF "names_at" (.ref N) (putF "cloths" (.ref D) []))))) ns ns.length f:=⟨sf.inj,fun x hx=>by rw [Zf (hfp x hx)]; exact sf.at' x hx⟩
    generalize upd H5 p (.ins t.C_Tent dx (putF "spots" (.ref d) (putF "names_at" (.ref N) (putF "cloths" (.ref D) []))))=H6 at old6 hp6 hd6 sf6 ⊢
    have lk2:(putF "spots" (.ref d) (putF "names_at" (.ref N) (putF "cloths" (.ref D) []))).lookup ("spots":Str)=some (.ref d):=by rw [Z1,if_pos rfl]
    have lk3:(putF "spots" (.ref d) (putF "names_at" (.ref N) (putF "cloths" (.ref D) []))).lookup ("names_at":Str)=some (.ref N):=by rw [Z1,if_neg s_ns,Z1,if_pos rfl]
    have hN6:=old6 _ _ hNp hN4
    have eln:(((ns.map V.int).length:Nat):Int)=(ns.length:Nat):=by rw [List.length_map]
    refine ⟨_,rfl,p,_,dx,_,_,rfl,hp6,T.cl_Tent,T.a_Tent_spots,lk2,_,rfl,p,_,dx,_,_,rfl,hp6,T.cl_Tent,T.a_Tent_names_at,lk3,N,_,rfl,.inl (SqL.of hN6),d,M,ns,f,(by rw [eln]; rfl),hd6,sf6,td,hl,fun m o H7 old7 hm7 hmm hdd=>?_⟩
    have hpd:p≠d:=Ne.symm hdp
    have hp7:=old7 _ _ hpd hp6
    refine ⟨_,rfl,p,_,dx,_,rfl,hp7,T.cl_Tent,T.a_Tent_mates,(by have h1:=Ja "cloths" (.ref D) []; have h2:=Ja "names_at" (.ref N) (putF "cloths" (.ref D) []); have h3:=Ja "spots" (.ref d) (putF "names_at" (.ref N) (putF "cloths" (.ref D) [])); simp only [List.length_nil] at h1; omega),?_⟩
    have hmp:m≠p:=fun z=>by rw [z,hp6] at hm7; cases hm7
    have dN:N≠d:=fun z=>by rw [z,hd6] at hN6; cases hN6
    have old8:∀ b u,b≠p→b≠d→H6 b=some u→(upd H7 p (.ins t.C_Tent dx (Wq D N d m))) b=some u:=fun b u hb hbd e=>by rw [Zf hb]; exact old7 b u hbd e
    have old46:∀ b u,b≠p→H4 b=some u→H6 b=some u∧b≠d:=fun b u hb e=>⟨old6 b u hb e,fun z=>by rw [z,hd5] at e; cases e⟩
    have old28:∀ b u,b≠p→H2 b=some u→(upd H7 p (.ins t.C_Tent dx (Wq D N d m))) b=some u:=fun b u hb e=>by
      obtain ⟨e6,hbd⟩:=old46 b u hb (old4 b u hb e)
      exact old8 b u hb hbd e6
    refine k _ (fun b u hb e=>old28 b u hb (old2 b u hb e)) ⟨dx,D,N,d,m,o,f,Zb,⟨ts,old28 _ _ hDp hD2,by omega,fun k q e=>?_⟩,?_,?_,?_,?_⟩
    · have e1:=ht2 k q e
      exact old28 q _ (fun z=>by rw [z,hp2] at e1; cases e1) e1
    · exact old8 _ _ hNp dN hN6
    · rw [Zf hdp]; exact hdd
    · rw [Zf hmp]; exact hmm
    · intro x hx
      have e1:=sf6.at' x hx
      exact old8 _ _ (hfp x hx) (fun z=>by rw [z,hd6] at e1; cases e1) e1
end
end KT
set_option maxHeartbeats 4000000
namespace KT
open PySem L2
noncomputable def Yq (ns:List Int) (x:Int):Str:=match pl ns ns.length x with
 | [a,b]=>if a / 3=b / 3 then "locked" else "free"
 | _=>"rim"
noncomputable def Zhy:Sp:=fun vs H Q _=>∃ p:Int,vs=[.int p]∧Q (.int (after p)) H
noncomputable def Zfq:Sp:=fun vs H Q _=>∃ p:Int,vs=[.int p]∧Q (.int (Zr p)) H
noncomputable def Zcn:Sp:=fun vs H Q _=>∃ p:Int,vs=[.int p]∧Q (.int (p / 3)) H
noncomputable def Zaq (C:Addr):Sp:=fun vs H Q _=>∃ (p:Addr) (M:List (Option Nat)) (ns:List Int),vs=[.ref p]∧Ye C H p M ns ∧
 ∀ (l:Addr) (ts:List Addr),H l=none→ns.length=3 * ts.length→(∀ (k:Nat) (t:Addr),ts[k]?=some t→H t=some (.tup (row3 ns k)))→Q (.ref l) (upd H l (.lst (ts.map V.ref)))
noncomputable def Zap (C:Addr):Sp:=fun vs H Q _=>∃ (p:Addr) (M:List (Option Nat)) (ns:List Int) (n:Nat),vs=[.ref p]∧Ye C H p M ns∧ns.length=3 * n∧Q (.int n) H
noncomputable def Og (C:Addr):Sp:=fun vs H Q _=>∃ (p:Addr) (M:List (Option Nat)) (ns:List Int) (x:Int),vs=[.ref p,.int x]∧Ye C H p M ns∧Q (.bl (decide (0≤x∧x < ns.length))) H
noncomputable def Uh (C EP:Addr):Sp:=fun vs H Q E=>∃ (p:Addr) (M:List (Option Nat)) (ns:List Int) (x:Int),vs=[.ref p,.int x]∧Ye C H p M ns∧(0≤x∧x < ns.length→Q .non H)∧(¬ (0≤x∧x < ns.length)→E (.ref EP) none H)
noncomputable def Ke (C EP:Addr):Sp:=fun vs H Q E=>∃ (p:Addr) (M:List (Option Nat)) (ns:List Int) (x:Int),vs=[.ref p,.int x]∧Ye C H p M ns∧(∀ (i:Nat) (y:Int),x=i→ns[i]?=some y→Q (.int y) H)∧(¬ (0≤x∧x < ns.length)→E (.ref EP) none H)
noncomputable def Zar (C EP:Addr):Sp:=fun vs H Q E=>∃ (p:Addr) (M:List (Option Nat)) (ns:List Int) (x:Int),vs=[.ref p,.int x]∧Ye C H p M ns∧M.length=ns.length∧(∀ (i:Nat) (y:Option Nat),x=i→M[i]?=some y→Q (mV y) H)∧(¬ (0≤x∧x < ns.length)→E (.ref EP) none H)
noncomputable def Gk (C ES:Addr):Sp:=fun vs H Q E=>∃ (p:Addr) (M:List (Option Nat)) (ns:List Int) (x:Int),vs=[.ref p,.int x]∧Ye C H p M ns∧(x∈keys ns ns.length→∀ l,H l=none→Q (.ref l) (upd H l (.lst ((pl ns ns.length x).map nV))))∧(x ∉ keys ns ns.length→E (.ref ES) none H)
noncomputable def Kd (C ES:Addr):Sp:=fun vs H Q E=>∃ (p:Addr) (M:List (Option Nat)) (ns:List Int) (x:Int),vs=[.ref p,.int x]∧Ye C H p M ns∧TD M ns∧(x∈keys ns ns.length→∀ H',Same H H'→Q (.str (Yq ns x)) H')∧(x ∉ keys ns ns.length→E (.ref ES) none H)
section
variable {P:Program} {w:World} {K:PySem.W.Frag} {mg:Str→Option Value} {base:Heap} {t:Adr}
theorem Zh1:FnScope ["place"] ["place"] (Zj Zde):=⟨rfl,rfl,rfl,by decide +kernel,rfl,by decide +kernel,by decide +kernel⟩
theorem Zbs (T:Txt w K mg t):FnOk P w K mg base (CXr P w) 1 t.f_after t.d_after ["place"] Zhy:=by
 refine T.p_after.F.aR Zh1 (fun cdv A outer s H vs Q E hr h=>?_)
 ·obtain ⟨p,rfl,k⟩:=h
  refine ⟨_,(Zg (Zo (Zbn (Zt Yv (Zi Zz (pv 0) Zd) Zd (Zu _)) (Zi Qt (pv 0) Zd) (Zi Ya (pv 0) Zd)))),?_⟩
  refine ⟨_,rfl,_,_,rfl,rfl,(by show (0:Int) < 3; decide),rfl,_,rfl,?_⟩
  refine ite2 (fun h=>?_) (fun h=>?_)
  ·have h:p % 3=2:=by simpa using h
   refine ⟨_,rfl,_,_,rfl,rfl,?_⟩
   have e:after p=p - 2:=if_pos h
   rw [e] at k; exact k
  ·have h:¬ p % 3=2:=by simpa using h
   refine ⟨_,rfl,_,_,rfl,rfl,?_⟩
   have e:after p=p + 1:=if_neg h
   rw [e] at k; exact k
theorem Zfv:FnScope ["place"] ["place"] (Zj Zbe):=⟨rfl,rfl,rfl,by decide +kernel,rfl,by decide +kernel,by decide +kernel⟩
theorem Fi (T:Txt w K mg t):FnOk P w K mg base (CXr P w) 1 t.f_before t.d_before ["place"] Zfq:=by
 refine T.p_before.F.aR Zfv (fun cdv A outer s H vs Q E hr h=>?_)
 ·obtain ⟨p,rfl,k⟩:=h
  refine ⟨_,(Zg (Zo (Zbn (Zt Yv (Zi Zz (pv 0) Zd) Zd (Zu _)) (Zi Ya (pv 0) Zd) (Zi Qt (pv 0) Zd)))),?_⟩
  refine ⟨_,rfl,_,_,rfl,rfl,(by show (0:Int) < 3; decide),rfl,_,rfl,?_⟩
  refine ite2 (fun h=>?_) (fun h=>?_)
  ·have h:p % 3=0:=by simpa using h
   refine ⟨_,rfl,_,_,rfl,rfl,?_⟩
   have e:Zr p=p + 2:=if_pos h
   rw [e] at k; exact k
  ·have h:¬ p % 3=0:=by simpa using h
   refine ⟨_,rfl,_,_,rfl,rfl,?_⟩
   have e:Zr p=p - 1:=if_neg h
   rw [e] at k; exact k
theorem Zcq:FnScope ["place"] ["place"] (Zj Ko):=⟨rfl,rfl,rfl,by decide +kernel,rfl,by decide +kernel,by decide +kernel⟩
theorem Xe (T:Txt w K mg t):FnOk P w K mg base (CXr P w) 1 t.f_cloth_of t.d_cloth_of ["place"] Zcn:=by
 refine T.p_cloth_of.F.aR Zcq (fun cdv A outer s H vs Q E hr h=>?_)
 ·obtain ⟨p,rfl,k⟩:=h
  refine ⟨_,(Zg (Zo (Zi Yd (pv 0) Zd))),?_⟩
  exact ⟨_,rfl,_,_,rfl,rfl,⟨by decide,by decide⟩,k⟩
theorem Zax:FnScope ["self"] ["self"] (Zj Ot):=⟨rfl,rfl,rfl,by decide +kernel,rfl,by decide +kernel,by decide +kernel⟩
theorem Ut (T:Txt w K mg t):FnOk P w K mg base (CXr P w) 1 t.f_Tent_rows t.d_Tent_rows ["self"] (Zaq t.C_Tent):=by
 refine T.p_Tent_rows.F.aR Zax (fun cdv A outer s H vs Q E hr h=>?_)
 ·obtain ⟨p,M,ns,rfl,⟨dx,cl,na,sp,mt,o,f,b⟩,k⟩:=h
  refine ⟨_,(Zg (Zo (Ys Yo (by rfl) T.n_list PySem.Pv.boot_list (Za (Wl (pv 0) rfl) Zc)))),?_⟩
  obtain ⟨ts,h1,h2,h3⟩:=b.rows
  exact ⟨_,rfl,p,_,dx,_,_,rfl,b.ins,T.cl_Tent,T.a_Tent_cloths,Fx ..,cl,_,rfl,.inl (SqL.of h1),fun l hl=>k l ts hl h2 h3⟩
theorem Zaw:FnScope ["self"] ["self"] (Zj Os):=⟨rfl,rfl,rfl,by decide +kernel,rfl,by decide +kernel,by decide +kernel⟩
theorem Zbt (T:Txt w K mg t):FnOk P w K mg base (CXr P w) 1 t.f_Tent_size t.d_Tent_size ["self"] (Zap t.C_Tent):=by
 refine T.p_Tent_size.F.aR Zaw (fun cdv A outer s H vs Q E hr h=>?_)
 ·obtain ⟨p,M,ns,n,rfl,⟨dx,cl,na,sp,mt,o,f,b⟩,hn,k⟩:=h
  refine ⟨_,(Zg (Zo (Zm Zh (by rfl) T.n_len PySem.boot_len (Za (Wl (pv 0) rfl) Zc)))),?_⟩
  obtain ⟨ts,h1,h2,h3⟩:=b.rows
  refine ⟨_,rfl,p,_,dx,_,_,rfl,b.ins,T.cl_Tent,T.a_Tent_cloths,Fx ..,cl,_,rfl,.inl (SqL.of h1),?_⟩
  have:(ts.map V.ref).length=n:=by rw [List.length_map]; omega
  rw [this]; exact k
theorem Oh:FnScope ["self","place"] ["self","place"] (Zj Qp):=⟨rfl,rfl,rfl,by decide +kernel,rfl,by decide +kernel,by decide +kernel⟩
theorem J7 (T:Txt w K mg t):FnOk P w K mg base (CXr P w) 1 t.f_Tent_has_place t.d_Tent_has_place ["self","place"] (Og t.C_Tent):=by
 refine T.p_Tent_has_place.F.aR Oh (fun cdv A outer s H vs Q E hr h=>?_)
 ·obtain ⟨p,M,ns,x,rfl,⟨dx,cl,na,sp,mt,o,f,b⟩,k⟩:=h
  refine ⟨_,(Zg (Zo (Zif Znw Q6 Zd (pv 1) (Zm Zh (by rfl) T.n_len PySem.boot_len (Za (Wl (pv 0) rfl) Zc))))),?_⟩
  refine ⟨_,rfl,_,_,rfl,rfl,_,rfl,?_⟩
  refine ite2 (fun h=>?_) (fun h=>?_)
  ·have h:0≤x:=of_decide_eq_true h
   refine ⟨_,rfl,p,_,dx,_,_,rfl,b.ins,T.cl_Tent,T.a_Tent_names_at,Zca ..,na,_,rfl,.inl (SqL.of b.names),_,_,rfl,rfl,?_⟩
   have:decide (x < (((ns.map V.int).length:Nat):Int))=decide (0≤x∧x < (ns.length:Int)):=by rw [List.length_map]; simp [h]
   show Q (V.bl (decide (x < (((ns.map V.int).length:Nat):Int)))) H
   rw [this]; exact k
  ·have h:¬ 0≤x:=fun z=>h (decide_eq_true z)
   have:decide (0≤x∧x < (ns.length:Int))=false:=decide_eq_false fun z=>h z.1
   rw [this] at k; exact k
theorem Uk:FnScope ["self","place"] ["self","place"] (Zj J6):=⟨rfl,rfl,rfl,by decide +kernel,rfl,by decide +kernel,by decide +kernel⟩
theorem J4 (T:Txt w K mg t):FnOk P w K mg base (CXr P w) 2 t.f_Tent_look_place t.d_Tent_look_place ["self","place"] (Uh t.C_Tent t.E_NoPlace):=by
 refine T.p_Tent_look_place.F.aX Uk (fun cdv A outer s H vs Q E hr h=>?_)
 ·obtain ⟨p,M,ns,x,rfl,ta,k1,k2⟩:=h
  obtain ⟨dx,cl,na,sp,mt,o,f,b⟩:=id ta
  refine ⟨_,(Yl (Vj (Xz (Xy (Je (pv 0) T.cl_Tent T.p_Tent_has_place.m (J7 T) (hr.mono (by decide)) T.p_Tent_has_place.b .nil Wh (Za (pv 1) Zc)))) (Yl (Jd T.x_NoPlace FBV rfl T.gx_NoPlace rfl (Za Xp Zc))) Jo)),?_⟩
  refine ⟨_,rfl,p,dx,_,rfl,b.ins,Y5 _ _ _ _,_,rfl,p,M,ns,x,rfl,ta,_,rfl,?_⟩
  by_cases c:0≤x∧x < (ns.length:Int)
  ·rw [decide_eq_true c]
   exact iteF (k1 c)
  ·rw [decide_eq_false c]
   exact iteT ⟨by decide,k2 c⟩
theorem Kh:FnScope ["self","place"] ["self","place"] (Zj Vh):=⟨rfl,rfl,rfl,by decide +kernel,rfl,by decide +kernel,by decide +kernel⟩
theorem Kz (T:Txt w K mg t):FnOk P w K mg base (CXr P w) 3 t.f_Tent_seam_at t.d_Tent_seam_at ["self","place"] (Ke t.C_Tent t.E_NoPlace):=by
 refine T.p_Tent_seam_at.F.aX Kh (fun cdv A outer s H vs Q E hr h=>?_)
 ·obtain ⟨p,M,ns,x,rfl,ta,k1,k2⟩:=h
  obtain ⟨dx,cl,na,sp,mt,o,f,b⟩:=id ta
  refine ⟨_,(Z3 (Qr (Vw (pv 0) T.cl_Tent T.p_Tent_look_place.m (J4 T) (hr.mono (by decide)) T.p_Tent_look_place.b .nil (Za (pv 1) Zc)))
   (Yl (Y3 (Zo (Zp Zs (Wl (pv 0) rfl) (pv 1) (fun _ _=>rfl)))))),?_⟩
  refine ⟨_,rfl,p,dx,_,rfl,b.ins,Y5 _ _ _ _,_,rfl,p,M,ns,x,rfl,ta,fun c=>?_,k2⟩
  have hi:x.toNat < ns.length:=by omega
  obtain ⟨y,hy⟩:∃ y,ns[x.toNat]?=some y:=⟨_,List.getElem?_eq_getElem hi⟩
  have ex:x=(x.toNat:Int):=by omega
  refine ⟨_,rfl,p,_,dx,_,_,rfl,b.ins,T.cl_Tent,T.a_Tent_names_at,Zca ..,_,rfl,na,_,_,_,rfl,rfl,SqL.of b.names,(by rw [ex]; exact Z0 hy),k1 _ _ ex hy⟩
theorem Zay:FnScope ["self","place"] ["self","place"] (Zj Ou):=⟨rfl,rfl,rfl,by decide +kernel,rfl,by decide +kernel,by decide +kernel⟩
theorem Qv (T:Txt w K mg t):FnOk P w K mg base (CXr P w) 3 t.f_Tent_mate t.d_Tent_mate ["self","place"] (Zar t.C_Tent t.E_NoPlace):=by
 refine T.p_Tent_mate.F.aX Zay (fun cdv A outer s H vs Q E hr h=>?_)
 ·obtain ⟨p,M,ns,x,rfl,ta,hlen,k1,k2⟩:=h
  obtain ⟨dx,cl,na,sp,mt,o,f,b⟩:=id ta
  refine ⟨_,(Z3 (Qr (Vw (pv 0) T.cl_Tent T.p_Tent_look_place.m (J4 T) (hr.mono (by decide)) T.p_Tent_look_place.b .nil (Za (pv 1) Zc)))
   (Yl (Y3 (Zo (Zp Zs (Wl (pv 0) rfl) (pv 1) (fun _ _=>rfl)))))),?_⟩
  refine ⟨_,rfl,p,dx,_,rfl,b.ins,Y5 _ _ _ _,_,rfl,p,M,ns,x,rfl,ta,fun c=>?_,k2⟩
  have hi:x.toNat < M.length:=by omega
  obtain ⟨y,hy⟩:∃ y,M[x.toNat]?=some y:=⟨_,List.getElem?_eq_getElem hi⟩
  have ex:x=(x.toNat:Int):=by omega
  refine ⟨_,rfl,p,_,dx,_,_,rfl,b.ins,T.cl_Tent,T.a_Tent_mates,Zi9 ..,_,rfl,mt,_,_,_,rfl,rfl,SqL.of b.mates,(by rw [ex]; exact Z0 hy),k1 _ _ ex hy⟩
theorem Gn:FnScope ["self","seam"] ["self","seam"] (Zj Ub):=⟨rfl,rfl,rfl,by decide +kernel,rfl,by decide +kernel,by decide +kernel⟩
theorem Js (T:Txt w K mg t):FnOk P w K mg base (CXr P w) 1 t.f_Tent_places t.d_Tent_places ["self","seam"] (Gk t.C_Tent t.E_NoSeam):=by
 refine T.p_Tent_places.F.aX Gn (fun cdv A outer s H vs Q E hr h=>?_)
 ·obtain ⟨p,M,ns,x,rfl,ta,k1,k2⟩:=h
  obtain ⟨dx,cl,na,sp,mt,o,f,b⟩:=id ta
  have hu:=Zab hr
  refine ⟨_,(Z3 (Vj (Zf0 (Zf8 hu (pv 1) (Wl (pv 0) rfl)) (by with_unfolding_all rfl)) (Yl (Jd T.x_NoSeam FBV rfl T.gx_NoSeam rfl (Za Xp Zc))) Jo)
   (Yl (Y3 (Zo (Ys Yo (by rfl) T.n_list PySem.Pv.boot_list (Za (Zdn hu (Wl (pv 0) rfl) (pv 1) (fun _ _=>rfl)) Zc)))))),?_⟩
  have hg:DGet H sp (.int x) (if x∈keys ns ns.length then some (V.ref (f x)) else none):=.inl ⟨_,Sum.inl x,.inr ⟨o,b.spots⟩,rfl,by unfold spk; rw [Jl]⟩
  refine ⟨_,rfl,_,rfl,p,_,dx,_,_,rfl,b.ins,T.cl_Tent,T.a_Tent_spots,Zb9 ..,sp,_,rfl,hg,_,rfl,?_⟩
  by_cases c:x∈keys ns ns.length
  ·rw [if_pos c] at hg ⊢
   refine iteF ?_
   exact ⟨_,rfl,p,_,dx,_,_,rfl,b.ins,T.cl_Tent,T.a_Tent_spots,Zb9 ..,_,rfl,sp,_,rfl,hg,f x,_,rfl,.inl (SqL.of (b.at' x c)),k1 c⟩
  ·rw [if_neg c] at hg ⊢
   exact iteT ⟨by decide,k2 c⟩
theorem Q3:FnScope ["self","seam","spots"] ["self","seam"] (Zj Vg):=⟨rfl,rfl,rfl,by decide +kernel,rfl,by decide +kernel,by decide +kernel⟩
theorem Ky (T:Txt w K mg t):FnOk P w K mg base (CXr P w) 2 t.f_Tent_sort_of t.d_Tent_sort_of ["self","seam"] (Kd t.C_Tent t.E_NoSeam):=by
 refine T.p_Tent_sort_of.F.aX Q3 (fun cdv A outer s H vs Q E hr h=>?_)
 ·obtain ⟨p,M,ns,x,rfl,ta,td,k1,k2⟩:=h
  obtain ⟨dx,cl,na,sp,mt,o,f,b⟩:=id ta
  refine ⟨_,(Z3 (U4 (i:=2) Q3.nd rfl (Or.inl rfl) (Vw (pv 0) T.cl_Tent T.p_Tent_places.m (Js T) (hr.mono (by decide)) T.p_Tent_places.b .nil (Za (pv 1) Zc)))
   (Z3 (Y3 (Z8 (Zt Yv (Zm Zh (by rfl) T.n_len PySem.boot_len (Za (pv 2) Zc)) Zd (Zu _)) (Zg (Zo Xp)) Zy))
   (Z3 (Y3 (Z8 (Zt Yv (pcT (Xe T) hr T.p_cloth_of (Za (Zp Zs (pv 2) Zd (fun _ _=>rfl)) Zc)) (pcT (Xe T) hr T.p_cloth_of (Za (Zp Zs (pv 2) Zd (fun _ _=>rfl)) Zc)) (Zu _)) (Zg (Zo Xp)) Zy))
   (Yl (Y3 (Zo Xp)))))),?_⟩
  refine ⟨_,rfl,p,dx,_,rfl,b.ins,Y5 _ _ _ _,_,rfl,p,M,ns,x,rfl,ta,fun c l hl=>?_,k2⟩
  have k1':=k1 c _ (Same.new (o:=.lst ((pl ns ns.length x).map nV)) hl)
  refine ⟨_,rfl,l,_,rfl,.inl (SqL.of Zb),rfl,_,rfl,?_⟩
  rcases Vv td c with ⟨a,e,_⟩ | ⟨a,b',hab,e,_⟩
  ·rw [e] at k1' ⊢
   refine iteT ?_
   have:Yq ns x="rim":=by unfold Yq; rw [e]
   rw [this] at k1'
   exact k1'
  ·rw [e] at k1' ⊢
   refine iteF ?_
   refine ⟨_,rfl,l,_,_,_,rfl,rfl,SqL.of Zb,rfl,_,rfl,_,rfl,l,_,_,_,rfl,rfl,SqL.of Zb,rfl,_,rfl,rfl,_,rfl,?_⟩
   by_cases q:a / 3=b' / 3
   ·have:Yq ns x="locked":=by unfold Yq; rw [e]; exact if_pos q
    rw [this] at k1'
    rw [decide_eq_true (by congr 1; omega)]
    exact iteT k1'
   ·have:Yq ns x="free":=by unfold Yq; rw [e]; exact if_neg q
    rw [this] at k1'
    rw [decide_eq_false (fun z=>q (by injection z; omega))]
    exact iteF k1'
end
end KT
set_option maxHeartbeats 4000000
namespace KT
open PySem L2
noncomputable def Zam (C ES ER EL:Addr):Sp:=fun vs H Q E=>∃ (p:Addr) (M:List (Option Nat)) (ns:List Int) (x:Int),vs=[.ref p,.int x]∧Ye C H p M ns∧TD M ns ∧
 (x∈keys ns ns.length→∀ H',Same H H'→(Yq ns x="rim"→E (.ref ER) none H')∧(Yq ns x="locked"→E (.ref EL) none H')∧(Yq ns x="free"→Q .non H'))∧(x ∉ keys ns ns.length→E (.ref ES) none H)
noncomputable def sqr (a b:Nat):List V:=[.int (after a),.int (Zr a),.int (after b),.int (Zr b)]
noncomputable def Zfk (C ES ER EL:Addr):Sp:=fun vs H Q E=>∃ (p:Addr) (M:List (Option Nat)) (ns:List Int) (x:Int),vs=[.ref p,.int x]∧Ye C H p M ns∧TD M ns ∧
 (x∈keys ns ns.length→∀ H',Same H H'→(Yq ns x="rim"→E (.ref ER) none H')∧(Yq ns x="locked"→E (.ref EL) none H')∧(∀ a b l,pl ns ns.length x=[a,b]→a < b→M[a]?=some (some b)→a / 3≠b / 3→H l=none→H' l=some (.tup (sqr a b))→Q (.ref l) H'))∧(x ∉ keys ns ns.length→E (.ref ES) none H)
theorem Kf {M:List (Option Nat)} {ns:List Int} (td:TD M ns) {x:Int} (hx:x∈keys ns ns.length) :
  (Yq ns x="rim"∧∃ a,pl ns ns.length x=[a]∧M[a]?=some none)∨(Yq ns x="locked"∧∃ a b,a < b∧pl ns ns.length x=[a,b]∧M[a]?=some (some b)∧a / 3=b / 3)∨(Yq ns x="free"∧∃ a b,a < b∧pl ns ns.length x=[a,b]∧M[a]?=some (some b)∧a / 3≠b / 3):=by
 rcases Vv td hx with ⟨a,e,_,ma⟩ | ⟨a,b,hab,e,_,_,ma,_⟩
 ·exact .inl ⟨by unfold Yq; rw [e],a,e,ma⟩
 ·by_cases c:a / 3=b / 3
  ·exact .inr (.inl ⟨by unfold Yq; rw [e]; exact if_pos c,a,b,hab,e,ma,c⟩)
  ·exact .inr (.inr ⟨by unfold Yq; rw [e]; exact if_neg c,a,b,hab,e,ma,c⟩)
theorem t_rf:¬ (("rim":Str))="free":=by decide
theorem t_lf:¬ (("locked":Str))="free":=by decide
theorem t_lr:¬ (("locked":Str))="rim":=by decide
theorem t_fr:¬ (("free":Str))="rim":=by decide
theorem t_fl:¬ (("free":Str))="locked":=by decide
theorem Kb {x y:Str} (h:¬ x=y):decide (V.str x=V.str y)=false:=decide_eq_false fun z=>h (by injection z)
theorem Zfh {x:Str}:decide (V.str x=V.str x)=true:=decide_eq_true rfl
section
variable {P:Program} {w:World} {K:PySem.W.Frag} {mg:Str→Option Value} {base:Heap} {t:Adr}
theorem Uj:FnScope ["tent","seam","sort"] ["tent","seam"] (Zj On):=⟨rfl,rfl,rfl,by decide +kernel,rfl,by decide +kernel,by decide +kernel⟩
theorem Zbq (T:Txt w K mg t):FnOk P w K mg base (CXr P w) 3 t.f_look_free t.d_look_free ["tent","seam"] (Zam t.C_Tent t.E_NoSeam t.E_Rim t.E_Locked):=by
 refine T.p_look_free.F.aX Uj (fun cdv A outer s H vs Q E hr h=>?_)
 ·obtain ⟨p,M,ns,x,rfl,ta,td,k1,k2⟩:=h
  obtain ⟨dx,cl,na,sp,mt,o,f,b⟩:=id ta
  refine ⟨_,(Z3 (U4 (i:=2) Uj.nd rfl (Or.inl rfl) (Vw (pv 0) T.cl_Tent T.p_Tent_sort_of.m (Ky T) (hr.mono (by decide)) T.p_Tent_sort_of.b .nil (Za (pv 1) Zc)))
   (Z3 (Vj (Zt Yv (pv 2) Xp (Zu _)) (Yl (Jd T.x_Rim FBV rfl T.gx_Rim rfl (Za Xp Zc))) Jo)
   (Yl (Vj (Zt Yv (pv 2) Xp (Zu _)) (Yl (Jd T.x_Locked FBV rfl T.gx_Locked rfl (Za Xp Zc))) Jo)))),?_⟩
  refine ⟨_,rfl,p,dx,_,rfl,b.ins,Y5 _ _ _ _,_,rfl,p,M,ns,x,rfl,ta,td,fun c H' sm=>?_,k2⟩
  obtain ⟨j1,j2,j3⟩:=k1 c H' sm
  refine ⟨_,rfl,rfl,_,rfl,?_⟩
  rcases Kf td c with ⟨e,_⟩ | ⟨e,_⟩ | ⟨e,_⟩
  ·rw [e,Zfh]
   exact iteT ⟨by decide,j1 e⟩
  ·rw [e,Kb t_lr]
   refine iteF ⟨_,rfl,rfl,_,rfl,?_⟩
   rw [Zfh]
   exact iteT ⟨by decide,j2 e⟩
  ·rw [e,Kb t_fr]
   refine iteF ⟨_,rfl,rfl,_,rfl,?_⟩
   rw [Kb t_fl]
   exact iteF (j3 e)
theorem Ui:FnScope ["tent","seam","lesser","greater"] ["tent","seam"] (Zj Za1):=⟨rfl,rfl,rfl,by decide +kernel,rfl,by decide +kernel,by decide +kernel⟩
theorem Zgb (T:Txt w K mg t):FnOk P w K mg base (CXr P w) 4 t.f_square t.d_square ["tent","seam"] (Zfk t.C_Tent t.E_NoSeam t.E_Rim t.E_Locked):=by
 refine T.p_square.F.aX Ui (fun cdv A outer s H vs Q E hr h=>?_)
 ·obtain ⟨p,M,ns,x,rfl,ta,td,k1,k2⟩:=h
  refine ⟨_,(Z3 (Qr (pxT (Zbq T) hr T.p_look_free (Za (pv 0) (Za (pv 1) Zc))))
   (Z3 (Y3 (Xn (Je (pv 0) T.cl_Tent T.p_Tent_places.m (Js T) (hr.mono (by decide)) T.p_Tent_places.b .nil Wh (Za (pv 1) Zc)) (Zmo rfl (Z2 (Zl (i:=2) Ui.nd rfl (Or.inl rfl)) (Z2 (Zl (i:=3) Ui.nd rfl (Or.inl rfl)) X1)))))
   (Yl (Y3 (Zo (Y8 (Za (pcT (Zbs T) hr T.p_after (Za (pv 2) Zc)) (Za (pcT (Fi T) hr T.p_before (Za (pv 2) Zc)) (Za (pcT (Zbs T) hr T.p_after (Za (pv 3) Zc)) (Za (pcT (Fi T) hr T.p_before (Za (pv 3) Zc)) Zc)))))))))),?_⟩
  refine ⟨_,rfl,_,rfl,p,M,ns,x,rfl,ta,td,fun c H' sm=>⟨(k1 c H' sm).1,(k1 c H' sm).2.1,fun e=>?_⟩,k2⟩
  obtain ⟨a,b,hab,ep,em,ne⟩:∃ a b,a < b∧pl ns ns.length x=[a,b]∧M[a]?=some (some b)∧a / 3≠b / 3:=by
   rcases Kf td c with ⟨e',_⟩ | ⟨e',_⟩ | ⟨e',q⟩
   ·exact absurd (e'.symm.trans e) t_rf
   ·exact absurd (e'.symm.trans e) t_lf
   ·exact q
  have ta':=ta.same sm
  obtain ⟨dx,cl,na,sp,mt,o,f,B⟩:=id ta'
  refine ⟨_,rfl,p,dx,_,rfl,B.ins,Y5 _ _ _ _,_,rfl,p,M,ns,x,rfl,ta',fun _ l hl=>?_,fun z=>absurd c z⟩
  rw [ep]
  refine ⟨l,_,rfl,SqL.of Zb,rfl,_,_,rfl,_,_,rfl,rfl,?_⟩
  refine ⟨_,rfl,_,rfl,?_⟩
  refine ⟨_,rfl,_,rfl,?_⟩
  refine ⟨_,rfl,_,rfl,?_⟩
  refine ⟨_,rfl,_,rfl,?_⟩
  refine ⟨(by show 4≤sizeLine; decide),fun q hq=>?_⟩
  obtain ⟨hql,hq'⟩:=Wj hq
  exact (k1 c _ (Same.add (Same.add sm (sm.free hl)) (sm.free hq'))).2.2 a b q ep hab em ne (sm.free hq') Zb
end
end KT
set_option maxHeartbeats 4000000
namespace KT
open PySem L2
noncomputable def Zke:Sp:=fun vs H Q _=>∃ (a b:Addr) (xs:List Int),vs=[.ref a,.ref b]∧H a=some (.lst (xs.map V.int))∧H b=some (.lst (xs.map V.int))∧xs.length≤100000∧Q (.bl true) H
noncomputable def Zkc:Sp:=fun vs H Q _=>∃ (r:Addr) (ns:List Int) (i:Nat) (x:Int),vs=[.ref r,.int i]∧Yr H r ns∧ns[i]?=some x∧Q (.int x) H
noncomputable def Wo (M:List (Option Nat)) (i:Nat):Bool:=match M[i]? with
 | some (some j)=>decide (i < j) && decide (i / 3≠j / 3)
 | _=>false
noncomputable def Q8 (M:List (Option Nat)) (i:Nat):Bool:=match M[i]? with
 | some (some j)=>decide (i < j)
 | _=>false
noncomputable def lowL (M:List (Option Nat)) (n:Nat):List Nat:=(List.range n).filter (Q8 M)
noncomputable def Xb (M:List (Option Nat)):List Nat:=(List.range M.length).filter (Wo M)
noncomputable def Zkf:Sp:=fun vs H Q _=>∃ (m:Addr) (M:List (Option Nat)),vs=[.ref m]∧H m=some (.lst (M.map mV))∧M.length≤1000∧(∀ (i j:Nat),M[i]?=some (some j)→M[j]?=some (some i)∧i≠j) ∧
 ∀ (l:Addr) (H':Hp),Same H H'→H l=none→H' l=some (.lst ((Xb M).map nV))→Q (.ref l) H'
noncomputable def Zfr:Sp:=fun vs H Q _=>∃ (m:Addr) (M:List (Option Nat)) (i j:Nat),vs=[.ref m,.int i]∧H m=some (.lst (M.map mV))∧M[i]?=some (some j) ∧
 ∀ (l:Addr) (H':Hp),Same H H'→H l=none→H' l=some (.lst (sqr i j))→Q (.ref l) H'
theorem Kp {H:Hp} {r:Addr} {ns:List Int} {i:Nat} {x:Int} (h:Yr H r ns) (hx:ns[i]?=some x):∃ ts:List Addr,∃ q,H r=some (.lst (ts.map V.ref))∧ts[i / 3]?=some q∧H q=some (.tup (row3 ns (i / 3)))∧(row3 ns (i / 3))[i % 3]?=some (V.int x):=by
 obtain ⟨ts,h1,h2,h3⟩:=h
 have hi:i < ns.length:=(List.getElem?_eq_some_iff.mp hx).1
 have hk:i / 3 < ts.length:=by omega
 refine ⟨ts,ts[i / 3],h1,List.getElem?_eq_getElem hk,h3 _ _ (List.getElem?_eq_getElem hk),?_⟩
 have g:∀ j,ns[j]?=some x→ns.getD j 0=x:=fun j hj=>by rw [List.getD_eq_getElem?_getD,hj]; rfl
 have hm:i % 3=0∨i % 3=1∨i % 3=2:=by omega
 rcases hm with m | m | m
 ·have:3 * (i / 3)=i:=by omega
  rw [m]; show some (V.int (ns.getD (3 * (i / 3)) 0))=_; rw [this,g i hx]
 ·have:3 * (i / 3) + 1=i:=by omega
  rw [m]; show some (V.int (ns.getD (3 * (i / 3) + 1) 0))=_; rw [this,g i hx]
 ·have:3 * (i / 3) + 2=i:=by omega
  rw [m]; show some (V.int (ns.getD (3 * (i / 3) + 2) 0))=_; rw [this,g i hx]
theorem div3 (i:Nat):(i:Int) / 3=((i / 3:Nat):Int):=by omega
theorem mod3 (i:Nat):(i:Int) % 3=((i % 3:Nat):Int):=by omega
theorem Ze7 (i:Nat):(i:Int) - (i:Int) % 3 + ((i:Int) + 1) % 3=after i:=by unfold after; split <;> omega
theorem Zc9 (i:Nat):(i:Int) - (i:Int) % 3 + ((i:Int) + 2) % 3=Zr i:=by unfold Zr; split <;> omega
noncomputable def sp_law (K:PySem.W.Frag):Sp:=fun vs H Q _=>∃ (a:Addr) (ns:List Int),vs=[.ref a]∧SqL K H a (ns.map V.int)∧ns.length≤63∧∀ H',Q (.bl true) H'
theorem sp_law_start {K:PySem.W.Frag} {H:Hp} {a:Addr} {ns:List Int} (hl:ns.length≤63) (hS:SqL K H a (ns.map V.int)):sp_law K [.ref a] H (fun v _=>v=.bl true) fun _ _ _=>False:=⟨a,ns,rfl,hS,hl,fun _=>rfl⟩
theorem Yr.copy {H:Hp} {r l:Addr} {ns:List Int} {ts:List Addr} (h1:H r=some (.lst (ts.map V.ref))) (h2:ns.length=3 * ts.length) (h3:∀ (k:Nat) (t:Addr),ts[k]?=some t→H t=some (.tup (row3 ns k))) (hl:H l=none):Yr (upd H l (.lst (ts.map V.ref))) l ns :=
 ⟨ts,Zb,h2,fun k q e=>by rw [Zf (Zk (h3 k q e) hl)]; exact h3 k q e⟩
theorem V3 {M:List (Option Nat)} {i:Nat} (h:i∈Xb M):∃ j,M[i]?=some (some j)∧i < j∧i / 3≠j / 3:=by
 have:=(List.mem_filter.mp h).2
 unfold Wo at this
 split at this
 ·rename_i j hj
  simp at this
  exact ⟨j,hj,this.1,this.2⟩
 ·cases this
theorem Zml {M:List (Option Nat)} {ns:List Int} (td:TD M ns) {i j:Nat} {x:Int} (hm:M[i]?=some (some j)) (hij:i < j) (hx:ns[i]?=some x):x∈keys ns ns.length∧pl ns ns.length x=[i,j]:=by
 have hi:i < ns.length:=(List.getElem?_eq_some_iff.mp hx).1
 have hk:x∈keys ns ns.length:=Ju.mpr ⟨i,hi,hx⟩
 have mi:i∈pl ns ns.length x:=Xo.mpr ⟨hi,hx⟩
 refine ⟨hk,?_⟩
 rcases Vv td hk with ⟨a,e,_,ma⟩ | ⟨a,b,hab,e,_,_,ma,mb⟩
 ·rw [e,List.mem_singleton] at mi
  subst mi
  rw [hm] at ma; cases ma
 ·rw [e] at mi
  rcases List.mem_cons.mp mi with z | z
  ·subst z
   rw [hm] at ma
   cases ma
   exact e
  ·have z:i=b:=by simpa using z
   subst z
   rw [hm] at mb
   cases mb
   omega
theorem Zho {H1:Hp} {r l x dx C:Addr} {ns:List Int} {ts:List Addr} (g1:H1 r=some (.lst (ts.map V.ref))) (g2:ns.length=3 * ts.length) (g3:∀ (k:Nat) (t:Addr),ts[k]?=some t→H1 t=some (.tup (row3 ns k)))
  (hl1:H1 l=none) (hx:upd H1 l (.lst (ts.map V.ref)) x=none) (hdx:upd H1 l (.lst (ts.map V.ref)) dx=none) :
  Yr (upd (upd (upd H1 l (.lst (ts.map V.ref))) dx (.own x)) x (.ins C dx [])) l ns∧Same (upd H1 l (.lst (ts.map V.ref))) (upd (upd (upd H1 l (.lst (ts.map V.ref))) dx (.own x)) x (.ins C dx [])):=by
 have s:Same (upd H1 l (.lst (ts.map V.ref))) (upd (upd (upd H1 l (.lst (ts.map V.ref))) dx (.own x)) x (.ins C dx [])):=Same.add (Same.new hdx) hx
 exact ⟨(Yr.copy g1 g2 g3 hl1).same s,s⟩
section
variable {P:Program} {w:World} {K:PySem.W.Frag} {mg:Str→Option Value} {base:Heap} {t:Adr}
theorem G1:FnScope ["_law_found","_law_due","_law_k"] ["_law_found","_law_due"] (Zj Za9):=⟨rfl,rfl,rfl,by decide +kernel,rfl,by decide +kernel,by decide +kernel⟩
theorem Zgh (T:Txt w K mg t):FnOk P w K mg base (CXr P w) 2 t.f_l_list t.d_l_list ["_law_found","_law_due"] Zke:=by
 refine T.p_l_list.F.aR G1 (fun cdv A outer s H vs Q E hr h=>?_)
 ·obtain ⟨a,b,xs,rfl,ha,hb,hl,k⟩:=h
  refine ⟨_,(Ze (Z8 (PW.pt (Qc (Xz (Xy (Zm W6 (by rfl) T.n_isinstance PyProof.Rows.boot_isinstance (Za (pv 0) (Za (Vk (v:=.ty "list") (by rfl) T.n_list PySem.Pv.boot_list rfl) Zc))))) (J3 (Zt Q5 (Zm Zh (by rfl) T.n_len PySem.boot_len (Za (pv 0) Zc)) (Zm Zh (by rfl) T.n_len PySem.boot_len (Za (pv 1) Zc)) (Zu _))))) (Zg (Zo Xv)) Zy)
   (Ze (Yg PassesOwn.never rfl (Z7 rfl T.n_range (Za (Zm Zh (by rfl) T.n_len PySem.boot_len (Za (pv 1) Zc)) Zc)) (Zl (i:=2) G1.nd rfl (Or.inl rfl)) (Zg (Z8 (PW.pt (Qc (Xz (Xy (pcT (Zen T) hr T.p_l_whole (Za (Zp Zs (pv 0) (pv 2) (fun _ _=>rfl)) Zc)))) (J3 (Zt Q5 (Zp Zs (pv 0) (pv 2) (fun _ _=>rfl)) (Zp Zs (pv 1) (pv 2) (fun _ _=>rfl)) (Zu _))))) (Zg (Zo Xv)) Zy)))
   (Zg (Zo Xv)))),?_⟩
  refine ⟨_,rfl,_,"list",_,true,rfl,TyOf.lst ha,Vz,_,rfl,iteF ?_⟩
  refine ⟨_,rfl,a,_,rfl,.inl (SqL.of ha),_,rfl,b,_,rfl,.inl (SqL.of hb),rfl,_,rfl,?_⟩
  rw [show (!decide (V.int ((xs.map V.int).length:Nat)=V.int ((xs.map V.int).length:Nat)))=false by simp]
  refine iteF ?_
  dsimp only [X8]
  show tSeq (tFor _ _ _) _ _ _ _
  refine Z4 (fun σ H1=>H1=H) (fun nx hnx=>?_) ?_
  ·refine ⟨_,rfl,b,_,rfl,.inl (SqL.of hb),_,rfl,by omega,by rw [List.length_map]; omega,?_⟩
   have eL:(((xs.map V.int).length:Nat):Int).toNat=xs.length:=by simp
   rw [eL]
   refine Yy (n:=xs.length) (fun i σ H1=>∃ v,σ=[some (.ref a),some (.ref b),v]∧H1=H) ⟨none,rfl,rfl⟩ ?_ ?_
   ·rintro i σ H1 hlt ⟨v,rfl,rfl⟩
    have ei:atI (xs.map V.int) (0 + (i:Int))=some (V.int xs[i]):=by rw [Int.zero_add]; exact Z0 (List.getElem?_eq_getElem hlt)
    dsimp only [Zn]
    refine ⟨_,rfl,_,rfl,a,_,_,_,rfl,rfl,SqL.of ha,ei,_,rfl,_,rfl,iteF ?_⟩
    refine ⟨_,rfl,_,rfl,a,_,_,_,rfl,rfl,SqL.of ha,ei,_,rfl,_,rfl,b,_,_,_,rfl,rfl,SqL.of hb,ei,rfl,_,rfl,?_⟩
    rw [show (!decide (V.int xs[i]=V.int xs[i]))=false by simp]
    exact iteF ⟨_,rfl,rfl⟩
   ·rintro σ H1 ⟨v,rfl,rfl⟩
    exact hnx _ _ rfl
  ·rintro σ H1 rfl
   exact k
theorem Zft:FnScope ["_law_rows_here","_law_place"] ["_law_rows_here","_law_place"] (Zj Za7):=⟨rfl,rfl,rfl,by decide +kernel,rfl,by decide +kernel,by decide +kernel⟩
theorem Ur (T:Txt w K mg t):FnOk P w K mg base (CXr P w) 1 t.f_l_seam t.d_l_seam ["_law_rows_here","_law_place"] Zkc:=by
 refine T.p_l_seam.F.aR Zft (fun cdv A outer s H vs Q E hr h=>?_)
 ·obtain ⟨r,ns,i,x,rfl,hr1,hx,k⟩:=h
  refine ⟨_,(Zg (Zo (Zp Jh (Zp Zs (pv 0) (Zi Yd (pv 1) Zd) (fun _ _=>rfl)) (Zi Zz (pv 1) Zd) (fun _ _=>rfl)))),?_⟩
  obtain ⟨ts,q,e1,e2,e3,e4⟩:=Kp hr1 hx
  refine ⟨_,rfl,_,rfl,_,_,rfl,rfl,⟨by decide,by decide⟩,r,_,_,_,rfl,rfl,SqL.of e1,(by rw [div3]; exact Z0 e2),_,rfl,_,_,rfl,rfl,(by show (0:Int) < 3; decide),q,_,_,_,rfl,rfl,SqT.of e3,(by rw [mod3]; exact Yu e4),k⟩
theorem Vb:FnScope ["_law_mates","_law_place","_law_row","_law_side"] ["_law_mates","_law_place"] (Zj Kn):=⟨rfl,rfl,rfl,by decide +kernel,rfl,by decide +kernel,by decide +kernel⟩
theorem Zcy (T:Txt w K mg t):FnOk P w K mg base (CXr P w) 1 t.f_l_around t.d_l_around ["_law_mates","_law_place"] Zfr:=by
 refine T.p_l_around.F.aR Vb (fun cdv A outer s H vs Q E hr h=>?_)
 ·obtain ⟨m,M,i,j,rfl,hm,hij,k⟩:=h
  refine ⟨_,(Ze (Zq (i:=2) Vb.nd rfl (Or.inl rfl) (Y4 Zc))
   (Ze (Yg PassesOwn.never rfl (Yt (Y4 (Za (pv 1) (Za (Zp Zs (pv 0) (pv 1) (fun _ _=>rfl)) Zc)))) (Zl (i:=3) Vb.nd rfl (Or.inl rfl)) (Ze (Xg (Wg PySem.F.plainAttrs_list PySem.F.slot_list_append PySem.F.type_list_append Y2 (pv 2) (Za (Zi Ya (Zi Qt (pv 3) (Zi Zz (pv 3) Zd)) (Zi Zz (Zi Ya (pv 3) Zd) Zd)) Zc)))
   (Zg (Xg (Wg PySem.F.plainAttrs_list PySem.F.slot_list_append PySem.F.type_list_append Y2 (pv 2) (Za (Zi Ya (Zi Qt (pv 3) (Zi Zz (pv 3) Zd)) (Zi Zz (Zi Ya (pv 3) Zd) Zd)) Zc))))))
   (Zg (Zo (pv 2))))),?_⟩
  refine ⟨Nat.zero_le _,fun r hr0=>?_⟩
  have hmr:m≠r:=Zk hm hr0
  dsimp only [Zn]
  show tSeq (tFor _ _ _) _ _ _ _
  refine Z4 (fun σ H1=>∃ v,σ=[some (.ref m),some (.int i),some (.ref r),v]∧Same H H1∧H1 r=some (.lst (sqr i j))) (fun nx hnx=>?_) ?_
  ·refine ⟨_,rfl,_,rfl,_,rfl,m,_,_,_,rfl,rfl,SqL.of (by rw [Zf hmr]; exact hm),Z0 hij,(by show 2≤sizeLine; decide),fun q hq=>?_⟩
   obtain ⟨hqr,hq0⟩:=Wj hq
   refine ⟨q,rfl,⟨_,SqL.of Zb⟩,?_⟩
   refine Jb (xs:=[V.int i,V.int j]) (fun n σ H1=>∃ v,σ=[some (.ref m),some (.int i),some (.ref r),v]∧Same H H1∧H1 q=some (.lst [V.int i,V.int j])∧H1 r=some (.lst ((sqr i j).take (2 * n)))) ⟨none,rfl,Same.add (Same.new hr0) hq0,Zb,by rw [Zf (Ne.symm hqr),Zb]; rfl⟩ ?_ ?_ ?_
   ·rintro n σ H1 _ ⟨v,rfl,sm,h1,h2⟩
    exact SqL.of h1
   ·rintro n x σ H1 hx ⟨v,rfl,sm,h1,h2⟩
    have lt:∀ z:Nat,z≤4→((sqr i j).take z).length < sizeLine:=fun z hz=>by rw [List.length_take]; exact Zx (by omega)
    dsimp only [Zn]
    obtain ⟨c,rfl⟩:∃ c:Nat,x=V.int c:=by
     match n,hx with
     | 0,hx=>exact ⟨i,(Option.some.inj hx).symm⟩
     | 1,hx=>exact ⟨j,(Option.some.inj hx).symm⟩
    refine ⟨_,rfl,.inl ⟨rfl,_,SqL.of h2⟩,_,rfl,_,rfl,_,_,rfl,rfl,(by show (0:Int) < 3; decide),_,_,rfl,rfl,_,rfl,_,_,rfl,rfl,_,_,rfl,rfl,(by show (0:Int) < 3; decide),_,_,rfl,rfl,r,_,_,rfl,rfl,h2,lt _ (by have:=(List.getElem?_eq_some_iff.mp hx).1; simp at this; omega),?_⟩
    refine ⟨_,rfl,.inl ⟨rfl,_,SqL.of Zb⟩,_,rfl,_,rfl,_,_,rfl,rfl,(by show (0:Int) < 3; decide),_,_,rfl,rfl,_,rfl,_,_,rfl,rfl,_,_,rfl,rfl,(by show (0:Int) < 3; decide),_,_,rfl,rfl,r,_,_,rfl,rfl,Zb,?_,?_⟩
    ·rw [List.length_append,List.length_take]; exact Zx (by simp [sqr]; omega)
    ·refine ⟨_,rfl,Same.add (Same.add sm hr0) hr0,?_,?_⟩
     ·rw [Zf hqr,Zf hqr]; exact h1
     ·rw [Zb]
      dsimp only
      rw [Ze7,Zc9]
      match n,hx with
      | 0,hx =>
       have e:i=c:=by have e:=Option.some.inj hx; injection e with e; omega
       subst e; rfl
      | 1,hx =>
       have e:j=c:=by have e:=Option.some.inj hx; injection e with e; omega
       subst e; rfl
   ·rintro σ H1 ⟨v,rfl,sm,h1,h2⟩
    exact hnx _ _ ⟨v,rfl,sm,h2⟩
  rintro σ H1 ⟨v,rfl,sm,h2⟩
  exact ⟨_,rfl,k r H1 sm hr0 h2⟩
theorem O5 (M:List (Option Nat)) (n:Nat):lowL M (n + 1)=if Q8 M n=true then lowL M n ++ [n] else lowL M n:=by
 unfold lowL
 rw [List.range_succ,List.filter_append]
 by_cases c:Q8 M n=true
 ·simp [c]
 ·simp [c]
theorem Zgs (M:List (Option Nat)) (n:Nat):(lowL M n).length≤n:=by
 unfold lowL
 exact Nat.le_trans (List.length_filter_le _ _) (by simp)
theorem Zi5 (M:List (Option Nat)):(lowL M M.length).filter (Wo M)=Xb M:=by
 unfold lowL Xb
 rw [List.filter_filter]
 congr 1
 funext i
 unfold Wo Q8
 cases M[i]? with
 | none=>rfl
 | some o=>cases o with
  | none=>rfl
  | some j=>by_cases c:i < j <;> simp [c]
theorem Zcb {α:Type} {p:α→Bool} {l:List α} {i:Nat} {x:α} (h:l[i]?=some x):(l.take (i + 1)).filter p=if p x=true then (l.take i).filter p ++ [x] else (l.take i).filter p:=by
 rw [List.take_add_one,h,List.filter_append]
 by_cases c:p x=true
 ·simp [c]
 ·simp [c]
theorem G2:FnScope ["_law_mates","_law_row"] ["_law_mates"] (Zj Zbb):=⟨rfl,rfl,rfl,by decide +kernel,rfl,by decide +kernel,by decide +kernel⟩
theorem Fh (T:Txt w K mg t):FnOk P w K mg base (CXr P w) 1 t.f_l_free t.d_l_free ["_law_mates"] Zkf:=by
  refine T.p_l_free.F.aR G2 (fun cdv A outer s H vs Q E hr h=>?_)
  · obtain ⟨m,M,rfl,hm,hl,inv,k⟩:=h
    refine ⟨_,(Ze (Xs (ts:=["_law_p"]) (fv:=[("_law_mates",0)]) (i:=1) ⟨rfl,by decide +kernel,by decide +kernel,Yh (by rfl),⟨⟨rfl,rfl,Or.inl rfl⟩,trivial⟩⟩ rfl G2.nd rfl rfl (by rfl) (Z7 rfl T.n_range (Za (Zm Zh (by rfl) T.n_len PySem.boot_len (Za (pv 0) Zc)) Zc)) (fun _ _ _ _=>(Zl (i:=0) (show List.Nodup (["_law_p","_law_mates"]:List Str) from by decide +kernel) rfl (Or.inl rfl) (Or.inr rfl))) (fun _ _ _ _=>(Jc (PW.pt (Kr (Zt Qj (Zp (Yw K) (pv 1) (pv 0) (fun _ _=>rfl)) W3 (Zu _)) (U3 (Zt Q6 (pv 0) (Zp (Yw K) (pv 1) (pv 0) (fun _ _=>rfl)) (Zu _))))))) (fun _ _ _=>rfl) (fun _ _ _ _ _ _=>Yj (pv 0)))
      (Zg (Zo (Y0 (ts:=["_law_p"]) (fv:=[("_law_mates",0)]) ⟨rfl,by decide +kernel,by decide +kernel,Yh (by rfl),⟨⟨rfl,rfl,Or.inl rfl⟩,trivial⟩⟩ rfl (Yt (pv 1)) (fun _ _ _ _=>(Zl (i:=0) (show List.Nodup (["_law_p","_law_mates"]:List Str) from by decide +kernel) rfl (Or.inl rfl) (Or.inr rfl))) (fun _ _ _ _=>(Jc (Zt Q5 (Zi Yd (pv 0) Zd) (Zi Yd (Zp (Yw K) (pv 1) (pv 0) (fun _ _=>rfl)) Zd) (Zu _)))) (fun _ _ _=>rfl) (fun _ _ _ _ _ _=>Yj (pv 0)))))),?_⟩
    refine ⟨_,rfl,m,_,rfl,.inl (SqL.of hm),_,rfl,by omega,by rw [List.length_map]; omega,fun D hD=>?_⟩
    have eL:(((M.map mV).length:Nat):Int).toNat=M.length:=by simp
    rw [eL]
    refine Xq (fun i σ H1=>∃ v,σ=[v,some (.ref m)]∧Same H H1∧H1 D=some (.lst ((lowL M i).map nV))) ⟨none,rfl,Same.new hD,Zb⟩ ?_ ?_
    · rintro i σ H1 hlt ⟨v,rfl,sm,h1⟩
      have e0:(0 + (i:Int))=(i:Int):=Int.zero_add _
      dsimp only [Zn]
      rw [e0]
      obtain ⟨y,hy⟩:∃ y,M[i]?=some y:=⟨_,List.getElem?_eq_getElem hlt⟩
      have at':=Z0 (f:=mV) hy
      have lt:((lowL M i).map nV).length < sizeLine:=by rw [List.length_map]; exact Zx (by have:=Zgs M i; omega)
      refine ⟨_,rfl,_,rfl,m,_,_,_,rfl,rfl,SqL.of (sm _ _ hm),at',rfl,_,rfl,?_⟩
      cases y with
      | none =>
        refine iteF (iteF ⟨_,rfl,sm,?_⟩)
        rw [h1,O5,if_neg (by unfold Q8; rw [hy]; simp)]
      | some j =>
        refine iteT ⟨_,rfl,_,rfl,_,rfl,m,_,_,_,rfl,rfl,SqL.of (sm _ _ hm),at',_,_,rfl,rfl,_,rfl,?_⟩
        by_cases c:i < j
        · rw [decide_eq_true (by omega:(i:Int) < (j:Int))]
          refine iteT ⟨_,rfl,_,h1,lt,_,rfl,Same.add sm hD,?_⟩
          rw [Zb,O5,if_pos (by unfold Q8; rw [hy]; simp [c]),List.map_append]
          rfl
        · rw [decide_eq_false (by omega:¬ (i:Int) < (j:Int))]
          refine iteF ⟨_,rfl,sm,?_⟩
          rw [h1,O5,if_neg (by unfold Q8; rw [hy]; simp [c])]
    rintro σ H1 ⟨v,rfl,sm,h1⟩
    refine ⟨_,rfl,D,rfl,⟨_,SqL.of h1⟩,fun D2 hD2=>?_⟩
    have hD20:H D2=none:=sm.free hD2
    refine Y9 (xs:=(lowL M M.length).map nV) (fun i σ H2=>∃ v,σ=[v,some (.ref m)]∧Same H1 H2∧H2 D2=some (.lst ((((lowL M M.length).take i).filter (Wo M)).map nV))) ⟨none,rfl,Same.new hD2,Zb⟩ ?_ ?_ ?_
    · rintro i σ H2 _ ⟨v,rfl,sm2,h2⟩
      exact SqL.of (sm2 _ _ h1)
    · rintro i x σ H2 hx ⟨v,rfl,sm2,h2⟩
      obtain ⟨p,hp,rfl⟩:=map_some hx
      have hpm:p∈lowL M M.length:=List.mem_of_getElem? hp
      obtain ⟨j,hj,hpj⟩:∃ j,M[p]?=some (some j)∧p < j:=by
        have:=(List.mem_filter.mp hpm).2
        unfold Q8 at this
        split at this
        · rename_i j hj; exact ⟨j,hj,of_decide_eq_true this⟩
        · cases this
      have lt:((((lowL M M.length).take i).filter (Wo M)).map nV).length < sizeLine:=by
        rw [List.length_map]
        exact Zx (by
          have h1:=List.length_filter_le (Wo M) ((lowL M M.length).take i)
          have h2:=List.length_take_le i (lowL M M.length)
          have h3:=List.length_take_le' i (lowL M M.length)
          have h4:=Zgs M M.length
          omega)
      dsimp only [Zn]
      refine ⟨_,rfl,_,_,rfl,rfl,⟨by decide,by decide⟩,_,rfl,_,rfl,m,_,_,_,rfl,rfl,SqL.of (sm2 _ _ (sm _ _ hm)),Z0 hj,_,_,rfl,rfl,⟨by decide,by decide⟩,rfl,_,rfl,?_⟩
      by_cases c:p / 3=j / 3
      · rw [show (!decide (V.int ((p:Int) / 3)=V.int ((j:Int) / 3)))=false by
          rw [show (p:Int) / 3=(j:Int) / 3 by omega]; simp]
        refine iteF ⟨_,rfl,sm2,?_⟩
        rw [h2,Zcb hp,if_neg (by unfold Wo; rw [hj]; simp [c])]
      · rw [show (!decide (V.int ((p:Int) / 3)=V.int ((j:Int) / 3)))=true by
          rw [decide_eq_false (fun z=>c (by injection z; omega))]; rfl]
        refine iteT ⟨_,rfl,_,h2,lt,_,rfl,Same.add sm2 hD2,?_⟩
        rw [Zb,Zcb hp,if_pos (by unfold Wo; rw [hj]; simp [c,hpj]),List.map_append]
        rfl
    rintro σ H2 ⟨v,rfl,sm2,h2⟩
    rw [List.length_map,List.take_length,Zi5] at h2
    exact k D2 H2 (sm.trans sm2) hD20 h2
noncomputable def Zfp:Sp:=fun vs H Q _=>∃ (a b:Addr) (ns:List Int),vs=[.ref a,.ref b]∧Yr H a ns∧Yr H b ns∧ns.length≤1000∧∀ H',Same H H'→Q (.bl true) H'
theorem Om:FnScope ["_law_found","_law_due","_law_k"] ["_law_found","_law_due"] (Zj Km):=⟨rfl,rfl,rfl,by decide +kernel,rfl,by decide +kernel,by decide +kernel⟩
theorem Zcx (T:Txt w K mg t):FnOk P w K mg base (CXr P w) 3 t.f_l_cloths t.d_l_cloths ["_law_found","_law_due"] Zfp:=by
 refine T.p_l_cloths.F.aR Om (fun cdv A outer s H vs Q E hr h=>?_)
 ·obtain ⟨a,b,ns,rfl,⟨ta,a1,a2,a3⟩,⟨tb,b1,b2,b3⟩,hl,k⟩:=h
  refine ⟨_,(Ze (Z8 (PW.pt (Qc (Xz (Xy (Zm W6 (by rfl) T.n_isinstance PyProof.Rows.boot_isinstance (Za (pv 0) (Za (Vk (v:=.ty "list") (by rfl) T.n_list PySem.Pv.boot_list rfl) Zc))))) (J3 (Zt Q5 (Zm Zh (by rfl) T.n_len PySem.boot_len (Za (pv 0) Zc)) (Zm Zh (by rfl) T.n_len PySem.boot_len (Za (pv 1) Zc)) (Zu _))))) (Zg (Zo Xv)) Zy)
   (Ze (Yg PassesOwn.never rfl (Z7 rfl T.n_range (Za (Zm Zh (by rfl) T.n_len PySem.boot_len (Za (pv 1) Zc)) Zc)) (Zl (i:=2) Om.nd rfl (Or.inl rfl)) (Zg (Z8 (PW.pt (Qc (Xz (Xy (Zm W6 (by rfl) T.n_isinstance PyProof.Rows.boot_isinstance (Za (Zp Zs (pv 0) (pv 2) (fun _ _=>rfl)) (Za (Vk (v:=.ty "tuple") (by rfl) T.n_tuple PySem.Pv.boot_tuple rfl) Zc))))) (J3 (Xz (Xy (pcT (Zgh T) hr T.p_l_list (Za (Ys Yo (by rfl) T.n_list PySem.Pv.boot_list (Za (Zp Zs (pv 0) (pv 2) (fun _ _=>rfl)) Zc)) (Za (Ys Yo (by rfl) T.n_list PySem.Pv.boot_list (Za (Zp Zs (pv 1) (pv 2) (fun _ _=>rfl)) Zc)) Zc)))))))) (Zg (Zo Xv)) Zy)))
   (Zg (Zo Xv)))),?_⟩
  have el:ta.length=tb.length:=by omega
  refine ⟨_,rfl,_,"list",_,true,rfl,TyOf.lst a1,Vz,_,rfl,iteF ?_⟩
  refine ⟨_,rfl,a,_,rfl,.inl (SqL.of a1),_,rfl,b,_,rfl,.inl (SqL.of b1),rfl,_,rfl,?_⟩
  rw [show (!decide (V.int ((ta.map V.ref).length:Nat)=V.int ((tb.map V.ref).length:Nat)))=false by rw [List.length_map,List.length_map,el]; simp]
  refine iteF ?_
  dsimp only [X8]
  show tSeq (tFor _ _ _) _ _ _ _
  refine Z4 (fun σ H1=>Same H H1) (fun nx hnx=>?_) ?_
  ·refine ⟨_,rfl,b,_,rfl,.inl (SqL.of b1),_,rfl,by omega,by rw [List.length_map]; omega,?_⟩
   have eL:(((tb.map V.ref).length:Nat):Int).toNat=tb.length:=by simp
   rw [eL]
   refine Yy (n:=tb.length) (fun i σ H1=>∃ v,σ=[some (.ref a),some (.ref b),v]∧Same H H1) ⟨none,rfl,Same.refl _⟩ ?_ ?_
   ·rintro i σ H1 hlt ⟨v,rfl,sm⟩
    have hlt':i < ta.length:=by omega
    have e1:atI (ta.map V.ref) (0 + (i:Int))=some (V.ref ta[i]):=by rw [Int.zero_add]; exact Z0 (List.getElem?_eq_getElem hlt')
    have e2:atI (tb.map V.ref) (0 + (i:Int))=some (V.ref tb[i]):=by rw [Int.zero_add]; exact Z0 (List.getElem?_eq_getElem hlt)
    have t1:=sm _ _ (a3 i _ (List.getElem?_eq_getElem hlt'))
    have t2:=sm _ _ (b3 i _ (List.getElem?_eq_getElem hlt))
    dsimp only [Zn]
    refine ⟨_,rfl,_,rfl,a,_,_,_,rfl,rfl,SqL.of (sm _ _ a1),e1,_,"tuple",_,true,rfl,TyOf.tup t1,Vz,_,rfl,iteF ?_⟩
    refine ⟨_,rfl,_,rfl,a,_,_,_,rfl,rfl,SqL.of (sm _ _ a1),e1,_,_,rfl,.inr (SqT.of t1),fun l1 h1=>?_⟩
    have s1:=Same.new (o:=.lst (row3 ns i)) h1
    refine ⟨_,rfl,_,rfl,b,_,_,_,rfl,rfl,SqL.of (s1 _ _ (sm _ _ b1)),e2,_,_,rfl,.inr (SqT.of (s1 _ _ t2)),fun l2 h2=>?_⟩
    have s2:=Same.new (o:=.lst (row3 ns i)) h2
    refine ⟨l1,l2,[ns.getD (3 * i) 0,ns.getD (3 * i + 1) 0,ns.getD (3 * i + 2) 0],rfl,s2 _ _ Zb,Zb,(by show 3≤100000; decide),_,rfl,iteF ?_⟩
    exact ⟨_,rfl,(sm.trans s1).trans s2⟩
   ·rintro σ H1 ⟨v,rfl,sm⟩
    exact hnx _ _ sm
  ·rintro σ H1 sm
   exact k _ sm
end
end KT
set_option maxHeartbeats 4000000
namespace KT
open PySem L2
noncomputable def isL (way:Str):Bool:=decide (way="left")
noncomputable def Zcm (EW:Addr):Sp:=fun vs H Q E=>∃ way:Str,vs=[.str way]∧(way="left"∨way="right"→Q .non H)∧(¬ (way="left"∨way="right")→E (.ref EW) none H)
structure Wrong (EW ES ER EL:Addr) (M:List (Option Nat)) (ns:List Int) (x:Int) (way:Str) (H:Hp) (E:XK) (G:Nat→Nat→Hp→Prop):Prop where
 noway:¬ (way="left"∨way="right")→E (.ref EW) none H
 seam:way="left"∨way="right"→x ∉ keys ns ns.length→E (.ref ES) none H
 rim:way="left"∨way="right"→∀ H',Same H H'→x∈keys ns ns.length→Yq ns x="rim"→E (.ref ER) none H'
 lock:way="left"∨way="right"→∀ H',Same H H'→x∈keys ns ns.length→Yq ns x="locked"→E (.ref EL) none H'
 go:way="left"∨way="right"→∀ a b H',Same H H'→pl ns ns.length x=[a,b]→a < b→M[a]?=some (some b)→a / 3≠b / 3→G a b H'
noncomputable def Zfl (C EW ES ER EL:Addr):Sp:=fun vs H Q E=>∃ (p:Addr) (M:List (Option Nat)) (ns:List Int) (x:Int) (way:Str),vs=[.ref p,.int x,.str way]∧Ye C H p M ns∧TD M ns ∧
 Wrong EW ES ER EL M ns x way H E fun a b H'=>∀ l,H l=none→H' l=some (.dK (glV (isL way) a b))→Q (.ref l) H'
theorem Zae (way:Str):(valV [((Sum.inr "left":Key),V.str "right"),(Sum.inr "right",V.str "left")] (Sum.inr way)).isSome=true ↔ way="left"∨way="right":=by
 unfold valV
 by_cases c1:way="left"
 ·subst c1; simp
 ·by_cases c2:way="right"
  ·subst c2
   simp [List.find?_cons]
   split <;> simp
  ·have n1:¬ (Sum.inr "left":Key)=Sum.inr way:=fun z=>c1 (by injection z with z; exact z.symm)
   have n2:¬ (Sum.inr "right":Key)=Sum.inr way:=fun z=>c2 (by injection z with z; exact z.symm)
   simp [List.find?_cons,n1,n2,c1,c2]
section
variable {P:Program} {w:World} {K:PySem.W.Frag} {mg:Str→Option Value} {base:Heap} {t:Adr}
theorem Zcp:FnScope ["way"] ["way"] (Zj Kk):=⟨rfl,rfl,rfl,by decide +kernel,rfl,by decide +kernel,by decide +kernel⟩
theorem Zcv (T:Txt w K mg t):FnOk P w K mg base (CXr P w) 1 t.f_look_way t.d_look_way ["way"] (Zcm t.E_NoWay):=by
 refine T.p_look_way.F.aX Zcp (fun cdv A outer s H vs Q E hr h=>?_)
 ·obtain ⟨way,rfl,k1,k2⟩:=h
  refine ⟨_,(Yl (Vj (Zf0 (Zf7 (pv 0) (Zdm (v:=.ref t.g_CONTRARY_WAYS) rfl T.gd_CONTRARY_WAYS rfl)) (by with_unfolding_all rfl)) (Yl (Jd T.x_NoWay FBV rfl T.gx_NoWay rfl (Za Xp Zc))) Jo)),?_⟩
  refine ⟨_,rfl,t.g_CONTRARY_WAYS,_,Sum.inr way,rfl,T.kd_CONTRARY_WAYS,rfl,_,rfl,?_⟩
  by_cases c:way="left"∨way="right"
  ·rw [(Zae way).mpr c]
   exact iteF (k1 c)
  ·have:(valV [((Sum.inr "left":Key),V.str "right"),(Sum.inr "right",V.str "left")] (Sum.inr way)).isSome=false:=by
    rw [Bool.eq_false_iff]; exact fun z=>c ((Zae way).mp z)
   rw [this]
   exact iteT ⟨by decide,k2 c⟩
theorem J1:FnScope ["tent","seam","way","a","b","c","d"] ["tent","seam","way"] (Zj Za2):=⟨rfl,rfl,rfl,by decide +kernel,rfl,by decide +kernel,by decide +kernel⟩
theorem Fg (T:Txt w K mg t):FnOk P w K mg base (CXr P w) 5 t.f_shifts t.d_shifts ["tent","seam","way"] (Zfl t.C_Tent t.E_NoWay t.E_NoSeam t.E_Rim t.E_Locked):=by
 refine T.p_shifts.F.aX J1 (fun cdv A outer s H vs Q E hr h=>?_)
 ·obtain ⟨p,M,ns,x,way,rfl,ta,td,W⟩:=h
  refine ⟨_,(Z3 (Qr (pxT (Zcv T) hr T.p_look_way (Za (pv 2) Zc)))
   (Z3 (Zkq (pxT (Zgb T) hr T.p_square (Za (pv 0) (Za (pv 1) Zc))) (W0 rfl (Z2 (Zl (i:=3) J1.nd rfl (Or.inl rfl)) (Z2 (Zl (i:=4) J1.nd rfl (Or.inl rfl)) (Z2 (Zl (i:=5) J1.nd rfl (Or.inl rfl)) (Z2 (Zl (i:=6) J1.nd rfl (Or.inl rfl)) X1))))))
   (Z3 (Y3 (Z8 (Zt Yv (pv 2) Xp (Zu _)) (Zg (Zo (Gp (Xt (pv 3) (pv 6) (Xt (pv 6) (pv 5) (Xt (pv 5) (pv 4) (Xt (pv 4) (pv 3) Go)))) rfl rfl (List.cons_ne_nil _ _) (by decide)))) Zy))
   (Yl (Y3 (Zo (Gp (Xt (pv 3) (pv 4) (Xt (pv 4) (pv 5) (Xt (pv 5) (pv 6) (Xt (pv 6) (pv 3) Go)))) rfl rfl (List.cons_ne_nil _ _) (by decide)))))))),?_⟩
  refine ⟨_,rfl,way,rfl,fun hw=>?_,W.noway⟩
  refine ⟨_,rfl,_,rfl,p,M,ns,x,rfl,ta,td,fun c H' sm=>⟨fun e=>W.rim hw H' sm c e,fun e=>W.lock hw H' sm c e,fun a b l e1 e2 e3 e4 e5 e6=>?_⟩,fun c=>W.seam hw c⟩
  refine ⟨l,_,rfl,SqT.of e6,rfl,_,_,rfl,_,_,rfl,_,_,rfl,_,_,rfl,rfl,?_⟩
  refine ⟨_,rfl,rfl,_,rfl,?_⟩
  by_cases c:way="left"
  ·have cl:isL way=true:=decide_eq_true c
   have:=fun H'' s''=>W.go hw a b H'' s'' e1 e2 e3 e4
   rw [cl] at this
   rw [decide_eq_true (show V.str way=V.str "left" by rw [c])]
   refine iteT ?_
   intro d hd
   refine ⟨_,rfl,_,rfl,_,rfl,_,rfl,_,rfl,_,rfl,_,rfl,_,rfl,Zb,glV true a b,?_,?_,?_⟩
   ·rw [Zb6 e4]; rfl
   ·rw [Zb6 e4]; show 4≤15; decide
   ·rw [Zb1 e4]
    exact this _ (Same.add (Same.add sm (sm.free hd)) (sm.free hd)) d (sm.free hd) Zb
  ·have cl:isL way=false:=decide_eq_false c
   have:=fun H'' s''=>W.go hw a b H'' s'' e1 e2 e3 e4
   rw [cl] at this
   rw [Kb c]
   refine iteF ?_
   intro d hd
   refine ⟨_,rfl,_,rfl,_,rfl,_,rfl,_,rfl,_,rfl,_,rfl,_,rfl,Zb,glV false a b,?_,?_,?_⟩
   ·rw [Fv e4]; rfl
   ·rw [Fv e4]; show 4≤15; decide
   ·rw [Zb1 e4]
    exact this _ (Same.add (Same.add sm (sm.free hd)) (sm.free hd)) d (sm.free hd) Zb
end
end KT
set_option maxHeartbeats 4000000
namespace KT
open PySem L2
noncomputable def wayS (left:Bool):Str:=if left then "left" else "right"
theorem Zlx (left:Bool):wayS left="left"∨wayS left="right":=by cases left <;> simp [wayS]
theorem Gh (left:Bool):isL (wayS left)=left:=by cases left <;> decide
noncomputable def Zmd:Sp:=fun vs H Q _=>∃ left:Bool,vs=[.bl left]∧Q (.str (wayS left)) H
noncomputable def Zhw:Sp:=fun vs H Q _=>∃ (m:Addr) (M:List (Option Nat)) (n i j:Nat) (left:Bool),vs=[.ref m,.int i,.bl left]∧H m=some (.lst (M.map mV))∧M.length=3 * n∧n≤40∧M[i]?=some (some j)∧M[j]?=some (some i)∧i / 3≠j / 3 ∧
 ∀ (l:Addr) (H':Hp),Same H H'→H l=none→H' l=some (.lst (((List.range M.length).map fun (z:Nat)=>mvI left i j (z:Int)).map V.int))→Q (.ref l) H'
noncomputable def sqI (i j:Nat):List Int:=[after i,Zr i,after j,Zr j]
noncomputable def gst (left:Bool) (i j n k:Nat):List Int:=(List.range n).map fun (z:Nat)=>if (z:Int)∈(sqI i j).take k then mvI left i j (z:Int) else (z:Int)
theorem Zi2 (left:Bool) (i j n:Nat):gst left i j n 0=(List.range n).map fun (z:Nat)=>(z:Int):=by unfold gst; simp
theorem Zlf (left:Bool) (i j n:Nat):gst left i j n 4=(List.range n).map fun (z:Nat)=>mvI left i j (z:Int):=by
 unfold gst
 apply List.map_congr_left
 intro z _
 by_cases c:(z:Int)∈(sqI i j).take 4
 ·rw [if_pos c]
 ·rw [if_neg c]
  have n1:¬ (z:Int)=after i:=fun e=>c (by unfold sqI; simp [e])
  have n2:¬ (z:Int)=Zr j:=fun e=>c (by unfold sqI; simp [e])
  have n3:¬ (z:Int)=after j:=fun e=>c (by unfold sqI; simp [e])
  have n4:¬ (z:Int)=Zr i:=fun e=>c (by unfold sqI; simp [e])
  unfold mvI
  rw [if_neg n1,if_neg n2,if_neg n3,if_neg n4]
theorem Zi3 {left:Bool} {i j n k q:Nat} (h:(sqI i j)[k]?=some (q:Int)) (hq:q < n):(gst left i j n k).set q (mvI left i j (q:Int))=gst left i j n (k + 1):=by
 apply List.ext_getElem?
 intro z
 unfold gst
 by_cases c:z=q
 ·subst c
  rw [List.getElem?_set_self (by simpa using hq),List.getElem?_map,List.getElem?_range hq]
  have:(z:Int)∈(sqI i j).take (k + 1):=by rw [List.take_add_one,h]; simp
  simp only [Option.map_some,this,if_true]
 ·rw [List.getElem?_set_ne (Ne.symm c),List.getElem?_map,List.getElem?_map]
  by_cases d:z < n
  ·rw [List.getElem?_range d]
   have:(z:Int)∈(sqI i j).take (k + 1) ↔ (z:Int)∈(sqI i j).take k:=by
    have c':¬ (z:Int)=(q:Int):=by omega
    rw [List.take_add_one,h]
    simp [c']
   simp only [Option.map_some,this]
  ·rw [List.getElem?_eq_none (by simpa using d)]
   rfl
theorem Zns {i j:Nat} (h:i / 3≠j / 3) (left:Bool) {k:Nat} (hk:k < 4):atI (sqr i j) ((if left then ((k:Int) + 3) % 4 else ((k:Int) + 1) % 4))=some (V.int (mvI left i j ((sqI i j).getD k 0))):=by
 obtain ⟨h1,h2,h3,h4,h5,h6⟩:=Ji h
 have hk:k=0∨k=1∨k=2∨k=3:=by omega
 rcases hk with rfl | rfl | rfl | rfl <;> cases left <;> (unfold mvI sqI; simp [h1,h2,h3,h4,h5,h6,Ne.symm h1,Ne.symm h2,Ne.symm h3,Ne.symm h4,Ne.symm h5,Ne.symm h6]; rfl)
theorem Znt {i j n k:Nat} (hi:i < 3 * n) (hj:j < 3 * n) (hk:k < 4):∃ q:Nat,(sqI i j)[k]?=some (q:Int)∧q < 3 * n:=by
 obtain ⟨a1,_,a3⟩:=Yk i
 obtain ⟨b1,_,b3⟩:=Yc i
 obtain ⟨c1,_,c3⟩:=Yk j
 obtain ⟨d1,_,d3⟩:=Yc j
 have hk:k=0∨k=1∨k=2∨k=3:=by omega
 rcases hk with rfl | rfl | rfl | rfl
 ·exact ⟨(after i).toNat,by show some (after i)=_; rw [Int.toNat_of_nonneg a3],by omega⟩
 ·exact ⟨(Zr i).toNat,by show some (Zr i)=_; rw [Int.toNat_of_nonneg b3],by omega⟩
 ·exact ⟨(after j).toNat,by show some (after j)=_; rw [Int.toNat_of_nonneg c3],by omega⟩
 ·exact ⟨(Zr j).toNat,by show some (Zr j)=_; rw [Int.toNat_of_nonneg d3],by omega⟩
theorem Wrong.free {EW ES ER EL:Addr} {M:List (Option Nat)} {ns:List Int} {x:Int} {left:Bool} {H:Hp} {E:XK} {G:Nat→Nat→Hp→Prop} {i j:Nat} (td:TD M ns) (hk:x∈keys ns ns.length) (hp:pl ns ns.length x=[i,j]) (ne:i / 3≠j / 3) (g:∀ H',Same H H'→G i j H'):Wrong EW ES ER EL M ns x (wayS left) H E G:=by
 have es:Yq ns x="free":=by unfold Yq; rw [hp]; exact if_neg ne
 refine ⟨fun c=>absurd (Zlx left) c,fun _ c=>absurd hk c,fun _ H' _ _ e=>absurd (es.symm.trans e) t_fr,fun _ H' _ _ e=>absurd (es.symm.trans e) t_fl,fun _ a b H' s e1 _ _ _=>?_⟩
 rw [hp] at e1
 cases e1
 exact g H' s
section
variable {P:Program} {w:World} {K:PySem.W.Frag} {mg:Str→Option Value} {base:Heap} {t:Adr}
theorem Zh0:FnScope ["_law_left"] ["_law_left"] (Zj Zdd):=⟨rfl,rfl,rfl,by decide +kernel,rfl,by decide +kernel,by decide +kernel⟩
theorem Zik (T:Txt w K mg t):FnOk P w K mg base (CXr P w) 1 t.f_l_way t.d_l_way ["_law_left"] Zmd:=by
 refine T.p_l_way.F.aR Zh0 (fun cdv A outer s H vs Q E hr h=>?_)
 ·obtain ⟨l,rfl,k⟩:=h
  refine ⟨_,(Ze (Z8 (Xy (pv 0)) (Zg (Zo Xp)) Zy)
   (Zg (Zo Xp))),?_⟩
  refine ⟨_,rfl,_,rfl,?_⟩
  cases l with
  | true=>exact iteT k
  | false=>exact iteF k
theorem Qa:FnScope ["_law_mates","_law_place","_law_left","_law_around_here","_law_goals_here","_law_k"] ["_law_mates","_law_place","_law_left"] (Zj G8):=⟨rfl,rfl,rfl,by decide +kernel,rfl,by decide +kernel,by decide +kernel⟩
theorem Zer (T:Txt w K mg t):FnOk P w K mg base (CXr P w) 2 t.f_l_goals t.d_l_goals ["_law_mates","_law_place","_law_left"] Zhw:=by
 refine T.p_l_goals.F.aR Qa (fun cdv A outer s H vs Q E hr h=>?_)
 ·obtain ⟨m,M,n,i,j,left,rfl,hm,hn,hn40,hij,hji,ne,k⟩:=h
  refine ⟨_,(Ze (Zq (i:=3) Qa.nd rfl (Or.inl rfl) (pcT (Zcy T) hr T.p_l_around (Za (pv 0) (Za (pv 1) Zc))))
   (Ze (Zq (i:=4) Qa.nd rfl (Or.inl rfl) (Qs rfl T.n_list rfl T.n_range rfl (Za (Zm Zh (by rfl) T.n_len PySem.boot_len (Za (pv 0) Zc)) Zc)))
   (Ze (Yg PassesOwn.never rfl (Z7 rfl T.n_range (Za Zd Zc)) (Zl (i:=5) Qa.nd rfl (Or.inl rfl)) (Zg (Z8 (Xy (pv 2)) (Zg (Xn (Zp Zs (pv 3) (Zi Zz (Zi Ya (pv 5) Zd) Zd) (fun _ _=>rfl)) (W1 (pv 4) (Zp Zs (pv 3) (pv 5) (fun _ _=>rfl)) Xr))) (Zg (Xn (Zp Zs (pv 3) (Zi Zz (Zi Ya (pv 5) Zd) Zd) (fun _ _=>rfl)) (W1 (pv 4) (Zp Zs (pv 3) (pv 5) (fun _ _=>rfl)) Xr))))))
   (Zg (Zo (pv 4)))))),?_⟩
  have hi:i < 3 * n:=by rw [← hn]; exact (List.getElem?_eq_some_iff.mp hij).1
  have hj:j < 3 * n:=by rw [← hn]; exact (List.getElem?_eq_some_iff.mp hji).1
  refine ⟨_,rfl,_,rfl,m,M,i,j,rfl,hm,hij,fun ar H1 s1 har h1=>?_⟩
  refine ⟨_,rfl,m,_,rfl,.inl (SqL.of (s1 _ _ hm)),M.length,by rw [List.length_map],by omega,fun g hg=>?_⟩
  have hag:ar≠g:=Zk h1 hg
  have hg0:H g=none:=s1.free hg
  dsimp only [Zn]
  show tSeq (tFor _ _ _) _ _ _ _
  refine Z4 (fun σ H2=>∃ v,σ=[some (.ref m),some (.int i),some (.bl left),some (.ref ar),some (.ref g),v]∧Same H H2∧H2 g=some (.lst ((gst left i j (3 * n) 4).map V.int))) (fun nx hnx=>?_) ?_
  ·refine ⟨4,rfl,by decide,by decide,?_⟩
   refine Yy (n:=4) (fun c σ H2=>∃ v,σ=[some (.ref m),some (.int i),some (.bl left),some (.ref ar),some (.ref g),v]∧Same H H2∧H2 ar=some (.lst (sqr i j))∧H2 g=some (.lst ((gst left i j (3 * n) c).map V.int))) ⟨none,rfl,Same.add s1 hg0,by rw [Zf hag]; exact h1,?_⟩ ?_ ?_
   ·rw [Zb,Zi2,List.map_map,hn]
    rfl
   ·rintro c σ H2 hc ⟨v,rfl,s2,h2,h3⟩
    obtain ⟨q,eq,hq⟩:=Znt hi hj hc
    have e1:atI (sqr i j) (0 + (c:Int))=some (V.int q):=by
     rw [Int.zero_add]
     refine Yu ?_
     show ((sqI i j).map V.int)[c]?=_
     rw [List.getElem?_map,eq]; rfl
    have ed:(sqI i j).getD c 0=(q:Int):=by rw [List.getD_eq_getElem?_getD,eq]; rfl
    have hlen:q < ((gst left i j (3 * n) c).map V.int).length:=by rw [List.length_map]; unfold gst; simpa using hq
    have fin:∀ H3:Hp,Same H H3→H3 ar=some (.lst (sqr i j))→H3 g=some (.lst (((gst left i j (3 * n) c).map V.int).set q (V.int (mvI left i j (q:Int)))))→∃ v,[some (V.ref m),some (.int i),some (.bl left),some (.ref ar),some (.ref g),some (.int (0 + c))]=[some (.ref m),some (.int i),some (.bl left),some (.ref ar),some (.ref g),v]∧Same H H3∧H3 ar=some (.lst (sqr i j))∧H3 g=some (.lst ((gst left i j (3 * n) (c + 1)).map V.int)):=fun H3 a1 a2 a3 =>
     ⟨_,rfl,a1,a2,by rw [a3,← Zi3 eq hq,List.map_set]⟩
    have m0:=Zns ne left hc
    rw [ed] at m0
    dsimp only [Zn]
    refine ⟨_,rfl,_,rfl,?_⟩
    cases left with
    | true =>
     refine iteT ⟨_,rfl,_,rfl,_,_,rfl,rfl,_,_,rfl,rfl,(by show (0:Int) < 4; decide),ar,_,_,_,rfl,rfl,SqL.of h2,(by rw [Int.zero_add]; exact m0),?_⟩
     refine ⟨_,rfl,_,rfl,_,rfl,ar,_,_,_,rfl,rfl,SqL.of h2,e1,g,_,_,q,rfl,rfl,h3,Wf hlen,?_⟩
     exact fin _ (Same.add s2 hg0) (by rw [Zf hag]; exact h2) Zb
    | false =>
     refine iteF ⟨_,rfl,_,rfl,_,_,rfl,rfl,_,_,rfl,rfl,(by show (0:Int) < 4; decide),ar,_,_,_,rfl,rfl,SqL.of h2,(by rw [Int.zero_add]; exact m0),?_⟩
     refine ⟨_,rfl,_,rfl,_,rfl,ar,_,_,_,rfl,rfl,SqL.of h2,e1,g,_,_,q,rfl,rfl,h3,Wf hlen,?_⟩
     exact fin _ (Same.add s2 hg0) (by rw [Zf hag]; exact h2) Zb
   ·rintro σ H2 ⟨v,rfl,s2,_,h3⟩
    exact hnx _ _ ⟨v,rfl,s2,h3⟩
  rintro σ H2 ⟨v,rfl,s2,h3⟩
  refine ⟨_,rfl,k g H2 s2 hg0 ?_⟩
  rw [h3,Zlf,hn]
end
end KT
set_option maxHeartbeats 4000000
namespace KT
open PySem L2
theorem Zg3 {K:PySem.W.Frag} {D N:Addr} {ns:List Int} {ts:List Addr} {n:Nat} {H2:Hp} {R:St→Hp→Prop} (hD2:H2 D=some (.lst (ts.map V.ref))) (ht2:∀ (k:Nat) (q:Addr),ts[k]?=some q→H2 q=some (.tup (row3 ns k))) (hnn:ns.length=3 * n) (htn:ts.length=n) (n2:n≤40) (hN:H2 N=none)
  (hR:∀ σ H3,Same H2 H3→H3 N=some (.lst (ns.map V.int))→R σ H3):Wx (Itl K D) (Zn 0) tYes (tGen (iTup K (tVar 0)) (Zn 1) tYes (Zec (tVar 1) N)) R [none,none] (upd H2 N (.lst [])):=by
 refine Y9 (xs:=ts.map V.ref) (fun i σ H3=>∃ (v v':Option V),σ=[v,v']∧Same H2 H3∧H3 N=some (.lst ((ns.take (3 * i)).map V.int))) ⟨none,none,rfl,Same.new hN,Zb⟩ ?_ ?_ ?_
 ·rintro i σ H3 _ ⟨v,v',rfl,sm,h3⟩
  exact SqL.of (sm _ _ hD2)
 ·rintro i x σ H3 hx ⟨v,v',rfl,sm,h3⟩
  dsimp only [Zn,tYes]
  rw [if_pos rfl]
  obtain ⟨tt,ht,rfl⟩:=map_some hx
  have hi:i < n:=by rw [← htn]; exact (List.getElem?_eq_some_iff.mp ht).1
  refine ⟨_,rfl,tt,rfl,⟨_,SqT.of (sm _ _ (ht2 i tt ht))⟩,?_⟩
  refine Zb3 (xs:=row3 ns i) (fun j σ H4=>∃ (v':Option V),σ=[some (.ref tt),v']∧Same H2 H4∧H4 N=some (.lst ((ns.take (3 * i)).map V.int ++ (row3 ns i).take j))) ⟨v',rfl,sm,by rw [h3,List.take_zero,List.append_nil]⟩ ?_ ?_ ?_
  ·rintro j σ H4 _ ⟨v',rfl,sm,h4⟩
   exact SqT.of (sm _ _ (ht2 i tt ht))
  ·rintro j x σ H4 hx ⟨v',rfl,sm,h4⟩
   dsimp only [Zn,tYes]
   rw [if_pos rfl]
   refine ⟨_,rfl,_,h4,?_,_,rfl,Same.add sm hN,?_⟩
   ·rw [List.length_append,List.length_map,List.length_take,List.length_take]
    exact Zx (by have:(row3 ns i).length=3:=rfl; omega)
   ·rw [Zb,List.take_add_one,hx,← List.append_assoc]
    rfl
  ·rintro σ H4 ⟨v',rfl,sm,h4⟩
   refine ⟨_,_,rfl,sm,?_⟩
   rw [h4,List.take_length,Zah hnn hi]
 rintro σ H3 ⟨v,v',rfl,sm3,h3⟩
 have eall:ns.take (3 * (ts.map V.ref).length)=ns:=by rw [List.length_map,htn,← hnn,List.take_length]
 rw [eall] at h3
 exact hR _ _ sm3 h3
theorem Zlq {ns:List Int} {i n:Nat} (hn:ns.length=3 * n) (hi:i < n):cutV (ns.map V.int) (some (0 + (i:Int) * 3)) (some (0 + (i:Int) * 3 + 3))=row3 ns i:=by
 have e0:(0 + (i:Int) * 3)=((3 * i:Nat):Int):=by omega
 have e3:(0 + (i:Int) * 3 + 3)=((3 * i + 3:Nat):Int):=by omega
 have l0:3 * i < ns.length:=by omega
 have l1:3 * i + 1 < ns.length:=by omega
 have l2:3 * i + 2 < ns.length:=by omega
 unfold cutV
 rw [e3,e0,HT.sIx_nat,HT.sIx_nat,List.length_map,Nat.min_eq_left (by omega),Nat.min_eq_left (by omega),show 3 * i + 3 - 3 * i=3 by omega]
 have g:∀ k,(hk:k < ns.length)→(ns.map V.int).drop k=V.int (ns.getD k 0) :: (ns.map V.int).drop (k + 1):=fun k hk=>by
  rw [List.drop_eq_getElem_cons (by rw [List.length_map]; exact hk),List.getElem_map,List.getD_eq_getElem?_getD,List.getElem?_eq_getElem hk]
  rfl
 rw [g _ l0,g _ l1,g _ l2]
 rfl
noncomputable def Zan (C EW ES ER EL:Addr):Sp:=fun vs H Q E=>∃ (p:Addr) (M:List (Option Nat)) (ns:List Int) (x:Int) (way:Str),vs=[.ref p,.int x,.str way]∧Ye C H p M ns∧TD M ns ∧
 Wrong EW ES ER EL M ns x way H E fun a b H'=>∀ p',H p'=none→Ye C H' p' (exM (isL way) a b M) (exN (isL way) a b ns)→Q (.ref p') H'
section
variable {P:Program} {w:World} {K:PySem.W.Frag} {mg:Str→Option Value} {base:Heap} {t:Adr}
theorem Wk:FnScope ["tent","seam","way","goals","names","place","goal"] ["tent","seam","way"] (Zj Op):=⟨rfl,rfl,rfl,by decide +kernel,rfl,by decide +kernel,by decide +kernel⟩
theorem Us (T:Txt w K mg t):FnOk P w K mg base (CXr P w) 6 t.f_exchanged t.d_exchanged ["tent","seam","way"] (Zan t.C_Tent t.E_NoWay t.E_NoSeam t.E_Rim t.E_Locked):=by
  refine T.p_exchanged.F.aX Wk (fun cdv A outer s H vs Q E hr h=>?_)
  · obtain ⟨p,M,ns,x,way,rfl,ta,td,W⟩:=h
    refine ⟨_,(Z3 (U4 (i:=3) Wk.nd rfl (Or.inl rfl) (pxT (Fg T) hr T.p_shifts (Za (pv 0) (Za (pv 1) (Za (pv 2) Zc)))))
      (Z3 (Y3 (Zq (i:=4) Wk.nd rfl (Or.inr rfl) (Y0 (ts:=["row","name"]) (fv:=[]) ⟨rfl,by decide +kernel,by decide +kernel,Yh (by rfl),trivial⟩ rfl (Yt (O2 (pv 0) T.cl_Tent T.p_Tent_rows.m (Ut T) (hr.mono (by decide)) T.p_Tent_rows.b .nil Wh)) (fun _ _ _ _=>(Zl (i:=0) (show List.Nodup (["row","name"]:List Str) from by decide +kernel) rfl (Or.inl rfl) (Or.inr rfl))) (fun _ _ _ _=>Y1) (fun _ _ _=>rfl) (fun _ _ _ _ _ _=>Zf9 rfl rfl (Zdk K (pv 0)) (Zl (i:=1) (show List.Nodup (["row","name"]:List Str) from by decide +kernel) rfl (Or.inl rfl) (Or.inr rfl)) Y1 (pv 1)))))
      (Z3 (Y3 (Yg PassesOwn.never rfl (Zib (pv 3) ⟨rfl,rfl,rfl⟩) (W0 rfl (Z2 (Zl (i:=5) Wk.nd rfl (Or.inl rfl)) (Z2 (Zl (i:=6) Wk.nd rfl (Or.inl rfl)) X1))) (Zg (Xn (Je (pv 0) T.cl_Tent T.p_Tent_seam_at.m (Kz T) (hr.mono (by decide)) T.p_Tent_seam_at.b .nil Wh (Za (pv 5) Zc)) (W1 (pv 4) (pv 6) Xr)))))
      (Yl (Y3 (Zo (Zdl T.mk_Tent (Uu T) (hr.mono (by decide)) rfl T.gC_Tent T.p_Tent_init.b .nil Wh (Za (Y0 (ts:=["k"]) (fv:=[("names",4)]) ⟨rfl,by decide +kernel,by decide +kernel,Yh (by rfl),⟨⟨rfl,rfl,Or.inl rfl⟩,trivial⟩⟩ rfl (Zf5 rfl T.n_range (Za Zd (Za (Zm Zh (by rfl) T.n_len PySem.boot_len (Za (pv 4) Zc)) (Za Zd Zc)))) (fun _ _ _ _=>(Zl (i:=0) (show List.Nodup (["k","names"]:List Str) from by decide +kernel) rfl (Or.inl rfl) (Or.inr rfl))) (fun _ _ _ _=>Y1) (fun _ _ _=>rfl) (fun _ _ _ _ _ _=>Yj (Ys (Vq K) (by rfl) T.n_tuple PySem.Pv.boot_tuple (Za (Wa (Qo K) (pv 1) (X0 (pv 0)) (X0 (Zi Ya (pv 0) Zd))) Zc)))) Zc)))))))),?_⟩
    refine ⟨_,rfl,_,rfl,_,rfl,p,M,ns,x,way,rfl,ta,td,⟨W.noway,W.seam,W.rim,W.lock,fun hw i j H1 s1 e1 e2 e3 e4 l hl hd1=>?_⟩⟩
    have g:=fun H' s'=>W.go hw i j H' s' e1 e2 e3 e4
    generalize isL way=left at g hd1
    obtain ⟨n,n1,n40,hn⟩:=td.n
    have hMl:=td.len
    have hnn:ns.length=3 * n:=by omega
    have hi:i < 3 * n:=by rw [← hn]; exact (List.getElem?_eq_some_iff.mp e3).1
    have hj:j < 3 * n:=by rw [← hn]; exact (List.getElem?_eq_some_iff.mp (td.inv i j e3).1).1
    have ta1:=ta.same s1
    obtain ⟨dx,cl,na,sp,mt,o,f,B⟩:=id ta1
    refine ⟨_,rfl,p,dx,_,rfl,B.ins,Y5 _ _ _ _,p,M,ns,rfl,ta1,fun l2 ts hl2 hlen h3=>?_⟩
    have s2:Same H1 (upd H1 l2 (.lst (ts.map V.ref))):=Same.new hl2
    refine ⟨l2,rfl,⟨_,SqL.of Zb⟩,fun N hN=>?_⟩
    refine Zg3 (n:=n) Zb (fun k q e=>s2 _ _ (h3 k q e)) hnn (by omega) n40 hN fun σ3 H3 s3 h3'=>?_
    have s13:=s2.trans s3
    have hN0:H N=none:=(s1.trans s2).free hN
    have hd3:=s13 _ _ hd1
    have hNl:N≠l:=fun z=>by rw [z,hd3] at h3'; cases h3'
    clear h3 hlen
    dsimp only [Zn]
    show tSeq (tFor _ _ _) _ _ _ _
    refine Z4 (fun σ H4=>∃ v5 v6,σ=[some (.ref p),some (.int x),some (.str way),some (.ref l),some (.ref N),v5,v6]∧Same H H4∧H4 N=some (.lst ((exN left i j ns).map V.int))) (fun nx hnx=>?_) ?_
    · refine ⟨_,rfl,l,_,rfl,.inl ⟨hd3,fun o=>?_⟩⟩
      refine Zg2 (fun k σ H4=>∃ v5 v6,σ=[some (.ref p),some (.int x),some (.str way),some (.ref l),some (.ref N),v5,v6]∧Same H H4∧H4 l=some (.frz o (.dK (glV left i j)))∧H4 N=some (.lst ((nst left i j ns k).map V.int)))
        ⟨_,_,rfl,Same.add (s1.trans s13) hl,Zb,by rw [Zf hNl,Zil]; exact h3'⟩ ?_ ?_ ?_
      · rintro k σ H4 _ ⟨v5,v6,rfl,s4,h4,_⟩
        exact h4
      · rintro k key v σ H4 q hk hq ⟨v5,v6,rfl,s4,h4,h5⟩
        obtain ⟨z,hz,rfl,rfl⟩:∃ z,(Yp left i j)[k]?=some z∧key=Sum.inl z∧v=V.int (mvI left i j z):=by
          unfold glV at hk
          rw [List.getElem?_map] at hk
          cases e:(Yp left i j)[k]? with
          | none=>rw [e] at hk; cases hk
          | some z=>rw [e] at hk; cases hk; exact ⟨z,rfl,rfl,rfl⟩
        obtain ⟨z0,z1⟩:=Zli hi hj hz
        obtain ⟨c,rfl⟩:∃ c:Nat,z=c:=⟨z.toNat,by omega⟩
        have hc:c < ns.length:=by omega
        have hq':mvN left i j c < ns.length:=by rw [hnn]; exact Wm hi hj left (by omega)
        have s5:Same H4 (upd H4 q (.tup [kV (Sum.inl (c:Int)),V.int (mvI left i j c)])):=Same.new hq
        have ta4:=(ta.same s4).same s5
        obtain ⟨dx4,cl4,na4,sp4,mt4,o4,ff4,B4⟩:=id ta4
        have hNq:N≠q:=Zk h5 hq
        have hlq:l≠q:=Zk h4 hq
        refine ⟨q,_,rfl,SqT.of Zb,rfl,_,_,rfl,_,_,rfl,rfl,?_⟩
        refine ⟨_,rfl,p,dx4,_,rfl,B4.ins,Y5 _ _ _ _,_,rfl,p,M,ns,c,rfl,ta4,fun i' y z1 z2=>?_,fun z=>absurd ⟨by omega,by omega⟩ z⟩
        obtain rfl:c=i':=by omega
        have ey:ns.getD c 0=y:=by rw [List.getD_eq_getElem?_getD,z2]; rfl
        have hlen:((nst left i j ns k).map V.int).length=ns.length:=by unfold nst; simp
        refine ⟨_,rfl,_,rfl,N,_,_,mvN left i j c,rfl,rfl,(by rw [Zf hNq]; exact h5),(by rw [hlen,← Wn]; exact Wf hq'),?_⟩
        refine ⟨_,_,rfl,Same.add (Same.add s4 (s4.free hq)) hN0,?_,?_⟩
        · rw [Zf (Ne.symm hNl),Zf hlq]; exact h4
        · rw [Zb,← Zim e4 hz hq',ey,List.map_set]
      · rintro σ H4 ⟨v5,v6,rfl,s4,h4,h5⟩
        have e:(glV left i j).length=4:=by unfold glV; rw [List.length_map,Zb7]
        rw [e,Zk3 e4] at h5
        exact hnx _ _ ⟨_,_,rfl,s4,h5⟩
    rintro σ H4 ⟨v5,v6,rfl,s4,h4⟩
    have tdx:TD (exM left i j M) (exN left i j ns):=td.ex (by omega) (by omega) e4 left
    have hxl:(exN left i j ns).length=3 * n:=by rw [Qk]; exact hnn
    generalize exN left i j ns=ns' at h4 tdx hxl g ⊢
    refine ⟨_,rfl,N,_,rfl,.inl (SqL.of h4),n,(by rw [List.length_map,hxl]),by omega,fun D hD=>?_⟩
    have hND:N≠D:=Zk h4 hD
    refine Zc2 (fun c σ H5=>∃ v ts,σ=[v,some (.ref N)]∧Same H4 H5∧H5 D=some (.lst (ts.map V.ref))∧ts.length=c∧∀ (k:Nat) (q:Addr),ts[k]?=some q→H5 q=some (.tup (row3 ns' k)))
      ⟨none,[],rfl,Same.new hD,Zb,rfl,fun k q e=>by simp at e⟩ ?_ ?_
    · rintro c σ H5 hc ⟨v,ts,rfl,s5,h5,hts,hrow⟩
      dsimp only [Zn,tYes]
      rw [if_pos rfl]
      have h45:=s5 _ _ h4
      refine ⟨_,rfl,_,rfl,_,rfl,_,rfl,_,_,rfl,rfl,_,rfl,N,_,rfl,SqL.of h45,fun q hq=>?_⟩
      rw [Zlq hxl hc]
      refine ⟨q,_,rfl,.inl ⟨SqL.of Zb,fun q2 hq2=>?_⟩⟩
      obtain ⟨hqq,hq2'⟩:=Wj hq2
      have hDq:D≠q:=Zk h5 hq
      have hDq2:D≠q2:=Zk h5 hq2'
      have s6:Same H5 (upd (upd H5 q (.lst (row3 ns' c))) q2 (.tup (row3 ns' c))):=Same.add (Same.new hq) hq2'
      refine ⟨_,s6 _ _ h5,(by rw [List.length_map]; exact Zx (by omega)),_,ts ++ [q2],rfl,Same.add (s5.trans s6) hD,?_,?_,?_⟩
      · rw [Zb]; simp
      · rw [List.length_append,List.length_singleton,hts]
      · intro k q3 z
        by_cases hk:k < ts.length
        · rw [List.getElem?_append_left hk] at z
          have g3:=s6 _ _ (hrow k q3 z)
          rw [Zf (fun e=>by rw [e,s6 _ _ h5] at g3; cases g3)]
          exact g3
        · have hk2:k=ts.length:=by
            have:=(List.getElem?_eq_some_iff.mp z).1
            rw [List.length_append,List.length_singleton] at this
            omega
          subst hk2
          have:q3=q2:=by simpa using z.symm
          subst this
          rw [Zf (Ne.symm hDq2),Zb,hts]
    rintro σ H5 ⟨v,ts,rfl,s5,h5,hts,hrow⟩
    intro y dy hy hdy hne
    have s6:Same H5 (upd (upd H5 dy (.own y)) y (.ins t.C_Tent dy [])):=Same.add (Same.new hdy) hy
    refine ⟨y,D,dy,_,ns',rfl,Zb,⟨ts,s6 _ _ h5,by omega,fun k q e=>s6 _ _ (hrow k q e)⟩,tdx,by omega,fun H7 old ta7=>⟨rfl,?_⟩⟩
    have s57:Same H5 H7:=fun b u e=>old b u (Zk e hy) (s6 b u e)
    have s07:=(s4.trans s5).trans s57
    exact g H7 s07 y ((s4.trans s5).free hy) ta7
noncomputable def Zhu:Sp:=fun vs H Q _=>∃ (m r g:Addr) (M:List (Option Nat)) (ns:List Int) (i j:Nat) (left:Bool),vs=[.ref m,.ref r,.ref g]∧H m=some (.lst (M.map mV))∧Yr H r ns∧H g=some (.lst (((List.range M.length).map fun (z:Nat)=>mvI left i j (z:Int)).map V.int))∧TD M ns∧i < M.length∧j < M.length∧i / 3≠j / 3 ∧
 ∀ (p m' r':Addr) (H':Hp),Same H H'→H' p=some (.tup [.ref m',.ref r'])→H' m'=some (.lst ((exM left i j M).map mV))→Yr H' r' (exN left i j ns)→Q (.ref p) H'
theorem J8:FnScope ["_law_mates","_law_rows_here","_law_goals_here","_law_names","_law_ties","_law_p"] ["_law_mates","_law_rows_here","_law_goals_here"] (Zj G4):=⟨rfl,rfl,rfl,by decide +kernel,rfl,by decide +kernel,by decide +kernel⟩
theorem Zeo (T:Txt w K mg t):FnOk P w K mg base (CXr P w) 1 t.f_l_shift t.d_l_shift ["_law_mates","_law_rows_here","_law_goals_here"] Zhu:=by
 refine T.p_l_shift.F.aR J8 (fun cdv A outer s H vs Q E hr h=>?_)
 ·obtain ⟨m,r,g,M,ns,i,j,left,rfl,hm,hrw,hg,td,hi,hj,ne,k⟩:=h
  refine ⟨_,(Ze (Zq (i:=3) J8.nd rfl (Or.inr rfl) (Zi Ku (Y4 (Za Zd Zc)) (Zm Zh (by rfl) T.n_len PySem.boot_len (Za (pv 0) Zc))))
   (Ze (Zq (i:=4) J8.nd rfl (Or.inl rfl) (Zi Ku (Y4 (Za W3 Zc)) (Zm Zh (by rfl) T.n_len PySem.boot_len (Za (pv 0) Zc))))
   (Ze (Yg PassesOwn.never rfl (Z7 rfl T.n_range (Za (Zm Zh (by rfl) T.n_len PySem.boot_len (Za (pv 0) Zc)) Zc)) (Zl (i:=5) J8.nd rfl (Or.inl rfl)) (Ze (Xn (Zp Jh (Zp Zs (pv 1) (Zi Yd (pv 5) Zd) (fun _ _=>rfl)) (Zi Zz (pv 5) Zd) (fun _ _=>rfl)) (W1 (pv 3) (Zp Zs (pv 2) (pv 5) (fun _ _=>rfl)) Xr))
   (Zg (Z8 (Zt Qj (Zp Zs (pv 0) (pv 5) (fun _ _=>rfl)) W3 (Zu _)) (Zg (Xn (Zp Zs (pv 2) (Zp Zs (pv 0) (pv 5) (fun _ _=>rfl)) (fun _ _=>rfl)) (W1 (pv 4) (Zp Zs (pv 2) (pv 5) (fun _ _=>rfl)) Xr))) Zy))))
   (Zg (Zo (Y8 (Za (pv 4) (Za (Y0 (ts:=["_law_k"]) (fv:=[("_law_names",3)]) ⟨rfl,by decide +kernel,by decide +kernel,Yh (by rfl),⟨⟨rfl,rfl,Or.inl rfl⟩,trivial⟩⟩ rfl (Z7 rfl T.n_range (Za (Zm Zh (by rfl) T.n_len PySem.boot_len (Za (pv 1) Zc)) Zc)) (fun _ _ _ _=>(Zl (i:=0) (show List.Nodup (["_law_k","_law_names"]:List Str) from by decide +kernel) rfl (Or.inl rfl) (Or.inr rfl))) (fun _ _ _ _=>Y1) (fun _ _ _=>rfl) (fun _ _ _ _ _ _=>Yj (Y8 (Za (Zp (Yw K) (pv 1) (Zi Xd Zd (pv 0)) (fun _ _=>rfl)) (Za (Zp (Yw K) (pv 1) (Zi Ya (Zi Xd Zd (pv 0)) Zd) (fun _ _=>rfl)) (Za (Zp (Yw K) (pv 1) (Zi Ya (Zi Xd Zd (pv 0)) Zd) (fun _ _=>rfl)) Zc)))))) Zc)))))))),?_⟩
  obtain ⟨n,n1,n40,hn⟩:=td.n
  have hMl:=td.len
  have hi3:i < 3 * n:=by omega
  have hj3:j < 3 * n:=by omega
  have eT:(((M.map mV).length:Nat):Int).toNat=3 * n:=by rw [List.length_map,hn]; omega
  have rp:∀ v:V,1 * (((M.map mV).length:Nat):Int).toNat≤sizeLine:=fun v=>by rw [eT,sizeLine_eq]; omega
  have gp:∀ c,c < M.length→((List.range M.length).map fun (z:Nat)=>mvI left i j (z:Int))[c]?=some ((mvN left i j c:Nat):Int):=fun c hc=>by rw [List.getElem?_map,List.getElem?_range hc,Wn]; rfl
  refine Zv fun nxC hnxC=>?_
  refine ⟨(by show 1≤sizeLine; decide),fun q hq=>?_⟩
  have s1:Same H (upd H q (.lst [.int 0])):=Same.new hq
  refine ⟨_,rfl,m,_,rfl,.inl (SqL.of (s1 _ _ hm)),q,_,_,rfl,rfl,Zb,by omega,by rw [List.length_map]; omega,rp (.int 0),fun N hN=>?_⟩
  have eN:(List.replicate (((M.map mV).length:Nat):Int).toNat [V.int 0]).flatten=(mfil left i j (3 * n) (fun z=>ns.getD (mvN (!left) i j z) 0) 0 0).map V.int:=by
   rw [eT,List.flatten_replicate_singleton,Fj,List.map_replicate]
  rw [eN]
  have s2:=s1.trans (Same.new (o:=.lst ((mfil left i j (3 * n) (fun z=>ns.getD (mvN (!left) i j z) 0) 0 0).map V.int)) hN)
  have hN0:H N=none:=s1.free hN
  have hN2:(upd (upd H q (.lst [.int 0])) N (.lst ((mfil left i j (3 * n) (fun z=>ns.getD (mvN (!left) i j z) 0) 0 0).map V.int))) N=some (.lst ((mfil left i j (3 * n) (fun z=>ns.getD (mvN (!left) i j z) 0) 0 0).map V.int)):=Zb
  generalize upd (upd H q (.lst [.int 0])) N (.lst ((mfil left i j (3 * n) (fun z=>ns.getD (mvN (!left) i j z) 0) 0 0).map V.int))=H2 at s2 hN2 ⊢
  refine hnxC _ _ ?_
  refine Zv fun nxC hnxC=>?_
  refine ⟨(by show 1≤sizeLine; decide),fun q2 hq2=>?_⟩
  have s3:Same H2 (upd H2 q2 (.lst [.non])):=Same.new hq2
  refine ⟨_,rfl,m,_,rfl,.inl (SqL.of (s3 _ _ (s2 _ _ hm))),q2,_,_,rfl,rfl,Zb,by omega,by rw [List.length_map]; omega,rp .non,fun TT hT=>?_⟩
  have eTT:(List.replicate (((M.map mV).length:Nat):Int).toNat [V.non]).flatten=(mfil left i j (3 * n) (fun z=>(M.getD (mvN (!left) i j z) none).map (mvN left i j)) none 0).map mV:=by
   rw [eT,List.flatten_replicate_singleton,Fj,List.map_replicate]
   rfl
  rw [eTT]
  have s4:=s3.trans (Same.new (o:=.lst ((mfil left i j (3 * n) (fun z=>(M.getD (mvN (!left) i j z) none).map (mvN left i j)) none 0).map mV)) hT)
  have hT2:(upd (upd H2 q2 (.lst [.non])) TT (.lst ((mfil left i j (3 * n) (fun z=>(M.getD (mvN (!left) i j z) none).map (mvN left i j)) none 0).map mV))) TT=some (.lst ((mfil left i j (3 * n) (fun z=>(M.getD (mvN (!left) i j z) none).map (mvN left i j)) none 0).map mV)):=Zb
  generalize upd (upd H2 q2 (.lst [.non])) TT (.lst ((mfil left i j (3 * n) (fun z=>(M.getD (mvN (!left) i j z) none).map (mvN left i j)) none 0).map mV))=H4 at s4 hT2 ⊢
  refine hnxC _ _ ?_
  have hTN:TT≠N:=fun z=>by
   have:=s3.free hT
   rw [z,hN2] at this; cases this
  have hT0:H TT=none:=s2.free (s3.free hT)
  have hN4:=s4 _ _ hN2
  have s04:=s2.trans s4
  dsimp only [Zn]
  show tSeq (tFor _ _ _) _ _ _ _
  refine Z4 (fun σ H5=>∃ v,σ=[some (.ref m),some (.ref r),some (.ref g),some (.ref N),some (.ref TT),v]∧Same H H5∧H5 N=some (.lst ((exN left i j ns).map V.int))∧H5 TT=some (.lst ((exM left i j M).map mV))) (fun nx hnx=>?_) ?_
  ·refine ⟨_,rfl,m,_,rfl,.inl (SqL.of (s04 _ _ hm)),_,rfl,by omega,by rw [List.length_map]; omega,?_⟩
   have eL:(((M.map mV).length:Nat):Int).toNat=M.length:=by simp
   rw [eL]
   refine Yy (n:=M.length) (fun c σ H5=>∃ v,σ=[some (.ref m),some (.ref r),some (.ref g),some (.ref N),some (.ref TT),v]∧Same H H5∧H5 N=some (.lst ((mfil left i j (3 * n) (fun z=>ns.getD (mvN (!left) i j z) 0) 0 c).map V.int))∧H5 TT=some (.lst ((mfil left i j (3 * n) (fun z=>(M.getD (mvN (!left) i j z) none).map (mvN left i j)) none c).map mV))) ⟨none,rfl,s04,hN4,hT2⟩ ?_ ?_
   ·rintro c σ H5 hc ⟨v,rfl,s5,h5,h6⟩
    dsimp only [Zn]
    rw [Int.zero_add]
    have hcn:c < ns.length:=by omega
    obtain ⟨y,hy⟩:∃ y,ns[c]?=some y:=⟨_,List.getElem?_eq_getElem hcn⟩
    have ey:ns.getD c 0=y:=by rw [List.getD_eq_getElem?_getD,hy]; rfl
    obtain ⟨ts',q,e1,e2,e3,e4⟩:=Kp (hrw.same s5) hy
    have hmc:mvN left i j c < 3 * n:=Wm hi3 hj3 left (by omega)
    refine ⟨_,rfl,_,rfl,_,_,rfl,rfl,⟨by decide,by decide⟩,r,_,_,_,rfl,rfl,SqL.of e1,(by rw [div3]; exact Z0 e2),_,rfl,_,_,rfl,rfl,(by show (0:Int) < 3; decide),q,_,_,_,rfl,rfl,SqT.of e3,(by rw [mod3]; exact Yu e4),?_⟩
    refine ⟨_,rfl,_,rfl,_,rfl,g,_,_,_,rfl,rfl,SqL.of (s5 _ _ hg),Z0 (gp c hc),N,_,_,mvN left i j c,rfl,rfl,h5,(by rw [List.length_map,Zb0]; exact Wf hmc),?_⟩
    have eN':((mfil left i j (3 * n) (fun z=>ns.getD (mvN (!left) i j z) 0) 0 c).map V.int).set (mvN left i j c) (V.int y)=(mfil left i j (3 * n) (fun z=>ns.getD (mvN (!left) i j z) 0) 0 (c + 1)).map V.int:=by
     rw [← Fl ne hmc,List.map_set,Xj ne,ey]
    rw [eN']
    have s6:Same H (upd H5 N (.lst ((mfil left i j (3 * n) (fun z=>ns.getD (mvN (!left) i j z) 0) 0 (c + 1)).map V.int))):=Same.add s5 hN0
    have h7:(upd H5 N (.lst ((mfil left i j (3 * n) (fun z=>ns.getD (mvN (!left) i j z) 0) 0 (c + 1)).map V.int))) TT=_:=(Zf hTN).trans h6
    have h8:(upd H5 N (.lst ((mfil left i j (3 * n) (fun z=>ns.getD (mvN (!left) i j z) 0) 0 (c + 1)).map V.int))) N=some (.lst ((mfil left i j (3 * n) (fun z=>ns.getD (mvN (!left) i j z) 0) 0 (c + 1)).map V.int)):=Zb
    generalize upd H5 N (.lst ((mfil left i j (3 * n) (fun z=>ns.getD (mvN (!left) i j z) 0) 0 (c + 1)).map V.int))=H6 at s6 h7 h8 ⊢
    obtain ⟨mc,hmcE⟩:∃ mc,M[c]?=some mc:=⟨_,List.getElem?_eq_getElem hc⟩
    have eMc:M.getD c none=mc:=by rw [List.getD_eq_getElem?_getD,hmcE]; rfl
    refine ⟨_,rfl,_,rfl,m,_,_,_,rfl,rfl,SqL.of (s6 _ _ hm),Z0 hmcE,rfl,_,rfl,?_⟩
    cases mc with
    | none =>
     refine iteF ⟨_,rfl,s6,h8,?_⟩
     rw [h7,Zgr ne (by rw [Xj ne,eMc]; rfl)]
    | some b =>
     have hb:b < M.length:=(List.getElem?_eq_some_iff.mp (td.inv c b hmcE).1).1
     refine iteT ⟨_,rfl,_,rfl,_,rfl,m,_,_,_,rfl,rfl,SqL.of (s6 _ _ hm),Z0 hmcE,g,_,_,_,rfl,rfl,SqL.of (s6 _ _ hg),Z0 (gp b hb),?_⟩
     refine ⟨_,rfl,_,rfl,_,rfl,g,_,_,_,rfl,rfl,SqL.of (s6 _ _ hg),Z0 (gp c hc),TT,_,_,mvN left i j c,rfl,rfl,h7,(by rw [List.length_map,Zb0]; exact Wf hmc),?_⟩
     refine ⟨_,rfl,Same.add s6 hT0,by rw [Zf (Ne.symm hTN)]; exact h8,?_⟩
     rw [Zb,← Fl ne hmc,List.map_set,Xj ne,eMc]
     rfl
   ·rintro σ H5 ⟨v,rfl,s5,h5,h6⟩
    rw [hn,Zio hi3 hj3] at h5 h6
    refine hnx _ _ ⟨_,rfl,s5,?_,?_⟩
    ·rw [h5]; unfold exN; rw [hMl,hn]
    ·rw [h6]; unfold exM; rw [hn]
  rintro σ H5 ⟨v,rfl,s5,h5,h6⟩
  have hxl:(exN left i j ns).length=3 * n:=by rw [Qk]; omega
  generalize exN left i j ns=F at h5 hxl k ⊢
  obtain ⟨ts0,w1,w2,w3⟩:=hrw.same s5
  have ets:ts0.length=n:=by omega
  refine ⟨_,rfl,_,rfl,r,_,rfl,.inl (SqL.of w1),_,rfl,by omega,by rw [List.length_map]; omega,fun D hD=>?_⟩
  have eD:(((ts0.map V.ref).length:Nat):Int).toNat=n:=by rw [List.length_map]; omega
  rw [eD]
  have hND:N≠D:=Zk h5 hD
  have hTD:TT≠D:=Zk h6 hD
  refine Xq (fun c σ H6=>∃ (ts:List Addr) (v:Option V),σ=[v,some (.ref N)]∧Same H5 H6∧H6 D=some (.lst (ts.map V.ref))∧ts.length=c∧∀ (k:Nat) (t:Addr),ts[k]?=some t→H6 t=some (.tup (row3 F k)))
   ⟨[],none,rfl,Same.new hD,Zb,rfl,fun k t z=>by simp at z⟩ ?_ ?_
  ·rintro c σ H6 hlt ⟨ts,v,rfl,s6,g1,hl2,g3⟩
   have g2:=s6 _ _ h5
   have at':∀ (e:Nat) (z:Int),e < 3→z=3 * (0 + (c:Int)) + e→atI (F.map V.int) z=some (V.int (F.getD (3 * c + e) 0)):=fun e z he hz=>by
    have e:z=((3 * c + e:Nat):Int):=by omega
    rw [e]
    exact Yu (getI (by omega))
   dsimp only [Zn,tYes]
   rw [if_pos rfl]
   refine ⟨_,rfl,_,rfl,_,_,rfl,rfl,.inl ⟨by decide,by decide⟩,N,_,_,_,rfl,rfl,SqL.of g2,at' 0 _ (by decide) (by simp),?_⟩
   refine ⟨_,rfl,_,rfl,_,_,rfl,rfl,.inl ⟨by decide,by decide⟩,_,_,rfl,rfl,N,_,_,_,rfl,rfl,SqL.of g2,at' 1 _ (by decide) rfl,?_⟩
   refine ⟨_,rfl,_,rfl,_,_,rfl,rfl,.inl ⟨by decide,by decide⟩,_,_,rfl,rfl,N,_,_,_,rfl,rfl,SqL.of g2,at' 2 _ (by decide) rfl,?_⟩
   refine ⟨(by show 3≤sizeLine; decide),fun q hq=>?_⟩
   have hqD:q≠D:=fun z=>by rw [z,g1] at hq; cases hq
   have s7:Same H6 (upd H6 q (.tup (row3 F c))):=Same.new hq
   refine ⟨_,s7 _ _ g1,(by rw [List.length_map]; exact Zx (by omega)),ts ++ [q],_,rfl,Same.add (s6.trans s7) hD,?_,?_,?_⟩
   ·rw [Zb]; simp
   ·rw [List.length_append,List.length_singleton,hl2]
   ·intro k t z
    by_cases hk:k < ts.length
    ·rw [List.getElem?_append_left hk] at z
     have g:=s7 _ _ (g3 k t z)
     rw [Zf (fun e=>by rw [e,s7 _ _ g1] at g; cases g)]
     exact g
    ·have hk2:k=ts.length:=by
      have:=(List.getElem?_eq_some_iff.mp z).1
      rw [List.length_append,List.length_singleton] at this
      omega
     subst hk2
     have:t=q:=by simpa using z.symm
     subst this
     rw [Zf hqD,Zb,hl2]
     rfl
  ·rintro σ H6 ⟨ts,v,rfl,s6,g1,hl2,g3⟩
   refine ⟨(by show 2≤sizeLine; decide),fun p5 hp5=>?_⟩
   have s7:=Same.new (o:=.tup [V.ref TT,V.ref D]) hp5
   refine k p5 TT D _ ((s5.trans s6).trans s7) Zb (s7 _ _ (s6 _ _ h6)) ⟨ts,s7 _ _ g1,by omega,fun k t z=>s7 _ _ (g3 k t z)⟩
end
end KT
set_option maxHeartbeats 4000000
namespace KT
open PySem L2
theorem Ziv {ws:List Int}:(((ws.map V.int).length:Nat):Int)=ws.length:=by rw [List.length_map]
theorem Zje (x0:Int) (xr:List Int):cutV ((x0 :: xr).map V.int) (some 1) none=xr.map V.int:=by
 unfold cutV
 have e1:HT.sIx ((x0 :: xr).map V.int).length 0 (some ((1:Nat):Int))=1:=by
  rw [HT.sIx_nat,List.length_map,List.length_cons]
  omega
 rw [show (some (1:Int))=some ((1:Nat):Int) from rfl,e1,HT.sIx_none,List.map_cons,List.drop_succ_cons,List.drop_zero,List.length_cons,Nat.add_sub_cancel,List.take_length]
theorem Jx {α:Type} {p:α→Bool} {l:List α} {i:Nat} {x:α} (h:l[i]?=some x):(l.take (i + 1)).filter p=if p x=true then (l.take i).filter p ++ [x] else (l.take i).filter p:=by
 rw [List.take_add_one,h,List.filter_append]
 by_cases c:p x=true
 ·simp [c]
 ·simp [c]
noncomputable def Zj9:Sp:=fun vs H Q _=>∃ (m a:Addr) (M:List (Option Nat)) (xs:List Int),vs=[.ref m,.ref a]∧H m=some (.lst (M.map mV))∧H a=some (.lst (xs.map V.int))∧xs≠[]∧xs.length≤60∧(∀ x∈xs,0≤x∧x < 1009)∧M.length≤42∧(∃ n,M.length=3 * n)∧(∀ (i j:Nat),M[i]?=some (some j)→M[j]?=some (some i)∧i≠j) ∧
 ∀ (l:Addr) (ws:List Nat) (H':Hp),Same H H'→H l=none→H' l=some (.lst (ws.map nV))→ws.length≤60→(ws=[]∨Pl M ws)→Q (.ref l) H'
noncomputable def Zfj (K:PySem.W.Frag):Sp:=fun vs H Q _=>∃ (a m:Addr) (sc:List Int) (i:Int) (M:List (Option Nat)),vs=[.ref a,.int i,.ref m]∧SqL K H a (sc.map V.int)∧sc.length≤63∧0≤i∧i < 1000∧H m=some (.lst (M.map mV))∧M.length≤42∧(∃ n,M.length=3 * n)∧(∀ (i j:Nat),M[i]?=some (some j)→M[j]?=some (some i)∧i≠j) ∧
 ∀ (l:Addr) (ws:List Nat) (H':Hp),Same H H'→H l=none→H' l=some (.lst (ws.map nV))→ws.length≤60→(ws=[]∨Pl M ws)→Q (.ref l) H'
noncomputable def hasM (M:List (Option Nat)) (i:Nat):Bool:=match M[i]? with
 | some (some _)=>true
 | _=>false
theorem Jv {M:List (Option Nat)} {i:Nat}:hasM M i=true ↔ ∃ j,M[i]?=some (some j):=by
 unfold hasM
 split
 ·rename_i j h; exact ⟨fun _=>⟨j,h⟩,fun _=>rfl⟩
 ·rename_i h; exact ⟨fun z=>absurd z (by decide),fun ⟨j,e⟩=>absurd e (h j)⟩
section
variable {P:Program} {w:World} {K:PySem.W.Frag} {mg:Str→Option Value} {base:Heap} {t:Adr}
theorem Xl:FnScope ["_law_mates","_law_nums","_law_spots","_law_row","_law_pick","_law_side","_law_ways","_law_start","_law_stop"] ["_law_mates","_law_nums"] (Zj Za4):=⟨rfl,rfl,rfl,by decide +kernel,rfl,by decide +kernel,by decide +kernel⟩
theorem Zgd (T:Txt w K mg t):FnOk P w K mg base (CXr P w) 1 t.f_l_walk t.d_l_walk ["_law_mates","_law_nums"] Zj9:=by
  refine T.p_l_walk.F.aR Xl (fun cdv A outer s H vs Q E hr h=>?_)
  · obtain ⟨m,a,M,xs,rfl,hm,ha,hx0,hx60,hx,h42,⟨n,hn⟩,inv,k⟩:=h
    refine ⟨_,(Ze (Xs (ts:=["_law_p"]) (fv:=[("_law_mates",0)]) (i:=2) ⟨rfl,by decide +kernel,by decide +kernel,Yh (by rfl),⟨⟨rfl,rfl,Or.inl rfl⟩,trivial⟩⟩ rfl Xl.nd rfl rfl (by rfl) (Z7 rfl T.n_range (Za (Zm Zh (by rfl) T.n_len PySem.boot_len (Za (pv 0) Zc)) Zc)) (fun _ _ _ _=>(Zl (i:=0) (show List.Nodup (["_law_p","_law_mates"]:List Str) from by decide +kernel) rfl (Or.inl rfl) (Or.inr rfl))) (fun _ _ _ _=>(Jc (Zt Qj (Zp (Yw K) (pv 1) (pv 0) (fun _ _=>rfl)) W3 (Zu _)))) (fun _ _ _=>rfl) (fun _ _ _ _ _ _=>Yj (pv 0)))
      (Ze (Z8 (Zt Yv (Zm Zh (by rfl) T.n_len PySem.boot_len (Za (pv 2) Zc)) Zd (Zu _)) (Zg (Zo (Y4 Zc))) Zy)
      (Ze (Zq (i:=3) Xl.nd rfl (Or.inl rfl) (Y4 (Za (Zp Zs (pv 2) (Zi Zz (Zp Zs (pv 1) Zd (fun _ _=>rfl)) (Zm Zh (by rfl) T.n_len PySem.boot_len (Za (pv 2) Zc))) (fun _ _=>rfl)) Zc)))
      (Ze (Yg PassesOwn.never rfl (Yt (Wa Ve (pv 1) (X0 Zd) Jp)) (Zl (i:=4) Xl.nd rfl (Or.inl rfl)) (Ze (Zq (i:=5) Xl.nd rfl (Or.inr rfl) (Zp Zs (pv 0) (Zp Zs (pv 3) (Znv Zl0 Zd) (fun _ _=>rfl)) (fun _ _=>rfl)))
      (Ze (Xs (ts:=["_law_k"]) (fv:=[("_law_side",5)]) (i:=6) ⟨rfl,by decide +kernel,by decide +kernel,Yh (by rfl),⟨⟨rfl,rfl,Or.inl rfl⟩,trivial⟩⟩ rfl Xl.nd rfl rfl (by rfl) (Z7 rfl T.n_range (Za Zd Zc)) (fun _ _ _ _=>(Zl (i:=0) (show List.Nodup (["_law_k","_law_side"]:List Str) from by decide +kernel) rfl (Or.inl rfl) (Or.inr rfl))) (fun _ _ _ _=>Y1) (fun _ _ _=>rfl) (fun _ _ _ _ _ _=>Yj (Zi Ya (Zi Qt (pv 1) (Zi Zz (pv 1) Zd)) (Zi Zz (Zi Ya (Zi Ya (pv 1) Zd) (pv 0)) Zd))))
      (Ze (Xs (ts:=["_law_p"]) (fv:=[("_law_mates",0)]) (i:=6) ⟨rfl,by decide +kernel,by decide +kernel,Yh (by rfl),⟨⟨rfl,rfl,Or.inl rfl⟩,trivial⟩⟩ rfl Xl.nd rfl rfl (by rfl) (Yt (pv 6)) (fun _ _ _ _=>(Zl (i:=0) (show List.Nodup (["_law_p","_law_mates"]:List Str) from by decide +kernel) rfl (Or.inl rfl) (Or.inr rfl))) (fun _ _ _ _=>(Jc (Zt Qj (Zp (Yw K) (pv 1) (pv 0) (fun _ _=>rfl)) W3 (Zu _)))) (fun _ _ _=>rfl) (fun _ _ _ _ _ _=>Yj (pv 0)))
      (Ze (Z8 (Zt Yv (Zm Zh (by rfl) T.n_len PySem.boot_len (Za (pv 6) Zc)) Zd (Zu _)) (Zg Zh8) Zy)
      (Zg (Xg (Wg PySem.F.plainAttrs_list PySem.F.slot_list_append PySem.F.type_list_append Y2 (pv 3) (Za (Zp Zs (pv 6) (Zi Zz (pv 4) (Zm Zh (by rfl) T.n_len PySem.boot_len (Za (pv 6) Zc))) (fun _ _=>rfl)) Zc)))))))))
      (Ze (Yg PassesOwn.never rfl (Z7 rfl T.n_range (Za (Zm Zh (by rfl) T.n_len PySem.boot_len (Za (pv 3) Zc)) Zc)) (Zl (i:=7) Xl.nd rfl (Or.inl rfl)) (Zg (Yg PassesOwn.never rfl (Zku rfl T.n_reversed rfl T.n_range (Za (Zi Ya (pv 7) Zd) (Za (Zm Zh (by rfl) T.n_len PySem.boot_len (Za (pv 3) Zc)) Zc))) (Zl (i:=8) Xl.nd rfl (Or.inl rfl)) (Zg (Z8 (Zt Yv (Zp Zs (pv 3) (pv 7) (fun _ _=>rfl)) (Zp Zs (pv 3) (pv 8) (fun _ _=>rfl)) (Zu _)) (Zg (Zo (Wa Ve (pv 3) (X0 (pv 7)) (X0 (pv 8))))) Zy)))))
      (Zg (Zo (Y4 Zc)))))))),?_⟩
    refine Zv fun nxC hnxC=>?_
    refine ⟨_,rfl,m,_,rfl,.inl (SqL.of hm),_,rfl,by omega,by rw [List.length_map]; omega,fun D hD=>?_⟩
    have eL:(((M.map mV).length:Nat):Int).toNat=M.length:=by simp
    rw [eL]
    refine Xq (fun i σ H1=>∃ v,σ=[v,some (.ref m)]∧Same H H1∧H1 D=some (.lst (((List.range i).filter (hasM M)).map nV))) ⟨none,rfl,Same.new hD,Zb⟩ ?_ ?_
    · rintro i σ H1 hlt ⟨v,rfl,sm,h1⟩
      dsimp only [Zn]
      rw [Int.zero_add]
      obtain ⟨y,hy⟩:∃ y,M[i]?=some y:=⟨_,List.getElem?_eq_getElem hlt⟩
      have lt:(((List.range i).filter (hasM M)).map nV).length < sizeLine:=by
        rw [List.length_map]
        have:=List.length_filter_le (hasM M) (List.range i)
        rw [List.length_range] at this
        exact Zx (by omega)
      refine ⟨_,rfl,_,rfl,m,_,_,_,rfl,rfl,SqL.of (sm _ _ hm),Z0 hy,rfl,_,rfl,?_⟩
      cases y with
      | none =>
        refine iteF ⟨_,rfl,sm,?_⟩
        rw [h1,List.range_succ,List.filter_append]
        have:hasM M i=false:=by rw [Bool.eq_false_iff]; intro z; obtain ⟨j,e⟩:=Jv.mp z; rw [hy] at e; cases e
        simp [this]
      | some j =>
        refine iteT ⟨_,rfl,_,h1,lt,_,rfl,Same.add sm hD,?_⟩
        rw [Zb,List.range_succ,List.filter_append]
        have:hasM M i=true:=Jv.mpr ⟨j,hy⟩
        simp [this]
        rfl
    rintro σ H1 ⟨v,rfl,s1,h1⟩
    refine hnxC _ _ ?_
    have hsp:∀ p∈(List.range M.length).filter (hasM M),∃ j,M[p]?=some (some j):=fun p hp=>Jv.mp (List.mem_filter.mp hp).2
    generalize (List.range M.length).filter (hasM M)=sps at h1 hsp
    refine Zv fun nxC hnxC=>?_
    refine ⟨_,rfl,D,_,rfl,.inl (SqL.of h1),rfl,_,rfl,?_⟩
    refine ite2 (fun c=>?_) (fun c=>?_)
    · exact ⟨Nat.zero_le _,fun l hl=>k l [] _ (Same.add s1 (s1.free hl)) (s1.free hl) Zb (Nat.zero_le _) (.inl rfl)⟩
    have hne:0 < sps.length:=by
      cases sps with
      | nil=>exact absurd rfl c
      | cons _ _=>simp
    dsimp only [X8]
    refine hnxC _ _ ?_
    obtain ⟨x0,xr,rfl⟩:∃ x0 xr,xs=x0 :: xr:=by
      cases xs with
      | nil=>exact absurd rfl hx0
      | cons a b=>exact ⟨a,b,rfl⟩
    have k0:=Int.emod_nonneg x0 (show (sps.length:Int)≠0 by omega)
    have k1:=Int.emod_lt_of_pos x0 (show (0:Int) < sps.length by omega)
    obtain ⟨kk,hkk⟩:∃ kk:Nat,x0 % (sps.length:Int)=kk:=⟨_,(Int.toNat_of_nonneg k0).symm⟩
    have hkl:kk < sps.length:=by omega
    refine Zv fun nxC hnxC=>?_
    refine ⟨_,rfl,_,rfl,a,_,_,_,rfl,rfl,SqL.of (s1 _ _ ha),(show atI _ ((0:Nat):Int)=_ from Yu rfl),_,rfl,D,_,rfl,.inl (SqL.of h1),_,_,rfl,rfl,(by rw [List.length_map]; omega),D,_,_,_,rfl,rfl,SqL.of h1,(by rw [List.length_map,hkk]; exact Z0 (List.getElem?_eq_getElem hkl)),(by show 1≤sizeLine; decide),fun r hr1=>?_⟩
    refine hnxC _ _ ?_
    have hr0:H r=none:=s1.free hr1
    obtain ⟨j0,hj0⟩:=hsp _ (List.getElem_mem hkl)
    have ch0:Ch M [sps[kk]]:=Ch.one hj0
    generalize sps[kk]=p0 at ch0
    have s2:Same H (upd H1 r (.lst [nV p0])):=Same.add s1 hr0
    have h2:(upd H1 r (.lst [nV p0])) r=some (.lst ([p0].map nV)):=Zb
    generalize upd H1 r (.lst [nV p0])=H2 at s2 h2
    dsimp only [Zn]
    show tSeq (tFor _ _ _) _ _ _ _
    refine Z4 (fun σ H3=>∃ (row:List Nat) (v4 v5 v6:Option V),σ=[some (.ref m),some (.ref a),some (.ref D),some (.ref r),v4,v5,v6,none,none]∧Same H H3∧H3 r=some (.lst (row.map nV))∧Ch M row∧row.length≤60) (fun nx hnx=>?_) ?_
    · refine ⟨_,rfl,_,rfl,a,_,rfl,SqL.of (s2 _ _ ha),fun q hq=>?_⟩
      rw [Zje]
      have hrq:r≠q:=Zk h2 hq
      have hq0:H q=none:=s2.free hq
      refine ⟨q,rfl,⟨_,SqL.of Zb⟩,?_⟩
      rw [List.length_cons] at hx60
      refine Jb (xs:=xr.map V.int) (fun i σ H3=>∃ (row:List Nat) (v4 v5 v6:Option V),σ=[some (.ref m),some (.ref a),some (.ref D),some (.ref r),v4,v5,v6,none,none]∧Same H H3∧H3 q=some (.lst (xr.map V.int))∧H3 r=some (.lst (row.map nV))∧Ch M row∧row≠[]∧row.length≤i + 1)
        ⟨[p0],none,none,none,rfl,Same.add s2 hq0,Zb,by rw [Zf hrq]; exact h2,ch0,by simp,by simp⟩ ?_ ?_ ?_
      · rintro i σ H3 _ ⟨row,v4,v5,v6,rfl,s3,h3,_⟩
        exact SqL.of h3
      · rintro i x σ H3 hxi ⟨row,v4,v5,v6,rfl,s3,h3,h4,ch,rne,rlen⟩
        have hi:i < xr.length:=by have:=(List.getElem?_eq_some_iff.mp hxi).1; rw [List.length_map] at this; exact this
        obtain ⟨pick,hpk,rfl⟩:∃ pick,xr[i]?=some pick∧x=V.int pick:=by
          rw [List.getElem?_map,List.getElem?_eq_getElem hi] at hxi
          exact ⟨_,List.getElem?_eq_getElem hi,(Option.some.inj hxi).symm⟩
        obtain ⟨la,hla⟩:∃ la,row.getLast?=some la:=by
          cases e:row.getLast? with
          | none=>exact absurd (List.getLast?_eq_none_iff.mp e) rne
          | some z=>exact ⟨z,rfl⟩
        have hlm:la∈row:=List.mem_of_getLast? hla
        obtain ⟨sd,hsd⟩:=ch.has la hlm
        have hsdM:sd < M.length:=(List.getElem?_eq_some_iff.mp (inv la sd hsd).1).1
        have elast:atI (row.map nV) (-1)=some (nV la):=by
          unfold atI ixN
          have hl:0 < row.length:=by cases row with | nil=>exact absurd rfl rne | cons _ _=>simp
          rw [if_neg (by decide),if_pos (by rw [List.length_map]; omega)]
          show ((row.map nV)[((-1:Int) + (row.map nV).length).toNat]?)=_
          rw [List.length_map,show ((-1:Int) + (row.length:Int)).toNat=row.length - 1 by omega,List.getElem?_map,← List.getLast?_eq_getElem?,hla]
          rfl
        dsimp only [Zn]
        refine Zv fun nxC hnxC=>?_
        refine ⟨_,rfl,_,rfl,_,rfl,r,_,_,_,rfl,rfl,SqL.of h4,elast,m,_,_,_,rfl,rfl,SqL.of (s3 _ _ hm),Z0 hsd,?_⟩
        refine hnxC _ _ ?_
        refine Zv fun nxC hnxC=>?_
        refine ⟨2,rfl,by decide,by decide,fun W hW=>?_⟩
        have hW0:H W=none:=s3.free hW
        have hWr:r≠W:=Zk h4 hW
        have hWq:q≠W:=Zk h3 hW
        refine Xq (n:=2) (fun c σ H5=>∃ v,σ=[v,some (nV sd)]∧Same H3 H5∧H5 W=some (.lst (([side sd 1,side sd 2].take c).map nV))) ⟨none,rfl,Same.new hW,Zb⟩ ?_ ?_
        · rintro c σ H5 hc ⟨v,rfl,s5,h5⟩
          dsimp only [Zn,tYes]
          rw [if_pos rfl]
          refine ⟨_,rfl,_,rfl,_,_,rfl,rfl,(by show (0:Int) < 3; decide),_,_,rfl,rfl,_,rfl,_,_,rfl,rfl,_,rfl,_,_,rfl,rfl,_,_,rfl,rfl,(by show (0:Int) < 3; decide),_,_,rfl,rfl,_,h5,?_,_,rfl,Same.add s5 hW,?_⟩
          · rw [List.length_map,List.length_take]; exact Zx (by omega)
          · rw [Zb]
            have hc:c=0∨c=1:=by omega
            have e:∀ k:Nat,(sd:Int) - (sd:Int) % 3 + ((sd:Int) + 1 + (0 + (k:Int))) % 3=((side sd (k + 1):Nat):Int):=fun k=>by unfold side; omega
            rcases hc with rfl | rfl
            · show some (HO.lst ([] ++ [V.int ((sd:Int) - (sd:Int) % 3 + ((sd:Int) + 1 + (0 + ((0:Nat):Int))) % 3)]))=_
              rw [e 0]; rfl
            · show some (HO.lst ([nV (side sd 1)] ++ [V.int ((sd:Int) - (sd:Int) % 3 + ((sd:Int) + 1 + (0 + ((1:Nat):Int))) % 3)]))=_
              rw [e 1]; rfl
        rintro σ H5 ⟨v,rfl,s5,h5⟩
        refine hnxC _ _ ?_
        have h5:H5 W=some (.lst ([side sd 1,side sd 2].map nV)):=h5
        have sl:∀ c,side sd c < M.length:=fun c=>by rw [hn]; exact Zkh (by omega)
        refine Zv fun nxC hnxC=>?_
        refine ⟨_,rfl,W,rfl,⟨_,SqL.of h5⟩,fun W2 hW2=>?_⟩
        have s35:=s3.trans s5
        refine Y9 (xs:=[side sd 1,side sd 2].map nV) (fun c σ H6=>∃ v,σ=[v,some (.ref m)]∧Same H5 H6∧H6 W2=some (.lst ((([side sd 1,side sd 2].take c).filter (hasM M)).map nV))) ⟨none,rfl,Same.new hW2,Zb⟩ ?_ ?_ ?_
        · rintro c σ H6 _ ⟨v,rfl,s6,h6⟩
          exact SqL.of (s6 _ _ h5)
        · rintro c x σ H6 hxc ⟨v,rfl,s6,h6⟩
          obtain ⟨p,hp,rfl⟩:=map_some hxc
          have hpM:p < M.length:=by
            have:=List.mem_of_getElem? hp
            rcases List.mem_cons.mp this with rfl | z
            · exact sl 1
            · rw [List.mem_singleton.mp z]; exact sl 2
          obtain ⟨y,hy⟩:∃ y,M[p]?=some y:=⟨_,List.getElem?_eq_getElem hpM⟩
          dsimp only [Zn]
          refine ⟨_,rfl,_,rfl,m,_,_,_,rfl,rfl,SqL.of (s6 _ _ (s35 _ _ hm)),Z0 hy,rfl,_,rfl,?_⟩
          cases y with
          | none =>
            refine iteF ⟨_,rfl,s6,?_⟩
            have:hasM M p=false:=by rw [Bool.eq_false_iff]; intro z; obtain ⟨j,e⟩:=Jv.mp z; rw [hy] at e; cases e
            rw [h6,Jx hp,if_neg (by rw [this]; decide)]
          | some jj =>
            refine iteT ⟨_,rfl,_,h6,?_,_,rfl,Same.add s6 hW2,?_⟩
            · rw [List.length_map]
              have h1:=List.length_filter_le (hasM M) ([side sd 1,side sd 2].take c)
              have h2:([side sd 1,side sd 2].take c).length≤2:=by rw [List.length_take]; exact Nat.min_le_right _ _
              exact Zx (by omega)
            · rw [Zb,Jx hp,if_pos (Jv.mpr ⟨jj,hy⟩),List.map_append]
              rfl
        rintro σ H6 ⟨v,rfl,s6,h6⟩
        refine hnxC _ _ ?_
        have h6:H6 W2=some (.lst (([side sd 1,side sd 2].filter (hasM M)).map nV)):=h6
        have hws:∀ p∈[side sd 1,side sd 2].filter (hasM M),(∃ j,M[p]?=some (some j))∧p / 3=sd / 3∧p≠sd:=fun p hp=>by
          obtain ⟨z1,z2⟩:=List.mem_filter.mp hp
          refine ⟨Jv.mp z2,?_,?_⟩
          · rcases List.mem_cons.mp z1 with rfl | z
            · exact Zau _ _
            · rw [List.mem_singleton.mp z]; exact Zau _ _
          · rcases List.mem_cons.mp z1 with rfl | z
            · unfold side; omega
            · rw [List.mem_singleton.mp z]; unfold side; omega
        generalize [side sd 1,side sd 2].filter (hasM M)=wys at h6 hws
        have s36:=s5.trans s6
        have h4':=s36 _ _ h4
        have h3':=s36 _ _ h3
        have s06:=s3.trans s36
        refine Zv fun nxC hnxC=>?_
        refine ⟨_,rfl,W2,_,rfl,.inl (SqL.of h6),rfl,_,rfl,?_⟩
        refine ite2 (fun c=>?_) (fun c=>?_)
        · exact hnx _ _ ⟨row,_,_,_,rfl,s06,h4',ch,by omega⟩
        have hwp:0 < wys.length:=by
          cases wys with
          | nil=>exact absurd rfl c
          | cons _ _=>simp
        dsimp only [X8]
        refine hnxC _ _ ?_
        have c0:=Int.emod_nonneg pick (show (wys.length:Int)≠0 by omega)
        have c1:=Int.emod_lt_of_pos pick (show (0:Int) < wys.length by omega)
        obtain ⟨cc,hcc⟩:∃ cc:Nat,pick % (wys.length:Int)=cc:=⟨_,(Int.toNat_of_nonneg c0).symm⟩
        have hcl:cc < wys.length:=by omega
        obtain ⟨w1,w2,w3⟩:=hws _ (List.getElem_mem hcl)
        have hget:=List.getElem?_eq_getElem hcl
        refine ⟨_,rfl,.inl ⟨rfl,_,SqL.of h4'⟩,_,rfl,_,rfl,_,rfl,W2,_,rfl,.inl (SqL.of h6),_,_,rfl,rfl,(by rw [List.length_map]; omega),W2,_,_,_,rfl,rfl,SqL.of h6,(by rw [List.length_map,hcc]; exact Z0 hget),r,_,_,rfl,rfl,h4',(by rw [List.length_map]; exact Zx (by omega)),?_⟩
        refine ⟨row ++ [wys[cc]],_,_,_,rfl,Same.add s06 hr0,?_,?_,ch.snoc hla hsd w2 w3 w1,by simp,by rw [List.length_append,List.length_singleton]; omega⟩
        · rw [Zf (Ne.symm hrq)]; exact h3'
        · rw [Zb,List.map_append]; rfl
      · rintro σ H3 ⟨row,v4,v5,v6,rfl,s3,h3,h4,ch,rne,rlen⟩
        rw [List.length_map] at rlen
        exact hnx _ _ ⟨row,_,_,_,rfl,s3,h4,ch,by omega⟩
    rintro σ H3 ⟨row,v4,v5,v6,rfl,s3,h3,ch,rlen⟩
    show tSeq (tFor _ _ _) _ _ _ _
    refine Z4 (fun σ H4=>H4=H3) (fun nx hnx=>?_) ?_
    · refine ⟨_,rfl,r,_,rfl,.inl (SqL.of h3),_,rfl,by omega,by rw [List.length_map]; omega,?_⟩
      have eR:(((row.map nV).length:Nat):Int).toNat=row.length:=by simp
      rw [eR]
      refine Yy (n:=row.length) (fun i σ H4=>∃ v7 v8,σ=[some (.ref m),some (.ref a),some (.ref D),some (.ref r),v4,v5,v6,v7,v8]∧H4=H3) ⟨_,_,rfl,rfl⟩ ?_ ?_
      · rintro i σ H4 hi ⟨v7,v8,rfl,rfl⟩
        dsimp only [Zn]
        rw [Int.zero_add]
        refine ⟨_,rfl,_,_,rfl,rfl,_,rfl,r,_,rfl,.inl (SqL.of h3),((i + 1:Nat):Int),row.length - (i + 1),?_,by omega,by omega,?_⟩
        · rw [List.length_map]
          show [V.int ((i:Int) + 1),V.int (row.length:Int)]=_
          rw [show ((i:Int) + 1)=((i + 1:Nat):Int) by omega,show (row.length:Int)=((i + 1:Nat):Int) + ((row.length - (i + 1):Nat):Int) by omega]
        refine Ze0 (n:=row.length - (i + 1)) (fun c σ H5=>∃ v8,σ=[some (.ref m),some (.ref a),some (.ref D),some (.ref r),v4,v5,v6,some (.int i),v8]∧H5=H4) ⟨_,rfl,rfl⟩ ?_ ?_
        · rintro c σ H4 hc ⟨v8,rfl,rfl⟩
          obtain ⟨e,he,hie,hel⟩:∃ e:Nat,((i + 1:Nat):Int) + ((row.length - (i + 1):Nat):Int) - 1 + (c:Int) * -1=(e:Int)∧i < e∧e < row.length:=⟨row.length - 1 - c,by omega,by omega,by omega⟩
          dsimp only [Zn]
          rw [he]
          have gi:=List.getElem?_eq_getElem hi
          have ge:=List.getElem?_eq_getElem hel
          refine ⟨_,rfl,_,rfl,r,_,_,_,rfl,rfl,SqL.of h3,Z0 gi,_,rfl,_,rfl,r,_,_,_,rfl,rfl,SqL.of h3,Z0 ge,rfl,_,rfl,?_⟩
          refine ite2 (fun z=>?_) (fun z=>?_)
          · have z:nV row[i]=nV row[e]:=of_decide_eq_true z
            have z:row[i]=row[e]:=by unfold nV at z; injection z with z; omega
            refine ⟨_,rfl,_,rfl,_,rfl,_,rfl,_,rfl,r,_,rfl,SqL.of h3,fun l hl=>?_⟩
            have ec:cutV (row.map nV) (some (i:Int)) (some (e:Int))=((row.drop i).take (e - i)).map nV:=by
              unfold cutV
              rw [HT.sIx_nat,HT.sIx_nat,List.length_map,Nat.min_eq_left (by omega),Nat.min_eq_left (by omega),List.map_take,List.map_drop]
            rw [ec]
            refine k l _ _ (Same.add s3 (s3.free hl)) (s3.free hl) Zb ?_ (.inr (ch.cut hie gi (by rw [ge,z])))
            rw [List.length_take,List.length_drop]; omega
          · exact ⟨_,rfl,rfl⟩
        · rintro σ H4 ⟨v8,rfl,rfl⟩
          exact ⟨_,_,rfl,rfl⟩
      · rintro σ H4 ⟨v7,v8,rfl,rfl⟩
        exact hnx _ _ rfl
    · rintro σ H4 rfl
      exact ⟨Nat.zero_le _,fun l hl=>k l [] _ (Same.add s3 (s3.free hl)) (s3.free hl) Zb (Nat.zero_le _) (.inl rfl)⟩
end
end KT
set_option maxHeartbeats 4000000
namespace KT
open PySem L2
noncomputable def Q0 (ws:List Int) (by':Int):List Int:=rot ws (by' % ws.length).toNat
noncomputable def Zfi:Sp:=fun vs H Q _=>∃ (a:Addr) (ws:List Int) (b:Int),vs=[.ref a,.int b]∧H a=some (.lst (ws.map V.int))∧ws.length≤100000∧∀ (l:Addr) (H':Hp),Same H H'→H l=none→H' l=some (.lst ((Q0 ws b).map V.int))→Q (.ref l) H'
noncomputable def Zao (C:Addr):Sp:=fun vs H Q _=>∃ (p:Addr) (M:List (Option Nat)) (ns:List Int) (x:Int),vs=[.ref p,.int x]∧Ye C H p M ns∧M.length=ns.length∧Q (.bl (X3 M x)) H
noncomputable def Zeh (C:Addr):Sp:=fun vs H Q _=>∃ (p:Addr) (M:List (Option Nat)) (ns:List Int) (a x:Int),vs=[.ref p,.int a,.int x]∧Ye C H p M ns∧M.length=ns.length∧X3 M a=true∧Q (.bl (Ww M a x)) H
noncomputable def Zhv (C:Addr):Sp:=fun vs H Q _=>∃ (p a:Addr) (M:List (Option Nat)) (ns ws:List Int),vs=[.ref p,.ref a]∧Ye C H p M ns∧M.length=ns.length∧H a=some (.lst (ws.map V.int))∧ws.length≤100000∧∀ H',Same H H'→Q (.bl (Wz M ws)) H'
noncomputable def Gj (C EN:Addr):Sp:=fun vs H Q E=>∃ (p a:Addr) (M:List (Option Nat)) (ns ws:List Int),vs=[.ref p,.ref a]∧Ye C H p M ns∧M.length=ns.length∧H a=some (.lst (ws.map V.int))∧ws.length≤100000∧∀ H',Same H H'→(Wz M ws=true→Q .non H')∧(Wz M ws=false→E (.ref EN) none H')
theorem X9 {n:Nat} (h:n≤100000):n≤sizeLine:=by rw [sizeLine_eq]; omega
theorem O7 {ws:List Int} {s:Nat} (h:s≤ws.length):cutV (ws.map V.int) (some (s:Int)) none=(ws.drop s).map V.int:=by
 unfold cutV
 rw [HT.sIx_nat,HT.sIx_none,List.length_map,Nat.min_eq_left h,List.map_drop,List.take_of_length_le]
 rw [List.length_drop,List.length_map]
 exact Nat.le_refl _
theorem Zce {ws:List Int} {s:Nat} (h:s≤ws.length):cutV (ws.map V.int) none (some (s:Int))=(ws.take s).map V.int:=by
 unfold cutV
 rw [HT.sIx_none,HT.sIx_nat,List.length_map,Nat.min_eq_left h,List.drop_zero,Nat.sub_zero,List.map_take]
section
variable {P:Program} {w:World} {K:PySem.W.Frag} {mg:Str→Option Value} {base:Heap} {t:Adr}
theorem Ol:FnScope ["_law_script","_law_at","_law_mates","_law_cell_here"] ["_law_script","_law_at","_law_mates"] (Zj Kl):=⟨rfl,rfl,rfl,by decide +kernel,rfl,by decide +kernel,by decide +kernel⟩
theorem Zcw (T:Txt w K mg t):FnOk P w K mg base (CXr P w) 2 t.f_l_thread t.d_l_thread ["_law_script","_law_at","_law_mates"] (Zfj K):=by
 refine T.p_l_thread.F.aR Ol (fun cdv A outer s H vs Q E hr h=>?_)
 ·obtain ⟨a,m,sc,i,M,rfl,hS,hl,i0,i1,hm,h42,hn,inv,k⟩:=h
  refine ⟨_,(Ze (Zq (i:=3) Ol.nd rfl (Or.inl rfl) (pcT (Jf T) hr T.p_l_cell (Za (pv 0) (Za (pv 1) Zc))))
   (Zg (Zo (pcT (Zgd T) hr T.p_l_walk (Za (pv 2) (Za (pcT (Qu T) hr T.p_l_numbers (Za (Zi Yd (pv 3) Zd) (Za (Zi Ya Zd (Zi Zz (pv 3) Zd)) Zc))) Zc)))))),?_⟩
  refine ⟨_,rfl,_,rfl,a,sc,i,rfl,hS,hl,i0,by omega,?_⟩
  dsimp only [Zn]
  generalize cell sc i=c
  have m0:0≤c % 50:=Int.emod_nonneg _ (by decide)
  have m1:c % 50 < 50:=Int.emod_lt_of_pos _ (by decide)
  have e:(4 + c % 50:Int)=((4 + (c % 50).toNat:Nat):Int):=by omega
  refine ⟨_,rfl,_,rfl,_,_,rfl,rfl,⟨by decide,by decide⟩,_,rfl,_,_,rfl,rfl,(by show (0:Int) < 50; decide),_,_,rfl,rfl,_,4 + (c % 50).toNat,(by rw [← e]; rfl),by omega,fun p xs H1 s1 hp h1 hxl hx=>?_⟩
  refine ⟨m,p,M,xs,rfl,s1 _ _ hm,h1,fun z=>by rw [z] at hxl; simp at hxl; omega,by omega,hx,h42,hn,inv,fun l ws H2 s2 hl2 h2 hw hpl=>k l ws H2 (s1.trans s2) (s1.free hl2) h2 hw hpl⟩
theorem G0:FnScope ["word","by","start"] ["word","by"] (Zj Za0):=⟨rfl,rfl,rfl,by decide +kernel,rfl,by decide +kernel,by decide +kernel⟩
theorem Ff (T:Txt w K mg t):FnOk P w K mg base (CXr P w) 1 t.f_turned t.d_turned ["word","by"] Zfi:=by
 refine T.p_turned.F.aR G0 (fun cdv A outer s H vs Q E hr h=>?_)
 ·obtain ⟨a,ws,b,rfl,ha,hl,k⟩:=h
  refine ⟨_,(Ze (Z8 (Xz (O0 (pv 0) (fun _=>rfl))) (Zg (Zo (Y4 Zc))) Zy)
   (Ze (Zq (i:=2) G0.nd rfl (Or.inl rfl) (Zi Zz (pv 1) (Zm Zh (by rfl) T.n_len PySem.boot_len (Za (pv 0) Zc))))
   (Zg (Zo (Zi Kv (Wa Ve (pv 0) (X0 (pv 2)) Jp) (Wa Ve (pv 0) Jp (X0 (pv 2)))))))),?_⟩
  refine Zv fun nxC hnxC=>?_
  refine ⟨_,rfl,_,.inl ⟨_,SqL.of ha,rfl⟩,?_⟩
  by_cases hne:ws=[]
  ·subst hne
   exact iteT ⟨Nat.zero_le _,fun l hl'=>k l _ (Same.new hl') hl' (by rw [Zb]; unfold Q0 rot; simp)⟩
  ·have e:(!(ws.map V.int).isEmpty)=true:=by cases ws with | nil=>exact absurd rfl hne | cons _ _=>rfl
   have hp:0 < ws.length:=by cases ws with | nil=>exact absurd rfl hne | cons _ _=>simp
   rw [e]
   refine iteF ?_
   dsimp only [X8]
   refine hnxC _ _ ?_
   have k0:=Int.emod_nonneg b (show (ws.length:Int)≠0 by omega)
   have k1:=Int.emod_lt_of_pos b (show (0:Int) < ws.length by omega)
   obtain ⟨st,hst⟩:∃ st:Nat,b % (ws.length:Int)=st:=⟨_,(Int.toNat_of_nonneg k0).symm⟩
   have hsl:st≤ws.length:=by omega
   have et:Q0 ws b=ws.drop st ++ ws.take st:=by unfold Q0 rot; rw [hst,Int.toNat_natCast]
   refine ⟨_,rfl,_,rfl,a,_,rfl,.inl (SqL.of ha),_,_,rfl,rfl,(by rw [List.length_map]; omega),?_⟩
   dsimp only [Zn]
   rw [Ziv,hst]
   refine ⟨_,rfl,_,rfl,_,rfl,a,_,rfl,SqL.of ha,fun l1 h1=>?_⟩
   rw [O7 hsl]
   have s1:Same H (upd H l1 (.lst ((ws.drop st).map V.int))):=Same.new h1
   refine ⟨_,rfl,_,rfl,_,rfl,a,_,rfl,SqL.of (s1 _ _ ha),fun l2 h2=>?_⟩
   rw [Zce hsl]
   obtain ⟨hne2,h2'⟩:=Wj h2
   refine ⟨l1,l2,_,_,rfl,rfl,by rw [Zf (Ne.symm hne2),Zb],Zb,?_,fun l3 h3=>?_⟩
   ·rw [List.length_map,List.length_map,List.length_drop,List.length_take]; exact X9 (by omega)
   ·have s3:=Same.add (o:=.lst ((ws.take st).map V.int)) s1 h2'
    refine k l3 _ (Same.add s3 (s3.free h3)) (s3.free h3) ?_
    rw [Zb,et,List.map_append]
theorem Zav:FnScope ["tent","place"] ["tent","place"] (Zj Oq):=⟨rfl,rfl,rfl,by decide +kernel,rfl,by decide +kernel,by decide +kernel⟩
theorem Zbr (T:Txt w K mg t):FnOk P w K mg base (CXr P w) 4 t.f_crossable t.d_crossable ["tent","place"] (Zao t.C_Tent):=by
 refine T.p_crossable.F.aR Zav (fun cdv A outer s H vs Q E hr h=>?_)
 ·obtain ⟨p,M,ns,x,rfl,ta,hMl,k⟩:=h
  obtain ⟨dx,cl,na,sp,mt,o,f,b⟩:=id ta
  refine ⟨_,(Zg (Zo (Zbo (Je (pv 0) T.cl_Tent T.p_Tent_has_place.m (J7 T) (hr.mono (by decide)) T.p_Tent_has_place.b .nil Wh (Za (pv 1) Zc)) (Zbm (Jq Qj (Je (pv 0) T.cl_Tent T.p_Tent_mate.m (Qv T) (hr.mono (by decide)) T.p_Tent_mate.b .nil Wh (Za (pv 1) Zc)) W3 (Zu _)))))),?_⟩
  refine ⟨_,rfl,p,dx,_,rfl,b.ins,Y5 _ _ _ _,_,rfl,p,M,ns,x,rfl,ta,_,rfl,?_⟩
  by_cases c:0≤x∧x < (ns.length:Int)
  ·rw [decide_eq_true c]
   refine iteT ⟨_,rfl,p,dx,_,rfl,b.ins,Y5 _ _ _ _,_,rfl,p,M,ns,x,rfl,ta,hMl,fun i y e1 e2=>?_,fun z=>absurd c z⟩
   refine ⟨rfl,?_⟩
   have:X3 M x=!decide (mV y=.non):=by
    unfold X3
    rw [e1,Int.toNat_natCast,List.getD_eq_getElem?_getD,e2,decide_eq_true (show (0:Int)≤i∧(i:Int) < M.length by omega)]
    cases y <;> rfl
   rw [this] at k
   exact k
  ·rw [decide_eq_false c]
   have:X3 M x=false:=by unfold X3; rw [decide_eq_false (by omega)]; rfl
   rw [this] at k
   exact iteF k
theorem Kg:FnScope ["tent","ahead","place","entry"] ["tent","ahead","place"] (Zj G9):=⟨rfl,rfl,rfl,by decide +kernel,rfl,by decide +kernel,by decide +kernel⟩
theorem Zes (T:Txt w K mg t):FnOk P w K mg base (CXr P w) 4 t.f_follows t.d_follows ["tent","ahead","place"] (Zeh t.C_Tent):=by
 refine T.p_follows.F.aR Kg (fun cdv A outer s H vs Q E hr h=>?_)
 ·obtain ⟨p,M,ns,a,x,rfl,ta,hMl,hc,k⟩:=h
  obtain ⟨dx,cl,na,sp,mt,o,f,b⟩:=id ta
  refine ⟨_,(Ze (Zq (i:=3) Kg.nd rfl (Or.inl rfl) (Je (pv 0) T.cl_Tent T.p_Tent_mate.m (Qv T) (hr.mono (by decide)) T.p_Tent_mate.b .nil Wh (Za (pv 1) Zc)))
   (Zg (Zo (Zbo (Jq Yv (pcT (Xe T) hr T.p_cloth_of (Za (pv 2) Zc)) (pcT (Xe T) hr T.p_cloth_of (Za (pv 3) Zc)) (Zu _)) (Zbm (Jq Q5 (pv 2) (pv 3) (Zu _))))))),?_⟩
  obtain ⟨hr1,hs1⟩:=Bool.and_eq_true_iff.mp hc
  have hr1:=of_decide_eq_true hr1
  obtain ⟨m,hm⟩:=Option.isSome_iff_exists.mp hs1
  have hal:a.toNat < M.length:=by omega
  have ha:M[a.toNat]?=some (some m):=by rw [List.getD_eq_getElem?_getD,List.getElem?_eq_getElem hal] at hm; rw [List.getElem?_eq_getElem hal]; exact congrArg some hm
  have ef:Ww M a x=(decide (x / 3=(m:Int) / 3) && !decide (x=(m:Int))):=by unfold Ww; rw [hm]
  rw [ef] at k
  refine ⟨_,rfl,p,dx,_,rfl,b.ins,Y5 _ _ _ _,_,rfl,p,M,ns,a,rfl,ta,hMl,fun i y e1 e2=>?_,fun z=>absurd (show 0≤a∧a < (ns.length:Int) by omega) z⟩
  have:i=a.toNat:=by omega
  subst this
  rw [ha] at e2
  cases e2
  refine ⟨_,rfl,_,rfl,_,rfl,_,rfl,rfl,_,rfl,?_⟩
  have dI:∀ u v:Int,decide (V.int u=V.int v)=decide (u=v):=fun u v=>by
   by_cases z:u=v
   ·subst z; simp
   ·rw [decide_eq_false z,decide_eq_false (fun y=>z (by injection y))]
  rw [dI]
  by_cases z:x / 3=(m:Int) / 3
  ·rw [decide_eq_true z] at k ⊢
   refine iteT ⟨_,rfl,_,rfl,rfl,?_⟩
   show Q (.bl (!decide (V.int x=V.int (m:Int)))) H
   rw [dI]
   exact k
  ·rw [decide_eq_false z] at k ⊢
   exact iteF k
theorem Zhz:FnScope ["tent","word"] ["tent","word"] (Zj Zdc):=⟨rfl,rfl,rfl,by decide +kernel,rfl,by decide +kernel,by decide +kernel⟩
theorem Zij (T:Txt w K mg t):FnOk P w K mg base (CXr P w) 5 t.f_plain t.d_plain ["tent","word"] (Zhv t.C_Tent):=by
  refine T.p_plain.F.aR Zhz (fun cdv A outer s H vs Q E hr h=>?_)
  · obtain ⟨p,a,M,ns,ws,rfl,ta,hMl,ha,hl,k⟩:=h
    refine ⟨_,(Ze (Z8 (PW.pt (Qc (Xz (O0 (pv 1) (fun _=>rfl))) (J3 (Xz (Xy (Zm (Zch rfl) (by rfl) T.n_all PyProof.Rows.boot_all (Za (Y0 (ts:=["place"]) (fv:=[("tent",0)]) ⟨rfl,by decide +kernel,by decide +kernel,Yh (by rfl),⟨⟨rfl,rfl,Or.inl rfl⟩,trivial⟩⟩ rfl (Yt (pv 1)) (fun _ _ _ _=>(Zl (i:=0) (show List.Nodup (["place","tent"]:List Str) from by decide +kernel) rfl (Or.inl rfl) (Or.inr rfl))) (fun _ _ _ _=>Y1) (fun _ _ _=>rfl) (fun _ _ _ _ _ _=>Yj (pcT (Zbr T) hr T.p_crossable (Za (pv 1) (Za (pv 0) Zc))))) Zc))))))) (Zg (Zo Xv)) Zy)
      (Zg (Zo (Zm (Zch rfl) (by rfl) T.n_all PyProof.Rows.boot_all (Za (Y0 (ts:=["ahead","place"]) (fv:=[("tent",0)]) ⟨rfl,by decide +kernel,by decide +kernel,Yh (by rfl),⟨⟨rfl,rfl,Or.inl rfl⟩,trivial⟩⟩ rfl (Zf3 rfl T.n_zip (Za (pv 1) (Za (pcT (Ff T) hr T.p_turned (Za (pv 1) (Za Zd Zc))) Zc))) (fun _ _ _ _=>(Zkw (n:=2) K rfl (Z2 (Zl (i:=0) (show List.Nodup (["ahead","place","tent"]:List Str) from by decide +kernel) rfl (Or.inl rfl) (Or.inr rfl)) (Z2 (Zl (i:=1) (show List.Nodup (["ahead","place","tent"]:List Str) from by decide +kernel) rfl (Or.inl rfl) (Or.inr rfl)) X1)))) (fun _ _ _ _=>Y1) (fun _ _ _=>rfl) (fun _ _ _ _ _ _=>Yj (pcT (Zes T) hr T.p_follows (Za (pv 2) (Za (pv 0) (Za (pv 1) Zc)))))) Zc))))),?_⟩
    refine Zv fun nxC hnxC=>?_
    refine ⟨_,rfl,_,.inl ⟨_,SqL.of ha,rfl⟩,?_⟩
    by_cases hne:ws=[]
    · subst hne
      exact iteT (k _ (Same.refl _))
    · have e:(!(ws.map V.int).isEmpty)=true:=by cases ws with | nil=>exact absurd rfl hne | cons _ _=>rfl
      have e':(!ws.isEmpty)=true:=by cases ws with | nil=>exact absurd rfl hne | cons _ _=>rfl
      have hp:0 < ws.length:=by cases ws with | nil=>exact absurd rfl hne | cons _ _=>simp
      rw [e]
      refine iteF ?_
      refine ⟨_,rfl,a,rfl,⟨_,SqL.of ha⟩,fun D hD=>?_⟩
      refine Y9 (xs:=ws.map V.int) (fun i σ H1=>∃ v,σ=[v,some (.ref p)]∧Same H H1∧H1 D=some (.lst (((ws.take i).map (X3 M)).map V.bl))) ⟨none,rfl,Same.new hD,Zb⟩ ?_ ?_ ?_
      · rintro i σ H1 _ ⟨v,rfl,sm,h1⟩
        exact SqL.of (sm _ _ ha)
      · rintro i x σ H1 hx ⟨v,rfl,sm,h1⟩
        obtain ⟨y,hy,rfl⟩:=map_some hx
        dsimp only [Zn,tYes]
        rw [if_pos rfl]
        refine ⟨_,rfl,_,rfl,p,M,ns,y,rfl,ta.same sm,hMl,_,h1,?_,_,rfl,Same.add sm hD,?_⟩
        · rw [List.length_map,List.length_map,List.length_take,sizeLine_eq]; omega
        · rw [Zb,List.take_add_one,hy,List.map_append,List.map_append]; rfl
      rintro σ H1 ⟨v,rfl,s1,h1⟩
      rw [List.length_map,List.take_length] at h1
      refine ⟨D,_,rfl,SqL.of h1,_,rfl,?_⟩
      by_cases hc:(ws.map (X3 M)).all id=true
      · rw [hc]
        refine iteF ?_
        dsimp only [X8]
        refine hnxC _ _ ?_
        refine ⟨_,rfl,_,rfl,a,ws,1,rfl,s1 _ _ ha,hl,fun tl H2 s2 htl h2=>?_⟩
        have s02:=s1.trans s2
        have et:Q0 ws 1=rot ws (1 % ws.length):=by
          unfold Q0
          congr 1
        rw [et] at h2
        have hrl:(rot ws (1 % ws.length)).length=ws.length:=Xx ws (Nat.le_of_lt (Nat.mod_lt _ hp))
        have hcr:∀ y∈ws,X3 M y=true:=fun y hy=>List.all_eq_true.mp hc _ (List.mem_map.mpr ⟨y,hy,rfl⟩)
        have ep:Wz M ws=(Jg M ws (rot ws (1 % ws.length))).all id:=by unfold Wz; rw [e',hc]; rfl
        have k':=fun H' s'=>k H' s'
        rw [ep] at k'
        generalize rot ws (1 % ws.length)=vs at h2 hrl k'
        refine ⟨a,tl,_,_,rfl,SqL.of (s02 _ _ ha),SqL.of h2,fun D2 hD2=>?_⟩
        refine Zit (xs:=ws.map V.int) (ys:=vs.map V.int) (by rw [List.length_map,List.length_map,hrl]) (fun i σ H3=>∃ v v',σ=[v,v',some (.ref p)]∧Same H2 H3∧H3 D2=some (.lst (((Jg M ws vs).take i).map V.bl))) ⟨none,none,rfl,Same.new hD2,Zb⟩ ?_ ?_ ?_
        · rintro i σ H3 _ ⟨v,v',rfl,s3,h3⟩
          exact ⟨SqL.of (s3 _ _ (s02 _ _ ha)),SqL.of (s3 _ _ h2)⟩
        · rintro i x y σ H3 q hx hy hq ⟨v,v',rfl,s3,h3⟩
          obtain ⟨x',hx',rfl⟩:=map_some hx
          obtain ⟨y',hy',rfl⟩:=map_some hy
          have s4:Same H3 (upd H3 q (.tup [V.int x',V.int y'])):=Same.new hq
          refine ⟨q,_,rfl,SqT.of Zb,rfl,_,_,rfl,_,_,rfl,rfl,?_⟩
          dsimp only [tYes]
          rw [if_pos rfl]
          refine ⟨_,rfl,_,rfl,_,rfl,p,M,ns,x',y',rfl,((ta.same s02).same s3).same s4,hMl,hcr x' (List.mem_of_getElem? hx'),_,s4 _ _ h3,?_,_,_,rfl,Same.add (s3.trans s4) hD2,?_⟩
          · rw [List.length_map,List.length_take]
            have:(Jg M ws vs).length≤ws.length:=by unfold Jg; rw [List.length_map,List.length_zip]; omega
            rw [sizeLine_eq]; omega
          · have:(Jg M ws vs)[i]?=some (Ww M x' y'):=by
              unfold Jg
              rw [List.getElem?_map,List.getElem?_zip_eq_some (z:=(x',y')) |>.mpr ⟨hx',hy'⟩]
              rfl
            rw [Zb,List.take_add_one,this,List.map_append]
            rfl
        rintro σ H3 ⟨v,v',rfl,s3,h3⟩
        have hpl:(Jg M ws vs).length=ws.length:=by unfold Jg; rw [List.length_map,List.length_zip]; omega
        rw [List.length_map,List.take_of_length_le (Nat.le_of_eq hpl)] at h3
        exact ⟨D2,_,rfl,SqL.of h3,k' _ (s02.trans s3)⟩
      · have hc:(ws.map (X3 M)).all id=false:=by rw [Bool.eq_false_iff]; exact hc
        rw [hc]
        have ep:Wz M ws=false:=by unfold Wz; rw [hc]; simp
        have:=k _ s1
        rw [ep] at this
        exact iteT this
theorem Gm:FnScope ["tent","word"] ["tent","word"] (Zj Ua):=⟨rfl,rfl,rfl,by decide +kernel,rfl,by decide +kernel,by decide +kernel⟩
theorem Vl (T:Txt w K mg t):FnOk P w K mg base (CXr P w) 6 t.f_look_thread t.d_look_thread ["tent","word"] (Gj t.C_Tent t.E_NoThread):=by
 refine T.p_look_thread.F.aX Gm (fun cdv A outer s H vs Q E hr h=>?_)
 ·obtain ⟨p,a,M,ns,ws,rfl,ta,hMl,ha,hl,k⟩:=h
  refine ⟨_,(Yl (Vj (Xz (Xy (pcT (Zij T) hr T.p_plain (Za (pv 0) (Za (pv 1) Zc))))) (Yl (Jd T.x_NoThread FBV rfl T.gx_NoThread rfl (Za Xp Zc))) Jo)),?_⟩
  refine ⟨_,rfl,_,rfl,p,a,M,ns,ws,rfl,ta,hMl,ha,hl,fun H' s'=>⟨_,rfl,?_⟩⟩
  obtain ⟨k1,k2⟩:=k H' s'
  cases e:Wz M ws with
  | true=>exact iteF (k1 e)
  | false=>exact iteT ⟨by decide,k2 e⟩
end
end KT
set_option maxHeartbeats 4000000
namespace KT
open PySem L2
theorem K0 (ws:List Nat):ws.map nV=(wI ws).map V.int:=by rw [List.map_map]; rfl
theorem Wy (ws:List Nat):(wI ws).length=ws.length:=by simp
noncomputable def Y7 (M:List (Option Nat)) (ws:List Nat):List Nat:=ws.reverse.map fun p=>(M.getD p none).getD 0
theorem Xf (M:List (Option Nat)) (ws:List Nat):(Y7 M ws).length=ws.length:=by unfold Y7; simp
theorem Zhg {M:List (Option Nat)} {ws:List Nat} {i p m:Nat} (h:ws.reverse[i]?=some p) (hm:M[p]?=some (some m)):(Y7 M ws)[i]?=some m:=by
 unfold Y7
 rw [List.getElem?_map,h]
 show some ((M.getD p none).getD 0)=some m
 rw [List.getD_eq_getElem?_getD,hm]
 rfl
theorem Zlt {ws:List Nat} {i:Nat} (hi:i < ws.length):∃ pi,pi < ws.length∧(pi + 1) % ws.length=i∧∀ a,ws[pi]?=some a→atI (ws.map nV) (0 + (i:Int) - 1)=some (nV a):=by
 cases i with
 | zero =>
  refine ⟨ws.length - 1,by omega,by rw [Nat.sub_add_cancel hi,Nat.mod_self],fun a ha=>?_⟩
  show atI (ws.map nV) (-1)=_
  unfold atI ixN
  rw [if_neg (by decide),if_pos (by rw [List.length_map]; omega)]
  show ((ws.map nV)[((-1:Int) + (ws.map nV).length).toNat]?)=_
  rw [List.length_map,show ((-1:Int) + (ws.length:Int)).toNat=ws.length - 1 by omega,List.getElem?_map,ha]
  rfl
 | succ j =>
  refine ⟨j,by omega,Nat.mod_eq_of_lt hi,fun a ha=>?_⟩
  rw [show (0 + ((j + 1:Nat):Int) - 1)=(j:Int) by omega]
  exact Z0 ha
noncomputable def Zee:Sp:=fun vs H Q _=>∃ (m a:Addr) (M:List (Option Nat)) (ws:List Nat),vs=[.ref m,.ref a]∧H m=some (.lst (M.map mV))∧H a=some (.lst (ws.map nV))∧ws.length≤1000∧Pl M ws∧Q (.bl true) H
section
variable {P:Program} {w:World} {K:PySem.W.Frag} {mg:Str→Option Value} {base:Heap} {t:Adr}
theorem J9:FnScope ["_law_mates","_law_word","_law_p","_law_k","_law_side"] ["_law_mates","_law_word"] (Zj G5):=⟨rfl,rfl,rfl,by decide +kernel,rfl,by decide +kernel,by decide +kernel⟩
theorem Zep (T:Txt w K mg t):FnOk P w K mg base (CXr P w) 1 t.f_l_plain t.d_l_plain ["_law_mates","_law_word"] Zee:=by
 refine T.p_l_plain.F.aR J9 (fun cdv A outer s H vs Q E hr h=>?_)
 ·obtain ⟨m,a,M,ws,rfl,hm,ha,hl,hP,k⟩:=h
  refine ⟨_,(Ze (Z8 (Zt Yv (Zm Zh (by rfl) T.n_len PySem.boot_len (Za (pv 1) Zc)) Zd (Zu _)) (Zg (Zo Xv)) Zy)
   (Ze (Yg PassesOwn.never rfl (Yt (pv 1)) (Zl (i:=2) J9.nd rfl (Or.inl rfl)) (Zg (Z8 (PW.pt (Qc (Zt Q6 (pv 2) Zd (Zu _)) (Qc (Zt Zjo (pv 2) (Zm Zh (by rfl) T.n_len PySem.boot_len (Za (pv 0) Zc)) (Zu _)) (J3 (Zt Zmu (Zp Zs (pv 0) (pv 2) (fun _ _=>rfl)) W3 (Zu _)))))) (Zg (Zo Xv)) Zy)))
   (Ze (Yg PassesOwn.never rfl (Z7 rfl T.n_range (Za (Zm Zh (by rfl) T.n_len PySem.boot_len (Za (pv 1) Zc)) Zc)) (Zl (i:=3) J9.nd rfl (Or.inl rfl)) (Ze (Zq (i:=4) J9.nd rfl (Or.inl rfl) (Zp Zs (pv 0) (Zp Zs (pv 1) (Zi Qt (pv 3) Zd) (fun _ _=>rfl)) (fun _ _=>rfl)))
   (Zg (Z8 (PW.pt (Qc (Zt Q5 (Zi Yd (pv 4) Zd) (Zi Yd (Zp Zs (pv 1) (pv 3) (fun _ _=>rfl)) Zd) (Zu _)) (J3 (Zt Yv (pv 4) (Zp Zs (pv 1) (pv 3) (fun _ _=>rfl)) (Zu _))))) (Zg (Zo Xv)) Zy))))
   (Zg (Zo Xv))))),?_⟩
  have hw0:0 < ws.length:=by have:=hP.ne; cases ws with | nil=>exact absurd rfl this | cons _ _=>simp
  refine Zv fun nxC hnxC=>?_
  refine ⟨_,rfl,a,_,rfl,.inl (SqL.of ha),rfl,_,rfl,?_⟩
  refine ite2 (fun z=>absurd (of_decide_eq_true z) (fun y=>?_)) (fun z=>?_)
  ·injection y with y
   rw [List.length_map] at y
   omega
  dsimp only [X8]
  refine hnxC _ _ ?_
  refine Z4 (fun σ H4=>∃ v2,σ=[some (.ref m),some (.ref a),v2,none,none]∧H4=H) (fun nx hnx=>?_) ?_
  ·refine ⟨_,rfl,a,rfl,⟨_,SqL.of ha⟩,?_⟩
   refine Jb (xs:=ws.map nV) (fun i σ H4=>∃ v2,σ=[some (.ref m),some (.ref a),v2,none,none]∧H4=H) ⟨_,rfl,rfl⟩ ?_ ?_ ?_
   ·rintro i σ H4 _ ⟨v2,rfl,rfl⟩
    exact SqL.of ha
   ·rintro i x σ H4 hx ⟨v2,rfl,rfl⟩
    obtain ⟨q,hq,rfl⟩:=map_some hx
    obtain ⟨mt,hmt⟩:=hP.has q (List.mem_of_getElem? hq)
    have hqM:q < M.length:=(List.getElem?_eq_some_iff.mp hmt).1
    dsimp only [Zn]
    refine ⟨_,rfl,_,_,rfl,rfl,_,rfl,?_⟩
    refine ite2 (fun z=>absurd (of_decide_eq_true z) (by omega)) (fun _=>?_)
    refine ⟨_,rfl,_,rfl,m,_,rfl,.inl (SqL.of hm),_,_,rfl,rfl,_,rfl,?_⟩
    refine ite2 (fun z=>absurd (of_decide_eq_true z) (by rw [List.length_map]; omega)) (fun _=>?_)
    refine ⟨_,rfl,_,rfl,m,_,_,_,rfl,rfl,SqL.of hm,Z0 hmt,rfl,_,rfl,?_⟩
    exact iteF ⟨_,rfl,rfl⟩
   ·rintro σ H4 h
    exact hnx _ _ h
  ·rintro σ H4 ⟨v2,rfl,rfl⟩
   refine Z4 (fun σ H5=>H5=H4) (fun nx hnx=>?_) ?_
   ·refine ⟨_,rfl,a,_,rfl,.inl (SqL.of ha),_,rfl,by omega,by rw [List.length_map]; omega,?_⟩
    have eL:(((ws.map nV).length:Nat):Int).toNat=ws.length:=by simp
    rw [eL]
    refine Yy (n:=ws.length) (fun i σ H5=>∃ v3 v4,σ=[some (.ref m),some (.ref a),v2,v3,v4]∧H5=H4) ⟨_,_,rfl,rfl⟩ ?_ ?_
    ·rintro i σ H5 hi ⟨v3,v4,rfl,rfl⟩
     obtain ⟨pi,hpi,hpn,hat⟩:=Zlt hi
     have hq:=List.getElem?_eq_getElem hi
     have hp':=List.getElem?_eq_getElem hpi
     obtain ⟨sd,hsd⟩:=hP.has _ (List.mem_of_getElem? hp')
     obtain ⟨f1,f2⟩:=hP.nxt pi _ _ hp' (by rw [hpn]; exact hq) sd hsd
     have hix:atI (ws.map nV) (0 + (i:Int))=some (nV ws[i]):=by rw [Int.zero_add]; exact Z0 hq
     have hat:=hat _ hp'
     generalize ws[i]=q at hix f1 f2
     generalize ws[pi]=pv at hat hsd
     dsimp only [Zn]
     refine Zv fun nxC hnxC=>?_
     refine ⟨_,rfl,_,rfl,_,rfl,_,_,rfl,rfl,a,_,_,_,rfl,rfl,SqL.of ha,hat,m,_,_,_,rfl,rfl,SqL.of hm,Z0 hsd,?_⟩
     refine hnxC _ _ ?_
     refine ⟨_,rfl,_,_,rfl,rfl,⟨by decide,by decide⟩,_,rfl,_,rfl,a,_,_,_,rfl,rfl,SqL.of ha,hix,_,_,rfl,rfl,⟨by decide,by decide⟩,rfl,_,rfl,?_⟩
     rw [show (!decide ((fun i j=>V.int (i / j)) (sd:Int) 3=(fun i j=>V.int (i / j)) (q:Int) 3))=false from by
      rw [Bool.not_eq_false']
      exact decide_eq_true (show V.int _=V.int _ by congr 1; omega)]
     refine iteF ⟨_,rfl,_,rfl,_,rfl,a,_,_,_,rfl,rfl,SqL.of ha,hix,rfl,_,rfl,?_⟩
     rw [show decide (mV (some sd)=nV q)=false from decide_eq_false (fun y=>f2 (by injection y with y; omega))]
     exact iteF ⟨_,_,rfl,rfl⟩
    ·rintro σ H5 ⟨v3,v4,rfl,rfl⟩
     exact hnx _ _ rfl
   ·rintro σ H5 rfl
    exact k
end
end KT
set_option maxHeartbeats 4000000
namespace KT
open PySem L2
theorem Zly (ws:List Nat) (b:Nat):rot (wI ws) b=wI (rot ws b):=by
 unfold rot wI; rw [List.map_append,List.map_drop,List.map_take]
theorem Zdg {α:Type} {ws:List α} {s b:Nat} (hs:s < ws.length) (hb:b < ws.length):rot (rot ws s) b=rot ws ((s + b) % ws.length):=by
 have hn:0 < ws.length:=by omega
 have hl:=Xx ws (Nat.le_of_lt hs)
 apply List.ext_getElem?
 intro k
 by_cases hk:k < ws.length
 ·rw [Jn (by rw [hl]; exact hb) (by rw [hl]; exact hk),hl,Jn hs (Nat.mod_lt _ hn),Jn (Nat.mod_lt _ hn) hk]
  congr 1
  rw [Nat.mod_add_mod,Nat.add_mod_mod]
  congr 1
  omega
 ·rw [List.getElem?_eq_none (by rw [Xx _ (by rw [hl]; omega),hl]; omega),List.getElem?_eq_none (by rw [Xx _ (Nat.le_of_lt (Nat.mod_lt _ hn))]; omega)]
theorem Zkl {α:Type} (ws:List α):rot ws ws.length=ws:=by unfold rot; simp
theorem F5 (M:List (Option Nat)) (xs ys:List Nat):Y7 M (xs ++ ys)=Y7 M ys ++ Y7 M xs:=by unfold Y7; rw [List.reverse_append,List.map_append]
theorem Zhf {M:List (Option Nat)} {ws:List Nat} {s:Nat} (hs:s≤ws.length):Y7 M (rot ws s)=rot (Y7 M ws) (ws.length - s):=by
 have e:Y7 M ws=Y7 M (ws.drop s) ++ Y7 M (ws.take s):=by rw [← F5,List.take_append_drop]
 have l:(Y7 M (ws.drop s)).length=ws.length - s:=by rw [Xf,List.length_drop]
 unfold rot
 rw [F5,e,List.drop_left' l,List.take_left' l]
noncomputable def Vr (M:List (Option Nat)) (ws:List Nat) (x:List Int):Prop:=∃ b,b < ws.length∧(x=wI (rot ws b)∨x=wI (rot (Y7 M ws) b))
theorem Zb5 {ws:List Nat} {s:Nat} (hs:s≤ws.length) (hn:0 < ws.length):(∀ b,b < ws.length→∃ c,c < ws.length∧rot (rot ws s) b=rot ws c)∧∀ c,c < ws.length→∃ b,b < ws.length∧rot ws c=rot (rot ws s) b:=by
 by_cases z:s=ws.length
 ·subst z
  rw [Zkl]
  exact ⟨fun b h=>⟨b,h,rfl⟩,fun b h=>⟨b,h,rfl⟩⟩
 have hs:s < ws.length:=by omega
 refine ⟨fun b h=>⟨_,Nat.mod_lt _ hn,Zdg hs h⟩,fun c h=>?_⟩
 refine ⟨(c + (ws.length - s)) % ws.length,Nat.mod_lt _ hn,?_⟩
 rw [Zdg hs (Nat.mod_lt _ hn),Nat.add_mod_mod,show s + (c + (ws.length - s))=c + ws.length by omega,Nat.add_mod_right,Nat.mod_eq_of_lt h]
theorem Zfc {M:List (Option Nat)} {ws:List Nat} {s:Nat} (hs:s≤ws.length) (hn:0 < ws.length) (x:List Int):Vr M (rot ws s) x ↔ Vr M ws x:=by
 unfold Vr
 rw [Xx ws hs,Zhf hs]
 obtain ⟨f1,f2⟩:=Zb5 hs hn
 obtain ⟨g1,g2⟩:=Zb5 (ws:=Y7 M ws) (s:=ws.length - s) (by rw [Xf]; omega) (by rw [Xf]; omega)
 rw [Xf] at g1 g2
 constructor
 ·rintro ⟨b,h,rfl | rfl⟩
  ·obtain ⟨c,hc,e⟩:=f1 b h
   exact ⟨c,hc,.inl (by rw [e])⟩
  ·obtain ⟨c,hc,e⟩:=g1 b h
   exact ⟨c,hc,.inr (by rw [e])⟩
 ·rintro ⟨b,h,rfl | rfl⟩
  ·obtain ⟨c,hc,e⟩:=f2 b h
   exact ⟨c,hc,.inl (by rw [e])⟩
  ·obtain ⟨c,hc,e⟩:=g2 b h
   exact ⟨c,hc,.inr (by rw [e])⟩
end KT
set_option maxHeartbeats 4000000
namespace KT
open PySem L2
noncomputable def Zeg:Sp:=fun vs H Q _=>∃ (m a:Addr) (M:List (Option Nat)) (ws:List Nat),vs=[.ref m,.ref a]∧H m=some (.lst (M.map mV))∧H a=some (.lst (ws.map nV))∧ws.length≤10000∧Pl M ws∧∀ (l:Addr) (L:List Int) (H':Hp),Same H H'→H l=none→H' l=some (.lst (L.map V.int))→HT.IsLeast (Vr M ws) L→Q (.ref l) H'
theorem IsLeast.iff {S T:List Int→Prop} {a:List Int} (h:HT.IsLeast S a) (e:∀ x,S x ↔ T x):HT.IsLeast T a:=⟨(e a).mp h.1,fun b hb=>h.2 b ((e b).mpr hb)⟩
theorem Zhj (M:List (Option Nat)) (ws:List Nat) (x:List Int):((∃ b,b < ws.length∧x=wI (rot ws b))∨∃ b,b < (Y7 M ws).length∧x=wI (rot (Y7 M ws) b)) ↔ Vr M ws x:=by
 rw [Xf]
 constructor
 ·rintro (⟨b,h,e⟩ | ⟨b,h,e⟩)
  ·exact ⟨b,h,.inl e⟩
  ·exact ⟨b,h,.inr e⟩
 ·rintro ⟨b,h,e | e⟩
  ·exact .inl ⟨b,h,e⟩
  ·exact .inr ⟨b,h,e⟩
theorem Zjp {ws:List Nat}:ws.map nV=(wI ws).map V.int:=K0 ws
end KT
set_option maxHeartbeats 4000000
namespace KT
open PySem L2
theorem Zd5 {ws:List Nat} {s:Nat}:((wI ws).drop s).map V.int ++ ((wI ws).take s).map V.int=(wI (rot ws s)).map V.int:=by
 rw [← Zly]; unfold rot; rw [List.map_append]
theorem Zdh {ts:List Addr} {L:List Int} {j:Nat} (hj:j < ts.length) (h:ts.map V.ref=L.map V.int):False:=by
 cases ts with
 | nil=>simp at hj
 | cons c ct =>
  cases L with
  | nil=>cases h
  | cons d dt=>rw [List.map_cons,List.map_cons] at h; injection h with h _; cases h
noncomputable def Jj (H0 H:Hp) (D:Addr) (f:Nat→List Int) (n:Nat):Prop:=∃ ts:List Addr,H D=some (.lst (ts.map V.ref))∧ts.length=n∧∀ (j:Nat) (b:Addr),ts[j]?=some b→H b=some (.lst ((f j).map V.int))∧H0 b=none
theorem Jj.same {H0 H H':Hp} {D:Addr} {f:Nat→List Int} {n:Nat} (h:Jj H0 H D f n) (s:Same H H'):Jj H0 H' D f n:=by
 obtain ⟨ts,h1,h2,h3⟩:=h
 exact ⟨ts,s _ _ h1,h2,fun j b e=>⟨s _ _ (h3 j b e).1,(h3 j b e).2⟩⟩
theorem Jj.snoc {H0 H:Hp} {D q:Addr} {f:Nat→List Int} {n:Nat} {ts:List Addr} (h1:H D=some (.lst (ts.map V.ref))) (h2:ts.length=n) (h3:∀ (j:Nat) (b:Addr),ts[j]?=some b→H b=some (.lst ((f j).map V.int))∧H0 b=none)
  (hq:H q=some (.lst ((f n).map V.int))) (hq0:H0 q=none) (hD:∀ b,(b=q∨b∈ts)→b≠D):Jj H0 (upd H D (.lst (ts.map V.ref ++ [V.ref q]))) D f (n + 1):=by
 refine ⟨ts ++ [q],by rw [Zb,List.map_append]; rfl,by rw [List.length_append,List.length_singleton,h2],fun j b e=>?_⟩
 have mem:b=q∨b∈ts:=by
  have:=List.mem_of_getElem? e
  rcases List.mem_append.mp this with z | z
  ·exact .inr z
  ·exact .inl (List.mem_singleton.mp z)
 rw [Zf (hD b mem)]
 by_cases c:j < ts.length
 ·rw [List.getElem?_append_left c] at e
  exact h3 j b e
 ·have hj:=(List.getElem?_eq_some_iff.mp e).1
  rw [List.length_append,List.length_singleton] at hj
  have:j=ts.length:=by omega
  subst this
  have:b=q:=by simpa using e.symm
  subst this
  rw [h2]
  exact ⟨hq,hq0⟩
theorem Zfy {as bs:List Addr} {f g:Nat→List Int} {Pr:Addr→List Int→Prop} (h1:∀ (j:Nat) (b:Addr),as[j]?=some b→Pr b (f j)) (h2:∀ (j:Nat) (b:Addr),bs[j]?=some b→Pr b (g j)) :
  ∀ (j:Nat) (b:Addr),(as ++ bs)[j]?=some b→Pr b (if j < as.length then f j else g (j - as.length)):=fun j b e=>by
 by_cases c:j < as.length
 ·rw [List.getElem?_append_left c] at e
  rw [if_pos c]
  exact h1 j b e
 ·rw [List.getElem?_append_right (by omega)] at e
  rw [if_neg c]
  exact h2 _ b e
section
variable {P:Program} {w:World} {K:PySem.W.Frag} {mg:Str→Option Value} {base:Heap} {t:Adr}
theorem Vt:FnScope ["_law_mates","_law_word","_law_back","_law_rows_here"] ["_law_mates","_law_word"] (Zj G7):=⟨rfl,rfl,rfl,by decide +kernel,rfl,by decide +kernel,by decide +kernel⟩
theorem Kx (T:Txt w K mg t):FnOk P w K mg base (CXr P w) 1 t.f_l_least t.d_l_least ["_law_mates","_law_word"] Zeg:=by
  refine T.p_l_least.F.aR Vt (fun cdv A outer s H vs Q E hr h=>?_)
  · obtain ⟨m,a,M,ws,rfl,hm,ha,hl,hP,k⟩:=h
    have hw0:0 < ws.length:=by have:=hP.ne; cases ws with | nil=>exact absurd rfl this | cons _ _=>simp
    refine ⟨_,(Ze (Zq (i:=2) Vt.nd rfl (Or.inr rfl) (Y0 (ts:=["_law_p"]) (fv:=[("_law_mates",0)]) ⟨rfl,by decide +kernel,by decide +kernel,Yh (by rfl),⟨⟨rfl,rfl,Or.inl rfl⟩,trivial⟩⟩ rfl (Zmn rfl T.n_reversed (Za (pv 1) Zc)) (fun _ _ _ _=>(Zl (i:=0) (show List.Nodup (["_law_p","_law_mates"]:List Str) from by decide +kernel) rfl (Or.inl rfl) (Or.inr rfl))) (fun _ _ _ _=>Y1) (fun _ _ _=>rfl) (fun _ _ _ _ _ _=>Yj (Zp (Yw K) (pv 1) (pv 0) (fun _ _=>rfl)))))
      (Ze (Xs (ts:=["_law_k"]) (fv:=[("_law_word",1)]) (i:=3) ⟨rfl,by decide +kernel,by decide +kernel,Yh (by rfl),⟨⟨rfl,rfl,Or.inl rfl⟩,trivial⟩⟩ rfl Vt.nd rfl rfl (by rfl) (Z7 rfl T.n_range (Za (Zm Zh (by rfl) T.n_len PySem.boot_len (Za (pv 1) Zc)) Zc)) (fun _ _ _ _=>(Zl (i:=0) (show List.Nodup (["_law_k","_law_word"]:List Str) from by decide +kernel) rfl (Or.inl rfl) (Or.inr rfl))) (fun _ _ _ _=>Y1) (fun _ _ _=>rfl) (fun _ _ _ _ _ _=>Yj (Zi Kv (Wa (Qo K) (pv 1) (X0 (pv 0)) Jp) (Wa (Qo K) (pv 1) Jp (X0 (pv 0))))))
      (Zg (Zo (Zm (Ze4 rfl hr.units) (by rfl) T.n_min PyProof.Rows.boot_min (Za (Zi Kv (pv 3) (Y0 (ts:=["_law_k"]) (fv:=[("_law_back",2)]) ⟨rfl,by decide +kernel,by decide +kernel,Yh (by rfl),⟨⟨rfl,rfl,Or.inl rfl⟩,trivial⟩⟩ rfl (Z7 rfl T.n_range (Za (Zm Zh (by rfl) T.n_len PySem.boot_len (Za (pv 2) Zc)) Zc)) (fun _ _ _ _=>(Zl (i:=0) (show List.Nodup (["_law_k","_law_back"]:List Str) from by decide +kernel) rfl (Or.inl rfl) (Or.inr rfl))) (fun _ _ _ _=>Y1) (fun _ _ _=>rfl) (fun _ _ _ _ _ _=>Yj (Zi Kv (Wa (Qo K) (pv 1) (X0 (pv 0)) Jp) (Wa (Qo K) (pv 1) Jp (X0 (pv 0))))))) Zc)))))),?_⟩
    refine Zv fun nxC hnxC=>?_
    refine ⟨_,rfl,a,_,rfl,SqL.of ha,fun D hD=>?_⟩
    refine Ziu (xs:=ws.map nV) (fun i σ H2=>∃ v,σ=[v,some (.ref m)]∧Same H H2∧H2 D=some (.lst (((Y7 M ws).take i).map nV))) ⟨none,rfl,Same.new hD,Zb⟩ ?_ ?_ ?_
    · rintro i σ H2 _ ⟨v,rfl,sm,h2⟩
      exact SqL.of (sm _ _ ha)
    · rintro i x σ H2 hx ⟨v,rfl,sm,h2⟩
      obtain ⟨q,hq,rfl⟩:∃ q,ws.reverse[i]?=some q∧x=nV q:=by
        rw [← List.map_reverse,List.getElem?_map] at hx
        cases e:ws.reverse[i]? with
        | none=>rw [e] at hx; cases hx
        | some y=>rw [e] at hx; cases hx; exact ⟨y,rfl,rfl⟩
      obtain ⟨mt,hmt⟩:=hP.has q (List.mem_reverse.mp (List.mem_of_getElem? hq))
      dsimp only [Zn,tYes]
      rw [if_pos rfl]
      refine ⟨_,rfl,_,rfl,m,_,_,_,rfl,rfl,SqL.of (sm _ _ hm),Z0 hmt,?_⟩
      refine ⟨_,h2,?_,_,rfl,Same.add sm hD,?_⟩
      · rw [List.length_map,List.length_take,Xf]; exact X9 (by omega)
      · rw [Zb,List.take_add_one,Zhg hq hmt,List.map_append]; rfl
    rintro σ H1 ⟨v,rfl,s1,h1⟩
    rw [List.length_map,List.take_of_length_le (by rw [Xf]; exact Nat.le_refl _)] at h1
    refine hnxC _ _ ?_
    dsimp only [Zn]
    refine Zv fun nxC hnxC=>?_
    refine ⟨_,rfl,a,_,rfl,.inl (SqL.of (s1 _ _ ha)),_,rfl,by rw [List.length_map]; omega,by rw [List.length_map]; omega,fun D2 hD2=>?_⟩
    show Wx (Itr 0 ((((ws.map nV).length:Nat):Int)).toNat) _ _ _ _ _ _
    rw [List.length_map,Int.toNat_natCast]
    refine Xq (fun i σ H2=>∃ v,σ=[v,some (.ref a)]∧Same H1 H2∧Jj H1 H2 D2 (fun j=>wI (rot ws j)) i) ⟨none,rfl,Same.new hD2,[],Zb,rfl,fun j b e=>by simp at e⟩ ?_ ?_
    · rintro i σ H2 hi ⟨v,rfl,s2,ts,g1,g2,g3⟩
      dsimp only [Zn,tYes]
      rw [if_pos rfl,Int.zero_add]
      have ha2:H2 a=some (.lst ((wI ws).map V.int)):=by rw [s2 _ _ (s1 _ _ ha),Zjp]
      refine ⟨_,rfl,_,rfl,_,rfl,a,_,rfl,SqL.of ha2,fun l1 e1=>?_⟩
      rw [O7 (by rw [Wy]; omega)]
      have t1:Same H2 (upd H2 l1 (.lst (((wI ws).drop i).map V.int))):=Same.new e1
      refine ⟨_,rfl,_,rfl,_,rfl,a,_,rfl,SqL.of (t1 _ _ ha2),fun l2 e2=>?_⟩
      rw [Zce (by rw [Wy]; omega)]
      obtain ⟨ne2,e2'⟩:=Wj e2
      refine ⟨l1,l2,_,_,rfl,rfl,by rw [Zf (Ne.symm ne2),Zb],Zb,?_,fun l3 e3=>?_⟩
      · rw [List.length_map,List.length_map,List.length_drop,List.length_take,Wy]; exact X9 (by omega)
      rw [Zd5]
      have t2:=Same.add (o:=.lst (((wI ws).take i).map V.int)) t1 e2'
      have e3':=t2.free e3
      have t3:=Same.add (o:=.lst ((wI (rot ws i)).map V.int)) t2 e3'
      have h3:(upd (upd (upd H2 l1 (.lst (((wI ws).drop i).map V.int))) l2 (.lst (((wI ws).take i).map V.int))) l3 (.lst ((wI (rot ws i)).map V.int))) l3=some (.lst ((wI (rot ws i)).map V.int)):=Zb
      generalize upd (upd (upd H2 l1 (.lst (((wI ws).drop i).map V.int))) l2 (.lst (((wI ws).take i).map V.int))) l3 (.lst ((wI (rot ws i)).map V.int))=H3 at t3 h3 ⊢
      refine ⟨_,t3 _ _ g1,(by rw [List.length_map,g2]; exact X9 (by omega)),_,rfl,Same.add (s2.trans t3) hD2,?_⟩
      refine Jj.snoc (t3 _ _ g1) g2 (fun j b e=>⟨t3 _ _ (g3 j b e).1,(g3 j b e).2⟩) h3 (s2.free e3') fun b hb z=>?_
      subst z
      rcases hb with rfl | hb
      · rw [g1] at e3'; cases e3'
      · obtain ⟨j,hj,e⟩:=List.mem_iff_getElem.mp hb
        have q3:=(g3 j b (by rw [List.getElem?_eq_getElem hj,e])).1
        rw [g1] at q3
        injection q3 with q3
        injection q3 with q3
        exact Zdh hj q3
    rintro σ H2 ⟨v,rfl,s2,R1⟩
    refine hnxC _ _ ?_
    have h1':=s2 _ _ h1
    refine ⟨_,rfl,_,rfl,D,_,rfl,.inl (SqL.of h1'),_,rfl,by rw [List.length_map,Xf]; omega,by rw [List.length_map,Xf]; omega,fun D3 hD3=>?_⟩
    show Wx (Itr 0 (((((Y7 M ws).map nV).length:Nat):Int)).toNat) _ _ _ _ _ _
    rw [List.length_map,Int.toNat_natCast]
    have hbl:=Xf M ws
    have hset:=Zhj M ws
    generalize Y7 M ws=bk at h1' hbl hset ⊢
    refine Xq (fun i σ H3=>∃ v,σ=[v,some (.ref D)]∧Same H2 H3∧Jj H2 H3 D3 (fun j=>wI (rot bk j)) i) ⟨none,rfl,Same.new hD3,[],Zb,rfl,fun j b e=>by simp at e⟩ ?_ ?_
    · rintro i σ H3 hi ⟨v,rfl,s3,ts,g1,g2,g3⟩
      dsimp only [Zn,tYes]
      rw [if_pos rfl,Int.zero_add]
      have ha3:H3 D=some (.lst ((wI bk).map V.int)):=by rw [s3 _ _ h1',Zjp]
      refine ⟨_,rfl,_,rfl,_,rfl,D,_,rfl,SqL.of ha3,fun l1 e1=>?_⟩
      rw [O7 (by rw [Wy]; omega)]
      have t1:Same H3 (upd H3 l1 (.lst (((wI bk).drop i).map V.int))):=Same.new e1
      refine ⟨_,rfl,_,rfl,_,rfl,D,_,rfl,SqL.of (t1 _ _ ha3),fun l2 e2=>?_⟩
      rw [Zce (by rw [Wy]; omega)]
      obtain ⟨ne2,e2'⟩:=Wj e2
      refine ⟨l1,l2,_,_,rfl,rfl,by rw [Zf (Ne.symm ne2),Zb],Zb,?_,fun l3 e3=>?_⟩
      · rw [List.length_map,List.length_map,List.length_drop,List.length_take,Wy]; exact X9 (by omega)
      rw [Zd5]
      have t2:=Same.add (o:=.lst (((wI bk).take i).map V.int)) t1 e2'
      have e3':=t2.free e3
      have t3:=Same.add (o:=.lst ((wI (rot bk i)).map V.int)) t2 e3'
      have h3:(upd (upd (upd H3 l1 (.lst (((wI bk).drop i).map V.int))) l2 (.lst (((wI bk).take i).map V.int))) l3 (.lst ((wI (rot bk i)).map V.int))) l3=some (.lst ((wI (rot bk i)).map V.int)):=Zb
      generalize upd (upd (upd H3 l1 (.lst (((wI bk).drop i).map V.int))) l2 (.lst (((wI bk).take i).map V.int))) l3 (.lst ((wI (rot bk i)).map V.int))=H4 at t3 h3 ⊢
      refine ⟨_,t3 _ _ g1,(by rw [List.length_map,g2]; exact X9 (by omega)),_,rfl,Same.add (s3.trans t3) hD3,?_⟩
      refine Jj.snoc (t3 _ _ g1) g2 (fun j b e=>⟨t3 _ _ (g3 j b e).1,(g3 j b e).2⟩) h3 (s3.free e3') fun b hb z=>?_
      subst z
      rcases hb with rfl | hb
      · rw [g1] at e3'; cases e3'
      · obtain ⟨j,hj,e⟩:=List.mem_iff_getElem.mp hb
        have q3:=(g3 j b (by rw [List.getElem?_eq_getElem hj,e])).1
        rw [g1] at q3
        injection q3 with q3
        injection q3 with q3
        exact Zdh hj q3
    rintro σ H3 ⟨v,rfl,s3,R2⟩
    obtain ⟨as,p1,p2,p3⟩:=R1.same s3
    obtain ⟨bs,q1,q2,q3⟩:=R2
    refine ⟨D2,D3,_,_,rfl,rfl,p1,q1,?_,fun l hl4=>?_⟩
    · rw [List.length_map,List.length_map,p2,q2]; exact X9 (by omega)
    rw [← List.map_append]
    have s4:Same H3 (upd H3 l (.lst ((as ++ bs).map V.ref))):=Same.new hl4
    have h4:(upd H3 l (.lst ((as ++ bs).map V.ref))) l=some (.lst ((as ++ bs).map V.ref)):=Zb
    generalize upd H3 l (.lst ((as ++ bs).map V.ref))=H4 at s4 h4 ⊢
    have s03:=s1.trans (s2.trans s3)
    have all:=Zfy (as:=as) (bs:=bs) (f:=fun j=>wI (rot ws j)) (g:=fun j=>wI (rot bk j)) (Pr:=fun b L=>H4 b=some (.lst (L.map V.int))∧H b=none) (fun j b e=>⟨s4 _ _ (p3 j b e).1,s1.free (p3 j b e).2⟩) (fun j b e=>⟨s4 _ _ (q3 j b e).1,s1.free (s2.free (q3 j b e).2)⟩)
    rw [p2] at all
    refine ⟨l,as ++ bs,_,rfl,SqL.of h4,fun i b e=>SqL.of (all i b e).1,by rw [List.length_append,p2]; omega,fun b e=>?_⟩
    have hb:=all _ b e
    refine k b _ H4 (s03.trans s4) hb.2 hb.1 (IsLeast.iff (S:=fun x=>∃ i,i < ws.length + bk.length∧x=if i < ws.length then wI (rot ws i) else wI (rot bk (i - ws.length))) ⟨?_,?_⟩ fun x=>?_)
    · have hi:=(List.getElem?_eq_some_iff.mp e).1
      have e2:(as ++ bs).length=ws.length + bk.length:=by rw [List.length_append,p2,q2]
      exact ⟨_,Nat.lt_of_lt_of_eq hi e2,rfl⟩
    · rintro c ⟨i,hi,rfl⟩
      have:=HT.best_le (fun i=>if i < ws.length then wI (rot ws i) else wI (rot bk (i - ws.length))) ((as ++ bs).length - 1) i (by rw [List.length_append,p2,q2]; omega)
      exact this
    · rw [← hset x]
      constructor
      · rintro ⟨i,hi,e⟩
        by_cases c:i < ws.length
        · rw [if_pos c] at e; exact .inl ⟨i,c,e⟩
        · rw [if_neg c] at e; exact .inr ⟨i - ws.length,by omega,e⟩
      · rintro (⟨i,hi,e⟩ | ⟨i,hi,e⟩)
        · exact ⟨i,by omega,by rw [if_pos hi]; exact e⟩
        · exact ⟨ws.length + i,by omega,by rw [if_neg (by omega),Nat.add_sub_cancel_left]; exact e⟩
end
end KT
set_option maxHeartbeats 4000000
namespace KT
open PySem L2
theorem Zi8 (l:List Nat):(l.map nV).all Qh=true:=by rw [List.all_eq_true]; intro v hv; obtain ⟨x,_,rfl⟩:=List.mem_map.mp hv; rfl
theorem Zdz {x y:Nat}:eqV (nV y) (nV x)=decide (y=x):=by
 show decide ((y:Int)=(x:Int))=_
 by_cases z:y=x
 ·subst z; simp
 ·rw [decide_eq_false z,decide_eq_false (by omega)]
theorem Zle {x:Nat} {l:List Nat}:inV (nV x) (l.map nV)=decide (x∈l):=by
 unfold inV
 rw [List.any_map,Bool.eq_iff_iff,List.any_eq_true,decide_eq_true_eq]
 constructor
 ·rintro ⟨y,hy,e⟩
  have e:eqV (nV y) (nV x)=true:=e
  rw [Zdz,decide_eq_true_eq] at e
  rw [← e]; exact hy
 ·intro h
  refine ⟨x,h,?_⟩
  show eqV (nV x) (nV x)=true
  rw [Zdz,decide_eq_true rfl]
theorem dN {a b:Nat}:decide (V.int (a:Int)=V.int (b:Int))=decide (a=b):=by
 by_cases z:a=b
 ·subst z; simp
 ·rw [decide_eq_false z,decide_eq_false (fun y=>z (by injection y with y; omega))]
theorem dN3 {a b:Nat}:decide (V.int ((a:Int) / 3)=V.int ((b:Int) / 3))=decide (a / 3=b / 3):=by
 rw [div3,div3]; exact dN
theorem Zh4 (ks:List Nat):(rot ks (1 % ks.length)).length=ks.length:=by
 by_cases z:ks.length=0
 ·have:ks=[]:=List.length_eq_zero_iff.mp z
  subst this; rfl
 ·exact Xx _ (Nat.le_of_lt (Nat.mod_lt _ (by omega)))
theorem Zng (ks:List Nat):(Q0 (wI ks) 1).map V.int=(rot ks (1 % ks.length)).map nV:=by
 rw [K0]
 congr 1
 unfold Q0
 rw [Wy,show (1 % (ks.length:Int)).toNat=1 % ks.length by
  rw [show (1:Int)=((1:Nat):Int) from rfl,← Int.natCast_emod,Int.toNat_natCast]]
 unfold rot wI
 rw [List.map_append,List.map_drop,List.map_take]
theorem Gi {left:Bool} {a b z:Nat}:(valV (glV left a b) (Sum.inl (z:Int))).getD (nV z)=nV (mvN left a b z):=by
 rw [show nV z=V.int (z:Int) from rfl,Zlz,← Wn]; rfl
theorem Zjy {left:Bool} {a b z:Nat}:(valV (glV left a b) (Sum.inl (z:Int))).getD (mV (some z))=nV (mvN left a b z):=Gi
theorem Ziy {a b q:Nat}:(!decide (q∈[a,b]))=Zw a b q:=by
 unfold Zw
 by_cases h1:q=a
 ·subst h1; simp
 ·by_cases h2:q=b
  ·subst h2; simp
  ·simp [h1,h2]
noncomputable def Zhx:Sp:=fun vs H Q _=>∃ (o:Addr) (a b e f:Nat),vs=[.ref o,.int e,.int f]∧H o=some (.lst ([a,b].map nV))∧∀ (l:Addr) (H':Hp),Same H H'→H' l=some (.lst ((Wc a b e f).map nV))→Q (.ref l) H'
noncomputable def Zfm (C:Addr):Sp:=fun vs H Q _=>∃ (p wd:Addr) (M:List (Option Nat)) (ns:List Int) (x:Int) (left:Bool) (a b:Nat) (ws:List Nat),vs=[.ref p,.int x,.str (wayS left),.ref wd]∧Ye C H p M ns∧TD M ns∧x∈keys ns ns.length∧pl ns ns.length x=[a,b]∧a / 3≠b / 3∧H wd=some (.lst (ws.map nV))∧ws.length≤1000∧Pl M ws ∧
 ∀ (l:Addr) (H':Hp),Same H H'→H l=none→H' l=some (.lst ((Yb M left a b (Yn (Yi a b ws))).map nV))→Q (.ref l) H'
section
variable {P:Program} {w:World} {K:PySem.W.Frag} {mg:Str→Option Value} {base:Heap} {t:Adr}
theorem Ue:FnScope ["own","entry","leaving"] ["own","entry","leaving"] (Zj J2):=⟨rfl,rfl,rfl,by decide +kernel,rfl,by decide +kernel,by decide +kernel⟩
theorem Uf (T:Txt w K mg t):FnOk P w K mg base (CXr P w) 2 t.f_crossing_between t.d_crossing_between ["own","entry","leaving"] Zhx:=by
 refine T.p_crossing_between.F.aR Ue (fun cdv A outer s H vs Q E hr h=>?_)
 ·obtain ⟨o,a,b,e,f,rfl,ho,k⟩:=h
  refine ⟨_,(Ze (Z8 (Zt Yv (pcT (Xe T) hr T.p_cloth_of (Za (pv 1) Zc)) (pcT (Xe T) hr T.p_cloth_of (Za (pv 2) Zc)) (Zu _)) (Zg (Zo (Y4 Zc))) Zy)
   (Zg (Zo (Y0 (ts:=["place"]) (fv:=[("entry",1)]) ⟨rfl,by decide +kernel,by decide +kernel,Yh (by rfl),⟨⟨rfl,rfl,Or.inl rfl⟩,trivial⟩⟩ rfl (Yt (pv 0)) (fun _ _ _ _=>(Zl (i:=0) (show List.Nodup (["place","entry"]:List Str) from by decide +kernel) rfl (Or.inl rfl) (Or.inr rfl))) (fun _ _ _ _=>(Jc (Zt Yv (pcT (Xe T) hr T.p_cloth_of (Za (pv 0) Zc)) (pcT (Xe T) hr T.p_cloth_of (Za (pv 1) Zc)) (Zu _)))) (fun _ _ _=>rfl) (fun _ _ _ _ _ _=>Yj (pv 0)))))),?_⟩
  refine ⟨_,rfl,_,rfl,_,rfl,_,rfl,rfl,_,rfl,?_⟩
  rw [dN3]
  unfold Wc at k
  by_cases z:e / 3=f / 3
  ·rw [if_pos z] at k
   rw [decide_eq_true z]
   exact iteT ⟨Nat.zero_le _,fun l hl=>k l _ (Same.new hl) Zb⟩
  ·rw [if_neg z] at k
   rw [decide_eq_false z]
   refine iteF ?_
   dsimp only [X8]
   refine ⟨_,rfl,o,rfl,⟨_,SqL.of ho⟩,fun D hD=>?_⟩
   refine Y9 (xs:=[a,b].map nV) (fun i σ H1=>∃ v,σ=[v,some (.int e)]∧Same H H1∧H1 D=some (.lst ((([a,b].take i).filter fun q=>decide (q / 3=e / 3)).map nV))) ⟨none,rfl,Same.new hD,Zb⟩ ?_ ?_ ?_
   ·rintro i σ H1 _ ⟨v,rfl,sm,h1⟩
    exact SqL.of (sm _ _ ho)
   ·rintro i y σ H1 hy ⟨v,rfl,sm,h1⟩
    obtain ⟨q,hq,rfl⟩:=map_some hy
    have hi:i < 2:=(List.getElem?_eq_some_iff.mp hq).1
    have lt:((([a,b].take i).filter fun q=>decide (q / 3=e / 3)).map nV).length < sizeLine:=by
     rw [List.length_map]
     have h1:=List.length_filter_le (fun q=>decide (q / 3=e / 3)) ([a,b].take i)
     rw [List.length_take] at h1
     exact Zx (by omega)
    dsimp only [Zn]
    refine ⟨_,rfl,_,rfl,_,rfl,_,rfl,rfl,_,rfl,?_⟩
    show if decide (V.int ((q:Int) / 3)=V.int ((e:Int) / 3))=true then _ else _
    rw [dN3]
    by_cases c:q / 3=e / 3
    ·rw [decide_eq_true c]
     refine iteT ⟨_,rfl,_,h1,lt,_,rfl,Same.add sm hD,?_⟩
     rw [Zb,Jx hq,if_pos (decide_eq_true c),List.map_append]; rfl
    ·rw [decide_eq_false c]
     refine iteF ⟨_,rfl,sm,?_⟩
     rw [h1,Jx hq,if_neg (by rw [decide_eq_false c]; decide)]
   rintro σ H1 ⟨v,rfl,sm,h1⟩
   exact k D H1 sm h1
theorem X5:FnScope ["tent","seam","way","word","goals","own","kept","told","ahead","following","entry"] ["tent","seam","way","word"] (Zj Za3):=⟨rfl,rfl,rfl,by decide +kernel,rfl,by decide +kernel,by decide +kernel⟩
theorem Zgc (T:Txt w K mg t):FnOk P w K mg base (CXr P w) 7 t.f_pulled t.d_pulled ["tent","seam","way","word"] (Zfm t.C_Tent):=by
  refine T.p_pulled.F.aX X5 (fun cdv A outer s H vs Q E hr h=>?_)
  · obtain ⟨p,wd,M,ns,x,left,a,b,ws,rfl,ta,td,hk,hpl,hab,hw,hwl,hP,k⟩:=h
    have hu:=Zab hr
    have hMl:M.length=ns.length:=td.len.symm
    refine ⟨_,(Z3 (U4 (i:=4) X5.nd rfl (Or.inl rfl) (pxT (Fg T) hr T.p_shifts (Za (pv 0) (Za (pv 1) (Za (pv 2) Zc)))))
      (Z3 (Qr (pxT (Vl T) hr T.p_look_thread (Za (pv 0) (Za (pv 3) Zc))))
      (Z3 (Y3 (Zq (i:=5) X5.nd rfl (Or.inr rfl) (Je (pv 0) T.cl_Tent T.p_Tent_places.m (Js T) (hr.mono (by decide)) T.p_Tent_places.b .nil Wh (Za (pv 1) Zc))))
      (Z3 (Y3 (Xs (ts:=["place"]) (fv:=[("own",5)]) (i:=6) ⟨rfl,by decide +kernel,by decide +kernel,Yh (by rfl),⟨⟨rfl,rfl,Or.inl rfl⟩,trivial⟩⟩ rfl X5.nd rfl rfl (by rfl) (Yt (pv 3)) (fun _ _ _ _=>(Zl (i:=0) (show List.Nodup (["place","own"]:List Str) from by decide +kernel) rfl (Or.inl rfl) (Or.inr rfl))) (fun _ _ _ _=>(Jc (Zt (F8 K) (pv 0) (pv 1) (by with_unfolding_all rfl)))) (fun _ _ _=>rfl) (fun _ _ _ _ _ _=>Yj (pv 0))))
      (Z3 (Y3 (Zq (i:=7) X5.nd rfl (Or.inl rfl) (Y4 Zc)))
      (Z3 (Y3 (Yg PassesOwn.never rfl (Zf3 rfl T.n_zip (Za (pv 6) (Za (pcT (Ff T) hr T.p_turned (Za (pv 6) (Za Zd Zc))) Zc))) (W0 rfl (Z2 (Zl (i:=8) X5.nd rfl (Or.inl rfl)) (Z2 (Zl (i:=9) X5.nd rfl (Or.inl rfl)) X1))) (Ze (Zq (i:=10) X5.nd rfl (Or.inl rfl) (Je (pv 0) T.cl_Tent T.p_Tent_mate.m (Qv T) (hr.mono (by decide)) T.p_Tent_mate.b .nil Wh (Za (pv 8) Zc)))
      (Ze (Xg (Wg PySem.F.plainAttrs_list PySem.F.slot_list_append PySem.F.type_list_append Y2 (pv 7) (Za (Vx hu (pv 4) (pv 8) (pv 8) ⟨rfl,rfl,rfl,rfl⟩) Zc)))
      (Zg (Xg (Wg PySem.F.plainAttrs_list PySem.F.slot_list_extend PySem.F.type_list_extend Zgp (pv 7) (Za (pcT (Uf T) hr T.p_crossing_between (Za (pv 5) (Za (Vx hu (pv 4) (pv 10) (pv 10) ⟨rfl,rfl,rfl,rfl⟩) (Za (Vx hu (pv 4) (pv 9) (pv 9) ⟨rfl,rfl,rfl,rfl⟩) Zc)))) Zc))))))))
      (Yl (Y3 (Zo (pv 7)))))))))),?_⟩
    refine ⟨_,rfl,_,rfl,_,rfl,p,M,ns,x,wayS left,rfl,ta,td,Wrong.free td hk hpl hab fun H1 s1 d hd0 hd=>?_⟩
    rw [Gh] at hd
    refine ⟨_,rfl,_,rfl,p,wd,M,ns,wI ws,rfl,ta.same s1,hMl,by rw [s1 _ _ hw,K0],by rw [Wy]; omega,fun H2 s2=>⟨fun _=>?_,fun z=>absurd ((Fd.mpr hP).symm.trans z) (by decide)⟩⟩
    have s02:=s1.trans s2
    have hd2:=s2 _ _ hd
    have ta2:=ta.same s02
    obtain ⟨dx,cl,na,sp,mt',oo,ff,bb⟩:=id ta2
    refine ⟨_,rfl,p,dx,_,rfl,bb.ins,Y5 _ _ _ _,_,rfl,p,M,ns,x,rfl,ta2,fun _ o ho=>?_,fun z=>absurd hk z⟩
    rw [hpl]
    have s03:Same H (upd H2 o (.lst ([a,b].map nV))):=Same.add s02 (s02.free ho)
    have hd3:(upd H2 o (.lst ([a,b].map nV))) d=some (.dK (glV left a b)):=by rw [Zf (Zk hd2 ho)]; exact hd2
    have ho3:(upd H2 o (.lst ([a,b].map nV))) o=some (.lst ([a,b].map nV)):=Zb
    generalize upd H2 o (.lst ([a,b].map nV))=H3 at s03 hd3 ho3
    clear bb ta2 s02 hd2 s2 hd s1
    dsimp only [Zn]
    refine ⟨_,rfl,wd,rfl,⟨_,SqL.of (s03 _ _ hw)⟩,fun D hD=>?_⟩
    refine Y9 (xs:=ws.map nV) (fun i σ H4=>∃ v,σ=[v,some (.ref o)]∧Same H3 H4∧H4 D=some (.lst (((ws.take i).filter (Zw a b)).map nV))) ⟨none,rfl,Same.new hD,Zb⟩ ?_ ?_ ?_
    · rintro i σ H4 _ ⟨v,rfl,sm,h4⟩
      exact SqL.of (sm _ _ (s03 _ _ hw))
    · rintro i y σ H4 hy ⟨v,rfl,sm,h4⟩
      obtain ⟨q,hq,rfl⟩:=map_some hy
      have hi:i < ws.length:=(List.getElem?_eq_some_iff.mp hq).1
      have lt:(((ws.take i).filter (Zw a b)).map nV).length < sizeLine:=by
        rw [List.length_map]
        have h1:=List.length_filter_le (Zw a b) (ws.take i)
        rw [List.length_take] at h1
        exact Zx (by omega)
      dsimp only [Zn]
      refine ⟨_,rfl,_,rfl,o,_,rfl,.inl (SqL.of (sm _ _ ho3)),rfl,Zi8 _,_,rfl,?_⟩
      show if (if true=true then !inV (nV q) ([a,b].map nV) else inV (nV q) ([a,b].map nV))=true then _ else _
      rw [if_pos rfl,Zle,Ziy]
      cases hb:Zw a b q with
      | true =>
        refine iteT ⟨_,rfl,_,h4,lt,_,rfl,Same.add sm hD,?_⟩
        rw [Zb,Jx hq,if_pos hb,List.map_append]; rfl
      | false =>
        refine iteF ⟨_,rfl,sm,?_⟩
        rw [h4,Jx hq,if_neg (by rw [hb]; decide)]
    rintro σ H4 ⟨v,rfl,s34,h4⟩
    rw [List.length_map,List.take_length] at h4
    have hkl:(Yi a b ws).length≤1000:=Nat.le_trans (List.length_filter_le _ _) hwl
    have hkm:∀ q∈Yi a b ws,q∈ws:=fun q hq=>(List.mem_filter.mp hq).1
    have h4:H4 D=some (.lst ((Yi a b ws).map nV)):=h4
    generalize Yi a b ws=ks at h4 hkl hkm k
    have s04:=s03.trans s34
    have hd4:=s34 _ _ hd3
    have ho4:=s34 _ _ ho3
    dsimp only [Zn]
    refine ⟨Nat.zero_le _,fun tl htl=>?_⟩
    have htl0:=s04.free htl
    have hot:o≠tl:=Zk ho4 htl
    have hDt:D≠tl:=Zk h4 htl
    have s05:Same H (upd H4 tl (.lst [])):=Same.add s04 htl0
    have hs45:Same H4 (upd H4 tl (.lst [])):=Same.new htl
    have h5t:(upd H4 tl (.lst [])) tl=some (.lst ((Yb M left a b ((Yn ks).take 0)).map nV)):=Zb
    generalize upd H4 tl (.lst [])=H5 at s05 hs45 h5t
    have hd5:=hs45 _ _ hd4
    have ho5:=hs45 _ _ ho4
    have hk5:=hs45 _ _ h4
    clear hs45 hd4 ho4 h4 s34 hd3 ho3 s03 s04 hD
    dsimp only [Zn]
    refine ⟨_,rfl,_,rfl,D,wI ks,1,rfl,by rw [hk5,K0],by rw [Wy]; omega,fun tr H6 s6 htr h6=>?_⟩
    rw [Zng] at h6
    have hrt:tr≠tl:=fun z=>by rw [z,h5t] at htr; cases htr
    have hrl:=Zh4 ks
    have hpair:∀ (i h f:Nat),ks[i]?=some h→(rot ks (1 % ks.length))[i]?=some f→(Yn ks)[i]?=some (h,f):=fun i h f e1 e2=>by unfold Yn; rw [List.getElem?_zip_eq_some]; exact ⟨e1,e2⟩
    have hpl2:=Uq ks
    generalize rot ks (1 % ks.length)=vs at h6 hrl hpair
    have hd6:=s6 _ _ hd5
    have ho6:=s6 _ _ ho5
    have hk6:=s6 _ _ hk5
    refine ⟨D,tr,_,_,rfl,SqL.of hk6,SqL.of h6,?_⟩
    refine Zlj (xs:=ks.map nV) (ys:=vs.map nV) (by rw [List.length_map,List.length_map,hrl]) (fun i σ H7=>∃ (v8 v9 v10:Option V),σ=[some (.ref p),some (.int x),some (.str (wayS left)),some (.ref wd),some (.ref d),some (.ref o),some (.ref D),some (.ref tl),v8,v9,v10]∧Same H H7∧H7 d=some (.dK (glV left a b))∧H7 o=some (.lst ([a,b].map nV))∧H7 D=some (.lst (ks.map nV))∧H7 tr=some (.lst (vs.map nV))∧H7 tl=some (.lst ((Yb M left a b ((Yn ks).take i)).map nV))) ⟨none,none,none,rfl,s05.trans s6,hd6,ho6,hk6,h6,s6 _ _ h5t⟩ ?_ ?_ ?_
    · rintro i σ H7 _ ⟨v8,v9,v10,rfl,s7,hd7,ho7,hk7,hr7,ht7⟩
      exact ⟨SqL.of hk7,SqL.of hr7⟩
    · rintro i y z σ H7 q hy hz hq ⟨v8,v9,v10,rfl,s7,hd7,ho7,hk7,hr7,ht7⟩
      obtain ⟨hh,hhe,rfl⟩:=map_some hy
      obtain ⟨f,hfe,rfl⟩:=map_some hz
      have hi:i < ks.length:=(List.getElem?_eq_some_iff.mp hhe).1
      obtain ⟨m,hm⟩:=hP.has hh (hkm hh (List.mem_of_getElem? hhe))
      have hhM:hh < M.length:=(List.getElem?_eq_some_iff.mp hm).1
      have emt:mtN M hh=m:=by unfold mtN; rw [List.getD_eq_getElem?_getD,hm]; rfl
      have hlen:=Fb M left a b ((Yn ks).take i)
      rw [List.length_take] at hlen
      have hcl:=Gb a b (mvN left a b m) (mvN left a b f)
      have sq:Same H7 (upd H7 q (.tup [nV hh,nV f])):=Same.new hq
      have s8:=s7.trans sq
      have hq8:(upd H7 q (.tup [nV hh,nV f])) q=some (.tup [nV hh,nV f]):=Zb
      have hd8:=sq _ _ hd7
      have ho8:=sq _ _ ho7
      have hk8:=sq _ _ hk7
      have hr8:=sq _ _ hr7
      have ht8:=sq _ _ ht7
      generalize upd H7 q (.tup [nV hh,nV f])=H8 at s8 hq8 hd8 ho8 hk8 hr8 ht8
      clear sq hd7 ho7 hk7 hr7 ht7 s7 hq
      refine ⟨q,_,rfl,SqT.of hq8,rfl,_,_,rfl,_,_,rfl,rfl,?_⟩
      have ta8:=ta.same s8
      obtain ⟨dx,cl,na,sp,mt',oo,ff,bb⟩:=id ta8
      refine ⟨_,rfl,p,dx,_,rfl,bb.ins,Y5 _ _ _ _,_,rfl,p,M,ns,hh,rfl,ta8,hMl,fun i' y e1 e2=>?_,fun z=>absurd (show (0:Int)≤hh∧(hh:Int) < ns.length by omega) z⟩
      have:i'=hh:=by omega
      subst this
      rw [hm] at e2
      cases e2
      refine ⟨_,rfl,.inl ⟨rfl,_,SqL.of ht8⟩,_,rfl,d,rfl,.inl ⟨_,.inl hd8⟩,_,rfl,_,rfl,_,DGet.k (k:=Sum.inl (i':Int)) hd8,tl,_,_,rfl,rfl,ht8,(by rw [List.length_map,sizeLine_eq]; omega),?_⟩
      rw [Gi]
      have s9:Same H (upd H8 tl (.lst ((Yb M left a b ((Yn ks).take i)).map nV ++ [nV (mvN left a b i')]))):=Same.add s8 htl0
      have ht9:(upd H8 tl (.lst ((Yb M left a b ((Yn ks).take i)).map nV ++ [nV (mvN left a b i')]))) tl=some (.lst ((Yb M left a b ((Yn ks).take i) ++ [mvN left a b i']).map nV)):=by rw [Zb,List.map_append]; rfl
      have hdt:d≠tl:=fun z=>by rw [z,ht8] at hd8; cases hd8
      have hd9:(upd H8 tl (.lst ((Yb M left a b ((Yn ks).take i)).map nV ++ [nV (mvN left a b i')]))) d=some (.dK (glV left a b)):=by rw [Zf hdt]; exact hd8
      have ho9:(upd H8 tl (.lst ((Yb M left a b ((Yn ks).take i)).map nV ++ [nV (mvN left a b i')]))) o=some (.lst ([a,b].map nV)):=by rw [Zf hot]; exact ho8
      have hk9:(upd H8 tl (.lst ((Yb M left a b ((Yn ks).take i)).map nV ++ [nV (mvN left a b i')]))) D=some (.lst (ks.map nV)):=by rw [Zf hDt]; exact hk8
      have hr9:(upd H8 tl (.lst ((Yb M left a b ((Yn ks).take i)).map nV ++ [nV (mvN left a b i')]))) tr=some (.lst (vs.map nV)):=by rw [Zf hrt]; exact hr8
      show _
      generalize upd H8 tl (.lst ((Yb M left a b ((Yn ks).take i)).map nV ++ [nV (mvN left a b i')]))=H9 at s9 ht9 hd9 ho9 hk9 hr9
      refine ⟨_,rfl,.inl ⟨rfl,_,SqL.of ht9⟩,_,rfl,_,rfl,d,rfl,.inl ⟨_,.inl hd9⟩,_,rfl,_,rfl,_,DGet.k (k:=Sum.inl (m:Int)) hd9,_,rfl,d,rfl,.inl ⟨_,.inl hd9⟩,_,rfl,_,rfl,_,DGet.k (k:=Sum.inl (f:Int)) hd9,?_⟩
      rw [Zjy,Gi]
      refine ⟨o,a,b,mvN left a b m,mvN left a b f,rfl,ho9,fun l HA sA hA=>?_⟩
      refine ⟨tl,l,_,_,rfl,rfl,sA _ _ ht9,hA,?_,?_⟩
      · rw [List.length_map,List.length_map,List.length_append,List.length_singleton,sizeLine_eq]; omega
      · refine ⟨_,_,_,rfl,Same.add (s9.trans sA) htl0,by rw [Zf hdt]; exact sA _ _ hd9,by rw [Zf hot]; exact sA _ _ ho9,by rw [Zf hDt]; exact sA _ _ hk9,by rw [Zf hrt]; exact sA _ _ hr9,?_⟩
        rw [Zb,Zem (hpair i _ f hhe hfe),← List.map_append]
        unfold Xm
        rw [emt,List.append_assoc]
        rfl
    · rintro σ H7 ⟨v8,v9,v10,rfl,s7,hd7,ho7,hk7,hr7,ht7⟩
      rw [List.length_map,List.take_of_length_le (by omega)] at ht7
      exact ⟨_,rfl,k tl H7 s7 htl0 ht7⟩
end
end KT
set_option maxHeartbeats 4000000
namespace KT
open PySem L2
noncomputable def Xi (H:Hp) (l:Addr) (mv:List (Int × Bool)):Prop:=∃ ts:List Addr,H l=some (.lst (ts.map V.ref))∧ts.length=mv.length∧∀ (k:Nat) (t:Addr) (q:Int × Bool),ts[k]?=some t→mv[k]?=some q→H t=some (.tup [.int q.1,.str (wayS q.2)])
theorem Xi.same {H H':Hp} {l:Addr} {mv:List (Int × Bool)} (h:Xi H l mv) (s:Same H H'):Xi H' l mv:=by
 obtain ⟨ts,h1,h2,h3⟩:=h
 exact ⟨ts,s _ _ h1,h2,fun k t q e1 e2=>s _ _ (h3 k t q e1 e2)⟩
theorem Mv.two {M:List (Option Nat)} {ns:List Int} {x:Int} {a b:Nat} (h:Mv M ns x a b) (td:TD M ns):x∈keys ns ns.length∧pl ns ns.length x=[a,b]:=Zml td h.hM h.lt h.nm
theorem Xi.put {H:Hp} {l q:Addr} {ts:List Addr} {mv:List (Int × Bool)} {x:Int} {left:Bool} (h1:H l=some (.lst (ts.map V.ref))) (h2:ts.length=mv.length) (h3:∀ (k:Nat) (t:Addr) (q:Int × Bool),ts[k]?=some t→mv[k]?=some q→H t=some (.tup [.int q.1,.str (wayS q.2)])) (hq:H q=some (.tup [.int x,.str (wayS left)])) :
  Xi (upd H l (.lst (ts.map V.ref ++ [V.ref q]))) l (mv ++ [(x,left)]):=by
 refine ⟨ts ++ [q],by rw [Zb]; simp,by rw [List.length_append,List.length_append,h2]; rfl,fun k t q' z zq=>?_⟩
 by_cases hk:k < ts.length
 ·rw [List.getElem?_append_left hk] at z
  rw [List.getElem?_append_left (by omega)] at zq
  have g:=h3 k t q' z zq
  rw [Zf (fun e=>by rw [e,h1] at g; cases g)]
  exact g
 ·have hk2:k=ts.length:=by
   have:=(List.getElem?_eq_some_iff.mp z).1
   rw [List.length_append,List.length_singleton] at this
   omega
  subst hk2
  have:t=q:=by simpa using z.symm
  subst this
  rw [h2] at zq
  have:q'=(x,left):=by simpa using zq.symm
  subst this
  rw [Zf (fun e=>by rw [e,h1] at hq; cases hq)]
  exact hq
theorem Xi.copy {H:Hp} {l l':Addr} {ts:List Addr} {mv:List (Int × Bool)} (hl:H l'=none) (h2:ts.length=mv.length) (h3:∀ (k:Nat) (t:Addr) (q:Int × Bool),ts[k]?=some t→mv[k]?=some q→H t=some (.tup [.int q.1,.str (wayS q.2)])):Xi (upd H l' (.lst (ts.map V.ref))) l' mv :=
 ⟨ts,Zb,h2,fun k t q e1 e2=>Same.new hl _ _ (h3 k t q e1 e2)⟩
noncomputable def Zfo (C:Addr):Sp:=fun vs H Q _=>∃ (p l:Addr) (M M':List (Option Nat)) (ns ns':List Int) (mv:List (Int × Bool)),vs=[.ref p,.ref l]∧Ye C H p M ns∧TD M ns∧Xi H l mv∧Row M ns mv M' ns'∧∀ (p':Addr) (H':Hp),Same H H'→Ye C H' p' M' ns'→Q (.ref p') H'
section
variable {P:Program} {w:World} {K:PySem.W.Frag} {mg:Str→Option Value} {base:Heap} {t:Adr}
theorem Q2:FnScope ["tent","moves","seam","way"] ["tent","moves"] (Zj Zbd):=⟨rfl,rfl,rfl,by decide +kernel,rfl,by decide +kernel,by decide +kernel⟩
theorem Zgj (T:Txt w K mg t):FnOk P w K mg base (CXr P w) 7 t.f_driven t.d_driven ["tent","moves"] (Zfo t.C_Tent):=by
 refine T.p_driven.F.aR Q2 (fun cdv A outer s H vs Q E hr h=>?_)
 ·obtain ⟨p,l,M,M',ns,ns',mv,rfl,ta,td,hmv,hrow,k⟩:=h
  refine ⟨_,(Ze (Yg PassesOwn.never rfl (Yt (pv 1)) (W0 rfl (Z2 (Zl (i:=2) Q2.nd rfl (Or.inl rfl)) (Z2 (Zl (i:=3) Q2.nd rfl (Or.inl rfl)) X1))) (Zg (Zq (i:=0) Q2.nd rfl (Or.inl rfl) (pcT (Us T) hr T.p_exchanged (Za (pv 0) (Za (pv 2) (Za (pv 3) Zc)))))))
   (Zg (Zo (pv 0)))),?_⟩
  obtain ⟨ts,h1,h2,h3⟩:=hmv
  refine ⟨_,rfl,l,rfl,⟨_,SqL.of h1⟩,?_⟩
  refine Jb (xs:=ts.map V.ref) (fun i σ H1=>∃ (p':Addr) (Mi:List (Option Nat)) (ni:List Int) (v2 v3:Option V),σ=[some (.ref p'),some (.ref l),v2,v3]∧Same H H1∧Ye t.C_Tent H1 p' Mi ni∧TD Mi ni∧Row Mi ni (mv.drop i) M' ns') ⟨p,M,ns,none,none,rfl,Same.refl _,ta,td,hrow⟩ ?_ ?_ ?_
  ·rintro i σ H1 _ ⟨p',Mi,ni,v2,v3,rfl,s1,_⟩
   exact SqL.of (s1 _ _ h1)
  ·rintro i y σ H1 hy ⟨p',Mi,ni,v2,v3,rfl,s1,ta1,td1,hr1⟩
   obtain ⟨q,hq,rfl⟩:=map_some hy
   have hi:i < mv.length:=by rw [← h2]; exact (List.getElem?_eq_some_iff.mp hq).1
   obtain ⟨⟨x,left⟩,hm⟩:∃ m,mv[i]?=some m:=⟨_,List.getElem?_eq_getElem hi⟩
   have ht:=s1 _ _ (h3 i q _ hq hm)
   have ed:mv.drop i=(x,left) :: mv.drop (i + 1):=by rw [List.drop_eq_getElem_cons hi,(List.getElem?_eq_some_iff.mp hm).2]
   rw [ed] at hr1
   cases hr1 with
   | @cons _ _ _ _ _ _ a b _ t1 m1 r1 =>
    obtain ⟨hk,hpl⟩:=m1.two t1
    refine ⟨q,_,rfl,SqT.of ht,rfl,_,_,rfl,_,_,rfl,rfl,?_⟩
    refine ⟨_,rfl,_,rfl,_,rfl,p',Mi,ni,x,wayS left,rfl,ta1,td1,Wrong.free td1 hk hpl m1.ab fun H2 s2 p2 _ ta2=>?_⟩
    rw [Gh] at ta2
    exact ⟨p2,_,_,_,_,rfl,s1.trans s2,ta2,m1.td t1,r1⟩
  ·rintro σ H1 ⟨p',Mi,ni,v2,v3,rfl,s1,ta1,td1,hr1⟩
   rw [List.length_map,h2,List.drop_length] at hr1
   cases hr1
   exact ⟨_,rfl,k p' H1 s1 ta1⟩
end
end KT
set_option maxHeartbeats 4000000
namespace KT
open PySem L2
noncomputable def Kc (C:Addr):Sp:=fun vs H Q _=>∃ (p l wd:Addr) (M M':List (Option Nat)) (ns ns':List Int) (ws ws':List Nat) (mv:List (Int × Bool)),vs=[.ref p,.ref l,.ref wd]∧Ye C H p M ns∧TD M ns∧Xi H l mv∧H wd=some (.lst (ws.map nV))∧ws.length≤1000∧Pl M ws∧RowW M ns ws mv M' ns' ws' ∧
 ∀ (l':Addr) (H':Hp),Same H H'→H l'=none→H' l'=some (.lst (ws'.map nV))→Q (.ref l') H'
section
variable {P:Program} {w:World} {K:PySem.W.Frag} {mg:Str→Option Value} {base:Heap} {t:Adr}
theorem Xa:FnScope ["tent","moves","word","seam","way"] ["tent","moves","word"] (Zj Vf):=⟨rfl,rfl,rfl,by decide +kernel,rfl,by decide +kernel,by decide +kernel⟩
theorem Kw (T:Txt w K mg t):FnOk P w K mg base (CXr P w) 8 t.f_pulled_along t.d_pulled_along ["tent","moves","word"] (Kc t.C_Tent):=by
 refine T.p_pulled_along.F.aR Xa (fun cdv A outer s H vs Q E hr h=>?_)
 ·obtain ⟨p,l,wd,M,M',ns,ns',ws,ws',mv,rfl,ta,td,hmv,hw,hwl,hP,hrow,k⟩:=h
  refine ⟨_,(Ze (Xg (pcT (Vl T) hr T.p_look_thread (Za (pv 0) (Za (pv 2) Zc))))
   (Ze (Zq (i:=2) Xa.nd rfl (Or.inl rfl) (Ys Yo (by rfl) T.n_list PySem.Pv.boot_list (Za (pv 2) Zc)))
   (Ze (Yg PassesOwn.never rfl (Yt (pv 1)) (W0 rfl (Z2 (Zl (i:=3) Xa.nd rfl (Or.inl rfl)) (Z2 (Zl (i:=4) Xa.nd rfl (Or.inl rfl)) X1))) (Ze (Zq (i:=2) Xa.nd rfl (Or.inl rfl) (pcT (Zgc T) hr T.p_pulled (Za (pv 0) (Za (pv 3) (Za (pv 4) (Za (pv 2) Zc))))))
   (Zg (Zq (i:=0) Xa.nd rfl (Or.inl rfl) (pcT (Us T) hr T.p_exchanged (Za (pv 0) (Za (pv 3) (Za (pv 4) Zc))))))))
   (Zg (Zo (pv 2)))))),?_⟩
  obtain ⟨ts,h1,h2,h3⟩:=hmv
  refine Zv fun nxC hnxC=>?_
  refine ⟨_,rfl,_,rfl,p,wd,M,ns,wI ws,rfl,ta,td.len.symm,by rw [hw,K0],by rw [Wy]; omega,fun H1 s1=>⟨fun _=>?_,fun z=>absurd ((Fd.mpr hP).symm.trans z) (by decide)⟩⟩
  refine hnxC _ _ ?_
  refine Zv fun nxC hnxC=>?_
  refine ⟨_,rfl,wd,_,rfl,.inl (SqL.of (s1 _ _ hw)),fun wd' hwd'=>?_⟩
  refine hnxC _ _ ?_
  have s2:=Same.add (o:=.lst (ws.map nV)) s1 (s1.free hwd')
  have hw2:(upd H1 wd' (.lst (ws.map nV))) wd'=some (.lst (ws.map nV)):=Zb
  have hn0:=s1.free hwd'
  generalize upd H1 wd' (.lst (ws.map nV))=H2 at s2 hw2 ⊢
  try dsimp only [Zn]
  refine ⟨_,rfl,l,rfl,⟨_,SqL.of (s2 _ _ h1)⟩,?_⟩
  refine Jb (xs:=ts.map V.ref) (fun i σ H3=>∃ (p' w':Addr) (Mi:List (Option Nat)) (ni:List Int) (wi:List Nat) (v3 v4:Option V),σ=[some (.ref p'),some (.ref l),some (.ref w'),v3,v4]∧Same H H3∧Ye t.C_Tent H3 p' Mi ni∧TD Mi ni∧H w'=none∧H3 w'=some (.lst (wi.map nV))∧RowW Mi ni wi (mv.drop i) M' ns' ws') ⟨p,wd',M,ns,ws,none,none,rfl,s2,ta.same s2,td,hn0,hw2,hrow⟩ ?_ ?_ ?_
  ·rintro i σ H3 _ ⟨p',w',Mi,ni,wi,v3,v4,rfl,s3,_⟩
   exact SqL.of (s3 _ _ h1)
  ·rintro i y σ H3 hy ⟨p',w',Mi,ni,wi,v3,v4,rfl,s3,ta3,td3,hn3,hw3,hr3⟩
   obtain ⟨q,hq,rfl⟩:=map_some hy
   have hi:i < mv.length:=by rw [← h2]; exact (List.getElem?_eq_some_iff.mp hq).1
   obtain ⟨⟨x,left⟩,hm⟩:∃ m,mv[i]?=some m:=⟨_,List.getElem?_eq_getElem hi⟩
   have ht:=s3 _ _ (h3 i q _ hq hm)
   have ed:mv.drop i=(x,left) :: mv.drop (i + 1):=by rw [List.drop_eq_getElem_cons hi,(List.getElem?_eq_some_iff.mp hm).2]
   rw [ed] at hr3
   cases hr3 with
   | @cons _ _ _ _ _ _ _ _ a b _ t1 m1 p1 l1 r1 =>
    obtain ⟨hk,hpl⟩:=m1.two t1
    refine ⟨q,_,rfl,SqT.of ht,rfl,_,_,rfl,_,_,rfl,rfl,?_⟩
    refine ⟨_,rfl,_,rfl,_,rfl,_,rfl,p',w',Mi,ni,x,left,a,b,wi,rfl,ta3,td3,hk,hpl,m1.ab,hw3,l1,p1,fun w2 H4 s4 hw2n h4=>?_⟩
    refine ⟨_,rfl,_,rfl,_,rfl,p',Mi,ni,x,wayS left,rfl,ta3.same s4,td3,Wrong.free td3 hk hpl m1.ab fun H5 s5 p2 _ ta5=>?_⟩
    rw [Gh] at ta5
    exact ⟨p2,w2,_,_,_,_,_,rfl,(s3.trans s4).trans s5,ta5,m1.td t1,s3.free hw2n,s5 _ _ h4,r1⟩
  ·rintro σ H3 ⟨p',w',Mi,ni,wi,v3,v4,rfl,s3,ta3,td3,hn3,hw3,hr3⟩
   rw [List.length_map,h2,List.drop_length] at hr3
   cases hr3
   exact ⟨_,rfl,k w' H3 s3 hn3 hw3⟩
end
end KT
set_option maxHeartbeats 4000000
namespace KT
open PySem L2
noncomputable def We (M:List (Option Nat)) (H:Hp) (b:Addr):Prop:=∃ (q j u v t0 t1 t2:Nat) (sd:Addr),H b=some (.tup [.int (q:Int),.int (u:Int),.ref sd])∧H sd=some (.lst ([t0,t1,t2].map nV))∧(M[q]?=some (some j)∧q < j∧q / 3≠j / 3)∧(M[u]?=some (some v)∧u < v∧u / 3≠v / 3)∧q≠u∧(t0 < t1∧t1 < t2)∧∀ t,(t=t0∨t=t1∨t=t2) ↔ (t=q / 3∨t=j / 3∨t=u / 3∨t=v / 3)
theorem We.same {M:List (Option Nat)} {H H':Hp} {b:Addr} (h:We M H b) (s:Same H H'):We M H' b:=by
 obtain ⟨q,j,u,v,t0,t1,t2,sd,h1,h2,r⟩:=h
 exact ⟨q,j,u,v,t0,t1,t2,sd,s _ _ h1,s _ _ h2,r⟩
theorem We.upd {M:List (Option Nat)} {H:Hp} {b D:Addr} {ts:List Addr} {xs:List V} (h:We M H b) (hD:H D=some (.lst (ts.map V.ref))):We M (L2.upd H D (.lst xs)) b:=by
 obtain ⟨q,j,u,v,t0,t1,t2,sd,h1,h2,r⟩:=h
 refine ⟨q,j,u,v,t0,t1,t2,sd,?_,?_,r⟩
 ·rw [Zf (fun z=>by rw [z,hD] at h1; cases h1)]; exact h1
 ·rw [Zf (fun z=>?_)]
  ·exact h2
  ·rw [z,hD] at h2
   injection h2 with h2; injection h2 with h2
   cases ts with
   | nil=>cases h2
   | cons a r=>injection h2 with h2 _; cases h2
theorem Zhm {out:List Int} {a b c d:Nat} (hp:out.Perm (dd [(a:Int),(b:Int),(c:Int),(d:Int)])) (hs:out.Pairwise (·≤·)) (h3:out.length=3):∃ t0 t1 t2:Nat,out=[(t0:Int),(t1:Int),(t2:Int)]∧(t0 < t1∧t1 < t2)∧∀ t,(t=t0∨t=t1∨t=t2) ↔ (t=a∨t=b∨t=c∨t=d):=by
 have hm:∀ x,x∈out ↔ x∈[(a:Int),(b:Int),(c:Int),(d:Int)]:=fun x=>by rw [hp.mem_iff,Zna]
 have hn:out.Nodup:=hp.nodup_iff.mpr (Zjd _)
 match out,h3 with
 | [x,y,z],_ =>
  have nn:∀ w∈[x,y,z],∃ k:Nat,w=(k:Int):=fun w hw=>by
   have:=(hm w).mp hw
   simp only [List.mem_cons,List.not_mem_nil,or_false] at this
   rcases this with e | e | e | e
   ·exact ⟨a,e⟩
   ·exact ⟨b,e⟩
   ·exact ⟨c,e⟩
   ·exact ⟨d,e⟩
  obtain ⟨t0,rfl⟩:=nn x (by simp)
  obtain ⟨t1,rfl⟩:=nn y (by simp)
  obtain ⟨t2,rfl⟩:=nn z (by simp)
  simp only [List.pairwise_cons,List.mem_cons,List.not_mem_nil,or_false,List.nodup_cons] at hs hn
  have l1:=hs.1 t1 (.inl rfl)
  have l2:=hs.2.1 t2 rfl
  have n1:(t0:Int)≠t1:=fun z=>hn.1 (.inl z)
  have n2:(t1:Int)≠t2:=fun z=>hn.2.1 z
  refine ⟨t0,t1,t2,rfl,⟨by omega,by omega⟩,fun t=>?_⟩
  have k:=hm (t:Int)
  simp only [List.mem_cons,List.not_mem_nil,or_false,Int.ofNat_inj] at k
  exact k
noncomputable def Zef:Sp:=fun vs H Q _=>∃ (m:Addr) (M:List (Option Nat)),vs=[.ref m]∧H m=some (.lst (M.map mV))∧M.length≤42∧(∀ (i j:Nat),M[i]?=some (some j)→M[j]?=some (some i)∧i≠j) ∧
 ∀ (l:Addr) (ts:List Addr) (H':Hp),Same H H'→H l=none→H' l=some (.lst (ts.map V.ref))→ts.length≤2000→(∀ b∈ts,We M H' b)→Q (.ref l) H'
theorem Gu {M:List (Option Nat)}:(Xb M).length≤M.length:=by
 have:=List.length_filter_le (Wo M) (List.range M.length)
 rw [List.length_range] at this
 exact this
section
variable {P:Program} {w:World} {K:PySem.W.Frag} {mg:Str→Option Value} {base:Heap} {t:Adr}
theorem Wr:FnScope ["_law_mates","_law_pairs_here","_law_spots","_law_one","_law_other","_law_sides"] ["_law_mates"] (Zj G6):=⟨rfl,rfl,rfl,by decide +kernel,rfl,by decide +kernel,by decide +kernel⟩
theorem Zeq (T:Txt w K mg t):FnOk P w K mg base (CXr P w) 2 t.f_l_pairs t.d_l_pairs ["_law_mates"] Zef:=by
 refine T.p_l_pairs.F.aR Wr (fun cdv A outer s H vs Q E hr h=>?_)
 ·obtain ⟨m,M,rfl,hm,hM,inv,k⟩:=h
  refine ⟨_,(Ze (Zq (i:=1) Wr.nd rfl (Or.inl rfl) (Y4 Zc))
   (Ze (Zq (i:=2) Wr.nd rfl (Or.inl rfl) (pcT (Fh T) hr T.p_l_free (Za (pv 0) Zc)))
   (Ze (Yg PassesOwn.never rfl (Yt (pv 2)) (Zl (i:=3) Wr.nd rfl (Or.inl rfl)) (Zg (Yg PassesOwn.never rfl (Yt (pv 2)) (Zl (i:=4) Wr.nd rfl (Or.inl rfl)) (Ze (Zq (i:=5) Wr.nd rfl (Or.inl rfl) (Zm (Zcg rfl) (by rfl) T.n_sorted PyProof.Rows.boot_sorted (Za (Ys (Zhd rfl) (by rfl) T.n_set PySem.Pv.boot_set (Za (Y4 (Za (Zi Yd (pv 3) Zd) (Za (Zi Yd (Zp Zs (pv 0) (pv 3) (fun _ _=>rfl)) Zd) (Za (Zi Yd (pv 4) Zd) (Za (Zi Yd (Zp Zs (pv 0) (pv 4) (fun _ _=>rfl)) Zd) Zc))))) Zc)) Zc)))
   (Zg (Z8 (PW.pt (Kr (Zt Q5 (pv 3) (pv 4) (Zu _)) (U3 (Zt Yv (Zm Zh (by rfl) T.n_len PySem.boot_len (Za (pv 5) Zc)) Zd (Zu _))))) (Zg (Xg (Wg PySem.F.plainAttrs_list PySem.F.slot_list_append PySem.F.type_list_append Y2 (pv 1) (Za (Y8 (Za (pv 3) (Za (pv 4) (Za (pv 5) Zc)))) Zc)))) Zy))))))
   (Zg (Zo (pv 1)))))),?_⟩
  refine Zv fun nxC hnxC=>?_
  refine ⟨Nat.zero_le _,fun D hD=>?_⟩
  refine hnxC _ _ ?_
  have s1:Same H (upd H D (.lst [])):=Same.new hD
  have h1:(upd H D (.lst [])) D=some (.lst []):=Zb
  generalize upd H D (.lst [])=H1 at s1 h1 ⊢
  try dsimp only [Zn]
  refine Zv fun nxC hnxC=>?_
  refine ⟨_,rfl,m,M,rfl,s1 _ _ hm,by omega,inv,fun fl H2 s2 hfl h2=>?_⟩
  refine hnxC _ _ ?_
  have hne:fl≠D:=fun z=>by rw [z,h1] at hfl; cases hfl
  have hD2:=s2 _ _ h1
  have s02:=s1.trans s2
  clear s1 s2 h1 hfl
  try dsimp only [Zn]
  refine Z4 (fun σ H'=>∃ (v3 v4 v5:Option V) (ts:List Addr),σ=[some (.ref m),some (.ref D),some (.ref fl),v3,v4,v5]∧Same H H'∧H' D=some (.lst (ts.map V.ref))∧ts.length≤2000∧∀ b∈ts,We M H' b) (fun nx hnx=>?_) ?_
  ·refine ⟨_,rfl,fl,rfl,⟨_,SqL.of h2⟩,?_⟩
   refine Jb (xs:=(Xb M).map nV) (fun i σ H3=>∃ (v3 v4 v5:Option V) (ts:List Addr),σ=[some (.ref m),some (.ref D),some (.ref fl),v3,v4,v5]∧Same H H3∧H3 fl=some (.lst ((Xb M).map nV))∧H3 D=some (.lst (ts.map V.ref))∧ts.length≤42 * i∧∀ b∈ts,We M H3 b) ⟨none,none,none,[],rfl,s02,h2,hD2,Nat.le_refl _,fun b hb=>absurd hb List.not_mem_nil⟩ ?_ ?_ ?_
   ·rintro i σ H3 _ ⟨v3,v4,v5,ts,rfl,s3,h3,_⟩
    exact SqL.of h3
   ·rintro i x σ H3 hx ⟨v3,v4,v5,ts,rfl,s3,h3,hD3,hl3,hp3⟩
    obtain ⟨q,hq,rfl⟩:=map_some hx
    have hi:i < (Xb M).length:=(List.getElem?_eq_some_iff.mp hq).1
    obtain ⟨j,hj,hqj,hc⟩:=V3 (List.mem_of_getElem? hq)
    have fle:=Gu (M:=M)
    dsimp only [Zn]
    refine ⟨_,rfl,fl,rfl,⟨_,SqL.of h3⟩,?_⟩
    refine Jb (xs:=(Xb M).map nV) (fun i2 σ H4=>∃ (v4 v5:Option V) (ts:List Addr),σ=[some (.ref m),some (.ref D),some (.ref fl),some (nV q),v4,v5]∧Same H H4∧H4 fl=some (.lst ((Xb M).map nV))∧H4 D=some (.lst (ts.map V.ref))∧ts.length≤42 * i + i2∧∀ b∈ts,We M H4 b) ⟨_,_,ts,rfl,s3,h3,hD3,by omega,hp3⟩ ?_ ?_ ?_
    ·rintro i2 σ H4 _ ⟨v4,v5,ts,rfl,s4,h4,_⟩
     exact SqL.of h4
    ·rintro i2 x σ H4 hx2 ⟨v4,v5,ts,rfl,s4,h4,hD4,hl4,hp4⟩
     obtain ⟨u,hu,rfl⟩:=map_some hx2
     have hi2:i2 < (Xb M).length:=(List.getElem?_eq_some_iff.mp hu).1
     obtain ⟨v,hv,huv,hd⟩:=V3 (List.mem_of_getElem? hu)
     have hm4:=s4 _ _ hm
     dsimp only [Zn]
     refine Zv fun nxC hnxC=>?_
     refine ⟨_,rfl,_,_,rfl,rfl,⟨by decide,by decide⟩,_,rfl,_,rfl,m,_,_,_,rfl,rfl,SqL.of hm4,Z0 hj,_,_,rfl,rfl,⟨by decide,by decide⟩,_,rfl,_,_,rfl,rfl,⟨by decide,by decide⟩,_,rfl,_,rfl,m,_,_,_,rfl,rfl,SqL.of hm4,Z0 hv,_,_,rfl,rfl,⟨by decide,by decide⟩,(by show 4≤sizeLine; decide),fun e1 he1=>?_⟩
     have ee:[V.int ((q:Int) / 3),V.int ((j:Int) / 3),V.int ((u:Int) / 3),V.int ((v:Int) / 3)]=[((q / 3:Nat):Int),((j / 3:Nat):Int),((u / 3:Nat):Int),((v / 3:Nat):Int)].map V.int:=by rw [div3,div3,div3,div3]; rfl
     refine ⟨e1,[((q / 3:Nat):Int),((j / 3:Nat):Int),((u / 3:Nat):Int),((v / 3:Nat):Int)],rfl,by rw [← ee]; exact SqL.of Zb,(by show 4 < 64; decide),fun e2 he2=>?_⟩
     have dl:=Znb [((q / 3:Nat):Int),((j / 3:Nat):Int),((u / 3:Nat):Int),((v / 3:Nat):Int)]
     refine ⟨e2,_,rfl,Zb,Nat.lt_of_le_of_lt dl (by show 4 < 64; decide),fun sd out hsd hperm hsort=>?_⟩
     show nxC _ _
     refine (fun (G:∀ H5:Hp,Same H4 H5→H5 sd=some (.lst (out.map V.int))→nxC _ H5)=>G _ (((Same.new he1).trans (Same.new he2)).trans (Same.new hsd)) Zb) ?_
     intro H5 s5 h5
     refine hnxC _ _ ?_
     clear he1 he2 hsd ee dl
     have hD5:=s5 _ _ hD4
     have s05:=s4.trans s5
     have hp5:∀ b∈ts,We M H5 b:=fun b hb=>(hp4 b hb).same s5
     have hfl5:=s5 _ _ h4
     clear s5 s4 hD4 h4 hp4 hm4
     try dsimp only [Zn]
     refine ⟨_,rfl,_,rfl,rfl,_,rfl,?_⟩
     refine ite2 (fun z1=>?_) (fun _=>iteF ⟨_,_,ts,rfl,s05,hfl5,hD5,by omega,hp5⟩)
     refine ⟨_,rfl,sd,_,rfl,.inl (SqL.of h5),rfl,_,rfl,?_⟩
     refine ite2 (fun z2=>?_) (fun _=>⟨_,_,ts,rfl,s05,hfl5,hD5,by omega,hp5⟩)
     have hqu:q≠u:=fun z=>by
      subst z
      exact absurd z1 (by simp)
     have h3':out.length=3:=by
      have:=of_decide_eq_true z2
      simp at this
      omega
     obtain ⟨t0,t1,t2,rfl,hlt,hmem⟩:=Zhm hperm hsort h3'
     refine ⟨_,rfl,.inl ⟨rfl,_,SqL.of hD5⟩,_,rfl,_,rfl,_,rfl,(by show 3≤sizeLine; decide),fun tq htq=>?_⟩
     have s6:Same H5 (upd H5 tq (.tup [.int (q:Int),.int (u:Int),.ref sd])):=Same.new htq
     have h6:(upd H5 tq (.tup [.int (q:Int),.int (u:Int),.ref sd])) tq=some (.tup [.int (q:Int),.int (u:Int),.ref sd]):=Zb
     have hD6:=s6 _ _ hD5
     refine ⟨D,_,_,rfl,rfl,hD6,(by rw [List.length_map]; exact Nat.lt_of_le_of_lt (show ts.length≤2000 by omega) (by show 2000 < sizeLine; decide)),?_⟩
     have pa:We M (upd H5 tq (.tup [.int (q:Int),.int (u:Int),.ref sd])) tq:=⟨q,j,u,v,t0,t1,t2,sd,h6,s6 _ _ h5,⟨hj,hqj,hc⟩,⟨hv,huv,hd⟩,hqu,hlt,hmem⟩
     refine ⟨_,_,ts ++ [tq],rfl,Same.add (s05.trans s6) hD,by rw [Zf hne]; exact s6 _ _ hfl5,by rw [Zb,List.map_append]; rfl,by rw [List.length_append,List.length_singleton]; omega,fun b hb=>?_⟩
     rcases List.mem_append.mp hb with z | z
     ·exact ((hp5 b z).same s6).upd hD6
     ·rw [List.mem_singleton.mp z]; exact pa.upd hD6
    ·rintro σ H4 ⟨v4,v5,ts,rfl,s4,h4,hD4,hl4,hp4⟩
     rw [List.length_map] at hl4
     exact ⟨_,_,_,ts,rfl,s4,h4,hD4,by omega,hp4⟩
   ·rintro σ H3 ⟨v3,v4,v5,ts,rfl,s3,h3,hD3,hl3,hp3⟩
    have fle:=Gu (M:=M)
    rw [List.length_map] at hl3
    exact hnx _ _ ⟨_,_,_,ts,rfl,s3,hD3,by omega,hp3⟩
  ·rintro σ H3 ⟨v3,v4,v5,ts,rfl,s3,hD3,hl3,hp3⟩
   exact ⟨_,rfl,k D ts H3 s3 hD hD3 hl3 hp3⟩
end
end KT
set_option maxHeartbeats 4000000
namespace KT
open PySem L2
noncomputable def W9 (t0 t1 t2 N:Nat) (H:Hp) (o:Nat × Nat × Nat) (u:Nat) (b:Addr):Prop:=H b=some (.lst (((List.range N).map (lyN t0 t1 t2 o u)).map nV))
structure LaysAt (t0 t1 t2 N:Nat) (ns ns':List Int) (x y:Int) (H:Hp) (ts:List Addr) (dn:Nat × Nat × Nat→Nat→Prop):Prop where
 all:∀ b∈ts,∃ o∈ords,∃ u,Gd N ns ns' x y (lyN t0 t1 t2 o u)∧W9 t0 t1 t2 N H o u b
 has:∀ o∈ords,∀ u,u < 27→dn o u→Gd N ns ns' x y (lyN t0 t1 t2 o u)→∃ b∈ts,W9 t0 t1 t2 N H o u b
section
variable {t0 t1 t2 N:Nat} {ns ns':List Int} {x y:Int} {H H':Hp} {ts:List Addr} {dn dn':Nat × Nat × Nat→Nat→Prop}
theorem LaysAt.same (h:LaysAt t0 t1 t2 N ns ns' x y H ts dn) (s:Same H H'):LaysAt t0 t1 t2 N ns ns' x y H' ts dn:=by
 refine ⟨fun b hb=>?_,fun o ho u hu d g=>?_⟩
 ·obtain ⟨o,ho,u,g,l⟩:=h.all b hb
  exact ⟨o,ho,u,g,s _ _ l⟩
 ·obtain ⟨b,hb,l⟩:=h.has o ho u hu d g
  exact ⟨b,hb,s _ _ l⟩
theorem LaysAt.weak (h:LaysAt t0 t1 t2 N ns ns' x y H ts dn) (w:∀ o∈ords,∀ u,u < 27→dn' o u→Gd N ns ns' x y (lyN t0 t1 t2 o u)→dn o u):LaysAt t0 t1 t2 N ns ns' x y H ts dn':=⟨h.all,fun o ho u hu d g=>h.has o ho u hu (w o ho u hu d g) g⟩
theorem Zm2 {o:Nat × Nat × Nat} {u:Nat} {b D:Addr} (hN:0 < N) (l:W9 t0 t1 t2 N H o u b) (hD:H D=some (.lst (ts.map V.ref))):b≠D:=fun z=>by
 unfold W9 at l
 rw [z,hD] at l
 injection l with l; injection l with l
 cases ts with
 | nil=>rw [List.map_nil] at l; have:=congrArg List.length l; simp at this; omega
 | cons a r =>
  cases e:List.range N with
  | nil=>have:=congrArg List.length e; simp at this; omega
  | cons c d=>rw [e] at l; injection l with l _; cases l
theorem LaysAt.put {o:Nat × Nat × Nat} {u:Nat} {S D:Addr} (hN:0 < N) (h:LaysAt t0 t1 t2 N ns ns' x y H ts dn) (hD:H D=some (.lst (ts.map V.ref))) (ho:o∈ords) (g:Gd N ns ns' x y (lyN t0 t1 t2 o u)) (l:W9 t0 t1 t2 N H o u S):LaysAt t0 t1 t2 N ns ns' x y (upd H D (.lst (ts.map V.ref ++ [V.ref S]))) (ts ++ [S]) (fun o' u'=>dn o' u'∨(o'=o∧u'=u)):=by
 have k:∀ o u b,W9 t0 t1 t2 N H o u b→W9 t0 t1 t2 N (upd H D (.lst (ts.map V.ref ++ [V.ref S]))) o u b:=fun o u b l=>by
  unfold W9
  rw [Zf (Zm2 hN l hD)]
  exact l
 refine ⟨fun b hb=>?_,fun o' ho' u' hu' d g'=>?_⟩
 ·rcases List.mem_append.mp hb with z | z
  ·obtain ⟨o1,h1,u1,g1,l1⟩:=h.all b z
   exact ⟨o1,h1,u1,g1,k _ _ _ l1⟩
  ·rw [List.mem_singleton.mp z]
   exact ⟨o,ho,u,g,k _ _ _ l⟩
 ·rcases d with d | ⟨rfl,rfl⟩
  ·obtain ⟨b,hb,l1⟩:=h.has o' ho' u' hu' d g'
   exact ⟨b,List.mem_append_left _ hb,k _ _ _ l1⟩
  ·exact ⟨S,List.mem_append_right _ (List.mem_singleton.mpr rfl),k _ _ _ l⟩
end
noncomputable def oV (o:Nat × Nat × Nat):List V:=[nV o.1,nV o.2.1,nV o.2.2]
theorem Znx {o:Nat × Nat × Nat} {k:Nat} (hk:k < 3):(oV o)[k]?=some (nV (clz o.1 o.2.1 o.2.2 k)):=by
 have:k=0∨k=1∨k=2:=by omega
 rcases this with rfl | rfl | rfl <;> rfl
theorem Oy {A B D k:Nat} (hk:k < 3):([A,B,D].map nV)[k]?=some (nV (clz A B D k)):=by
 have:k=0∨k=1∨k=2:=by omega
 rcases this with rfl | rfl | rfl <;> rfl
noncomputable def SmD (D:Addr) (H H':Hp):Prop:=∀ b u,b≠D→H b=some u→H' b=some u
noncomputable def Zfn:Sp:=fun vs H Q _=>∃ (r f tr sw:Addr) (ns ns':List Int) (t0 t1 t2 n:Nat) (x y:Int),vs=[.ref r,.ref f,.ref tr,.ref sw]∧Yr H r ns∧Yr H f ns'∧H tr=some (.lst ([t0,t1,t2].map nV))∧H sw=some (.dK [(Sum.inl x,.int y),(Sum.inl y,.int x)])∧ns.length=3 * n∧ns'.length=3 * n∧n≤14∧0 < n∧(t0 < n∧t1 < n∧t2 < n)∧(t0≠t1∧t0≠t2∧t1≠t2) ∧
 ∀ (l:Addr) (ts:List Addr) (H':Hp),Same H H'→H l=none→H' l=some (.lst (ts.map V.ref))→ts.length≤162→LaysAt t0 t1 t2 (3 * n) ns ns' x y H' ts (fun _ _=>True)→Q (.ref l) H'
theorem Zj6 (x y v:Int):(valV [((Sum.inl x:Key),V.int y),(Sum.inl y,.int x)] (Sum.inl v)).getD (V.int v)=V.int (swpI x y v):=by
 unfold swpI
 by_cases h1:v=x
 ·subst h1
  rw [if_pos rfl]
  simp [valV]
 ·rw [if_neg h1]
  by_cases h2:v=y
  ·subst h2
   rw [if_pos rfl]
   simp [valV,Ne.symm h1]
  ·rw [if_neg h2]
   simp [valV,Ne.symm h1,Ne.symm h2]
section
variable {P:Program} {w:World} {K:PySem.W.Frag} {mg:Str→Option Value} {base:Heap} {t:Adr}
theorem Yx:FnScope ["_law_rows_here","_law_fresh","_law_trio","_law_swap","_law_lays_here","_law_order","_law_turn","_law_spots","_law_k","_law_by","_law_side","_law_goal","_law_good","_law_p","_law_name"] ["_law_rows_here","_law_fresh","_law_trio","_law_swap"] (Zj Zba):=⟨rfl,rfl,rfl,by decide +kernel,rfl,by decide +kernel,by decide +kernel⟩
theorem Zgi (T:Txt w K mg t):FnOk P w K mg base (CXr P w) 1 t.f_l_lays t.d_l_lays ["_law_rows_here","_law_fresh","_law_trio","_law_swap"] Zfn:=by
 refine T.p_l_lays.F.aR Yx (fun cdv A outer s H vs Q E hr h=>?_)
 ·obtain ⟨r,f,tr,sw,ns,ns',t0,t1,t2,n,x,y,rfl,hr1,hf1,htr,hsw,hn,hn',n14,n0,⟨l0,l1,l2⟩,⟨h01,h02,h12⟩,k⟩:=h
  have hu:=Zab hr
  refine unwS ⟨_,(Fc ⟨(Zq (i:=4) Yx.nd rfl (Or.inl rfl) (Y4 Zc))⟩
   (Fc (Zh7 PassesOwn.never rfl (Zks (Bxt (Qi ⟨(Y8 (Za Zd (Za Zd (Za Zd Zc))))⟩ (Qi ⟨(Y8 (Za Zd (Za Zd (Za Zd Zc))))⟩ (Qi ⟨(Y8 (Za Zd (Za Zd (Za Zd Zc))))⟩ (Qi ⟨(Y8 (Za Zd (Za Zd (Za Zd Zc))))⟩ (Qi ⟨(Y8 (Za Zd (Za Zd (Za Zd Zc))))⟩ (Qi ⟨(Y8 (Za Zd (Za Zd (Za Zd Zc))))⟩ Zkz)))))))) (Zl (i:=5) Yx.nd rfl (Or.inl rfl)) (Zg (Yg PassesOwn.never rfl (Z7 rfl T.n_range (Za Zd Zc)) (Zl (i:=6) Yx.nd rfl (Or.inl rfl)) (Ze (Zq (i:=7) Yx.nd rfl (Or.inl rfl) (Qs rfl T.n_list rfl T.n_range rfl (Za (Zi Xd Zd (Zm Zh (by rfl) T.n_len PySem.boot_len (Za (pv 0) Zc))) Zc)))
   (Ze (Yg PassesOwn.never rfl (Z7 rfl T.n_range (Za Zd Zc)) (Zl (i:=8) Yx.nd rfl (Or.inl rfl)) (Ze (Zq (i:=9) Yx.nd rfl (Or.inl rfl) (Zi Yd (pv 6) (Zp Jh (Y8 (Za Zd (Za Zd (Za Zd Zc)))) (pv 8) (fun _ _=>rfl))))
   (Zg (Yg PassesOwn.never rfl (Z7 rfl T.n_range (Za Zd Zc)) (Zl (i:=10) Yx.nd rfl (Or.inl rfl)) (Ze (Zq (i:=11) Yx.nd rfl (Or.inl rfl) (Zi Xd Zd (Zp Zs (pv 2) (Zp Jh (pv 5) (pv 8) (fun _ _=>rfl)) (fun _ _=>rfl))))
   (Zg (Xn (Zi Ya (pv 11) (Zi Zz (Zi Ya (pv 10) (pv 9)) Zd)) (W1 (pv 7) (Zi Ya (Zi Xd Zd (Zp Zs (pv 2) (pv 8) (fun _ _=>rfl))) (pv 10)) Xr))))))))
   (Ze (Zq (i:=12) Yx.nd rfl (Or.inl rfl) Xv)
   (Ze (Yg PassesOwn.never rfl (Z7 rfl T.n_range (Za (Zm Zh (by rfl) T.n_len PySem.boot_len (Za (pv 7) Zc)) Zc)) (Zl (i:=13) Yx.nd rfl (Or.inl rfl)) (Ze (Zq (i:=14) Yx.nd rfl (Or.inl rfl) (Zp Jh (Zp Zs (pv 0) (Zi Yd (pv 13) Zd) (fun _ _=>rfl)) (Zi Zz (pv 13) Zd) (fun _ _=>rfl)))
   (Zg (Z8 (Zt Q5 (Zp Jh (Zp Zs (pv 1) (Zi Yd (Zp Zs (pv 7) (pv 13) (fun _ _=>rfl)) Zd) (fun _ _=>rfl)) (Zi Zz (Zp Zs (pv 7) (pv 13) (fun _ _=>rfl)) Zd) (fun _ _=>rfl)) (Vx hu (pv 3) (pv 14) (pv 14) ⟨rfl,rfl,rfl,rfl⟩) (Zu _)) (Zg (Zq (i:=12) Yx.nd rfl (Or.inl rfl) Xv)) Zy))))
   (Zg (Z8 (Xy (pv 12)) (Zg (Xg (Wg PySem.F.plainAttrs_list PySem.F.slot_list_append PySem.F.type_list_append Y2 (pv 4) (Za (pv 7) Zc)))) Zy)))))))))
   (Zh6 ⟨(Zo (pv 4))⟩))),?_⟩
  refine Zv fun nxC hnxC=>?_
  refine ⟨Nat.zero_le _,fun D hD=>?_⟩
  refine hnxC _ _ ?_
  have s1:Same H (upd H D (.lst [])):=Same.new hD
  have h1:(upd H D (.lst [])) D=some (.lst []):=Zb
  generalize upd H D (.lst [])=H1 at s1 h1 ⊢
  try dsimp only [Zn]
  refine Z4 (fun σ H'=>∃ (v5 v6 v7 v8 v9 v10 v11 v12 v13 v14:Option V) (ts:List Addr),σ=[some (.ref r),some (.ref f),some (.ref tr),some (.ref sw),some (.ref D),v5,v6,v7,v8,v9,v10,v11,v12,v13,v14]∧Same H H'∧H' D=some (.lst (ts.map V.ref))∧ts.length≤162∧LaysAt t0 t1 t2 (3 * n) ns ns' x y H' ts (fun _ _=>True)) (fun nx hnx=>?_) ?_
  ·refine ⟨(by show 3≤sizeLine; decide),fun q0 g0=>⟨(by show 3≤sizeLine; decide),fun q1 g1=>⟨(by show 3≤sizeLine; decide),fun q2 g2=>⟨(by show 3≤sizeLine; decide),fun q3 g3=>⟨(by show 3≤sizeLine; decide),fun q4 g4=>⟨(by show 3≤sizeLine; decide),fun q5 g5=>⟨(by show 6≤sizeLine; decide),fun tp gp=>?_⟩⟩⟩⟩⟩⟩⟩
   refine ⟨tp,rfl,⟨_,SqT.of Zb⟩,?_⟩
   have z5:=Same.new (o:=HO.tup [V.ref q0,V.ref q1,V.ref q2,V.ref q3,V.ref q4,V.ref q5]) gp
   have z4:=(Same.new g5).trans z5
   have z3:=(Same.new g4).trans z4
   have z2:=(Same.new g3).trans z3
   have z1:=(Same.new g2).trans z2
   have z0:=(Same.new g1).trans z1
   have zz:=(Same.new g0).trans z0
   refine Zlk (xs:=[V.ref q0,V.ref q1,V.ref q2,V.ref q3,V.ref q4,V.ref q5]) (fun i σ H3=>∃ (v5 v6 v7 v8 v9 v10 v11 v12 v13 v14:Option V) (ts:List Addr),σ=[some (.ref r),some (.ref f),some (.ref tr),some (.ref sw),some (.ref D),v5,v6,v7,v8,v9,v10,v11,v12,v13,v14]∧Same H H3∧(H3 tp=some (.tup [V.ref q0,V.ref q1,V.ref q2,V.ref q3,V.ref q4,V.ref q5])∧∀ (k:Nat) (b:Addr),[q0,q1,q2,q3,q4,q5][k]?=some b→∃ o,ords[k]?=some o∧H3 b=some (.tup (oV o)))∧H3 D=some (.lst (ts.map V.ref))∧ts.length≤27 * i∧LaysAt t0 t1 t2 (3 * n) ns ns' x y H3 ts (fun o _=>o∈ords.take i)) ⟨_,_,_,_,_,_,_,_,_,_,[],rfl,s1.trans zz,⟨Zb,fun k b e=>?_⟩,zz _ _ h1,Nat.le_refl _,⟨fun b hb=>absurd hb List.not_mem_nil,fun o _ u _ d _=>absurd d (by simp)⟩⟩ ?_ ?_ ?_
   ·match k,e with
    | 0,e=>cases e; exact ⟨(0,1,2),rfl,z0 _ _ Zb⟩
    | 1,e=>cases e; exact ⟨(0,2,1),rfl,z1 _ _ Zb⟩
    | 2,e=>cases e; exact ⟨(1,0,2),rfl,z2 _ _ Zb⟩
    | 3,e=>cases e; exact ⟨(1,2,0),rfl,z3 _ _ Zb⟩
    | 4,e=>cases e; exact ⟨(2,0,1),rfl,z4 _ _ Zb⟩
    | 5,e=>cases e; exact ⟨(2,1,0),rfl,z5 _ _ Zb⟩
    | k + 6,e=>simp at e
   ·rintro i σ H3 _ ⟨v5,v6,v7,v8,v9,v10,v11,v12,v13,v14,ts,rfl,s3,⟨e3,_⟩,_⟩
    exact SqT.of e3
   ·rintro i xx σ H3 hxx ⟨v5,v6,v7,v8,v9,v10,v11,v12,v13,v14,ts,rfl,s3,⟨e3,f3⟩,hD3,hl3,L3⟩
    have hxx':([q0,q1,q2,q3,q4,q5].map V.ref)[i]?=some xx:=hxx
    obtain ⟨qo,hqo,rfl⟩:=map_some hxx'
    obtain ⟨o,ho,hqo3⟩:=f3 i qo hqo
    have hom:o∈ords:=List.mem_of_getElem? ho
    have hi6:i < 6:=(List.getElem?_eq_some_iff.mp hqo).1
    have hqD:qo≠D:=fun z=>by rw [z,hD3] at hqo3; cases hqo3
    have htD:tp≠D:=fun z=>by rw [z,hD3] at e3; cases e3
    try dsimp only [Zn]
    refine ⟨27,rfl,by decide,by decide,?_⟩
    refine Yy (n:=27) (fun j σ H4=>∃ (v6 v7 v8 v9 v10 v11 v12 v13 v14:Option V) (ts:List Addr),σ=[some (.ref r),some (.ref f),some (.ref tr),some (.ref sw),some (.ref D),some (.ref qo),v6,v7,v8,v9,v10,v11,v12,v13,v14]∧Same H H4∧SmD D H3 H4∧H4 D=some (.lst (ts.map V.ref))∧ts.length≤27 * i + j∧LaysAt t0 t1 t2 (3 * n) ns ns' x y H4 ts (fun o' u'=>o'∈ords.take i∨(o'=o∧u' < j))) ⟨_,_,_,_,_,_,_,_,_,ts,rfl,s3,fun b u _ e=>e,hD3,by omega,L3.weak fun o' _ u' _ d _=>by rcases d with d | ⟨_,d⟩; exact d; omega⟩ ?_ ?_
    ·rintro j σ H4 hj ⟨v6,v7,v8,v9,v10,v11,v12,v13,v14,ts,rfl,s4,m4,hD4,hl4,L4⟩
     have ej:(0 + (j:Int))=(j:Int):=Int.zero_add _
     try dsimp only [Zn]
     rw [ej]
     have hr4:=hr1.same s4
     have hf4:=hf1.same s4
     have htr4:=s4 _ _ htr
     have hsw4:=s4 _ _ hsw
     have hqo4:=m4 _ _ hqD hqo3
     obtain ⟨rs,rs1,rs2,rs3⟩:=id hr4
     refine Zv fun nxC hnxC=>?_
     refine ⟨_,rfl,r,_,rfl,.inl (SqL.of rs1),_,_,rfl,rfl,.inl ⟨by decide,by decide⟩,3 * n,by rw [List.length_map,show rs.length=n by omega]; show [V.int (3 * (n:Int))]=[V.int ((3 * n:Nat):Int)]; rw [show (3 * (n:Int))=((3 * n:Nat):Int) by omega],by omega,fun S hS=>?_⟩
     show nxC _ _
     refine (fun (G:∀ H5:Hp,Same H4 H5→H5 S=some (.lst ((lyL t0 t1 t2 o j (3 * n) 0).map nV))→nxC _ H5)=>G _ (Same.new hS) (by rw [Zb,Ziq]; rfl)) ?_
     intro H5 s5 h5
     refine hnxC _ _ ?_
     have hSD:S≠D:=fun z=>by rw [z,hD4] at hS; cases hS
     have hS0:H4 S=none:=hS
     clear rs rs1 rs2 rs3
     refine Z4 (fun σ H6=>∃ (v8 v9 v10 v11:Option V),σ=[some (.ref r),some (.ref f),some (.ref tr),some (.ref sw),some (.ref D),some (.ref qo),some (.int (j:Int)),some (.ref S),v8,v9,v10,v11,v12,v13,v14]∧Same H4 H6∧H6 S=some (.lst ((lyL t0 t1 t2 o j (3 * n) 9).map nV))) (fun nx2 hnx2=>?_) ?_
     ·refine ⟨3,rfl,by decide,by decide,?_⟩
      refine Yy (n:=3) (fun kk σ H6=>∃ (v8 v9 v10 v11:Option V),σ=[some (.ref r),some (.ref f),some (.ref tr),some (.ref sw),some (.ref D),some (.ref qo),some (.int (j:Int)),some (.ref S),v8,v9,v10,v11,v12,v13,v14]∧Same H4 H6∧H6 S=some (.lst ((lyL t0 t1 t2 o j (3 * n) (3 * kk)).map nV))) ⟨_,_,_,_,rfl,s5,h5⟩ ?_ (fun σ H' h=>hnx2 _ _ h)
      rintro kk σ H6 hkk ⟨v8,v9,v10,v11,rfl,s6,h6⟩
      have ek:(0 + (kk:Int))=(kk:Int):=Int.zero_add _
      try dsimp only [Zn]
      rw [ek]
      have hT:clz t0 t1 t2 kk < n:=by rcases Wp (A:=t0) (B:=t1) (D:=t2) kk with e | e | e <;> rw [e] <;> assumption
      have hO:=Zms hom kk
      have hT2:clz t0 t1 t2 (clz o.1 o.2.1 o.2.2 kk) < n:=by rcases Wp (A:=t0) (B:=t1) (D:=t2) (clz o.1 o.2.1 o.2.2 kk) with e | e | e <;> rw [e] <;> assumption
      refine Zv fun nxC hnxC=>?_
      have p9:0 < clz 1 3 9 kk∧clz 1 3 9 kk≤9:=by rcases Wp (A:=1) (B:=3) (D:=9) kk with e | e | e <;> rw [e] <;> decide
      refine ⟨_,rfl,(by show 3≤sizeLine; decide),fun t9 ht9=>⟨_,rfl,t9,_,_,_,rfl,rfl,SqT.of Zb,Yu (Oy (A:=1) (B:=3) (D:=9) hkk),_,_,rfl,rfl,⟨by omega,by omega⟩,?_⟩⟩
      show nxC _ _
      refine (fun (G:∀ H7:Hp,Same H6 H7→nxC _ H7)=>G _ (Same.new ht9)) ?_
      intro H7 s7
      refine hnxC _ _ ?_
      have s47:=s6.trans s7
      have h7:=s7 _ _ h6
      clear s6 s7 h6 ht9
      refine ⟨3,rfl,by decide,by decide,?_⟩
      refine Yy (n:=3) (fun sd σ H8=>∃ (v10 v11:Option V),σ=[some (.ref r),some (.ref f),some (.ref tr),some (.ref sw),some (.ref D),some (.ref qo),some (.int (j:Int)),some (.ref S),some (.int (kk:Int)),some (.int ((j:Int) / ((clz 1 3 9 kk:Nat):Int))),v10,v11,v12,v13,v14]∧Same H4 H8∧H8 S=some (.lst ((lyL t0 t1 t2 o j (3 * n) (3 * kk + sd)).map nV))) ⟨_,_,rfl,s47,h7⟩ ?_ (fun σ H' ⟨w10,w11,a1,a2,a3⟩=>⟨_,_,w10,w11,a1,a2,a3⟩)
      rintro sd σ H8 hsd ⟨v10,v11,rfl,s8,h8⟩
      have es:(0 + (sd:Int))=(sd:Int):=Int.zero_add _
      try dsimp only [Zn]
      rw [es]
      have htr8:=s8 _ _ htr4
      have hqo8:=s8 _ _ hqo4
      refine Zv fun nxC hnxC=>?_
      refine ⟨_,rfl,_,rfl,_,rfl,qo,_,_,_,rfl,rfl,SqT.of hqo8,Yu (Znx hkk),tr,_,_,_,rfl,rfl,SqL.of htr8,Yu (Oy hO),_,_,rfl,rfl,.inl ⟨by decide,by decide⟩,?_⟩
      refine hnxC _ _ ?_
      try dsimp only [Zn]
      have hpos:3 * clz t0 t1 t2 kk + sd < 3 * n:=by omega
      have hlen:3 * clz t0 t1 t2 kk + sd < ((lyL t0 t1 t2 o j (3 * n) (3 * kk + sd)).map nV).length:=by rw [List.length_map,U7]; exact hpos
      have epos:(3 * ((clz t0 t1 t2 kk:Nat):Int) + (sd:Int))=((3 * clz t0 t1 t2 kk + sd:Nat):Int):=by omega
      have eval:(3 * ((clz t0 t1 t2 (clz o.1 o.2.1 o.2.2 kk):Nat):Int) + ((sd:Int) + (j:Int) / ((clz 1 3 9 kk:Nat):Int)) % 3)=((lyN t0 t1 t2 o j (3 * clz t0 t1 t2 kk + sd):Nat):Int):=by
       rw [Zm1 h01 h02 h12 hkk hsd]
       omega
      refine ⟨_,rfl,_,rfl,_,rfl,_,_,rfl,rfl,_,_,rfl,rfl,(by show (0:Int) < 3; decide),_,_,rfl,rfl,?_⟩
      refine ⟨_,rfl,_,rfl,_,rfl,tr,_,_,_,rfl,rfl,SqL.of htr8,Yu (Oy hkk),_,_,rfl,rfl,.inl ⟨by decide,by decide⟩,_,rfl,_,_,rfl,rfl,S,_,_,3 * clz t0 t1 t2 kk + sd,rfl,congrArg V.int epos,h8,Wf hlen,?_⟩
      refine ⟨_,_,rfl,Same.add s8 hS0,?_⟩
      rw [Zb,show 3 * kk + (sd + 1)=3 * kk + sd + 1 by omega,← Zir h01 h02 h12 hkk hsd hpos,List.map_set]
      congr 3
      exact congrArg V.int eval
     rintro σ H6 ⟨v8,v9,v10,v11,rfl,s6,h6⟩
     rw [Zis] at h6
     clear s5 h5
     refine Zv fun nxC hnxC=>?_
     refine hnxC _ _ ?_
     try dsimp only [Zn]
     have hr6:=hr4.same s6
     have hf6:=hf4.same s6
     have hsw6:=s6 _ _ hsw4
     have hD6:=s6 _ _ hD4
     have L6:=L4.same s6
     refine Z4 (fun σ H7=>∃ (g:Bool) (v13 v14:Option V),σ=[some (.ref r),some (.ref f),some (.ref tr),some (.ref sw),some (.ref D),some (.ref qo),some (.int (j:Int)),some (.ref S),v8,v9,v10,v11,some (.bl g),v13,v14]∧H7=H6∧(g=true ↔ Gd (3 * n) ns ns' x y (lyN t0 t1 t2 o j))) (fun nx2 hnx2=>?_) ?_
     ·refine ⟨_,rfl,S,_,rfl,.inl (SqL.of h6),_,rfl,by omega,by rw [List.length_map,List.length_map,List.length_range]; omega,?_⟩
      have eL:(((((List.range (3 * n)).map (lyN t0 t1 t2 o j)).map nV).length:Nat):Int).toNat=3 * n:=by rw [Int.toNat_natCast,List.length_map,List.length_map,List.length_range]
      rw [eL]
      refine Yy (n:=3 * n) (fun p σ H7=>∃ (g:Bool) (v13 v14:Option V),σ=[some (.ref r),some (.ref f),some (.ref tr),some (.ref sw),some (.ref D),some (.ref qo),some (.int (j:Int)),some (.ref S),v8,v9,v10,v11,some (.bl g),v13,v14]∧H7=H6∧(g=true ↔ ∀ z,z < p→ns'[lyN t0 t1 t2 o j z]?=(ns[z]?).map (swpI x y))) ⟨true,_,_,rfl,rfl,⟨fun _ z hz=>by omega,fun _=>rfl⟩⟩ ?_ (fun σ H' ⟨g,w13,w14,a1,a2,a3⟩=>hnx2 _ _ ⟨g,w13,w14,a1,a2,a3⟩)
      rintro p σ H7 hp ⟨g,v13,v14,rfl,rfl,hg⟩
      have ep:(0 + (p:Int))=(p:Int):=Int.zero_add _
      try dsimp only [Zn]
      rw [ep]
      obtain ⟨nm,hnm⟩:∃ z,ns[p]?=some z:=⟨_,List.getElem?_eq_getElem (by omega)⟩
      obtain ⟨us,uq,e1,e2,e3',e4⟩:=Kp hr6 hnm
      refine Zv fun nxC hnxC=>?_
      refine ⟨_,rfl,_,rfl,_,_,rfl,rfl,⟨by decide,by decide⟩,r,_,_,_,rfl,rfl,SqL.of e1,(by rw [div3]; exact Z0 e2),_,rfl,_,_,rfl,rfl,(by show (0:Int) < 3; decide),uq,_,_,_,rfl,rfl,SqT.of e3',(by rw [mod3]; exact Yu e4),?_⟩
      refine hnxC _ _ ?_
      try dsimp only [Zn]
      have hlp:lyN t0 t1 t2 o j p < 3 * n:=Zm0 l0 l1 l2 hp
      obtain ⟨nm',hnm'⟩:∃ z,ns'[lyN t0 t1 t2 o j p]?=some z:=⟨_,List.getElem?_eq_getElem (by omega)⟩
      obtain ⟨us',uq',e1',e2',e3'',e4'⟩:=Kp hf6 hnm'
      have hsp:atI (((List.range (3 * n)).map (lyN t0 t1 t2 o j)).map nV) (p:Int)=some (nV (lyN t0 t1 t2 o j p)):=Z0 (by rw [List.getElem?_map,List.getElem?_range hp]; rfl)
      refine ⟨_,rfl,_,rfl,_,rfl,S,_,_,_,rfl,rfl,SqL.of h6,hsp,_,_,rfl,rfl,⟨by decide,by decide⟩,f,_,_,_,rfl,rfl,SqL.of e1',(by rw [div3]; exact Z0 e2'),_,rfl,_,rfl,S,_,_,_,rfl,rfl,SqL.of h6,hsp,_,_,rfl,rfl,(by show (0:Int) < 3; decide),uq',_,_,_,rfl,rfl,SqT.of e3'',(by rw [mod3]; exact Yu e4'),_,rfl,sw,rfl,.inl ⟨_,.inl hsw6⟩,_,rfl,_,rfl,_,DGet.k (k:=Sum.inl nm) hsw6,?_⟩
      rw [Zj6]
      refine ⟨rfl,_,rfl,?_⟩
      refine ite2 (fun z=>?_) (fun z=>?_)
      ·refine ⟨false,_,_,rfl,rfl,⟨fun q=>Bool.noConfusion q,fun q=>?_⟩⟩
       exfalso
       have:=q p (Nat.lt_succ_self _)
       rw [hnm,hnm'] at this
       have:=Option.some.inj this
       rw [this] at z
       simp at z
      ·refine ⟨g,_,_,rfl,rfl,⟨fun q z' hz'=>?_,fun q=>hg.mpr fun z' hz'=>q z' (Nat.lt_succ_of_lt hz')⟩⟩
       rcases Nat.lt_or_ge z' p with c | c
       ·exact hg.mp q z' c
       ·have:z'=p:=by omega
        subst this
        rw [hnm,hnm']
        have:nm'=swpI x y nm:=by
         have z:=z
         simp at z
         exact z
        rw [this]
        rfl
     rintro σ H7 ⟨g,v13,v14,rfl,rfl,hg⟩
     refine ⟨_,rfl,_,rfl,?_⟩
     have m6:SmD D H3 H7:=fun b u hb e=>s6 _ _ (m4 b u hb e)
     have s06:Same H H7:=s4.trans s6
     cases g with
     | false =>
      refine iteF ⟨_,_,_,_,_,_,_,_,_,ts,rfl,s06,m6,hD6,by omega,L6.weak fun o' _ u' _ d gd=>?_⟩
      rcases d with d | ⟨rfl,d⟩
      ·exact .inl d
      ·rcases Nat.lt_or_ge u' j with c | c
       ·exact .inr ⟨rfl,c⟩
       ·have:u'=j:=by omega
        subst this
        exact absurd (hg.mpr gd) Bool.false_ne_true
     | true =>
      have hgd:=hg.mp rfl
      refine iteT ⟨_,rfl,.inl ⟨rfl,_,SqL.of hD6⟩,_,rfl,D,_,_,rfl,rfl,hD6,(by rw [List.length_map]; exact Zx (by omega)),?_⟩
      refine ⟨_,_,_,_,_,_,_,_,_,ts ++ [S],rfl,Same.add s06 hD,fun b u hb e=>by rw [Zf hb]; exact m6 b u hb e,by rw [Zb,List.map_append]; rfl,by rw [List.length_append,List.length_singleton]; omega,(L6.put (by omega) hD6 hom hgd h6).weak fun o' _ u' _ d _=>?_⟩
      rcases d with d | ⟨rfl,d⟩
      ·exact .inl (.inl d)
      ·rcases Nat.lt_or_ge u' j with c | c
       ·exact .inl (.inr ⟨rfl,c⟩)
       ·exact .inr ⟨rfl,by omega⟩
    ·rintro σ H4 ⟨v6,v7,v8,v9,v10,v11,v12,v13,v14,ts,rfl,s4,m4,hD4,hl4,L4⟩
     refine ⟨_,_,_,_,_,_,_,_,_,_,ts,rfl,s4,⟨m4 _ _ htD e3,fun k b e=>?_⟩,hD4,by omega,L4.weak fun o' _ u' hu' d _=>?_⟩
     ·obtain ⟨o2,ho2,hb2⟩:=f3 k b e
      exact ⟨o2,ho2,m4 _ _ (fun z=>by rw [z,hD3] at hb2; cases hb2) hb2⟩
     ·rw [List.take_add_one,ho] at d
      rcases List.mem_append.mp d with d | d
      ·exact .inl d
      ·have:o'=o:=by simpa using d
       exact .inr ⟨this,hu'⟩
   ·rintro σ H3 ⟨v5,v6,v7,v8,v9,v10,v11,v12,v13,v14,ts,rfl,s3,_,hD3,hl3,L3⟩
    refine hnx _ _ ⟨_,_,_,_,_,_,_,_,_,_,ts,rfl,s3,hD3,by have:ts.length≤27 * 6:=hl3; omega,L3.weak fun o ho u hu _ _=>?_⟩
    exact ho
  ·rintro σ H3 ⟨v5,v6,v7,v8,v9,v10,v11,v12,v13,v14,ts,rfl,s3,hD3,hl3,L3⟩
   exact ⟨_,rfl,k D ts H3 s3 hD hD3 hl3 L3⟩
end
end KT
set_option maxHeartbeats 4000000
namespace KT
open PySem L2
noncomputable def evB (z:Int):Bool:=decide (V.int (z % 2)=V.int 0)
theorem Jm {α:Type} {l:List α} {i:Nat} {x:α} (h:l[i]?=some x):l.take (i + 1)=l.take i ++ [x]:=by rw [List.take_add_one,h]; rfl
theorem Zl2 {x y:Int} (k:Nat):atI [V.int x,V.int y] ((k:Int) % 2)=some (V.int (if k % 2=0 then x else y)):=by
 have e:((k:Int) % 2)=((k % 2:Nat):Int):=by omega
 rw [e]
 have:k % 2=0∨k % 2=1:=by omega
 rcases this with c | c
 ·rw [c,if_pos rfl]; rfl
 ·rw [c,if_neg (by decide)]; rfl
theorem Zkr {ts:List Addr} {pick:Int} (h:0 < ts.length):∃ q,atI (ts.map V.ref) (pick % (((ts.map V.ref).length:Nat):Int))=some (V.ref q)∧q∈ts:=by
 rw [List.length_map]
 have k0:=Int.emod_nonneg pick (show (ts.length:Int)≠0 by omega)
 have k1:=Int.emod_lt_of_pos pick (show (0:Int) < ts.length by omega)
 obtain ⟨kk,hkk⟩:∃ kk:Nat,pick % (ts.length:Int)=kk:=⟨_,(Int.toNat_of_nonneg k0).symm⟩
 have hkl:kk < ts.length:=by omega
 rw [hkk]
 exact ⟨_,Z0 (List.getElem?_eq_getElem hkl),List.getElem_mem hkl⟩
structure LeftAt (t0 t1 t2 N:Nat) (ns ns':List Int) (x y:Int) (o:Nat × Nat × Nat) (u:Nat) (H:Hp) (ts:List Addr):Prop where
 all:∀ b∈ts,∃ o'∈ords,∃ u',Gd N ns ns' x y (lyN t0 t1 t2 o' u')∧W9 t0 t1 t2 N H o' u' b
 has:∃ b∈ts,W9 t0 t1 t2 N H o u b
theorem LeftAt.same {t0 t1 t2 N:Nat} {ns ns':List Int} {x y:Int} {o:Nat × Nat × Nat} {u:Nat} {H H':Hp} {ts:List Addr} (h:LeftAt t0 t1 t2 N ns ns' x y o u H ts) (s:Same H H'):LeftAt t0 t1 t2 N ns ns' x y o u H' ts:=by
 refine ⟨fun b hb=>?_,?_⟩
 ·obtain ⟨o',ho,u',g,l⟩:=h.all b hb
  exact ⟨o',ho,u',g,s _ _ l⟩
 ·obtain ⟨b,hb,l⟩:=h.has
  exact ⟨b,hb,s _ _ l⟩
section
variable {P:Program} {w:World} {K:PySem.W.Frag} {mg:Str→Option Value} {base:Heap} {t:Adr}
theorem Ym:FnScope ["_law_script","_law_mates","_law_rows_here","_law_tent_here","_law_pairs_here","_law_one","_law_other","_law_trio","_law_first","_law_second","_law_ways","_law_moves","_law_ties","_law_names","_law_k","_law_spots","_law_lays_here","_law_at","_law_word","_law_found","_law_due"] ["_law_script"] (Zj Zjl):=⟨rfl,rfl,rfl,by decide +kernel,rfl,by decide +kernel,by decide +kernel⟩
theorem ok_law (T:Txt w K mg t):FnOk P w K mg base (CXr P w) 9 t.f_law t.d_law ["_law_script"] (sp_law K):=by
  refine T.p_law.F.aR Ym (fun cdv A outer s H vs Q E hr h=>?_)
  · obtain ⟨a,sc,rfl,hS,hl,k⟩:=h
    refine ⟨_,(Ze (Xn (pcT (Zge T) hr T.p_l_tent (Za (pv 0) Zc)) (W0 rfl (Z2 (Zl (i:=1) Ym.nd rfl (Or.inl rfl)) (Z2 (Zl (i:=2) Ym.nd rfl (Or.inl rfl)) X1))))
      (Ze (Zq (i:=3) Ym.nd rfl (Or.inl rfl) (Zdl T.mk_Tent (Uu T) (hr.mono (by decide)) rfl T.gC_Tent T.p_Tent_init.b .nil Wh (Za (Ys Yo (by rfl) T.n_list PySem.Pv.boot_list (Za (pv 2) Zc)) Zc)))
      (Ze (Zq (i:=4) Ym.nd rfl (Or.inl rfl) (pcT (Zeq T) hr T.p_l_pairs (Za (pv 1) Zc)))
      (Ze (Z8 (Zt Yv (Zm Zh (by rfl) T.n_len PySem.boot_len (Za (pv 4) Zc)) Zd (Zu _)) (Zg (Zo (Jq Yv (O2 (pv 3) T.cl_Tent T.p_Tent_size.m (Zbt T) (hr.mono (by decide)) T.p_Tent_size.b .nil Wh) (Zm Zh (by rfl) T.n_len PySem.boot_len (Za (pv 2) Zc)) (Zu _)))) Zy)
      (Ze (Xn (Zp Zs (pv 4) (Zi Zz (pcT (Jf T) hr T.p_l_cell (Za (pv 0) (Za Zd Zc))) (Zm Zh (by rfl) T.n_len PySem.boot_len (Za (pv 4) Zc))) (fun _ _=>rfl)) (W0 rfl (Z2 (Zl (i:=5) Ym.nd rfl (Or.inl rfl)) (Z2 (Zl (i:=6) Ym.nd rfl (Or.inl rfl)) (Z2 (Zl (i:=7) Ym.nd rfl (Or.inl rfl)) X1)))))
      (Ze (Zq (i:=8) Ym.nd rfl (Or.inr rfl) (pcT (Ur T) hr T.p_l_seam (Za (pv 2) (Za (pv 5) Zc))))
      (Ze (Zq (i:=9) Ym.nd rfl (Or.inr rfl) (pcT (Ur T) hr T.p_l_seam (Za (pv 2) (Za (pv 6) Zc))))
      (Ze (Zq (i:=10) Ym.nd rfl (Or.inr rfl) (pcT (Qu T) hr T.p_l_numbers (Za (pcT (Jf T) hr T.p_l_cell (Za (pv 0) (Za Zd Zc))) (Za Zd Zc))))
      (Ze (Zq (i:=11) Ym.nd rfl (Or.inr rfl) (Y0 (ts:=["_law_k"]) (fv:=[("_law_first",8),("_law_second",9),("_law_ways",10)]) ⟨rfl,by decide +kernel,by decide +kernel,Yh (by rfl),⟨⟨rfl,rfl,Or.inl rfl⟩,⟨rfl,rfl,Or.inl rfl⟩,⟨rfl,rfl,Or.inl rfl⟩,trivial⟩⟩ rfl (Z7 rfl T.n_range (Za Zd Zc)) (fun _ _ _ _=>(Zl (i:=0) (show List.Nodup (["_law_k","_law_first","_law_second","_law_ways"]:List Str) from by decide +kernel) rfl (Or.inl rfl) (Or.inr rfl))) (fun _ _ _ _=>Y1) (fun _ _ _=>rfl) (fun _ _ _ _ _ _=>Yj (Y8 (Za (Zp (Zdw K) (Y8 (Za (pv 1) (Za (pv 2) Zc))) (Zi Zz (pv 0) Zd) (fun _ _=>rfl)) (Za (pcT (Zik T) hr T.p_l_way (Za (Jq Yv (Zi Zz (Zp (Yw K) (pv 3) (pv 0) (fun _ _=>rfl)) Zd) Zd (Zu _)) Zc)) Zc))))))
      (Ze (Zq (i:=12) Ym.nd rfl (Or.inr rfl) (Ys Yo (by rfl) T.n_list PySem.Pv.boot_list (Za (pv 1) Zc)))
      (Ze (Zq (i:=13) Ym.nd rfl (Or.inr rfl) (Ys Yo (by rfl) T.n_list PySem.Pv.boot_list (Za (pv 2) Zc)))
      (Ze (Yg PassesOwn.never rfl (Z7 rfl T.n_range (Za Zd Zc)) (Zl (i:=14) Ym.nd rfl (Or.inr rfl)) (Ze (Xs (ts:=["_law_p"]) (fv:=[("_law_names",13),("_law_moves",11),("_law_k",14)]) (i:=15) ⟨rfl,by decide +kernel,by decide +kernel,Yh (by rfl),⟨⟨rfl,rfl,Or.inl rfl⟩,⟨rfl,rfl,Or.inl rfl⟩,⟨rfl,rfl,Or.inl rfl⟩,trivial⟩⟩ rfl Ym.nd rfl rfl (by rfl) (Yt (pcT (Fh T) hr T.p_l_free (Za (pv 12) Zc))) (fun _ _ _ _=>(Zl (i:=0) (show List.Nodup (["_law_p","_law_names","_law_moves","_law_k"]:List Str) from by decide +kernel) rfl (Or.inl rfl) (Or.inr rfl))) (fun _ _ _ _=>(Jc (Zt Yv (pcT (Ur T) hr T.p_l_seam (Za (pv 1) (Za (pv 0) Zc))) (Zp (Zdw K) (Zp (Yw K) (pv 2) (pv 3) (fun _ _=>rfl)) Zd (fun _ _=>rfl)) (Zu _)))) (fun _ _ _=>rfl) (fun _ _ _ _ _ _=>Yj (pv 0)))
      (Ze (Z8 (Zt Yv (Zm Zh (by rfl) T.n_len PySem.boot_len (Za (pv 15) Zc)) Zd (Zu _)) (Zg (Zo Xv)) Zy)
      (Zg (Xn (pcT (Zeo T) hr T.p_l_shift (Za (pv 12) (Za (pv 13) (Za (pcT (Zer T) hr T.p_l_goals (Za (pv 12) (Za (Zp Zs (pv 15) Zd (fun _ _=>rfl)) (Za (Jq Yv (Zi Zz (Zp Zs (pv 10) (pv 14) (fun _ _=>rfl)) Zd) Zd (Zu _)) Zc)))) Zc)))) (W0 rfl (Z2 (Zl (i:=12) Ym.nd rfl (Or.inr rfl)) (Z2 (Zl (i:=13) Ym.nd rfl (Or.inr rfl)) X1))))))))
      (Ze (Z8 (Xz (Xy (pcT (Zcx T) hr T.p_l_cloths (Za (O2 (pcT (Zgj T) hr T.p_driven (Za (pv 3) (Za (Ys Yo (by rfl) T.n_list PySem.Pv.boot_list (Za (pv 11) Zc)) Zc))) T.cl_Tent T.p_Tent_rows.m (Ut T) (hr.mono (by decide)) T.p_Tent_rows.b .nil Wh) (Za (pv 13) Zc))))) (Zg (Zo Xv)) Zy)
      (Ze (Zq (i:=16) Ym.nd rfl (Or.inl rfl) (pcT (Zgi T) hr T.p_l_lays (Za (pv 2) (Za (pv 13) (Za (pv 7) (Za (Gp (Xt (pv 8) (pv 9) (Xt (pv 9) (pv 8) Go)) rfl rfl (List.cons_ne_nil _ _) (by decide)) Zc))))))
      (Ze (Yg PassesOwn.never rfl (Zf6 rfl T.n_range (Za Zd (Za Zd Zc))) (Zl (i:=17) Ym.nd rfl (Or.inl rfl)) (Ze (Zq (i:=18) Ym.nd rfl (Or.inr rfl) (pcT (Zcw T) hr T.p_l_thread (Za (pv 0) (Za (pv 17) (Za (pv 1) Zc)))))
      (Zg (Z8 (Zt U6 (Zm Zh (by rfl) T.n_len PySem.boot_len (Za (pv 18) Zc)) Zd (Zu _)) (Ze (Zq (i:=19) Ym.nd rfl (Or.inl rfl) (pcT (Kw T) hr T.p_pulled_along (Za (pv 3) (Za (Ys Yo (by rfl) T.n_list PySem.Pv.boot_list (Za (pv 11) Zc)) (Za (Ys Yo (by rfl) T.n_list PySem.Pv.boot_list (Za (pv 18) Zc)) Zc)))))
      (Ze (Z8 (Xz (Xy (pcT (Zep T) hr T.p_l_plain (Za (pv 12) (Za (pv 19) Zc))))) (Zg (Zo Xv)) Zy)
      (Ze (Zq (i:=20) Ym.nd rfl (Or.inr rfl) (pcT (Kx T) hr T.p_l_least (Za (pv 12) (Za (pv 19) Zc))))
      (Zg (Zcs (y0:="_law_lay") (ts:=["_law_lay"]) (fv:=[("_law_due",20),("_law_ties",12),("_law_word",18)]) (i:=16) ⟨rfl,by decide +kernel,by decide +kernel,Yh (by rfl),⟨⟨rfl,rfl,Or.inl rfl⟩,⟨rfl,rfl,Or.inl rfl⟩,⟨rfl,rfl,Or.inl rfl⟩,trivial⟩,fun _ _=>rfl,fun _=>rfl,rfl⟩ rfl Ym.nd rfl rfl (by rfl) (Yt (pv 16)) (fun _ _ _ _=>(Zl (i:=0) (show List.Nodup (["_law_lay","_law_due","_law_ties","_law_word"]:List Str) from by decide +kernel) rfl (Or.inr rfl) (Or.inl rfl))) (fun _ _ _ _=>(Jc (Zt (Zk1 K hr.units) (pcT (Kx T) hr T.p_l_least (Za (pv 2) (Za (Y0 (ts:=["_law_p"]) (fv:=[("_law_lay",0)]) ⟨rfl,by decide +kernel,by decide +kernel,Yh (by rfl),⟨⟨rfl,rfl,Or.inl rfl⟩,trivial⟩⟩ rfl (Zia K (pv 3)) (fun _ _ _ _=>(Zl (i:=0) (show List.Nodup (["_law_p","_law_lay"]:List Str) from by decide +kernel) rfl (Or.inl rfl) (Or.inr rfl))) (fun _ _ _ _=>Y1) (fun _ _ _=>rfl) (fun _ _ _ _ _ _=>Yj (Zp (Yw K) (pv 1) (pv 0) (fun _ _=>rfl)))) Zc))) (pv 1) (Zu _)))) (fun _ _ _=>rfl) (fun _ _ _ _ _ _=>Yj (pv 0))))))) Zy))))
      (Zg (Zo (Jq U6 (Zm Zh (by rfl) T.n_len PySem.boot_len (Za (pv 16) Zc)) Zd (Zu _))))))))))))))))))),?_⟩
    refine Zv fun nxC hnxC=>?_
    refine ⟨_,rfl,a,sc,rfl,hS,hl,fun p m r M ns H1 sm1 hp hm hr1 td h42 hm0 hr0=>?_⟩
    refine ⟨p,_,rfl,SqT.of hp,rfl,_,_,rfl,_,_,rfl,rfl,?_⟩
    refine hnxC _ _ ?_
    obtain ⟨ts,g1,g2,g3⟩:=id hr1
    refine Zv fun nxC hnxC=>?_
    refine ⟨_,rfl,r,_,rfl,.inl (SqL.of g1),fun l hl1=>?_⟩
    intro x dx hx hdx hne
    obtain ⟨rl2,s2⟩:=Zho (C:=t.C_Tent) g1 g2 g3 hl1 hx hdx
    refine ⟨x,l,dx,M,ns,rfl,Zb,rl2,td,by rw [td.len]; omega,fun H3 old ta=>⟨rfl,?_⟩⟩
    have s3:Same H1 H3:=fun b u e=>old b u (Zk ((Same.new hl1) b u e) hx) (s2 b u ((Same.new hl1) b u e))
    refine hnxC _ _ ?_
    have hr3:=hr1.same s3
    have hm3:=s3 _ _ hm
    have sH3:=sm1.trans s3
    have hMl:M.length=ns.length:=td.len.symm
    clear old rl2 s2 g1 g2 g3 hr1 hm0 hr0 hp hm s3 sm1 hx hdx hne hl1
    obtain ⟨n,n1,n40,hn⟩:=td.n
    have inv:InvM M:=td.inv
    have n14:n≤14:=by omega
    try dsimp only [Zn]
    refine Zv fun nxC hnxC=>?_
    refine ⟨_,rfl,m,M,rfl,hm3,h42,inv,fun pl prs H4 s4 hpl h4 hprl hprs=>?_⟩
    refine hnxC _ _ ?_
    have hm4:=s4 _ _ hm3
    have hr4:=hr3.same s4
    have ta4:=ta.same s4
    have sH4:=sH3.trans s4
    have hS4:=sH4.seq hS
    clear s4 sH3 hm3 hr3 ta hpl
    try dsimp only [Zn]
    refine Zv fun nxC hnxC=>?_
    refine ⟨_,rfl,pl,_,rfl,.inl (SqL.of h4),rfl,_,rfl,?_⟩
    refine ite2 (fun z=>?_) (fun z=>?_)
    · obtain ⟨ts4,w1,w2,w3⟩:=hr4
      obtain ⟨dx4,cl4,na4,sp4,mt4,o4,ff4,b4⟩:=id ta4
      refine ⟨_,rfl,x,dx4,_,rfl,b4.ins,Y5 _ _ _ _,x,M,ns,n,rfl,ta4,by omega,_,rfl,r,_,rfl,.inl (SqL.of w1),rfl,?_⟩
      show Q (.bl (decide (V.int n=V.int ((ts4.map V.ref).length:Nat)))) H4
      rw [List.length_map,show ts4.length=n by omega,show decide (V.int (n:Int)=V.int n)=true by simp]
      exact k _
    have hp0:0 < prs.length:=by
      cases prs with
      | nil=>exact absurd rfl z
      | cons _ _=>simp
    clear z
    try dsimp only [X8]
    refine hnxC _ _ ?_
    obtain ⟨pq,e0,hpq⟩:=Zkr (pick:=cell sc 3) hp0
    obtain ⟨q,j,u,v,t0,t1,t2,sd,e1,e2,⟨hj,hqj,hc⟩,⟨hv,huv,hd⟩,hqu,hlt,hmem⟩:=hprs pq hpq
    refine Zv fun nxC hnxC=>?_
    refine ⟨_,rfl,_,rfl,a,sc,3,rfl,hS4,hl,by decide,by decide,_,rfl,pl,_,rfl,.inl (SqL.of h4),_,_,rfl,rfl,(by rw [List.length_map]; omega),pl,_,_,_,rfl,rfl,SqL.of h4,e0,?_⟩
    refine ⟨pq,_,rfl,SqT.of e1,rfl,_,_,rfl,_,_,rfl,_,_,rfl,rfl,?_⟩
    refine hnxC _ _ ?_
    clear e0 e1 hprs hpq hp0 h4 hprl
    try dsimp only [Zn]
    obtain ⟨nmq,hnm⟩:∃ z,ns[q]?=some z:=⟨_,List.getElem?_eq_getElem (by have:=(List.getElem?_eq_some_iff.mp hj).1; omega)⟩
    obtain ⟨nmu,hnu⟩:∃ z,ns[u]?=some z:=⟨_,List.getElem?_eq_getElem (by have:=(List.getElem?_eq_some_iff.mp hv).1; omega)⟩
    refine Zv fun nxC hnxC=>?_
    refine ⟨_,rfl,_,rfl,r,ns,q,nmq,rfl,hr4,hnm,?_⟩
    refine hnxC _ _ ?_
    try dsimp only [Zn]
    refine Zv fun nxC hnxC=>?_
    refine ⟨_,rfl,_,rfl,r,ns,u,nmu,rfl,hr4,hnu,?_⟩
    refine hnxC _ _ ?_
    try dsimp only [Zn]
    refine Zv fun nxC hnxC=>?_
    refine ⟨_,rfl,a,sc,4,rfl,hS4,hl,by decide,by decide,cell sc 4,5,rfl,by decide,fun wy xs H5 s5 hwy h5 hx5 hxr=>?_⟩
    refine hnxC _ _ ?_
    have hm5:=s5 _ _ hm4
    have hr5:=hr4.same s5
    have ta5:=ta4.same s5
    have sH5:=sH4.trans s5
    have e25:=s5 _ _ e2
    clear s5 hm4 hr4 ta4 sH4 hS4 hwy e2 hxr
    try dsimp only [Zn]
    obtain ⟨sa,sb,sx,sy,two,pt,hT⟩:=Zmr td hj hqj hc hv huv hd hqu hnm hnu hlt hmem
    obtain ⟨ls,hls⟩:∃ ls,ls=xs.map evB:=⟨_,rfl⟩
    have hl5:ls.length=5:=by rw [hls,List.length_map]; exact hx5
    obtain ⟨oo,ou,hou,uu,huu,hgd,htn⟩:=Zg4 td two pt hl5 (by omega) (by omega) (by omega) hT
    have hls_at:∀ kk:Nat,kk < 5→∃ wz,xs[kk]?=some wz∧ls[kk]?=some (evB wz):=fun kk hk=>by
      obtain ⟨wz,hw⟩:∃ wz,xs[kk]?=some wz:=⟨_,List.getElem?_eq_getElem (by omega)⟩
      exact ⟨wz,hw,by rw [hls,List.getElem?_map,hw]; rfl⟩
    clear hls
    refine Zv fun nxC hnxC=>?_
    refine ⟨5,rfl,by decide,by decide,fun D hD=>?_⟩
    refine Xq (n:=5) (fun i σ H6=>∃ v0,σ=[v0,some (.int nmq),some (.int nmu),some (.ref wy)]∧Same H5 H6∧Xi H6 D ((alt ls nmq nmu).take i)) ⟨none,rfl,Same.new hD,[],Zb,rfl,fun k t q e _=>by simp at e⟩ ?_ ?_
    · rintro i σ H6 hi ⟨v0,rfl,s6,h6⟩
      have ei:(0 + (i:Int))=(i:Int):=Int.zero_add _
      try dsimp only [Zn]
      rw [ei]
      obtain ⟨wz,hw,hlw⟩:=hls_at i hi
      have ag:=Gw ls nmq nmu i _ hlw
      refine ⟨_,rfl,_,rfl,(by show 2≤sizeLine; decide),fun tq htq=>?_⟩
      have s7:Same H6 (upd H6 tq (.tup [.int nmq,.int nmu])):=Same.new htq
      refine ⟨_,rfl,_,_,rfl,rfl,(by show (0:Int) < 2; decide),tq,_,_,_,rfl,rfl,SqT.of Zb,Zl2 i,_,rfl,_,rfl,wy,_,_,_,rfl,rfl,SqL.of (s7 _ _ (s6 _ _ h5)),Z0 hw,_,_,rfl,rfl,(by show (0:Int) < 2; decide),rfl,evB wz,rfl,(by show 2≤sizeLine; decide),fun mq hmq=>?_⟩
      have s8:=s7.trans (Same.new (o:=HO.tup [V.int (if i % 2=0 then nmq else nmu),V.str (wayS (evB wz))]) hmq)
      obtain ⟨us,u1,u2,u3⟩:=h6.same s8
      refine ⟨_,u1,(by rw [List.length_map,u2,List.length_take,Of,hl5]; exact Zx (by omega)),_,rfl,Same.add (s6.trans s8) hD,?_⟩
      rw [Jm ag]
      exact Xi.put u1 u2 u3 Zb
    rintro σ H6 ⟨v0,rfl,s6,hmv⟩
    refine hnxC _ _ ?_
    rw [List.take_of_length_le (by rw [Of]; omega)] at hmv
    have hm6:=s6 _ _ hm5
    have hr6:=hr5.same s6
    have ta6:=ta5.same s6
    have sH6:=sH5.trans s6
    have e26:=s6 _ _ e25
    have hw6:=s6 _ _ h5
    clear s6 hm5 hr5 ta5 sH5 e25 h5 hD
    try dsimp only [Zn]
    refine Zv fun nxC hnxC=>?_
    refine ⟨_,rfl,m,_,rfl,.inl (SqL.of hm6),fun m0 hm0=>?_⟩
    show nxC _ _
    refine (fun (G:∀ H7:Hp,Same H6 H7→H7 m0=some (.lst (M.map mV))→nxC _ H7)=>G _ (Same.new hm0) Zb) ?_
    intro H7 s7 h7
    refine hnxC _ _ ?_
    obtain ⟨ts,g1,g2,g3⟩:=hr6.same s7
    refine Zv fun nxC hnxC=>?_
    refine ⟨_,rfl,r,_,rfl,.inl (SqL.of g1),fun r0 hr0=>?_⟩
    show nxC _ _
    refine (fun (G:∀ H8:Hp,Same H7 H8→Yr H8 r0 ns→nxC _ H8)=>G _ (Same.new hr0) ⟨ts,Zb,g2,fun k t e=>(Same.new hr0) _ _ (g3 k t e)⟩) ?_
    intro H8 s8 h8
    refine hnxC _ _ ?_
    have s68:=s7.trans s8
    have h78:=s8 _ _ h7
    have hm8:=s68 _ _ hm6
    have hr8:=hr6.same s68
    have ta8:=ta6.same s68
    have sH8:=sH6.trans s68
    have e28:=s68 _ _ e26
    have hw8:=s68 _ _ hw6
    have hmv8:=hmv.same s68
    clear s7 s8 s68 h7 g1 g2 g3 hm0 hr0 hm6 hr6 ta6 sH6 e26 hw6 hmv
    try dsimp only [Zn]
    refine Z4 (fun σ H'=>∃ (m' r':Addr) (v14 v15:Option V),σ=[some (.ref a),some (.ref m),some (.ref r),some (.ref x),some (.ref pl),some (.int (q:Int)),some (.int (u:Int)),some (.ref sd),some (.int nmq),some (.int nmu),some (.ref wy),some (.ref D),some (.ref m'),some (.ref r'),v14,v15,none,none,none,none,none]∧Same H8 H'∧H' m'=some (.lst ((runM ls (sa,sb,sx,sy) M).map mV))∧Yr H' r' (runN ls (sa,sb,sx,sy) ns)) (fun nx hnx=>?_) ?_
    · refine ⟨5,rfl,by decide,by decide,?_⟩
      refine Yy (n:=5) (fun i σ H'=>∃ (m' r':Addr) (v14 v15:Option V),σ=[some (.ref a),some (.ref m),some (.ref r),some (.ref x),some (.ref pl),some (.int (q:Int)),some (.int (u:Int)),some (.ref sd),some (.int nmq),some (.int nmu),some (.ref wy),some (.ref D),some (.ref m'),some (.ref r'),v14,v15,none,none,none,none,none]∧Same H8 H'∧H' m'=some (.lst ((runM (ls.take i) (sa,sb,sx,sy) M).map mV))∧Yr H' r' (runN (ls.take i) (sa,sb,sx,sy) ns)) ⟨m0,r0,none,none,rfl,Same.refl _,h78,h8⟩ ?_ (fun σ H' ⟨m',r',w14,w15,a1,a2,a3,a4⟩=>hnx _ _ ⟨m',r',w14,w15,a1,a2,by rw [List.take_of_length_le (by omega)] at a3; exact a3,by rw [List.take_of_length_le (by omega)] at a4; exact a4⟩)
      rintro i σ H9 hi ⟨m',r',v14,v15,rfl,s9,h9,hr9⟩
      have ei:(0 + (i:Int))=(i:Int):=Int.zero_add _
      try dsimp only [Zn]
      rw [ei]
      obtain ⟨wz,hw,hlw⟩:=hls_at i hi
      obtain ⟨td',len',ia,ib,hmvk,eM,eN⟩:=Zj8 td two oo hlw
      rw [eM,eN]
      generalize runM (ls.take i) (sa,sb,sx,sy) M=M' at h9 td' len' hmvk
      generalize runN (ls.take i) (sa,sb,sx,sy) ns=ns' at hr9 td' hmvk
      generalize hnk:(if i % 2=0 then nmq else nmu)=nk at hmvk
      have inv':InvM M':=td'.inv
      obtain ⟨ha,hb⟩:=hmvk.lts td'
      have ag:=Gw ls nmq nmu i _ hlw
      rw [hnk] at ag
      obtain ⟨us,u1,u2,u3⟩:=hmv8.same s9
      obtain ⟨uq,huq⟩:∃ uq,us[i]?=some uq:=⟨_,List.getElem?_eq_getElem (by rw [u2,Of]; omega)⟩
      have huq3:=u3 i uq _ huq ag
      refine Zv fun nxC hnxC=>?_
      refine ⟨_,rfl,m',M',rfl,h9,by omega,inv',fun fl HA sA hfl hA=>?_⟩
      refine ⟨fl,rfl,⟨_,SqL.of hA⟩,fun D2 hD2=>?_⟩
      have fle:=Gu (M:=M')
      refine Y9 (xs:=(Xb M').map nV) (fun c σ HB=>∃ v0,σ=[v0,some (.ref r'),some (.ref D),some (.int (i:Int))]∧Same HA HB∧HB D2=some (.lst ((((Xb M').take c).filter fun z=>decide (ns'[z]?=some nk)).map nV))) ⟨none,rfl,Same.new hD2,Zb⟩ ?_ ?_ ?_
      · rintro c σ HB _ ⟨v0,rfl,sB,hB⟩
        exact SqL.of (sB _ _ hA)
      · rintro c y σ HB hy ⟨v0,rfl,sB,hB⟩
        obtain ⟨z,hz,rfl⟩:=map_some hy
        obtain ⟨zj,hzj,_,_⟩:=V3 (List.mem_of_getElem? hz)
        obtain ⟨nz,hnz⟩:∃ w,ns'[z]?=some w:=⟨_,List.getElem?_eq_getElem (by rw [td'.len]; exact (List.getElem?_eq_some_iff.mp hzj).1)⟩
        have sAB:=sA.trans sB
        try dsimp only [Zn]
        refine ⟨_,rfl,_,rfl,r',ns',z,nz,rfl,hr9.same sAB,hnz,_,rfl,_,rfl,D,_,_,_,rfl,rfl,SqL.of (sAB _ _ u1),Z0 huq,uq,_,_,_,rfl,rfl,SqT.of (sAB _ _ huq3),rfl,rfl,_,rfl,?_⟩
        have hlen:((((Xb M').take c).filter fun z=>decide (ns'[z]?=some nk)).map nV).length < sizeLine:=by
          rw [List.length_map]
          refine Zx ?_
          have h1:=List.length_filter_le (fun z=>decide (ns'[z]?=some nk)) ((Xb M').take c)
          have h2:((Xb M').take c).length≤(Xb M').length:=by rw [List.length_take]; omega
          omega
        refine ite2 (fun y=>?_) (fun y=>?_)
        · have e:nz=nk:=by
            have:=of_decide_eq_true y
            injection this
          refine ⟨_,rfl,_,hB,hlen,_,rfl,Same.add sB hD2,?_⟩
          rw [Zb,Jm hz,List.filter_append,List.filter_cons_of_pos (by rw [hnz,e]; simp),List.map_append]
          rfl
        · have e:nz≠nk:=fun e=>y (by rw [e]; simp)
          refine ⟨_,rfl,sB,?_⟩
          rw [hB,Jm hz,List.filter_append,List.filter_cons_of_neg (by rw [hnz]; simpa using e)]
          simp
      rintro σ HB ⟨v0,rfl,sB,hB⟩
      refine hnxC _ _ ?_
      rw [List.length_map,List.take_length] at hB
      have sAB:=sA.trans sB
      have hm0:ia∈(Xb M').filter fun z=>decide (ns'[z]?=some nk):=by
        refine List.mem_filter.mpr ⟨List.mem_filter.mpr ⟨List.mem_range.mpr ha,?_⟩,by rw [hmvk.nm]; simp⟩
        unfold Wo
        rw [hmvk.hM]
        have:=hmvk.lt
        have:=hmvk.ab
        simp [*]
      have hall:∀ z∈(Xb M').filter fun z=>decide (ns'[z]?=some nk),z=ia:=fun z hz=>by
        obtain ⟨h1,h2⟩:=List.mem_filter.mp hz
        obtain ⟨zj,k1,k2,_⟩:=V3 h1
        exact hmvk.only td' (of_decide_eq_true h2) k1 k2
      generalize (Xb M').filter (fun z=>decide (ns'[z]?=some nk))=zs at hB hm0 hall
      try dsimp only [Zn]
      refine Zv fun nxC hnxC=>?_
      refine ⟨_,rfl,D2,_,rfl,.inl (SqL.of hB),rfl,_,rfl,?_⟩
      cases zs with
      | nil=>exact absurd hm0 List.not_mem_nil
      | cons z0 zr =>
        have hz0:=hall z0 List.mem_cons_self
        subst hz0
        refine ite2 (fun y=>absurd y (by simp; omega)) (fun _=>?_)
        try dsimp only [X8]
        refine hnxC _ _ ?_
        have s9B:=s9.trans sAB
        have h9B:=sAB _ _ h9
        refine ⟨_,rfl,_,rfl,_,rfl,_,rfl,D2,_,_,_,rfl,rfl,SqL.of hB,(show atI (List.map nV (z0 :: zr)) ((0:Nat):Int)=some (nV z0) from Z0 rfl),_,rfl,_,rfl,wy,_,_,_,rfl,rfl,SqL.of (s9B _ _ hw8),Z0 hw,_,_,rfl,rfl,(by show (0:Int) < 2; decide),rfl,m',M',n,z0,ib,evB wz,rfl,h9B,by rw [len']; exact hn,n40,hmvk.hM,(inv' _ _ hmvk.hM).1,hmvk.ab,fun gl HC sC hgl hC=>?_⟩
        refine ⟨m',r',gl,M',ns',z0,ib,evB wz,rfl,sC _ _ h9B,(hr9.same sAB).same sC,hC,td',ha,hb,hmvk.ab,fun p' m2 r2 HE sE hp' hmE hrE=>?_⟩
        refine ⟨p',_,rfl,SqT.of hp',rfl,_,_,rfl,_,_,rfl,rfl,?_⟩
        exact ⟨m2,r2,_,_,rfl,(s9B.trans sC).trans sE,hmE,hrE⟩
    rintro σ H9 ⟨m',r',v14,v15,rfl,s9,h9,hr9⟩
    obtain ⟨td5,len5,row5,_,thr⟩:=U2 ls (sa,sb,sx,sy) M ns nmq nmu td two oo
    generalize hM5:runM ls (sa,sb,sx,sy) M=M5 at h9 td5 len5 row5 thr
    generalize hn5:runN ls (sa,sb,sx,sy) ns=ns5 at hr9 td5 row5 thr hgd
    have hm9:=s9 _ _ hm8
    have hr9':=hr8.same s9
    have ta9:=ta8.same s9
    have sH9:=sH8.trans s9
    have e29:=s9 _ _ e28
    have hmv9:=hmv8.same s9
    clear s9 hm8 hr8 ta8 sH8 e28 hmv8 hw8 h8 h78 hM5 hn5
    refine Zv fun nxC hnxC=>?_
    obtain ⟨us,u1,u2,u3⟩:=id hmv9
    refine ⟨_,rfl,_,rfl,D,_,rfl,.inl (SqL.of u1),fun l1 hl1=>?_⟩
    have sA:Same H9 (upd H9 l1 (.lst (us.map V.ref))):=Same.new hl1
    refine ⟨x,l1,M,M5,ns,ns5,_,rfl,ta9.same sA,td,Xi.copy (l:=D) hl1 u2 u3,row5,fun x' HB sB taB=>?_⟩
    obtain ⟨dxf,clf,naf,spf,mtf,of,fff,bf⟩:=id taB
    refine ⟨x',dxf,_,rfl,bf.ins,Y5 _ _ _ _,x',M5,ns5,rfl,taB,fun lr ts hlr ts1 ts2=>?_⟩
    have sC:Same HB (upd HB lr (.lst (ts.map V.ref))):=Same.new hlr
    have s9C:=(sA.trans sB).trans sC
    refine ⟨_,rfl,lr,r',ns5,rfl,⟨ts,Zb,ts1,fun k' t' e=>sC _ _ (ts2 k' t' e)⟩,hr9.same s9C,by rw [td5.len]; omega,fun HD sD=>⟨_,rfl,iteF ?_⟩⟩
    try dsimp only [X8]
    refine hnxC _ _ ?_
    have s9D:=s9C.trans sD
    have hm8:=s9D _ _ hm9
    have hr8:=hr9'.same s9D
    have ta8:=ta9.same s9D
    have sH8:=sH9.trans s9D
    have e28:=s9D _ _ e29
    have hmv8:=hmv9.same s9D
    have h8:=s9D _ _ h9
    have hr8':=hr9.same s9D
    clear s9D s9C sA sB sC sD taB bf hl1 hlr ts1 ts2 hm9 hr9' ta9 sH9 e29 hmv9 h9 hr9 u1 u2 u3 us row5
    have xy:nmq≠nmu:=fun z=>by
      have h1:=two.ny
      rw [← z] at h1
      obtain ⟨bc,ne,ab,db,ad⟩:=pt
      rcases td.eqv sa sx nmq two.nx h1 with kk | kk
      · rw [kk] at ab; exact ab bc.symm
      · have e:M[sa]?=some (some sb):=two.e
        rw [e] at kk
        exact ne (Option.some.inj (Option.some.inj kk))
    have hb:=fun t=>hT t
    have tn:t0 < n∧t1 < n∧t2 < n:=by
      have h1:=(List.getElem?_eq_some_iff.mp (show M[sa]?=some (some sb) from two.e)).1
      have h2:=(List.getElem?_eq_some_iff.mp (td.inv _ _ (show M[sa]?=some (some sb) from two.e)).1).1
      have h3:=(List.getElem?_eq_some_iff.mp (td.inv _ _ (show M[sx]?=some (some sy) from two.f)).1).1
      have kk:∀ t,(t=t0∨t=t1∨t=t2)→t < n:=fun t ht=>by
        rcases (hT t).mp ht with e | e | e <;> rw [e] <;> omega
      exact ⟨kk _ (.inl rfl),kk _ (.inr (.inl rfl)),kk _ (.inr (.inr rfl))⟩
    refine Zv fun nxC hnxC=>?_
    refine ⟨_,rfl,_,rfl,_,rfl,fun dd hdd=>?_⟩
    refine ⟨_,rfl,_,rfl,_,rfl,_,rfl,Zb,[(Sum.inl nmq,.int nmu),(Sum.inl nmu,.int nmq)],rfl,(by show 2≤15; decide),?_⟩
    have emg:W4 [] [((Sum.inl nmq:Key),V.int nmu),(Sum.inl nmu,.int nmq)]=[(Sum.inl nmq,.int nmu),(Sum.inl nmu,.int nmq)]:=Vy _ [] (by simpa using xy)
    rw [emg,Zjz]
    have sA:Same HD (upd HD dd (.dK [(Sum.inl nmq,.int nmu),(Sum.inl nmu,.int nmq)])):=Same.new hdd
    refine ⟨r,r',sd,dd,ns,ns5,t0,t1,t2,n,nmq,nmu,rfl,hr8.same sA,hr8'.same sA,sA _ _ e28,Zb,by omega,by rw [td5.len]; omega,n14,by omega,tn,⟨by omega,by omega,by omega⟩,fun ll lts HE sE hll hE hltl hL=>?_⟩
    refine hnxC _ _ ?_
    have sDE:=sA.trans sE
    have lft:LeftAt t0 t1 t2 (3 * n) ns ns5 nmq nmu ou uu HE lts:=⟨hL.all,hL.has ou hou uu huu trivial (by rw [← hn]; exact hgd)⟩
    have hmE:=sDE _ _ hm8
    have taE:=ta8.same sDE
    have sHE:=sH8.trans sDE
    have hmvE:=hmv8.same sDE
    have hE':=sDE _ _ h8
    clear sDE sA sE hm8 ta8 sH8 hmv8 h8 hdd hL hr8 hr8' e28 emg
    try dsimp only [Zn]
    refine Z4 (fun σ H'=>∃ (l':Addr) (lts':List Addr) (v17 v18 v19 v20:Option V),σ=[some (.ref a),some (.ref m),some (.ref r),some (.ref x),some (.ref pl),some (.int (q:Int)),some (.int (u:Int)),some (.ref sd),some (.int nmq),some (.int nmu),some (.ref wy),some (.ref D),some (.ref m'),some (.ref r'),v14,v15,some (.ref l'),v17,v18,v19,v20]∧Same HE H'∧H' l'=some (.lst (lts'.map V.ref))∧lts'.length≤162∧LeftAt t0 t1 t2 (3 * n) ns ns5 nmq nmu ou uu H' lts') (fun nx hnx=>?_) ?_
    · refine ⟨5,7,rfl,⟨by decide,by decide,by decide,by decide⟩,?_⟩
      refine Yy (lo:=5) (n:=2) (fun i σ H'=>∃ (l':Addr) (lts':List Addr) (v17 v18 v19 v20:Option V),σ=[some (.ref a),some (.ref m),some (.ref r),some (.ref x),some (.ref pl),some (.int (q:Int)),some (.int (u:Int)),some (.ref sd),some (.int nmq),some (.int nmu),some (.ref wy),some (.ref D),some (.ref m'),some (.ref r'),v14,v15,some (.ref l'),v17,v18,v19,v20]∧Same HE H'∧H' l'=some (.lst (lts'.map V.ref))∧lts'.length≤162∧LeftAt t0 t1 t2 (3 * n) ns ns5 nmq nmu ou uu H' lts') ⟨ll,lts,_,_,_,_,rfl,Same.refl _,hE,hltl,lft⟩ ?_ (fun σ H' h=>hnx _ _ h)
      rintro i σ HF hi ⟨l',lts',v17,v18,v19,v20,rfl,sF,hF,hlF,lF⟩
      try dsimp only [Zn]
      refine Zv fun nxC hnxC=>?_
      refine ⟨_,rfl,_,rfl,_,rfl,a,m,sc,5 + (i:Int),M,rfl,(sHE.trans sF).seq hS,hl,by omega,by omega,sF _ _ hmE,h42,⟨_,hn⟩,inv,fun wd ws HG sG hwd hG hw60 hpl=>?_⟩
      refine hnxC _ _ ?_
      try dsimp only [Zn]
      have sEG:=sF.trans sG
      refine ⟨_,rfl,wd,_,rfl,.inl (SqL.of hG),_,_,rfl,rfl,_,rfl,?_⟩
      refine ite2 (fun z=>?_) (fun _=>⟨_,_,_,_,_,_,rfl,sEG,sG _ _ hF,hlF,lF.same sG⟩)
      have hP:Pl M ws:=by
        rcases hpl with rfl | hP
        · exact absurd (of_decide_eq_true z) (by simp)
        · exact hP
      clear hpl z
      obtain ⟨roww,pl5,_⟩:=thr ws hP (by rw [hl5]; omega)
      have tn5:=htn ws hP hw60
      generalize runW ls (sa,sb,sx,sy) M ws=w5 at roww pl5 tn5
      have hw5:w5.length≤60:=by
        have:=tn5.len
        rw [List.length_map] at this
        omega
      refine Zv fun nxC hnxC=>?_
      obtain ⟨us,u1,u2,u3⟩:=hmvE.same sEG
      refine ⟨_,rfl,_,rfl,D,_,rfl,.inl (SqL.of u1),fun l1 hl1=>?_⟩
      have sA:Same HG (upd HG l1 (.lst (us.map V.ref))):=Same.new hl1
      have hA:=Xi.copy (l:=D) hl1 u2 u3
      refine ⟨_,rfl,wd,_,rfl,.inl (SqL.of (sA _ _ hG)),fun l2 hl2=>?_⟩
      have sB:Same (upd HG l1 (.lst (us.map V.ref))) (upd (upd HG l1 (.lst (us.map V.ref))) l2 (.lst (ws.map nV))):=Same.new hl2
      refine ⟨x,l1,l2,M,M5,ns,ns5,ws,w5,_,rfl,(taE.same sEG).same (sA.trans sB),td,hA.same sB,Zb,by omega,hP,roww,fun lf HH sH hlf hH=>?_⟩
      refine hnxC _ _ ?_
      have sGH:=(sA.trans sB).trans sH
      have sEH:=sEG.trans sGH
      clear sA sB sH hA hlf hl1 hl2 u1 u2 u3
      try dsimp only [Zn]
      refine Zv fun nxC hnxC=>?_
      refine ⟨_,rfl,_,rfl,m',lf,_,_,rfl,sEH _ _ hE',hH,by omega,pl5,_,rfl,iteF ?_⟩
      try dsimp only [X8]
      refine hnxC _ _ ?_
      refine Zv fun nxC hnxC=>?_
      refine ⟨_,rfl,_,rfl,m',lf,_,_,rfl,sEH _ _ hE',hH,by omega,pl5,fun ld L1 HI sI hld hI il1=>?_⟩
      refine hnxC _ _ ?_
      have sGI:=sGH.trans sI
      have sEI:=sEH.trans sI
      have hwI:=sGI _ _ hG
      have hFI:=sGI _ _ (sG _ _ hF)
      have lI:=(lF.same sG).same sGI
      have hmI:=sEI _ _ hE'
      clear sGH sEH sI sGI hH hG hF lF sF sG
      try dsimp only [Zn]
      refine ⟨_,rfl,l',rfl,⟨_,SqL.of hFI⟩,fun D2 hD2=>?_⟩
      refine Y9 (xs:=lts'.map V.ref) (fun c σ HJ=>∃ (v0:Option V) (zs:List Addr),σ=[v0,some (.ref ld),some (.ref m'),some (.ref wd)]∧Same HI HJ∧HJ D2=some (.lst (zs.map V.ref))∧zs.length≤c∧(∀ b∈zs,b∈lts')∧∀ b∈lts'.take c,W9 t0 t1 t2 (3 * n) HI ou uu b→b∈zs) ⟨none,[],rfl,Same.new hD2,Zb,Nat.le_refl _,fun b hb=>absurd hb List.not_mem_nil,fun b hb=>absurd hb (by simp)⟩ ?_ ?_ ?_
      · rintro c σ HJ _ ⟨v0,zs,rfl,sJ,hJ,_⟩
        exact SqL.of (sJ _ _ hFI)
      · rintro c y σ HJ hy ⟨v0,zs,rfl,sJ,hJ,hzl,hz1,hz2⟩
        obtain ⟨b,hb,rfl⟩:=map_some hy
        have hbm:=List.mem_of_getElem? hb
        have hcl:c < lts'.length:=(List.getElem?_eq_some_iff.mp hb).1
        obtain ⟨o',ho',u',g',lay'⟩:=lI.all b hbm
        have plr:Pl M5 (ws.map (lyN t0 t1 t2 o' u')):=Pl.ren td td5 (fun p q=>Zds (by omega) (by omega) (by omega) ho') (fun p q e=>by rw [Wt,Wt,e]) (by rw [hn]; exact g') hP
        try dsimp only [Zn]
        refine ⟨_,rfl,_,rfl,wd,rfl,⟨_,SqL.of (sJ _ _ hwI)⟩,fun D3 hD3=>?_⟩
        refine Y9 (xs:=ws.map nV) (fun d σ HK=>∃ (v0:Option V),σ=[v0,some (.ref b)]∧Same HJ HK∧HK D3=some (.lst (((ws.take d).map (lyN t0 t1 t2 o' u')).map nV))) ⟨none,rfl,Same.new hD3,Zb⟩ ?_ ?_ ?_
        · rintro d σ HK _ ⟨v0,rfl,sK,hK⟩
          exact SqL.of (sK _ _ (sJ _ _ hwI))
        · rintro d y2 σ HK hy2 ⟨v0,rfl,sK,hK⟩
          obtain ⟨p,hp,rfl⟩:=map_some hy2
          have hpM:p < 3 * n:=by
            obtain ⟨mm,hmm⟩:=hP.has p (List.mem_of_getElem? hp)
            have:=(List.getElem?_eq_some_iff.mp hmm).1
            omega
          try dsimp only [Zn]
          refine ⟨_,rfl,_,rfl,b,_,_,_,rfl,rfl,SqL.of (sK _ _ (sJ _ _ lay')),Z0 (x:=lyN t0 t1 t2 o' u' p) (by rw [List.getElem?_map,List.getElem?_range hpM]; rfl),_,hK,(by rw [List.length_map,List.length_map,List.length_take]; exact Zx (by omega)),_,rfl,Same.add sK hD3,?_⟩
          rw [Zb,Jm hp,List.map_append,List.map_append]
          rfl
        rintro σ HK ⟨v0',rfl,sK,hK⟩
        rw [List.length_map,List.take_length] at hK
        have sIK:=sJ.trans sK
        refine ⟨m',D3,M5,ws.map (lyN t0 t1 t2 o' u'),rfl,sIK _ _ hmI,hK,by rw [List.length_map]; omega,plr,fun la L2 HL sL hla hL2 il2=>?_⟩
        have sJL:=sK.trans sL
        refine ⟨_,rfl,la,ld,L2,L1,rfl,rfl,SqL.of hL2,SqL.of ((sJ.trans sJL) _ _ hI),_,rfl,?_⟩
        have lzl:(zs.map V.ref).length < sizeLine:=by rw [List.length_map]; exact Zx (by omega)
        refine ite2 (fun e=>?_) (fun e=>?_)
        · refine ⟨_,rfl,_,sJL _ _ hJ,lzl,_,zs ++ [b],rfl,Same.add (sJ.trans sJL) hD2,by rw [Zb,List.map_append]; rfl,by rw [List.length_append,List.length_singleton]; omega,fun b' hb'=>?_,fun b' hb' hl'=>?_⟩
          · rcases List.mem_append.mp hb' with e | e
            · exact hz1 b' e
            · rw [List.mem_singleton.mp e]; exact hbm
          · rw [Jm hb] at hb'
            rcases List.mem_append.mp hb' with e | e
            · exact List.mem_append_left _ (hz2 b' e hl')
            · exact List.mem_append_right _ e
        · refine ⟨_,zs,rfl,sJ.trans sJL,sJL _ _ hJ,by omega,hz1,fun b' hb' hl'=>?_⟩
          rw [Jm hb] at hb'
          rcases List.mem_append.mp hb' with e' | e'
          · exact hz2 b' e' hl'
          · exfalso
            have eb:=List.mem_singleton.mp e'
            subst eb
            have el:ws.map (lyN t0 t1 t2 o' u')=ws.map (lyN t0 t1 t2 ou uu):=by
              unfold W9 at hl' lay'
              rw [hl'] at lay'
              injection lay' with lay'; injection lay' with lay'
              refine List.map_congr_left fun p hp=>?_
              have hpM:p < 3 * n:=by
                obtain ⟨mm,hmm⟩:=hP.has p hp
                have:=(List.getElem?_eq_some_iff.mp hmm).1
                omega
              have:=congrArg (fun l=>l[p]?) lay'
              simp only [List.getElem?_map,List.getElem?_range hpM,Option.map_some] at this
              have:=Option.some.inj this
              injection this with this
              exact (Int.ofNat_inj.mp this).symm
            rw [el] at il2
            refine e (decide_eq_true ?_)
            exact HT.IsLeast.eq il2 il1 fun y=>by
              obtain ⟨s',hs',e⟩:=tn5.rot
              rw [e]
              exact Zfc hs' (List.length_pos_iff.mpr pl5.ne) y
      rintro σ HJ ⟨v0,zs,rfl,sJ,hJ,hzl,hz1,hz2⟩
      rw [List.length_map] at hzl hz2
      rw [List.take_length] at hz2
      refine ⟨D2,zs,_,_,_,_,rfl,sEI.trans sJ,hJ,by omega,⟨fun b hb=>?_,?_⟩⟩
      · obtain ⟨o',ho',u',g',lay'⟩:=lI.all b (hz1 b hb)
        exact ⟨o',ho',u',g',sJ _ _ lay'⟩
      · obtain ⟨b,hb,lay'⟩:=lI.has
        exact ⟨b,hz2 b hb lay',sJ _ _ lay'⟩
    rintro σ HF ⟨l',lts',v17,v18,v19,v20,rfl,sF,hF,hlF,lF⟩
    refine ⟨_,rfl,l',_,rfl,.inl (SqL.of hF),_,_,rfl,rfl,?_⟩
    obtain ⟨b,hb,_⟩:=lF.has
    have:0 < lts'.length:=List.length_pos_of_mem hb
    show Q (.bl (decide ((((lts'.map V.ref).length:Nat):Int) > 0))) HF
    rw [decide_eq_true (by rw [List.length_map]; omega)]
    exact k _
end
end KT
set_option maxHeartbeats 4000000
open PySem PySem.W PyProof.Rows
namespace PySem.W.Fast
def tw5216112041025241177:=0
def tw2951498107365876373:=0
def tw7426888692661867387:=0
def tw4854167117465189967:=0
def tw7181213190874000000:=0
def tw3623622113014749285:=0
def tw8606256931712303866:=0
def tw955955752735446872:=0
def tw15393924405841747910:=0
def tw14003504231073365890:=0
def tw11449812222524043756:=0
def tw13117124663941879016:=0
def tw17855182240221022729:=0
def tw7549016015733791992:=0
def tw13750804261264747291:=0
def tw3691611185768935192:=0
def tw12309670850489072757:=0
def tw14829610105482687954:=0
def tw9932395780936537981:=0
def tw16175963812980347261:=0
def tw5196009856678071139:=0
def tw12760273919559009674:=0
def tw4278167645284505893:=0
def tw15288880287338479343:=0
def tw5300585664265165903:=0
def tw11728647703026668616:=0
def tw142552311278227755:=0
def tw6540017696868257981:=0
def tw7644383850690785265:=0
def tw9264920221186025374:=0
def tw8692800525169411249:=0
def tw8121623253574922740:=0
def tw2518395586381832766:=0
def tw14960312221907446021:=0
def tw2956239303959962806:=0
def tw7607525998066142941:=0
def tw1134042229356623768:=0
def tw7318962807528403307:=0
def tw10104694998358332673:=0
def tw17068829797363549407:=0
def tw3026931050536310987:=0
def tw5208713393154648435:=0
def tw15722151728242511826:=0
def tw16610189874462179456:=0
def tw12897103143644350449:=0
def tw7501659540171701817:=0
def tw15085721385231113713:=0
def tw15146373339014877227:=0
def tw17473852655355507422:=0
def tw7098893719302226334:=0
def tw1522532343244762893:=0
def tw3937100230210025609:=0
def tw17975216827454414037:=0
def tw8769532105295296971:=0
def tw111641049773136488:=0
def tw4095720028453369848:=0
def tw17812320693740228656:=0
def tw8000595672274868438:=0
def tw15910974151078200975:=0
def tw16370521920364884878:=0
def tw11446681517772015236:=0
def tw7700683120961764435:=0
def tw18221568913749873878:=0
def tw8812384312232472899:=0
def tw5659357101286844837:=0
def tw17244935438053539714:=0
def tw265087104131121938:=0
def tw9761289506798502378:=0
def tw2575945885672328517:=0
def tw5278564380162998820:=0
def tw7794559999146870581:=0
def tw15108258970326778750:=0
def tw10343358352195047996:=0
def tw10449322058956296345:=0
def tw1136621403724368478:=0
def tw4507923708528878373:=0
def tw16563374356198194883:=0
def tw9732392958767901943:=0
def tw18381796792040754700:=0
def tw13594472637696677389:=0
def tw9230927030049670043:=0
def tw12454584939738625507:=0
def tw17654893931963735970:=0
def tw4187974661442316457:=0
def tw11273776746794309717:=0
def tw7523329039513128349:=0
def tw16733813423617509772:=0
def tw3460023895905007260:=0
def tw8209613472222473942:=0
def tw16146268780098335350:=0
def tw13136657696262911199:=0
def tw1753383096905960285:=0
def tw5193388577789625286:=0
def tw3724502567017060751:=0
def tw12386190111038062988:=0
def tw17437513782387023780:=0
def tw12965744747822118931:=0
def tw11273807137024093199:=0
def tw8965492485420757073:=0
def tw16747842549206675216:=0
def tw5664300808909503971:=0
def tw9639754407467736041:=0
def tw14842121243326845690:=0
def tw11695716213185044204:=0
def tw11150562398922450923:=0
def tw17935878848032462748:=0
def tw303588066474209125:=0
def tw14768443086883056420:=0
def tw17138922947237592081:=0
def tw17619115965112278666:=0
def tw15071230277113897906:=0
def tw9038134986488434517:=0
def tw12849233726403971118:=0
def tw2282141760266234414:=0
def tw17492547204323616977:=0
def tw12307905969133202700:=0
def tw3973538937440706003:=0
def tw2615060779495801156:=0
def tw7793502763261529987:=0
def tw17009729309726700809:=0
def tw3016223452158881656:=0
def tw13824733618167754973:=0
def tw3353222732696547014:=0
def tw15382912028883855498:=0
def tw16432215082775673365:=0
def tw9730435236237222417:=0
def tw7974821423141876681:=0
def tw14760307250417911188:=0
def tw379615517334541997:=0
def tw8204604769294612061:=0
def tw15182821169960994482:=0
def tw10347869600153149971:=0
def tw11510876942053242333:=0
def tw7974482109649490225:=0
def tw874578155442414375:=0
def tw9394221966655735847:=0
def tw14441957407126733909:=0
def tw14433874648545031995:=0
def tw254652365979882952:=0
def tw4763301709184755966:=0
def tw11019660538339566917:=0
def tw8767037098855453530:=0
def tw15793984050439132184:=0
def tw4443030925545612068:=0
def tw4025522226681201899:=0
def tw5091741716820040467:=0
def tw14919634558488687451:=0
def tw428944354843642860:=0
def tw5432658218360451087:=0
def tw4202821431608777131:=0
def tw1349589806862701646:=0
def tw11733949253060900572:=0
def tw12656754318540474796:=0
def tw1743511857719512398:=0
def tw3043525229737041689:=0
def tw723234814334592659:=0
def tw3845170092780914381:=0
def tw11145489128164864391:=0
def tw7586194741604093569:=0
def tw13131101011773151098:=0
def tw7756882042055588930:=0
def tw10203773103447125887:=0
def tw4932348521541093621:=0
def tw14308509093756850170:=0
def tw8112746609330448085:=0
def tw11905886037446127727:=0
def tw9581301460223579093:=0
def tw12191596411208374624:=0
def tw12489983350846055175:=0
def tw3910998259761252121:=0
def tw2605160143598483296:=0
def tw14655798797795093244:=0
def tw18133501402835811935:=0
def tw9510609413578531832:=0
def tw117645205847528487:=0
def tw8550897325654247866:=0
def tw10791149857504913316:=0
def tw2847610510207924593:=0
def tw10412334571231291490:=0
def tw4790715041761957945:=0
def tw6335515312279631709:=0
def tw12322598922773354985:=0
def tw3173640533727450577:=0
def tw5583722977709214427:=0
def tw8724920004476193989:=0
def tw15798022691765453675:=0
def tw10360184214018374453:=0
def tw8237672918548274945:=0
def tw15916797088990417929:=0
def tw14955784643900873804:=0
def tw1257100260882340865:=0
def tw12457968471125785309:=0
def tw14025999209474154990:=0
def tw13911005735745245264:=0
def tw13373177136078903555:=0
def tw7373076458023733617:=0
def tw16895556236176923211:=0
def tw2937111287622600437:=0
def tw16316070900979006676:=0
def tw10996054245328833391:=0
def tw13503814579317829158:=0
def tw10698384196026457989:=0
def tw16603245807998018646:=0
def tw12874676655593766504:=0
def tw586169799477949736:=0
def tw17142734086945882929:=0
def tw10143908223704145797:=0
def tw10914043679968102993:=0
def tw13615058806046152258:=0
def tw3956461167422587645:=0
def tw17184530033082546667:=0
def tw10732984196663238069:=0
def tw1668969533353324895:=0
def tw18073551974626484147:=0
def tw4241358531342502640:=0
def tw4377106783096511722:=0
def tw16237784239598636840:=0
def tw11708105610690878763:=0
def tw11322092998815792625:=0
def tw7189396828768045175:=0
def tw15656801840006565149:=0
def tw1223007190254619987:=0
def tw10077365772159073135:=0
def tw12917316445299734226:=0
def tw8175998375610371535:=0
def tw5055909982847487023:=0
def tw446581293328730211:=0
def tw11340753482011522619:=0
def tw5795359476384491735:=0
def tw2825555507180854361:=0
def tw8213314505722900919:=0
def tw6980314703102606400:=0
def tw9104338826271389693:=0
def tw17980299742261426685:=0
def tw7393494450329904028:=0
def tw14675493904468479002:=0
def tw2129124264531013389:=0
def tw5104110835480311078:=0
def tw8673430179970721258:=0
def tw2962150369905650826:=0
def tw17848108085219775161:=0
def tw8423214303373703686:=0
def tw12689814091756578944:=0
def tw10499510964221600505:=0
def tw9393323153775390580:=0
def tw3381785159139295389:=0
def tw3763803574584248173:=0
def tw7463327582938681917:=0
def tw10441190322766981088:=0
def tw9707654046825818532:=0
def tw3010178496966743868:=0
def tw2787934100968284644:=0
def tw6339026120474678029:=0
def tw86237679399449292:=0
def tw2140900537716321722:=0
def tw15350674737220053298:=0
def tw10072898656584026192:=0
def tw5699779170850727618:=0
def tw14966737328719924276:=0
def tw9911485384500073323:=0
def tw15923358611977629645:=0
def tw2580015023855943218:=0
def tw266542913905907729:=0
def tw9078082883435225717:=0
def tw2480769414364341670:=0
def tw10250163658034714043:=0
def tw2207119889677145652:=0
def tw15027897842952681367:=0
def tw14781752092372869484:=0
def tw5927872932031357662:=0
def tw3845628097909226315:=0
def tw16017916724273533512:=0
def tw17447481079667281092:=0
def tw14345429690126992909:=0
def tw16761220515382200307:=0
def tw15555969256476967030:=0
def tw1236163569916627818:=0
def tw862018876633145404:=0
def tw8030384567812643203:=0
def tw16679784229784858900:=0
def tw5488711091022054882:=0
def tw9036534062742256249:=0
def tw13942043845014812204:=0
def tw2082979113295878836:=0
def tw5541519016759422127:=0
def tw16989633625986721133:=0
def tw8694329594455173864:=0
def tw10105392588082881857:=0
def tw14942956385480921190:=0
def tw9392026672948569032:=0
def tw14684728038517614840:=0
def tw5602207431215253831:=0
def tw7629960261233933142:=0
def tw9215768928671124447:=0
def tw12763914786449706524:=0
def tw4730523591519025243:=0
def tw17389619499311255744:=0
def tw9316562536387553614:=0
def tw7605087087264304864:=0
def tw16178298747013689000:=0
def tw7247997094355312998:=0
def tw11346324399436253488:=0
def tw7269806457063632477:=0
def tw9915251885543815901:=0
def tw702268908115151620:=0
def tw6657558215656811965:=0
def tw997648375136156782:=0
def tw14178343309725706026:=0
def tw3371564487364514301:=0
def tw6509556075711399996:=0
def tw15933724267001510808:=0
def tw1171264289212012319:=0
def tw2081256919725013539:=0
def tw17903494889624945588:=0
def tw8924873720825088308:=0
def tw2814879005306466139:=0
def tw11884653185696413759:=0
def tw11413292337167442274:=0
def tw3505457029118542732:=0
def tw10929457225424247595:=0
def tw1572815864221548648:=0
def tw9811759063810151676:=0
def tw16018931339944683259:=0
def tw9177311541744516885:=0
def tw17680538002191163648:=0
def tw2578151781945100848:=0
def tw463719744905215220:=0
def tw18130311306521398381:=0
def tw2750690533344553100:=0
def tw2920249487972894330:=0
def tw1670926179612022550:=0
def tw13861320868369542488:=0
def tw9665532419396697435:=0
def tw7967016708225126623:=0
def tw2648590136054035725:=0
def tw7513665732984536573:=0
def tw8967086604829376802:=0
def tw17080933396414101068:=0
def tw7408787219714318621:=0
def tw1165865464037666476:=0
def tw16140319982503711832:=0
def tw9664336967237651651:=0
def tw13671172304595014138:=0
def tw17724844953721463398:=0
def tw6190048668260626155:=0
def tw7320392468730836682:=0
def tw3192768335998828292:=0
def tw12563220981467747202:=0
def tw14918408577572606597:=0
def tw5864119440969710006:=0
def tw445889179622386973:=0
def tw8499084635408807941:=0
def tw17785934309884914275:=0
def tw13824633710155936768:=0
def tw4292841232709143649:=0
def tw3998777574846034115:=0
def tw2944038202477071453:=0
def tw2406044526208757949:=0
def tw6971661902566070458:=0
def tw17516603153667272965:=0
def tw3300260347974726204:=0
def tw16804248539853487965:=0
def tw8782660800756217976:=0
def tw10459316116023775238:=0
def tw6751141409161594996:=0
def tw5637559979375247951:=0
def tw17561056808828559406:=0
def tw8935264561297807240:=0
def tw1877441216609460208:=0
def tw186747391132641783:=0
def tw14061166577643832837:=0
def tw15600819850117769831:=0
def tw6185634900879862716:=0
def tw15799773722898919528:=0
def tw6327504683142961002:=0
def tw12583079287377287526:=0
def tw28373886940717861:=0
def tw5931715787736155556:=0
def tw6210940117610678850:=0
def tw2933750901591233981:=0
def tw17702516215072793892:=0
def tw14523221977970772975:=0
def tw13127567108754641963:=0
def tw2548511140826463853:=0
def tw12663299305787261046:=0
def tw17078822081725712895:=0
def tw4069812022545028842:=0
def tw14370633290726563542:=0
def tw17833388084237148441:=0
def tw3181562462199327103:=0
def tw7953321525277935850:=0
def tw6040386669646370951:=0
def tw3781905041989126471:=0
def tw14200080001198979910:=0
def tw13403313470871287319:=0
def tw7796599847496595745:=0
def tw4240394334388653702:=0
def tw7136852952704218104:=0
def tw14408283006762665729:=0
def tw3853378825636765392:=0
def tw15388487680806110248:=0
def tw7627927145389988740:=0
def tw14905357644883200627:=0
def tw3470814044343349564:=0
def tw1819605807431598031:=0
def tw284369714710479205:=0
def tw12256431207830436830:=0
def tw3099558545438692058:=0
def tw1807999249957031510:=0
def tw7740491841724345515:=0
def tw14988742559170064902:=0
def tw13473845238802384102:=0
def tw17443022867565310494:=0
def tw3727678849983416124:=0
def tw6269541188430684580:=0
def tw3256472899597669100:=0
def tw14438905892454733948:=0
def tw7529424316685729025:=0
def tw5943480603506088645:=0
def tw12869507976577918896:=0
def tw7113811368405425771:=0
def tw537854713548024817:=0
def tw6795358482001169592:=0
def tw5230035219827502974:=0
def tw4925014334409474592:=0
def tw3003577684827605931:=0
def tw17127243142104962419:=0
def tw7827593233471301015:=0
def tw14434888726082708942:=0
def tw15897676063188976436:=0
def tw16911054918973324936:=0
def tw12044633316274874502:=0
def tw7726611023109789101:=0
def tw5331800071591760450:=0
def tw16526720616205683409:=0
def tw3383061850845136931:=0
def tw11787263432504417288:=0
def tw8229099881163384472:=0
def tw16706794990445444664:=0
def tw910428825823843693:=0
def tw710308497409244337:=0
def tw10729827329167281571:=0
def tw4974858534073782745:=0
def tw6229153834960913666:=0
def tw1667968822710742581:=0
def tw11829584669945456276:=0
def tw1253946562019089436:=0
end PySem.W.Fast
set_option maxRecDepth 100000 in
set_option maxHeartbeats 0 in
theorem PySem.Challenge.cw_tentloops_k27_whole_five_exchanges_holds : PySem.Challenge.rw_tentloops_k27_whole_five_exchanges.Holds := by
 w_on; o_law; k_head; (case hw=>w_witness2)
 k_fill
 refine L2.walk_r (l:=PySem.Challenge.rw_tentloops_k27_whole_five_exchanges) (k:=9) (spl:=KT.sp_law) rfl rfl ⟨rfl,by decide,by decide⟩ (fun w h Y=>PySem.W.kIn_of Y) (fun K H a ns hl hS=>KT.sp_law_start hl hS) ?F
 case F =>
  intro w mg fa h KX G hmg
  have T:∃ t,KT.Txt w (L2.KOf KX) mg t:=by
   dsimp only [L2.KOf]
   refine' ⟨⟨_,_,_,_,_,_,_,_,_,_,_,_,_,_,_,_,_,_,_,_,_,_,_,_,_,_,_,_,_,_,_,_,_,_,_,_,_,_,_,_,_,_,_,_,_,_,_,_,_,_,_,_,_,_,_,_,_,_,_,_,_,_,_,_,_,_,_,_,_,_,_,_,_,_,_,_,_,_,_,_,_,_,_,_,_,_,_,_,_,_,_,_,_,_,_,_,_,_,_,_,_,_,_,_,_,_,_⟩,⟨mg_of KX G ?_,⟨?_,?_,?_,?_⟩,?_,?_,?_,?_,KT.FT.of KX G (KT.ba1 (fun _ _ _ _ _ _ _ _=>rfl) rfl) ?_ ?_ ?_ ?_,KT.FT.of KX G (KT.ba1 (fun _ _ _ _ _ _ _ _=>rfl) rfl) ?_ ?_ ?_ ?_,KT.FT.of KX G (KT.ba1 (fun _ _ _ _ _ _ _ _=>rfl) rfl) ?_ ?_ ?_ ?_,KT.FT.of KX G (KT.ba1 (fun _ _ _ _ _ _ _ _=>rfl) rfl) ?_ ?_ ?_ ?_,KT.FT.of KX G (KT.ba2 (fun _ _ _ _ _ _ _ _ _=>rfl) rfl) ?_ ?_ ?_ ?_,KT.FM.of (KT.ba2 (fun _ _ _ _ _ _ _ _ _=>rfl) rfl) ?_ ?_ ?_ ?_ ?_,KT.FM.of (KT.ba1 (fun _ _ _ _ _ _ _ _=>rfl) rfl) ?_ ?_ ?_ ?_ ?_,KT.FM.of (KT.ba1 (fun _ _ _ _ _ _ _ _=>rfl) rfl) ?_ ?_ ?_ ?_ ?_,KT.FM.of (KT.ba2 (fun _ _ _ _ _ _ _ _ _=>rfl) rfl) ?_ ?_ ?_ ?_ ?_,KT.FM.of (KT.ba2 (fun _ _ _ _ _ _ _ _ _=>rfl) rfl) ?_ ?_ ?_ ?_ ?_,KT.FM.of (KT.ba2 (fun _ _ _ _ _ _ _ _ _=>rfl) rfl) ?_ ?_ ?_ ?_ ?_,KT.FM.of (KT.ba2 (fun _ _ _ _ _ _ _ _ _=>rfl) rfl) ?_ ?_ ?_ ?_ ?_,KT.FM.of (KT.ba2 (fun _ _ _ _ _ _ _ _ _=>rfl) rfl) ?_ ?_ ?_ ?_ ?_,KT.FM.of (KT.ba2 (fun _ _ _ _ _ _ _ _ _=>rfl) rfl) ?_ ?_ ?_ ?_ ?_,KT.FT.of KX G (KT.ba1 (fun _ _ _ _ _ _ _ _=>rfl) rfl) ?_ ?_ ?_ ?_,KT.FT.of KX G (KT.ba2 (fun _ _ _ _ _ _ _ _ _=>rfl) rfl) ?_ ?_ ?_ ?_,KT.FT.of KX G (KT.ba2 (fun _ _ _ _ _ _ _ _ _=>rfl) rfl) ?_ ?_ ?_ ?_,KT.FT.of KX G (KT.ba3 (fun _ _ _ _ _ _ _ _ _ _=>rfl) rfl) ?_ ?_ ?_ ?_,KT.FT.of KX G (KT.ba3 (fun _ _ _ _ _ _ _ _ _ _=>rfl) rfl) ?_ ?_ ?_ ?_,KT.FT.of KX G (KT.ba2 (fun _ _ _ _ _ _ _ _ _=>rfl) rfl) ?_ ?_ ?_ ?_,KT.FT.of KX G (KT.ba2 (fun _ _ _ _ _ _ _ _ _=>rfl) rfl) ?_ ?_ ?_ ?_,KT.FT.of KX G (KT.ba3 (fun _ _ _ _ _ _ _ _ _ _=>rfl) rfl) ?_ ?_ ?_ ?_,KT.FT.of KX G (KT.ba2 (fun _ _ _ _ _ _ _ _ _=>rfl) rfl) ?_ ?_ ?_ ?_,KT.FT.of KX G (KT.ba2 (fun _ _ _ _ _ _ _ _ _=>rfl) rfl) ?_ ?_ ?_ ?_,KT.FT.of KX G (KT.ba2 (fun _ _ _ _ _ _ _ _ _=>rfl) rfl) ?_ ?_ ?_ ?_,KT.FT.of KX G (KT.ba3 (fun _ _ _ _ _ _ _ _ _ _=>rfl) rfl) ?_ ?_ ?_ ?_,KT.FT.of KX G (KT.ba4 (fun _ _ _ _ _ _ _ _ _ _ _=>rfl) rfl) ?_ ?_ ?_ ?_,KT.FT.of KX G (KT.ba3 (fun _ _ _ _ _ _ _ _ _ _=>rfl) rfl) ?_ ?_ ?_ ?_,KT.FT.of KX G (KT.ba1 (fun _ _ _ _ _ _ _ _=>rfl) rfl) ?_ ?_ ?_ ?_,KT.FT.of KX G (KT.ba2 (fun _ _ _ _ _ _ _ _ _=>rfl) rfl) ?_ ?_ ?_ ?_,KT.FT.of KX G (KT.ba2 (fun _ _ _ _ _ _ _ _ _=>rfl) rfl) ?_ ?_ ?_ ?_,KT.FT.of KX G (KT.ba3 (fun _ _ _ _ _ _ _ _ _ _=>rfl) rfl) ?_ ?_ ?_ ?_,KT.FT.of KX G (KT.ba3 (fun _ _ _ _ _ _ _ _ _ _=>rfl) rfl) ?_ ?_ ?_ ?_,KT.FT.of KX G (KT.ba1 (fun _ _ _ _ _ _ _ _=>rfl) rfl) ?_ ?_ ?_ ?_,KT.FT.of KX G (KT.ba2 (fun _ _ _ _ _ _ _ _ _=>rfl) rfl) ?_ ?_ ?_ ?_,KT.FT.of KX G (KT.ba1 (fun _ _ _ _ _ _ _ _=>rfl) rfl) ?_ ?_ ?_ ?_,KT.FT.of KX G (KT.ba3 (fun _ _ _ _ _ _ _ _ _ _=>rfl) rfl) ?_ ?_ ?_ ?_,KT.FT.of KX G (KT.ba2 (fun _ _ _ _ _ _ _ _ _=>rfl) rfl) ?_ ?_ ?_ ?_,KT.FT.of KX G (KT.ba3 (fun _ _ _ _ _ _ _ _ _ _=>rfl) rfl) ?_ ?_ ?_ ?_,KT.FT.of KX G (KT.ba1 (fun _ _ _ _ _ _ _ _=>rfl) rfl) ?_ ?_ ?_ ?_,KT.FT.of KX G (KT.ba2 (fun _ _ _ _ _ _ _ _ _=>rfl) rfl) ?_ ?_ ?_ ?_,KT.FT.of KX G (KT.ba2 (fun _ _ _ _ _ _ _ _ _=>rfl) rfl) ?_ ?_ ?_ ?_,KT.FT.of KX G (KT.ba2 (fun _ _ _ _ _ _ _ _ _=>rfl) rfl) ?_ ?_ ?_ ?_,KT.FT.of KX G (KT.ba3 (fun _ _ _ _ _ _ _ _ _ _=>rfl) rfl) ?_ ?_ ?_ ?_,KT.FT.of KX G (KT.ba2 (fun _ _ _ _ _ _ _ _ _=>rfl) rfl) ?_ ?_ ?_ ?_,KT.FT.of KX G (KT.ba2 (fun _ _ _ _ _ _ _ _ _=>rfl) rfl) ?_ ?_ ?_ ?_,KT.FT.of KX G (KT.ba4 (fun _ _ _ _ _ _ _ _ _ _ _=>rfl) rfl) ?_ ?_ ?_ ?_,KT.FT.of KX G (KT.ba1 (fun _ _ _ _ _ _ _ _=>rfl) rfl) ?_ ?_ ?_ ?_,KT.FT.of KX G (KT.ba1 (fun _ _ _ _ _ _ _ _=>rfl) rfl) ?_ ?_ ?_ ?_,⟨?_,?_,?_,?_⟩,mg_of KX G ?_,mg_of KX G ?_,L2.kdict_mk2 ?_ ?_ ?_ (by decide) ?_,fun s u=>.of_eq rfl,mg_none_of KX G ?_,mg_none_of KX G ?_,mg_none_of KX G ?_,mg_none_of KX G ?_,mg_none_of KX G ?_,mg_none_of KX G ?_,mg_none_of KX G ?_,mg_none_of KX G ?_,mg_none_of KX G ?_,mg_none_of KX G ?_,mg_none_of KX G ?_,mg_none_of KX G ?_,mg_none_of KX G ?_,mg_none_of KX G ?_,mg_of KX G ?_,⟨?_⟩,mg_of KX G ?_,⟨?_⟩,mg_of KX G ?_,⟨?_⟩,mg_of KX G ?_,⟨?_⟩,mg_of KX G ?_,⟨?_⟩,mg_of KX G ?_,⟨?_⟩⟩⟩
   any_goals first | k_is | k_exc | rfl | kernel_rfl
  obtain ⟨t,T⟩:=T
  have e0:=hmg.symm.trans T.p_law.g
  cases e0
  refine' ⟨_,?b,fun base kb nb=>KT.ok_law T⟩
  exact T.bl
#print axioms PySem.Challenge.cw_tentloops_k27_whole_five_exchanges_holds
