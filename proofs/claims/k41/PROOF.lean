import PyProof.Rows.All
import Wide.All
import OpenK.AllK
import Wide.FinOn
import Lean
import PyProof.EqAt
import PyProof.EqKinds
import PyProof.TupleCall
import PySem.Challenge.RW_tentloops_k41_whole_shape_kept
set_option Elab.async false
set_option linter.all false
set_option maxRecDepth 100000
namespace L2
open PySem PySem.Spec PyProof.Rows
noncomputable abbrev Key:=Sum Int Str
noncomputable def Vv:Key→Value→Bool
 | .inl k,v=>Value.isInt k v
 | .inr x,v=>Value.isStrOf x v
noncomputable def keyH (w:World):Key→Int
 | .inl k=>hashInt k
 | .inr x=>hashStr w x
theorem Y4:∀ {k:Key} {v:Value},Vv k v=true→(∃ i t,k=Sum.inl i∧v=Value.int i t)∨(∃ x t,k=Sum.inr x∧v=Value.str x t)
 | .inl i,v,h=>by
  obtain ⟨t,e⟩:=Value.isInt_shape (k:=i) (v:=v) h
  exact .inl ⟨i,t,rfl,e⟩
 | .inr x,v,h=>by
  obtain ⟨t,e⟩:=Value.isStrOf_shape (x:=x) (v:=v) h
  exact .inr ⟨x,t,rfl,e⟩
theorem Zh3 (i:Int) (t:Tok):Vv (.inl i) (.int i t)=true:=by simp [Vv,Value.isInt]
theorem Jp (x:Str) (t:Tok):Vv (.inr x) (.str x t)=true:=by simp [Vv,Value.isStrOf]
theorem Znc (a b:Int):decide ((Sum.inl a:Key)=Sum.inl b)=(a == b):=by
 by_cases e:a=b
 ·subst e; simp
 ·have h:¬ (Sum.inl a:Key)=Sum.inl b:=fun q=>e (Sum.inl.inj q)
  rw [decide_eq_false h]
  exact (beq_eq_false_iff_ne.mpr e).symm
theorem Zm9 (a b:Str):decide ((Sum.inr a:Key)=Sum.inr b)=decide (a=b):=by
 by_cases e:a=b
 ·subst e; simp
 ·have h:¬ (Sum.inr a:Key)=Sum.inr b:=fun q=>e (Sum.inr.inj q)
  rw [decide_eq_false h,decide_eq_false e]
theorem Znb (a:Int) (b:Str):decide ((Sum.inl a:Key)=Sum.inr b)=false:=decide_eq_false (fun q=>nomatch q)
theorem Zna (a:Str) (b:Int):decide ((Sum.inr a:Key)=Sum.inl b)=false:=decide_eq_false (fun q=>nomatch q)
noncomputable def Z9 (prog:Program) (w:World):PySem.KeyKind prog w Key where
 is:=Vv
 hash:=keyH w
 inj:=fun v a b ha hb=>by
  rcases Y4 ha with ⟨i,t,rfl,rfl⟩ | ⟨x,t,rfl,rfl⟩
  ·rcases Y4 hb with ⟨j,u,rfl,e⟩ | ⟨y,u,rfl,e⟩
   ·injection e with e1 _; rw [e1]
   ·exact nomatch e
  ·rcases Y4 hb with ⟨j,u,rfl,e⟩ | ⟨y,u,rfl,e⟩
   ·exact nomatch e
   ·injection e with e1 _; rw [e1]
 byValue:=fun k v h=>by
  rcases Y4 h with ⟨i,t,rfl,rfl⟩ | ⟨x,t,rfl,rfl⟩ <;> rfl
 pyHash:=fun hv h=>by
  rcases Y4 hv with ⟨i,t,rfl,rfl⟩ | ⟨x,t,rfl,rfl⟩
  ·exact wpAny_pyHash_int h
  ·exact wpAny_pyHash_str h
 eqBool:=fun hu hv h=>by
  rcases Y4 hu with ⟨i,t,rfl,rfl⟩ | ⟨x,t,rfl,rfl⟩
  ·rcases Y4 hv with ⟨j,u,rfl,rfl⟩ | ⟨y,u,rfl,rfl⟩
   ·rw [Znc] at h; exact wpAny_eqBool_int h
   ·rw [Znb] at h; exact SeqAt.EqAt.int_str i t y u _ _ _ _ h
  ·rcases Y4 hv with ⟨j,u,rfl,rfl⟩ | ⟨y,u,rfl,rfl⟩
   ·rw [Zna] at h; exact SeqAt.EqAt.str_int x t j u _ _ _ _ h
   ·rw [Zm9] at h; exact wpAny_eqBool_str h
 «strs»:=fun k x t v h=>by
  rcases Y4 h with ⟨i,u,rfl,e⟩ | ⟨y,u,rfl,e⟩
  ·exact nomatch e
  ·injection e with e1 _
   subst e1
   cases v <;> rfl
theorem Zdn (prog:Program) (w:World) (i:Int) (t:Tok):(Z9 prog w).is (.inl i) (.int i t)=true:=Zh3 i t
theorem Zdm (prog:Program) (w:World) (x:Str) (t:Tok):(Z9 prog w).is (.inr x) (.str x t)=true:=Jp x t
end L2
namespace L2
open PySem PySem.Spec PyProof.Rows
inductive V where
 | non | bl (b:Bool) | int (i:Int) | str (x:Str) | byt (b:Array UInt8) | flt (b:UInt64) | ref (a:Addr) | ty (n:String)
 deriving DecidableEq
set_option genInjectivity false
set_option genSizeOf false
noncomputable def RelV:V→Value→Prop
 | .non,u=>u=Value.none
 | .bl b,u=>u=Value.bool b
 | .int i,u=>∃ t,u=Value.int i t
 | .str x,u=>∃ t,u=Value.str x t
 | .byt b,u=>∃ t,u=Value.bytes b t
 | .flt b,u=>∃ t,u=Value.float b t
 | .ref a,u=>u=Value.ref a
 | .ty n,u=>u=Value.type n
noncomputable abbrev Vals:List V→List Value→Prop:=Paired RelV
theorem Vals.length {xs:List V} {us:List Value} (r:Vals xs us):xs.length=us.length:=Paired.length r
theorem Vals.get:∀ {xs:List V} {us:List Value} {i:Nat} {x:V},Vals xs us→xs[i]?=some x→∃ u,us[i]?=some u∧RelV x u
 | _,_,_,_,.nil,e=>by simp at e
 | _,_,0,_,.cons r _,e=>by simp at e; subst e; exact ⟨_,rfl,r⟩
 | _,_,i + 1,x,.cons _ t,e=>by
  obtain ⟨u,h1,h2⟩:=Vals.get (i:=i) (x:=x) t (by simpa using e)
  exact ⟨u,by simpa using h1,h2⟩
theorem Vals.set {x:V} {u:Value} (r:RelV x u):∀ {xs:List V} {us:List Value} (i:Nat),Vals xs us→Vals (xs.set i x) (us.set i u)
 | _,_,_,.nil=>.nil
 | _,_,0,.cons _ t=>.cons r t
 | _,_,i + 1,.cons q t=>.cons q (Vals.set r i t)
theorem Vals.append:∀ {xs ys:List V} {us ws:List Value},Vals xs us→Vals ys ws→Vals (xs ++ ys) (us ++ ws)
 | _,_,_,_,.nil,s=>s
 | _,_,_,_,.cons r t,s=>.cons r (Vals.append t s)
theorem Vals.take:∀ {xs:List V} {us:List Value} (n:Nat),Vals xs us→Vals (xs.take n) (us.take n)
 | _,_,0,_=>.nil
 | _,_,_ + 1,.nil=>.nil
 | _,_,n + 1,.cons r t=>.cons r (Vals.take n t)
theorem Vals.drop:∀ {xs:List V} {us:List Value} (n:Nat),Vals xs us→Vals (xs.drop n) (us.drop n)
 | _,_,0,r=>r
 | _,_,_ + 1,.nil=>.nil
 | _,_,n + 1,.cons _ t=>Vals.drop n t
noncomputable def RelO:Option V→Option Value→Prop
 | some v,some u=>RelV v u
 | none,none=>True
 | _,_=>False
noncomputable def KV {κ:Type}:List (κ × V)→List (κ × Value)→Prop:=Paired fun (p:κ × V) (q:κ × Value)=>p.1=q.1∧RelV p.2 q.2
noncomputable def kV:Key→V
 | .inl i=>.int i
 | .inr x=>.str x
inductive HO where
 /-- a list -/
 | lst (xs:List V)
 /-- a tuple (never changes) -/
 | tup (xs:List V)
 /-- a dict whose keys are ints and texts; one whose keys are tuples of ints and texts (the empty one is both) -/
 | dK (kvs:List (Key × V)) | dT (kvs:List (List Key × V))
 /-- a set of ints: its members,its size -/
 | set (S:Int→Bool) (n:Nat)
 /-- an instance of the class at C,its dict at dx,its attributes -/
 | ins (C dx:Addr) (fs:List (Str × V))
 /-- the dict of the instance at x -/
 | own (x:Addr)
 /-- the dict of an exception -/
 | xd (fs:List (Str × V))
 /-- a bound method,f of x -/
 | met (f x:Addr)
 /-- a range object lo,lo + 1,.. below hi -/
 | rng (lo hi:Int)
 /-- a thing that is known to the object (the script; a dict while a loop walks it): read,never written while it is so -/
 | frz (o:Obj) (u:HO)
 /-- a code object's table -/
 | tbl (ps:Array Value)
 /-- any other thing,by what is true of its one object (a def of one's own: SetO a S n:=HO.ext fun h=>..) -/
 | ext (φ:Heap→Prop)
noncomputable abbrev Hp:=Addr→Option HO
noncomputable def upd (H:Hp) (a:Addr) (o:HO):Hp:=fun b=>if b=a then some o else H b
theorem Zb {H:Hp} {a:Addr} {o:HO}:upd H a o a=some o:=by unfold upd; rw [if_pos rfl]
theorem Zd {H:Hp} {a b:Addr} {o:HO} (h:b≠a):upd H a o b=H b:=by unfold upd; rw [if_neg h]
theorem U2 {H:Hp} {a:Addr} {o u:HO}:upd (upd H a o) a u=upd H a u:=by
 funext b; unfold upd; split <;> rfl
theorem Zi {H:Hp} {a b:Addr} {o:HO} (h:H a=some o) (h':H b=none):a≠b:=by
 intro e; subst e; rw [h] at h'; cases h'
section
variable (P:Program) (w:World)
noncomputable def Zx (H:Hp) (h:Heap) (a:Addr):HO→Prop
 | .lst xs=>xs.length≤sizeLine∧∃ (its:List Value) (n:Nat),Vals xs its∧h.get? a=some { cls:=.type "list",data:=.seq its.toArray n }
 | .tup xs=>xs.length≤sizeLine∧∃ its:List Value,Vals xs its∧IsTup h a its.toArray
 | .dK kvs=>kvs.length≤sizeLine∧(a == sysModules)=false∧∃ vs,KV kvs vs∧h.DictOf (Z9 P w) a vs
 | .dT kvs=>kvs.length≤sizeLine∧(a == sysModules)=false∧∃ xs:List (List Key × Addr × Value),
   Paired (fun (p:List Key × V) (q:List Key × Addr × Value)=>p.1=q.1∧H q.2.1=some (.tup (p.1.map kV))∧RelV p.2 q.2.2) kvs xs ∧
   ∃ o es ep,h.get? a=some o∧o.ExactDict∧o.data=.dict es ep∧es.toList=xs.map (entryOfKey (tupleKind (Z9 P w)))∧(xs.map (·.1)).Nodup
 | .set S n=>h.SetOf (intKind P w) a S n
 | .ins C dx fs=>H dx=some (.own a)∧fs.length≤1000∧dx≠a∧h.get? a=some (PySem.W.instObj C dx) ∧
   ∃ mA,h.Ns1 dx mA∧(∀ f,RelO (fs.lookup f) (mA f))∧PySem.Within mA (fs.map (·.1))
 | .own _=>∃ o,h.get? a=some o
 | .xd fs=>∃ mA,h.Ns1 a mA∧∀ f,RelO (fs.lookup f) (mA f)
 | .rng lo hi=>∃ t u v,h.get? a=some { cls:=.type "range",data:=.fields #[.int lo t,.int hi u,.int 1 v] }
 | .frz o u=>h.get? a=some o∧Zx H h a u
 | .tbl ps=>h.get? a=some { cls:=.none,data:=.fields ps }
 | .met f x=>h.get? a=some (PySem.W.methodObj (.ref f) (.ref x))
 | .ext φ=>φ h∧(∃ o,h.get? a=some o)∧∀ h1 h2:Heap,φ h1→(∀ o,h1.get? a=some o→h2.get? a=some o)→φ h2
noncomputable def HOk (H:Hp) (h:Heap):Prop:=∀ a o,H a=some o→Zx P w H h a o
end
section
variable {P:Program} {w:World} {H H':Hp} {h h':Heap} {a:Addr} {o:HO}
theorem Zx.lt (x:Zx P w H h a o):a < h.objs.size:=by
 cases o with
 | lst xs=>obtain ⟨_,_,_,_,e⟩:=x; exact Heap.lt_size e
 | tup xs=>obtain ⟨_,_,_,p⟩:=x; exact p.lt
 | dK kvs=>obtain ⟨_,_,_,_,o,_,_,e,_⟩:=x; exact Heap.lt_size e
 | dT kvs=>obtain ⟨_,_,_,_,o,_,_,e,_⟩:=x; exact Heap.lt_size e
 | set S n=>obtain ⟨o,_,_,_,e,_⟩:=x; exact Heap.lt_size e
 | ins C dx fs=>obtain ⟨_,_,_,e,_⟩:=x; exact Heap.lt_size e
 | own y=>obtain ⟨_,e⟩:=x; exact Heap.lt_size e
 | xd fs=>obtain ⟨_,⟨_,_,_,e,_⟩,_⟩:=x; exact Heap.lt_size e
 | rng lo hi=>obtain ⟨_,_,_,e⟩:=x; exact Heap.lt_size e
 | frz ob u=>obtain ⟨e,_⟩:=x; exact Heap.lt_size e
 | tbl ps=>exact Heap.lt_size (show h.get? a=some _ from x)
 | met f y=>exact Heap.lt_size (show h.get? a=some _ from x)
 | ext φ=>obtain ⟨_,⟨_,e⟩,_⟩:=x; exact Heap.lt_size e
theorem Paired.mapP {α β:Type} {F G:α→β→Prop}:∀ {l₁:List α} {l₂:List β},Paired F l₁ l₂→(∀ a b,F a b→G a b)→Paired G l₁ l₂
 | _,_,.nil,_=>.nil
 | _,_,.cons r t,f=>.cons (f _ _ r) (Paired.mapP t f)
theorem Zx.stay (x:Zx P w H h a o) (k:∀ b u,(b=a∨H b=some (.own a))→h.get? b=some u→h'.get? b=some u)
  (ho:∀ b,H b=some (.own a)→H' b=some (.own a)) (ht:∀ b xs,H b=some (.tup xs)→H' b=some (.tup xs)):Zx P w H' h' a o:=by
 induction o with
 | lst xs=>obtain ⟨z,its,n,r,e⟩:=x; exact ⟨z,its,n,r,k _ _ (.inl rfl) e⟩
 | tup xs=>obtain ⟨z,its,r,ob,e,c⟩:=x; exact ⟨z,its,r,ob,k _ _ (.inl rfl) e,c⟩
 | dK kvs=>obtain ⟨z,y,vs,r,ob,es,ep,e,c⟩:=x; exact ⟨z,y,vs,r,ob,es,ep,k _ _ (.inl rfl) e,c⟩
 | dT kvs =>
  obtain ⟨z,y,xs,r,ob,es,ep,e,c⟩:=x
  exact ⟨z,y,xs,Paired.mapP r fun p q z=>⟨z.1,ht _ _ z.2.1,z.2.2⟩,ob,es,ep,k _ _ (.inl rfl) e,c⟩
 | set S n=>obtain ⟨ob,es,ep,t,e,c⟩:=x; exact ⟨ob,es,ep,t,k _ _ (.inl rfl) e,c⟩
 | ins C dx fs =>
  obtain ⟨d,z,ne,e,mA,⟨od,es,ep,e2,c⟩,r⟩:=x
  exact ⟨ho _ d,z,ne,k _ _ (.inl rfl) e,mA,⟨od,es,ep,k _ _ (.inr d) e2,c⟩,r⟩
 | own y=>obtain ⟨ob,e⟩:=x; exact ⟨ob,k _ _ (.inl rfl) e⟩
 | xd fs=>obtain ⟨mA,⟨od,es,ep,e,c⟩,r⟩:=x; exact ⟨mA,⟨od,es,ep,k _ _ (.inl rfl) e,c⟩,r⟩
 | rng lo hi=>obtain ⟨t,u,v,e⟩:=x; exact ⟨t,u,v,k _ _ (.inl rfl) e⟩
 | frz ob u ih=>obtain ⟨e,q⟩:=x; exact ⟨k _ _ (.inl rfl) e,ih q⟩
 | tbl ps =>
  have e:h.get? a=some { cls:=.none,data:=.fields ps }:=x
  show h'.get? a=some { cls:=.none,data:=.fields ps }
  exact k a _ (.inl rfl) e
 | met f y =>
  have e:h.get? a=some (PySem.W.methodObj (.ref f) (.ref y)):=x
  show h'.get? a=some (PySem.W.methodObj (.ref f) (.ref y))
  exact k a _ (.inl rfl) e
 | ext φ=>obtain ⟨p,⟨o,e⟩,st⟩:=x; exact ⟨st _ _ p fun o q=>k _ _ (.inl rfl) q,⟨o,k _ _ (.inl rfl) e⟩,st⟩
theorem HOk.lt (x:HOk P w H h) (e:H a=some o):a < h.objs.size:=(x a o e).lt
theorem HOk.fresh (x:HOk P w H h) (e:h.objs.size≤a):H a=none:=by
 cases q:H a with
 | none=>rfl
 | some u=>exact absurd (Nat.lt_of_lt_of_le (x.lt q) e) (Nat.lt_irrefl _)
theorem HOk.kept (x:HOk P w H h) (k:∀ b u,h.get? b=some u→h'.get? b=some u):HOk P w H h':=fun a o e =>
 (x a o e).stay (fun b u _ q=>k b u q) (fun _ q=>q) fun _ _ q=>q
theorem HOk.laid (x:HOk P w H h) (k:∀ b u,h.get? b=some u→h'.get? b=some u) (hp:h.objs.size≤a) (new:Zx P w (upd H a o) h' a o):HOk P w (upd H a o) h':=fun b u e=>by
 have hn:=x.fresh hp
 by_cases hb:b=a
 ·subst hb; rw [Zb] at e; cases e; exact new
 ·rw [Zd hb] at e
  exact (x b u e).stay (fun c v _ q=>k c v q) (fun c q=>by rw [Zd (Zi q hn)]; exact q) fun c xs q=>by rw [Zd (Zi q hn)]; exact q
end
noncomputable def Rd (H:Hp) (a:Addr) (u:HO):Prop:=H a=some u∨∃ o,H a=some (.frz o u)
theorem Rd.ok {P:Program} {w:World} {H:Hp} {h:Heap} {a:Addr} {u:HO} (r:Rd H a u) (x:HOk P w H h):Zx P w H h a u:=by
 rcases r with r | ⟨o,r⟩
 ·exact x a u r
 ·obtain ⟨_,q⟩:=x a _ r
  exact q
noncomputable def Mut:Option HO→Prop
 | some (.lst _)=>True
 | some (.dK _)=>True
 | some (.dT _)=>True
 | some (.set _ _)=>True
 | some (.ins _ _ _)=>True
 | some (.ext _)=>True
 | _=>False
section
variable {P:Program} {w:World} {H:Hp} {h h':Heap} {x e:Addr} {o':HO}
theorem HOk.write (ok:HOk P w H h) (mu:Mut (H x)) (he:e=x∨H e=some (.own x)) (k:∀ b u,b≠e→h.get? b=some u→h'.get? b=some u) (heo:∃ u,h'.get? e=some u)
  (new:Zx P w (upd H x o') h' x o'):HOk P w (upd H x o') h':=fun b u q=>by
 have nown:∀ c y,H c=some (.own y)→c≠x:=fun c y r z=>by subst z; rw [r] at mu; exact mu
 have ntup:∀ c xs,H c=some (.tup xs)→c≠x:=fun c xs r z=>by subst z; rw [r] at mu; exact mu
 by_cases hb:b=x
 ·subst hb; rw [Zb] at q; cases q; exact new
 ·rw [Zd hb] at q
  by_cases hbe:b=e
  ·have q':H b=some (.own x):=by
    rcases he with z | z
    ·exact absurd (hbe.trans z) hb
    ·rw [hbe]; exact z
   rw [q] at q'; cases q'
   obtain ⟨v,hv⟩:=heo
   exact ⟨v,by rw [hbe]; exact hv⟩
  ·refine (ok b u q).stay (fun c v hc r=>k c v ?_ r) (fun c r=>by rw [Zd (nown c b r)]; exact r) fun c xs r=>by rw [Zd (ntup c xs r)]; exact r
   rcases hc with rfl | hc
   ·exact hbe
   ·rintro rfl
    rcases he with z | z
    ·exact nown c b hc z
    ·rw [hc] at z; cases z; exact hb rfl
end
structure Un (fs ex:List Addr) (H H':Hp) (h h':Heap):Prop where
 keep:∀ b o,h.get? b=some o→H b=none→b ∉ fs→b ∉ ex→h'.get? b=some o
 slot:∀ b o,h.get? b=some o→H b=none→b∈fs→b ∉ ex→∃ sl,h'.get? b=some { o with slots:=sl }
 free:∀ b o,h.get? b=some o→H b=none→b ∉ ex→H' b=none
 there:∀ b o,h.get? b=some o→b ∉ ex→∃ o',h'.get? b=some o'
 tups:∀ b xs,H b=some (.tup xs)→H' b=some (.tup xs)
 frzs:∀ b o u,H b=some (.frz o u)→H' b=some (.frz o u)
 tbls:∀ b ps,H b=some (.tbl ps)→∃ more,H' b=some (.tbl (ps ++ more))
section
variable {fs fs' ex ex':List Addr} {H H1 H2:Hp} {h h1 h2 h':Heap} {a x e:Addr} {o:HO}
theorem Un.any (u:Un fs ex H H1 h h1) {b:Addr} {ob:Obj} (q:h.get? b=some ob) (n:H b=none) (hx:b ∉ ex):∃ sl,h1.get? b=some { ob with slots:=sl }:=by
 by_cases hb:b∈fs
 ·exact u.slot b ob q n hb hx
 ·exact ⟨ob.slots,u.keep b ob q n hb hx⟩
theorem Un.kept (k:∀ b u,h.get? b=some u→h'.get? b=some u):Un fs ex H H h h' :=
 ⟨fun b ob q _ _ _=>k b ob q,fun b ob q _ _ _=>⟨ob.slots,k b ob q⟩,fun _ _ _ n _=>n,fun b ob q _=>⟨ob,k b ob q⟩,fun _ _ q=>q,fun _ _ _ q=>q,fun _ ps q=>⟨#[],by rw [q]; simp⟩⟩
theorem Un.refl:Un fs ex H H h h:=Un.kept fun _ _ q=>q
theorem Un.laid (k:∀ b u,h.get? b=some u→h'.get? b=some u) (hp:h.objs.size≤a) (hn:H a=none):Un fs ex H (upd H a o) h h' where
 keep:=fun b u q _ _ _=>k b u q
 slot:=fun b u q _ _ _=>⟨u.slots,k b u q⟩
 free:=fun b u q n _=>by rw [Zd (Nat.ne_of_lt (Nat.lt_of_lt_of_le (Heap.lt_size q) hp))]; exact n
 there:=fun b u q _=>⟨u,k b u q⟩
 tups:=fun b xs q=>by rw [Zd (Zi q hn)]; exact q
 frzs:=fun b u xs q=>by rw [Zd (Zi q hn)]; exact q
 tbls:=fun b ps q=>⟨#[],by rw [Zd (Zi q hn),q]; simp⟩
theorem Un.write (mu:Mut (H x)) (he:e=x∨H e=some (.own x)) (k:∀ b u,b≠e→h.get? b=some u→h'.get? b=some u) (heo:∃ u,h'.get? e=some u):Un fs ex H (upd H x o) h h':=by
 have hx:∀ b,H b=none→b≠x:=fun b n z=>by subst z; rw [n] at mu; exact mu
 have hb:∀ b,H b=none→b≠e:=fun b n z=>by
  subst z
  rcases he with r | r
  ·exact hx b n r
  ·rw [n] at r; cases r
 have hm:∀ b u,H b=some u→¬ Mut (some u)→b≠x:=fun b u q nm z=>by subst z; rw [q] at mu; exact nm mu
 refine ⟨fun b u q n _ _=>k b u (hb b n) q,fun b u q n _ _=>⟨u.slots,k b u (hb b n) q⟩,fun b u q n _=>by rw [Zd (hx b n)]; exact n,fun b u q _=>?_,
  fun b xs q=>by rw [Zd (hm b _ q fun z=>z)]; exact q,fun b u xs q=>by rw [Zd (hm b _ q fun z=>z)]; exact q,fun b ps q=>⟨#[],by rw [Zd (hm b _ q fun z=>z),q]; simp⟩⟩
 by_cases hbe:b=e
 ·subst hbe; exact heo
 ·exact ⟨u,k b u hbe q⟩
end
noncomputable def trk (h:Heap) (H:Hp):List Addr:=(List.range h.objs.size).filter fun a=>(H a).isSome
noncomputable def hidT (h:Heap) (H:Hp):Heap:=PySem.W.hideAll h (trk h H)
theorem Zh5 (h:Heap) (H:Hp):(hidT h H).objs.size=h.objs.size:=PySem.W.hideAll_size _ _
theorem Zj0 {h:Heap} {H:Hp} {b:Addr} {o:Obj} (e:h.get? b=some o) (n:H b=none):(hidT h H).get? b=some o :=
 PySem.W.hideAll_get _ e fun hm=>by
  have q:(H b).isSome=true:=(List.mem_filter.mp hm).2
  rw [n] at q; simp at q
theorem Zlr {h:Heap} {H:Hp} {b:Addr} {o:Obj} (e:(hidT h H).get? b=some o):h.get? b=some o∧H b=none:=by
 have e':h.get? b=some o:=PySem.W.of_hideAll (trk h H) e
 refine ⟨e',?_⟩
 cases q:H b with
 | none=>rfl
 | some x =>
  have hm:b∈trk h H:=List.mem_filter.mpr ⟨List.mem_range.mpr (Heap.lt_size e'),by simp [q]⟩
  have z:(hidT h H).get? b=none:=PySem.W.hideAll_none (trk h H) hm
  rw [z] at e; cases e
noncomputable def Zmb (g h:Heap) (L:Addr):List (Addr × Obj):=(List.range h.objs.size).filterMap fun a=>if a=L∨(g.get? a).isSome=true then none else (h.get? a).map fun o=>(a,o)
noncomputable def rest (g h:Heap) (L d:Addr):List (Addr × Obj):=(Zmb g h L).filter fun p=>decide (p.1≠d)
end L2
namespace L2
open PySem PySem.Spec PyProof.Rows
structure Mod (K:PySem.W.Frag) (mg:Str→Option Value) (base:Heap):Prop where
 kin:K.In base
 glob:base.Ns mainGlobals mg
 blt:∃ mb,base.Ns builtinsNs mb∧∀ x:Str,x≠"__name__"→mb x=bootBuiltins x
 nolimit:base.NoLimit
structure Cx where
 prog:Program
 w:World
 K:PySem.W.Frag
 mg:Str→Option Value
 base:Heap
 A:Around
 N:List Str
 s₀:Shared
 H₀:Hp
 env:Env
 outer:List Env
 stack:List Env
 ex:List Addr
 fn:Str→Bool
 calm:Bool
 pn:List (Addr × Obj)
 xe:Value→Shared→Prop
noncomputable def frs (l:List Env):List Addr:=l.filterMap (·.frame)
noncomputable abbrev Cx.fs (X:Cx):List Addr:=frs X.outer
noncomputable def Vis (sc:Scope) (x:Str):Prop:=sc.names.lookup x=some .local∨sc.names.lookup x=some .cell∨sc.names.lookup x=some .free
noncomputable def Loc (sc:Scope) (x:Str):Prop:=sc.names.lookup x=some .local∨sc.names.lookup x=some .cell
noncomputable def Look (env:Env) (h:Heap) (m:Str→Option Value) (x:Str) (u:Value):Prop :=
 (env.kindOf x=some .local∧m x=some u)∨((env.kindOf x=some .cell∨env.kindOf x=some .free)∧∃ c,env.cells.lookup x=some c∧h.IsCell c (some u))
structure Cx.Ok (X:Cx):Prop where
 mod:Mod X.K X.mg X.base
 kind:X.env.scope.kind=.function
 glob:X.env.globals=mainGlobals
 blt:X.env.builtins=builtinsNs
 above:X.s₀.heap.objs.size≤X.env.locals
 inj:∀ x y c,X.env.cells.lookup x=some c→X.env.cells.lookup y=some c→x=y
 has:∀ x,(X.env.kindOf x=some .cell∨X.env.kindOf x=some .free)→∃ c,X.env.cells.lookup x=some c
 cab:∀ x c,X.fn x=true→X.env.cells.lookup x=some c→X.s₀.heap.objs.size≤c
 hd:X.calm=true→X.A.handled=none
 frames:X.A.frames=some X.stack
 stk:X.stack=X.outer∨(X.stack=X.env :: X.outer∧X.env.frame=some X.env.locals)
 exf:∀ b∈X.ex,b≠X.env.locals∧∀ x c,X.env.cells.lookup x=some c→c≠b
 bs:∀ b o,X.base.get? b=some o→X.s₀.heap.get? b=some o∧X.H₀ b=none
 bsz:X.base.objs.size≤X.s₀.heap.objs.size
 noex:∀ b o,X.base.get? b=some o→b ∉ X.ex
 exfs:∀ b∈X.ex,b ∉ X.fs
 funs:X.s₀.heap.FunFrames X.base X.outer
 frf:∀ b∈X.fs,X.H₀ b=none
structure Inv (X:Cx) (pins:List (Addr × Obj)) (σ:List (Option V)) (H:Hp) (s:Shared):Prop where
 ok:X.Ok
 os:s.os=X.s₀.os
 bare:AllBare s.gens
 base:Un X.fs X.ex X.H₀ H X.s₀.heap s.heap
 loc:∃ m,s.heap.Ns X.env.locals m∧∀ (i:Nat) (x:Str) (v:V),X.N[i]?=some x→σ[i]?=some (some v)→Vis X.env.scope x→∃ u,RelV v u∧Look X.env s.heap m x u
 cell:∀ x c,X.env.cells.lookup x=some c→∃ v,s.heap.IsCell c v
 free:H X.env.locals=none
 freeC:∀ x c,X.env.cells.lookup x=some c→H c=none
 pin:∀ p∈X.pn ++ pins,s.heap.get? p.1=some p.2∧H p.1=none∧p.1≠X.env.locals∧p.1 ∉ X.fs∧∀ v,p.2.data≠.cell v
 hok:HOk X.prog X.w H s.heap
 len:σ.length=X.N.length
section
variable {X:Cx} {pins:List (Addr × Obj)} {σ:List (Option V)} {H H':Hp} {s:Shared} {h':Heap}
theorem Cx.Ok.nofr (ok:X.Ok) {b:Addr} {o:Obj} (e:X.base.get? b=some o):b ∉ X.fs:=fun hb=>by
 have:=(ok.funs.mem hb).1
 rw [e] at this; cases this
theorem Inv.bs (I:Inv X pins σ H s):∀ b o,X.base.get? b=some o→s.heap.get? b=some o∧H b=none:=fun b o e =>
 ⟨I.base.keep b o (I.ok.bs b o e).1 (I.ok.bs b o e).2 (I.ok.nofr e) (I.ok.noex b o e),I.base.free b o (I.ok.bs b o e).1 (I.ok.bs b o e).2 (I.ok.noex b o e)⟩
theorem Inv.bk (I:Inv X pins σ H s):∀ b o,X.base.get? b=some o→s.heap.get? b=some o:=fun b o e=>(I.bs b o e).1
theorem Inv.mod (I:Inv X pins σ H s):Mod X.K X.mg X.base:=I.ok.mod
theorem Inv.kIn (I:Inv X pins σ H s):X.K.In s.heap:=I.ok.mod.kin.keeps I.bk
theorem Inv.lt (I:Inv X pins σ H s):X.env.locals < s.heap.objs.size:=let ⟨_,hn,_⟩:=I.loc; hn.lt
theorem Inv.sz (I:Inv X pins σ H s):X.s₀.heap.objs.size≤s.heap.objs.size:=Nat.le_trans I.ok.above (Nat.le_of_lt I.lt)
theorem Inv.nofs (I:Inv X pins σ H s) {a:Addr} (h:s.heap.objs.size≤a):a ∉ X.fs:=fun hb=>by
 obtain ⟨_,o,ho,_⟩:=I.ok.funs.mem hb
 exact absurd (Nat.lt_of_lt_of_le (Heap.lt_size ho) (Nat.le_trans I.sz h)) (Nat.lt_irrefl _)
theorem Inv.cne (I:Inv X pins σ H s):∀ x c,X.env.cells.lookup x=some c→c≠X.env.locals:=fun x c e z=>by
 obtain ⟨v,o,ho,hd⟩:=I.cell x c e
 obtain ⟨m,⟨o',es,ep,ho',hd',_⟩,_⟩:=I.loc
 rw [z,ho'] at ho; cases ho; rw [hd'] at hd; cases hd
theorem Inv.funs (I:Inv X pins σ H s):s.heap.FunFrames X.base X.outer:=by
 have all:∀ (l:List Env),(∀ b∈frs l,b∈X.fs)→X.s₀.heap.FunFrames X.base l→s.heap.FunFrames X.base l:=by
  intro l
  induction l with
  | nil=>intro _ _; trivial
  | cons env r ih =>
   intro hs hl
   obtain ⟨hk,⟨L,o,hf,hn,ho,hd⟩,hr⟩:=hl
   have hL:L∈X.fs:=hs L (by unfold frs; rw [List.filterMap_cons,hf]; exact List.mem_cons_self)
   obtain ⟨sl,e⟩:=I.base.slot L o ho (I.ok.frf L hL) hL fun z=>I.ok.exfs L z hL
   exact ⟨hk,⟨L,_,hf,hn,e,hd⟩,ih (fun b hb=>hs b (by unfold frs; rw [List.filterMap_cons,hf]; exact List.mem_cons_of_mem _ hb)) hr⟩
 exact all X.outer (fun _ hb=>hb) I.ok.funs
theorem Inv.stack (I:Inv X pins σ H s):s.heap.FunFrames X.base X.stack:=by
 rcases I.ok.stk with e | ⟨e,hf⟩
 ·rw [e]; exact I.funs
 ·rw [e]
  obtain ⟨m,hn,_⟩:=I.loc
  refine .cons (by rw [I.ok.kind]; decide) hf hn ?_ I.funs
  exact Heap.get?_none_of_le (Nat.le_trans I.ok.bsz I.ok.above)
theorem Inv.stkSub (I:Inv X pins σ H s):∀ b∈frs X.stack,b∈X.env.locals :: X.fs:=fun b hb=>by
 rcases I.ok.stk with e | ⟨e,hf⟩
 ·rw [e] at hb; exact List.mem_cons_of_mem _ hb
 ·rw [e] at hb
  unfold frs at hb
  rw [List.filterMap_cons,hf] at hb
  exact hb
theorem Inv.stkFree (I:Inv X pins σ H s):∀ b∈frs X.stack,H b=none:=fun b hb=>by
 rcases List.mem_cons.mp (I.stkSub b hb) with e | hb
 ·rw [e]; exact I.free
 ·obtain ⟨_,o,ho,_⟩:=I.ok.funs.mem hb
  exact I.base.free b o ho (I.ok.frf b hb) fun z=>I.ok.exfs b z hb
theorem Inv.step {g':Array GenState} {t':Nat} {d':Drawn} {ch:List Addr} (I:Inv X pins σ H s)
  (hch:∀ b∈ch,(b∈X.ex∨X.s₀.heap.objs.size≤b)∧b≠X.env.locals∧(∀ x c,X.env.cells.lookup x=some c→c≠b)∧∀ p∈X.pn ++ pins,p.1≠b)
  (keep:∀ b o,b≠X.env.locals→b ∉ X.fs→b ∉ ch→s.heap.get? b=some o→H b=none→h'.get? b=some o)
  (slot:∀ b o,b≠X.env.locals→b∈X.fs→b ∉ ch→s.heap.get? b=some o→H b=none→∃ sl,h'.get? b=some { o with slots:=sl }) (free:∀ b o,b ∉ ch→s.heap.get? b=some o→H b=none→H' b=none)
  (there:∀ b o,b ∉ ch→s.heap.get? b=some o→∃ o',h'.get? b=some o')
  (tups:∀ b xs,H b=some (.tup xs)→H' b=some (.tup xs)) (frzs:∀ b o u,H b=some (.frz o u)→H' b=some (.frz o u)) (tbls:∀ b ps,H b=some (.tbl ps)→∃ more,H' b=some (.tbl (ps ++ more)))
  (ns:∀ m,s.heap.Ns X.env.locals m→h'.Ns X.env.locals m) (hok:HOk X.prog X.w H' h') (hg:AllBare g') :
  Inv X pins σ H' { s with heap:=h',gens:=g',drawn:=d',toks:=t' }:=by
 have neL:∀ b o,X.s₀.heap.get? b=some o→b≠X.env.locals:=fun b o e=>Nat.ne_of_lt (Nat.lt_of_lt_of_le (Heap.lt_size e) I.ok.above)
 have neC:∀ b o,X.s₀.heap.get? b=some o→b ∉ X.ex→b ∉ ch:=fun b o e hx hb=>by
  rcases (hch b hb).1 with z | z
  ·exact hx z
  ·exact absurd (Nat.lt_of_lt_of_le (Heap.lt_size e) z) (Nat.lt_irrefl _)
 have cellK:∀ x c,X.env.cells.lookup x=some c→∀ v,s.heap.IsCell c v→h'.IsCell c v:=fun x c e v ⟨o,ho,hd⟩=>by
  have nch:c ∉ ch:=fun z=>(hch c z).2.2.1 x c e rfl
  by_cases hc:c∈X.fs
  ·obtain ⟨sl,q⟩:=slot c o (I.cne x c e) hc nch ho (I.freeC x c e)
   exact ⟨_,q,hd⟩
  ·exact ⟨o,keep c o (I.cne x c e) hc nch ho (I.freeC x c e),hd⟩
 refine ⟨I.ok,I.os,hg,⟨fun b o e n hb hx=>?_,fun b o e n hb hx=>?_,fun b o e n hx=>?_,fun b o e hx=>?_,fun b xs e=>tups b xs (I.base.tups b xs e),fun b o xs e=>frzs b o xs (I.base.frzs b o xs e),fun b ps e=>?_⟩,?_,fun x c e=>?_,?_,fun x c e=>?_,fun p hp=>?_,hok,I.len⟩
 ·exact keep b o (neL b o e) hb (neC b o e hx) (I.base.keep b o e n hb hx) (I.base.free b o e n hx)
 ·obtain ⟨sl,e1⟩:=I.base.slot b o e n hb hx
  obtain ⟨sl',e2⟩:=slot b _ (neL b o e) hb (neC b o e hx) e1 (I.base.free b o e n hx)
  exact ⟨sl',e2⟩
 ·obtain ⟨o',e1⟩:=I.base.there b o e hx
  exact free b o' (neC b o e hx) e1 (I.base.free b o e n hx)
 ·obtain ⟨o',e1⟩:=I.base.there b o e hx
  exact there b o' (neC b o e hx) e1
 ·obtain ⟨m1,e1⟩:=I.base.tbls b ps e
  obtain ⟨m2,e2⟩:=tbls b _ e1
  exact ⟨m1 ++ m2,by rw [e2,Array.append_assoc]⟩
 ·obtain ⟨m,hn,hl⟩:=I.loc
  refine ⟨m,ns m hn,fun i x v e1 e2 e3=>?_⟩
  obtain ⟨u,r,l⟩:=hl i x v e1 e2 e3
  refine ⟨u,r,?_⟩
  rcases l with l | ⟨k,c,e,z⟩
  ·exact .inl l
  ·exact .inr ⟨k,c,e,cellK x c e _ z⟩
 ·obtain ⟨v,z⟩:=I.cell x c e
  exact ⟨v,cellK x c e v z⟩
 ·obtain ⟨m,⟨o,_,_,ho,_⟩,_⟩:=I.loc
  exact free _ o (fun z=>(hch _ z).2.1 rfl) ho I.free
 ·obtain ⟨v,o,ho,hd⟩:=I.cell x c e
  exact free c o (fun z=>(hch c z).2.2.1 x c e rfl) ho (I.freeC x c e)
 ·obtain ⟨e,n,ne,nf,d⟩:=I.pin p hp
  have nch:p.1 ∉ ch:=fun z=>(hch p.1 z).2.2.2 p hp rfl
  exact ⟨keep p.1 p.2 ne nf nch e n,free p.1 p.2 nch e n,ne,nf,d⟩
theorem Inv.un {t':Nat} (I:Inv X pins σ H s) (u:Un X.fs [] H H' s.heap h') (hok:HOk X.prog X.w H' h'):Inv X pins σ H' { s with heap:=h',toks:=t' }:=by
 obtain ⟨m,⟨o,es,ep,ho,r⟩,_⟩:=id I.loc
 obtain ⟨sl,hL⟩:=u.any ho I.free (by simp)
 exact I.step (g':=s.gens) (d':=s.drawn) (ch:=[]) (fun _ z=>nomatch z) (fun b o _ hb _ e n=>u.keep b o e n hb (by simp)) (fun b o _ hb _ e n=>u.slot b o e n hb (by simp)) (fun b o _ e n=>u.free b o e n (by simp)) (fun b o _ e=>u.there b o e (by simp)) u.tups u.frzs u.tbls (fun m' hm=>by
  obtain ⟨o',es',ep',ho',r'⟩:=hm
  rw [ho] at ho'; cases ho'
  exact ⟨_,es',ep',hL,r'⟩) hok I.bare
theorem Inv.call {g':Array GenState} {t':Nat} {d':Drawn} {ch:List Addr} (I:Inv X pins σ H s) (u:Un (frs X.stack) ch H H' s.heap h') (hok:HOk X.prog X.w H' h') (hg:AllBare g')
  (hch:∀ b∈ch,(b∈X.ex∨X.s₀.heap.objs.size≤b)∧b≠X.env.locals∧(∀ x c,X.env.cells.lookup x=some c→c≠b)∧∀ p∈X.pn ++ pins,p.1≠b) :
  Inv X pins σ H' { s with heap:=h',gens:=g',drawn:=d',toks:=t' }:=by
 obtain ⟨m,⟨o,es,ep,ho,r⟩,_⟩:=id I.loc
 obtain ⟨sl,hL⟩:=u.any ho I.free fun z=>(hch _ z).2.1 rfl
 exact I.step (ch:=ch) hch (fun b o hL hb hc e n=>u.keep b o e n (fun z=>(List.mem_cons.mp (I.stkSub b z)).elim hL hb) hc) (fun b o _ _ hc e n=>u.any e n hc) (fun b o hc e n=>u.free b o e n hc) (fun b o hc e=>u.there b o e hc) u.tups u.frzs u.tbls (fun m' hm=>by
  obtain ⟨o',es',ep',ho',r'⟩:=hm
  rw [ho] at ho'; cases ho'
  exact ⟨_,es',ep',hL,r'⟩) hok hg
theorem Inv.turned {t':Nat} {it:Addr} (I:Inv X pins σ H s) (k:∀ b o,b≠it→s.heap.get? b=some o→h'.get? b=some o) (hn:H it=none) (hL:it≠X.env.locals)
  (h1:it∈X.ex∨X.s₀.heap.objs.size≤it) (h2:∀ x c,X.env.cells.lookup x=some c→c≠it) (h3:∀ p∈X.pn ++ pins,p.1≠it):Inv X pins σ H { s with heap:=h',toks:=t' }:=by
 have nit:∀ b u,H b=some u→b≠it:=fun b u e z=>by rw [z,hn] at e; cases e
 refine I.step (g':=s.gens) (d':=s.drawn) (ch:=[it]) (fun b hb=>?_) (fun b o _ _ hc e _=>k b o (fun z=>hc (by simp [z])) e) (fun b o _ _ hc e _=>⟨o.slots,k b o (fun z=>hc (by simp [z])) e⟩) (fun _ _ _ _ n=>n)
  (fun b o hc e=>⟨o,k b o (fun z=>hc (by simp [z])) e⟩) (fun _ _ e=>e) (fun _ _ _ e=>e) (fun b ps e=>⟨#[],by rw [e]; simp⟩) (fun m hm=>?_) (fun b u e=>?_) I.bare
 ·have e:b=it:=by simpa using hb
  subst e
  exact ⟨h1,hL,h2,h3⟩
 ·obtain ⟨o,es,ep,ho,r⟩:=hm
  exact ⟨o,es,ep,k _ o (Ne.symm hL) ho,r⟩
 ·refine (I.hok b u e).stay (fun c v hc q=>k c v ?_ q) (fun _ q=>q) fun _ _ q=>q
  rcases hc with z | z
  ·rw [z]; exact nit b u e
  ·exact nit c _ z
theorem Inv.tok (I:Inv X pins σ H s) (t:Nat):Inv X pins σ H { s with toks:=t }:=I.un (h':=s.heap) (t':=t) Un.refl I.hok
theorem Inv.kept {t':Nat} (I:Inv X pins σ H s) (k:∀ b u,s.heap.get? b=some u→h'.get? b=some u):Inv X pins σ H { s with heap:=h',toks:=t' }:=I.un (Un.kept k) (I.hok.kept k)
theorem Inv.laid {a:Addr} {o:HO} {t':Nat} (I:Inv X pins σ H s) (k:∀ b u,s.heap.get? b=some u→h'.get? b=some u) (hp:s.heap.objs.size≤a) (new:Zx X.prog X.w (upd H a o) h' a o) :
  Inv X pins σ (upd H a o) { s with heap:=h',toks:=t' }:=I.un (Un.laid k hp (I.hok.fresh hp)) (I.hok.laid k hp new)
theorem Inv.write {x e:Addr} {o:HO} {t':Nat} (I:Inv X pins σ H s) (mu:Mut (H x)) (he:e=x∨H e=some (.own x)) (k:∀ b u,b≠e→s.heap.get? b=some u→h'.get? b=some u) (heo:∃ u,h'.get? e=some u)
  (new:Zx X.prog X.w (upd H x o) h' x o):Inv X pins σ (upd H x o) { s with heap:=h',toks:=t' }:=I.un (Un.write mu he k heo) (I.hok.write mu he k heo new)
theorem Inv.pins_of {pins':List (Addr × Obj)} (I:Inv X pins σ H s) (h:∀ p∈pins',s.heap.get? p.1=some p.2∧H p.1=none∧p.1≠X.env.locals∧p.1 ∉ X.fs∧∀ v,p.2.data≠.cell v):Inv X pins' σ H s :=
 ⟨I.ok,I.os,I.bare,I.base,I.loc,I.cell,I.free,I.freeC,fun p hp=>(List.mem_append.mp hp).elim (fun z=>I.pin p (List.mem_append_left _ z)) (h p),I.hok,I.len⟩
theorem Zb3 {N:List Str} (hN:N.Nodup) {i j:Nat} {x:Str} (a:N[i]?=some x) (b:N[j]?=some x):i=j:=by
 obtain ⟨h1,e1⟩:=List.getElem?_eq_some_iff.mp a
 obtain ⟨h2,e2⟩:=List.getElem?_eq_some_iff.mp b
 exact (List.getElem_inj hN).mp (e1.trans e2.symm)
theorem Gz {M:Model} {A:Around} {E:Value→Shared→Prop} {i:Nat} {x:Str} {v:V} {u:Value} {Q:Unit→Shared→Prop} (I:Inv X pins σ H s) (hN:X.N.Nodup) (hi:X.N[i]?=some x) (hx:Loc X.env.scope x) (r:RelV v u)
  (h:∀ s',Inv X pins (σ.set i (some v)) H s'→(∃ a,Heap.SameBut a s.heap s'.heap∧(a=X.env.locals∨X.env.cells.lookup x=some a))→Q () s') (hf:X.fn x=true∨X.env.scope.names.lookup x=some .local:=by first | exact .inl rfl | exact .inr rfl | assumption):wpAny M A (storeName X.env x u) Q E s:=by
 obtain ⟨m,hn,hl⟩:=id I.loc
 have hcls:(X.env.scope.kind == .class || (X.env.scope.kind == .module && X.env.locals != X.env.globals))=false:=by rw [I.ok.kind]; rfl
 have hiσ:i < σ.length:=by rw [I.len]; exact (List.getElem?_eq_some_iff.mp hi).1
 have cne:=I.cne
 have tracked:∀ {a:Addr} {h':Heap},(∃ o,s.heap.get? a=some o∧H a=none)→Heap.SameBut a s.heap h'→HOk X.prog X.w H h':=fun {a h'} ha hs b ob e=>by
  obtain ⟨_,_,hfree⟩:=ha
  refine (I.hok b ob e).stay (fun c w' hc q=>(hs.2 c ?_).trans q) (fun _ q=>q) fun _ _ q=>q
  rintro rfl
  rcases hc with rfl | hc
  ·rw [hfree] at e; cases e
  ·rw [hfree] at hc; cases hc
 rcases hx with hk | hk
 ·refine wpAny_storeName_local hk hn (fun h' hn' hs=>?_) hcls
  obtain ⟨oL,_,_,hoL,_⟩:=id hn
  refine h _ ⟨I.ok,I.os,I.bare,⟨fun b o e n hb hx=>?_,fun b o e n hb hx=>?_,I.base.free,fun b o e hx=>?_,I.base.tups,I.base.frzs,I.base.tbls⟩,⟨_,hn',fun j y v' e1 e2 e3=>?_⟩,fun y c e=>?_,I.free,I.freeC,fun p hp=>?_,tracked ⟨oL,hoL,I.free⟩ hs,by simpa using I.len⟩ ⟨_,hs,.inl rfl⟩
  ·exact (hs.2 b (Nat.ne_of_lt (Nat.lt_of_lt_of_le (Heap.lt_size e) I.ok.above))).trans (I.base.keep b o e n hb hx)
  ·obtain ⟨sl,e1⟩:=I.base.slot b o e n hb hx
   exact ⟨sl,(hs.2 b (Nat.ne_of_lt (Nat.lt_of_lt_of_le (Heap.lt_size e) I.ok.above))).trans e1⟩
  ·obtain ⟨o',e1⟩:=I.base.there b o e hx
   exact ⟨o',(hs.2 b (Nat.ne_of_lt (Nat.lt_of_lt_of_le (Heap.lt_size e) I.ok.above))).trans e1⟩
  ·by_cases hj:j=i
   ·subst hj
    rw [hi] at e1; cases e1
    rw [List.getElem?_set_self hiσ] at e2
    cases e2
    exact ⟨u,r,.inl ⟨hk,by simp⟩⟩
   ·rw [List.getElem?_set_ne (Ne.symm hj)] at e2
    obtain ⟨u',r',q⟩:=hl j y v' e1 e2 e3
    refine ⟨u',r',?_⟩
    rcases q with ⟨k,e⟩ | ⟨k,c,e,z⟩
    ·refine .inl ⟨k,?_⟩
     have:y≠x:=fun e=>hj (Zb3 hN e1 (e ▸ hi))
     simp [this,e]
    ·exact .inr ⟨k,c,e,z.sameBut hs (cne y c e)⟩
  ·obtain ⟨w',z⟩:=I.cell y c e
   exact ⟨w',z.sameBut hs (cne y c e)⟩
  ·obtain ⟨e,n,ne,nf,d⟩:=I.pin p hp
   exact ⟨(hs.2 p.1 ne).trans e,n,ne,nf,d⟩
 ·have hfn:X.fn x=true:=by
   rcases hf with z | z
   ·exact z
   ·rw [z] at hk; cases hk
  obtain ⟨c,hc⟩:=I.ok.has x (.inl hk)
  obtain ⟨w',z⟩:=I.cell x c hc
  refine wpAny_storeName_cell I.ok.kind hk hc z (fun h' hc' hs=>?_)
  obtain ⟨oc,hoc,hocd⟩:=id z
  refine h { s with heap:=h' } ⟨I.ok,I.os,I.bare,⟨fun b o e n hb hx=>?_,fun b o e n hb hx=>?_,I.base.free,fun b o e hx=>?_,I.base.tups,I.base.frzs,I.base.tbls⟩,⟨m,hn.sameBut hs (Ne.symm (cne x c hc)),fun j y v' e1 e2 e3=>?_⟩,fun y c' e=>?_,I.free,I.freeC,fun p hp=>?_,tracked ⟨oc,hoc,I.freeC x c hc⟩ hs,by simpa using I.len⟩ ⟨c,hs,.inr hc⟩
  ·exact (hs.2 b (Nat.ne_of_lt (Nat.lt_of_lt_of_le (Heap.lt_size e) (I.ok.cab x c hfn hc)))).trans (I.base.keep b o e n hb hx)
  ·obtain ⟨sl,e1⟩:=I.base.slot b o e n hb hx
   exact ⟨sl,(hs.2 b (Nat.ne_of_lt (Nat.lt_of_lt_of_le (Heap.lt_size e) (I.ok.cab x c hfn hc)))).trans e1⟩
  ·obtain ⟨o',e1⟩:=I.base.there b o e hx
   exact ⟨o',(hs.2 b (Nat.ne_of_lt (Nat.lt_of_lt_of_le (Heap.lt_size e) (I.ok.cab x c hfn hc)))).trans e1⟩
  ·by_cases hj:j=i
   ·subst hj
    rw [hi] at e1; cases e1
    rw [List.getElem?_set_self hiσ] at e2
    cases e2
    exact ⟨u,r,.inr ⟨.inl hk,c,hc,hc'⟩⟩
   ·rw [List.getElem?_set_ne (Ne.symm hj)] at e2
    obtain ⟨u',r',q⟩:=hl j y v' e1 e2 e3
    refine ⟨u',r',?_⟩
    rcases q with q | ⟨k,c',e,z'⟩
    ·exact .inl q
    ·refine .inr ⟨k,c',e,z'.sameBut hs ?_⟩
     rintro rfl
     exact hj (Zb3 hN e1 (I.ok.inj _ _ _ e hc ▸ hi))
  ·by_cases hcc:c'=c
   ·subst hcc; exact ⟨_,hc'⟩
   ·obtain ⟨w2,z2⟩:=I.cell y c' e
    exact ⟨w2,z2.sameBut hs hcc⟩
  ·obtain ⟨e,n,ne,nf,d⟩:=I.pin p hp
   refine ⟨(hs.2 p.1 ?_).trans e,n,ne,nf,d⟩
   intro q
   rw [q,hoc] at e
   have q':oc=p.2:=Option.some.inj e
   exact d w' (by rw [← q']; exact hocd)
theorem Vj {M:Model} {A:Around} {E:Value→Shared→Prop} {i:Nat} {x:Str} {v:V} {u:Value} {Q:Unit→Shared→Prop} (I:Inv X pins σ H s) (hN:X.N.Nodup) (hi:X.N[i]?=some x) (hx:Loc X.env.scope x) (r:RelV v u)
  (h:∀ s',Inv X pins (σ.set i (some v)) H s'→Q () s') (hf:X.fn x=true∨X.env.scope.names.lookup x=some .local:=by first | exact .inl rfl | exact .inr rfl | assumption):wpAny M A (storeName X.env x u) Q E s :=
 Gz I hN hi hx r (fun s' I' _=>h s' I') hf
theorem Inv.call' {s':Shared} {ch:List Addr} (I:Inv X pins σ H s) (ho:s'.os=s.os) (u:Un (frs X.stack) ch H H' s.heap s'.heap) (hok:HOk X.prog X.w H' s'.heap) (hg:AllBare s'.gens)
  (hch:∀ b∈ch,(b∈X.ex∨X.s₀.heap.objs.size≤b)∧b≠X.env.locals∧(∀ x c,X.env.cells.lookup x=some c→c≠b)∧∀ p∈X.pn ++ pins,p.1≠b):Inv X pins σ H' s':=by
 obtain ⟨h',g',d',t',o'⟩:=s'
 have e:o'=s.os:=ho
 subst e
 exact I.call (g':=g') (t':=t') (d':=d') u hok hg hch
end
noncomputable abbrev XK:=Value→Option Addr→Hp→Prop
noncomputable abbrev St:=List (Option V)
noncomputable abbrev VK:=V→Hp→Prop
noncomputable abbrev TE:=St→Hp→VK→Prop
noncomputable abbrev TT:=St→Hp→(Bool→Hp→Prop)→Prop
noncomputable abbrev TA:=St→Hp→(List V→Hp→Prop)→Prop
structure Ends where
 nx:St→Hp→Prop
 rt:VK
 bk:St→Hp→Prop:=fun _ _=>False
 ct:St→Hp→Prop:=fun _ _=>False
noncomputable abbrev TS:=Ends→St→Hp→Prop
noncomputable def EP (X:Cx) (pins:List (Addr × Obj)) (σ:St) (Q:VK) (u:Value) (s':Shared):Prop:=∃ v H',Inv X pins σ H' s'∧RelV v u∧Q v H'
noncomputable def TP (X:Cx) (pins:List (Addr × Obj)) (σ:St) (Q:Bool→Hp→Prop) (b:Bool) (s':Shared):Prop:=∃ H',Inv X pins σ H' s'∧Q b H'
noncomputable def AP (X:Cx) (pins:List (Addr × Obj)) (σ:St) (Q:List V→Hp→Prop) (us:List Value) (s':Shared):Prop:=∃ vs H',Inv X pins σ H' s'∧Vals vs us∧Q vs H'
noncomputable def SP (X:Cx) (pins:List (Addr × Obj)) (D:Ends) (f:Flow) (s':Shared):Prop :=
 match f with
 | .next=>∃ σ' H',Inv X pins σ' H' s'∧D.nx σ' H'
 | .brk=>∃ σ' H',Inv X pins σ' H' s'∧D.bk σ' H'
 | .cont=>∃ σ' H',Inv X pins σ' H' s'∧D.ct σ' H'
 | .ret u=>∃ v σ' H',Inv X pins σ' H' s'∧RelV v u∧D.rt v H'
noncomputable def PE (X:Cx) (e:Expr) (t:TE):Prop :=
 ∀ (pins:List (Addr × Obj)) (s:Shared) (σ:St) (H:Hp) (Q:VK),Inv X pins σ H s→t σ H Q→wpAny (model X.prog X.w) X.A (eval e X.env) (EP X pins σ Q) X.xe s
noncomputable def PT (X:Cx) (e:Expr) (t:TT):Prop :=
 ∀ (pins:List (Addr × Obj)) (s:Shared) (σ:St) (H:Hp) (Q:Bool→Hp→Prop),Inv X pins σ H s→t σ H Q→wpAny (model X.prog X.w) X.A (isTrue e X.env (eval e X.env)) (TP X pins σ Q) X.xe s
noncomputable def PW (X:Cx) (e:Expr) (t:TT):Prop :=
 ∀ (whole:Sem Value) (pins:List (Addr × Obj)) (s:Shared) (σ:St) (H:Hp) (Q:Bool→Hp→Prop),Inv X pins σ H s→t σ H Q→wpAny (model X.prog X.w) X.A (isTrue e X.env whole) (TP X pins σ Q) X.xe s
theorem PW.pt {X:Cx} {e:Expr} {t:TT} (h:PW X e t):PT X e t:=h _
noncomputable def PA (X:Cx) (es:List Expr) (t:TA):Prop :=
 ∀ (pos:Pos) (pins:List (Addr × Obj)) (s:Shared) (σ:St) (H:Hp) (Q:List V→Hp→Prop),Inv X pins σ H s→t σ H Q→wpAny (model X.prog X.w) X.A (spliced (backTo pos (starEach es X.env))) (AP X pins σ Q) X.xe s
noncomputable def PS (X:Cx) (st:Stmt) (t:TS):Prop :=
 ∀ (pins:List (Addr × Obj)) (s:Shared) (σ:St) (H:Hp) (D:Ends),Inv X pins σ H s→t D σ H→wpAny (model X.prog X.w) X.A (exec st X.env) (SP X pins D) X.xe s
noncomputable def PSs (X:Cx) (st:List Stmt) (t:TS):Prop :=
 ∀ (pins:List (Addr × Obj)) (s:Shared) (σ:St) (H:Hp) (D:Ends),Inv X pins σ H s→t D σ H→wpAny (model X.prog X.w) X.A (execs st X.env) (SP X pins D) X.xe s
theorem thn {α:Type} {t:Sem α} {Q Q':α→Shared→Prop} {M:Model} {A:Around} {E:Value→Shared→Prop} {s:Shared} (h:wpAny M A t Q E s) (hQ:∀ a s,Q a s→Q' a s):wpAny M A t Q' E s:=wpAny_mono h hQ fun _ _ x=>x
end L2
namespace L2
open PySem PySem.Spec PyProof.Rows
section
variable {X:Cx}
noncomputable def tVar (i:Nat):TE:=fun σ H Q=>∃ v,σ[i]?=some (some v)∧Q v H
noncomputable def tC (v:V):TE:=fun _ H Q=>Q v H
theorem Zg9 {i:Nat} {x:Str} {pos:Pos} (hN:X.N[i]?=some x) (hv:Vis X.env.scope x) (hd:(x == ("__debug__":Str))=false:=by decide) (hcd:(x == ("__classdict__":Str))=false:=by decide):PE X (.Name x pos) (tVar i):=by
 intro pins s σ H Q I h
 obtain ⟨v,e,h⟩:=h
 obtain ⟨m,hn,hl⟩:=I.loc
 obtain ⟨u,r,l⟩:=hl i x v hN e hv
 have fin:EP X pins σ Q u s:=⟨v,H,I,r,h⟩
 rcases l with ⟨hk,hm⟩ | ⟨hk,c,hc,hcell⟩
 ·exact wpAny_Name (wpAny_loadName_local I.ok.kind hk hn hm fin) hd
 ·rcases hk with hk | hk
  ·exact wpAny_Name (wpAny_loadName_cell I.ok.kind hk hc hcell fin) hd
  ·exact wpAny_Name (wpAny_loadName_free I.ok.kind hk hc hcell fin hcd) hd
theorem Zf {i j pos}:PE X (.Constant (.int i) j pos) (tC (.int i)):=fun _ _ _ H _ I h=>wpAny_Constant_int ⟨.int i,H,I.tok _,⟨_,rfl⟩,h⟩
theorem Wg {b j pos}:PE X (.Constant (.bool b) j pos) (tC (.bl b)):=fun _ _ _ H _ I h=>Constant_bool ⟨.bl b,H,I,rfl,h⟩
theorem Xy {j pos}:PE X (.Constant .none j pos) (tC .non):=fun _ _ _ H _ I h=>Constant_none ⟨.non,H,I,rfl,h⟩
theorem Xp {x j pos}:PE X (.Constant (.str x) j pos) (tC (.str x)):=fun _ _ _ H _ I h=>Calls.Constant_str ⟨.str x,H,I.tok _,⟨_,rfl⟩,h⟩
noncomputable def Gl (X:Cx) (x:Str):Prop:=X.env.kindOf x=some .globalImplicit
theorem Vd {E:Value→Shared→Prop} {pins:List (Addr × Obj)} {s:Shared} {σ:St} {H:Hp} {x:Str} {u:Value} {pos:Pos} {Q:Value→Shared→Prop} (I:Inv X pins σ H s) (hg:Gl X x) (hm:X.mg x=some u) (h:Q u s)
  (hd:(x == ("__debug__":Str))=false:=by decide):wpAny (model X.prog X.w) X.A (eval (.Name x pos) X.env) Q E s :=
 Calls.Name_function_global I.ok.kind hg (Calls.loadGlobal_global (by rw [I.ok.glob]; exact I.mod.glob.keeps I.bk) hm h) hd
theorem Wa {E:Value→Shared→Prop} {pins:List (Addr × Obj)} {s:Shared} {σ:St} {H:Hp} {x:Str} {u:Value} {pos:Pos} {Q:Value→Shared→Prop} (I:Inv X pins σ H s) (hg:Gl X x) (hm:X.mg x=none) (hv:bootBuiltins x=some u) (h:Q u s)
  (hn:x≠"__name__":=by decide) (hd:(x == ("__debug__":Str))=false:=by decide):wpAny (model X.prog X.w) X.A (eval (.Name x pos) X.env) Q E s:=by
 obtain ⟨mb,h1,h2⟩:=I.mod.blt
 exact Calls.Name_function_global I.ok.kind hg (Calls.loadGlobal_builtin (by rw [I.ok.glob]; exact I.mod.glob.keeps I.bk) hm (by rw [I.ok.blt]; exact h1.keeps I.bk) ((h2 x hn).trans hv) h) hd
theorem Q6 {x:Str} {v:V} {u:Value} {pos:Pos} (hg:Gl X x) (hm:X.mg x=some u) (r:RelV v u) (hd:(x == ("__debug__":Str))=false:=by decide):PE X (.Name x pos) (tC v) :=
 fun _ _ _ H _ I h=>Vd I hg hm ⟨v,H,I,r,h⟩ hd
theorem U3 {x:Str} {v:V} {u:Value} {pos:Pos} (hg:Gl X x) (hm:X.mg x=none) (hv:bootBuiltins x=some u) (r:RelV v u) (hn:x≠"__name__":=by decide) (hd:(x == ("__debug__":Str))=false:=by decide):PE X (.Name x pos) (tC v) :=
 fun _ _ _ H _ I h=>Wa I hg hm hv ⟨v,H,I,r,h⟩ hn hd
variable {a b:Expr} {ta tb:TE} {pos:Pos}
noncomputable def PC (X:Cx) (op:CmpOp) (a b:Expr) (t:TE):Prop :=
 ∀ (pins:List (Addr × Obj)) (s:Shared) (σ:St) (H:Hp) (Q:VK),Inv X pins σ H s→t σ H Q →
  wpAny (model X.prog X.w) X.A (eval a X.env) (fun v s₁=>wpAny (model X.prog X.w) X.A (eval b X.env) (fun u s₂=>wpAny (model X.prog X.w) X.A (compareOp op v u) (EP X pins σ Q) X.xe s₂) X.xe s₁) X.xe s
noncomputable def tB (t:TE):TT:=fun σ H Q=>t σ H fun x H1=>∃ c,x=.bl c∧Q c H1
theorem Zg4 {op:CmpOp} {t:TE} (h:PC X op a b t) (h1:behindInMarks op b=false:=by first | exact nobehind _ (by decide) (by decide) | rfl):PT X (.Compare a [op] [b] pos) (tB t):=by
 intro pins s σ H Q I hw
 refine wpAny_isTrue_Compare1 (thn (h pins s σ H _ I hw) fun v s1 h1=>thn h1 fun u s2 h2=>thn h2 fun c s3 zz0=>?_) h1
 obtain ⟨x,H1,I1,r1,q1⟩:=zz0
 obtain ⟨d,rfl,q⟩:=q1
 cases r1
 exact wpAny_truthy_bool ⟨H1,I1,q⟩
theorem Wz {e:Expr} {t:TE} (h:PE X e t) (he:∀ whole,isTrue e X.env whole=(do let v ← whole; standAt e.pos; holding [v] (truthy v)):=by intro _; rfl):PT X e (tB t):=by
 intro pins s σ H Q I hw
 refine isTrue_plain (thn (h pins s σ H _ I hw) fun v s1 zz1=>?_) (he _)
 obtain ⟨x,H1,I1,r1,q1⟩:=zz1
 obtain ⟨d,rfl,q⟩:=q1
 cases r1
 exact wpAny_truthy_bool ⟨H1,I1,q⟩
variable {tA tB':TT} {rest:List Expr}
noncomputable def tAnd (t u:TT):TT:=fun σ H Q=>t σ H fun c H1=>if c=true then u σ H1 Q else Q false H1
noncomputable def tOr (t u:TT):TT:=fun σ H Q=>t σ H fun c H1=>if c=true then Q true H1 else u σ H1 Q
noncomputable def tNot (t:TT):TT:=fun σ H Q=>t σ H fun c H1=>Q (!c) H1
theorem J6 (ha:PT X a tA):PW X (.BoolOp .And [a] pos) tA:=by
 intro wh pins s σ H Q I h
 refine isTrue_and (thn (ha pins s σ H Q I h) fun c s1 e=>?_)
 cases c with
 | true=>exact isTrue_and_nil e
 | false=>exact e
theorem Qc (ha:PT X a tA):PW X (.BoolOp .Or [a] pos) tA:=by
 intro wh pins s σ H Q I h
 refine isTrue_or (thn (ha pins s σ H Q I h) fun c s1 e=>?_)
 cases c with
 | false=>exact isTrue_or_nil e
 | true=>exact e
theorem Q5 (ha:PT X a tA) (hb:PW X (.BoolOp .And (b :: rest) pos) tB'):PW X (.BoolOp .And (a :: b :: rest) pos) (tAnd tA tB'):=by
 intro wh pins s σ H Q I h
 refine isTrue_and (thn (ha pins s σ H _ I h) fun c s1 zz9=>?_)
 obtain ⟨H1,I1,q1⟩:=zz9
 cases c with
 | true=>exact hb wh pins s1 σ H1 Q I1 q1
 | false=>exact ⟨H1,I1,q1⟩
theorem Vn (ha:PT X a tA) (hb:PW X (.BoolOp .Or (b :: rest) pos) tB'):PW X (.BoolOp .Or (a :: b :: rest) pos) (tOr tA tB'):=by
 intro wh pins s σ H Q I h
 refine isTrue_or (thn (ha pins s σ H _ I h) fun c s1 zz9=>?_)
 obtain ⟨H1,I1,q1⟩:=zz9
 cases c with
 | true=>exact ⟨H1,I1,q1⟩
 | false=>exact hb wh pins s1 σ H1 Q I1 q1
theorem Qd (ha:PT X a tA):PT X (.UnaryOp .Not a pos) (tNot tA):=by
 intro pins s σ H Q I h
 exact isTrue_not (ha pins s σ H (fun c H1=>Q (!c) H1) I h)
noncomputable def Znt (ta tb:TE):TE:=fun σ H Q=>ta σ H fun x H1=>∃ c,x=.bl c∧if c=true then tb σ H1 Q else Q (.bl false) H1
noncomputable def Znn (ta:TE):TE:=fun σ H Q=>ta σ H fun x H1=>∃ c,x=.bl c∧Q (.bl (!c)) H1
theorem Zmx {op} {t:TE} (h:PE X a t):PE X (.BoolOp op [a] pos) t:=fun pins s σ H Q I hw=>BoolOp_one (h pins s σ H Q I hw)
theorem Zm0 (ha:PE X a ta) (hb:PE X (.BoolOp .And (b :: rest) pos) tb):PE X (.BoolOp .And (a :: b :: rest) pos) (Znt ta tb):=by
 intro pins s σ H Q I h
 refine BoolOp_and (thn (ha pins s σ H _ I h) fun v s1 zz9=>?_)
 obtain ⟨x,H1,I1,r1,q1⟩:=zz9
 obtain ⟨c,rfl,q1⟩:=q1
 cases r1
 refine wpAny_truthy_bool ?_
 cases c with
 | true=>exact hb pins s1 σ H1 Q I1 q1
 | false=>exact ⟨.bl false,H1,I1,rfl,q1⟩
theorem Zmy (ha:PE X a ta):PE X (.UnaryOp .Not a pos) (Znn ta):=by
 intro pins s σ H Q I h
 refine UnaryOp_ (thn (ha pins s σ H _ I h) fun v s1 zz9=>?_)
 obtain ⟨x,H1,I1,r1,q1⟩:=zz9
 obtain ⟨c,rfl,q1⟩:=q1
 cases r1
 exact not_of (wpAny_truthy_bool ⟨.bl (!c),H1,I1,rfl,q1⟩)
noncomputable def tIf (t:TT) (ta tb:TE):TE:=fun σ H Q=>t σ H fun c H1=>if c=true then ta σ H1 Q else tb σ H1 Q
theorem Zbq {c:Expr} (hc:PT X c tA) (ha:PE X a ta) (hb:PE X b tb):PE X (.IfExp c a b pos) (tIf tA ta tb):=by
 intro pins s σ H Q I h
 refine wpAny_IfExp (thn (hc pins s σ H _ I h) fun d s1 zz9=>?_)
 obtain ⟨H1,I1,q1⟩:=zz9
 cases d with
 | true=>exact ha pins s1 σ H1 Q I1 q1
 | false=>exact hb pins s1 σ H1 Q I1 q1
end
end L2
namespace L2
open PySem PySem.Spec PyProof.Rows
noncomputable def SqL (K:PySem.W.Frag) (H:Hp) (a:Addr) (xs:List V):Prop :=
 Rd H a (.lst xs) ∨
  ∃ (o:Obj) (its:Array Value) (n:Nat),K.lookup a=some o∧o.cls=.type "list"∧o.dict=none∧o.data=.seq its n∧its.size≤sizeLine∧Vals xs its.toList
noncomputable def SqT (K:PySem.W.Frag) (H:Hp) (a:Addr) (xs:List V):Prop :=
 Rd H a (.tup xs) ∨
  ∃ (o:Obj) (its:Array Value) (n:Nat),K.lookup a=some o∧o.cls=.type "tuple"∧o.data=.seq its n∧its.size≤sizeLine∧Vals xs its.toList
noncomputable def absV:Value→Option V
 | .none=>some .non
 | .bool b=>some (.bl b)
 | .int i _=>some (.int i)
 | .str x _=>some (.str x)
 | .bytes b _=>some (.byt b)
 | .float b _=>some (.flt b)
 | .ref a=>some (.ref a)
 | .type n=>some (.ty n)
 | _=>none
theorem RelV.abs {x:V} {u:Value} (r:RelV x u):absV u=some x:=by
 cases x with
 | non=>cases r; rfl
 | bl _=>cases r; rfl
 | int _=>obtain ⟨t,rfl⟩:=r; rfl
 | str _=>obtain ⟨t,rfl⟩:=r; rfl
 | byt _=>obtain ⟨t,rfl⟩:=r; rfl
 | flt _=>obtain ⟨t,rfl⟩:=r; rfl
 | ref _=>cases r; rfl
 | ty _=>cases r; rfl
theorem RelV.inj {x y:V} {u:Value} (r:RelV x u) (q:RelV y u):x=y:=Option.some.inj (r.abs.symm.trans q.abs)
theorem Vals.inj:∀ {xs ys:List V} {us:List Value},Vals xs us→Vals ys us→xs=ys
 | _,_,_,.nil,.nil=>rfl
 | _,_,_,.cons r t,.cons r' t'=>by rw [r.inj r',Vals.inj t t']
section
variable {X:Cx} {pins:List (Addr × Obj)} {σ:St} {H:Hp} {s:Shared} {a:Addr} {xs ys:List V}
theorem SqL.of {K:PySem.W.Frag} (h:H a=some (.lst xs)):SqL K H a xs:=.inl (.inl h)
theorem SqT.of {K:PySem.W.Frag} (h:H a=some (.tup xs)):SqT K H a xs:=.inl (.inl h)
theorem Inv.list (I:Inv X pins σ H s) (h:SqL X.K H a xs):∃ its:List Value,Vals xs its∧PlainL s.heap a its.toArray∧xs.length≤sizeLine:=by
 rcases h with h | ⟨o,its,n,hk,hc,hd,hs,hz,r⟩
 ·obtain ⟨z,its,n,r,e⟩:=h.ok I.hok
  exact ⟨its,r,⟨_,n,e,rfl,rfl,rfl⟩,z⟩
 ·refine ⟨its.toList,r,⟨o,n,I.kIn a o hk,hc,hd,by simpa using hs⟩,?_⟩
  have e:=r.length
  simp only [Array.length_toList] at e
  omega
theorem Inv.tuple (I:Inv X pins σ H s) (h:SqT X.K H a xs):∃ its:List Value,Vals xs its∧IsTup s.heap a its.toArray∧xs.length≤sizeLine:=by
 rcases h with h | ⟨o,its,n,hk,hc,hs,hz,r⟩
 ·obtain ⟨z,its,r,p⟩:=h.ok I.hok
  exact ⟨its,r,p,z⟩
 ·refine ⟨its.toList,r,⟨o,I.kIn a o hk,hc,n,by simpa using hs⟩,?_⟩
  have e:=r.length
  simp only [Array.length_toList] at e
  omega
theorem Inv.list_inj (I:Inv X pins σ H s) (h:SqL X.K H a xs) (h':SqL X.K H a ys):xs=ys:=by
 obtain ⟨its,r,⟨o,n,e,_,_,d⟩,_⟩:=I.list h
 obtain ⟨its',r',⟨o',n',e',_,_,d'⟩,_⟩:=I.list h'
 rw [e] at e'; cases e'
 rw [d] at d'
 injection d' with d1 _
 have:its=its':=by simpa using congrArg Array.toList d1
 subst this
 exact r.inj r'
theorem Inv.tuple_inj (I:Inv X pins σ H s) (h:SqT X.K H a xs) (h':SqT X.K H a ys):xs=ys:=by
 obtain ⟨its,r,⟨o,e,_,n,d⟩,_⟩:=I.tuple h
 obtain ⟨its',r',⟨o',e',_,n',d'⟩,_⟩:=I.tuple h'
 rw [e] at e'; cases e'
 rw [d] at d'
 injection d' with d1 _
 have:its=its':=by simpa using congrArg Array.toList d1
 subst this
 exact r.inj r'
end
noncomputable abbrev Cx.wish (X:Cx) (E:Value→Shared→Prop):Cx:={ X with xe:=E }
noncomputable abbrev Cx.nox (X:Cx):Cx:=X.wish fun _ _=>False
theorem Cx.Ok.wish {X:Cx} (ok:X.Ok) (E:Value→Shared→Prop):(X.wish E).Ok :=
 ⟨ok.mod,ok.kind,ok.glob,ok.blt,ok.above,ok.inj,ok.has,ok.cab,ok.hd,ok.frames,ok.stk,ok.exf,ok.bs,ok.bsz,ok.noex,ok.exfs,ok.funs,ok.frf⟩
theorem Cx.Ok.unwish {X:Cx} {E:Value→Shared→Prop} (ok:(X.wish E).Ok):X.Ok :=
 ⟨ok.mod,ok.kind,ok.glob,ok.blt,ok.above,ok.inj,ok.has,ok.cab,ok.hd,ok.frames,ok.stk,ok.exf,ok.bs,ok.bsz,ok.noex,ok.exfs,ok.funs,ok.frf⟩
section
variable {X:Cx} {pins:List (Addr × Obj)} {σ:St} {H:Hp} {s:Shared} {E:Value→Shared→Prop}
theorem Inv.wish (I:Inv X pins σ H s) (E:Value→Shared→Prop):Inv (X.wish E) pins σ H s:=⟨I.ok.wish E,I.os,I.bare,I.base,I.loc,I.cell,I.free,I.freeC,I.pin,I.hok,I.len⟩
theorem Inv.unwish (I:Inv (X.wish E) pins σ H s):Inv X pins σ H s:=⟨I.ok.unwish,I.os,I.bare,I.base,I.loc,I.cell,I.free,I.freeC,I.pin,I.hok,I.len⟩
theorem SP.unwish {D:Ends} {f:Flow} {s':Shared} (h:SP (X.wish E) pins D f s'):SP X pins D f s':=by
 cases f with
 | next=>obtain ⟨σ',H',I,q⟩:=h; exact ⟨σ',H',I.unwish,q⟩
 | brk=>obtain ⟨σ',H',I,q⟩:=h; exact ⟨σ',H',I.unwish,q⟩
 | cont=>obtain ⟨σ',H',I,q⟩:=h; exact ⟨σ',H',I.unwish,q⟩
 | ret u=>obtain ⟨v,σ',H',I,r,q⟩:=h; exact ⟨v,σ',H',I.unwish,r,q⟩
theorem PSs.nox {st:List Stmt} {t:TS} (h:PSs X.nox st t):PSs X st t:=fun pins s σ H D I hw =>
 wpAny_mono (h pins s σ H D (I.wish _) hw) (fun _ _ q=>q.unwish) fun _ _ z=>False.elim z
end
section
variable {X:Cx} {st:Stmt} {rest:List Stmt} {t u:TS} {e:Expr} {te:TE} {pos:Pos}
noncomputable def Ql:TS:=fun D σ H=>D.nx σ H
noncomputable def tSeq (t u:TS):TS:=fun D σ H=>t { D with nx:=u D } σ H
theorem Z3:PSs X [] Ql:=fun _ _ σ H _ I h=>wpAny_execs_nil ⟨σ,H,I,h⟩
theorem Ze (h1:PS X st t) (h2:PSs X rest u):PSs X (st :: rest) (tSeq t u):=by
 intro pins s σ H D I h
 refine wpAny_execs_cons (thn (h1 pins s σ H { D with nx:=u D } I h) fun f s1 q=>?_)
 cases f with
 | next =>
  obtain ⟨σ',H',I',q⟩:=q
  exact h2 pins s1 σ' H' D I' q
 | ret v=>exact q
 | brk=>exact q
 | cont=>exact q
theorem Zh (h1:PS X st t):PSs X [st] t:=by
 intro pins s σ H D I h
 refine wpAny_execs_cons (thn (h1 pins s σ H D I h) fun f s1 q=>?_)
 cases f with
 | next=>exact wpAny_execs_nil q
 | ret v=>exact q
 | brk=>exact q
 | cont=>exact q
noncomputable def Zmo:TS:=fun D σ H=>D.bk σ H
theorem Zjb:PS X (.Break pos) Zmo:=fun _ _ σ H _ I h=>wpAny_Break ⟨σ,H,I,h⟩
theorem Inv.quiet {pins:List (Addr × Obj)} {σ:St} {H:Hp} {s:Shared} (I:Inv X pins σ H s):interactive X.env=false:=by simp [interactive,I.ok.kind]
noncomputable def Zkh (te:TE):TS:=fun D σ H=>te σ H fun _ H1=>D.nx σ H1
theorem Yg (he:PE X e te) (hs:swapsWith e none pos.line X.env=pure false:=by rfl):PS X (.Expr e pos) (Zkh te):=by
 intro pins s σ H D I h
 refine wpAny_Expr_any (thn (he pins s σ H _ I h) fun v s1 zz2=>?_) I.quiet hs
 obtain ⟨x,H1,I1,r1,q1⟩:=zz2
 exact ⟨σ,H1,I1,q1⟩
noncomputable def tRet (te:TE):TS:=fun D σ H=>te σ H D.rt
theorem Zp (he:PE X e te):PS X (.Return (some e) pos) (tRet te):=by
 intro pins s σ H D I h
 refine wpAny_Return_some (thn (he pins s σ H _ I h) fun v s1 zz3=>?_)
 obtain ⟨x,H1,I1,r1,q1⟩:=zz3
 exact ⟨x,σ,H1,I1,r1,q1⟩
noncomputable def tIfS (c:TT) (t u:TS):TS:=fun D σ H=>c σ H fun b H1=>if b=true then t D σ H1 else u D σ H1
theorem Yd {c:Expr} {a b:List Stmt} {tc:TT} (hc:PT X c tc) (ha:PSs X a t) (hb:PSs X b u):PS X (.If c a b pos) (tIfS tc t u):=by
 intro pins s σ H D I h
 refine wpAny_If (thn (hc pins s σ H _ I h) fun d s1 zz9=>?_)
 obtain ⟨H1,I1,q1⟩:=zz9
 cases d with
 | true=>exact ha pins s1 σ H1 D I1 q1
 | false=>exact hb pins s1 σ H1 D I1 q1
noncomputable def Zmh:TS:=fun _ _ _=>False
theorem Uk {sts:List Stmt}:PSs X sts Zmh:=fun _ _ _ _ _ _ h=>h.elim
end
noncomputable abbrev TG:=V→St→Hp→(St→Hp→Prop)→Prop
noncomputable abbrev TGs:=List V→St→Hp→(St→Hp→Prop)→Prop
noncomputable def PG (X:Cx) (target:Expr) (t:TG):Prop :=
 ∀ (pins:List (Addr × Obj)) (s:Shared) (σ:St) (H:Hp) (v:V) (u:Value) (Q:St→Hp→Prop),Inv X pins σ H s→RelV v u→t v σ H Q →
  wpAny (model X.prog X.w) X.A (assign target X.env u) (fun _ s'=>∃ σ' H',Inv X pins σ' H' s'∧Q σ' H') X.xe s
noncomputable def PGs (X:Cx) (ts:List Expr) (t:TGs):Prop :=
 ∀ (pins:List (Addr × Obj)) (s:Shared) (σ:St) (H:Hp) (vs:List V) (us:List Value) (Q:St→Hp→Prop),Inv X pins σ H s→Vals vs us→t vs σ H Q →
  wpAny (model X.prog X.w) X.A (assignInOrder ((assignEach ts X.env).map (·.2)) us) (fun _ s'=>∃ σ' H',Inv X pins σ' H' s'∧Q σ' H') X.xe s
noncomputable abbrev TSet:=V→V→V→Hp→(Hp→Prop)→Prop
noncomputable def PSet (X:Cx) (t:TSet):Prop :=
 ∀ (pins:List (Addr × Obj)) (s:Shared) (σ:St) (H:Hp) (o i v:V) (ov iv u:Value) (Q:Hp→Prop),Inv X pins σ H s→RelV o ov→RelV i iv→RelV v u→t o i v H Q →
  wpAny (model X.prog X.w) X.A (setItem ov iv u) (fun _ s'=>∃ H',Inv X pins σ H' s'∧Q H') X.xe s
noncomputable abbrev TIp:=V→V→Hp→VK→Prop
noncomputable def PIp (X:Cx) (op:Operator) (t:TIp):Prop :=
 ∀ (pins:List (Addr × Obj)) (s:Shared) (σ:St) (H:Hp) (x y:V) (v u:Value) (Q:VK),Inv X pins σ H s→RelV x v→RelV y u→t x y H Q →
  wpAny (model X.prog X.w) X.A (inplaceOp op v u) (EP X pins σ Q) X.xe s
section
variable {X:Cx} {pos:Pos}
noncomputable def Zm (i:Nat):TG:=fun v σ H Q=>Q (σ.set i (some v)) H
theorem Zn {i:Nat} {x:Str} (hN:X.N.Nodup) (hi:X.N[i]?=some x) (hx:Loc X.env.scope x) (hf:X.fn x=true∨X.env.scope.names.lookup x=some .local:=by first | exact .inl rfl | exact .inr rfl | assumption):PG X (.Name x pos) (Zm i):=by
 intro pins s σ H v u Q I r h
 exact wpAny_assign_Name (Vj I hN hi hx r (fun s' I'=>⟨_,H,I',h⟩) hf)
noncomputable def gNil:TGs:=fun vs σ H Q=>vs=[]∧Q σ H
noncomputable def Zn7 (t:TG) (u:TGs):TGs:=fun vs σ H Q=>∃ v r,vs=v :: r∧t v σ H fun σ' H'=>u r σ' H' Q
theorem Wf:PGs X [] gNil:=by
 intro pins s σ H vs us Q I r h
 obtain ⟨e,h⟩:=h
 subst e
 cases r
 exact assignInOrder_nil ⟨σ,H,I,h⟩
theorem Z5 {e:Expr} {es:List Expr} {t:TG} {u:TGs} (h1:PG X e t) (h2:PGs X es u)
  (hs:(assignEach (e :: es) X.env).map (·.2)=assign e X.env :: (assignEach es X.env).map (·.2):=by rfl):PGs X (e :: es) (Zn7 t u):=by
 intro pins s σ H vs us Q I r h
 obtain ⟨v,vr,e1,h⟩:=h
 subst e1
 cases r with
 | cons r rr =>
  rw [hs]
  refine assignInOrder_cons (thn (h1 pins s σ H _ _ _ I r h) fun _ s1 zz9=>?_)
  obtain ⟨σ1,H1,I1,q1⟩:=zz9
  exact h2 pins s1 σ1 H1 _ _ Q I1 rr q1
noncomputable def gTup (K:PySem.W.Frag) (n:Nat) (t:TGs):TG:=fun v σ H Q=>∃ a xs,v=.ref a∧SqT K H a xs∧xs.length=n∧t xs σ H Q
theorem Qf {es:List Expr} {k:Nat} {t:TGs} {n:Nat} (hc:X.calm=true) (h:PGs X es t)
  (hn:(assignEach es X.env).length=n:=by rfl) (hst:(assignEach es X.env).findIdx? (·.1)=none:=by rfl):PG X (.Tuple es k pos) (gTup X.K n t):=by
 intro pins s σ H v u Q I r hw
 obtain ⟨a,xs,e1,hq,hl,hw⟩:=hw
 subst e1
 cases r
 obtain ⟨its,rv,ht,hz⟩:=I.tuple hq
 refine assign_Tuple_tuple (I.ok.hd hc) ht (by simp [hn,← hl,rv.length]) hst fun h' hx=>?_
 have I1:Inv X pins σ H { s with heap:=h' }:=I.kept (t':=s.toks) fun b o e=>hx b o (Nat.ne_of_lt (Heap.lt_size e)) e
 exact h pins _ σ H xs _ Q I1 (by simpa using rv) hw
noncomputable def gSub (to ti:TE) (t:TSet):TG:=fun v σ H Q=>to σ H fun o H1=>ti σ H1 fun i H2=>t o i v H2 fun H3=>Q σ H3
theorem W0 {o i:Expr} {to ti:TE} {t:TSet} (ho:PE X o to) (hi:PE X i ti) (hs:PSet X t)
  (ha:∀ v,assign (.Subscript o i pos) X.env v=(do
   let ov ← holding [v] (eval o X.env)
   let iv ← holding [v,ov] (eval i X.env)
   standAt pos
   holding [v,ov,iv] (setItem ov iv v)
   release [v,ov,iv] []):=by intro _; rfl):PG X (.Subscript o i pos) (gSub to ti t):=by
 intro pins s σ H v u Q I r h
 rw [ha]
 refine wpAny_bind (wpAny_holding (thn (ho pins s σ H _ I h) fun ov s1 zz9=>?_))
 obtain ⟨x,H1,I1,r1,q1⟩:=zz9
 refine wpAny_bind (wpAny_holding (thn (hi pins s1 σ H1 _ I1 q1) fun iv s2 zz9=>?_))
 obtain ⟨y,H2,I2,r2,q2⟩:=zz9
 refine wpAny_bind (wpAny_standAt (wpAny_bind (wpAny_holding (thn (hs pins s2 σ H2 x y v ov iv u _ I2 r1 r2 r q2) fun _ s3 zz9=>?_))))
 obtain ⟨H3,I3,q3⟩:=zz9
 exact wpAny_release ⟨σ,H3,I3,q3⟩
noncomputable def tAsg (te:TE) (g:TG):TS:=fun D σ H=>te σ H fun x H1=>g x σ H1 D.nx
theorem Xn {tg e:Expr} {te:TE} {g:TG} (he:PE X e te) (hg:PG X tg g) (hs:swapsWithSole [tg] e pos.line X.env=pure false:=by rfl) (hw:swappedStores [tg] e X.env=pure none:=by rfl)
  (h1:(assignEach [tg] X.env).map (·.2)=[assign tg X.env]:=by rfl):PS X (.Assign [tg] e pos) (tAsg te g):=by
 intro pins s σ H D I h
 refine wpAny_Assign_stores (thn (he pins s σ H _ I h) fun v s1 zz4=>?_) hs hw
 obtain ⟨x,H1,I1,r1,q1⟩:=zz4
 rw [h1]
 exact thn (hg pins s1 σ H1 x v _ I1 r1 q1) fun _ s2 q=>q
theorem Zo {i:Nat} {x:Str} {e:Expr} {te:TE} {pos':Pos} (hN:X.N.Nodup) (hi:X.N[i]?=some x) (hx:Loc X.env.scope x) (he:PE X e te) (hs:swapsWith e (some (.Name x pos')) pos.line X.env=pure false:=by rfl) (hf:X.fn x=true∨X.env.scope.names.lookup x=some .local:=by first | exact .inl rfl | exact .inr rfl | assumption) :
  PS X (.Assign [.Name x pos'] e pos) (tAsg te (Zm i)):=by
 intro pins s σ H D I h
 refine wpAny_Assign_Name (thn (he pins s σ H _ I h) fun v s1 zz5=>?_) hs
 obtain ⟨y,H1,I1,r1,q1⟩:=zz5
 exact Vj I1 hN hi hx r1 (fun s2 I2=>⟨_,H1,I2,q1⟩) hf
noncomputable def tAug (i:Nat) (te:TE) (ti:TIp):TS:=fun D σ H=>∃ x,σ[i]?=some (some x)∧te σ H fun y H1=>ti x y H1 fun z H2=>D.nx (σ.set i (some z)) H2
theorem Zms {i:Nat} {x:Str} {e:Expr} {te:TE} {op:Operator} {ti:TIp} {pos':Pos} (hN:X.N.Nodup) (hi:X.N[i]?=some x) (hx:Loc X.env.scope x) (he:PE X e te) (ho:PIp X op ti) (hf:X.fn x=true∨X.env.scope.names.lookup x=some .local:=by first | exact .inl rfl | exact .inr rfl | assumption) :
  PS X (.AugAssign (.Name x pos') op e pos) (tAug i te ti):=by
 intro pins s σ H D I h
 obtain ⟨v,e1,h⟩:=h
 obtain ⟨m,hn,hl⟩:=I.loc
 have vis:Vis X.env.scope x:=by rcases hx with k | k; exact .inl k; exact .inr (.inl k)
 obtain ⟨u,r,l⟩:=hl i x v hi e1 vis
 refine wpAny_AugAssign_Name ?_
 have go:wpAny (model X.prog X.w) X.A (eval e X.env) (fun w s₂=>wpAny (model X.prog X.w) X.A (inplaceOp op u w) (fun r s₃=>wpAny (model X.prog X.w) X.A (storeName X.env x r) (fun _=>SP X pins D .next) X.xe s₃) X.xe s₂) X.xe s:=by
  refine thn (he pins s σ H _ I h) fun w s1 zz9=>?_
  obtain ⟨y,H1,I1,r1,q1⟩:=zz9
  refine thn (ho pins s1 σ H1 v y u w _ I1 r r1 q1) fun z s2 zz9=>?_
  obtain ⟨zv,H2,I2,r2,q2⟩:=zz9
  exact Vj I2 hN hi hx r2 (fun s3 I3=>⟨_,H2,I3,q2⟩) hf
 rcases l with ⟨hk,hm⟩ | ⟨hk,c,hc,hcell⟩
 ·exact wpAny_loadName_local I.ok.kind hk hn hm go
 ·rcases hk with hk | hk
  ·exact wpAny_loadName_cell I.ok.kind hk hc hcell go
  ·rcases hx with k | k
   ·have:X.env.scope.names.lookup x=some .free:=hk
    rw [k] at this; cases this
   ·have:X.env.scope.names.lookup x=some .free:=hk
    rw [k] at this; cases this
end
section
variable {X:Cx} {pos:Pos}
noncomputable def Jl (c:TT) (tb:TS):TS:=fun D σ H=>∃ W:Nat→St→Hp→Prop,(∃ m,W m σ H)∧∀ m σ H,W m σ H →
 c σ H fun b H1=>if b=true then ∃ N:St→Hp→Prop,(∀ σ' H',N σ' H'→∃ m',m' < m∧W m' σ' H')∧tb { D with nx:=N,ct:=N,bk:=D.nx } σ H1 else D.nx σ H1
theorem Wr {c:Expr} {body:List Stmt} {tc:TT} {tb:TS} (hp:PassesOwn (model X.prog X.w) X.A X.env X.xe) (hc:PT X c tc) (hb:PSs X body tb):PS X (.While c body [] pos) (Jl tc tb):=by
 intro pins s σ H D I h
 obtain ⟨W,⟨m0,w0⟩,turn⟩:=h
 refine wpAny_While (codeAny_whileLoop (fun n s'=>∃ σ' H',Inv X pins σ' H' s'∧W n σ' H') ?_ m0 ⟨σ,H,I,w0⟩)
 rintro n s1 ⟨σ1,H1,I1,w1⟩
 refine wpAny_passesOwn hp (thn (hc pins s1 σ1 H1 _ I1 (turn n σ1 H1 w1)) fun b s2 zz9=>?_)
 obtain ⟨H2,I2,q2⟩:=zz9
 cases b with
 | true =>
  obtain ⟨N,hN,q2⟩:=q2
  rw [if_pos rfl]
  refine wpAny_passesOwn hp (thn (hb pins s2 σ1 H2 _ I2 q2) fun f s3 q3=>?_)
  cases f with
  | next =>
   obtain ⟨σ3,H3,I3,n3⟩:=q3
   obtain ⟨m',hm,w3⟩:=hN σ3 H3 n3
   exact ⟨m',hm,σ3,H3,I3,w3⟩
  | cont =>
   obtain ⟨σ3,H3,I3,n3⟩:=q3
   obtain ⟨m',hm,w3⟩:=hN σ3 H3 n3
   exact ⟨m',hm,σ3,H3,I3,w3⟩
  | brk=>exact q3
  | ret v=>exact q3
 | false =>
  rw [if_neg Bool.false_ne_true]
  exact wpAny_execs_nil ⟨σ1,H2,I2,q2⟩
end
structure It where
 go:Nat→Hp→Prop
 yld:Nat→Hp→V→Hp→Prop
 stop:Nat→Hp→Prop
noncomputable def FpOk (X:Cx) (pins:List (Addr × Obj)) (H:Hp) (b:Addr):Prop :=
 H b=none∧b≠X.env.locals∧b ∉ X.fs∧(b∈X.ex∨X.s₀.heap.objs.size≤b)∧(∀ x c,X.env.cells.lookup x=some c→c≠b)∧∀ p∈X.pn ++ pins,p.1≠b
theorem Inv.fpOk {X:Cx} {pins:List (Addr × Obj)} {σ:St} {H H':Hp} {s:Shared} {b:Addr} (I:Inv X pins σ H s) (hb:s.heap.objs.size≤b) (hn:H' b=none):FpOk X pins H' b:=by
 refine ⟨hn,Nat.ne_of_gt (Nat.lt_of_lt_of_le I.lt hb),I.nofs hb,.inr (Nat.le_trans I.sz hb),fun x c e z=>?_,fun p hp z=>?_⟩
 ·obtain ⟨v,q⟩:=I.cell x c e
  exact absurd (Nat.lt_of_lt_of_le q.lt (by rw [z]; exact hb)) (Nat.lt_irrefl _)
 ·exact absurd (Nat.lt_of_lt_of_le (Heap.lt_size (I.pin p hp).1) (by rw [z]; exact hb)) (Nat.lt_irrefl _)
structure Turn (P:Program) (w:World) (K:PySem.W.Frag) (tg:Expr) (J:It) (fp:List Addr) (it:Addr) (tn:Nat→Heap→Prop):Prop where
 mem:it∈fp
 obj:∀ i h,tn i h→∀ b∈fp,∃ o,h.get? b=some o∧∀ v,o.data≠.cell v
 keep:∀ i h h',tn i h→(∀ b∈fp,∀ o,h.get? b=some o→h'.get? b=some o)→tn i h'
 item:∀ (X:Cx),X.prog=P→X.w=w→X.K=K→X.calm=true→∀ (i:Nat) (pins:List (Addr × Obj)) (s:Shared) (σ:St) (H:Hp) (E:Value→Shared→Prop),Inv X pins σ H s→(∀ b∈fp,FpOk X pins H b)→tn i s.heap→J.go i H →
  wpAny (model P w) X.A (pyNext (.ref it)) (fun r s1=>∃ u,r=some u ∧
   wpAny (model P w) X.A (letOwnedTupleGo tg (.ref it) u) (fun _ s2=>∃ x H',Inv X pins σ H' s2∧RelV x u∧J.yld i H x H'∧tn (i + 1) s2.heap∧∀ b∈fp,H' b=none) E s1) E s
 done:∀ (X:Cx),X.prog=P→X.w=w→X.K=K→X.calm=true→∀ (i:Nat) (pins:List (Addr × Obj)) (s:Shared) (σ:St) (H:Hp) (E:Value→Shared→Prop),Inv X pins σ H s→(∀ b∈fp,FpOk X pins H b)→tn i s.heap→J.stop i H →
  wpAny (model P w) X.A (pyNext (.ref it)) (fun r s1=>r=none∧Inv X pins σ H s1) E s
 self:∀ (A:Around) (i:Nat) (s:Shared) (Q:Value→Shared→Prop) (E:Value→Shared→Prop),tn i s.heap→Q (.ref it) s→wpAny (model P w) A (pyIter (.ref it)) Q E s
noncomputable abbrev TI:=St→Hp→(It→Hp→Prop)→Prop
noncomputable def PIE (X:Cx) (pins:List (Addr × Obj)) (σ:St) (tg:Expr) (R:It→Hp→Prop) (itv:Value) (s2:Shared):Prop :=
 ∃ (it:Addr) (fp:List Addr) (tn:Nat→Heap→Prop) (J:It) (H':Hp),itv=.ref it∧Inv X pins σ H' s2∧Turn X.prog X.w X.K tg J fp it tn∧tn 0 s2.heap∧(∀ b∈fp,FpOk X pins H' b)∧R J H'
noncomputable def PI (X:Cx) (tg iter:Expr) (wi:TI):Prop :=
 ∀ (pins:List (Addr × Obj)) (s:Shared) (σ:St) (H:Hp) (R:It→Hp→Prop),Inv X pins σ H s→wi σ H R →
  wpAny (model X.prog X.w) X.A (eval iter X.env) (fun v s1=>wpAny (model X.prog X.w) X.A (pyIter v) (PIE X pins σ tg R) X.xe s1) X.xe s
theorem K5 {M:Model} {A:Around} {E:Value→Shared→Prop} {s:Shared} {tg:Expr} {it:Addr} {u:Value} {o:Obj} {n:String} {vs:Array Value} {Q:Unit→Shared→Prop} (ho:s.heap.get? it=some o) (hc:o.cls=.type n) (hd:o.data=.fields vs)
    (hn:["enumerate","zip","dict_itemiterator","dict_reverseitemiterator","odict_iterator","itertools.zip_longest","itertools.pairwise"].contains n=false) (hQ:Q () s):wpAny M A (letOwnedTupleGo tg (.ref it) u) Q E s:=by
  unfold letOwnedTupleGo
  cases tg <;> first
    | exact wpAny_pure hQ
    | (cases u <;> first
        | exact wpAny_pure hQ
        | (refine wpAny_bind (wpAny_load ho ?_)
           rw [hc,hd]
           show wpAny M A (if (["enumerate","zip","dict_itemiterator","dict_reverseitemiterator","odict_iterator","itertools.zip_longest","itertools.pairwise"].contains n && vs[0]? == some (rawInt _))=true then _ else _) Q E s
           rw [if_neg (by intro h; rw [hn,Bool.false_and] at h; cases h)]
           exact wpAny_pure hQ))
noncomputable def Itl (K:PySem.W.Frag) (a:Addr):It :=
 ⟨fun i H=>∃ xs x,SqL K H a xs∧xs[i]?=some x,fun i H x H'=>H'=H∧∀ xs,SqL K H a xs→xs[i]?=some x,fun i H=>∃ xs,SqL K H a xs∧xs.length≤i⟩
noncomputable def Itt (K:PySem.W.Frag) (a:Addr):It :=
 ⟨fun i H=>∃ xs x,SqT K H a xs∧xs[i]?=some x,fun i H x H'=>H'=H∧∀ xs,SqT K H a xs→xs[i]?=some x,fun i H=>∃ xs,SqT K H a xs∧xs.length≤i⟩
noncomputable def Itr (lo:Int) (n:Nat):It:=⟨fun i _=>i < n,fun i H x H'=>H'=H∧x=.int (lo + i),fun i _=>n≤i⟩
theorem Zgd {P:Program} {w:World} {K:PySem.W.Frag} {tg:Expr} (a it:Addr):Turn P w K tg (Itl K a) [it] it (fun i h=>h.IsListIter it a i) where
 mem:=by simp
 obj:=fun i h st b hb=>by
  have e:b=it:=by simpa using hb
  subst e
  obtain ⟨o,e,c,d⟩:=st
  exact ⟨o,e,fun v z=>by rw [d] at z; cases z⟩
 keep:=fun i h h' st k=>st.at fun o e=>k it (by simp) o e
 item:=by
  intro X hP hw hK hc i pins s σ H E I hf st hg
  subst hP hw hK
  obtain ⟨xs,x,hq,hx⟩:=hg
  obtain ⟨its,rv,p,hz⟩:=I.list hq
  obtain ⟨u,hu,ru⟩:=rv.get hx
  obtain ⟨f0,f1,f2,f3,f4,f5⟩:=hf it (by simp)
  refine wpAny_pyNext_list_item st p.isList (x:=u) (by simpa using hu) fun h' st' sb=>?_
  have I1:Inv X pins σ H { s with heap:=h' }:=I.turned (t':=s.toks) (fun b o hb e=>(sb.2 b hb).trans e) f0 f1 f3 f4 f5
  obtain ⟨o,e,c,d⟩:=id st'
  exact ⟨u,rfl,K5 (s:={ s with heap:=h' }) e c d (by decide) ⟨x,H,I1,ru,⟨rfl,fun ys hy=>by rw [I.list_inj hy hq]; exact hx⟩,st',fun b hb=>(hf b hb).1⟩⟩
 done:=by
  intro X hP hw hK hc i pins s σ H E I hf st hg
  subst hP hw hK
  obtain ⟨xs,hq,hx⟩:=hg
  obtain ⟨its,rv,p,hz⟩:=I.list hq
  obtain ⟨f0,f1,f2,f3,f4,f5⟩:=hf it (by simp)
  have hl:=rv.length
  exact wpAny_pyNext_list_end (I.ok.hd hc) st p.isList (by simp; omega) fun h' eb=>⟨rfl,I.turned (t':=s.toks) (fun b o hb e=>eb b o hb e) f0 f1 f3 f4 f5⟩
 self:=fun _ _ _ _ _ st h=>wpAny_pyIter_listiter st h
theorem Ze9 {P:Program} {w:World} {K:PySem.W.Frag} {tg:Expr} (a it:Addr):Turn P w K tg (Itt K a) [it] it (fun i h=>h.IsTupleIter it a i) where
 mem:=by simp
 obj:=fun i h st b hb=>by
  have e:b=it:=by simpa using hb
  subst e
  obtain ⟨o,e,c,d⟩:=st
  exact ⟨o,e,fun v z=>by rw [d] at z; cases z⟩
 keep:=fun i h h' st k=>st.at fun o e=>k it (by simp) o e
 item:=by
  intro X hP hw hK hc i pins s σ H E I hf st hg
  subst hP hw hK
  obtain ⟨xs,x,hq,hx⟩:=hg
  obtain ⟨its,rv,p,hz⟩:=I.tuple hq
  obtain ⟨u,hu,ru⟩:=rv.get hx
  obtain ⟨f0,f1,f2,f3,f4,f5⟩:=hf it (by simp)
  refine wpAny_pyNext_tuple_item st (show s.heap.IsTuple a its.toArray from p) (x:=u) (by simpa using hu) fun h' st' sb=>?_
  have I1:Inv X pins σ H { s with heap:=h' }:=I.turned (t':=s.toks) (fun b o hb e=>(sb.2 b hb).trans e) f0 f1 f3 f4 f5
  obtain ⟨o,e,c,d⟩:=id st'
  exact ⟨u,rfl,K5 (s:={ s with heap:=h' }) e c d (by decide) ⟨x,H,I1,ru,⟨rfl,fun ys hy=>by rw [I.tuple_inj hy hq]; exact hx⟩,st',fun b hb=>(hf b hb).1⟩⟩
 done:=by
  intro X hP hw hK hc i pins s σ H E I hf st hg
  subst hP hw hK
  obtain ⟨xs,hq,hx⟩:=hg
  obtain ⟨its,rv,p,hz⟩:=I.tuple hq
  obtain ⟨f0,f1,f2,f3,f4,f5⟩:=hf it (by simp)
  have hl:=rv.length
  exact wpAny_pyNext_tuple_end (I.ok.hd hc) st (show s.heap.IsTuple a its.toArray from p) (by simp; omega) fun h' eb=>⟨rfl,I.turned (t':=s.toks) (fun b o hb e=>eb b o hb e) f0 f1 f3 f4 f5⟩
 self:=fun _ _ _ _ _ st h=>wpAny_pyIter_tupleiter st h
theorem Zfa {P:Program} {w:World} {K:PySem.W.Frag} {tg:Expr} (it:Addr) (lo:Int) (n:Nat):Turn P w K tg (Itr lo n) [it] it (fun i h=>IsRangeIter h it (lo + (i:Nat) * 1) ((n:Int) - (i:Nat)) 1) where
 mem:=by simp
 obj:=fun i h st b hb=>by
  have e:b=it:=by simpa using hb
  subst e
  exact ⟨_,st,fun v z=>by
   have z':Data.fields _=Data.cell v:=z
   cases z'⟩
 keep:=fun i h h' st k=>k it (by simp) _ st
 item:=by
  intro X hP hw hK hc i pins s σ H E I hf st hg
  subst hP hw hK
  obtain ⟨f0,f1,f2,f3,f4,f5⟩:=hf it (by simp)
  have W:=Walks.range (prog:=X.prog) (w:=X.w) (I.ok.hd hc) it lo 1 n
  refine W.item i s _ _ hg st fun v h' tk hv st' kk=>?_
  obtain ⟨t,rfl⟩:=hv
  have I1:Inv X pins σ H { s with heap:=h',toks:=tk }:=I.turned (fun b o hb e=>kk b o (by simpa using hb) e) f0 f1 f3 f4 f5
  refine ⟨_,rfl,K5 (s:={ s with heap:=h',toks:=tk }) (n:="range_iterator") st' rfl rfl (by decide) ⟨.int (lo + i),H,I1,⟨t,?_⟩,⟨rfl,rfl⟩,st',fun b hb=>(hf b hb).1⟩⟩
  rw [Int.mul_one]
 done:=by
  intro X hP hw hK hc i pins s σ H E I hf st hg
  subst hP hw hK
  obtain ⟨f0,f1,f2,f3,f4,f5⟩:=hf it (by simp)
  exact wpAny_pyNext_range_end (I.ok.hd hc) st (by have:n≤i:=hg; omega) fun h' eb=>⟨rfl,I.turned (t':=s.toks) (fun b o hb e=>eb b o hb e) f0 f1 f3 f4 f5⟩
 self:=fun _ _ _ _ _ st h=>wpAny_pyIter_rangeiter st h
end L2
namespace L2
open PySem PySem.Spec PyProof.Rows
section
variable {X:Cx} {tg:Expr}
noncomputable def Zko (K:PySem.W.Frag) (tl:TE):TI:=fun σ H R=>tl σ H fun x H1=>∃ a,x=.ref a∧(∃ xs,SqL K H1 a xs)∧R (Itl K a) H1
noncomputable def iTup (K:PySem.W.Frag) (tl:TE):TI:=fun σ H R=>tl σ H fun x H1=>∃ a,x=.ref a∧(∃ xs,SqT K H1 a xs)∧R (Itt K a) H1
theorem Zz {l:Expr} {tl:TE} (hl:PE X l tl):PI X tg l (Zko X.K tl):=by
 intro pins s σ H R I h
 refine thn (hl pins s σ H _ I h) fun v s1 zz9=>?_
 obtain ⟨x,H1,I1,r1,q1⟩:=zz9
 obtain ⟨a,e,⟨xs,hq⟩,q⟩:=q1
 subst e
 cases r1
 obtain ⟨its,rv,p,hz⟩:=I1.list hq
 refine wpAny_pyIter_list p.isList ?_
 refine ⟨s1.heap.objs.size,[s1.heap.objs.size],_,_,H1,rfl,I1.kept (t':=s1.toks) fun b o e=>Heap.get?_push_of_some _ e,Zgd a _,⟨_,Heap.get?_push_size _ rfl,rfl,rfl⟩,fun b hb=>?_,q⟩
 have e:b=s1.heap.objs.size:=by simpa using hb
 subst e
 exact I1.fpOk (Nat.le_refl _) (I1.hok.fresh (Nat.le_refl _))
theorem Zmv {l:Expr} {tl:TE} (hl:PE X l tl):PI X tg l (iTup X.K tl):=by
 intro pins s σ H R I h
 refine thn (hl pins s σ H _ I h) fun v s1 zz9=>?_
 obtain ⟨x,H1,I1,r1,q1⟩:=zz9
 obtain ⟨a,e,⟨xs,hq⟩,q⟩:=q1
 subst e
 cases r1
 obtain ⟨its,rv,p,hz⟩:=I1.tuple hq
 refine wpAny_pyIter_tuple (show s1.heap.IsTuple a its.toArray from p) ?_
 refine ⟨s1.heap.objs.size,[s1.heap.objs.size],_,_,H1,rfl,I1.kept (t':=s1.toks) fun b o e=>Heap.get?_push_of_some _ e,Ze9 a _,⟨_,Heap.get?_push_size _ rfl,rfl,rfl⟩,fun b hb=>?_,q⟩
 have e:b=s1.heap.objs.size:=by simpa using hb
 subst e
 exact I1.fpOk (Nat.le_refl _) (I1.hok.fresh (Nat.le_refl _))
theorem Zbm {pins:List (Addr × Obj)} {σ:St} {H:Hp} {s:Shared} {R:It→Hp→Prop} {E:Value→Shared→Prop} {lo hi:Int} {t u v:Tok} {tk:Nat} (I:Inv X pins σ H s) (h1:-(2 ^ 62)≤lo) (h2:lo < 2 ^ 62) (h3:-(2 ^ 62)≤hi) (h4:hi < 2 ^ 62)
  (q:R (Itr lo (hi - lo).toNat) H):wpAny (model X.prog X.w) X.A (pyIter (.ref s.heap.objs.size)) (PIE X pins σ tg R) E { s with heap:=s.heap.push { cls:=.type "range",data:=.fields #[.int lo t,.int hi u,.int 1 v] },toks:=tk }:=by
 refine wpAny_pyIter_range (IsRange.new ..) (small_one h1 h2 h3 h4) ?_
 have I1:Inv X pins σ H { s with heap:=s.heap.push { cls:=.type "range",data:=.fields #[.int lo t,.int hi u,.int 1 v] },toks:=tk }:=I.kept fun b o e=>Heap.get?_push_of_some _ e
 refine ⟨(s.heap.push { cls:=.type "range",data:=.fields #[.int lo t,.int hi u,.int 1 v] }).objs.size,[(s.heap.push { cls:=.type "range",data:=.fields #[.int lo t,.int hi u,.int 1 v] }).objs.size],_,_,H,rfl,
  I1.kept (t':=tk) fun b o e=>Heap.get?_push_of_some _ e,Zfa _ lo (hi - lo).toNat,?_,fun b hb=>?_,q⟩
 ·have e1:lo + ((0:Nat):Int) * 1=lo:=by simp
  have e2:(((hi - lo).toNat:Nat):Int) - ((0:Nat):Int)=Builtin.Range.rangeSize lo hi 1:=by rw [rangeSize_one]; split <;> omega
  show IsRangeIter _ _ (lo + ((0:Nat):Int) * 1) ((((hi - lo).toNat:Nat):Int) - ((0:Nat):Int)) 1
  rw [e1,e2]
  exact Heap.get?_push_size _ rfl
 ·have e:b=(s.heap.push { cls:=.type "range",data:=.fields #[.int lo t,.int hi u,.int 1 v] }).objs.size:=by simpa using hb
  subst e
  exact I1.fpOk (Nat.le_refl _) (I1.hok.fresh (Nat.le_refl _))
noncomputable def Zn4 (ta:TA):TI:=fun σ H R=>ta σ H fun vs H1=>∃ j:Int,vs=[.int j]∧-(2 ^ 62)≤j∧j < 2 ^ 62∧R (Itr 0 j.toNat) H1
noncomputable def Zn3 (ta:TA):TI:=fun σ H R=>ta σ H fun vs H1=>∃ i j:Int,vs=[.int i,.int j]∧(-(2 ^ 62)≤i∧i < 2 ^ 62∧-(2 ^ 62)≤j∧j < 2 ^ 62)∧R (Itr i (j - i).toNat) H1
theorem Xh {a:Expr} {ta:TA} {p pos:Pos} (hg:Gl X "range") (hm:X.mg "range"=none) (ha:PA X [a] ta) (hs:starEach [a] X.env=[(false,eval a X.env)]:=by rfl):PI X tg (.Call (.Name "range" p) [a] [] pos) (Zn4 ta):=by
 intro pins s σ H R I h
 refine Call_ (Wa I hg hm boot_range (PyProof.Rows.callWith_type1 (thn (ha pos pins s σ H _ I h) fun us s1 zz6=>?_) hs rfl))
 obtain ⟨vs,H1,I1,r1,q1⟩:=zz6
 obtain ⟨j,e,q1,q2,q⟩:=q1
 subst e
 cases r1 with
 | cons r rr =>
  cases rr
  obtain ⟨t,rfl⟩:=r
  exact call_range_1 (Zbm I1 (by omega) (by omega) q1 q2 (by simpa using q))
theorem G9 {a b:Expr} {ta:TA} {p pos:Pos} (hg:Gl X "range") (hm:X.mg "range"=none) (ha:PA X [a,b] ta) (hs:starEach [a,b] X.env=[(false,eval a X.env),(false,eval b X.env)]:=by rfl) (hs2:starEach [b] X.env=[(false,eval b X.env)]:=by rfl) :
  PI X tg (.Call (.Name "range" p) [a,b] [] pos) (Zn3 ta):=by
 intro pins s σ H R I h
 refine Call_ (Wa I hg hm boot_range (PyProof.Rows.callWith_type1 (thn (ha pos pins s σ H _ I h) fun us s1 ⟨vs,H1,I1,r1,q1⟩=>?_) (by rw [hs,hs2]) (by rw [hs2]; rfl)))
 obtain ⟨i,j,e,⟨q1,q2,q3,q4⟩,q⟩:=q1
 subst e
 cases r1 with
 | cons r rr =>
  cases rr with
  | cons r' rr =>
   cases rr
   obtain ⟨t,rfl⟩:=r
   obtain ⟨t',rfl⟩:=r'
   exact call_range_2 (Zbm I1 q1 q2 q3 q4 q)
noncomputable def tFor (wi:TI) (g:TG) (tb:TS):TS:=fun D σ H=>wi σ H fun J H1=>∃ W:Nat→Nat→St→Hp→Prop,(∃ m,W 0 m σ H1)∧∀ i m σ H,W i m σ H →
 (J.stop i H∧D.nx σ H)∨(J.go i H∧∃ N:St→Hp→Prop,(∀ σ' H',N σ' H'→∃ m',m' < m∧W (i + 1) m' σ' H')∧∀ x H',J.yld i H x H'→g x σ H' fun σ2 H2=>tb { D with nx:=N,ct:=N,bk:=D.nx } σ2 H2)
noncomputable def Uo (fp:List Addr) (h:Heap):List (Addr × Obj):=fp.filterMap fun b=>(h.get? b).map fun o=>(b,o)
theorem J0 {fp:List Addr} {h:Heap} {b:Addr} {o:Obj} (hb:b∈fp) (e:h.get? b=some o):(b,o)∈Uo fp h:=List.mem_filterMap.mpr ⟨b,hb,by rw [e]; rfl⟩
theorem Zhr {fp:List Addr} {h:Heap} {p:Addr × Obj} (hp:p∈Uo fp h):p.1∈fp∧h.get? p.1=some p.2:=by
 obtain ⟨b,hb,e⟩:=List.mem_filterMap.mp hp
 cases q:h.get? b with
 | none=>rw [q] at e; cases e
 | some o =>
  rw [q] at e
  have e':(b,o)=p:=Option.some.inj e
  subst e'
  exact ⟨hb,q⟩
theorem Inv.pinned {pins:List (Addr × Obj)} {σ:St} {H:Hp} {s:Shared} {fp:List Addr} (I:Inv X pins σ H s) (hf:∀ b∈fp,FpOk X pins H b) (ho:∀ b∈fp,∃ o,s.heap.get? b=some o∧∀ v,o.data≠.cell v):Inv X (pins ++ Uo fp s.heap) σ H s :=
 I.pins_of fun p hp=>(List.mem_append.mp hp).elim (fun z=>I.pin p (List.mem_append_right _ z)) fun z=>by
  obtain ⟨hb,e⟩:=Zhr z
  obtain ⟨f0,f1,f2,_⟩:=hf p.1 hb
  obtain ⟨o,e',d⟩:=ho p.1 hb
  rw [e] at e'; cases e'
  exact ⟨e,f0,f1,f2,d⟩
theorem Inv.unpinned {pins pl:List (Addr × Obj)} {σ:St} {H:Hp} {s:Shared} (I:Inv X (pins ++ pl) σ H s):Inv X pins σ H s:=I.pins_of fun p hp=>I.pin p (List.mem_append_right _ (List.mem_append_left _ hp))
theorem Y1 {iter:Expr} {body:List Stmt} {wi:TI} {g:TG} {tb:TS} {pos:Pos} (hp:PassesOwn (model X.prog X.w) X.A X.env X.xe) (hc:X.calm=true) (hi:PI X tg iter wi) (hg:PG X tg g) (hb:PSs X body tb)
  (hs:∀ x,foldedSetIterable iter X.env x=pure x:=by intro _; rfl):PS X (.For tg iter body [] pos) (tFor wi g tb):=by
 intro pins s σ H D I h
 refine wpAny_For (thn (hi pins s σ H _ I h) fun v s1 h1=>thn h1 fun itv s2 h2=>?_) hs
 obtain ⟨it,fp,tn,J,H2,e,I2,T,st2,f2,W,⟨m0,w0⟩,turn⟩:=h2
 subst e
 have stat:∀ {H':Hp},(∀ b∈fp,H' b=none)→∀ b∈fp,FpOk X pins H' b:=fun hn b hb=>⟨hn b hb,(f2 b hb).2⟩
 refine codeAny_forLoop_any (fun n s'=>∃ i σ' H',Inv X pins σ' H' s'∧tn i s'.heap∧(∀ b∈fp,H' b=none)∧W i n σ' H') ?_ m0 ⟨0,σ,H2,I2,st2,fun b hb=>(f2 b hb).1,w0⟩
 rintro n s3 ⟨i,σ3,H3,I3,st3,fr3,w3⟩
 rcases turn i n σ3 H3 w3 with ⟨stop,qn⟩ | ⟨go,N,hN,step⟩
 ·refine wpAny_passesOwn hp (thn (T.done X rfl rfl rfl hc i pins s3 σ3 H3 X.xe I3 (stat fr3) st3 stop) fun r s4 ⟨hr,I4⟩=>?_)
  subst hr
  exact wpAny_execs_nil ⟨σ3,H3,I4,qn⟩
 ·refine wpAny_passesOwn hp (thn (T.item X rfl rfl rfl hc i pins s3 σ3 H3 X.xe I3 (stat fr3) st3 go) fun r s4 ⟨u,hr,h4⟩=>?_)
  subst hr
  refine wpAny_passesOwn hp (thn h4 fun _ s5 zz9=>?_)
  obtain ⟨x,H5,I5,r5,y5,st5,fr5⟩:=zz9
  have I5':=I5.pinned (stat fr5) (T.obj _ _ st5)
  refine wpAny_passesOwn hp (thn (hg _ s5 σ3 H5 x u _ I5' r5 (step x H5 y5)) fun _ s6 zz9=>?_)
  obtain ⟨σ6,H6,I6,q6⟩:=zz9
  refine wpAny_passesOwn hp (thn (hb _ s6 σ6 H6 _ I6 q6) fun f s7 q7=>?_)
  have again:∀ {σ7:St} {H7:Hp},Inv X (pins ++ Uo fp s5.heap) σ7 H7 s7→N σ7 H7→∃ m,m < n∧∃ i σ' H',Inv X pins σ' H' s7∧tn i s7.heap∧(∀ b∈fp,H' b=none)∧W i m σ' H':=fun {σ7 H7} I7 n7=>by
   obtain ⟨m',hm,w7⟩:=hN σ7 H7 n7
   refine ⟨m',hm,i + 1,σ7,H7,I7.unpinned,T.keep _ _ _ st5 fun b hb o e=>(I7.pin (b,o) (List.mem_append_right _ (List.mem_append_right _ (J0 hb e)))).1,fun b hb=>?_,w7⟩
   obtain ⟨o,e,d⟩:=T.obj _ _ st5 b hb
   exact (I7.pin (b,o) (List.mem_append_right _ (List.mem_append_right _ (J0 hb e)))).2.1
  cases f with
  | next=>obtain ⟨σ7,H7,I7,n7⟩:=q7; exact again I7 n7
  | cont=>obtain ⟨σ7,H7,I7,n7⟩:=q7; exact again I7 n7
  | brk=>obtain ⟨σ7,H7,I7,q7⟩:=q7; exact ⟨σ7,H7,I7.unpinned,q7⟩
  | ret v=>obtain ⟨x7,σ7,H7,I7,r7,q7⟩:=q7; exact ⟨x7,σ7,H7,I7.unpinned,r7,q7⟩
end
theorem Wc {K:PySem.W.Frag} {a:Addr} {xs:List V} {g:TG} {tb:TS} {D:Ends} {σ:St} {H:Hp} (Pv:Nat→St→Hp→Prop) (h0:Pv 0 σ H) (hl:∀ i σ H,i≤xs.length→Pv i σ H→SqL K H a xs)
  (hs:∀ i x σ H,xs[i]?=some x→Pv i σ H→g x σ H fun σ2 H2=>tb { D with nx:=Pv (i + 1),ct:=Pv (i + 1),bk:=D.nx } σ2 H2) (hd:∀ σ H,Pv xs.length σ H→D.nx σ H) :
  ∃ W:Nat→Nat→St→Hp→Prop,(∃ m,W 0 m σ H)∧∀ i m σ H,W i m σ H →
   ((Itl K a).stop i H∧D.nx σ H)∨((Itl K a).go i H∧∃ N:St→Hp→Prop,(∀ σ' H',N σ' H'→∃ m',m' < m∧W (i + 1) m' σ' H')∧∀ x H',(Itl K a).yld i H x H'→g x σ H' fun σ2 H2=>tb { D with nx:=N,ct:=N,bk:=D.nx } σ2 H2):=by
 refine ⟨fun i m σ H=>m=xs.length - i∧i≤xs.length∧Pv i σ H,⟨xs.length,by simp,Nat.zero_le _,h0⟩,?_⟩
 rintro i m σ H ⟨rfl,hi,p⟩
 have q:=hl i σ H hi p
 by_cases hlt:i < xs.length
 ·refine .inr ⟨⟨xs,xs[i],q,by simp [hlt]⟩,Pv (i + 1),fun σ' H' p'=>⟨xs.length - (i + 1),by omega,rfl,hlt,p'⟩,fun x H' y=>?_⟩
  obtain ⟨e,y⟩:=y
  subst e
  exact hs i x σ _ (y xs q) p
 ·have e:i=xs.length:=by omega
  subst e
  exact .inl ⟨⟨xs,q,Nat.le_refl _⟩,hd σ H p⟩
theorem Wb {lo:Int} {n:Nat} {g:TG} {tb:TS} {D:Ends} {σ:St} {H:Hp} (Pv:Nat→St→Hp→Prop) (h0:Pv 0 σ H)
  (hs:∀ i σ H,i < n→Pv i σ H→g (.int (lo + i)) σ H fun σ2 H2=>tb { D with nx:=Pv (i + 1),ct:=Pv (i + 1),bk:=D.nx } σ2 H2) (hd:∀ σ H,Pv n σ H→D.nx σ H) :
  ∃ W:Nat→Nat→St→Hp→Prop,(∃ m,W 0 m σ H)∧∀ i m σ H,W i m σ H →
   ((Itr lo n).stop i H∧D.nx σ H)∨((Itr lo n).go i H∧∃ N:St→Hp→Prop,(∀ σ' H',N σ' H'→∃ m',m' < m∧W (i + 1) m' σ' H')∧∀ x H',(Itr lo n).yld i H x H'→g x σ H' fun σ2 H2=>tb { D with nx:=N,ct:=N,bk:=D.nx } σ2 H2):=by
 refine ⟨fun i m σ H=>m=n - i∧i≤n∧Pv i σ H,⟨n,by simp,Nat.zero_le _,h0⟩,?_⟩
 rintro i m σ H ⟨rfl,hi,p⟩
 by_cases hlt:i < n
 ·refine .inr ⟨hlt,Pv (i + 1),fun σ' H' p'=>⟨n - (i + 1),by omega,rfl,hlt,p'⟩,fun x H' y=>?_⟩
  obtain ⟨e,y⟩:=y
  subst e y
  exact hs i σ _ hlt p
 ·have e:i=n:=by omega
  subst e
  exact .inl ⟨Nat.le_refl _,hd σ H p⟩
end L2
namespace L2
open PySem PySem.Spec PyProof.Rows
noncomputable abbrev R2:=V→V→Hp→VK→Prop
noncomputable def OpR (X:Cx) (f:Value→Value→Sem Value) (r:R2):Prop :=
 ∀ (pins:List (Addr × Obj)) (s:Shared) (σ:St) (H:Hp) (x y:V) (v u:Value) (Q:VK),Inv X pins σ H s→RelV x v→RelV y u→r x y H Q →
  wpAny (model X.prog X.w) X.A (f v u) (EP X pins σ Q) X.xe s
noncomputable def UnR (X:Cx) (f:Value→Sem Value) (r:V→Hp→VK→Prop):Prop :=
 ∀ (pins:List (Addr × Obj)) (s:Shared) (σ:St) (H:Hp) (x:V) (v:Value) (Q:VK),Inv X pins σ H s→RelV x v→r x H Q →
  wpAny (model X.prog X.w) X.A (f v) (EP X pins σ Q) X.xe s
noncomputable def Y7 (X:Cx) (f:Value) (r:List V→Hp→VK→Prop):Prop :=
 ∀ (pins:List (Addr × Obj)) (s:Shared) (σ:St) (H:Hp) (xs:List V) (us:List Value) (Q:VK),Inv X pins σ H s→Vals xs us→r xs H Q →
  wpAny (model X.prog X.w) X.A (call f us) (EP X pins σ Q) X.xe s
noncomputable def TruR (X:Cx) (r:V→Hp→(Bool→Hp→Prop)→Prop):Prop :=
 ∀ (pins:List (Addr × Obj)) (s:Shared) (σ:St) (H:Hp) (x:V) (v:Value) (Q:Bool→Hp→Prop),Inv X pins σ H s→RelV x v→r x H Q →
  wpAny (model X.prog X.w) X.A (truthy v) (TP X pins σ Q) X.xe s
noncomputable def tOp (r:R2) (ta tb:TE):TE:=fun σ H Q=>ta σ H fun x H1=>tb σ H1 fun y H2=>r x y H2 Q
noncomputable def tUn (r:V→Hp→VK→Prop) (ta:TE):TE:=fun σ H Q=>ta σ H fun x H1=>r x H1 Q
noncomputable def rI (C:Int→Int→Prop) (g:Int→Int→V):R2:=fun x y H Q=>∃ i j,x=.int i∧y=.int j∧C i j∧Q (g i j) H
noncomputable def rI0 (g:Int→Int→V):R2:=fun x y H Q=>∃ i j,x=.int i∧y=.int j∧Q (g i j) H
noncomputable def rU (g:Int→V):V→Hp→VK→Prop:=fun x H Q=>∃ i,x=.int i∧Q (g i) H
section
variable {X:Cx} {a b c:Expr} {ta tb tc:TE} {pos:Pos}
theorem binT (ha:PE X a ta) (hb:PE X b tb) {pins:List (Addr × Obj)} {s:Shared} {σ:St} {H:Hp} {R:V→V→Hp→Prop} (I:Inv X pins σ H s)
  (h:ta σ H fun x H1=>tb σ H1 fun y H2=>R x y H2) {Q:Value→Shared→Prop} {f:Value→Value→Sem Value}
  (hf:∀ v u s2 x y H2,Inv X pins σ H2 s2→RelV x v→RelV y u→R x y H2→wpAny (model X.prog X.w) X.A (f v u) Q X.xe s2) :
  wpAny (model X.prog X.w) X.A (eval a X.env) (fun v s₁=>wpAny (model X.prog X.w) X.A (eval b X.env) (fun u s₂=>wpAny (model X.prog X.w) X.A (f v u) Q X.xe s₂) X.xe s₁) X.xe s:=by
 refine thn (ha pins s σ H _ I h) fun v s1 zz9=>?_
 obtain ⟨x,H1,I1,r1,q1⟩:=zz9
 refine thn (hb pins s1 σ H1 _ I1 q1) fun u s2 zz9=>?_
 obtain ⟨y,H2,I2,r2,q2⟩:=zz9
 exact hf v u s2 x y H2 I2 r1 r2 q2
theorem Zj {op:Operator} {r:R2} (ho:OpR X (binaryOp op) r) (ha:PE X a ta) (hb:PE X b tb):PE X (.BinOp a op b pos) (tOp r ta tb):=by
 intro pins s σ H Q I h
 exact wpAny_BinOp (binT ha hb I h fun v u s2 x y H2 I2 rx ry q=>ho pins s2 σ H2 x y v u Q I2 rx ry q)
theorem Zad {op:UnaryOp} {r:V→Hp→VK→Prop} (ho:UnR X (unaryOp op) r) (ha:PE X a ta):PE X (.UnaryOp op a pos) (tUn r ta):=by
 intro pins s σ H Q I h
 refine UnaryOp_ (thn (ha pins s σ H _ I h) fun v s1 zz7=>?_)
 obtain ⟨x,H1,I1,r1,q1⟩:=zz7
 exact ho pins s1 σ H1 x v Q I1 r1 q1
theorem opI {f:Value→Value→Sem Value} {C:Int→Int→Prop} {g:Int→Int→Int}
  (rule:∀ (i j:Int) (t u:Tok) (s:Shared) (Q:Value→Shared→Prop) (E:Value→Shared→Prop),C i j→Q (.int (g i j) s.toks) { s with toks:=s.toks + 1 }→wpAny (model X.prog X.w) X.A (f (.int i t) (.int j u)) Q E s) :
  OpR X f (rI C fun i j=>.int (g i j)):=by
 intro pins s σ H x y v u Q I rx ry h
 obtain ⟨i,j,rfl,rfl,hc,q⟩:=h
 obtain ⟨t,rfl⟩:=rx
 obtain ⟨t',rfl⟩:=ry
 exact rule i j t t' s _ _ hc ⟨.int (g i j),H,I.tok _,⟨_,rfl⟩,q⟩
theorem opI0 {f:Value→Value→Sem Value} {g:Int→Int→Int}
  (rule:∀ (i j:Int) (t u:Tok) (s:Shared) (Q:Value→Shared→Prop) (E:Value→Shared→Prop),Q (.int (g i j) s.toks) { s with toks:=s.toks + 1 }→wpAny (model X.prog X.w) X.A (f (.int i t) (.int j u)) Q E s) :
  OpR X f (rI0 fun i j=>.int (g i j)):=by
 intro pins s σ H x y v u Q I rx ry h
 obtain ⟨i,j,rfl,rfl,q⟩:=h
 obtain ⟨t,rfl⟩:=rx
 obtain ⟨t',rfl⟩:=ry
 exact rule i j t t' s _ _ ⟨.int (g i j),H,I.tok _,⟨_,rfl⟩,q⟩
theorem opB0 {f:Value→Value→Sem Value} {g:Int→Int→Bool}
  (rule:∀ (i j:Int) (t u:Tok) (s:Shared) (Q:Value→Shared→Prop) (E:Value→Shared→Prop),Q (.bool (g i j)) s→wpAny (model X.prog X.w) X.A (f (.int i t) (.int j u)) Q E s) :
  OpR X f (rI0 fun i j=>.bl (g i j)):=by
 intro pins s σ H x y v u Q I rx ry h
 obtain ⟨i,j,rfl,rfl,q⟩:=h
 obtain ⟨t,rfl⟩:=rx
 obtain ⟨t',rfl⟩:=ry
 exact rule i j t t' s _ _ ⟨.bl (g i j),H,I,rfl,q⟩
noncomputable def CDiv (i j:Int):Prop:=0 < j∧j < 1073741824
noncomputable def CPow (i j:Int):Prop:=0≤j∧j≤1000000∧i.natAbs < 2 ^ 64
noncomputable def CMul (i j:Int):Prop:=(-(2 ^ 64) < i∧i < 2 ^ 64)∨(-(2 ^ 64) < j∧j < 2 ^ 64)
theorem CMul.ok {i j:Int} (h:CMul i j):IntMulOk i j:=by
 rcases h with ⟨h1,h2⟩ | ⟨h1,h2⟩
 ·exact .of_left (intBits_le_64 h1 h2)
 ·exact .of_right (intBits_le_64 h1 h2)
theorem Z8:OpR X (binaryOp .Add) (rI0 fun i j=>.int (i + j)):=opI0 fun _ _ _ _ _ _ _ q=>add_int q
theorem Wn:OpR X (binaryOp .Sub) (rI0 fun i j=>.int (i - j)):=opI0 fun _ _ _ _ _ _ _ q=>sub_int q
theorem Xa:OpR X (binaryOp .Mult) (rI CMul fun i j=>.int (i * j)):=opI fun _ _ _ _ _ _ _ hc q=>mul_int q hc.ok
theorem Y2:OpR X (binaryOp .FloorDiv) (rI CDiv fun i j=>.int (i / j)):=opI fun i j _ _ _ _ _ hc q=>by
 have h1:(0:Int) < j:=hc.1
 have h2:j < 1073741824:=hc.2
 exact floordiv_int (by omega) (by rw [Int.fdiv_eq_ediv_of_nonneg i (by omega)]; exact q) (.inl (PyProof.noPylong_small (by omega)))
theorem Zy:OpR X (binaryOp .Mod) (rI (fun _ j=>0 < j) fun i j=>.int (i % j)):=opI fun i j _ _ _ _ _ hc q=>by
 have h1:(0:Int) < j:=hc
 exact mod_int' (by omega) (by rw [Int.fmod_eq_emod_of_nonneg i (by omega)]; exact q)
theorem Zm2:OpR X (binaryOp .Pow) (rI CPow fun i j=>.int (i ^ j.toNat)):=opI fun _ _ _ _ _ _ _ hc q=>pow_int_small hc.1 hc.2.1 hc.2.2 q
theorem unI {f:Value→Sem Value} {g:Int→Int}
  (rule:∀ (i:Int) (t:Tok) (s:Shared) (Q:Value→Shared→Prop) (E:Value→Shared→Prop),Q (.int (g i) s.toks) { s with toks:=s.toks + 1 }→wpAny (model X.prog X.w) X.A (f (.int i t)) Q E s) :
  UnR X f (rU fun i=>.int (g i)):=by
 intro pins s σ H x v Q I rx h
 obtain ⟨i,rfl,q⟩:=h
 obtain ⟨t,rfl⟩:=rx
 exact rule i t s _ _ ⟨.int (g i),H,I.tok _,⟨_,rfl⟩,q⟩
theorem Ka:UnR X (unaryOp .USub) (rU fun i=>.int (-i)):=unI fun _ _ _ _ _ q=>neg_int q
end
noncomputable def scal:V→V→Bool
 | .non,.non=>true | .non,.int _=>true | .int _,.non=>true | .non,.bl _=>true | .bl _,.non=>true | .non,.str _=>true | .str _,.non=>true
 | .int _,.int _=>true | .bl _,.bl _=>true | .str _,.str _=>true | .byt _,.byt _=>true
 | .int _,.str _=>true | .str _,.int _=>true | .bl _,.str _=>true | .str _,.bl _=>true
 | _,_=>false
noncomputable def rEq:R2:=fun x y H Q=>scal x y=true∧Q (.bl (decide (x=y))) H
noncomputable def rNe:R2:=fun x y H Q=>scal x y=true∧Q (.bl (!decide (x=y))) H
theorem Ze1 {i j:Int}:decide (V.int i=V.int j)=(i == j):=by
 rw [Bool.eq_iff_iff]
 simp
theorem Zii {i j:Bool}:decide (V.bl i=V.bl j)=(i == j):=by
 rw [Bool.eq_iff_iff]
 simp
theorem Ze0 {i j:Str}:decide (V.str i=V.str j)=(i == j):=by
 rw [Bool.eq_iff_iff]
 simp
theorem Ze2 {i j:Array UInt8}:decide (V.byt i=V.byt j)=(i.toList == j.toList):=by
 rw [Bool.eq_iff_iff]
 cases i
 cases j
 simp
section
variable {X:Cx} {a b c:Expr} {ta tb tc:TE} {pos:Pos}
theorem Z0 {pins:List (Addr × Obj)} {σ:St} {H:Hp} {s:Shared} {Q:VK} {k k':Bool} (I:Inv X pins σ H s) (q:Q (.bl k) H) (e:k=k'):EP X pins σ Q (.bool k') s:=by
 subst e
 exact ⟨.bl k,H,I,rfl,q⟩
theorem X4:OpR X (compareOp .Eq) rEq:=by
 intro pins s σ H x y v u Q I rx ry h
 obtain ⟨hs,q⟩:=h
 cases x with
 | non =>
  cases rx
  cases y with
  | non=>cases ry; exact PySem.EqNone.eq_none_none (Z0 I q (by simp))
  | bl j=>cases ry; exact PySem.EqNone.eq_none_bool (Z0 I q (by simp))
  | int j=>obtain ⟨t',rfl⟩:=ry; exact PySem.EqNone.eq_none_int (Z0 I q (by simp))
  | str j=>obtain ⟨t',rfl⟩:=ry; exact PySem.EqNone.eq_none_str (Z0 I q (by simp))
  | _=>exact absurd (show false=true from hs) Bool.false_ne_true
 | bl i =>
  cases rx
  cases y with
  | non=>cases ry; exact PySem.EqNone.eq_bool_none (Z0 I q (by simp))
  | bl j=>cases ry; exact eq_bool (Z0 I q Zii)
  | str j=>obtain ⟨t',rfl⟩:=ry; exact PySem.EqMixed.eq_bool_str (Z0 I q (by simp))
  | _=>exact absurd (show false=true from hs) Bool.false_ne_true
 | int i =>
  obtain ⟨t,rfl⟩:=rx
  cases y with
  | non=>cases ry; exact PySem.EqNone.eq_int_none (Z0 I q (by simp))
  | int j=>obtain ⟨t',rfl⟩:=ry; exact eq_int (Z0 I q Ze1)
  | str j=>obtain ⟨t',rfl⟩:=ry; exact PySem.EqMixed.eq_int_str (Z0 I q (by simp))
  | _=>exact absurd (show false=true from hs) Bool.false_ne_true
 | str i =>
  obtain ⟨t,rfl⟩:=rx
  cases y with
  | non=>cases ry; exact PySem.EqNone.eq_str_none (Z0 I q (by simp))
  | bl j=>cases ry; exact PySem.EqMixed.eq_str_bool (Z0 I q (by simp))
  | int j=>obtain ⟨t',rfl⟩:=ry; exact PySem.EqMixed.eq_str_int (Z0 I q (by simp))
  | str j=>obtain ⟨t',rfl⟩:=ry; exact eq_str (Z0 I q Ze0)
  | _=>exact absurd (show false=true from hs) Bool.false_ne_true
 | byt i =>
  obtain ⟨t,rfl⟩:=rx
  cases y with
  | byt j=>obtain ⟨t',rfl⟩:=ry; exact PySem.W.eq_bytes (Z0 I q Ze2)
  | _=>exact absurd (show false=true from hs) Bool.false_ne_true
 | _=>cases y <;> exact absurd (show false=true from hs) Bool.false_ne_true
theorem Jz:OpR X (compareOp .NotEq) rNe:=by
 intro pins s σ H x y v u Q I rx ry h
 obtain ⟨hs,q⟩:=h
 cases x with
 | non =>
  cases rx
  cases y with
  | non=>cases ry; exact PySem.EqNone.ne_none_none (Z0 I q (by simp))
  | bl j=>cases ry; exact PySem.EqNone.ne_none_bool (Z0 I q (by simp))
  | int j=>obtain ⟨t',rfl⟩:=ry; exact PySem.EqNone.ne_none_int (Z0 I q (by simp))
  | str j=>obtain ⟨t',rfl⟩:=ry; exact PySem.EqNone.ne_none_str (Z0 I q (by simp))
  | _=>exact absurd (show false=true from hs) Bool.false_ne_true
 | bl i =>
  cases rx
  cases y with
  | non=>cases ry; exact PySem.EqNone.ne_bool_none (Z0 I q (by simp))
  | bl j=>cases ry; exact ne_bool (Z0 I q (congrArg not Zii))
  | str j=>obtain ⟨t',rfl⟩:=ry; exact PySem.EqMixed.ne_bool_str (Z0 I q (by simp))
  | _=>exact absurd (show false=true from hs) Bool.false_ne_true
 | int i =>
  obtain ⟨t,rfl⟩:=rx
  cases y with
  | non=>cases ry; exact PySem.EqNone.ne_int_none (Z0 I q (by simp))
  | int j=>obtain ⟨t',rfl⟩:=ry; exact ne_int (Z0 I q (congrArg not Ze1))
  | str j=>obtain ⟨t',rfl⟩:=ry; exact PySem.EqMixed.ne_int_str (Z0 I q (by simp))
  | _=>exact absurd (show false=true from hs) Bool.false_ne_true
 | str i =>
  obtain ⟨t,rfl⟩:=rx
  cases y with
  | non=>cases ry; exact PySem.EqNone.ne_str_none (Z0 I q (by simp))
  | bl j=>cases ry; exact PySem.EqMixed.ne_str_bool (Z0 I q (by simp))
  | int j=>obtain ⟨t',rfl⟩:=ry; exact PySem.EqMixed.ne_str_int (Z0 I q (by simp))
  | str j=>obtain ⟨t',rfl⟩:=ry; exact ne_str (Z0 I q (congrArg not Ze0))
  | _=>exact absurd (show false=true from hs) Bool.false_ne_true
 | byt i =>
  obtain ⟨t,rfl⟩:=rx
  cases y with
  | byt j=>obtain ⟨t',rfl⟩:=ry; exact PySem.W.ne_bytes (Z0 I q (congrArg not Ze2))
  | _=>exact absurd (show false=true from hs) Bool.false_ne_true
 | _=>cases y <;> exact absurd (show false=true from hs) Bool.false_ne_true
theorem Vt:OpR X (compareOp .Lt) (rI0 fun i j=>.bl (decide (i < j))):=opB0 fun _ _ _ _ _ _ _ q=>lt_int q
theorem Zny:OpR X (compareOp .LtE) (rI0 fun i j=>.bl (decide (i≤j))):=opB0 fun _ _ _ _ _ _ _ q=>le_int q
theorem Zaf:OpR X (compareOp .Gt) (rI0 fun i j=>.bl (decide (j < i))):=opB0 fun _ _ _ _ _ _ _ q=>gt_int q
theorem Znz:OpR X (compareOp .GtE) (rI0 fun i j=>.bl (decide (j≤i))):=opB0 fun _ _ _ _ _ _ _ q=>ge_int q
theorem Zhh:OpR X (compareOp .Is) (fun x y H Q=>y=.non∧Q (.bl (decide (x=.non))) H):=by
 intro pins s σ H x y v u Q I rx ry h
 obtain ⟨rfl,q⟩:=h
 cases ry
 refine is_none_gen (Z0 I q ?_)
 cases x <;> first
  | (cases rx; rfl)
  | (obtain ⟨t,rfl⟩:=rx; rfl)
theorem Jb:OpR X (compareOp .IsNot) (fun x y H Q=>y=.non∧Q (.bl (!decide (x=.non))) H):=by
 intro pins s σ H x y v u Q I rx ry h
 obtain ⟨rfl,q⟩:=h
 cases ry
 refine isnot_none_gen (Z0 I q ?_)
 cases x <;> first
  | (cases rx; rfl)
  | (obtain ⟨t,rfl⟩:=rx; rfl)
theorem Zu (b:Expr) {op:CmpOp} (h:op≠.In:=by decide) (h2:op≠.NotIn:=by decide):behindInMarks op b=false:=by
 have e1:(op == CmpOp.In)=false:=by cases op <;> first | rfl | exact absurd rfl h
 have e2:(op == CmpOp.NotIn)=false:=by cases op <;> first | rfl | exact absurd rfl h2
 cases b <;> simp [behindInMarks,e1,e2]
theorem Gk {op:CmpOp} {r:R2} (ho:OpR X (compareOp op) r) (ha:PE X a ta) (hb:PE X b tb) (hm:behindInMarks op b=false):PE X (.Compare a [op] [b] pos) (tOp r ta tb):=by
 intro pins s σ H Q I h
 exact wpAny_Compare1 (binT ha hb I h fun v u s2 x y H2 I2 rx ry q=>ho pins s2 σ H2 x y v u Q I2 rx ry q) hm
noncomputable def Znj (t:TE):TT:=fun σ H Q=>t σ H fun x H'=>∃ k,x=.bl k∧Q k H'
theorem Zq {op:CmpOp} {r:R2} (ho:OpR X (compareOp op) r) (ha:PE X a ta) (hb:PE X b tb) (hm:behindInMarks op b=false):PT X (.Compare a [op] [b] pos) (Znj (tOp r ta tb)):=by
 intro pins s σ H Q I h
 refine wpAny_isTrue_Compare1 (thn (ha pins s σ H _ I h) fun v s1 ⟨x,H1,I1,r1,q1⟩=>thn (hb pins s1 σ H1 _ I1 q1) fun u s2 ⟨y,H2,I2,r2,q2⟩ =>
  thn (ho pins s2 σ H2 x y v u _ I2 r1 r2 q2) fun c s3 ⟨z,H3,I3,r3,k,e,q3⟩=>?_) hm
 subst e
 cases r3
 exact wpAny_truthy_bool ⟨H3,I3,q3⟩
noncomputable def Zmm (r r':R2) (ta tb tc:TE):TE:=fun σ H Q=>ta σ H fun x H1=>tb σ H1 fun y H2=>r x y H2 fun z H3=>∃ k,z=.bl k ∧
 (if k=true then tc σ H3 fun w' H4=>r' y w' H4 Q else Q (.bl false) H3)
theorem Zjj {op op':CmpOp} {r r':R2} (ho:OpR X (compareOp op) r) (ho':OpR X (compareOp op') r') (ha:PE X a ta) (hb:PE X b tb) (hc:PE X c tc)
  (hm:lastMarks [op,op'] [b,c]=false:=by with_unfolding_all rfl):PE X (.Compare a [op,op'] [b,c] pos) (Zmm r r' ta tb tc):=by
 intro pins s σ H Q I h
 refine Compare_chain (thn (ha pins s σ H _ I h) fun v s1 ⟨x,H1,I1,r1,q1⟩=>chain_link (thn (hb pins s1 σ H1 _ I1 q1) fun u s2 ⟨y,H2,I2,r2,q2⟩ =>
  thn (ho pins s2 σ H2 x y v u _ I2 r1 r2 q2) fun d s3 ⟨z,H3,I3,r3,k,e,q3⟩=>?_)) hm
 subst e
 cases r3
 refine wpAny_truthy_bool ?_
 cases k with
 | false=>exact ite_ff ⟨.bl false,H3,I3,rfl,q3⟩
 | true=>exact ite_tt (chain_last (thn (hc pins s3 σ H3 _ I3 q3) fun w' s4 ⟨z',H4,I4,r4,q4⟩=>ho' pins s4 σ H4 y z' u w' Q I4 r2 r4 q4))
noncomputable def TruV (K:PySem.W.Frag) (x:V) (H:Hp) (k:Bool):Prop :=
 match x with
 | .non=>k=false
 | .bl b=>k=b
 | .int i=>k=(i != 0)
 | .str y=>y.length≤sizeLine∧k=((y.length:Int) != 0)
 | .byt y=>y.size≤sizeLine∧k=((y.size:Int) != 0)
 | .ref p=>(∃ xs,SqL K H p xs∧k=!xs.isEmpty)∨(∃ xs,SqT K H p xs∧k=!xs.isEmpty)∨∃ kvs,H p=some (.dK kvs)∧k=!kvs.isEmpty
 | _=>False
theorem Zf2 {κ:Type} {kvs:List (κ × V)} {vs:List (κ × Value)} (r:KV kvs vs):(!vs.isEmpty)=!kvs.isEmpty:=by
 cases r <;> rfl
theorem K2 {xs:List V} {its:List Value} (r:Vals xs its):(!its.toArray.isEmpty)=!xs.isEmpty:=by
 cases r <;> simp
theorem Ut:(sizeLine:Nat) < 2 ^ 63:=by rw [sizeLine_eq]; decide
theorem Zmf:TruR X (fun x H Q=>∃ k,TruV X.K x H k∧Q k H):=by
 intro pins s σ H x v Q I rx h
 obtain ⟨k,e,q⟩:=h
 have hl:=Ut
 have hs:sizeLine=16777216:=sizeLine_eq
 cases x with
 | non =>
  cases rx
  have e':k=false:=e
  subst e'
  exact truthy_none ⟨H,I,q⟩
 | bl b =>
  cases rx
  have e':k=b:=e
  subst e'
  exact wpAny_truthy_bool ⟨H,I,q⟩
 | int i =>
  obtain ⟨t,rfl⟩:=rx
  have e':k=(i != 0):=e
  subst e'
  exact PySem.P.truthy_int ⟨H,I,q⟩
 | str y =>
  obtain ⟨t,rfl⟩:=rx
  obtain ⟨hy,e'⟩:y.length≤sizeLine∧k=((y.length:Int) != 0):=e
  subst e'
  exact PySem.P.truthy_str (by omega) ⟨H,I.tok _,q⟩
 | byt y =>
  obtain ⟨t,rfl⟩:=rx
  obtain ⟨hy,e'⟩:y.size≤sizeLine∧k=((y.size:Int) != 0):=e
  subst e'
  exact PySem.W.truthy_bytes (by omega) ⟨H,I.tok _,q⟩
 | ref p =>
  cases rx
  have e':(∃ xs,SqL X.K H p xs∧k=!xs.isEmpty)∨(∃ xs,SqT X.K H p xs∧k=!xs.isEmpty)∨∃ kvs,H p=some (.dK kvs)∧k=!kvs.isEmpty:=e
  rcases e' with ⟨xs,hx,e'⟩ | ⟨xs,hx,e'⟩ | ⟨kvs,hx,e'⟩
  ·subst e'
   obtain ⟨its,r,pl,hz⟩:=I.list hx
   have hlen:=r.length
   exact wpAny_truthy_list pl.isList (by simp only [List.size_toArray]; omega) ⟨H,I.tok _,by rw [K2 r]; exact q⟩
  ·subst e'
   obtain ⟨its,r,pl,hz⟩:=I.tuple hx
   have hlen:=r.length
   exact truthy_tuple pl (by simp only [List.size_toArray]; omega) ⟨H,I.tok _,by rw [K2 r]; exact q⟩
  ·subst e'
   obtain ⟨hz,hS,vs,r,m⟩:kvs.length≤sizeLine∧(p == sysModules)=false∧∃ vs,KV kvs vs∧s.heap.DictOf (Z9 X.prog X.w) p vs:=I.hok p _ hx
   have hlen:kvs.length=vs.length:=Paired.length r
   exact wpAny_truthy_dict hS m (by omega) ⟨H,I.tok _,by rw [Zf2 r]; exact q⟩
 | _=>exact (show False from e).elim
theorem Zbn (ha:PE X a ta) (he:∀ whole,isTrue a X.env whole=(do let v ← whole; standAt a.pos; holding [v] (truthy v))) :
  PT X a (fun σ H Q=>ta σ H fun x H'=>∃ k,TruV X.K x H' k∧Q k H'):=by
 intro pins s σ H Q I h
 refine isTrue_plain (thn (ha pins s σ H _ I h) fun v s1 zz8=>?_) (he _)
 obtain ⟨x,H1,I1,r1,q1⟩:=zz8
 exact Zmf pins s1 σ H1 x v Q I1 r1 q1
theorem Wd {x:V} {us:List Value} (r:Vals [x] us):∃ u,us=[u]∧RelV x u:=by
 cases r with
 | cons r1 r2=>cases r2; exact ⟨_,rfl,r1⟩
theorem Zkf {x y:V} {us:List Value} (r:Vals [x,y] us):∃ u w',us=[u,w']∧RelV x u∧RelV y w':=by
 cases r with
 | cons r1 r2 =>
  cases r2 with
  | cons r3 r4=>cases r4; exact ⟨_,_,rfl,r1,r3⟩
theorem Ziq (hc:X.calm=true):Y7 X (.builtin "max") (fun xs H Q=>∃ i j,xs=[.int i,.int j]∧Q (.int (if j > i then j else i)) H):=by
 intro pins s σ H xs us Q I r h
 obtain ⟨i,j,rfl,q⟩:=h
 obtain ⟨u,w',rfl,⟨t,rfl⟩,⟨t',rfl⟩⟩:=Zkf r
 refine max_two_ints (I.ok.hd hc) fun h' tk k=>⟨_,H,I.kept k,?_,q⟩
 by_cases hj:j > i
 ·rw [if_pos hj,if_pos hj]; exact ⟨_,rfl⟩
 ·rw [if_neg hj,if_neg hj]; exact ⟨_,rfl⟩
theorem Zip (hc:X.calm=true):Y7 X (.builtin "min") (fun xs H Q=>∃ i j,xs=[.int i,.int j]∧Q (.int (if j < i then j else i)) H):=by
 intro pins s σ H xs us Q I r h
 obtain ⟨i,j,rfl,q⟩:=h
 obtain ⟨u,w',rfl,⟨t,rfl⟩,⟨t',rfl⟩⟩:=Zkf r
 refine min_two_ints (I.ok.hd hc) fun h' tk k=>⟨_,H,I.kept k,?_,q⟩
 by_cases hj:j < i
 ·rw [if_pos hj,if_pos hj]; exact ⟨_,rfl⟩
 ·rw [if_neg hj,if_neg hj]; exact ⟨_,rfl⟩
end
end L2
namespace L2
open PySem PySem.Spec PyProof.Rows
structure ObjM (h:Heap) (x dx C:Addr) (mA:Str→Option Value):Prop where
 obj:h.get? x=some (PySem.W.instObj C dx)
 ns:h.Ns1 dx mA
 ne:dx≠x
theorem Zhy {h:Heap} {dx:Addr} {mA:Str→Option Value} (n:h.Ns1 dx mA):∃ od,h.get? dx=some od∧∀ name,PySem.W.lookIn name od=some (mA name):=by
 obtain ⟨o,es,ep,ho,hd,hk,_,hm⟩:=n
 refine ⟨o,ho,fun name=>?_⟩
 have e:=hm name
 unfold nsFind findBy at e
 rw [← Array.find?_toList] at e
 unfold PySem.W.lookIn
 rw [hd]
 dsimp only
 split
 ·rename_i y q
  rw [q] at e
  exact congrArg some e
 ·rename_i q
  rw [q] at e
  have a:es.toList.any (·.refKey)=false:=by
   rw [List.any_eq_false]
   intro y hy
   obtain ⟨z,t,hkey⟩:=hk y (Array.mem_toList_iff.mp hy)
   simp [DictEntry.refKey,hkey]
  have a':¬ es.toList.any (·.refKey)=true:=by rw [a]; exact Bool.false_ne_true
  rw [if_neg a']
  exact congrArg some e
theorem ObjM.look {h:Heap} {x dx C:Addr} {mA:Str→Option Value} (I:ObjM h x dx C mA):∃ od,PySem.W.InstAt h x (PySem.W.instObj C dx) C (some od)∧∀ name,PySem.W.lookIn name od=some (mA name) :=
 let ⟨od,ho,hl⟩:=Zhy I.ns
 ⟨od,⟨I.obj,rfl,rfl,ho⟩,hl⟩
section
variable {prog:Program} {w:World} {A:Around} {E:Value→Shared→Prop} {s:Shared} {K:PySem.W.Frag} {x dx C f:Addr} {mA:Str→Option Value} {name:Str} {v:Value}
theorem Zly {expr:Bool} {Q:Value→Shared→Prop} (X:K.In s.heap) (I:ObjM s.heap x dx C mA) (hg:PySem.W.plainGet K C name=true) (hh:PySem.W.hasDictIn K C=true)
  (ha:PySem.W.findIn K (.ref C) name=some none) (hv:mA name=some v) (hv':PySem.W.handedIn v=true) (h:Q v { s with toks:=s.toks + 1 }) :
  wpAny (model prog w) A (getAttr (.ref x) name expr) Q E s:=by
 obtain ⟨od,J,hl⟩:=I.look
 exact PySem.W.get_value X J (PySem.W.plainGet_of hg).1 (PySem.W.findObj_own hh ha rfl (by rw [hl,hv])) hv' h
theorem Zj3 {pl:Sem Bool} {Q:Value × List Value→Shared→Prop} (X:K.In s.heap) (I:ObjM s.heap x dx C mA) (hg:PySem.W.plainGet K C name=true)
  (hf:PySem.W.findIn K (.ref C) name=some (some (.ref f))) (ht:PySem.W.isFn K (.ref f)=true) (hv:mA name=none) (h:Q (.ref f,[.ref x]) s) :
  wpAny (model prog w) A (getMethod (.ref x) name pl) Q E s:=by
 obtain ⟨od,J,hl⟩:=I.look
 exact PySem.W.method_fn X J (PySem.W.plainGet_of hg).1 (PySem.W.plainGet_of hg).2 hf (beq_iff_eq.mp ht) (by show (PySem.W.lookIn name od).map (·.isSome)=some false; rw [hl,hv]; rfl) h
theorem Zld {ns:List Str} {Q:Unit→Shared→Prop} (X:K.In s.heap) (I:ObjM s.heap x dx C mA)
  (hs:PySem.W.findIn K (.ref C) "__setattr__"=some (some (.builtin "object.__setattr__"))) (hp:PySem.W.plainOver K C=true) (ht:PySem.W.takerIn K C name=some none) (hh:PySem.W.hasDictIn K C=true)
  (hw:PySem.Within mA ns) (hsz:ns.length≤sizeLine)
  (h:∀ h',ObjM h' x dx C (fun y=>if y=name then some v else mA y)→Heap.SameBut dx s.heap h'→Q () { s with heap:=h',toks:=s.toks + 2 }) :
  wpAny (model prog w) A (setAttr (.ref x) name v) Q E s:=by
 obtain ⟨od,J,hl⟩:=I.look
 refine PySem.W.set_plain X J hs (PySem.W.osa_open (s:={ s with toks:=s.toks + 1 }) (r:=none) X J hp ht fun b=>?_)
 obtain ⟨cd,hc,hd'⟩:=PySem.W.any_some hh
 have hx:s.heap.get? x=some ⟨.ref C,some dx,.plain,#[]⟩:=I.obj
 refine wpAny_bind (wpAny_pure (wpAny_bind (wpAny_bind (wpAny_loadPart hx (wpAny_bind (PySem.W.Looks.here (s:={ s with toks:=s.toks + 1 }) (PySem.W.looks_clsIn X hc) ?_))))))
 rw [hd']
 refine wpAny_pure (a:=some dx) (wpAny_bind (wpAny_pure (wpAny_bind ?_)))
 refine wpAny_nsSet1 (s:={ s with toks:=s.toks + 1 }) I.ns fun h' hn2 hs2=>?_
 obtain ⟨oD,esD,epD,hoD,hdD,hcD⟩:=hn2.count (PySem.Within.cons name v hw)
 refine wpAny_bind (wpAny_lookBehind hoD (by rw [hdD]; exact pastItsLine_dict (Nat.le_trans hcD (by rw [List.length_cons]; omega))) ?_)
 exact wpAny_pure (h _ ⟨(hs2.2 _ (Ne.symm I.ne)).trans I.obj,hn2,I.ne⟩ hs2)
theorem Zjv {R:Result→Shared→Prop} {vs:List Value} {kw:List (Str × Value)} (X:K.In s.heap) (hm:PySem.W.makesIn K C=true)
  (hi:PySem.W.findIn K (.ref C) "__init__"=some (some (.ref f))) (hf:PySem.W.typeIn K (.ref f)=some (.type "function"))
  (h:codeAny (model prog w) (A.under (.builtin "type.__call__" ⟨.ref C :: vs,kw⟩)) (.call (.ref f) ⟨.ref (s.heap.objs.size + 1) :: vs,kw⟩) (PySem.W.InitBack (s.heap.objs.size + 1) R)
   { s with heap:=(s.heap.push PySem.W.emptyDict).push (PySem.W.instObj C s.heap.objs.size) }) :
  codeAny (model prog w) A (.call (.ref C) ⟨vs,kw⟩) R s:=by
 obtain ⟨hh,g,d,t,os⟩:=s
 exact PySem.W.make_core (PySem.W.makes_of X hm) (PySem.W.looks_findIn X hi) (fun self=>PySem.W.bind_fn X self hf) (.inl rfl) h
end
noncomputable def putF (f:Str) (v:V):List (Str × V)→List (Str × V)
 | []=>[(f,v)]
 | (g,x) :: r=>if g=f then (g,v) :: r else (g,x) :: putF f v r
theorem Zv (f g:Str) (v:V):∀ fs:List (Str × V),(putF f v fs).lookup g=if g=f then some v else fs.lookup g
 | []=>by
  show List.lookup g [(f,v)]=_
  by_cases h:g=f
  ·have hb:(g == f)=true:=beq_iff_eq.mpr h
   simp only [List.lookup,hb,if_pos h]
  ·have hb:(g == f)=false:=beq_eq_false_iff_ne.mpr h
   simp only [List.lookup,hb,if_neg h]
 | (k,x) :: r=>by
  have ih:=Zv f g v r
  rw [show putF f v ((k,x) :: r)=(if k=f then (k,v) :: r else (k,x) :: putF f v r) from rfl]
  by_cases hk:k=f
  ·rw [if_pos hk]
   by_cases h:g=k
   ·have hb:(g == k)=true:=beq_iff_eq.mpr h
    simp only [List.lookup,hb,if_pos (h.trans hk)]
   ·have hb:(g == k)=false:=beq_eq_false_iff_ne.mpr h
    simp only [List.lookup,hb,if_neg (fun e:g=f=>h (e.trans hk.symm))]
  ·rw [if_neg hk]
   by_cases h:g=k
   ·have hb:(g == k)=true:=beq_iff_eq.mpr h
    simp only [List.lookup,hb,if_neg (fun e:g=f=>hk (h.symm.trans e))]
   ·have hb:(g == k)=false:=beq_eq_false_iff_ne.mpr h
    simp only [List.lookup,hb]
    exact ih
theorem Uu (f:Str) (v:V):∀ fs:List (Str × V),f∈(putF f v fs).map (·.1)∧∀ g,g∈fs.map (·.1)→g∈(putF f v fs).map (·.1)
 | []=>⟨by simp [putF],fun g h=>by simp at h⟩
 | (k,x) :: r=>by
  obtain ⟨i1,i2⟩:=Uu f v r
  rw [show putF f v ((k,x) :: r)=(if k=f then (k,v) :: r else (k,x) :: putF f v r) from rfl]
  by_cases hk:k=f
  ·rw [if_pos hk]
   subst hk
   exact ⟨by simp,fun g h=>by simpa using h⟩
  ·rw [if_neg hk]
   refine ⟨?_,fun g h=>?_⟩
   ·rw [List.map_cons]
    exact List.mem_cons_of_mem _ i1
   ·rw [List.map_cons] at h ⊢
    rcases List.mem_cons.mp h with e | e
    ·exact List.mem_cons.mpr (.inl e)
    ·exact List.mem_cons_of_mem _ (i2 g e)
theorem Ou (f:Str) (v:V):∀ fs:List (Str × V),(putF f v fs).length≤fs.length + 1
 | []=>by simp [putF]
 | (k,x) :: r=>by
  have ih:=Ou f v r
  rw [show putF f v ((k,x) :: r)=(if k=f then (k,v) :: r else (k,x) :: putF f v r) from rfl]
  by_cases hk:k=f
  ·rw [if_pos hk,List.length_cons,List.length_cons]; omega
  ·rw [if_neg hk,List.length_cons,List.length_cons]; omega
theorem RelO.some_of {v:V} {o:Option Value} (r:RelO (some v) o):∃ u,o=some u∧RelV v u:=by
 cases o with
 | none=>exact (show False from r).elim
 | some u=>exact ⟨u,rfl,r⟩
theorem RelO.none_of {o:Option Value} (r:RelO none o):o=none:=by
 cases o with
 | none=>rfl
 | some u=>exact (show False from r).elim
theorem Zh6 {v:V} {u:Value} (r:RelV v u):PySem.W.handedIn u=true:=by
 cases v with
 | non=>cases (show u=Value.none from r); rfl
 | bl b=>cases (show u=Value.bool b from r); rfl
 | int i=>obtain ⟨t,e⟩:=(show ∃ t,u=Value.int i t from r); cases e; rfl
 | str x=>obtain ⟨t,e⟩:=(show ∃ t,u=Value.str x t from r); cases e; rfl
 | byt b=>obtain ⟨t,e⟩:=(show ∃ t,u=Value.bytes b t from r); cases e; rfl
 | flt b=>obtain ⟨t,e⟩:=(show ∃ t,u=Value.float b t from r); cases e; rfl
 | ref a=>cases (show u=Value.ref a from r); rfl
 | ty n=>cases (show u=Value.type n from r); rfl
section
variable {P:Program} {w:World} {H H':Hp} {h h':Heap} {a C dx:Addr} {fs fs':List (Str × V)}
theorem U8 (hok:HOk P w H h) (e:H a=some (.ins C dx fs)):∃ mA,ObjM h a dx C mA∧(∀ f,RelO (fs.lookup f) (mA f))∧PySem.Within mA (fs.map (·.1))∧fs.length≤1000∧H dx=some (.own a):=by
 obtain ⟨d,z,ne,ob,mA,n,r,q⟩:=(show Zx P w H h a (.ins C dx fs) from hok a _ e)
 exact ⟨mA,⟨ob,n,ne⟩,r,q,z,d⟩
end
structure Cls (K:PySem.W.Frag) (C:Addr):Prop where
 pg:PySem.W.plainGet K C Str.empty=true
 hd:PySem.W.hasDictIn K C=true
 po:PySem.W.plainOver K C=true
 sa:PySem.W.findIn K (.ref C) "__setattr__"=some (some (.builtin "object.__setattr__"))
theorem Cls.get {K:PySem.W.Frag} {C:Addr} (c:Cls K C) (f:Str):PySem.W.plainGet K C f=true:=c.pg
noncomputable def Wo (K:PySem.W.Frag) (C:Addr) (f:Str):Prop:=PySem.W.findIn K (.ref C) f=some none
theorem Wo.taker {K:PySem.W.Frag} {C:Addr} {f:Str} (n:Wo K C f):PySem.W.takerIn K C f=some none:=by
 unfold PySem.W.takerIn
 rw [show PySem.W.findIn K (.ref C) f=some none from n]
 rfl
structure Meth (K:PySem.W.Frag) (C:Addr) (m:Str) (f:Addr):Prop where
 at_:PySem.W.findIn K (.ref C) m=some (some (.ref f))
 fn:PySem.W.isFn K (.ref f)=true
 kp:PySem.W.keepIn K (.ref f)=true
section
variable {X:Cx} {pins:List (Addr × Obj)} {σ:St} {H:Hp} {s:Shared} {a C dx:Addr} {fs:List (Str × V)} {f:Str} {v:V} {A:Around} {E:Value→Shared→Prop}
theorem Zf4 {b:Bool} {Q:Value→Shared→Prop} (I:Inv X pins σ H s) (e:H a=some (.ins C dx fs)) (c:Cls X.K C) (n:Wo X.K C f) (l:fs.lookup f=some v)
  (h:∀ u s',Inv X pins σ H s'→RelV v u→Q u s'):wpAny (model X.prog X.w) A (getAttr (.ref a) f b) Q E s:=by
 obtain ⟨mA,O,r,_,_,_⟩:=U8 I.hok e
 obtain ⟨u,hu,ru⟩:=RelO.some_of (v:=v) (o:=mA f) (by rw [← l]; exact r f)
 exact Zly I.kIn O (c.get f) c.hd n hu (Zh6 ru) (h u _ (I.tok _) ru)
theorem Vx {m:Str} {g:Addr} {pl:Sem Bool} {Q:Value × List Value→Shared→Prop} (I:Inv X pins σ H s) (e:H a=some (.ins C dx fs)) (c:Cls X.K C) (k:Meth X.K C m g) (l:fs.lookup m=none)
  (h:Q (.ref g,[.ref a]) s):wpAny (model X.prog X.w) A (getMethod (.ref a) m pl) Q E s:=by
 obtain ⟨mA,O,r,_,_,_⟩:=U8 I.hok e
 have hn:mA m=none:=RelO.none_of (by rw [← l]; exact r m)
 exact Zj3 I.kIn O (c.get m) k.at_ k.fn hn h
theorem Zfi {y:V} {u:Value} {Q:Unit→Shared→Prop} (I:Inv X pins σ H s) (e:H a=some (.ins C dx fs)) (c:Cls X.K C) (n:Wo X.K C f) (hl:fs.length < 1000) (ry:RelV y u)
  (h:∀ s',Inv X pins σ (upd H a (.ins C dx (putF f y fs))) s'→Q () s'):wpAny (model X.prog X.w) A (setAttr (.ref a) f u) Q E s:=by
 obtain ⟨mA,O,r,wi,_,ho⟩:=U8 I.hok e
 have hz:(fs.map (·.1)).length≤sizeLine:=by rw [List.length_map,sizeLine_eq]; omega
 refine Zld I.kIn O c.sa c.po n.taker c.hd wi hz fun h' O' sb=>h _ ?_
 have hd:∃ o,h'.get? dx=some o:=let ⟨o,_,_,e',_⟩:=O'.ns; ⟨o,e'⟩
 refine I.write (x:=a) (e:=dx) (by rw [e]; exact True.intro) (.inr ho) (fun b q hb z=>(sb.2 b hb).trans z) hd ?_
 refine ⟨by rw [Zd O.ne]; exact ho,?_,O.ne,O'.obj,_,O'.ns,fun g=>?_,fun g hg=>?_⟩
 ·have:=Ou f y fs; omega
 ·show RelO ((putF f y fs).lookup g) (if g=f then some u else mA g)
  rw [Zv]
  by_cases q:g=f
  ·rw [if_pos q,if_pos q]; exact ry
  ·rw [if_neg q,if_neg q]; exact r g
 ·by_cases q:g=f
  ·rw [q]; exact (Uu f y fs).1
  ·refine (Uu f y fs).2 g (wi g fun z=>hg ?_)
   show (if g=f then some u else mA g)=none
   rw [if_neg q]; exact z
theorem Inv.made (I:Inv X pins σ H s):Inv X pins σ (upd (upd H s.heap.objs.size (.own (s.heap.objs.size + 1))) (s.heap.objs.size + 1) (.ins C s.heap.objs.size []))
  { s with heap:=(s.heap.push PySem.W.emptyDict).push (PySem.W.instObj C s.heap.objs.size) }:=by
 have e1:(s.heap.push PySem.W.emptyDict).get? s.heap.objs.size=some PySem.W.emptyDict:=Heap.get?_push_size s.heap rfl
 have e2:((s.heap.push PySem.W.emptyDict).push (PySem.W.instObj C s.heap.objs.size)).get? (s.heap.objs.size + 1)=some (PySem.W.instObj C s.heap.objs.size):=by
  have:=Heap.get?_push_size (s.heap.push PySem.W.emptyDict) (o:=PySem.W.instObj C s.heap.objs.size) rfl
  rwa [Heap.size_push] at this
 have e3:(s.heap.push PySem.W.emptyDict).Ns s.heap.objs.size (fun _=>none):=⟨PySem.W.emptyDict,#[],_,e1,rfl,(fun e he=>absurd he (by simp)),fun _=>rfl⟩
 have I1:=I.laid (a:=s.heap.objs.size) (o:=.own (s.heap.objs.size + 1)) (h':=s.heap.push PySem.W.emptyDict) (t':=s.toks) (fun b u q=>Heap.get?_push_of_some _ q) (Nat.le_refl _) ⟨_,e1⟩
 refine I1.laid (a:=s.heap.objs.size + 1) (o:=.ins C s.heap.objs.size []) (t':=s.toks) (fun b u q=>Heap.get?_push_of_some _ q) (Nat.le_of_eq (Heap.size_push _ _)) ?_
 have ne:s.heap.objs.size≠s.heap.objs.size + 1:=Nat.ne_of_lt (Nat.lt_succ_self _)
 refine ⟨by rw [Zd ne,Zb],Nat.zero_le _,ne,e2,fun _=>none,(Heap.Ns1.of_empty e3).at fun o q=>Heap.get?_push_of_some _ q,fun _=>True.intro,fun y hy=>absurd rfl hy⟩
theorem Zl9 {prog:Program} {w:World} {env:Env} {e:Expr} {f:Str} {pos:Pos} {s:Shared} {Q:Value→Shared→Prop} (hb:attributeBase e f env (eval e env)=eval e env)
  (h:wpAny (model prog w) A (eval e env) (fun o s₁=>wpAny (model prog w) A (getAttr o f true) Q E s₁) E s):wpAny (model prog w) A (eval (.Attribute e f pos) env) Q E s :=
 Attribute_any_ h (by rw [arm_eval_Attribute,hb])
end
noncomputable def tFld (K:PySem.W.Frag) (ta:TE) (f:Str):TE:=fun σ H Q=>ta σ H fun x H1=>∃ a C dx fs v,x=.ref a∧H1 a=some (.ins C dx fs)∧Cls K C∧Wo K C f∧fs.lookup f=some v∧Q v H1
noncomputable def sFld (K:PySem.W.Frag) (ta tv:TE) (f:Str):TS:=fun D σ H=>tv σ H fun y H1=>ta σ H1 fun x H2=>∃ a C dx fs,x=.ref a∧H2 a=some (.ins C dx fs)∧Cls K C∧Wo K C f∧fs.length < 1000 ∧
 D.nx σ (upd H2 a (.ins C dx (putF f y fs)))
section
variable {X:Cx} {o e value:Expr} {f:Str} {pos pos' tpos:Pos} {ta tv:TE}
theorem Xz (he:PE X e ta) (hb:attributeBase e f X.env (eval e X.env)=eval e X.env):PE X (.Attribute e f pos) (tFld X.K ta f):=by
 intro pins s σ H Q I h
 refine Zl9 hb (thn (he pins s σ H _ I h) fun u s1 zz9=>?_)
 obtain ⟨x,H1,I1,rx,a,C,dx,fs,v,ex,ea,c,n,l,q⟩:=zz9
 subst ex
 obtain rfl:u=Value.ref a:=rx
 exact Zf4 I1 ea c n l fun u' s2 I2 ru=>⟨v,H1,I2,ru,q⟩
theorem Ku (ha:PE X o ta) (hv:PE X value tv) (hs:swapsWith value (some (.Attribute o f pos')) pos.line X.env=pure false):PS X (.Assign [.Attribute o f pos'] value pos) (sFld X.K ta tv f):=by
 intro pins s σ H D I h
 refine plainObj_wpAny_Assign_Attribute (thn (hv pins s σ H _ I h) fun u s1 zz9=>?_) hs
 obtain ⟨y,H1,I1,ry,q⟩:=zz9
 refine thn (ha pins s1 σ H1 _ I1 q) fun ov s2 zz10=>?_
 obtain ⟨x,H2,I2,rx,a,C,dx,fs,ex,ea,c,n,l,q2⟩:=zz10
 subst ex
 obtain rfl:ov=Value.ref a:=rx
 exact Zfi I2 ea c n l ry fun s3 I3=>⟨σ,_,I3,q2⟩
end
section
variable {X:Cx} {pins:List (Addr × Obj)} {σ:St} {H:Hp} {s:Shared} {A:Around} {E:Value→Shared→Prop} {Q:Value→Shared→Prop} {c:Value} {b:Bool}
inductive TyOf (K:PySem.W.Frag) (H:Hp):V→Value→Prop where
 | non:TyOf K H .non (.type "NoneType")
 | bl (x:Bool):TyOf K H (.bl x) (.type "bool")
 | int (i:Int):TyOf K H (.int i) (.type "int")
 | str (x:Str):TyOf K H (.str x) (.type "str")
 | flt (x:UInt64):TyOf K H (.flt x) (.type "float")
 | lst {a:Addr} {xs:List V} (e:H a=some (.lst xs)):TyOf K H (.ref a) (.type "list")
 | frz {a:Addr} {o:Obj} {xs:List V} (e:H a=some (.frz o (.lst xs))):TyOf K H (.ref a) (.type "list")
 | tup {a:Addr} {xs:List V} (e:H a=some (.tup xs)):TyOf K H (.ref a) (.type "tuple")
 | dK {a:Addr} {kvs:List (Key × V)} (e:H a=some (.dK kvs)):TyOf K H (.ref a) (.type "dict")
 | dT {a:Addr} {kvs:List (List Key × V)} (e:H a=some (.dT kvs)):TyOf K H (.ref a) (.type "dict")
 | ins {a C dx:Addr} {fs:List (Str × V)} (e:H a=some (.ins C dx fs)) (cl:Cls K C) (ha:PySem.W.findIn K (.ref C) "__class__"=some (some (.builtin "object.__class__")))
   (hn:PySem.W.specialIn K (.builtin "object.__class__") "__get__"=some (some (.builtin "getset_descriptor.__get__"))) (htk:PySem.W.takesIn K (.builtin "object.__class__")=some true)
   (hm:PySem.W.mroIn K C (.type "object")=some true):TyOf K H (.ref a) (.ref C)
theorem Zh4 {x:V} {u t:Value} (I:Inv X pins σ H s) (rx:RelV x u) (ty:TyOf X.K H x t) (e:PySem.W.kitOne X.K t c=some b) (h:∀ tk,Q (.bool b) { s with toks:=tk }) :
  wpAny (model X.prog X.w) A (call (.builtin "isinstance") [u,c]) Q E s:=by
 cases ty with
 | non=>cases (show u=Value.none from rx); exact PySem.W.kia_one PySem.W.kitx_none I.kIn True.intro e (fun z=>nomatch z) h
 | bl y=>cases (show u=Value.bool y from rx); exact PySem.W.kia_one PySem.W.kitx_bool I.kIn True.intro e (fun z=>nomatch z) h
 | int i=>obtain ⟨t,q⟩:=(show ∃ t,u=Value.int i t from rx); cases q; exact PySem.W.kia_one PySem.W.kitx_int I.kIn True.intro e (fun z=>nomatch z) h
 | str y=>obtain ⟨t,q⟩:=(show ∃ t,u=Value.str y t from rx); cases q; exact PySem.W.kia_one PySem.W.kitx_str I.kIn True.intro e (fun z=>nomatch z) h
 | flt y=>obtain ⟨t,q⟩:=(show ∃ t,u=Value.float y t from rx); cases q; exact PySem.W.kia_one PySem.W.kitx_float I.kIn True.intro e (fun z=>nomatch z) h
 | @lst a xs ea =>
  cases (show u=Value.ref a from rx)
  obtain ⟨_,_,n,_,h1⟩:=(show Zx X.prog X.w H s.heap a (.lst xs) from I.hok a _ ea)
  exact PySem.W.kia_one PySem.W.kitx_list I.kIn ⟨_,h1,rfl⟩ e (fun z=>nomatch z) h
 | @frz a ob xs ea =>
  cases (show u=Value.ref a from rx)
  obtain ⟨_,_,_,n,_,h1⟩:=(show Zx X.prog X.w H s.heap a (.frz ob (.lst xs)) from I.hok a _ ea)
  exact PySem.W.kia_one PySem.W.kitx_list I.kIn ⟨_,h1,rfl⟩ e (fun z=>nomatch z) h
 | @tup a xs ea =>
  cases (show u=Value.ref a from rx)
  obtain ⟨_,_,_,p⟩:=(show Zx X.prog X.w H s.heap a (.tup xs) from I.hok a _ ea)
  obtain ⟨o,h1,h2,_⟩:=p
  exact PySem.W.kia_one PySem.W.kitx_tuple I.kIn ⟨o,h1,h2⟩ e (fun z=>nomatch z) h
 | @dK a kvs ea =>
  cases (show u=Value.ref a from rx)
  obtain ⟨_,_,vs,_,p⟩:=(show Zx X.prog X.w H s.heap a (.dK kvs) from I.hok a _ ea)
  obtain ⟨o,es,ep,h1,h2,_⟩:=p
  exact PySem.W.kia_one PySem.W.kitx_dict I.kIn ⟨o,h1,h2.1⟩ e (fun z=>nomatch z) h
 | @dT a kvs ea =>
  cases (show u=Value.ref a from rx)
  obtain ⟨_,_,xs,_,o,es,ep,h1,h2,_⟩:=(show Zx X.prog X.w H s.heap a (.dT kvs) from I.hok a _ ea)
  exact PySem.W.kia_one PySem.W.kitx_dict I.kIn ⟨o,h1,h2.1⟩ e (fun z=>nomatch z) h
 | @ins a C dx fs ea cl ha hn htk hm =>
  cases (show u=Value.ref a from rx)
  obtain ⟨mA,O,_⟩:=U8 I.hok ea
  obtain ⟨od,J,_⟩:=O.look
  exact PySem.W.kia_one (PySem.W.kitx_own (cl.get _) cl.hd ha hn htk hm) I.kIn J e (fun z=>nomatch z) h
end
end L2
namespace L2
open PySem PySem.Spec PyProof.Rows
structure Room (k:Nat) (A:Around):Prop where
 hd:A.handled=none
 dp:A.depth + 3 * k + 5 < recursionLimit
 un:A.units + 16 * k + 200 < cLine
theorem Room.mono {j k:Nat} {A:Around} (r:Room k A) (h:j≤k):Room j A:=⟨r.hd,by have:=r.dp; omega,by have:=r.un; omega⟩
theorem Room.deeper {k:Nat} {A:Around} (r:Room (k + 1) A) (env:Env):Room k (A.deeper env) :=
 ⟨r.hd,by have:=r.dp; show A.depth + 1 + 3 * k + 5 < _; omega,by have:=r.un; show A.units + 3 + 16 * k + 200 < _; omega⟩
theorem Room.in1 {k:Nat} {A:Around} (r:Room (k + 1) A):Room k A.in1 :=
 ⟨r.hd,by have:=r.dp; show A.depth + 3 * k + 5 < _; omega,by have:=r.un; show A.units + 1 + 16 * k + 200 < _; omega⟩
theorem Zf1 {A:Around} {C:Addr} {us:List Value} {kw:List (Str × Value)}:(A.under (.builtin "type.__call__" ⟨.ref C :: us,kw⟩)).depth=A.depth + 1:=by
 first | rfl | simp [Around.under,Code.weight,Code.isCreation,Code.isGuard,Code.isCaller,Code.frames,Code.isFrame,guardIds]
theorem Zf0 {A:Around} {C:Addr} {us:List Value} {kw:List (Str × Value)}:(A.under (.builtin "type.__call__" ⟨.ref C :: us,kw⟩)).units=A.units + 1:=by
 first | rfl | simp [Around.under,Code.cUnits,Code.frames,Code.isFrame]
theorem Room.make {k:Nat} {A:Around} (r:Room (k + 1) A) (C:Addr) (us:List Value) (kw:List (Str × Value)):Room k (A.under (.builtin "type.__call__" ⟨.ref C :: us,kw⟩)) :=
 ⟨r.hd,by have:=r.dp; rw [Zf1]; omega,by have:=r.un; rw [Zf0]; omega⟩
theorem Room.depth {k:Nat} {A:Around} (r:Room k A):A.depth < recursionLimit:=by have:=r.dp; omega
theorem Room.units {k:Nat} {A:Around} (r:Room k A):A.units + 64 < cLine:=by have:=r.un; omega
noncomputable def tNil:TA:=fun _ H Q=>Q [] H
noncomputable def Znr (ta:TE) (tr:TA):TA:=fun σ H Q=>ta σ H fun x H1=>tr σ H1 fun xs H2=>Q (x :: xs) H2
section
variable {X:Cx} {e:Expr} {es:List Expr} {te:TE} {t:TA} {pos:Pos}
theorem Zc:PA X [] tNil:=fun _ _ _ _ H Q I h=>Calls.spliced_nil ⟨[],H,I,.nil,h⟩
theorem Za (ha:PE X e te) (hr:PA X es t) (hs:starEach (e :: es) X.env=(false,eval e X.env) :: starEach es X.env:=by rfl):PA X (e :: es) (Znr te t):=by
 intro pos pins s σ H Q I h
 rw [hs]
 show wpAny _ _ (spliced ((false,eval e X.env) :: backTo pos (starEach es X.env))) _ _ s
 refine Calls.spliced_cons (thn (ha pins s σ H _ I h) fun u s1 zz9=>?_)
 obtain ⟨x,H1,I1,r1,q1⟩:=zz9
 refine thn (hr pos pins s1 σ H1 _ I1 q1) fun us s2 zz11=>?_
 obtain ⟨xs,H2,I2,r2,q2⟩:=zz11
 exact ⟨x :: xs,H2,I2,.cons r1 r2,q2⟩
noncomputable def tTup (t:TA):TE:=fun σ H Q=>t σ H fun xs H1=>xs.length≤sizeLine∧∀ p,H1 p=none→Q (.ref p) (upd H1 p (.tup xs))
noncomputable def tLst (t:TA):TE:=fun σ H Q=>t σ H fun xs H1=>xs.length≤sizeLine∧∀ p,H1 p=none→Q (.ref p) (upd H1 p (.lst xs))
theorem Xo {x1} (h:PA X es t):PE X (.Tuple es x1 pos) (tTup t):=by
 intro pins s σ H Q I hq
 refine wpAny_Tuple_spliced (thn (h pos pins s σ H _ I hq) fun us s1 zz7=>?_)
 obtain ⟨xs,H1,I1,r,z,q⟩:=zz7
 refine ⟨by rw [← r.length]; exact z,?_⟩
 have hf:H1 s1.heap.objs.size=none:=I1.hok.fresh (Nat.le_refl _)
 refine ⟨.ref s1.heap.objs.size,upd H1 s1.heap.objs.size (.tup xs),I1.laid (t':=s1.toks) (fun b u e=>Heap.get?_push_of_some _ e) (Nat.le_refl _) ?_,rfl,q _ hf⟩
 exact ⟨z,us,r,⟨_,Heap.get?_push_size _ rfl,rfl,_,rfl⟩⟩
theorem Y5 (h:PA X es t):PE X (.List es pos) (tLst t):=by
 intro pins s σ H Q I hq
 refine wpAny_List_spliced (thn (h pos pins s σ H _ I hq) fun us s1 zz7=>?_)
 obtain ⟨xs,H1,I1,r,z,q⟩:=zz7
 refine ⟨by rw [← r.length]; exact z,?_⟩
 have hf:H1 s1.heap.objs.size=none:=I1.hok.fresh (Nat.le_refl _)
 refine ⟨.ref s1.heap.objs.size,upd H1 s1.heap.objs.size (.lst xs),I1.laid (t':=s1.toks) (fun b u e=>Heap.get?_push_of_some _ e) (Nat.le_refl _) ?_,rfl,q _ hf⟩
 exact ⟨z,us,0,r,Heap.get?_push_size _ rfl⟩
end
noncomputable abbrev Sp:=List V→Hp→VK→XK→Prop
noncomputable abbrev CXT:=List Env→Hp→Shared→XK→Value→Shared→Prop
structure Env0 (P:Program) (w:World) (K:PySem.W.Frag) (mg:Str→Option Value) (base:Heap) (A:Around) (outer:List Env) (s:Shared) (H:Hp):Prop where
 frames:A.frames=some outer
 mod:Mod K mg base
 bs:∀ b o,base.get? b=some o→s.heap.get? b=some o∧H b=none
 bsz:base.objs.size≤s.heap.objs.size
 funs:s.heap.FunFrames base outer
 frf:∀ b∈frs outer,H b=none
 hok:HOk P w H s.heap
 bare:AllBare s.gens
noncomputable def CE (outer:List Env) (P:Program) (w:World) (H:Hp) (s:Shared) (Q:VK) (u:Value) (s':Shared):Prop :=
 ∃ v H',s'.os=s.os∧AllBare s'.gens∧Un (frs outer) [] H H' s.heap s'.heap∧HOk P w H' s'.heap∧RelV v u∧Q v H'
noncomputable def CR (CX:CXT) (outer:List Env) (P:Program) (w:World) (H:Hp) (s:Shared) (Q:VK) (E:XK) (r:Result) (s':Shared):Prop :=
 match r with
 | .ok (.ret u)=>CE outer P w H s Q u s'
 | .ok _=>False
 | .error e=>CX outer H s E e s'
structure FnOk (P:Program) (w:World) (K:PySem.W.Frag) (mg:Str→Option Value) (base:Heap) (CX:CXT) (k:Nat) (f:Addr) (fd:FuncData) (ps:List Str) (sp:Sp):Prop where
 len:∀ vs H Q E,sp vs H Q E→vs.length=ps.length
 run:∀ (A:Around) (outer:List Env) (s:Shared) (H:Hp) (args:Args) (us:List Value) (vs:List V) (Q:VK) (E:XK),Room k A→Env0 P w K mg base A outer s H→BindsTo s fd args (ps.zip us)→Vals vs us→sp vs H Q E →
  codeAny (model P w) A (.call (.ref f) args) (CR CX outer P w H s Q E) s
theorem Env0.make {P:Program} {w:World} {K:PySem.W.Frag} {mg:Str→Option Value} {base:Heap} {A:Around} {outer:List Env} {s:Shared} {H:Hp} (e:Env0 P w K mg base A outer s H) (C:Addr) (us:List Value) (kw:List (Str × Value)) :
  Env0 P w K mg base (A.under (.builtin "type.__call__" ⟨.ref C :: us,kw⟩)) outer s H:=⟨by first | exact e.frames | (simpa [Around.under,Code.envs,Code.isFrame,pushEnvs] using e.frames),e.mod,e.bs,e.bsz,e.funs,e.frf,e.hok,e.bare⟩
theorem Env0.in1 {P:Program} {w:World} {K:PySem.W.Frag} {mg:Str→Option Value} {base:Heap} {A:Around} {outer:List Env} {s:Shared} {H:Hp} (e:Env0 P w K mg base A outer s H) :
  Env0 P w K mg base A.in1 outer s H:=⟨e.frames,e.mod,e.bs,e.bsz,e.funs,e.frf,e.hok,e.bare⟩
section
variable {X:Cx} {pins:List (Addr × Obj)} {σ:St} {H:Hp} {s s':Shared}
theorem Inv.env0 (I:Inv X pins σ H s):Env0 X.prog X.w X.K X.mg X.base X.A X.stack s H :=
 ⟨I.ok.frames,I.ok.mod,I.bs,Nat.le_trans I.ok.bsz I.sz,I.stack,I.stkFree,I.hok,I.bare⟩
theorem Inv.after {Q:VK} {u:Value} (I:Inv X pins σ H s) (h:CE X.stack X.prog X.w H s Q u s'):EP X pins σ Q u s':=by
 obtain ⟨v,H',os,bare,un,hok,r,q⟩:=h
 obtain ⟨hh,g,d,t,os'⟩:=s'
 obtain rfl:os'=s.os:=os
 exact ⟨v,H',I.call (h':=hh) (g':=g) (d':=d) (t':=t) (ch:=[]) un hok bare (fun b z=>absurd z (by simp)),r,q⟩
end
noncomputable def Zfe (sp:Sp) (dvs:List V) (E:XK) (t:TA):TE:=fun σ H Q=>t σ H fun vs H1=>sp (vs ++ dvs) H1 Q E
noncomputable def Zkg (C:Addr) (m:Str) (sp:Sp) (dvs:List V) (E:XK) (ta:TE) (t:TA):TE:=fun σ H Q=>ta σ H fun x H1=>∃ a dx fs,x=.ref a∧H1 a=some (.ins C dx fs)∧fs.lookup m=none ∧
 t σ H1 fun vs H2=>sp (x :: (vs ++ dvs)) H2 Q E
noncomputable def Zno (C:Addr) (sp:Sp) (dvs:List V) (E:XK) (t:TA):TE:=fun σ H Q=>t σ H fun vs H1=>∀ x dx,H1 x=none→H1 dx=none→dx≠x →
 sp (.ref x :: (vs ++ dvs)) (upd (upd H1 dx (.own x)) x (.ins C dx [])) (fun v H2=>v=.non∧Q (.ref x) H2) E
noncomputable def Xx (K:PySem.W.Frag) (fd:FuncData) (ps:List Str) (ds:List Value):Prop :=
 ∀ (s:Shared) (us:List Value),K.In s.heap→(us ++ ds).length=ps.length→BindsTo s fd ⟨us,[]⟩ (ps.zip (us ++ ds))
theorem Xx.all {K:PySem.W.Frag} {fd:FuncData} {ps:List Str} (h:∀ us:List Value,us.length=ps.length→bindArgs fd ⟨us,[]⟩=pure (ps.zip us)):Xx K fd ps []:=fun s us _ hl=>by
 rw [List.append_nil] at hl ⊢
 exact .of_eq (h us hl)
noncomputable def Jq (CX:CXT) (X:Cx) (E:XK):Prop:=∀ (pins:List (Addr × Obj)) (σ:St) (H:Hp) (s:Shared) (e:Value) (s':Shared),Inv X pins σ H s→CX X.stack H s E e s'→X.xe e s'
section
variable {X:Cx} {CX:CXT} {k:Nat} {f C:Addr} {fd:FuncData} {ps:List Str} {sp:Sp} {dvs:List V} {ds:List Value} {E:XK} {x m:Str} {p pos apos:Pos} {e o:Expr} {es:List Expr} {ta:TE} {t:TA}
theorem Kr {pins:List (Addr × Obj)} {σ:St} {H:Hp} {s:Shared} {Q:VK} {us:List Value} {vs:List V} (F:FnOk X.prog X.w X.K X.mg X.base CX k f fd ps sp) (hr:Room k X.A) (hb:Xx X.K fd ps ds) (hd:Vals dvs ds) (hx:Jq CX X E)
  (I:Inv X pins σ H s) (r:Vals vs us) (h:sp (vs ++ dvs) H Q E):wpAny (model X.prog X.w) X.A (call (.ref f) us) (EP X pins σ Q) X.xe s:=by
 have r2:Vals (vs ++ dvs) (us ++ ds):=r.append hd
 have hl:(us ++ ds).length=ps.length:=by rw [← r2.length]; exact F.len _ _ _ _ h
 refine wpAny_call (codeAny_mono (F.run X.A X.stack s H ⟨us,[]⟩ (us ++ ds) (vs ++ dvs) Q E hr I.env0 (hb s us I.kIn hl) r2 h) fun r s' hq=>?_)
 cases r with
 | error e=>exact hx pins σ H s e s' I hq
 | ok fl =>
  cases fl with
  | ret u=>exact I.after hq
  | next=>exact False.elim hq
  | brk=>exact False.elim hq
  | cont=>exact False.elim hq
theorem Zlo (F:FnOk X.prog X.w X.K X.mg X.base CX k f fd ps sp) (hr:Room k X.A) (hg:Gl X x) (hm:X.mg x=some (.ref f)) (hk:PySem.W.keepIn X.K (.ref f)=true) (hb:Xx X.K fd ps ds) (hd:Vals dvs ds) (hx:Jq CX X E)
  (ha:PA X (e :: es) t) (hdb:(x == ("__debug__":Str))=false:=by decide) (he:starEach (e :: es) X.env=(false,eval e X.env) :: starEach es X.env:=by rfl) (hpl:(backTo pos (starEach es X.env)).any (·.1)=false:=by rfl) :
  PE X (.Call (.Name x p) (e :: es) [] pos) (Zfe sp dvs E t):=by
 intro pins s σ H Q I h
 refine wpAny_Call_Name_kw (Vd I hg hm ?_ hdb)
 refine PySem.W.callWith_K (h₀:=X.base) I.ok.mod.kin hk (thn (ha pos pins s σ H _ I h) fun us s1 zz12=>?_) he hpl
 obtain ⟨vs,H1,I1,r,q⟩:=zz12
 refine ⟨I1.kIn,?_⟩
 exact Kr F hr hb hd hx I1 r q
theorem Wv {pl:Sem Bool} (he:PE X o ta) (c:Cls X.K C) (hm:Meth X.K C m f) (F:FnOk X.prog X.w X.K X.mg X.base CX k f fd ps sp) (hr:Room k X.A) (hb:Xx X.K fd ps ds) (hd:Vals dvs ds) (hx:Jq CX X E) (ha:PA X (e :: es) t)
  (hst:starEach (e :: es) X.env=(false,eval e X.env) :: starEach es X.env:=by rfl) (hpl:(backTo pos (starEach es X.env)).any (·.1)=false:=by rfl)
  (ht:eval (.Call (.Attribute o m apos) (e :: es) [] pos) X.env=(do
   let ov ← eval o X.env
   standAt apos.atName
   let (f,first) ← holding [ov] (getMethod ov m pl)
   callWith pos f first (backTo pos (starEach (e :: es) X.env)) (backToKw pos (keywordEach [] X.env))):=by rfl) :
  PE X (.Call (.Attribute o m apos) (e :: es) [] pos) (Zkg C m sp dvs E ta t):=by
 intro pins s σ H Q I h
 refine PySem.W.methodCall_KW (pl:=pl) (thn (he pins s σ H _ I h) fun u s1 zz13=>?_) ht
 obtain ⟨x,H1,I1,rx,a,dx,fs,ex,ea,l,q⟩:=zz13
 subst ex
 obtain rfl:u=Value.ref a:=rx
 refine Vx I1 ea c hm l ?_
 refine PySem.W.callWith_K (first:=[.ref a]) (h₀:=X.base) I.ok.mod.kin hm.kp (thn (ha pos pins s1 σ H1 _ I1 q) fun us s2 zz14=>?_) hst hpl
 obtain ⟨vs,H2,I2,r,q2⟩:=zz14
 refine ⟨I2.kIn,?_⟩
 exact Kr (us:=.ref a :: us) (vs:=.ref a :: vs) F hr hb hd hx I2 (.cons rfl r) q2
theorem Qg {pl:Sem Bool} (he:PE X o ta) (c:Cls X.K C) (hm:Meth X.K C m f) (F:FnOk X.prog X.w X.K X.mg X.base CX k f fd ps sp) (hr:Room k X.A) (hb:Xx X.K fd ps ds) (hd:Vals dvs ds) (hx:Jq CX X E)
  (ht:eval (.Call (.Attribute o m apos) [] [] pos) X.env=(do
   let ov ← eval o X.env
   standAt apos.atName
   let (f,first) ← holding [ov] (getMethod ov m pl)
   callWith pos f first (backTo pos (starEach [] X.env)) (backToKw pos (keywordEach [] X.env))):=by rfl) :
  PE X (.Call (.Attribute o m apos) [] [] pos) (Zkg C m sp dvs E ta tNil):=by
 intro pins s σ H Q I h
 refine PySem.W.methodCall_KW (pl:=pl) (thn (he pins s σ H _ I h) fun u s1 zz15=>?_) ht
 obtain ⟨x,H1,I1,rx,a,dx,fs,ex,ea,l,q⟩:=zz15
 subst ex
 obtain rfl:u=Value.ref a:=rx
 refine Vx I1 ea c hm l ?_
 exact PySem.W.callWith_K0 (first:=[.ref a]) I1.kIn hm.kp (Kr (us:=[.ref a]) (vs:=[.ref a]) F hr hb hd hx I1 (.cons rfl .nil) q)
structure Mk (K:PySem.W.Frag) (C f:Addr):Prop where
 makes:PySem.W.makesIn K C=true
 init:PySem.W.findIn K (.ref C) "__init__"=some (some (.ref f))
 fn:PySem.W.isFn K (.ref f)=true
 kp:PySem.W.keepIn K (.ref C)=true
theorem Zi9 {pins:List (Addr × Obj)} {σ:St} {H:Hp} {s:Shared} {Q:VK} {us:List Value} {vs:List V} (M:Mk X.K C f) (F:FnOk X.prog X.w X.K X.mg X.base CX k f fd ps sp) (hr:Room (k + 1) X.A) (hb:Xx X.K fd ps ds) (hd:Vals dvs ds)
  (hx:Jq CX X E) (I:Inv X pins σ H s) (r:Vals vs us)
  (h:∀ x dx,H x=none→H dx=none→dx≠x→sp (.ref x :: (vs ++ dvs)) (upd (upd H dx (.own x)) x (.ins C dx [])) (fun v H2=>v=.non∧Q (.ref x) H2) E) :
  wpAny (model X.prog X.w) X.A (call (.ref C) us) (EP X pins σ Q) X.xe s:=by
 have hq:=h (s.heap.objs.size + 1) s.heap.objs.size (I.hok.fresh (Nat.le_succ _)) (I.hok.fresh (Nat.le_refl _)) (Nat.ne_of_lt (Nat.lt_succ_self _))
 have I2:=Inv.made (C:=C) I
 have r2:Vals (V.ref (s.heap.objs.size + 1) :: (vs ++ dvs)) (Value.ref (s.heap.objs.size + 1) :: (us ++ ds)):=.cons rfl (r.append hd)
 have hl:(Value.ref (s.heap.objs.size + 1) :: us ++ ds).length=ps.length:=by
  have e:=r2.length
  rw [F.len _ _ _ _ hq] at e
  exact e.symm
 refine wpAny_call (Zjv (f:=f) I.kIn M.makes M.init (beq_iff_eq.mp M.fn) (codeAny_mono (F.run _ X.stack _ _ ⟨Value.ref (s.heap.objs.size + 1) :: us,[]⟩ (Value.ref (s.heap.objs.size + 1) :: (us ++ ds)) _ _ E (hr.make C us [])
  (I2.env0.make C us []) (hb _ (Value.ref (s.heap.objs.size + 1) :: us) I2.kIn hl) r2 hq) fun r s' hq'=>?_))
 cases r with
 | error e=>exact hx pins σ _ _ e s' I2 hq'
 | ok fl =>
  cases fl with
  | ret u =>
   obtain ⟨v,H',I3,rv,ev,q3⟩:=I2.after hq'
   subst ev
   exact ⟨rv,⟨V.ref (s.heap.objs.size + 1),H',I3,rfl,q3⟩⟩
  | next=>exact False.elim hq'
  | brk=>exact False.elim hq'
  | cont=>exact False.elim hq'
theorem Zeg (M:Mk X.K C f) (F:FnOk X.prog X.w X.K X.mg X.base CX k f fd ps sp) (hr:Room (k + 1) X.A) (hg:Gl X x) (hm:X.mg x=some (.ref C)) (hb:Xx X.K fd ps ds) (hd:Vals dvs ds) (hx:Jq CX X E)
  (ha:PA X (e :: es) t) (hdb:(x == ("__debug__":Str))=false:=by decide) (he:starEach (e :: es) X.env=(false,eval e X.env) :: starEach es X.env:=by rfl) (hpl:(backTo pos (starEach es X.env)).any (·.1)=false:=by rfl) :
  PE X (.Call (.Name x p) (e :: es) [] pos) (Zno C sp dvs E t):=by
 intro pins s σ H Q I h
 refine wpAny_Call_Name_kw (Vd I hg hm ?_ hdb)
 refine PySem.W.callWith_K (h₀:=X.base) I.ok.mod.kin M.kp (thn (ha pos pins s σ H _ I h) fun us s1 zz16=>?_) he hpl
 obtain ⟨vs,H1,I1,r,q⟩:=zz16
 refine ⟨I1.kIn,?_⟩
 exact Zi9 M F hr hb hd hx I1 r q
end
structure FnScope (N P:List Str) (sc:Scope):Prop where
 kind:sc.kind=.function
 co:sc.isCoroutine=false
 gen:sc.isGenerator=false
 nd:N.Nodup
 pre:N.take P.length=P
 par:∀ x∈P,sc.names.lookup x=some .local∨sc.names.lookup x=some .cell
 nofree:∀ y∈sc.names,y.2≠.free
theorem Fu {kindOf:Str→Option NameKind} {x:Str}:∀ {binds:List (Str × Value)} {m:Str→Option Value},(∀ v,(x,v) ∉ binds)→bindL kindOf binds m x=m x
 | [],_,_=>rfl
 | (n,v) :: r,m,h=>by
  unfold bindL
  rw [Fu fun w hw=>h w (List.mem_cons_of_mem _ hw)]
  split
  ·have:x≠n:=by rintro rfl; exact h v List.mem_cons_self
   simp [this]
  ·rfl
theorem Fw {kindOf:Str→Option NameKind} {x:Str}:∀ {binds:List (Str × Value)} {m:Str→Option Value},(∀ v,(x,v) ∉ binds)→bindC kindOf binds m x=m x
 | [],_,_=>rfl
 | (n,v) :: r,m,h=>by
  unfold bindC
  rw [Fw fun w hw=>h w (List.mem_cons_of_mem _ hw)]
  split
  ·rfl
  ·have:x≠n:=by rintro rfl; exact h v List.mem_cons_self
   simp [this]
theorem Fv {kindOf:Str→Option NameKind} {x:Str} {v:Value}:∀ {P:List Str} {vs:List Value} {i:Nat} {m:Str→Option Value},P.Nodup→P[i]?=some x→vs[i]?=some v→kindOf x=some .local →
  bindL kindOf (P.zip vs) m x=some v
 | [],_,_,_,_,h,_,_=>by simp at h
 | _ :: _,[],_,_,_,_,h,_=>by simp at h
 | p :: P,w :: vs,0,m,nd,h1,h2,hk=>by
  simp at h1 h2; subst h1; subst h2
  show bindL kindOf ((p,w) :: P.zip vs) m p=_
  unfold bindL
  rw [Fu fun v hv=>(List.nodup_cons.mp nd).1 (List.of_mem_zip hv).1,if_pos hk]
  simp
 | p :: P,w :: vs,i + 1,m,nd,h1,h2,hk=>by
  show bindL kindOf ((p,w) :: P.zip vs) m x=_
  unfold bindL
  exact Fv (i:=i) (List.nodup_cons.mp nd).2 (by simpa using h1) (by simpa using h2) hk
theorem Fx {kindOf:Str→Option NameKind} {x:Str} {v:Value}:∀ {P:List Str} {vs:List Value} {i:Nat} {m:Str→Option Value},P.Nodup→P[i]?=some x→vs[i]?=some v→kindOf x≠some .local →
  bindC kindOf (P.zip vs) m x=some v
 | [],_,_,_,_,h,_,_=>by simp at h
 | _ :: _,[],_,_,_,_,h,_=>by simp at h
 | p :: P,w :: vs,0,m,nd,h1,h2,hk=>by
  simp at h1 h2; subst h1; subst h2
  show bindC kindOf ((p,w) :: P.zip vs) m p=_
  unfold bindC
  rw [Fw fun v hv=>(List.nodup_cons.mp nd).1 (List.of_mem_zip hv).1,if_neg hk]
  simp
 | p :: P,w :: vs,i + 1,m,nd,h1,h2,hk=>by
  show bindC kindOf ((p,w) :: P.zip vs) m x=_
  unfold bindC
  exact Fx (i:=i) (List.nodup_cons.mp nd).2 (by simpa using h1) (by simpa using h2) hk
noncomputable def start (N:List Str) (vs:List V):St:=vs.map some ++ List.replicate (N.length - vs.length) none
noncomputable def cxOf (CX:CXT) (P:Program) (w:World) (K:PySem.W.Frag) (mg:Str→Option Value) (base:Heap) (N:List Str) (qual:Str) (scope:Scope) (f:Addr) (cd:Value) (A:Around) (outer:List Env) (s:Shared) (H:Hp) (E:XK):Cx where
 prog:=P
 w:=w
 K:=K
 mg:=mg
 base:=base
 A:=A.deeper (envOfC qual scope s.heap.objs.size f cd)
 N:=N
 s₀:=s
 H₀:=H
 env:=envOfC qual scope s.heap.objs.size f cd
 outer:=outer
 stack:=envOfC qual scope s.heap.objs.size f cd :: outer
 ex:=[]
 calm:=true
 fn:=fun _=>true
 pn:=[]
 xe:=fun e s'=>wpAny (model P w) (A.deeper (envOfC qual scope s.heap.objs.size f cd)) (leaving (envOfC qual scope s.heap.objs.size f cd) e) (fun _ s''=>CX outer H s E e s'') (fun e' s''=>CX outer H s E e' s'') s'
theorem Zcu {sc:Scope} {n:Nat} {x:Str} (h:sc.names.lookup x=some .cell):∃ c,(cellsFrom n sc.names []).lookup x=some c:=by
 have q:=PySem.W.cellsFrom_some sc.names n [] (.inl h)
 exact Option.isSome_iff_exists.mp q
theorem Fh {CX:CXT} {P:Program} {w:World} {K:PySem.W.Frag} {mg:Str→Option Value} {base:Heap} {N ps:List Str} {qual:Str} {scope:Scope} {f:Addr} {cd:Value} {A:Around} {outer:List Env} {s s1:Shared} {H:Hp} {E:XK} {us:List Value} {vs:List V}
  (S:FnScope N ps scope) (hd:A.handled=none) (e0:Env0 P w K mg base A outer s H) (hl:vs.length=ps.length) (r:Vals vs us)
  (x:InCallC s s.heap.objs.size (bindL (envOfC qual scope s.heap.objs.size f cd).kindOf (ps.zip us) fun _=>none) (cellsFrom (s.heap.objs.size + 1) scope.names []) (bindC (envOfC qual scope s.heap.objs.size f cd).kindOf (ps.zip us) fun _=>none) s1) :
  Inv (cxOf CX P w K mg base N qual scope f cd A outer s H E) [] (start N vs) H s1:=by
 have hpl:ps.length≤N.length:=by have:=congrArg List.length S.pre; rw [List.length_take] at this; omega
 obtain ⟨h1,tk,rfl,hk⟩:=x.done
 have noA:∀ b:Addr,b ∉ (cxOf CX P w K mg base N qual scope f cd A outer s H E).ex:=fun b z=>absurd (show b∈([]:List Addr) from z) (by simp)
 refine ⟨⟨e0.mod,S.kind,rfl,rfl,Nat.le_refl _,fun y z c h1 h2=>?_,fun y hy=>?_,fun y c _ h=>?_,fun _=>hd,Around.frames_deeper e0.frames,.inr ⟨rfl,rfl⟩,fun b z=>absurd z (noA b),e0.bs,e0.bsz,fun b _ _=>noA b,fun b z=>absurd z (noA b),e0.funs,e0.frf⟩,
  rfl,e0.bare,Un.kept hk,⟨_,x.toInCall.ns,fun i y v h1 h2 h3=>?_⟩,fun y c h=>⟨_,x.cell y c h⟩,e0.hok.fresh (Nat.le_refl _),fun y c h=>?_,fun p hp=>absurd (show p∈([]:List (Addr × Obj)) from hp) (by simp),e0.hok.kept hk,?_⟩
 ·exact name_of_addr x.apart (PySem.mem_of_lookup h1) (PySem.mem_of_lookup h2)
 ·have hy:scope.names.lookup y=some .cell∨scope.names.lookup y=some .free:=hy
  rcases hy with hy | hy
  ·exact Zcu hy
  ·exact absurd rfl (S.nofree _ (PySem.mem_of_lookup hy))
 ·exact Nat.le_of_lt (x.above y c (PySem.mem_of_lookup h))
 ·have hi:i < vs.length:=by
   unfold start at h2
   by_cases hi:i < vs.length
   ·exact hi
   ·rw [List.getElem?_append_right (by simpa using hi)] at h2
    rw [List.getElem?_replicate] at h2
    split at h2 <;> cases h2
  have ha:vs[i]?=some v:=by
   unfold start at h2
   rw [List.getElem?_append_left (by simpa using hi),List.getElem?_map] at h2
   cases e:vs[i]? with
   | none=>rw [e] at h2; cases h2
   | some a=>rw [e] at h2; cases h2; rfl
  obtain ⟨u,hu,rv⟩:=r.get ha
  have hp:ps[i]?=some y:=by
   rw [← S.pre,List.getElem?_take_of_lt (by omega)]; exact h1
  have ndP:ps.Nodup:=by rw [← S.pre]; exact S.nd.sublist (List.take_sublist _ _)
  refine ⟨u,rv,?_⟩
  rcases S.par y (List.mem_of_getElem? hp) with k | k
  ·exact .inl ⟨k,Fv ndP hp hu k⟩
  ·obtain ⟨c,e⟩:=Zcu (n:=s.heap.objs.size + 1) k
   refine .inr ⟨.inl k,c,e,?_⟩
   have q:=x.cell y c e
   rw [Fx ndP hp hu (by show scope.names.lookup y≠_; rw [k]; decide)] at q
   exact q
 ·exact e0.hok.fresh (Nat.le_of_lt (x.above y c (PySem.mem_of_lookup h)))
 ·unfold start
  show _=N.length
  rw [List.length_append,List.length_map,List.length_replicate]
  omega
theorem Zah {CX:CXT} {P:Program} {w:World} {K:PySem.W.Frag} {mg:Str→Option Value} {base:Heap} {k:Nat} {f:Addr} {name qual:Str} {params:Arguments} {body:List Stmt} {scope:Scope} {dV kV doc pm cdv ct oc:Value} {an od:Option Addr}
  {osl:Array (Option Value)} {N ps:List Str} {sp:Sp} (lk:K.lookup f=some ⟨oc,od,.func (PySem.W.fnOf name qual params body scope dV kV doc pm an cdv ct),osl⟩) (hcd:PySem.W.codeIn K cdv qual=true) (S:FnScope N ps scope)
  (len:∀ vs H Q E,sp vs H Q E→vs.length=ps.length)
  (hbody:∀ (A:Around) (outer:List Env) (s:Shared) (H:Hp) (vs:List V) (Q:VK) (E:XK),Room k (A.deeper (envOfC qual scope s.heap.objs.size f cdv))→sp vs H Q E →
   ∃ t,PSs (cxOf CX P w K mg base N qual scope f cdv A outer s H E) body t∧t { nx:=fun _ H'=>Q .non H',rt:=Q } (start N vs) H) :
  FnOk P w K mg base CX (k + 1) f (PySem.W.fnOf name qual params body scope dV kV doc pm an cdv ct) ps sp:=by
 refine ⟨len,fun A outer s H args us vs Q E hr e0 hb r hsp=>?_⟩
 have hl:=len _ _ _ _ hsp
 have KX:K.In s.heap:=e0.mod.kin.keeps fun b o e=>(e0.bs b o e).1
 have lim:s.heap.NoLimit:=e0.mod.nolimit.keeps fun b o e=>(e0.bs b o e).1
 have hkind:∀ y∈ps.zip us,scope.names.lookup y.1=some .local∨(scope.names.lookup y.1=some .cell∧((cellsFrom (s.heap.objs.size + 1) scope.names []).lookup y.1).isSome=true):=fun ⟨n,v⟩ hy=>by
  rcases S.par n (List.of_mem_zip hy).1 with q | q
  ·exact .inl q
  ·exact .inr ⟨q,PySem.W.cellsFrom_some _ _ _ (.inl q)⟩
 refine codeAny_call_function hr.depth (KX _ _ lk) rfl S.co S.gen rfl (PySem.W.codeRec_of KX hcd) (hb _ _ _ _ ?_)
 refine wpAny_newFunctionEnv_cells S.kind hkind fun env he s1 x=>?_
 subst he
 refine ⟨lim.keeps x.toInCall.keep,codeAny_func ?_⟩
 obtain ⟨t,ht,hq⟩:=hbody A outer s H vs Q E (hr.deeper _) hsp
 have I:Inv (cxOf CX P w K mg base N qual scope f cdv A outer s H E) [] (start N vs) H s1:=Fh S hr.hd e0 hl r x
 refine wpAny_mono (ht [] s1 (start N vs) H _ I hq) (fun fl s' hs=>?_) fun e s' hs=>hs
 have fin:∀ {σ':St} {H':Hp} {v:V} {u:Value},Inv (cxOf CX P w K mg base N qual scope f cdv A outer s H E) [] σ' H' s'→RelV v u→Q v H'→CE outer P w H s Q u s' :=
  fun {σ' H' v u} J rv q=>⟨v,H',J.os,J.bare,J.base,J.hok,rv,q⟩
 cases fl with
 | ret u =>
  obtain ⟨v,σ',H',J,rv,q⟩:=hs
  exact fin J rv q
 | next =>
  obtain ⟨σ',H',J,q⟩:=hs
  exact fin (v:=V.non) (u:=Value.none) J rfl q
 | brk =>
  obtain ⟨_,_,_,q⟩:=hs
  exact False.elim q
 | cont =>
  obtain ⟨_,_,_,q⟩:=hs
  exact False.elim q
end L2
namespace L2
open PySem PySem.Spec PyProof.Rows
section
variable {X:Cx} {x:Str} {p pos:Pos} {e:Expr} {es:List Expr} {t:TA} {id T:String} {r:List V→Hp→VK→Prop}
noncomputable def tCB (r:List V→Hp→VK→Prop) (t:TA):TE:=fun σ H Q=>t σ H fun vs H1=>r vs H1 Q
theorem Zl (hc:Y7 X (.builtin id) r) (hg:Gl X x) (hm:X.mg x=none) (hv:bootBuiltins x=some (.builtin id)) (ha:PA X (e :: es) t) (hn:x≠"__name__":=by decide) (hdb:(x == ("__debug__":Str))=false:=by decide)
  (he:starEach (e :: es) X.env=(false,eval e X.env) :: starEach es X.env:=by rfl) (hpl:(backTo pos (starEach es X.env)).any (·.1)=false:=by rfl):PE X (.Call (.Name x p) (e :: es) [] pos) (tCB r t):=by
 intro pins s σ H Q I h
 refine wpAny_Call_Name_kw (Wa I hg hm hv ?_ hn hdb)
 refine PyProof.Rows.callWith_builtin1 (thn (ha pos pins s σ H _ I h) fun us s1 zz17=>?_) he hpl
 obtain ⟨vs,H1,I1,r1,q1⟩:=zz17
 exact hc pins s1 σ H1 vs us Q I1 r1 q1
theorem X8 (hc:Y7 X (.type T) r) (hg:Gl X x) (hm:X.mg x=none) (hv:bootBuiltins x=some (.type T)) (ha:PA X (e :: es) t) (hn:x≠"__name__":=by decide) (hdb:(x == ("__debug__":Str))=false:=by decide)
  (he:starEach (e :: es) X.env=(false,eval e X.env) :: starEach es X.env:=by rfl) (hpl:(backTo pos (starEach es X.env)).any (·.1)=false:=by rfl):PE X (.Call (.Name x p) (e :: es) [] pos) (tCB r t):=by
 intro pins s σ H Q I h
 refine wpAny_Call_Name_kw (Wa I hg hm hv ?_ hn hdb)
 refine PyProof.Rows.callWith_type1 (thn (ha pos pins s σ H _ I h) fun us s1 zz18=>?_) he hpl
 obtain ⟨vs,H1,I1,r1,q1⟩:=zz18
 exact hc pins s1 σ H1 vs us Q I1 r1 q1
theorem Vs (hc:Y7 X (.type T) r) (hg:Gl X x) (hm:X.mg x=none) (hv:bootBuiltins x=some (.type T)) (hn:x≠"__name__":=by decide) (hdb:(x == ("__debug__":Str))=false:=by decide) :
  PE X (.Call (.Name x p) [] [] pos) (tCB r tNil):=by
 intro pins s σ H Q I h
 refine wpAny_Call_Name_kw (Wa I hg hm hv ?_ hn hdb)
 exact PyProof.Rows.callWith_type0 (hc pins s σ H [] [] Q I .nil h)
end
end L2
namespace HT
open PySem PyProof.Rows
section
variable {prog:Program} {w:World} {A:Around} {E:Value→Shared→Prop} {s:Shared}
noncomputable def sIx (n d:Nat):Option Int→Nat
 | none=>d
 | some v=>if v < 0 then (v + (n:Int)).toNat else min v.toNat n
theorem sIx_nat (n d k:Nat):sIx n d (some (k:Int))=min k n:=by
 show (if (k:Int) < 0 then ((k:Int) + (n:Int)).toNat else min (k:Int).toNat n)=min k n
 rw [if_neg (by omega),Int.toNat_natCast]
end
end HT
namespace L2
open PySem PySem.Spec PyProof.Rows
noncomputable abbrev TO:=St→Hp→(Option Int→Hp→Prop)→Prop
noncomputable def PO (X:Cx) (e:Option Expr) (t:TO):Prop :=
 ∀ (pins:List (Addr × Obj)) (s:Shared) (σ:St) (H:Hp) (Q:Option Int→Hp→Prop),Inv X pins σ H s→t σ H Q →
  wpAny (model X.prog X.w) X.A (evalPart e X.env) (fun u s'=>∃ o H',Inv X pins σ H' s'∧IsPart u o∧Q o H') X.xe s
noncomputable def Znm (t:TE):TO:=fun σ H Q=>t σ H fun x H1=>∃ i,x=.int i∧Q (some i) H1
theorem Zf3 {ns:List Int}:∀ {us:List Value},Vals (ns.map V.int) us→IntsAre us ns:=by
 induction ns with
 | nil=>intro us r; rw [List.map_nil] at r; cases r; exact .nil
 | cons n ns ih =>
  intro us r
  rw [List.map_cons] at r
  cases r with
  | cons r1 r2 =>
   obtain ⟨t,e⟩:=r1
   subst e
   exact .cons n t (ih r2)
section
variable {X:Cx} {e:Expr} {te:TE} {lo hi:Option Expr} {tl th:TO} {pos p2:Pos}
theorem Zeb (h:PE X e te):PO X (some e) (Znm te):=by
 intro pins s σ H Q I hw
 rw [evalPart_some]
 refine thn (h pins s σ H _ I hw) fun u s1 zz9=>?_
 obtain ⟨x,H1,I1,r1,q1⟩:=zz9
 obtain ⟨i,rfl,q⟩:=q1
 obtain ⟨t,rfl⟩:=r1
 exact ⟨some i,H1,I1,.int i t,q⟩
noncomputable def SlR (X:Cx) (r:V→Option Int→Option Int→Hp→VK→Prop):Prop :=
 ∀ (pins:List (Addr × Obj)) (s:Shared) (σ:St) (H:Hp) (x:V) (v vl vu:Value) (lo hi:Option Int) (sl:Addr) (Q:VK),Inv X pins σ H s→RelV x v→s.heap.IsSliceOf sl vl vu .none→IsPart vl lo→IsPart vu hi→r x lo hi H Q →
  ∃ T id,typeLookup (.type T) "__getitem__"=pure (some (.builtin id))∧s.TypeIs v T∧wpAny (model X.prog X.w) X.A (getItem v (.ref sl)) (EP X pins σ Q) X.xe s
noncomputable def tSl (r:V→Option Int→Option Int→Hp→VK→Prop) (te:TE) (tl th:TO):TE:=fun σ H Q=>te σ H fun x H1=>tl σ H1 fun l H2=>th σ H2 fun u H3=>r x l u H3 Q
theorem Zjg {r:V→Option Int→Option Int→Hp→VK→Prop} (hr:SlR X r) (he:PE X e te) (hl:PO X lo tl) (hu:PO X hi th):PE X (.Subscript e (.Slice lo hi none p2) pos) (tSl r te tl th):=by
 intro pins s σ H Q I h
 refine Subscript_ (thn (he pins s σ H _ I h) fun v s1 zz9=>?_)
 obtain ⟨x,H1,I1,r1,q1⟩:=zz9
 refine wpAny_Slice (thn (hl pins s1 σ H1 _ I1 q1) fun vl s2 zz19=>?_)
 obtain ⟨l,H2,I2,pl,q2⟩:=zz19
 refine thn (hu pins s2 σ H2 _ I2 q2) fun vu s3 zz9=>?_
 obtain ⟨u,H3,I3,pu,q3⟩:=zz9
 rw [evalPart_none]
 refine wpAny_pure ?_
 have I4:Inv X pins σ H3 { s3 with heap:=s3.heap.push { cls:=.type "slice",data:=.fields #[vl,vu,.none] } }:=I3.kept (t':=s3.toks) fun b ob q=>Heap.get?_push_of_some _ q
 obtain ⟨T,id,hT,ht,hg⟩:=hr pins { s3 with heap:=s3.heap.push { cls:=.type "slice",data:=.fields #[vl,vu,.none] } } σ H3 x v vl vu l u s3.heap.objs.size Q I4 r1 (Heap.IsSliceOf.new ..) pl pu q3
 show wpAny (model X.prog X.w) X.A (subscriptTail e (.Slice lo hi none p2) v (.ref s3.heap.objs.size)) (EP X pins σ Q) X.xe { s3 with heap:=s3.heap.push { cls:=.type "slice",data:=.fields #[vl,vu,.none] } }
 exact tail_any (ops:=[.ref s3.heap.objs.size,v]) ht hT hg (by with_unfolding_all rfl)
noncomputable def cutV (xs:List V) (lo hi:Option Int):List V:=(xs.drop (HT.sIx xs.length 0 lo)).take (HT.sIx xs.length xs.length hi - HT.sIx xs.length 0 lo)
theorem Zdt (xs:List V) (lo hi:Option Int):(cutV xs lo hi).length≤xs.length:=by
 unfold cutV
 rw [List.length_take,List.length_drop]
 omega
end
end L2
namespace L2
open PySem PySem.Spec PyProof.Rows
noncomputable def ixN (n:Nat) (i:Int):Option Nat:=if 0≤i then (if i < n then some i.toNat else none) else if -(n:Int)≤i then some (i + n).toNat else none
noncomputable def atI {α:Type} (xs:List α) (i:Int):Option α:=(ixN xs.length i).bind fun j=>xs[j]?
theorem Zer {n:Nat} {i:Int} {j:Nat} (h:ixN n i=some j):seqIndex? i n=some j∧j < n∧-(n:Int)≤i∧i < n:=by
 unfold ixN at h
 by_cases h0:0≤i
 ·rw [if_pos h0] at h
  by_cases h1:i < n
  ·rw [if_pos h1] at h
   have e:i.toNat=j:=Option.some.inj h
   exact ⟨by rw [seqIndex_of h0 h1,e],by omega,by omega,h1⟩
  ·rw [if_neg h1] at h; cases h
 ·rw [if_neg h0] at h
  by_cases h1:-(n:Int)≤i
  ·rw [if_pos h1] at h
   have e:(i + n).toNat=j:=Option.some.inj h
   exact ⟨by rw [seqIndex_neg (by omega) h1,e],by omega,h1,by omega⟩
  ·rw [if_neg h1] at h; cases h
theorem Ze8 {α:Type} {xs:List α} {i:Int} {v:α} (h:atI xs i=some v):∃ j,seqIndex? i xs.length=some j∧xs[j]?=some v∧j < xs.length∧-(xs.length:Int)≤i∧i < xs.length:=by
 unfold atI at h
 cases e:ixN xs.length i with
 | none=>rw [e] at h; cases h
 | some j =>
  rw [e] at h
  obtain ⟨h1,h2,h3,h4⟩:=Zer e
  exact ⟨j,h1,h,h2,h3,h4⟩
theorem Xr {α:Type} {xs:List α} {j:Nat} {v:α} (h:xs[j]?=some v):atI xs (j:Int)=some v:=by
 have hj:j < xs.length:=(List.getElem?_eq_some_iff.mp h).1
 have e:ixN xs.length (j:Int)=some j:=by
  unfold ixN
  rw [if_pos (by omega),if_pos (by omega)]; simp
 unfold atI; rw [e]; exact h
noncomputable def Zmc (b:Expr):Prop:=∀ o i,subscripted b false o i=operate [o,i] (getItem o i)
noncomputable def IxR (X:Cx) (r:R2):Prop :=
 ∀ (value slice:Expr) (pins:List (Addr × Obj)) (s:Shared) (σ:St) (H:Hp) (x y:V) (v u:Value) (Q:VK),Inv X pins σ H s→RelV x v→RelV y u→r x y H Q →
  subscripted slice false v u=operate [v,u] (getItem v u)→wpAny (model X.prog X.w) X.A (subscriptTail value slice v u) (EP X pins σ Q) X.xe s
noncomputable def MtR (X:Cx) (id:String) (r:V→List V→Hp→VK→Prop):Prop :=
 ∀ (pins:List (Addr × Obj)) (s:Shared) (σ:St) (H:Hp) (x:V) (xs:List V) (v:Value) (us:List Value) (Q:VK),Inv X pins σ H s→RelV x v→Vals xs us→r x xs H Q →
  wpAny (model X.prog X.w) X.A (call (.builtin id) (v :: us)) (EP X pins σ Q) X.xe s
section
variable {X:Cx} {a b:Expr} {ta tb:TE} {pos:Pos}
theorem Zs {r:R2} (hr:IxR X r) (ha:PE X a ta) (hb:PE X b tb) (hs:Zmc b):PE X (.Subscript a b pos) (tOp r ta tb):=by
 intro pins s σ H Q I h
 exact Subscript_ (binT ha hb I h fun v u s2 x y H2 I2 rx ry q=>hr a b pins s2 σ H2 x y v u Q I2 rx ry q (hs _ _))
noncomputable def rIxL (K:PySem.W.Frag):R2:=fun x y H Q=>∃ p xs i v,x=.ref p∧y=.int i∧SqL K H p xs∧atI xs i=some v∧Q v H
noncomputable def rIxT (K:PySem.W.Frag):R2:=fun x y H Q=>∃ p xs i v,x=.ref p∧y=.int i∧SqT K H p xs∧atI xs i=some v∧Q v H
theorem Zt:IxR X (rIxL X.K):=by
 intro value slice pins s σ H x y v u Q I rx ry h hs
 obtain ⟨p,xs,i,z,rfl,rfl,hq,he,q⟩:=h
 cases rx
 obtain ⟨t,rfl⟩:=ry
 obtain ⟨its,r,pl,hz⟩:=I.list hq
 obtain ⟨j,h1,h2,h3,h4,h5⟩:=Ze8 he
 obtain ⟨w,ew,rw'⟩:=r.get h2
 have hl:=r.length
 have hn:=Ut
 have fin:EP X pins σ Q w s:=⟨z,H,I,rw',q⟩
 by_cases h0:0≤i
 ·have hj:i.toNat=j:=by
   rw [seqIndex_of h0 h5] at h1
   exact Option.some.inj h1
  exact item_listR pl.isList h0 (by omega) (by rw [hj]; simpa using ew) fin hs
 ·have hj:(i + (its.toArray.size:Int)).toNat=j:=by
   rw [seqIndex_neg (by omega) h4] at h1
   rw [List.size_toArray,← hl]
   exact Option.some.inj h1
  exact subscriptTail_builtinR (x:=w) pl.isList.typeIs slot_list_getitem.lookup
   (wpAny_getItem_list_neg (Q:=fun r s'=>r=w∧EP X pins σ Q r s') pl.isList (by omega) (by rw [List.size_toArray] <;> omega) (by omega) (by rw [hj]; simpa using ew) ⟨rfl,fin⟩) hs
theorem Uv:IxR X (rIxT X.K):=by
 intro value slice pins s σ H x y v u Q I rx ry h hs
 obtain ⟨p,xs,i,z,rfl,rfl,hq,he,q⟩:=h
 cases rx
 obtain ⟨t,rfl⟩:=ry
 obtain ⟨its,r,pl,hz⟩:=I.tuple hq
 obtain ⟨j,h1,h2,h3,h4,h5⟩:=Ze8 he
 obtain ⟨w,ew,rw'⟩:=r.get h2
 have hl:=r.length
 have hn:=Ut
 have fin:EP X pins σ Q w s:=⟨z,H,I,rw',q⟩
 exact subscriptTail_builtinR (x:=w) pl.typeIs slot_tuple_getitem.lookup
  (getItem_tuple (j:=j) (Q:=fun r s'=>r=w∧EP X pins σ Q r s') pl (by omega) (by omega) (by rw [List.size_toArray,← hl]; exact h1) (by simpa using ew) ⟨rfl,fin⟩) hs
theorem Zfz (its:List Value) (n j:Nat) (u:Value):Obj.mapSeq (·.setIfInBounds j u) { cls:=.type "list",data:=.seq its.toArray n }={ cls:=.type "list",data:=.seq (its.set j u).toArray n }:=by
 simp [Obj.mapSeq]
theorem Inv.lst {pins:List (Addr × Obj)} {σ:St} {H:Hp} {s:Shared} {p:Addr} {xs:List V} (I:Inv X pins σ H s) (h:H p=some (.lst xs)) :
  ∃ (its:List Value) (n:Nat),Vals xs its∧s.heap.get? p=some { cls:=.type "list",data:=.seq its.toArray n }∧xs.length≤sizeLine:=by
 obtain ⟨z,its,n,r,e⟩:=I.hok p _ h
 exact ⟨its,n,r,e,z⟩
theorem Inv.lstUpd {pins:List (Addr × Obj)} {σ:St} {H:Hp} {s:Shared} {p:Addr} {xs ys:List V} {its its':List Value} {n n':Nat} {f:Obj→Obj} (I:Inv X pins σ H s) (h:H p=some (.lst xs))
  (ho:s.heap.get? p=some { cls:=.type "list",data:=.seq its.toArray n }) (hf:f { cls:=.type "list",data:=.seq its.toArray n }={ cls:=.type "list",data:=.seq its'.toArray n' }) (r:Vals ys its') (hz:ys.length≤sizeLine) (t:Nat) :
  Inv X pins σ (upd H p (.lst ys)) { s with heap:=s.heap.update p f,toks:=t }:=by
 have e:(s.heap.update p f).get? p=some { cls:=.type "list",data:=.seq its'.toArray n' }:=by
  rw [Heap.get?_update_self f ho (by rw [hf] <;> rfl),hf]
 refine I.write (x:=p) (e:=p) (by rw [h]; trivial) (.inl rfl) (fun b u hb q=>(Heap.get?_update_other _ _ (Ne.symm hb)).trans q) ⟨_,e⟩ ?_
 exact ⟨hz,its',n',r,e⟩
noncomputable def Znw:V→V→V→Hp→(Hp→Prop)→Prop:=fun o i v H Q=>∃ p xs k j,o=.ref p∧i=.int k∧H p=some (.lst xs)∧ixN xs.length k=some j∧Q (upd H p (.lst (xs.set j v)))
theorem Xw:PSet X Znw:=by
 intro pins s σ H o i v ov iv u Q I ro ri rv h
 obtain ⟨p,xs,k,j,rfl,rfl,hp,hj,q⟩:=h
 cases ro
 obtain ⟨t,rfl⟩:=ri
 obtain ⟨its,n,r,ho,hz⟩:=I.lst hp
 obtain ⟨h1,h2,h3,h4⟩:=Zer hj
 have hl:=r.length
 have hn:=Ut
 have I':Inv X pins σ (upd H p (.lst (xs.set j v))) { s with heap:=s.heap.update p (Obj.mapSeq (·.setIfInBounds j u)) } :=
  I.lstUpd hp ho (Zfz its n j u) (r.set rv j) (by rw [List.length_set]; exact hz) s.toks
 by_cases h0:0≤k
 ·have hk:k.toNat=j:=by
   rw [seqIndex_of h0 h4] at h1
   exact Option.some.inj h1
  exact PySem.W.ki_setAt ho h0 (by omega) (by rw [List.size_toArray,← hl]; exact h4) (by rw [hk]; exact ⟨_,I',q⟩)
 ·have hk:(k + (its.toArray.size:Int)).toNat=j:=by
   rw [seqIndex_neg (by omega) h3] at h1
   rw [List.size_toArray,← hl]
   exact Option.some.inj h1
  exact PySem.W.ki_setBack ho (by omega) (by rw [List.size_toArray,← hl]; exact h3) (by omega) (by rw [hk]; exact ⟨_,I',q⟩)
theorem Za3 (lo hi:Option Int) (n:Nat):(sliceBounds lo hi none n).1=((HT.sIx n 0 lo:Nat):Int)∧(sliceBounds lo hi none n).2.1=((HT.sIx n n hi:Nat):Int)∧(sliceBounds lo hi none n).2.2=1:=by
 refine ⟨?_,?_,rfl⟩
 ·cases lo with
  | none=>simp [sliceBounds,HT.sIx]
  | some i =>
   simp only [sliceBounds,HT.sIx,Option.getD_none,show (1:Int) > 0 by decide,if_true]
   by_cases h:i < 0
   ·simp only [h,if_true] <;> omega
   ·simp only [h,if_false] <;> omega
 ·cases hi with
  | none=>simp [sliceBounds,HT.sIx]
  | some i =>
   simp only [sliceBounds,HT.sIx,Option.getD_none,show (1:Int) > 0 by decide,if_true]
   by_cases h:i < 0
   ·simp only [h,if_true] <;> omega
   ·simp only [h,if_false] <;> omega
theorem F1 (its:List Value) (lo hi:Option Int):slicePick its.toArray lo hi none=((its.drop (HT.sIx its.length 0 lo)).take (HT.sIx its.length its.length hi - HT.sIx its.length 0 lo)).toArray:=by
 obtain ⟨h1,h2,h3⟩:=Za3 lo hi its.toArray.size
 unfold slicePick
 rw [h1,h2,h3]
 simp only [sliceRange_one,pick_run,List.size_toArray] <;> rfl
noncomputable def rSlL (K:PySem.W.Frag):V→Option Int→Option Int→Hp→VK→Prop:=fun x lo hi H Q=>∃ a xs,x=.ref a∧SqL K H a xs∧∀ p,H p=none→Q (.ref p) (upd H p (.lst (cutV xs lo hi)))
theorem Zlb:SlR X (rSlL X.K):=by
 intro pins s σ H x v vl vu lo hi sl Q I rx hs pl pu h
 obtain ⟨a,xs,rfl,hx,q⟩:=h
 cases rx
 obtain ⟨its,r,ht,hz⟩:=I.list hx
 have hlen:=r.length
 refine ⟨"list",_,slot_list_getitem.lookup,ht.isList.typeIs,?_⟩
 refine wpAny_getItem_list_slice ht.isList hs pl pu .none (by simp) ?_ (by rw [List.size_toArray] <;> omega)
 rw [F1,← hlen]
 refine ⟨.ref s.heap.objs.size,_,I.laid (t':=s.toks) (o:=.lst (cutV xs lo hi)) (fun b ob q=>Heap.get?_push_of_some _ q) (Nat.le_refl _) ?_,rfl,q _ (I.hok.fresh (Nat.le_refl _))⟩
 exact ⟨Nat.le_trans (Zdt xs lo hi) hz,_,0,(r.drop (HT.sIx xs.length 0 lo)).take (HT.sIx xs.length xs.length hi - HT.sIx xs.length 0 lo),Heap.get?_push_size _ rfl⟩
noncomputable def J2:V→Bool
 | .non=>true
 | .bl _=>true
 | .int _=>true
 | .str _=>true
 | _=>false
noncomputable def eqV:V→V→Bool
 | .non,.non=>true
 | .bl a,.bl b=>a == b
 | .bl a,.int b=>(if a then 1 else 0) == b
 | .int a,.bl b=>a == (if b then 1 else 0)
 | .int a,.int b=>a == b
 | .str a,.str b=>a == b
 | _,_=>false
theorem Zng {A:Around} {s:Shared} {y x:V} {u v:Value} (ry:RelV y u) (rx:RelV x v) (fy:J2 y=true) (fx:J2 x=true):SeqAt.EqAt A s u v (eqV y x):=by
 cases y with
 | non =>
  cases ry
  cases x with
  | non=>cases rx; exact SeqAt.EqAt.same _
  | bl b=>cases rx; exact SeqAt.EqAt.none_bool b
  | int b=>obtain ⟨t,rfl⟩:=rx; exact SeqAt.EqAt.none_int b t
  | str b=>obtain ⟨t,rfl⟩:=rx; exact SeqAt.EqAt.none_str b t
  | _=>exact absurd (show false=true from fx) Bool.false_ne_true
 | bl a =>
  cases ry
  cases x with
  | non=>cases rx; exact SeqAt.EqAt.bool_none a
  | bl b=>cases rx; exact SeqAt.EqAt.bool_bool a b
  | int b=>obtain ⟨t,rfl⟩:=rx; exact SeqAt.EqAt.bool_int a b t
  | str b=>obtain ⟨t,rfl⟩:=rx; exact SeqAt.EqAt.bool_str a b t
  | _=>exact absurd (show false=true from fx) Bool.false_ne_true
 | int a =>
  obtain ⟨t',rfl⟩:=ry
  cases x with
  | non=>cases rx; exact SeqAt.EqAt.int_none a t'
  | bl b=>cases rx; exact SeqAt.EqAt.int_bool a t' b
  | int b=>obtain ⟨t,rfl⟩:=rx; exact SeqAt.EqAt.int_int a t' b t
  | str b=>obtain ⟨t,rfl⟩:=rx; exact SeqAt.EqAt.int_str a t' b t
  | _=>exact absurd (show false=true from fx) Bool.false_ne_true
 | str a =>
  obtain ⟨t',rfl⟩:=ry
  cases x with
  | non=>cases rx; exact SeqAt.EqAt.str_none a t'
  | bl b=>cases rx; exact SeqAt.EqAt.str_bool a t' b
  | int b=>obtain ⟨t,rfl⟩:=rx; exact SeqAt.EqAt.str_int a t' b t
  | str b=>obtain ⟨t,rfl⟩:=rx; exact SeqAt.EqAt.str_str a t' b t
  | _=>exact absurd (show false=true from fx) Bool.false_ne_true
 | _=>exact absurd (show false=true from fy) Bool.false_ne_true
noncomputable def eqU (x:V) (u:Value):Bool:=match u with
 | .none=>eqV .non x
 | .bool b=>eqV (.bl b) x
 | .int i _=>eqV (.int i) x
 | .str z _=>eqV (.str z) x
 | _=>false
theorem Zif {x y:V} {u:Value} (r:RelV y u) (f:J2 y=true):eqU x u=eqV y x:=by
 cases y with
 | non=>cases r; rfl
 | bl b=>cases r; rfl
 | int i=>obtain ⟨t,rfl⟩:=r; rfl
 | str z=>obtain ⟨t,rfl⟩:=r; rfl
 | _=>exact absurd (show false=true from f) Bool.false_ne_true
theorem Gu {x:V}:∀ {xs:List V} {us:List Value},Vals xs us→xs.all J2=true→us.any (eqU x)=xs.any fun y=>eqV y x
 | _,_,.nil,_=>rfl
 | y :: xs,u :: us,.cons r t,f=>by
  rw [List.all_cons,Bool.and_eq_true] at f
  rw [List.any_cons,List.any_cons,Zif r f.1,Gu t f.2]
theorem O0 {A:Around} {s:Shared} {x:V} {v:Value} (rx:RelV x v) (fx:J2 x=true):∀ {xs:List V} {us:List Value},Vals xs us→xs.all J2=true→∀ u∈us,SeqAt.EqAt A s u v (eqU x u)
 | _,_,.nil,_=>fun u hu=>by cases hu
 | y :: xs,u :: us,.cons r t,f=>fun u' hu=>by
  rw [List.all_cons,Bool.and_eq_true] at f
  rcases List.mem_cons.mp hu with rfl | hu
  ·rw [Zif r f.1]; exact Zng r rx f.1 fx
  ·exact O0 rx fx t f.2 u' hu
noncomputable def inV (x:V) (xs:List V):Bool:=xs.any fun y=>eqV y x
noncomputable def rIn (K:PySem.W.Frag) (neg:Bool):R2:=fun x y H Q=>∃ p xs,y=.ref p∧(SqL K H p xs∨SqT K H p xs)∧J2 x=true∧xs.all J2=true∧Q (.bl (if neg then !inV x xs else inV x xs)) H
theorem Zhi:OpR X (compareOp .In) (rIn X.K false):=by
 intro pins s σ H x y v u Q I rx ry h
 obtain ⟨p,xs,rfl,hq,fx,fs,q⟩:=h
 cases ry
 rcases hq with hq | hq
 ·obtain ⟨its,r,pl,hz⟩:=I.list hq
  refine SeqAt.in_listAt (eqU x) pl.isList (fun w hw=>O0 rx fx r fs w (by simpa using hw)) ⟨.bl _,H,I,rfl,?_⟩
  rw [show its.toArray.any (eqU x)=its.any (eqU x) by simp,Gu r fs]
  exact q
 ·obtain ⟨its,r,pl,hz⟩:=I.tuple hq
  refine SeqAt.in_tupleAt (eqU x) pl (fun w hw=>O0 rx fx r fs w (by simpa using hw)) ⟨.bl _,H,I,rfl,?_⟩
  rw [show its.toArray.any (eqU x)=its.any (eqU x) by simp,Gu r fs]
  exact q
theorem Zk:Y7 X (.builtin "len") (fun xs H Q=>∃ p ys,xs=[.ref p]∧(SqL X.K H p ys∨SqT X.K H p ys)∧Q (.int ys.length) H):=by
 intro pins s σ H xs us Q I r h
 obtain ⟨p,ys,rfl,hq,q⟩:=h
 obtain ⟨u,rfl,rx⟩:=Wd r
 cases rx
 have hn:=Ut
 rcases hq with hq | hq
 ·obtain ⟨its,r',pl,hz⟩:=I.list hq
  have hlen:=r'.length
  exact Calls.call_len_list pl.isList (by simp only [List.size_toArray] <;> omega) ⟨.int ys.length,H,I.tok _,⟨s.toks + 1,by rw [List.size_toArray,hlen]⟩,q⟩
 ·obtain ⟨its,r',pl,hz⟩:=I.tuple hq
  have hlen:=r'.length
  exact len_tuple pl (by simp only [List.size_toArray] <;> omega) ⟨.int ys.length,H,I.tok _,⟨s.toks + 1,by rw [List.size_toArray,hlen]⟩,q⟩
theorem W7:Y7 X (.type "list") (fun xs H Q=>∃ p ys,xs=[.ref p]∧(SqL X.K H p ys∨SqT X.K H p ys)∧∀ l,H l=none→Q (.ref l) (upd H l (.lst ys))):=by
 intro pins s σ H xs us Q I r h
 obtain ⟨p,ys,rfl,hq,q⟩:=h
 obtain ⟨u,rfl,rx⟩:=Wd r
 cases rx
 have fin:∀ (its:List Value),Vals ys its→ys.length≤sizeLine→∀ (h':Heap) (c':Nat),(∀ b o',s.heap.get? b=some o'→h'.get? b=some o') →
   h'.get? s.heap.objs.size=some { cls:=.type "list",dict:=none,data:=.seq its.toArray c',slots:=#[] }→EP X pins σ Q (.ref s.heap.objs.size) { s with heap:=h' }:=fun its r' hz h' c' kp e =>
  ⟨.ref s.heap.objs.size,_,I.laid (t':=s.toks) kp (Nat.le_refl _) (show Zx X.prog X.w _ h' _ (.lst ys) from ⟨hz,its,c',r',e⟩),rfl,q _ (I.hok.fresh (Nat.le_refl _))⟩
 rcases hq with hq | hq
 ·obtain ⟨its,r',pl,hz⟩:=I.list hq
  have hlen:=r'.length
  obtain ⟨o,ho,hc,n,hd⟩:=pl.isList
  exact call_list_seq p (.inl rfl) ho hc hd (fun h' c' kp e=>fin its r' hz h' c' kp e) (by simp only [List.size_toArray] <;> omega)
 ·obtain ⟨its,r',pl,hz⟩:=I.tuple hq
  have hlen:=r'.length
  obtain ⟨o,ho,hc,n,hd⟩:=pl
  exact call_list_seq p (.inr rfl) ho hc hd (fun h' c' kp e=>fin its r' hz h' c' kp e) (by simp only [List.size_toArray] <;> omega)
theorem Zab:Y7 X (.type "tuple") (fun xs H Q=>∃ p ys,xs=[.ref p]∧((SqL X.K H p ys∧∀ l,H l=none→Q (.ref l) (upd H l (.tup ys)))∨(SqT X.K H p ys∧Q (.ref p) H))):=by
 intro pins s σ H xs us Q I r h
 obtain ⟨p,ys,rfl,h⟩:=h
 obtain ⟨u,rfl,rx⟩:=Wd r
 cases rx
 rcases h with ⟨hq,q⟩ | ⟨hq,q⟩
 ·obtain ⟨its,r',pl,hz⟩:=I.list hq
  have hlen:=r'.length
  refine call_tuple_list pl.isList (fun h' kp=>?_) (by simp only [List.size_toArray] <;> omega)
  have I1:Inv X pins σ H { s with heap:=h' }:=I.kept (t':=s.toks) kp
  have I2:Inv X pins σ (upd H h'.objs.size (.tup ys)) { s with heap:=h'.push { cls:=.type "tuple",data:=.seq its.toArray } } :=
   I1.laid (t':=s.toks) (fun b o e=>Heap.get?_push_of_some _ e) (Nat.le_refl _) (show Zx X.prog X.w _ _ _ (.tup ys) from ⟨hz,its,r',IsTup.new _ _⟩)
  exact ⟨.ref h'.objs.size,_,I2,rfl,q _ (I1.hok.fresh (Nat.le_refl _))⟩
 ·obtain ⟨its,r',pl,hz⟩:=I.tuple hq
  exact call_tuple_same pl ⟨.ref p,H,I,rfl,q⟩
noncomputable def tyV (K:PySem.W.Frag) (T:String) (x:V) (H:Hp):Prop:=match x with
 | .str _=>T="str"
 | .int _=>T="int"
 | .ref p=>(T="list"∧∃ xs,SqL K H p xs)∨(T="tuple"∧∃ o,K.lookup p=some o∧o.cls=.type "tuple"∧o.dict=none) ∨
   (T="dict"∧((∃ kvs,H p=some (.dK kvs))∨∃ kvs,H p=some (.dT kvs)))∨(T="set"∧∃ S n,H p=some (.set S n))
 | _=>False
theorem Zgb {pins:List (Addr × Obj)} {σ:St} {H:Hp} {s:Shared} {T:String} {x:V} {v:Value} (I:Inv X pins σ H s) (r:RelV x v) (ty:tyV X.K T x H) :
  s.TypeIs v T∧∀ a,v=.ref a→∃ ob,s.heap.get? a=some ob∧ob.dict=none:=by
 cases x with
 | str z =>
  obtain ⟨t,rfl⟩:=r
  cases (show T="str" from ty)
  exact ⟨typeIs_str s z t,fun _ e=>nomatch e⟩
 | int i =>
  obtain ⟨t,rfl⟩:=r
  cases (show T="int" from ty)
  exact ⟨typeIs_int s i t,fun _ e=>nomatch e⟩
 | ref p =>
  cases r
  rcases ty with ⟨rfl,xs,hq⟩ | ⟨rfl,o,hk,hc,hd⟩ | ⟨rfl,hk⟩ | ⟨rfl,S,n,hk⟩
  ·obtain ⟨its,_,pl,_⟩:=I.list hq
   refine ⟨pl.isList.typeIs,fun a e=>?_⟩
   cases e
   obtain ⟨o,n,e,c,hd,_⟩:=pl
   exact ⟨o,e,hd⟩
  ·refine ⟨⟨o,I.kIn p o hk,hc⟩,fun a e=>?_⟩
   cases e
   exact ⟨o,I.kIn _ o hk,hd⟩
  ·have z:∃ o,s.heap.get? p=some o∧o.ExactDict:=by
    rcases hk with ⟨kvs,hk⟩ | ⟨kvs,hk⟩
    ·obtain ⟨_,_,_,_,o,_,_,e,ex,_⟩:=I.hok p _ hk
     exact ⟨o,e,ex⟩
    ·obtain ⟨_,_,_,_,o,_,_,e,ex,_⟩:=I.hok p _ hk
     exact ⟨o,e,ex⟩
   obtain ⟨o,e,ex⟩:=z
   refine ⟨⟨o,e,ex.1⟩,fun a e2=>?_⟩
   cases e2
   exact ⟨o,e,ex.2.1⟩
  ·obtain ⟨o,_,_,_,e,ex,_⟩:=I.hok p _ hk
   refine ⟨⟨o,e,ex.1⟩,fun a e2=>?_⟩
   cases e2
   exact ⟨o,e,ex.2.1⟩
 | _=>exact False.elim ty
noncomputable def tBM0 (K:PySem.W.Frag) (T:String) (r:V→List V→Hp→VK→Prop) (to:TE):TE:=fun σ H Q=>to σ H fun x H1=>tyV K T x H1∧r x [] H1 Q
noncomputable def tBM (K:PySem.W.Frag) (T:String) (r:V→List V→Hp→VK→Prop) (to:TE) (t:TA):TE:=fun σ H Q=>to σ H fun x H1=>tyV K T x H1∧t σ H1 fun xs H2=>r x xs H2 Q
variable {o e:Expr} {es:List Expr} {to:TE} {t:TA} {name:Str} {apos cpos:Pos} {T id:String} {r:V→List V→Hp→VK→Prop}
theorem Zmz (pa:PlainAttrs T) (slot:Slot T name id) (hty:typeOf (.builtin id)=pure (.type "method_descriptor")) (hm:MtR X id r) (ho:PE X o to)
  (hbase:attributeBase o name X.env (eval o X.env)=eval o X.env:=by rfl) (hline:(apos.endLine == cpos.line)=true:=by rfl):PE X (.Call (.Attribute o name apos) [] [] cpos) (tBM0 X.K T r to):=by
 intro pins s σ H Q I h
 refine wpAny_Call_method0_late hbase hline (thn (ho pins s σ H _ I h) fun v s1 zz9=>?_)
 obtain ⟨x,H1,I1,r1,ty,q1⟩:=zz9
 obtain ⟨h1,h2⟩:=Zgb I1 r1 ty
 exact ⟨T,id,pa,slot,hty,h1,h2,Calls.callWith_builtin rfl (PySem.evalArgs_none (hm pins s1 σ H1 x [] v [] Q I1 r1 .nil q1))⟩
theorem Y3 (pa:PlainAttrs T) (slot:Slot T name id) (hty:typeOf (.builtin id)=pure (.type "method_descriptor")) (hm:MtR X id r) (ho:PE X o to) (ha:PA X (e :: es) t)
  (hbase:attributeBase o name X.env (eval o X.env)=eval o X.env:=by rfl)
  (hfew:((backTo cpos (starEach (e :: es) X.env)).all (fun x=>!x.1) && (backToKw cpos (keywordEach [] X.env)).all (fun x=>x.1.isSome)
   && decide ((e :: es).length + ([]:List Keyword).length + (if ([]:List Keyword).isEmpty then 0 else 1) < 30))=true:=by rfl)
  (hline:(apos.endLine == cpos.line)=true:=by rfl) (hs:starEach (e :: es) X.env=(false,eval e X.env) :: starEach es X.env:=by rfl) (hplain:(backTo cpos (starEach es X.env)).any (·.1)=false:=by rfl) :
  PE X (.Call (.Attribute o name apos) (e :: es) [] cpos) (tBM X.K T r to t):=by
 intro pins s σ H Q I h
 refine wpAny_Call_method_late hbase hfew hline rfl (thn (ho pins s σ H _ I h) fun v s1 zz9=>?_)
 obtain ⟨x,H1,I1,r1,ty,q1⟩:=zz9
 obtain ⟨h1,h2⟩:=Zgb I1 r1 ty
 refine ⟨T,id,pa,slot,hty,h1,h2,?_⟩
 have hA:=ha cpos pins s1 σ H1 _ I1 q1
 rw [hs] at hA ⊢
 refine Calls.callWith_builtin (by show (false || (backTo cpos (starEach es X.env)).any (·.1))=false; rw [hplain] <;> rfl) (Calls.evalArgs_plain ?_)
 refine thn hA fun us s2 zz20=>?_
 obtain ⟨vs,H2,I2,r2,q2⟩:=zz20
 exact hm pins s2 σ H2 x vs v us Q I2 r1 r2 q2
end
end L2
namespace L2
open PySem PySem.Spec PyProof.Rows
noncomputable def MtM (X:Cx) (id:String) (r:V→List V→Hp→VK→Prop):Prop :=
 ∀ (pins:List (Addr × Obj)) (s:Shared) (σ:St) (H:Hp) (x:V) (xs:List V) (v:Value) (us:List Value) (Q:VK),Inv X pins σ H s→RelV x v→Vals xs us→r x xs H Q →
  wpAny (model X.prog X.w) X.A (call (.builtin id) (v :: us)) (EP X pins σ Q) X.xe s
theorem Vals.one {x:V} {us:List Value} (h:Vals [x] us):∃ u,us=[u]∧RelV x u:=by
  cases h with
  | cons r t=>cases t; exact ⟨_,rfl,r⟩
theorem Vals.two {x y:V} {us:List Value} (h:Vals [x,y] us):∃ u v,us=[u,v]∧RelV x u∧RelV y v:=by
  cases h with
  | cons r t =>
    obtain ⟨v,rfl,q⟩:=Vals.one t
    exact ⟨_,v,rfl,r,q⟩
theorem Vals.zero:∀ {us:List Value},Vals [] us→us=[]
 | _,.nil=>rfl
theorem Vals.dropLast {xs:List V} {us:List Value} (h:Vals xs us):Vals xs.dropLast us.dropLast:=by
 induction h with
 | nil=>exact .nil
 | cons r t ih =>
  cases t with
  | nil=>exact .nil
  | cons q t'=>exact .cons r ih
theorem Vals.eraseIdx:∀ {xs:List V} {us:List Value} (i:Nat),Vals xs us→Vals (xs.eraseIdx i) (us.eraseIdx i)
 | _,_,_,.nil=>.nil
 | _,_,0,.cons _ t=>t
 | _,_,i + 1,.cons r t=>.cons r (Vals.eraseIdx i t)
theorem Vals.rep {xs:List V} {us:List Value} (h:Vals xs us):∀ k:Nat,Vals (List.replicate k xs).flatten (List.replicate k us).flatten
 | 0=>.nil
 | k + 1=>by
  rw [List.replicate_succ,List.replicate_succ,List.flatten_cons,List.flatten_cons]
  exact Vals.append h (Vals.rep h k)
theorem Zf5 {α:Type} (l:List α):l.eraseIdx (l.length - 1)=l.dropLast:=by
 induction l with
 | nil=>rfl
 | cons a r ih =>
  cases r with
  | nil=>rfl
  | cons b r =>
   have e:(a :: b :: r).length - 1=((b :: r).length - 1) + 1:=by
    have h1:(a :: b :: r).length=r.length + 2:=rfl
    have h2:(b :: r).length=r.length + 1:=rfl
    omega
   rw [e,List.eraseIdx_cons_succ,ih]
   all_goals rfl
theorem Ff {α:Type}:∀ (l:List α) (i:Nat),(l.eraseIdx i).length≤l.length
 | [],_=>Nat.le_refl _
 | _ :: _,0=>Nat.le_succ _
 | _ :: r,i + 1=>Nat.succ_le_succ (Ff r i)
theorem Fn (its:List Value):∀ (k:Nat) (acc:List Value),
  List.foldl (fun x1 x2=>x1 ++ x2) acc.toArray (List.replicate k its.toArray)=(acc ++ (List.replicate k its).flatten).toArray
 | 0,acc=>by simp
 | k + 1,acc=>by
  have e:acc.toArray ++ its.toArray=(acc ++ its).toArray:=by simp
  have e2:(acc ++ its) ++ (List.replicate k its).flatten=acc ++ (List.replicate (k + 1) its).flatten:=by
   rw [List.replicate_succ,List.flatten_cons,List.append_assoc]
  rw [← e2,← Fn its k (acc ++ its),← e,List.replicate_succ,List.foldl_cons]
section
variable {X:Cx} {pins:List (Addr × Obj)} {σ:St} {H:Hp} {s:Shared} {l b:Addr} {xs ys zs:List V}
theorem Inv.lset {its its':List Value} {n:Nat} {f:Array Value→Array Value} {t':Nat} (I:Inv X pins σ H s) (hH:H l=some (.lst xs))
  (e:s.heap.get? l=some { cls:=.type "list",data:=.seq its.toArray n }) (hf:f its.toArray=its'.toArray) (hv:Vals ys its') (hz:ys.length≤sizeLine) :
  Inv X pins σ (upd H l (.lst ys)) { s with heap:=s.heap.update l (Obj.mapSeq f),toks:=t' }:=by
 have q:=PySem.IsL.update e f
 rw [hf] at q
 refine I.write (x:=l) (e:=l) (by rw [hH]; exact trivial) (.inl rfl) (fun b' u hb hu=>(Heap.get?_update_other s.heap (Obj.mapSeq f) (Ne.symm hb)).trans hu) ⟨_,q⟩ ?_
 exact ⟨hz,its',_,hv,q⟩
theorem Inv.lnew {its:List Value} {t':Nat} (I:Inv X pins σ H s) (hv:Vals ys its) (hz:ys.length≤sizeLine) :
  Inv X pins σ (upd H s.heap.objs.size (.lst ys)) { s with heap:=s.heap.push { cls:=.type "list",data:=.seq its.toArray },toks:=t' } :=
 I.laid (fun _ _ q=>Heap.get?_push_of_some _ q) (Nat.le_refl _) ⟨hz,its,0,hv,Heap.get?_push_size _ rfl⟩
theorem Inv.fresh (I:Inv X pins σ H s):H s.heap.objs.size=none:=I.hok.fresh (Nat.le_refl _)
theorem Inv.lstM (I:Inv X pins σ H s) (hH:H l=some (.lst xs)):xs.length≤sizeLine∧∃ (its:List Value) (n:Nat),Vals xs its∧xs.length=its.length∧s.heap.get? l=some { cls:=.type "list",data:=.seq its.toArray n }:=by
 obtain ⟨z,its,n,r,e⟩:=I.hok l _ hH
 exact ⟨z,its,n,r,r.length,e⟩
theorem Zb2 {n:Nat} (h:n≤sizeLine):Builtin.List.listTooLong n=false:=by
 unfold Builtin.List.listTooLong
 exact decide_eq_false (by omega)
end
section
variable {X:Cx}
noncomputable def Zli:V→List V→Hp→VK→Prop:=fun x vs H Q=>∃ l xs y,x=.ref l∧vs=[y]∧H l=some (.lst xs)∧xs.length < sizeLine∧Q .non (upd H l (.lst (xs ++ [y])))
theorem Yc:MtM X "list.append" Zli:=by
 intro pins s σ H x vs v us Q I rx rv h
 obtain ⟨l,xs,y,rfl,rfl,hH,hz,q⟩:=h
 cases rx
 obtain ⟨u,rfl,ru⟩:=rv.one
 obtain ⟨z,its,n,r,hl,e⟩:=I.lstM hH
 refine call_meets F.slot_list_append ⟨_,e,rfl⟩ F.entry_list_append (F.args_list_append_2 _ _) (PySem.list_append l its.toArray n u (by rw [List.size_toArray]; omega)) ⟨e,?_⟩
 refine ⟨.non,_,I.lset (its':=its ++ [u]) hH e (by simp) (r.append (.cons ru .nil)) ?_,rfl,q⟩
 rw [List.length_append,List.length_singleton]
 omega
noncomputable def rPop:V→List V→Hp→VK→Prop:=fun x vs H Q=>∃ l xs y,x=.ref l∧vs=[]∧H l=some (.lst xs)∧xs[xs.length - 1]?=some y∧Q y (upd H l (.lst xs.dropLast))
theorem Zm6:MtM X "list.pop" rPop:=by
 intro pins s σ H x vs v us Q I rx rv h
 obtain ⟨l,xs,y,rfl,rfl,hH,hy,q⟩:=h
 cases rx
 have hus:=rv.zero
 subst hus
 obtain ⟨z,its,n,r,hl,e⟩:=I.lstM hH
 obtain ⟨u,hu,ru⟩:=r.get hy
 have hy':its.toArray[its.toArray.size - 1]?=some u:=by
  show its.toArray[its.length - 1]?=some u
  rw [← Array.getElem?_toList,← hl]
  exact hu
 refine call_meets F.slot_list_pop ⟨_,e,rfl⟩ F.entry_list_pop (F.args_list_pop_1 _) (MeetsSeq.list_pop_last l its.toArray n u hy' (by rw [List.size_toArray]; omega)) ⟨e,?_⟩
 refine ⟨y,_,I.lset (its':=its.dropLast) hH e ?_ r.dropLast ?_,ru,q⟩
 ·show its.toArray.eraseIdxIfInBounds (its.toArray.size - 1)=its.dropLast.toArray
  rw [List.size_toArray,List.eraseIdxIfInBounds_toArray,Zf5]
 ·rw [List.length_dropLast]
  omega
noncomputable def Zmr:V→List V→Hp→VK→Prop:=fun x vs H Q=>∃ l xs i k y,x=.ref l∧vs=[.int i]∧H l=some (.lst xs)∧-(2 ^ 63)≤i∧i < 2 ^ 63∧seqIndex? i xs.length=some k∧xs[k]?=some y∧Q y (upd H l (.lst (xs.eraseIdx k)))
theorem Zb5:MtM X "list.pop" Zmr:=by
 intro pins s σ H x vs v us Q I rx rv h
 obtain ⟨l,xs,i,k,y,rfl,rfl,hH,h1,h2,hk,hy,q⟩:=h
 cases rx
 obtain ⟨u,rfl,ru⟩:=rv.one
 obtain ⟨t,rfl⟩:=ru
 obtain ⟨z,its,n,r,hl,e⟩:=I.lstM hH
 obtain ⟨w,hw,rw'⟩:=r.get hy
 refine call_meets F.slot_list_pop ⟨_,e,rfl⟩ F.entry_list_pop (F.args_list_pop_2 _ _)
  (MeetsSeq.list_pop_at l its.toArray n i t k w (fitsIndex_both h1 h2) (by rw [List.size_toArray,← hl]; exact hk) (by rw [← Array.getElem?_toList]; exact hw) (by rw [List.size_toArray]; omega)) ⟨e,?_⟩
 refine ⟨y,_,I.lset (its':=its.eraseIdx k) hH e ?_ (r.eraseIdx k) ?_,rw',q⟩
 ·show its.toArray.eraseIdxIfInBounds k=(its.eraseIdx k).toArray
  rw [List.eraseIdxIfInBounds_toArray]
 ·have:=Ff xs k
  omega
noncomputable def rRep:R2:=fun x y H Q=>∃ l k xs,x=.ref l∧y=.int k∧H l=some (.lst xs)∧-(2 ^ 63)≤k∧k < 2 ^ 63∧xs.length * k.toNat≤sizeLine ∧
 ∀ p,H p=none→Q (.ref p) (upd H p (.lst (List.replicate k.toNat xs).flatten))
theorem Zlv {α:Type} (xs:List α) (k:Nat):(List.replicate k xs).flatten.length=k * xs.length:=by
 induction k with
 | zero=>simp
 | succ k ih=>rw [List.replicate_succ,List.flatten_cons,List.length_append,ih,Nat.succ_mul,Nat.add_comm]
theorem Kw:OpR X (binaryOp .Mult) rRep:=by
 intro pins s σ H x y v u Q I rx ry h
 obtain ⟨l,k,xs,rfl,rfl,hH,h1,h2,hz,q⟩:=h
 cases rx
 obtain ⟨t,rfl⟩:=ry
 obtain ⟨z,its,n,r,hl,e⟩:=I.lstM hH
 have hlen:its.toArray.size * k.toNat≤sizeLine:=by rw [List.size_toArray,← hl]; exact hz
 have hcap:¬ its.toArray.size * k.toNat > (2 ^ 63 - 1) / 8:=by
  have:(sizeLine:Nat)≤(2 ^ 63 - 1) / 8:=by decide
  omega
 have hfit:¬ (!Builtin.List.listFitsIndex k)=true:=by
  rw [fitsIndex_both h1 h2]
  exact Bool.false_ne_true
 have hlong:¬ Builtin.List.listTooLong (its.toArray.size * k.toNat)=true:=by
  rw [Zb2 hlen]
  exact Bool.false_ne_true
 have hnew:List.foldl (fun x1 x2=>x1 ++ x2) #[] (List.replicate (if its.toArray.isEmpty=true then 0 else k.toNat) its.toArray)=(List.replicate k.toNat its).flatten.toArray:=by
  have f0:∀ m:Nat,List.foldl (fun x1 x2=>x1 ++ x2) #[] (List.replicate m its.toArray)=(List.replicate m its).flatten.toArray:=fun m=>by
   have:=Fn its m []
   rw [List.nil_append] at this
   exact this
  rw [f0]
  cases its with
  | nil=>simp
  | cons a r'=>rw [if_neg (by simp)]
 refine wpAny_binaryOp_repeat_ref (T:="list") (U:="int") (by decide) ⟨_,e,rfl⟩ (fun s'=>typeIs_int s' k t) noFill_list_mul F.fills_int_mul F.slot_int_rmul repeat_list F.slot_int_index.lookup
  (call_meets F.slot_int_rmul (typeIs_int s k t) F.entry_int_rmul (F.args_int_rmul_2 _ _) (int___rmul___int_list k t l its.toArray n)
   ⟨e,rfl,⟨_,e,rfl⟩,call_meets F.slot_list_mul ⟨_,e,rfl⟩ F.entry_list_mul (F.args_list_mul_2 _ _) (AutoListH.list___mul___list_int_3 l its.toArray n k t hfit hcap hlong) ⟨e,?_⟩⟩)
 rw [hnew]
 exact ⟨.ref _,_,I.lnew (t':=s.toks) (r.rep k.toNat) (by rw [Zlv,Nat.mul_comm]; exact hz),rfl,q _ I.fresh⟩
end
end L2
namespace L2
open PySem PySem.Spec PyProof.Rows
section
variable {κ:Type} [DecidableEq κ]
noncomputable def valV (kvs:List (κ × V)) (k:κ):Option V:=(kvs.find? fun kv=>decide (kv.1=k)).map (·.2)
noncomputable def putK (kvs:List (κ × V)) (k:κ) (v:V):List (κ × V) :=
 if (kvs.any fun kv=>decide (kv.1=k))=true then kvs.map (fun kv=>if kv.1=k then (kv.1,v) else kv) else kvs ++ [(k,v)]
theorem Zao {p:κ × V} {r:List (κ × V)} {k:κ} (e:p.1=k):valV (p :: r) k=some p.2:=by simp [valV,List.find?_cons,e]
theorem Zap {p:κ × V} {r:List (κ × V)} {k:κ} (e:¬ p.1=k):valV (p :: r) k=valV r k:=by simp [valV,List.find?_cons,e]
theorem Ot (kvs:List (κ × V)) (k:κ) (v:V):(putK kvs k v).length≤kvs.length + 1:=by
 unfold putK
 split
 ·rw [List.length_map]; omega
 ·rw [List.length_append,List.length_cons,List.length_nil]; omega
theorem RelO.isSome_eq {o:Option V} {u:Option Value} (r:RelO o u):o.isSome=u.isSome:=by
 cases o with
 | none=>cases u with
  | none=>rfl
  | some _=>exact (show False from r).elim
 | some _=>cases u with
  | none=>exact (show False from r).elim
  | some _=>rfl
theorem KV.val {kvs:List (κ × V)} {vs:List (κ × Value)} (r:KV kvs vs) (k:κ):RelO (valV kvs k) (valueAt vs k):=by
 unfold KV at r
 induction r with
 | nil=>exact True.intro
 | @cons p q ps qs h t ih =>
  obtain ⟨h1,h2⟩:=h
  by_cases e:p.1=k
  ·have e':q.1=k:=h1.symm.trans e
   have b:valueAt (q :: qs) k=some q.2:=by simp [valueAt,List.find?_cons,e']
   rw [Zao e,b]; exact h2
  ·have e':¬ q.1=k:=fun z=>e (h1.trans z)
   have b:valueAt (q :: qs) k=valueAt qs k:=by simp [valueAt,List.find?_cons,e']
   rw [Zap e,b]; exact ih
theorem KV.any {kvs:List (κ × V)} {vs:List (κ × Value)} (r:KV kvs vs) (k:κ):(kvs.any fun kv=>decide (kv.1=k))=vs.any fun kv=>decide (kv.1=k):=by
 unfold KV at r
 induction r with
 | nil=>rfl
 | cons h t ih=>rw [List.any_cons,List.any_cons,ih,h.1]
theorem KV.repl {kvs:List (κ × V)} {vs:List (κ × Value)} (r:KV kvs vs) (k:κ) {y:V} {u:Value} (ry:RelV y u) :
  KV (kvs.map fun kv=>if kv.1=k then (kv.1,y) else kv) (vs.map fun kv=>if kv.1=k then (kv.1,u) else kv):=by
 unfold KV at r ⊢
 induction r with
 | nil=>exact .nil
 | @cons p q ps qs h t ih =>
  rw [List.map_cons,List.map_cons]
  refine .cons ?_ ih
  obtain ⟨h1,h2⟩:=h
  by_cases e:p.1=k
  ·rw [if_pos e,if_pos (h1.symm.trans e)]; exact ⟨h1,ry⟩
  ·rw [if_neg e,if_neg (fun z=>e (h1.trans z))]; exact ⟨h1,h2⟩
theorem KV.put {kvs:List (κ × V)} {vs:List (κ × Value)} (r:KV kvs vs) (k:κ) {y:V} {u:Value} (ry:RelV y u):KV (putK kvs k y) (stored vs k u):=by
 unfold putK stored
 rw [r.any k]
 by_cases e:(vs.any fun kv=>decide (kv.1=k))=true
 ·rw [if_pos e,if_pos e]; exact r.repl k ry
 ·rw [if_neg e,if_neg e]; exact Paired.snoc r ⟨rfl,ry⟩
theorem KV.length {kvs:List (κ × V)} {vs:List (κ × Value)} (r:KV kvs vs):kvs.length=vs.length:=Paired.length r
end
theorem U7 {P:Program} {w:World} {k:Key} {u:Value} (r:RelV (kV k) u):(Z9 P w).is k u=true:=by
 cases k with
 | inl i=>obtain ⟨t,e⟩:=(show ∃ t,u=Value.int i t from r); subst e; exact Zdn P w i t
 | inr x=>obtain ⟨t,e⟩:=(show ∃ t,u=Value.str x t from r); subst e; exact Zdm P w x t
theorem Fg {P:Program} {w:World}:∀ {ks:List Key} {us:List Value},Vals (ks.map kV) us→ItemsAre (Z9 P w) ks us
 | [],_,r=>by rw [List.map_nil] at r; cases r; exact .nil
 | k :: ks,_,r=>by
  rw [List.map_cons] at r
  cases r with
  | cons h t=>exact .cons (U7 h) (Fg t)
noncomputable abbrev KT (H:Hp):List (List Key × V)→List (List Key × Addr × Value)→Prop:=Paired fun p q=>p.1=q.1∧H q.2.1=some (.tup (p.1.map kV))∧RelV p.2 q.2.2
theorem KT.val {H:Hp} {kvs:List (List Key × V)} {xs:List (List Key × Addr × Value)} (r:KT H kvs xs) (k:List Key):RelO (valV kvs k) ((atKey xs k).map (·.2)):=by
 induction r with
 | nil=>exact True.intro
 | @cons p q ps qs h t ih =>
  obtain ⟨h1,_,h2⟩:=h
  by_cases e:p.1=k
  ·have e':q.1=k:=h1.symm.trans e
   have b:atKey (q :: qs) k=some q.2:=by simp [atKey,List.find?_cons,e']
   rw [Zao e,b]; exact h2
  ·have e':¬ q.1=k:=fun z=>e (h1.trans z)
   have b:atKey (q :: qs) k=atKey qs k:=by simp [atKey,List.find?_cons,e']
   rw [Zap e,b]; exact ih
section
variable {P:Program} {w:World} {H:Hp} {h:Heap} {a:Addr}
theorem Zkk {u:HO} (ok:HOk P w H h) (e:Rd H a u):Zx P w H h a u:=e.ok ok
theorem K7 {kvs:List (Key × V)} (ok:HOk P w H h) (e:Rd H a (.dK kvs)):kvs.length≤sizeLine∧(a == sysModules)=false∧∃ vs,KV kvs vs∧h.DictOf (Z9 P w) a vs :=
 show Zx P w H h a (.dK kvs) from Zkk ok e
theorem Zkr {kvs:List (Key × V)} (ok:HOk P w H h) (e:H a=some (.dK kvs)):kvs.length≤sizeLine∧(a == sysModules)=false∧∃ vs,KV kvs vs∧h.DictOf (Z9 P w) a vs:=K7 ok (.inl e)
theorem Zce {ks:List Key} (ok:HOk P w H h) (e:H a=some (.tup (ks.map kV))):(tupleKind (Z9 P w)).is h ks a:=by
 obtain ⟨_,its,r,o,h1,h2,n,h3⟩:=(show Zx P w H h a (.tup (ks.map kV)) from ok a _ e)
 exact ⟨o,its.toArray,n,h1,h2,h3,by simpa using Fg r⟩
theorem Zai {kvs:List (List Key × V)} (ok:HOk P w H h) (e:Rd H a (.dT kvs)):kvs.length≤sizeLine∧(a == sysModules)=false ∧
  ∃ xs,KT H kvs xs∧h.DictOfH (tupleKind (Z9 P w)) a xs:=by
 obtain ⟨z,y,xs,r,o,es,ep,h1,h2,h3,h4,h5⟩:=(show Zx P w H h a (.dT kvs) from Zkk ok e)
 refine ⟨z,y,xs,r,o,es,ep,h1,h2,h3,h4,fun x hx=>?_,h5⟩
 have all:∀ {l:List (List Key × V)} {m:List (List Key × Addr × Value)},KT H l m→∀ x∈m,(tupleKind (Z9 P w)).is h x.1 x.2.1:=by
  intro l m q
  induction q with
  | nil=>intro x hx; exact nomatch hx
  | @cons p q ps qs hq t ih =>
   intro x hx
   rcases List.mem_cons.mp hx with e | hx
   ·subst e
    exact Zce ok (by rw [← hq.1]; exact hq.2.1)
   ·exact ih x hx
 exact all r x hx
end
noncomputable def DGet (H:Hp) (a:Addr) (y:V) (r:Option V):Prop :=
 (∃ kvs k,Rd H a (.dK kvs)∧y=kV k∧r=valV kvs k)∨∃ kvs k b,Rd H a (.dT kvs)∧y=.ref b∧H b=some (.tup (k.map kV))∧r=valV kvs k
section
variable {X:Cx} {pins:List (Addr × Obj)} {σ:St} {H:Hp} {s:Shared} {a:Addr} {y v:V} {u r:Value} {o:Option V} {A:Around} {E:Value→Shared→Prop}
theorem Inv.big (I:Inv X pins σ H s):sysModules < s.heap.objs.size:=by
 have h:mainGlobals < s.heap.objs.size:=(I.mod.glob.keeps I.bk).lt
 exact Nat.lt_trans (by decide) h
theorem Zij {Q:Value→Shared→Prop} (hu:A.units + 1 < cLine) (I:Inv X pins σ H s) (g:DGet H a y (some v)) (ry:RelV y u) (h:∀ w' s',Inv X pins σ H s'→RelV v w'→Q w' s') :
  wpAny (model X.prog X.w) A (getItem (.ref a) u) Q E s:=by
 rcases g with ⟨kvs,k,e,ey,l⟩ | ⟨kvs,k,b,e,ey,eb,l⟩
 ·subst ey
  obtain ⟨z,hd,vs,rel,dd⟩:=K7 I.hok e
  obtain ⟨w',hw,rw'⟩:=RelO.some_of (v:=v) (o:=valueAt vs k) (by rw [l]; exact rel.val k)
  exact wpAny_getItem_of (U7 ry) dd.mapOf hw (h w' _ (I.tok _) rw')
 ·subst ey
  cases (show u=Value.ref b from ry)
  obtain ⟨z,hd,xs,rel,dd⟩:=Zai I.hok e
  obtain ⟨w',hw,rw'⟩:=RelO.some_of (v:=v) (o:=(atKey xs k).map (·.2)) (by rw [l]; exact rel.val k)
  obtain ⟨p,hp,hp2⟩:=Option.map_eq_some_iff.mp hw
  refine wpAny_getItem_heap (tupleKind_room_in1 hu) (Zce I.hok eb) dd hp ?_
  rw [hp2]
  exact h w' _ (I.tok _) rw'
theorem Zl4 {Q:Value→Shared→Prop} (hu:A.units + 1 < cLine) (I:Inv X pins σ H s) (g:DGet H a y o) (ry:RelV y u) (h:∀ s',Inv X pins σ H s'→Q (.bool (!o.isSome)) s') :
  wpAny (model X.prog X.w) A (compareOp .NotIn u (.ref a)) Q E s:=by
 rcases g with ⟨kvs,k,e,ey,l⟩ | ⟨kvs,k,b,e,ey,eb,l⟩
 ·subst ey
  obtain ⟨z,hd,vs,rel,dd⟩:=K7 I.hok e
  refine wpAny_notIn_of (U7 ry) hd dd.mapOf ?_
  rw [← (rel.val k).isSome_eq,← l]
  exact h _ (I.tok _)
 ·subst ey
  cases (show u=Value.ref b from ry)
  obtain ⟨z,hd,xs,rel,dd⟩:=Zai I.hok e
  refine wpAny_notIn_heap (tupleKind_room_in1 hu) (Zce I.hok eb) hd dd ?_
  have q:=(rel.val k).isSome_eq
  rw [Option.isSome_map] at q
  rw [← q,← l]
  exact h _ (I.tok _)
theorem Ze3 {h':Heap} {t':Nat} {ob:HO} (I:Inv X pins σ H s) (mu:Mut (H a)) (hs:Heap.SameBut a s.heap h') (he:∃ q,h'.get? a=some q) (new:Zx X.prog X.w (upd H a ob) h' a ob) :
  Inv X pins σ (upd H a ob) { s with heap:=h',toks:=t' } :=
 I.write (x:=a) (e:=a) mu (.inl rfl) (fun b q hb z=>(hs.2 b hb).trans z) he new
theorem Zig {P:Program} {w:World} {H':Hp} {h':Heap} {kvs:List (Key × V)} {vs:List (Key × Value)} (z:kvs.length≤sizeLine) (hd:(a == sysModules)=false) (rel:KV kvs vs) (dd:h'.DictOf (Z9 P w) a vs) :
  Zx P w H' h' a (.dK kvs):=⟨z,hd,vs,rel,dd⟩
end
noncomputable def NoSl (i:Expr):Prop:=∀ ov iv,subscripted i false ov iv=operate [ov,iv] (getItem ov iv)
theorem Zk1 {prog:Program} {w:World} {A:Around} {E:Value→Shared→Prop} {s:Shared} {env:Env} {value slice:Expr} {pos:Pos} {T id:String} {Q:Value→Shared→Prop}
  (hl:typeLookup (.type T) "__getitem__"=pure (some (.builtin id))) (hs:NoSl slice)
  (h:wpAny (model prog w) A (eval value env) (fun o s₁=>wpAny (model prog w) A (eval slice env) (fun i s₂=>s₂.TypeIs o T∧wpAny (model prog w) A (getItem o i) Q E s₂) E s₁) E s) :
  wpAny (model prog w) A (eval (.Subscript value slice pos) env) Q E s:=by
 refine Subscript_ (wpAny_mono h (fun o s₁ h₁=>wpAny_mono h₁ (fun i s₂ h₂=>?_) fun _ _ x=>x) fun _ _ x=>x)
 obtain ⟨hT,h₂⟩:=h₂
 unfold subscriptTail
 refine wpAny_bind ?_
 rw [getitemInPython_of_ne hT.not_modules]
 refine wpAny_bind (wpAny_specialOf hT hl ?_)
 have fin:wpAny (model prog w) A (subscripted slice false o i) (fun r s₃=>wpAny (model prog w) A (letTemporaryGo value o r >>= fun _=>pure r) Q E s₃) E s₂:=by
  rw [hs o i]
  exact wpAny_operating (wpAny_mono h₂ (fun r s₃ h₃=>wpAny_bind (wpAny_letTemporaryGo (wpAny_pure h₃))) fun _ _ x=>x)
 first
  | exact wpAny_pure (wpAny_bind fin)
  | exact wpAny_bind (wpAny_pure (wpAny_bind fin))
  | exact wpAny_bind fin
theorem Zds {X:Cx} {pins:List (Addr × Obj)} {σ:St} {H:Hp} {s:Shared} {a:Addr} {y:V} {o:Option V} (I:Inv X pins σ H s) (g:DGet H a y o):s.TypeIs (.ref a) "dict":=by
 rcases g with ⟨kvs,k,e,_,_⟩ | ⟨kvs,k,b,e,_,_,_⟩
 ·obtain ⟨_,_,vs,_,dd⟩:=K7 I.hok e
  exact dd.typeIs
 ·obtain ⟨_,_,xs,_,dd⟩:=Zai I.hok e
  exact dd.typeIs
noncomputable def Znq (td ty:TE):TE:=fun σ H Q=>td σ H fun x H1=>ty σ H1 fun y H2=>∃ a v,x=.ref a∧DGet H2 a y (some v)∧Q v H2
noncomputable def Zk0 (ty td:TE):TE:=fun σ H Q=>ty σ H fun y H1=>td σ H1 fun x H2=>∃ a o,x=.ref a∧DGet H2 a y o∧Q (.bl (!o.isSome)) H2
section
variable {X:Cx} {o i e value:Expr} {pos pos' tpos:Pos} {td ty tv:TE}
theorem Zei (hu:X.A.units + 1 < cLine) (ho:PE X o td) (hi:PE X i ty) (hs:NoSl i):PE X (.Subscript o i pos) (Znq td ty):=by
 intro pins s σ H Q I h
 refine Zk1 PySem.F.slot_dict_getitem.lookup hs (thn (ho pins s σ H _ I h) fun u s1 zz21=>?_)
 obtain ⟨x,H1,I1,rx,q1⟩:=zz21
 refine thn (hi pins s1 σ H1 _ I1 q1) fun iv s2 zz9=>?_
 obtain ⟨y,H2,I2,ry,a,v,ex,g,q2⟩:=zz9
 subst ex
 obtain rfl:u=Value.ref a:=rx
 exact ⟨Zds I2 g,Zij hu I2 g ry fun w' s3 I3 rw'=>⟨v,H2,I3,rw',q2⟩⟩
theorem Zhc (hu:X.A.units + 1 < cLine) (hi:PE X i ty) (ho:PE X o td):PC X .NotIn i o (Zk0 ty td):=by
 intro pins s σ H Q I h
 refine thn (hi pins s σ H _ I h) fun iv s1 zz22=>?_
 obtain ⟨y,H1,I1,ry,q1⟩:=zz22
 refine thn (ho pins s1 σ H1 _ I1 q1) fun u s2 zz9=>?_
 obtain ⟨x,H2,I2,rx,a,ov,ex,g,q2⟩:=zz9
 subst ex
 obtain rfl:u=Value.ref a:=rx
 exact Zl4 hu I2 g ry fun s3 I3=>⟨.bl (!ov.isSome),H2,I3,rfl,q2⟩
end
theorem Zcr {P:Program} {w:World} {H:Hp} (h:Heap) (hb:sysModules < h.objs.size):Zx P w H (h.push { cls:=.type "dict",data:=.dict #[] }) h.objs.size (.dK []) :=
 ⟨Nat.zero_le _,beq_eq_false_iff_ne.mpr (Ne.symm (Nat.ne_of_lt hb)),[],.nil,Heap.DictOf.new h⟩
noncomputable def Zml:TE:=fun _ H Q=>∀ p,H p=none→Q (.ref p) (upd H p (.dK []))
section
variable {X:Cx} {pos:Pos}
theorem Zji:PE X (.Dict [] [] pos) Zml:=fun pins s σ H Q I h =>
 wpAny_Dict_empty ⟨.ref s.heap.objs.size,_,I.laid (a:=s.heap.objs.size) (o:=.dK []) (t':=s.toks) (fun _ _ q=>Heap.get?_push_of_some _ q) (Nat.le_refl _) (Zcr s.heap I.big),rfl,h _ (I.hok.fresh (Nat.le_refl _))⟩
end
noncomputable def Zas:List (TE × TE)→St→Hp→(List (V × V)→Hp→Prop)→Prop
 | [],_,H,Q=>Q [] H
 | (tk,tv) :: r,σ,H,Q=>tk σ H fun x H1=>tv σ H1 fun y H2=>Zas r σ H2 fun ps H3=>Q ((x,y) :: ps) H3
noncomputable abbrev VV:List (V × V)→List (Value × Value)→Prop:=Paired fun p q=>RelV p.1 q.1∧RelV p.2 q.2
noncomputable def PPs (X:Cx) (pos:Pos) (keys:List (Option Expr)) (values:List Expr) (trs:List (TE × TE)):Prop :=
 ∀ (pins:List (Addr × Obj)) (s:Shared) (σ:St) (H:Hp) (Q:List (V × V)→Hp→Prop),Inv X pins σ H s→Zas trs σ H Q →
  wpAny (model X.prog X.w) X.A (evalPairs (pairTrees keys values X.env pos)) (fun vs s'=>∃ ps H',Inv X pins σ H' s'∧VV ps vs∧Q ps H') X.xe s
theorem Zea {X:Cx} {pos:Pos}:PPs X pos [] [] []:=fun pins s σ H Q I h=>pairTrees_nil_walk ⟨[],H,I,.nil,h⟩
theorem X7 {X:Cx} {pos:Pos} {k v:Expr} {ks:List (Option Expr)} {vs:List Expr} {tk tv:TE} {trs:List (TE × TE)} (hk:PE X k tk) (hv:PE X v tv) (hr:PPs X pos ks vs trs) :
  PPs X pos (some k :: ks) (v :: vs) ((tk,tv) :: trs):=fun pins s σ H Q I h =>
 pairTrees_cons_walk (thn (hk pins s σ H _ I h) fun u s1 ⟨x,H1,I1,rx,q1⟩=>thn (hv pins s1 σ H1 _ I1 q1) fun w2 s2 ⟨y,H2,I2,ry,q2⟩ =>
  thn (hr pins s2 σ H2 _ I2 q2) fun ws s3 ⟨ps,H3,I3,rel,q3⟩=>⟨(x,y) :: ps,H3,I3,.cons ⟨rx,ry⟩ rel,q3⟩)
noncomputable def W4 (kvs more:List (Key × V)):List (Key × V):=more.foldl (fun acc kv=>putK acc kv.1 kv.2) kvs
theorem KV.merge:∀ {more:List (Key × V)} {rs:List (Key × Value)} {kvs:List (Key × V)} {vs:List (Key × Value)},KV more rs→KV kvs vs→KV (W4 kvs more) (merged vs rs):=by
 intro more rs kvs vs r
 unfold KV at r
 induction r generalizing kvs vs with
 | nil=>intro q; exact q
 | @cons p q ps qs h t ih =>
  intro r0
  have e:KV (putK kvs p.1 p.2) (stored vs q.1 q.2):=by
   have:=r0.put p.1 h.2
   rw [← h.1]; exact this
  exact ih e
theorem V6:∀ (more kvs:List (Key × V)),(W4 kvs more).length≤kvs.length + more.length
 | [],kvs=>by show kvs.length≤kvs.length + 0; omega
 | p :: r,kvs=>by
  have h1:=V6 r (putK kvs p.1 p.2)
  have h2:=Ot kvs p.1 p.2
  show (W4 (putK kvs p.1 p.2) r).length≤_
  rw [List.length_cons]; omega
theorem K9 {P:Program} {w:World}:∀ {kvs:List (Key × V)} {ws:List (Value × Value)},VV (kvs.map fun kv=>(kV kv.1,kv.2)) ws→∃ rs,Carries (Z9 P w) ws rs∧KV kvs rs
 | [],_,r=>by rw [List.map_nil] at r; cases r; exact ⟨[],True.intro,.nil⟩
 | p :: kvs,_,r=>by
  rw [List.map_cons] at r
  cases r with
  | @cons a b as bs h t =>
   obtain ⟨rs,c,q⟩:=K9 (P:=P) (w:=w) t
   obtain ⟨b1,b2⟩:=b
   exact ⟨(p.1,b2) :: rs,⟨U7 h.1,rfl,c⟩,.cons ⟨rfl,h.2⟩ q⟩
noncomputable def Znp (trs:List (TE × TE)):TE:=fun σ H Q=>∀ p,H p=none→Zas trs σ (upd H p (.dK [])) fun ps H2=>H2 p=some (.dK [])∧∃ kvs:List (Key × V),ps=kvs.map (fun kv=>(kV kv.1,kv.2))∧kvs.length≤15∧Q (.ref p) (upd H2 p (.dK (W4 [] kvs)))
theorem Zeh {X:Cx} {pos:Pos} {keys:List (Option Expr)} {values:List Expr} {trs:List (TE × TE)} (h:PPs X pos keys values trs) (hall:keys.all (·.isSome)=true) (hl:keys.length=values.length) (h0:keys≠[])
  (h15:keys.length≤15):PE X (.Dict keys values pos) (Znp trs):=by
 intro pins s σ H Q I q
 have hn:=I.hok.fresh (Nat.le_refl s.heap.objs.size)
 have I1:=I.laid (a:=s.heap.objs.size) (o:=.dK []) (h':=s.heap.push { cls:=.type "dict",data:=.dict #[] }) (t':=s.toks) (fun _ _ q=>Heap.get?_push_of_some _ q) (Nat.le_refl _) (Zcr s.heap I.big)
 refine wpAny_Dict_walk (knd:=Z9 X.prog X.w) hall hl h0 h15 (thn (h pins _ σ _ _ I1 (q _ hn)) fun ws s2 zz9=>?_)
 obtain ⟨ps,H2,I2,rel,e,kvs,ep,lk,q2⟩:=zz9
 subst ep
 obtain ⟨rs,c,rk⟩:=K9 (P:=X.prog) (w:=X.w) rel
 obtain ⟨z,hd,vs0,r0,dd⟩:=Zkr I2.hok e
 cases r0
 refine ⟨rs,c,dd,fun h' dd' hs=>⟨.ref s.heap.objs.size,_,?_,rfl,q2⟩⟩
 have hz:(W4 [] kvs).length≤sizeLine:=by
  have h1:=V6 kvs []
  rw [List.length_nil] at h1
  rw [sizeLine_eq]; omega
 have he:∃ q,h'.get? s.heap.objs.size=some q:=let ⟨q,_,_,hq,_⟩:=dd'; ⟨q,hq⟩
 exact Ze3 I2 (by rw [e]; exact True.intro) hs he (Zig hz hd (rk.merge .nil) dd')
structure M2 (X:Cx) (o:Expr) (m:Str) (apos:Pos) (e f:Expr) (cpos:Pos):Prop where
 base:attributeBase o m X.env (eval o X.env)=eval o X.env
 few:((backTo cpos (starEach [e,f] X.env)).all (fun x=>!x.1) && (backToKw cpos (keywordEach [] X.env)).all (fun x=>x.1.isSome)
  && decide (([e,f]:List Expr).length + ([]:List Keyword).length + (if ([]:List Keyword).isEmpty then 0 else 1) < 30))=true
 line:(apos.endLine == cpos.line)=true
 trees:backTo cpos (starEach [e,f] X.env)=[(false,eval e X.env),(false,eval f X.env)]
noncomputable def IsD (H:Hp) (a:Addr):Prop:=(∃ kvs,Rd H a (.dK kvs))∨∃ kvs,Rd H a (.dT kvs)
theorem Zcf {X:Cx} {pins:List (Addr × Obj)} {σ:St} {H:Hp} {s:Shared} {a:Addr} (I:Inv X pins σ H s) (d:IsD H a) :
  s.TypeIs (.ref a) "dict"∧(∀ b,Value.ref a=.ref b→∃ ob,s.heap.get? b=some ob∧ob.dict=none)∧(a == sysModules)=false:=by
 rcases d with ⟨kvs,e⟩ | ⟨kvs,e⟩
 ·obtain ⟨_,hd,vs,_,dd⟩:=K7 I.hok e
  refine ⟨dd.typeIs,fun b q=>?_,hd⟩
  cases q
  obtain ⟨ob,_,_,h1,h2,_⟩:=dd
  exact ⟨ob,h1,h2.2.1⟩
 ·obtain ⟨_,hd,xs,_,dd⟩:=Zai I.hok e
  refine ⟨dd.typeIs,fun b q=>?_,hd⟩
  cases q
  obtain ⟨ob,_,_,h1,h2,_⟩:=dd
  exact ⟨ob,h1,h2.2.1⟩
end L2
namespace Att
open PySem PySem.W PySem.Calls PyProof.Rows
theorem K3 {P:Params} {h:Heap}:∀ (ns:List Int) (vs:List Value),WellAll P h vs (ns.map WData.int)→IntsAre vs ns:=by
 intro ns
 induction ns with
 | nil =>
  intro vs w
  rw [List.map_nil] at w
  cases w
  exact .nil
 | cons n ns ih =>
  intro vs w
  rw [List.map_cons] at w
  cases w with
  | cons a b =>
   cases a
   exact .cons _ _ (ih _ b)
theorem Zgs {l:OpenLaw} {n:Nat} (hn:l.most=some n) {P:Params} {h:Heap} {args:List WData} {vals:List Value}
  (hpre:l.row.toRowW.claim.pre args=true) (hwl:WellAll P h vals args) :
  ∃ a vs ns,vals=[Value.ref a]∧args=[WData.list (ns.map WData.int)]∧h.get? a=some { cls:=.type "list",data:=.seq vs.toArray }∧IntsAre vs ns∧ns.length≤n:=by
 have hsh:WShape.hasAll [] args [.list .int]=true:=(pre_splitW hpre).1
 have hc:l.pre.holds [] { args:=args }=true:=(pre_splitW hpre).2
 obtain ⟨d,r,rfl,h1,h2⟩:=hasAllW_cons hsh
 obtain rfl:=hasAllW_nil h2
 obtain ⟨xs,rfl,h3⟩:=hasW_list h1
 obtain ⟨ns,rfl⟩:=items_int h3
 have hlen:ns.length≤n:=by
  unfold OpenLaw.pre at hc
  have h4:(WTm.not (.lt (.lit (.int (n:Int))) (.len (.arg 0)))).holds [] { args:=[.list (ns.map .int)] }=true:=by
   have h4:=(holds_andW hc).1
   rw [hn] at h4
   exact h4
  have h5:=condW_of h4 (w_not (w_lt w_lit (w_len_list (w_arg rfl))))
  rw [List.length_map] at h5
  refine Nat.le_of_not_lt fun q=>?_
  have q':(n:Int) < ((ns.length:Nat):Int):=by omega
  first
   | (rw [decide_eq_true q'] at h5; exact absurd h5 (by decide))
   | (simp at h5; omega)
 cases hwl with
 | cons w1 w2 =>
  cases w2
  cases w1 with
  | list ho hall=>exact ⟨_,_,ns,rfl,rfl,ho,K3 ns _ hall,hlen⟩
theorem Zg6 (l:OpenLaw) (args:List WData):l.row.toRowW.claim.post args (.bool true) args=true :=
 postW_of (r:=l.row.toRowW) (X:=(true == true))
  (show WShape.has [] (.bool true) .bool=true by first | rfl | decide | simp [WShape.has,WShape.arms,WShape.armsAll])
  (show (WTm.eq .res (.lit (.bool true))).value [] { args:=args,res:=some (.bool true),after:=args }=some (.bool (true == true)) from w_eq_bool (w_res rfl) w_lit) rfl
theorem attach_call {l:OpenLaw} {n:Nat} {q:Program} {loose:List Str} {XP:(Str→Option Value)→Heap→Prop} {YP:World→Heap→Prop} {d:DefRec}
  (hn:l.most=some n) (hdf:d.params.defaults=[])
  (call:∀ (w:World) (s₀ s₁:Shared) (mg mb:Str→Option Value) (fa:Addr) (o:Obj) (pm cd doc:Value) (a:Addr) (vs:List Value) (ns:List Int),
   Ground q loose [] XP w s₀ mg mb s₁.heap→YP w s₁.heap →
   s₁.heap.get? fa=some o→o.data=.func (docDef d.name d.params d.body d.scope pm cd doc)→s₁.heap.CodeRec cd d.name→mg d.name=some (.ref fa) →
   s₁.heap.get? a=some { cls:=.type "list",data:=.seq vs.toArray }→IntsAre vs ns→ns.length≤n→s₁.gens=#[] →
   codeAny (model l.prog w) callerA (.call (.ref fa) ⟨[.ref a],[]⟩) (fun r s'=>r=.ok (.ret (.bool true))∧OldK s₁.heap s'.heap∧s'.os=s₁.os∧AllBare s'.gens) s₁) :
  WalkO q loose XP YP l.row.toRowW d [] (fun f vs=>PySem.call f vs):=by
 intro w s₀ s₁ mg mb G Y fa o pm cd doc dV kV ho hd hcd hD hmg hg args vals as hpre hlay hrd hwl hlo
 obtain rfl:dV=.none:=Dflts.none hD hdf
 obtain rfl:kV=.none:=Dflts.noKw hD
 obtain ⟨a,vs,ns,rfl,rfl,hobj,hints,hlen⟩:=Zgs hn hpre hwl
 refine enter_call (codeAny_mono (call w s₀ s₁ mg mb fa o pm cd doc a vs ns G Y ho (fd_plain hd) hcd hmg hobj hints hlen hg) fun r s' hq=>?_)
 obtain ⟨rfl,h2,h3,h4⟩:=hq
 exact ⟨.inl ⟨.bool true,.bool true,[],rfl,fun _=>rfl,.bool true,Zg6 l _,fun _=>⟨List.Pairwise.nil,fun _ hm=>(nomatch hm)⟩⟩,h2,h3,h4⟩
end Att
namespace L2
open PySem PySem.Spec PyProof.Rows
theorem Gy:∀ {vs:List Value} {ns:List Int},IntsAre vs ns→Vals (ns.map V.int) vs
 | _,_,.nil=>.nil
 | _,_,.cons n t h=>.cons ⟨t,rfl⟩ (Gy h)
end L2
namespace L2
open PySem PySem.Spec PyProof.Rows
noncomputable abbrev KOf {K:PySem.W.Frag} {h:Heap} (_:K.In h):PySem.W.Frag:=K
end L2
namespace L2
open PySem PySem.Spec PyProof.Rows
noncomputable def Xq (s:Stmt) (j:Nat):Stmt:=match s with
 | .ClassDef _ _ _ body _ _ _ _ _ _ _=>body.getD j (.Pass ⟨0,0,0,0⟩)
 | _=>.Pass ⟨0,0,0,0⟩
noncomputable def Xe (s:Stmt):Arguments:=match s with
 | .FunctionDef _ a _ _ _ _ _ _ _ _=>a
 | _=>{ posonlyargs:=[],args:=[],vararg:=none,kwonlyargs:=[],kw_defaults:=[],kwarg:=none,defaults:=[] }
noncomputable def Yn (s:Stmt):List Stmt:=match s with
 | .FunctionDef _ _ b _ _ _ _ _ _ _=>b
 | _=>[]
noncomputable def Zg (s:Stmt):Scope:=match s with
 | .FunctionDef _ _ _ _ _ _ sc _ _ _=>sc
 | _=>{ kind:=.function,names:=[],isGenerator:=false,isCoroutine:=false }
noncomputable abbrev E0:XK:=fun _ _ _=>False
structure Fun (K:PySem.W.Frag) (x qual:Str) (st:Stmt) (f:Addr) (fd:FuncData):Prop where
 ex:∃ (oc:Value) (od:Option Addr) (kV doc pm:Value) (an:Option Addr) (cdv ct:Value) (osl:Array (Option Value)),
  fd=PySem.W.fnOf x qual (Xe st) (Yn st) (Zg st) .none kV doc pm an cdv ct∧K.lookup f=some ⟨oc,od,.func fd,osl⟩∧PySem.W.codeIn K cdv qual=true
 kp:PySem.W.keepIn K (.ref f)=true
section
variable {P:Program} {w:World} {K:PySem.W.Frag} {mg:Str→Option Value} {base:Heap}
theorem Fun.binds {x qual:Str} {st:Stmt} {f:Addr} {fd:FuncData} {ps:List Str} (F:Fun K x qual st f fd)
  (h:∀ (kV doc pm:Value) (an:Option Addr) (cdv ct:Value) (us:List Value),us.length=ps.length→bindArgs (PySem.W.fnOf x qual (Xe st) (Yn st) (Zg st) .none kV doc pm an cdv ct) ⟨us,[]⟩=pure (ps.zip us)):Xx K fd ps []:=by
 obtain ⟨oc,od,kV,doc,pm,an,cdv,ct,osl,rfl,lk,hcd⟩:=F.ex
 exact .all (h kV doc pm an cdv ct)
theorem K6 {x qual:Str} {st:Stmt} {f:Addr} {oc:Value} {od an:Option Addr} {osl:Array (Option Value)} {kV doc pm cdv ct:Value} (l:K.lookup f=some ⟨oc,od,.func (PySem.W.fnOf x qual (Xe st) (Yn st) (Zg st) .none kV doc pm an cdv ct),osl⟩)
  (c:PySem.W.codeIn K cdv qual=true) (k:PySem.W.keepIn K (.ref f)=true):Fun K x qual st f (PySem.W.fnOf x qual (Xe st) (Yn st) (Zg st) .none kV doc pm an cdv ct):=⟨⟨oc,od,kV,doc,pm,an,cdv,ct,osl,rfl,l,c⟩,k⟩
end
theorem Zkq {A:Around} {k:Nat} (hr:Room k A):A.units + 1 < cLine:=Nat.lt_of_le_of_lt (Nat.add_le_add_left (by decide:1≤64) _) hr.units
theorem Zr {n:Nat} (h:n≤1000):n < sizeLine:=Nat.lt_of_le_of_lt h (by decide)
section
variable {X:Cx}
theorem pv (i:Nat) {x:Str} {pos:Pos} (hN:X.N[i]?=some x:=by rfl) (hv:Vis X.env.scope x:=by first | exact Or.inl rfl | exact Or.inr (Or.inl rfl) | exact Or.inr (Or.inr rfl)) (hd:(x == ("__debug__":Str))=false:=by decide)
  (hcd:(x == ("__classdict__":Str))=false:=by decide):PE X (.Name x pos) (tVar i):=Zg9 hN hv hd hcd
end
theorem iteF {A B:Prop} (h:B):if false=true then A else B:=by
 rw [if_neg Bool.false_ne_true]
 exact h
theorem iteT {A B:Prop} (h:A):if true=true then A else B:=by
 rw [if_pos rfl]
 exact h
theorem ite2 {c A B:Prop} [Decidable c] (h1:c→A) (h2:¬ c→B):if c then A else B:=by
 by_cases h:c
 ·rw [if_pos h]
  exact h1 h
 ·rw [if_neg h]
  exact h2 h
noncomputable def Same (H H':Hp):Prop:=∀ b o,H b=some o→H' b=some o
theorem Same.refl (H:Hp):Same H H:=fun _ _ h=>h
theorem Same.trans {H H1 H2:Hp} (a:Same H H1) (b:Same H1 H2):Same H H2:=fun c o h=>b c o (a c o h)
theorem Same.free {H H':Hp} (e:Same H H') {l:Addr} (h:H' l=Option.none):H l=Option.none:=by
 cases q:H l with
 | none=>rfl
 | some o =>
  rw [e l o q] at h
  cases h
theorem Same.seq {K:PySem.W.Frag} {H H':Hp} {a:Addr} {xs:List V} (e:Same H H') (h:SqL K H a xs):SqL K H' a xs:=by
 rcases h with (h | ⟨o,h⟩) | h
 ·exact .inl (.inl (e _ _ h))
 ·exact .inl (.inr ⟨o,e _ _ h⟩)
 ·exact .inr h
end L2
set_option maxHeartbeats 4000000
namespace L2
open PySem PySem.Spec PyProof.Rows
noncomputable def Yo (env:Env):List (Str × NameKind)→List (Str × Addr)→List (Str × Addr)
 | [],acc=>acc
 | (n,k) :: r,acc=>if (k == NameKind.free)=true then (match env.cells.lookup n with
  | some c=>Yo env r ((n,c) :: acc)
  | none=>Yo env r acc) else Yo env r acc
theorem Wp {env:Env}:∀ (ns:List (Str × NameKind)) (acc:List (Str × Addr)),(∀ x c,acc.lookup x=some c→env.cells.lookup x=some c) →
  ∀ x c,(Yo env ns acc).lookup x=some c→env.cells.lookup x=some c
 | [],acc,h=>h
 | (n,k) :: r,acc,h=>by
  unfold Yo
  split
  ·cases e:env.cells.lookup n with
   | none=>exact Wp r acc h
   | some c =>
    refine Wp r _ fun x d hx=>?_
    rw [List.lookup_cons] at hx
    cases hb:x == n with
    | true =>
     rw [hb] at hx
     cases hx
     rw [beq_iff_eq.mp hb]
     exact e
    | false =>
     rw [hb] at hx
     exact h x d hx
  ·exact Wp r acc h
theorem Wq {env:Env}:∀ (ns:List (Str × NameKind)) (acc:List (Str × Addr)) (x:Str),(∃ c,acc.lookup x=some c)→∃ c,(Yo env ns acc).lookup x=some c
 | [],acc,x,h=>h
 | (n,k) :: r,acc,x,h=>by
  unfold Yo
  split
  ·cases e:env.cells.lookup n with
   | none=>exact Wq r acc x h
   | some c =>
    refine Wq r _ x ?_
    rw [List.lookup_cons]
    cases hb:x == n with
    | true=>exact ⟨c,rfl⟩
    | false=>exact h
  ·exact Wq r acc x h
theorem Ji {env:Env}:∀ (ns:List (Str × NameKind)) (acc:List (Str × Addr)) (x:Str),(x,NameKind.free)∈ns→(∃ c,env.cells.lookup x=some c)→∃ c,(Yo env ns acc).lookup x=some c
 | [],acc,x,h,_=>by cases h
 | (n,k) :: r,acc,x,h,hc=>by
  rcases List.mem_cons.mp h with e | h
  ·cases e
   obtain ⟨c,hc⟩:=hc
   unfold Yo
   rw [if_pos (show (NameKind.free == NameKind.free)=true by decide),hc]
   exact Wq r _ n ⟨c,by rw [List.lookup_cons,beq_self_eq_true]⟩
  ·unfold Yo
   split
   ·cases e:env.cells.lookup n with
    | none=>exact Ji r acc x h hc
    | some c=>exact Ji r _ x h hc
   ·exact Ji r acc x h hc
theorem V0 {env:Env} (f:Str × NameKind→List (Str × Addr)→Sem (ForInStep (List (Str × Addr))))
  (hf:∀ name kind cs,f (name,kind) cs=if (kind == NameKind.free)=true then (do let a ← cellOf env name; pure (.yield ((name,a) :: cs))) else pure (.yield cs)) :
  ∀ (ns:List (Str × NameKind)) (acc:List (Str × Addr)),(∀ y∈ns,y.2=.free→∃ c,env.cells.lookup y.1=some c)→forIn ns acc f=pure (Yo env ns acc)
 | [],acc,_=>by rw [List.forIn_nil]; rfl
 | (n,k) :: r,acc,h=>by
  rw [List.forIn_cons,hf]
  unfold Yo
  have hr:∀ y∈r,y.2=.free→∃ c,env.cells.lookup y.1=some c:=fun y hy=>h y (List.mem_cons_of_mem _ hy)
  split
  ·rename_i hk
   obtain ⟨c,hc⟩:=h (n,k) List.mem_cons_self (by simpa using hk)
   have hc':env.cells.lookup n=some c:=hc
   have e:cellOf env n=pure c:=by unfold cellOf; rw [hc']
   rw [e,hc']
   exact V0 f hf r ((n,c) :: acc) hr
  ·exact V0 f hf r acc hr
theorem Qz {env:Env} {scope:Scope} (h:∀ y∈scope.names,y.2=.free→∃ c,env.cells.lookup y.1=some c):closureFor scope env=pure (Yo env scope.names []):=by
 unfold closureFor
 dsimp only
 rw [V0 (env:=env) _ (fun name kind cs=>by split <;> rfl) scope.names [] h]
 rfl
theorem W9 (env:Env):∀ (names:List (Str × NameKind)) (x:Str),
  (names.map fun (n,k)=>if (k == NameKind.free && env.scope.kind == .function && env.kindOf n == some .cell) then (n,NameKind.cell) else (n,k)).lookup x =
   (names.lookup x).map fun k=>if (k == NameKind.free && env.scope.kind == .function && env.kindOf x == some .cell)=true then NameKind.cell else k
 | [],_=>rfl
 | (n,k) :: r,x=>by
  have ih:=W9 env r x
  have e:(if (k == NameKind.free && env.scope.kind == .function && env.kindOf n == some .cell)=true then (n,NameKind.cell) else (n,k))=(n,if (k == NameKind.free && env.scope.kind == .function && env.kindOf n == some .cell)=true then NameKind.cell else k):=by split <;> rfl
  show List.lookup x ((if (k == NameKind.free && env.scope.kind == .function && env.kindOf n == some .cell)=true then (n,NameKind.cell) else (n,k)) :: _)=_
  rw [e,List.lookup_cons,List.lookup_cons]
  cases hx:x == n with
  | true =>
   have e2:x=n:=beq_iff_eq.mp hx
   subst e2
   rfl
  | false=>exact ih
theorem Uh {env:Env} {names:List (Str × NameKind)} {x:Str} {k:NameKind} (hc:∀ y∈names,y.2≠.cell)
  (h:(names.map fun (n,k)=>if (k == NameKind.free && env.scope.kind == .function && env.kindOf n == some .cell) then (n,NameKind.cell) else (n,k)).lookup x=some k) (hk:k=.cell∨k=.free):names.lookup x=some .free:=by
 rw [W9] at h
 cases e:names.lookup x with
 | none=>rw [e] at h; cases h
 | some k' =>
  rw [e] at h
  have hk':k'≠.cell:=hc _ (PySem.mem_of_lookup e)
  have h':(if (k' == NameKind.free && env.scope.kind == .function && env.kindOf x == some .cell)=true then NameKind.cell else k')=k:=Option.some.inj h
  split at h'
  ·rename_i q
   simp only [Bool.and_eq_true,beq_iff_eq] at q
   rw [q.1.1]
  ·subst h'
   rcases hk with z | z
   ·exact absurd z hk'
   ·rw [z]
theorem Kt {env:Env} {names:List (Str × NameKind)} {x:Str} (h:names.lookup x=some .free) :
  (names.map fun (n,k)=>if (k == NameKind.free && env.scope.kind == .function && env.kindOf n == some .cell) then (n,NameKind.cell) else (n,k)).lookup x≠some .local:=by
 rw [W9,h]
 intro z
 have z':(if (NameKind.free == NameKind.free && env.scope.kind == .function && env.kindOf x == some .cell)=true then NameKind.cell else NameKind.free)=.local:=Option.some.inj z
 split at z' <;> cases z'
noncomputable def Z7 (X:Cx) (N':List Str) (scope:Scope) (C:Addr) (s₀:Shared) (H₀:Hp) (ex:List Addr):Cx :=
 { X with N:=N',s₀:=s₀,H₀:=H₀,env:=compEnvC scope (Yo X.env scope.names []) C X.env,outer:=X.stack,ex:=ex,fn:=fun _=>false,pn:=[],xe:=fun _ _=>False }
noncomputable def FvOk (X:Cx) (scope:Scope):List (Str × Nat)→Prop
 | []=>True
 | (x,j) :: r=>(X.N[j]?=some x∧scope.names.lookup x=some .free∧(X.env.kindOf x=some .cell∨X.env.kindOf x=some .free))∧FvOk X scope r
theorem FvOk.mem {X:Cx} {scope:Scope}:∀ {l:List (Str × Nat)},FvOk X scope l→∀ y∈l,X.N[y.2]?=some y.1∧scope.names.lookup y.1=some .free∧(X.env.kindOf y.1=some .cell∨X.env.kindOf y.1=some .free)
 | [],_,_,h=>by cases h
 | (x,j) :: r,h,y,hy=>by
  rcases List.mem_cons.mp hy with e | hy
  ·cases e; exact h.1
  ·exact FvOk.mem h.2 y hy
noncomputable def blkN (ts:List Str) (fv:List (Str × Nat)):List Str:=ts ++ fv.map (·.1)
noncomputable def blkS (ts:List Str) (fv:List (Str × Nat)) (σ:St):St:=ts.map (fun _=>none) ++ fv.map fun y=>(σ[y.2]?).join
structure BlkOk (X:Cx) (scope:Scope) (fv:List (Str × Nat)):Prop where
 kind:scope.kind=.function
 nocell:∀ y∈scope.names,y.2≠.cell
 names:∀ y∈scope.names,y.2=.local→scope.names.lookup y.1=some .local
 free:∀ y∈scope.names,y.2=.free→X.env.kindOf y.1=some .cell∨X.env.kindOf y.1=some .free
 fvs:FvOk X scope fv
section
variable {X:Cx} {pins:List (Addr × Obj)} {σ:St} {H:Hp} {s:Shared} {scope:Scope} {ts:List Str} {fv:List (Str × Nat)}
theorem Ft {h':Heap} {fp:List Addr} {tk:Nat} (B:BlkOk X scope fv) (I:Inv X pins σ H s) (hf:∀ b∈fp,FpOk X pins H b) (ho:∀ b∈fp,∃ o,s.heap.get? b=some o)
  (hn:h'.Ns s.heap.objs.size (fun _=>none)) (hk:∀ b o,s.heap.get? b=some o→h'.get? b=some o) :
  Inv (Z7 X (blkN ts fv) scope s.heap.objs.size s H fp) [] (blkS ts fv σ) H { s with heap:=h',toks:=tk }:=by
 have has:∀ y∈scope.names,y.2=.free→∃ c,X.env.cells.lookup y.1=some c:=fun y hy e=>I.ok.has y.1 (B.free y hy e)
 have snd:∀ x c,(Yo X.env scope.names []).lookup x=some c→X.env.cells.lookup x=some c:=Wp _ _ (fun x c h=>by simp at h)
 have fr:∀ x,(scope.names.lookup x=some .free)→∃ c,(Yo X.env scope.names []).lookup x=some c:=fun x hx =>
  Ji _ _ x (PySem.mem_of_lookup hx) (has _ (PySem.mem_of_lookup hx) rfl)
 have nfs:∀ b∈fp,b ∉ frs X.stack:=fun b hb z=>by
  obtain ⟨_,h1,h2,_⟩:=hf b hb
  rcases List.mem_cons.mp (I.stkSub b z) with e | e
  ·exact h1 e
  ·exact h2 e
 have lt:∀ b∈fp,b < s.heap.objs.size:=fun b hb=>let ⟨o,e⟩:=ho b hb; Heap.lt_size e
 refine ⟨⟨I.ok.mod,?_,I.ok.glob,I.ok.blt,Nat.le_refl _,fun x y c h1 h2=>I.ok.inj x y c (snd x c h1) (snd y c h2),fun x hx=>?_,fun _ _ h=>absurd (show false=true from h) Bool.false_ne_true,I.ok.hd,I.ok.frames,.inl rfl,fun b hb=>⟨Nat.ne_of_lt (lt b hb),fun x c e=>(hf b hb).2.2.2.2.1 x c (snd x c e)⟩,I.bs,Nat.le_trans I.ok.bsz I.sz,fun b o e hb=>?_,nfs,I.stack,I.stkFree⟩,
  rfl,I.bare,Un.kept hk,⟨_,hn,fun i x v h1 h2 h3=>?_⟩,fun x c e=>?_,I.fresh,fun x c e=>I.freeC x c (snd x c e),fun p hp=>?_,I.hok.kept hk,?_⟩
 ·exact B.kind
 ·refine fr x ?_
  have hx':(relabel scope X.env).names.lookup x=some .cell∨(relabel scope X.env).names.lookup x=some .free:=hx
  rcases hx' with e | e
  ·exact Uh B.nocell e (.inl rfl)
  ·exact Uh B.nocell e (.inr rfl)
 ·rcases (hf b hb).2.2.2.1 with z | z
  ·exact I.ok.noex b o e z
  ·exact absurd (Nat.lt_of_lt_of_le (Heap.lt_size e) (Nat.le_trans I.ok.bsz z)) (Nat.lt_irrefl _)
 ·have h1:(ts ++ fv.map (·.1))[i]?=some x:=h1
  have h2:(ts.map (fun _=>(none:Option V)) ++ fv.map fun y=>(σ[y.2]?).join)[i]?=some (some v):=h2
  by_cases hi:i < ts.length
  ·rw [List.getElem?_append_left (by simpa using hi),List.getElem?_map] at h2
   cases e:ts[i]? with
   | none=>rw [e] at h2; cases h2
   | some z=>rw [e] at h2; cases h2
  ·rw [List.getElem?_append_right (by simpa using hi),List.length_map,List.getElem?_map] at h2
   rw [List.getElem?_append_right (by simpa using hi),List.getElem?_map] at h1
   cases e:fv[i - ts.length]? with
   | none=>rw [e] at h2; cases h2
   | some y =>
    rw [e] at h1 h2
    have e1:y.1=x:=by simpa using h1
    have e2:(σ[y.2]?).join=some v:=by simpa using h2
    obtain ⟨f1,f2,f3⟩:=B.fvs.mem y (List.mem_of_getElem? e)
    have e3:σ[y.2]?=some (some v):=by
     cases q:σ[y.2]? with
     | none=>rw [q] at e2; cases e2
     | some z=>rw [q] at e2; exact congrArg some e2
    obtain ⟨m,hm,hl⟩:=I.loc
    obtain ⟨u,r,l⟩:=hl y.2 y.1 v f1 e3 (by rcases f3 with z | z; exact .inr (.inl z); exact .inr (.inr z))
    rw [e1] at f2 f3 l
    refine ⟨u,r,?_⟩
    obtain ⟨c,hc⟩:=fr x f2
    have hc':=snd x c hc
    rcases l with ⟨l1,_⟩ | ⟨_,c2,l2,l3⟩
    ·rcases f3 with z | z
     ·rw [l1] at z; cases z
     ·rw [l1] at z; cases z
    ·rw [hc'] at l2
     cases l2
     have hv:Vis (relabel scope X.env) x:=h3
     rcases hv with z | z | z
     ·exfalso
      exact Kt f2 z
     ·exact .inr ⟨.inl z,c,hc,l3.keeps hk⟩
     ·exact .inr ⟨.inr z,c,hc,l3.keeps hk⟩
 ·obtain ⟨v,z⟩:=I.cell x c (snd x c e)
  exact ⟨v,z.keeps hk⟩
 ·exact absurd (show p∈([]:List (Addr × Obj)) from hp) (by simp)
 ·show (ts.map (fun _=>(none:Option V)) ++ fv.map fun y=>(σ[y.2]?).join).length=(ts ++ fv.map (·.1)).length
  simp
theorem Inv.apart {C:Addr} {h':Heap} (I:Inv X pins σ H s) (hs:Heap.SameBut C s.heap h') (hC:H C=none) (h0:X.s₀.heap.objs.size≤C) (hL:C≠X.env.locals) (hc:∀ x c,X.env.cells.lookup x=some c→c≠C) (hp:∀ p∈X.pn ++ pins,p.1≠C) :
  Inv X pins σ H { s with heap:=h' } :=
 I.turned (t':=s.toks) (it:=C) (fun b o hb e=>(hs.2 b hb).trans e) hC hL (.inr h0) hc hp
theorem Ze4 {s':Shared} {H':Hp} {σ':St} {C:Addr} {N':List Str} {fp:List Addr} (I:Inv X pins σ H s) (hf:∀ b∈fp,FpOk X pins H b) (hC:s.heap.objs.size≤C)
  (J:Inv (Z7 X N' scope C s H fp) [] σ' H' s'):Inv X pins σ H' s'∧H' C=none∧X.s₀.heap.objs.size≤C∧C≠X.env.locals∧(∀ x c,X.env.cells.lookup x=some c→c≠C)∧(∀ p∈X.pn ++ pins,p.1≠C):=by
 refine ⟨I.call' J.os J.base J.hok J.bare fun b hb=>?_,J.free,Nat.le_trans I.sz hC,Nat.ne_of_gt (Nat.lt_of_lt_of_le I.lt hC),fun x c e z=>?_,fun p hp z=>?_⟩
 ·obtain ⟨_,h1,_,h3,h4,h5⟩:=hf b hb
  exact ⟨h3,h1,h4,h5⟩
 ·obtain ⟨v,q⟩:=I.cell x c e
  exact absurd (Nat.lt_of_lt_of_le q.lt (by rw [z]; exact hC)) (Nat.lt_irrefl _)
 ·exact absurd (Nat.lt_of_lt_of_le (Heap.lt_size (I.pin p hp).1) (by rw [z]; exact hC)) (Nat.lt_irrefl _)
end
end L2
set_option maxHeartbeats 4000000
namespace L2
open PySem PySem.Spec PyProof.Rows
noncomputable abbrev TB:=St→Hp→(St→Hp→Prop)→Prop
noncomputable def PTs (X:Cx) (ifs:List Expr) (t:TT):Prop :=
 ∀ (pins:List (Addr × Obj)) (s:Shared) (σ:St) (H:Hp) (Q:Bool→Hp→Prop),Inv X pins σ H s→t σ H Q →
  wpAny (model X.prog X.w) X.A (forIn ifs true fun c r=>if r=true then do let ok ← isTrue c X.env (eval c X.env); pure (ForInStep.yield ok) else pure (ForInStep.yield r)) (TP X pins σ Q) X.xe s
noncomputable def tYes:TT:=fun _ H Q=>Q true H
theorem Yf {X:Cx}:PTs X [] tYes:=fun pins s σ H Q I h=>wpAny_tests_nil ⟨H,I,h⟩
theorem Wu {X:Cx} {c:Expr} {t:TT} (h:PT X c t):PTs X [c] t:=fun pins s σ H Q I hq=>wpAny_tests_one (h pins s σ H Q I hq)
noncomputable def PB (X:Cx) (kont:Sem Fin) (c:Code) (t:TB):Prop :=
 ∀ (pins:List (Addr × Obj)) (s:Shared) (σ:St) (H:Hp) (N:St→Hp→Prop),Inv X pins σ H s→t σ H N →
  wpAny (model X.prog X.w) X.A kont (fun fin s'=>fin=.again c∧∃ σ' H',Inv X pins σ' H' s'∧N σ' H') X.xe s
noncomputable def Jk (J:It) (g:TG) (tt:TT) (tb:TB) (R:St→Hp→Prop) (σ:St) (H:Hp):Prop :=
 ∃ W:Nat→Nat→St→Hp→Prop,(∃ m,W 0 m σ H)∧∀ i m σ H,W i m σ H →
  (J.stop i H∧R σ H)∨(J.go i H∧∃ N:St→Hp→Prop,(∀ σ' H',N σ' H'→∃ m',m' < m∧W (i + 1) m' σ' H') ∧
   ∀ x H',J.yld i H x H'→g x σ H' fun σ2 H2=>tt σ2 H2 fun b H3=>if b=true then tb σ2 H3 N else N σ2 H3)
section
variable {X:Cx}
theorem Qw {e tg:Expr} {d:Nat} {acc:Value} {ifs:List Expr} {kont:Sem Fin} {J:It} {fp:List Addr} {it:Addr} {tn:Nat→Heap→Prop} {g:TG} {tt:TT} {tb:TB} {p:Pos} {pins:List (Addr × Obj)} {s:Shared} {σ:St} {H:Hp} {R:St→Hp→Prop}
  {RR:Result→Shared→Prop} (hxe:X.xe=fun _ _=>False)
  (hcq:Code.quiet (.compLoop e d (.ref it) acc X.env)=true) (hden:(model X.prog X.w).den (.compLoop e d (.ref it) acc X.env)=(compTurn e d (.ref it) acc X.env).onRaise (fun x=>do noteFrame x X.env; theTreesLotGoes x))
  (hund:X.A.under (.compLoop e d (.ref it) acc X.env)=X.A)
  (heq:compTurn e d (.ref it) acc X.env=(standAt p >>= fun _=>pyNext (.ref it) >>= fun r=>match r with
   | none=>pure (.done .next)
   | some v=>letOwnedTupleGo tg (.ref it) v >>= fun _=>assign tg X.env v >>= fun _ =>
    (forIn ifs true fun c r=>if r=true then do let ok ← isTrue c X.env (eval c X.env); pure (ForInStep.yield ok) else pure (ForInStep.yield r)) >>= fun ok =>
     if ok=true then kont else again (.compLoop e d (.ref it) acc X.env)))
  (T:Turn X.prog X.w X.K tg J fp it tn) (hc:X.calm=true) (hg:PG X tg g) (ht:PTs X ifs tt) (hb:PB X kont (.compLoop e d (.ref it) acc X.env) tb)
  (hf:∀ b∈fp,FpOk X pins H b) (I:Inv X pins σ H s) (st:tn 0 s.heap) (h:Jk J g tt tb R σ H)
  (hR:∀ s' σ' H',Inv X pins σ' H' s'→R σ' H'→RR (.ok .next) s') :
  codeAny (model X.prog X.w) X.A (.compLoop e d (.ref it) acc X.env) RR s:=by
 obtain ⟨W,⟨m0,w0⟩,turn⟩:=h
 have stat:∀ {H':Hp},(∀ b∈fp,H' b=none)→∀ b∈fp,FpOk X pins H' b:=fun hn b hb=>⟨hn b hb,(hf b hb).2⟩
 refine codeAny_loop hcq (fun n s'=>∃ i σ' H',Inv X pins σ' H' s'∧tn i s'.heap∧(∀ b∈fp,H' b=none)∧W i n σ' H') ?_ m0 ⟨0,σ,H,I,st,fun b hb=>(hf b hb).1,w0⟩
 rintro n s3 ⟨i,σ3,H3,I3,st3,fr3,w3⟩
 rw [hden,hund]
 refine wpAny_noted (wpAny_mono (E:=fun _ _=>False) ?_ (fun _ _ q=>q) fun _ _ z=>z.elim)
 rw [heq]
 have hxe':∀ {α:Type} {t:Sem α} {Q:α→Shared→Prop} {s:Shared},wpAny (model X.prog X.w) X.A t Q X.xe s→wpAny (model X.prog X.w) X.A t Q (fun _ _=>False) s:=fun h=>by rw [hxe] at h; exact h
 refine wpAny_bind (wpAny_standAt (wpAny_bind ?_))
 rcases turn i n σ3 H3 w3 with ⟨stop,qn⟩ | ⟨go,N,hN,step⟩
 ·refine thn (T.done X rfl rfl rfl hc i pins s3 σ3 H3 _ I3 (stat fr3) st3 stop) fun r s4 ⟨hr,I4⟩=>?_
  subst hr
  exact wpAny_pure (hR s4 σ3 H3 I4 qn)
 ·refine thn (T.item X rfl rfl rfl hc i pins s3 σ3 H3 _ I3 (stat fr3) st3 go) fun r s4 ⟨u,hr,h4⟩=>?_
  subst hr
  refine wpAny_bind (thn h4 fun _ s5 zz9=>?_)
  obtain ⟨x,H5,I5,r5,y5,st5,fr5⟩:=zz9
  have I5':=I5.pinned (stat fr5) (T.obj _ _ st5)
  refine wpAny_bind (hxe' (thn (hg _ s5 σ3 H5 x u _ I5' r5 (step x H5 y5)) fun _ s6 zz9=>?_))
  obtain ⟨σ6,H6,I6,q6⟩:=zz9
  refine wpAny_bind (hxe ▸ thn (ht _ s6 σ6 H6 _ I6 q6) fun ok s7 zz9=>?_)
  obtain ⟨H7,I7,q7⟩:=zz9
  have back:∀ {σ7:St} {H7:Hp} {s7:Shared},Inv X (pins ++ Uo fp s5.heap) σ7 H7 s7→N σ7 H7→∃ m,m < n∧∃ i σ' H',Inv X pins σ' H' s7∧tn i s7.heap∧(∀ b∈fp,H' b=none)∧W i m σ' H':=fun {σ7 H7 s7} I7 n7=>by
   obtain ⟨m',hm,w7⟩:=hN σ7 H7 n7
   refine ⟨m',hm,i + 1,σ7,H7,I7.unpinned,T.keep _ _ _ st5 fun b hb o e=>(I7.pin (b,o) (List.mem_append_right _ (List.mem_append_right _ (J0 hb e)))).1,fun b hb=>?_,w7⟩
   obtain ⟨o,e,d⟩:=T.obj _ _ st5 b hb
   exact (I7.pin (b,o) (List.mem_append_right _ (List.mem_append_right _ (J0 hb e)))).2.1
  cases ok with
  | false=>exact hxe ▸ wpAny_pure ⟨rfl,back I7 q7⟩
  | true =>
   refine thn (hb _ s7 σ6 H7 N I7 q7) fun fin s8 zz9=>?_
   obtain ⟨hfin,σ8,H8,I8,q8⟩:=zz9
   subst hfin
   exact ⟨rfl,back I8 q8⟩
end
end L2
set_option maxHeartbeats 4000000
namespace L2
open PySem PySem.Spec PyProof.Rows
noncomputable def Zfc (te:TE) (D:Addr):TB:=fun σ H N=>te σ H fun v H1=>∃ xs,H1 D=some (.lst xs)∧xs.length < sizeLine∧N σ (upd H1 D (.lst (xs ++ [v])))
section
variable {X:Cx}
theorem Ya {elt:Expr} {te:TE} {D:Addr} {c:Code} (he:PE X elt te) :
  PB X ((eval elt X.env >>= fun x=>call (.builtin "list.append") [.ref D,x] >>= fun _=>pure ()) >>= fun _=>again c) c (Zfc te D):=by
 intro pins s σ H N I h
 refine wpAny_bind (wpAny_bind (thn (he pins s σ H _ I h) fun u s1 zz9=>?_))
 obtain ⟨v,H1,I1,r1,q1⟩:=zz9
 obtain ⟨xs,hD,hl,q⟩:=q1
 refine wpAny_bind (thn (Yc pins s1 σ H1 (.ref D) [v] (.ref D) [u] (fun _ H2=>N σ H2) I1 rfl (.cons r1 .nil) ⟨D,xs,v,rfl,rfl,hD,hl,q⟩) fun _ s2 zz9=>?_)
 obtain ⟨_,H2,I2,_,q2⟩:=zz9
 exact wpAny_pure (wpAny_pure ⟨rfl,σ,H2,I2,q2⟩)
noncomputable def tGen (wi:TI) (g:TG) (tt:TT) (tb:TB):TB:=fun σ H N=>wi σ H fun J H1=>Jk J g tt tb N σ H1
theorem Zf6 {prog:Program} {w:World} {A:Around} {R:Result→Shared→Prop} {s:Shared} {elt:Expr} {t0 i0:Expr} {f0:List Expr} {t1 i1:Expr} {f1:List Expr} {scope:Scope} {pos:Pos} {it acc:Value} {env:Env}
  (h0:codeAny (model prog w) A (.compLoop (.ListComp elt [⟨t0,i0,f0,0⟩,⟨t1,i1,f1,0⟩] scope pos) 1 it acc env) R s)
  (h:wpAny (model prog w) A (pyIter it) (fun it' s'=>codeAny (model prog w) A (.compLoop (.ListComp elt [⟨t0,i0,f0,0⟩,⟨t1,i1,f1,0⟩] scope pos) 1 it' acc env) R s')
   (notedBy (model prog w) A env fun x s'=>R (.error x) s') s) :
  codeAny (model prog w) A (.compStart (.ListComp elt [⟨t0,i0,f0,0⟩,⟨t1,i1,f1,0⟩] scope pos) 1 it acc env) R s:=by
 refine codeAny_of_tree ?_
 show wpAny _ _ ((compStart (.ListComp elt [⟨t0,i0,f0,0⟩,⟨t1,i1,f1,0⟩] scope pos) 1 it acc env).onRaise (fun x=>do noteFrame x env; standAt theWindowsPlace)) _ _ s
 refine wpAny_notedAt ?_
 unfold compStart
 show wpAny _ _ (ask >>= _) _ _ s
 refine wpAny_bind (wpAny_askSetting (wpAny_ite ?_))
 split
 ·first
   | exact wpAny_bind (wpAny_pure (wpAny_pure (And.intro rfl h0)))
   | exact wpAny_pure (And.intro rfl h0)
 ·first
   | exact wpAny_bind (wpAny_rule (wpAny_bind (wpAny_standAt (wpAny_bind (wpAny_mono h (fun it' s' h'=>wpAny_pure (And.intro rfl h')) fun _ _ x=>x)))))
   | (refine wpAny_bind (wpAny_rule ?_); show wpAny _ _ (standAt i1.pos >>= _) _ _ s; exact wpAny_bind (wpAny_standAt (wpAny_bind (wpAny_mono h (fun it' s' h'=>wpAny_pure (And.intro rfl h')) fun _ _ x=>x))))
theorem Zhd {elt t0 i0 t1 i1:Expr} {f0 f1:List Expr} {scope:Scope} {pos:Pos} {D:Addr} {c:Code} {wi:TI} {g:TG} {tt:TT} {te:TE} (hxe:X.xe=fun _ _=>False) (hc:X.calm=true)
  (hi:PI X t1 i1 wi) (hg:PG X t1 g) (ht:PTs X f1 tt) (he:PE X elt te) (hs:∀ x,foldedSetIterable i1 X.env x=pure x:=by intro _; rfl) :
  PB X (eval i1 X.env >>= fun x=>standAt i1.pos >>= fun _=>foldedSetIterable i1 X.env x >>= fun x=>holding [x] (pyIter x) >>= fun it =>
   runOwn (.compStart (.ListComp elt [⟨t0,i0,f0,0⟩,⟨t1,i1,f1,0⟩] scope pos) 1 it (.ref D) X.env) X.env >>= fun _=>again c) c (tGen wi g tt (Zfc te D)):=by
 intro pins s σ H N I h
 refine wpAny_bind (thn (hi pins s σ H _ I h) fun v s1 h1=>wpAny_bind (wpAny_standAt ?_))
 rw [hs]
 refine wpAny_bind (wpAny_pure (wpAny_bind (wpAny_holding (thn h1 fun itv s2 h2=>?_))))
 obtain ⟨it,fp,tn,J,H2,e,I2,T,st2,f2,L⟩:=h2
 subst e
 have loop:∀ (A:Around),A=X.A→codeAny (model X.prog X.w) A (.compLoop (.ListComp elt [⟨t0,i0,f0,0⟩,⟨t1,i1,f1,0⟩] scope pos) 1 (.ref it) (.ref D) X.env)
   (fun r s'=>match r with | .ok f=>wpAny (model X.prog X.w) X.A (again c) (fun fin s'=>fin=.again c∧∃ σ' H',Inv X pins σ' H' s'∧N σ' H') X.xe s' | .error e=>cameBackBy (model X.prog X.w) X.A X.env X.xe e s') s2:=by
  rintro A rfl
  exact Qw (tg:=t1) (ifs:=f1) (R:=N) hxe rfl rfl rfl rfl T hc hg ht (Ya (c:=.compLoop (.ListComp elt [⟨t0,i0,f0,0⟩,⟨t1,i1,f1,0⟩] scope pos) 1 (.ref it) (.ref D) X.env) he) f2 I2 st2 L fun s' σ' H' I' q=>wpAny_pure ⟨rfl,σ',H',I',q⟩
 refine wpAny_bind (wpAny_runOwn (h:=none) ?_)
 exact Zf6 (loop _ rfl) (T.self _ _ _ _ _ st2 (loop _ rfl))
end
end L2
set_option maxHeartbeats 4000000
namespace L2
open PySem PySem.Spec PyProof.Rows
noncomputable def Zfd (ts:List Str) (fv:List (Str × Nat)) (wi:TI) (g:TG) (tt:TT) (tb:Addr→TB):TE:=fun σ H Q=>wi σ H fun J H1=>∀ D,H1 D=none →
 Jk J g tt (tb D) (fun _ H'=>Q (.ref D) H') (blkS ts fv σ) (upd H1 D (.lst []))
section
variable {X:Cx} {ts:List Str} {fv:List (Str × Nat)} {scope:Scope} {elt t0 i0:Expr} {f0:List Expr} {rest:List Comprehension} {pos:Pos} {wi:TI} {g:TG} {tt:TT} {tb:Addr→TB} {kont:Env→Addr→Addr→Sem Fin}
theorem Fq (B:BlkOk X scope fv) (hc:X.calm=true) (hi:PI X t0 i0 wi)
  (hg:∀ C s₀ H₀ ex,PG (Z7 X (blkN ts fv) scope C s₀ H₀ ex) t0 g) (ht:∀ C s₀ H₀ ex,PTs (Z7 X (blkN ts fv) scope C s₀ H₀ ex) f0 tt)
  (heq:∀ (env:Env) (it D:Addr),compTurn (.ListComp elt (⟨t0,i0,f0,0⟩ :: rest) scope pos) 0 (.ref it) (.ref D) env=(standAt i0.pos >>= fun _=>pyNext (.ref it) >>= fun r=>match r with
   | none=>pure (.done .next)
   | some v=>letOwnedTupleGo t0 (.ref it) v >>= fun _=>assign t0 env v >>= fun _ =>
    (forIn f0 true fun c r=>if r=true then do let ok ← isTrue c env (eval c env); pure (ForInStep.yield ok) else pure (ForInStep.yield r)) >>= fun ok =>
     if ok=true then kont env it D else again (.compLoop (.ListComp elt (⟨t0,i0,f0,0⟩ :: rest) scope pos) 0 (.ref it) (.ref D) env)))
  (hb:∀ C s₀ H₀ ex it D,PB (Z7 X (blkN ts fv) scope C s₀ H₀ ex) (kont (Z7 X (blkN ts fv) scope C s₀ H₀ ex).env it D) (.compLoop (.ListComp elt (⟨t0,i0,f0,0⟩ :: rest) scope pos) 0 (.ref it) (.ref D) (Z7 X (blkN ts fv) scope C s₀ H₀ ex).env) (tb D))
  {pins:List (Addr × Obj)} {s:Shared} {σ:St} {H:Hp} {Q:VK} {RR:Value→Addr→Result→Shared→Prop} (I:Inv X pins σ H s) (h:Zfd ts fv wi g tt tb σ H Q)
  (hRR:∀ D C s' H',Inv X pins σ H' s'→H' C=none→X.s₀.heap.objs.size≤C→C≠X.env.locals→(∀ x c,X.env.cells.lookup x=some c→c≠C)→(∀ p∈X.pn ++ pins,p.1≠C)→(∃ m,s'.heap.Ns C m)→Q (.ref D) H'→RR (.ref D) C (.ok .next) s') :
  wpAny (model X.prog X.w) X.A (eval i0 X.env) (fun x s₁=>wpAny (model X.prog X.w) X.A (pyIter x) (fun it s₂=>wpAny (model X.prog X.w) X.A (newList []) (fun acc s₃ =>
   wpAny (model X.prog X.w) X.A (newFunctionEnv scope X.env.globals (Yo X.env scope.names []) [] X.env.qual none .none (some X.env)) (fun cenv s₄ =>
    codeAny (model X.prog X.w) X.A (.compStart (.ListComp elt (⟨t0,i0,f0,0⟩ :: rest) scope pos) 0 it acc { cenv with scope:=relabel scope X.env }) (RR acc cenv.locals) s₄) X.xe s₃) X.xe s₂) X.xe s₁) X.xe s:=by
 refine thn (hi pins s σ H _ I h) fun v s1 h1=>thn h1 fun itv s2 h2=>?_
 obtain ⟨it,fp,tn,J,H2,e,I2,T,st2,f2,L⟩:=h2
 subst e
 have L:=L s2.heap.objs.size I2.fresh
 refine wpAny_newObj_type ?_
 have I3:Inv X pins σ (upd H2 s2.heap.objs.size (.lst [])) { s2 with heap:=s2.heap.push { cls:=.type "list",data:=.seq ([]:List Value).toArray },toks:=s2.toks }:=I2.lnew (its:=[]) (t':=s2.toks) .nil (Nat.zero_le _)
 have ho2:∀ b∈fp,∃ o,s2.heap.get? b=some o∧∀ v,o.data≠.cell v:=T.obj _ _ st2
 have f3:∀ b∈fp,FpOk X pins (upd H2 s2.heap.objs.size (.lst [])) b:=fun b hb=>by
  obtain ⟨o,ho,_⟩:=ho2 b hb
  refine ⟨?_,(f2 b hb).2⟩
  rw [Zd (Nat.ne_of_lt (Heap.lt_size ho))]
  exact (f2 b hb).1
 have st3:tn 0 (s2.heap.push { cls:=.type "list",data:=.seq ([]:List Value).toArray }):=T.keep _ _ _ st2 fun b _ o e=>Heap.get?_push_of_some _ e
 have ho3:∀ b∈fp,∃ o,(s2.heap.push { cls:=.type "list",data:=.seq ([]:List Value).toArray }).get? b=some o:=fun b hb=>let ⟨o,e,_⟩:=ho2 b hb; ⟨o,Heap.get?_push_of_some _ e⟩
 generalize hs3:({ s2 with heap:=s2.heap.push { cls:=.type "list",data:=.seq ([]:List Value).toArray },toks:=s2.toks }:Shared)=s3 at I3
 have eh:s2.heap.push { cls:=.type "list",data:=.seq ([]:List Value).toArray }=s3.heap:=by rw [← hs3]
 rw [eh] at st3 ho3
 refine wpAny_newFunctionEnv B.nocell (by intro y hy; simp at hy) (fun h₁ hns hsb=>?_) B.kind
 have hk:∀ b o,s3.heap.get? b=some o→h₁.get? b=some o:=fun b o e=>hsb.extBut b o (Nat.ne_of_lt (Heap.lt_size e)) (Heap.get?_push_of_some _ e)
 have I4:=Ft (ts:=ts) (tk:=s3.toks + ([]:List (Str × Value)).length) B I3 f3 ho3 hns hk
 have f4:∀ b∈fp,FpOk (Z7 X (blkN ts fv) scope s3.heap.objs.size s3 (upd H2 s2.heap.objs.size (.lst [])) fp) [] (upd H2 s2.heap.objs.size (.lst [])) b:=fun b hb=>by
  obtain ⟨f0,f1,f2',f3',f4',f5'⟩:=f3 b hb
  obtain ⟨o,eo⟩:=ho3 b hb
  exact ⟨f0,Nat.ne_of_lt (Heap.lt_size eo),I4.ok.exfs b hb,.inl hb,(I4.ok.exf b hb).2,fun p hp=>absurd (show p∈([]:List (Addr × Obj)) from hp) (by simp)⟩
 have st4:tn 0 h₁:=T.keep _ _ _ st3 fun b _ o e=>hk b o e
 have loop:codeAny (model X.prog X.w) X.A (.compLoop (.ListComp elt (⟨t0,i0,f0,0⟩ :: rest) scope pos) 0 (.ref it) (.ref s2.heap.objs.size) (Z7 X (blkN ts fv) scope s3.heap.objs.size s3 (upd H2 s2.heap.objs.size (.lst [])) fp).env)
   (RR (.ref s2.heap.objs.size) s3.heap.objs.size) { s3 with heap:=h₁,toks:=s3.toks + ([]:List (Str × Value)).length }:=by
  refine Qw (X:=Z7 X (blkN ts fv) scope s3.heap.objs.size s3 (upd H2 s2.heap.objs.size (.lst [])) fp) (tg:=t0) (ifs:=f0) (R:=fun _ H'=>Q (.ref s2.heap.objs.size) H') rfl rfl rfl rfl (heq _ it s2.heap.objs.size) T hc (hg _ _ _ _) (ht _ _ _ _) (hb _ _ _ _ it s2.heap.objs.size) f4 I4 st4 L fun s' σ' H' J' q=>?_
  obtain ⟨e1,e2,e3,e4,e5,e6⟩:=Ze4 I3 f3 (Nat.le_refl _) J'
  obtain ⟨m,hm,_⟩:=J'.loc
  exact hRR _ _ s' H' e1 e2 e3 e4 e5 e6 ⟨m,hm⟩ q
 exact codeAny_compStart_list loop (T.self _ _ _ _ _ st4 loop)
theorem Ys (B:BlkOk X scope fv) (hc:X.calm=true) (hi:PI X t0 i0 wi)
  (hg:∀ C s₀ H₀ ex,PG (Z7 X (blkN ts fv) scope C s₀ H₀ ex) t0 g) (ht:∀ C s₀ H₀ ex,PTs (Z7 X (blkN ts fv) scope C s₀ H₀ ex) f0 tt)
  (heq:∀ (env:Env) (it D:Addr),compTurn (.ListComp elt (⟨t0,i0,f0,0⟩ :: rest) scope pos) 0 (.ref it) (.ref D) env=(standAt i0.pos >>= fun _=>pyNext (.ref it) >>= fun r=>match r with
   | none=>pure (.done .next)
   | some v=>letOwnedTupleGo t0 (.ref it) v >>= fun _=>assign t0 env v >>= fun _ =>
    (forIn f0 true fun c r=>if r=true then do let ok ← isTrue c env (eval c env); pure (ForInStep.yield ok) else pure (ForInStep.yield r)) >>= fun ok =>
     if ok=true then kont env it D else again (.compLoop (.ListComp elt (⟨t0,i0,f0,0⟩ :: rest) scope pos) 0 (.ref it) (.ref D) env)))
  (hb:∀ C s₀ H₀ ex it D,PB (Z7 X (blkN ts fv) scope C s₀ H₀ ex) (kont (Z7 X (blkN ts fv) scope C s₀ H₀ ex).env it D) (.compLoop (.ListComp elt (⟨t0,i0,f0,0⟩ :: rest) scope pos) 0 (.ref it) (.ref D) (Z7 X (blkN ts fv) scope C s₀ H₀ ex).env) (tb D))
  (hs:∀ x,foldedSetIterable i0 X.env x=pure x:=by intro _; rfl) :
  PE X (.ListComp elt (⟨t0,i0,f0,0⟩ :: rest) scope pos) (Zfd ts fv wi g tt tb):=by
 intro pins s σ H Q I h
 rw [eval_ListComp]
 refine wpAny_comprehension_free (use:=none) rfl hs (Qz fun y hy e=>I.ok.has y.1 (B.free y hy e)) B.kind B.names ?_
 refine Fq (RR:=fun acc C=>compPost (model X.prog X.w) X.A X.xe none (EP X pins σ Q) acc C) B hc hi hg ht heq hb I h fun D C s' H' I' e2 e3 e4 e5 e6 hm q=>?_
 obtain ⟨m,hm⟩:=hm
 exact ⟨m,hm,fun h' hs'=>⟨.ref D,H',I'.apart hs' e2 e3 e4 e5 e6,rfl,q⟩⟩
theorem Xj {i:Nat} {y:Str} {py spos:Pos} (B:BlkOk X scope fv) (hc:X.calm=true) (hN:X.N.Nodup) (hiy:X.N[i]?=some y) (hyl:X.env.scope.names.lookup y=some .local)
  (hsw:swapsWith (.ListComp elt (⟨t0,i0,f0,0⟩ :: rest) scope pos) (some (.Name y py)) spos.line X.env=pure true) (hi:PI X t0 i0 wi)
  (hg:∀ C s₀ H₀ ex,PG (Z7 X (blkN ts fv) scope C s₀ H₀ ex) t0 g) (ht:∀ C s₀ H₀ ex,PTs (Z7 X (blkN ts fv) scope C s₀ H₀ ex) f0 tt)
  (heq:∀ (env:Env) (it D:Addr),compTurn (.ListComp elt (⟨t0,i0,f0,0⟩ :: rest) scope pos) 0 (.ref it) (.ref D) env=(standAt i0.pos >>= fun _=>pyNext (.ref it) >>= fun r=>match r with
   | none=>pure (.done .next)
   | some v=>letOwnedTupleGo t0 (.ref it) v >>= fun _=>assign t0 env v >>= fun _ =>
    (forIn f0 true fun c r=>if r=true then do let ok ← isTrue c env (eval c env); pure (ForInStep.yield ok) else pure (ForInStep.yield r)) >>= fun ok =>
     if ok=true then kont env it D else again (.compLoop (.ListComp elt (⟨t0,i0,f0,0⟩ :: rest) scope pos) 0 (.ref it) (.ref D) env)))
  (hb:∀ C s₀ H₀ ex it D,PB (Z7 X (blkN ts fv) scope C s₀ H₀ ex) (kont (Z7 X (blkN ts fv) scope C s₀ H₀ ex).env it D) (.compLoop (.ListComp elt (⟨t0,i0,f0,0⟩ :: rest) scope pos) 0 (.ref it) (.ref D) (Z7 X (blkN ts fv) scope C s₀ H₀ ex).env) (tb D))
  (hs:∀ x,foldedSetIterable i0 X.env x=pure x:=by intro _; rfl) :
  PS X (.Assign [.Name y py] (.ListComp elt (⟨t0,i0,f0,0⟩ :: rest) scope pos) spos) (tAsg (Zfd ts fv wi g tt tb) (Zm i)):=by
 intro pins s σ H D0 I h
 rw [exec_Assign_Name_used _ _ _ _ hsw]
 refine wpAny_bind (wpAny_standAt (wpAny_bind ?_))
 show wpAny _ X.A (do let _ ← comprehension (.ListComp elt (⟨t0,i0,f0,0⟩ :: rest) scope pos) scope X.env _ (newList []) false (eval i0 X.env) (some (assign (.Name y py) X.env))) _ _ s
 refine wpAny_bind (wpAny_mono (wpAny_comprehension_free (use:=some (assign (.Name y py) X.env)) (Q:=fun _ s'=>SP X pins D0 .next s') rfl hs (Qz fun y hy e=>I.ok.has y.1 (B.free y hy e)) B.kind B.names ?_) (fun _ s' hq=>wpAny_pure (wpAny_pure hq)) fun _ _ e=>e)
 refine Fq (Q:=fun x H1=>Zm i x σ H1 D0.nx) (RR:=fun acc C=>compPost (model X.prog X.w) X.A X.xe (some (assign (.Name y py) X.env)) (fun _ s'=>SP X pins D0 .next s') acc C) B hc hi hg ht heq hb I h fun D C s' H' I' e2 e3 e4 e5 e6 hm q=>?_
 obtain ⟨m,hm⟩:=hm
 show wpAny _ X.A (assign (.Name y py) X.env (.ref D)) _ _ _
 refine wpAny_assign_Name (Gz I' hN hiy (.inl hyl) (show RelV (.ref D) (.ref D) from rfl) (fun s'' I'' hch=>?_) (.inr hyl))
 obtain ⟨a,hsb,ha⟩:=hch
 have haC:C≠a:=by
  rcases ha with e | e
  ·rw [e]; exact e4
  ·exact fun z=>e5 y a e z.symm
 exact ⟨m,hm.sameBut hsb haC,fun h' hs'=>⟨_,H',I''.apart hs' e2 e3 e4 e5 e6,q⟩⟩
end
end L2
set_option maxHeartbeats 4000000
namespace L2
open PySem PySem.Spec PyProof.Rows
noncomputable def FlyT (e T:Addr) (cls a0:Value) (h:Heap):Prop :=
 ∃ oe vs oT ts,h.get? e=some oe∧(oe.cls=cls∧vs[0]?=some a0)∧oe.data=.fields vs∧vs[1]?=some (.ref T)∧T≠e∧h.get? T=some oT∧oT.data=.fields ts∧ts[3]?=some .none
noncomputable def CXr (P:Program) (w:World):CXT:=fun outer H s E ev s' =>
 ∃ (e T:Addr) (cls a0:Value) (H':Hp),ev=.ref e∧s'.os=s.os∧AllBare s'.gens∧Un (frs outer) [] H H' s.heap s'.heap∧HOk P w H' s'.heap ∧
  s.heap.get? e=none∧s.heap.get? T=none∧H' e=none∧H' T=none∧FlyT e T cls a0 s'.heap∧E cls none H'
theorem Y6 {X:Cx}:Jq (CXr X.prog X.w) X E0:=fun _ _ _ _ _ _ _ h=>by
 obtain ⟨_,_,_,_,_,_,_,_,_,_,_,_,_,_,_,z⟩:=h
 exact z.elim
theorem Zl5 {P:Program} {w:World} {H:Hp} {s:Shared} {e:Value} {s':Shared} (h:CXr P w [] H s (fun _ _ _=>False) e s'):False:=by
 obtain ⟨_,_,_,_,_,_,_,_,_,_,_,_,_,_,_,z⟩:=h
 exact z
section
variable {P:Program} {w:World} {K:PySem.W.Frag} {mg:Str→Option Value} {base:Heap}
theorem Fun.okR {x qual:Str} {st:Stmt} {f:Addr} {fd:FuncData} {N ps:List Str} {k:Nat} {sp:Sp} (F:Fun K x qual st f fd) (S:FnScope N ps (Zg st)) (len:∀ vs H Q E,sp vs H Q E→vs.length=ps.length)
  (hbody:∀ (cdv:Value) (A:Around) (outer:List Env) (s:Shared) (H:Hp) (vs:List V) (Q:VK) (E:XK),Room k (A.deeper (envOfC qual (Zg st) s.heap.objs.size f cdv))→sp vs H Q E →
   ∃ t,PSs (cxOf (CXr P w) P w K mg base N qual (Zg st) f cdv A outer s H E).nox (Yn st) t∧t { nx:=fun _ H'=>Q .non H',rt:=Q } (start N vs) H):FnOk P w K mg base (CXr P w) (k + 1) f fd ps sp:=by
 obtain ⟨oc,od,kV,doc,pm,an,cdv,ct,osl,rfl,lk,hcd⟩:=F.ex
 refine Zah lk hcd S len fun A outer s H vs Q E hr hsp=>?_
 obtain ⟨t,h,q⟩:=hbody cdv A outer s H vs Q E hr hsp
 exact ⟨t,h.nox,q⟩
end
section
variable {X:Cx}
theorem Jj:Y7 X (.builtin "isinstance") (fun xs H Q=>∃ x T t b,xs=[x,.ty T]∧TyOf X.K H x t∧PySem.W.kitOne X.K t (.type T)=some b∧Q (.bl b) H):=by
 intro pins s σ H xs us Q I r h
 obtain ⟨x,T,t,b,rfl,hty,hk,q⟩:=h
 obtain ⟨u,v,rfl,ru,rv⟩:=r.two
 obtain rfl:v=Value.type T:=rv
 exact Zh4 I ru hty hk fun tk=>⟨.bl b,H,I.tok _,rfl,q⟩
theorem O2 {K:PySem.W.Frag} {T:String}:PySem.W.kitOne K (.type T) (.type T)=some true:=by
 unfold PySem.W.kitOne
 rw [if_pos (by simp)]
theorem Z6 {X:Cx} {scope:Scope} (h:scope.names.all (fun y=>y.2 != .free || X.env.kindOf y.1 == some .cell || X.env.kindOf y.1 == some .free)=true) :
  ∀ y∈scope.names,y.2=.free→X.env.kindOf y.1=some .cell∨X.env.kindOf y.1=some .free:=fun y hy e=>by
 have:=List.all_eq_true.mp h y hy
 simp [e] at this
 exact this
end
end L2
set_option maxHeartbeats 4000000
namespace L2
open PySem PySem.Spec PyProof.Rows
noncomputable def ExT (e:Addr) (T:Option Addr) (cls a0:Value) (h:Heap):Prop:=match T with
 | some T=>FlyT e T cls a0 h
 | none=>∃ oe vs,h.get? e=some oe∧(oe.cls=cls∧vs[0]?=some a0)∧oe.data=.fields vs∧vs[1]?=some .none
structure FxOk (X:Cx) (pins:List (Addr × Obj)) (H:Hp) (b:Addr):Prop where
 nt:H b=none
 nl:b≠X.env.locals
 nf:b ∉ X.fs
 n0:X.s₀.heap.get? b=none
 nc:∀ x c,X.env.cells.lookup x=some c→c≠b
 np:∀ p∈X.pn ++ pins,p.1≠b
noncomputable def XS (fr:Bool) (X:Cx) (pins:List (Addr × Obj)) (R:Value→St→Hp→Prop) (ev:Value) (s':Shared):Prop :=
 ∃ (e:Addr) (T:Option Addr) (cls a0:Value) (σ':St) (H':Hp),ev=.ref e∧Inv X pins σ' H' s'∧ExT e T cls a0 s'.heap∧FxOk X pins H' e∧(∀ t,T=some t→FxOk X pins H' t)∧(T=none→fr=true)∧R cls σ' H'
noncomputable abbrev TSX:=Ends→(Value→St→Hp→Prop)→St→Hp→Prop
noncomputable abbrev TEX:=St→Hp→VK→XK→Prop
noncomputable def PSX (fr:Bool) (X:Cx) (st:Stmt) (t:TSX):Prop :=
 ∀ (pins:List (Addr × Obj)) (s:Shared) (σ:St) (H:Hp) (D:Ends) (R:Value→St→Hp→Prop),Inv X pins σ H s→t D R σ H→wpAny (model X.prog X.w) X.A (exec st X.env) (SP X pins D) (XS fr X pins R) s
noncomputable def PSsX (fr:Bool) (X:Cx) (st:List Stmt) (t:TSX):Prop :=
 ∀ (pins:List (Addr × Obj)) (s:Shared) (σ:St) (H:Hp) (D:Ends) (R:Value→St→Hp→Prop),Inv X pins σ H s→t D R σ H→wpAny (model X.prog X.w) X.A (execs st X.env) (SP X pins D) (XS fr X pins R) s
noncomputable def PEX (fr:Bool) (X:Cx) (e:Expr) (t:TEX):Prop :=
 ∀ (pins:List (Addr × Obj)) (s:Shared) (σ:St) (H:Hp) (Q:VK) (E:XK),Inv X pins σ H s→t σ H Q E→wpAny (model X.prog X.w) X.A (eval e X.env) (EP X pins σ Q) (XS fr X pins fun cls σ' H'=>σ'=σ∧E cls none H') s
section
variable {X:Cx} {fr:Bool}
theorem Xm {st:Stmt} {t:TS} (h:PS X st t) (hx:X.xe=(fun _ _=>False):=by rfl):PSX fr X st (fun D _ σ H=>t D σ H):=fun pins s σ H D R I q=>by
 have:=h pins s σ H D I q
 rw [hx] at this
 exact wpAny_mono this (fun _ _ z=>z) fun _ _ z=>z.elim
noncomputable def Znl (t u:TSX):TSX:=fun D R σ H=>t { D with nx:=u D R } R σ H
theorem Yb {st:Stmt} {rest:List Stmt} {t u:TSX} (h1:PSX fr X st t) (h2:PSsX fr X rest u):PSsX fr X (st :: rest) (Znl t u):=by
 intro pins s σ H D R I h
 refine wpAny_execs_cons (thn (h1 pins s σ H { D with nx:=u D R } R I h) fun f s1 q=>?_)
 cases f with
 | next =>
  obtain ⟨σ',H',I',q⟩:=q
  exact h2 pins s1 σ' H' D R I' q
 | ret v=>exact q
 | brk=>exact q
 | cont=>exact q
theorem Yr {st:Stmt} {t:TSX} (h1:PSX fr X st t):PSsX fr X [st] t:=by
 intro pins s σ H D R I h
 refine wpAny_execs_cons (thn (h1 pins s σ H D R I h) fun f s1 q=>?_)
 cases f with
 | next=>exact wpAny_execs_nil q
 | ret v=>exact q
 | brk=>exact q
 | cont=>exact q
theorem Qe:PSsX fr X [] (fun D _ σ H=>D.nx σ H):=fun _ _ σ H _ _ I h=>wpAny_execs_nil ⟨σ,H,I,h⟩
noncomputable def tIfX (c:TT) (t u:TSX):TSX:=fun D R σ H=>c σ H fun b H1=>if b=true then t D R σ H1 else u D R σ H1
theorem Uj {c:Expr} {a b:List Stmt} {tc:TT} {t u:TSX} {pos:Pos} (hc:PT X c tc) (ha:PSsX fr X a t) (hb:PSsX fr X b u) (hx:X.xe=(fun _ _=>False):=by rfl):PSX fr X (.If c a b pos) (tIfX tc t u):=by
 intro pins s σ H D R I h
 have h0:=hc pins s σ H _ I h
 rw [hx] at h0
 refine wpAny_If (wpAny_mono h0 (fun d s1 zz23=>?_) fun _ _ z=>z.elim)
 obtain ⟨H1,I1,q1⟩:=zz23
 cases d with
 | true=>exact ha pins s1 σ H1 D R I1 q1
 | false=>exact hb pins s1 σ H1 D R I1 q1
noncomputable def Zmj (te:TEX):TSX:=fun D R σ H=>te σ H (fun _ H1=>D.nx σ H1) fun cls _ H1=>R cls σ H1
theorem Vo {e:Expr} {te:TEX} {pos:Pos} (he:PEX fr X e te) (hs:swapsWith e none pos.line X.env=pure false:=by rfl):PSX fr X (.Expr e pos) (Zmj te):=by
 intro pins s σ H D R I h
 refine wpAny_Expr_any (wpAny_mono (he pins s σ H _ _ I h) (fun v s1 ⟨x,H1,I1,r1,q1⟩=>⟨σ,H1,I1,q1⟩) ?_) I.quiet hs
 rintro ev s1 ⟨e,T,cls,a0,σ',H',h1,h2,h3,h4,h5,h7,rfl,h6⟩
 exact ⟨e,T,cls,a0,σ',H',h1,h2,h3,h4,h5,h7,h6⟩
noncomputable def Znk (i:Nat) (te:TEX):TSX:=fun D R σ H=>te σ H (fun x H1=>D.nx (σ.set i (some x)) H1) fun cls _ H1=>R cls σ H1
theorem Gj {i:Nat} {x:Str} {e:Expr} {te:TEX} {pos pos':Pos} (hN:X.N.Nodup) (hi:X.N[i]?=some x) (hx:Loc X.env.scope x) (he:PEX fr X e te) (hs:swapsWith e (some (.Name x pos')) pos.line X.env=pure false:=by rfl)
  (hf:X.fn x=true∨X.env.scope.names.lookup x=some .local:=by first | exact .inl rfl | exact .inr rfl | assumption):PSX fr X (.Assign [.Name x pos'] e pos) (Znk i te):=by
 intro pins s σ H D R I h
 refine wpAny_Assign_Name (wpAny_mono (he pins s σ H _ _ I h) (fun v s1 ⟨y,H1,I1,r1,q1⟩=>?_) ?_) hs
 ·exact Vj I1 hN hi hx r1 (fun s2 I2=>⟨_,H1,I2,q1⟩) hf
 ·rintro ev s1 ⟨e,T,cls,a0,σ',H',h1,h2,h3,h4,h5,h7,rfl,h6⟩
  exact ⟨e,T,cls,a0,σ',H',h1,h2,h3,h4,h5,h7,h6⟩
theorem Inv.cxr {pins:List (Addr × Obj)} {σ:St} {H:Hp} {s s':Shared} {E:XK} {ev:Value} (I:Inv X pins σ H s) (hex:X.ex=[]) (h:CXr X.prog X.w X.stack H s E ev s'):XS fr X pins (fun cls σ' H'=>σ'=σ∧E cls none H') ev s':=by
 obtain ⟨e,T,cls,a0,H',rfl,os,bare,un,hok,ne,nT,he,hT,fl,q⟩:=h
 have I':Inv X pins σ H' s':=I.call' os un hok bare fun b hb=>absurd hb (by simp)
 have fx:∀ b,s.heap.get? b=none→H' b=none→FxOk X pins H' b:=fun b hb hn=>by
  refine ⟨hn,fun z=>?_,fun z=>?_,?_,fun x c e z=>?_,fun p hp z=>?_⟩
  ·obtain ⟨m,⟨o,_,_,ho,_⟩,_⟩:=I.loc
   rw [z,ho] at hb; cases hb
  ·obtain ⟨_,o,ho,_⟩:=I.funs.mem z
   rw [ho] at hb; cases hb
  ·cases q:X.s₀.heap.get? b with
   | none=>rfl
   | some o =>
    obtain ⟨o',e'⟩:=I.base.there b o q (by rw [hex]; simp)
    rw [hb] at e'; cases e'
  ·obtain ⟨v,o,ho,_⟩:=I.cell x c e
   rw [z,hb] at ho; cases ho
  ·have:=(I.pin p hp).1
   rw [z,hb] at this; cases this
 exact ⟨e,some T,cls,a0,σ,H',rfl,I',fl,fx e ne he,fun t ht=>by cases ht; exact fx T nT hT,(fun z=>nomatch z),rfl,q⟩
variable {k:Nat} {f C:Addr} {fd:FuncData} {ps:List Str} {sp:Sp} {dvs:List V} {ds:List Value} {x m:Str} {p pos apos:Pos} {e o:Expr} {es:List Expr} {ta:TE} {t:TA}
theorem Zd6 {pins:List (Addr × Obj)} {σ:St} {H:Hp} {s:Shared} {Q:VK} {E:XK} {us:List Value} {vs:List V} (F:FnOk X.prog X.w X.K X.mg X.base (CXr X.prog X.w) k f fd ps sp) (hr:Room k X.A) (hb:Xx X.K fd ps ds) (hd:Vals dvs ds) (hex:X.ex=[])
  (I:Inv X pins σ H s) (r:Vals vs us) (h:sp (vs ++ dvs) H Q E):wpAny (model X.prog X.w) X.A (call (.ref f) us) (EP X pins σ Q) (XS fr X pins fun cls σ' H'=>σ'=σ∧E cls none H') s:=by
 have r2:Vals (vs ++ dvs) (us ++ ds):=r.append hd
 have hl:(us ++ ds).length=ps.length:=by rw [← r2.length]; exact F.len _ _ _ _ h
 refine wpAny_call (codeAny_mono (F.run X.A X.stack s H ⟨us,[]⟩ (us ++ ds) (vs ++ dvs) Q E hr I.env0 (hb s us I.kIn hl) r2 h) fun r s' hq=>?_)
 cases r with
 | error e=>exact I.cxr hex hq
 | ok fl =>
  cases fl with
  | ret u=>exact I.after hq
  | next=>exact False.elim hq
  | brk=>exact False.elim hq
  | cont=>exact False.elim hq
noncomputable def Zgh (sp:Sp) (dvs:List V) (t:TA):TEX:=fun σ H Q E=>t σ H fun vs H1=>sp (vs ++ dvs) H1 Q E
theorem Zjf (F:FnOk X.prog X.w X.K X.mg X.base (CXr X.prog X.w) k f fd ps sp) (hr:Room k X.A) (hg:Gl X x) (hm:X.mg x=some (.ref f)) (hk:PySem.W.keepIn X.K (.ref f)=true) (hb:Xx X.K fd ps ds) (hd:Vals dvs ds)
  (ha:PA X (e :: es) t) (hex:X.ex=[]:=by rfl) (hx:X.xe=(fun _ _=>False):=by rfl) (hdb:(x == ("__debug__":Str))=false:=by decide) (he:starEach (e :: es) X.env=(false,eval e X.env) :: starEach es X.env:=by rfl) (hpl:(backTo pos (starEach es X.env)).any (·.1)=false:=by rfl) :
  PEX fr X (.Call (.Name x p) (e :: es) [] pos) (Zgh sp dvs t):=by
 intro pins s σ H Q E I h
 have h0:=ha pos pins s σ H _ I h
 rw [hx] at h0
 refine wpAny_Call_Name_kw (Vd I hg hm ?_ hdb)
 refine PySem.W.callWith_K (h₀:=X.base) I.ok.mod.kin hk (wpAny_mono h0 (fun us s1 zz24=>?_) fun _ _ z=>z.elim) he hpl
 obtain ⟨vs,H1,I1,r,q⟩:=zz24
 refine ⟨I1.kIn,?_⟩
 exact Zd6 F hr hb hd hex I1 r q
noncomputable def Zmi (C:Addr) (m:Str) (sp:Sp) (dvs:List V) (ta:TE) (t:TA):TEX:=fun σ H Q E=>ta σ H fun x H1=>∃ a dx fs,x=.ref a∧H1 a=some (.ins C dx fs)∧fs.lookup m=none ∧
 t σ H1 fun vs H2=>sp (x :: (vs ++ dvs)) H2 Q E
theorem Vr {pl:Sem Bool} (he:PE X o ta) (c:Cls X.K C) (hm:Meth X.K C m f) (F:FnOk X.prog X.w X.K X.mg X.base (CXr X.prog X.w) k f fd ps sp) (hr:Room k X.A) (hb:Xx X.K fd ps ds) (hd:Vals dvs ds) (ha:PA X (e :: es) t)
  (hex:X.ex=[]:=by rfl) (hx:X.xe=(fun _ _=>False):=by rfl) (hst:starEach (e :: es) X.env=(false,eval e X.env) :: starEach es X.env:=by rfl) (hpl:(backTo pos (starEach es X.env)).any (·.1)=false:=by rfl)
  (ht:eval (.Call (.Attribute o m apos) (e :: es) [] pos) X.env=(do
   let ov ← eval o X.env
   standAt apos.atName
   let (f,first) ← holding [ov] (getMethod ov m pl)
   callWith pos f first (backTo pos (starEach (e :: es) X.env)) (backToKw pos (keywordEach [] X.env))):=by rfl) :
  PEX fr X (.Call (.Attribute o m apos) (e :: es) [] pos) (Zmi C m sp dvs ta t):=by
 intro pins s σ H Q E I h
 have h0:=he pins s σ H _ I h
 rw [hx] at h0
 refine PySem.W.methodCall_KW (pl:=pl) (wpAny_mono h0 (fun u s1 zz25=>?_) fun _ _ z=>z.elim) ht
 obtain ⟨x,H1,I1,rx,a,dx,fs,ex,ea,l,q⟩:=zz25
 subst ex
 obtain rfl:u=Value.ref a:=rx
 refine Vx I1 ea c hm l ?_
 have h1:=ha pos pins s1 σ H1 _ I1 q
 rw [hx] at h1
 refine PySem.W.callWith_K (first:=[.ref a]) (h₀:=X.base) I.ok.mod.kin hm.kp (wpAny_mono h1 (fun us s2 zz26=>?_) fun _ _ z=>z.elim) hst hpl
 obtain ⟨vs,H2,I2,r,q2⟩:=zz26
 refine ⟨I2.kIn,?_⟩
 exact Zd6 (us:=.ref a :: us) (vs:=.ref a :: vs) F hr hb hd hex I2 (.cons rfl r) q2
end
end L2
set_option maxHeartbeats 4000000
namespace L2
open PySem PySem.Spec PyProof.Rows
theorem Zx.there {P:Program} {w:World} {H:Hp} {h:Heap} {a:Addr}:∀ {o:HO},Zx P w H h a o→∃ ob,h.get? a=some ob
 | .lst _,x=>by obtain ⟨_,_,_,_,e⟩:=x; exact ⟨_,e⟩
 | .tup _,x=>by obtain ⟨_,_,_,ob,e,_⟩:=x; exact ⟨_,e⟩
 | .dK _,x=>by obtain ⟨_,_,_,_,o,_,_,e,_⟩:=x; exact ⟨_,e⟩
 | .dT _,x=>by obtain ⟨_,_,_,_,o,_,_,e,_⟩:=x; exact ⟨_,e⟩
 | .set _ _,x=>by obtain ⟨o,_,_,_,e,_⟩:=x; exact ⟨_,e⟩
 | .ins _ _ _,x=>by obtain ⟨_,_,_,e,_⟩:=x; exact ⟨_,e⟩
 | .own _,x=>by obtain ⟨_,e⟩:=x; exact ⟨_,e⟩
 | .xd _,x=>by obtain ⟨_,⟨_,_,_,e,_⟩,_⟩:=x; exact ⟨_,e⟩
 | .rng _ _,x=>by obtain ⟨_,_,_,e⟩:=x; exact ⟨_,e⟩
 | .frz _ _,x=>by obtain ⟨e,_⟩:=x; exact ⟨_,e⟩
 | .tbl _,x=>⟨_,(show h.get? a=some _ from x)⟩
 | .met _ _,x=>⟨_,(show h.get? a=some _ from x)⟩
 | .ext _,x=>by obtain ⟨_,⟨_,e⟩,_⟩:=x; exact ⟨_,e⟩
section
variable {X:Cx} {pins:List (Addr × Obj)} {σ:St} {H:Hp} {s:Shared}
theorem Inv.untr (I:Inv X pins σ H s) {b:Addr} (hb:s.heap.get? b=none):H b=none:=by
 cases q:H b with
 | none=>rfl
 | some o =>
  obtain ⟨ob,e⟩:=(I.hok b o q).there
  rw [hb] at e; cases e
theorem Inv.fxOk (I:Inv X pins σ H s) (hex:X.ex=[]) {b:Addr} (hb:s.heap.get? b=none):FxOk X pins H b:=by
 refine ⟨I.untr hb,fun z=>?_,fun z=>?_,?_,fun x c e z=>?_,fun p hp z=>?_⟩
 ·obtain ⟨m,⟨o,_,_,ho,_⟩,_⟩:=I.loc
  rw [z,ho] at hb; cases hb
 ·obtain ⟨_,o,ho,_⟩:=I.funs.mem z
  rw [ho] at hb; cases hb
 ·cases q:X.s₀.heap.get? b with
  | none=>rfl
  | some o =>
   obtain ⟨o',e'⟩:=I.base.there b o q (by rw [hex]; simp)
   rw [hb] at e'; cases e'
 ·obtain ⟨v,o,ho,_⟩:=I.cell x c e
  rw [z,hb] at ho; cases ho
 ·have:=(I.pin p hp).1
  rw [z,hb] at this; cases this
end
structure ExcK (K:PySem.W.Frag) (C:Addr) (bmB:List Value) (newId:String):Prop where
 q:PySem.W.excIn K C bmB newId=true
theorem Zl2 {K:PySem.W.Frag} {h:Heap} {C:Addr} {bmB:List Value} {newId:String} (X:K.In h) (q:PySem.W.excIn K C bmB newId=true) :
  ∃ bm N nm q bs hdct sn sub ab col dd k0 k1 k2 k3 k5 mN,h.get? C=some (excClassObj nm q C N bs bm hdct sn sub ab col dd k0 k1 k2 k3 k5 newId)∧h.Ns N mN∧mN "__init__"=none∧OwnTail h bmB bm:=by
 unfold PySem.W.excIn at q
 split at q
 ·rename_i dd cd sl ho
  split at q
  ·rename_i C' bm k0 k1 k2 k3 n k5 hm hs
   simp only [Bool.and_eq_true,beq_iff_eq,Bool.not_eq_true'] at q
   obtain ⟨⟨⟨⟨⟨rfl,rfl⟩,hdel⟩,ht⟩,hok⟩,hni⟩:=q
   obtain ⟨nm,bs,mro,ns,qn,hd,sn,sub,ab,col,del⟩:=cd
   dsimp only at hm hdel hok hni
   subst hm hdel
   have hsl:sl=#[k0,k1,k2,k3,some (.builtin n),k5]:=by
    obtain ⟨l⟩:=sl
    simp only at hs
    rw [hs]
   subst hsl
   exact ⟨bm,ns,nm,qn,bs,hd,sn,sub,ab,col,dd,k0,k1,k2,k3,k5,_,X _ _ ho,.of_isNs (PySem.W.isNs_of_in X hok),PySem.W.nsMap_none_of_in X hok hni,PySem.W.tail_of_in X ht⟩
  ·cases q
 ·cases q
section
variable {X:Cx}
noncomputable def Zmg (C:Addr) (t:TA):TSX:=fun _ R σ H=>t σ H fun vs H1=>vs.length≤1000∧R (.ref C) σ H1
theorem Jn {C:Addr} {bmB:List Value} {B newId initId:String} {x:Str} {np cpos pos:Pos} {e:Expr} {es:List Expr} {t:TA} (K:ExcK X.K C bmB newId) (FB:ExcBaseFacts B newId initId bmB) (hg:Gl X x) (hm:X.mg x=some (.ref C)) (hc:X.calm=true) (ha:PA X (e :: es) t)
  (hex:X.ex=[]:=by rfl) (hx:X.xe=(fun _ _=>False):=by rfl) (hdb:(x == ("__debug__":Str))=false:=by decide) (he:starEach (e :: es) X.env=(false,eval e X.env) :: starEach es X.env:=by rfl) (hpl:(backTo cpos (starEach es X.env)).any (·.1)=false:=by rfl) :
  PSX true X (.Raise (some (.Call (.Name x np) (e :: es) [] cpos)) none pos) (Zmg C t):=by
 intro pins s σ H D R I h
 obtain ⟨tl,N,nm,q,bs,hdct,sn,sub,ab,col,dd,k0,k1,k2,k3,k5,mN,hC,hN,hni,T⟩:=Zl2 I.ok.mod.kin K.q
 refine wpAny_Raise_call_subT (C:=C) (nm:=nm) (q:=q) (N:=N) (bs:=bs) (bm:=tl) (hdct:=hdct) (sn:=sn) (sub:=sub) (ab:=ab) (col:=col) (dd:=dd) (k0:=k0) (k1:=k1) (k2:=k2) (k3:=k3) (k5:=k5)
  FB (mN:=mN) (T.hasType FB.hasBase) (I.ok.hd hc) (by rw [he]; show (false || (backTo cpos (starEach es X.env)).any (·.1))=false; rw [hpl]; rfl) hni (Vd I hg hm ⟨rfl,?_⟩ hdb)
 have h0:=ha cpos pins s σ H _ I h
 rw [hx] at h0
 rw [he] at h0 ⊢
 refine Calls.evalArgs_plain (wpAny_mono h0 (fun us s₂ zz27=>?_) fun _ _ z=>z.elim)
 obtain ⟨vs,H1,I1,r1,hl,q1⟩:=zz27
 have kb:=I1.bk
 refine ⟨rfl,?_,kb _ _ hC,hN.keeps kb,T.keeps kb,fun h' ea hm'=>?_⟩
 ·rw [← r1.length]
  exact Nat.le_of_lt (Zr hl)
 obtain ⟨tt,h1,h2,h3⟩:=hm'.there
 have I2:Inv X pins σ H1 { s₂ with heap:=h' }:=I1.kept (t':=s₂.toks) hm'.keeps
 have fx:=I1.fxOk hex hm'.new
 exact ⟨ea,none,.ref C,.ref tt,σ,H1,rfl,I2,⟨_,_,h1,⟨rfl,rfl⟩,rfl,rfl⟩,⟨fx.nt,fx.nl,fx.nf,fx.n0,fx.nc,fx.np⟩,(fun t z=>nomatch z),(fun _=>rfl),q1⟩
theorem Un.leave {fs:List Addr} {H₀ H:Hp} {h₀ h h':Heap} (u:Un fs [] H₀ H h₀ h) (hk:∀ b o,h₀.get? b=some o→b ∉ fs→h.get? b=some o→h'.get? b=some o)
  (hs:∀ b o,b∈fs→h.get? b=some o→∃ sl,h'.get? b=some { o with slots:=sl }) (ht:∀ b o,h₀.get? b=some o→∀ o',h.get? b=some o'→∃ o'',h'.get? b=some o''):Un fs [] H₀ H h₀ h' where
 keep:=fun b o e n hb hx=>hk b o e hb (u.keep b o e n hb hx)
 slot:=fun b o e n hb hx=>by
  obtain ⟨sl,e1⟩:=u.slot b o e n hb hx
  obtain ⟨sl',e2⟩:=hs b _ hb e1
  exact ⟨sl',e2⟩
 free:=u.free
 there:=fun b o e hx=>by
  obtain ⟨o',e1⟩:=u.there b o e hx
  exact ht b o e o' e1
 tups:=u.tups
 frzs:=u.frzs
 tbls:=u.tbls
theorem Gp {X:Cx} {pins:List (Addr × Obj)} {σ:St} {H:Hp} {s:Shared} (I:Inv X pins σ H s) (as:List Addr) (hs:∀ b∈frs X.stack,b∈as):s.heap.FunFrames (PySem.W.hideAll s.heap as) X.stack:=by
 have all:∀ (l:List Env),(∀ b∈frs l,b∈as)→s.heap.FunFrames X.base l→s.heap.FunFrames (PySem.W.hideAll s.heap as) l:=by
  intro l
  induction l with
  | nil=>intro _ _; trivial
  | cons env r ih =>
   intro hs hl
   obtain ⟨hk,⟨L,o,hf,hn,ho,hd⟩,hr⟩:=hl
   have hL:L∈as:=hs L (by unfold frs; rw [List.filterMap_cons,hf]; exact List.mem_cons_self)
   exact ⟨hk,⟨L,o,hf,PySem.W.hideAll_none as hL,ho,hd⟩,ih (fun b hb=>hs b (by unfold frs; rw [List.filterMap_cons,hf]; exact List.mem_cons_of_mem _ hb)) hr⟩
 exact all X.stack hs I.stack
theorem Inv.fnd {X:Cx} {pins:List (Addr × Obj)} {σ:St} {H:Hp} {s:Shared} (I:Inv X pins σ H s) {b:Addr} (hb:b∈frs X.stack) {o:Obj} (e:s.heap.get? b=some o):∀ vs,o.data≠.fields vs:=by
 obtain ⟨_,o',e',d⟩:=I.stack.mem hb
 rw [e] at e'; cases e'
 exact d
end
end L2
set_option maxHeartbeats 4000000
namespace L2
open PySem PySem.Spec PyProof.Rows
theorem FxOk.none {X:Cx} {pins:List (Addr × Obj)} {H:Hp} {b:Addr} (h:FxOk X pins H b):FxOk X [] H b:=⟨h.nt,h.nl,h.nf,h.n0,h.nc,fun p hp=>h.np p (by rw [List.append_nil] at hp; exact List.mem_append_left _ hp)⟩
section
variable {P:Program} {w:World} {K:PySem.W.Frag} {mg:Str→Option Value} {base:Heap}
theorem Zjw {N:List Str} {qual:Str} {scope:Scope} {f:Addr} {cd:Value} {A:Around} {outer:List Env} {s s':Shared} {H:Hp} {E:XK} {ev:Value}
  {fr:Bool} (h:XS fr (cxOf (CXr P w) P w K mg base N qual scope f cd A outer s H E).nox [] (fun cls _ H'=>E cls none H') ev s'):(cxOf (CXr P w) P w K mg base N qual scope f cd A outer s H E).xe ev s':=by
 obtain ⟨e,T,cls,a0,σ',H',rfl,I,hx,fe,fT,_,q⟩:=h
 show wpAny (model P w) (A.deeper (envOfC qual scope s.heap.objs.size f cd)) (leaving (envOfC qual scope s.heap.objs.size f cd) (.ref e)) (fun _ s''=>CXr P w outer H s E (.ref e) s'') (fun e' s''=>CXr P w outer H s E e' s'') s'
 have hst:(cxOf (CXr P w) P w K mg base N qual scope f cd A outer s H E).nox.stack=envOfC qual scope s.heap.objs.size f cd :: outer:=rfl
 have hfr:(A.deeper (envOfC qual scope s.heap.objs.size f cd)).frames=some (envOfC qual scope s.heap.objs.size f cd :: outer):=I.ok.frames
 have n0:∀ b,b∈e :: T.toList→s.heap.get? b=none:=fun b hb=>by
  rcases List.mem_cons.mp hb with z | z
  ·rw [z]; exact fe.n0
  ·cases T with
   | none=>simp at z
   | some t =>
    have:b=t:=by simpa using z
    rw [this]; exact (fT t rfl).n0
 have nt:∀ b,b∈e :: T.toList→H' b=none:=fun b hb=>by
  rcases List.mem_cons.mp hb with z | z
  ·rw [z]; exact fe.nt
  ·cases T with
   | none=>simp at z
   | some t =>
    have:b=t:=by simpa using z
    rw [this]; exact (fT t rfl).nt
 have hB:∀ b o,b ∉ e :: T.toList→b ∉ frs (envOfC qual scope s.heap.objs.size f cd :: outer)→s'.heap.get? b=some o→(PySem.W.hideAll s'.heap ((e :: T.toList) ++ frs (envOfC qual scope s.heap.objs.size f cd :: outer))).get? b=some o:=fun b o h1 h2 e1 =>
  PySem.W.hideAll_get _ e1 fun z=>(List.mem_append.mp z).elim h1 h2
 have hl:s'.heap.FunFrames (PySem.W.hideAll s'.heap ((e :: T.toList) ++ frs (envOfC qual scope s.heap.objs.size f cd :: outer))) (envOfC qual scope s.heap.objs.size f cd :: outer):=Gp I _ fun b hb=>List.mem_append_right _ hb
 have hkb:(PySem.W.hideAll s'.heap ((e :: T.toList) ++ frs (envOfC qual scope s.heap.objs.size f cd :: outer))).StaysIn s'.heap:=fun b o e1=>PySem.W.of_hideAll _ e1
 have hen:(PySem.W.hideAll s'.heap ((e :: T.toList) ++ frs (envOfC qual scope s.heap.objs.size f cd :: outer))).get? e=none:=PySem.W.hideAll_none _ (List.mem_append_left _ List.mem_cons_self)
 have fin:∀ h',Heap.LeftW (PySem.W.hideAll s'.heap ((e :: T.toList) ++ frs (envOfC qual scope s.heap.objs.size f cd :: outer))) (envOfC qual scope s.heap.objs.size f cd :: outer) e cls a0 s'.heap h'→CXr P w outer H s E (.ref e) { s' with heap:=h' }:=fun h' ⟨k1,k2,k3,k4⟩=>by
  obtain ⟨oe,vs,T',oT,ts,x1,x2,x3,x4,x5,x6,x7,x8,x9⟩:=k3
  have notfr:∀ b o,b∈frs (envOfC qual scope s.heap.objs.size f cd :: outer)→s'.heap.get? b=some o→∃ sl,h'.get? b=some { o with slots:=sl }:=fun b o hb e1=>k4 b o e1 (I.fnd hb e1)
  have kept:∀ b o,b ∉ e :: T.toList→b ∉ frs (envOfC qual scope s.heap.objs.size f cd :: outer)→s'.heap.get? b=some o→h'.get? b=some o:=fun b o h1 h2 e1=>k1 b o (hB b o h1 h2 e1)
  have nL:∀ b o,s.heap.get? b=some o→b ∉ frs outer→b ∉ frs (envOfC qual scope s.heap.objs.size f cd :: outer):=fun b o e1 h2 z=>by
   have z':b∈s.heap.objs.size :: frs outer:=z
   rcases List.mem_cons.mp z' with z1 | z1
   ·rw [z1] at e1; exact absurd (Heap.lt_size e1) (Nat.lt_irrefl _)
   ·exact h2 z1
  have nE:∀ b o,s.heap.get? b=some o→b ∉ e :: T.toList:=fun b o e1 z=>by rw [n0 b z] at e1; cases e1
  have trk:∀ b u,H' b=some u→∀ o,s'.heap.get? b=some o→h'.get? b=some o:=fun b u hu o e1=>by
   refine kept b o (fun z=>by rw [nt b z] at hu; cases hu) (fun z=>?_) e1
   rw [I.stkFree b z] at hu; cases hu
  have hT':s.heap.get? T'=none∧H' T'=none:=by
   by_cases hz:s'.heap.get? T'=none
   ·refine ⟨?_,I.untr hz⟩
    cases q':s.heap.get? T' with
    | none=>rfl
    | some o =>
     obtain ⟨o',e'⟩:=I.base.there T' o q' (by simp [cxOf])
     rw [hz] at e'; cases e'
   ·obtain ⟨o,ho⟩:=Option.ne_none_iff_exists'.mp hz
    by_cases h1:T'∈e :: T.toList
    ·exact ⟨n0 T' h1,nt T' h1⟩
    ·by_cases h2:T'∈frs (envOfC qual scope s.heap.objs.size f cd :: outer)
     ·exfalso
      obtain ⟨sl,e'⟩:=notfr T' o h2 ho
      rw [x7] at e'
      cases e'
      exact I.fnd h2 ho ts x8
     ·rw [hB T' o h1 h2 ho] at x5; cases x5
  refine ⟨e,T',cls,a0,H',rfl,I.os,I.bare,?_,fun b u hu=>?_,fe.n0,hT'.1,fe.nt,hT'.2,⟨oe,vs,oT,ts,x1,x2,x3,x4,x6,x7,x8,x9⟩,q⟩
  ·refine Un.leave I.base (fun b o e1 h1 e2=>kept b o (nE b o e1) (nL b o e1 h1) e2) (fun b o hb e1=>notfr b o (List.mem_cons_of_mem _ hb) e1) fun b o e1 o' e2=>?_
   by_cases h2:b∈frs outer
   ·obtain ⟨sl,e'⟩:=notfr b o' (List.mem_cons_of_mem _ h2) e2
    exact ⟨_,e'⟩
   ·exact ⟨o',kept b o' (nE b o e1) (nL b o e1 h2) e2⟩
  ·refine (I.hok b u hu).stay (fun c v hc e1=>?_) (fun _ z=>z) fun _ _ z=>z
   rcases hc with z | z
   ·exact trk c u (by rw [z]; exact hu) v e1
   ·exact trk c _ z v e1
 cases T with
 | none =>
  obtain ⟨oe,vs,x1,x2,x3,x4⟩:=hx
  obtain ⟨x21,x22⟩:=x2
  subst x21
  exact wpAny_leaving_firstW hfr hl rfl x1 hkb hen x3 x4 x22 fin
 | some t =>
  obtain ⟨oe,vs,oT,ts,x1,x2,x3,x4,x5,x6,x7,x8⟩:=hx
  exact wpAny_leaving_nextW hfr hl rfl ⟨oe,vs,t,oT,ts,x1,x2,x3,x4,PySem.W.hideAll_none _ (List.mem_append_left _ (by simp)),x5,x6,x7,x8⟩ hkb hen fin
theorem Fun.okX {x qual:Str} {st:Stmt} {f:Addr} {fd:FuncData} {N ps:List Str} {k:Nat} {sp:Sp} (F:Fun K x qual st f fd) (S:FnScope N ps (Zg st)) (len:∀ vs H Q E,sp vs H Q E→vs.length=ps.length)
  (hbody:∀ (cdv:Value) (A:Around) (outer:List Env) (s:Shared) (H:Hp) (vs:List V) (Q:VK) (E:XK),Room k (A.deeper (envOfC qual (Zg st) s.heap.objs.size f cdv))→sp vs H Q E →
   ∃ t,PSsX true (cxOf (CXr P w) P w K mg base N qual (Zg st) f cdv A outer s H E).nox (Yn st) t∧t { nx:=fun _ H'=>Q .non H',rt:=Q } (fun cls _ H'=>E cls none H') (start N vs) H):FnOk P w K mg base (CXr P w) (k + 1) f fd ps sp:=by
 obtain ⟨oc,od,kV,doc,pm,an,cdv,ct,osl,rfl,lk,hcd⟩:=F.ex
 refine Zah lk hcd S len fun A outer s H vs Q E hr hsp=>?_
 obtain ⟨t,h,q⟩:=hbody cdv A outer s H vs Q E hr hsp
 refine ⟨fun D σ H'=>t D (fun cls _ H''=>E cls none H'') σ H',fun pins s' σ' H' D I hD=>?_,q⟩
 refine wpAny_mono (h pins s' σ' H' D _ (I.wish _) hD) (fun _ _ z=>z.unwish) fun ev s'' z=>Zjw (fr:=true) ?_
 obtain ⟨e,T,cls,a0,σ2,H2,h1,h2,h3,h4,h5,h7,h6⟩:=z
 exact ⟨e,T,cls,a0,σ2,H2,h1,h2.pins_of (fun p hp=>absurd hp (by simp)),h3,h4.none,fun t ht=>(h5 t ht).none,h7,h6⟩
end
end L2
set_option maxHeartbeats 4000000
namespace L2
open PySem PySem.Spec PyProof.Rows
end L2
set_option maxHeartbeats 4000000
namespace L2
open PySem PySem.Spec PyProof.Rows
section
variable {X:Cx} {pins:List (Addr × Obj)} {σ:St} {H:Hp} {s:Shared} {A:Around} {E:Value→Shared→Prop} {a:Addr}
theorem Znh {kvs:List (Key × V)} {k:Key} {d:V} {u r:Value} {Q:Value→Shared→Prop} (I:Inv X pins σ H s) (e:H a=some (.dK kvs)) (hl:kvs.length < sizeLine) (ry:RelV (kV k) u) (rd:RelV d r)
  (h1:∀ v w' s',valV kvs k=some v→Inv X pins σ H s'→RelV v w'→Q w' s') (h2:valV kvs k=none→∀ s',Inv X pins σ (upd H a (.dK (putK kvs k d))) s'→Q r s') :
  wpAny (model X.prog X.w) A (call (.builtin "dict.setdefault") [.ref a,u,r]) Q E s:=by
 obtain ⟨z,hd,vs,rel,dd⟩:=Zkr I.hok e
 have hz:vs.length≤sizeLine:=by rw [← rel.length]; exact z
 refine call_meetsIn PySem.F.slot_dict_setdefault dd.typeIs PySem.F.entry_dict_setdefault (PySem.F.args_dict_setdefault_3 _ _ _) (kt_meets_setdefault (Z9 X.prog X.w) a (U7 ry) hd r) ⟨vs,dd,hz,fun v hv=>?_,fun hv h' dd' hs=>?_⟩
 ·have rel':=rel.val k
  rw [hv] at rel'
  cases q:valV kvs k with
  | none=>rw [q] at rel'; exact rel'.elim
  | some y=>rw [q] at rel'; exact h1 y v _ q (I.tok _) rel'
 ·have rel':=rel.val k
  rw [hv] at rel'
  cases q:valV kvs k with
  | some y=>rw [q] at rel'; exact rel'.elim
  | none =>
   have he:∃ q,h'.get? a=some q:=let ⟨q,_,_,hq,_⟩:=dd'; ⟨q,hq⟩
   have hl2:(putK kvs k d).length≤sizeLine:=by have:=Ot kvs k d; omega
   exact h2 q _ (Ze3 I (by rw [e]; exact True.intro) hs he (Zig hl2 hd (rel.put k rd) dd'))
end
noncomputable def Zmk (td ty tx:TE):TE:=fun σ H Q=>td σ H fun x H1=>∃ a,x=.ref a∧IsD H1 a∧ty σ H1 fun y H2=>tx σ H2 fun z H3=>∃ kvs k,H3 a=some (.dK kvs)∧kvs.length < sizeLine∧y=kV k ∧
 (∀ v,valV kvs k=some v→Q v H3)∧(valV kvs k=none→Q z (upd H3 a (.dK (putK kvs k z))))
section
variable {X:Cx} {o e f:Expr} {apos cpos:Pos} {td ty tx:TE}
theorem Zjh (ho:PE X o td) (he:PE X e ty) (hf:PE X f tx) (m:M2 X o "setdefault" apos e f cpos):PE X (.Call (.Attribute o "setdefault" apos) [e,f] [] cpos) (Zmk td ty tx):=by
 intro pins s σ H Q I h
 refine wpAny_Call_method m.base m.few m.line PySem.F.plainAttrs_dict PySem.F.slot_dict_setdefault PySem.F.type_dict_setdefault (thn (ho pins s σ H _ I h) fun u s1 zz9=>?_)
 obtain ⟨x,H1,I1,rx,a,ex,d,q1⟩:=zz9
 subst ex
 obtain rfl:u=Value.ref a:=rx
 obtain ⟨t1,t2,_⟩:=Zcf I1 d
 refine ⟨t1,t2,?_⟩
 rw [m.trees]
 refine Calls.callWith_builtin rfl (Calls.evalArgs_plain (Calls.spliced_cons (thn (he pins s1 σ H1 _ I1 q1) fun iv s2 ⟨y,H2,I2,ry,q2⟩ =>
  Calls.spliced_cons (thn (hf pins s2 σ H2 _ I2 q2) fun fv s3 ⟨z,H3,I3,rz,kvs,k,hk,hl,ey,q3,q4⟩=>Calls.spliced_nil ?_))))
 subst ey
 exact Znh I3 hk hl ry rz (fun v w' s' hv I' rw'=>⟨v,H3,I',rw',q3 v hv⟩) fun hv s' I'=>⟨z,_,I',rz,q4 hv⟩
end
end L2
set_option maxHeartbeats 4000000
namespace L2
open PySem PySem.Spec PyProof.Rows
section
variable {X:Cx} {pins:List (Addr × Obj)} {σ:St} {H:Hp} {s:Shared} {a:Addr}
theorem Inv.freeze {u:HO} {ob:Obj} (I:Inv X pins σ H s) (e:H a=some u) (mu:Mut (some u)) (ho:s.heap.get? a=some ob):Inv X pins σ (upd H a (.frz ob u)) s:=by
 have nown:∀ c y,H c=some (.own y)→c≠a:=fun c y r z=>by subst z; rw [r] at e; cases e; exact mu
 have ntup:∀ c xs,H c=some (.tup xs)→c≠a:=fun c xs r z=>by subst z; rw [r] at e; cases e; exact mu
 have nfrz:∀ c o xs,H c=some (.frz o xs)→c≠a:=fun c o xs r z=>by subst z; rw [r] at e; cases e; exact mu
 have ntbl:∀ c ps,H c=some (.tbl ps)→c≠a:=fun c ps r z=>by subst z; rw [r] at e; cases e; exact mu
 have un:Un X.fs [] H (upd H a (.frz ob u)) s.heap s.heap:=⟨fun _ _ q _ _ _=>q,fun _ o q _ _ _=>⟨o.slots,q⟩,fun b o q n _=>by rw [Zd (fun z=>by rw [z,e] at n; cases n)]; exact n,fun b o q _=>⟨o,q⟩,
  fun b xs q=>by rw [Zd (ntup b xs q)]; exact q,fun b o xs q=>by rw [Zd (nfrz b o xs q)]; exact q,fun b ps q=>⟨#[],by rw [Zd (ntbl b ps q),q]; simp⟩⟩
 have hok:HOk X.prog X.w (upd H a (.frz ob u)) s.heap:=fun b v q=>by
  have st:∀ c w',Zx X.prog X.w H s.heap c w'→Zx X.prog X.w (upd H a (.frz ob u)) s.heap c w':=fun c w' x=>x.stay (fun _ _ _ q=>q) (fun d r=>by rw [Zd (nown d c r)]; exact r) fun d xs r=>by rw [Zd (ntup d xs r)]; exact r
  by_cases hb:b=a
  ·subst hb
   rw [Zb] at q
   cases q
   exact ⟨ho,st _ _ (I.hok _ _ e)⟩
  ·rw [Zd hb] at q
   exact st _ _ (I.hok b v q)
 exact I.un (h':=s.heap) (t':=s.toks) un hok
end
section
theorem KV.at {kvs:List (Key × V)} {vs:List (Key × Value)} (r:KV kvs vs):∀ {i:Nat} {k:Key} {v:V},kvs[i]?=some (k,v)→∃ u,vs[i]?=some (k,u)∧RelV v u:=by
 induction r with
 | nil=>intro i k v h; simp at h
 | cons r t ih =>
  intro i k v h
  cases i with
  | zero =>
   simp at h
   subst h
   exact ⟨_,by rw [List.getElem?_cons_zero]; exact congrArg some (Prod.ext r.1.symm rfl),r.2⟩
  | succ i =>
   obtain ⟨u,h1,h2⟩:=ih (by simpa using h)
   exact ⟨u,by simpa using h1,h2⟩
theorem Zn1 {P:Program} {w:World} {k:Key} {u:Value} (h:(Z9 P w).is k u=true):RelV (kV k) u:=by
 cases k with
 | inl i=>obtain ⟨t,e⟩:=Value.isInt_shape (k:=i) (v:=u) h; exact ⟨t,e⟩
 | inr x=>obtain ⟨t,e⟩:=Value.isStrOf_shape (x:=x) (v:=u) h; exact ⟨t,e⟩
theorem Je {X:Cx} {pins:List (Addr × Obj)} {σ:St} {H:Hp} {s:Shared} {d:Addr} {o:Obj} {kvs:List (Key × V)} (I:Inv X pins σ H s) (e:H d=some (.frz o (.dK kvs))) :
  ∃ vs ep,KV kvs vs∧s.heap.DictAt (Z9 X.prog X.w) d vs ep∧s.heap.get? d=some o:=by
 obtain ⟨ho,_,_,vs,rel,dd⟩:=I.hok d _ e
 obtain ⟨ep,da⟩:=dd.dictAt
 exact ⟨vs,ep,rel,da,ho⟩
noncomputable def epOf (o:Obj):Nat:=match o.data with
 | .dict _ ep=>ep
 | _=>0
theorem Oc {P:Program} {w:World} {h:Heap} {d:Addr} {o:Obj} {vs:List (Key × Value)} {ep:Nat} (da:h.DictAt (Z9 P w) d vs ep) (ho:h.get? d=some o):ep=epOf o:=by
 obtain ⟨o',es,h1,_,h2,_⟩:=da
 rw [ho] at h1
 cases h1
 unfold epOf
 rw [h2]
theorem Zgc {P:Program} {w:World} {K:PySem.W.Frag} {tg:Expr} (d it:Addr) (kvs:List (Key × V)) (o:Obj) :
  Turn P w K tg ⟨fun i H=>i < kvs.length∧H d=some (.frz o (.dK kvs)),fun i H x H'=>H'=H∧∃ k,kvs[i]?=some (k,x),fun i H=>kvs.length≤i∧H d=some (.frz o (.dK kvs))⟩ [it] it (fun i h=>h.IsValIter it d i kvs.length (epOf o)) where
 mem:=by simp
 obj:=fun i h st b hb=>by
  have e:b=it:=by simpa using hb
  subst e
  obtain ⟨o,e,c,d⟩:=st
  exact ⟨o,e,fun v z=>by rw [d] at z; cases z⟩
 keep:=fun i h h' st k=>st.at fun o e=>k it (by simp) o e
 item:=by
  intro X hP hw hK hc i pins s σ H E I hf st hg
  subst hP hw hK
  obtain ⟨hi,hq⟩:=hg
  obtain ⟨vs,ep,rel,da,ho⟩:=Je I hq
  have hep:=Oc da ho
  subst hep
  obtain ⟨f0,f1,f2,f3,f4,f5⟩:=hf it (by simp)
  obtain ⟨⟨k,v⟩,hx⟩:∃ p,kvs[i]?=some p:=⟨_,List.getElem?_eq_getElem hi⟩
  obtain ⟨u,hu,ru⟩:=rel.at hx
  have hlen:vs.length=kvs.length:=rel.length.symm
  rw [← hlen] at st
  refine wpAny_pyNext_values_item st da hu fun h' st' sb=>?_
  have I1:Inv X pins σ H { s with heap:=h' }:=I.turned (t':=s.toks) (fun b o hb e=>(sb.2 b hb).trans e) f0 f1 f3 f4 f5
  rw [hlen] at st'
  obtain ⟨oi,e,c,dd⟩:=id st'
  exact ⟨u,rfl,K5 (s:={ s with heap:=h' }) e c dd (by decide) ⟨v,H,I1,ru,⟨rfl,k,hx⟩,st',fun b hb=>(hf b hb).1⟩⟩
 done:=by
  intro X hP hw hK hc i pins s σ H E I hf st hg
  subst hP hw hK
  obtain ⟨hi,hq⟩:=hg
  obtain ⟨vs,ep,rel,da,ho⟩:=Je I hq
  have hep:=Oc da ho
  subst hep
  obtain ⟨f0,f1,f2,f3,f4,f5⟩:=hf it (by simp)
  have hlen:vs.length=kvs.length:=rel.length.symm
  rw [← hlen] at st
  exact wpAny_pyNext_values_end (I.ok.hd hc) st da (by rw [List.getElem?_eq_none]; omega) fun h' eb=>⟨rfl,I.turned (t':=s.toks) (fun b o hb e=>eb b o hb e) f0 f1 f3 f4 f5⟩
 self:=fun _ _ _ _ _ st h=>wpAny_pyIter_valiter st h
end
end L2
set_option maxHeartbeats 4000000
namespace L2
open PySem PySem.Spec PyProof.Rows
section
variable {X:Cx} {tg:Expr} {l:Expr} {tl:TE}
noncomputable def Itv2 (d:Addr) (kvs:List (Key × V)) (o:Obj):It:=⟨fun i H=>i < kvs.length∧H d=some (.frz o (.dK kvs)),fun i H x H'=>H'=H∧∃ k,kvs[i]?=some (k,x),fun i H=>kvs.length≤i∧H d=some (.frz o (.dK kvs))⟩
noncomputable def Zkp (J:Addr→List (Key × V)→Obj→It) (tl:TE):TI:=fun σ H R=>tl σ H fun x H1=>∃ a kvs,x=.ref a∧((H1 a=some (.dK kvs)∧∀ o,R (J a kvs o) (upd H1 a (.frz o (.dK kvs))))∨∃ o,H1 a=some (.frz o (.dK kvs))∧R (J a kvs o) H1)
theorem Zcs {pins:List (Addr × Obj)} {σ:St} {H:Hp} {s:Shared} {a:Addr} {kvs:List (Key × V)} {R:Obj→Hp→Prop} (I:Inv X pins σ H s)
  (h:(H a=some (.dK kvs)∧∀ o,R o (upd H a (.frz o (.dK kvs))))∨∃ o,H a=some (.frz o (.dK kvs))∧R o H):∃ o H',H' a=some (.frz o (.dK kvs))∧Inv X pins σ H' s∧R o H':=by
 rcases h with ⟨e,r⟩ | ⟨o,e,r⟩
 ·obtain ⟨ob,ho⟩:=(I.hok a _ e).there
  exact ⟨ob,_,Zb,I.freeze e True.intro ho,r ob⟩
 ·exact ⟨o,H,e,I,r⟩
structure M0 (X:Cx) (o:Expr) (m:Str) (apos cpos:Pos):Prop where
 base:attributeBase o m X.env (eval o X.env)=eval o X.env
 few:((backTo cpos (starEach [] X.env)).all (fun x=>!x.1) && (backToKw cpos (keywordEach [] X.env)).all (fun x=>x.1.isSome)
  && decide (([]:List Expr).length + ([]:List Keyword).length + (if ([]:List Keyword).isEmpty then 0 else 1) < 30))=true
 line:(apos.endLine == cpos.line)=true
theorem Zlm {apos cpos:Pos} (hl:PE X l tl) (m:M0 X l "values" apos cpos):PI X tg (.Call (.Attribute l "values" apos) [] [] cpos) (Zkp Itv2 tl):=by
 intro pins s σ H R I h
 refine wpAny_Call_method m.base m.few m.line PySem.F.plainAttrs_dict PySem.F.slot_dict_values PySem.F.type_dict_values (thn (hl pins s σ H _ I h) fun v s1 zz9=>?_)
 obtain ⟨x,H1,I1,r1,q1⟩:=zz9
 obtain ⟨a,kvs,e,q⟩:=q1
 subst e
 cases r1
 obtain ⟨o,H2,e2,I2,q2⟩:=Zcs (R:=fun o H=>R (Itv2 a kvs o) H) I1 q
 obtain ⟨vs,ep,rel,da,ho⟩:=Je I2 e2
 have hep:=Oc da ho
 subst hep
 obtain ⟨_,_,hsys,_⟩:=I2.hok a _ e2
 have isd:IsD H2 a:=.inl ⟨kvs,.inr ⟨o,e2⟩⟩
 obtain ⟨t1,t2,_⟩:=Zcf I2 isd
 refine ⟨t1,t2,?_⟩
 refine Calls.callWith_builtin rfl (PyProof.Rows.evalArgs_empty ?_)
 refine call_meetsIn PySem.F.slot_dict_values da.dictOf.typeIs PySem.F.entry_dict_values (PySem.F.args_dict_values_1 _) (meets_dict_values (Z9 X.prog X.w) a hsys) ⟨⟨vs,da.dictOf⟩,?_⟩
 have I3:Inv X pins σ H2 { s1 with heap:=s1.heap.push { cls:=.type "dict_values",data:=.fields #[.ref a] } }:=I2.kept (t':=s1.toks) fun b o e=>Heap.get?_push_of_some _ e
 refine wpAny_pyIter_values ⟨_,Heap.get?_push_size _ rfl,rfl,rfl⟩ (da.push _) ?_
 have hlen:vs.length=kvs.length:=rel.length.symm
 rw [hlen]
 refine ⟨(s1.heap.push { cls:=.type "dict_values",data:=.fields #[.ref a] }).objs.size,[(s1.heap.push { cls:=.type "dict_values",data:=.fields #[.ref a] }).objs.size],_,_,H2,rfl,I3.kept (t':=s1.toks) fun b o e=>Heap.get?_push_of_some _ e,Zgc a _ kvs o,⟨_,Heap.get?_push_size _ rfl,rfl,rfl⟩,fun b hb=>?_,q2⟩
 have e:b=(s1.heap.push { cls:=.type "dict_values",data:=.fields #[.ref a] }).objs.size:=by simpa using hb
 subst e
 exact I3.fpOk (Nat.le_refl _) (I3.hok.fresh (Nat.le_refl _))
end
section
noncomputable def Ite (K:PySem.W.Frag) (a:Addr):It :=
 ⟨fun i H=>∃ xs x,SqL K H a xs∧xs[i]?=some x,fun i H x H'=>∃ q y,H q=none∧x=.ref q∧(∀ xs,SqL K H a xs→xs[i]?=some y)∧H'=upd H q (.tup [.int i,y]),fun i H=>∃ xs,SqL K H a xs∧xs.length≤i⟩
theorem Zge {P:Program} {w:World} {K:PySem.W.Frag} {elts:List Expr} {x1:Nat} {pos:Pos} (a e it:Addr) (hne:e≠it):Turn P w K (.Tuple elts x1 pos) (Ite K a) [e,it] e (fun i h=>(∃ old,IsEnum h e it i old)∧h.IsListIter it a i) where
 mem:=by simp
 obj:=fun i h st b hb=>by
  obtain ⟨⟨old,h1⟩,o,h2,c,d⟩:=st
  rcases List.mem_cons.mp hb with z | z
  ·subst z
   exact ⟨_,h1,fun v z=>by
    have z':Data.fields _=Data.cell v:=z
    cases z'⟩
  ·have z:b=it:=by simpa using z
   subst z
   exact ⟨o,h2,fun v z=>by rw [d] at z; cases z⟩
 keep:=fun i h h' st k=>⟨let ⟨old,h1⟩:=st.1; ⟨old,k e (by simp) _ h1⟩,st.2.at fun o q=>k it (by simp) o q⟩
 item:=by
  intro X hP hw hK hc i pins s σ H E I hf st hg
  subst hP hw hK
  obtain ⟨xs,x,hq,hx⟩:=hg
  obtain ⟨its,rv,p,hz⟩:=I.list hq
  obtain ⟨u,hu,ru⟩:=rv.get hx
  obtain ⟨f0,f1,f2,f3,f4,f5⟩:=hf e (by simp)
  obtain ⟨g0,g1,g2,g3,g4,g5⟩:=hf it (by simp)
  obtain ⟨⟨old,he⟩,hit⟩:=st
  refine wpAny_pyNext_enum_item he hit p.isList (x:=u) (by simpa using hu) hne fun h' ho' hit' ht' hsz' kk=>?_
  have eo:=Heap.lt_size he
  have io:it < s.heap.objs.size:=let ⟨o,q,_⟩:=hit; Heap.lt_size q
  refine ⟨.ref s.heap.objs.size,rfl,wpAny_letOwnedTupleGo_enum ho' fun h'' he'' sb=>?_⟩
  have keepb:∀ b o,b≠e→b≠it→s.heap.get? b=some o→h''.get? b=some o:=fun b o h1 h2 q=>(sb.2 b h1).trans (kk b o h1 h2 q)
  have ht'':h''.get? s.heap.objs.size=some { cls:=.type "tuple",data:=.seq #[.int i s.toks,u] }:=(sb.2 _ (Nat.ne_of_gt eo)).trans ht'
  have hn:H s.heap.objs.size=none:=I.hok.fresh (Nat.le_refl _)
  have I2:Inv X pins σ (upd H s.heap.objs.size (.tup [.int i,x])) { s with heap:=h'',toks:=s.toks + 1 }:=by
   refine I.step (g':=s.gens) (d':=s.drawn) (ch:=[e,it]) (fun b hb=>?_) (fun b o _ _ hc q _=>keepb b o (fun z=>hc (by simp [z])) (fun z=>hc (by simp [z])) q) (fun b o _ _ hc q _=>⟨o.slots,keepb b o (fun z=>hc (by simp [z])) (fun z=>hc (by simp [z])) q⟩) (fun b o _ q n=>by rw [Zd (Nat.ne_of_lt (Heap.lt_size q))]; exact n)
    (fun b o hc q=>⟨o,keepb b o (fun z=>hc (by simp [z])) (fun z=>hc (by simp [z])) q⟩) (fun b ys q=>by rw [Zd (Zi q hn)]; exact q) (fun b o ys q=>by rw [Zd (Zi q hn)]; exact q) (fun b ps q=>⟨#[],by rw [Zd (Zi q hn),q]; simp⟩) (fun m hm=>?_) (fun b v q=>?_) I.bare
   ·rcases List.mem_cons.mp hb with z | z
    ·subst z; exact ⟨f3,f1,f4,f5⟩
    ·have z:b=it:=by simpa using z
     subst z; exact ⟨g3,g1,g4,g5⟩
   ·obtain ⟨o,es,ep,ho,r⟩:=hm
    exact ⟨o,es,ep,keepb _ o (Ne.symm f1) (Ne.symm g1) ho,r⟩
   ·by_cases hb:b=s.heap.objs.size
    ·subst hb
     rw [Zb] at q
     cases q
     exact ⟨by show 2≤sizeLine; decide,[.int i s.toks,u],.cons ⟨_,rfl⟩ (.cons ru .nil),⟨_,ht'',rfl,_,rfl⟩⟩
    ·rw [Zd hb] at q
     refine (I.hok b v q).stay (fun c w' hc z=>keepb c w' ?_ ?_ z) (fun d z=>by rw [Zd (Zi z hn)]; exact z) fun d ys z=>by rw [Zd (Zi z hn)]; exact z
     ·rintro rfl
      rcases hc with z | z
      ·rw [z,q] at f0; cases f0
      ·rw [f0] at z; cases z
     ·rintro rfl
      rcases hc with z | z
      ·rw [z,q] at g0; cases g0
      ·rw [g0] at z; cases z
  refine ⟨.ref s.heap.objs.size,_,I2,rfl,⟨_,x,hn,rfl,fun ys hy=>by rw [I.list_inj hy hq]; exact hx,rfl⟩,⟨⟨u,he''⟩,hit'.at fun o q=>(sb.2 it (Ne.symm hne)).trans q⟩,fun b hb=>?_⟩
  rcases List.mem_cons.mp hb with z | z
  ·subst z; rw [Zd (Nat.ne_of_lt eo)]; exact f0
  ·have z:b=it:=by simpa using z
   subst z; rw [Zd (Nat.ne_of_lt io)]; exact g0
 done:=by
  intro X hP hw hK hc i pins s σ H E I hf st hg
  subst hP hw hK
  obtain ⟨xs,hq,hx⟩:=hg
  obtain ⟨its,rv,p,hz⟩:=I.list hq
  obtain ⟨g0,g1,g2,g3,g4,g5⟩:=hf it (by simp)
  obtain ⟨⟨old,he⟩,hit⟩:=st
  have hl:=rv.length
  exact wpAny_pyNext_enum_end (I.ok.hd hc) he hit p.isList (by simp; omega) fun h' eb=>⟨rfl,I.turned (t':=s.toks) (fun b o hb e=>eb b o hb e) g0 g1 g3 g4 g5⟩
 self:=fun _ _ _ _ _ st h=>by
  obtain ⟨⟨old,he⟩,_⟩:=st
  exact wpAny_pyIter_enum he h
variable {X:Cx}
noncomputable def Zn5 (K:PySem.W.Frag) (ta:TA):TI:=fun σ H R=>ta σ H fun vs H1=>∃ a,vs=[.ref a]∧(∃ xs,SqL K H1 a xs)∧R (Ite K a) H1
theorem Zln {elts:List Expr} {x1:Nat} {tpos p pos:Pos} {l:Expr} {ta:TA} (hg:Gl X "enumerate") (hm:X.mg "enumerate"=none) (ha:PA X [l] ta) (hs:starEach [l] X.env=[(false,eval l X.env)]:=by rfl):PI X (.Tuple elts x1 tpos) (.Call (.Name "enumerate" p) [l] [] pos) (Zn5 X.K ta):=by
 intro pins s σ H R I h
 refine Call_ (Wa I hg hm boot_enumerate (PyProof.Rows.callWith_type1 (thn (ha pos pins s σ H _ I h) fun us s1 zz28=>?_) hs rfl))
 obtain ⟨vs,H1,I1,r1,q1⟩:=zz28
 obtain ⟨a,e,⟨xs,hq⟩,q⟩:=q1
 subst e
 obtain ⟨u,rfl,ru⟩:=Wd r1
 cases ru
 obtain ⟨its,rv,pl,hz⟩:=I1.list hq
 refine call_enumerate_list pl.isList fun h' he hit hsz hk=>wpAny_pyIter_enum he ?_
 have I2:Inv X pins σ H1 { s1 with heap:=h' }:=I1.kept (t':=s1.toks) hk
 refine ⟨s1.heap.objs.size + 1,[s1.heap.objs.size + 1,s1.heap.objs.size],_,_,H1,rfl,I2,Zge a _ _ (Nat.succ_ne_self _),⟨⟨.none,he⟩,hit⟩,fun b hb=>?_,q⟩
 rcases List.mem_cons.mp hb with z | z
 ·subst z; exact I1.fpOk (Nat.le_succ _) (I1.hok.fresh (Nat.le_succ _))
 ·have z:b=s1.heap.objs.size:=by simpa using z
  subst z; exact I1.fpOk (Nat.le_refl _) (I1.hok.fresh (Nat.le_refl _))
theorem Zj7 {K:PySem.W.Frag} {a:Addr} {xs:List V} {g:TG} {tb:TS} {D:Ends} {σ:St} {H:Hp} (Pv:Nat→St→Hp→Prop) (h0:Pv 0 σ H) (hl:∀ i σ H,i≤xs.length→Pv i σ H→SqL K H a xs)
  (hs:∀ i x σ H q,xs[i]?=some x→H q=none→Pv i σ H→g (.ref q) σ (upd H q (.tup [.int i,x])) fun σ2 H2=>tb { D with nx:=Pv (i + 1),ct:=Pv (i + 1),bk:=D.nx } σ2 H2) (hd:∀ σ H,Pv xs.length σ H→D.nx σ H) :
  ∃ W:Nat→Nat→St→Hp→Prop,(∃ m,W 0 m σ H)∧∀ i m σ H,W i m σ H →
   ((Ite K a).stop i H∧D.nx σ H)∨((Ite K a).go i H∧∃ N:St→Hp→Prop,(∀ σ' H',N σ' H'→∃ m',m' < m∧W (i + 1) m' σ' H')∧∀ x H',(Ite K a).yld i H x H'→g x σ H' fun σ2 H2=>tb { D with nx:=N,ct:=N,bk:=D.nx } σ2 H2):=by
 refine ⟨fun i m σ H=>m=xs.length - i∧i≤xs.length∧Pv i σ H,⟨xs.length,by simp,Nat.zero_le _,h0⟩,?_⟩
 rintro i m σ H ⟨rfl,hi,p⟩
 have q:=hl i σ H hi p
 by_cases hlt:i < xs.length
 ·refine .inr ⟨⟨xs,xs[i],q,by simp [hlt]⟩,Pv (i + 1),fun σ' H' p'=>⟨xs.length - (i + 1),by omega,rfl,hlt,p'⟩,fun x H' y=>?_⟩
  obtain ⟨c,z,hn,e1,e2,e3⟩:=y
  subst e1 e3
  exact hs i z σ H c (e2 xs q) hn p
 ·have e:i=xs.length:=by omega
  subst e
  exact .inl ⟨⟨xs,q,Nat.le_refl _⟩,hd σ H p⟩
theorem Zj6 {d:Addr} {kvs:List (Key × V)} {o:Obj} {g:TG} {tb:TS} {D:Ends} {σ:St} {H:Hp} (Pv:Nat→St→Hp→Prop) (h0:Pv 0 σ H) (hl:∀ i σ H,i≤kvs.length→Pv i σ H→H d=some (.frz o (.dK kvs)))
  (hs:∀ i k x σ H,kvs[i]?=some (k,x)→Pv i σ H→g x σ H fun σ2 H2=>tb { D with nx:=Pv (i + 1),ct:=Pv (i + 1),bk:=D.nx } σ2 H2) (hd:∀ σ H,Pv kvs.length σ H→D.nx σ H) :
  ∃ W:Nat→Nat→St→Hp→Prop,(∃ m,W 0 m σ H)∧∀ i m σ H,W i m σ H →
   ((Itv2 d kvs o).stop i H∧D.nx σ H)∨((Itv2 d kvs o).go i H∧∃ N:St→Hp→Prop,(∀ σ' H',N σ' H'→∃ m',m' < m∧W (i + 1) m' σ' H')∧∀ x H',(Itv2 d kvs o).yld i H x H'→g x σ H' fun σ2 H2=>tb { D with nx:=N,ct:=N,bk:=D.nx } σ2 H2):=by
 refine ⟨fun i m σ H=>m=kvs.length - i∧i≤kvs.length∧Pv i σ H,⟨kvs.length,by simp,Nat.zero_le _,h0⟩,?_⟩
 rintro i m σ H ⟨rfl,hi,p⟩
 have q:=hl i σ H hi p
 by_cases hlt:i < kvs.length
 ·refine .inr ⟨⟨hlt,q⟩,Pv (i + 1),fun σ' H' p'=>⟨kvs.length - (i + 1),by omega,rfl,hlt,p'⟩,fun x H' y=>?_⟩
  obtain ⟨e,k,y⟩:=y
  subst e
  exact hs i k x σ _ y p
 ·have e:i=kvs.length:=by omega
  subst e
  exact .inl ⟨⟨Nat.le_refl _,q⟩,hd σ H p⟩
noncomputable def Zky (ta:TA):TE:=fun σ H Q=>ta σ H fun vs H1=>∃ n:Nat,vs=[.int n]∧n≤1000∧∀ p,H1 p=none→Q (.ref p) (upd H1 p (.lst ((List.range n).map fun (i:Nat)=>V.int i)))
theorem W1 {a:Expr} {ta:TA} {p1 p2 pos pos2:Pos} (hgl:Gl X "list") (hml:X.mg "list"=none) (hg:Gl X "range") (hm:X.mg "range"=none) (hc:X.calm=true) (ha:PA X [a] ta) (hs:starEach [a] X.env=[(false,eval a X.env)]:=by rfl)
  (hs2:starEach [.Call (.Name "range" p2) [a] [] pos2] X.env=[(false,eval (.Call (.Name "range" p2) [a] [] pos2) X.env)]:=by rfl):PE X (.Call (.Name "list" p1) [.Call (.Name "range" p2) [a] [] pos2] [] pos) (Zky ta):=by
 intro pins s σ H Q I h
 refine Call_ (Wa I hgl hml PySem.Pv.boot_list (PyProof.Rows.callWith_type1 ?_ hs2 rfl))
 rw [hs2]
 refine Calls.spliced_cons ?_
 refine Call_ (Wa I hg hm boot_range (PyProof.Rows.callWith_type1 (thn (ha pos2 pins s σ H _ I h) fun us s1 zz29=>?_) hs rfl))
 obtain ⟨vs,H1,I1,r1,q1⟩:=zz29
 obtain ⟨n,e,hn,q⟩:=q1
 subst e
 obtain ⟨u,rfl,ru⟩:=Wd r1
 obtain ⟨t,rfl⟩:=ru
 refine call_range_1 (Calls.spliced_nil ?_)
 have hr:Builtin.Range.rangeSize 0 (n:Int) 1=n:=by rw [rangeSize_one]; split <;> omega
 refine call_list_range (I.ok.hd hc) (IsRange.new ..) (small_one (by omega) (by omega) (by omega) (by omega)) hr (by omega) fun h' tk acc c' hk hS hacc=>?_
 have hk1:∀ b o,s1.heap.get? b=some o→h'.get? b=some o:=fun b o e=>hk b o (Heap.get?_push_of_some _ e)
 have hv:Vals ((List.range n).map fun (i:Nat)=>V.int i) acc.toList:=by
  have gen:∀ (l:List Value) (k:Nat),(∀ (j:Nat) (v:Value),l[j]?=some v→∃ t,v=.int ((k + j:Nat):Int) t)→Vals ((List.range' k l.length).map fun (i:Nat)=>V.int i) l:=by
   intro l
   induction l with
   | nil=>intro k _; exact .nil
   | cons v r ih =>
    intro k h
    obtain ⟨t,e⟩:=h 0 v rfl
    rw [List.length_cons,List.range'_succ,List.map_cons]
    refine .cons ⟨t,by rw [e]; rfl⟩ (ih (k + 1) fun j w hw=>?_)
    obtain ⟨t',e'⟩:=h (j + 1) w (by simpa using hw)
    exact ⟨t',by rw [e']; congr 1; omega⟩
  have hl:acc.toList.length=n:=by rw [Array.length_toList]; exact hacc.1
  have:=gen acc.toList 0 fun j v hj=>by
   obtain ⟨t,e⟩:=hacc.2 j v (by rw [← Array.getElem?_toList]; exact hj)
   exact ⟨t,by rw [e]; congr 1; omega⟩
  rw [hl,← List.range_eq_range'] at this
  exact this
 have hle:s1.heap.objs.size≤(s1.heap.push { cls:=.type "range",data:=.fields #[.int 0 s1.toks,.int (n:Int) t,.int 1 (s1.toks + 1)] }).objs.size:=by rw [Heap.size_push]; exact Nat.le_succ _
 refine ⟨.ref _,upd H1 _ (.lst ((List.range n).map fun (i:Nat)=>V.int i)),I1.laid hk1 (Nat.le_of_lt (by first | exact Nat.lt_of_le_of_lt hle (Heap.lt_size hS) | (rw [Heap.size_push]; exact Nat.lt_succ_self _))) ⟨?_,acc.toList,c',hv,?_⟩,rfl,q _ (I1.hok.fresh ?_)⟩
 ·rw [List.length_map,List.length_range,sizeLine_eq]; omega
 ·simpa using hS
 ·rw [Heap.size_push]; exact Nat.le_succ _
end
end L2
set_option maxHeartbeats 4000000
namespace L2
open PySem PySem.Spec PyProof.Rows
noncomputable abbrev TJ:=Str→TE
end L2
set_option maxHeartbeats 4000000
namespace L2
open PySem PySem.Spec PyProof.Rows
section
variable {X:Cx}
theorem Xb (K:PySem.W.Frag) (h:X.K=K:=by rfl):IxR X (rIxL K):=h ▸ Zt
theorem Zeq (K:PySem.W.Frag) (h:X.K=K:=by rfl):IxR X (rIxT K):=h ▸ Uv
theorem Zac (K:PySem.W.Frag) (h:X.K=K:=by rfl):Y7 X (.builtin "len") (fun xs H Q=>∃ p ys,xs=[.ref p]∧(SqL K H p ys∨SqT K H p ys)∧Q (.int ys.length) H):=h ▸ Zk
theorem V7 (K:PySem.W.Frag) (h:X.K=K:=by rfl):Y7 X (.type "list") (fun xs H Q=>∃ p ys,xs=[.ref p]∧(SqL K H p ys∨SqT K H p ys)∧∀ l,H l=none→Q (.ref l) (upd H l (.lst ys))):=h ▸ W7
theorem Vh (K:PySem.W.Frag) (h:X.K=K:=by rfl):Y7 X (.type "tuple") (fun xs H Q=>∃ p ys,xs=[.ref p]∧((SqL K H p ys∧∀ l,H l=none→Q (.ref l) (upd H l (.tup ys)))∨(SqT K H p ys∧Q (.ref p) H))):=h ▸ Zab
variable {tg l e:Expr} {tl ta:TE} {f:Str} {pos:Pos}
theorem Zjd (K:PySem.W.Frag) (hl:PE X l tl) (h:X.K=K:=by rfl):PI X tg l (Zko K tl):=h ▸ Zz hl
theorem Zee (K:PySem.W.Frag) (hl:PE X l tl) (h:X.K=K:=by rfl):PI X tg l (iTup K tl):=h ▸ Zmv hl
end
end L2
set_option maxHeartbeats 4000000
namespace L2
open PySem PySem.Spec PyProof.Rows
section
variable {prog:Program} {w:World} {A:Around} {E:Value→Shared→Prop}
theorem Zn8 {it l:Addr} {xs:Array Value} (ne:l≠it) (k:Nat):∀ (i:Nat) (s:Shared) (Q:List Value→Shared→Prop),s.heap.IsListIter it l i→s.heap.IsList l xs→i + k≤xs.size →
  (∀ h',h'.IsListIter it l (i + k)→Heap.SameBut it s.heap h'→Q ((xs.toList.drop i).take k) { s with heap:=h' })→wpAny (model prog w) A (draw (.ref it) k) Q E s:=by
 induction k with
 | zero =>
  intro i s Q a b c q
  have z:=q s.heap a (Heap.SameBut.refl ..)
  rw [List.take_zero] at z
  exact wpAny_pure z
 | succ k ih =>
  intro i s Q a b c q
  have lt:i < xs.size:=by omega
  refine wpAny_bind (m:=pyNext (.ref it)) (wpAny_pyNext_list_item a b (x:=xs[i]) (by simp [lt]) fun g st sb=>?_)
  refine wpAny_bind (wpAny_holding (ih (i + 1) _ _ st (b.extBut sb.extBut ne) (by omega) fun g2 st2 sb2=>wpAny_pure ?_))
  have z:=q g2 (by rw [Nat.add_right_comm] at st2; exact st2) (sb.trans sb2)
  rwa [List.drop_eq_getElem_cons (by simpa using lt),List.take_succ_cons,Array.getElem_toList] at z
theorem Zkw {l:Addr} {xs:Array Value} {s:Shared} {Q:List Value→Shared→Prop} (hc:A.handled=none) (b:s.heap.IsList l xs)
  (q:∀ h',Heap.ExtBut s.heap.objs.size s.heap h'→Q xs.toList { s with heap:=h' }):wpAny (model prog w) A (unpackItems (.ref l) xs.size none) Q E s:=by
 have ne:l≠s.heap.objs.size:=by obtain ⟨o,ho,_⟩:=b; exact Nat.ne_of_lt (Heap.lt_size ho)
 unfold unpackItems notIterableAtAll
 refine wpAny_bind (wpAny_bind (wpAny_specialOf b.typeIs PySem.F.slot_list_iter.lookup (wpAny_pure ?_)))
 rw [if_neg (by decide)]
 refine wpAny_bind (wpAny_holding (wpAny_pyIter_list b ?_))
 refine wpAny_bind (wpAny_holding (Zn8 ne xs.size 0 _ _ ⟨_,Heap.get?_push_size _ rfl,rfl,rfl⟩ (b.push _) (by omega) fun g st sb=>?_))
 have e:(xs.toList.drop 0).take xs.size=xs.toList:=by rw [List.drop_zero,List.take_of_length_le]; simp
 rw [e,if_neg (by simp)]
 refine wpAny_bind (wpAny_holding (wpAny_pyNext_list_end hc st ((b.push _).extBut sb.extBut ne) (by simp) fun g2 eb=>?_))
 rw [if_neg (by decide)]
 exact wpAny_pure (q g2 fun c o hb z=>eb c o hb (sb.extBut c o hb (Heap.get?_push_of_some _ z)))
end
section
variable {X:Cx} {pos:Pos}
noncomputable def gLst (K:PySem.W.Frag) (n:Nat) (t:TGs):TG:=fun v σ H Q=>∃ a xs,v=.ref a∧SqL K H a xs∧xs.length=n∧t xs σ H Q
theorem Zmw {es:List Expr} {k:Nat} {t:TGs} {n:Nat} (hc:X.calm=true) (h:PGs X es t)
  (hn:(assignEach es X.env).length=n:=by rfl) (hst:(assignEach es X.env).findIdx? (·.1)=none:=by rfl):PG X (.Tuple es k pos) (gLst X.K n t):=by
 intro pins s σ H v u Q I r hw
 obtain ⟨a,xs,e1,hq,hl,hw⟩:=hw
 subst e1
 cases r
 obtain ⟨its,rv,p,hz⟩:=I.list hq
 rw [assign_Tuple]
 refine wpAny_bind (wpAny_standAt ?_)
 unfold unpack
 have hn2:(assignEach es X.env).length=its.toArray.size:=by rw [hn,← hl,rv.length]; simp
 rw [hn2,hst]
 refine wpAny_bind (wpAny_holding (Zkw (I.ok.hd hc) p.isList fun h' hx=>?_))
 have I1:Inv X pins σ H { s with heap:=h' }:=I.kept (t':=s.toks) fun b o e=>hx b o (Nat.ne_of_lt (Heap.lt_size e)) e
 exact h pins _ σ H xs _ Q I1 (by simpa using rv) hw
end
end L2
set_option maxHeartbeats 4000000
namespace L2
open PySem PySem.Spec PyProof.Rows
noncomputable def Gc (w:World) (K:PySem.W.Frag) (a:Addr) (kvs:List (Key × V)):Prop :=
 ∃ o es ep vs,K.lookup a=some o∧o.ExactDict∧o.data=.dict es ep∧(∀ e∈es,∃ k,Vv k e.key=true∧e.hash=keyH w k)∧(∀ P:Program,Pairs (Z9 P w) es.toList vs)∧(vs.map (·.1)).Nodup∧KV kvs vs∧(a == sysModules)=false
section
variable {X:Cx} {i o:Expr} {ty td:TE} {pos:Pos}
theorem Gc.here {pins:List (Addr × Obj)} {σ:St} {H:Hp} {s:Shared} {a:Addr} {kvs:List (Key × V)} (h:Gc X.w X.K a kvs) (I:Inv X pins σ H s):(a == sysModules)=false∧∃ vs,KV kvs vs∧s.heap.DictOf (Z9 X.prog X.w) a vs:=by
 obtain ⟨o,es,ep,vs,h1,h2,h3,h4,h5,h6,h7,h8⟩:=h
 exact ⟨h8,vs,h7,o,es,ep,I.kIn a o h1,h2,h3,h4,h5 X.prog,h6⟩
noncomputable def Zkz (w:World) (K:PySem.W.Frag) (ty td:TE):TE:=fun σ H Q=>ty σ H fun y H1=>td σ H1 fun x H2=>∃ a kvs k,x=.ref a∧Gc w K a kvs∧y=kV k∧Q (.bl (!(valV kvs k).isSome)) H2
theorem Zhb (hi:PE X i ty) (ho:PE X o td):PC X .NotIn i o (Zkz X.w X.K ty td):=by
 intro pins s σ H Q I h
 refine thn (hi pins s σ H _ I h) fun iv s1 zz30=>?_
 obtain ⟨y,H1,I1,ry,q1⟩:=zz30
 refine thn (ho pins s1 σ H1 _ I1 q1) fun u s2 zz9=>?_
 obtain ⟨x,H2,I2,rx,a,kvs,k,ex,g,ey,q2⟩:=zz9
 subst ex ey
 obtain rfl:u=Value.ref a:=rx
 obtain ⟨hd,vs,rel,dd⟩:=g.here I2
 refine wpAny_notIn_of (U7 ry) hd dd.mapOf ?_
 rw [← (rel.val k).isSome_eq]
 exact ⟨.bl _,H2,I2.tok _,rfl,q2⟩
end
section
noncomputable def Itm2 (d:Addr) (kvs:List (Key × V)) (o:Obj):It :=
 ⟨fun i H=>i < kvs.length∧H d=some (.frz o (.dK kvs)),fun i H x H'=>∃ q k v,H q=none∧x=.ref q∧kvs[i]?=some (k,v)∧H'=upd H q (.tup [kV k,v]),fun i H=>kvs.length≤i∧H d=some (.frz o (.dK kvs))⟩
theorem Zfb {P:Program} {w:World} {K:PySem.W.Frag} {elts:List Expr} {x1:Nat} {pos:Pos} (d it:Addr) (kvs:List (Key × V)) (o:Obj) :
  Turn P w K (.Tuple elts x1 pos) (Itm2 d kvs o) [it] it (fun i h=>∃ a b,IsItemIter h it d i kvs.length (epOf o) a b) where
 mem:=by simp
 obj:=fun i h st b hb=>by
  have e:b=it:=by simpa using hb
  subst e
  obtain ⟨a,c,z⟩:=st
  exact ⟨_,z,fun v y=>by
   have y':Data.fields _=Data.cell v:=y
   cases y'⟩
 keep:=fun i h h' st k=>by
  obtain ⟨a,c,z⟩:=st
  exact ⟨a,c,k it (by simp) _ z⟩
 item:=by
  intro X hP hw hK hc i pins s σ H E I hf st hg
  subst hP hw hK
  obtain ⟨hi,hq⟩:=hg
  obtain ⟨vs,ep,rel,da,ho⟩:=Je I hq
  have hep:=Oc da ho
  subst hep
  obtain ⟨f0,f1,f2,f3,f4,f5⟩:=hf it (by simp)
  obtain ⟨⟨k,v⟩,hx⟩:∃ p,kvs[i]?=some p:=⟨_,List.getElem?_eq_getElem hi⟩
  obtain ⟨u,hu,ru⟩:=rel.at hx
  have hlen:vs.length=kvs.length:=rel.length.symm
  obtain ⟨a0,b0,st⟩:=st
  rw [← hlen] at st
  have itlt:=Heap.lt_size st
  refine wpAny_pyNext_items_item st da hu fun key h' hk st' ht hsz kk=>?_
  rw [hlen] at st'
  refine ⟨.ref s.heap.objs.size,rfl,wpAny_letOwnedTupleGo_items st' fun h'' st'' sb=>?_⟩
  have keepb:∀ b z,b≠it→s.heap.get? b=some z→h''.get? b=some z:=fun b z hb e=>(sb.2 b hb).trans (kk b z hb e)
  have ht'':h''.get? s.heap.objs.size=some { cls:=.type "tuple",data:=.seq #[key,u] }:=(sb.2 _ (Nat.ne_of_gt itlt)).trans ht
  have hn:H s.heap.objs.size=none:=I.hok.fresh (Nat.le_refl _)
  have I2:Inv X pins σ (upd H s.heap.objs.size (.tup [kV k,v])) { s with heap:=h'' }:=by
   refine I.step (g':=s.gens) (d':=s.drawn) (ch:=[it]) (fun b hb=>?_) (fun b o _ _ hc q _=>keepb b o (fun z=>hc (by simp [z])) q) (fun b o _ _ hc q _=>⟨o.slots,keepb b o (fun z=>hc (by simp [z])) q⟩) (fun b o _ q n=>by rw [Zd (Nat.ne_of_lt (Heap.lt_size q))]; exact n)
    (fun b o hc q=>⟨o,keepb b o (fun z=>hc (by simp [z])) q⟩) (fun b ys q=>by rw [Zd (Zi q hn)]; exact q) (fun b o ys q=>by rw [Zd (Zi q hn)]; exact q) (fun b ps q=>⟨#[],by rw [Zd (Zi q hn),q]; simp⟩) (fun m hm=>?_) (fun b v' q=>?_) I.bare
   ·have z:b=it:=by simpa using hb
    subst z; exact ⟨f3,f1,f4,f5⟩
   ·obtain ⟨o,es,ep,ho,r⟩:=hm
    exact ⟨o,es,ep,keepb _ o (Ne.symm f1) ho,r⟩
   ·by_cases hb:b=s.heap.objs.size
    ·subst hb
     rw [Zb] at q
     cases q
     exact ⟨by show 2≤sizeLine; decide,[key,u],.cons (Zn1 hk) (.cons ru .nil),⟨_,ht'',rfl,_,rfl⟩⟩
    ·rw [Zd hb] at q
     refine (I.hok b v' q).stay (fun c w' hc z=>keepb c w' ?_ z) (fun d z=>by rw [Zd (Zi z hn)]; exact z) fun d ys z=>by rw [Zd (Zi z hn)]; exact z
     rintro rfl
     rcases hc with z | z
     ·rw [z,q] at f0; cases f0
     ·rw [f0] at z; cases z
  refine ⟨.ref s.heap.objs.size,_,I2,rfl,⟨_,k,v,hn,rfl,hx,rfl⟩,⟨_,_,st''⟩,fun b hb=>?_⟩
  have z:b=it:=by simpa using hb
  subst z; rw [Zd (Nat.ne_of_lt itlt)]; exact f0
 done:=by
  intro X hP hw hK hc i pins s σ H E I hf st hg
  subst hP hw hK
  obtain ⟨hi,hq⟩:=hg
  obtain ⟨vs,ep,rel,da,ho⟩:=Je I hq
  have hep:=Oc da ho
  subst hep
  obtain ⟨f0,f1,f2,f3,f4,f5⟩:=hf it (by simp)
  have hlen:vs.length=kvs.length:=rel.length.symm
  obtain ⟨a0,b0,st⟩:=st
  rw [← hlen] at st
  exact wpAny_pyNext_items_end (I.ok.hd hc) st da (by rw [List.getElem?_eq_none]; omega) fun h' eb=>⟨rfl,I.turned (t':=s.toks) (fun b o hb e=>eb b o hb e) f0 f1 f3 f4 f5⟩
 self:=fun _ _ _ _ _ st h=>by
  obtain ⟨a,b,st⟩:=st
  exact PySem.W.kcp_self st h
variable {X:Cx} {l:Expr} {tl:TE}
theorem Zje {elts:List Expr} {x1:Nat} {tpos apos cpos:Pos} (hl:PE X l tl) (m:M0 X l "items" apos cpos):PI X (.Tuple elts x1 tpos) (.Call (.Attribute l "items" apos) [] [] cpos) (Zkp Itm2 tl):=by
 intro pins s σ H R I h
 refine wpAny_Call_method m.base m.few m.line PySem.F.plainAttrs_dict PySem.F.slot_dict_items PySem.F.type_dict_items (thn (hl pins s σ H _ I h) fun v s1 zz9=>?_)
 obtain ⟨x,H1,I1,r1,q1⟩:=zz9
 obtain ⟨a,kvs,e,q⟩:=q1
 subst e
 cases r1
 obtain ⟨o,H2,e2,I2,q2⟩:=Zcs (R:=fun o H=>R (Itm2 a kvs o) H) I1 q
 obtain ⟨vs,ep,rel,da,ho⟩:=Je I2 e2
 have hep:=Oc da ho
 subst hep
 obtain ⟨_,_,hsys,_⟩:=I2.hok a _ e2
 have isd:IsD H2 a:=.inl ⟨kvs,.inr ⟨o,e2⟩⟩
 obtain ⟨t1,t2,_⟩:=Zcf I2 isd
 refine ⟨t1,t2,?_⟩
 refine Calls.callWith_builtin rfl (PyProof.Rows.evalArgs_empty ?_)
 refine call_meetsIn PySem.F.slot_dict_items da.dictOf.typeIs PySem.F.entry_dict_items (PySem.F.args_dict_items_1 _) (meets_dict_items (Z9 X.prog X.w) a hsys) ⟨⟨vs,da.dictOf⟩,?_⟩
 have I3:Inv X pins σ H2 { s1 with heap:=s1.heap.push { cls:=.type "dict_items",data:=.fields #[.ref a] } }:=I2.kept (t':=s1.toks) fun b o e=>Heap.get?_push_of_some _ e
 refine wpAny_pyIter_items ⟨_,Heap.get?_push_size _ rfl,rfl,rfl⟩ (da.push _) ?_
 have hlen:vs.length=kvs.length:=rel.length.symm
 rw [hlen]
 refine ⟨(s1.heap.push { cls:=.type "dict_items",data:=.fields #[.ref a] }).objs.size,[(s1.heap.push { cls:=.type "dict_items",data:=.fields #[.ref a] }).objs.size],_,_,H2,rfl,I3.kept (t':=s1.toks) fun b o e=>Heap.get?_push_of_some _ e,Zfb a _ kvs o,⟨_,_,Heap.get?_push_size _ rfl⟩,fun b hb=>?_,q2⟩
 have e:b=(s1.heap.push { cls:=.type "dict_items",data:=.fields #[.ref a] }).objs.size:=by simpa using hb
 subst e
 exact I3.fpOk (Nat.le_refl _) (I3.hok.fresh (Nat.le_refl _))
theorem Zh9 {d:Addr} {kvs:List (Key × V)} {o:Obj} {g:TG} {tb:TS} {D:Ends} {σ:St} {H:Hp} (Pv:Nat→St→Hp→Prop) (h0:Pv 0 σ H) (hl:∀ i σ H,i≤kvs.length→Pv i σ H→H d=some (.frz o (.dK kvs)))
  (hs:∀ i k x σ H q,kvs[i]?=some (k,x)→H q=none→Pv i σ H→g (.ref q) σ (upd H q (.tup [kV k,x])) fun σ2 H2=>tb { D with nx:=Pv (i + 1),ct:=Pv (i + 1),bk:=D.nx } σ2 H2) (hd:∀ σ H,Pv kvs.length σ H→D.nx σ H) :
  ∃ W:Nat→Nat→St→Hp→Prop,(∃ m,W 0 m σ H)∧∀ i m σ H,W i m σ H →
   ((Itm2 d kvs o).stop i H∧D.nx σ H)∨((Itm2 d kvs o).go i H∧∃ N:St→Hp→Prop,(∀ σ' H',N σ' H'→∃ m',m' < m∧W (i + 1) m' σ' H')∧∀ x H',(Itm2 d kvs o).yld i H x H'→g x σ H' fun σ2 H2=>tb { D with nx:=N,ct:=N,bk:=D.nx } σ2 H2):=by
 refine ⟨fun i m σ H=>m=kvs.length - i∧i≤kvs.length∧Pv i σ H,⟨kvs.length,by simp,Nat.zero_le _,h0⟩,?_⟩
 rintro i m σ H ⟨rfl,hi,p⟩
 have q:=hl i σ H hi p
 by_cases hlt:i < kvs.length
 ·refine .inr ⟨⟨hlt,q⟩,Pv (i + 1),fun σ' H' p'=>⟨kvs.length - (i + 1),by omega,rfl,hlt,p'⟩,fun x H' y=>?_⟩
  obtain ⟨c,k,v,hn,e1,y,e2⟩:=y
  subst e1 e2
  exact hs i k v σ H c y hn p
 ·have e:i=kvs.length:=by omega
  subst e
  exact .inl ⟨⟨Nat.le_refl _,q⟩,hd σ H p⟩
end
section
noncomputable def Itr3 (lo st:Int) (n:Nat):It:=⟨fun i _=>i < n,fun i H x H'=>H'=H∧x=.int (lo + i * st),fun i _=>n≤i⟩
theorem Zc2 {P:Program} {w:World} {K:PySem.W.Frag} {tg:Expr} (it:Addr) (lo st:Int) (n:Nat):Turn P w K tg (Itr3 lo st n) [it] it (fun i h=>IsRangeIter h it (lo + (i:Nat) * st) ((n:Int) - (i:Nat)) st) where
 mem:=by simp
 obj:=fun i h st b hb=>by
  have e:b=it:=by simpa using hb
  subst e
  exact ⟨_,st,fun v z=>by
   have z':Data.fields _=Data.cell v:=z
   cases z'⟩
 keep:=fun i h h' st k=>k it (by simp) _ st
 item:=by
  intro X hP hw hK hc i pins s σ H E I hf st' hg
  subst hP hw hK
  obtain ⟨f0,f1,f2,f3,f4,f5⟩:=hf it (by simp)
  have W:=Walks.range (prog:=X.prog) (w:=X.w) (I.ok.hd hc) it lo st n
  refine W.item i s _ _ hg st' fun v h' tk hv st2 kk=>?_
  obtain ⟨t,rfl⟩:=hv
  have I1:Inv X pins σ H { s with heap:=h',toks:=tk }:=I.turned (fun b o hb e=>kk b o (by simpa using hb) e) f0 f1 f3 f4 f5
  exact ⟨_,rfl,K5 (s:={ s with heap:=h',toks:=tk }) (n:="range_iterator") st2 rfl rfl (by decide) ⟨.int (lo + i * st),H,I1,⟨t,rfl⟩,⟨rfl,rfl⟩,st2,fun b hb=>(hf b hb).1⟩⟩
 done:=by
  intro X hP hw hK hc i pins s σ H E I hf st' hg
  subst hP hw hK
  obtain ⟨f0,f1,f2,f3,f4,f5⟩:=hf it (by simp)
  exact wpAny_pyNext_range_end (I.ok.hd hc) st' (by have:n≤i:=hg; omega) fun h' eb=>⟨rfl,I.turned (t':=s.toks) (fun b o hb e=>eb b o hb e) f0 f1 f3 f4 f5⟩
 self:=fun _ _ _ _ _ st h=>wpAny_pyIter_rangeiter st h
end
section
variable {X:Cx} {tg:Expr}
noncomputable def Zn2 (ta:TA):TI:=fun σ H R=>ta σ H fun vs H1=>∃ n:Nat,vs=[.int 0,.int (3 * n:Nat),.int 3]∧n≤1000∧R (Itr3 0 3 n) H1
theorem Zg3 {pins:List (Addr × Obj)} {σ:St} {H:Hp} {s:Shared} {R:It→Hp→Prop} {E:Value→Shared→Prop} {n:Nat} {t u v:Tok} {tk:Nat} (I:Inv X pins σ H s) (hn:n≤1000)
  (q:R (Itr3 0 3 n) H):wpAny (model X.prog X.w) X.A (pyIter (.ref s.heap.objs.size)) (PIE X pins σ tg R) E { s with heap:=s.heap.push { cls:=.type "range",data:=.fields #[.int 0 t,.int (3 * n:Nat) u,.int 3 v] },toks:=tk }:=by
 have hr:Builtin.Range.rangeSize 0 ((3 * n:Nat):Int) 3=n:=by
  unfold Builtin.Range.rangeSize
  rw [if_pos (by decide)]
  split <;> omega
 have hsm:Builtin.Range.small 0 ((3 * n:Nat):Int) 3=true:=by
  unfold Builtin.Range.small
  rw [hr]
  have e:∀ z:Int,-(2 ^ 62)≤z→z < 2 ^ 62→Builtin.Range.rangeFitsLong z=true:=fun z h1 h2=>by
   unfold Builtin.Range.rangeFitsLong
   rw [Bool.and_eq_true,decide_eq_true_eq,decide_eq_true_eq]
   omega
  have e2:=e ((3 * n:Nat):Int) (by omega) (by omega)
  have e4:=e (n:Int) (by omega) (by omega)
  have e5:=e (((3 * n:Nat):Int) + (3 - 1)) (by omega) (by omega)
  rw [e 0 (by decide) (by decide),e2,e 3 (by decide) (by decide),e4,if_pos (by decide),e5,Bool.or_true]
  rfl
 refine wpAny_pyIter_range (IsRange.new ..) hsm ?_
 have I1:Inv X pins σ H { s with heap:=s.heap.push { cls:=.type "range",data:=.fields #[.int 0 t,.int (3 * n:Nat) u,.int 3 v] },toks:=tk }:=I.kept fun b o e=>Heap.get?_push_of_some _ e
 refine ⟨(s.heap.push { cls:=.type "range",data:=.fields #[.int 0 t,.int (3 * n:Nat) u,.int 3 v] }).objs.size,[(s.heap.push { cls:=.type "range",data:=.fields #[.int 0 t,.int (3 * n:Nat) u,.int 3 v] }).objs.size],_,_,H,rfl,
  I1.kept (t':=tk) fun b o e=>Heap.get?_push_of_some _ e,Zc2 _ 0 3 n,?_,fun b hb=>?_,q⟩
 ·show IsRangeIter _ _ ((0:Int) + ((0:Nat):Int) * 3) (((n:Nat):Int) - ((0:Nat):Int)) 3
  have e1:(0:Int) + ((0:Nat):Int) * 3=0:=by simp
  have e2:((n:Nat):Int) - ((0:Nat):Int)=Builtin.Range.rangeSize 0 ((3 * n:Nat):Int) 3:=by rw [hr]; simp
  rw [e1,e2]
  exact Heap.get?_push_size _ rfl
 ·have e:b=(s.heap.push { cls:=.type "range",data:=.fields #[.int 0 t,.int (3 * n:Nat) u,.int 3 v] }).objs.size:=by simpa using hb
  subst e
  exact I1.fpOk (Nat.le_refl _) (I1.hok.fresh (Nat.le_refl _))
theorem Zg8 {a b c:Expr} {ta:TA} {p pos:Pos} (hg:Gl X "range") (hm:X.mg "range"=none) (ha:PA X [a,b,c] ta) (hs:starEach [a,b,c] X.env=[(false,eval a X.env),(false,eval b X.env),(false,eval c X.env)]:=by rfl) (hs2:starEach [b,c] X.env=[(false,eval b X.env),(false,eval c X.env)]:=by rfl) :
  PI X tg (.Call (.Name "range" p) [a,b,c] [] pos) (Zn2 ta):=by
 intro pins s σ H R I h
 refine Call_ (Wa I hg hm boot_range (PyProof.Rows.callWith_type1 (thn (ha pos pins s σ H _ I h) fun us s1 ⟨vs,H1,I1,r1,q1⟩=>?_) (by rw [hs,hs2]) (by rw [hs2]; rfl)))
 obtain ⟨n,e,hn,q⟩:=q1
 subst e
 cases r1 with
 | cons r rr =>
  cases rr with
  | cons r' rr =>
   cases rr with
   | cons r'' rr =>
    cases rr
    obtain ⟨t,rfl⟩:=r
    obtain ⟨t',rfl⟩:=r'
    obtain ⟨t'',rfl⟩:=r''
    exact call_range_3 (by decide) (Zg3 I1 hn q) (.inl (PyProof.noPylong_small (by decide)))
theorem Zdo {lo st:Int} {n:Nat} {g:TG} {tt:TT} {tb:TB} {R:St→Hp→Prop} {σ:St} {H:Hp} (Pv:Nat→St→Hp→Prop) (h0:Pv 0 σ H)
  (hs:∀ (i:Nat) σ H,i < n→Pv i σ H→g (.int (lo + i * st)) σ H fun σ2 H2=>tt σ2 H2 fun b H3=>if b=true then tb σ2 H3 (Pv (i + 1)) else Pv (i + 1) σ2 H3) (hd:∀ σ H,Pv n σ H→R σ H):Jk (Itr3 lo st n) g tt tb R σ H:=by
 refine ⟨fun i m σ H=>m=n - i∧i≤n∧Pv i σ H,⟨n,by simp,Nat.zero_le _,h0⟩,?_⟩
 rintro i m σ H ⟨rfl,hi,p⟩
 by_cases hlt:i < n
 ·refine .inr ⟨hlt,Pv (i + 1),fun σ' H' p'=>⟨n - (i + 1),by omega,rfl,hlt,p'⟩,fun x H' y=>?_⟩
  obtain ⟨e,y⟩:=y
  subst e y
  exact hs i σ _ hlt p
 ·have e:i=n:=by omega
  subst e
  exact .inl ⟨Nat.le_refl _,hd σ H p⟩
end
section
variable {X:Cx} {fr:Bool} {pos:Pos}
noncomputable def Zns (te:TEX) (g:TG):TSX:=fun D R σ H=>te σ H (fun x H1=>g x σ H1 D.nx) fun cls _ H1=>R cls σ H1
theorem Zlk {tg e:Expr} {te:TEX} {g:TG} (he:PEX fr X e te) (hg:PG X tg g) (hs:swapsWithSole [tg] e pos.line X.env=pure false:=by rfl) (hw:swappedStores [tg] e X.env=pure none:=by rfl)
  (h1:(assignEach [tg] X.env).map (·.2)=[assign tg X.env]:=by rfl) (hx:X.xe=(fun _ _=>False):=by rfl):PSX fr X (.Assign [tg] e pos) (Zns te g):=by
 intro pins s σ H D R I h
 refine wpAny_Assign_stores (wpAny_mono (he pins s σ H _ _ I h) (fun v s1 ⟨x,H1,I1,r1,q1⟩=>?_) ?_) hs hw
 ·rw [h1]
  have z:=hg pins s1 σ H1 x v _ I1 r1 q1
  rw [hx] at z
  exact wpAny_mono z (fun _ _ y=>y) fun _ _ y=>y.elim
 ·rintro ev s1 ⟨e,T,cls,a0,σ',H',g1,g2,g3,g4,g5,g7,rfl,g6⟩
  exact ⟨e,T,cls,a0,σ',H',g1,g2,g3,g4,g5,g7,g6⟩
end
theorem Zi5 {X:Cx} (K:PySem.W.Frag) (h:X.K=K:=by rfl):SlR X (rSlL K):=h ▸ Zlb
theorem kdict_mk2 {w:World} {K:PySem.W.Frag} {a:Addr} {h1 h2:Int} {t1 t2 t3 t4:Tok} {ep:Nat} {x1 y1 x2 y2:Str}
  (l:K.lookup a=some ⟨.type "dict",none,.dict #[⟨h1,.str x1 t1,.str y1 t2⟩,⟨h2,.str x2 t3,.str y2 t4⟩] ep,#[]⟩) (e1:h1=hashStr w x1) (e2:h2=hashStr w x2) (ne:x1≠x2) (sy:(a == sysModules)=false) :
  Gc w K a [(Sum.inr x1,.str y1),(Sum.inr x2,.str y2)]:=by
 refine ⟨_,_,_,[(Sum.inr x1,.str y1 t2),(Sum.inr x2,.str y2 t4)],l,⟨rfl,rfl,rfl⟩,rfl,fun e he=>?_,fun P=>?_,?_,?_,sy⟩
 ·have he:e=⟨h1,.str x1 t1,.str y1 t2⟩∨e=⟨h2,.str x2 t3,.str y2 t4⟩:=by simpa using he
  rcases he with rfl | rfl
  ·exact ⟨Sum.inr x1,Jp x1 t1,e1⟩
  ·exact ⟨Sum.inr x2,Jp x2 t3,e2⟩
 ·exact .cons (Jp x1 t1) rfl (.cons (Jp x2 t3) rfl .nil)
 ·refine List.nodup_cons.mpr ⟨?_,by simp⟩
  simp [ne]
 ·exact .cons ⟨rfl,⟨_,rfl⟩⟩ (.cons ⟨rfl,⟨_,rfl⟩⟩ .nil)
end L2
set_option maxHeartbeats 4000000
namespace L2
open PySem PySem.Spec PyProof.Rows
end L2
set_option maxHeartbeats 4000000
namespace L2
open PySem PySem.Spec PyProof.Rows
section
variable {X:Cx} {tg:Expr}
theorem Zef {pos:Pos} (K:PySem.W.Frag) {es:List Expr} {k:Nat} {t:TGs} {n:Nat} (hc:X.calm=true) (h:PGs X es t)
  (hn:(assignEach es X.env).length=n:=by rfl) (hst:(assignEach es X.env).findIdx? (·.1)=none:=by rfl) (hk:X.K=K:=by rfl):PG X (.Tuple es k pos) (gTup K n t):=hk ▸ Qf hc h hn hst
end
end L2
set_option maxHeartbeats 4000000
namespace KT
open PySem L2
noncomputable def mV:Option Nat→V
 | none=>.non
 | some j=>.int j
structure TD (M:List (Option Nat)) (ns:List Int):Prop where
 n:∃ n,1≤n∧n≤40∧M.length=3 * n
 len:ns.length=M.length
 inv:∀ (i j:Nat),M[i]?=some (some j)→M[j]?=some (some i)∧i≠j
 rng:∀ (i:Nat) x,ns[i]?=some x→0≤x∧x≤9999
 eqv:∀ (i j:Nat) x,ns[i]?=some x→ns[j]?=some x→i=j∨M[i]?=some (some j)
 eqm:∀ (i j:Nat),M[i]?=some (some j)→ns[j]?=ns[i]?
structure SewOk (N:Nat) (F:List Nat) (M:List (Option Nat)):Prop where
 len:M.length=N
 nd:F.Nodup
 free:∀ f∈F,f < N∧M[f]?=some none
 inv:∀ (i j:Nat),M[i]?=some (some j)→M[j]?=some (some i)∧i≠j
theorem SewOk.start (N:Nat):SewOk N (List.range N) (List.replicate N none):=by
 refine ⟨by simp,List.nodup_range,fun f hf=>?_,fun i j h=>?_⟩
 ·have h:=List.mem_range.mp hf
  exact ⟨h,by rw [List.getElem?_replicate,if_pos h]⟩
 ·rw [List.getElem?_replicate] at h
  split at h <;> cases h
theorem SewOk.skip {N:Nat} {one:Nat} {F:List Nat} {M:List (Option Nat)} (h:SewOk N (one :: F) M):SewOk N F M :=
 ⟨h.len,(List.nodup_cons.mp h.nd).2,fun f hf=>h.free f (List.mem_cons_of_mem _ hf),h.inv⟩
theorem SewOk.pair {N:Nat} {one other k:Nat} {F:List Nat} {M:List (Option Nat)} (h:SewOk N (one :: F) M) (hk:F[k]?=some other):SewOk N (F.eraseIdx k) ((M.set one (some other)).set other (some one)):=by
 obtain ⟨n1,n2⟩:=List.nodup_cons.mp h.nd
 have hm:other∈F:=List.mem_of_getElem? hk
 have hne:one≠other:=fun z=>n1 (z ▸ hm)
 obtain ⟨h1,f1⟩:=h.free one List.mem_cons_self
 obtain ⟨h2,f2⟩:=h.free other (List.mem_cons_of_mem _ hm)
 have l1:one < M.length:=by rw [h.len]; exact h1
 have l2:other < M.length:=by rw [h.len]; exact h2
 have g1:((M.set one (some other)).set other (some one))[one]?=some (some other):=by
  rw [List.getElem?_set_ne (Ne.symm hne),List.getElem?_set_self l1]
 have g2:((M.set one (some other)).set other (some one))[other]?=some (some one):=by
  rw [List.getElem?_set_self (by rw [List.length_set]; exact l2)]
 have g3:∀ i,i≠one→i≠other→((M.set one (some other)).set other (some one))[i]?=M[i]?:=fun i a b=>by
  rw [List.getElem?_set_ne (Ne.symm b),List.getElem?_set_ne (Ne.symm a)]
 refine ⟨by rw [List.length_set,List.length_set]; exact h.len,n2.sublist (List.eraseIdx_sublist F k),fun f hf=>?_,fun i j e=>?_⟩
 ·obtain ⟨i,hi,hik,e⟩:=List.mem_eraseIdx_iff_getElem.mp hf
  have fm:f∈F:=e ▸ List.getElem_mem hi
  obtain ⟨a,b⟩:=h.free f (List.mem_cons_of_mem _ fm)
  have c1:f≠one:=fun z=>n1 (z ▸ fm)
  have c2:f≠other:=fun z=>by
   obtain ⟨hk',ek⟩:=List.getElem?_eq_some_iff.mp hk
   exact hik ((List.getElem_inj n2).mp (e.trans (z.trans ek.symm)))
  exact ⟨a,by rw [g3 f c1 c2]; exact b⟩
 ·by_cases c1:i=one
  ·subst c1
   rw [g1] at e
   cases e
   exact ⟨g2,hne⟩
  ·by_cases c2:i=other
   ·subst c2
    rw [g2] at e
    cases e
    exact ⟨g1,Ne.symm hne⟩
   ·rw [g3 i c1 c2] at e
    obtain ⟨a,b⟩:=h.inv i j e
    have d1:j≠one:=fun z=>by rw [z,f1] at a; cases a
    have d2:j≠other:=fun z=>by rw [z,f2] at a; cases a
    exact ⟨by rw [g3 j d1 d2]; exact a,b⟩
noncomputable def nm (s t:Int) (i:Nat):Int:=(s + t * i) % 10000
noncomputable def rep (M:List (Option Nat)) (i:Nat):Nat:=match M[i]? with
 | some (some j)=>if j < i then j else i
 | _=>i
noncomputable def flat (M:List (Option Nat)) (s t:Int):List Int:=(List.range M.length).map fun i=>nm s t (rep M i)
noncomputable def Vk:List Int:=[1,3,7,9,37,1009,3333,9999]
theorem nm_d:∀ t∈Vk,∀ d:Fin 42,t * ((d.val:Nat):Int) % 10000=0→d.val=0:=by decide +kernel
theorem Zm4 {s t:Int} (ht:t∈Vk) {i j:Nat} (hi:i < 42) (hj:j < 42) (h:nm s t i=nm s t j):i=j:=by
  have key:∀ a b:Nat,b≤a→a < 42→nm s t a=nm s t b→a=b:=fun a b hab ha e=>by
    have e2:=Int.emod_eq_emod_iff_emod_sub_eq_zero.mp e
    rw [Int.add_sub_add_left,← Int.mul_sub,← Int.natCast_sub hab] at e2
    have:=nm_d t ht ⟨a - b,Nat.lt_of_le_of_lt (Nat.sub_le _ _) ha⟩ e2
    exact Nat.le_antisymm (Nat.sub_eq_zero_iff_le.mp this) hab
  rcases Nat.le_total i j with h' | h'
  · exact (key j i h' hj h.symm).symm
  · exact key i j h' hi h
theorem Zg2 {M:List (Option Nat)} {i N:Nat} (h:i < N):rep M i < N:=by
 unfold rep
 split
 ·split <;> omega
 ·exact h
theorem Ug (M:List (Option Nat)) (i:Nat):rep M i=i∨(∃ j,M[i]?=some (some j)∧j < i∧rep M i=j):=by
 cases e:M[i]? with
 | none=>exact .inl (by unfold rep; rw [e])
 | some o =>
  cases o with
  | none=>exact .inl (by unfold rep; rw [e])
  | some j =>
   by_cases h:j < i
   ·exact .inr ⟨j,rfl,h,by unfold rep; rw [e]; exact if_pos h⟩
   ·exact .inl (by unfold rep; rw [e]; exact if_neg h)
theorem O5 {M:List (Option Nat)} {s t:Int} {i:Nat} {x:Int} (h:(flat M s t)[i]?=some x):i < M.length∧x=nm s t (rep M i):=by
 unfold flat at h
 rw [List.getElem?_map] at h
 by_cases hi:i < M.length
 ·rw [List.getElem?_range hi] at h
  exact ⟨hi,(Option.some.inj h).symm⟩
 ·rw [List.getElem?_eq_none (by simpa using hi)] at h
  cases h
theorem Zew {M:List (Option Nat)} {s t:Int} {i:Nat} (hi:i < M.length):(flat M s t)[i]?=some (nm s t (rep M i)):=by
 unfold flat
 rw [List.getElem?_map,List.getElem?_range hi]
 rfl
theorem Zkx {M:List (Option Nat)} {s t:Int} {n:Nat} (h1:1≤n) (h2:n≤14) (hM:M.length=3 * n) (hinv:∀ (i j:Nat),M[i]?=some (some j)→M[j]?=some (some i)∧i≠j) (ht:t∈Vk):TD M (flat M s t) where
 n:=⟨n,h1,by omega,hM⟩
 len:=by unfold flat; simp
 inv:=hinv
 rng:=fun i x h=>by
  obtain ⟨_,rfl⟩:=O5 h
  unfold nm
  omega
 eqv:=fun i j x hi hj=>by
  obtain ⟨li,ei⟩:=O5 hi
  obtain ⟨lj,ej⟩:=O5 hj
  have e:rep M i=rep M j:=Zm4 ht (by have:=Zg2 (M:=M) li; omega) (by have:=Zg2 (M:=M) lj; omega) (ei.symm.trans ej)
  rcases Ug M i with a | ⟨a,ha,la,ra⟩
  ·rcases Ug M j with b | ⟨b,hb,lb,rb⟩
   ·exact .inl (a.symm.trans (e.trans b))
   ·have:b=i:=by rw [← rb,← e,a]
    subst this
    exact .inr (hinv j b hb).1
  ·rcases Ug M j with b | ⟨b,hb,lb,rb⟩
   ·have:a=j:=by rw [← ra,e,b]
    subst this
    exact .inr ha
   ·have:a=b:=by rw [← ra,e,rb]
    subst this
    have c1:=(hinv i a ha).1
    have c2:=(hinv j a hb).1
    rw [c1] at c2
    exact .inl (by cases c2; rfl)
 eqm:=fun i j h=>by
  obtain ⟨h',hne⟩:=hinv i j h
  have li:i < M.length:=(List.getElem?_eq_some_iff.mp h).1
  have lj:j < M.length:=(List.getElem?_eq_some_iff.mp h').1
  rw [Zew li,Zew lj]
  have e:rep M j=rep M i:=by
   by_cases c:j < i
   ·have a:rep M i=j:=by unfold rep; rw [h]; exact if_pos c
    have b:rep M j=j:=by unfold rep; rw [h']; exact if_neg (by omega)
    rw [a,b]
   ·have a:rep M i=i:=by unfold rep; rw [h]; exact if_neg c
    have b:rep M j=i:=by unfold rep; rw [h']; exact if_pos (by omega)
    rw [a,b]
  rw [e]
end KT
set_option maxHeartbeats 4000000
namespace KT
open PySem L2
noncomputable def pl (ns:List Int) (n:Nat) (x:Int):List Nat:=(List.range n).filter fun i=>decide (ns[i]?=some x)
noncomputable def keys (ns:List Int):Nat→List Int
 | 0=>[]
 | n + 1=>match ns[n]? with
  | some x=>if x∈keys ns n then keys ns n else keys ns n ++ [x]
  | none=>keys ns n
theorem Xg {ns:List Int} {n:Nat} {x:Int} {i:Nat}:i∈pl ns n x ↔ i < n∧ns[i]?=some x:=by
 unfold pl
 rw [List.mem_filter,List.mem_range]
 simp
theorem Zjc (ns:List Int) (n:Nat) (x:Int):(pl ns n x).Nodup:=(List.nodup_range).sublist List.filter_sublist
theorem Zg7 (ns:List Int) (n:Nat) (x:Int):(pl ns n x).Pairwise (· < ·):=(List.pairwise_lt_range).sublist List.filter_sublist
theorem Zec {ns:List Int} {n:Nat} {x:Int} (h:ns[n]?=some x):pl ns (n + 1) x=pl ns n x ++ [n]:=by
 unfold pl
 rw [List.range_succ,List.filter_append]
 congr 1
 simp [h]
theorem Zbo {ns:List Int} {n:Nat} {x:Int} (h:ns[n]?≠some x):pl ns (n + 1) x=pl ns n x:=by
 unfold pl
 rw [List.range_succ,List.filter_append]
 simp [h]
theorem Qs {ns:List Int} {n:Nat} {x:Int} (h:ns[n]?=some x):keys ns (n + 1)=if x∈keys ns n then keys ns n else keys ns n ++ [x]:=by
 show (match ns[n]? with | some x=>if x∈keys ns n then keys ns n else keys ns n ++ [x] | none=>keys ns n)=_
 rw [h]
theorem Jc {ns:List Int}:∀ {n:Nat} {x:Int},x∈keys ns n ↔ ∃ i,i < n∧ns[i]?=some x
 | 0,x=>by simp [keys]
 | n + 1,x=>by
  have ih:=Jc (ns:=ns) (n:=n) (x:=x)
  have e:x∈keys ns (n + 1) ↔ x∈keys ns n∨ns[n]?=some x:=by
   cases h:ns[n]? with
   | none =>
    have:keys ns (n + 1)=keys ns n:=by
     show (match ns[n]? with | some x=>if x∈keys ns n then keys ns n else keys ns n ++ [x] | none=>keys ns n)=_
     rw [h]
    rw [this]; simp
   | some y =>
    rw [Qs h]
    split
    ·constructor
     ·exact .inl
     ·rintro (z | z)
      ·exact z
      ·cases z; assumption
    ·rw [List.mem_append,List.mem_singleton]
     constructor
     ·rintro (z | z)
      ·exact .inl z
      ·exact .inr (by rw [z])
     ·rintro (z | z)
      ·exact .inl z
      ·exact .inr (by cases z; rfl)
  rw [e,ih]
  constructor
  ·rintro (⟨i,h1,h2⟩ | h)
   ·exact ⟨i,by omega,h2⟩
   ·exact ⟨n,by omega,h⟩
  ·rintro ⟨i,h1,h2⟩
   by_cases c:i=n
   ·subst c; exact .inr h2
   ·exact .inl ⟨i,by omega,h2⟩
theorem Zcd (ns:List Int):∀ n,(keys ns n).length≤n
 | 0=>Nat.le_refl _
 | n + 1=>by
  have ih:=Zcd ns n
  cases h:ns[n]? with
  | none =>
   have:keys ns (n + 1)=keys ns n:=by
    show (match ns[n]? with | some x=>if x∈keys ns n then keys ns n else keys ns n ++ [x] | none=>keys ns n)=_
    rw [h]
   rw [this]; omega
  | some y =>
   rw [Qs h]
   split
   ·omega
   ·rw [List.length_append,List.length_singleton]; omega
theorem Zmu {ns:List Int} {n:Nat} {x:Int} (h:x ∉ keys ns n):pl ns n x=[]:=by
 cases e:pl ns n x with
 | nil=>rfl
 | cons a r =>
  have:a∈pl ns n x:=by rw [e]; exact List.mem_cons_self
  obtain ⟨h1,h2⟩:=Xg.mp this
  exact absurd (Jc.mpr ⟨a,h1,h2⟩) h
theorem Zbp {M:List (Option Nat)} {ns:List Int} (td:TD M ns) (n:Nat) (x:Int):(pl ns n x).length≤2:=by
 match e:pl ns n x with
 | []=>simp
 | [_]=>simp
 | [_,_]=>simp
 | a :: b :: c :: r =>
  exfalso
  have nd:=Zjc ns n x
  rw [e] at nd
  have ha:=(Xg.mp (show a∈pl ns n x by rw [e]; simp)).2
  have hb:=(Xg.mp (show b∈pl ns n x by rw [e]; simp)).2
  have hc:=(Xg.mp (show c∈pl ns n x by rw [e]; simp)).2
  simp only [List.nodup_cons,List.mem_cons,not_or] at nd
  obtain ⟨⟨n1,n2,_⟩,⟨n3,_⟩,_⟩:=nd
  rcases td.eqv a b x ha hb with z | z
  ·exact n1 z
  ·rcases td.eqv a c x ha hc with y | y
   ·exact n2 y
   ·rw [z] at y
    cases y
    exact n3 rfl
theorem Vq {M:List (Option Nat)} {ns:List Int} (td:TD M ns) {x:Int} (hx:x∈keys ns ns.length) :
  (∃ a,pl ns ns.length x=[a]∧ns[a]?=some x∧M[a]?=some none)∨(∃ a b,a < b∧pl ns ns.length x=[a,b]∧ns[a]?=some x∧ns[b]?=some x∧M[a]?=some (some b)∧M[b]?=some (some a)):=by
 obtain ⟨i,h1,h2⟩:=Jc.mp hx
 have mi:i∈pl ns ns.length x:=Xg.mpr ⟨h1,h2⟩
 have l2:=Zbp td ns.length x
 have st:=Zg7 ns ns.length x
 match e:pl ns ns.length x with
 | []=>rw [e] at mi; simp at mi
 | [a] =>
  obtain ⟨ga,ha⟩:=Xg.mp (show a∈pl ns ns.length x by rw [e]; simp)
  refine .inl ⟨a,rfl,ha,?_⟩
  have la:a < M.length:=by rw [← td.len]; exact ga
  cases q:M[a]? with
  | none=>rw [List.getElem?_eq_none_iff] at q; omega
  | some o =>
   cases o with
   | none=>rfl
   | some b =>
    exfalso
    have hb:ns[b]?=some x:=by rw [td.eqm a b q]; exact ha
    have mb:b∈pl ns ns.length x:=Xg.mpr ⟨(List.getElem?_eq_some_iff.mp hb).1,hb⟩
    rw [e,List.mem_singleton] at mb
    exact (td.inv a b q).2 mb.symm
 | [a,b] =>
  obtain ⟨ga,ha⟩:=Xg.mp (show a∈pl ns ns.length x by rw [e]; simp)
  obtain ⟨gb,hb⟩:=Xg.mp (show b∈pl ns ns.length x by rw [e]; simp)
  rw [e] at st
  have hab:a < b:=by simpa using st
  rcases td.eqv a b x ha hb with z | z
  ·omega
  ·exact .inr ⟨a,b,hab,rfl,ha,hb,z,(td.inv a b z).1⟩
 | a :: b :: c :: r=>rw [e] at l2; simp at l2
noncomputable def part (M:List (Option Nat)) (ns:List Int) (ks:List Int):List (Option Nat):=(List.range M.length).map fun i=>match ns[i]? with
 | some x=>if x∈ks then M.getD i none else none
 | none=>none
theorem Xk (M:List (Option Nat)) (ns ks:List Int):(part M ns ks).length=M.length:=by unfold part; simp
theorem Ja {M:List (Option Nat)} {ns ks:List Int} (td:TD M ns) {i:Nat} {x:Int} (h:ns[i]?=some x):(part M ns ks)[i]?=some (if x∈ks then M.getD i none else none):=by
 have li:i < M.length:=by rw [← td.len]; exact (List.getElem?_eq_some_iff.mp h).1
 unfold part
 rw [List.getElem?_map,List.getElem?_range li]
 simp [h]
theorem Zjl {M:List (Option Nat)} {ns:List Int} (td:TD M ns):part M ns []=List.replicate M.length none:=by
 apply List.ext_getElem?
 intro i
 by_cases li:i < M.length
 ·obtain ⟨x,hx⟩:∃ x,ns[i]?=some x:=⟨_,List.getElem?_eq_getElem (by rw [td.len]; exact li)⟩
  rw [Ja td hx,List.getElem?_replicate,if_pos li]
  simp
 ·rw [List.getElem?_eq_none (by rw [Xk]; omega),List.getElem?_eq_none (by simp; omega)]
theorem Zjm {M:List (Option Nat)} {ns:List Int} (td:TD M ns):part M ns (keys ns ns.length)=M:=by
 apply List.ext_getElem?
 intro i
 by_cases li:i < M.length
 ·have ln:i < ns.length:=by rw [td.len]; exact li
  obtain ⟨x,hx⟩:∃ x,ns[i]?=some x:=⟨_,List.getElem?_eq_getElem ln⟩
  rw [Ja td hx,if_pos (Jc.mpr ⟨i,ln,hx⟩),List.getD_eq_getElem?_getD,List.getElem?_eq_getElem li]
  rfl
 ·rw [List.getElem?_eq_none (by rw [Xk]; omega),List.getElem?_eq_none (by omega)]
theorem Zjk {M:List (Option Nat)} {ns ks:List Int} (td:TD M ns) {x:Int} {a:Nat} (hp:pl ns ns.length x=[a]) (hm:M[a]?=some none):part M ns (ks ++ [x])=part M ns ks:=by
 apply List.ext_getElem?
 intro i
 by_cases li:i < M.length
 ·have ln:i < ns.length:=by rw [td.len]; exact li
  obtain ⟨y,hy⟩:∃ x,ns[i]?=some x:=⟨_,List.getElem?_eq_getElem ln⟩
  rw [Ja td hy,Ja td hy]
  by_cases c:y=x
  ·subst c
   have:i∈pl ns ns.length y:=Xg.mpr ⟨ln,hy⟩
   rw [hp,List.mem_singleton] at this
   subst this
   have:M.getD i none=none:=by rw [List.getD_eq_getElem?_getD,hm]; rfl
   rw [this]
   simp
  ·simp [c]
 ·rw [List.getElem?_eq_none (by rw [Xk]; omega),List.getElem?_eq_none (by rw [Xk]; omega)]
theorem Zhe {M:List (Option Nat)} {ns ks:List Int} (td:TD M ns) {x:Int} {a b:Nat} (hp:pl ns ns.length x=[a,b]) (hab:a < b) (ha:M[a]?=some (some b)) (hb:M[b]?=some (some a)) :
  part M ns (ks ++ [x])=((part M ns ks).set a (some b)).set b (some a):=by
 have la:a < M.length:=(List.getElem?_eq_some_iff.mp ha).1
 have lb:b < M.length:=(List.getElem?_eq_some_iff.mp hb).1
 have na:=(Xg.mp (show a∈pl ns ns.length x by rw [hp]; simp)).2
 have nb:=(Xg.mp (show b∈pl ns ns.length x by rw [hp]; simp)).2
 apply List.ext_getElem?
 intro i
 by_cases li:i < M.length
 ·have ln:i < ns.length:=by rw [td.len]; exact li
  obtain ⟨y,hy⟩:∃ x,ns[i]?=some x:=⟨_,List.getElem?_eq_getElem ln⟩
  rw [Ja td hy]
  by_cases cb:i=b
  ·subst cb
   rw [nb] at hy; cases hy
   rw [List.getElem?_set_self (by rw [List.length_set,Xk]; exact lb),if_pos (by simp),List.getD_eq_getElem?_getD,hb]
   rfl
  ·rw [List.getElem?_set_ne (Ne.symm cb)]
   by_cases ca:i=a
   ·subst ca
    rw [na] at hy; cases hy
    rw [List.getElem?_set_self (by rw [Xk]; exact la),if_pos (by simp),List.getD_eq_getElem?_getD,ha]
    rfl
   ·rw [List.getElem?_set_ne (Ne.symm ca),Ja td hy]
    have:y≠x:=by
     rintro rfl
     have:i∈pl ns ns.length y:=Xg.mpr ⟨ln,hy⟩
     rw [hp] at this
     simp at this
     omega
    simp [this]
 ·rw [List.getElem?_eq_none (by rw [Xk]; omega),List.getElem?_eq_none (by rw [List.length_set,List.length_set,Xk]; omega)]
end KT
set_option maxHeartbeats 4000000
namespace KT
open PySem L2
noncomputable def nV (i:Nat):V:=.int (i:Int)
theorem J4 {g:Int→V} {y:Int}:∀ {ks:List Int},valV (ks.map fun x=>((Sum.inl x:Key),g x)) (Sum.inl y)=if y∈ks then some (g y) else none
 | []=>by simp [valV]
 | k :: r=>by
  have ih:=J4 (g:=g) (y:=y) (ks:=r)
  unfold valV at ih ⊢
  rw [List.map_cons,List.find?_cons]
  by_cases c:k=y
  ·subst c
   simp
  ·have:(decide ((Sum.inl k:Key)=Sum.inl y))=false:=by
    rw [decide_eq_false_iff_not]
    intro z
    cases z
    exact c rfl
   simp only [this]
   rw [ih]
   have:(y∈k :: r) ↔ y∈r:=by
    rw [List.mem_cons]
    exact ⟨fun z=>z.elim (fun w=>absurd w.symm c) id,.inr⟩
   simp only [this]
theorem Zlj {g:Int→V} {y:Int} {v:V} {ks:List Int} (h:y ∉ ks):putK (ks.map fun x=>((Sum.inl x:Key),g x)) (Sum.inl y) v=(ks.map fun x=>((Sum.inl x:Key),g x)) ++ [(Sum.inl y,v)]:=by
 unfold putK
 rw [if_neg]
 intro z
 rw [List.any_eq_true] at z
 obtain ⟨kv,h1,h2⟩:=z
 obtain ⟨x,hx,rfl⟩:=List.mem_map.mp h1
 have:(Sum.inl x:Key)=Sum.inl y:=of_decide_eq_true h2
 cases this
 exact h hx
theorem Yu {α:Type} {f:α→V} {l:List α} {i:Nat} {x:α} (h:l[i]?=some x):atI (l.map f) (i:Int)=some (f x):=Xr (by rw [List.getElem?_map,h]; rfl)
theorem Xv {H:Hp} {p q:Addr} {o:HO} (h:upd H p o q=none):q≠p∧H q=none:=by
 by_cases c:q=p
 ·subst c; rw [Zb] at h; cases h
 ·rw [Zd c] at h; exact ⟨c,h⟩
end KT
set_option maxHeartbeats 4000000
namespace KT
open PySem L2
noncomputable def after (p:Int):Int:=if p % 3=2 then p - 2 else p + 1
noncomputable def before (p:Int):Int:=if p % 3=0 then p + 2 else p - 1
noncomputable def Y0 (left:Bool) (a b:Nat):List Int:=if left then [after a,before b,after b,before a] else [after a,before a,after b,before b]
noncomputable def mvI (left:Bool) (a b:Nat) (z:Int):Int :=
 if z=after a then (if left then before b else before a) else if z=before b then (if left then after b else after a) else if z=after b then (if left then before a else before b) else if z=before a then (if left then after a else after b) else z
noncomputable def glV (left:Bool) (a b:Nat):List (Key × V):=(Y0 left a b).map fun x=>((Sum.inl x:Key),V.int (mvI left a b x))
theorem Yz (p:Nat):after p / 3=(p:Int) / 3∧after p≠p∧0≤after p:=by unfold after; split <;> omega
theorem Yq (p:Nat):before p / 3=(p:Int) / 3∧before p≠p∧0≤before p:=by unfold before; split <;> omega
theorem U1 (p:Nat):after p≠before p:=by unfold after before; split <;> split <;> omega
theorem Wj {a b:Nat} (h:a / 3≠b / 3):after a≠before a∧after a≠after b∧after a≠before b∧before a≠after b∧before a≠before b∧after b≠before b:=by
 obtain ⟨h1,_,_⟩:=Yz a
 obtain ⟨h2,_,_⟩:=Yq a
 obtain ⟨h3,_,_⟩:=Yz b
 obtain ⟨h4,_,_⟩:=Yq b
 have e:¬ (a:Int) / 3=(b:Int) / 3:=by omega
 refine ⟨U1 a,fun z=>e ?_,fun z=>e ?_,fun z=>e ?_,fun z=>e ?_,U1 b⟩
 ·rw [← h1,← h3,z]
 ·rw [← h1,← h4,z]
 ·rw [← h2,← h3,z]
 ·rw [← h2,← h4,z]
theorem K1:∀ (kvs acc:List (Key × V)),((acc ++ kvs).map (·.1)).Nodup→W4 acc kvs=acc ++ kvs
 | [],acc,_=>by simp [W4]
 | kv :: r,acc,h=>by
  have h1:(acc.any fun x=>decide (x.1=kv.1))=false:=by
   rw [List.any_eq_false]
   intro x hx z
   have z:x.1=kv.1:=of_decide_eq_true z
   rw [List.map_append,List.map_cons] at h
   have:=(List.nodup_append.mp h).2.2 x.1 (List.mem_map.mpr ⟨x,hx,rfl⟩) kv.1 List.mem_cons_self
   exact this z
  have h2:putK acc kv.1 kv.2=acc ++ [kv]:=by
   unfold putK
   rw [if_neg (by rw [h1]; decide)]
  show W4 (putK acc kv.1 kv.2) r=_
  rw [h2,K1 r (acc ++ [kv]) (by simpa using h)]
  simp
theorem Zb9 {left:Bool} {a b:Nat} (h:a / 3≠b / 3):W4 [] (glV left a b)=glV left a b:=by
 obtain ⟨h1,h2,h3,h4,h5,h6⟩:=Wj h
 refine K1 (glV left a b) [] ?_
 unfold glV Y0
 rw [List.nil_append,List.map_map]
 cases left <;> simp [h1,h2,h3,h4,h5,h6,Ne.symm h1,Ne.symm h2,Ne.symm h3,Ne.symm h4,Ne.symm h5,Ne.symm h6]
theorem Zch {a b:Nat} (h:a / 3≠b / 3):glV true a b=[(Sum.inl (after a),.int (before b)),(Sum.inl (before b),.int (after b)),(Sum.inl (after b),.int (before a)),(Sum.inl (before a),.int (after a))]:=by
 obtain ⟨h1,h2,h3,h4,h5,h6⟩:=Wj h
 unfold glV Y0 mvI
 simp [h1,h2,h3,h4,h5,h6,Ne.symm h1,Ne.symm h2,Ne.symm h3,Ne.symm h4,Ne.symm h5,Ne.symm h6]
theorem Fj {a b:Nat} (h:a / 3≠b / 3):glV false a b=[(Sum.inl (after a),.int (before a)),(Sum.inl (before a),.int (after b)),(Sum.inl (after b),.int (before b)),(Sum.inl (before b),.int (after a))]:=by
 obtain ⟨h1,h2,h3,h4,h5,h6⟩:=Wj h
 unfold glV Y0 mvI
 simp [h1,h2,h3,h4,h5,h6,Ne.symm h1,Ne.symm h2,Ne.symm h3,Ne.symm h4,Ne.symm h5,Ne.symm h6]
end KT
set_option maxHeartbeats 4000000
namespace KT
open PySem L2
theorem Zb4 (left:Bool) (i j:Nat) (z:Int):mvI left i j z=z∨mvI left i j z=after i∨mvI left i j z=before i∨mvI left i j z=after j∨mvI left i j z=before j:=by
 unfold mvI
 by_cases c1:z=after i
 ·cases left <;> simp [c1]
 ·by_cases c2:z=before j
  ·rw [if_neg c1,if_pos c2]; cases left <;> simp
  ·by_cases c3:z=after j
   ·rw [if_neg c1,if_neg c2,if_pos c3]; cases left <;> simp
   ·by_cases c4:z=before i
    ·rw [if_neg c1,if_neg c2,if_neg c3,if_pos c4]; cases left <;> simp
    ·rw [if_neg c1,if_neg c2,if_neg c3,if_neg c4]; exact .inl rfl
noncomputable def mvN (left:Bool) (i j z:Nat):Nat:=(mvI left i j z).toNat
theorem Zht (left:Bool) (i j z:Nat):0≤mvI left i j z:=by
 have h1:=(Yz i).2.2
 have h2:=(Yq i).2.2
 have h3:=(Yz j).2.2
 have h4:=(Yq j).2.2
 rcases Zb4 left i j z with e | e | e | e | e <;> rw [e] <;> omega
theorem Qj (left:Bool) (i j z:Nat):((mvN left i j z:Nat):Int)=mvI left i j z:=Int.toNat_of_nonneg (Zht left i j z)
theorem Zek {i j:Nat} (h:i / 3≠j / 3) (left:Bool) (z:Int):mvI (!left) i j (mvI left i j z)=z:=by
 obtain ⟨h1,h2,h3,h4,h5,h6⟩:=Wj h
 by_cases c1:z=after i
 ·subst c1; cases left <;> simp [mvI,h1,h2,h3,h4,h5,h6,Ne.symm h1,Ne.symm h2,Ne.symm h3,Ne.symm h4,Ne.symm h5,Ne.symm h6]
 ·by_cases c2:z=before j
  ·subst c2; cases left <;> simp [mvI,h1,h2,h3,h4,h5,h6,Ne.symm h1,Ne.symm h2,Ne.symm h3,Ne.symm h4,Ne.symm h5,Ne.symm h6]
  ·by_cases c3:z=after j
   ·subst c3; cases left <;> simp [mvI,h1,h2,h3,h4,h5,h6,Ne.symm h1,Ne.symm h2,Ne.symm h3,Ne.symm h4,Ne.symm h5,Ne.symm h6]
   ·by_cases c4:z=before i
    ·subst c4; cases left <;> simp [mvI,h1,h2,h3,h4,h5,h6,Ne.symm h1,Ne.symm h2,Ne.symm h3,Ne.symm h4,Ne.symm h5,Ne.symm h6]
    ·cases left <;> simp [mvI,c1,c2,c3,c4]
theorem Yh {i j:Nat} (h:i / 3≠j / 3) (left:Bool) (z:Nat):mvN (!left) i j (mvN left i j z)=z:=by
 have:=Zek h left z
 rw [← Qj left,← Qj] at this
 omega
theorem Qi {i j:Nat} (h:i / 3≠j / 3) (left:Bool) (z:Nat):mvN left i j (mvN (!left) i j z)=z:=by
 have:=Yh h (!left) z
 rw [Bool.not_not] at this
 exact this
theorem K8 {p:Int} {q i n:Nat} (e:(q:Int)=p) (h:p / 3=(i:Int) / 3) (hi:i < 3 * n):q < 3 * n:=by omega
theorem Zaj {p:Int} {i n:Nat} (h0:0≤p) (h:p / 3=(i:Int) / 3) (hi:i < 3 * n):0≤p∧p < 3 * (n:Int):=⟨h0,by omega⟩
theorem Xi {i j n:Nat} (hi:i < 3 * n) (hj:j < 3 * n) (left:Bool) {z:Nat} (hz:z < 3 * n):mvN left i j z < 3 * n:=by
 have e:=Qj left i j z
 rcases Zb4 left i j z with q | q | q | q | q <;> rw [q] at e
 ·exact K8 e rfl hz
 ·exact K8 e (Yz i).1 hi
 ·exact K8 e (Yq i).1 hi
 ·exact K8 e (Yz j).1 hj
 ·exact K8 e (Yq j).1 hj
theorem Ww {i j:Nat} (h:i / 3≠j / 3) (left:Bool) {y z:Nat} (e:mvN left i j y=mvN left i j z):y=z:=by
 have:=congrArg (mvN (!left) i j) e
 rw [Yh h,Yh h] at this
 exact this
noncomputable def exN (left:Bool) (i j:Nat) (ns:List Int):List Int:=(List.range ns.length).map fun z=>ns.getD (mvN (!left) i j z) 0
noncomputable def exM (left:Bool) (i j:Nat) (M:List (Option Nat)):List (Option Nat):=(List.range M.length).map fun z=>(M.getD (mvN (!left) i j z) none).map (mvN left i j)
theorem J7 (left:Bool) (i j:Nat) (ns:List Int):(exN left i j ns).length=ns.length:=by unfold exN; simp
theorem Yi (left:Bool) (i j:Nat) (M:List (Option Nat)):(exM left i j M).length=M.length:=by unfold exM; simp
section
variable {M:List (Option Nat)} {ns:List Int} {i j:Nat}
theorem Vg (td:TD M ns) (hi:i < M.length) (hj:j < M.length) (h:i / 3≠j / 3) (left:Bool) {z:Nat}:z < M.length→(exN left i j ns)[z]?=ns[mvN (!left) i j z]?:=by
 intro hz
 obtain ⟨n,_,_,hn⟩:=td.n
 rw [hn] at hi hj hz
 have hz':=Xi hi hj (!left) hz
 have l1:z < ns.length:=by rw [td.len,hn]; exact hz
 have l2:mvN (!left) i j z < ns.length:=by rw [td.len,hn]; exact hz'
 unfold exN
 rw [List.getElem?_map,List.getElem?_range l1]
 show some (ns.getD _ 0)=_
 rw [List.getD_eq_getElem?_getD,List.getElem?_eq_getElem l2]
 rfl
theorem Wy (td:TD M ns) (hi:i < M.length) (hj:j < M.length) (h:i / 3≠j / 3) (left:Bool) {z:Nat}:z < M.length→(exM left i j M)[z]?=(M[mvN (!left) i j z]?).map (Option.map (mvN left i j)):=by
 intro hz
 obtain ⟨n,_,_,hn⟩:=td.n
 have hz0:=hz
 rw [hn] at hi hj hz
 have hz':=Xi hi hj (!left) hz
 have l2:mvN (!left) i j z < M.length:=by rw [hn]; exact hz'
 unfold exM
 rw [List.getElem?_map,List.getElem?_range hz0]
 show some ((M.getD _ none).map _)=_
 rw [List.getD_eq_getElem?_getD,List.getElem?_eq_getElem l2]
 rfl
theorem TD.ex (td:TD M ns) (hi:i < M.length) (hj:j < M.length) (h:i / 3≠j / 3) (left:Bool):TD (exM left i j M) (exN left i j ns) where
 n:=by obtain ⟨n,a,b,c⟩:=td.n; exact ⟨n,a,b,by rw [Yi]; exact c⟩
 len:=by rw [J7,Yi]; exact td.len
 inv:=fun p q e=>by
  have hp:p < M.length:=by have:=(List.getElem?_eq_some_iff.mp e).1; rw [Yi] at this; exact this
  rw [Wy td hi hj h left hp] at e
  cases e1:M[mvN (!left) i j p]? with
  | none=>rw [e1] at e; cases e
  | some o =>
   cases o with
   | none=>rw [e1] at e; cases e
   | some b =>
    rw [e1] at e
    have e2:mvN left i j b=q:=by have:=Option.some.inj e; exact Option.some.inj this
    obtain ⟨i1,i2⟩:=td.inv _ _ e1
    have hb:b < M.length:=(List.getElem?_eq_some_iff.mp i1).1
    obtain ⟨n,_,_,hn⟩:=td.n
    have hq:q < M.length:=by rw [← e2,hn]; rw [hn] at hi hj hb; exact Xi hi hj left hb
    have eb:mvN (!left) i j q=b:=by rw [← e2,Yh h]
    refine ⟨?_,fun z=>i2 ?_⟩
    ·rw [Wy td hi hj h left hq,eb,i1]
     show some (some (mvN left i j (mvN (!left) i j p)))=_
     rw [Qi h]
    ·rw [z,eb]
 rng:=fun p x e=>by
  have hp:p < M.length:=by have:=(List.getElem?_eq_some_iff.mp e).1; rw [J7,td.len] at this; exact this
  rw [Vg td hi hj h left hp] at e
  exact td.rng _ x e
 eqv:=fun p q x e1 e2=>by
  have hp:p < M.length:=by have:=(List.getElem?_eq_some_iff.mp e1).1; rw [J7,td.len] at this; exact this
  have hq:q < M.length:=by have:=(List.getElem?_eq_some_iff.mp e2).1; rw [J7,td.len] at this; exact this
  rw [Vg td hi hj h left hp] at e1
  rw [Vg td hi hj h left hq] at e2
  rcases td.eqv _ _ x e1 e2 with z | z
  ·exact .inl (Ww h (!left) z)
  ·right
   rw [Wy td hi hj h left hp,z]
   show some (some (mvN left i j (mvN (!left) i j q)))=_
   rw [Qi h]
 eqm:=fun p q e=>by
  have hp:p < M.length:=by have:=(List.getElem?_eq_some_iff.mp e).1; rw [Yi] at this; exact this
  have e0:=e
  rw [Wy td hi hj h left hp] at e
  cases e1:M[mvN (!left) i j p]? with
  | none=>rw [e1] at e; cases e
  | some o =>
   cases o with
   | none=>rw [e1] at e; cases e
   | some b =>
    rw [e1] at e
    have e2:mvN left i j b=q:=by have:=Option.some.inj e; exact Option.some.inj this
    obtain ⟨i1,i2⟩:=td.inv _ _ e1
    have hb:b < M.length:=(List.getElem?_eq_some_iff.mp i1).1
    obtain ⟨n,_,_,hn⟩:=td.n
    have hq:q < M.length:=by rw [← e2,hn]; rw [hn] at hi hj hb; exact Xi hi hj left hb
    have eb:mvN (!left) i j q=b:=by rw [← e2,Yh h]
    rw [Vg td hi hj h left hp,Vg td hi hj h left hq,eb]
    exact td.eqm _ _ e1
end
noncomputable def nst (left:Bool) (i j:Nat) (ns:List Int) (k:Nat):List Int:=(List.range ns.length).map fun z=>if ((mvN (!left) i j z:Nat):Int)∈(Y0 left i j).take k then ns.getD (mvN (!left) i j z) 0 else ns.getD z 0
theorem Zjr (left:Bool) (i j:Nat) (ns:List Int):nst left i j ns 0=ns:=by
 apply List.ext_getElem?
 intro z
 unfold nst
 rw [List.getElem?_map]
 by_cases hz:z < ns.length
 ·rw [List.getElem?_range hz,List.take_zero]
  simp [hz]
 ·rw [List.getElem?_eq_none (by simpa using hz),List.getElem?_eq_none (by omega)]
  rfl
theorem Zjt {i j:Nat} {left:Bool} {z:Int} (h:z ∉ Y0 left i j) (l2:Bool):mvI l2 i j z=z:=by
 have n1:¬ z=after i:=fun e=>h (by unfold Y0; split <;> simp [e])
 have n2:¬ z=before j:=fun e=>h (by unfold Y0; split <;> simp [e])
 have n3:¬ z=after j:=fun e=>h (by unfold Y0; split <;> simp [e])
 have n4:¬ z=before i:=fun e=>h (by unfold Y0; split <;> simp [e])
 unfold mvI
 rw [if_neg n1,if_neg n2,if_neg n3,if_neg n4]
theorem Zcl (left:Bool) (i j:Nat):(Y0 left i j).length=4:=by unfold Y0; split <;> rfl
theorem Zls {i j:Nat} (h:i / 3≠j / 3) (left:Bool) (ns:List Int):nst left i j ns 4=exN left i j ns:=by
 unfold nst exN
 apply List.map_congr_left
 intro z _
 by_cases c:((mvN (!left) i j z:Nat):Int)∈(Y0 left i j).take 4
 ·rw [if_pos c]
 ·rw [if_neg c]
  rw [List.take_of_length_le (Nat.le_of_eq (Zcl left i j))] at c
  have e1:=Zjt c left
  rw [Qj,] at e1
  have e2:=Zek h (!left) (z:Int)
  rw [Bool.not_not] at e2
  rw [e2] at e1
  have:mvN (!left) i j z=z:=by have:=Qj (!left) i j z; omega
  rw [this]
theorem Zjs {i j:Nat} (h:i / 3≠j / 3) {left:Bool} {ns:List Int} {k p:Nat} (hk:(Y0 left i j)[k]?=some (p:Int)) (hq:mvN left i j p < ns.length) :
  (nst left i j ns k).set (mvN left i j p) (ns.getD p 0)=nst left i j ns (k + 1):=by
 apply List.ext_getElem?
 intro z
 unfold nst
 by_cases c:z=mvN left i j p
 ·subst c
  rw [List.getElem?_set_self (by simpa using hq),List.getElem?_map,List.getElem?_range hq]
  have e:mvN (!left) i j (mvN left i j p)=p:=Yh h left p
  have:((mvN (!left) i j (mvN left i j p):Nat):Int)∈(Y0 left i j).take (k + 1):=by rw [e,List.take_add_one,hk]; simp
  simp only [Option.map_some,this,if_true]
  rw [e]
 ·rw [List.getElem?_set_ne (Ne.symm c),List.getElem?_map,List.getElem?_map]
  by_cases d:z < ns.length
  ·rw [List.getElem?_range d]
   have ne:¬ ((mvN (!left) i j z:Nat):Int)=(p:Int):=fun e=>c (by
    have e:mvN (!left) i j z=p:=by omega
    rw [← e,Qi h])
   have:((mvN (!left) i j z:Nat):Int)∈(Y0 left i j).take (k + 1) ↔ ((mvN (!left) i j z:Nat):Int)∈(Y0 left i j).take k:=by
    rw [List.take_add_one,hk]
    simp [ne]
   simp only [Option.map_some,this]
  ·rw [List.getElem?_eq_none (by simpa using d)]
   rfl
theorem Zlz {left:Bool} {i j n k:Nat} {p:Int} (hi:i < 3 * n) (hj:j < 3 * n) (hk:(Y0 left i j)[k]?=some p):0≤p∧p < 3 * (n:Int):=by
 have hm:p∈Y0 left i j:=List.mem_of_getElem? hk
 obtain ⟨a1,_,a3⟩:=Yz i
 obtain ⟨b1,_,b3⟩:=Yq i
 obtain ⟨c1,_,c3⟩:=Yz j
 obtain ⟨d1,_,d3⟩:=Yq j
 have hm:p=after i∨p=before i∨p=after j∨p=before j:=by
  unfold Y0 at hm
  split at hm <;> simp at hm <;> rcases hm with e | e | e | e <;> simp [e]
 rcases hm with e | e | e | e <;> rw [e]
 ·exact Zaj a3 a1 hi
 ·exact Zaj b3 b1 hi
 ·exact Zaj c3 c1 hj
 ·exact Zaj d3 d1 hj
noncomputable def mfil {α:Type} (left:Bool) (i j n:Nat) (f:Nat→α) (d:α) (k:Nat):List α:=(List.range n).map fun z=>if mvN (!left) i j z < k then f z else d
theorem Fd {α:Type} (left:Bool) (i j n:Nat) (f:Nat→α) (d:α):mfil left i j n f d 0=List.replicate n d:=by
 unfold mfil
 apply List.ext_getElem?
 intro z
 rw [List.getElem?_map,List.getElem?_replicate]
 by_cases h:z < n
 ·rw [List.getElem?_range h,if_pos h]; simp
 ·rw [List.getElem?_eq_none (by simpa using h),if_neg h]; rfl
theorem Zb8 {α:Type} (left:Bool) (i j n:Nat) (f:Nat→α) (d:α) (k:Nat):(mfil left i j n f d k).length=n:=by unfold mfil; simp
theorem Fe {α:Type} {left:Bool} {i j n:Nat} {f:Nat→α} {d:α} {k:Nat} (h:i / 3≠j / 3) (hk:mvN left i j k < n):(mfil left i j n f d k).set (mvN left i j k) (f (mvN left i j k))=mfil left i j n f d (k + 1):=by
 apply List.ext_getElem?
 intro z
 unfold mfil
 by_cases c:z=mvN left i j k
 ·subst c
  rw [List.getElem?_set_self (by simpa using hk),List.getElem?_map,List.getElem?_range hk]
  have e:mvN (!left) i j (mvN left i j k)=k:=Yh h left k
  simp only [Option.map_some]
  rw [e,if_pos (by omega)]
 ·rw [List.getElem?_set_ne (Ne.symm c),List.getElem?_map,List.getElem?_map]
  by_cases d:z < n
  ·rw [List.getElem?_range d]
   have ne:mvN (!left) i j z≠k:=fun e=>c (by rw [← e,Qi h])
   have:mvN (!left) i j z < k + 1 ↔ mvN (!left) i j z < k:=by omega
   simp only [Option.map_some,this]
  ·rw [List.getElem?_eq_none (by simpa using d)]
   rfl
theorem Zhw {α:Type} {left:Bool} {i j n:Nat} {f:Nat→α} {d:α} {k:Nat} (h:i / 3≠j / 3) (hd:f (mvN left i j k)=d):mfil left i j n f d k=mfil left i j n f d (k + 1):=by
 unfold mfil
 apply List.map_congr_left
 intro z _
 by_cases c:mvN (!left) i j z=k
 ·have:z=mvN left i j k:=by rw [← c,Qi h]
  subst this
  rw [if_neg (by omega),if_pos (by omega),hd]
 ·have:mvN (!left) i j z < k + 1 ↔ mvN (!left) i j z < k:=by omega
  simp only [this]
theorem Zju {α:Type} {left:Bool} {i j m:Nat} {f:Nat→α} {d:α} (hi:i < 3 * m) (hj:j < 3 * m):mfil left i j (3 * m) f d (3 * m)=(List.range (3 * m)).map f:=by
 unfold mfil
 apply List.map_congr_left
 intro z hz
 rw [if_pos (Xi hi hj _ (List.mem_range.mp hz))]
end KT
set_option maxHeartbeats 4000000
namespace KT
open PySem L2
end KT
set_option maxHeartbeats 4000000
namespace KT
open PySem L2
noncomputable def rot {α:Type} (ws:List α) (s:Nat):List α:=ws.drop s ++ ws.take s
theorem Zlf {α:Type} (ws:List α) {s:Nat} (h:s≤ws.length):(rot ws s).length=ws.length:=by
 unfold rot
 rw [List.length_append,List.length_drop,List.length_take]
 omega
theorem Zd7 {α:Type} {ws:List α} {s k:Nat} (hs:s < ws.length) (hk:k < ws.length):(rot ws s)[k]?=ws[(k + s) % ws.length]?:=by
 unfold rot
 by_cases c:k < ws.length - s
 ·rw [List.getElem?_append_left (by rw [List.length_drop]; exact c),List.getElem?_drop,Nat.mod_eq_of_lt (by omega),Nat.add_comm]
 ·rw [List.getElem?_append_right (by rw [List.length_drop]; omega),List.length_drop,List.getElem?_take_of_lt (by omega)]
  have:(k + s) % ws.length=k - (ws.length - s):=by
   rw [show k + s=(k - (ws.length - s)) + ws.length by omega,Nat.add_mod_right,Nat.mod_eq_of_lt (by omega)]
  rw [this]
noncomputable abbrev wI (ws:List Nat):List Int:=ws.map fun (x:Nat)=>(x:Int)
end KT
set_option maxHeartbeats 4000000
namespace KT
open PySem L2
end KT
set_option maxHeartbeats 4000000
namespace L2
open PySem PySem.Spec PyProof.Rows
end L2
set_option maxHeartbeats 4000000
namespace L2
open PySem PySem.Spec PyProof.Rows
end L2
set_option maxHeartbeats 4000000
namespace HL
open PySem PyProof.Rows HT
end HL
set_option maxHeartbeats 4000000
namespace L2
open PySem PySem.Spec PyProof.Rows
end L2
namespace HT
end HT
set_option maxHeartbeats 4000000
namespace L2
open PySem PySem.Spec PyProof.Rows
end L2
set_option maxHeartbeats 4000000
namespace L2
open PySem PySem.Spec PyProof.Rows
end L2
set_option maxHeartbeats 4000000
namespace L2
open PySem PySem.Spec PyProof.Rows
end L2
set_option maxHeartbeats 4000000
namespace L2
open PySem PySem.Spec PyProof.Rows
end L2
namespace L2
open PySem PySem.Spec PyProof.Rows
end L2
set_option maxHeartbeats 4000000
namespace KT
open PySem L2
noncomputable def aftN (i:Nat):Nat:=if i % 3=2 then i - 2 else i + 1
theorem Xs (i:Nat):after (i:Int)=(aftN i:Int):=by unfold after aftN; split <;> split <;> omega
theorem Yx (i:Nat):aftN i / 3=i / 3:=by unfold aftN; split <;> omega
theorem Oe (i:Nat):aftN i≠i:=by unfold aftN; split <;> omega
theorem Zc0 {i j:Nat} (h:aftN i=aftN j):i=j:=by unfold aftN at h; split at h <;> split at h <;> omega
theorem Gw {i n:Nat} (h:i < 3 * n):aftN i < 3 * n:=by unfold aftN; split <;> omega
noncomputable def nxC (M:List (Option Nat)) (c:Nat):Option Nat:=(M[aftN c]?).join
theorem Yt {M:List (Option Nat)} {c x:Nat}:nxC M c=some x ↔ M[aftN c]?=some (some x):=by
 unfold nxC
 cases h:M[aftN c]? with
 | none=>simp
 | some y=>simp
noncomputable abbrev InvM (M:List (Option Nat)):Prop:=∀ (i j:Nat),M[i]?=some (some j)→M[j]?=some (some i)∧i≠j
theorem U5 {M:List (Option Nat)} (inv:InvM M) {a b x:Nat} (h1:nxC M a=some x) (h2:nxC M b=some x):a=b:=by
 have e1:=(inv _ _ (Yt.mp h1)).1
 have e2:=(inv _ _ (Yt.mp h2)).1
 rw [e1] at e2
 exact Zc0 (Option.some.inj (Option.some.inj e2))
theorem Zb1 {M:List (Option Nat)} (inv:InvM M) {a x:Nat} (h:nxC M a=some x):x < M.length :=
 (List.getElem?_eq_some_iff.mp (inv _ _ (Yt.mp h)).1).1
structure Fan (M:List (Option Nat)) (c:Nat) (cs:List Nat):Prop where
 head:cs[0]?=some c
 chain:∀ (i a b:Nat),cs[i]?=some a→cs[i + 1]?=some b→nxC M a=some b
 nodup:cs.Nodup
 lt:∀ a∈cs,a < M.length
theorem Fan.one {M:List (Option Nat)} {c:Nat} (h:c < M.length):Fan M c [c] :=
 ⟨rfl,fun i a b _ h2=>by simp at h2,by simp,fun a ha=>by rw [List.mem_singleton] at ha; subst ha; exact h⟩
theorem X0:∀ (n:Nat) (l:List Nat),l.Nodup→(∀ a∈l,a < n)→l.length≤n
 | 0,l,_,h=>by
  cases l with
  | nil=>exact Nat.le_refl _
  | cons a r=>exact absurd (h a List.mem_cons_self) (Nat.not_lt_zero _)
 | n + 1,l,hd,h=>by
  have ih:=X0 n (l.erase n) (hd.erase n) fun a ha=>by
   have:=(List.Nodup.mem_erase_iff hd).mp ha
   have:=h a this.2
   omega
  by_cases z:n∈l
  ·have:=List.length_erase_of_mem z
   omega
  ·rw [List.erase_of_not_mem z] at ih
   omega
theorem Fan.len {M:List (Option Nat)} {c:Nat} {cs:List Nat} (h:Fan M c cs):cs.length≤M.length:=X0 _ _ h.nodup h.lt
theorem Fan.pos {M:List (Option Nat)} {c:Nat} {cs:List Nat} (h:Fan M c cs):0 < cs.length:=(List.getElem?_eq_some_iff.mp h.head).1
theorem Fan.new {M:List (Option Nat)} (inv:InvM M) {c l f:Nat} {cs:List Nat} (h:Fan M c cs) (hl:cs[cs.length - 1]?=some l) (hf:nxC M l=some f) (hc:f≠c):f ∉ cs:=by
 intro hm
 obtain ⟨i,hi,e⟩:=List.mem_iff_getElem.mp hm
 have e':cs[i]?=some f:=by rw [List.getElem?_eq_getElem hi,e]
 cases i with
 | zero=>rw [h.head] at e'; cases e'; exact hc rfl
 | succ i =>
  have hi':i < cs.length:=by omega
  have ea:=List.getElem?_eq_getElem hi'
  have e1:=h.chain i _ f ea e'
  have e2:=U5 inv e1 hf
  have e3:cs[i]=cs[cs.length - 1]:=by
   have:=(List.getElem?_eq_some_iff.mp hl).2
   rw [e2,this]
  have:=(List.getElem_inj h.nodup).mp e3
  omega
theorem Fan.snoc {M:List (Option Nat)} (inv:InvM M) {c l f:Nat} {cs:List Nat} (h:Fan M c cs) (hl:cs[cs.length - 1]?=some l) (hf:nxC M l=some f) (hc:f≠c):Fan M c (cs ++ [f]):=by
 have hp:=h.pos
 have hn:=h.new inv hl hf hc
 refine ⟨by rw [List.getElem?_append_left hp]; exact h.head,fun i a b ha hb=>?_,?_,fun a ha=>?_⟩
 ·by_cases z:i + 1 < cs.length
  ·rw [List.getElem?_append_left z] at hb
   rw [List.getElem?_append_left (by omega)] at ha
   exact h.chain i a b ha hb
  ·have hi:=(List.getElem?_eq_some_iff.mp hb).1
   rw [List.length_append,List.length_singleton] at hi
   have hi:i=cs.length - 1:=by omega
   subst hi
   rw [List.getElem?_append_left (by omega),hl] at ha
   cases ha
   rw [List.getElem?_append_right (by omega),show cs.length - 1 + 1 - cs.length=0 by omega] at hb
   cases hb
   exact hf
 ·rw [List.nodup_append]
  refine ⟨h.nodup,by simp,fun a ha b hb e=>?_⟩
  rw [List.mem_singleton] at hb
  subst hb e
  exact hn ha
 ·rcases List.mem_append.mp ha with z | z
  ·exact h.lt a z
  ·rw [List.mem_singleton] at z; subst z; exact Zb1 inv hf
structure FanEnd (M:List (Option Nat)) (c:Nat) (cs:List Nat) (cl:Bool):Prop extends Fan M c cs where
 last:∃ l,cs[cs.length - 1]?=some l∧nxC M l=if cl=true then some c else none
theorem FanEnd.same {M:List (Option Nat)} {c:Nat} {cs cs':List Nat} {cl cl':Bool} (h:FanEnd M c cs cl) (h':FanEnd M c cs' cl'):cs=cs'∧cl=cl':=by
 have step:∀ {cs cs':List Nat} {cl cl':Bool},FanEnd M c cs cl→FanEnd M c cs' cl'→∀ (i x:Nat),cs[i]?=some x→cs'[i]?=some x:=fun {cs cs' cl cl'} h h' i=>by
  induction i with
  | zero=>intro x hx; rw [h.head] at hx; rw [h'.head]; exact hx
  | succ i ih =>
   intro x hx
   have hi:i < cs.length:=by have:=(List.getElem?_eq_some_iff.mp hx).1; omega
   have ea:=List.getElem?_eq_getElem hi
   have eb:=ih _ ea
   have e1:=h.chain i _ x ea hx
   cases e:cs'[i + 1]? with
   | some y =>
    have e2:=h'.chain i _ y eb e
    rw [e1] at e2
    exact e2.symm
   | none =>
    exfalso
    have l1:cs'.length≤i + 1:=List.getElem?_eq_none_iff.mp e
    have l2:=(List.getElem?_eq_some_iff.mp eb).1
    obtain ⟨l,hl,hn⟩:=h'.last
    rw [show cs'.length - 1=i by omega,eb] at hl
    cases hl
    rw [e1] at hn
    cases cl' with
    | false=>cases hn
    | true =>
     cases hn
     have hx0:=h.head
     have e3:cs[0]'(by omega)=cs[i + 1]'((List.getElem?_eq_some_iff.mp hx).1):=by
      have q1:=(List.getElem?_eq_some_iff.mp hx0).2
      have q2:=(List.getElem?_eq_some_iff.mp hx).2
      rw [q1,q2]
     have:=(List.getElem_inj h.nodup).mp e3
     omega
 have e:cs=cs':=by
  apply List.ext_getElem?
  intro i
  cases e1:cs[i]? with
  | some x=>exact (step h h' i x e1).symm
  | none =>
   cases e2:cs'[i]? with
   | none=>rfl
   | some y=>rw [step h' h i y e2] at e1; cases e1
 subst e
 refine ⟨rfl,?_⟩
 obtain ⟨l,hl,hn⟩:=h.last
 obtain ⟨l',hl',hn'⟩:=h'.last
 rw [hl] at hl'
 cases hl'
 rw [hn] at hn'
 cases cl <;> cases cl' <;> first | rfl | cases hn'
theorem FanEnd.next {M:List (Option Nat)} {c:Nat} {cs:List Nat} (h:FanEnd M c cs true) {i a:Nat} (ha:cs[i]?=some a):∃ b,cs[(i + 1) % cs.length]?=some b∧nxC M a=some b:=by
 have hi:=(List.getElem?_eq_some_iff.mp ha).1
 by_cases z:i + 1 < cs.length
 ·rw [Nat.mod_eq_of_lt z]
  have:=List.getElem?_eq_getElem z
  exact ⟨_,this,h.chain i a _ ha this⟩
 ·have:i + 1=cs.length:=by omega
  rw [this,Nat.mod_self]
  obtain ⟨l,hl,hn⟩:=h.last
  rw [show cs.length - 1=i by omega,ha] at hl
  cases hl
  exact ⟨c,h.head,hn⟩
theorem FanEnd.rot {M:List (Option Nat)} {c c1:Nat} {cs:List Nat} (h:FanEnd M c cs true) (h1:cs[1 % cs.length]?=some c1):FanEnd M c1 (rot cs 1) true:=by
 have hp:=h.pos
 have hl:(KT.rot cs 1).length=cs.length:=Zlf cs hp
 have at':∀ k,k < cs.length→(KT.rot cs 1)[k]?=cs[(k + 1) % cs.length]?:=fun k hk=>by
  by_cases z:cs.length=1
  ·have e:KT.rot cs 1=cs:=by rw [← z]; unfold KT.rot; simp
   rw [e,z,Nat.mod_one,show k=0 by omega]
  ·exact Zd7 (by omega) hk
 refine ⟨⟨?_,fun i a b ha hb=>?_,?_,fun a ha=>?_⟩,?_⟩
 ·rw [at' 0 hp,Nat.zero_add]; exact h1
 ·have hi:i + 1 < cs.length:=by have:=(List.getElem?_eq_some_iff.mp hb).1; omega
  rw [at' i (by omega)] at ha
  rw [at' _ hi] at hb
  obtain ⟨b',e1,e2⟩:=h.next ha
  rw [Nat.mod_add_mod] at e1
  rw [show i + 1 + 1=i + 1 + 1 from rfl,e1] at hb
  cases hb
  exact e2
 ·have:(KT.rot cs 1).Perm cs:=by
   unfold KT.rot
   exact (List.perm_append_comm).trans (by rw [List.take_append_drop])
  exact this.nodup_iff.mpr h.nodup
 ·refine h.lt a ?_
  unfold KT.rot at ha
  rcases List.mem_append.mp ha with z | z
  ·exact List.mem_of_mem_drop z
  ·exact List.mem_of_mem_take z
 ·rw [hl,at' _ (by omega),Nat.sub_add_cancel hp,Nat.mod_self]
  obtain ⟨b,e1,e2⟩:=h.next h.head
  rw [Nat.zero_add,h1] at e1
  cases e1
  exact ⟨c,h.head,e2⟩
end KT
set_option maxHeartbeats 4000000
namespace KT
open PySem L2
noncomputable def befN (i:Nat):Nat:=if i % 3=0 then i + 2 else i - 1
theorem J9 (i:Nat):before (i:Int)=(befN i:Int):=by unfold before befN; split <;> split <;> omega
noncomputable abbrev sR:Str:=Str.ofString "R"
noncomputable abbrev sL:Str:=Str.ofString "L"
end KT
set_option maxHeartbeats 4000000
namespace L2
open PySem PySem.Spec PyProof.Rows
end L2
set_option maxHeartbeats 4000000
namespace L2
open PySem PySem.Spec PyProof.Rows
section
variable {P:Program} {w:World} {K:PySem.W.Frag} {mg:Str→Option Value} {base:Heap} {x qual:Str} {st:Stmt} {f:Addr} {fd:FuncData} {N ps:List Str} {k:Nat} {sp:Sp}
theorem Fun.aR (F:Fun K x qual st f fd) (S:FnScope N ps (Zg st))
  (hbody:∀ (cdv:Value) (A:Around) (outer:List Env) (s:Shared) (H:Hp) (vs:List V) (Q:VK) (E:XK),Room k (A.deeper (envOfC qual (Zg st) s.heap.objs.size f cdv))→sp vs H Q E →
   ∃ t,PSs (cxOf (CXr P w) P w K mg base N qual (Zg st) f cdv A outer s H E).nox (Yn st) t∧t { nx:=fun _ H'=>Q .non H',rt:=Q } (start N vs) H)
  (len:∀ vs H Q E,sp vs H Q E→vs.length=ps.length:=by (intro vs H Q E h; (repeat obtain ⟨_,h⟩:=h); subst_vars; rfl)):FnOk P w K mg base (CXr P w) (k + 1) f fd ps sp:=F.okR S len hbody
theorem Fun.aX (F:Fun K x qual st f fd) (S:FnScope N ps (Zg st))
  (hbody:∀ (cdv:Value) (A:Around) (outer:List Env) (s:Shared) (H:Hp) (vs:List V) (Q:VK) (E:XK),Room k (A.deeper (envOfC qual (Zg st) s.heap.objs.size f cdv))→sp vs H Q E →
   ∃ t,PSsX true (cxOf (CXr P w) P w K mg base N qual (Zg st) f cdv A outer s H E).nox (Yn st) t∧t { nx:=fun _ H'=>Q .non H',rt:=Q } (fun cls _ H'=>E cls none H') (start N vs) H)
  (len:∀ vs H Q E,sp vs H Q E→vs.length=ps.length:=by (intro vs H Q E h; (repeat obtain ⟨_,h⟩:=h); subst_vars; rfl)):FnOk P w K mg base (CXr P w) (k + 1) f fd ps sp:=F.okX S len hbody
end
end L2
set_option maxHeartbeats 4000000
namespace L2
open PySem PySem.Spec PyProof.Rows
section
variable {X:Cx}
theorem Uz:Y7 X (.type "set") (fun xs H Q=>xs=[]∧∀ p,H p=none→Q (.ref p) (upd H p (.set (fun _=>false) 0))):=by
 intro pins s σ H xs us Q I r h
 obtain ⟨rfl,q⟩:=h
 cases r
 refine call_set_0 fun led=>?_
 refine ⟨.ref s.heap.objs.size,_,I.laid (t':=s.toks) (fun b o e=>Heap.get?_push_of_some _ e) (Nat.le_refl _) (show Zx X.prog X.w _ _ _ (.set (fun _=>false) 0) from ?_),rfl,q _ (I.hok.fresh (Nat.le_refl _))⟩
 refine ⟨_,#[],0,.fresh 0 0 led,Heap.get?_push_size _ rfl,⟨rfl,rfl,rfl⟩,rfl,(fun e he=>by cases he),(fun k=>⟨(fun z=>by cases z),fun ⟨e,he,_⟩=>by cases he⟩),by decide,?_,rfl⟩
 cases led <;> rfl
theorem Jh:OpR X (compareOp .NotIn) (fun x y H Q=>∃ i p S n,x=.int i∧y=.ref p∧H p=some (.set S n)∧Q (.bl (!S i)) H):=by
 intro pins s σ H x y v u Q I rx ry h
 obtain ⟨i,p,S,n,rfl,rfl,hp,q⟩:=h
 obtain ⟨t,rfl⟩:=rx
 cases ry
 have hS:s.heap.SetOf (intKind X.prog X.w) p S n:=I.hok p _ hp
 exact wpAny_notInSet_of (k:=i) (intKind_is _ _ _ _) rfl hS ⟨.bl _,H,I.tok _,rfl,q⟩
theorem Qr:MtR X "set.add" (fun o xs H Q=>∃ p i S n,o=.ref p∧xs=[.int i]∧H p=some (.set S n)∧n + 1 < 4096∧Q .non (upd H p (.set (fun k=>S k || decide (k=i)) (if S i then n else n + 1)))):=by
 intro pins s σ H x xs v us Q I rx rs h
 obtain ⟨p,i,S,n,rfl,rfl,hp,hn,q⟩:=h
 cases rx
 obtain ⟨u,rfl,ru⟩:=Wd rs
 obtain ⟨t,rfl⟩:=ru
 have hS:s.heap.SetOf (intKind X.prog X.w) p S n:=I.hok p _ hp
 refine call_set_add (k:=i) (intKind_is _ _ _ _) rfl hS hn fun h' hsb hS'=>?_
 obtain ⟨o,es,ep,tt,ho,hx⟩:=id hS'
 refine ⟨.non,_,I.write (x:=p) (e:=p) (by rw [hp]; exact trivial) (.inl rfl) (fun b' u hb hu=>(hsb.2 b' hb).trans hu) ⟨_,ho⟩ ?_,rfl,q⟩
 exact hS'
theorem Vu (K:PySem.W.Frag) (h:X.K=K:=by rfl):OpR X (compareOp .In) (rIn K false):=h ▸ Zhi
noncomputable def Zmn (i:Nat) (f:Addr) (sp:Sp) (dvs:List V) (E:XK) (t:TA):TE:=fun σ H Q=>σ[i]?=some (some (.ref f))∧Zfe sp dvs E t σ H Q
theorem Ow {CX:CXT} {k i:Nat} {f:Addr} {fd:FuncData} {ps:List Str} {sp:Sp} {ds:List Value} {dvs:List V} {E:XK} {x:Str} {p pos:Pos} {e:Expr} {es:List Expr} {t:TA} (F:FnOk X.prog X.w X.K X.mg X.base CX k f fd ps sp) (hr:Room k X.A) (hN:X.N[i]?=some x) (hv:Vis X.env.scope x) (hk:PySem.W.keepIn X.K (.ref f)=true) (hb:Xx X.K fd ps ds) (hd:Vals dvs ds) (hx:Jq CX X E)
  (ha:PA X (e :: es) t) (hdb:(x == ("__debug__":Str))=false:=by decide) (hcd:(x == ("__classdict__":Str))=false:=by decide) (he:starEach (e :: es) X.env=(false,eval e X.env) :: starEach es X.env:=by rfl) (hpl:(backTo pos (starEach es X.env)).any (·.1)=false:=by rfl) :
  PE X (.Call (.Name x p) (e :: es) [] pos) (Zmn i f sp dvs E t):=by
 intro pins s σ H Q I h
 obtain ⟨h0,h⟩:=h
 refine wpAny_Call_Name_kw (thn (Zg9 hN hv hdb hcd pins s σ H (fun v H'=>v=.ref f∧H'=H) I ⟨_,h0,rfl,rfl⟩) fun v s1 zz9=>?_)
 obtain ⟨y,H1,I1,r1,e1,e2⟩:=zz9
 subst e1 e2
 cases r1
 refine PySem.W.callWith_K (h₀:=X.base) I1.ok.mod.kin hk (thn (ha pos pins s1 σ _ _ I1 h) fun us s2 zz31=>?_) he hpl
 obtain ⟨vs,H2,I2,r,q⟩:=zz31
 refine ⟨I2.kIn,?_⟩
 exact Kr F hr hb hd hx I2 r q
end
end L2
set_option maxHeartbeats 4000000
namespace L2
open PySem PySem.Spec PyProof.Rows PySem.SeqAt
mutual
inductive DV (K:PySem.W.Frag) (H:Hp):V→PyData→Prop
 | non:DV K H .non .none
 | bl (b:Bool):DV K H (.bl b) (.bool b)
 | int (i:Int):DV K H (.int i) (.int i)
 | str (x:Str):DV K H (.str x) (.str x)
 | lst {a:Addr} {xs:List V} {ds:List PyData}:SqL K H a xs→DVs K H xs ds→DV K H (.ref a) (.list ds)
 | tup {a:Addr} {xs:List V} {ds:List PyData}:SqT K H a xs→DVs K H xs ds→DV K H (.ref a) (.tuple ds)
inductive DVs (K:PySem.W.Frag) (H:Hp):List V→List PyData→Prop
 | nil:DVs K H [] []
 | cons {x:V} {xs:List V} {d:PyData} {ds:List PyData}:DV K H x d→DVs K H xs ds→DVs K H (x :: xs) (d :: ds)
end
section
variable {X:Cx} {pins:List (Addr × Obj)} {σ:St} {H:Hp} {s:Shared}
mutual
theorem DV.reads (I:Inv X pins σ H s):∀ {x:V} {d:PyData} {u:Value},DV X.K H x d→RelV x u→∃ as,Reads s.heap u d as
 | _,_,_,.non,r=>by cases r; exact ⟨_,.none⟩
 | _,_,_,.bl b,r=>by cases r; exact ⟨_,.bool b⟩
 | _,_,_,.int i,r=>by obtain ⟨t,rfl⟩:=r; exact ⟨_,.int i t⟩
 | _,_,_,.str x,r=>by obtain ⟨t,rfl⟩:=r; exact ⟨_,.str x t⟩
 | _,_,_,.lst h hs,r=>by
  cases r
  obtain ⟨its,rv,pl,_⟩:=I.list h
  obtain ⟨as,ra⟩:=DVs.reads I hs rv
  obtain ⟨o,ho,hc,n,hd⟩:=pl.isList
  exact ⟨_,.list ho hc hd (by simpa using ra)⟩
 | _,_,_,.tup h hs,r=>by
  cases r
  obtain ⟨its,rv,pt,_⟩:=I.tuple h
  obtain ⟨as,ra⟩:=DVs.reads I hs rv
  obtain ⟨o,ho,hc,n,hd⟩:=pt
  exact ⟨_,.tuple ho hc hd (by simpa using ra)⟩
theorem DVs.reads (I:Inv X pins σ H s):∀ {xs:List V} {ds:List PyData} {us:List Value},DVs X.K H xs ds→Vals xs us→∃ as,ReadsAll s.heap us ds as
 | _,_,_,.nil,r=>by cases r; exact ⟨_,.nil⟩
 | _,_,_,.cons h hs,r=>by
  cases r with
  | cons r1 r2 =>
   obtain ⟨as,ra⟩:=DV.reads I h r1
   obtain ⟨bs,rb⟩:=DVs.reads I hs r2
   exact ⟨_,.cons ra rb⟩
end
end
mutual
theorem Ky:∀ d:PyData,d.canLay0=true→noMix d d=true
 | .none,_=>rfl
 | .bool _,_=>rfl
 | .int _,_=>rfl
 | .str _,_=>rfl
 | .list xs,h=>by simp only [PyData.canLay0] at h; simp only [noMix]; exact Jr xs h
 | .tuple xs,h=>by simp only [PyData.canLay0] at h; simp only [noMix]; exact Jr xs h
 | .dict _,h=>by simp [PyData.canLay0] at h
theorem Jr:∀ xs:List PyData,PyData.canLayAll0 xs=true→noMixAll xs xs=true
 | [],_=>by simp [noMixAll]
 | x :: xs,h=>by
  simp only [PyData.canLayAll0,Bool.and_eq_true] at h
  simp only [noMixAll,Ky x h.1,Jr xs h.2,Bool.and_self]
end
section
variable {X:Cx}
noncomputable def rNeD (K:PySem.W.Frag):R2:=fun x y H Q=>∃ d e,DV K H x d∧DV K H y e∧shaped d=true∧shaped e=true∧noMix d e=true∧Q (.bl (!same d e)) H
theorem Zhg (hu:X.A.units + 64 < cLine):OpR X (compareOp .NotEq) (rNeD X.K):=by
 intro pins s σ H x y v u Q I rx ry h
 obtain ⟨d,e,hx,hy,sd,se,hm,q⟩:=h
 obtain ⟨_,r1⟩:=hx.reads I rx
 obtain ⟨_,r2⟩:=hy.reads I ry
 exact ne_dataH_same r1 r2 sd se hu hm ⟨.bl _,H,I,rfl,q⟩
end
theorem DV.nev {K:PySem.W.Frag} {H:Hp} {x y:V} {d:PyData} {Q:VK} (hx:DV K H x d) (hy:DV K H y d) (hs:shaped d=true) (q:Q (.bl false) H):rNeD K x y H Q :=
 ⟨d,d,hx,hy,hs,hs,Ky d (canLay_of_shaped hs),by rw [same_self]; exact q⟩
theorem DVs.ints {K:PySem.W.Frag} {H:Hp}:∀ ns:List Int,DVs K H (ns.map V.int) (ns.map PyData.int)
 | []=>.nil
 | n :: r=>.cons (.int n) (DVs.ints r)
end L2
set_option maxHeartbeats 4000000
namespace KT
open PySem L2
structure Orb (R:Nat→Nat→Prop) (p:Nat) (os:List Nat):Prop where
 head:os[0]?=some p
 chain:∀ (i a b:Nat),os[i]?=some a→os[i + 1]?=some b→R a b
 nodup:os.Nodup
structure OrbEnd (R:Nat→Nat→Prop) (p:Nat) (os:List Nat):Prop extends Orb R p os where
 last:∃ l,os[os.length - 1]?=some l∧R l p
section
variable {R:Nat→Nat→Prop}
theorem Orb.pos {p:Nat} {os:List Nat} (h:Orb R p os):0 < os.length:=(List.getElem?_eq_some_iff.mp h.head).1
theorem Orb.one (p:Nat):Orb R p [p]:=⟨rfl,fun i a b _ h2=>by simp at h2,by simp⟩
theorem Orb.new (inj:∀ a b x,R a x→R b x→a=b) {p l f:Nat} {os:List Nat} (h:Orb R p os) (hl:os[os.length - 1]?=some l) (hf:R l f) (hc:f≠p):f ∉ os:=by
 intro hm
 obtain ⟨i,hi,e⟩:=List.mem_iff_getElem.mp hm
 have e':os[i]?=some f:=by rw [List.getElem?_eq_getElem hi,e]
 cases i with
 | zero=>rw [h.head] at e'; cases e'; exact hc rfl
 | succ i =>
  have hi':i < os.length:=by omega
  have ea:=List.getElem?_eq_getElem hi'
  have e2:=inj _ _ _ (h.chain i _ f ea e') hf
  have e3:os[i]=os[os.length - 1]:=by
   have:=(List.getElem?_eq_some_iff.mp hl).2
   rw [e2,this]
  have:=(List.getElem_inj h.nodup).mp e3
  omega
theorem Orb.snoc {p l f:Nat} {os:List Nat} (h:Orb R p os) (hl:os[os.length - 1]?=some l) (hf:R l f) (hn:f ∉ os):Orb R p (os ++ [f]):=by
 have hp:=h.pos
 refine ⟨by rw [List.getElem?_append_left hp]; exact h.head,fun i a b ha hb=>?_,?_⟩
 ·by_cases z:i + 1 < os.length
  ·rw [List.getElem?_append_left z] at hb
   rw [List.getElem?_append_left (by omega)] at ha
   exact h.chain i a b ha hb
  ·have hi:=(List.getElem?_eq_some_iff.mp hb).1
   rw [List.length_append,List.length_singleton] at hi
   have hi:i=os.length - 1:=by omega
   subst hi
   rw [List.getElem?_append_left (by omega),hl] at ha
   cases ha
   rw [List.getElem?_append_right (by omega),show os.length - 1 + 1 - os.length=0 by omega] at hb
   cases hb
   exact hf
 ·rw [List.nodup_append]
  refine ⟨h.nodup,by simp,fun a ha b hb e=>?_⟩
  rw [List.mem_singleton] at hb
  subst hb e
  exact hn ha
theorem OrbEnd.same (fn:∀ a x y,R a x→R a y→x=y) {p:Nat} {os os':List Nat} (h:OrbEnd R p os) (h':OrbEnd R p os'):os=os':=by
 have step:∀ {os os':List Nat},OrbEnd R p os→OrbEnd R p os'→∀ (i x:Nat),os[i]?=some x→os'[i]?=some x:=fun {os os'} h h' i=>by
  induction i with
  | zero=>intro x hx; rw [h.head] at hx; rw [h'.head]; exact hx
  | succ i ih =>
   intro x hx
   have hi:i < os.length:=by have:=(List.getElem?_eq_some_iff.mp hx).1; omega
   have ea:=List.getElem?_eq_getElem hi
   have eb:=ih _ ea
   have e1:=h.chain i _ x ea hx
   cases e:os'[i + 1]? with
   | some y=>rw [fn _ _ _ e1 (h'.chain i _ y eb e)]
   | none =>
    exfalso
    have l1:os'.length≤i + 1:=List.getElem?_eq_none_iff.mp e
    have l2:=(List.getElem?_eq_some_iff.mp eb).1
    obtain ⟨l,hl,hn⟩:=h'.last
    rw [show os'.length - 1=i by omega,eb] at hl
    cases hl
    have ex:=fn _ _ _ e1 hn
    subst ex
    have e3:os[0]'(by omega)=os[i + 1]'((List.getElem?_eq_some_iff.mp hx).1):=by
     have q1:=(List.getElem?_eq_some_iff.mp h.head).2
     have q2:=(List.getElem?_eq_some_iff.mp hx).2
     rw [q1,q2]
    have:=(List.getElem_inj h.nodup).mp e3
    omega
 apply List.ext_getElem?
 intro i
 cases e1:os[i]? with
 | some x=>exact (step h h' i x e1).symm
 | none =>
  cases e2:os'[i]? with
  | none=>rfl
  | some y=>rw [step h' h i y e2] at e1; cases e1
theorem OrbEnd.before (inj:∀ a b x,R a x→R b x→a=b) {p a b:Nat} {os:List Nat} (h:OrbEnd R p os) (hb:b∈os) (hab:R a b):a∈os:=by
 obtain ⟨i,hi,e⟩:=List.mem_iff_getElem.mp hb
 have e':os[i]?=some b:=by rw [List.getElem?_eq_getElem hi,e]
 cases i with
 | zero =>
  rw [h.head] at e'
  cases e'
  obtain ⟨l,hl,hn⟩:=h.last
  rw [inj _ _ _ hab hn]
  exact List.mem_of_getElem? hl
 | succ i =>
  have ea:=List.getElem?_eq_getElem (show i < os.length by omega)
  rw [inj _ _ _ hab (h.chain i _ b ea e')]
  exact List.mem_of_getElem? ea
end
noncomputable def RimP (M:List (Option Nat)) (p:Nat):Prop:=M[p]?=some none
noncomputable def Bh (M:List (Option Nat)) (p q:Nat):Prop:=RimP M p∧∃ cs l,FanEnd M p cs false∧cs[cs.length - 1]?=some l∧q=aftN l
theorem RimP.lt {M:List (Option Nat)} {p:Nat} (h:RimP M p):p < M.length:=(List.getElem?_eq_some_iff.mp h).1
theorem FanEnd.open {M:List (Option Nat)} (inv:InvM M) {p:Nat} {cs:List Nat} {cl:Bool} (h:FanEnd M p cs cl) (hp:RimP M p):cl=false:=by
 cases cl with
 | false=>rfl
 | true =>
  obtain ⟨l,_,hn⟩:=h.last
  have e:=(inv _ _ (Yt.mp hn)).1
  have hp:M[p]?=some none:=hp
  rw [hp] at e
  cases e
theorem Bh.rim {M:List (Option Nat)} {n:Nat} (hn:M.length=3 * n) {p q:Nat} (h:Bh M p q):RimP M q:=by
 obtain ⟨_,cs,l,hF,hl,rfl⟩:=h
 obtain ⟨l',hl',hx⟩:=hF.last
 rw [hl] at hl'
 cases hl'
 have hlt:=hF.lt l (List.mem_of_getElem? hl)
 rw [hn] at hlt
 have ha:aftN l < M.length:=by rw [hn]; exact Gw hlt
 have e:=List.getElem?_eq_getElem ha
 unfold nxC at hx
 rw [e] at hx
 unfold RimP
 rw [e]
 exact congrArg some hx
theorem Bh.fn {M:List (Option Nat)}:∀ a x y,Bh M a x→Bh M a y→x=y:=fun a x y ⟨_,cs,l,h1,h2,e1⟩ ⟨_,cs',l',h1',h2',e1'⟩=>by
 obtain ⟨rfl,_⟩:=h1.same h1'
 rw [h2] at h2'
 cases h2'
 rw [e1,e1']
theorem Zcp {M:List (Option Nat)} (inv:InvM M) {p q l:Nat} {cs ds:List Nat} (hp:RimP M p) (h1:FanEnd M p cs false) (h2:FanEnd M q ds false) (e1:cs[cs.length - 1]?=some l) (e2:ds[ds.length - 1]?=some l):cs.length≤ds.length→p=q:=by
 intro hle
 have p1:=h1.pos
 have p2:=h2.pos
 have bk:∀ i,i < cs.length→cs[cs.length - 1 - i]?=ds[ds.length - 1 - i]?:=fun i=>by
  induction i with
  | zero=>intro _; rw [Nat.sub_zero,Nat.sub_zero,e1,e2]
  | succ i ih =>
   intro hi
   have ih:=ih (by omega)
   have ea:=List.getElem?_eq_getElem (show cs.length - 1 - (i + 1) < cs.length by omega)
   have eb:=List.getElem?_eq_getElem (show ds.length - 1 - (i + 1) < ds.length by omega)
   have ec:=List.getElem?_eq_getElem (show cs.length - 1 - i < cs.length by omega)
   have ed:=ih.symm.trans ec
   have n1:=h1.chain (cs.length - 1 - (i + 1)) _ _ ea (by rw [show cs.length - 1 - (i + 1) + 1=cs.length - 1 - i by omega]; exact ec)
   have n2:=h2.chain (ds.length - 1 - (i + 1)) _ _ eb (by rw [show ds.length - 1 - (i + 1) + 1=ds.length - 1 - i by omega]; exact ed)
   rw [ea,eb,U5 inv n1 n2]
 have b0:=bk (cs.length - 1) (by omega)
 rw [Nat.sub_self,h1.head] at b0
 by_cases z:ds.length=cs.length
 ·rw [show ds.length - 1 - (cs.length - 1)=0 by omega,h2.head] at b0
  exact Option.some.inj b0
 ·exfalso
  have ea:=List.getElem?_eq_getElem (show ds.length - 1 - (cs.length - 1) - 1 < ds.length by omega)
  have n1:=h2.chain (ds.length - 1 - (cs.length - 1) - 1) _ p ea (by rw [show ds.length - 1 - (cs.length - 1) - 1 + 1=ds.length - 1 - (cs.length - 1) by omega]; exact b0.symm)
  have e:=(inv _ _ (Yt.mp n1)).1
  have hp:M[p]?=some none:=hp
  rw [hp] at e
  cases e
theorem Bh.inj {M:List (Option Nat)} (inv:InvM M):∀ a b x,Bh M a x→Bh M b x→a=b:=fun a b x ⟨ha,cs,l,h1,h2,e1⟩ ⟨hb,ds,l',h1',h2',e1'⟩=>by
 have e:l=l':=Zc0 (e1.symm.trans e1')
 subst e
 by_cases z:cs.length≤ds.length
 ·exact Zcp inv ha h1 h1' h2 h2' z
 ·exact (Zcp inv hb h1' h1 h2' h2 (by omega)).symm
noncomputable def rimB (M:List (Option Nat)) (p:Nat):Bool:=decide (M[p]?=some none)
noncomputable def rimL (M:List (Option Nat)):List Nat:=(List.range M.length).filter (rimB M)
open Classical in
noncomputable def Zae (M:List (Option Nat)) (p:Nat):List Nat:=if h:∃ os,OrbEnd (Bh M) p os then h.choose else []
theorem Zjo {M:List (Option Nat)} {p:Nat} {os:List Nat} (h:OrbEnd (Bh M) p os):Zae M p=os:=by
 have hx:∃ os,OrbEnd (Bh M) p os:=⟨os,h⟩
 unfold Zae
 rw [dif_pos hx]
 exact OrbEnd.same Bh.fn hx.choose_spec h
noncomputable def gath (M:List (Option Nat)):List Nat→List (List Nat)→List (List Nat)
 | [],gs=>gs
 | p :: r,gs=>gath M r (if p∈gs.flatten then gs else gs ++ [Zae M p])
noncomputable def Ym (M:List (Option Nat)) (ps:List Nat):List (List Nat):=gath M ps []
theorem Ux (M:List (Option Nat)) (p:Nat):∀ (ps:List Nat) (gs:List (List Nat)),gath M (ps ++ [p]) gs=if p∈(gath M ps gs).flatten then gath M ps gs else gath M ps gs ++ [Zae M p]
 | [],gs=>rfl
 | q :: r,gs=>Ux M p r _
theorem Zck {M:List (Option Nat)} {ps:List Nat} {p:Nat} (h:p∈(Ym M ps).flatten):Ym M (ps ++ [p])=Ym M ps:=by unfold Ym at *; rw [Ux,if_pos h]
theorem Fm {M:List (Option Nat)} {ps os:List Nat} {p:Nat} (h:p ∉ (Ym M ps).flatten) (ho:OrbEnd (Bh M) p os):Ym M (ps ++ [p])=Ym M ps ++ [os]:=by unfold Ym at *; rw [Ux,if_neg h,Zjo ho]
structure GOk (M:List (Option Nat)) (gs:List (List Nat)):Prop where
 orb:∀ os∈gs,∃ p,OrbEnd (Bh M) p os
 nd:gs.flatten.Nodup
 rim:∀ a∈gs.flatten,RimP M a
theorem GOk.nil (M:List (Option Nat)):GOk M []:=⟨fun os h=>absurd h List.not_mem_nil,by simp,fun a h=>absurd h (by simp)⟩
theorem U4 {M:List (Option Nat)} {n:Nat} (hn:M.length=3 * n) {p:Nat} {os:List Nat} (h:Orb (Bh M) p os) (hp:RimP M p):∀ a∈os,RimP M a:=fun a ha=>by
 obtain ⟨i,hi,e⟩:=List.mem_iff_getElem.mp ha
 have e':os[i]?=some a:=by rw [List.getElem?_eq_getElem hi,e]
 cases i with
 | zero=>rw [h.head] at e'; cases e'; exact hp
 | succ i=>exact (h.chain i _ a (List.getElem?_eq_getElem (by omega)) e').rim hn
theorem Fb {M:List (Option Nat)} (inv:InvM M) {gs:List (List Nat)} (hg:GOk M gs) {p:Nat} {os:List Nat} (h:Orb (Bh M) p os) (hp:p ∉ gs.flatten):∀ a∈os,a ∉ gs.flatten:=fun a ha=>by
 obtain ⟨i,hi,e⟩:=List.mem_iff_getElem.mp ha
 have e':os[i]?=some a:=by rw [List.getElem?_eq_getElem hi,e]
 clear e ha
 induction i generalizing a with
 | zero=>rw [h.head] at e'; cases e'; exact hp
 | succ i ih =>
  have ea:=List.getElem?_eq_getElem (show i < os.length by omega)
  intro hm
  obtain ⟨g,hgm,hag⟩:=List.mem_flatten.mp hm
  obtain ⟨q,hq⟩:=hg.orb g hgm
  exact ih _ (by omega) ea (List.mem_flatten.mpr ⟨g,hgm,hq.before (Bh.inj inv) hag (h.chain i _ a ea e')⟩)
theorem GOk.snoc {M:List (Option Nat)} (inv:InvM M) {n:Nat} (hn:M.length=3 * n) {gs:List (List Nat)} (hg:GOk M gs) {p:Nat} {os:List Nat} (h:OrbEnd (Bh M) p os) (hr:RimP M p) (hp:p ∉ gs.flatten):GOk M (gs ++ [os]):=by
 refine ⟨fun g hm=>?_,?_,fun a ha=>?_⟩
 ·rcases List.mem_append.mp hm with z | z
  ·exact hg.orb g z
  ·rw [List.mem_singleton] at z; subst z; exact ⟨p,h⟩
 ·rw [List.flatten_append,List.flatten_singleton,List.nodup_append]
  exact ⟨hg.nd,h.nodup,fun a ha b hb e=>by subst e; exact Fb inv hg h.toOrb hp a hb ha⟩
 ·rw [List.flatten_append,List.flatten_singleton] at ha
  rcases List.mem_append.mp ha with z | z
  ·exact hg.rim a z
  ·exact U4 hn h.toOrb hr a z
theorem Yw {M:List (Option Nat)} {p:Nat}:p∈rimL M ↔ RimP M p:=by
 unfold rimL RimP
 rw [List.mem_filter,List.mem_range]
 unfold rimB
 rw [decide_eq_true_eq]
 exact ⟨fun h=>h.2,fun h=>⟨(List.getElem?_eq_some_iff.mp h).1,h⟩⟩
theorem Zlg (M:List (Option Nat)):(rimL M).Nodup:=List.Pairwise.filter _ List.nodup_range
theorem GOk.len {M:List (Option Nat)} {gs:List (List Nat)} (h:GOk M gs):gs.flatten.length≤M.length:=X0 _ _ h.nd fun a ha=>(h.rim a ha).lt
end KT
set_option maxHeartbeats 4000000
namespace KT
open PySem L2
theorem Zkm (a:Nat):¬ (a:Int)=after a:=by have:=Yz a; omega
theorem Zkl (a:Nat):¬ (a:Int)=before a:=by have:=Yq a; omega
theorem K0 {a b:Nat} (h:a / 3≠b / 3):¬ (a:Int)=after b:=by have:=(Yz b).1; omega
theorem Kz {a b:Nat} (h:a / 3≠b / 3):¬ (a:Int)=before b:=by have:=(Yq b).1; omega
theorem Us {left:Bool} {a b z:Nat} (h1:z / 3≠a / 3) (h2:z / 3≠b / 3):mvN left a b z=z:=by
 have:mvI left a b z=z:=by
  unfold mvI
  rw [if_neg (K0 h1),if_neg (Kz h2),if_neg (K0 h2),if_neg (Kz h1)]
 unfold mvN
 rw [this]
 exact Int.toNat_natCast z
end KT
set_option maxHeartbeats 4000000
namespace KT
open PySem L2
theorem mv_a {left:Bool} {a b:Nat} (h:a / 3≠b / 3):mvN left a b a=a∧mvN left a b b=b:=by
 have h':=Ne.symm h
 have i1:mvI left a b a=a:=by
  unfold mvI
  rw [if_neg (Zkm a),if_neg (Kz h),if_neg (K0 h),if_neg (Zkl a)]
 have i2:mvI left a b b=b:=by
  unfold mvI
  rw [if_neg (K0 h'),if_neg (Zkl b),if_neg (Zkm b),if_neg (Kz h')]
 unfold mvN
 rw [i1,i2]
 exact ⟨Int.toNat_natCast a,Int.toNat_natCast b⟩
section
variable {M:List (Option Nat)} {ns:List Int} {left:Bool} {a b:Nat}
theorem Znf (td:TD M ns) (ha:a < M.length) (hb:b < M.length) (hab:a / 3≠b / 3) {y m:Nat} (hy:M[y]?=some (some m)):(exM left a b M)[mvN left a b y]?=some (some (mvN left a b m)):=by
 obtain ⟨n,_,_,hn⟩:=td.n
 have hyl:y < M.length:=(List.getElem?_eq_some_iff.mp hy).1
 have hz:mvN left a b y < M.length:=by rw [hn] at ha hb hyl ⊢; exact Xi ha hb left hyl
 rw [Wy td ha hb hab left hz,Yh hab,hy]
 rfl
end
end KT
set_option maxHeartbeats 4000000
namespace KT
open PySem L2
end KT
set_option maxHeartbeats 4000000
namespace KT
open PySem L2
end KT
set_option maxHeartbeats 4000000
namespace KT
open PySem L2
section
variable {M:List (Option Nat)} {ns:List Int} {left:Bool} {a b:Nat}
theorem Zka (td:TD M ns) (ha:a < M.length) (hb:b < M.length) (hab:a / 3≠b / 3):exM (!left) a b (exM left a b M)=M:=by
 have td':=td.ex ha hb hab left
 have hl:=Yi left a b M
 apply List.ext_getElem?
 intro z
 by_cases hz:z < M.length
 ·obtain ⟨n,n1,n40,hn⟩:=td.n
  have hm:mvN left a b z < M.length:=by rw [hn]; exact Xi (by omega) (by omega) left (by omega)
  rw [Wy td' (by omega) (by omega) hab (!left) (by omega),Bool.not_not,Wy td ha hb hab left hm,Yh hab]
  cases e:M[z]? with
  | none=>rfl
  | some o =>
   cases o with
   | none=>rfl
   | some y=>show some (some (mvN (!left) a b (mvN left a b y)))=_; rw [Yh hab]
 ·rw [List.getElem?_eq_none (by rw [Yi,Yi]; omega),List.getElem?_eq_none (by omega)]
end
end KT
set_option maxHeartbeats 4000000
namespace KT
open PySem L2
theorem Od (c:Nat):aftN (befN c)=c:=by unfold aftN befN; split <;> split <;> omega
theorem J8 (c:Nat):befN (aftN c)=c:=by unfold aftN befN; split <;> split <;> omega
theorem Gv (c:Nat):aftN (aftN c)=befN c:=by unfold aftN befN; split <;> split <;> split <;> omega
theorem Ye (i:Nat):befN i / 3=i / 3:=by unfold befN; split <;> omega
section
variable {M:List (Option Nat)} {ns:List Int} {left:Bool} {a b:Nat}
theorem Vb {a b:Nat} (h:a / 3≠b / 3) (left:Bool):mvN left a b (aftN a)=(if left=true then befN b else befN a)∧mvN left a b (befN b)=(if left=true then aftN b else aftN a)∧mvN left a b (aftN b)=(if left=true then befN a else befN b)∧mvN left a b (befN a)=(if left=true then aftN a else aftN b):=by
 obtain ⟨h1,h2,h3,h4,h5,h6⟩:=Wj h
 have f:∀ (z:Nat) (y:Nat),mvI left a b (z:Int)=(y:Int)→mvN left a b z=y:=fun z y e=>by unfold mvN; rw [e]; simp
 refine ⟨f _ _ ?_,f _ _ ?_,f _ _ ?_,f _ _ ?_⟩
 ·rw [← Xs]; unfold mvI; rw [if_pos rfl]; cases left <;> simp [J9]
 ·rw [← J9]; unfold mvI; rw [if_neg (Ne.symm h3),if_pos rfl]; cases left <;> simp [Xs]
 ·rw [← Xs]; unfold mvI; rw [if_neg (Ne.symm h2),if_neg h6,if_pos rfl]; cases left <;> simp [J9]
 ·rw [← J9]; unfold mvI; rw [if_neg (Ne.symm h1),if_neg h5,if_neg h4,if_pos rfl]; cases left <;> simp [Xs]
end
end KT
set_option maxHeartbeats 4000000
namespace KT
open PySem L2
end KT
set_option maxHeartbeats 4000000
namespace KT
open PySem L2
end KT
set_option maxHeartbeats 4000000
namespace L2
open PySem PySem.Spec PyProof.Rows PySem.SeqAt
section
variable {X:Cx}
theorem Zd0 (ns:List Int):∀ k,k≤ns.length→preSum (fun i=>ns.getD i 0) k=(ns.take k).sum
 | 0,_=>by simp [preSum]
 | k + 1,h=>by
  rw [preSum,Zd0 ns k (by omega),List.take_add_one,List.getElem?_eq_getElem (by omega),List.sum_append,List.getD_eq_getElem?_getD,List.getElem?_eq_getElem (by omega)]
  simp
theorem Zcg {pins:List (Addr × Obj)} {σ:St} {H:Hp} {s:Shared} {ns:List Int} {its:List Value} (rv:Vals (ns.map V.int) its):∀ (i:Nat) (v:Value),its.toArray[i]?=some v→∃ t,v=.int (ns.getD i 0) t:=fun i v hv=>by
 have hv:its[i]?=some v:=by simpa using hv
 have hlen:=rv.length
 rw [List.length_map] at hlen
 have hi:i < ns.length:=by have:=(List.getElem?_eq_some_iff.mp hv).1; omega
 obtain ⟨u,hu,ru⟩:=rv.get (show (ns.map V.int)[i]?=some (V.int ns[i]) by rw [List.getElem?_map,List.getElem?_eq_getElem hi]; rfl)
 rw [hv] at hu
 cases hu
 obtain ⟨t,rfl⟩:=ru
 exact ⟨t,by rw [List.getD_eq_getElem?_getD,List.getElem?_eq_getElem hi]; rfl⟩
theorem Zio (hc:X.calm=true):Y7 X (.builtin "sum") (fun xs H Q=>∃ (p:Addr) (ns:List Int),xs=[.ref p]∧SqL X.K H p (ns.map V.int)∧Q (.int ns.sum) H):=by
 intro pins s σ H xs us Q I r h
 obtain ⟨p,ns,rfl,hq,q⟩:=h
 obtain ⟨u,rfl,ru⟩:=Wd r
 cases ru
 obtain ⟨its,rv,pl,hz⟩:=I.list hq
 have lt:p < s.heap.objs.size:=by obtain ⟨o,ho,_⟩:=pl.isList; exact Heap.lt_size ho
 have hlen:its.toArray.size=ns.length:=by have:=rv.length; rw [List.length_map] at this; simp; omega
 refine call_sum_walkG (wpAny_pyIter_list pl.isList ⟨s.heap.objs.size,_,_,_,_,_,fun i=>ns.getD i 0,rfl,Walks.list (A:=X.A.in1) (show X.A.in1.handled=none from I.ok.hd hc) s.heap.objs.size p (Nat.ne_of_lt lt) its.toArray,⟨⟨_,Heap.get?_push_size _ rfl,rfl,rfl⟩,pl.isList.push _⟩,?_,Zcg (pins:=pins) (σ:=σ) (H:=H) (s:=s) rv,?_⟩)
 ·intro b hb
  show b < (s.heap.push _).objs.size
  rw [Heap.size_push]
  rcases List.mem_cons.mp hb with rfl | hb
  ·exact Nat.lt_succ_self _
  ·rw [List.mem_singleton.mp hb]; exact Nat.lt_succ_of_lt lt
 ·intro h' tk t' hk
  have I1:Inv X pins σ H { s with heap:=h',toks:=tk }:=I.kept fun b o e=>hk b o (fun z=>absurd (Heap.lt_size e) (by rw [List.mem_singleton.mp z]; exact Nat.lt_irrefl _)) (Heap.get?_push_of_some _ e)
  refine ⟨.int ns.sum,H,I1,⟨t',?_⟩,q⟩
  rw [hlen,Zd0 ns _ (Nat.le_refl _),List.take_length]
end
end L2
set_option maxHeartbeats 4000000
namespace L2
open PySem PySem.Spec PyProof.Rows
noncomputable abbrev TBX:=St→Hp→(St→Hp→Prop)→XK→Prop
end L2
set_option maxHeartbeats 4000000
namespace L2
open PySem PySem.Spec PyProof.Rows
end L2
set_option maxHeartbeats 4000000
namespace HL
open PySem PyProof.Rows HT
end HL
namespace L2
open PySem PySem.Spec PyProof.Rows
end L2
set_option maxHeartbeats 4000000
namespace KT
open PySem L2
noncomputable def aN (a:Nat):Nat:=(after a).toNat
noncomputable def bN (a:Nat):Nat:=(before a).toNat
structure PC (M:List (Option Nat)) (f:Nat→Int):Prop where
 nn:∀ p,p < M.length→0≤f p
 rim:∀ p:Nat,M[p]?=some none→f p=0
 mate:∀ p q:Nat,M[p]?=some (some q)→f q=f p
 even:∀ p,p < M.length→(f p + f (aN p) + f (bN p)) % 2=0
 tri:∀ p,p < M.length→f p≤f (aN p) + f (bN p)
noncomputable def mx (x y:Int):Int:=if y > x then y else x
noncomputable def bh (f:Nat→Int) (a b:Nat):Int:=mx (f (aN a) + f (aN b)) (f (bN a) + f (bN b)) - f a
noncomputable def fx (left:Bool) (a b:Nat) (f:Nat→Int) (z:Nat):Int:=if z=a∨z=b then bh f a b else f (mvN (!left) a b z)
end KT
set_option maxHeartbeats 4000000
namespace KT
open PySem L2
noncomputable def sF (f:Nat→Int):Nat→Int
 | 0=>0
 | n + 1=>sF f n + f n
end KT
set_option maxHeartbeats 4000000
namespace KT
open PySem L2
end KT
set_option maxHeartbeats 4000000
namespace KT
open PySem L2
end KT
set_option maxHeartbeats 4000000
namespace KT
open PySem L2
section
variable {M:List (Option Nat)} {ns:List Int} {f:Nat→Int} {g:Int→Int}
noncomputable def mu (M:List (Option Nat)) (p:Nat):Nat:=match (M[p]?).join with
 | some q=>q
 | none=>p
end
end KT
set_option maxHeartbeats 4000000
namespace L2
open PySem PySem.Spec PyProof.Rows
end L2
set_option maxHeartbeats 4000000
namespace L2
open PySem PySem.Spec PyProof.Rows
noncomputable def Rise (l:List Nat):Prop:=l.Pairwise (· < ·)
theorem Q4 {xs:Array Nat} (hr:Rise xs.toList) {i k x y:Nat} (hi:xs[i]?=some x) (hk:xs[k]?=some y) (h:i < k):x < y:=by
 have e1:xs.toList[i]?=some x:=by rw [Array.getElem?_toList]; exact hi
 have e2:xs.toList[k]?=some y:=by rw [Array.getElem?_toList]; exact hk
 obtain ⟨l1,q1⟩:=List.getElem?_eq_some_iff.mp e1
 obtain ⟨l2,q2⟩:=List.getElem?_eq_some_iff.mp e2
 have:=List.pairwise_iff_getElem.mp hr i k l1 l2 h
 rw [q1,q2] at this
 exact this
theorem V2 {xs:Array Nat} {j:Nat} (hr:Rise xs.toList):∀ (fuel lo hi:Nat),hi - lo≤fuel→lo≤hi→hi≤xs.size→(∀ i x,i < lo→xs[i]?=some x→x < j)→(∀ i x,hi≤i→xs[i]?=some x→j≤x) →
  (∀ i x,i < SetTable.below.go xs j fuel lo hi→xs[i]?=some x→x < j)∧(∀ i x,SetTable.below.go xs j fuel lo hi≤i→xs[i]?=some x→j≤x)
 | 0,lo,hi,hf,hl,hs,h1,h2=>by
  have:lo=hi:=by omega
  subst this
  exact ⟨h1,h2⟩
 | fuel + 1,lo,hi,hf,hl,hs,h1,h2=>by
  unfold SetTable.below.go
  by_cases c:lo < hi
  ·rw [if_pos c]
   have hm:(lo + hi) / 2 < xs.size:=by omega
   have em:xs[(lo + hi) / 2]?=some xs[(lo + hi) / 2]:=Array.getElem?_eq_getElem hm
   have eg:xs.getD ((lo + hi) / 2) j=xs[(lo + hi) / 2]:=by rw [Array.getD_eq_getD_getElem?,em]; rfl
   dsimp only
   rw [eg]
   by_cases z:xs[(lo + hi) / 2] < j
   ·rw [if_pos z]
    refine V2 hr fuel _ _ (by omega) (by omega) hs (fun i x hi' hx=>?_) h2
    by_cases e:i=(lo + hi) / 2
    ·subst e; rw [em] at hx; cases hx; exact z
    ·exact Nat.lt_trans (Q4 hr hx em (by omega)) z
   ·rw [if_neg z]
    refine V2 hr fuel _ _ (by omega) (by omega) (by omega) h1 (fun i x hi' hx=>?_)
    by_cases e:i=(lo + hi) / 2
    ·subst e; rw [em] at hx; cases hx; omega
    ·have:=Q4 hr em hx (by omega); omega
  ·rw [if_neg c]
   have:lo=hi:=by omega
   subst this
   exact ⟨h1,h2⟩
theorem Zcy {xs:Array Nat} {j:Nat} (hr:Rise xs.toList):∀ i x,i < SetTable.below xs j→xs[i]?=some x→x < j :=
 (V2 hr xs.size 0 xs.size (by omega) (by omega) (by omega) (fun i x h=>by omega) (fun i x h hx=>by rw [Array.getElem?_eq_none h] at hx; cases hx)).1
theorem O9 {xs:Array Nat} {j:Nat} (hr:Rise xs.toList):∀ i x,SetTable.below xs j≤i→xs[i]?=some x→j≤x :=
 (V2 hr xs.size 0 xs.size (by omega) (by omega) (by omega) (fun i x h=>by omega) (fun i x h hx=>by rw [Array.getElem?_eq_none h] at hx; cases hx)).2
theorem Zdd {xs:Array Nat} {j:Nat} (hr:Rise xs.toList) (hn:xs[SetTable.below xs j]?≠some j):Rise (SetTable.insertAt xs (SetTable.below xs j) j).toList:=by
 unfold Rise
 rw [SetTable.toList_insertAt,List.pairwise_append]
 have hr':xs.toList.Pairwise (· < ·):=hr
 have ht:∀ a∈xs.toList.take (SetTable.below xs j),a < j:=fun a ha=>by
  obtain ⟨i,hi,e⟩:=List.mem_iff_getElem.mp ha
  rw [List.getElem_take] at e
  rw [List.length_take] at hi
  refine Zcy hr i a (by omega) ?_
  rw [← Array.getElem?_toList,List.getElem?_eq_getElem (by omega),e]
 have hd:∀ a∈xs.toList.drop (SetTable.below xs j),j < a:=fun a ha=>by
  obtain ⟨i,hi,e⟩:=List.mem_iff_getElem.mp ha
  rw [List.getElem_drop] at e
  rw [List.length_drop] at hi
  have ea:xs[SetTable.below xs j + i]?=some a:=by rw [← Array.getElem?_toList,List.getElem?_eq_getElem (by omega),e]
  have h1:=O9 (j:=j) hr _ a (by omega) ea
  rcases Nat.lt_or_ge j a with z | z
  ·exact z
  ·have:a=j:=by omega
   subst this
   cases i with
   | zero=>exact absurd ea hn
   | succ i =>
    have hb:SetTable.below xs a < xs.size:=by rw [Array.length_toList] at hi; omega
    have eb:=Array.getElem?_eq_getElem hb
    have h2:=O9 hr _ _ (Nat.le_refl _) eb
    have h3:=Q4 hr eb ea (by omega)
    omega
 refine ⟨hr'.sublist (List.take_sublist ..),?_,fun a ha b hb=>?_⟩
 ·rw [List.pairwise_cons]
  exact ⟨hd,hr'.sublist (List.drop_sublist ..)⟩
 ·rcases List.mem_cons.mp hb with rfl | hb
  ·exact ht a ha
  ·exact Nat.lt_trans (ht a ha) (hd b hb)
noncomputable def Gd (t:SetTable) (j:Nat):Prop:=t.place[SetTable.below t.place j]?≠some j
theorem G0 {t:SetTable} {j:Nat} (h:∀ i,t.slot j≠.live i):Gd t j:=by
 intro e
 unfold SetTable.slot at h
 refine h (SetTable.below t.place j) ?_
 dsimp only
 rw [if_pos (by rw [e]; exact beq_self_eq_true _)]
theorem Vp {t:SetTable} {ha:Nat→Int} {h:Int}:∀ (fuel:Nat) (p:SetTable.Probe) (j:Nat) (d:Option Nat),SetTable.probe.go t ha h fuel p=some (.empty j d)→(∀ e,p.dummy=some e→Gd t e)→Gd t j∧∀ e,d=some e→Gd t e
 | 0,p,j,d,e,hp=>by unfold SetTable.probe.go at e; cases e
 | fuel + 1,p,j,d,e,hp=>by
  unfold SetTable.probe.go at e
  cases c:t.slot p.j with
  | empty =>
   rw [c] at e
   cases e
   exact ⟨G0 (fun i z=>by rw [c] at z; cases z),hp⟩
  | dummy =>
   rw [c] at e
   refine Vp fuel _ j d e fun x hx=>?_
   have adv:∀ q:SetTable.Probe,(t.advance q).dummy=q.dummy:=fun q=>by unfold SetTable.advance; split <;> rfl
   rw [adv] at hx
   cases hx
   exact G0 fun i z=>by rw [c] at z; cases z
  | live i =>
   rw [c] at e
   dsimp only at e
   split at e
   ·cases e
   ·refine Vp fuel _ j d e fun x hx=>?_
    have adv:∀ q:SetTable.Probe,(t.advance q).dummy=q.dummy:=fun q=>by unfold SetTable.advance; split <;> rfl
    rw [adv] at hx
    exact hp x hx
theorem Jw (n:Nat):Rise (Array.range n).toList:=by
 unfold Rise
 rw [Array.toList_range]
 exact List.pairwise_lt_range
theorem Zdp {t:SetTable} (es:Array (Int × Value)) (h:Int) (x:Value) (hr:Rise t.place.toList):Rise (layNew t es h x).2.1.place.toList∧(layNew t es h x).2.1.led=t.led:=by
 unfold layNew
 split
 ·rename_i slot wd e
  have hf:Gd t slot:=by
   unfold SetTable.freeSlot SetTable.probe at e
   split at e
   ·rename_i j d ep
    obtain ⟨h1,h2⟩:=Vp _ _ j d ep (fun e he=>by unfold SetTable.probeStart at he; cases he)
    cases d with
    | none=>cases e; exact h1
    | some q=>cases e; exact h2 q rfl
   ·cases e
  dsimp only
  unfold SetTable.orStandIn
  split
  ·exact ⟨Zdd hr hf,rfl⟩
  ·exact ⟨Jw _,rfl⟩
 ·exact ⟨Jw _,rfl⟩
theorem Zhz (f:Nat→Option Nat) (n:Nat):Rise (((List.range n).filterMap fun j=>(f j).map (j,·)).map (·.1)):=by
 have e:∀ l:List Nat,(l.filterMap fun j=>(f j).map (j,·)).map (·.1)=l.filter fun j=>(f j).isSome:=fun l=>by
  induction l with
  | nil=>rfl
  | cons a l ih =>
   cases c:f a with
   | none=>rw [List.filterMap_cons_none (by rw [c]; rfl),List.filter_cons_of_neg (by rw [c]; decide),ih]
   | some b=>rw [List.filterMap_cons_some (b:=(a,b)) (by rw [c]; rfl),List.filter_cons_of_pos (by rw [c]; rfl),List.map_cons,ih]
 unfold Rise
 rw [e]
 exact List.pairwise_lt_range.filter _
theorem F4 (t:SetTable) (es:Array (Int × Value)) (n:Nat):Rise (relayAll t es n).2.1.place.toList∧(relayAll t es n).2.1.led=t.led:=by
 unfold relayAll
 split
 ·rename_i t' order e
  dsimp only
  split
  ·unfold SetTable.relaid SetTable.laid at e
   cases c:SetTable.layClean (SetTable.sizeAbove n - 1) (es.map (·.1)) with
   | none=>rw [c] at e; cases e
   | some owner =>
    rw [c] at e
    have e:_=some (t',order):=e
    simp only [Option.pure_def,Option.bind_eq_bind,Option.bind_some,Option.some.injEq,Prod.mk.injEq] at e
    obtain ⟨rfl,_⟩:=e
    exact ⟨Zhz (fun j=>owner.getD j none) _,rfl⟩
  ·exact ⟨Jw _,rfl⟩
 ·exact ⟨Jw _,rfl⟩
end L2
set_option maxHeartbeats 4000000
namespace L2
open PySem PySem.Spec PyProof.Rows
noncomputable def WSet (P:Program) (w:World) (h:Heap) (a:Addr) (ks:List Int):Prop :=
 ∃ (o:Obj) (es:Array (Int × Value)) (ep:Nat) (t:SetTable) (ks':List Int),h.get? a=some o∧o.ExactSet∧o.data=.set es ep t∧ElemsOf (intKind P w) es.toList∧IntsAre (es.toList.map (·.2)) ks'∧ks'.Perm ks ∧
  es.size < scanBound∧t.fits es.size=true∧Rise t.place.toList∧(w.params.followText "set-order"=true∨t.led=true)
theorem Uw {k:Int}:∀ {es:List (Int × Value)} {ks:List Int},IntsAre (es.map (·.2)) ks→((∃ e∈es,Value.isInt k e.2=true) ↔ k∈ks)
 | [],ks,h=>by
  cases h
  refine ⟨fun zz32=>?_,fun hk=>absurd hk List.not_mem_nil⟩
  obtain ⟨e,he,_⟩:=zz32
  exact absurd he List.not_mem_nil
 | (hh,v) :: es,ks,h=>by
  have h:IntsAre (v :: es.map (·.2)) ks:=h
  cases h with
  | @cons _ ns n t hr =>
   have ih:=Uw (k:=k) hr
   constructor
   ·rintro ⟨e,he,hi⟩
    rcases List.mem_cons.mp he with rfl | he
    ·obtain ⟨t',e'⟩:=Value.isInt_shape hi
     cases e'
     exact List.mem_cons_self
    ·exact List.mem_cons_of_mem _ (ih.mp ⟨e,he,hi⟩)
   ·intro hk
    rcases List.mem_cons.mp hk with rfl | hk
    ·exact ⟨_,List.mem_cons_self,by simp [Value.isInt]⟩
    ·obtain ⟨e,he,hi⟩:=ih.mpr hk
     exact ⟨e,List.mem_cons_of_mem _ he,hi⟩
theorem Qv:∀ {us vs:List Value},us.Perm vs→∀ {ks:List Int},IntsAre vs ks→∃ ks',IntsAre us ks'∧ks'.Perm ks:=by
 intro us vs p
 induction p with
 | nil=>intro ks h; exact ⟨ks,h,.refl _⟩
 | cons x p ih =>
  intro ks h
  cases h with
  | cons n t hr =>
   obtain ⟨ks',h1,h2⟩:=ih hr
   exact ⟨n :: ks',.cons n t h1,h2.cons n⟩
 | swap x y l =>
  intro ks h
  cases h with
  | cons n t hr =>
   cases hr with
   | cons m u hr=>exact ⟨m :: n :: _,.cons m u (.cons n t hr),.swap n m _⟩
 | trans p q ihp ihq =>
  intro ks h
  obtain ⟨k1,h1,h2⟩:=ihq h
  obtain ⟨k2,h3,h4⟩:=ihp h1
  exact ⟨k2,h3,h4.trans h2⟩
theorem Fi:∀ {vs:List Value} {ks:List Int},IntsAre vs ks→∀ (n:Int) (t:Tok),IntsAre (vs ++ [.int n t]) (ks ++ [n])
 | _,_,.nil,n,t=>.cons n t .nil
 | _,_,.cons m u h,n,t=>.cons m u (Fi h n t)
section
variable {P:Program} {w:World} {A:Around} {E:Value→Shared→Prop} {s:Shared}
theorem WSet.lt {h:Heap} {a:Addr} {ks:List Int} (x:WSet P w h a ks):a < h.objs.size:=by obtain ⟨o,_,_,_,_,ho,_⟩:=x; exact Heap.lt_size ho
theorem WSet.kept {h h':Heap} {a:Addr} {ks:List Int} (x:WSet P w h a ks) (k:∀ o,h.get? a=some o→h'.get? a=some o):WSet P w h' a ks:=by
 obtain ⟨o,es,ep,t,ks',ho,r⟩:=x; exact ⟨o,es,ep,t,ks',k _ ho,r⟩
theorem Zak {h:Heap} {a:Addr} {o:Obj} {es:Array (Int × Value)} {ep:Nat} {t:SetTable} (ho:h.get? a=some o) (hd:o.data=.set es ep t) (es':Array (Int × Value)) (t':SetTable) :
  (h.update a (Obj.putSet es' t')).get? a=some { o with data:=.set es' (ep + 1) t' }:=by
 have q:=putSet_of es' t' hd
 rw [← q]
 exact Heap.get?_update_self _ ho (by rw [q]; rfl)
theorem Zal {a:Addr} {k:Int} {tk:Tok} {ks:List Int} {Q:Bool→Shared→Prop} (hS:WSet P w s.heap a ks) (room:ks.length + 1 < scanBound)
  (h:∀ h',Heap.SameBut a s.heap h'→WSet P w h' a (step_dedup ks k)→Q (!ks.any (· == k)) { s with heap:=h' }) :
  wpAny (model P w) A (setAddHashed a (.int k tk) ((intKind P w).hash k)) Q E s:=by
 obtain ⟨o,es,ep,t,ns,ho,ex,od,el,hI,pm,lt,ft,rs,ld⟩:=id hS
 have ik:(intKind P w).is k (.int k tk)=true:=intKind_is _ _ _ _
 have hmem:=(Uw (k:=k) hI).trans pm.mem_iff
 have sz:es.size=ks.length:=by rw [← pm.length_eq,← hI.length,List.length_map,Array.length_toList]
 have fin:∀ (b:Bool) {s₁:Shared} {R:Unit→Shared→Prop},R () s₁→wpAny (model P w) A (match b with | true=>rule "set.scan.the-table-gave-way" | false=>pure ()) R E s₁:=fun b s₁ R q=>by
  cases b
  ·exact wpAny_pure q
  ·exact wpAny_rule q
 unfold setAddHashed setAddHashedIn; refine wpAny_holding ?_
 refine wpAny_bind (wpAny_setState_of ho od ft ?_)
 dsimp only
 rw [byScan_of (x:=.int k tk) rfl lt el,if_pos rfl]
 unfold setAddByScan; refine wpAny_bind (wpAny_bind (wpAny_rule (wpAny_bind (wpAny_setScan_of ik ho od ft el ?_))))
 cases c:List.findIdx? (fun e=>(intKind P w).is k e.2) es.toList with
 | some j =>
  obtain ⟨hj,pj,_⟩:=List.findIdx?_eq_some_iff_getElem.mp c
  have yes:ks.any (· == k)=true:=List.any_eq_true.mpr ⟨k,hmem.mp ⟨es.toList[j],List.getElem_mem hj,pj⟩,beq_self_eq_true _⟩
  have z:=h s.heap (Heap.SameBut.refl a s.heap) (by unfold step_dedup; rw [if_pos yes]; exact hS)
  rw [yes] at z
  exact wpAny_pure (wpAny_pure z)
 | none =>
  have no:ks.any (· == k)=false:=by
   rw [List.any_eq_false]
   intro x hx z
   obtain ⟨e,he,hi⟩:=hmem.mpr (show k∈ks by rw [← (beq_iff_eq.mp z)]; exact hx)
   exact absurd (show (intKind P w).is k e.2=true from hi) (by rw [List.findIdx?_eq_none_iff.mp c e he]; decide)
  rw [no,show step_dedup ks k=ks ++ [k] by unfold step_dedup; rw [no]; rfl] at h
  have g1:=layNew_perm t es ((intKind P w).hash k) (.int k tk)
  have g2:=layNew_fits t es ((intKind P w).hash k) (.int k tk)
  have g3:=Zdp es ((intKind P w).hash k) (.int k tk) rs
  dsimp only
  generalize layNew t es ((intKind P w).hash k) (.int k tk)=lay at g1 g2 g3 ⊢
  obtain ⟨es1,t1,du,gv⟩:=lay
  dsimp only at g1 g2 g3 ⊢
  have p1:es1.toList.Perm (es.toList ++ [((intKind P w).hash k,Value.int k tk)]):=by rw [← Array.toList_push]; exact g1
  have el1:=(el.push ik rfl).perm p1
  have lt1:es1.size < scanBound:=by
   have:=p1.length_eq
   rw [List.length_append,Array.length_toList,Array.length_toList,List.length_singleton] at this
   omega
  have ld1:w.params.followText "set-order"=true∨t1.led=true:=by rw [g3.2]; exact ld
  obtain ⟨n1,i1,i2⟩:=Qv (p1.map (·.2)) (show IntsAre ((es.toList ++ [((intKind P w).hash k,Value.int k tk)]).map (·.2)) (ns ++ [k]) by rw [List.map_append]; exact Fi hI k tk)
  replace i2:=i2.trans (pm.append_right [k])
  refine wpAny_bind (fin _ ?_)
  rw [hashByValue_scannable 8 (x:=.int k tk) rfl,show plainKind (.int k tk)=true from rfl,ite_self]
  refine wpAny_bind (wpAny_pure ?_)
  try rw [if_pos rfl]
  refine wpAny_bind (wpAny_storeSet_of ho od ?_ (fits_of_scanBound lt1))
  have o1:=Zak ho od es1 t1
  have s1:=Heap.SameBut.update s.heap a (Obj.putSet es1 t1)
  split
  ·have q1:=relayAll_perm t1 es1 (SetTable.grown es1.size)
   have q2:=relayAll_fits t1 es1 (SetTable.grown es1.size)
   have q3:=F4 t1 es1 (SetTable.grown es1.size)
   generalize relayAll t1 es1 (SetTable.grown es1.size)=rl at q1 q2 q3 ⊢
   obtain ⟨es2,t2,g2⟩:=rl
   dsimp only at q1 q2 q3 ⊢
   have lt2:es2.size < scanBound:=by rw [← Array.length_toList,q1.length_eq,Array.length_toList]; exact lt1
   obtain ⟨n2,j1,j2⟩:=Qv (q1.map (·.2)) i1
   refine wpAny_bind (fin _ (wpAny_bind (wpAny_storeSet_of o1 rfl ?_ (fits_of_scanBound lt2))))
   exact wpAny_pure (wpAny_pure (h _ (s1.trans (Heap.SameBut.update _ a _)) ⟨_,es2,_,t2,n2,Zak o1 rfl es2 t2,ex,rfl,el1.perm q1,j1,j2.trans i2,lt2,q2,q3.1,by rw [q3.2]; exact ld1⟩))
  ·exact wpAny_pure (wpAny_pure (h _ s1 ⟨_,es1,_,t1,n1,o1,ex,rfl,el1,i1,i2,lt1,g2,g3.1,ld1⟩))
end
end L2
set_option maxHeartbeats 4000000
namespace L2
open PySem PySem.Spec PyProof.Rows
section
variable {P:Program} {w:World} {A:Around} {E:Value→Shared→Prop} {s:Shared}
noncomputable def set0 (w:World):Obj:={ cls:=.type "set",dict:=none,data:=.set #[] 0 (.fresh 0 0 (!w.params.followText "set-order")) }
theorem Zmd {h:Heap} {a:Addr} (e:h.get? a=some (set0 w)):WSet P w h a []:=by
 refine ⟨_,#[],0,_,[],e,⟨rfl,rfl,rfl⟩,rfl,fun e he=>by simp at he,.nil,.refl _,by decide,by rfl,List.Pairwise.nil,?_⟩
 show w.params.followText "set-order"=true∨(!w.params.followText "set-order")=true
 cases w.params.followText "set-order"
 ·exact .inr rfl
 ·exact .inl rfl
variable {R:Result→Shared→Prop} {I:Addr} {fp wr:List Addr} {G:Array GenState→Array GenState→Prop} {n:Nat} {Pv:Nat→Value→Prop} {St:Nat→Shared→Prop}
end
end L2
set_option maxHeartbeats 4000000
namespace PySem.F
theorem sti_next:Slot "set_iterator" "__next__" "set_iterator.__next__" :=
 .of (owner:="set_iterator") (n:="__next__") (by rw [typeLookup_type,builtinLookup_eq_fast]; kernel_rfl) (by decide +kernel) (by decide +kernel) (by decide +kernel) (by first | exact .inl (by decide +kernel) | exact .inr (by decide +kernel)) (by rw [isSubtype_type]; kernel_rfl)
theorem sti_entry:entryFor table "set_iterator.__next__"=some Builtin.«set_iterator.__next__»:=entryFor_of_tree (by kernel_rfl)
theorem sti_args (a:Value):argsOk "set_iterator.__next__" ⟨[a],[]⟩:=by unfold argsOk; kernel_rfl
theorem st_iter_entry:entryFor table "set.__iter__"=some Builtin.«frozenset.__iter__»:=entryFor_alias (id':="frozenset.__iter__") (by kernel_rfl) rfl (by decide +kernel) (by kernel_rfl)
theorem sti_iter:Slot "set_iterator" "__iter__" "set_iterator.__iter__" :=
 .of (owner:="set_iterator") (n:="__iter__") (by rw [typeLookup_type,builtinLookup_eq_fast]; kernel_rfl) (by decide +kernel) (by decide +kernel) (by decide +kernel) (by first | exact .inl (by decide +kernel) | exact .inr (by decide +kernel)) (by rw [isSubtype_type]; kernel_rfl)
theorem sti_iter_entry:entryFor table "set_iterator.__iter__"=some Builtin.«dict_keyiterator.__iter__»:=entryFor_alias (id':="dict_keyiterator.__iter__") (by kernel_rfl) rfl (by decide +kernel) (by kernel_rfl)
theorem sti_iter_args (a:Value):argsOk "set_iterator.__iter__" ⟨[a],[]⟩:=by unfold argsOk; kernel_rfl
end PySem.F
namespace L2
open PySem PySem.Spec PyProof.Rows
theorem Vy {α:Type}:∀ {l:List α} {i:Nat} (hi:i < l.length),(l[i] :: l.eraseIdx i).Perm l
 | a :: l,0,_=>.refl _
 | a :: l,i + 1,hi=>(List.Perm.swap ..).trans ((Vy (l:=l) (Nat.lt_of_succ_lt_succ hi)).cons a)
theorem Zed {α:Type} {next:Nat→Nat}:∀ (fuel k:Nat) (left:List α) (out:Array α),left.length≤fuel→∃ r,(pickOrder.go next fuel k left out).toList=out.toList ++ r∧r.Perm left
 | 0,k,left,out,h=>by
  have:left=[]:=List.eq_nil_of_length_eq_zero (by omega)
  subst this
  exact ⟨[],by unfold pickOrder.go; simp,.nil⟩
 | fuel + 1,k,left,out,h=>by
  unfold pickOrder.go
  cases left with
  | nil=>exact ⟨[],by simp,.nil⟩
  | cons a l =>
   have hi:next k % (a :: l).length < (a :: l).length:=Nat.mod_lt _ (by simp)
   generalize next k % (a :: l).length=i at hi
   rw [List.getElem?_eq_getElem hi]
   dsimp only
   obtain ⟨r,h1,h2⟩:=Zed (next:=next) fuel (k + 1) ((a :: l).eraseIdx i) (out.push (a :: l)[i]) (by rw [List.length_eraseIdx_of_lt hi]; omega)
   refine ⟨(a :: l)[i] :: r,by rw [h1,Array.toList_push,List.append_assoc]; rfl,?_⟩
   exact (h2.cons _).trans (Vy hi)
theorem G8 {α:Type} (next:Nat→Nat) (xs:Array α):(pickOrder next xs).toList.Perm xs.toList:=by
 obtain ⟨r,h1,h2⟩:=Zed (next:=next) xs.size 0 xs.toList #[] (by simp)
 have:(pickOrder next xs).toList=r:=h1
 rw [this]
 exact h2
section
variable {P:Program} {w:World} {A:Around} {E:Value→Shared→Prop} {s:Shared}
theorem Zga {src:Source} {n:Nat} {Q:Nat→Shared→Prop} (hn:n≠0) (h:∀ i,i < n→Q i { s with drawn:=s.drawn.bump src }):wpAny (model P w) A (choose src n) Q E s:=fun _ _ _=>⟨hn,h _ (Nat.mod_lt _ (Nat.pos_of_ne_zero hn))⟩
theorem Fp {α:Type}:∀ (n:Nat) (l:List α) (s:Shared) (Q:List α→Shared→Prop),l.length≤n→(∀ r d',r.Perm l→Q r { s with drawn:=d' })→wpAny (model P w) A (drawOrder n l) Q E s
 | 0,l,s,Q,hl,h=>by
  have:l=[]:=List.eq_nil_of_length_eq_zero (by omega)
  subst this
  exact wpAny_pure (h [] s.drawn .nil)
 | n + 1,[],s,Q,hl,h=>wpAny_pure (h [] s.drawn .nil)
 | n + 1,a :: l,s,Q,hl,h=>by
  unfold drawOrder
  refine wpAny_bind (Zga (by simp) fun i hi=>?_)
  rw [List.getElem?_eq_getElem hi]
  refine wpAny_bind (Fp n _ _ _ (by rw [List.length_eraseIdx_of_lt hi]; omega) fun r d' pr=>wpAny_pure (h _ d' ?_))
  exact (pr.cons _).trans (Vy hi)
noncomputable def Xf (fst:Value) (i:Nat) (a:Addr) (n ep:Nat):Obj:={ cls:=.type "set_iterator",data:=.fields #[fst,.int i 0,.ref a,.int n 0,.int ep 0] }
theorem Zfj {h:Heap} {I a:Addr} {f g:Value} {i j n ep:Nat} (ho:h.get? I=some (Xf f i a n ep)) :
  ((h.update I (Obj.mapFields (·.setIfInBounds 0 g))).update I (Obj.mapFields (·.setIfInBounds 1 (.int j 0)))).get? I=some (Xf g j a n ep):=by
 have h1:=Heap.get?_update_self (Obj.mapFields (·.setIfInBounds 0 g)) ho rfl
 exact Heap.get?_update_self (Obj.mapFields (·.setIfInBounds 1 (.int j 0))) h1 rfl
theorem Zfk {h:Heap} {I a:Addr} {f:Value} {i j n ep:Nat} (ho:h.get? I=some (Xf f i a n ep)) :
  (h.update I (Obj.mapFields (·.setIfInBounds 1 (.int j 0)))).get? I=some (Xf f j a n ep):=Heap.get?_update_self (Obj.mapFields (·.setIfInBounds 1 (.int j 0))) ho rfl
theorem Zit {I a:Addr} {o:Obj} {es:Array (Int × Value)} {ep:Nat} {t:SetTable} {i sl sl':Nat} {x:Value} {Q:Option Value→Shared→Prop} (hI:s.heap.get? I=some (Xf (.int sl 0) i a es.size ep)) (ho:s.heap.get? a=some o) (hd:o.data=.set es ep t) (hf:t.fits es.size=true)
  (nx:∀ (B:Around) (F:Value→Shared→Prop) (R:Option (Value × Nat)→Shared→Prop),R (some (x,sl')) s→wpAny (model P w) B (setNext a sl i ep) R F s)
  (h:∀ h',h'.get? I=some (Xf (.int sl' 0) (i + 1) a es.size ep)→Heap.SameBut I s.heap h'→Q (some x) { s with heap:=h' }):wpAny (model P w) A (pyNext (.ref I)) Q E s:=by
 have hT:s.TypeIs (.ref I) "set_iterator":=⟨_,hI,rfl⟩
 unfold pyNext
 refine wpAny_bind (wpAny_attempt (wpAny_callSpecial?_slot (name:=Str.ofString "__next__") hT PySem.F.sti_next (wpAny_call_entry PySem.F.sti_next hT PySem.F.sti_entry ?_ (PySem.F.sti_args _))))
 unfold Builtin.«set_iterator.__next__»
 refine wpAny_bind (m:=slotArgs "__next__" 0 _) (wpAny_pure ?_)
 refine wpAny_bind (wpAny_fieldsOf hI rfl ?_)
 dsimp only
 refine wpAny_bind (wpAny_setEntries_of ho hd hf ?_)
 rw [if_neg (by simp)]
 refine wpAny_bind (nx _ _ _ ?_)
 refine wpAny_bind (wpAny_setField (x:=rawInt sl') hI rfl (by simp) ?_)
 have h1:=Heap.get?_update_self (Obj.mapFields (·.setIfInBounds 0 (rawInt sl'))) hI rfl
 refine wpAny_bind (wpAny_setField (x:=rawInt ((i:Int) + 1)) h1 rfl (by simp) ?_)
 exact wpAny_pure ⟨_,rfl,wpAny_pure (h _ (Zfj hI) ((Heap.SameBut.update ..).trans (Heap.SameBut.update ..)))⟩
theorem Zat {I:Addr} {ob:Obj} {vs:Array Value} {Q:Fin→Shared→Prop} (hh:A.handled=none) (hI:s.heap.get? I=some ob) (hd:ob.data=.fields vs) (hz:2 < vs.size) (h:∀ h' e,Heap.ExtBut I s.heap h'→(∃ o,h'.get? e=some o∧o.cls=.type "StopIteration")→E (.ref e) { s with heap:=h' }) :
  wpAny (model P w) A (do setField (.ref I) 2 .none; raiseNew (← newExc (.type "StopIteration") []):Sem Fin) Q E s:=by
 refine wpAny_bind (wpAny_setField hI hd hz ?_)
 simp only [newExc,newTuple]
 refine wpAny_bind (wpAny_bind (wpAny_newObj_type ?_ (by size_fits)))
 refine wpAny_bind (m:=firstArgMember _ _) (wpAny_of_eq (a:=Value.none) (by first | rfl | (simp only [firstArgMember]; rfl)) ?_)
 refine wpAny_newObj_type ?_ (by size_fits)
 refine wpAny_raiseNew_none hh (h _ _ (((Heap.SameBut.update ..).extBut.push _).push _) ⟨_,Heap.get?_push_size _ rfl,rfl⟩)
theorem Ziu {I a:Addr} {o:Obj} {es:Array (Int × Value)} {ep:Nat} {t:SetTable} {i sl:Nat} {Q:Option Value→Shared→Prop} (hh:A.handled=none) (hI:s.heap.get? I=some (Xf (.int sl 0) i a es.size ep)) (ho:s.heap.get? a=some o) (hd:o.data=.set es ep t) (hf:t.fits es.size=true)
  (nx:∀ (B:Around) (F:Value→Shared→Prop) (R:Option (Value × Nat)→Shared→Prop),R none s→wpAny (model P w) B (setNext a sl i ep) R F s)
  (h:∀ h',Heap.ExtBut I s.heap h'→Q none { s with heap:=h' }):wpAny (model P w) A (pyNext (.ref I)) Q E s:=by
 have hT:s.TypeIs (.ref I) "set_iterator":=⟨_,hI,rfl⟩
 unfold pyNext
 refine wpAny_bind (wpAny_attempt (wpAny_callSpecial?_slot (name:=Str.ofString "__next__") hT PySem.F.sti_next (wpAny_call_entry PySem.F.sti_next hT PySem.F.sti_entry ?_ (PySem.F.sti_args _))))
 unfold Builtin.«set_iterator.__next__»
 refine wpAny_bind (m:=slotArgs "__next__" 0 _) (wpAny_pure ?_)
 refine wpAny_bind (wpAny_fieldsOf hI rfl ?_)
 dsimp only
 refine wpAny_bind (wpAny_setEntries_of ho hd hf ?_)
 rw [if_neg (by simp)]
 refine wpAny_bind (nx _ _ _ ?_)
 dsimp only
 refine Zat (A:=A.in1) hh hI rfl (by simp) fun h' e ex zz9=>?_
 obtain ⟨ob,he,hc⟩:=zz9
 refine wpAny_bind (wpAny_isInstance (T:="StopIteration") (b:=true) ⟨ob,he,hc⟩ isSubtype_stop ?_)
 exact wpAny_pure (h _ ex)
theorem Ziv {I a T:Addr} {o:Obj} {es:Array (Int × Value)} {ep:Nat} {t:SetTable} {i p:Nat} {ob:Obj} {ps:Array Value} {c:Nat} {tk:Tok} {e:Int × Value} {Q:Option Value→Shared→Prop} (hI:s.heap.get? I=some (Xf (.ref T) i a es.size ep)) (ho:s.heap.get? a=some o) (hd:o.data=.set es ep t) (hf:t.fits es.size=true)
  (hT:s.heap.get? T=some ob) (hob:ob.data=.seq ps c) (hp:ps[i]?=some (.int p tk)) (he:es[p]?=some e)
  (h:∀ h',h'.get? I=some (Xf (.ref T) (i + 1) a es.size ep)→Heap.SameBut I s.heap h'→Q (some e.2) { s with heap:=h' }):wpAny (model P w) A (pyNext (.ref I)) Q E s:=by
 have hTy:s.TypeIs (.ref I) "set_iterator":=⟨_,hI,rfl⟩
 unfold pyNext
 refine wpAny_bind (wpAny_attempt (wpAny_callSpecial?_slot (name:=Str.ofString "__next__") hTy PySem.F.sti_next (wpAny_call_entry PySem.F.sti_next hTy PySem.F.sti_entry ?_ (PySem.F.sti_args _))))
 unfold Builtin.«set_iterator.__next__»
 refine wpAny_bind (m:=slotArgs "__next__" 0 _) (wpAny_pure ?_)
 refine wpAny_bind (wpAny_fieldsOf hI rfl ?_)
 dsimp only
 refine wpAny_bind (wpAny_setEntries_of ho hd hf ?_)
 rw [if_neg (by simp)]
 refine wpAny_bind (wpAny_seqItems hT hob ?_)
 dsimp only
 rw [show ((i:Int)).toNat=i from Int.toNat_natCast i,hp]
 dsimp only
 refine wpAny_bind ?_
 unfold setNextDrawn
 refine wpAny_bind (wpAny_setState_of ho hd hf ?_)
 dsimp only
 rw [if_neg (by simp),show ((p:Int)).toNat=p from Int.toNat_natCast p,he]
 refine wpAny_pure ?_
 refine wpAny_bind (wpAny_setField (x:=rawInt ((i:Int) + 1)) hI rfl (by simp) ?_)
 exact wpAny_pure ⟨_,rfl,wpAny_pure (h _ (Zfk hI) (Heap.SameBut.update ..))⟩
theorem Ziw {I a T:Addr} {o:Obj} {es:Array (Int × Value)} {ep:Nat} {t:SetTable} {i:Nat} {ob:Obj} {ps:Array Value} {c:Nat} {Q:Option Value→Shared→Prop} (hh:A.handled=none) (hI:s.heap.get? I=some (Xf (.ref T) i a es.size ep)) (ho:s.heap.get? a=some o) (hd:o.data=.set es ep t) (hf:t.fits es.size=true)
  (hT:s.heap.get? T=some ob) (hob:ob.data=.seq ps c) (hp:ps[i]?=none)
  (h:∀ h',Heap.ExtBut I s.heap h'→Q none { s with heap:=h' }):wpAny (model P w) A (pyNext (.ref I)) Q E s:=by
 have hTy:s.TypeIs (.ref I) "set_iterator":=⟨_,hI,rfl⟩
 unfold pyNext
 refine wpAny_bind (wpAny_attempt (wpAny_callSpecial?_slot (name:=Str.ofString "__next__") hTy PySem.F.sti_next (wpAny_call_entry PySem.F.sti_next hTy PySem.F.sti_entry ?_ (PySem.F.sti_args _))))
 unfold Builtin.«set_iterator.__next__»
 refine wpAny_bind (m:=slotArgs "__next__" 0 _) (wpAny_pure ?_)
 refine wpAny_bind (wpAny_fieldsOf hI rfl ?_)
 dsimp only
 refine wpAny_bind (wpAny_setEntries_of ho hd hf ?_)
 rw [if_neg (by simp)]
 refine wpAny_bind (wpAny_seqItems hT hob ?_)
 dsimp only
 rw [show ((i:Int)).toNat=i from Int.toNat_natCast i,hp]
 dsimp only
 refine wpAny_bind (wpAny_setField (x:=rawInt 0) hI rfl (by simp) ?_)
 have h1:=Heap.get?_update_self (Obj.mapFields (·.setIfInBounds 0 (rawInt 0))) hI rfl
 refine Zat (s:={ s with heap:=s.heap.update I (Obj.mapFields (·.setIfInBounds 0 (rawInt 0))) }) (A:=A.in1) hh h1 rfl (by simp) fun h' e ex zz9=>?_
 obtain ⟨ob,he,hc⟩:=zz9
 refine wpAny_bind (wpAny_isInstance (T:="StopIteration") (b:=true) ⟨ob,he,hc⟩ isSubtype_stop ?_)
 exact wpAny_pure (h _ fun b u hb hu=>ex b u hb ((Heap.get?_update_other _ _ (Ne.symm hb)).trans hu))
theorem Zau {I a:Addr} {f:Value} {i n ep:Nat} {Q:Value→Shared→Prop} (hI:s.heap.get? I=some (Xf f i a n ep)) (h:Q (.ref I) s):wpAny (model P w) A (pyIter (.ref I)) Q E s:=by
 have hT:s.TypeIs (.ref I) "set_iterator":=⟨_,hI,rfl⟩
 refine wpAny_pyIter_slot hT PySem.F.sti_iter (wpAny_call_entry PySem.F.sti_iter hT PySem.F.sti_iter_entry ?_ (PySem.F.sti_iter_args _))
 exact wpAny_pure ⟨_,rfl,"set_iterator",_,hT,PySem.F.sti_next.lookup,h⟩
theorem Zhs {a:Addr} {o:Obj} {es:Array (Int × Value)} {ep:Nat} {t:SetTable} {i sl:Nat} {R:Option (Value × Nat)→Shared→Prop} (ho:s.heap.get? a=some o) (hd:o.data=.set es ep t) (hf:t.fits es.size=true) (hb:w.params.followText "set-order"=true)
  (h:R (((pickOrder (w.params.setOrder a ep) es)[i]?).map fun e=>(e.2,sl)) s):wpAny (model P w) A (setNext a sl i ep) R E s:=by
 unfold setNext setsByText
 refine wpAny_bind (wpAny_setState_of ho hd hf ?_)
 dsimp only
 refine wpAny_bind (wpAny_bind (wpAny_askSetting (wpAny_pure ?_)))
 show wpAny _ _ (if w.params.followText "set-order"=true then _ else _) _ _ _
 rw [if_pos hb,if_neg (by simp)]
 unfold setWalk setsByText
 refine wpAny_bind (wpAny_bind (wpAny_setState_of ho hd hf ?_))
 dsimp only
 refine wpAny_bind (wpAny_bind (wpAny_askSetting (wpAny_pure ?_)))
 show wpAny _ _ (if w.params.followText "set-order"=true then _ else _) _ _ _
 rw [if_pos hb]
 exact wpAny_bind (wpAny_askSetting (wpAny_pure (wpAny_pure h)))
theorem Zfw {a:Addr} {o:Obj} {es:Array (Int × Value)} {ep:Nat} {t:SetTable} {i sl:Nat} {R:Option (Value × Nat)→Shared→Prop} (ho:s.heap.get? a=some o) (hd:o.data=.set es ep t) (hf:t.fits es.size=true) (hb:w.params.followText "set-order"=false) (hl:t.led=true) (hp:(!t.plain && decide (es.size > 1))=false)
  (h:R (match es[SetTable.below t.place sl]?,t.place[SetTable.below t.place sl]? with | some (_,x),some j=>some (x,j + 1) | _,_=>none) s):wpAny (model P w) A (setNext a sl i ep) R E s:=by
 unfold setNext setsByText
 refine wpAny_bind (wpAny_setState_of ho hd hf ?_)
 dsimp only
 refine wpAny_bind (wpAny_bind (wpAny_askSetting (wpAny_pure ?_)))
 show wpAny _ _ (if w.params.followText "set-order"=true then _ else _) _ _ _
 rw [if_neg (by rw [hb]; decide)]
 show wpAny _ _ (if (!t.plain && decide (es.size > 1))=true then _ else _) _ _ _
 rw [if_neg (by rw [hp]; decide)]
 refine wpAny_bind ?_
 show wpAny _ _ (if (!t.led && !es.isEmpty)=true then _ else _) _ _ _
 rw [if_neg (by rw [hl]; simp)]
 exact wpAny_pure (wpAny_pure h)
end
end L2
set_option maxHeartbeats 4000000
namespace L2
open PySem PySem.Spec PyProof.Rows
theorem Zes:∀ {vs:List Value} {ks:List Int},IntsAre vs ks→∀ (i:Nat) (v:Value),vs[i]?=some v→∃ t,v=.int (ks.getD i 0) t:=fun h i v e=>PyProof.Rows.IntsAre.int_at h i v e
section
variable {P:Program} {w:World} {A:Around} {E:Value→Shared→Prop} {s:Shared}
theorem Gx (hh:A.handled=none) {I a:Addr} (hne:a≠I) {o:Obj} {es:Array (Int × Value)} {ep:Nat} {t:SetTable} {out:List Int} {sl:Nat→Nat} {xs:List Value} (hd:o.data=.set es ep t) (hf:t.fits es.size=true) (hx:IntsAre xs out) (hl:xs.length=es.size)
  (nx:∀ (i:Nat) (s:Shared) (B:Around) (F:Value→Shared→Prop) (R:Option (Value × Nat)→Shared→Prop),s.heap.get? a=some o→i≤es.size→R ((xs[i]?).map fun x=>(x,sl (i + 1))) s→wpAny (model P w) B (setNext a (sl i) i ep) R F s) :
  Walks P w A I [I,a] [I] out.length (fun i v=>∃ t,v=.int (out.getD i 0) t) (fun i h=>h.get? I=some (Xf (.int (sl i) 0) i a es.size ep)∧h.get? a=some o):=by
 have hlo:out.length=es.size:=by rw [← hl]; exact hx.length.symm
 refine ⟨fun b hb=>by simp at hb; simp [hb],fun i h h' st k=>⟨k I (by simp) _ st.1,k a (by simp) _ st.2⟩,fun i s Q E hi st hQ=>?_,fun s Q E st hQ=>?_,fun i s Q E st hQ=>Zau st.1 hQ⟩
 ·have hi':i < xs.length:=by omega
  have ex:=List.getElem?_eq_getElem hi'
  refine Zit (x:=xs[i]) (sl':=sl (i + 1)) st.1 st.2 hd hf (fun B F R r=>nx i s B F R st.2 (by omega) (by rw [ex]; exact r)) fun h' e sb=>?_
  exact hQ _ h' s.toks (Zes hx i _ ex) ⟨e,(sb.2 a hne).trans st.2⟩ fun b u hb hu=>(sb.2 b (fun z=>hb (by simp [z]))).trans hu
 ·rw [hlo] at st
  refine Ziu hh st.1 st.2 hd hf (fun B F R r=>nx es.size s B F R st.2 (Nat.le_refl _) (by rw [List.getElem?_eq_none (by omega)]; exact r)) fun h' ex=>?_
  exact hQ h' s.toks fun b u hb hu=>ex b u (fun z=>hb (by simp [z])) hu
theorem Zc1 (hh:A.handled=none) {I a T:Addr} (hne:a≠I) (hTI:T≠I) {o ob:Obj} {es:Array (Int × Value)} {ep c:Nat} {t:SetTable} {out:List Int} {xs:List Value} {ps:List Nat} (hd:o.data=.set es ep t) (hf:t.fits es.size=true) (hx:IntsAre xs out) (hob:ob.data=.seq (ps.map fun (p:Nat)=>rawInt p).toArray c)
  (hp:∀ (i p:Nat),ps[i]?=some p→∃ e,es[p]?=some e∧xs[i]?=some e.2) (hl:xs.length=ps.length) :
  Walks P w A I [I,a,T] [I] out.length (fun i v=>∃ t,v=.int (out.getD i 0) t) (fun i h=>h.get? I=some (Xf (.ref T) i a es.size ep)∧h.get? a=some o∧h.get? T=some ob):=by
 have hlo:out.length=ps.length:=by rw [← hl]; exact hx.length.symm
 refine ⟨fun b hb=>by simp at hb; simp [hb],fun i h h' st k=>⟨k I (by simp) _ st.1,k a (by simp) _ st.2.1,k T (by simp) _ st.2.2⟩,fun i s Q E hi st hQ=>?_,fun s Q E st hQ=>?_,fun i s Q E st hQ=>Zau st.1 hQ⟩
 ·have ep':=List.getElem?_eq_getElem (show i < ps.length by omega)
  obtain ⟨e,he,hxi⟩:=hp i _ ep'
  refine Ziv (p:=ps[i]) (tk:=0) (e:=e) st.1 st.2.1 hd hf st.2.2 hob (by rw [List.getElem?_toArray,List.getElem?_map,ep']; rfl) he fun h' eI sb=>?_
  exact hQ _ h' s.toks (Zes hx i _ hxi) ⟨eI,(sb.2 a hne).trans st.2.1,(sb.2 T hTI).trans st.2.2⟩ fun b u hb hu=>(sb.2 b (fun z=>hb (by simp [z]))).trans hu
 ·refine Ziw hh st.1 st.2.1 hd hf st.2.2 hob (by rw [List.getElem?_toArray,List.getElem?_map,List.getElem?_eq_none (by omega)]; rfl) fun h' ex=>?_
  exact hQ h' s.toks fun b u hb hu=>ex b u (fun z=>hb (by simp [z])) hu
theorem Zjy (hh:A.handled=none) {a:Addr} {ks:List Int} {Q:Value→Shared→Prop} (hS:WSet P w s.heap a ks)
  (h:∀ (I:Addr) (h1:Heap) (d1:Drawn) (fp:List Addr) (out:List Int) (St:Nat→Heap→Prop),out.Perm ks→(∀ b o,s.heap.get? b=some o→h1.get? b=some o)→s.heap.objs.size≤I→(∀ b∈fp,b=a∨s.heap.objs.size≤b) →
   Walks P w A I fp [I] out.length (fun i v=>∃ t,v=.int (out.getD i 0) t) St→St 0 h1→Q (.ref I) { s with heap:=h1,drawn:=d1 }) :
  wpAny (model P w) A (pyIter (.ref a)) Q E s:=by
 obtain ⟨o,es,ep,t,ns,ho,ex,hd,el,hI,pm,lt,ft,rs,ld⟩:=hS
 have hT:s.TypeIs (.ref a) "set":=⟨o,ho,ex.1⟩
 have la:a < s.heap.objs.size:=Heap.lt_size ho
 have hne:a≠s.heap.objs.size:=Nat.ne_of_lt la
 have hsz:es.toList.map (·.2)=(es.map (·.2)).toList:=by simp
 have hps:t.place.size=es.size:=by
  simp only [SetTable.fits,Bool.and_eq_true,beq_iff_eq] at ft
  exact ft.1
 refine wpAny_pyIter_slot hT PySem.F.slot_set_iter (wpAny_call_entry PySem.F.slot_set_iter hT PySem.F.st_iter_entry ?_ (PySem.F.args_set_iter_1 _))
 unfold Builtin.«frozenset.__iter__» Builtin.Frozenset.slot0 Builtin.Frozenset.sizeOf
 refine wpAny_bind (wpAny_bind (m:=slotArgs "__iter__" 0 _) (wpAny_pure (wpAny_pure ?_)))
 refine wpAny_bind (wpAny_bind (wpAny_setEntries_of ho hd ft (wpAny_pure ?_)))
 unfold setDrawn setsByText
 refine wpAny_bind (wpAny_bind (wpAny_setState_of ho hd ft ?_))
 dsimp only
 refine wpAny_bind (wpAny_bind (wpAny_askSetting (wpAny_pure (wpAny_pure ?_))))
 have plainNew:(!w.params.followText "set-order" && (!t.plain && decide (es.size > 1)))=false→wpAny (model P w) A.in1 (do
   let first ← pure (rawInt 0)
   ret (← newFields "set_iterator" [first,rawInt 0,.ref a,rawInt es.size,rawInt (← setEpoch a)])) (fun fin s'=>∃ r,fin=.done (.ret r)∧∃ T' r',s'.TypeIs r T'∧typeLookup (.type T') "__next__"=pure (some r')∧Q r s') E s:=by
  intro nd
  refine wpAny_bind (wpAny_pure (wpAny_bind (wpAny_setEpoch_of ho hd ft ?_)))
  unfold newFields
  refine wpAny_bind (wpAny_newObj_type (wpAny_pure ⟨_,rfl,"set_iterator",_,⟨_,Heap.get?_push_size _ rfl,rfl⟩,PySem.F.sti_next.lookup,?_⟩))
  have e0:(s.heap.push { cls:=.type "set_iterator",data:=.fields [rawInt 0,rawInt 0,.ref a,rawInt es.size,rawInt ep].toArray }).get? s.heap.objs.size=some (Xf (.int 0 0) 0 a es.size ep):=Heap.get?_push_size _ rfl
  cases c:w.params.followText "set-order" with
  | true =>
   obtain ⟨k2,j1,j2⟩:=Qv ((G8 (w.params.setOrder a ep) es).map (·.2)) hI
   refine h _ _ s.drawn [s.heap.objs.size,a] k2 _ (j2.trans pm) (fun b u hu=>Heap.get?_push_of_some _ hu) (Nat.le_refl _) (fun b hb=>?_) (Gx (sl:=fun _=>0) hh hne hd ft j1 ?_ fun i s B F R hs hi r=>Zhs hs hd ft c ?_) ⟨e0,Heap.get?_push_of_some _ ho⟩
   ·rcases List.mem_cons.mp hb with rfl | hb
    ·exact .inr (Nat.le_refl _)
    ·exact .inl (List.mem_singleton.mp hb)
   ·rw [List.length_map,(G8 (w.params.setOrder a ep) es).length_eq,Array.length_toList]
   ·rw [List.getElem?_map,Array.getElem?_toList,Option.map_map] at r
    exact r
  | false =>
   rw [c] at nd ld
   have nd:(!t.plain && decide (es.size > 1))=false:=nd
   have ld:t.led=true:=ld.resolve_left (by decide)
   refine h _ _ s.drawn [s.heap.objs.size,a] ns _ pm (fun b u hu=>Heap.get?_push_of_some _ hu) (Nat.le_refl _) (fun b hb=>?_) (Gx (sl:=fun i=>if i=0 then 0 else (t.place.getD (i - 1) 0) + 1) hh hne hd ft hI (by rw [List.length_map,Array.length_toList]) fun i s B F R hs hi r=>Zfw hs hd ft c ld nd ?_) ⟨e0,Heap.get?_push_of_some _ ho⟩
   ·rcases List.mem_cons.mp hb with rfl | hb
    ·exact .inr (Nat.le_refl _)
    ·exact .inl (List.mem_singleton.mp hb)
   ·-- the place below is i
    have hb:SetTable.below t.place (if i=0 then 0 else (t.place.getD (i - 1) 0) + 1)=i∨(es.size≤SetTable.below t.place (if i=0 then 0 else (t.place.getD (i - 1) 0) + 1)∧i=es.size):=by
     generalize hj:(if i=0 then 0 else (t.place.getD (i - 1) 0) + 1)=j
     have ge:∀ k,k < i→∀ x,t.place[k]?=some x→x < j:=fun k hk x hx=>by
      rw [if_neg (by omega)] at hj
      have e1:=Array.getElem?_eq_getElem (show i - 1 < t.place.size by omega)
      have e2:t.place.getD (i - 1) 0=t.place[i - 1]'(by omega):=by rw [Array.getD_eq_getD_getElem?,e1]; rfl
      rw [e2] at hj
      by_cases z:k=i - 1
      ·subst z; rw [e1] at hx; cases hx; omega
      ·have:=Q4 rs hx e1 (by omega); omega
     have lt':i≤SetTable.below t.place j:=by
      rcases Nat.lt_or_ge (SetTable.below t.place j) i with z | z
      ·have e1:=Array.getElem?_eq_getElem (show SetTable.below t.place j < t.place.size by omega)
       have h1:=ge _ z _ e1
       have h2:=O9 (j:=j) rs _ _ (Nat.le_refl _) e1
       omega
      ·exact z
     by_cases q:i < es.size
     ·left
      rcases Nat.lt_or_ge i (SetTable.below t.place j) with z | z
      ·have e1:=Array.getElem?_eq_getElem (show i < t.place.size by omega)
       have h1:=Zcy (j:=j) rs i _ z e1
       by_cases i0:i=0
       ·rw [if_pos i0] at hj; omega
       ·rw [if_neg i0] at hj
        have e3:=Array.getElem?_eq_getElem (show i - 1 < t.place.size by omega)
        have e2:t.place.getD (i - 1) 0=t.place[i - 1]'(by omega):=by rw [Array.getD_eq_getD_getElem?,e3]; rfl
        rw [e2] at hj
        have:=Q4 rs e3 e1 (by omega)
        omega
      ·omega
     ·exact .inr ⟨by omega,by omega⟩
    rcases hb with hb | ⟨hb,rfl⟩
    ·rw [hb]
     rcases Nat.lt_or_ge i es.size with z | z
     ·have e1:=Array.getElem?_eq_getElem (show i < t.place.size by omega)
      have e2:t.place.getD (i + 1 - 1) 0=t.place[i]'(by omega):=by rw [Array.getD_eq_getD_getElem?,Nat.add_sub_cancel,e1]; rfl
      rw [List.getElem?_map,Array.getElem?_toList,Array.getElem?_eq_getElem z,if_neg (by omega),e2] at r
      rw [Array.getElem?_eq_getElem z,e1]
      exact r
     ·rw [List.getElem?_map,Array.getElem?_toList,Array.getElem?_eq_none z] at r
      rw [Array.getElem?_eq_none z]
      exact r
    ·rw [List.getElem?_map,Array.getElem?_toList,Array.getElem?_eq_none (Nat.le_refl _)] at r
     rw [Array.getElem?_eq_none hb]
     exact r
 show wpAny _ _ (if (!w.params.followText "set-order" && (!t.plain && decide (es.size > 1)))=true then _ else _) _ _ _
 split
 ·-- drawn
  refine wpAny_bind (Fp _ _ _ _ (Nat.le_of_eq List.length_range) fun r d' pr=>?_)
  refine wpAny_bind (wpAny_newTuple ?_ (by rw [List.length_map,pr.length_eq,List.length_range]; exact fits_of_scanBound lt))
  refine wpAny_bind (wpAny_setEpoch_of (s:={ s with heap:=_,drawn:=d' }) (Heap.get?_push_of_some _ ho) hd ft ?_)
  unfold newFields
  refine wpAny_bind (wpAny_newObj_type (wpAny_pure ⟨_,rfl,"set_iterator",_,⟨_,Heap.get?_push_size _ rfl,rfl⟩,PySem.F.sti_next.lookup,?_⟩))
  have hs1:=Heap.size_push s.heap { cls:=.type "tuple",data:=.seq (r.map fun (i:Nat)=>rawInt i).toArray }
  obtain ⟨k2,j1,j2⟩:∃ k2,IntsAre (r.filterMap fun p=>(es[p]?).map (·.2)) k2∧k2.Perm ns:=by
   refine Qv ?_ hI
   have e1:(List.range es.size).filterMap (fun p=>(es[p]?).map (·.2))=es.toList.map (·.2):=by
    have:=filterMap_getElem?_range (es.map (·.2))
    rw [Array.size_map] at this
    rw [Array.toList_map] at this
    rw [← this]
    congr 1
    funext p
    rw [Array.getElem?_map]
   rw [← e1]
   exact pr.filterMap _
  have hall:∀ p∈r,p < es.size:=fun p hp=>List.mem_range.mp (pr.mem_iff.mp hp)
  have hfm:∀ (l:List Nat),(∀ p∈l,p < es.size)→(l.filterMap fun p=>(es[p]?).map (·.2)).length=l.length∧∀ (i p:Nat),l[i]?=some p→∃ e,es[p]?=some e∧(l.filterMap fun p=>(es[p]?).map (·.2))[i]?=some e.2:=fun l=>by
   induction l with
   | nil=>intro _; exact ⟨rfl,fun i p e=>by simp at e⟩
   | cons q l ih =>
    intro hq
    have hq0:=Array.getElem?_eq_getElem (hq q List.mem_cons_self)
    obtain ⟨i1,i2⟩:=ih fun p hp=>hq p (List.mem_cons_of_mem _ hp)
    rw [List.filterMap_cons_some (b:=(es[q]'(hq q List.mem_cons_self)).2) (by rw [hq0]; rfl)]
    refine ⟨by rw [List.length_cons,List.length_cons,i1],fun i p e=>?_⟩
    cases i with
    | zero=>cases e; exact ⟨_,hq0,rfl⟩
    | succ i=>exact i2 i p e
  obtain ⟨f1,f2⟩:=hfm r hall
  refine h _ _ d' [_,a,s.heap.objs.size] k2 _ (j2.trans pm) (fun b u hu=>Heap.get?_push_of_some _ (Heap.get?_push_of_some _ hu)) (by rw [hs1]; exact Nat.le_succ _) (fun b hb=>?_) (Zc1 (T:=s.heap.objs.size) hh ?_ ?_ hd ft j1 (ob:={ cls:=.type "tuple",data:=.seq (r.map fun (i:Nat)=>rawInt i).toArray }) rfl f2 f1) ⟨Heap.get?_push_size _ rfl,Heap.get?_push_of_some _ (Heap.get?_push_of_some _ ho),Heap.get?_push_of_some _ (Heap.get?_push_size _ rfl)⟩
  ·rcases List.mem_cons.mp hb with rfl | hb
   ·rw [hs1]; exact .inr (Nat.le_succ _)
   ·rcases List.mem_cons.mp hb with rfl | hb
    ·exact .inl rfl
    ·rw [List.mem_singleton.mp hb]; exact .inr (Nat.le_refl _)
  ·rw [hs1]; exact Nat.ne_of_lt (Nat.lt_succ_of_lt la)
  ·rw [hs1]; exact Nat.ne_of_lt (Nat.lt_succ_self _)
 ·rename_i c
  exact plainNew (by simpa using c)
end
end L2
set_option maxHeartbeats 4000000
namespace L2
open PySem PySem.Spec PyProof.Rows
noncomputable def dd (ks:List Int):List Int:=ks.foldl step_dedup []
section
variable {X:Cx}
theorem Inv.draw {pins:List (Addr × Obj)} {σ:List (Option V)} {H:Hp} {s:Shared} {d:Drawn} (I:Inv X pins σ H s):Inv X pins σ H { s with drawn:=d }:=⟨I.ok,I.os,I.bare,I.base,I.loc,I.cell,I.free,I.freeC,I.pin,I.hok,I.len⟩
noncomputable def setH (P:Program) (w:World) (a:Addr) (ks:List Int):HO:=.ext fun h=>WSet P w h a ks
theorem Za4 {H:Hp} {h:Heap} {a:Addr} {ks:List Int} (ws:WSet X.prog X.w h a ks):Zx X.prog X.w H h a (setH X.prog X.w a ks):=by
 refine ⟨ws,?_,fun h1 h2 w1 k=>w1.kept k⟩
 obtain ⟨o,_,_,_,_,ho,_⟩:=ws
 exact ⟨o,ho⟩
variable {P:Program} {w:World} {A:Around} {E:Value→Shared→Prop} {s:Shared}
theorem Zjz {r:Addr} {Q:Bool→Shared→Prop} (hT:s.TypeIs (.ref r) "set") (h:Q false s):wpAny (model P w) A (Builtin.List.listLengthHint (.ref r)) Q E s:=by
 unfold Builtin.List.listLengthHint
 refine wpAny_bind (wpAny_specialOf hT PySem.F.slot_set_len.lookup ?_)
 generalize hid:("set.__len__":String)=id0
 wp_delta
 rw [show splitId id0=some ("set","__len__") from by subst hid; decide +kernel]
 subst hid
 refine wpAny_bind (wpAny_isInstance (T:="set") (b:=true) hT (by rw [isSubtype_type]; kernel_rfl) (wpAny_ite_split (fun z=>absurd z (by decide)) fun _=>wpAny_ite_split (fun _=>?_) fun z=>absurd (by decide +kernel) z))
 exact wpAny_bind (wpAny_typeOf hT (wpAny_pure h))
theorem Zdv {a:Addr} {ks:List Int} {R:List Value→Shared→Prop} (hh:A.handled=none) (hS:WSet P w s.heap a ks) (hn:ks.length≤sizeLine)
  (h:∀ (h':Heap) (d':Drawn) (tk:Nat) (vs:List Value) (out:List Int),(∀ b o,s.heap.get? b=some o→h'.get? b=some o)→IntsAre vs out→out.Perm ks→R vs { s with heap:=h',drawn:=d',toks:=tk }) :
  wpAny (model P w) A (collect (.ref a)) R E s:=by
 have la:=hS.lt
 unfold collect
 refine wpAny_bind (wpAny_runValue (codeAny_builtin entry_proto_collect' ?_))
 rw [Around.under_plainId PySem.F.plain_proto_collect _]
 show wpAny _ A.in1 (newList [] >>= fun l=>again (.builtin "list.__iadd__" ⟨[l,.ref a],[]⟩)) _ _ s
 refine wpAny_bind (wpAny_newObj_type (wpAny_pure ⟨plainId_quiet PySem.F.plain_list_iadd _,codeAny_builtin entry_list_iadd' ?_⟩))
 rw [Around.under_plainId PySem.F.plain_list_iadd _]
 have e0:(s.heap.push { cls:=.type "list",data:=.seq ([]:List Value).toArray }).get? s.heap.objs.size=some { cls:=.type "list",data:=.seq #[] }:=Heap.get?_push_size _ rfl
 have ws1:WSet P w (s.heap.push { cls:=.type "list",data:=.seq ([]:List Value).toArray }) a ks:=hS.kept fun o e=>Heap.get?_push_of_some _ e
 have hT:Shared.TypeIs { s with heap:=s.heap.push { cls:=.type "list",data:=.seq ([]:List Value).toArray } } (.ref a) "set":=by obtain ⟨o,_,_,_,_,ho,ex,_⟩:=ws1; exact ⟨o,ho,ex.1⟩
 have hz:=Heap.size_push s.heap { cls:=.type "list",data:=.seq ([]:List Value).toArray }
 show wpAny _ A.in1 (Builtin.List.listExtendWith (.ref s.heap.objs.size) (.ref a) (.ref s.heap.objs.size)) _ _ _
 unfold Builtin.List.listExtendWith
 refine wpAny_bind (wpAny_typeOf hT ?_)
 have n1:Builtin.List.listSameRef (.ref s.heap.objs.size) (.ref a)=false:=by
  show (s.heap.objs.size == a)=false
  exact beq_eq_false_iff_ne.mpr (Nat.ne_of_gt la)
 simp only [n1,show (Value.type "set" == Value.type "list")=false by decide,show (Value.type "set" == Value.type "tuple")=false by decide,Bool.or_false,Bool.false_eq_true,if_false]
 refine wpAny_bind (Zjy (A:=A.in1) hh ws1 fun I h1 d1 fp out St pm kp hI hfp W st=>?_)
 have eS:=kp _ _ e0
 have hSf:s.heap.objs.size ∉ fp:=fun z=>by
  rcases hfp _ z with q | q
  ·exact Nat.ne_of_gt la q
  ·rw [hz] at q; exact absurd q (Nat.not_succ_le_self _)
 have hSI:s.heap.objs.size≠I:=fun z=>by rw [hz,← z] at hI; exact absurd hI (Nat.not_succ_le_self _)
 have tail:∀ (h2:Heap) (c tk:Nat),St 0 h2→(∀ b o,b≠s.heap.objs.size→h1.get? b=some o→h2.get? b=some o)→h2.get? s.heap.objs.size=some { cls:=.type "list",data:=.seq #[] c } →
   codeAny (model P w) A (.builtin "list.extend.loop" ⟨[.ref s.heap.objs.size,.ref I,.ref s.heap.objs.size],[]⟩) (fun q s'=>∃ (h':Heap) (tk:Nat) (acc:Array Value) (c':Nat),q=.ok (.ret (.ref s.heap.objs.size))∧s'={ s with heap:=h',drawn:=d1,toks:=tk }∧(∀ b o,s.heap.get? b=some o→h'.get? b=some o) ∧
    h'.get? s.heap.objs.size=some { cls:=.type "list",dict:=none,data:=.seq acc c',slots:=#[] }∧ItemsOf (fun i v=>∃ t,v=.int (out.getD i 0) t) acc out.length) { s with heap:=h2,drawn:=d1,toks:=tk }:=by
  intro h2 c tk st2 k2 e2
  refine codeAny_extend_loopS W.toS (by rw [pm.length_eq]; exact hn) _ hSf _ out.length 0 _ #[] c rfl (Nat.zero_le _) st2 e2 (ItemsOf.nil _) fun s' acc c' hm e3 it=>?_
  refine ⟨s'.heap,s'.toks,acc,c',rfl,?_,fun b o e=>?_,e3,it⟩
  ·have e1:s'.gens=s.gens:=hm.gens
   have e2:s'.drawn=d1:=hm.drawn
   have e3:s'.os=s.os:=hm.os
   rw [← e1,← e2,← e3]
  ·have lb:=Heap.lt_size e
   refine hm.heap b o ?_ (k2 b o (Nat.ne_of_lt lb) (kp _ _ (Heap.get?_push_of_some _ e)))
   simp only [List.mem_cons,List.not_mem_nil,or_false,not_or]
   refine ⟨Nat.ne_of_lt lb,fun z=>?_⟩
   rw [hz,← z] at hI
   exact absurd (Nat.lt_of_lt_of_le (Nat.lt_succ_of_lt lb) hI) (Nat.lt_irrefl _)
 refine wpAny_bind (wpAny_holding (Zjz (by obtain ⟨o,ho,hc⟩:=hT; exact ⟨o,kp _ _ ho,hc⟩) ?_))
 have fin:∀ (q:Result) (s':Shared),(∃ (h':Heap) (tk:Nat) (acc:Array Value) (c':Nat),q=.ok (.ret (.ref s.heap.objs.size))∧s'={ s with heap:=h',drawn:=d1,toks:=tk }∧(∀ b o,s.heap.get? b=some o→h'.get? b=some o) ∧
    h'.get? s.heap.objs.size=some { cls:=.type "list",dict:=none,data:=.seq acc c',slots:=#[] }∧ItemsOf (fun i v=>∃ t,v=.int (out.getD i 0) t) acc out.length)→(match q with | .ok (.ret v)=>wpAny (model P w) A (match v with | .ref a=>(do match (← load a).data with | .seq xs _=>pure xs.toList | _=>unsupported "internal:collect") | _=>unsupported "internal:collect") R E s' | .ok _=>False | .error e=>E e s'):=by
  rintro q s' ⟨h',tk,acc,c',rfl,rfl,kp',e3,it⟩
  show wpAny _ A (load s.heap.objs.size >>= _) _ _ _
  refine wpAny_bind (wpAny_load e3 (wpAny_pure (h h' d1 tk acc.toList out kp' ?_ pm)))
  have gen:∀ (us:List Value) (os:List Int),us.length=os.length→(∀ (j:Nat) (v:Value),us[j]?=some v→∃ t,v=Value.int (os.getD j 0) t)→IntsAre us os:=by
   intro us
   induction us with
   | nil =>
    intro os hl _
    cases os with
    | nil=>exact .nil
    | cons _ _=>simp at hl
   | cons u r ih =>
    intro os hl hv
    cases os with
    | nil=>simp at hl
    | cons k ks =>
     obtain ⟨t,e⟩:=hv 0 u rfl
     have e:u=Value.int k t:=e
     subst e
     exact .cons k t (ih ks (by simpa using hl) fun j v hj=>hv (j + 1) v hj)
  exact gen _ _ (by rw [Array.length_toList]; exact it.1) fun j v hj=>it.2 j v (by rw [← Array.getElem?_toList]; exact hj)
 refine wpAny_ite_split (fun _=>?_) (fun z=>absurd (by decide +kernel) z)
 refine wpAny_bind (wpAny_rule (wpAny_bind ?_))
 show wpAny _ _ (updateSeq s.heap.objs.size (·.push .none) >>= fun _=>updateSeq s.heap.objs.size (·.pop)) _ _ _
 refine wpAny_bind (wpAny_updateSeq eS rfl ?_)
 have e2:=Heap.get?_update_self (Obj.mapSeq (·.push Value.none)) eS rfl
 refine wpAny_updateSeq (hz:=by seq_fits) e2 rfl ?_
 have e3:=Heap.get?_update_self (Obj.mapSeq (·.pop)) e2 rfl
 have ot:∀ b o,b≠s.heap.objs.size→h1.get? b=some o→((h1.update s.heap.objs.size (Obj.mapSeq (·.push Value.none))).update s.heap.objs.size (Obj.mapSeq (·.pop))).get? b=some o:=fun b o hb e =>
  (Heap.get?_update_other _ _ (Ne.symm hb)).trans ((Heap.get?_update_other _ _ (Ne.symm hb)).trans e)
 refine wpAny_pure ⟨plainId_quiet PySem.F.plain_extend_loop _,codeAny_mono (tail _ _ _ (W.frame 0 _ _ st fun b hb o e=>ot b o (fun z=>hSf (z ▸ hb)) e) ot e3) fun q s' y=>?_⟩
 exact fin q s' y
end
end L2
set_option maxHeartbeats 4000000
namespace L2
open PySem PySem.Spec PyProof.Rows
section
variable {X:Cx}
theorem Zcw (hc:X.calm=true):Y7 X (.builtin "sorted") (fun xs H Q=>∃ (p:Addr) (ks:List Int),xs=[.ref p]∧H p=some (setH X.prog X.w p ks)∧ks.length < 64 ∧
  ∀ (q:Addr) (out:List Int),H q=none→out.Perm ks→out.Pairwise (·≤·)→Q (.ref q) (upd H q (.lst (out.map V.int)))):=by
 intro pins s σ H xs us Q I r h
 obtain ⟨p,ks,rfl,hp,h64,q⟩:=h
 obtain ⟨u,rfl,ru⟩:=Wd r
 obtain rfl:u=Value.ref p:=ru
 have ws:WSet X.prog X.w s.heap p ks:=(I.hok p _ hp).1
 refine Calls.call_function_entry kind_sorted plain_sorted entry_sorted (args_sorted1 _) ?_
 unfold Builtin.«sorted»
 refine wpAny_bind (m:=checkCount "sorted" 1 1 _) (wpAny_pure ?_)
 refine wpAny_bind (Zdv (A:=X.A.in1) (I.ok.hd hc) ws (by rw [sizeLine_eq]; omega) fun h' d' tk vs out kp hI pm=>?_)
 have hl:vs.length=out.length:=hI.length
 have h64':out.length < 64:=by rw [pm.length_eq]; exact h64
 refine wpAny_bind (wpAny_newList ?_ (by rw [hl,sizeLine_eq]; omega))
 have I1:Inv X pins σ H { s with heap:=h',drawn:=d',toks:=tk }:=(I.kept (t':=tk) kp).draw
 have hoL:(h'.push { cls:=.type "list",data:=.seq vs.toArray }).get? h'.objs.size=some (seqObj "list" vs.toArray 0):=Heap.get?_push_size _ rfl
 refine wpAny_bind (wpAny_holding (wpAny_call_entry slot_list_sort ⟨_,hoL,rfl⟩ entry_list_sort (list_sort_tree hoL (by simpa using hI) (by omega) fun res ns a1 a2 a3=>⟨_,rfl,?_⟩) (args_list_sort _)))
 refine wpAny_pure ⟨_,rfl,?_⟩
 obtain ⟨e,he⟩:=sortedHeap_at (out:=res) hoL
 have k2:∀ b u,h'.get? b=some u→(sortedHeap (h'.push { cls:=.type "list",data:=.seq vs.toArray }) h'.objs.size vs res).get? b=some u:=fun b u hb=>by
  have lb:=Heap.lt_size hb
  rw [sortedHeap_old (Nat.ne_of_lt lb) (by rw [Heap.size_push]; exact Nat.lt_succ_of_lt lb)]
  exact Heap.get?_push_of_some _ hb
 have hv:Vals (ns.map V.int) res.toList:=by
  clear he k2
  generalize res.toList=l at a1
  clear a2 a3
  induction a1 with
  | nil=>exact .nil
  | cons i t _ ih=>exact .cons ⟨_,rfl⟩ ih
 refine ⟨.ref h'.objs.size,upd H h'.objs.size (.lst (ns.map V.int)),I1.laid k2 (Nat.le_refl _) ⟨?_,res.toList,e,hv,by rw [he]⟩,rfl,q _ ns I1.fresh (a2.trans pm) a3⟩
 rw [List.length_map,a2.length_eq,sizeLine_eq]; omega
end
end L2
set_option maxHeartbeats 4000000
namespace L2
open PySem PySem.Spec PyProof.Rows
end L2
set_option maxHeartbeats 4000000
namespace KT
end KT
set_option maxHeartbeats 4000000
namespace KT
open PySem L2
end KT
set_option maxHeartbeats 4000000
namespace KT
open PySem L2
end KT
set_option maxHeartbeats 4000000
namespace L2
open PySem PySem.Spec PyProof.Rows
end L2
set_option maxHeartbeats 4000000
namespace L2
open PySem PySem.Spec PyProof.Rows
end L2
set_option maxHeartbeats 4000000
namespace L2
open PySem PySem.Spec PyProof.Rows
end L2
set_option maxHeartbeats 4000000
namespace L2
open PySem PySem.Spec PyProof.Rows
end L2
set_option maxHeartbeats 4000000
namespace L2
open PySem PySem.Spec PyProof.Rows
end L2
set_option maxHeartbeats 400000
namespace L2
open PySem PySem.Spec PyProof.Rows
end L2
set_option maxHeartbeats 4000000
namespace L2
open PySem PySem.Spec PyProof.Rows
end L2
set_option maxHeartbeats 4000000
namespace L2
open PySem PySem.Spec PyProof.Rows
inductive ZS where
 | l (a:Addr)
 | t (a:Addr)
 | s (x:Str)
noncomputable def ZS.ad:ZS→List Addr
 | .l a=>[a]
 | .t a=>[a]
 | .s _=>[]
noncomputable def ZS.has (K:PySem.W.Frag) (H:Hp) (S:ZS) (xs:List V):Prop:=match S with
 | .l a=>SqL K H a xs
 | .t a=>SqT K H a xs
 | .s x=>x.cps.all (· < 128)=true∧xs=x.cps.toList.map fun c=>V.str ⟨#[c]⟩
noncomputable def ZS.it (S:ZS) (i:Addr) (k:Nat) (h:Heap):Prop:=match S with
 | .l a=>h.IsListIter i a k
 | .t a=>IsTupIter h i a k
 | .s x=>∃ t,h.IsStrIter i "str_ascii_iterator" x t k
noncomputable def ZS.v:ZS→V
 | .l a=>.ref a
 | .t a=>.ref a
 | .s x=>.str x
end L2
set_option maxHeartbeats 4000000
namespace L2
open PySem PySem.Spec PyProof.Rows
end L2
set_option maxHeartbeats 1000000
namespace L2
open PySem PySem.Spec PyProof.Rows
section
variable {P:Program} {w:World} {A:Around} {R:Result→Shared→Prop} {s:Shared}
theorem F9 {elt t i:Expr} {fs:List Expr} {rest:List Comprehension} {scope:Scope} {pos:Pos} {it acc:Value} {env:Env} (h0:codeAny (model P w) A (.compLoop (.SetComp elt (⟨t,i,fs,0⟩ :: rest) scope pos) 0 it acc env) R s)
  (h:wpAny (model P w) A (pyIter it) (fun it' s'=>codeAny (model P w) A (.compLoop (.SetComp elt (⟨t,i,fs,0⟩ :: rest) scope pos) 0 it' acc env) R s') (notedBy (model P w) A env fun x s'=>R (.error x) s') s) :
  codeAny (model P w) A (.compStart (.SetComp elt (⟨t,i,fs,0⟩ :: rest) scope pos) 0 it acc env) R s:=by
 refine codeAny_of_tree (show wpAny _ _ ((compStart (.SetComp elt (⟨t,i,fs,0⟩ :: rest) scope pos) 0 it acc env).onRaise _) _ _ s from ?_)
 refine wpAny_notedAt ?_
 unfold compStart
 show wpAny _ A (ask >>= _) _ _ s
 refine wpAny_bind (wpAny_askSetting (wpAny_ite ?_))
 split
 ·first
   | exact wpAny_pure ⟨rfl,h0⟩
   | exact wpAny_bind (wpAny_pure (wpAny_pure ⟨rfl,h0⟩))
 ·first
   | exact wpAny_bind (wpAny_rule (wpAny_bind (wpAny_standAt (wpAny_bind (wpAny_mono h (fun it' s' z=>wpAny_pure ⟨rfl,z⟩) fun _ _ x=>x)))))
   | (refine wpAny_bind (wpAny_rule ?_); show wpAny _ _ (standAt i.pos >>= _) _ _ s; exact wpAny_bind (wpAny_standAt (wpAny_bind (wpAny_mono h (fun it' s' z=>wpAny_pure ⟨rfl,z⟩) fun _ _ x=>x))))
end
noncomputable def Zgf (te:TE) (D:Addr):TB:=fun σ H N=>te σ H fun v H1=>∃ i S n,v=.int i∧H1 D=some (.set S n)∧n + 1 < 4096∧N σ (upd H1 D (.set (fun k=>S k || decide (k=i)) (if S i then n else n + 1)))
section
variable {X:Cx}
theorem Zbr {elt:Expr} {te:TE} {D:Addr} {c:Code} {p:Pos} (he:PE X elt te) :
  PB X ((eval elt X.env >>= fun v=>standAt p >>= fun _=>call (.builtin "set.add") [.ref D,v] >>= fun _=>pure ()) >>= fun _=>again c) c (Zgf te D):=by
 intro pins s σ H N I h
 refine wpAny_bind (wpAny_bind (thn (he pins s σ H _ I h) fun u s1 zz33=>?_))
 obtain ⟨v,H1,I1,r1,q1⟩:=zz33
 refine wpAny_bind (wpAny_standAt ?_)
 obtain ⟨i,S,n,rfl,hD,hl,q⟩:=q1
 refine wpAny_bind (thn (Qr pins s1 σ H1 (.ref D) [.int i] (.ref D) [u] (fun _ H2=>N σ H2) I1 rfl (.cons r1 .nil) ⟨D,i,S,n,rfl,rfl,hD,hl,q⟩) fun _ s2 zz9=>?_)
 obtain ⟨_,H2,I2,_,q2⟩:=zz9
 exact wpAny_pure (wpAny_pure ⟨rfl,σ,H2,I2,q2⟩)
end
noncomputable def Zgg (ts:List Str) (fv:List (Str × Nat)) (wi:TI) (g:TG) (tt:TT) (tb:Addr→TB):TE:=fun σ H Q=>wi σ H fun J H1=>∀ D,H1 D=none →
 Jk J g tt (tb D) (fun _ H'=>Q (.ref D) H') (blkS ts fv σ) (upd H1 D (.set (fun _=>false) 0))
section
variable {X:Cx} {ts:List Str} {fv:List (Str × Nat)} {scope:Scope} {elt t0 i0:Expr} {f0:List Expr} {rest:List Comprehension} {pos:Pos} {wi:TI} {g:TG} {tt:TT} {tb:Addr→TB} {kont:Env→Addr→Addr→Sem Fin}
theorem Zfl (B:BlkOk X scope fv) (hc:X.calm=true) (hi:PI X t0 i0 wi)
  (hg:∀ C s₀ H₀ ex,PG (Z7 X (blkN ts fv) scope C s₀ H₀ ex) t0 g) (ht:∀ C s₀ H₀ ex,PTs (Z7 X (blkN ts fv) scope C s₀ H₀ ex) f0 tt)
  (heq:∀ (env:Env) (it D:Addr),compTurn (.SetComp elt (⟨t0,i0,f0,0⟩ :: rest) scope pos) 0 (.ref it) (.ref D) env=(standAt i0.pos >>= fun _=>pyNext (.ref it) >>= fun r=>match r with
   | none=>pure (.done .next)
   | some v=>letOwnedTupleGo t0 (.ref it) v >>= fun _=>assign t0 env v >>= fun _ =>
    (forIn f0 true fun c r=>if r=true then do let ok ← isTrue c env (eval c env); pure (ForInStep.yield ok) else pure (ForInStep.yield r)) >>= fun ok =>
     if ok=true then kont env it D else again (.compLoop (.SetComp elt (⟨t0,i0,f0,0⟩ :: rest) scope pos) 0 (.ref it) (.ref D) env)))
  (hb:∀ C s₀ H₀ ex it D,PB (Z7 X (blkN ts fv) scope C s₀ H₀ ex) (kont (Z7 X (blkN ts fv) scope C s₀ H₀ ex).env it D) (.compLoop (.SetComp elt (⟨t0,i0,f0,0⟩ :: rest) scope pos) 0 (.ref it) (.ref D) (Z7 X (blkN ts fv) scope C s₀ H₀ ex).env) (tb D))
  {pins:List (Addr × Obj)} {s:Shared} {σ:St} {H:Hp} {Q:VK} {RR:Value→Addr→Result→Shared→Prop} (I:Inv X pins σ H s) (h:Zgg ts fv wi g tt tb σ H Q)
  (hRR:∀ D C s' H',Inv X pins σ H' s'→H' C=none→X.s₀.heap.objs.size≤C→C≠X.env.locals→(∀ x c,X.env.cells.lookup x=some c→c≠C)→(∀ p∈X.pn ++ pins,p.1≠C)→(∃ m,s'.heap.Ns C m)→Q (.ref D) H'→RR (.ref D) C (.ok .next) s') :
  wpAny (model X.prog X.w) X.A (eval i0 X.env) (fun x s₁=>wpAny (model X.prog X.w) X.A (pyIter x) (fun it s₂=>wpAny (model X.prog X.w) X.A (newSet (.type "set")) (fun acc s₃ =>
   wpAny (model X.prog X.w) X.A (newFunctionEnv scope X.env.globals (Yo X.env scope.names []) [] X.env.qual none .none (some X.env)) (fun cenv s₄ =>
    codeAny (model X.prog X.w) X.A (.compStart (.SetComp elt (⟨t0,i0,f0,0⟩ :: rest) scope pos) 0 it acc { cenv with scope:=relabel scope X.env }) (RR acc cenv.locals) s₄) X.xe s₃) X.xe s₂) X.xe s₁) X.xe s:=by
 refine thn (hi pins s σ H _ I h) fun v s1 h1=>thn h1 fun itv s2 h2=>?_
 obtain ⟨it,fp,tn,J,H2,e,I2,T,st2,f2,L⟩:=h2
 subst e
 have L:=L s2.heap.objs.size I2.fresh
 refine wpAny_newSet_of (knd:=intKind X.prog X.w) fun led hS=>?_
 have hk0:∀ b o,s2.heap.get? b=some o→(s2.heap.push { cls:=.type "set",dict:=none,data:=.set #[] 0 (.fresh 0 0 led) }).get? b=some o:=fun _ _ q=>Heap.get?_push_of_some _ q
 generalize s2.heap.push { cls:=.type "set",dict:=none,data:=.set #[] 0 (.fresh 0 0 led) }=hp at hk0 hS
 have I3:Inv X pins σ (upd H2 s2.heap.objs.size (.set (fun _=>false) 0)) { s2 with heap:=hp,toks:=s2.toks }:=I2.laid (a:=s2.heap.objs.size) (o:=.set (fun _=>false) 0) (t':=s2.toks) hk0 (Nat.le_refl _) hS
 have ho2:∀ b∈fp,∃ o,s2.heap.get? b=some o∧∀ v,o.data≠.cell v:=T.obj _ _ st2
 have f3:∀ b∈fp,FpOk X pins (upd H2 s2.heap.objs.size (.set (fun _=>false) 0)) b:=fun b hb=>by
  obtain ⟨o,ho,_⟩:=ho2 b hb
  refine ⟨?_,(f2 b hb).2⟩
  rw [Zd (Nat.ne_of_lt (Heap.lt_size ho))]
  exact (f2 b hb).1
 have st3:tn 0 hp:=T.keep _ _ _ st2 fun b _ o e=>hk0 b o e
 have ho3:∀ b∈fp,∃ o,hp.get? b=some o:=fun b hb=>let ⟨o,e,_⟩:=ho2 b hb; ⟨o,hk0 _ _ e⟩
 generalize hs3:({ s2 with heap:=hp,toks:=s2.toks }:Shared)=s3 at I3
 have eh:hp=s3.heap:=by rw [← hs3]
 rw [eh] at st3 ho3
 refine wpAny_newFunctionEnv B.nocell (by intro y hy; simp at hy) (fun h₁ hns hsb=>?_) B.kind
 have hk:∀ b o,s3.heap.get? b=some o→h₁.get? b=some o:=fun b o e=>hsb.extBut b o (Nat.ne_of_lt (Heap.lt_size e)) (Heap.get?_push_of_some _ e)
 have I4:=Ft (ts:=ts) (tk:=s3.toks + ([]:List (Str × Value)).length) B I3 f3 ho3 hns hk
 have f4:∀ b∈fp,FpOk (Z7 X (blkN ts fv) scope s3.heap.objs.size s3 (upd H2 s2.heap.objs.size (.set (fun _=>false) 0)) fp) [] (upd H2 s2.heap.objs.size (.set (fun _=>false) 0)) b:=fun b hb=>by
  obtain ⟨f0,f1,f2',f3',f4',f5'⟩:=f3 b hb
  obtain ⟨o,eo⟩:=ho3 b hb
  exact ⟨f0,Nat.ne_of_lt (Heap.lt_size eo),I4.ok.exfs b hb,.inl hb,(I4.ok.exf b hb).2,fun p hp=>absurd (show p∈([]:List (Addr × Obj)) from hp) (by simp)⟩
 have st4:tn 0 h₁:=T.keep _ _ _ st3 fun b _ o e=>hk b o e
 have loop:codeAny (model X.prog X.w) X.A (.compLoop (.SetComp elt (⟨t0,i0,f0,0⟩ :: rest) scope pos) 0 (.ref it) (.ref s2.heap.objs.size) (Z7 X (blkN ts fv) scope s3.heap.objs.size s3 (upd H2 s2.heap.objs.size (.set (fun _=>false) 0)) fp).env)
   (RR (.ref s2.heap.objs.size) s3.heap.objs.size) { s3 with heap:=h₁,toks:=s3.toks + ([]:List (Str × Value)).length }:=by
  refine Qw (X:=Z7 X (blkN ts fv) scope s3.heap.objs.size s3 (upd H2 s2.heap.objs.size (.set (fun _=>false) 0)) fp) (tg:=t0) (ifs:=f0) (R:=fun _ H'=>Q (.ref s2.heap.objs.size) H') rfl rfl rfl rfl (heq _ it s2.heap.objs.size) T hc (hg _ _ _ _) (ht _ _ _ _) (hb _ _ _ _ it s2.heap.objs.size) f4 I4 st4 L fun s' σ' H' J' q=>?_
  obtain ⟨e1,e2,e3,e4,e5,e6⟩:=Ze4 I3 f3 (Nat.le_refl _) J'
  obtain ⟨m,hm,_⟩:=J'.loc
  exact hRR _ _ s' H' e1 e2 e3 e4 e5 e6 ⟨m,hm⟩ q
 exact F9 loop (T.self _ _ _ _ _ st4 loop)
theorem Fa (B:BlkOk X scope fv) (hc:X.calm=true) (hi:PI X t0 i0 wi)
  (hg:∀ C s₀ H₀ ex,PG (Z7 X (blkN ts fv) scope C s₀ H₀ ex) t0 g) (ht:∀ C s₀ H₀ ex,PTs (Z7 X (blkN ts fv) scope C s₀ H₀ ex) f0 tt)
  (heq:∀ (env:Env) (it D:Addr),compTurn (.SetComp elt (⟨t0,i0,f0,0⟩ :: rest) scope pos) 0 (.ref it) (.ref D) env=(standAt i0.pos >>= fun _=>pyNext (.ref it) >>= fun r=>match r with
   | none=>pure (.done .next)
   | some v=>letOwnedTupleGo t0 (.ref it) v >>= fun _=>assign t0 env v >>= fun _ =>
    (forIn f0 true fun c r=>if r=true then do let ok ← isTrue c env (eval c env); pure (ForInStep.yield ok) else pure (ForInStep.yield r)) >>= fun ok =>
     if ok=true then kont env it D else again (.compLoop (.SetComp elt (⟨t0,i0,f0,0⟩ :: rest) scope pos) 0 (.ref it) (.ref D) env)))
  (hb:∀ C s₀ H₀ ex it D,PB (Z7 X (blkN ts fv) scope C s₀ H₀ ex) (kont (Z7 X (blkN ts fv) scope C s₀ H₀ ex).env it D) (.compLoop (.SetComp elt (⟨t0,i0,f0,0⟩ :: rest) scope pos) 0 (.ref it) (.ref D) (Z7 X (blkN ts fv) scope C s₀ H₀ ex).env) (tb D))
  (hs:∀ x,foldedSetIterable i0 X.env x=pure x:=by intro _; rfl) :
  PE X (.SetComp elt (⟨t0,i0,f0,0⟩ :: rest) scope pos) (Zgg ts fv wi g tt tb):=by
 intro pins s σ H Q I h
 show wpAny _ X.A (comprehension (.SetComp elt (⟨t0,i0,f0,0⟩ :: rest) scope pos) scope X.env _ (newSet (.type "set")) false (eval i0 X.env)) _ _ s
 refine wpAny_comprehension_free (use:=none) rfl hs (Qz fun y hy e=>I.ok.has y.1 (B.free y hy e)) B.kind B.names ?_
 refine Zfl (RR:=fun acc C=>compPost (model X.prog X.w) X.A X.xe none (EP X pins σ Q) acc C) B hc hi hg ht heq hb I h fun D C s' H' I' e2 e3 e4 e5 e6 hm q=>?_
 obtain ⟨m,hm⟩:=hm
 exact ⟨m,hm,fun h' hs'=>⟨.ref D,H',I'.apart hs' e2 e3 e4 e5 e6,rfl,q⟩⟩
end
end L2
set_option maxHeartbeats 4000000
namespace L2
open PySem PySem.Spec PyProof.Rows
end L2
set_option maxHeartbeats 4000000
namespace L2
open PySem PySem.Spec PyProof.Rows
end L2
set_option maxHeartbeats 1000000
namespace L2
open PySem PySem.Spec PyProof.Rows
section
variable {X:Cx} {l:Expr} {tl:TE}
theorem Zdw:Y7 X (.builtin "len") (fun xs H Q=>∃ p S n,xs=[.ref p]∧H p=some (.set S n)∧Q (.int (n:Nat)) H):=by
 intro pins s σ H xs us Q I r h
 obtain ⟨p,S,n,rfl,hp,q⟩:=h
 obtain ⟨u,rfl,ru⟩:=Wd r
 cases ru
 obtain ⟨o,es,ep,t,ho,hx,hd,_,_,hb,hf,rfl⟩:=(show s.heap.SetOf (intKind X.prog X.w) p S n from I.hok p _ hp)
 exact call_len_set ho hx hd hf (by have:scanBound=4096:=rfl; omega) ⟨.int es.size,H,I.tok _,⟨_,rfl⟩,q⟩
end
end L2
set_option maxHeartbeats 4000000
namespace L2
open PySem PySem.Spec PyProof.Rows
end L2
set_option maxHeartbeats 4000000
namespace L2
open PySem PySem.Spec PyProof.Rows
end L2
set_option maxHeartbeats 4000000
namespace L2
open PySem PySem.Spec PyProof.Rows
end L2
set_option maxHeartbeats 4000000
namespace L2
open PySem PySem.Spec PyProof.Rows
end L2
set_option maxHeartbeats 4000000
namespace L2
open PySem PySem.Spec PyProof.Rows
end L2
set_option maxHeartbeats 4000000
namespace L2
open PySem PySem.Spec PyProof.Rows
end L2
set_option maxHeartbeats 4000000
namespace L2
open PySem PySem.Spec PyProof.Rows
end L2
set_option maxHeartbeats 4000000
namespace L2
open PySem PySem.Spec PyProof.Rows PySem.W
noncomputable def kval {α:Type} (f:Nat→Nat→Bool):KasT α→α
 | .ret a=>a
 | .ask i j k=>kval f (k (f i j))
theorem Wx {α β:Type} (f:Nat→Nat→Bool) (g:α→KasT β):∀ t:KasT α,kval f (t.bind g)=kval f (g (kval f t))
 | .ret _=>rfl
 | .ask i j k=>Wx f g (k (f i j))
section
variable {K:Nat→Int}
noncomputable def kAt (K:Nat→Int) (p:Array Nat) (i:Nat):Int:=K (p.getD i 0)
noncomputable def kLt (K:Nat→Int) (i j:Nat):Bool:=decide (K i < K j)
noncomputable def Srt (K:Nat→Int) (p:Array Nat) (k:Nat):Prop:=∀ i j,i < j→j < k→kAt K p i≤kAt K p j
noncomputable def Dsc (K:Nat→Int) (p:Array Nat) (k:Nat):Prop:=∀ i j,i < j→j < k→kAt K p j < kAt K p i
theorem Qt {p q:Array Nat} {i j:Nat} (h:p[i]?=q[j]?):kAt K p i=kAt K q j:=by
 unfold kAt
 rw [Array.getD_eq_getD_getElem?,Array.getD_eq_getD_getElem?,h]
theorem Srt.snoc {p:Array Nat} {n:Nat} (h1:1≤n) (h:Srt K p n) (hn:kAt K p (n - 1)≤kAt K p n):Srt K p (n + 1):=fun i j hij hj=>by
 rcases Nat.lt_or_ge j n with c | c
 ·exact h i j hij c
 ·have:j=n:=by omega
  subst this
  rcases Nat.lt_or_ge i (j - 1) with c2 | c2
  ·exact Int.le_trans (h i (j - 1) c2 (by omega)) hn
  ·have:i=j - 1:=by omega
   subst this
   exact hn
theorem Dsc.snoc {p:Array Nat} {n:Nat} (h1:1≤n) (h:Dsc K p n) (hn:kAt K p n < kAt K p (n - 1)):Dsc K p (n + 1):=fun i j hij hj=>by
 rcases Nat.lt_or_ge j n with c | c
 ·exact h i j hij c
 ·have:j=n:=by omega
  subst this
  rcases Nat.lt_or_ge i (j - 1) with c2 | c2
  ·exact Int.lt_trans hn (h i (j - 1) c2 (by omega))
  ·have:i=j - 1:=by omega
   subst this
   exact hn
theorem Gr (p:Array Nat):∀ (g n:Nat),1≤n→Srt K p n→n≤kval (kLt K) (kas_asc p g n)∧kval (kLt K) (kas_asc p g n)≤n + g∧Srt K p (kval (kLt K) (kas_asc p g n))∧(kval (kLt K) (kas_asc p g n) < n + g→kAt K p (kval (kLt K) (kas_asc p g n)) < kAt K p (kval (kLt K) (kas_asc p g n) - 1))
 | 0,n,h1,h=>⟨Nat.le_refl _,Nat.le_refl _,h,fun z=>absurd z (Nat.lt_irrefl _)⟩
 | g + 1,n,h1,h=>by
  have e:kval (kLt K) (kas_asc p (g + 1) n)=kval (kLt K) (if kLt K (p.getD n 0) (p.getD (n - 1) 0)=true then .ret n else kas_asc p g (n + 1)):=rfl
  rw [e]
  by_cases c:kLt K (p.getD n 0) (p.getD (n - 1) 0)=true
  ·rw [if_pos c]
   exact ⟨Nat.le_refl _,by show n≤n + (g + 1); omega,h,fun _=>of_decide_eq_true c⟩
  ·rw [if_neg c]
   have hn:kAt K p (n - 1)≤kAt K p n:=by
    unfold kLt at c
    unfold kAt
    have:=of_decide_eq_false (by simpa using c:decide (K (p.getD n 0) < K (p.getD (n - 1) 0))=false)
    omega
   obtain ⟨i1,i2,i3,i4⟩:=Gr p g (n + 1) (by omega) (h.snoc h1 hn)
   exact ⟨by omega,by omega,i3,fun z=>i4 (by omega)⟩
theorem Zct (p:Array Nat):∀ (g n:Nat),1≤n→Dsc K p n→(∀ i j,i < j→j < n + g→kAt K p i≠kAt K p j)→∃ m,kval (kLt K) (kas_desc g p n 0)=(p,m,0)∧n≤m∧m≤n + g∧Dsc K p m
 | 0,n,h1,h,_=>⟨n,rfl,Nat.le_refl _,Nat.le_refl _,h⟩
 | g + 1,n,h1,h,hd=>by
  have e:kval (kLt K) (kas_desc (g + 1) p n 0)=kval (kLt K) (if kLt K (p.getD n 0) (p.getD (n - 1) 0)=true then (if 0 > 0 then kas_desc g (kas_rev p (n - (0 + 1)) n) (n + 1) 0 else kas_desc g p (n + 1) 0) else .ask (p.getD (n - 1) 0) (p.getD n 0) fun d=>if d=true then .ret (p,n,0) else kas_desc g p (n + 1) (0 + 1)):=rfl
  rw [e]
  by_cases c:kLt K (p.getD n 0) (p.getD (n - 1) 0)=true
  ·rw [if_pos c,if_neg (by omega)]
   obtain ⟨m,i1,i2,i3,i4⟩:=Zct p g (n + 1) (by omega) (h.snoc h1 (of_decide_eq_true c)) (fun i j hij hj=>hd i j hij (by omega))
   exact ⟨m,i1,by omega,by omega,i4⟩
  ·rw [if_neg c]
   have c2:kLt K (p.getD (n - 1) 0) (p.getD n 0)=true:=by
    have:=hd (n - 1) n (by omega) (by omega)
    unfold kAt at this
    unfold kLt at c ⊢
    rw [decide_eq_true_iff] at c ⊢
    omega
   refine ⟨n,?_,Nat.le_refl _,by omega,h⟩
   show kval (kLt K) (if kLt K (p.getD (n - 1) 0) (p.getD n 0)=true then .ret (p,n,0) else kas_desc g p (n + 1) (0 + 1))=_
   rw [if_pos c2]
   rfl
theorem Zlh {p:Array Nat} {m:Nat} (hm:m≤p.size) (h:Dsc K p m):Srt K (kas_rev p 0 m) m:=fun i j hij hj=>by
 have e:∀ k,k < m→kAt K (kas_rev p 0 m) k=kAt K p (m - 1 - k):=fun k hk=>by
  refine Qt ?_
  unfold kas_rev
  rw [getElem?_mirror_all hm,if_pos ⟨Nat.zero_le _,hk⟩,Nat.zero_add]
 rw [e i (by omega),e j hj]
 rcases Nat.lt_or_ge (m - 1 - j) (m - 1 - i) with c | c
 ·exact Int.le_of_lt (h _ _ c (by omega))
 ·omega
theorem Zik {p:Array Nat} {n:Nat} (h1:1≤n) (hn:n=p.size) (hd:∀ i j,i < j→j < n→kAt K p i≠kAt K p j):(kval (kLt K) (kas_count n p)).1≤n∧1≤(kval (kLt K) (kas_count n p)).1∧(kval (kLt K) (kas_count n p)).2.Perm p∧Srt K (kval (kLt K) (kas_count n p)).2 (kval (kLt K) (kas_count n p)).1:=by
 unfold kas_count
 rw [Wx]
 obtain ⟨a1,a2,a3,a4⟩:=Gr (K:=K) p (n - 1) 1 (Nat.le_refl _) (fun i j hij hj=>by omega)
 generalize kval (kLt K) (kas_asc p (n - 1) 1)=m at a1 a2 a3 a4
 by_cases c:m=n
 ·rw [if_pos (by simpa using c)]
  exact ⟨by show m≤n; omega,a1,.refl _,a3⟩
 ·rw [if_neg (by simpa using c)]
  have hlt:=a4 (by omega)
  by_cases c2:m > 1
  ·rw [if_pos c2]
   have c3:kLt K (p.getD 0 0) (p.getD (m - 1) 0)=true:=by
    have x1:=a3 0 (m - 1) (by omega) (by omega)
    have x2:=hd 0 (m - 1) (by omega) (by omega)
    unfold kAt at x1 x2
    unfold kLt
    rw [decide_eq_true_iff]
    omega
   have e:kval (kLt K) (.ask (p.getD 0 0) (p.getD (m - 1) 0) fun c=>if c=true then .ret (m,p) else kas_descPart m n (kas_rev p 0 m))=(m,p):=by
    show kval (kLt K) (if kLt K (p.getD 0 0) (p.getD (m - 1) 0)=true then .ret (m,p) else kas_descPart m n (kas_rev p 0 m))=_
    rw [if_pos c3]
    rfl
   rw [e]
   exact ⟨by show m≤n; omega,by show 1≤m; omega,.refl _,a3⟩
  ·rw [if_neg c2]
   have hm1:m=1:=by omega
   subst hm1
   unfold kas_descPart
   rw [Wx]
   obtain ⟨m',i1,i2,i3,i4⟩:=Zct (K:=K) p (n - (1 + 1)) (1 + 1) (by omega) (fun i j hij hj=>by
    have:i=0∧j=1:=by omega
    rw [this.1,this.2]
    exact hlt) (fun i j hij hj=>hd i j hij (by omega))
   rw [i1]
   show (kval (kLt K) (if 0 > 0 then _ else kas_tail3 m' n p)).1≤n∧_
   rw [if_neg (by omega)]
   unfold kas_tail3
   rw [Wx]
   obtain ⟨b1,b2,b3,_⟩:=Gr (K:=K) (kas_rev p 0 m') (n - m') m' (by omega) (Zlh (by omega) i4)
   generalize kval (kLt K) (kas_asc (kas_rev p 0 m') (n - m') m')=m2 at b1 b2 b3
   exact ⟨by show m2≤n; omega,by show 1≤m2; omega,mirror_perm _ _ _ _,b3⟩
theorem Ul {p:Array Nat} {k:Nat} (hs:Srt K p k):∀ (g l r:Nat),r - l≤g→l≤r→r≤k→(∀ i,i < l→kAt K p i≤kAt K p k)→(∀ i,r≤i→i < k→kAt K p k < kAt K p i)→kval (kLt K) (kas_place p k g l r)≤k∧(∀ i,i < kval (kLt K) (kas_place p k g l r)→kAt K p i≤kAt K p k)∧(∀ i,kval (kLt K) (kas_place p k g l r)≤i→i < k→kAt K p k < kAt K p i)
 | 0,l,r,hg,hlr,hrk,h1,h2=>⟨by show l≤k; omega,h1,fun i hi hk=>h2 i (by have:l≤i:=hi; omega) hk⟩
 | g + 1,l,r,hg,hlr,hrk,h1,h2=>by
  have e:kval (kLt K) (kas_place p k (g + 1) l r)=kval (kLt K) (if l ≥ r then .ret l else .ask (p.getD k 0) (p.getD ((l + r) / 2) 0) fun c=>if c=true then kas_place p k g l ((l + r) / 2) else kas_place p k g ((l + r) / 2 + 1) r):=rfl
  rw [e]
  by_cases c:l ≥ r
  ·rw [if_pos c]
   exact ⟨by show l≤k; omega,h1,fun i hi hk=>h2 i (by have:l≤i:=hi; omega) hk⟩
  ·rw [if_neg c]
   show kval (kLt K) (if kLt K (p.getD k 0) (p.getD ((l + r) / 2) 0)=true then kas_place p k g l ((l + r) / 2) else kas_place p k g ((l + r) / 2 + 1) r)≤k∧(∀ i,i < kval (kLt K) (if kLt K (p.getD k 0) (p.getD ((l + r) / 2) 0)=true then kas_place p k g l ((l + r) / 2) else kas_place p k g ((l + r) / 2 + 1) r)→kAt K p i≤kAt K p k)∧(∀ i,kval (kLt K) (if kLt K (p.getD k 0) (p.getD ((l + r) / 2) 0)=true then kas_place p k g l ((l + r) / 2) else kas_place p k g ((l + r) / 2 + 1) r)≤i→i < k→kAt K p k < kAt K p i)
   generalize hmid:(l + r) / 2=mid
   have m1:l≤mid:=by omega
   have m2:mid < r:=by omega
   by_cases c2:kLt K (p.getD k 0) (p.getD mid 0)=true
   ·rw [if_pos c2]
    have lt:kAt K p k < kAt K p mid:=of_decide_eq_true c2
    refine Ul hs g l mid (by omega) m1 (by omega) h1 fun i hi hk=>?_
    rcases Nat.lt_or_ge mid i with d | d
    ·exact Int.lt_of_lt_of_le lt (hs mid i d hk)
    ·have:i=mid:=by omega
     rw [this]; exact lt
   ·rw [if_neg c2]
    have le:kAt K p mid≤kAt K p k:=by
     unfold kLt at c2
     rw [decide_eq_true_iff] at c2
     unfold kAt
     omega
    refine Ul hs g (mid + 1) r (by omega) (by omega) hrk (fun i hi=>?_) h2
    rcases Nat.lt_or_ge i mid with d | d
    ·exact Int.le_trans (hs i mid d (by omega)) le
    ·have:i=mid:=by omega
     rw [this]; exact le
theorem Zl8 {p:Array Nat} {k l:Nat} (hk:k < p.size) (hs:Srt K p k) (hl:l≤k) (h1:∀ i,i < l→kAt K p i≤kAt K p k) (h2:∀ i,l≤i→i < k→kAt K p k < kAt K p i):Srt K (bubble p k (k - l)) (k + 1):=fun i j hij hj=>by
 have e:∀ z,kAt K (bubble p k (k - l)) z=if z=l then kAt K p k else if l < z∧z≤k then kAt K p (z - 1) else kAt K p z:=fun z=>by
  have g:=getElem?_bubble hk (k - l) (by omega) z
  rw [show k - (k - l)=l by omega] at g
  by_cases c1:z=l
  ·rw [if_pos c1] at g ⊢; exact Qt g
  ·rw [if_neg c1] at g ⊢
   by_cases c2:l < z∧z≤k
   ·rw [if_pos c2] at g ⊢; exact Qt g
   ·rw [if_neg c2] at g ⊢; exact Qt g
 rw [e i,e j]
 by_cases i1:i=l
 ·rw [if_pos i1,if_neg (by omega),if_pos ⟨by omega,by omega⟩]
  exact Int.le_of_lt (h2 (j - 1) (by omega) (by omega))
 ·rw [if_neg i1]
  by_cases j1:j=l
  ·rw [if_pos j1,if_neg (by omega)]
   exact h1 i (by omega)
  ·rw [if_neg j1]
   by_cases i2:l < i∧i≤k
   ·rw [if_pos i2,if_pos ⟨by omega,by omega⟩]
    exact hs (i - 1) (j - 1) (by omega) (by omega)
   ·rw [if_neg i2]
    by_cases j2:l < j∧j≤k
    ·rw [if_pos j2]
     rcases Nat.lt_or_ge i (j - 1) with c | c
     ·exact hs i (j - 1) c (by omega)
     ·omega
    ·rw [if_neg j2]
     exact hs i j hij (by omega)
theorem Ze5:∀ (g:Nat) (p:Array Nat) (k:Nat),k + g≤p.size→Srt K p k→(kval (kLt K) (kas_bin g p k)).Perm p∧Srt K (kval (kLt K) (kas_bin g p k)) (k + g)
 | 0,p,k,_,h=>⟨.refl _,h⟩
 | g + 1,p,k,hk,h=>by
  have e:kval (kLt K) (kas_bin (g + 1) p k)=kval (kLt K) (kas_bin g (bubble p k (k - kval (kLt K) (kas_place p k k 0 k))) (k + 1)):=Wx _ _ _
  rw [e]
  obtain ⟨a1,a2,a3⟩:=Ul h k 0 k (by omega) (Nat.zero_le _) (Nat.le_refl _) (fun i hi=>by omega) (fun i h1 h2=>by omega)
  generalize kval (kLt K) (kas_place p k k 0 k)=l at a1 a2 a3
  obtain ⟨b1,b2⟩:=Ze5 g (bubble p k (k - l)) (k + 1) (by rw [bubble_size]; omega) (Zl8 (by omega) h a1 a2 a3)
  exact ⟨b1.trans (bubble_perm _ _ _),by rw [show k + (g + 1)=k + 1 + g by omega]; exact b2⟩
theorem Za1 {n:Nat} (h1:1≤n) (hd:∀ i j,i < j→j < n→K i≠K j):(kval (kLt K) (kas_sort n)).Perm (List.toArray (List.range n))∧Srt K (kval (kLt K) (kas_sort n)) n:=by
 unfold kas_sort
 rw [Wx]
 have hz:(List.toArray (List.range n)).size=n:=by simp
 have hg:∀ i,i < n→(List.toArray (List.range n)).getD i 0=i:=fun i hi=>by simp [Array.getD_eq_getD_getElem?,hi]
 obtain ⟨c1,c2,c3,c4⟩:=Zik (K:=K) (p:=List.toArray (List.range n)) h1 hz.symm (fun i j hij hj=>by unfold kAt; rw [hg i (by omega),hg j hj]; exact hd i j hij hj)
 generalize kval (kLt K) (kas_count n (List.toArray (List.range n)))=r at c1 c2 c3 c4
 have hr:r.2.size=n:=by rw [c3.size_eq]; exact hz
 by_cases c:r.1 < n
 ·rw [if_pos c,Nat.max_eq_left c2]
  obtain ⟨b1,b2⟩:=Ze5 (K:=K) (n - r.1) r.2 r.1 (by omega) c4
  rw [show r.1 + (n - r.1)=n by omega] at b2
  exact ⟨b1.trans c3,b2⟩
 ·rw [if_neg c]
  have:r.1=n:=by omega
  rw [this] at c4
  exact ⟨c3,c4⟩
end
end L2
set_option maxHeartbeats 4000000
namespace L2
open PySem PySem.Spec PyProof.Rows PySem.W
noncomputable def Rng {α:Type} (n:Nat) (P:α→Prop):KasT α→Prop
 | .ret a=>P a
 | .ask i j k=>i < n∧j < n∧∀ b,Rng n P (k b)
theorem Rng.bind {α β:Type} {n:Nat} {P:α→Prop} {R:β→Prop} {g:α→KasT β} (hg:∀ a,P a→Rng n R (g a)):∀ t:KasT α,Rng n P t→Rng n R (t.bind g)
 | .ret a,h=>hg a h
 | .ask i j k,h=>⟨h.1,h.2.1,fun b=>Rng.bind hg (k b) (h.2.2 b)⟩
theorem Vw {α:Type} {n:Nat} {P:α→Prop} {cmp:Nat→Nat→(Bool→Shared→Prop)→Shared→Prop} {f:Nat→Nat→Bool} {s:Shared} (hc:∀ i j,i < n→j < n→∀ C,C (f i j) s→cmp i j C s):∀ (t:KasT α) (Q:α→Shared→Prop),Rng n P t→Q (kval f t) s→t.kasWp cmp Q s
 | .ret _,_,_,h=>h
 | .ask i j k,Q,r,h=>hc i j r.1 r.2.1 _ (Vw hc (k (f i j)) Q (r.2.2 _) h)
noncomputable def Ent (n:Nat) (p:Array Nat):Prop:=0 < n∧∀ v∈p.toList,v < n
theorem Ent.at {n:Nat} {p:Array Nat} (h:Ent n p) (x:Nat):p.getD x 0 < n:=by
 rw [Array.getD_eq_getD_getElem?]
 cases e:p[x]? with
 | none=>exact h.1
 | some v =>
  refine h.2 v ?_
  obtain ⟨hx,e'⟩:=Array.getElem?_eq_some_iff.mp e
  rw [← e']
  exact Array.getElem_mem_toList hx
theorem Ent.perm {n:Nat} {p q:Array Nat} (h:Ent n p) (e:q.Perm p):Ent n q:=⟨h.1,fun v hv=>h.2 v ((Array.perm_iff_toList_perm.mp e).mem_iff.mp hv)⟩
theorem Ent.rev {n:Nat} {p:Array Nat} (h:Ent n p) (i j:Nat):Ent n (kas_rev p i j):=h.perm (mirror_perm _ _ _ _)
theorem Gs {n:Nat} {p:Array Nat} (h:Ent n p):∀ g k,Rng n (fun _:Nat=>True) (kas_asc p g k)
 | 0,_=>trivial
 | g + 1,k=>⟨h.at _,h.at _,fun b=>by
  show Rng n _ (if b=true then .ret k else kas_asc p g (k + 1))
  split
  ·trivial
  ·exact Gs h g (k + 1)⟩
theorem Vz {n:Nat}:∀ (g:Nat) (p:Array Nat) (k q:Nat),Ent n p→Rng n (fun r:Array Nat × Nat × Nat=>Ent n r.1) (kas_desc g p k q)
 | 0,p,_,_,h=>h
 | g + 1,p,k,q,h=>⟨h.at _,h.at _,fun b=>by
  show Rng n _ (if b=true then (if q > 0 then kas_desc g (kas_rev p (k - (q + 1)) k) (k + 1) 0 else kas_desc g p (k + 1) 0) else .ask (p.getD (k - 1) 0) (p.getD k 0) fun d=>if d=true then .ret (p,k,q) else kas_desc g p (k + 1) (q + 1))
  split
  ·split
   ·exact Vz g _ _ _ (h.rev _ _)
   ·exact Vz g _ _ _ h
  ·refine ⟨h.at _,h.at _,fun d=>?_⟩
   show Rng n _ (if d=true then .ret (p,k,q) else kas_desc g p (k + 1) (q + 1))
   split
   ·exact h
   ·exact Vz g _ _ _ h⟩
theorem Zar {n:Nat} {p:Array Nat} (h:Ent n p) (k m:Nat):Rng n (fun r:Nat × Array Nat=>Ent n r.2) (kas_tail3 k m p) :=
 Rng.bind (P:=fun _=>True) (fun m' _=>(show Rng n (fun r:Nat × Array Nat=>Ent n r.2) (.ret (m',kas_rev p 0 k)) from h.rev _ _)) _ (Gs (h.rev _ _) _ _)
theorem Zbs {n:Nat} {p:Array Nat} (h:Ent n p) (k m:Nat):Rng n (fun r:Nat × Array Nat=>Ent n r.2) (kas_descPart k m p) :=
 Rng.bind (P:=fun r=>Ent n r.1) (fun r hr=>by
  split
  ·exact Zar (hr.rev _ _) _ _
  ·exact Zar hr _ _) _ (Vz _ _ _ _ h)
theorem Zil {n:Nat} {p:Array Nat} (h:Ent n p) (m:Nat):Rng n (fun r:Nat × Array Nat=>Ent n r.2) (kas_count m p) :=
 Rng.bind (P:=fun _=>True) (fun k _=>by
  split
  ·exact h
  ·split
   ·refine ⟨h.at _,h.at _,fun c=>?_⟩
    show Rng n _ (if c=true then .ret (k,p) else kas_descPart k m (kas_rev p 0 k))
    split
    ·exact h
    ·exact Zbs (h.rev _ _) _ _
   ·exact Zbs h _ _) _ (Gs h _ _)
theorem Um {n:Nat} {p:Array Nat} (h:Ent n p) (k:Nat):∀ g l r,Rng n (fun _:Nat=>True) (kas_place p k g l r)
 | 0,_,_=>trivial
 | g + 1,l,r=>by
  show Rng n _ (if l ≥ r then .ret l else .ask (p.getD k 0) (p.getD ((l + r) / 2) 0) fun c=>if c=true then kas_place p k g l ((l + r) / 2) else kas_place p k g ((l + r) / 2 + 1) r)
  split
  ·trivial
  ·refine ⟨h.at _,h.at _,fun c=>?_⟩
   show Rng n _ (if c=true then kas_place p k g l ((l + r) / 2) else kas_place p k g ((l + r) / 2 + 1) r)
   split
   ·exact Um h k g _ _
   ·exact Um h k g _ _
theorem Ze6 {n:Nat}:∀ (g:Nat) (p:Array Nat) (k:Nat),Ent n p→Rng n (fun r:Array Nat=>Ent n r) (kas_bin g p k)
 | 0,_,_,h=>h
 | g + 1,p,k,h=>Rng.bind (P:=fun _=>True) (fun l _=>Ze6 g _ _ (h.perm (bubble_perm _ _ _))) _ (Um h k _ _ _)
theorem Za2 {n:Nat} (h:0 < n):Rng n (fun r:Array Nat=>Ent n r) (kas_sort n) :=
 Rng.bind (P:=fun r=>Ent n r.2) (fun r hr=>by
  split
  ·exact Ze6 _ _ _ hr
  ·exact hr) _ (Zil ⟨h,fun v hv=>by simpa using hv⟩ n)
section
variable {prog:Program} {w:World} {A:Around} {E:Value→Shared→Prop} {s:Shared}
theorem F8 {a:Addr} {vs:List Value} {n:Nat} {P:PySem.Fin→Shared→Prop} {K:Nat→Int} (ho:s.heap.get? a=some (seqObj "list" vs.toArray n)) (h64:vs.length < 64) (hd:∀ i j,i < j→j < vs.length→K i≠K j)
  (hq:2≤vs.length→∀ h6:Heap,(∀ b o,b≠a→s.heap.get? b=some o→h6.get? b=some o)→∃ κ,(∀ Q:SortKind→Shared→Prop,Q κ { s with heap:=h6 }→wpAny (model prog w) A (keyKind' vs.toArray) Q E { s with heap:=h6 }) ∧
   ∀ i j,i < vs.length→j < vs.length→∀ C:Bool→Shared→Prop,C (decide (K i < K j)) { s with heap:=h6 }→wpAny (model prog w) A (keyLt' κ (vs.getD i Value.none) (vs.getD j Value.none)) C (fun _ _=>False) { s with heap:=h6 })
  (h:∀ p:List Nat,p.Perm (List.range vs.length)→p.Pairwise (fun i j=>K i≤K j)→P (.done (.ret .none)) { s with heap:=sortedHeap s.heap a vs (p.map fun i=>vs.getD i Value.none).toArray }) :
  wpAny (model prog w) A (Builtin.«list.sort» ⟨[.ref a],[]⟩) P E s:=by
 rw [list_sort_plain]
 have ha:a < s.heap.objs.size:=Heap.lt_size ho
 refine wpAny_bind (listItems_at ho rfl ?_)
 refine wpAny_bind (listUpdate_at ho rfl ?_)
 obtain ⟨e1,ho1⟩:∃ e1,(s.heap.update a (Obj.mapSeq fun _=>#[])).get? a=some (seqObj "list" #[] e1):=⟨_,get?_update_seq ho (fun _=>#[])⟩
 refine wpAny_bind (seqEpoch_at ho1 rfl ?_)
 refine wpAny_bind (wpAny_newTuple ?_)
 refine wpAny_bind (wpAny_newList ?_)
 refine wpAny_holding ?_
 have ho6:(((s.heap.update a (Obj.mapSeq fun _=>#[])).push (seqObj "tuple" vs.toArray 0)).push (seqObj "list" #[] 0)).get? a=some (seqObj "list" #[] e1):=by
  rw [Heap.get?_push_ne _ _ _ (by rw [size_push',Heap.size_update]; exact Nat.ne_of_lt (Nat.lt_succ_of_lt ha)),Heap.get?_push_ne _ _ _ (by rw [Heap.size_update]; exact Nat.ne_of_lt ha)]
  exact ho1
 have hk6:∀ b o,b≠a→s.heap.get? b=some o→(((s.heap.update a (Obj.mapSeq fun _=>#[])).push (seqObj "tuple" vs.toArray 0)).push (seqObj "list" #[] 0)).get? b=some o:=fun b o hb e =>
  Heap.get?_push_of_some _ (Heap.get?_push_of_some _ ((Heap.get?_update_other _ _ (Ne.symm hb)).trans e))
 show wpAny (model prog w) A _ P E { s with heap:=((s.heap.update a (Obj.mapSeq fun _=>#[])).push (seqObj "tuple" vs.toArray 0)).push (seqObj "list" #[] 0) }
 dsimp only
 have hsz:vs.toArray.size=vs.length:=by simp
 by_cases h2:vs.toArray.size < 2
 ·rw [if_pos h2,if_pos h2]
  refine wpAny_bind (wpAny_pure ?_)
  rw [StateT.run_pure]
  refine wpAny_bind (wpAny_pure ?_)
  dsimp only
  refine wpAny_bind (seqEpoch_at ho6 rfl ?_)
  refine wpAny_bind (listUpdate_at ho6 rfl ?_ (hsz2:=by rw [Array.size_map]; show (pairsOf vs).size≤_; rw [pairsOf_size,sizeLine_eq]; omega))
  simp only [bne_self_eq_false,Bool.false_eq_true,if_false]
  have fin:=h (List.range vs.length) (.refl _) (by
   rcases Nat.lt_or_ge vs.length 1 with c | c
   ·rw [show vs.length=0 by omega]; exact List.Pairwise.nil
   ·rw [show vs.length=1 by omega]; exact List.pairwise_singleton _ _)
  refine wpAny_pure ?_
  have e:((List.range vs.length).map fun i=>vs.getD i Value.none).toArray=(arrOf (SortSt.mk' general' (vs.toArray.zip vs.toArray) #[] 7 none)).map (·.2):=by
   show _=(vs.toArray.zip vs.toArray).map (·.2)
   clear fin hq h ho6 hk6 ho
   match vs,h2 with
   | [],_=>simp
   | [v],_=>simp
   | _ :: _ :: _,h2=>exact absurd h2 (by simp)
  rw [e] at fin
  exact fin
 ·rw [if_neg h2,if_neg h2]
  have h2':2≤vs.length:=by omega
  obtain ⟨κ,k1,k2⟩:=hq h2' _ hk6
  refine wpAny_bind (k1 _ ?_)
  refine wpAny_bind (wpAny_mono (kat_run (ks:=vs) (vs:=vs) (κ:=κ) (G:=fun p s'=>p=kval (kLt K) (kas_sort vs.length)∧s'={ s with heap:=((s.heap.update a (Obj.mapSeq fun _=>#[])).push (seqObj "tuple" vs.toArray 0)).push (seqObj "list" #[] 0) })
   (Q:=fun st' s'=>s'={ s with heap:=((s.heap.update a (Obj.mapSeq fun _=>#[])).push (seqObj "tuple" vs.toArray 0)).push (seqObj "list" #[] 0) }∧failedOf st'=none∧(kval (kLt K) (kas_sort vs.length)).size=vs.length∧arrOf st'=(kval (kLt K) (kas_sort vs.length)).map (kas_item (vs.toArray.zip vs.toArray)))
   rfl h2' h64 (fun p st' s' hp harr hf hg=>by obtain ⟨rfl,rfl⟩:=hg; exact ⟨rfl,hf,hp,harr⟩) (Vw (n:=vs.length) (f:=kLt K) (fun i j hi hj C hC=>k2 i j hi hj C hC) _ _ (Za2 (by omega)) ⟨rfl,rfl⟩)) ?_ fun _ _ e=>e)
  rintro ⟨⟨⟩,st'⟩ s' ⟨rfl,hf,hp,harr⟩
  obtain ⟨v1,v2⟩:=Za1 (K:=K) (n:=vs.length) (by omega) hd
  generalize kval (kLt K) (kas_sort vs.length)=p at hp harr v1 v2
  dsimp only
  have hp':p.toList.Perm (List.range vs.length):=by
   have:=Array.perm_iff_toList_perm.mp v1
   simpa using this
  refine wpAny_bind (seqEpoch_at ho6 rfl ?_)
  have eo:=kat_snds (ks:=vs) (vs:=vs) rfl harr
  refine wpAny_bind (listUpdate_at ho6 rfl ?_ (hsz2:=by rw [eo]; show (List.toArray (p.toList.map fun i=>vs.getD i Value.none)).size≤_; simp; rw [hp,sizeLine_eq]; omega))
  rw [hf]
  simp only [bne_self_eq_false,Bool.false_eq_true,if_false]
  refine wpAny_pure ?_
  rw [eo]
  refine h p.toList hp' ?_
  rw [List.pairwise_iff_getElem]
  intro i j hi hj hij
  have:=v2 i j hij (by rw [← hp]; exact hj)
  unfold kAt at this
  have g:∀ k (hk:k < p.toList.length),p.getD k 0=p.toList[k]:=fun k hk=>by simp [Array.getD_eq_getD_getElem?,show k < p.size from hk]
  rw [g i hi,g j hj] at this
  exact this
end
end L2
set_option maxHeartbeats 4000000
namespace L2
open PySem PySem.Spec PyProof.Rows PySem.W
section
variable {prog:Program} {w:World} {A:Around} {E:Value→Shared→Prop} {s:Shared}
theorem Zdr {v:Value} {Q:Bool→Shared→Prop} (hv:(v == v)=true) (h:Q true s):wpAny (model prog w) A (eqBool v v) Q E s:=by
 unfold eqBool
 refine wpAny_holding ?_
 rw [if_pos hv]
 exact wpAny_bind (wpAny_rule (wpAny_pure h))
theorem Zcc {b fin:Bool} {Q:Bool→Shared→Prop} (hb:∀ v:Value,(v == v)=true) (h:Q fin s):∀ (l:List Value) (i:Nat),KatLex prog w A b fin Q (l.zip l) i s
 | [],_=>kat_nil h
 | v :: l,i=>kat_cons (Zdr (hb v) (kat_yes (Zcc hb h l (i + 1))))
end
theorem Gi {ts:List Addr}:∀ {its:List Value},Vals (ts.map V.ref) its→its=ts.map Value.ref:=by
 induction ts with
 | nil=>intro its h; cases h; rfl
 | cons t r ih =>
  intro its h
  cases h with
  | cons a b =>
   obtain rfl:=(show _=Value.ref t from a)
   rw [ih b]
   rfl
section
variable {X:Cx}
theorem Zcv:Y7 X (.builtin "sorted") (fun xs H Q=>∃ (p:Addr) (ts:List Addr) (ks:List Int),xs=[.ref p]∧SqL X.K H p (ts.map V.ref)∧ks.length=ts.length∧ts.length < 64∧ks.Nodup ∧
  (∀ (k:Nat) (t:Addr) (n:Int),ts[k]?=some t→ks[k]?=some n→∃ r,SqT X.K H t (V.int n :: r)) ∧
  ∀ (q:Addr) (out:List Nat),H q=none→out.Perm (List.range ts.length)→out.Pairwise (fun i j=>ks.getD i 0≤ks.getD j 0)→Q (.ref q) (upd H q (.lst (out.map fun i=>V.ref (ts.getD i 0))))):=by
 intro pins s σ H xs us Q I r h
 obtain ⟨p,ts,ks,rfl,hp,hlen,h64,nd,htup,q⟩:=h
 obtain ⟨u,rfl,ru⟩:=Wd r
 obtain rfl:u=Value.ref p:=ru
 obtain ⟨its,rv,pl,_⟩:=I.list hp
 have hits:=Gi rv
 subst hits
 have hl:(ts.map Value.ref).length=ts.length:=List.length_map _
 refine Calls.call_function_entry kind_sorted plain_sorted entry_sorted (args_sorted1 _) ?_
 unfold Builtin.«sorted»
 refine wpAny_bind (m:=checkCount "sorted" 1 1 _) (wpAny_pure ?_)
 refine wpAny_bind (collect_list pl.isList ?_ (by rw [hl,sizeLine_eq]; omega))
 have hk':∀ b o,s.heap.get? b=some o→((s.heap.push (seqObj "list" #[] 0)).update s.heap.objs.size (Obj.mapSeq fun x=>x ++ (ts.map Value.ref).toArray)).get? b=some o:=fun b o e =>
  (Heap.get?_update_other _ _ (Nat.ne_of_gt (Heap.lt_size e))).trans (Heap.get?_push_of_some _ e)
 generalize (s.heap.push (seqObj "list" #[] 0)).update s.heap.objs.size (Obj.mapSeq fun x=>x ++ (ts.map Value.ref).toArray)=h' at hk'
 refine wpAny_bind (wpAny_newList ?_ (by rw [hl,sizeLine_eq]; omega))
 have I1:Inv X pins σ H { s with heap:=h' }:=I.kept (t':=s.toks) hk'
 have hoL:(h'.push { cls:=.type "list",data:=.seq (ts.map Value.ref).toArray }).get? h'.objs.size=some (seqObj "list" (ts.map Value.ref).toArray 0):=Heap.get?_push_size _ rfl
 have tk:∀ k,k < ts.length→∃ t n,ts[k]?=some t∧ks[k]?=some n∧ks.getD k 0=n∧(ts.map Value.ref).getD k Value.none=.ref t:=fun k hk=>by
  refine ⟨ts[k],ks[k]'(by omega),List.getElem?_eq_getElem hk,List.getElem?_eq_getElem (by omega),?_,?_⟩
  ·rw [List.getD_eq_getElem?_getD,List.getElem?_eq_getElem (by omega)]; rfl
  ·rw [List.getD_eq_getElem?_getD,List.getElem?_map,List.getElem?_eq_getElem hk]; rfl
 have hd:∀ i j,i < j→j < (ts.map Value.ref).length→ks.getD i 0≠ks.getD j 0:=fun i j hij hj e=>by
  rw [hl] at hj
  obtain ⟨_,n1,_,e1,g1,_⟩:=tk i (by omega)
  obtain ⟨_,n2,_,e2,g2,_⟩:=tk j hj
  rw [g1,g2] at e
  rw [e] at e1
  obtain ⟨a1,a2⟩:=List.getElem?_eq_some_iff.mp e1
  obtain ⟨b1,b2⟩:=List.getElem?_eq_some_iff.mp e2
  have:=(List.getElem_inj nd (h₀:=a1) (h₁:=b1)).mp (a2.trans b2.symm)
  omega
 have tp:∀ (h6:Heap),(∀ b o,b≠h'.objs.size→(h'.push { cls:=.type "list",data:=.seq (ts.map Value.ref).toArray }).get? b=some o→h6.get? b=some o)→∀ k t n,ts[k]?=some t→ks[k]?=some n→∃ o tok us m,h6.get? t=some o∧o.cls=.type "tuple"∧o.data=.seq (Value.int n tok :: us).toArray m:=fun h6 hk6 k t n ht hn=>by
  obtain ⟨r,hr⟩:=htup k t n ht hn
  obtain ⟨its,rv,⟨o,ho,hc,m,hd⟩,_⟩:=I1.tuple hr
  cases rv with
  | cons a b =>
   obtain ⟨tok,rfl⟩:=a
   exact ⟨o,tok,_,m,hk6 t o (Nat.ne_of_lt (Heap.lt_size ho)) (Heap.get?_push_of_some _ ho),hc,hd⟩
 refine wpAny_bind (wpAny_holding (wpAny_call_entry slot_list_sort ⟨_,hoL,rfl⟩ entry_list_sort (F8 (K:=fun i=>ks.getD i 0) hoL (by rw [hl]; exact h64) hd (fun h2 h6 hk6=>⟨tuples' true,fun Qk hQk=>?_,fun i j hi hj C hC=>?_⟩) fun pp hp1 hp2=>⟨_,rfl,?_⟩) (args_list_sort _)))
 ·-- the kind
  have kt:∀ (l:List Addr) (n:List Int),n.length=l.length→(∀ k t x,l[k]?=some t→n[k]?=some x→∃ o tok us m,h6.get? t=some o∧o.cls=.type "tuple"∧o.data=.seq (Value.int x tok :: us).toArray m)→∃ fs,KatTups h6 (l.map Value.ref) fs∧fs.length=l.length∧∀ v∈fs,∃ x tok,v=Value.int x tok:=fun l=>by
   induction l with
   | nil=>exact fun n _ _=>⟨[],KatTups.nil,rfl,fun v hv=>absurd hv List.not_mem_nil⟩
   | cons t l ih =>
    intro n hn hx
    cases n with
    | nil=>simp at hn
    | cons x n =>
     obtain ⟨fs,f1,f2,f3⟩:=ih n (by simpa using hn) (fun k t y h1 h2=>hx (k + 1) t y h1 h2)
     obtain ⟨o,tok,us,m,o1,o2,o3⟩:=hx 0 t x rfl rfl
     exact ⟨Value.int x tok :: fs,KatTups.cons o1 o2 o3 rfl f1,by simp [f2],fun v hv=>by rcases List.mem_cons.mp hv with e | e; exact ⟨x,tok,e⟩; exact f3 v e⟩
  obtain ⟨fs,f1,f2,f3⟩:=kt ts ks hlen (tp h6 hk6)
  rw [hl] at h2
  exact kat_kind (T:=.type "int") f1 (by omega) (fun v hv=>by obtain ⟨x,tok,rfl⟩:=f3 v hv; exact Looks.of_pure rfl) rfl hQk
 ·rw [hl] at hi hj
  obtain ⟨t1,n1,e1,e2,e3,e4⟩:=tk i hi
  obtain ⟨t2,n2,g1,g2,g3,g4⟩:=tk j hj
  rw [e4,g4]
  obtain ⟨o1,k1,u1,m1,x1,x2,x3⟩:=tp h6 hk6 i t1 n1 e1 e2
  obtain ⟨o2,k2,u2,m2,y1,y2,y3⟩:=tp h6 hk6 j t2 n2 g1 g2
  dsimp only at hC
  rw [e3,g3] at hC
  refine kat_lt x1 x3 y1 y3 ?_
  by_cases hij:n1=n2
  ·have:t1=t2:=by
    rw [hij] at e2
    obtain ⟨a1,a2⟩:=List.getElem?_eq_some_iff.mp e2
    obtain ⟨b1,b2⟩:=List.getElem?_eq_some_iff.mp g2
    have:=(List.getElem_inj nd (h₀:=a1) (h₁:=b1)).mp (a2.trans b2.symm)
    rw [this,g1] at e1
    exact (Option.some.inj e1).symm
   subst this
   rw [x1] at y1
   cases y1
   rw [x3] at y3
   injection y3 with y3 _
   have y4:=congrArg Array.toList y3
   rw [← y3]
   refine Zcc (fun v=>by simp) ?_ _ 0
   rw [hij,decide_eq_false (Int.lt_irrefl n2)] at hC
   rw [decide_eq_false (Nat.lt_irrefl _)]
   exact hC
  ·show KatLex _ _ _ _ _ _ ((Value.int n1 k1,Value.int n2 k2) :: u1.zip u2) 0 _
   refine kat_cons (wpAny_eqBool_int ?_)
   rw [show (n1 == n2)=false by simpa using hij]
   refine kat_no ?_
   exact oneLt_int hC
 ·refine wpAny_pure ⟨_,rfl,?_⟩
  obtain ⟨e,he⟩:=sortedHeap_at (out:=(pp.map fun i=>(ts.map Value.ref).getD i Value.none).toArray) hoL
  have kp:∀ b u,h'.get? b=some u→(sortedHeap (h'.push { cls:=.type "list",data:=.seq (ts.map Value.ref).toArray }) h'.objs.size (ts.map Value.ref) (pp.map fun i=>(ts.map Value.ref).getD i Value.none).toArray).get? b=some u:=fun b u hb=>by
   have hlt:b < h'.objs.size:=Heap.lt_size hb
   rw [sortedHeap_old (Nat.ne_of_lt hlt) (by rw [Heap.size_push]; exact Nat.lt_succ_of_lt hlt)]
   exact Heap.get?_push_of_some _ hb
  rw [hl] at hp1
  have hv:Vals (pp.map fun i=>V.ref (ts.getD i 0)) (pp.map fun i=>(ts.map Value.ref).getD i Value.none):=by
   have hm:∀ i∈pp,i < ts.length:=fun i hi=>by simpa using hp1.mem_iff.mp hi
   clear he kp hp1 hp2
   induction pp with
   | nil=>exact .nil
   | cons i pp ih =>
    refine .cons ?_ (ih fun j hj=>hm j (List.mem_cons_of_mem _ hj))
    obtain ⟨t1,n1,e1,e2,e3,e4⟩:=tk i (hm i List.mem_cons_self)
    show RelV (V.ref (ts.getD i 0)) ((ts.map Value.ref).getD i Value.none)
    rw [e4,List.getD_eq_getElem?_getD,e1]
    rfl
  refine ⟨.ref h'.objs.size,upd H h'.objs.size (.lst (pp.map fun i=>V.ref (ts.getD i 0))),I1.laid kp (Nat.le_refl _) ?_,rfl,q _ pp I1.fresh hp1 hp2⟩
  refine ⟨?_,(pp.map fun i=>(ts.map Value.ref).getD i Value.none),e,hv,?_⟩
  ·rw [List.length_map,hp1.length_eq,List.length_range,sizeLine_eq]; omega
  ·exact he
end
end L2
set_option maxHeartbeats 4000000
namespace L2
open PySem PySem.Spec PyProof.Rows
section
variable {X:Cx}
theorem U0 (hc:X.calm=true):Y7 X (.builtin "min") (fun xs H Q=>∃ (p:Addr) (ns:List Int),xs=[.ref p]∧SqL X.K H p (ns.map V.int)∧0 < ns.length∧∀ m,m∈ns→(∀ a∈ns,m≤a)→Q (.int m) H):=by
 intro pins s σ H xs us Q I r h
 obtain ⟨p,ns,rfl,hq,hn,q⟩:=h
 obtain ⟨u,rfl,ru⟩:=Wd r
 cases ru
 obtain ⟨its,rv,pl,hz⟩:=I.list hq
 have lt:p < s.heap.objs.size:=by obtain ⟨o,ho,_⟩:=pl.isList; exact Heap.lt_size ho
 have hlen:its.toArray.size=ns.length:=by have:=rv.length; rw [List.length_map] at this; simp; omega
 have W:=Zcg (pins:=pins) (σ:=σ) (H:=H) (s:=s) rv
 refine call_min_walk (wpAny_pyIter_list pl.isList ⟨s.heap.objs.size,_,_,_,_,_,_,rfl,Walks.list (A:=X.A.in1) (show X.A.in1.handled=none from I.ok.hd hc) s.heap.objs.size p (Nat.ne_of_lt lt) its.toArray,⟨⟨_,Heap.get?_push_size _ rfl,rfl,rfl⟩,pl.isList.push _⟩,?_,by rw [hlen]; exact hn,CmpOf.ints_lt (fun i=>ns.getD i 0) W,?_⟩)
 ·intro b hb
  show b < (s.heap.push _).objs.size
  rw [Heap.size_push]
  rcases List.mem_cons.mp hb with rfl | hb
  ·exact Nat.lt_succ_self _
  ·rw [List.mem_singleton.mp hb]; exact Nat.lt_succ_of_lt lt
 ·intro v h' tk hP hk
  have I1:Inv X pins σ H { s with heap:=h',toks:=tk }:=I.kept fun b o e=>hk b o (fun z=>absurd (Heap.lt_size e) (by rw [List.mem_singleton.mp z]; exact Nat.lt_irrefl _)) (Heap.get?_push_of_some _ e)
  rw [hlen] at hP
  obtain ⟨a1,a2⟩:=argBest_lt (fun i=>ns.getD i 0) (ns.length - 1)
  obtain ⟨t,e⟩:=W _ _ hP
  generalize argBest (fun i j=>decide (ns.getD i 0 < ns.getD j 0)) (ns.length - 1)=k at a1 a2 e
  have hk':k < ns.length:=by omega
  have ek:ns.getD k 0=ns[k]:=by rw [List.getD_eq_getElem?_getD,List.getElem?_eq_getElem hk']; rfl
  refine ⟨.int (ns.getD k 0),H,I1,⟨t,e⟩,q _ (by rw [ek]; exact List.getElem_mem hk') fun a ha=>?_⟩
  obtain ⟨j,hj,rfl⟩:=List.mem_iff_getElem.mp ha
  have:=a2 j (by omega)
  rw [List.getD_eq_getElem?_getD,List.getElem?_eq_getElem hk',List.getD_eq_getElem?_getD,List.getElem?_eq_getElem hj] at this
  have ek2:ns.getD k 0=ns[k]:=ek
  rw [ek2]
  simpa using this
theorem Zf8 (K:PySem.W.Frag) (hc:X.calm=true) (h:X.K=K:=by rfl):Y7 X (.builtin "min") (fun xs H Q=>∃ (p:Addr) (ns:List Int),xs=[.ref p]∧SqL K H p (ns.map V.int)∧0 < ns.length∧∀ m,m∈ns→(∀ a∈ns,m≤a)→Q (.int m) H):=h ▸ U0 hc
end
end L2
set_option maxHeartbeats 4000000
namespace L2
open PySem PySem.Spec PyProof.Rows PySem.W
section
variable {X:Cx} {pins:List (Addr × Obj)} {σ:St} {H:Hp} {s:Shared} {a:Addr}
theorem Inv.thawL {xs:List V} {ob:Obj} (I:Inv X pins σ H s) (e:H a=some (.frz ob (.lst xs))) (h0:∀ o u,X.H₀ a≠some (.frz o u)):Inv X pins σ (upd H a (.lst xs)) s:=by
 have nown:∀ c y,H c=some (.own y)→c≠a:=fun c y r z=>by subst z; rw [r] at e; cases e
 have ntup:∀ c xs,H c=some (.tup xs)→c≠a:=fun c xs r z=>by subst z; rw [r] at e; cases e
 have nnon:∀ c,H c=none→c≠a:=fun c r z=>by subst z; rw [r] at e; cases e
 have hok:HOk X.prog X.w (upd H a (.lst xs)) s.heap:=fun b v q=>by
  have st:∀ c w',Zx X.prog X.w H s.heap c w'→Zx X.prog X.w (upd H a (.lst xs)) s.heap c w':=fun c w' x=>x.stay (fun _ _ _ q=>q) (fun d r=>by rw [Zd (nown d c r)]; exact r) fun d xs r=>by rw [Zd (ntup d xs r)]; exact r
  by_cases hb:b=a
  ·subst hb
   rw [Zb] at q
   cases q
   exact st _ _ (I.hok _ _ e).2
  ·rw [Zd hb] at q
   exact st _ _ (I.hok b v q)
 refine ⟨I.ok,I.os,I.bare,⟨I.base.keep,I.base.slot,fun b o q n hx=>?_,I.base.there,fun b xs q=>?_,fun b o u q=>?_,fun b ps q=>?_⟩,I.loc,I.cell,?_,fun x c q=>?_,fun p hp=>?_,hok,I.len⟩
 ·have:=I.base.free b o q n hx
  rw [Zd (nnon b this)]; exact this
 ·have:=I.base.tups b xs q
  rw [Zd (ntup b xs this)]; exact this
 ·have:=I.base.frzs b o u q
  rw [Zd (fun z=>by subst z; exact h0 _ _ q)]; exact this
 ·obtain ⟨more,z⟩:=I.base.tbls b ps q
  exact ⟨more,by rw [Zd (fun w=>by subst w; rw [z] at e; cases e)]; exact z⟩
 ·have:=I.free
  rw [Zd (nnon _ this)]; exact this
 ·have:=I.freeC x c q
  rw [Zd (nnon _ this)]; exact this
 ·obtain ⟨q1,q2,q3⟩:=I.pin p hp
  exact ⟨q1,by rw [Zd (nnon _ q2)]; exact q2,q3⟩
theorem Zn0 {f:Value} {A:Around} {E:Value→Shared→Prop} {P:PySem.Fin→Shared→Prop} {ts:List Addr} {ks:List Int} (I:Inv X pins σ H s) (hA:H a=some (.lst (ts.map V.ref))) (h0:∀ o u,X.H₀ a≠some (.frz o u)) (hlen:ks.length=ts.length) (h64:ts.length < 64) (nd:ks.Nodup)
  (turn:∀ (i:Nat) (t:Addr) (k:Int),ts[i]?=some t→ks[i]?=some k→∀ (H':Hp) (s':Shared),(∀ b u,b≠a→H b=some u→H' b=some u)→Inv X pins σ H' s'→wpAny (model X.prog X.w) A (call f [.ref t]) (fun v s''=>(∃ tok,v=.int k tok)∧Inv X pins σ H' s'') (fun _ _=>False) s')
  (fin:∀ (H':Hp) (out:List Nat) (s':Shared),out.Perm (List.range ts.length)→out.Pairwise (fun i j=>ks.getD i 0≤ks.getD j 0)→(∀ b u,b≠a→H b=some u→H' b=some u)→H' a=some (.lst (out.map fun i=>V.ref (ts.getD i 0)))→Inv X pins σ H' s'→P (.done (.ret .none)) s') :
  wpAny (model X.prog X.w) A (ksk_tree a f false) P E s:=by
 obtain ⟨z,its,n,r,hl,e⟩:=I.lstM hA
 have hits:=Gi r
 subst hits
 rw [List.length_map] at hl
 have hl':(ts.map Value.ref).length=ts.length:=List.length_map _
 have ha:a < s.heap.objs.size:=Heap.lt_size e
 unfold ksk_tree
 refine wpAny_bind (listItems_at e rfl ?_)
 refine wpAny_bind (listUpdate_at e rfl ?_ (by rw [List.size_toArray,hl',sizeLine_eq]; omega) (Nat.zero_le _))
 have I1:Inv X pins σ (upd H a (.lst [])) { s with heap:=s.heap.update a (Obj.mapSeq fun _=>#[]),toks:=s.toks }:=I.lset (its':=[]) (f:=fun _=>#[]) hA e rfl .nil (Nat.zero_le _)
 obtain ⟨e1,ho1⟩:∃ e1,(s.heap.update a (Obj.mapSeq fun _=>(#[]:Array Value))).get? a=some (seqObj "list" #[] e1):=⟨_,get?_update_seq e fun _=>#[]⟩
 have hz1:a < (s.heap.update a (Obj.mapSeq fun _=>(#[]:Array Value))).objs.size:=Heap.lt_size ho1
 generalize s.heap.update a (Obj.mapSeq fun _=>(#[]:Array Value))=h1 at I1 ho1 hz1
 refine wpAny_bind (seqEpoch_at ho1 rfl ?_)
 refine wpAny_bind (wpAny_newTuple ?_ (by show (ts.map Value.ref).length≤_; rw [hl',sizeLine_eq]; omega))
 have I2:Inv X pins σ (upd H a (.lst [])) { s with heap:=h1.push (seqObj "tuple" (ts.map Value.ref).toArray 0),toks:=s.toks }:=I1.kept (t':=s.toks) fun b o e=>Heap.get?_push_of_some _ e
 have ho2:(h1.push (seqObj "tuple" (ts.map Value.ref).toArray 0)).get? a=some (seqObj "list" #[] e1):=Heap.get?_push_of_some _ ho1
 refine wpAny_bind (wpAny_newList ?_ (Nat.zero_le _))
 refine wpAny_holding ?_
 have hz2:a < (h1.push (seqObj "tuple" (ts.map Value.ref).toArray 0)).objs.size:=Heap.lt_size ho2
 generalize h1.push (seqObj "tuple" (ts.map Value.ref).toArray 0)=h2 at I2 ho2 hz2
 have I3:Inv X pins σ (upd (upd H a (.lst [])) h2.objs.size (.lst [])) { s with heap:=h2.push { cls:=.type "list",data:=.seq ([]:List Value).toArray },toks:=s.toks }:=I2.lnew (its:=[]) (t':=s.toks) .nil (Nat.zero_le _)
 have hkS0:(upd H a (.lst [])) h2.objs.size=none:=I2.fresh
 have hka:h2.objs.size≠a:=Nat.ne_of_gt hz2
 have hkS:H h2.objs.size=none:=by rw [← hkS0,Zd hka]
 have ho3:(h2.push { cls:=.type "list",data:=.seq ([]:List Value).toArray }).get? a=some (seqObj "list" #[] e1):=Heap.get?_push_of_some _ ho2
 show wpAny (model X.prog X.w) A (ksk_rest a f false (ts.map Value.ref).toArray e1 (.ref h2.objs.size)) P E { s with heap:=h2.push { cls:=.type "list",data:=.seq ([]:List Value).toArray },toks:=s.toks }
 generalize hs3:({ s with heap:=h2.push { cls:=.type "list",data:=.seq ([]:List Value).toArray },toks:=s.toks }:Shared)=s3 at I3
 have ho3':s3.heap.get? a=some (seqObj "list" #[] e1):=by rw [← hs3]; exact ho3
 generalize h2.objs.size=kS at hkS0 hka hkS I3
 have I4:=I3.freeze (a:=a) (u:=.lst []) (by rw [Zd (Ne.symm hka),Zb]) trivial ho3'
 clear I3 I2 I1 I ho1 ho2 ho3 hs3 hz1 hz2
 have hold:∀ xs,∀ b u,b≠a→H b=some u→(upd (upd (upd (upd H a (.lst [])) kS (.lst [])) a (.frz (seqObj "list" #[] e1) (.lst []))) kS (.lst xs)) b=some u:=fun xs b u hb hu=>by
  have hbk:b≠kS:=fun z=>by rw [z,hkS] at hu; cases hu
  rw [Zd hbk,Zd hb,Zd hbk,Zd hb]
  exact hu
 generalize hH4:upd (upd (upd H a (.lst [])) kS (.lst [])) a (.frz (seqObj "list" #[] e1) (.lst []))=H4 at I4 hold
 have h4a:H4 a=some (.frz (seqObj "list" #[] e1) (.lst [])):=by rw [← hH4,Zb]
 have h4k:H4 kS=some (.lst []):=by rw [← hH4,Zd hka,Zb]
 have h4u:upd H4 kS (.lst [])=H4:=by
  funext b
  by_cases c:b=kS
  ·rw [c,Zb,h4k]
  ·rw [Zd c]
 unfold ksk_rest
 refine wpAny_bind (wpAny_rule ?_)
 first
  | rw [List.forIn_toArray]
  | (rw [← Array.forIn_toList]; simp only [List.toList_toArray])
 refine wpAny_bind (ksk_fold (fun i s'=>Inv X pins σ (upd H4 kS (.lst ((ks.take i).map V.int))) s') (ts.map Value.ref) 0 s3 (by rw [List.take_zero,List.map_nil,h4u]; exact I4) ?step ?done)
 case step =>
  intro j x s' hx I'
  simp only [Nat.zero_add] at I' ⊢
  rw [List.getElem?_map] at hx
  obtain ⟨t,ht,rfl⟩:=Option.map_eq_some_iff.mp hx
  have hj:j < ts.length:=(List.getElem?_eq_some_iff.mp ht).1
  obtain ⟨k,hk⟩:∃ k,ks[j]?=some k:=⟨_,List.getElem?_eq_getElem (by omega)⟩
  refine wpAny_bind (wpAny_attempt (wpAny_mono (turn j t k ht hk _ s' (hold _) I') (fun v s'' he=>?_) fun _ _ hF=>hF.elim))
  obtain ⟨⟨tok,rfl⟩,I''⟩:=he
  try dsimp only
  obtain ⟨z',kits,n',r',hl2,e'⟩:=I''.lstM (l:=kS) Zb
  have hkl:kits.length≤64:=by rw [← hl2,List.length_map,List.length_take]; omega
  refine wpAny_bind (listUpdate_at e' rfl ?_ (by rw [List.size_toArray,sizeLine_eq]; omega) (by rw [Array.size_push,List.size_toArray,sizeLine_eq]; omega))
  refine wpAny_pure ⟨rfl,?_⟩
  have I5:=I''.lset (its':=kits ++ [.int k tok]) (f:=fun x=>x.push (.int k tok)) (t':=s''.toks) (ys:=(ks.take (j + 1)).map V.int) Zb e' (by simp) (by rw [List.take_add_one,hk,List.map_append]; exact r'.append (.cons ⟨_,rfl⟩ .nil)) (by rw [List.length_map,List.length_take,sizeLine_eq]; omega)
  rw [U2] at I5
  exact I5
 case done =>
  intro s' I'
  rw [Nat.zero_add,hl',List.take_of_length_le (by omega)] at I'
  obtain ⟨z',kits,n',r',hl2,e'⟩:=I'.lstM (l:=kS) Zb
  have hI:IntsAre kits ks:=by simpa using Zf3 r'
  have hkl:kits.length=ts.length:=by rw [← hl2,List.length_map]; exact hlen
  try dsimp only
  refine wpAny_bind (listItems_at e' rfl ?_)
  have tail:∀ (st:SortSt) (out:List Nat),failedOf st=none→(arrOf st).map (·.2)=(out.map fun i=>(ts.map Value.ref).getD i Value.none).toArray→out.Perm (List.range ts.length)→out.Pairwise (fun i j=>ks.getD i 0≤ks.getD j 0)→wpAny (model X.prog X.w) A (ksk_tail a false e1 (.ref kS) st) P E s':=fun st out hf ho hp1 hp2=>by
   have hm:∀ i∈out,i < ts.length:=fun i hi=>by simpa using hp1.mem_iff.mp hi
   have hol:out.length=ts.length:=by rw [hp1.length_eq,List.length_range]
   unfold ksk_tail
   try dsimp only
   refine wpAny_bind (listUpdate_at e' rfl ?_ (by rw [List.size_toArray,hkl,sizeLine_eq]; omega) (Nat.zero_le _))
   have I6:=I'.lset (its':=[]) (f:=fun _=>#[]) (t':=s'.toks) (ys:=[]) Zb e' rfl .nil (Nat.zero_le _)
   rw [U2,h4u] at I6
   refine wpAny_bind (wpAny_letGo ?_)
   have oa:=(I6.hok a _ h4a).1
   refine wpAny_bind (seqEpoch_at oa rfl ?_)
   have I7:=I6.thawL h4a h0
   rw [ho]
   refine wpAny_bind (listUpdate_at oa rfl ?_ (Nat.zero_le _) (by rw [if_neg (by decide),List.size_toArray,List.length_map,hol,sizeLine_eq]; omega))
   rw [hf]
   simp only [bne_self_eq_false,Bool.false_eq_true,if_false]
   have hv:Vals (out.map fun i=>V.ref (ts.getD i 0)) (out.map fun i=>(ts.map Value.ref).getD i Value.none):=by
    clear hp1 hp2 hol ho
    induction out with
    | nil=>exact .nil
    | cons i out ih =>
     refine .cons ?_ (ih fun j hj=>hm j (List.mem_cons_of_mem _ hj))
     have hi:=hm i List.mem_cons_self
     show RelV (V.ref (ts.getD i 0)) ((ts.map Value.ref).getD i Value.none)
     rw [List.getD_eq_getElem?_getD,List.getD_eq_getElem?_getD,List.getElem?_map,List.getElem?_eq_getElem hi]
     rfl
   have I8:=I7.lset (its:=[]) (its':=out.map fun i=>(ts.map Value.ref).getD i Value.none) (f:=fun _=>(out.map fun i=>(ts.map Value.ref).getD i Value.none).toArray) (t':=s'.toks) Zb oa rfl hv (by rw [List.length_map,hol,sizeLine_eq]; omega)
   rw [U2] at I8
   refine wpAny_pure (fin _ out _ hp1 hp2 (fun b u hb hu=>?_) Zb I8)
   rw [Zd hb,← h4u]
   exact hold [] b u hb hu
  unfold ksk_end
  simp only [Bool.false_eq_true,if_false]
  by_cases h2:(ts.map Value.ref).toArray.size < 2
  ·rw [if_pos h2,if_pos h2]
   refine wpAny_bind (wpAny_pure ?_)
   refine wpAny_bind (wpAny_pure ?_)
   dsimp only
   rw [List.size_toArray,hl'] at h2
   refine tail _ (List.range ts.length) rfl ?_ (.refl _) ?_
   ·show ((kits.toArray.zip (ts.map Value.ref).toArray).map (·.2))=_
    clear tail fin turn hold I' I4 e' hI r' hl2
    match ts,kits,h2,hkl with
    | [],[],_,_=>simp
    | [t],[k],_,_=>simp
    | _ :: _ :: _,_,h2,_=>exact absurd h2 (by simp)
    | [],_ :: _,_,hk=>exact absurd hk (by simp)
    | [_],[],_,hk=>exact absurd hk (by simp)
    | [_],_ :: _ :: _,_,hk=>exact absurd hk (by simp)
   ·rcases Nat.lt_or_ge ts.length 1 with c | c
    ·rw [show ts.length=0 by omega]; exact List.Pairwise.nil
    ·rw [show ts.length=1 by omega]; exact List.pairwise_singleton _ _
  ·rw [if_neg h2,if_neg h2]
   rw [List.size_toArray,hl'] at h2
   rw [ksk_kind (keys:=kits.toArray) (kz:=ks) (by simpa using hI) (by rw [List.size_toArray]; omega)]
   refine wpAny_bind (wpAny_pure ?_)
   have hd:∀ i j,i < j→j < ts.length→ks.getD i 0≠ks.getD j 0:=fun i j hij hj e=>by
    rw [List.getD_eq_getElem?_getD,List.getD_eq_getElem?_getD,List.getElem?_eq_getElem (by omega),List.getElem?_eq_getElem (by omega)] at e
    have:=(List.getElem_inj nd (h₀:=by omega) (h₁:=by omega)).mp e
    omega
   have kint:∀ i,i < ts.length→∃ tok,kits.getD i Value.none=.int (ks.getD i 0) tok:=fun i hi=>by
    obtain ⟨u,hu,ru⟩:=r'.get (show (ks.map V.int)[i]?=some (V.int ks[i]) by rw [List.getElem?_map,List.getElem?_eq_getElem (by omega)]; rfl)
    obtain ⟨tok,rfl⟩:=ru
    exact ⟨tok,by rw [List.getD_eq_getElem?_getD,hu,List.getD_eq_getElem?_getD,List.getElem?_eq_getElem (by omega)]; rfl⟩
   refine wpAny_bind (wpAny_mono (kat_run (ks:=kits) (vs:=ts.map Value.ref) (κ:=oneType') (G:=fun p s''=>p=kval (kLt fun i=>ks.getD i 0) (kas_sort (ts.map Value.ref).length)∧s''=s')
    (Q:=fun st' s''=>s''=s'∧failedOf st'=none∧(kval (kLt fun i=>ks.getD i 0) (kas_sort (ts.map Value.ref).length)).size=(ts.map Value.ref).length∧arrOf st'=(kval (kLt fun i=>ks.getD i 0) (kas_sort (ts.map Value.ref).length)).map (kas_item (kits.toArray.zip (ts.map Value.ref).toArray)))
    (by rw [hl',hkl]) (by rw [hl']; omega) (by rw [hl']; exact h64) (fun p st' s'' hp harr hf hg=>by obtain ⟨rfl,rfl⟩:=hg; exact ⟨rfl,hf,hp,harr⟩)
    (Vw (n:=(ts.map Value.ref).length) (f:=kLt fun i=>ks.getD i 0) (fun i j hi hj C hC=>by
     rw [hl'] at hi hj
     obtain ⟨t1,g1⟩:=kint i hi
     obtain ⟨t2,g2⟩:=kint j hj
     show wpAny _ _ (keyLt' oneType' (kits.getD i Value.none) (kits.getD j Value.none)) C _ _
     rw [g1,g2]
     exact kat_lt_int hC) _ _ (Za2 (by rw [hl']; omega)) ⟨rfl,rfl⟩)) ?_ fun _ _ e=>e)
   rintro ⟨⟨⟩,st'⟩ s'' ⟨rfl,hf,hp,harr⟩
   rw [hl'] at hp harr
   obtain ⟨v1,v2⟩:=Za1 (K:=fun i=>ks.getD i 0) (n:=ts.length) (by omega) hd
   generalize kval (kLt fun i=>ks.getD i 0) (kas_sort ts.length)=p at hp harr v1 v2
   dsimp only
   refine tail st' p.toList hf (kat_snds (ks:=kits) (vs:=ts.map Value.ref) (by rw [hl',hkl]) harr) ?_ ?_
   ·have:=Array.perm_iff_toList_perm.mp v1
    simpa using this
   ·rw [List.pairwise_iff_getElem]
    intro i j hi hj hij
    have:=v2 i j hij (by rw [← hp]; exact hj)
    unfold kAt at this
    have g:∀ k (hk:k < p.toList.length),p.getD k 0=p.toList[k]:=fun k hk=>by simp [Array.getD_eq_getD_getElem?,show k < p.size from hk]
    rw [g i hi,g j hj] at this
    exact this
end
end L2
set_option maxHeartbeats 4000000
namespace L2
open PySem PySem.Spec PyProof.Rows PySem.W
noncomputable def lamO (f:Addr) (qual:Str) (params:Arguments) (body:Expr) (scope:Scope) (pm ct:Value) (c':Addr):HO:=.ext fun h=>h.get? f=some (kla_obj "<lambda>" qual params body scope [] pm c' ct)
noncomputable def codO (c':Addr) (qual:Str):HO:=.ext fun h=>h.CodeRec (.ref c') qual
theorem Znd {CX:CXT} {P:Program} {w:World} {K:PySem.W.Frag} {mg:Str→Option Value} {base:Heap} {k:Nat} {f c':Addr} {qual:Str} {params:Arguments} {body:Expr} {scope:Scope} {pm ct:Value} {N ps:List Str} {sp:Sp}
  (S:FnScope N ps scope) (len:∀ vs H Q E,sp vs H Q E→vs.length=ps.length) (hf:∀ vs H Q E,sp vs H Q E→H f=some (lamO f qual params body scope pm ct c')∧H c'=some (codO c' qual))
  (hbody:∀ (A:Around) (outer:List Env) (s:Shared) (H:Hp) (vs:List V) (Q:VK) (E:XK),Room k (A.deeper (envOfC qual scope s.heap.objs.size f (.ref c')))→sp vs H Q E →
   ∃ t,PE (cxOf CX P w K mg base N qual scope f (.ref c') A outer s H E) body t∧t (start N vs) H Q) :
  FnOk P w K mg base CX (k + 1) f (kla_fn "<lambda>" qual params body scope [] pm (.ref c') ct) ps sp:=by
 refine ⟨len,fun A outer s H args us vs Q E hr e0 hb r hsp=>?_⟩
 have hl:=len _ _ _ _ hsp
 obtain ⟨h1,h2⟩:=hf _ _ _ _ hsp
 obtain ⟨ho,_⟩:=(show Zx P w H s.heap f (lamO f qual params body scope pm ct c') from e0.hok f _ h1)
 obtain ⟨hc,_⟩:=(show Zx P w H s.heap c' (codO c' qual) from e0.hok c' _ h2)
 have lim:s.heap.NoLimit:=e0.mod.nolimit.keeps fun b o e=>(e0.bs b o e).1
 have hkind:∀ y∈ps.zip us,scope.names.lookup y.1=some .local∨(scope.names.lookup y.1=some .cell∧((cellsFrom (s.heap.objs.size + 1) scope.names []).lookup y.1).isSome=true):=fun ⟨n,v⟩ hy=>by
  rcases S.par n (List.of_mem_zip hy).1 with q | q
  ·exact .inl q
  ·exact .inr ⟨q,PySem.W.cellsFrom_some _ _ _ (.inl q)⟩
 refine kla_callFunE hr.depth ho rfl S.co S.gen rfl hc (hb _ _ _ _ ?_)
 refine wpAny_newFunctionEnv_cells S.kind hkind fun env he s1 x=>?_
 subst he
 refine ⟨lim.keeps x.toInCall.keep,kla_codeExpr ?_⟩
 obtain ⟨t,ht,hq⟩:=hbody A outer s H vs Q E (hr.deeper _) hsp
 have I:Inv (cxOf CX P w K mg base N qual scope f (.ref c') A outer s H E) [] (start N vs) H s1:=Fh S hr.hd e0 hl r x
 refine wpAny_mono (ht [] s1 (start N vs) H _ I hq) (fun u s' hs=>?_) fun e s' hs=>hs
 obtain ⟨v,H',J,rv,q⟩:=hs
 exact ⟨v,H',J.os,J.bare,J.base,J.hok,rv,q⟩
section
variable {X:Cx} {pins:List (Addr × Obj)} {σ:St} {H:Hp} {s:Shared}
theorem Inv.grown {P c f:Addr} {ps more:Array Value} {h':Heap} {t':Nat} {oc of:HO} (I:Inv X pins σ H s) (hP:H P=some (.tbl ps)) (k:Heap.ExtBut P s.heap h') (e:h'.get? P=some (tabObj (ps ++ more))) (hc:s.heap.objs.size≤c) (hf:s.heap.objs.size≤f) (hcf:c≠f)
  (o1:∀ H',Zx X.prog X.w H' h' c oc) (o2:∀ H',Zx X.prog X.w H' h' f of):Inv X pins σ (upd (upd (upd H P (.tbl (ps ++ more))) c oc) f of) { s with heap:=h',toks:=t' }:=by
 have hx:∀ b,H b=none→b≠P:=fun b n z=>by rw [z,hP] at n; cases n
 have nc:=I.hok.fresh hc
 have nf:=I.hok.fresh hf
 have up:∀ b u,H b=some u→b≠P→(upd (upd (upd H P (.tbl (ps ++ more))) c oc) f of) b=some u:=fun b u q z=>by rw [Zd (Zi q nf),Zd (Zi q nc),Zd z]; exact q
 have upP:(upd (upd (upd H P (.tbl (ps ++ more))) c oc) f of) P=some (.tbl (ps ++ more)):=by rw [Zd (Zi hP nf),Zd (Zi hP nc),Zb]
 refine I.un ⟨fun b u q n _ _=>k b u (hx b n) q,fun b u q n _ _=>⟨u.slots,k b u (hx b n) q⟩,fun b u q n _=>?_,fun b u q _=>?_,fun b xs q=>up b _ q (fun z=>by rw [z,hP] at q; cases q),fun b u xs q=>up b _ q (fun z=>by rw [z,hP] at q; cases q),fun b qs q=>?_⟩ fun b u q=>?_
 ·have hb:=Heap.lt_size q
  rw [Zd (Nat.ne_of_lt (Nat.lt_of_lt_of_le hb hf)),Zd (Nat.ne_of_lt (Nat.lt_of_lt_of_le hb hc)),Zd (hx b n)]
  exact n
 ·by_cases z:b=P
  ·subst z; exact ⟨_,e⟩
  ·exact ⟨u,k b u z q⟩
 ·by_cases z:b=P
  ·subst z; rw [hP] at q; cases q; exact ⟨more,upP⟩
  ·exact ⟨#[],by rw [up b _ q z]; simp⟩
 ·by_cases z1:b=f
  ·subst z1; rw [Zb] at q; cases q; exact o2 _
  ·by_cases z2:b=c
   ·subst z2; rw [Zd z1,Zb] at q; cases q; exact o1 _
   ·by_cases z:b=P
    ·subst z; rw [upP] at q; cases q; exact e
    ·rw [Zd z1,Zd z2,Zd z] at q
     refine (I.hok b u q).stay (fun c v hc r=>k c v ?_ r) (fun c r=>up c _ r (fun z=>by rw [z,hP] at r; cases r)) fun c xs r=>up c _ r (fun z=>by rw [z,hP] at r; cases r)
     rcases hc with rfl | hc
     ·exact z
     ·intro z; rw [z,hP] at hc; cases hc
end
end L2
set_option maxHeartbeats 4000000
namespace L2
open PySem PySem.Spec PyProof.Rows PySem.W
theorem Zh1 {P:Program} {w:World} {K:PySem.W.Frag} {mg mb:Str→Option Value} {CX:CXT} {k:Nat} {fa a c Pt:Addr} {fd:FuncData} {x:Str} {sp:Sp} {s₁:Shared} {vs:List Value} {ns:List Int}
  (KX:K.In s₁.heap) (hns:s₁.heap.Ns mainGlobals mg) (hb:s₁.heap.Ns builtinsNs mb) (hbb:∀ x:Str,x≠"__name__"→mb x=bootBuiltins x) (hlim:s₁.heap.NoLimit) (hg:s₁.gens=#[])
  (ha:s₁.heap.get? a=some { cls:=.type "list",data:=.seq vs.toArray }) (hi:IntsAre vs ns) (hl:ns.length≤sizeLine) (hr:Room k callerA)
  (C:CodeHd s₁.heap c Pt) (hPt:s₁.heap.get? Pt=some (tabObj #[])) (hBm:∃ bm ob,mg "__builtins__"=some (.ref bm)∧bm≠builtinsNs∧s₁.heap.get? bm=some ob∧ob.cls=.type "module"∧ob.dict=some builtinsNs∧ob.data=.plain) (hKP:K.lookup Pt=none)
  (F:∀ base:Heap,K.In base→base.Ns mainGlobals mg→CodeHd base c Pt→base.BuiltinsAt mg Pt→FnOk P w K mg base CX k fa fd [x] sp) (hbind:∀ (s:Shared) (u:Value),BindsTo s fd ⟨[u],[]⟩ [(x,u)])
  (hsp:∀ H:Hp,SqL K H a (ns.map V.int)→H Pt=some (.tbl #[])→sp [.ref a] H (fun v _=>v=.bl true) fun _ _ _=>False)
  (hCX:∀ H e s',CX [] H s₁ (fun _ _ _=>False) e s'→False) :
  codeAny (model P w) callerA (.call (.ref fa) ⟨[.ref a],[]⟩) (fun r s'=>r=.ok (.ret (.bool true))∧OldK s₁.heap s'.heap∧s'.os=s₁.os∧AllBare s'.gens) s₁:=by
 have rv:=Gy hi
 have lenV:=hi.length
 have naP:a≠Pt:=fun z=>by rw [z,hPt] at ha; cases ha
 have core:∀ H:Hp,(∀ b,H b=none∨(∃ o xs,H b=some (.frz o (.lst xs)))∨b=Pt)→SqL K H a (ns.map V.int)→HOk P w H s₁.heap→(∀ b,H b≠none→b=a∨b=Pt)→(H a≠none→K.lookup a=none)→H Pt=some (.tbl #[]) →
   codeAny (model P w) callerA (.call (.ref fa) ⟨[.ref a],[]⟩) (fun r s'=>r=.ok (.ret (.bool true))∧OldK s₁.heap s'.heap∧s'.os=s₁.os∧AllBare s'.gens) s₁:=by
  intro H hO hS hok hA hK hPH
  have base_of:∀ {b:Addr} {o:Obj},s₁.heap.get? b=some o→H b=none→(hidT s₁.heap H).get? b=some o:=fun e n=>Zj0 e n
  have noA:∀ {b:Addr} {o:Obj},s₁.heap.get? b=some o→(∀ es,o.data≠.seq es 0)→(∀ vs,o.data≠.fields vs)→H b=none:=fun {b o} e d1 d2=>by
   cases q:H b with
   | none=>rfl
   | some u =>
    rcases hA b (by rw [q]; simp) with e' | e'
    ·subst e'; rw [ha] at e; cases e; exact (d1 _ rfl).elim
    ·subst e'; rw [hPt] at e; cases e; exact (d2 _ rfl).elim
  have nsK:∀ {b:Addr} {m:Str→Option Value},s₁.heap.Ns b m→(hidT s₁.heap H).Ns b m:=fun {b m} ⟨o,es,ep,e,d,r⟩=>⟨o,es,ep,base_of e (noA e (fun _ z=>by rw [d] at z; cases z) (fun _ z=>by rw [d] at z; cases z)),d,r⟩
  have hKb:K.In (hidT s₁.heap H):=fun b o e=>base_of (KX b o e) (by
   cases q:H b with
   | none=>rfl
   | some u =>
    rcases hA b (by rw [q]; simp) with e' | e'
    ·subst e'; rw [hK (by rw [q]; simp)] at e; cases e
    ·subst e'; rw [hKP] at e; cases e)
  have hM:Mod K mg (hidT s₁.heap H):=⟨hKb,nsK hns,⟨mb,nsK hb,hbb⟩,let ⟨mc,h1,h2⟩:=hlim; ⟨mc,nsK h1,h2⟩⟩
  have hC:CodeHd (hidT s₁.heap H) c Pt:=by
   obtain ⟨o,vs',file,tf,flags,tg,inF,text,tt,e,hcl,r⟩:=C
   have hne:c≠Pt:=r.2.2.2.2.2.2.2
   refine ⟨o,vs',file,tf,flags,tg,inF,text,tt,base_of e ?_,hcl,r⟩
   cases q:H c with
   | none=>rfl
   | some u =>
    rcases hA c (by rw [q]; simp) with e' | e'
    ·rw [e',ha] at e; cases e; injection hcl with z; exact absurd z (by decide)
    ·exact (hne e').elim
  have hBB:(hidT s₁.heap H).BuiltinsAt mg Pt:=by
   obtain ⟨bm,ob,b1,b2,b3,b4,b5,b6⟩:=hBm
   refine ⟨bm,ob,b1,b2,fun q=>?_,fun q=>?_,base_of b3 (noA b3 (fun _ z=>by rw [b6] at z; cases z) (fun _ z=>by rw [b6] at z; cases z)),b4,b5,b6⟩
   ·obtain ⟨o,es,ep,e,hd,_⟩:=hns
    rw [q,e] at b3; cases b3; rw [hd] at b6; cases b6
   ·rw [q,hPt] at b3; cases b3; cases b6
  have e0:Env0 P w K mg (hidT s₁.heap H) callerA [] s₁ H:=⟨rfl,hM,fun b o e=>Zlr e,Nat.le_of_eq (Zh5 _ _),trivial,fun b hb=>absurd (show b∈([]:List Addr) from hb) (by simp),hok,.of_eq hg⟩
  refine codeAny_mono ((F _ hKb (nsK hns) hC hBB).run callerA [] s₁ H ⟨[.ref a],[]⟩ [.ref a] [.ref a] _ _ hr e0 (hbind s₁ (.ref a)) (.cons rfl .nil) (hsp H hS hPH)) fun r s' h=>?_
  cases r with
  | error e=>exact (hCX H e s' h).elim
  | ok fl =>
   cases fl with
   | next=>exact False.elim h
   | brk=>exact False.elim h
   | cont=>exact False.elim h
   | ret u =>
    obtain ⟨v,H',os,bare,un,hok',r',q⟩:=h
    have q':v=.bl true:=q
    subst q'
    obtain rfl:u=Value.bool true:=r'
    have kp:∀ b o,b≠Pt→s₁.heap.get? b=some o→s'.heap.get? b=some o:=fun b o hbP e=>by
     cases q:H b with
     | none=>exact un.keep b o e q (by intro z; exact absurd (show b∈([]:List Addr) from z) (by simp)) (by simp)
     | some u =>
      rcases hO b with z | ⟨ob,xs,z⟩ | z
      ·rw [q] at z; cases z
      ·have z2:=un.frzs b ob _ z
       obtain ⟨e1,_⟩:=hok b _ z
       obtain ⟨e2,_⟩:=hok' b _ z2
       rw [e] at e1; cases e1
       exact e2
      ·exact (hbP z).elim
    obtain ⟨more,e2⟩:=un.tbls Pt #[] hPH
    have e3:s'.heap.get? Pt=some (tabObj (#[] ++ more)):=hok' Pt _ e2
    refine ⟨rfl,⟨fun b o e=>?_,fun b o e=>?_⟩,os,bare⟩
    ·by_cases z:b=Pt
     ·subst z
      rw [hPt] at e
      cases e
      exact .inr (.inl ⟨(C.tab hPt).isCodeTable,rfl,#[],more,rfl,e3⟩)
     ·exact .inl (kp b o z e)
    ·by_cases z:b=Pt
     ·subst z; exact ⟨_,e3⟩
     ·exact ⟨o,kp b o z e⟩
 cases hk:K.lookup a with
 | some o =>
  have e:=KX a o hk
  rw [ha] at e
  cases e
  refine core (fun b=>if b=Pt then some (.tbl #[]) else none) (fun b=>?_) (.inr ⟨_,vs.toArray,_,hk,rfl,rfl,rfl,by rw [List.size_toArray,lenV]; exact hl,by simpa using rv⟩) (fun b u z=>?_) (fun b z=>?_) (fun z=>absurd (if_neg naP) z) (if_pos rfl)
  ·by_cases hb:b=Pt
   ·exact .inr (.inr hb)
   ·exact .inl (if_neg hb)
  ·by_cases hb:b=Pt
   ·have z':=(if_pos hb).symm.trans z
    cases z'
    subst hb
    exact hPt
   ·have z':=(if_neg hb).symm.trans z
    cases z'
  ·by_cases hb:b=Pt
   ·exact .inr hb
   ·exact absurd (if_neg hb) z
 | none =>
  refine core (fun b=>if b=a then some (.frz { cls:=.type "list",data:=.seq vs.toArray } (.lst (ns.map V.int))) else if b=Pt then some (.tbl #[]) else none) (fun b=>?_) (.inl (.inr ⟨{ cls:=.type "list",data:=.seq vs.toArray },if_pos rfl⟩)) (fun b u z=>?_) (fun b z=>?_) (fun _=>hk) (by rw [if_neg (Ne.symm naP),if_pos rfl])
  ·by_cases hb:b=a
   ·exact .inr (.inl ⟨_,_,if_pos hb⟩)
   ·by_cases hp:b=Pt
    ·exact .inr (.inr hp)
    ·exact .inl (by rw [if_neg hb,if_neg hp])
  ·by_cases hb:b=a
   ·have z':=(if_pos hb).symm.trans z
    cases z'
    subst hb
    exact ⟨ha,by rw [List.length_map]; exact hl,vs,_,rv,ha⟩
   ·have z':=(if_neg hb).symm.trans z
    by_cases hp:b=Pt
    ·rw [if_pos hp] at z'
     cases z'
     subst hp
     exact hPt
    ·rw [if_neg hp] at z'
     cases z'
  ·by_cases hb:b=a
   ·exact .inl hb
   ·by_cases hp:b=Pt
    ·exact .inr hp
    ·exact absurd (by rw [if_neg hb,if_neg hp]) z
theorem walk_t {l:PySem.W.OpenLaw} {k:Nat} {q:Program} {loose:List Str} {XP:(Str→Option Value)→Heap→Prop} {YP:World→Heap→Prop} {d:DefRec} {nm:Str} {K:Params→PySem.W.Frag} {spl:PySem.W.Frag→Addr→Sp}
  (hn:l.most=some 63) (hdf:d.params.defaults=[]) (hr:Room k callerA) (hY:∀ (w:World) (h:Heap),YP w h→(K w.params).In h) (hrec:((recsOf q).any fun e=>e.name == nm)=true)
  (hsp:∀ (K:PySem.W.Frag) (P:Addr) (H:Hp) (a:Addr) (ns:List Int),ns.length≤63→SqL K H a (ns.map V.int)→H P=some (.tbl #[])→spl K P [.ref a] H (fun v _=>v=.bl true) fun _ _ _=>False)
  (F:∀ (w:World) (mg:Str→Option Value) (fa:Addr) (h:Heap),(K w.params).In h→h.Ns mainGlobals mg→mg d.name=some (.ref fa) →
   ∃ (fd:FuncData) (fp c P:Addr) (op:Obj) (fdp:FuncData) (co:Obj) (cvs:Array Value),(∀ (s:Shared) (u:Value),BindsTo s fd ⟨[u],[]⟩ [("_law_script",u)]) ∧
    mg nm=some (.ref fp)∧(K w.params).lookup fp=some op∧op.data=.func fdp∧fdp.code=.ref c∧(K w.params).lookup c=some co∧co.data=.fields cvs∧cvs[11]?=some (.ref P)∧(K w.params).lookup P=none ∧
    ∀ base:Heap,(K w.params).In base→base.Ns mainGlobals mg→CodeHd base c P→base.BuiltinsAt mg P→FnOk l.prog w (K w.params) mg base (CXr l.prog w) k fa fd ["_law_script"] (spl (K w.params) P)) :
  PySem.W.WalkO q loose XP YP l.row.toRowW d [] (fun f vs=>PySem.call f vs):=by
 refine Att.attach_call hn hdf fun w s₀ s₁ mg mb fa o pm cd doc a vs ns G Y ho hd hcd hmg hobj hints hlen hg=>?_
 have KX:=hY w _ Y
 obtain ⟨fd,fp,c,P,op,fdp,co,cvs,hb,e1,e2,e3,e4,e5,e6,e7,e8,hF⟩:=F w mg fa _ KX G.T.g hmg
 obtain ⟨dr,hdr,en⟩:=List.any_eq_true.mp hrec
 obtain ⟨a',o',fd',c',P',h1,h2,h3,h4,h5,h6⟩:=G.T.tab dr hdr
 rw [beq_iff_eq.mp en] at h1
 rw [e1] at h1
 cases h1
 rw [KX _ _ e2] at h2
 cases h2
 rw [e3] at h3
 cases h3
 rw [e4] at h4
 cases h4
 have hP:P'=P:=by
  obtain ⟨⟨oc,vs',g1,_,g3,g4⟩,_⟩:=h6
  rw [KX _ _ e5] at g1
  cases g1
  rw [e6] at g3
  cases g3
  rw [e7] at g4
  cases g4
  rfl
 subst hP
 exact Zh1 KX G.T.g G.T.b G.T.builtins G.T.nolimit hg hobj hints (Nat.le_trans hlen (by decide)) hr (CodeHd.of h5 h6) h6.2 G.T.bmain e8 hF hb (fun H hS hPH=>hsp _ _ H a ns hlen hS hPH) fun H e s' h=>Zl5 h
noncomputable def Tab (K:PySem.W.Frag) (d:FuncData) (c P:Addr):Prop:=∃ (co:Obj) (cvs:Array Value),d.code=.ref c∧K.lookup c=some co∧co.data=.fields cvs∧cvs[11]?=some (.ref P)∧K.lookup P=none
structure TabB (mg:Str→Option Value) (base:Heap) (c P:Addr):Prop where
 cd:CodeHd base c P
 bm:base.BuiltinsAt mg P
theorem Fun.aT {P:Program} {w:World} {K:PySem.W.Frag} {mg:Str→Option Value} {base:Heap} {x qual:Str} {st:Stmt} {f c:Addr} {fd:FuncData} {N ps:List Str} {k:Nat} {sp:Sp} (F:Fun K x qual st f fd) (hc:fd.code=.ref c) (S:FnScope N ps (Zg st))
  (hbody:∀ (A:Around) (outer:List Env) (s:Shared) (H:Hp) (vs:List V) (Q:VK) (E:XK),Room k (A.deeper (envOfC qual (Zg st) s.heap.objs.size f (.ref c)))→sp vs H Q E →
   ∃ t,PSs (cxOf (CXr P w) P w K mg base N qual (Zg st) f (.ref c) A outer s H E).nox (Yn st) t∧t { nx:=fun _ H'=>Q .non H',rt:=Q } (start N vs) H)
  (len:∀ vs H Q E,sp vs H Q E→vs.length=ps.length:=by (intro vs H Q E h; (repeat obtain ⟨_,h⟩:=h); subst_vars; rfl)):FnOk P w K mg base (CXr P w) (k + 1) f fd ps sp:=by
 obtain ⟨oc,od,kV,doc,pm,an,cdv,ct,osl,rfl,lk,hcd⟩:=F.ex
 obtain rfl:cdv=.ref c:=hc
 refine Zah lk hcd S len fun A outer s H vs Q E hr hsp=>?_
 obtain ⟨t,h,q⟩:=hbody A outer s H vs Q E hr hsp
 exact ⟨t,h.nox,q⟩
end L2
set_option maxHeartbeats 4000000
namespace L2
open PySem PySem.Spec PyProof.Rows
theorem Zdu {prog:Program} {w:World} {A:Around} {R:Result→Shared→Prop} {s:Shared} {elt:Expr} {t0 i0:Expr} {f0:List Expr} {t1 i1:Expr} {f1:List Expr} {scope:Scope} {pos:Pos} {it acc:Value} {env:Env}
  (h0:codeAny (model prog w) A (.compLoop (.SetComp elt [⟨t0,i0,f0,0⟩,⟨t1,i1,f1,0⟩] scope pos) 1 it acc env) R s)
  (h:wpAny (model prog w) A (pyIter it) (fun it' s'=>codeAny (model prog w) A (.compLoop (.SetComp elt [⟨t0,i0,f0,0⟩,⟨t1,i1,f1,0⟩] scope pos) 1 it' acc env) R s')
   (notedBy (model prog w) A env fun x s'=>R (.error x) s') s) :
  codeAny (model prog w) A (.compStart (.SetComp elt [⟨t0,i0,f0,0⟩,⟨t1,i1,f1,0⟩] scope pos) 1 it acc env) R s:=by
 refine codeAny_of_tree ?_
 show wpAny _ _ ((compStart (.SetComp elt [⟨t0,i0,f0,0⟩,⟨t1,i1,f1,0⟩] scope pos) 1 it acc env).onRaise (fun x=>do noteFrame x env; standAt theWindowsPlace)) _ _ s
 refine wpAny_notedAt ?_
 unfold compStart
 show wpAny _ _ (ask >>= _) _ _ s
 refine wpAny_bind (wpAny_askSetting (wpAny_ite ?_))
 split
 ·first
   | exact wpAny_bind (wpAny_pure (wpAny_pure (And.intro rfl h0)))
   | exact wpAny_pure (And.intro rfl h0)
 ·first
   | exact wpAny_bind (wpAny_rule (wpAny_bind (wpAny_standAt (wpAny_bind (wpAny_mono h (fun it' s' h'=>wpAny_pure (And.intro rfl h')) fun _ _ x=>x)))))
   | (refine wpAny_bind (wpAny_rule ?_); show wpAny _ _ (standAt i1.pos >>= _) _ _ s; exact wpAny_bind (wpAny_standAt (wpAny_bind (wpAny_mono h (fun it' s' h'=>wpAny_pure (And.intro rfl h')) fun _ _ x=>x))))
section
variable {X:Cx}
theorem Zlp {elt t0 i0 t1 i1:Expr} {f0 f1:List Expr} {scope:Scope} {pos:Pos} {D:Addr} {c:Code} {wi:TI} {g:TG} {tt:TT} {te:TE} (hxe:X.xe=fun _ _=>False) (hc:X.calm=true)
  (hi:PI X t1 i1 wi) (hg:PG X t1 g) (ht:PTs X f1 tt) (he:PE X elt te) (hs:∀ x,foldedSetIterable i1 X.env x=pure x:=by intro _; rfl) :
  PB X (eval i1 X.env >>= fun x=>standAt i1.pos >>= fun _=>foldedSetIterable i1 X.env x >>= fun x=>holding [x] (pyIter x) >>= fun it =>
   runOwn (.compStart (.SetComp elt [⟨t0,i0,f0,0⟩,⟨t1,i1,f1,0⟩] scope pos) 1 it (.ref D) X.env) X.env >>= fun _=>again c) c (tGen wi g tt (Zgf te D)):=by
 intro pins s σ H N I h
 refine wpAny_bind (thn (hi pins s σ H _ I h) fun v s1 h1=>wpAny_bind (wpAny_standAt ?_))
 rw [hs]
 refine wpAny_bind (wpAny_pure (wpAny_bind (wpAny_holding (thn h1 fun itv s2 h2=>?_))))
 obtain ⟨it,fp,tn,J,H2,e,I2,T,st2,f2,L⟩:=h2
 subst e
 have loop:∀ (A:Around),A=X.A→codeAny (model X.prog X.w) A (.compLoop (.SetComp elt [⟨t0,i0,f0,0⟩,⟨t1,i1,f1,0⟩] scope pos) 1 (.ref it) (.ref D) X.env)
   (fun r s'=>match r with | .ok f=>wpAny (model X.prog X.w) X.A (again c) (fun fin s'=>fin=.again c∧∃ σ' H',Inv X pins σ' H' s'∧N σ' H') X.xe s' | .error e=>cameBackBy (model X.prog X.w) X.A X.env X.xe e s') s2:=by
  rintro A rfl
  exact Qw (tg:=t1) (ifs:=f1) (R:=N) hxe rfl rfl rfl rfl T hc hg ht (Zbr (c:=.compLoop (.SetComp elt [⟨t0,i0,f0,0⟩,⟨t1,i1,f1,0⟩] scope pos) 1 (.ref it) (.ref D) X.env) he) f2 I2 st2 L fun s' σ' H' I' q=>wpAny_pure ⟨rfl,σ',H',I',q⟩
 refine wpAny_bind (wpAny_runOwn (h:=none) ?_)
 exact Zdu (loop _ rfl) (T.self _ _ _ _ _ st2 (loop _ rfl))
theorem Zdq {M:Model} {A:Around} {E:Value→Shared→Prop} {s:Shared} {a b f:Value} {T:String} {Q:Value→Shared→Prop} (ha:s.TypeIs a T) (hb:s.TypeIs b T)
  (hfi:fillsInplaceSlot (.type T) "add" (Operator.Add == .Add)=pure false) (hfill:fillsNumberSlot (.type T) "add"=pure false) (hsi:seqSlot? (.type T) (dunderI "add")=pure (some f))
  (hc:wpAny M A (call f [a,b]) Q E s):wpAny M A (inplaceOp .Add a b) Q E s:=by
 unfold inplaceOp
 refine wpAny_holding ?_
 refine wpAny_bind (wpAny_typeOf ha (wpAny_bind (wpAny_of_eq hfi ?_)))
 show wpAny M A (if false=true then _ else _) Q E s
 rw [if_neg Bool.false_ne_true]
 refine wpAny_bind (wpAny_binaryOp1_none (nm:="add") ha hb hfill ?_)
 refine wpAny_bind (wpAny_of_eq hsi ?_)
 exact wpAny_bind (wpAny_rule hc)
theorem Zl0:fillsInplaceSlot (.type "list") "add" (Operator.Add == .Add)=pure false:=by kernel_rfl
theorem Zlc:seqSlot? (.type "list") (dunderI "add")=pure (some (.builtin "list.__iadd__")):=by kernel_rfl
theorem Zlw:PIp X .Add (fun x y H Q=>∃ l b xs zs,x=.ref l∧y=.ref b∧H l=some (.lst xs)∧H b=some (.lst zs)∧xs.length + zs.length≤sizeLine∧Q (.ref l) (upd H l (.lst (xs ++ zs)))):=by
 intro pins s σ H x y v u Q I rx ry h
 obtain ⟨l,b,xs,zs,rfl,rfl,hH,hB,hz,q⟩:=h
 cases rx
 cases ry
 obtain ⟨z,its,n,r,hl,e⟩:=I.lstM hH
 obtain ⟨z2,its2,n2,r2,hl2,e2⟩:=I.lstM hB
 have hsz:its.toArray.size + its2.toArray.size≤sizeLine:=by rw [List.size_toArray,List.size_toArray]; omega
 have hlong:¬ (!its.toArray.isEmpty && Builtin.List.listTooLong (its.toArray.size + its2.toArray.size))=true:=by
  rw [Zb2 hsz,Bool.and_false]
  exact Bool.false_ne_true
 refine Zdq (T:="list") ⟨_,e,rfl⟩ ⟨_,e2,rfl⟩ Zl0 noFill_list_add Zlc (call_meets F.slot_list_iadd ⟨_,e,rfl⟩ F.entry_list_iadd (F.args_list_iadd_2 _ _)
  (AutoSeq1.list___iadd___list_list_0 l its.toArray n b its2.toArray n2 hlong (by rw [List.size_toArray]; omega) (by omega)) ⟨e,e2,?_⟩)
 refine ⟨.ref l,_,I.lset (its':=its ++ its2) hH e (by simp) (r.append r2) ?_,rfl,q⟩
 rw [List.length_append]
 omega
end
end L2
set_option maxHeartbeats 4000000
namespace L2
open PySem PySem.Spec PyProof.Rows PySem.W
noncomputable def TabQ (q:Str) (P:Addr) (H:Hp):Prop:=∃ ps:Array Value,H P=some (.tbl ps)∧TriplesOk ps.toList∧∀ pos cv,codeAmong pos ps.toList=some cv→∃ c',cv=.ref c'∧H c'=some (codO c' q)
theorem TabQ.nil {q:Str} {P:Addr} {H:Hp} (h:H P=some (.tbl #[])):TabQ q P H:=⟨#[],h,trivial,fun pos cv e=>by cases e⟩
theorem TabQ.same {q:Str} {P:Addr} {H H':Hp} (h:TabQ q P H) (s:∀ b u,H b=some u→H' b=some u):TabQ q P H':=by
 obtain ⟨ps,h1,h2,h3⟩:=h
 refine ⟨ps,s _ _ h1,h2,fun pos cv e=>?_⟩
 obtain ⟨c',e1,e2⟩:=h3 pos cv e
 exact ⟨c',e1,s _ _ e2⟩
theorem Zaa {pos:Pos} {a b:Int} {c cv:Value} (l:List Value) (h:TriplesOk l) (hn:codeAmong pos (l ++ [rawInt a,rawInt b,c])=some cv):codeAmong pos l=some cv∨cv=c:=by
 fun_induction TriplesOk l with
 | case1 =>
  simp only [List.nil_append,rawInt,codeAmong] at hn
  split at hn
  ·cases hn; exact .inr rfl
  ·cases hn
 | case2 a t b u x rest ih =>
  simp only [List.cons_append,codeAmong] at hn ⊢
  split at hn
  ·rename_i hc; rw [if_pos hc]; exact .inl hn
  ·rename_i hc; rw [if_neg hc]; exact ih h hn
 | case3 l h1 h2=>exact h.elim
section
variable {X:Cx} {pins:List (Addr × Obj)} {σ:St} {H:Hp} {s:Shared}
theorem Zh2 {M:Model} {A:Around} {E:Value→Shared→Prop} {Q:Value→Shared→Prop} {P c:Addr} {params:Arguments} {body:Expr} {scope:Scope} {pos:Pos} (I:Inv X pins σ H s) (hT:TabQ (X.env.qual ++ "<lambda>") P H) (hcode:X.env.code=.ref c) (C:CodeHd X.base c P) (hB:X.base.BuiltinsAt X.mg P)
  (hdef:defaultsOf params X.env=([],[])) (hcl:closureFor scope X.env=pure [])
  (h:∀ (f c':Addr) (ct:Value) (H':Hp) (s':Shared),H f=none→(∀ b u,b≠P→H b=some u→H' b=some u)→(∀ b,H' b=none→H b=none)→TabQ (X.env.qual ++ "<lambda>") P H'→H' f=some (lamO f (X.env.qual ++ "<lambda>") params body scope ((X.mg "__name__").getD .none) ct c')→H' c'=some (codO c' (X.env.qual ++ "<lambda>"))→Inv X pins σ H' s'→Q (.ref f) s') :
  wpAny M A (eval (.Lambda params body scope pos) X.env) Q E s:=by
 obtain ⟨ps,hP,ht,hcs⟩:=hT
 have hs:s.heap.get? P=some (tabObj ps):=I.hok P _ hP
 have hgs:=I.mod.glob.keeps I.bk
 have hgP:mainGlobals≠P:=fun q=>by
  obtain ⟨o,es,ep,e,hd,_⟩:=hgs
  rw [q,hs] at e; cases e; cases hd
 obtain ⟨bm,ob,b1,b2,b3,b4,b5,b6⟩:=hB
 cases hca:codeAmong pos ps.toList with
 | none =>
  refine kla_eval hdef (kla_makeFunction hcl I.ok.glob hgs hcode (C.keeps I.bk) hs ht hca hgP ⟨bm,ob,b1,b2,b3,b4,I.bk _ _ b5,b6⟩ fun c' ctv h' tk hx hge hlt hrec htb=>?_)
  have hf:s.heap.objs.size≤h'.objs.size:=Nat.le_trans hge (Nat.le_of_lt hlt)
  have nf:=I.hok.fresh hf
  have nc:=I.hok.fresh hge
  have IG:=I.grown (t':=tk) (oc:=codO c' (X.env.qual ++ "<lambda>")) (of:=lamO h'.objs.size (X.env.qual ++ "<lambda>") params body scope ((X.mg "__name__").getD .none) ctv c') (h':=h'.push (kla_obj "<lambda>" (X.env.qual ++ "<lambda>") params body scope [] ((X.mg "__name__").getD .none) c' ctv)) hP (fun b o n e=>Heap.get?_push_of_some _ (hx b o n e)) (Heap.get?_push_of_some _ htb) hge hf (Nat.ne_of_lt hlt) (fun H'=>by
   obtain ⟨c2,oc,vs,t,e2,hoc,hd,hv⟩:=hrec
   cases e2
   refine ⟨⟨c',oc,vs,t,rfl,Heap.get?_push_of_some _ hoc,hd,hv⟩,⟨oc,Heap.get?_push_of_some _ hoc⟩,fun h1 h2 p q=>?_⟩
   obtain ⟨c3,o3,vs3,t3,e3,ho3,hd3,hv3⟩:=p
   cases e3
   exact ⟨c',o3,vs3,t3,rfl,q _ ho3,hd3,hv3⟩) (fun H'=>⟨Heap.get?_push_size _ rfl,⟨_,Heap.get?_push_size _ rfl⟩,fun h1 h2 p q=>q _ p⟩)
  have up:∀ b u,b≠P→H b=some u→(upd (upd (upd H P (.tbl (ps ++ #[rawInt pos.line,rawInt pos.col,.ref c']))) c' (codO c' (X.env.qual ++ "<lambda>"))) h'.objs.size (lamO h'.objs.size (X.env.qual ++ "<lambda>") params body scope ((X.mg "__name__").getD .none) ctv c')) b=some u:=fun b u z q=>by
   rw [Zd (Zi q nf),Zd (Zi q nc),Zd z]; exact q
  have hcc:(upd (upd (upd H P (.tbl (ps ++ #[rawInt pos.line,rawInt pos.col,.ref c']))) c' (codO c' (X.env.qual ++ "<lambda>"))) h'.objs.size (lamO h'.objs.size (X.env.qual ++ "<lambda>") params body scope ((X.mg "__name__").getD .none) ctv c')) c'=some (codO c' (X.env.qual ++ "<lambda>")):=by
   rw [Zd (Nat.ne_of_lt hlt),Zb]
  refine h h'.objs.size c' ctv _ _ nf up (fun b q=>?_) ⟨ps ++ #[rawInt pos.line,rawInt pos.col,.ref c'],?_,?_,fun pos' cv e=>?_⟩ Zb hcc IG
  ·by_cases z1:b=h'.objs.size
   ·rw [z1,Zb] at q; cases q
   ·by_cases z2:b=c'
    ·rw [Zd z1,z2,Zb] at q; cases q
    ·rw [Zd z1,Zd z2] at q
     by_cases z:b=P
     ·rw [z,Zb] at q; cases q
     ·rw [Zd z] at q; exact q
  ·rw [Zd (Zi hP nf),Zd (Zi hP nc),Zb]
  ·rw [Array.toList_append]
   exact TriplesOk_snoc _ _ _ _ ht
  ·rw [Array.toList_append] at e
   rcases Zaa _ ht e with z | z
   ·obtain ⟨c2,e1,e2⟩:=hcs pos' cv z
    exact ⟨c2,e1,up _ _ (fun w=>by rw [w,hP] at e2; cases e2) e2⟩
   ·exact ⟨c',z,hcc⟩
 | some cv =>
  obtain ⟨c',rfl,hc'⟩:=hcs pos cv hca
  refine kla_eval hdef (kla_makeFunctionHit hcl I.ok.glob hgs hcode (C.keeps I.bk) hs ht hca ⟨bm,ob,b1,b2,b3,b4,I.bk _ _ b5,b6⟩ fun ctv h' tk hx hge=>?_)
  have nf:=I.hok.fresh hge
  have IG:Inv X pins σ (upd H h'.objs.size (lamO h'.objs.size (X.env.qual ++ "<lambda>") params body scope ((X.mg "__name__").getD .none) ctv c')) { s with heap:=h'.push { cls:=.type "function",data:=.func (kla_fn "<lambda>" (X.env.qual ++ "<lambda>") params body scope [] ((X.mg "__name__").getD .none) (.ref c') ctv) },toks:=tk } :=
   I.laid (t':=tk) (fun b u e=>Heap.get?_push_of_some _ (hx b u e)) hge ⟨Heap.get?_push_size _ rfl,⟨_,Heap.get?_push_size _ rfl⟩,fun h1 h2 p q=>q _ p⟩
  have up:∀ b u,H b=some u→(upd H h'.objs.size (lamO h'.objs.size (X.env.qual ++ "<lambda>") params body scope ((X.mg "__name__").getD .none) ctv c')) b=some u:=fun b u q=>by rw [Zd (Zi q nf)]; exact q
  refine h h'.objs.size c' ctv _ _ nf (fun b u _ q=>up b u q) (fun b q=>?_) (TabQ.same ⟨ps,hP,ht,hcs⟩ up) Zb (up _ _ hc') IG
  by_cases z1:b=h'.objs.size
  ·rw [z1,Zb] at q; cases q
  ·rw [Zd z1] at q; exact q
theorem F5 {e:Expr} {params:Arguments} {body:Expr} {scope:Scope} {x:Str} {p kp lp pos:Pos} {ta tb:TE} {P c:Addr} (hg:Gl X "sorted") (hm:X.mg "sorted"=none) (ha:PE X e ta) (hr:Room 4 X.A) (hcode:X.env.code=.ref c) (C:CodeHd X.base c P) (hB:X.base.BuiltinsAt X.mg P) (S:FnScope [x] [x] scope)
  (hbody:∀ (f c':Addr) (A:Around) (outer:List Env) (s:Shared) (H:Hp) (E:XK),PE (cxOf (CXr X.prog X.w) X.prog X.w X.K X.mg X.base [x] (X.env.qual ++ "<lambda>") scope f (.ref c') A outer s H E) body tb)
  (hbind:∀ (s:Shared) (pm ct u:Value) (c':Addr),BindsTo s (kla_fn "<lambda>" (X.env.qual ++ "<lambda>") params body scope [] pm (.ref c') ct) ⟨[u],[]⟩ [(x,u)])
  (hdef:defaultsOf params X.env=([],[]):=by rfl) (hcl:closureFor scope X.env=pure []:=by rfl)
  (he:backTo pos (starEach [e] X.env)=[(false,eval e X.env)]:=by rfl) (h0:backTo pos (starEach ([]:List Expr) X.env)=[]:=by rfl) (hpl:(backTo pos (starEach [e] X.env)).any (·.1)=false:=by rfl)
  (hk1:(backToKw pos (keywordEach [⟨some "key",.Lambda params body scope lp,kp⟩] X.env)).all (·.1.isSome)=true:=by rfl) (hk2:(backToKw pos (keywordEach [⟨some "key",.Lambda params body scope lp,kp⟩] X.env)).any (·.1.isNone)=false:=by rfl)
  (hk3:(backToKw pos (keywordEach [⟨some "key",.Lambda params body scope lp,kp⟩] X.env)).filterMap (·.1)=[Str.ofString "key"]:=by rfl) :
  PE X (.Call (.Name "sorted" p) [e] [⟨some "key",.Lambda params body scope lp,kp⟩] pos) (fun σ H Q=>ta σ H fun v H1=>∃ (l:Addr) (ts:List Addr) (ks:List Int),v=.ref l∧H1 l=some (.lst (ts.map V.ref))∧ks.length=ts.length∧ts.length < 64∧ks.Nodup∧TabQ (X.env.qual ++ "<lambda>") P H1 ∧
   (∀ (i:Nat) (t:Addr) (n:Int),ts[i]?=some t→ks[i]?=some n→∀ H':Hp,(∀ b u,b≠P→H1 b=some u→H' b=some u)→tb (start [x] [.ref t]) H' fun v H''=>v=.int n∧H'=H'') ∧
   ∀ (q:Addr) (out:List Nat) (H':Hp),H1 q=none→out.Perm (List.range ts.length)→out.Pairwise (fun i j=>ks.getD i 0≤ks.getD j 0)→(∀ b u,b≠P→H1 b=some u→H' b=some u)→TabQ (X.env.qual ++ "<lambda>") P H'→H' q=some (.lst (out.map fun i=>V.ref (ts.getD i 0)))→Q (.ref q) H'):=by
 intro pins s σ H Q I h
 refine wpAny_Call_Name_kw (Wa I hg hm boot_sorted ?_ (by decide) (by decide))
 refine callWith_kw ?_ (by rw [he,h0]) hpl hk1 hk2
 rw [he]
 refine Calls.spliced_cons (thn (ha pins s σ H _ I h) fun u s1 zz34=>?_)
 obtain ⟨v,H1,I1,r1,q1⟩:=zz34
 refine Calls.spliced_nil ?_
 obtain ⟨l,ts,ks,rfl,hl,hlen,h64,nd,hP,hturn,q⟩:=q1
 cases r1
 refine kws_cons (Zh2 I1 hP hcode C hB hdef hcl fun f c' ct H2 s2 hf0 keep back hP2 hf2 hc2 I2=>kws_nil ?_)
 rw [hk3]
 have nlP:l≠P:=fun z=>by obtain ⟨ps,e,_⟩:=hP; rw [z,e] at hl; cases hl
 obtain ⟨its,rv,pl,_⟩:=I2.list (SqL.of (keep _ _ nlP hl))
 have hits:=Gi rv
 subst hits
 have hln:(ts.map Value.ref).length=ts.length:=List.length_map _
 refine call_function_entry_kw kind_sorted plain_sorted entry_sorted (ksk_s1 _ _) ?_
 unfold Builtin.«sorted»
 refine wpAny_bind (m:=checkCount "sorted" 1 1 _) (wpAny_pure ?_)
 refine wpAny_bind (collect_list pl.isList ?_ (by rw [hln,sizeLine_eq]; omega))
 have hk':∀ b o,s2.heap.get? b=some o→((s2.heap.push (seqObj "list" #[] 0)).update s2.heap.objs.size (Obj.mapSeq fun x=>x ++ (ts.map Value.ref).toArray)).get? b=some o:=fun b o e =>
  (Heap.get?_update_other _ _ (Nat.ne_of_gt (Heap.lt_size e))).trans (Heap.get?_push_of_some _ e)
 generalize (s2.heap.push (seqObj "list" #[] 0)).update s2.heap.objs.size (Obj.mapSeq fun x=>x ++ (ts.map Value.ref).toArray)=h' at hk'
 refine wpAny_bind (wpAny_newList ?_ (by rw [hln,sizeLine_eq]; omega))
 have I3:Inv X pins σ H2 { s2 with heap:=h' }:=I2.kept (t':=s2.toks) hk'
 have hoL:(h'.push { cls:=.type "list",data:=.seq (ts.map Value.ref).toArray }).get? h'.objs.size=some (seqObj "list" (ts.map Value.ref).toArray 0):=Heap.get?_push_size _ rfl
 have nD:H2 h'.objs.size=none:=I3.fresh
 have I4:Inv X pins σ (upd H2 h'.objs.size (.lst (ts.map V.ref))) { s2 with heap:=h'.push { cls:=.type "list",data:=.seq (ts.map Value.ref).toArray } }:=I3.laid (t':=s2.toks) (fun b u e=>Heap.get?_push_of_some _ e) (Nat.le_refl _) ⟨by rw [List.length_map,sizeLine_eq]; omega,_,0,rv,hoL⟩
 have h0D:∀ o u,X.H₀ h'.objs.size≠some (.frz o u):=fun o u z=>by rw [I3.base.frzs _ _ _ z] at nD; cases nD
 have F:FnOk X.prog X.w X.K X.mg X.base (CXr X.prog X.w) 1 f (kla_fn "<lambda>" (X.env.qual ++ "<lambda>") params body scope [] ((X.mg "__name__").getD .none) (.ref c') ct) [x] (fun vs H Q _=>∃ t:Addr,vs=[.ref t]∧H f=some (lamO f (X.env.qual ++ "<lambda>") params body scope ((X.mg "__name__").getD .none) ct c')∧H c'=some (codO c' (X.env.qual ++ "<lambda>"))∧tb (start [x] [.ref t]) H Q) :=
  Znd S (fun vs H Q E h=>by obtain ⟨t,rfl,_⟩:=h; rfl) (fun vs H Q E h=>by obtain ⟨t,_,h1,h2,_⟩:=h; exact ⟨h1,h2⟩) fun A outer s H vs Q E _ h=>by
   obtain ⟨t,rfl,_,_,h3⟩:=h
   exact ⟨tb,hbody f c' A outer s H E,h3⟩
 refine wpAny_bind (wpAny_holding (wpAny_call_entry_kw slot_list_sort ⟨_,hoL,rfl⟩ entry_list_sort ?body (ksk_l1 _ _)))
 case body =>
  show wpAny (model X.prog X.w) X.A.in1.in1 (Builtin.«list.sort» ⟨[.ref h'.objs.size],[(Str.ofString "key",.ref f)]⟩) _ _ _
  rw [ksk_t1]
  refine Zn0 I4 Zb h0D hlen h64 nd (fun i t n ht hn H5 s5 k5 I5=>?_) fun H5 out s5 p1 p2 k5 e5 I5=>?_
  ·have up:∀ b u,b≠P→H1 b=some u→H5 b=some u:=fun b u z e=>by
    have e2:=keep b u z e
    exact k5 b u (Zi e2 nD) (by rw [Zd (Zi e2 nD)]; exact e2)
   have up2:∀ b u,H2 b=some u→H5 b=some u:=fun b u e=>k5 b u (Zi e nD) (by rw [Zd (Zi e nD)]; exact e)
   refine wpAny_call (codeAny_mono (F.run X.A.in1.in1 X.stack s5 H5 ⟨[.ref t],[]⟩ [.ref t] [.ref t] (fun v H''=>v=.int n∧H5=H'') E0 ((hr.in1).in1.mono (by decide)) I5.env0.in1.in1 (hbind s5 _ _ (.ref t) c') (.cons rfl .nil) ⟨t,rfl,up2 _ _ hf2,up2 _ _ hc2,hturn i t n ht hn H5 up⟩) fun r s6 hq=>?_)
   cases r with
   | error e =>
    obtain ⟨_,_,_,_,_,_,_,_,_,_,_,_,_,_,_,z⟩:=hq
    exact z.elim
   | ok fl =>
    cases fl with
    | ret u =>
     obtain ⟨v,H6,I6,r6,rfl,rfl⟩:=I5.after hq
     exact ⟨r6,I6⟩
    | next=>exact False.elim hq
    | brk=>exact False.elim hq
    | cont=>exact False.elim hq
  ·refine ⟨_,rfl,wpAny_pure ⟨_,rfl,.ref h'.objs.size,H5,I5,rfl,q _ out H5 (back _ nD) p1 p2 (fun b u z e=>?_) (hP2.same fun b u e=>k5 b u (Zi e nD) (by rw [Zd (Zi e nD)]; exact e)) e5⟩⟩
   have e2:=keep b u z e
   exact k5 b u (Zi e2 nD) (by rw [Zd (Zi e2 nD)]; exact e2)
end
end L2
set_option maxHeartbeats 4000000
namespace L2
open PySem PySem.Spec PyProof.Rows PySem.W
theorem WSet.setOf {P:Program} {w:World} {h:Heap} {a:Addr} {ks:List Int} (x:WSet P w h a ks):h.SetOf (intKind P w) a (fun k=>decide (k∈ks)) ks.length:=by
 obtain ⟨o,es,ep,t,ks',ho,ex,od,el,hI,pm,lt,ft,_⟩:=x
 refine ⟨o,es,ep,t,ho,ex,od,el,fun k=>?_,lt,ft,?_⟩
 ·have:=(Uw (k:=k) hI).trans pm.mem_iff
  rw [decide_eq_true_iff]
  exact this.symm
 ·rw [← pm.length_eq,← hI.length,List.length_map,Array.length_toList]
section
variable {P:Program} {w:World} {A:Around} {E:Value→Shared→Prop} {s:Shared}
theorem Zih {road:DisplayRoad} {b:Bool} {elts:List (Bool × Sem Value)} {ts:List (Sem Value)} {Q:Value→Shared→Prop} (hroad:(road == .constants)=false) (hun:(road == .unsure)=false) (hs:elts.findIdx? (·.1)=none) (hlen:elts.length≤30) (hm:elts.map (·.2)=ts)
  (h:wpAny (model P w) A (evalAll ts) (fun vs s'=>KdsFill (model P w) A E false s.heap.objs.size Q vs s') E { s with heap:=s.heap.push (set0 w) }) :
  wpAny (model P w) A (setDisplay road b elts) Q E s:=by
 have hn:(if elts.length > 30 then 0 else (elts.findIdx? (·.1)).getD elts.length)=elts.length:=by rw [if_neg (by omega),hs]; rfl
 unfold setDisplay
 try dsimp only
 rw [if_neg (by rw [hroad]; exact Bool.false_ne_true)]
 unfold newSet setsByText
 refine wpAny_bind (wpAny_bind (wpAny_bind (wpAny_askSetting (wpAny_pure ?_))))
 dsimp only
 simp only [newObj]
 refine wpAny_bind (wpAny_alloc (wpAny_pure ?_))
 dsimp only
 rw [hn,List.take_length,List.drop_length,hm]
 refine wpAny_bind (wpAny_holding ?_)
 refine wpAny_bind (wpAny_mono h (fun vs s' h'=>?_) fun _ _ x=>x)
 refine wpAny_bind (wpAny_holding ?_)
 refine wpAny_bind (wpAny_mono (kds_for (fun x P s hx=>?_) vs s' h') (fun _ s1 h1=>?_) fun _ _ x=>x)
 ·refine wpAny_bind (wpAny_mono hx (fun _ s2 h2=>?_) fun _ _ x=>x)
  first | exact wpAny_pure ⟨rfl,h2⟩ | exact wpAny_bind (wpAny_pure (wpAny_pure ⟨rfl,h2⟩))
 ·have h2:Q (.ref s.heap.objs.size) s1:=by simpa [KdsFill] using h1
  rw [hun,if_neg Bool.false_ne_true]
  refine wpAny_pure ?_
  rw [List.forIn_nil]
  exact wpAny_pure (wpAny_pure h2)
end
section
variable {X:Cx}
theorem Zbt:OpR X (compareOp .NotIn) (fun x y H Q=>∃ i p ks,x=.int i∧y=.ref p∧H p=some (setH X.prog X.w p ks)∧Q (.bl (!decide (i∈ks))) H):=by
 intro pins s σ H x y v u Q I rx ry h
 obtain ⟨i,p,ks,rfl,rfl,hp,q⟩:=h
 obtain ⟨t,rfl⟩:=rx
 cases ry
 obtain ⟨hS,_⟩:Zx X.prog X.w H s.heap p (setH X.prog X.w p ks):=I.hok p _ hp
 exact wpAny_notInSet_of (k:=i) (intKind_is _ _ _ _) rfl (WSet.setOf hS) ⟨.bl _,H,I.tok _,rfl,q⟩
theorem Zfp {o e:Expr} {to:TE} {t:TA} {apos cpos:Pos} (ho:PE X o to) (ha:PA X [e] t)
  (hbase:attributeBase o "add" X.env (eval o X.env)=eval o X.env:=by rfl)
  (hfew:((backTo cpos (starEach [e] X.env)).all (fun x=>!x.1) && (backToKw cpos (keywordEach [] X.env)).all (fun x=>x.1.isSome)
   && decide ([e].length + ([]:List Keyword).length + (if ([]:List Keyword).isEmpty then 0 else 1) < 30))=true:=by rfl)
  (hline:(apos.endLine == cpos.line)=true:=by rfl) (hs:starEach [e] X.env=(false,eval e X.env) :: starEach [] X.env:=by rfl) :
  PE X (.Call (.Attribute o "add" apos) [e] [] cpos) (fun σ H Q=>to σ H fun x H1=>∃ p ks,x=.ref p∧H1 p=some (setH X.prog X.w p ks)∧t σ H1 fun xs H2=>∃ i ks,xs=[.int i]∧H2 p=some (setH X.prog X.w p ks)∧ks.length < 64∧Q .non (upd H2 p (setH X.prog X.w p (step_dedup ks i)))):=by
 intro pins s σ H Q I h
 refine wpAny_Call_method_late hbase hfew hline rfl (thn (ho pins s σ H _ I h) fun v s1 zz9=>?_)
 obtain ⟨x,H1,I1,r1,p,ks0,ex,hp0,q1⟩:=zz9
 subst ex
 cases r1
 obtain ⟨hS0,_⟩:Zx X.prog X.w H1 s1.heap p (setH X.prog X.w p ks0):=I1.hok p _ hp0
 obtain ⟨o0,_,_,_,e0,ex0,_⟩:=WSet.setOf hS0
 refine ⟨"set",_,PySem.F.plainAttrs_set,PySem.F.slot_set_add,PySem.F.type_set_add,⟨o0,e0,ex0.1⟩,fun a z=>by cases z; exact ⟨o0,e0,ex0.2.1⟩,?_⟩
 have hA:=ha cpos pins s1 σ H1 _ I1 q1
 rw [hs] at hA ⊢
 refine Calls.callWith_builtin rfl (Calls.evalArgs_plain ?_)
 refine thn hA fun us s2 zz9=>?_
 obtain ⟨vs,H2,I2,r2,i,ks,ev,hp,h64,q⟩:=zz9
 subst ev
 obtain ⟨u,rfl,tk,rfl⟩:=Wd r2
 obtain ⟨hS,_⟩:Zx X.prog X.w H2 s2.heap p (setH X.prog X.w p ks):=I2.hok p _ hp
 have hSo:=WSet.setOf hS
 refine wpAny_call_entry PySem.F.slot_set_add hSo.typeIs PySem.F.entry_set_add ?_ (PySem.F.args_set_add_2 _ _)
 unfold Builtin.«set.add» Builtin.Frozenset.oneOther
 simp only [List.isEmpty_nil,bind_assoc]
 unfold Builtin.Frozenset.addrOf setAdd
 refine wpAny_bind (wpAny_pure ?_)
 try dsimp only
 refine wpAny_bind ?_
 refine wpAny_holding ?_
 refine wpAny_bind ((intKind X.prog X.w).pyHash (k:=i) (intKind_is _ _ _ _) ?_)
 refine Zal (s:={ s2 with toks:=s2.toks + 1 }) hS (by unfold scanBound; omega) fun h' hsb hS'=>?_
 show wpAny _ _ (ret Value.none) _ _ _
 refine wpAny_pure ⟨_,rfl,?_⟩
 obtain ⟨o,es,ep,tt,_,ho,_⟩:=id hS'
 exact ⟨.non,_,I2.write (t':=s2.toks + 1) (x:=p) (e:=p) (by rw [hp]; exact trivial) (.inl rfl) (fun b' u hb hu=>(hsb.2 b' hb).trans hu) ⟨_,ho⟩ (Za4 hS'),rfl,q⟩
theorem Zha {e:Expr} {te:TE} {pos:Pos} (he:PE X e te) (hc:kdsCode X.K X.env.code=true) (hp:kdsPlain e=true:=by rfl) :
  PE X (.Set [e] 0 pos) (fun σ H Q=>∀ D,H D=none→te σ (upd H D (setH X.prog X.w D [])) fun v H1=>∃ i,v=.int i∧H1 D=some (setH X.prog X.w D [])∧Q (.ref D) (upd H1 D (setH X.prog X.w D [i]))):=by
 intro pins s σ H Q I h
 rw [arm_eval_Set]
 refine wpAny_bind (wpAny_standAt ?_)
 refine wpAny_bind (kds_main I.kIn hc fun b=>?_)
 rw [kds_star [e] (by simp [hp]),arm_evalEach_cons]
 have I1:Inv X pins σ (upd H s.heap.objs.size (setH X.prog X.w s.heap.objs.size [])) { s with heap:=s.heap.push (set0 X.w) } :=
  I.laid (t':=s.toks) (fun b u e=>Heap.get?_push_of_some _ e) (Nat.le_refl _) (Za4 (Zmd (Heap.get?_push_size _ rfl)))
 have hq:=he pins _ σ _ _ I1 (h _ (I.hok.fresh (Nat.le_refl _)))
 refine Zih (ts:=[eval e X.env >>= fun v=>standAt pos >>= fun _=>pure v]) (by rfl) (by rfl) rfl (by show 1≤30; decide) rfl ?_
 show wpAny _ _ ((eval e X.env >>= fun v=>standAt pos >>= fun _=>pure v) >>= fun v=>holding [v] (evalAll []) >>= fun r=>pure (v :: r)) _ _ _
 refine wpAny_bind (wpAny_bind (thn hq fun u s1 zz9=>?_))
 obtain ⟨v,H1,J,r1,i,ev,hD,q⟩:=zz9
 subst ev
 obtain ⟨t,rfl⟩:=r1
 refine wpAny_bind (wpAny_standAt (wpAny_pure ?_))
 refine wpAny_bind (wpAny_holding (wpAny_pure (wpAny_pure ?_)))
 obtain ⟨hS,_⟩:Zx X.prog X.w H1 s1.heap s.heap.objs.size (setH X.prog X.w s.heap.objs.size []):=J.hok _ _ hD
 refine kds_fill_cons ?_
 unfold setAdd
 refine wpAny_holding (wpAny_bind ((intKind X.prog X.w).pyHash (k:=i) (intKind_is _ _ _ _) ?_))
 refine Zal (s:={ s1 with toks:=s1.toks + 1 }) hS (by unfold scanBound; decide) fun h' hsb hS'=>?_
 obtain ⟨o,es,ep,tt,_,ho,_⟩:=id hS'
 refine kds_fill_nil rfl ?_
 exact ⟨.ref _,_,J.write (t':=s1.toks + 1) (x:=s.heap.objs.size) (e:=s.heap.objs.size) (by rw [hD]; exact trivial) (.inl rfl) (fun b' u hb hu=>(hsb.2 b' hb).trans hu) ⟨_,ho⟩ (Za4 hS'),rfl,q⟩
end
section
variable {P:Program} {w:World} {K:PySem.W.Frag} {mg:Str→Option Value} {base:Heap}
theorem Zf7 {K:PySem.W.Frag} {cd:Value} {q:Str} (e:PySem.W.codeIn K cd q=true):kdsCode K cd=true:=by
 unfold PySem.W.codeIn at e
 unfold kdsCode
 split at e
 ·split at e
  ·rename_i ho
   simp only [ho]
  ·cases e
 ·cases e
theorem Fun.okC {x qual:Str} {st:Stmt} {f:Addr} {fd:FuncData} {N ps:List Str} {k:Nat} {sp:Sp} (F:Fun K x qual st f fd) (S:FnScope N ps (Zg st)) (len:∀ vs H Q E,sp vs H Q E→vs.length=ps.length)
  (hbody:∀ (cdv:Value) (A:Around) (outer:List Env) (s:Shared) (H:Hp) (vs:List V) (Q:VK) (E:XK),kdsCode K cdv=true→Room k (A.deeper (envOfC qual (Zg st) s.heap.objs.size f cdv))→sp vs H Q E →
   ∃ t,PSs (cxOf (CXr P w) P w K mg base N qual (Zg st) f cdv A outer s H E).nox (Yn st) t∧t { nx:=fun _ H'=>Q .non H',rt:=Q } (start N vs) H):FnOk P w K mg base (CXr P w) (k + 1) f fd ps sp:=by
 obtain ⟨oc,od,kV,doc,pm,an,cdv,ct,osl,rfl,lk,hcd⟩:=F.ex
 refine Zah lk hcd S len fun A outer s H vs Q E hr hsp=>?_
 obtain ⟨t,h,q⟩:=hbody cdv A outer s H vs Q E (Zf7 hcd) hr hsp
 exact ⟨t,h.nox,q⟩
end
end L2
set_option maxHeartbeats 4000000
namespace L2
open PySem PySem.Spec PyProof.Rows
theorem Zni {bs:List Bool}:∀ {its:List Value},Vals (bs.map V.bl) its→its=bs.map Value.bool:=by
 induction bs with
 | nil=>intro its h; cases h; rfl
 | cons t r ih =>
  intro its h
  cases h with
  | cons a b =>
   rw [ih b,List.map_cons]
   exact congrArg (· :: _) a
section
variable {X:Cx}
theorem Zhv:MtR X "list.count" (fun o xs H Q=>∃ (l:Addr) (bs:List Bool) (b:Bool),o=.ref l∧xs=[.bl b]∧H l=some (.lst (bs.map V.bl))∧Q (.int ((bs.filter (· == b)).length:Nat)) H):=by
 intro pins s σ H x xs v us Q I rx rs h
 obtain ⟨l,bs,b,rfl,rfl,hl,q⟩:=h
 cases rx
 obtain ⟨u,rfl,ru⟩:=Wd rs
 obtain rfl:u=.bool b:=ru
 obtain ⟨z,its,n,r,hlen,e⟩:=I.lstM hl
 obtain rfl:=Zni r
 refine call_meets F.slot_list_count ⟨_,e,rfl⟩ F.entry_list_count (F.args_list_count_2 _ _) (PySem.SeqAt.list_countAt l _ n none #[] (.bool b) (fun y=>match y with | .bool c=>c == b | _=>false)) ⟨e,fun y hy=>?_,?_⟩
 ·obtain ⟨c,_,rfl⟩:=List.mem_map.mp (List.mem_toArray.mp hy)
  exact PySem.SeqAt.EqAt.bool_bool c b
 ·have ec:(bs.map Value.bool).toArray.toList.countP (fun y=>match y with | .bool c=>c == b | _=>false)=(bs.filter (· == b)).length:=by
   rw [show (bs.map Value.bool).toArray.toList=bs.map Value.bool from rfl,List.countP_map,List.countP_eq_length_filter]
   rfl
  rw [ec]
  exact ⟨.int ((bs.filter (· == b)).length:Nat),H,I.tok _,⟨_,rfl⟩,q⟩
end
end L2
set_option maxHeartbeats 4000000
namespace KT
open PySem L2
noncomputable def aB (i:Nat):Nat:=bif (i % 3).beq 2 then i - 2 else i + 1
noncomputable def bB (i:Nat):Nat:=bif (i % 3).beq 0 then i + 2 else i - 1
noncomputable def mvB (l:Bool) (a b z:Nat):Nat:=bif z.beq (aB a) then (bif l then bB b else bB a) else bif z.beq (bB b) then (bif l then aB b else aB a) else bif z.beq (aB b) then (bif l then bB a else bB b) else bif z.beq (bB a) then (bif l then aB a else aB b) else z
theorem beqD (x y:Nat):x.beq y=decide (x=y):=by
 rw [Bool.eq_iff_iff,Nat.beq_eq,decide_eq_true_iff]
theorem Zku (i:Nat):aB i=aftN i:=by
 unfold aB aftN
 by_cases h:i % 3=2
 ·rw [if_pos h,h]; rfl
 ·rw [if_neg h,beqD,decide_eq_false h]; rfl
theorem Zkt (i:Nat):bB i=befN i:=by
 unfold bB befN
 by_cases h:i % 3=0
 ·rw [if_pos h,h]; rfl
 ·rw [if_neg h,beqD,decide_eq_false h]; rfl
theorem Zhu (l:Bool) (a b z:Nat):mvB l a b z=mvN l a b z:=by
 have f:∀ (x y:Nat),((x:Int)=(y:Int))=(x=y):=fun x y=>propext Int.ofNat_inj
 unfold mvB mvN mvI
 rw [Xs,Xs,J9,J9]
 simp only [f,beqD,Zku,Zkt]
 by_cases h1:z=aftN a
 ·simp [h1]; cases l <;> simp
 ·simp only [h1,decide_false,cond_false,if_false]
  by_cases h2:z=befN b
  ·simp [h2]; cases l <;> simp
  ·simp only [h2,decide_false,cond_false,if_false]
   by_cases h3:z=aftN b
   ·simp [h3]; cases l <;> simp
   ·simp only [h3,decide_false,cond_false,if_false]
    by_cases h4:z=befN a
    ·simp [h4]; cases l <;> simp
    ·simp [h4]
noncomputable def fo (n:Nat) (k:Nat→Bool):Bool:=match n with
 | 0=>k 0
 | m + 1=>k (m + 1)
end KT
set_option maxHeartbeats 4000000
namespace KT
open PySem L2
structure Pt (a b c d:Nat):Prop where
 bc:b / 3=c / 3
 ne:b≠c
 ab:a / 3≠b / 3
 db:d / 3≠b / 3
 ad:a / 3≠d / 3
end KT
set_option maxHeartbeats 4000000
namespace KT
open PySem L2
theorem Vc {a b:Nat} (h:a / 3≠b / 3) (l:Bool) (z:Nat):mvN l a b z=mvN l b a z:=by
 rw [← Zhu,← Zhu]
 unfold mvB
 simp only [Zku,Zkt,beqD]
 have d1:=Yx a
 have d2:=Yx b
 have d3:=Ye a
 have d4:=Ye b
 have n1:∀ c,aftN c≠befN c:=fun c=>by unfold aftN befN; split <;> split <;> omega
 by_cases c1:z=aftN a
 ·subst c1
  have:=n1 a
  have x1:aftN a≠aftN b:=by omega
  have x2:aftN a≠befN b:=by omega
  simp [x1,x2,this]
 ·by_cases c2:z=befN b
  ·subst c2
   have:=n1 b
   have x1:befN b≠aftN a:=by omega
   have x2:befN b≠befN a:=by omega
   simp [x1,x2,this.symm]
  ·by_cases c3:z=aftN b
   ·subst c3
    have:=n1 b
    have x1:aftN b≠aftN a:=by omega
    simp [x1,this]
   ·by_cases c4:z=befN a
    ·subst c4
     have:=n1 a
     have x1:befN a≠aftN b:=by omega
     have x2:befN a≠befN b:=by omega
     simp [x1,x2,this.symm]
    ·simp [c1,c2,c3,c4]
theorem Zey {a b:Nat} (h:a / 3≠b / 3) (l:Bool) (M:List (Option Nat)):exM l a b M=exM l b a M:=by
 have e:∀ l,mvN l a b=mvN l b a:=fun l=>funext fun z=>Vc h l z
 unfold exM
 rw [e,e]
end KT
set_option maxHeartbeats 4000000
namespace KT
open PySem L2
section
variable {M:List (Option Nat)}
theorem Zic (inv:InvM M):∀ (k c:Nat) (cs:List Nat),Fan M c cs→M.length - cs.length≤k→∃ ds cl,FanEnd M c ds cl
 | k,c,cs,h,hk=>by
  have hp:=h.pos
  obtain ⟨l,hl⟩:∃ l,cs[cs.length - 1]?=some l:=⟨_,List.getElem?_eq_getElem (by omega)⟩
  cases e:nxC M l with
  | none=>exact ⟨cs,false,⟨h,l,hl,by simpa using e⟩⟩
  | some f =>
   by_cases hc:f=c
   ·subst hc
    exact ⟨cs,true,⟨h,l,hl,by simpa using e⟩⟩
   ·have h':=h.snoc inv hl e hc
    have hlen:=h'.len
    rw [List.length_append,List.length_singleton] at hlen
    cases k with
    | zero=>omega
    | succ k=>exact Zic inv k c _ h' (by rw [List.length_append,List.length_singleton]; omega)
theorem Zne (inv:InvM M) {c:Nat} (h:c < M.length):∃ cs cl,FanEnd M c cs cl:=Zic inv _ c [c] (Fan.one h) (Nat.le_refl _)
open Classical in
noncomputable def fanF (M:List (Option Nat)) (c:Nat):List Nat × Bool:=if h:∃ q:List Nat × Bool,FanEnd M c q.1 q.2 then h.choose else ([],false)
theorem W6 {c:Nat} {cs:List Nat} {cl:Bool} (h:FanEnd M c cs cl):fanF M c=(cs,cl):=by
 have hx:∃ q:List Nat × Bool,FanEnd M c q.1 q.2:=⟨(cs,cl),h⟩
 unfold fanF
 rw [dif_pos hx]
 obtain ⟨e1,e2⟩:=FanEnd.same hx.choose_spec h
 exact Prod.ext e1 e2
theorem Yp (inv:InvM M) {c:Nat} (h:c < M.length):FanEnd M c (fanF M c).1 (fanF M c).2:=by
 obtain ⟨cs,cl,e⟩:=Zne inv h
 rw [W6 e]
 exact e
theorem FanEnd.pred (inv:InvM M) {c:Nat} {cs:List Nat} {cl:Bool} (h:FanEnd M c cs cl) {a:Nat} {i:Nat} {b:Nat} (hb:cs[i + 1]?=some b) (hab:nxC M a=some b):cs[i]?=some a:=by
 obtain ⟨a',ha'⟩:∃ a',cs[i]?=some a':=⟨_,List.getElem?_eq_getElem (by have:=(List.getElem?_eq_some_iff.mp hb).1; omega)⟩
 have:=U5 inv hab (h.chain i a' b ha' hb)
 rw [this]
 exact ha'
theorem FanEnd.predC (inv:InvM M) {c:Nat} {cs:List Nat} (h:FanEnd M c cs true) {a b:Nat} (hb:b∈cs) (hab:nxC M a=some b):a∈cs:=by
 obtain ⟨i,hi,rfl⟩:=List.mem_iff_getElem.mp hb
 cases i with
 | succ i=>exact List.mem_of_getElem? (h.pred inv (List.getElem?_eq_getElem hi) hab)
 | zero =>
  obtain ⟨l,hl,hn⟩:=h.last
  rw [if_pos rfl] at hn
  have e:cs[0]=c:=by
   have:=h.head
   rw [List.getElem?_eq_getElem hi] at this
   exact Option.some.inj this
  rw [e] at hab
  rw [U5 inv hab hn]
  exact List.mem_of_getElem? hl
theorem Ks (inv:InvM M) {a r:Nat} (hr:RimP M r):nxC M a≠some r:=fun h=>by
 have e:=(inv _ _ (Yt.mp h)).1
 have hr:M[r]?=some none:=hr
 rw [hr] at e
 cases e
noncomputable def befQ (q:Nat):Nat:=if q % 3=0 then q + 2 else q - 1
theorem Oy (inv:InvM M) {n:Nat} (hn:M.length=3 * n):∀ (k c:Nat) (cs:List Nat),FanEnd M c cs false→M.length - cs.length≤k→∃ r ds,RimP M r∧FanEnd M r ds false∧∀ x∈cs,x∈ds
 | k,c,cs,h,hk=>by
  have hc:c < M.length:=h.lt c (List.mem_of_getElem? h.head)
  obtain ⟨o,ho⟩:∃ o,M[c]?=some o:=⟨_,List.getElem?_eq_getElem hc⟩
  cases o with
  | none=>exact ⟨c,cs,ho,h,fun x hx=>hx⟩
  | some q =>
   have hq:=(inv c q ho).1
   have hql:q < M.length:=(List.getElem?_eq_some_iff.mp hq).1
   have hb:aftN (befQ q)=q:=by unfold befQ aftN; split <;> split <;> omega
   have hbl:befQ q < M.length:=by unfold befQ; split <;> omega
   have hab:nxC M (befQ q)=some c:=Yt.mpr (by rw [hb]; exact hq)
   generalize befQ q=a at hb hbl hab
   obtain ⟨l,hl,hln⟩:=h.last
   rw [if_neg (by decide)] at hln
   have hna:a ∉ cs:=fun z=>by
    obtain ⟨i,hi,e⟩:=List.mem_iff_getElem.mp z
    have ei:cs[i]?=some a:=by rw [List.getElem?_eq_getElem hi,e]
    by_cases last:i=cs.length - 1
    ·rw [last,hl] at ei
     cases ei
     rw [hln] at hab
     cases hab
    ·obtain ⟨b,hb'⟩:∃ b,cs[i + 1]?=some b:=⟨_,List.getElem?_eq_getElem (by omega)⟩
     have:=h.chain i a b ei hb'
     rw [hab] at this
     cases this
     have h0:=h.head
     have e1:=(List.getElem?_eq_some_iff.mp hb').2
     have e0:=(List.getElem?_eq_some_iff.mp h0).2
     have:=(List.getElem_inj h.nodup (h₀:=by omega) (h₁:=by omega)).mp (e1.trans e0.symm)
     omega
   have h':FanEnd M a (a :: cs) false:=by
    refine ⟨⟨rfl,fun i x y hx hy=>?_,List.nodup_cons.mpr ⟨hna,h.nodup⟩,fun x hx=>?_⟩,l,?_,by rw [if_neg (by decide)]; exact hln⟩
    ·cases i with
     | zero =>
      cases hx
      rw [show (a :: cs)[0 + 1]?=cs[0]? from rfl,h.head] at hy
      cases hy
      exact hab
     | succ i=>exact h.chain i x y hx hy
    ·rcases List.mem_cons.mp hx with z | z
     ·rw [z]; exact hbl
     ·exact h.lt x z
    ·have hp:=h.pos
     rw [List.length_cons,show cs.length + 1 - 1=cs.length - 1 + 1 by omega]
     exact hl
   have hlen:=h'.len
   rw [List.length_cons] at hlen
   cases k with
   | zero=>omega
   | succ k =>
    obtain ⟨r,ds,h1,h2,h3⟩:=Oy inv hn k a _ h' (by rw [List.length_cons]; omega)
    exact ⟨r,ds,h1,h2,fun x hx=>h3 x (List.mem_cons_of_mem _ hx)⟩
end
end KT
set_option maxHeartbeats 4000000
namespace KT
open PySem L2
section
variable {M:List (Option Nat)}
theorem G1 (inv:InvM M) {r r':Nat} {cs ds:List Nat} (hr:RimP M r) (hr':RimP M r') (h:FanEnd M r cs false) (h':FanEnd M r' ds false):∀ (i j x:Nat),cs[i]?=some x→ds[j]?=some x→r=r'
 | 0,0,x,hx,hy=>by
  rw [h.head] at hx
  rw [h'.head] at hy
  cases hx
  cases hy
  rfl
 | 0,j + 1,x,hx,hy=>by
  rw [h.head] at hx
  cases hx
  obtain ⟨a,ha⟩:∃ a,ds[j]?=some a:=⟨_,List.getElem?_eq_getElem (by have:=(List.getElem?_eq_some_iff.mp hy).1; omega)⟩
  exact absurd (h'.chain j a r ha hy) (Ks inv hr)
 | i + 1,0,x,hx,hy=>by
  rw [h'.head] at hy
  cases hy
  obtain ⟨a,ha⟩:∃ a,cs[i]?=some a:=⟨_,List.getElem?_eq_getElem (by have:=(List.getElem?_eq_some_iff.mp hx).1; omega)⟩
  exact absurd (h.chain i a r' ha hx) (Ks inv hr')
 | i + 1,j + 1,x,hx,hy=>by
  obtain ⟨a,ha⟩:∃ a,cs[i]?=some a:=⟨_,List.getElem?_eq_getElem (by have:=(List.getElem?_eq_some_iff.mp hx).1; omega)⟩
  exact G1 inv hr hr' h h' i j a ha (h'.pred inv hy (h.chain i a x ha hx))
theorem Vi (inv:InvM M) {c r:Nat} {cs ds:List Nat} {cl:Bool} (h:FanEnd M r cs cl) (h':FanEnd M c ds true):∀ (i x:Nat),cs[i]?=some x→x∈ds→r∈ds
 | 0,x,hx,hd=>by
  rw [h.head] at hx
  cases hx
  exact hd
 | i + 1,x,hx,hd=>by
  obtain ⟨a,ha⟩:∃ a,cs[i]?=some a:=⟨_,List.getElem?_eq_getElem (by have:=(List.getElem?_eq_some_iff.mp hx).1; omega)⟩
  exact Vi inv h h' i a ha (h'.predC inv hd (h.chain i a x ha hx))
theorem FanEnd.has_pred {c:Nat} {cs:List Nat} (h:FanEnd M c cs true) {b:Nat} (hb:b∈cs):∃ a,nxC M a=some b:=by
 obtain ⟨i,hi,rfl⟩:=List.mem_iff_getElem.mp hb
 cases i with
 | zero =>
  obtain ⟨l,hl,hn⟩:=h.last
  have e:cs[0]=c:=by
   have:=h.head
   rw [List.getElem?_eq_getElem hi] at this
   exact Option.some.inj this
  rw [e]
  exact ⟨l,by simpa using hn⟩
 | succ i=>exact ⟨_,h.chain i _ _ (List.getElem?_eq_getElem (by omega)) (List.getElem?_eq_getElem hi)⟩
theorem Jx (inv:InvM M) {c r:Nat} {cs ds:List Nat} {cl:Bool} (hr:RimP M r) (h:FanEnd M r cs cl) (h':FanEnd M c ds true) {x:Nat} (hx:x∈cs) (hd:x∈ds):False:=by
 obtain ⟨i,hi,rfl⟩:=List.mem_iff_getElem.mp hx
 obtain ⟨a,ha⟩:=h'.has_pred (Vi inv h h' i _ (List.getElem?_eq_getElem hi) hd)
 exact Ks inv hr ha
theorem Fs:∀ (i c x:Nat) (cs:List Nat),FanEnd M c cs true→cs[i]?=some x→∃ ds,FanEnd M x ds true∧∀ y,y∈ds ↔ y∈cs
 | 0,c,x,cs,h,hx=>by
  rw [h.head] at hx
  cases hx
  exact ⟨cs,h,fun y=>Iff.rfl⟩
 | i + 1,c,x,cs,h,hx=>by
  have hi:=(List.getElem?_eq_some_iff.mp hx).1
  have hm:1 % cs.length=1:=Nat.mod_eq_of_lt (by omega)
  obtain ⟨c1,hc1⟩:∃ c1,cs[1 % cs.length]?=some c1:=⟨_,List.getElem?_eq_getElem (by omega)⟩
  have h1:=h.rot hc1
  have hx1:(KT.rot cs 1)[i]?=some x:=by
   rw [Zd7 (by omega) (by omega),Nat.mod_eq_of_lt (by omega)]
   exact hx
  obtain ⟨ds,k1,k2⟩:=Fs i c1 x _ h1 hx1
  refine ⟨ds,k1,fun y=>(k2 y).trans ?_⟩
  unfold KT.rot
  rw [List.mem_append,Or.comm,← List.mem_append,List.take_append_drop]
noncomputable def Can (M:List (Option Nat)) (c:Nat):Prop:=RimP M c∨((fanF M c).2=true∧∀ x∈(fanF M c).1,c≤x)
theorem V1 (inv:InvM M) {c c' x:Nat} (hc:c < M.length) (hc':c' < M.length) (k:Can M c) (k':Can M c') (hx:x∈(fanF M c).1) (hx':x∈(fanF M c').1):c=c':=by
 have F:=Yp inv hc
 have F':=Yp inv hc'
 rcases k with r | ⟨l,m⟩ <;> rcases k' with r' | ⟨l',m'⟩
 ·have e:=F.open inv r
  have e':=F'.open inv r'
  rw [e] at F
  rw [e'] at F'
  obtain ⟨i,hi,rfl⟩:=List.mem_iff_getElem.mp hx
  obtain ⟨j,hj,e2⟩:=List.mem_iff_getElem.mp hx'
  exact G1 inv r r' F F' i j _ (List.getElem?_eq_getElem hi) (by rw [List.getElem?_eq_getElem hj,e2])
 ·rw [l'] at F'
  exact absurd (Jx inv r F F' hx hx') id
 ·rw [l] at F
  exact absurd (Jx inv r' F' F hx' hx) id
 ·rw [l] at F
  rw [l'] at F'
  obtain ⟨i,hi,e1⟩:=List.mem_iff_getElem.mp hx
  obtain ⟨j,hj,e2⟩:=List.mem_iff_getElem.mp hx'
  have q1:=Vi inv F F' i x (by rw [List.getElem?_eq_getElem hi,e1]) hx'
  have q2:=Vi inv F' F j x (by rw [List.getElem?_eq_getElem hj,e2]) hx
  exact Nat.le_antisymm (m _ q2) (m' _ q1)
theorem Zb7:∀ (l:List Nat),l≠[]→∃ m∈l,∀ x∈l,m≤x
 | [],h=>absurd rfl h
 | [a],_=>⟨a,by simp,fun x hx=>by rw [List.mem_singleton.mp hx]; exact Nat.le_refl _⟩
 | a :: b :: l,_=>by
  obtain ⟨m,h1,h2⟩:=Zb7 (b :: l) (List.cons_ne_nil _ _)
  rcases Nat.lt_or_ge m a with c | c
  ·exact ⟨m,List.mem_cons_of_mem _ h1,fun x hx=>by rcases List.mem_cons.mp hx with e | e; omega; exact h2 x e⟩
  ·exact ⟨a,List.mem_cons_self,fun x hx=>by rcases List.mem_cons.mp hx with e | e; omega; have:=h2 x e; omega⟩
theorem Zin (inv:InvM M) {n:Nat} (hn:M.length=3 * n) {p:Nat} (hp:p < M.length):∃ c,c < M.length∧Can M c∧p∈(fanF M c).1:=by
 have F:=Yp inv hp
 have hpm:p∈(fanF M p).1:=List.mem_of_getElem? F.head
 cases e:(fanF M p).2 with
 | false =>
  rw [e] at F
  obtain ⟨r,ds,h1,h2,h3⟩:=Oy inv hn _ p _ F (Nat.le_refl _)
  exact ⟨r,h1.lt,.inl h1,by rw [W6 h2]; exact h3 p hpm⟩
 | true =>
  rw [e] at F
  obtain ⟨m,hm,hle⟩:=Zb7 (fanF M p).1 (fun z=>by rw [z] at hpm; cases hpm)
  obtain ⟨i,hi,em⟩:=List.mem_iff_getElem.mp hm
  obtain ⟨ds,h1,h2⟩:=Fs i p m _ F (by rw [List.getElem?_eq_getElem hi,em])
  refine ⟨m,F.lt m hm,.inr ?_,?_⟩
  ·rw [W6 h1]
   exact ⟨rfl,fun x hx=>hle x ((h2 x).mp hx)⟩
  ·rw [W6 h1]
   exact (h2 p).mpr hpm
end
theorem Gh {α:Type} (key:α→Int):∀ (l k:List α),l.Nodup→k.Nodup→l.Pairwise (fun a b=>key a≤key b)→k.Pairwise (fun a b=>key a≤key b)→(∀ x,x∈l ↔ x∈k)→(∀ x∈l,∀ y∈l,key x=key y→x=y)→l=k
 | [],k,_,_,_,_,m,_=>by
  cases k with
  | nil=>rfl
  | cons b k=>exact absurd ((m b).mpr List.mem_cons_self) List.not_mem_nil
 | a :: l,[],_,_,_,_,m,_=>absurd ((m a).mp List.mem_cons_self) List.not_mem_nil
 | a :: l,b :: k,nl,nk,pl,pk,m,inj=>by
  have hab:a=b:=by
   refine inj a List.mem_cons_self b ((m b).mpr List.mem_cons_self) ?_
   have h1:key a≤key b:=by
    rcases List.mem_cons.mp ((m b).mpr List.mem_cons_self) with e | e
    ·rw [e]; exact Int.le_refl _
    ·exact (List.pairwise_cons.mp pl).1 b e
   have h2:key b≤key a:=by
    rcases List.mem_cons.mp ((m a).mp List.mem_cons_self) with e | e
    ·rw [e]; exact Int.le_refl _
    ·exact (List.pairwise_cons.mp pk).1 a e
   omega
  subst hab
  have nl':=List.nodup_cons.mp nl
  have nk':=List.nodup_cons.mp nk
  rw [Gh key l k nl'.2 nk'.2 (List.pairwise_cons.mp pl).2 (List.pairwise_cons.mp pk).2 (fun x=>⟨fun h=>?_,fun h=>?_⟩) (fun x hx y hy=>inj x (List.mem_cons_of_mem _ hx) y (List.mem_cons_of_mem _ hy))]
  ·rcases List.mem_cons.mp ((m x).mp (List.mem_cons_of_mem _ h)) with e | e
   ·rw [e] at h; exact absurd h nl'.1
   ·exact e
  ·rcases List.mem_cons.mp ((m x).mpr (List.mem_cons_of_mem _ h)) with e | e
   ·rw [e] at h; exact absurd h nk'.1
   ·exact e
end KT
set_option maxHeartbeats 4000000
namespace KT
open PySem L2
section
variable {M:List (Option Nat)}
noncomputable def fanL (M:List (Option Nat)) (c:Nat):List Nat:=(fanF M c).1
noncomputable def mn (l:List Nat):Nat:=l.min?.getD 0
theorem Zfy {l:List Nat} {m:Nat} (h:m∈l) (hm:∀ a∈l,m≤a):mn l=m:=by
 unfold mn
 rw [List.min?_eq_some_iff.mpr ⟨h,hm⟩]
 rfl
theorem Zb6 {l:List Nat} (h:l≠[]):mn l∈l∧∀ a∈l,mn l≤a:=by
 obtain ⟨m,h1,h2⟩:=Zb7 l h
 rw [Zfy h1 h2]
 exact ⟨h1,h2⟩
theorem Xc (inv:InvM M) {c:Nat} (h:c < M.length):c∈fanL M c:=List.mem_of_getElem? (Yp inv h).head
theorem Vf (inv:InvM M) {c:Nat} (h:c < M.length):fanL M c≠[]:=fun z=>by have:=Xc inv h; rw [z] at this; cases this
theorem Zib (inv:InvM M) {c x:Nat} (h:c < M.length) (hx:x∈fanL M c):x < M.length:=(Yp inv h).lt x hx
noncomputable def key (M:List (Option Nat)) (c:Nat):Int:=(mn (fanL M c):Nat)
theorem Zep (inv:InvM M) {c c':Nat} (hc:c < M.length) (hc':c' < M.length) (k:Can M c) (k':Can M c') (e:key M c=key M c'):c=c':=by
 have e:mn (fanL M c)=mn (fanL M c'):=by unfold key at e; omega
 have m1:=(Zb6 (Vf inv hc)).1
 have m2:=(Zb6 (Vf inv hc')).1
 rw [← e] at m2
 exact V1 inv hc hc' k k' m1 m2
noncomputable def gS (M:List (Option Nat)):List Nat→List Nat→List Nat
 | [],gs=>gs
 | p :: r,gs=>gS M r (if p∈(gs.map (fanL M)).flatten then gs else gs ++ [p])
noncomputable def Yl (M:List (Option Nat)) (ps:List Nat):List Nat:=gS M ps []
theorem Gn (M:List (Option Nat)) (p:Nat):∀ (ps gs:List Nat),gS M (ps ++ [p]) gs=if p∈((gS M ps gs).map (fanL M)).flatten then gS M ps gs else gS M ps gs ++ [p]
 | [],gs=>rfl
 | q :: r,gs=>Gn M p r _
theorem Zci {ps:List Nat} {p:Nat} (h:p∈((Yl M ps).map (fanL M)).flatten):Yl M (ps ++ [p])=Yl M ps:=by unfold Yl at *; rw [Gn,if_pos h]
theorem Fk {ps:List Nat} {p:Nat} (h:p ∉ ((Yl M ps).map (fanL M)).flatten):Yl M (ps ++ [p])=Yl M ps ++ [p]:=by unfold Yl at *; rw [Gn,if_neg h]
theorem Jd {S:List Nat} {x:Nat}:x∈(S.map (fanL M)).flatten ↔ ∃ c∈S,x∈fanL M c:=by
 rw [List.mem_flatten]
 exact ⟨fun ⟨l,hl,hx⟩=>by obtain ⟨c,hc,rfl⟩:=List.mem_map.mp hl; exact ⟨c,hc,hx⟩,fun ⟨c,hc,hx⟩=>⟨_,List.mem_map.mpr ⟨c,hc,rfl⟩,hx⟩⟩
theorem Zeu (inv:InvM M) (ps:List Nat) (rise:ps.Pairwise (· < ·)) (hcl:∀ x∈ps,x < M.length∧(fanF M x).2=true∧∀ y∈fanL M x,y∈ps):∀ i,i≤ps.length→(∀ c∈Yl M (ps.take i),c∈ps.take i∧∀ x∈fanL M c,c≤x)∧(∀ x∈ps.take i,x∈((Yl M (ps.take i)).map (fanL M)).flatten)∧(Yl M (ps.take i)).Nodup
 | 0,_=>⟨(fun c hc=>by cases hc),(fun x hx=>by cases hx),List.nodup_nil⟩
 | i + 1,hi=>by
  obtain ⟨h1,h2,h3⟩:=Zeu inv ps rise hcl i (by omega)
  have hp:=List.getElem?_eq_getElem (show i < ps.length by omega)
  generalize ps[i]=p at hp
  have et:ps.take (i + 1)=ps.take i ++ [p]:=by rw [List.take_add_one,hp]; rfl
  obtain ⟨p1,p2,p3⟩:=hcl p (List.mem_of_getElem? hp)
  rw [et]
  by_cases hm:p∈((Yl M (ps.take i)).map (fanL M)).flatten
  ·rw [Zci hm]
   refine ⟨fun c hc=>⟨List.mem_append_left _ (h1 c hc).1,(h1 c hc).2⟩,fun x hx=>?_,h3⟩
   rcases List.mem_append.mp hx with q | q
   ·exact h2 x q
   ·rw [List.mem_singleton.mp q]; exact hm
  ·rw [Fk hm]
   have hmin:∀ x∈fanL M p,p≤x:=fun y hy=>by
    rcases Nat.lt_or_ge y p with z | z
    ·exfalso
     have yps:=p3 y hy
     have yt:y∈ps.take i:=by
      obtain ⟨j,hj,e⟩:=List.mem_iff_getElem.mp yps
      have hij:j < i:=by
       rcases Nat.lt_or_ge j i with q | q
       ·exact q
       ·exfalso
        have ei:=(List.getElem?_eq_some_iff.mp hp).2
        rcases Nat.eq_or_lt_of_le q with q | q
        ·subst q; omega
        ·have:=List.pairwise_iff_getElem.mp rise i j (by omega) hj q
         omega
      exact List.mem_of_getElem? (i:=j) (by rw [List.getElem?_take,if_pos hij,List.getElem?_eq_getElem hj,e])
     obtain ⟨c,hc,hyc⟩:=Jd.mp (h2 y yt)
     have cps:=List.mem_of_mem_take (h1 c hc).1
     obtain ⟨c1,c2,_⟩:=hcl c cps
     have F:=Yp inv c1
     rw [c2] at F
     obtain ⟨k,hk,e⟩:=List.mem_iff_getElem.mp hy
     have:=Vi inv (Yp inv p1) F k y (by rw [← e]; exact List.getElem?_eq_getElem hk) hyc
     exact hm (Jd.mpr ⟨c,hc,this⟩)
    ·exact z
   refine ⟨fun c hc=>?_,fun x hx=>?_,?_⟩
   ·rcases List.mem_append.mp hc with q | q
    ·exact ⟨List.mem_append_left _ (h1 c q).1,(h1 c q).2⟩
    ·rw [List.mem_singleton.mp q]
     exact ⟨List.mem_append_right _ List.mem_cons_self,hmin⟩
   ·rw [List.map_append,List.flatten_append]
    rcases List.mem_append.mp hx with q | q
    ·exact List.mem_append_left _ (h2 x q)
    ·rw [List.mem_singleton.mp q]
     refine List.mem_append_right _ ?_
     show p∈(List.map (fanL M) [p]).flatten
     exact Jd.mpr ⟨p,List.mem_cons_self,Xc inv p1⟩
   ·rw [List.nodup_append]
    refine ⟨h3,by simp,fun a ha b hb e=>?_⟩
    rw [List.mem_singleton.mp hb] at e
    subst e
    exact hm (Jd.mpr ⟨a,ha,Xc inv p1⟩)
structure RiseC (M:List (Option Nat)) (S:List Nat):Prop where
 nd:S.Nodup
 pw:S.Pairwise fun a b=>key M a≤key M b
 mem:∀ c,c∈S ↔ c < M.length∧Can M c
theorem RiseC.uniq (inv:InvM M) {S S':List Nat} (h:RiseC M S) (h':RiseC M S'):S=S' :=
 Gh (key M) S S' h.nd h'.nd h.pw h'.pw (fun x=>(h.mem x).trans (h'.mem x).symm) fun x hx y hy e=>Zep inv ((h.mem x).mp hx).1 ((h.mem y).mp hy).1 ((h.mem x).mp hx).2 ((h.mem y).mp hy).2 e
noncomputable def othL (M:List (Option Nat)):List Nat:=(List.range M.length).filter fun c=>decide (c ∉ ((rimL M).map (fanL M)).flatten)
theorem Vm (inv:InvM M) {r:Nat} (h:RimP M r):(fanF M r).2=false:=FanEnd.open inv (Yp inv h.lt) h
theorem Q7 {c:Nat}:c∈othL M ↔ c < M.length∧∀ r,RimP M r→c ∉ fanL M r:=by
 unfold othL
 rw [List.mem_filter,List.mem_range,decide_eq_true_eq,Jd]
 refine ⟨fun zz35=>?_,fun ⟨h1,h2⟩=>⟨h1,fun ⟨r,hr,z⟩=>h2 r (Yw.mp hr) z⟩⟩
 obtain ⟨h1,h2⟩:=zz35
 exact ⟨h1,fun r hr z=>h2 ⟨r,Yw.mpr hr,z⟩⟩
theorem Jy (inv:InvM M) {n:Nat} (hn:M.length=3 * n) {c:Nat} (h:c∈othL M):c < M.length∧(fanF M c).2=true∧∀ y∈fanL M c,y∈othL M:=by
 obtain ⟨h1,h2⟩:=Q7.mp h
 have hc:(fanF M c).2=true:=by
  cases e:(fanF M c).2 with
  | true=>rfl
  | false =>
   have F:=Yp inv h1
   rw [e] at F
   obtain ⟨r,ds,r1,r2,r3⟩:=Oy inv hn _ c _ F (Nat.le_refl _)
   refine absurd ?_ (h2 r r1)
   show c∈(fanF M r).1
   rw [W6 r2]
   exact r3 c (Xc inv h1)
 refine ⟨h1,hc,fun y hy=>Q7.mpr ⟨Zib inv h1 hy,fun r hr z=>?_⟩⟩
 have F:=Yp inv h1
 rw [hc] at F
 exact Jx inv hr (Yp inv hr.lt) F z hy
noncomputable def stL (M:List (Option Nat)):List Nat:=rimL M ++ Yl M (othL M)
theorem Ox (inv:InvM M) {n:Nat} (hn:M.length=3 * n):(∀ c∈Yl M (othL M),c∈othL M∧∀ x∈fanL M c,c≤x)∧(∀ x∈othL M,x∈((Yl M (othL M)).map (fanL M)).flatten)∧(Yl M (othL M)).Nodup:=by
 have:=Zeu inv (othL M) (List.Pairwise.filter _ List.pairwise_lt_range) (fun x hx=>Jy inv hn hx) (othL M).length (Nat.le_refl _)
 rw [List.take_length] at this
 exact this
theorem Zgj (inv:InvM M) {n:Nat} (hn:M.length=3 * n) (c:Nat):c∈stL M ↔ c < M.length∧Can M c:=by
 obtain ⟨g1,g2,_⟩:=Ox inv hn
 unfold stL
 rw [List.mem_append]
 constructor
 ·rintro (h | h)
  ·exact ⟨(Yw.mp h).lt,.inl (Yw.mp h)⟩
  ·obtain ⟨a,b⟩:=g1 c h
   obtain ⟨c1,c2,_⟩:=Jy inv hn a
   exact ⟨c1,.inr ⟨c2,b⟩⟩
 ·rintro ⟨hc,k⟩
  rcases k with k | ⟨k1,k2⟩
  ·exact .inl (Yw.mpr k)
  ·right
   have ho:c∈othL M:=Q7.mpr ⟨hc,fun r hr z=>by
    have F:=Yp inv hc
    rw [k1] at F
    exact Jx inv hr (Yp inv hr.lt) F z (Xc inv hc)⟩
   obtain ⟨c',hc',hx⟩:=Jd.mp (g2 c ho)
   obtain ⟨a,b⟩:=g1 c' hc'
   obtain ⟨c1,c2,_⟩:=Jy inv hn a
   have:=V1 inv hc c1 (.inr ⟨k1,k2⟩) (.inr ⟨c2,b⟩) (Xc inv hc) hx
   rw [this]; exact hc'
theorem Zki (inv:InvM M) {n:Nat} (hn:M.length=3 * n):(stL M).Nodup:=by
 obtain ⟨g1,_,g3⟩:=Ox inv hn
 unfold stL
 rw [List.nodup_append]
 refine ⟨Zlg M,g3,fun a ha b hb e=>?_⟩
 subst e
 exact (Q7.mp (g1 a hb).1).2 a (Yw.mp ha) (Xc inv (Yw.mp ha).lt)
theorem Zkd (inv:InvM M) {n:Nat} (hn:M.length=3 * n) {S:List Nat} (nd:S.Nodup) (mem:∀ c,c∈S ↔ c < M.length∧Can M c):((S.map (fanL M)).flatten).Perm (List.range M.length):=by
 refine (List.perm_ext_iff_of_nodup ?_ List.nodup_range).mpr fun x=>?_
 ·unfold List.Nodup
  rw [List.pairwise_flatten]
  refine ⟨fun l hl=>?_,?_⟩
  ·obtain ⟨c,hc,rfl⟩:=List.mem_map.mp hl
   exact (Yp inv ((mem c).mp hc).1).nodup
  ·rw [List.pairwise_map]
   refine List.Pairwise.imp_of_mem (fun {a b} ha hb hne=>?_) nd
   intro x hx y hy e
   subst e
   exact hne (V1 inv ((mem a).mp ha).1 ((mem b).mp hb).1 ((mem a).mp ha).2 ((mem b).mp hb).2 hx hy)
 ·rw [Jd,List.mem_range]
  constructor
  ·rintro ⟨c,hc,hx⟩
   exact Zib inv ((mem c).mp hc).1 hx
  ·intro hx
   obtain ⟨c,h1,h2,h3⟩:=Zin inv hn hx
   exact ⟨c,(mem c).mpr ⟨h1,h2⟩,h3⟩
end
end KT
set_option maxHeartbeats 4000000
namespace KT
open PySem L2
noncomputable def it (f:Nat→Nat):Nat→Nat→Nat
 | 0,x=>x
 | k + 1,x=>f (it f k x)
noncomputable def orb (D:Nat→Prop) (f:Nat→Nat) (x y:Nat):Prop:=D x∧∃ k,it f k x=y
section
variable {D:Nat→Prop} {f:Nat→Nat} {N:Nat}
theorem Zjx {P:Nat→Prop}:∀ k,P k→∃ m,P m∧∀ j,j < m→¬ P j:=fun k=>by
 induction k using Nat.strongRecOn with
 | ind k ih =>
  intro h
  by_cases c:∃ j,j < k∧P j
  ·obtain ⟨j,h1,h2⟩:=c
   exact ih j h1 h2
  ·exact ⟨k,h,fun j h1 h2=>c ⟨j,h1,h2⟩⟩
end
end KT
set_option maxHeartbeats 4000000
namespace KT
open PySem L2
section
variable {M:List (Option Nat)} {P:List Nat} {n:Nat}
structure Pc (M:List (Option Nat)) (n:Nat) (P:List Nat):Prop where
 inv:InvM M
 hn:M.length=3 * n
 nd:P.Nodup
 lt:∀ k∈P,k < n
 clo:∀ x y,M[x]?=some (some y)→(x / 3∈P ↔ y / 3∈P)
 con:∀ Q:Nat→Prop,(∀ x y,M[x]?=some (some y)→x / 3∈P→Q (x / 3)→Q (y / 3))→∀ k∈P,Q k→∀ j∈P,Q j
noncomputable def lowB (M:List (Option Nat)) (p:Nat):Bool:=match M[p]? with | some (some q)=>decide (p < q) | _=>false
theorem Zem {p:Nat}:lowB M p=true ↔ ∃ q,M[p]?=some (some q)∧p < q:=by
 unfold lowB
 split
 ·rename_i q e
  rw [decide_eq_true_eq]
  exact ⟨fun h=>⟨q,e,h⟩,fun ⟨q',e',h⟩=>by rw [e] at e'; cases e'; exact h⟩
 ·rename_i e
  exact ⟨(fun h=>by cases h),fun ⟨q,e',_⟩=>absurd e' (e q)⟩
theorem Zjn {p a b:Nat} {os:List Nat} (h:OrbEnd (Bh M) p os) (ha:a∈os) (hab:Bh M a b):b∈os:=by
 obtain ⟨i,hi,rfl⟩:=List.mem_iff_getElem.mp ha
 have e0:=List.getElem?_eq_getElem hi
 by_cases c:i + 1 < os.length
 ·have e1:=List.getElem?_eq_getElem c
  rw [Bh.fn _ _ _ hab (h.chain i _ _ e0 e1)]
  exact List.getElem_mem c
 ·obtain ⟨l,l1,l2⟩:=h.last
  have:os.length - 1=i:=by omega
  rw [this,e0] at l1
  cases l1
  rw [Bh.fn _ _ _ hab l2]
  exact List.mem_of_getElem? h.head
structure Rnd (M:List (Option Nat)) (gs:List (List Nat)):Prop where
 ok:GOk M gs
 all:∀ r,RimP M r→r∈gs.flatten
noncomputable def inP (P:List Nat) (c:Nat):Bool:=decide (c / 3∈P)
theorem Y8 {c:Nat}:inP P c=true ↔ c / 3∈P:=decide_eq_true_iff
theorem Zet {R:Nat→Nat→Prop} {p:Nat} {os:List Nat} (h:Orb R p os):os.headD 0=p:=by
 have:=h.head
 cases os with
 | nil=>cases this
 | cons a r=>cases this; rfl
noncomputable def X2 (M:List (Option Nat)) (P:List Nat) (p:Nat):Bool:=inP P p && (rimB M p || lowB M p)
end
end KT
set_option maxHeartbeats 4000000
namespace KT
open PySem L2
section
variable {M:List (Option Nat)} {n:Nat}
theorem Zoa (inv:InvM M) {r:Nat} (h:RimP M r):∃ f,Bh M r f:=by
 have F:=Yp inv h.lt
 rw [Vm inv h] at F
 obtain ⟨l,h1,_⟩:=F.last
 exact ⟨_,h,_,l,F,h1,rfl⟩
theorem Zhf (inv:InvM M) (hn:M.length=3 * n):∀ (k p:Nat) (os:List Nat),RimP M p→Orb (Bh M) p os→M.length - os.length≤k→∃ ds,OrbEnd (Bh M) p ds
 | k,p,os,hp,h,hk=>by
  have hpos:=h.pos
  obtain ⟨l,hl⟩:∃ l,os[os.length - 1]?=some l:=⟨_,List.getElem?_eq_getElem (by omega)⟩
  have rl:=U4 hn h hp l (List.mem_of_getElem? hl)
  obtain ⟨f,hf⟩:=Zoa inv rl
  by_cases c:f=p
  ·exact ⟨os,h,l,hl,c ▸ hf⟩
  ·have hnew:=h.new (Bh.inj inv) hl hf c
   have h2:=h.snoc hl hf hnew
   have hlen:=X0 M.length _ h2.nodup fun a ha=>(U4 hn h2 hp a ha).lt
   rw [List.length_append,List.length_singleton] at hlen
   cases k with
   | zero=>omega
   | succ k=>exact Zhf inv hn k p _ hp h2 (by rw [List.length_append,List.length_singleton]; omega)
theorem Zm1 (inv:InvM M) (hn:M.length=3 * n) {p:Nat} (hp:RimP M p):∃ os,OrbEnd (Bh M) p os:=Zhf inv hn _ p [p] hp (Orb.one p) (Nat.le_refl _)
theorem Zgz (inv:InvM M) (hn:M.length=3 * n):∀ (i:Nat) (ps:List Nat),ps.length=i→(∀ p∈ps,RimP M p)→GOk M (Ym M ps)∧∀ p∈ps,p∈(Ym M ps).flatten
 | 0,ps,e,_=>by
  rw [List.length_eq_zero_iff.mp e]
  exact ⟨GOk.nil M,fun p h=>absurd h List.not_mem_nil⟩
 | i + 1,ps,e,hr=>by
  obtain ⟨qs,p,rfl⟩:∃ qs p,ps=qs ++ [p]:=⟨ps.dropLast,ps.getLast (fun z=>by rw [z] at e; cases e),(List.dropLast_concat_getLast _).symm⟩
  rw [List.length_append,List.length_singleton] at e
  obtain ⟨h1,h2⟩:=Zgz inv hn i qs (by omega) fun q hq=>hr q (List.mem_append_left _ hq)
  have hp:=hr p (List.mem_append_right _ List.mem_cons_self)
  by_cases c:p∈(Ym M qs).flatten
  ·rw [Zck c]
   refine ⟨h1,fun q hq=>?_⟩
   rcases List.mem_append.mp hq with z | z
   ·exact h2 q z
   ·rw [List.mem_singleton.mp z]; exact c
  ·obtain ⟨os,ho⟩:=Zm1 inv hn hp
   rw [Fm c ho]
   refine ⟨h1.snoc inv hn ho hp c,fun q hq=>?_⟩
   rw [List.flatten_append,List.flatten_singleton]
   rcases List.mem_append.mp hq with z | z
   ·exact List.mem_append_left _ (h2 q z)
   ·rw [List.mem_singleton.mp z]; exact List.mem_append_right _ (List.mem_of_getElem? ho.head)
theorem Gg (inv:InvM M) (hn:M.length=3 * n):Rnd M (Ym M (rimL M)):=by
 obtain ⟨h1,h2⟩:=Zgz inv hn _ (rimL M) rfl fun p hp=>Yw.mp hp
 exact ⟨h1,fun r hr=>h2 r (Yw.mpr hr)⟩
inductive Rch (M:List (Option Nat)):Nat→Nat→Prop
 | refl (k:Nat):Rch M k k
 | step {k x y:Nat}:Rch M k (x / 3)→M[x]?=some (some y)→Rch M k (y / 3)
theorem Rch.trans {a b c:Nat} (h:Rch M a b) (h':Rch M b c):Rch M a c:=by
 induction h' with
 | refl=>exact h
 | step _ e ih=>exact ih.step e
theorem Rch.sym (inv:InvM M) {a b:Nat} (h:Rch M a b):Rch M b a:=by
 induction h with
 | refl=>exact .refl _
 | step _ e ih=>exact ((Rch.refl _).step (inv _ _ e).1).trans ih
open Classical in
noncomputable def pcL (M:List (Option Nat)) (n k:Nat):List Nat:=(List.range n).filter fun j=>decide (Rch M k j)
open Classical in
theorem Wh {k j:Nat}:j∈pcL M n k ↔ j < n∧Rch M k j:=by unfold pcL; rw [List.mem_filter,List.mem_range,decide_eq_true_iff]
noncomputable def Lst (M:List (Option Nat)) (k:Nat):Prop:=∀ j,Rch M k j→k≤j
open Classical in
noncomputable def lsL (M:List (Option Nat)) (n:Nat):List Nat:=(List.range n).filter fun k=>decide (Lst M k)
open Classical in
theorem Zel {k:Nat}:k∈lsL M n ↔ k < n∧Lst M k:=by unfold lsL; rw [List.mem_filter,List.mem_range,decide_eq_true_iff]
theorem Zfq (inv:InvM M) (hn:M.length=3 * n) {k:Nat} (hk:k < n):Pc M n (pcL M n k) where
 inv:=inv
 hn:=hn
 nd:=List.Pairwise.filter _ List.nodup_range
 lt:=fun j hj=>(Wh.mp hj).1
 clo:=fun x y e=>by
  have hx:=(List.getElem?_eq_some_iff.mp e).1
  have e':=(inv _ _ e).1
  have hy:=(List.getElem?_eq_some_iff.mp e').1
  rw [Wh,Wh]
  refine ⟨fun zz36=>?_,fun ⟨_,h⟩=>⟨by omega,h.step e'⟩⟩
  obtain ⟨_,h⟩:=zz36
  exact ⟨by omega,h.step e⟩
 con:=fun Q hQ a ha qa j hj=>by
  obtain ⟨_,a2⟩:=Wh.mp ha
  obtain ⟨-,j2⟩:=Wh.mp hj
  have r:=(a2.sym inv).trans j2
  clear hj j2
  induction r with
  | refl=>exact qa
  | step r e ih=>exact hQ _ _ e (Wh.mpr ⟨by have:=(List.getElem?_eq_some_iff.mp e).1; omega,a2.trans r⟩) ih
theorem Zm8 (inv:InvM M) (k:Nat):∃ m,Rch M k m∧Lst M m:=by
 obtain ⟨m,h1,h2⟩:=Zjx (P:=fun j=>Rch M k j) k (.refl k)
 refine ⟨m,h1,fun j hj=>?_⟩
 rcases Nat.lt_or_ge j m with z | z
 ·exact absurd (h1.trans hj) (h2 j z)
 ·exact z
noncomputable def gP (M:List (Option Nat)) (n:Nat):List Nat→List Nat→List Nat
 | [],gs=>gs
 | p :: r,gs=>gP M n r (if p∈(gs.map (pcL M n)).flatten then gs else gs ++ [p])
noncomputable def Xd (M:List (Option Nat)) (n:Nat) (ps:List Nat):List Nat:=gP M n ps []
theorem Go (M:List (Option Nat)) (n p:Nat):∀ (ps gs:List Nat),gP M n (ps ++ [p]) gs=if p∈((gP M n ps gs).map (pcL M n)).flatten then gP M n ps gs else gP M n ps gs ++ [p]
 | [],gs=>rfl
 | q :: r,gs=>Go M n p r _
theorem Zcj {ps:List Nat} {p:Nat} (h:p∈((Xd M n ps).map (pcL M n)).flatten):Xd M n (ps ++ [p])=Xd M n ps:=by unfold Xd at *; rw [Go,if_pos h]
theorem Fl {ps:List Nat} {p:Nat} (h:p ∉ ((Xd M n ps).map (pcL M n)).flatten):Xd M n (ps ++ [p])=Xd M n ps ++ [p]:=by unfold Xd at *; rw [Go,if_neg h]
open Classical in
theorem Ov (inv:InvM M) (hn:M.length=3 * n):∀ i,i≤n→Xd M n (List.range i)=(List.range i).filter fun k=>decide (Lst M k)
 | 0,_=>rfl
 | i + 1,hi=>by
  have ih:=Ov inv hn i (by omega)
  rw [List.range_succ,List.filter_append]
  have hm:i∈((Xd M n (List.range i)).map (pcL M n)).flatten ↔ ¬ Lst M i:=by
   rw [ih,List.mem_flatten]
   constructor
   ·rintro ⟨l,hl,hx⟩ hL
    obtain ⟨c,hc,rfl⟩:=List.mem_map.mp hl
    obtain ⟨c1,c2⟩:=List.mem_filter.mp hc
    have:=hL c ((Wh.mp hx).2.sym inv)
    have:=List.mem_range.mp c1
    omega
   ·intro hL
    obtain ⟨m,m1,m2⟩:=Zm8 inv i
    have hle:m≤i:=m2 i (m1.sym inv)
    have hne:m≠i:=fun z=>hL (z ▸ m2)
    exact ⟨_,List.mem_map.mpr ⟨m,List.mem_filter.mpr ⟨List.mem_range.mpr (by omega),decide_eq_true m2⟩,rfl⟩,Wh.mpr ⟨by omega,m1.sym inv⟩⟩
  by_cases c:Lst M i
  ·rw [Fl (fun z=>hm.mp z c),ih,List.filter_cons_of_pos (by exact decide_eq_true c)]
   rfl
  ·rw [Zcj (hm.mpr c),ih,List.filter_cons_of_neg (by rw [decide_eq_false c]; decide)]
   simp
theorem Zh7 (inv:InvM M) (hn:M.length=3 * n):Xd M n (List.range n)=lsL M n:=Ov inv hn n (Nat.le_refl _)
structure WkI (M:List (Option Nat)) (n k:Nat) (R W:List Nat):Prop where
 nd:R.Nodup
 st:k∈R
 rc:∀ i∈R,i < n∧Rch M k i
 sub:∀ i∈W,i∈R
 cl:∀ i∈R,i ∉ W→∀ x y,M[x]?=some (some y)→x / 3=i→y / 3∈R
theorem WkI.len {k:Nat} {R W:List Nat} (h:WkI M n k R W):R.length≤n:=X0 n R h.nd fun a ha=>(h.rc a ha).1
theorem WkI.done {k:Nat} {R:List Nat} (h:WkI M n k R []) {j:Nat} (r:Rch M k j):j∈R:=by
 induction r with
 | refl=>exact h.st
 | step _ e ih=>exact h.cl _ ih List.not_mem_nil _ _ e rfl
theorem WkI.mem (inv:InvM M) (hn:M.length=3 * n) {k:Nat} (hk:k < n) {R:List Nat} (h:WkI M n k R []) {j:Nat}:j∈R ↔ j∈pcL M n k:=by
 rw [Wh]
 refine ⟨fun z=>h.rc j z,fun zz37=>?_⟩
 obtain ⟨_,z⟩:=zz37
 exact h.done z
end
end KT
set_option maxHeartbeats 4000000
namespace KT
open PySem L2
theorem thrE {x a:Nat} (h:x / 3=a / 3):x=a∨x=aftN a∨x=befN a:=by unfold aftN befN; split <;> split <;> omega
theorem Gq (c:Nat):befN (befN c)=aftN c:=by unfold aftN befN; split <;> split <;> split <;> omega
theorem Ze7 (i:Nat):befN i≠i:=by unfold befN; split <;> omega
theorem Zkn {left:Bool} {a b:Nat} (hab:a / 3≠b / 3) (x:Nat):mvN left a b x=x∨((x / 3=a / 3∨x / 3=b / 3)∧(mvN left a b x / 3=a / 3∨mvN left a b x / 3=b / 3)):=by
 by_cases h1:x / 3=a / 3
 ·rcases thrE h1 with rfl | rfl | rfl
  ·exact .inl (mv_a hab).1
  ·refine .inr ⟨.inl h1,?_⟩
   rw [(Vb hab left).1]
   cases left
   ·exact .inl (Ye _)
   ·exact .inr (Ye _)
  ·refine .inr ⟨.inl h1,?_⟩
   rw [(Vb hab left).2.2.2]
   cases left
   ·exact .inr (Yx _)
   ·exact .inl (Yx _)
 by_cases h2:x / 3=b / 3
 ·rcases thrE h2 with rfl | rfl | rfl
  ·exact .inl (mv_a hab).2
  ·refine .inr ⟨.inr h2,?_⟩
   rw [(Vb hab left).2.2.1]
   cases left
   ·exact .inr (Ye _)
   ·exact .inl (Ye _)
  ·refine .inr ⟨.inr h2,?_⟩
   rw [(Vb hab left).2.1]
   cases left
   ·exact .inl (Yx _)
   ·exact .inr (Yx _)
 exact .inl (Us h1 h2)
inductive Pq (M:List (Option Nat)):Nat→Nat→Prop
 | refl (x:Nat):Pq M x x
 | fw {x y z:Nat}:Pq M x y→nxC M y=some z→Pq M x z
 | bw {x y z:Nat}:Pq M x y→nxC M z=some y→Pq M x z
section
variable {M:List (Option Nat)} {ns:List Int} {left:Bool} {a b:Nat}
theorem Pq.trans {x y z:Nat} (h:Pq M x y) (g:Pq M y z):Pq M x z:=by
 induction g with
 | refl=>exact h
 | fw _ e ih=>exact ih.fw e
 | bw _ e ih=>exact ih.bw e
theorem Pq.symm {x y:Nat} (h:Pq M x y):Pq M y x:=by
 induction h with
 | refl=>exact .refl _
 | fw _ e ih=>exact ((Pq.refl _).bw e).trans ih
 | bw _ e ih=>exact ((Pq.refl _).fw e).trans ih
noncomputable def fE (left:Bool) (a b x:Nat):Nat:=if x=a then mvN left a b (befN b) else if x=b then mvN left a b (befN a) else mvN left a b x
theorem fE_a:fE left a b a=mvN left a b (befN b):=if_pos rfl
theorem fE_b (hab:a / 3≠b / 3):fE left a b b=mvN left a b (befN a):=by unfold fE; rw [if_neg (fun z=>hab (by rw [z])),if_pos rfl]
theorem fE_o {x:Nat} (h:x≠a) (h':x≠b):fE left a b x=mvN left a b x:=by unfold fE; rw [if_neg h,if_neg h']
theorem Zid (hab:a / 3≠b / 3) (x:Nat):fE left a b x=fE left b a x:=by
 by_cases h:x=a
 ·subst h; rw [fE_a,fE_b (Ne.symm hab),Vc hab]
 by_cases h':x=b
 ·subst h'; rw [fE_a,fE_b hab,Vc hab]
 rw [fE_o h h',fE_o h' h,Vc hab]
structure Fr (M:List (Option Nat)) (ns:List Int) (a b:Nat):Prop where
 td:TD M ns
 hM:M[a]?=some (some b)
 hab:a / 3≠b / 3
theorem Fr.hb (h:Fr M ns a b):M[b]?=some (some a):=(h.td.inv _ _ h.hM).1
theorem Fr.la (h:Fr M ns a b):a < M.length:=(List.getElem?_eq_some_iff.mp h.hM).1
theorem Fr.lb (h:Fr M ns a b):b < M.length:=(List.getElem?_eq_some_iff.mp h.hb).1
theorem Fr.sw (h:Fr M ns a b):Fr M ns b a:=⟨h.td,h.hb,Ne.symm h.hab⟩
theorem Fr.mv (h:Fr M ns a b) {x y:Nat} (e:M[x]?=some (some y)):(exM left a b M)[mvN left a b x]?=some (some (mvN left a b y)):=Znf h.td h.la h.lb h.hab e
theorem Fr.ex (h:Fr M ns a b) (left:Bool):Fr (exM left a b M) (exN left a b ns) a b:=by
 refine ⟨h.td.ex h.la h.lb h.hab left,?_,h.hab⟩
 have:=h.mv (left:=left) h.hM
 rwa [(mv_a h.hab).1,(mv_a h.hab).2] at this
theorem Fr.back (h:Fr M ns a b) (left:Bool):exM (!left) a b (exM left a b M)=M:=Zka h.td h.la h.lb h.hab
theorem Q9 {x y:Nat} (e:M[x]?=some (some y)):nxC M (befN x)=some y:=Yt.mpr (by rw [Od]; exact e)
theorem Fr.half (h:Fr M ns a b) {x y:Nat} (hx:x / 3=a / 3) (e:M[aftN x]?=some (some y)) (hy:y≠b):Pq (exM left a b M) (fE left a b x) (mvN left a b y):=by
 have g:=h.ex left
 have v:=Vb h.hab left
 have m:=h.mv (left:=left) e
 rcases thrE hx with rfl | rfl | rfl
 ·rw [fE_a]
  refine (Pq.refl _).fw (Yt.mpr ?_)
  rw [v.1] at m
  rw [v.2.1]
  cases left
  ·show (exM false x b M)[aftN (aftN x)]?=_
   rw [Gv]; exact m
  ·show (exM true x b M)[aftN (aftN b)]?=_
   rw [Gv]; exact m
 ·rw [Gv,v.2.2.2] at m
  rw [fE_o (Oe a) (fun z=>h.hab (by rw [← z,Yx])),v.1]
  cases left
  ·exact ((Pq.refl (befN a)).fw (Q9 g.hM)).fw (Yt.mpr m)
  ·exact ((Pq.refl (befN b)).fw (Q9 g.hb)).fw (Yt.mpr m)
 ·rw [Od,h.hM] at e
  cases e
  exact absurd rfl hy
theorem Fr.step (h:Fr M ns a b) {x y:Nat} (hx:nxC M x=some y):Pq (exM left a b M) (fE left a b x) (fE left a b y):=by
 have e:=Yt.mp hx
 have e':=(h.td.inv _ _ e).1
 by_cases ya:y=a
 ·subst ya
  rw [h.hM] at e'
  cases e'
  have:fE left y (aftN x) x=fE left y (aftN x) y:=by
   rw [fE_a,J8,fE_o (fun z=>h.hab (by rw [Yx,z])) (Ne.symm (Oe x))]
  rw [this]
  exact .refl _
 by_cases yb:y=b
 ·subst yb
  rw [h.hb] at e'
  cases e'
  have:fE left (aftN x) y x=fE left (aftN x) y y:=by
   rw [fE_b h.hab,J8,fE_o (Ne.symm (Oe x)) (fun z=>h.hab (by rw [Yx,z]))]
  rw [this]
  exact .refl _
 rw [fE_o ya yb]
 by_cases xa:x / 3=a / 3
 ·exact h.half xa e yb
 by_cases xb:x / 3=b / 3
 ·have:=h.sw.half (left:=left) xb e ya
  rw [← Zey h.hab,← Zid h.hab,← Vc h.hab] at this
  exact this
 rw [fE_o (fun z=>xa (by rw [z])) (fun z=>xb (by rw [z])),Us xa xb]
 have m:=h.mv (left:=left) e
 rw [Us (by rw [Yx]; exact xa) (by rw [Yx]; exact xb)] at m
 exact (Pq.refl _).fw (Yt.mpr m)
theorem Fr.map (h:Fr M ns a b) {x y:Nat} (hx:Pq M x y):Pq (exM left a b M) (fE left a b x) (fE left a b y):=by
 induction hx with
 | refl=>exact .refl _
 | fw _ e ih=>exact ih.trans (h.step e)
 | bw _ e ih=>exact ih.trans (h.step e).symm
theorem Fr.unmap (h:Fr M ns a b) {x y:Nat} (hx:Pq (exM left a b M) x y):Pq M (fE (!left) a b x) (fE (!left) a b y):=by
 have:=(h.ex left).map (left:=!left) hx
 rwa [h.back left] at this
theorem Zfx (hab:a / 3≠b / 3) {x:Nat} (h1:x≠a) (h2:x≠b):mvN left a b x≠a∧mvN left a b x≠b :=
 ⟨fun z=>h1 (Ww hab left (z.trans (mv_a hab).1.symm)),fun z=>h2 (Ww hab left (z.trans (mv_a hab).2.symm))⟩
theorem Fr.again (h:Fr M ns a b) (x:Nat):Pq M x (fE (!left) a b (fE left a b x)):=by
 by_cases xa:x=a
 ·subst xa
  have q:=Zfx (left:=left) h.hab (x:=befN b) (fun z=>h.hab (by rw [← z,Ye])) (Ze7 b)
  rw [fE_a,fE_o q.1 q.2,Yh h.hab]
  exact (Pq.refl _).bw (Q9 h.hb)
 by_cases xb:x=b
 ·subst xb
  have q:=Zfx (left:=left) h.hab (x:=befN a) (Ze7 a) (fun z=>h.hab (by rw [← z,Ye]))
  rw [fE_b h.hab,fE_o q.1 q.2,Yh h.hab]
  exact (Pq.refl _).bw (Q9 h.hM)
 have q:=Zfx (left:=left) h.hab xa xb
 rw [fE_o xa xb,fE_o q.1 q.2,Yh h.hab]
 exact .refl _
theorem Fr.lt (h:Fr M ns a b) {x:Nat} (hx:x < M.length):fE left a b x < M.length:=by
 obtain ⟨n,_,_,hn⟩:=h.td.n
 have ha:=h.la
 have hb:=h.lb
 have q1:=Ye a
 have q2:=Ye b
 unfold fE
 rw [hn] at ha hb hx ⊢
 split
 ·exact Xi ha hb left (by omega)
 split
 ·exact Xi ha hb left (by omega)
 ·exact Xi ha hb left hx
theorem Zg5 (inv:InvM M) {c x:Nat} (hc:c < M.length) (k:Can M c) (h:Pq M c x):x∈fanL M c:=by
 have F:=Yp inv hc
 induction h with
 | refl=>exact Xc inv hc
 | fw _ e ih =>
  obtain ⟨i,hi,rfl⟩:=List.mem_iff_getElem.mp ih
  by_cases z:i + 1 < (fanL M c).length
  ·have:=F.chain i _ _ (List.getElem?_eq_getElem hi) (List.getElem?_eq_getElem z)
   have this:nxC M (fanL M c)[i]=some (fanL M c)[i + 1]:=this
   rw [e] at this
   rw [Option.some.inj this]
   exact List.getElem_mem z
  ·obtain ⟨l,hl,hn⟩:=F.last
   have hl:(fanL M c)[(fanL M c).length - 1]?=some l:=hl
   rw [show (fanL M c).length - 1=i by omega,List.getElem?_eq_getElem hi] at hl
   cases hl
   rw [e] at hn
   split at hn
   ·cases hn; exact Xc inv hc
   ·cases hn
 | bw _ e ih =>
  rcases k with k | ⟨k,_⟩
  ·obtain ⟨i,hi,rfl⟩:=List.mem_iff_getElem.mp ih
   cases i with
   | zero =>
    have:=F.head
    have this:(fanL M c)[0]?=some c:=this
    rw [List.getElem?_eq_getElem hi] at this
    rw [Option.some.inj this] at e
    exact absurd e (Ks inv k)
   | succ i=>exact List.mem_of_getElem? (F.pred inv (List.getElem?_eq_getElem hi) e)
  ·rw [k] at F
   exact F.predC inv ih e
theorem Zco (inv:InvM M) {c:Nat} (hc:c < M.length):∀ (i x:Nat),(fanL M c)[i]?=some x→Pq M c x
 | 0,x,hx=>by
  have:=(Yp inv hc).head
  have this:(fanL M c)[0]?=some c:=this
  rw [this] at hx
  cases hx
  exact .refl _
 | i + 1,x,hx=>by
  have hi:i < (fanL M c).length:=by have:=(List.getElem?_eq_some_iff.mp hx).1; omega
  exact (Zco inv hc i _ (List.getElem?_eq_getElem hi)).fw ((Yp inv hc).chain i _ x (List.getElem?_eq_getElem hi) hx)
theorem Zl1 (inv:InvM M) {c x:Nat} (hc:c < M.length) (h:x∈fanL M c):Pq M c x:=by
 obtain ⟨i,hi,rfl⟩:=List.mem_iff_getElem.mp h
 exact Zco inv hc i _ (List.getElem?_eq_getElem hi)
theorem Zim (inv:InvM M) {c c':Nat} (hc:c < M.length) (hc':c' < M.length) (k:Can M c) (k':Can M c') (h:Pq M c c'):c=c' :=
 V1 inv hc hc' k k' (Zg5 inv hc k h) (Xc inv hc')
theorem K4 {α β:Type} [DecidableEq β] (R:α→β→Prop):∀ (l:List α) (k:List β),l.Nodup→(∀ x∈l,∃ y∈k,R x y)→(∀ x∈l,∀ x'∈l,∀ y,R x y→R x' y→x=x')→l.length≤k.length
 | [],k,_,_,_=>Nat.zero_le _
 | x :: t,k,nd,c,inj=>by
  obtain ⟨n1,n2⟩:=List.nodup_cons.mp nd
  obtain ⟨y,hy,hr⟩:=c x List.mem_cons_self
  have:=K4 R t (k.erase y) n2 (fun z hz=>by
   obtain ⟨w,hw,hwz⟩:=c z (List.mem_cons_of_mem _ hz)
   refine ⟨w,(List.mem_erase_of_ne ?_).mpr hw,hwz⟩
   intro q
   subst q
   rw [inj x List.mem_cons_self z (List.mem_cons_of_mem _ hz) w hr hwz] at n1
   exact n1 hz) fun z hz z' hz'=>inj z (List.mem_cons_of_mem _ hz) z' (List.mem_cons_of_mem _ hz')
  rw [List.length_erase_of_mem hy] at this
  have:=List.length_pos_of_mem hy
  simp only [List.length_cons]
  omega
theorem Fr.cnt (h:Fr M ns a b) {S S':List Nat} (RS:RiseC M S) (RS':RiseC (exM left a b M) S') {p p':Nat→Bool} (hp:∀ c∈S,p c=true→∀ c'∈S',Pq (exM left a b M) c' (fE left a b c)→p' c'=true):(S.filter p).length≤(S'.filter p').length:=by
 have inv:=h.td.inv
 have g:=h.ex left
 have inv':=g.td.inv
 obtain ⟨n,_,_,hn⟩:=g.td.n
 refine K4 (fun x y=>Pq (exM left a b M) y (fE left a b x)) _ _ (List.Pairwise.filter _ RS.nd) (fun x hx=>?_) fun x hx x' hx' y r r'=>?_
 ·obtain ⟨hx,px⟩:=List.mem_filter.mp hx
  obtain ⟨x1,x2⟩:=(RS.mem x).mp hx
  obtain ⟨c,c1,c2,c3⟩:=Zin inv' hn (p:=fE left a b x) (by rw [Yi]; exact h.lt x1)
  have pq:=Zl1 inv' c1 c3
  have cS:=(RS'.mem c).mpr ⟨c1,c2⟩
  exact ⟨c,List.mem_filter.mpr ⟨cS,hp x hx px c cS pq⟩,pq⟩
 ·obtain ⟨x1,x2⟩:=(RS.mem x).mp (List.mem_filter.mp hx).1
  obtain ⟨y1,y2⟩:=(RS.mem x').mp (List.mem_filter.mp hx').1
  have:=h.unmap (r.symm.trans r')
  exact Zim inv x1 y1 x2 y2 ((h.again x).trans (this.trans (h.again x').symm))
theorem Zfo {P:List Nat} {n:Nat} (pc:Pc M n P) {x y:Nat} (h:Pq M x y):x / 3∈P ↔ y / 3∈P:=by
 induction h with
 | refl=>exact Iff.rfl
 | fw _ e ih=>exact ih.trans (by have:=pc.clo _ _ (Yt.mp e); rwa [Yx] at this)
 | bw _ e ih=>exact ih.trans (by have:=pc.clo _ _ (Yt.mp e); rw [Yx] at this; exact this.symm)
theorem Fr.mvP (h:Fr M ns a b) {P:List Nat} (hP:a / 3∈P ↔ b / 3∈P) (x:Nat):mvN left a b x / 3∈P ↔ x / 3∈P:=by
 rcases Zkn (left:=left) h.hab x with e | ⟨e | e,e' | e'⟩
 ·rw [e]
 ·rw [e,e']
 ·rw [e,e']; exact hP.symm
 ·rw [e,e']; exact hP
 ·rw [e,e']
theorem Fr.fEP (h:Fr M ns a b) {P:List Nat} (hP:a / 3∈P ↔ b / 3∈P) (x:Nat):fE left a b x / 3∈P ↔ x / 3∈P:=by
 by_cases xa:x=a
 ·subst xa
  rw [fE_a,h.mvP hP,Ye]; exact hP.symm
 by_cases xb:x=b
 ·subst xb
  rw [fE_b h.hab,h.mvP hP,Ye]; exact hP
 rw [fE_o xa xb,h.mvP hP]
theorem Fr.rim (h:Fr M ns a b) {r:Nat} (hr:RimP M r):RimP (exM left a b M) (mvN left a b r)∧fE left a b r=mvN left a b r:=by
 have hl:=hr.lt
 have hr:M[r]?=some none:=hr
 have ra:r≠a:=fun z=>by rw [z,h.hM] at hr; cases hr
 have rb:r≠b:=fun z=>by rw [z,h.hb] at hr; cases hr
 refine ⟨?_,fE_o ra rb⟩
 unfold RimP
 obtain ⟨n,_,_,hn⟩:=h.td.n
 have ha:=h.la
 have hb:=h.lb
 rw [Wy h.td h.la h.lb h.hab left (by rw [hn] at ha hb hl ⊢; exact Xi ha hb left hl),Yh h.hab,hr]
 rfl
theorem Fr.unrim (h:Fr M ns a b) {r:Nat} (hr:RimP (exM left a b M) r):RimP M (mvN (!left) a b r)∧fE (!left) a b r=mvN (!left) a b r:=by
 have:=(h.ex left).rim (left:=!left) hr
 rwa [h.back left] at this
theorem Fr.closed (h:Fr M ns a b) {c c':Nat} (hc:c < M.length) (k:Can M c) (hc':c' < M.length) (k':Can (exM left a b M) c') (hp:Pq (exM left a b M) c' (fE left a b c)) (cl:(fanF M c).2=true):(fanF (exM left a b M) c').2=true:=by
 rcases k' with k' | k'
 ·obtain ⟨r1,r2⟩:=h.unrim k'
  have:=h.unmap hp
  rw [r2] at this
  have:=Zim h.td.inv r1.lt hc (.inl r1) k (this.trans (h.again c).symm)
  rw [this] at r1
  rw [Vm h.td.inv r1] at cl
  cases cl
 ·exact k'.1
theorem Fr.pts (h:Fr M ns a b) {S S':List Nat} (RS:RiseC M S) (RS':RiseC (exM left a b M) S'):S'.length=S.length:=by
 have h1:=h.cnt RS RS' (p:=fun _=>true) (p':=fun _=>true) fun _ _ _ _ _ _=>rfl
 have RS0:RiseC (exM (!left) a b (exM left a b M)) S:=by rw [h.back left]; exact RS
 have h2:=(h.ex left).cnt RS' RS0 (p:=fun _=>true) (p':=fun _=>true) fun _ _ _ _ _ _=>rfl
 have e:∀ l:List Nat,l.filter (fun _=>true)=l:=fun l=>List.filter_eq_self.mpr fun _ _=>rfl
 rw [e,e] at h1 h2
 omega
theorem Fr.rch (h:Fr M ns a b) {k j:Nat} (r:Rch M k j):Rch (exM left a b M) k j:=by
 have g:=h.ex left
 have ab:Rch (exM left a b M) (a / 3) (b / 3):=(Rch.refl _).step g.hM
 have ba:Rch (exM left a b M) (b / 3) (a / 3):=(Rch.refl _).step g.hb
 have go:∀ x,Rch (exM left a b M) (x / 3) (mvN left a b x / 3):=fun x=>by
  rcases Zkn (left:=left) h.hab x with e | ⟨e | e,e' | e'⟩
  ·rw [e]; exact .refl _
  ·rw [e,e']; exact .refl _
  ·rw [e,e']; exact ab
  ·rw [e,e']; exact ba
  ·rw [e,e']; exact .refl _
 induction r with
 | refl=>exact .refl _
 | step _ e ih=>exact ((ih.trans (go _)).step (h.mv e)).trans ((go _).sym g.td.inv)
theorem Fr.rch_iff (h:Fr M ns a b) (left:Bool) {k j:Nat}:Rch (exM left a b M) k j ↔ Rch M k j :=
 ⟨fun r=>by have:=(h.ex left).rch (left:=!left) r; rwa [h.back left] at this,h.rch⟩
open Classical in
theorem Fr.pcE (h:Fr M ns a b) (left:Bool) (n k:Nat):pcL (exM left a b M) n k=pcL M n k:=by
 unfold KT.pcL
 refine List.filter_congr fun j _=>?_
 rw [decide_eq_decide]
 exact h.rch_iff left
open Classical in
theorem Fr.lsE (h:Fr M ns a b) (left:Bool) (n:Nat):lsL (exM left a b M) n=lsL M n:=by
 unfold KT.lsL
 refine List.filter_congr fun j _=>?_
 rw [decide_eq_decide]
 exact ⟨fun z i hi=>z i ((h.rch_iff left).mpr hi),fun z i hi=>z i ((h.rch_iff left).mp hi)⟩
theorem Zks (inv:InvM M) {n:Nat} (hn:M.length=3 * n) {p q:Nat} (h:Bh M p q):Pq M p (befN q):=by
 obtain ⟨hp,cs,l,hF,hl,rfl⟩:=h
 rw [J8]
 have e:=W6 hF
 have e':fanL M p=cs:=by unfold fanL; rw [e]
 exact Zco inv hp.lt _ l (by rw [e']; exact hl)
theorem Znx (inv:InvM M) {p q:Nat} (hp:RimP M p) (hq:RimP M q) (h:Pq M p (befN q)):Bh M p q:=by
 have hm:=Zg5 inv hp.lt (.inl hp) h
 have F:=Yp inv hp.lt
 rw [Vm inv hp] at F
 obtain ⟨i,hi,e⟩:=List.mem_iff_getElem.mp hm
 have hq:M[q]?=some none:=hq
 have nx:nxC M (befN q)=none:=by unfold nxC; rw [Od,hq]; rfl
 have hl:i=(fanL M p).length - 1:=by
  rcases Nat.lt_or_ge (i + 1) (fanL M p).length with z | z
  ·have:=F.chain i _ _ (List.getElem?_eq_getElem hi) (List.getElem?_eq_getElem z)
   have this:nxC M (fanL M p)[i]=_:=this
   rw [e,nx] at this
   cases this
  ·omega
 refine ⟨hp,_,befN q,F,?_,(Od q).symm⟩
 show (fanL M p)[(fanL M p).length - 1]?=_
 rw [← hl,List.getElem?_eq_getElem hi,e]
theorem Fr.endH (h:Fr M ns a b) {q:Nat} (hq:q / 3=a / 3) (ha:q≠a):Pq (exM left a b M) (fE left a b (befN q)) (befN (mvN left a b q)):=by
 have g:=h.ex left
 have v:=Vb h.hab left
 rcases thrE hq with rfl | rfl | rfl
 ·exact absurd rfl ha
 ·rw [J8,fE_a,v.1,v.2.1]
  cases left
  ·show Pq _ (aftN a) (befN (befN a))
   rw [Gq]; exact .refl _
  ·show Pq _ (aftN b) (befN (befN b))
   rw [Gq]; exact .refl _
 ·rw [Gq,fE_o (Oe a) (fun z=>h.hab (by rw [← z,Yx])),v.1,v.2.2.2]
  cases left
  ·show Pq _ (befN a) (befN (aftN b))
   rw [J8]; exact (Pq.refl _).fw (Q9 g.hM)
  ·show Pq _ (befN b) (befN (aftN a))
   rw [J8]; exact (Pq.refl _).fw (Q9 g.hb)
theorem Fr.bh (h:Fr M ns a b) {p q:Nat} (hb:Bh M p q):Bh (exM left a b M) (mvN left a b p) (mvN left a b q):=by
 obtain ⟨n,_,_,hn⟩:=h.td.n
 have hq:=hb.rim hn
 have hp:=hb.1
 have pq:=h.map (left:=left) (Zks h.td.inv hn hb)
 obtain ⟨p1,p2⟩:=h.rim (left:=left) hp
 obtain ⟨q1,_⟩:=h.rim (left:=left) hq
 rw [p2] at pq
 refine Znx (h.ex left).td.inv p1 q1 (pq.trans ?_)
 have hq:M[q]?=some none:=hq
 have qa:q≠a:=fun z=>by rw [z,h.hM] at hq; cases hq
 have qb:q≠b:=fun z=>by rw [z,h.hb] at hq; cases hq
 by_cases xa:q / 3=a / 3
 ·exact h.endH xa qa
 by_cases xb:q / 3=b / 3
 ·have:=h.sw.endH (left:=left) xb qb
  rw [← Zey h.hab,← Zid h.hab,← Vc h.hab] at this
  exact this
 rw [fE_o (fun z=>xa (by rw [← z,Ye])) (fun z=>xb (by rw [← z,Ye])),Us xa xb,Us (by rw [Ye]; exact xa) (by rw [Ye]; exact xb)]
 exact .refl _
theorem Fr.unbh (h:Fr M ns a b) {p q:Nat} (hb:Bh (exM left a b M) p q):Bh M (mvN (!left) a b p) (mvN (!left) a b q):=by
 have:=(h.ex left).bh (left:=!left) hb
 rwa [h.back left] at this
theorem Zej {p x:Nat} {os:List Nat} (h:OrbEnd (Bh M) p os) {Q:Nat→Prop} (hQ:∀ u v,Bh M u v→(Q u ↔ Q v)) (hx:x∈os) (q:Q x):∀ y∈os,Q y:=by
 have go:∀ (i y:Nat),os[i]?=some y→(Q p ↔ Q y):=fun i=>by
  induction i with
  | zero=>intro y hy; rw [h.head] at hy; cases hy; exact Iff.rfl
  | succ i ih =>
   intro y hy
   have hi:i < os.length:=by have:=(List.getElem?_eq_some_iff.mp hy).1; omega
   exact (ih _ (List.getElem?_eq_getElem hi)).trans (hQ _ _ (h.chain i _ y (List.getElem?_eq_getElem hi) hy))
 intro y hy
 obtain ⟨i,hi,rfl⟩:=List.mem_iff_getElem.mp hx
 obtain ⟨j,hj,rfl⟩:=List.mem_iff_getElem.mp hy
 exact (go j _ (List.getElem?_eq_getElem hj)).mp ((go i _ (List.getElem?_eq_getElem hi)).mpr q)
theorem Zn9 {P:List Nat} {n:Nat} (pc:Pc M n P) {x y:Nat} (h:Bh M x y):x / 3∈P ↔ y / 3∈P:=by
 have:=Zfo pc (Zks pc.inv pc.hn h)
 rwa [Ye] at this
theorem Kv {p:Nat} {os:List Nat} (h:OrbEnd (Bh M) p os):os.headD 0∈os:=by rw [Zet h.toOrb]; exact List.mem_of_getElem? h.head
theorem Zj8 {gs:List (List Nat)} (nd:gs.flatten.Nodup):∀ {os os':List Nat} {x:Nat},os∈gs→os'∈gs→x∈os→x∈os'→os=os':=by
 intro os os' x h1 h2 x1 x2
 unfold List.Nodup at nd
 rw [List.pairwise_flatten] at nd
 obtain ⟨i,hi,rfl⟩:=List.mem_iff_getElem.mp h1
 obtain ⟨j,hj,rfl⟩:=List.mem_iff_getElem.mp h2
 have pw:=List.pairwise_iff_getElem.mp nd.2
 rcases Nat.lt_trichotomy i j with z | z | z
 ·exact absurd rfl (pw i j hi hj z x x1 x x2)
 ·subst z; rfl
 ·exact absurd rfl (pw j i hj hi z x x2 x x1)
theorem Zn6 {gs:List (List Nat)} (nd:gs.flatten.Nodup) (ne:∀ g∈gs,g≠[]):gs.Nodup:=by
 unfold List.Nodup at nd
 rw [List.pairwise_flatten] at nd
 refine List.Pairwise.imp_of_mem (fun {u v} hu hv z e=>?_) nd.2
 subst e
 obtain ⟨x,hx⟩:=List.exists_mem_of_ne_nil _ (ne u hu)
 exact z x hx x hx rfl
theorem Fr.rnd (h:Fr M ns a b) {gs gs':List (List Nat)} (hg:Rnd M gs) (hg':Rnd (exM left a b M) gs') {P:List Nat} {n:Nat} (pc:Pc M n P) (pc':Pc (exM left a b M) n P):(gs.filter fun os=>inP P (os.headD 0)).length≤(gs'.filter fun os=>inP P (os.headD 0)).length:=by
 refine K4 (fun os os'=>os'∈gs'∧mvN left a b (os.headD 0)∈os') _ _ (List.Pairwise.filter _ (Zn6 hg.ok.nd fun g z=>?_)) (fun os ho=>?_) fun os ho os2 ho2 os' r r'=>?_
 ·obtain ⟨q,hq⟩:=hg.ok.orb g z
  exact fun y=>by have:=hq.head; rw [y] at this; cases this
 ·obtain ⟨h1,h2⟩:=List.mem_filter.mp ho
  obtain ⟨p,hp⟩:=hg.ok.orb os h1
  have hr:=hg.ok.rim _ (List.mem_flatten.mpr ⟨os,h1,Kv hp⟩)
  obtain ⟨os',o1,o2⟩:=List.mem_flatten.mp (hg'.all _ (h.rim (left:=left) hr).1)
  refine ⟨os',List.mem_filter.mpr ⟨o1,?_⟩,o1,o2⟩
  obtain ⟨p',hp'⟩:=hg'.ok.orb os' o1
  refine Y8.mpr (Zej hp' (Q:=fun x=>x / 3∈P) (fun u v e=>Zn9 pc' e) o2 ?_ _ (Kv hp'))
  exact (h.mvP (pc.clo _ _ h.hM) _).mpr (Y8.mp h2)
 ·obtain ⟨h1,_⟩:=List.mem_filter.mp ho
  obtain ⟨h2,_⟩:=List.mem_filter.mp ho2
  obtain ⟨p,hp⟩:=hg.ok.orb os h1
  obtain ⟨p2,hp2⟩:=hg.ok.orb os2 h2
  obtain ⟨p',hp'⟩:=hg'.ok.orb os' r.1
  have inv:=h.td.inv
  have:=Zej hp' (Q:=fun x=>mvN (!left) a b x∈os) (fun u v e=>⟨fun z=>Zjn hp z (h.unbh e),fun z=>hp.before (Bh.inj inv) z (h.unbh e)⟩) r.2 (by rw [Yh h.hab]; exact Kv hp) _ r'.2
  have this:mvN (!left) a b (mvN left a b (os2.headD 0))∈os:=this
  rw [Yh h.hab] at this
  exact Zj8 hg.ok.nd h1 h2 this (Kv hp2)
theorem W8 {P:List Nat} {p:Nat} (hp:p < M.length) (inv:InvM M):X2 M P p=true ↔ p / 3∈P∧∀ q,M[p]?=some (some q)→p < q:=by
 unfold X2
 rw [Bool.and_eq_true,Bool.or_eq_true,Y8,Zem]
 refine and_congr Iff.rfl ⟨fun z q e=>?_,fun z=>?_⟩
 ·rcases z with z | ⟨q',e',l⟩
  ·have z:M[p]?=some none:=of_decide_eq_true z
   rw [e] at z; cases z
  ·rw [e] at e'; cases e'; exact l
 ·cases e:M[p]? with
  | none=>rw [List.getElem?_eq_none_iff] at e; omega
  | some o =>
   cases o with
   | none=>exact .inl (decide_eq_true e)
   | some q=>exact .inr ⟨q,rfl,z q e⟩
theorem Fr.sms (h:Fr M ns a b) {P:List Nat} {m:Nat} (pc:Pc M m P):((List.range M.length).filter (X2 M P)).length≤((List.range (exM left a b M).length).filter (X2 (exM left a b M) P)).length:=by
 have inv:=h.td.inv
 have hP:=pc.clo _ _ h.hM
 have g:=h.ex left
 have inv':=g.td.inv
 obtain ⟨n,_,_,hn⟩:=h.td.n
 have ha:=h.la
 have hb:=h.lb
 have ml:∀ z,z < M.length→mvN left a b z < M.length:=fun z hz=>by rw [hn] at *; exact Xi ha hb left hz
 refine K4 (fun p p'=>p'=mvN left a b p∨∃ q,M[p]?=some (some q)∧p'=mvN left a b q) _ _ (List.Pairwise.filter _ List.nodup_range) (fun p hp=>?_) fun p hp p2 hp2 y r r'=>?_
 ·obtain ⟨h1,h2⟩:=List.mem_filter.mp hp
  have h1:=List.mem_range.mp h1
  obtain ⟨s1,s2⟩:=(W8 h1 inv).mp h2
  have m1:=ml p h1
  cases e:M[p]? with
  | none=>rw [List.getElem?_eq_none_iff] at e; omega
  | some o =>
   cases o with
   | none =>
    have e':(exM left a b M)[mvN left a b p]?=some none:=(h.rim (left:=left) e).1
    refine ⟨_,List.mem_filter.mpr ⟨List.mem_range.mpr (by rw [Yi]; exact m1),(W8 (by rw [Yi]; exact m1) inv').mpr ⟨(h.mvP hP p).mpr s1,fun q z=>?_⟩⟩,.inl rfl⟩
    rw [e'] at z; cases z
   | some q =>
    have e':=h.mv (left:=left) e
    have eq:=(inv _ _ e).1
    have e2:=h.mv (left:=left) eq
    have hq:=(List.getElem?_eq_some_iff.mp eq).1
    have m2:=ml q hq
    have s3:=(h.td.inv _ _ e).2
    rcases Nat.lt_or_ge (mvN left a b p) (mvN left a b q) with z | z
    ·refine ⟨_,List.mem_filter.mpr ⟨List.mem_range.mpr (by rw [Yi]; exact m1),(W8 (by rw [Yi]; exact m1) inv').mpr ⟨(h.mvP hP p).mpr s1,fun q' z'=>?_⟩⟩,.inl rfl⟩
     rw [e'] at z'; cases z'; exact z
    ·refine ⟨_,List.mem_filter.mpr ⟨List.mem_range.mpr (by rw [Yi]; exact m2),(W8 (by rw [Yi]; exact m2) inv').mpr ⟨?_,fun q' z'=>?_⟩⟩,.inr ⟨q,rfl,rfl⟩⟩
     ·exact (h.mvP hP q).mpr ((pc.clo _ _ e).mp s1)
     ·rw [e2] at z'; cases z'
      have:mvN left a b p≠mvN left a b q:=fun y=>s3 (Ww h.hab left y)
      omega
 ·obtain ⟨h1,h2⟩:=List.mem_filter.mp hp
  obtain ⟨_,s2⟩:=(W8 (List.mem_range.mp h1) inv).mp h2
  obtain ⟨h3,h4⟩:=List.mem_filter.mp hp2
  obtain ⟨_,s4⟩:=(W8 (List.mem_range.mp h3) inv).mp h4
  rcases r with r | ⟨q,e,r⟩ <;> rcases r' with r' | ⟨q',e',r'⟩
  ·exact Ww h.hab left (r.symm.trans r')
  ·have z:=Ww h.hab left (r.symm.trans r')
   subst z
   have:=s4 _ e'
   have:=s2 _ (inv _ _ e').1
   omega
  ·have z:=Ww h.hab left (r.symm.trans r')
   subst z
   have:=s2 _ e
   have:=s4 _ (inv _ _ e).1
   omega
  ·have z:=Ww h.hab left (r.symm.trans r')
   subst z
   have e1:=(inv _ _ e).1
   rw [(inv _ _ e').1] at e1
   exact (Option.some.inj (Option.some.inj e1)).symm
theorem Fr.ptP (h:Fr M ns a b) {S S':List Nat} (RS:RiseC M S) (RS':RiseC (exM left a b M) S') {P:List Nat} {n:Nat} (pc:Pc M n P) (pc':Pc (exM left a b M) n P):(S.filter (inP P)).length≤(S'.filter (inP P)).length :=
 h.cnt RS RS' fun c hc p c' hc' pq=>Y8.mpr ((Zfo pc' pq).mpr ((h.fEP (pc.clo _ _ h.hM) c).mpr (Y8.mp p)))
theorem Fr.ptI (h:Fr M ns a b) {S S':List Nat} (RS:RiseC M S) (RS':RiseC (exM left a b M) S') {P:List Nat} {n:Nat} (pc:Pc M n P) (pc':Pc (exM left a b M) n P):(S.filter fun c=>inP P c && (fanF M c).2).length≤(S'.filter fun c=>inP P c && (fanF (exM left a b M) c).2).length :=
 h.cnt RS RS' fun c hc p c' hc' pq=>by
  rw [Bool.and_eq_true] at p ⊢
  obtain ⟨c1,c2⟩:=(RS.mem c).mp hc
  obtain ⟨d1,d2⟩:=(RS'.mem c').mp hc'
  exact ⟨Y8.mpr ((Zfo pc' pq).mpr ((h.fEP (pc.clo _ _ h.hM) c).mpr (Y8.mp p.1))),h.closed c1 c2 (by rw [Yi] at d1; exact d1) d2 pq p.2⟩
end
end KT
set_option maxHeartbeats 4000000
set_option genInjectivity false
set_option genSizeOf false
namespace KT
open PySem L2
noncomputable def bmV:List Value:=[.type "ValueError",.type "Exception",.type "BaseException",.type "object"]
theorem FBV:ExcBaseFacts "ValueError" "ValueError.__new__" "ValueError.__init__" bmV:=PySem.F.excBase_ValueError
theorem map_some {α:Type} {f:α→V} {l:List α} {i:Nat} {y:V} (h:(l.map f)[i]?=some y):∃ q,l[i]?=some q∧y=f q:=by
 rw [List.getElem?_map] at h
 cases e:l[i]? with
 | none=>rw [e] at h; cases h
 | some q=>rw [e] at h; cases h; exact ⟨q,rfl,rfl⟩
structure FT (K:PySem.W.Frag) (mg:Str→Option Value) (x:Str) (st:Stmt) (ps:List Str) (f:Addr) (d:FuncData):Prop where
 F:Fun K x x st f d
 b:Xx K d ps []
 g:mg x=some (.ref f)
structure FM (K:PySem.W.Frag) (C:Addr) (x q:Str) (st:Stmt) (ps:List Str) (f:Addr) (d:FuncData):Prop where
 F:Fun K x q st f d
 b:Xx K d ps []
 m:Meth K C x f
section
variable {X:Cx} {fr:Bool} {j k:Nat} {f:Addr} {fd:FuncData} {ps:List Str} {sp:Sp} {x:Str} {st:Stmt} {p pos:Pos} {e:Expr} {es:List Expr} {t:TA}
theorem pcT (F:FnOk X.prog X.w X.K X.mg X.base (CXr X.prog X.w) k f fd ps sp) (hr:Room j X.A) (q:FT X.K X.mg x st ps f fd) (ha:PA X (e :: es) t) (hk:k≤j:=by decide) (hg:Gl X x:=by rfl) (hdb:(x == ("__debug__":Str))=false:=by decide) (he:starEach (e :: es) X.env=(false,eval e X.env) :: starEach es X.env:=by rfl) (hpl:(backTo pos (starEach es X.env)).any (·.1)=false:=by rfl) :
  PE X (.Call (.Name x p) (e :: es) [] pos) (Zfe sp [] E0 t):=Zlo F (hr.mono hk) hg q.g q.F.kp q.b .nil Y6 ha hdb he hpl
theorem pxT (F:FnOk X.prog X.w X.K X.mg X.base (CXr X.prog X.w) k f fd ps sp) (hr:Room j X.A) (q:FT X.K X.mg x st ps f fd) (ha:PA X (e :: es) t) (hk:k≤j:=by decide) (hg:Gl X x:=by rfl) (hex:X.ex=[]:=by rfl) (hx:X.xe=(fun _ _=>False):=by rfl) (hdb:(x == ("__debug__":Str))=false:=by decide) (he:starEach (e :: es) X.env=(false,eval e X.env) :: starEach es X.env:=by rfl) (hpl:(backTo pos (starEach es X.env)).any (·.1)=false:=by rfl) :
  PEX fr X (.Call (.Name x p) (e :: es) [] pos) (Zgh sp [] t):=Zjf F (hr.mono hk) hg q.g q.F.kp q.b .nil ha hex hx hdb he hpl
end
noncomputable def BA (q:Str) (st:Stmt) (ps:List Str):Prop:=∀ (x:Str) (kV doc pm:Value) (an:Option Addr) (cdv ct:Value) (us:List Value),us.length=ps.length→bindArgs (PySem.W.fnOf x q (Xe st) (Yn st) (Zg st) .none kV doc pm an cdv ct) ⟨us,[]⟩=pure (ps.zip us)
theorem Zen {α:Type} {us:List α} (e:us.length=2):∃ a b,us=[a,b]:=by
 obtain ⟨a,us,rfl⟩:=List.exists_cons_of_length_eq_add_one e
 obtain ⟨b,rfl⟩:=List.length_eq_one_iff.mp (Nat.succ.inj e)
 exact ⟨a,b,rfl⟩
theorem Zh0 {α:Type} {us:List α} (e:us.length=3):∃ a b c,us=[a,b,c]:=by
 obtain ⟨a,us,rfl⟩:=List.exists_cons_of_length_eq_add_one e
 obtain ⟨b,c,rfl⟩:=Zen (Nat.succ.inj e)
 exact ⟨a,b,c,rfl⟩
theorem ba1 {q:Str} {st:Stmt} {ps:List Str} (h:∀ (x:Str) (kV doc pm:Value) (an:Option Addr) (cdv ct:Value) (a:Value),bindArgs (PySem.W.fnOf x q (Xe st) (Yn st) (Zg st) .none kV doc pm an cdv ct) ⟨[a],[]⟩=pure (ps.zip [a])) (hl:ps.length=1):BA q st ps:=fun x kV doc pm an cdv ct us e=>by
 rw [hl] at e
 obtain ⟨a,rfl⟩:=List.length_eq_one_iff.mp e
 exact h x kV doc pm an cdv ct a
theorem ba2 {q:Str} {st:Stmt} {ps:List Str} (h:∀ (x:Str) (kV doc pm:Value) (an:Option Addr) (cdv ct:Value) (a b:Value),bindArgs (PySem.W.fnOf x q (Xe st) (Yn st) (Zg st) .none kV doc pm an cdv ct) ⟨[a,b],[]⟩=pure (ps.zip [a,b])) (hl:ps.length=2):BA q st ps:=fun x kV doc pm an cdv ct us e=>by
 rw [hl] at e
 obtain ⟨a,b,rfl⟩:=Zen e
 exact h x kV doc pm an cdv ct a b
theorem ba3 {q:Str} {st:Stmt} {ps:List Str} (h:∀ (x:Str) (kV doc pm:Value) (an:Option Addr) (cdv ct:Value) (a b c:Value),bindArgs (PySem.W.fnOf x q (Xe st) (Yn st) (Zg st) .none kV doc pm an cdv ct) ⟨[a,b,c],[]⟩=pure (ps.zip [a,b,c])) (hl:ps.length=3):BA q st ps:=fun x kV doc pm an cdv ct us e=>by
 rw [hl] at e
 obtain ⟨a,b,c,rfl⟩:=Zh0 e
 exact h x kV doc pm an cdv ct a b c
section
variable {K:PySem.W.Frag} {h:Heap} {mg:Str→Option Value} {C:Addr} {x q:Str} {st:Stmt} {ps:List Str} {f:Addr} {oc:Value} {od an:Option Addr} {sl:Array (Option Value)} {kV doc pm cd ct:Value}
theorem FT.of (X:K.In h) (G:h.Ns mainGlobals mg) (B:BA x st ps) (a:PySem.W.nsIn K mainGlobals x=some (some (.ref f))) (l:K.lookup f=some ⟨oc,od,.func (PySem.W.fnOf x x (Xe st) (Yn st) (Zg st) .none kV doc pm an cd ct),sl⟩)
  (c:PySem.W.codeIn K cd x=true) (k:PySem.W.keepIn K (.ref f)=true):FT K mg x st ps f (PySem.W.fnOf x x (Xe st) (Yn st) (Zg st) .none kV doc pm an cd ct):=⟨K6 l c k,(K6 l c k).binds (B x),PySem.W.mg_of X G a⟩
theorem FM.of (B:BA q st ps) (a:PySem.W.findIn K (.ref C) x=some (some (.ref f))) (i:PySem.W.isFn K (.ref f)=true) (l:K.lookup f=some ⟨oc,od,.func (PySem.W.fnOf x q (Xe st) (Yn st) (Zg st) .none kV doc pm an cd ct),sl⟩)
  (c:PySem.W.codeIn K cd q=true) (k:PySem.W.keepIn K (.ref f)=true):FM K C x q st ps f (PySem.W.fnOf x q (Xe st) (Yn st) (Zg st) .none kV doc pm an cd ct):=⟨K6 l c k,(K6 l c k).binds (B x),⟨a,i,k⟩⟩
end
noncomputable def top (i:Nat):Stmt:=PySem.Challenge.pw_tentloops_k41_whole_shape_kept.main.body.getD i (.Pass ⟨0,0,0,0⟩)
noncomputable abbrev Zd5:Stmt:=top 10
noncomputable abbrev Zbj:Stmt:=top 11
noncomputable abbrev Kq:Stmt:=top 12
noncomputable abbrev Kh:Stmt:=top 13
noncomputable abbrev Kl:Stmt:=top 14
noncomputable abbrev Os:Stmt:=Xq (top 15) 0
noncomputable abbrev Op:Stmt:=Xq (top 15) 1
noncomputable abbrev Oo:Stmt:=Xq (top 15) 2
noncomputable abbrev Zbk:Stmt:=Xq (top 15) 3
noncomputable abbrev Jt:Stmt:=Xq (top 15) 4
noncomputable abbrev Qb:Stmt:=Xq (top 15) 5
noncomputable abbrev Js:Stmt:=Xq (top 15) 6
noncomputable abbrev Q3:Stmt:=Xq (top 15) 7
noncomputable abbrev V3:Stmt:=Xq (top 15) 8
noncomputable abbrev Oq:Stmt:=Xq (top 15) 9
noncomputable abbrev Q2:Stmt:=Xq (top 15) 10
noncomputable abbrev Q1:Stmt:=top 17
noncomputable abbrev Ue:Stmt:=top 18
noncomputable abbrev On:Stmt:=top 19
noncomputable abbrev X6:Stmt:=top 20
noncomputable abbrev Uf:Stmt:=top 21
noncomputable abbrev Kj:Stmt:=top 22
noncomputable abbrev Zgx:Stmt:=top 23
noncomputable abbrev Qo:Stmt:=top 24
noncomputable abbrev Kk:Stmt:=top 25
noncomputable abbrev Zbb:Stmt:=top 26
noncomputable abbrev Ki:Stmt:=top 27
noncomputable abbrev Zd2:Stmt:=top 28
noncomputable abbrev Km:Stmt:=top 31
noncomputable abbrev Oj:Stmt:=top 32
noncomputable abbrev Za9:Stmt:=top 33
noncomputable abbrev Zba:Stmt:=top 34
noncomputable abbrev Om:Stmt:=top 35
noncomputable abbrev Zbi:Stmt:=top 37
noncomputable abbrev Ol:Stmt:=top 38
noncomputable abbrev Zbd:Stmt:=top 39
noncomputable abbrev Zbf:Stmt:=top 40
noncomputable abbrev Zbc:Stmt:=top 41
noncomputable abbrev Zbh:Stmt:=top 42
noncomputable abbrev Zbe:Stmt:=top 43
noncomputable abbrev Zd3:Stmt:=top 44
noncomputable abbrev G5:Stmt:=top 45
noncomputable abbrev Ko:Stmt:=top 46
noncomputable abbrev G7:Stmt:=top 47
noncomputable abbrev G4:Stmt:=top 48
noncomputable abbrev Zbg:Stmt:=top 49
noncomputable abbrev G6:Stmt:=top 50
noncomputable abbrev Zd4:Stmt:=top 51
noncomputable abbrev Kn:Stmt:=top 52
noncomputable abbrev Zkj:Stmt:=top 53
structure Adr where
 (aa dM cX bZ b7 b8 a9 bG bH cU aI aP aJ bb br bI bd al bu aK b9 bv ax eu a6 ay cY cc dO ce bJ cZ c0 bK c6 bL c7 c8 c9 dc de dP cF cf cG cH df cI dQ cg eK aq aF ah aQ aC cJ aS bx:Addr)
 (dR dg ci cj ck bM bO bP cV aL aU aM be bt bQ bf bg bz aO bi bA cn ez a7 cp dh cq dS cr bR di dj bS dk bT dm dn dq dt dw dU cK cu cL cM dz cN dW cw eA:FuncData)
 (bX:Tok)
structure Txt (w:World) (K:PySem.W.Frag) (mg:Str→Option Value) (t:Adr):Prop where
 dX:mg "Tent"=some (.ref t.aa)
 ac:Cls K t.aa
 aA:Wo K t.aa "cloths"
 ag:Wo K t.aa "names_at"
 aD:Wo K t.aa "spots"
 bC:Wo K t.aa "mates"
 bq:FT K mg "after" Zd5 ["place"] t.dM t.dR
 cx:FT K mg "before" Zbj ["place"] t.cX t.dg
 au:FT K mg "cloth_of" Kq ["place"] t.bZ t.ci
 cy:FT K mg "spots_of" Kh ["names_at"] t.b7 t.cj
 cz:FT K mg "mates_of" Kl ["spots","count"] t.b8 t.ck
 bj:FM K t.aa "__init__" "Tent.__init__" Os ["self","rows"] t.a9 t.bM
 bn:FM K t.aa "rows" "Tent.rows" Op ["self"] t.bG t.bO
 bo:FM K t.aa "size" "Tent.size" Oo ["self"] t.bH t.bP
 eH:FM K t.aa "seams" "Tent.seams" Zbk ["self"] t.cU t.cV
 af:FM K t.aa "all_places" "Tent.all_places" Jt ["self"] t.aI t.aL
 az:FM K t.aa "has_place" "Tent.has_place" Qb ["self","place"] t.aP t.aU
 ai:FM K t.aa "look_place" "Tent.look_place" Js ["self","place"] t.aJ t.aM
 ao:FM K t.aa "seam_at" "Tent.seam_at" Q3 ["self","place"] t.bb t.be
 ap:FM K t.aa "places" "Tent.places" V3 ["self","seam"] t.br t.bt
 aj:FM K t.aa "mate" "Tent.mate" Oq ["self","place"] t.bI t.bQ
 aG:FM K t.aa "sort_of" "Tent.sort_of" Q2 ["self","seam"] t.bd t.bf
 am:FT K mg "corners_from" Q1 ["tent","corner"] t.al t.bg
 aW:FT K mg "rim_places" Ue ["tent"] t.bu t.bz
 aw:FT K mg "each_once" On ["tent","numbers","group_from"] t.aK t.aO
 aV:FT K mg "points" X6 ["tent"] t.b9 t.bi
 aY:FT K mg "rim_behind" Uf ["tent","place"] t.bv t.bA
 aZ:FT K mg "rim_from" Kj ["tent","place"] t.ax t.cn
 eB:FT K mg "rims" Zgx ["tent"] t.eu t.ez
 a8:FT K mg "cloths_beside" Qo ["tent","cloth"] t.a6 t.a7
 a5:FT K mg "piece_of" Kk ["tent","cloth"] t.ay t.cp
 bD:FT K mg "pieces" Zbb ["tent"] t.cY t.dh
 cA:FT K mg "shape_of" Ki ["tent","piece"] t.cc t.cq
 cW:FT K mg "shape" Zd2 ["tent"] t.dO t.dS
 cB:FT K mg "look_way" Km ["way"] t.ce t.cr
 bU:FT K mg "look_free" Oj ["tent","seam"] t.bJ t.bR
 dA:FT K mg "square" Za9 ["tent","seam"] t.cZ t.di
 dB:FT K mg "shifts" Zba ["tent","seam","way"] t.c0 t.dj
 bV:FT K mg "exchanged" Om ["tent","seam","way"] t.bK t.bS
 bp:FT K mg "_law_cell" Zbi ["_law_script","_law_at"] t.c6 t.dk
 bW:FT K mg "_law_numbers" Ol ["_law_cell_here","_law_many"] t.bL t.bT
 dC:FT K mg "_law_sewn" Zbd ["_law_nums","_law_many","_law_share"] t.c7 t.dm
 dD:FT K mg "_law_rows" Zbf ["_law_mates","_law_start","_law_step"] t.c8 t.dn
 dE:FT K mg "_law_tent" Zbc ["_law_script"] t.c9 t.dq
 dF:FT K mg "_law_free" Zbh ["_law_mates"] t.dc t.dt
 dH:FT K mg "_law_seam" Zbe ["_law_rows_here","_law_place"] t.de t.dw
 dY:FT K mg "_law_way" Zd3 ["_law_left"] t.dP t.dU
 cO:FT K mg "_law_shift" G5 ["_law_mates","_law_rows_here","_law_goals_here"] t.cF t.cK
 cC:FT K mg "_law_around" Ko ["_law_mates","_law_place"] t.cf t.cu
 cP:FT K mg "_law_goals" G7 ["_law_mates","_law_place","_law_left"] t.cG t.cL
 cQ:FT K mg "_law_whole" G4 ["_law_found"] t.cH t.cM
 dI:FT K mg "_law_list" Zbg ["_law_found","_law_due"] t.df t.dz
 cR:FT K mg "_law_lists" G6 ["_law_found","_law_due"] t.cI t.cN
 dZ:FT K mg "_law_fan" Zd4 ["_law_mates","_law_corner"] t.dQ t.dW
 cD:FT K mg "_law_points" Kn ["_law_mates"] t.cg t.cw
 eO:FT K mg "law" Zkj ["_law_script"] t.eK t.eA
 d6:Mk K t.aa t.a9
 bY:mg "GREATEST_NAME"=some (.int 9999 t.bX)
 bE:mg "CONTRARY_WAYS"=some (.ref t.aq)
 bF:Gc w K t.aq [(Sum.inr "left",.str "right"),(Sum.inr "right",.str "left")]
 cT:Tab K t.bi t.aF t.ah
 bl:∀ (s:Shared) (u:Value),BindsTo s t.eA ⟨[u],[]⟩ [("_law_script",u)]
 eQ:mg "bool"=none
 dJ:mg "enumerate"=none
 eU:mg "int"=none
 aE:mg "isinstance"=none
 ae:mg "len"=none
 aH:mg "list"=none
 eV:mg "max"=none
 d7:mg "min"=none
 ak:mg "range"=none
 eC:mg "set"=none
 cE:mg "sorted"=none
 eX:mg "sum"=none
 d8:mg "tuple"=none
 dL:mg "NoPlace"=some (.ref t.aQ)
 d9:ExcK K t.aQ bmV "ValueError.__new__"
 ee:mg "NoSeam"=some (.ref t.aC)
 eE:ExcK K t.aC bmV "ValueError.__new__"
 eR:mg "Rim"=some (.ref t.cJ)
 eY:ExcK K t.cJ bmV "ValueError.__new__"
 ef:mg "Locked"=some (.ref t.aS)
 eF:ExcK K t.aS bmV "ValueError.__new__"
 eG:mg "NoWay"=some (.ref t.bx)
 eJ:ExcK K t.bx bmV "ValueError.__new__"
end KT
set_option maxHeartbeats 4000000
namespace KT
open PySem L2
theorem Same.add {H H1:Hp} {p:Addr} {o:HO} (s:Same H H1) (hp:H p=none):Same H (upd H1 p o):=fun b u e=>by rw [Zd (Zi e hp)]; exact s b u e
theorem Same.new {H:Hp} {p:Addr} {o:HO} (hp:H p=none):Same H (upd H p o):=Same.add (Same.refl H) hp
theorem Yk {t u:TS} {D:Ends} {σ:St} {H:Hp} (Post:St→Hp→Prop) (ht:∀ nx:St→Hp→Prop,(∀ σ H,Post σ H→nx σ H)→t { D with nx:=nx } σ H) (hu:∀ σ H,Post σ H→u D σ H):tSeq t u D σ H:=ht (u D) hu
theorem Z2 {t u:TS} {D:Ends} {σ:St} {H:Hp} (ht:∀ nx:St→Hp→Prop,(∀ σ H,u D σ H→nx σ H)→t { D with nx:=nx } σ H):tSeq t u D σ H:=ht (u D) fun _ _ h=>h
theorem Zca (xs:List Int) (y:Int):xs.map V.int ++ [V.int y]=(xs ++ [y]).map V.int:=by simp
theorem getI {ns:List Int} {n:Nat} (h:n < ns.length):(ns.map V.int)[n]?=some (V.int (ns.getD n 0)):=by
 rw [List.getElem?_map,List.getElem?_eq_getElem h,List.getD_eq_getElem?_getD,List.getElem?_eq_getElem h]
 rfl
noncomputable def cell (ns:List Int) (n:Int):Int:=if n < ns.length then ns.getD n.toNat 0 else if ns.length=0 then 31 * n + 7 else ns.getD (n % ns.length).toNat 0 % 1000003 + 101 * n
noncomputable def Zla (K:PySem.W.Frag):Sp:=fun vs H Q _=>∃ (a:Addr) (ns:List Int) (n:Int),vs=[.ref a,.int n]∧SqL K H a (ns.map V.int)∧ns.length≤63∧0≤n∧n < 1000000∧Q (.int (cell ns n)) H
noncomputable def Zix:Sp:=fun vs H Q _=>∃ n:Int,vs=[.int n]∧Q (.bl true) H
noncomputable def Zff:Sp:=fun vs H Q _=>∃ (c:Int) (n:Nat),vs=[.int c,.int n]∧n≤60∧∀ (p:Addr) (xs:List Int) (H':Hp),Same H H'→H p=none→H' p=some (.lst (xs.map V.int))→xs.length=n→(∀ x∈xs,0≤x∧x < 1009)→Q (.ref p) H'
section
variable {P:Program} {w:World} {K:PySem.W.Frag} {mg:Str→Option Value} {base:Heap} {t:Adr}
theorem Zfm:FnScope ["_law_found"] ["_law_found"] (Zg G4):=⟨rfl,rfl,rfl,by decide +kernel,rfl,by decide +kernel,by decide +kernel⟩
theorem Zfr (T:Txt w K mg t):FnOk P w K mg base (CXr P w) 1 t.cH t.cM ["_law_found"] Zix:=by
 refine T.cQ.F.aR Zfm (fun cdv A outer s H vs Q E hr h=>?_)
 ·obtain ⟨p,rfl,k⟩:=h
  refine ⟨_,(Zh (Zp (Zm0 (Zl Jj (by rfl) T.aE PyProof.Rows.boot_isinstance (Za (pv 0) (Za (U3 (v:=.ty "int") (by rfl) T.eU PySem.Pv.boot_int rfl) Zc))) (Zmx (Zmy (Zl Jj (by rfl) T.aE PyProof.Rows.boot_isinstance (Za (pv 0) (Za (U3 (v:=.ty "bool") (by rfl) T.eQ PySem.Pv.boot_bool rfl) Zc)))))))),?_⟩
  refine ⟨_,rfl,_,"int",_,true,rfl,TyOf.int p,O2,_,rfl,iteT ?_⟩
  refine ⟨_,rfl,_,"bool",_,false,rfl,TyOf.int p,(by rfl),_,rfl,k⟩
theorem Zgv:FnScope ["_law_script","_law_at"] ["_law_script","_law_at"] (Zg Zbi):=⟨rfl,rfl,rfl,by decide +kernel,rfl,by decide +kernel,by decide +kernel⟩
theorem Qp (T:Txt w K mg t):FnOk P w K mg base (CXr P w) 1 t.c6 t.dk ["_law_script","_law_at"] (Zla K):=by
 refine T.bp.F.aR Zgv (fun cdv A outer s H vs Q E hr h=>?_)
 ·obtain ⟨a,ns,n,rfl,hS,hl,h0,h1,k⟩:=h
  refine ⟨_,(Ze (Yd (Zq Vt (pv 1) (Zl Zk (by rfl) T.ae PySem.boot_len (Za (pv 0) Zc)) (Zu _)) (Zh (Zp (Zs Zt (pv 0) (pv 1) (fun _ _=>rfl)))) Z3)
   (Ze (Yd (Zq X4 (Zl Zk (by rfl) T.ae PySem.boot_len (Za (pv 0) Zc)) Zf (Zu _)) (Zh (Zp (Zj Z8 (Zj Xa Zf (pv 1)) Zf))) Z3)
   (Zh (Zp (Zj Z8 (Zj Zy (Zs Zt (pv 0) (Zj Zy (pv 1) (Zl Zk (by rfl) T.ae PySem.boot_len (Za (pv 0) Zc))) (fun _ _=>rfl)) Zf) (Zj Xa Zf (pv 1))))))),?_⟩
  have el:((ns.map V.int).length:Int)=ns.length:=by simp
  refine ⟨_,rfl,_,rfl,a,_,rfl,.inl hS,_,_,rfl,rfl,_,rfl,?_⟩
  rw [el]
  refine ite2 (fun h=>?_) (fun h=>?_)
  ·have h:n < ns.length:=by simpa using h
   have e:cell ns n=ns.getD n.toNat 0:=if_pos h
   have en:n=(n.toNat:Int):=by omega
   have ei:atI (ns.map V.int) n=some (V.int (ns.getD n.toNat 0)):=by rw [en]; exact Xr (getI (n:=n.toNat) (by omega))
   rw [e] at k
   exact ⟨_,rfl,_,rfl,a,_,_,_,rfl,rfl,hS,ei,k⟩
  ·have h:¬ n < ns.length:=by simpa using h
   have e:cell ns n=if ns.length=0 then 31 * n + 7 else ns.getD (n % ns.length).toNat 0 % 1000003 + 101 * n:=if_neg h
   refine ⟨_,rfl,a,_,rfl,.inl hS,rfl,_,rfl,?_⟩
   rw [el]
   refine ite2 (fun g=>?_) (fun g=>?_)
   ·have g:ns.length=0:=by simpa using g
    refine ⟨_,rfl,_,_,rfl,rfl,.inl ⟨by decide,by decide⟩,_,_,rfl,rfl,?_⟩
    rw [if_pos g] at e
    rw [e] at k; exact k
   ·have g:¬ ns.length=0:=by simpa using g
    have gp:(0:Int) < ns.length:=by omega
    rw [if_neg g] at e
    have m0:=Int.emod_nonneg n (show (ns.length:Int)≠0 by omega)
    have m1:=Int.emod_lt_of_pos n gp
    refine ⟨_,rfl,_,rfl,_,rfl,a,_,rfl,.inl hS,_,_,rfl,rfl,(by rw [el]; exact gp),a,_,_,_,rfl,rfl,hS,(?_:atI _ _=some (V.int (ns.getD (n % ns.length).toNat 0))),_,_,rfl,rfl,(by show (0:Int) < 1000003; decide),_,rfl,_,_,rfl,rfl,.inl ⟨by decide,by decide⟩,_,_,rfl,rfl,?_⟩
    ·rw [el]
     have en:n % (ns.length:Int)=((n % (ns.length:Int)).toNat:Int):=by omega
     rw [en]
     exact Xr (getI (by omega))
    ·rw [e] at k; exact k
theorem Xl:FnScope ["_law_cell_here","_law_many","_law_row","_law_rest","_law_seed"] ["_law_cell_here","_law_many"] (Zg Ol):=⟨rfl,rfl,rfl,by decide +kernel,rfl,by decide +kernel,by decide +kernel⟩
theorem Zbw (T:Txt w K mg t):FnOk P w K mg base (CXr P w) 1 t.bL t.bT ["_law_cell_here","_law_many"] Zff:=by
 refine T.bW.F.aR Xl (fun cdv A outer s H vs Q E hr h=>?_)
 ·obtain ⟨c,n,rfl,hn60,k⟩:=h
  refine ⟨_,(Ze (Zo (i:=2) Xl.nd rfl (Or.inl rfl) (Y5 Zc))
   (Ze (Zo (i:=3) Xl.nd rfl (Or.inl rfl) (Zj Wn (pv 0) (Zj Zm2 Zf Zf)))
   (Ze (Wr PassesOwn.never (PW.pt (Q5 (Zq Zaf (pv 3) Zf (Zu _)) (J6 (Zq Vt (Zl Zk (by rfl) T.ae PySem.boot_len (Za (pv 2) Zc)) (pv 1) (Zu _))))) (Ze (Yg (Y3 PySem.F.plainAttrs_list PySem.F.slot_list_append PySem.F.type_list_append Yc (pv 2) (Za (Zj Zy (pv 3) Zf) Zc)))
   (Zh (Zo (i:=3) Xl.nd rfl (Or.inl rfl) (Zj Y2 (pv 3) Zf)))))
   (Ze (Zo (i:=4) Xl.nd rfl (Or.inl rfl) (Zj Zy (pv 0) Zf))
   (Ze (Wr PassesOwn.never (Zq Vt (Zl Zk (by rfl) T.ae PySem.boot_len (Za (pv 2) Zc)) (pv 1) (Zu _)) (Ze (Zo (i:=4) Xl.nd rfl (Or.inl rfl) (Zj Zy (Zj Z8 (Zj Z8 (Zj Xa (pv 4) Zf) Zf) (Zl Zk (by rfl) T.ae PySem.boot_len (Za (pv 2) Zc))) Zf))
   (Zh (Yg (Y3 PySem.F.plainAttrs_list PySem.F.slot_list_append PySem.F.type_list_append Yc (pv 2) (Za (Zj Zy (Zj Y2 (Zj Zy (Zj Xa (pv 4) Zf) Zf) Zf) Zf) Zc))))))
   (Zh (Zp (pv 2)))))))),?_⟩
  refine ⟨Nat.zero_le _,fun r hr0=>?_⟩
  refine ⟨_,rfl,_,_,rfl,rfl,⟨by decide,by decide,by decide⟩,_,_,rfl,rfl,?_⟩
  show tSeq (Jl _ _) _ _ _ _
  refine Yk (fun σ H1=>∃ (xs:List Int) (rest:Int),σ=[some (.int c),some (.int n),some (.ref r),some (.int rest),none]∧Same H H1∧H1 r=some (.lst (xs.map V.int))∧xs.length≤n∧(∀ x∈xs,0≤x∧x < 1009)) (fun nx hnx=>?_) ?_
  ·refine ⟨fun m σ H1=>∃ (xs:List Int) (rest:Int),m=n - xs.length∧σ=[some (.int c),some (.int n),some (.ref r),some (.int rest),none]∧Same H H1∧H1 r=some (.lst (xs.map V.int))∧xs.length≤n∧(∀ x∈xs,0≤x∧x < 1009),
    ⟨n,[],_,rfl,rfl,Same.new hr0,Zb,Nat.zero_le _,fun x hx=>absurd hx (by simp)⟩,?_⟩
   rintro m σ H1 ⟨xs,rest,rfl,rfl,sm,h1,hl,hx⟩
   have el:((xs.map V.int).length:Int)=xs.length:=by simp
   refine ⟨_,rfl,_,_,rfl,rfl,_,rfl,?_⟩
   refine ite2 (fun _=>?_) (fun _=>?_)
   ·refine ⟨_,rfl,r,_,rfl,.inl (SqL.of h1),_,rfl,_,_,rfl,rfl,_,rfl,?_⟩
    rw [el]
    refine ite2 (fun g=>?_) (fun _=>?_)
    ·have g:(xs.length:Int) < n:=by simpa using g
     refine ⟨_,fun σ' H' h=>h,?_⟩
     refine ⟨_,rfl,.inl ⟨rfl,_,SqL.of h1⟩,_,rfl,_,_,rfl,rfl,(by show (0:Int) < 1009; decide),r,_,_,rfl,rfl,h1,(by rw [List.length_map]; exact Zr (by omega)),?_⟩
     refine ⟨_,rfl,_,_,rfl,rfl,⟨by decide,by decide⟩,?_⟩
     refine ⟨n - (xs ++ [rest % 1009]).length,?_,xs ++ [rest % 1009],_,rfl,rfl,Same.add sm hr0,?_,?_,?_⟩
     ·rw [List.length_append,List.length_singleton]; omega
     ·rw [Zb,← Zca]
     ·rw [List.length_append,List.length_singleton]; omega
     ·intro x hm
      rcases List.mem_append.mp hm with z | z
      ·exact hx x z
      ·have:x=rest % 1009:=by simpa using z
       subst this
       omega
    ·exact hnx _ _ ⟨xs,rest,rfl,sm,h1,hl,hx⟩
   ·exact hnx _ _ ⟨xs,rest,rfl,sm,h1,hl,hx⟩
  rintro σ H1 ⟨xs,rest,rfl,sm,h1,hl,hx⟩
  refine ⟨_,rfl,_,_,rfl,rfl,(by show (0:Int) < 2147483629; decide),?_⟩
  show tSeq (Jl _ _) _ _ _ _
  refine Yk (fun σ H1=>∃ (xs:List Int) (rest seed:Int),σ=[some (.int c),some (.int n),some (.ref r),some (.int rest),some (.int seed)]∧Same H H1∧H1 r=some (.lst (xs.map V.int))∧xs.length=n∧(∀ x∈xs,0≤x∧x < 1009)) (fun nx hnx=>?_) ?_
  ·refine ⟨fun m σ H1=>∃ (xs:List Int) (rest seed:Int),m=n - xs.length∧σ=[some (.int c),some (.int n),some (.ref r),some (.int rest),some (.int seed)]∧Same H H1∧H1 r=some (.lst (xs.map V.int))∧xs.length≤n∧(∀ x∈xs,0≤x∧x < 1009),
    ⟨n - xs.length,xs,rest,_,rfl,rfl,sm,h1,hl,hx⟩,?_⟩
   clear h1 hl hx sm xs rest
   rintro m σ H1 ⟨xs,rest,seed,rfl,rfl,sm,h1,hl,hx⟩
   have el:((xs.map V.int).length:Int)=xs.length:=by simp
   refine ⟨_,rfl,r,_,rfl,.inl (SqL.of h1),_,rfl,_,_,rfl,rfl,_,rfl,?_⟩
   rw [el]
   refine ite2 (fun g=>?_) (fun g=>?_)
   ·have g:(xs.length:Int) < n:=by simpa using g
    refine ⟨_,fun σ' H' h=>h,?_⟩
    refine ⟨_,rfl,_,_,rfl,rfl,.inr ⟨by decide,by decide⟩,_,_,rfl,rfl,_,rfl,r,_,rfl,.inl (SqL.of h1),_,_,rfl,rfl,_,_,rfl,rfl,(by show (0:Int) < 2147483647; decide),?_⟩
    obtain ⟨y,hy⟩:∃ y,y=(seed * 48271 + 12345 + ((xs.map V.int).length:Int)) % 2147483647 * 69621 % 2147483629 / 7 % 1009:=⟨_,rfl⟩
    refine ⟨_,rfl,.inl ⟨rfl,_,SqL.of h1⟩,_,rfl,_,_,rfl,rfl,.inr ⟨by decide,by decide⟩,_,_,rfl,rfl,(by show (0:Int) < 2147483629; decide),_,_,rfl,rfl,⟨by decide,by decide⟩,_,_,rfl,rfl,(by show (0:Int) < 1009; decide),r,_,_,rfl,rfl,h1,(by rw [List.length_map]; exact Zr (by omega)),?_⟩
    refine ⟨n - (xs ++ [y]).length,?_,xs ++ [y],_,_,rfl,rfl,Same.add sm hr0,?_,?_,?_⟩
    ·rw [List.length_append,List.length_singleton]; omega
    ·rw [Zb,← Zca,hy]
    ·rw [List.length_append,List.length_singleton]; omega
    ·intro x hm
     rcases List.mem_append.mp hm with z | z
     ·exact hx x z
     ·have:x=y:=by simpa using z
      rw [this,hy]
      exact ⟨Int.emod_nonneg _ (by decide),Int.emod_lt_of_pos _ (by decide)⟩
   ·have g:¬ (xs.length:Int) < n:=by simpa using g
    exact hnx _ _ ⟨xs,rest,seed,rfl,sm,h1,by omega,hx⟩
  rintro σ H1 ⟨xs,rest,seed,rfl,sm,h1,hl,hx⟩
  exact ⟨_,rfl,k r xs H1 sm hr0 h1 hl hx⟩
noncomputable def Zk3 (K:PySem.W.Frag):Sp:=fun vs H Q _=>∃ (a:Addr) (xs:List Int) (n:Nat) (sh:Int),vs=[.ref a,.int n,.int sh]∧H a=some (.lst (xs.map V.int))∧xs.length=60∧(∀ x∈xs,0≤x∧x < 1009)∧1≤n∧n≤14 ∧
 ∀ (p:Addr) (M:List (Option Nat)) (H':Hp),Same H H'→H p=none→H' p=some (.lst (M.map mV))→M.length=3 * n→(∀ (i j:Nat),M[i]?=some (some j)→M[j]?=some (some i)∧i≠j)→Q (.ref p) H'
theorem map_set {α:Type} (f:α→V) (l:List α) (i:Nat) (x:α):(l.map f).set i (f x)=(l.set i x).map f:=by rw [List.map_set]
theorem Wi {n i:Nat} (h:i < n):ixN n (i:Int)=some i:=by
 unfold ixN
 simp
 omega
theorem Zie {α β:Type} (f:α→β):∀ (l:List α) (i:Nat),(l.map f).eraseIdx i=(l.eraseIdx i).map f
 | [],_=>rfl
 | _ :: _,0=>rfl
 | a :: r,i + 1=>by rw [List.map_cons,List.eraseIdx_cons_succ,Zie f r i,List.eraseIdx_cons_succ,List.map_cons]
theorem natV (F:List Nat) (i:Nat):(F.map fun (j:Nat)=>V.int j)[i]?=(F[i]?).map fun (j:Nat)=>V.int j:=List.getElem?_map ..
theorem Xu:FnScope ["_law_nums","_law_many","_law_share","_law_mates","_law_free_here","_law_at","_law_one","_law_pick","_law_other"] ["_law_nums","_law_many","_law_share"] (Zg Zbd):=⟨rfl,rfl,rfl,by decide +kernel,rfl,by decide +kernel,by decide +kernel⟩
theorem Zhm (T:Txt w K mg t):FnOk P w K mg base (CXr P w) 1 t.c7 t.dm ["_law_nums","_law_many","_law_share"] (Zk3 K):=by
 refine T.dC.F.aR Xu (fun cdv A outer s H vs Q E hr h=>?_)
 ·obtain ⟨a,xs,n,sh,rfl,ha,hl,hx,h1,h2,k⟩:=h
  refine ⟨_,(Ze (Zo (i:=3) Xu.nd rfl (Or.inl rfl) (Zj Kw (Y5 (Za Xy Zc)) (Zj Xa Zf (pv 1))))
   (Ze (Zo (i:=4) Xu.nd rfl (Or.inl rfl) (W1 rfl T.aH rfl T.ak rfl (Za (Zj Xa Zf (pv 1)) Zc)))
   (Ze (Zo (i:=5) Xu.nd rfl (Or.inl rfl) Zf)
   (Ze (Wr PassesOwn.never (Zq Zaf (Zl Zk (by rfl) T.ae PySem.boot_len (Za (pv 4) Zc)) Zf (Zu _)) (Ze (Zo (i:=6) Xu.nd rfl (Or.inl rfl) (Y3 PySem.F.plainAttrs_list PySem.F.slot_list_pop PySem.F.type_list_pop Zb5 (pv 4) (Za Zf Zc)))
   (Ze (Zo (i:=7) Xu.nd rfl (Or.inl rfl) (Zs Zt (pv 0) (pv 5) (fun _ _=>rfl)))
   (Ze (Zo (i:=5) Xu.nd rfl (Or.inl rfl) (Zj Z8 (pv 5) Zf))
   (Zh (Yd (Zq Znz (Zj Zy (pv 7) Zf) (pv 2) (Zu _)) (Ze (Zo (i:=8) Xu.nd rfl (Or.inl rfl) (Y3 PySem.F.plainAttrs_list PySem.F.slot_list_pop PySem.F.type_list_pop Zb5 (pv 4) (Za (Zj Zy (Zj Y2 (pv 7) Zf) (Zl Zk (by rfl) T.ae PySem.boot_len (Za (pv 4) Zc))) Zc)))
   (Ze (Xn (pv 8) (W0 (pv 3) (pv 6) Xw))
   (Zh (Xn (pv 6) (W0 (pv 3) (pv 8) Xw))))) Z3))))))
   (Zh (Zp (pv 3))))))),?_⟩
  refine ⟨(by show 1≤sizeLine; decide),fun q hq=>?_⟩
  refine ⟨_,rfl,_,_,rfl,rfl,.inl ⟨by decide,by decide⟩,q,_,_,rfl,rfl,Zb,(by omega),(by omega),?_,fun m hm=>?_⟩
  ·have:(3 * (n:Int)).toNat=3 * n:=by omega
   show 1 * (3 * (n:Int)).toNat≤sizeLine
   rw [this,sizeLine_eq]; omega
  have eN:(3 * (n:Int)).toNat=3 * n:=by omega
  have eM:(List.replicate (3 * (n:Int)).toNat [V.non]).flatten=(List.replicate (3 * n) (none:Option Nat)).map mV:=by
   rw [eN,List.flatten_replicate_singleton,List.map_replicate]
   rfl
  refine ⟨_,rfl,_,_,rfl,rfl,.inl ⟨by decide,by decide⟩,3 * n,(congrArg (fun z=>[V.int z]) (by omega:(3 * (n:Int))=((3 * n:Nat):Int))),by omega,fun f hf=>?_⟩
  have hfm:f≠m:=fun z=>by rw [z,Zb] at hf; cases hf
  have hm0:H m=none:=by
   have:m≠q:=fun z=>by rw [z,Zb] at hm; cases hm
   rw [Zd this] at hm; exact hm
  have hf0:H f=none:=by
   rw [Zd hfm] at hf
   have:f≠q:=fun z=>by rw [z,Zb] at hf; cases hf
   rw [Zd this] at hf; exact hf
  have sm0:Same H (upd (upd (upd H q (.lst [.non])) m (.lst (List.replicate (3 * (n:Int)).toNat [V.non]).flatten)) f (.lst ((List.range (3 * n)).map fun (i:Nat)=>V.int i))):=Same.add (Same.add (Same.new hq) hm0) hf0
  show tSeq (Jl _ _) _ _ _ _
  refine Yk (fun σ H1=>∃ (M:List (Option Nat)) (v4 v5 v6 v7 v8:Option V),σ=[some (.ref a),some (.int n),some (.int sh),some (.ref m),v4,v5,v6,v7,v8]∧Same H H1∧H1 m=some (.lst (M.map mV))∧M.length=3 * n∧∀ (i j:Nat),M[i]?=some (some j)→M[j]?=some (some i)∧i≠j) (fun nx hnx=>?_) ?_
  ·refine ⟨fun c σ H1=>∃ (F:List Nat) (M:List (Option Nat)) (at':Nat) (v6 v7 v8:Option V),c=F.length∧σ=[some (.ref a),some (.int n),some (.int sh),some (.ref m),some (.ref f),some (.int at'),v6,v7,v8]∧Same H H1∧H1 m=some (.lst (M.map mV))∧H1 f=some (.lst (F.map fun (i:Nat)=>V.int i))∧SewOk (3 * n) F M∧at' + F.length≤3 * n,
    ⟨_,List.range (3 * n),List.replicate (3 * n) none,0,none,none,none,rfl,rfl,sm0,?_,Zb,SewOk.start _,by simp⟩,?_⟩
   ·rw [Zd hfm.symm,Zb,eM]
   rintro c σ H1 ⟨F,M,at',v6,v7,v8,rfl,rfl,sm,g1,g2,hs,hat⟩
   refine ⟨_,rfl,f,_,rfl,.inl (SqL.of g2),_,_,rfl,rfl,_,rfl,?_⟩
   rw [List.length_map]
   refine ite2 (fun g=>?_) (fun g=>?_)
   ·have g:1 < F.length:=by have:=of_decide_eq_true g; omega
    obtain ⟨one,F',rfl⟩:∃ one F',F=one :: F':=by
     cases F with
     | nil=>simp at g
     | cons a b=>exact ⟨a,b,rfl⟩
    rw [List.length_cons] at g hat
    refine ⟨_,fun σ' H' h=>h,?_⟩
    refine ⟨_,rfl,.inl ⟨rfl,_,SqL.of g2⟩,f,_,0,0,V.int one,rfl,rfl,g2,by decide,by decide,(by simp [seqIndex?]),rfl,?_⟩
    have e0:((one :: F').map fun (i:Nat)=>V.int i).eraseIdx 0=F'.map fun (i:Nat)=>V.int i:=rfl
    rw [e0]
    have g2':(upd H1 f (.lst (F'.map fun (i:Nat)=>V.int i))) f=some (.lst (F'.map fun (i:Nat)=>V.int i)):=Zb
    have g1':(upd H1 f (.lst (F'.map fun (i:Nat)=>V.int i))) m=some (.lst (M.map mV)):=by rw [Zd hfm.symm]; exact g1
    have sm':Same H (upd H1 f (.lst (F'.map fun (i:Nat)=>V.int i))):=Same.add sm hf0
    generalize upd H1 f (.lst (F'.map fun (i:Nat)=>V.int i))=H2 at g1' g2' sm' ⊢
    have hpick:at' < xs.length:=by omega
    refine ⟨_,rfl,_,rfl,a,_,_,_,rfl,rfl,SqL.of (sm' _ _ ha),Xr (getI hpick),?_⟩
    obtain ⟨p0,p1⟩:=hx _ (List.getElem_mem hpick)
    have ep:xs.getD at' 0=xs[at']:=by rw [List.getD_eq_getElem?_getD,List.getElem?_eq_getElem hpick]; rfl
    rw [ep]
    generalize xs[at']=pick at p0 p1 ⊢
    refine ⟨_,rfl,_,_,rfl,rfl,?_⟩
    refine ⟨_,rfl,_,_,rfl,rfl,(by show (0:Int) < 7; decide),_,rfl,_,_,rfl,rfl,_,rfl,?_⟩
    refine ite2 (fun _=>?_) (fun _=>?_)
    ·-- other=free.pop(..)
     have hF:(0:Int) < F'.length:=by omega
     have k0:=Int.emod_nonneg (pick / 7) (show (F'.length:Int)≠0 by omega)
     have k1:=Int.emod_lt_of_pos (pick / 7) hF
     obtain ⟨kk,hkk⟩:∃ kk:Nat,pick / 7 % (F'.length:Int)=kk:=⟨_,(Int.toNat_of_nonneg k0).symm⟩
     have hkl:kk < F'.length:=by omega
     refine ⟨_,rfl,.inl ⟨rfl,_,SqL.of g2'⟩,_,rfl,_,_,rfl,rfl,⟨by decide,by decide⟩,_,rfl,f,_,rfl,.inl (SqL.of g2'),_,_,rfl,rfl,(by rw [List.length_map]; exact hF),f,_,_,kk,V.int F'[kk],rfl,rfl,g2',?_,?_,?_,?_,?_⟩
     ·rw [List.length_map,hkk]; omega
     ·rw [List.length_map,hkk]; omega
     ·rw [List.length_map,hkk]; simp [seqIndex?]; omega
     ·rw [natV,List.getElem?_eq_getElem hkl]; rfl
     have e1:(F'.map fun (i:Nat)=>V.int i).eraseIdx kk=(F'.eraseIdx kk).map fun (i:Nat)=>V.int i:=by rw [Zie]
     rw [e1]
     have hp:=hs.pair (List.getElem?_eq_getElem hkl)
     have l1:one < M.length:=by rw [hs.len]; exact (hs.free one List.mem_cons_self).1
     have l2:F'[kk] < M.length:=by rw [hs.len]; exact (hs.free _ (List.mem_cons_of_mem _ (List.getElem_mem hkl))).1
     have g1'':(upd H2 f (.lst ((F'.eraseIdx kk).map fun (i:Nat)=>V.int i))) m=some (.lst (M.map mV)):=by rw [Zd hfm.symm]; exact g1'
     refine ⟨_,rfl,_,rfl,_,rfl,m,_,_,one,rfl,rfl,g1'',(by rw [List.length_map]; exact Wi l1),?_⟩
     refine ⟨_,rfl,_,rfl,_,rfl,m,_,_,F'[kk],rfl,rfl,Zb,(by rw [List.length_set,List.length_map]; exact Wi l2),?_⟩
     refine ⟨(F'.eraseIdx kk).length,?_,F'.eraseIdx kk,(M.set one (some F'[kk])).set F'[kk] (some one),at' + 1,_,_,_,rfl,rfl,Same.add (Same.add (Same.add sm' hf0) hm0) hm0,?_,?_,hp,?_⟩
     ·rw [List.length_eraseIdx_of_lt hkl,List.length_cons]; omega
     ·rw [Zb]
      show some (HO.lst (((M.map mV).set one (mV (some F'[kk]))).set F'[kk] (mV (some one))))=_
      rw [map_set,map_set]
     ·rw [Zd hfm,Zd hfm,Zb]
     ·rw [List.length_eraseIdx_of_lt hkl]; omega
    ·exact ⟨F'.length,by rw [List.length_cons]; omega,F',M,at' + 1,_,_,_,rfl,rfl,sm',g1',g2',hs.skip,by omega⟩
   ·exact hnx _ _ ⟨M,_,_,_,_,_,rfl,sm,g1,hs.len,hs.inv⟩
  rintro σ H1 ⟨M,v4,v5,v6,v7,v8,rfl,sm,g1,hl',hi'⟩
  exact ⟨_,rfl,k m M H1 sm hm0 g1 hl' hi'⟩
end
end KT
set_option maxHeartbeats 4000000
namespace KT
open PySem L2
theorem J1 {lo:Int} {n:Nat} {g:TG} {tt:TT} {tb:TB} {R:St→Hp→Prop} {σ:St} {H:Hp} (Pv:Nat→St→Hp→Prop) (h0:Pv 0 σ H)
  (hs:∀ (i:Nat) σ H,i < n→Pv i σ H→g (.int (lo + i)) σ H fun σ2 H2=>tt σ2 H2 fun b H3=>if b=true then tb σ2 H3 (Pv (i + 1)) else Pv (i + 1) σ2 H3) (hd:∀ σ H,Pv n σ H→R σ H):Jk (Itr lo n) g tt tb R σ H:=by
 refine ⟨fun i m σ H=>m=n - i∧i≤n∧Pv i σ H,⟨n,by simp,Nat.zero_le _,h0⟩,?_⟩
 rintro i m σ H ⟨rfl,hi,p⟩
 by_cases hlt:i < n
 ·refine .inr ⟨hlt,Pv (i + 1),fun σ' H' p'=>⟨n - (i + 1),by omega,rfl,hlt,p'⟩,fun x H' y=>?_⟩
  obtain ⟨e,y⟩:=y
  subst e y
  exact hs i σ _ hlt p
 ·have e:i=n:=by omega
  subst e
  exact .inl ⟨Nat.le_refl _,hd σ H p⟩
theorem Z4 {K:PySem.W.Frag} {a:Addr} {xs:List V} {g:TG} {tt:TT} {tb:TB} {R:St→Hp→Prop} {σ:St} {H:Hp} (Pv:Nat→St→Hp→Prop) (h0:Pv 0 σ H) (hl:∀ i σ H,i≤xs.length→Pv i σ H→SqL K H a xs)
  (hs:∀ (i:Nat) x σ H,xs[i]?=some x→Pv i σ H→g x σ H fun σ2 H2=>tt σ2 H2 fun b H3=>if b=true then tb σ2 H3 (Pv (i + 1)) else Pv (i + 1) σ2 H3) (hd:∀ σ H,Pv xs.length σ H→R σ H):Jk (Itl K a) g tt tb R σ H:=by
 refine ⟨fun i m σ H=>m=xs.length - i∧i≤xs.length∧Pv i σ H,⟨xs.length,by simp,Nat.zero_le _,h0⟩,?_⟩
 rintro i m σ H ⟨rfl,hi,p⟩
 have q:=hl i σ H hi p
 by_cases hlt:i < xs.length
 ·refine .inr ⟨⟨xs,xs[i],q,by simp [hlt]⟩,Pv (i + 1),fun σ' H' p'=>⟨xs.length - (i + 1),by omega,rfl,hlt,p'⟩,fun x H' y=>?_⟩
  obtain ⟨e,y⟩:=y
  subst e
  exact hs i x σ _ (y xs q) p
 ·have e:i=xs.length:=by omega
  subst e
  exact .inl ⟨⟨xs,q,Nat.le_refl _⟩,hd σ H p⟩
theorem Zcb {K:PySem.W.Frag} {a:Addr} {xs:List V} {g:TG} {tt:TT} {tb:TB} {R:St→Hp→Prop} {σ:St} {H:Hp} (Pv:Nat→St→Hp→Prop) (h0:Pv 0 σ H) (hl:∀ i σ H,i≤xs.length→Pv i σ H→SqT K H a xs)
  (hs:∀ (i:Nat) x σ H,xs[i]?=some x→Pv i σ H→g x σ H fun σ2 H2=>tt σ2 H2 fun b H3=>if b=true then tb σ2 H3 (Pv (i + 1)) else Pv (i + 1) σ2 H3) (hd:∀ σ H,Pv xs.length σ H→R σ H):Jk (Itt K a) g tt tb R σ H:=by
 refine ⟨fun i m σ H=>m=xs.length - i∧i≤xs.length∧Pv i σ H,⟨xs.length,by simp,Nat.zero_le _,h0⟩,?_⟩
 rintro i m σ H ⟨rfl,hi,p⟩
 have q:=hl i σ H hi p
 by_cases hlt:i < xs.length
 ·refine .inr ⟨⟨xs,xs[i],q,by simp [hlt]⟩,Pv (i + 1),fun σ' H' p'=>⟨xs.length - (i + 1),by omega,rfl,hlt,p'⟩,fun x H' y=>?_⟩
  obtain ⟨e,y⟩:=y
  subst e
  exact hs i x σ _ (y xs q) p
 ·have e:i=xs.length:=by omega
  subst e
  exact .inl ⟨⟨xs,q,Nat.le_refl _⟩,hd σ H p⟩
noncomputable def row3 (ns:List Int) (k:Nat):List V:=[.int (ns.getD (3 * k) 0),.int (ns.getD (3 * k + 1) 0),.int (ns.getD (3 * k + 2) 0)]
noncomputable def Yy (H:Hp) (r:Addr) (ns:List Int):Prop:=∃ ts:List Addr,H r=some (.lst (ts.map V.ref))∧ns.length=3 * ts.length∧∀ (k:Nat) (t:Addr),ts[k]?=some t→H t=some (.tup (row3 ns k))
theorem Yy.same {H H':Hp} {r:Addr} {ns:List Int} (h:Yy H r ns) (s:Same H H'):Yy H' r ns:=by
 obtain ⟨ts,h1,h2,h3⟩:=h
 exact ⟨ts,s _ _ h1,h2,fun k t e=>s _ _ (h3 k t e)⟩
noncomputable def Zk5:Sp:=fun vs H Q _=>∃ (a:Addr) (M:List (Option Nat)) (n:Nat) (st sp:Int),vs=[.ref a,.int st,.int sp]∧H a=some (.lst (M.map mV))∧M.length=3 * n∧1≤n∧n≤14∧(∀ (i j:Nat),M[i]?=some (some j)→M[j]?=some (some i)∧i≠j)∧sp∈Vk ∧
 ∀ (p:Addr) (H':Hp),Same H H'→H p=none→Yy H' p (flat M st sp)→Q (.ref p) H'
theorem Oi {t:Int} (h:t∈Vk):-(2 ^ 64) < t∧t < 2 ^ 64:=by
 simp only [Vk,List.mem_cons,List.not_mem_nil,or_false] at h
 rcases h with rfl | rfl | rfl | rfl | rfl | rfl | rfl | rfl <;> decide
theorem Zm7 {M:List (Option Nat)} {i:Nat} (h:i < M.length):atI (M.map mV) (0 + (i:Int))=some (mV M[i]):=by
 rw [Int.zero_add]
 exact Xr (by rw [List.getElem?_map,List.getElem?_eq_getElem h]; rfl)
section
variable {P:Program} {w:World} {K:PySem.W.Frag} {mg:Str→Option Value} {base:Heap} {t:Adr}
theorem Qm:FnScope ["_law_mates","_law_start","_law_step","_law_flat","_law_at","_law_mate"] ["_law_mates","_law_start","_law_step"] (Zg Zbf):=⟨rfl,rfl,rfl,by decide +kernel,rfl,by decide +kernel,by decide +kernel⟩
theorem Zho (T:Txt w K mg t):FnOk P w K mg base (CXr P w) 1 t.c8 t.dn ["_law_mates","_law_start","_law_step"] Zk5:=by
 refine T.dD.F.aR Qm (fun cdv A outer s H vs Q E hr h=>?_)
 ·obtain ⟨a,M,n,st,sp,rfl,ha,hM,h1,h2,hi,hsp,k⟩:=h
  refine ⟨_,(Ze (Zo (i:=3) Qm.nd rfl (Or.inr rfl) (Y5 Zc))
   (Ze (Y1 PassesOwn.never rfl (Xh rfl T.ak (Za (Zl Zk (by rfl) T.ae PySem.boot_len (Za (pv 0) Zc)) Zc)) (Zn (i:=4) Qm.nd rfl (Or.inl rfl)) (Ze (Zo (i:=5) Qm.nd rfl (Or.inl rfl) (Zs Zt (pv 0) (pv 4) (fun _ _=>rfl)))
   (Zh (Yd (PW.pt (Q5 (Zq Jb (pv 5) Xy (Zu _)) (J6 (Zq Vt (pv 5) (pv 4) (Zu _))))) (Zh (Yg (Y3 PySem.F.plainAttrs_list PySem.F.slot_list_append PySem.F.type_list_append Yc (pv 3) (Za (Zs Zt (pv 3) (pv 5) (fun _ _=>rfl)) Zc)))) (Zh (Yg (Y3 PySem.F.plainAttrs_list PySem.F.slot_list_append PySem.F.type_list_append Yc (pv 3) (Za (Zj Zy (Zj Z8 (pv 1) (Zj Xa (pv 2) (pv 4))) Zf) Zc))))))))
   (Zh (Zp (Ys (ts:=["_law_k"]) (fv:=[("_law_flat",3)]) ⟨rfl,by decide +kernel,by decide +kernel,Z6 (by rfl),⟨⟨rfl,rfl,Or.inl rfl⟩,trivial⟩⟩ rfl (Xh rfl T.ak (Za (Zj Y2 (Zl Zk (by rfl) T.ae PySem.boot_len (Za (pv 0) Zc)) Zf) Zc)) (fun _ _ _ _=>(Zn (i:=0) (show List.Nodup (["_law_k","_law_flat"]:List Str) from by decide +kernel) rfl (Or.inl rfl) (Or.inr rfl))) (fun _ _ _ _=>Yf) (fun _ _ _=>rfl) (fun _ _ _ _ _ _=>Ya (Xo (Za (Zs (Xb K) (pv 1) (Zj Xa Zf (pv 0)) (fun _ _=>rfl)) (Za (Zs (Xb K) (pv 1) (Zj Z8 (Zj Xa Zf (pv 0)) Zf) (fun _ _=>rfl)) (Za (Zs (Xb K) (pv 1) (Zj Z8 (Zj Xa Zf (pv 0)) Zf) (fun _ _=>rfl)) Zc)))))))))),?_⟩
  refine ⟨Nat.zero_le _,fun f hf=>?_⟩
  have eL:(((M.map mV).length:Nat):Int).toNat=M.length:=by simp
  have ha1:(upd H f (.lst [])) a=some (.lst (M.map mV)):=by rw [Zd (Zi ha hf)]; exact ha
  dsimp only [Zm]
  show tSeq (tFor _ _ _) _ _ _ _
  refine Yk (fun σ H1=>∃ (v4 v5:Option V),σ=[some (.ref a),some (.int st),some (.int sp),some (.ref f),v4,v5]∧Same H H1∧H1 f=some (.lst ((flat M st sp).map V.int))) (fun nx hnx=>?_) ?_
  ·refine ⟨_,rfl,a,_,rfl,.inl (SqL.of ha1),_,rfl,by omega,by rw [List.length_map]; omega,?_⟩
   rw [eL]
   refine Wb (n:=M.length) (fun i σ H1=>∃ (v4 v5:Option V),σ=[some (.ref a),some (.int st),some (.int sp),some (.ref f),v4,v5]∧Same H H1∧H1 f=some (.lst (((List.range i).map fun i=>nm st sp (rep M i)).map V.int))) ⟨none,none,rfl,Same.new hf,Zb⟩ ?_ ?_
   ·rintro i σ H1 hlt ⟨v4,v5,rfl,sm,hfl⟩
    refine ⟨_,rfl,_,rfl,a,_,_,_,rfl,rfl,SqL.of (sm _ _ ha),Zm7 hlt,?_⟩
    have fin:∀ x:Int,x=nm st sp (rep M i)→(upd H1 f (.lst (((List.range i).map fun i=>nm st sp (rep M i)).map V.int ++ [V.int x]))) f=some (.lst (((List.range (i + 1)).map fun i=>nm st sp (rep M i)).map V.int)):=fun x hx=>by
     rw [Zb,hx,List.range_succ]
     simp
    have hlen:(((List.range i).map fun i=>nm st sp (rep M i)).map V.int).length < sizeLine:=by
     rw [List.length_map,List.length_map,List.length_range]; exact Zr (by omega)
    refine ⟨_,rfl,rfl,_,rfl,?_⟩
    cases e:M[i] with
    | none =>
     have er:rep M i=i:=by unfold rep; rw [List.getElem?_eq_getElem hlt,e]
     refine iteF ?_
     refine iteF ?_
     refine ⟨_,rfl,.inl ⟨rfl,_,SqL.of hfl⟩,_,rfl,_,rfl,_,rfl,_,_,rfl,rfl,.inl (Oi hsp),_,_,rfl,rfl,_,_,rfl,rfl,(by show (0:Int) < 10000; decide),f,_,_,rfl,rfl,hfl,hlen,?_⟩
     exact ⟨_,_,rfl,Same.add sm hf,fin _ (by rw [er]; unfold nm; rw [Int.zero_add])⟩
    | some j =>
     have hMi:M[i]?=some (some j):=by rw [List.getElem?_eq_getElem hlt,e]
     refine iteT ?_
     refine ⟨_,rfl,_,rfl,_,_,rfl,rfl,_,rfl,?_⟩
     refine ite2 (fun g=>?_) (fun g=>?_)
     ·have g:j < i:=by have:=of_decide_eq_true g; omega
      have er:rep M i=j:=by unfold rep; rw [hMi]; exact if_pos g
      have erj:rep M j=j:=by unfold rep; rw [(hi i j hMi).1]; exact if_neg (by omega)
      have ej:atI (((List.range i).map fun i=>nm st sp (rep M i)).map V.int) (j:Int)=some (V.int (nm st sp (rep M i))):=by
       refine Xr ?_
       rw [List.getElem?_map,List.getElem?_map,List.getElem?_range g,er]
       show some (V.int (nm st sp (rep M j)))=_
       rw [erj]
      refine ⟨_,rfl,.inl ⟨rfl,_,SqL.of hfl⟩,_,rfl,_,rfl,f,_,_,_,rfl,rfl,SqL.of hfl,ej,f,_,_,rfl,rfl,hfl,hlen,?_⟩
      exact ⟨_,_,rfl,Same.add sm hf,fin _ rfl⟩
     ·have g:¬ j < i:=by
       have:¬ ((j:Int) < 0 + (i:Int)):=fun z=>g (decide_eq_true z)
       omega
      have er:rep M i=i:=by unfold rep; rw [hMi]; exact if_neg g
      refine ⟨_,rfl,.inl ⟨rfl,_,SqL.of hfl⟩,_,rfl,_,rfl,_,rfl,_,_,rfl,rfl,.inl (Oi hsp),_,_,rfl,rfl,_,_,rfl,rfl,(by show (0:Int) < 10000; decide),f,_,_,rfl,rfl,hfl,hlen,?_⟩
      exact ⟨_,_,rfl,Same.add sm hf,fin _ (by rw [er]; unfold nm; rw [Int.zero_add])⟩
   ·rintro σ H1 ⟨v4,v5,rfl,sm,hfl⟩
    exact hnx _ _ ⟨v4,v5,rfl,sm,hfl⟩
  rintro σ H1 ⟨v4,v5,rfl,sm,hfl⟩
  refine ⟨_,rfl,a,_,rfl,.inl (SqL.of (sm _ _ ha)),_,_,rfl,rfl,⟨by decide,by decide⟩,_,rfl,by rw [List.length_map]; omega,by rw [List.length_map]; omega,fun D hD=>?_⟩
  have eD:((((M.map mV).length:Nat):Int) / 3).toNat=n:=by rw [List.length_map,hM]; omega
  have hD0:H D=none:=sm.free hD
  have hfD:f≠D:=fun z=>by rw [z] at hfl; rw [hD] at hfl; cases hfl
  have hlf:(flat M st sp).length=3 * n:=by unfold flat; simp [hM]
  show Jk (Itr 0 ((((M.map mV).length:Nat):Int) / 3).toNat) _ _ _ _ _ _
  rw [eD]
  refine J1 (fun i σ H2=>∃ (ts:List Addr) (v:Option V),σ=[v,some (.ref f)]∧Same H H2∧H2 D=some (.lst (ts.map V.ref))∧ts.length=i∧H2 f=some (.lst ((flat M st sp).map V.int))∧∀ (k:Nat) (t:Addr),ts[k]?=some t→H2 t=some (.tup (row3 (flat M st sp) k)))
   ⟨[],none,rfl,Same.add sm hD0,Zb,rfl,by rw [Zd hfD]; exact hfl,fun k t z=>by simp at z⟩ ?_ ?_
  ·rintro i σ H2 hlt ⟨ts,v,rfl,sm2,g1,hl2,g2,g3⟩
   have at':∀ (c:Nat) (z:Int),c < 3→z=3 * (0 + (i:Int)) + c→atI ((flat M st sp).map V.int) z=some (V.int ((flat M st sp).getD (3 * i + c) 0)):=fun c z hc hz=>by
    have e:z=((3 * i + c:Nat):Int):=by omega
    rw [e]
    exact Xr (getI (by omega))
   dsimp only [Zm,tYes]
   rw [if_pos rfl]
   refine ⟨_,rfl,_,rfl,_,_,rfl,rfl,.inl ⟨by decide,by decide⟩,f,_,_,_,rfl,rfl,SqL.of g2,at' 0 _ (by decide) (by simp),?_⟩
   refine ⟨_,rfl,_,rfl,_,_,rfl,rfl,.inl ⟨by decide,by decide⟩,_,_,rfl,rfl,f,_,_,_,rfl,rfl,SqL.of g2,at' 1 _ (by decide) rfl,?_⟩
   refine ⟨_,rfl,_,rfl,_,_,rfl,rfl,.inl ⟨by decide,by decide⟩,_,_,rfl,rfl,f,_,_,_,rfl,rfl,SqL.of g2,at' 2 _ (by decide) rfl,?_⟩
   refine ⟨(by show 3≤sizeLine; decide),fun q hq=>?_⟩
   have hqD:q≠D:=fun z=>by rw [z,g1] at hq; cases hq
   have hqf:q≠f:=fun z=>by rw [z,g2] at hq; cases hq
   have hq0:H q=none:=sm2.free hq
   refine ⟨_,by rw [Zd (Ne.symm hqD)]; exact g1,(by rw [List.length_map]; exact Zr (by omega)),ts ++ [q],_,rfl,Same.add (Same.add sm2 hq0) hD0,?_,?_,?_,?_⟩
   ·rw [Zb]; simp
   ·rw [List.length_append,List.length_singleton,hl2]
   ·rw [Zd hfD,Zd (Ne.symm hqf)]; exact g2
   ·intro k t z
    by_cases hk:k < ts.length
    ·rw [List.getElem?_append_left hk] at z
     have g:=g3 k t z
     rw [Zd (fun e=>by rw [e,g1] at g; cases g),Zd (Zi g hq)]
     exact g
    ·have hk2:k=ts.length:=by
      have:=(List.getElem?_eq_some_iff.mp z).1
      rw [List.length_append,List.length_singleton] at this
      omega
     subst hk2
     have:t=q:=by simpa using z.symm
     subst this
     rw [Zd hqD,Zb,hl2]
     rfl
  ·rintro σ H2 ⟨ts,v,rfl,sm2,g1,hl2,g2,g3⟩
   exact k D H2 sm2 hD0 ⟨ts,g1,by rw [hlf,hl2],g3⟩
end
end KT
set_option maxHeartbeats 4000000
namespace KT
open PySem L2
theorem at4 {i:Int} (h0:0≤i) (h1:i < 4):∃ sh:Int,atI [V.int 0,V.int 0,V.int 1,V.int 3] i=some (V.int sh):=by
 obtain rfl | rfl | rfl | rfl:i=0∨i=1∨i=2∨i=3:=by omega
 all_goals exact ⟨_,rfl⟩
theorem at8 {i:Int} (h0:0≤i) (h1:i < 8):∃ sp:Int,sp∈Vk∧atI [V.int 1,V.int 3,V.int 7,V.int 9,V.int 37,V.int 1009,V.int 3333,V.int 9999] i=some (V.int sp):=by
 obtain rfl | rfl | rfl | rfl | rfl | rfl | rfl | rfl:i=0∨i=1∨i=2∨i=3∨i=4∨i=5∨i=6∨i=7:=by omega
 all_goals exact ⟨_,by decide,rfl⟩
noncomputable def Zk2 (K:PySem.W.Frag):Sp:=fun vs H Q _=>∃ (a:Addr) (ns:List Int),vs=[.ref a]∧SqL K H a (ns.map V.int)∧ns.length≤63 ∧
 ∀ (p m r:Addr) (M:List (Option Nat)) (nms:List Int) (H':Hp),Same H H'→H' p=some (.tup [.ref m,.ref r])→H' m=some (.lst (M.map mV))→Yy H' r nms→TD M nms→M.length≤42→H m=none→H r=none→Q (.ref p) H'
section
variable {P:Program} {w:World} {K:PySem.W.Frag} {mg:Str→Option Value} {base:Heap} {t:Adr}
theorem Xt:FnScope ["_law_script","_law_head","_law_many","_law_names","_law_share","_law_mates","_law_step"] ["_law_script"] (Zg Zbc):=⟨rfl,rfl,rfl,by decide +kernel,rfl,by decide +kernel,by decide +kernel⟩
theorem Zhl (T:Txt w K mg t):FnOk P w K mg base (CXr P w) 2 t.c9 t.dq ["_law_script"] (Zk2 K):=by
 refine T.dE.F.aR Xt (fun cdv A outer s H vs Q E hr h=>?_)
 ·obtain ⟨a,ns,rfl,hS,hl,k⟩:=h
  refine ⟨_,(Ze (Zo (i:=1) Xt.nd rfl (Or.inl rfl) (pcT (Qp T) hr T.bp (Za (pv 0) (Za Zf Zc))))
   (Ze (Zo (i:=2) Xt.nd rfl (Or.inl rfl) (Zj Z8 Zf (Zj Zy (pv 1) Zf)))
   (Ze (Yd (Zq X4 (Zj Zy (Zj Y2 (pv 1) Zf) Zf) Zf (Zu _)) (Zh (Zo (i:=2) Xt.nd rfl (Or.inl rfl) (Zj Z8 Zf (Zj Zy (Zj Y2 (pv 1) Zf) Zf)))) Z3)
   (Ze (Zo (i:=3) Xt.nd rfl (Or.inl rfl) (pcT (Qp T) hr T.bp (Za (pv 0) (Za Zf Zc))))
   (Ze (Zo (i:=4) Xt.nd rfl (Or.inl rfl) (Zs Uv (Xo (Za Zf (Za Zf (Za Zf (Za Zf Zc))))) (Zj Zy (pv 3) Zf) (fun _ _=>rfl)))
   (Ze (Zo (i:=5) Xt.nd rfl (Or.inl rfl) (pcT (Zhm T) hr T.dC (Za (pcT (Zbw T) hr T.bW (Za (pcT (Qp T) hr T.bp (Za (pv 0) (Za Zf Zc))) (Za Zf Zc))) (Za (pv 2) (Za (pv 4) Zc)))))
   (Ze (Zo (i:=6) Xt.nd rfl (Or.inl rfl) (Zs Uv (Xo (Za Zf (Za Zf (Za Zf (Za Zf (Za Zf (Za Zf (Za Zf (Za Zf Zc))))))))) (Zj Zy (Zj Y2 (pv 3) Zf) Zf) (fun _ _=>rfl)))
   (Zh (Zp (Xo (Za (pv 5) (Za (pcT (Zho T) hr T.dD (Za (pv 5) (Za (Zj Zy (Zj Y2 (pv 3) Zf) Zf) (Za (pv 6) Zc)))) Zc)))))))))))),?_⟩
  refine ⟨_,rfl,a,ns,0,rfl,hS,hl,by decide,by decide,?_⟩
  generalize cell ns 0=hd
  refine ⟨_,rfl,_,_,rfl,rfl,(by show (0:Int) < 6; decide),_,_,rfl,rfl,?_⟩
  dsimp only [Zm]
  show tSeq (tIfS _ _ _) _ _ _ _
  refine Yk (fun σ H1=>∃ n:Nat,1≤n∧n≤14∧σ=[some (.ref a),some (.int hd),some (.int n),none,none,none,none]∧H1=H) (fun nx hnx=>?_) ?_
  ·refine ⟨_,rfl,_,_,rfl,rfl,⟨by decide,by decide⟩,_,_,rfl,rfl,(by show (0:Int) < 9; decide),rfl,_,rfl,?_⟩
   refine ite2 (fun _=>?_) (fun _=>?_)
   ·refine ⟨_,rfl,_,_,rfl,rfl,⟨by decide,by decide⟩,_,_,rfl,rfl,(by show (0:Int) < 8; decide),_,_,rfl,rfl,?_⟩
    have e:(7 + hd / 54 % 8:Int)=((7 + (hd / 54 % 8).toNat:Nat):Int):=by omega
    exact hnx _ _ ⟨7 + (hd / 54 % 8).toNat,by omega,by omega,by rw [← e]; rfl,rfl⟩
   ·have e:(1 + hd % 6:Int)=((1 + (hd % 6).toNat:Nat):Int):=by omega
    exact hnx _ _ ⟨1 + (hd % 6).toNat,by omega,by omega,by rw [← e]; rfl,rfl⟩
  rintro σ H1 ⟨n,n1,n2,rfl,rfl⟩
  refine ⟨_,rfl,a,ns,2,rfl,hS,hl,by decide,by decide,?_⟩
  generalize cell ns 2=nam
  refine ⟨(by show 4≤sizeLine; decide),fun q hq=>?_⟩
  have m4:0≤nam % 4∧nam % 4 < 4:=by omega
  obtain ⟨sh,esh⟩:=at4 m4.1 m4.2
  refine ⟨_,rfl,_,_,rfl,rfl,(by show (0:Int) < 4; decide),q,_,_,_,rfl,rfl,SqT.of Zb,esh,?_⟩
  have s1:Same H1 (upd H1 q (.tup [V.int 0,V.int 0,V.int 1,V.int 3])):=Same.new hq
  refine ⟨_,rfl,a,ns,1,rfl,s1.seq hS,hl,by decide,by decide,?_⟩
  refine ⟨_,60,rfl,by decide,fun p xs H2 s2 hp h2 h60 hx=>?_⟩
  refine ⟨_,rfl,_,rfl,p,xs,n,sh,rfl,h2,h60,hx,n1,n2,fun m M H3 s3 hm hM hlen hinv=>?_⟩
  have s13:Same H1 H3:=(s1.trans s2).trans s3
  have hm0:H1 m=none:=(s1.trans s2).free hm
  refine ⟨(by show 8≤sizeLine; decide),fun q2 hq2=>?_⟩
  have m8:0≤nam / 4 % 8∧nam / 4 % 8 < 8:=by omega
  obtain ⟨sp,hsp,esp⟩:=at8 m8.1 m8.2
  refine ⟨_,rfl,_,_,rfl,rfl,⟨by decide,by decide⟩,_,_,rfl,rfl,(by show (0:Int) < 8; decide),q2,_,_,_,rfl,rfl,SqT.of Zb,esp,?_⟩
  have s14:Same H1 (upd H3 q2 (.tup [V.int 1,V.int 3,V.int 7,V.int 9,V.int 37,V.int 1009,V.int 3333,V.int 9999])):=Same.add s13 (s13.free hq2)
  have hM4:(upd H3 q2 (.tup [V.int 1,V.int 3,V.int 7,V.int 9,V.int 37,V.int 1009,V.int 3333,V.int 9999])) m=some (.lst (M.map mV)):=by rw [Zd (Zi hM hq2)]; exact hM
  refine ⟨_,rfl,_,rfl,_,rfl,_,_,rfl,rfl,⟨by decide,by decide⟩,_,_,rfl,rfl,(by show (0:Int) < 10000; decide),_,rfl,m,M,n,_,sp,rfl,hM4,hlen,n1,n2,hinv,hsp,fun r H5 s5 hr5 hrow=>?_⟩
  refine ⟨(by show 2≤sizeLine; decide),fun p5 hp5=>?_⟩
  have s15:=s14.trans s5
  have hr0:H1 r=none:=s14.free hr5
  refine k p5 m r M _ _ (Same.add s15 (s15.free hp5)) Zb ?_ (hrow.same (Same.new hp5)) (Zkx n1 n2 hlen hinv hsp) (by omega) hm0 hr0
  rw [Zd (Zi (s5 _ _ hM4) hp5)]
  exact s5 _ _ hM4
end
end KT
set_option maxHeartbeats 4000000
namespace KT
open PySem L2
noncomputable def spk (ns:List Int) (n:Nat) (f:Int→Addr):List (Key × V):=(keys ns n).map fun x=>((Sum.inl x:Key),V.ref (f x))
structure SpotsF (H:Hp) (ns:List Int) (n:Nat) (f:Int→Addr):Prop where
 inj:∀ x∈keys ns n,∀ y∈keys ns n,f x=f y→x=y
 at':∀ x∈keys ns n,H (f x)=some (.lst ((pl ns n x).map nV))
noncomputable def Zc3:Sp:=fun vs H Q _=>∃ (a:Addr) (M:List (Option Nat)) (ns:List Int),vs=[.ref a]∧H a=some (.lst (ns.map V.int))∧TD M ns∧ns.length≤120 ∧
 ∀ (d:Addr) (f:Int→Addr) (H':Hp),Same H H'→H d=none→H' d=some (.dK (spk ns ns.length f))→SpotsF H' ns ns.length f→(∀ x∈keys ns ns.length,H (f x)=none)→Q (.ref d) H'
section
variable {P:Program} {w:World} {K:PySem.W.Frag} {mg:Str→Option Value} {base:Heap} {t:Adr}
theorem Jf:FnScope ["names_at","spots","place","name"] ["names_at"] (Zg Kh):=⟨rfl,rfl,rfl,by decide +kernel,rfl,by decide +kernel,by decide +kernel⟩
theorem Zde (T:Txt w K mg t):FnOk P w K mg base (CXr P w) 1 t.b7 t.cj ["names_at"] Zc3:=by
 refine T.cy.F.aR Jf (fun cdv A outer s H vs Q E hr h=>?_)
 ·obtain ⟨a,M,ns,rfl,ha,td,hl,k⟩:=h
  have hu:=Zkq hr
  refine ⟨_,(Ze (Zo (i:=1) Jf.nd rfl (Or.inl rfl) Zji)
   (Ze (Y1 PassesOwn.never rfl (Zln rfl T.dJ (Za (pv 0) Zc)) (Qf rfl (Z5 (Zn (i:=2) Jf.nd rfl (Or.inl rfl)) (Z5 (Zn (i:=3) Jf.nd rfl (Or.inl rfl)) Wf))) (Ze (Yd (PW.pt (Vn (Zq Vt (pv 3) Zf (Zu _)) (Qc (Zq Zaf (pv 3) (Q6 (v:=.int 9999) rfl T.bY ⟨_,rfl⟩) (Zu _))))) Uk Z3)
   (Ze (Yg (Y3 PySem.F.plainAttrs_list PySem.F.slot_list_append PySem.F.type_list_append Yc (Zjh (pv 1) (pv 3) (Y5 Zc) ⟨rfl,rfl,rfl,rfl⟩) (Za (pv 2) Zc)))
   (Zh (Yd (Zq Zaf (Zl Zk (by rfl) T.ae PySem.boot_len (Za (Zei hu (pv 1) (pv 3) (fun _ _=>rfl)) Zc)) Zf (Zu _)) Uk Z3)))))
   (Zh (Zp (pv 1))))),?_⟩
  intro d hd
  have hda:a≠d:=Zi ha hd
  dsimp only [Zm]
  show tSeq (tFor _ _ _) _ _ _ _
  refine Yk (fun σ H1=>∃ (f:Int→Addr) (v2 v3:Option V),σ=[some (.ref a),some (.ref d),v2,v3]∧Same H H1∧H1 d=some (.dK (spk ns ns.length f))∧SpotsF H1 ns ns.length f∧∀ x∈keys ns ns.length,H (f x)=none) (fun nx hnx=>?_) ?_
  ·refine ⟨_,rfl,a,rfl,⟨_,SqL.of (by rw [Zd hda]; exact ha)⟩,?_⟩
   have el:(ns.map V.int).length=ns.length:=by simp
   refine Zj7 (xs:=ns.map V.int) (fun i σ H1=>∃ (f:Int→Addr) (v2 v3:Option V),σ=[some (.ref a),some (.ref d),v2,v3]∧Same H H1∧H1 d=some (.dK (spk ns i f))∧SpotsF H1 ns i f∧∀ x∈keys ns i,H (f x)=none)
    ⟨fun _=>0,none,none,rfl,Same.new hd,Zb,⟨fun x hx=>by simp [keys] at hx,fun x hx=>by simp [keys] at hx⟩,fun x hx=>by simp [keys] at hx⟩ ?_ ?_ ?_
   ·rintro i σ H1 _ ⟨f,v2,v3,rfl,sm,_⟩
    exact SqL.of (sm _ _ ha)
   ·rintro i x0 σ H1 q hx hq ⟨f,v2,v3,rfl,sm,hd1,sf,hf0⟩
    have hi:i < ns.length:=by rw [← el]; exact (List.getElem?_eq_some_iff.mp hx).1
    obtain ⟨x,hx'⟩:∃ x,ns[i]?=some x:=⟨_,List.getElem?_eq_getElem hi⟩
    obtain rfl:x0=V.int x:=by rw [List.getElem?_map,hx'] at hx; exact (Option.some.inj hx).symm
    refine ⟨q,_,rfl,SqT.of Zb,rfl,_,_,rfl,_,_,rfl,rfl,?_⟩
    obtain ⟨x0,x1⟩:=td.rng i x hx'
    refine ⟨_,rfl,_,_,rfl,rfl,_,rfl,?_⟩
    rw [decide_eq_false (by omega:¬ x < 0)]
    refine iteF ?_
    refine ⟨_,rfl,_,_,rfl,rfl,_,rfl,?_⟩
    rw [decide_eq_false (by omega:¬ x > 9999)]
    refine iteF ?_
    have hdq:d≠q:=Zi hd1 hq
    have hd2:(upd H1 q (.tup [.int i,.int x])) d=some (.dK (spk ns i f)):=by rw [Zd hdq]; exact hd1
    dsimp only [Ql]
    show tSeq (Zkh _) _ _ _ _
    refine Yk (fun σ H2=>∃ (f:Int→Addr),σ=[some (.ref a),some (.ref d),some (.int i),some (.int x)]∧Same H H2∧H2 d=some (.dK (spk ns (i + 1) f))∧SpotsF H2 ns (i + 1) f∧∀ x∈keys ns (i + 1),H (f x)=none) (fun nx2 hnx2=>?_) ?_
    ·refine ⟨_,rfl,d,rfl,.inl ⟨_,.inl hd2⟩,_,rfl,Nat.zero_le _,fun l hl'=>?_⟩
     obtain ⟨hlq,hl1⟩:=Xv hl'
     have hdl:d≠l:=Zi hd1 hl1
     have hd3:(upd (upd H1 q (.tup [.int i,.int x])) l (.lst [])) d=some (.dK (spk ns i f)):=by rw [Zd hdl]; exact hd2
     have hlk:(spk ns i f).length < sizeLine:=by unfold spk; rw [List.length_map]; exact Zr (by have:=Zcd ns i; omega)
     have hq0:H q=none:=sm.free hq
     have hl0:H l=none:=sm.free hl1
     have smq:Same H (upd (upd H1 q (.tup [.int i,.int x])) l (.lst [])):=Same.add (Same.add sm hq0) hl0
     have hp2:(pl ns i x).length < sizeLine:=Zr (by have:=Zbp td i x; omega)
     have old:∀ b u,H1 b=some u→(upd (upd H1 q (.tup [.int i,.int x])) l (.lst [])) b=some u:=fun b u e=>by rw [Zd (Zi e hl1),Zd (Zi e hq)]; exact e
     refine ⟨spk ns i f,Sum.inl x,hd3,hlk,rfl,fun v hv=>?_,fun hv=>?_⟩
     ·-- the name stands already
      have hx2:x∈keys ns i:=by
       unfold spk at hv
       rw [J4] at hv
       by_cases c:x∈keys ns i
       ·exact c
       ·rw [if_neg c] at hv; cases hv
      obtain rfl:v=V.ref (f x):=by
       unfold spk at hv
       rw [J4,if_pos hx2] at hv
       exact (Option.some.inj hv).symm
      have ek:keys ns (i + 1)=keys ns i:=by rw [Qs hx',if_pos hx2]
      have hfx:=old _ _ (sf.at' x hx2)
      refine ⟨.inl ⟨rfl,_,SqL.of hfx⟩,_,rfl,f x,_,_,rfl,rfl,hfx,by rw [List.length_map]; exact hp2,hnx2 _ _ ⟨f,rfl,Same.add smq (hf0 x hx2),?_,⟨?_,?_⟩,?_⟩⟩
      ·have:d≠f x:=fun z=>by rw [← z,hd3] at hfx; cases hfx
       rw [Zd this,hd3]
       unfold spk
       rw [ek]
      ·rw [ek]; exact sf.inj
      ·intro y hy
       rw [ek] at hy
       by_cases c:y=x
       ·subst c
        rw [Zb,Zec hx',List.map_append]
        rfl
       ·have:f y≠f x:=fun z=>c (sf.inj y hy x hx2 z)
        rw [Zd this,old _ _ (sf.at' y hy),Zbo (by rw [hx']; intro z; cases z; exact c rfl)]
      ·rw [ek]; exact hf0
     ·-- a new name
      have hx2:x ∉ keys ns i:=by
       intro c
       unfold spk at hv
       rw [J4,if_pos c] at hv
       cases hv
      have ek:keys ns (i + 1)=keys ns i ++ [x]:=by rw [Qs hx',if_neg hx2]
      have ep:putK (spk ns i f) (Sum.inl x) (V.ref l)=spk ns (i + 1) (fun y=>if y=x then l else f y):=by
       unfold spk
       rw [Zlj hx2,ek,List.map_append]
       congr 1
       ·apply List.map_congr_left
        intro y hy
        dsimp only
        rw [if_neg (fun (z:y=x)=>hx2 (z ▸ hy))]
       ·simp
      rw [ep]
      have hl4:(upd (upd (upd H1 q (.tup [.int i,.int x])) l (.lst [])) d (.dK (spk ns (i + 1) (fun y=>if y=x then l else f y)))) l=some (.lst []):=by rw [Zd (Ne.symm hdl),Zb]
      refine ⟨.inl ⟨rfl,_,SqL.of hl4⟩,_,rfl,l,_,_,rfl,rfl,hl4,by decide,hnx2 _ _ ⟨fun y=>if y=x then l else f y,rfl,Same.add (Same.add smq hd) hl0,?_,⟨?_,?_⟩,?_⟩⟩
      ·rw [Zd hdl,Zb]
      ·intro y hy z hz e
       rw [ek,List.mem_append,List.mem_singleton] at hy hz
       by_cases c1:y=x
       ·by_cases c2:z=x
        ·rw [c1,c2]
        ·have hz':=hz.resolve_right c2
         simp only [c1,c2,if_true,if_false] at e
         exact absurd (sf.at' z hz') (by rw [← e,hl1]; intro w; cases w)
       ·have hy':=hy.resolve_right c1
        by_cases c2:z=x
        ·simp only [c1,c2,if_true,if_false] at e
         exact absurd (sf.at' y hy') (by rw [e,hl1]; intro w; cases w)
        ·have hz':=hz.resolve_right c2
         simp only [c1,c2,if_false] at e
         exact sf.inj y hy' z hz' e
      ·intro y hy
       rw [ek,List.mem_append,List.mem_singleton] at hy
       by_cases c:y=x
       ·subst c
        simp only [if_true]
        rw [Zb,Zec hx',Zmu hx2]
        rfl
       ·have hy':=hy.resolve_right c
        have e1:=sf.at' y hy'
        have n1:f y≠l:=Zi e1 hl1
        have n2:f y≠d:=fun z=>by rw [z,hd1] at e1; cases e1
        simp only [c,if_false]
        rw [Zd n1,Zd n2,old _ _ e1,Zbo (by rw [hx']; intro z; cases z; exact c rfl)]
      ·intro y hy
       rw [ek,List.mem_append,List.mem_singleton] at hy
       by_cases c:y=x
       ·simp only [c,if_true]; exact hl0
       ·simp only [c,if_false]; exact hf0 y (hy.resolve_right c)
    rintro σ H2 ⟨f',rfl,sm2,hd4,sf2,hf2⟩
    have hx3:x∈keys ns (i + 1):=Jc.mpr ⟨i,by omega,hx'⟩
    have hg:valV (spk ns (i + 1) f') (Sum.inl x)=some (V.ref (f' x)):=by unfold spk; rw [J4,if_pos hx3]
    refine ⟨_,rfl,_,rfl,d,_,rfl,?_,f' x,_,rfl,.inl (SqL.of (sf2.at' x hx3)),_,_,rfl,rfl,_,rfl,?_⟩
    ·exact .inl ⟨_,Sum.inl x,.inl hd4,rfl,hg.symm⟩
    have h2:=Zbp td (i + 1) x
    rw [decide_eq_false (by rw [List.length_map]; omega:¬ ((((pl ns (i + 1) x).map nV).length:Nat):Int) > 2)]
    refine iteF ?_
    exact ⟨f',_,_,rfl,sm2,hd4,sf2,hf2⟩
   ·rintro σ H1 ⟨f,v2,v3,rfl,sm,hd1,sf,hf0⟩
    rw [el] at hd1 sf hf0
    exact hnx _ _ ⟨f,v2,v3,rfl,sm,hd1,sf,hf0⟩
  rintro σ H1 ⟨f,v2,v3,rfl,sm,hd1,sf,hf0⟩
  exact ⟨_,rfl,k d f H1 sm hd hd1 sf hf0⟩
noncomputable def Zc7:Sp:=fun vs H Q _=>∃ (d:Addr) (M:List (Option Nat)) (ns:List Int) (f:Int→Addr),vs=[.ref d,.int ns.length]∧H d=some (.dK (spk ns ns.length f))∧SpotsF H ns ns.length f∧TD M ns∧ns.length≤120 ∧
 ∀ (m:Addr) (o:Obj) (H':Hp),(∀ b u,b≠d→H b=some u→H' b=some u)→H m=none→H' m=some (.lst (M.map mV))→H' d=some (.frz o (.dK (spk ns ns.length f)))→Q (.ref m) H'
theorem Qx:FnScope ["spots","count","mates","pair"] ["spots","count"] (Zg Kl):=⟨rfl,rfl,rfl,by decide +kernel,rfl,by decide +kernel,by decide +kernel⟩
theorem Zdi (T:Txt w K mg t):FnOk P w K mg base (CXr P w) 1 t.b8 t.ck ["spots","count"] Zc7:=by
 refine T.cz.F.aR Qx (fun cdv A outer s H vs Q E hr h=>?_)
 ·obtain ⟨d,M,ns,f,rfl,hd,sf,td,hl,k⟩:=h
  refine ⟨_,(Ze (Zo (i:=2) Qx.nd rfl (Or.inl rfl) (Zj Kw (Y5 (Za Xy Zc)) (pv 1)))
   (Ze (Y1 PassesOwn.never rfl (Zlm (pv 0) ⟨rfl,rfl,rfl⟩) (Zn (i:=3) Qx.nd rfl (Or.inl rfl)) (Zh (Yd (Zq X4 (Zl Zk (by rfl) T.ae PySem.boot_len (Za (pv 3) Zc)) Zf (Zu _)) (Ze (Xn (Zs Zt (pv 3) Zf (fun _ _=>rfl)) (W0 (pv 2) (Zs Zt (pv 3) Zf (fun _ _=>rfl)) Xw))
   (Zh (Xn (Zs Zt (pv 3) Zf (fun _ _=>rfl)) (W0 (pv 2) (Zs Zt (pv 3) Zf (fun _ _=>rfl)) Xw)))) Z3)))
   (Zh (Zp (pv 2))))),?_⟩
  refine ⟨(by show 1≤sizeLine; decide),fun q hq=>?_⟩
  refine ⟨_,rfl,q,_,_,rfl,rfl,Zb,by omega,by omega,?_,fun m hm=>?_⟩
  ·have:((ns.length:Nat):Int).toNat=ns.length:=by omega
   show 1 * ((ns.length:Nat):Int).toNat≤sizeLine
   rw [this,sizeLine_eq]; omega
  obtain ⟨hmq,hm0⟩:=Xv hm
  have eM:(List.replicate ((ns.length:Nat):Int).toNat [V.non]).flatten=(part M ns []).map mV:=by
   have:((ns.length:Nat):Int).toNat=M.length:=by rw [← td.len]; omega
   rw [this,List.flatten_replicate_singleton,Zjl td,List.map_replicate]
   rfl
  rw [eM]
  have hdm:d≠m:=Zi hd hm0
  have hdq:d≠q:=Zi hd hq
  dsimp only [Zm]
  show tSeq (tFor _ _ _) _ _ _ _
  refine Yk (fun σ H1=>∃ (o:Obj) (v:Option V),σ=[some (.ref d),some (.int ns.length),some (.ref m),v]∧(∀ b u,b≠d→H b=some u→H1 b=some u)∧H1 m=some (.lst (M.map mV))∧H1 d=some (.frz o (.dK (spk ns ns.length f)))) (fun nx hnx=>?_) ?_
  ·refine ⟨_,rfl,d,_,rfl,.inl ⟨by rw [Zd hdm,Zd hdq]; exact hd,fun o=>?_⟩⟩
   refine Zj6 (fun j σ H1=>∃ (v:Option V),σ=[some (.ref d),some (.int ns.length),some (.ref m),v]∧(∀ b u,b≠d→H b=some u→H1 b=some u)∧H1 m=some (.lst ((part M ns ((keys ns ns.length).take j)).map mV))∧H1 d=some (.frz o (.dK (spk ns ns.length f))))
    ⟨none,rfl,fun b u hb e=>?_,?_,Zb⟩ ?_ ?_ ?_
   ·rw [Zd hb,Zd (Zi e hm0),Zd (Zi e hq)]; exact e
   ·rw [Zd (Ne.symm hdm),Zb]
    rfl
   ·rintro j σ H1 _ ⟨v,rfl,old,h1,h2⟩
    exact h2
   ·rintro j k0 x0 σ H1 hk ⟨v,rfl,old,h1,h2⟩
    obtain ⟨x,hx,rfl⟩:∃ x,(keys ns ns.length)[j]?=some x∧x0=V.ref (f x):=by
     unfold spk at hk
     rw [List.getElem?_map] at hk
     cases e:(keys ns ns.length)[j]? with
     | none=>rw [e] at hk; cases hk
     | some x=>rw [e] at hk; cases hk; exact ⟨x,rfl,rfl⟩
    have hm1:x∈keys ns ns.length:=List.mem_of_getElem? hx
    have et:(keys ns ns.length).take (j + 1)=(keys ns ns.length).take j ++ [x]:=by
     rw [List.take_add_one,hx]; rfl
    have hfx:=sf.at' x hm1
    have hfd:f x≠d:=fun z=>by rw [z,hd] at hfx; cases hfx
    have hf1:=old _ _ hfd hfx
    dsimp only [Zm]
    refine ⟨_,rfl,f x,_,rfl,.inl (SqL.of hf1),rfl,_,rfl,?_⟩
    rcases Vq td hm1 with ⟨a,e,ea,ma⟩ | ⟨a,b,hab,e,ea,eb,ma,mb⟩
    ·rw [e] at hf1 ⊢
     refine iteF ?_
     refine ⟨_,rfl,old,?_,h2⟩
     rw [et,Zjk td e ma]
     exact h1
    ·rw [e] at hf1 ⊢
     refine iteT ?_
     have la:a < (part M ns ((keys ns ns.length).take j)).length:=by rw [Xk]; exact (List.getElem?_eq_some_iff.mp ma).1
     have lb:b < (part M ns ((keys ns ns.length).take j)).length:=by rw [Xk]; exact (List.getElem?_eq_some_iff.mp mb).1
     have hfm:f x≠m:=Zi hfx hm0
     refine ⟨_,rfl,f x,_,_,_,rfl,rfl,SqL.of hf1,rfl,?_⟩
     refine ⟨_,rfl,_,rfl,f x,_,_,_,rfl,rfl,SqL.of hf1,rfl,m,_,_,a,rfl,rfl,h1,(by rw [List.length_map]; exact Wi la),?_⟩
     have hf2:(upd H1 m (.lst (((part M ns ((keys ns ns.length).take j)).map mV).set a (nV b)))) (f x)=some (.lst ([a,b].map nV)):=by rw [Zd hfm]; exact hf1
     refine ⟨_,rfl,f x,_,_,_,rfl,rfl,SqL.of hf2,rfl,?_⟩
     refine ⟨_,rfl,_,rfl,f x,_,_,_,rfl,rfl,SqL.of hf2,rfl,m,_,_,b,rfl,rfl,Zb,(by rw [List.length_set,List.length_map]; exact Wi lb),?_⟩
     refine ⟨_,rfl,fun c u hc ec=>?_,?_,?_⟩
     ·have:c≠m:=Zi ec hm0
      rw [Zd this,Zd this]
      exact old c u hc ec
     ·rw [Zb,et,Zhe td e hab ma mb]
      show some (HO.lst ((((part M ns ((keys ns ns.length).take j)).map mV).set a (mV (some b))).set b (mV (some a))))=_
      rw [map_set,map_set]
     ·rw [Zd hdm,Zd hdm]; exact h2
   ·rintro σ H1 ⟨v,rfl,old,h1,h2⟩
    refine hnx _ _ ⟨o,v,rfl,old,?_,h2⟩
    have:(keys ns ns.length).take (spk ns ns.length f).length=keys ns ns.length:=by
     unfold spk; rw [List.length_map,List.take_length]
    rw [this,Zjm td] at h1
    exact h1
  rintro σ H1 ⟨o,v,rfl,old,h1,h2⟩
  exact ⟨_,rfl,k m o H1 old hm0 h1 h2⟩
end
end KT
set_option maxHeartbeats 4000000
namespace KT
open PySem L2
noncomputable def We (cl na sp mt:Addr):List (Str × V):=putF "mates" (.ref mt) (putF "spots" (.ref sp) (putF "names_at" (.ref na) (putF "cloths" (.ref cl) [])))
theorem Ws (f:Str) (v:V):∀ fs:List (Str × V),(putF f v fs).length≤fs.length + 1
 | []=>by simp [putF]
 | (g,x) :: r=>by
  have:=Ws f v r
  unfold putF
  split
  ·simp
  ·simp only [List.length_cons]; omega
theorem s_cn:¬ ("cloths":Str)="names_at":=by decide
theorem s_cs:¬ ("cloths":Str)="spots":=by decide
theorem s_cm:¬ ("cloths":Str)="mates":=by decide
theorem s_ns:¬ ("names_at":Str)="spots":=by decide
theorem s_nm:¬ ("names_at":Str)="mates":=by decide
theorem s_sm:¬ ("spots":Str)="mates":=by decide
theorem Fo (cl na sp mt:Addr):(We cl na sp mt).lookup ("cloths":Str)=some (.ref cl):=by
 unfold We; rw [Zv,if_neg s_cm,Zv,if_neg s_cs,Zv,if_neg s_cn,Zv,if_pos rfl]
theorem O7 (cl na sp mt:Addr):(We cl na sp mt).lookup ("names_at":Str)=some (.ref na):=by
 unfold We; rw [Zv,if_neg s_nm,Zv,if_neg s_ns,Zv,if_pos rfl]
theorem Zcm (cl na sp mt:Addr):(We cl na sp mt).lookup ("spots":Str)=some (.ref sp):=by
 unfold We; rw [Zv,if_neg s_sm,Zv,if_pos rfl]
theorem Zj9 (cl na sp mt:Addr):(We cl na sp mt).lookup ("mates":Str)=some (.ref mt):=by
 unfold We; rw [Zv,if_pos rfl]
theorem Yv (cl na sp mt:Addr) {m:Str} (h:m≠"cloths"∧m≠"names_at"∧m≠"spots"∧m≠"mates":=by decide):(We cl na sp mt).lookup m=none:=by
 obtain ⟨h1,h2,h3,h4⟩:=h
 unfold We; rw [Zv,if_neg h4,Zv,if_neg h3,Zv,if_neg h2,Zv,if_neg h1]; rfl
structure TentB (C:Addr) (H:Hp) (p:Addr) (M:List (Option Nat)) (ns:List Int) (dx cl na sp mt:Addr) (o:Obj) (f:Int→Addr):Prop where
 ins:H p=some (.ins C dx (We cl na sp mt))
 rows:Yy H cl ns
 names:H na=some (.lst (ns.map V.int))
 spots:H sp=some (.frz o (.dK (spk ns ns.length f)))
 mates:H mt=some (.lst (M.map mV))
 at':∀ x∈keys ns ns.length,H (f x)=some (.lst ((pl ns ns.length x).map nV))
noncomputable def Zw (C:Addr) (H:Hp) (p:Addr) (M:List (Option Nat)) (ns:List Int):Prop:=∃ dx cl na sp mt o f,TentB C H p M ns dx cl na sp mt o f
theorem Zw.same {C:Addr} {H H':Hp} {p:Addr} {M:List (Option Nat)} {ns:List Int} (h:Zw C H p M ns) (s:Same H H'):Zw C H' p M ns:=by
 obtain ⟨dx,cl,na,sp,mt,o,f,b⟩:=h
 exact ⟨dx,cl,na,sp,mt,o,f,s _ _ b.ins,b.rows.same s,s _ _ b.names,s _ _ b.spots,s _ _ b.mates,fun x hx=>s _ _ (b.at' x hx)⟩
theorem Zaq {ns:List Int} {k n:Nat} (h:ns.length=3 * n) (hk:k < n):(ns.take (3 * k)).map V.int ++ row3 ns k=(ns.take (3 * (k + 1))).map V.int:=by
 have e:ns.take (3 * (k + 1))=ns.take (3 * k) ++ [ns.getD (3 * k) 0,ns.getD (3 * k + 1) 0,ns.getD (3 * k + 2) 0]:=by
  have l0:3 * k < ns.length:=by omega
  have l1:3 * k + 1 < ns.length:=by omega
  have l2:3 * k + 2 < ns.length:=by omega
  have g:∀ i,i < ns.length→ns[i]?=some (ns.getD i 0):=fun i hi=>by rw [List.getD_eq_getElem?_getD,List.getElem?_eq_getElem hi]; rfl
  rw [show 3 * (k + 1)=3 * k + 1 + 1 + 1 by omega,List.take_add_one,List.take_add_one,List.take_add_one,g _ l0,g _ l1,g _ l2,List.append_assoc,List.append_assoc]
  rfl
 rw [e,List.map_append]
 rfl
noncomputable def Za0 (C:Addr):Sp:=fun vs H Q _=>∃ (p r dx:Addr) (M:List (Option Nat)) (ns:List Int),vs=[.ref p,.ref r]∧H p=some (.ins C dx [])∧Yy H r ns∧TD M ns∧ns.length≤120 ∧
 ∀ (H':Hp),(∀ b u,b≠p→H b=some u→H' b=some u)→Zw C H' p M ns→Q .non H'
section
variable {P:Program} {w:World} {K:PySem.W.Frag} {mg:Str→Option Value} {base:Heap} {t:Adr}
theorem Za8:FnScope ["self","rows"] ["self","rows"] (Zg Os):=⟨rfl,rfl,rfl,by decide +kernel,rfl,by decide +kernel,by decide +kernel⟩
theorem Ur (T:Txt w K mg t):FnOk P w K mg base (CXr P w) 2 t.a9 t.bM ["self","rows"] (Za0 t.aa):=by
  refine T.bj.F.aR Za8 (fun cdv A outer s H vs Q E hr h=>?_)
  · obtain ⟨p,r,dx,M,ns,rfl,hp,⟨ts,hr1,hr2,hr3⟩,td,hl,k⟩:=h
    refine ⟨_,(Ze (Yd (Qd (Zbn (pv 1) (fun _=>rfl))) Uk Z3)
      (Ze (Ku (pv 0) (Ys (ts:=["row"]) (fv:=[]) ⟨rfl,by decide +kernel,by decide +kernel,Z6 (by rfl),trivial⟩ rfl (Zz (pv 1)) (fun _ _ _ _=>(Zn (i:=0) (show List.Nodup (["row"]:List Str) from by decide +kernel) rfl (Or.inl rfl) (Or.inr rfl))) (fun _ _ _ _=>Yf) (fun _ _ _=>rfl) (fun _ _ _ _ _ _=>Ya (X8 (Vh K) (by rfl) T.d8 PySem.Pv.boot_tuple (Za (pv 0) Zc)))) rfl)
      (Ze (Ku (pv 0) (Ys (ts:=["row","name"]) (fv:=[]) ⟨rfl,by decide +kernel,by decide +kernel,Z6 (by rfl),trivial⟩ rfl (Zz (Xz (pv 0) rfl)) (fun _ _ _ _=>(Zn (i:=0) (show List.Nodup (["row","name"]:List Str) from by decide +kernel) rfl (Or.inl rfl) (Or.inr rfl))) (fun _ _ _ _=>Yf) (fun _ _ _=>rfl) (fun _ _ _ _ _ _=>Zhd rfl rfl (Zee K (pv 0)) (Zn (i:=1) (show List.Nodup (["row","name"]:List Str) from by decide +kernel) rfl (Or.inl rfl) (Or.inr rfl)) Yf (pv 1))) rfl)
      (Ze (Ku (pv 0) (pcT (Zde T) hr T.cy (Za (Xz (pv 0) rfl) Zc)) rfl)
      (Zh (Ku (pv 0) (pcT (Zdi T) hr T.cz (Za (Xz (pv 0) rfl) (Za (Zl Zk (by rfl) T.ae PySem.boot_len (Za (Xz (pv 0) rfl) Zc)) Zc))) rfl)))))),?_⟩
    obtain ⟨n,n1,n2,hn⟩:=td.n
    have hnn:ns.length=3 * n:=by rw [td.len,hn]
    have htn:ts.length=n:=by omega
    have hrp:r≠p:=fun z=>by rw [z,hp] at hr1; cases hr1
    refine ⟨_,rfl,true,.inl ⟨_,SqL.of hr1,?_⟩,?_⟩
    · cases ts with
      | nil=>simp at htn; omega
      | cons _ _=>rfl
    refine iteF ?_
    dsimp only [Ql]
    refine ⟨_,rfl,r,rfl,⟨_,SqL.of hr1⟩,fun D hD=>?_⟩
    have hDp:D≠p:=fun z=>by rw [z,hp] at hD; cases hD
    refine Z4 (xs:=ts.map V.ref) (fun i σ H1=>∃ (v:Option V),σ=[v]∧Same H H1∧H1 D=some (.lst ((ts.take i).map V.ref))) ⟨none,rfl,Same.new hD,Zb⟩ ?_ ?_ ?_
    · rintro i σ H1 _ ⟨v,rfl,sm,h1⟩
      exact SqL.of (sm _ _ hr1)
    · rintro i x σ H1 hx ⟨v,rfl,sm,h1⟩
      dsimp only [Zm,tYes]
      rw [if_pos rfl]
      obtain ⟨tt,ht,rfl⟩:=map_some hx
      refine ⟨_,rfl,tt,_,rfl,.inr ⟨SqT.of (sm _ _ (hr3 i tt ht)),_,h1,(by rw [List.length_map,List.length_take]; exact Zr (by omega)),_,rfl,Same.add sm hD,?_⟩⟩
      rw [Zb,List.take_add_one,ht,List.map_append]
      rfl
    rintro σ H1 ⟨v,rfl,sm1,h1⟩
    rw [List.length_map,List.take_length] at h1
    have hp1:=sm1 _ _ hp
    refine ⟨_,rfl,p,_,dx,_,rfl,hp1,T.ac,T.aA,by decide,?_⟩
    have old2:∀ b u,b≠p→H b=some u→(upd H1 p (.ins t.aa dx (putF "cloths" (.ref D) []))) b=some u:=fun b u hb e=>by rw [Zd hb]; exact sm1 b u e
    have hD2:(upd H1 p (.ins t.aa dx (putF "cloths" (.ref D) []))) D=some (.lst (ts.map V.ref)):=by rw [Zd hDp]; exact h1
    have hp2:(upd H1 p (.ins t.aa dx (putF "cloths" (.ref D) []))) p=some (.ins t.aa dx (putF "cloths" (.ref D) [])):=Zb
    have ht2:∀ (k:Nat) (q:Addr),ts[k]?=some q→(upd H1 p (.ins t.aa dx (putF "cloths" (.ref D) []))) q=some (.tup (row3 ns k)):=fun k q e=>by
      have e1:=hr3 k q e
      have:q≠p:=fun z=>by rw [z,hp] at e1; cases e1
      exact old2 q _ this e1
    generalize upd H1 p (.ins t.aa dx (putF "cloths" (.ref D) []))=H2 at old2 hD2 hp2 ht2 ⊢
    refine ⟨_,rfl,p,_,dx,_,_,rfl,hp2,T.ac,T.aA,rfl,D,rfl,⟨_,SqL.of hD2⟩,fun N hN=>?_⟩
    have hND:N≠D:=fun z=>by rw [z,hD2] at hN; cases hN
    have hNp:N≠p:=fun z=>by rw [z,hp2] at hN; cases hN
    refine Z4 (xs:=ts.map V.ref) (fun i σ H3=>∃ (v v':Option V),σ=[v,v']∧Same H2 H3∧H3 N=some (.lst ((ns.take (3 * i)).map V.int))) ⟨none,none,rfl,Same.new hN,Zb⟩ ?_ ?_ ?_
    · rintro i σ H3 _ ⟨v,v',rfl,sm,h3⟩
      exact SqL.of (sm _ _ hD2)
    · rintro i x σ H3 hx ⟨v,v',rfl,sm,h3⟩
      dsimp only [Zm,tYes]
      rw [if_pos rfl]
      obtain ⟨tt,ht,rfl⟩:=map_some hx
      have hi:i < n:=by rw [← htn]; exact (List.getElem?_eq_some_iff.mp ht).1
      refine ⟨_,rfl,tt,rfl,⟨_,SqT.of (sm _ _ (ht2 i tt ht))⟩,?_⟩
      refine Zcb (xs:=row3 ns i) (fun j σ H4=>∃ (v':Option V),σ=[some (.ref tt),v']∧Same H2 H4∧H4 N=some (.lst ((ns.take (3 * i)).map V.int ++ (row3 ns i).take j))) ⟨v',rfl,sm,by rw [h3,List.take_zero,List.append_nil]⟩ ?_ ?_ ?_
      · rintro j σ H4 _ ⟨v',rfl,sm,h4⟩
        exact SqT.of (sm _ _ (ht2 i tt ht))
      · rintro j x σ H4 hx ⟨v',rfl,sm,h4⟩
        dsimp only [Zm,tYes]
        rw [if_pos rfl]
        refine ⟨_,rfl,_,h4,?_,_,rfl,Same.add sm hN,?_⟩
        · rw [List.length_append,List.length_map,List.length_take,List.length_take]
          exact Zr (by have:(row3 ns i).length=3:=rfl; omega)
        · rw [Zb,List.take_add_one,hx,← List.append_assoc]
          rfl
      · rintro σ H4 ⟨v',rfl,sm,h4⟩
        refine ⟨_,_,rfl,sm,?_⟩
        rw [h4,List.take_length,Zaq hnn hi]
    rintro σ H3 ⟨v,v',rfl,sm3,h3⟩
    have eall:ns.take (3 * (ts.map V.ref).length)=ns:=by rw [List.length_map,htn,← hnn,List.take_length]
    rw [eall] at h3
    have hp3:=sm3 _ _ hp2
    refine ⟨_,rfl,p,_,dx,_,rfl,hp3,T.ac,T.ag,(by have h1:=Ws "cloths" (.ref D) []; simp only [List.length_nil] at h1; omega),?_⟩
    have old4:∀ b u,b≠p→H2 b=some u→(upd H3 p (.ins t.aa dx (putF "names_at" (.ref N) (putF "cloths" (.ref D) [])))) b=some u:=fun b u hb e=>by rw [Zd hb]; exact sm3 b u e
    have hN4:(upd H3 p (.ins t.aa dx (putF "names_at" (.ref N) (putF "cloths" (.ref D) [])))) N=some (.lst (ns.map V.int)):=by rw [Zd hNp]; exact h3
    have hp4:(upd H3 p (.ins t.aa dx (putF "names_at" (.ref N) (putF "cloths" (.ref D) [])))) p=some (.ins t.aa dx (putF "names_at" (.ref N) (putF "cloths" (.ref D) []))):=Zb
    generalize upd H3 p (.ins t.aa dx (putF "names_at" (.ref N) (putF "cloths" (.ref D) [])))=H4 at old4 hN4 hp4 ⊢
    have lk1:(putF "names_at" (.ref N) (putF "cloths" (.ref D) [])).lookup ("names_at":Str)=some (.ref N):=by rw [Zv,if_pos rfl]
    refine ⟨_,rfl,p,_,dx,_,_,rfl,hp4,T.ac,T.ag,lk1,N,M,ns,rfl,hN4,td,hl,fun d f H5 sm5 hd5 hd5' sf hf0=>?_⟩
    have hp5:=sm5 _ _ hp4
    refine ⟨_,rfl,p,_,dx,_,rfl,hp5,T.ac,T.aD,(by have h1:=Ws "cloths" (.ref D) []; have h2:=Ws "names_at" (.ref N) (putF "cloths" (.ref D) []); simp only [List.length_nil] at h1; omega),?_⟩
    have hdp:d≠p:=fun z=>by rw [z,hp4] at hd5; cases hd5
    have hfp:∀ x∈keys ns ns.length,f x≠p:=fun x hx z=>by have:=hf0 x hx; rw [z,hp4] at this; cases this
    have old6:∀ b u,b≠p→H4 b=some u→(upd H5 p (.ins t.aa dx (putF "spots" (.ref d) (putF "names_at" (.ref N) (putF "cloths" (.ref D) []))))) b=some u:=fun b u hb e=>by rw [Zd hb]; exact sm5 b u e
    have hp6:(upd H5 p (.ins t.aa dx (putF "spots" (.ref d) (putF "names_at" (.ref N) (putF "cloths" (.ref D) []))))) p=some (.ins t.aa dx (putF "spots" (.ref d) (putF "names_at" (.ref N) (putF "cloths" (.ref D) [])))):=Zb
    have hd6:(upd H5 p (.ins t.aa dx (putF "spots" (.ref d) (putF "names_at" (.ref N) (putF "cloths" (.ref D) []))))) d=some (.dK (spk ns ns.length f)):=by rw [Zd hdp]; exact hd5'
    have sf6:SpotsF (upd H5 p (.ins t.aa dx (putF "spots" (.ref d) (putF "names_at" (.ref N) (putF "cloths" (.ref D) []))))) ns ns.length f:=⟨sf.inj,fun x hx=>by rw [Zd (hfp x hx)]; exact sf.at' x hx⟩
    generalize upd H5 p (.ins t.aa dx (putF "spots" (.ref d) (putF "names_at" (.ref N) (putF "cloths" (.ref D) []))))=H6 at old6 hp6 hd6 sf6 ⊢
    have lk2:(putF "spots" (.ref d) (putF "names_at" (.ref N) (putF "cloths" (.ref D) []))).lookup ("spots":Str)=some (.ref d):=by rw [Zv,if_pos rfl]
    have lk3:(putF "spots" (.ref d) (putF "names_at" (.ref N) (putF "cloths" (.ref D) []))).lookup ("names_at":Str)=some (.ref N):=by rw [Zv,if_neg s_ns,Zv,if_pos rfl]
    have hN6:=old6 _ _ hNp hN4
    have eln:(((ns.map V.int).length:Nat):Int)=(ns.length:Nat):=by rw [List.length_map]
    refine ⟨_,rfl,p,_,dx,_,_,rfl,hp6,T.ac,T.aD,lk2,_,rfl,p,_,dx,_,_,rfl,hp6,T.ac,T.ag,lk3,N,_,rfl,.inl (SqL.of hN6),d,M,ns,f,(by rw [eln]; rfl),hd6,sf6,td,hl,fun m o H7 old7 hm7 hmm hdd=>?_⟩
    have hpd:p≠d:=Ne.symm hdp
    have hp7:=old7 _ _ hpd hp6
    refine ⟨_,rfl,p,_,dx,_,rfl,hp7,T.ac,T.bC,(by have h1:=Ws "cloths" (.ref D) []; have h2:=Ws "names_at" (.ref N) (putF "cloths" (.ref D) []); have h3:=Ws "spots" (.ref d) (putF "names_at" (.ref N) (putF "cloths" (.ref D) [])); simp only [List.length_nil] at h1; omega),?_⟩
    have hmp:m≠p:=fun z=>by rw [z,hp6] at hm7; cases hm7
    have dN:N≠d:=fun z=>by rw [z,hd6] at hN6; cases hN6
    have old8:∀ b u,b≠p→b≠d→H6 b=some u→(upd H7 p (.ins t.aa dx (We D N d m))) b=some u:=fun b u hb hbd e=>by rw [Zd hb]; exact old7 b u hbd e
    have old46:∀ b u,b≠p→H4 b=some u→H6 b=some u∧b≠d:=fun b u hb e=>⟨old6 b u hb e,fun z=>by rw [z,hd5] at e; cases e⟩
    have old28:∀ b u,b≠p→H2 b=some u→(upd H7 p (.ins t.aa dx (We D N d m))) b=some u:=fun b u hb e=>by
      obtain ⟨e6,hbd⟩:=old46 b u hb (old4 b u hb e)
      exact old8 b u hb hbd e6
    refine k _ (fun b u hb e=>old28 b u hb (old2 b u hb e)) ⟨dx,D,N,d,m,o,f,Zb,⟨ts,old28 _ _ hDp hD2,by omega,fun k q e=>?_⟩,?_,?_,?_,?_⟩
    · have e1:=ht2 k q e
      exact old28 q _ (fun z=>by rw [z,hp2] at e1; cases e1) e1
    · exact old8 _ _ hNp dN hN6
    · rw [Zd hdp]; exact hdd
    · rw [Zd hmp]; exact hmm
    · intro x hx
      have e1:=sf6.at' x hx
      exact old8 _ _ (hfp x hx) (fun z=>by rw [z,hd6] at e1; cases e1) e1
end
end KT
set_option maxHeartbeats 4000000
namespace KT
open PySem L2
noncomputable def Yj (ns:List Int) (x:Int):Str:=match pl ns ns.length x with
 | [a,b]=>if a / 3=b / 3 then "locked" else "free"
 | _=>"rim"
noncomputable def Zi4:Sp:=fun vs H Q _=>∃ p:Int,vs=[.int p]∧Q (.int (after p)) H
noncomputable def Zgp:Sp:=fun vs H Q _=>∃ p:Int,vs=[.int p]∧Q (.int (before p)) H
noncomputable def Zda:Sp:=fun vs H Q _=>∃ p:Int,vs=[.int p]∧Q (.int (p / 3)) H
noncomputable def Zay (C:Addr):Sp:=fun vs H Q _=>∃ (p:Addr) (M:List (Option Nat)) (ns:List Int),vs=[.ref p]∧Zw C H p M ns ∧
 ∀ (l:Addr) (ts:List Addr),H l=none→ns.length=3 * ts.length→(∀ (k:Nat) (t:Addr),ts[k]?=some t→H t=some (.tup (row3 ns k)))→Q (.ref l) (upd H l (.lst (ts.map V.ref)))
noncomputable def Zax (C:Addr):Sp:=fun vs H Q _=>∃ (p:Addr) (M:List (Option Nat)) (ns:List Int) (n:Nat),vs=[.ref p]∧Zw C H p M ns∧ns.length=3 * n∧Q (.int n) H
noncomputable def Of (C:Addr):Sp:=fun vs H Q _=>∃ (p:Addr) (M:List (Option Nat)) (ns:List Int) (x:Int),vs=[.ref p,.int x]∧Zw C H p M ns∧Q (.bl (decide (0≤x∧x < ns.length))) H
noncomputable def V9 (C EP:Addr):Sp:=fun vs H Q E=>∃ (p:Addr) (M:List (Option Nat)) (ns:List Int) (x:Int),vs=[.ref p,.int x]∧Zw C H p M ns∧(0≤x∧x < ns.length→Q .non H)∧(¬ (0≤x∧x < ns.length)→E (.ref EP) none H)
noncomputable def Kd (C EP:Addr):Sp:=fun vs H Q E=>∃ (p:Addr) (M:List (Option Nat)) (ns:List Int) (x:Int),vs=[.ref p,.int x]∧Zw C H p M ns∧(∀ (i:Nat) (y:Int),x=i→ns[i]?=some y→Q (.int y) H)∧(¬ (0≤x∧x < ns.length)→E (.ref EP) none H)
noncomputable def Zaz (C EP:Addr):Sp:=fun vs H Q E=>∃ (p:Addr) (M:List (Option Nat)) (ns:List Int) (x:Int),vs=[.ref p,.int x]∧Zw C H p M ns∧M.length=ns.length∧(∀ (i:Nat) (y:Option Nat),x=i→M[i]?=some y→Q (mV y) H)∧(¬ (0≤x∧x < ns.length)→E (.ref EP) none H)
noncomputable def Ge (C ES:Addr):Sp:=fun vs H Q E=>∃ (p:Addr) (M:List (Option Nat)) (ns:List Int) (x:Int),vs=[.ref p,.int x]∧Zw C H p M ns∧(x∈keys ns ns.length→∀ l,H l=none→Q (.ref l) (upd H l (.lst ((pl ns ns.length x).map nV))))∧(x ∉ keys ns ns.length→E (.ref ES) none H)
noncomputable def Kc (C ES:Addr):Sp:=fun vs H Q E=>∃ (p:Addr) (M:List (Option Nat)) (ns:List Int) (x:Int),vs=[.ref p,.int x]∧Zw C H p M ns∧TD M ns∧(x∈keys ns ns.length→∀ H',Same H H'→Q (.str (Yj ns x)) H')∧(x ∉ keys ns ns.length→E (.ref ES) none H)
section
variable {P:Program} {w:World} {K:PySem.W.Frag} {mg:Str→Option Value} {base:Heap} {t:Adr}
theorem Zi8:FnScope ["place"] ["place"] (Zg Zd5):=⟨rfl,rfl,rfl,by decide +kernel,rfl,by decide +kernel,by decide +kernel⟩
theorem Qh (T:Txt w K mg t):FnOk P w K mg base (CXr P w) 1 t.dM t.dR ["place"] Zi4:=by
 refine T.bq.F.aR Zi8 (fun cdv A outer s H vs Q E hr h=>?_)
 ·obtain ⟨p,rfl,k⟩:=h
  refine ⟨_,(Zh (Zp (Zbq (Zq X4 (Zj Zy (pv 0) Zf) Zf (Zu _)) (Zj Wn (pv 0) Zf) (Zj Z8 (pv 0) Zf)))),?_⟩
  refine ⟨_,rfl,_,_,rfl,rfl,(by show (0:Int) < 3; decide),rfl,_,rfl,?_⟩
  refine ite2 (fun h=>?_) (fun h=>?_)
  ·have h:p % 3=2:=by simpa using h
   refine ⟨_,rfl,_,_,rfl,rfl,?_⟩
   have e:after p=p - 2:=if_pos h
   rw [e] at k; exact k
  ·have h:¬ p % 3=2:=by simpa using h
   refine ⟨_,rfl,_,_,rfl,rfl,?_⟩
   have e:after p=p + 1:=if_neg h
   rw [e] at k; exact k
theorem Zgw:FnScope ["place"] ["place"] (Zg Zbj):=⟨rfl,rfl,rfl,by decide +kernel,rfl,by decide +kernel,by decide +kernel⟩
theorem Fc (T:Txt w K mg t):FnOk P w K mg base (CXr P w) 1 t.cX t.dg ["place"] Zgp:=by
 refine T.cx.F.aR Zgw (fun cdv A outer s H vs Q E hr h=>?_)
 ·obtain ⟨p,rfl,k⟩:=h
  refine ⟨_,(Zh (Zp (Zbq (Zq X4 (Zj Zy (pv 0) Zf) Zf (Zu _)) (Zj Z8 (pv 0) Zf) (Zj Wn (pv 0) Zf)))),?_⟩
  refine ⟨_,rfl,_,_,rfl,rfl,(by show (0:Int) < 3; decide),rfl,_,rfl,?_⟩
  refine ite2 (fun h=>?_) (fun h=>?_)
  ·have h:p % 3=0:=by simpa using h
   refine ⟨_,rfl,_,_,rfl,rfl,?_⟩
   have e:before p=p + 2:=if_pos h
   rw [e] at k; exact k
  ·have h:¬ p % 3=0:=by simpa using h
   refine ⟨_,rfl,_,_,rfl,rfl,?_⟩
   have e:before p=p - 1:=if_neg h
   rw [e] at k; exact k
theorem Zdc:FnScope ["place"] ["place"] (Zg Kq):=⟨rfl,rfl,rfl,by decide +kernel,rfl,by decide +kernel,by decide +kernel⟩
theorem X1 (T:Txt w K mg t):FnOk P w K mg base (CXr P w) 1 t.bZ t.ci ["place"] Zda:=by
 refine T.au.F.aR Zdc (fun cdv A outer s H vs Q E hr h=>?_)
 ·obtain ⟨p,rfl,k⟩:=h
  refine ⟨_,(Zh (Zp (Zj Y2 (pv 0) Zf))),?_⟩
  exact ⟨_,rfl,_,_,rfl,rfl,⟨by decide,by decide⟩,k⟩
theorem Za6:FnScope ["self"] ["self"] (Zg Op):=⟨rfl,rfl,rfl,by decide +kernel,rfl,by decide +kernel,by decide +kernel⟩
theorem Zb0 (T:Txt w K mg t):FnOk P w K mg base (CXr P w) 1 t.bG t.bO ["self"] (Zay t.aa):=by
 refine T.bn.F.aR Za6 (fun cdv A outer s H vs Q E hr h=>?_)
 ·obtain ⟨p,M,ns,rfl,⟨dx,cl,na,sp,mt,o,f,b⟩,k⟩:=h
  refine ⟨_,(Zh (Zp (X8 W7 (by rfl) T.aH PySem.Pv.boot_list (Za (Xz (pv 0) rfl) Zc)))),?_⟩
  obtain ⟨ts,h1,h2,h3⟩:=b.rows
  exact ⟨_,rfl,p,_,dx,_,_,rfl,b.ins,T.ac,T.aA,Fo ..,cl,_,rfl,.inl (SqL.of h1),fun l hl=>k l ts hl h2 h3⟩
theorem Za5:FnScope ["self"] ["self"] (Zg Oo):=⟨rfl,rfl,rfl,by decide +kernel,rfl,by decide +kernel,by decide +kernel⟩
theorem Zbz (T:Txt w K mg t):FnOk P w K mg base (CXr P w) 1 t.bH t.bP ["self"] (Zax t.aa):=by
 refine T.bo.F.aR Za5 (fun cdv A outer s H vs Q E hr h=>?_)
 ·obtain ⟨p,M,ns,n,rfl,⟨dx,cl,na,sp,mt,o,f,b⟩,hn,k⟩:=h
  refine ⟨_,(Zh (Zp (Zl Zk (by rfl) T.ae PySem.boot_len (Za (Xz (pv 0) rfl) Zc)))),?_⟩
  obtain ⟨ts,h1,h2,h3⟩:=b.rows
  refine ⟨_,rfl,p,_,dx,_,_,rfl,b.ins,T.ac,T.aA,Fo ..,cl,_,rfl,.inl (SqL.of h1),?_⟩
  have:(ts.map V.ref).length=n:=by rw [List.length_map]; omega
  rw [this]; exact k
theorem Og:FnScope ["self","place"] ["self","place"] (Zg Qb):=⟨rfl,rfl,rfl,by decide +kernel,rfl,by decide +kernel,by decide +kernel⟩
theorem Oh (T:Txt w K mg t):FnOk P w K mg base (CXr P w) 1 t.aP t.aU ["self","place"] (Of t.aa):=by
 refine T.az.F.aR Og (fun cdv A outer s H vs Q E hr h=>?_)
 ·obtain ⟨p,M,ns,x,rfl,⟨dx,cl,na,sp,mt,o,f,b⟩,k⟩:=h
  refine ⟨_,(Zh (Zp (Zjj Zny Vt Zf (pv 1) (Zl Zk (by rfl) T.ae PySem.boot_len (Za (Xz (pv 0) rfl) Zc))))),?_⟩
  refine ⟨_,rfl,_,_,rfl,rfl,_,rfl,?_⟩
  refine ite2 (fun h=>?_) (fun h=>?_)
  ·have h:0≤x:=of_decide_eq_true h
   refine ⟨_,rfl,p,_,dx,_,_,rfl,b.ins,T.ac,T.ag,O7 ..,na,_,rfl,.inl (SqL.of b.names),_,_,rfl,rfl,?_⟩
   have:decide (x < (((ns.map V.int).length:Nat):Int))=decide (0≤x∧x < (ns.length:Int)):=by rw [List.length_map]; simp [h]
   show Q (V.bl (decide (x < (((ns.map V.int).length:Nat):Int)))) H
   rw [this]; exact k
  ·have h:¬ 0≤x:=fun z=>h (decide_eq_true z)
   have:decide (0≤x∧x < (ns.length:Int))=false:=decide_eq_false fun z=>h z.1
   rw [this] at k; exact k
theorem Uc:FnScope ["self","place"] ["self","place"] (Zg Js):=⟨rfl,rfl,rfl,by decide +kernel,rfl,by decide +kernel,by decide +kernel⟩
theorem Jo (T:Txt w K mg t):FnOk P w K mg base (CXr P w) 2 t.aJ t.aM ["self","place"] (V9 t.aa t.aQ):=by
 refine T.ai.F.aX Uc (fun cdv A outer s H vs Q E hr h=>?_)
 ·obtain ⟨p,M,ns,x,rfl,ta,k1,k2⟩:=h
  obtain ⟨dx,cl,na,sp,mt,o,f,b⟩:=id ta
  refine ⟨_,(Yr (Uj (Qd (Wz (Wv (pv 0) T.ac T.az.m (Oh T) (hr.mono (by decide)) T.az.b .nil Y6 (Za (pv 1) Zc)))) (Yr (Jn T.d9 FBV rfl T.dL rfl (Za Xp Zc))) Qe)),?_⟩
  refine ⟨_,rfl,p,dx,_,rfl,b.ins,Yv _ _ _ _,_,rfl,p,M,ns,x,rfl,ta,_,rfl,?_⟩
  by_cases c:0≤x∧x < (ns.length:Int)
  ·rw [decide_eq_true c]
   exact iteF (k1 c)
  ·rw [decide_eq_false c]
   exact iteT ⟨by decide,k2 c⟩
theorem Kg:FnScope ["self","place"] ["self","place"] (Zg Q3):=⟨rfl,rfl,rfl,by decide +kernel,rfl,by decide +kernel,by decide +kernel⟩
theorem Qq (T:Txt w K mg t):FnOk P w K mg base (CXr P w) 3 t.bb t.be ["self","place"] (Kd t.aa t.aQ):=by
 refine T.ao.F.aX Kg (fun cdv A outer s H vs Q E hr h=>?_)
 ·obtain ⟨p,M,ns,x,rfl,ta,k1,k2⟩:=h
  obtain ⟨dx,cl,na,sp,mt,o,f,b⟩:=id ta
  refine ⟨_,(Yb (Vo (Vr (pv 0) T.ac T.ai.m (Jo T) (hr.mono (by decide)) T.ai.b .nil (Za (pv 1) Zc)))
   (Yr (Xm (Zp (Zs Zt (Xz (pv 0) rfl) (pv 1) (fun _ _=>rfl)))))),?_⟩
  refine ⟨_,rfl,p,dx,_,rfl,b.ins,Yv _ _ _ _,_,rfl,p,M,ns,x,rfl,ta,fun c=>?_,k2⟩
  have hi:x.toNat < ns.length:=by omega
  obtain ⟨y,hy⟩:∃ y,ns[x.toNat]?=some y:=⟨_,List.getElem?_eq_getElem hi⟩
  have ex:x=(x.toNat:Int):=by omega
  refine ⟨_,rfl,p,_,dx,_,_,rfl,b.ins,T.ac,T.ag,O7 ..,_,rfl,na,_,_,_,rfl,rfl,SqL.of b.names,(by rw [ex]; exact Yu hy),k1 _ _ ex hy⟩
theorem Za7:FnScope ["self","place"] ["self","place"] (Zg Oq):=⟨rfl,rfl,rfl,by decide +kernel,rfl,by decide +kernel,by decide +kernel⟩
theorem W3 (T:Txt w K mg t):FnOk P w K mg base (CXr P w) 3 t.bI t.bQ ["self","place"] (Zaz t.aa t.aQ):=by
 refine T.aj.F.aX Za7 (fun cdv A outer s H vs Q E hr h=>?_)
 ·obtain ⟨p,M,ns,x,rfl,ta,hlen,k1,k2⟩:=h
  obtain ⟨dx,cl,na,sp,mt,o,f,b⟩:=id ta
  refine ⟨_,(Yb (Vo (Vr (pv 0) T.ac T.ai.m (Jo T) (hr.mono (by decide)) T.ai.b .nil (Za (pv 1) Zc)))
   (Yr (Xm (Zp (Zs Zt (Xz (pv 0) rfl) (pv 1) (fun _ _=>rfl)))))),?_⟩
  refine ⟨_,rfl,p,dx,_,rfl,b.ins,Yv _ _ _ _,_,rfl,p,M,ns,x,rfl,ta,fun c=>?_,k2⟩
  have hi:x.toNat < M.length:=by omega
  obtain ⟨y,hy⟩:∃ y,M[x.toNat]?=some y:=⟨_,List.getElem?_eq_getElem hi⟩
  have ex:x=(x.toNat:Int):=by omega
  refine ⟨_,rfl,p,_,dx,_,_,rfl,b.ins,T.ac,T.bC,Zj9 ..,_,rfl,mt,_,_,_,rfl,rfl,SqL.of b.mates,(by rw [ex]; exact Yu hy),k1 _ _ ex hy⟩
theorem Gf:FnScope ["self","seam"] ["self","seam"] (Zg V3):=⟨rfl,rfl,rfl,by decide +kernel,rfl,by decide +kernel,by decide +kernel⟩
theorem Q8 (T:Txt w K mg t):FnOk P w K mg base (CXr P w) 1 t.br t.bt ["self","seam"] (Ge t.aa t.aC):=by
 refine T.ap.F.aX Gf (fun cdv A outer s H vs Q E hr h=>?_)
 ·obtain ⟨p,M,ns,x,rfl,ta,k1,k2⟩:=h
  obtain ⟨dx,cl,na,sp,mt,o,f,b⟩:=id ta
  have hu:=Zkq hr
  refine ⟨_,(Yb (Uj (Zg4 (Zhc hu (pv 1) (Xz (pv 0) rfl)) (by with_unfolding_all rfl)) (Yr (Jn T.eE FBV rfl T.ee rfl (Za Xp Zc))) Qe)
   (Yr (Xm (Zp (X8 W7 (by rfl) T.aH PySem.Pv.boot_list (Za (Zei hu (Xz (pv 0) rfl) (pv 1) (fun _ _=>rfl)) Zc)))))),?_⟩
  have hg:DGet H sp (.int x) (if x∈keys ns ns.length then some (V.ref (f x)) else none):=.inl ⟨_,Sum.inl x,.inr ⟨o,b.spots⟩,rfl,by unfold spk; rw [J4]⟩
  refine ⟨_,rfl,_,rfl,p,_,dx,_,_,rfl,b.ins,T.ac,T.aD,Zcm ..,sp,_,rfl,hg,_,rfl,?_⟩
  by_cases c:x∈keys ns ns.length
  ·rw [if_pos c] at hg ⊢
   refine iteF ?_
   exact ⟨_,rfl,p,_,dx,_,_,rfl,b.ins,T.ac,T.aD,Zcm ..,_,rfl,sp,_,rfl,hg,f x,_,rfl,.inl (SqL.of (b.at' x c)),k1 c⟩
  ·rw [if_neg c] at hg ⊢
   exact iteT ⟨by decide,k2 c⟩
theorem Qn:FnScope ["self","seam","spots"] ["self","seam"] (Zg Q2):=⟨rfl,rfl,rfl,by decide +kernel,rfl,by decide +kernel,by decide +kernel⟩
theorem Kx (T:Txt w K mg t):FnOk P w K mg base (CXr P w) 2 t.bd t.bf ["self","seam"] (Kc t.aa t.aC):=by
 refine T.aG.F.aX Qn (fun cdv A outer s H vs Q E hr h=>?_)
 ·obtain ⟨p,M,ns,x,rfl,ta,td,k1,k2⟩:=h
  obtain ⟨dx,cl,na,sp,mt,o,f,b⟩:=id ta
  refine ⟨_,(Yb (Gj (i:=2) Qn.nd rfl (Or.inl rfl) (Vr (pv 0) T.ac T.ap.m (Q8 T) (hr.mono (by decide)) T.ap.b .nil (Za (pv 1) Zc)))
   (Yb (Xm (Yd (Zq X4 (Zl Zk (by rfl) T.ae PySem.boot_len (Za (pv 2) Zc)) Zf (Zu _)) (Zh (Zp Xp)) Z3))
   (Yb (Xm (Yd (Zq X4 (pcT (X1 T) hr T.au (Za (Zs Zt (pv 2) Zf (fun _ _=>rfl)) Zc)) (pcT (X1 T) hr T.au (Za (Zs Zt (pv 2) Zf (fun _ _=>rfl)) Zc)) (Zu _)) (Zh (Zp Xp)) Z3))
   (Yr (Xm (Zp Xp)))))),?_⟩
  refine ⟨_,rfl,p,dx,_,rfl,b.ins,Yv _ _ _ _,_,rfl,p,M,ns,x,rfl,ta,fun c l hl=>?_,k2⟩
  have k1':=k1 c _ (Same.new (o:=.lst ((pl ns ns.length x).map nV)) hl)
  refine ⟨_,rfl,l,_,rfl,.inl (SqL.of Zb),rfl,_,rfl,?_⟩
  rcases Vq td c with ⟨a,e,_⟩ | ⟨a,b',hab,e,_⟩
  ·rw [e] at k1' ⊢
   refine iteT ?_
   have:Yj ns x="rim":=by unfold Yj; rw [e]
   rw [this] at k1'
   exact k1'
  ·rw [e] at k1' ⊢
   refine iteF ?_
   refine ⟨_,rfl,l,_,_,_,rfl,rfl,SqL.of Zb,rfl,_,rfl,_,rfl,l,_,_,_,rfl,rfl,SqL.of Zb,rfl,_,rfl,rfl,_,rfl,?_⟩
   by_cases q:a / 3=b' / 3
   ·have:Yj ns x="locked":=by unfold Yj; rw [e]; exact if_pos q
    rw [this] at k1'
    rw [decide_eq_true (by congr 1; omega)]
    exact iteT k1'
   ·have:Yj ns x="free":=by unfold Yj; rw [e]; exact if_neg q
    rw [this] at k1'
    rw [decide_eq_false (fun z=>q (by injection z; omega))]
    exact iteF k1'
end
end KT
set_option maxHeartbeats 4000000
namespace KT
open PySem L2
noncomputable def Zav (C ES ER EL:Addr):Sp:=fun vs H Q E=>∃ (p:Addr) (M:List (Option Nat)) (ns:List Int) (x:Int),vs=[.ref p,.int x]∧Zw C H p M ns∧TD M ns ∧
 (x∈keys ns ns.length→∀ H',Same H H'→(Yj ns x="rim"→E (.ref ER) none H')∧(Yj ns x="locked"→E (.ref EL) none H')∧(Yj ns x="free"→Q .non H'))∧(x ∉ keys ns ns.length→E (.ref ES) none H)
noncomputable def sqr (a b:Nat):List V:=[.int (after a),.int (before a),.int (after b),.int (before b)]
noncomputable def Zgk (C ES ER EL:Addr):Sp:=fun vs H Q E=>∃ (p:Addr) (M:List (Option Nat)) (ns:List Int) (x:Int),vs=[.ref p,.int x]∧Zw C H p M ns∧TD M ns ∧
 (x∈keys ns ns.length→∀ H',Same H H'→(Yj ns x="rim"→E (.ref ER) none H')∧(Yj ns x="locked"→E (.ref EL) none H')∧(∀ a b l,pl ns ns.length x=[a,b]→a < b→M[a]?=some (some b)→a / 3≠b / 3→H l=none→H' l=some (.tup (sqr a b))→Q (.ref l) H'))∧(x ∉ keys ns ns.length→E (.ref ES) none H)
theorem Ke {M:List (Option Nat)} {ns:List Int} (td:TD M ns) {x:Int} (hx:x∈keys ns ns.length) :
  (Yj ns x="rim"∧∃ a,pl ns ns.length x=[a]∧M[a]?=some none)∨(Yj ns x="locked"∧∃ a b,a < b∧pl ns ns.length x=[a,b]∧M[a]?=some (some b)∧a / 3=b / 3)∨(Yj ns x="free"∧∃ a b,a < b∧pl ns ns.length x=[a,b]∧M[a]?=some (some b)∧a / 3≠b / 3):=by
 rcases Vq td hx with ⟨a,e,_,ma⟩ | ⟨a,b,hab,e,_,_,ma,_⟩
 ·exact .inl ⟨by unfold Yj; rw [e],a,e,ma⟩
 ·by_cases c:a / 3=b / 3
  ·exact .inr (.inl ⟨by unfold Yj; rw [e]; exact if_pos c,a,b,hab,e,ma,c⟩)
  ·exact .inr (.inr ⟨by unfold Yj; rw [e]; exact if_neg c,a,b,hab,e,ma,c⟩)
theorem t_rf:¬ (("rim":Str))="free":=by decide
theorem t_lf:¬ (("locked":Str))="free":=by decide
theorem t_lr:¬ (("locked":Str))="rim":=by decide
theorem t_fr:¬ (("free":Str))="rim":=by decide
theorem t_fl:¬ (("free":Str))="locked":=by decide
theorem Kb {x y:Str} (h:¬ x=y):decide (V.str x=V.str y)=false:=decide_eq_false fun z=>h (by injection z)
theorem Zgi {x:Str}:decide (V.str x=V.str x)=true:=decide_eq_true rfl
section
variable {P:Program} {w:World} {K:PySem.W.Frag} {mg:Str→Option Value} {base:Heap} {t:Adr}
theorem Ub:FnScope ["tent","seam","sort"] ["tent","seam"] (Zg Oj):=⟨rfl,rfl,rfl,by decide +kernel,rfl,by decide +kernel,by decide +kernel⟩
theorem Zbv (T:Txt w K mg t):FnOk P w K mg base (CXr P w) 3 t.bJ t.bR ["tent","seam"] (Zav t.aa t.aC t.cJ t.aS):=by
 refine T.bU.F.aX Ub (fun cdv A outer s H vs Q E hr h=>?_)
 ·obtain ⟨p,M,ns,x,rfl,ta,td,k1,k2⟩:=h
  obtain ⟨dx,cl,na,sp,mt,o,f,b⟩:=id ta
  refine ⟨_,(Yb (Gj (i:=2) Ub.nd rfl (Or.inl rfl) (Vr (pv 0) T.ac T.aG.m (Kx T) (hr.mono (by decide)) T.aG.b .nil (Za (pv 1) Zc)))
   (Yb (Uj (Zq X4 (pv 2) Xp (Zu _)) (Yr (Jn T.eY FBV rfl T.eR rfl (Za Xp Zc))) Qe)
   (Yr (Uj (Zq X4 (pv 2) Xp (Zu _)) (Yr (Jn T.eF FBV rfl T.ef rfl (Za Xp Zc))) Qe)))),?_⟩
  refine ⟨_,rfl,p,dx,_,rfl,b.ins,Yv _ _ _ _,_,rfl,p,M,ns,x,rfl,ta,td,fun c H' sm=>?_,k2⟩
  obtain ⟨j1,j2,j3⟩:=k1 c H' sm
  refine ⟨_,rfl,rfl,_,rfl,?_⟩
  rcases Ke td c with ⟨e,_⟩ | ⟨e,_⟩ | ⟨e,_⟩
  ·rw [e,Zgi]
   exact iteT ⟨by decide,j1 e⟩
  ·rw [e,Kb t_lr]
   refine iteF ⟨_,rfl,rfl,_,rfl,?_⟩
   rw [Zgi]
   exact iteT ⟨by decide,j2 e⟩
  ·rw [e,Kb t_fr]
   refine iteF ⟨_,rfl,rfl,_,rfl,?_⟩
   rw [Kb t_fl]
   exact iteF (j3 e)
theorem Ua:FnScope ["tent","seam","lesser","greater"] ["tent","seam"] (Zg Za9):=⟨rfl,rfl,rfl,by decide +kernel,rfl,by decide +kernel,by decide +kernel⟩
theorem Zhj (T:Txt w K mg t):FnOk P w K mg base (CXr P w) 4 t.cZ t.di ["tent","seam"] (Zgk t.aa t.aC t.cJ t.aS):=by
 refine T.dA.F.aX Ua (fun cdv A outer s H vs Q E hr h=>?_)
 ·obtain ⟨p,M,ns,x,rfl,ta,td,k1,k2⟩:=h
  refine ⟨_,(Yb (Vo (pxT (Zbv T) hr T.bU (Za (pv 0) (Za (pv 1) Zc))))
   (Yb (Xm (Xn (Wv (pv 0) T.ac T.ap.m (Q8 T) (hr.mono (by decide)) T.ap.b .nil Y6 (Za (pv 1) Zc)) (Zmw rfl (Z5 (Zn (i:=2) Ua.nd rfl (Or.inl rfl)) (Z5 (Zn (i:=3) Ua.nd rfl (Or.inl rfl)) Wf)))))
   (Yr (Xm (Zp (Xo (Za (pcT (Qh T) hr T.bq (Za (pv 2) Zc)) (Za (pcT (Fc T) hr T.cx (Za (pv 2) Zc)) (Za (pcT (Qh T) hr T.bq (Za (pv 3) Zc)) (Za (pcT (Fc T) hr T.cx (Za (pv 3) Zc)) Zc)))))))))),?_⟩
  refine ⟨_,rfl,_,rfl,p,M,ns,x,rfl,ta,td,fun c H' sm=>⟨(k1 c H' sm).1,(k1 c H' sm).2.1,fun e=>?_⟩,k2⟩
  obtain ⟨a,b,hab,ep,em,ne⟩:∃ a b,a < b∧pl ns ns.length x=[a,b]∧M[a]?=some (some b)∧a / 3≠b / 3:=by
   rcases Ke td c with ⟨e',_⟩ | ⟨e',_⟩ | ⟨e',q⟩
   ·exact absurd (e'.symm.trans e) t_rf
   ·exact absurd (e'.symm.trans e) t_lf
   ·exact q
  have ta':=ta.same sm
  obtain ⟨dx,cl,na,sp,mt,o,f,B⟩:=id ta'
  refine ⟨_,rfl,p,dx,_,rfl,B.ins,Yv _ _ _ _,_,rfl,p,M,ns,x,rfl,ta',fun _ l hl=>?_,fun z=>absurd c z⟩
  rw [ep]
  refine ⟨l,_,rfl,SqL.of Zb,rfl,_,_,rfl,_,_,rfl,rfl,?_⟩
  refine ⟨_,rfl,_,rfl,?_⟩
  refine ⟨_,rfl,_,rfl,?_⟩
  refine ⟨_,rfl,_,rfl,?_⟩
  refine ⟨_,rfl,_,rfl,?_⟩
  refine ⟨(by show 4≤sizeLine; decide),fun q hq=>?_⟩
  obtain ⟨hql,hq'⟩:=Xv hq
  exact (k1 c _ (Same.add (Same.add sm (sm.free hl)) (sm.free hq'))).2.2 a b q ep hab em ne (sm.free hq') Zb
end
end KT
set_option maxHeartbeats 4000000
namespace KT
open PySem L2
noncomputable def Zk7:Sp:=fun vs H Q _=>∃ (a b:Addr) (xs:List Int),vs=[.ref a,.ref b]∧H a=some (.lst (xs.map V.int))∧H b=some (.lst (xs.map V.int))∧xs.length≤100000∧Q (.bl true) H
noncomputable def Zk4:Sp:=fun vs H Q _=>∃ (r:Addr) (ns:List Int) (i:Nat) (x:Int),vs=[.ref r,.int i]∧Yy H r ns∧ns[i]?=some x∧Q (.int x) H
noncomputable def W5 (M:List (Option Nat)) (i:Nat):Bool:=match M[i]? with
 | some (some j)=>decide (i < j) && decide (i / 3≠j / 3)
 | _=>false
noncomputable def Qu (M:List (Option Nat)) (i:Nat):Bool:=match M[i]? with
 | some (some j)=>decide (i < j)
 | _=>false
noncomputable def lowL (M:List (Option Nat)) (n:Nat):List Nat:=(List.range n).filter (Qu M)
noncomputable def Ob (M:List (Option Nat)):List Nat:=(List.range M.length).filter (W5 M)
noncomputable def Zk8:Sp:=fun vs H Q _=>∃ (m:Addr) (M:List (Option Nat)),vs=[.ref m]∧H m=some (.lst (M.map mV))∧M.length≤1000∧(∀ (i j:Nat),M[i]?=some (some j)→M[j]?=some (some i)∧i≠j) ∧
 ∀ (l:Addr) (H':Hp),Same H H'→H l=none→H' l=some (.lst ((Ob M).map nV))→Q (.ref l) H'
noncomputable def Zgq:Sp:=fun vs H Q _=>∃ (m:Addr) (M:List (Option Nat)) (i j:Nat),vs=[.ref m,.int i]∧H m=some (.lst (M.map mV))∧M[i]?=some (some j) ∧
 ∀ (l:Addr) (H':Hp),Same H H'→H l=none→H' l=some (.lst (sqr i j))→Q (.ref l) H'
theorem Zgy {H:Hp} {r:Addr} {ns:List Int} {i:Nat} {x:Int} (h:Yy H r ns) (hx:ns[i]?=some x):∃ ts:List Addr,∃ q,H r=some (.lst (ts.map V.ref))∧ts[i / 3]?=some q∧H q=some (.tup (row3 ns (i / 3)))∧(row3 ns (i / 3))[i % 3]?=some (V.int x):=by
 obtain ⟨ts,h1,h2,h3⟩:=h
 have hi:i < ns.length:=(List.getElem?_eq_some_iff.mp hx).1
 have hk:i / 3 < ts.length:=by omega
 refine ⟨ts,ts[i / 3],h1,List.getElem?_eq_getElem hk,h3 _ _ (List.getElem?_eq_getElem hk),?_⟩
 have g:∀ j,ns[j]?=some x→ns.getD j 0=x:=fun j hj=>by rw [List.getD_eq_getElem?_getD,hj]; rfl
 have hm:i % 3=0∨i % 3=1∨i % 3=2:=by omega
 rcases hm with m | m | m
 ·have:3 * (i / 3)=i:=by omega
  rw [m]; show some (V.int (ns.getD (3 * (i / 3)) 0))=_; rw [this,g i hx]
 ·have:3 * (i / 3) + 1=i:=by omega
  rw [m]; show some (V.int (ns.getD (3 * (i / 3) + 1) 0))=_; rw [this,g i hx]
 ·have:3 * (i / 3) + 2=i:=by omega
  rw [m]; show some (V.int (ns.getD (3 * (i / 3) + 2) 0))=_; rw [this,g i hx]
theorem div3 (i:Nat):(i:Int) / 3=((i / 3:Nat):Int):=by omega
theorem mod3 (i:Nat):(i:Int) % 3=((i % 3:Nat):Int):=by omega
theorem Gb (i:Nat):(i:Int) - (i:Int) % 3 + ((i:Int) + 1) % 3=after i:=by unfold after; split <;> omega
theorem Zdx (i:Nat):(i:Int) - (i:Int) % 3 + ((i:Int) + 2) % 3=before i:=by unfold before; split <;> omega
theorem Yy.copy {H:Hp} {r l:Addr} {ns:List Int} {ts:List Addr} (h1:H r=some (.lst (ts.map V.ref))) (h2:ns.length=3 * ts.length) (h3:∀ (k:Nat) (t:Addr),ts[k]?=some t→H t=some (.tup (row3 ns k))) (hl:H l=none):Yy (upd H l (.lst (ts.map V.ref))) l ns :=
 ⟨ts,Zb,h2,fun k q e=>by rw [Zd (Zi (h3 k q e) hl)]; exact h3 k q e⟩
theorem Zj4 {M:List (Option Nat)} {i:Nat} (h:i∈Ob M):∃ j,M[i]?=some (some j)∧i < j∧i / 3≠j / 3:=by
 have:=(List.mem_filter.mp h).2
 unfold W5 at this
 split at this
 ·rename_i j hj
  simp at this
  exact ⟨j,hj,this.1,this.2⟩
 ·cases this
theorem Zmt {M:List (Option Nat)} {ns:List Int} (td:TD M ns) {i j:Nat} {x:Int} (hm:M[i]?=some (some j)) (hij:i < j) (hx:ns[i]?=some x):x∈keys ns ns.length∧pl ns ns.length x=[i,j]:=by
 have hi:i < ns.length:=(List.getElem?_eq_some_iff.mp hx).1
 have hk:x∈keys ns ns.length:=Jc.mpr ⟨i,hi,hx⟩
 have mi:i∈pl ns ns.length x:=Xg.mpr ⟨hi,hx⟩
 refine ⟨hk,?_⟩
 rcases Vq td hk with ⟨a,e,_,ma⟩ | ⟨a,b,hab,e,_,_,ma,mb⟩
 ·rw [e,List.mem_singleton] at mi
  subst mi
  rw [hm] at ma; cases ma
 ·rw [e] at mi
  rcases List.mem_cons.mp mi with z | z
  ·subst z
   rw [hm] at ma
   cases ma
   exact e
  ·have z:i=b:=by simpa using z
   subst z
   rw [hm] at mb
   cases mb
   omega
theorem Zir {H1:Hp} {r l x dx C:Addr} {ns:List Int} {ts:List Addr} (g1:H1 r=some (.lst (ts.map V.ref))) (g2:ns.length=3 * ts.length) (g3:∀ (k:Nat) (t:Addr),ts[k]?=some t→H1 t=some (.tup (row3 ns k)))
  (hl1:H1 l=none) (hx:upd H1 l (.lst (ts.map V.ref)) x=none) (hdx:upd H1 l (.lst (ts.map V.ref)) dx=none) :
  Yy (upd (upd (upd H1 l (.lst (ts.map V.ref))) dx (.own x)) x (.ins C dx [])) l ns∧Same (upd H1 l (.lst (ts.map V.ref))) (upd (upd (upd H1 l (.lst (ts.map V.ref))) dx (.own x)) x (.ins C dx [])):=by
 have s:Same (upd H1 l (.lst (ts.map V.ref))) (upd (upd (upd H1 l (.lst (ts.map V.ref))) dx (.own x)) x (.ins C dx [])):=Same.add (Same.new hdx) hx
 exact ⟨(Yy.copy g1 g2 g3 hl1).same s,s⟩
section
variable {P:Program} {w:World} {K:PySem.W.Frag} {mg:Str→Option Value} {base:Heap} {t:Adr}
theorem G2:FnScope ["_law_found","_law_due","_law_k"] ["_law_found","_law_due"] (Zg Zbg):=⟨rfl,rfl,rfl,by decide +kernel,rfl,by decide +kernel,by decide +kernel⟩
theorem Zhp (T:Txt w K mg t):FnOk P w K mg base (CXr P w) 2 t.df t.dz ["_law_found","_law_due"] Zk7:=by
 refine T.dI.F.aR G2 (fun cdv A outer s H vs Q E hr h=>?_)
 ·obtain ⟨a,b,xs,rfl,ha,hb,hl,k⟩:=h
  refine ⟨_,(Ze (Yd (PW.pt (Vn (Qd (Wz (Zl Jj (by rfl) T.aE PyProof.Rows.boot_isinstance (Za (pv 0) (Za (U3 (v:=.ty "list") (by rfl) T.aH PySem.Pv.boot_list rfl) Zc))))) (Qc (Zq Jz (Zl Zk (by rfl) T.ae PySem.boot_len (Za (pv 0) Zc)) (Zl Zk (by rfl) T.ae PySem.boot_len (Za (pv 1) Zc)) (Zu _))))) (Zh (Zp Wg)) Z3)
   (Ze (Y1 PassesOwn.never rfl (Xh rfl T.ak (Za (Zl Zk (by rfl) T.ae PySem.boot_len (Za (pv 1) Zc)) Zc)) (Zn (i:=2) G2.nd rfl (Or.inl rfl)) (Zh (Yd (PW.pt (Vn (Qd (Wz (pcT (Zfr T) hr T.cQ (Za (Zs Zt (pv 0) (pv 2) (fun _ _=>rfl)) Zc)))) (Qc (Zq Jz (Zs Zt (pv 0) (pv 2) (fun _ _=>rfl)) (Zs Zt (pv 1) (pv 2) (fun _ _=>rfl)) (Zu _))))) (Zh (Zp Wg)) Z3)))
   (Zh (Zp Wg)))),?_⟩
  refine ⟨_,rfl,_,"list",_,true,rfl,TyOf.lst ha,O2,_,rfl,iteF ?_⟩
  refine ⟨_,rfl,a,_,rfl,.inl (SqL.of ha),_,rfl,b,_,rfl,.inl (SqL.of hb),rfl,_,rfl,?_⟩
  rw [show (!decide (V.int ((xs.map V.int).length:Nat)=V.int ((xs.map V.int).length:Nat)))=false by simp]
  refine iteF ?_
  dsimp only [Ql]
  show tSeq (tFor _ _ _) _ _ _ _
  refine Yk (fun σ H1=>H1=H) (fun nx hnx=>?_) ?_
  ·refine ⟨_,rfl,b,_,rfl,.inl (SqL.of hb),_,rfl,by omega,by rw [List.length_map]; omega,?_⟩
   have eL:(((xs.map V.int).length:Nat):Int).toNat=xs.length:=by simp
   rw [eL]
   refine Wb (n:=xs.length) (fun i σ H1=>∃ v,σ=[some (.ref a),some (.ref b),v]∧H1=H) ⟨none,rfl,rfl⟩ ?_ ?_
   ·rintro i σ H1 hlt ⟨v,rfl,rfl⟩
    have ei:atI (xs.map V.int) (0 + (i:Int))=some (V.int xs[i]):=by rw [Int.zero_add]; exact Yu (List.getElem?_eq_getElem hlt)
    dsimp only [Zm]
    refine ⟨_,rfl,_,rfl,a,_,_,_,rfl,rfl,SqL.of ha,ei,_,rfl,_,rfl,iteF ?_⟩
    refine ⟨_,rfl,_,rfl,a,_,_,_,rfl,rfl,SqL.of ha,ei,_,rfl,_,rfl,b,_,_,_,rfl,rfl,SqL.of hb,ei,rfl,_,rfl,?_⟩
    rw [show (!decide (V.int xs[i]=V.int xs[i]))=false by simp]
    exact iteF ⟨_,rfl,rfl⟩
   ·rintro σ H1 ⟨v,rfl,rfl⟩
    exact hnx _ _ rfl
  ·rintro σ H1 rfl
   exact k
theorem Zgu:FnScope ["_law_rows_here","_law_place"] ["_law_rows_here","_law_place"] (Zg Zbe):=⟨rfl,rfl,rfl,by decide +kernel,rfl,by decide +kernel,by decide +kernel⟩
theorem Zhn (T:Txt w K mg t):FnOk P w K mg base (CXr P w) 1 t.de t.dw ["_law_rows_here","_law_place"] Zk4:=by
 refine T.dH.F.aR Zgu (fun cdv A outer s H vs Q E hr h=>?_)
 ·obtain ⟨r,ns,i,x,rfl,hr1,hx,k⟩:=h
  refine ⟨_,(Zh (Zp (Zs Uv (Zs Zt (pv 0) (Zj Y2 (pv 1) Zf) (fun _ _=>rfl)) (Zj Zy (pv 1) Zf) (fun _ _=>rfl)))),?_⟩
  obtain ⟨ts,q,e1,e2,e3,e4⟩:=Zgy hr1 hx
  refine ⟨_,rfl,_,rfl,_,_,rfl,rfl,⟨by decide,by decide⟩,r,_,_,_,rfl,rfl,SqL.of e1,(by rw [div3]; exact Yu e2),_,rfl,_,_,rfl,rfl,(by show (0:Int) < 3; decide),q,_,_,_,rfl,rfl,SqT.of e3,(by rw [mod3]; exact Xr e4),k⟩
theorem Qy:FnScope ["_law_mates","_law_place","_law_row","_law_side"] ["_law_mates","_law_place"] (Zg Ko):=⟨rfl,rfl,rfl,by decide +kernel,rfl,by decide +kernel,by decide +kernel⟩
theorem Zdl (T:Txt w K mg t):FnOk P w K mg base (CXr P w) 1 t.cf t.cu ["_law_mates","_law_place"] Zgq:=by
 refine T.cC.F.aR Qy (fun cdv A outer s H vs Q E hr h=>?_)
 ·obtain ⟨m,M,i,j,rfl,hm,hij,k⟩:=h
  refine ⟨_,(Ze (Zo (i:=2) Qy.nd rfl (Or.inl rfl) (Y5 Zc))
   (Ze (Y1 PassesOwn.never rfl (Zz (Y5 (Za (pv 1) (Za (Zs Zt (pv 0) (pv 1) (fun _ _=>rfl)) Zc)))) (Zn (i:=3) Qy.nd rfl (Or.inl rfl)) (Ze (Yg (Y3 PySem.F.plainAttrs_list PySem.F.slot_list_append PySem.F.type_list_append Yc (pv 2) (Za (Zj Z8 (Zj Wn (pv 3) (Zj Zy (pv 3) Zf)) (Zj Zy (Zj Z8 (pv 3) Zf) Zf)) Zc)))
   (Zh (Yg (Y3 PySem.F.plainAttrs_list PySem.F.slot_list_append PySem.F.type_list_append Yc (pv 2) (Za (Zj Z8 (Zj Wn (pv 3) (Zj Zy (pv 3) Zf)) (Zj Zy (Zj Z8 (pv 3) Zf) Zf)) Zc))))))
   (Zh (Zp (pv 2))))),?_⟩
  refine ⟨Nat.zero_le _,fun r hr0=>?_⟩
  have hmr:m≠r:=Zi hm hr0
  dsimp only [Zm]
  show tSeq (tFor _ _ _) _ _ _ _
  refine Yk (fun σ H1=>∃ v,σ=[some (.ref m),some (.int i),some (.ref r),v]∧Same H H1∧H1 r=some (.lst (sqr i j))) (fun nx hnx=>?_) ?_
  ·refine ⟨_,rfl,_,rfl,_,rfl,m,_,_,_,rfl,rfl,SqL.of (by rw [Zd hmr]; exact hm),Yu hij,(by show 2≤sizeLine; decide),fun q hq=>?_⟩
   obtain ⟨hqr,hq0⟩:=Xv hq
   refine ⟨q,rfl,⟨_,SqL.of Zb⟩,?_⟩
   refine Wc (xs:=[V.int i,V.int j]) (fun n σ H1=>∃ v,σ=[some (.ref m),some (.int i),some (.ref r),v]∧Same H H1∧H1 q=some (.lst [V.int i,V.int j])∧H1 r=some (.lst ((sqr i j).take (2 * n)))) ⟨none,rfl,Same.add (Same.new hr0) hq0,Zb,by rw [Zd (Ne.symm hqr),Zb]; rfl⟩ ?_ ?_ ?_
   ·rintro n σ H1 _ ⟨v,rfl,sm,h1,h2⟩
    exact SqL.of h1
   ·rintro n x σ H1 hx ⟨v,rfl,sm,h1,h2⟩
    have lt:∀ z:Nat,z≤4→((sqr i j).take z).length < sizeLine:=fun z hz=>by rw [List.length_take]; exact Zr (by omega)
    dsimp only [Zm]
    obtain ⟨c,rfl⟩:∃ c:Nat,x=V.int c:=by
     match n,hx with
     | 0,hx=>exact ⟨i,(Option.some.inj hx).symm⟩
     | 1,hx=>exact ⟨j,(Option.some.inj hx).symm⟩
    refine ⟨_,rfl,.inl ⟨rfl,_,SqL.of h2⟩,_,rfl,_,rfl,_,_,rfl,rfl,(by show (0:Int) < 3; decide),_,_,rfl,rfl,_,rfl,_,_,rfl,rfl,_,_,rfl,rfl,(by show (0:Int) < 3; decide),_,_,rfl,rfl,r,_,_,rfl,rfl,h2,lt _ (by have:=(List.getElem?_eq_some_iff.mp hx).1; simp at this; omega),?_⟩
    refine ⟨_,rfl,.inl ⟨rfl,_,SqL.of Zb⟩,_,rfl,_,rfl,_,_,rfl,rfl,(by show (0:Int) < 3; decide),_,_,rfl,rfl,_,rfl,_,_,rfl,rfl,_,_,rfl,rfl,(by show (0:Int) < 3; decide),_,_,rfl,rfl,r,_,_,rfl,rfl,Zb,?_,?_⟩
    ·rw [List.length_append,List.length_take]; exact Zr (by simp [sqr]; omega)
    ·refine ⟨_,rfl,Same.add (Same.add sm hr0) hr0,?_,?_⟩
     ·rw [Zd hqr,Zd hqr]; exact h1
     ·rw [Zb]
      dsimp only
      rw [Gb,Zdx]
      match n,hx with
      | 0,hx =>
       have e:i=c:=by have e:=Option.some.inj hx; injection e with e; omega
       subst e; rfl
      | 1,hx =>
       have e:j=c:=by have e:=Option.some.inj hx; injection e with e; omega
       subst e; rfl
   ·rintro σ H1 ⟨v,rfl,sm,h1,h2⟩
    exact hnx _ _ ⟨v,rfl,sm,h2⟩
  rintro σ H1 ⟨v,rfl,sm,h2⟩
  exact ⟨_,rfl,k r H1 sm hr0 h2⟩
theorem O1 (M:List (Option Nat)) (n:Nat):lowL M (n + 1)=if Qu M n=true then lowL M n ++ [n] else lowL M n:=by
 unfold lowL
 rw [List.range_succ,List.filter_append]
 by_cases c:Qu M n=true
 ·simp [c]
 ·simp [c]
theorem Zhx (M:List (Option Nat)) (n:Nat):(lowL M n).length≤n:=by
 unfold lowL
 exact Nat.le_trans (List.length_filter_le _ _) (by simp)
theorem Zj5 (M:List (Option Nat)):(lowL M M.length).filter (W5 M)=Ob M:=by
 unfold lowL Ob
 rw [List.filter_filter]
 congr 1
 funext i
 unfold W5 Qu
 cases M[i]? with
 | none=>rfl
 | some o=>cases o with
  | none=>rfl
  | some j=>by_cases c:i < j <;> simp [c]
theorem Zcn {α:Type} {p:α→Bool} {l:List α} {i:Nat} {x:α} (h:l[i]?=some x):(l.take (i + 1)).filter p=if p x=true then (l.take i).filter p ++ [x] else (l.take i).filter p:=by
 rw [List.take_add_one,h,List.filter_append]
 by_cases c:p x=true
 ·simp [c]
 ·simp [c]
theorem G3:FnScope ["_law_mates","_law_row"] ["_law_mates"] (Zg Zbh):=⟨rfl,rfl,rfl,by decide +kernel,rfl,by decide +kernel,by decide +kernel⟩
theorem Zhq (T:Txt w K mg t):FnOk P w K mg base (CXr P w) 1 t.dc t.dt ["_law_mates"] Zk8:=by
  refine T.dF.F.aR G3 (fun cdv A outer s H vs Q E hr h=>?_)
  · obtain ⟨m,M,rfl,hm,hl,inv,k⟩:=h
    refine ⟨_,(Ze (Xj (ts:=["_law_p"]) (fv:=[("_law_mates",0)]) (i:=1) ⟨rfl,by decide +kernel,by decide +kernel,Z6 (by rfl),⟨⟨rfl,rfl,Or.inl rfl⟩,trivial⟩⟩ rfl G3.nd rfl rfl (by rfl) (Xh rfl T.ak (Za (Zl Zk (by rfl) T.ae PySem.boot_len (Za (pv 0) Zc)) Zc)) (fun _ _ _ _=>(Zn (i:=0) (show List.Nodup (["_law_p","_law_mates"]:List Str) from by decide +kernel) rfl (Or.inl rfl) (Or.inr rfl))) (fun _ _ _ _=>(Wu (PW.pt (Q5 (Zq Jb (Zs (Xb K) (pv 1) (pv 0) (fun _ _=>rfl)) Xy (Zu _)) (J6 (Zq Vt (pv 0) (Zs (Xb K) (pv 1) (pv 0) (fun _ _=>rfl)) (Zu _))))))) (fun _ _ _=>rfl) (fun _ _ _ _ _ _=>Ya (pv 0)))
      (Zh (Zp (Ys (ts:=["_law_p"]) (fv:=[("_law_mates",0)]) ⟨rfl,by decide +kernel,by decide +kernel,Z6 (by rfl),⟨⟨rfl,rfl,Or.inl rfl⟩,trivial⟩⟩ rfl (Zz (pv 1)) (fun _ _ _ _=>(Zn (i:=0) (show List.Nodup (["_law_p","_law_mates"]:List Str) from by decide +kernel) rfl (Or.inl rfl) (Or.inr rfl))) (fun _ _ _ _=>(Wu (Zq Jz (Zj Y2 (pv 0) Zf) (Zj Y2 (Zs (Xb K) (pv 1) (pv 0) (fun _ _=>rfl)) Zf) (Zu _)))) (fun _ _ _=>rfl) (fun _ _ _ _ _ _=>Ya (pv 0)))))),?_⟩
    refine ⟨_,rfl,m,_,rfl,.inl (SqL.of hm),_,rfl,by omega,by rw [List.length_map]; omega,fun D hD=>?_⟩
    have eL:(((M.map mV).length:Nat):Int).toNat=M.length:=by simp
    rw [eL]
    refine J1 (fun i σ H1=>∃ v,σ=[v,some (.ref m)]∧Same H H1∧H1 D=some (.lst ((lowL M i).map nV))) ⟨none,rfl,Same.new hD,Zb⟩ ?_ ?_
    · rintro i σ H1 hlt ⟨v,rfl,sm,h1⟩
      have e0:(0 + (i:Int))=(i:Int):=Int.zero_add _
      dsimp only [Zm]
      rw [e0]
      obtain ⟨y,hy⟩:∃ y,M[i]?=some y:=⟨_,List.getElem?_eq_getElem hlt⟩
      have at':=Yu (f:=mV) hy
      have lt:((lowL M i).map nV).length < sizeLine:=by rw [List.length_map]; exact Zr (by have:=Zhx M i; omega)
      refine ⟨_,rfl,_,rfl,m,_,_,_,rfl,rfl,SqL.of (sm _ _ hm),at',rfl,_,rfl,?_⟩
      cases y with
      | none =>
        refine iteF (iteF ⟨_,rfl,sm,?_⟩)
        rw [h1,O1,if_neg (by unfold Qu; rw [hy]; simp)]
      | some j =>
        refine iteT ⟨_,rfl,_,rfl,_,rfl,m,_,_,_,rfl,rfl,SqL.of (sm _ _ hm),at',_,_,rfl,rfl,_,rfl,?_⟩
        by_cases c:i < j
        · rw [decide_eq_true (by omega:(i:Int) < (j:Int))]
          refine iteT ⟨_,rfl,_,h1,lt,_,rfl,Same.add sm hD,?_⟩
          rw [Zb,O1,if_pos (by unfold Qu; rw [hy]; simp [c]),List.map_append]
          rfl
        · rw [decide_eq_false (by omega:¬ (i:Int) < (j:Int))]
          refine iteF ⟨_,rfl,sm,?_⟩
          rw [h1,O1,if_neg (by unfold Qu; rw [hy]; simp [c])]
    rintro σ H1 ⟨v,rfl,sm,h1⟩
    refine ⟨_,rfl,D,rfl,⟨_,SqL.of h1⟩,fun D2 hD2=>?_⟩
    have hD20:H D2=none:=sm.free hD2
    refine Z4 (xs:=(lowL M M.length).map nV) (fun i σ H2=>∃ v,σ=[v,some (.ref m)]∧Same H1 H2∧H2 D2=some (.lst ((((lowL M M.length).take i).filter (W5 M)).map nV))) ⟨none,rfl,Same.new hD2,Zb⟩ ?_ ?_ ?_
    · rintro i σ H2 _ ⟨v,rfl,sm2,h2⟩
      exact SqL.of (sm2 _ _ h1)
    · rintro i x σ H2 hx ⟨v,rfl,sm2,h2⟩
      obtain ⟨p,hp,rfl⟩:=map_some hx
      have hpm:p∈lowL M M.length:=List.mem_of_getElem? hp
      obtain ⟨j,hj,hpj⟩:∃ j,M[p]?=some (some j)∧p < j:=by
        have:=(List.mem_filter.mp hpm).2
        unfold Qu at this
        split at this
        · rename_i j hj; exact ⟨j,hj,of_decide_eq_true this⟩
        · cases this
      have lt:((((lowL M M.length).take i).filter (W5 M)).map nV).length < sizeLine:=by
        rw [List.length_map]
        exact Zr (by
          have h1:=List.length_filter_le (W5 M) ((lowL M M.length).take i)
          have h2:=List.length_take_le i (lowL M M.length)
          have h3:=List.length_take_le' i (lowL M M.length)
          have h4:=Zhx M M.length
          omega)
      dsimp only [Zm]
      refine ⟨_,rfl,_,_,rfl,rfl,⟨by decide,by decide⟩,_,rfl,_,rfl,m,_,_,_,rfl,rfl,SqL.of (sm2 _ _ (sm _ _ hm)),Yu hj,_,_,rfl,rfl,⟨by decide,by decide⟩,rfl,_,rfl,?_⟩
      by_cases c:p / 3=j / 3
      · rw [show (!decide (V.int ((p:Int) / 3)=V.int ((j:Int) / 3)))=false by
          rw [show (p:Int) / 3=(j:Int) / 3 by omega]; simp]
        refine iteF ⟨_,rfl,sm2,?_⟩
        rw [h2,Zcn hp,if_neg (by unfold W5; rw [hj]; simp [c])]
      · rw [show (!decide (V.int ((p:Int) / 3)=V.int ((j:Int) / 3)))=true by
          rw [decide_eq_false (fun z=>c (by injection z; omega))]; rfl]
        refine iteT ⟨_,rfl,_,h2,lt,_,rfl,Same.add sm2 hD2,?_⟩
        rw [Zb,Zcn hp,if_pos (by unfold W5; rw [hj]; simp [c,hpj]),List.map_append]
        rfl
    rintro σ H2 ⟨v,rfl,sm2,h2⟩
    rw [List.length_map,List.take_length,Zj5] at h2
    exact k D2 H2 (sm.trans sm2) hD20 h2
end
end KT
set_option maxHeartbeats 4000000
namespace KT
open PySem L2
noncomputable def isL (way:Str):Bool:=decide (way="left")
noncomputable def Zc8 (EW:Addr):Sp:=fun vs H Q E=>∃ way:Str,vs=[.str way]∧(way="left"∨way="right"→Q .non H)∧(¬ (way="left"∨way="right")→E (.ref EW) none H)
structure Wrong (EW ES ER EL:Addr) (M:List (Option Nat)) (ns:List Int) (x:Int) (way:Str) (H:Hp) (E:XK) (G:Nat→Nat→Hp→Prop):Prop where
 noway:¬ (way="left"∨way="right")→E (.ref EW) none H
 seam:way="left"∨way="right"→x ∉ keys ns ns.length→E (.ref ES) none H
 rim:way="left"∨way="right"→∀ H',Same H H'→x∈keys ns ns.length→Yj ns x="rim"→E (.ref ER) none H'
 lock:way="left"∨way="right"→∀ H',Same H H'→x∈keys ns ns.length→Yj ns x="locked"→E (.ref EL) none H'
 go:way="left"∨way="right"→∀ a b H',Same H H'→pl ns ns.length x=[a,b]→a < b→M[a]?=some (some b)→a / 3≠b / 3→G a b H'
noncomputable def Zgl (C EW ES ER EL:Addr):Sp:=fun vs H Q E=>∃ (p:Addr) (M:List (Option Nat)) (ns:List Int) (x:Int) (way:Str),vs=[.ref p,.int x,.str way]∧Zw C H p M ns∧TD M ns ∧
 Wrong EW ES ER EL M ns x way H E fun a b H'=>∀ l,H l=none→H' l=some (.dK (glV (isL way) a b))→Q (.ref l) H'
theorem Zam (way:Str):(valV [((Sum.inr "left":Key),V.str "right"),(Sum.inr "right",V.str "left")] (Sum.inr way)).isSome=true ↔ way="left"∨way="right":=by
 unfold valV
 by_cases c1:way="left"
 ·subst c1; simp
 ·by_cases c2:way="right"
  ·subst c2
   simp [List.find?_cons]
   split <;> simp
  ·have n1:¬ (Sum.inr "left":Key)=Sum.inr way:=fun z=>c1 (by injection z with z; exact z.symm)
   have n2:¬ (Sum.inr "right":Key)=Sum.inr way:=fun z=>c2 (by injection z with z; exact z.symm)
   simp [List.find?_cons,n1,n2,c1,c2]
section
variable {P:Program} {w:World} {K:PySem.W.Frag} {mg:Str→Option Value} {base:Heap} {t:Adr}
theorem Zdb:FnScope ["way"] ["way"] (Zg Km):=⟨rfl,rfl,rfl,by decide +kernel,rfl,by decide +kernel,by decide +kernel⟩
theorem Zdj (T:Txt w K mg t):FnOk P w K mg base (CXr P w) 1 t.ce t.cr ["way"] (Zc8 t.bx):=by
 refine T.cB.F.aX Zdb (fun cdv A outer s H vs Q E hr h=>?_)
 ·obtain ⟨way,rfl,k1,k2⟩:=h
  refine ⟨_,(Yr (Uj (Zg4 (Zhb (pv 0) (Q6 (v:=.ref t.aq) rfl T.bE rfl)) (by with_unfolding_all rfl)) (Yr (Jn T.eJ FBV rfl T.eG rfl (Za Xp Zc))) Qe)),?_⟩
  refine ⟨_,rfl,t.aq,_,Sum.inr way,rfl,T.bF,rfl,_,rfl,?_⟩
  by_cases c:way="left"∨way="right"
  ·rw [(Zam way).mpr c]
   exact iteF (k1 c)
  ·have:(valV [((Sum.inr "left":Key),V.str "right"),(Sum.inr "right",V.str "left")] (Sum.inr way)).isSome=false:=by
    rw [Bool.eq_false_iff]; exact fun z=>c ((Zam way).mp z)
   rw [this]
   exact iteT ⟨by decide,k2 c⟩
theorem Jm:FnScope ["tent","seam","way","a","b","c","d"] ["tent","seam","way"] (Zg Zba):=⟨rfl,rfl,rfl,by decide +kernel,rfl,by decide +kernel,by decide +kernel⟩
theorem Zhk (T:Txt w K mg t):FnOk P w K mg base (CXr P w) 5 t.c0 t.dj ["tent","seam","way"] (Zgl t.aa t.bx t.aC t.cJ t.aS):=by
 refine T.dB.F.aX Jm (fun cdv A outer s H vs Q E hr h=>?_)
 ·obtain ⟨p,M,ns,x,way,rfl,ta,td,W⟩:=h
  refine ⟨_,(Yb (Vo (pxT (Zdj T) hr T.cB (Za (pv 2) Zc)))
   (Yb (Zlk (pxT (Zhj T) hr T.dA (Za (pv 0) (Za (pv 1) Zc))) (Qf rfl (Z5 (Zn (i:=3) Jm.nd rfl (Or.inl rfl)) (Z5 (Zn (i:=4) Jm.nd rfl (Or.inl rfl)) (Z5 (Zn (i:=5) Jm.nd rfl (Or.inl rfl)) (Z5 (Zn (i:=6) Jm.nd rfl (Or.inl rfl)) Wf))))))
   (Yb (Xm (Yd (Zq X4 (pv 2) Xp (Zu _)) (Zh (Zp (Zeh (X7 (pv 3) (pv 6) (X7 (pv 6) (pv 5) (X7 (pv 5) (pv 4) (X7 (pv 4) (pv 3) Zea)))) rfl rfl (List.cons_ne_nil _ _) (by decide)))) Z3))
   (Yr (Xm (Zp (Zeh (X7 (pv 3) (pv 4) (X7 (pv 4) (pv 5) (X7 (pv 5) (pv 6) (X7 (pv 6) (pv 3) Zea)))) rfl rfl (List.cons_ne_nil _ _) (by decide)))))))),?_⟩
  refine ⟨_,rfl,way,rfl,fun hw=>?_,W.noway⟩
  refine ⟨_,rfl,_,rfl,p,M,ns,x,rfl,ta,td,fun c H' sm=>⟨fun e=>W.rim hw H' sm c e,fun e=>W.lock hw H' sm c e,fun a b l e1 e2 e3 e4 e5 e6=>?_⟩,fun c=>W.seam hw c⟩
  refine ⟨l,_,rfl,SqT.of e6,rfl,_,_,rfl,_,_,rfl,_,_,rfl,_,_,rfl,rfl,?_⟩
  refine ⟨_,rfl,rfl,_,rfl,?_⟩
  by_cases c:way="left"
  ·have cl:isL way=true:=decide_eq_true c
   have:=fun H'' s''=>W.go hw a b H'' s'' e1 e2 e3 e4
   rw [cl] at this
   rw [decide_eq_true (show V.str way=V.str "left" by rw [c])]
   refine iteT ?_
   intro d hd
   refine ⟨_,rfl,_,rfl,_,rfl,_,rfl,_,rfl,_,rfl,_,rfl,_,rfl,Zb,glV true a b,?_,?_,?_⟩
   ·rw [Zch e4]; rfl
   ·rw [Zch e4]; show 4≤15; decide
   ·rw [Zb9 e4]
    exact this _ (Same.add (Same.add sm (sm.free hd)) (sm.free hd)) d (sm.free hd) Zb
  ·have cl:isL way=false:=decide_eq_false c
   have:=fun H'' s''=>W.go hw a b H'' s'' e1 e2 e3 e4
   rw [cl] at this
   rw [Kb c]
   refine iteF ?_
   intro d hd
   refine ⟨_,rfl,_,rfl,_,rfl,_,rfl,_,rfl,_,rfl,_,rfl,_,rfl,Zb,glV false a b,?_,?_,?_⟩
   ·rw [Fj e4]; rfl
   ·rw [Fj e4]; show 4≤15; decide
   ·rw [Zb9 e4]
    exact this _ (Same.add (Same.add sm (sm.free hd)) (sm.free hd)) d (sm.free hd) Zb
end
end KT
set_option maxHeartbeats 4000000
namespace KT
open PySem L2
noncomputable def wayS (left:Bool):Str:=if left then "left" else "right"
theorem Zme (left:Bool):wayS left="left"∨wayS left="right":=by cases left <;> simp [wayS]
theorem Zkv (left:Bool):isL (wayS left)=left:=by cases left <;> decide
noncomputable def Zmp:Sp:=fun vs H Q _=>∃ left:Bool,vs=[.bl left]∧Q (.str (wayS left)) H
noncomputable def Zi1:Sp:=fun vs H Q _=>∃ (m:Addr) (M:List (Option Nat)) (n i j:Nat) (left:Bool),vs=[.ref m,.int i,.bl left]∧H m=some (.lst (M.map mV))∧M.length=3 * n∧n≤40∧M[i]?=some (some j)∧M[j]?=some (some i)∧i / 3≠j / 3 ∧
 ∀ (l:Addr) (H':Hp),Same H H'→H l=none→H' l=some (.lst (((List.range M.length).map fun (z:Nat)=>mvI left i j (z:Int)).map V.int))→Q (.ref l) H'
noncomputable def sqI (i j:Nat):List Int:=[after i,before i,after j,before j]
noncomputable def gst (left:Bool) (i j n k:Nat):List Int:=(List.range n).map fun (z:Nat)=>if (z:Int)∈(sqI i j).take k then mvI left i j (z:Int) else (z:Int)
theorem Zj1 (left:Bool) (i j n:Nat):gst left i j n 0=(List.range n).map fun (z:Nat)=>(z:Int):=by unfold gst; simp
theorem Zlx (left:Bool) (i j n:Nat):gst left i j n 4=(List.range n).map fun (z:Nat)=>mvI left i j (z:Int):=by
 unfold gst
 apply List.map_congr_left
 intro z _
 by_cases c:(z:Int)∈(sqI i j).take 4
 ·rw [if_pos c]
 ·rw [if_neg c]
  have n1:¬ (z:Int)=after i:=fun e=>c (by unfold sqI; simp [e])
  have n2:¬ (z:Int)=before j:=fun e=>c (by unfold sqI; simp [e])
  have n3:¬ (z:Int)=after j:=fun e=>c (by unfold sqI; simp [e])
  have n4:¬ (z:Int)=before i:=fun e=>c (by unfold sqI; simp [e])
  unfold mvI
  rw [if_neg n1,if_neg n2,if_neg n3,if_neg n4]
theorem Zj2 {left:Bool} {i j n k q:Nat} (h:(sqI i j)[k]?=some (q:Int)) (hq:q < n):(gst left i j n k).set q (mvI left i j (q:Int))=gst left i j n (k + 1):=by
 apply List.ext_getElem?
 intro z
 unfold gst
 by_cases c:z=q
 ·subst c
  rw [List.getElem?_set_self (by simpa using hq),List.getElem?_map,List.getElem?_range hq]
  have:(z:Int)∈(sqI i j).take (k + 1):=by rw [List.take_add_one,h]; simp
  simp only [Option.map_some,this,if_true]
 ·rw [List.getElem?_set_ne (Ne.symm c),List.getElem?_map,List.getElem?_map]
  by_cases d:z < n
  ·rw [List.getElem?_range d]
   have:(z:Int)∈(sqI i j).take (k + 1) ↔ (z:Int)∈(sqI i j).take k:=by
    have c':¬ (z:Int)=(q:Int):=by omega
    rw [List.take_add_one,h]
    simp [c']
   simp only [Option.map_some,this]
  ·rw [List.getElem?_eq_none (by simpa using d)]
   rfl
theorem Znu {i j:Nat} (h:i / 3≠j / 3) (left:Bool) {k:Nat} (hk:k < 4):atI (sqr i j) ((if left then ((k:Int) + 3) % 4 else ((k:Int) + 1) % 4))=some (V.int (mvI left i j ((sqI i j).getD k 0))):=by
 obtain ⟨h1,h2,h3,h4,h5,h6⟩:=Wj h
 have hk:k=0∨k=1∨k=2∨k=3:=by omega
 rcases hk with rfl | rfl | rfl | rfl <;> cases left <;> (unfold mvI sqI; simp [h1,h2,h3,h4,h5,h6,Ne.symm h1,Ne.symm h2,Ne.symm h3,Ne.symm h4,Ne.symm h5,Ne.symm h6]; rfl)
theorem Znv {i j n k:Nat} (hi:i < 3 * n) (hj:j < 3 * n) (hk:k < 4):∃ q:Nat,(sqI i j)[k]?=some (q:Int)∧q < 3 * n:=by
 obtain ⟨a1,_,a3⟩:=Yz i
 obtain ⟨b1,_,b3⟩:=Yq i
 obtain ⟨c1,_,c3⟩:=Yz j
 obtain ⟨d1,_,d3⟩:=Yq j
 have hk:k=0∨k=1∨k=2∨k=3:=by omega
 rcases hk with rfl | rfl | rfl | rfl
 ·exact ⟨(after i).toNat,by show some (after i)=_; rw [Int.toNat_of_nonneg a3],by omega⟩
 ·exact ⟨(before i).toNat,by show some (before i)=_; rw [Int.toNat_of_nonneg b3],by omega⟩
 ·exact ⟨(after j).toNat,by show some (after j)=_; rw [Int.toNat_of_nonneg c3],by omega⟩
 ·exact ⟨(before j).toNat,by show some (before j)=_; rw [Int.toNat_of_nonneg d3],by omega⟩
theorem Wrong.free {EW ES ER EL:Addr} {M:List (Option Nat)} {ns:List Int} {x:Int} {left:Bool} {H:Hp} {E:XK} {G:Nat→Nat→Hp→Prop} {i j:Nat} (td:TD M ns) (hk:x∈keys ns ns.length) (hp:pl ns ns.length x=[i,j]) (ne:i / 3≠j / 3) (g:∀ H',Same H H'→G i j H'):Wrong EW ES ER EL M ns x (wayS left) H E G:=by
 have es:Yj ns x="free":=by unfold Yj; rw [hp]; exact if_neg ne
 refine ⟨fun c=>absurd (Zme left) c,fun _ c=>absurd hk c,fun _ H' _ _ e=>absurd (es.symm.trans e) t_fr,fun _ H' _ _ e=>absurd (es.symm.trans e) t_fl,fun _ a b H' s e1 _ _ _=>?_⟩
 rw [hp] at e1
 cases e1
 exact g H' s
section
variable {P:Program} {w:World} {K:PySem.W.Frag} {mg:Str→Option Value} {base:Heap} {t:Adr}
theorem Zi7:FnScope ["_law_left"] ["_law_left"] (Zg Zd3):=⟨rfl,rfl,rfl,by decide +kernel,rfl,by decide +kernel,by decide +kernel⟩
theorem Zjp (T:Txt w K mg t):FnOk P w K mg base (CXr P w) 1 t.dP t.dU ["_law_left"] Zmp:=by
 refine T.dY.F.aR Zi7 (fun cdv A outer s H vs Q E hr h=>?_)
 ·obtain ⟨l,rfl,k⟩:=h
  refine ⟨_,(Ze (Yd (Wz (pv 0)) (Zh (Zp Xp)) Z3)
   (Zh (Zp Xp))),?_⟩
  refine ⟨_,rfl,_,rfl,?_⟩
  cases l with
  | true=>exact iteT k
  | false=>exact iteF k
theorem Jv:FnScope ["_law_mates","_law_place","_law_left","_law_around_here","_law_goals_here","_law_k"] ["_law_mates","_law_place","_law_left"] (Zg G7):=⟨rfl,rfl,rfl,by decide +kernel,rfl,by decide +kernel,by decide +kernel⟩
theorem Zfu (T:Txt w K mg t):FnOk P w K mg base (CXr P w) 2 t.cG t.cL ["_law_mates","_law_place","_law_left"] Zi1:=by
 refine T.cP.F.aR Jv (fun cdv A outer s H vs Q E hr h=>?_)
 ·obtain ⟨m,M,n,i,j,left,rfl,hm,hn,hn40,hij,hji,ne,k⟩:=h
  refine ⟨_,(Ze (Zo (i:=3) Jv.nd rfl (Or.inl rfl) (pcT (Zdl T) hr T.cC (Za (pv 0) (Za (pv 1) Zc))))
   (Ze (Zo (i:=4) Jv.nd rfl (Or.inl rfl) (W1 rfl T.aH rfl T.ak rfl (Za (Zl Zk (by rfl) T.ae PySem.boot_len (Za (pv 0) Zc)) Zc)))
   (Ze (Y1 PassesOwn.never rfl (Xh rfl T.ak (Za Zf Zc)) (Zn (i:=5) Jv.nd rfl (Or.inl rfl)) (Zh (Yd (Wz (pv 2)) (Zh (Xn (Zs Zt (pv 3) (Zj Zy (Zj Z8 (pv 5) Zf) Zf) (fun _ _=>rfl)) (W0 (pv 4) (Zs Zt (pv 3) (pv 5) (fun _ _=>rfl)) Xw))) (Zh (Xn (Zs Zt (pv 3) (Zj Zy (Zj Z8 (pv 5) Zf) Zf) (fun _ _=>rfl)) (W0 (pv 4) (Zs Zt (pv 3) (pv 5) (fun _ _=>rfl)) Xw))))))
   (Zh (Zp (pv 4)))))),?_⟩
  have hi:i < 3 * n:=by rw [← hn]; exact (List.getElem?_eq_some_iff.mp hij).1
  have hj:j < 3 * n:=by rw [← hn]; exact (List.getElem?_eq_some_iff.mp hji).1
  refine ⟨_,rfl,_,rfl,m,M,i,j,rfl,hm,hij,fun ar H1 s1 har h1=>?_⟩
  refine ⟨_,rfl,m,_,rfl,.inl (SqL.of (s1 _ _ hm)),M.length,by rw [List.length_map],by omega,fun g hg=>?_⟩
  have hag:ar≠g:=Zi h1 hg
  have hg0:H g=none:=s1.free hg
  dsimp only [Zm]
  show tSeq (tFor _ _ _) _ _ _ _
  refine Yk (fun σ H2=>∃ v,σ=[some (.ref m),some (.int i),some (.bl left),some (.ref ar),some (.ref g),v]∧Same H H2∧H2 g=some (.lst ((gst left i j (3 * n) 4).map V.int))) (fun nx hnx=>?_) ?_
  ·refine ⟨4,rfl,by decide,by decide,?_⟩
   refine Wb (n:=4) (fun c σ H2=>∃ v,σ=[some (.ref m),some (.int i),some (.bl left),some (.ref ar),some (.ref g),v]∧Same H H2∧H2 ar=some (.lst (sqr i j))∧H2 g=some (.lst ((gst left i j (3 * n) c).map V.int))) ⟨none,rfl,Same.add s1 hg0,by rw [Zd hag]; exact h1,?_⟩ ?_ ?_
   ·rw [Zb,Zj1,List.map_map,hn]
    rfl
   ·rintro c σ H2 hc ⟨v,rfl,s2,h2,h3⟩
    obtain ⟨q,eq,hq⟩:=Znv hi hj hc
    have e1:atI (sqr i j) (0 + (c:Int))=some (V.int q):=by
     rw [Int.zero_add]
     refine Xr ?_
     show ((sqI i j).map V.int)[c]?=_
     rw [List.getElem?_map,eq]; rfl
    have ed:(sqI i j).getD c 0=(q:Int):=by rw [List.getD_eq_getElem?_getD,eq]; rfl
    have hlen:q < ((gst left i j (3 * n) c).map V.int).length:=by rw [List.length_map]; unfold gst; simpa using hq
    have fin:∀ H3:Hp,Same H H3→H3 ar=some (.lst (sqr i j))→H3 g=some (.lst (((gst left i j (3 * n) c).map V.int).set q (V.int (mvI left i j (q:Int)))))→∃ v,[some (V.ref m),some (.int i),some (.bl left),some (.ref ar),some (.ref g),some (.int (0 + c))]=[some (.ref m),some (.int i),some (.bl left),some (.ref ar),some (.ref g),v]∧Same H H3∧H3 ar=some (.lst (sqr i j))∧H3 g=some (.lst ((gst left i j (3 * n) (c + 1)).map V.int)):=fun H3 a1 a2 a3 =>
     ⟨_,rfl,a1,a2,by rw [a3,← Zj2 eq hq,List.map_set]⟩
    have m0:=Znu ne left hc
    rw [ed] at m0
    dsimp only [Zm]
    refine ⟨_,rfl,_,rfl,?_⟩
    cases left with
    | true =>
     refine iteT ⟨_,rfl,_,rfl,_,_,rfl,rfl,_,_,rfl,rfl,(by show (0:Int) < 4; decide),ar,_,_,_,rfl,rfl,SqL.of h2,(by rw [Int.zero_add]; exact m0),?_⟩
     refine ⟨_,rfl,_,rfl,_,rfl,ar,_,_,_,rfl,rfl,SqL.of h2,e1,g,_,_,q,rfl,rfl,h3,Wi hlen,?_⟩
     exact fin _ (Same.add s2 hg0) (by rw [Zd hag]; exact h2) Zb
    | false =>
     refine iteF ⟨_,rfl,_,rfl,_,_,rfl,rfl,_,_,rfl,rfl,(by show (0:Int) < 4; decide),ar,_,_,_,rfl,rfl,SqL.of h2,(by rw [Int.zero_add]; exact m0),?_⟩
     refine ⟨_,rfl,_,rfl,_,rfl,ar,_,_,_,rfl,rfl,SqL.of h2,e1,g,_,_,q,rfl,rfl,h3,Wi hlen,?_⟩
     exact fin _ (Same.add s2 hg0) (by rw [Zd hag]; exact h2) Zb
   ·rintro σ H2 ⟨v,rfl,s2,_,h3⟩
    exact hnx _ _ ⟨v,rfl,s2,h3⟩
  rintro σ H2 ⟨v,rfl,s2,h3⟩
  refine ⟨_,rfl,k g H2 s2 hg0 ?_⟩
  rw [h3,Zlx,hn]
end
end KT
set_option maxHeartbeats 4000000
namespace KT
open PySem L2
theorem Zia {K:PySem.W.Frag} {D N:Addr} {ns:List Int} {ts:List Addr} {n:Nat} {H2:Hp} {R:St→Hp→Prop} (hD2:H2 D=some (.lst (ts.map V.ref))) (ht2:∀ (k:Nat) (q:Addr),ts[k]?=some q→H2 q=some (.tup (row3 ns k))) (hnn:ns.length=3 * n) (htn:ts.length=n) (n2:n≤40) (hN:H2 N=none)
  (hR:∀ σ H3,Same H2 H3→H3 N=some (.lst (ns.map V.int))→R σ H3):Jk (Itl K D) (Zm 0) tYes (tGen (iTup K (tVar 0)) (Zm 1) tYes (Zfc (tVar 1) N)) R [none,none] (upd H2 N (.lst [])):=by
 refine Z4 (xs:=ts.map V.ref) (fun i σ H3=>∃ (v v':Option V),σ=[v,v']∧Same H2 H3∧H3 N=some (.lst ((ns.take (3 * i)).map V.int))) ⟨none,none,rfl,Same.new hN,Zb⟩ ?_ ?_ ?_
 ·rintro i σ H3 _ ⟨v,v',rfl,sm,h3⟩
  exact SqL.of (sm _ _ hD2)
 ·rintro i x σ H3 hx ⟨v,v',rfl,sm,h3⟩
  dsimp only [Zm,tYes]
  rw [if_pos rfl]
  obtain ⟨tt,ht,rfl⟩:=map_some hx
  have hi:i < n:=by rw [← htn]; exact (List.getElem?_eq_some_iff.mp ht).1
  refine ⟨_,rfl,tt,rfl,⟨_,SqT.of (sm _ _ (ht2 i tt ht))⟩,?_⟩
  refine Zcb (xs:=row3 ns i) (fun j σ H4=>∃ (v':Option V),σ=[some (.ref tt),v']∧Same H2 H4∧H4 N=some (.lst ((ns.take (3 * i)).map V.int ++ (row3 ns i).take j))) ⟨v',rfl,sm,by rw [h3,List.take_zero,List.append_nil]⟩ ?_ ?_ ?_
  ·rintro j σ H4 _ ⟨v',rfl,sm,h4⟩
   exact SqT.of (sm _ _ (ht2 i tt ht))
  ·rintro j x σ H4 hx ⟨v',rfl,sm,h4⟩
   dsimp only [Zm,tYes]
   rw [if_pos rfl]
   refine ⟨_,rfl,_,h4,?_,_,rfl,Same.add sm hN,?_⟩
   ·rw [List.length_append,List.length_map,List.length_take,List.length_take]
    exact Zr (by have:(row3 ns i).length=3:=rfl; omega)
   ·rw [Zb,List.take_add_one,hx,← List.append_assoc]
    rfl
  ·rintro σ H4 ⟨v',rfl,sm,h4⟩
   refine ⟨_,_,rfl,sm,?_⟩
   rw [h4,List.take_length,Zaq hnn hi]
 rintro σ H3 ⟨v,v',rfl,sm3,h3⟩
 have eall:ns.take (3 * (ts.map V.ref).length)=ns:=by rw [List.length_map,htn,← hnn,List.take_length]
 rw [eall] at h3
 exact hR _ _ sm3 h3
theorem Zl6 {ns:List Int} {i n:Nat} (hn:ns.length=3 * n) (hi:i < n):cutV (ns.map V.int) (some (0 + (i:Int) * 3)) (some (0 + (i:Int) * 3 + 3))=row3 ns i:=by
 have e0:(0 + (i:Int) * 3)=((3 * i:Nat):Int):=by omega
 have e3:(0 + (i:Int) * 3 + 3)=((3 * i + 3:Nat):Int):=by omega
 have l0:3 * i < ns.length:=by omega
 have l1:3 * i + 1 < ns.length:=by omega
 have l2:3 * i + 2 < ns.length:=by omega
 unfold cutV
 rw [e3,e0,HT.sIx_nat,HT.sIx_nat,List.length_map,Nat.min_eq_left (by omega),Nat.min_eq_left (by omega),show 3 * i + 3 - 3 * i=3 by omega]
 have g:∀ k,(hk:k < ns.length)→(ns.map V.int).drop k=V.int (ns.getD k 0) :: (ns.map V.int).drop (k + 1):=fun k hk=>by
  rw [List.drop_eq_getElem_cons (by rw [List.length_map]; exact hk),List.getElem_map,List.getD_eq_getElem?_getD,List.getElem?_eq_getElem hk]
  rfl
 rw [g _ l0,g _ l1,g _ l2]
 rfl
noncomputable def Zaw (C EW ES ER EL:Addr):Sp:=fun vs H Q E=>∃ (p:Addr) (M:List (Option Nat)) (ns:List Int) (x:Int) (way:Str),vs=[.ref p,.int x,.str way]∧Zw C H p M ns∧TD M ns ∧
 Wrong EW ES ER EL M ns x way H E fun a b H'=>∀ p',H p'=none→Zw C H' p' (exM (isL way) a b M) (exN (isL way) a b ns)→Q (.ref p') H'
section
variable {P:Program} {w:World} {K:PySem.W.Frag} {mg:Str→Option Value} {base:Heap} {t:Adr}
theorem X5:FnScope ["tent","seam","way","goals","names","place","goal"] ["tent","seam","way"] (Zg Om):=⟨rfl,rfl,rfl,by decide +kernel,rfl,by decide +kernel,by decide +kernel⟩
theorem Zbx (T:Txt w K mg t):FnOk P w K mg base (CXr P w) 6 t.bK t.bS ["tent","seam","way"] (Zaw t.aa t.bx t.aC t.cJ t.aS):=by
  refine T.bV.F.aX X5 (fun cdv A outer s H vs Q E hr h=>?_)
  · obtain ⟨p,M,ns,x,way,rfl,ta,td,W⟩:=h
    refine ⟨_,(Yb (Gj (i:=3) X5.nd rfl (Or.inl rfl) (pxT (Zhk T) hr T.dB (Za (pv 0) (Za (pv 1) (Za (pv 2) Zc)))))
      (Yb (Xm (Zo (i:=4) X5.nd rfl (Or.inr rfl) (Ys (ts:=["row","name"]) (fv:=[]) ⟨rfl,by decide +kernel,by decide +kernel,Z6 (by rfl),trivial⟩ rfl (Zz (Qg (pv 0) T.ac T.bn.m (Zb0 T) (hr.mono (by decide)) T.bn.b .nil Y6)) (fun _ _ _ _=>(Zn (i:=0) (show List.Nodup (["row","name"]:List Str) from by decide +kernel) rfl (Or.inl rfl) (Or.inr rfl))) (fun _ _ _ _=>Yf) (fun _ _ _=>rfl) (fun _ _ _ _ _ _=>Zhd rfl rfl (Zee K (pv 0)) (Zn (i:=1) (show List.Nodup (["row","name"]:List Str) from by decide +kernel) rfl (Or.inl rfl) (Or.inr rfl)) Yf (pv 1)))))
      (Yb (Xm (Y1 PassesOwn.never rfl (Zje (pv 3) ⟨rfl,rfl,rfl⟩) (Qf rfl (Z5 (Zn (i:=5) X5.nd rfl (Or.inl rfl)) (Z5 (Zn (i:=6) X5.nd rfl (Or.inl rfl)) Wf))) (Zh (Xn (Wv (pv 0) T.ac T.ao.m (Qq T) (hr.mono (by decide)) T.ao.b .nil Y6 (Za (pv 5) Zc)) (W0 (pv 4) (pv 6) Xw)))))
      (Yr (Xm (Zp (Zeg T.d6 (Ur T) (hr.mono (by decide)) rfl T.dX T.bj.b .nil Y6 (Za (Ys (ts:=["k"]) (fv:=[("names",4)]) ⟨rfl,by decide +kernel,by decide +kernel,Z6 (by rfl),⟨⟨rfl,rfl,Or.inl rfl⟩,trivial⟩⟩ rfl (Zg8 rfl T.ak (Za Zf (Za (Zl Zk (by rfl) T.ae PySem.boot_len (Za (pv 4) Zc)) (Za Zf Zc)))) (fun _ _ _ _=>(Zn (i:=0) (show List.Nodup (["k","names"]:List Str) from by decide +kernel) rfl (Or.inl rfl) (Or.inr rfl))) (fun _ _ _ _=>Yf) (fun _ _ _=>rfl) (fun _ _ _ _ _ _=>Ya (X8 (Vh K) (by rfl) T.d8 PySem.Pv.boot_tuple (Za (Zjg (Zi5 K) (pv 1) (Zeb (pv 0)) (Zeb (Zj Z8 (pv 0) Zf))) Zc)))) Zc)))))))),?_⟩
    refine ⟨_,rfl,_,rfl,_,rfl,p,M,ns,x,way,rfl,ta,td,⟨W.noway,W.seam,W.rim,W.lock,fun hw i j H1 s1 e1 e2 e3 e4 l hl hd1=>?_⟩⟩
    have g:=fun H' s'=>W.go hw i j H' s' e1 e2 e3 e4
    generalize isL way=left at g hd1
    obtain ⟨n,n1,n40,hn⟩:=td.n
    have hMl:=td.len
    have hnn:ns.length=3 * n:=by omega
    have hi:i < 3 * n:=by rw [← hn]; exact (List.getElem?_eq_some_iff.mp e3).1
    have hj:j < 3 * n:=by rw [← hn]; exact (List.getElem?_eq_some_iff.mp (td.inv i j e3).1).1
    have ta1:=ta.same s1
    obtain ⟨dx,cl,na,sp,mt,o,f,B⟩:=id ta1
    refine ⟨_,rfl,p,dx,_,rfl,B.ins,Yv _ _ _ _,p,M,ns,rfl,ta1,fun l2 ts hl2 hlen h3=>?_⟩
    have s2:Same H1 (upd H1 l2 (.lst (ts.map V.ref))):=Same.new hl2
    refine ⟨l2,rfl,⟨_,SqL.of Zb⟩,fun N hN=>?_⟩
    refine Zia (n:=n) Zb (fun k q e=>s2 _ _ (h3 k q e)) hnn (by omega) n40 hN fun σ3 H3 s3 h3'=>?_
    have s13:=s2.trans s3
    have hN0:H N=none:=(s1.trans s2).free hN
    have hd3:=s13 _ _ hd1
    have hNl:N≠l:=fun z=>by rw [z,hd3] at h3'; cases h3'
    clear h3 hlen
    dsimp only [Zm]
    show tSeq (tFor _ _ _) _ _ _ _
    refine Yk (fun σ H4=>∃ v5 v6,σ=[some (.ref p),some (.int x),some (.str way),some (.ref l),some (.ref N),v5,v6]∧Same H H4∧H4 N=some (.lst ((exN left i j ns).map V.int))) (fun nx hnx=>?_) ?_
    · refine ⟨_,rfl,l,_,rfl,.inl ⟨hd3,fun o=>?_⟩⟩
      refine Zh9 (fun k σ H4=>∃ v5 v6,σ=[some (.ref p),some (.int x),some (.str way),some (.ref l),some (.ref N),v5,v6]∧Same H H4∧H4 l=some (.frz o (.dK (glV left i j)))∧H4 N=some (.lst ((nst left i j ns k).map V.int)))
        ⟨_,_,rfl,Same.add (s1.trans s13) hl,Zb,by rw [Zd hNl,Zjr]; exact h3'⟩ ?_ ?_ ?_
      · rintro k σ H4 _ ⟨v5,v6,rfl,s4,h4,_⟩
        exact h4
      · rintro k key v σ H4 q hk hq ⟨v5,v6,rfl,s4,h4,h5⟩
        obtain ⟨z,hz,rfl,rfl⟩:∃ z,(Y0 left i j)[k]?=some z∧key=Sum.inl z∧v=V.int (mvI left i j z):=by
          unfold glV at hk
          rw [List.getElem?_map] at hk
          cases e:(Y0 left i j)[k]? with
          | none=>rw [e] at hk; cases hk
          | some z=>rw [e] at hk; cases hk; exact ⟨z,rfl,rfl,rfl⟩
        obtain ⟨z0,z1⟩:=Zlz hi hj hz
        obtain ⟨c,rfl⟩:∃ c:Nat,z=c:=⟨z.toNat,by omega⟩
        have hc:c < ns.length:=by omega
        have hq':mvN left i j c < ns.length:=by rw [hnn]; exact Xi hi hj left (by omega)
        have s5:Same H4 (upd H4 q (.tup [kV (Sum.inl (c:Int)),V.int (mvI left i j c)])):=Same.new hq
        have ta4:=(ta.same s4).same s5
        obtain ⟨dx4,cl4,na4,sp4,mt4,o4,ff4,B4⟩:=id ta4
        have hNq:N≠q:=Zi h5 hq
        have hlq:l≠q:=Zi h4 hq
        refine ⟨q,_,rfl,SqT.of Zb,rfl,_,_,rfl,_,_,rfl,rfl,?_⟩
        refine ⟨_,rfl,p,dx4,_,rfl,B4.ins,Yv _ _ _ _,_,rfl,p,M,ns,c,rfl,ta4,fun i' y z1 z2=>?_,fun z=>absurd ⟨by omega,by omega⟩ z⟩
        obtain rfl:c=i':=by omega
        have ey:ns.getD c 0=y:=by rw [List.getD_eq_getElem?_getD,z2]; rfl
        have hlen:((nst left i j ns k).map V.int).length=ns.length:=by unfold nst; simp
        refine ⟨_,rfl,_,rfl,N,_,_,mvN left i j c,rfl,rfl,(by rw [Zd hNq]; exact h5),(by rw [hlen,← Qj]; exact Wi hq'),?_⟩
        refine ⟨_,_,rfl,Same.add (Same.add s4 (s4.free hq)) hN0,?_,?_⟩
        · rw [Zd (Ne.symm hNl),Zd hlq]; exact h4
        · rw [Zb,← Zjs e4 hz hq',ey,List.map_set]
      · rintro σ H4 ⟨v5,v6,rfl,s4,h4,h5⟩
        have e:(glV left i j).length=4:=by unfold glV; rw [List.length_map,Zcl]
        rw [e,Zls e4] at h5
        exact hnx _ _ ⟨_,_,rfl,s4,h5⟩
    rintro σ H4 ⟨v5,v6,rfl,s4,h4⟩
    have tdx:TD (exM left i j M) (exN left i j ns):=td.ex (by omega) (by omega) e4 left
    have hxl:(exN left i j ns).length=3 * n:=by rw [J7]; exact hnn
    generalize exN left i j ns=ns' at h4 tdx hxl g ⊢
    refine ⟨_,rfl,N,_,rfl,.inl (SqL.of h4),n,(by rw [List.length_map,hxl]),by omega,fun D hD=>?_⟩
    have hND:N≠D:=Zi h4 hD
    refine Zdo (fun c σ H5=>∃ v ts,σ=[v,some (.ref N)]∧Same H4 H5∧H5 D=some (.lst (ts.map V.ref))∧ts.length=c∧∀ (k:Nat) (q:Addr),ts[k]?=some q→H5 q=some (.tup (row3 ns' k)))
      ⟨none,[],rfl,Same.new hD,Zb,rfl,fun k q e=>by simp at e⟩ ?_ ?_
    · rintro c σ H5 hc ⟨v,ts,rfl,s5,h5,hts,hrow⟩
      dsimp only [Zm,tYes]
      rw [if_pos rfl]
      have h45:=s5 _ _ h4
      refine ⟨_,rfl,_,rfl,_,rfl,_,rfl,_,_,rfl,rfl,_,rfl,N,_,rfl,SqL.of h45,fun q hq=>?_⟩
      rw [Zl6 hxl hc]
      refine ⟨q,_,rfl,.inl ⟨SqL.of Zb,fun q2 hq2=>?_⟩⟩
      obtain ⟨hqq,hq2'⟩:=Xv hq2
      have hDq:D≠q:=Zi h5 hq
      have hDq2:D≠q2:=Zi h5 hq2'
      have s6:Same H5 (upd (upd H5 q (.lst (row3 ns' c))) q2 (.tup (row3 ns' c))):=Same.add (Same.new hq) hq2'
      refine ⟨_,s6 _ _ h5,(by rw [List.length_map]; exact Zr (by omega)),_,ts ++ [q2],rfl,Same.add (s5.trans s6) hD,?_,?_,?_⟩
      · rw [Zb]; simp
      · rw [List.length_append,List.length_singleton,hts]
      · intro k q3 z
        by_cases hk:k < ts.length
        · rw [List.getElem?_append_left hk] at z
          have g3:=s6 _ _ (hrow k q3 z)
          rw [Zd (fun e=>by rw [e,s6 _ _ h5] at g3; cases g3)]
          exact g3
        · have hk2:k=ts.length:=by
            have:=(List.getElem?_eq_some_iff.mp z).1
            rw [List.length_append,List.length_singleton] at this
            omega
          subst hk2
          have:q3=q2:=by simpa using z.symm
          subst this
          rw [Zd (Ne.symm hDq2),Zb,hts]
    rintro σ H5 ⟨v,ts,rfl,s5,h5,hts,hrow⟩
    intro y dy hy hdy hne
    have s6:Same H5 (upd (upd H5 dy (.own y)) y (.ins t.aa dy [])):=Same.add (Same.new hdy) hy
    refine ⟨y,D,dy,_,ns',rfl,Zb,⟨ts,s6 _ _ h5,by omega,fun k q e=>s6 _ _ (hrow k q e)⟩,tdx,by omega,fun H7 old ta7=>⟨rfl,?_⟩⟩
    have s57:Same H5 H7:=fun b u e=>old b u (Zi e hy) (s6 b u e)
    have s07:=(s4.trans s5).trans s57
    exact g H7 s07 y ((s4.trans s5).free hy) ta7
noncomputable def Ziy:Sp:=fun vs H Q _=>∃ (m r g:Addr) (M:List (Option Nat)) (ns:List Int) (i j:Nat) (left:Bool),vs=[.ref m,.ref r,.ref g]∧H m=some (.lst (M.map mV))∧Yy H r ns∧H g=some (.lst (((List.range M.length).map fun (z:Nat)=>mvI left i j (z:Int)).map V.int))∧TD M ns∧i < M.length∧j < M.length∧i / 3≠j / 3 ∧
 ∀ (p m' r':Addr) (H':Hp),Same H H'→H' p=some (.tup [.ref m',.ref r'])→H' m'=some (.lst ((exM left i j M).map mV))→Yy H' r' (exN left i j ns)→Q (.ref p) H'
theorem Ju:FnScope ["_law_mates","_law_rows_here","_law_goals_here","_law_names","_law_ties","_law_p"] ["_law_mates","_law_rows_here","_law_goals_here"] (Zg G5):=⟨rfl,rfl,rfl,by decide +kernel,rfl,by decide +kernel,by decide +kernel⟩
theorem Zfs (T:Txt w K mg t):FnOk P w K mg base (CXr P w) 1 t.cF t.cK ["_law_mates","_law_rows_here","_law_goals_here"] Ziy:=by
 refine T.cO.F.aR Ju (fun cdv A outer s H vs Q E hr h=>?_)
 ·obtain ⟨m,r,g,M,ns,i,j,left,rfl,hm,hrw,hg,td,hi,hj,ne,k⟩:=h
  refine ⟨_,(Ze (Zo (i:=3) Ju.nd rfl (Or.inr rfl) (Zj Kw (Y5 (Za Zf Zc)) (Zl Zk (by rfl) T.ae PySem.boot_len (Za (pv 0) Zc))))
   (Ze (Zo (i:=4) Ju.nd rfl (Or.inl rfl) (Zj Kw (Y5 (Za Xy Zc)) (Zl Zk (by rfl) T.ae PySem.boot_len (Za (pv 0) Zc))))
   (Ze (Y1 PassesOwn.never rfl (Xh rfl T.ak (Za (Zl Zk (by rfl) T.ae PySem.boot_len (Za (pv 0) Zc)) Zc)) (Zn (i:=5) Ju.nd rfl (Or.inl rfl)) (Ze (Xn (Zs Uv (Zs Zt (pv 1) (Zj Y2 (pv 5) Zf) (fun _ _=>rfl)) (Zj Zy (pv 5) Zf) (fun _ _=>rfl)) (W0 (pv 3) (Zs Zt (pv 2) (pv 5) (fun _ _=>rfl)) Xw))
   (Zh (Yd (Zq Jb (Zs Zt (pv 0) (pv 5) (fun _ _=>rfl)) Xy (Zu _)) (Zh (Xn (Zs Zt (pv 2) (Zs Zt (pv 0) (pv 5) (fun _ _=>rfl)) (fun _ _=>rfl)) (W0 (pv 4) (Zs Zt (pv 2) (pv 5) (fun _ _=>rfl)) Xw))) Z3))))
   (Zh (Zp (Xo (Za (pv 4) (Za (Ys (ts:=["_law_k"]) (fv:=[("_law_names",3)]) ⟨rfl,by decide +kernel,by decide +kernel,Z6 (by rfl),⟨⟨rfl,rfl,Or.inl rfl⟩,trivial⟩⟩ rfl (Xh rfl T.ak (Za (Zl Zk (by rfl) T.ae PySem.boot_len (Za (pv 1) Zc)) Zc)) (fun _ _ _ _=>(Zn (i:=0) (show List.Nodup (["_law_k","_law_names"]:List Str) from by decide +kernel) rfl (Or.inl rfl) (Or.inr rfl))) (fun _ _ _ _=>Yf) (fun _ _ _=>rfl) (fun _ _ _ _ _ _=>Ya (Xo (Za (Zs (Xb K) (pv 1) (Zj Xa Zf (pv 0)) (fun _ _=>rfl)) (Za (Zs (Xb K) (pv 1) (Zj Z8 (Zj Xa Zf (pv 0)) Zf) (fun _ _=>rfl)) (Za (Zs (Xb K) (pv 1) (Zj Z8 (Zj Xa Zf (pv 0)) Zf) (fun _ _=>rfl)) Zc)))))) Zc)))))))),?_⟩
  obtain ⟨n,n1,n40,hn⟩:=td.n
  have hMl:=td.len
  have hi3:i < 3 * n:=by omega
  have hj3:j < 3 * n:=by omega
  have eT:(((M.map mV).length:Nat):Int).toNat=3 * n:=by rw [List.length_map,hn]; omega
  have rp:∀ v:V,1 * (((M.map mV).length:Nat):Int).toNat≤sizeLine:=fun v=>by rw [eT,sizeLine_eq]; omega
  have gp:∀ c,c < M.length→((List.range M.length).map fun (z:Nat)=>mvI left i j (z:Int))[c]?=some ((mvN left i j c:Nat):Int):=fun c hc=>by rw [List.getElem?_map,List.getElem?_range hc,Qj]; rfl
  refine Z2 fun nxC hnxC=>?_
  refine ⟨(by show 1≤sizeLine; decide),fun q hq=>?_⟩
  have s1:Same H (upd H q (.lst [.int 0])):=Same.new hq
  refine ⟨_,rfl,m,_,rfl,.inl (SqL.of (s1 _ _ hm)),q,_,_,rfl,rfl,Zb,by omega,by rw [List.length_map]; omega,rp (.int 0),fun N hN=>?_⟩
  have eN:(List.replicate (((M.map mV).length:Nat):Int).toNat [V.int 0]).flatten=(mfil left i j (3 * n) (fun z=>ns.getD (mvN (!left) i j z) 0) 0 0).map V.int:=by
   rw [eT,List.flatten_replicate_singleton,Fd,List.map_replicate]
  rw [eN]
  have s2:=s1.trans (Same.new (o:=.lst ((mfil left i j (3 * n) (fun z=>ns.getD (mvN (!left) i j z) 0) 0 0).map V.int)) hN)
  have hN0:H N=none:=s1.free hN
  have hN2:(upd (upd H q (.lst [.int 0])) N (.lst ((mfil left i j (3 * n) (fun z=>ns.getD (mvN (!left) i j z) 0) 0 0).map V.int))) N=some (.lst ((mfil left i j (3 * n) (fun z=>ns.getD (mvN (!left) i j z) 0) 0 0).map V.int)):=Zb
  generalize upd (upd H q (.lst [.int 0])) N (.lst ((mfil left i j (3 * n) (fun z=>ns.getD (mvN (!left) i j z) 0) 0 0).map V.int))=H2 at s2 hN2 ⊢
  refine hnxC _ _ ?_
  refine Z2 fun nxC hnxC=>?_
  refine ⟨(by show 1≤sizeLine; decide),fun q2 hq2=>?_⟩
  have s3:Same H2 (upd H2 q2 (.lst [.non])):=Same.new hq2
  refine ⟨_,rfl,m,_,rfl,.inl (SqL.of (s3 _ _ (s2 _ _ hm))),q2,_,_,rfl,rfl,Zb,by omega,by rw [List.length_map]; omega,rp .non,fun TT hT=>?_⟩
  have eTT:(List.replicate (((M.map mV).length:Nat):Int).toNat [V.non]).flatten=(mfil left i j (3 * n) (fun z=>(M.getD (mvN (!left) i j z) none).map (mvN left i j)) none 0).map mV:=by
   rw [eT,List.flatten_replicate_singleton,Fd,List.map_replicate]
   rfl
  rw [eTT]
  have s4:=s3.trans (Same.new (o:=.lst ((mfil left i j (3 * n) (fun z=>(M.getD (mvN (!left) i j z) none).map (mvN left i j)) none 0).map mV)) hT)
  have hT2:(upd (upd H2 q2 (.lst [.non])) TT (.lst ((mfil left i j (3 * n) (fun z=>(M.getD (mvN (!left) i j z) none).map (mvN left i j)) none 0).map mV))) TT=some (.lst ((mfil left i j (3 * n) (fun z=>(M.getD (mvN (!left) i j z) none).map (mvN left i j)) none 0).map mV)):=Zb
  generalize upd (upd H2 q2 (.lst [.non])) TT (.lst ((mfil left i j (3 * n) (fun z=>(M.getD (mvN (!left) i j z) none).map (mvN left i j)) none 0).map mV))=H4 at s4 hT2 ⊢
  refine hnxC _ _ ?_
  have hTN:TT≠N:=fun z=>by
   have:=s3.free hT
   rw [z,hN2] at this; cases this
  have hT0:H TT=none:=s2.free (s3.free hT)
  have hN4:=s4 _ _ hN2
  have s04:=s2.trans s4
  dsimp only [Zm]
  show tSeq (tFor _ _ _) _ _ _ _
  refine Yk (fun σ H5=>∃ v,σ=[some (.ref m),some (.ref r),some (.ref g),some (.ref N),some (.ref TT),v]∧Same H H5∧H5 N=some (.lst ((exN left i j ns).map V.int))∧H5 TT=some (.lst ((exM left i j M).map mV))) (fun nx hnx=>?_) ?_
  ·refine ⟨_,rfl,m,_,rfl,.inl (SqL.of (s04 _ _ hm)),_,rfl,by omega,by rw [List.length_map]; omega,?_⟩
   have eL:(((M.map mV).length:Nat):Int).toNat=M.length:=by simp
   rw [eL]
   refine Wb (n:=M.length) (fun c σ H5=>∃ v,σ=[some (.ref m),some (.ref r),some (.ref g),some (.ref N),some (.ref TT),v]∧Same H H5∧H5 N=some (.lst ((mfil left i j (3 * n) (fun z=>ns.getD (mvN (!left) i j z) 0) 0 c).map V.int))∧H5 TT=some (.lst ((mfil left i j (3 * n) (fun z=>(M.getD (mvN (!left) i j z) none).map (mvN left i j)) none c).map mV))) ⟨none,rfl,s04,hN4,hT2⟩ ?_ ?_
   ·rintro c σ H5 hc ⟨v,rfl,s5,h5,h6⟩
    dsimp only [Zm]
    rw [Int.zero_add]
    have hcn:c < ns.length:=by omega
    obtain ⟨y,hy⟩:∃ y,ns[c]?=some y:=⟨_,List.getElem?_eq_getElem hcn⟩
    have ey:ns.getD c 0=y:=by rw [List.getD_eq_getElem?_getD,hy]; rfl
    obtain ⟨ts',q,e1,e2,e3,e4⟩:=Zgy (hrw.same s5) hy
    have hmc:mvN left i j c < 3 * n:=Xi hi3 hj3 left (by omega)
    refine ⟨_,rfl,_,rfl,_,_,rfl,rfl,⟨by decide,by decide⟩,r,_,_,_,rfl,rfl,SqL.of e1,(by rw [div3]; exact Yu e2),_,rfl,_,_,rfl,rfl,(by show (0:Int) < 3; decide),q,_,_,_,rfl,rfl,SqT.of e3,(by rw [mod3]; exact Xr e4),?_⟩
    refine ⟨_,rfl,_,rfl,_,rfl,g,_,_,_,rfl,rfl,SqL.of (s5 _ _ hg),Yu (gp c hc),N,_,_,mvN left i j c,rfl,rfl,h5,(by rw [List.length_map,Zb8]; exact Wi hmc),?_⟩
    have eN':((mfil left i j (3 * n) (fun z=>ns.getD (mvN (!left) i j z) 0) 0 c).map V.int).set (mvN left i j c) (V.int y)=(mfil left i j (3 * n) (fun z=>ns.getD (mvN (!left) i j z) 0) 0 (c + 1)).map V.int:=by
     rw [← Fe ne hmc,List.map_set,Yh ne,ey]
    rw [eN']
    have s6:Same H (upd H5 N (.lst ((mfil left i j (3 * n) (fun z=>ns.getD (mvN (!left) i j z) 0) 0 (c + 1)).map V.int))):=Same.add s5 hN0
    have h7:(upd H5 N (.lst ((mfil left i j (3 * n) (fun z=>ns.getD (mvN (!left) i j z) 0) 0 (c + 1)).map V.int))) TT=_:=(Zd hTN).trans h6
    have h8:(upd H5 N (.lst ((mfil left i j (3 * n) (fun z=>ns.getD (mvN (!left) i j z) 0) 0 (c + 1)).map V.int))) N=some (.lst ((mfil left i j (3 * n) (fun z=>ns.getD (mvN (!left) i j z) 0) 0 (c + 1)).map V.int)):=Zb
    generalize upd H5 N (.lst ((mfil left i j (3 * n) (fun z=>ns.getD (mvN (!left) i j z) 0) 0 (c + 1)).map V.int))=H6 at s6 h7 h8 ⊢
    obtain ⟨mc,hmcE⟩:∃ mc,M[c]?=some mc:=⟨_,List.getElem?_eq_getElem hc⟩
    have eMc:M.getD c none=mc:=by rw [List.getD_eq_getElem?_getD,hmcE]; rfl
    refine ⟨_,rfl,_,rfl,m,_,_,_,rfl,rfl,SqL.of (s6 _ _ hm),Yu hmcE,rfl,_,rfl,?_⟩
    cases mc with
    | none =>
     refine iteF ⟨_,rfl,s6,h8,?_⟩
     rw [h7,Zhw ne (by rw [Yh ne,eMc]; rfl)]
    | some b =>
     have hb:b < M.length:=(List.getElem?_eq_some_iff.mp (td.inv c b hmcE).1).1
     refine iteT ⟨_,rfl,_,rfl,_,rfl,m,_,_,_,rfl,rfl,SqL.of (s6 _ _ hm),Yu hmcE,g,_,_,_,rfl,rfl,SqL.of (s6 _ _ hg),Yu (gp b hb),?_⟩
     refine ⟨_,rfl,_,rfl,_,rfl,g,_,_,_,rfl,rfl,SqL.of (s6 _ _ hg),Yu (gp c hc),TT,_,_,mvN left i j c,rfl,rfl,h7,(by rw [List.length_map,Zb8]; exact Wi hmc),?_⟩
     refine ⟨_,rfl,Same.add s6 hT0,by rw [Zd (Ne.symm hTN)]; exact h8,?_⟩
     rw [Zb,← Fe ne hmc,List.map_set,Yh ne,eMc]
     rfl
   ·rintro σ H5 ⟨v,rfl,s5,h5,h6⟩
    rw [hn,Zju hi3 hj3] at h5 h6
    refine hnx _ _ ⟨_,rfl,s5,?_,?_⟩
    ·rw [h5]; unfold exN; rw [hMl,hn]
    ·rw [h6]; unfold exM; rw [hn]
  rintro σ H5 ⟨v,rfl,s5,h5,h6⟩
  have hxl:(exN left i j ns).length=3 * n:=by rw [J7]; omega
  generalize exN left i j ns=F at h5 hxl k ⊢
  obtain ⟨ts0,w1,w2,w3⟩:=hrw.same s5
  have ets:ts0.length=n:=by omega
  refine ⟨_,rfl,_,rfl,r,_,rfl,.inl (SqL.of w1),_,rfl,by omega,by rw [List.length_map]; omega,fun D hD=>?_⟩
  have eD:(((ts0.map V.ref).length:Nat):Int).toNat=n:=by rw [List.length_map]; omega
  rw [eD]
  have hND:N≠D:=Zi h5 hD
  have hTD:TT≠D:=Zi h6 hD
  refine J1 (fun c σ H6=>∃ (ts:List Addr) (v:Option V),σ=[v,some (.ref N)]∧Same H5 H6∧H6 D=some (.lst (ts.map V.ref))∧ts.length=c∧∀ (k:Nat) (t:Addr),ts[k]?=some t→H6 t=some (.tup (row3 F k)))
   ⟨[],none,rfl,Same.new hD,Zb,rfl,fun k t z=>by simp at z⟩ ?_ ?_
  ·rintro c σ H6 hlt ⟨ts,v,rfl,s6,g1,hl2,g3⟩
   have g2:=s6 _ _ h5
   have at':∀ (e:Nat) (z:Int),e < 3→z=3 * (0 + (c:Int)) + e→atI (F.map V.int) z=some (V.int (F.getD (3 * c + e) 0)):=fun e z he hz=>by
    have e:z=((3 * c + e:Nat):Int):=by omega
    rw [e]
    exact Xr (getI (by omega))
   dsimp only [Zm,tYes]
   rw [if_pos rfl]
   refine ⟨_,rfl,_,rfl,_,_,rfl,rfl,.inl ⟨by decide,by decide⟩,N,_,_,_,rfl,rfl,SqL.of g2,at' 0 _ (by decide) (by simp),?_⟩
   refine ⟨_,rfl,_,rfl,_,_,rfl,rfl,.inl ⟨by decide,by decide⟩,_,_,rfl,rfl,N,_,_,_,rfl,rfl,SqL.of g2,at' 1 _ (by decide) rfl,?_⟩
   refine ⟨_,rfl,_,rfl,_,_,rfl,rfl,.inl ⟨by decide,by decide⟩,_,_,rfl,rfl,N,_,_,_,rfl,rfl,SqL.of g2,at' 2 _ (by decide) rfl,?_⟩
   refine ⟨(by show 3≤sizeLine; decide),fun q hq=>?_⟩
   have hqD:q≠D:=fun z=>by rw [z,g1] at hq; cases hq
   have s7:Same H6 (upd H6 q (.tup (row3 F c))):=Same.new hq
   refine ⟨_,s7 _ _ g1,(by rw [List.length_map]; exact Zr (by omega)),ts ++ [q],_,rfl,Same.add (s6.trans s7) hD,?_,?_,?_⟩
   ·rw [Zb]; simp
   ·rw [List.length_append,List.length_singleton,hl2]
   ·intro k t z
    by_cases hk:k < ts.length
    ·rw [List.getElem?_append_left hk] at z
     have g:=s7 _ _ (g3 k t z)
     rw [Zd (fun e=>by rw [e,s7 _ _ g1] at g; cases g)]
     exact g
    ·have hk2:k=ts.length:=by
      have:=(List.getElem?_eq_some_iff.mp z).1
      rw [List.length_append,List.length_singleton] at this
      omega
     subst hk2
     have:t=q:=by simpa using z.symm
     subst this
     rw [Zd hqD,Zb,hl2]
     rfl
  ·rintro σ H6 ⟨ts,v,rfl,s6,g1,hl2,g3⟩
   refine ⟨(by show 2≤sizeLine; decide),fun p5 hp5=>?_⟩
   have s7:=Same.new (o:=.tup [V.ref TT,V.ref D]) hp5
   refine k p5 TT D _ ((s5.trans s6).trans s7) Zb (s7 _ _ (s6 _ _ h6)) ⟨ts,s7 _ _ g1,by omega,fun k t z=>s7 _ _ (g3 k t z)⟩
end
end KT
set_option maxHeartbeats 4000000
namespace KT
open PySem L2
theorem Zag {M:List (Option Nat)} {c:Nat} {y:Option Nat} (h:M[aftN c]?=some y):nxC M c=y:=by unfold nxC; rw [h]; rfl
theorem Zdy (i:Nat):(i:Int) - (i:Int) % 3 + ((i:Int) + 1) % 3=(aftN i:Int):=by rw [← Xs]; exact Gb i
theorem dN {a b:Nat}:decide (V.int (a:Int)=V.int (b:Int))=decide (a=b):=by
 by_cases z:a=b
 ·subst z; simp
 ·rw [decide_eq_false z,decide_eq_false (fun y=>z (by injection y with y; omega))]
theorem FanEnd.mk' {M:List (Option Nat)} {c l:Nat} {cs:List Nat} {y:Option Nat} (h:Fan M c cs) (hl:cs[cs.length - 1]?=some l) (hy:nxC M l=y) (hc:∀ j,y=some j→j=c):FanEnd M c cs y.isSome :=
 ⟨h,l,hl,by
  rw [hy]
  cases y with
  | none=>rfl
  | some j=>rw [hc j rfl]; rfl⟩
noncomputable def Zfg (C:Addr):Sp:=fun vs H Q _=>∃ (p:Addr) (M:List (Option Nat)) (ns:List Int) (c n:Nat),vs=[.ref p,.int c]∧Zw C H p M ns∧M.length=ns.length∧M.length=3 * n∧M.length≤1000∧InvM M∧c < M.length ∧
 ∀ (l:Addr) (cs:List Nat) (cl:Bool) (H':Hp),Same H H'→H l=none→H' l=some (.lst (cs.map nV))→FanEnd M c cs cl→Q (.ref l) H'
noncomputable def Zmq:Sp:=fun vs H Q _=>∃ (m:Addr) (M:List (Option Nat)) (c n:Nat),vs=[.ref m,.int c]∧H m=some (.lst (M.map mV))∧M.length=3 * n∧M.length≤1000∧InvM M∧c < M.length ∧
 ∀ (q l:Addr) (cs:List Nat) (cl:Bool) (H':Hp),Same H H'→H l=none→H' l=some (.lst (cs.map nV))→H' q=some (.tup [.bl cl,.ref l])→FanEnd M c cs cl→Q (.ref q) H'
section
variable {P:Program} {w:World} {K:PySem.W.Frag} {mg:Str→Option Value} {base:Heap} {t:Adr}
theorem X3:FnScope ["tent","corner","corners","following"] ["tent","corner"] (Zg Q1):=⟨rfl,rfl,rfl,by decide +kernel,rfl,by decide +kernel,by decide +kernel⟩
theorem W2 (T:Txt w K mg t):FnOk P w K mg base (CXr P w) 4 t.al t.bg ["tent","corner"] (Zfg t.aa):=by
 refine T.am.F.aR X3 (fun cdv A outer s H vs Q E hr h=>?_)
 ·obtain ⟨p,M,ns,c,n,rfl,ta,hMl,hn,h1000,inv,hc,k⟩:=h
  have step:∀ x,x < M.length→aftN x < M.length:=fun x hx=>by rw [hn] at hx ⊢; exact Gw hx
  have low:∀ x,x < M.length→(0:Int)≤after (x:Int)∧after (x:Int) < ns.length:=fun x hx=>by have:=step x hx; rw [Xs]; omega
  refine ⟨_,(Ze (Zo (i:=2) X3.nd rfl (Or.inl rfl) (Y5 (Za (pv 1) Zc)))
   (Ze (Zo (i:=3) X3.nd rfl (Or.inl rfl) (Wv (pv 0) T.ac T.aj.m (W3 T) (hr.mono (by decide)) T.aj.b .nil Y6 (Za (pcT (Qh T) hr T.bq (Za (pv 1) Zc)) Zc)))
   (Ze (Wr PassesOwn.never (PW.pt (Q5 (Zq Jb (pv 3) Xy (Zu _)) (J6 (Zq Jz (pv 3) (pv 1) (Zu _))))) (Ze (Yg (Y3 PySem.F.plainAttrs_list PySem.F.slot_list_append PySem.F.type_list_append Yc (pv 2) (Za (pv 3) Zc)))
   (Zh (Zo (i:=3) X3.nd rfl (Or.inl rfl) (Wv (pv 0) T.ac T.aj.m (W3 T) (hr.mono (by decide)) T.aj.b .nil Y6 (Za (pcT (Qh T) hr T.bq (Za (pv 3) Zc)) Zc))))))
   (Zh (Zp (pv 2)))))),?_⟩
  refine ⟨_,rfl,(by show 1≤sizeLine; rw [sizeLine_eq]; decide),fun l hl=>?_⟩
  have s0:Same H (upd H l (.lst [V.int c])):=Same.new hl
  have h0:(upd H l (.lst [V.int c])) l=some (.lst ([c].map nV)):=Zb
  generalize upd H l (.lst [V.int c])=H0 at s0 h0
  have ta0:=ta.same s0
  obtain ⟨dx,cl,na,sp,mt',o,f,b⟩:=id ta0
  dsimp only [Zm]
  refine ⟨_,rfl,p,dx,_,rfl,b.ins,Yv _ _ _ _,_,rfl,(c:Int),rfl,p,M,ns,after c,rfl,ta0,hMl,fun i y e1 e2=>?_,fun z=>absurd (low c hc) z⟩
  have ei:i=aftN c:=by rw [Xs] at e1; omega
  subst ei
  show tSeq (Jl _ _) _ _ _ _
  refine ⟨fun m σ H1=>∃ (cs:List Nat) (la:Nat) (y:Option Nat),m=M.length + 1 - cs.length∧σ=[some (.ref p),some (.int c),some (.ref l),some (mV y)]∧Same H H1∧H1 l=some (.lst (cs.map nV))∧Fan M c cs∧cs[cs.length - 1]?=some la∧nxC M la=y,⟨_,[c],c,y,rfl,rfl,s0,h0,Fan.one hc,rfl,Zag e2⟩,?_⟩
  clear e1 e2 b
  clear y
  rintro m σ H1 ⟨cs,la,y,rfl,rfl,s1,h1,hF,hla,hy⟩
  refine ⟨_,rfl,rfl,_,rfl,?_⟩
  cases y with
  | none =>
   refine iteF (iteF ?_)
   exact ⟨_,rfl,k l cs false H1 s1 hl h1 (FanEnd.mk' hF hla hy (fun j z=>by cases z))⟩
  | some j =>
   refine iteT ⟨_,rfl,_,rfl,rfl,_,rfl,?_⟩
   show if (!decide (V.int (j:Int)=V.int (c:Int)))=true then _ else _
   rw [dN]
   by_cases z:j=c
   ·rw [decide_eq_true z]
    refine iteF ?_
    exact ⟨_,rfl,k l cs true H1 s1 hl h1 (FanEnd.mk' hF hla hy (fun j' e=>by cases e; exact z))⟩
   ·rw [decide_eq_false z]
    have hj:=Zb1 inv hy
    have hF':=hF.snoc inv hla hy z
    have hle:=hF'.len
    rw [List.length_append,List.length_singleton] at hle
    refine iteT ⟨_,fun σ' H' h=>h,?_⟩
    refine ⟨_,rfl,.inl ⟨rfl,_,SqL.of h1⟩,_,rfl,l,_,_,rfl,rfl,h1,(by rw [List.length_map]; exact Zr (by omega)),?_⟩
    have s2:Same H (upd H1 l (.lst (cs.map nV ++ [mV (some j)]))):=Same.add s1 hl
    have h2:(upd H1 l (.lst (cs.map nV ++ [mV (some j)]))) l=some (.lst ((cs ++ [j]).map nV)):=by rw [Zb,List.map_append]; rfl
    show _
    generalize upd H1 l (.lst (cs.map nV ++ [mV (some j)]))=H2 at s2 h2
    have ta2:=ta.same s2
    obtain ⟨dx,cl,na,sp,mt',o,f,b⟩:=id ta2
    dsimp only [Zm]
    refine ⟨_,rfl,p,dx,_,rfl,b.ins,Yv _ _ _ _,_,rfl,(j:Int),rfl,p,M,ns,after j,rfl,ta2,hMl,fun i y e1 e2=>?_,fun z=>absurd (low j hj) z⟩
    have ei:i=aftN j:=by rw [Xs] at e1; omega
    subst ei
    refine ⟨M.length + 1 - (cs ++ [j]).length,by rw [List.length_append,List.length_singleton]; omega,cs ++ [j],j,y,rfl,rfl,s2,h2,hF',?_,Zag e2⟩
    rw [List.length_append,List.length_singleton,Nat.add_sub_cancel,List.getElem?_append_right (Nat.le_refl _),Nat.sub_self]
    rfl
theorem Vl:FnScope ["_law_mates","_law_corner","_law_row","_law_goal"] ["_law_mates","_law_corner"] (Zg Zd4):=⟨rfl,rfl,rfl,by decide +kernel,rfl,by decide +kernel,by decide +kernel⟩
theorem Zjq (T:Txt w K mg t):FnOk P w K mg base (CXr P w) 1 t.dQ t.dW ["_law_mates","_law_corner"] Zmq:=by
 refine T.dZ.F.aR Vl (fun cdv A outer s H vs Q E hr h=>?_)
 ·obtain ⟨p,M,c,n,rfl,hm,hn,h1000,inv,hc,k⟩:=h
  have step:∀ x,x < M.length→aftN x < M.length:=fun x hx=>by rw [hn] at hx ⊢; exact Gw hx
  have at':∀ x,x < M.length→∃ y,M[aftN x]?=some y∧atI (M.map mV) ((x:Int) - (x:Int) % 3 + ((x:Int) + 1) % 3)=some (mV y):=fun x hx=>⟨_,List.getElem?_eq_getElem (step x hx),by rw [Zdy]; exact Yu (List.getElem?_eq_getElem (step x hx))⟩
  refine ⟨_,(Ze (Zo (i:=2) Vl.nd rfl (Or.inl rfl) (Y5 (Za (pv 1) Zc)))
   (Ze (Zo (i:=3) Vl.nd rfl (Or.inl rfl) (Zs Zt (pv 0) (Zj Z8 (Zj Wn (pv 1) (Zj Zy (pv 1) Zf)) (Zj Zy (Zj Z8 (pv 1) Zf) Zf)) (fun _ _=>rfl)))
   (Ze (Wr PassesOwn.never (PW.pt (Q5 (Zq Jb (pv 3) Xy (Zu _)) (J6 (Zq Jz (pv 3) (pv 1) (Zu _))))) (Ze (Yg (Y3 PySem.F.plainAttrs_list PySem.F.slot_list_append PySem.F.type_list_append Yc (pv 2) (Za (pv 3) Zc)))
   (Zh (Zo (i:=3) Vl.nd rfl (Or.inl rfl) (Zs Zt (pv 0) (Zj Z8 (Zj Wn (pv 3) (Zj Zy (pv 3) Zf)) (Zj Zy (Zj Z8 (pv 3) Zf) Zf)) (fun _ _=>rfl))))))
   (Zh (Zp (Xo (Za (Gk Jb (pv 3) Xy (Zu _)) (Za (pv 2) Zc)))))))),?_⟩
  refine ⟨_,rfl,(by show 1≤sizeLine; rw [sizeLine_eq]; decide),fun l hl=>?_⟩
  have s0:Same H (upd H l (.lst [V.int c])):=Same.new hl
  have h0:(upd H l (.lst [V.int c])) l=some (.lst ([c].map nV)):=Zb
  generalize upd H l (.lst [V.int c])=H0 at s0 h0
  obtain ⟨y,e2,e3⟩:=at' c hc
  dsimp only [Zm]
  refine ⟨_,rfl,_,rfl,_,rfl,_,_,rfl,rfl,(by show (0:Int) < 3; decide),_,_,rfl,rfl,_,rfl,_,_,rfl,rfl,_,_,rfl,rfl,(by show (0:Int) < 3; decide),_,_,rfl,rfl,p,_,_,_,rfl,rfl,SqL.of (s0 _ _ hm),e3,?_⟩
  show tSeq (Jl _ _) _ _ _ _
  refine ⟨fun m σ H1=>∃ (cs:List Nat) (la:Nat) (y:Option Nat),m=M.length + 1 - cs.length∧σ=[some (.ref p),some (.int c),some (.ref l),some (mV y)]∧Same H H1∧H1 l=some (.lst (cs.map nV))∧Fan M c cs∧cs[cs.length - 1]?=some la∧nxC M la=y,⟨_,[c],c,y,rfl,rfl,s0,h0,Fan.one hc,rfl,Zag e2⟩,?_⟩
  clear e2 e3
  clear y
  rintro m σ H1 ⟨cs,la,y,rfl,rfl,s1,h1,hF,hla,hy⟩
  refine ⟨_,rfl,rfl,_,rfl,?_⟩
  cases y with
  | none =>
   refine iteF (iteF ?_)
   refine ⟨_,rfl,rfl,_,rfl,(by show 2≤sizeLine; rw [sizeLine_eq]; decide),fun q hq=>?_⟩
   have s2:Same H1 (upd H1 q (.tup [V.bl false,V.ref l])):=Same.new hq
   exact k q l cs false _ (s1.trans s2) hl (s2 _ _ h1) Zb (FanEnd.mk' hF hla hy (fun j z=>by cases z))
  | some j =>
   refine iteT ⟨_,rfl,_,rfl,rfl,_,rfl,?_⟩
   show if (!decide (V.int (j:Int)=V.int (c:Int)))=true then _ else _
   rw [dN]
   by_cases z:j=c
   ·rw [decide_eq_true z]
    refine iteF ?_
    refine ⟨_,rfl,rfl,_,rfl,(by show 2≤sizeLine; rw [sizeLine_eq]; decide),fun q hq=>?_⟩
    have s2:Same H1 (upd H1 q (.tup [V.bl true,V.ref l])):=Same.new hq
    exact k q l cs true _ (s1.trans s2) hl (s2 _ _ h1) Zb (FanEnd.mk' hF hla hy (fun j' e=>by cases e; exact z))
   ·rw [decide_eq_false z]
    have hj:=Zb1 inv hy
    have hF':=hF.snoc inv hla hy z
    have hle:=hF'.len
    rw [List.length_append,List.length_singleton] at hle
    refine iteT ⟨_,fun σ' H' h=>h,?_⟩
    refine ⟨_,rfl,.inl ⟨rfl,_,SqL.of h1⟩,_,rfl,l,_,_,rfl,rfl,h1,(by rw [List.length_map]; exact Zr (by omega)),?_⟩
    have s2:Same H (upd H1 l (.lst (cs.map nV ++ [mV (some j)]))):=Same.add s1 hl
    have h2:(upd H1 l (.lst (cs.map nV ++ [mV (some j)]))) l=some (.lst ((cs ++ [j]).map nV)):=by rw [Zb,List.map_append]; rfl
    show _
    generalize upd H1 l (.lst (cs.map nV ++ [mV (some j)]))=H2 at s2 h2
    obtain ⟨y,e2,e3⟩:=at' j hj
    dsimp only [Zm]
    refine ⟨_,rfl,_,rfl,_,rfl,_,_,rfl,rfl,(by show (0:Int) < 3; decide),_,_,rfl,rfl,_,rfl,_,_,rfl,rfl,_,_,rfl,rfl,(by show (0:Int) < 3; decide),_,_,rfl,rfl,p,_,_,_,rfl,rfl,SqL.of (s2 _ _ hm),e3,?_⟩
    refine ⟨M.length + 1 - (cs ++ [j]).length,by rw [List.length_append,List.length_singleton]; omega,cs ++ [j],j,y,rfl,rfl,s2,h2,hF',?_,Zag e2⟩
    rw [List.length_append,List.length_singleton,Nat.add_sub_cancel,List.getElem?_append_right (Nat.le_refl _),Nat.sub_self]
    rfl
end
end KT
set_option maxHeartbeats 4000000
namespace KT
open PySem L2
noncomputable def LLat (H:Hp) (l:Addr) (gs:List (List Nat)):Prop:=∃ as:List Addr,H l=some (.lst (as.map V.ref))∧as.length=gs.length∧∀ (i:Nat) (a:Addr) (g:List Nat),as[i]?=some a→gs[i]?=some g→H a=some (.lst (g.map nV))
theorem LLat.same {H H':Hp} {l:Addr} {gs:List (List Nat)} (h:LLat H l gs) (s:Same H H'):LLat H' l gs:=by
 obtain ⟨as,h1,h2,h3⟩:=h
 exact ⟨as,s _ _ h1,h2,fun i a g ha hg=>s _ _ (h3 i a g ha hg)⟩
theorem Zbl {M:List (Option Nat)} {i:Nat}:(List.range (i + 1)).filter (rimB M)=if rimB M i=true then (List.range i).filter (rimB M) ++ [i] else (List.range i).filter (rimB M):=by
 rw [List.range_succ,List.filter_append]
 by_cases c:rimB M i=true
 ·simp [c]
 ·simp [c]
theorem Zg1 {M:List (Option Nat)} {i:Nat} (h:M[i]?=some none):rimB M i=true:=decide_eq_true h
theorem Zg0 {M:List (Option Nat)} {i j:Nat} (h:M[i]?=some (some j)):rimB M i=false:=decide_eq_false (by rw [h]; simp)
noncomputable def F0 (C:Addr):Sp:=fun vs H Q _=>∃ (p:Addr) (M:List (Option Nat)) (ns:List Int),vs=[.ref p]∧Zw C H p M ns∧ns.length≤1000∧∀ l,H l=none→Q (.ref l) (upd H l (.lst ((List.range ns.length).map nV)))
noncomputable def Fy (C:Addr):Sp:=fun vs H Q _=>∃ (p:Addr) (M:List (Option Nat)) (ns:List Int),vs=[.ref p]∧Zw C H p M ns∧M.length=ns.length∧M.length≤1000∧∀ (l:Addr) (H':Hp),Same H H'→H' l=some (.lst ((rimL M).map nV))→Q (.ref l) H'
structure LLx (H:Hp) (l:Addr) (as:List Addr) (gs:List (List Nat)) (av:List Addr):Prop where
 at':H l=some (.lst (as.map V.ref))
 len:as.length=gs.length
 row:∀ (i:Nat) (a:Addr) (g:List Nat),as[i]?=some a→gs[i]?=some g→H a=some (.lst (g.map nV))
 off:∀ a∈as,a ∉ av
theorem LLx.ll {H:Hp} {l:Addr} {as:List Addr} {gs:List (List Nat)} {av:List Addr} (h:LLx H l as gs av):LLat H l gs:=⟨as,h.at',h.len,h.row⟩
theorem LLx.same {H H':Hp} {l:Addr} {as:List Addr} {gs:List (List Nat)} {av:List Addr} (h:LLx H l as gs av) (s:Same H H'):LLx H' l as gs av :=
 ⟨s _ _ h.at',h.len,fun i a g ha hg=>s _ _ (h.row i a g ha hg),h.off⟩
theorem LLx.upd {H:Hp} {l b:Addr} {as:List Addr} {gs:List (List Nat)} {av:List Addr} {o:HO} (h:LLx H l as gs av) (hb:b∈av) (hl:b≠l):LLx (L2.upd H b o) l as gs av :=
 ⟨by rw [Zd (Ne.symm hl)]; exact h.at',h.len,fun i a g ha hg=>by
  rw [Zd (fun z=>h.off a (List.mem_of_getElem? ha) (by rw [z]; exact hb))]
  exact h.row i a g ha hg,h.off⟩
theorem LLx.push {H:Hp} {l x:Addr} {as:List Addr} {gs:List (List Nat)} {g:List Nat} {av:List Addr} (h:LLx H l as gs av) (hl:l∈av) (hx:H x=some (.lst (g.map nV))) (hxa:x ∉ av):LLx (L2.upd H l (.lst (as.map V.ref ++ [V.ref x]))) l (as ++ [x]) (gs ++ [g]) av:=by
 refine ⟨by rw [Zb,List.map_append]; rfl,by rw [List.length_append,List.length_append,h.len]; rfl,fun i a g' ha hg=>?_,fun a ha=>?_⟩
 ·by_cases z:i < as.length
  ·rw [List.getElem?_append_left z] at ha
   rw [List.getElem?_append_left (by rw [← h.len]; exact z)] at hg
   rw [Zd (fun e=>h.off a (List.mem_of_getElem? ha) (by rw [e]; exact hl))]
   exact h.row i a g' ha hg
  ·have hi:=(List.getElem?_eq_some_iff.mp ha).1
   rw [List.length_append,List.length_singleton] at hi
   have hi:i=as.length:=by omega
   subst hi
   rw [List.getElem?_append_right (Nat.le_refl _),Nat.sub_self] at ha
   rw [h.len,List.getElem?_append_right (Nat.le_refl _),Nat.sub_self] at hg
   cases ha
   cases hg
   rw [Zd (fun e=>hxa (by rw [e]; exact hl))]
   exact hx
 ·rcases List.mem_append.mp ha with z | z
  ·exact h.off a z
  ·rw [List.mem_singleton] at z; rw [z]; exact hxa
theorem Zcz (xs:List V) (y:V):atI (xs ++ [y]) (-1)=some y:=by
 unfold atI ixN
 rw [if_neg (by decide),if_pos (by rw [List.length_append,List.length_singleton]; omega)]
 show ((xs ++ [y])[((-1:Int) + (xs ++ [y]).length).toNat]?)=_
 rw [List.length_append,List.length_singleton,show ((-1:Int) + ((xs.length + 1:Nat):Int)).toNat=xs.length by omega,List.getElem?_append_right (Nat.le_refl _),Nat.sub_self]
 rfl
noncomputable def inL (l:List Nat):Int→Bool:=fun k=>decide (k∈wI l)
theorem Ve {l:List Nat} {x:Nat}:inL l (x:Int)=decide (x∈l):=by
 unfold inL
 congr 1
 rw [List.mem_map]
 exact propext ⟨fun ⟨y,hy,e⟩=>by rw [show x=y by omega]; exact hy,fun h=>⟨x,h,rfl⟩⟩
theorem Oa (l:List Nat) (x:Nat):(fun k=>inL l k || decide (k=(x:Int)))=inL (l ++ [x]):=by
 funext k
 unfold inL wI
 rw [List.map_append,Bool.eq_iff_iff,Bool.or_eq_true,decide_eq_true_eq,decide_eq_true_eq,decide_eq_true_eq,List.mem_append]
 simp
theorem U9:(fun _=>false)=inL []:=by funext k; unfold inL; simp
section
variable {P:Program} {w:World} {K:PySem.W.Frag} {mg:Str→Option Value} {base:Heap} {t:Adr}
theorem Ud:FnScope ["self"] ["self"] (Zg Jt):=⟨rfl,rfl,rfl,by decide +kernel,rfl,by decide +kernel,by decide +kernel⟩
theorem X9 (T:Txt w K mg t):FnOk P w K mg base (CXr P w) 1 t.aI t.aL ["self"] (F0 t.aa):=by
 refine T.af.F.aR Ud (fun cdv A outer s H vs Q E hr h=>?_)
 ·obtain ⟨p,M,ns,rfl,⟨dx,cl,na,sp,mt,o,f,b⟩,hl,k⟩:=h
  refine ⟨_,(Zh (Zp (W1 rfl T.aH rfl T.ak rfl (Za (Zl Zk (by rfl) T.ae PySem.boot_len (Za (Xz (pv 0) rfl) Zc)) Zc)))),?_⟩
  exact ⟨_,rfl,p,_,dx,_,_,rfl,b.ins,T.ac,T.ag,O7 ..,na,_,rfl,.inl (SqL.of b.names),ns.length,by rw [List.length_map],hl,fun l hl'=>k l hl'⟩
theorem F2:FnScope ["tent"] ["tent"] (Zg Ue):=⟨rfl,rfl,rfl,by decide +kernel,rfl,by decide +kernel,by decide +kernel⟩
theorem V4 (T:Txt w K mg t):FnOk P w K mg base (CXr P w) 4 t.bu t.bz ["tent"] (Fy t.aa):=by
 refine T.aW.F.aR F2 (fun cdv A outer s H vs Q E hr h=>?_)
 ·obtain ⟨p,M,ns,rfl,ta,hMl,h1000,k⟩:=h
  obtain ⟨dx,cl,na,sp,mt',o,f,b⟩:=id ta
  refine ⟨_,(Zh (Zp (Ys (ts:=["place"]) (fv:=[("tent",0)]) ⟨rfl,by decide +kernel,by decide +kernel,Z6 (by rfl),⟨⟨rfl,rfl,Or.inl rfl⟩,trivial⟩⟩ rfl (Zz (Qg (pv 0) T.ac T.af.m (X9 T) (hr.mono (by decide)) T.af.b .nil Y6)) (fun _ _ _ _=>(Zn (i:=0) (show List.Nodup (["place","tent"]:List Str) from by decide +kernel) rfl (Or.inl rfl) (Or.inr rfl))) (fun _ _ _ _=>(Wu (Zq Zhh (Wv (pv 1) T.ac T.aj.m (W3 T) (hr.mono (by decide)) T.aj.b .nil Y6 (Za (pv 0) Zc)) Xy (Zu _)))) (fun _ _ _=>rfl) (fun _ _ _ _ _ _=>Ya (pv 0))))),?_⟩
  refine ⟨_,rfl,p,dx,_,rfl,b.ins,Yv _ _ _ _,p,M,ns,rfl,ta,by omega,fun l hl=>?_⟩
  have s0:Same H (upd H l (.lst ((List.range ns.length).map nV))):=Same.new hl
  have h0:(upd H l (.lst ((List.range ns.length).map nV))) l=some (.lst ((List.range ns.length).map nV)):=Zb
  generalize upd H l (.lst ((List.range ns.length).map nV))=H0 at s0 h0
  clear b
  refine ⟨l,rfl,⟨_,SqL.of h0⟩,fun D hD=>?_⟩
  refine Z4 (xs:=(List.range ns.length).map nV) (fun i σ H2=>∃ v,σ=[v,some (.ref p)]∧Same H0 H2∧H2 D=some (.lst (((List.range i).filter (rimB M)).map nV))) ⟨none,rfl,Same.new hD,Zb⟩ ?_ ?_ ?_
  ·rintro i σ H2 _ ⟨v,rfl,sm,h2⟩
   exact SqL.of (sm _ _ h0)
  ·rintro i x σ H2 hx ⟨v,rfl,sm,h2⟩
   obtain ⟨hi,rfl⟩:i < ns.length∧x=nV i:=by
    rw [List.getElem?_map] at hx
    by_cases z:i < ns.length
    ·rw [List.getElem?_range z] at hx; cases hx; exact ⟨z,rfl⟩
    ·rw [List.getElem?_eq_none (by rw [List.length_range]; omega)] at hx; cases hx
   have ta2:=(ta.same s0).same sm
   obtain ⟨dx,cl,na,sp,mt',o,f,b⟩:=id ta2
   have lt:(((List.range i).filter (rimB M)).map nV).length < sizeLine:=by
    rw [List.length_map]
    have:=List.length_filter_le (rimB M) (List.range i)
    rw [List.length_range] at this
    exact Zr (by omega)
   dsimp only [Zm]
   refine ⟨_,rfl,p,dx,_,rfl,b.ins,Yv _ _ _ _,_,rfl,p,M,ns,i,rfl,ta2,hMl,fun i' y e1 e2=>?_,fun z=>absurd (show (0:Int)≤i∧(i:Int) < ns.length by omega) z⟩
   have:i'=i:=by omega
   subst this
   refine ⟨rfl,_,rfl,?_⟩
   cases y with
   | none =>
    refine iteT ⟨_,rfl,_,h2,lt,_,rfl,Same.add sm hD,?_⟩
    rw [Zb,Zbl,if_pos (Zg1 e2),List.map_append]; rfl
   | some j =>
    refine iteF ⟨_,rfl,sm,?_⟩
    rw [h2,Zbl,if_neg (by rw [Zg0 e2]; decide)]
  rintro σ H2 ⟨v,rfl,sm,h2⟩
  rw [List.length_map,List.length_range,← hMl] at h2
  exact k D H2 (s0.trans sm) h2
end
end KT
set_option maxHeartbeats 4000000
namespace KT
open PySem L2
theorem O6 {M:List (Option Nat)} {S:List Nat} {x:Nat}:((S ++ [x]).map (fanL M)).flatten=(S.map (fanL M)).flatten ++ fanL M x:=by rw [List.map_append,List.flatten_append]; simp
noncomputable def Zk9 (C fr:Addr):Sp:=fun vs H Q _=>∃ (p a:Addr) (M:List (Option Nat)) (ns:List Int) (ps:List Nat) (n:Nat),vs=[.ref p,.ref a,.ref fr]∧Zw C H p M ns∧M.length=ns.length∧M.length=3 * n∧M.length≤60∧InvM M∧H a=some (.lst (ps.map nV))∧(∀ c∈ps,c < M.length)∧ps.length≤60∧∀ (l:Addr) (as:List Addr) (H':Hp),Same H H'→LLx H' l as ((Yl M ps).map (fanL M)) []→Q (.ref l) H'
section
variable {P:Program} {w:World} {K:PySem.W.Frag} {mg:Str→Option Value} {base:Heap} {t:Adr}
theorem Z1:FnScope ["tent","numbers","group_from","seen","groups","number","other"] ["tent","numbers","group_from"] (Zg On):=⟨rfl,rfl,rfl,by decide +kernel,rfl,by decide +kernel,by decide +kernel⟩
theorem Zby (T:Txt w K mg t):FnOk P w K mg base (CXr P w) 7 t.aK t.aO ["tent","numbers","group_from"] (Zk9 t.aa t.al):=by
 refine T.aw.F.aR Z1 (fun cdv A outer s H vs Q E hr h=>?_)
 ·obtain ⟨p,a,M,ns,ps,n,rfl,ta,hMl,hn,h60,inv,ha,hlt,hpl,k⟩:=h
  refine ⟨_,(Ze (Zo (i:=3) Z1.nd rfl (Or.inl rfl) (Vs Uz (by rfl) T.eC PySem.Pv.boot_set))
   (Ze (Zo (i:=4) Z1.nd rfl (Or.inl rfl) (Y5 Zc))
   (Ze (Y1 PassesOwn.never rfl (Zz (pv 1)) (Zn (i:=5) Z1.nd rfl (Or.inl rfl)) (Zh (Yd (Zq Jh (pv 5) (pv 3) (by with_unfolding_all rfl)) (Ze (Yg (Y3 PySem.F.plainAttrs_list PySem.F.slot_list_append PySem.F.type_list_append Yc (pv 4) (Za (Ow (i:=2) (W2 T) (hr.mono (by decide)) rfl (Or.inl rfl) T.am.F.kp T.am.b .nil Y6 (Za (pv 0) (Za (pv 5) Zc))) Zc)))
   (Zh (Y1 PassesOwn.never rfl (Zz (Zs Zt (pv 4) (Zad Ka Zf) (fun _ _=>rfl))) (Zn (i:=6) Z1.nd rfl (Or.inl rfl)) (Zh (Yg (Y3 PySem.F.plainAttrs_set PySem.F.slot_set_add PySem.F.type_set_add Qr (pv 3) (Za (pv 6) Zc))))))) Z3)))
   (Zh (Zp (pv 4)))))),?_⟩
  refine ⟨rfl,fun sN hsN=>?_⟩
  rw [U9]
  refine ⟨Nat.zero_le _,fun g hg=>?_⟩
  obtain ⟨hgs,hg0⟩:=Xv hg
  have s0:Same H (upd (upd H sN (.set (inL []) 0)) g (.lst [])):=Same.add (Same.new hsN) hg0
  have l0:LLx (upd (upd H sN (.set (inL []) 0)) g (.lst [])) g [] [] [g,sN]:=⟨Zb,rfl,fun i a g ha _=>by simp at ha,fun a ha=>absurd ha List.not_mem_nil⟩
  have e0:(upd (upd H sN (.set (inL []) 0)) g (.lst [])) sN=some (.set (inL []) 0):=by rw [Zd (Ne.symm hgs),Zb]
  generalize upd (upd H sN (.set (inL []) 0)) g (.lst [])=H0 at s0 l0 e0
  clear hg
  dsimp only [Zm]
  refine ⟨_,rfl,a,rfl,⟨_,SqL.of (s0 _ _ ha)⟩,?_⟩
  refine Wc (xs:=ps.map nV) (fun i σ H1=>∃ (as:List Addr) (m:Nat) (v5 v6:Option V),σ=[some (.ref p),some (.ref a),some (.ref t.al),some (.ref sN),some (.ref g),v5,v6]∧Same H H1∧H1 sN=some (.set (inL ((Yl M (ps.take i)).map (fanL M)).flatten) m)∧m≤((Yl M (ps.take i)).map (fanL M)).flatten.length∧((Yl M (ps.take i)).map (fanL M)).flatten.length≤60 * i∧(Yl M (ps.take i)).length≤i∧LLx H1 g as ((Yl M (ps.take i)).map (fanL M)) [g,sN]) ⟨[],0,none,none,rfl,s0,e0,Nat.le_refl _,Nat.le_refl _,Nat.le_refl _,l0⟩ ?_ ?_ ?_
  ·rintro i σ H1 _ ⟨as,m,v5,v6,rfl,s1,_⟩
   exact SqL.of (s1 _ _ ha)
  ·rintro i y σ H1 hy ⟨as,m,v5,v6,rfl,s1,h1,hm1,hf1,hS1,l1⟩
   obtain ⟨x,hx,rfl⟩:=map_some hy
   have hi:i < ps.length:=(List.getElem?_eq_some_iff.mp hx).1
   have et:ps.take (i + 1)=ps.take i ++ [x]:=by rw [List.take_add_one,hx]; rfl
   rw [et]
   have hxl:=hlt x (List.mem_of_getElem? hx)
   have gin:=@Zci M (ps.take i) x
   have gnew:=@Fk M (ps.take i) x
   clear et
   generalize Yl M (ps.take i)=S at h1 hm1 hf1 hS1 l1 gin gnew
   dsimp only [Zm]
   refine ⟨_,rfl,_,rfl,(x:Int),sN,_,_,rfl,rfl,h1,_,rfl,?_⟩
   rw [Ve]
   by_cases hm:x∈(S.map (fanL M)).flatten
   ·rw [decide_eq_true hm]
    refine iteF ?_
    rw [gin hm]
    exact ⟨as,m,_,_,rfl,s1,h1,hm1,by omega,by omega,l1⟩
   ·rw [decide_eq_false hm]
    refine iteT ?_
    refine ⟨_,rfl,.inl ⟨rfl,_,SqL.of l1.at'⟩,rfl,_,rfl,_,rfl,p,M,ns,x,n,rfl,ta.same s1,hMl,hn,by omega,inv,hxl,fun l os cl H2 s2 hl2 h2 hO=>?_⟩
    have hos:fanL M x=os:=by unfold fanL; rw [W6 hO]
    have hol:=hO.len
    have l2:=l1.same s2
    have hasl:as.length≤1000:=by rw [l1.len,List.length_map]; omega
    refine ⟨g,_,_,rfl,rfl,l2.at',(by rw [List.length_map]; exact Zr hasl),?_⟩
    have hlg:l≠g:=fun z=>by rw [z,l1.at'] at hl2; cases hl2
    have hls:l≠sN:=fun z=>by rw [z,h1] at hl2; cases hl2
    have l3:=l2.push (x:=l) (g:=os) List.mem_cons_self h2 (by simp [hlg,hls])
    have s3:Same H (upd H2 g (.lst (as.map V.ref ++ [V.ref l]))):=Same.add (s1.trans s2) hg0
    have h3:(upd H2 g (.lst (as.map V.ref ++ [V.ref l]))) sN=some (.set (inL (S.map (fanL M)).flatten) m):=by rw [Zd (Ne.symm hgs)]; exact s2 _ _ h1
    have h3l:(upd H2 g (.lst (as.map V.ref ++ [V.ref l]))) l=some (.lst (os.map nV)):=by rw [Zd hlg]; exact h2
    have hat:(upd H2 g (.lst (as.map V.ref ++ [V.ref l]))) g=some (.lst (as.map V.ref ++ [V.ref l])):=Zb
    generalize upd H2 g (.lst (as.map V.ref ++ [V.ref l]))=H3 at l3 s3 h3 h3l hat
    refine ⟨_,rfl,_,rfl,g,_,_,_,rfl,rfl,SqL.of hat,Zcz _ _,l,rfl,⟨_,SqL.of h3l⟩,?_⟩
    refine Wc (xs:=os.map nV) (fun j σ H4=>∃ (m':Nat) (v6:Option V),σ=[some (.ref p),some (.ref a),some (.ref t.al),some (.ref sN),some (.ref g),some (.int x),v6]∧Same H H4∧H4 l=some (.lst (os.map nV))∧H4 sN=some (.set (inL ((S.map (fanL M)).flatten ++ os.take j)) m')∧m'≤(S.map (fanL M)).flatten.length + j∧LLx H4 g (as ++ [l]) (S.map (fanL M) ++ [os]) [g,sN]) ⟨m,_,rfl,s3,h3l,by rw [List.take_zero,List.append_nil]; exact h3,hm1,l3⟩ ?_ ?_ ?_
    ·rintro j σ H4 _ ⟨m',v6,rfl,s4,h4,_⟩
     exact SqL.of h4
    ·rintro j y σ H4 hy ⟨m',v6,rfl,s4,h4,e4,hm4,l4⟩
     obtain ⟨z,hz,rfl⟩:=map_some hy
     have hj:j < os.length:=(List.getElem?_eq_some_iff.mp hz).1
     dsimp only [Zm]
     refine ⟨_,rfl,.inr (.inr (.inr ⟨rfl,_,_,e4⟩)),_,rfl,sN,(z:Int),_,_,rfl,rfl,e4,by omega,?_⟩
     rw [Oa]
     refine ⟨(if inL ((S.map (fanL M)).flatten ++ os.take j) (z:Int)=true then m' else m' + 1),_,rfl,Same.add s4 hsN,by rw [Zd hls]; exact h4,?_,?_,l4.upd (by simp) (Ne.symm hgs)⟩
     ·rw [Zb,List.take_add_one,hz,List.append_assoc]
      rfl
     ·split <;> omega
    ·rintro σ H4 ⟨m',v6,rfl,s4,h4,e4,hm4,l4⟩
     rw [List.length_map,List.take_length] at e4
     rw [List.length_map] at hm4
     rw [gnew hm]
     refine ⟨as ++ [l],m',_,_,rfl,s4,?_,?_,?_,?_,?_⟩
     ·rw [O6,hos]; exact e4
     ·rw [O6,hos,List.length_append]; exact hm4
     ·rw [O6,hos,List.length_append]; omega
     ·rw [List.length_append,List.length_singleton]; omega
     ·rw [List.map_append,List.map_cons,List.map_nil,hos]; exact l4
  ·rintro σ H1 ⟨as,m,v5,v6,rfl,s1,h1,hm1,hf1,hS1,l1⟩
   rw [List.length_map,List.take_length] at l1
   exact ⟨_,rfl,k g as H1 s1 ⟨l1.at',l1.len,l1.row,fun _ _=>List.not_mem_nil⟩⟩
end
end KT
set_option maxHeartbeats 4000000
namespace KT
open PySem L2
theorem Zma {ws:List Nat} {i b:Nat} (hl:ws.length=i + 1) (h:ws[i]?=some b):atI (ws.map nV) (-1)=some (nV b):=by
 unfold atI ixN
 rw [if_neg (by decide),if_pos (by rw [List.length_map]; omega)]
 show ((ws.map nV)[((-1:Int) + (ws.map nV).length).toNat]?)=_
 rw [List.length_map,show ((-1:Int) + (ws.length:Int)).toNat=i by omega,List.getElem?_map,h]
 rfl
theorem Zfv (ws:List Nat):ws.map nV=(wI ws).map V.int:=by rw [List.map_map]; rfl
theorem Zan (ws:List Nat):(wI ws).length=ws.length:=by simp
noncomputable def Fz (C:Addr):Sp:=fun vs H Q _=>∃ (p:Addr) (M:List (Option Nat)) (ns:List Int) (c n:Nat),vs=[.ref p,.int c]∧Zw C H p M ns∧M.length=ns.length∧M.length=3 * n∧M.length≤1000∧InvM M∧RimP M c∧∀ (q:Nat) (H':Hp),Same H H'→Bh M c q→Q (.int q) H'
noncomputable def Zc5 (C:Addr):Sp:=fun vs H Q _=>∃ (p:Addr) (M:List (Option Nat)) (ns:List Int) (c n:Nat),vs=[.ref p,.int c]∧Zw C H p M ns∧M.length=ns.length∧M.length=3 * n∧M.length≤1000∧InvM M∧RimP M c∧∀ (l:Addr) (os:List Nat) (H':Hp),Same H H'→H l=none→H' l=some (.lst (os.map nV))→OrbEnd (Bh M) c os→Q (.ref l) H'
noncomputable def Zi2 (C fr:Addr):Sp:=fun vs H Q _=>∃ (p a:Addr) (M:List (Option Nat)) (ns:List Int) (ps:List Nat) (n:Nat),vs=[.ref p,.ref a,.ref fr]∧Zw C H p M ns∧M.length=ns.length∧M.length=3 * n∧M.length≤1000∧InvM M∧H a=some (.lst (ps.map nV))∧(∀ c∈ps,RimP M c)∧∀ (l:Addr) (H':Hp),Same H H'→LLat H' l (Ym M ps)→Q (.ref l) H'
noncomputable def Zk6 (C:Addr):Sp:=fun vs H Q _=>∃ (p:Addr) (M:List (Option Nat)) (ns:List Int) (n:Nat),vs=[.ref p]∧Zw C H p M ns∧M.length=ns.length∧M.length=3 * n∧M.length≤1000∧InvM M∧∀ (l:Addr) (H':Hp),Same H H'→LLat H' l (Ym M (rimL M))→Q (.ref l) H'
noncomputable def Zi0:Sp:=fun vs H Q _=>∃ (a b:Addr) (gs:List (List Nat)),vs=[.ref a,.ref b]∧LLat H a gs∧LLat H b gs∧gs.length≤1000∧(∀ g∈gs,g.length≤1000)∧Q (.bl true) H
theorem O4:∀ (gs:List (List Nat)),(∀ g∈gs,0 < g.length)→gs.length≤gs.flatten.length
 | [],_=>Nat.le_refl _
 | g :: r,h=>by
  have h1:=h g List.mem_cons_self
  have h2:=O4 r fun x hx=>h x (List.mem_cons_of_mem _ hx)
  rw [List.flatten_cons,List.length_append,List.length_cons]
  omega
theorem O3 (l:List Nat):(l.map nV).all J2=true:=by rw [List.all_eq_true]; intro v hv; obtain ⟨x,_,rfl⟩:=List.mem_map.mp hv; rfl
theorem Zez {x y:Nat}:eqV (nV y) (nV x)=decide (y=x):=by
 show decide ((y:Int)=(x:Int))=_
 by_cases z:y=x
 ·subst z; simp
 ·rw [decide_eq_false z,decide_eq_false (by omega)]
theorem Gm {x:Nat} {l:List Nat}:inV (nV x) (l.map nV)=decide (x∈l):=by
 unfold inV
 rw [List.any_map,Bool.eq_iff_iff,List.any_eq_true,decide_eq_true_eq]
 constructor
 ·rintro ⟨y,hy,e⟩
  have e:eqV (nV y) (nV x)=true:=e
  rw [Zez,decide_eq_true_eq] at e
  rw [← e]; exact hy
 ·intro h
  refine ⟨x,h,?_⟩
  show eqV (nV x) (nV x)=true
  rw [Zez,decide_eq_true rfl]
section
variable {P:Program} {w:World} {K:PySem.W.Frag} {mg:Str→Option Value} {base:Heap} {t:Adr}
theorem F3:FnScope ["tent","place"] ["tent","place"] (Zg Uf):=⟨rfl,rfl,rfl,by decide +kernel,rfl,by decide +kernel,by decide +kernel⟩
theorem V5 (T:Txt w K mg t):FnOk P w K mg base (CXr P w) 5 t.bv t.bA ["tent","place"] (Fz t.aa):=by
 refine T.aY.F.aR F3 (fun cdv A outer s H vs Q E hr h=>?_)
 ·obtain ⟨p,M,ns,c,n,rfl,ta,hMl,hn,h1000,inv,hc,k⟩:=h
  refine ⟨_,(Zh (Zp (pcT (Qh T) hr T.bq (Za (Zs Zt (pcT (W2 T) hr T.am (Za (pv 0) (Za (pv 1) Zc))) (Zad Ka Zf) (fun _ _=>rfl)) Zc)))),?_⟩
  refine ⟨_,rfl,_,rfl,p,M,ns,c,n,rfl,ta,hMl,hn,h1000,inv,hc.lt,fun l cs cl H1 s1 _ h1 hF=>?_⟩
  have hcl:=hF.open inv hc
  subst hcl
  obtain ⟨la,hla,_⟩:=hF.last
  have hpos:=hF.pos
  refine ⟨_,rfl,l,_,_,_,rfl,rfl,SqL.of h1,Zma (i:=cs.length - 1) (by omega) hla,(la:Int),rfl,?_⟩
  rw [Xs]
  exact k _ _ s1 ⟨hc,cs,la,hF,hla,rfl⟩
theorem Jg:FnScope ["tent","place","told","following"] ["tent","place"] (Zg Kj):=⟨rfl,rfl,rfl,by decide +kernel,rfl,by decide +kernel,by decide +kernel⟩
theorem Zdg (T:Txt w K mg t):FnOk P w K mg base (CXr P w) 6 t.ax t.cn ["tent","place"] (Zc5 t.aa):=by
 refine T.aZ.F.aR Jg (fun cdv A outer s H vs Q E hr h=>?_)
 ·obtain ⟨p,M,ns,c,n,rfl,ta,hMl,hn,h1000,inv,hc,k⟩:=h
  refine ⟨_,(Ze (Zo (i:=2) Jg.nd rfl (Or.inl rfl) (Y5 (Za (pv 1) Zc)))
   (Ze (Zo (i:=3) Jg.nd rfl (Or.inl rfl) (pcT (V5 T) hr T.aY (Za (pv 0) (Za (pv 1) Zc))))
   (Ze (Wr PassesOwn.never (Zq Jz (pv 3) (pv 1) (Zu _)) (Ze (Yg (Y3 PySem.F.plainAttrs_list PySem.F.slot_list_append PySem.F.type_list_append Yc (pv 2) (Za (pv 3) Zc)))
   (Zh (Zo (i:=3) Jg.nd rfl (Or.inl rfl) (pcT (V5 T) hr T.aY (Za (pv 0) (Za (pv 3) Zc)))))))
   (Zh (Zp (pv 2)))))),?_⟩
  refine ⟨_,rfl,(by show 1≤sizeLine; rw [sizeLine_eq]; decide),fun l hl=>?_⟩
  have s0:Same H (upd H l (.lst [V.int c])):=Same.new hl
  have h0:(upd H l (.lst [V.int c])) l=some (.lst ([c].map nV)):=Zb
  generalize upd H l (.lst [V.int c])=H0 at s0 h0
  dsimp only [Zm]
  refine ⟨_,rfl,_,rfl,p,M,ns,c,n,rfl,ta.same s0,hMl,hn,h1000,inv,hc,fun q H1 s1 hb=>?_⟩
  show tSeq (Jl _ _) _ _ _ _
  refine ⟨fun m σ H2=>∃ (os:List Nat) (la f:Nat),m=M.length + 1 - os.length∧σ=[some (.ref p),some (.int c),some (.ref l),some (.int f)]∧Same H H2∧H2 l=some (.lst (os.map nV))∧Orb (Bh M) c os∧os[os.length - 1]?=some la∧Bh M la f,⟨_,[c],c,q,rfl,rfl,s0.trans s1,s1 _ _ h0,Orb.one c,rfl,hb⟩,?_⟩
  clear hb
  clear q
  rintro m σ H2 ⟨os,la,f,rfl,rfl,s2,h2,hO,hla,hf⟩
  refine ⟨_,rfl,_,rfl,rfl,_,rfl,?_⟩
  show if (!decide (V.int (f:Int)=V.int (c:Int)))=true then _ else _
  rw [dN]
  by_cases z:f=c
  ·rw [decide_eq_true z]
   subst z
   exact iteF ⟨_,rfl,k l os H2 s2 hl h2 ⟨hO,la,hla,hf⟩⟩
  ·rw [decide_eq_false z]
   have hO':=hO.snoc hla hf (hO.new (Bh.inj inv) hla hf z)
   have hrim:=U4 hn hO' hc
   have hle:=X0 _ _ hO'.nodup fun a ha=>(hrim a ha).lt
   rw [List.length_append,List.length_singleton] at hle
   refine iteT ⟨_,fun σ' H' h=>h,?_⟩
   refine ⟨_,rfl,.inl ⟨rfl,_,SqL.of h2⟩,_,rfl,l,_,_,rfl,rfl,h2,(by rw [List.length_map]; exact Zr (by omega)),?_⟩
   have s3:Same H (upd H2 l (.lst (os.map nV ++ [V.int f]))):=Same.add s2 hl
   have h3:(upd H2 l (.lst (os.map nV ++ [V.int f]))) l=some (.lst ((os ++ [f]).map nV)):=by rw [Zb,List.map_append]; rfl
   show _
   generalize upd H2 l (.lst (os.map nV ++ [V.int f]))=H3 at s3 h3
   dsimp only [Zm]
   refine ⟨_,rfl,_,rfl,p,M,ns,f,n,rfl,ta.same s3,hMl,hn,h1000,inv,hf.rim hn,fun q H4 s4 hb=>?_⟩
   refine ⟨M.length + 1 - (os ++ [f]).length,by rw [List.length_append,List.length_singleton]; omega,os ++ [f],f,q,rfl,rfl,s3.trans s4,s4 _ _ h3,hO',?_,hb⟩
   rw [List.length_append,List.length_singleton,Nat.add_sub_cancel,List.getElem?_append_right (Nat.le_refl _),Nat.sub_self]
   rfl
theorem F6 (T:Txt w K mg t):FnOk P w K mg base (CXr P w) 7 t.aK t.aO ["tent","numbers","group_from"] (Zi2 t.aa t.ax):=by
 refine T.aw.F.aR Z1 (fun cdv A outer s H vs Q E hr h=>?_)
 ·obtain ⟨p,a,M,ns,ps,n,rfl,ta,hMl,hn,h1000,inv,ha,hrim,k⟩:=h
  refine ⟨_,(Ze (Zo (i:=3) Z1.nd rfl (Or.inl rfl) (Vs Uz (by rfl) T.eC PySem.Pv.boot_set))
   (Ze (Zo (i:=4) Z1.nd rfl (Or.inl rfl) (Y5 Zc))
   (Ze (Y1 PassesOwn.never rfl (Zz (pv 1)) (Zn (i:=5) Z1.nd rfl (Or.inl rfl)) (Zh (Yd (Zq Jh (pv 5) (pv 3) (by with_unfolding_all rfl)) (Ze (Yg (Y3 PySem.F.plainAttrs_list PySem.F.slot_list_append PySem.F.type_list_append Yc (pv 4) (Za (Ow (i:=2) (Zdg T) (hr.mono (by decide)) rfl (Or.inl rfl) T.aZ.F.kp T.aZ.b .nil Y6 (Za (pv 0) (Za (pv 5) Zc))) Zc)))
   (Zh (Y1 PassesOwn.never rfl (Zz (Zs Zt (pv 4) (Zad Ka Zf) (fun _ _=>rfl))) (Zn (i:=6) Z1.nd rfl (Or.inl rfl)) (Zh (Yg (Y3 PySem.F.plainAttrs_set PySem.F.slot_set_add PySem.F.type_set_add Qr (pv 3) (Za (pv 6) Zc))))))) Z3)))
   (Zh (Zp (pv 4)))))),?_⟩
  refine ⟨rfl,fun sN hsN=>?_⟩
  rw [U9]
  refine ⟨Nat.zero_le _,fun g hg=>?_⟩
  obtain ⟨hgs,hg0⟩:=Xv hg
  have s0:Same H (upd (upd H sN (.set (inL []) 0)) g (.lst [])):=Same.add (Same.new hsN) hg0
  have l0:LLx (upd (upd H sN (.set (inL []) 0)) g (.lst [])) g [] [] [g,sN]:=⟨Zb,rfl,fun i a g ha _=>by simp at ha,fun a ha=>absurd ha List.not_mem_nil⟩
  have e0:(upd (upd H sN (.set (inL []) 0)) g (.lst [])) sN=some (.set (inL ([]:List (List Nat)).flatten) ([]:List (List Nat)).flatten.length):=by rw [Zd (Ne.symm hgs),Zb]; rfl
  generalize upd (upd H sN (.set (inL []) 0)) g (.lst [])=H0 at s0 l0 e0
  clear hg
  dsimp only [Zm]
  refine ⟨_,rfl,a,rfl,⟨_,SqL.of (s0 _ _ ha)⟩,?_⟩
  refine Wc (xs:=ps.map nV) (fun i σ H1=>∃ (as:List Addr) (v5 v6:Option V),σ=[some (.ref p),some (.ref a),some (.ref t.ax),some (.ref sN),some (.ref g),v5,v6]∧Same H H1∧H1 sN=some (.set (inL (Ym M (ps.take i)).flatten) (Ym M (ps.take i)).flatten.length)∧LLx H1 g as (Ym M (ps.take i)) [g,sN]∧GOk M (Ym M (ps.take i))) ⟨[],none,none,rfl,s0,e0,l0,GOk.nil M⟩ ?_ ?_ ?_
  ·rintro i σ H1 _ ⟨as,v5,v6,rfl,s1,h1,l1,g1⟩
   exact SqL.of (s1 _ _ ha)
  ·rintro i y σ H1 hy ⟨as,v5,v6,rfl,s1,h1,l1,g1⟩
   obtain ⟨x,hx,rfl⟩:=map_some hy
   have et:ps.take (i + 1)=ps.take i ++ [x]:=by rw [List.take_add_one,hx]; rfl
   rw [et]
   have hxr:=hrim x (List.mem_of_getElem? hx)
   have gin:=@Zck M (ps.take i) x
   have gnew:=fun os=>@Fm M (ps.take i) os x
   clear et
   generalize Ym M (ps.take i)=gs at h1 l1 g1 gin gnew
   dsimp only [Zm]
   refine ⟨_,rfl,_,rfl,(x:Int),sN,_,_,rfl,rfl,h1,_,rfl,?_⟩
   rw [Ve]
   by_cases hm:x∈gs.flatten
   ·rw [decide_eq_true hm]
    refine iteF ?_
    rw [gin hm]
    exact ⟨as,_,_,rfl,s1,h1,l1,g1⟩
   ·rw [decide_eq_false hm]
    refine iteT ?_
    refine ⟨_,rfl,.inl ⟨rfl,_,SqL.of l1.at'⟩,rfl,_,rfl,_,rfl,p,M,ns,x,n,rfl,ta.same s1,hMl,hn,h1000,inv,hxr,fun l os H2 s2 hl2 h2 hO=>?_⟩
    have l2:=l1.same s2
    have hgl:=g1.len
    have g2:=g1.snoc inv hn hO hxr hm
    have hgl2:=g2.len
    rw [List.flatten_append,List.flatten_singleton,List.length_append] at hgl2
    have hasl:as.length≤1000:=by
     have:=O4 gs fun g hg=>by obtain ⟨q,hq⟩:=g1.orb g hg; exact hq.pos
     rw [l1.len]
     omega
    refine ⟨g,_,_,rfl,rfl,l2.at',(by rw [List.length_map]; exact Zr hasl),?_⟩
    have hlg:l≠g:=fun z=>by rw [z,l1.at'] at hl2; cases hl2
    have hls:l≠sN:=fun z=>by rw [z,h1] at hl2; cases hl2
    have l3:=l2.push (x:=l) (g:=os) List.mem_cons_self h2 (by simp [hlg,hls])
    have s3:Same H (upd H2 g (.lst (as.map V.ref ++ [V.ref l]))):=Same.add (s1.trans s2) hg0
    have h3:(upd H2 g (.lst (as.map V.ref ++ [V.ref l]))) sN=some (.set (inL gs.flatten) gs.flatten.length):=by rw [Zd (Ne.symm hgs)]; exact s2 _ _ h1
    have h3l:(upd H2 g (.lst (as.map V.ref ++ [V.ref l]))) l=some (.lst (os.map nV)):=by rw [Zd hlg]; exact h2
    have hat:(upd H2 g (.lst (as.map V.ref ++ [V.ref l]))) g=some (.lst (as.map V.ref ++ [V.ref l])):=Zb
    generalize upd H2 g (.lst (as.map V.ref ++ [V.ref l]))=H3 at l3 s3 h3 h3l hat
    refine ⟨_,rfl,_,rfl,g,_,_,_,rfl,rfl,SqL.of hat,Zcz _ _,l,rfl,⟨_,SqL.of h3l⟩,?_⟩
    have hap:=Fb inv g1 hO.toOrb hm
    refine Wc (xs:=os.map nV) (fun j σ H4=>∃ (v6:Option V),σ=[some (.ref p),some (.ref a),some (.ref t.ax),some (.ref sN),some (.ref g),some (.int x),v6]∧Same H H4∧H4 l=some (.lst (os.map nV))∧H4 sN=some (.set (inL (gs.flatten ++ os.take j)) (gs.flatten ++ os.take j).length)∧LLx H4 g (as ++ [l]) (gs ++ [os]) [g,sN]) ⟨_,rfl,s3,h3l,by rw [List.take_zero,List.append_nil]; exact h3,l3⟩ ?_ ?_ ?_
    ·rintro j σ H4 _ ⟨v6,rfl,s4,h4,e4,l4⟩
     exact SqL.of h4
    ·rintro j y σ H4 hy ⟨v6,rfl,s4,h4,e4,l4⟩
     obtain ⟨z,hz,rfl⟩:=map_some hy
     have hj:j < os.length:=(List.getElem?_eq_some_iff.mp hz).1
     have hzn:z ∉ gs.flatten ++ os.take j:=by
      intro hm
      rcases List.mem_append.mp hm with q | q
      ·exact hap z (List.mem_of_getElem? hz) q
      ·obtain ⟨k',hk',e'⟩:=List.mem_iff_getElem.mp q
       rw [List.getElem_take] at e'
       rw [List.length_take] at hk'
       have e2:=(List.getElem?_eq_some_iff.mp hz).2
       have:=(List.getElem_inj hO.nodup).mp (e'.trans e2.symm)
       omega
     dsimp only [Zm]
     refine ⟨_,rfl,.inr (.inr (.inr ⟨rfl,_,_,e4⟩)),_,rfl,sN,(z:Int),_,_,rfl,rfl,e4,?_,?_⟩
     ·rw [List.length_append,List.length_take]; omega
     ·rw [Oa,Ve,decide_eq_false hzn,if_neg (by decide)]
      refine ⟨_,rfl,Same.add s4 hsN,by rw [Zd hls]; exact h4,?_,l4.upd (by simp) (Ne.symm hgs)⟩
      rw [Zb,List.take_add_one,hz,List.append_assoc]
      show some (HO.set (inL (gs.flatten ++ (os.take j ++ [z]))) _)=some (HO.set (inL (gs.flatten ++ (os.take j ++ [z]))) _)
      congr 2
      simp only [List.length_append,List.length_singleton,Option.toList]
      omega
    ·rintro σ H4 ⟨v6,rfl,s4,h4,e4,l4⟩
     rw [List.length_map,List.take_length] at e4
     rw [gnew os hm hO]
     refine ⟨as ++ [l],_,_,rfl,s4,?_,l4,g2⟩
     rw [e4,List.flatten_append,List.flatten_singleton]
  ·rintro σ H1 ⟨as,v5,v6,rfl,s1,h1,l1,g1⟩
   rw [List.length_map,List.take_length] at l1
   exact ⟨_,rfl,k g H1 s1 l1.ll⟩
theorem Zle:FnScope ["tent"] ["tent"] (Zg Zgx):=⟨rfl,rfl,rfl,by decide +kernel,rfl,by decide +kernel,by decide +kernel⟩
theorem Zlq (T:Txt w K mg t):FnOk P w K mg base (CXr P w) 8 t.eu t.ez ["tent"] (Zk6 t.aa):=by
 refine T.eB.F.aR Zle (fun cdv A outer s H vs Q E hr h=>?_)
 ·obtain ⟨p,M,ns,n,rfl,ta,hMl,hn,h1000,inv,k⟩:=h
  refine ⟨_,(Zh (Zp (pcT (F6 T) hr T.aw (Za (pv 0) (Za (pcT (V4 T) hr T.aW (Za (pv 0) Zc)) (Za (Q6 (v:=.ref t.ax) rfl T.aZ.g rfl) Zc)))))),?_⟩
  refine ⟨_,rfl,_,rfl,p,M,ns,rfl,ta,hMl,h1000,fun l H1 s1 h1=>?_⟩
  exact ⟨p,l,M,ns,rimL M,n,rfl,ta.same s1,hMl,hn,h1000,inv,h1,fun c hc=>Yw.mp hc,fun l2 H2 s2 hl2=>k l2 H2 (s1.trans s2) hl2⟩
theorem Kf:FnScope ["_law_found","_law_due","_law_k"] ["_law_found","_law_due"] (Zg G6):=⟨rfl,rfl,rfl,by decide +kernel,rfl,by decide +kernel,by decide +kernel⟩
theorem Zft (T:Txt w K mg t):FnOk P w K mg base (CXr P w) 3 t.cI t.cN ["_law_found","_law_due"] Zi0:=by
 refine T.cR.F.aR Kf (fun cdv A outer s H vs Q E hr h=>?_)
 ·obtain ⟨a,b,gs,rfl,⟨ta,a1,a2,a3⟩,⟨tb,b1,b2,b3⟩,hl,hgl,k⟩:=h
  refine ⟨_,(Ze (Yd (PW.pt (Vn (Qd (Wz (Zl Jj (by rfl) T.aE PyProof.Rows.boot_isinstance (Za (pv 0) (Za (U3 (v:=.ty "list") (by rfl) T.aH PySem.Pv.boot_list rfl) Zc))))) (Qc (Zq Jz (Zl Zk (by rfl) T.ae PySem.boot_len (Za (pv 0) Zc)) (Zl Zk (by rfl) T.ae PySem.boot_len (Za (pv 1) Zc)) (Zu _))))) (Zh (Zp Wg)) Z3)
   (Ze (Y1 PassesOwn.never rfl (Xh rfl T.ak (Za (Zl Zk (by rfl) T.ae PySem.boot_len (Za (pv 1) Zc)) Zc)) (Zn (i:=2) Kf.nd rfl (Or.inl rfl)) (Zh (Yd (Qd (Wz (pcT (Zhp T) hr T.dI (Za (Zs Zt (pv 0) (pv 2) (fun _ _=>rfl)) (Za (Zs Zt (pv 1) (pv 2) (fun _ _=>rfl)) Zc))))) (Zh (Zp Wg)) Z3)))
   (Zh (Zp Wg)))),?_⟩
  have el:ta.length=tb.length:=by omega
  refine ⟨_,rfl,_,"list",_,true,rfl,TyOf.lst a1,O2,_,rfl,iteF ?_⟩
  refine ⟨_,rfl,a,_,rfl,.inl (SqL.of a1),_,rfl,b,_,rfl,.inl (SqL.of b1),rfl,_,rfl,?_⟩
  rw [show (!decide (V.int ((ta.map V.ref).length:Nat)=V.int ((tb.map V.ref).length:Nat)))=false by rw [List.length_map,List.length_map,el]; simp]
  refine iteF ?_
  dsimp only [Ql]
  show tSeq (tFor _ _ _) _ _ _ _
  refine Yk (fun σ H1=>H1=H) (fun nx hnx=>?_) ?_
  ·refine ⟨_,rfl,b,_,rfl,.inl (SqL.of b1),_,rfl,by omega,by rw [List.length_map]; omega,?_⟩
   have eL:(((tb.map V.ref).length:Nat):Int).toNat=tb.length:=by simp
   rw [eL]
   refine Wb (n:=tb.length) (fun i σ H1=>∃ v,σ=[some (.ref a),some (.ref b),v]∧H1=H) ⟨none,rfl,rfl⟩ ?_ ?_
   ·rintro i σ H1 hlt ⟨v,rfl,rfl⟩
    have hlt':i < ta.length:=by omega
    have hg:i < gs.length:=by omega
    have e1:atI (ta.map V.ref) (0 + (i:Int))=some (V.ref ta[i]):=by rw [Int.zero_add]; exact Yu (List.getElem?_eq_getElem hlt')
    have e2:atI (tb.map V.ref) (0 + (i:Int))=some (V.ref tb[i]):=by rw [Int.zero_add]; exact Yu (List.getElem?_eq_getElem hlt)
    have t1:=a3 i _ _ (List.getElem?_eq_getElem hlt') (List.getElem?_eq_getElem hg)
    have t2:=b3 i _ _ (List.getElem?_eq_getElem hlt) (List.getElem?_eq_getElem hg)
    have h3:=hgl _ (List.getElem_mem hg)
    dsimp only [Zm]
    refine ⟨_,rfl,_,rfl,a,_,_,_,rfl,rfl,SqL.of a1,e1,_,rfl,_,rfl,b,_,_,_,rfl,rfl,SqL.of b1,e2,_,_,wI gs[i],rfl,by rw [t1,Zfv],by rw [t2,Zfv],by rw [Zan]; omega,_,rfl,iteF ?_⟩
    exact ⟨_,rfl,rfl⟩
   ·rintro σ H1 ⟨v,rfl,rfl⟩
    exact hnx _ _ rfl
  ·rintro σ H1 rfl
   exact k
end
end KT
set_option maxHeartbeats 4000000
namespace KT
open PySem L2
noncomputable def Zf9 (H:Hp) (l:Addr) (M:List (Option Nat)) (S:List Nat):Prop:=∃ qs:List Addr,H l=some (.lst (qs.map V.ref))∧qs.length=S.length∧∀ (i:Nat) (q:Addr) (c:Nat),qs[i]?=some q→S[i]?=some c→∃ a,H q=some (.tup [.bl (fanF M c).2,.ref a])∧H a=some (.lst ((fanL M c).map nV))
noncomputable def Zgm (C P:Addr) (qn:Str):Sp:=fun vs H Q _=>∃ (p:Addr) (M:List (Option Nat)) (ns:List Int) (n:Nat),vs=[.ref p]∧Zw C H p M ns∧M.length=ns.length∧M.length=3 * n∧M.length≤60∧InvM M∧TabQ qn P H∧∀ (l:Addr) (S:List Nat) (H':Hp),(∀ b u,b≠P→H b=some u→H' b=some u)→Zf9 H' l M S→RiseC M S→TabQ qn P H'→Q (.ref l) H'
structure Prs (H:Hp) (D:Addr) (qs as:List Addr) (b:Bool):Prop where
 at':H D=some (.lst (qs.map V.ref))
 len:qs.length=as.length
 row:∀ (i:Nat) (q a:Addr),qs[i]?=some q→as[i]?=some a→H q=some (.tup [.bl b,.ref a])
 off:∀ q∈qs,q≠D
theorem Prs.same {H H':Hp} {D:Addr} {qs as:List Addr} {b:Bool} (h:Prs H D qs as b) (s:Same H H'):Prs H' D qs as b:=⟨s _ _ h.at',h.len,fun i q a e1 e2=>s _ _ (h.row i q a e1 e2),h.off⟩
theorem Prs.push {H:Hp} {D x a:Addr} {qs as:List Addr} {b:Bool} (h:Prs H D qs as b) (hx:H x=some (.tup [.bl b,.ref a])):Prs (upd H D (.lst (qs.map V.ref ++ [V.ref x]))) D (qs ++ [x]) (as ++ [a]) b:=by
 have hxD:x≠D:=fun z=>by rw [z,h.at'] at hx; cases hx
 refine ⟨by rw [Zb,List.map_append]; rfl,by rw [List.length_append,List.length_append,h.len]; rfl,fun i q a' e1 e2=>?_,fun q hq=>?_⟩
 ·by_cases z:i < qs.length
  ·rw [List.getElem?_append_left z] at e1
   rw [List.getElem?_append_left (by rw [← h.len]; exact z)] at e2
   rw [Zd (h.off q (List.mem_of_getElem? e1))]
   exact h.row i q a' e1 e2
  ·have hi:=(List.getElem?_eq_some_iff.mp e1).1
   rw [List.length_append,List.length_singleton] at hi
   have hi:i=qs.length:=by omega
   subst hi
   rw [List.getElem?_append_right (Nat.le_refl _),Nat.sub_self] at e1
   rw [h.len,List.getElem?_append_right (Nat.le_refl _),Nat.sub_self] at e2
   cases e1
   cases e2
   rw [Zd hxD]
   exact hx
 ·rcases List.mem_append.mp hq with z | z
  ·exact h.off q z
  ·rw [List.mem_singleton.mp z]; exact hxD
theorem Zdz (ws:List Nat):(wI ws).map V.int=ws.map nV:=by rw [List.map_map]; rfl
theorem U6 {M:List (Option Nat)} {c:Nat} {m:Int} (h1:m∈wI (fanL M c)) (h2:∀ a∈wI (fanL M c),m≤a):m=key M c:=by
 obtain ⟨x,hx,rfl⟩:=List.mem_map.mp h1
 unfold key
 rw [Zfy hx (fun a ha=>by have:=h2 (a:Int) (List.mem_map.mpr ⟨a,ha,rfl⟩); omega)]
theorem Zd8 {M:List (Option Nat)} {S:List Nat} (nd:S.Nodup) (mem:∀ c,c∈S ↔ c < M.length∧Can M c) {out:List Nat} (hp:out.Perm (List.range S.length)) (pw:out.Pairwise fun i j=>(S.map (key M)).getD i 0≤(S.map (key M)).getD j 0):RiseC M (out.map fun i=>S.getD i 0):=by
 have e:(List.range S.length).map (fun i=>S.getD i 0)=S:=by
  apply List.ext_getElem?
  intro i
  rw [List.getElem?_map]
  by_cases h:i < S.length
  ·rw [List.getElem?_range h,List.getElem?_eq_getElem h]
   show some (S.getD i 0)=_
   rw [List.getD_eq_getElem?_getD,List.getElem?_eq_getElem h]
   rfl
  ·rw [List.getElem?_eq_none (by rw [List.length_range]; omega),List.getElem?_eq_none (by omega)]
   rfl
 have hP:(out.map fun i=>S.getD i 0).Perm S:=by have:=hp.map (fun i=>S.getD i 0); rw [e] at this; exact this
 refine ⟨hP.nodup_iff.mpr nd,?_,fun c=>(hP.mem_iff).trans (mem c)⟩
 rw [List.pairwise_map]
 refine List.Pairwise.imp_of_mem (fun {i j} hi hj h=>?_) pw
 have gk:∀ i∈out,(S.map (key M)).getD i 0=key M (S.getD i 0):=fun i hi=>by
  have hi:i < S.length:=List.mem_range.mp (hp.mem_iff.mp hi)
  rw [List.getD_eq_getElem?_getD,List.getElem?_map,List.getD_eq_getElem?_getD,List.getElem?_eq_getElem hi]
  rfl
 rw [gk i hi,gk j hj] at h
 exact h
theorem Zeo {M:List (Option Nat)} (inv:InvM M) {S:List Nat} (nd:S.Nodup) (mem:∀ c,c∈S ↔ c < M.length∧Can M c):(S.map (key M)).Nodup:=by
 unfold List.Nodup
 rw [List.pairwise_map]
 exact List.Pairwise.imp_of_mem (fun {a b} ha hb hne e=>hne (Zep inv ((mem a).mp ha).1 ((mem b).mp hb).1 ((mem a).mp ha).2 ((mem b).mp hb).2 e)) nd
theorem Zev:∀ (L:List (List Nat)),(∀ l∈L,l.length≤60)→L.flatten.length≤60 * L.length
 | [],_=>Nat.le_refl _
 | l :: L,h=>by
  have h1:=h l List.mem_cons_self
  have h2:=Zev L fun x hx=>h x (List.mem_cons_of_mem _ hx)
  rw [List.flatten_cons,List.length_append,List.length_cons]
  omega
theorem Zja (M:List (Option Nat)):(rimL M).length≤M.length:=by
 have:=List.length_filter_le (rimB M) (List.range M.length)
 rw [List.length_range] at this
 exact this
theorem Zex (M:List (Option Nat)) (inv:InvM M) {c:Nat} (h:c < M.length):(fanL M c).length≤M.length:=(Yp inv h).len
theorem Zh8 (M:List (Option Nat)):∀ (ps gs:List Nat),(gS M ps gs).length≤gs.length + ps.length
 | [],gs=>Nat.le_refl _
 | p :: r,gs=>by
  have:=Zh8 M r (if p∈(gs.map (fanL M)).flatten then gs else gs ++ [p])
  unfold gS
  rw [List.length_cons]
  split at this <;> rename_i c
  ·rw [if_pos c]; omega
  ·rw [if_neg c]; rw [List.length_append,List.length_singleton] at this; omega
theorem Ui {q:Nat→Bool} {i:Nat}:(List.range (i + 1)).filter q=if q i=true then (List.range i).filter q ++ [i] else (List.range i).filter q:=by
 rw [List.range_succ,List.filter_append]
 by_cases c:q i=true
 ·simp [c]
 ·simp [c]
theorem Zm3 {g:List Nat} {qs:List Addr} (h:g≠[]):HO.lst (g.map nV)≠.lst (qs.map V.ref):=fun e=>by
 injection e with e
 cases g with
 | nil=>exact h rfl
 | cons x g =>
  cases qs with
  | nil=>cases e
  | cons q qs=>injection e with e _; cases e
theorem Ga {α:Type} {xs ys:List α} {i:Nat} {z:α} (h:(xs ++ ys)[i]?=some z):(i < xs.length∧xs[i]?=some z)∨(xs.length≤i∧ys[i - xs.length]?=some z):=by
 by_cases c:i < xs.length
 ·rw [List.getElem?_append_left c] at h; exact .inl ⟨c,h⟩
 ·rw [List.getElem?_append_right (by omega)] at h; exact .inr ⟨by omega,h⟩
section
variable {P:Program} {w:World} {K:PySem.W.Frag} {mg:Str→Option Value} {base:Heap} {t:Adr}
theorem Wt:FnScope ["tent","at_rims","taken","others","found"] ["tent"] (Zg X6):=⟨rfl,rfl,rfl,by decide +kernel,rfl,by decide +kernel,by decide +kernel⟩
theorem Up (T:Txt w K mg t) (TB:TabB mg base t.aF t.ah):FnOk P w K mg base (CXr P w) 8 t.b9 t.bi ["tent"] (Zgm t.aa t.ah ((PyProof.Rows.envOfC "points" (Zg X6) 0 0 .none).qual ++ "<lambda>")):=by
  have hcd:t.bi.code=.ref t.aF:=by obtain ⟨_,_,h,_⟩:=T.cT; exact h
  refine T.aV.F.aT hcd Wt (fun A outer s H vs Q E hr h=>?_)
  obtain ⟨p,M,ns,n,rfl,ta,hMl,hn,h60,inv,hP,k⟩:=h
  refine ⟨_,(Ze (Xj (ts:=["corner"]) (fv:=[("tent",0)]) (i:=1) ⟨rfl,by decide +kernel,by decide +kernel,Z6 (by rfl),⟨⟨rfl,rfl,Or.inl rfl⟩,trivial⟩⟩ rfl Wt.nd rfl rfl (by rfl) (Zz (pcT (V4 T) hr T.aW (Za (pv 0) Zc))) (fun _ _ _ _=>(Zn (i:=0) (show List.Nodup (["corner","tent"]:List Str) from by decide +kernel) rfl (Or.inl rfl) (Or.inr rfl))) (fun _ _ _ _=>Yf) (fun _ _ _=>rfl) (fun _ _ _ _ _ _=>Ya (pcT (W2 T) hr T.am (Za (pv 1) (Za (pv 0) Zc)))))
      (Ze (Zo (i:=2) Wt.nd rfl (Or.inr rfl) (Fa (ts:=["corners","corner"]) (fv:=[]) ⟨rfl,by decide +kernel,by decide +kernel,Z6 (by rfl),trivial⟩ rfl (Zz (pv 1)) (fun _ _ _ _=>(Zn (i:=0) (show List.Nodup (["corners","corner"]:List Str) from by decide +kernel) rfl (Or.inl rfl) (Or.inr rfl))) (fun _ _ _ _=>Yf) (fun _ _ _=>rfl) (fun _ _ _ _ _ _=>Zlp rfl rfl (Zjd K (pv 0)) (Zn (i:=1) (show List.Nodup (["corners","corner"]:List Str) from by decide +kernel) rfl (Or.inl rfl) (Or.inr rfl)) Yf (pv 1))))
      (Ze (Xj (ts:=["corner"]) (fv:=[("taken",2)]) (i:=3) ⟨rfl,by decide +kernel,by decide +kernel,Z6 (by rfl),⟨⟨rfl,rfl,Or.inl rfl⟩,trivial⟩⟩ rfl Wt.nd rfl rfl (by rfl) (Zz (Qg (pv 0) T.ac T.af.m (X9 T) (hr.mono (by decide)) T.af.b .nil Y6)) (fun _ _ _ _=>(Zn (i:=0) (show List.Nodup (["corner","taken"]:List Str) from by decide +kernel) rfl (Or.inl rfl) (Or.inr rfl))) (fun _ _ _ _=>(Wu (Zq Jh (pv 0) (pv 1) (by with_unfolding_all rfl)))) (fun _ _ _=>rfl) (fun _ _ _ _ _ _=>Ya (pv 0)))
      (Ze (Xj (ts:=["corners"]) (fv:=[]) (i:=4) ⟨rfl,by decide +kernel,by decide +kernel,Z6 (by rfl),trivial⟩ rfl Wt.nd rfl rfl (by rfl) (Zz (pv 1)) (fun _ _ _ _=>(Zn (i:=0) (show List.Nodup (["corners"]:List Str) from by decide +kernel) rfl (Or.inl rfl) (Or.inr rfl))) (fun _ _ _ _=>Yf) (fun _ _ _=>rfl) (fun _ _ _ _ _ _=>Ya (Xo (Za Wg (Za (pv 0) Zc)))))
      (Ze (Zms (i:=4) Wt.nd rfl (Or.inl rfl) (Ys (ts:=["corners"]) (fv:=[]) ⟨rfl,by decide +kernel,by decide +kernel,Z6 (by rfl),trivial⟩ rfl (Zz (pcT (Zby T) hr T.aw (Za (pv 0) (Za (pv 3) (Za (Q6 (v:=.ref t.al) rfl T.am.g rfl) Zc))))) (fun _ _ _ _=>(Zn (i:=0) (show List.Nodup (["corners"]:List Str) from by decide +kernel) rfl (Or.inl rfl) (Or.inr rfl))) (fun _ _ _ _=>Yf) (fun _ _ _=>rfl) (fun _ _ _ _ _ _=>Ya (Xo (Za Wg (Za (pv 0) Zc))))) Zlw)
      (Zh (Zp (F5 (x:="pair") (by rfl) T.cE (pv 4) (hr.mono (by decide)) rfl TB.cd TB.bm (by exact ⟨rfl,rfl,rfl,by decide +kernel,rfl,by decide +kernel,by decide +kernel⟩) (fun _ _ _ _ _ _ _=>(Zl (Zf8 K rfl) (by rfl) T.d7 PyProof.Rows.boot_min (Za (Zs (Zeq K) (pv 0) Zf (fun _ _=>rfl)) Zc))) (by exact fun _ _ _ _ _=>.of_eq rfl))))))))),?_⟩
  refine Z2 fun nxC hnxC=>?_
  refine ⟨_,rfl,p,M,ns,rfl,ta,hMl,by omega,fun l0 H0 s0 h0=>?_⟩
  refine ⟨l0,rfl,⟨_,SqL.of h0⟩,fun D hD=>?_⟩
  refine Z4 (xs:=(rimL M).map nV) (fun i σ H2=>∃ (v:Option V) (as:List Addr),σ=[v,some (.ref p)]∧Same H0 H2∧LLx H2 D as (((rimL M).take i).map (fanL M)) [D]) ⟨none,[],rfl,Same.new hD,Zb,rfl,fun i a g ha _=>by simp at ha,fun a ha=>absurd ha List.not_mem_nil⟩ ?_ ?_ ?_
  · rintro i σ H2 _ ⟨v,as,rfl,s2,l2⟩
    exact SqL.of (s2 _ _ h0)
  · rintro i y σ H2 hy ⟨v,as,rfl,s2,l2⟩
    obtain ⟨r,hr',rfl⟩:=map_some hy
    have hrm:=Yw.mp (List.mem_of_getElem? hr')
    dsimp only [Zm,tYes]
    rw [if_pos rfl]
    refine ⟨_,rfl,_,rfl,p,M,ns,r,n,rfl,(ta.same s0).same s2,hMl,hn,by omega,inv,hrm.lt,fun l cs cl H3 s3 hl3 h3 hF=>?_⟩
    have hcs:fanL M r=cs:=by unfold fanL; rw [W6 hF]
    have l3:=l2.same s3
    have hlD:l≠D:=fun z=>by rw [z,l2.at'] at hl3; cases hl3
    have l4:=l3.push (x:=l) (g:=cs) List.mem_cons_self h3 (by simp [hlD])
    refine ⟨_,l3.at',?_,_,as ++ [l],rfl,Same.add (s2.trans s3) hD,?_⟩
    · rw [List.length_map,l3.len,List.length_map,List.length_take]
      have:(rimL M).length≤M.length:=by unfold rimL; have:=List.length_filter_le (rimB M) (List.range M.length); rw [List.length_range] at this; exact this
      exact Zr (by omega)
    · rw [List.take_add_one,hr',List.map_append]
      show LLx _ D _ (_ ++ [fanL M r]) [D]
      rw [hcs]
      exact l4
  rintro σ H1 ⟨v,as,rfl,s1,l1⟩
  rw [List.length_map,List.take_length] at l1
  refine hnxC _ _ ?_
  have s01:=s0.trans s1
  have hrl:=Zja M
  clear s0 s1 h0 hD
  refine Z2 fun nxC hnxC=>?_
  refine ⟨_,rfl,D,rfl,⟨_,SqL.of l1.at'⟩,fun tk htk=>?_⟩
  have bnd:∀ i,i≤M.length→(((rimL M).map (fanL M)).take i).flatten.length≤60 * i:=fun i hi=>by
    have:=Zev (((rimL M).map (fanL M)).take i) fun l hl=>by
      obtain ⟨c,hc,rfl⟩:=List.mem_map.mp (List.mem_of_mem_take hl)
      exact Nat.le_trans (Zex M inv (Yw.mp hc).lt) h60
    rw [List.length_take] at this
    omega
  have hasl:as.length=(rimL M).length:=by rw [l1.len,List.length_map]
  refine Z4 (xs:=as.map V.ref) (fun i σ H2=>∃ (v v':Option V) (m:Nat),σ=[v,v']∧Same H1 H2∧H2 tk=some (.set (inL (((rimL M).map (fanL M)).take i).flatten) m)∧m≤(((rimL M).map (fanL M)).take i).flatten.length) ⟨none,none,0,rfl,Same.new htk,by rw [Zb,U9]; rfl,Nat.zero_le _⟩ ?_ ?_ ?_
  · rintro i σ H2 _ ⟨v,v',m,rfl,s2,_⟩
    exact SqL.of (s2 _ _ l1.at')
  · rintro i y σ H2 hy ⟨v,v',m,rfl,s2,h2,hm2⟩
    obtain ⟨a,ha,rfl⟩:=map_some hy
    have hi:i < as.length:=(List.getElem?_eq_some_iff.mp ha).1
    obtain ⟨g,hg⟩:∃ g,((rimL M).map (fanL M))[i]?=some g:=⟨_,List.getElem?_eq_getElem (show i < ((rimL M).map (fanL M)).length by rw [List.length_map]; omega)⟩
    have hgl:g.length≤60:=by
      obtain ⟨c,hc,e⟩:=List.mem_map.mp (List.mem_of_getElem? hg)
      rw [← e]
      exact Nat.le_trans (Zex M inv (Yw.mp hc).lt) h60
    have hag:=l1.row i a g ha hg
    have hb:=bnd i (by omega)
    dsimp only [Zm,tYes]
    rw [if_pos rfl]
    refine ⟨_,rfl,a,rfl,⟨_,SqL.of (s2 _ _ hag)⟩,?_⟩
    have et:(((rimL M).map (fanL M)).take (i + 1)).flatten=(((rimL M).map (fanL M)).take i).flatten ++ g:=by rw [List.take_add_one,hg,List.flatten_append]; simp
    rw [et]
    generalize (((rimL M).map (fanL M)).take i).flatten=fl at h2 hm2 hb ⊢
    refine Z4 (xs:=g.map nV) (fun j σ H3=>∃ (v':Option V) (m:Nat),σ=[some (.ref a),v']∧Same H1 H3∧H3 tk=some (.set (inL (fl ++ g.take j)) m)∧m≤fl.length + j) ⟨v',m,rfl,s2,by rw [List.take_zero,List.append_nil]; exact h2,hm2⟩ ?_ ?_ ?_
    · rintro j σ H3 _ ⟨v',m,rfl,s3,_⟩
      exact SqL.of (s3 _ _ hag)
    · rintro j y σ H3 hy ⟨v',m,rfl,s3,h3,hm3⟩
      obtain ⟨z,hz,rfl⟩:=map_some hy
      have hj:j < g.length:=(List.getElem?_eq_some_iff.mp hz).1
      dsimp only [Zm,tYes]
      rw [if_pos rfl]
      refine ⟨_,rfl,(z:Int),_,_,rfl,h3,by omega,?_⟩
      rw [Oa]
      refine ⟨_,(if inL (fl ++ g.take j) (z:Int)=true then m else m + 1),rfl,Same.add s3 htk,?_,by split <;> omega⟩
      rw [Zb,List.take_add_one,hz,List.append_assoc]
      rfl
    · rintro σ H3 ⟨v',m,rfl,s3,h3,hm3⟩
      rw [List.length_map,List.take_length] at h3
      rw [List.length_map] at hm3
      exact ⟨_,_,m,rfl,s3,h3,by rw [List.length_append]; exact hm3⟩
  rintro σ H2 ⟨v,v',m,rfl,s2,h2,_⟩
  rw [List.length_map,hasl,← List.length_map (fanL M),List.take_length] at h2
  refine hnxC _ _ ?_
  have s02:=s01.trans s2
  have l2:=l1.same s2
  clear s2 l1 s01 htk bnd
  try dsimp only [Zm]
  refine Z2 fun nxC hnxC=>?_
  obtain ⟨dx,cl,na,sp,mt',o,f,b⟩:=id (ta.same s02)
  refine ⟨_,rfl,p,dx,_,rfl,b.ins,Yv _ _ _ _,p,M,ns,rfl,ta.same s02,by omega,fun la hla=>?_⟩
  have s3:Same H2 (upd H2 la (.lst ((List.range ns.length).map nV))):=Same.new hla
  have h3:(upd H2 la (.lst ((List.range ns.length).map nV))) la=some (.lst ((List.range ns.length).map nV)):=Zb
  generalize upd H2 la (.lst ((List.range ns.length).map nV))=H3 at s3 h3 ⊢
  clear b
  refine ⟨la,rfl,⟨_,SqL.of h3⟩,fun O hO=>?_⟩
  refine Z4 (xs:=(List.range ns.length).map nV) (fun i σ H4=>∃ v,σ=[v,some (.ref tk)]∧Same H3 H4∧H4 O=some (.lst (((List.range i).filter fun c=>decide (c ∉ ((rimL M).map (fanL M)).flatten)).map nV))) ⟨none,rfl,Same.new hO,Zb⟩ ?_ ?_ ?_
  · rintro i σ H4 _ ⟨v,rfl,s4,h4⟩
    exact SqL.of (s4 _ _ h3)
  · rintro i x σ H4 hx ⟨v,rfl,s4,h4⟩
    obtain ⟨hi,rfl⟩:i < ns.length∧x=nV i:=by
      rw [List.getElem?_map] at hx
      by_cases z:i < ns.length
      · rw [List.getElem?_range z] at hx; cases hx; exact ⟨z,rfl⟩
      · rw [List.getElem?_eq_none (by rw [List.length_range]; omega)] at hx; cases hx
    have lt:(((List.range i).filter fun c=>decide (c ∉ ((rimL M).map (fanL M)).flatten)).map nV).length < sizeLine:=by
      rw [List.length_map]
      have:=List.length_filter_le (fun c=>decide (c ∉ ((rimL M).map (fanL M)).flatten)) (List.range i)
      rw [List.length_range] at this
      exact Zr (by omega)
    dsimp only [Zm]
    refine ⟨_,rfl,_,rfl,(i:Int),tk,_,_,rfl,rfl,(s3.trans s4) _ _ h2,_,rfl,?_⟩
    rw [Ve,Ui]
    by_cases c:i∈((rimL M).map (fanL M)).flatten
    · rw [decide_eq_true c,if_neg (by simp [c])]
      exact iteF ⟨_,rfl,s4,h4⟩
    · rw [decide_eq_false c,if_pos (by simp [c])]
      refine iteT ⟨_,rfl,_,h4,lt,_,rfl,Same.add s4 hO,?_⟩
      rw [Zb,List.map_append]
      rfl
  rintro σ H4 ⟨v,rfl,s4,h4⟩
  rw [List.length_map,List.length_range,← hMl] at h4
  have h4:H4 O=some (.lst ((othL M).map nV)):=h4
  refine hnxC _ _ ?_
  have s04:=s02.trans (s3.trans s4)
  have l4:=l2.same (s3.trans s4)
  clear s3 s4 h3 hla hO l2 h2 s02
  try dsimp only [Zm]
  refine Z2 fun nxC hnxC=>?_
  refine ⟨_,rfl,D,rfl,⟨_,SqL.of l4.at'⟩,fun fo hfo=>?_⟩
  refine Z4 (xs:=as.map V.ref) (fun i σ H5=>∃ (v:Option V) (qs:List Addr),σ=[v]∧Same H4 H5∧Prs H5 fo qs (as.take i) false) ⟨none,[],rfl,Same.new hfo,Zb,rfl,fun i q a hq _=>by simp at hq,fun q hq=>absurd hq List.not_mem_nil⟩ ?_ ?_ ?_
  · rintro i σ H5 _ ⟨v,qs,rfl,s5,p5⟩
    exact SqL.of (s5 _ _ l4.at')
  · rintro i y σ H5 hy ⟨v,qs,rfl,s5,p5⟩
    obtain ⟨a,ha,rfl⟩:=map_some hy
    dsimp only [Zm,tYes]
    rw [if_pos rfl]
    refine ⟨_,rfl,(by show 2≤sizeLine; rw [sizeLine_eq]; decide),fun q hq=>?_⟩
    have s6:=Same.new (o:=.tup [V.bl false,V.ref a]) hq
    have p6:=(p5.same s6).push (x:=q) (a:=a) Zb
    refine ⟨_,(p5.same s6).at',?_,_,qs ++ [q],rfl,Same.add (s5.trans s6) hfo,?_⟩
    · rw [List.length_map,p5.len,List.length_take]; exact Zr (by omega)
    · rw [List.take_add_one,ha]; exact p6
  rintro σ H5 ⟨v,qs,rfl,s5,p5⟩
  rw [List.length_map,List.take_length] at p5
  refine hnxC _ _ ?_
  have s05:=s04.trans s5
  have l5:=l4.same s5
  have h5:=s5 _ _ h4
  try dsimp only [Zm]
  refine Z2 fun nxC hnxC=>?_
  refine ⟨.ref fo,rfl,?_⟩
  obtain ⟨g1,g2,g3⟩:=Ox inv hn
  have hol:(othL M).length≤M.length:=by
    have:=List.length_filter_le (fun c=>decide (c ∉ ((rimL M).map (fanL M)).flatten)) (List.range M.length)
    rw [List.length_range] at this
    exact this
  have hgl:(Yl M (othL M)).length≤(othL M).length:=by have:=Zh8 M (othL M) []; rw [List.length_nil,Nat.zero_add] at this; exact this
  refine ⟨_,rfl,_,rfl,p,O,M,ns,othL M,n,rfl,ta.same s05,hMl,hn,h60,inv,h5,fun c hc=>(Q7.mp hc).1,by omega,fun lg ags H6 s6 lx=>?_⟩
  have hagl:ags.length=(Yl M (othL M)).length:=by rw [lx.len,List.length_map]
  refine ⟨lg,rfl,⟨_,SqL.of lx.at'⟩,fun f2 hf2=>?_⟩
  refine Z4 (xs:=ags.map V.ref) (fun i σ H7=>∃ (v:Option V) (qs:List Addr),σ=[v]∧Same H6 H7∧Prs H7 f2 qs (ags.take i) true) ⟨none,[],rfl,Same.new hf2,Zb,rfl,fun i q a hq _=>by simp at hq,fun q hq=>absurd hq List.not_mem_nil⟩ ?_ ?_ ?_
  · rintro i σ H7 _ ⟨v,qs2,rfl,s7,p7⟩
    exact SqL.of (s7 _ _ lx.at')
  · rintro i y σ H7 hy ⟨v,qs2,rfl,s7,p7⟩
    obtain ⟨a,ha,rfl⟩:=map_some hy
    dsimp only [Zm,tYes]
    rw [if_pos rfl]
    refine ⟨_,rfl,(by show 2≤sizeLine; rw [sizeLine_eq]; decide),fun q hq=>?_⟩
    have s8:=Same.new (o:=.tup [V.bl true,V.ref a]) hq
    have p8:=(p7.same s8).push (x:=q) (a:=a) Zb
    refine ⟨_,(p7.same s8).at',?_,_,qs2 ++ [q],rfl,Same.add (s7.trans s8) hf2,?_⟩
    · rw [List.length_map,p7.len,List.length_take]; exact Zr (by omega)
    · rw [List.take_add_one,ha]; exact p8
  rintro σ H7 ⟨v,qs2,rfl,s7,p7⟩
  rw [List.length_map,List.take_length] at p7
  have s57:=s6.trans s7
  have hfo7:=s57 _ _ p5.at'
  have hq1:qs.length=(rimL M).length:=by rw [p5.len]; exact hasl
  have hq2:qs2.length=(Yl M (othL M)).length:=by rw [p7.len]; exact hagl
  refine ⟨fo,f2,_,_,rfl,rfl,hfo7,p7.at',by rw [List.length_map,List.length_map,sizeLine_eq]; omega,?_⟩
  refine hnxC _ _ ?_
  try dsimp only [Zm]
  have s48:Same H4 (upd H7 fo (.lst (qs.map V.ref ++ qs2.map V.ref))):=Same.add (s5.trans s57) hfo
  have up:∀ b u,H7 b=some u→b≠fo→(upd H7 fo (.lst (qs.map V.ref ++ qs2.map V.ref))) b=some u:=fun b u e z=>by rw [Zd z]; exact e
  have PT:Zf9 (upd H7 fo (.lst (qs.map V.ref ++ qs2.map V.ref))) fo M (stL M):=by
    refine ⟨qs ++ qs2,by rw [Zb,List.map_append],by unfold stL; rw [List.length_append,List.length_append,hq1,hq2],fun i q c e1 e2=>?_⟩
    unfold stL at e2
    rcases Ga e1 with ⟨i1,e1⟩ | ⟨i1,e1⟩
    · rw [List.getElem?_append_left (by omega)] at e2
      have hcr:=Yw.mp (List.mem_of_getElem? e2)
      obtain ⟨a,ha⟩:∃ a,as[i]?=some a:=⟨_,List.getElem?_eq_getElem (by omega)⟩
      refine ⟨a,?_,s48 _ _ (l4.row i a _ ha (by rw [List.getElem?_map,e2]; rfl))⟩
      rw [Vm inv hcr]
      exact up _ _ (s57 _ _ (p5.row i q a e1 ha)) (p5.off q (List.mem_of_getElem? e1))
    · rw [List.getElem?_append_right (by omega)] at e2
      rw [hq1] at e1
      have hcS:=List.mem_of_getElem? e2
      obtain ⟨c1,c2,_⟩:=Jy inv hn (g1 c hcS).1
      obtain ⟨a,ha⟩:∃ a,ags[i - (rimL M).length]?=some a:=⟨_,List.getElem?_eq_getElem (by have:=(List.getElem?_eq_some_iff.mp e2).1; omega)⟩
      have hrow:=lx.row _ a _ ha (by rw [List.getElem?_map,e2]; rfl)
      have hro:=p7.row _ q a e1 ha
      refine ⟨a,?_,up _ _ (s7 _ _ hrow) fun z=>?_⟩
      · rw [c2]
        exact up _ _ hro fun z=>by rw [z,hfo7] at hro; cases hro
      · rw [z,s6 _ _ p5.at'] at hrow
        exact Zm3 (Vf inv c1) (Option.some.inj hrow).symm
  have hP8:=hP.same (s04.trans s48)
  have s08:=s04.trans s48
  generalize upd H7 fo (.lst (qs.map V.ref ++ qs2.map V.ref))=H8 at PT hP8 s08 ⊢
  have nP:∀ {b:Addr} {u:HO},H8 b=some u→(∀ ps,u≠.tbl ps)→b≠t.ah:=fun {b u} e ne z=>by obtain ⟨ps,e',_⟩:=hP8; rw [z,e'] at e; exact ne ps (Option.some.inj e).symm
  clear up s48 hfo7 p7 s57 s7 s6 lx p5 h5 l5 s05 s5 h4 l4 s04 hfo hf2
  obtain ⟨ts,t1,t2,t3⟩:=PT
  have nd:=Zki inv hn
  have mem:=Zgj inv hn
  have hst:(stL M).length≤M.length:=by
    have:=X0 M.length (stL M) nd fun a ha=>((mem a).mp ha).1
    exact this
  refine ⟨_,rfl,fo,ts,(stL M).map (key M),rfl,t1,by rw [List.length_map,t2],by omega,Zeo inv nd mem,hP8,fun i q m e1 e2 H' up=>?_,fun l out H' hl hp pw up hT hl'=>?_⟩
  · obtain ⟨c,hc,rfl⟩:∃ c,(stL M)[i]?=some c∧key M c=m:=by
      rw [List.getElem?_map] at e2
      obtain ⟨c,h1,h2⟩:=Option.map_eq_some_iff.mp e2
      exact ⟨c,h1,h2⟩
    obtain ⟨a,a1,a2⟩:=t3 i q c e1 hc
    have a1':=up _ _ (nP a1 fun _ z=>by cases z) a1
    have a2':=up _ _ (nP a2 fun _ z=>by cases z) a2
    have hcl:=((mem c).mp (List.mem_of_getElem? hc)).1
    refine ⟨_,rfl,q,_,_,_,rfl,rfl,SqT.of a1',rfl,a,wI (fanL M c),rfl,SqL.of (by rw [Zdz]; exact a2'),?_,fun m h1 h2=>⟨by rw [U6 h1 h2],rfl⟩⟩
    rw [List.length_map]
    exact List.length_pos_iff.mpr (Vf inv hcl)
  · refine k l _ H' (fun b u z e=>up b u z (s08 b u e)) ?_ (Zd8 nd mem (by rw [← t2]; exact hp) pw) hT
    refine ⟨out.map fun i=>ts.getD i 0,by rw [hl',List.map_map]; rfl,by rw [List.length_map,List.length_map],fun j q c e1 e2=>?_⟩
    rw [List.getElem?_map] at e1 e2
    obtain ⟨i,hi,rfl⟩:=Option.map_eq_some_iff.mp e1
    rw [hi] at e2
    cases e2
    have hil:i < ts.length:=List.mem_range.mp (hp.mem_iff.mp (List.mem_of_getElem? hi))
    obtain ⟨a,a1,a2⟩:=t3 i (ts.getD i 0) ((stL M).getD i 0) (by rw [List.getD_eq_getElem?_getD,List.getElem?_eq_getElem hil]; rfl) (by rw [List.getD_eq_getElem?_getD,List.getElem?_eq_getElem (by omega)]; rfl)
    exact ⟨a,up _ _ (nP a1 fun _ z=>by cases z) a1,up _ _ (nP a2 fun _ z=>by cases z) a2⟩
end
end KT
set_option maxHeartbeats 4000000
namespace KT
open PySem L2
noncomputable def besL (M:List (Option Nat)) (k i:Nat):List Nat:=((List.range i).filterMap fun s=>(M[3 * k + s]?).join).map (· / 3)
theorem Zcx {M:List (Option Nat)} {k j:Nat}:j∈besL M k 3 ↔ ∃ x y,M[x]?=some (some y)∧x / 3=k∧y / 3=j:=by
 unfold besL
 rw [List.mem_map]
 constructor
 ·rintro ⟨y,hy,rfl⟩
  obtain ⟨s,hs,e⟩:=List.mem_filterMap.mp hy
  have:=List.mem_range.mp hs
  refine ⟨3 * k + s,y,?_,by omega,rfl⟩
  cases z:M[3 * k + s]? with
  | none=>rw [z] at e; cases e
  | some o=>rw [z] at e; cases o with
   | none=>cases e
   | some o=>cases e; rfl
 ·rintro ⟨x,y,e,e1,e2⟩
  refine ⟨y,List.mem_filterMap.mpr ⟨x - 3 * k,List.mem_range.mpr (by omega),?_⟩,e2⟩
  rw [show 3 * k + (x - 3 * k)=x by omega,e]
  rfl
theorem Zkc {M:List (Option Nat)} {c i:Nat}:besL M c (i + 1)=besL M c i ++ (((M[3 * c + i]?).join).map (· / 3)).toList:=by
 unfold besL
 rw [List.range_succ,List.filterMap_append,List.map_append]
 cases e:(M[3 * c + i]?).join <;> simp [List.filterMap_cons,e]
structure WkJ (M:List (Option Nat)) (n k x j:Nat) (R W:List Nat):Prop where
 nd:R.Nodup
 st:k∈R
 xs:x∈R
 rc:∀ i∈R,i < n∧Rch M k i
 sub:∀ i∈W,i∈R
 cl:∀ i∈R,i ∉ W→i≠x→∀ a y,M[a]?=some (some y)→a / 3=i→y / 3∈R
 fst:∀ y∈(besL M x 3).take j,y∈R
section
variable {M:List (Option Nat)} {n k x j:Nat} {R W:List Nat}
theorem WkI.pop (h:WkI M n k R (W ++ [x])):WkJ M n k x 0 R W:=⟨h.nd,h.st,h.sub x (by simp),h.rc,fun i hi=>h.sub i (List.mem_append_left _ hi),fun i hi hw hx=>h.cl i hi (fun z=>by
 rcases List.mem_append.mp z with z | z
 ·exact hw z
 ·exact hx (List.mem_singleton.mp z)),fun y hy=>by rw [List.take_zero] at hy; cases hy⟩
theorem WkJ.done (h:WkJ M n k x (besL M x 3).length R W):WkI M n k R W:=⟨h.nd,h.st,h.rc,h.sub,fun i hi hw a y e ea=>by
 by_cases z:i=x
 ·subst z
  exact h.fst _ (by rw [List.take_length]; exact Zcx.mpr ⟨a,y,e,ea,rfl⟩)
 ·exact h.cl i hi hw z a y e ea⟩
theorem WkJ.old {y:Nat} (h:WkJ M n k x j R W) (hy:(besL M x 3)[j]?=some y) (hm:y∈R):WkJ M n k x (j + 1) R W:=⟨h.nd,h.st,h.xs,h.rc,h.sub,h.cl,fun z hz=>by
 rw [List.take_add_one,hy] at hz
 rcases List.mem_append.mp hz with q | q
 ·exact h.fst z q
 ·rw [show z=y by simpa using q]; exact hm⟩
theorem WkJ.new (hn:M.length=3 * n) (inv:InvM M) {y:Nat} (h:WkJ M n k x j R W) (hy:(besL M x 3)[j]?=some y) (hm:y ∉ R):WkJ M n k x (j + 1) (R ++ [y]) (W ++ [y]):=by
 obtain ⟨a,b,e,ea,eb⟩:=Zcx.mp (List.mem_of_getElem? hy)
 have hb:=(List.getElem?_eq_some_iff.mp (inv _ _ e).1).1
 have rx:=(h.rc x h.xs).2
 have ry:Rch M k y:=by
  rw [← eb]
  rw [← ea] at rx
  exact rx.step e
 refine ⟨?_,List.mem_append_left _ h.st,List.mem_append_left _ h.xs,fun i hi=>?_,fun i hi=>?_,fun i hi hw hx a' y' e' ea'=>?_,fun z hz=>?_⟩
 ·rw [List.nodup_append]
  exact ⟨h.nd,by simp,fun u hu v hv e=>by rw [List.mem_singleton.mp hv] at e; exact hm (e ▸ hu)⟩
 ·rcases List.mem_append.mp hi with q | q
  ·exact h.rc i q
  ·rw [List.mem_singleton.mp q]; exact ⟨by omega,ry⟩
 ·rcases List.mem_append.mp hi with q | q
  ·exact List.mem_append_left _ (h.sub i q)
  ·exact List.mem_append_right _ q
 ·rcases List.mem_append.mp hi with q | q
  ·exact List.mem_append_left _ (h.cl i q (fun z=>hw (List.mem_append_left _ z)) hx a' y' e' ea')
  ·exact absurd (List.mem_append_right _ q) hw
 ·rw [List.take_add_one,hy] at hz
  rcases List.mem_append.mp hz with q | q
  ·exact List.mem_append_left _ (h.fst z q)
  ·rw [show z=y by simpa using q]; exact List.mem_append_right _ List.mem_cons_self
theorem WkI.one (hk:k < n):WkI M n k [k] [k]:=⟨by simp,by simp,fun i hi=>by rw [List.mem_singleton.mp hi]; exact ⟨hk,.refl k⟩,fun i hi=>hi,fun i hi hw=>absurd hi hw⟩
theorem V8 {l:List Nat} {x:Nat}:(x:Int)∈wI l ↔ x∈l:=by
 rw [List.mem_map]
 exact ⟨fun ⟨y,hy,e⟩=>by rw [show x=y by omega]; exact hy,fun h=>⟨x,h,rfl⟩⟩
theorem Zke {l:List Nat} (h:l.Nodup):(wI l).Nodup:=List.pairwise_map.mpr (h.imp fun ne e=>ne (by omega))
theorem Zgr {l r:List Nat} {out:List Int} (hp:out.Perm (wI l)) (pw:out.Pairwise (·≤·)) (nl:l.Nodup) (rr:r.Pairwise (· < ·)) (m:∀ x,x∈l ↔ x∈r):out=wI r:=by
 refine Gh (fun x:Int=>x) out (wI r) (hp.nodup_iff.mpr (Zke nl)) (Zke (rr.imp fun h e=>by omega)) pw (List.pairwise_map.mpr (rr.imp fun h=>?_)) (fun x=>?_) fun x _ y _ e=>e
 ·show (_:Int)≤_
  omega
 ·rw [hp.mem_iff]
  constructor
  ·intro h
   obtain ⟨y,hy,rfl⟩:=List.mem_map.mp h
   exact V8.mpr ((m y).mp hy)
  ·intro h
   obtain ⟨y,hy,rfl⟩:=List.mem_map.mp h
   exact V8.mpr ((m y).mpr hy)
theorem Zkb {l:List Nat} {x:Nat} (h:x ∉ l):PyProof.Rows.step_dedup (wI l) (x:Int)=wI (l ++ [x]):=by
 unfold PyProof.Rows.step_dedup
 rw [if_neg (fun z=>by
  obtain ⟨y,hy,e⟩:=List.any_eq_true.mp z
  rw [beq_iff_eq] at e
  subst e
  exact h (V8.mp hy))]
 unfold wI
 rw [List.map_append]
 rfl
end
noncomputable def Zgo (C:Addr):Sp:=fun vs H Q _=>∃ (p:Addr) (M:List (Option Nat)) (ns:List Int) (k n:Nat),vs=[.ref p,.int k]∧Zw C H p M ns∧M.length=ns.length∧M.length=3 * n∧M.length≤60∧k < n ∧
 ∀ (l:Addr) (H':Hp),Same H H'→H l=none→H' l=some (.lst ((besL M k 3).map nV))→Q (.ref l) H'
noncomputable def Zc6 (C:Addr):Sp:=fun vs H Q _=>∃ (p:Addr) (M:List (Option Nat)) (ns:List Int) (k n:Nat),vs=[.ref p,.int k]∧Zw C H p M ns∧M.length=ns.length∧M.length=3 * n∧M.length≤60∧InvM M∧k < n ∧
 ∀ (l:Addr) (H':Hp),Same H H'→H l=none→H' l=some (.lst ((pcL M n k).map nV))→Q (.ref l) H'
section
variable {P:Program} {w:World} {K:PySem.W.Frag} {mg:Str→Option Value} {base:Heap} {t:Adr}
theorem Qa:FnScope ["tent","cloth","mates"] ["tent","cloth"] (Zg Qo):=⟨rfl,rfl,rfl,by decide +kernel,rfl,by decide +kernel,by decide +kernel⟩
theorem Oz (T:Txt w K mg t):FnOk P w K mg base (CXr P w) 4 t.a6 t.a7 ["tent","cloth"] (Zgo t.aa):=by
  refine T.a8.F.aR Qa (fun cdv A outer s H vs Q E hr h=>?_)
  · obtain ⟨p,M,ns,c,n,rfl,ta,hMl,hn,h60,hc,k⟩:=h
    refine ⟨_,(Ze (Xj (ts:=["place"]) (fv:=[("tent",0)]) (i:=2) ⟨rfl,by decide +kernel,by decide +kernel,Z6 (by rfl),⟨⟨rfl,rfl,Or.inl rfl⟩,trivial⟩⟩ rfl Qa.nd rfl rfl (by rfl) (G9 rfl T.ak (Za (Zj Xa Zf (pv 1)) (Za (Zj Z8 (Zj Xa Zf (pv 1)) Zf) Zc))) (fun _ _ _ _=>(Zn (i:=0) (show List.Nodup (["place","tent"]:List Str) from by decide +kernel) rfl (Or.inl rfl) (Or.inr rfl))) (fun _ _ _ _=>Yf) (fun _ _ _=>rfl) (fun _ _ _ _ _ _=>Ya (Wv (pv 1) T.ac T.aj.m (W3 T) (hr.mono (by decide)) T.aj.b .nil Y6 (Za (pv 0) Zc))))
      (Zh (Zp (Ys (ts:=["mate"]) (fv:=[]) ⟨rfl,by decide +kernel,by decide +kernel,Z6 (by rfl),trivial⟩ rfl (Zz (pv 2)) (fun _ _ _ _=>(Zn (i:=0) (show List.Nodup (["mate"]:List Str) from by decide +kernel) rfl (Or.inl rfl) (Or.inr rfl))) (fun _ _ _ _=>(Wu (Zq Jb (pv 0) Xy (Zu _)))) (fun _ _ _=>rfl) (fun _ _ _ _ _ _=>Ya (pcT (X1 T) hr T.au (Za (pv 0) Zc))))))),?_⟩
    have cm:CMul 3 (c:Int):=.inl ⟨by decide,by decide⟩
    refine Z2 fun nxC hnxC=>?_
    refine ⟨_,rfl,_,_,rfl,rfl,cm,_,rfl,_,_,rfl,rfl,cm,_,_,rfl,rfl,_,_,rfl,⟨by omega,by omega,by omega,by omega⟩,fun D hD=>?_⟩
    have e3:((3:Int) * c + 3 - 3 * c).toNat=3:=by omega
    rw [e3]
    refine J1 (fun i σ H1=>∃ v,σ=[v,some (.ref p)]∧Same H H1∧H1 D=some (.lst ((List.range i).map fun s=>mV (M[3 * c + s]?).join))) ⟨none,rfl,Same.new hD,Zb⟩ ?_ ?_
    · rintro i σ H1 hi ⟨v,rfl,s1,h1⟩
      have ta1:=ta.same s1
      obtain ⟨dx,cl,na,sp,mt',o,f,b⟩:=id ta1
      dsimp only [Zm,tYes]
      rw [if_pos rfl]
      refine ⟨_,rfl,p,dx,_,rfl,b.ins,Yv _ _ _ _,_,rfl,p,M,ns,_,rfl,ta1,hMl,fun i' y e1 e2=>?_,fun z=>absurd (show (0:Int)≤3 * (c:Int) + i∧3 * (c:Int) + i < ns.length by omega) z⟩
      have:i'=3 * c + i:=by omega
      subst this
      refine ⟨_,h1,?_,_,rfl,Same.add s1 hD,?_⟩
      · rw [List.length_map,List.length_range]; exact Zr (by omega)
      · rw [Zb,List.range_succ,List.map_append,List.map_singleton,e2]; rfl
    rintro σ H1 ⟨v,rfl,s1,h1⟩
    dsimp only [Zm]
    refine hnxC _ _ ?_
    refine ⟨_,rfl,D,rfl,⟨_,SqL.of h1⟩,fun G hG=>?_⟩
    refine Z4 (xs:=(List.range 3).map fun s=>mV (M[3 * c + s]?).join) (fun i σ H2=>∃ v,σ=[v]∧Same H1 H2∧H2 G=some (.lst ((besL M c i).map nV))) ⟨none,rfl,Same.new hG,Zb⟩ ?_ ?_ ?_
    · rintro i σ H2 _ ⟨v,rfl,s2,h2⟩
      exact SqL.of (s2 _ _ h1)
    · rintro i x σ H2 hx ⟨v,rfl,s2,h2⟩
      rw [List.getElem?_map] at hx
      obtain ⟨i',hi',rfl⟩:=Option.map_eq_some_iff.mp hx
      obtain ⟨hi,rfl⟩:i < 3∧i=i':=by
        by_cases z:i < 3
        · rw [List.getElem?_range z] at hi'; cases hi'; exact ⟨z,rfl⟩
        · rw [List.getElem?_eq_none (by rw [List.length_range]; omega)] at hi'; cases hi'
      have hb:=Zkc (M:=M) (c:=c) (i:=i)
      have hl:(besL M c i).length≤3:=by
        unfold besL
        rw [List.length_map]
        have:=List.length_filterMap_le (fun s=>(M[3 * c + s]?).join) (List.range i)
        rw [List.length_range] at this
        omega
      dsimp only [Zm]
      cases e:(M[3 * c + i]?).join with
      | none =>
        refine ⟨_,rfl,rfl,_,rfl,iteF ⟨_,rfl,s2,?_⟩⟩
        rw [h2,hb,e]
        simp
      | some y =>
        refine ⟨_,rfl,rfl,_,rfl,iteT ⟨_,rfl,(y:Int),rfl,_,h2,?_,_,rfl,Same.add s2 hG,?_⟩⟩
        · rw [List.length_map]; exact Zr (by omega)
        · rw [Zb,hb,e,List.map_append]; rfl
    · rintro σ H2 ⟨v,rfl,s2,h2⟩
      rw [List.length_map,List.length_range] at h2
      exact k G H2 (s1.trans s2) (s1.free hG) h2
theorem Wl:FnScope ["tent","cloth","reached","waiting","here","other"] ["tent","cloth"] (Zg Kk):=⟨rfl,rfl,rfl,by decide +kernel,rfl,by decide +kernel,by decide +kernel⟩
theorem Zdh (T:Txt w K mg t):FnOk P w K mg base (CXr P w) 5 t.ay t.cp ["tent","cloth"] (Zc6 t.aa):=by
 refine T.a5.F.okC Wl (fun vs H Q E h=>?_) (fun cdv A outer s H vs Q E hcd hr h=>?_)
 ·obtain ⟨p,M,ns,k,n,rfl,_⟩:=h
  rfl
 ·obtain ⟨p,M,ns,c,n,rfl,ta,hMl,hn,h60,inv,hc,k⟩:=h
  refine ⟨_,(Ze (Zo (i:=2) Wl.nd rfl (Or.inl rfl) (Zha (pv 1) hcd))
   (Ze (Zo (i:=3) Wl.nd rfl (Or.inl rfl) (Y5 (Za (pv 1) Zc)))
   (Ze (Wr PassesOwn.never (Zbn (pv 3) (fun _=>rfl)) (Ze (Zo (i:=4) Wl.nd rfl (Or.inl rfl) (Zmz PySem.F.plainAttrs_list PySem.F.slot_list_pop PySem.F.type_list_pop Zm6 (pv 3)))
   (Zh (Y1 PassesOwn.never rfl (Zz (pcT (Oz T) hr T.a8 (Za (pv 0) (Za (pv 4) Zc)))) (Zn (i:=5) Wl.nd rfl (Or.inl rfl)) (Zh (Yd (Zq Zbt (pv 5) (pv 2) (by with_unfolding_all rfl)) (Ze (Yg (Zfp (pv 2) (Za (pv 5) Zc)))
   (Zh (Yg (Y3 PySem.F.plainAttrs_list PySem.F.slot_list_append PySem.F.type_list_append Yc (pv 3) (Za (pv 5) Zc))))) Z3))))))
   (Zh (Zp (Zl (Zcw rfl) (by rfl) T.cE PyProof.Rows.boot_sorted (Za (pv 2) Zc))))))),?_⟩
  refine fun D hD=>⟨_,rfl,(c:Int),rfl,Zb,?_⟩
  rw [U2]
  dsimp only [Zm]
  refine ⟨_,rfl,(by show 1≤sizeLine; rw [sizeLine_eq]; decide),fun l hl=>?_⟩
  obtain ⟨hlD,hl0⟩:=Xv hl
  have s0:Same H (upd (upd H D (setH P w D [(c:Int)])) l (.lst [V.int c])):=Same.add (Same.new hD) hl0
  have h0:(upd (upd H D (setH P w D [(c:Int)])) l (.lst [V.int c])) l=some (.lst ([c].map nV)):=Zb
  have d0:(upd (upd H D (setH P w D [(c:Int)])) l (.lst [V.int c])) D=some (setH P w D (wI [c])):=by rw [Zd (Ne.symm hlD),Zb]; rfl
  dsimp only [Zm]
  show tSeq (Jl _ _) _ _ _ _
  refine ⟨fun m σ H2=>∃ (R W:List Nat) (v4 v5:Option V),m=2 * (n - R.length) + W.length∧σ=[some (.ref p),some (.int c),some (.ref D),some (.ref l),v4,v5]∧Same H H2∧H2 D=some (setH P w D (wI R))∧H2 l=some (.lst (W.map nV))∧WkI M n c R W∧2 * (n - R.length) + W.length≤2 * n,⟨_,[c],[c],none,none,rfl,rfl,s0,d0,h0,WkI.one hc,by simp; omega⟩,?_⟩
  rintro m σ H2 ⟨R,W,v4,v5,rfl,rfl,s2,d2,h2,hI,hm2⟩
  clear s0 h0 d0 hl
  have hR:=hI.len
  rcases List.eq_nil_or_concat W with rfl | ⟨W',x,eW⟩
  ·refine ⟨_,rfl,false,.inl ⟨_,SqL.of h2,rfl⟩,iteF ?_⟩
   refine ⟨_,rfl,D,wI R,rfl,d2,by rw [Zan]; omega,fun q out hq hp pw=>?_⟩
   refine k q _ (Same.add s2 (s2.free hq)) (s2.free hq) ?_
   rw [Zb,Zgr (r:=pcL M n c) hp pw hI.nd (List.Pairwise.filter _ List.pairwise_lt_range) fun x=>hI.mem inv hn hc,Zfv]
  ·rw [List.concat_eq_append] at eW
   subst eW
   refine ⟨_,rfl,true,.inl ⟨_,SqL.of h2,by simp⟩,iteT ⟨_,fun σ' H' h=>h,?_⟩⟩
   refine ⟨_,rfl,.inl ⟨rfl,_,SqL.of h2⟩,l,_,nV x,rfl,rfl,h2,?_,?_⟩
   ·rw [List.length_map,List.length_append,List.length_singleton,Nat.add_sub_cancel,List.getElem?_map,List.getElem?_append_right (Nat.le_refl _),Nat.sub_self]; rfl
   have s3:Same H (upd H2 l (.lst ((W' ++ [x]).map nV).dropLast)):=Same.add s2 hl0
   have d3:(upd H2 l (.lst ((W' ++ [x]).map nV).dropLast)) D=some (setH P w D (wI R)):=by rw [Zd (Ne.symm hlD)]; exact d2
   have h3:(upd H2 l (.lst ((W' ++ [x]).map nV).dropLast)) l=some (.lst (W'.map nV)):=by rw [Zb]; simp
   dsimp only [Zm]
   generalize upd H2 l (.lst ((W' ++ [x]).map nV).dropLast)=H3 at s3 d3 h3
   have hJ:=hI.pop
   have hx:=(hJ.rc x hJ.xs).1
   refine ⟨_,rfl,_,rfl,p,M,ns,x,n,rfl,ta.same s3,hMl,hn,h60,hx,fun q H4 s4 hq h4=>?_⟩
   refine ⟨q,rfl,⟨_,SqL.of h4⟩,?_⟩
   have hqD:q≠D:=fun z=>by rw [z,d3] at hq; cases hq
   have hql:q≠l:=fun z=>by rw [z,h3] at hq; cases hq
   refine Wc (xs:=(besL M x 3).map nV) (fun j σ H5=>∃ (R' W'':List Nat) (v5:Option V),σ=[some (.ref p),some (.int c),some (.ref D),some (.ref l),some (.int x),v5]∧Same H H5∧H5 q=some (.lst ((besL M x 3).map nV))∧H5 D=some (setH P w D (wI R'))∧H5 l=some (.lst (W''.map nV))∧WkJ M n c x j R' W''∧2 * (n - R'.length) + W''.length < 2 * (n - R.length) + (W' ++ [x]).length) ⟨R,W',_,rfl,s3.trans s4,h4,s4 _ _ d3,s4 _ _ h3,hJ,by rw [List.length_append,List.length_singleton]; omega⟩ ?_ ?_ ?_
   ·rintro j σ H5 _ ⟨R',W'',v5,rfl,s5,q5,d5,l5,J5,m5⟩
    exact SqL.of q5
   ·rintro j y σ H5 hyy ⟨R',W'',v5,rfl,s5,q5,d5,l5,J5,m5⟩
    obtain ⟨y,hy,rfl⟩:=map_some hyy
    have hR':R'.length≤n:=X0 n R' J5.nd fun a ha=>(J5.rc a ha).1
    dsimp only [Zm]
    refine ⟨_,rfl,_,rfl,(y:Int),D,_,rfl,rfl,d5,_,rfl,?_⟩
    by_cases hm:y∈R'
    ·rw [decide_eq_true (V8.mpr hm)]
     refine iteF ?_
     exact ⟨R',W'',_,rfl,s5,q5,d5,l5,J5.old hy hm,m5⟩
    ·rw [decide_eq_false (fun z=>hm (V8.mp z))]
     refine iteT ?_
     refine ⟨_,rfl,D,_,rfl,d5,_,rfl,(y:Int),_,rfl,d5,by rw [Zan]; omega,?_⟩
     have JN:=J5.new hn inv hy hm
     have hR2:(R' ++ [y]).length≤n:=X0 n _ JN.nd fun a ha=>(JN.rc a ha).1
     rw [List.length_append,List.length_singleton] at hR2
     have hW:W''.length≤1000:=by omega
     refine ⟨_,rfl,.inl ⟨rfl,_,SqL.of (show (upd H5 D _) l=_ by rw [Zd hlD]; exact l5)⟩,_,rfl,l,_,_,rfl,rfl,(show (upd H5 D _) l=_ by rw [Zd hlD]; exact l5),(by rw [List.length_map]; exact Zr hW),?_⟩
     refine ⟨R' ++ [y],W'' ++ [y],_,rfl,Same.add (Same.add s5 hD) hl0,?_,?_,?_,JN,?_⟩
     ·rw [Zd hql,Zd hqD]; exact q5
     ·rw [Zd (Ne.symm hlD),Zb,← Zkb hm]; rfl
     ·rw [Zb,List.map_append]; rfl
     ·rw [List.length_append,List.length_append,List.length_singleton]; omega
   ·rintro σ H5 ⟨R',W'',v5,rfl,s5,q5,d5,l5,J5,m5⟩
    rw [List.length_map] at J5
    exact ⟨_,m5,R',W'',_,_,rfl,rfl,s5,d5,l5,J5.done,by omega⟩
end
theorem Uy {M:List (Option Nat)} {n:Nat} {S:List Nat} {x:Nat}:((S ++ [x]).map (pcL M n)).flatten=(S.map (pcL M n)).flatten ++ pcL M n x:=by rw [List.map_append,List.flatten_append]; simp
noncomputable def Zi3 (C fr:Addr):Sp:=fun vs H Q _=>∃ (p a:Addr) (M:List (Option Nat)) (ns:List Int) (ps:List Nat) (n:Nat),vs=[.ref p,.ref a,.ref fr]∧Zw C H p M ns∧M.length=ns.length∧M.length=3 * n∧M.length≤60∧InvM M∧H a=some (.lst (ps.map nV))∧(∀ c∈ps,c < n)∧ps.length≤60∧∀ (l:Addr) (as:List Addr) (H':Hp),Same H H'→LLx H' l as ((Xd M n ps).map (pcL M n)) []→Q (.ref l) H'
noncomputable def Zgn (C:Addr):Sp:=fun vs H Q _=>∃ (p:Addr) (M:List (Option Nat)) (ns:List Int) (n:Nat),vs=[.ref p]∧Zw C H p M ns∧M.length=ns.length∧M.length=3 * n∧M.length≤60∧InvM M∧∀ (l:Addr) (as:List Addr) (H':Hp),Same H H'→LLx H' l as ((lsL M n).map (pcL M n)) []→Q (.ref l) H'
section
variable {P:Program} {w:World} {K:PySem.W.Frag} {mg:Str→Option Value} {base:Heap} {t:Adr}
theorem F7 (T:Txt w K mg t):FnOk P w K mg base (CXr P w) 7 t.aK t.aO ["tent","numbers","group_from"] (Zi3 t.aa t.ay):=by
 refine T.aw.F.aR Z1 (fun cdv A outer s H vs Q E hr h=>?_)
 ·obtain ⟨p,a,M,ns,ps,n,rfl,ta,hMl,hn,h60,inv,ha,hlt,hpl,k⟩:=h
  refine ⟨_,(Ze (Zo (i:=3) Z1.nd rfl (Or.inl rfl) (Vs Uz (by rfl) T.eC PySem.Pv.boot_set))
   (Ze (Zo (i:=4) Z1.nd rfl (Or.inl rfl) (Y5 Zc))
   (Ze (Y1 PassesOwn.never rfl (Zz (pv 1)) (Zn (i:=5) Z1.nd rfl (Or.inl rfl)) (Zh (Yd (Zq Jh (pv 5) (pv 3) (by with_unfolding_all rfl)) (Ze (Yg (Y3 PySem.F.plainAttrs_list PySem.F.slot_list_append PySem.F.type_list_append Yc (pv 4) (Za (Ow (i:=2) (Zdh T) (hr.mono (by decide)) rfl (Or.inl rfl) T.a5.F.kp T.a5.b .nil Y6 (Za (pv 0) (Za (pv 5) Zc))) Zc)))
   (Zh (Y1 PassesOwn.never rfl (Zz (Zs Zt (pv 4) (Zad Ka Zf) (fun _ _=>rfl))) (Zn (i:=6) Z1.nd rfl (Or.inl rfl)) (Zh (Yg (Y3 PySem.F.plainAttrs_set PySem.F.slot_set_add PySem.F.type_set_add Qr (pv 3) (Za (pv 6) Zc))))))) Z3)))
   (Zh (Zp (pv 4)))))),?_⟩
  refine ⟨rfl,fun sN hsN=>?_⟩
  rw [U9]
  refine ⟨Nat.zero_le _,fun g hg=>?_⟩
  obtain ⟨hgs,hg0⟩:=Xv hg
  have s0:Same H (upd (upd H sN (.set (inL []) 0)) g (.lst [])):=Same.add (Same.new hsN) hg0
  have l0:LLx (upd (upd H sN (.set (inL []) 0)) g (.lst [])) g [] [] [g,sN]:=⟨Zb,rfl,fun i a g ha _=>by simp at ha,fun a ha=>absurd ha List.not_mem_nil⟩
  have e0:(upd (upd H sN (.set (inL []) 0)) g (.lst [])) sN=some (.set (inL []) 0):=by rw [Zd (Ne.symm hgs),Zb]
  generalize upd (upd H sN (.set (inL []) 0)) g (.lst [])=H0 at s0 l0 e0
  clear hg
  dsimp only [Zm]
  refine ⟨_,rfl,a,rfl,⟨_,SqL.of (s0 _ _ ha)⟩,?_⟩
  refine Wc (xs:=ps.map nV) (fun i σ H1=>∃ (as:List Addr) (m:Nat) (v5 v6:Option V),σ=[some (.ref p),some (.ref a),some (.ref t.ay),some (.ref sN),some (.ref g),v5,v6]∧Same H H1∧H1 sN=some (.set (inL ((Xd M n (ps.take i)).map (pcL M n)).flatten) m)∧m≤((Xd M n (ps.take i)).map (pcL M n)).flatten.length∧((Xd M n (ps.take i)).map (pcL M n)).flatten.length≤60 * i∧(Xd M n (ps.take i)).length≤i∧LLx H1 g as ((Xd M n (ps.take i)).map (pcL M n)) [g,sN]) ⟨[],0,none,none,rfl,s0,e0,Nat.le_refl _,Nat.le_refl _,Nat.le_refl _,l0⟩ ?_ ?_ ?_
  ·rintro i σ H1 _ ⟨as,m,v5,v6,rfl,s1,_⟩
   exact SqL.of (s1 _ _ ha)
  ·rintro i y σ H1 hy ⟨as,m,v5,v6,rfl,s1,h1,hm1,hf1,hS1,l1⟩
   obtain ⟨x,hx,rfl⟩:=map_some hy
   have hi:i < ps.length:=(List.getElem?_eq_some_iff.mp hx).1
   have et:ps.take (i + 1)=ps.take i ++ [x]:=by rw [List.take_add_one,hx]; rfl
   rw [et]
   have hxl:=hlt x (List.mem_of_getElem? hx)
   have gin:=@Zcj M n (ps.take i) x
   have gnew:=@Fl M n (ps.take i) x
   clear et
   generalize Xd M n (ps.take i)=S at h1 hm1 hf1 hS1 l1 gin gnew
   dsimp only [Zm]
   refine ⟨_,rfl,_,rfl,(x:Int),sN,_,_,rfl,rfl,h1,_,rfl,?_⟩
   rw [Ve]
   by_cases hm:x∈(S.map (pcL M n)).flatten
   ·rw [decide_eq_true hm]
    refine iteF ?_
    rw [gin hm]
    exact ⟨as,m,_,_,rfl,s1,h1,hm1,by omega,by omega,l1⟩
   ·rw [decide_eq_false hm]
    refine iteT ?_
    refine ⟨_,rfl,.inl ⟨rfl,_,SqL.of l1.at'⟩,rfl,_,rfl,_,rfl,p,M,ns,x,n,rfl,ta.same s1,hMl,hn,by omega,inv,hxl,fun l H2 s2 hl2 h2=>?_⟩
    obtain ⟨os,hos⟩:∃ os,pcL M n x=os:=⟨_,rfl⟩
    have hol:os.length≤n:=by rw [← hos]; unfold pcL; have:=List.length_filter_le (fun j=>@decide (Rch M x j) (Classical.propDecidable _)) (List.range n); rw [List.length_range] at this; exact this
    rw [hos] at h2
    have l2:=l1.same s2
    have hasl:as.length≤1000:=by rw [l1.len,List.length_map]; omega
    refine ⟨g,_,_,rfl,rfl,l2.at',(by rw [List.length_map]; exact Zr hasl),?_⟩
    have hlg:l≠g:=fun z=>by rw [z,l1.at'] at hl2; cases hl2
    have hls:l≠sN:=fun z=>by rw [z,h1] at hl2; cases hl2
    have l3:=l2.push (x:=l) (g:=os) List.mem_cons_self h2 (by simp [hlg,hls])
    have s3:Same H (upd H2 g (.lst (as.map V.ref ++ [V.ref l]))):=Same.add (s1.trans s2) hg0
    have h3:(upd H2 g (.lst (as.map V.ref ++ [V.ref l]))) sN=some (.set (inL (S.map (pcL M n)).flatten) m):=by rw [Zd (Ne.symm hgs)]; exact s2 _ _ h1
    have h3l:(upd H2 g (.lst (as.map V.ref ++ [V.ref l]))) l=some (.lst (os.map nV)):=by rw [Zd hlg]; exact h2
    have hat:(upd H2 g (.lst (as.map V.ref ++ [V.ref l]))) g=some (.lst (as.map V.ref ++ [V.ref l])):=Zb
    generalize upd H2 g (.lst (as.map V.ref ++ [V.ref l]))=H3 at l3 s3 h3 h3l hat
    refine ⟨_,rfl,_,rfl,g,_,_,_,rfl,rfl,SqL.of hat,Zcz _ _,l,rfl,⟨_,SqL.of h3l⟩,?_⟩
    refine Wc (xs:=os.map nV) (fun j σ H4=>∃ (m':Nat) (v6:Option V),σ=[some (.ref p),some (.ref a),some (.ref t.ay),some (.ref sN),some (.ref g),some (.int x),v6]∧Same H H4∧H4 l=some (.lst (os.map nV))∧H4 sN=some (.set (inL ((S.map (pcL M n)).flatten ++ os.take j)) m')∧m'≤(S.map (pcL M n)).flatten.length + j∧LLx H4 g (as ++ [l]) (S.map (pcL M n) ++ [os]) [g,sN]) ⟨m,_,rfl,s3,h3l,by rw [List.take_zero,List.append_nil]; exact h3,hm1,l3⟩ ?_ ?_ ?_
    ·rintro j σ H4 _ ⟨m',v6,rfl,s4,h4,_⟩
     exact SqL.of h4
    ·rintro j y σ H4 hy ⟨m',v6,rfl,s4,h4,e4,hm4,l4⟩
     obtain ⟨z,hz,rfl⟩:=map_some hy
     have hj:j < os.length:=(List.getElem?_eq_some_iff.mp hz).1
     dsimp only [Zm]
     refine ⟨_,rfl,.inr (.inr (.inr ⟨rfl,_,_,e4⟩)),_,rfl,sN,(z:Int),_,_,rfl,rfl,e4,by omega,?_⟩
     rw [Oa]
     refine ⟨(if inL ((S.map (pcL M n)).flatten ++ os.take j) (z:Int)=true then m' else m' + 1),_,rfl,Same.add s4 hsN,by rw [Zd hls]; exact h4,?_,?_,l4.upd (by simp) (Ne.symm hgs)⟩
     ·rw [Zb,List.take_add_one,hz,List.append_assoc]
      rfl
     ·split <;> omega
    ·rintro σ H4 ⟨m',v6,rfl,s4,h4,e4,hm4,l4⟩
     rw [List.length_map,List.take_length] at e4
     rw [List.length_map] at hm4
     rw [gnew hm]
     refine ⟨as ++ [l],m',_,_,rfl,s4,?_,?_,?_,?_,?_⟩
     ·rw [Uy,hos]; exact e4
     ·rw [Uy,hos,List.length_append]; exact hm4
     ·rw [Uy,hos,List.length_append]; omega
     ·rw [List.length_append,List.length_singleton]; omega
     ·rw [List.map_append,List.map_cons,List.map_nil,hos]; exact l4
  ·rintro σ H1 ⟨as,m,v5,v6,rfl,s1,h1,hm1,hf1,hS1,l1⟩
   rw [List.length_map,List.take_length] at l1
   exact ⟨_,rfl,k g as H1 s1 ⟨l1.at',l1.len,l1.row,fun _ _=>List.not_mem_nil⟩⟩
theorem Zgt:FnScope ["tent"] ["tent"] (Zg Zbb):=⟨rfl,rfl,rfl,by decide +kernel,rfl,by decide +kernel,by decide +kernel⟩
theorem Uq (T:Txt w K mg t):FnOk P w K mg base (CXr P w) 8 t.cY t.dh ["tent"] (Zgn t.aa):=by
 refine T.bD.F.aR Zgt (fun cdv A outer s H vs Q E hr h=>?_)
 ·obtain ⟨p,M,ns,n,rfl,ta,hMl,hn,h60,inv,k⟩:=h
  obtain ⟨dx,cl,na,sp,mt',o,f,b⟩:=id ta
  refine ⟨_,(Zh (Zp (pcT (F7 T) hr T.aw (Za (pv 0) (Za (W1 rfl T.aH rfl T.ak rfl (Za (Qg (pv 0) T.ac T.bo.m (Zbz T) (hr.mono (by decide)) T.bo.b .nil Y6) Zc)) (Za (Q6 (v:=.ref t.ay) rfl T.a5.g rfl) Zc)))))),?_⟩
  refine ⟨_,rfl,_,rfl,p,dx,_,rfl,b.ins,Yv _ _ _ _,p,M,ns,n,rfl,ta,by omega,?_⟩
  refine ⟨n,rfl,by omega,fun a ha=>?_⟩
  have s1:Same H (upd H a (.lst ((List.range n).map nV))):=Same.new ha
  have h1:(upd H a (.lst ((List.range n).map nV))) a=some (.lst ((List.range n).map nV)):=Zb
  refine ⟨p,a,M,ns,List.range n,n,rfl,ta.same s1,hMl,hn,h60,inv,h1,fun c hc=>List.mem_range.mp hc,by rw [List.length_range]; omega,fun l as H2 s2 l2=>?_⟩
  rw [Zh7 inv hn] at l2
  exact k l as H2 (s1.trans s2) l2
end
end KT
set_option maxHeartbeats 4000000
namespace KT
open PySem L2
noncomputable def nmB (ns:List Int) (P:List Nat) (i:Nat) (k:Int):Bool:=(List.range i).any fun x=>inP P x && decide (ns[x]?=some k)
theorem Va {ns:List Int} {P:List Nat} {i:Nat} {k:Int}:nmB ns P i k=true ↔ ∃ x,x < i∧x / 3∈P∧ns[x]?=some k:=by
 unfold nmB
 rw [List.any_eq_true]
 constructor
 ·rintro ⟨x,hx,h⟩
  rw [Bool.and_eq_true] at h
  exact ⟨x,List.mem_range.mp hx,Y8.mp h.1,of_decide_eq_true h.2⟩
 ·rintro ⟨x,h1,h2,h3⟩
  exact ⟨x,List.mem_range.mpr h1,by rw [Bool.and_eq_true]; exact ⟨Y8.mpr h2,decide_eq_true h3⟩⟩
theorem Zlt {ns:List Int} {P:List Nat} {i:Nat} {y:Int} (h:i / 3∈P) (e:ns[i]?=some y):(fun k=>nmB ns P i k || decide (k=y))=nmB ns P (i + 1):=by
 funext k
 rw [Bool.eq_iff_iff,Bool.or_eq_true,Va,Va,decide_eq_true_iff]
 constructor
 ·rintro (⟨x,h1,h2,h3⟩ | rfl)
  ·exact ⟨x,by omega,h2,h3⟩
  ·exact ⟨i,by omega,h,e⟩
 ·rintro ⟨x,h1,h2,h3⟩
  by_cases z:x=i
  ·subst z
   rw [e] at h3
   exact .inr (Option.some.inj h3).symm
  ·exact .inl ⟨x,by omega,h2,h3⟩
theorem Zm5 {ns:List Int} {P:List Nat} {i:Nat} (h:i / 3 ∉ P):nmB ns P (i + 1)=nmB ns P i:=by
 funext k
 rw [Bool.eq_iff_iff,Va,Va]
 constructor
 ·rintro ⟨x,h1,h2,h3⟩
  exact ⟨x,by have:x≠i:=fun z=>h (z ▸ h2); omega,h2,h3⟩
 ·rintro ⟨x,h1,h2,h3⟩
  exact ⟨x,by omega,h2,h3⟩
theorem Zlu {M:List (Option Nat)} {ns:List Int} {P:List Nat} {n i:Nat} {y:Int} (td:TD M ns) (pc:Pc M n P) (hi:i < M.length) (h:i / 3∈P) (e:ns[i]?=some y):nmB ns P i y=!X2 M P i:=by
 obtain ⟨o,ho⟩:∃ o,M[i]?=some o:=⟨_,List.getElem?_eq_getElem hi⟩
 have key:nmB ns P i y=true ↔ ∃ x,x < i∧M[i]?=some (some x):=by
  rw [Va]
  constructor
  ·rintro ⟨x,h1,h2,h3⟩
   rcases td.eqv x i y h3 e with z | z
   ·omega
   ·exact ⟨x,h1,(td.inv _ _ z).1⟩
  ·rintro ⟨x,h1,h2⟩
   exact ⟨x,h1,(pc.clo _ _ h2).mp h,by rw [td.eqm i x h2]; exact e⟩
 have sb:X2 M P i=true ↔ ¬ ∃ x,x < i∧M[i]?=some (some x):=by
  unfold X2
  rw [Bool.and_eq_true,Bool.or_eq_true,Zem,Y8]
  constructor
  ·rintro ⟨_,z | ⟨q,q1,q2⟩⟩ ⟨x,h1,h2⟩
   ·have:M[i]?=some none:=of_decide_eq_true z
    rw [h2] at this; cases this
   ·rw [h2] at q1; cases q1; omega
  ·intro z
   refine ⟨h,?_⟩
   cases o with
   | none=>exact .inl (decide_eq_true (p:=M[i]?=some none) ho)
   | some q =>
    refine .inr ⟨q,ho,?_⟩
    have:=(td.inv _ _ ho).2
    rcases Nat.lt_or_ge i q with w | w
    ·exact w
    ·exact absurd ⟨q,by omega,ho⟩ z
 rw [Bool.eq_iff_iff,key,Bool.not_eq_true',← Bool.not_eq_true,sb]
 exact ⟨fun z w=>w z,fun z=>Classical.byContradiction z⟩
noncomputable def nIn (M:List (Option Nat)) (P S:List Nat):Nat:=(S.filter fun c=>inP P c && (fanF M c).2).length
noncomputable def nPt (P S:List Nat):Nat:=(S.filter (inP P)).length
noncomputable def nRm (M:List (Option Nat)) (P:List Nat):Nat:=((Ym M (rimL M)).filter fun os=>inP P (os.headD 0)).length
noncomputable def nSm (M:List (Option Nat)) (P:List Nat):Nat:=((List.range M.length).filter (X2 M P)).length
noncomputable def hdl (M:List (Option Nat)) (P S:List Nat):Int:=((2:Int) - nRm M P - nPt P S + nSm M P - P.length) / 2
noncomputable def NT (H H':Hp):Prop:=∀ b u,(∀ ps,u≠.tbl ps)→H b=some u→H' b=some u
theorem NT.of {H H':Hp} {Pt:Addr} {q:Str} (h:TabQ q Pt H) (up:∀ b u,b≠Pt→H b=some u→H' b=some u):NT H H':=fun b u n e=>up b u (fun z=>by obtain ⟨ps,e',_⟩:=h; rw [z,e'] at e; exact n ps (Option.some.inj e).symm) e
theorem NT.trans {H H1 H2:Hp} (a:NT H H1) (b:NT H1 H2):NT H H2:=fun c o n h=>b c o n (a c o n h)
theorem ntS {H H':Hp} (s:Same H H'):NT H H':=fun b u _ e=>s b u e
theorem Zw.nt {C:Addr} {H H':Hp} {p:Addr} {M:List (Option Nat)} {ns:List Int} (h:Zw C H p M ns) (s:NT H H'):Zw C H' p M ns:=by
 obtain ⟨dx,cl,na,sp,mt,o,f,b⟩:=h
 refine ⟨dx,cl,na,sp,mt,o,f,s _ _ (by intro _ z; cases z) b.ins,?_,s _ _ (by intro _ z; cases z) b.names,s _ _ (by intro _ z; cases z) b.spots,s _ _ (by intro _ z; cases z) b.mates,fun x hx=>s _ _ (by intro _ z; cases z) (b.at' x hx)⟩
 obtain ⟨ts,h1,h2,h3⟩:=b.rows
 exact ⟨ts,s _ _ (by intro _ z; cases z) h1,h2,fun k t e=>s _ _ (by intro _ z; cases z) (h3 k t e)⟩
noncomputable def Zc4 (C Pt:Addr) (qn:Str):Sp:=fun vs H Q _=>∃ (p a:Addr) (M:List (Option Nat)) (ns:List Int) (P:List Nat) (n:Nat),vs=[.ref p,.ref a]∧Zw C H p M ns∧M.length=ns.length∧M.length=3 * n∧M.length≤60∧TD M ns∧Pc M n P∧H a=some (.lst (P.map nV))∧TabQ qn Pt H ∧
 ∀ (q:Addr) (S:List Nat) (H':Hp),NT H H'→TabQ qn Pt H'→RiseC M S→H' q=some (.tup [.int P.length,.int (nIn M P S),.int (nRm M P),.int (hdl M P S)])→Q (.ref q) H'
section
variable {P:Program} {w:World} {K:PySem.W.Frag} {mg:Str→Option Value} {base:Heap} {t:Adr}
theorem Wk:FnScope ["tent","piece","own_points","own_rims","seams","handles"] ["tent","piece"] (Zg Ki):=⟨rfl,rfl,rfl,by decide +kernel,rfl,by decide +kernel,by decide +kernel⟩
theorem Zdf (TB:TabB mg base t.aF t.ah) (T:Txt w K mg t):FnOk P w K mg base (CXr P w) 9 t.cc t.cq ["tent","piece"] (Zc4 t.aa t.ah ((PyProof.Rows.envOfC "points" (Zg X6) 0 0 .none).qual ++ "<lambda>")):=by
  refine T.cA.F.aR Wk (fun cdv A outer s H vs Q E hr h=>?_)
  · obtain ⟨p,a,M,ns,P,n,rfl,ta,hMl,hn,h60,td,pc,ha,hT,k⟩:=h
    refine ⟨_,(Ze (Xj (ts:=["within","corners"]) (fv:=[("piece",1)]) (i:=2) ⟨rfl,by decide +kernel,by decide +kernel,Z6 (by rfl),⟨⟨rfl,rfl,Or.inl rfl⟩,trivial⟩⟩ rfl Wk.nd rfl rfl (by rfl) (Zz (pcT (Up T TB) hr T.aV (Za (pv 0) Zc))) (fun _ _ _ _=>(Zef (n:=2) K rfl (Z5 (Zn (i:=0) (show List.Nodup (["within","corners","piece"]:List Str) from by decide +kernel) rfl (Or.inl rfl) (Or.inr rfl)) (Z5 (Zn (i:=1) (show List.Nodup (["within","corners","piece"]:List Str) from by decide +kernel) rfl (Or.inl rfl) (Or.inr rfl)) Wf)))) (fun _ _ _ _=>(Wu (Zq (Vu K) (pcT (X1 T) hr T.au (Za (Zs (Xb K) (pv 1) Zf (fun _ _=>rfl)) Zc)) (pv 2) (by with_unfolding_all rfl)))) (fun _ _ _=>rfl) (fun _ _ _ _ _ _=>Ya (pv 0)))
      (Ze (Xj (ts:=["places"]) (fv:=[("piece",1)]) (i:=3) ⟨rfl,by decide +kernel,by decide +kernel,Z6 (by rfl),⟨⟨rfl,rfl,Or.inl rfl⟩,trivial⟩⟩ rfl Wk.nd rfl rfl (by rfl) (Zz (pcT (Zlq T) hr T.eB (Za (pv 0) Zc))) (fun _ _ _ _=>(Zn (i:=0) (show List.Nodup (["places","piece"]:List Str) from by decide +kernel) rfl (Or.inl rfl) (Or.inr rfl))) (fun _ _ _ _=>(Wu (Zq (Vu K) (pcT (X1 T) hr T.au (Za (Zs (Xb K) (pv 0) Zf (fun _ _=>rfl)) Zc)) (pv 1) (by with_unfolding_all rfl)))) (fun _ _ _=>rfl) (fun _ _ _ _ _ _=>Ya (pv 0)))
      (Ze (Zo (i:=4) Wk.nd rfl (Or.inl rfl) (Zl Zdw (by rfl) T.ae PySem.boot_len (Za (Fa (ts:=["place"]) (fv:=[("tent",0),("piece",1)]) ⟨rfl,by decide +kernel,by decide +kernel,Z6 (by rfl),⟨⟨rfl,rfl,Or.inl rfl⟩,⟨rfl,rfl,Or.inl rfl⟩,trivial⟩⟩ rfl (Zz (Qg (pv 0) T.ac T.af.m (X9 T) (hr.mono (by decide)) T.af.b .nil Y6)) (fun _ _ _ _=>(Zn (i:=0) (show List.Nodup (["place","tent","piece"]:List Str) from by decide +kernel) rfl (Or.inl rfl) (Or.inr rfl))) (fun _ _ _ _=>(Wu (Zq (Vu K) (pcT (X1 T) hr T.au (Za (pv 0) Zc)) (pv 2) (by with_unfolding_all rfl)))) (fun _ _ _=>rfl) (fun _ _ _ _ _ _=>Zbr (Wv (pv 1) T.ac T.ao.m (Qq T) (hr.mono (by decide)) T.ao.b .nil Y6 (Za (pv 0) Zc)))) Zc)))
      (Ze (Zo (i:=5) Wk.nd rfl (Or.inl rfl) (Zj Y2 (Zj Wn (Zj Z8 (Zj Wn (Zj Wn Zf (Zl Zk (by rfl) T.ae PySem.boot_len (Za (pv 3) Zc))) (Zl Zk (by rfl) T.ae PySem.boot_len (Za (pv 2) Zc))) (pv 4)) (Zl Zk (by rfl) T.ae PySem.boot_len (Za (pv 1) Zc))) Zf))
      (Zh (Zp (Xo (Za (Zl Zk (by rfl) T.ae PySem.boot_len (Za (pv 1) Zc)) (Za (Y3 PySem.F.plainAttrs_list PySem.F.slot_list_count PySem.F.type_list_count Zhv (pv 2) (Za Wg Zc)) (Za (Zl Zk (by rfl) T.ae PySem.boot_len (Za (pv 3) Zc)) (Za (pv 5) Zc))))))))))),?_⟩
    refine Z2 fun nxC hnxC=>?_
    refine ⟨_,rfl,p,M,ns,n,rfl,ta,hMl,hn,h60,pc.inv,hT,fun l S H1 up PT RS hT1=>?_⟩
    have n1:=NT.of hT up
    have ha1:=n1 _ _ (by intro _ z; cases z) ha
    have ta1:=ta.nt n1
    obtain ⟨qs,q1,q2,q3⟩:=PT
    refine ⟨l,rfl,⟨_,SqL.of q1⟩,fun D hD=>?_⟩
    refine Z4 (xs:=qs.map V.ref) (fun i σ H2=>∃ v v',σ=[v,v',some (.ref a)]∧Same H1 H2∧H2 D=some (.lst (((S.take i).filter (inP P)).map fun c=>V.bl (fanF M c).2))) ⟨none,none,rfl,Same.new hD,Zb⟩ ?_ ?_ ?_
    · rintro i σ H2 _ ⟨v,v',rfl,s2,h2⟩
      exact SqL.of (s2 _ _ q1)
    · rintro i x σ H2 hxx ⟨v,v',rfl,s2,h2⟩
      obtain ⟨q,hq,rfl⟩:=map_some hxx
      have hi:i < S.length:=by rw [← q2]; exact (List.getElem?_eq_some_iff.mp hq).1
      obtain ⟨c,hc⟩:∃ c,S[i]?=some c:=⟨_,List.getElem?_eq_getElem hi⟩
      obtain ⟨b,b1,b2⟩:=q3 i q c hq hc
      refine ⟨q,_,rfl,SqT.of (s2 _ _ b1),rfl,_,_,rfl,_,_,rfl,rfl,?_⟩
      have hcl:=((RS.mem c).mp (List.mem_of_getElem? hc)).1
      have hSl:=X0 M.length S RS.nd fun a ha=>((RS.mem a).mp ha).1
      have e0:atI ((fanL M c).map nV) 0=some (nV c):=Yu (i:=0) (Yp pc.inv hcl).head
      have lt:(((S.take i).filter (inP P)).map fun c=>V.bl (fanF M c).2).length < sizeLine:=by
        rw [List.length_map]
        have:=List.length_filter_le (inP P) (S.take i)
        rw [List.length_take] at this
        exact Zr (by omega)
      refine ⟨_,rfl,b,_,_,_,rfl,rfl,SqL.of (s2 _ _ b2),e0,(c:Int),rfl,_,rfl,a,_,rfl,.inl (SqL.of (s2 _ _ ha1)),rfl,O3 P,_,rfl,?_⟩
      rw [show (V.int ((c:Int) / 3))=nV (c / 3) by show V.int _=V.int _; congr 1,if_neg (by decide),Gm]
      by_cases z:c / 3∈P
      · rw [decide_eq_true z]
        refine iteT ⟨_,rfl,_,h2,lt,_,_,rfl,Same.add s2 hD,?_⟩
        rw [Zb,List.take_add_one,hc,List.filter_append,List.map_append]
        simp [Y8.mpr z]
      · rw [decide_eq_false z]
        refine iteF ⟨_,_,rfl,s2,?_⟩
        rw [h2,List.take_add_one,hc,List.filter_append]
        have:inP P c=false:=decide_eq_false z
        simp [this]
    rintro σ H2 ⟨v,v',rfl,s2,h2⟩
    rw [List.length_map,q2,List.take_length] at h2
    dsimp only [Zm]
    refine hnxC _ _ ?_
    have n2:=n1.trans (ntS s2)
    have ha2:=s2 _ _ ha1
    have ta2:=ta1.same s2
    have hT2:=hT1.same s2
    have hSl:=X0 M.length S RS.nd fun a ha=>((RS.mem a).mp ha).1
    clear q1 q3 hD s2 ha1 ta1 up n1 hT1
    refine Z2 fun nxC hnxC=>?_
    refine ⟨_,rfl,p,M,ns,n,rfl,ta2,hMl,hn,by omega,pc.inv,fun l3 H3 s3 l3g=>?_⟩
    obtain ⟨as,a1,a2,a3⟩:=l3g
    have hg:=Gg pc.inv hn
    have hgl:(Ym M (rimL M)).length≤M.length:=by
      have:=O4 _ fun g hm=>by obtain ⟨q,hq⟩:=hg.ok.orb g hm; exact hq.pos
      have:=hg.ok.len
      omega
    refine ⟨l3,rfl,⟨_,SqL.of a1⟩,fun G hG=>?_⟩
    refine Z4 (xs:=as.map V.ref) (fun i σ H4=>∃ (v:Option V) (rs:List Addr),σ=[v,some (.ref a)]∧Same H3 H4∧H4 G=some (.lst (rs.map V.ref))∧rs.length=(((Ym M (rimL M)).take i).filter fun os=>inP P (os.headD 0)).length) ⟨none,[],rfl,Same.new hG,Zb,rfl⟩ ?_ ?_ ?_
    · rintro i σ H4 _ ⟨v,rs,rfl,s4,h4,_⟩
      exact SqL.of (s4 _ _ a1)
    · rintro i x σ H4 hxx ⟨v,rs,rfl,s4,h4,hrl⟩
      obtain ⟨q,hq,rfl⟩:=map_some hxx
      have hi:i < (Ym M (rimL M)).length:=by rw [← a2]; exact (List.getElem?_eq_some_iff.mp hq).1
      obtain ⟨os,ho⟩:∃ os,(Ym M (rimL M))[i]?=some os:=⟨_,List.getElem?_eq_getElem hi⟩
      obtain ⟨r,hr'⟩:=hg.ok.orb os (List.mem_of_getElem? ho)
      have e0:atI (os.map nV) 0=some (nV r):=Yu (i:=0) hr'.head
      have lt:(rs.map V.ref).length < sizeLine:=by
        rw [List.length_map,hrl]
        have:=List.length_filter_le (fun os=>inP P (os.headD 0)) ((Ym M (rimL M)).take i)
        rw [List.length_take] at this
        exact Zr (by omega)
      dsimp only [Zm]
      refine ⟨_,rfl,q,_,_,_,rfl,rfl,SqL.of (s4 _ _ (a3 i q os hq ho)),e0,(r:Int),rfl,_,rfl,a,_,rfl,.inl (SqL.of (s4 _ _ (s3 _ _ ha2))),rfl,O3 P,_,rfl,?_⟩
      rw [show (V.int ((r:Int) / 3))=nV (r / 3) by show V.int _=V.int _; congr 1,if_neg (by decide),Gm]
      have hh:=Zet hr'.toOrb
      by_cases z:r / 3∈P
      · rw [decide_eq_true z]
        refine iteT ⟨_,rfl,_,h4,lt,_,rs ++ [q],rfl,Same.add s4 hG,?_,?_⟩
        · rw [Zb,List.map_append]; rfl
        · rw [List.take_add_one,ho,List.filter_append,List.length_append,List.length_append,hrl]
          rw [show (some os).toList=[os] from rfl,List.filter_cons_of_pos (by rw [hh]; exact Y8.mpr z)]
          rfl
      · rw [decide_eq_false z]
        refine iteF ⟨_,rs,rfl,s4,h4,?_⟩
        rw [List.take_add_one,ho,List.filter_append,List.length_append,hrl]
        rw [show (some os).toList=[os] from rfl,List.filter_cons_of_neg (by rw [hh]; exact fun y=>z (Y8.mp y))]
        rfl
    rintro σ H4 ⟨v3,rs,rfl,s4,h4,hrl⟩
    rw [List.length_map,a2,List.take_length] at hrl
    dsimp only [Zm]
    refine hnxC _ _ ?_
    have n4:=n2.trans (ntS (s3.trans s4))
    have ha4:=(s3.trans s4) _ _ ha2
    have ta4:=ta2.same (s3.trans s4)
    have hT4:=hT2.same (s3.trans s4)
    have h24:=(s3.trans s4) _ _ h2
    clear a1 a3 hG s3 s4 ha2 ta2 n2 hT2 h2
    refine Z2 fun nxC hnxC=>?_
    obtain ⟨dx,cl,na,sp,mt',o,f,b⟩:=id ta4
    refine ⟨_,rfl,p,dx,_,rfl,b.ins,Yv _ _ _ _,p,M,ns,rfl,ta4,by omega,fun l hl=>?_⟩
    clear b
    have s5:Same H4 (upd H4 l (.lst ((List.range ns.length).map nV))):=Same.new hl
    have h5:(upd H4 l (.lst ((List.range ns.length).map nV))) l=some (.lst ((List.range ns.length).map nV)):=Zb
    refine ⟨l,rfl,⟨_,SqL.of h5⟩,fun E1 hE1=>?_⟩
    refine Z4 (xs:=(List.range ns.length).map nV) (fun i σ H5=>∃ v,σ=[v,some (.ref p),some (.ref a)]∧Same (upd H4 l (.lst ((List.range ns.length).map nV))) H5∧H5 E1=some (.set (nmB ns P i) ((List.range i).filter (X2 M P)).length)) ⟨none,rfl,Same.new hE1,by rw [Zb]; rfl⟩ ?_ ?_ ?_
    · rintro i σ H6 _ ⟨v,rfl,s6,h6⟩
      exact SqL.of (s6 _ _ h5)
    · rintro i x σ H6 hx ⟨v,rfl,s6,h6⟩
      obtain ⟨hi,rfl⟩:i < ns.length∧x=nV i:=by
        rw [List.getElem?_map] at hx
        by_cases z:i < ns.length
        · rw [List.getElem?_range z] at hx; cases hx; exact ⟨z,rfl⟩
        · rw [List.getElem?_eq_none (by rw [List.length_range]; omega)] at hx; cases hx
      have ta6:=(ta4.same s5).same s6
      obtain ⟨dx,cl,na,sp,mt',o,f,b⟩:=id ta6
      have hfl:((List.range i).filter (X2 M P)).length≤i:=by
        have:=List.length_filter_le (X2 M P) (List.range i)
        rw [List.length_range] at this
        exact this
      dsimp only [Zm]
      refine ⟨_,rfl,(i:Int),rfl,_,rfl,a,_,rfl,.inl (SqL.of (s6 _ _ (s5 _ _ ha4))),rfl,O3 P,_,rfl,?_⟩
      rw [show (V.int ((i:Int) / 3))=nV (i / 3) by show V.int _=V.int _; congr 1,if_neg (by decide),Gm]
      by_cases z:i / 3∈P
      · rw [decide_eq_true z]
        refine iteT ⟨_,rfl,p,dx,_,rfl,b.ins,Yv _ _ _ _,_,rfl,p,M,ns,_,rfl,ta6,fun i' y e1 e2=>?_,fun z=>absurd (show (0:Int)≤i∧(i:Int) < ns.length by omega) z⟩
        have:i'=i:=by omega
        subst this
        refine ⟨y,_,_,rfl,h6,by omega,_,rfl,Same.add s6 hE1,?_⟩
        rw [Zb,Zlt z e2,Zlu td pc (by omega) z e2,List.range_succ,List.filter_append,List.length_append]
        cases hsb:X2 M P i' with
        | true=>rw [List.filter_cons_of_pos hsb]; rfl
        | false=>rw [List.filter_cons_of_neg (by rw [hsb]; decide)]; rfl
      · rw [decide_eq_false z]
        refine iteF ⟨_,rfl,s6,?_⟩
        have hsb:X2 M P i=false:=by unfold X2; rw [show inP P i=false from decide_eq_false z]; rfl
        rw [h6,Zm5 z,List.range_succ,List.filter_append,List.length_append,List.filter_cons_of_neg (by rw [hsb]; decide)]
        rfl
    rintro σ H6 ⟨v4,rfl,s6,h6⟩
    rw [List.length_map,List.length_range,← hMl] at h6
    refine ⟨E1,_,_,rfl,h6,?_⟩
    dsimp only [Zm]
    refine hnxC _ _ ?_
    have s46:=s5.trans s6
    have hG6:=s46 _ _ h4
    have hD6:=s46 _ _ h24
    have ha6:=s46 _ _ ha4
    have eD:((S.filter (inP P)).map fun c=>V.bl (fanF M c).2)=((S.filter (inP P)).map fun c=>(fanF M c).2).map V.bl:=by rw [List.map_map]; rfl
    have eIn:((((S.filter (inP P)).map fun c=>(fanF M c).2).filter (· == true)).length)=nIn M P S:=by
      unfold nIn
      rw [List.filter_map,List.length_map,List.filter_filter]
      congr 1
      refine List.filter_congr fun c _=>?_
      show ((fanF M c).2 == true && inP P c)=_
      cases (fanF M c).2 <;> cases inP P c <;> rfl
    refine ⟨_,rfl,G,_,rfl,.inl (SqL.of hG6),_,_,rfl,rfl,_,rfl,D,_,rfl,.inl (SqL.of hD6),_,_,rfl,rfl,_,rfl,_,_,rfl,rfl,_,rfl,a,_,rfl,.inl (SqL.of ha6),_,_,rfl,rfl,_,_,rfl,rfl,⟨by decide,by decide⟩,?_⟩
    dsimp only [Zm]
    rw [eD] at hD6
    refine ⟨_,rfl,a,_,rfl,.inl (SqL.of ha6),_,rfl,.inl ⟨rfl,_,SqL.of hD6⟩,D,_,true,rfl,rfl,hD6,_,rfl,G,_,rfl,.inl (SqL.of hG6),_,rfl,by rw [sizeLine_eq]; show 4≤_; decide,fun q hq=>?_⟩
    refine k q S _ (n4.trans (ntS (s46.trans (Same.new hq)))) (hT4.same (s46.trans (Same.new hq))) RS ?_
    rw [Zb,eIn,List.length_map,List.length_map,hrl]
    congr 2
    unfold hdl nPt
    simp only [List.length_map]
    rfl
end
end KT
set_option maxHeartbeats 4000000
namespace KT
open PySem L2
noncomputable def shpV (M:List (Option Nat)) (P S:List Nat):List V:=[.int P.length,.int (nIn M P S),.int (nRm M P),.int (hdl M P S)]
noncomputable def J3 (H:Hp) (l:Addr) (M:List (Option Nat)) (cs:List Nat) (n:Nat):Prop:=∃ qs:List Addr,H l=some (.lst (qs.map V.ref))∧qs.length=cs.length∧∀ (i:Nat) (q:Addr) (c:Nat),qs[i]?=some q→cs[i]?=some c→∀ S,RiseC M S→H q=some (.tup (shpV M (pcL M n c) S))
theorem J3.nt {H H':Hp} {l:Addr} {M:List (Option Nat)} {cs:List Nat} {n:Nat} (h:J3 H l M cs n) (s:NT H H'):J3 H' l M cs n:=by
 obtain ⟨qs,h1,h2,h3⟩:=h
 exact ⟨qs,s _ _ (by intro _ z; cases z) h1,h2,fun i q c e1 e2 S rs=>s _ _ (by intro _ z; cases z) (h3 i q c e1 e2 S rs)⟩
theorem Zis {q:Str} {Pt D:Addr} {H:Hp} {xs ys:List V} (h:TabQ q Pt H) (hD:H D=some (.lst xs)):TabQ q Pt (upd H D (.lst ys)):=by
 obtain ⟨ps,h1,h2,h3⟩:=h
 refine ⟨ps,?_,h2,fun pos cv e=>?_⟩
 ·rw [Zd (fun z=>by rw [z,hD] at h1; cases h1)]; exact h1
 ·obtain ⟨c',e1,e2⟩:=h3 pos cv e
  refine ⟨c',e1,?_⟩
  rw [Zd (fun z=>by rw [z,hD] at e2; cases e2)]
  exact e2
noncomputable def Ziz (C Pt:Addr) (qn:Str):Sp:=fun vs H Q _=>∃ (p:Addr) (M:List (Option Nat)) (ns:List Int) (n:Nat),vs=[.ref p]∧Zw C H p M ns∧M.length=ns.length∧M.length=3 * n∧M.length≤60∧TD M ns∧TabQ qn Pt H ∧
 ∀ (l:Addr) (H':Hp),NT H H'→TabQ qn Pt H'→J3 H' l M (lsL M n) n→Q (.ref l) H'
section
variable {P:Program} {w:World} {K:PySem.W.Frag} {mg:Str→Option Value} {base:Heap} {t:Adr}
theorem Zi6:FnScope ["tent"] ["tent"] (Zg Zd2):=⟨rfl,rfl,rfl,by decide +kernel,rfl,by decide +kernel,by decide +kernel⟩
theorem Zbu (TB:TabB mg base t.aF t.ah) (T:Txt w K mg t):FnOk P w K mg base (CXr P w) 10 t.dO t.dS ["tent"] (Ziz t.aa t.ah ((PyProof.Rows.envOfC "points" (Zg X6) 0 0 .none).qual ++ "<lambda>")):=by
 refine T.cW.F.aR Zi6 (fun cdv A outer s H vs Q E hr h=>?_)
 ·obtain ⟨p,M,ns,n,rfl,ta,hMl,hn,h60,td,hT,k⟩:=h
  refine ⟨_,(Zh (Zp (Ys (ts:=["piece"]) (fv:=[("tent",0)]) ⟨rfl,by decide +kernel,by decide +kernel,Z6 (by rfl),⟨⟨rfl,rfl,Or.inl rfl⟩,trivial⟩⟩ rfl (Zz (pcT (Uq T) hr T.bD (Za (pv 0) Zc))) (fun _ _ _ _=>(Zn (i:=0) (show List.Nodup (["piece","tent"]:List Str) from by decide +kernel) rfl (Or.inl rfl) (Or.inr rfl))) (fun _ _ _ _=>Yf) (fun _ _ _=>rfl) (fun _ _ _ _ _ _=>Ya (pcT (Zdf TB T) hr T.cA (Za (pv 1) (Za (pv 0) Zc))))))),?_⟩
  refine ⟨_,rfl,p,M,ns,n,rfl,ta,hMl,hn,h60,td.inv,fun l as H1 s1 l1=>?_⟩
  have hls:(lsL M n).length≤n:=by
   unfold lsL
   have:=List.length_filter_le (fun k=>@decide (Lst M k) (Classical.propDecidable _)) (List.range n)
   rw [List.length_range] at this
   exact this
  refine ⟨l,rfl,⟨_,SqL.of l1.at'⟩,fun D hD=>?_⟩
  refine Z4 (xs:=as.map V.ref) (fun i σ H2=>∃ v,σ=[v,some (.ref p)]∧NT H1 H2∧TabQ ((PyProof.Rows.envOfC "points" (Zg X6) 0 0 .none).qual ++ "<lambda>") t.ah H2∧J3 H2 D M ((lsL M n).take i) n) ⟨none,rfl,ntS (Same.new hD),hT.same (s1.trans (Same.new hD)),[],Zb,rfl,fun i q c e=>by simp at e⟩ ?_ ?_ ?_
  ·rintro i σ H2 _ ⟨v,rfl,n2,t2,h2⟩
   exact SqL.of (n2 _ _ (by intro _ z; cases z) l1.at')
  ·rintro i x σ H2 hxx ⟨v,rfl,n2,t2,h2⟩
   obtain ⟨q,hq,rfl⟩:=map_some hxx
   have hal:=l1.len
   rw [List.length_map] at hal
   have hi:i < (lsL M n).length:=by rw [← hal]; exact (List.getElem?_eq_some_iff.mp hq).1
   obtain ⟨c,hc⟩:∃ c,(lsL M n)[i]?=some c:=⟨_,List.getElem?_eq_getElem hi⟩
   have hcn:=(Zel.mp (List.mem_of_getElem? hc)).1
   have hrow:=l1.row i q (pcL M n c) hq (by rw [List.getElem?_map,hc]; rfl)
   dsimp only [Zm,tYes]
   rw [if_pos rfl]
   refine ⟨_,rfl,_,rfl,p,q,M,ns,pcL M n c,n,rfl,(ta.same s1).nt n2,hMl,hn,h60,td,Zfq td.inv hn hcn,n2 _ _ (by intro _ z; cases z) hrow,t2,fun y S H3 n3 t3 RS h3=>?_⟩
   obtain ⟨qs,e1,e2,e3⟩:=h2.nt n3
   have hyD:y≠D:=fun z=>by rw [z,e1] at h3; cases h3
   refine ⟨_,e1,?_,_,rfl,?_,?_,qs ++ [y],?_,?_,?_⟩
   ·rw [List.length_map,e2,List.length_take]; exact Zr (by omega)
   ·exact fun b u nt e=>by
     have hb:b≠D:=fun z=>by rw [z,hD] at e; cases e
     rw [Zd hb]
     exact n3 b u nt (n2 b u nt e)
   ·exact Zis t3 e1
   ·rw [Zb,List.map_append]; rfl
   ·rw [List.length_append,e2,List.take_add_one,hc,List.length_append]; rfl
   ·intro j q' c' f1 f2 S' rs'
    rw [RiseC.uniq td.inv rs' RS]
    by_cases z:j < qs.length
    ·rw [List.getElem?_append_left z] at f1
     rw [List.take_add_one,hc,List.getElem?_append_left (by rw [← e2]; exact z)] at f2
     have g:=e3 j q' c' f1 f2 S RS
     rw [Zd (fun y=>by rw [y,e1] at g; cases g)]
     exact g
    ·have hj:=(List.getElem?_eq_some_iff.mp f1).1
     rw [List.length_append,List.length_singleton] at hj
     obtain rfl:j=qs.length:=by omega
     rw [List.getElem?_append_right (Nat.le_refl _),Nat.sub_self] at f1
     rw [List.take_add_one,hc,e2,List.getElem?_append_right (Nat.le_refl _),Nat.sub_self] at f2
     cases f1
     cases f2
     rw [Zd hyD]
     exact h3
  ·rintro σ H2 ⟨v,rfl,n2,t2,h2⟩
   rw [List.length_map,show as.length=(lsL M n).length by rw [l1.len,List.length_map],List.take_length] at h2
   exact k D H2 ((ntS s1).trans n2) t2 h2
end
end KT
set_option maxHeartbeats 4000000
namespace KT
open PySem L2
noncomputable def canB (M:List (Option Nat)) (c:Nat):Bool:=@decide (Can M c) (Classical.propDecidable _)
theorem O8 {M:List (Option Nat)} {c:Nat}:canB M c=true ↔ Can M c:=by unfold canB; exact @decide_eq_true_iff _ (Classical.propDecidable _)
theorem Zl7 {M:List (Option Nat)} (inv:InvM M) {c:Nat} (h:c < M.length):Can M c ↔ RimP M c∨((fanF M c).2=true∧(c:Int)=key M c):=by
 unfold Can
 refine or_congr Iff.rfl (and_congr Iff.rfl ⟨fun z=>?_,fun z x hx=>?_⟩)
 ·unfold key; rw [Zfy (l:=fanL M c) (Xc inv h) z]
 ·have:=(Zb6 (Vf inv h)).2 x hx
  unfold key at z
  omega
structure Trp (H:Hp) (D:Addr) (M:List (Option Nat)) (ts:List Addr) (Z:List Nat):Prop where
 at':H D=some (.lst (ts.map V.ref))
 len:ts.length=Z.length
 row:∀ (i:Nat) (q:Addr) (c:Nat),ts[i]?=some q→Z[i]?=some c→∃ a,H q=some (.tup [.int (key M c),.bl (fanF M c).2,.ref a])∧H a=some (.lst ((fanL M c).map nV))∧a≠D
theorem Trp.same {H H':Hp} {D:Addr} {M:List (Option Nat)} {ts:List Addr} {Z:List Nat} (h:Trp H D M ts Z) (s:Same H H'):Trp H' D M ts Z:=⟨s _ _ h.at',h.len,fun i q c e1 e2=>(h.row i q c e1 e2).imp fun a z=>⟨s _ _ z.1,s _ _ z.2.1,z.2.2⟩⟩
theorem Trp.push {H:Hp} {D x a:Addr} {M:List (Option Nat)} {ts:List Addr} {Z:List Nat} {c:Nat} (h:Trp H D M ts Z) (hx:H x=some (.tup [.int (key M c),.bl (fanF M c).2,.ref a])) (ha:H a=some (.lst ((fanL M c).map nV))) (haD:a≠D):Trp (upd H D (.lst (ts.map V.ref ++ [V.ref x]))) D M (ts ++ [x]) (Z ++ [c]):=by
 have hxD:x≠D:=fun z=>by rw [z,h.at'] at hx; cases hx
 refine ⟨by rw [Zb,List.map_append]; rfl,by rw [List.length_append,List.length_append,h.len]; rfl,fun i q c' e1 e2=>?_⟩
 rcases Ga e1 with ⟨i1,e1⟩ | ⟨i1,e1⟩
 ·rw [List.getElem?_append_left (by rw [← h.len]; exact i1)] at e2
  obtain ⟨a',a1,a2,a3⟩:=h.row i q c' e1 e2
  exact ⟨a',by rw [Zd (fun z=>by rw [z,h.at'] at a1; cases a1)]; exact a1,by rw [Zd a3]; exact a2,a3⟩
 ·rw [List.getElem?_append_right (by rw [← h.len]; exact i1),← h.len] at e2
  have hi:=(List.getElem?_eq_some_iff.mp e1).1
  have e0:i - ts.length=0:=by rw [List.length_singleton] at hi; omega
  rw [e0] at e1 e2
  cases e1
  cases e2
  exact ⟨a,by rw [Zd hxD]; exact hx,by rw [Zd haD]; exact ha,haD⟩
noncomputable def Zc9:Sp:=fun vs H Q _=>∃ (m:Addr) (M:List (Option Nat)) (n:Nat),vs=[.ref m]∧H m=some (.lst (M.map mV))∧M.length=3 * n∧M.length≤60∧InvM M∧∀ (l:Addr) (S:List Nat) (H':Hp),Same H H'→Zf9 H' l M S→RiseC M S→Q (.ref l) H'
section
variable {P:Program} {w:World} {K:PySem.W.Frag} {mg:Str→Option Value} {base:Heap} {t:Adr}
theorem Wm:FnScope ["_law_mates","_law_rows_here","_law_p","_law_closed","_law_row"] ["_law_mates"] (Zg Kn):=⟨rfl,rfl,rfl,by decide +kernel,rfl,by decide +kernel,by decide +kernel⟩
theorem Zdk (T:Txt w K mg t):FnOk P w K mg base (CXr P w) 2 t.cg t.cw ["_law_mates"] Zc9:=by
 refine T.cD.F.aR Wm (fun cdv A outer s H vs Q E hr h=>?_)
 ·obtain ⟨m,M,n,rfl,hm,hn,h60,inv,k⟩:=h
  refine ⟨_,(Ze (Zo (i:=1) Wm.nd rfl (Or.inl rfl) (Y5 Zc))
   (Ze (Y1 PassesOwn.never rfl (Xh rfl T.ak (Za (Zl Zk (by rfl) T.ae PySem.boot_len (Za (pv 0) Zc)) Zc)) (Zn (i:=2) Wm.nd rfl (Or.inl rfl)) (Ze (Xn (pcT (Zjq T) hr T.dZ (Za (pv 0) (Za (pv 2) Zc))) (Qf rfl (Z5 (Zn (i:=3) Wm.nd rfl (Or.inl rfl)) (Z5 (Zn (i:=4) Wm.nd rfl (Or.inl rfl)) Wf))))
   (Zh (Yd (PW.pt (Vn (Zq Zhh (Zs Zt (pv 0) (pv 2) (fun _ _=>rfl)) Xy (Zu _)) (Qc (PW.pt (Q5 (Wz (pv 3)) (J6 (Zq X4 (pv 2) (Zl (U0 rfl) (by rfl) T.d7 PyProof.Rows.boot_min (Za (pv 4) Zc)) (Zu _)))))))) (Zh (Yg (Y3 PySem.F.plainAttrs_list PySem.F.slot_list_append PySem.F.type_list_append Yc (pv 1) (Za (Xo (Za (Zl (U0 rfl) (by rfl) T.d7 PyProof.Rows.boot_min (Za (pv 4) Zc)) (Za (pv 3) (Za (pv 4) Zc)))) Zc)))) Z3))))
   (Zh (Zp (Ys (ts:=["_law_low","_law_closed","_law_row"]) (fv:=[]) ⟨rfl,by decide +kernel,by decide +kernel,Z6 (by rfl),trivial⟩ rfl (Zz (Zl Zcv (by rfl) T.cE PyProof.Rows.boot_sorted (Za (pv 1) Zc))) (fun _ _ _ _=>(Zef (n:=3) K rfl (Z5 (Zn (i:=0) (show List.Nodup (["_law_low","_law_closed","_law_row"]:List Str) from by decide +kernel) rfl (Or.inl rfl) (Or.inr rfl)) (Z5 (Zn (i:=1) (show List.Nodup (["_law_low","_law_closed","_law_row"]:List Str) from by decide +kernel) rfl (Or.inl rfl) (Or.inr rfl)) (Z5 (Zn (i:=2) (show List.Nodup (["_law_low","_law_closed","_law_row"]:List Str) from by decide +kernel) rfl (Or.inl rfl) (Or.inr rfl)) Wf))))) (fun _ _ _ _=>Yf) (fun _ _ _=>rfl) (fun _ _ _ _ _ _=>Ya (Xo (Za (pv 1) (Za (pv 2) Zc))))))))),?_⟩
  refine ⟨Nat.zero_le _,fun D hD=>?_⟩
  have s0:Same H (upd H D (.lst [])):=Same.new hD
  have T0:Trp (upd H D (.lst [])) D M [] []:=⟨Zb,rfl,fun i q c e _=>by simp at e⟩
  generalize upd H D (.lst [])=H0 at s0 T0 ⊢
  try dsimp only [Zm]
  show tSeq (tFor _ _ _) _ _ _ _
  refine Yk (fun σ H'=>∃ (ts:List Addr) (v2 v3 v4:Option V),σ=[some (.ref m),some (.ref D),v2,v3,v4]∧Same H H'∧Trp H' D M ts ((List.range M.length).filter (canB M))) (fun nx hnx=>?_) ?_
  ·refine ⟨_,rfl,m,_,rfl,.inl (SqL.of (s0 _ _ hm)),_,rfl,by omega,by rw [List.length_map]; omega,?_⟩
   have eL:(((M.map mV).length:Nat):Int).toNat=M.length:=by simp
   rw [eL]
   refine Wb (n:=M.length) (fun i σ H'=>∃ (ts:List Addr) (v2 v3 v4:Option V),σ=[some (.ref m),some (.ref D),v2,v3,v4]∧Same H H'∧Trp H' D M ts ((List.range i).filter (canB M))) ⟨[],none,none,none,rfl,s0,T0⟩ ?_ ?_
   ·rintro i σ H1 hi ⟨ts,v2,v3,v4,rfl,s1,T1⟩
    dsimp only [Zm]
    rw [Int.zero_add]
    refine Z2 fun nxC hnxC=>?_
    refine ⟨_,rfl,_,rfl,m,M,i,n,rfl,s1 _ _ hm,hn,by omega,inv,hi,fun q l cs cl H2 s2 hl h2 h2q hF=>?_⟩
    refine ⟨q,_,rfl,SqT.of h2q,rfl,_,_,rfl,_,_,rfl,rfl,?_⟩
    refine hnxC _ _ ?_
    try dsimp only [Zm]
    have hfan:=W6 hF
    have e1:fanL M i=cs:=by unfold fanL; rw [hfan]
    have e2:(fanF M i).2=cl:=by rw [hfan]
    rw [← e1] at h2
    rw [← e2]
    have s02:=s1.trans s2
    have T2:=T1.same s2
    have hlD:l≠D:=fun z=>by rw [z,T1.at'] at hl; cases hl
    have hcan:=Zl7 inv hi
    have hpos:0 < (wI (fanL M i)).length:=by rw [List.length_map]; exact List.length_pos_iff.mpr (Vf inv hi)
    have h2':H2 l=some (.lst ((wI (fanL M i)).map V.int)):=by rw [Zdz]; exact h2
    have hzl:((List.range i).filter (canB M)).length≤60:=by have:=List.length_filter_le (canB M) (List.range i); rw [List.length_range] at this; omega
    obtain ⟨my,hmy⟩:∃ z,M[i]?=some z:=⟨_,List.getElem?_eq_getElem hi⟩
    refine ⟨_,rfl,_,rfl,m,_,_,_,rfl,rfl,SqL.of (s02 _ _ hm),Yu hmy,rfl,_,rfl,?_⟩
    by_cases hC:Can M i
    ·rw [Ui,if_pos (O8.mpr hC)]
     refine (fun R=>ite2 (fun _=>iteT R) (fun z=>⟨_,rfl,_,rfl,?_⟩)) ?_
     ·refine ⟨_,rfl,.inl ⟨rfl,_,SqL.of T2.at'⟩,_,rfl,l,_,rfl,SqL.of h2',hpos,fun mm h1 h3=>?_⟩
      rw [U6 h1 h3]
      refine ⟨_,rfl,_,rfl,(by show 3≤sizeLine; rw [sizeLine_eq]; decide),fun q2 hq2=>?_⟩
      have s3:=Same.new (o:=.tup [V.int (key M i),V.bl (fanF M i).2,V.ref l]) hq2
      refine ⟨D,_,_,rfl,rfl,s3 _ _ T2.at',by rw [List.length_map,T2.len]; exact Zr (by omega),?_⟩
      exact ⟨ts ++ [q2],_,_,_,rfl,Same.add (s02.trans s3) hD,(T2.same s3).push Zb (s3 _ _ h2) hlD⟩
     ·have hrn:¬ RimP M i:=fun y=>by
       unfold RimP at y
       rw [hmy] at y
       cases y
       exact z rfl
      obtain ⟨c1,c2⟩:=(hcan.mp hC).resolve_left hrn
      rw [c1] at R ⊢
      refine iteT ⟨_,rfl,_,rfl,l,_,rfl,SqL.of h2',hpos,fun mm h1 h2=>⟨rfl,_,rfl,?_⟩⟩
      rw [U6 h1 h2,← c2,decide_eq_true rfl]
      exact iteT R
    ·rw [Ui,if_neg (fun z=>hC (O8.mp z))]
     have hno:=mt hcan.mpr hC
     cases my with
     | none=>exact absurd (Or.inl hmy) hno
     | some j =>
      refine iteF ⟨_,rfl,_,rfl,?_⟩
      cases c1:(fanF M i).2 with
      | false=>exact iteF (iteF ⟨ts,_,_,_,rfl,s02,T2⟩)
      | true =>
       refine iteT ⟨_,rfl,_,rfl,l,_,rfl,SqL.of h2',hpos,fun mm h1 h2=>⟨rfl,_,rfl,?_⟩⟩
       rw [U6 h1 h2,decide_eq_false (fun z=>hno (.inr ⟨c1,by injection z⟩))]
       exact iteF ⟨ts,_,_,_,rfl,s02,T2⟩
   ·rintro σ H1 ⟨ts,v2,v3,v4,rfl,s1,T1⟩
    exact hnx _ _ ⟨ts,_,_,_,rfl,s1,T1⟩
  ·rintro σ H1 ⟨ts,v2,v3,v4,rfl,s1,T1⟩
   have nd:((List.range M.length).filter (canB M)).Nodup:=List.Pairwise.filter _ List.nodup_range
   have mem:∀ c,c∈(List.range M.length).filter (canB M) ↔ c < M.length∧Can M c:=fun c=>by rw [List.mem_filter,List.mem_range,O8]
   have hZl:((List.range M.length).filter (canB M)).length≤M.length:=by have:=List.length_filter_le (canB M) (List.range M.length); rw [List.length_range] at this; exact this
   generalize (List.range M.length).filter (canB M)=Z at T1 nd mem hZl
   have tl:=T1.len
   have rowA:∀ i c,ts[i]?=some c→∃ z,Z[i]?=some z:=fun i c e=>⟨_,List.getElem?_eq_getElem (by have:=(List.getElem?_eq_some_iff.mp e).1; omega)⟩
   refine ⟨_,rfl,D,ts,Z.map (key M),rfl,SqL.of T1.at',by rw [List.length_map,tl],by omega,Zeo inv nd mem,fun i q m e1 e2=>?_,fun q out hq hp pw=>?_⟩
   ·rw [List.getElem?_map] at e2
    obtain ⟨c,hc,rfl⟩:=Option.map_eq_some_iff.mp e2
    obtain ⟨a,a1,_⟩:=T1.row i q c e1 hc
    exact ⟨_,SqT.of a1⟩
   have s2:=Same.new (o:=.lst (out.map fun i=>V.ref (ts.getD i 0))) hq
   have hr:=Zd8 nd mem (by rw [← tl]; exact hp) pw
   have hq2:(upd H1 q (.lst (out.map fun i=>V.ref (ts.getD i 0)))) q=some (.lst (out.map fun i=>V.ref (ts.getD i 0))):=Zb
   generalize upd H1 q (.lst (out.map fun i=>V.ref (ts.getD i 0)))=H2 at s2 hq2 ⊢
   have T2:=T1.same s2
   have hol:out.length≤60:=by rw [hp.length_eq,List.length_range]; omega
   refine ⟨q,rfl,⟨_,SqL.of hq2⟩,fun R hR=>?_⟩
   refine Z4 (xs:=out.map fun i=>V.ref (ts.getD i 0)) (fun i σ H3=>∃ (v v' v'':Option V) (qs:List Addr),σ=[v,v',v'']∧Same H2 H3∧H3 R=some (.lst (qs.map V.ref))∧qs.length=i∧∀ (j:Nat) (x:Addr) (c:Nat),qs[j]?=some x→(out.map fun i=>Z.getD i 0)[j]?=some c→∃ a,H3 x=some (.tup [.bl (fanF M c).2,.ref a])∧H2 a=some (.lst ((fanL M c).map nV))) ⟨none,none,none,[],rfl,Same.new hR,Zb,rfl,fun j x c e _=>by simp at e⟩ ?_ ?_ ?_
   ·rintro i σ H3 _ ⟨v,v',v'',qs,rfl,s3,_⟩
    exact SqL.of (s3 _ _ hq2)
   ·rintro i y σ H3 hy ⟨v,v',v'',qs,rfl,s3,h3,h3l,h3r⟩
    rw [List.getElem?_map] at hy
    obtain ⟨k',hk',rfl⟩:=Option.map_eq_some_iff.mp hy
    have hio:i < out.length:=(List.getElem?_eq_some_iff.mp hk').1
    have hil:k' < ts.length:=List.mem_range.mp (hp.mem_iff.mp (List.mem_of_getElem? hk'))
    obtain ⟨a,a1,a2,_⟩:=T2.row k' (ts.getD k' 0) (Z.getD k' 0) (by rw [List.getD_eq_getElem?_getD,List.getElem?_eq_getElem hil]; rfl) (by rw [List.getD_eq_getElem?_getD,List.getElem?_eq_getElem (by omega)]; rfl)
    dsimp only [Zm]
    refine ⟨_,_,rfl,SqT.of (s3 _ _ a1),rfl,_,_,rfl,_,_,rfl,_,_,rfl,rfl,?_⟩
    dsimp only [Zm,tYes]
    rw [if_pos rfl]
    refine ⟨_,rfl,_,rfl,(by show 2≤sizeLine; rw [sizeLine_eq]; decide),fun x hx=>?_⟩
    have s4:=Same.new (o:=.tup [V.bl (fanF M (Z.getD k' 0)).2,V.ref a]) hx
    refine ⟨_,s4 _ _ h3,by rw [List.length_map]; exact Zr (by omega),_,_,_,qs ++ [x],rfl,Same.add (s3.trans s4) hR,by rw [Zb,List.map_append]; rfl,by rw [List.length_append,h3l]; rfl,fun j x' c e1 e2=>?_⟩
    rcases Ga e1 with ⟨i1,e1⟩ | ⟨i1,e1⟩
    ·obtain ⟨a',b1,b2⟩:=h3r j x' c e1 e2
     exact ⟨a',by rw [Zd (fun z=>by rw [z,h3] at b1; cases b1)]; exact s4 _ _ b1,b2⟩
    ·have hi:=(List.getElem?_eq_some_iff.mp e1).1
     have e0:j - qs.length=0:=by rw [List.length_singleton] at hi; omega
     rw [e0] at e1
     cases e1
     have ej:j=i:=by omega
     subst ej
     rw [List.getElem?_map,hk'] at e2
     cases e2
     have hxR:x≠R:=fun z=>by rw [z,h3] at hx; cases hx
     exact ⟨a,by rw [Zd hxR,Zb],a2⟩
   ·rintro σ H3 ⟨v,v',v'',qs,rfl,s3,h3,h3l,h3r⟩
    refine k R _ H3 ((s1.trans s2).trans s3) ⟨qs,h3,by rw [h3l,List.length_map,List.length_map],fun j x c e1 e2=>?_⟩ hr
    obtain ⟨a,b1,b2⟩:=h3r j x c e1 e2
    exact ⟨a,b1,s3 _ _ b2⟩
end
end KT
set_option maxHeartbeats 4000000
namespace KT
open PySem L2
theorem Zll {zs:List Nat} {pick:Int} (h:0 < zs.length):∃ q,atI (zs.map nV) (pick % (((zs.map nV).length:Nat):Int))=some (nV q)∧q∈zs:=by
 rw [List.length_map]
 have k0:=Int.emod_nonneg pick (show (zs.length:Int)≠0 by omega)
 have k1:=Int.emod_lt_of_pos pick (show (0:Int) < zs.length by omega)
 obtain ⟨kk,hkk⟩:∃ kk:Nat,pick % (zs.length:Int)=kk:=⟨_,(Int.toNat_of_nonneg k0).symm⟩
 have hkl:kk < zs.length:=by omega
 rw [hkk]
 exact ⟨_,Yu (List.getElem?_eq_getElem hkl),List.getElem_mem hkl⟩
noncomputable def sp_lawT (K:PySem.W.Frag) (P:Addr):Sp:=fun vs H Q _=>∃ (a:Addr) (ns:List Int),vs=[.ref a]∧SqL K H a (ns.map V.int)∧ns.length≤63∧H P=some (.tbl #[])∧∀ H',Q (.bl true) H'
theorem sp_lawT_start {K:PySem.W.Frag} {P:Addr} {H:Hp} {a:Addr} {ns:List Int} (hl:ns.length≤63) (hS:SqL K H a (ns.map V.int)) (hP:H P=some (.tbl #[])):sp_lawT K P [.ref a] H (fun v _=>v=.bl true) fun _ _ _=>False:=⟨a,ns,rfl,hS,hl,hP,fun _=>rfl⟩
theorem NT.lst {H H':Hp} {b:Addr} {xs:List V} (s:NT H H') (h:H b=some (.lst xs)):H' b=some (.lst xs):=s _ _ (by intro _ z; cases z) h
theorem NT.tup {H H':Hp} {b:Addr} {xs:List V} (s:NT H H') (h:H b=some (.tup xs)):H' b=some (.tup xs):=s _ _ (by intro _ z; cases z) h
theorem Yy.nt {H H':Hp} {r:Addr} {ns:List Int} (h:Yy H r ns) (s:NT H H'):Yy H' r ns:=by
 obtain ⟨ts,h1,h2,h3⟩:=h
 exact ⟨ts,s.lst h1,h2,fun k t e=>s.tup (h3 k t e)⟩
theorem NT.seq {K:PySem.W.Frag} {H H':Hp} {a:Addr} {xs:List V} (e:NT H H') (h:SqL K H a xs):SqL K H' a xs:=by
 rcases h with (h | ⟨o,h⟩) | h
 ·exact .inl (.inl (e.lst h))
 ·exact .inl (.inr ⟨o,e _ _ (by intro _ z; cases z) h⟩)
 ·exact .inr h
theorem LLat.nt {H H':Hp} {l:Addr} {gs:List (List Nat)} (h:LLat H l gs) (s:NT H H'):LLat H' l gs:=by
 obtain ⟨ts,h1,h2,h3⟩:=h
 exact ⟨ts,s.lst h1,h2,fun i a g e1 e2=>s.lst (h3 i a g e1 e2)⟩
noncomputable def ShD (k:Nat) (d:PyData):Prop:=d.canLay0=true∧d.depth≤k
theorem Q0 {k:Nat}:∀ {ds:List PyData},(∀ d∈ds,ShD k d)→PyData.canLayAll0 ds=true∧PyData.depthAll ds≤k
 | [],_=>⟨by simp [PyData.canLayAll0],by simp [PyData.depthAll]⟩
 | d :: r,h=>by
  obtain ⟨h1,h2⟩:=h d List.mem_cons_self
  obtain ⟨h3,h4⟩:=Q0 (ds:=r) fun x hx=>h x (List.mem_cons_of_mem _ hx)
  exact ⟨by simp only [PyData.canLayAll0,h1,h3,Bool.and_self],by simp only [PyData.depthAll]; omega⟩
theorem ShD.list {k:Nat} {ds:List PyData} (h:∀ d∈ds,ShD k d):ShD (k + 1) (.list ds):=⟨by simp only [PyData.canLay0]; exact (Q0 h).1,by simp only [PyData.depth]; have:=(Q0 h).2; omega⟩
theorem ShD.tuple {k:Nat} {ds:List PyData} (h:∀ d∈ds,ShD k d):ShD (k + 1) (.tuple ds):=⟨by simp only [PyData.canLay0]; exact (Q0 h).1,by simp only [PyData.depth]; have:=(Q0 h).2; omega⟩
theorem ShD.int (i:Int):ShD 1 (.int i):=⟨by simp only [PyData.canLay0],by simp only [PyData.depth]; omega⟩
theorem ShD.bool (b:Bool):ShD 1 (.bool b):=⟨by simp only [PyData.canLay0],by simp only [PyData.depth]; omega⟩
theorem ShD.up {k:Nat} {d:PyData} (h:ShD k d):ShD (k + 1) d:=⟨h.1,Nat.le_succ_of_le h.2⟩
theorem ShD.shaped {k:Nat} {d:PyData} (h:ShD k d) (hk:k≤64):PySem.SeqAt.shaped d=true:=by
 unfold PySem.SeqAt.shaped
 rw [Bool.and_eq_true]
 exact ⟨h.1,decide_eq_true (Nat.le_trans h.2 hk)⟩
theorem Zcq {K:PySem.W.Frag} {H:Hp} {α:Type} {f:α→PyData}:∀ {ts:List Addr} {xs:List α},ts.length=xs.length→(∀ (k:Nat) (t:Addr) (q:α),ts[k]?=some t→xs[k]?=some q→DV K H (.ref t) (f q))→DVs K H (ts.map V.ref) (xs.map f)
 | [],[],_,_=>.nil
 | [],_ :: _,h,_=>by simp at h
 | _ :: _,[],h,_=>by simp at h
 | t :: ts,x :: xs,h,g=>.cons (g 0 t x rfl rfl) (Zcq (by simpa using h) fun k t q e1 e2=>g (k + 1) t q e1 e2)
theorem Zl3 {K:PySem.W.Frag} {H:Hp} (l:List Nat):DVs K H (l.map nV) (l.map fun x:Nat=>PyData.int x):=by
 have:=DVs.ints (K:=K) (H:=H) (l.map fun x:Nat=>(x:Int))
 rw [List.map_map,List.map_map] at this
 exact this
noncomputable def shpI (M:List (Option Nat)) (P S:List Nat):List Int:=[P.length,nIn M P S,nRm M P,hdl M P S]
noncomputable def shpD (M:List (Option Nat)) (S:List Nat) (P:List Nat):PyData:=.tuple ((shpI M P S).map PyData.int)
theorem J3.dv {K:PySem.W.Frag} {H:Hp} {l:Addr} {M:List (Option Nat)} {cs:List Nat} {n:Nat} {S:List Nat} (h:J3 H l M cs n) (RS:RiseC M S):DV K H (.ref l) (.list (cs.map fun c=>shpD M S (pcL M n c))):=by
 obtain ⟨qs,h1,h2,h3⟩:=h
 refine .lst (SqL.of h1) (Zcq h2 fun k t q e1 e2=>.tup (SqT.of (h3 k t q e1 e2 S RS)) ?_)
 exact DVs.ints (shpI M (pcL M n q) S)
theorem Zfh (M:List (Option Nat)) (S:List Nat) (Ps:List (List Nat)):PySem.SeqAt.shaped (.list (Ps.map (shpD M S)))=true:=by
 refine ShD.shaped (k:=3) (ShD.list fun d hd=>?_) (by decide)
 obtain ⟨P,_,rfl⟩:=List.mem_map.mp hd
 refine ShD.tuple fun d hd=>?_
 obtain ⟨i,_,rfl⟩:=List.mem_map.mp hd
 exact ShD.int i
noncomputable def ptD (M:List (Option Nat)) (c:Nat):PyData:=.list [.bool (fanF M c).2,.list ((fanL M c).map fun x:Nat=>PyData.int x)]
theorem Zfn (M:List (Option Nat)) (S:List Nat):PySem.SeqAt.shaped (.list (S.map (ptD M)))=true:=by
 refine ShD.shaped (k:=4) (ShD.list fun d hd=>?_) (by decide)
 obtain ⟨c,_,rfl⟩:=List.mem_map.mp hd
 refine ShD.list fun d hd=>?_
 rcases List.mem_cons.mp hd with rfl | hd
 ·exact (ShD.bool _).up
 ·rw [List.mem_singleton.mp hd]
  refine ShD.list fun d hd=>?_
  obtain ⟨i,_,rfl⟩:=List.mem_map.mp hd
  exact ShD.int i
noncomputable def PLat (H:Hp) (l:Addr) (M:List (Option Nat)) (S:List Nat):Prop:=∃ us:List Addr,H l=some (.lst (us.map V.ref))∧us.length=S.length∧∀ (i:Nat) (u:Addr) (c:Nat),us[i]?=some u→S[i]?=some c→∃ a,H u=some (.lst [.bl (fanF M c).2,.ref a])∧H a=some (.lst ((fanL M c).map nV))
theorem PLat.dv {K:PySem.W.Frag} {H:Hp} {l:Addr} {M:List (Option Nat)} {S:List Nat} (h:PLat H l M S):DV K H (.ref l) (.list (S.map (ptD M))):=by
 obtain ⟨us,h1,h2,h3⟩:=h
 refine .lst (SqL.of h1) (Zcq h2 fun k t q e1 e2=>?_)
 obtain ⟨a,a1,a2⟩:=h3 k t q e1 e2
 exact .lst (SqL.of a1) (.cons (.bl _) (.cons (.lst (SqL.of a2) (Zl3 _)) .nil))
theorem PLat.same {H H':Hp} {l:Addr} {M:List (Option Nat)} {S:List Nat} (h:PLat H l M S) (s:Same H H'):PLat H' l M S:=by
 obtain ⟨qs,h1,h2,h3⟩:=h
 exact ⟨qs,s _ _ h1,h2,fun i q c e1 e2=>(h3 i q c e1 e2).imp fun a z=>⟨s _ _ z.1,s _ _ z.2⟩⟩
theorem Zd9 {M:List (Option Nat)} (inv:InvM M) {n:Nat} (hn:M.length=3 * n):∃ S,RiseC M S:=by
 have pm:=List.mergeSort_perm (stL M) fun a b=>decide (key M a≤key M b)
 have so:=List.pairwise_mergeSort (le:=fun a b=>decide (key M a≤key M b)) (fun a b c h1 h2=>by rw [decide_eq_true_iff] at *; omega) (fun a b=>by rw [Bool.or_eq_true,decide_eq_true_iff,decide_eq_true_iff]; omega) (stL M)
 exact ⟨_,pm.nodup_iff.mpr (Zki inv hn),so.imp fun h=>of_decide_eq_true h,fun c=>by rw [pm.mem_iff]; exact Zgj inv hn c⟩
theorem Fr.shp {M:List (Option Nat)} {ns:List Int} {left:Bool} {a b n:Nat} (h:Fr M ns a b) (hn:M.length=3 * n) {S S':List Nat} (RS:RiseC M S) (RS':RiseC (exM left a b M) S') {k:Nat} (hk:k < n):shpV (exM left a b M) (pcL M n k) S'=shpV M (pcL M n k) S:=by
 have pc:=Zfq h.td.inv hn hk
 have g:=h.ex left
 have pc':Pc (exM left a b M) n (pcL M n k):=by rw [← h.pcE left n k]; exact Zfq g.td.inv (by rw [Yi]; exact hn) hk
 generalize pcL M n k=P at pc pc'
 have RS0:RiseC (exM (!left) a b (exM left a b M)) S:=by rw [h.back left]; exact RS
 have pc0:Pc (exM (!left) a b (exM left a b M)) n P:=by rw [h.back left]; exact pc
 have e1:nIn (exM left a b M) P S'=nIn M P S:=by
  have i2:=g.ptI RS' RS0 pc' pc0
  rw [h.back left] at i2
  exact Nat.le_antisymm i2 (h.ptI RS RS' pc pc')
 have e2:nPt P S'=nPt P S:=Nat.le_antisymm (g.ptP RS' RS0 pc' pc0) (h.ptP RS RS' pc pc')
 have r1:=Gg h.td.inv hn
 have r2:=Gg g.td.inv (by rw [Yi]; exact hn)
 have e3:nRm (exM left a b M) P=nRm M P:=by
  have r0:Rnd (exM (!left) a b (exM left a b M)) (Ym M (rimL M)):=by rw [h.back left]; exact r1
  exact Nat.le_antisymm (g.rnd r2 r0 pc' pc0) (h.rnd r1 r2 pc pc')
 have e4:nSm (exM left a b M) P=nSm M P:=by
  have i2:=g.sms (left:=!left) pc'
  rw [h.back left] at i2
  exact Nat.le_antisymm i2 (h.sms pc)
 unfold shpV hdl
 rw [e1,e2,e3,e4]
structure Kp (M M':List (Option Nat)) (n:Nat) (S:List Nat):Prop where
 ls:lsL M' n=lsL M n
 pc:∀ k,pcL M' n k=pcL M n k
 sh:∃ S',RiseC M' S'∧S'.length=S.length∧∀ k,k < n→shpV M' (pcL M n k) S'=shpV M (pcL M n k) S
theorem Kp.refl {M:List (Option Nat)} {n:Nat} {S:List Nat} (RS:RiseC M S):Kp M M n S:=⟨rfl,fun _=>rfl,S,RS,rfl,fun _ _=>rfl⟩
theorem Kp.step {M M':List (Option Nat)} {ns:List Int} {n:Nat} {S:List Nat} {a b:Nat} (h:Kp M M' n S) (f:Fr M' ns a b) (hn:M'.length=3 * n) (left:Bool):Kp M (exM left a b M') n S:=by
 obtain ⟨S',r,l,e⟩:=h.sh
 obtain ⟨S2,r2⟩:=Zd9 (f.ex left).td.inv (n:=n) (by rw [Yi]; exact hn)
 refine ⟨(f.lsE left n).trans h.ls,fun k=>(f.pcE left n k).trans (h.pc k),S2,r2,(f.pts r r2).trans l,fun k hk=>?_⟩
 have:=f.shp hn r r2 hk
 rw [h.pc k] at this
 rw [this]
 exact e k hk
theorem Kp.dat {M M':List (Option Nat)} {n:Nat} {S S':List Nat} (h:Kp M M' n S) (inv:InvM M') (RS':RiseC M' S'):S'.length=S.length∧(lsL M' n).map (fun c=>shpD M' S' (pcL M' n c))=(lsL M n).map fun c=>shpD M S (pcL M n c):=by
 obtain ⟨S2,r,l,e⟩:=h.sh
 obtain rfl:=r.uniq inv RS'
 refine ⟨l,?_⟩
 rw [h.ls]
 refine List.map_congr_left fun c hc=>?_
 rw [h.pc c]
 have e:=e c (Zel.mp hc).1
 unfold shpV at e
 unfold shpD shpI
 injection e with e1 e
 injection e with e2 e
 injection e with e3 e
 injection e with e4 e
 injection e2 with e2
 injection e3 with e3
 injection e4 with e4
 rw [e2,e3,e4]
theorem Zd1 (M:List (Option Nat)):∀ S:List Nat,(S.map fun c=>((fanL M c).length:Int)).sum=((((S.map (fanL M)).flatten).length:Nat):Int)
 | []=>rfl
 | c :: r=>by
  rw [List.map_cons,List.sum_cons,Zd1 M r,List.map_cons,List.flatten_cons,List.length_append]
  omega
noncomputable def PLx (H0 H:Hp) (D:Addr) (M:List (Option Nat)) (S:List Nat) (j:Nat):Prop:=∃ us:List Addr,H D=some (.lst (us.map V.ref))∧us.length=j∧∀ (i:Nat) (u:Addr) (c:Nat),us[i]?=some u→S[i]?=some c→∃ a,H u=some (.lst [.bl (fanF M c).2,.ref a])∧H0 a=some (.lst ((fanL M c).map nV))
theorem PLx.push {H0 H:Hp} {D x a:Addr} {M:List (Option Nat)} {S:List Nat} {j c:Nat} {us:List Addr} (h1:H D=some (.lst (us.map V.ref))) (h2:us.length=j) (h3:∀ (i:Nat) (u:Addr) (c:Nat),us[i]?=some u→S[i]?=some c→∃ a,H u=some (.lst [.bl (fanF M c).2,.ref a])∧H0 a=some (.lst ((fanL M c).map nV))) (hx:H x=none) (hc:S[j]?=some c) (ha:H0 a=some (.lst ((fanL M c).map nV))):PLx H0 (upd (upd H x (.lst [.bl (fanF M c).2,.ref a])) D (.lst (us.map V.ref ++ [V.ref x]))) D M S (j + 1):=by
 have hxD:x≠D:=fun z=>by rw [z,h1] at hx; cases hx
 refine ⟨us ++ [x],by rw [Zb,List.map_append]; rfl,by rw [List.length_append,h2]; rfl,fun i u c' e1 e2=>?_⟩
 rcases Ga e1 with ⟨i1,e1⟩ | ⟨i1,e1⟩
 ·obtain ⟨a',b1,b2⟩:=h3 i u c' e1 e2
  refine ⟨a',?_,b2⟩
  have hux:u≠x:=fun z=>by rw [z,hx] at b1; cases b1
  by_cases huD:u=D
  ·rw [huD,h1] at b1
   have b1:=Option.some.inj b1
   injection b1 with b1
   cases us with
   | nil=>simp at b1
   | cons y us=>rw [List.map_cons] at b1; injection b1 with b1 _; cases b1
  ·rw [Zd huD,Zd hux]
   exact b1
 ·have hi:=(List.getElem?_eq_some_iff.mp e1).1
  have e0:i - us.length=0:=by rw [List.length_singleton] at hi; omega
  rw [e0] at e1
  cases e1
  have ej:i=j:=by rw [List.length_singleton] at hi; omega
  subst ej
  rw [hc] at e2
  cases e2
  exact ⟨a,by rw [Zd hxD,Zb],ha⟩
section
variable {P:Program} {w:World} {K:PySem.W.Frag} {mg:Str→Option Value} {base:Heap} {t:Adr}
theorem Y9:FnScope ["_law_script","_law_mates","_law_rows_here","_law_tent_here","_law_first","_law_parts","_law_many","_law_at","_law_spots","_law_pick","_law_place","_law_corners"] ["_law_script"] (Zg Zkj):=⟨rfl,rfl,rfl,by decide +kernel,rfl,by decide +kernel,by decide +kernel⟩
theorem ok_law (T:Txt w K mg t) (TB:TabB mg base t.aF t.ah):FnOk P w K mg base (CXr P w) 11 t.eK t.eA ["_law_script"] (sp_lawT K t.ah):=by
  refine T.eO.F.aR Y9 (fun cdv A outer s H vs Q E hr h=>?_)
  · obtain ⟨a,sc,rfl,hS,hl,hP,k⟩:=h
    refine ⟨_,(Ze (Xn (pcT (Zhl T) hr T.dE (Za (pv 0) Zc)) (Qf rfl (Z5 (Zn (i:=1) Y9.nd rfl (Or.inl rfl)) (Z5 (Zn (i:=2) Y9.nd rfl (Or.inl rfl)) Wf))))
      (Ze (Zo (i:=3) Y9.nd rfl (Or.inl rfl) (Zeg T.d6 (Ur T) (hr.mono (by decide)) rfl T.dX T.bj.b .nil Y6 (Za (X8 W7 (by rfl) T.aH PySem.Pv.boot_list (Za (pv 2) Zc)) Zc)))
      (Ze (Zo (i:=4) Y9.nd rfl (Or.inl rfl) (pcT (Zbu TB T) hr T.cW (Za (pv 3) Zc)))
      (Ze (Zo (i:=5) Y9.nd rfl (Or.inl rfl) (pcT (Uq T) hr T.bD (Za (pv 3) Zc)))
      (Ze (Zo (i:=6) Y9.nd rfl (Or.inl rfl) (Zl Zk (by rfl) T.ae PySem.boot_len (Za (pcT (Up T TB) hr T.aV (Za (pv 3) Zc)) Zc)))
      (Ze (Y1 PassesOwn.never rfl (G9 rfl T.ak (Za Zf (Za (Zl (Zip rfl) (by rfl) T.d7 PyProof.Rows.boot_min (Za Zf (Za (Zl (Ziq rfl) (by rfl) T.eV PyProof.Rows.boot_max (Za Zf (Za (Zl Zk (by rfl) T.ae PySem.boot_len (Za (pv 0) Zc)) Zc))) Zc))) Zc))) (Zn (i:=7) Y9.nd rfl (Or.inl rfl)) (Ze (Zo (i:=8) Y9.nd rfl (Or.inl rfl) (pcT (Zhq T) hr T.dF (Za (pv 1) Zc)))
      (Ze (Yd (Zq X4 (Zl Zk (by rfl) T.ae PySem.boot_len (Za (pv 8) Zc)) Zf (Zu _)) (Zh Zjb) Z3)
      (Ze (Zo (i:=9) Y9.nd rfl (Or.inl rfl) (pcT (Qp T) hr T.bp (Za (pv 0) (Za (pv 7) Zc))))
      (Ze (Zo (i:=10) Y9.nd rfl (Or.inl rfl) (Zs Zt (pv 8) (Zj Zy (Zj Y2 (pv 9) Zf) (Zl Zk (by rfl) T.ae PySem.boot_len (Za (pv 8) Zc))) (fun _ _=>rfl)))
      (Ze (Zo (i:=3) Y9.nd rfl (Or.inl rfl) (pcT (Zbx T) hr T.bV (Za (pv 3) (Za (pcT (Zhn T) hr T.dH (Za (pv 2) (Za (pv 10) Zc))) (Za (pcT (Zjp T) hr T.dY (Za (Gk X4 (Zj Zy (pv 9) Zf) Zf (Zu _)) Zc)) Zc)))))
      (Ze (Xn (pcT (Zfs T) hr T.cO (Za (pv 1) (Za (pv 2) (Za (pcT (Zfu T) hr T.cP (Za (pv 1) (Za (pv 10) (Za (Gk X4 (Zj Zy (pv 9) Zf) Zf (Zu _)) Zc)))) Zc)))) (Qf rfl (Z5 (Zn (i:=1) Y9.nd rfl (Or.inl rfl)) (Z5 (Zn (i:=2) Y9.nd rfl (Or.inl rfl)) Wf))))
      (Ze (Yd (PW.pt (Vn (Zq (Zhg hr.units) (pcT (Zbu TB T) hr T.cW (Za (pv 3) Zc)) (pv 4) (Zu _)) (Qc (Qd (Wz (pcT (Zft T) hr T.cR (Za (pcT (Uq T) hr T.bD (Za (pv 3) Zc)) (Za (pv 5) Zc)))))))) (Zh (Zp Wg)) Z3)
      (Ze (Zo (i:=11) Y9.nd rfl (Or.inl rfl) (pcT (Up T TB) hr T.aV (Za (pv 3) Zc)))
      (Ze (Yd (PW.pt (Vn (Zq Jz (Zl Zk (by rfl) T.ae PySem.boot_len (Za (pv 11) Zc)) (pv 6) (Zu _)) (Qc (Zq Jz (Zl (Zio rfl) (by rfl) T.eX PyProof.Rows.boot_sum (Za (Ys (ts:=["_law_point"]) (fv:=[]) ⟨rfl,by decide +kernel,by decide +kernel,Z6 (by rfl),trivial⟩ rfl (Zz (pv 11)) (fun _ _ _ _=>(Zn (i:=0) (show List.Nodup (["_law_point"]:List Str) from by decide +kernel) rfl (Or.inl rfl) (Or.inr rfl))) (fun _ _ _ _=>Yf) (fun _ _ _=>rfl) (fun _ _ _ _ _ _=>Ya (Zl (Zac K) (by rfl) T.ae PySem.boot_len (Za (Zs (Zeq K) (pv 0) Zf (fun _ _=>rfl)) Zc)))) Zc)) (Zl Zk (by rfl) T.ae PySem.boot_len (Za (pv 1) Zc)) (Zu _))))) (Zh (Zp Wg)) Z3)
      (Zh (Yd (Zq (Zhg hr.units) (Ys (ts:=["_law_one"]) (fv:=[]) ⟨rfl,by decide +kernel,by decide +kernel,Z6 (by rfl),trivial⟩ rfl (Zz (pv 11)) (fun _ _ _ _=>(Zn (i:=0) (show List.Nodup (["_law_one"]:List Str) from by decide +kernel) rfl (Or.inl rfl) (Or.inr rfl))) (fun _ _ _ _=>Yf) (fun _ _ _=>rfl) (fun _ _ _ _ _ _=>Ya (X8 (V7 K) (by rfl) T.aH PySem.Pv.boot_list (Za (pv 0) Zc)))) (Ys (ts:=["_law_one"]) (fv:=[]) ⟨rfl,by decide +kernel,by decide +kernel,Z6 (by rfl),trivial⟩ rfl (Zz (pcT (Zdk T) hr T.cD (Za (pv 1) Zc))) (fun _ _ _ _=>(Zn (i:=0) (show List.Nodup (["_law_one"]:List Str) from by decide +kernel) rfl (Or.inl rfl) (Or.inr rfl))) (fun _ _ _ _=>Yf) (fun _ _ _=>rfl) (fun _ _ _ _ _ _=>Ya (X8 (V7 K) (by rfl) T.aH PySem.Pv.boot_list (Za (pv 0) Zc)))) (Zu _)) (Zh (Zp Wg)) Z3))))))))))))
      (Zh (Zp Wg)))))))),?_⟩
    refine Z2 fun nxC hnxC=>?_
    refine ⟨_,rfl,a,sc,rfl,hS,hl,fun p m r M ns H1 sm1 hp hm hr1 td h42 hm0 hr0=>?_⟩
    refine ⟨p,_,rfl,SqT.of hp,rfl,_,_,rfl,_,_,rfl,rfl,?_⟩
    refine hnxC _ _ ?_
    obtain ⟨ts,g1,g2,g3⟩:=id hr1
    refine Z2 fun nxC hnxC=>?_
    refine ⟨_,rfl,r,_,rfl,.inl (SqL.of g1),fun l hl1=>?_⟩
    intro x dx hx hdx hne
    obtain ⟨rl2,s2⟩:=Zir (C:=t.aa) g1 g2 g3 hl1 hx hdx
    refine ⟨x,l,dx,M,ns,rfl,Zb,rl2,td,by rw [td.len]; omega,fun H3 old ta=>⟨rfl,?_⟩⟩
    have s3:Same H1 H3:=fun b u e=>old b u (Zi ((Same.new hl1) b u e) hx) (s2 b u ((Same.new hl1) b u e))
    refine hnxC _ _ ?_
    have hr3:=hr1.same s3
    have hm3:=s3 _ _ hm
    have hS3:=(sm1.trans s3).seq hS
    have hT3:TabQ ((PyProof.Rows.envOfC "points" (Zg X6) 0 0 .none).qual ++ "<lambda>") t.ah H3:=TabQ.nil (s3 _ _ (sm1 _ _ hP))
    clear old rl2 s2 g1 g2 g3 hr1 hm0 hr0 hp hm s3 sm1 hx hdx hne hl1 hS hP
    try dsimp only [Zm]
    obtain ⟨n,n1,n40,hn⟩:=td.n
    have inv:InvM M:=td.inv
    have hMl:M.length=ns.length:=td.len.symm
    refine Z2 fun nxC hnxC=>?_
    refine ⟨_,rfl,x,M,ns,n,rfl,ta,hMl,hn,by omega,td,hT3,fun f0 H4 n4 hT4 sh4=>?_⟩
    refine hnxC _ _ ?_
    try dsimp only [Zm]
    refine Z2 fun nxC hnxC=>?_
    refine ⟨_,rfl,x,M,ns,n,rfl,ta.nt n4,hMl,hn,by omega,inv,fun p0 pas H5 s5 pll=>?_⟩
    refine hnxC _ _ ?_
    try dsimp only [Zm]
    refine Z2 fun nxC hnxC=>?_
    refine ⟨_,rfl,x,M,ns,n,rfl,(ta.nt n4).same s5,hMl,hn,by omega,inv,hT4.same s5,fun q0 S H6 up PT RS hT6=>?_⟩
    have n6:=NT.of (hT4.same s5) up
    obtain ⟨qs,q1,q2,q3⟩:=PT
    refine ⟨q0,_,rfl,.inl (SqL.of q1),?_⟩
    rw [List.length_map,q2]
    refine hnxC _ _ ?_
    try dsimp only [Zm]
    have n36:NT H3 H6:=n4.trans ((ntS s5).trans n6)
    have sh6:J3 H6 f0 M (lsL M n) n:=(sh4.nt (ntS s5)).nt n6
    have pl6:LLat H6 p0 ((lsL M n).map (pcL M n)):=pll.ll.nt n6
    have ta6:=ta.nt n36
    have hr6:=hr3.nt n36
    have hm6:=n36.lst hm3
    have hS6:=n36.seq hS3
    have kp:=Kp.refl (n:=n) RS
    have hls:(lsL M n).length≤n:=by
      unfold lsL
      have:=List.length_filter_le (fun k=>@decide (Lst M k) (Classical.propDecidable _)) (List.range n)
      rw [List.length_range] at this
      exact this
    have hpcl:∀ c,(pcL M n c).length≤n:=fun c=>by
      unfold pcL
      have:=List.length_filter_le (fun k=>@decide (Rch M c k) (Classical.propDecidable _)) (List.range n)
      rw [List.length_range] at this
      exact this
    clear up q3 q1 q2 qs hT4 sh4 pll n4 s5 n6 n36 ta hr3 hm3 hS3 hT3
    show tSeq (tFor _ _ _) _ _ _ _
    refine Yk (fun σ H4=>True) (fun nx hnx=>?_) (fun _ _ _=>k _)
    have hmx:∀ z:Int,0≤z→z≤63→6≤(if (if z > 6 then z else 6) < 63 then (if z > 6 then z else 6) else 63)∧(if (if z > 6 then z else 6) < 63 then (if z > 6 then z else 6) else 63)≤63:=fun z h0 h1=>by
      split <;> split <;> omega
    have hz:=hmx (((sc.map V.int).length:Nat):Int) (by omega) (by rw [List.length_map]; omega)
    refine ⟨_,rfl,a,_,rfl,.inl hS6,_,_,rfl,_,_,rfl,_,_,rfl,⟨by decide,by decide,by omega,by omega⟩,?_⟩
    generalize (if (if (((sc.map V.int).length:Nat):Int) > 6 then (((sc.map V.int).length:Nat):Int) else 6) < 63 then (if (((sc.map V.int).length:Nat):Int) > 6 then (((sc.map V.int).length:Nat):Int) else 6) else 63)=top at hz
    refine Wb (n:=(top - 3).toNat) (fun i σ H5=>∃ (m' r' x':Addr) (M':List (Option Nat)) (ns':List Int) (v7 v8 v9 v10 v11:Option V),σ=[some (.ref a),some (.ref m'),some (.ref r'),some (.ref x'),some (.ref f0),some (.ref p0),some (.int (S.length:Nat)),v7,v8,v9,v10,v11]∧SqL K H5 a (sc.map V.int)∧H5 m'=some (.lst (M'.map mV))∧Yy H5 r' ns'∧Zw t.aa H5 x' M' ns'∧TD M' ns'∧M'.length=M.length∧J3 H5 f0 M (lsL M n) n∧LLat H5 p0 ((lsL M n).map (pcL M n))∧TabQ ((PyProof.Rows.envOfC "points" (Zg X6) 0 0 .none).qual ++ "<lambda>") t.ah H5∧Kp M M' n S)
      ⟨m,r,x,M,ns,_,_,_,_,_,rfl,hS6,hm6,hr6,ta6,td,rfl,sh6,pl6,hT6,kp⟩ ?_ (fun _ _ _=>hnx _ _ trivial)
    clear hS6 hm6 hr6 ta6 sh6 pl6 hT6 kp td
    rintro i σ H5 hi ⟨m',r',x',M',ns',v7,v8,v9,v10,v11,rfl,hS5,hm5,hr5,ta5,td',hM',sh5,pl5,hT5,kp⟩
    have hn':M'.length=3 * n:=hM'.trans hn
    have inv':InvM M':=td'.inv
    have hMl':M'.length=ns'.length:=td'.len.symm
    dsimp only [Zm]
    refine Z2 fun nxC hnxC=>?_
    refine ⟨_,rfl,m',M',rfl,hm5,by omega,inv',fun fl H6 s6 hfl h6=>?_⟩
    refine hnxC _ _ ?_
    have hm6:=s6 _ _ hm5
    have hr6:=hr5.same s6
    have ta6:=ta5.same s6
    have hS6:=s6.seq hS5
    try dsimp only [Zm]
    refine Z2 fun nxC hnxC=>?_
    refine ⟨_,rfl,fl,_,rfl,.inl (SqL.of h6),rfl,_,rfl,?_⟩
    refine ite2 (fun _=>hnx _ _ trivial) (fun z1=>?_)
    have hf0:0 < (Ob M').length:=by
      cases e:Ob M' with
      | nil=>rw [e] at z1; exact absurd rfl z1
      | cons _ _=>simp
    clear z1
    try dsimp only [Ql]
    refine hnxC _ _ ?_
    refine Z2 fun nxC hnxC=>?_
    refine ⟨_,rfl,_,rfl,a,sc,3 + (i:Int),rfl,hS6,hl,by omega,by omega,?_⟩
    refine hnxC _ _ ?_
    try dsimp only [Zm]
    generalize cell sc (3 + (i:Int))=pick
    obtain ⟨q,e0,hqf⟩:=Zll (pick:=pick / 2) hf0
    refine Z2 fun nxC hnxC=>?_
    refine ⟨_,rfl,_,rfl,_,_,rfl,rfl,⟨by decide,by decide⟩,_,rfl,fl,_,rfl,.inl (SqL.of h6),_,_,rfl,rfl,(by rw [List.length_map]; omega),fl,_,_,_,rfl,rfl,SqL.of h6,e0,?_⟩
    refine hnxC _ _ ?_
    clear e0 hf0 h6
    try dsimp only [Zm]
    obtain ⟨j,hj,hqj,hc⟩:=Zj4 hqf
    have hqM:q < M'.length:=(List.getElem?_eq_some_iff.mp hj).1
    have hjM:j < M'.length:=(List.getElem?_eq_some_iff.mp (inv' q j hj).1).1
    obtain ⟨nmq,hnm⟩:∃ z,ns'[q]?=some z:=⟨_,List.getElem?_eq_getElem (by omega)⟩
    obtain ⟨hk,hpl⟩:=Zmt td' hj hqj hnm
    generalize hleft:decide (V.int (pick % 2)=V.int 0)=left
    refine Z2 fun nxC hnxC=>?_
    refine ⟨_,rfl,_,rfl,_,rfl,r',ns',q,nmq,rfl,hr6,hnm,_,rfl,_,_,rfl,rfl,(by show (0:Int) < 2; decide),rfl,left,congrArg (fun b=>[V.bl b]) hleft,x',M',ns',nmq,wayS left,rfl,ta6,td',Wrong.free td' hk hpl hc fun HE sE x2 hx2 taE=>?_⟩
    rw [Zkv] at taE
    refine hnxC _ _ ?_
    try dsimp only [Zm]
    refine Z2 fun nxC hnxC=>?_
    refine ⟨_,rfl,_,rfl,_,rfl,_,rfl,_,rfl,_,_,rfl,rfl,(by show (0:Int) < 2; decide),rfl,m',M',n,q,j,left,congrArg (fun b=>[V.ref m',V.int (q:Int),V.bl b]) hleft,sE _ _ hm6,hn',n40,hj,(inv' q j hj).1,hc,fun gl HD sD hgl hD=>?_⟩
    have sDE:=sE.trans sD
    refine ⟨m',r',gl,M',ns',q,j,left,rfl,sDE _ _ hm6,hr6.same sDE,hD,td',hqM,hjM,hc,fun p' m2 r2 HF sF hp' hmF hrF=>?_⟩
    refine ⟨p',_,rfl,SqT.of hp',rfl,_,_,rfl,_,_,rfl,rfl,?_⟩
    refine hnxC _ _ ?_
    try dsimp only [Zm]
    have fr:Fr M' ns' q j:=⟨td',hj,hc⟩
    have kp2:=kp.step fr hn' left
    have td2:=td'.ex hqM hjM hc left
    have hn2:(exM left q j M').length=3 * n:=by rw [Yi]; exact hn'
    have sF5:=s6.trans (sDE.trans sF)
    have taF:=taE.same (sD.trans sF)
    have hSF:=sF5.seq hS5
    have shF:=sh5.nt (ntS sF5)
    have plF:=pl5.same sF5
    have hTF:=hT5.same sF5
    clear hm5 hr5 ta5 hS5 sh5 pl5 hT5 hm6 hr6 ta6 hS6 s6 sE sD sDE sF sF5 hD hp' taE hk hpl hnm hgl hfl kp fr
    have hl2:(exM left q j M').length=(exN left q j ns').length:=td2.len.symm
    generalize exM left q j M'=M2 at *
    generalize exN left q j ns'=ns2 at *
    have inv2:InvM M2:=td2.inv
    obtain ⟨S2,rs2⟩:=Zd9 inv2 hn2
    obtain ⟨eL,eD⟩:=kp2.dat inv2 rs2
    have eP:(lsL M2 n).map (pcL M2 n)=(lsL M n).map (pcL M n):=by rw [kp2.ls,funext kp2.pc]
    have hsh:PySem.SeqAt.shaped (.list ((lsL M n).map fun c=>shpD M S (pcL M n c)))=true:=by
      have:=Zfh M S ((lsL M n).map (pcL M n))
      rw [List.map_map] at this
      exact this
    refine Z2 fun nxC hnxC=>?_
    refine ⟨_,rfl,x2,M2,ns2,n,rfl,taF,hl2,hn2,by omega,td2,hTF,fun fo HG nG hTG shG=>?_⟩
    have dG:=shG.dv (K:=K) rs2
    rw [eD] at dG
    refine ⟨_,rfl,DV.nev dG ((shF.nt nG).dv RS) hsh ⟨_,rfl,iteF ?_⟩⟩
    refine ⟨_,rfl,x2,M2,ns2,n,rfl,taF.nt nG,hl2,hn2,by omega,inv2,fun pl pas HI sI pll=>?_⟩
    have pl2:=pll.ll
    rw [eP] at pl2
    refine ⟨_,rfl,pl,p0,_,rfl,pl2,(plF.nt nG).same sI,by rw [List.length_map]; omega,fun g hg=>by obtain ⟨c,_,rfl⟩:=List.mem_map.mp hg; have:=hpcl c; omega,?_⟩
    refine ⟨_,rfl,iteF ?_⟩
    try dsimp only [Ql]
    refine hnxC _ _ ?_
    clear dG hsh pl2 pll shG
    refine Z2 fun nxC hnxC=>?_
    refine ⟨_,rfl,x2,M2,ns2,n,rfl,(taF.nt nG).same sI,hl2,hn2,by omega,inv2,hTG.same sI,fun co S3 HJ up PT rs3 hTJ=>?_⟩
    obtain rfl:=rs3.uniq inv2 rs2
    have nJ:NT HF HJ:=nG.trans ((ntS sI).trans (NT.of (hTG.same sI) up))
    refine hnxC _ _ ?_
    try dsimp only [Zm]
    have taJ:=taF.nt nJ
    have hmJ:=nJ.lst hmF
    have hrJ:=hrF.nt nJ
    have hSJ:=nJ.seq hSF
    have shJ:=shF.nt nJ
    have plJ:=plF.nt nJ
    clear up nG sI hTG nJ taF hmF hrF hSF shF plF hTF
    obtain ⟨qs,q1,q2,q3⟩:=PT
    have hall:=Zkd inv2 hn2 rs3.nd rs3.mem
    have hSl:S3.length≤M2.length:=X0 M2.length S3 rs3.nd fun a ha=>((rs3.mem a).mp ha).1
    have hfl:((S3.map (fanL M2)).flatten).length=M2.length:=by rw [hall.length_eq,List.length_range]
    refine Z2 fun nxC hnxC=>?_
    refine ⟨_,rfl,co,_,rfl,.inl (SqL.of q1),_,rfl,rfl,_,rfl,?_⟩
    rw [List.length_map,q2,eL,decide_eq_true rfl]
    refine iteF ?_
    refine ⟨_,rfl,co,rfl,⟨_,SqL.of q1⟩,fun D hD=>?_⟩
    refine Z4 (xs:=qs.map V.ref) (fun j σ H'=>∃ (v:Option V),σ=[v]∧Same HJ H'∧H' D=some (.lst (((S3.take j).map fun c=>((fanL M2 c).length:Int)).map V.int))) ⟨none,rfl,Same.new hD,Zb⟩ ?_ ?_ ?_
    · rintro j σ H' _ ⟨v,rfl,s',h'⟩
      exact SqL.of (s' _ _ q1)
    · rintro j y σ H' hyy ⟨v,rfl,s',h'⟩
      obtain ⟨q,hq,rfl⟩:=map_some hyy
      obtain ⟨st,hst⟩:∃ st,S3[j]?=some st:=⟨_,List.getElem?_eq_getElem (by rw [← q2]; exact (List.getElem?_eq_some_iff.mp hq).1)⟩
      obtain ⟨b,b1,b2⟩:=q3 j q st hq hst
      dsimp only [Zm,tYes]
      rw [if_pos rfl]
      refine ⟨_,rfl,q,_,_,_,rfl,rfl,SqT.of (s' _ _ b1),rfl,b,_,rfl,.inl (SqL.of (s' _ _ b2)),_,h',?_,_,rfl,Same.add s' hD,?_⟩
      · rw [List.length_map,List.length_map,List.length_take]; exact Zr (by omega)
      · rw [Zb,List.take_add_one,hst,List.map_append,List.map_append,List.length_map]
        rfl
    rintro σ HL ⟨v,rfl,sL,hL⟩
    rw [List.length_map,q2,List.take_length] at hL
    refine ⟨D,_,rfl,SqL.of hL,_,rfl,m2,_,rfl,.inl (SqL.of (sL _ _ hmJ)),rfl,_,rfl,?_⟩
    rw [Zd1,hfl,List.length_map,decide_eq_true rfl]
    refine iteF ?_
    try dsimp only [Ql]
    refine hnxC _ _ ?_
    have q3L:∀ (i:Nat) (q:Addr) (c:Nat),qs[i]?=some q→S3[i]?=some c→∃ a,HL q=some (.tup [.bl (fanF M2 c).2,.ref a])∧HL a=some (.lst ((fanL M2 c).map nV)):=fun i q c e1 e2=>(q3 i q c e1 e2).imp fun a z=>⟨sL _ _ z.1,sL _ _ z.2⟩
    have q1L:=sL _ _ q1
    have taL:=taJ.same sL
    have hmL:=sL _ _ hmJ
    have hrL:=hrJ.same sL
    have hSL:=sL.seq hSJ
    have shL:=shJ.nt (ntS sL)
    have plL:=plJ.same sL
    have hTL:=hTJ.same sL
    clear q3 q1 taJ hmJ hrJ hSJ shJ plJ hTJ hD hL sL
    refine ⟨_,rfl,co,rfl,⟨_,SqL.of q1L⟩,fun D1 hD1=>?_⟩
    refine Z4 (xs:=qs.map V.ref) (fun j σ H'=>∃ (v:Option V),σ=[v]∧Same HL H'∧PLx HL H' D1 M2 S3 j) ⟨none,rfl,Same.new hD1,[],Zb,rfl,fun i u c e=>by simp at e⟩ ?_ ?_ ?_
    · rintro j σ H' _ ⟨v,rfl,s',h'⟩
      exact SqL.of (s' _ _ q1L)
    · rintro j y σ H' hyy ⟨v,rfl,s',us,u1,u2,u3⟩
      obtain ⟨q,hq,rfl⟩:=map_some hyy
      have hjl:j < S3.length:=by rw [← q2]; exact (List.getElem?_eq_some_iff.mp hq).1
      obtain ⟨st,hst⟩:∃ st,S3[j]?=some st:=⟨_,List.getElem?_eq_getElem hjl⟩
      obtain ⟨b,b1,b2⟩:=q3L j q st hq hst
      dsimp only [Zm,tYes]
      rw [if_pos rfl]
      refine ⟨_,rfl,q,_,rfl,.inr (SqT.of (s' _ _ b1)),fun u hu=>?_⟩
      have hDu:D1≠u:=fun z=>by rw [← z,u1] at hu; cases hu
      refine ⟨_,by rw [Zd hDu]; exact u1,by rw [List.length_map,u2]; exact Zr (by omega),_,rfl,Same.add (s'.trans (Same.new hu)) hD1,PLx.push u1 u2 u3 hu hst b2⟩
    rintro σ HN ⟨v',rfl,sN,us,u1,u2,u3⟩
    rw [List.length_map,q2] at u2
    have pN:PLat HN D1 M2 S3:=⟨us,u1,u2,fun i u c e1 e2=>(u3 i u c e1 e2).imp fun a z=>⟨z.1,sN _ _ z.2⟩⟩
    clear u1 u2 u3 us q1L q3L hD1
    refine ⟨_,rfl,m2,M2,n,rfl,sN _ _ hmL,hn2,by omega,inv2,fun dl S4 HQ sO PT4 rs4=>?_⟩
    obtain rfl:=rs4.uniq inv2 rs3
    obtain ⟨qs4,t1,t2,t3⟩:=PT4
    refine ⟨dl,rfl,⟨_,SqL.of t1⟩,fun D2 hD2=>?_⟩
    refine Z4 (xs:=qs4.map V.ref) (fun j σ H'=>∃ (v:Option V),σ=[v]∧Same HQ H'∧PLx HQ H' D2 M2 S4 j) ⟨none,rfl,Same.new hD2,[],Zb,rfl,fun i u c e=>by simp at e⟩ ?_ ?_ ?_
    · rintro j σ H' _ ⟨v,rfl,s',h'⟩
      exact SqL.of (s' _ _ t1)
    · rintro j y σ H' hyy ⟨v,rfl,s',us,u1,u2,u3⟩
      obtain ⟨q,hq,rfl⟩:=map_some hyy
      have hjl:j < S4.length:=by rw [← t2]; exact (List.getElem?_eq_some_iff.mp hq).1
      obtain ⟨st,hst⟩:∃ st,S4[j]?=some st:=⟨_,List.getElem?_eq_getElem hjl⟩
      obtain ⟨b,b1,b2⟩:=t3 j q st hq hst
      dsimp only [Zm,tYes]
      rw [if_pos rfl]
      refine ⟨_,rfl,q,_,rfl,.inr (SqT.of (s' _ _ b1)),fun u hu=>?_⟩
      have hDu:D2≠u:=fun z=>by rw [← z,u1] at hu; cases hu
      refine ⟨_,by rw [Zd hDu]; exact u1,by rw [List.length_map,u2]; exact Zr (by omega),_,rfl,Same.add (s'.trans (Same.new hu)) hD2,PLx.push u1 u2 u3 hu hst b2⟩
    rintro σ HR ⟨v'',rfl,sR,us,u1,u2,u3⟩
    rw [List.length_map,t2] at u2
    have pR:PLat HR D2 M2 S4:=⟨us,u1,u2,fun i u c e1 e2=>(u3 i u c e1 e2).imp fun a z=>⟨z.1,sR _ _ z.2⟩⟩
    have sLR:=sN.trans (sO.trans sR)
    refine DV.nev ((pN.same (sO.trans sR)).dv) pR.dv (Zfn M2 S4) ⟨_,rfl,iteF ?_⟩
    exact ⟨m2,r2,x2,M2,ns2,_,_,_,_,_,rfl,sLR.seq hSL,sLR _ _ hmL,hrL.same sLR,taL.same sLR,td2,hn2.trans hn.symm,shL.nt (ntS sLR),plL.same sLR,hTL.same sLR,kp2⟩
end
end KT
set_option maxHeartbeats 4000000
open PySem PySem.W PyProof.Rows
namespace PySem.W.Fast
def tw11933524715944394338:=0
def tw11795330635755130839:=0
def tw10784065988248025007:=0
def tw11820396520169086268:=0
def tw17817308321644251485:=0
def tw8388764685921404755:=0
def tw7936563573158516452:=0
def tw18048341720437187024:=0
def tw9064827783702520463:=0
def tw250815312089308285:=0
def tw5290367208835517638:=0
def tw493079756985764952:=0
def tw15974458556284900509:=0
def tw10817277960602151992:=0
def tw11985246007054515595:=0
def tw6499236717118578595:=0
def tw17609448135256215819:=0
def tw16018909384814090906:=0
def tw18044004148175294512:=0
def tw17374167890005146551:=0
def tw16692150968555799210:=0
def tw10062411749155337004:=0
def tw3355817454256983133:=0
def tw14558399497430305519:=0
def tw1350630688152530378:=0
def tw15695495281620227062:=0
def tw3787029801022301140:=0
def tw14814370650425575468:=0
def tw2576489295424853420:=0
def tw13830177129266648499:=0
def tw11696293189521515240:=0
def tw14834471604397694215:=0
def tw16939167123820842353:=0
def tw12972240965133627558:=0
def tw5536764143560955220:=0
def tw6269384446034780208:=0
def tw15679250890886739909:=0
def tw4598970788149771846:=0
def tw16295645615726641195:=0
def tw5820880936596788010:=0
def tw18054974582792704725:=0
def tw5126813265258068697:=0
def tw13840568034599976390:=0
def tw13542350078307719906:=0
def tw6907061198840053437:=0
def tw13172564452162488611:=0
def tw803307081387269872:=0
def tw2652276310755379221:=0
def tw4399852065459057266:=0
def tw17735356049320041237:=0
def tw16406834319644021878:=0
def tw9526160712564625711:=0
def tw8385020784465755580:=0
def tw1548077135636698296:=0
def tw17039737116746079896:=0
def tw12228349427690142461:=0
def tw6153515070599368171:=0
def tw7343800846406523561:=0
def tw9194570588218374778:=0
def tw17012683303035099163:=0
def tw219999786889417828:=0
def tw12572337002698047769:=0
def tw9510067189179331725:=0
def tw9717977992167306010:=0
def tw6933053574820839546:=0
def tw10191352420382484730:=0
def tw2985790283152901732:=0
def tw2360869324740915124:=0
def tw11385127582371348520:=0
def tw270205095681188440:=0
def tw1257682698964716720:=0
def tw1771707812051780958:=0
def tw45882807212075726:=0
def tw169114278308558042:=0
def tw17124045174629718598:=0
def tw15518095395087706361:=0
def tw13058696747358799580:=0
def tw14537233413737338596:=0
def tw15397819524001511757:=0
def tw14717552012575739550:=0
def tw4064283440835566894:=0
def tw17395884900022974620:=0
def tw3885336137293098818:=0
def tw16430877485630847081:=0
def tw3572622156067424593:=0
def tw9871390989305901899:=0
def tw8373448495645413264:=0
def tw10476600065360609628:=0
def tw1925302045309688200:=0
def tw8112735258398982594:=0
def tw6416387715476778525:=0
def tw60539616444255454:=0
def tw4806639690164486910:=0
def tw13644996744221586163:=0
def tw4164514014522496043:=0
def tw1292646319674608751:=0
def tw10298764023521393221:=0
def tw17849648349446433453:=0
def tw13165296077040301199:=0
def tw3608816486252834905:=0
def tw8658640326622432950:=0
def tw7856730437251533518:=0
def tw16759363131928657415:=0
def tw4237731348504495589:=0
def tw14720987995658428028:=0
def tw13887339113715585911:=0
def tw3513396406322084530:=0
def tw14236418976540745234:=0
def tw17209008084033567439:=0
def tw6130261160675202580:=0
def tw2884315137234129983:=0
def tw3559784324594712055:=0
def tw13751912408811150825:=0
def tw437228615599516262:=0
def tw6670718059695628147:=0
def tw6646875413069262775:=0
def tw4966890256578361877:=0
def tw940362656420462299:=0
def tw12521903163295426373:=0
def tw8290063177778248485:=0
def tw2983111268667361194:=0
def tw6965814096111454173:=0
def tw2350409753698320947:=0
def tw6530832274401754144:=0
def tw1082914476947504857:=0
def tw7538446438712552403:=0
def tw8946695506317661568:=0
def tw6079882326796969257:=0
def tw13516048358549424215:=0
def tw4112077332368668562:=0
def tw13475635626281602981:=0
def tw245026196604234569:=0
def tw11221176683929051328:=0
def tw14511255181571682199:=0
def tw8824847497621545512:=0
def tw7931069992303374603:=0
def tw3366163415459147433:=0
def tw13790829459895256307:=0
def tw4674473354769497226:=0
def tw968644941775699607:=0
def tw16350706464488106595:=0
def tw17985205394013068075:=0
def tw2648923678669139358:=0
def tw4691208228570709515:=0
def tw10718815059037657467:=0
def tw15783901480880182916:=0
def tw13668926799838516224:=0
def tw1269204091232807265:=0
def tw2336502248716351620:=0
def tw8853580634680962778:=0
def tw3332565442617092661:=0
def tw599223630095836055:=0
def tw17721322510757721375:=0
def tw6263407237770753987:=0
def tw16354799598799880862:=0
def tw16984078769262545473:=0
def tw1100496161127221814:=0
def tw7084903286744801902:=0
def tw12207326293949710523:=0
def tw13627315566774810193:=0
def tw4399905988205098410:=0
def tw112796584276654108:=0
def tw7676805362947463083:=0
def tw18395157822029461162:=0
def tw7565179244412351541:=0
def tw6841434129316845535:=0
def tw10922660514166002460:=0
def tw14598898501892489929:=0
def tw13650963670695552008:=0
def tw8640521134834996386:=0
def tw7999462709760082040:=0
def tw16960071351921674508:=0
def tw12502761520188805393:=0
def tw16201088915199276874:=0
def tw9422648180722185835:=0
def tw11742650004210640121:=0
def tw17251116710366074989:=0
def tw6896459398424076686:=0
def tw9966539678617481262:=0
def tw14499138700769614388:=0
def tw12936706373906075558:=0
def tw16311978835650868109:=0
def tw7275538362086340051:=0
def tw487669429829956297:=0
def tw3475886970097266015:=0
def tw10846402849798146229:=0
def tw10874515694142893747:=0
def tw959625060393144163:=0
def tw4634859149549147604:=0
def tw1669654493818111200:=0
def tw12177909287290483185:=0
def tw14188275762049935373:=0
def tw13154132086325314081:=0
def tw17947454625679797393:=0
def tw17347637439886977160:=0
def tw13287180597212949884:=0
def tw14427668006905107979:=0
def tw219110409348292450:=0
def tw4179297615244580692:=0
def tw14142896006952934372:=0
def tw18422419994637447867:=0
def tw4717172346690702918:=0
def tw2871379986180984269:=0
def tw3168746631879515767:=0
def tw7002616492166237289:=0
def tw10540662342338499962:=0
def tw11800602846080288795:=0
def tw5268482831873005684:=0
def tw7765345313538891992:=0
def tw5099929898164618918:=0
def tw5762735607138698163:=0
def tw597911841865469203:=0
def tw9244270351497079144:=0
def tw7933724048067770232:=0
def tw5057811396016565666:=0
def tw1338879394645759568:=0
def tw11676464265070728901:=0
def tw47147181717196887:=0
def tw13508783830367204907:=0
def tw2901281346937996310:=0
def tw18043388283912225834:=0
def tw1117652954388794022:=0
def tw6344515723945914258:=0
def tw5147168161369674424:=0
def tw11937446679658081108:=0
def tw1216188701038710833:=0
def tw13036719369613132345:=0
def tw7871111469160253774:=0
def tw14548065329322549453:=0
def tw14271317919474853398:=0
def tw789140287672663709:=0
def tw17929255063250744366:=0
def tw13665818632414804990:=0
def tw2161355341863834524:=0
def tw3649766576573651096:=0
def tw11527688570173801378:=0
def tw7763960049331031558:=0
def tw4025275807465011523:=0
def tw11228262686552741027:=0
def tw11356647755551612790:=0
def tw16354593495172244571:=0
def tw18191061315777745855:=0
def tw11251092550814687968:=0
def tw4155480461868386311:=0
def tw15611393583504375851:=0
def tw10737921268619766998:=0
def tw8938010650702869048:=0
def tw11344485585698612155:=0
def tw7787669324378444731:=0
def tw3705512405596355549:=0
def tw1400667244832773255:=0
def tw7013835061256877014:=0
def tw3880381359386935915:=0
def tw5285891437076370148:=0
def tw18105125771322268157:=0
def tw13403104918115459042:=0
def tw14400572065628929600:=0
def tw11831645943021080607:=0
def tw12917360638291661752:=0
def tw2378813296024511676:=0
def tw13131891371426647615:=0
def tw11223934955141504683:=0
def tw12627263332494516599:=0
def tw7228948444001117896:=0
def tw7157940257016426466:=0
def tw9236556039730569835:=0
def tw17212998025477309541:=0
def tw4653066688598968259:=0
def tw17711649568387185236:=0
def tw2138254403515369458:=0
def tw2854656026367340693:=0
def tw4130311366804259313:=0
def tw9368337125737250692:=0
def tw3581711070617558557:=0
def tw15854266195383827485:=0
def tw17788124608894290904:=0
def tw15972743668838622901:=0
def tw221002951837199446:=0
def tw3343105399871927165:=0
def tw8454676796582302717:=0
def tw13176436919509704225:=0
def tw1694268272680804585:=0
def tw17161540621874787918:=0
def tw15825674701552285387:=0
def tw6395396851246483357:=0
def tw5110403482496084210:=0
def tw13652846063215079129:=0
def tw14181060155112521306:=0
def tw9625708611590532267:=0
def tw17005567017474922379:=0
def tw15078131698206647604:=0
def tw12539148645870079771:=0
def tw2054905449138663948:=0
def tw9782779298038396054:=0
def tw4851932355195313067:=0
def tw11061838438777087101:=0
def tw1456321718751029844:=0
def tw1610592886714888784:=0
def tw14358754167559091667:=0
def tw8279559578779022872:=0
def tw14965982214335487653:=0
def tw9537418001425300375:=0
def tw10056390808174202741:=0
def tw4000747890759401216:=0
def tw347625200436322486:=0
def tw3005498353909326359:=0
def tw550153629703428469:=0
def tw16977742925509049638:=0
def tw2503036666452460933:=0
def tw2630188404335111738:=0
def tw2438829123889420514:=0
def tw3032879864667303943:=0
def tw694327391662573981:=0
def tw9754092365844093825:=0
def tw3814113061169365484:=0
def tw13406773351114207738:=0
def tw17044884316399395794:=0
def tw978245961048013412:=0
def tw12928580740415107355:=0
def tw4510855933643637182:=0
def tw13596000493166974506:=0
def tw16118057724352580759:=0
def tw3650313385614463523:=0
def tw3913768046091059153:=0
def tw1132937189330358187:=0
def tw947742468167656108:=0
def tw16012229539187892948:=0
def tw10371653902937075119:=0
def tw13051163902309453157:=0
def tw13446926407247677270:=0
def tw3341748597379606473:=0
def tw11342607930851619044:=0
def tw15996867058114634315:=0
def tw11690010519799886236:=0
def tw14104958692821037463:=0
def tw16921285336497657380:=0
def tw10962642402941323494:=0
def tw13005085658537890386:=0
def tw8795023989772100915:=0
def tw10908056721705683882:=0
def tw5379772144664864746:=0
def tw9646002120294628641:=0
def tw3776849848369260560:=0
def tw11887390677726697630:=0
def tw3586427657329489574:=0
def tw2625939695311656122:=0
def tw7630178840976378611:=0
def tw2613361333767805460:=0
def tw13698916584286210121:=0
def tw8856521205451886999:=0
def tw886913675251474861:=0
def tw14093305156687813658:=0
def tw3453890957147576933:=0
def tw3334896748831651651:=0
def tw663861198645971565:=0
def tw6288395116478740765:=0
def tw12138955193635396687:=0
def tw16763219756439485791:=0
def tw8198406923883541964:=0
def tw7540249938876445087:=0
def tw17318245967197277266:=0
def tw17990021028934005470:=0
def tw2736854026908040379:=0
def tw9077269208040302486:=0
def tw5636261913518989786:=0
def tw8900751575860738680:=0
def tw9953397464370159554:=0
def tw9172068703969995966:=0
def tw948389643423953656:=0
def tw13534242455007684378:=0
def tw9925895165752802165:=0
def tw14216126936566140424:=0
def tw15840659143096189587:=0
def tw10926322539094560899:=0
def tw16309834205290701809:=0
def tw13185133710221938199:=0
def tw11684387678983057418:=0
def tw12162190444650158125:=0
def tw17451035164695293059:=0
def tw1561333725294452708:=0
def tw5113167092215698536:=0
def tw8202095245905800828:=0
def tw3799764186941978150:=0
def tw11674967938777657364:=0
def tw13046898821935918154:=0
def tw721132724569556558:=0
def tw4776817507233479730:=0
def tw1447190685316425114:=0
def tw2270291930645407624:=0
def tw15969934170437827147:=0
def tw10463014882906422582:=0
def tw7908976366364413273:=0
def tw10968504904809970229:=0
def tw7432745548303615238:=0
def tw2460163900762957040:=0
def tw14543599185624268333:=0
def tw12290628079005906684:=0
def tw13385192323802170807:=0
def tw14887159155445286248:=0
def tw17747623466865650848:=0
def tw13725446065686073127:=0
def tw4461631756865944542:=0
def tw14684726602915366000:=0
def tw13601075485896595427:=0
def tw1330299432473246603:=0
def tw11980102912953223029:=0
def tw14498203206772787602:=0
def tw5020637618828386584:=0
def tw5915184779178439922:=0
def tw7814770090921276850:=0
def tw11457544446032309763:=0
def tw12289889216028053898:=0
def tw12977709506904937353:=0
def tw15978368447632093702:=0
def tw10440066383534039702:=0
def tw15418023263686122333:=0
def tw5358141308450466169:=0
def tw4680376050964297646:=0
end PySem.W.Fast
set_option maxRecDepth 100000 in
set_option maxHeartbeats 0 in
theorem PySem.Challenge.cw_tentloops_k41_whole_shape_kept_holds : PySem.Challenge.rw_tentloops_k41_whole_shape_kept.Holds := by
 w_on; o_law; k_head; (case hw=>w_witness2)
 k_fill
 refine L2.walk_t (l:=PySem.Challenge.rw_tentloops_k41_whole_shape_kept) (k:=11) (nm:="points") (spl:=KT.sp_lawT) rfl rfl ⟨rfl,by decide,by decide⟩ (fun w h Y=>Y.1) (by kernel_rfl) (fun K P H a ns hl hS hP=>KT.sp_lawT_start hl hS hP) ?F
 case F =>
  intro w mg fa h KX G hmg
  have T:∃ t,KT.Txt w (L2.KOf KX) mg t:=by
   dsimp only [L2.KOf]
   refine' ⟨⟨_,_,_,_,_,_,_,_,_,_,_,_,_,_,_,_,_,_,_,_,_,_,_,_,_,_,_,_,_,_,_,_,_,_,_,_,_,_,_,_,_,_,_,_,_,_,_,_,_,_,_,_,_,_,_,_,_,_,_,_,_,_,_,_,_,_,_,_,_,_,_,_,_,_,_,_,_,_,_,_,_,_,_,_,_,_,_,_,_,_,_,_,_,_,_,_,_,_,_,_,_,_,_,_,_,_,_,_,_,_⟩,⟨mg_of KX G ?_,⟨?_,?_,?_,?_⟩,?_,?_,?_,?_,KT.FT.of KX G (KT.ba1 (fun _ _ _ _ _ _ _ _=>rfl) rfl) ?_ ?_ ?_ ?_,KT.FT.of KX G (KT.ba1 (fun _ _ _ _ _ _ _ _=>rfl) rfl) ?_ ?_ ?_ ?_,KT.FT.of KX G (KT.ba1 (fun _ _ _ _ _ _ _ _=>rfl) rfl) ?_ ?_ ?_ ?_,KT.FT.of KX G (KT.ba1 (fun _ _ _ _ _ _ _ _=>rfl) rfl) ?_ ?_ ?_ ?_,KT.FT.of KX G (KT.ba2 (fun _ _ _ _ _ _ _ _ _=>rfl) rfl) ?_ ?_ ?_ ?_,KT.FM.of (KT.ba2 (fun _ _ _ _ _ _ _ _ _=>rfl) rfl) ?_ ?_ ?_ ?_ ?_,KT.FM.of (KT.ba1 (fun _ _ _ _ _ _ _ _=>rfl) rfl) ?_ ?_ ?_ ?_ ?_,KT.FM.of (KT.ba1 (fun _ _ _ _ _ _ _ _=>rfl) rfl) ?_ ?_ ?_ ?_ ?_,KT.FM.of (KT.ba1 (fun _ _ _ _ _ _ _ _=>rfl) rfl) ?_ ?_ ?_ ?_ ?_,KT.FM.of (KT.ba1 (fun _ _ _ _ _ _ _ _=>rfl) rfl) ?_ ?_ ?_ ?_ ?_,KT.FM.of (KT.ba2 (fun _ _ _ _ _ _ _ _ _=>rfl) rfl) ?_ ?_ ?_ ?_ ?_,KT.FM.of (KT.ba2 (fun _ _ _ _ _ _ _ _ _=>rfl) rfl) ?_ ?_ ?_ ?_ ?_,KT.FM.of (KT.ba2 (fun _ _ _ _ _ _ _ _ _=>rfl) rfl) ?_ ?_ ?_ ?_ ?_,KT.FM.of (KT.ba2 (fun _ _ _ _ _ _ _ _ _=>rfl) rfl) ?_ ?_ ?_ ?_ ?_,KT.FM.of (KT.ba2 (fun _ _ _ _ _ _ _ _ _=>rfl) rfl) ?_ ?_ ?_ ?_ ?_,KT.FM.of (KT.ba2 (fun _ _ _ _ _ _ _ _ _=>rfl) rfl) ?_ ?_ ?_ ?_ ?_,KT.FT.of KX G (KT.ba2 (fun _ _ _ _ _ _ _ _ _=>rfl) rfl) ?_ ?_ ?_ ?_,KT.FT.of KX G (KT.ba1 (fun _ _ _ _ _ _ _ _=>rfl) rfl) ?_ ?_ ?_ ?_,KT.FT.of KX G (KT.ba3 (fun _ _ _ _ _ _ _ _ _ _=>rfl) rfl) ?_ ?_ ?_ ?_,KT.FT.of KX G (KT.ba1 (fun _ _ _ _ _ _ _ _=>rfl) rfl) ?_ ?_ ?_ ?_,KT.FT.of KX G (KT.ba2 (fun _ _ _ _ _ _ _ _ _=>rfl) rfl) ?_ ?_ ?_ ?_,KT.FT.of KX G (KT.ba2 (fun _ _ _ _ _ _ _ _ _=>rfl) rfl) ?_ ?_ ?_ ?_,KT.FT.of KX G (KT.ba1 (fun _ _ _ _ _ _ _ _=>rfl) rfl) ?_ ?_ ?_ ?_,KT.FT.of KX G (KT.ba2 (fun _ _ _ _ _ _ _ _ _=>rfl) rfl) ?_ ?_ ?_ ?_,KT.FT.of KX G (KT.ba2 (fun _ _ _ _ _ _ _ _ _=>rfl) rfl) ?_ ?_ ?_ ?_,KT.FT.of KX G (KT.ba1 (fun _ _ _ _ _ _ _ _=>rfl) rfl) ?_ ?_ ?_ ?_,KT.FT.of KX G (KT.ba2 (fun _ _ _ _ _ _ _ _ _=>rfl) rfl) ?_ ?_ ?_ ?_,KT.FT.of KX G (KT.ba1 (fun _ _ _ _ _ _ _ _=>rfl) rfl) ?_ ?_ ?_ ?_,KT.FT.of KX G (KT.ba1 (fun _ _ _ _ _ _ _ _=>rfl) rfl) ?_ ?_ ?_ ?_,KT.FT.of KX G (KT.ba2 (fun _ _ _ _ _ _ _ _ _=>rfl) rfl) ?_ ?_ ?_ ?_,KT.FT.of KX G (KT.ba2 (fun _ _ _ _ _ _ _ _ _=>rfl) rfl) ?_ ?_ ?_ ?_,KT.FT.of KX G (KT.ba3 (fun _ _ _ _ _ _ _ _ _ _=>rfl) rfl) ?_ ?_ ?_ ?_,KT.FT.of KX G (KT.ba3 (fun _ _ _ _ _ _ _ _ _ _=>rfl) rfl) ?_ ?_ ?_ ?_,KT.FT.of KX G (KT.ba2 (fun _ _ _ _ _ _ _ _ _=>rfl) rfl) ?_ ?_ ?_ ?_,KT.FT.of KX G (KT.ba2 (fun _ _ _ _ _ _ _ _ _=>rfl) rfl) ?_ ?_ ?_ ?_,KT.FT.of KX G (KT.ba3 (fun _ _ _ _ _ _ _ _ _ _=>rfl) rfl) ?_ ?_ ?_ ?_,KT.FT.of KX G (KT.ba3 (fun _ _ _ _ _ _ _ _ _ _=>rfl) rfl) ?_ ?_ ?_ ?_,KT.FT.of KX G (KT.ba1 (fun _ _ _ _ _ _ _ _=>rfl) rfl) ?_ ?_ ?_ ?_,KT.FT.of KX G (KT.ba1 (fun _ _ _ _ _ _ _ _=>rfl) rfl) ?_ ?_ ?_ ?_,KT.FT.of KX G (KT.ba2 (fun _ _ _ _ _ _ _ _ _=>rfl) rfl) ?_ ?_ ?_ ?_,KT.FT.of KX G (KT.ba1 (fun _ _ _ _ _ _ _ _=>rfl) rfl) ?_ ?_ ?_ ?_,KT.FT.of KX G (KT.ba3 (fun _ _ _ _ _ _ _ _ _ _=>rfl) rfl) ?_ ?_ ?_ ?_,KT.FT.of KX G (KT.ba2 (fun _ _ _ _ _ _ _ _ _=>rfl) rfl) ?_ ?_ ?_ ?_,KT.FT.of KX G (KT.ba3 (fun _ _ _ _ _ _ _ _ _ _=>rfl) rfl) ?_ ?_ ?_ ?_,KT.FT.of KX G (KT.ba1 (fun _ _ _ _ _ _ _ _=>rfl) rfl) ?_ ?_ ?_ ?_,KT.FT.of KX G (KT.ba2 (fun _ _ _ _ _ _ _ _ _=>rfl) rfl) ?_ ?_ ?_ ?_,KT.FT.of KX G (KT.ba2 (fun _ _ _ _ _ _ _ _ _=>rfl) rfl) ?_ ?_ ?_ ?_,KT.FT.of KX G (KT.ba2 (fun _ _ _ _ _ _ _ _ _=>rfl) rfl) ?_ ?_ ?_ ?_,KT.FT.of KX G (KT.ba1 (fun _ _ _ _ _ _ _ _=>rfl) rfl) ?_ ?_ ?_ ?_,KT.FT.of KX G (KT.ba1 (fun _ _ _ _ _ _ _ _=>rfl) rfl) ?_ ?_ ?_ ?_,⟨?_,?_,?_,?_⟩,mg_of KX G ?_,mg_of KX G ?_,L2.kdict_mk2 ?_ ?_ ?_ (by decide) ?_,⟨_,_,?_,?_,?_,?_,?_⟩,fun s u=>.of_eq rfl,mg_none_of KX G ?_,mg_none_of KX G ?_,mg_none_of KX G ?_,mg_none_of KX G ?_,mg_none_of KX G ?_,mg_none_of KX G ?_,mg_none_of KX G ?_,mg_none_of KX G ?_,mg_none_of KX G ?_,mg_none_of KX G ?_,mg_none_of KX G ?_,mg_none_of KX G ?_,mg_none_of KX G ?_,mg_of KX G ?_,⟨?_⟩,mg_of KX G ?_,⟨?_⟩,mg_of KX G ?_,⟨?_⟩,mg_of KX G ?_,⟨?_⟩,mg_of KX G ?_,⟨?_⟩⟩⟩
   any_goals first | k_is | k_exc | rfl | kernel_rfl
  obtain ⟨t,T⟩:=T
  have e0:=hmg.symm.trans T.eO.g
  cases e0
  obtain ⟨oc,od,kV,doc,pm,an,cdv,ct,osl,ed,lk,_⟩:=T.aV.F.ex
  obtain ⟨co,cvs,c1,c2,c3,c4,c5⟩:=T.cT
  refine' ⟨_,t.b9,t.aF,t.ah,_,t.bi,co,cvs,?b,T.aV.g,lk,rfl,c1,c2,c3,c4,c5,fun base kb nb hC hB=>KT.ok_law T ⟨hC,hB⟩⟩
  exact T.bl
#print axioms PySem.Challenge.cw_tentloops_k41_whole_shape_kept_holds
