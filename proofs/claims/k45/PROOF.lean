import PyProof.Rows.All
import Wide.All
import OpenK.AllK
import Wide.FinOn
import Lean
import PyProof.EqAt
import PyProof.EqKinds
import PyProof.TupleCall
import PySem.Challenge.RW_tentloops_k45_worths_refused
set_option Elab.async false
set_option linter.all false
set_option maxRecDepth 100000
namespace L2
open PySem PySem.Spec PyProof.Rows
noncomputable abbrev Key:=Sum Int Str
noncomputable def keyIs:Key→Value→Bool
 | .inl k,v=>Value.isInt k v
 | .inr x,v=>Value.isStrOf x v
noncomputable def keyH (w:World):Key→Int
 | .inl k=>hashInt k
 | .inr x=>hashStr w x
theorem keyIs_shape:∀ {k:Key} {v:Value},keyIs k v=true→(∃ i t,k=Sum.inl i∧v=Value.int i t)∨(∃ x t,k=Sum.inr x∧v=Value.str x t)
 | .inl i,v,h=>by
  obtain ⟨t,e⟩:=Value.isInt_shape (k:=i) (v:=v) h
  exact .inl ⟨i,t,rfl,e⟩
 | .inr x,v,h=>by
  obtain ⟨t,e⟩:=Value.isStrOf_shape (x:=x) (v:=v) h
  exact .inr ⟨x,t,rfl,e⟩
theorem keyIs_int (i:Int) (t:Tok):keyIs (.inl i) (.int i t)=true:=by simp [keyIs,Value.isInt]
theorem keyIs_str (x:Str) (t:Tok):keyIs (.inr x) (.str x t)=true:=by simp [keyIs,Value.isStrOf]
theorem key_ll (a b:Int):decide ((Sum.inl a:Key)=Sum.inl b)=(a == b):=by
 by_cases e:a=b
 ·subst e; simp
 ·have h:¬ (Sum.inl a:Key)=Sum.inl b:=fun q=>e (Sum.inl.inj q)
  rw [decide_eq_false h]
  exact (beq_eq_false_iff_ne.mpr e).symm
theorem key_rr (a b:Str):decide ((Sum.inr a:Key)=Sum.inr b)=decide (a=b):=by
 by_cases e:a=b
 ·subst e; simp
 ·have h:¬ (Sum.inr a:Key)=Sum.inr b:=fun q=>e (Sum.inr.inj q)
  rw [decide_eq_false h,decide_eq_false e]
theorem key_lr (a:Int) (b:Str):decide ((Sum.inl a:Key)=Sum.inr b)=false:=decide_eq_false (fun q=>nomatch q)
theorem key_rl (a:Str) (b:Int):decide ((Sum.inr a:Key)=Sum.inl b)=false:=decide_eq_false (fun q=>nomatch q)
noncomputable def mixKind (prog:Program) (w:World):PySem.KeyKind prog w Key where
 is:=keyIs
 hash:=keyH w
 inj:=fun v a b ha hb=>by
  rcases keyIs_shape ha with ⟨i,t,rfl,rfl⟩ | ⟨x,t,rfl,rfl⟩
  ·rcases keyIs_shape hb with ⟨j,u,rfl,e⟩ | ⟨y,u,rfl,e⟩
   ·injection e with e1 _; rw [e1]
   ·exact nomatch e
  ·rcases keyIs_shape hb with ⟨j,u,rfl,e⟩ | ⟨y,u,rfl,e⟩
   ·exact nomatch e
   ·injection e with e1 _; rw [e1]
 byValue:=fun k v h=>by
  rcases keyIs_shape h with ⟨i,t,rfl,rfl⟩ | ⟨x,t,rfl,rfl⟩ <;> rfl
 pyHash:=fun hv h=>by
  rcases keyIs_shape hv with ⟨i,t,rfl,rfl⟩ | ⟨x,t,rfl,rfl⟩
  ·exact wpAny_pyHash_int h
  ·exact wpAny_pyHash_str h
 eqBool:=fun hu hv h=>by
  rcases keyIs_shape hu with ⟨i,t,rfl,rfl⟩ | ⟨x,t,rfl,rfl⟩
  ·rcases keyIs_shape hv with ⟨j,u,rfl,rfl⟩ | ⟨y,u,rfl,rfl⟩
   ·rw [key_ll] at h; exact wpAny_eqBool_int h
   ·rw [key_lr] at h; exact SeqAt.EqAt.int_str i t y u _ _ _ _ h
  ·rcases keyIs_shape hv with ⟨j,u,rfl,rfl⟩ | ⟨y,u,rfl,rfl⟩
   ·rw [key_rl] at h; exact SeqAt.EqAt.str_int x t j u _ _ _ _ h
   ·rw [key_rr] at h; exact wpAny_eqBool_str h
 «strs»:=fun k x t v h=>by
  rcases keyIs_shape h with ⟨i,u,rfl,e⟩ | ⟨y,u,rfl,e⟩
  ·exact nomatch e
  ·injection e with e1 _
   subst e1
   cases v <;> rfl
theorem mixKind_int (prog:Program) (w:World) (i:Int) (t:Tok):(mixKind prog w).is (.inl i) (.int i t)=true:=keyIs_int i t
theorem mixKind_str (prog:Program) (w:World) (x:Str) (t:Tok):(mixKind prog w).is (.inr x) (.str x t)=true:=keyIs_str x t
end L2
namespace L2
open PySem PySem.Spec PyProof.Rows
inductive V where
 | non | bl (b:Bool) | int (i:Int) | str (x:Str) | byt (b:Array UInt8) | flt (b:UInt64) | ref (a:Addr) | ty (n:String)
 deriving DecidableEq
set_option genInjectivity false
set_option genSizeOf false
noncomputable def RelV:V→Value→Prop
 | .non,u=>u=Value.none
 | .bl b,u=>u=Value.bool b
 | .int i,u=>∃ t,u=Value.int i t
 | .str x,u=>∃ t,u=Value.str x t
 | .byt b,u=>∃ t,u=Value.bytes b t
 | .flt b,u=>∃ t,u=Value.float b t
 | .ref a,u=>u=Value.ref a
 | .ty n,u=>u=Value.type n
noncomputable abbrev Vals:List V→List Value→Prop:=Paired RelV
theorem Vals.length {xs:List V} {us:List Value} (r:Vals xs us):xs.length=us.length:=Paired.length r
theorem Vals.get:∀ {xs:List V} {us:List Value} {i:Nat} {x:V},Vals xs us→xs[i]?=some x→∃ u,us[i]?=some u∧RelV x u
 | _,_,_,_,.nil,e=>by simp at e
 | _,_,0,_,.cons r _,e=>by simp at e; subst e; exact ⟨_,rfl,r⟩
 | _,_,i + 1,x,.cons _ t,e=>by
  obtain ⟨u,h1,h2⟩:=Vals.get (i:=i) (x:=x) t (by simpa using e)
  exact ⟨u,by simpa using h1,h2⟩
theorem Vals.set {x:V} {u:Value} (r:RelV x u):∀ {xs:List V} {us:List Value} (i:Nat),Vals xs us→Vals (xs.set i x) (us.set i u)
 | _,_,_,.nil=>.nil
 | _,_,0,.cons _ t=>.cons r t
 | _,_,i + 1,.cons q t=>.cons q (Vals.set r i t)
theorem Vals.append:∀ {xs ys:List V} {us ws:List Value},Vals xs us→Vals ys ws→Vals (xs ++ ys) (us ++ ws)
 | _,_,_,_,.nil,s=>s
 | _,_,_,_,.cons r t,s=>.cons r (Vals.append t s)
theorem Vals.take:∀ {xs:List V} {us:List Value} (n:Nat),Vals xs us→Vals (xs.take n) (us.take n)
 | _,_,0,_=>.nil
 | _,_,_ + 1,.nil=>.nil
 | _,_,n + 1,.cons r t=>.cons r (Vals.take n t)
theorem Vals.drop:∀ {xs:List V} {us:List Value} (n:Nat),Vals xs us→Vals (xs.drop n) (us.drop n)
 | _,_,0,r=>r
 | _,_,_ + 1,.nil=>.nil
 | _,_,n + 1,.cons _ t=>Vals.drop n t
noncomputable def RelO:Option V→Option Value→Prop
 | some v,some u=>RelV v u
 | none,none=>True
 | _,_=>False
noncomputable def KV {κ:Type}:List (κ × V)→List (κ × Value)→Prop:=Paired fun (p:κ × V) (q:κ × Value)=>p.1=q.1∧RelV p.2 q.2
noncomputable def kV:Key→V
 | .inl i=>.int i
 | .inr x=>.str x
inductive HO where
 /-- a list -/
 | lst (xs:List V)
 /-- a tuple (never changes) -/
 | tup (xs:List V)
 /-- a dict whose keys are ints and texts; one whose keys are tuples of ints and texts (the empty one is both) -/
 | dK (kvs:List (Key × V)) | dT (kvs:List (List Key × V))
 /-- a set of ints: its members,its size -/
 | set (S:Int→Bool) (n:Nat)
 /-- an instance of the class at C,its dict at dx,its attributes -/
 | ins (C dx:Addr) (fs:List (Str × V))
 /-- the dict of the instance at x -/
 | own (x:Addr)
 /-- the dict of an exception -/
 | xd (fs:List (Str × V))
 /-- a bound method,f of x -/
 | met (f x:Addr)
 /-- a range object lo,lo + 1,.. below hi -/
 | rng (lo hi:Int)
 /-- a thing that is known to the object (the script; a dict while a loop walks it): read,never written while it is so -/
 | frz (o:Obj) (u:HO)
 /-- a code object's table -/
 | tbl (ps:Array Value)
 /-- any other thing,by what is true of its one object (a def of one's own: SetO a S n:=HO.ext fun h=>..) -/
 | ext (φ:Heap→Prop)
noncomputable abbrev Hp:=Addr→Option HO
noncomputable def upd (H:Hp) (a:Addr) (o:HO):Hp:=fun b=>if b=a then some o else H b
theorem upd_same {H:Hp} {a:Addr} {o:HO}:upd H a o a=some o:=by unfold upd; rw [if_pos rfl]
theorem upd_ne {H:Hp} {a b:Addr} {o:HO} (h:b≠a):upd H a o b=H b:=by unfold upd; rw [if_neg h]
theorem ne_of {H:Hp} {a b:Addr} {o u:HO} (h:H a=some o) (h':H b=some u) (d:o≠u):a≠b:=by
 intro e; subst e; rw [h] at h'; exact d (Option.some.inj h')
theorem ne_of_none {H:Hp} {a b:Addr} {o:HO} (h:H a=some o) (h':H b=none):a≠b:=by
 intro e; subst e; rw [h] at h'; cases h'
section
variable (P:Program) (w:World)
noncomputable def ObjOk (H:Hp) (h:Heap) (a:Addr):HO→Prop
 | .lst xs=>xs.length≤sizeLine∧∃ (its:List Value) (n:Nat),Vals xs its∧h.get? a=some { cls:=.type "list",data:=.seq its.toArray n }
 | .tup xs=>xs.length≤sizeLine∧∃ its:List Value,Vals xs its∧IsTup h a its.toArray
 | .dK kvs=>kvs.length≤sizeLine∧(a == sysModules)=false∧∃ vs,KV kvs vs∧h.DictOf (mixKind P w) a vs
 | .dT kvs=>kvs.length≤sizeLine∧(a == sysModules)=false∧∃ xs:List (List Key × Addr × Value),
   Paired (fun (p:List Key × V) (q:List Key × Addr × Value)=>p.1=q.1∧H q.2.1=some (.tup (p.1.map kV))∧RelV p.2 q.2.2) kvs xs ∧
   ∃ o es ep,h.get? a=some o∧o.ExactDict∧o.data=.dict es ep∧es.toList=xs.map (entryOfKey (tupleKind (mixKind P w)))∧(xs.map (·.1)).Nodup
 | .set S n=>h.SetOf (intKind P w) a S n
 | .ins C dx fs=>H dx=some (.own a)∧fs.length≤1000∧dx≠a∧h.get? a=some (PySem.W.instObj C dx) ∧
   ∃ mA,h.Ns1 dx mA∧(∀ f,RelO (fs.lookup f) (mA f))∧PySem.Within mA (fs.map (·.1))
 | .own _=>∃ o,h.get? a=some o
 | .xd fs=>∃ mA,h.Ns1 a mA∧∀ f,RelO (fs.lookup f) (mA f)
 | .rng lo hi=>∃ t u v,h.get? a=some { cls:=.type "range",data:=.fields #[.int lo t,.int hi u,.int 1 v] }
 | .frz o u=>h.get? a=some o∧ObjOk H h a u
 | .tbl ps=>h.get? a=some { cls:=.none,data:=.fields ps }
 | .met f x=>h.get? a=some (PySem.W.methodObj (.ref f) (.ref x))
 | .ext φ=>φ h∧(∃ o,h.get? a=some o)∧∀ h1 h2:Heap,φ h1→(∀ o,h1.get? a=some o→h2.get? a=some o)→φ h2
noncomputable def HOk (H:Hp) (h:Heap):Prop:=∀ a o,H a=some o→ObjOk P w H h a o
end
section
variable {P:Program} {w:World} {H H':Hp} {h h':Heap} {a:Addr} {o:HO}
theorem ObjOk.lt (x:ObjOk P w H h a o):a < h.objs.size:=by
 cases o with
 | lst xs=>obtain ⟨_,_,_,_,e⟩:=x; exact Heap.lt_size e
 | tup xs=>obtain ⟨_,_,_,p⟩:=x; exact p.lt
 | dK kvs=>obtain ⟨_,_,_,_,o,_,_,e,_⟩:=x; exact Heap.lt_size e
 | dT kvs=>obtain ⟨_,_,_,_,o,_,_,e,_⟩:=x; exact Heap.lt_size e
 | set S n=>obtain ⟨o,_,_,_,e,_⟩:=x; exact Heap.lt_size e
 | ins C dx fs=>obtain ⟨_,_,_,e,_⟩:=x; exact Heap.lt_size e
 | own y=>obtain ⟨_,e⟩:=x; exact Heap.lt_size e
 | xd fs=>obtain ⟨_,⟨_,_,_,e,_⟩,_⟩:=x; exact Heap.lt_size e
 | rng lo hi=>obtain ⟨_,_,_,e⟩:=x; exact Heap.lt_size e
 | frz ob u=>obtain ⟨e,_⟩:=x; exact Heap.lt_size e
 | tbl ps=>exact Heap.lt_size (show h.get? a=some _ from x)
 | met f y=>exact Heap.lt_size (show h.get? a=some _ from x)
 | ext φ=>obtain ⟨_,⟨_,e⟩,_⟩:=x; exact Heap.lt_size e
theorem Paired.mapP {α β:Type} {F G:α→β→Prop}:∀ {l₁:List α} {l₂:List β},Paired F l₁ l₂→(∀ a b,F a b→G a b)→Paired G l₁ l₂
 | _,_,.nil,_=>.nil
 | _,_,.cons r t,f=>.cons (f _ _ r) (Paired.mapP t f)
theorem ObjOk.stay (x:ObjOk P w H h a o) (k:∀ b u,(b=a∨H b=some (.own a))→h.get? b=some u→h'.get? b=some u)
  (ho:∀ b,H b=some (.own a)→H' b=some (.own a)) (ht:∀ b xs,H b=some (.tup xs)→H' b=some (.tup xs)):ObjOk P w H' h' a o:=by
 induction o with
 | lst xs=>obtain ⟨z,its,n,r,e⟩:=x; exact ⟨z,its,n,r,k _ _ (.inl rfl) e⟩
 | tup xs=>obtain ⟨z,its,r,ob,e,c⟩:=x; exact ⟨z,its,r,ob,k _ _ (.inl rfl) e,c⟩
 | dK kvs=>obtain ⟨z,y,vs,r,ob,es,ep,e,c⟩:=x; exact ⟨z,y,vs,r,ob,es,ep,k _ _ (.inl rfl) e,c⟩
 | dT kvs =>
  obtain ⟨z,y,xs,r,ob,es,ep,e,c⟩:=x
  exact ⟨z,y,xs,Paired.mapP r fun p q z=>⟨z.1,ht _ _ z.2.1,z.2.2⟩,ob,es,ep,k _ _ (.inl rfl) e,c⟩
 | set S n=>obtain ⟨ob,es,ep,t,e,c⟩:=x; exact ⟨ob,es,ep,t,k _ _ (.inl rfl) e,c⟩
 | ins C dx fs =>
  obtain ⟨d,z,ne,e,mA,⟨od,es,ep,e2,c⟩,r⟩:=x
  exact ⟨ho _ d,z,ne,k _ _ (.inl rfl) e,mA,⟨od,es,ep,k _ _ (.inr d) e2,c⟩,r⟩
 | own y=>obtain ⟨ob,e⟩:=x; exact ⟨ob,k _ _ (.inl rfl) e⟩
 | xd fs=>obtain ⟨mA,⟨od,es,ep,e,c⟩,r⟩:=x; exact ⟨mA,⟨od,es,ep,k _ _ (.inl rfl) e,c⟩,r⟩
 | rng lo hi=>obtain ⟨t,u,v,e⟩:=x; exact ⟨t,u,v,k _ _ (.inl rfl) e⟩
 | frz ob u ih=>obtain ⟨e,q⟩:=x; exact ⟨k _ _ (.inl rfl) e,ih q⟩
 | tbl ps =>
  have e:h.get? a=some { cls:=.none,data:=.fields ps }:=x
  show h'.get? a=some { cls:=.none,data:=.fields ps }
  exact k a _ (.inl rfl) e
 | met f y =>
  have e:h.get? a=some (PySem.W.methodObj (.ref f) (.ref y)):=x
  show h'.get? a=some (PySem.W.methodObj (.ref f) (.ref y))
  exact k a _ (.inl rfl) e
 | ext φ=>obtain ⟨p,⟨o,e⟩,st⟩:=x; exact ⟨st _ _ p fun o q=>k _ _ (.inl rfl) q,⟨o,k _ _ (.inl rfl) e⟩,st⟩
theorem HOk.lt (x:HOk P w H h) (e:H a=some o):a < h.objs.size:=(x a o e).lt
theorem HOk.fresh (x:HOk P w H h) (e:h.objs.size≤a):H a=none:=by
 cases q:H a with
 | none=>rfl
 | some u=>exact absurd (Nat.lt_of_lt_of_le (x.lt q) e) (Nat.lt_irrefl _)
theorem HOk.kept (x:HOk P w H h) (k:∀ b u,h.get? b=some u→h'.get? b=some u):HOk P w H h':=fun a o e =>
 (x a o e).stay (fun b u _ q=>k b u q) (fun _ q=>q) fun _ _ q=>q
theorem HOk.laid (x:HOk P w H h) (k:∀ b u,h.get? b=some u→h'.get? b=some u) (hp:h.objs.size≤a) (new:ObjOk P w (upd H a o) h' a o):HOk P w (upd H a o) h':=fun b u e=>by
 have hn:=x.fresh hp
 by_cases hb:b=a
 ·subst hb; rw [upd_same] at e; cases e; exact new
 ·rw [upd_ne hb] at e
  exact (x b u e).stay (fun c v _ q=>k c v q) (fun c q=>by rw [upd_ne (ne_of_none q hn)]; exact q) fun c xs q=>by rw [upd_ne (ne_of_none q hn)]; exact q
end
noncomputable def Rd (H:Hp) (a:Addr) (u:HO):Prop:=H a=some u∨∃ o,H a=some (.frz o u)
theorem Rd.ok {P:Program} {w:World} {H:Hp} {h:Heap} {a:Addr} {u:HO} (r:Rd H a u) (x:HOk P w H h):ObjOk P w H h a u:=by
 rcases r with r | ⟨o,r⟩
 ·exact x a u r
 ·obtain ⟨_,q⟩:=x a _ r
  exact q
noncomputable def Mut:Option HO→Prop
 | some (.lst _)=>True
 | some (.dK _)=>True
 | some (.dT _)=>True
 | some (.set _ _)=>True
 | some (.ins _ _ _)=>True
 | some (.ext _)=>True
 | _=>False
section
variable {P:Program} {w:World} {H:Hp} {h h':Heap} {x e:Addr} {o':HO}
theorem HOk.write (ok:HOk P w H h) (mu:Mut (H x)) (he:e=x∨H e=some (.own x)) (k:∀ b u,b≠e→h.get? b=some u→h'.get? b=some u) (heo:∃ u,h'.get? e=some u)
  (new:ObjOk P w (upd H x o') h' x o'):HOk P w (upd H x o') h':=fun b u q=>by
 have nown:∀ c y,H c=some (.own y)→c≠x:=fun c y r z=>by subst z; rw [r] at mu; exact mu
 have ntup:∀ c xs,H c=some (.tup xs)→c≠x:=fun c xs r z=>by subst z; rw [r] at mu; exact mu
 by_cases hb:b=x
 ·subst hb; rw [upd_same] at q; cases q; exact new
 ·rw [upd_ne hb] at q
  by_cases hbe:b=e
  ·have q':H b=some (.own x):=by
    rcases he with z | z
    ·exact absurd (hbe.trans z) hb
    ·rw [hbe]; exact z
   rw [q] at q'; cases q'
   obtain ⟨v,hv⟩:=heo
   exact ⟨v,by rw [hbe]; exact hv⟩
  ·refine (ok b u q).stay (fun c v hc r=>k c v ?_ r) (fun c r=>by rw [upd_ne (nown c b r)]; exact r) fun c xs r=>by rw [upd_ne (ntup c xs r)]; exact r
   rcases hc with rfl | hc
   ·exact hbe
   ·rintro rfl
    rcases he with z | z
    ·exact nown c b hc z
    ·rw [hc] at z; cases z; exact hb rfl
end
structure Un (fs ex:List Addr) (H H':Hp) (h h':Heap):Prop where
 keep:∀ b o,h.get? b=some o→H b=none→b ∉ fs→b ∉ ex→h'.get? b=some o
 slot:∀ b o,h.get? b=some o→H b=none→b∈fs→b ∉ ex→∃ sl,h'.get? b=some { o with slots:=sl }
 free:∀ b o,h.get? b=some o→H b=none→b ∉ ex→H' b=none
 there:∀ b o,h.get? b=some o→b ∉ ex→∃ o',h'.get? b=some o'
 tups:∀ b xs,H b=some (.tup xs)→H' b=some (.tup xs)
 frzs:∀ b o u,H b=some (.frz o u)→H' b=some (.frz o u)
 tbls:∀ b ps,H b=some (.tbl ps)→∃ more,H' b=some (.tbl (ps ++ more))
section
variable {fs fs' ex ex':List Addr} {H H1 H2:Hp} {h h1 h2 h':Heap} {a x e:Addr} {o:HO}
theorem Un.any (u:Un fs ex H H1 h h1) {b:Addr} {ob:Obj} (q:h.get? b=some ob) (n:H b=none) (hx:b ∉ ex):∃ sl,h1.get? b=some { ob with slots:=sl }:=by
 by_cases hb:b∈fs
 ·exact u.slot b ob q n hb hx
 ·exact ⟨ob.slots,u.keep b ob q n hb hx⟩
theorem Un.kept (k:∀ b u,h.get? b=some u→h'.get? b=some u):Un fs ex H H h h' :=
 ⟨fun b ob q _ _ _=>k b ob q,fun b ob q _ _ _=>⟨ob.slots,k b ob q⟩,fun _ _ _ n _=>n,fun b ob q _=>⟨ob,k b ob q⟩,fun _ _ q=>q,fun _ _ _ q=>q,fun _ ps q=>⟨#[],by rw [q]; simp⟩⟩
theorem Un.refl:Un fs ex H H h h:=Un.kept fun _ _ q=>q
theorem Un.laid (k:∀ b u,h.get? b=some u→h'.get? b=some u) (hp:h.objs.size≤a) (hn:H a=none):Un fs ex H (upd H a o) h h' where
 keep:=fun b u q _ _ _=>k b u q
 slot:=fun b u q _ _ _=>⟨u.slots,k b u q⟩
 free:=fun b u q n _=>by rw [upd_ne (Nat.ne_of_lt (Nat.lt_of_lt_of_le (Heap.lt_size q) hp))]; exact n
 there:=fun b u q _=>⟨u,k b u q⟩
 tups:=fun b xs q=>by rw [upd_ne (ne_of_none q hn)]; exact q
 frzs:=fun b u xs q=>by rw [upd_ne (ne_of_none q hn)]; exact q
 tbls:=fun b ps q=>⟨#[],by rw [upd_ne (ne_of_none q hn),q]; simp⟩
theorem Un.write (mu:Mut (H x)) (he:e=x∨H e=some (.own x)) (k:∀ b u,b≠e→h.get? b=some u→h'.get? b=some u) (heo:∃ u,h'.get? e=some u):Un fs ex H (upd H x o) h h':=by
 have hx:∀ b,H b=none→b≠x:=fun b n z=>by subst z; rw [n] at mu; exact mu
 have hb:∀ b,H b=none→b≠e:=fun b n z=>by
  subst z
  rcases he with r | r
  ·exact hx b n r
  ·rw [n] at r; cases r
 have hm:∀ b u,H b=some u→¬ Mut (some u)→b≠x:=fun b u q nm z=>by subst z; rw [q] at mu; exact nm mu
 refine ⟨fun b u q n _ _=>k b u (hb b n) q,fun b u q n _ _=>⟨u.slots,k b u (hb b n) q⟩,fun b u q n _=>by rw [upd_ne (hx b n)]; exact n,fun b u q _=>?_,
  fun b xs q=>by rw [upd_ne (hm b _ q fun z=>z)]; exact q,fun b u xs q=>by rw [upd_ne (hm b _ q fun z=>z)]; exact q,fun b ps q=>⟨#[],by rw [upd_ne (hm b _ q fun z=>z),q]; simp⟩⟩
 by_cases hbe:b=e
 ·subst hbe; exact heo
 ·exact ⟨u,k b u hbe q⟩
end
noncomputable def trk (h:Heap) (H:Hp):List Addr:=(List.range h.objs.size).filter fun a=>(H a).isSome
noncomputable def hidT (h:Heap) (H:Hp):Heap:=PySem.W.hideAll h (trk h H)
theorem hidT_size (h:Heap) (H:Hp):(hidT h H).objs.size=h.objs.size:=PySem.W.hideAll_size _ _
theorem hidT_get {h:Heap} {H:Hp} {b:Addr} {o:Obj} (e:h.get? b=some o) (n:H b=none):(hidT h H).get? b=some o :=
 PySem.W.hideAll_get _ e fun hm=>by
  have q:(H b).isSome=true:=(List.mem_filter.mp hm).2
  rw [n] at q; simp at q
theorem of_hidT {h:Heap} {H:Hp} {b:Addr} {o:Obj} (e:(hidT h H).get? b=some o):h.get? b=some o∧H b=none:=by
 have e':h.get? b=some o:=PySem.W.of_hideAll (trk h H) e
 refine ⟨e',?_⟩
 cases q:H b with
 | none=>rfl
 | some x =>
  have hm:b∈trk h H:=List.mem_filter.mpr ⟨List.mem_range.mpr (Heap.lt_size e'),by simp [q]⟩
  have z:(hidT h H).get? b=none:=PySem.W.hideAll_none (trk h H) hm
  rw [z] at e; cases e
noncomputable def allNews (g h:Heap) (L:Addr):List (Addr × Obj):=(List.range h.objs.size).filterMap fun a=>if a=L∨(g.get? a).isSome=true then none else (h.get? a).map fun o=>(a,o)
noncomputable def rest (g h:Heap) (L d:Addr):List (Addr × Obj):=(allNews g h L).filter fun p=>decide (p.1≠d)
end L2
namespace L2
open PySem PySem.Spec PyProof.Rows
structure Mod (K:PySem.W.Frag) (mg:Str→Option Value) (base:Heap):Prop where
 kin:K.In base
 glob:base.Ns mainGlobals mg
 blt:∃ mb,base.Ns builtinsNs mb∧∀ x:Str,x≠"__name__"→mb x=bootBuiltins x
 nolimit:base.NoLimit
structure Cx where
 prog:Program
 w:World
 K:PySem.W.Frag
 mg:Str→Option Value
 base:Heap
 A:Around
 N:List Str
 s₀:Shared
 H₀:Hp
 env:Env
 outer:List Env
 stack:List Env
 ex:List Addr
 fn:Str→Bool
 calm:Bool
 pn:List (Addr × Obj)
 xe:Value→Shared→Prop
noncomputable def frs (l:List Env):List Addr:=l.filterMap (·.frame)
noncomputable abbrev Cx.fs (X:Cx):List Addr:=frs X.outer
noncomputable def Vis (sc:Scope) (x:Str):Prop:=sc.names.lookup x=some .local∨sc.names.lookup x=some .cell∨sc.names.lookup x=some .free
noncomputable def Loc (sc:Scope) (x:Str):Prop:=sc.names.lookup x=some .local∨sc.names.lookup x=some .cell
noncomputable def Look (env:Env) (h:Heap) (m:Str→Option Value) (x:Str) (u:Value):Prop :=
 (env.kindOf x=some .local∧m x=some u)∨((env.kindOf x=some .cell∨env.kindOf x=some .free)∧∃ c,env.cells.lookup x=some c∧h.IsCell c (some u))
structure Cx.Ok (X:Cx):Prop where
 mod:Mod X.K X.mg X.base
 kind:X.env.scope.kind=.function
 glob:X.env.globals=mainGlobals
 blt:X.env.builtins=builtinsNs
 above:X.s₀.heap.objs.size≤X.env.locals
 inj:∀ x y c,X.env.cells.lookup x=some c→X.env.cells.lookup y=some c→x=y
 has:∀ x,(X.env.kindOf x=some .cell∨X.env.kindOf x=some .free)→∃ c,X.env.cells.lookup x=some c
 cab:∀ x c,X.fn x=true→X.env.cells.lookup x=some c→X.s₀.heap.objs.size≤c
 hd:X.calm=true→X.A.handled=none
 frames:X.A.frames=some X.stack
 stk:X.stack=X.outer∨(X.stack=X.env :: X.outer∧X.env.frame=some X.env.locals)
 exf:∀ b∈X.ex,b≠X.env.locals∧∀ x c,X.env.cells.lookup x=some c→c≠b
 bs:∀ b o,X.base.get? b=some o→X.s₀.heap.get? b=some o∧X.H₀ b=none
 bsz:X.base.objs.size≤X.s₀.heap.objs.size
 noex:∀ b o,X.base.get? b=some o→b ∉ X.ex
 exfs:∀ b∈X.ex,b ∉ X.fs
 funs:X.s₀.heap.FunFrames X.base X.outer
 frf:∀ b∈X.fs,X.H₀ b=none
structure Inv (X:Cx) (pins:List (Addr × Obj)) (σ:List (Option V)) (H:Hp) (s:Shared):Prop where
 ok:X.Ok
 os:s.os=X.s₀.os
 bare:AllBare s.gens
 base:Un X.fs X.ex X.H₀ H X.s₀.heap s.heap
 loc:∃ m,s.heap.Ns X.env.locals m∧∀ (i:Nat) (x:Str) (v:V),X.N[i]?=some x→σ[i]?=some (some v)→Vis X.env.scope x→∃ u,RelV v u∧Look X.env s.heap m x u
 cell:∀ x c,X.env.cells.lookup x=some c→∃ v,s.heap.IsCell c v
 free:H X.env.locals=none
 freeC:∀ x c,X.env.cells.lookup x=some c→H c=none
 pin:∀ p∈X.pn ++ pins,s.heap.get? p.1=some p.2∧H p.1=none∧p.1≠X.env.locals∧p.1 ∉ X.fs∧∀ v,p.2.data≠.cell v
 hok:HOk X.prog X.w H s.heap
 len:σ.length=X.N.length
section
variable {X:Cx} {pins:List (Addr × Obj)} {σ:List (Option V)} {H H':Hp} {s:Shared} {h':Heap}
theorem Cx.Ok.nofr (ok:X.Ok) {b:Addr} {o:Obj} (e:X.base.get? b=some o):b ∉ X.fs:=fun hb=>by
 have:=(ok.funs.mem hb).1
 rw [e] at this; cases this
theorem Inv.bs (I:Inv X pins σ H s):∀ b o,X.base.get? b=some o→s.heap.get? b=some o∧H b=none:=fun b o e =>
 ⟨I.base.keep b o (I.ok.bs b o e).1 (I.ok.bs b o e).2 (I.ok.nofr e) (I.ok.noex b o e),I.base.free b o (I.ok.bs b o e).1 (I.ok.bs b o e).2 (I.ok.noex b o e)⟩
theorem Inv.bk (I:Inv X pins σ H s):∀ b o,X.base.get? b=some o→s.heap.get? b=some o:=fun b o e=>(I.bs b o e).1
theorem Inv.mod (I:Inv X pins σ H s):Mod X.K X.mg X.base:=I.ok.mod
theorem Inv.kIn (I:Inv X pins σ H s):X.K.In s.heap:=I.ok.mod.kin.keeps I.bk
theorem Inv.lt (I:Inv X pins σ H s):X.env.locals < s.heap.objs.size:=let ⟨_,hn,_⟩:=I.loc; hn.lt
theorem Inv.sz (I:Inv X pins σ H s):X.s₀.heap.objs.size≤s.heap.objs.size:=Nat.le_trans I.ok.above (Nat.le_of_lt I.lt)
theorem Inv.nofs (I:Inv X pins σ H s) {a:Addr} (h:s.heap.objs.size≤a):a ∉ X.fs:=fun hb=>by
 obtain ⟨_,o,ho,_⟩:=I.ok.funs.mem hb
 exact absurd (Nat.lt_of_lt_of_le (Heap.lt_size ho) (Nat.le_trans I.sz h)) (Nat.lt_irrefl _)
theorem Inv.cne (I:Inv X pins σ H s):∀ x c,X.env.cells.lookup x=some c→c≠X.env.locals:=fun x c e z=>by
 obtain ⟨v,o,ho,hd⟩:=I.cell x c e
 obtain ⟨m,⟨o',es,ep,ho',hd',_⟩,_⟩:=I.loc
 rw [z,ho'] at ho; cases ho; rw [hd'] at hd; cases hd
theorem Inv.funs (I:Inv X pins σ H s):s.heap.FunFrames X.base X.outer:=by
 have all:∀ (l:List Env),(∀ b∈frs l,b∈X.fs)→X.s₀.heap.FunFrames X.base l→s.heap.FunFrames X.base l:=by
  intro l
  induction l with
  | nil=>intro _ _; trivial
  | cons env r ih =>
   intro hs hl
   obtain ⟨hk,⟨L,o,hf,hn,ho,hd⟩,hr⟩:=hl
   have hL:L∈X.fs:=hs L (by unfold frs; rw [List.filterMap_cons,hf]; exact List.mem_cons_self)
   obtain ⟨sl,e⟩:=I.base.slot L o ho (I.ok.frf L hL) hL fun z=>I.ok.exfs L z hL
   exact ⟨hk,⟨L,_,hf,hn,e,hd⟩,ih (fun b hb=>hs b (by unfold frs; rw [List.filterMap_cons,hf]; exact List.mem_cons_of_mem _ hb)) hr⟩
 exact all X.outer (fun _ hb=>hb) I.ok.funs
theorem Inv.stack (I:Inv X pins σ H s):s.heap.FunFrames X.base X.stack:=by
 rcases I.ok.stk with e | ⟨e,hf⟩
 ·rw [e]; exact I.funs
 ·rw [e]
  obtain ⟨m,hn,_⟩:=I.loc
  refine .cons (by rw [I.ok.kind]; decide) hf hn ?_ I.funs
  exact Heap.get?_none_of_le (Nat.le_trans I.ok.bsz I.ok.above)
theorem Inv.stkSub (I:Inv X pins σ H s):∀ b∈frs X.stack,b∈X.env.locals :: X.fs:=fun b hb=>by
 rcases I.ok.stk with e | ⟨e,hf⟩
 ·rw [e] at hb; exact List.mem_cons_of_mem _ hb
 ·rw [e] at hb
  unfold frs at hb
  rw [List.filterMap_cons,hf] at hb
  exact hb
theorem Inv.stkFree (I:Inv X pins σ H s):∀ b∈frs X.stack,H b=none:=fun b hb=>by
 rcases List.mem_cons.mp (I.stkSub b hb) with e | hb
 ·rw [e]; exact I.free
 ·obtain ⟨_,o,ho,_⟩:=I.ok.funs.mem hb
  exact I.base.free b o ho (I.ok.frf b hb) fun z=>I.ok.exfs b z hb
theorem Inv.step {g':Array GenState} {t':Nat} {d':Drawn} {ch:List Addr} (I:Inv X pins σ H s)
  (hch:∀ b∈ch,(b∈X.ex∨X.s₀.heap.objs.size≤b)∧b≠X.env.locals∧(∀ x c,X.env.cells.lookup x=some c→c≠b)∧∀ p∈X.pn ++ pins,p.1≠b)
  (keep:∀ b o,b≠X.env.locals→b ∉ X.fs→b ∉ ch→s.heap.get? b=some o→H b=none→h'.get? b=some o)
  (slot:∀ b o,b≠X.env.locals→b∈X.fs→b ∉ ch→s.heap.get? b=some o→H b=none→∃ sl,h'.get? b=some { o with slots:=sl }) (free:∀ b o,b ∉ ch→s.heap.get? b=some o→H b=none→H' b=none)
  (there:∀ b o,b ∉ ch→s.heap.get? b=some o→∃ o',h'.get? b=some o')
  (tups:∀ b xs,H b=some (.tup xs)→H' b=some (.tup xs)) (frzs:∀ b o u,H b=some (.frz o u)→H' b=some (.frz o u)) (tbls:∀ b ps,H b=some (.tbl ps)→∃ more,H' b=some (.tbl (ps ++ more)))
  (ns:∀ m,s.heap.Ns X.env.locals m→h'.Ns X.env.locals m) (hok:HOk X.prog X.w H' h') (hg:AllBare g') :
  Inv X pins σ H' { s with heap:=h',gens:=g',drawn:=d',toks:=t' }:=by
 have neL:∀ b o,X.s₀.heap.get? b=some o→b≠X.env.locals:=fun b o e=>Nat.ne_of_lt (Nat.lt_of_lt_of_le (Heap.lt_size e) I.ok.above)
 have neC:∀ b o,X.s₀.heap.get? b=some o→b ∉ X.ex→b ∉ ch:=fun b o e hx hb=>by
  rcases (hch b hb).1 with z | z
  ·exact hx z
  ·exact absurd (Nat.lt_of_lt_of_le (Heap.lt_size e) z) (Nat.lt_irrefl _)
 have cellK:∀ x c,X.env.cells.lookup x=some c→∀ v,s.heap.IsCell c v→h'.IsCell c v:=fun x c e v ⟨o,ho,hd⟩=>by
  have nch:c ∉ ch:=fun z=>(hch c z).2.2.1 x c e rfl
  by_cases hc:c∈X.fs
  ·obtain ⟨sl,q⟩:=slot c o (I.cne x c e) hc nch ho (I.freeC x c e)
   exact ⟨_,q,hd⟩
  ·exact ⟨o,keep c o (I.cne x c e) hc nch ho (I.freeC x c e),hd⟩
 refine ⟨I.ok,I.os,hg,⟨fun b o e n hb hx=>?_,fun b o e n hb hx=>?_,fun b o e n hx=>?_,fun b o e hx=>?_,fun b xs e=>tups b xs (I.base.tups b xs e),fun b o xs e=>frzs b o xs (I.base.frzs b o xs e),fun b ps e=>?_⟩,?_,fun x c e=>?_,?_,fun x c e=>?_,fun p hp=>?_,hok,I.len⟩
 ·exact keep b o (neL b o e) hb (neC b o e hx) (I.base.keep b o e n hb hx) (I.base.free b o e n hx)
 ·obtain ⟨sl,e1⟩:=I.base.slot b o e n hb hx
  obtain ⟨sl',e2⟩:=slot b _ (neL b o e) hb (neC b o e hx) e1 (I.base.free b o e n hx)
  exact ⟨sl',e2⟩
 ·obtain ⟨o',e1⟩:=I.base.there b o e hx
  exact free b o' (neC b o e hx) e1 (I.base.free b o e n hx)
 ·obtain ⟨o',e1⟩:=I.base.there b o e hx
  exact there b o' (neC b o e hx) e1
 ·obtain ⟨m1,e1⟩:=I.base.tbls b ps e
  obtain ⟨m2,e2⟩:=tbls b _ e1
  exact ⟨m1 ++ m2,by rw [e2,Array.append_assoc]⟩
 ·obtain ⟨m,hn,hl⟩:=I.loc
  refine ⟨m,ns m hn,fun i x v e1 e2 e3=>?_⟩
  obtain ⟨u,r,l⟩:=hl i x v e1 e2 e3
  refine ⟨u,r,?_⟩
  rcases l with l | ⟨k,c,e,z⟩
  ·exact .inl l
  ·exact .inr ⟨k,c,e,cellK x c e _ z⟩
 ·obtain ⟨v,z⟩:=I.cell x c e
  exact ⟨v,cellK x c e v z⟩
 ·obtain ⟨m,⟨o,_,_,ho,_⟩,_⟩:=I.loc
  exact free _ o (fun z=>(hch _ z).2.1 rfl) ho I.free
 ·obtain ⟨v,o,ho,hd⟩:=I.cell x c e
  exact free c o (fun z=>(hch c z).2.2.1 x c e rfl) ho (I.freeC x c e)
 ·obtain ⟨e,n,ne,nf,d⟩:=I.pin p hp
  have nch:p.1 ∉ ch:=fun z=>(hch p.1 z).2.2.2 p hp rfl
  exact ⟨keep p.1 p.2 ne nf nch e n,free p.1 p.2 nch e n,ne,nf,d⟩
theorem Inv.un {t':Nat} (I:Inv X pins σ H s) (u:Un X.fs [] H H' s.heap h') (hok:HOk X.prog X.w H' h'):Inv X pins σ H' { s with heap:=h',toks:=t' }:=by
 obtain ⟨m,⟨o,es,ep,ho,r⟩,_⟩:=id I.loc
 obtain ⟨sl,hL⟩:=u.any ho I.free (by simp)
 exact I.step (g':=s.gens) (d':=s.drawn) (ch:=[]) (fun _ z=>nomatch z) (fun b o _ hb _ e n=>u.keep b o e n hb (by simp)) (fun b o _ hb _ e n=>u.slot b o e n hb (by simp)) (fun b o _ e n=>u.free b o e n (by simp)) (fun b o _ e=>u.there b o e (by simp)) u.tups u.frzs u.tbls (fun m' hm=>by
  obtain ⟨o',es',ep',ho',r'⟩:=hm
  rw [ho] at ho'; cases ho'
  exact ⟨_,es',ep',hL,r'⟩) hok I.bare
theorem Inv.call {g':Array GenState} {t':Nat} {d':Drawn} {ch:List Addr} (I:Inv X pins σ H s) (u:Un (frs X.stack) ch H H' s.heap h') (hok:HOk X.prog X.w H' h') (hg:AllBare g')
  (hch:∀ b∈ch,(b∈X.ex∨X.s₀.heap.objs.size≤b)∧b≠X.env.locals∧(∀ x c,X.env.cells.lookup x=some c→c≠b)∧∀ p∈X.pn ++ pins,p.1≠b) :
  Inv X pins σ H' { s with heap:=h',gens:=g',drawn:=d',toks:=t' }:=by
 obtain ⟨m,⟨o,es,ep,ho,r⟩,_⟩:=id I.loc
 obtain ⟨sl,hL⟩:=u.any ho I.free fun z=>(hch _ z).2.1 rfl
 exact I.step (ch:=ch) hch (fun b o hL hb hc e n=>u.keep b o e n (fun z=>(List.mem_cons.mp (I.stkSub b z)).elim hL hb) hc) (fun b o _ _ hc e n=>u.any e n hc) (fun b o hc e n=>u.free b o e n hc) (fun b o hc e=>u.there b o e hc) u.tups u.frzs u.tbls (fun m' hm=>by
  obtain ⟨o',es',ep',ho',r'⟩:=hm
  rw [ho] at ho'; cases ho'
  exact ⟨_,es',ep',hL,r'⟩) hok hg
theorem Inv.turned {t':Nat} {it:Addr} (I:Inv X pins σ H s) (k:∀ b o,b≠it→s.heap.get? b=some o→h'.get? b=some o) (hn:H it=none) (hL:it≠X.env.locals)
  (h1:it∈X.ex∨X.s₀.heap.objs.size≤it) (h2:∀ x c,X.env.cells.lookup x=some c→c≠it) (h3:∀ p∈X.pn ++ pins,p.1≠it):Inv X pins σ H { s with heap:=h',toks:=t' }:=by
 have nit:∀ b u,H b=some u→b≠it:=fun b u e z=>by rw [z,hn] at e; cases e
 refine I.step (g':=s.gens) (d':=s.drawn) (ch:=[it]) (fun b hb=>?_) (fun b o _ _ hc e _=>k b o (fun z=>hc (by simp [z])) e) (fun b o _ _ hc e _=>⟨o.slots,k b o (fun z=>hc (by simp [z])) e⟩) (fun _ _ _ _ n=>n)
  (fun b o hc e=>⟨o,k b o (fun z=>hc (by simp [z])) e⟩) (fun _ _ e=>e) (fun _ _ _ e=>e) (fun b ps e=>⟨#[],by rw [e]; simp⟩) (fun m hm=>?_) (fun b u e=>?_) I.bare
 ·have e:b=it:=by simpa using hb
  subst e
  exact ⟨h1,hL,h2,h3⟩
 ·obtain ⟨o,es,ep,ho,r⟩:=hm
  exact ⟨o,es,ep,k _ o (Ne.symm hL) ho,r⟩
 ·refine (I.hok b u e).stay (fun c v hc q=>k c v ?_ q) (fun _ q=>q) fun _ _ q=>q
  rcases hc with z | z
  ·rw [z]; exact nit b u e
  ·exact nit c _ z
theorem Inv.tok (I:Inv X pins σ H s) (t:Nat):Inv X pins σ H { s with toks:=t }:=I.un (h':=s.heap) (t':=t) Un.refl I.hok
theorem Inv.kept {t':Nat} (I:Inv X pins σ H s) (k:∀ b u,s.heap.get? b=some u→h'.get? b=some u):Inv X pins σ H { s with heap:=h',toks:=t' }:=I.un (Un.kept k) (I.hok.kept k)
theorem Inv.laid {a:Addr} {o:HO} {t':Nat} (I:Inv X pins σ H s) (k:∀ b u,s.heap.get? b=some u→h'.get? b=some u) (hp:s.heap.objs.size≤a) (new:ObjOk X.prog X.w (upd H a o) h' a o) :
  Inv X pins σ (upd H a o) { s with heap:=h',toks:=t' }:=I.un (Un.laid k hp (I.hok.fresh hp)) (I.hok.laid k hp new)
theorem Inv.write {x e:Addr} {o:HO} {t':Nat} (I:Inv X pins σ H s) (mu:Mut (H x)) (he:e=x∨H e=some (.own x)) (k:∀ b u,b≠e→s.heap.get? b=some u→h'.get? b=some u) (heo:∃ u,h'.get? e=some u)
  (new:ObjOk X.prog X.w (upd H x o) h' x o):Inv X pins σ (upd H x o) { s with heap:=h',toks:=t' }:=I.un (Un.write mu he k heo) (I.hok.write mu he k heo new)
theorem Inv.pins_of {pins':List (Addr × Obj)} (I:Inv X pins σ H s) (h:∀ p∈pins',s.heap.get? p.1=some p.2∧H p.1=none∧p.1≠X.env.locals∧p.1 ∉ X.fs∧∀ v,p.2.data≠.cell v):Inv X pins' σ H s :=
 ⟨I.ok,I.os,I.bare,I.base,I.loc,I.cell,I.free,I.freeC,fun p hp=>(List.mem_append.mp hp).elim (fun z=>I.pin p (List.mem_append_left _ z)) (h p),I.hok,I.len⟩
theorem nodup_ix {N:List Str} (hN:N.Nodup) {i j:Nat} {x:Str} (a:N[i]?=some x) (b:N[j]?=some x):i=j:=by
 obtain ⟨h1,e1⟩:=List.getElem?_eq_some_iff.mp a
 obtain ⟨h2,e2⟩:=List.getElem?_eq_some_iff.mp b
 exact (List.getElem_inj hN).mp (e1.trans e2.symm)
theorem store_ok2 {M:Model} {A:Around} {E:Value→Shared→Prop} {i:Nat} {x:Str} {v:V} {u:Value} {Q:Unit→Shared→Prop} (I:Inv X pins σ H s) (hN:X.N.Nodup) (hi:X.N[i]?=some x) (hx:Loc X.env.scope x) (r:RelV v u)
  (h:∀ s',Inv X pins (σ.set i (some v)) H s'→(∃ a,Heap.SameBut a s.heap s'.heap∧(a=X.env.locals∨X.env.cells.lookup x=some a))→Q () s') (hf:X.fn x=true∨X.env.scope.names.lookup x=some .local:=by first | exact .inl rfl | exact .inr rfl | assumption):wpAny M A (storeName X.env x u) Q E s:=by
 obtain ⟨m,hn,hl⟩:=id I.loc
 have hcls:(X.env.scope.kind == .class || (X.env.scope.kind == .module && X.env.locals != X.env.globals))=false:=by rw [I.ok.kind]; rfl
 have hiσ:i < σ.length:=by rw [I.len]; exact (List.getElem?_eq_some_iff.mp hi).1
 have cne:=I.cne
 have tracked:∀ {a:Addr} {h':Heap},(∃ o,s.heap.get? a=some o∧H a=none)→Heap.SameBut a s.heap h'→HOk X.prog X.w H h':=fun {a h'} ha hs b ob e=>by
  obtain ⟨_,_,hfree⟩:=ha
  refine (I.hok b ob e).stay (fun c w' hc q=>(hs.2 c ?_).trans q) (fun _ q=>q) fun _ _ q=>q
  rintro rfl
  rcases hc with rfl | hc
  ·rw [hfree] at e; cases e
  ·rw [hfree] at hc; cases hc
 rcases hx with hk | hk
 ·refine wpAny_storeName_local hk hn (fun h' hn' hs=>?_) hcls
  obtain ⟨oL,_,_,hoL,_⟩:=id hn
  refine h _ ⟨I.ok,I.os,I.bare,⟨fun b o e n hb hx=>?_,fun b o e n hb hx=>?_,I.base.free,fun b o e hx=>?_,I.base.tups,I.base.frzs,I.base.tbls⟩,⟨_,hn',fun j y v' e1 e2 e3=>?_⟩,fun y c e=>?_,I.free,I.freeC,fun p hp=>?_,tracked ⟨oL,hoL,I.free⟩ hs,by simpa using I.len⟩ ⟨_,hs,.inl rfl⟩
  ·exact (hs.2 b (Nat.ne_of_lt (Nat.lt_of_lt_of_le (Heap.lt_size e) I.ok.above))).trans (I.base.keep b o e n hb hx)
  ·obtain ⟨sl,e1⟩:=I.base.slot b o e n hb hx
   exact ⟨sl,(hs.2 b (Nat.ne_of_lt (Nat.lt_of_lt_of_le (Heap.lt_size e) I.ok.above))).trans e1⟩
  ·obtain ⟨o',e1⟩:=I.base.there b o e hx
   exact ⟨o',(hs.2 b (Nat.ne_of_lt (Nat.lt_of_lt_of_le (Heap.lt_size e) I.ok.above))).trans e1⟩
  ·by_cases hj:j=i
   ·subst hj
    rw [hi] at e1; cases e1
    rw [List.getElem?_set_self hiσ] at e2
    cases e2
    exact ⟨u,r,.inl ⟨hk,by simp⟩⟩
   ·rw [List.getElem?_set_ne (Ne.symm hj)] at e2
    obtain ⟨u',r',q⟩:=hl j y v' e1 e2 e3
    refine ⟨u',r',?_⟩
    rcases q with ⟨k,e⟩ | ⟨k,c,e,z⟩
    ·refine .inl ⟨k,?_⟩
     have:y≠x:=fun e=>hj (nodup_ix hN e1 (e ▸ hi))
     simp [this,e]
    ·exact .inr ⟨k,c,e,z.sameBut hs (cne y c e)⟩
  ·obtain ⟨w',z⟩:=I.cell y c e
   exact ⟨w',z.sameBut hs (cne y c e)⟩
  ·obtain ⟨e,n,ne,nf,d⟩:=I.pin p hp
   exact ⟨(hs.2 p.1 ne).trans e,n,ne,nf,d⟩
 ·have hfn:X.fn x=true:=by
   rcases hf with z | z
   ·exact z
   ·rw [z] at hk; cases hk
  obtain ⟨c,hc⟩:=I.ok.has x (.inl hk)
  obtain ⟨w',z⟩:=I.cell x c hc
  refine wpAny_storeName_cell I.ok.kind hk hc z (fun h' hc' hs=>?_)
  obtain ⟨oc,hoc,hocd⟩:=id z
  refine h { s with heap:=h' } ⟨I.ok,I.os,I.bare,⟨fun b o e n hb hx=>?_,fun b o e n hb hx=>?_,I.base.free,fun b o e hx=>?_,I.base.tups,I.base.frzs,I.base.tbls⟩,⟨m,hn.sameBut hs (Ne.symm (cne x c hc)),fun j y v' e1 e2 e3=>?_⟩,fun y c' e=>?_,I.free,I.freeC,fun p hp=>?_,tracked ⟨oc,hoc,I.freeC x c hc⟩ hs,by simpa using I.len⟩ ⟨c,hs,.inr hc⟩
  ·exact (hs.2 b (Nat.ne_of_lt (Nat.lt_of_lt_of_le (Heap.lt_size e) (I.ok.cab x c hfn hc)))).trans (I.base.keep b o e n hb hx)
  ·obtain ⟨sl,e1⟩:=I.base.slot b o e n hb hx
   exact ⟨sl,(hs.2 b (Nat.ne_of_lt (Nat.lt_of_lt_of_le (Heap.lt_size e) (I.ok.cab x c hfn hc)))).trans e1⟩
  ·obtain ⟨o',e1⟩:=I.base.there b o e hx
   exact ⟨o',(hs.2 b (Nat.ne_of_lt (Nat.lt_of_lt_of_le (Heap.lt_size e) (I.ok.cab x c hfn hc)))).trans e1⟩
  ·by_cases hj:j=i
   ·subst hj
    rw [hi] at e1; cases e1
    rw [List.getElem?_set_self hiσ] at e2
    cases e2
    exact ⟨u,r,.inr ⟨.inl hk,c,hc,hc'⟩⟩
   ·rw [List.getElem?_set_ne (Ne.symm hj)] at e2
    obtain ⟨u',r',q⟩:=hl j y v' e1 e2 e3
    refine ⟨u',r',?_⟩
    rcases q with q | ⟨k,c',e,z'⟩
    ·exact .inl q
    ·refine .inr ⟨k,c',e,z'.sameBut hs ?_⟩
     rintro rfl
     exact hj (nodup_ix hN e1 (I.ok.inj _ _ _ e hc ▸ hi))
  ·by_cases hcc:c'=c
   ·subst hcc; exact ⟨_,hc'⟩
   ·obtain ⟨w2,z2⟩:=I.cell y c' e
    exact ⟨w2,z2.sameBut hs hcc⟩
  ·obtain ⟨e,n,ne,nf,d⟩:=I.pin p hp
   refine ⟨(hs.2 p.1 ?_).trans e,n,ne,nf,d⟩
   intro q
   rw [q,hoc] at e
   have q':oc=p.2:=Option.some.inj e
   exact d w' (by rw [← q']; exact hocd)
theorem store_ok {M:Model} {A:Around} {E:Value→Shared→Prop} {i:Nat} {x:Str} {v:V} {u:Value} {Q:Unit→Shared→Prop} (I:Inv X pins σ H s) (hN:X.N.Nodup) (hi:X.N[i]?=some x) (hx:Loc X.env.scope x) (r:RelV v u)
  (h:∀ s',Inv X pins (σ.set i (some v)) H s'→Q () s') (hf:X.fn x=true∨X.env.scope.names.lookup x=some .local:=by first | exact .inl rfl | exact .inr rfl | assumption):wpAny M A (storeName X.env x u) Q E s :=
 store_ok2 I hN hi hx r (fun s' I' _=>h s' I') hf
theorem Inv.call' {s':Shared} {ch:List Addr} (I:Inv X pins σ H s) (ho:s'.os=s.os) (u:Un (frs X.stack) ch H H' s.heap s'.heap) (hok:HOk X.prog X.w H' s'.heap) (hg:AllBare s'.gens)
  (hch:∀ b∈ch,(b∈X.ex∨X.s₀.heap.objs.size≤b)∧b≠X.env.locals∧(∀ x c,X.env.cells.lookup x=some c→c≠b)∧∀ p∈X.pn ++ pins,p.1≠b):Inv X pins σ H' s':=by
 obtain ⟨h',g',d',t',o'⟩:=s'
 have e:o'=s.os:=ho
 subst e
 exact I.call (g':=g') (t':=t') (d':=d') u hok hg hch
end
noncomputable abbrev XK:=Value→Option Addr→Hp→Prop
noncomputable abbrev St:=List (Option V)
noncomputable abbrev VK:=V→Hp→Prop
noncomputable abbrev TE:=St→Hp→VK→Prop
noncomputable abbrev TT:=St→Hp→(Bool→Hp→Prop)→Prop
noncomputable abbrev TA:=St→Hp→(List V→Hp→Prop)→Prop
structure Ends where
 nx:St→Hp→Prop
 rt:VK
 bk:St→Hp→Prop:=fun _ _=>False
 ct:St→Hp→Prop:=fun _ _=>False
noncomputable abbrev TS:=Ends→St→Hp→Prop
noncomputable def EP (X:Cx) (pins:List (Addr × Obj)) (σ:St) (Q:VK) (u:Value) (s':Shared):Prop:=∃ v H',Inv X pins σ H' s'∧RelV v u∧Q v H'
noncomputable def TP (X:Cx) (pins:List (Addr × Obj)) (σ:St) (Q:Bool→Hp→Prop) (b:Bool) (s':Shared):Prop:=∃ H',Inv X pins σ H' s'∧Q b H'
noncomputable def AP (X:Cx) (pins:List (Addr × Obj)) (σ:St) (Q:List V→Hp→Prop) (us:List Value) (s':Shared):Prop:=∃ vs H',Inv X pins σ H' s'∧Vals vs us∧Q vs H'
noncomputable def SP (X:Cx) (pins:List (Addr × Obj)) (D:Ends) (f:Flow) (s':Shared):Prop :=
 match f with
 | .next=>∃ σ' H',Inv X pins σ' H' s'∧D.nx σ' H'
 | .brk=>∃ σ' H',Inv X pins σ' H' s'∧D.bk σ' H'
 | .cont=>∃ σ' H',Inv X pins σ' H' s'∧D.ct σ' H'
 | .ret u=>∃ v σ' H',Inv X pins σ' H' s'∧RelV v u∧D.rt v H'
noncomputable def PE (X:Cx) (e:Expr) (t:TE):Prop :=
 ∀ (pins:List (Addr × Obj)) (s:Shared) (σ:St) (H:Hp) (Q:VK),Inv X pins σ H s→t σ H Q→wpAny (model X.prog X.w) X.A (eval e X.env) (EP X pins σ Q) X.xe s
noncomputable def PT (X:Cx) (e:Expr) (t:TT):Prop :=
 ∀ (pins:List (Addr × Obj)) (s:Shared) (σ:St) (H:Hp) (Q:Bool→Hp→Prop),Inv X pins σ H s→t σ H Q→wpAny (model X.prog X.w) X.A (isTrue e X.env (eval e X.env)) (TP X pins σ Q) X.xe s
noncomputable def PW (X:Cx) (e:Expr) (t:TT):Prop :=
 ∀ (whole:Sem Value) (pins:List (Addr × Obj)) (s:Shared) (σ:St) (H:Hp) (Q:Bool→Hp→Prop),Inv X pins σ H s→t σ H Q→wpAny (model X.prog X.w) X.A (isTrue e X.env whole) (TP X pins σ Q) X.xe s
theorem PW.pt {X:Cx} {e:Expr} {t:TT} (h:PW X e t):PT X e t:=h _
noncomputable def PA (X:Cx) (es:List Expr) (t:TA):Prop :=
 ∀ (pos:Pos) (pins:List (Addr × Obj)) (s:Shared) (σ:St) (H:Hp) (Q:List V→Hp→Prop),Inv X pins σ H s→t σ H Q→wpAny (model X.prog X.w) X.A (spliced (backTo pos (starEach es X.env))) (AP X pins σ Q) X.xe s
noncomputable def PS (X:Cx) (st:Stmt) (t:TS):Prop :=
 ∀ (pins:List (Addr × Obj)) (s:Shared) (σ:St) (H:Hp) (D:Ends),Inv X pins σ H s→t D σ H→wpAny (model X.prog X.w) X.A (exec st X.env) (SP X pins D) X.xe s
noncomputable def PSs (X:Cx) (st:List Stmt) (t:TS):Prop :=
 ∀ (pins:List (Addr × Obj)) (s:Shared) (σ:St) (H:Hp) (D:Ends),Inv X pins σ H s→t D σ H→wpAny (model X.prog X.w) X.A (execs st X.env) (SP X pins D) X.xe s
theorem thn {α:Type} {t:Sem α} {Q Q':α→Shared→Prop} {M:Model} {A:Around} {E:Value→Shared→Prop} {s:Shared} (h:wpAny M A t Q E s) (hQ:∀ a s,Q a s→Q' a s):wpAny M A t Q' E s:=wpAny_mono h hQ fun _ _ x=>x
end L2
namespace L2
open PySem PySem.Spec PyProof.Rows
section
variable {X:Cx}
noncomputable def tVar (i:Nat):TE:=fun σ H Q=>∃ v,σ[i]?=some (some v)∧Q v H
noncomputable def tC (v:V):TE:=fun _ H Q=>Q v H
theorem pe_var {i:Nat} {x:Str} {pos:Pos} (hN:X.N[i]?=some x) (hv:Vis X.env.scope x) (hd:(x == ("__debug__":Str))=false:=by decide) (hcd:(x == ("__classdict__":Str))=false:=by decide):PE X (.Name x pos) (tVar i):=by
 intro pins s σ H Q I h
 obtain ⟨v,e,h⟩:=h
 obtain ⟨m,hn,hl⟩:=I.loc
 obtain ⟨u,r,l⟩:=hl i x v hN e hv
 have fin:EP X pins σ Q u s:=⟨v,H,I,r,h⟩
 rcases l with ⟨hk,hm⟩ | ⟨hk,c,hc,hcell⟩
 ·exact wpAny_Name (wpAny_loadName_local I.ok.kind hk hn hm fin) hd
 ·rcases hk with hk | hk
  ·exact wpAny_Name (wpAny_loadName_cell I.ok.kind hk hc hcell fin) hd
  ·exact wpAny_Name (wpAny_loadName_free I.ok.kind hk hc hcell fin hcd) hd
theorem pe_int {i j pos}:PE X (.Constant (.int i) j pos) (tC (.int i)):=fun _ _ _ H _ I h=>wpAny_Constant_int ⟨.int i,H,I.tok _,⟨_,rfl⟩,h⟩
theorem pe_bl {b j pos}:PE X (.Constant (.bool b) j pos) (tC (.bl b)):=fun _ _ _ H _ I h=>Constant_bool ⟨.bl b,H,I,rfl,h⟩
theorem pe_non {j pos}:PE X (.Constant .none j pos) (tC .non):=fun _ _ _ H _ I h=>Constant_none ⟨.non,H,I,rfl,h⟩
theorem pe_str {x j pos}:PE X (.Constant (.str x) j pos) (tC (.str x)):=fun _ _ _ H _ I h=>Calls.Constant_str ⟨.str x,H,I.tok _,⟨_,rfl⟩,h⟩
noncomputable def Gl (X:Cx) (x:Str):Prop:=X.env.kindOf x=some .globalImplicit
theorem ld_glob {E:Value→Shared→Prop} {pins:List (Addr × Obj)} {s:Shared} {σ:St} {H:Hp} {x:Str} {u:Value} {pos:Pos} {Q:Value→Shared→Prop} (I:Inv X pins σ H s) (hg:Gl X x) (hm:X.mg x=some u) (h:Q u s)
  (hd:(x == ("__debug__":Str))=false:=by decide):wpAny (model X.prog X.w) X.A (eval (.Name x pos) X.env) Q E s :=
 Calls.Name_function_global I.ok.kind hg (Calls.loadGlobal_global (by rw [I.ok.glob]; exact I.mod.glob.keeps I.bk) hm h) hd
theorem ld_blt {E:Value→Shared→Prop} {pins:List (Addr × Obj)} {s:Shared} {σ:St} {H:Hp} {x:Str} {u:Value} {pos:Pos} {Q:Value→Shared→Prop} (I:Inv X pins σ H s) (hg:Gl X x) (hm:X.mg x=none) (hv:bootBuiltins x=some u) (h:Q u s)
  (hn:x≠"__name__":=by decide) (hd:(x == ("__debug__":Str))=false:=by decide):wpAny (model X.prog X.w) X.A (eval (.Name x pos) X.env) Q E s:=by
 obtain ⟨mb,h1,h2⟩:=I.mod.blt
 exact Calls.Name_function_global I.ok.kind hg (Calls.loadGlobal_builtin (by rw [I.ok.glob]; exact I.mod.glob.keeps I.bk) hm (by rw [I.ok.blt]; exact h1.keeps I.bk) ((h2 x hn).trans hv) h) hd
theorem pe_glob {x:Str} {v:V} {u:Value} {pos:Pos} (hg:Gl X x) (hm:X.mg x=some u) (r:RelV v u) (hd:(x == ("__debug__":Str))=false:=by decide):PE X (.Name x pos) (tC v) :=
 fun _ _ _ H _ I h=>ld_glob I hg hm ⟨v,H,I,r,h⟩ hd
variable {a b:Expr} {ta tb:TE} {pos:Pos}
noncomputable def PC (X:Cx) (op:CmpOp) (a b:Expr) (t:TE):Prop :=
 ∀ (pins:List (Addr × Obj)) (s:Shared) (σ:St) (H:Hp) (Q:VK),Inv X pins σ H s→t σ H Q →
  wpAny (model X.prog X.w) X.A (eval a X.env) (fun v s₁=>wpAny (model X.prog X.w) X.A (eval b X.env) (fun u s₂=>wpAny (model X.prog X.w) X.A (compareOp op v u) (EP X pins σ Q) X.xe s₂) X.xe s₁) X.xe s
noncomputable def tB (t:TE):TT:=fun σ H Q=>t σ H fun x H1=>∃ c,x=.bl c∧Q c H1
theorem pt_cmp {op:CmpOp} {t:TE} (h:PC X op a b t) (h1:behindInMarks op b=false:=by first | exact nobehind _ (by decide) (by decide) | rfl):PT X (.Compare a [op] [b] pos) (tB t):=by
 intro pins s σ H Q I hw
 refine wpAny_isTrue_Compare1 (thn (h pins s σ H _ I hw) fun v s1 h1=>thn h1 fun u s2 h2=>thn h2 fun c s3 zz0=>?_) h1
 obtain ⟨x,H1,I1,r1,q1⟩:=zz0
 obtain ⟨d,rfl,q⟩:=q1
 cases r1
 exact wpAny_truthy_bool ⟨H1,I1,q⟩
theorem pt_val {e:Expr} {t:TE} (h:PE X e t) (he:∀ whole,isTrue e X.env whole=(do let v ← whole; standAt e.pos; holding [v] (truthy v)):=by intro _; rfl):PT X e (tB t):=by
 intro pins s σ H Q I hw
 refine isTrue_plain (thn (h pins s σ H _ I hw) fun v s1 zz1=>?_) (he _)
 obtain ⟨x,H1,I1,r1,q1⟩:=zz1
 obtain ⟨d,rfl,q⟩:=q1
 cases r1
 exact wpAny_truthy_bool ⟨H1,I1,q⟩
variable {tA tB':TT} {rest:List Expr}
noncomputable def tAnd (t u:TT):TT:=fun σ H Q=>t σ H fun c H1=>if c=true then u σ H1 Q else Q false H1
noncomputable def tOr (t u:TT):TT:=fun σ H Q=>t σ H fun c H1=>if c=true then Q true H1 else u σ H1 Q
noncomputable def tNot (t:TT):TT:=fun σ H Q=>t σ H fun c H1=>Q (!c) H1
theorem pw_and1 (ha:PT X a tA):PW X (.BoolOp .And [a] pos) tA:=by
 intro wh pins s σ H Q I h
 refine isTrue_and (thn (ha pins s σ H Q I h) fun c s1 e=>?_)
 cases c with
 | true=>exact isTrue_and_nil e
 | false=>exact e
theorem pw_or1 (ha:PT X a tA):PW X (.BoolOp .Or [a] pos) tA:=by
 intro wh pins s σ H Q I h
 refine isTrue_or (thn (ha pins s σ H Q I h) fun c s1 e=>?_)
 cases c with
 | false=>exact isTrue_or_nil e
 | true=>exact e
theorem pw_and (ha:PT X a tA) (hb:PW X (.BoolOp .And (b :: rest) pos) tB'):PW X (.BoolOp .And (a :: b :: rest) pos) (tAnd tA tB'):=by
 intro wh pins s σ H Q I h
 refine isTrue_and (thn (ha pins s σ H _ I h) fun c s1 zz9=>?_)
 obtain ⟨H1,I1,q1⟩:=zz9
 cases c with
 | true=>exact hb wh pins s1 σ H1 Q I1 q1
 | false=>exact ⟨H1,I1,q1⟩
theorem pw_or (ha:PT X a tA) (hb:PW X (.BoolOp .Or (b :: rest) pos) tB'):PW X (.BoolOp .Or (a :: b :: rest) pos) (tOr tA tB'):=by
 intro wh pins s σ H Q I h
 refine isTrue_or (thn (ha pins s σ H _ I h) fun c s1 zz9=>?_)
 obtain ⟨H1,I1,q1⟩:=zz9
 cases c with
 | true=>exact ⟨H1,I1,q1⟩
 | false=>exact hb wh pins s1 σ H1 Q I1 q1
theorem pt_not (ha:PT X a tA):PT X (.UnaryOp .Not a pos) (tNot tA):=by
 intro pins s σ H Q I h
 exact isTrue_not (ha pins s σ H (fun c H1=>Q (!c) H1) I h)
noncomputable def tAndV (ta tb:TE):TE:=fun σ H Q=>ta σ H fun x H1=>∃ c,x=.bl c∧if c=true then tb σ H1 Q else Q (.bl false) H1
noncomputable def tOrV (ta tb:TE):TE:=fun σ H Q=>ta σ H fun x H1=>∃ c,x=.bl c∧if c=true then Q (.bl true) H1 else tb σ H1 Q
theorem pe_one {op} {t:TE} (h:PE X a t):PE X (.BoolOp op [a] pos) t:=fun pins s σ H Q I hw=>BoolOp_one (h pins s σ H Q I hw)
theorem pe_and (ha:PE X a ta) (hb:PE X (.BoolOp .And (b :: rest) pos) tb):PE X (.BoolOp .And (a :: b :: rest) pos) (tAndV ta tb):=by
 intro pins s σ H Q I h
 refine BoolOp_and (thn (ha pins s σ H _ I h) fun v s1 zz9=>?_)
 obtain ⟨x,H1,I1,r1,q1⟩:=zz9
 obtain ⟨c,rfl,q1⟩:=q1
 cases r1
 refine wpAny_truthy_bool ?_
 cases c with
 | true=>exact hb pins s1 σ H1 Q I1 q1
 | false=>exact ⟨.bl false,H1,I1,rfl,q1⟩
theorem pe_or (ha:PE X a ta) (hb:PE X (.BoolOp .Or (b :: rest) pos) tb):PE X (.BoolOp .Or (a :: b :: rest) pos) (tOrV ta tb):=by
 intro pins s σ H Q I h
 refine BoolOp_or (thn (ha pins s σ H _ I h) fun v s1 zz9=>?_)
 obtain ⟨x,H1,I1,r1,q1⟩:=zz9
 obtain ⟨c,rfl,q1⟩:=q1
 cases r1
 refine wpAny_truthy_bool ?_
 cases c with
 | false=>exact hb pins s1 σ H1 Q I1 q1
 | true=>exact ⟨.bl true,H1,I1,rfl,q1⟩
noncomputable def tIf (t:TT) (ta tb:TE):TE:=fun σ H Q=>t σ H fun c H1=>if c=true then ta σ H1 Q else tb σ H1 Q
theorem pe_ifExp {c:Expr} (hc:PT X c tA) (ha:PE X a ta) (hb:PE X b tb):PE X (.IfExp c a b pos) (tIf tA ta tb):=by
 intro pins s σ H Q I h
 refine wpAny_IfExp (thn (hc pins s σ H _ I h) fun d s1 zz9=>?_)
 obtain ⟨H1,I1,q1⟩:=zz9
 cases d with
 | true=>exact ha pins s1 σ H1 Q I1 q1
 | false=>exact hb pins s1 σ H1 Q I1 q1
end
end L2
namespace L2
open PySem PySem.Spec PyProof.Rows
noncomputable def SqL (K:PySem.W.Frag) (H:Hp) (a:Addr) (xs:List V):Prop :=
 Rd H a (.lst xs) ∨
  ∃ (o:Obj) (its:Array Value) (n:Nat),K.lookup a=some o∧o.cls=.type "list"∧o.dict=none∧o.data=.seq its n∧its.size≤sizeLine∧Vals xs its.toList
noncomputable def SqT (K:PySem.W.Frag) (H:Hp) (a:Addr) (xs:List V):Prop :=
 Rd H a (.tup xs) ∨
  ∃ (o:Obj) (its:Array Value) (n:Nat),K.lookup a=some o∧o.cls=.type "tuple"∧o.data=.seq its n∧its.size≤sizeLine∧Vals xs its.toList
noncomputable def absV:Value→Option V
 | .none=>some .non
 | .bool b=>some (.bl b)
 | .int i _=>some (.int i)
 | .str x _=>some (.str x)
 | .bytes b _=>some (.byt b)
 | .float b _=>some (.flt b)
 | .ref a=>some (.ref a)
 | .type n=>some (.ty n)
 | _=>none
theorem RelV.abs {x:V} {u:Value} (r:RelV x u):absV u=some x:=by
 cases x with
 | non=>cases r; rfl
 | bl _=>cases r; rfl
 | int _=>obtain ⟨t,rfl⟩:=r; rfl
 | str _=>obtain ⟨t,rfl⟩:=r; rfl
 | byt _=>obtain ⟨t,rfl⟩:=r; rfl
 | flt _=>obtain ⟨t,rfl⟩:=r; rfl
 | ref _=>cases r; rfl
 | ty _=>cases r; rfl
theorem RelV.inj {x y:V} {u:Value} (r:RelV x u) (q:RelV y u):x=y:=Option.some.inj (r.abs.symm.trans q.abs)
theorem Vals.inj:∀ {xs ys:List V} {us:List Value},Vals xs us→Vals ys us→xs=ys
 | _,_,_,.nil,.nil=>rfl
 | _,_,_,.cons r t,.cons r' t'=>by rw [r.inj r',Vals.inj t t']
section
variable {X:Cx} {pins:List (Addr × Obj)} {σ:St} {H:Hp} {s:Shared} {a:Addr} {xs ys:List V}
theorem SqL.of {K:PySem.W.Frag} (h:H a=some (.lst xs)):SqL K H a xs:=.inl (.inl h)
theorem SqT.of {K:PySem.W.Frag} (h:H a=some (.tup xs)):SqT K H a xs:=.inl (.inl h)
theorem Inv.list (I:Inv X pins σ H s) (h:SqL X.K H a xs):∃ its:List Value,Vals xs its∧PlainL s.heap a its.toArray∧xs.length≤sizeLine:=by
 rcases h with h | ⟨o,its,n,hk,hc,hd,hs,hz,r⟩
 ·obtain ⟨z,its,n,r,e⟩:=h.ok I.hok
  exact ⟨its,r,⟨_,n,e,rfl,rfl,rfl⟩,z⟩
 ·refine ⟨its.toList,r,⟨o,n,I.kIn a o hk,hc,hd,by simpa using hs⟩,?_⟩
  have e:=r.length
  simp only [Array.length_toList] at e
  omega
theorem Inv.tuple (I:Inv X pins σ H s) (h:SqT X.K H a xs):∃ its:List Value,Vals xs its∧IsTup s.heap a its.toArray∧xs.length≤sizeLine:=by
 rcases h with h | ⟨o,its,n,hk,hc,hs,hz,r⟩
 ·obtain ⟨z,its,r,p⟩:=h.ok I.hok
  exact ⟨its,r,p,z⟩
 ·refine ⟨its.toList,r,⟨o,I.kIn a o hk,hc,n,by simpa using hs⟩,?_⟩
  have e:=r.length
  simp only [Array.length_toList] at e
  omega
theorem Inv.list_inj (I:Inv X pins σ H s) (h:SqL X.K H a xs) (h':SqL X.K H a ys):xs=ys:=by
 obtain ⟨its,r,⟨o,n,e,_,_,d⟩,_⟩:=I.list h
 obtain ⟨its',r',⟨o',n',e',_,_,d'⟩,_⟩:=I.list h'
 rw [e] at e'; cases e'
 rw [d] at d'
 injection d' with d1 _
 have:its=its':=by simpa using congrArg Array.toList d1
 subst this
 exact r.inj r'
theorem Inv.tuple_inj (I:Inv X pins σ H s) (h:SqT X.K H a xs) (h':SqT X.K H a ys):xs=ys:=by
 obtain ⟨its,r,⟨o,e,_,n,d⟩,_⟩:=I.tuple h
 obtain ⟨its',r',⟨o',e',_,n',d'⟩,_⟩:=I.tuple h'
 rw [e] at e'; cases e'
 rw [d] at d'
 injection d' with d1 _
 have:its=its':=by simpa using congrArg Array.toList d1
 subst this
 exact r.inj r'
end
noncomputable abbrev Cx.wish (X:Cx) (E:Value→Shared→Prop):Cx:={ X with xe:=E }
noncomputable abbrev Cx.nox (X:Cx):Cx:=X.wish fun _ _=>False
theorem Cx.Ok.wish {X:Cx} (ok:X.Ok) (E:Value→Shared→Prop):(X.wish E).Ok :=
 ⟨ok.mod,ok.kind,ok.glob,ok.blt,ok.above,ok.inj,ok.has,ok.cab,ok.hd,ok.frames,ok.stk,ok.exf,ok.bs,ok.bsz,ok.noex,ok.exfs,ok.funs,ok.frf⟩
theorem Cx.Ok.unwish {X:Cx} {E:Value→Shared→Prop} (ok:(X.wish E).Ok):X.Ok :=
 ⟨ok.mod,ok.kind,ok.glob,ok.blt,ok.above,ok.inj,ok.has,ok.cab,ok.hd,ok.frames,ok.stk,ok.exf,ok.bs,ok.bsz,ok.noex,ok.exfs,ok.funs,ok.frf⟩
section
variable {X:Cx} {pins:List (Addr × Obj)} {σ:St} {H:Hp} {s:Shared} {E:Value→Shared→Prop}
theorem Inv.wish (I:Inv X pins σ H s) (E:Value→Shared→Prop):Inv (X.wish E) pins σ H s:=⟨I.ok.wish E,I.os,I.bare,I.base,I.loc,I.cell,I.free,I.freeC,I.pin,I.hok,I.len⟩
theorem Inv.unwish (I:Inv (X.wish E) pins σ H s):Inv X pins σ H s:=⟨I.ok.unwish,I.os,I.bare,I.base,I.loc,I.cell,I.free,I.freeC,I.pin,I.hok,I.len⟩
theorem SP.unwish {D:Ends} {f:Flow} {s':Shared} (h:SP (X.wish E) pins D f s'):SP X pins D f s':=by
 cases f with
 | next=>obtain ⟨σ',H',I,q⟩:=h; exact ⟨σ',H',I.unwish,q⟩
 | brk=>obtain ⟨σ',H',I,q⟩:=h; exact ⟨σ',H',I.unwish,q⟩
 | cont=>obtain ⟨σ',H',I,q⟩:=h; exact ⟨σ',H',I.unwish,q⟩
 | ret u=>obtain ⟨v,σ',H',I,r,q⟩:=h; exact ⟨v,σ',H',I.unwish,r,q⟩
theorem PSs.nox {st:List Stmt} {t:TS} (h:PSs X.nox st t):PSs X st t:=fun pins s σ H D I hw =>
 wpAny_mono (h pins s σ H D (I.wish _) hw) (fun _ _ q=>q.unwish) fun _ _ z=>False.elim z
end
section
variable {X:Cx} {st:Stmt} {rest:List Stmt} {t u:TS} {e:Expr} {te:TE} {pos:Pos}
noncomputable def tNext:TS:=fun D σ H=>D.nx σ H
noncomputable def tSeq (t u:TS):TS:=fun D σ H=>t { D with nx:=u D } σ H
theorem pss_nil:PSs X [] tNext:=fun _ _ σ H _ I h=>wpAny_execs_nil ⟨σ,H,I,h⟩
theorem pss_cons (h1:PS X st t) (h2:PSs X rest u):PSs X (st :: rest) (tSeq t u):=by
 intro pins s σ H D I h
 refine wpAny_execs_cons (thn (h1 pins s σ H { D with nx:=u D } I h) fun f s1 q=>?_)
 cases f with
 | next =>
  obtain ⟨σ',H',I',q⟩:=q
  exact h2 pins s1 σ' H' D I' q
 | ret v=>exact q
 | brk=>exact q
 | cont=>exact q
theorem pss_one (h1:PS X st t):PSs X [st] t:=by
 intro pins s σ H D I h
 refine wpAny_execs_cons (thn (h1 pins s σ H D I h) fun f s1 q=>?_)
 cases f with
 | next=>exact wpAny_execs_nil q
 | ret v=>exact q
 | brk=>exact q
 | cont=>exact q
noncomputable def tBreak:TS:=fun D σ H=>D.bk σ H
theorem ps_break:PS X (.Break pos) tBreak:=fun _ _ σ H _ I h=>wpAny_Break ⟨σ,H,I,h⟩
theorem Inv.quiet {pins:List (Addr × Obj)} {σ:St} {H:Hp} {s:Shared} (I:Inv X pins σ H s):interactive X.env=false:=by simp [interactive,I.ok.kind]
noncomputable def tDrop (te:TE):TS:=fun D σ H=>te σ H fun _ H1=>D.nx σ H1
theorem ps_expr (he:PE X e te) (hs:swapsWith e none pos.line X.env=pure false:=by rfl):PS X (.Expr e pos) (tDrop te):=by
 intro pins s σ H D I h
 refine wpAny_Expr_any (thn (he pins s σ H _ I h) fun v s1 zz2=>?_) I.quiet hs
 obtain ⟨x,H1,I1,r1,q1⟩:=zz2
 exact ⟨σ,H1,I1,q1⟩
noncomputable def tRet (te:TE):TS:=fun D σ H=>te σ H D.rt
theorem ps_ret (he:PE X e te):PS X (.Return (some e) pos) (tRet te):=by
 intro pins s σ H D I h
 refine wpAny_Return_some (thn (he pins s σ H _ I h) fun v s1 zz3=>?_)
 obtain ⟨x,H1,I1,r1,q1⟩:=zz3
 exact ⟨x,σ,H1,I1,r1,q1⟩
noncomputable def tIfS (c:TT) (t u:TS):TS:=fun D σ H=>c σ H fun b H1=>if b=true then t D σ H1 else u D σ H1
theorem ps_if {c:Expr} {a b:List Stmt} {tc:TT} (hc:PT X c tc) (ha:PSs X a t) (hb:PSs X b u):PS X (.If c a b pos) (tIfS tc t u):=by
 intro pins s σ H D I h
 refine wpAny_If (thn (hc pins s σ H _ I h) fun d s1 zz9=>?_)
 obtain ⟨H1,I1,q1⟩:=zz9
 cases d with
 | true=>exact ha pins s1 σ H1 D I1 q1
 | false=>exact hb pins s1 σ H1 D I1 q1
noncomputable def tNever:TS:=fun _ _ _=>False
theorem pss_never {sts:List Stmt}:PSs X sts tNever:=fun _ _ _ _ _ _ h=>h.elim
end
noncomputable abbrev TG:=V→St→Hp→(St→Hp→Prop)→Prop
noncomputable abbrev TGs:=List V→St→Hp→(St→Hp→Prop)→Prop
noncomputable def PG (X:Cx) (target:Expr) (t:TG):Prop :=
 ∀ (pins:List (Addr × Obj)) (s:Shared) (σ:St) (H:Hp) (v:V) (u:Value) (Q:St→Hp→Prop),Inv X pins σ H s→RelV v u→t v σ H Q →
  wpAny (model X.prog X.w) X.A (assign target X.env u) (fun _ s'=>∃ σ' H',Inv X pins σ' H' s'∧Q σ' H') X.xe s
noncomputable def PGs (X:Cx) (ts:List Expr) (t:TGs):Prop :=
 ∀ (pins:List (Addr × Obj)) (s:Shared) (σ:St) (H:Hp) (vs:List V) (us:List Value) (Q:St→Hp→Prop),Inv X pins σ H s→Vals vs us→t vs σ H Q →
  wpAny (model X.prog X.w) X.A (assignInOrder ((assignEach ts X.env).map (·.2)) us) (fun _ s'=>∃ σ' H',Inv X pins σ' H' s'∧Q σ' H') X.xe s
noncomputable abbrev TSet:=V→V→V→Hp→(Hp→Prop)→Prop
noncomputable def PSet (X:Cx) (t:TSet):Prop :=
 ∀ (pins:List (Addr × Obj)) (s:Shared) (σ:St) (H:Hp) (o i v:V) (ov iv u:Value) (Q:Hp→Prop),Inv X pins σ H s→RelV o ov→RelV i iv→RelV v u→t o i v H Q →
  wpAny (model X.prog X.w) X.A (setItem ov iv u) (fun _ s'=>∃ H',Inv X pins σ H' s'∧Q H') X.xe s
noncomputable abbrev TIp:=V→V→Hp→VK→Prop
noncomputable def PIp (X:Cx) (op:Operator) (t:TIp):Prop :=
 ∀ (pins:List (Addr × Obj)) (s:Shared) (σ:St) (H:Hp) (x y:V) (v u:Value) (Q:VK),Inv X pins σ H s→RelV x v→RelV y u→t x y H Q →
  wpAny (model X.prog X.w) X.A (inplaceOp op v u) (EP X pins σ Q) X.xe s
section
variable {X:Cx} {pos:Pos}
noncomputable def gName (i:Nat):TG:=fun v σ H Q=>Q (σ.set i (some v)) H
theorem pg_name {i:Nat} {x:Str} (hN:X.N.Nodup) (hi:X.N[i]?=some x) (hx:Loc X.env.scope x) (hf:X.fn x=true∨X.env.scope.names.lookup x=some .local:=by first | exact .inl rfl | exact .inr rfl | assumption):PG X (.Name x pos) (gName i):=by
 intro pins s σ H v u Q I r h
 exact wpAny_assign_Name (store_ok I hN hi hx r (fun s' I'=>⟨_,H,I',h⟩) hf)
noncomputable def gNil:TGs:=fun vs σ H Q=>vs=[]∧Q σ H
noncomputable def gCons (t:TG) (u:TGs):TGs:=fun vs σ H Q=>∃ v r,vs=v :: r∧t v σ H fun σ' H'=>u r σ' H' Q
theorem pgs_nil:PGs X [] gNil:=by
 intro pins s σ H vs us Q I r h
 obtain ⟨e,h⟩:=h
 subst e
 cases r
 exact assignInOrder_nil ⟨σ,H,I,h⟩
theorem pgs_cons {e:Expr} {es:List Expr} {t:TG} {u:TGs} (h1:PG X e t) (h2:PGs X es u)
  (hs:(assignEach (e :: es) X.env).map (·.2)=assign e X.env :: (assignEach es X.env).map (·.2):=by rfl):PGs X (e :: es) (gCons t u):=by
 intro pins s σ H vs us Q I r h
 obtain ⟨v,vr,e1,h⟩:=h
 subst e1
 cases r with
 | cons r rr =>
  rw [hs]
  refine assignInOrder_cons (thn (h1 pins s σ H _ _ _ I r h) fun _ s1 zz9=>?_)
  obtain ⟨σ1,H1,I1,q1⟩:=zz9
  exact h2 pins s1 σ1 H1 _ _ Q I1 rr q1
noncomputable def gTup (K:PySem.W.Frag) (n:Nat) (t:TGs):TG:=fun v σ H Q=>∃ a xs,v=.ref a∧SqT K H a xs∧xs.length=n∧t xs σ H Q
theorem pg_tup {es:List Expr} {k:Nat} {t:TGs} {n:Nat} (hc:X.calm=true) (h:PGs X es t)
  (hn:(assignEach es X.env).length=n:=by rfl) (hst:(assignEach es X.env).findIdx? (·.1)=none:=by rfl):PG X (.Tuple es k pos) (gTup X.K n t):=by
 intro pins s σ H v u Q I r hw
 obtain ⟨a,xs,e1,hq,hl,hw⟩:=hw
 subst e1
 cases r
 obtain ⟨its,rv,ht,hz⟩:=I.tuple hq
 refine assign_Tuple_tuple (I.ok.hd hc) ht (by simp [hn,← hl,rv.length]) hst fun h' hx=>?_
 have I1:Inv X pins σ H { s with heap:=h' }:=I.kept (t':=s.toks) fun b o e=>hx b o (Nat.ne_of_lt (Heap.lt_size e)) e
 exact h pins _ σ H xs _ Q I1 (by simpa using rv) hw
noncomputable def gSub (to ti:TE) (t:TSet):TG:=fun v σ H Q=>to σ H fun o H1=>ti σ H1 fun i H2=>t o i v H2 fun H3=>Q σ H3
theorem pg_sub {o i:Expr} {to ti:TE} {t:TSet} (ho:PE X o to) (hi:PE X i ti) (hs:PSet X t)
  (ha:∀ v,assign (.Subscript o i pos) X.env v=(do
   let ov ← holding [v] (eval o X.env)
   let iv ← holding [v,ov] (eval i X.env)
   standAt pos
   holding [v,ov,iv] (setItem ov iv v)
   release [v,ov,iv] []):=by intro _; rfl):PG X (.Subscript o i pos) (gSub to ti t):=by
 intro pins s σ H v u Q I r h
 rw [ha]
 refine wpAny_bind (wpAny_holding (thn (ho pins s σ H _ I h) fun ov s1 zz9=>?_))
 obtain ⟨x,H1,I1,r1,q1⟩:=zz9
 refine wpAny_bind (wpAny_holding (thn (hi pins s1 σ H1 _ I1 q1) fun iv s2 zz9=>?_))
 obtain ⟨y,H2,I2,r2,q2⟩:=zz9
 refine wpAny_bind (wpAny_standAt (wpAny_bind (wpAny_holding (thn (hs pins s2 σ H2 x y v ov iv u _ I2 r1 r2 r q2) fun _ s3 zz9=>?_))))
 obtain ⟨H3,I3,q3⟩:=zz9
 exact wpAny_release ⟨σ,H3,I3,q3⟩
noncomputable def tAsg (te:TE) (g:TG):TS:=fun D σ H=>te σ H fun x H1=>g x σ H1 D.nx
theorem ps_asg {tg e:Expr} {te:TE} {g:TG} (he:PE X e te) (hg:PG X tg g) (hs:swapsWithSole [tg] e pos.line X.env=pure false:=by rfl) (hw:swappedStores [tg] e X.env=pure none:=by rfl)
  (h1:(assignEach [tg] X.env).map (·.2)=[assign tg X.env]:=by rfl):PS X (.Assign [tg] e pos) (tAsg te g):=by
 intro pins s σ H D I h
 refine wpAny_Assign_stores (thn (he pins s σ H _ I h) fun v s1 zz4=>?_) hs hw
 obtain ⟨x,H1,I1,r1,q1⟩:=zz4
 rw [h1]
 exact thn (hg pins s1 σ H1 x v _ I1 r1 q1) fun _ s2 q=>q
theorem ps_set {i:Nat} {x:Str} {e:Expr} {te:TE} {pos':Pos} (hN:X.N.Nodup) (hi:X.N[i]?=some x) (hx:Loc X.env.scope x) (he:PE X e te) (hs:swapsWith e (some (.Name x pos')) pos.line X.env=pure false:=by rfl) (hf:X.fn x=true∨X.env.scope.names.lookup x=some .local:=by first | exact .inl rfl | exact .inr rfl | assumption) :
  PS X (.Assign [.Name x pos'] e pos) (tAsg te (gName i)):=by
 intro pins s σ H D I h
 refine wpAny_Assign_Name (thn (he pins s σ H _ I h) fun v s1 zz5=>?_) hs
 obtain ⟨y,H1,I1,r1,q1⟩:=zz5
 exact store_ok I1 hN hi hx r1 (fun s2 I2=>⟨_,H1,I2,q1⟩) hf
noncomputable def tPar (i j:Nat) (ta:TA):TS:=fun D σ H=>ta σ H fun vs H1=>∃ v w,vs=[v,w]∧D.nx ((σ.set i (some v)).set j (some w)) H1
theorem ps_par {i j:Nat} {x y:Str} {a b:Expr} {ta:TA} {px py pt:Pos} {kt k2 pt2} (hc:X.calm=true) (hN:X.N.Nodup) (hi:X.N[i]?=some x) (hj:X.N[j]?=some y) (hij:i≠j)
  (hx:X.env.scope.names.lookup x=some .local) (hy:X.env.scope.names.lookup y=some .local) (ha:PA X [a,b] ta)
  (hw:swappedStores [.Tuple [.Name x px,.Name y py] kt pt] (.Tuple [a,b] k2 pt2) X.env=pure (some [x,y]))
  (hs:swapsWithSole [.Tuple [.Name x px,.Name y py] kt pt] (.Tuple [a,b] k2 pt2) pos.line X.env=pure false:=by rfl) :
  PS X (.Assign [.Tuple [.Name x px,.Name y py] kt pt] (.Tuple [a,b] k2 pt2) pos) (tPar i j ta):=by
 intro pins s σ H D I h
 rw [exec_Assign_arm]
 refine wpAny_bind (wpAny_standAt ?_)
 rw [hs]
 refine wpAny_bind (wpAny_pure ?_)
 rw [if_neg (by decide)]
 refine wpAny_bind (Tuple_ (thn (ha _ pins s σ H _ I h) fun us s1 zz9=>?_))
 obtain ⟨vs,H1,I1,r1,q1⟩:=zz9
 obtain ⟨v,w,e1,q1⟩:=q1
 subst e1
 obtain ⟨u1,u2,rfl,rv,rw'⟩:∃ u1 u2,us=[u1,u2]∧RelV v u1∧RelV w u2:=by
  cases r1 with
  | cons p q =>
   cases q with
   | cons p' q' =>
    cases q'
    exact ⟨_,_,rfl,p,p'⟩
 refine wpAny_newObj_type ?_ (by show 2≤sizeLine; decide)
 have I2:Inv X pins σ H1 { s1 with heap:=s1.heap.push { cls:=.type "tuple",data:=.seq [u1,u2].toArray } }:=I1.kept (t':=s1.toks) fun b o e=>Heap.get?_push_of_some _ e
 rw [hw]
 refine wpAny_bind (wpAny_pure ?_)
 show wpAny (model X.prog X.w) X.A (do rule "assign.swapped-stores"; let items ← unpackItems (.ref s1.heap.objs.size) 2 none; assignInOrder [fun v=>bindName X.env y v,fun v=>bindName X.env x v] items.reverse; pure Flow.next) _ _ _
 refine wpAny_bind (wpAny_rule (wpAny_bind (unpackItems_tuple (items:=#[u1,u2]) (I.ok.hd hc) (IsTup.new s1.heap _) fun h' hx'=>?_)))
 have I3:=I2.kept (h':=h') (t':=s1.toks) fun b o e=>hx' b o (Nat.ne_of_lt (Heap.lt_size e)) e
 show wpAny _ _ (assignInOrder [fun v=>bindName X.env y v,fun v=>bindName X.env x v] [u2,u1] >>= fun _=>pure Flow.next) _ _ _
 refine wpAny_bind (assignInOrder_cons (wpAny_bindName (store_ok I3 hN hj (.inl hy) rw' (fun s2 I4=>?_) (.inr hy))))
 refine assignInOrder_cons (wpAny_bindName (store_ok I4 hN hi (.inl hx) rv (fun s3 I5=>assignInOrder_nil (wpAny_pure ?_)) (.inr hx)))
 rw [List.set_comm _ _ (Ne.symm hij)] at I5
 exact ⟨_,H1,I5,q1⟩
noncomputable def tAug (i:Nat) (te:TE) (ti:TIp):TS:=fun D σ H=>∃ x,σ[i]?=some (some x)∧te σ H fun y H1=>ti x y H1 fun z H2=>D.nx (σ.set i (some z)) H2
theorem ps_aug {i:Nat} {x:Str} {e:Expr} {te:TE} {op:Operator} {ti:TIp} {pos':Pos} (hN:X.N.Nodup) (hi:X.N[i]?=some x) (hx:Loc X.env.scope x) (he:PE X e te) (ho:PIp X op ti) (hf:X.fn x=true∨X.env.scope.names.lookup x=some .local:=by first | exact .inl rfl | exact .inr rfl | assumption) :
  PS X (.AugAssign (.Name x pos') op e pos) (tAug i te ti):=by
 intro pins s σ H D I h
 obtain ⟨v,e1,h⟩:=h
 obtain ⟨m,hn,hl⟩:=I.loc
 have vis:Vis X.env.scope x:=by rcases hx with k | k; exact .inl k; exact .inr (.inl k)
 obtain ⟨u,r,l⟩:=hl i x v hi e1 vis
 refine wpAny_AugAssign_Name ?_
 have go:wpAny (model X.prog X.w) X.A (eval e X.env) (fun w s₂=>wpAny (model X.prog X.w) X.A (inplaceOp op u w) (fun r s₃=>wpAny (model X.prog X.w) X.A (storeName X.env x r) (fun _=>SP X pins D .next) X.xe s₃) X.xe s₂) X.xe s:=by
  refine thn (he pins s σ H _ I h) fun w s1 zz9=>?_
  obtain ⟨y,H1,I1,r1,q1⟩:=zz9
  refine thn (ho pins s1 σ H1 v y u w _ I1 r r1 q1) fun z s2 zz9=>?_
  obtain ⟨zv,H2,I2,r2,q2⟩:=zz9
  exact store_ok I2 hN hi hx r2 (fun s3 I3=>⟨_,H2,I3,q2⟩) hf
 rcases l with ⟨hk,hm⟩ | ⟨hk,c,hc,hcell⟩
 ·exact wpAny_loadName_local I.ok.kind hk hn hm go
 ·rcases hk with hk | hk
  ·exact wpAny_loadName_cell I.ok.kind hk hc hcell go
  ·rcases hx with k | k
   ·have:X.env.scope.names.lookup x=some .free:=hk
    rw [k] at this; cases this
   ·have:X.env.scope.names.lookup x=some .free:=hk
    rw [k] at this; cases this
end
section
variable {X:Cx} {pos:Pos}
noncomputable def tWhile (c:TT) (tb:TS):TS:=fun D σ H=>∃ W:Nat→St→Hp→Prop,(∃ m,W m σ H)∧∀ m σ H,W m σ H →
 c σ H fun b H1=>if b=true then ∃ N:St→Hp→Prop,(∀ σ' H',N σ' H'→∃ m',m' < m∧W m' σ' H')∧tb { D with nx:=N,ct:=N,bk:=D.nx } σ H1 else D.nx σ H1
theorem ps_while {c:Expr} {body:List Stmt} {tc:TT} {tb:TS} (hp:PassesOwn (model X.prog X.w) X.A X.env X.xe) (hc:PT X c tc) (hb:PSs X body tb):PS X (.While c body [] pos) (tWhile tc tb):=by
 intro pins s σ H D I h
 obtain ⟨W,⟨m0,w0⟩,turn⟩:=h
 refine wpAny_While (codeAny_whileLoop (fun n s'=>∃ σ' H',Inv X pins σ' H' s'∧W n σ' H') ?_ m0 ⟨σ,H,I,w0⟩)
 rintro n s1 ⟨σ1,H1,I1,w1⟩
 refine wpAny_passesOwn hp (thn (hc pins s1 σ1 H1 _ I1 (turn n σ1 H1 w1)) fun b s2 zz9=>?_)
 obtain ⟨H2,I2,q2⟩:=zz9
 cases b with
 | true =>
  obtain ⟨N,hN,q2⟩:=q2
  rw [if_pos rfl]
  refine wpAny_passesOwn hp (thn (hb pins s2 σ1 H2 _ I2 q2) fun f s3 q3=>?_)
  cases f with
  | next =>
   obtain ⟨σ3,H3,I3,n3⟩:=q3
   obtain ⟨m',hm,w3⟩:=hN σ3 H3 n3
   exact ⟨m',hm,σ3,H3,I3,w3⟩
  | cont =>
   obtain ⟨σ3,H3,I3,n3⟩:=q3
   obtain ⟨m',hm,w3⟩:=hN σ3 H3 n3
   exact ⟨m',hm,σ3,H3,I3,w3⟩
  | brk=>exact q3
  | ret v=>exact q3
 | false =>
  rw [if_neg Bool.false_ne_true]
  exact wpAny_execs_nil ⟨σ1,H2,I2,q2⟩
end
structure It where
 go:Nat→Hp→Prop
 yld:Nat→Hp→V→Hp→Prop
 stop:Nat→Hp→Prop
noncomputable def FpOk (X:Cx) (pins:List (Addr × Obj)) (H:Hp) (b:Addr):Prop :=
 H b=none∧b≠X.env.locals∧b ∉ X.fs∧(b∈X.ex∨X.s₀.heap.objs.size≤b)∧(∀ x c,X.env.cells.lookup x=some c→c≠b)∧∀ p∈X.pn ++ pins,p.1≠b
theorem Inv.fpOk {X:Cx} {pins:List (Addr × Obj)} {σ:St} {H H':Hp} {s:Shared} {b:Addr} (I:Inv X pins σ H s) (hb:s.heap.objs.size≤b) (hn:H' b=none):FpOk X pins H' b:=by
 refine ⟨hn,Nat.ne_of_gt (Nat.lt_of_lt_of_le I.lt hb),I.nofs hb,.inr (Nat.le_trans I.sz hb),fun x c e z=>?_,fun p hp z=>?_⟩
 ·obtain ⟨v,q⟩:=I.cell x c e
  exact absurd (Nat.lt_of_lt_of_le q.lt (by rw [z]; exact hb)) (Nat.lt_irrefl _)
 ·exact absurd (Nat.lt_of_lt_of_le (Heap.lt_size (I.pin p hp).1) (by rw [z]; exact hb)) (Nat.lt_irrefl _)
structure Turn (P:Program) (w:World) (K:PySem.W.Frag) (tg:Expr) (J:It) (fp:List Addr) (it:Addr) (tn:Nat→Heap→Prop):Prop where
 mem:it∈fp
 obj:∀ i h,tn i h→∀ b∈fp,∃ o,h.get? b=some o∧∀ v,o.data≠.cell v
 keep:∀ i h h',tn i h→(∀ b∈fp,∀ o,h.get? b=some o→h'.get? b=some o)→tn i h'
 item:∀ (X:Cx),X.prog=P→X.w=w→X.K=K→X.calm=true→∀ (i:Nat) (pins:List (Addr × Obj)) (s:Shared) (σ:St) (H:Hp) (E:Value→Shared→Prop),Inv X pins σ H s→(∀ b∈fp,FpOk X pins H b)→tn i s.heap→J.go i H →
  wpAny (model P w) X.A (pyNext (.ref it)) (fun r s1=>∃ u,r=some u ∧
   wpAny (model P w) X.A (letOwnedTupleGo tg (.ref it) u) (fun _ s2=>∃ x H',Inv X pins σ H' s2∧RelV x u∧J.yld i H x H'∧tn (i + 1) s2.heap∧∀ b∈fp,H' b=none) E s1) E s
 done:∀ (X:Cx),X.prog=P→X.w=w→X.K=K→X.calm=true→∀ (i:Nat) (pins:List (Addr × Obj)) (s:Shared) (σ:St) (H:Hp) (E:Value→Shared→Prop),Inv X pins σ H s→(∀ b∈fp,FpOk X pins H b)→tn i s.heap→J.stop i H →
  wpAny (model P w) X.A (pyNext (.ref it)) (fun r s1=>r=none∧Inv X pins σ H s1) E s
 self:∀ (A:Around) (i:Nat) (s:Shared) (Q:Value→Shared→Prop) (E:Value→Shared→Prop),tn i s.heap→Q (.ref it) s→wpAny (model P w) A (pyIter (.ref it)) Q E s
noncomputable abbrev TI:=St→Hp→(It→Hp→Prop)→Prop
noncomputable def PIE (X:Cx) (pins:List (Addr × Obj)) (σ:St) (tg:Expr) (R:It→Hp→Prop) (itv:Value) (s2:Shared):Prop :=
 ∃ (it:Addr) (fp:List Addr) (tn:Nat→Heap→Prop) (J:It) (H':Hp),itv=.ref it∧Inv X pins σ H' s2∧Turn X.prog X.w X.K tg J fp it tn∧tn 0 s2.heap∧(∀ b∈fp,FpOk X pins H' b)∧R J H'
noncomputable def PI (X:Cx) (tg iter:Expr) (wi:TI):Prop :=
 ∀ (pins:List (Addr × Obj)) (s:Shared) (σ:St) (H:Hp) (R:It→Hp→Prop),Inv X pins σ H s→wi σ H R →
  wpAny (model X.prog X.w) X.A (eval iter X.env) (fun v s1=>wpAny (model X.prog X.w) X.A (pyIter v) (PIE X pins σ tg R) X.xe s1) X.xe s
theorem go_of {M:Model} {A:Around} {E:Value→Shared→Prop} {s:Shared} {tg:Expr} {it:Addr} {u:Value} {o:Obj} {n:String} {vs:Array Value} {Q:Unit→Shared→Prop} (ho:s.heap.get? it=some o) (hc:o.cls=.type n) (hd:o.data=.fields vs)
    (hn:["enumerate","zip","dict_itemiterator","dict_reverseitemiterator","odict_iterator","itertools.zip_longest","itertools.pairwise"].contains n=false) (hQ:Q () s):wpAny M A (letOwnedTupleGo tg (.ref it) u) Q E s:=by
  unfold letOwnedTupleGo
  cases tg <;> first
    | exact wpAny_pure hQ
    | (cases u <;> first
        | exact wpAny_pure hQ
        | (refine wpAny_bind (wpAny_load ho ?_)
           rw [hc,hd]
           show wpAny M A (if (["enumerate","zip","dict_itemiterator","dict_reverseitemiterator","odict_iterator","itertools.zip_longest","itertools.pairwise"].contains n && vs[0]? == some (rawInt _))=true then _ else _) Q E s
           rw [if_neg (by intro h; rw [hn,Bool.false_and] at h; cases h)]
           exact wpAny_pure hQ))
noncomputable def Itl (K:PySem.W.Frag) (a:Addr):It :=
 ⟨fun i H=>∃ xs x,SqL K H a xs∧xs[i]?=some x,fun i H x H'=>H'=H∧∀ xs,SqL K H a xs→xs[i]?=some x,fun i H=>∃ xs,SqL K H a xs∧xs.length≤i⟩
noncomputable def Itt (K:PySem.W.Frag) (a:Addr):It :=
 ⟨fun i H=>∃ xs x,SqT K H a xs∧xs[i]?=some x,fun i H x H'=>H'=H∧∀ xs,SqT K H a xs→xs[i]?=some x,fun i H=>∃ xs,SqT K H a xs∧xs.length≤i⟩
noncomputable def Itr (lo:Int) (n:Nat):It:=⟨fun i _=>i < n,fun i H x H'=>H'=H∧x=.int (lo + i),fun i _=>n≤i⟩
theorem turn_list {P:Program} {w:World} {K:PySem.W.Frag} {tg:Expr} (a it:Addr):Turn P w K tg (Itl K a) [it] it (fun i h=>h.IsListIter it a i) where
 mem:=by simp
 obj:=fun i h st b hb=>by
  have e:b=it:=by simpa using hb
  subst e
  obtain ⟨o,e,c,d⟩:=st
  exact ⟨o,e,fun v z=>by rw [d] at z; cases z⟩
 keep:=fun i h h' st k=>st.at fun o e=>k it (by simp) o e
 item:=by
  intro X hP hw hK hc i pins s σ H E I hf st hg
  subst hP hw hK
  obtain ⟨xs,x,hq,hx⟩:=hg
  obtain ⟨its,rv,p,hz⟩:=I.list hq
  obtain ⟨u,hu,ru⟩:=rv.get hx
  obtain ⟨f0,f1,f2,f3,f4,f5⟩:=hf it (by simp)
  refine wpAny_pyNext_list_item st p.isList (x:=u) (by simpa using hu) fun h' st' sb=>?_
  have I1:Inv X pins σ H { s with heap:=h' }:=I.turned (t':=s.toks) (fun b o hb e=>(sb.2 b hb).trans e) f0 f1 f3 f4 f5
  obtain ⟨o,e,c,d⟩:=id st'
  exact ⟨u,rfl,go_of (s:={ s with heap:=h' }) e c d (by decide) ⟨x,H,I1,ru,⟨rfl,fun ys hy=>by rw [I.list_inj hy hq]; exact hx⟩,st',fun b hb=>(hf b hb).1⟩⟩
 done:=by
  intro X hP hw hK hc i pins s σ H E I hf st hg
  subst hP hw hK
  obtain ⟨xs,hq,hx⟩:=hg
  obtain ⟨its,rv,p,hz⟩:=I.list hq
  obtain ⟨f0,f1,f2,f3,f4,f5⟩:=hf it (by simp)
  have hl:=rv.length
  exact wpAny_pyNext_list_end (I.ok.hd hc) st p.isList (by simp; omega) fun h' eb=>⟨rfl,I.turned (t':=s.toks) (fun b o hb e=>eb b o hb e) f0 f1 f3 f4 f5⟩
 self:=fun _ _ _ _ _ st h=>wpAny_pyIter_listiter st h
theorem turn_tuple {P:Program} {w:World} {K:PySem.W.Frag} {tg:Expr} (a it:Addr):Turn P w K tg (Itt K a) [it] it (fun i h=>h.IsTupleIter it a i) where
 mem:=by simp
 obj:=fun i h st b hb=>by
  have e:b=it:=by simpa using hb
  subst e
  obtain ⟨o,e,c,d⟩:=st
  exact ⟨o,e,fun v z=>by rw [d] at z; cases z⟩
 keep:=fun i h h' st k=>st.at fun o e=>k it (by simp) o e
 item:=by
  intro X hP hw hK hc i pins s σ H E I hf st hg
  subst hP hw hK
  obtain ⟨xs,x,hq,hx⟩:=hg
  obtain ⟨its,rv,p,hz⟩:=I.tuple hq
  obtain ⟨u,hu,ru⟩:=rv.get hx
  obtain ⟨f0,f1,f2,f3,f4,f5⟩:=hf it (by simp)
  refine wpAny_pyNext_tuple_item st (show s.heap.IsTuple a its.toArray from p) (x:=u) (by simpa using hu) fun h' st' sb=>?_
  have I1:Inv X pins σ H { s with heap:=h' }:=I.turned (t':=s.toks) (fun b o hb e=>(sb.2 b hb).trans e) f0 f1 f3 f4 f5
  obtain ⟨o,e,c,d⟩:=id st'
  exact ⟨u,rfl,go_of (s:={ s with heap:=h' }) e c d (by decide) ⟨x,H,I1,ru,⟨rfl,fun ys hy=>by rw [I.tuple_inj hy hq]; exact hx⟩,st',fun b hb=>(hf b hb).1⟩⟩
 done:=by
  intro X hP hw hK hc i pins s σ H E I hf st hg
  subst hP hw hK
  obtain ⟨xs,hq,hx⟩:=hg
  obtain ⟨its,rv,p,hz⟩:=I.tuple hq
  obtain ⟨f0,f1,f2,f3,f4,f5⟩:=hf it (by simp)
  have hl:=rv.length
  exact wpAny_pyNext_tuple_end (I.ok.hd hc) st (show s.heap.IsTuple a its.toArray from p) (by simp; omega) fun h' eb=>⟨rfl,I.turned (t':=s.toks) (fun b o hb e=>eb b o hb e) f0 f1 f3 f4 f5⟩
 self:=fun _ _ _ _ _ st h=>wpAny_pyIter_tupleiter st h
theorem turn_range {P:Program} {w:World} {K:PySem.W.Frag} {tg:Expr} (it:Addr) (lo:Int) (n:Nat):Turn P w K tg (Itr lo n) [it] it (fun i h=>IsRangeIter h it (lo + (i:Nat) * 1) ((n:Int) - (i:Nat)) 1) where
 mem:=by simp
 obj:=fun i h st b hb=>by
  have e:b=it:=by simpa using hb
  subst e
  exact ⟨_,st,fun v z=>by
   have z':Data.fields _=Data.cell v:=z
   cases z'⟩
 keep:=fun i h h' st k=>k it (by simp) _ st
 item:=by
  intro X hP hw hK hc i pins s σ H E I hf st hg
  subst hP hw hK
  obtain ⟨f0,f1,f2,f3,f4,f5⟩:=hf it (by simp)
  have W:=Walks.range (prog:=X.prog) (w:=X.w) (I.ok.hd hc) it lo 1 n
  refine W.item i s _ _ hg st fun v h' tk hv st' kk=>?_
  obtain ⟨t,rfl⟩:=hv
  have I1:Inv X pins σ H { s with heap:=h',toks:=tk }:=I.turned (fun b o hb e=>kk b o (by simpa using hb) e) f0 f1 f3 f4 f5
  refine ⟨_,rfl,go_of (s:={ s with heap:=h',toks:=tk }) (n:="range_iterator") st' rfl rfl (by decide) ⟨.int (lo + i),H,I1,⟨t,?_⟩,⟨rfl,rfl⟩,st',fun b hb=>(hf b hb).1⟩⟩
  rw [Int.mul_one]
 done:=by
  intro X hP hw hK hc i pins s σ H E I hf st hg
  subst hP hw hK
  obtain ⟨f0,f1,f2,f3,f4,f5⟩:=hf it (by simp)
  exact wpAny_pyNext_range_end (I.ok.hd hc) st (by have:n≤i:=hg; omega) fun h' eb=>⟨rfl,I.turned (t':=s.toks) (fun b o hb e=>eb b o hb e) f0 f1 f3 f4 f5⟩
 self:=fun _ _ _ _ _ st h=>wpAny_pyIter_rangeiter st h
end L2
namespace L2
open PySem PySem.Spec PyProof.Rows
section
variable {X:Cx} {tg:Expr}
noncomputable def iList (K:PySem.W.Frag) (tl:TE):TI:=fun σ H R=>tl σ H fun x H1=>∃ a,x=.ref a∧(∃ xs,SqL K H1 a xs)∧R (Itl K a) H1
noncomputable def iTup (K:PySem.W.Frag) (tl:TE):TI:=fun σ H R=>tl σ H fun x H1=>∃ a,x=.ref a∧(∃ xs,SqT K H1 a xs)∧R (Itt K a) H1
theorem pi_list {l:Expr} {tl:TE} (hl:PE X l tl):PI X tg l (iList X.K tl):=by
 intro pins s σ H R I h
 refine thn (hl pins s σ H _ I h) fun v s1 zz9=>?_
 obtain ⟨x,H1,I1,r1,q1⟩:=zz9
 obtain ⟨a,e,⟨xs,hq⟩,q⟩:=q1
 subst e
 cases r1
 obtain ⟨its,rv,p,hz⟩:=I1.list hq
 refine wpAny_pyIter_list p.isList ?_
 refine ⟨s1.heap.objs.size,[s1.heap.objs.size],_,_,H1,rfl,I1.kept (t':=s1.toks) fun b o e=>Heap.get?_push_of_some _ e,turn_list a _,⟨_,Heap.get?_push_size _ rfl,rfl,rfl⟩,fun b hb=>?_,q⟩
 have e:b=s1.heap.objs.size:=by simpa using hb
 subst e
 exact I1.fpOk (Nat.le_refl _) (I1.hok.fresh (Nat.le_refl _))
theorem pi_tup {l:Expr} {tl:TE} (hl:PE X l tl):PI X tg l (iTup X.K tl):=by
 intro pins s σ H R I h
 refine thn (hl pins s σ H _ I h) fun v s1 zz9=>?_
 obtain ⟨x,H1,I1,r1,q1⟩:=zz9
 obtain ⟨a,e,⟨xs,hq⟩,q⟩:=q1
 subst e
 cases r1
 obtain ⟨its,rv,p,hz⟩:=I1.tuple hq
 refine wpAny_pyIter_tuple (show s1.heap.IsTuple a its.toArray from p) ?_
 refine ⟨s1.heap.objs.size,[s1.heap.objs.size],_,_,H1,rfl,I1.kept (t':=s1.toks) fun b o e=>Heap.get?_push_of_some _ e,turn_tuple a _,⟨_,Heap.get?_push_size _ rfl,rfl,rfl⟩,fun b hb=>?_,q⟩
 have e:b=s1.heap.objs.size:=by simpa using hb
 subst e
 exact I1.fpOk (Nat.le_refl _) (I1.hok.fresh (Nat.le_refl _))
theorem range_it {pins:List (Addr × Obj)} {σ:St} {H:Hp} {s:Shared} {R:It→Hp→Prop} {E:Value→Shared→Prop} {lo hi:Int} {t u v:Tok} {tk:Nat} (I:Inv X pins σ H s) (h1:-(2 ^ 62)≤lo) (h2:lo < 2 ^ 62) (h3:-(2 ^ 62)≤hi) (h4:hi < 2 ^ 62)
  (q:R (Itr lo (hi - lo).toNat) H):wpAny (model X.prog X.w) X.A (pyIter (.ref s.heap.objs.size)) (PIE X pins σ tg R) E { s with heap:=s.heap.push { cls:=.type "range",data:=.fields #[.int lo t,.int hi u,.int 1 v] },toks:=tk }:=by
 refine wpAny_pyIter_range (IsRange.new ..) (small_one h1 h2 h3 h4) ?_
 have I1:Inv X pins σ H { s with heap:=s.heap.push { cls:=.type "range",data:=.fields #[.int lo t,.int hi u,.int 1 v] },toks:=tk }:=I.kept fun b o e=>Heap.get?_push_of_some _ e
 refine ⟨(s.heap.push { cls:=.type "range",data:=.fields #[.int lo t,.int hi u,.int 1 v] }).objs.size,[(s.heap.push { cls:=.type "range",data:=.fields #[.int lo t,.int hi u,.int 1 v] }).objs.size],_,_,H,rfl,
  I1.kept (t':=tk) fun b o e=>Heap.get?_push_of_some _ e,turn_range _ lo (hi - lo).toNat,?_,fun b hb=>?_,q⟩
 ·have e1:lo + ((0:Nat):Int) * 1=lo:=by simp
  have e2:(((hi - lo).toNat:Nat):Int) - ((0:Nat):Int)=Builtin.Range.rangeSize lo hi 1:=by rw [rangeSize_one]; split <;> omega
  show IsRangeIter _ _ (lo + ((0:Nat):Int) * 1) ((((hi - lo).toNat:Nat):Int) - ((0:Nat):Int)) 1
  rw [e1,e2]
  exact Heap.get?_push_size _ rfl
 ·have e:b=(s.heap.push { cls:=.type "range",data:=.fields #[.int lo t,.int hi u,.int 1 v] }).objs.size:=by simpa using hb
  subst e
  exact I1.fpOk (Nat.le_refl _) (I1.hok.fresh (Nat.le_refl _))
noncomputable def iRng1 (ta:TA):TI:=fun σ H R=>ta σ H fun vs H1=>∃ j:Int,vs=[.int j]∧-(2 ^ 62)≤j∧j < 2 ^ 62∧R (Itr 0 j.toNat) H1
theorem pi_range1 {a:Expr} {ta:TA} {p pos:Pos} (hg:Gl X "range") (hm:X.mg "range"=none) (ha:PA X [a] ta) (hs:starEach [a] X.env=[(false,eval a X.env)]:=by rfl):PI X tg (.Call (.Name "range" p) [a] [] pos) (iRng1 ta):=by
 intro pins s σ H R I h
 refine Call_ (ld_blt I hg hm boot_range (PyProof.Rows.callWith_type1 (thn (ha pos pins s σ H _ I h) fun us s1 zz6=>?_) hs rfl))
 obtain ⟨vs,H1,I1,r1,q1⟩:=zz6
 obtain ⟨j,e,q1,q2,q⟩:=q1
 subst e
 cases r1 with
 | cons r rr =>
  cases rr
  obtain ⟨t,rfl⟩:=r
  exact call_range_1 (range_it I1 (by omega) (by omega) q1 q2 (by simpa using q))
noncomputable def tFor (wi:TI) (g:TG) (tb:TS):TS:=fun D σ H=>wi σ H fun J H1=>∃ W:Nat→Nat→St→Hp→Prop,(∃ m,W 0 m σ H1)∧∀ i m σ H,W i m σ H →
 (J.stop i H∧D.nx σ H)∨(J.go i H∧∃ N:St→Hp→Prop,(∀ σ' H',N σ' H'→∃ m',m' < m∧W (i + 1) m' σ' H')∧∀ x H',J.yld i H x H'→g x σ H' fun σ2 H2=>tb { D with nx:=N,ct:=N,bk:=D.nx } σ2 H2)
noncomputable def pinsAt (fp:List Addr) (h:Heap):List (Addr × Obj):=fp.filterMap fun b=>(h.get? b).map fun o=>(b,o)
theorem mem_pinsAt {fp:List Addr} {h:Heap} {b:Addr} {o:Obj} (hb:b∈fp) (e:h.get? b=some o):(b,o)∈pinsAt fp h:=List.mem_filterMap.mpr ⟨b,hb,by rw [e]; rfl⟩
theorem of_pinsAt {fp:List Addr} {h:Heap} {p:Addr × Obj} (hp:p∈pinsAt fp h):p.1∈fp∧h.get? p.1=some p.2:=by
 obtain ⟨b,hb,e⟩:=List.mem_filterMap.mp hp
 cases q:h.get? b with
 | none=>rw [q] at e; cases e
 | some o =>
  rw [q] at e
  have e':(b,o)=p:=Option.some.inj e
  subst e'
  exact ⟨hb,q⟩
theorem Inv.pinned {pins:List (Addr × Obj)} {σ:St} {H:Hp} {s:Shared} {fp:List Addr} (I:Inv X pins σ H s) (hf:∀ b∈fp,FpOk X pins H b) (ho:∀ b∈fp,∃ o,s.heap.get? b=some o∧∀ v,o.data≠.cell v):Inv X (pins ++ pinsAt fp s.heap) σ H s :=
 I.pins_of fun p hp=>(List.mem_append.mp hp).elim (fun z=>I.pin p (List.mem_append_right _ z)) fun z=>by
  obtain ⟨hb,e⟩:=of_pinsAt z
  obtain ⟨f0,f1,f2,_⟩:=hf p.1 hb
  obtain ⟨o,e',d⟩:=ho p.1 hb
  rw [e] at e'; cases e'
  exact ⟨e,f0,f1,f2,d⟩
theorem Inv.unpinned {pins pl:List (Addr × Obj)} {σ:St} {H:Hp} {s:Shared} (I:Inv X (pins ++ pl) σ H s):Inv X pins σ H s:=I.pins_of fun p hp=>I.pin p (List.mem_append_right _ (List.mem_append_left _ hp))
theorem ps_for {iter:Expr} {body:List Stmt} {wi:TI} {g:TG} {tb:TS} {pos:Pos} (hp:PassesOwn (model X.prog X.w) X.A X.env X.xe) (hc:X.calm=true) (hi:PI X tg iter wi) (hg:PG X tg g) (hb:PSs X body tb)
  (hs:∀ x,foldedSetIterable iter X.env x=pure x:=by intro _; rfl):PS X (.For tg iter body [] pos) (tFor wi g tb):=by
 intro pins s σ H D I h
 refine wpAny_For (thn (hi pins s σ H _ I h) fun v s1 h1=>thn h1 fun itv s2 h2=>?_) hs
 obtain ⟨it,fp,tn,J,H2,e,I2,T,st2,f2,W,⟨m0,w0⟩,turn⟩:=h2
 subst e
 have stat:∀ {H':Hp},(∀ b∈fp,H' b=none)→∀ b∈fp,FpOk X pins H' b:=fun hn b hb=>⟨hn b hb,(f2 b hb).2⟩
 refine codeAny_forLoop_any (fun n s'=>∃ i σ' H',Inv X pins σ' H' s'∧tn i s'.heap∧(∀ b∈fp,H' b=none)∧W i n σ' H') ?_ m0 ⟨0,σ,H2,I2,st2,fun b hb=>(f2 b hb).1,w0⟩
 rintro n s3 ⟨i,σ3,H3,I3,st3,fr3,w3⟩
 rcases turn i n σ3 H3 w3 with ⟨stop,qn⟩ | ⟨go,N,hN,step⟩
 ·refine wpAny_passesOwn hp (thn (T.done X rfl rfl rfl hc i pins s3 σ3 H3 X.xe I3 (stat fr3) st3 stop) fun r s4 ⟨hr,I4⟩=>?_)
  subst hr
  exact wpAny_execs_nil ⟨σ3,H3,I4,qn⟩
 ·refine wpAny_passesOwn hp (thn (T.item X rfl rfl rfl hc i pins s3 σ3 H3 X.xe I3 (stat fr3) st3 go) fun r s4 ⟨u,hr,h4⟩=>?_)
  subst hr
  refine wpAny_passesOwn hp (thn h4 fun _ s5 zz9=>?_)
  obtain ⟨x,H5,I5,r5,y5,st5,fr5⟩:=zz9
  have I5':=I5.pinned (stat fr5) (T.obj _ _ st5)
  refine wpAny_passesOwn hp (thn (hg _ s5 σ3 H5 x u _ I5' r5 (step x H5 y5)) fun _ s6 zz9=>?_)
  obtain ⟨σ6,H6,I6,q6⟩:=zz9
  refine wpAny_passesOwn hp (thn (hb _ s6 σ6 H6 _ I6 q6) fun f s7 q7=>?_)
  have again:∀ {σ7:St} {H7:Hp},Inv X (pins ++ pinsAt fp s5.heap) σ7 H7 s7→N σ7 H7→∃ m,m < n∧∃ i σ' H',Inv X pins σ' H' s7∧tn i s7.heap∧(∀ b∈fp,H' b=none)∧W i m σ' H':=fun {σ7 H7} I7 n7=>by
   obtain ⟨m',hm,w7⟩:=hN σ7 H7 n7
   refine ⟨m',hm,i + 1,σ7,H7,I7.unpinned,T.keep _ _ _ st5 fun b hb o e=>(I7.pin (b,o) (List.mem_append_right _ (List.mem_append_right _ (mem_pinsAt hb e)))).1,fun b hb=>?_,w7⟩
   obtain ⟨o,e,d⟩:=T.obj _ _ st5 b hb
   exact (I7.pin (b,o) (List.mem_append_right _ (List.mem_append_right _ (mem_pinsAt hb e)))).2.1
  cases f with
  | next=>obtain ⟨σ7,H7,I7,n7⟩:=q7; exact again I7 n7
  | cont=>obtain ⟨σ7,H7,I7,n7⟩:=q7; exact again I7 n7
  | brk=>obtain ⟨σ7,H7,I7,q7⟩:=q7; exact ⟨σ7,H7,I7.unpinned,q7⟩
  | ret v=>obtain ⟨x7,σ7,H7,I7,r7,q7⟩:=q7; exact ⟨x7,σ7,H7,I7.unpinned,r7,q7⟩
end
theorem for_list {K:PySem.W.Frag} {a:Addr} {xs:List V} {g:TG} {tb:TS} {D:Ends} {σ:St} {H:Hp} (Pv:Nat→St→Hp→Prop) (h0:Pv 0 σ H) (hl:∀ i σ H,i≤xs.length→Pv i σ H→SqL K H a xs)
  (hs:∀ i x σ H,xs[i]?=some x→Pv i σ H→g x σ H fun σ2 H2=>tb { D with nx:=Pv (i + 1),ct:=Pv (i + 1),bk:=D.nx } σ2 H2) (hd:∀ σ H,Pv xs.length σ H→D.nx σ H) :
  ∃ W:Nat→Nat→St→Hp→Prop,(∃ m,W 0 m σ H)∧∀ i m σ H,W i m σ H →
   ((Itl K a).stop i H∧D.nx σ H)∨((Itl K a).go i H∧∃ N:St→Hp→Prop,(∀ σ' H',N σ' H'→∃ m',m' < m∧W (i + 1) m' σ' H')∧∀ x H',(Itl K a).yld i H x H'→g x σ H' fun σ2 H2=>tb { D with nx:=N,ct:=N,bk:=D.nx } σ2 H2):=by
 refine ⟨fun i m σ H=>m=xs.length - i∧i≤xs.length∧Pv i σ H,⟨xs.length,by simp,Nat.zero_le _,h0⟩,?_⟩
 rintro i m σ H ⟨rfl,hi,p⟩
 have q:=hl i σ H hi p
 by_cases hlt:i < xs.length
 ·refine .inr ⟨⟨xs,xs[i],q,by simp [hlt]⟩,Pv (i + 1),fun σ' H' p'=>⟨xs.length - (i + 1),by omega,rfl,hlt,p'⟩,fun x H' y=>?_⟩
  obtain ⟨e,y⟩:=y
  subst e
  exact hs i x σ _ (y xs q) p
 ·have e:i=xs.length:=by omega
  subst e
  exact .inl ⟨⟨xs,q,Nat.le_refl _⟩,hd σ H p⟩
theorem for_range {lo:Int} {n:Nat} {g:TG} {tb:TS} {D:Ends} {σ:St} {H:Hp} (Pv:Nat→St→Hp→Prop) (h0:Pv 0 σ H)
  (hs:∀ i σ H,i < n→Pv i σ H→g (.int (lo + i)) σ H fun σ2 H2=>tb { D with nx:=Pv (i + 1),ct:=Pv (i + 1),bk:=D.nx } σ2 H2) (hd:∀ σ H,Pv n σ H→D.nx σ H) :
  ∃ W:Nat→Nat→St→Hp→Prop,(∃ m,W 0 m σ H)∧∀ i m σ H,W i m σ H →
   ((Itr lo n).stop i H∧D.nx σ H)∨((Itr lo n).go i H∧∃ N:St→Hp→Prop,(∀ σ' H',N σ' H'→∃ m',m' < m∧W (i + 1) m' σ' H')∧∀ x H',(Itr lo n).yld i H x H'→g x σ H' fun σ2 H2=>tb { D with nx:=N,ct:=N,bk:=D.nx } σ2 H2):=by
 refine ⟨fun i m σ H=>m=n - i∧i≤n∧Pv i σ H,⟨n,by simp,Nat.zero_le _,h0⟩,?_⟩
 rintro i m σ H ⟨rfl,hi,p⟩
 by_cases hlt:i < n
 ·refine .inr ⟨hlt,Pv (i + 1),fun σ' H' p'=>⟨n - (i + 1),by omega,rfl,hlt,p'⟩,fun x H' y=>?_⟩
  obtain ⟨e,y⟩:=y
  subst e y
  exact hs i σ _ hlt p
 ·have e:i=n:=by omega
  subst e
  exact .inl ⟨Nat.le_refl _,hd σ H p⟩
end L2
namespace L2
open PySem PySem.Spec PyProof.Rows
noncomputable abbrev R2:=V→V→Hp→VK→Prop
noncomputable def OpR (X:Cx) (f:Value→Value→Sem Value) (r:R2):Prop :=
 ∀ (pins:List (Addr × Obj)) (s:Shared) (σ:St) (H:Hp) (x y:V) (v u:Value) (Q:VK),Inv X pins σ H s→RelV x v→RelV y u→r x y H Q →
  wpAny (model X.prog X.w) X.A (f v u) (EP X pins σ Q) X.xe s
noncomputable def UnR (X:Cx) (f:Value→Sem Value) (r:V→Hp→VK→Prop):Prop :=
 ∀ (pins:List (Addr × Obj)) (s:Shared) (σ:St) (H:Hp) (x:V) (v:Value) (Q:VK),Inv X pins σ H s→RelV x v→r x H Q →
  wpAny (model X.prog X.w) X.A (f v) (EP X pins σ Q) X.xe s
noncomputable def CallR (X:Cx) (f:Value) (r:List V→Hp→VK→Prop):Prop :=
 ∀ (pins:List (Addr × Obj)) (s:Shared) (σ:St) (H:Hp) (xs:List V) (us:List Value) (Q:VK),Inv X pins σ H s→Vals xs us→r xs H Q →
  wpAny (model X.prog X.w) X.A (call f us) (EP X pins σ Q) X.xe s
noncomputable def TruR (X:Cx) (r:V→Hp→(Bool→Hp→Prop)→Prop):Prop :=
 ∀ (pins:List (Addr × Obj)) (s:Shared) (σ:St) (H:Hp) (x:V) (v:Value) (Q:Bool→Hp→Prop),Inv X pins σ H s→RelV x v→r x H Q →
  wpAny (model X.prog X.w) X.A (truthy v) (TP X pins σ Q) X.xe s
noncomputable def tOp (r:R2) (ta tb:TE):TE:=fun σ H Q=>ta σ H fun x H1=>tb σ H1 fun y H2=>r x y H2 Q
noncomputable def tUn (r:V→Hp→VK→Prop) (ta:TE):TE:=fun σ H Q=>ta σ H fun x H1=>r x H1 Q
noncomputable def rI (C:Int→Int→Prop) (g:Int→Int→V):R2:=fun x y H Q=>∃ i j,x=.int i∧y=.int j∧C i j∧Q (g i j) H
noncomputable def rI0 (g:Int→Int→V):R2:=fun x y H Q=>∃ i j,x=.int i∧y=.int j∧Q (g i j) H
noncomputable def rU (g:Int→V):V→Hp→VK→Prop:=fun x H Q=>∃ i,x=.int i∧Q (g i) H
section
variable {X:Cx} {a b c:Expr} {ta tb tc:TE} {pos:Pos}
theorem binT (ha:PE X a ta) (hb:PE X b tb) {pins:List (Addr × Obj)} {s:Shared} {σ:St} {H:Hp} {R:V→V→Hp→Prop} (I:Inv X pins σ H s)
  (h:ta σ H fun x H1=>tb σ H1 fun y H2=>R x y H2) {Q:Value→Shared→Prop} {f:Value→Value→Sem Value}
  (hf:∀ v u s2 x y H2,Inv X pins σ H2 s2→RelV x v→RelV y u→R x y H2→wpAny (model X.prog X.w) X.A (f v u) Q X.xe s2) :
  wpAny (model X.prog X.w) X.A (eval a X.env) (fun v s₁=>wpAny (model X.prog X.w) X.A (eval b X.env) (fun u s₂=>wpAny (model X.prog X.w) X.A (f v u) Q X.xe s₂) X.xe s₁) X.xe s:=by
 refine thn (ha pins s σ H _ I h) fun v s1 zz9=>?_
 obtain ⟨x,H1,I1,r1,q1⟩:=zz9
 refine thn (hb pins s1 σ H1 _ I1 q1) fun u s2 zz9=>?_
 obtain ⟨y,H2,I2,r2,q2⟩:=zz9
 exact hf v u s2 x y H2 I2 r1 r2 q2
theorem pe_op {op:Operator} {r:R2} (ho:OpR X (binaryOp op) r) (ha:PE X a ta) (hb:PE X b tb):PE X (.BinOp a op b pos) (tOp r ta tb):=by
 intro pins s σ H Q I h
 exact wpAny_BinOp (binT ha hb I h fun v u s2 x y H2 I2 rx ry q=>ho pins s2 σ H2 x y v u Q I2 rx ry q)
theorem pe_un {op:UnaryOp} {r:V→Hp→VK→Prop} (ho:UnR X (unaryOp op) r) (ha:PE X a ta):PE X (.UnaryOp op a pos) (tUn r ta):=by
 intro pins s σ H Q I h
 refine UnaryOp_ (thn (ha pins s σ H _ I h) fun v s1 zz7=>?_)
 obtain ⟨x,H1,I1,r1,q1⟩:=zz7
 exact ho pins s1 σ H1 x v Q I1 r1 q1
theorem opI {f:Value→Value→Sem Value} {C:Int→Int→Prop} {g:Int→Int→Int}
  (rule:∀ (i j:Int) (t u:Tok) (s:Shared) (Q:Value→Shared→Prop) (E:Value→Shared→Prop),C i j→Q (.int (g i j) s.toks) { s with toks:=s.toks + 1 }→wpAny (model X.prog X.w) X.A (f (.int i t) (.int j u)) Q E s) :
  OpR X f (rI C fun i j=>.int (g i j)):=by
 intro pins s σ H x y v u Q I rx ry h
 obtain ⟨i,j,rfl,rfl,hc,q⟩:=h
 obtain ⟨t,rfl⟩:=rx
 obtain ⟨t',rfl⟩:=ry
 exact rule i j t t' s _ _ hc ⟨.int (g i j),H,I.tok _,⟨_,rfl⟩,q⟩
theorem opI0 {f:Value→Value→Sem Value} {g:Int→Int→Int}
  (rule:∀ (i j:Int) (t u:Tok) (s:Shared) (Q:Value→Shared→Prop) (E:Value→Shared→Prop),Q (.int (g i j) s.toks) { s with toks:=s.toks + 1 }→wpAny (model X.prog X.w) X.A (f (.int i t) (.int j u)) Q E s) :
  OpR X f (rI0 fun i j=>.int (g i j)):=by
 intro pins s σ H x y v u Q I rx ry h
 obtain ⟨i,j,rfl,rfl,q⟩:=h
 obtain ⟨t,rfl⟩:=rx
 obtain ⟨t',rfl⟩:=ry
 exact rule i j t t' s _ _ ⟨.int (g i j),H,I.tok _,⟨_,rfl⟩,q⟩
theorem opB0 {f:Value→Value→Sem Value} {g:Int→Int→Bool}
  (rule:∀ (i j:Int) (t u:Tok) (s:Shared) (Q:Value→Shared→Prop) (E:Value→Shared→Prop),Q (.bool (g i j)) s→wpAny (model X.prog X.w) X.A (f (.int i t) (.int j u)) Q E s) :
  OpR X f (rI0 fun i j=>.bl (g i j)):=by
 intro pins s σ H x y v u Q I rx ry h
 obtain ⟨i,j,rfl,rfl,q⟩:=h
 obtain ⟨t,rfl⟩:=rx
 obtain ⟨t',rfl⟩:=ry
 exact rule i j t t' s _ _ ⟨.bl (g i j),H,I,rfl,q⟩
noncomputable def CDiv (i j:Int):Prop:=0 < j∧j < 1073741824
noncomputable def CPow (i j:Int):Prop:=0≤j∧j≤1000000∧i.natAbs < 2 ^ 64
noncomputable def CMul (i j:Int):Prop:=(-(2 ^ 64) < i∧i < 2 ^ 64)∨(-(2 ^ 64) < j∧j < 2 ^ 64)
theorem CMul.ok {i j:Int} (h:CMul i j):IntMulOk i j:=by
 rcases h with ⟨h1,h2⟩ | ⟨h1,h2⟩
 ·exact .of_left (intBits_le_64 h1 h2)
 ·exact .of_right (intBits_le_64 h1 h2)
theorem op_add:OpR X (binaryOp .Add) (rI0 fun i j=>.int (i + j)):=opI0 fun _ _ _ _ _ _ _ q=>add_int q
theorem op_sub:OpR X (binaryOp .Sub) (rI0 fun i j=>.int (i - j)):=opI0 fun _ _ _ _ _ _ _ q=>sub_int q
theorem op_mul:OpR X (binaryOp .Mult) (rI CMul fun i j=>.int (i * j)):=opI fun _ _ _ _ _ _ _ hc q=>mul_int q hc.ok
theorem op_fdiv:OpR X (binaryOp .FloorDiv) (rI CDiv fun i j=>.int (i / j)):=opI fun i j _ _ _ _ _ hc q=>by
 have h1:(0:Int) < j:=hc.1
 have h2:j < 1073741824:=hc.2
 exact floordiv_int (by omega) (by rw [Int.fdiv_eq_ediv_of_nonneg i (by omega)]; exact q) (.inl (PyProof.noPylong_small (by omega)))
theorem op_mod:OpR X (binaryOp .Mod) (rI (fun _ j=>0 < j) fun i j=>.int (i % j)):=opI fun i j _ _ _ _ _ hc q=>by
 have h1:(0:Int) < j:=hc
 exact mod_int' (by omega) (by rw [Int.fmod_eq_emod_of_nonneg i (by omega)]; exact q)
theorem op_pow:OpR X (binaryOp .Pow) (rI CPow fun i j=>.int (i ^ j.toNat)):=opI fun _ _ _ _ _ _ _ hc q=>pow_int_small hc.1 hc.2.1 hc.2.2 q
theorem unI {f:Value→Sem Value} {g:Int→Int}
  (rule:∀ (i:Int) (t:Tok) (s:Shared) (Q:Value→Shared→Prop) (E:Value→Shared→Prop),Q (.int (g i) s.toks) { s with toks:=s.toks + 1 }→wpAny (model X.prog X.w) X.A (f (.int i t)) Q E s) :
  UnR X f (rU fun i=>.int (g i)):=by
 intro pins s σ H x v Q I rx h
 obtain ⟨i,rfl,q⟩:=h
 obtain ⟨t,rfl⟩:=rx
 exact rule i t s _ _ ⟨.int (g i),H,I.tok _,⟨_,rfl⟩,q⟩
theorem un_neg:UnR X (unaryOp .USub) (rU fun i=>.int (-i)):=unI fun _ _ _ _ _ q=>neg_int q
end
noncomputable def scal:V→V→Bool
 | .non,.non=>true | .non,.int _=>true | .int _,.non=>true | .non,.bl _=>true | .bl _,.non=>true | .non,.str _=>true | .str _,.non=>true
 | .int _,.int _=>true | .bl _,.bl _=>true | .str _,.str _=>true | .byt _,.byt _=>true
 | .int _,.str _=>true | .str _,.int _=>true | .bl _,.str _=>true | .str _,.bl _=>true
 | _,_=>false
noncomputable def rEq:R2:=fun x y H Q=>scal x y=true∧Q (.bl (decide (x=y))) H
noncomputable def rNe:R2:=fun x y H Q=>scal x y=true∧Q (.bl (!decide (x=y))) H
theorem dec_int {i j:Int}:decide (V.int i=V.int j)=(i == j):=by
 rw [Bool.eq_iff_iff]
 simp
theorem dec_bl {i j:Bool}:decide (V.bl i=V.bl j)=(i == j):=by
 rw [Bool.eq_iff_iff]
 simp
theorem dec_str {i j:Str}:decide (V.str i=V.str j)=(i == j):=by
 rw [Bool.eq_iff_iff]
 simp
theorem dec_byt {i j:Array UInt8}:decide (V.byt i=V.byt j)=(i.toList == j.toList):=by
 rw [Bool.eq_iff_iff]
 cases i
 cases j
 simp
section
variable {X:Cx} {a b c:Expr} {ta tb tc:TE} {pos:Pos}
theorem fin_bl {pins:List (Addr × Obj)} {σ:St} {H:Hp} {s:Shared} {Q:VK} {k k':Bool} (I:Inv X pins σ H s) (q:Q (.bl k) H) (e:k=k'):EP X pins σ Q (.bool k') s:=by
 subst e
 exact ⟨.bl k,H,I,rfl,q⟩
theorem op_eq:OpR X (compareOp .Eq) rEq:=by
 intro pins s σ H x y v u Q I rx ry h
 obtain ⟨hs,q⟩:=h
 cases x with
 | non =>
  cases rx
  cases y with
  | non=>cases ry; exact PySem.EqNone.eq_none_none (fin_bl I q (by simp))
  | bl j=>cases ry; exact PySem.EqNone.eq_none_bool (fin_bl I q (by simp))
  | int j=>obtain ⟨t',rfl⟩:=ry; exact PySem.EqNone.eq_none_int (fin_bl I q (by simp))
  | str j=>obtain ⟨t',rfl⟩:=ry; exact PySem.EqNone.eq_none_str (fin_bl I q (by simp))
  | _=>exact absurd (show false=true from hs) Bool.false_ne_true
 | bl i =>
  cases rx
  cases y with
  | non=>cases ry; exact PySem.EqNone.eq_bool_none (fin_bl I q (by simp))
  | bl j=>cases ry; exact eq_bool (fin_bl I q dec_bl)
  | str j=>obtain ⟨t',rfl⟩:=ry; exact PySem.EqMixed.eq_bool_str (fin_bl I q (by simp))
  | _=>exact absurd (show false=true from hs) Bool.false_ne_true
 | int i =>
  obtain ⟨t,rfl⟩:=rx
  cases y with
  | non=>cases ry; exact PySem.EqNone.eq_int_none (fin_bl I q (by simp))
  | int j=>obtain ⟨t',rfl⟩:=ry; exact eq_int (fin_bl I q dec_int)
  | str j=>obtain ⟨t',rfl⟩:=ry; exact PySem.EqMixed.eq_int_str (fin_bl I q (by simp))
  | _=>exact absurd (show false=true from hs) Bool.false_ne_true
 | str i =>
  obtain ⟨t,rfl⟩:=rx
  cases y with
  | non=>cases ry; exact PySem.EqNone.eq_str_none (fin_bl I q (by simp))
  | bl j=>cases ry; exact PySem.EqMixed.eq_str_bool (fin_bl I q (by simp))
  | int j=>obtain ⟨t',rfl⟩:=ry; exact PySem.EqMixed.eq_str_int (fin_bl I q (by simp))
  | str j=>obtain ⟨t',rfl⟩:=ry; exact eq_str (fin_bl I q dec_str)
  | _=>exact absurd (show false=true from hs) Bool.false_ne_true
 | byt i =>
  obtain ⟨t,rfl⟩:=rx
  cases y with
  | byt j=>obtain ⟨t',rfl⟩:=ry; exact PySem.W.eq_bytes (fin_bl I q dec_byt)
  | _=>exact absurd (show false=true from hs) Bool.false_ne_true
 | _=>cases y <;> exact absurd (show false=true from hs) Bool.false_ne_true
theorem op_ne:OpR X (compareOp .NotEq) rNe:=by
 intro pins s σ H x y v u Q I rx ry h
 obtain ⟨hs,q⟩:=h
 cases x with
 | non =>
  cases rx
  cases y with
  | non=>cases ry; exact PySem.EqNone.ne_none_none (fin_bl I q (by simp))
  | bl j=>cases ry; exact PySem.EqNone.ne_none_bool (fin_bl I q (by simp))
  | int j=>obtain ⟨t',rfl⟩:=ry; exact PySem.EqNone.ne_none_int (fin_bl I q (by simp))
  | str j=>obtain ⟨t',rfl⟩:=ry; exact PySem.EqNone.ne_none_str (fin_bl I q (by simp))
  | _=>exact absurd (show false=true from hs) Bool.false_ne_true
 | bl i =>
  cases rx
  cases y with
  | non=>cases ry; exact PySem.EqNone.ne_bool_none (fin_bl I q (by simp))
  | bl j=>cases ry; exact ne_bool (fin_bl I q (congrArg not dec_bl))
  | str j=>obtain ⟨t',rfl⟩:=ry; exact PySem.EqMixed.ne_bool_str (fin_bl I q (by simp))
  | _=>exact absurd (show false=true from hs) Bool.false_ne_true
 | int i =>
  obtain ⟨t,rfl⟩:=rx
  cases y with
  | non=>cases ry; exact PySem.EqNone.ne_int_none (fin_bl I q (by simp))
  | int j=>obtain ⟨t',rfl⟩:=ry; exact ne_int (fin_bl I q (congrArg not dec_int))
  | str j=>obtain ⟨t',rfl⟩:=ry; exact PySem.EqMixed.ne_int_str (fin_bl I q (by simp))
  | _=>exact absurd (show false=true from hs) Bool.false_ne_true
 | str i =>
  obtain ⟨t,rfl⟩:=rx
  cases y with
  | non=>cases ry; exact PySem.EqNone.ne_str_none (fin_bl I q (by simp))
  | bl j=>cases ry; exact PySem.EqMixed.ne_str_bool (fin_bl I q (by simp))
  | int j=>obtain ⟨t',rfl⟩:=ry; exact PySem.EqMixed.ne_str_int (fin_bl I q (by simp))
  | str j=>obtain ⟨t',rfl⟩:=ry; exact ne_str (fin_bl I q (congrArg not dec_str))
  | _=>exact absurd (show false=true from hs) Bool.false_ne_true
 | byt i =>
  obtain ⟨t,rfl⟩:=rx
  cases y with
  | byt j=>obtain ⟨t',rfl⟩:=ry; exact PySem.W.ne_bytes (fin_bl I q (congrArg not dec_byt))
  | _=>exact absurd (show false=true from hs) Bool.false_ne_true
 | _=>cases y <;> exact absurd (show false=true from hs) Bool.false_ne_true
theorem op_lt:OpR X (compareOp .Lt) (rI0 fun i j=>.bl (decide (i < j))):=opB0 fun _ _ _ _ _ _ _ q=>lt_int q
theorem op_le:OpR X (compareOp .LtE) (rI0 fun i j=>.bl (decide (i≤j))):=opB0 fun _ _ _ _ _ _ _ q=>le_int q
theorem op_gt:OpR X (compareOp .Gt) (rI0 fun i j=>.bl (decide (j < i))):=opB0 fun _ _ _ _ _ _ _ q=>gt_int q
theorem op_ge:OpR X (compareOp .GtE) (rI0 fun i j=>.bl (decide (j≤i))):=opB0 fun _ _ _ _ _ _ _ q=>ge_int q
theorem op_notN:OpR X (compareOp .IsNot) (fun x y H Q=>y=.non∧Q (.bl (!decide (x=.non))) H):=by
 intro pins s σ H x y v u Q I rx ry h
 obtain ⟨rfl,q⟩:=h
 cases ry
 refine isnot_none_gen (fin_bl I q ?_)
 cases x <;> first
  | (cases rx; rfl)
  | (obtain ⟨t,rfl⟩:=rx; rfl)
theorem nomark (b:Expr) {op:CmpOp} (h:op≠.In:=by decide) (h2:op≠.NotIn:=by decide):behindInMarks op b=false:=by
 have e1:(op == CmpOp.In)=false:=by cases op <;> first | rfl | exact absurd rfl h
 have e2:(op == CmpOp.NotIn)=false:=by cases op <;> first | rfl | exact absurd rfl h2
 cases b <;> simp [behindInMarks,e1,e2]
theorem pe_cmpR {op:CmpOp} {r:R2} (ho:OpR X (compareOp op) r) (ha:PE X a ta) (hb:PE X b tb) (hm:behindInMarks op b=false):PE X (.Compare a [op] [b] pos) (tOp r ta tb):=by
 intro pins s σ H Q I h
 exact wpAny_Compare1 (binT ha hb I h fun v u s2 x y H2 I2 rx ry q=>ho pins s2 σ H2 x y v u Q I2 rx ry q) hm
noncomputable def tTest (t:TE):TT:=fun σ H Q=>t σ H fun x H'=>∃ k,x=.bl k∧Q k H'
theorem pt_cmpR {op:CmpOp} {r:R2} (ho:OpR X (compareOp op) r) (ha:PE X a ta) (hb:PE X b tb) (hm:behindInMarks op b=false):PT X (.Compare a [op] [b] pos) (tTest (tOp r ta tb)):=by
 intro pins s σ H Q I h
 refine wpAny_isTrue_Compare1 (thn (ha pins s σ H _ I h) fun v s1 ⟨x,H1,I1,r1,q1⟩=>thn (hb pins s1 σ H1 _ I1 q1) fun u s2 ⟨y,H2,I2,r2,q2⟩ =>
  thn (ho pins s2 σ H2 x y v u _ I2 r1 r2 q2) fun c s3 ⟨z,H3,I3,r3,k,e,q3⟩=>?_) hm
 subst e
 cases r3
 exact wpAny_truthy_bool ⟨H3,I3,q3⟩
noncomputable def tChain (r r':R2) (ta tb tc:TE):TE:=fun σ H Q=>ta σ H fun x H1=>tb σ H1 fun y H2=>r x y H2 fun z H3=>∃ k,z=.bl k ∧
 (if k=true then tc σ H3 fun w' H4=>r' y w' H4 Q else Q (.bl false) H3)
theorem pe_chain {op op':CmpOp} {r r':R2} (ho:OpR X (compareOp op) r) (ho':OpR X (compareOp op') r') (ha:PE X a ta) (hb:PE X b tb) (hc:PE X c tc)
  (hm:lastMarks [op,op'] [b,c]=false:=by with_unfolding_all rfl):PE X (.Compare a [op,op'] [b,c] pos) (tChain r r' ta tb tc):=by
 intro pins s σ H Q I h
 refine Compare_chain (thn (ha pins s σ H _ I h) fun v s1 ⟨x,H1,I1,r1,q1⟩=>chain_link (thn (hb pins s1 σ H1 _ I1 q1) fun u s2 ⟨y,H2,I2,r2,q2⟩ =>
  thn (ho pins s2 σ H2 x y v u _ I2 r1 r2 q2) fun d s3 ⟨z,H3,I3,r3,k,e,q3⟩=>?_)) hm
 subst e
 cases r3
 refine wpAny_truthy_bool ?_
 cases k with
 | false=>exact ite_ff ⟨.bl false,H3,I3,rfl,q3⟩
 | true=>exact ite_tt (chain_last (thn (hc pins s3 σ H3 _ I3 q3) fun w' s4 ⟨z',H4,I4,r4,q4⟩=>ho' pins s4 σ H4 y z' u w' Q I4 r2 r4 q4))
noncomputable def TruV (K:PySem.W.Frag) (x:V) (H:Hp) (k:Bool):Prop :=
 match x with
 | .non=>k=false
 | .bl b=>k=b
 | .int i=>k=(i != 0)
 | .str y=>y.length≤sizeLine∧k=((y.length:Int) != 0)
 | .byt y=>y.size≤sizeLine∧k=((y.size:Int) != 0)
 | .ref p=>(∃ xs,SqL K H p xs∧k=!xs.isEmpty)∨(∃ xs,SqT K H p xs∧k=!xs.isEmpty)∨∃ kvs,H p=some (.dK kvs)∧k=!kvs.isEmpty
 | _=>False
theorem isEmpty_kv {κ:Type} {kvs:List (κ × V)} {vs:List (κ × Value)} (r:KV kvs vs):(!vs.isEmpty)=!kvs.isEmpty:=by
 cases r <;> rfl
theorem isEmpty_of {xs:List V} {its:List Value} (r:Vals xs its):(!its.toArray.isEmpty)=!xs.isEmpty:=by
 cases r <;> simp
theorem line63:(sizeLine:Nat) < 2 ^ 63:=by rw [sizeLine_eq]; decide
theorem tru_ok:TruR X (fun x H Q=>∃ k,TruV X.K x H k∧Q k H):=by
 intro pins s σ H x v Q I rx h
 obtain ⟨k,e,q⟩:=h
 have hl:=line63
 have hs:sizeLine=16777216:=sizeLine_eq
 cases x with
 | non =>
  cases rx
  have e':k=false:=e
  subst e'
  exact truthy_none ⟨H,I,q⟩
 | bl b =>
  cases rx
  have e':k=b:=e
  subst e'
  exact wpAny_truthy_bool ⟨H,I,q⟩
 | int i =>
  obtain ⟨t,rfl⟩:=rx
  have e':k=(i != 0):=e
  subst e'
  exact PySem.P.truthy_int ⟨H,I,q⟩
 | str y =>
  obtain ⟨t,rfl⟩:=rx
  obtain ⟨hy,e'⟩:y.length≤sizeLine∧k=((y.length:Int) != 0):=e
  subst e'
  exact PySem.P.truthy_str (by omega) ⟨H,I.tok _,q⟩
 | byt y =>
  obtain ⟨t,rfl⟩:=rx
  obtain ⟨hy,e'⟩:y.size≤sizeLine∧k=((y.size:Int) != 0):=e
  subst e'
  exact PySem.W.truthy_bytes (by omega) ⟨H,I.tok _,q⟩
 | ref p =>
  cases rx
  have e':(∃ xs,SqL X.K H p xs∧k=!xs.isEmpty)∨(∃ xs,SqT X.K H p xs∧k=!xs.isEmpty)∨∃ kvs,H p=some (.dK kvs)∧k=!kvs.isEmpty:=e
  rcases e' with ⟨xs,hx,e'⟩ | ⟨xs,hx,e'⟩ | ⟨kvs,hx,e'⟩
  ·subst e'
   obtain ⟨its,r,pl,hz⟩:=I.list hx
   have hlen:=r.length
   exact wpAny_truthy_list pl.isList (by simp only [List.size_toArray]; omega) ⟨H,I.tok _,by rw [isEmpty_of r]; exact q⟩
  ·subst e'
   obtain ⟨its,r,pl,hz⟩:=I.tuple hx
   have hlen:=r.length
   exact truthy_tuple pl (by simp only [List.size_toArray]; omega) ⟨H,I.tok _,by rw [isEmpty_of r]; exact q⟩
  ·subst e'
   obtain ⟨hz,hS,vs,r,m⟩:kvs.length≤sizeLine∧(p == sysModules)=false∧∃ vs,KV kvs vs∧s.heap.DictOf (mixKind X.prog X.w) p vs:=I.hok p _ hx
   have hlen:kvs.length=vs.length:=Paired.length r
   exact wpAny_truthy_dict hS m (by omega) ⟨H,I.tok _,by rw [isEmpty_kv r]; exact q⟩
 | _=>exact (show False from e).elim
theorem pt_truth (ha:PE X a ta) (he:∀ whole,isTrue a X.env whole=(do let v ← whole; standAt a.pos; holding [v] (truthy v))) :
  PT X a (fun σ H Q=>ta σ H fun x H'=>∃ k,TruV X.K x H' k∧Q k H'):=by
 intro pins s σ H Q I h
 refine isTrue_plain (thn (ha pins s σ H _ I h) fun v s1 zz8=>?_) (he _)
 obtain ⟨x,H1,I1,r1,q1⟩:=zz8
 exact tru_ok pins s1 σ H1 x v Q I1 r1 q1
theorem vals1 {x:V} {us:List Value} (r:Vals [x] us):∃ u,us=[u]∧RelV x u:=by
 cases r with
 | cons r1 r2=>cases r2; exact ⟨_,rfl,r1⟩
end
end L2
namespace L2
open PySem PySem.Spec PyProof.Rows
structure ObjM (h:Heap) (x dx C:Addr) (mA:Str→Option Value):Prop where
 obj:h.get? x=some (PySem.W.instObj C dx)
 ns:h.Ns1 dx mA
 ne:dx≠x
theorem lookIn_ns {h:Heap} {dx:Addr} {mA:Str→Option Value} (n:h.Ns1 dx mA):∃ od,h.get? dx=some od∧∀ name,PySem.W.lookIn name od=some (mA name):=by
 obtain ⟨o,es,ep,ho,hd,hk,_,hm⟩:=n
 refine ⟨o,ho,fun name=>?_⟩
 have e:=hm name
 unfold nsFind findBy at e
 rw [← Array.find?_toList] at e
 unfold PySem.W.lookIn
 rw [hd]
 dsimp only
 split
 ·rename_i y q
  rw [q] at e
  exact congrArg some e
 ·rename_i q
  rw [q] at e
  have a:es.toList.any (·.refKey)=false:=by
   rw [List.any_eq_false]
   intro y hy
   obtain ⟨z,t,hkey⟩:=hk y (Array.mem_toList_iff.mp hy)
   simp [DictEntry.refKey,hkey]
  have a':¬ es.toList.any (·.refKey)=true:=by rw [a]; exact Bool.false_ne_true
  rw [if_neg a']
  exact congrArg some e
theorem ObjM.look {h:Heap} {x dx C:Addr} {mA:Str→Option Value} (I:ObjM h x dx C mA):∃ od,PySem.W.InstAt h x (PySem.W.instObj C dx) C (some od)∧∀ name,PySem.W.lookIn name od=some (mA name) :=
 let ⟨od,ho,hl⟩:=lookIn_ns I.ns
 ⟨od,⟨I.obj,rfl,rfl,ho⟩,hl⟩
section
variable {prog:Program} {w:World} {A:Around} {E:Value→Shared→Prop} {s:Shared} {K:PySem.W.Frag} {x dx C f:Addr} {mA:Str→Option Value} {name:Str} {v:Value}
theorem get_map {expr:Bool} {Q:Value→Shared→Prop} (X:K.In s.heap) (I:ObjM s.heap x dx C mA) (hg:PySem.W.plainGet K C name=true) (hh:PySem.W.hasDictIn K C=true)
  (ha:PySem.W.findIn K (.ref C) name=some none) (hv:mA name=some v) (hv':PySem.W.handedIn v=true) (h:Q v { s with toks:=s.toks + 1 }) :
  wpAny (model prog w) A (getAttr (.ref x) name expr) Q E s:=by
 obtain ⟨od,J,hl⟩:=I.look
 exact PySem.W.get_value X J (PySem.W.plainGet_of hg).1 (PySem.W.findObj_own hh ha rfl (by rw [hl,hv])) hv' h
theorem get_meth {pl:Sem Bool} {Q:Value × List Value→Shared→Prop} (X:K.In s.heap) (I:ObjM s.heap x dx C mA) (hg:PySem.W.plainGet K C name=true)
  (hf:PySem.W.findIn K (.ref C) name=some (some (.ref f))) (ht:PySem.W.isFn K (.ref f)=true) (hv:mA name=none) (h:Q (.ref f,[.ref x]) s) :
  wpAny (model prog w) A (getMethod (.ref x) name pl) Q E s:=by
 obtain ⟨od,J,hl⟩:=I.look
 exact PySem.W.method_fn X J (PySem.W.plainGet_of hg).1 (PySem.W.plainGet_of hg).2 hf (beq_iff_eq.mp ht) (by show (PySem.W.lookIn name od).map (·.isSome)=some false; rw [hl,hv]; rfl) h
theorem set_map {ns:List Str} {Q:Unit→Shared→Prop} (X:K.In s.heap) (I:ObjM s.heap x dx C mA)
  (hs:PySem.W.findIn K (.ref C) "__setattr__"=some (some (.builtin "object.__setattr__"))) (hp:PySem.W.plainOver K C=true) (ht:PySem.W.takerIn K C name=some none) (hh:PySem.W.hasDictIn K C=true)
  (hw:PySem.Within mA ns) (hsz:ns.length≤sizeLine)
  (h:∀ h',ObjM h' x dx C (fun y=>if y=name then some v else mA y)→Heap.SameBut dx s.heap h'→Q () { s with heap:=h',toks:=s.toks + 2 }) :
  wpAny (model prog w) A (setAttr (.ref x) name v) Q E s:=by
 obtain ⟨od,J,hl⟩:=I.look
 refine PySem.W.set_plain X J hs (PySem.W.osa_open (s:={ s with toks:=s.toks + 1 }) (r:=none) X J hp ht fun b=>?_)
 obtain ⟨cd,hc,hd'⟩:=PySem.W.any_some hh
 have hx:s.heap.get? x=some ⟨.ref C,some dx,.plain,#[]⟩:=I.obj
 refine wpAny_bind (wpAny_pure (wpAny_bind (wpAny_bind (wpAny_loadPart hx (wpAny_bind (PySem.W.Looks.here (s:={ s with toks:=s.toks + 1 }) (PySem.W.looks_clsIn X hc) ?_))))))
 rw [hd']
 refine wpAny_pure (a:=some dx) (wpAny_bind (wpAny_pure (wpAny_bind ?_)))
 refine wpAny_nsSet1 (s:={ s with toks:=s.toks + 1 }) I.ns fun h' hn2 hs2=>?_
 obtain ⟨oD,esD,epD,hoD,hdD,hcD⟩:=hn2.count (PySem.Within.cons name v hw)
 refine wpAny_bind (wpAny_lookBehind hoD (by rw [hdD]; exact pastItsLine_dict (Nat.le_trans hcD (by rw [List.length_cons]; omega))) ?_)
 exact wpAny_pure (h _ ⟨(hs2.2 _ (Ne.symm I.ne)).trans I.obj,hn2,I.ne⟩ hs2)
theorem make_map {R:Result→Shared→Prop} {vs:List Value} {kw:List (Str × Value)} (X:K.In s.heap) (hm:PySem.W.makesIn K C=true)
  (hi:PySem.W.findIn K (.ref C) "__init__"=some (some (.ref f))) (hf:PySem.W.typeIn K (.ref f)=some (.type "function"))
  (h:codeAny (model prog w) (A.under (.builtin "type.__call__" ⟨.ref C :: vs,kw⟩)) (.call (.ref f) ⟨.ref (s.heap.objs.size + 1) :: vs,kw⟩) (PySem.W.InitBack (s.heap.objs.size + 1) R)
   { s with heap:=(s.heap.push PySem.W.emptyDict).push (PySem.W.instObj C s.heap.objs.size) }) :
  codeAny (model prog w) A (.call (.ref C) ⟨vs,kw⟩) R s:=by
 obtain ⟨hh,g,d,t,os⟩:=s
 exact PySem.W.make_core (PySem.W.makes_of X hm) (PySem.W.looks_findIn X hi) (fun self=>PySem.W.bind_fn X self hf) (.inl rfl) h
end
noncomputable def putF (f:Str) (v:V):List (Str × V)→List (Str × V)
 | []=>[(f,v)]
 | (g,x) :: r=>if g=f then (g,v) :: r else (g,x) :: putF f v r
theorem lookup_putF (f g:Str) (v:V):∀ fs:List (Str × V),(putF f v fs).lookup g=if g=f then some v else fs.lookup g
 | []=>by
  show List.lookup g [(f,v)]=_
  by_cases h:g=f
  ·have hb:(g == f)=true:=beq_iff_eq.mpr h
   simp only [List.lookup,hb,if_pos h]
  ·have hb:(g == f)=false:=beq_eq_false_iff_ne.mpr h
   simp only [List.lookup,hb,if_neg h]
 | (k,x) :: r=>by
  have ih:=lookup_putF f g v r
  rw [show putF f v ((k,x) :: r)=(if k=f then (k,v) :: r else (k,x) :: putF f v r) from rfl]
  by_cases hk:k=f
  ·rw [if_pos hk]
   by_cases h:g=k
   ·have hb:(g == k)=true:=beq_iff_eq.mpr h
    simp only [List.lookup,hb,if_pos (h.trans hk)]
   ·have hb:(g == k)=false:=beq_eq_false_iff_ne.mpr h
    simp only [List.lookup,hb,if_neg (fun e:g=f=>h (e.trans hk.symm))]
  ·rw [if_neg hk]
   by_cases h:g=k
   ·have hb:(g == k)=true:=beq_iff_eq.mpr h
    simp only [List.lookup,hb,if_neg (fun e:g=f=>hk (h.symm.trans e))]
   ·have hb:(g == k)=false:=beq_eq_false_iff_ne.mpr h
    simp only [List.lookup,hb]
    exact ih
theorem keys_putF (f:Str) (v:V):∀ fs:List (Str × V),f∈(putF f v fs).map (·.1)∧∀ g,g∈fs.map (·.1)→g∈(putF f v fs).map (·.1)
 | []=>⟨by simp [putF],fun g h=>by simp at h⟩
 | (k,x) :: r=>by
  obtain ⟨i1,i2⟩:=keys_putF f v r
  rw [show putF f v ((k,x) :: r)=(if k=f then (k,v) :: r else (k,x) :: putF f v r) from rfl]
  by_cases hk:k=f
  ·rw [if_pos hk]
   subst hk
   exact ⟨by simp,fun g h=>by simpa using h⟩
  ·rw [if_neg hk]
   refine ⟨?_,fun g h=>?_⟩
   ·rw [List.map_cons]
    exact List.mem_cons_of_mem _ i1
   ·rw [List.map_cons] at h ⊢
    rcases List.mem_cons.mp h with e | e
    ·exact List.mem_cons.mpr (.inl e)
    ·exact List.mem_cons_of_mem _ (i2 g e)
theorem length_putF (f:Str) (v:V):∀ fs:List (Str × V),(putF f v fs).length≤fs.length + 1
 | []=>by simp [putF]
 | (k,x) :: r=>by
  have ih:=length_putF f v r
  rw [show putF f v ((k,x) :: r)=(if k=f then (k,v) :: r else (k,x) :: putF f v r) from rfl]
  by_cases hk:k=f
  ·rw [if_pos hk,List.length_cons,List.length_cons]; omega
  ·rw [if_neg hk,List.length_cons,List.length_cons]; omega
theorem RelO.some_of {v:V} {o:Option Value} (r:RelO (some v) o):∃ u,o=some u∧RelV v u:=by
 cases o with
 | none=>exact (show False from r).elim
 | some u=>exact ⟨u,rfl,r⟩
theorem RelO.none_of {o:Option Value} (r:RelO none o):o=none:=by
 cases o with
 | none=>rfl
 | some u=>exact (show False from r).elim
theorem handed_of {v:V} {u:Value} (r:RelV v u):PySem.W.handedIn u=true:=by
 cases v with
 | non=>cases (show u=Value.none from r); rfl
 | bl b=>cases (show u=Value.bool b from r); rfl
 | int i=>obtain ⟨t,e⟩:=(show ∃ t,u=Value.int i t from r); cases e; rfl
 | str x=>obtain ⟨t,e⟩:=(show ∃ t,u=Value.str x t from r); cases e; rfl
 | byt b=>obtain ⟨t,e⟩:=(show ∃ t,u=Value.bytes b t from r); cases e; rfl
 | flt b=>obtain ⟨t,e⟩:=(show ∃ t,u=Value.float b t from r); cases e; rfl
 | ref a=>cases (show u=Value.ref a from r); rfl
 | ty n=>cases (show u=Value.type n from r); rfl
section
variable {P:Program} {w:World} {H H':Hp} {h h':Heap} {a C dx:Addr} {fs fs':List (Str × V)}
theorem ins_get (hok:HOk P w H h) (e:H a=some (.ins C dx fs)):∃ mA,ObjM h a dx C mA∧(∀ f,RelO (fs.lookup f) (mA f))∧PySem.Within mA (fs.map (·.1))∧fs.length≤1000∧H dx=some (.own a):=by
 obtain ⟨d,z,ne,ob,mA,n,r,q⟩:=(show ObjOk P w H h a (.ins C dx fs) from hok a _ e)
 exact ⟨mA,⟨ob,n,ne⟩,r,q,z,d⟩
end
structure Cls (K:PySem.W.Frag) (C:Addr):Prop where
 pg:PySem.W.plainGet K C Str.empty=true
 hd:PySem.W.hasDictIn K C=true
 po:PySem.W.plainOver K C=true
 sa:PySem.W.findIn K (.ref C) "__setattr__"=some (some (.builtin "object.__setattr__"))
theorem Cls.get {K:PySem.W.Frag} {C:Addr} (c:Cls K C) (f:Str):PySem.W.plainGet K C f=true:=c.pg
noncomputable def NoAttr (K:PySem.W.Frag) (C:Addr) (f:Str):Prop:=PySem.W.findIn K (.ref C) f=some none
theorem NoAttr.taker {K:PySem.W.Frag} {C:Addr} {f:Str} (n:NoAttr K C f):PySem.W.takerIn K C f=some none:=by
 unfold PySem.W.takerIn
 rw [show PySem.W.findIn K (.ref C) f=some none from n]
 rfl
structure Meth (K:PySem.W.Frag) (C:Addr) (m:Str) (f:Addr):Prop where
 at_:PySem.W.findIn K (.ref C) m=some (some (.ref f))
 fn:PySem.W.isFn K (.ref f)=true
 kp:PySem.W.keepIn K (.ref f)=true
section
variable {X:Cx} {pins:List (Addr × Obj)} {σ:St} {H:Hp} {s:Shared} {a C dx:Addr} {fs:List (Str × V)} {f:Str} {v:V} {A:Around} {E:Value→Shared→Prop}
theorem getattr_ok {b:Bool} {Q:Value→Shared→Prop} (I:Inv X pins σ H s) (e:H a=some (.ins C dx fs)) (c:Cls X.K C) (n:NoAttr X.K C f) (l:fs.lookup f=some v)
  (h:∀ u s',Inv X pins σ H s'→RelV v u→Q u s'):wpAny (model X.prog X.w) A (getAttr (.ref a) f b) Q E s:=by
 obtain ⟨mA,O,r,_,_,_⟩:=ins_get I.hok e
 obtain ⟨u,hu,ru⟩:=RelO.some_of (v:=v) (o:=mA f) (by rw [← l]; exact r f)
 exact get_map I.kIn O (c.get f) c.hd n hu (handed_of ru) (h u _ (I.tok _) ru)
theorem getmeth_ok {m:Str} {g:Addr} {pl:Sem Bool} {Q:Value × List Value→Shared→Prop} (I:Inv X pins σ H s) (e:H a=some (.ins C dx fs)) (c:Cls X.K C) (k:Meth X.K C m g) (l:fs.lookup m=none)
  (h:Q (.ref g,[.ref a]) s):wpAny (model X.prog X.w) A (getMethod (.ref a) m pl) Q E s:=by
 obtain ⟨mA,O,r,_,_,_⟩:=ins_get I.hok e
 have hn:mA m=none:=RelO.none_of (by rw [← l]; exact r m)
 exact get_meth I.kIn O (c.get m) k.at_ k.fn hn h
theorem setattr_ok {y:V} {u:Value} {Q:Unit→Shared→Prop} (I:Inv X pins σ H s) (e:H a=some (.ins C dx fs)) (c:Cls X.K C) (n:NoAttr X.K C f) (hl:fs.length < 1000) (ry:RelV y u)
  (h:∀ s',Inv X pins σ (upd H a (.ins C dx (putF f y fs))) s'→Q () s'):wpAny (model X.prog X.w) A (setAttr (.ref a) f u) Q E s:=by
 obtain ⟨mA,O,r,wi,_,ho⟩:=ins_get I.hok e
 have hz:(fs.map (·.1)).length≤sizeLine:=by rw [List.length_map,sizeLine_eq]; omega
 refine set_map I.kIn O c.sa c.po n.taker c.hd wi hz fun h' O' sb=>h _ ?_
 have hd:∃ o,h'.get? dx=some o:=let ⟨o,_,_,e',_⟩:=O'.ns; ⟨o,e'⟩
 refine I.write (x:=a) (e:=dx) (by rw [e]; exact True.intro) (.inr ho) (fun b q hb z=>(sb.2 b hb).trans z) hd ?_
 refine ⟨by rw [upd_ne O.ne]; exact ho,?_,O.ne,O'.obj,_,O'.ns,fun g=>?_,fun g hg=>?_⟩
 ·have:=length_putF f y fs; omega
 ·show RelO ((putF f y fs).lookup g) (if g=f then some u else mA g)
  rw [lookup_putF]
  by_cases q:g=f
  ·rw [if_pos q,if_pos q]; exact ry
  ·rw [if_neg q,if_neg q]; exact r g
 ·by_cases q:g=f
  ·rw [q]; exact (keys_putF f y fs).1
  ·refine (keys_putF f y fs).2 g (wi g fun z=>hg ?_)
   show (if g=f then some u else mA g)=none
   rw [if_neg q]; exact z
theorem Inv.made (I:Inv X pins σ H s):Inv X pins σ (upd (upd H s.heap.objs.size (.own (s.heap.objs.size + 1))) (s.heap.objs.size + 1) (.ins C s.heap.objs.size []))
  { s with heap:=(s.heap.push PySem.W.emptyDict).push (PySem.W.instObj C s.heap.objs.size) }:=by
 have e1:(s.heap.push PySem.W.emptyDict).get? s.heap.objs.size=some PySem.W.emptyDict:=Heap.get?_push_size s.heap rfl
 have e2:((s.heap.push PySem.W.emptyDict).push (PySem.W.instObj C s.heap.objs.size)).get? (s.heap.objs.size + 1)=some (PySem.W.instObj C s.heap.objs.size):=by
  have:=Heap.get?_push_size (s.heap.push PySem.W.emptyDict) (o:=PySem.W.instObj C s.heap.objs.size) rfl
  rwa [Heap.size_push] at this
 have e3:(s.heap.push PySem.W.emptyDict).Ns s.heap.objs.size (fun _=>none):=⟨PySem.W.emptyDict,#[],_,e1,rfl,(fun e he=>absurd he (by simp)),fun _=>rfl⟩
 have I1:=I.laid (a:=s.heap.objs.size) (o:=.own (s.heap.objs.size + 1)) (h':=s.heap.push PySem.W.emptyDict) (t':=s.toks) (fun b u q=>Heap.get?_push_of_some _ q) (Nat.le_refl _) ⟨_,e1⟩
 refine I1.laid (a:=s.heap.objs.size + 1) (o:=.ins C s.heap.objs.size []) (t':=s.toks) (fun b u q=>Heap.get?_push_of_some _ q) (Nat.le_of_eq (Heap.size_push _ _)) ?_
 have ne:s.heap.objs.size≠s.heap.objs.size + 1:=Nat.ne_of_lt (Nat.lt_succ_self _)
 refine ⟨by rw [upd_ne ne,upd_same],Nat.zero_le _,ne,e2,fun _=>none,(Heap.Ns1.of_empty e3).at fun o q=>Heap.get?_push_of_some _ q,fun _=>True.intro,fun y hy=>absurd rfl hy⟩
theorem attr_of {prog:Program} {w:World} {env:Env} {e:Expr} {f:Str} {pos:Pos} {s:Shared} {Q:Value→Shared→Prop} (hb:attributeBase e f env (eval e env)=eval e env)
  (h:wpAny (model prog w) A (eval e env) (fun o s₁=>wpAny (model prog w) A (getAttr o f true) Q E s₁) E s):wpAny (model prog w) A (eval (.Attribute e f pos) env) Q E s :=
 Attribute_any_ h (by rw [arm_eval_Attribute,hb])
end
noncomputable def tFld (K:PySem.W.Frag) (ta:TE) (f:Str):TE:=fun σ H Q=>ta σ H fun x H1=>∃ a C dx fs v,x=.ref a∧H1 a=some (.ins C dx fs)∧Cls K C∧NoAttr K C f∧fs.lookup f=some v∧Q v H1
noncomputable def sFld (K:PySem.W.Frag) (ta tv:TE) (f:Str):TS:=fun D σ H=>tv σ H fun y H1=>ta σ H1 fun x H2=>∃ a C dx fs,x=.ref a∧H2 a=some (.ins C dx fs)∧Cls K C∧NoAttr K C f∧fs.length < 1000 ∧
 D.nx σ (upd H2 a (.ins C dx (putF f y fs)))
section
variable {X:Cx} {o e value:Expr} {f:Str} {pos pos' tpos:Pos} {ta tv:TE}
theorem pe_fld (he:PE X e ta) (hb:attributeBase e f X.env (eval e X.env)=eval e X.env):PE X (.Attribute e f pos) (tFld X.K ta f):=by
 intro pins s σ H Q I h
 refine attr_of hb (thn (he pins s σ H _ I h) fun u s1 zz9=>?_)
 obtain ⟨x,H1,I1,rx,a,C,dx,fs,v,ex,ea,c,n,l,q⟩:=zz9
 subst ex
 obtain rfl:u=Value.ref a:=rx
 exact getattr_ok I1 ea c n l fun u' s2 I2 ru=>⟨v,H1,I2,ru,q⟩
theorem ps_fld (ha:PE X o ta) (hv:PE X value tv) (hs:swapsWith value (some (.Attribute o f pos')) pos.line X.env=pure false):PS X (.Assign [.Attribute o f pos'] value pos) (sFld X.K ta tv f):=by
 intro pins s σ H D I h
 refine plainObj_wpAny_Assign_Attribute (thn (hv pins s σ H _ I h) fun u s1 zz9=>?_) hs
 obtain ⟨y,H1,I1,ry,q⟩:=zz9
 refine thn (ha pins s1 σ H1 _ I1 q) fun ov s2 zz10=>?_
 obtain ⟨x,H2,I2,rx,a,C,dx,fs,ex,ea,c,n,l,q2⟩:=zz10
 subst ex
 obtain rfl:ov=Value.ref a:=rx
 exact setattr_ok I2 ea c n l ry fun s3 I3=>⟨σ,_,I3,q2⟩
end
end L2
namespace L2
open PySem PySem.Spec PyProof.Rows
structure Room (k:Nat) (A:Around):Prop where
 hd:A.handled=none
 dp:A.depth + 3 * k + 5 < recursionLimit
 un:A.units + 16 * k + 200 < cLine
theorem Room.mono {j k:Nat} {A:Around} (r:Room k A) (h:j≤k):Room j A:=⟨r.hd,by have:=r.dp; omega,by have:=r.un; omega⟩
theorem Room.deeper {k:Nat} {A:Around} (r:Room (k + 1) A) (env:Env):Room k (A.deeper env) :=
 ⟨r.hd,by have:=r.dp; show A.depth + 1 + 3 * k + 5 < _; omega,by have:=r.un; show A.units + 3 + 16 * k + 200 < _; omega⟩
theorem make_depth {A:Around} {C:Addr} {us:List Value} {kw:List (Str × Value)}:(A.under (.builtin "type.__call__" ⟨.ref C :: us,kw⟩)).depth=A.depth + 1:=by
 first | rfl | simp [Around.under,Code.weight,Code.isCreation,Code.isGuard,Code.isCaller,Code.frames,Code.isFrame,guardIds]
theorem make_units {A:Around} {C:Addr} {us:List Value} {kw:List (Str × Value)}:(A.under (.builtin "type.__call__" ⟨.ref C :: us,kw⟩)).units=A.units + 1:=by
 first | rfl | simp [Around.under,Code.cUnits,Code.frames,Code.isFrame]
theorem Room.make {k:Nat} {A:Around} (r:Room (k + 1) A) (C:Addr) (us:List Value) (kw:List (Str × Value)):Room k (A.under (.builtin "type.__call__" ⟨.ref C :: us,kw⟩)) :=
 ⟨r.hd,by have:=r.dp; rw [make_depth]; omega,by have:=r.un; rw [make_units]; omega⟩
theorem Room.depth {k:Nat} {A:Around} (r:Room k A):A.depth < recursionLimit:=by have:=r.dp; omega
theorem Room.units {k:Nat} {A:Around} (r:Room k A):A.units + 64 < cLine:=by have:=r.un; omega
noncomputable def tNil:TA:=fun _ H Q=>Q [] H
noncomputable def tCons (ta:TE) (tr:TA):TA:=fun σ H Q=>ta σ H fun x H1=>tr σ H1 fun xs H2=>Q (x :: xs) H2
section
variable {X:Cx} {e:Expr} {es:List Expr} {te:TE} {t:TA} {pos:Pos}
theorem pa_nil:PA X [] tNil:=fun _ _ _ _ H Q I h=>Calls.spliced_nil ⟨[],H,I,.nil,h⟩
theorem pa_cons (ha:PE X e te) (hr:PA X es t) (hs:starEach (e :: es) X.env=(false,eval e X.env) :: starEach es X.env:=by rfl):PA X (e :: es) (tCons te t):=by
 intro pos pins s σ H Q I h
 rw [hs]
 show wpAny _ _ (spliced ((false,eval e X.env) :: backTo pos (starEach es X.env))) _ _ s
 refine Calls.spliced_cons (thn (ha pins s σ H _ I h) fun u s1 zz9=>?_)
 obtain ⟨x,H1,I1,r1,q1⟩:=zz9
 refine thn (hr pos pins s1 σ H1 _ I1 q1) fun us s2 zz11=>?_
 obtain ⟨xs,H2,I2,r2,q2⟩:=zz11
 exact ⟨x :: xs,H2,I2,.cons r1 r2,q2⟩
noncomputable def tTup (t:TA):TE:=fun σ H Q=>t σ H fun xs H1=>xs.length≤sizeLine∧∀ p,H1 p=none→Q (.ref p) (upd H1 p (.tup xs))
noncomputable def tLst (t:TA):TE:=fun σ H Q=>t σ H fun xs H1=>xs.length≤sizeLine∧∀ p,H1 p=none→Q (.ref p) (upd H1 p (.lst xs))
theorem pe_tup {x1} (h:PA X es t):PE X (.Tuple es x1 pos) (tTup t):=by
 intro pins s σ H Q I hq
 refine wpAny_Tuple_spliced (thn (h pos pins s σ H _ I hq) fun us s1 zz7=>?_)
 obtain ⟨xs,H1,I1,r,z,q⟩:=zz7
 refine ⟨by rw [← r.length]; exact z,?_⟩
 have hf:H1 s1.heap.objs.size=none:=I1.hok.fresh (Nat.le_refl _)
 refine ⟨.ref s1.heap.objs.size,upd H1 s1.heap.objs.size (.tup xs),I1.laid (t':=s1.toks) (fun b u e=>Heap.get?_push_of_some _ e) (Nat.le_refl _) ?_,rfl,q _ hf⟩
 exact ⟨z,us,r,⟨_,Heap.get?_push_size _ rfl,rfl,_,rfl⟩⟩
theorem pe_lst (h:PA X es t):PE X (.List es pos) (tLst t):=by
 intro pins s σ H Q I hq
 refine wpAny_List_spliced (thn (h pos pins s σ H _ I hq) fun us s1 zz7=>?_)
 obtain ⟨xs,H1,I1,r,z,q⟩:=zz7
 refine ⟨by rw [← r.length]; exact z,?_⟩
 have hf:H1 s1.heap.objs.size=none:=I1.hok.fresh (Nat.le_refl _)
 refine ⟨.ref s1.heap.objs.size,upd H1 s1.heap.objs.size (.lst xs),I1.laid (t':=s1.toks) (fun b u e=>Heap.get?_push_of_some _ e) (Nat.le_refl _) ?_,rfl,q _ hf⟩
 exact ⟨z,us,0,r,Heap.get?_push_size _ rfl⟩
end
noncomputable abbrev Sp:=List V→Hp→VK→XK→Prop
noncomputable abbrev CXT:=List Env→Hp→Shared→XK→Value→Shared→Prop
structure Env0 (P:Program) (w:World) (K:PySem.W.Frag) (mg:Str→Option Value) (base:Heap) (A:Around) (outer:List Env) (s:Shared) (H:Hp):Prop where
 frames:A.frames=some outer
 mod:Mod K mg base
 bs:∀ b o,base.get? b=some o→s.heap.get? b=some o∧H b=none
 bsz:base.objs.size≤s.heap.objs.size
 funs:s.heap.FunFrames base outer
 frf:∀ b∈frs outer,H b=none
 hok:HOk P w H s.heap
 bare:AllBare s.gens
noncomputable def CE (outer:List Env) (P:Program) (w:World) (H:Hp) (s:Shared) (Q:VK) (u:Value) (s':Shared):Prop :=
 ∃ v H',s'.os=s.os∧AllBare s'.gens∧Un (frs outer) [] H H' s.heap s'.heap∧HOk P w H' s'.heap∧RelV v u∧Q v H'
noncomputable def CR (CX:CXT) (outer:List Env) (P:Program) (w:World) (H:Hp) (s:Shared) (Q:VK) (E:XK) (r:Result) (s':Shared):Prop :=
 match r with
 | .ok (.ret u)=>CE outer P w H s Q u s'
 | .ok _=>False
 | .error e=>CX outer H s E e s'
structure FnOk (P:Program) (w:World) (K:PySem.W.Frag) (mg:Str→Option Value) (base:Heap) (CX:CXT) (k:Nat) (f:Addr) (fd:FuncData) (ps:List Str) (sp:Sp):Prop where
 len:∀ vs H Q E,sp vs H Q E→vs.length=ps.length
 run:∀ (A:Around) (outer:List Env) (s:Shared) (H:Hp) (args:Args) (us:List Value) (vs:List V) (Q:VK) (E:XK),Room k A→Env0 P w K mg base A outer s H→BindsTo s fd args (ps.zip us)→Vals vs us→sp vs H Q E →
  codeAny (model P w) A (.call (.ref f) args) (CR CX outer P w H s Q E) s
theorem Env0.make {P:Program} {w:World} {K:PySem.W.Frag} {mg:Str→Option Value} {base:Heap} {A:Around} {outer:List Env} {s:Shared} {H:Hp} (e:Env0 P w K mg base A outer s H) (C:Addr) (us:List Value) (kw:List (Str × Value)) :
  Env0 P w K mg base (A.under (.builtin "type.__call__" ⟨.ref C :: us,kw⟩)) outer s H:=⟨by first | exact e.frames | (simpa [Around.under,Code.envs,Code.isFrame,pushEnvs] using e.frames),e.mod,e.bs,e.bsz,e.funs,e.frf,e.hok,e.bare⟩
section
variable {X:Cx} {pins:List (Addr × Obj)} {σ:St} {H:Hp} {s s':Shared}
theorem Inv.env0 (I:Inv X pins σ H s):Env0 X.prog X.w X.K X.mg X.base X.A X.stack s H :=
 ⟨I.ok.frames,I.ok.mod,I.bs,Nat.le_trans I.ok.bsz I.sz,I.stack,I.stkFree,I.hok,I.bare⟩
theorem Inv.after {Q:VK} {u:Value} (I:Inv X pins σ H s) (h:CE X.stack X.prog X.w H s Q u s'):EP X pins σ Q u s':=by
 obtain ⟨v,H',os,bare,un,hok,r,q⟩:=h
 obtain ⟨hh,g,d,t,os'⟩:=s'
 obtain rfl:os'=s.os:=os
 exact ⟨v,H',I.call (h':=hh) (g':=g) (d':=d) (t':=t) (ch:=[]) un hok bare (fun b z=>absurd z (by simp)),r,q⟩
end
noncomputable def tCall (sp:Sp) (dvs:List V) (E:XK) (t:TA):TE:=fun σ H Q=>t σ H fun vs H1=>sp (vs ++ dvs) H1 Q E
noncomputable def tMeth (C:Addr) (m:Str) (sp:Sp) (dvs:List V) (E:XK) (ta:TE) (t:TA):TE:=fun σ H Q=>ta σ H fun x H1=>∃ a dx fs,x=.ref a∧H1 a=some (.ins C dx fs)∧fs.lookup m=none ∧
 t σ H1 fun vs H2=>sp (x :: (vs ++ dvs)) H2 Q E
noncomputable def tMake (C:Addr) (sp:Sp) (dvs:List V) (E:XK) (t:TA):TE:=fun σ H Q=>t σ H fun vs H1=>∀ x dx,H1 x=none→H1 dx=none→dx≠x →
 sp (.ref x :: (vs ++ dvs)) (upd (upd H1 dx (.own x)) x (.ins C dx [])) (fun v H2=>v=.non∧Q (.ref x) H2) E
noncomputable def Binds (K:PySem.W.Frag) (fd:FuncData) (ps:List Str) (ds:List Value):Prop :=
 ∀ (s:Shared) (us:List Value),K.In s.heap→(us ++ ds).length=ps.length→BindsTo s fd ⟨us,[]⟩ (ps.zip (us ++ ds))
theorem Binds.all {K:PySem.W.Frag} {fd:FuncData} {ps:List Str} (h:∀ us:List Value,us.length=ps.length→bindArgs fd ⟨us,[]⟩=pure (ps.zip us)):Binds K fd ps []:=fun s us _ hl=>by
 rw [List.append_nil] at hl ⊢
 exact .of_eq (h us hl)
noncomputable def Passes (CX:CXT) (X:Cx) (E:XK):Prop:=∀ (pins:List (Addr × Obj)) (σ:St) (H:Hp) (s:Shared) (e:Value) (s':Shared),Inv X pins σ H s→CX X.stack H s E e s'→X.xe e s'
section
variable {X:Cx} {CX:CXT} {k:Nat} {f C:Addr} {fd:FuncData} {ps:List Str} {sp:Sp} {dvs:List V} {ds:List Value} {E:XK} {x m:Str} {p pos apos:Pos} {e o:Expr} {es:List Expr} {ta:TE} {t:TA}
theorem run_fn {pins:List (Addr × Obj)} {σ:St} {H:Hp} {s:Shared} {Q:VK} {us:List Value} {vs:List V} (F:FnOk X.prog X.w X.K X.mg X.base CX k f fd ps sp) (hr:Room k X.A) (hb:Binds X.K fd ps ds) (hd:Vals dvs ds) (hx:Passes CX X E)
  (I:Inv X pins σ H s) (r:Vals vs us) (h:sp (vs ++ dvs) H Q E):wpAny (model X.prog X.w) X.A (call (.ref f) us) (EP X pins σ Q) X.xe s:=by
 have r2:Vals (vs ++ dvs) (us ++ ds):=r.append hd
 have hl:(us ++ ds).length=ps.length:=by rw [← r2.length]; exact F.len _ _ _ _ h
 refine wpAny_call (codeAny_mono (F.run X.A X.stack s H ⟨us,[]⟩ (us ++ ds) (vs ++ dvs) Q E hr I.env0 (hb s us I.kIn hl) r2 h) fun r s' hq=>?_)
 cases r with
 | error e=>exact hx pins σ H s e s' I hq
 | ok fl =>
  cases fl with
  | ret u=>exact I.after hq
  | next=>exact False.elim hq
  | brk=>exact False.elim hq
  | cont=>exact False.elim hq
theorem pe_call (F:FnOk X.prog X.w X.K X.mg X.base CX k f fd ps sp) (hr:Room k X.A) (hg:Gl X x) (hm:X.mg x=some (.ref f)) (hk:PySem.W.keepIn X.K (.ref f)=true) (hb:Binds X.K fd ps ds) (hd:Vals dvs ds) (hx:Passes CX X E)
  (ha:PA X (e :: es) t) (hdb:(x == ("__debug__":Str))=false:=by decide) (he:starEach (e :: es) X.env=(false,eval e X.env) :: starEach es X.env:=by rfl) (hpl:(backTo pos (starEach es X.env)).any (·.1)=false:=by rfl) :
  PE X (.Call (.Name x p) (e :: es) [] pos) (tCall sp dvs E t):=by
 intro pins s σ H Q I h
 refine wpAny_Call_Name_kw (ld_glob I hg hm ?_ hdb)
 refine PySem.W.callWith_K (h₀:=X.base) I.ok.mod.kin hk (thn (ha pos pins s σ H _ I h) fun us s1 zz12=>?_) he hpl
 obtain ⟨vs,H1,I1,r,q⟩:=zz12
 refine ⟨I1.kIn,?_⟩
 exact run_fn F hr hb hd hx I1 r q
theorem pe_meth {pl:Sem Bool} (he:PE X o ta) (c:Cls X.K C) (hm:Meth X.K C m f) (F:FnOk X.prog X.w X.K X.mg X.base CX k f fd ps sp) (hr:Room k X.A) (hb:Binds X.K fd ps ds) (hd:Vals dvs ds) (hx:Passes CX X E) (ha:PA X (e :: es) t)
  (hst:starEach (e :: es) X.env=(false,eval e X.env) :: starEach es X.env:=by rfl) (hpl:(backTo pos (starEach es X.env)).any (·.1)=false:=by rfl)
  (ht:eval (.Call (.Attribute o m apos) (e :: es) [] pos) X.env=(do
   let ov ← eval o X.env
   standAt apos.atName
   let (f,first) ← holding [ov] (getMethod ov m pl)
   callWith pos f first (backTo pos (starEach (e :: es) X.env)) (backToKw pos (keywordEach [] X.env))):=by rfl) :
  PE X (.Call (.Attribute o m apos) (e :: es) [] pos) (tMeth C m sp dvs E ta t):=by
 intro pins s σ H Q I h
 refine PySem.W.methodCall_KW (pl:=pl) (thn (he pins s σ H _ I h) fun u s1 zz13=>?_) ht
 obtain ⟨x,H1,I1,rx,a,dx,fs,ex,ea,l,q⟩:=zz13
 subst ex
 obtain rfl:u=Value.ref a:=rx
 refine getmeth_ok I1 ea c hm l ?_
 refine PySem.W.callWith_K (first:=[.ref a]) (h₀:=X.base) I.ok.mod.kin hm.kp (thn (ha pos pins s1 σ H1 _ I1 q) fun us s2 zz14=>?_) hst hpl
 obtain ⟨vs,H2,I2,r,q2⟩:=zz14
 refine ⟨I2.kIn,?_⟩
 exact run_fn (us:=.ref a :: us) (vs:=.ref a :: vs) F hr hb hd hx I2 (.cons rfl r) q2
theorem pe_meth0 {pl:Sem Bool} (he:PE X o ta) (c:Cls X.K C) (hm:Meth X.K C m f) (F:FnOk X.prog X.w X.K X.mg X.base CX k f fd ps sp) (hr:Room k X.A) (hb:Binds X.K fd ps ds) (hd:Vals dvs ds) (hx:Passes CX X E)
  (ht:eval (.Call (.Attribute o m apos) [] [] pos) X.env=(do
   let ov ← eval o X.env
   standAt apos.atName
   let (f,first) ← holding [ov] (getMethod ov m pl)
   callWith pos f first (backTo pos (starEach [] X.env)) (backToKw pos (keywordEach [] X.env))):=by rfl) :
  PE X (.Call (.Attribute o m apos) [] [] pos) (tMeth C m sp dvs E ta tNil):=by
 intro pins s σ H Q I h
 refine PySem.W.methodCall_KW (pl:=pl) (thn (he pins s σ H _ I h) fun u s1 zz15=>?_) ht
 obtain ⟨x,H1,I1,rx,a,dx,fs,ex,ea,l,q⟩:=zz15
 subst ex
 obtain rfl:u=Value.ref a:=rx
 refine getmeth_ok I1 ea c hm l ?_
 exact PySem.W.callWith_K0 (first:=[.ref a]) I1.kIn hm.kp (run_fn (us:=[.ref a]) (vs:=[.ref a]) F hr hb hd hx I1 (.cons rfl .nil) q)
structure Mk (K:PySem.W.Frag) (C f:Addr):Prop where
 makes:PySem.W.makesIn K C=true
 init:PySem.W.findIn K (.ref C) "__init__"=some (some (.ref f))
 fn:PySem.W.isFn K (.ref f)=true
 kp:PySem.W.keepIn K (.ref C)=true
theorem run_make {pins:List (Addr × Obj)} {σ:St} {H:Hp} {s:Shared} {Q:VK} {us:List Value} {vs:List V} (M:Mk X.K C f) (F:FnOk X.prog X.w X.K X.mg X.base CX k f fd ps sp) (hr:Room (k + 1) X.A) (hb:Binds X.K fd ps ds) (hd:Vals dvs ds)
  (hx:Passes CX X E) (I:Inv X pins σ H s) (r:Vals vs us)
  (h:∀ x dx,H x=none→H dx=none→dx≠x→sp (.ref x :: (vs ++ dvs)) (upd (upd H dx (.own x)) x (.ins C dx [])) (fun v H2=>v=.non∧Q (.ref x) H2) E) :
  wpAny (model X.prog X.w) X.A (call (.ref C) us) (EP X pins σ Q) X.xe s:=by
 have hq:=h (s.heap.objs.size + 1) s.heap.objs.size (I.hok.fresh (Nat.le_succ _)) (I.hok.fresh (Nat.le_refl _)) (Nat.ne_of_lt (Nat.lt_succ_self _))
 have I2:=Inv.made (C:=C) I
 have r2:Vals (V.ref (s.heap.objs.size + 1) :: (vs ++ dvs)) (Value.ref (s.heap.objs.size + 1) :: (us ++ ds)):=.cons rfl (r.append hd)
 have hl:(Value.ref (s.heap.objs.size + 1) :: us ++ ds).length=ps.length:=by
  have e:=r2.length
  rw [F.len _ _ _ _ hq] at e
  exact e.symm
 refine wpAny_call (make_map (f:=f) I.kIn M.makes M.init (beq_iff_eq.mp M.fn) (codeAny_mono (F.run _ X.stack _ _ ⟨Value.ref (s.heap.objs.size + 1) :: us,[]⟩ (Value.ref (s.heap.objs.size + 1) :: (us ++ ds)) _ _ E (hr.make C us [])
  (I2.env0.make C us []) (hb _ (Value.ref (s.heap.objs.size + 1) :: us) I2.kIn hl) r2 hq) fun r s' hq'=>?_))
 cases r with
 | error e=>exact hx pins σ _ _ e s' I2 hq'
 | ok fl =>
  cases fl with
  | ret u =>
   obtain ⟨v,H',I3,rv,ev,q3⟩:=I2.after hq'
   subst ev
   exact ⟨rv,⟨V.ref (s.heap.objs.size + 1),H',I3,rfl,q3⟩⟩
  | next=>exact False.elim hq'
  | brk=>exact False.elim hq'
  | cont=>exact False.elim hq'
theorem pe_make (M:Mk X.K C f) (F:FnOk X.prog X.w X.K X.mg X.base CX k f fd ps sp) (hr:Room (k + 1) X.A) (hg:Gl X x) (hm:X.mg x=some (.ref C)) (hb:Binds X.K fd ps ds) (hd:Vals dvs ds) (hx:Passes CX X E)
  (ha:PA X (e :: es) t) (hdb:(x == ("__debug__":Str))=false:=by decide) (he:starEach (e :: es) X.env=(false,eval e X.env) :: starEach es X.env:=by rfl) (hpl:(backTo pos (starEach es X.env)).any (·.1)=false:=by rfl) :
  PE X (.Call (.Name x p) (e :: es) [] pos) (tMake C sp dvs E t):=by
 intro pins s σ H Q I h
 refine wpAny_Call_Name_kw (ld_glob I hg hm ?_ hdb)
 refine PySem.W.callWith_K (h₀:=X.base) I.ok.mod.kin M.kp (thn (ha pos pins s σ H _ I h) fun us s1 zz16=>?_) he hpl
 obtain ⟨vs,H1,I1,r,q⟩:=zz16
 refine ⟨I1.kIn,?_⟩
 exact run_make M F hr hb hd hx I1 r q
end
structure FnScope (N P:List Str) (sc:Scope):Prop where
 kind:sc.kind=.function
 co:sc.isCoroutine=false
 gen:sc.isGenerator=false
 nd:N.Nodup
 pre:N.take P.length=P
 par:∀ x∈P,sc.names.lookup x=some .local∨sc.names.lookup x=some .cell
 nofree:∀ y∈sc.names,y.2≠.free
theorem bindL_out {kindOf:Str→Option NameKind} {x:Str}:∀ {binds:List (Str × Value)} {m:Str→Option Value},(∀ v,(x,v) ∉ binds)→bindL kindOf binds m x=m x
 | [],_,_=>rfl
 | (n,v) :: r,m,h=>by
  unfold bindL
  rw [bindL_out fun w hw=>h w (List.mem_cons_of_mem _ hw)]
  split
  ·have:x≠n:=by rintro rfl; exact h v List.mem_cons_self
   simp [this]
  ·rfl
theorem bindC_out {kindOf:Str→Option NameKind} {x:Str}:∀ {binds:List (Str × Value)} {m:Str→Option Value},(∀ v,(x,v) ∉ binds)→bindC kindOf binds m x=m x
 | [],_,_=>rfl
 | (n,v) :: r,m,h=>by
  unfold bindC
  rw [bindC_out fun w hw=>h w (List.mem_cons_of_mem _ hw)]
  split
  ·rfl
  ·have:x≠n:=by rintro rfl; exact h v List.mem_cons_self
   simp [this]
theorem bindL_get {kindOf:Str→Option NameKind} {x:Str} {v:Value}:∀ {P:List Str} {vs:List Value} {i:Nat} {m:Str→Option Value},P.Nodup→P[i]?=some x→vs[i]?=some v→kindOf x=some .local →
  bindL kindOf (P.zip vs) m x=some v
 | [],_,_,_,_,h,_,_=>by simp at h
 | _ :: _,[],_,_,_,_,h,_=>by simp at h
 | p :: P,w :: vs,0,m,nd,h1,h2,hk=>by
  simp at h1 h2; subst h1; subst h2
  show bindL kindOf ((p,w) :: P.zip vs) m p=_
  unfold bindL
  rw [bindL_out fun v hv=>(List.nodup_cons.mp nd).1 (List.of_mem_zip hv).1,if_pos hk]
  simp
 | p :: P,w :: vs,i + 1,m,nd,h1,h2,hk=>by
  show bindL kindOf ((p,w) :: P.zip vs) m x=_
  unfold bindL
  exact bindL_get (i:=i) (List.nodup_cons.mp nd).2 (by simpa using h1) (by simpa using h2) hk
theorem bindC_get {kindOf:Str→Option NameKind} {x:Str} {v:Value}:∀ {P:List Str} {vs:List Value} {i:Nat} {m:Str→Option Value},P.Nodup→P[i]?=some x→vs[i]?=some v→kindOf x≠some .local →
  bindC kindOf (P.zip vs) m x=some v
 | [],_,_,_,_,h,_,_=>by simp at h
 | _ :: _,[],_,_,_,_,h,_=>by simp at h
 | p :: P,w :: vs,0,m,nd,h1,h2,hk=>by
  simp at h1 h2; subst h1; subst h2
  show bindC kindOf ((p,w) :: P.zip vs) m p=_
  unfold bindC
  rw [bindC_out fun v hv=>(List.nodup_cons.mp nd).1 (List.of_mem_zip hv).1,if_neg hk]
  simp
 | p :: P,w :: vs,i + 1,m,nd,h1,h2,hk=>by
  show bindC kindOf ((p,w) :: P.zip vs) m x=_
  unfold bindC
  exact bindC_get (i:=i) (List.nodup_cons.mp nd).2 (by simpa using h1) (by simpa using h2) hk
noncomputable def start (N:List Str) (vs:List V):St:=vs.map some ++ List.replicate (N.length - vs.length) none
noncomputable def cxOf (CX:CXT) (P:Program) (w:World) (K:PySem.W.Frag) (mg:Str→Option Value) (base:Heap) (N:List Str) (qual:Str) (scope:Scope) (f:Addr) (cd:Value) (A:Around) (outer:List Env) (s:Shared) (H:Hp) (E:XK):Cx where
 prog:=P
 w:=w
 K:=K
 mg:=mg
 base:=base
 A:=A.deeper (envOfC qual scope s.heap.objs.size f cd)
 N:=N
 s₀:=s
 H₀:=H
 env:=envOfC qual scope s.heap.objs.size f cd
 outer:=outer
 stack:=envOfC qual scope s.heap.objs.size f cd :: outer
 ex:=[]
 calm:=true
 fn:=fun _=>true
 pn:=[]
 xe:=fun e s'=>wpAny (model P w) (A.deeper (envOfC qual scope s.heap.objs.size f cd)) (leaving (envOfC qual scope s.heap.objs.size f cd) e) (fun _ s''=>CX outer H s E e s'') (fun e' s''=>CX outer H s E e' s'') s'
theorem cell_has {sc:Scope} {n:Nat} {x:Str} (h:sc.names.lookup x=some .cell):∃ c,(cellsFrom n sc.names []).lookup x=some c:=by
 have q:=PySem.W.cellsFrom_some sc.names n [] (.inl h)
 exact Option.isSome_iff_exists.mp q
theorem inv_start {CX:CXT} {P:Program} {w:World} {K:PySem.W.Frag} {mg:Str→Option Value} {base:Heap} {N ps:List Str} {qual:Str} {scope:Scope} {f:Addr} {cd:Value} {A:Around} {outer:List Env} {s s1:Shared} {H:Hp} {E:XK} {us:List Value} {vs:List V}
  (S:FnScope N ps scope) (hd:A.handled=none) (e0:Env0 P w K mg base A outer s H) (hl:vs.length=ps.length) (r:Vals vs us)
  (x:InCallC s s.heap.objs.size (bindL (envOfC qual scope s.heap.objs.size f cd).kindOf (ps.zip us) fun _=>none) (cellsFrom (s.heap.objs.size + 1) scope.names []) (bindC (envOfC qual scope s.heap.objs.size f cd).kindOf (ps.zip us) fun _=>none) s1) :
  Inv (cxOf CX P w K mg base N qual scope f cd A outer s H E) [] (start N vs) H s1:=by
 have hpl:ps.length≤N.length:=by have:=congrArg List.length S.pre; rw [List.length_take] at this; omega
 obtain ⟨h1,tk,rfl,hk⟩:=x.done
 have noA:∀ b:Addr,b ∉ (cxOf CX P w K mg base N qual scope f cd A outer s H E).ex:=fun b z=>absurd (show b∈([]:List Addr) from z) (by simp)
 refine ⟨⟨e0.mod,S.kind,rfl,rfl,Nat.le_refl _,fun y z c h1 h2=>?_,fun y hy=>?_,fun y c _ h=>?_,fun _=>hd,Around.frames_deeper e0.frames,.inr ⟨rfl,rfl⟩,fun b z=>absurd z (noA b),e0.bs,e0.bsz,fun b _ _=>noA b,fun b z=>absurd z (noA b),e0.funs,e0.frf⟩,
  rfl,e0.bare,Un.kept hk,⟨_,x.toInCall.ns,fun i y v h1 h2 h3=>?_⟩,fun y c h=>⟨_,x.cell y c h⟩,e0.hok.fresh (Nat.le_refl _),fun y c h=>?_,fun p hp=>absurd (show p∈([]:List (Addr × Obj)) from hp) (by simp),e0.hok.kept hk,?_⟩
 ·exact name_of_addr x.apart (PySem.mem_of_lookup h1) (PySem.mem_of_lookup h2)
 ·have hy:scope.names.lookup y=some .cell∨scope.names.lookup y=some .free:=hy
  rcases hy with hy | hy
  ·exact cell_has hy
  ·exact absurd rfl (S.nofree _ (PySem.mem_of_lookup hy))
 ·exact Nat.le_of_lt (x.above y c (PySem.mem_of_lookup h))
 ·have hi:i < vs.length:=by
   unfold start at h2
   by_cases hi:i < vs.length
   ·exact hi
   ·rw [List.getElem?_append_right (by simpa using hi)] at h2
    rw [List.getElem?_replicate] at h2
    split at h2 <;> cases h2
  have ha:vs[i]?=some v:=by
   unfold start at h2
   rw [List.getElem?_append_left (by simpa using hi),List.getElem?_map] at h2
   cases e:vs[i]? with
   | none=>rw [e] at h2; cases h2
   | some a=>rw [e] at h2; cases h2; rfl
  obtain ⟨u,hu,rv⟩:=r.get ha
  have hp:ps[i]?=some y:=by
   rw [← S.pre,List.getElem?_take_of_lt (by omega)]; exact h1
  have ndP:ps.Nodup:=by rw [← S.pre]; exact S.nd.sublist (List.take_sublist _ _)
  refine ⟨u,rv,?_⟩
  rcases S.par y (List.mem_of_getElem? hp) with k | k
  ·exact .inl ⟨k,bindL_get ndP hp hu k⟩
  ·obtain ⟨c,e⟩:=cell_has (n:=s.heap.objs.size + 1) k
   refine .inr ⟨.inl k,c,e,?_⟩
   have q:=x.cell y c e
   rw [bindC_get ndP hp hu (by show scope.names.lookup y≠_; rw [k]; decide)] at q
   exact q
 ·exact e0.hok.fresh (Nat.le_of_lt (x.above y c (PySem.mem_of_lookup h)))
 ·unfold start
  show _=N.length
  rw [List.length_append,List.length_map,List.length_replicate]
  omega
theorem fn_of {CX:CXT} {P:Program} {w:World} {K:PySem.W.Frag} {mg:Str→Option Value} {base:Heap} {k:Nat} {f:Addr} {name qual:Str} {params:Arguments} {body:List Stmt} {scope:Scope} {dV kV doc pm cdv ct oc:Value} {an od:Option Addr}
  {osl:Array (Option Value)} {N ps:List Str} {sp:Sp} (lk:K.lookup f=some ⟨oc,od,.func (PySem.W.fnOf name qual params body scope dV kV doc pm an cdv ct),osl⟩) (hcd:PySem.W.codeIn K cdv qual=true) (S:FnScope N ps scope)
  (len:∀ vs H Q E,sp vs H Q E→vs.length=ps.length)
  (hbody:∀ (A:Around) (outer:List Env) (s:Shared) (H:Hp) (vs:List V) (Q:VK) (E:XK),Room k (A.deeper (envOfC qual scope s.heap.objs.size f cdv))→sp vs H Q E →
   ∃ t,PSs (cxOf CX P w K mg base N qual scope f cdv A outer s H E) body t∧t { nx:=fun _ H'=>Q .non H',rt:=Q } (start N vs) H) :
  FnOk P w K mg base CX (k + 1) f (PySem.W.fnOf name qual params body scope dV kV doc pm an cdv ct) ps sp:=by
 refine ⟨len,fun A outer s H args us vs Q E hr e0 hb r hsp=>?_⟩
 have hl:=len _ _ _ _ hsp
 have KX:K.In s.heap:=e0.mod.kin.keeps fun b o e=>(e0.bs b o e).1
 have lim:s.heap.NoLimit:=e0.mod.nolimit.keeps fun b o e=>(e0.bs b o e).1
 have hkind:∀ y∈ps.zip us,scope.names.lookup y.1=some .local∨(scope.names.lookup y.1=some .cell∧((cellsFrom (s.heap.objs.size + 1) scope.names []).lookup y.1).isSome=true):=fun ⟨n,v⟩ hy=>by
  rcases S.par n (List.of_mem_zip hy).1 with q | q
  ·exact .inl q
  ·exact .inr ⟨q,PySem.W.cellsFrom_some _ _ _ (.inl q)⟩
 refine codeAny_call_function hr.depth (KX _ _ lk) rfl S.co S.gen rfl (PySem.W.codeRec_of KX hcd) (hb _ _ _ _ ?_)
 refine wpAny_newFunctionEnv_cells S.kind hkind fun env he s1 x=>?_
 subst he
 refine ⟨lim.keeps x.toInCall.keep,codeAny_func ?_⟩
 obtain ⟨t,ht,hq⟩:=hbody A outer s H vs Q E (hr.deeper _) hsp
 have I:Inv (cxOf CX P w K mg base N qual scope f cdv A outer s H E) [] (start N vs) H s1:=inv_start S hr.hd e0 hl r x
 refine wpAny_mono (ht [] s1 (start N vs) H _ I hq) (fun fl s' hs=>?_) fun e s' hs=>hs
 have fin:∀ {σ':St} {H':Hp} {v:V} {u:Value},Inv (cxOf CX P w K mg base N qual scope f cdv A outer s H E) [] σ' H' s'→RelV v u→Q v H'→CE outer P w H s Q u s' :=
  fun {σ' H' v u} J rv q=>⟨v,H',J.os,J.bare,J.base,J.hok,rv,q⟩
 cases fl with
 | ret u =>
  obtain ⟨v,σ',H',J,rv,q⟩:=hs
  exact fin J rv q
 | next =>
  obtain ⟨σ',H',J,q⟩:=hs
  exact fin (v:=V.non) (u:=Value.none) J rfl q
 | brk =>
  obtain ⟨_,_,_,q⟩:=hs
  exact False.elim q
 | cont =>
  obtain ⟨_,_,_,q⟩:=hs
  exact False.elim q
end L2
namespace L2
open PySem PySem.Spec PyProof.Rows
section
variable {X:Cx} {x:Str} {p pos:Pos} {e:Expr} {es:List Expr} {t:TA} {id T:String} {r:List V→Hp→VK→Prop}
noncomputable def tCB (r:List V→Hp→VK→Prop) (t:TA):TE:=fun σ H Q=>t σ H fun vs H1=>r vs H1 Q
theorem pe_callB (hc:CallR X (.builtin id) r) (hg:Gl X x) (hm:X.mg x=none) (hv:bootBuiltins x=some (.builtin id)) (ha:PA X (e :: es) t) (hn:x≠"__name__":=by decide) (hdb:(x == ("__debug__":Str))=false:=by decide)
  (he:starEach (e :: es) X.env=(false,eval e X.env) :: starEach es X.env:=by rfl) (hpl:(backTo pos (starEach es X.env)).any (·.1)=false:=by rfl):PE X (.Call (.Name x p) (e :: es) [] pos) (tCB r t):=by
 intro pins s σ H Q I h
 refine wpAny_Call_Name_kw (ld_blt I hg hm hv ?_ hn hdb)
 refine PyProof.Rows.callWith_builtin1 (thn (ha pos pins s σ H _ I h) fun us s1 zz17=>?_) he hpl
 obtain ⟨vs,H1,I1,r1,q1⟩:=zz17
 exact hc pins s1 σ H1 vs us Q I1 r1 q1
theorem pe_callTy (hc:CallR X (.type T) r) (hg:Gl X x) (hm:X.mg x=none) (hv:bootBuiltins x=some (.type T)) (ha:PA X (e :: es) t) (hn:x≠"__name__":=by decide) (hdb:(x == ("__debug__":Str))=false:=by decide)
  (he:starEach (e :: es) X.env=(false,eval e X.env) :: starEach es X.env:=by rfl) (hpl:(backTo pos (starEach es X.env)).any (·.1)=false:=by rfl):PE X (.Call (.Name x p) (e :: es) [] pos) (tCB r t):=by
 intro pins s σ H Q I h
 refine wpAny_Call_Name_kw (ld_blt I hg hm hv ?_ hn hdb)
 refine PyProof.Rows.callWith_type1 (thn (ha pos pins s σ H _ I h) fun us s1 zz18=>?_) he hpl
 obtain ⟨vs,H1,I1,r1,q1⟩:=zz18
 exact hc pins s1 σ H1 vs us Q I1 r1 q1
end
end L2
namespace HT
open PySem PyProof.Rows
section
variable {prog:Program} {w:World} {A:Around} {E:Value→Shared→Prop} {s:Shared}
noncomputable def sIx (n d:Nat):Option Int→Nat
 | none=>d
 | some v=>if v < 0 then (v + (n:Int)).toNat else min v.toNat n
theorem sIx_none (n d:Nat):sIx n d none=d:=rfl
theorem sIx_nat (n d k:Nat):sIx n d (some (k:Int))=min k n:=by
 show (if (k:Int) < 0 then ((k:Int) + (n:Int)).toNat else min (k:Int).toNat n)=min k n
 rw [if_neg (by omega),Int.toNat_natCast]
end
end HT
namespace L2
open PySem PySem.Spec PyProof.Rows
noncomputable abbrev TO:=St→Hp→(Option Int→Hp→Prop)→Prop
noncomputable def PO (X:Cx) (e:Option Expr) (t:TO):Prop :=
 ∀ (pins:List (Addr × Obj)) (s:Shared) (σ:St) (H:Hp) (Q:Option Int→Hp→Prop),Inv X pins σ H s→t σ H Q →
  wpAny (model X.prog X.w) X.A (evalPart e X.env) (fun u s'=>∃ o H',Inv X pins σ H' s'∧IsPart u o∧Q o H') X.xe s
noncomputable def tNoPart:TO:=fun _ H Q=>Q none H
noncomputable def tPart (t:TE):TO:=fun σ H Q=>t σ H fun x H1=>∃ i,x=.int i∧Q (some i) H1
theorem intsAre_of {ns:List Int}:∀ {us:List Value},Vals (ns.map V.int) us→IntsAre us ns:=by
 induction ns with
 | nil=>intro us r; rw [List.map_nil] at r; cases r; exact .nil
 | cons n ns ih =>
  intro us r
  rw [List.map_cons] at r
  cases r with
  | cons r1 r2 =>
   obtain ⟨t,e⟩:=r1
   subst e
   exact .cons n t (ih r2)
section
variable {X:Cx} {e:Expr} {te:TE} {lo hi:Option Expr} {tl th:TO} {pos p2:Pos}
theorem po_none:PO X none tNoPart:=by
 intro pins s σ H Q I h
 rw [evalPart_none]
 exact wpAny_pure ⟨none,H,I,.none,h⟩
theorem po_some (h:PE X e te):PO X (some e) (tPart te):=by
 intro pins s σ H Q I hw
 rw [evalPart_some]
 refine thn (h pins s σ H _ I hw) fun u s1 zz9=>?_
 obtain ⟨x,H1,I1,r1,q1⟩:=zz9
 obtain ⟨i,rfl,q⟩:=q1
 obtain ⟨t,rfl⟩:=r1
 exact ⟨some i,H1,I1,.int i t,q⟩
noncomputable def SlR (X:Cx) (r:V→Option Int→Option Int→Hp→VK→Prop):Prop :=
 ∀ (pins:List (Addr × Obj)) (s:Shared) (σ:St) (H:Hp) (x:V) (v vl vu:Value) (lo hi:Option Int) (sl:Addr) (Q:VK),Inv X pins σ H s→RelV x v→s.heap.IsSliceOf sl vl vu .none→IsPart vl lo→IsPart vu hi→r x lo hi H Q →
  ∃ T id,typeLookup (.type T) "__getitem__"=pure (some (.builtin id))∧s.TypeIs v T∧wpAny (model X.prog X.w) X.A (getItem v (.ref sl)) (EP X pins σ Q) X.xe s
noncomputable def tSl (r:V→Option Int→Option Int→Hp→VK→Prop) (te:TE) (tl th:TO):TE:=fun σ H Q=>te σ H fun x H1=>tl σ H1 fun l H2=>th σ H2 fun u H3=>r x l u H3 Q
theorem pe_slice {r:V→Option Int→Option Int→Hp→VK→Prop} (hr:SlR X r) (he:PE X e te) (hl:PO X lo tl) (hu:PO X hi th):PE X (.Subscript e (.Slice lo hi none p2) pos) (tSl r te tl th):=by
 intro pins s σ H Q I h
 refine Subscript_ (thn (he pins s σ H _ I h) fun v s1 zz9=>?_)
 obtain ⟨x,H1,I1,r1,q1⟩:=zz9
 refine wpAny_Slice (thn (hl pins s1 σ H1 _ I1 q1) fun vl s2 zz19=>?_)
 obtain ⟨l,H2,I2,pl,q2⟩:=zz19
 refine thn (hu pins s2 σ H2 _ I2 q2) fun vu s3 zz9=>?_
 obtain ⟨u,H3,I3,pu,q3⟩:=zz9
 rw [evalPart_none]
 refine wpAny_pure ?_
 have I4:Inv X pins σ H3 { s3 with heap:=s3.heap.push { cls:=.type "slice",data:=.fields #[vl,vu,.none] } }:=I3.kept (t':=s3.toks) fun b ob q=>Heap.get?_push_of_some _ q
 obtain ⟨T,id,hT,ht,hg⟩:=hr pins { s3 with heap:=s3.heap.push { cls:=.type "slice",data:=.fields #[vl,vu,.none] } } σ H3 x v vl vu l u s3.heap.objs.size Q I4 r1 (Heap.IsSliceOf.new ..) pl pu q3
 show wpAny (model X.prog X.w) X.A (subscriptTail e (.Slice lo hi none p2) v (.ref s3.heap.objs.size)) (EP X pins σ Q) X.xe { s3 with heap:=s3.heap.push { cls:=.type "slice",data:=.fields #[vl,vu,.none] } }
 exact tail_any (ops:=[.ref s3.heap.objs.size,v]) ht hT hg (by with_unfolding_all rfl)
noncomputable def cutV (xs:List V) (lo hi:Option Int):List V:=(xs.drop (HT.sIx xs.length 0 lo)).take (HT.sIx xs.length xs.length hi - HT.sIx xs.length 0 lo)
theorem cutV_length (xs:List V) (lo hi:Option Int):(cutV xs lo hi).length≤xs.length:=by
 unfold cutV
 rw [List.length_take,List.length_drop]
 omega
end
end L2
namespace L2
open PySem PySem.Spec PyProof.Rows
noncomputable def ixN (n:Nat) (i:Int):Option Nat:=if 0≤i then (if i < n then some i.toNat else none) else if -(n:Int)≤i then some (i + n).toNat else none
noncomputable def atI {α:Type} (xs:List α) (i:Int):Option α:=(ixN xs.length i).bind fun j=>xs[j]?
theorem ixN_seq {n:Nat} {i:Int} {j:Nat} (h:ixN n i=some j):seqIndex? i n=some j∧j < n∧-(n:Int)≤i∧i < n:=by
 unfold ixN at h
 by_cases h0:0≤i
 ·rw [if_pos h0] at h
  by_cases h1:i < n
  ·rw [if_pos h1] at h
   have e:i.toNat=j:=Option.some.inj h
   exact ⟨by rw [seqIndex_of h0 h1,e],by omega,by omega,h1⟩
  ·rw [if_neg h1] at h; cases h
 ·rw [if_neg h0] at h
  by_cases h1:-(n:Int)≤i
  ·rw [if_pos h1] at h
   have e:(i + n).toNat=j:=Option.some.inj h
   exact ⟨by rw [seqIndex_neg (by omega) h1,e],by omega,h1,by omega⟩
  ·rw [if_neg h1] at h; cases h
theorem atI_get {α:Type} {xs:List α} {i:Int} {v:α} (h:atI xs i=some v):∃ j,seqIndex? i xs.length=some j∧xs[j]?=some v∧j < xs.length∧-(xs.length:Int)≤i∧i < xs.length:=by
 unfold atI at h
 cases e:ixN xs.length i with
 | none=>rw [e] at h; cases h
 | some j =>
  rw [e] at h
  obtain ⟨h1,h2,h3,h4⟩:=ixN_seq e
  exact ⟨j,h1,h,h2,h3,h4⟩
theorem atI_nat {α:Type} {xs:List α} {j:Nat} {v:α} (h:xs[j]?=some v):atI xs (j:Int)=some v:=by
 have hj:j < xs.length:=(List.getElem?_eq_some_iff.mp h).1
 have e:ixN xs.length (j:Int)=some j:=by
  unfold ixN
  rw [if_pos (by omega),if_pos (by omega)]; simp
 unfold atI; rw [e]; exact h
noncomputable def PlainIx (b:Expr):Prop:=∀ o i,subscripted b false o i=operate [o,i] (getItem o i)
noncomputable def IxR (X:Cx) (r:R2):Prop :=
 ∀ (value slice:Expr) (pins:List (Addr × Obj)) (s:Shared) (σ:St) (H:Hp) (x y:V) (v u:Value) (Q:VK),Inv X pins σ H s→RelV x v→RelV y u→r x y H Q →
  subscripted slice false v u=operate [v,u] (getItem v u)→wpAny (model X.prog X.w) X.A (subscriptTail value slice v u) (EP X pins σ Q) X.xe s
noncomputable def MtR (X:Cx) (id:String) (r:V→List V→Hp→VK→Prop):Prop :=
 ∀ (pins:List (Addr × Obj)) (s:Shared) (σ:St) (H:Hp) (x:V) (xs:List V) (v:Value) (us:List Value) (Q:VK),Inv X pins σ H s→RelV x v→Vals xs us→r x xs H Q →
  wpAny (model X.prog X.w) X.A (call (.builtin id) (v :: us)) (EP X pins σ Q) X.xe s
section
variable {X:Cx} {a b:Expr} {ta tb:TE} {pos:Pos}
theorem pe_ix {r:R2} (hr:IxR X r) (ha:PE X a ta) (hb:PE X b tb) (hs:PlainIx b):PE X (.Subscript a b pos) (tOp r ta tb):=by
 intro pins s σ H Q I h
 exact Subscript_ (binT ha hb I h fun v u s2 x y H2 I2 rx ry q=>hr a b pins s2 σ H2 x y v u Q I2 rx ry q (hs _ _))
noncomputable def rIxL (K:PySem.W.Frag):R2:=fun x y H Q=>∃ p xs i v,x=.ref p∧y=.int i∧SqL K H p xs∧atI xs i=some v∧Q v H
noncomputable def rIxT (K:PySem.W.Frag):R2:=fun x y H Q=>∃ p xs i v,x=.ref p∧y=.int i∧SqT K H p xs∧atI xs i=some v∧Q v H
theorem ix_list:IxR X (rIxL X.K):=by
 intro value slice pins s σ H x y v u Q I rx ry h hs
 obtain ⟨p,xs,i,z,rfl,rfl,hq,he,q⟩:=h
 cases rx
 obtain ⟨t,rfl⟩:=ry
 obtain ⟨its,r,pl,hz⟩:=I.list hq
 obtain ⟨j,h1,h2,h3,h4,h5⟩:=atI_get he
 obtain ⟨w,ew,rw'⟩:=r.get h2
 have hl:=r.length
 have hn:=line63
 have fin:EP X pins σ Q w s:=⟨z,H,I,rw',q⟩
 by_cases h0:0≤i
 ·have hj:i.toNat=j:=by
   rw [seqIndex_of h0 h5] at h1
   exact Option.some.inj h1
  exact item_listR pl.isList h0 (by omega) (by rw [hj]; simpa using ew) fin hs
 ·have hj:(i + (its.toArray.size:Int)).toNat=j:=by
   rw [seqIndex_neg (by omega) h4] at h1
   rw [List.size_toArray,← hl]
   exact Option.some.inj h1
  exact subscriptTail_builtinR (x:=w) pl.isList.typeIs slot_list_getitem.lookup
   (wpAny_getItem_list_neg (Q:=fun r s'=>r=w∧EP X pins σ Q r s') pl.isList (by omega) (by rw [List.size_toArray] <;> omega) (by omega) (by rw [hj]; simpa using ew) ⟨rfl,fin⟩) hs
theorem ix_tup:IxR X (rIxT X.K):=by
 intro value slice pins s σ H x y v u Q I rx ry h hs
 obtain ⟨p,xs,i,z,rfl,rfl,hq,he,q⟩:=h
 cases rx
 obtain ⟨t,rfl⟩:=ry
 obtain ⟨its,r,pl,hz⟩:=I.tuple hq
 obtain ⟨j,h1,h2,h3,h4,h5⟩:=atI_get he
 obtain ⟨w,ew,rw'⟩:=r.get h2
 have hl:=r.length
 have hn:=line63
 have fin:EP X pins σ Q w s:=⟨z,H,I,rw',q⟩
 exact subscriptTail_builtinR (x:=w) pl.typeIs slot_tuple_getitem.lookup
  (getItem_tuple (j:=j) (Q:=fun r s'=>r=w∧EP X pins σ Q r s') pl (by omega) (by omega) (by rw [List.size_toArray,← hl]; exact h1) (by simpa using ew) ⟨rfl,fin⟩) hs
theorem mapSeq_set (its:List Value) (n j:Nat) (u:Value):Obj.mapSeq (·.setIfInBounds j u) { cls:=.type "list",data:=.seq its.toArray n }={ cls:=.type "list",data:=.seq (its.set j u).toArray n }:=by
 simp [Obj.mapSeq]
theorem Inv.lst {pins:List (Addr × Obj)} {σ:St} {H:Hp} {s:Shared} {p:Addr} {xs:List V} (I:Inv X pins σ H s) (h:H p=some (.lst xs)) :
  ∃ (its:List Value) (n:Nat),Vals xs its∧s.heap.get? p=some { cls:=.type "list",data:=.seq its.toArray n }∧xs.length≤sizeLine:=by
 obtain ⟨z,its,n,r,e⟩:=I.hok p _ h
 exact ⟨its,n,r,e,z⟩
theorem Inv.lstUpd {pins:List (Addr × Obj)} {σ:St} {H:Hp} {s:Shared} {p:Addr} {xs ys:List V} {its its':List Value} {n n':Nat} {f:Obj→Obj} (I:Inv X pins σ H s) (h:H p=some (.lst xs))
  (ho:s.heap.get? p=some { cls:=.type "list",data:=.seq its.toArray n }) (hf:f { cls:=.type "list",data:=.seq its.toArray n }={ cls:=.type "list",data:=.seq its'.toArray n' }) (r:Vals ys its') (hz:ys.length≤sizeLine) (t:Nat) :
  Inv X pins σ (upd H p (.lst ys)) { s with heap:=s.heap.update p f,toks:=t }:=by
 have e:(s.heap.update p f).get? p=some { cls:=.type "list",data:=.seq its'.toArray n' }:=by
  rw [Heap.get?_update_self f ho (by rw [hf] <;> rfl),hf]
 refine I.write (x:=p) (e:=p) (by rw [h]; trivial) (.inl rfl) (fun b u hb q=>(Heap.get?_update_other _ _ (Ne.symm hb)).trans q) ⟨_,e⟩ ?_
 exact ⟨hz,its',n',r,e⟩
noncomputable def rSetL:V→V→V→Hp→(Hp→Prop)→Prop:=fun o i v H Q=>∃ p xs k j,o=.ref p∧i=.int k∧H p=some (.lst xs)∧ixN xs.length k=some j∧Q (upd H p (.lst (xs.set j v)))
theorem set_list:PSet X rSetL:=by
 intro pins s σ H o i v ov iv u Q I ro ri rv h
 obtain ⟨p,xs,k,j,rfl,rfl,hp,hj,q⟩:=h
 cases ro
 obtain ⟨t,rfl⟩:=ri
 obtain ⟨its,n,r,ho,hz⟩:=I.lst hp
 obtain ⟨h1,h2,h3,h4⟩:=ixN_seq hj
 have hl:=r.length
 have hn:=line63
 have I':Inv X pins σ (upd H p (.lst (xs.set j v))) { s with heap:=s.heap.update p (Obj.mapSeq (·.setIfInBounds j u)) } :=
  I.lstUpd hp ho (mapSeq_set its n j u) (r.set rv j) (by rw [List.length_set]; exact hz) s.toks
 by_cases h0:0≤k
 ·have hk:k.toNat=j:=by
   rw [seqIndex_of h0 h4] at h1
   exact Option.some.inj h1
  exact PySem.W.ki_setAt ho h0 (by omega) (by rw [List.size_toArray,← hl]; exact h4) (by rw [hk]; exact ⟨_,I',q⟩)
 ·have hk:(k + (its.toArray.size:Int)).toNat=j:=by
   rw [seqIndex_neg (by omega) h3] at h1
   rw [List.size_toArray,← hl]
   exact Option.some.inj h1
  exact PySem.W.ki_setBack ho (by omega) (by rw [List.size_toArray,← hl]; exact h3) (by omega) (by rw [hk]; exact ⟨_,I',q⟩)
theorem slice_bounds (lo hi:Option Int) (n:Nat):(sliceBounds lo hi none n).1=((HT.sIx n 0 lo:Nat):Int)∧(sliceBounds lo hi none n).2.1=((HT.sIx n n hi:Nat):Int)∧(sliceBounds lo hi none n).2.2=1:=by
 refine ⟨?_,?_,rfl⟩
 ·cases lo with
  | none=>simp [sliceBounds,HT.sIx]
  | some i =>
   simp only [sliceBounds,HT.sIx,Option.getD_none,show (1:Int) > 0 by decide,if_true]
   by_cases h:i < 0
   ·simp only [h,if_true] <;> omega
   ·simp only [h,if_false] <;> omega
 ·cases hi with
  | none=>simp [sliceBounds,HT.sIx]
  | some i =>
   simp only [sliceBounds,HT.sIx,Option.getD_none,show (1:Int) > 0 by decide,if_true]
   by_cases h:i < 0
   ·simp only [h,if_true] <;> omega
   ·simp only [h,if_false] <;> omega
theorem slicePick_cut (its:List Value) (lo hi:Option Int):slicePick its.toArray lo hi none=((its.drop (HT.sIx its.length 0 lo)).take (HT.sIx its.length its.length hi - HT.sIx its.length 0 lo)).toArray:=by
 obtain ⟨h1,h2,h3⟩:=slice_bounds lo hi its.toArray.size
 unfold slicePick
 rw [h1,h2,h3]
 simp only [sliceRange_one,pick_run,List.size_toArray] <;> rfl
noncomputable def rSlL (K:PySem.W.Frag):V→Option Int→Option Int→Hp→VK→Prop:=fun x lo hi H Q=>∃ a xs,x=.ref a∧SqL K H a xs∧∀ p,H p=none→Q (.ref p) (upd H p (.lst (cutV xs lo hi)))
theorem sl_list:SlR X (rSlL X.K):=by
 intro pins s σ H x v vl vu lo hi sl Q I rx hs pl pu h
 obtain ⟨a,xs,rfl,hx,q⟩:=h
 cases rx
 obtain ⟨its,r,ht,hz⟩:=I.list hx
 have hlen:=r.length
 refine ⟨"list",_,slot_list_getitem.lookup,ht.isList.typeIs,?_⟩
 refine wpAny_getItem_list_slice ht.isList hs pl pu .none (by simp) ?_ (by rw [List.size_toArray] <;> omega)
 rw [slicePick_cut,← hlen]
 refine ⟨.ref s.heap.objs.size,_,I.laid (t':=s.toks) (o:=.lst (cutV xs lo hi)) (fun b ob q=>Heap.get?_push_of_some _ q) (Nat.le_refl _) ?_,rfl,q _ (I.hok.fresh (Nat.le_refl _))⟩
 exact ⟨Nat.le_trans (cutV_length xs lo hi) hz,_,0,(r.drop (HT.sIx xs.length 0 lo)).take (HT.sIx xs.length xs.length hi - HT.sIx xs.length 0 lo),Heap.get?_push_size _ rfl⟩
theorem call_len_seq:CallR X (.builtin "len") (fun xs H Q=>∃ p ys,xs=[.ref p]∧(SqL X.K H p ys∨SqT X.K H p ys)∧Q (.int ys.length) H):=by
 intro pins s σ H xs us Q I r h
 obtain ⟨p,ys,rfl,hq,q⟩:=h
 obtain ⟨u,rfl,rx⟩:=vals1 r
 cases rx
 have hn:=line63
 rcases hq with hq | hq
 ·obtain ⟨its,r',pl,hz⟩:=I.list hq
  have hlen:=r'.length
  exact Calls.call_len_list pl.isList (by simp only [List.size_toArray] <;> omega) ⟨.int ys.length,H,I.tok _,⟨s.toks + 1,by rw [List.size_toArray,hlen]⟩,q⟩
 ·obtain ⟨its,r',pl,hz⟩:=I.tuple hq
  have hlen:=r'.length
  exact len_tuple pl (by simp only [List.size_toArray] <;> omega) ⟨.int ys.length,H,I.tok _,⟨s.toks + 1,by rw [List.size_toArray,hlen]⟩,q⟩
theorem call_list_of:CallR X (.type "list") (fun xs H Q=>∃ p ys,xs=[.ref p]∧(SqL X.K H p ys∨SqT X.K H p ys)∧∀ l,H l=none→Q (.ref l) (upd H l (.lst ys))):=by
 intro pins s σ H xs us Q I r h
 obtain ⟨p,ys,rfl,hq,q⟩:=h
 obtain ⟨u,rfl,rx⟩:=vals1 r
 cases rx
 have fin:∀ (its:List Value),Vals ys its→ys.length≤sizeLine→∀ (h':Heap) (c':Nat),(∀ b o',s.heap.get? b=some o'→h'.get? b=some o') →
   h'.get? s.heap.objs.size=some { cls:=.type "list",dict:=none,data:=.seq its.toArray c',slots:=#[] }→EP X pins σ Q (.ref s.heap.objs.size) { s with heap:=h' }:=fun its r' hz h' c' kp e =>
  ⟨.ref s.heap.objs.size,_,I.laid (t':=s.toks) kp (Nat.le_refl _) (show ObjOk X.prog X.w _ h' _ (.lst ys) from ⟨hz,its,c',r',e⟩),rfl,q _ (I.hok.fresh (Nat.le_refl _))⟩
 rcases hq with hq | hq
 ·obtain ⟨its,r',pl,hz⟩:=I.list hq
  have hlen:=r'.length
  obtain ⟨o,ho,hc,n,hd⟩:=pl.isList
  exact call_list_seq p (.inl rfl) ho hc hd (fun h' c' kp e=>fin its r' hz h' c' kp e) (by simp only [List.size_toArray] <;> omega)
 ·obtain ⟨its,r',pl,hz⟩:=I.tuple hq
  have hlen:=r'.length
  obtain ⟨o,ho,hc,n,hd⟩:=pl
  exact call_list_seq p (.inr rfl) ho hc hd (fun h' c' kp e=>fin its r' hz h' c' kp e) (by simp only [List.size_toArray] <;> omega)
theorem call_tuple_of:CallR X (.type "tuple") (fun xs H Q=>∃ p ys,xs=[.ref p]∧((SqL X.K H p ys∧∀ l,H l=none→Q (.ref l) (upd H l (.tup ys)))∨(SqT X.K H p ys∧Q (.ref p) H))):=by
 intro pins s σ H xs us Q I r h
 obtain ⟨p,ys,rfl,h⟩:=h
 obtain ⟨u,rfl,rx⟩:=vals1 r
 cases rx
 rcases h with ⟨hq,q⟩ | ⟨hq,q⟩
 ·obtain ⟨its,r',pl,hz⟩:=I.list hq
  have hlen:=r'.length
  refine call_tuple_list pl.isList (fun h' kp=>?_) (by simp only [List.size_toArray] <;> omega)
  have I1:Inv X pins σ H { s with heap:=h' }:=I.kept (t':=s.toks) kp
  have I2:Inv X pins σ (upd H h'.objs.size (.tup ys)) { s with heap:=h'.push { cls:=.type "tuple",data:=.seq its.toArray } } :=
   I1.laid (t':=s.toks) (fun b o e=>Heap.get?_push_of_some _ e) (Nat.le_refl _) (show ObjOk X.prog X.w _ _ _ (.tup ys) from ⟨hz,its,r',IsTup.new _ _⟩)
  exact ⟨.ref h'.objs.size,_,I2,rfl,q _ (I1.hok.fresh (Nat.le_refl _))⟩
 ·obtain ⟨its,r',pl,hz⟩:=I.tuple hq
  exact call_tuple_same pl ⟨.ref p,H,I,rfl,q⟩
noncomputable def tyV (K:PySem.W.Frag) (T:String) (x:V) (H:Hp):Prop:=match x with
 | .str _=>T="str"
 | .int _=>T="int"
 | .ref p=>(T="list"∧∃ xs,SqL K H p xs)∨(T="tuple"∧∃ o,K.lookup p=some o∧o.cls=.type "tuple"∧o.dict=none) ∨
   (T="dict"∧((∃ kvs,H p=some (.dK kvs))∨∃ kvs,H p=some (.dT kvs)))∨(T="set"∧∃ S n,H p=some (.set S n))
 | _=>False
theorem tyV_is {pins:List (Addr × Obj)} {σ:St} {H:Hp} {s:Shared} {T:String} {x:V} {v:Value} (I:Inv X pins σ H s) (r:RelV x v) (ty:tyV X.K T x H) :
  s.TypeIs v T∧∀ a,v=.ref a→∃ ob,s.heap.get? a=some ob∧ob.dict=none:=by
 cases x with
 | str z =>
  obtain ⟨t,rfl⟩:=r
  cases (show T="str" from ty)
  exact ⟨typeIs_str s z t,fun _ e=>nomatch e⟩
 | int i =>
  obtain ⟨t,rfl⟩:=r
  cases (show T="int" from ty)
  exact ⟨typeIs_int s i t,fun _ e=>nomatch e⟩
 | ref p =>
  cases r
  rcases ty with ⟨rfl,xs,hq⟩ | ⟨rfl,o,hk,hc,hd⟩ | ⟨rfl,hk⟩ | ⟨rfl,S,n,hk⟩
  ·obtain ⟨its,_,pl,_⟩:=I.list hq
   refine ⟨pl.isList.typeIs,fun a e=>?_⟩
   cases e
   obtain ⟨o,n,e,c,hd,_⟩:=pl
   exact ⟨o,e,hd⟩
  ·refine ⟨⟨o,I.kIn p o hk,hc⟩,fun a e=>?_⟩
   cases e
   exact ⟨o,I.kIn _ o hk,hd⟩
  ·have z:∃ o,s.heap.get? p=some o∧o.ExactDict:=by
    rcases hk with ⟨kvs,hk⟩ | ⟨kvs,hk⟩
    ·obtain ⟨_,_,_,_,o,_,_,e,ex,_⟩:=I.hok p _ hk
     exact ⟨o,e,ex⟩
    ·obtain ⟨_,_,_,_,o,_,_,e,ex,_⟩:=I.hok p _ hk
     exact ⟨o,e,ex⟩
   obtain ⟨o,e,ex⟩:=z
   refine ⟨⟨o,e,ex.1⟩,fun a e2=>?_⟩
   cases e2
   exact ⟨o,e,ex.2.1⟩
  ·obtain ⟨o,_,_,_,e,ex,_⟩:=I.hok p _ hk
   refine ⟨⟨o,e,ex.1⟩,fun a e2=>?_⟩
   cases e2
   exact ⟨o,e,ex.2.1⟩
 | _=>exact False.elim ty
noncomputable def tBM (K:PySem.W.Frag) (T:String) (r:V→List V→Hp→VK→Prop) (to:TE) (t:TA):TE:=fun σ H Q=>to σ H fun x H1=>tyV K T x H1∧t σ H1 fun xs H2=>r x xs H2 Q
variable {o e:Expr} {es:List Expr} {to:TE} {t:TA} {name:Str} {apos cpos:Pos} {T id:String} {r:V→List V→Hp→VK→Prop}
theorem pe_bm (pa:PlainAttrs T) (slot:Slot T name id) (hty:typeOf (.builtin id)=pure (.type "method_descriptor")) (hm:MtR X id r) (ho:PE X o to) (ha:PA X (e :: es) t)
  (hbase:attributeBase o name X.env (eval o X.env)=eval o X.env:=by rfl)
  (hfew:((backTo cpos (starEach (e :: es) X.env)).all (fun x=>!x.1) && (backToKw cpos (keywordEach [] X.env)).all (fun x=>x.1.isSome)
   && decide ((e :: es).length + ([]:List Keyword).length + (if ([]:List Keyword).isEmpty then 0 else 1) < 30))=true:=by rfl)
  (hline:(apos.endLine == cpos.line)=true:=by rfl) (hs:starEach (e :: es) X.env=(false,eval e X.env) :: starEach es X.env:=by rfl) (hplain:(backTo cpos (starEach es X.env)).any (·.1)=false:=by rfl) :
  PE X (.Call (.Attribute o name apos) (e :: es) [] cpos) (tBM X.K T r to t):=by
 intro pins s σ H Q I h
 refine wpAny_Call_method_late hbase hfew hline rfl (thn (ho pins s σ H _ I h) fun v s1 zz9=>?_)
 obtain ⟨x,H1,I1,r1,ty,q1⟩:=zz9
 obtain ⟨h1,h2⟩:=tyV_is I1 r1 ty
 refine ⟨T,id,pa,slot,hty,h1,h2,?_⟩
 have hA:=ha cpos pins s1 σ H1 _ I1 q1
 rw [hs] at hA ⊢
 refine Calls.callWith_builtin (by show (false || (backTo cpos (starEach es X.env)).any (·.1))=false; rw [hplain] <;> rfl) (Calls.evalArgs_plain ?_)
 refine thn hA fun us s2 zz20=>?_
 obtain ⟨vs,H2,I2,r2,q2⟩:=zz20
 exact hm pins s2 σ H2 x vs v us Q I2 r1 r2 q2
end
end L2
namespace L2
open PySem PySem.Spec PyProof.Rows
noncomputable def MtM (X:Cx) (id:String) (r:V→List V→Hp→VK→Prop):Prop :=
 ∀ (pins:List (Addr × Obj)) (s:Shared) (σ:St) (H:Hp) (x:V) (xs:List V) (v:Value) (us:List Value) (Q:VK),Inv X pins σ H s→RelV x v→Vals xs us→r x xs H Q →
  wpAny (model X.prog X.w) X.A (call (.builtin id) (v :: us)) (EP X pins σ Q) X.xe s
theorem Vals.one {x:V} {us:List Value} (h:Vals [x] us):∃ u,us=[u]∧RelV x u:=by
  cases h with
  | cons r t=>cases t; exact ⟨_,rfl,r⟩
theorem Vals.two {x y:V} {us:List Value} (h:Vals [x,y] us):∃ u v,us=[u,v]∧RelV x u∧RelV y v:=by
  cases h with
  | cons r t =>
    obtain ⟨v,rfl,q⟩:=Vals.one t
    exact ⟨_,v,rfl,r,q⟩
theorem Vals.eraseIdx:∀ {xs:List V} {us:List Value} (i:Nat),Vals xs us→Vals (xs.eraseIdx i) (us.eraseIdx i)
 | _,_,_,.nil=>.nil
 | _,_,0,.cons _ t=>t
 | _,_,i + 1,.cons r t=>.cons r (Vals.eraseIdx i t)
theorem Vals.rep {xs:List V} {us:List Value} (h:Vals xs us):∀ k:Nat,Vals (List.replicate k xs).flatten (List.replicate k us).flatten
 | 0=>.nil
 | k + 1=>by
  rw [List.replicate_succ,List.replicate_succ,List.flatten_cons,List.flatten_cons]
  exact Vals.append h (Vals.rep h k)
theorem len_erase {α:Type}:∀ (l:List α) (i:Nat),(l.eraseIdx i).length≤l.length
 | [],_=>Nat.le_refl _
 | _ :: _,0=>Nat.le_succ _
 | _ :: r,i + 1=>Nat.succ_le_succ (len_erase r i)
theorem foldl_rep (its:List Value):∀ (k:Nat) (acc:List Value),
  List.foldl (fun x1 x2=>x1 ++ x2) acc.toArray (List.replicate k its.toArray)=(acc ++ (List.replicate k its).flatten).toArray
 | 0,acc=>by simp
 | k + 1,acc=>by
  have e:acc.toArray ++ its.toArray=(acc ++ its).toArray:=by simp
  have e2:(acc ++ its) ++ (List.replicate k its).flatten=acc ++ (List.replicate (k + 1) its).flatten:=by
   rw [List.replicate_succ,List.flatten_cons,List.append_assoc]
  rw [← e2,← foldl_rep its k (acc ++ its),← e,List.replicate_succ,List.foldl_cons]
section
variable {X:Cx} {pins:List (Addr × Obj)} {σ:St} {H:Hp} {s:Shared} {l b:Addr} {xs ys zs:List V}
theorem Inv.lset {its its':List Value} {n:Nat} {f:Array Value→Array Value} {t':Nat} (I:Inv X pins σ H s) (hH:H l=some (.lst xs))
  (e:s.heap.get? l=some { cls:=.type "list",data:=.seq its.toArray n }) (hf:f its.toArray=its'.toArray) (hv:Vals ys its') (hz:ys.length≤sizeLine) :
  Inv X pins σ (upd H l (.lst ys)) { s with heap:=s.heap.update l (Obj.mapSeq f),toks:=t' }:=by
 have q:=PySem.IsL.update e f
 rw [hf] at q
 refine I.write (x:=l) (e:=l) (by rw [hH]; exact trivial) (.inl rfl) (fun b' u hb hu=>(Heap.get?_update_other s.heap (Obj.mapSeq f) (Ne.symm hb)).trans hu) ⟨_,q⟩ ?_
 exact ⟨hz,its',_,hv,q⟩
theorem Inv.lnew {its:List Value} {t':Nat} (I:Inv X pins σ H s) (hv:Vals ys its) (hz:ys.length≤sizeLine) :
  Inv X pins σ (upd H s.heap.objs.size (.lst ys)) { s with heap:=s.heap.push { cls:=.type "list",data:=.seq its.toArray },toks:=t' } :=
 I.laid (fun _ _ q=>Heap.get?_push_of_some _ q) (Nat.le_refl _) ⟨hz,its,0,hv,Heap.get?_push_size _ rfl⟩
theorem Inv.fresh (I:Inv X pins σ H s):H s.heap.objs.size=none:=I.hok.fresh (Nat.le_refl _)
theorem Inv.lstM (I:Inv X pins σ H s) (hH:H l=some (.lst xs)):xs.length≤sizeLine∧∃ (its:List Value) (n:Nat),Vals xs its∧xs.length=its.length∧s.heap.get? l=some { cls:=.type "list",data:=.seq its.toArray n }:=by
 obtain ⟨z,its,n,r,e⟩:=I.hok l _ hH
 exact ⟨z,its,n,r,r.length,e⟩
theorem notLongL {n:Nat} (h:n≤sizeLine):Builtin.List.listTooLong n=false:=by
 unfold Builtin.List.listTooLong
 exact decide_eq_false (by omega)
end
section
variable {X:Cx}
noncomputable def rAppend:V→List V→Hp→VK→Prop:=fun x vs H Q=>∃ l xs y,x=.ref l∧vs=[y]∧H l=some (.lst xs)∧xs.length < sizeLine∧Q .non (upd H l (.lst (xs ++ [y])))
theorem mt_append:MtM X "list.append" rAppend:=by
 intro pins s σ H x vs v us Q I rx rv h
 obtain ⟨l,xs,y,rfl,rfl,hH,hz,q⟩:=h
 cases rx
 obtain ⟨u,rfl,ru⟩:=rv.one
 obtain ⟨z,its,n,r,hl,e⟩:=I.lstM hH
 refine call_meets F.slot_list_append ⟨_,e,rfl⟩ F.entry_list_append (F.args_list_append_2 _ _) (PySem.list_append l its.toArray n u (by rw [List.size_toArray]; omega)) ⟨e,?_⟩
 refine ⟨.non,_,I.lset (its':=its ++ [u]) hH e (by simp) (r.append (.cons ru .nil)) ?_,rfl,q⟩
 rw [List.length_append,List.length_singleton]
 omega
noncomputable def rPopAt:V→List V→Hp→VK→Prop:=fun x vs H Q=>∃ l xs i k y,x=.ref l∧vs=[.int i]∧H l=some (.lst xs)∧-(2 ^ 63)≤i∧i < 2 ^ 63∧seqIndex? i xs.length=some k∧xs[k]?=some y∧Q y (upd H l (.lst (xs.eraseIdx k)))
theorem mt_popAt:MtM X "list.pop" rPopAt:=by
 intro pins s σ H x vs v us Q I rx rv h
 obtain ⟨l,xs,i,k,y,rfl,rfl,hH,h1,h2,hk,hy,q⟩:=h
 cases rx
 obtain ⟨u,rfl,ru⟩:=rv.one
 obtain ⟨t,rfl⟩:=ru
 obtain ⟨z,its,n,r,hl,e⟩:=I.lstM hH
 obtain ⟨w,hw,rw'⟩:=r.get hy
 refine call_meets F.slot_list_pop ⟨_,e,rfl⟩ F.entry_list_pop (F.args_list_pop_2 _ _)
  (MeetsSeq.list_pop_at l its.toArray n i t k w (fitsIndex_both h1 h2) (by rw [List.size_toArray,← hl]; exact hk) (by rw [← Array.getElem?_toList]; exact hw) (by rw [List.size_toArray]; omega)) ⟨e,?_⟩
 refine ⟨y,_,I.lset (its':=its.eraseIdx k) hH e ?_ (r.eraseIdx k) ?_,rw',q⟩
 ·show its.toArray.eraseIdxIfInBounds k=(its.eraseIdx k).toArray
  rw [List.eraseIdxIfInBounds_toArray]
 ·have:=len_erase xs k
  omega
noncomputable def rCat:R2:=fun x y H Q=>∃ l b xs zs,x=.ref l∧y=.ref b∧H l=some (.lst xs)∧H b=some (.lst zs)∧xs.length + zs.length≤sizeLine∧∀ p,H p=none→Q (.ref p) (upd H p (.lst (xs ++ zs)))
theorem op_cat:OpR X (binaryOp .Add) rCat:=by
 intro pins s σ H x y v u Q I rx ry h
 obtain ⟨l,b,xs,zs,rfl,rfl,hH,hB,hz,q⟩:=h
 cases rx
 cases ry
 obtain ⟨z,its,n,r,hl,e⟩:=I.lstM hH
 obtain ⟨z2,its2,n2,r2,hl2,e2⟩:=I.lstM hB
 refine PySem.P.add_list e e2 ?_ (by rw [List.size_toArray,List.size_toArray]; omega)
 have ea:its.toArray ++ its2.toArray=(its ++ its2).toArray:=by simp
 rw [ea]
 exact ⟨.ref _,_,I.lnew (t':=s.toks) (r.append r2) (by rw [List.length_append]; omega),rfl,q _ I.fresh⟩
noncomputable def rRep:R2:=fun x y H Q=>∃ l k xs,x=.ref l∧y=.int k∧H l=some (.lst xs)∧-(2 ^ 63)≤k∧k < 2 ^ 63∧xs.length * k.toNat≤sizeLine ∧
 ∀ p,H p=none→Q (.ref p) (upd H p (.lst (List.replicate k.toNat xs).flatten))
theorem len_rep {α:Type} (xs:List α) (k:Nat):(List.replicate k xs).flatten.length=k * xs.length:=by
 induction k with
 | zero=>simp
 | succ k ih=>rw [List.replicate_succ,List.flatten_cons,List.length_append,ih,Nat.succ_mul,Nat.add_comm]
theorem op_rep:OpR X (binaryOp .Mult) rRep:=by
 intro pins s σ H x y v u Q I rx ry h
 obtain ⟨l,k,xs,rfl,rfl,hH,h1,h2,hz,q⟩:=h
 cases rx
 obtain ⟨t,rfl⟩:=ry
 obtain ⟨z,its,n,r,hl,e⟩:=I.lstM hH
 have hlen:its.toArray.size * k.toNat≤sizeLine:=by rw [List.size_toArray,← hl]; exact hz
 have hcap:¬ its.toArray.size * k.toNat > (2 ^ 63 - 1) / 8:=by
  have:(sizeLine:Nat)≤(2 ^ 63 - 1) / 8:=by decide
  omega
 have hfit:¬ (!Builtin.List.listFitsIndex k)=true:=by
  rw [fitsIndex_both h1 h2]
  exact Bool.false_ne_true
 have hlong:¬ Builtin.List.listTooLong (its.toArray.size * k.toNat)=true:=by
  rw [notLongL hlen]
  exact Bool.false_ne_true
 have hnew:List.foldl (fun x1 x2=>x1 ++ x2) #[] (List.replicate (if its.toArray.isEmpty=true then 0 else k.toNat) its.toArray)=(List.replicate k.toNat its).flatten.toArray:=by
  have f0:∀ m:Nat,List.foldl (fun x1 x2=>x1 ++ x2) #[] (List.replicate m its.toArray)=(List.replicate m its).flatten.toArray:=fun m=>by
   have:=foldl_rep its m []
   rw [List.nil_append] at this
   exact this
  rw [f0]
  cases its with
  | nil=>simp
  | cons a r'=>rw [if_neg (by simp)]
 refine wpAny_binaryOp_repeat_ref (T:="list") (U:="int") (by decide) ⟨_,e,rfl⟩ (fun s'=>typeIs_int s' k t) noFill_list_mul F.fills_int_mul F.slot_int_rmul repeat_list F.slot_int_index.lookup
  (call_meets F.slot_int_rmul (typeIs_int s k t) F.entry_int_rmul (F.args_int_rmul_2 _ _) (int___rmul___int_list k t l its.toArray n)
   ⟨e,rfl,⟨_,e,rfl⟩,call_meets F.slot_list_mul ⟨_,e,rfl⟩ F.entry_list_mul (F.args_list_mul_2 _ _) (AutoListH.list___mul___list_int_3 l its.toArray n k t hfit hcap hlong) ⟨e,?_⟩⟩)
 rw [hnew]
 exact ⟨.ref _,_,I.lnew (t':=s.toks) (r.rep k.toNat) (by rw [len_rep,Nat.mul_comm]; exact hz),rfl,q _ I.fresh⟩
end
end L2
namespace L2
open PySem PySem.Spec PyProof.Rows
section
variable {κ:Type} [DecidableEq κ]
noncomputable def valV (kvs:List (κ × V)) (k:κ):Option V:=(kvs.find? fun kv=>decide (kv.1=k)).map (·.2)
noncomputable def putK (kvs:List (κ × V)) (k:κ) (v:V):List (κ × V) :=
 if (kvs.any fun kv=>decide (kv.1=k))=true then kvs.map (fun kv=>if kv.1=k then (kv.1,v) else kv) else kvs ++ [(k,v)]
noncomputable def dropK (kvs:List (κ × V)) (k:κ):List (κ × V):=kvs.filter fun kv=>decide (kv.1≠k)
theorem valV_pos {p:κ × V} {r:List (κ × V)} {k:κ} (e:p.1=k):valV (p :: r) k=some p.2:=by simp [valV,List.find?_cons,e]
theorem valV_neg {p:κ × V} {r:List (κ × V)} {k:κ} (e:¬ p.1=k):valV (p :: r) k=valV r k:=by simp [valV,List.find?_cons,e]
theorem valV_any (k:κ):∀ kvs:List (κ × V),(kvs.any fun kv=>decide (kv.1=k))=(valV kvs k).isSome
 | []=>rfl
 | p :: r=>by
  rw [List.any_cons]
  by_cases e:p.1=k
  ·simp only [valV_pos e,decide_eq_true e,Bool.true_or,Option.isSome_some]
  ·rw [valV_neg e,decide_eq_false e,Bool.false_or]; exact valV_any k r
theorem length_putK (kvs:List (κ × V)) (k:κ) (v:V):(putK kvs k v).length≤kvs.length + 1:=by
 unfold putK
 split
 ·rw [List.length_map]; omega
 ·rw [List.length_append,List.length_cons,List.length_nil]; omega
theorem RelO.isSome_eq {o:Option V} {u:Option Value} (r:RelO o u):o.isSome=u.isSome:=by
 cases o with
 | none=>cases u with
  | none=>rfl
  | some _=>exact (show False from r).elim
 | some _=>cases u with
  | none=>exact (show False from r).elim
  | some _=>rfl
theorem KV.val {kvs:List (κ × V)} {vs:List (κ × Value)} (r:KV kvs vs) (k:κ):RelO (valV kvs k) (valueAt vs k):=by
 unfold KV at r
 induction r with
 | nil=>exact True.intro
 | @cons p q ps qs h t ih =>
  obtain ⟨h1,h2⟩:=h
  by_cases e:p.1=k
  ·have e':q.1=k:=h1.symm.trans e
   have b:valueAt (q :: qs) k=some q.2:=by simp [valueAt,List.find?_cons,e']
   rw [valV_pos e,b]; exact h2
  ·have e':¬ q.1=k:=fun z=>e (h1.trans z)
   have b:valueAt (q :: qs) k=valueAt qs k:=by simp [valueAt,List.find?_cons,e']
   rw [valV_neg e,b]; exact ih
theorem KV.any {kvs:List (κ × V)} {vs:List (κ × Value)} (r:KV kvs vs) (k:κ):(kvs.any fun kv=>decide (kv.1=k))=vs.any fun kv=>decide (kv.1=k):=by
 unfold KV at r
 induction r with
 | nil=>rfl
 | cons h t ih=>rw [List.any_cons,List.any_cons,ih,h.1]
theorem KV.repl {kvs:List (κ × V)} {vs:List (κ × Value)} (r:KV kvs vs) (k:κ) {y:V} {u:Value} (ry:RelV y u) :
  KV (kvs.map fun kv=>if kv.1=k then (kv.1,y) else kv) (vs.map fun kv=>if kv.1=k then (kv.1,u) else kv):=by
 unfold KV at r ⊢
 induction r with
 | nil=>exact .nil
 | @cons p q ps qs h t ih =>
  rw [List.map_cons,List.map_cons]
  refine .cons ?_ ih
  obtain ⟨h1,h2⟩:=h
  by_cases e:p.1=k
  ·rw [if_pos e,if_pos (h1.symm.trans e)]; exact ⟨h1,ry⟩
  ·rw [if_neg e,if_neg (fun z=>e (h1.trans z))]; exact ⟨h1,h2⟩
theorem KV.put {kvs:List (κ × V)} {vs:List (κ × Value)} (r:KV kvs vs) (k:κ) {y:V} {u:Value} (ry:RelV y u):KV (putK kvs k y) (stored vs k u):=by
 unfold putK stored
 rw [r.any k]
 by_cases e:(vs.any fun kv=>decide (kv.1=k))=true
 ·rw [if_pos e,if_pos e]; exact r.repl k ry
 ·rw [if_neg e,if_neg e]; exact Paired.snoc r ⟨rfl,ry⟩
theorem KV.drop {kvs:List (κ × V)} {vs:List (κ × Value)} (r:KV kvs vs) (k:κ):KV (dropK kvs k) (without vs k):=by
 unfold KV at r ⊢
 unfold dropK without
 induction r with
 | nil=>exact .nil
 | @cons p q ps qs h t ih =>
  obtain ⟨h1,h2⟩:=h
  rw [List.filter_cons,List.filter_cons]
  by_cases e:p.1=k
  ·have a:¬ decide (p.1≠k)=true:=by simp [e]
   have b:¬ decide (q.1≠k)=true:=by simp [h1.symm.trans e]
   rw [if_neg a,if_neg b]; exact ih
  ·have e':¬ q.1=k:=fun z=>e (h1.trans z)
   have a:decide (p.1≠k)=true:=by simp [e]
   have b:decide (q.1≠k)=true:=by simp [e']
   rw [if_pos a,if_pos b]; exact .cons ⟨h1,h2⟩ ih
theorem KV.length {kvs:List (κ × V)} {vs:List (κ × Value)} (r:KV kvs vs):kvs.length=vs.length:=Paired.length r
theorem dropK_le (kvs:List (κ × V)) (k:κ):(dropK kvs k).length≤kvs.length:=List.length_filter_le _ _
end
theorem kV_is {P:Program} {w:World} {k:Key} {u:Value} (r:RelV (kV k) u):(mixKind P w).is k u=true:=by
 cases k with
 | inl i=>obtain ⟨t,e⟩:=(show ∃ t,u=Value.int i t from r); subst e; exact mixKind_int P w i t
 | inr x=>obtain ⟨t,e⟩:=(show ∃ t,u=Value.str x t from r); subst e; exact mixKind_str P w x t
theorem items_are {P:Program} {w:World}:∀ {ks:List Key} {us:List Value},Vals (ks.map kV) us→ItemsAre (mixKind P w) ks us
 | [],_,r=>by rw [List.map_nil] at r; cases r; exact .nil
 | k :: ks,_,r=>by
  rw [List.map_cons] at r
  cases r with
  | cons h t=>exact .cons (kV_is h) (items_are t)
noncomputable abbrev KT (H:Hp):List (List Key × V)→List (List Key × Addr × Value)→Prop:=Paired fun p q=>p.1=q.1∧H q.2.1=some (.tup (p.1.map kV))∧RelV p.2 q.2.2
theorem KT.val {H:Hp} {kvs:List (List Key × V)} {xs:List (List Key × Addr × Value)} (r:KT H kvs xs) (k:List Key):RelO (valV kvs k) ((atKey xs k).map (·.2)):=by
 induction r with
 | nil=>exact True.intro
 | @cons p q ps qs h t ih =>
  obtain ⟨h1,_,h2⟩:=h
  by_cases e:p.1=k
  ·have e':q.1=k:=h1.symm.trans e
   have b:atKey (q :: qs) k=some q.2:=by simp [atKey,List.find?_cons,e']
   rw [valV_pos e,b]; exact h2
  ·have e':¬ q.1=k:=fun z=>e (h1.trans z)
   have b:atKey (q :: qs) k=atKey qs k:=by simp [atKey,List.find?_cons,e']
   rw [valV_neg e,b]; exact ih
theorem KT.repl {H:Hp} {kvs:List (List Key × V)} {xs:List (List Key × Addr × Value)} (r:KT H kvs xs) (k:List Key) {y:V} {u:Value} (ry:RelV y u) :
  KT H (kvs.map fun kv=>if kv.1=k then (kv.1,y) else kv) (xs.map (putAt k u)):=by
 induction r with
 | nil=>exact .nil
 | @cons p q ps qs h t ih =>
  rw [List.map_cons,List.map_cons]
  refine .cons ?_ ih
  obtain ⟨h1,h2,h3⟩:=h
  unfold putAt
  by_cases e:p.1=k
  ·rw [if_pos e,if_pos (h1.symm.trans e)]; exact ⟨h1,h2,ry⟩
  ·rw [if_neg e,if_neg (fun z=>e (h1.trans z))]; exact ⟨h1,h2,h3⟩
theorem KT.put {H:Hp} {kvs:List (List Key × V)} {xs:List (List Key × Addr × Value)} (r:KT H kvs xs) (k:List Key) {b:Addr} {y:V} {u:Value} (hb:H b=some (.tup (k.map kV))) (ry:RelV y u) :
  KT H (putK kvs k y) (storedH xs k b u):=by
 have e:(kvs.any fun kv=>decide (kv.1=k))=(atKey xs k).isSome:=by
  rw [valV_any,(r.val k).isSome_eq,Option.isSome_map]
 unfold putK storedH
 rw [e]
 by_cases q:(atKey xs k).isSome=true
 ·rw [if_pos q,if_pos q]; exact r.repl k ry
 ·rw [if_neg q,if_neg q]; exact Paired.snoc r ⟨rfl,hb,ry⟩
theorem KT.keeps {H H':Hp} {kvs:List (List Key × V)} {xs:List (List Key × Addr × Value)} (r:KT H kvs xs) (ht:∀ b ys,H b=some (.tup ys)→H' b=some (.tup ys)):KT H' kvs xs :=
 Paired.mapP r fun _ _ z=>⟨z.1,ht _ _ z.2.1,z.2.2⟩
section
variable {P:Program} {w:World} {H:Hp} {h:Heap} {a:Addr}
theorem rd_of {u:HO} (ok:HOk P w H h) (e:Rd H a u):ObjOk P w H h a u:=e.ok ok
theorem dk_rd {kvs:List (Key × V)} (ok:HOk P w H h) (e:Rd H a (.dK kvs)):kvs.length≤sizeLine∧(a == sysModules)=false∧∃ vs,KV kvs vs∧h.DictOf (mixKind P w) a vs :=
 show ObjOk P w H h a (.dK kvs) from rd_of ok e
theorem dk_of {kvs:List (Key × V)} (ok:HOk P w H h) (e:H a=some (.dK kvs)):kvs.length≤sizeLine∧(a == sysModules)=false∧∃ vs,KV kvs vs∧h.DictOf (mixKind P w) a vs:=dk_rd ok (.inl e)
theorem key_of {ks:List Key} (ok:HOk P w H h) (e:H a=some (.tup (ks.map kV))):(tupleKind (mixKind P w)).is h ks a:=by
 obtain ⟨_,its,r,o,h1,h2,n,h3⟩:=(show ObjOk P w H h a (.tup (ks.map kV)) from ok a _ e)
 exact ⟨o,its.toArray,n,h1,h2,h3,by simpa using items_are r⟩
theorem dt_rd {kvs:List (List Key × V)} (ok:HOk P w H h) (e:Rd H a (.dT kvs)):kvs.length≤sizeLine∧(a == sysModules)=false ∧
  ∃ xs,KT H kvs xs∧h.DictOfH (tupleKind (mixKind P w)) a xs:=by
 obtain ⟨z,y,xs,r,o,es,ep,h1,h2,h3,h4,h5⟩:=(show ObjOk P w H h a (.dT kvs) from rd_of ok e)
 refine ⟨z,y,xs,r,o,es,ep,h1,h2,h3,h4,fun x hx=>?_,h5⟩
 have all:∀ {l:List (List Key × V)} {m:List (List Key × Addr × Value)},KT H l m→∀ x∈m,(tupleKind (mixKind P w)).is h x.1 x.2.1:=by
  intro l m q
  induction q with
  | nil=>intro x hx; exact nomatch hx
  | @cons p q ps qs hq t ih =>
   intro x hx
   rcases List.mem_cons.mp hx with e | hx
   ·subst e
    exact key_of ok (by rw [← hq.1]; exact hq.2.1)
   ·exact ih x hx
 exact all r x hx
theorem dt_of {kvs:List (List Key × V)} (ok:HOk P w H h) (e:H a=some (.dT kvs)):kvs.length≤sizeLine∧(a == sysModules)=false ∧
  ∃ xs,KT H kvs xs∧h.DictOfH (tupleKind (mixKind P w)) a xs:=dt_rd ok (.inl e)
end
noncomputable def DGet (H:Hp) (a:Addr) (y:V) (r:Option V):Prop :=
 (∃ kvs k,Rd H a (.dK kvs)∧y=kV k∧r=valV kvs k)∨∃ kvs k b,Rd H a (.dT kvs)∧y=.ref b∧H b=some (.tup (k.map kV))∧r=valV kvs k
noncomputable def DPut (H:Hp) (a:Addr) (y v:V) (H':Hp):Prop :=
 (∃ kvs k,H a=some (.dK kvs)∧y=kV k∧kvs.length < sizeLine∧H'=upd H a (.dK (putK kvs k v))) ∨
 ∃ kvs k b,H a=some (.dT kvs)∧y=.ref b∧H b=some (.tup (k.map kV))∧kvs.length < sizeLine∧H'=upd H a (.dT (putK kvs k v))
theorem DPut.k {H:Hp} {a:Addr} {kvs:List (Key × V)} {k:Key} {v:V} (e:H a=some (.dK kvs)) (hl:kvs.length < sizeLine):DPut H a (kV k) v (upd H a (.dK (putK kvs k v))):=.inl ⟨kvs,k,e,rfl,hl,rfl⟩
section
variable {X:Cx} {pins:List (Addr × Obj)} {σ:St} {H:Hp} {s:Shared} {a:Addr} {y v:V} {u r:Value} {o:Option V} {A:Around} {E:Value→Shared→Prop}
theorem Inv.big (I:Inv X pins σ H s):sysModules < s.heap.objs.size:=by
 have h:mainGlobals < s.heap.objs.size:=(I.mod.glob.keeps I.bk).lt
 exact Nat.lt_trans (by decide) h
theorem d_getItem {Q:Value→Shared→Prop} (hu:A.units + 1 < cLine) (I:Inv X pins σ H s) (g:DGet H a y (some v)) (ry:RelV y u) (h:∀ w' s',Inv X pins σ H s'→RelV v w'→Q w' s') :
  wpAny (model X.prog X.w) A (getItem (.ref a) u) Q E s:=by
 rcases g with ⟨kvs,k,e,ey,l⟩ | ⟨kvs,k,b,e,ey,eb,l⟩
 ·subst ey
  obtain ⟨z,hd,vs,rel,dd⟩:=dk_rd I.hok e
  obtain ⟨w',hw,rw'⟩:=RelO.some_of (v:=v) (o:=valueAt vs k) (by rw [l]; exact rel.val k)
  exact wpAny_getItem_of (kV_is ry) dd.mapOf hw (h w' _ (I.tok _) rw')
 ·subst ey
  cases (show u=Value.ref b from ry)
  obtain ⟨z,hd,xs,rel,dd⟩:=dt_rd I.hok e
  obtain ⟨w',hw,rw'⟩:=RelO.some_of (v:=v) (o:=(atKey xs k).map (·.2)) (by rw [l]; exact rel.val k)
  obtain ⟨p,hp,hp2⟩:=Option.map_eq_some_iff.mp hw
  refine wpAny_getItem_heap (tupleKind_room_in1 hu) (key_of I.hok eb) dd hp ?_
  rw [hp2]
  exact h w' _ (I.tok _) rw'
theorem d_in {Q:Value→Shared→Prop} (hu:A.units + 1 < cLine) (I:Inv X pins σ H s) (g:DGet H a y o) (ry:RelV y u) (h:∀ s',Inv X pins σ H s'→Q (.bool o.isSome) s') :
  wpAny (model X.prog X.w) A (compareOp .In u (.ref a)) Q E s:=by
 rcases g with ⟨kvs,k,e,ey,l⟩ | ⟨kvs,k,b,e,ey,eb,l⟩
 ·subst ey
  obtain ⟨z,hd,vs,rel,dd⟩:=dk_rd I.hok e
  refine wpAny_in_of (kV_is ry) hd dd.mapOf ?_
  rw [← (rel.val k).isSome_eq,← l]
  exact h _ (I.tok _)
 ·subst ey
  cases (show u=Value.ref b from ry)
  obtain ⟨z,hd,xs,rel,dd⟩:=dt_rd I.hok e
  refine wpAny_in_heap (tupleKind_room_in1 hu) (key_of I.hok eb) hd dd ?_
  have q:=(rel.val k).isSome_eq
  rw [Option.isSome_map] at q
  rw [← q,← l]
  exact h _ (I.tok _)
theorem d_notIn {Q:Value→Shared→Prop} (hu:A.units + 1 < cLine) (I:Inv X pins σ H s) (g:DGet H a y o) (ry:RelV y u) (h:∀ s',Inv X pins σ H s'→Q (.bool (!o.isSome)) s') :
  wpAny (model X.prog X.w) A (compareOp .NotIn u (.ref a)) Q E s:=by
 rcases g with ⟨kvs,k,e,ey,l⟩ | ⟨kvs,k,b,e,ey,eb,l⟩
 ·subst ey
  obtain ⟨z,hd,vs,rel,dd⟩:=dk_rd I.hok e
  refine wpAny_notIn_of (kV_is ry) hd dd.mapOf ?_
  rw [← (rel.val k).isSome_eq,← l]
  exact h _ (I.tok _)
 ·subst ey
  cases (show u=Value.ref b from ry)
  obtain ⟨z,hd,xs,rel,dd⟩:=dt_rd I.hok e
  refine wpAny_notIn_heap (tupleKind_room_in1 hu) (key_of I.hok eb) hd dd ?_
  have q:=(rel.val k).isSome_eq
  rw [Option.isSome_map] at q
  rw [← q,← l]
  exact h _ (I.tok _)
theorem d_write {h':Heap} {t':Nat} {ob:HO} (I:Inv X pins σ H s) (mu:Mut (H a)) (hs:Heap.SameBut a s.heap h') (he:∃ q,h'.get? a=some q) (new:ObjOk X.prog X.w (upd H a ob) h' a ob) :
  Inv X pins σ (upd H a ob) { s with heap:=h',toks:=t' } :=
 I.write (x:=a) (e:=a) mu (.inl rfl) (fun b q hb z=>(hs.2 b hb).trans z) he new
theorem dk_new {P:Program} {w:World} {H':Hp} {h':Heap} {kvs:List (Key × V)} {vs:List (Key × Value)} (z:kvs.length≤sizeLine) (hd:(a == sysModules)=false) (rel:KV kvs vs) (dd:h'.DictOf (mixKind P w) a vs) :
  ObjOk P w H' h' a (.dK kvs):=⟨z,hd,vs,rel,dd⟩
theorem d_setItem {H':Hp} {Q:Unit→Shared→Prop} (hu:A.units + 1 < cLine) (I:Inv X pins σ H s) (g:DPut H a y v H') (ry:RelV y u) (rv:RelV v r) (h:∀ s',Inv X pins σ H' s'→Q () s') :
  wpAny (model X.prog X.w) A (setItem (.ref a) u r) Q E s:=by
 rcases g with ⟨kvs,k,e,ey,l,eH⟩ | ⟨kvs,k,b,e,ey,eb,l,eH⟩
 ·subst ey eH
  obtain ⟨z,hd,vs,rel,dd⟩:=dk_of I.hok e
  have hz:vs.length≤sizeLine:=by rw [← rel.length]; exact z
  have hl:(putK kvs k v).length≤sizeLine:=by have:=length_putK kvs k v; omega
  refine wpAny_setItem_pairs (hsz:=hz) (kV_is ry) dd fun h' dd' hs=>h _ ?_
  have he:∃ q,h'.get? a=some q:=let ⟨q,_,_,hq,_⟩:=dd'; ⟨q,hq⟩
  exact d_write I (by rw [e]; exact True.intro) hs he (dk_new hl hd (rel.put k rv) dd')
 ·subst ey eH
  cases (show u=Value.ref b from ry)
  obtain ⟨z,hd,xs,rel,dd⟩:=dt_of I.hok e
  have hz:xs.length≤sizeLine:=by rw [← Paired.length rel]; exact z
  have hl:(putK kvs k v).length≤sizeLine:=by have:=length_putK kvs k v; omega
  refine wpAny_setItem_heap (hsz:=hz) (tupleKind_room_in1 hu) (key_of I.hok eb) dd fun h' dd' hs=>h _ ?_
  obtain ⟨q,es,ep,hq,h2,h3,h4,_,h5⟩:=dd'
  refine d_write I (by rw [e]; exact True.intro) hs ⟨q,hq⟩ ⟨hl,hd,_,(rel.put k eb rv).keeps fun c ys ec=>?_,q,es,ep,hq,h2,h3,h4,h5⟩
  rw [upd_ne (ne_of ec e (fun z=>nomatch z))]
  exact ec
end
section
variable {X:Cx} {pins:List (Addr × Obj)} {σ:St} {H:Hp} {s:Shared} {a:Addr} {kvs:List (Key × V)} {k:Key} {u:Value} {A:Around} {E:Value→Shared→Prop}
theorem d_pop {v:V} {more:List Value} {Q:Value→Shared→Prop} (I:Inv X pins σ H s) (e:H a=some (.dK kvs)) (ry:RelV (kV k) u) (l:valV kvs k=some v) (hm:more=[]∨∃ x,more=[x])
  (h:∀ w' s',Inv X pins σ (upd H a (.dK (dropK kvs k))) s'→RelV v w'→Q w' s'):wpAny (model X.prog X.w) A (call (.builtin "dict.pop") (.ref a :: u :: more)) Q E s:=by
 obtain ⟨z,hd,vs,rel,dd⟩:=dk_of I.hok e
 obtain ⟨w',hw,rw'⟩:=RelO.some_of (v:=v) (o:=valueAt vs k) (by rw [← l]; exact rel.val k)
 have hp:(keyPart u).isSome=true:=by
  cases k with
  | inl i=>obtain ⟨t,q⟩:=(show ∃ t,u=Value.int i t from ry); subst q; rfl
  | inr x=>obtain ⟨t,q⟩:=(show ∃ t,u=Value.str x t from ry); subst q; rfl
 have ha:argsOk "dict.pop" ⟨.ref a :: u :: more,[]⟩:=by
  rcases hm with q | ⟨x,q⟩
  ·subst q; exact PySem.F.args_dict_pop_2 _ _
  ·subst q; exact PySem.F.args_dict_pop_3 _ _ _
 refine call_meetsIn PySem.F.slot_dict_pop dd.typeIs PySem.F.entry_dict_pop ha (meets_dict_pop_there (mixKind X.prog X.w) a (kV_is ry) more hm hp)
  ⟨vs,w',dd,by rw [← rel.length]; exact z,hw,fun h' dd' hs=>h w' _ ?_ rw'⟩
 have he:∃ q,h'.get? a=some q:=let ⟨q,_,_,hq,_⟩:=dd'; ⟨q,hq⟩
 exact d_write I (by rw [e]; exact True.intro) hs he (dk_new (Nat.le_trans (dropK_le kvs k) z) hd (rel.drop k) dd')
end
noncomputable def NoSl (i:Expr):Prop:=∀ ov iv,subscripted i false ov iv=operate [ov,iv] (getItem ov iv)
theorem subD_of {prog:Program} {w:World} {A:Around} {E:Value→Shared→Prop} {s:Shared} {env:Env} {value slice:Expr} {pos:Pos} {T id:String} {Q:Value→Shared→Prop}
  (hl:typeLookup (.type T) "__getitem__"=pure (some (.builtin id))) (hs:NoSl slice)
  (h:wpAny (model prog w) A (eval value env) (fun o s₁=>wpAny (model prog w) A (eval slice env) (fun i s₂=>s₂.TypeIs o T∧wpAny (model prog w) A (getItem o i) Q E s₂) E s₁) E s) :
  wpAny (model prog w) A (eval (.Subscript value slice pos) env) Q E s:=by
 refine Subscript_ (wpAny_mono h (fun o s₁ h₁=>wpAny_mono h₁ (fun i s₂ h₂=>?_) fun _ _ x=>x) fun _ _ x=>x)
 obtain ⟨hT,h₂⟩:=h₂
 unfold subscriptTail
 refine wpAny_bind ?_
 rw [getitemInPython_of_ne hT.not_modules]
 refine wpAny_bind (wpAny_specialOf hT hl ?_)
 have fin:wpAny (model prog w) A (subscripted slice false o i) (fun r s₃=>wpAny (model prog w) A (letTemporaryGo value o r >>= fun _=>pure r) Q E s₃) E s₂:=by
  rw [hs o i]
  exact wpAny_operating (wpAny_mono h₂ (fun r s₃ h₃=>wpAny_bind (wpAny_letTemporaryGo (wpAny_pure h₃))) fun _ _ x=>x)
 first
  | exact wpAny_pure (wpAny_bind fin)
  | exact wpAny_bind (wpAny_pure (wpAny_bind fin))
  | exact wpAny_bind fin
theorem dict_typeIs {X:Cx} {pins:List (Addr × Obj)} {σ:St} {H:Hp} {s:Shared} {a:Addr} {y:V} {o:Option V} (I:Inv X pins σ H s) (g:DGet H a y o):s.TypeIs (.ref a) "dict":=by
 rcases g with ⟨kvs,k,e,_,_⟩ | ⟨kvs,k,b,e,_,_,_⟩
 ·obtain ⟨_,_,vs,_,dd⟩:=dk_rd I.hok e
  exact dd.typeIs
 ·obtain ⟨_,_,xs,_,dd⟩:=dt_rd I.hok e
  exact dd.typeIs
noncomputable def tDGet (td ty:TE):TE:=fun σ H Q=>td σ H fun x H1=>ty σ H1 fun y H2=>∃ a v,x=.ref a∧DGet H2 a y (some v)∧Q v H2
noncomputable def tDIn (ty td:TE):TE:=fun σ H Q=>ty σ H fun y H1=>td σ H1 fun x H2=>∃ a o,x=.ref a∧DGet H2 a y o∧Q (.bl o.isSome) H2
noncomputable def tDNotIn (ty td:TE):TE:=fun σ H Q=>ty σ H fun y H1=>td σ H1 fun x H2=>∃ a o,x=.ref a∧DGet H2 a y o∧Q (.bl (!o.isSome)) H2
noncomputable def sDPut (td ty tv:TE):TS:=fun D σ H=>tv σ H fun v H1=>td σ H1 fun x H2=>ty σ H2 fun y H3=>∃ a H4,x=.ref a∧DPut H3 a y v H4∧D.nx σ H4
section
variable {X:Cx} {o i e value:Expr} {pos pos' tpos:Pos} {td ty tv:TE}
theorem pe_dget (hu:X.A.units + 1 < cLine) (ho:PE X o td) (hi:PE X i ty) (hs:NoSl i):PE X (.Subscript o i pos) (tDGet td ty):=by
 intro pins s σ H Q I h
 refine subD_of PySem.F.slot_dict_getitem.lookup hs (thn (ho pins s σ H _ I h) fun u s1 zz21=>?_)
 obtain ⟨x,H1,I1,rx,q1⟩:=zz21
 refine thn (hi pins s1 σ H1 _ I1 q1) fun iv s2 zz9=>?_
 obtain ⟨y,H2,I2,ry,a,v,ex,g,q2⟩:=zz9
 subst ex
 obtain rfl:u=Value.ref a:=rx
 exact ⟨dict_typeIs I2 g,d_getItem hu I2 g ry fun w' s3 I3 rw'=>⟨v,H2,I3,rw',q2⟩⟩
theorem pc_din (hu:X.A.units + 1 < cLine) (hi:PE X i ty) (ho:PE X o td):PC X .In i o (tDIn ty td):=by
 intro pins s σ H Q I h
 refine thn (hi pins s σ H _ I h) fun iv s1 zz22=>?_
 obtain ⟨y,H1,I1,ry,q1⟩:=zz22
 refine thn (ho pins s1 σ H1 _ I1 q1) fun u s2 zz9=>?_
 obtain ⟨x,H2,I2,rx,a,ov,ex,g,q2⟩:=zz9
 subst ex
 obtain rfl:u=Value.ref a:=rx
 exact d_in hu I2 g ry fun s3 I3=>⟨.bl ov.isSome,H2,I3,rfl,q2⟩
theorem pc_dnotin (hu:X.A.units + 1 < cLine) (hi:PE X i ty) (ho:PE X o td):PC X .NotIn i o (tDNotIn ty td):=by
 intro pins s σ H Q I h
 refine thn (hi pins s σ H _ I h) fun iv s1 zz23=>?_
 obtain ⟨y,H1,I1,ry,q1⟩:=zz23
 refine thn (ho pins s1 σ H1 _ I1 q1) fun u s2 zz9=>?_
 obtain ⟨x,H2,I2,rx,a,ov,ex,g,q2⟩:=zz9
 subst ex
 obtain rfl:u=Value.ref a:=rx
 exact d_notIn hu I2 g ry fun s3 I3=>⟨.bl (!ov.isSome),H2,I3,rfl,q2⟩
theorem ps_dput (hu:X.A.units + 1 < cLine) (ho:PE X o td) (hi:PE X i ty) (hv:PE X value tv) (hs:swapsWith value (some (.Subscript o i pos')) pos.line X.env=pure false) :
  PS X (.Assign [.Subscript o i pos'] value pos) (sDPut td ty tv):=by
 intro pins s σ H D I h
 refine wpAny_Assign_Subscript (thn (hv pins s σ H _ I h) fun r s1 zz24=>?_) hs
 obtain ⟨v,H1,I1,rv,q1⟩:=zz24
 refine thn (ho pins s1 σ H1 _ I1 q1) fun u s2 zz25=>?_
 obtain ⟨x,H2,I2,rx,q2⟩:=zz25
 refine thn (hi pins s2 σ H2 _ I2 q2) fun iv s3 zz26=>?_
 obtain ⟨y,H3,I3,ry,a,H4,ex,g,q3⟩:=zz26
 subst ex
 obtain rfl:u=Value.ref a:=rx
 exact d_setItem hu I3 g ry rv fun s4 I4=>⟨σ,H4,I4,q3⟩
end
theorem dk_empty {P:Program} {w:World} {H:Hp} (h:Heap) (hb:sysModules < h.objs.size):ObjOk P w H (h.push { cls:=.type "dict",data:=.dict #[] }) h.objs.size (.dK []) :=
 ⟨Nat.zero_le _,beq_eq_false_iff_ne.mpr (Ne.symm (Nat.ne_of_lt hb)),[],.nil,Heap.DictOf.new h⟩
noncomputable def tDNewK:TE:=fun _ H Q=>∀ p,H p=none→Q (.ref p) (upd H p (.dK []))
section
variable {X:Cx} {pos:Pos}
theorem pe_dnewK:PE X (.Dict [] [] pos) tDNewK:=fun pins s σ H Q I h =>
 wpAny_Dict_empty ⟨.ref s.heap.objs.size,_,I.laid (a:=s.heap.objs.size) (o:=.dK []) (t':=s.toks) (fun _ _ q=>Heap.get?_push_of_some _ q) (Nat.le_refl _) (dk_empty s.heap I.big),rfl,h _ (I.hok.fresh (Nat.le_refl _))⟩
end
structure M1 (X:Cx) (o:Expr) (m:Str) (apos:Pos) (e:Expr) (cpos:Pos):Prop where
 base:attributeBase o m X.env (eval o X.env)=eval o X.env
 few:((backTo cpos (starEach [e] X.env)).all (fun x=>!x.1) && (backToKw cpos (keywordEach [] X.env)).all (fun x=>x.1.isSome)
  && decide (([e]:List Expr).length + ([]:List Keyword).length + (if ([]:List Keyword).isEmpty then 0 else 1) < 30))=true
 line:(apos.endLine == cpos.line)=true
 trees:backTo cpos (starEach [e] X.env)=[(false,eval e X.env)]
structure M2 (X:Cx) (o:Expr) (m:Str) (apos:Pos) (e f:Expr) (cpos:Pos):Prop where
 base:attributeBase o m X.env (eval o X.env)=eval o X.env
 few:((backTo cpos (starEach [e,f] X.env)).all (fun x=>!x.1) && (backToKw cpos (keywordEach [] X.env)).all (fun x=>x.1.isSome)
  && decide (([e,f]:List Expr).length + ([]:List Keyword).length + (if ([]:List Keyword).isEmpty then 0 else 1) < 30))=true
 line:(apos.endLine == cpos.line)=true
 trees:backTo cpos (starEach [e,f] X.env)=[(false,eval e X.env),(false,eval f X.env)]
noncomputable def IsD (H:Hp) (a:Addr):Prop:=(∃ kvs,Rd H a (.dK kvs))∨∃ kvs,Rd H a (.dT kvs)
theorem isD_at {X:Cx} {pins:List (Addr × Obj)} {σ:St} {H:Hp} {s:Shared} {a:Addr} (I:Inv X pins σ H s) (d:IsD H a) :
  s.TypeIs (.ref a) "dict"∧(∀ b,Value.ref a=.ref b→∃ ob,s.heap.get? b=some ob∧ob.dict=none)∧(a == sysModules)=false:=by
 rcases d with ⟨kvs,e⟩ | ⟨kvs,e⟩
 ·obtain ⟨_,hd,vs,_,dd⟩:=dk_rd I.hok e
  refine ⟨dd.typeIs,fun b q=>?_,hd⟩
  cases q
  obtain ⟨ob,_,_,h1,h2,_⟩:=dd
  exact ⟨ob,h1,h2.2.1⟩
 ·obtain ⟨_,hd,xs,_,dd⟩:=dt_rd I.hok e
  refine ⟨dd.typeIs,fun b q=>?_,hd⟩
  cases q
  obtain ⟨ob,_,_,h1,h2,_⟩:=dd
  exact ⟨ob,h1,h2.2.1⟩
noncomputable def tDPop1 (td ty:TE):TE:=fun σ H Q=>td σ H fun x H1=>∃ a,x=.ref a∧IsD H1 a∧ty σ H1 fun y H2=>∃ kvs k v,H2 a=some (.dK kvs)∧y=kV k∧valV kvs k=some v∧Q v (upd H2 a (.dK (dropK kvs k)))
section
variable {X:Cx} {o e f:Expr} {apos cpos:Pos} {td ty tx:TE}
theorem pe_dpop1 (ho:PE X o td) (he:PE X e ty) (m:M1 X o "pop" apos e cpos):PE X (.Call (.Attribute o "pop" apos) [e] [] cpos) (tDPop1 td ty):=by
 intro pins s σ H Q I h
 refine wpAny_Call_method m.base m.few m.line PySem.F.plainAttrs_dict PySem.F.slot_dict_pop PySem.F.type_dict_pop (thn (ho pins s σ H _ I h) fun u s1 zz9=>?_)
 obtain ⟨x,H1,I1,rx,a,ex,d,q1⟩:=zz9
 subst ex
 obtain rfl:u=Value.ref a:=rx
 obtain ⟨t1,t2,_⟩:=isD_at I1 d
 refine ⟨t1,t2,?_⟩
 rw [m.trees]
 refine Calls.callWith_builtin rfl (Calls.evalArgs_plain (Calls.spliced_cons (thn (he pins s1 σ H1 _ I1 q1) fun iv s2 zz27=>?_)))
 obtain ⟨y,H2,I2,ry,kvs,k,v,ea,ey,l,q2⟩:=zz27
 refine Calls.spliced_nil ?_
 subst ey
 exact d_pop I2 ea ry l (.inl rfl) fun w' s3 I3 rw'=>⟨v,_,I3,rw',q2⟩
end
end L2
namespace Att
open PySem PySem.W PySem.Calls PyProof.Rows
theorem ints_of_wellAll {P:Params} {h:Heap}:∀ (ns:List Int) (vs:List Value),WellAll P h vs (ns.map WData.int)→IntsAre vs ns:=by
 intro ns
 induction ns with
 | nil =>
  intro vs w
  rw [List.map_nil] at w
  cases w
  exact .nil
 | cons n ns ih =>
  intro vs w
  rw [List.map_cons] at w
  cases w with
  | cons a b =>
   cases a
   exact .cons _ _ (ih _ b)
theorem script_of {l:OpenLaw} {n:Nat} (hn:l.most=some n) {P:Params} {h:Heap} {args:List WData} {vals:List Value}
  (hpre:l.row.toRowW.claim.pre args=true) (hwl:WellAll P h vals args) :
  ∃ a vs ns,vals=[Value.ref a]∧args=[WData.list (ns.map WData.int)]∧h.get? a=some { cls:=.type "list",data:=.seq vs.toArray }∧IntsAre vs ns∧ns.length≤n:=by
 have hsh:WShape.hasAll [] args [.list .int]=true:=(pre_splitW hpre).1
 have hc:l.pre.holds [] { args:=args }=true:=(pre_splitW hpre).2
 obtain ⟨d,r,rfl,h1,h2⟩:=hasAllW_cons hsh
 obtain rfl:=hasAllW_nil h2
 obtain ⟨xs,rfl,h3⟩:=hasW_list h1
 obtain ⟨ns,rfl⟩:=items_int h3
 have hlen:ns.length≤n:=by
  unfold OpenLaw.pre at hc
  have h4:(WTm.not (.lt (.lit (.int (n:Int))) (.len (.arg 0)))).holds [] { args:=[.list (ns.map .int)] }=true:=by
   have h4:=(holds_andW hc).1
   rw [hn] at h4
   exact h4
  have h5:=condW_of h4 (w_not (w_lt w_lit (w_len_list (w_arg rfl))))
  rw [List.length_map] at h5
  refine Nat.le_of_not_lt fun q=>?_
  have q':(n:Int) < ((ns.length:Nat):Int):=by omega
  first
   | (rw [decide_eq_true q'] at h5; exact absurd h5 (by decide))
   | (simp at h5; omega)
 cases hwl with
 | cons w1 w2 =>
  cases w2
  cases w1 with
  | list ho hall=>exact ⟨_,_,ns,rfl,rfl,ho,ints_of_wellAll ns _ hall,hlen⟩
theorem post_true (l:OpenLaw) (args:List WData):l.row.toRowW.claim.post args (.bool true) args=true :=
 postW_of (r:=l.row.toRowW) (X:=(true == true))
  (show WShape.has [] (.bool true) .bool=true by first | rfl | decide | simp [WShape.has,WShape.arms,WShape.armsAll])
  (show (WTm.eq .res (.lit (.bool true))).value [] { args:=args,res:=some (.bool true),after:=args }=some (.bool (true == true)) from w_eq_bool (w_res rfl) w_lit) rfl
theorem attach_call {l:OpenLaw} {n:Nat} {q:Program} {loose:List Str} {XP:(Str→Option Value)→Heap→Prop} {YP:World→Heap→Prop} {d:DefRec}
  (hn:l.most=some n) (hdf:d.params.defaults=[])
  (call:∀ (w:World) (s₀ s₁:Shared) (mg mb:Str→Option Value) (fa:Addr) (o:Obj) (pm cd doc:Value) (a:Addr) (vs:List Value) (ns:List Int),
   Ground q loose [] XP w s₀ mg mb s₁.heap→YP w s₁.heap →
   s₁.heap.get? fa=some o→o.data=.func (docDef d.name d.params d.body d.scope pm cd doc)→s₁.heap.CodeRec cd d.name→mg d.name=some (.ref fa) →
   s₁.heap.get? a=some { cls:=.type "list",data:=.seq vs.toArray }→IntsAre vs ns→ns.length≤n→s₁.gens=#[] →
   codeAny (model l.prog w) callerA (.call (.ref fa) ⟨[.ref a],[]⟩) (fun r s'=>r=.ok (.ret (.bool true))∧OldK s₁.heap s'.heap∧s'.os=s₁.os∧AllBare s'.gens) s₁) :
  WalkO q loose XP YP l.row.toRowW d [] (fun f vs=>PySem.call f vs):=by
 intro w s₀ s₁ mg mb G Y fa o pm cd doc dV kV ho hd hcd hD hmg hg args vals as hpre hlay hrd hwl hlo
 obtain rfl:dV=.none:=Dflts.none hD hdf
 obtain rfl:kV=.none:=Dflts.noKw hD
 obtain ⟨a,vs,ns,rfl,rfl,hobj,hints,hlen⟩:=script_of hn hpre hwl
 refine enter_call (codeAny_mono (call w s₀ s₁ mg mb fa o pm cd doc a vs ns G Y ho (fd_plain hd) hcd hmg hobj hints hlen hg) fun r s' hq=>?_)
 obtain ⟨rfl,h2,h3,h4⟩:=hq
 exact ⟨.inl ⟨.bool true,.bool true,[],rfl,fun _=>rfl,.bool true,post_true l _,fun _=>⟨List.Pairwise.nil,fun _ hm=>(nomatch hm)⟩⟩,h2,h3,h4⟩
end Att
namespace L2
open PySem PySem.Spec PyProof.Rows
theorem vals_ints:∀ {vs:List Value} {ns:List Int},IntsAre vs ns→Vals (ns.map V.int) vs
 | _,_,.nil=>.nil
 | _,_,.cons n t h=>.cons ⟨t,rfl⟩ (vals_ints h)
noncomputable def Only (H:Hp):Prop:=∀ b,H b=none∨∃ o xs,H b=some (.frz o (.lst xs))
theorem law_call {P:Program} {w:World} {K:PySem.W.Frag} {mg mb:Str→Option Value} {CX:CXT} {k:Nat} {fa a:Addr} {fd:FuncData} {x:Str} {sp:Sp} {s₁:Shared} {vs:List Value} {ns:List Int}
  (KX:K.In s₁.heap) (hns:s₁.heap.Ns mainGlobals mg) (hb:s₁.heap.Ns builtinsNs mb) (hbb:∀ x:Str,x≠"__name__"→mb x=bootBuiltins x) (hlim:s₁.heap.NoLimit) (hg:s₁.gens=#[])
  (ha:s₁.heap.get? a=some { cls:=.type "list",data:=.seq vs.toArray }) (hi:IntsAre vs ns) (hl:ns.length≤sizeLine) (hr:Room k callerA)
  (F:∀ base:Heap,K.In base→base.Ns mainGlobals mg→FnOk P w K mg base CX k fa fd [x] sp) (hbind:∀ (s:Shared) (u:Value),BindsTo s fd ⟨[u],[]⟩ [(x,u)])
  (hsp:∀ H:Hp,Only H→SqL K H a (ns.map V.int)→sp [.ref a] H (fun v _=>v=.bl true) fun _ _ _=>False)
  (hCX:∀ H e s',CX [] H s₁ (fun _ _ _=>False) e s'→False) :
  codeAny (model P w) callerA (.call (.ref fa) ⟨[.ref a],[]⟩) (fun r s'=>r=.ok (.ret (.bool true))∧OldK s₁.heap s'.heap∧s'.os=s₁.os∧AllBare s'.gens) s₁:=by
 have rv:=vals_ints hi
 have lenV:=hi.length
 have core:∀ H:Hp,Only H→SqL K H a (ns.map V.int)→HOk P w H s₁.heap→(∀ b,H b≠none→b=a)→(H a≠none→K.lookup a=none) →
   codeAny (model P w) callerA (.call (.ref fa) ⟨[.ref a],[]⟩) (fun r s'=>r=.ok (.ret (.bool true))∧OldK s₁.heap s'.heap∧s'.os=s₁.os∧AllBare s'.gens) s₁:=by
  intro H hO hS hok hA hK
  have base_of:∀ {b:Addr} {o:Obj},s₁.heap.get? b=some o→H b=none→(hidT s₁.heap H).get? b=some o:=fun e n=>hidT_get e n
  have noA:∀ {b:Addr} {o:Obj} {es:Array DictEntry} {ep:Nat},s₁.heap.get? b=some o→o.data=.dict es ep→H b=none:=fun {b o es ep} e d=>by
   cases q:H b with
   | none=>rfl
   | some u =>
    have e':b=a:=hA b (by rw [q]; simp)
    subst e'
    rw [ha] at e; cases e
    have d':Data.seq vs.toArray _=Data.dict es ep:=d
    cases d'
  have nsK:∀ {b:Addr} {m:Str→Option Value},s₁.heap.Ns b m→(hidT s₁.heap H).Ns b m:=fun {b m} ⟨o,es,ep,e,d,r⟩=>⟨o,es,ep,base_of e (noA e d),d,r⟩
  have hKb:K.In (hidT s₁.heap H):=fun b o e=>base_of (KX b o e) (by
   cases q:H b with
   | none=>rfl
   | some u =>
    have e':b=a:=hA b (by rw [q]; simp)
    subst e'
    rw [hK (by rw [q]; simp)] at e; cases e)
  have hM:Mod K mg (hidT s₁.heap H):=⟨hKb,nsK hns,⟨mb,nsK hb,hbb⟩,let ⟨mc,h1,h2⟩:=hlim; ⟨mc,nsK h1,h2⟩⟩
  have e0:Env0 P w K mg (hidT s₁.heap H) callerA [] s₁ H:=⟨rfl,hM,fun b o e=>of_hidT e,Nat.le_of_eq (hidT_size _ _),trivial,fun b hb=>absurd (show b∈([]:List Addr) from hb) (by simp),hok,.of_eq hg⟩
  refine codeAny_mono ((F _ hKb (nsK hns)).run callerA [] s₁ H ⟨[.ref a],[]⟩ [.ref a] [.ref a] _ _ hr e0 (hbind s₁ (.ref a)) (.cons rfl .nil) (hsp H hO hS)) fun r s' h=>?_
  cases r with
  | error e=>exact (hCX H e s' h).elim
  | ok fl =>
   cases fl with
   | next=>exact False.elim h
   | brk=>exact False.elim h
   | cont=>exact False.elim h
   | ret u =>
    obtain ⟨v,H',os,bare,un,hok',r',q⟩:=h
    have q':v=.bl true:=q
    subst q'
    obtain rfl:u=Value.bool true:=r'
    refine ⟨rfl,OldK.of_keep fun b o e=>?_,os,bare⟩
    cases q:H b with
    | none=>exact un.keep b o e q (by intro z; exact absurd (show b∈([]:List Addr) from z) (by simp)) (by simp)
    | some u =>
     rcases hO b with z | ⟨ob,xs,z⟩
     ·rw [q] at z; cases z
     ·have z2:=un.frzs b ob _ z
      obtain ⟨e1,_⟩:=hok b _ z
      obtain ⟨e2,_⟩:=hok' b _ z2
      rw [e] at e1; cases e1
      exact e2
 cases hk:K.lookup a with
 | some o =>
  have e:=KX a o hk
  rw [ha] at e
  cases e
  refine core (fun _=>none) (fun _=>.inl rfl) (.inr ⟨_,vs.toArray,_,hk,rfl,rfl,rfl,by rw [List.size_toArray,lenV]; exact hl,by simpa using rv⟩) (fun b u z=>by have z':(none:Option HO)=some u:=z; cases z') (fun b z=>absurd rfl z) fun z=>absurd rfl z
 | none =>
  refine core (fun b=>if b=a then some (.frz { cls:=.type "list",data:=.seq vs.toArray } (.lst (ns.map V.int))) else none) (fun b=>?_) (.inl (.inr ⟨{ cls:=.type "list",data:=.seq vs.toArray },if_pos rfl⟩)) (fun b u z=>?_) (fun b z=>?_) fun _=>hk
  ·by_cases hb:b=a
   ·exact .inr ⟨_,_,if_pos hb⟩
   ·exact .inl (if_neg hb)
  ·by_cases hb:b=a
   ·have z':=(if_pos hb).symm.trans z
    cases z'
    subst hb
    exact ⟨ha,by rw [List.length_map]; exact hl,vs,_,rv,ha⟩
   ·have z':=(if_neg hb).symm.trans z
    cases z'
  ·by_cases hb:b=a
   ·exact hb
   ·exact absurd (if_neg hb) z
end L2
namespace L2
open PySem PySem.Spec PyProof.Rows
noncomputable abbrev KOf {K:PySem.W.Frag} {h:Heap} (_:K.In h):PySem.W.Frag:=K
theorem walk_of {l:PySem.W.OpenLaw} {n k:Nat} {q:Program} {loose:List Str} {XP:(Str→Option Value)→Heap→Prop} {YP:World→Heap→Prop} {d:DefRec} {K:Params→PySem.W.Frag} {CX:World→CXT} {sp:World→Sp} {x:Str}
  (hn:l.most=some n) (hn2:n≤sizeLine) (hdf:d.params.defaults=[]) (hr:Room k callerA)
  (hY:∀ (w:World) (h:Heap),YP w h→(K w.params).In h)
  (F:∀ (w:World) (mg:Str→Option Value) (fa:Addr) (h:Heap),(K w.params).In h→h.Ns mainGlobals mg→mg d.name=some (.ref fa) →
   ∃ fd:FuncData,(∀ (s:Shared) (u:Value),BindsTo s fd ⟨[u],[]⟩ [(x,u)]) ∧
    ∀ base:Heap,(K w.params).In base→base.Ns mainGlobals mg→FnOk l.prog w (K w.params) mg base (CX w) k fa fd [x] (sp w))
  (hsp:∀ (w:World) (H:Hp) (a:Addr) (ns:List Int),ns.length≤n→Only H→SqL (K w.params) H a (ns.map V.int)→sp w [.ref a] H (fun v _=>v=.bl true) fun _ _ _=>False)
  (hCX:∀ (w:World) (H:Hp) (s:Shared) (e:Value) (s':Shared),CX w [] H s (fun _ _ _=>False) e s'→False) :
  PySem.W.WalkO q loose XP YP l.row.toRowW d [] (fun f vs=>PySem.call f vs):=by
 refine Att.attach_call hn hdf fun w s₀ s₁ mg mb fa o pm cd doc a vs ns G Y ho hd hcd hmg hobj hints hlen hg=>?_
 have KX:=hY w _ Y
 obtain ⟨fd,hb,hF⟩:=F w mg fa _ KX G.T.g hmg
 exact law_call KX G.T.g G.T.b G.T.builtins G.T.nolimit hg hobj hints (Nat.le_trans hlen hn2) hr hF hb (fun H hO hS=>hsp w H a ns hlen hO hS) fun H e s'=>hCX w H s₁ e s'
end L2
namespace L2
open PySem PySem.Spec PyProof.Rows
noncomputable def inClass (s:Stmt) (j:Nat):Stmt:=match s with
 | .ClassDef _ _ _ body _ _ _ _ _ _ _=>body.getD j (.Pass ⟨0,0,0,0⟩)
 | _=>.Pass ⟨0,0,0,0⟩
noncomputable def defArgs (s:Stmt):Arguments:=match s with
 | .FunctionDef _ a _ _ _ _ _ _ _ _=>a
 | _=>{ posonlyargs:=[],args:=[],vararg:=none,kwonlyargs:=[],kw_defaults:=[],kwarg:=none,defaults:=[] }
noncomputable def defBody (s:Stmt):List Stmt:=match s with
 | .FunctionDef _ _ b _ _ _ _ _ _ _=>b
 | _=>[]
noncomputable def defScope (s:Stmt):Scope:=match s with
 | .FunctionDef _ _ _ _ _ _ sc _ _ _=>sc
 | _=>{ kind:=.function,names:=[],isGenerator:=false,isCoroutine:=false }
noncomputable abbrev E0:XK:=fun _ _ _=>False
structure Fun (K:PySem.W.Frag) (x qual:Str) (st:Stmt) (f:Addr) (fd:FuncData):Prop where
 ex:∃ (oc:Value) (od:Option Addr) (kV doc pm:Value) (an:Option Addr) (cdv ct:Value) (osl:Array (Option Value)),
  fd=PySem.W.fnOf x qual (defArgs st) (defBody st) (defScope st) .none kV doc pm an cdv ct∧K.lookup f=some ⟨oc,od,.func fd,osl⟩∧PySem.W.codeIn K cdv qual=true
 kp:PySem.W.keepIn K (.ref f)=true
section
variable {P:Program} {w:World} {K:PySem.W.Frag} {mg:Str→Option Value} {base:Heap}
theorem Fun.binds {x qual:Str} {st:Stmt} {f:Addr} {fd:FuncData} {ps:List Str} (F:Fun K x qual st f fd)
  (h:∀ (kV doc pm:Value) (an:Option Addr) (cdv ct:Value) (us:List Value),us.length=ps.length→bindArgs (PySem.W.fnOf x qual (defArgs st) (defBody st) (defScope st) .none kV doc pm an cdv ct) ⟨us,[]⟩=pure (ps.zip us)):Binds K fd ps []:=by
 obtain ⟨oc,od,kV,doc,pm,an,cdv,ct,osl,rfl,lk,hcd⟩:=F.ex
 exact .all (h kV doc pm an cdv ct)
theorem fun_mk {x qual:Str} {st:Stmt} {f:Addr} {oc:Value} {od an:Option Addr} {osl:Array (Option Value)} {kV doc pm cdv ct:Value} (l:K.lookup f=some ⟨oc,od,.func (PySem.W.fnOf x qual (defArgs st) (defBody st) (defScope st) .none kV doc pm an cdv ct),osl⟩)
  (c:PySem.W.codeIn K cdv qual=true) (k:PySem.W.keepIn K (.ref f)=true):Fun K x qual st f (PySem.W.fnOf x qual (defArgs st) (defBody st) (defScope st) .none kV doc pm an cdv ct):=⟨⟨oc,od,kV,doc,pm,an,cdv,ct,osl,rfl,l,c⟩,k⟩
end
theorem hu_of {A:Around} {k:Nat} (hr:Room k A):A.units + 1 < cLine:=Nat.lt_of_le_of_lt (Nat.add_le_add_left (by decide:1≤64) _) hr.units
theorem small1000 {n:Nat} (h:n≤1000):n < sizeLine:=Nat.lt_of_le_of_lt h (by decide)
section
variable {X:Cx}
theorem pv (i:Nat) {x:Str} {pos:Pos} (hN:X.N[i]?=some x:=by rfl) (hv:Vis X.env.scope x:=by first | exact Or.inl rfl | exact Or.inr (Or.inl rfl) | exact Or.inr (Or.inr rfl)) (hd:(x == ("__debug__":Str))=false:=by decide)
  (hcd:(x == ("__classdict__":Str))=false:=by decide):PE X (.Name x pos) (tVar i):=pe_var hN hv hd hcd
end
theorem iteF {A B:Prop} (h:B):if false=true then A else B:=by
 rw [if_neg Bool.false_ne_true]
 exact h
theorem iteT {A B:Prop} (h:A):if true=true then A else B:=by
 rw [if_pos rfl]
 exact h
theorem ite2 {c A B:Prop} [Decidable c] (h1:c→A) (h2:¬ c→B):if c then A else B:=by
 by_cases h:c
 ·rw [if_pos h]
  exact h1 h
 ·rw [if_neg h]
  exact h2 h
noncomputable def Same (H H':Hp):Prop:=∀ b o,H b=some o→H' b=some o
theorem Same.refl (H:Hp):Same H H:=fun _ _ h=>h
theorem Same.trans {H H1 H2:Hp} (a:Same H H1) (b:Same H1 H2):Same H H2:=fun c o h=>b c o (a c o h)
theorem Same.free {H H':Hp} (e:Same H H') {l:Addr} (h:H' l=Option.none):H l=Option.none:=by
 cases q:H l with
 | none=>rfl
 | some o =>
  rw [e l o q] at h
  cases h
theorem Same.seq {K:PySem.W.Frag} {H H':Hp} {a:Addr} {xs:List V} (e:Same H H') (h:SqL K H a xs):SqL K H' a xs:=by
 rcases h with (h | ⟨o,h⟩) | h
 ·exact .inl (.inl (e _ _ h))
 ·exact .inl (.inr ⟨o,e _ _ h⟩)
 ·exact .inr h
end L2
set_option maxHeartbeats 4000000
namespace L2
open PySem PySem.Spec PyProof.Rows
noncomputable def cloList (env:Env):List (Str × NameKind)→List (Str × Addr)→List (Str × Addr)
 | [],acc=>acc
 | (n,k) :: r,acc=>if (k == NameKind.free)=true then (match env.cells.lookup n with
  | some c=>cloList env r ((n,c) :: acc)
  | none=>cloList env r acc) else cloList env r acc
theorem cloList_sound {env:Env}:∀ (ns:List (Str × NameKind)) (acc:List (Str × Addr)),(∀ x c,acc.lookup x=some c→env.cells.lookup x=some c) →
  ∀ x c,(cloList env ns acc).lookup x=some c→env.cells.lookup x=some c
 | [],acc,h=>h
 | (n,k) :: r,acc,h=>by
  unfold cloList
  split
  ·cases e:env.cells.lookup n with
   | none=>exact cloList_sound r acc h
   | some c =>
    refine cloList_sound r _ fun x d hx=>?_
    rw [List.lookup_cons] at hx
    cases hb:x == n with
    | true =>
     rw [hb] at hx
     cases hx
     rw [beq_iff_eq.mp hb]
     exact e
    | false =>
     rw [hb] at hx
     exact h x d hx
  ·exact cloList_sound r acc h
theorem cloList_keeps {env:Env}:∀ (ns:List (Str × NameKind)) (acc:List (Str × Addr)) (x:Str),(∃ c,acc.lookup x=some c)→∃ c,(cloList env ns acc).lookup x=some c
 | [],acc,x,h=>h
 | (n,k) :: r,acc,x,h=>by
  unfold cloList
  split
  ·cases e:env.cells.lookup n with
   | none=>exact cloList_keeps r acc x h
   | some c =>
    refine cloList_keeps r _ x ?_
    rw [List.lookup_cons]
    cases hb:x == n with
    | true=>exact ⟨c,rfl⟩
    | false=>exact h
  ·exact cloList_keeps r acc x h
theorem cloList_has {env:Env}:∀ (ns:List (Str × NameKind)) (acc:List (Str × Addr)) (x:Str),(x,NameKind.free)∈ns→(∃ c,env.cells.lookup x=some c)→∃ c,(cloList env ns acc).lookup x=some c
 | [],acc,x,h,_=>by cases h
 | (n,k) :: r,acc,x,h,hc=>by
  rcases List.mem_cons.mp h with e | h
  ·cases e
   obtain ⟨c,hc⟩:=hc
   unfold cloList
   rw [if_pos (show (NameKind.free == NameKind.free)=true by decide),hc]
   exact cloList_keeps r _ n ⟨c,by rw [List.lookup_cons,beq_self_eq_true]⟩
  ·unfold cloList
   split
   ·cases e:env.cells.lookup n with
    | none=>exact cloList_has r acc x h hc
    | some c=>exact cloList_has r _ x h hc
   ·exact cloList_has r acc x h hc
theorem cloFor_run {env:Env} (f:Str × NameKind→List (Str × Addr)→Sem (ForInStep (List (Str × Addr))))
  (hf:∀ name kind cs,f (name,kind) cs=if (kind == NameKind.free)=true then (do let a ← cellOf env name; pure (.yield ((name,a) :: cs))) else pure (.yield cs)) :
  ∀ (ns:List (Str × NameKind)) (acc:List (Str × Addr)),(∀ y∈ns,y.2=.free→∃ c,env.cells.lookup y.1=some c)→forIn ns acc f=pure (cloList env ns acc)
 | [],acc,_=>by rw [List.forIn_nil]; rfl
 | (n,k) :: r,acc,h=>by
  rw [List.forIn_cons,hf]
  unfold cloList
  have hr:∀ y∈r,y.2=.free→∃ c,env.cells.lookup y.1=some c:=fun y hy=>h y (List.mem_cons_of_mem _ hy)
  split
  ·rename_i hk
   obtain ⟨c,hc⟩:=h (n,k) List.mem_cons_self (by simpa using hk)
   have hc':env.cells.lookup n=some c:=hc
   have e:cellOf env n=pure c:=by unfold cellOf; rw [hc']
   rw [e,hc']
   exact cloFor_run f hf r ((n,c) :: acc) hr
  ·exact cloFor_run f hf r acc hr
theorem closure_run {env:Env} {scope:Scope} (h:∀ y∈scope.names,y.2=.free→∃ c,env.cells.lookup y.1=some c):closureFor scope env=pure (cloList env scope.names []):=by
 unfold closureFor
 dsimp only
 rw [cloFor_run (env:=env) _ (fun name kind cs=>by split <;> rfl) scope.names [] h]
 rfl
theorem relabel_lookup (env:Env):∀ (names:List (Str × NameKind)) (x:Str),
  (names.map fun (n,k)=>if (k == NameKind.free && env.scope.kind == .function && env.kindOf n == some .cell) then (n,NameKind.cell) else (n,k)).lookup x =
   (names.lookup x).map fun k=>if (k == NameKind.free && env.scope.kind == .function && env.kindOf x == some .cell)=true then NameKind.cell else k
 | [],_=>rfl
 | (n,k) :: r,x=>by
  have ih:=relabel_lookup env r x
  have e:(if (k == NameKind.free && env.scope.kind == .function && env.kindOf n == some .cell)=true then (n,NameKind.cell) else (n,k))=(n,if (k == NameKind.free && env.scope.kind == .function && env.kindOf n == some .cell)=true then NameKind.cell else k):=by split <;> rfl
  show List.lookup x ((if (k == NameKind.free && env.scope.kind == .function && env.kindOf n == some .cell)=true then (n,NameKind.cell) else (n,k)) :: _)=_
  rw [e,List.lookup_cons,List.lookup_cons]
  cases hx:x == n with
  | true =>
   have e2:x=n:=beq_iff_eq.mp hx
   subst e2
   rfl
  | false=>exact ih
theorem relabel_free {env:Env} {names:List (Str × NameKind)} {x:Str} {k:NameKind} (hc:∀ y∈names,y.2≠.cell)
  (h:(names.map fun (n,k)=>if (k == NameKind.free && env.scope.kind == .function && env.kindOf n == some .cell) then (n,NameKind.cell) else (n,k)).lookup x=some k) (hk:k=.cell∨k=.free):names.lookup x=some .free:=by
 rw [relabel_lookup] at h
 cases e:names.lookup x with
 | none=>rw [e] at h; cases h
 | some k' =>
  rw [e] at h
  have hk':k'≠.cell:=hc _ (PySem.mem_of_lookup e)
  have h':(if (k' == NameKind.free && env.scope.kind == .function && env.kindOf x == some .cell)=true then NameKind.cell else k')=k:=Option.some.inj h
  split at h'
  ·rename_i q
   simp only [Bool.and_eq_true,beq_iff_eq] at q
   rw [q.1.1]
  ·subst h'
   rcases hk with z | z
   ·exact absurd z hk'
   ·rw [z]
theorem relabel_nolocal {env:Env} {names:List (Str × NameKind)} {x:Str} (h:names.lookup x=some .free) :
  (names.map fun (n,k)=>if (k == NameKind.free && env.scope.kind == .function && env.kindOf n == some .cell) then (n,NameKind.cell) else (n,k)).lookup x≠some .local:=by
 rw [relabel_lookup,h]
 intro z
 have z':(if (NameKind.free == NameKind.free && env.scope.kind == .function && env.kindOf x == some .cell)=true then NameKind.cell else NameKind.free)=.local:=Option.some.inj z
 split at z' <;> cases z'
noncomputable def blkCx (X:Cx) (N':List Str) (scope:Scope) (C:Addr) (s₀:Shared) (H₀:Hp) (ex:List Addr):Cx :=
 { X with N:=N',s₀:=s₀,H₀:=H₀,env:=compEnvC scope (cloList X.env scope.names []) C X.env,outer:=X.stack,ex:=ex,fn:=fun _=>false,pn:=[],xe:=fun _ _=>False }
noncomputable def FvOk (X:Cx) (scope:Scope):List (Str × Nat)→Prop
 | []=>True
 | (x,j) :: r=>(X.N[j]?=some x∧scope.names.lookup x=some .free∧(X.env.kindOf x=some .cell∨X.env.kindOf x=some .free))∧FvOk X scope r
theorem FvOk.mem {X:Cx} {scope:Scope}:∀ {l:List (Str × Nat)},FvOk X scope l→∀ y∈l,X.N[y.2]?=some y.1∧scope.names.lookup y.1=some .free∧(X.env.kindOf y.1=some .cell∨X.env.kindOf y.1=some .free)
 | [],_,_,h=>by cases h
 | (x,j) :: r,h,y,hy=>by
  rcases List.mem_cons.mp hy with e | hy
  ·cases e; exact h.1
  ·exact FvOk.mem h.2 y hy
noncomputable def blkN (ts:List Str) (fv:List (Str × Nat)):List Str:=ts ++ fv.map (·.1)
noncomputable def blkS (ts:List Str) (fv:List (Str × Nat)) (σ:St):St:=ts.map (fun _=>none) ++ fv.map fun y=>(σ[y.2]?).join
structure BlkOk (X:Cx) (scope:Scope) (fv:List (Str × Nat)):Prop where
 kind:scope.kind=.function
 nocell:∀ y∈scope.names,y.2≠.cell
 names:∀ y∈scope.names,y.2=.local→scope.names.lookup y.1=some .local
 free:∀ y∈scope.names,y.2=.free→X.env.kindOf y.1=some .cell∨X.env.kindOf y.1=some .free
 fvs:FvOk X scope fv
section
variable {X:Cx} {pins:List (Addr × Obj)} {σ:St} {H:Hp} {s:Shared} {scope:Scope} {ts:List Str} {fv:List (Str × Nat)}
theorem blk_start {h':Heap} {fp:List Addr} {tk:Nat} (B:BlkOk X scope fv) (I:Inv X pins σ H s) (hf:∀ b∈fp,FpOk X pins H b) (ho:∀ b∈fp,∃ o,s.heap.get? b=some o)
  (hn:h'.Ns s.heap.objs.size (fun _=>none)) (hk:∀ b o,s.heap.get? b=some o→h'.get? b=some o) :
  Inv (blkCx X (blkN ts fv) scope s.heap.objs.size s H fp) [] (blkS ts fv σ) H { s with heap:=h',toks:=tk }:=by
 have has:∀ y∈scope.names,y.2=.free→∃ c,X.env.cells.lookup y.1=some c:=fun y hy e=>I.ok.has y.1 (B.free y hy e)
 have snd:∀ x c,(cloList X.env scope.names []).lookup x=some c→X.env.cells.lookup x=some c:=cloList_sound _ _ (fun x c h=>by simp at h)
 have fr:∀ x,(scope.names.lookup x=some .free)→∃ c,(cloList X.env scope.names []).lookup x=some c:=fun x hx =>
  cloList_has _ _ x (PySem.mem_of_lookup hx) (has _ (PySem.mem_of_lookup hx) rfl)
 have nfs:∀ b∈fp,b ∉ frs X.stack:=fun b hb z=>by
  obtain ⟨_,h1,h2,_⟩:=hf b hb
  rcases List.mem_cons.mp (I.stkSub b z) with e | e
  ·exact h1 e
  ·exact h2 e
 have lt:∀ b∈fp,b < s.heap.objs.size:=fun b hb=>let ⟨o,e⟩:=ho b hb; Heap.lt_size e
 refine ⟨⟨I.ok.mod,?_,I.ok.glob,I.ok.blt,Nat.le_refl _,fun x y c h1 h2=>I.ok.inj x y c (snd x c h1) (snd y c h2),fun x hx=>?_,fun _ _ h=>absurd (show false=true from h) Bool.false_ne_true,I.ok.hd,I.ok.frames,.inl rfl,fun b hb=>⟨Nat.ne_of_lt (lt b hb),fun x c e=>(hf b hb).2.2.2.2.1 x c (snd x c e)⟩,I.bs,Nat.le_trans I.ok.bsz I.sz,fun b o e hb=>?_,nfs,I.stack,I.stkFree⟩,
  rfl,I.bare,Un.kept hk,⟨_,hn,fun i x v h1 h2 h3=>?_⟩,fun x c e=>?_,I.fresh,fun x c e=>I.freeC x c (snd x c e),fun p hp=>?_,I.hok.kept hk,?_⟩
 ·exact B.kind
 ·refine fr x ?_
  have hx':(relabel scope X.env).names.lookup x=some .cell∨(relabel scope X.env).names.lookup x=some .free:=hx
  rcases hx' with e | e
  ·exact relabel_free B.nocell e (.inl rfl)
  ·exact relabel_free B.nocell e (.inr rfl)
 ·rcases (hf b hb).2.2.2.1 with z | z
  ·exact I.ok.noex b o e z
  ·exact absurd (Nat.lt_of_lt_of_le (Heap.lt_size e) (Nat.le_trans I.ok.bsz z)) (Nat.lt_irrefl _)
 ·have h1:(ts ++ fv.map (·.1))[i]?=some x:=h1
  have h2:(ts.map (fun _=>(none:Option V)) ++ fv.map fun y=>(σ[y.2]?).join)[i]?=some (some v):=h2
  by_cases hi:i < ts.length
  ·rw [List.getElem?_append_left (by simpa using hi),List.getElem?_map] at h2
   cases e:ts[i]? with
   | none=>rw [e] at h2; cases h2
   | some z=>rw [e] at h2; cases h2
  ·rw [List.getElem?_append_right (by simpa using hi),List.length_map,List.getElem?_map] at h2
   rw [List.getElem?_append_right (by simpa using hi),List.getElem?_map] at h1
   cases e:fv[i - ts.length]? with
   | none=>rw [e] at h2; cases h2
   | some y =>
    rw [e] at h1 h2
    have e1:y.1=x:=by simpa using h1
    have e2:(σ[y.2]?).join=some v:=by simpa using h2
    obtain ⟨f1,f2,f3⟩:=B.fvs.mem y (List.mem_of_getElem? e)
    have e3:σ[y.2]?=some (some v):=by
     cases q:σ[y.2]? with
     | none=>rw [q] at e2; cases e2
     | some z=>rw [q] at e2; exact congrArg some e2
    obtain ⟨m,hm,hl⟩:=I.loc
    obtain ⟨u,r,l⟩:=hl y.2 y.1 v f1 e3 (by rcases f3 with z | z; exact .inr (.inl z); exact .inr (.inr z))
    rw [e1] at f2 f3 l
    refine ⟨u,r,?_⟩
    obtain ⟨c,hc⟩:=fr x f2
    have hc':=snd x c hc
    rcases l with ⟨l1,_⟩ | ⟨_,c2,l2,l3⟩
    ·rcases f3 with z | z
     ·rw [l1] at z; cases z
     ·rw [l1] at z; cases z
    ·rw [hc'] at l2
     cases l2
     have hv:Vis (relabel scope X.env) x:=h3
     rcases hv with z | z | z
     ·exfalso
      exact relabel_nolocal f2 z
     ·exact .inr ⟨.inl z,c,hc,l3.keeps hk⟩
     ·exact .inr ⟨.inr z,c,hc,l3.keeps hk⟩
 ·obtain ⟨v,z⟩:=I.cell x c (snd x c e)
  exact ⟨v,z.keeps hk⟩
 ·exact absurd (show p∈([]:List (Addr × Obj)) from hp) (by simp)
 ·show (ts.map (fun _=>(none:Option V)) ++ fv.map fun y=>(σ[y.2]?).join).length=(ts ++ fv.map (·.1)).length
  simp
theorem Inv.apart {C:Addr} {h':Heap} (I:Inv X pins σ H s) (hs:Heap.SameBut C s.heap h') (hC:H C=none) (h0:X.s₀.heap.objs.size≤C) (hL:C≠X.env.locals) (hc:∀ x c,X.env.cells.lookup x=some c→c≠C) (hp:∀ p∈X.pn ++ pins,p.1≠C) :
  Inv X pins σ H { s with heap:=h' } :=
 I.turned (t':=s.toks) (it:=C) (fun b o hb e=>(hs.2 b hb).trans e) hC hL (.inr h0) hc hp
theorem blk_end {s':Shared} {H':Hp} {σ':St} {C:Addr} {N':List Str} {fp:List Addr} (I:Inv X pins σ H s) (hf:∀ b∈fp,FpOk X pins H b) (hC:s.heap.objs.size≤C)
  (J:Inv (blkCx X N' scope C s H fp) [] σ' H' s'):Inv X pins σ H' s'∧H' C=none∧X.s₀.heap.objs.size≤C∧C≠X.env.locals∧(∀ x c,X.env.cells.lookup x=some c→c≠C)∧(∀ p∈X.pn ++ pins,p.1≠C):=by
 refine ⟨I.call' J.os J.base J.hok J.bare fun b hb=>?_,J.free,Nat.le_trans I.sz hC,Nat.ne_of_gt (Nat.lt_of_lt_of_le I.lt hC),fun x c e z=>?_,fun p hp z=>?_⟩
 ·obtain ⟨_,h1,_,h3,h4,h5⟩:=hf b hb
  exact ⟨h3,h1,h4,h5⟩
 ·obtain ⟨v,q⟩:=I.cell x c e
  exact absurd (Nat.lt_of_lt_of_le q.lt (by rw [z]; exact hC)) (Nat.lt_irrefl _)
 ·exact absurd (Nat.lt_of_lt_of_le (Heap.lt_size (I.pin p hp).1) (by rw [z]; exact hC)) (Nat.lt_irrefl _)
end
end L2
set_option maxHeartbeats 4000000
namespace L2
open PySem PySem.Spec PyProof.Rows
noncomputable abbrev TB:=St→Hp→(St→Hp→Prop)→Prop
noncomputable def PTs (X:Cx) (ifs:List Expr) (t:TT):Prop :=
 ∀ (pins:List (Addr × Obj)) (s:Shared) (σ:St) (H:Hp) (Q:Bool→Hp→Prop),Inv X pins σ H s→t σ H Q →
  wpAny (model X.prog X.w) X.A (forIn ifs true fun c r=>if r=true then do let ok ← isTrue c X.env (eval c X.env); pure (ForInStep.yield ok) else pure (ForInStep.yield r)) (TP X pins σ Q) X.xe s
noncomputable def tYes:TT:=fun _ H Q=>Q true H
theorem pts_nil {X:Cx}:PTs X [] tYes:=fun pins s σ H Q I h=>wpAny_tests_nil ⟨H,I,h⟩
theorem pts_one {X:Cx} {c:Expr} {t:TT} (h:PT X c t):PTs X [c] t:=fun pins s σ H Q I hq=>wpAny_tests_one (h pins s σ H Q I hq)
noncomputable def PB (X:Cx) (kont:Sem Fin) (c:Code) (t:TB):Prop :=
 ∀ (pins:List (Addr × Obj)) (s:Shared) (σ:St) (H:Hp) (N:St→Hp→Prop),Inv X pins σ H s→t σ H N →
  wpAny (model X.prog X.w) X.A kont (fun fin s'=>fin=.again c∧∃ σ' H',Inv X pins σ' H' s'∧N σ' H') X.xe s
noncomputable def LoopR (J:It) (g:TG) (tt:TT) (tb:TB) (R:St→Hp→Prop) (σ:St) (H:Hp):Prop :=
 ∃ W:Nat→Nat→St→Hp→Prop,(∃ m,W 0 m σ H)∧∀ i m σ H,W i m σ H →
  (J.stop i H∧R σ H)∨(J.go i H∧∃ N:St→Hp→Prop,(∀ σ' H',N σ' H'→∃ m',m' < m∧W (i + 1) m' σ' H') ∧
   ∀ x H',J.yld i H x H'→g x σ H' fun σ2 H2=>tt σ2 H2 fun b H3=>if b=true then tb σ2 H3 N else N σ2 H3)
section
variable {X:Cx}
theorem comp_loop {e tg:Expr} {d:Nat} {acc:Value} {ifs:List Expr} {kont:Sem Fin} {J:It} {fp:List Addr} {it:Addr} {tn:Nat→Heap→Prop} {g:TG} {tt:TT} {tb:TB} {p:Pos} {pins:List (Addr × Obj)} {s:Shared} {σ:St} {H:Hp} {R:St→Hp→Prop}
  {RR:Result→Shared→Prop} (hxe:X.xe=fun _ _=>False)
  (hcq:Code.quiet (.compLoop e d (.ref it) acc X.env)=true) (hden:(model X.prog X.w).den (.compLoop e d (.ref it) acc X.env)=(compTurn e d (.ref it) acc X.env).onRaise (fun x=>do noteFrame x X.env; theTreesLotGoes x))
  (hund:X.A.under (.compLoop e d (.ref it) acc X.env)=X.A)
  (heq:compTurn e d (.ref it) acc X.env=(standAt p >>= fun _=>pyNext (.ref it) >>= fun r=>match r with
   | none=>pure (.done .next)
   | some v=>letOwnedTupleGo tg (.ref it) v >>= fun _=>assign tg X.env v >>= fun _ =>
    (forIn ifs true fun c r=>if r=true then do let ok ← isTrue c X.env (eval c X.env); pure (ForInStep.yield ok) else pure (ForInStep.yield r)) >>= fun ok =>
     if ok=true then kont else again (.compLoop e d (.ref it) acc X.env)))
  (T:Turn X.prog X.w X.K tg J fp it tn) (hc:X.calm=true) (hg:PG X tg g) (ht:PTs X ifs tt) (hb:PB X kont (.compLoop e d (.ref it) acc X.env) tb)
  (hf:∀ b∈fp,FpOk X pins H b) (I:Inv X pins σ H s) (st:tn 0 s.heap) (h:LoopR J g tt tb R σ H)
  (hR:∀ s' σ' H',Inv X pins σ' H' s'→R σ' H'→RR (.ok .next) s') :
  codeAny (model X.prog X.w) X.A (.compLoop e d (.ref it) acc X.env) RR s:=by
 obtain ⟨W,⟨m0,w0⟩,turn⟩:=h
 have stat:∀ {H':Hp},(∀ b∈fp,H' b=none)→∀ b∈fp,FpOk X pins H' b:=fun hn b hb=>⟨hn b hb,(hf b hb).2⟩
 refine codeAny_loop hcq (fun n s'=>∃ i σ' H',Inv X pins σ' H' s'∧tn i s'.heap∧(∀ b∈fp,H' b=none)∧W i n σ' H') ?_ m0 ⟨0,σ,H,I,st,fun b hb=>(hf b hb).1,w0⟩
 rintro n s3 ⟨i,σ3,H3,I3,st3,fr3,w3⟩
 rw [hden,hund]
 refine wpAny_noted (wpAny_mono (E:=fun _ _=>False) ?_ (fun _ _ q=>q) fun _ _ z=>z.elim)
 rw [heq]
 have hxe':∀ {α:Type} {t:Sem α} {Q:α→Shared→Prop} {s:Shared},wpAny (model X.prog X.w) X.A t Q X.xe s→wpAny (model X.prog X.w) X.A t Q (fun _ _=>False) s:=fun h=>by rw [hxe] at h; exact h
 refine wpAny_bind (wpAny_standAt (wpAny_bind ?_))
 rcases turn i n σ3 H3 w3 with ⟨stop,qn⟩ | ⟨go,N,hN,step⟩
 ·refine thn (T.done X rfl rfl rfl hc i pins s3 σ3 H3 _ I3 (stat fr3) st3 stop) fun r s4 ⟨hr,I4⟩=>?_
  subst hr
  exact wpAny_pure (hR s4 σ3 H3 I4 qn)
 ·refine thn (T.item X rfl rfl rfl hc i pins s3 σ3 H3 _ I3 (stat fr3) st3 go) fun r s4 ⟨u,hr,h4⟩=>?_
  subst hr
  refine wpAny_bind (thn h4 fun _ s5 zz9=>?_)
  obtain ⟨x,H5,I5,r5,y5,st5,fr5⟩:=zz9
  have I5':=I5.pinned (stat fr5) (T.obj _ _ st5)
  refine wpAny_bind (hxe' (thn (hg _ s5 σ3 H5 x u _ I5' r5 (step x H5 y5)) fun _ s6 zz9=>?_))
  obtain ⟨σ6,H6,I6,q6⟩:=zz9
  refine wpAny_bind (hxe ▸ thn (ht _ s6 σ6 H6 _ I6 q6) fun ok s7 zz9=>?_)
  obtain ⟨H7,I7,q7⟩:=zz9
  have back:∀ {σ7:St} {H7:Hp} {s7:Shared},Inv X (pins ++ pinsAt fp s5.heap) σ7 H7 s7→N σ7 H7→∃ m,m < n∧∃ i σ' H',Inv X pins σ' H' s7∧tn i s7.heap∧(∀ b∈fp,H' b=none)∧W i m σ' H':=fun {σ7 H7 s7} I7 n7=>by
   obtain ⟨m',hm,w7⟩:=hN σ7 H7 n7
   refine ⟨m',hm,i + 1,σ7,H7,I7.unpinned,T.keep _ _ _ st5 fun b hb o e=>(I7.pin (b,o) (List.mem_append_right _ (List.mem_append_right _ (mem_pinsAt hb e)))).1,fun b hb=>?_,w7⟩
   obtain ⟨o,e,d⟩:=T.obj _ _ st5 b hb
   exact (I7.pin (b,o) (List.mem_append_right _ (List.mem_append_right _ (mem_pinsAt hb e)))).2.1
  cases ok with
  | false=>exact hxe ▸ wpAny_pure ⟨rfl,back I7 q7⟩
  | true =>
   refine thn (hb _ s7 σ6 H7 N I7 q7) fun fin s8 zz9=>?_
   obtain ⟨hfin,σ8,H8,I8,q8⟩:=zz9
   subst hfin
   exact ⟨rfl,back I8 q8⟩
end
end L2
set_option maxHeartbeats 4000000
namespace L2
open PySem PySem.Spec PyProof.Rows
noncomputable def tEmit (te:TE) (D:Addr):TB:=fun σ H N=>te σ H fun v H1=>∃ xs,H1 D=some (.lst xs)∧xs.length < sizeLine∧N σ (upd H1 D (.lst (xs ++ [v])))
section
variable {X:Cx}
theorem pb_emit {elt:Expr} {te:TE} {D:Addr} {c:Code} (he:PE X elt te) :
  PB X ((eval elt X.env >>= fun x=>call (.builtin "list.append") [.ref D,x] >>= fun _=>pure ()) >>= fun _=>again c) c (tEmit te D):=by
 intro pins s σ H N I h
 refine wpAny_bind (wpAny_bind (thn (he pins s σ H _ I h) fun u s1 zz9=>?_))
 obtain ⟨v,H1,I1,r1,q1⟩:=zz9
 obtain ⟨xs,hD,hl,q⟩:=q1
 refine wpAny_bind (thn (mt_append pins s1 σ H1 (.ref D) [v] (.ref D) [u] (fun _ H2=>N σ H2) I1 rfl (.cons r1 .nil) ⟨D,xs,v,rfl,rfl,hD,hl,q⟩) fun _ s2 zz9=>?_)
 obtain ⟨_,H2,I2,_,q2⟩:=zz9
 exact wpAny_pure (wpAny_pure ⟨rfl,σ,H2,I2,q2⟩)
noncomputable def tGen (wi:TI) (g:TG) (tt:TT) (tb:TB):TB:=fun σ H N=>wi σ H fun J H1=>LoopR J g tt tb N σ H1
theorem compStart1 {prog:Program} {w:World} {A:Around} {R:Result→Shared→Prop} {s:Shared} {elt:Expr} {t0 i0:Expr} {f0:List Expr} {t1 i1:Expr} {f1:List Expr} {scope:Scope} {pos:Pos} {it acc:Value} {env:Env}
  (h0:codeAny (model prog w) A (.compLoop (.ListComp elt [⟨t0,i0,f0,0⟩,⟨t1,i1,f1,0⟩] scope pos) 1 it acc env) R s)
  (h:wpAny (model prog w) A (pyIter it) (fun it' s'=>codeAny (model prog w) A (.compLoop (.ListComp elt [⟨t0,i0,f0,0⟩,⟨t1,i1,f1,0⟩] scope pos) 1 it' acc env) R s')
   (notedBy (model prog w) A env fun x s'=>R (.error x) s') s) :
  codeAny (model prog w) A (.compStart (.ListComp elt [⟨t0,i0,f0,0⟩,⟨t1,i1,f1,0⟩] scope pos) 1 it acc env) R s:=by
 refine codeAny_of_tree ?_
 show wpAny _ _ ((compStart (.ListComp elt [⟨t0,i0,f0,0⟩,⟨t1,i1,f1,0⟩] scope pos) 1 it acc env).onRaise (fun x=>do noteFrame x env; standAt theWindowsPlace)) _ _ s
 refine wpAny_notedAt ?_
 unfold compStart
 show wpAny _ _ (ask >>= _) _ _ s
 refine wpAny_bind (wpAny_askSetting (wpAny_ite ?_))
 split
 ·first
   | exact wpAny_bind (wpAny_pure (wpAny_pure (And.intro rfl h0)))
   | exact wpAny_pure (And.intro rfl h0)
 ·first
   | exact wpAny_bind (wpAny_rule (wpAny_bind (wpAny_standAt (wpAny_bind (wpAny_mono h (fun it' s' h'=>wpAny_pure (And.intro rfl h')) fun _ _ x=>x)))))
   | (refine wpAny_bind (wpAny_rule ?_); show wpAny _ _ (standAt i1.pos >>= _) _ _ s; exact wpAny_bind (wpAny_standAt (wpAny_bind (wpAny_mono h (fun it' s' h'=>wpAny_pure (And.intro rfl h')) fun _ _ x=>x))))
theorem pb_gen {elt t0 i0 t1 i1:Expr} {f0 f1:List Expr} {scope:Scope} {pos:Pos} {D:Addr} {c:Code} {wi:TI} {g:TG} {tt:TT} {te:TE} (hxe:X.xe=fun _ _=>False) (hc:X.calm=true)
  (hi:PI X t1 i1 wi) (hg:PG X t1 g) (ht:PTs X f1 tt) (he:PE X elt te) (hs:∀ x,foldedSetIterable i1 X.env x=pure x:=by intro _; rfl) :
  PB X (eval i1 X.env >>= fun x=>standAt i1.pos >>= fun _=>foldedSetIterable i1 X.env x >>= fun x=>holding [x] (pyIter x) >>= fun it =>
   runOwn (.compStart (.ListComp elt [⟨t0,i0,f0,0⟩,⟨t1,i1,f1,0⟩] scope pos) 1 it (.ref D) X.env) X.env >>= fun _=>again c) c (tGen wi g tt (tEmit te D)):=by
 intro pins s σ H N I h
 refine wpAny_bind (thn (hi pins s σ H _ I h) fun v s1 h1=>wpAny_bind (wpAny_standAt ?_))
 rw [hs]
 refine wpAny_bind (wpAny_pure (wpAny_bind (wpAny_holding (thn h1 fun itv s2 h2=>?_))))
 obtain ⟨it,fp,tn,J,H2,e,I2,T,st2,f2,L⟩:=h2
 subst e
 have loop:∀ (A:Around),A=X.A→codeAny (model X.prog X.w) A (.compLoop (.ListComp elt [⟨t0,i0,f0,0⟩,⟨t1,i1,f1,0⟩] scope pos) 1 (.ref it) (.ref D) X.env)
   (fun r s'=>match r with | .ok f=>wpAny (model X.prog X.w) X.A (again c) (fun fin s'=>fin=.again c∧∃ σ' H',Inv X pins σ' H' s'∧N σ' H') X.xe s' | .error e=>cameBackBy (model X.prog X.w) X.A X.env X.xe e s') s2:=by
  rintro A rfl
  exact comp_loop (tg:=t1) (ifs:=f1) (R:=N) hxe rfl rfl rfl rfl T hc hg ht (pb_emit (c:=.compLoop (.ListComp elt [⟨t0,i0,f0,0⟩,⟨t1,i1,f1,0⟩] scope pos) 1 (.ref it) (.ref D) X.env) he) f2 I2 st2 L fun s' σ' H' I' q=>wpAny_pure ⟨rfl,σ',H',I',q⟩
 refine wpAny_bind (wpAny_runOwn (h:=none) ?_)
 exact compStart1 (loop _ rfl) (T.self _ _ _ _ _ st2 (loop _ rfl))
end
end L2
set_option maxHeartbeats 4000000
namespace L2
open PySem PySem.Spec PyProof.Rows
noncomputable def tComp (ts:List Str) (fv:List (Str × Nat)) (wi:TI) (g:TG) (tt:TT) (tb:Addr→TB):TE:=fun σ H Q=>wi σ H fun J H1=>∀ D,H1 D=none →
 LoopR J g tt (tb D) (fun _ H'=>Q (.ref D) H') (blkS ts fv σ) (upd H1 D (.lst []))
section
variable {X:Cx} {ts:List Str} {fv:List (Str × Nat)} {scope:Scope} {elt t0 i0:Expr} {f0:List Expr} {rest:List Comprehension} {pos:Pos} {wi:TI} {g:TG} {tt:TT} {tb:Addr→TB} {kont:Env→Addr→Addr→Sem Fin}
theorem comp_core (B:BlkOk X scope fv) (hc:X.calm=true) (hi:PI X t0 i0 wi)
  (hg:∀ C s₀ H₀ ex,PG (blkCx X (blkN ts fv) scope C s₀ H₀ ex) t0 g) (ht:∀ C s₀ H₀ ex,PTs (blkCx X (blkN ts fv) scope C s₀ H₀ ex) f0 tt)
  (heq:∀ (env:Env) (it D:Addr),compTurn (.ListComp elt (⟨t0,i0,f0,0⟩ :: rest) scope pos) 0 (.ref it) (.ref D) env=(standAt i0.pos >>= fun _=>pyNext (.ref it) >>= fun r=>match r with
   | none=>pure (.done .next)
   | some v=>letOwnedTupleGo t0 (.ref it) v >>= fun _=>assign t0 env v >>= fun _ =>
    (forIn f0 true fun c r=>if r=true then do let ok ← isTrue c env (eval c env); pure (ForInStep.yield ok) else pure (ForInStep.yield r)) >>= fun ok =>
     if ok=true then kont env it D else again (.compLoop (.ListComp elt (⟨t0,i0,f0,0⟩ :: rest) scope pos) 0 (.ref it) (.ref D) env)))
  (hb:∀ C s₀ H₀ ex it D,PB (blkCx X (blkN ts fv) scope C s₀ H₀ ex) (kont (blkCx X (blkN ts fv) scope C s₀ H₀ ex).env it D) (.compLoop (.ListComp elt (⟨t0,i0,f0,0⟩ :: rest) scope pos) 0 (.ref it) (.ref D) (blkCx X (blkN ts fv) scope C s₀ H₀ ex).env) (tb D))
  {pins:List (Addr × Obj)} {s:Shared} {σ:St} {H:Hp} {Q:VK} {RR:Value→Addr→Result→Shared→Prop} (I:Inv X pins σ H s) (h:tComp ts fv wi g tt tb σ H Q)
  (hRR:∀ D C s' H',Inv X pins σ H' s'→H' C=none→X.s₀.heap.objs.size≤C→C≠X.env.locals→(∀ x c,X.env.cells.lookup x=some c→c≠C)→(∀ p∈X.pn ++ pins,p.1≠C)→(∃ m,s'.heap.Ns C m)→Q (.ref D) H'→RR (.ref D) C (.ok .next) s') :
  wpAny (model X.prog X.w) X.A (eval i0 X.env) (fun x s₁=>wpAny (model X.prog X.w) X.A (pyIter x) (fun it s₂=>wpAny (model X.prog X.w) X.A (newList []) (fun acc s₃ =>
   wpAny (model X.prog X.w) X.A (newFunctionEnv scope X.env.globals (cloList X.env scope.names []) [] X.env.qual none .none (some X.env)) (fun cenv s₄ =>
    codeAny (model X.prog X.w) X.A (.compStart (.ListComp elt (⟨t0,i0,f0,0⟩ :: rest) scope pos) 0 it acc { cenv with scope:=relabel scope X.env }) (RR acc cenv.locals) s₄) X.xe s₃) X.xe s₂) X.xe s₁) X.xe s:=by
 refine thn (hi pins s σ H _ I h) fun v s1 h1=>thn h1 fun itv s2 h2=>?_
 obtain ⟨it,fp,tn,J,H2,e,I2,T,st2,f2,L⟩:=h2
 subst e
 have L:=L s2.heap.objs.size I2.fresh
 refine wpAny_newObj_type ?_
 have I3:Inv X pins σ (upd H2 s2.heap.objs.size (.lst [])) { s2 with heap:=s2.heap.push { cls:=.type "list",data:=.seq ([]:List Value).toArray },toks:=s2.toks }:=I2.lnew (its:=[]) (t':=s2.toks) .nil (Nat.zero_le _)
 have ho2:∀ b∈fp,∃ o,s2.heap.get? b=some o∧∀ v,o.data≠.cell v:=T.obj _ _ st2
 have f3:∀ b∈fp,FpOk X pins (upd H2 s2.heap.objs.size (.lst [])) b:=fun b hb=>by
  obtain ⟨o,ho,_⟩:=ho2 b hb
  refine ⟨?_,(f2 b hb).2⟩
  rw [upd_ne (Nat.ne_of_lt (Heap.lt_size ho))]
  exact (f2 b hb).1
 have st3:tn 0 (s2.heap.push { cls:=.type "list",data:=.seq ([]:List Value).toArray }):=T.keep _ _ _ st2 fun b _ o e=>Heap.get?_push_of_some _ e
 have ho3:∀ b∈fp,∃ o,(s2.heap.push { cls:=.type "list",data:=.seq ([]:List Value).toArray }).get? b=some o:=fun b hb=>let ⟨o,e,_⟩:=ho2 b hb; ⟨o,Heap.get?_push_of_some _ e⟩
 generalize hs3:({ s2 with heap:=s2.heap.push { cls:=.type "list",data:=.seq ([]:List Value).toArray },toks:=s2.toks }:Shared)=s3 at I3
 have eh:s2.heap.push { cls:=.type "list",data:=.seq ([]:List Value).toArray }=s3.heap:=by rw [← hs3]
 rw [eh] at st3 ho3
 refine wpAny_newFunctionEnv B.nocell (by intro y hy; simp at hy) (fun h₁ hns hsb=>?_) B.kind
 have hk:∀ b o,s3.heap.get? b=some o→h₁.get? b=some o:=fun b o e=>hsb.extBut b o (Nat.ne_of_lt (Heap.lt_size e)) (Heap.get?_push_of_some _ e)
 have I4:=blk_start (ts:=ts) (tk:=s3.toks + ([]:List (Str × Value)).length) B I3 f3 ho3 hns hk
 have f4:∀ b∈fp,FpOk (blkCx X (blkN ts fv) scope s3.heap.objs.size s3 (upd H2 s2.heap.objs.size (.lst [])) fp) [] (upd H2 s2.heap.objs.size (.lst [])) b:=fun b hb=>by
  obtain ⟨f0,f1,f2',f3',f4',f5'⟩:=f3 b hb
  obtain ⟨o,eo⟩:=ho3 b hb
  exact ⟨f0,Nat.ne_of_lt (Heap.lt_size eo),I4.ok.exfs b hb,.inl hb,(I4.ok.exf b hb).2,fun p hp=>absurd (show p∈([]:List (Addr × Obj)) from hp) (by simp)⟩
 have st4:tn 0 h₁:=T.keep _ _ _ st3 fun b _ o e=>hk b o e
 have loop:codeAny (model X.prog X.w) X.A (.compLoop (.ListComp elt (⟨t0,i0,f0,0⟩ :: rest) scope pos) 0 (.ref it) (.ref s2.heap.objs.size) (blkCx X (blkN ts fv) scope s3.heap.objs.size s3 (upd H2 s2.heap.objs.size (.lst [])) fp).env)
   (RR (.ref s2.heap.objs.size) s3.heap.objs.size) { s3 with heap:=h₁,toks:=s3.toks + ([]:List (Str × Value)).length }:=by
  refine comp_loop (X:=blkCx X (blkN ts fv) scope s3.heap.objs.size s3 (upd H2 s2.heap.objs.size (.lst [])) fp) (tg:=t0) (ifs:=f0) (R:=fun _ H'=>Q (.ref s2.heap.objs.size) H') rfl rfl rfl rfl (heq _ it s2.heap.objs.size) T hc (hg _ _ _ _) (ht _ _ _ _) (hb _ _ _ _ it s2.heap.objs.size) f4 I4 st4 L fun s' σ' H' J' q=>?_
  obtain ⟨e1,e2,e3,e4,e5,e6⟩:=blk_end I3 f3 (Nat.le_refl _) J'
  obtain ⟨m,hm,_⟩:=J'.loc
  exact hRR _ _ s' H' e1 e2 e3 e4 e5 e6 ⟨m,hm⟩ q
 exact codeAny_compStart_list loop (T.self _ _ _ _ _ st4 loop)
theorem pe_compG (B:BlkOk X scope fv) (hc:X.calm=true) (hi:PI X t0 i0 wi)
  (hg:∀ C s₀ H₀ ex,PG (blkCx X (blkN ts fv) scope C s₀ H₀ ex) t0 g) (ht:∀ C s₀ H₀ ex,PTs (blkCx X (blkN ts fv) scope C s₀ H₀ ex) f0 tt)
  (heq:∀ (env:Env) (it D:Addr),compTurn (.ListComp elt (⟨t0,i0,f0,0⟩ :: rest) scope pos) 0 (.ref it) (.ref D) env=(standAt i0.pos >>= fun _=>pyNext (.ref it) >>= fun r=>match r with
   | none=>pure (.done .next)
   | some v=>letOwnedTupleGo t0 (.ref it) v >>= fun _=>assign t0 env v >>= fun _ =>
    (forIn f0 true fun c r=>if r=true then do let ok ← isTrue c env (eval c env); pure (ForInStep.yield ok) else pure (ForInStep.yield r)) >>= fun ok =>
     if ok=true then kont env it D else again (.compLoop (.ListComp elt (⟨t0,i0,f0,0⟩ :: rest) scope pos) 0 (.ref it) (.ref D) env)))
  (hb:∀ C s₀ H₀ ex it D,PB (blkCx X (blkN ts fv) scope C s₀ H₀ ex) (kont (blkCx X (blkN ts fv) scope C s₀ H₀ ex).env it D) (.compLoop (.ListComp elt (⟨t0,i0,f0,0⟩ :: rest) scope pos) 0 (.ref it) (.ref D) (blkCx X (blkN ts fv) scope C s₀ H₀ ex).env) (tb D))
  (hs:∀ x,foldedSetIterable i0 X.env x=pure x:=by intro _; rfl) :
  PE X (.ListComp elt (⟨t0,i0,f0,0⟩ :: rest) scope pos) (tComp ts fv wi g tt tb):=by
 intro pins s σ H Q I h
 rw [eval_ListComp]
 refine wpAny_comprehension_free (use:=none) rfl hs (closure_run fun y hy e=>I.ok.has y.1 (B.free y hy e)) B.kind B.names ?_
 refine comp_core (RR:=fun acc C=>compPost (model X.prog X.w) X.A X.xe none (EP X pins σ Q) acc C) B hc hi hg ht heq hb I h fun D C s' H' I' e2 e3 e4 e5 e6 hm q=>?_
 obtain ⟨m,hm⟩:=hm
 exact ⟨m,hm,fun h' hs'=>⟨.ref D,H',I'.apart hs' e2 e3 e4 e5 e6,rfl,q⟩⟩
theorem ps_setCompG {i:Nat} {y:Str} {py spos:Pos} (B:BlkOk X scope fv) (hc:X.calm=true) (hN:X.N.Nodup) (hiy:X.N[i]?=some y) (hyl:X.env.scope.names.lookup y=some .local)
  (hsw:swapsWith (.ListComp elt (⟨t0,i0,f0,0⟩ :: rest) scope pos) (some (.Name y py)) spos.line X.env=pure true) (hi:PI X t0 i0 wi)
  (hg:∀ C s₀ H₀ ex,PG (blkCx X (blkN ts fv) scope C s₀ H₀ ex) t0 g) (ht:∀ C s₀ H₀ ex,PTs (blkCx X (blkN ts fv) scope C s₀ H₀ ex) f0 tt)
  (heq:∀ (env:Env) (it D:Addr),compTurn (.ListComp elt (⟨t0,i0,f0,0⟩ :: rest) scope pos) 0 (.ref it) (.ref D) env=(standAt i0.pos >>= fun _=>pyNext (.ref it) >>= fun r=>match r with
   | none=>pure (.done .next)
   | some v=>letOwnedTupleGo t0 (.ref it) v >>= fun _=>assign t0 env v >>= fun _ =>
    (forIn f0 true fun c r=>if r=true then do let ok ← isTrue c env (eval c env); pure (ForInStep.yield ok) else pure (ForInStep.yield r)) >>= fun ok =>
     if ok=true then kont env it D else again (.compLoop (.ListComp elt (⟨t0,i0,f0,0⟩ :: rest) scope pos) 0 (.ref it) (.ref D) env)))
  (hb:∀ C s₀ H₀ ex it D,PB (blkCx X (blkN ts fv) scope C s₀ H₀ ex) (kont (blkCx X (blkN ts fv) scope C s₀ H₀ ex).env it D) (.compLoop (.ListComp elt (⟨t0,i0,f0,0⟩ :: rest) scope pos) 0 (.ref it) (.ref D) (blkCx X (blkN ts fv) scope C s₀ H₀ ex).env) (tb D))
  (hs:∀ x,foldedSetIterable i0 X.env x=pure x:=by intro _; rfl) :
  PS X (.Assign [.Name y py] (.ListComp elt (⟨t0,i0,f0,0⟩ :: rest) scope pos) spos) (tAsg (tComp ts fv wi g tt tb) (gName i)):=by
 intro pins s σ H D0 I h
 rw [exec_Assign_Name_used _ _ _ _ hsw]
 refine wpAny_bind (wpAny_standAt (wpAny_bind ?_))
 show wpAny _ X.A (do let _ ← comprehension (.ListComp elt (⟨t0,i0,f0,0⟩ :: rest) scope pos) scope X.env _ (newList []) false (eval i0 X.env) (some (assign (.Name y py) X.env))) _ _ s
 refine wpAny_bind (wpAny_mono (wpAny_comprehension_free (use:=some (assign (.Name y py) X.env)) (Q:=fun _ s'=>SP X pins D0 .next s') rfl hs (closure_run fun y hy e=>I.ok.has y.1 (B.free y hy e)) B.kind B.names ?_) (fun _ s' hq=>wpAny_pure (wpAny_pure hq)) fun _ _ e=>e)
 refine comp_core (Q:=fun x H1=>gName i x σ H1 D0.nx) (RR:=fun acc C=>compPost (model X.prog X.w) X.A X.xe (some (assign (.Name y py) X.env)) (fun _ s'=>SP X pins D0 .next s') acc C) B hc hi hg ht heq hb I h fun D C s' H' I' e2 e3 e4 e5 e6 hm q=>?_
 obtain ⟨m,hm⟩:=hm
 show wpAny _ X.A (assign (.Name y py) X.env (.ref D)) _ _ _
 refine wpAny_assign_Name (store_ok2 I' hN hiy (.inl hyl) (show RelV (.ref D) (.ref D) from rfl) (fun s'' I'' hch=>?_) (.inr hyl))
 obtain ⟨a,hsb,ha⟩:=hch
 have haC:C≠a:=by
  rcases ha with e | e
  ·rw [e]; exact e4
  ·exact fun z=>e5 y a e z.symm
 exact ⟨m,hm.sameBut hsb haC,fun h' hs'=>⟨_,H',I''.apart hs' e2 e3 e4 e5 e6,q⟩⟩
end
end L2
set_option maxHeartbeats 4000000
namespace L2
open PySem PySem.Spec PyProof.Rows
noncomputable def FlyT (e T:Addr) (cls a0:Value) (h:Heap):Prop :=
 ∃ oe vs oT ts,h.get? e=some oe∧(oe.cls=cls∧vs[0]?=some a0)∧oe.data=.fields vs∧vs[1]?=some (.ref T)∧T≠e∧h.get? T=some oT∧oT.data=.fields ts∧ts[3]?=some .none
noncomputable def CXr (P:Program) (w:World):CXT:=fun outer H s E ev s' =>
 ∃ (e T:Addr) (cls a0:Value) (H':Hp),ev=.ref e∧s'.os=s.os∧AllBare s'.gens∧Un (frs outer) [] H H' s.heap s'.heap∧HOk P w H' s'.heap ∧
  s.heap.get? e=none∧s.heap.get? T=none∧H' e=none∧H' T=none∧FlyT e T cls a0 s'.heap∧E cls none H'
theorem passR {X:Cx}:Passes (CXr X.prog X.w) X E0:=fun _ _ _ _ _ _ _ h=>by
 obtain ⟨_,_,_,_,_,_,_,_,_,_,_,_,_,_,_,z⟩:=h
 exact z.elim
theorem cxr_top {P:Program} {w:World} {H:Hp} {s:Shared} {e:Value} {s':Shared} (h:CXr P w [] H s (fun _ _ _=>False) e s'):False:=by
 obtain ⟨_,_,_,_,_,_,_,_,_,_,_,_,_,_,_,z⟩:=h
 exact z
section
variable {P:Program} {w:World} {K:PySem.W.Frag} {mg:Str→Option Value} {base:Heap}
theorem Fun.okR {x qual:Str} {st:Stmt} {f:Addr} {fd:FuncData} {N ps:List Str} {k:Nat} {sp:Sp} (F:Fun K x qual st f fd) (S:FnScope N ps (defScope st)) (len:∀ vs H Q E,sp vs H Q E→vs.length=ps.length)
  (hbody:∀ (cdv:Value) (A:Around) (outer:List Env) (s:Shared) (H:Hp) (vs:List V) (Q:VK) (E:XK),Room k (A.deeper (envOfC qual (defScope st) s.heap.objs.size f cdv))→sp vs H Q E →
   ∃ t,PSs (cxOf (CXr P w) P w K mg base N qual (defScope st) f cdv A outer s H E).nox (defBody st) t∧t { nx:=fun _ H'=>Q .non H',rt:=Q } (start N vs) H):FnOk P w K mg base (CXr P w) (k + 1) f fd ps sp:=by
 obtain ⟨oc,od,kV,doc,pm,an,cdv,ct,osl,rfl,lk,hcd⟩:=F.ex
 refine fn_of lk hcd S len fun A outer s H vs Q E hr hsp=>?_
 obtain ⟨t,h,q⟩:=hbody cdv A outer s H vs Q E hr hsp
 exact ⟨t,h.nox,q⟩
end
section
variable {X:Cx}
theorem blkFree {X:Cx} {scope:Scope} (h:scope.names.all (fun y=>y.2 != .free || X.env.kindOf y.1 == some .cell || X.env.kindOf y.1 == some .free)=true) :
  ∀ y∈scope.names,y.2=.free→X.env.kindOf y.1=some .cell∨X.env.kindOf y.1=some .free:=fun y hy e=>by
 have:=List.all_eq_true.mp h y hy
 simp [e] at this
 exact this
end
theorem walk_r {l:PySem.W.OpenLaw} {k:Nat} {q:Program} {loose:List Str} {XP:(Str→Option Value)→Heap→Prop} {YP:World→Heap→Prop} {d:DefRec} {K:Params→PySem.W.Frag} {spl:PySem.W.Frag→Sp}
  (hn:l.most=some 63) (hdf:d.params.defaults=[]) (hr:Room k callerA) (hY:∀ (w:World) (h:Heap),YP w h→(K w.params).In h)
  (hsp:∀ (K:PySem.W.Frag) (H:Hp) (a:Addr) (ns:List Int),ns.length≤63→SqL K H a (ns.map V.int)→spl K [.ref a] H (fun v _=>v=.bl true) fun _ _ _=>False)
  (F:∀ (w:World) (mg:Str→Option Value) (fa:Addr) (h:Heap),(K w.params).In h→h.Ns mainGlobals mg→mg d.name=some (.ref fa) →
   ∃ fd:FuncData,(∀ (s:Shared) (u:Value),BindsTo s fd ⟨[u],[]⟩ [("_law_script",u)]) ∧
    ∀ base:Heap,(K w.params).In base→base.Ns mainGlobals mg→FnOk l.prog w (K w.params) mg base (CXr l.prog w) k fa fd ["_law_script"] (spl (K w.params))) :
  PySem.W.WalkO q loose XP YP l.row.toRowW d [] (fun f vs=>PySem.call f vs) :=
 walk_of (n:=63) (k:=k) (x:="_law_script") (CX:=fun w=>CXr l.prog w) (sp:=fun w=>spl (K w.params)) hn (by decide) hdf hr hY F (fun w H a ns hl _ hS=>hsp _ H a ns hl hS) (fun w H s e s' h=>cxr_top h)
end L2
set_option maxHeartbeats 4000000
namespace L2
open PySem PySem.Spec PyProof.Rows
noncomputable def ExT (e:Addr) (T:Option Addr) (cls a0:Value) (h:Heap):Prop:=match T with
 | some T=>FlyT e T cls a0 h
 | none=>∃ oe vs,h.get? e=some oe∧(oe.cls=cls∧vs[0]?=some a0)∧oe.data=.fields vs∧vs[1]?=some .none
structure FxOk (X:Cx) (pins:List (Addr × Obj)) (H:Hp) (b:Addr):Prop where
 nt:H b=none
 nl:b≠X.env.locals
 nf:b ∉ X.fs
 n0:X.s₀.heap.get? b=none
 nc:∀ x c,X.env.cells.lookup x=some c→c≠b
 np:∀ p∈X.pn ++ pins,p.1≠b
noncomputable def XS (fr:Bool) (X:Cx) (pins:List (Addr × Obj)) (R:Value→St→Hp→Prop) (ev:Value) (s':Shared):Prop :=
 ∃ (e:Addr) (T:Option Addr) (cls a0:Value) (σ':St) (H':Hp),ev=.ref e∧Inv X pins σ' H' s'∧ExT e T cls a0 s'.heap∧FxOk X pins H' e∧(∀ t,T=some t→FxOk X pins H' t)∧(T=none→fr=true)∧R cls σ' H'
noncomputable abbrev TSX:=Ends→(Value→St→Hp→Prop)→St→Hp→Prop
noncomputable abbrev TEX:=St→Hp→VK→XK→Prop
noncomputable def PSX (fr:Bool) (X:Cx) (st:Stmt) (t:TSX):Prop :=
 ∀ (pins:List (Addr × Obj)) (s:Shared) (σ:St) (H:Hp) (D:Ends) (R:Value→St→Hp→Prop),Inv X pins σ H s→t D R σ H→wpAny (model X.prog X.w) X.A (exec st X.env) (SP X pins D) (XS fr X pins R) s
noncomputable def PSsX (fr:Bool) (X:Cx) (st:List Stmt) (t:TSX):Prop :=
 ∀ (pins:List (Addr × Obj)) (s:Shared) (σ:St) (H:Hp) (D:Ends) (R:Value→St→Hp→Prop),Inv X pins σ H s→t D R σ H→wpAny (model X.prog X.w) X.A (execs st X.env) (SP X pins D) (XS fr X pins R) s
noncomputable def PEX (fr:Bool) (X:Cx) (e:Expr) (t:TEX):Prop :=
 ∀ (pins:List (Addr × Obj)) (s:Shared) (σ:St) (H:Hp) (Q:VK) (E:XK),Inv X pins σ H s→t σ H Q E→wpAny (model X.prog X.w) X.A (eval e X.env) (EP X pins σ Q) (XS fr X pins fun cls σ' H'=>σ'=σ∧E cls none H') s
section
variable {X:Cx} {fr:Bool}
theorem psx_of {st:Stmt} {t:TS} (h:PS X st t) (hx:X.xe=(fun _ _=>False):=by rfl):PSX fr X st (fun D _ σ H=>t D σ H):=fun pins s σ H D R I q=>by
 have:=h pins s σ H D I q
 rw [hx] at this
 exact wpAny_mono this (fun _ _ z=>z) fun _ _ z=>z.elim
noncomputable def tSeqX (t u:TSX):TSX:=fun D R σ H=>t { D with nx:=u D R } R σ H
theorem pssx_cons {st:Stmt} {rest:List Stmt} {t u:TSX} (h1:PSX fr X st t) (h2:PSsX fr X rest u):PSsX fr X (st :: rest) (tSeqX t u):=by
 intro pins s σ H D R I h
 refine wpAny_execs_cons (thn (h1 pins s σ H { D with nx:=u D R } R I h) fun f s1 q=>?_)
 cases f with
 | next =>
  obtain ⟨σ',H',I',q⟩:=q
  exact h2 pins s1 σ' H' D R I' q
 | ret v=>exact q
 | brk=>exact q
 | cont=>exact q
theorem pssx_one {st:Stmt} {t:TSX} (h1:PSX fr X st t):PSsX fr X [st] t:=by
 intro pins s σ H D R I h
 refine wpAny_execs_cons (thn (h1 pins s σ H D R I h) fun f s1 q=>?_)
 cases f with
 | next=>exact wpAny_execs_nil q
 | ret v=>exact q
 | brk=>exact q
 | cont=>exact q
theorem pssx_nil:PSsX fr X [] (fun D _ σ H=>D.nx σ H):=fun _ _ σ H _ _ I h=>wpAny_execs_nil ⟨σ,H,I,h⟩
noncomputable def tIfX (c:TT) (t u:TSX):TSX:=fun D R σ H=>c σ H fun b H1=>if b=true then t D R σ H1 else u D R σ H1
theorem psx_if {c:Expr} {a b:List Stmt} {tc:TT} {t u:TSX} {pos:Pos} (hc:PT X c tc) (ha:PSsX fr X a t) (hb:PSsX fr X b u) (hx:X.xe=(fun _ _=>False):=by rfl):PSX fr X (.If c a b pos) (tIfX tc t u):=by
 intro pins s σ H D R I h
 have h0:=hc pins s σ H _ I h
 rw [hx] at h0
 refine wpAny_If (wpAny_mono h0 (fun d s1 zz28=>?_) fun _ _ z=>z.elim)
 obtain ⟨H1,I1,q1⟩:=zz28
 cases d with
 | true=>exact ha pins s1 σ H1 D R I1 q1
 | false=>exact hb pins s1 σ H1 D R I1 q1
noncomputable def tDropX (te:TEX):TSX:=fun D R σ H=>te σ H (fun _ H1=>D.nx σ H1) fun cls _ H1=>R cls σ H1
theorem psx_expr {e:Expr} {te:TEX} {pos:Pos} (he:PEX fr X e te) (hs:swapsWith e none pos.line X.env=pure false:=by rfl):PSX fr X (.Expr e pos) (tDropX te):=by
 intro pins s σ H D R I h
 refine wpAny_Expr_any (wpAny_mono (he pins s σ H _ _ I h) (fun v s1 ⟨x,H1,I1,r1,q1⟩=>⟨σ,H1,I1,q1⟩) ?_) I.quiet hs
 rintro ev s1 ⟨e,T,cls,a0,σ',H',h1,h2,h3,h4,h5,h7,rfl,h6⟩
 exact ⟨e,T,cls,a0,σ',H',h1,h2,h3,h4,h5,h7,h6⟩
noncomputable def tSetX (i:Nat) (te:TEX):TSX:=fun D R σ H=>te σ H (fun x H1=>D.nx (σ.set i (some x)) H1) fun cls _ H1=>R cls σ H1
theorem psx_set {i:Nat} {x:Str} {e:Expr} {te:TEX} {pos pos':Pos} (hN:X.N.Nodup) (hi:X.N[i]?=some x) (hx:Loc X.env.scope x) (he:PEX fr X e te) (hs:swapsWith e (some (.Name x pos')) pos.line X.env=pure false:=by rfl)
  (hf:X.fn x=true∨X.env.scope.names.lookup x=some .local:=by first | exact .inl rfl | exact .inr rfl | assumption):PSX fr X (.Assign [.Name x pos'] e pos) (tSetX i te):=by
 intro pins s σ H D R I h
 refine wpAny_Assign_Name (wpAny_mono (he pins s σ H _ _ I h) (fun v s1 ⟨y,H1,I1,r1,q1⟩=>?_) ?_) hs
 ·exact store_ok I1 hN hi hx r1 (fun s2 I2=>⟨_,H1,I2,q1⟩) hf
 ·rintro ev s1 ⟨e,T,cls,a0,σ',H',h1,h2,h3,h4,h5,h7,rfl,h6⟩
  exact ⟨e,T,cls,a0,σ',H',h1,h2,h3,h4,h5,h7,h6⟩
theorem Inv.cxr {pins:List (Addr × Obj)} {σ:St} {H:Hp} {s s':Shared} {E:XK} {ev:Value} (I:Inv X pins σ H s) (hex:X.ex=[]) (h:CXr X.prog X.w X.stack H s E ev s'):XS fr X pins (fun cls σ' H'=>σ'=σ∧E cls none H') ev s':=by
 obtain ⟨e,T,cls,a0,H',rfl,os,bare,un,hok,ne,nT,he,hT,fl,q⟩:=h
 have I':Inv X pins σ H' s':=I.call' os un hok bare fun b hb=>absurd hb (by simp)
 have fx:∀ b,s.heap.get? b=none→H' b=none→FxOk X pins H' b:=fun b hb hn=>by
  refine ⟨hn,fun z=>?_,fun z=>?_,?_,fun x c e z=>?_,fun p hp z=>?_⟩
  ·obtain ⟨m,⟨o,_,_,ho,_⟩,_⟩:=I.loc
   rw [z,ho] at hb; cases hb
  ·obtain ⟨_,o,ho,_⟩:=I.funs.mem z
   rw [ho] at hb; cases hb
  ·cases q:X.s₀.heap.get? b with
   | none=>rfl
   | some o =>
    obtain ⟨o',e'⟩:=I.base.there b o q (by rw [hex]; simp)
    rw [hb] at e'; cases e'
  ·obtain ⟨v,o,ho,_⟩:=I.cell x c e
   rw [z,hb] at ho; cases ho
  ·have:=(I.pin p hp).1
   rw [z,hb] at this; cases this
 exact ⟨e,some T,cls,a0,σ,H',rfl,I',fl,fx e ne he,fun t ht=>by cases ht; exact fx T nT hT,(fun z=>nomatch z),rfl,q⟩
variable {k:Nat} {f C:Addr} {fd:FuncData} {ps:List Str} {sp:Sp} {dvs:List V} {ds:List Value} {x m:Str} {p pos apos:Pos} {e o:Expr} {es:List Expr} {ta:TE} {t:TA}
theorem run_fnX {pins:List (Addr × Obj)} {σ:St} {H:Hp} {s:Shared} {Q:VK} {E:XK} {us:List Value} {vs:List V} (F:FnOk X.prog X.w X.K X.mg X.base (CXr X.prog X.w) k f fd ps sp) (hr:Room k X.A) (hb:Binds X.K fd ps ds) (hd:Vals dvs ds) (hex:X.ex=[])
  (I:Inv X pins σ H s) (r:Vals vs us) (h:sp (vs ++ dvs) H Q E):wpAny (model X.prog X.w) X.A (call (.ref f) us) (EP X pins σ Q) (XS fr X pins fun cls σ' H'=>σ'=σ∧E cls none H') s:=by
 have r2:Vals (vs ++ dvs) (us ++ ds):=r.append hd
 have hl:(us ++ ds).length=ps.length:=by rw [← r2.length]; exact F.len _ _ _ _ h
 refine wpAny_call (codeAny_mono (F.run X.A X.stack s H ⟨us,[]⟩ (us ++ ds) (vs ++ dvs) Q E hr I.env0 (hb s us I.kIn hl) r2 h) fun r s' hq=>?_)
 cases r with
 | error e=>exact I.cxr hex hq
 | ok fl =>
  cases fl with
  | ret u=>exact I.after hq
  | next=>exact False.elim hq
  | brk=>exact False.elim hq
  | cont=>exact False.elim hq
noncomputable def tCallX (sp:Sp) (dvs:List V) (t:TA):TEX:=fun σ H Q E=>t σ H fun vs H1=>sp (vs ++ dvs) H1 Q E
theorem pex_call (F:FnOk X.prog X.w X.K X.mg X.base (CXr X.prog X.w) k f fd ps sp) (hr:Room k X.A) (hg:Gl X x) (hm:X.mg x=some (.ref f)) (hk:PySem.W.keepIn X.K (.ref f)=true) (hb:Binds X.K fd ps ds) (hd:Vals dvs ds)
  (ha:PA X (e :: es) t) (hex:X.ex=[]:=by rfl) (hx:X.xe=(fun _ _=>False):=by rfl) (hdb:(x == ("__debug__":Str))=false:=by decide) (he:starEach (e :: es) X.env=(false,eval e X.env) :: starEach es X.env:=by rfl) (hpl:(backTo pos (starEach es X.env)).any (·.1)=false:=by rfl) :
  PEX fr X (.Call (.Name x p) (e :: es) [] pos) (tCallX sp dvs t):=by
 intro pins s σ H Q E I h
 have h0:=ha pos pins s σ H _ I h
 rw [hx] at h0
 refine wpAny_Call_Name_kw (ld_glob I hg hm ?_ hdb)
 refine PySem.W.callWith_K (h₀:=X.base) I.ok.mod.kin hk (wpAny_mono h0 (fun us s1 zz29=>?_) fun _ _ z=>z.elim) he hpl
 obtain ⟨vs,H1,I1,r,q⟩:=zz29
 refine ⟨I1.kIn,?_⟩
 exact run_fnX F hr hb hd hex I1 r q
noncomputable def tMethX (C:Addr) (m:Str) (sp:Sp) (dvs:List V) (ta:TE) (t:TA):TEX:=fun σ H Q E=>ta σ H fun x H1=>∃ a dx fs,x=.ref a∧H1 a=some (.ins C dx fs)∧fs.lookup m=none ∧
 t σ H1 fun vs H2=>sp (x :: (vs ++ dvs)) H2 Q E
theorem pex_meth {pl:Sem Bool} (he:PE X o ta) (c:Cls X.K C) (hm:Meth X.K C m f) (F:FnOk X.prog X.w X.K X.mg X.base (CXr X.prog X.w) k f fd ps sp) (hr:Room k X.A) (hb:Binds X.K fd ps ds) (hd:Vals dvs ds) (ha:PA X (e :: es) t)
  (hex:X.ex=[]:=by rfl) (hx:X.xe=(fun _ _=>False):=by rfl) (hst:starEach (e :: es) X.env=(false,eval e X.env) :: starEach es X.env:=by rfl) (hpl:(backTo pos (starEach es X.env)).any (·.1)=false:=by rfl)
  (ht:eval (.Call (.Attribute o m apos) (e :: es) [] pos) X.env=(do
   let ov ← eval o X.env
   standAt apos.atName
   let (f,first) ← holding [ov] (getMethod ov m pl)
   callWith pos f first (backTo pos (starEach (e :: es) X.env)) (backToKw pos (keywordEach [] X.env))):=by rfl) :
  PEX fr X (.Call (.Attribute o m apos) (e :: es) [] pos) (tMethX C m sp dvs ta t):=by
 intro pins s σ H Q E I h
 have h0:=he pins s σ H _ I h
 rw [hx] at h0
 refine PySem.W.methodCall_KW (pl:=pl) (wpAny_mono h0 (fun u s1 zz30=>?_) fun _ _ z=>z.elim) ht
 obtain ⟨x,H1,I1,rx,a,dx,fs,ex,ea,l,q⟩:=zz30
 subst ex
 obtain rfl:u=Value.ref a:=rx
 refine getmeth_ok I1 ea c hm l ?_
 have h1:=ha pos pins s1 σ H1 _ I1 q
 rw [hx] at h1
 refine PySem.W.callWith_K (first:=[.ref a]) (h₀:=X.base) I.ok.mod.kin hm.kp (wpAny_mono h1 (fun us s2 zz31=>?_) fun _ _ z=>z.elim) hst hpl
 obtain ⟨vs,H2,I2,r,q2⟩:=zz31
 refine ⟨I2.kIn,?_⟩
 exact run_fnX (us:=.ref a :: us) (vs:=.ref a :: vs) F hr hb hd hex I2 (.cons rfl r) q2
end
end L2
set_option maxHeartbeats 4000000
namespace L2
open PySem PySem.Spec PyProof.Rows
theorem ObjOk.there {P:Program} {w:World} {H:Hp} {h:Heap} {a:Addr}:∀ {o:HO},ObjOk P w H h a o→∃ ob,h.get? a=some ob
 | .lst _,x=>by obtain ⟨_,_,_,_,e⟩:=x; exact ⟨_,e⟩
 | .tup _,x=>by obtain ⟨_,_,_,ob,e,_⟩:=x; exact ⟨_,e⟩
 | .dK _,x=>by obtain ⟨_,_,_,_,o,_,_,e,_⟩:=x; exact ⟨_,e⟩
 | .dT _,x=>by obtain ⟨_,_,_,_,o,_,_,e,_⟩:=x; exact ⟨_,e⟩
 | .set _ _,x=>by obtain ⟨o,_,_,_,e,_⟩:=x; exact ⟨_,e⟩
 | .ins _ _ _,x=>by obtain ⟨_,_,_,e,_⟩:=x; exact ⟨_,e⟩
 | .own _,x=>by obtain ⟨_,e⟩:=x; exact ⟨_,e⟩
 | .xd _,x=>by obtain ⟨_,⟨_,_,_,e,_⟩,_⟩:=x; exact ⟨_,e⟩
 | .rng _ _,x=>by obtain ⟨_,_,_,e⟩:=x; exact ⟨_,e⟩
 | .frz _ _,x=>by obtain ⟨e,_⟩:=x; exact ⟨_,e⟩
 | .tbl _,x=>⟨_,(show h.get? a=some _ from x)⟩
 | .met _ _,x=>⟨_,(show h.get? a=some _ from x)⟩
 | .ext _,x=>by obtain ⟨_,⟨_,e⟩,_⟩:=x; exact ⟨_,e⟩
section
variable {X:Cx} {pins:List (Addr × Obj)} {σ:St} {H:Hp} {s:Shared}
theorem Inv.untr (I:Inv X pins σ H s) {b:Addr} (hb:s.heap.get? b=none):H b=none:=by
 cases q:H b with
 | none=>rfl
 | some o =>
  obtain ⟨ob,e⟩:=(I.hok b o q).there
  rw [hb] at e; cases e
theorem Inv.fxOk (I:Inv X pins σ H s) (hex:X.ex=[]) {b:Addr} (hb:s.heap.get? b=none):FxOk X pins H b:=by
 refine ⟨I.untr hb,fun z=>?_,fun z=>?_,?_,fun x c e z=>?_,fun p hp z=>?_⟩
 ·obtain ⟨m,⟨o,_,_,ho,_⟩,_⟩:=I.loc
  rw [z,ho] at hb; cases hb
 ·obtain ⟨_,o,ho,_⟩:=I.funs.mem z
  rw [ho] at hb; cases hb
 ·cases q:X.s₀.heap.get? b with
  | none=>rfl
  | some o =>
   obtain ⟨o',e'⟩:=I.base.there b o q (by rw [hex]; simp)
   rw [hb] at e'; cases e'
 ·obtain ⟨v,o,ho,_⟩:=I.cell x c e
  rw [z,hb] at ho; cases ho
 ·have:=(I.pin p hp).1
  rw [z,hb] at this; cases this
end
structure ExcK (K:PySem.W.Frag) (C:Addr) (bmB:List Value) (newId:String):Prop where
 q:PySem.W.excIn K C bmB newId=true
theorem exc_obj {K:PySem.W.Frag} {h:Heap} {C:Addr} {bmB:List Value} {newId:String} (X:K.In h) (q:PySem.W.excIn K C bmB newId=true) :
  ∃ bm N nm q bs hdct sn sub ab col dd k0 k1 k2 k3 k5 mN,h.get? C=some (excClassObj nm q C N bs bm hdct sn sub ab col dd k0 k1 k2 k3 k5 newId)∧h.Ns N mN∧mN "__init__"=none∧OwnTail h bmB bm:=by
 unfold PySem.W.excIn at q
 split at q
 ·rename_i dd cd sl ho
  split at q
  ·rename_i C' bm k0 k1 k2 k3 n k5 hm hs
   simp only [Bool.and_eq_true,beq_iff_eq,Bool.not_eq_true'] at q
   obtain ⟨⟨⟨⟨⟨rfl,rfl⟩,hdel⟩,ht⟩,hok⟩,hni⟩:=q
   obtain ⟨nm,bs,mro,ns,qn,hd,sn,sub,ab,col,del⟩:=cd
   dsimp only at hm hdel hok hni
   subst hm hdel
   have hsl:sl=#[k0,k1,k2,k3,some (.builtin n),k5]:=by
    obtain ⟨l⟩:=sl
    simp only at hs
    rw [hs]
   subst hsl
   exact ⟨bm,ns,nm,qn,bs,hd,sn,sub,ab,col,dd,k0,k1,k2,k3,k5,_,X _ _ ho,.of_isNs (PySem.W.isNs_of_in X hok),PySem.W.nsMap_none_of_in X hok hni,PySem.W.tail_of_in X ht⟩
  ·cases q
 ·cases q
section
variable {X:Cx}
noncomputable def tRaise (C:Addr) (t:TA):TSX:=fun _ R σ H=>t σ H fun vs H1=>vs.length≤1000∧R (.ref C) σ H1
theorem psx_raise {C:Addr} {bmB:List Value} {B newId initId:String} {x:Str} {np cpos pos:Pos} {e:Expr} {es:List Expr} {t:TA} (K:ExcK X.K C bmB newId) (FB:ExcBaseFacts B newId initId bmB) (hg:Gl X x) (hm:X.mg x=some (.ref C)) (hc:X.calm=true) (ha:PA X (e :: es) t)
  (hex:X.ex=[]:=by rfl) (hx:X.xe=(fun _ _=>False):=by rfl) (hdb:(x == ("__debug__":Str))=false:=by decide) (he:starEach (e :: es) X.env=(false,eval e X.env) :: starEach es X.env:=by rfl) (hpl:(backTo cpos (starEach es X.env)).any (·.1)=false:=by rfl) :
  PSX true X (.Raise (some (.Call (.Name x np) (e :: es) [] cpos)) none pos) (tRaise C t):=by
 intro pins s σ H D R I h
 obtain ⟨tl,N,nm,q,bs,hdct,sn,sub,ab,col,dd,k0,k1,k2,k3,k5,mN,hC,hN,hni,T⟩:=exc_obj I.ok.mod.kin K.q
 refine wpAny_Raise_call_subT (C:=C) (nm:=nm) (q:=q) (N:=N) (bs:=bs) (bm:=tl) (hdct:=hdct) (sn:=sn) (sub:=sub) (ab:=ab) (col:=col) (dd:=dd) (k0:=k0) (k1:=k1) (k2:=k2) (k3:=k3) (k5:=k5)
  FB (mN:=mN) (T.hasType FB.hasBase) (I.ok.hd hc) (by rw [he]; show (false || (backTo cpos (starEach es X.env)).any (·.1))=false; rw [hpl]; rfl) hni (ld_glob I hg hm ⟨rfl,?_⟩ hdb)
 have h0:=ha cpos pins s σ H _ I h
 rw [hx] at h0
 rw [he] at h0 ⊢
 refine Calls.evalArgs_plain (wpAny_mono h0 (fun us s₂ zz32=>?_) fun _ _ z=>z.elim)
 obtain ⟨vs,H1,I1,r1,hl,q1⟩:=zz32
 have kb:=I1.bk
 refine ⟨rfl,?_,kb _ _ hC,hN.keeps kb,T.keeps kb,fun h' ea hm'=>?_⟩
 ·rw [← r1.length]
  exact Nat.le_of_lt (small1000 hl)
 obtain ⟨tt,h1,h2,h3⟩:=hm'.there
 have I2:Inv X pins σ H1 { s₂ with heap:=h' }:=I1.kept (t':=s₂.toks) hm'.keeps
 have fx:=I1.fxOk hex hm'.new
 exact ⟨ea,none,.ref C,.ref tt,σ,H1,rfl,I2,⟨_,_,h1,⟨rfl,rfl⟩,rfl,rfl⟩,⟨fx.nt,fx.nl,fx.nf,fx.n0,fx.nc,fx.np⟩,(fun t z=>nomatch z),(fun _=>rfl),q1⟩
theorem Un.leave {fs:List Addr} {H₀ H:Hp} {h₀ h h':Heap} (u:Un fs [] H₀ H h₀ h) (hk:∀ b o,h₀.get? b=some o→b ∉ fs→h.get? b=some o→h'.get? b=some o)
  (hs:∀ b o,b∈fs→h.get? b=some o→∃ sl,h'.get? b=some { o with slots:=sl }) (ht:∀ b o,h₀.get? b=some o→∀ o',h.get? b=some o'→∃ o'',h'.get? b=some o''):Un fs [] H₀ H h₀ h' where
 keep:=fun b o e n hb hx=>hk b o e hb (u.keep b o e n hb hx)
 slot:=fun b o e n hb hx=>by
  obtain ⟨sl,e1⟩:=u.slot b o e n hb hx
  obtain ⟨sl',e2⟩:=hs b _ hb e1
  exact ⟨sl',e2⟩
 free:=u.free
 there:=fun b o e hx=>by
  obtain ⟨o',e1⟩:=u.there b o e hx
  exact ht b o e o' e1
 tups:=u.tups
 frzs:=u.frzs
 tbls:=u.tbls
theorem funFrames_hide {X:Cx} {pins:List (Addr × Obj)} {σ:St} {H:Hp} {s:Shared} (I:Inv X pins σ H s) (as:List Addr) (hs:∀ b∈frs X.stack,b∈as):s.heap.FunFrames (PySem.W.hideAll s.heap as) X.stack:=by
 have all:∀ (l:List Env),(∀ b∈frs l,b∈as)→s.heap.FunFrames X.base l→s.heap.FunFrames (PySem.W.hideAll s.heap as) l:=by
  intro l
  induction l with
  | nil=>intro _ _; trivial
  | cons env r ih =>
   intro hs hl
   obtain ⟨hk,⟨L,o,hf,hn,ho,hd⟩,hr⟩:=hl
   have hL:L∈as:=hs L (by unfold frs; rw [List.filterMap_cons,hf]; exact List.mem_cons_self)
   exact ⟨hk,⟨L,o,hf,PySem.W.hideAll_none as hL,ho,hd⟩,ih (fun b hb=>hs b (by unfold frs; rw [List.filterMap_cons,hf]; exact List.mem_cons_of_mem _ hb)) hr⟩
 exact all X.stack hs I.stack
theorem Inv.fnd {X:Cx} {pins:List (Addr × Obj)} {σ:St} {H:Hp} {s:Shared} (I:Inv X pins σ H s) {b:Addr} (hb:b∈frs X.stack) {o:Obj} (e:s.heap.get? b=some o):∀ vs,o.data≠.fields vs:=by
 obtain ⟨_,o',e',d⟩:=I.stack.mem hb
 rw [e] at e'; cases e'
 exact d
end
end L2
set_option maxHeartbeats 4000000
namespace L2
open PySem PySem.Spec PyProof.Rows
theorem FxOk.none {X:Cx} {pins:List (Addr × Obj)} {H:Hp} {b:Addr} (h:FxOk X pins H b):FxOk X [] H b:=⟨h.nt,h.nl,h.nf,h.n0,h.nc,fun p hp=>h.np p (by rw [List.append_nil] at hp; exact List.mem_append_left _ hp)⟩
section
variable {P:Program} {w:World} {K:PySem.W.Frag} {mg:Str→Option Value} {base:Heap}
theorem leave_ok {N:List Str} {qual:Str} {scope:Scope} {f:Addr} {cd:Value} {A:Around} {outer:List Env} {s s':Shared} {H:Hp} {E:XK} {ev:Value}
  {fr:Bool} (h:XS fr (cxOf (CXr P w) P w K mg base N qual scope f cd A outer s H E).nox [] (fun cls _ H'=>E cls none H') ev s'):(cxOf (CXr P w) P w K mg base N qual scope f cd A outer s H E).xe ev s':=by
 obtain ⟨e,T,cls,a0,σ',H',rfl,I,hx,fe,fT,_,q⟩:=h
 show wpAny (model P w) (A.deeper (envOfC qual scope s.heap.objs.size f cd)) (leaving (envOfC qual scope s.heap.objs.size f cd) (.ref e)) (fun _ s''=>CXr P w outer H s E (.ref e) s'') (fun e' s''=>CXr P w outer H s E e' s'') s'
 have hst:(cxOf (CXr P w) P w K mg base N qual scope f cd A outer s H E).nox.stack=envOfC qual scope s.heap.objs.size f cd :: outer:=rfl
 have hfr:(A.deeper (envOfC qual scope s.heap.objs.size f cd)).frames=some (envOfC qual scope s.heap.objs.size f cd :: outer):=I.ok.frames
 have n0:∀ b,b∈e :: T.toList→s.heap.get? b=none:=fun b hb=>by
  rcases List.mem_cons.mp hb with z | z
  ·rw [z]; exact fe.n0
  ·cases T with
   | none=>simp at z
   | some t =>
    have:b=t:=by simpa using z
    rw [this]; exact (fT t rfl).n0
 have nt:∀ b,b∈e :: T.toList→H' b=none:=fun b hb=>by
  rcases List.mem_cons.mp hb with z | z
  ·rw [z]; exact fe.nt
  ·cases T with
   | none=>simp at z
   | some t =>
    have:b=t:=by simpa using z
    rw [this]; exact (fT t rfl).nt
 have hB:∀ b o,b ∉ e :: T.toList→b ∉ frs (envOfC qual scope s.heap.objs.size f cd :: outer)→s'.heap.get? b=some o→(PySem.W.hideAll s'.heap ((e :: T.toList) ++ frs (envOfC qual scope s.heap.objs.size f cd :: outer))).get? b=some o:=fun b o h1 h2 e1 =>
  PySem.W.hideAll_get _ e1 fun z=>(List.mem_append.mp z).elim h1 h2
 have hl:s'.heap.FunFrames (PySem.W.hideAll s'.heap ((e :: T.toList) ++ frs (envOfC qual scope s.heap.objs.size f cd :: outer))) (envOfC qual scope s.heap.objs.size f cd :: outer):=funFrames_hide I _ fun b hb=>List.mem_append_right _ hb
 have hkb:(PySem.W.hideAll s'.heap ((e :: T.toList) ++ frs (envOfC qual scope s.heap.objs.size f cd :: outer))).StaysIn s'.heap:=fun b o e1=>PySem.W.of_hideAll _ e1
 have hen:(PySem.W.hideAll s'.heap ((e :: T.toList) ++ frs (envOfC qual scope s.heap.objs.size f cd :: outer))).get? e=none:=PySem.W.hideAll_none _ (List.mem_append_left _ List.mem_cons_self)
 have fin:∀ h',Heap.LeftW (PySem.W.hideAll s'.heap ((e :: T.toList) ++ frs (envOfC qual scope s.heap.objs.size f cd :: outer))) (envOfC qual scope s.heap.objs.size f cd :: outer) e cls a0 s'.heap h'→CXr P w outer H s E (.ref e) { s' with heap:=h' }:=fun h' ⟨k1,k2,k3,k4⟩=>by
  obtain ⟨oe,vs,T',oT,ts,x1,x2,x3,x4,x5,x6,x7,x8,x9⟩:=k3
  have notfr:∀ b o,b∈frs (envOfC qual scope s.heap.objs.size f cd :: outer)→s'.heap.get? b=some o→∃ sl,h'.get? b=some { o with slots:=sl }:=fun b o hb e1=>k4 b o e1 (I.fnd hb e1)
  have kept:∀ b o,b ∉ e :: T.toList→b ∉ frs (envOfC qual scope s.heap.objs.size f cd :: outer)→s'.heap.get? b=some o→h'.get? b=some o:=fun b o h1 h2 e1=>k1 b o (hB b o h1 h2 e1)
  have nL:∀ b o,s.heap.get? b=some o→b ∉ frs outer→b ∉ frs (envOfC qual scope s.heap.objs.size f cd :: outer):=fun b o e1 h2 z=>by
   have z':b∈s.heap.objs.size :: frs outer:=z
   rcases List.mem_cons.mp z' with z1 | z1
   ·rw [z1] at e1; exact absurd (Heap.lt_size e1) (Nat.lt_irrefl _)
   ·exact h2 z1
  have nE:∀ b o,s.heap.get? b=some o→b ∉ e :: T.toList:=fun b o e1 z=>by rw [n0 b z] at e1; cases e1
  have trk:∀ b u,H' b=some u→∀ o,s'.heap.get? b=some o→h'.get? b=some o:=fun b u hu o e1=>by
   refine kept b o (fun z=>by rw [nt b z] at hu; cases hu) (fun z=>?_) e1
   rw [I.stkFree b z] at hu; cases hu
  have hT':s.heap.get? T'=none∧H' T'=none:=by
   by_cases hz:s'.heap.get? T'=none
   ·refine ⟨?_,I.untr hz⟩
    cases q':s.heap.get? T' with
    | none=>rfl
    | some o =>
     obtain ⟨o',e'⟩:=I.base.there T' o q' (by simp [cxOf])
     rw [hz] at e'; cases e'
   ·obtain ⟨o,ho⟩:=Option.ne_none_iff_exists'.mp hz
    by_cases h1:T'∈e :: T.toList
    ·exact ⟨n0 T' h1,nt T' h1⟩
    ·by_cases h2:T'∈frs (envOfC qual scope s.heap.objs.size f cd :: outer)
     ·exfalso
      obtain ⟨sl,e'⟩:=notfr T' o h2 ho
      rw [x7] at e'
      cases e'
      exact I.fnd h2 ho ts x8
     ·rw [hB T' o h1 h2 ho] at x5; cases x5
  refine ⟨e,T',cls,a0,H',rfl,I.os,I.bare,?_,fun b u hu=>?_,fe.n0,hT'.1,fe.nt,hT'.2,⟨oe,vs,oT,ts,x1,x2,x3,x4,x6,x7,x8,x9⟩,q⟩
  ·refine Un.leave I.base (fun b o e1 h1 e2=>kept b o (nE b o e1) (nL b o e1 h1) e2) (fun b o hb e1=>notfr b o (List.mem_cons_of_mem _ hb) e1) fun b o e1 o' e2=>?_
   by_cases h2:b∈frs outer
   ·obtain ⟨sl,e'⟩:=notfr b o' (List.mem_cons_of_mem _ h2) e2
    exact ⟨_,e'⟩
   ·exact ⟨o',kept b o' (nE b o e1) (nL b o e1 h2) e2⟩
  ·refine (I.hok b u hu).stay (fun c v hc e1=>?_) (fun _ z=>z) fun _ _ z=>z
   rcases hc with z | z
   ·exact trk c u (by rw [z]; exact hu) v e1
   ·exact trk c _ z v e1
 cases T with
 | none =>
  obtain ⟨oe,vs,x1,x2,x3,x4⟩:=hx
  obtain ⟨x21,x22⟩:=x2
  subst x21
  exact wpAny_leaving_firstW hfr hl rfl x1 hkb hen x3 x4 x22 fin
 | some t =>
  obtain ⟨oe,vs,oT,ts,x1,x2,x3,x4,x5,x6,x7,x8⟩:=hx
  exact wpAny_leaving_nextW hfr hl rfl ⟨oe,vs,t,oT,ts,x1,x2,x3,x4,PySem.W.hideAll_none _ (List.mem_append_left _ (by simp)),x5,x6,x7,x8⟩ hkb hen fin
theorem Fun.okX {x qual:Str} {st:Stmt} {f:Addr} {fd:FuncData} {N ps:List Str} {k:Nat} {sp:Sp} (F:Fun K x qual st f fd) (S:FnScope N ps (defScope st)) (len:∀ vs H Q E,sp vs H Q E→vs.length=ps.length)
  (hbody:∀ (cdv:Value) (A:Around) (outer:List Env) (s:Shared) (H:Hp) (vs:List V) (Q:VK) (E:XK),Room k (A.deeper (envOfC qual (defScope st) s.heap.objs.size f cdv))→sp vs H Q E →
   ∃ t,PSsX true (cxOf (CXr P w) P w K mg base N qual (defScope st) f cdv A outer s H E).nox (defBody st) t∧t { nx:=fun _ H'=>Q .non H',rt:=Q } (fun cls _ H'=>E cls none H') (start N vs) H):FnOk P w K mg base (CXr P w) (k + 1) f fd ps sp:=by
 obtain ⟨oc,od,kV,doc,pm,an,cdv,ct,osl,rfl,lk,hcd⟩:=F.ex
 refine fn_of lk hcd S len fun A outer s H vs Q E hr hsp=>?_
 obtain ⟨t,h,q⟩:=hbody cdv A outer s H vs Q E hr hsp
 refine ⟨fun D σ H'=>t D (fun cls _ H''=>E cls none H'') σ H',fun pins s' σ' H' D I hD=>?_,q⟩
 refine wpAny_mono (h pins s' σ' H' D _ (I.wish _) hD) (fun _ _ z=>z.unwish) fun ev s'' z=>leave_ok (fr:=true) ?_
 obtain ⟨e,T,cls,a0,σ2,H2,h1,h2,h3,h4,h5,h7,h6⟩:=z
 exact ⟨e,T,cls,a0,σ2,H2,h1,h2.pins_of (fun p hp=>absurd hp (by simp)),h3,h4.none,fun t ht=>(h5 t ht).none,h7,h6⟩
end
end L2
set_option maxHeartbeats 4000000
namespace L2
open PySem PySem.Spec PyProof.Rows
section
variable {X:Cx}
theorem Inv.exc {pins:List (Addr × Obj)} {σ:St} {H:Hp} {s:Shared} {e T:Addr} {h':Heap} (I:Inv X pins σ H s) (hex:X.ex=[]) (fe:FxOk X pins H e) (fT:FxOk X pins H T)
  (keep:∀ b o,b≠e→b≠T→b ∉ frs X.stack→s.heap.get? b=some o→h'.get? b=some o) (slot:∀ b o,b∈frs X.stack→s.heap.get? b=some o→∃ sl,h'.get? b=some { o with slots:=sl }):Inv X pins σ H { s with heap:=h' }:=by
 have fss:∀ b∈X.fs,b∈frs X.stack:=fun b hb=>by
  rcases I.ok.stk with z | ⟨z,hf⟩
  ·rw [z]; exact hb
  ·rw [z]; unfold frs; rw [List.filterMap_cons,hf]; exact List.mem_cons_of_mem _ hb
 have data:∀ b o,b≠e→b≠T→s.heap.get? b=some o→∃ sl,h'.get? b=some { o with slots:=sl }:=fun b o h1 h2 e1=>by
  by_cases hb:b∈frs X.stack
  ·exact slot b o hb e1
  ·exact ⟨o.slots,keep b o h1 h2 hb e1⟩
 have ne0:∀ b o,X.s₀.heap.get? b=some o→b≠e∧b≠T:=fun b o e1=>⟨fun z=>(by rw [z,fe.n0] at e1; cases e1),fun z=>(by rw [z,fT.n0] at e1; cases e1)⟩
 have cellK:∀ x c,X.env.cells.lookup x=some c→∀ v,s.heap.IsCell c v→h'.IsCell c v:=fun x c ec v ⟨o,ho,hd⟩=>by
  obtain ⟨sl,e1⟩:=data c o (fe.nc x c ec) (fT.nc x c ec) ho
  exact ⟨_,e1,hd⟩
 refine ⟨I.ok,I.os,I.bare,⟨fun b o e0 n hb hx=>?_,fun b o e0 n hb hx=>?_,I.base.free,fun b o e0 hx=>?_,I.base.tups,I.base.frzs,I.base.tbls⟩,?_,fun x c ec=>?_,I.free,I.freeC,fun p hp=>?_,fun b u hu=>?_,I.len⟩
 ·obtain ⟨n1,n2⟩:=ne0 b o e0
  refine keep b o n1 n2 (fun z=>?_) (I.base.keep b o e0 n hb hx)
  rcases List.mem_cons.mp (I.stkSub b z) with z1 | z1
  ·rw [z1] at e0; exact absurd (Nat.lt_of_lt_of_le (Heap.lt_size e0) I.ok.above) (Nat.lt_irrefl _)
  ·exact hb z1
 ·obtain ⟨sl,e1⟩:=I.base.slot b o e0 n hb hx
  obtain ⟨sl',e2⟩:=slot b _ (fss b hb) e1
  exact ⟨sl',e2⟩
 ·obtain ⟨n1,n2⟩:=ne0 b o e0
  obtain ⟨o',e1⟩:=I.base.there b o e0 hx
  obtain ⟨sl,e2⟩:=data b o' n1 n2 e1
  exact ⟨_,e2⟩
 ·obtain ⟨m,hn,hl⟩:=I.loc
  refine ⟨m,?_,fun i x v e1 e2 e3=>?_⟩
  ·obtain ⟨o,es,ep,ho,hd,r⟩:=hn
   obtain ⟨sl,e1⟩:=data _ o (Ne.symm fe.nl) (Ne.symm fT.nl) ho
   exact ⟨_,es,ep,e1,hd,r⟩
  ·obtain ⟨u,r,l⟩:=hl i x v e1 e2 e3
   refine ⟨u,r,?_⟩
   rcases l with l | ⟨k,c,ec,z⟩
   ·exact .inl l
   ·exact .inr ⟨k,c,ec,cellK x c ec _ z⟩
 ·obtain ⟨v,z⟩:=I.cell x c ec
  exact ⟨v,cellK x c ec v z⟩
 ·obtain ⟨e1,n,ne,nf,d⟩:=I.pin p hp
  refine ⟨keep p.1 p.2 (fe.np p hp) (fT.np p hp) (fun z=>?_) e1,n,ne,nf,d⟩
  rcases List.mem_cons.mp (I.stkSub p.1 z) with z1 | z1
  ·exact ne z1
  ·exact nf z1
 ·have trk:∀ b u,H b=some u→∀ o,s.heap.get? b=some o→h'.get? b=some o:=fun b u hu o e1=>by
   refine keep b o (fun z=>by rw [z,fe.nt] at hu; cases hu) (fun z=>by rw [z,fT.nt] at hu; cases hu) (fun z=>?_) e1
   rw [I.stkFree b z] at hu; cases hu
  refine (I.hok b u hu).stay (fun c v hc e1=>?_) (fun _ z=>z) fun _ _ z=>z
  rcases hc with z | z
  ·exact trk c u (by rw [z]; exact hu) v e1
  ·exact trk c _ z v e1
noncomputable def hndCx (X:Cx) (e:Addr):Cx:={ X with A:=X.A.mark (some (.ref e)),calm:=false }
theorem Inv.hnd {pins:List (Addr × Obj)} {σ:St} {H:Hp} {s:Shared} (I:Inv X pins σ H s) (e:Addr):Inv (hndCx X e) pins σ H s :=
 ⟨⟨I.ok.mod,I.ok.kind,I.ok.glob,I.ok.blt,I.ok.above,I.ok.inj,I.ok.has,I.ok.cab,fun h=>absurd (show false=true from h) Bool.false_ne_true,I.ok.frames,I.ok.stk,I.ok.exf,I.ok.bs,I.ok.bsz,I.ok.noex,I.ok.exfs,I.ok.funs,I.ok.frf⟩,
  I.os,I.bare,I.base,I.loc,I.cell,I.free,I.freeC,I.pin,I.hok,I.len⟩
theorem Inv.unhnd {pins:List (Addr × Obj)} {σ:St} {H:Hp} {s:Shared} {e:Addr} (I:Inv (hndCx X e) pins σ H s) (ok:X.Ok):Inv X pins σ H s :=
 ⟨ok,I.os,I.bare,I.base,I.loc,I.cell,I.free,I.freeC,I.pin,I.hok,I.len⟩
theorem SP.unhnd {pins:List (Addr × Obj)} {D:Ends} {f:Flow} {s':Shared} {e:Addr} (h:SP (hndCx X e) pins D f s') (ok:X.Ok):SP X pins D f s':=by
 cases f with
 | next=>obtain ⟨σ',H',I,q⟩:=h; exact ⟨σ',H',I.unhnd ok,q⟩
 | brk=>obtain ⟨σ',H',I,q⟩:=h; exact ⟨σ',H',I.unhnd ok,q⟩
 | cont=>obtain ⟨σ',H',I,q⟩:=h; exact ⟨σ',H',I.unhnd ok,q⟩
 | ret u=>obtain ⟨v,σ',H',I,r,q⟩:=h; exact ⟨v,σ',H',I.unhnd ok,r,q⟩
theorem fly_of {pins:List (Addr × Obj)} {σ:St} {H:Hp} {s:Shared} {e T:Addr} {cls a0:Value} (I:Inv X pins σ H s) (hx:FlyT e T cls a0 s.heap) :
  Heap.FlyingW (PySem.W.hideAll s.heap (e :: T :: frs X.stack)) X.stack e cls a0 s.heap:=by
 obtain ⟨oe,vs,oT,ts,x1,x2,x3,x4,x5,x6,x7,x8⟩:=hx
 exact ⟨fun b o e1=>PySem.W.of_hideAll _ e1,PySem.W.hideAll_none _ (by simp),funFrames_hide I _ fun b hb=>by simp [hb],oe,vs,T,oT,ts,x1,x2,x3,x4,PySem.W.hideAll_none _ (by simp),x5,x6,x7,x8⟩
theorem Inv.flown {pins:List (Addr × Obj)} {σ:St} {H:Hp} {s:Shared} {e T:Addr} {h':Heap} (I:Inv X pins σ H s) (hex:X.ex=[]) (fe:FxOk X pins H e) (fT:FxOk X pins H T)
  (hst:(PySem.W.hideAll s.heap (e :: T :: frs X.stack)).StaysIn h') (hup:s.heap.UpToSlots h'):Inv X pins σ H { s with heap:=h' }:=by
 refine I.exc hex fe fT (fun b o h1 h2 h3 e1=>hst b o (PySem.W.hideAll_get _ e1 fun z=>?_)) fun b o hb e1=>hup b o e1 (I.fnd hb e1)
 rcases List.mem_cons.mp z with z | z
 ·exact h1 z
 ·rcases List.mem_cons.mp z with z | z
  ·exact h2 z
  ·exact h3 z
end
end L2
set_option maxHeartbeats 4000000
namespace L2
open PySem PySem.Spec PyProof.Rows
section
variable {X:Cx} {pins:List (Addr × Obj)} {σ:St} {H:Hp} {s:Shared} {A:Around} {E:Value→Shared→Prop} {a:Addr}
theorem d_setd {kvs:List (Key × V)} {k:Key} {d:V} {u r:Value} {Q:Value→Shared→Prop} (I:Inv X pins σ H s) (e:H a=some (.dK kvs)) (hl:kvs.length < sizeLine) (ry:RelV (kV k) u) (rd:RelV d r)
  (h1:∀ v w' s',valV kvs k=some v→Inv X pins σ H s'→RelV v w'→Q w' s') (h2:valV kvs k=none→∀ s',Inv X pins σ (upd H a (.dK (putK kvs k d))) s'→Q r s') :
  wpAny (model X.prog X.w) A (call (.builtin "dict.setdefault") [.ref a,u,r]) Q E s:=by
 obtain ⟨z,hd,vs,rel,dd⟩:=dk_of I.hok e
 have hz:vs.length≤sizeLine:=by rw [← rel.length]; exact z
 refine call_meetsIn PySem.F.slot_dict_setdefault dd.typeIs PySem.F.entry_dict_setdefault (PySem.F.args_dict_setdefault_3 _ _ _) (kt_meets_setdefault (mixKind X.prog X.w) a (kV_is ry) hd r) ⟨vs,dd,hz,fun v hv=>?_,fun hv h' dd' hs=>?_⟩
 ·have rel':=rel.val k
  rw [hv] at rel'
  cases q:valV kvs k with
  | none=>rw [q] at rel'; exact rel'.elim
  | some y=>rw [q] at rel'; exact h1 y v _ q (I.tok _) rel'
 ·have rel':=rel.val k
  rw [hv] at rel'
  cases q:valV kvs k with
  | some y=>rw [q] at rel'; exact rel'.elim
  | none =>
   have he:∃ q,h'.get? a=some q:=let ⟨q,_,_,hq,_⟩:=dd'; ⟨q,hq⟩
   have hl2:(putK kvs k d).length≤sizeLine:=by have:=length_putK kvs k d; omega
   exact h2 q _ (d_write I (by rw [e]; exact True.intro) hs he (dk_new hl2 hd (rel.put k rd) dd'))
end
noncomputable def tDSetd (td ty tx:TE):TE:=fun σ H Q=>td σ H fun x H1=>∃ a,x=.ref a∧IsD H1 a∧ty σ H1 fun y H2=>tx σ H2 fun z H3=>∃ kvs k,H3 a=some (.dK kvs)∧kvs.length < sizeLine∧y=kV k ∧
 (∀ v,valV kvs k=some v→Q v H3)∧(valV kvs k=none→Q z (upd H3 a (.dK (putK kvs k z))))
section
variable {X:Cx} {o e f:Expr} {apos cpos:Pos} {td ty tx:TE}
theorem pe_dsetd (ho:PE X o td) (he:PE X e ty) (hf:PE X f tx) (m:M2 X o "setdefault" apos e f cpos):PE X (.Call (.Attribute o "setdefault" apos) [e,f] [] cpos) (tDSetd td ty tx):=by
 intro pins s σ H Q I h
 refine wpAny_Call_method m.base m.few m.line PySem.F.plainAttrs_dict PySem.F.slot_dict_setdefault PySem.F.type_dict_setdefault (thn (ho pins s σ H _ I h) fun u s1 zz9=>?_)
 obtain ⟨x,H1,I1,rx,a,ex,d,q1⟩:=zz9
 subst ex
 obtain rfl:u=Value.ref a:=rx
 obtain ⟨t1,t2,_⟩:=isD_at I1 d
 refine ⟨t1,t2,?_⟩
 rw [m.trees]
 refine Calls.callWith_builtin rfl (Calls.evalArgs_plain (Calls.spliced_cons (thn (he pins s1 σ H1 _ I1 q1) fun iv s2 ⟨y,H2,I2,ry,q2⟩ =>
  Calls.spliced_cons (thn (hf pins s2 σ H2 _ I2 q2) fun fv s3 ⟨z,H3,I3,rz,kvs,k,hk,hl,ey,q3,q4⟩=>Calls.spliced_nil ?_))))
 subst ey
 exact d_setd I3 hk hl ry rz (fun v w' s' hv I' rw'=>⟨v,H3,I',rw',q3 v hv⟩) fun hv s' I'=>⟨z,_,I',rz,q4 hv⟩
theorem ints_of_keys {P:Program} {w:World} {kvs:List (Key × V)} {vs:List (Key × Value)} {ks:List Int} (rel:KV kvs vs) (hk:kvs.map (·.1)=ks.map Sum.inl) {us:List Value} (hl:us.length=vs.length)
  (hu:∀ (j:Nat) (v:Value),us[j]?=some v→∃ k x,vs[j]?=some (k,x)∧(mixKind P w).is k v=true):IntsAre us ks:=by
 have hkl:kvs.length=ks.length:=by have:=congrArg List.length hk; simpa using this
 have hvl:kvs.length=vs.length:=rel.length
 have key:∀ (j:Nat) (v:Value),us[j]?=some v→∃ i t,ks[j]?=some i∧v=Value.int i t:=fun j v hv=>by
  obtain ⟨k,x,hx,hi⟩:=hu j v hv
  have e1:(vs.map (·.1))[j]?=some k:=by rw [List.getElem?_map,hx]; rfl
  have e2:vs.map (·.1)=kvs.map (·.1):=by
   clear hk hl hu hkl hvl hx hi e1
   induction rel with
   | nil=>rfl
   | cons r t ih=>rw [List.map_cons,List.map_cons,ih,r.1]
  rw [e2,hk,List.getElem?_map] at e1
  cases q:ks[j]? with
  | none=>rw [q] at e1; cases e1
  | some i =>
   rw [q] at e1
   have e3:Sum.inl i=k:=Option.some.inj e1
   subst e3
   obtain ⟨t,ht⟩:=Value.isInt_shape (k:=i) (v:=v) hi
   exact ⟨i,t,rfl,ht⟩
 have gen:∀ (us:List Value) (ks:List Int),us.length=ks.length→(∀ (j:Nat) (v:Value),us[j]?=some v→∃ i t,ks[j]?=some i∧v=Value.int i t)→IntsAre us ks:=by
  intro us
  induction us with
  | nil =>
   intro ks hl _
   cases ks with
   | nil=>exact .nil
   | cons _ _=>simp at hl
  | cons u r ih =>
   intro ks hl h
   cases ks with
   | nil=>simp at hl
   | cons i ks =>
    obtain ⟨i',t,e1,e2⟩:=h 0 u rfl
    have e1':i=i':=by simpa using e1
    subst e1' e2
    exact .cons i t (ih ks (by simpa using hl) fun j v hv=>h (j + 1) v (by simpa using hv))
 exact gen us ks (by omega) key
theorem call_sortedD (hc:X.calm=true):CallR X (.builtin "sorted") (fun xs H Q=>∃ (d:Addr) (kvs:List (Key × V)) (ks:List Int),xs=[.ref d]∧Rd H d (.dK kvs)∧kvs.map (·.1)=ks.map Sum.inl∧ks.length < 64 ∧
  ∀ (p:Addr) (out:List Int),H p=none→out.Perm ks→out.Pairwise (·≤·)→Q (.ref p) (upd H p (.lst (out.map V.int)))):=by
 intro pins s σ H xs us Q I r h
 obtain ⟨d,kvs,ks,rfl,hd,hk,h64,q⟩:=h
 obtain ⟨u,rfl,ru⟩:=vals1 r
 obtain rfl:u=Value.ref d:=ru
 obtain ⟨z,hsys,vs,rel,dd⟩:=dk_rd I.hok hd
 obtain ⟨ep,hat⟩:=dd.dictAt
 have hlen:vs.length=ks.length:=by have:=congrArg List.length hk; rw [List.length_map,List.length_map] at this; have:=rel.length; omega
 have hn:vs.length≤sizeLine:=by rw [sizeLine_eq]; omega
 refine Calls.call_function_entry kind_sorted plain_sorted entry_sorted (args_sorted1 _) ?_
 unfold Builtin.«sorted»
 refine wpAny_bind (m:=checkCount "sorted" 1 1 _) (wpAny_pure ?_)
 refine wpAny_bind (PySem.W.kdu_collect (A:=X.A.in1) (PySem.W.kdl_dict (knd:=mixKind X.prog X.w) (kvs:=vs) (ep:=ep) hsys) (I.ok.hd hc) hat hn fun h' tk acc hk' hacc=>?_)
 have hl:acc.toList.length=vs.length:=by rw [Array.length_toList]; exact hacc.1
 have hI:IntsAre acc.toList ks:=ints_of_keys (P:=X.prog) (w:=X.w) rel hk hl fun j v hv=>hacc.2 j v (by rw [← Array.getElem?_toList]; exact hv)
 refine wpAny_bind (wpAny_newList ?_ (by rw [hl]; exact hn))
 have I1:Inv X pins σ H { s with heap:=h',toks:=tk }:=I.kept hk'
 have hoL:(h'.push { cls:=.type "list",data:=.seq acc.toList.toArray }).get? h'.objs.size=some (seqObj "list" acc.toList.toArray 0):=Heap.get?_push_size _ rfl
 refine wpAny_bind (wpAny_holding (wpAny_call_entry slot_list_sort ⟨_,hoL,rfl⟩ entry_list_sort (list_sort_tree hoL hI (by omega) fun out ns' a1 a2 a3=>⟨_,rfl,?_⟩) (args_list_sort _)))
 refine wpAny_pure ⟨_,rfl,?_⟩
 obtain ⟨e,he⟩:=sortedHeap_at (out:=out) hoL
 have kp:∀ b u,h'.get? b=some u→(sortedHeap (h'.push { cls:=.type "list",data:=.seq acc.toList.toArray }) h'.objs.size acc.toList out).get? b=some u:=fun b u hb=>by
  have hlt:b < h'.objs.size:=Heap.lt_size hb
  rw [sortedHeap_old (Nat.ne_of_lt hlt) (by rw [Heap.size_push]; exact Nat.lt_succ_of_lt hlt)]
  exact Heap.get?_push_of_some _ hb
 have hv:Vals (ns'.map V.int) out.toList:=by
  clear he kp
  generalize out.toList=l at a1
  clear a2 a3
  induction a1 with
  | nil=>exact .nil
  | cons i t _ ih=>exact .cons ⟨_,rfl⟩ ih
 refine ⟨.ref h'.objs.size,upd H h'.objs.size (.lst (ns'.map V.int)),I1.laid kp (Nat.le_refl _) ?_,rfl,q _ ns' I1.fresh a2 a3⟩
 refine ⟨?_,out.toList,e,hv,?_⟩
 ·rw [List.length_map,a2.length_eq,sizeLine_eq]; omega
 ·rw [he]
end
end L2
set_option maxHeartbeats 4000000
namespace L2
open PySem PySem.Spec PyProof.Rows
section
variable {X:Cx} {pins:List (Addr × Obj)} {σ:St} {H:Hp} {s:Shared} {a:Addr}
theorem Inv.freeze {u:HO} {ob:Obj} (I:Inv X pins σ H s) (e:H a=some u) (mu:Mut (some u)) (ho:s.heap.get? a=some ob):Inv X pins σ (upd H a (.frz ob u)) s:=by
 have nown:∀ c y,H c=some (.own y)→c≠a:=fun c y r z=>by subst z; rw [r] at e; cases e; exact mu
 have ntup:∀ c xs,H c=some (.tup xs)→c≠a:=fun c xs r z=>by subst z; rw [r] at e; cases e; exact mu
 have nfrz:∀ c o xs,H c=some (.frz o xs)→c≠a:=fun c o xs r z=>by subst z; rw [r] at e; cases e; exact mu
 have ntbl:∀ c ps,H c=some (.tbl ps)→c≠a:=fun c ps r z=>by subst z; rw [r] at e; cases e; exact mu
 have un:Un X.fs [] H (upd H a (.frz ob u)) s.heap s.heap:=⟨fun _ _ q _ _ _=>q,fun _ o q _ _ _=>⟨o.slots,q⟩,fun b o q n _=>by rw [upd_ne (fun z=>by rw [z,e] at n; cases n)]; exact n,fun b o q _=>⟨o,q⟩,
  fun b xs q=>by rw [upd_ne (ntup b xs q)]; exact q,fun b o xs q=>by rw [upd_ne (nfrz b o xs q)]; exact q,fun b ps q=>⟨#[],by rw [upd_ne (ntbl b ps q),q]; simp⟩⟩
 have hok:HOk X.prog X.w (upd H a (.frz ob u)) s.heap:=fun b v q=>by
  have st:∀ c w',ObjOk X.prog X.w H s.heap c w'→ObjOk X.prog X.w (upd H a (.frz ob u)) s.heap c w':=fun c w' x=>x.stay (fun _ _ _ q=>q) (fun d r=>by rw [upd_ne (nown d c r)]; exact r) fun d xs r=>by rw [upd_ne (ntup d xs r)]; exact r
  by_cases hb:b=a
  ·subst hb
   rw [upd_same] at q
   cases q
   exact ⟨ho,st _ _ (I.hok _ _ e)⟩
  ·rw [upd_ne hb] at q
   exact st _ _ (I.hok b v q)
 exact I.un (h':=s.heap) (t':=s.toks) un hok
end
section
theorem KV.at {kvs:List (Key × V)} {vs:List (Key × Value)} (r:KV kvs vs):∀ {i:Nat} {k:Key} {v:V},kvs[i]?=some (k,v)→∃ u,vs[i]?=some (k,u)∧RelV v u:=by
 induction r with
 | nil=>intro i k v h; simp at h
 | cons r t ih =>
  intro i k v h
  cases i with
  | zero =>
   simp at h
   subst h
   exact ⟨_,by rw [List.getElem?_cons_zero]; exact congrArg some (Prod.ext r.1.symm rfl),r.2⟩
  | succ i =>
   obtain ⟨u,h1,h2⟩:=ih (by simpa using h)
   exact ⟨u,by simpa using h1,h2⟩
theorem kV_of {P:Program} {w:World} {k:Key} {u:Value} (h:(mixKind P w).is k u=true):RelV (kV k) u:=by
 cases k with
 | inl i=>obtain ⟨t,e⟩:=Value.isInt_shape (k:=i) (v:=u) h; exact ⟨t,e⟩
 | inr x=>obtain ⟨t,e⟩:=Value.isStrOf_shape (x:=x) (v:=u) h; exact ⟨t,e⟩
theorem frz_dict {X:Cx} {pins:List (Addr × Obj)} {σ:St} {H:Hp} {s:Shared} {d:Addr} {o:Obj} {kvs:List (Key × V)} (I:Inv X pins σ H s) (e:H d=some (.frz o (.dK kvs))) :
  ∃ vs ep,KV kvs vs∧s.heap.DictAt (mixKind X.prog X.w) d vs ep∧s.heap.get? d=some o:=by
 obtain ⟨ho,_,_,vs,rel,dd⟩:=I.hok d _ e
 obtain ⟨ep,da⟩:=dd.dictAt
 exact ⟨vs,ep,rel,da,ho⟩
noncomputable def epOf (o:Obj):Nat:=match o.data with
 | .dict _ ep=>ep
 | _=>0
theorem ep_of {P:Program} {w:World} {h:Heap} {d:Addr} {o:Obj} {vs:List (Key × Value)} {ep:Nat} (da:h.DictAt (mixKind P w) d vs ep) (ho:h.get? d=some o):ep=epOf o:=by
 obtain ⟨o',es,h1,_,h2,_⟩:=da
 rw [ho] at h1
 cases h1
 unfold epOf
 rw [h2]
theorem turn_keys {P:Program} {w:World} {K:PySem.W.Frag} {tg:Expr} (d it:Addr) (kvs:List (Key × V)) (o:Obj) :
  Turn P w K tg ⟨fun i H=>i < kvs.length∧H d=some (.frz o (.dK kvs)),fun i H x H'=>H'=H∧∃ k v,kvs[i]?=some (k,v)∧x=kV k,fun i H=>kvs.length≤i∧H d=some (.frz o (.dK kvs))⟩ [it] it (fun i h=>h.IsKeyIter it d i kvs.length (epOf o)) where
 mem:=by simp
 obj:=fun i h st b hb=>by
  have e:b=it:=by simpa using hb
  subst e
  obtain ⟨o,e,c,d⟩:=st
  exact ⟨o,e,fun v z=>by rw [d] at z; cases z⟩
 keep:=fun i h h' st k=>st.at fun o e=>k it (by simp) o e
 item:=by
  intro X hP hw hK hc i pins s σ H E I hf st hg
  subst hP hw hK
  obtain ⟨hi,hq⟩:=hg
  obtain ⟨vs,ep,rel,da,ho⟩:=frz_dict I hq
  have hep:=ep_of da ho
  subst hep
  obtain ⟨f0,f1,f2,f3,f4,f5⟩:=hf it (by simp)
  obtain ⟨⟨k,v⟩,hx⟩:∃ p,kvs[i]?=some p:=⟨_,List.getElem?_eq_getElem hi⟩
  obtain ⟨u,hu,ru⟩:=rel.at hx
  have hlen:vs.length=kvs.length:=rel.length.symm
  rw [← hlen] at st
  refine wpAny_pyNext_dict_item st da hu fun key h' hk st' sb=>?_
  have I1:Inv X pins σ H { s with heap:=h' }:=I.turned (t':=s.toks) (fun b o hb e=>(sb.2 b hb).trans e) f0 f1 f3 f4 f5
  rw [hlen] at st'
  obtain ⟨oi,e,c,dd⟩:=id st'
  exact ⟨key,rfl,go_of (s:={ s with heap:=h' }) e c dd (by decide) ⟨kV k,H,I1,kV_of hk,⟨rfl,k,v,hx,rfl⟩,st',fun b hb=>(hf b hb).1⟩⟩
 done:=by
  intro X hP hw hK hc i pins s σ H E I hf st hg
  subst hP hw hK
  obtain ⟨hi,hq⟩:=hg
  obtain ⟨vs,ep,rel,da,ho⟩:=frz_dict I hq
  have hep:=ep_of da ho
  subst hep
  obtain ⟨f0,f1,f2,f3,f4,f5⟩:=hf it (by simp)
  have hlen:vs.length=kvs.length:=rel.length.symm
  rw [← hlen] at st
  exact wpAny_pyNext_dict_end (I.ok.hd hc) st da (by rw [List.getElem?_eq_none]; omega) fun h' eb=>⟨rfl,I.turned (t':=s.toks) (fun b o hb e=>eb b o hb e) f0 f1 f3 f4 f5⟩
 self:=fun _ _ _ _ _ st h=>wpAny_pyIter_keyiter st h
theorem turn_vals {P:Program} {w:World} {K:PySem.W.Frag} {tg:Expr} (d it:Addr) (kvs:List (Key × V)) (o:Obj) :
  Turn P w K tg ⟨fun i H=>i < kvs.length∧H d=some (.frz o (.dK kvs)),fun i H x H'=>H'=H∧∃ k,kvs[i]?=some (k,x),fun i H=>kvs.length≤i∧H d=some (.frz o (.dK kvs))⟩ [it] it (fun i h=>h.IsValIter it d i kvs.length (epOf o)) where
 mem:=by simp
 obj:=fun i h st b hb=>by
  have e:b=it:=by simpa using hb
  subst e
  obtain ⟨o,e,c,d⟩:=st
  exact ⟨o,e,fun v z=>by rw [d] at z; cases z⟩
 keep:=fun i h h' st k=>st.at fun o e=>k it (by simp) o e
 item:=by
  intro X hP hw hK hc i pins s σ H E I hf st hg
  subst hP hw hK
  obtain ⟨hi,hq⟩:=hg
  obtain ⟨vs,ep,rel,da,ho⟩:=frz_dict I hq
  have hep:=ep_of da ho
  subst hep
  obtain ⟨f0,f1,f2,f3,f4,f5⟩:=hf it (by simp)
  obtain ⟨⟨k,v⟩,hx⟩:∃ p,kvs[i]?=some p:=⟨_,List.getElem?_eq_getElem hi⟩
  obtain ⟨u,hu,ru⟩:=rel.at hx
  have hlen:vs.length=kvs.length:=rel.length.symm
  rw [← hlen] at st
  refine wpAny_pyNext_values_item st da hu fun h' st' sb=>?_
  have I1:Inv X pins σ H { s with heap:=h' }:=I.turned (t':=s.toks) (fun b o hb e=>(sb.2 b hb).trans e) f0 f1 f3 f4 f5
  rw [hlen] at st'
  obtain ⟨oi,e,c,dd⟩:=id st'
  exact ⟨u,rfl,go_of (s:={ s with heap:=h' }) e c dd (by decide) ⟨v,H,I1,ru,⟨rfl,k,hx⟩,st',fun b hb=>(hf b hb).1⟩⟩
 done:=by
  intro X hP hw hK hc i pins s σ H E I hf st hg
  subst hP hw hK
  obtain ⟨hi,hq⟩:=hg
  obtain ⟨vs,ep,rel,da,ho⟩:=frz_dict I hq
  have hep:=ep_of da ho
  subst hep
  obtain ⟨f0,f1,f2,f3,f4,f5⟩:=hf it (by simp)
  have hlen:vs.length=kvs.length:=rel.length.symm
  rw [← hlen] at st
  exact wpAny_pyNext_values_end (I.ok.hd hc) st da (by rw [List.getElem?_eq_none]; omega) fun h' eb=>⟨rfl,I.turned (t':=s.toks) (fun b o hb e=>eb b o hb e) f0 f1 f3 f4 f5⟩
 self:=fun _ _ _ _ _ st h=>wpAny_pyIter_valiter st h
end
end L2
set_option maxHeartbeats 4000000
namespace L2
open PySem PySem.Spec PyProof.Rows
section
variable {X:Cx} {tg:Expr} {l:Expr} {tl:TE}
noncomputable def Itk2 (d:Addr) (kvs:List (Key × V)) (o:Obj):It:=⟨fun i H=>i < kvs.length∧H d=some (.frz o (.dK kvs)),fun i H x H'=>H'=H∧∃ k v,kvs[i]?=some (k,v)∧x=kV k,fun i H=>kvs.length≤i∧H d=some (.frz o (.dK kvs))⟩
noncomputable def Itv2 (d:Addr) (kvs:List (Key × V)) (o:Obj):It:=⟨fun i H=>i < kvs.length∧H d=some (.frz o (.dK kvs)),fun i H x H'=>H'=H∧∃ k,kvs[i]?=some (k,x),fun i H=>kvs.length≤i∧H d=some (.frz o (.dK kvs))⟩
noncomputable def iDict (J:Addr→List (Key × V)→Obj→It) (tl:TE):TI:=fun σ H R=>tl σ H fun x H1=>∃ a kvs,x=.ref a∧((H1 a=some (.dK kvs)∧∀ o,R (J a kvs o) (upd H1 a (.frz o (.dK kvs))))∨∃ o,H1 a=some (.frz o (.dK kvs))∧R (J a kvs o) H1)
theorem dict_frz {pins:List (Addr × Obj)} {σ:St} {H:Hp} {s:Shared} {a:Addr} {kvs:List (Key × V)} {R:Obj→Hp→Prop} (I:Inv X pins σ H s)
  (h:(H a=some (.dK kvs)∧∀ o,R o (upd H a (.frz o (.dK kvs))))∨∃ o,H a=some (.frz o (.dK kvs))∧R o H):∃ o H',H' a=some (.frz o (.dK kvs))∧Inv X pins σ H' s∧R o H':=by
 rcases h with ⟨e,r⟩ | ⟨o,e,r⟩
 ·obtain ⟨ob,ho⟩:=(I.hok a _ e).there
  exact ⟨ob,_,upd_same,I.freeze e True.intro ho,r ob⟩
 ·exact ⟨o,H,e,I,r⟩
theorem pi_dict (hl:PE X l tl):PI X tg l (iDict Itk2 tl):=by
 intro pins s σ H R I h
 refine thn (hl pins s σ H _ I h) fun v s1 zz9=>?_
 obtain ⟨x,H1,I1,r1,q1⟩:=zz9
 obtain ⟨a,kvs,e,q⟩:=q1
 subst e
 cases r1
 obtain ⟨o,H2,e2,I2,q2⟩:=dict_frz (R:=fun o H=>R (Itk2 a kvs o) H) I1 q
 obtain ⟨vs,ep,rel,da,ho⟩:=frz_dict I2 e2
 have hep:=ep_of da ho
 subst hep
 obtain ⟨_,_,hsys,_⟩:=I2.hok a _ e2
 refine wpAny_pyIter_dict hsys da ?_
 have hlen:vs.length=kvs.length:=rel.length.symm
 rw [hlen]
 refine ⟨s1.heap.objs.size,[s1.heap.objs.size],_,_,H2,rfl,I2.kept (t':=s1.toks) fun b o e=>Heap.get?_push_of_some _ e,turn_keys a _ kvs o,⟨_,Heap.get?_push_size _ rfl,rfl,rfl⟩,fun b hb=>?_,q2⟩
 have e:b=s1.heap.objs.size:=by simpa using hb
 subst e
 exact I2.fpOk (Nat.le_refl _) (I2.hok.fresh (Nat.le_refl _))
structure M0 (X:Cx) (o:Expr) (m:Str) (apos cpos:Pos):Prop where
 base:attributeBase o m X.env (eval o X.env)=eval o X.env
 few:((backTo cpos (starEach [] X.env)).all (fun x=>!x.1) && (backToKw cpos (keywordEach [] X.env)).all (fun x=>x.1.isSome)
  && decide (([]:List Expr).length + ([]:List Keyword).length + (if ([]:List Keyword).isEmpty then 0 else 1) < 30))=true
 line:(apos.endLine == cpos.line)=true
theorem pi_vals {apos cpos:Pos} (hl:PE X l tl) (m:M0 X l "values" apos cpos):PI X tg (.Call (.Attribute l "values" apos) [] [] cpos) (iDict Itv2 tl):=by
 intro pins s σ H R I h
 refine wpAny_Call_method m.base m.few m.line PySem.F.plainAttrs_dict PySem.F.slot_dict_values PySem.F.type_dict_values (thn (hl pins s σ H _ I h) fun v s1 zz9=>?_)
 obtain ⟨x,H1,I1,r1,q1⟩:=zz9
 obtain ⟨a,kvs,e,q⟩:=q1
 subst e
 cases r1
 obtain ⟨o,H2,e2,I2,q2⟩:=dict_frz (R:=fun o H=>R (Itv2 a kvs o) H) I1 q
 obtain ⟨vs,ep,rel,da,ho⟩:=frz_dict I2 e2
 have hep:=ep_of da ho
 subst hep
 obtain ⟨_,_,hsys,_⟩:=I2.hok a _ e2
 have isd:IsD H2 a:=.inl ⟨kvs,.inr ⟨o,e2⟩⟩
 obtain ⟨t1,t2,_⟩:=isD_at I2 isd
 refine ⟨t1,t2,?_⟩
 refine Calls.callWith_builtin rfl (PyProof.Rows.evalArgs_empty ?_)
 refine call_meetsIn PySem.F.slot_dict_values da.dictOf.typeIs PySem.F.entry_dict_values (PySem.F.args_dict_values_1 _) (meets_dict_values (mixKind X.prog X.w) a hsys) ⟨⟨vs,da.dictOf⟩,?_⟩
 have I3:Inv X pins σ H2 { s1 with heap:=s1.heap.push { cls:=.type "dict_values",data:=.fields #[.ref a] } }:=I2.kept (t':=s1.toks) fun b o e=>Heap.get?_push_of_some _ e
 refine wpAny_pyIter_values ⟨_,Heap.get?_push_size _ rfl,rfl,rfl⟩ (da.push _) ?_
 have hlen:vs.length=kvs.length:=rel.length.symm
 rw [hlen]
 refine ⟨(s1.heap.push { cls:=.type "dict_values",data:=.fields #[.ref a] }).objs.size,[(s1.heap.push { cls:=.type "dict_values",data:=.fields #[.ref a] }).objs.size],_,_,H2,rfl,I3.kept (t':=s1.toks) fun b o e=>Heap.get?_push_of_some _ e,turn_vals a _ kvs o,⟨_,Heap.get?_push_size _ rfl,rfl,rfl⟩,fun b hb=>?_,q2⟩
 have e:b=(s1.heap.push { cls:=.type "dict_values",data:=.fields #[.ref a] }).objs.size:=by simpa using hb
 subst e
 exact I3.fpOk (Nat.le_refl _) (I3.hok.fresh (Nat.le_refl _))
end
section
noncomputable def Ite (K:PySem.W.Frag) (a:Addr):It :=
 ⟨fun i H=>∃ xs x,SqL K H a xs∧xs[i]?=some x,fun i H x H'=>∃ q y,H q=none∧x=.ref q∧(∀ xs,SqL K H a xs→xs[i]?=some y)∧H'=upd H q (.tup [.int i,y]),fun i H=>∃ xs,SqL K H a xs∧xs.length≤i⟩
theorem turn_enum {P:Program} {w:World} {K:PySem.W.Frag} {elts:List Expr} {x1:Nat} {pos:Pos} (a e it:Addr) (hne:e≠it):Turn P w K (.Tuple elts x1 pos) (Ite K a) [e,it] e (fun i h=>(∃ old,IsEnum h e it i old)∧h.IsListIter it a i) where
 mem:=by simp
 obj:=fun i h st b hb=>by
  obtain ⟨⟨old,h1⟩,o,h2,c,d⟩:=st
  rcases List.mem_cons.mp hb with z | z
  ·subst z
   exact ⟨_,h1,fun v z=>by
    have z':Data.fields _=Data.cell v:=z
    cases z'⟩
  ·have z:b=it:=by simpa using z
   subst z
   exact ⟨o,h2,fun v z=>by rw [d] at z; cases z⟩
 keep:=fun i h h' st k=>⟨let ⟨old,h1⟩:=st.1; ⟨old,k e (by simp) _ h1⟩,st.2.at fun o q=>k it (by simp) o q⟩
 item:=by
  intro X hP hw hK hc i pins s σ H E I hf st hg
  subst hP hw hK
  obtain ⟨xs,x,hq,hx⟩:=hg
  obtain ⟨its,rv,p,hz⟩:=I.list hq
  obtain ⟨u,hu,ru⟩:=rv.get hx
  obtain ⟨f0,f1,f2,f3,f4,f5⟩:=hf e (by simp)
  obtain ⟨g0,g1,g2,g3,g4,g5⟩:=hf it (by simp)
  obtain ⟨⟨old,he⟩,hit⟩:=st
  refine wpAny_pyNext_enum_item he hit p.isList (x:=u) (by simpa using hu) hne fun h' ho' hit' ht' hsz' kk=>?_
  have eo:=Heap.lt_size he
  have io:it < s.heap.objs.size:=let ⟨o,q,_⟩:=hit; Heap.lt_size q
  refine ⟨.ref s.heap.objs.size,rfl,wpAny_letOwnedTupleGo_enum ho' fun h'' he'' sb=>?_⟩
  have keepb:∀ b o,b≠e→b≠it→s.heap.get? b=some o→h''.get? b=some o:=fun b o h1 h2 q=>(sb.2 b h1).trans (kk b o h1 h2 q)
  have ht'':h''.get? s.heap.objs.size=some { cls:=.type "tuple",data:=.seq #[.int i s.toks,u] }:=(sb.2 _ (Nat.ne_of_gt eo)).trans ht'
  have hn:H s.heap.objs.size=none:=I.hok.fresh (Nat.le_refl _)
  have I2:Inv X pins σ (upd H s.heap.objs.size (.tup [.int i,x])) { s with heap:=h'',toks:=s.toks + 1 }:=by
   refine I.step (g':=s.gens) (d':=s.drawn) (ch:=[e,it]) (fun b hb=>?_) (fun b o _ _ hc q _=>keepb b o (fun z=>hc (by simp [z])) (fun z=>hc (by simp [z])) q) (fun b o _ _ hc q _=>⟨o.slots,keepb b o (fun z=>hc (by simp [z])) (fun z=>hc (by simp [z])) q⟩) (fun b o _ q n=>by rw [upd_ne (Nat.ne_of_lt (Heap.lt_size q))]; exact n)
    (fun b o hc q=>⟨o,keepb b o (fun z=>hc (by simp [z])) (fun z=>hc (by simp [z])) q⟩) (fun b ys q=>by rw [upd_ne (ne_of_none q hn)]; exact q) (fun b o ys q=>by rw [upd_ne (ne_of_none q hn)]; exact q) (fun b ps q=>⟨#[],by rw [upd_ne (ne_of_none q hn),q]; simp⟩) (fun m hm=>?_) (fun b v q=>?_) I.bare
   ·rcases List.mem_cons.mp hb with z | z
    ·subst z; exact ⟨f3,f1,f4,f5⟩
    ·have z:b=it:=by simpa using z
     subst z; exact ⟨g3,g1,g4,g5⟩
   ·obtain ⟨o,es,ep,ho,r⟩:=hm
    exact ⟨o,es,ep,keepb _ o (Ne.symm f1) (Ne.symm g1) ho,r⟩
   ·by_cases hb:b=s.heap.objs.size
    ·subst hb
     rw [upd_same] at q
     cases q
     exact ⟨by show 2≤sizeLine; decide,[.int i s.toks,u],.cons ⟨_,rfl⟩ (.cons ru .nil),⟨_,ht'',rfl,_,rfl⟩⟩
    ·rw [upd_ne hb] at q
     refine (I.hok b v q).stay (fun c w' hc z=>keepb c w' ?_ ?_ z) (fun d z=>by rw [upd_ne (ne_of_none z hn)]; exact z) fun d ys z=>by rw [upd_ne (ne_of_none z hn)]; exact z
     ·rintro rfl
      rcases hc with z | z
      ·rw [z,q] at f0; cases f0
      ·rw [f0] at z; cases z
     ·rintro rfl
      rcases hc with z | z
      ·rw [z,q] at g0; cases g0
      ·rw [g0] at z; cases z
  refine ⟨.ref s.heap.objs.size,_,I2,rfl,⟨_,x,hn,rfl,fun ys hy=>by rw [I.list_inj hy hq]; exact hx,rfl⟩,⟨⟨u,he''⟩,hit'.at fun o q=>(sb.2 it (Ne.symm hne)).trans q⟩,fun b hb=>?_⟩
  rcases List.mem_cons.mp hb with z | z
  ·subst z; rw [upd_ne (Nat.ne_of_lt eo)]; exact f0
  ·have z:b=it:=by simpa using z
   subst z; rw [upd_ne (Nat.ne_of_lt io)]; exact g0
 done:=by
  intro X hP hw hK hc i pins s σ H E I hf st hg
  subst hP hw hK
  obtain ⟨xs,hq,hx⟩:=hg
  obtain ⟨its,rv,p,hz⟩:=I.list hq
  obtain ⟨g0,g1,g2,g3,g4,g5⟩:=hf it (by simp)
  obtain ⟨⟨old,he⟩,hit⟩:=st
  have hl:=rv.length
  exact wpAny_pyNext_enum_end (I.ok.hd hc) he hit p.isList (by simp; omega) fun h' eb=>⟨rfl,I.turned (t':=s.toks) (fun b o hb e=>eb b o hb e) g0 g1 g3 g4 g5⟩
 self:=fun _ _ _ _ _ st h=>by
  obtain ⟨⟨old,he⟩,_⟩:=st
  exact wpAny_pyIter_enum he h
variable {X:Cx}
noncomputable def iEnum (K:PySem.W.Frag) (ta:TA):TI:=fun σ H R=>ta σ H fun vs H1=>∃ a,vs=[.ref a]∧(∃ xs,SqL K H1 a xs)∧R (Ite K a) H1
theorem pi_enum {elts:List Expr} {x1:Nat} {tpos p pos:Pos} {l:Expr} {ta:TA} (hg:Gl X "enumerate") (hm:X.mg "enumerate"=none) (ha:PA X [l] ta) (hs:starEach [l] X.env=[(false,eval l X.env)]:=by rfl):PI X (.Tuple elts x1 tpos) (.Call (.Name "enumerate" p) [l] [] pos) (iEnum X.K ta):=by
 intro pins s σ H R I h
 refine Call_ (ld_blt I hg hm boot_enumerate (PyProof.Rows.callWith_type1 (thn (ha pos pins s σ H _ I h) fun us s1 zz33=>?_) hs rfl))
 obtain ⟨vs,H1,I1,r1,q1⟩:=zz33
 obtain ⟨a,e,⟨xs,hq⟩,q⟩:=q1
 subst e
 obtain ⟨u,rfl,ru⟩:=vals1 r1
 cases ru
 obtain ⟨its,rv,pl,hz⟩:=I1.list hq
 refine call_enumerate_list pl.isList fun h' he hit hsz hk=>wpAny_pyIter_enum he ?_
 have I2:Inv X pins σ H1 { s1 with heap:=h' }:=I1.kept (t':=s1.toks) hk
 refine ⟨s1.heap.objs.size + 1,[s1.heap.objs.size + 1,s1.heap.objs.size],_,_,H1,rfl,I2,turn_enum a _ _ (Nat.succ_ne_self _),⟨⟨.none,he⟩,hit⟩,fun b hb=>?_,q⟩
 rcases List.mem_cons.mp hb with z | z
 ·subst z; exact I1.fpOk (Nat.le_succ _) (I1.hok.fresh (Nat.le_succ _))
 ·have z:b=s1.heap.objs.size:=by simpa using z
  subst z; exact I1.fpOk (Nat.le_refl _) (I1.hok.fresh (Nat.le_refl _))
theorem for_enum {K:PySem.W.Frag} {a:Addr} {xs:List V} {g:TG} {tb:TS} {D:Ends} {σ:St} {H:Hp} (Pv:Nat→St→Hp→Prop) (h0:Pv 0 σ H) (hl:∀ i σ H,i≤xs.length→Pv i σ H→SqL K H a xs)
  (hs:∀ i x σ H q,xs[i]?=some x→H q=none→Pv i σ H→g (.ref q) σ (upd H q (.tup [.int i,x])) fun σ2 H2=>tb { D with nx:=Pv (i + 1),ct:=Pv (i + 1),bk:=D.nx } σ2 H2) (hd:∀ σ H,Pv xs.length σ H→D.nx σ H) :
  ∃ W:Nat→Nat→St→Hp→Prop,(∃ m,W 0 m σ H)∧∀ i m σ H,W i m σ H →
   ((Ite K a).stop i H∧D.nx σ H)∨((Ite K a).go i H∧∃ N:St→Hp→Prop,(∀ σ' H',N σ' H'→∃ m',m' < m∧W (i + 1) m' σ' H')∧∀ x H',(Ite K a).yld i H x H'→g x σ H' fun σ2 H2=>tb { D with nx:=N,ct:=N,bk:=D.nx } σ2 H2):=by
 refine ⟨fun i m σ H=>m=xs.length - i∧i≤xs.length∧Pv i σ H,⟨xs.length,by simp,Nat.zero_le _,h0⟩,?_⟩
 rintro i m σ H ⟨rfl,hi,p⟩
 have q:=hl i σ H hi p
 by_cases hlt:i < xs.length
 ·refine .inr ⟨⟨xs,xs[i],q,by simp [hlt]⟩,Pv (i + 1),fun σ' H' p'=>⟨xs.length - (i + 1),by omega,rfl,hlt,p'⟩,fun x H' y=>?_⟩
  obtain ⟨c,z,hn,e1,e2,e3⟩:=y
  subst e1 e3
  exact hs i z σ H c (e2 xs q) hn p
 ·have e:i=xs.length:=by omega
  subst e
  exact .inl ⟨⟨xs,q,Nat.le_refl _⟩,hd σ H p⟩
theorem for_vals {d:Addr} {kvs:List (Key × V)} {o:Obj} {g:TG} {tb:TS} {D:Ends} {σ:St} {H:Hp} (Pv:Nat→St→Hp→Prop) (h0:Pv 0 σ H) (hl:∀ i σ H,i≤kvs.length→Pv i σ H→H d=some (.frz o (.dK kvs)))
  (hs:∀ i k x σ H,kvs[i]?=some (k,x)→Pv i σ H→g x σ H fun σ2 H2=>tb { D with nx:=Pv (i + 1),ct:=Pv (i + 1),bk:=D.nx } σ2 H2) (hd:∀ σ H,Pv kvs.length σ H→D.nx σ H) :
  ∃ W:Nat→Nat→St→Hp→Prop,(∃ m,W 0 m σ H)∧∀ i m σ H,W i m σ H →
   ((Itv2 d kvs o).stop i H∧D.nx σ H)∨((Itv2 d kvs o).go i H∧∃ N:St→Hp→Prop,(∀ σ' H',N σ' H'→∃ m',m' < m∧W (i + 1) m' σ' H')∧∀ x H',(Itv2 d kvs o).yld i H x H'→g x σ H' fun σ2 H2=>tb { D with nx:=N,ct:=N,bk:=D.nx } σ2 H2):=by
 refine ⟨fun i m σ H=>m=kvs.length - i∧i≤kvs.length∧Pv i σ H,⟨kvs.length,by simp,Nat.zero_le _,h0⟩,?_⟩
 rintro i m σ H ⟨rfl,hi,p⟩
 have q:=hl i σ H hi p
 by_cases hlt:i < kvs.length
 ·refine .inr ⟨⟨hlt,q⟩,Pv (i + 1),fun σ' H' p'=>⟨kvs.length - (i + 1),by omega,rfl,hlt,p'⟩,fun x H' y=>?_⟩
  obtain ⟨e,k,y⟩:=y
  subst e
  exact hs i k x σ _ y p
 ·have e:i=kvs.length:=by omega
  subst e
  exact .inl ⟨⟨Nat.le_refl _,q⟩,hd σ H p⟩
theorem for_keys {d:Addr} {kvs:List (Key × V)} {o:Obj} {g:TG} {tb:TS} {D:Ends} {σ:St} {H:Hp} (Pv:Nat→St→Hp→Prop) (h0:Pv 0 σ H) (hl:∀ i σ H,i≤kvs.length→Pv i σ H→H d=some (.frz o (.dK kvs)))
  (hs:∀ i k x σ H,kvs[i]?=some (k,x)→Pv i σ H→g (kV k) σ H fun σ2 H2=>tb { D with nx:=Pv (i + 1),ct:=Pv (i + 1),bk:=D.nx } σ2 H2) (hd:∀ σ H,Pv kvs.length σ H→D.nx σ H) :
  ∃ W:Nat→Nat→St→Hp→Prop,(∃ m,W 0 m σ H)∧∀ i m σ H,W i m σ H →
   ((Itk2 d kvs o).stop i H∧D.nx σ H)∨((Itk2 d kvs o).go i H∧∃ N:St→Hp→Prop,(∀ σ' H',N σ' H'→∃ m',m' < m∧W (i + 1) m' σ' H')∧∀ x H',(Itk2 d kvs o).yld i H x H'→g x σ H' fun σ2 H2=>tb { D with nx:=N,ct:=N,bk:=D.nx } σ2 H2):=by
 refine ⟨fun i m σ H=>m=kvs.length - i∧i≤kvs.length∧Pv i σ H,⟨kvs.length,by simp,Nat.zero_le _,h0⟩,?_⟩
 rintro i m σ H ⟨rfl,hi,p⟩
 have q:=hl i σ H hi p
 by_cases hlt:i < kvs.length
 ·refine .inr ⟨⟨hlt,q⟩,Pv (i + 1),fun σ' H' p'=>⟨kvs.length - (i + 1),by omega,rfl,hlt,p'⟩,fun x H' y=>?_⟩
  obtain ⟨e,k,v,y,ex⟩:=y
  subst e ex
  exact hs i k v σ _ y p
 ·have e:i=kvs.length:=by omega
  subst e
  exact .inl ⟨⟨Nat.le_refl _,q⟩,hd σ H p⟩
noncomputable def tLRange (ta:TA):TE:=fun σ H Q=>ta σ H fun vs H1=>∃ n:Nat,vs=[.int n]∧n≤1000∧∀ p,H1 p=none→Q (.ref p) (upd H1 p (.lst ((List.range n).map fun (i:Nat)=>V.int i)))
theorem pe_listRange {a:Expr} {ta:TA} {p1 p2 pos pos2:Pos} (hgl:Gl X "list") (hml:X.mg "list"=none) (hg:Gl X "range") (hm:X.mg "range"=none) (hc:X.calm=true) (ha:PA X [a] ta) (hs:starEach [a] X.env=[(false,eval a X.env)]:=by rfl)
  (hs2:starEach [.Call (.Name "range" p2) [a] [] pos2] X.env=[(false,eval (.Call (.Name "range" p2) [a] [] pos2) X.env)]:=by rfl):PE X (.Call (.Name "list" p1) [.Call (.Name "range" p2) [a] [] pos2] [] pos) (tLRange ta):=by
 intro pins s σ H Q I h
 refine Call_ (ld_blt I hgl hml PySem.Pv.boot_list (PyProof.Rows.callWith_type1 ?_ hs2 rfl))
 rw [hs2]
 refine Calls.spliced_cons ?_
 refine Call_ (ld_blt I hg hm boot_range (PyProof.Rows.callWith_type1 (thn (ha pos2 pins s σ H _ I h) fun us s1 zz34=>?_) hs rfl))
 obtain ⟨vs,H1,I1,r1,q1⟩:=zz34
 obtain ⟨n,e,hn,q⟩:=q1
 subst e
 obtain ⟨u,rfl,ru⟩:=vals1 r1
 obtain ⟨t,rfl⟩:=ru
 refine call_range_1 (Calls.spliced_nil ?_)
 have hr:Builtin.Range.rangeSize 0 (n:Int) 1=n:=by rw [rangeSize_one]; split <;> omega
 refine call_list_range (I.ok.hd hc) (IsRange.new ..) (small_one (by omega) (by omega) (by omega) (by omega)) hr (by omega) fun h' tk acc c' hk hS hacc=>?_
 have hk1:∀ b o,s1.heap.get? b=some o→h'.get? b=some o:=fun b o e=>hk b o (Heap.get?_push_of_some _ e)
 have hv:Vals ((List.range n).map fun (i:Nat)=>V.int i) acc.toList:=by
  have gen:∀ (l:List Value) (k:Nat),(∀ (j:Nat) (v:Value),l[j]?=some v→∃ t,v=.int ((k + j:Nat):Int) t)→Vals ((List.range' k l.length).map fun (i:Nat)=>V.int i) l:=by
   intro l
   induction l with
   | nil=>intro k _; exact .nil
   | cons v r ih =>
    intro k h
    obtain ⟨t,e⟩:=h 0 v rfl
    rw [List.length_cons,List.range'_succ,List.map_cons]
    refine .cons ⟨t,by rw [e]; rfl⟩ (ih (k + 1) fun j w hw=>?_)
    obtain ⟨t',e'⟩:=h (j + 1) w (by simpa using hw)
    exact ⟨t',by rw [e']; congr 1; omega⟩
  have hl:acc.toList.length=n:=by rw [Array.length_toList]; exact hacc.1
  have:=gen acc.toList 0 fun j v hj=>by
   obtain ⟨t,e⟩:=hacc.2 j v (by rw [← Array.getElem?_toList]; exact hj)
   exact ⟨t,by rw [e]; congr 1; omega⟩
  rw [hl,← List.range_eq_range'] at this
  exact this
 have hle:s1.heap.objs.size≤(s1.heap.push { cls:=.type "range",data:=.fields #[.int 0 s1.toks,.int (n:Int) t,.int 1 (s1.toks + 1)] }).objs.size:=by rw [Heap.size_push]; exact Nat.le_succ _
 refine ⟨.ref _,upd H1 _ (.lst ((List.range n).map fun (i:Nat)=>V.int i)),I1.laid hk1 (Nat.le_of_lt (by first | exact Nat.lt_of_le_of_lt hle (Heap.lt_size hS) | (rw [Heap.size_push]; exact Nat.lt_succ_self _))) ⟨?_,acc.toList,c',hv,?_⟩,rfl,q _ (I1.hok.fresh ?_)⟩
 ·rw [List.length_map,List.length_range,sizeLine_eq]; omega
 ·simpa using hS
 ·rw [Heap.size_push]; exact Nat.le_succ _
end
end L2
set_option maxHeartbeats 4000000
namespace L2
open PySem PySem.Spec PyProof.Rows
noncomputable abbrev TJ:=Str→TE
end L2
set_option maxHeartbeats 4000000
namespace L2
open PySem PySem.Spec PyProof.Rows
section
variable {X:Cx}
theorem ix_listK (K:PySem.W.Frag) (h:X.K=K:=by rfl):IxR X (rIxL K):=h ▸ ix_list
theorem ix_tupK (K:PySem.W.Frag) (h:X.K=K:=by rfl):IxR X (rIxT K):=h ▸ ix_tup
theorem call_tuple_ofK (K:PySem.W.Frag) (h:X.K=K:=by rfl):CallR X (.type "tuple") (fun xs H Q=>∃ p ys,xs=[.ref p]∧((SqL K H p ys∧∀ l,H l=none→Q (.ref l) (upd H l (.tup ys)))∨(SqT K H p ys∧Q (.ref p) H))):=h ▸ call_tuple_of
variable {tg l e:Expr} {tl ta:TE} {f:Str} {pos:Pos}
theorem pi_tupK (K:PySem.W.Frag) (hl:PE X l tl) (h:X.K=K:=by rfl):PI X tg l (iTup K tl):=h ▸ pi_tup hl
end
end L2
set_option maxHeartbeats 4000000
namespace L2
open PySem PySem.Spec PyProof.Rows
section
variable {prog:Program} {w:World} {A:Around} {E:Value→Shared→Prop}
theorem drawL {it l:Addr} {xs:Array Value} (ne:l≠it) (k:Nat):∀ (i:Nat) (s:Shared) (Q:List Value→Shared→Prop),s.heap.IsListIter it l i→s.heap.IsList l xs→i + k≤xs.size →
  (∀ h',h'.IsListIter it l (i + k)→Heap.SameBut it s.heap h'→Q ((xs.toList.drop i).take k) { s with heap:=h' })→wpAny (model prog w) A (draw (.ref it) k) Q E s:=by
 induction k with
 | zero =>
  intro i s Q a b c q
  have z:=q s.heap a (Heap.SameBut.refl ..)
  rw [List.take_zero] at z
  exact wpAny_pure z
 | succ k ih =>
  intro i s Q a b c q
  have lt:i < xs.size:=by omega
  refine wpAny_bind (m:=pyNext (.ref it)) (wpAny_pyNext_list_item a b (x:=xs[i]) (by simp [lt]) fun g st sb=>?_)
  refine wpAny_bind (wpAny_holding (ih (i + 1) _ _ st (b.extBut sb.extBut ne) (by omega) fun g2 st2 sb2=>wpAny_pure ?_))
  have z:=q g2 (by rw [Nat.add_right_comm] at st2; exact st2) (sb.trans sb2)
  rwa [List.drop_eq_getElem_cons (by simpa using lt),List.take_succ_cons,Array.getElem_toList] at z
theorem unpackL {l:Addr} {xs:Array Value} {s:Shared} {Q:List Value→Shared→Prop} (hc:A.handled=none) (b:s.heap.IsList l xs)
  (q:∀ h',Heap.ExtBut s.heap.objs.size s.heap h'→Q xs.toList { s with heap:=h' }):wpAny (model prog w) A (unpackItems (.ref l) xs.size none) Q E s:=by
 have ne:l≠s.heap.objs.size:=by obtain ⟨o,ho,_⟩:=b; exact Nat.ne_of_lt (Heap.lt_size ho)
 unfold unpackItems notIterableAtAll
 refine wpAny_bind (wpAny_bind (wpAny_specialOf b.typeIs PySem.F.slot_list_iter.lookup (wpAny_pure ?_)))
 rw [if_neg (by decide)]
 refine wpAny_bind (wpAny_holding (wpAny_pyIter_list b ?_))
 refine wpAny_bind (wpAny_holding (drawL ne xs.size 0 _ _ ⟨_,Heap.get?_push_size _ rfl,rfl,rfl⟩ (b.push _) (by omega) fun g st sb=>?_))
 have e:(xs.toList.drop 0).take xs.size=xs.toList:=by rw [List.drop_zero,List.take_of_length_le]; simp
 rw [e,if_neg (by simp)]
 refine wpAny_bind (wpAny_holding (wpAny_pyNext_list_end hc st ((b.push _).extBut sb.extBut ne) (by simp) fun g2 eb=>?_))
 rw [if_neg (by decide)]
 exact wpAny_pure (q g2 fun c o hb z=>eb c o hb (sb.extBut c o hb (Heap.get?_push_of_some _ z)))
end
section
variable {X:Cx} {pos:Pos}
noncomputable def gLst (K:PySem.W.Frag) (n:Nat) (t:TGs):TG:=fun v σ H Q=>∃ a xs,v=.ref a∧SqL K H a xs∧xs.length=n∧t xs σ H Q
theorem pg_lst {es:List Expr} {k:Nat} {t:TGs} {n:Nat} (hc:X.calm=true) (h:PGs X es t)
  (hn:(assignEach es X.env).length=n:=by rfl) (hst:(assignEach es X.env).findIdx? (·.1)=none:=by rfl):PG X (.Tuple es k pos) (gLst X.K n t):=by
 intro pins s σ H v u Q I r hw
 obtain ⟨a,xs,e1,hq,hl,hw⟩:=hw
 subst e1
 cases r
 obtain ⟨its,rv,p,hz⟩:=I.list hq
 rw [assign_Tuple]
 refine wpAny_bind (wpAny_standAt ?_)
 unfold unpack
 have hn2:(assignEach es X.env).length=its.toArray.size:=by rw [hn,← hl,rv.length]; simp
 rw [hn2,hst]
 refine wpAny_bind (wpAny_holding (unpackL (I.ok.hd hc) p.isList fun h' hx=>?_))
 have I1:Inv X pins σ H { s with heap:=h' }:=I.kept (t':=s.toks) fun b o e=>hx b o (Nat.ne_of_lt (Heap.lt_size e)) e
 exact h pins _ σ H xs _ Q I1 (by simpa using rv) hw
end
end L2
set_option maxHeartbeats 4000000
namespace L2
open PySem PySem.Spec PyProof.Rows
section
noncomputable def Itm2 (d:Addr) (kvs:List (Key × V)) (o:Obj):It :=
 ⟨fun i H=>i < kvs.length∧H d=some (.frz o (.dK kvs)),fun i H x H'=>∃ q k v,H q=none∧x=.ref q∧kvs[i]?=some (k,v)∧H'=upd H q (.tup [kV k,v]),fun i H=>kvs.length≤i∧H d=some (.frz o (.dK kvs))⟩
theorem turn_items {P:Program} {w:World} {K:PySem.W.Frag} {elts:List Expr} {x1:Nat} {pos:Pos} (d it:Addr) (kvs:List (Key × V)) (o:Obj) :
  Turn P w K (.Tuple elts x1 pos) (Itm2 d kvs o) [it] it (fun i h=>∃ a b,IsItemIter h it d i kvs.length (epOf o) a b) where
 mem:=by simp
 obj:=fun i h st b hb=>by
  have e:b=it:=by simpa using hb
  subst e
  obtain ⟨a,c,z⟩:=st
  exact ⟨_,z,fun v y=>by
   have y':Data.fields _=Data.cell v:=y
   cases y'⟩
 keep:=fun i h h' st k=>by
  obtain ⟨a,c,z⟩:=st
  exact ⟨a,c,k it (by simp) _ z⟩
 item:=by
  intro X hP hw hK hc i pins s σ H E I hf st hg
  subst hP hw hK
  obtain ⟨hi,hq⟩:=hg
  obtain ⟨vs,ep,rel,da,ho⟩:=frz_dict I hq
  have hep:=ep_of da ho
  subst hep
  obtain ⟨f0,f1,f2,f3,f4,f5⟩:=hf it (by simp)
  obtain ⟨⟨k,v⟩,hx⟩:∃ p,kvs[i]?=some p:=⟨_,List.getElem?_eq_getElem hi⟩
  obtain ⟨u,hu,ru⟩:=rel.at hx
  have hlen:vs.length=kvs.length:=rel.length.symm
  obtain ⟨a0,b0,st⟩:=st
  rw [← hlen] at st
  have itlt:=Heap.lt_size st
  refine wpAny_pyNext_items_item st da hu fun key h' hk st' ht hsz kk=>?_
  rw [hlen] at st'
  refine ⟨.ref s.heap.objs.size,rfl,wpAny_letOwnedTupleGo_items st' fun h'' st'' sb=>?_⟩
  have keepb:∀ b z,b≠it→s.heap.get? b=some z→h''.get? b=some z:=fun b z hb e=>(sb.2 b hb).trans (kk b z hb e)
  have ht'':h''.get? s.heap.objs.size=some { cls:=.type "tuple",data:=.seq #[key,u] }:=(sb.2 _ (Nat.ne_of_gt itlt)).trans ht
  have hn:H s.heap.objs.size=none:=I.hok.fresh (Nat.le_refl _)
  have I2:Inv X pins σ (upd H s.heap.objs.size (.tup [kV k,v])) { s with heap:=h'' }:=by
   refine I.step (g':=s.gens) (d':=s.drawn) (ch:=[it]) (fun b hb=>?_) (fun b o _ _ hc q _=>keepb b o (fun z=>hc (by simp [z])) q) (fun b o _ _ hc q _=>⟨o.slots,keepb b o (fun z=>hc (by simp [z])) q⟩) (fun b o _ q n=>by rw [upd_ne (Nat.ne_of_lt (Heap.lt_size q))]; exact n)
    (fun b o hc q=>⟨o,keepb b o (fun z=>hc (by simp [z])) q⟩) (fun b ys q=>by rw [upd_ne (ne_of_none q hn)]; exact q) (fun b o ys q=>by rw [upd_ne (ne_of_none q hn)]; exact q) (fun b ps q=>⟨#[],by rw [upd_ne (ne_of_none q hn),q]; simp⟩) (fun m hm=>?_) (fun b v' q=>?_) I.bare
   ·have z:b=it:=by simpa using hb
    subst z; exact ⟨f3,f1,f4,f5⟩
   ·obtain ⟨o,es,ep,ho,r⟩:=hm
    exact ⟨o,es,ep,keepb _ o (Ne.symm f1) ho,r⟩
   ·by_cases hb:b=s.heap.objs.size
    ·subst hb
     rw [upd_same] at q
     cases q
     exact ⟨by show 2≤sizeLine; decide,[key,u],.cons (kV_of hk) (.cons ru .nil),⟨_,ht'',rfl,_,rfl⟩⟩
    ·rw [upd_ne hb] at q
     refine (I.hok b v' q).stay (fun c w' hc z=>keepb c w' ?_ z) (fun d z=>by rw [upd_ne (ne_of_none z hn)]; exact z) fun d ys z=>by rw [upd_ne (ne_of_none z hn)]; exact z
     rintro rfl
     rcases hc with z | z
     ·rw [z,q] at f0; cases f0
     ·rw [f0] at z; cases z
  refine ⟨.ref s.heap.objs.size,_,I2,rfl,⟨_,k,v,hn,rfl,hx,rfl⟩,⟨_,_,st''⟩,fun b hb=>?_⟩
  have z:b=it:=by simpa using hb
  subst z; rw [upd_ne (Nat.ne_of_lt itlt)]; exact f0
 done:=by
  intro X hP hw hK hc i pins s σ H E I hf st hg
  subst hP hw hK
  obtain ⟨hi,hq⟩:=hg
  obtain ⟨vs,ep,rel,da,ho⟩:=frz_dict I hq
  have hep:=ep_of da ho
  subst hep
  obtain ⟨f0,f1,f2,f3,f4,f5⟩:=hf it (by simp)
  have hlen:vs.length=kvs.length:=rel.length.symm
  obtain ⟨a0,b0,st⟩:=st
  rw [← hlen] at st
  exact wpAny_pyNext_items_end (I.ok.hd hc) st da (by rw [List.getElem?_eq_none]; omega) fun h' eb=>⟨rfl,I.turned (t':=s.toks) (fun b o hb e=>eb b o hb e) f0 f1 f3 f4 f5⟩
 self:=fun _ _ _ _ _ st h=>by
  obtain ⟨a,b,st⟩:=st
  exact PySem.W.kcp_self st h
variable {X:Cx} {l:Expr} {tl:TE}
theorem pi_items {elts:List Expr} {x1:Nat} {tpos apos cpos:Pos} (hl:PE X l tl) (m:M0 X l "items" apos cpos):PI X (.Tuple elts x1 tpos) (.Call (.Attribute l "items" apos) [] [] cpos) (iDict Itm2 tl):=by
 intro pins s σ H R I h
 refine wpAny_Call_method m.base m.few m.line PySem.F.plainAttrs_dict PySem.F.slot_dict_items PySem.F.type_dict_items (thn (hl pins s σ H _ I h) fun v s1 zz9=>?_)
 obtain ⟨x,H1,I1,r1,q1⟩:=zz9
 obtain ⟨a,kvs,e,q⟩:=q1
 subst e
 cases r1
 obtain ⟨o,H2,e2,I2,q2⟩:=dict_frz (R:=fun o H=>R (Itm2 a kvs o) H) I1 q
 obtain ⟨vs,ep,rel,da,ho⟩:=frz_dict I2 e2
 have hep:=ep_of da ho
 subst hep
 obtain ⟨_,_,hsys,_⟩:=I2.hok a _ e2
 have isd:IsD H2 a:=.inl ⟨kvs,.inr ⟨o,e2⟩⟩
 obtain ⟨t1,t2,_⟩:=isD_at I2 isd
 refine ⟨t1,t2,?_⟩
 refine Calls.callWith_builtin rfl (PyProof.Rows.evalArgs_empty ?_)
 refine call_meetsIn PySem.F.slot_dict_items da.dictOf.typeIs PySem.F.entry_dict_items (PySem.F.args_dict_items_1 _) (meets_dict_items (mixKind X.prog X.w) a hsys) ⟨⟨vs,da.dictOf⟩,?_⟩
 have I3:Inv X pins σ H2 { s1 with heap:=s1.heap.push { cls:=.type "dict_items",data:=.fields #[.ref a] } }:=I2.kept (t':=s1.toks) fun b o e=>Heap.get?_push_of_some _ e
 refine wpAny_pyIter_items ⟨_,Heap.get?_push_size _ rfl,rfl,rfl⟩ (da.push _) ?_
 have hlen:vs.length=kvs.length:=rel.length.symm
 rw [hlen]
 refine ⟨(s1.heap.push { cls:=.type "dict_items",data:=.fields #[.ref a] }).objs.size,[(s1.heap.push { cls:=.type "dict_items",data:=.fields #[.ref a] }).objs.size],_,_,H2,rfl,I3.kept (t':=s1.toks) fun b o e=>Heap.get?_push_of_some _ e,turn_items a _ kvs o,⟨_,_,Heap.get?_push_size _ rfl⟩,fun b hb=>?_,q2⟩
 have e:b=(s1.heap.push { cls:=.type "dict_items",data:=.fields #[.ref a] }).objs.size:=by simpa using hb
 subst e
 exact I3.fpOk (Nat.le_refl _) (I3.hok.fresh (Nat.le_refl _))
end
section
noncomputable def Itr3 (lo st:Int) (n:Nat):It:=⟨fun i _=>i < n,fun i H x H'=>H'=H∧x=.int (lo + i * st),fun i _=>n≤i⟩
theorem turn_range3 {P:Program} {w:World} {K:PySem.W.Frag} {tg:Expr} (it:Addr) (lo st:Int) (n:Nat):Turn P w K tg (Itr3 lo st n) [it] it (fun i h=>IsRangeIter h it (lo + (i:Nat) * st) ((n:Int) - (i:Nat)) st) where
 mem:=by simp
 obj:=fun i h st b hb=>by
  have e:b=it:=by simpa using hb
  subst e
  exact ⟨_,st,fun v z=>by
   have z':Data.fields _=Data.cell v:=z
   cases z'⟩
 keep:=fun i h h' st k=>k it (by simp) _ st
 item:=by
  intro X hP hw hK hc i pins s σ H E I hf st' hg
  subst hP hw hK
  obtain ⟨f0,f1,f2,f3,f4,f5⟩:=hf it (by simp)
  have W:=Walks.range (prog:=X.prog) (w:=X.w) (I.ok.hd hc) it lo st n
  refine W.item i s _ _ hg st' fun v h' tk hv st2 kk=>?_
  obtain ⟨t,rfl⟩:=hv
  have I1:Inv X pins σ H { s with heap:=h',toks:=tk }:=I.turned (fun b o hb e=>kk b o (by simpa using hb) e) f0 f1 f3 f4 f5
  exact ⟨_,rfl,go_of (s:={ s with heap:=h',toks:=tk }) (n:="range_iterator") st2 rfl rfl (by decide) ⟨.int (lo + i * st),H,I1,⟨t,rfl⟩,⟨rfl,rfl⟩,st2,fun b hb=>(hf b hb).1⟩⟩
 done:=by
  intro X hP hw hK hc i pins s σ H E I hf st' hg
  subst hP hw hK
  obtain ⟨f0,f1,f2,f3,f4,f5⟩:=hf it (by simp)
  exact wpAny_pyNext_range_end (I.ok.hd hc) st' (by have:n≤i:=hg; omega) fun h' eb=>⟨rfl,I.turned (t':=s.toks) (fun b o hb e=>eb b o hb e) f0 f1 f3 f4 f5⟩
 self:=fun _ _ _ _ _ st h=>wpAny_pyIter_rangeiter st h
end
end L2
set_option maxHeartbeats 4000000
namespace L2
open PySem PySem.Spec PyProof.Rows
section
variable {X:Cx}
noncomputable def rNeL (K:PySem.W.Frag):R2:=fun x y H Q=>∃ a b ns ms,x=.ref a∧y=.ref b∧SqL K H a (List.map V.int ns)∧SqL K H b (List.map V.int ms)∧Q (.bl (!decide (ns=ms))) H
theorem op_neL (hu:X.A.units + 64 < cLine):OpR X (compareOp .NotEq) (rNeL X.K):=by
 intro pins s σ H x y v u Q I rx ry h
 obtain ⟨a,b,ns,ms,rfl,rfl,ha,hb,q⟩:=h
 cases rx
 cases ry
 obtain ⟨ia,ra,pa,_⟩:=I.list ha
 obtain ⟨ib,rb,pb,_⟩:=I.list hb
 exact PySem.W.ne_intsK pa.isList (intsAre_of ra) pb.isList (intsAre_of rb) hu ⟨.bl _,H,I,rfl,q⟩
theorem all_range (bs:List Bool):((List.range bs.length).all fun i=>bs.getD i true)=bs.all id:=by
 rw [Bool.eq_iff_iff,List.all_eq_true,List.all_eq_true]
 constructor
 ·intro h b hb
  obtain ⟨i,hi,rfl⟩:=List.mem_iff_getElem.mp hb
  have:=h i (List.mem_range.mpr hi)
  rw [List.getD_eq_getElem?_getD,List.getElem?_eq_getElem hi] at this
  exact this
 ·intro h i hi
  have hi:=List.mem_range.mp hi
  rw [List.getD_eq_getElem?_getD,List.getElem?_eq_getElem hi]
  exact h _ (List.getElem_mem hi)
theorem call_all (hc:X.calm=true):CallR X (.builtin "all") (fun xs H Q=>∃ p bs,xs=[.ref p]∧SqL X.K H p (List.map V.bl bs)∧Q (.bl (bs.all id)) H):=by
 intro pins s σ H xs us Q I r h
 obtain ⟨p,bs,rfl,hq,q⟩:=h
 obtain ⟨u,rfl,ru⟩:=vals1 r
 cases ru
 obtain ⟨its,rv,pl,hz⟩:=I.list hq
 have ne:p≠s.heap.objs.size:=by obtain ⟨o,ho,_⟩:=pl.isList; exact Nat.ne_of_lt (Heap.lt_size ho)
 refine call_all_walk (wpAny_pyIter_list pl.isList ⟨s.heap.objs.size,_,_,_,_,_,fun i=>bs.getD i true,rfl,Walks.list (A:=X.A.in1) (show X.A.in1.handled=none from I.ok.hd hc) s.heap.objs.size p ne its.toArray,⟨⟨_,Heap.get?_push_size _ rfl,rfl,rfl⟩,pl.isList.push _⟩,?_,?_⟩)
 ·intro i v s' Q' E' hv hq'
  have hv:its[i]?=some v:=by simpa using hv
  have hlen:=rv.length
  rw [List.length_map] at hlen
  have hi:i < bs.length:=by have:=(List.getElem?_eq_some_iff.mp hv).1; omega
  obtain ⟨u,hu,ru⟩:=rv.get (show (bs.map V.bl)[i]?=some (V.bl bs[i]) by rw [List.getElem?_map,List.getElem?_eq_getElem hi]; rfl)
  rw [hv] at hu
  cases hu
  cases ru
  have e:bs.getD i true=bs[i]:=by rw [List.getD_eq_getElem?_getD,List.getElem?_eq_getElem hi]; rfl
  refine wpAny_truthy_bool ?_
  have hq':Q' (bs.getD i true) s':=hq'
  rw [e] at hq'
  exact hq'
 ·intro h' tk hk
  have I1:Inv X pins σ H { s with heap:=h',toks:=tk }:=I.kept fun b o e=>hk b o (fun z=>absurd (Heap.lt_size e) (by rw [List.mem_singleton.mp z]; exact Nat.lt_irrefl _)) (Heap.get?_push_of_some _ e)
  have hlen:its.toArray.size=bs.length:=by have:=rv.length; rw [List.length_map] at this; simp; omega
  refine ⟨.bl (bs.all id),H,I1,?_,q⟩
  show Value.bool _=_
  rw [hlen,all_range]
end
section
noncomputable def Itz (K:PySem.W.Frag) (a b:Addr):It :=
  ⟨fun i H=>∃ xs ys x y,SqL K H a xs∧SqL K H b ys∧xs[i]?=some x∧ys[i]?=some y,
   fun i H v H'=>∃ q x y,H q=none∧v=.ref q∧(∀ xs,SqL K H a xs→xs[i]?=some x)∧(∀ ys,SqL K H b ys→ys[i]?=some y)∧H'=upd H q (.tup [x,y]),
   fun i H=>∃ xs ys,SqL K H a xs∧SqL K H b ys∧(xs.length≤i∨ys.length≤i)⟩
theorem turn_zip {P:Program} {w:World} {K:PySem.W.Frag} {elts:List Expr} {x1:Nat} {pos:Pos} (a b z TI TO i1 i2:Addr) (D:ZipApart z TI TO i1 i2 a b) :
  Turn P w K (.Tuple elts x1 pos) (Itz K a b) [z,TI,TO,i1,i2] z (fun i h=>IsZip h z TI TO .none∧IsPair h TI (.ref i1) (.ref i2)∧(∃ u v,IsPair h TO u v)∧h.IsListIter i1 a i∧h.IsListIter i2 b i) where
 mem:=by simp
 obj:=fun i h st c hc=>by
  obtain ⟨s1,s2,⟨u,v,s3⟩,⟨o4,e4,c4,d4⟩,o5,e5,c5,d5⟩:=st
  have hc:c=z∨c=TI∨c=TO∨c=i1∨c=i2:=by simpa using hc
  rcases hc with rfl | rfl | rfl | rfl | rfl
  ·exact ⟨_,s1,fun v y=>by have y':Data.fields _=Data.cell v:=y; cases y'⟩
  ·exact ⟨_,s2,fun v y=>by have y':Data.seq _ _=Data.cell v:=y; cases y'⟩
  ·exact ⟨_,s3,fun v y=>by have y':Data.seq _ _=Data.cell v:=y; cases y'⟩
  ·exact ⟨o4,e4,fun v y=>by rw [d4] at y; cases y⟩
  ·exact ⟨o5,e5,fun v y=>by rw [d5] at y; cases y⟩
 keep:=fun i h h' st k=>by
  obtain ⟨s1,s2,⟨u,v,s3⟩,s4,s5⟩:=st
  exact ⟨k z (by simp) _ s1,k TI (by simp) _ s2,⟨u,v,k TO (by simp) _ s3⟩,s4.at fun o e=>k i1 (by simp) o e,s5.at fun o e=>k i2 (by simp) o e⟩
 item:=by
  intro X hP hw hK hc i pins s σ H E I hf st hg
  subst hP hw hK
  obtain ⟨xs,ys,x,y,hqx,hqy,hx,hy⟩:=hg
  obtain ⟨itx,rvx,px,_⟩:=I.list hqx
  obtain ⟨ity,rvy,py,_⟩:=I.list hqy
  obtain ⟨u,hu,ru⟩:=rvx.get hx
  obtain ⟨v,hv,rv⟩:=rvy.get hy
  obtain ⟨s1,s2,⟨u0,v0,s3⟩,s4,s5⟩:=st
  refine wpAny_pyNext_zip_item D s1 s2 s3 s4 s5 px.isList py.isList (x:=u) (y:=v) (by simpa using hu) (by simpa using hv) fun h' a1 a2 a3 a4 a5 a6 a7=>?_
  refine ⟨.ref s.heap.objs.size,rfl,wpAny_letOwnedTupleGo_zip a1 fun h'' b1 sb=>?_⟩
  have lt:∀ c∈[z,TI,TO,i1,i2],c < s.heap.objs.size:=fun c hc=>by
   obtain ⟨o,e,_⟩:∃ o,s.heap.get? c=some o∧True:=by
    have hc:c=z∨c=TI∨c=TO∨c=i1∨c=i2:=by simpa using hc
    rcases hc with rfl | rfl | rfl | rfl | rfl
    ·exact ⟨_,s1,trivial⟩
    ·exact ⟨_,s2,trivial⟩
    ·exact ⟨_,s3,trivial⟩
    ·obtain ⟨o,e,_⟩:=s4; exact ⟨o,e,trivial⟩
    ·obtain ⟨o,e,_⟩:=s5; exact ⟨o,e,trivial⟩
   exact Heap.lt_size e
  have keepb:∀ c o,c≠z→c≠TO→c≠i1→c≠i2→s.heap.get? c=some o→h''.get? c=some o:=fun c o n1 n2 n3 n4 e=>(sb.2 c n1).trans (a7 c o n1 n2 n3 n4 e)
  have zl:=lt z (by simp)
  have ht'':h''.get? s.heap.objs.size=some { cls:=.type "tuple",data:=.seq #[u,v] }:=(sb.2 _ (Nat.ne_of_gt zl)).trans a5
  have hn:H s.heap.objs.size=none:=I.hok.fresh (Nat.le_refl _)
  have I2:Inv X pins σ (upd H s.heap.objs.size (.tup [x,y])) { s with heap:=h'' }:=by
   have out:∀ c,c ∉ [z,TO,i1,i2]→c≠z∧c≠TO∧c≠i1∧c≠i2:=fun c hc=>by simpa using hc
   refine I.step (g':=s.gens) (d':=s.drawn) (ch:=[z,TO,i1,i2]) (fun c hc=>?_) (fun c o _ _ hc q _=>?_) (fun c o _ _ hc q _=>⟨o.slots,?_⟩) (fun c o _ q n=>by rw [upd_ne (Nat.ne_of_lt (Heap.lt_size q))]; exact n)
    (fun c o hc q=>⟨o,?_⟩) (fun c zs q=>by rw [upd_ne (ne_of_none q hn)]; exact q) (fun c o zs q=>by rw [upd_ne (ne_of_none q hn)]; exact q) (fun c ps q=>⟨#[],by rw [upd_ne (ne_of_none q hn),q]; simp⟩) (fun m hm=>?_) (fun c v' q=>?_) I.bare
   ·have hc:c=z∨c=TO∨c=i1∨c=i2:=by simpa using hc
    have hm:c∈[z,TI,TO,i1,i2]:=by rcases hc with rfl | rfl | rfl | rfl <;> simp
    obtain ⟨f0,f1,f2,f3,f4,f5⟩:=hf c hm
    exact ⟨f3,f1,f4,f5⟩
   ·obtain ⟨n1,n2,n3,n4⟩:=out c hc; exact keepb c o n1 n2 n3 n4 q
   ·obtain ⟨n1,n2,n3,n4⟩:=out c hc; exact keepb c o n1 n2 n3 n4 q
   ·obtain ⟨n1,n2,n3,n4⟩:=out c hc; exact keepb c o n1 n2 n3 n4 q
   ·obtain ⟨o,es,ep,ho,r⟩:=hm
    exact ⟨o,es,ep,keepb _ o (Ne.symm (hf z (by simp)).2.1) (Ne.symm (hf TO (by simp)).2.1) (Ne.symm (hf i1 (by simp)).2.1) (Ne.symm (hf i2 (by simp)).2.1) ho,r⟩
   ·by_cases hb:c=s.heap.objs.size
    ·subst hb
     rw [upd_same] at q
     cases q
     exact ⟨by show 2≤sizeLine; decide,[u,v],.cons ru (.cons rv .nil),⟨_,ht'',rfl,_,rfl⟩⟩
    ·rw [upd_ne hb] at q
     refine (I.hok c v' q).stay (fun e w' he y'=>keepb e w' ?_ ?_ ?_ ?_ y') (fun d y'=>by rw [upd_ne (ne_of_none y' hn)]; exact y') fun d zs y'=>by rw [upd_ne (ne_of_none y' hn)]; exact y'
     all_goals
      rintro rfl
      have hz0:H e=none:=(hf e (by simp)).1
      rcases he with y' | y'
      ·rw [y',q] at hz0; cases hz0
      ·rw [hz0] at y'; cases y'
  refine ⟨.ref s.heap.objs.size,_,I2,rfl,⟨_,x,y,hn,rfl,fun xs' hy'=>by rw [I.list_inj hy' hqx]; exact hx,fun ys' hy'=>by rw [I.list_inj hy' hqy]; exact hy,rfl⟩,
   ⟨b1,(sb.2 TI D.TIz).trans (a7 TI _ D.TIz D.TITO D.TIi1 D.TIi2 s2),⟨u,v,(sb.2 TO D.TOz).trans a2⟩,a3.at fun o e=>(sb.2 i1 D.i1z).trans e,a4.at fun o e=>(sb.2 i2 D.i2z).trans e⟩,fun c hc=>?_⟩
  rw [upd_ne (Nat.ne_of_lt (lt c hc))]
  exact (hf c hc).1
 done:=by
  intro X hP hw hK hc i pins s σ H E I hf st hg
  subst hP hw hK
  obtain ⟨xs,ys,hqx,hqy,hlen⟩:=hg
  obtain ⟨itx,rvx,px,_⟩:=I.list hqx
  obtain ⟨ity,rvy,py,_⟩:=I.list hqy
  obtain ⟨s1,s2,⟨u0,v0,s3⟩,s4,s5⟩:=st
  have l1:=rvx.length
  have l2:=rvy.length
  refine wpAny_pyNext_zip_end (I.ok.hd hc) D s1 s2 s3 s4 s5 px.isList py.isList ?_ fun h' eb=>⟨rfl,?_⟩
  ·rcases hlen with z | z
   ·exact .inl (by simp; omega)
   ·exact .inr (by simp; omega)
  ·have out:∀ c,c ∉ [z,TO,i1,i2]→c≠z∧c≠TO∧c≠i1∧c≠i2:=fun c hc=>by simpa using hc
   refine I.step (g':=s.gens) (d':=s.drawn) (t':=s.toks) (ch:=[z,TO,i1,i2]) (fun c hc=>?_) (fun c o _ _ hc q _=>?_) (fun c o _ _ hc q _=>⟨o.slots,?_⟩) (fun c o _ q n=>n)
    (fun c o hc q=>⟨o,?_⟩) (fun c zs q=>q) (fun c o zs q=>q) (fun c ps q=>⟨#[],by rw [q]; simp⟩) (fun m hm=>?_) (fun c v' q=>?_) I.bare
   ·have hc:c=z∨c=TO∨c=i1∨c=i2:=by simpa using hc
    have hm:c∈[z,TI,TO,i1,i2]:=by rcases hc with rfl | rfl | rfl | rfl <;> simp
    obtain ⟨f0,f1,f2,f3,f4,f5⟩:=hf c hm
    exact ⟨f3,f1,f4,f5⟩
   ·obtain ⟨n1,n2,n3,n4⟩:=out c hc; exact eb c o n1 n2 n3 n4 q
   ·obtain ⟨n1,n2,n3,n4⟩:=out c hc; exact eb c o n1 n2 n3 n4 q
   ·obtain ⟨n1,n2,n3,n4⟩:=out c hc; exact eb c o n1 n2 n3 n4 q
   ·obtain ⟨o,es,ep,ho,r⟩:=hm
    exact ⟨o,es,ep,eb _ o (Ne.symm (hf z (by simp)).2.1) (Ne.symm (hf TO (by simp)).2.1) (Ne.symm (hf i1 (by simp)).2.1) (Ne.symm (hf i2 (by simp)).2.1) ho,r⟩
   ·refine (I.hok c v' q).stay (fun e w' he y'=>eb e w' ?_ ?_ ?_ ?_ y') (fun d y'=>y') fun d zs y'=>y'
    all_goals
     rintro rfl
     have hz0:H e=none:=(hf e (by simp)).1
     rcases he with y' | y'
     ·rw [y',q] at hz0; cases hz0
     ·rw [hz0] at y'; cases y'
 self:=fun _ _ _ _ _ st h=>wpAny_pyIter_zip st.1 h
theorem zip_apart {N a b:Nat} (la:a < N) (lb:b < N):ZipApart (N + 4) (N + 2) (N + 3) N (N + 1) a b:=by
 constructor <;> (intro z; first | exact absurd (show (_:Nat)=_ from z) (by omega) | omega)
variable {X:Cx}
noncomputable def iZip (K:PySem.W.Frag) (ta:TA):TI:=fun σ H R=>ta σ H fun vs H1=>∃ a b xs ys,vs=[.ref a,.ref b]∧SqL K H1 a xs∧SqL K H1 b ys∧R (Itz K a b) H1
theorem pi_zip {elts:List Expr} {x1:Nat} {tpos p pos:Pos} {l m:Expr} {ta:TA} (hg:Gl X "zip") (hm:X.mg "zip"=none) (ha:PA X [l,m] ta) (hs:starEach [l,m] X.env=[(false,eval l X.env),(false,eval m X.env)]:=by rfl) (hs2:starEach [m] X.env=[(false,eval m X.env)]:=by rfl) :
  PI X (.Tuple elts x1 tpos) (.Call (.Name "zip" p) [l,m] [] pos) (iZip X.K ta):=by
 intro pins s σ H R I h
 refine Call_ (ld_blt I hg hm boot_zip (PyProof.Rows.callWith_type1 (thn (ha pos pins s σ H _ I h) fun us s1 ⟨vs,H1,I1,r1,q1⟩=>?_) (by rw [hs,hs2]) (by rw [hs2]; rfl)))
 obtain ⟨a,b,xs,ys,e,hqx,hqy,q⟩:=q1
 subst e
 obtain ⟨u,v,rfl,ru,rv⟩:=r1.two
 cases ru
 cases rv
 obtain ⟨itx,rvx,px,_⟩:=I1.list hqx
 obtain ⟨ity,rvy,py,_⟩:=I1.list hqy
 have la:a < s1.heap.objs.size:=by obtain ⟨o,ho,_⟩:=px.isList; exact Heap.lt_size ho
 have lb:b < s1.heap.objs.size:=by obtain ⟨o,ho,_⟩:=py.isList; exact Heap.lt_size ho
 refine call_zip_2 px.isList py.isList fun h' z1 z2 z3 z4 z5 z6 z7=>wpAny_pyIter_zip z1 ?_
 have I2:Inv X pins σ H1 { s1 with heap:=h' }:=I1.kept (t':=s1.toks) z7
 generalize hN:s1.heap.objs.size=N at *
 refine ⟨N + 4,[N + 4,N + 2,N + 3,N,N + 1],_,_,H1,rfl,I2,turn_zip a b (N + 4) (N + 2) (N + 3) N (N + 1) (zip_apart la lb),⟨z1,z2,⟨_,_,z3⟩,z4,z5⟩,fun c hc=>?_,q⟩
 have hc:s1.heap.objs.size≤c:=by
  have hc:c=N + 4∨c=N + 2∨c=N + 3∨c=N∨c=N + 1:=by simpa using hc
  rw [hN]
  rcases hc with rfl | rfl | rfl | rfl | rfl
  ·exact Nat.le_add_right _ _
  ·exact Nat.le_add_right _ _
  ·exact Nat.le_add_right _ _
  ·exact Nat.le_refl _
  ·exact Nat.le_add_right _ _
 exact I1.fpOk hc (I1.hok.fresh hc)
theorem loop_zip {K:PySem.W.Frag} {a b:Addr} {xs ys:List V} {g:TG} {tt:TT} {tb:TB} {R:St→Hp→Prop} {σ:St} {H:Hp} (hlen:xs.length=ys.length) (Pv:Nat→St→Hp→Prop) (h0:Pv 0 σ H) (hl:∀ i σ H,i≤xs.length→Pv i σ H→SqL K H a xs∧SqL K H b ys)
  (hs:∀ (i:Nat) x y σ H q,xs[i]?=some x→ys[i]?=some y→H q=none→Pv i σ H→g (.ref q) σ (upd H q (.tup [x,y])) fun σ2 H2=>tt σ2 H2 fun b H3=>if b=true then tb σ2 H3 (Pv (i + 1)) else Pv (i + 1) σ2 H3) (hd:∀ σ H,Pv xs.length σ H→R σ H):LoopR (Itz K a b) g tt tb R σ H:=by
 refine ⟨fun i m σ H=>m=xs.length - i∧i≤xs.length∧Pv i σ H,⟨xs.length,by simp,Nat.zero_le _,h0⟩,?_⟩
 rintro i m σ H ⟨rfl,hi,p⟩
 obtain ⟨q1,q2⟩:=hl i σ H hi p
 by_cases hlt:i < xs.length
 ·have hlt2:i < ys.length:=by omega
  refine .inr ⟨⟨xs,ys,xs[i],ys[i],q1,q2,by simp [hlt],by simp [hlt2]⟩,Pv (i + 1),fun σ' H' p'=>⟨xs.length - (i + 1),by omega,rfl,hlt,p'⟩,fun x H' y=>?_⟩
  obtain ⟨c,u,v,hn,e1,y1,y2,e2⟩:=y
  subst e1 e2
  exact hs i u v σ H c (y1 xs q1) (y2 ys q2) hn p
 ·have e:i=xs.length:=by omega
  subst e
  exact .inl ⟨⟨xs,ys,q1,q2,.inl (Nat.le_refl _)⟩,hd σ H p⟩
end
end L2
set_option maxHeartbeats 4000000
namespace L2
open PySem PySem.Spec PyProof.Rows
section
variable {prog:Program} {w:World} {A:Around} {E:Value→Shared→Prop} {s:Shared}
noncomputable abbrev upIt (a n:Int):Obj:={ cls:=.type "range_iterator",data:=.fields #[rawInt (a + (n - 1) * 1),rawInt n,rawInt (-1)] }
theorem fits62 {z:Int} (h1:-(2 ^ 62)≤z) (h2:z < 2 ^ 62):Builtin.Range.rangeFitsLong z=true:=by
 unfold Builtin.Range.rangeFitsLong
 rw [Bool.and_eq_true,decide_eq_true_eq,decide_eq_true_eq]
 omega
theorem rr_meets (r:Addr) (a b:Int) (t u v:Tok) (hs:(Builtin.Range.rangeFitsLong a && Builtin.Range.rangeFitsLong b && Builtin.Range.rangeFitsLong 1 && Builtin.Range.rangeFitsLong (-1) && Builtin.Range.rangeFitsLong (a - 1) && Builtin.Range.rangeFitsLong (Builtin.Range.rangeSize a b 1))=true) :
  Meets (Builtin.«range.__reversed__» ⟨[.ref r],[]⟩) (fun _ R s=>IsRange s.heap r a b 1 t u v∧R (.ok (.ret (.ref s.heap.objs.size))) { s with heap:=s.heap.push (upIt a (Builtin.Range.rangeSize a b 1)) }) :=
 .of_wp fun prog w A R s h=>by
  obtain ⟨hp,g,d,tk,os⟩:=s
  obtain ⟨hl,h⟩:=h
  unfold Builtin.«range.__reversed__»
  refine wpAny_bind (wpAny_of_eq (a:=Value.ref r) rfl ?_)
  refine wpAny_bind (m:=Builtin.Range.rangeFields (.ref r)) ?_
  unfold Builtin.Range.rangeFields
  refine wpAny_bind (wpAny_field hl rfl (x:=.int a t) rfl ?_)
  refine wpAny_bind (wpAny_of_eq (a:=some a) rfl ?_)
  refine wpAny_bind (wpAny_field hl rfl (x:=.int b u) rfl ?_)
  refine wpAny_bind (wpAny_of_eq (a:=some b) rfl ?_)
  refine wpAny_bind (wpAny_field hl rfl (x:=.int 1 v) rfl ?_)
  refine wpAny_bind (wpAny_of_eq (a:=some 1) rfl ?_)
  refine wpAny_pure ?_
  dsimp only
  simp only [hs,Bool.not_true,Bool.false_eq_true,if_false,if_true]
  exact wpAny_bind (wpAny_newObj_type (wpAny_pure ⟨_,rfl,h⟩))
theorem rr_sub:isSubtype (.type "range_iterator") (.type "reversed")=pure false:=by
 rw [isSubtype_type]
 kernel_rfl
theorem rr_code {r:Addr} {a b:Int} {t u v:Tok} {Z:Value→Shared→Prop} (hr:IsRange s.heap r a b 1 t u v)
  (hs:(Builtin.Range.rangeFitsLong a && Builtin.Range.rangeFitsLong b && Builtin.Range.rangeFitsLong 1 && Builtin.Range.rangeFitsLong (-1) && Builtin.Range.rangeFitsLong (a - 1) && Builtin.Range.rangeFitsLong (Builtin.Range.rangeSize a b 1))=true)
  (q:Z (.ref s.heap.objs.size) { s with heap:=s.heap.push (upIt a (Builtin.Range.rangeSize a b 1)) }) :
  codeAny (model prog w) A (.call (.builtin "reversed.__new__") ⟨[.type "reversed",.ref r],[]⟩) (wants Z E) s:=by
 have hT:s.TypeIs (.ref r) "range":=⟨_,hr,rfl⟩
 refine codeAny_of_tree (show wpAny _ A.in1 (checkBuiltinCall "reversed.__new__" ⟨[.type "reversed",.ref r],[]⟩ >>= fun _=>again (.builtin "reversed.__new__" ⟨[.type "reversed",.ref r],[]⟩)) _ _ s from ?_)
 refine wpAny_bind (wpAny_of_eq (PySem.F.newCall_reversed_1 (.ref r)) (wpAny_pure ⟨plainId_quiet PySem.F.plain_reversed_new _,codeAny_builtin PySem.F.entry_reversed_new ?_⟩))
 rw [Around.under_plainId PySem.F.plain_reversed_new _]
 unfold Builtin.«reversed.__new__»
 refine wpAny_bind (wpAny_of_eq (newClass_reversed (.ref r)) ?_)
 refine wpAny_bind (wpAny_of_eq (a:=()) (by first | rfl | kernel_rfl) (wpAny_bind (wpAny_of_eq (a:=()) (by first | rfl | kernel_rfl) ?_)))
 refine wpAny_bind (wpAny_specialOf hT PySem.F.slot_range_reversed.lookup (wpAny_bind (wpAny_of_eq (PySem.F.slot_range_reversed.bind (.ref r)) ?_)))
 have ne:¬ ((Value.builtin "range.__reversed__" == Value.none)=true):=Bool.false_ne_true
 dsimp only
 first | rw [if_neg ne] | (show wpAny _ _ (if (Value.builtin "range.__reversed__" == Value.none)=true then _ else _) _ _ _; rw [if_neg ne])
 refine wpAny_bind (wpAny_rule (wpAny_bind (m:=runValue (.call (.builtin "range.__reversed__") ⟨[.ref r],[]⟩)) ?_))
 show wpAny _ _ (call (.builtin "range.__reversed__") [.ref r]) _ _ _
 refine call_meets PySem.F.slot_range_reversed hT PySem.F.entry_range_reversed (PySem.F.args_range_reversed_1 _) (rr_meets r a b t u v hs) ⟨hr,?_⟩
 first | exact wpAny_pure q | exact wpAny_bind (wpAny_pure (wpAny_pure q))
theorem rr_call {r:Addr} {a b:Int} {t u v:Tok} {Q:Value→Shared→Prop} (hr:IsRange s.heap r a b 1 t u v)
  (hs:(Builtin.Range.rangeFitsLong a && Builtin.Range.rangeFitsLong b && Builtin.Range.rangeFitsLong 1 && Builtin.Range.rangeFitsLong (-1) && Builtin.Range.rangeFitsLong (a - 1) && Builtin.Range.rangeFitsLong (Builtin.Range.rangeSize a b 1))=true)
  (q:Q (.ref s.heap.objs.size) { s with heap:=s.heap.push (upIt a (Builtin.Range.rangeSize a b 1)) }):wpAny (model prog w) A (call (.type "reversed") [.ref r]) Q E s:=by
 refine callType_other (U:="range_iterator") (Q₁:=fun o z=>o=.ref s.heap.objs.size∧z={ s with heap:=s.heap.push (upIt a (Builtin.Range.rangeSize a b 1)) }) (by decide +kernel) PySem.F.create_reversed ⟨_,_,PySem.F.mro_reversed⟩ PySem.F.made_reversed rr_sub (PySem.F.typeCall_reversed_1 _) (rr_code hr hs ⟨rfl,rfl⟩) ?_
 rintro o z ⟨rfl,rfl⟩
 exact ⟨⟨_,Heap.get?_push_size _ rfl,rfl⟩,q⟩
end
section
variable {X:Cx} {tg:Expr}
noncomputable def iRevR (ta:TA):TI:=fun σ H R=>ta σ H fun vs H1=>∃ (i:Int) (n:Nat),vs=[.int i,.int (i + n)]∧0≤i∧i + n≤100000∧R (Itr3 (i + n - 1) (-1) n) H1
theorem pi_revR {a b:Expr} {ta:TA} {p1 p2 pos pos2:Pos} (hgl:Gl X "reversed") (hml:X.mg "reversed"=none) (hg:Gl X "range") (hm:X.mg "range"=none) (ha:PA X [a,b] ta) (hs:starEach [a,b] X.env=[(false,eval a X.env),(false,eval b X.env)]:=by rfl) (hsb:starEach [b] X.env=[(false,eval b X.env)]:=by rfl)
  (hs2:starEach [.Call (.Name "range" p2) [a,b] [] pos2] X.env=[(false,eval (.Call (.Name "range" p2) [a,b] [] pos2) X.env)]:=by rfl):PI X tg (.Call (.Name "reversed" p1) [.Call (.Name "range" p2) [a,b] [] pos2] [] pos) (iRevR ta):=by
 intro pins s σ H R I h
 refine Call_ (ld_blt I hgl hml boot_reversed (PyProof.Rows.callWith_type1 ?_ hs2 rfl))
 rw [hs2]
 refine Calls.spliced_cons ?_
 refine Call_ (ld_blt I hg hm boot_range (PyProof.Rows.callWith_type1 (thn (ha pos2 pins s σ H _ I h) fun us s1 ⟨vs,H1,I1,r1,q1⟩=>?_) (by rw [hs,hsb]) (by rw [hsb]; rfl)))
 obtain ⟨i,n,e,h0,h1,q⟩:=q1
 subst e
 obtain ⟨u,v,rfl,ru,rv⟩:=r1.two
 obtain ⟨t,rfl⟩:=ru
 obtain ⟨t',rfl⟩:=rv
 refine call_range_2 (Calls.spliced_nil ?_)
 have hr:Builtin.Range.rangeSize i (i + n) 1=n:=by rw [rangeSize_one]; split <;> omega
 have fits:(Builtin.Range.rangeFitsLong i && Builtin.Range.rangeFitsLong (i + n) && Builtin.Range.rangeFitsLong 1 && Builtin.Range.rangeFitsLong (-1) && Builtin.Range.rangeFitsLong (i - 1) && Builtin.Range.rangeFitsLong (Builtin.Range.rangeSize i (i + n) 1))=true:=by
  rw [hr,fits62 (by omega) (by omega),fits62 (by omega) (by omega),fits62 (by decide) (by decide),fits62 (by decide) (by decide),fits62 (by omega) (by omega),fits62 (by omega) (by omega)]
  rfl
 refine rr_call (IsRange.new ..) fits ?_
 rw [hr]
 have I2:Inv X pins σ H1 { s1 with heap:=s1.heap.push { cls:=.type "range",data:=.fields #[.int i t,.int (i + n) t',.int 1 s1.toks] },toks:=s1.toks + 1 }:=I1.kept fun b o e=>Heap.get?_push_of_some _ e
 have st:IsRangeIter ((s1.heap.push { cls:=.type "range",data:=.fields #[.int i t,.int (i + n) t',.int 1 s1.toks] }).push (upIt i n)) (s1.heap.push { cls:=.type "range",data:=.fields #[.int i t,.int (i + n) t',.int 1 s1.toks] }).objs.size (i + n - 1 + ((0:Nat):Int) * (-1)) ((n:Int) - ((0:Nat):Int)) (-1):=by
  have e1:i + (n:Int) - 1 + ((0:Nat):Int) * (-1)=i + ((n:Int) - 1) * 1:=by simp; omega
  have e2:(n:Int) - ((0:Nat):Int)=n:=by simp
  rw [e1,e2]
  exact Heap.get?_push_size _ rfl
 refine wpAny_pyIter_rangeiter st ?_
 refine ⟨_,[(s1.heap.push { cls:=.type "range",data:=.fields #[.int i t,.int (i + n) t',.int 1 s1.toks] }).objs.size],_,_,H1,rfl,I2.kept (t':=s1.toks + 1) fun b o e=>Heap.get?_push_of_some _ e,turn_range3 _ (i + n - 1) (-1) n,st,fun b hb=>?_,q⟩
 have e:b=(s1.heap.push { cls:=.type "range",data:=.fields #[.int i t,.int (i + n) t',.int 1 s1.toks] }).objs.size:=by simpa using hb
 subst e
 exact I2.fpOk (Nat.le_refl _) (I2.hok.fresh (Nat.le_refl _))
theorem for_range3 {lo st:Int} {n:Nat} {g:TG} {tb:TS} {D:Ends} {σ:St} {H:Hp} (Pv:Nat→St→Hp→Prop) (h0:Pv 0 σ H)
  (hs:∀ (i:Nat) σ H,i < n→Pv i σ H→g (.int (lo + i * st)) σ H fun σ2 H2=>tb { D with nx:=Pv (i + 1),ct:=Pv (i + 1),bk:=D.nx } σ2 H2) (hd:∀ σ H,Pv n σ H→D.nx σ H) :
  ∃ W:Nat→Nat→St→Hp→Prop,(∃ m,W 0 m σ H)∧∀ i m σ H,W i m σ H →
   ((Itr3 lo st n).stop i H∧D.nx σ H)∨((Itr3 lo st n).go i H∧∃ N:St→Hp→Prop,(∀ σ' H',N σ' H'→∃ m',m' < m∧W (i + 1) m' σ' H')∧∀ x H',(Itr3 lo st n).yld i H x H'→g x σ H' fun σ2 H2=>tb { D with nx:=N,ct:=N,bk:=D.nx } σ2 H2):=by
 refine ⟨fun i m σ H=>m=n - i∧i≤n∧Pv i σ H,⟨n,by simp,Nat.zero_le _,h0⟩,?_⟩
 rintro i m σ H ⟨rfl,hi,p⟩
 by_cases hlt:i < n
 ·refine .inr ⟨hlt,Pv (i + 1),fun σ' H' p'=>⟨n - (i + 1),by omega,rfl,hlt,p'⟩,fun x H' y=>?_⟩
  obtain ⟨e,y⟩:=y
  subst e y
  exact hs i σ _ hlt p
 ·have e:i=n:=by omega
  subst e
  exact .inl ⟨Nat.le_refl _,hd σ H p⟩
theorem pg_tupK {pos:Pos} (K:PySem.W.Frag) {es:List Expr} {k:Nat} {t:TGs} {n:Nat} (hc:X.calm=true) (h:PGs X es t)
  (hn:(assignEach es X.env).length=n:=by rfl) (hst:(assignEach es X.env).findIdx? (·.1)=none:=by rfl) (hk:X.K=K:=by rfl):PG X (.Tuple es k pos) (gTup K n t):=hk ▸ pg_tup hc h hn hst
end
end L2
set_option maxHeartbeats 4000000
namespace KT
open PySem L2
noncomputable def mV:Option Nat→V
 | none=>.non
 | some j=>.int j
structure TD (M:List (Option Nat)) (ns:List Int):Prop where
 n:∃ n,1≤n∧n≤40∧M.length=3 * n
 len:ns.length=M.length
 inv:∀ (i j:Nat),M[i]?=some (some j)→M[j]?=some (some i)∧i≠j
 rng:∀ (i:Nat) x,ns[i]?=some x→0≤x∧x≤9999
 eqv:∀ (i j:Nat) x,ns[i]?=some x→ns[j]?=some x→i=j∨M[i]?=some (some j)
 eqm:∀ (i j:Nat),M[i]?=some (some j)→ns[j]?=ns[i]?
structure SewOk (N:Nat) (F:List Nat) (M:List (Option Nat)):Prop where
 len:M.length=N
 nd:F.Nodup
 free:∀ f∈F,f < N∧M[f]?=some none
 inv:∀ (i j:Nat),M[i]?=some (some j)→M[j]?=some (some i)∧i≠j
theorem SewOk.start (N:Nat):SewOk N (List.range N) (List.replicate N none):=by
 refine ⟨by simp,List.nodup_range,fun f hf=>?_,fun i j h=>?_⟩
 ·have h:=List.mem_range.mp hf
  exact ⟨h,by rw [List.getElem?_replicate,if_pos h]⟩
 ·rw [List.getElem?_replicate] at h
  split at h <;> cases h
theorem SewOk.skip {N:Nat} {one:Nat} {F:List Nat} {M:List (Option Nat)} (h:SewOk N (one :: F) M):SewOk N F M :=
 ⟨h.len,(List.nodup_cons.mp h.nd).2,fun f hf=>h.free f (List.mem_cons_of_mem _ hf),h.inv⟩
theorem SewOk.pair {N:Nat} {one other k:Nat} {F:List Nat} {M:List (Option Nat)} (h:SewOk N (one :: F) M) (hk:F[k]?=some other):SewOk N (F.eraseIdx k) ((M.set one (some other)).set other (some one)):=by
 obtain ⟨n1,n2⟩:=List.nodup_cons.mp h.nd
 have hm:other∈F:=List.mem_of_getElem? hk
 have hne:one≠other:=fun z=>n1 (z ▸ hm)
 obtain ⟨h1,f1⟩:=h.free one List.mem_cons_self
 obtain ⟨h2,f2⟩:=h.free other (List.mem_cons_of_mem _ hm)
 have l1:one < M.length:=by rw [h.len]; exact h1
 have l2:other < M.length:=by rw [h.len]; exact h2
 have g1:((M.set one (some other)).set other (some one))[one]?=some (some other):=by
  rw [List.getElem?_set_ne (Ne.symm hne),List.getElem?_set_self l1]
 have g2:((M.set one (some other)).set other (some one))[other]?=some (some one):=by
  rw [List.getElem?_set_self (by rw [List.length_set]; exact l2)]
 have g3:∀ i,i≠one→i≠other→((M.set one (some other)).set other (some one))[i]?=M[i]?:=fun i a b=>by
  rw [List.getElem?_set_ne (Ne.symm b),List.getElem?_set_ne (Ne.symm a)]
 refine ⟨by rw [List.length_set,List.length_set]; exact h.len,n2.sublist (List.eraseIdx_sublist F k),fun f hf=>?_,fun i j e=>?_⟩
 ·obtain ⟨i,hi,hik,e⟩:=List.mem_eraseIdx_iff_getElem.mp hf
  have fm:f∈F:=e ▸ List.getElem_mem hi
  obtain ⟨a,b⟩:=h.free f (List.mem_cons_of_mem _ fm)
  have c1:f≠one:=fun z=>n1 (z ▸ fm)
  have c2:f≠other:=fun z=>by
   obtain ⟨hk',ek⟩:=List.getElem?_eq_some_iff.mp hk
   exact hik ((List.getElem_inj n2).mp (e.trans (z.trans ek.symm)))
  exact ⟨a,by rw [g3 f c1 c2]; exact b⟩
 ·by_cases c1:i=one
  ·subst c1
   rw [g1] at e
   cases e
   exact ⟨g2,hne⟩
  ·by_cases c2:i=other
   ·subst c2
    rw [g2] at e
    cases e
    exact ⟨g1,Ne.symm hne⟩
   ·rw [g3 i c1 c2] at e
    obtain ⟨a,b⟩:=h.inv i j e
    have d1:j≠one:=fun z=>by rw [z,f1] at a; cases a
    have d2:j≠other:=fun z=>by rw [z,f2] at a; cases a
    exact ⟨by rw [g3 j d1 d2]; exact a,b⟩
noncomputable def nm (s t:Int) (i:Nat):Int:=(s + t * i) % 10000
noncomputable def rep (M:List (Option Nat)) (i:Nat):Nat:=match M[i]? with
 | some (some j)=>if j < i then j else i
 | _=>i
noncomputable def flat (M:List (Option Nat)) (s t:Int):List Int:=(List.range M.length).map fun i=>nm s t (rep M i)
noncomputable def steps:List Int:=[1,3,7,9,37,1009,3333,9999]
theorem nm_d:∀ t∈steps,∀ d:Fin 42,t * ((d.val:Nat):Int) % 10000=0→d.val=0:=by decide +kernel
theorem nm_inj {s t:Int} (ht:t∈steps) {i j:Nat} (hi:i < 42) (hj:j < 42) (h:nm s t i=nm s t j):i=j:=by
  have key:∀ a b:Nat,b≤a→a < 42→nm s t a=nm s t b→a=b:=fun a b hab ha e=>by
    have e2:=Int.emod_eq_emod_iff_emod_sub_eq_zero.mp e
    rw [Int.add_sub_add_left,← Int.mul_sub,← Int.natCast_sub hab] at e2
    have:=nm_d t ht ⟨a - b,Nat.lt_of_le_of_lt (Nat.sub_le _ _) ha⟩ e2
    exact Nat.le_antisymm (Nat.sub_eq_zero_iff_le.mp this) hab
  rcases Nat.le_total i j with h' | h'
  · exact (key j i h' hj h.symm).symm
  · exact key i j h' hi h
theorem rep_lt {M:List (Option Nat)} {i N:Nat} (h:i < N):rep M i < N:=by
 unfold rep
 split
 ·split <;> omega
 ·exact h
theorem rep_cases (M:List (Option Nat)) (i:Nat):rep M i=i∨(∃ j,M[i]?=some (some j)∧j < i∧rep M i=j):=by
 cases e:M[i]? with
 | none=>exact .inl (by unfold rep; rw [e])
 | some o =>
  cases o with
  | none=>exact .inl (by unfold rep; rw [e])
  | some j =>
   by_cases h:j < i
   ·exact .inr ⟨j,rfl,h,by unfold rep; rw [e]; exact if_pos h⟩
   ·exact .inl (by unfold rep; rw [e]; exact if_neg h)
theorem flat_get {M:List (Option Nat)} {s t:Int} {i:Nat} {x:Int} (h:(flat M s t)[i]?=some x):i < M.length∧x=nm s t (rep M i):=by
 unfold flat at h
 rw [List.getElem?_map] at h
 by_cases hi:i < M.length
 ·rw [List.getElem?_range hi] at h
  exact ⟨hi,(Option.some.inj h).symm⟩
 ·rw [List.getElem?_eq_none (by simpa using hi)] at h
  cases h
theorem flat_at {M:List (Option Nat)} {s t:Int} {i:Nat} (hi:i < M.length):(flat M s t)[i]?=some (nm s t (rep M i)):=by
 unfold flat
 rw [List.getElem?_map,List.getElem?_range hi]
 rfl
theorem td_flat {M:List (Option Nat)} {s t:Int} {n:Nat} (h1:1≤n) (h2:n≤14) (hM:M.length=3 * n) (hinv:∀ (i j:Nat),M[i]?=some (some j)→M[j]?=some (some i)∧i≠j) (ht:t∈steps):TD M (flat M s t) where
 n:=⟨n,h1,by omega,hM⟩
 len:=by unfold flat; simp
 inv:=hinv
 rng:=fun i x h=>by
  obtain ⟨_,rfl⟩:=flat_get h
  unfold nm
  omega
 eqv:=fun i j x hi hj=>by
  obtain ⟨li,ei⟩:=flat_get hi
  obtain ⟨lj,ej⟩:=flat_get hj
  have e:rep M i=rep M j:=nm_inj ht (by have:=rep_lt (M:=M) li; omega) (by have:=rep_lt (M:=M) lj; omega) (ei.symm.trans ej)
  rcases rep_cases M i with a | ⟨a,ha,la,ra⟩
  ·rcases rep_cases M j with b | ⟨b,hb,lb,rb⟩
   ·exact .inl (a.symm.trans (e.trans b))
   ·have:b=i:=by rw [← rb,← e,a]
    subst this
    exact .inr (hinv j b hb).1
  ·rcases rep_cases M j with b | ⟨b,hb,lb,rb⟩
   ·have:a=j:=by rw [← ra,e,b]
    subst this
    exact .inr ha
   ·have:a=b:=by rw [← ra,e,rb]
    subst this
    have c1:=(hinv i a ha).1
    have c2:=(hinv j a hb).1
    rw [c1] at c2
    exact .inl (by cases c2; rfl)
 eqm:=fun i j h=>by
  obtain ⟨h',hne⟩:=hinv i j h
  have li:i < M.length:=(List.getElem?_eq_some_iff.mp h).1
  have lj:j < M.length:=(List.getElem?_eq_some_iff.mp h').1
  rw [flat_at li,flat_at lj]
  have e:rep M j=rep M i:=by
   by_cases c:j < i
   ·have a:rep M i=j:=by unfold rep; rw [h]; exact if_pos c
    have b:rep M j=j:=by unfold rep; rw [h']; exact if_neg (by omega)
    rw [a,b]
   ·have a:rep M i=i:=by unfold rep; rw [h]; exact if_neg c
    have b:rep M j=i:=by unfold rep; rw [h']; exact if_pos (by omega)
    rw [a,b]
  rw [e]
end KT
set_option maxHeartbeats 4000000
namespace KT
open PySem L2
noncomputable def pl (ns:List Int) (n:Nat) (x:Int):List Nat:=(List.range n).filter fun i=>decide (ns[i]?=some x)
noncomputable def keys (ns:List Int):Nat→List Int
 | 0=>[]
 | n + 1=>match ns[n]? with
  | some x=>if x∈keys ns n then keys ns n else keys ns n ++ [x]
  | none=>keys ns n
theorem pl_mem {ns:List Int} {n:Nat} {x:Int} {i:Nat}:i∈pl ns n x ↔ i < n∧ns[i]?=some x:=by
 unfold pl
 rw [List.mem_filter,List.mem_range]
 simp
theorem pl_nodup (ns:List Int) (n:Nat) (x:Int):(pl ns n x).Nodup:=(List.nodup_range).sublist List.filter_sublist
theorem pl_sorted (ns:List Int) (n:Nat) (x:Int):(pl ns n x).Pairwise (· < ·):=(List.pairwise_lt_range).sublist List.filter_sublist
theorem pl_same {ns:List Int} {n:Nat} {x:Int} (h:ns[n]?=some x):pl ns (n + 1) x=pl ns n x ++ [n]:=by
 unfold pl
 rw [List.range_succ,List.filter_append]
 congr 1
 simp [h]
theorem pl_other {ns:List Int} {n:Nat} {x:Int} (h:ns[n]?≠some x):pl ns (n + 1) x=pl ns n x:=by
 unfold pl
 rw [List.range_succ,List.filter_append]
 simp [h]
theorem keys_step {ns:List Int} {n:Nat} {x:Int} (h:ns[n]?=some x):keys ns (n + 1)=if x∈keys ns n then keys ns n else keys ns n ++ [x]:=by
 show (match ns[n]? with | some x=>if x∈keys ns n then keys ns n else keys ns n ++ [x] | none=>keys ns n)=_
 rw [h]
theorem keys_mem {ns:List Int}:∀ {n:Nat} {x:Int},x∈keys ns n ↔ ∃ i,i < n∧ns[i]?=some x
 | 0,x=>by simp [keys]
 | n + 1,x=>by
  have ih:=keys_mem (ns:=ns) (n:=n) (x:=x)
  have e:x∈keys ns (n + 1) ↔ x∈keys ns n∨ns[n]?=some x:=by
   cases h:ns[n]? with
   | none =>
    have:keys ns (n + 1)=keys ns n:=by
     show (match ns[n]? with | some x=>if x∈keys ns n then keys ns n else keys ns n ++ [x] | none=>keys ns n)=_
     rw [h]
    rw [this]; simp
   | some y =>
    rw [keys_step h]
    split
    ·constructor
     ·exact .inl
     ·rintro (z | z)
      ·exact z
      ·cases z; assumption
    ·rw [List.mem_append,List.mem_singleton]
     constructor
     ·rintro (z | z)
      ·exact .inl z
      ·exact .inr (by rw [z])
     ·rintro (z | z)
      ·exact .inl z
      ·exact .inr (by cases z; rfl)
  rw [e,ih]
  constructor
  ·rintro (⟨i,h1,h2⟩ | h)
   ·exact ⟨i,by omega,h2⟩
   ·exact ⟨n,by omega,h⟩
  ·rintro ⟨i,h1,h2⟩
   by_cases c:i=n
   ·subst c; exact .inr h2
   ·exact .inl ⟨i,by omega,h2⟩
theorem keys_nodup (ns:List Int):∀ n,(keys ns n).Nodup
 | 0=>List.nodup_nil
 | n + 1=>by
  have ih:=keys_nodup ns n
  cases h:ns[n]? with
  | none =>
   have:keys ns (n + 1)=keys ns n:=by
    show (match ns[n]? with | some x=>if x∈keys ns n then keys ns n else keys ns n ++ [x] | none=>keys ns n)=_
    rw [h]
   rw [this]; exact ih
  | some y =>
   rw [keys_step h]
   split
   ·exact ih
   ·rename_i c
    refine List.nodup_append.mpr ⟨ih,by simp,fun a ha b hb=>?_⟩
    rw [List.mem_singleton] at hb
    subst hb
    rintro rfl
    exact c ha
theorem keys_len (ns:List Int):∀ n,(keys ns n).length≤n
 | 0=>Nat.le_refl _
 | n + 1=>by
  have ih:=keys_len ns n
  cases h:ns[n]? with
  | none =>
   have:keys ns (n + 1)=keys ns n:=by
    show (match ns[n]? with | some x=>if x∈keys ns n then keys ns n else keys ns n ++ [x] | none=>keys ns n)=_
    rw [h]
   rw [this]; omega
  | some y =>
   rw [keys_step h]
   split
   ·omega
   ·rw [List.length_append,List.length_singleton]; omega
theorem pl_nil {ns:List Int} {n:Nat} {x:Int} (h:x ∉ keys ns n):pl ns n x=[]:=by
 cases e:pl ns n x with
 | nil=>rfl
 | cons a r =>
  have:a∈pl ns n x:=by rw [e]; exact List.mem_cons_self
  obtain ⟨h1,h2⟩:=pl_mem.mp this
  exact absurd (keys_mem.mpr ⟨a,h1,h2⟩) h
theorem pl_le2 {M:List (Option Nat)} {ns:List Int} (td:TD M ns) (n:Nat) (x:Int):(pl ns n x).length≤2:=by
 match e:pl ns n x with
 | []=>simp
 | [_]=>simp
 | [_,_]=>simp
 | a :: b :: c :: r =>
  exfalso
  have nd:=pl_nodup ns n x
  rw [e] at nd
  have ha:=(pl_mem.mp (show a∈pl ns n x by rw [e]; simp)).2
  have hb:=(pl_mem.mp (show b∈pl ns n x by rw [e]; simp)).2
  have hc:=(pl_mem.mp (show c∈pl ns n x by rw [e]; simp)).2
  simp only [List.nodup_cons,List.mem_cons,not_or] at nd
  obtain ⟨⟨n1,n2,_⟩,⟨n3,_⟩,_⟩:=nd
  rcases td.eqv a b x ha hb with z | z
  ·exact n1 z
  ·rcases td.eqv a c x ha hc with y | y
   ·exact n2 y
   ·rw [z] at y
    cases y
    exact n3 rfl
theorem pl_cases {M:List (Option Nat)} {ns:List Int} (td:TD M ns) {x:Int} (hx:x∈keys ns ns.length) :
  (∃ a,pl ns ns.length x=[a]∧ns[a]?=some x∧M[a]?=some none)∨(∃ a b,a < b∧pl ns ns.length x=[a,b]∧ns[a]?=some x∧ns[b]?=some x∧M[a]?=some (some b)∧M[b]?=some (some a)):=by
 obtain ⟨i,h1,h2⟩:=keys_mem.mp hx
 have mi:i∈pl ns ns.length x:=pl_mem.mpr ⟨h1,h2⟩
 have l2:=pl_le2 td ns.length x
 have st:=pl_sorted ns ns.length x
 match e:pl ns ns.length x with
 | []=>rw [e] at mi; simp at mi
 | [a] =>
  obtain ⟨ga,ha⟩:=pl_mem.mp (show a∈pl ns ns.length x by rw [e]; simp)
  refine .inl ⟨a,rfl,ha,?_⟩
  have la:a < M.length:=by rw [← td.len]; exact ga
  cases q:M[a]? with
  | none=>rw [List.getElem?_eq_none_iff] at q; omega
  | some o =>
   cases o with
   | none=>rfl
   | some b =>
    exfalso
    have hb:ns[b]?=some x:=by rw [td.eqm a b q]; exact ha
    have mb:b∈pl ns ns.length x:=pl_mem.mpr ⟨(List.getElem?_eq_some_iff.mp hb).1,hb⟩
    rw [e,List.mem_singleton] at mb
    exact (td.inv a b q).2 mb.symm
 | [a,b] =>
  obtain ⟨ga,ha⟩:=pl_mem.mp (show a∈pl ns ns.length x by rw [e]; simp)
  obtain ⟨gb,hb⟩:=pl_mem.mp (show b∈pl ns ns.length x by rw [e]; simp)
  rw [e] at st
  have hab:a < b:=by simpa using st
  rcases td.eqv a b x ha hb with z | z
  ·omega
  ·exact .inr ⟨a,b,hab,rfl,ha,hb,z,(td.inv a b z).1⟩
 | a :: b :: c :: r=>rw [e] at l2; simp at l2
noncomputable def part (M:List (Option Nat)) (ns:List Int) (ks:List Int):List (Option Nat):=(List.range M.length).map fun i=>match ns[i]? with
 | some x=>if x∈ks then M.getD i none else none
 | none=>none
theorem part_len (M:List (Option Nat)) (ns ks:List Int):(part M ns ks).length=M.length:=by unfold part; simp
theorem part_get {M:List (Option Nat)} {ns ks:List Int} (td:TD M ns) {i:Nat} {x:Int} (h:ns[i]?=some x):(part M ns ks)[i]?=some (if x∈ks then M.getD i none else none):=by
 have li:i < M.length:=by rw [← td.len]; exact (List.getElem?_eq_some_iff.mp h).1
 unfold part
 rw [List.getElem?_map,List.getElem?_range li]
 simp [h]
theorem part_nil {M:List (Option Nat)} {ns:List Int} (td:TD M ns):part M ns []=List.replicate M.length none:=by
 apply List.ext_getElem?
 intro i
 by_cases li:i < M.length
 ·obtain ⟨x,hx⟩:∃ x,ns[i]?=some x:=⟨_,List.getElem?_eq_getElem (by rw [td.len]; exact li)⟩
  rw [part_get td hx,List.getElem?_replicate,if_pos li]
  simp
 ·rw [List.getElem?_eq_none (by rw [part_len]; omega),List.getElem?_eq_none (by simp; omega)]
theorem part_all {M:List (Option Nat)} {ns:List Int} (td:TD M ns):part M ns (keys ns ns.length)=M:=by
 apply List.ext_getElem?
 intro i
 by_cases li:i < M.length
 ·have ln:i < ns.length:=by rw [td.len]; exact li
  obtain ⟨x,hx⟩:∃ x,ns[i]?=some x:=⟨_,List.getElem?_eq_getElem ln⟩
  rw [part_get td hx,if_pos (keys_mem.mpr ⟨i,ln,hx⟩),List.getD_eq_getElem?_getD,List.getElem?_eq_getElem li]
  rfl
 ·rw [List.getElem?_eq_none (by rw [part_len]; omega),List.getElem?_eq_none (by omega)]
theorem part_rim {M:List (Option Nat)} {ns ks:List Int} (td:TD M ns) {x:Int} {a:Nat} (hp:pl ns ns.length x=[a]) (hm:M[a]?=some none):part M ns (ks ++ [x])=part M ns ks:=by
 apply List.ext_getElem?
 intro i
 by_cases li:i < M.length
 ·have ln:i < ns.length:=by rw [td.len]; exact li
  obtain ⟨y,hy⟩:∃ x,ns[i]?=some x:=⟨_,List.getElem?_eq_getElem ln⟩
  rw [part_get td hy,part_get td hy]
  by_cases c:y=x
  ·subst c
   have:i∈pl ns ns.length y:=pl_mem.mpr ⟨ln,hy⟩
   rw [hp,List.mem_singleton] at this
   subst this
   have:M.getD i none=none:=by rw [List.getD_eq_getElem?_getD,hm]; rfl
   rw [this]
   simp
  ·simp [c]
 ·rw [List.getElem?_eq_none (by rw [part_len]; omega),List.getElem?_eq_none (by rw [part_len]; omega)]
theorem part_sewn {M:List (Option Nat)} {ns ks:List Int} (td:TD M ns) {x:Int} {a b:Nat} (hp:pl ns ns.length x=[a,b]) (hab:a < b) (ha:M[a]?=some (some b)) (hb:M[b]?=some (some a)) :
  part M ns (ks ++ [x])=((part M ns ks).set a (some b)).set b (some a):=by
 have la:a < M.length:=(List.getElem?_eq_some_iff.mp ha).1
 have lb:b < M.length:=(List.getElem?_eq_some_iff.mp hb).1
 have na:=(pl_mem.mp (show a∈pl ns ns.length x by rw [hp]; simp)).2
 have nb:=(pl_mem.mp (show b∈pl ns ns.length x by rw [hp]; simp)).2
 apply List.ext_getElem?
 intro i
 by_cases li:i < M.length
 ·have ln:i < ns.length:=by rw [td.len]; exact li
  obtain ⟨y,hy⟩:∃ x,ns[i]?=some x:=⟨_,List.getElem?_eq_getElem ln⟩
  rw [part_get td hy]
  by_cases cb:i=b
  ·subst cb
   rw [nb] at hy; cases hy
   rw [List.getElem?_set_self (by rw [List.length_set,part_len]; exact lb),if_pos (by simp),List.getD_eq_getElem?_getD,hb]
   rfl
  ·rw [List.getElem?_set_ne (Ne.symm cb)]
   by_cases ca:i=a
   ·subst ca
    rw [na] at hy; cases hy
    rw [List.getElem?_set_self (by rw [part_len]; exact la),if_pos (by simp),List.getD_eq_getElem?_getD,ha]
    rfl
   ·rw [List.getElem?_set_ne (Ne.symm ca),part_get td hy]
    have:y≠x:=by
     rintro rfl
     have:i∈pl ns ns.length y:=pl_mem.mpr ⟨ln,hy⟩
     rw [hp] at this
     simp at this
     omega
    simp [this]
 ·rw [List.getElem?_eq_none (by rw [part_len]; omega),List.getElem?_eq_none (by rw [List.length_set,List.length_set,part_len]; omega)]
end KT
set_option maxHeartbeats 4000000
namespace KT
open PySem L2
noncomputable def nV (i:Nat):V:=.int (i:Int)
theorem val_map {g:Int→V} {y:Int}:∀ {ks:List Int},valV (ks.map fun x=>((Sum.inl x:Key),g x)) (Sum.inl y)=if y∈ks then some (g y) else none
 | []=>by simp [valV]
 | k :: r=>by
  have ih:=val_map (g:=g) (y:=y) (ks:=r)
  unfold valV at ih ⊢
  rw [List.map_cons,List.find?_cons]
  by_cases c:k=y
  ·subst c
   simp
  ·have:(decide ((Sum.inl k:Key)=Sum.inl y))=false:=by
    rw [decide_eq_false_iff_not]
    intro z
    cases z
    exact c rfl
   simp only [this]
   rw [ih]
   have:(y∈k :: r) ↔ y∈r:=by
    rw [List.mem_cons]
    exact ⟨fun z=>z.elim (fun w=>absurd w.symm c) id,.inr⟩
   simp only [this]
theorem put_new {g:Int→V} {y:Int} {v:V} {ks:List Int} (h:y ∉ ks):putK (ks.map fun x=>((Sum.inl x:Key),g x)) (Sum.inl y) v=(ks.map fun x=>((Sum.inl x:Key),g x)) ++ [(Sum.inl y,v)]:=by
 unfold putK
 rw [if_neg]
 intro z
 rw [List.any_eq_true] at z
 obtain ⟨kv,h1,h2⟩:=z
 obtain ⟨x,hx,rfl⟩:=List.mem_map.mp h1
 have:(Sum.inl x:Key)=Sum.inl y:=of_decide_eq_true h2
 cases this
 exact h hx
theorem put_old {g:Int→V} {y:Int} {v:V} {ks:List Int} (h:y∈ks):putK (ks.map fun x=>((Sum.inl x:Key),g x)) (Sum.inl y) v=ks.map fun x=>((Sum.inl x:Key),if x=y then v else g x):=by
 unfold putK
 rw [if_pos]
 ·rw [List.map_map]
  apply List.map_congr_left
  intro x hx
  show (if (Sum.inl x:Key)=Sum.inl y then ((Sum.inl x:Key),v) else (Sum.inl x,g x))=_
  by_cases c:x=y
  ·subst c; simp
  ·rw [if_neg (fun z=>by cases z; exact c rfl),if_neg c]
 ·rw [List.any_eq_true]
  exact ⟨_,List.mem_map.mpr ⟨y,h,rfl⟩,by simp⟩
theorem map_at {α:Type} {f:α→V} {l:List α} {i:Nat} {x:α} (h:l[i]?=some x):atI (l.map f) (i:Int)=some (f x):=atI_nat (by rw [List.getElem?_map,h]; rfl)
theorem upd_none {H:Hp} {p q:Addr} {o:HO} (h:upd H p o q=none):q≠p∧H q=none:=by
 by_cases c:q=p
 ·subst c; rw [upd_same] at h; cases h
 ·rw [upd_ne c] at h; exact ⟨c,h⟩
end KT
set_option maxHeartbeats 4000000
namespace KT
open PySem L2
noncomputable def after (p:Int):Int:=if p % 3=2 then p - 2 else p + 1
noncomputable def before (p:Int):Int:=if p % 3=0 then p + 2 else p - 1
noncomputable def mvI (left:Bool) (a b:Nat) (z:Int):Int :=
 if z=after a then (if left then before b else before a) else if z=before b then (if left then after b else after a) else if z=after b then (if left then before a else before b) else if z=before a then (if left then after a else after b) else z
theorem after_div (p:Nat):after p / 3=(p:Int) / 3∧after p≠p∧0≤after p:=by unfold after; split <;> omega
theorem before_div (p:Nat):before p / 3=(p:Int) / 3∧before p≠p∧0≤before p:=by unfold before; split <;> omega
end KT
set_option maxHeartbeats 4000000
namespace KT
open PySem L2
noncomputable def mvN (left:Bool) (i j z:Nat):Nat:=(mvI left i j z).toNat
end KT
set_option maxHeartbeats 4000000
namespace KT
open PySem L2
noncomputable def side (p k:Nat):Nat:=p - p % 3 + (p + k) % 3
theorem side_lt {p k n:Nat} (h:p < 3 * n):side p k < 3 * n:=by unfold side; omega
theorem side_div (p k:Nat):side p k / 3=p / 3:=by unfold side; omega
end KT
set_option maxHeartbeats 4000000
namespace KT
open PySem L2
noncomputable def crossB (M:List (Option Nat)) (p:Int):Bool:=decide (0≤p∧p < M.length) && (M.getD p.toNat none).isSome
noncomputable def followB (M:List (Option Nat)) (a p:Int):Bool:=match M.getD a.toNat none with
 | some m=>decide (p / 3=(m:Int) / 3) && !decide (p=(m:Int))
 | none=>false
noncomputable def rot {α:Type} (ws:List α) (s:Nat):List α:=ws.drop s ++ ws.take s
noncomputable def pairB (M:List (Option Nat)) (ws vs:List Int):List Bool:=(ws.zip vs).map fun p=>followB M p.1 p.2
noncomputable def plainB (M:List (Option Nat)) (ws:List Int):Bool:=!ws.isEmpty && ((ws.map (crossB M)).all id && (pairB M ws (rot ws (1 % ws.length))).all id)
theorem rot_len {α:Type} (ws:List α) {s:Nat} (h:s≤ws.length):(rot ws s).length=ws.length:=by
 unfold rot
 rw [List.length_append,List.length_drop,List.length_take]
 omega
theorem rot_get {α:Type} {ws:List α} {s k:Nat} (hs:s < ws.length) (hk:k < ws.length):(rot ws s)[k]?=ws[(k + s) % ws.length]?:=by
 unfold rot
 by_cases c:k < ws.length - s
 ·rw [List.getElem?_append_left (by rw [List.length_drop]; exact c),List.getElem?_drop,Nat.mod_eq_of_lt (by omega),Nat.add_comm]
 ·rw [List.getElem?_append_right (by rw [List.length_drop]; omega),List.length_drop,List.getElem?_take_of_lt (by omega)]
  have:(k + s) % ws.length=k - (ws.length - s):=by
   rw [show k + s=(k - (ws.length - s)) + ws.length by omega,Nat.add_mod_right,Nat.mod_eq_of_lt (by omega)]
  rw [this]
structure Pl (M:List (Option Nat)) (ws:List Nat):Prop where
 ne:ws≠[]
 has:∀ p∈ws,∃ m,M[p]?=some (some m)
 nxt:∀ (k:Nat) (a p:Nat),ws[k]?=some a→ws[(k + 1) % ws.length]?=some p→∀ m,M[a]?=some (some m)→p / 3=m / 3∧p≠m
noncomputable abbrev wI (ws:List Nat):List Int:=ws.map fun (x:Nat)=>(x:Int)
theorem cross_nat {M:List (Option Nat)} {p:Nat}:crossB M (p:Int)=true ↔ ∃ m,M[p]?=some (some m):=by
 unfold crossB
 rw [Bool.and_eq_true,decide_eq_true_eq,Int.toNat_natCast]
 constructor
 ·rintro ⟨⟨_,h1⟩,h2⟩
  have h1:p < M.length:=by omega
  rw [List.getD_eq_getElem?_getD,List.getElem?_eq_getElem h1] at h2
  obtain ⟨m,hm⟩:=Option.isSome_iff_exists.mp h2
  exact ⟨m,by rw [List.getElem?_eq_getElem h1]; exact congrArg some hm⟩
 ·rintro ⟨m,hm⟩
  have h1:p < M.length:=(List.getElem?_eq_some_iff.mp hm).1
  exact ⟨⟨by omega,by omega⟩,by rw [List.getD_eq_getElem?_getD,hm]; rfl⟩
theorem follow_nat {M:List (Option Nat)} {a p m:Nat} (h:M[a]?=some (some m)):followB M (a:Int) (p:Int)=true ↔ p / 3=m / 3∧p≠m:=by
 unfold followB
 rw [Int.toNat_natCast,List.getD_eq_getElem?_getD,h]
 show (decide ((p:Int) / 3=(m:Int) / 3) && !decide ((p:Int)=(m:Int)))=true ↔ _
 rw [Bool.and_eq_true,decide_eq_true_eq,Bool.not_eq_true',decide_eq_false_iff_not]
 omega
theorem zip_all {M:List (Option Nat)} {ws vs:List Int} (hl:ws.length=vs.length):(pairB M ws vs).all id=true ↔ ∀ (k:Nat) (a p:Int),ws[k]?=some a→vs[k]?=some p→followB M a p=true:=by
 unfold pairB
 rw [List.all_eq_true]
 constructor
 ·intro h k a p ha hp
  refine h (followB M a p) (List.mem_map.mpr ⟨(a,p),?_,rfl⟩)
  exact List.mem_of_getElem? (i:=k) (by rw [List.getElem?_zip_eq_some]; exact ⟨ha,hp⟩)
 ·intro h b hb
  obtain ⟨⟨a,p⟩,hm,rfl⟩:=List.mem_map.mp hb
  obtain ⟨k,hk⟩:=List.getElem?_of_mem hm
  rw [List.getElem?_zip_eq_some] at hk
  exact h k a p hk.1 hk.2
theorem plain_iff {M:List (Option Nat)} {ws:List Nat}:plainB M (wI ws)=true ↔ Pl M ws:=by
 have hl:(wI ws).length=ws.length:=by simp
 unfold plainB
 rw [Bool.and_eq_true,Bool.and_eq_true,Bool.not_eq_true',hl]
 constructor
 ·rintro ⟨h0,h1,h2⟩
  have hne:ws≠[]:=by
   rintro rfl
   cases h0
  have hpos:0 < ws.length:=by cases ws with | nil=>exact absurd rfl hne | cons _ _=>simp
  have hh:∀ p∈ws,∃ m,M[p]?=some (some m):=fun p hp=>by
   refine cross_nat.mp (List.all_eq_true.mp h1 _ (List.mem_map.mpr ⟨(p:Int),List.mem_map.mpr ⟨p,hp,rfl⟩,rfl⟩))
  refine ⟨hne,hh,fun k a p ha hp m hm=>?_⟩
  have hs:1 % ws.length < (wI ws).length:=by rw [hl]; exact Nat.mod_lt _ hpos
  have hk:k < (wI ws).length:=by rw [hl]; exact (List.getElem?_eq_some_iff.mp ha).1
  refine (follow_nat hm).mp ((zip_all (by rw [rot_len _ (Nat.le_of_lt hs)])).mp h2 k a p (by rw [List.getElem?_map,ha]; rfl) ?_)
  rw [rot_get hs hk,hl,show (k + 1 % ws.length) % ws.length=(k + 1) % ws.length by rw [Nat.add_mod_mod],List.getElem?_map,hp]
  rfl
 ·rintro ⟨h0,h1,h2⟩
  have hpos:0 < ws.length:=by cases ws with | nil=>exact absurd rfl h0 | cons _ _=>simp
  have hs:1 % ws.length < (wI ws).length:=by rw [hl]; exact Nat.mod_lt _ hpos
  refine ⟨by cases ws with | nil=>exact absurd rfl h0 | cons _ _=>rfl,?_,?_⟩
  ·rw [List.all_eq_true]
   intro b hb
   obtain ⟨p',hp',rfl⟩:=List.mem_map.mp hb
   obtain ⟨p,hp,rfl⟩:=List.mem_map.mp hp'
   exact cross_nat.mpr (h1 p hp)
  ·refine (zip_all (by rw [rot_len _ (Nat.le_of_lt hs)])).mpr fun k a p ha hp=>?_
   have hk:k < (wI ws).length:=(List.getElem?_eq_some_iff.mp ha).1
   rw [rot_get hs hk,hl,show (k + 1 % ws.length) % ws.length=(k + 1) % ws.length by rw [Nat.add_mod_mod]] at hp
   rw [List.getElem?_map] at ha hp
   cases ea:ws[k]? with
   | none=>rw [ea] at ha; cases ha
   | some a' =>
    cases ep:ws[(k + 1) % ws.length]? with
    | none=>rw [ep] at hp; cases hp
    | some p' =>
     rw [ea] at ha; cases ha
     rw [ep] at hp; cases hp
     obtain ⟨m,hm⟩:=h1 a' (List.mem_of_getElem? ea)
     exact (follow_nat hm).mpr (h2 k a' p' ea ep m hm)
structure Ch (M:List (Option Nat)) (row:List Nat):Prop where
 has:∀ p∈row,∃ m,M[p]?=some (some m)
 nxt:∀ (k:Nat) (a p m:Nat),row[k]?=some a→row[k + 1]?=some p→M[a]?=some (some m)→p / 3=m / 3∧p≠m
theorem Ch.one {M:List (Option Nat)} {p m:Nat} (h:M[p]?=some (some m)):Ch M [p]:=by
 refine ⟨fun q hq=>?_,fun k a q m' _ hq=>?_⟩
 ·rw [List.mem_singleton] at hq; subst hq; exact ⟨m,h⟩
 ·simp at hq
theorem Ch.snoc {M:List (Option Nat)} {row:List Nat} {a p m:Nat} (h:Ch M row) (hl:row.getLast?=some a) (hm:M[a]?=some (some m)) (h1:p / 3=m / 3) (h2:p≠m) (hp:∃ q,M[p]?=some (some q)):Ch M (row ++ [p]):=by
 refine ⟨fun q hq=>?_,fun k b q m' hb hq hm'=>?_⟩
 ·rcases List.mem_append.mp hq with z | z
  ·exact h.has q z
  ·rw [List.mem_singleton] at z; subst z; exact hp
 ·by_cases c:k + 1 < row.length
  ·rw [List.getElem?_append_left c] at hq
   rw [List.getElem?_append_left (by omega)] at hb
   exact h.nxt k b q m' hb hq hm'
  ·have hk:k + 1 < (row ++ [p]).length:=(List.getElem?_eq_some_iff.mp hq).1
   rw [List.length_append,List.length_singleton] at hk
   have hk:k + 1=row.length:=by omega
   rw [List.getElem?_append_right (by omega),hk] at hq
   have:q=p:=by simpa using hq.symm
   subst this
   rw [List.getElem?_append_left (by omega)] at hb
   rw [List.getLast?_eq_getElem?,show row.length - 1=k by omega,hb] at hl
   cases hl
   rw [hm] at hm'
   cases hm'
   exact ⟨h1,h2⟩
theorem Ch.cut {M:List (Option Nat)} {row:List Nat} {s e a:Nat} (h:Ch M row) (hse:s < e) (h1:row[s]?=some a) (h2:row[e]?=some a):Pl M ((row.drop s).take (e - s)):=by
 have he:e < row.length:=(List.getElem?_eq_some_iff.mp h2).1
 have hl:((row.drop s).take (e - s)).length=e - s:=by rw [List.length_take,List.length_drop]; omega
 have gt:∀ k,k < e - s→((row.drop s).take (e - s))[k]?=row[s + k]?:=fun k hk=>by rw [List.getElem?_take_of_lt hk,List.getElem?_drop]
 refine ⟨fun z=>by rw [z] at hl; simp at hl; omega,fun p hp=>?_,fun k b p hb hp m hm=>?_⟩
 ·exact h.has p (List.mem_of_mem_drop (List.mem_of_mem_take hp))
 ·rw [hl] at hp
  have hk:k < e - s:=by have:=(List.getElem?_eq_some_iff.mp hb).1; rw [hl] at this; exact this
  rw [gt k hk] at hb
  by_cases c:k + 1 < e - s
  ·rw [Nat.mod_eq_of_lt c,gt _ c] at hp
   exact h.nxt (s + k) b p m hb (by rw [show s + k + 1=s + (k + 1) by omega]; exact hp) hm
  ·have hk:k + 1=e - s:=by omega
   rw [hk,Nat.mod_self,gt 0 (by omega),Nat.add_zero,h1] at hp
   cases hp
   exact h.nxt (s + k) b a m hb (by rw [show s + k + 1=e by omega]; exact h2) hm
end KT
set_option maxHeartbeats 4000000
namespace KT
open PySem L2
end KT
set_option maxHeartbeats 4000000
namespace L2
open PySem PySem.Spec PyProof.Rows
end L2
set_option maxHeartbeats 4000000
namespace L2
open PySem PySem.Spec PyProof.Rows
section
variable {X:Cx}
noncomputable def CDivB (i j:Int):Prop:=0 < j∧j.natAbs.log2 < 9000
theorem op_fdivB:OpR X (binaryOp .FloorDiv) (rI CDivB fun i j=>.int (i / j)):=opI fun i j _ _ _ _ _ hc q=>by
 have h1:(0:Int) < j:=hc.1
 exact floordiv_int (by omega) (by rw [Int.fdiv_eq_ediv_of_nonneg i (by omega)]; exact q) (.inl (PyProof.noPylong_of_log2 hc.2))
theorem op_mulB:OpR X (binaryOp .Mult) (rI IntMulOk fun i j=>.int (i * j)):=opI fun _ _ _ _ _ _ _ hc q=>mul_int q hc
theorem log2_lt {j:Int} {k:Nat} (h:j.natAbs < 2 ^ k) (hk:0 < k):j.natAbs.log2 < k:=by
 by_cases e:j.natAbs=0
 ·rw [e]; simpa using hk
 ·exact (Nat.log2_lt e).mpr h
theorem bits_le {j:Int} {k:Nat} (h:j.natAbs < 2 ^ k) (hk:0 < k):Builtin.Int.intBits j≤k:=by
 unfold Builtin.Int.intBits
 have:=log2_lt h hk
 split
 ·omega
 ·omega
end
end L2
set_option maxHeartbeats 4000000
namespace HL
open PySem PyProof.Rows HT
end HL
set_option maxHeartbeats 4000000
namespace L2
open PySem PySem.Spec PyProof.Rows
end L2
namespace HT
end HT
set_option maxHeartbeats 4000000
namespace L2
open PySem PySem.Spec PyProof.Rows
end L2
set_option maxHeartbeats 4000000
namespace L2
open PySem PySem.Spec PyProof.Rows
section
variable {X:Cx} {pins:List (Addr × Obj)} {σ:St} {H:Hp} {s:Shared} {a:Addr} {y v:V} {u r:Value} {A:Around} {E:Value→Shared→Prop}
theorem d_set {kvs:List (Key × V)} {k:Key} {Q:Unit→Shared→Prop} (I:Inv X pins σ H s) (e:H a=some (.dK kvs)) (l:kvs.length < sizeLine) (ry:RelV (kV k) u) (rv:RelV v r) (h:∀ s',Inv X pins σ (upd H a (.dK (putK kvs k v))) s'→Q () s') :
  wpAny (model X.prog X.w) A (dictSet a u r) Q E s:=by
 obtain ⟨z,hd,vs,rel,dd⟩:=dk_of I.hok e
 have hz:vs.length≤sizeLine:=by rw [← rel.length]; exact z
 have hl:(putK kvs k v).length≤sizeLine:=by have:=length_putK kvs k v; omega
 refine wpAny_dictSet_pairs (hsz:=hz) (kV_is ry) dd fun h' dd' hs=>h _ ?_
 have he:∃ q,h'.get? a=some q:=let ⟨q,_,_,hq,_⟩:=dd'; ⟨q,hq⟩
 exact d_write I (by rw [e]; exact True.intro) hs he (dk_new hl hd (rel.put k rv) dd')
end
noncomputable def tDEmit (tk tv:TE) (D:Addr):TB:=fun σ H N=>tk σ H fun x H1=>tv σ H1 fun v H2=>∃ kvs k,x=kV k∧H2 D=some (.dK kvs)∧kvs.length < sizeLine∧N σ (upd H2 D (.dK (putK kvs k v)))
section
variable {X:Cx}
theorem pb_demit {kx vx:Expr} {tk tv:TE} {D:Addr} {c:Code} {p:Pos} (hk:PE X kx tk) (hv:PE X vx tv) :
  PB X ((eval kx X.env >>= fun kv=>holding [kv] (eval vx X.env) >>= fun vv=>standAt p >>= fun _=>holding [kv,vv] (dictSet D kv vv)) >>= fun _=>again c) c (tDEmit tk tv D):=by
 intro pins s σ H N I h
 refine wpAny_bind (wpAny_bind (thn (hk pins s σ H _ I h) fun u s1 zz35=>?_))
 obtain ⟨x,H1,I1,r1,q1⟩:=zz35
 refine wpAny_bind (wpAny_holding (thn (hv pins s1 σ H1 _ I1 q1) fun w s2 zz36=>?_))
 obtain ⟨v,H2,I2,r2,q2⟩:=zz36
 refine wpAny_bind (wpAny_standAt (wpAny_holding ?_))
 obtain ⟨kvs,k,rfl,hD,hl,q⟩:=q2
 exact d_set I2 hD hl r1 r2 fun s3 I3=>wpAny_pure ⟨rfl,σ,_,I3,q⟩
end
noncomputable def tDComp (ts:List Str) (fv:List (Str × Nat)) (wi:TI) (g:TG) (tt:TT) (tb:Addr→TB):TE:=fun σ H Q=>wi σ H fun J H1=>∀ D,H1 D=none →
 LoopR J g tt (tb D) (fun _ H'=>Q (.ref D) H') (blkS ts fv σ) (upd H1 D (.dK []))
section
variable {X:Cx} {ts:List Str} {fv:List (Str × Nat)} {scope:Scope} {kx vx t0 i0:Expr} {f0:List Expr} {rest:List Comprehension} {pos:Pos} {wi:TI} {g:TG} {tt:TT} {tb:Addr→TB} {kont:Env→Addr→Addr→Sem Fin}
theorem dcomp_core (B:BlkOk X scope fv) (hc:X.calm=true) (hi:PI X t0 i0 wi)
  (hg:∀ C s₀ H₀ ex,PG (blkCx X (blkN ts fv) scope C s₀ H₀ ex) t0 g) (ht:∀ C s₀ H₀ ex,PTs (blkCx X (blkN ts fv) scope C s₀ H₀ ex) f0 tt)
  (heq:∀ (env:Env) (it D:Addr),compTurn (.DictComp kx vx (⟨t0,i0,f0,0⟩ :: rest) scope pos) 0 (.ref it) (.ref D) env=(standAt i0.pos >>= fun _=>pyNext (.ref it) >>= fun r=>match r with
   | none=>pure (.done .next)
   | some v=>letOwnedTupleGo t0 (.ref it) v >>= fun _=>assign t0 env v >>= fun _ =>
    (forIn f0 true fun c r=>if r=true then do let ok ← isTrue c env (eval c env); pure (ForInStep.yield ok) else pure (ForInStep.yield r)) >>= fun ok =>
     if ok=true then kont env it D else again (.compLoop (.DictComp kx vx (⟨t0,i0,f0,0⟩ :: rest) scope pos) 0 (.ref it) (.ref D) env)))
  (hb:∀ C s₀ H₀ ex it D,PB (blkCx X (blkN ts fv) scope C s₀ H₀ ex) (kont (blkCx X (blkN ts fv) scope C s₀ H₀ ex).env it D) (.compLoop (.DictComp kx vx (⟨t0,i0,f0,0⟩ :: rest) scope pos) 0 (.ref it) (.ref D) (blkCx X (blkN ts fv) scope C s₀ H₀ ex).env) (tb D))
  {pins:List (Addr × Obj)} {s:Shared} {σ:St} {H:Hp} {Q:VK} {RR:Value→Addr→Result→Shared→Prop} (I:Inv X pins σ H s) (h:tDComp ts fv wi g tt tb σ H Q)
  (hRR:∀ D C s' H',Inv X pins σ H' s'→H' C=none→X.s₀.heap.objs.size≤C→C≠X.env.locals→(∀ x c,X.env.cells.lookup x=some c→c≠C)→(∀ p∈X.pn ++ pins,p.1≠C)→(∃ m,s'.heap.Ns C m)→Q (.ref D) H'→RR (.ref D) C (.ok .next) s') :
  wpAny (model X.prog X.w) X.A (eval i0 X.env) (fun x s₁=>wpAny (model X.prog X.w) X.A (pyIter x) (fun it s₂=>wpAny (model X.prog X.w) X.A newDict (fun acc s₃ =>
   wpAny (model X.prog X.w) X.A (newFunctionEnv scope X.env.globals (cloList X.env scope.names []) [] X.env.qual none .none (some X.env)) (fun cenv s₄ =>
    codeAny (model X.prog X.w) X.A (.compStart (.DictComp kx vx (⟨t0,i0,f0,0⟩ :: rest) scope pos) 0 it acc { cenv with scope:=relabel scope X.env }) (RR acc cenv.locals) s₄) X.xe s₃) X.xe s₂) X.xe s₁) X.xe s:=by
 refine thn (hi pins s σ H _ I h) fun v s1 h1=>thn h1 fun itv s2 h2=>?_
 obtain ⟨it,fp,tn,J,H2,e,I2,T,st2,f2,L⟩:=h2
 subst e
 have L:=L s2.heap.objs.size I2.fresh
 refine wpAny_newObj_type ?_
 have I3:Inv X pins σ (upd H2 s2.heap.objs.size (.dK [])) { s2 with heap:=s2.heap.push { cls:=.type "dict",data:=.dict #[] },toks:=s2.toks }:=I2.laid (a:=s2.heap.objs.size) (o:=.dK []) (t':=s2.toks) (fun _ _ q=>Heap.get?_push_of_some _ q) (Nat.le_refl _) (dk_empty s2.heap I2.big)
 have ho2:∀ b∈fp,∃ o,s2.heap.get? b=some o∧∀ v,o.data≠.cell v:=T.obj _ _ st2
 have f3:∀ b∈fp,FpOk X pins (upd H2 s2.heap.objs.size (.dK [])) b:=fun b hb=>by
  obtain ⟨o,ho,_⟩:=ho2 b hb
  refine ⟨?_,(f2 b hb).2⟩
  rw [upd_ne (Nat.ne_of_lt (Heap.lt_size ho))]
  exact (f2 b hb).1
 have st3:tn 0 (s2.heap.push { cls:=.type "dict",data:=.dict #[] }):=T.keep _ _ _ st2 fun b _ o e=>Heap.get?_push_of_some _ e
 have ho3:∀ b∈fp,∃ o,(s2.heap.push { cls:=.type "dict",data:=.dict #[] }).get? b=some o:=fun b hb=>let ⟨o,e,_⟩:=ho2 b hb; ⟨o,Heap.get?_push_of_some _ e⟩
 generalize hs3:({ s2 with heap:=s2.heap.push { cls:=.type "dict",data:=.dict #[] },toks:=s2.toks }:Shared)=s3 at I3
 have eh:s2.heap.push { cls:=.type "dict",data:=.dict #[] }=s3.heap:=by rw [← hs3]
 rw [eh] at st3 ho3
 refine wpAny_newFunctionEnv B.nocell (by intro y hy; simp at hy) (fun h₁ hns hsb=>?_) B.kind
 have hk:∀ b o,s3.heap.get? b=some o→h₁.get? b=some o:=fun b o e=>hsb.extBut b o (Nat.ne_of_lt (Heap.lt_size e)) (Heap.get?_push_of_some _ e)
 have I4:=blk_start (ts:=ts) (tk:=s3.toks + ([]:List (Str × Value)).length) B I3 f3 ho3 hns hk
 have f4:∀ b∈fp,FpOk (blkCx X (blkN ts fv) scope s3.heap.objs.size s3 (upd H2 s2.heap.objs.size (.dK [])) fp) [] (upd H2 s2.heap.objs.size (.dK [])) b:=fun b hb=>by
  obtain ⟨f0,f1,f2',f3',f4',f5'⟩:=f3 b hb
  obtain ⟨o,eo⟩:=ho3 b hb
  exact ⟨f0,Nat.ne_of_lt (Heap.lt_size eo),I4.ok.exfs b hb,.inl hb,(I4.ok.exf b hb).2,fun p hp=>absurd (show p∈([]:List (Addr × Obj)) from hp) (by simp)⟩
 have st4:tn 0 h₁:=T.keep _ _ _ st3 fun b _ o e=>hk b o e
 have loop:codeAny (model X.prog X.w) X.A (.compLoop (.DictComp kx vx (⟨t0,i0,f0,0⟩ :: rest) scope pos) 0 (.ref it) (.ref s2.heap.objs.size) (blkCx X (blkN ts fv) scope s3.heap.objs.size s3 (upd H2 s2.heap.objs.size (.dK [])) fp).env)
   (RR (.ref s2.heap.objs.size) s3.heap.objs.size) { s3 with heap:=h₁,toks:=s3.toks + ([]:List (Str × Value)).length }:=by
  refine comp_loop (X:=blkCx X (blkN ts fv) scope s3.heap.objs.size s3 (upd H2 s2.heap.objs.size (.dK [])) fp) (tg:=t0) (ifs:=f0) (R:=fun _ H'=>Q (.ref s2.heap.objs.size) H') rfl rfl rfl rfl (heq _ it s2.heap.objs.size) T hc (hg _ _ _ _) (ht _ _ _ _) (hb _ _ _ _ it s2.heap.objs.size) f4 I4 st4 L fun s' σ' H' J' q=>?_
  obtain ⟨e1,e2,e3,e4,e5,e6⟩:=blk_end I3 f3 (Nat.le_refl _) J'
  obtain ⟨m,hm,_⟩:=J'.loc
  exact hRR _ _ s' H' e1 e2 e3 e4 e5 e6 ⟨m,hm⟩ q
 exact codeAny_compStart_dict loop (T.self _ _ _ _ _ st4 loop)
theorem pe_dcompG (B:BlkOk X scope fv) (hc:X.calm=true) (hi:PI X t0 i0 wi)
  (hg:∀ C s₀ H₀ ex,PG (blkCx X (blkN ts fv) scope C s₀ H₀ ex) t0 g) (ht:∀ C s₀ H₀ ex,PTs (blkCx X (blkN ts fv) scope C s₀ H₀ ex) f0 tt)
  (heq:∀ (env:Env) (it D:Addr),compTurn (.DictComp kx vx (⟨t0,i0,f0,0⟩ :: rest) scope pos) 0 (.ref it) (.ref D) env=(standAt i0.pos >>= fun _=>pyNext (.ref it) >>= fun r=>match r with
   | none=>pure (.done .next)
   | some v=>letOwnedTupleGo t0 (.ref it) v >>= fun _=>assign t0 env v >>= fun _ =>
    (forIn f0 true fun c r=>if r=true then do let ok ← isTrue c env (eval c env); pure (ForInStep.yield ok) else pure (ForInStep.yield r)) >>= fun ok =>
     if ok=true then kont env it D else again (.compLoop (.DictComp kx vx (⟨t0,i0,f0,0⟩ :: rest) scope pos) 0 (.ref it) (.ref D) env)))
  (hb:∀ C s₀ H₀ ex it D,PB (blkCx X (blkN ts fv) scope C s₀ H₀ ex) (kont (blkCx X (blkN ts fv) scope C s₀ H₀ ex).env it D) (.compLoop (.DictComp kx vx (⟨t0,i0,f0,0⟩ :: rest) scope pos) 0 (.ref it) (.ref D) (blkCx X (blkN ts fv) scope C s₀ H₀ ex).env) (tb D))
  (hs:∀ x,foldedSetIterable i0 X.env x=pure x:=by intro _; rfl) :
  PE X (.DictComp kx vx (⟨t0,i0,f0,0⟩ :: rest) scope pos) (tDComp ts fv wi g tt tb):=by
 intro pins s σ H Q I h
 show wpAny _ X.A (comprehension (.DictComp kx vx (⟨t0,i0,f0,0⟩ :: rest) scope pos) scope X.env _ newDict false (eval i0 X.env)) _ _ s
 refine wpAny_comprehension_free (use:=none) rfl hs (closure_run fun y hy e=>I.ok.has y.1 (B.free y hy e)) B.kind B.names ?_
 refine dcomp_core (RR:=fun acc C=>compPost (model X.prog X.w) X.A X.xe none (EP X pins σ Q) acc C) B hc hi hg ht heq hb I h fun D C s' H' I' e2 e3 e4 e5 e6 hm q=>?_
 obtain ⟨m,hm⟩:=hm
 exact ⟨m,hm,fun h' hs'=>⟨.ref D,H',I'.apart hs' e2 e3 e4 e5 e6,rfl,q⟩⟩
end
end L2
set_option maxHeartbeats 4000000
namespace L2
open PySem PySem.Spec PyProof.Rows
section
variable {X:Cx} {pins:List (Addr × Obj)} {σ:St} {H:Hp} {s:Shared} {a:Addr}
theorem Inv.thaw {kvs:List (Key × V)} {ob:Obj} (I:Inv X pins σ H s) (e:H a=some (.frz ob (.dK kvs))) (h0:∀ o u,X.H₀ a≠some (.frz o u)):Inv X pins σ (upd H a (.dK kvs)) s:=by
 have nown:∀ c y,H c=some (.own y)→c≠a:=fun c y r z=>by subst z; rw [r] at e; cases e
 have ntup:∀ c xs,H c=some (.tup xs)→c≠a:=fun c xs r z=>by subst z; rw [r] at e; cases e
 have nnon:∀ c,H c=none→c≠a:=fun c r z=>by subst z; rw [r] at e; cases e
 have hok:HOk X.prog X.w (upd H a (.dK kvs)) s.heap:=fun b v q=>by
  have st:∀ c w',ObjOk X.prog X.w H s.heap c w'→ObjOk X.prog X.w (upd H a (.dK kvs)) s.heap c w':=fun c w' x=>x.stay (fun _ _ _ q=>q) (fun d r=>by rw [upd_ne (nown d c r)]; exact r) fun d xs r=>by rw [upd_ne (ntup d xs r)]; exact r
  by_cases hb:b=a
  ·subst hb
   rw [upd_same] at q
   cases q
   exact st _ _ (I.hok _ _ e).2
  ·rw [upd_ne hb] at q
   exact st _ _ (I.hok b v q)
 refine ⟨I.ok,I.os,I.bare,⟨I.base.keep,I.base.slot,fun b o q n hx=>?_,I.base.there,fun b xs q=>?_,fun b o u q=>?_,fun b ps q=>?_⟩,I.loc,I.cell,?_,fun x c q=>?_,fun p hp=>?_,hok,I.len⟩
 ·have:=I.base.free b o q n hx
  rw [upd_ne (nnon b this)]; exact this
 ·have:=I.base.tups b xs q
  rw [upd_ne (ntup b xs this)]; exact this
 ·have:=I.base.frzs b o u q
  rw [upd_ne (fun z=>by subst z; exact h0 _ _ q)]; exact this
 ·obtain ⟨more,z⟩:=I.base.tbls b ps q
  exact ⟨more,by rw [upd_ne (fun w=>by subst w; rw [z] at e; cases e)]; exact z⟩
 ·have:=I.free
  rw [upd_ne (nnon _ this)]; exact this
 ·have:=I.freeC x c q
  rw [upd_ne (nnon _ this)]; exact this
 ·obtain ⟨q1,q2,q3⟩:=I.pin p hp
  exact ⟨q1,by rw [upd_ne (nnon _ q2)]; exact q2,q3⟩
end
noncomputable def tThaw (H0:Hp) (t:TS):TS:=fun D σ H=>t { D with nx:=fun σ' H'=>∃ (a:Addr) (o:Obj) (kvs:List (Key × V)),H' a=some (.frz o (.dK kvs))∧(∀ o u,H0 a≠some (.frz o u))∧D.nx σ' (upd H' a (.dK kvs)) } σ H
theorem ps_thaw {X:Cx} {st:Stmt} {t:TS} (h:PS X st t):PS X st (tThaw X.H₀ t):=by
 intro pins s σ H D I hw
 refine wpAny_mono (h pins s σ H _ I hw) (fun f s' q=>?_) fun _ _ e=>e
 cases f with
 | next =>
  obtain ⟨σ',H',I',a,o,kvs,e,h0,q⟩:=q
  exact ⟨σ',_,I'.thaw e h0,q⟩
 | ret v=>exact q
 | brk=>exact q
 | cont=>exact q
end L2
set_option maxHeartbeats 4000000
namespace L2
open PySem PySem.Spec PyProof.Rows
section
variable {X:Cx}
theorem strsAre_of {ys:List Str}:∀ {us:List Value},Vals (ys.map V.str) us→StrsAre us ys:=by
 induction ys with
 | nil=>intro us r; rw [List.map_nil] at r; cases r; exact .nil
 | cons y ys ih =>
  intro us r
  rw [List.map_cons] at r
  cases r with
  | cons r1 r2 =>
   obtain ⟨t,e⟩:=r1
   subst e
   exact .cons y t (ih r2)
noncomputable def rJoin (K:PySem.W.Frag):V→List V→Hp→VK→Prop:=fun o xs H Q=>∃ sep p ys,o=.str sep∧xs=[.ref p]∧SqL K H p (List.map V.str ys)∧sep.length≤16∧(ys.map (·.length)).sum + ys.length≤1048576∧Q (.str (Txt.join sep ys)) H
theorem mt_join:MtR X "str.join" (rJoin X.K):=by
 intro pins s σ H x xs v us Q I rx rs h
 obtain ⟨sep,p,ys,rfl,rfl,hq,h1,h2,q⟩:=h
 obtain ⟨t,rfl⟩:=rx
 obtain ⟨u,rfl,ru⟩:=vals1 rs
 cases ru
 obtain ⟨its,rv,pl,_⟩:=I.list hq
 exact join_listW pl.isList (by simpa using strsAre_of rv) h1 h2 fun t' k=>⟨.str _,H,I.tok _,⟨_,rfl⟩,q⟩
end
end L2
namespace L2
open PySem PySem.Spec PyProof.Rows
theorem glue_fold:∀ (l:List Str) (a:Array Nat),(l.foldl (fun acc p=>acc ++ (Str.ofString "").cps ++ p.cps) a).toList=a.toList ++ (l.map fun y=>y.cps.toList).flatten
 | [],a=>by simp
 | y :: r,a=>by
  rw [List.foldl_cons,glue_fold r]
  have:(Str.ofString "").cps=#[]:=by decide +kernel
  rw [this]
  simp
theorem join_cps (ys:List Str):(Txt.join (Str.ofString "") ys).cps.toList=(ys.map fun y=>y.cps.toList).flatten:=by
 unfold Txt.join Builtin.Str.glued
 cases ys with
 | nil=>rfl
 | cons y r =>
  show ((r.foldl (fun acc p=>acc ++ (Str.ofString "").cps ++ p.cps) y.cps)).toList=_
  rw [glue_fold]
  simp
end L2
set_option maxHeartbeats 4000000
namespace KT
open PySem L2
noncomputable def aftN (i:Nat):Nat:=if i % 3=2 then i - 2 else i + 1
theorem aftN_eq (i:Nat):after (i:Int)=(aftN i:Int):=by unfold after aftN; split <;> split <;> omega
noncomputable def nxC (M:List (Option Nat)) (c:Nat):Option Nat:=(M[aftN c]?).join
noncomputable def letS (M:List (Option Nat)) (a p:Nat):Str:=if p=aftN ((M.getD a none).getD 0) then Str.ofString "R" else Str.ofString "L"
noncomputable def letL (M:List (Option Nat)) (ws:List Nat):List Str:=(ws.zip (rot ws (1 % ws.length))).map fun q=>letS M q.1 q.2
end KT
set_option maxHeartbeats 4000000
namespace KT
open PySem L2
noncomputable abbrev sR:Str:=Str.ofString "R"
noncomputable abbrev sL:Str:=Str.ofString "L"
theorem sR_is:sR=⟨#[82]⟩:=by decide +kernel
theorem sL_is:sL=⟨#[76]⟩:=by decide +kernel
noncomputable def isLR (y:Str):Prop:=y=sR∨y=sL
theorem lr_code {y:Str} (h:isLR y):∃ c,y=⟨#[c]⟩∧c < 128:=by
 rcases h with rfl | rfl
 ·exact ⟨82,sR_is,by decide⟩
 ·exact ⟨76,sL_is,by decide⟩
theorem codes:∀ (ys:List Str),(∀ y∈ys,isLR y)→∃ cs:List Nat,(ys.map fun y=>y.cps.toList).flatten=cs∧cs.length=ys.length∧(∀ c∈cs,c < 128)∧∀ (i c:Nat),cs[i]?=some c→ys[i]?=some ⟨#[c]⟩
 | [],_=>⟨[],rfl,rfl,(fun c hc=>absurd hc List.not_mem_nil),fun i c h=>(by simp at h)⟩
 | y :: r,h=>by
  obtain ⟨c,rfl,hc⟩:=lr_code (h y List.mem_cons_self)
  obtain ⟨cs,e,hl,h1,h2⟩:=codes r fun z hz=>h z (List.mem_cons_of_mem _ hz)
  refine ⟨c :: cs,by rw [List.map_cons,List.flatten_cons,e]; rfl,by simp [hl],fun z hz=>?_,fun i z hz=>?_⟩
  ·rcases List.mem_cons.mp hz with rfl | hz
   ·exact hc
   ·exact h1 z hz
  ·cases i with
   | zero=>cases hz; rfl
   | succ i=>exact h2 i z hz
theorem join_walk {ys:List Str} (h:∀ y∈ys,isLR y):(Txt.join (Str.ofString "") ys).cps.all (· < 128)=true∧(Txt.join (Str.ofString "") ys).cps.size=ys.length∧∀ (i c:Nat),(Txt.join (Str.ofString "") ys).cps[i]?=some c→ys[i]?=some ⟨#[c]⟩:=by
 obtain ⟨cs,e,hl,h1,h2⟩:=codes ys h
 have e':(Txt.join (Str.ofString "") ys).cps.toList=cs:=by rw [join_cps,e]
 generalize (Txt.join (Str.ofString "") ys).cps=arr at e'
 subst e'
 refine ⟨?_,by rw [← hl]; simp,fun i c hc=>h2 i c (by simpa using hc)⟩
 rw [← Array.all_toList,List.all_eq_true]
 exact fun c hc=>decide_eq_true (h1 c hc)
section
variable {M:List (Option Nat)} {a:Nat} {ys:List Str}
theorem letL_lr (M:List (Option Nat)) (ws:List Nat):∀ y∈letL M ws,isLR y:=fun y hy=>by
 obtain ⟨q,_,rfl⟩:=List.mem_map.mp hy
 unfold letS
 split
 ·exact .inl rfl
 ·exact .inr rfl
theorem letL_len (M:List (Option Nat)) (ws:List Nat) (h:0 < ws.length):(letL M ws).length=ws.length:=by
 unfold letL
 rw [List.length_map,List.length_zip,rot_len _ (Nat.le_of_lt (Nat.mod_lt _ h)),Nat.min_self]
end
end KT
set_option maxHeartbeats 4000000
namespace L2
open PySem PySem.Spec PyProof.Rows
section
variable {X:Cx} {xl:Value→Shared→Prop} {R0:Value→St→Hp→Prop}
theorem thnF {α:Type} {m:Sem α} {Q Q':α→Shared→Prop} {s:Shared} (hx:X.xe=(fun _ _=>False)) (h:wpAny (model X.prog X.w) X.A m Q X.xe s) (k:∀ a s1,Q a s1→Q' a s1):wpAny (model X.prog X.w) X.A m Q' xl s:=by
 rw [hx] at h
 exact wpAny_mono h k fun _ _ z=>z.elim
end
end L2
set_option maxHeartbeats 4000000
namespace L2
open PySem PySem.Spec PyProof.Rows
end L2
set_option maxHeartbeats 4000000
namespace L2
open PySem PySem.Spec PyProof.Rows PySem.SeqAt
end L2
set_option maxHeartbeats 4000000
namespace KT
open PySem L2
end KT
set_option maxHeartbeats 4000000
namespace KT
open PySem L2
end KT
set_option maxHeartbeats 4000000
namespace KT
open PySem L2
end KT
set_option maxHeartbeats 4000000
namespace KT
open PySem L2
end KT
set_option maxHeartbeats 4000000
namespace KT
open PySem L2
end KT
set_option maxHeartbeats 4000000
namespace KT
open PySem L2
end KT
set_option maxHeartbeats 4000000
namespace KT
open PySem L2
end KT
set_option maxHeartbeats 4000000
namespace KT
open PySem L2
structure Mv (M:List (Option Nat)) (ns:List Int) (x:Int) (a b:Nat):Prop where
 hM:M[a]?=some (some b)
 lt:a < b
 nm:ns[a]?=some x
 ab:a / 3≠b / 3
section
variable {M M':List (Option Nat)} {ns ns':List Int} {ws ws':List Nat} {mv:List (Int × Bool)} {x:Int} {left:Bool} {a b:Nat}
theorem Mv.lts (h:Mv M ns x a b) (td:TD M ns):a < M.length∧b < M.length:=⟨(List.getElem?_eq_some_iff.mp h.hM).1,(List.getElem?_eq_some_iff.mp (td.inv a b h.hM).1).1⟩
end
end KT
set_option maxHeartbeats 4000000
namespace KT
open PySem L2
end KT
set_option maxHeartbeats 4000000
namespace L2
open PySem PySem.Spec PyProof.Rows PySem.SeqAt
section
variable {X:Cx}
theorem call_dictD:CallR X (.type "dict") (fun xs H Q=>∃ (d:Addr) (kvs:List (Key × V)),xs=[.ref d]∧Rd H d (.dK kvs)∧∀ p,H p=none→Q (.ref p) (upd H p (.dK kvs))):=by
 intro pins s σ H xs us Q I r h
 obtain ⟨d,kvs,rfl,hd,q⟩:=h
 obtain ⟨u,rfl,ru⟩:=vals1 r
 obtain rfl:u=Value.ref d:=ru
 obtain ⟨z,hsys,vs,rel,dd⟩:=dk_rd I.hok hd
 have hl:vs.length≤sizeLine:=by rw [← rel.length]; exact z
 refine kt_call_dict hsys dd hl fun h' hD hsb=>?_
 have hk:∀ b u,s.heap.get? b=some u→h'.get? b=some u:=fun b u e=>(hsb.2 b (Nat.ne_of_lt (Heap.lt_size e))).trans (Heap.get?_push_of_some _ e)
 refine ⟨.ref s.heap.objs.size,_,I.laid (a:=s.heap.objs.size) (o:=.dK kvs) (t':=s.toks) hk (Nat.le_refl _) ⟨z,?_,vs,rel,hD⟩,rfl,q _ (I.hok.fresh (Nat.le_refl _))⟩
 exact (dk_empty (P:=X.prog) (w:=X.w) (H:=H) s.heap I.big).2.1
theorem ip_mulB:PIp X .Mult (fun x y H Q=>∃ i j,x=.int i∧y=.int j∧IntMulOk i j∧Q (.int (i * j)) H):=by
 intro pins s σ H x y v u Q I r1 r2 h
 obtain ⟨i,j,e1,e2,hc,q⟩:=h
 subst e1; subst e2
 obtain ⟨t,rfl⟩:=r1
 obtain ⟨t',rfl⟩:=r2
 exact imul_int ⟨.int _,H,I.tok _,⟨_,rfl⟩,q⟩ hc
end
end L2
set_option maxHeartbeats 4000000
namespace L2
open PySem PySem.Spec PyProof.Rows
noncomputable def FlyA (e T:Addr) (cls a0 fl:Value) (h:Heap):Prop :=
 ∃ oe vs oT ts,h.get? e=some oe∧(oe.cls=cls∧vs[0]?=some a0)∧oe.data=.fields vs∧vs[1]?=some (.ref T)∧T≠e∧h.get? T=some oT∧oT.data=.fields ts∧ts[3]?=some fl
noncomputable def XB (X:Cx) (pins:List (Addr × Obj)) (E:XK) (ev:Value) (s':Shared):Prop :=
 ∃ (e T:Addr) (cls a0:Value) (σ':St) (H':Hp),ev=.ref e∧Inv X pins σ' H' s'∧FlyT e T cls a0 s'.heap∧FxOk X pins H' e∧FxOk X pins H' T∧E cls none H'
noncomputable def XA (X:Cx) (pins:List (Addr × Obj)) (E:XK) (ev:Value) (s':Shared):Prop :=
 ∃ (e T:Addr) (cls a0 fl:Value) (σ':St) (H':Hp),ev=.ref e∧Inv X pins σ' H' s'∧FlyA e T cls a0 fl s'.heap∧FxOk X pins H' e∧FxOk X pins H' T∧E cls none H'
noncomputable def Held (X:Cx) (pins:List (Addr × Obj)):Prop:=∀ b∈X.ex,∃ o,(b,o)∈pins
noncomputable def PEC (X:Cx) (e:Expr) (t:TEX):Prop :=
 ∀ (pins:List (Addr × Obj)) (s:Shared) (σ:St) (H:Hp) (Q:VK) (E:XK),Held X pins→Inv X pins σ H s→t σ H Q E→wpAny (model X.prog X.w) X.A (eval e X.env) (EP X pins σ Q) (XB X pins E) s
section
variable {X:Cx} {pins:List (Addr × Obj)} {σ:St} {H:Hp} {s:Shared}
theorem Inv.fxB (I:Inv X pins σ H s) (hp:Held X pins) {b:Addr} (hb:s.heap.get? b=none):FxOk X pins H b:=by
 refine ⟨I.untr hb,fun z=>?_,fun z=>?_,?_,fun x c e z=>?_,fun p hp z=>?_⟩
 ·obtain ⟨m,⟨o,_,_,ho,_⟩,_⟩:=I.loc
  rw [z,ho] at hb; cases hb
 ·obtain ⟨_,o,ho,_⟩:=I.funs.mem z
  rw [ho] at hb; cases hb
 ·cases q:X.s₀.heap.get? b with
  | none=>rfl
  | some o =>
   exfalso
   by_cases hbx:b∈X.ex
   ·obtain ⟨o2,h2⟩:=hp b hbx
    have:=(I.pin (b,o2) (List.mem_append_right _ h2)).1
    rw [hb] at this; cases this
   ·obtain ⟨o',e'⟩:=I.base.there b o q hbx
    rw [hb] at e'; cases e'
 ·obtain ⟨v,o,ho,_⟩:=I.cell x c e
  rw [z,hb] at ho; cases ho
 ·have:=(I.pin p hp).1
  rw [z,hb] at this; cases this
theorem fx_at {H':Hp} {b:Addr} (h:FxOk X pins H b) (hn:H' b=none):FxOk X pins H' b:=⟨hn,h.nl,h.nf,h.n0,h.nc,h.np⟩
theorem Inv.cxb {s':Shared} {E:XK} {ev:Value} (I:Inv X pins σ H s) (hp:Held X pins) (h:CXr X.prog X.w X.stack H s E ev s'):XB X pins E ev s':=by
 obtain ⟨e,T,cls,a0,H',rfl,os,bare,un,hok,ne,nT,he,hT,fl,q⟩:=h
 have I':Inv X pins σ H' s':=I.call' os un hok bare fun b hb=>absurd hb (by simp)
 exact ⟨e,T,cls,a0,σ,H',rfl,I',fl,fx_at (I.fxB hp ne) he,fx_at (I.fxB hp nT) hT,q⟩
variable {k:Nat} {f C:Addr} {fd:FuncData} {ps:List Str} {sp:Sp} {dvs:List V} {ds:List Value} {x m:Str} {p pos apos:Pos} {e o:Expr} {es:List Expr} {ta:TE} {t:TA}
theorem pec_call (F:FnOk X.prog X.w X.K X.mg X.base (CXr X.prog X.w) k f fd ps sp) (hr:Room k X.A) (hg:Gl X x) (hm:X.mg x=some (.ref f)) (hk:PySem.W.keepIn X.K (.ref f)=true) (hb:Binds X.K fd ps ds) (hd:Vals dvs ds)
  (ha:PA X (e :: es) t) (hx:X.xe=(fun _ _=>False):=by rfl) (hdb:(x == ("__debug__":Str))=false:=by decide) (he:starEach (e :: es) X.env=(false,eval e X.env) :: starEach es X.env:=by rfl) (hpl:(backTo pos (starEach es X.env)).any (·.1)=false:=by rfl) :
  PEC X (.Call (.Name x p) (e :: es) [] pos) (tCallX sp dvs t):=by
 intro pins s σ H Q E hp I h
 have h0:=ha pos pins s σ H _ I h
 rw [hx] at h0
 refine wpAny_Call_Name_kw (ld_glob I hg hm ?_ hdb)
 refine PySem.W.callWith_K (h₀:=X.base) I.ok.mod.kin hk (wpAny_mono h0 (fun us s1 zz37=>?_) fun _ _ z=>z.elim) he hpl
 obtain ⟨vs,H1,I1,r,q⟩:=zz37
 refine ⟨I1.kIn,?_⟩
 have r2:Vals (vs ++ dvs) (us ++ ds):=r.append hd
 have hl:(us ++ ds).length=ps.length:=by rw [← r2.length]; exact F.len _ _ _ _ q
 refine wpAny_call (codeAny_mono (F.run X.A X.stack s1 H1 ⟨us,[]⟩ (us ++ ds) (vs ++ dvs) Q E hr I1.env0 (hb s1 us I1.kIn hl) r2 q) fun r s' hq=>?_)
 cases r with
 | error e=>exact I1.cxb hp hq
 | ok fl =>
  cases fl with
  | ret u=>exact I1.after hq
  | next=>exact False.elim hq
  | brk=>exact False.elim hq
  | cont=>exact False.elim hq
end
noncomputable abbrev TBX:=St→Hp→(St→Hp→Prop)→XK→Prop
noncomputable def PBX (X:Cx) (kont:Sem Fin) (c:Code) (t:TBX):Prop :=
 ∀ (pins:List (Addr × Obj)) (s:Shared) (σ:St) (H:Hp) (N:St→Hp→Prop) (E:XK),Held X pins→Inv X pins σ H s→t σ H N E →
  wpAny (model X.prog X.w) X.A kont (fun fin s'=>fin=.again c∧∃ σ' H',Inv X pins σ' H' s'∧N σ' H') (XB X pins E) s
section
variable {X:Cx}
theorem comp_loopX {e tg:Expr} {d:Nat} {acc:Value} {ifs:List Expr} {kont:Sem Fin} {J:It} {fp:List Addr} {it:Addr} {tn:Nat→Heap→Prop} {g:TG} {tt:TT} {tb:TBX} {p:Pos} {s:Shared} {σ:St} {H:Hp} {R:St→Hp→Prop} {E:XK}
  {RR:Result→Shared→Prop} (hxe:X.xe=fun _ _=>False) (hex:X.ex=fp)
  (hcq:Code.quiet (.compLoop e d (.ref it) acc X.env)=true) (hden:(model X.prog X.w).den (.compLoop e d (.ref it) acc X.env)=(compTurn e d (.ref it) acc X.env).onRaise (fun x=>do noteFrame x X.env; theTreesLotGoes x))
  (hund:X.A.under (.compLoop e d (.ref it) acc X.env)=X.A)
  (heq:compTurn e d (.ref it) acc X.env=(standAt p >>= fun _=>pyNext (.ref it) >>= fun r=>match r with
   | none=>pure (.done .next)
   | some v=>letOwnedTupleGo tg (.ref it) v >>= fun _=>assign tg X.env v >>= fun _ =>
    (forIn ifs true fun c r=>if r=true then do let ok ← isTrue c X.env (eval c X.env); pure (ForInStep.yield ok) else pure (ForInStep.yield r)) >>= fun ok =>
     if ok=true then kont else again (.compLoop e d (.ref it) acc X.env)))
  (T:Turn X.prog X.w X.K tg J fp it tn) (hc:X.calm=true) (hg:PG X tg g) (ht:PTs X ifs tt) (hb:PBX X kont (.compLoop e d (.ref it) acc X.env) tb)
  (hf:∀ b∈fp,FpOk X [] H b) (I:Inv X [] σ H s) (st:tn 0 s.heap) (h:LoopR J g tt (fun σ H N=>tb σ H N E) R σ H)
  (hR:∀ s' σ' H',Inv X [] σ' H' s'→R σ' H'→RR (.ok .next) s')
  (hX:∀ pins ev s',XB X pins E ev s'→notedBy (model X.prog X.w) X.A X.env (fun x s'=>RR (.error x) s') ev s') :
  codeAny (model X.prog X.w) X.A (.compLoop e d (.ref it) acc X.env) RR s:=by
 obtain ⟨W,⟨m0,w0⟩,turn⟩:=h
 have stat:∀ {H':Hp},(∀ b∈fp,H' b=none)→∀ b∈fp,FpOk X [] H' b:=fun hn b hb=>⟨hn b hb,(hf b hb).2⟩
 refine codeAny_loop hcq (fun n s'=>∃ i σ' H',Inv X [] σ' H' s'∧tn i s'.heap∧(∀ b∈fp,H' b=none)∧W i n σ' H') ?_ m0 ⟨0,σ,H,I,st,fun b hb=>(hf b hb).1,w0⟩
 rintro n s3 ⟨i,σ3,H3,I3,st3,fr3,w3⟩
 rw [hden,hund]
 refine wpAny_noted ?_
 rw [heq]
 refine wpAny_bind (wpAny_standAt (wpAny_bind ?_))
 rcases turn i n σ3 H3 w3 with ⟨stop,qn⟩ | ⟨go,N,hN,step⟩
 ·refine thn (T.done X rfl rfl rfl hc i [] s3 σ3 H3 _ I3 (stat fr3) st3 stop) fun r s4 ⟨hr,I4⟩=>?_
  subst hr
  exact wpAny_pure (hR s4 σ3 H3 I4 qn)
 ·refine thn (T.item X rfl rfl rfl hc i [] s3 σ3 H3 _ I3 (stat fr3) st3 go) fun r s4 ⟨u,hr,h4⟩=>?_
  subst hr
  refine wpAny_bind (thn h4 fun _ s5 zz9=>?_)
  obtain ⟨x,H5,I5,r5,y5,st5,fr5⟩:=zz9
  have I5':=I5.pinned (stat fr5) (T.obj _ _ st5)
  refine wpAny_bind (thnF hxe (hg _ s5 σ3 H5 x u _ I5' r5 (step x H5 y5)) fun _ s6 zz9=>?_)
  obtain ⟨σ6,H6,I6,q6⟩:=zz9
  refine wpAny_bind (thnF hxe (ht _ s6 σ6 H6 _ I6 q6) fun ok s7 zz9=>?_)
  obtain ⟨H7,I7,q7⟩:=zz9
  have back:∀ {σ7:St} {H7:Hp} {s7:Shared},Inv X ([] ++ pinsAt fp s5.heap) σ7 H7 s7→N σ7 H7→∃ m,m < n∧∃ i σ' H',Inv X [] σ' H' s7∧tn i s7.heap∧(∀ b∈fp,H' b=none)∧W i m σ' H':=fun {σ7 H7 s7} I7 n7=>by
   obtain ⟨m',hm,w7⟩:=hN σ7 H7 n7
   refine ⟨m',hm,i + 1,σ7,H7,I7.unpinned,T.keep _ _ _ st5 fun b hb o e=>(I7.pin (b,o) (List.mem_append_right _ (List.mem_append_right _ (mem_pinsAt hb e)))).1,fun b hb=>?_,w7⟩
   obtain ⟨o,e,d⟩:=T.obj _ _ st5 b hb
   exact (I7.pin (b,o) (List.mem_append_right _ (List.mem_append_right _ (mem_pinsAt hb e)))).2.1
  cases ok with
  | false=>exact wpAny_pure ⟨rfl,back I7 q7⟩
  | true =>
   have hp:Held X ([] ++ pinsAt fp s5.heap):=fun b hb=>by
    rw [hex] at hb
    obtain ⟨o,e,d⟩:=T.obj _ _ st5 b hb
    exact ⟨o,List.mem_append_right _ (mem_pinsAt hb e)⟩
   refine wpAny_mono (hb _ s7 σ6 H7 N E hp I7 q7) (fun fin s8 zz38=>?_) fun ev s8 z=>hX _ ev s8 z
   obtain ⟨hfin,σ8,H8,I8,q8⟩:=zz38
   subst hfin
   exact ⟨rfl,back I8 q8⟩
end
section
variable {X:Cx} {pins:List (Addr × Obj)} {σ:St} {H:Hp} {s:Shared}
theorem passed {e T:Addr} {cls a0 fl:Value} {E:XK} {what:String} {cenv:Env} {Q:Value→Shared→Prop} (I:Inv X pins σ H s) (hex:X.ex=[]) (hx:FlyA e T cls a0 fl s.heap) (fe:FxOk X pins H e) (fT:FxOk X pins H T) (q:E cls none H) :
  wpAny (model X.prog X.w) X.A (PySem.passOn what (.ref e) cenv:Sem Value) Q (XA X pins E) s:=by
 obtain ⟨oe,vs,oT,ts,he,⟨hcls,h0⟩,hd,h1,hTe,hT,hdT,h3⟩:=hx
 have hsz3:3 < ts.size:=(Array.getElem?_eq_some_iff.mp h3).1
 unfold PySem.passOn
 refine wpAny_bind (wpAny_field he hd h1 ?_)
 rw [if_neg (show ¬ (Value.ref T == Value.none)=true from by simp)]
 refine wpAny_bind ?_
 unfold setFlight
 refine wpAny_bind (wpAny_field he hd h1 ?_)
 rw [if_pos (show (Value.ref T != Value.none)=true from by simp)]
 refine wpAny_setField hT hdT hsz3 (wpAny_throw ?_)
 generalize (cenv.frame.elim Value.none fun f=>rawInt f)=fl'
 have other:∀ b,b≠T→(s.heap.update T (Obj.mapFields (·.setIfInBounds 3 fl'))).get? b=s.heap.get? b:=fun b hb=>Heap.get?_update_other _ _ (Ne.symm hb)
 refine ⟨e,T,cls,a0,fl',σ,H,rfl,I.exc hex fe fT (fun b o n1 n2 n3 z=>(other b n2).trans z) (fun b o hb z=>⟨o.slots,?_⟩),?_,fe,fT,q⟩
 ·refine (other b fun z2=>?_).trans z
  rw [z2] at hb z
  exact I.fnd hb z ts (by rw [hT] at z; cases z; exact hdT)
 ·exact ⟨oe,vs,_,_,(other e (Ne.symm hTe)).trans he,⟨hcls,h0⟩,hd,h1,hTe,Heap.get?_update_self _ hT (Obj.isFreed_of_fields (Obj.data_mapFields hdT _)),Obj.data_mapFields hdT _,by simp [hsz3]⟩
theorem noted_out {scope:Scope} {N':List Str} {fp:List Addr} {C:Addr} {pb:List (Addr × Obj)} {E:XK} {ev:Value} {s':Shared} {Q:Value→Shared→Prop} (acc:Value) (I:Inv X pins σ H s) (hex:X.ex=[]) (hstk:∃ o,X.stack=X.env :: o) (hfr:X.env.frame=some X.env.locals)
  (hf:∀ b∈fp,FpOk X pins H b) (hC:s.heap.objs.size≤C) (h:XB (blkCx X N' scope C s H fp) pb E ev s') :
  notedBy (model X.prog X.w) X.A (blkCx X N' scope C s H fp).env (fun x s'=>compPost (model X.prog X.w) X.A (XA X pins E) none Q acc C (.error x) s') ev s':=by
 obtain ⟨e,T,cls,a0,σ',H',rfl,J,hx,fe,fT,q⟩:=h
 obtain ⟨I5,c1,c2,c3,c4,c5⟩:=blk_end I hf hC (J.pins_of (pins':=[]) fun p hp=>absurd hp (by simp))
 have ge:FxOk X pins H' e:=fx_at (I.fxOk hex fe.n0) fe.nt
 have gT:FxOk X pins H' T:=fx_at (I.fxOk hex fT.n0) fT.nt
 obtain ⟨outer,hstk⟩:=hstk
 have hf1:=fly_of I5 hx
 have hA:X.A.frames=some (X.env :: outer):=by rw [I.ok.frames,hstk]
 have hf1':Heap.FlyingW (PySem.W.hideAll s'.heap (e :: T :: frs X.stack)) (X.env :: outer) e cls a0 s'.heap:=by
  have:=hf1
  generalize PySem.W.hideAll s'.heap (e :: T :: frs X.stack)=B at this ⊢
  rw [hstk] at this
  exact this
 show wpAny (model X.prog X.w) X.A (noteFrame (.ref e) X.env) _ _ s'
 refine wpAny_looks_onW hA hfr hf1' fun h₄ hheld hsm=>?_
 have I6:Inv X pins σ H' { s' with heap:=h₄ }:=I5.flown hex ge gT hheld.1 hsm
 obtain ⟨_,_,_,oe,vs,T',oT,ts,x1,x2,x3,x4,x5,x6,x7,x8,x9⟩:=hheld
 have gT':FxOk X pins H' T':=by
  by_cases hz:s'.heap.get? T'=none
  ·exact I5.fxOk hex hz
  ·obtain ⟨o,ho⟩:=Option.ne_none_iff_exists'.mp hz
   by_cases h1:T'=T
   ·rw [h1]; exact gT
   ·exfalso
    by_cases h2:T'∈frs X.stack
    ·obtain ⟨sl,e'⟩:=hsm T' o ho (I5.fnd h2 ho)
     rw [x7] at e'
     cases e'
     exact I5.fnd h2 ho ts x8
    ·have:=PySem.W.hideAll_get (e :: T :: frs X.stack) ho (fun z=>by
      rcases List.mem_cons.mp z with z | z
      ·exact x6 z
      ·rcases List.mem_cons.mp z with z | z
       ·exact h1 z
       ·exact h2 z)
     rw [x5] at this; cases this
 obtain ⟨m,⟨o,es,ep,ho,hd,r⟩,_⟩:=J.loc
 obtain ⟨sl,e1⟩:=hsm C o ho (fun vs z=>by rw [hd] at z; cases z)
 refine ⟨m,⟨_,es,ep,e1,hd,r⟩,fun h' hs' cenv _=>?_⟩
 have I7:Inv X pins σ H' { s' with heap:=h' }:=I6.apart hs' c1 c2 c3 c4 c5
 have hne:∀ b,b≠C→h'.get? b=h₄.get? b:=fun b hb=>hs'.2 b hb
 have eC:e≠C:=fe.nl
 have TC:T'≠C:=fun z=>by
  rw [z,e1] at x7
  cases x7
  rw [hd] at x8
  cases x8
 exact passed (fl:=rawInt X.env.locals) I7 hex ⟨oe,vs,oT,ts,(hne e eC).trans x1,x2,x3,x4,x6,(hne T' TC).trans x7,x8,x9⟩ ge gT' q
variable {ts:List Str} {fv:List (Str × Nat)} {scope:Scope} {elt t0 i0:Expr} {f0:List Expr} {rest:List Comprehension} {pos:Pos} {wi:TI} {g:TG} {tt:TT} {tb:Addr→TBX} {kont:Env→Addr→Addr→Sem Fin}
end
noncomputable def PEA (X:Cx) (e:Expr) (t:TEX):Prop :=
 ∀ (pins:List (Addr × Obj)) (s:Shared) (σ:St) (H:Hp) (Q:VK) (E:XK),Inv X pins σ H s→t σ H Q E→wpAny (model X.prog X.w) X.A (eval e X.env) (EP X pins σ Q) (XA X pins E) s
theorem wpAny_leaving_any {M:Model} {A:Around} {E:Value→Shared→Prop} {s:Shared} {base:Heap} {env:Env} {outer:List Env} {L e:Addr} {cls a0 fl:Value} {Q:Unit→Shared→Prop}
  (hfr:A.frames=some (env :: outer)) (hl:s.heap.FunFrames base (env :: outer)) (hf:env.frame=some L) (ht:s.heap.TracedAtW base e cls a0 fl) (hkb:base.StaysIn s.heap) (hen:base.get? e=none)
  (h:∀ h',Heap.LeftW base (env :: outer) e cls a0 s.heap h'→Q () { s with heap:=h' }):wpAny M A (leaving env (.ref e)) Q E s:=by
 by_cases hb:(fl == rawInt L)=true
 ·have htt:=ht
  obtain ⟨oe,vs,T,oT,ts,he,hc0,hd,h1,hnT,hTe,hT,hdT,h3⟩:=ht
  unfold leaving noteFrame
  simp only [hf]
  refine wpAny_bind (wpAny_bind (wpAny_field he hd h1 ?_))
  rw [if_pos (show (Value.ref T != Value.none)=true from by simp)]
  refine wpAny_bind (wpAny_field hT hdT h3 ?_)
  rw [if_pos hb]
  refine wpAny_pure ?_
  refine wpAny_setFlight_noneW hkb hl htt fun h' k1 k2 k3 k4=>h h' ⟨k1,k2,k3,fun b o z n=>⟨o.slots,k4 b o z n⟩⟩
 ·obtain ⟨oe,vs,T,oT,ts,he,⟨hcls,h0⟩,hd,h1,hnT,hTe,hT,hdT,h3⟩:=ht
  subst hcls
  unfold leaving noteFrame
  simp only [hf]
  refine wpAny_bind (wpAny_bind (wpAny_field he hd h1 ?_))
  rw [if_pos (show (Value.ref T != Value.none)=true from by simp)]
  refine wpAny_bind (wpAny_field hT hdT h3 ?_)
  rw [if_neg hb]
  refine wpAny_bind (wpAny_setField hT hdT (Array.getElem?_eq_some_iff.mp h3).1 ?_)
  have other:∀ b,b≠T→(s.heap.update T (Obj.mapFields (·.setIfInBounds 3 Value.none))).get? b=s.heap.get? b:=fun b hb=>Heap.get?_update_other _ _ (Ne.symm hb)
  have rec0:∀ b o,s.heap.get? b=some o→(∀ vs,o.data≠.fields vs)→b≠T:=fun b o hb hnf q=>by
   rw [q,hT] at hb; injection hb with hb; subst hb; exact hnf ts hdT
  exact wpAny_newEntryW hfr (hl.of_keeps fun b o hb hnf=>⟨o,(other b (rec0 b o hb hnf)).trans hb,rfl⟩) hf ((other e (Ne.symm hTe)).trans he)
   (fun b o hbo=>(other b fun q=>by rw [q,hnT] at hbo; cases hbo).trans (hkb b o hbo)) hen hd (Array.getElem?_eq_some_iff.mp h1).1 h0
   fun h' ⟨x1,x2,x3,x4⟩=>h h' ⟨x1,x2,x3,fun b o hb hnf=>x4 b o ((other b (rec0 b o hb hnf)).trans hb) hnf⟩
section
variable {P:Program} {w:World} {K:PySem.W.Frag} {mg:Str→Option Value} {base:Heap}
theorem leave_any {N:List Str} {qual:Str} {scope:Scope} {f:Addr} {cd:Value} {A:Around} {outer:List Env} {s s':Shared} {H:Hp} {E:XK} {ev:Value} {pins:List (Addr × Obj)}
  (h:XA (cxOf (CXr P w) P w K mg base N qual scope f cd A outer s H E).nox pins E ev s'):(cxOf (CXr P w) P w K mg base N qual scope f cd A outer s H E).xe ev s':=by
 obtain ⟨e,T,cls,a0,fl,σ',H',rfl,I,hx,fe,fT,q⟩:=h
 show wpAny (model P w) (A.deeper (envOfC qual scope s.heap.objs.size f cd)) (leaving (envOfC qual scope s.heap.objs.size f cd) (.ref e)) (fun _ s''=>CXr P w outer H s E (.ref e) s'') (fun e' s''=>CXr P w outer H s E e' s'') s'
 have hfr:(A.deeper (envOfC qual scope s.heap.objs.size f cd)).frames=some (envOfC qual scope s.heap.objs.size f cd :: outer):=I.ok.frames
 have n0:∀ b,b∈[e,T]→s.heap.get? b=none:=fun b hb=>by
  rcases List.mem_cons.mp hb with z | z
  ·rw [z]; exact fe.n0
  ·obtain rfl:b=T:=by simpa using z
   exact fT.n0
 have nt:∀ b,b∈[e,T]→H' b=none:=fun b hb=>by
  rcases List.mem_cons.mp hb with z | z
  ·rw [z]; exact fe.nt
  ·obtain rfl:b=T:=by simpa using z
   exact fT.nt
 have hB:∀ b o,b ∉ [e,T]→b ∉ frs (envOfC qual scope s.heap.objs.size f cd :: outer)→s'.heap.get? b=some o→(PySem.W.hideAll s'.heap ([e,T] ++ frs (envOfC qual scope s.heap.objs.size f cd :: outer))).get? b=some o:=fun b o h1 h2 e1 =>
  PySem.W.hideAll_get _ e1 fun z=>(List.mem_append.mp z).elim h1 h2
 have hl:s'.heap.FunFrames (PySem.W.hideAll s'.heap ([e,T] ++ frs (envOfC qual scope s.heap.objs.size f cd :: outer))) (envOfC qual scope s.heap.objs.size f cd :: outer):=funFrames_hide I _ fun b hb=>List.mem_append_right _ hb
 have hkb:(PySem.W.hideAll s'.heap ([e,T] ++ frs (envOfC qual scope s.heap.objs.size f cd :: outer))).StaysIn s'.heap:=fun b o e1=>PySem.W.of_hideAll _ e1
 have hen:(PySem.W.hideAll s'.heap ([e,T] ++ frs (envOfC qual scope s.heap.objs.size f cd :: outer))).get? e=none:=PySem.W.hideAll_none _ (List.mem_append_left _ List.mem_cons_self)
 obtain ⟨oe,vs,oT,ts,y1,y2,y3,y4,y5,y6,y7,y8⟩:=hx
 refine wpAny_leaving_any hfr hl rfl ⟨oe,vs,T,oT,ts,y1,y2,y3,y4,PySem.W.hideAll_none _ (List.mem_append_left _ (by simp)),y5,y6,y7,y8⟩ hkb hen fun h' zz9=>?_
 obtain ⟨k1,k2,k3,k4⟩:=zz9
 obtain ⟨oe,vs,T',oT,ts,x1,x2,x3,x4,x5,x6,x7,x8,x9⟩:=k3
 have notfr:∀ b o,b∈frs (envOfC qual scope s.heap.objs.size f cd :: outer)→s'.heap.get? b=some o→∃ sl,h'.get? b=some { o with slots:=sl }:=fun b o hb e1=>k4 b o e1 (I.fnd hb e1)
 have kept:∀ b o,b ∉ [e,T]→b ∉ frs (envOfC qual scope s.heap.objs.size f cd :: outer)→s'.heap.get? b=some o→h'.get? b=some o:=fun b o h1 h2 e1=>k1 b o (hB b o h1 h2 e1)
 have nL:∀ b o,s.heap.get? b=some o→b ∉ frs outer→b ∉ frs (envOfC qual scope s.heap.objs.size f cd :: outer):=fun b o e1 h2 z=>by
  have z':b∈s.heap.objs.size :: frs outer:=z
  rcases List.mem_cons.mp z' with z1 | z1
  ·rw [z1] at e1; exact absurd (Heap.lt_size e1) (Nat.lt_irrefl _)
  ·exact h2 z1
 have nE:∀ b o,s.heap.get? b=some o→b ∉ [e,T]:=fun b o e1 z=>by rw [n0 b z] at e1; cases e1
 have trk:∀ b u,H' b=some u→∀ o,s'.heap.get? b=some o→h'.get? b=some o:=fun b u hu o e1=>by
  refine kept b o (fun z=>by rw [nt b z] at hu; cases hu) (fun z=>?_) e1
  rw [I.stkFree b z] at hu; cases hu
 have hT':s.heap.get? T'=none∧H' T'=none:=by
  by_cases hz:s'.heap.get? T'=none
  ·refine ⟨?_,I.untr hz⟩
   cases q':s.heap.get? T' with
   | none=>rfl
   | some o =>
    obtain ⟨o',e'⟩:=I.base.there T' o q' (by simp [cxOf])
    rw [hz] at e'; cases e'
  ·obtain ⟨o,ho⟩:=Option.ne_none_iff_exists'.mp hz
   by_cases h1:T'∈[e,T]
   ·exact ⟨n0 T' h1,nt T' h1⟩
   ·by_cases h2:T'∈frs (envOfC qual scope s.heap.objs.size f cd :: outer)
    ·exfalso
     obtain ⟨sl,e'⟩:=notfr T' o h2 ho
     rw [x7] at e'
     cases e'
     exact I.fnd h2 ho ts x8
    ·rw [hB T' o h1 h2 ho] at x5; cases x5
 refine ⟨e,T',cls,a0,H',rfl,I.os,I.bare,?_,fun b u hu=>?_,fe.n0,hT'.1,fe.nt,hT'.2,⟨oe,vs,oT,ts,x1,x2,x3,x4,x6,x7,x8,x9⟩,q⟩
 ·refine Un.leave I.base (fun b o e1 h1 e2=>kept b o (nE b o e1) (nL b o e1 h1) e2) (fun b o hb e1=>notfr b o (List.mem_cons_of_mem _ hb) e1) fun b o e1 o' e2=>?_
  by_cases h2:b∈frs outer
  ·obtain ⟨sl,e'⟩:=notfr b o' (List.mem_cons_of_mem _ h2) e2
   exact ⟨_,e'⟩
  ·exact ⟨o',kept b o' (nE b o e1) (nL b o e1 h2) e2⟩
 ·refine (I.hok b u hu).stay (fun c v hc e1=>?_) (fun _ z=>z) fun _ _ z=>z
  rcases hc with z | z
  ·exact trk c u (by rw [z]; exact hu) v e1
  ·exact trk c _ z v e1
end
end L2
set_option maxHeartbeats 4000000
namespace L2
open PySem PySem.Spec PyProof.Rows
noncomputable def CPowB (i j:Int):Prop:=0≤j∧(Builtin.Int.intBits i:Int) * j≤2 ^ 27
theorem op_powB {X:Cx}:OpR X (binaryOp .Pow) (rI CPowB fun i j=>.int (i ^ j.toNat)):=opI fun _ _ _ _ _ _ _ hc q=>pow_int hc.1 hc.2 q
theorem ip_fdivB {X:Cx}:PIp X .FloorDiv (fun x y H Q=>∃ i j,x=.int i∧y=.int j∧CDivB i j∧Q (.int (i / j)) H):=by
 intro pins s σ H x y v u Q I r1 r2 h
 obtain ⟨i,j,e1,e2,hc,q⟩:=h
 subst e1; subst e2
 obtain ⟨t,rfl⟩:=r1
 obtain ⟨t',rfl⟩:=r2
 have h1:(0:Int) < j:=hc.1
 refine ifloordiv_int (by omega) ?_ (.inl (PyProof.noPylong_of_log2 hc.2))
 rw [Int.fdiv_eq_ediv_of_nonneg i (by omega)]
 exact ⟨.int _,H,I.tok _,⟨_,rfl⟩,q⟩
end L2
set_option maxHeartbeats 4000000
namespace KT
open PySem L2
noncomputable def aN (a:Nat):Nat:=(after a).toNat
noncomputable def bN (a:Nat):Nat:=(before a).toNat
theorem aN_eq (a:Nat):after a=(aN a:Int):=(Int.toNat_of_nonneg (after_div a).2.2).symm
theorem bN_eq (a:Nat):before a=(bN a:Int):=(Int.toNat_of_nonneg (before_div a).2.2).symm
theorem aN_val (a:Nat):aN a=if a % 3=2 then a - 2 else a + 1:=by
 have h:=aN_eq a
 unfold after at h
 split at h <;> split <;> omega
theorem bN_val (a:Nat):bN a=if a % 3=0 then a + 2 else a - 1:=by
 have h:=bN_eq a
 unfold before at h
 split at h <;> split <;> omega
theorem d3_0 (q:Nat):3 * q / 3=q:=Nat.mul_div_cancel_left q (by decide)
theorem d3_1 (q:Nat):(3 * q + 1) / 3=q:=by rw [Nat.mul_add_div (by decide)]; rfl
theorem d3_2 (q:Nat):(3 * q + 2) / 3=q:=by rw [Nat.mul_add_div (by decide)]; rfl
theorem aN_0 (q:Nat):aN (3 * q)=3 * q + 1:=by rw [aN_val,if_neg (by rw [Nat.mul_mod_right]; decide)]
theorem aN_1 (q:Nat):aN (3 * q + 1)=3 * q + 2:=by rw [aN_val,if_neg (by rw [Nat.mul_add_mod]; decide)]
theorem aN_2 (q:Nat):aN (3 * q + 2)=3 * q:=by rw [aN_val,if_pos (by rw [Nat.mul_add_mod])]; rfl
theorem bN_0 (q:Nat):bN (3 * q)=3 * q + 2:=by rw [bN_val,if_pos (Nat.mul_mod_right 3 q)]
theorem bN_1 (q:Nat):bN (3 * q + 1)=3 * q:=by rw [bN_val,if_neg (by rw [Nat.mul_add_mod]; decide)]; rfl
theorem bN_2 (q:Nat):bN (3 * q + 2)=3 * q + 1:=by rw [bN_val,if_neg (by rw [Nat.mul_add_mod]; decide)]; rfl
theorem three (a:Nat):∃ q,a=3 * q∨a=3 * q + 1∨a=3 * q + 2:=⟨a / 3,by omega⟩
theorem sidesN (a:Nat):aN a / 3=a / 3∧bN a / 3=a / 3∧aN (aN a)=bN a∧bN (aN a)=a∧aN (bN a)=a∧bN (bN a)=aN a∧aN a≠a∧bN a≠a∧aN a≠bN a:=by
 have n1:∀ q,q + 1≠q:=fun q=>Nat.succ_ne_self q
 have n2:∀ q,q + 2≠q:=fun q h=>Nat.ne_of_gt (Nat.lt_add_of_pos_right (n:=q) (k:=2) (by decide)) h
 obtain ⟨q,rfl | rfl | rfl⟩:=three a
 ·rw [aN_0,bN_0,aN_1,bN_1,aN_2,bN_2,d3_0,d3_1,d3_2]
  exact ⟨rfl,rfl,rfl,rfl,rfl,rfl,n1 _,n2 _,fun h=>n1 _ h.symm⟩
 ·rw [aN_1,bN_1,aN_2,bN_2,aN_0,bN_0,d3_0,d3_1,d3_2]
  exact ⟨rfl,rfl,rfl,rfl,rfl,rfl,n1 _,fun h=>n1 _ h.symm,n2 _⟩
 ·rw [aN_2,bN_2,aN_0,bN_0,aN_1,bN_1,d3_0,d3_1,d3_2]
  exact ⟨rfl,rfl,rfl,rfl,rfl,rfl,fun h=>n2 _ h.symm,fun h=>n1 _ h.symm,fun h=>n1 _ h.symm⟩
theorem sideN_lt {a n:Nat} (h:a < 3 * n):aN a < 3 * n∧bN a < 3 * n:=by
 obtain ⟨h1,h2,_⟩:=sidesN a
 exact ⟨by omega,by omega⟩
structure PC (M:List (Option Nat)) (f:Nat→Int):Prop where
 nn:∀ p,p < M.length→0≤f p
 rim:∀ p:Nat,M[p]?=some none→f p=0
 mate:∀ p q:Nat,M[p]?=some (some q)→f q=f p
 even:∀ p,p < M.length→(f p + f (aN p) + f (bN p)) % 2=0
 tri:∀ p,p < M.length→f p≤f (aN p) + f (bN p)
noncomputable def mx (x y:Int):Int:=if y > x then y else x
noncomputable def bh (f:Nat→Int) (a b:Nat):Int:=mx (f (aN a) + f (aN b)) (f (bN a) + f (bN b)) - f a
noncomputable def fx (left:Bool) (a b:Nat) (f:Nat→Int) (z:Nat):Int:=if z=a∨z=b then bh f a b else f (mvN (!left) a b z)
end KT
set_option maxHeartbeats 4000000
namespace KT
open PySem L2
noncomputable def sF (f:Nat→Int):Nat→Int
 | 0=>0
 | n + 1=>sF f n + f n
end KT
set_option maxHeartbeats 4000000
namespace KT
open PySem L2
end KT
set_option maxHeartbeats 4000000
namespace KT
open PySem L2
end KT
set_option maxHeartbeats 4000000
namespace KT
open PySem L2
section
variable {M:List (Option Nat)} {ns:List Int} {f:Nat→Int} {g:Int→Int}
noncomputable def mu (M:List (Option Nat)) (p:Nat):Nat:=match (M[p]?).join with
 | some q=>q
 | none=>p
end
end KT
set_option maxHeartbeats 4000000
namespace KT
noncomputable def lowN (m n:Nat):Nat × Nat:=(m / Nat.gcd m n,n / Nat.gcd m n)
structure Val (v:Nat × Nat) (N D:Nat):Prop where
 p1:0 < v.1
 p2:0 < v.2
 co:Nat.gcd v.1 v.2=1
 eq:v.1 * D=v.2 * N
theorem low_val {m n:Nat} (hm:0 < m) (hn:0 < n):Val (lowN m n) m n:=by
 have g0:0 < Nat.gcd m n:=Nat.gcd_pos_of_pos_left _ hm
 have d1:=Nat.gcd_dvd_left m n
 have d2:=Nat.gcd_dvd_right m n
 refine ⟨Nat.div_pos (Nat.le_of_dvd hm d1) g0,Nat.div_pos (Nat.le_of_dvd hn d2) g0,?_,?_⟩
 ·show Nat.gcd (m / Nat.gcd m n) (n / Nat.gcd m n)=1
  rw [Nat.gcd_div d1 d2,Nat.div_self g0]
 ·show m / Nat.gcd m n * n=n / Nat.gcd m n * m
  obtain ⟨a,ha⟩:=d1
  obtain ⟨b,hb⟩:=d2
  generalize Nat.gcd m n=g at *
  subst ha hb
  rw [Nat.mul_div_cancel_left _ g0,Nat.mul_div_cancel_left _ g0]
  simp only [Nat.mul_comm,Nat.mul_left_comm]
theorem lowN_le (m n:Nat):(lowN m n).1≤m∧(lowN m n).2≤n:=⟨Nat.div_le_self _ _,Nat.div_le_self _ _⟩
theorem Val.uniq {v w:Nat × Nat} {N D:Nat} (h1:Val v N D) (h2:Val w N D) (hD:0 < D):v=w:=by
 have e:v.1 * w.2=v.2 * w.1:=by
  refine Nat.eq_of_mul_eq_mul_right hD ?_
  calc v.1 * w.2 * D=w.2 * (v.1 * D):=by simp only [Nat.mul_comm,Nat.mul_left_comm]
   _=w.2 * (v.2 * N):=by rw [h1.eq]
   _=v.2 * (w.2 * N):=by simp only [Nat.mul_comm,Nat.mul_left_comm]
   _=v.2 * (w.1 * D):=by rw [h2.eq]
   _=v.2 * w.1 * D:=by rw [Nat.mul_assoc]
 have c1:Nat.Coprime v.1 v.2:=h1.co
 have c2:Nat.Coprime w.1 w.2:=h2.co
 have d1:v.1 ∣ w.1:=c1.dvd_of_dvd_mul_left (by rw [← e]; exact Nat.dvd_mul_right _ _)
 have d2:w.1 ∣ v.1:=c2.dvd_of_dvd_mul_left (by rw [Nat.mul_comm w.2,e]; exact Nat.dvd_mul_left _ _)
 have e1:v.1=w.1:=Nat.dvd_antisymm d1 d2
 have e2:v.2=w.2:=by
  rw [e1,Nat.mul_comm] at e
  exact (Nat.eq_of_mul_eq_mul_right h2.p1 e).symm
 exact Prod.ext e1 e2
theorem Val.to {v:Nat × Nat} {N D N' D':Nat} (h:Val v N D) (hN:0 < N) (e:N * D'=D * N'):Val v N' D':=by
 refine ⟨h.p1,h.p2,h.co,?_⟩
 refine Nat.eq_of_mul_eq_mul_right hN ?_
 calc v.1 * D' * N=v.1 * (N * D'):=by simp only [Nat.mul_comm,Nat.mul_left_comm]
  _=v.1 * (D * N'):=by rw [e]
  _=v.1 * D * N':=by rw [Nat.mul_assoc]
  _=v.2 * N * N':=by rw [h.eq]
  _=v.2 * N' * N:=by simp only [Nat.mul_comm,Nat.mul_left_comm]
noncomputable def lw2 (v f:Nat × Nat):Nat × Nat:=lowN (v.1 * f.1) (v.2 * f.2)
theorem Val.mul {v f:Nat × Nat} {N D:Nat} (h:Val v N D) (f1:0 < f.1) (f2:0 < f.2):Val (lw2 v f) (N * f.1) (D * f.2):=by
 refine (low_val (Nat.mul_pos h.p1 f1) (Nat.mul_pos h.p2 f2)).to (Nat.mul_pos h.p1 f1) ?_
 calc v.1 * f.1 * (D * f.2)=v.1 * D * (f.1 * f.2):=by simp only [Nat.mul_comm,Nat.mul_left_comm]
  _=v.2 * N * (f.1 * f.2):=by rw [h.eq]
  _=v.2 * f.2 * (N * f.1):=by simp only [Nat.mul_comm,Nat.mul_left_comm]
theorem gcd_mul_le {v f:Nat × Nat} (co:Nat.gcd v.1 v.2=1) (f1:0 < f.1) (f2:0 < f.2):Nat.gcd (v.1 * f.1) (v.2 * f.2)≤f.1 * f.2:=by
 refine Nat.le_of_dvd (Nat.mul_pos f1 f2) ?_
 have d1:Nat.gcd (v.1 * f.1) (v.2 * f.2) ∣ v.1 * (f.1 * f.2):=by
  rw [← Nat.mul_assoc]; exact Nat.dvd_trans (Nat.gcd_dvd_left _ _) (Nat.dvd_mul_right _ _)
 have d2:Nat.gcd (v.1 * f.1) (v.2 * f.2) ∣ v.2 * (f.1 * f.2):=by
  rw [Nat.mul_comm f.1,← Nat.mul_assoc]; exact Nat.dvd_trans (Nat.gcd_dvd_right _ _) (Nat.dvd_mul_right _ _)
 have:=Nat.dvd_gcd d1 d2
 rw [Nat.gcd_mul_right,co,Nat.one_mul] at this
 exact this
noncomputable def frc (tu:Nat × Nat) (k:Nat):Nat × Nat:=if k % 2=0 then (tu.1 + tu.2,tu.2) else (tu.1,tu.1 + tu.2)
theorem frc_pos {tu:Nat × Nat} (h1:0 < tu.1) (h2:0 < tu.2) (k:Nat):0 < (frc tu k).1∧0 < (frc tu k).2:=by
 unfold frc
 split
 ·exact ⟨Nat.add_pos_left h1 _,h2⟩
 ·exact ⟨h1,Nat.add_pos_left h1 _⟩
theorem frc_le (tu:Nat × Nat) (k:Nat):(frc tu k).1≤tu.1 + tu.2∧(frc tu k).2≤tu.1 + tu.2:=by
 unfold frc
 split
 ·exact ⟨Nat.le_refl _,Nat.le_add_left _ _⟩
 ·exact ⟨Nat.le_add_right _ _,Nat.le_refl _⟩
noncomputable def putG (g:Int→Nat × Nat) (x:Int) (v:Nat × Nat):Int→Nat × Nat:=fun y=>if y=x then v else g y
noncomputable def stG (ks:List Int) (xs:List Int) (tu:Nat × Nat) (g:Int→Nat × Nat):Nat→Int→Nat × Nat
 | 0=>g
 | k + 1=>if xs.getD k 0∈ks then putG (stG ks xs tu g k) (xs.getD k 0) (lw2 (stG ks xs tu g k (xs.getD k 0)) (frc tu k)) else stG ks xs tu g k
noncomputable def strG (ks:List Int) (xs:List Int) (x:Int) (g:Int→Nat × Nat):Int→Nat × Nat:=putG (stG ks xs (g x) g 4) x ((g x).2,(g x).1)
noncomputable def lowG (g:Int→Nat × Nat):Int→Nat × Nat:=fun x=>lowN (g x).1 (g x).2
noncomputable def chN (e:Nat→Bool) (tu v:Nat × Nat):Nat→Nat × Nat
 | 0=>v
 | k + 1=>if e k=true then lw2 (chN e tu v k) (frc tu k) else chN e tu v k
noncomputable def nuN (e:Nat→Bool) (tu:Nat × Nat):Nat→Nat
 | 0=>1
 | k + 1=>if e k=true then nuN e tu k * (frc tu k).1 else nuN e tu k
noncomputable def deN (e:Nat→Bool) (tu:Nat × Nat):Nat→Nat
 | 0=>1
 | k + 1=>if e k=true then deN e tu k * (frc tu k).2 else deN e tu k
noncomputable def cnN (e:Nat→Bool):Nat→Nat
 | 0=>0
 | k + 1=>if e k=true then cnN e k + 1 else cnN e k
noncomputable def flg (ks xs:List Int) (y:Int) (k:Nat):Bool:=decide (xs.getD k 0=y∧y∈ks)
theorem stG_at (ks xs:List Int) (tu:Nat × Nat) (g:Int→Nat × Nat) (y:Int):∀ k,stG ks xs tu g k y=chN (flg ks xs y) tu (g y) k
 | 0=>rfl
 | k + 1=>by
  have ih:=stG_at ks xs tu g y k
  unfold stG chN
  by_cases c:xs.getD k 0∈ks
  ·rw [if_pos c]
   unfold putG
   by_cases z:y=xs.getD k 0
   ·rw [if_pos z,if_pos (by unfold flg; exact decide_eq_true ⟨z.symm,z ▸ c⟩),← ih,z]
   ·rw [if_neg z,if_neg (by unfold flg; rw [decide_eq_false (fun q=>z q.1.symm)]; decide)]
    exact ih
  ·rw [if_neg c,if_neg (by unfold flg; rw [decide_eq_false (show ¬ (xs.getD k 0=y∧y∈ks) from fun q=>c (by rw [q.1]; exact q.2))]; decide)]
   exact ih
theorem ch_val {e:Nat→Bool} {tu v:Nat × Nat} {N D:Nat} (h:Val v N D) (h1:0 < tu.1) (h2:0 < tu.2):∀ k,Val (chN e tu v k) (N * nuN e tu k) (D * deN e tu k)
 | 0=>by
  show Val v (N * 1) (D * 1)
  rw [Nat.mul_one,Nat.mul_one]
  exact h
 | k + 1=>by
  have ih:=ch_val (e:=e) h h1 h2 k
  obtain ⟨f1,f2⟩:=frc_pos h1 h2 k
  unfold chN nuN deN
  split
  ·rw [← Nat.mul_assoc,← Nat.mul_assoc]
   exact ih.mul f1 f2
  ·exact ih
theorem ch_le {e:Nat→Bool} {tu v:Nat × Nat} {B S:Nat} (hv:v.1≤B∧v.2≤B) (hS:tu.1 + tu.2≤S) (h1:1≤S):∀ k,(chN e tu v k).1≤B * S ^ cnN e k∧(chN e tu v k).2≤B * S ^ cnN e k
 | 0=>by
  show v.1≤B * S ^ 0∧v.2≤B * S ^ 0
  rw [Nat.pow_zero,Nat.mul_one]
  exact hv
 | k + 1=>by
  obtain ⟨i1,i2⟩:=ch_le (e:=e) (tu:=tu) hv hS h1 k
  obtain ⟨f1,f2⟩:=frc_le tu k
  unfold chN cnN
  split
  ·rw [Nat.pow_succ,← Nat.mul_assoc]
   unfold lw2
   obtain ⟨l1,l2⟩:=lowN_le ((chN e tu v k).1 * (frc tu k).1) ((chN e tu v k).2 * (frc tu k).2)
   exact ⟨Nat.le_trans l1 (Nat.mul_le_mul i1 (Nat.le_trans f1 hS)),Nat.le_trans l2 (Nat.mul_le_mul i2 (Nat.le_trans f2 hS))⟩
  ·exact ⟨i1,i2⟩
end KT
set_option maxHeartbeats 4000000
namespace KT
open PySem L2
section
variable {M:List (Option Nat)} {ns:List Int} {x y:Int} {a b:Nat}
noncomputable def SwN (M:List (Option Nat)) (ns:List Int) (x:Int):Prop:=∃ p j:Nat,M[p]?=some (some j)∧ns[p]?=some x
structure SwK (M:List (Option Nat)) (ns:List Int) (ks:List Int):Prop where
 nd:ks.Nodup
 mem:∀ x,x∈ks ↔ SwN M ns x
theorem SwK.perm {ks ls:List Int} (h:SwK M ns ks) (g:SwK M ns ls):ks.Perm ls:=(List.perm_ext_iff_of_nodup h.nd g.nd).mpr fun x=>(h.mem x).trans (g.mem x).symm
theorem SwN.key (td:TD M ns) (h:SwN M ns x):x∈keys ns ns.length:=by
 obtain ⟨p,j,_,e⟩:=h
 exact keys_mem.mpr ⟨p,(List.getElem?_eq_some_iff.mp e).1,e⟩
noncomputable def sqX (ns:List Int) (a b:Nat):List Int:=[ns.getD (aN a) 0,ns.getD (bN a) 0,ns.getD (aN b) 0,ns.getD (bN b) 0]
noncomputable def sqP (a b:Nat):Nat→Nat
 | 0=>aN a
 | 1=>bN a
 | 2=>aN b
 | _=>bN b
theorem sqX_at {k:Nat} (h:k < 4):(sqX ns a b).getD k 0=ns.getD (sqP a b k) 0:=by
 have:k=0∨k=1∨k=2∨k=3:=by omega
 rcases this with rfl | rfl | rfl | rfl <;> rfl
theorem sqP_lt {n k:Nat} (ha:a < 3 * n) (hb:b < 3 * n):sqP a b k < 3 * n:=by
 obtain ⟨a1,a2⟩:=sideN_lt ha
 obtain ⟨b1,b2⟩:=sideN_lt hb
 unfold sqP
 split <;> assumption
theorem nm_at {p:Nat} (td:TD M ns) (hp:p < M.length):ns[p]?=some (ns.getD p 0):=by
 have:=td.len
 rw [List.getD_eq_getElem?_getD,List.getElem?_eq_getElem (by omega)]
 rfl
end
end KT
set_option maxHeartbeats 4000000
namespace KT
open PySem L2
end KT
set_option maxHeartbeats 4000000
namespace L2
open PySem PySem.Spec PyProof.Rows
section
variable {P:Program} {w:World} {A:Around} {E:Value→Shared→Prop} {s:Shared}
theorem draws_tup (hh:A.handled=none) (it t:Addr) (hne:t≠it) (its:Array Value):Draws P w A it [it,t] its.size (fun i v=>its[i]?=some v) (fun i h=>IsTupIter h it t i∧IsTup h t its):=by
 refine ⟨fun _ _ st=>let ⟨o,ho,_⟩:=st.1; ⟨o,ho⟩,fun _ _ _ st k=>?_,fun i s Q E hi st hQ=>?_,fun s Q E st hE=>?_⟩
 ·obtain ⟨⟨o,ho,r⟩,o2,ho2,r2⟩:=st
  exact ⟨⟨o,k it (by simp) o ho,r⟩,o2,k t (by simp) o2 ho2,r2⟩
 ·obtain ⟨hit,ht⟩:=st
  obtain ⟨o,ho,hc,hd⟩:=id hit
  obtain ⟨ol,hol,_,nl,hdl⟩:=id ht
  have hx:its[i]?=some its[i]:=Array.getElem?_eq_getElem hi
  unfold Builtin.SmallTypes.nextOf
  refine wpAny_bind (wpAny_callSpecial?_slot (name:=Str.ofString "__next__") hit.typeIs slot_tupleiter_next (wpAny_call_entry slot_tupleiter_next hit.typeIs entry_tupleiter_next ?_ (args_tupleiter_next _)))
  refine wpAny_bind (m:=field (.ref it) 0) (wpAny_field ho hd (x:=.ref t) rfl ?_)
  show wpAny _ _ (if (Value.ref t == Value.none)=true then _ else _) _ _ s
  rw [if_neg (show ¬ ((Value.ref t == Value.none)=true) from Bool.false_ne_true)]
  refine wpAny_bind (m:=field (.ref it) 1) (wpAny_field ho hd (x:=.int i 0) rfl (wpAny_bind (m:=seqItems? (.ref t)) (wpAny_seqItems hol hdl ?_)))
  simp only [Int.toNat_natCast,hx]
  refine wpAny_bind (wpAny_setField ho hd (by simp) (wpAny_pure ⟨its[i],rfl,wpAny_pure (hQ _ _ s.toks hx ⟨?_,(Heap.get?_update_other _ _ (Ne.symm hne)).trans hol |> fun e=>⟨ol,e,‹_›,nl,hdl⟩⟩ (Heap.SameBut.update ..))⟩))
  exact ⟨_,Heap.get?_update_self _ ho (Obj.isFreed_of_fields (Obj.data_mapFields hd _)),(Obj.cls_mapFields ..).trans hc,by rw [Obj.data_mapFields hd]; simp [rawInt]⟩
 ·obtain ⟨hit,ht⟩:=st
  obtain ⟨o,ho,hc,hd⟩:=id hit
  obtain ⟨ol,hol,_,nl,hdl⟩:=id ht
  unfold Builtin.SmallTypes.nextOf
  refine wpAny_bind (wpAny_callSpecial?_slot (name:=Str.ofString "__next__") hit.typeIs slot_tupleiter_next (wpAny_call_entry slot_tupleiter_next hit.typeIs entry_tupleiter_next ?_ (args_tupleiter_next _)))
  refine wpAny_bind (m:=field (.ref it) 0) (wpAny_field ho hd (x:=.ref t) rfl ?_)
  show wpAny _ _ (if (Value.ref t == Value.none)=true then _ else _) _ _ s
  rw [if_neg (show ¬ ((Value.ref t == Value.none)=true) from Bool.false_ne_true)]
  refine wpAny_bind (m:=field (.ref it) 1) (wpAny_field ho hd (x:=.int its.size 0) rfl (wpAny_bind (m:=seqItems? (.ref t)) (wpAny_seqItems hol hdl ?_)))
  simp only [Int.toNat_natCast,Array.getElem?_eq_none (Nat.le_refl its.size)]
  refine wpAny_bind (wpAny_rule (wpAny_bind (wpAny_setField ho hd (by simp) ?_)))
  refine wpAny_bind (m:=newExc (.type "StopIteration") []) ?_
  simp only [newExc,newTuple]
  refine wpAny_bind (wpAny_newObj_type ?_ (by size_fits))
  refine wpAny_bind (m:=firstArgMember _ _) (wpAny_of_eq (a:=Value.none) (by first | rfl | (simp only [firstArgMember]; rfl)) (wpAny_newObj_type ?_ (by size_fits)))
  exact wpAny_raiseNew_none (A:=A.in1) hh (hE _ _ (((Heap.SameBut.update ..).extBut.push _).push _) ⟨_,Heap.get?_push_size _ rfl,rfl⟩)
structure ZA (z TI TO i1 i2:Addr) (f1 f2:List Addr):Prop where
 TIz:TI≠z
 TOz:TO≠z
 i1z:i1≠z
 i2z:i2≠z
 TITO:TI≠TO
 TIi1:TI≠i1
 TIi2:TI≠i2
 TOi1:TO≠i1
 TOi2:TO≠i2
 i12:i1≠i2
 z1:z ∉ f1
 z2:z ∉ f2
 t1:TO ∉ f1
 t2:TO ∉ f2
 a1:i2 ∉ f1
 a2:i1 ∉ f2
variable {z TI TO i1 i2:Addr} {f1 f2:List Addr} {n1 n2:Nat} {P1 P2:Nat→Value→Prop} {S1 S2:Nat→Heap→Prop} {a b:Value}
theorem zipD_item {k:Nat} {Q:Option Value→Shared→Prop} (D1:Draws P w A.in1 i1 f1 n1 P1 S1) (D2:Draws P w A.in1 i2 f2 n2 P2 S2) (D:ZA z TI TO i1 i2 f1 f2) (hz:IsZip s.heap z TI TO .none) (hTI:IsPair s.heap TI (.ref i1) (.ref i2)) (hTO:IsPair s.heap TO a b)
  (s1:S1 k s.heap) (s2:S2 k s.heap) (l1:k < n1) (l2:k < n2)
  (hQ:∀ x y h' tk,P1 k x→P2 k y→IsZip h' z TI TO (rawInt s.heap.objs.size)→IsPair h' TO x y→S1 (k + 1) h'→S2 (k + 1) h'→IsPair h' s.heap.objs.size x y →
   (∀ c o,c≠z→c≠TO→c≠i1→c≠i2→s.heap.get? c=some o→h'.get? c=some o)→Q (some (.ref s.heap.objs.size)) { s with heap:=h',toks:=tk }):wpAny (model P w) A (pyNext (.ref z)) Q E s:=by
 have hT:s.TypeIs (.ref z) "zip":=⟨_,hz,rfl⟩
 unfold pyNext
 refine wpAny_bind (wpAny_attempt (wpAny_callSpecial?_slot (name:=Str.ofString "__next__") hT PySem.F.slot_zip_next (wpAny_call_entry PySem.F.slot_zip_next hT PySem.F.entry_zip_next ?_ (PySem.F.args_zip_next_1 _))))
 refine wpAny_bind (m:=field (.ref z) 2) (wpAny_field hz rfl (x:=.bool false) rfl ?_)
 refine wpAny_bind (m:=field (.ref z) 3) (wpAny_field hz rfl (x:=.ref TI) rfl (wpAny_bind (wpAny_seqItems hTI rfl ?_)))
 refine wpAny_bind (m:=Builtin.SmallTypes.ownedTupleIsFree (.ref z)) ?_
 unfold Builtin.SmallTypes.ownedTupleIsFree
 refine wpAny_bind (wpAny_field hz rfl (x:=.none) rfl (wpAny_pure ?_))
 simp only [if_true]
 refine wpAny_bind (wpAny_rule (wpAny_bind (wpAny_field hz rfl (x:=.ref TO) rfl (wpAny_bind (wpAny_setField_rec hz (by simp) fun g1 q1 b1=>?_)))))
 replace q1:IsZip g1 z TI TO .ellipsis:=q1
 refine wpAny_bind ?_
 simp only [List.zipIdx_cons,List.zipIdx_nil,List.forIn_cons,List.forIn_nil]
 refine wpAny_bind (wpAny_bind (wpAny_onRaise (wpAny_bind (m:=Builtin.SmallTypes.nextOf (.ref i1)) (D1.item k _ _ _ l1 (D1.frame k _ _ s1 fun c hc o e=>b1.extBut c o (fun q=>D.z1 (q ▸ hc)) e) fun x g2 tk2 px st2 b2=>wpAny_pure ?_))))
 have r2:IsPair g2 TO a b:=b2.extBut _ _ D.TOi1 (b1.extBut _ _ D.TOz hTO)
 refine wpAny_bind (wpAny_seqItems r2 rfl (wpAny_bind (wpAny_updateSeq_pair r2 fun g3 r3 b3=>wpAny_bind (wpAny_letGo (wpAny_pure ?_)))))
 replace r3:IsPair g3 TO x b:=r3
 have st3:S2 k g3:=D2.frame k _ _ s2 fun c hc o e=>b3.extBut c o (fun q=>D.t2 (q ▸ hc)) (b2.extBut c o (fun q=>D.a2 (q ▸ hc)) (b1.extBut c o (fun q=>D.z2 (q ▸ hc)) e))
 refine wpAny_bind (wpAny_bind (wpAny_onRaise (wpAny_bind (m:=Builtin.SmallTypes.nextOf (.ref i2)) (D2.item k _ _ _ l2 st3 fun y g4 tk4 py st4 b4=>wpAny_pure ?_))))
 have r4:IsPair g4 TO x b:=b4.extBut _ _ D.TOi2 r3
 refine wpAny_bind (wpAny_seqItems r4 rfl (wpAny_bind (wpAny_updateSeq_pair r4 fun g5 r5 b5=>wpAny_bind (wpAny_letGo (wpAny_pure (wpAny_pure ?_))))))
 replace r5:IsPair g5 TO x y:=r5
 refine wpAny_bind (wpAny_seqItems r5 rfl (wpAny_bind (wpAny_newTuple ?_)))
 have sz:g5.objs.size=s.heap.objs.size:=by rw [b5.1,b4.1,b3.1,b2.1,b1.1]
 have q5:IsZip g5 z TI TO .ellipsis:=b5.extBut _ _ D.TOz.symm (b4.extBut _ _ D.i2z.symm (b3.extBut _ _ D.TOz.symm (b2.extBut _ _ D.i1z.symm q1)))
 have k5:∀ c o,c≠z→c≠TO→c≠i1→c≠i2→s.heap.get? c=some o→g5.get? c=some o:=fun c o c1 c2 c3 c4 e=>b5.extBut _ _ c2 (b4.extBut _ _ c4 (b3.extBut _ _ c2 (b2.extBut _ _ c3 (b1.extBut _ _ c1 e))))
 have u1:S1 (k + 1) g5:=D1.frame _ _ _ st2 fun c hc o e=>b5.extBut c o (fun q=>D.t1 (q ▸ hc)) (b4.extBut c o (fun q=>D.a1 (q ▸ hc)) (b3.extBut c o (fun q=>D.t1 (q ▸ hc)) e))
 have u2:S2 (k + 1) g5:=D2.frame _ _ _ st4 fun c hc o e=>b5.extBut c o (fun q=>D.t2 (q ▸ hc)) e
 have zl:z < g5.objs.size:=Heap.lt_size q5
 refine wpAny_bind (m:=Builtin.SmallTypes.ownedTupleHandOut (.ref z) (.ref g5.objs.size)) ?_
 unfold Builtin.SmallTypes.ownedTupleHandOut
 refine wpAny_bind (wpAny_setField_rec (show IsZip (g5.push { cls:=.type "tuple",data:=.seq #[x,y] }) z TI TO .ellipsis from Heap.get?_push_of_some _ q5) (by simp) fun g7 q7 b7=>?_)
 replace q7:IsZip g7 z TI TO (rawInt g5.objs.size):=q7
 refine wpAny_setField_rec q7 (by simp) fun g8 q8 b8=>?_
 replace q8:IsZip g8 z TI TO (rawInt g5.objs.size):=q8
 have up:∀ c o,c≠z→g5.get? c=some o→g8.get? c=some o:=fun c o c1 e=>b8.extBut _ _ c1 (b7.extBut _ _ c1 (Heap.get?_push_of_some _ e))
 have r8:IsPair g8 g5.objs.size x y:=b8.extBut _ _ (Nat.ne_of_gt zl) (b7.extBut _ _ (Nat.ne_of_gt zl) (Heap.get?_push_size _ rfl))
 rw [sz] at q8 r8
 refine wpAny_pure ⟨_,rfl,wpAny_pure ?_⟩
 show Q (some (.ref g5.objs.size)) _
 rw [sz]
 exact hQ x y g8 tk4 px py q8 (up _ _ D.TOz r5) (D1.frame _ _ _ u1 fun c hc o e=>up c o (fun q=>D.z1 (q ▸ hc)) e) (D2.frame _ _ _ u2 fun c hc o e=>up c o (fun q=>D.z2 (q ▸ hc)) e) r8 fun c o c1 c2 c3 c4 e=>up c o c1 (k5 c o c1 c2 c3 c4 e)
theorem zipD_end {k:Nat} {Q:Option Value→Shared→Prop} (D1:Draws P w A.in1 i1 f1 n1 P1 S1) (D2:Draws P w A.in1 i2 f2 n2 P2 S2) (D:ZA z TI TO i1 i2 f1 f2) (hz:IsZip s.heap z TI TO .none) (hTI:IsPair s.heap TI (.ref i1) (.ref i2)) (hTO:IsPair s.heap TO a b)
  (s1:S1 k s.heap) (s2:S2 k s.heap) (l1:k=n1∨k < n1∧k=n2)
  (hQ:∀ h' tk,(∀ c o,c≠z→c≠TO→c≠i1→c≠i2→s.heap.get? c=some o→h'.get? c=some o)→Q none { s with heap:=h',toks:=tk }):wpAny (model P w) A (pyNext (.ref z)) Q E s:=by
 have hT:s.TypeIs (.ref z) "zip":=⟨_,hz,rfl⟩
 have fin:∀ (h':Heap) (tk:Nat) (e:Addr),(∀ c o,c≠z→c≠TO→c≠i1→c≠i2→s.heap.get? c=some o→h'.get? c=some o)→(∃ o,h'.get? e=some o∧o.cls=.type "StopIteration") →
   wpAny (model P w) A (do if ← isInstance (.ref e) (.type "StopIteration") then pure (none:Option Value) else throw (.ref e)) Q E { s with heap:=h',toks:=tk }:=fun h' tk e kp ⟨o,ho,hc⟩ =>
  wpAny_bind (wpAny_isInstance (T:="StopIteration") (b:=true) ⟨o,ho,hc⟩ isSubtype_stop (wpAny_pure (hQ _ _ kp)))
 unfold pyNext
 refine wpAny_bind (wpAny_attempt (wpAny_callSpecial?_slot (name:=Str.ofString "__next__") hT PySem.F.slot_zip_next (wpAny_call_entry PySem.F.slot_zip_next hT PySem.F.entry_zip_next ?_ (PySem.F.args_zip_next_1 _))))
 refine wpAny_bind (m:=field (.ref z) 2) (wpAny_field hz rfl (x:=.bool false) rfl ?_)
 refine wpAny_bind (m:=field (.ref z) 3) (wpAny_field hz rfl (x:=.ref TI) rfl (wpAny_bind (wpAny_seqItems hTI rfl ?_)))
 refine wpAny_bind (m:=Builtin.SmallTypes.ownedTupleIsFree (.ref z)) ?_
 unfold Builtin.SmallTypes.ownedTupleIsFree
 refine wpAny_bind (wpAny_field hz rfl (x:=.none) rfl (wpAny_pure ?_))
 simp only [if_true]
 refine wpAny_bind (wpAny_rule (wpAny_bind (wpAny_field hz rfl (x:=.ref TO) rfl (wpAny_bind (wpAny_setField_rec hz (by simp) fun g1 q1 b1=>?_)))))
 replace q1:IsZip g1 z TI TO .ellipsis:=q1
 refine wpAny_bind ?_
 simp only [List.zipIdx_cons,List.zipIdx_nil,List.forIn_cons,List.forIn_nil]
 have st1:S1 k g1:=D1.frame k _ _ s1 fun c hc o e=>b1.extBut c o (fun q=>D.z1 (q ▸ hc)) e
 rcases l1 with rfl | ⟨l1,rfl⟩
 ·refine wpAny_bind (wpAny_bind (wpAny_onRaise (wpAny_bind (m:=Builtin.SmallTypes.nextOf (.ref i1)) (D1.done _ _ _ st1 fun g2 e b2 ⟨oe,hoe,hce⟩=>?_))))
  have q2:IsZip g2 z TI TO .ellipsis:=b2 _ _ D.i1z.symm q1
  have ez:e≠z:=fun x=>by subst x; rw [q2] at hoe; cases hoe; simp at hce
  exact wpAny_setField_rec q2 (by simp) fun g3 _ b3=>fin g3 s.toks e (fun c o c1 _ c3 _ x=>b3.extBut _ _ c1 (b2 _ _ c3 (b1.extBut _ _ c1 x))) ⟨oe,b3.extBut _ _ ez hoe,hce⟩
 ·refine wpAny_bind (wpAny_bind (wpAny_onRaise (wpAny_bind (m:=Builtin.SmallTypes.nextOf (.ref i1)) (D1.item k _ _ _ l1 st1 fun x g2 tk2 px st2 b2=>wpAny_pure ?_))))
  have r2:IsPair g2 TO a b:=b2.extBut _ _ D.TOi1 (b1.extBut _ _ D.TOz hTO)
  refine wpAny_bind (wpAny_seqItems r2 rfl (wpAny_bind (wpAny_updateSeq_pair r2 fun g3 r3 b3=>wpAny_bind (wpAny_letGo (wpAny_pure ?_)))))
  have st3:S2 k g3:=D2.frame k _ _ s2 fun c hc o e=>b3.extBut c o (fun q=>D.t2 (q ▸ hc)) (b2.extBut c o (fun q=>D.a2 (q ▸ hc)) (b1.extBut c o (fun q=>D.z2 (q ▸ hc)) e))
  refine wpAny_bind (wpAny_bind (wpAny_onRaise (wpAny_bind (m:=Builtin.SmallTypes.nextOf (.ref i2)) (D2.done _ _ _ st3 fun g4 e b4 zz9=>?_))))
  obtain ⟨oe,hoe,hce⟩:=zz9
  have q4:IsZip g4 z TI TO .ellipsis:=b4 _ _ D.i2z.symm (b3.extBut _ _ D.TOz.symm (b2.extBut _ _ D.i1z.symm q1))
  have ez:e≠z:=fun x=>by subst x; rw [q4] at hoe; cases hoe; simp at hce
  exact wpAny_setField_rec q4 (by simp) fun g5 _ b5=>fin g5 tk2 e (fun c o c1 c2 c3 c4 x=>b5.extBut _ _ c1 (b4 _ _ c4 (b3.extBut _ _ c2 (b2.extBut _ _ c3 (b1.extBut _ _ c1 x))))) ⟨oe,b5.extBut _ _ ez hoe,hce⟩
end
end L2
set_option maxHeartbeats 4000000
namespace L2
open PySem PySem.Spec PyProof.Rows
inductive ZS where
 | l (a:Addr)
 | t (a:Addr)
 | s (x:Str)
noncomputable def ZS.ad:ZS→List Addr
 | .l a=>[a]
 | .t a=>[a]
 | .s _=>[]
noncomputable def ZS.has (K:PySem.W.Frag) (H:Hp) (S:ZS) (xs:List V):Prop:=match S with
 | .l a=>SqL K H a xs
 | .t a=>SqT K H a xs
 | .s x=>x.cps.all (· < 128)=true∧xs=x.cps.toList.map fun c=>V.str ⟨#[c]⟩
noncomputable def ZS.it (S:ZS) (i:Addr) (k:Nat) (h:Heap):Prop:=match S with
 | .l a=>h.IsListIter i a k
 | .t a=>IsTupIter h i a k
 | .s x=>∃ t,h.IsStrIter i "str_ascii_iterator" x t k
noncomputable def ZS.v:ZS→V
 | .l a=>.ref a
 | .t a=>.ref a
 | .s x=>.str x
theorem ZS.it_obj {S:ZS} {i:Addr} {k:Nat} {h:Heap} (st:S.it i k h):∃ o,h.get? i=some o∧∀ v,o.data≠.cell v:=by
 cases S with
 | l a=>obtain ⟨o,e,_,d⟩:=st; exact ⟨o,e,fun v z=>by rw [d] at z; cases z⟩
 | t a=>obtain ⟨o,e,_,d⟩:=st; exact ⟨o,e,fun v z=>by rw [d] at z; cases z⟩
 | s x=>obtain ⟨t,o,e,_,d⟩:=st; exact ⟨o,e,fun v z=>by rw [d] at z; cases z⟩
theorem ZS.it_keep {S:ZS} {i:Addr} {k:Nat} {h h':Heap} (st:S.it i k h) (kp:∀ o,h.get? i=some o→h'.get? i=some o):S.it i k h':=by
 cases S with
 | l a=>obtain ⟨o,e,r⟩:=st; exact ⟨o,kp o e,r⟩
 | t a=>obtain ⟨o,e,r⟩:=st; exact ⟨o,kp o e,r⟩
 | s x=>obtain ⟨t,o,e,r⟩:=st; exact ⟨t,o,kp o e,r⟩
theorem ZS.has_inj {X:Cx} {pins:List (Addr × Obj)} {σ:List (Option V)} {H:Hp} {s:Shared} (I:Inv X pins σ H s) {S:ZS} {xs ys:List V} (h1:S.has X.K H xs) (h2:S.has X.K H ys):xs=ys:=by
 cases S with
 | l a=>exact I.list_inj h1 h2
 | t a=>exact I.tuple_inj h1 h2
 | s x=>rw [h1.2,h2.2]
section
variable {X:Cx} {pins:List (Addr × Obj)} {σ:List (Option V)} {H:Hp} {s:Shared}
theorem ZS.draws (I:Inv X pins σ H s) {A:Around} (hh:A.handled=none) {S:ZS} {xs:List V} (h:S.has X.K H xs) {i:Addr} (hi:i ∉ S.ad) {k:Nat} (st:S.it i k s.heap) :
  ∃ (P1:Nat→Value→Prop) (St:Nat→Heap→Prop),Draws X.prog X.w A i (i :: S.ad) xs.length P1 St∧St k s.heap∧(∀ k h,St k h→S.it i k h)∧∀ (k:Nat) (v:Value) (x:V),P1 k v→xs[k]?=some x→RelV x v:=by
 cases S with
 | l a =>
  obtain ⟨its,rv,pl,_⟩:=I.list h
  have hl:xs.length=its.toArray.size:=by rw [List.size_toArray]; exact rv.length
  have hne:a≠i:=fun z=>hi (by rw [z]; exact List.mem_singleton.mpr rfl)
  refine ⟨_,_,hl ▸ Draws.list hh i a hne its.toArray,⟨st,pl.isList⟩,fun k h st=>st.1,fun k v x hv hx=>?_⟩
  obtain ⟨u,hu,ru⟩:=rv.get hx
  have:its.toArray[k]?=some v:=hv
  rw [List.getElem?_toArray,hu] at this
  cases this
  exact ru
 | t a =>
  obtain ⟨its,rv,pl,_⟩:=I.tuple h
  have hl:xs.length=its.toArray.size:=by rw [List.size_toArray]; exact rv.length
  have hne:a≠i:=fun z=>hi (by rw [z]; exact List.mem_singleton.mpr rfl)
  refine ⟨_,_,hl ▸ draws_tup hh i a hne its.toArray,⟨st,pl⟩,fun k h st=>st.1,fun k v x hv hx=>?_⟩
  obtain ⟨u,hu,ru⟩:=rv.get hx
  have:its.toArray[k]?=some v:=hv
  rw [List.getElem?_toArray,hu] at this
  cases this
  exact ru
 | s x =>
  obtain ⟨ha,rfl⟩:=h
  obtain ⟨t,st⟩:=st
  have hl:(x.cps.toList.map fun c=>V.str ⟨#[c]⟩).length=x.cps.size:=by rw [List.length_map,Array.length_toList]
  refine ⟨_,_,hl ▸ Draws.strAscii hh i x t,st,fun k h st=>⟨t,st⟩,fun k v y hv hy=>?_⟩
  obtain ⟨c,u,hc,rfl⟩:=hv
  rw [List.getElem?_map,Array.getElem?_toList,hc] at hy
  cases hy
  exact ⟨u,rfl⟩
end
noncomputable def Itz2 (K:PySem.W.Frag) (S T:ZS):It :=
  ⟨fun i H=>∃ xs ys x y,S.has K H xs∧T.has K H ys∧xs[i]?=some x∧ys[i]?=some y,
   fun i H v H'=>∃ q x y,H q=none∧v=.ref q∧(∀ xs,S.has K H xs→xs[i]?=some x)∧(∀ ys,T.has K H ys→ys[i]?=some y)∧H'=upd H q (.tup [x,y]),
   fun i H=>∃ xs ys,S.has K H xs∧T.has K H ys∧i=xs.length∧xs.length=ys.length⟩
theorem turn_zip2 {P:Program} {w:World} {K:PySem.W.Frag} {elts:List Expr} {x1:Nat} {pos:Pos} (S T:ZS) (z TI TO i1 i2:Addr) (D:ZA z TI TO i1 i2 (i1 :: S.ad) (i2 :: T.ad)) (h1:i1 ∉ S.ad) (h2:i2 ∉ T.ad) :
  Turn P w K (.Tuple elts x1 pos) (Itz2 K S T) [z,TI,TO,i1,i2] z (fun i h=>IsZip h z TI TO .none∧IsPair h TI (.ref i1) (.ref i2)∧(∃ u v,IsPair h TO u v)∧S.it i1 i h∧T.it i2 i h) where
 mem:=by simp
 obj:=fun i h st c hc=>by
  obtain ⟨s1,s2,⟨u,v,s3⟩,s4,s5⟩:=st
  have hc:c=z∨c=TI∨c=TO∨c=i1∨c=i2:=by simpa using hc
  rcases hc with rfl | rfl | rfl | rfl | rfl
  ·exact ⟨_,s1,fun v y=>by have y':Data.fields _=Data.cell v:=y; cases y'⟩
  ·exact ⟨_,s2,fun v y=>by have y':Data.seq _ _=Data.cell v:=y; cases y'⟩
  ·exact ⟨_,s3,fun v y=>by have y':Data.seq _ _=Data.cell v:=y; cases y'⟩
  ·exact ZS.it_obj s4
  ·exact ZS.it_obj s5
 keep:=fun i h h' st k=>by
  obtain ⟨s1,s2,⟨u,v,s3⟩,s4,s5⟩:=st
  exact ⟨k z (by simp) _ s1,k TI (by simp) _ s2,⟨u,v,k TO (by simp) _ s3⟩,ZS.it_keep s4 fun o e=>k i1 (by simp) o e,ZS.it_keep s5 fun o e=>k i2 (by simp) o e⟩
 item:=by
  intro X hP hw hK hc i pins s σ H E I hf st hg
  subst hP hw hK
  obtain ⟨xs,ys,x,y,hqx,hqy,hx,hy⟩:=hg
  obtain ⟨s1,s2,⟨u0,v0,s3⟩,s4,s5⟩:=st
  have hh:X.A.in1.handled=none:=I.ok.hd hc
  obtain ⟨P1,St1,D1,t1,k1,r1⟩:=ZS.draws I hh hqx h1 s4
  obtain ⟨P2,St2,D2,t2,k2,r2⟩:=ZS.draws I hh hqy h2 s5
  refine zipD_item D1 D2 D s1 s2 s3 t1 t2 (List.getElem?_eq_some_iff.mp hx).1 (List.getElem?_eq_some_iff.mp hy).1 fun u v h' tk pu pv a1 a2 a3 a4 a5 a7=>?_
  have ru:=r1 i u x pu hx
  have rv:=r2 i v y pv hy
  refine ⟨.ref s.heap.objs.size,rfl,wpAny_letOwnedTupleGo_zip (s:={ s with heap:=h',toks:=tk }) a1 fun h'' b1 sb=>?_⟩
  replace sb:Heap.SameBut z h' h'':=sb
  have lt:∀ c∈[z,TI,TO,i1,i2],c < s.heap.objs.size:=fun c hc=>by
   have hc:c=z∨c=TI∨c=TO∨c=i1∨c=i2:=by simpa using hc
   rcases hc with rfl | rfl | rfl | rfl | rfl
   ·exact Heap.lt_size s1
   ·exact Heap.lt_size s2
   ·exact Heap.lt_size s3
   ·obtain ⟨o,e,_⟩:=ZS.it_obj s4; exact Heap.lt_size e
   ·obtain ⟨o,e,_⟩:=ZS.it_obj s5; exact Heap.lt_size e
  have keepb:∀ c o,c≠z→c≠TO→c≠i1→c≠i2→s.heap.get? c=some o→h''.get? c=some o:=fun c o n1 n2 n3 n4 e=>(sb.2 c n1).trans (a7 c o n1 n2 n3 n4 e)
  have ht'':h''.get? s.heap.objs.size=some { cls:=.type "tuple",data:=.seq #[u,v] }:=(sb.2 _ (Nat.ne_of_gt (lt z (by simp)))).trans a5
  have hn:H s.heap.objs.size=none:=I.hok.fresh (Nat.le_refl _)
  have I2:Inv X pins σ (upd H s.heap.objs.size (.tup [x,y])) { s with heap:=h'',toks:=tk }:=by
   have out:∀ c,c ∉ [z,TO,i1,i2]→c≠z∧c≠TO∧c≠i1∧c≠i2:=fun c hc=>by simpa using hc
   refine I.step (g':=s.gens) (d':=s.drawn) (ch:=[z,TO,i1,i2]) (fun c hc=>?_) (fun c o _ _ hc q _=>?_) (fun c o _ _ hc q _=>⟨o.slots,?_⟩) (fun c o _ q n=>by rw [upd_ne (Nat.ne_of_lt (Heap.lt_size q))]; exact n)
    (fun c o hc q=>⟨o,?_⟩) (fun c zs q=>by rw [upd_ne (ne_of_none q hn)]; exact q) (fun c o zs q=>by rw [upd_ne (ne_of_none q hn)]; exact q) (fun c ps q=>⟨#[],by rw [upd_ne (ne_of_none q hn),q]; simp⟩) (fun m hm=>?_) (fun c v' q=>?_) I.bare
   ·have hc:c=z∨c=TO∨c=i1∨c=i2:=by simpa using hc
    have hm:c∈[z,TI,TO,i1,i2]:=by rcases hc with rfl | rfl | rfl | rfl <;> simp
    obtain ⟨f0,f1,f2,f3,f4,f5⟩:=hf c hm
    exact ⟨f3,f1,f4,f5⟩
   ·obtain ⟨n1,n2,n3,n4⟩:=out c hc; exact keepb c o n1 n2 n3 n4 q
   ·obtain ⟨n1,n2,n3,n4⟩:=out c hc; exact keepb c o n1 n2 n3 n4 q
   ·obtain ⟨n1,n2,n3,n4⟩:=out c hc; exact keepb c o n1 n2 n3 n4 q
   ·obtain ⟨o,es,ep,ho,r⟩:=hm
    exact ⟨o,es,ep,keepb _ o (Ne.symm (hf z (by simp)).2.1) (Ne.symm (hf TO (by simp)).2.1) (Ne.symm (hf i1 (by simp)).2.1) (Ne.symm (hf i2 (by simp)).2.1) ho,r⟩
   ·by_cases hb:c=s.heap.objs.size
    ·subst hb
     rw [upd_same] at q
     cases q
     exact ⟨by show 2≤sizeLine; decide,[u,v],.cons ru (.cons rv .nil),⟨_,ht'',rfl,_,rfl⟩⟩
    ·rw [upd_ne hb] at q
     refine (I.hok c v' q).stay (fun e w' he y'=>keepb e w' ?_ ?_ ?_ ?_ y') (fun d y'=>by rw [upd_ne (ne_of_none y' hn)]; exact y') fun d zs y'=>by rw [upd_ne (ne_of_none y' hn)]; exact y'
     all_goals
      rintro rfl
      have hz0:H e=none:=(hf e (by simp)).1
      rcases he with y' | y'
      ·rw [y',q] at hz0; cases hz0
      ·rw [hz0] at y'; cases y'
  refine ⟨.ref s.heap.objs.size,_,I2,rfl,⟨_,x,y,hn,rfl,fun zs hz=>by rw [ZS.has_inj I hz hqx]; exact hx,fun zs hz=>by rw [ZS.has_inj I hz hqy]; exact hy,rfl⟩,
   ⟨b1,(sb.2 TI D.TIz).trans (a7 TI _ D.TIz D.TITO D.TIi1 D.TIi2 s2),⟨u,v,(sb.2 TO D.TOz).trans a2⟩,ZS.it_keep (k1 _ _ a3) fun o e=>(sb.2 i1 D.i1z).trans e,ZS.it_keep (k2 _ _ a4) fun o e=>(sb.2 i2 D.i2z).trans e⟩,fun c hc=>?_⟩
  rw [upd_ne (Nat.ne_of_lt (lt c hc))]
  exact (hf c hc).1
 done:=by
  intro X hP hw hK hc i pins s σ H E I hf st hg
  subst hP hw hK
  obtain ⟨xs,ys,hqx,hqy,e1,e2⟩:=hg
  obtain ⟨s1,s2,⟨u0,v0,s3⟩,s4,s5⟩:=st
  have hh:X.A.in1.handled=none:=I.ok.hd hc
  obtain ⟨P1,St1,D1,t1,k1,r1⟩:=ZS.draws I hh hqx h1 s4
  obtain ⟨P2,St2,D2,t2,k2,r2⟩:=ZS.draws I hh hqy h2 s5
  refine zipD_end D1 D2 D s1 s2 s3 t1 t2 (.inl e1) fun h' tk eb=>⟨rfl,?_⟩
  ·have out:∀ c,c ∉ [z,TO,i1,i2]→c≠z∧c≠TO∧c≠i1∧c≠i2:=fun c hc=>by simpa using hc
   refine I.step (g':=s.gens) (d':=s.drawn) (t':=tk) (ch:=[z,TO,i1,i2]) (fun c hc=>?_) (fun c o _ _ hc q _=>?_) (fun c o _ _ hc q _=>⟨o.slots,?_⟩) (fun c o _ q n=>n)
    (fun c o hc q=>⟨o,?_⟩) (fun c zs q=>q) (fun c o zs q=>q) (fun c ps q=>⟨#[],by rw [q]; simp⟩) (fun m hm=>?_) (fun c v' q=>?_) I.bare
   ·have hc:c=z∨c=TO∨c=i1∨c=i2:=by simpa using hc
    have hm:c∈[z,TI,TO,i1,i2]:=by rcases hc with rfl | rfl | rfl | rfl <;> simp
    obtain ⟨f0,f1,f2,f3,f4,f5⟩:=hf c hm
    exact ⟨f3,f1,f4,f5⟩
   ·obtain ⟨n1,n2,n3,n4⟩:=out c hc; exact eb c o n1 n2 n3 n4 q
   ·obtain ⟨n1,n2,n3,n4⟩:=out c hc; exact eb c o n1 n2 n3 n4 q
   ·obtain ⟨n1,n2,n3,n4⟩:=out c hc; exact eb c o n1 n2 n3 n4 q
   ·obtain ⟨o,es,ep,ho,r⟩:=hm
    exact ⟨o,es,ep,eb _ o (Ne.symm (hf z (by simp)).2.1) (Ne.symm (hf TO (by simp)).2.1) (Ne.symm (hf i1 (by simp)).2.1) (Ne.symm (hf i2 (by simp)).2.1) ho,r⟩
   ·refine (I.hok c v' q).stay (fun e w' he y'=>eb e w' ?_ ?_ ?_ ?_ y') (fun d y'=>y') fun d zs y'=>y'
    all_goals
     rintro rfl
     have hz0:H e=none:=(hf e (by simp)).1
     rcases he with y' | y'
     ·rw [y',q] at hz0; cases hz0
     ·rw [hz0] at y'; cases y'
 self:=fun _ _ _ _ _ st h=>wpAny_pyIter_zip st.1 h
section
variable {P:Program} {w:World}
noncomputable def IterOk (P:Program) (w:World) (v:Value) (o:Obj) (C:Heap→Prop):Prop:=(∀ h u,C h→C (h.push u))∧∀ (A:Around) (E:Value→Shared→Prop) (s:Shared) (Q:Value→Shared→Prop),C s.heap→Q (.ref s.heap.objs.size) { s with heap:=s.heap.push o }→wpAny (model P w) A (pyIter v) Q E s
theorem call_zipD {A:Around} {E:Value→Shared→Prop} {s:Shared} {v1 v2:Value} {o1 o2:Obj} {C1 C2:Heap→Prop} {Q:Value→Shared→Prop} (I1:IterOk P w v1 o1 C1) (I2:IterOk P w v2 o2 C2) (c1:C1 s.heap) (c2:C2 s.heap)
  (h:∀ h',IsZip h' (s.heap.objs.size + 4) (s.heap.objs.size + 2) (s.heap.objs.size + 3) .none→IsPair h' (s.heap.objs.size + 2) (.ref s.heap.objs.size) (.ref (s.heap.objs.size + 1)) →
   IsPair h' (s.heap.objs.size + 3) .none .none→h'.get? s.heap.objs.size=some o1→h'.get? (s.heap.objs.size + 1)=some o2→(∀ c o,s.heap.get? c=some o→h'.get? c=some o)→Q (.ref (s.heap.objs.size + 4)) { s with heap:=h' }) (f1:o1.isFreed=false) (f2:o2.isFreed=false) :
  wpAny (model P w) A (call (.type "zip") [v1,v2]) Q E s:=by
 have M:MeetsIn P w (Builtin.«zip.__new__» ⟨[.type "zip",v1,v2],[]⟩) (fun _ R s=>C1 s.heap∧C2 s.heap∧R (.ok (.ret (.ref ((((s.heap.push o1).push o2).push { cls:=.type "tuple",data:=.seq #[.ref s.heap.objs.size,.ref (s.heap.push o1).objs.size] }).push { cls:=.type "tuple",data:=.seq #[.none,.none] }).objs.size)))
   { s with heap:=((((s.heap.push o1).push o2).push { cls:=.type "tuple",data:=.seq #[.ref s.heap.objs.size,.ref (s.heap.push o1).objs.size] }).push { cls:=.type "tuple",data:=.seq #[.none,.none] }).push { cls:=.type "zip",data:=.fields #[.none,.bool false,.bool false,.ref ((s.heap.push o1).push o2).objs.size,.ref (((s.heap.push o1).push o2).push { cls:=.type "tuple",data:=.seq #[.ref s.heap.objs.size,.ref (s.heap.push o1).objs.size] }).objs.size] } }):=by
  refine .of_wp fun A R s h=>?_
  obtain ⟨hp,g,d,tk,os⟩:=s
  obtain ⟨q1,q2,h⟩:=h
  have hsub:=sub_zip
  have W1:∀ (A:Around) (E:Value→Shared→Prop) (Q:Value→Shared→Prop),Q (.ref hp.objs.size) ⟨hp.push o1,g,d,tk,os⟩→wpAny (model P w) A (pyIter v1) Q E ⟨hp,g,d,tk,os⟩:=fun A E Q q=>I1.2 A E _ Q q1 q
  have W2:∀ (A:Around) (E:Value→Shared→Prop) (Q:Value→Shared→Prop),Q (.ref (hp.push o1).objs.size) ⟨(hp.push o1).push o2,g,d,tk,os⟩→wpAny (model P w) A (pyIter v2) Q E ⟨hp.push o1,g,d,tk,os⟩:=fun A E Q q=>I2.2 A E _ Q (I2.1 _ _ q2) q
  wp_walk using W1 _ _ _,W2 _ _ _
  exact ⟨_,rfl,h⟩
 refine callType_newIn PySem.F.called_zip (by decide) (by kernel_rfl) (by kernel_rfl) (fun obj=>PySem.F.args_object_init_3 obj _ _) PySem.F.entry_zip_new M ⟨c1,c2,?_⟩
 generalize hN:s.heap.objs.size=N at *
 have z1:(s.heap.push o1).objs.size=N + 1:=by rw [Heap.size_push,hN]
 have z2:((s.heap.push o1).push o2).objs.size=N + 2:=by rw [Heap.size_push,z1]
 generalize hT1:({ cls:=.type "tuple",data:=.seq #[.ref N,.ref (s.heap.push o1).objs.size] }:Obj)=T1
 have z3:(((s.heap.push o1).push o2).push T1).objs.size=N + 3:=by rw [Heap.size_push,z2]
 generalize hT2:({ cls:=.type "tuple",data:=.seq #[.none,.none] }:Obj)=T2
 have z4:((((s.heap.push o1).push o2).push T1).push T2).objs.size=N + 4:=by rw [Heap.size_push,z3]
 have e1:(s.heap.push o1).get? N=some o1:=by rw [← hN]; exact Heap.get?_push_size _ f1
 have e2:((s.heap.push o1).push o2).get? (N + 1)=some o2:=by rw [← z1]; exact Heap.get?_push_size _ f2
 have e3:(((s.heap.push o1).push o2).push T1).get? (N + 2)=some T1:=by rw [← z2]; exact Heap.get?_push_size _ (by rw [← hT1]; rfl)
 have e4:((((s.heap.push o1).push o2).push T1).push T2).get? (N + 3)=some T2:=by rw [← z3]; exact Heap.get?_push_size _ (by rw [← hT2]; rfl)
 rw [z4,z3,z2]
 generalize hZ:({ cls:=.type "zip",data:=.fields #[.none,.bool false,.bool false,.ref (N + 2),.ref (N + 3)] }:Obj)=Z
 have e5:(((((s.heap.push o1).push o2).push T1).push T2).push Z).get? (N + 4)=some Z:=by rw [← z4]; exact Heap.get?_push_size _ (by rw [← hZ]; rfl)
 refine ⟨⟨_,e5,by rw [← hZ]⟩,h _ (e5.trans (by rw [← hZ])) (by
  have:=Heap.get?_push_of_some Z (Heap.get?_push_of_some T2 e3)
  rw [← hT1,z1] at this
  rw [← hT1,z1]
  exact this) (by
  have:=Heap.get?_push_of_some Z e4
  rw [← hT2] at this ⊢
  exact this) (Heap.get?_push_of_some _ (Heap.get?_push_of_some _ (Heap.get?_push_of_some _ (Heap.get?_push_of_some _ e1)))) (Heap.get?_push_of_some _ (Heap.get?_push_of_some _ (Heap.get?_push_of_some _ e2))) fun c o x=>Heap.get?_push_of_some _ (Heap.get?_push_of_some _ (Heap.get?_push_of_some _ (Heap.get?_push_of_some _ (Heap.get?_push_of_some _ x))))⟩
end
end L2
set_option maxHeartbeats 4000000
namespace L2
open PySem PySem.Spec PyProof.Rows
section
variable {X:Cx} {pins:List (Addr × Obj)} {σ:List (Option V)} {H:Hp} {s:Shared}
theorem ZS.iter (I:Inv X pins σ H s) {S:ZS} {xs:List V} (h:S.has X.K H xs) {v:Value} (r:RelV S.v v):∃ (o:Obj) (C:Heap→Prop),IterOk X.prog X.w v o C∧C s.heap∧o.isFreed=false∧(∀ (h:Heap) (i:Addr),h.get? i=some o→S.it i 0 h)∧∀ a∈S.ad,a < s.heap.objs.size:=by
 cases S with
 | l a =>
  obtain ⟨its,rv,pl,_⟩:=I.list h
  cases r
  refine ⟨_,fun h=>h.IsList a its.toArray,⟨fun h u c=>c.push u,fun A E s Q c q=>wpAny_pyIter_list c q⟩,pl.isList,rfl,fun h i e=>⟨_,e,rfl,rfl⟩,fun b hb=>?_⟩
  obtain ⟨o,ho,_⟩:=pl.isList
  rw [List.mem_singleton.mp hb]
  exact Heap.lt_size ho
 | t a =>
  obtain ⟨its,rv,pl,_⟩:=I.tuple h
  cases r
  refine ⟨_,fun h=>IsTup h a its.toArray,⟨fun h u c=>c.keeps fun b o e=>Heap.get?_push_of_some _ e,fun A E s Q c q=>iter_tuple c q⟩,pl,rfl,fun h i e=>⟨_,e,rfl,rfl⟩,fun b hb=>?_⟩
  rw [List.mem_singleton.mp hb]
  exact pl.lt
 | s x =>
  obtain ⟨ha,rfl⟩:=h
  obtain ⟨t,rfl⟩:=r
  exact ⟨_,fun _=>True,⟨fun h u c=>trivial,fun A E s Q c q=>wpAny_pyIter_ascii ha q⟩,trivial,rfl,fun h i e=>⟨t,_,e,rfl,rfl⟩,fun b hb=>absurd hb List.not_mem_nil⟩
theorem za_new {N:Nat} {f g:List Addr} (h1:∀ a∈f,a < N) (h2:∀ a∈g,a < N):ZA (N + 4) (N + 2) (N + 3) N (N + 1) (N :: f) ((N + 1) :: g):=by
 have nf:∀ k,N + k ∉ f:=fun k z=>absurd (h1 _ z) (Nat.not_lt.mpr (Nat.le_add_right _ _))
 have ng:∀ k,N + k ∉ g:=fun k z=>absurd (h2 _ z) (Nat.not_lt.mpr (Nat.le_add_right _ _))
 have e:∀ {i j:Nat},i≠j→N + i≠N + j:=fun h z=>h (Nat.add_left_cancel z)
 have c1:∀ {k:Nat} {f:List Addr} {i:Addr},N + k≠i→N + k ∉ f→N + k ∉ i :: f:=fun h1 h2 z=>by
  rcases List.mem_cons.mp z with q | q
  ·exact h1 q
  ·exact h2 q
 exact ⟨e (by decide),e (by decide),e (i:=0) (by decide),e (by decide),e (by decide),e (j:=0) (by decide),e (by decide),e (j:=0) (by decide),e (by decide),e (i:=0) (by decide),c1 (e (j:=0) (by decide)) (nf 4),c1 (e (by decide)) (ng 4),c1 (e (j:=0) (by decide)) (nf 3),c1 (e (by decide)) (ng 3),c1 (e (j:=0) (by decide)) (nf 1),c1 (k:=0) (e (by decide)) (ng 0)⟩
noncomputable def iZip2 (K:PySem.W.Frag) (ta:TA):TI:=fun σ H R=>ta σ H fun vs H1=>∃ (S T:ZS) (xs ys:List V),vs=[S.v,T.v]∧S.has K H1 xs∧T.has K H1 ys∧R (Itz2 K S T) H1
theorem pi_zip2 {elts:List Expr} {x1:Nat} {tpos p pos:Pos} {l m:Expr} {ta:TA} (hg:Gl X "zip") (hm:X.mg "zip"=none) (ha:PA X [l,m] ta) (hs:starEach [l,m] X.env=[(false,eval l X.env),(false,eval m X.env)]:=by rfl) (hs2:starEach [m] X.env=[(false,eval m X.env)]:=by rfl) :
  PI X (.Tuple elts x1 tpos) (.Call (.Name "zip" p) [l,m] [] pos) (iZip2 X.K ta):=by
 intro pins s σ H R I h
 refine Call_ (ld_blt I hg hm boot_zip (PyProof.Rows.callWith_type1 (thn (ha pos pins s σ H _ I h) fun us s1 ⟨vs,H1,I1,r1,q1⟩=>?_) (by rw [hs,hs2]) (by rw [hs2]; rfl)))
 obtain ⟨S,T,xs,ys,e,hqx,hqy,q⟩:=q1
 subst e
 obtain ⟨u,v,rfl,ru,rv⟩:=r1.two
 obtain ⟨o1,C1,i1,c1,f1,t1,l1⟩:=ZS.iter I1 hqx ru
 obtain ⟨o2,C2,i2,c2,f2,t2,l2⟩:=ZS.iter I1 hqy rv
 refine call_zipD i1 i2 c1 c2 (fun h' z1 z2 z3 z4 z5 z7=>wpAny_pyIter_zip z1 ?_) f1 f2
 have I2:Inv X pins σ H1 { s1 with heap:=h' }:=I1.kept (t':=s1.toks) z7
 generalize hN:s1.heap.objs.size=N at *
 have n1:N ∉ S.ad:=fun z=>Nat.lt_irrefl _ (l1 _ z)
 have n2:N + 1 ∉ T.ad:=fun z=>absurd (l2 _ z) (Nat.not_lt.mpr (Nat.le_succ _))
 refine ⟨N + 4,[N + 4,N + 2,N + 3,N,N + 1],_,_,H1,rfl,I2,turn_zip2 S T (N + 4) (N + 2) (N + 3) N (N + 1) (za_new l1 l2) n1 n2,⟨z1,z2,⟨_,_,z3⟩,t1 _ _ z4,t2 _ _ z5⟩,fun c hc=>?_,q⟩
 have hc:s1.heap.objs.size≤c:=by
  have hc:c=N + 4∨c=N + 2∨c=N + 3∨c=N∨c=N + 1:=by simpa using hc
  rw [hN]
  rcases hc with rfl | rfl | rfl | rfl | rfl
  ·exact Nat.le_add_right _ _
  ·exact Nat.le_add_right _ _
  ·exact Nat.le_add_right _ _
  ·exact Nat.le_refl _
  ·exact Nat.le_add_right _ _
 exact I1.fpOk hc (I1.hok.fresh hc)
theorem for_zip2 {K:PySem.W.Frag} {S T:ZS} {xs ys:List V} {g:TG} {tb:TS} {D:Ends} {σ:St} {H:Hp} (hlen:xs.length=ys.length) (Pv:Nat→St→Hp→Prop) (h0:Pv 0 σ H) (hl:∀ i σ H,i≤xs.length→Pv i σ H→S.has K H xs∧T.has K H ys)
  (hs:∀ i x y σ H q,xs[i]?=some x→ys[i]?=some y→H q=none→Pv i σ H→g (.ref q) σ (upd H q (.tup [x,y])) fun σ2 H2=>tb { D with nx:=Pv (i + 1),ct:=Pv (i + 1),bk:=D.nx } σ2 H2) (hd:∀ σ H,Pv xs.length σ H→D.nx σ H) :
  ∃ W:Nat→Nat→St→Hp→Prop,(∃ m,W 0 m σ H)∧∀ i m σ H,W i m σ H →
   ((Itz2 K S T).stop i H∧D.nx σ H)∨((Itz2 K S T).go i H∧∃ N:St→Hp→Prop,(∀ σ' H',N σ' H'→∃ m',m' < m∧W (i + 1) m' σ' H')∧∀ x H',(Itz2 K S T).yld i H x H'→g x σ H' fun σ2 H2=>tb { D with nx:=N,ct:=N,bk:=D.nx } σ2 H2):=by
 refine ⟨fun i m σ H=>m=xs.length - i∧i≤xs.length∧Pv i σ H,⟨xs.length,by simp,Nat.zero_le _,h0⟩,?_⟩
 rintro i m σ H ⟨rfl,hi,p⟩
 obtain ⟨q1,q2⟩:=hl i σ H hi p
 by_cases hlt:i < xs.length
 ·have hlt2:i < ys.length:=by omega
  refine .inr ⟨⟨xs,ys,xs[i],ys[i],q1,q2,by simp [hlt],by simp [hlt2]⟩,Pv (i + 1),fun σ' H' p'=>⟨xs.length - (i + 1),by omega,rfl,hlt,p'⟩,fun x H' y=>?_⟩
  obtain ⟨c,u,v,hn,e1,y1,y2,e2⟩:=y
  subst e1 e2
  exact hs i u v σ H c (y1 xs q1) (y2 ys q2) hn p
 ·have e:i=xs.length:=by omega
  subst e
  exact .inl ⟨⟨xs,ys,q1,q2,rfl,hlen⟩,hd σ H p⟩
end
end L2
set_option maxHeartbeats 4000000
namespace L2
open PySem PySem.Spec PyProof.Rows
theorem loop_items {d:Addr} {kvs:List (Key × V)} {o:Obj} {g:TG} {tt:TT} {tb:TB} {R:St→Hp→Prop} {σ:St} {H:Hp} (Pv:Nat→St→Hp→Prop) (h0:Pv 0 σ H) (hl:∀ i σ H,i≤kvs.length→Pv i σ H→H d=some (.frz o (.dK kvs)))
  (hs:∀ (i:Nat) k x σ H q,kvs[i]?=some (k,x)→H q=none→Pv i σ H→g (.ref q) σ (upd H q (.tup [kV k,x])) fun σ2 H2=>tt σ2 H2 fun b H3=>if b=true then tb σ2 H3 (Pv (i + 1)) else Pv (i + 1) σ2 H3) (hd:∀ σ H,Pv kvs.length σ H→R σ H):LoopR (Itm2 d kvs o) g tt tb R σ H:=by
 refine ⟨fun i m σ H=>m=kvs.length - i∧i≤kvs.length∧Pv i σ H,⟨kvs.length,by simp,Nat.zero_le _,h0⟩,?_⟩
 rintro i m σ H ⟨rfl,hi,p⟩
 have q:=hl i σ H hi p
 by_cases hlt:i < kvs.length
 ·refine .inr ⟨⟨hlt,q⟩,Pv (i + 1),fun σ' H' p'=>⟨kvs.length - (i + 1),by omega,rfl,hlt,p'⟩,fun x H' y=>?_⟩
  obtain ⟨c,k,v,hn,e1,y,e2⟩:=y
  subst e1 e2
  exact hs i k v σ H c y hn p
 ·have e:i=kvs.length:=by omega
  subst e
  exact .inl ⟨⟨Nat.le_refl _,q⟩,hd σ H p⟩
noncomputable def tThawE (H0:Hp) (t:TE):TE:=fun σ H Q=>t σ H fun v H'=>∃ (a:Addr) (o:Obj) (kvs:List (Key × V)),H' a=some (.frz o (.dK kvs))∧(∀ o u,H0 a≠some (.frz o u))∧Q v (upd H' a (.dK kvs))
theorem pe_thaw {X:Cx} {e:Expr} {t:TE} (h:PE X e t):PE X e (tThawE X.H₀ t):=by
 intro pins s σ H Q I hw
 refine wpAny_mono (h pins s σ H _ I hw) (fun v s' q=>?_) fun _ _ e=>e
 obtain ⟨x,H',I',r,a,o,kvs,e,h0,q⟩:=q
 exact ⟨x,_,I'.thaw e h0,r,q⟩
end L2
set_option maxHeartbeats 4000000
namespace KT
structure Mx where
 a:Nat
 b:Nat
 c:Nat
 d:Nat
namespace Mx
noncomputable def one:Mx:=⟨1,0,0,1⟩
noncomputable def mul (x y:Mx):Mx:=⟨x.a * y.a + x.b * y.c,x.a * y.b + x.b * y.d,x.c * y.a + x.d * y.c,x.c * y.b + x.d * y.d⟩
noncomputable def tp (x:Mx):Mx:=⟨x.a,x.c,x.b,x.d⟩
noncomputable def tr (x:Mx):Nat:=x.a + x.d
noncomputable def dg (v:Nat × Nat):Mx:=⟨v.1,0,0,v.2⟩
noncomputable def tu (l:Bool):Mx:=if l then ⟨1,1,0,1⟩ else ⟨1,0,1,1⟩
noncomputable def stp (x:Mx) (q:(Nat × Nat) × Bool):Mx:=if q.2 then ⟨x.a * q.1.1,x.b * q.1.2 + x.a * q.1.1,x.c * q.1.1,x.d * q.1.2 + x.c * q.1.1⟩ else ⟨x.a * q.1.1 + x.b * q.1.2,x.b * q.1.2,x.c * q.1.1 + x.d * q.1.2,x.d * q.1.2⟩
noncomputable def tab (l:List ((Nat × Nat) × Bool)):Mx:=l.foldl stp one
noncomputable def wd:List ((Nat × Nat) × Bool)→List Mx
 | []=>[]
 | q :: l=>dg q.1 :: tu q.2 :: wd l
noncomputable def dt:List ((Nat × Nat) × Bool)→Nat
 | []=>1
 | q :: l=>q.1.1 * q.1.2 * dt l
theorem stp_det {x:Mx} {D:Nat} (q:(Nat × Nat) × Bool) (h:x.a * x.d=x.b * x.c + D):(stp x q).a * (stp x q).d=(stp x q).b * (stp x q).c + D * (q.1.1 * q.1.2):=by
 obtain ⟨v,l⟩:=q
 have h2:x.a * v.1 * (x.d * v.2)=x.b * v.2 * (x.c * v.1) + D * (v.1 * v.2):=by
  have e:x.a * v.1 * (x.d * v.2)=x.a * x.d * (v.1 * v.2):=by simp only [Nat.mul_comm,Nat.mul_left_comm]
  rw [e,h,Nat.add_mul]
  simp only [Nat.mul_comm,Nat.mul_left_comm]
 cases l
 ·show (x.a * v.1 + x.b * v.2) * (x.d * v.2)=x.b * v.2 * (x.c * v.1 + x.d * v.2) + D * (v.1 * v.2)
  rw [Nat.add_mul,Nat.mul_add,h2]
  omega
 ·show x.a * v.1 * (x.d * v.2 + x.c * v.1)=(x.b * v.2 + x.a * v.1) * (x.c * v.1) + D * (v.1 * v.2)
  rw [Nat.add_mul,Nat.mul_add,h2]
  omega
theorem fold_det:∀ (l:List ((Nat × Nat) × Bool)) (x:Mx) (D:Nat),x.a * x.d=x.b * x.c + D→(l.foldl stp x).a * (l.foldl stp x).d=(l.foldl stp x).b * (l.foldl stp x).c + D * dt l
 | [],x,D,h=>by show x.a * x.d=x.b * x.c + D * 1; rw [Nat.mul_one]; exact h
 | q :: l,x,D,h=>by
  rw [List.foldl_cons]
  have:=fold_det l (stp x q) _ (stp_det q h)
  rw [Nat.mul_assoc] at this
  exact this
theorem tab_det (l:List ((Nat × Nat) × Bool)):(tab l).a * (tab l).d=(tab l).b * (tab l).c + dt l:=by
 have:=fold_det l one 1 rfl
 rw [Nat.one_mul] at this
 exact this
theorem dt_pos:∀ {l:List ((Nat × Nat) × Bool)},(∀ q∈l,1≤q.1.1∧1≤q.1.2)→1≤dt l
 | [],_=>Nat.le_refl _
 | q :: l,h=>Nat.mul_pos (Nat.mul_pos (h q List.mem_cons_self).1 (h q List.mem_cons_self).2) (dt_pos fun p hp=>h p (List.mem_cons_of_mem _ hp))
theorem four_le (l:List ((Nat × Nat) × Bool)):4 * dt l≤tr (tab l) * tr (tab l):=by
 have h:=tab_det l
 have sq:∀ a d:Nat,4 * (a * d)≤(a + d) * (a + d):=fun a d=>by
  rcases Nat.le_total a d with q | q
  ·obtain ⟨k,rfl⟩:=Nat.exists_eq_add_of_le q
   have:(a + (a + k)) * (a + (a + k))=4 * (a * (a + k)) + k * k:=by
    simp only [Nat.add_mul,Nat.mul_add,Nat.mul_comm k a]
    omega
   omega
  ·obtain ⟨k,rfl⟩:=Nat.exists_eq_add_of_le q
   have:((d + k) + d) * ((d + k) + d)=4 * ((d + k) * d) + k * k:=by
    simp only [Nat.add_mul,Nat.mul_add,Nat.mul_comm k d]
    omega
   omega
 have:=sq (tab l).a (tab l).d
 unfold tr
 omega
theorem stp_le {x:Mx} {B k:Nat} (q:(Nat × Nat) × Bool) (h:x.a≤B∧x.b≤B∧x.c≤B∧x.d≤B) (h1:q.1.1≤k) (h2:q.1.2≤k):(stp x q).a≤B * (2 * k)∧(stp x q).b≤B * (2 * k)∧(stp x q).c≤B * (2 * k)∧(stp x q).d≤B * (2 * k):=by
 obtain ⟨v,l⟩:=q
 obtain ⟨a,b,c,d⟩:=h
 have e:B * (2 * k)=B * k + B * k:=by rw [Nat.two_mul,Nat.mul_add]
 have a1:=Nat.mul_le_mul a h1
 have b1:=Nat.mul_le_mul b h2
 have c1:=Nat.mul_le_mul c h1
 have d1:=Nat.mul_le_mul d h2
 dsimp only at a1 b1 c1 d1
 rw [e]
 cases l
 ·show x.a * v.1 + x.b * v.2≤_∧x.b * v.2≤_∧x.c * v.1 + x.d * v.2≤_∧x.d * v.2≤_
  omega
 ·show x.a * v.1≤_∧x.b * v.2 + x.a * v.1≤_∧x.c * v.1≤_∧x.d * v.2 + x.c * v.1≤_
  omega
theorem fold_le {k:Nat}:∀ (l:List ((Nat × Nat) × Bool)) (x:Mx) (B:Nat),(∀ q∈l,q.1.1≤k∧q.1.2≤k)→(x.a≤B∧x.b≤B∧x.c≤B∧x.d≤B)→(l.foldl stp x).a≤B * (2 * k) ^ l.length∧(l.foldl stp x).b≤B * (2 * k) ^ l.length∧(l.foldl stp x).c≤B * (2 * k) ^ l.length∧(l.foldl stp x).d≤B * (2 * k) ^ l.length
 | [],x,B,_,h=>by simpa using h
 | q :: l,x,B,hq,h=>by
  rw [List.foldl_cons,List.length_cons,Nat.pow_succ',← Nat.mul_assoc]
  exact fold_le l _ _ (fun p hp=>hq p (List.mem_cons_of_mem _ hp)) (stp_le q h (hq q List.mem_cons_self).1 (hq q List.mem_cons_self).2)
end Mx
end KT
set_option maxHeartbeats 4000000
namespace KT
open PySem L2 Mx
noncomputable def loS (s:Nat × Nat) (f:Nat):Nat × Nat:=(s.1 / Nat.gcd s.1 f,s.2 * (f / Nat.gcd s.1 f))
theorem lo_val {s:Nat × Nat} {f N D:Nat} (h:Val s N D) (hf:0 < f):Val (loS s f) N (D * f):=by
 have g0:0 < Nat.gcd s.1 f:=Nat.gcd_pos_of_pos_left _ h.p1
 obtain ⟨a,ha⟩:=Nat.gcd_dvd_left s.1 f
 obtain ⟨b,hb⟩:=Nat.gcd_dvd_right s.1 f
 have ea:s.1 / Nat.gcd s.1 f=a:=by rw [Nat.div_eq_iff_eq_mul_right g0 (Nat.gcd_dvd_left _ _)]; exact ha
 have eb:f / Nat.gcd s.1 f=b:=by rw [Nat.div_eq_iff_eq_mul_right g0 (Nat.gcd_dvd_right _ _)]; exact hb
 have co:Nat.gcd a b=1:=by rw [← ea,← eb,Nat.gcd_div (Nat.gcd_dvd_left _ _) (Nat.gcd_dvd_right _ _),Nat.div_self g0]
 have e:=h.eq
 have c0:=h.co
 unfold loS
 rw [ea,eb]
 generalize Nat.gcd s.1 f=m at *
 have p1:=h.p1
 have p2:=h.p2
 rw [ha] at p1 e c0
 rw [hb] at hf
 refine ⟨Nat.pos_of_mul_pos_left p1,Nat.mul_pos p2 (Nat.pos_of_mul_pos_left hf),?_,?_⟩
 ·exact Nat.Coprime.mul_right (Nat.Coprime.coprime_mul_left c0) co
 ·show a * (D * f)=s.2 * b * N
  rw [hb]
  calc a * (D * (m * b))=m * a * D * b:=by ac_rfl
   _=s.2 * b * N:=by rw [e]; ac_rfl
noncomputable def prd (fs:List Nat):Nat:=fs.foldl (· * ·) 1
theorem prd_step {fs:List Nat} {i f:Nat} (h:fs[i]?=some f):prd (fs.take (i + 1))=prd (fs.take i) * f:=by
 unfold prd
 rw [List.take_add_one,h,List.foldl_append]
 rfl
theorem lo_step {fs:List Nat} {s:Nat × Nat} {i f:Nat} (h:fs[i]?=some f):(fs.take (i + 1)).foldl loS s=loS ((fs.take i).foldl loS s) f:=by
 rw [List.take_add_one,h,List.foldl_append]
 rfl
theorem lo_vals {fs:List Nat} {N:Nat} (hN:0 < N) (hf:∀ f∈fs,0 < f):∀ i,i≤fs.length→Val ((fs.take i).foldl loS (N,1)) N (prd (fs.take i))
 | 0,_=>⟨hN,Nat.one_pos,Nat.gcd_one_right _,by show N * 1=1 * N; omega⟩
 | i + 1,h=>by
  have e:=List.getElem?_eq_getElem (show i < fs.length by omega)
  rw [lo_step e,prd_step e]
  exact lo_val (lo_vals hN hf i (by omega)) (hf _ (List.getElem_mem _))
theorem prd_pos {fs:List Nat} (hf:∀ f∈fs,0 < f):∀ i,i≤fs.length→0 < prd (fs.take i)
 | 0,_=>Nat.one_pos
 | i + 1,h=>by
  rw [prd_step (List.getElem?_eq_getElem (show i < fs.length by omega))]
  exact Nat.mul_pos (prd_pos hf i (by omega)) (hf _ (List.getElem_mem _))
theorem prd_le {fs:List Nat} {k:Nat} (hf:∀ f∈fs,f≤k):∀ i,i≤fs.length→prd (fs.take i)≤k ^ i
 | 0,_=>Nat.le_refl _
 | i + 1,h=>by
  rw [prd_step (List.getElem?_eq_getElem (show i < fs.length by omega)),Nat.pow_succ]
  exact Nat.mul_le_mul (prd_le hf i (by omega)) (hf _ (List.getElem_mem _))
theorem lo_eq {fs:List Nat} {N:Nat} (hN:0 < N) (hf:∀ f∈fs,0 < f):fs.foldl loS (N,1)=lowN N (prd fs):=by
 have h1:=lo_vals hN hf fs.length (Nat.le_refl _)
 have h2:=prd_pos hf fs.length (Nat.le_refl _)
 rw [List.take_length] at h1 h2
 exact h1.uniq (low_val hN h2) h2
theorem Val.le {v:Nat × Nat} {N D:Nat} (h:Val v N D) (hN:0 < N) (hD:0 < D):v.1≤N∧v.2≤D:=by
 rw [h.uniq (low_val hN hD) hD]
 exact lowN_le N D
noncomputable def tuB (y:Str):Bool:=decide (y=sL)
noncomputable def tuL (M:List (Option Nat)) (ws:List Nat):List Bool:=(letL M ws).map tuB
noncomputable def crL (h:Int→Nat × Nat) (ns:List Int) (ws:List Nat):List (Nat × Nat):=ws.map fun p=>h (ns.getD p 0)
noncomputable def wz (h:Int→Nat × Nat) (M:List (Option Nat)) (ns:List Int) (ws:List Nat):List ((Nat × Nat) × Bool):=(crL h ns ws).zip (tuL M ws)
noncomputable def wor (h:Int→Nat × Nat) (M:List (Option Nat)) (ns:List Int) (ws:List Nat):Nat × Nat:=lowN (tr (tab (wz h M ns ws)) * tr (tab (wz h M ns ws))) (dt (wz h M ns ws))
variable {M:List (Option Nat)} {ns:List Int} {ws:List Nat} {h:Int→Nat × Nat}
theorem crL_len:(crL h ns ws).length=ws.length:=by unfold crL; simp
theorem dt_zip:∀ (vs:List (Nat × Nat)) (ts:List Bool),vs.length=ts.length→dt (vs.zip ts)=prd (vs.flatMap fun v=>[v.1,v.2])
 | [],[],_=>rfl
 | v :: vs,t :: ts,e=>by
  have e':vs.length=ts.length:=by simpa using e
  rw [List.zip_cons_cons,List.flatMap_cons]
  show v.1 * v.2 * dt (vs.zip ts)=prd (v.1 :: v.2 :: vs.flatMap fun v=>[v.1,v.2])
  rw [dt_zip vs ts e']
  unfold prd
  rw [List.foldl_cons,List.foldl_cons,Nat.one_mul]
  exact (prd_mul _ _).symm
where
 prd_mul:∀ (k:Nat) (fs:List Nat),fs.foldl (· * ·) k=k * fs.foldl (· * ·) 1
  | k,[]=>(Nat.mul_one k).symm
  | k,f :: fs=>by
   rw [List.foldl_cons,List.foldl_cons,prd_mul (k * f) fs,prd_mul (1 * f) fs,Nat.one_mul,Nat.mul_assoc]
theorem tr_pos {l:List ((Nat × Nat) × Bool)} (hl:∀ q∈l,1≤q.1.1∧1≤q.1.2):1≤tr (tab l):=by
 have h1:=four_le l
 have h2:=dt_pos hl
 rcases Nat.eq_zero_or_pos (tr (tab l)) with z | z
 ·rw [z] at h1; omega
 ·exact z
end KT
set_option maxHeartbeats 4000000
namespace L2
open PySem PySem.Spec PyProof.Rows
noncomputable def Rise (l:List Nat):Prop:=l.Pairwise (· < ·)
theorem rise_at {xs:Array Nat} (hr:Rise xs.toList) {i k x y:Nat} (hi:xs[i]?=some x) (hk:xs[k]?=some y) (h:i < k):x < y:=by
 have e1:xs.toList[i]?=some x:=by rw [Array.getElem?_toList]; exact hi
 have e2:xs.toList[k]?=some y:=by rw [Array.getElem?_toList]; exact hk
 obtain ⟨l1,q1⟩:=List.getElem?_eq_some_iff.mp e1
 obtain ⟨l2,q2⟩:=List.getElem?_eq_some_iff.mp e2
 have:=List.pairwise_iff_getElem.mp hr i k l1 l2 h
 rw [q1,q2] at this
 exact this
theorem below_go {xs:Array Nat} {j:Nat} (hr:Rise xs.toList):∀ (fuel lo hi:Nat),hi - lo≤fuel→lo≤hi→hi≤xs.size→(∀ i x,i < lo→xs[i]?=some x→x < j)→(∀ i x,hi≤i→xs[i]?=some x→j≤x) →
  (∀ i x,i < SetTable.below.go xs j fuel lo hi→xs[i]?=some x→x < j)∧(∀ i x,SetTable.below.go xs j fuel lo hi≤i→xs[i]?=some x→j≤x)
 | 0,lo,hi,hf,hl,hs,h1,h2=>by
  have:lo=hi:=by omega
  subst this
  exact ⟨h1,h2⟩
 | fuel + 1,lo,hi,hf,hl,hs,h1,h2=>by
  unfold SetTable.below.go
  by_cases c:lo < hi
  ·rw [if_pos c]
   have hm:(lo + hi) / 2 < xs.size:=by omega
   have em:xs[(lo + hi) / 2]?=some xs[(lo + hi) / 2]:=Array.getElem?_eq_getElem hm
   have eg:xs.getD ((lo + hi) / 2) j=xs[(lo + hi) / 2]:=by rw [Array.getD_eq_getD_getElem?,em]; rfl
   dsimp only
   rw [eg]
   by_cases z:xs[(lo + hi) / 2] < j
   ·rw [if_pos z]
    refine below_go hr fuel _ _ (by omega) (by omega) hs (fun i x hi' hx=>?_) h2
    by_cases e:i=(lo + hi) / 2
    ·subst e; rw [em] at hx; cases hx; exact z
    ·exact Nat.lt_trans (rise_at hr hx em (by omega)) z
   ·rw [if_neg z]
    refine below_go hr fuel _ _ (by omega) (by omega) (by omega) h1 (fun i x hi' hx=>?_)
    by_cases e:i=(lo + hi) / 2
    ·subst e; rw [em] at hx; cases hx; omega
    ·have:=rise_at hr em hx (by omega); omega
  ·rw [if_neg c]
   have:lo=hi:=by omega
   subst this
   exact ⟨h1,h2⟩
theorem below_lt {xs:Array Nat} {j:Nat} (hr:Rise xs.toList):∀ i x,i < SetTable.below xs j→xs[i]?=some x→x < j :=
 (below_go hr xs.size 0 xs.size (by omega) (by omega) (by omega) (fun i x h=>by omega) (fun i x h hx=>by rw [Array.getElem?_eq_none h] at hx; cases hx)).1
theorem below_ge {xs:Array Nat} {j:Nat} (hr:Rise xs.toList):∀ i x,SetTable.below xs j≤i→xs[i]?=some x→j≤x :=
 (below_go hr xs.size 0 xs.size (by omega) (by omega) (by omega) (fun i x h=>by omega) (fun i x h hx=>by rw [Array.getElem?_eq_none h] at hx; cases hx)).2
theorem rise_insert {xs:Array Nat} {j:Nat} (hr:Rise xs.toList) (hn:xs[SetTable.below xs j]?≠some j):Rise (SetTable.insertAt xs (SetTable.below xs j) j).toList:=by
 unfold Rise
 rw [SetTable.toList_insertAt,List.pairwise_append]
 have hr':xs.toList.Pairwise (· < ·):=hr
 have ht:∀ a∈xs.toList.take (SetTable.below xs j),a < j:=fun a ha=>by
  obtain ⟨i,hi,e⟩:=List.mem_iff_getElem.mp ha
  rw [List.getElem_take] at e
  rw [List.length_take] at hi
  refine below_lt hr i a (by omega) ?_
  rw [← Array.getElem?_toList,List.getElem?_eq_getElem (by omega),e]
 have hd:∀ a∈xs.toList.drop (SetTable.below xs j),j < a:=fun a ha=>by
  obtain ⟨i,hi,e⟩:=List.mem_iff_getElem.mp ha
  rw [List.getElem_drop] at e
  rw [List.length_drop] at hi
  have ea:xs[SetTable.below xs j + i]?=some a:=by rw [← Array.getElem?_toList,List.getElem?_eq_getElem (by omega),e]
  have h1:=below_ge (j:=j) hr _ a (by omega) ea
  rcases Nat.lt_or_ge j a with z | z
  ·exact z
  ·have:a=j:=by omega
   subst this
   cases i with
   | zero=>exact absurd ea hn
   | succ i =>
    have hb:SetTable.below xs a < xs.size:=by rw [Array.length_toList] at hi; omega
    have eb:=Array.getElem?_eq_getElem hb
    have h2:=below_ge hr _ _ (Nat.le_refl _) eb
    have h3:=rise_at hr eb ea (by omega)
    omega
 refine ⟨hr'.sublist (List.take_sublist ..),?_,fun a ha b hb=>?_⟩
 ·rw [List.pairwise_cons]
  exact ⟨hd,hr'.sublist (List.drop_sublist ..)⟩
 ·rcases List.mem_cons.mp hb with rfl | hb
  ·exact ht a ha
  ·exact Nat.lt_trans (ht a ha) (hd b hb)
noncomputable def FreeS (t:SetTable) (j:Nat):Prop:=t.place[SetTable.below t.place j]?≠some j
theorem slot_free {t:SetTable} {j:Nat} (h:∀ i,t.slot j≠.live i):FreeS t j:=by
 intro e
 unfold SetTable.slot at h
 refine h (SetTable.below t.place j) ?_
 dsimp only
 rw [if_pos (by rw [e]; exact beq_self_eq_true _)]
theorem probe_free {t:SetTable} {ha:Nat→Int} {h:Int}:∀ (fuel:Nat) (p:SetTable.Probe) (j:Nat) (d:Option Nat),SetTable.probe.go t ha h fuel p=some (.empty j d)→(∀ e,p.dummy=some e→FreeS t e)→FreeS t j∧∀ e,d=some e→FreeS t e
 | 0,p,j,d,e,hp=>by unfold SetTable.probe.go at e; cases e
 | fuel + 1,p,j,d,e,hp=>by
  unfold SetTable.probe.go at e
  cases c:t.slot p.j with
  | empty =>
   rw [c] at e
   cases e
   exact ⟨slot_free (fun i z=>by rw [c] at z; cases z),hp⟩
  | dummy =>
   rw [c] at e
   refine probe_free fuel _ j d e fun x hx=>?_
   have adv:∀ q:SetTable.Probe,(t.advance q).dummy=q.dummy:=fun q=>by unfold SetTable.advance; split <;> rfl
   rw [adv] at hx
   cases hx
   exact slot_free fun i z=>by rw [c] at z; cases z
  | live i =>
   rw [c] at e
   dsimp only at e
   split at e
   ·cases e
   ·refine probe_free fuel _ j d e fun x hx=>?_
    have adv:∀ q:SetTable.Probe,(t.advance q).dummy=q.dummy:=fun q=>by unfold SetTable.advance; split <;> rfl
    rw [adv] at hx
    exact hp x hx
theorem rise_range (n:Nat):Rise (Array.range n).toList:=by
 unfold Rise
 rw [Array.toList_range]
 exact List.pairwise_lt_range
theorem layNew_rise {t:SetTable} (es:Array (Int × Value)) (h:Int) (x:Value) (hr:Rise t.place.toList):Rise (layNew t es h x).2.1.place.toList∧(layNew t es h x).2.1.led=t.led:=by
 unfold layNew
 split
 ·rename_i slot wd e
  have hf:FreeS t slot:=by
   unfold SetTable.freeSlot SetTable.probe at e
   split at e
   ·rename_i j d ep
    obtain ⟨h1,h2⟩:=probe_free _ _ j d ep (fun e he=>by unfold SetTable.probeStart at he; cases he)
    cases d with
    | none=>cases e; exact h1
    | some q=>cases e; exact h2 q rfl
   ·cases e
  dsimp only
  unfold SetTable.orStandIn
  split
  ·exact ⟨rise_insert hr hf,rfl⟩
  ·exact ⟨rise_range _,rfl⟩
 ·exact ⟨rise_range _,rfl⟩
theorem live_rise (f:Nat→Option Nat) (n:Nat):Rise (((List.range n).filterMap fun j=>(f j).map (j,·)).map (·.1)):=by
 have e:∀ l:List Nat,(l.filterMap fun j=>(f j).map (j,·)).map (·.1)=l.filter fun j=>(f j).isSome:=fun l=>by
  induction l with
  | nil=>rfl
  | cons a l ih =>
   cases c:f a with
   | none=>rw [List.filterMap_cons_none (by rw [c]; rfl),List.filter_cons_of_neg (by rw [c]; decide),ih]
   | some b=>rw [List.filterMap_cons_some (b:=(a,b)) (by rw [c]; rfl),List.filter_cons_of_pos (by rw [c]; rfl),List.map_cons,ih]
 unfold Rise
 rw [e]
 exact List.pairwise_lt_range.filter _
theorem relayAll_rise (t:SetTable) (es:Array (Int × Value)) (n:Nat):Rise (relayAll t es n).2.1.place.toList∧(relayAll t es n).2.1.led=t.led:=by
 unfold relayAll
 split
 ·rename_i t' order e
  dsimp only
  split
  ·unfold SetTable.relaid SetTable.laid at e
   cases c:SetTable.layClean (SetTable.sizeAbove n - 1) (es.map (·.1)) with
   | none=>rw [c] at e; cases e
   | some owner =>
    rw [c] at e
    have e:_=some (t',order):=e
    simp only [Option.pure_def,Option.bind_eq_bind,Option.bind_some,Option.some.injEq,Prod.mk.injEq] at e
    obtain ⟨rfl,_⟩:=e
    exact ⟨live_rise (fun j=>owner.getD j none) _,rfl⟩
  ·exact ⟨rise_range _,rfl⟩
 ·exact ⟨rise_range _,rfl⟩
end L2
set_option maxHeartbeats 4000000
namespace L2
open PySem PySem.Spec PyProof.Rows
noncomputable def WSet (P:Program) (w:World) (h:Heap) (a:Addr) (ks:List Int):Prop :=
 ∃ (o:Obj) (es:Array (Int × Value)) (ep:Nat) (t:SetTable) (ks':List Int),h.get? a=some o∧o.ExactSet∧o.data=.set es ep t∧ElemsOf (intKind P w) es.toList∧IntsAre (es.toList.map (·.2)) ks'∧ks'.Perm ks ∧
  es.size < scanBound∧t.fits es.size=true∧Rise t.place.toList∧(w.params.followText "set-order"=true∨t.led=true)
theorem ints_find {k:Int}:∀ {es:List (Int × Value)} {ks:List Int},IntsAre (es.map (·.2)) ks→((∃ e∈es,Value.isInt k e.2=true) ↔ k∈ks)
 | [],ks,h=>by
  cases h
  refine ⟨fun zz39=>?_,fun hk=>absurd hk List.not_mem_nil⟩
  obtain ⟨e,he,_⟩:=zz39
  exact absurd he List.not_mem_nil
 | (hh,v) :: es,ks,h=>by
  have h:IntsAre (v :: es.map (·.2)) ks:=h
  cases h with
  | @cons _ ns n t hr =>
   have ih:=ints_find (k:=k) hr
   constructor
   ·rintro ⟨e,he,hi⟩
    rcases List.mem_cons.mp he with rfl | he
    ·obtain ⟨t',e'⟩:=Value.isInt_shape hi
     cases e'
     exact List.mem_cons_self
    ·exact List.mem_cons_of_mem _ (ih.mp ⟨e,he,hi⟩)
   ·intro hk
    rcases List.mem_cons.mp hk with rfl | hk
    ·exact ⟨_,List.mem_cons_self,by simp [Value.isInt]⟩
    ·obtain ⟨e,he,hi⟩:=ih.mpr hk
     exact ⟨e,List.mem_cons_of_mem _ he,hi⟩
theorem ints_perm:∀ {us vs:List Value},us.Perm vs→∀ {ks:List Int},IntsAre vs ks→∃ ks',IntsAre us ks'∧ks'.Perm ks:=by
 intro us vs p
 induction p with
 | nil=>intro ks h; exact ⟨ks,h,.refl _⟩
 | cons x p ih =>
  intro ks h
  cases h with
  | cons n t hr =>
   obtain ⟨ks',h1,h2⟩:=ih hr
   exact ⟨n :: ks',.cons n t h1,h2.cons n⟩
 | swap x y l =>
  intro ks h
  cases h with
  | cons n t hr =>
   cases hr with
   | cons m u hr=>exact ⟨m :: n :: _,.cons m u (.cons n t hr),.swap n m _⟩
 | trans p q ihp ihq =>
  intro ks h
  obtain ⟨k1,h1,h2⟩:=ihq h
  obtain ⟨k2,h3,h4⟩:=ihp h1
  exact ⟨k2,h3,h4.trans h2⟩
theorem ints_snoc:∀ {vs:List Value} {ks:List Int},IntsAre vs ks→∀ (n:Int) (t:Tok),IntsAre (vs ++ [.int n t]) (ks ++ [n])
 | _,_,.nil,n,t=>.cons n t .nil
 | _,_,.cons m u h,n,t=>.cons m u (ints_snoc h n t)
section
variable {P:Program} {w:World} {A:Around} {E:Value→Shared→Prop} {s:Shared}
theorem WSet.lt {h:Heap} {a:Addr} {ks:List Int} (x:WSet P w h a ks):a < h.objs.size:=by obtain ⟨o,_,_,_,_,ho,_⟩:=x; exact Heap.lt_size ho
theorem WSet.kept {h h':Heap} {a:Addr} {ks:List Int} (x:WSet P w h a ks) (k:∀ o,h.get? a=some o→h'.get? a=some o):WSet P w h' a ks:=by
 obtain ⟨o,es,ep,t,ks',ho,r⟩:=x; exact ⟨o,es,ep,t,ks',k _ ho,r⟩
theorem wset_put {h:Heap} {a:Addr} {o:Obj} {es:Array (Int × Value)} {ep:Nat} {t:SetTable} (ho:h.get? a=some o) (hd:o.data=.set es ep t) (es':Array (Int × Value)) (t':SetTable) :
  (h.update a (Obj.putSet es' t')).get? a=some { o with data:=.set es' (ep + 1) t' }:=by
 have q:=putSet_of es' t' hd
 rw [← q]
 exact Heap.get?_update_self _ ho (by rw [q]; rfl)
theorem wset_add {a:Addr} {k:Int} {tk:Tok} {ks:List Int} {Q:Bool→Shared→Prop} (hS:WSet P w s.heap a ks) (room:ks.length + 1 < scanBound)
  (h:∀ h',Heap.SameBut a s.heap h'→WSet P w h' a (step_dedup ks k)→Q (!ks.any (· == k)) { s with heap:=h' }) :
  wpAny (model P w) A (setAddHashed a (.int k tk) ((intKind P w).hash k)) Q E s:=by
 obtain ⟨o,es,ep,t,ns,ho,ex,od,el,hI,pm,lt,ft,rs,ld⟩:=id hS
 have ik:(intKind P w).is k (.int k tk)=true:=intKind_is _ _ _ _
 have hmem:=(ints_find (k:=k) hI).trans pm.mem_iff
 have sz:es.size=ks.length:=by rw [← pm.length_eq,← hI.length,List.length_map,Array.length_toList]
 have fin:∀ (b:Bool) {s₁:Shared} {R:Unit→Shared→Prop},R () s₁→wpAny (model P w) A (match b with | true=>rule "set.scan.the-table-gave-way" | false=>pure ()) R E s₁:=fun b s₁ R q=>by
  cases b
  ·exact wpAny_pure q
  ·exact wpAny_rule q
 unfold setAddHashed setAddHashedIn; refine wpAny_holding ?_
 refine wpAny_bind (wpAny_setState_of ho od ft ?_)
 dsimp only
 rw [byScan_of (x:=.int k tk) rfl lt el,if_pos rfl]
 unfold setAddByScan; refine wpAny_bind (wpAny_bind (wpAny_rule (wpAny_bind (wpAny_setScan_of ik ho od ft el ?_))))
 cases c:List.findIdx? (fun e=>(intKind P w).is k e.2) es.toList with
 | some j =>
  obtain ⟨hj,pj,_⟩:=List.findIdx?_eq_some_iff_getElem.mp c
  have yes:ks.any (· == k)=true:=List.any_eq_true.mpr ⟨k,hmem.mp ⟨es.toList[j],List.getElem_mem hj,pj⟩,beq_self_eq_true _⟩
  have z:=h s.heap (Heap.SameBut.refl a s.heap) (by unfold step_dedup; rw [if_pos yes]; exact hS)
  rw [yes] at z
  exact wpAny_pure (wpAny_pure z)
 | none =>
  have no:ks.any (· == k)=false:=by
   rw [List.any_eq_false]
   intro x hx z
   obtain ⟨e,he,hi⟩:=hmem.mpr (show k∈ks by rw [← (beq_iff_eq.mp z)]; exact hx)
   exact absurd (show (intKind P w).is k e.2=true from hi) (by rw [List.findIdx?_eq_none_iff.mp c e he]; decide)
  rw [no,show step_dedup ks k=ks ++ [k] by unfold step_dedup; rw [no]; rfl] at h
  have g1:=layNew_perm t es ((intKind P w).hash k) (.int k tk)
  have g2:=layNew_fits t es ((intKind P w).hash k) (.int k tk)
  have g3:=layNew_rise es ((intKind P w).hash k) (.int k tk) rs
  dsimp only
  generalize layNew t es ((intKind P w).hash k) (.int k tk)=lay at g1 g2 g3 ⊢
  obtain ⟨es1,t1,du,gv⟩:=lay
  dsimp only at g1 g2 g3 ⊢
  have p1:es1.toList.Perm (es.toList ++ [((intKind P w).hash k,Value.int k tk)]):=by rw [← Array.toList_push]; exact g1
  have el1:=(el.push ik rfl).perm p1
  have lt1:es1.size < scanBound:=by
   have:=p1.length_eq
   rw [List.length_append,Array.length_toList,Array.length_toList,List.length_singleton] at this
   omega
  have ld1:w.params.followText "set-order"=true∨t1.led=true:=by rw [g3.2]; exact ld
  obtain ⟨n1,i1,i2⟩:=ints_perm (p1.map (·.2)) (show IntsAre ((es.toList ++ [((intKind P w).hash k,Value.int k tk)]).map (·.2)) (ns ++ [k]) by rw [List.map_append]; exact ints_snoc hI k tk)
  replace i2:=i2.trans (pm.append_right [k])
  refine wpAny_bind (fin _ ?_)
  rw [hashByValue_scannable 8 (x:=.int k tk) rfl,show plainKind (.int k tk)=true from rfl,ite_self]
  refine wpAny_bind (wpAny_pure ?_)
  try rw [if_pos rfl]
  refine wpAny_bind (wpAny_storeSet_of ho od ?_ (fits_of_scanBound lt1))
  have o1:=wset_put ho od es1 t1
  have s1:=Heap.SameBut.update s.heap a (Obj.putSet es1 t1)
  split
  ·have q1:=relayAll_perm t1 es1 (SetTable.grown es1.size)
   have q2:=relayAll_fits t1 es1 (SetTable.grown es1.size)
   have q3:=relayAll_rise t1 es1 (SetTable.grown es1.size)
   generalize relayAll t1 es1 (SetTable.grown es1.size)=rl at q1 q2 q3 ⊢
   obtain ⟨es2,t2,g2⟩:=rl
   dsimp only at q1 q2 q3 ⊢
   have lt2:es2.size < scanBound:=by rw [← Array.length_toList,q1.length_eq,Array.length_toList]; exact lt1
   obtain ⟨n2,j1,j2⟩:=ints_perm (q1.map (·.2)) i1
   refine wpAny_bind (fin _ (wpAny_bind (wpAny_storeSet_of o1 rfl ?_ (fits_of_scanBound lt2))))
   exact wpAny_pure (wpAny_pure (h _ (s1.trans (Heap.SameBut.update _ a _)) ⟨_,es2,_,t2,n2,wset_put o1 rfl es2 t2,ex,rfl,el1.perm q1,j1,j2.trans i2,lt2,q2,q3.1,by rw [q3.2]; exact ld1⟩))
  ·exact wpAny_pure (wpAny_pure (h _ s1 ⟨_,es1,_,t1,n1,o1,ex,rfl,el1,i1,i2,lt1,g2,g3.1,ld1⟩))
end
end L2
set_option maxHeartbeats 4000000
namespace L2
open PySem PySem.Spec PyProof.Rows
section
variable {P:Program} {w:World} {A:Around} {E:Value→Shared→Prop} {s:Shared}
noncomputable def set0 (w:World):Obj:={ cls:=.type "set",dict:=none,data:=.set #[] 0 (.fresh 0 0 (!w.params.followText "set-order")) }
theorem wset_0 {h:Heap} {a:Addr} (e:h.get? a=some (set0 w)):WSet P w h a []:=by
 refine ⟨_,#[],0,_,[],e,⟨rfl,rfl,rfl⟩,rfl,fun e he=>by simp at he,.nil,.refl _,by decide,by rfl,List.Pairwise.nil,?_⟩
 show w.params.followText "set-order"=true∨(!w.params.followText "set-order")=true
 cases w.params.followText "set-order"
 ·exact .inr rfl
 ·exact .inl rfl
theorem new_set {x:Value} {Q:Value→Shared→Prop} (h:Q (.ref s.heap.objs.size) { s with heap:=s.heap.push (set0 w) }):codeAny (model P w) A (.call (.builtin "set.__new__") ⟨[.type "set",x],[]⟩) (wants Q E) s:=by
 refine codeAny_call_builtin_code (plainId_quiet PySem.F.plain_set_new _) (wpAny_of_eq (PySem.F.newCall_set_1 x) (codeAny_builtin PySem.F.entry_set_new ?_))
 rw [Around.under_plainId PySem.F.plain_set_new _]
 unfold Builtin.«set.__new__» Builtin.Frozenset.newClass
 have hsub:=sub_set_self
 obtain ⟨hp,g,d,tk,os⟩:=s
 wp_walk
 refine wpAny_askSetting (wpAny_pure ?_)
 simp only [newObj]
 exact wpAny_bind (wpAny_alloc (wpAny_pure (wpAny_pure h)))
variable {R:Result→Shared→Prop} {I:Addr} {fp wr:List Addr} {G:Array GenState→Array GenState→Prop} {n:Nat} {Pv:Nat→Value→Prop} {St:Nat→Shared→Prop}
theorem fill_set (W:WalksS P w A.in1 I fp wr G n Pv St) {S:Addr} (hS:S ∉ fp) {val:Nat→Int} (hv:∀ i v,Pv i v→∃ t,v=.int (val i) t) (hb:n + 1 < scanBound):∀ (k i:Nat) (s:Shared),n - i=k→i≤n→St i s→WSet P w s.heap S (firstMet val i) →
   (∀ s',Moved (S :: wr) G s s'→WSet P w s'.heap S (firstMet val n)→R (.ok (.ret .none)) s')→codeAny (model P w) A (.builtin "set.update.loop" ⟨[.ref S,.ref I],[]⟩) R s:=by
 have hw:S ∉ wr:=fun z=>hS (W.sub _ z)
 have mn:∀ b∈wr,b∈S :: wr:=fun b hb=>List.mem_cons_of_mem _ hb
 intro k
 induction k with
 | zero =>
  intro i s hk hi st ws fin
  obtain rfl:i=n:=by omega
  refine codeAny_builtin PyProof.Rows.F.entry_set_update_loop ?_
  rw [Around.under_plainId PyProof.Rows.F.plain_set_update_loop _]
  show wpAny _ A.in1 (pyNext (.ref I) >>= _) _ _ s
  exact wpAny_bind (W.done s _ _ st fun s' hm=>wpAny_pure (fin s' (hm.mono mn) (ws.kept fun o e=>hm.heap S o hw e)))
 | succ k ih =>
  intro i s hk hi st ws fin
  have lt:i < n:=by omega
  refine codeAny_builtin PyProof.Rows.F.entry_set_update_loop ?_
  rw [Around.under_plainId PyProof.Rows.F.plain_set_update_loop _]
  show wpAny _ A.in1 (pyNext (.ref I) >>= _) _ _ s
  refine wpAny_bind (W.item i s _ _ lt st fun v s1 hP st1 hm=>?_)
  obtain ⟨t,rfl⟩:=hv i v hP
  have ws1:WSet P w s1.heap S (firstMet val i):=ws.kept fun o e=>hm.heap S o hw e
  show wpAny _ A.in1 (holding [Value.int (val i) t] (setAdd S (.int (val i) t)) >>= _) _ _ s1
  have hl:=firstMet_length_le val i
  unfold setAdd
  refine wpAny_bind (wpAny_holding (wpAny_holding (wpAny_bind ((intKind P w).pyHash (k:=val i) (intKind_is _ _ _ _) (wset_add (s:={ s1 with toks:=s1.toks + 1 }) ws1 (by omega) fun h' sb ws2=>?_)))))
  rw [← firstMet_succ] at ws2
  have ot:∀ b o,b≠S→s1.heap.get? b=some o→h'.get? b=some o:=fun b o hb e=>by rw [sb.2 b hb]; exact e
  refine wpAny_pure ⟨plainId_quiet PyProof.Rows.F.plain_set_update_loop _,ih (i + 1) _ (by omega) lt (W.frame _ s1 _ _ st1 (Nat.le_succ _) fun b hb o e=>ot b o (fun z=>hS (z ▸ hb)) e) ws2 fun s3 hm3 ws3=>?_⟩
  exact fin s3 (Moved.trans W.gtrans ((hm.mono mn).then_heap (Nat.le_succ _) fun b o hb e=>ot b o (fun z=>hb (z ▸ List.mem_cons_self)) e) hm3) ws3
set_option maxHeartbeats 8000000 in
theorem set_of_list {l:Addr} {its:Array Value} {ns:List Int} {Q:Value→Shared→Prop} (hh:A.handled=none) (hl:s.heap.IsList l its) (hi:IntsAre its.toList ns) (hb:its.size + 1 < scanBound)
  (h:∀ (h':Heap) (tk:Nat),WSet P w h' s.heap.objs.size (firstMet (fun i=>ns.getD i 0) its.size)→(∀ b o,s.heap.get? b=some o→h'.get? b=some o)→Q (.ref s.heap.objs.size) { s with heap:=h',toks:=tk }) :
  wpAny (model P w) A (call (.type "set") [.ref l]) Q E s:=by
 obtain ⟨c,tl,hmro⟩:=PySem.F.called_set.mro
 have hmade:=PySem.F.called_set.made
 have hsub:=PySem.F.called_set.sub
 have h1:=PySem.F.called_set.notType
 have h2:=PySem.F.called_set.canCreate
 have hct:=PySem.F.typeCall_set_1 (.ref l)
 refine wpAny_call (codeAny_of_tree (wpAny_pure ⟨Code.quiet_builtin _ (by decide +kernel),codeAny_builtin PySem.F.entry_type_call ?_⟩))
 rw [Around.under_plain (weight_type_call_type "set" [.ref l] []) rfl]
 repeat (any_goals (first | assumption | wp_step))
 refine codeAny_mono (new_set (E:=E) (x:=.ref l) (Q:=fun v s₁=>v=.ref s.heap.objs.size∧s₁={ s with heap:=s.heap.push (set0 w) }) ⟨rfl,rfl⟩) fun r s₁ hr=>?_
 cases r with
 | error e=>exact hr
 | ok fl =>
  cases fl with
  | ret v =>
   obtain ⟨rfl,rfl⟩:=hr
   have e0:(s.heap.push (set0 w)).get? s.heap.objs.size=some (set0 w):=Heap.get?_push_size _ rfl
   have hT:Shared.TypeIs { s with heap:=s.heap.push (set0 w) } (.ref s.heap.objs.size) "set":=⟨_,e0,rfl⟩
   have hli:=PySem.F.called_set.init.lookup
   have hbi:=PySem.F.called_set.init.bind (.ref s.heap.objs.size)
   repeat (any_goals (first | assumption | wp_step))
   refine codeAny_mono (codeAny_call_builtin (R:=wants (fun r s₂=>r=.none∧∃ h' tk,s₂={ s with heap:=h',toks:=tk }∧WSet P w h' s.heap.objs.size (firstMet (fun i=>ns.getD i 0) its.size)∧∀ b o,s.heap.get? b=some o→h'.get? b=some o) E)
    PySem.F.called_set.init.plain PySem.F.entry_set_init (check_set_init_1 hT ?_)) fun r₂ s₂ hr₂=>?_
   ·obtain ⟨ol,hol,hcl,nl,hdl⟩:=id hl
    have ll:l < s.heap.objs.size:=Heap.lt_size hol
    obtain ⟨ocls,odict,odata,oslots⟩:=ol
    simp only at hcl hdl
    subst hcl; subst hdl
    have hol':(s.heap.push (set0 w)).get? l=some { cls:=.type "list",dict:=odict,data:=.seq its nl,slots:=oslots }:=Heap.get?_push_of_some _ hol
    have k1:=PySem.F.sub_list_set
    have k2:=PySem.F.sub_list_frozenset
    have k3:(Value.type "list" == Value.type "dict")=false:=by decide
    have hl1:(s.heap.push (set0 w)).IsList l its:=⟨_,hol',rfl,nl,rfl⟩
    unfold Builtin.«set.__init__» noKeywords Builtin.Frozenset.updateFrom
    generalize hPI:pyIter=PI
    unfold set0 at e0 hol' hl1 hT ⊢
    wp_walk
    subst hPI
    refine wpAny_pyIter_list hl1 (wpAny_bind (wpAny_runValue ?_))
    have hs:(s.heap.push (set0 w)).objs.size=s.heap.objs.size + 1:=Heap.size_push ..
    unfold set0 at hs
    refine fill_set ((Walks.list (show A.in1.in1.in1.handled=none by simp [hh]) _ l (by rw [hs]; exact Nat.ne_of_lt (Nat.lt_succ_of_lt ll)) its).toS) (S:=s.heap.objs.size) (by rw [hs]; simp only [List.mem_cons,List.not_mem_nil,or_false,not_or]; exact ⟨Nat.ne_of_lt (Nat.lt_succ_self _),Nat.ne_of_gt ll⟩) (val:=fun i=>ns.getD i 0)
     (fun i v hv=>PyProof.Rows.IntsAre.int_at hi i v (by rw [Array.getElem?_toList]; exact hv)) hb (its.size - 0) 0 _ (by omega) (Nat.zero_le _)
     ⟨⟨_,Heap.get?_push_size _ rfl,rfl,rfl⟩,(hl1.push _)⟩ (wset_0 (Heap.get?_push_of_some _ e0)) fun s' hm ws=>?_
    obtain ⟨h',g',d',tk',os'⟩:=s'
    obtain rfl:g'=s.gens:=hm.gens
    obtain rfl:d'=s.drawn:=hm.drawn
    obtain rfl:os'=s.os:=hm.os
    refine wpAny_pure (wpAny_pure ⟨rfl,h',tk',rfl,ws,fun b o e=>?_⟩)
    have hb:=Heap.lt_size e
    refine hm.heap b o ?_ (Heap.get?_push_of_some _ (Heap.get?_push_of_some _ e))
    rw [hs]
    simp only [List.mem_cons,List.not_mem_nil,or_false,not_or]
    exact ⟨Nat.ne_of_lt hb,Nat.ne_of_lt (Nat.lt_succ_of_lt hb)⟩
   ·cases r₂ with
    | error e=>exact hr₂
    | ok fl₂ =>
     cases fl₂ with
     | ret r =>
      obtain ⟨rfl,h',tk,rfl,ws,kp⟩:=hr₂
      repeat (any_goals (first | assumption | wp_step))
      exact h _ _ ws kp
     | _=>exact hr₂.elim
  | _=>exact hr.elim
end
end L2
set_option maxHeartbeats 4000000
namespace PySem.F
theorem sti_next:Slot "set_iterator" "__next__" "set_iterator.__next__" :=
 .of (owner:="set_iterator") (n:="__next__") (by rw [typeLookup_type,builtinLookup_eq_fast]; kernel_rfl) (by decide +kernel) (by decide +kernel) (by decide +kernel) (by first | exact .inl (by decide +kernel) | exact .inr (by decide +kernel)) (by rw [isSubtype_type]; kernel_rfl)
theorem sti_entry:entryFor table "set_iterator.__next__"=some Builtin.«set_iterator.__next__»:=entryFor_of_tree (by kernel_rfl)
theorem sti_args (a:Value):argsOk "set_iterator.__next__" ⟨[a],[]⟩:=by unfold argsOk; kernel_rfl
theorem st_iter_entry:entryFor table "set.__iter__"=some Builtin.«frozenset.__iter__»:=entryFor_alias (id':="frozenset.__iter__") (by kernel_rfl) rfl (by decide +kernel) (by kernel_rfl)
theorem sti_iter:Slot "set_iterator" "__iter__" "set_iterator.__iter__" :=
 .of (owner:="set_iterator") (n:="__iter__") (by rw [typeLookup_type,builtinLookup_eq_fast]; kernel_rfl) (by decide +kernel) (by decide +kernel) (by decide +kernel) (by first | exact .inl (by decide +kernel) | exact .inr (by decide +kernel)) (by rw [isSubtype_type]; kernel_rfl)
theorem sti_iter_entry:entryFor table "set_iterator.__iter__"=some Builtin.«dict_keyiterator.__iter__»:=entryFor_alias (id':="dict_keyiterator.__iter__") (by kernel_rfl) rfl (by decide +kernel) (by kernel_rfl)
theorem sti_iter_args (a:Value):argsOk "set_iterator.__iter__" ⟨[a],[]⟩:=by unfold argsOk; kernel_rfl
end PySem.F
namespace L2
open PySem PySem.Spec PyProof.Rows
theorem erase_perm {α:Type}:∀ {l:List α} {i:Nat} (hi:i < l.length),(l[i] :: l.eraseIdx i).Perm l
 | a :: l,0,_=>.refl _
 | a :: l,i + 1,hi=>(List.Perm.swap ..).trans ((erase_perm (l:=l) (Nat.lt_of_succ_lt_succ hi)).cons a)
theorem pick_go {α:Type} {next:Nat→Nat}:∀ (fuel k:Nat) (left:List α) (out:Array α),left.length≤fuel→∃ r,(pickOrder.go next fuel k left out).toList=out.toList ++ r∧r.Perm left
 | 0,k,left,out,h=>by
  have:left=[]:=List.eq_nil_of_length_eq_zero (by omega)
  subst this
  exact ⟨[],by unfold pickOrder.go; simp,.nil⟩
 | fuel + 1,k,left,out,h=>by
  unfold pickOrder.go
  cases left with
  | nil=>exact ⟨[],by simp,.nil⟩
  | cons a l =>
   have hi:next k % (a :: l).length < (a :: l).length:=Nat.mod_lt _ (by simp)
   generalize next k % (a :: l).length=i at hi
   rw [List.getElem?_eq_getElem hi]
   dsimp only
   obtain ⟨r,h1,h2⟩:=pick_go (next:=next) fuel (k + 1) ((a :: l).eraseIdx i) (out.push (a :: l)[i]) (by rw [List.length_eraseIdx_of_lt hi]; omega)
   refine ⟨(a :: l)[i] :: r,by rw [h1,Array.toList_push,List.append_assoc]; rfl,?_⟩
   exact (h2.cons _).trans (erase_perm hi)
theorem pick_perm {α:Type} (next:Nat→Nat) (xs:Array α):(pickOrder next xs).toList.Perm xs.toList:=by
 obtain ⟨r,h1,h2⟩:=pick_go (next:=next) xs.size 0 xs.toList #[] (by simp)
 have:(pickOrder next xs).toList=r:=h1
 rw [this]
 exact h2
section
variable {P:Program} {w:World} {A:Around} {E:Value→Shared→Prop} {s:Shared}
theorem wp_choose {src:Source} {n:Nat} {Q:Nat→Shared→Prop} (hn:n≠0) (h:∀ i,i < n→Q i { s with drawn:=s.drawn.bump src }):wpAny (model P w) A (choose src n) Q E s:=fun _ _ _=>⟨hn,h _ (Nat.mod_lt _ (Nat.pos_of_ne_zero hn))⟩
theorem draw_perm {α:Type}:∀ (n:Nat) (l:List α) (s:Shared) (Q:List α→Shared→Prop),l.length≤n→(∀ r d',r.Perm l→Q r { s with drawn:=d' })→wpAny (model P w) A (drawOrder n l) Q E s
 | 0,l,s,Q,hl,h=>by
  have:l=[]:=List.eq_nil_of_length_eq_zero (by omega)
  subst this
  exact wpAny_pure (h [] s.drawn .nil)
 | n + 1,[],s,Q,hl,h=>wpAny_pure (h [] s.drawn .nil)
 | n + 1,a :: l,s,Q,hl,h=>by
  unfold drawOrder
  refine wpAny_bind (wp_choose (by simp) fun i hi=>?_)
  rw [List.getElem?_eq_getElem hi]
  refine wpAny_bind (draw_perm n _ _ _ (by rw [List.length_eraseIdx_of_lt hi]; omega) fun r d' pr=>wpAny_pure (h _ d' ?_))
  exact (pr.cons _).trans (erase_perm hi)
noncomputable def stiObj (fst:Value) (i:Nat) (a:Addr) (n ep:Nat):Obj:={ cls:=.type "set_iterator",data:=.fields #[fst,.int i 0,.ref a,.int n 0,.int ep 0] }
theorem set_fields {h:Heap} {I a:Addr} {f g:Value} {i j n ep:Nat} (ho:h.get? I=some (stiObj f i a n ep)) :
  ((h.update I (Obj.mapFields (·.setIfInBounds 0 g))).update I (Obj.mapFields (·.setIfInBounds 1 (.int j 0)))).get? I=some (stiObj g j a n ep):=by
 have h1:=Heap.get?_update_self (Obj.mapFields (·.setIfInBounds 0 g)) ho rfl
 exact Heap.get?_update_self (Obj.mapFields (·.setIfInBounds 1 (.int j 0))) h1 rfl
theorem set_field1 {h:Heap} {I a:Addr} {f:Value} {i j n ep:Nat} (ho:h.get? I=some (stiObj f i a n ep)) :
  (h.update I (Obj.mapFields (·.setIfInBounds 1 (.int j 0)))).get? I=some (stiObj f j a n ep):=Heap.get?_update_self (Obj.mapFields (·.setIfInBounds 1 (.int j 0))) ho rfl
theorem sti_item {I a:Addr} {o:Obj} {es:Array (Int × Value)} {ep:Nat} {t:SetTable} {i sl sl':Nat} {x:Value} {Q:Option Value→Shared→Prop} (hI:s.heap.get? I=some (stiObj (.int sl 0) i a es.size ep)) (ho:s.heap.get? a=some o) (hd:o.data=.set es ep t) (hf:t.fits es.size=true)
  (nx:∀ (B:Around) (F:Value→Shared→Prop) (R:Option (Value × Nat)→Shared→Prop),R (some (x,sl')) s→wpAny (model P w) B (setNext a sl i ep) R F s)
  (h:∀ h',h'.get? I=some (stiObj (.int sl' 0) (i + 1) a es.size ep)→Heap.SameBut I s.heap h'→Q (some x) { s with heap:=h' }):wpAny (model P w) A (pyNext (.ref I)) Q E s:=by
 have hT:s.TypeIs (.ref I) "set_iterator":=⟨_,hI,rfl⟩
 unfold pyNext
 refine wpAny_bind (wpAny_attempt (wpAny_callSpecial?_slot (name:=Str.ofString "__next__") hT PySem.F.sti_next (wpAny_call_entry PySem.F.sti_next hT PySem.F.sti_entry ?_ (PySem.F.sti_args _))))
 unfold Builtin.«set_iterator.__next__»
 refine wpAny_bind (m:=slotArgs "__next__" 0 _) (wpAny_pure ?_)
 refine wpAny_bind (wpAny_fieldsOf hI rfl ?_)
 dsimp only
 refine wpAny_bind (wpAny_setEntries_of ho hd hf ?_)
 rw [if_neg (by simp)]
 refine wpAny_bind (nx _ _ _ ?_)
 refine wpAny_bind (wpAny_setField (x:=rawInt sl') hI rfl (by simp) ?_)
 have h1:=Heap.get?_update_self (Obj.mapFields (·.setIfInBounds 0 (rawInt sl'))) hI rfl
 refine wpAny_bind (wpAny_setField (x:=rawInt ((i:Int) + 1)) h1 rfl (by simp) ?_)
 exact wpAny_pure ⟨_,rfl,wpAny_pure (h _ (set_fields hI) ((Heap.SameBut.update ..).trans (Heap.SameBut.update ..)))⟩
theorem sti_stop {I:Addr} {ob:Obj} {vs:Array Value} {Q:Fin→Shared→Prop} (hh:A.handled=none) (hI:s.heap.get? I=some ob) (hd:ob.data=.fields vs) (hz:2 < vs.size) (h:∀ h' e,Heap.ExtBut I s.heap h'→(∃ o,h'.get? e=some o∧o.cls=.type "StopIteration")→E (.ref e) { s with heap:=h' }) :
  wpAny (model P w) A (do setField (.ref I) 2 .none; raiseNew (← newExc (.type "StopIteration") []):Sem Fin) Q E s:=by
 refine wpAny_bind (wpAny_setField hI hd hz ?_)
 simp only [newExc,newTuple]
 refine wpAny_bind (wpAny_bind (wpAny_newObj_type ?_ (by size_fits)))
 refine wpAny_bind (m:=firstArgMember _ _) (wpAny_of_eq (a:=Value.none) (by first | rfl | (simp only [firstArgMember]; rfl)) ?_)
 refine wpAny_newObj_type ?_ (by size_fits)
 refine wpAny_raiseNew_none hh (h _ _ (((Heap.SameBut.update ..).extBut.push _).push _) ⟨_,Heap.get?_push_size _ rfl,rfl⟩)
theorem sti_done {I a:Addr} {o:Obj} {es:Array (Int × Value)} {ep:Nat} {t:SetTable} {i sl:Nat} {Q:Option Value→Shared→Prop} (hh:A.handled=none) (hI:s.heap.get? I=some (stiObj (.int sl 0) i a es.size ep)) (ho:s.heap.get? a=some o) (hd:o.data=.set es ep t) (hf:t.fits es.size=true)
  (nx:∀ (B:Around) (F:Value→Shared→Prop) (R:Option (Value × Nat)→Shared→Prop),R none s→wpAny (model P w) B (setNext a sl i ep) R F s)
  (h:∀ h',Heap.ExtBut I s.heap h'→Q none { s with heap:=h' }):wpAny (model P w) A (pyNext (.ref I)) Q E s:=by
 have hT:s.TypeIs (.ref I) "set_iterator":=⟨_,hI,rfl⟩
 unfold pyNext
 refine wpAny_bind (wpAny_attempt (wpAny_callSpecial?_slot (name:=Str.ofString "__next__") hT PySem.F.sti_next (wpAny_call_entry PySem.F.sti_next hT PySem.F.sti_entry ?_ (PySem.F.sti_args _))))
 unfold Builtin.«set_iterator.__next__»
 refine wpAny_bind (m:=slotArgs "__next__" 0 _) (wpAny_pure ?_)
 refine wpAny_bind (wpAny_fieldsOf hI rfl ?_)
 dsimp only
 refine wpAny_bind (wpAny_setEntries_of ho hd hf ?_)
 rw [if_neg (by simp)]
 refine wpAny_bind (nx _ _ _ ?_)
 dsimp only
 refine sti_stop (A:=A.in1) hh hI rfl (by simp) fun h' e ex zz9=>?_
 obtain ⟨ob,he,hc⟩:=zz9
 refine wpAny_bind (wpAny_isInstance (T:="StopIteration") (b:=true) ⟨ob,he,hc⟩ isSubtype_stop ?_)
 exact wpAny_pure (h _ ex)
theorem std_item {I a T:Addr} {o:Obj} {es:Array (Int × Value)} {ep:Nat} {t:SetTable} {i p:Nat} {ob:Obj} {ps:Array Value} {c:Nat} {tk:Tok} {e:Int × Value} {Q:Option Value→Shared→Prop} (hI:s.heap.get? I=some (stiObj (.ref T) i a es.size ep)) (ho:s.heap.get? a=some o) (hd:o.data=.set es ep t) (hf:t.fits es.size=true)
  (hT:s.heap.get? T=some ob) (hob:ob.data=.seq ps c) (hp:ps[i]?=some (.int p tk)) (he:es[p]?=some e)
  (h:∀ h',h'.get? I=some (stiObj (.ref T) (i + 1) a es.size ep)→Heap.SameBut I s.heap h'→Q (some e.2) { s with heap:=h' }):wpAny (model P w) A (pyNext (.ref I)) Q E s:=by
 have hTy:s.TypeIs (.ref I) "set_iterator":=⟨_,hI,rfl⟩
 unfold pyNext
 refine wpAny_bind (wpAny_attempt (wpAny_callSpecial?_slot (name:=Str.ofString "__next__") hTy PySem.F.sti_next (wpAny_call_entry PySem.F.sti_next hTy PySem.F.sti_entry ?_ (PySem.F.sti_args _))))
 unfold Builtin.«set_iterator.__next__»
 refine wpAny_bind (m:=slotArgs "__next__" 0 _) (wpAny_pure ?_)
 refine wpAny_bind (wpAny_fieldsOf hI rfl ?_)
 dsimp only
 refine wpAny_bind (wpAny_setEntries_of ho hd hf ?_)
 rw [if_neg (by simp)]
 refine wpAny_bind (wpAny_seqItems hT hob ?_)
 dsimp only
 rw [show ((i:Int)).toNat=i from Int.toNat_natCast i,hp]
 dsimp only
 refine wpAny_bind ?_
 unfold setNextDrawn
 refine wpAny_bind (wpAny_setState_of ho hd hf ?_)
 dsimp only
 rw [if_neg (by simp),show ((p:Int)).toNat=p from Int.toNat_natCast p,he]
 refine wpAny_pure ?_
 refine wpAny_bind (wpAny_setField (x:=rawInt ((i:Int) + 1)) hI rfl (by simp) ?_)
 exact wpAny_pure ⟨_,rfl,wpAny_pure (h _ (set_field1 hI) (Heap.SameBut.update ..))⟩
theorem std_done {I a T:Addr} {o:Obj} {es:Array (Int × Value)} {ep:Nat} {t:SetTable} {i:Nat} {ob:Obj} {ps:Array Value} {c:Nat} {Q:Option Value→Shared→Prop} (hh:A.handled=none) (hI:s.heap.get? I=some (stiObj (.ref T) i a es.size ep)) (ho:s.heap.get? a=some o) (hd:o.data=.set es ep t) (hf:t.fits es.size=true)
  (hT:s.heap.get? T=some ob) (hob:ob.data=.seq ps c) (hp:ps[i]?=none)
  (h:∀ h',Heap.ExtBut I s.heap h'→Q none { s with heap:=h' }):wpAny (model P w) A (pyNext (.ref I)) Q E s:=by
 have hTy:s.TypeIs (.ref I) "set_iterator":=⟨_,hI,rfl⟩
 unfold pyNext
 refine wpAny_bind (wpAny_attempt (wpAny_callSpecial?_slot (name:=Str.ofString "__next__") hTy PySem.F.sti_next (wpAny_call_entry PySem.F.sti_next hTy PySem.F.sti_entry ?_ (PySem.F.sti_args _))))
 unfold Builtin.«set_iterator.__next__»
 refine wpAny_bind (m:=slotArgs "__next__" 0 _) (wpAny_pure ?_)
 refine wpAny_bind (wpAny_fieldsOf hI rfl ?_)
 dsimp only
 refine wpAny_bind (wpAny_setEntries_of ho hd hf ?_)
 rw [if_neg (by simp)]
 refine wpAny_bind (wpAny_seqItems hT hob ?_)
 dsimp only
 rw [show ((i:Int)).toNat=i from Int.toNat_natCast i,hp]
 dsimp only
 refine wpAny_bind (wpAny_setField (x:=rawInt 0) hI rfl (by simp) ?_)
 have h1:=Heap.get?_update_self (Obj.mapFields (·.setIfInBounds 0 (rawInt 0))) hI rfl
 refine sti_stop (s:={ s with heap:=s.heap.update I (Obj.mapFields (·.setIfInBounds 0 (rawInt 0))) }) (A:=A.in1) hh h1 rfl (by simp) fun h' e ex zz9=>?_
 obtain ⟨ob,he,hc⟩:=zz9
 refine wpAny_bind (wpAny_isInstance (T:="StopIteration") (b:=true) ⟨ob,he,hc⟩ isSubtype_stop ?_)
 exact wpAny_pure (h _ fun b u hb hu=>ex b u hb ((Heap.get?_update_other _ _ (Ne.symm hb)).trans hu))
theorem sti_self {I a:Addr} {f:Value} {i n ep:Nat} {Q:Value→Shared→Prop} (hI:s.heap.get? I=some (stiObj f i a n ep)) (h:Q (.ref I) s):wpAny (model P w) A (pyIter (.ref I)) Q E s:=by
 have hT:s.TypeIs (.ref I) "set_iterator":=⟨_,hI,rfl⟩
 refine wpAny_pyIter_slot hT PySem.F.sti_iter (wpAny_call_entry PySem.F.sti_iter hT PySem.F.sti_iter_entry ?_ (PySem.F.sti_iter_args _))
 exact wpAny_pure ⟨_,rfl,"set_iterator",_,hT,PySem.F.sti_next.lookup,h⟩
theorem next_text {a:Addr} {o:Obj} {es:Array (Int × Value)} {ep:Nat} {t:SetTable} {i sl:Nat} {R:Option (Value × Nat)→Shared→Prop} (ho:s.heap.get? a=some o) (hd:o.data=.set es ep t) (hf:t.fits es.size=true) (hb:w.params.followText "set-order"=true)
  (h:R (((pickOrder (w.params.setOrder a ep) es)[i]?).map fun e=>(e.2,sl)) s):wpAny (model P w) A (setNext a sl i ep) R E s:=by
 unfold setNext setsByText
 refine wpAny_bind (wpAny_setState_of ho hd hf ?_)
 dsimp only
 refine wpAny_bind (wpAny_bind (wpAny_askSetting (wpAny_pure ?_)))
 show wpAny _ _ (if w.params.followText "set-order"=true then _ else _) _ _ _
 rw [if_pos hb,if_neg (by simp)]
 unfold setWalk setsByText
 refine wpAny_bind (wpAny_bind (wpAny_setState_of ho hd hf ?_))
 dsimp only
 refine wpAny_bind (wpAny_bind (wpAny_askSetting (wpAny_pure ?_)))
 show wpAny _ _ (if w.params.followText "set-order"=true then _ else _) _ _ _
 rw [if_pos hb]
 exact wpAny_bind (wpAny_askSetting (wpAny_pure (wpAny_pure h)))
theorem next_place {a:Addr} {o:Obj} {es:Array (Int × Value)} {ep:Nat} {t:SetTable} {i sl:Nat} {R:Option (Value × Nat)→Shared→Prop} (ho:s.heap.get? a=some o) (hd:o.data=.set es ep t) (hf:t.fits es.size=true) (hb:w.params.followText "set-order"=false) (hl:t.led=true) (hp:(!t.plain && decide (es.size > 1))=false)
  (h:R (match es[SetTable.below t.place sl]?,t.place[SetTable.below t.place sl]? with | some (_,x),some j=>some (x,j + 1) | _,_=>none) s):wpAny (model P w) A (setNext a sl i ep) R E s:=by
 unfold setNext setsByText
 refine wpAny_bind (wpAny_setState_of ho hd hf ?_)
 dsimp only
 refine wpAny_bind (wpAny_bind (wpAny_askSetting (wpAny_pure ?_)))
 show wpAny _ _ (if w.params.followText "set-order"=true then _ else _) _ _ _
 rw [if_neg (by rw [hb]; decide)]
 show wpAny _ _ (if (!t.plain && decide (es.size > 1))=true then _ else _) _ _ _
 rw [if_neg (by rw [hp]; decide)]
 refine wpAny_bind ?_
 show wpAny _ _ (if (!t.led && !es.isEmpty)=true then _ else _) _ _ _
 rw [if_neg (by rw [hl]; simp)]
 exact wpAny_pure (wpAny_pure h)
end
end L2
set_option maxHeartbeats 4000000
namespace L2
open PySem PySem.Spec PyProof.Rows
theorem ints_at:∀ {vs:List Value} {ks:List Int},IntsAre vs ks→∀ (i:Nat) (v:Value),vs[i]?=some v→∃ t,v=.int (ks.getD i 0) t:=fun h i v e=>PyProof.Rows.IntsAre.int_at h i v e
section
variable {P:Program} {w:World} {A:Around} {E:Value→Shared→Prop} {s:Shared}
theorem walks_int (hh:A.handled=none) {I a:Addr} (hne:a≠I) {o:Obj} {es:Array (Int × Value)} {ep:Nat} {t:SetTable} {out:List Int} {sl:Nat→Nat} {xs:List Value} (hd:o.data=.set es ep t) (hf:t.fits es.size=true) (hx:IntsAre xs out) (hl:xs.length=es.size)
  (nx:∀ (i:Nat) (s:Shared) (B:Around) (F:Value→Shared→Prop) (R:Option (Value × Nat)→Shared→Prop),s.heap.get? a=some o→i≤es.size→R ((xs[i]?).map fun x=>(x,sl (i + 1))) s→wpAny (model P w) B (setNext a (sl i) i ep) R F s) :
  Walks P w A I [I,a] [I] out.length (fun i v=>∃ t,v=.int (out.getD i 0) t) (fun i h=>h.get? I=some (stiObj (.int (sl i) 0) i a es.size ep)∧h.get? a=some o):=by
 have hlo:out.length=es.size:=by rw [← hl]; exact hx.length.symm
 refine ⟨fun b hb=>by simp at hb; simp [hb],fun i h h' st k=>⟨k I (by simp) _ st.1,k a (by simp) _ st.2⟩,fun i s Q E hi st hQ=>?_,fun s Q E st hQ=>?_,fun i s Q E st hQ=>sti_self st.1 hQ⟩
 ·have hi':i < xs.length:=by omega
  have ex:=List.getElem?_eq_getElem hi'
  refine sti_item (x:=xs[i]) (sl':=sl (i + 1)) st.1 st.2 hd hf (fun B F R r=>nx i s B F R st.2 (by omega) (by rw [ex]; exact r)) fun h' e sb=>?_
  exact hQ _ h' s.toks (ints_at hx i _ ex) ⟨e,(sb.2 a hne).trans st.2⟩ fun b u hb hu=>(sb.2 b (fun z=>hb (by simp [z]))).trans hu
 ·rw [hlo] at st
  refine sti_done hh st.1 st.2 hd hf (fun B F R r=>nx es.size s B F R st.2 (Nat.le_refl _) (by rw [List.getElem?_eq_none (by omega)]; exact r)) fun h' ex=>?_
  exact hQ h' s.toks fun b u hb hu=>ex b u (fun z=>hb (by simp [z])) hu
theorem walks_drawn (hh:A.handled=none) {I a T:Addr} (hne:a≠I) (hTI:T≠I) {o ob:Obj} {es:Array (Int × Value)} {ep c:Nat} {t:SetTable} {out:List Int} {xs:List Value} {ps:List Nat} (hd:o.data=.set es ep t) (hf:t.fits es.size=true) (hx:IntsAre xs out) (hob:ob.data=.seq (ps.map fun (p:Nat)=>rawInt p).toArray c)
  (hp:∀ (i p:Nat),ps[i]?=some p→∃ e,es[p]?=some e∧xs[i]?=some e.2) (hl:xs.length=ps.length) :
  Walks P w A I [I,a,T] [I] out.length (fun i v=>∃ t,v=.int (out.getD i 0) t) (fun i h=>h.get? I=some (stiObj (.ref T) i a es.size ep)∧h.get? a=some o∧h.get? T=some ob):=by
 have hlo:out.length=ps.length:=by rw [← hl]; exact hx.length.symm
 refine ⟨fun b hb=>by simp at hb; simp [hb],fun i h h' st k=>⟨k I (by simp) _ st.1,k a (by simp) _ st.2.1,k T (by simp) _ st.2.2⟩,fun i s Q E hi st hQ=>?_,fun s Q E st hQ=>?_,fun i s Q E st hQ=>sti_self st.1 hQ⟩
 ·have ep':=List.getElem?_eq_getElem (show i < ps.length by omega)
  obtain ⟨e,he,hxi⟩:=hp i _ ep'
  refine std_item (p:=ps[i]) (tk:=0) (e:=e) st.1 st.2.1 hd hf st.2.2 hob (by rw [List.getElem?_toArray,List.getElem?_map,ep']; rfl) he fun h' eI sb=>?_
  exact hQ _ h' s.toks (ints_at hx i _ hxi) ⟨eI,(sb.2 a hne).trans st.2.1,(sb.2 T hTI).trans st.2.2⟩ fun b u hb hu=>(sb.2 b (fun z=>hb (by simp [z]))).trans hu
 ·refine std_done hh st.1 st.2.1 hd hf st.2.2 hob (by rw [List.getElem?_toArray,List.getElem?_map,List.getElem?_eq_none (by omega)]; rfl) fun h' ex=>?_
  exact hQ h' s.toks fun b u hb hu=>ex b u (fun z=>hb (by simp [z])) hu
theorem iter_set (hh:A.handled=none) {a:Addr} {ks:List Int} {Q:Value→Shared→Prop} (hS:WSet P w s.heap a ks)
  (h:∀ (I:Addr) (h1:Heap) (d1:Drawn) (fp:List Addr) (out:List Int) (St:Nat→Heap→Prop),out.Perm ks→(∀ b o,s.heap.get? b=some o→h1.get? b=some o)→s.heap.objs.size≤I→(∀ b∈fp,b=a∨s.heap.objs.size≤b) →
   Walks P w A I fp [I] out.length (fun i v=>∃ t,v=.int (out.getD i 0) t) St→St 0 h1→Q (.ref I) { s with heap:=h1,drawn:=d1 }) :
  wpAny (model P w) A (pyIter (.ref a)) Q E s:=by
 obtain ⟨o,es,ep,t,ns,ho,ex,hd,el,hI,pm,lt,ft,rs,ld⟩:=hS
 have hT:s.TypeIs (.ref a) "set":=⟨o,ho,ex.1⟩
 have la:a < s.heap.objs.size:=Heap.lt_size ho
 have hne:a≠s.heap.objs.size:=Nat.ne_of_lt la
 have hsz:es.toList.map (·.2)=(es.map (·.2)).toList:=by simp
 have hps:t.place.size=es.size:=by
  simp only [SetTable.fits,Bool.and_eq_true,beq_iff_eq] at ft
  exact ft.1
 refine wpAny_pyIter_slot hT PySem.F.slot_set_iter (wpAny_call_entry PySem.F.slot_set_iter hT PySem.F.st_iter_entry ?_ (PySem.F.args_set_iter_1 _))
 unfold Builtin.«frozenset.__iter__» Builtin.Frozenset.slot0 Builtin.Frozenset.sizeOf
 refine wpAny_bind (wpAny_bind (m:=slotArgs "__iter__" 0 _) (wpAny_pure (wpAny_pure ?_)))
 refine wpAny_bind (wpAny_bind (wpAny_setEntries_of ho hd ft (wpAny_pure ?_)))
 unfold setDrawn setsByText
 refine wpAny_bind (wpAny_bind (wpAny_setState_of ho hd ft ?_))
 dsimp only
 refine wpAny_bind (wpAny_bind (wpAny_askSetting (wpAny_pure (wpAny_pure ?_))))
 have plainNew:(!w.params.followText "set-order" && (!t.plain && decide (es.size > 1)))=false→wpAny (model P w) A.in1 (do
   let first ← pure (rawInt 0)
   ret (← newFields "set_iterator" [first,rawInt 0,.ref a,rawInt es.size,rawInt (← setEpoch a)])) (fun fin s'=>∃ r,fin=.done (.ret r)∧∃ T' r',s'.TypeIs r T'∧typeLookup (.type T') "__next__"=pure (some r')∧Q r s') E s:=by
  intro nd
  refine wpAny_bind (wpAny_pure (wpAny_bind (wpAny_setEpoch_of ho hd ft ?_)))
  unfold newFields
  refine wpAny_bind (wpAny_newObj_type (wpAny_pure ⟨_,rfl,"set_iterator",_,⟨_,Heap.get?_push_size _ rfl,rfl⟩,PySem.F.sti_next.lookup,?_⟩))
  have e0:(s.heap.push { cls:=.type "set_iterator",data:=.fields [rawInt 0,rawInt 0,.ref a,rawInt es.size,rawInt ep].toArray }).get? s.heap.objs.size=some (stiObj (.int 0 0) 0 a es.size ep):=Heap.get?_push_size _ rfl
  cases c:w.params.followText "set-order" with
  | true =>
   obtain ⟨k2,j1,j2⟩:=ints_perm ((pick_perm (w.params.setOrder a ep) es).map (·.2)) hI
   refine h _ _ s.drawn [s.heap.objs.size,a] k2 _ (j2.trans pm) (fun b u hu=>Heap.get?_push_of_some _ hu) (Nat.le_refl _) (fun b hb=>?_) (walks_int (sl:=fun _=>0) hh hne hd ft j1 ?_ fun i s B F R hs hi r=>next_text hs hd ft c ?_) ⟨e0,Heap.get?_push_of_some _ ho⟩
   ·rcases List.mem_cons.mp hb with rfl | hb
    ·exact .inr (Nat.le_refl _)
    ·exact .inl (List.mem_singleton.mp hb)
   ·rw [List.length_map,(pick_perm (w.params.setOrder a ep) es).length_eq,Array.length_toList]
   ·rw [List.getElem?_map,Array.getElem?_toList,Option.map_map] at r
    exact r
  | false =>
   rw [c] at nd ld
   have nd:(!t.plain && decide (es.size > 1))=false:=nd
   have ld:t.led=true:=ld.resolve_left (by decide)
   refine h _ _ s.drawn [s.heap.objs.size,a] ns _ pm (fun b u hu=>Heap.get?_push_of_some _ hu) (Nat.le_refl _) (fun b hb=>?_) (walks_int (sl:=fun i=>if i=0 then 0 else (t.place.getD (i - 1) 0) + 1) hh hne hd ft hI (by rw [List.length_map,Array.length_toList]) fun i s B F R hs hi r=>next_place hs hd ft c ld nd ?_) ⟨e0,Heap.get?_push_of_some _ ho⟩
   ·rcases List.mem_cons.mp hb with rfl | hb
    ·exact .inr (Nat.le_refl _)
    ·exact .inl (List.mem_singleton.mp hb)
   ·-- the place below is i
    have hb:SetTable.below t.place (if i=0 then 0 else (t.place.getD (i - 1) 0) + 1)=i∨(es.size≤SetTable.below t.place (if i=0 then 0 else (t.place.getD (i - 1) 0) + 1)∧i=es.size):=by
     generalize hj:(if i=0 then 0 else (t.place.getD (i - 1) 0) + 1)=j
     have ge:∀ k,k < i→∀ x,t.place[k]?=some x→x < j:=fun k hk x hx=>by
      rw [if_neg (by omega)] at hj
      have e1:=Array.getElem?_eq_getElem (show i - 1 < t.place.size by omega)
      have e2:t.place.getD (i - 1) 0=t.place[i - 1]'(by omega):=by rw [Array.getD_eq_getD_getElem?,e1]; rfl
      rw [e2] at hj
      by_cases z:k=i - 1
      ·subst z; rw [e1] at hx; cases hx; omega
      ·have:=rise_at rs hx e1 (by omega); omega
     have lt':i≤SetTable.below t.place j:=by
      rcases Nat.lt_or_ge (SetTable.below t.place j) i with z | z
      ·have e1:=Array.getElem?_eq_getElem (show SetTable.below t.place j < t.place.size by omega)
       have h1:=ge _ z _ e1
       have h2:=below_ge (j:=j) rs _ _ (Nat.le_refl _) e1
       omega
      ·exact z
     by_cases q:i < es.size
     ·left
      rcases Nat.lt_or_ge i (SetTable.below t.place j) with z | z
      ·have e1:=Array.getElem?_eq_getElem (show i < t.place.size by omega)
       have h1:=below_lt (j:=j) rs i _ z e1
       by_cases i0:i=0
       ·rw [if_pos i0] at hj; omega
       ·rw [if_neg i0] at hj
        have e3:=Array.getElem?_eq_getElem (show i - 1 < t.place.size by omega)
        have e2:t.place.getD (i - 1) 0=t.place[i - 1]'(by omega):=by rw [Array.getD_eq_getD_getElem?,e3]; rfl
        rw [e2] at hj
        have:=rise_at rs e3 e1 (by omega)
        omega
      ·omega
     ·exact .inr ⟨by omega,by omega⟩
    rcases hb with hb | ⟨hb,rfl⟩
    ·rw [hb]
     rcases Nat.lt_or_ge i es.size with z | z
     ·have e1:=Array.getElem?_eq_getElem (show i < t.place.size by omega)
      have e2:t.place.getD (i + 1 - 1) 0=t.place[i]'(by omega):=by rw [Array.getD_eq_getD_getElem?,Nat.add_sub_cancel,e1]; rfl
      rw [List.getElem?_map,Array.getElem?_toList,Array.getElem?_eq_getElem z,if_neg (by omega),e2] at r
      rw [Array.getElem?_eq_getElem z,e1]
      exact r
     ·rw [List.getElem?_map,Array.getElem?_toList,Array.getElem?_eq_none z] at r
      rw [Array.getElem?_eq_none z]
      exact r
    ·rw [List.getElem?_map,Array.getElem?_toList,Array.getElem?_eq_none (Nat.le_refl _)] at r
     rw [Array.getElem?_eq_none hb]
     exact r
 show wpAny _ _ (if (!w.params.followText "set-order" && (!t.plain && decide (es.size > 1)))=true then _ else _) _ _ _
 split
 ·-- drawn
  refine wpAny_bind (draw_perm _ _ _ _ (Nat.le_of_eq List.length_range) fun r d' pr=>?_)
  refine wpAny_bind (wpAny_newTuple ?_ (by rw [List.length_map,pr.length_eq,List.length_range]; exact fits_of_scanBound lt))
  refine wpAny_bind (wpAny_setEpoch_of (s:={ s with heap:=_,drawn:=d' }) (Heap.get?_push_of_some _ ho) hd ft ?_)
  unfold newFields
  refine wpAny_bind (wpAny_newObj_type (wpAny_pure ⟨_,rfl,"set_iterator",_,⟨_,Heap.get?_push_size _ rfl,rfl⟩,PySem.F.sti_next.lookup,?_⟩))
  have hs1:=Heap.size_push s.heap { cls:=.type "tuple",data:=.seq (r.map fun (i:Nat)=>rawInt i).toArray }
  obtain ⟨k2,j1,j2⟩:∃ k2,IntsAre (r.filterMap fun p=>(es[p]?).map (·.2)) k2∧k2.Perm ns:=by
   refine ints_perm ?_ hI
   have e1:(List.range es.size).filterMap (fun p=>(es[p]?).map (·.2))=es.toList.map (·.2):=by
    have:=filterMap_getElem?_range (es.map (·.2))
    rw [Array.size_map] at this
    rw [Array.toList_map] at this
    rw [← this]
    congr 1
    funext p
    rw [Array.getElem?_map]
   rw [← e1]
   exact pr.filterMap _
  have hall:∀ p∈r,p < es.size:=fun p hp=>List.mem_range.mp (pr.mem_iff.mp hp)
  have hfm:∀ (l:List Nat),(∀ p∈l,p < es.size)→(l.filterMap fun p=>(es[p]?).map (·.2)).length=l.length∧∀ (i p:Nat),l[i]?=some p→∃ e,es[p]?=some e∧(l.filterMap fun p=>(es[p]?).map (·.2))[i]?=some e.2:=fun l=>by
   induction l with
   | nil=>intro _; exact ⟨rfl,fun i p e=>by simp at e⟩
   | cons q l ih =>
    intro hq
    have hq0:=Array.getElem?_eq_getElem (hq q List.mem_cons_self)
    obtain ⟨i1,i2⟩:=ih fun p hp=>hq p (List.mem_cons_of_mem _ hp)
    rw [List.filterMap_cons_some (b:=(es[q]'(hq q List.mem_cons_self)).2) (by rw [hq0]; rfl)]
    refine ⟨by rw [List.length_cons,List.length_cons,i1],fun i p e=>?_⟩
    cases i with
    | zero=>cases e; exact ⟨_,hq0,rfl⟩
    | succ i=>exact i2 i p e
  obtain ⟨f1,f2⟩:=hfm r hall
  refine h _ _ d' [_,a,s.heap.objs.size] k2 _ (j2.trans pm) (fun b u hu=>Heap.get?_push_of_some _ (Heap.get?_push_of_some _ hu)) (by rw [hs1]; exact Nat.le_succ _) (fun b hb=>?_) (walks_drawn (T:=s.heap.objs.size) hh ?_ ?_ hd ft j1 (ob:={ cls:=.type "tuple",data:=.seq (r.map fun (i:Nat)=>rawInt i).toArray }) rfl f2 f1) ⟨Heap.get?_push_size _ rfl,Heap.get?_push_of_some _ (Heap.get?_push_of_some _ ho),Heap.get?_push_of_some _ (Heap.get?_push_size _ rfl)⟩
  ·rcases List.mem_cons.mp hb with rfl | hb
   ·rw [hs1]; exact .inr (Nat.le_succ _)
   ·rcases List.mem_cons.mp hb with rfl | hb
    ·exact .inl rfl
    ·rw [List.mem_singleton.mp hb]; exact .inr (Nat.le_refl _)
  ·rw [hs1]; exact Nat.ne_of_lt (Nat.lt_succ_of_lt la)
  ·rw [hs1]; exact Nat.ne_of_lt (Nat.lt_succ_self _)
 ·rename_i c
  exact plainNew (by simpa using c)
end
end L2
set_option maxHeartbeats 4000000
namespace L2
open PySem PySem.Spec PyProof.Rows
noncomputable def dd (ks:List Int):List Int:=ks.foldl step_dedup []
theorem dd_fold:∀ (ks acc:List Int),acc.Nodup→(ks.foldl step_dedup acc).Nodup∧(∀ x,x∈ks.foldl step_dedup acc ↔ x∈acc∨x∈ks)∧(ks.foldl step_dedup acc).length≤acc.length + ks.length
 | [],acc,h=>⟨h,fun x=>by simp,by simp⟩
 | k :: ks,acc,h=>by
  have hs:(step_dedup acc k).Nodup∧(∀ x,x∈step_dedup acc k ↔ x∈acc∨x=k)∧(step_dedup acc k).length≤acc.length + 1:=by
   unfold step_dedup
   by_cases c:acc.any (· == k)=true
   ·rw [if_pos c]
    obtain ⟨y,hy,e⟩:=List.any_eq_true.mp c
    have e:=beq_iff_eq.mp e
    subst e
    exact ⟨h,fun x=>⟨.inl,fun z=>z.elim id fun e=>e ▸ hy⟩,by omega⟩
   ·rw [if_neg c]
    have hk:k ∉ acc:=fun z=>c (List.any_eq_true.mpr ⟨k,z,beq_self_eq_true _⟩)
    refine ⟨?_,fun x=>by simp,by simp⟩
    rw [List.nodup_append]
    refine ⟨h,by simp,fun a ha b hb e=>?_⟩
    rw [List.mem_singleton] at hb
    subst hb e
    exact hk ha
  obtain ⟨i1,i2,i3⟩:=dd_fold ks _ hs.1
  rw [List.foldl_cons]
  refine ⟨i1,fun x=>?_,?_⟩
  ·rw [i2,hs.2.1,List.mem_cons,or_assoc]
  ·have:=hs.2.2
   rw [List.length_cons]
   omega
theorem dd_nodup (ks:List Int):(dd ks).Nodup:=(dd_fold ks [] List.nodup_nil).1
theorem dd_mem {ks:List Int} {x:Int}:x∈dd ks ↔ x∈ks:=by
 have:=(dd_fold ks [] List.nodup_nil).2.1 x
 unfold dd
 simpa using this
theorem dd_len (ks:List Int):(dd ks).length≤ks.length:=by
 have:=(dd_fold ks [] List.nodup_nil).2.2
 unfold dd
 simpa using this
theorem first_dd (ks:List Int):firstMet (fun i=>ks.getD i 0) ks.length=dd ks:=by
 unfold firstMet dd
 congr 1
 apply List.ext_getElem?
 intro i
 rw [List.getElem?_map]
 by_cases h:i < ks.length
 ·rw [List.getElem?_range h,List.getElem?_eq_getElem h]
  show some (ks.getD i 0)=some ks[i]
  rw [List.getD_eq_getElem?_getD,List.getElem?_eq_getElem h]
  rfl
 ·rw [List.getElem?_eq_none (by rw [List.length_range]; omega),List.getElem?_eq_none (by omega)]
  rfl
section
variable {X:Cx}
theorem Inv.draw {pins:List (Addr × Obj)} {σ:List (Option V)} {H:Hp} {s:Shared} {d:Drawn} (I:Inv X pins σ H s):Inv X pins σ H { s with drawn:=d }:=⟨I.ok,I.os,I.bare,I.base,I.loc,I.cell,I.free,I.freeC,I.pin,I.hok,I.len⟩
noncomputable def setH (P:Program) (w:World) (a:Addr) (ks:List Int):HO:=.ext fun h=>WSet P w h a ks
theorem set_ok {H:Hp} {h:Heap} {a:Addr} {ks:List Int} (ws:WSet X.prog X.w h a ks):ObjOk X.prog X.w H h a (setH X.prog X.w a ks):=by
 refine ⟨ws,?_,fun h1 h2 w1 k=>w1.kept k⟩
 obtain ⟨o,_,_,_,_,ho,_⟩:=ws
 exact ⟨o,ho⟩
theorem call_setL (hc:X.calm=true):CallR X (.type "set") (fun xs H Q=>∃ (p:Addr) (ks:List Int),xs=[.ref p]∧SqL X.K H p (ks.map V.int)∧ks.length < 64∧∀ q:Addr,H q=none→Q (.ref q) (upd H q (setH X.prog X.w q (dd ks)))):=by
 intro pins s σ H xs us Q I r h
 obtain ⟨p,ks,rfl,hp,h64,q⟩:=h
 obtain ⟨u,rfl,ru⟩:=vals1 r
 obtain rfl:u=Value.ref p:=ru
 obtain ⟨its,rv,pl,_⟩:=I.list hp
 have hI:IntsAre its ks:=by simpa using intsAre_of rv
 have hl:its.length=ks.length:=hI.length
 refine set_of_list (its:=its.toArray) (ns:=ks) (I.ok.hd hc) pl.isList (by simpa using hI) (by rw [List.size_toArray,hl]; unfold scanBound; omega) fun h' tk ws kp=>?_
 rw [show its.toArray.size=ks.length by rw [List.size_toArray]; exact hl,first_dd] at ws
 exact ⟨.ref s.heap.objs.size,_,I.laid (t':=tk) kp (Nat.le_refl _) (set_ok ws),rfl,q _ (I.hok.fresh (Nat.le_refl _))⟩
variable {P:Program} {w:World} {A:Around} {E:Value→Shared→Prop} {s:Shared}
theorem hint_set {r:Addr} {Q:Bool→Shared→Prop} (hT:s.TypeIs (.ref r) "set") (h:Q false s):wpAny (model P w) A (Builtin.List.listLengthHint (.ref r)) Q E s:=by
 unfold Builtin.List.listLengthHint
 refine wpAny_bind (wpAny_specialOf hT PySem.F.slot_set_len.lookup ?_)
 generalize hid:("set.__len__":String)=id0
 wp_delta
 rw [show splitId id0=some ("set","__len__") from by subst hid; decide +kernel]
 subst hid
 refine wpAny_bind (wpAny_isInstance (T:="set") (b:=true) hT (by rw [isSubtype_type]; kernel_rfl) (wpAny_ite_split (fun z=>absurd z (by decide)) fun _=>wpAny_ite_split (fun _=>?_) fun z=>absurd (by decide +kernel) z))
 exact wpAny_bind (wpAny_typeOf hT (wpAny_pure h))
theorem collect_set {a:Addr} {ks:List Int} {R:List Value→Shared→Prop} (hh:A.handled=none) (hS:WSet P w s.heap a ks) (hn:ks.length≤sizeLine)
  (h:∀ (h':Heap) (d':Drawn) (tk:Nat) (vs:List Value) (out:List Int),(∀ b o,s.heap.get? b=some o→h'.get? b=some o)→IntsAre vs out→out.Perm ks→R vs { s with heap:=h',drawn:=d',toks:=tk }) :
  wpAny (model P w) A (collect (.ref a)) R E s:=by
 have la:=hS.lt
 unfold collect
 refine wpAny_bind (wpAny_runValue (codeAny_builtin entry_proto_collect' ?_))
 rw [Around.under_plainId PySem.F.plain_proto_collect _]
 show wpAny _ A.in1 (newList [] >>= fun l=>again (.builtin "list.__iadd__" ⟨[l,.ref a],[]⟩)) _ _ s
 refine wpAny_bind (wpAny_newObj_type (wpAny_pure ⟨plainId_quiet PySem.F.plain_list_iadd _,codeAny_builtin entry_list_iadd' ?_⟩))
 rw [Around.under_plainId PySem.F.plain_list_iadd _]
 have e0:(s.heap.push { cls:=.type "list",data:=.seq ([]:List Value).toArray }).get? s.heap.objs.size=some { cls:=.type "list",data:=.seq #[] }:=Heap.get?_push_size _ rfl
 have ws1:WSet P w (s.heap.push { cls:=.type "list",data:=.seq ([]:List Value).toArray }) a ks:=hS.kept fun o e=>Heap.get?_push_of_some _ e
 have hT:Shared.TypeIs { s with heap:=s.heap.push { cls:=.type "list",data:=.seq ([]:List Value).toArray } } (.ref a) "set":=by obtain ⟨o,_,_,_,_,ho,ex,_⟩:=ws1; exact ⟨o,ho,ex.1⟩
 have hz:=Heap.size_push s.heap { cls:=.type "list",data:=.seq ([]:List Value).toArray }
 show wpAny _ A.in1 (Builtin.List.listExtendWith (.ref s.heap.objs.size) (.ref a) (.ref s.heap.objs.size)) _ _ _
 unfold Builtin.List.listExtendWith
 refine wpAny_bind (wpAny_typeOf hT ?_)
 have n1:Builtin.List.listSameRef (.ref s.heap.objs.size) (.ref a)=false:=by
  show (s.heap.objs.size == a)=false
  exact beq_eq_false_iff_ne.mpr (Nat.ne_of_gt la)
 simp only [n1,show (Value.type "set" == Value.type "list")=false by decide,show (Value.type "set" == Value.type "tuple")=false by decide,Bool.or_false,Bool.false_eq_true,if_false]
 refine wpAny_bind (iter_set (A:=A.in1) hh ws1 fun I h1 d1 fp out St pm kp hI hfp W st=>?_)
 have eS:=kp _ _ e0
 have hSf:s.heap.objs.size ∉ fp:=fun z=>by
  rcases hfp _ z with q | q
  ·exact Nat.ne_of_gt la q
  ·rw [hz] at q; exact absurd q (Nat.not_succ_le_self _)
 have hSI:s.heap.objs.size≠I:=fun z=>by rw [hz,← z] at hI; exact absurd hI (Nat.not_succ_le_self _)
 have tail:∀ (h2:Heap) (c tk:Nat),St 0 h2→(∀ b o,b≠s.heap.objs.size→h1.get? b=some o→h2.get? b=some o)→h2.get? s.heap.objs.size=some { cls:=.type "list",data:=.seq #[] c } →
   codeAny (model P w) A (.builtin "list.extend.loop" ⟨[.ref s.heap.objs.size,.ref I,.ref s.heap.objs.size],[]⟩) (fun q s'=>∃ (h':Heap) (tk:Nat) (acc:Array Value) (c':Nat),q=.ok (.ret (.ref s.heap.objs.size))∧s'={ s with heap:=h',drawn:=d1,toks:=tk }∧(∀ b o,s.heap.get? b=some o→h'.get? b=some o) ∧
    h'.get? s.heap.objs.size=some { cls:=.type "list",dict:=none,data:=.seq acc c',slots:=#[] }∧ItemsOf (fun i v=>∃ t,v=.int (out.getD i 0) t) acc out.length) { s with heap:=h2,drawn:=d1,toks:=tk }:=by
  intro h2 c tk st2 k2 e2
  refine codeAny_extend_loopS W.toS (by rw [pm.length_eq]; exact hn) _ hSf _ out.length 0 _ #[] c rfl (Nat.zero_le _) st2 e2 (ItemsOf.nil _) fun s' acc c' hm e3 it=>?_
  refine ⟨s'.heap,s'.toks,acc,c',rfl,?_,fun b o e=>?_,e3,it⟩
  ·have e1:s'.gens=s.gens:=hm.gens
   have e2:s'.drawn=d1:=hm.drawn
   have e3:s'.os=s.os:=hm.os
   rw [← e1,← e2,← e3]
  ·have lb:=Heap.lt_size e
   refine hm.heap b o ?_ (k2 b o (Nat.ne_of_lt lb) (kp _ _ (Heap.get?_push_of_some _ e)))
   simp only [List.mem_cons,List.not_mem_nil,or_false,not_or]
   refine ⟨Nat.ne_of_lt lb,fun z=>?_⟩
   rw [hz,← z] at hI
   exact absurd (Nat.lt_of_lt_of_le (Nat.lt_succ_of_lt lb) hI) (Nat.lt_irrefl _)
 refine wpAny_bind (wpAny_holding (hint_set (by obtain ⟨o,ho,hc⟩:=hT; exact ⟨o,kp _ _ ho,hc⟩) ?_))
 have fin:∀ (q:Result) (s':Shared),(∃ (h':Heap) (tk:Nat) (acc:Array Value) (c':Nat),q=.ok (.ret (.ref s.heap.objs.size))∧s'={ s with heap:=h',drawn:=d1,toks:=tk }∧(∀ b o,s.heap.get? b=some o→h'.get? b=some o) ∧
    h'.get? s.heap.objs.size=some { cls:=.type "list",dict:=none,data:=.seq acc c',slots:=#[] }∧ItemsOf (fun i v=>∃ t,v=.int (out.getD i 0) t) acc out.length)→(match q with | .ok (.ret v)=>wpAny (model P w) A (match v with | .ref a=>(do match (← load a).data with | .seq xs _=>pure xs.toList | _=>unsupported "internal:collect") | _=>unsupported "internal:collect") R E s' | .ok _=>False | .error e=>E e s'):=by
  rintro q s' ⟨h',tk,acc,c',rfl,rfl,kp',e3,it⟩
  show wpAny _ A (load s.heap.objs.size >>= _) _ _ _
  refine wpAny_bind (wpAny_load e3 (wpAny_pure (h h' d1 tk acc.toList out kp' ?_ pm)))
  have gen:∀ (us:List Value) (os:List Int),us.length=os.length→(∀ (j:Nat) (v:Value),us[j]?=some v→∃ t,v=Value.int (os.getD j 0) t)→IntsAre us os:=by
   intro us
   induction us with
   | nil =>
    intro os hl _
    cases os with
    | nil=>exact .nil
    | cons _ _=>simp at hl
   | cons u r ih =>
    intro os hl hv
    cases os with
    | nil=>simp at hl
    | cons k ks =>
     obtain ⟨t,e⟩:=hv 0 u rfl
     have e:u=Value.int k t:=e
     subst e
     exact .cons k t (ih ks (by simpa using hl) fun j v hj=>hv (j + 1) v hj)
  exact gen _ _ (by rw [Array.length_toList]; exact it.1) fun j v hj=>it.2 j v (by rw [← Array.getElem?_toList]; exact hj)
 refine wpAny_ite_split (fun _=>?_) (fun z=>absurd (by decide +kernel) z)
 refine wpAny_bind (wpAny_rule (wpAny_bind ?_))
 show wpAny _ _ (updateSeq s.heap.objs.size (·.push .none) >>= fun _=>updateSeq s.heap.objs.size (·.pop)) _ _ _
 refine wpAny_bind (wpAny_updateSeq eS rfl ?_)
 have e2:=Heap.get?_update_self (Obj.mapSeq (·.push Value.none)) eS rfl
 refine wpAny_updateSeq (hz:=by seq_fits) e2 rfl ?_
 have e3:=Heap.get?_update_self (Obj.mapSeq (·.pop)) e2 rfl
 have ot:∀ b o,b≠s.heap.objs.size→h1.get? b=some o→((h1.update s.heap.objs.size (Obj.mapSeq (·.push Value.none))).update s.heap.objs.size (Obj.mapSeq (·.pop))).get? b=some o:=fun b o hb e =>
  (Heap.get?_update_other _ _ (Ne.symm hb)).trans ((Heap.get?_update_other _ _ (Ne.symm hb)).trans e)
 refine wpAny_pure ⟨plainId_quiet PySem.F.plain_extend_loop _,codeAny_mono (tail _ _ _ (W.frame 0 _ _ st fun b hb o e=>ot b o (fun z=>hSf (z ▸ hb)) e) ot e3) fun q s' y=>?_⟩
 exact fin q s' y
end
end L2
set_option maxHeartbeats 4000000
namespace L2
open PySem PySem.Spec PyProof.Rows
section
variable {X:Cx}
theorem call_sortedS (hc:X.calm=true):CallR X (.builtin "sorted") (fun xs H Q=>∃ (p:Addr) (ks:List Int),xs=[.ref p]∧H p=some (setH X.prog X.w p ks)∧ks.length < 64 ∧
  ∀ (q:Addr) (out:List Int),H q=none→out.Perm ks→out.Pairwise (·≤·)→Q (.ref q) (upd H q (.lst (out.map V.int)))):=by
 intro pins s σ H xs us Q I r h
 obtain ⟨p,ks,rfl,hp,h64,q⟩:=h
 obtain ⟨u,rfl,ru⟩:=vals1 r
 obtain rfl:u=Value.ref p:=ru
 have ws:WSet X.prog X.w s.heap p ks:=(I.hok p _ hp).1
 refine Calls.call_function_entry kind_sorted plain_sorted entry_sorted (args_sorted1 _) ?_
 unfold Builtin.«sorted»
 refine wpAny_bind (m:=checkCount "sorted" 1 1 _) (wpAny_pure ?_)
 refine wpAny_bind (collect_set (A:=X.A.in1) (I.ok.hd hc) ws (by rw [sizeLine_eq]; omega) fun h' d' tk vs out kp hI pm=>?_)
 have hl:vs.length=out.length:=hI.length
 have h64':out.length < 64:=by rw [pm.length_eq]; exact h64
 refine wpAny_bind (wpAny_newList ?_ (by rw [hl,sizeLine_eq]; omega))
 have I1:Inv X pins σ H { s with heap:=h',drawn:=d',toks:=tk }:=(I.kept (t':=tk) kp).draw
 have hoL:(h'.push { cls:=.type "list",data:=.seq vs.toArray }).get? h'.objs.size=some (seqObj "list" vs.toArray 0):=Heap.get?_push_size _ rfl
 refine wpAny_bind (wpAny_holding (wpAny_call_entry slot_list_sort ⟨_,hoL,rfl⟩ entry_list_sort (list_sort_tree hoL (by simpa using hI) (by omega) fun res ns a1 a2 a3=>⟨_,rfl,?_⟩) (args_list_sort _)))
 refine wpAny_pure ⟨_,rfl,?_⟩
 obtain ⟨e,he⟩:=sortedHeap_at (out:=res) hoL
 have k2:∀ b u,h'.get? b=some u→(sortedHeap (h'.push { cls:=.type "list",data:=.seq vs.toArray }) h'.objs.size vs res).get? b=some u:=fun b u hb=>by
  have lb:=Heap.lt_size hb
  rw [sortedHeap_old (Nat.ne_of_lt lb) (by rw [Heap.size_push]; exact Nat.lt_succ_of_lt lb)]
  exact Heap.get?_push_of_some _ hb
 have hv:Vals (ns.map V.int) res.toList:=by
  clear he k2
  generalize res.toList=l at a1
  clear a2 a3
  induction a1 with
  | nil=>exact .nil
  | cons i t _ ih=>exact .cons ⟨_,rfl⟩ ih
 refine ⟨.ref h'.objs.size,upd H h'.objs.size (.lst (ns.map V.int)),I1.laid k2 (Nat.le_refl _) ⟨?_,res.toList,e,hv,by rw [he]⟩,rfl,q _ ns I1.fresh (a2.trans pm) a3⟩
 rw [List.length_map,a2.length_eq,sizeLine_eq]; omega
end
end L2
set_option maxHeartbeats 4000000
namespace L2
open PySem PySem.Spec PyProof.Rows
noncomputable def tDEmitX (tk:TE) (tv:TEX) (D:Addr):TBX:=fun σ H N E=>tk σ H fun x H1=>tv σ H1 (fun v H2=>∃ kvs k,x=kV k∧H2 D=some (.dK kvs)∧kvs.length < sizeLine∧N σ (upd H2 D (.dK (putK kvs k v)))) E
section
variable {X:Cx}
theorem pbx_demit {kx vx:Expr} {tk:TE} {tv:TEX} {D:Addr} {c:Code} {p:Pos} (hk:PE X kx tk) (hv:PEC X vx tv) (hx:X.xe=(fun _ _=>False):=by rfl) :
  PBX X ((eval kx X.env >>= fun kv=>holding [kv] (eval vx X.env) >>= fun vv=>standAt p >>= fun _=>holding [kv,vv] (dictSet D kv vv)) >>= fun _=>again c) c (tDEmitX tk tv D):=by
 intro pins s σ H N E hp I h
 have h0:=hk pins s σ H _ I h
 rw [hx] at h0
 refine wpAny_bind (wpAny_bind (wpAny_mono h0 (fun u s1 zz40=>?_) fun _ _ z=>z.elim))
 obtain ⟨x,H1,I1,r1,q1⟩:=zz40
 refine wpAny_bind (wpAny_holding (wpAny_mono (hv pins s1 σ H1 _ E hp I1 q1) (fun w s2 zz41=>?_) fun _ _ z=>z))
 obtain ⟨v,H2,I2,r2,q2⟩:=zz41
 refine wpAny_bind (wpAny_standAt (wpAny_holding ?_))
 obtain ⟨kvs,k,rfl,hD,hl,q⟩:=q2
 exact d_set I2 hD hl r1 r2 fun s3 I3=>wpAny_pure ⟨rfl,σ,_,I3,q⟩
end
noncomputable def tDCompX (ts:List Str) (fv:List (Str × Nat)) (wi:TI) (g:TG) (tt:TT) (tb:Addr→TBX):TEX:=fun σ H Q E=>wi σ H fun J H1=>∀ D,H1 D=none →
 LoopR J g tt (fun σ H N=>tb D σ H N E) (fun _ H'=>Q (.ref D) H') (blkS ts fv σ) (upd H1 D (.dK []))
section
variable {X:Cx} {ts:List Str} {fv:List (Str × Nat)} {scope:Scope} {kx vx t0 i0:Expr} {f0:List Expr} {rest:List Comprehension} {pos:Pos} {wi:TI} {g:TG} {tt:TT} {tb:Addr→TBX} {kont:Env→Addr→Addr→Sem Fin}
theorem pea_dcomp (B:BlkOk X scope fv) (hc:X.calm=true) (hi:PI X t0 i0 wi)
  (hg:∀ C s₀ H₀ ex,PG (blkCx X (blkN ts fv) scope C s₀ H₀ ex) t0 g) (ht:∀ C s₀ H₀ ex,PTs (blkCx X (blkN ts fv) scope C s₀ H₀ ex) f0 tt)
  (heq:∀ (env:Env) (it D:Addr),compTurn (.DictComp kx vx (⟨t0,i0,f0,0⟩ :: rest) scope pos) 0 (.ref it) (.ref D) env=(standAt i0.pos >>= fun _=>pyNext (.ref it) >>= fun r=>match r with
   | none=>pure (.done .next)
   | some v=>letOwnedTupleGo t0 (.ref it) v >>= fun _=>assign t0 env v >>= fun _ =>
    (forIn f0 true fun c r=>if r=true then do let ok ← isTrue c env (eval c env); pure (ForInStep.yield ok) else pure (ForInStep.yield r)) >>= fun ok =>
     if ok=true then kont env it D else again (.compLoop (.DictComp kx vx (⟨t0,i0,f0,0⟩ :: rest) scope pos) 0 (.ref it) (.ref D) env)))
  (hb:∀ C s₀ H₀ ex it D,PBX (blkCx X (blkN ts fv) scope C s₀ H₀ ex) (kont (blkCx X (blkN ts fv) scope C s₀ H₀ ex).env it D) (.compLoop (.DictComp kx vx (⟨t0,i0,f0,0⟩ :: rest) scope pos) 0 (.ref it) (.ref D) (blkCx X (blkN ts fv) scope C s₀ H₀ ex).env) (tb D))
  (hex:X.ex=[]:=by rfl) (hxe:X.xe=(fun _ _=>False):=by rfl) (hstk:∃ o,X.stack=X.env :: o:=by exact ⟨_,rfl⟩) (hfr:X.env.frame=some X.env.locals:=by rfl) (hs:∀ x,foldedSetIterable i0 X.env x=pure x:=by intro _; rfl) :
  PEA X (.DictComp kx vx (⟨t0,i0,f0,0⟩ :: rest) scope pos) (tDCompX ts fv wi g tt tb):=by
 intro pins s σ H Q E I h
 show wpAny _ X.A (comprehension (.DictComp kx vx (⟨t0,i0,f0,0⟩ :: rest) scope pos) scope X.env _ newDict false (eval i0 X.env)) _ _ s
 refine wpAny_comprehension_free (use:=none) rfl hs (closure_run fun y hy e=>I.ok.has y.1 (B.free y hy e)) B.kind B.names ?_
 refine thnF hxe (hi pins s σ H _ I h) fun v s1 h1=>thnF hxe h1 fun itv s2 h2=>?_
 obtain ⟨it,fp,tn,J,H2,e,I2,T,st2,f2,L⟩:=h2
 subst e
 have L:=L s2.heap.objs.size I2.fresh
 refine wpAny_newObj_type ?_
 have I3:Inv X pins σ (upd H2 s2.heap.objs.size (.dK [])) { s2 with heap:=s2.heap.push { cls:=.type "dict",data:=.dict #[] },toks:=s2.toks }:=I2.laid (a:=s2.heap.objs.size) (o:=.dK []) (t':=s2.toks) (fun _ _ q=>Heap.get?_push_of_some _ q) (Nat.le_refl _) (dk_empty s2.heap I2.big)
 have ho2:∀ b∈fp,∃ o,s2.heap.get? b=some o∧∀ v,o.data≠.cell v:=T.obj _ _ st2
 have f3:∀ b∈fp,FpOk X pins (upd H2 s2.heap.objs.size (.dK [])) b:=fun b hb=>by
  obtain ⟨o,ho,_⟩:=ho2 b hb
  refine ⟨?_,(f2 b hb).2⟩
  rw [upd_ne (Nat.ne_of_lt (Heap.lt_size ho))]
  exact (f2 b hb).1
 have st3:tn 0 (s2.heap.push { cls:=.type "dict",data:=.dict #[] }):=T.keep _ _ _ st2 fun b _ o e=>Heap.get?_push_of_some _ e
 have ho3:∀ b∈fp,∃ o,(s2.heap.push { cls:=.type "dict",data:=.dict #[] }).get? b=some o:=fun b hb=>let ⟨o,e,_⟩:=ho2 b hb; ⟨o,Heap.get?_push_of_some _ e⟩
 generalize hs3:({ s2 with heap:=s2.heap.push { cls:=.type "dict",data:=.dict #[] },toks:=s2.toks }:Shared)=s3 at I3
 have eh:s2.heap.push { cls:=.type "dict",data:=.dict #[] }=s3.heap:=by rw [← hs3]
 rw [eh] at st3 ho3
 refine wpAny_newFunctionEnv B.nocell (by intro y hy; simp at hy) (fun h₁ hns hsb=>?_) B.kind
 have hk:∀ b o,s3.heap.get? b=some o→h₁.get? b=some o:=fun b o e=>hsb.extBut b o (Nat.ne_of_lt (Heap.lt_size e)) (Heap.get?_push_of_some _ e)
 have I4:=blk_start (ts:=ts) (tk:=s3.toks + ([]:List (Str × Value)).length) B I3 f3 ho3 hns hk
 have f4:∀ b∈fp,FpOk (blkCx X (blkN ts fv) scope s3.heap.objs.size s3 (upd H2 s2.heap.objs.size (.dK [])) fp) [] (upd H2 s2.heap.objs.size (.dK [])) b:=fun b hb=>by
  obtain ⟨f0,f1,f2',f3',f4',f5'⟩:=f3 b hb
  obtain ⟨o,eo⟩:=ho3 b hb
  exact ⟨f0,Nat.ne_of_lt (Heap.lt_size eo),I4.ok.exfs b hb,.inl hb,(I4.ok.exf b hb).2,fun p hp=>absurd (show p∈([]:List (Addr × Obj)) from hp) (by simp)⟩
 have st4:tn 0 h₁:=T.keep _ _ _ st3 fun b _ o e=>hk b o e
 have loop:codeAny (model X.prog X.w) X.A (.compLoop (.DictComp kx vx (⟨t0,i0,f0,0⟩ :: rest) scope pos) 0 (.ref it) (.ref s2.heap.objs.size) (blkCx X (blkN ts fv) scope s3.heap.objs.size s3 (upd H2 s2.heap.objs.size (.dK [])) fp).env)
   (compPost (model X.prog X.w) X.A (XA X pins E) none (EP X pins σ Q) (.ref s2.heap.objs.size) s3.heap.objs.size) { s3 with heap:=h₁,toks:=s3.toks + ([]:List (Str × Value)).length }:=by
  refine comp_loopX (X:=blkCx X (blkN ts fv) scope s3.heap.objs.size s3 (upd H2 s2.heap.objs.size (.dK [])) fp) (tg:=t0) (ifs:=f0) (R:=fun _ H'=>Q (.ref s2.heap.objs.size) H') (E:=E) rfl rfl rfl rfl rfl (heq _ it s2.heap.objs.size) T hc (hg _ _ _ _) (ht _ _ _ _) (hb _ _ _ _ it s2.heap.objs.size) f4 I4 st4 L (fun s' σ' H' J' q=>?_) fun pb ev s' z=>noted_out _ I3 hex hstk hfr f3 (Nat.le_refl _) z
  obtain ⟨e1,e2,e3,e4,e5,e6⟩:=blk_end I3 f3 (Nat.le_refl _) J'
  obtain ⟨m,hm,_⟩:=J'.loc
  exact ⟨m,hm,fun h' hs'=>⟨.ref s2.heap.objs.size,H',e1.apart hs' e2 e3 e4 e5 e6,rfl,q⟩⟩
 exact codeAny_compStart_dict loop (T.self _ _ _ _ _ st4 loop)
end
noncomputable def tThawX (H0:Hp) (t:TEX):TEX:=fun σ H Q E=>t σ H (fun v H'=>∃ (a:Addr) (o:Obj) (kvs:List (Key × V)),H' a=some (.frz o (.dK kvs))∧(∀ o u,H0 a≠some (.frz o u))∧Q v (upd H' a (.dK kvs))) E
theorem pea_thaw {X:Cx} {e:Expr} {t:TEX} (h:PEA X e t):PEA X e (tThawX X.H₀ t):=by
 intro pins s σ H Q E I hw
 refine wpAny_mono (h pins s σ H _ E I hw) (fun v s' q=>?_) fun _ _ e=>e
 obtain ⟨x,H',I',r,a,o,kvs,e,h0,q⟩:=q
 exact ⟨x,_,I'.thaw e h0,r,q⟩
end L2
set_option maxHeartbeats 4000000
namespace L2
open PySem PySem.Spec PyProof.Rows
section
variable {X:Cx}
noncomputable abbrev THs:=Value→TS
noncomputable def PHs (X:Cx) (hs:List ExceptHandler) (t:THs):Prop :=
 ∀ (pins:List (Addr × Obj)) (s:Shared) (σ:St) (H:Hp) (D:Ends) (e T:Addr) (cls a0:Value) (h':Heap),Inv X pins σ H s→FxOk X pins H e→FxOk X pins H T →
  Heap.FlyingW (PySem.W.hideAll s.heap (e :: T :: frs X.stack)) X.stack e cls a0 h'→s.heap.UpToSlots h'→t cls D σ H→wpAny (model X.prog X.w) X.A (handleBy (.ref e) X.env hs) (SP X pins D) X.xe { s with heap:=h' }
theorem hs_off {hs:List ExceptHandler}:PHs X hs (fun _ _ _ _=>False):=fun _ _ _ _ _ _ _ _ _ _ _ _ _ _ _ z=>z.elim
theorem hs_cons {b₀:Stmt} {suite:List Stmt} {x:Str} {np hpos:Pos} {rest:List ExceptHandler} {ts:TS} {tr:THs} {C:Addr} (hg:Gl X x) (hm:X.mg x=some (.ref C)) (hs:∀ e,PSs (hndCx X e) (b₀ :: suite) ts) (hr:PHs X rest tr)
  (hex:X.ex=[]:=by rfl) (hx:X.xe=(fun _ _=>False):=by rfl) (hdb:(x == ("__debug__":Str))=false:=by decide) :
  PHs X (.ExceptHandler (some (.Name x np)) none (b₀ :: suite) hpos :: rest) (fun cls D σ H=>∃ b,PySem.W.exmOne X.K cls (.ref C)=some b∧if b=true then ts D σ H else tr cls D σ H):=by
 intro pins s σ H D e T cls a0 h' I fe fT hheld hsm q
 obtain ⟨b,hb,q⟩:=q
 have I5:Inv X pins σ H { s with heap:=h' }:=I.flown hex fe fT hheld.1 hsm
 obtain ⟨ob,hob,hobc⟩:=hheld.there
 refine wpAny_handleBy_cons (codeAny_handlers_test (ld_glob (X:=hndCx X e) (I5.hnd e) hg hm ?_ hdb)) (by intro q; cases q)
 have LT:PySem.W.Looks (model X.prog X.w) h' (typeOf (.ref e)) cls:=by
  have:PySem.W.Looks (model X.prog X.w) h' (typeOf (.ref e)) ob.cls:=(PySem.W.Looks.ld hob).andThen .now
  rw [hobc] at this
  exact this
 refine (PySem.W.exm_one I5.kIn LT hb).here ?_
 cases b with
 | false=>exact hr pins s σ H D e T cls a0 h' I fe fT hheld hsm q
 | true =>
  refine codeAny_handlers_suite ?_
  refine lands_againW hheld fun h₆ hfl₆ hsm₆=>?_
  have I6:Inv X pins σ H { s with heap:=h₆ }:=I.flown hex fe fT hfl₆.1 (hsm.trans hsm₆)
  have h6:=hs e pins _ σ H D (I6.hnd e) q
  have hxe:(hndCx X e).xe=fun _ _=>False:=hx
  rw [hxe] at h6
  refine wpAny_mono h6 (fun f s2 q2=>?_) fun _ _ z=>z.elim
  exact q2.unhnd I6.ok
noncomputable def tTryN (tb:TSX) (th:THs):TS:=fun D σ H=>tb D (fun cls σ' H'=>th cls D σ' H') σ H
theorem ps_tryN {body:List Stmt} {h₀:ExceptHandler} {hs:List ExceptHandler} {pos:Pos} {tb:TSX} {th:THs} (hb:PSsX false X body tb) (hh:PHs X (h₀ :: hs) th)
  (hex:X.ex=[]:=by rfl) (hstk:∃ o,X.stack=X.env :: o:=by exact ⟨_,rfl⟩) (hfr:X.env.frame=some X.env.locals:=by rfl) :
  PS X (.Try body (h₀ :: hs) [] [] pos) (tTryN tb th):=by
 intro pins s σ H D I h
 obtain ⟨outer,hstk⟩:=hstk
 refine wpAny_Try_except (wpAny_mono (hb pins s σ H D _ I h) (fun f s1 q=>?_) ?_)
 ·cases f with
  | next=>exact wpAny_execs_nil q
  | ret v=>exact q
  | brk=>exact q
  | cont=>exact q
 ·rintro ev s1 ⟨e,T,cls,a0,σ1,H1,rfl,I1,hx1,fe,fT,hT,q⟩
  obtain ⟨T,rfl⟩:∃ t,T=some t:=by
   cases T with
   | none=>exact absurd (hT rfl) Bool.false_ne_true
   | some t=>exact ⟨t,rfl⟩
  have fT:=fT T rfl
  have hf1:=fly_of I1 hx1
  have hA:X.A.frames=some (X.env :: outer):=by rw [I.ok.frames,hstk]
  have hf1':Heap.FlyingW (PySem.W.hideAll s1.heap (e :: T :: frs X.stack)) (X.env :: outer) e cls a0 s1.heap:=by
   have:=hf1
   generalize PySem.W.hideAll s1.heap (e :: T :: frs X.stack)=B at this ⊢
   rw [hstk] at this
   exact this
  refine wpAny_looks_onW hA hfr hf1' fun h₄ hheld₄ hsm₄=>?_
  refine wpAny_landsW hheld₄ fun h₅ hheld hsm₅'=>?_
  refine hh pins s1 σ1 H1 D e T cls a0 h₅ I1 fe fT ?_ (hsm₄.trans hsm₅') q
  generalize PySem.W.hideAll s1.heap (e :: T :: frs X.stack)=B at hheld ⊢
  rw [hstk]
  exact hheld
end
end L2
set_option maxHeartbeats 4000000
namespace L2
open PySem PySem.Spec PyProof.Rows
theorem FnOk.or {P:Program} {w:World} {K:PySem.W.Frag} {mg:Str→Option Value} {base:Heap} {CX:CXT} {k:Nat} {f:Addr} {fd:FuncData} {ps:List Str} {sp sp':Sp} (F:FnOk P w K mg base CX k f fd ps sp) (G:FnOk P w K mg base CX k f fd ps sp') :
  FnOk P w K mg base CX k f fd ps (fun vs H Q E=>sp vs H Q E∨sp' vs H Q E) :=
 ⟨fun vs H Q E q=>q.elim (F.len vs H Q E) (G.len vs H Q E),fun A outer s H args us vs Q E hr he hb hv hs=>hs.elim (F.run A outer s H args us vs Q E hr he hb hv) (G.run A outer s H args us vs Q E hr he hb hv)⟩
section
variable {P:Program} {w:World} {K:PySem.W.Frag} {mg:Str→Option Value} {base:Heap}
theorem Fun.okXA {x qual:Str} {st:Stmt} {f:Addr} {fd:FuncData} {N ps:List Str} {k:Nat} {sp:Sp} {ex:Expr} {rp:Pos} {s1:Stmt} (F:Fun K x qual st f fd) (S:FnScope N ps (defScope st)) (len:∀ vs H Q E,sp vs H Q E→vs.length=ps.length) (hst:defBody st=[s1,.Return (some ex) rp])
  (hbody:∀ (cdv:Value) (A:Around) (outer:List Env) (s:Shared) (H:Hp) (vs:List V) (Q:VK) (E:XK),Room k (A.deeper (envOfC qual (defScope st) s.heap.objs.size f cdv))→sp vs H Q E →
   ∃ t1 t,PSX true (cxOf (CXr P w) P w K mg base N qual (defScope st) f cdv A outer s H E).nox s1 t1∧PEA (cxOf (CXr P w) P w K mg base N qual (defScope st) f cdv A outer s H E).nox ex t ∧
    t1 { nx:=fun σ H'=>t σ H' Q E,rt:=Q } (fun cls _ H'=>E cls none H') (start N vs) H):FnOk P w K mg base (CXr P w) (k + 1) f fd ps sp:=by
 obtain ⟨oc,od,kV,doc,pm,an,cdv,ct,osl,rfl,lk,hcd⟩:=F.ex
 refine fn_of lk hcd S len fun A outer s H vs Q E hr hsp=>?_
 obtain ⟨t1,t,h1,h,q⟩:=hbody cdv A outer s H vs Q E hr hsp
 refine ⟨fun D σ H'=>t1 { D with nx:=fun σ H'=>t σ H' D.rt E } (fun cls _ H''=>E cls none H'') σ H',fun pins s' σ' H' D I hD=>?_,q⟩
 rw [hst]
 refine wpAny_execs_cons (wpAny_mono (h1 pins s' σ' H' { D with nx:=fun σ H'=>t σ H' D.rt E } _ (I.wish _) hD) (fun f s1 q=>?_) fun ev s'' z=>leave_ok (fr:=true) ?_)
 ·cases f with
  | next =>
   obtain ⟨σ2,H2,I2,q2⟩:=q
   have h0:=h pins s1 σ2 H2 D.rt E I2 q2
   refine wpAny_execs_cons (wpAny_Return_some (wpAny_mono h0 (fun v s1 q=>?_) fun ev s'' z=>leave_any z))
   obtain ⟨x,H1,I1,r1,q1⟩:=q
   exact ⟨x,σ2,H1,I1.unwish,r1,q1⟩
  | ret v=>obtain ⟨x,σ2,H2,I2,r2,q2⟩:=q; exact ⟨x,σ2,H2,I2.unwish,r2,q2⟩
  | brk=>obtain ⟨σ2,H2,I2,q2⟩:=q; exact ⟨σ2,H2,I2.unwish,q2⟩
  | cont=>obtain ⟨σ2,H2,I2,q2⟩:=q; exact ⟨σ2,H2,I2.unwish,q2⟩
 ·obtain ⟨e,T,cls,a0,σ2,H2,h1,h2,h3,h4,h5,h7,h6⟩:=z
  exact ⟨e,T,cls,a0,σ2,H2,h1,h2.pins_of (fun p hp=>absurd hp (by simp)),h3,h4.none,fun t ht=>(h5 t ht).none,h7,h6⟩
end
end L2
set_option maxHeartbeats 4000000
set_option genInjectivity false
set_option genSizeOf false
namespace KT
open PySem L2
noncomputable def bmV:List Value:=[.type "ValueError",.type "Exception",.type "BaseException",.type "object"]
theorem FBV:ExcBaseFacts "ValueError" "ValueError.__new__" "ValueError.__init__" bmV:=PySem.F.excBase_ValueError
theorem map_some {α:Type} {f:α→V} {l:List α} {i:Nat} {y:V} (h:(l.map f)[i]?=some y):∃ q,l[i]?=some q∧y=f q:=by
 rw [List.getElem?_map] at h
 cases e:l[i]? with
 | none=>rw [e] at h; cases h
 | some q=>rw [e] at h; cases h; exact ⟨q,rfl,rfl⟩
structure FT (K:PySem.W.Frag) (mg:Str→Option Value) (x:Str) (st:Stmt) (ps:List Str) (f:Addr) (d:FuncData):Prop where
 F:Fun K x x st f d
 b:Binds K d ps []
 g:mg x=some (.ref f)
structure FM (K:PySem.W.Frag) (C:Addr) (x q:Str) (st:Stmt) (ps:List Str) (f:Addr) (d:FuncData):Prop where
 F:Fun K x q st f d
 b:Binds K d ps []
 m:Meth K C x f
noncomputable def BA (q:Str) (st:Stmt) (ps:List Str):Prop:=∀ (x:Str) (kV doc pm:Value) (an:Option Addr) (cdv ct:Value) (us:List Value),us.length=ps.length→bindArgs (PySem.W.fnOf x q (defArgs st) (defBody st) (defScope st) .none kV doc pm an cdv ct) ⟨us,[]⟩=pure (ps.zip us)
theorem len_two {α:Type} {us:List α} (e:us.length=2):∃ a b,us=[a,b]:=by
 obtain ⟨a,us,rfl⟩:=List.exists_cons_of_length_eq_add_one e
 obtain ⟨b,rfl⟩:=List.length_eq_one_iff.mp (Nat.succ.inj e)
 exact ⟨a,b,rfl⟩
theorem len_three {α:Type} {us:List α} (e:us.length=3):∃ a b c,us=[a,b,c]:=by
 obtain ⟨a,us,rfl⟩:=List.exists_cons_of_length_eq_add_one e
 obtain ⟨b,c,rfl⟩:=len_two (Nat.succ.inj e)
 exact ⟨a,b,c,rfl⟩
theorem ba1 {q:Str} {st:Stmt} {ps:List Str} (h:∀ (x:Str) (kV doc pm:Value) (an:Option Addr) (cdv ct:Value) (a:Value),bindArgs (PySem.W.fnOf x q (defArgs st) (defBody st) (defScope st) .none kV doc pm an cdv ct) ⟨[a],[]⟩=pure (ps.zip [a])) (hl:ps.length=1):BA q st ps:=fun x kV doc pm an cdv ct us e=>by
 rw [hl] at e
 obtain ⟨a,rfl⟩:=List.length_eq_one_iff.mp e
 exact h x kV doc pm an cdv ct a
theorem ba2 {q:Str} {st:Stmt} {ps:List Str} (h:∀ (x:Str) (kV doc pm:Value) (an:Option Addr) (cdv ct:Value) (a b:Value),bindArgs (PySem.W.fnOf x q (defArgs st) (defBody st) (defScope st) .none kV doc pm an cdv ct) ⟨[a,b],[]⟩=pure (ps.zip [a,b])) (hl:ps.length=2):BA q st ps:=fun x kV doc pm an cdv ct us e=>by
 rw [hl] at e
 obtain ⟨a,b,rfl⟩:=len_two e
 exact h x kV doc pm an cdv ct a b
theorem ba3 {q:Str} {st:Stmt} {ps:List Str} (h:∀ (x:Str) (kV doc pm:Value) (an:Option Addr) (cdv ct:Value) (a b c:Value),bindArgs (PySem.W.fnOf x q (defArgs st) (defBody st) (defScope st) .none kV doc pm an cdv ct) ⟨[a,b,c],[]⟩=pure (ps.zip [a,b,c])) (hl:ps.length=3):BA q st ps:=fun x kV doc pm an cdv ct us e=>by
 rw [hl] at e
 obtain ⟨a,b,c,rfl⟩:=len_three e
 exact h x kV doc pm an cdv ct a b c
theorem ba4 {q:Str} {st:Stmt} {ps:List Str} (h:∀ (x:Str) (kV doc pm:Value) (an:Option Addr) (cdv ct:Value) (a b c d:Value),bindArgs (PySem.W.fnOf x q (defArgs st) (defBody st) (defScope st) .none kV doc pm an cdv ct) ⟨[a,b,c,d],[]⟩=pure (ps.zip [a,b,c,d])) (hl:ps.length=4):BA q st ps:=fun x kV doc pm an cdv ct us e=>by
 rw [hl] at e
 obtain ⟨a,us,rfl⟩:=List.exists_cons_of_length_eq_add_one e
 obtain ⟨b,c,d,rfl⟩:=len_three (Nat.succ.inj e)
 exact h x kV doc pm an cdv ct a b c d
section
variable {K:PySem.W.Frag} {h:Heap} {mg:Str→Option Value} {C:Addr} {x q:Str} {st:Stmt} {ps:List Str} {f:Addr} {oc:Value} {od an:Option Addr} {sl:Array (Option Value)} {kV doc pm cd ct:Value}
theorem FT.of (X:K.In h) (G:h.Ns mainGlobals mg) (B:BA x st ps) (a:PySem.W.nsIn K mainGlobals x=some (some (.ref f))) (l:K.lookup f=some ⟨oc,od,.func (PySem.W.fnOf x x (defArgs st) (defBody st) (defScope st) .none kV doc pm an cd ct),sl⟩)
  (c:PySem.W.codeIn K cd x=true) (k:PySem.W.keepIn K (.ref f)=true):FT K mg x st ps f (PySem.W.fnOf x x (defArgs st) (defBody st) (defScope st) .none kV doc pm an cd ct):=⟨fun_mk l c k,(fun_mk l c k).binds (B x),PySem.W.mg_of X G a⟩
theorem FM.of (B:BA q st ps) (a:PySem.W.findIn K (.ref C) x=some (some (.ref f))) (i:PySem.W.isFn K (.ref f)=true) (l:K.lookup f=some ⟨oc,od,.func (PySem.W.fnOf x q (defArgs st) (defBody st) (defScope st) .none kV doc pm an cd ct),sl⟩)
  (c:PySem.W.codeIn K cd q=true) (k:PySem.W.keepIn K (.ref f)=true):FM K C x q st ps f (PySem.W.fnOf x q (defArgs st) (defBody st) (defScope st) .none kV doc pm an cd ct):=⟨fun_mk l c k,(fun_mk l c k).binds (B x),⟨a,i,k⟩⟩
end
noncomputable def top (i:Nat):Stmt:=PySem.Challenge.pw_tentloops_k45_worths_refused.main.body.getD i (.Pass ⟨0,0,0,0⟩)
noncomputable abbrev s_after:Stmt:=top 13
noncomputable abbrev s_before:Stmt:=top 14
noncomputable abbrev s_cloth_of:Stmt:=top 15
noncomputable abbrev s_spots_of:Stmt:=top 16
noncomputable abbrev s_mates_of:Stmt:=top 17
noncomputable abbrev s_Tent_init:Stmt:=inClass (top 18) 0
noncomputable abbrev s_Tent_rows:Stmt:=inClass (top 18) 1
noncomputable abbrev s_Tent_seams:Stmt:=inClass (top 18) 3
noncomputable abbrev s_Tent_has_place:Stmt:=inClass (top 18) 5
noncomputable abbrev s_Tent_look_place:Stmt:=inClass (top 18) 6
noncomputable abbrev s_Tent_seam_at:Stmt:=inClass (top 18) 7
noncomputable abbrev s_Tent_places:Stmt:=inClass (top 18) 8
noncomputable abbrev s_Tent_mate:Stmt:=inClass (top 18) 9
noncomputable abbrev s_Tent_sort_of:Stmt:=inClass (top 18) 10
noncomputable abbrev s_look_free:Stmt:=top 20
noncomputable abbrev s_square:Stmt:=top 21
noncomputable abbrev s_crossable:Stmt:=top 23
noncomputable abbrev s_follows:Stmt:=top 24
noncomputable abbrev s_plain:Stmt:=top 25
noncomputable abbrev s_look_thread:Stmt:=top 26
noncomputable abbrev s_turned:Stmt:=top 27
noncomputable abbrev s_letter:Stmt:=top 28
noncomputable abbrev s_letters:Stmt:=top 29
noncomputable abbrev s_common_measure:Stmt:=top 31
noncomputable abbrev s_look_fraction:Stmt:=top 32
noncomputable abbrev s_fraction:Stmt:=top 33
noncomputable abbrev s_sewn_seams:Stmt:=top 34
noncomputable abbrev s_lowest_worths:Stmt:=top 35
noncomputable abbrev s_product:Stmt:=top 36
noncomputable abbrev s_stretched:Stmt:=top 37
noncomputable abbrev s_diagonal_sum:Stmt:=top 38
noncomputable abbrev s_lowest_over:Stmt:=top 39
noncomputable abbrev s_worth:Stmt:=top 40
noncomputable abbrev s_l_cell:Stmt:=top 42
noncomputable abbrev s_l_numbers:Stmt:=top 43
noncomputable abbrev s_l_sewn:Stmt:=top 44
noncomputable abbrev s_l_rows:Stmt:=top 45
noncomputable abbrev s_l_tent:Stmt:=top 46
noncomputable abbrev s_l_worths:Stmt:=top 47
noncomputable abbrev s_l_seam:Stmt:=top 48
noncomputable abbrev s_l_free:Stmt:=top 49
noncomputable abbrev s_l_walk:Stmt:=top 50
noncomputable abbrev s_l_thread:Stmt:=top 51
noncomputable abbrev s_l_told:Stmt:=top 52
noncomputable abbrev s_l_due:Stmt:=top 53
noncomputable abbrev s_law:Stmt:=top 54
structure Adr where
 (C_Tent f_after f_before f_cloth_of f_spots_of f_mates_of f_Tent_init f_Tent_rows f_Tent_seams f_Tent_has_place f_Tent_look_place f_Tent_seam_at f_Tent_places f_Tent_mate f_Tent_sort_of f_look_free f_square f_crossable f_follows f_plain f_look_thread f_turned f_letter f_letters f_common_measure f_look_fraction f_fraction f_sewn_seams f_lowest_worths f_product f_stretched f_diagonal_sum f_lowest_over f_worth f_l_cell f_l_numbers f_l_sewn f_l_rows f_l_tent f_l_worths f_l_seam f_l_free f_l_walk f_l_thread f_l_told f_l_due f_law E_NoPlace E_NoSeam E_Rim E_Locked E_NoThread E_NoFraction E_NoWorths:Addr)
 (d_after d_before d_cloth_of d_spots_of d_mates_of d_Tent_init d_Tent_rows d_Tent_seams d_Tent_has_place d_Tent_look_place d_Tent_seam_at d_Tent_places d_Tent_mate d_Tent_sort_of d_look_free d_square d_crossable d_follows d_plain d_look_thread d_turned d_letter d_letters d_common_measure d_look_fraction d_fraction d_sewn_seams d_lowest_worths d_product d_stretched d_diagonal_sum d_lowest_over d_worth d_l_cell d_l_numbers d_l_sewn d_l_rows d_l_tent d_l_worths d_l_seam d_l_free d_l_walk d_l_thread d_l_told d_l_due d_law:FuncData)
 (k_GREATEST_NAME:Tok)
structure Txt (w:World) (K:PySem.W.Frag) (mg:Str→Option Value) (t:Adr):Prop where
 gC_Tent:mg "Tent"=some (.ref t.C_Tent)
 cl_Tent:Cls K t.C_Tent
 a_Tent_cloths:NoAttr K t.C_Tent "cloths"
 a_Tent_names_at:NoAttr K t.C_Tent "names_at"
 a_Tent_spots:NoAttr K t.C_Tent "spots"
 a_Tent_mates:NoAttr K t.C_Tent "mates"
 p_after:FT K mg "after" s_after ["place"] t.f_after t.d_after
 p_before:FT K mg "before" s_before ["place"] t.f_before t.d_before
 p_cloth_of:FT K mg "cloth_of" s_cloth_of ["place"] t.f_cloth_of t.d_cloth_of
 p_spots_of:FT K mg "spots_of" s_spots_of ["names_at"] t.f_spots_of t.d_spots_of
 p_mates_of:FT K mg "mates_of" s_mates_of ["spots","count"] t.f_mates_of t.d_mates_of
 p_Tent_init:FM K t.C_Tent "__init__" "Tent.__init__" s_Tent_init ["self","rows"] t.f_Tent_init t.d_Tent_init
 p_Tent_rows:FM K t.C_Tent "rows" "Tent.rows" s_Tent_rows ["self"] t.f_Tent_rows t.d_Tent_rows
 p_Tent_seams:FM K t.C_Tent "seams" "Tent.seams" s_Tent_seams ["self"] t.f_Tent_seams t.d_Tent_seams
 p_Tent_has_place:FM K t.C_Tent "has_place" "Tent.has_place" s_Tent_has_place ["self","place"] t.f_Tent_has_place t.d_Tent_has_place
 p_Tent_look_place:FM K t.C_Tent "look_place" "Tent.look_place" s_Tent_look_place ["self","place"] t.f_Tent_look_place t.d_Tent_look_place
 p_Tent_seam_at:FM K t.C_Tent "seam_at" "Tent.seam_at" s_Tent_seam_at ["self","place"] t.f_Tent_seam_at t.d_Tent_seam_at
 p_Tent_places:FM K t.C_Tent "places" "Tent.places" s_Tent_places ["self","seam"] t.f_Tent_places t.d_Tent_places
 p_Tent_mate:FM K t.C_Tent "mate" "Tent.mate" s_Tent_mate ["self","place"] t.f_Tent_mate t.d_Tent_mate
 p_Tent_sort_of:FM K t.C_Tent "sort_of" "Tent.sort_of" s_Tent_sort_of ["self","seam"] t.f_Tent_sort_of t.d_Tent_sort_of
 p_look_free:FT K mg "look_free" s_look_free ["tent","seam"] t.f_look_free t.d_look_free
 p_square:FT K mg "square" s_square ["tent","seam"] t.f_square t.d_square
 p_crossable:FT K mg "crossable" s_crossable ["tent","place"] t.f_crossable t.d_crossable
 p_follows:FT K mg "follows" s_follows ["tent","ahead","place"] t.f_follows t.d_follows
 p_plain:FT K mg "plain" s_plain ["tent","word"] t.f_plain t.d_plain
 p_look_thread:FT K mg "look_thread" s_look_thread ["tent","word"] t.f_look_thread t.d_look_thread
 p_turned:FT K mg "turned" s_turned ["word","by"] t.f_turned t.d_turned
 p_letter:FT K mg "letter" s_letter ["tent","ahead","place"] t.f_letter t.d_letter
 p_letters:FT K mg "letters" s_letters ["tent","word"] t.f_letters t.d_letters
 p_common_measure:FT K mg "common_measure" s_common_measure ["one","other"] t.f_common_measure t.d_common_measure
 p_look_fraction:FT K mg "look_fraction" s_look_fraction ["top","bottom"] t.f_look_fraction t.d_look_fraction
 p_fraction:FT K mg "fraction" s_fraction ["top","bottom"] t.f_fraction t.d_fraction
 p_sewn_seams:FT K mg "sewn_seams" s_sewn_seams ["tent"] t.f_sewn_seams t.d_sewn_seams
 p_lowest_worths:FT K mg "lowest_worths" s_lowest_worths ["tent","worths"] t.f_lowest_worths t.d_lowest_worths
 p_product:FT K mg "product" s_product ["one","other"] t.f_product t.d_product
 p_stretched:FT K mg "stretched" s_stretched ["tent","worths","seam"] t.f_stretched t.d_stretched
 p_diagonal_sum:FT K mg "diagonal_sum" s_diagonal_sum ["crossed","turns"] t.f_diagonal_sum t.d_diagonal_sum
 p_lowest_over:FT K mg "lowest_over" s_lowest_over ["top","factors"] t.f_lowest_over t.d_lowest_over
 p_worth:FT K mg "worth" s_worth ["tent","worths","word"] t.f_worth t.d_worth
 p_l_cell:FT K mg "_law_cell" s_l_cell ["_law_script","_law_at"] t.f_l_cell t.d_l_cell
 p_l_numbers:FT K mg "_law_numbers" s_l_numbers ["_law_cell_here","_law_many"] t.f_l_numbers t.d_l_numbers
 p_l_sewn:FT K mg "_law_sewn" s_l_sewn ["_law_nums","_law_many","_law_share"] t.f_l_sewn t.d_l_sewn
 p_l_rows:FT K mg "_law_rows" s_l_rows ["_law_mates","_law_start","_law_step"] t.f_l_rows t.d_l_rows
 p_l_tent:FT K mg "_law_tent" s_l_tent ["_law_script"] t.f_l_tent t.d_l_tent
 p_l_worths:FT K mg "_law_worths" s_l_worths ["_law_mates","_law_rows_here","_law_nums"] t.f_l_worths t.d_l_worths
 p_l_seam:FT K mg "_law_seam" s_l_seam ["_law_rows_here","_law_place"] t.f_l_seam t.d_l_seam
 p_l_free:FT K mg "_law_free" s_l_free ["_law_mates"] t.f_l_free t.d_l_free
 p_l_walk:FT K mg "_law_walk" s_l_walk ["_law_mates","_law_nums"] t.f_l_walk t.d_l_walk
 p_l_thread:FT K mg "_law_thread" s_l_thread ["_law_script","_law_at","_law_mates"] t.f_l_thread t.d_l_thread
 p_l_told:FT K mg "_law_told" s_l_told ["_law_door","_law_tent_here","_law_worths_here","_law_thing"] t.f_l_told t.d_l_told
 p_l_due:FT K mg "_law_due" s_l_due ["_law_mates","_law_rows_here","_law_worths_here"] t.f_l_due t.d_l_due
 p_law:FT K mg "law" s_law ["_law_script"] t.f_law t.d_law
 mk_Tent:Mk K t.C_Tent t.f_Tent_init
 c_GREATEST_NAME:mg "GREATEST_NAME"=some (.int 9999 t.k_GREATEST_NAME)
 bl:∀ (s:Shared) (u:Value),BindsTo s t.d_law ⟨[u],[]⟩ [("_law_script",u)]
 n_all:mg "all"=none
 n_dict:mg "dict"=none
 n_enumerate:mg "enumerate"=none
 n_len:mg "len"=none
 n_list:mg "list"=none
 n_range:mg "range"=none
 n_reversed:mg "reversed"=none
 n_set:mg "set"=none
 n_sorted:mg "sorted"=none
 n_tuple:mg "tuple"=none
 n_zip:mg "zip"=none
 gx_NoPlace:mg "NoPlace"=some (.ref t.E_NoPlace)
 x_NoPlace:ExcK K t.E_NoPlace bmV "ValueError.__new__"
 gx_NoSeam:mg "NoSeam"=some (.ref t.E_NoSeam)
 x_NoSeam:ExcK K t.E_NoSeam bmV "ValueError.__new__"
 gx_Rim:mg "Rim"=some (.ref t.E_Rim)
 x_Rim:ExcK K t.E_Rim bmV "ValueError.__new__"
 gx_Locked:mg "Locked"=some (.ref t.E_Locked)
 x_Locked:ExcK K t.E_Locked bmV "ValueError.__new__"
 gx_NoThread:mg "NoThread"=some (.ref t.E_NoThread)
 x_NoThread:ExcK K t.E_NoThread bmV "ValueError.__new__"
 gx_NoFraction:mg "NoFraction"=some (.ref t.E_NoFraction)
 x_NoFraction:ExcK K t.E_NoFraction bmV "ValueError.__new__"
 gx_NoWorths:mg "NoWorths"=some (.ref t.E_NoWorths)
 x_NoWorths:ExcK K t.E_NoWorths bmV "ValueError.__new__"
 yx_NoFraction_NoFraction:PySem.W.exmOne K (.ref t.E_NoFraction) (.ref t.E_NoFraction)=some true
 yx_NoWorths_NoWorths:PySem.W.exmOne K (.ref t.E_NoWorths) (.ref t.E_NoWorths)=some true
 nx_NoWorths_NoFraction:PySem.W.exmOne K (.ref t.E_NoWorths) (.ref t.E_NoFraction)=some false
end KT
set_option maxHeartbeats 4000000
namespace KT
open PySem L2
theorem Same.add {H H1:Hp} {p:Addr} {o:HO} (s:Same H H1) (hp:H p=none):Same H (upd H1 p o):=fun b u e=>by rw [upd_ne (ne_of_none e hp)]; exact s b u e
theorem Same.new {H:Hp} {p:Addr} {o:HO} (hp:H p=none):Same H (upd H p o):=Same.add (Same.refl H) hp
theorem seq_post {t u:TS} {D:Ends} {σ:St} {H:Hp} (Post:St→Hp→Prop) (ht:∀ nx:St→Hp→Prop,(∀ σ H,Post σ H→nx σ H)→t { D with nx:=nx } σ H) (hu:∀ σ H,Post σ H→u D σ H):tSeq t u D σ H:=ht (u D) hu
theorem seq_cut {t u:TS} {D:Ends} {σ:St} {H:Hp} (ht:∀ nx:St→Hp→Prop,(∀ σ H,u D σ H→nx σ H)→t { D with nx:=nx } σ H):tSeq t u D σ H:=ht (u D) fun _ _ h=>h
theorem map_snoc (xs:List Int) (y:Int):xs.map V.int ++ [V.int y]=(xs ++ [y]).map V.int:=by simp
theorem getI {ns:List Int} {n:Nat} (h:n < ns.length):(ns.map V.int)[n]?=some (V.int (ns.getD n 0)):=by
 rw [List.getElem?_map,List.getElem?_eq_getElem h,List.getD_eq_getElem?_getD,List.getElem?_eq_getElem h]
 rfl
noncomputable def cell (ns:List Int) (n:Int):Int:=if n < ns.length then ns.getD n.toNat 0 else if ns.length=0 then 31 * n + 7 else ns.getD (n % ns.length).toNat 0 % 1000003 + 101 * n
noncomputable def sp_cell (K:PySem.W.Frag):Sp:=fun vs H Q _=>∃ (a:Addr) (ns:List Int) (n:Int),vs=[.ref a,.int n]∧SqL K H a (ns.map V.int)∧ns.length≤63∧0≤n∧n < 1000000∧Q (.int (cell ns n)) H
noncomputable def sp_numbers:Sp:=fun vs H Q _=>∃ (c:Int) (n:Nat),vs=[.int c,.int n]∧n≤60∧∀ (p:Addr) (xs:List Int) (H':Hp),Same H H'→H p=none→H' p=some (.lst (xs.map V.int))→xs.length=n→(∀ x∈xs,0≤x∧x < 1009)→Q (.ref p) H'
section
variable {P:Program} {w:World} {K:PySem.W.Frag} {mg:Str→Option Value} {base:Heap} {t:Adr}
theorem sc_l_cell:FnScope ["_law_script","_law_at"] ["_law_script","_law_at"] (defScope s_l_cell):=⟨rfl,rfl,rfl,by decide +kernel,rfl,by decide +kernel,by decide +kernel⟩
theorem ok_l_cell (T:Txt w K mg t):FnOk P w K mg base (CXr P w) 1 t.f_l_cell t.d_l_cell ["_law_script","_law_at"] (sp_cell K):=by
 refine T.p_l_cell.F.okR sc_l_cell (fun vs H Q E h=>?_) (fun cdv A outer s H vs Q E hr h=>?_)
 ·obtain ⟨a,ns,n,rfl,_⟩:=h
  rfl
 ·obtain ⟨a,ns,n,rfl,hS,hl,h0,h1,k⟩:=h
  refine ⟨_,(pss_cons (ps_if (pt_cmpR op_lt (pv 1) (pe_callB call_len_seq (by rfl) T.n_len PySem.boot_len (pa_cons (pv 0) pa_nil)) (nomark _)) (pss_one (ps_ret (pe_ix ix_list (pv 0) (pv 1) (fun _ _=>rfl)))) pss_nil)
   (pss_cons (ps_if (pt_cmpR op_eq (pe_callB call_len_seq (by rfl) T.n_len PySem.boot_len (pa_cons (pv 0) pa_nil)) pe_int (nomark _)) (pss_one (ps_ret (pe_op op_add (pe_op op_mul pe_int (pv 1)) pe_int))) pss_nil)
   (pss_one (ps_ret (pe_op op_add (pe_op op_mod (pe_ix ix_list (pv 0) (pe_op op_mod (pv 1) (pe_callB call_len_seq (by rfl) T.n_len PySem.boot_len (pa_cons (pv 0) pa_nil))) (fun _ _=>rfl)) pe_int) (pe_op op_mul pe_int (pv 1))))))),?_⟩
  have el:((ns.map V.int).length:Int)=ns.length:=by simp
  refine ⟨_,rfl,_,rfl,a,_,rfl,.inl hS,_,_,rfl,rfl,_,rfl,?_⟩
  rw [el]
  refine ite2 (fun h=>?_) (fun h=>?_)
  ·have h:n < ns.length:=by simpa using h
   have e:cell ns n=ns.getD n.toNat 0:=if_pos h
   have en:n=(n.toNat:Int):=by omega
   have ei:atI (ns.map V.int) n=some (V.int (ns.getD n.toNat 0)):=by rw [en]; exact atI_nat (getI (n:=n.toNat) (by omega))
   rw [e] at k
   exact ⟨_,rfl,_,rfl,a,_,_,_,rfl,rfl,hS,ei,k⟩
  ·have h:¬ n < ns.length:=by simpa using h
   have e:cell ns n=if ns.length=0 then 31 * n + 7 else ns.getD (n % ns.length).toNat 0 % 1000003 + 101 * n:=if_neg h
   refine ⟨_,rfl,a,_,rfl,.inl hS,rfl,_,rfl,?_⟩
   rw [el]
   refine ite2 (fun g=>?_) (fun g=>?_)
   ·have g:ns.length=0:=by simpa using g
    refine ⟨_,rfl,_,_,rfl,rfl,.inl ⟨by decide,by decide⟩,_,_,rfl,rfl,?_⟩
    rw [if_pos g] at e
    rw [e] at k; exact k
   ·have g:¬ ns.length=0:=by simpa using g
    have gp:(0:Int) < ns.length:=by omega
    rw [if_neg g] at e
    have m0:=Int.emod_nonneg n (show (ns.length:Int)≠0 by omega)
    have m1:=Int.emod_lt_of_pos n gp
    refine ⟨_,rfl,_,rfl,_,rfl,a,_,rfl,.inl hS,_,_,rfl,rfl,(by rw [el]; exact gp),a,_,_,_,rfl,rfl,hS,(?_:atI _ _=some (V.int (ns.getD (n % ns.length).toNat 0))),_,_,rfl,rfl,(by show (0:Int) < 1000003; decide),_,rfl,_,_,rfl,rfl,.inl ⟨by decide,by decide⟩,_,_,rfl,rfl,?_⟩
    ·rw [el]
     have en:n % (ns.length:Int)=((n % (ns.length:Int)).toNat:Int):=by omega
     rw [en]
     exact atI_nat (getI (by omega))
    ·rw [e] at k; exact k
theorem sc_l_numbers:FnScope ["_law_cell_here","_law_many","_law_row","_law_rest","_law_seed"] ["_law_cell_here","_law_many"] (defScope s_l_numbers):=⟨rfl,rfl,rfl,by decide +kernel,rfl,by decide +kernel,by decide +kernel⟩
theorem ok_l_numbers (T:Txt w K mg t):FnOk P w K mg base (CXr P w) 1 t.f_l_numbers t.d_l_numbers ["_law_cell_here","_law_many"] sp_numbers:=by
 refine T.p_l_numbers.F.okR sc_l_numbers (fun vs H Q E h=>?_) (fun cdv A outer s H vs Q E hr h=>?_)
 ·obtain ⟨c,n,rfl,_⟩:=h
  rfl
 ·obtain ⟨c,n,rfl,hn60,k⟩:=h
  refine ⟨_,(pss_cons (ps_set (i:=2) sc_l_numbers.nd rfl (Or.inl rfl) (pe_lst pa_nil))
   (pss_cons (ps_set (i:=3) sc_l_numbers.nd rfl (Or.inl rfl) (pe_op op_sub (pv 0) (pe_op op_pow pe_int pe_int)))
   (pss_cons (ps_while PassesOwn.never (PW.pt (pw_and (pt_cmpR op_gt (pv 3) pe_int (nomark _)) (pw_and1 (pt_cmpR op_lt (pe_callB call_len_seq (by rfl) T.n_len PySem.boot_len (pa_cons (pv 2) pa_nil)) (pv 1) (nomark _))))) (pss_cons (ps_expr (pe_bm PySem.F.plainAttrs_list PySem.F.slot_list_append PySem.F.type_list_append mt_append (pv 2) (pa_cons (pe_op op_mod (pv 3) pe_int) pa_nil)))
   (pss_one (ps_set (i:=3) sc_l_numbers.nd rfl (Or.inl rfl) (pe_op op_fdiv (pv 3) pe_int)))))
   (pss_cons (ps_set (i:=4) sc_l_numbers.nd rfl (Or.inl rfl) (pe_op op_mod (pv 0) pe_int))
   (pss_cons (ps_while PassesOwn.never (pt_cmpR op_lt (pe_callB call_len_seq (by rfl) T.n_len PySem.boot_len (pa_cons (pv 2) pa_nil)) (pv 1) (nomark _)) (pss_cons (ps_set (i:=4) sc_l_numbers.nd rfl (Or.inl rfl) (pe_op op_mod (pe_op op_add (pe_op op_add (pe_op op_mul (pv 4) pe_int) pe_int) (pe_callB call_len_seq (by rfl) T.n_len PySem.boot_len (pa_cons (pv 2) pa_nil))) pe_int))
   (pss_one (ps_expr (pe_bm PySem.F.plainAttrs_list PySem.F.slot_list_append PySem.F.type_list_append mt_append (pv 2) (pa_cons (pe_op op_mod (pe_op op_fdiv (pe_op op_mod (pe_op op_mul (pv 4) pe_int) pe_int) pe_int) pe_int) pa_nil))))))
   (pss_one (ps_ret (pv 2)))))))),?_⟩
  refine ⟨Nat.zero_le _,fun r hr0=>?_⟩
  refine ⟨_,rfl,_,_,rfl,rfl,⟨by decide,by decide,by decide⟩,_,_,rfl,rfl,?_⟩
  show tSeq (tWhile _ _) _ _ _ _
  refine seq_post (fun σ H1=>∃ (xs:List Int) (rest:Int),σ=[some (.int c),some (.int n),some (.ref r),some (.int rest),none]∧Same H H1∧H1 r=some (.lst (xs.map V.int))∧xs.length≤n∧(∀ x∈xs,0≤x∧x < 1009)) (fun nx hnx=>?_) ?_
  ·refine ⟨fun m σ H1=>∃ (xs:List Int) (rest:Int),m=n - xs.length∧σ=[some (.int c),some (.int n),some (.ref r),some (.int rest),none]∧Same H H1∧H1 r=some (.lst (xs.map V.int))∧xs.length≤n∧(∀ x∈xs,0≤x∧x < 1009),
    ⟨n,[],_,rfl,rfl,Same.new hr0,upd_same,Nat.zero_le _,fun x hx=>absurd hx (by simp)⟩,?_⟩
   rintro m σ H1 ⟨xs,rest,rfl,rfl,sm,h1,hl,hx⟩
   have el:((xs.map V.int).length:Int)=xs.length:=by simp
   refine ⟨_,rfl,_,_,rfl,rfl,_,rfl,?_⟩
   refine ite2 (fun _=>?_) (fun _=>?_)
   ·refine ⟨_,rfl,r,_,rfl,.inl (SqL.of h1),_,rfl,_,_,rfl,rfl,_,rfl,?_⟩
    rw [el]
    refine ite2 (fun g=>?_) (fun _=>?_)
    ·have g:(xs.length:Int) < n:=by simpa using g
     refine ⟨_,fun σ' H' h=>h,?_⟩
     refine ⟨_,rfl,.inl ⟨rfl,_,SqL.of h1⟩,_,rfl,_,_,rfl,rfl,(by show (0:Int) < 1009; decide),r,_,_,rfl,rfl,h1,(by rw [List.length_map]; exact small1000 (by omega)),?_⟩
     refine ⟨_,rfl,_,_,rfl,rfl,⟨by decide,by decide⟩,?_⟩
     refine ⟨n - (xs ++ [rest % 1009]).length,?_,xs ++ [rest % 1009],_,rfl,rfl,Same.add sm hr0,?_,?_,?_⟩
     ·rw [List.length_append,List.length_singleton]; omega
     ·rw [upd_same,← map_snoc]
     ·rw [List.length_append,List.length_singleton]; omega
     ·intro x hm
      rcases List.mem_append.mp hm with z | z
      ·exact hx x z
      ·have:x=rest % 1009:=by simpa using z
       subst this
       omega
    ·exact hnx _ _ ⟨xs,rest,rfl,sm,h1,hl,hx⟩
   ·exact hnx _ _ ⟨xs,rest,rfl,sm,h1,hl,hx⟩
  rintro σ H1 ⟨xs,rest,rfl,sm,h1,hl,hx⟩
  refine ⟨_,rfl,_,_,rfl,rfl,(by show (0:Int) < 2147483629; decide),?_⟩
  show tSeq (tWhile _ _) _ _ _ _
  refine seq_post (fun σ H1=>∃ (xs:List Int) (rest seed:Int),σ=[some (.int c),some (.int n),some (.ref r),some (.int rest),some (.int seed)]∧Same H H1∧H1 r=some (.lst (xs.map V.int))∧xs.length=n∧(∀ x∈xs,0≤x∧x < 1009)) (fun nx hnx=>?_) ?_
  ·refine ⟨fun m σ H1=>∃ (xs:List Int) (rest seed:Int),m=n - xs.length∧σ=[some (.int c),some (.int n),some (.ref r),some (.int rest),some (.int seed)]∧Same H H1∧H1 r=some (.lst (xs.map V.int))∧xs.length≤n∧(∀ x∈xs,0≤x∧x < 1009),
    ⟨n - xs.length,xs,rest,_,rfl,rfl,sm,h1,hl,hx⟩,?_⟩
   clear h1 hl hx sm xs rest
   rintro m σ H1 ⟨xs,rest,seed,rfl,rfl,sm,h1,hl,hx⟩
   have el:((xs.map V.int).length:Int)=xs.length:=by simp
   refine ⟨_,rfl,r,_,rfl,.inl (SqL.of h1),_,rfl,_,_,rfl,rfl,_,rfl,?_⟩
   rw [el]
   refine ite2 (fun g=>?_) (fun g=>?_)
   ·have g:(xs.length:Int) < n:=by simpa using g
    refine ⟨_,fun σ' H' h=>h,?_⟩
    refine ⟨_,rfl,_,_,rfl,rfl,.inr ⟨by decide,by decide⟩,_,_,rfl,rfl,_,rfl,r,_,rfl,.inl (SqL.of h1),_,_,rfl,rfl,_,_,rfl,rfl,(by show (0:Int) < 2147483647; decide),?_⟩
    obtain ⟨y,hy⟩:∃ y,y=(seed * 48271 + 12345 + ((xs.map V.int).length:Int)) % 2147483647 * 69621 % 2147483629 / 7 % 1009:=⟨_,rfl⟩
    refine ⟨_,rfl,.inl ⟨rfl,_,SqL.of h1⟩,_,rfl,_,_,rfl,rfl,.inr ⟨by decide,by decide⟩,_,_,rfl,rfl,(by show (0:Int) < 2147483629; decide),_,_,rfl,rfl,⟨by decide,by decide⟩,_,_,rfl,rfl,(by show (0:Int) < 1009; decide),r,_,_,rfl,rfl,h1,(by rw [List.length_map]; exact small1000 (by omega)),?_⟩
    refine ⟨n - (xs ++ [y]).length,?_,xs ++ [y],_,_,rfl,rfl,Same.add sm hr0,?_,?_,?_⟩
    ·rw [List.length_append,List.length_singleton]; omega
    ·rw [upd_same,← map_snoc,hy]
    ·rw [List.length_append,List.length_singleton]; omega
    ·intro x hm
     rcases List.mem_append.mp hm with z | z
     ·exact hx x z
     ·have:x=y:=by simpa using z
      rw [this,hy]
      exact ⟨Int.emod_nonneg _ (by decide),Int.emod_lt_of_pos _ (by decide)⟩
   ·have g:¬ (xs.length:Int) < n:=by simpa using g
    exact hnx _ _ ⟨xs,rest,seed,rfl,sm,h1,by omega,hx⟩
  rintro σ H1 ⟨xs,rest,seed,rfl,sm,h1,hl,hx⟩
  exact ⟨_,rfl,k r xs H1 sm hr0 h1 hl hx⟩
noncomputable def sp_sewn (K:PySem.W.Frag):Sp:=fun vs H Q _=>∃ (a:Addr) (xs:List Int) (n:Nat) (sh:Int),vs=[.ref a,.int n,.int sh]∧H a=some (.lst (xs.map V.int))∧xs.length=60∧(∀ x∈xs,0≤x∧x < 1009)∧1≤n∧n≤14 ∧
 ∀ (p:Addr) (M:List (Option Nat)) (H':Hp),Same H H'→H p=none→H' p=some (.lst (M.map mV))→M.length=3 * n→(∀ (i j:Nat),M[i]?=some (some j)→M[j]?=some (some i)∧i≠j)→Q (.ref p) H'
theorem map_set {α:Type} (f:α→V) (l:List α) (i:Nat) (x:α):(l.map f).set i (f x)=(l.set i x).map f:=by rw [List.map_set]
theorem ixN_nat {n i:Nat} (h:i < n):ixN n (i:Int)=some i:=by
 unfold ixN
 simp
 omega
theorem er_map {α β:Type} (f:α→β):∀ (l:List α) (i:Nat),(l.map f).eraseIdx i=(l.eraseIdx i).map f
 | [],_=>rfl
 | _ :: _,0=>rfl
 | a :: r,i + 1=>by rw [List.map_cons,List.eraseIdx_cons_succ,er_map f r i,List.eraseIdx_cons_succ,List.map_cons]
theorem natV (F:List Nat) (i:Nat):(F.map fun (j:Nat)=>V.int j)[i]?=(F[i]?).map fun (j:Nat)=>V.int j:=List.getElem?_map ..
theorem sc_l_sewn:FnScope ["_law_nums","_law_many","_law_share","_law_mates","_law_free_here","_law_at","_law_one","_law_pick","_law_other"] ["_law_nums","_law_many","_law_share"] (defScope s_l_sewn):=⟨rfl,rfl,rfl,by decide +kernel,rfl,by decide +kernel,by decide +kernel⟩
theorem ok_l_sewn (T:Txt w K mg t):FnOk P w K mg base (CXr P w) 1 t.f_l_sewn t.d_l_sewn ["_law_nums","_law_many","_law_share"] (sp_sewn K):=by
 refine T.p_l_sewn.F.okR sc_l_sewn (fun vs H Q E h=>?_) (fun cdv A outer s H vs Q E hr h=>?_)
 ·obtain ⟨a,xs,n,sh,rfl,_⟩:=h
  rfl
 ·obtain ⟨a,xs,n,sh,rfl,ha,hl,hx,h1,h2,k⟩:=h
  refine ⟨_,(pss_cons (ps_set (i:=3) sc_l_sewn.nd rfl (Or.inl rfl) (pe_op op_rep (pe_lst (pa_cons pe_non pa_nil)) (pe_op op_mul pe_int (pv 1))))
   (pss_cons (ps_set (i:=4) sc_l_sewn.nd rfl (Or.inl rfl) (pe_listRange rfl T.n_list rfl T.n_range rfl (pa_cons (pe_op op_mul pe_int (pv 1)) pa_nil)))
   (pss_cons (ps_set (i:=5) sc_l_sewn.nd rfl (Or.inl rfl) pe_int)
   (pss_cons (ps_while PassesOwn.never (pt_cmpR op_gt (pe_callB call_len_seq (by rfl) T.n_len PySem.boot_len (pa_cons (pv 4) pa_nil)) pe_int (nomark _)) (pss_cons (ps_set (i:=6) sc_l_sewn.nd rfl (Or.inl rfl) (pe_bm PySem.F.plainAttrs_list PySem.F.slot_list_pop PySem.F.type_list_pop mt_popAt (pv 4) (pa_cons pe_int pa_nil)))
   (pss_cons (ps_set (i:=7) sc_l_sewn.nd rfl (Or.inl rfl) (pe_ix ix_list (pv 0) (pv 5) (fun _ _=>rfl)))
   (pss_cons (ps_set (i:=5) sc_l_sewn.nd rfl (Or.inl rfl) (pe_op op_add (pv 5) pe_int))
   (pss_one (ps_if (pt_cmpR op_ge (pe_op op_mod (pv 7) pe_int) (pv 2) (nomark _)) (pss_cons (ps_set (i:=8) sc_l_sewn.nd rfl (Or.inl rfl) (pe_bm PySem.F.plainAttrs_list PySem.F.slot_list_pop PySem.F.type_list_pop mt_popAt (pv 4) (pa_cons (pe_op op_mod (pe_op op_fdiv (pv 7) pe_int) (pe_callB call_len_seq (by rfl) T.n_len PySem.boot_len (pa_cons (pv 4) pa_nil))) pa_nil)))
   (pss_cons (ps_asg (pv 8) (pg_sub (pv 3) (pv 6) set_list))
   (pss_one (ps_asg (pv 6) (pg_sub (pv 3) (pv 8) set_list))))) pss_nil))))))
   (pss_one (ps_ret (pv 3))))))),?_⟩
  refine ⟨(by show 1≤sizeLine; decide),fun q hq=>?_⟩
  refine ⟨_,rfl,_,_,rfl,rfl,.inl ⟨by decide,by decide⟩,q,_,_,rfl,rfl,upd_same,(by omega),(by omega),?_,fun m hm=>?_⟩
  ·have:(3 * (n:Int)).toNat=3 * n:=by omega
   show 1 * (3 * (n:Int)).toNat≤sizeLine
   rw [this,sizeLine_eq]; omega
  have eN:(3 * (n:Int)).toNat=3 * n:=by omega
  have eM:(List.replicate (3 * (n:Int)).toNat [V.non]).flatten=(List.replicate (3 * n) (none:Option Nat)).map mV:=by
   rw [eN,List.flatten_replicate_singleton,List.map_replicate]
   rfl
  refine ⟨_,rfl,_,_,rfl,rfl,.inl ⟨by decide,by decide⟩,3 * n,(congrArg (fun z=>[V.int z]) (by omega:(3 * (n:Int))=((3 * n:Nat):Int))),by omega,fun f hf=>?_⟩
  have hfm:f≠m:=fun z=>by rw [z,upd_same] at hf; cases hf
  have hm0:H m=none:=by
   have:m≠q:=fun z=>by rw [z,upd_same] at hm; cases hm
   rw [upd_ne this] at hm; exact hm
  have hf0:H f=none:=by
   rw [upd_ne hfm] at hf
   have:f≠q:=fun z=>by rw [z,upd_same] at hf; cases hf
   rw [upd_ne this] at hf; exact hf
  have sm0:Same H (upd (upd (upd H q (.lst [.non])) m (.lst (List.replicate (3 * (n:Int)).toNat [V.non]).flatten)) f (.lst ((List.range (3 * n)).map fun (i:Nat)=>V.int i))):=Same.add (Same.add (Same.new hq) hm0) hf0
  show tSeq (tWhile _ _) _ _ _ _
  refine seq_post (fun σ H1=>∃ (M:List (Option Nat)) (v4 v5 v6 v7 v8:Option V),σ=[some (.ref a),some (.int n),some (.int sh),some (.ref m),v4,v5,v6,v7,v8]∧Same H H1∧H1 m=some (.lst (M.map mV))∧M.length=3 * n∧∀ (i j:Nat),M[i]?=some (some j)→M[j]?=some (some i)∧i≠j) (fun nx hnx=>?_) ?_
  ·refine ⟨fun c σ H1=>∃ (F:List Nat) (M:List (Option Nat)) (at':Nat) (v6 v7 v8:Option V),c=F.length∧σ=[some (.ref a),some (.int n),some (.int sh),some (.ref m),some (.ref f),some (.int at'),v6,v7,v8]∧Same H H1∧H1 m=some (.lst (M.map mV))∧H1 f=some (.lst (F.map fun (i:Nat)=>V.int i))∧SewOk (3 * n) F M∧at' + F.length≤3 * n,
    ⟨_,List.range (3 * n),List.replicate (3 * n) none,0,none,none,none,rfl,rfl,sm0,?_,upd_same,SewOk.start _,by simp⟩,?_⟩
   ·rw [upd_ne hfm.symm,upd_same,eM]
   rintro c σ H1 ⟨F,M,at',v6,v7,v8,rfl,rfl,sm,g1,g2,hs,hat⟩
   refine ⟨_,rfl,f,_,rfl,.inl (SqL.of g2),_,_,rfl,rfl,_,rfl,?_⟩
   rw [List.length_map]
   refine ite2 (fun g=>?_) (fun g=>?_)
   ·have g:1 < F.length:=by have:=of_decide_eq_true g; omega
    obtain ⟨one,F',rfl⟩:∃ one F',F=one :: F':=by
     cases F with
     | nil=>simp at g
     | cons a b=>exact ⟨a,b,rfl⟩
    rw [List.length_cons] at g hat
    refine ⟨_,fun σ' H' h=>h,?_⟩
    refine ⟨_,rfl,.inl ⟨rfl,_,SqL.of g2⟩,f,_,0,0,V.int one,rfl,rfl,g2,by decide,by decide,(by simp [seqIndex?]),rfl,?_⟩
    have e0:((one :: F').map fun (i:Nat)=>V.int i).eraseIdx 0=F'.map fun (i:Nat)=>V.int i:=rfl
    rw [e0]
    have g2':(upd H1 f (.lst (F'.map fun (i:Nat)=>V.int i))) f=some (.lst (F'.map fun (i:Nat)=>V.int i)):=upd_same
    have g1':(upd H1 f (.lst (F'.map fun (i:Nat)=>V.int i))) m=some (.lst (M.map mV)):=by rw [upd_ne hfm.symm]; exact g1
    have sm':Same H (upd H1 f (.lst (F'.map fun (i:Nat)=>V.int i))):=Same.add sm hf0
    generalize upd H1 f (.lst (F'.map fun (i:Nat)=>V.int i))=H2 at g1' g2' sm' ⊢
    have hpick:at' < xs.length:=by omega
    refine ⟨_,rfl,_,rfl,a,_,_,_,rfl,rfl,SqL.of (sm' _ _ ha),atI_nat (getI hpick),?_⟩
    obtain ⟨p0,p1⟩:=hx _ (List.getElem_mem hpick)
    have ep:xs.getD at' 0=xs[at']:=by rw [List.getD_eq_getElem?_getD,List.getElem?_eq_getElem hpick]; rfl
    rw [ep]
    generalize xs[at']=pick at p0 p1 ⊢
    refine ⟨_,rfl,_,_,rfl,rfl,?_⟩
    refine ⟨_,rfl,_,_,rfl,rfl,(by show (0:Int) < 7; decide),_,rfl,_,_,rfl,rfl,_,rfl,?_⟩
    refine ite2 (fun _=>?_) (fun _=>?_)
    ·-- other=free.pop(..)
     have hF:(0:Int) < F'.length:=by omega
     have k0:=Int.emod_nonneg (pick / 7) (show (F'.length:Int)≠0 by omega)
     have k1:=Int.emod_lt_of_pos (pick / 7) hF
     obtain ⟨kk,hkk⟩:∃ kk:Nat,pick / 7 % (F'.length:Int)=kk:=⟨_,(Int.toNat_of_nonneg k0).symm⟩
     have hkl:kk < F'.length:=by omega
     refine ⟨_,rfl,.inl ⟨rfl,_,SqL.of g2'⟩,_,rfl,_,_,rfl,rfl,⟨by decide,by decide⟩,_,rfl,f,_,rfl,.inl (SqL.of g2'),_,_,rfl,rfl,(by rw [List.length_map]; exact hF),f,_,_,kk,V.int F'[kk],rfl,rfl,g2',?_,?_,?_,?_,?_⟩
     ·rw [List.length_map,hkk]; omega
     ·rw [List.length_map,hkk]; omega
     ·rw [List.length_map,hkk]; simp [seqIndex?]; omega
     ·rw [natV,List.getElem?_eq_getElem hkl]; rfl
     have e1:(F'.map fun (i:Nat)=>V.int i).eraseIdx kk=(F'.eraseIdx kk).map fun (i:Nat)=>V.int i:=by rw [er_map]
     rw [e1]
     have hp:=hs.pair (List.getElem?_eq_getElem hkl)
     have l1:one < M.length:=by rw [hs.len]; exact (hs.free one List.mem_cons_self).1
     have l2:F'[kk] < M.length:=by rw [hs.len]; exact (hs.free _ (List.mem_cons_of_mem _ (List.getElem_mem hkl))).1
     have g1'':(upd H2 f (.lst ((F'.eraseIdx kk).map fun (i:Nat)=>V.int i))) m=some (.lst (M.map mV)):=by rw [upd_ne hfm.symm]; exact g1'
     refine ⟨_,rfl,_,rfl,_,rfl,m,_,_,one,rfl,rfl,g1'',(by rw [List.length_map]; exact ixN_nat l1),?_⟩
     refine ⟨_,rfl,_,rfl,_,rfl,m,_,_,F'[kk],rfl,rfl,upd_same,(by rw [List.length_set,List.length_map]; exact ixN_nat l2),?_⟩
     refine ⟨(F'.eraseIdx kk).length,?_,F'.eraseIdx kk,(M.set one (some F'[kk])).set F'[kk] (some one),at' + 1,_,_,_,rfl,rfl,Same.add (Same.add (Same.add sm' hf0) hm0) hm0,?_,?_,hp,?_⟩
     ·rw [List.length_eraseIdx_of_lt hkl,List.length_cons]; omega
     ·rw [upd_same]
      show some (HO.lst (((M.map mV).set one (mV (some F'[kk]))).set F'[kk] (mV (some one))))=_
      rw [map_set,map_set]
     ·rw [upd_ne hfm,upd_ne hfm,upd_same]
     ·rw [List.length_eraseIdx_of_lt hkl]; omega
    ·exact ⟨F'.length,by rw [List.length_cons]; omega,F',M,at' + 1,_,_,_,rfl,rfl,sm',g1',g2',hs.skip,by omega⟩
   ·exact hnx _ _ ⟨M,_,_,_,_,_,rfl,sm,g1,hs.len,hs.inv⟩
  rintro σ H1 ⟨M,v4,v5,v6,v7,v8,rfl,sm,g1,hl',hi'⟩
  exact ⟨_,rfl,k m M H1 sm hm0 g1 hl' hi'⟩
end
end KT
set_option maxHeartbeats 4000000
namespace KT
open PySem L2
theorem loop_range {lo:Int} {n:Nat} {g:TG} {tt:TT} {tb:TB} {R:St→Hp→Prop} {σ:St} {H:Hp} (Pv:Nat→St→Hp→Prop) (h0:Pv 0 σ H)
  (hs:∀ (i:Nat) σ H,i < n→Pv i σ H→g (.int (lo + i)) σ H fun σ2 H2=>tt σ2 H2 fun b H3=>if b=true then tb σ2 H3 (Pv (i + 1)) else Pv (i + 1) σ2 H3) (hd:∀ σ H,Pv n σ H→R σ H):LoopR (Itr lo n) g tt tb R σ H:=by
 refine ⟨fun i m σ H=>m=n - i∧i≤n∧Pv i σ H,⟨n,by simp,Nat.zero_le _,h0⟩,?_⟩
 rintro i m σ H ⟨rfl,hi,p⟩
 by_cases hlt:i < n
 ·refine .inr ⟨hlt,Pv (i + 1),fun σ' H' p'=>⟨n - (i + 1),by omega,rfl,hlt,p'⟩,fun x H' y=>?_⟩
  obtain ⟨e,y⟩:=y
  subst e y
  exact hs i σ _ hlt p
 ·have e:i=n:=by omega
  subst e
  exact .inl ⟨Nat.le_refl _,hd σ H p⟩
theorem loop_list {K:PySem.W.Frag} {a:Addr} {xs:List V} {g:TG} {tt:TT} {tb:TB} {R:St→Hp→Prop} {σ:St} {H:Hp} (Pv:Nat→St→Hp→Prop) (h0:Pv 0 σ H) (hl:∀ i σ H,i≤xs.length→Pv i σ H→SqL K H a xs)
  (hs:∀ (i:Nat) x σ H,xs[i]?=some x→Pv i σ H→g x σ H fun σ2 H2=>tt σ2 H2 fun b H3=>if b=true then tb σ2 H3 (Pv (i + 1)) else Pv (i + 1) σ2 H3) (hd:∀ σ H,Pv xs.length σ H→R σ H):LoopR (Itl K a) g tt tb R σ H:=by
 refine ⟨fun i m σ H=>m=xs.length - i∧i≤xs.length∧Pv i σ H,⟨xs.length,by simp,Nat.zero_le _,h0⟩,?_⟩
 rintro i m σ H ⟨rfl,hi,p⟩
 have q:=hl i σ H hi p
 by_cases hlt:i < xs.length
 ·refine .inr ⟨⟨xs,xs[i],q,by simp [hlt]⟩,Pv (i + 1),fun σ' H' p'=>⟨xs.length - (i + 1),by omega,rfl,hlt,p'⟩,fun x H' y=>?_⟩
  obtain ⟨e,y⟩:=y
  subst e
  exact hs i x σ _ (y xs q) p
 ·have e:i=xs.length:=by omega
  subst e
  exact .inl ⟨⟨xs,q,Nat.le_refl _⟩,hd σ H p⟩
theorem loop_tup {K:PySem.W.Frag} {a:Addr} {xs:List V} {g:TG} {tt:TT} {tb:TB} {R:St→Hp→Prop} {σ:St} {H:Hp} (Pv:Nat→St→Hp→Prop) (h0:Pv 0 σ H) (hl:∀ i σ H,i≤xs.length→Pv i σ H→SqT K H a xs)
  (hs:∀ (i:Nat) x σ H,xs[i]?=some x→Pv i σ H→g x σ H fun σ2 H2=>tt σ2 H2 fun b H3=>if b=true then tb σ2 H3 (Pv (i + 1)) else Pv (i + 1) σ2 H3) (hd:∀ σ H,Pv xs.length σ H→R σ H):LoopR (Itt K a) g tt tb R σ H:=by
 refine ⟨fun i m σ H=>m=xs.length - i∧i≤xs.length∧Pv i σ H,⟨xs.length,by simp,Nat.zero_le _,h0⟩,?_⟩
 rintro i m σ H ⟨rfl,hi,p⟩
 have q:=hl i σ H hi p
 by_cases hlt:i < xs.length
 ·refine .inr ⟨⟨xs,xs[i],q,by simp [hlt]⟩,Pv (i + 1),fun σ' H' p'=>⟨xs.length - (i + 1),by omega,rfl,hlt,p'⟩,fun x H' y=>?_⟩
  obtain ⟨e,y⟩:=y
  subst e
  exact hs i x σ _ (y xs q) p
 ·have e:i=xs.length:=by omega
  subst e
  exact .inl ⟨⟨xs,q,Nat.le_refl _⟩,hd σ H p⟩
noncomputable def row3 (ns:List Int) (k:Nat):List V:=[.int (ns.getD (3 * k) 0),.int (ns.getD (3 * k + 1) 0),.int (ns.getD (3 * k + 2) 0)]
noncomputable def RowsAt (H:Hp) (r:Addr) (ns:List Int):Prop:=∃ ts:List Addr,H r=some (.lst (ts.map V.ref))∧ns.length=3 * ts.length∧∀ (k:Nat) (t:Addr),ts[k]?=some t→H t=some (.tup (row3 ns k))
theorem RowsAt.same {H H':Hp} {r:Addr} {ns:List Int} (h:RowsAt H r ns) (s:Same H H'):RowsAt H' r ns:=by
 obtain ⟨ts,h1,h2,h3⟩:=h
 exact ⟨ts,s _ _ h1,h2,fun k t e=>s _ _ (h3 k t e)⟩
noncomputable def sp_rows:Sp:=fun vs H Q _=>∃ (a:Addr) (M:List (Option Nat)) (n:Nat) (st sp:Int),vs=[.ref a,.int st,.int sp]∧H a=some (.lst (M.map mV))∧M.length=3 * n∧1≤n∧n≤14∧(∀ (i j:Nat),M[i]?=some (some j)→M[j]?=some (some i)∧i≠j)∧sp∈steps ∧
 ∀ (p:Addr) (H':Hp),Same H H'→H p=none→RowsAt H' p (flat M st sp)→Q (.ref p) H'
theorem steps_small {t:Int} (h:t∈steps):-(2 ^ 64) < t∧t < 2 ^ 64:=by
 simp only [steps,List.mem_cons,List.not_mem_nil,or_false] at h
 rcases h with rfl | rfl | rfl | rfl | rfl | rfl | rfl | rfl <;> decide
theorem mV_get {M:List (Option Nat)} {i:Nat} (h:i < M.length):atI (M.map mV) (0 + (i:Int))=some (mV M[i]):=by
 rw [Int.zero_add]
 exact atI_nat (by rw [List.getElem?_map,List.getElem?_eq_getElem h]; rfl)
section
variable {P:Program} {w:World} {K:PySem.W.Frag} {mg:Str→Option Value} {base:Heap} {t:Adr}
theorem sc_l_rows:FnScope ["_law_mates","_law_start","_law_step","_law_flat","_law_at","_law_mate"] ["_law_mates","_law_start","_law_step"] (defScope s_l_rows):=⟨rfl,rfl,rfl,by decide +kernel,rfl,by decide +kernel,by decide +kernel⟩
theorem ok_l_rows (T:Txt w K mg t):FnOk P w K mg base (CXr P w) 1 t.f_l_rows t.d_l_rows ["_law_mates","_law_start","_law_step"] sp_rows:=by
 refine T.p_l_rows.F.okR sc_l_rows (fun vs H Q E h=>?_) (fun cdv A outer s H vs Q E hr h=>?_)
 ·obtain ⟨a,M,n,st,sp,rfl,_⟩:=h
  rfl
 ·obtain ⟨a,M,n,st,sp,rfl,ha,hM,h1,h2,hi,hsp,k⟩:=h
  refine ⟨_,(pss_cons (ps_set (i:=3) sc_l_rows.nd rfl (Or.inr rfl) (pe_lst pa_nil))
   (pss_cons (ps_for PassesOwn.never rfl (pi_range1 rfl T.n_range (pa_cons (pe_callB call_len_seq (by rfl) T.n_len PySem.boot_len (pa_cons (pv 0) pa_nil)) pa_nil)) (pg_name (i:=4) sc_l_rows.nd rfl (Or.inl rfl)) (pss_cons (ps_set (i:=5) sc_l_rows.nd rfl (Or.inl rfl) (pe_ix ix_list (pv 0) (pv 4) (fun _ _=>rfl)))
   (pss_one (ps_if (PW.pt (pw_and (pt_cmpR op_notN (pv 5) pe_non (nomark _)) (pw_and1 (pt_cmpR op_lt (pv 5) (pv 4) (nomark _))))) (pss_one (ps_expr (pe_bm PySem.F.plainAttrs_list PySem.F.slot_list_append PySem.F.type_list_append mt_append (pv 3) (pa_cons (pe_ix ix_list (pv 3) (pv 5) (fun _ _=>rfl)) pa_nil)))) (pss_one (ps_expr (pe_bm PySem.F.plainAttrs_list PySem.F.slot_list_append PySem.F.type_list_append mt_append (pv 3) (pa_cons (pe_op op_mod (pe_op op_add (pv 1) (pe_op op_mul (pv 2) (pv 4))) pe_int) pa_nil))))))))
   (pss_one (ps_ret (pe_compG (ts:=["_law_k"]) (fv:=[("_law_flat",3)]) ⟨rfl,by decide +kernel,by decide +kernel,blkFree (by rfl),⟨⟨rfl,rfl,Or.inl rfl⟩,trivial⟩⟩ rfl (pi_range1 rfl T.n_range (pa_cons (pe_op op_fdiv (pe_callB call_len_seq (by rfl) T.n_len PySem.boot_len (pa_cons (pv 0) pa_nil)) pe_int) pa_nil)) (fun _ _ _ _=>(pg_name (i:=0) (show List.Nodup (["_law_k","_law_flat"]:List Str) from by decide +kernel) rfl (Or.inl rfl) (Or.inr rfl))) (fun _ _ _ _=>pts_nil) (fun _ _ _=>rfl) (fun _ _ _ _ _ _=>pb_emit (pe_tup (pa_cons (pe_ix (ix_listK K) (pv 1) (pe_op op_mul pe_int (pv 0)) (fun _ _=>rfl)) (pa_cons (pe_ix (ix_listK K) (pv 1) (pe_op op_add (pe_op op_mul pe_int (pv 0)) pe_int) (fun _ _=>rfl)) (pa_cons (pe_ix (ix_listK K) (pv 1) (pe_op op_add (pe_op op_mul pe_int (pv 0)) pe_int) (fun _ _=>rfl)) pa_nil)))))))))),?_⟩
  refine ⟨Nat.zero_le _,fun f hf=>?_⟩
  have eL:(((M.map mV).length:Nat):Int).toNat=M.length:=by simp
  have ha1:(upd H f (.lst [])) a=some (.lst (M.map mV)):=by rw [upd_ne (ne_of_none ha hf)]; exact ha
  dsimp only [gName]
  show tSeq (tFor _ _ _) _ _ _ _
  refine seq_post (fun σ H1=>∃ (v4 v5:Option V),σ=[some (.ref a),some (.int st),some (.int sp),some (.ref f),v4,v5]∧Same H H1∧H1 f=some (.lst ((flat M st sp).map V.int))) (fun nx hnx=>?_) ?_
  ·refine ⟨_,rfl,a,_,rfl,.inl (SqL.of ha1),_,rfl,by omega,by rw [List.length_map]; omega,?_⟩
   rw [eL]
   refine for_range (n:=M.length) (fun i σ H1=>∃ (v4 v5:Option V),σ=[some (.ref a),some (.int st),some (.int sp),some (.ref f),v4,v5]∧Same H H1∧H1 f=some (.lst (((List.range i).map fun i=>nm st sp (rep M i)).map V.int))) ⟨none,none,rfl,Same.new hf,upd_same⟩ ?_ ?_
   ·rintro i σ H1 hlt ⟨v4,v5,rfl,sm,hfl⟩
    refine ⟨_,rfl,_,rfl,a,_,_,_,rfl,rfl,SqL.of (sm _ _ ha),mV_get hlt,?_⟩
    have fin:∀ x:Int,x=nm st sp (rep M i)→(upd H1 f (.lst (((List.range i).map fun i=>nm st sp (rep M i)).map V.int ++ [V.int x]))) f=some (.lst (((List.range (i + 1)).map fun i=>nm st sp (rep M i)).map V.int)):=fun x hx=>by
     rw [upd_same,hx,List.range_succ]
     simp
    have hlen:(((List.range i).map fun i=>nm st sp (rep M i)).map V.int).length < sizeLine:=by
     rw [List.length_map,List.length_map,List.length_range]; exact small1000 (by omega)
    refine ⟨_,rfl,rfl,_,rfl,?_⟩
    cases e:M[i] with
    | none =>
     have er:rep M i=i:=by unfold rep; rw [List.getElem?_eq_getElem hlt,e]
     refine iteF ?_
     refine iteF ?_
     refine ⟨_,rfl,.inl ⟨rfl,_,SqL.of hfl⟩,_,rfl,_,rfl,_,rfl,_,_,rfl,rfl,.inl (steps_small hsp),_,_,rfl,rfl,_,_,rfl,rfl,(by show (0:Int) < 10000; decide),f,_,_,rfl,rfl,hfl,hlen,?_⟩
     exact ⟨_,_,rfl,Same.add sm hf,fin _ (by rw [er]; unfold nm; rw [Int.zero_add])⟩
    | some j =>
     have hMi:M[i]?=some (some j):=by rw [List.getElem?_eq_getElem hlt,e]
     refine iteT ?_
     refine ⟨_,rfl,_,rfl,_,_,rfl,rfl,_,rfl,?_⟩
     refine ite2 (fun g=>?_) (fun g=>?_)
     ·have g:j < i:=by have:=of_decide_eq_true g; omega
      have er:rep M i=j:=by unfold rep; rw [hMi]; exact if_pos g
      have erj:rep M j=j:=by unfold rep; rw [(hi i j hMi).1]; exact if_neg (by omega)
      have ej:atI (((List.range i).map fun i=>nm st sp (rep M i)).map V.int) (j:Int)=some (V.int (nm st sp (rep M i))):=by
       refine atI_nat ?_
       rw [List.getElem?_map,List.getElem?_map,List.getElem?_range g,er]
       show some (V.int (nm st sp (rep M j)))=_
       rw [erj]
      refine ⟨_,rfl,.inl ⟨rfl,_,SqL.of hfl⟩,_,rfl,_,rfl,f,_,_,_,rfl,rfl,SqL.of hfl,ej,f,_,_,rfl,rfl,hfl,hlen,?_⟩
      exact ⟨_,_,rfl,Same.add sm hf,fin _ rfl⟩
     ·have g:¬ j < i:=by
       have:¬ ((j:Int) < 0 + (i:Int)):=fun z=>g (decide_eq_true z)
       omega
      have er:rep M i=i:=by unfold rep; rw [hMi]; exact if_neg g
      refine ⟨_,rfl,.inl ⟨rfl,_,SqL.of hfl⟩,_,rfl,_,rfl,_,rfl,_,_,rfl,rfl,.inl (steps_small hsp),_,_,rfl,rfl,_,_,rfl,rfl,(by show (0:Int) < 10000; decide),f,_,_,rfl,rfl,hfl,hlen,?_⟩
      exact ⟨_,_,rfl,Same.add sm hf,fin _ (by rw [er]; unfold nm; rw [Int.zero_add])⟩
   ·rintro σ H1 ⟨v4,v5,rfl,sm,hfl⟩
    exact hnx _ _ ⟨v4,v5,rfl,sm,hfl⟩
  rintro σ H1 ⟨v4,v5,rfl,sm,hfl⟩
  refine ⟨_,rfl,a,_,rfl,.inl (SqL.of (sm _ _ ha)),_,_,rfl,rfl,⟨by decide,by decide⟩,_,rfl,by rw [List.length_map]; omega,by rw [List.length_map]; omega,fun D hD=>?_⟩
  have eD:((((M.map mV).length:Nat):Int) / 3).toNat=n:=by rw [List.length_map,hM]; omega
  have hD0:H D=none:=sm.free hD
  have hfD:f≠D:=fun z=>by rw [z] at hfl; rw [hD] at hfl; cases hfl
  have hlf:(flat M st sp).length=3 * n:=by unfold flat; simp [hM]
  show LoopR (Itr 0 ((((M.map mV).length:Nat):Int) / 3).toNat) _ _ _ _ _ _
  rw [eD]
  refine loop_range (fun i σ H2=>∃ (ts:List Addr) (v:Option V),σ=[v,some (.ref f)]∧Same H H2∧H2 D=some (.lst (ts.map V.ref))∧ts.length=i∧H2 f=some (.lst ((flat M st sp).map V.int))∧∀ (k:Nat) (t:Addr),ts[k]?=some t→H2 t=some (.tup (row3 (flat M st sp) k)))
   ⟨[],none,rfl,Same.add sm hD0,upd_same,rfl,by rw [upd_ne hfD]; exact hfl,fun k t z=>by simp at z⟩ ?_ ?_
  ·rintro i σ H2 hlt ⟨ts,v,rfl,sm2,g1,hl2,g2,g3⟩
   have at':∀ (c:Nat) (z:Int),c < 3→z=3 * (0 + (i:Int)) + c→atI ((flat M st sp).map V.int) z=some (V.int ((flat M st sp).getD (3 * i + c) 0)):=fun c z hc hz=>by
    have e:z=((3 * i + c:Nat):Int):=by omega
    rw [e]
    exact atI_nat (getI (by omega))
   dsimp only [gName,tYes]
   rw [if_pos rfl]
   refine ⟨_,rfl,_,rfl,_,_,rfl,rfl,.inl ⟨by decide,by decide⟩,f,_,_,_,rfl,rfl,SqL.of g2,at' 0 _ (by decide) (by simp),?_⟩
   refine ⟨_,rfl,_,rfl,_,_,rfl,rfl,.inl ⟨by decide,by decide⟩,_,_,rfl,rfl,f,_,_,_,rfl,rfl,SqL.of g2,at' 1 _ (by decide) rfl,?_⟩
   refine ⟨_,rfl,_,rfl,_,_,rfl,rfl,.inl ⟨by decide,by decide⟩,_,_,rfl,rfl,f,_,_,_,rfl,rfl,SqL.of g2,at' 2 _ (by decide) rfl,?_⟩
   refine ⟨(by show 3≤sizeLine; decide),fun q hq=>?_⟩
   have hqD:q≠D:=fun z=>by rw [z,g1] at hq; cases hq
   have hqf:q≠f:=fun z=>by rw [z,g2] at hq; cases hq
   have hq0:H q=none:=sm2.free hq
   refine ⟨_,by rw [upd_ne (Ne.symm hqD)]; exact g1,(by rw [List.length_map]; exact small1000 (by omega)),ts ++ [q],_,rfl,Same.add (Same.add sm2 hq0) hD0,?_,?_,?_,?_⟩
   ·rw [upd_same]; simp
   ·rw [List.length_append,List.length_singleton,hl2]
   ·rw [upd_ne hfD,upd_ne (Ne.symm hqf)]; exact g2
   ·intro k t z
    by_cases hk:k < ts.length
    ·rw [List.getElem?_append_left hk] at z
     have g:=g3 k t z
     rw [upd_ne (fun e=>by rw [e,g1] at g; cases g),upd_ne (ne_of_none g hq)]
     exact g
    ·have hk2:k=ts.length:=by
      have:=(List.getElem?_eq_some_iff.mp z).1
      rw [List.length_append,List.length_singleton] at this
      omega
     subst hk2
     have:t=q:=by simpa using z.symm
     subst this
     rw [upd_ne hqD,upd_same,hl2]
     rfl
  ·rintro σ H2 ⟨ts,v,rfl,sm2,g1,hl2,g2,g3⟩
   exact k D H2 sm2 hD0 ⟨ts,g1,by rw [hlf,hl2],g3⟩
end
end KT
set_option maxHeartbeats 4000000
namespace KT
open PySem L2
theorem at4 {i:Int} (h0:0≤i) (h1:i < 4):∃ sh:Int,atI [V.int 0,V.int 0,V.int 1,V.int 3] i=some (V.int sh):=by
 obtain rfl | rfl | rfl | rfl:i=0∨i=1∨i=2∨i=3:=by omega
 all_goals exact ⟨_,rfl⟩
theorem at8 {i:Int} (h0:0≤i) (h1:i < 8):∃ sp:Int,sp∈steps∧atI [V.int 1,V.int 3,V.int 7,V.int 9,V.int 37,V.int 1009,V.int 3333,V.int 9999] i=some (V.int sp):=by
 obtain rfl | rfl | rfl | rfl | rfl | rfl | rfl | rfl:i=0∨i=1∨i=2∨i=3∨i=4∨i=5∨i=6∨i=7:=by omega
 all_goals exact ⟨_,by decide,rfl⟩
noncomputable def sp_tent (K:PySem.W.Frag):Sp:=fun vs H Q _=>∃ (a:Addr) (ns:List Int),vs=[.ref a]∧SqL K H a (ns.map V.int)∧ns.length≤63 ∧
 ∀ (p m r:Addr) (M:List (Option Nat)) (nms:List Int) (H':Hp),Same H H'→H' p=some (.tup [.ref m,.ref r])→H' m=some (.lst (M.map mV))→RowsAt H' r nms→TD M nms→M.length≤42→H m=none→H r=none→Q (.ref p) H'
section
variable {P:Program} {w:World} {K:PySem.W.Frag} {mg:Str→Option Value} {base:Heap} {t:Adr}
theorem sc_l_tent:FnScope ["_law_script","_law_head","_law_many","_law_names","_law_share","_law_mates","_law_step"] ["_law_script"] (defScope s_l_tent):=⟨rfl,rfl,rfl,by decide +kernel,rfl,by decide +kernel,by decide +kernel⟩
theorem ok_l_tent (T:Txt w K mg t):FnOk P w K mg base (CXr P w) 2 t.f_l_tent t.d_l_tent ["_law_script"] (sp_tent K):=by
 refine T.p_l_tent.F.okR sc_l_tent (fun vs H Q E h=>?_) (fun cdv A outer s H vs Q E hr h=>?_)
 ·obtain ⟨a,ns,rfl,_⟩:=h
  rfl
 ·obtain ⟨a,ns,rfl,hS,hl,k⟩:=h
  refine ⟨_,(pss_cons (ps_set (i:=1) sc_l_tent.nd rfl (Or.inl rfl) (pe_call (ok_l_cell T) (hr.mono (by decide)) rfl T.p_l_cell.g T.p_l_cell.F.kp T.p_l_cell.b .nil passR (pa_cons (pv 0) (pa_cons pe_int pa_nil))))
   (pss_cons (ps_set (i:=2) sc_l_tent.nd rfl (Or.inl rfl) (pe_op op_add pe_int (pe_op op_mod (pv 1) pe_int)))
   (pss_cons (ps_if (pt_cmpR op_eq (pe_op op_mod (pe_op op_fdiv (pv 1) pe_int) pe_int) pe_int (nomark _)) (pss_one (ps_set (i:=2) sc_l_tent.nd rfl (Or.inl rfl) (pe_op op_add pe_int (pe_op op_mod (pe_op op_fdiv (pv 1) pe_int) pe_int)))) pss_nil)
   (pss_cons (ps_set (i:=3) sc_l_tent.nd rfl (Or.inl rfl) (pe_call (ok_l_cell T) (hr.mono (by decide)) rfl T.p_l_cell.g T.p_l_cell.F.kp T.p_l_cell.b .nil passR (pa_cons (pv 0) (pa_cons pe_int pa_nil))))
   (pss_cons (ps_set (i:=4) sc_l_tent.nd rfl (Or.inl rfl) (pe_ix ix_tup (pe_tup (pa_cons pe_int (pa_cons pe_int (pa_cons pe_int (pa_cons pe_int pa_nil))))) (pe_op op_mod (pv 3) pe_int) (fun _ _=>rfl)))
   (pss_cons (ps_set (i:=5) sc_l_tent.nd rfl (Or.inl rfl) (pe_call (ok_l_sewn T) (hr.mono (by decide)) rfl T.p_l_sewn.g T.p_l_sewn.F.kp T.p_l_sewn.b .nil passR (pa_cons (pe_call (ok_l_numbers T) (hr.mono (by decide)) rfl T.p_l_numbers.g T.p_l_numbers.F.kp T.p_l_numbers.b .nil passR (pa_cons (pe_call (ok_l_cell T) (hr.mono (by decide)) rfl T.p_l_cell.g T.p_l_cell.F.kp T.p_l_cell.b .nil passR (pa_cons (pv 0) (pa_cons pe_int pa_nil))) (pa_cons pe_int pa_nil))) (pa_cons (pv 2) (pa_cons (pv 4) pa_nil)))))
   (pss_cons (ps_set (i:=6) sc_l_tent.nd rfl (Or.inl rfl) (pe_ix ix_tup (pe_tup (pa_cons pe_int (pa_cons pe_int (pa_cons pe_int (pa_cons pe_int (pa_cons pe_int (pa_cons pe_int (pa_cons pe_int (pa_cons pe_int pa_nil))))))))) (pe_op op_mod (pe_op op_fdiv (pv 3) pe_int) pe_int) (fun _ _=>rfl)))
   (pss_one (ps_ret (pe_tup (pa_cons (pv 5) (pa_cons (pe_call (ok_l_rows T) (hr.mono (by decide)) rfl T.p_l_rows.g T.p_l_rows.F.kp T.p_l_rows.b .nil passR (pa_cons (pv 5) (pa_cons (pe_op op_mod (pe_op op_fdiv (pv 3) pe_int) pe_int) (pa_cons (pv 6) pa_nil)))) pa_nil)))))))))))),?_⟩
  refine ⟨_,rfl,a,ns,0,rfl,hS,hl,by decide,by decide,?_⟩
  generalize cell ns 0=hd
  refine ⟨_,rfl,_,_,rfl,rfl,(by show (0:Int) < 6; decide),_,_,rfl,rfl,?_⟩
  dsimp only [gName]
  show tSeq (tIfS _ _ _) _ _ _ _
  refine seq_post (fun σ H1=>∃ n:Nat,1≤n∧n≤14∧σ=[some (.ref a),some (.int hd),some (.int n),none,none,none,none]∧H1=H) (fun nx hnx=>?_) ?_
  ·refine ⟨_,rfl,_,_,rfl,rfl,⟨by decide,by decide⟩,_,_,rfl,rfl,(by show (0:Int) < 9; decide),rfl,_,rfl,?_⟩
   refine ite2 (fun _=>?_) (fun _=>?_)
   ·refine ⟨_,rfl,_,_,rfl,rfl,⟨by decide,by decide⟩,_,_,rfl,rfl,(by show (0:Int) < 8; decide),_,_,rfl,rfl,?_⟩
    have e:(7 + hd / 54 % 8:Int)=((7 + (hd / 54 % 8).toNat:Nat):Int):=by omega
    exact hnx _ _ ⟨7 + (hd / 54 % 8).toNat,by omega,by omega,by rw [← e]; rfl,rfl⟩
   ·have e:(1 + hd % 6:Int)=((1 + (hd % 6).toNat:Nat):Int):=by omega
    exact hnx _ _ ⟨1 + (hd % 6).toNat,by omega,by omega,by rw [← e]; rfl,rfl⟩
  rintro σ H1 ⟨n,n1,n2,rfl,rfl⟩
  refine ⟨_,rfl,a,ns,2,rfl,hS,hl,by decide,by decide,?_⟩
  generalize cell ns 2=nam
  refine ⟨(by show 4≤sizeLine; decide),fun q hq=>?_⟩
  have m4:0≤nam % 4∧nam % 4 < 4:=by omega
  obtain ⟨sh,esh⟩:=at4 m4.1 m4.2
  refine ⟨_,rfl,_,_,rfl,rfl,(by show (0:Int) < 4; decide),q,_,_,_,rfl,rfl,SqT.of upd_same,esh,?_⟩
  have s1:Same H1 (upd H1 q (.tup [V.int 0,V.int 0,V.int 1,V.int 3])):=Same.new hq
  refine ⟨_,rfl,a,ns,1,rfl,s1.seq hS,hl,by decide,by decide,?_⟩
  refine ⟨_,60,rfl,by decide,fun p xs H2 s2 hp h2 h60 hx=>?_⟩
  refine ⟨_,rfl,_,rfl,p,xs,n,sh,rfl,h2,h60,hx,n1,n2,fun m M H3 s3 hm hM hlen hinv=>?_⟩
  have s13:Same H1 H3:=(s1.trans s2).trans s3
  have hm0:H1 m=none:=(s1.trans s2).free hm
  refine ⟨(by show 8≤sizeLine; decide),fun q2 hq2=>?_⟩
  have m8:0≤nam / 4 % 8∧nam / 4 % 8 < 8:=by omega
  obtain ⟨sp,hsp,esp⟩:=at8 m8.1 m8.2
  refine ⟨_,rfl,_,_,rfl,rfl,⟨by decide,by decide⟩,_,_,rfl,rfl,(by show (0:Int) < 8; decide),q2,_,_,_,rfl,rfl,SqT.of upd_same,esp,?_⟩
  have s14:Same H1 (upd H3 q2 (.tup [V.int 1,V.int 3,V.int 7,V.int 9,V.int 37,V.int 1009,V.int 3333,V.int 9999])):=Same.add s13 (s13.free hq2)
  have hM4:(upd H3 q2 (.tup [V.int 1,V.int 3,V.int 7,V.int 9,V.int 37,V.int 1009,V.int 3333,V.int 9999])) m=some (.lst (M.map mV)):=by rw [upd_ne (ne_of_none hM hq2)]; exact hM
  refine ⟨_,rfl,_,rfl,_,rfl,_,_,rfl,rfl,⟨by decide,by decide⟩,_,_,rfl,rfl,(by show (0:Int) < 10000; decide),_,rfl,m,M,n,_,sp,rfl,hM4,hlen,n1,n2,hinv,hsp,fun r H5 s5 hr5 hrow=>?_⟩
  refine ⟨(by show 2≤sizeLine; decide),fun p5 hp5=>?_⟩
  have s15:=s14.trans s5
  have hr0:H1 r=none:=s14.free hr5
  refine k p5 m r M _ _ (Same.add s15 (s15.free hp5)) upd_same ?_ (hrow.same (Same.new hp5)) (td_flat n1 n2 hlen hinv hsp) (by omega) hm0 hr0
  rw [upd_ne (ne_of_none (s5 _ _ hM4) hp5)]
  exact s5 _ _ hM4
end
end KT
set_option maxHeartbeats 4000000
namespace KT
open PySem L2
noncomputable def spk (ns:List Int) (n:Nat) (f:Int→Addr):List (Key × V):=(keys ns n).map fun x=>((Sum.inl x:Key),V.ref (f x))
structure SpotsF (H:Hp) (ns:List Int) (n:Nat) (f:Int→Addr):Prop where
 inj:∀ x∈keys ns n,∀ y∈keys ns n,f x=f y→x=y
 at':∀ x∈keys ns n,H (f x)=some (.lst ((pl ns n x).map nV))
noncomputable def sp_spots_of:Sp:=fun vs H Q _=>∃ (a:Addr) (M:List (Option Nat)) (ns:List Int),vs=[.ref a]∧H a=some (.lst (ns.map V.int))∧TD M ns∧ns.length≤120 ∧
 ∀ (d:Addr) (f:Int→Addr) (H':Hp),Same H H'→H d=none→H' d=some (.dK (spk ns ns.length f))→SpotsF H' ns ns.length f→(∀ x∈keys ns ns.length,H (f x)=none)→Q (.ref d) H'
section
variable {P:Program} {w:World} {K:PySem.W.Frag} {mg:Str→Option Value} {base:Heap} {t:Adr}
theorem sc_spots_of:FnScope ["names_at","spots","place","name"] ["names_at"] (defScope s_spots_of):=⟨rfl,rfl,rfl,by decide +kernel,rfl,by decide +kernel,by decide +kernel⟩
theorem ok_spots_of (T:Txt w K mg t):FnOk P w K mg base (CXr P w) 1 t.f_spots_of t.d_spots_of ["names_at"] sp_spots_of:=by
 refine T.p_spots_of.F.okR sc_spots_of (fun vs H Q E h=>?_) (fun cdv A outer s H vs Q E hr h=>?_)
 ·obtain ⟨a,M,ns,rfl,_⟩:=h
  rfl
 ·obtain ⟨a,M,ns,rfl,ha,td,hl,k⟩:=h
  have hu:=hu_of hr
  refine ⟨_,(pss_cons (ps_set (i:=1) sc_spots_of.nd rfl (Or.inl rfl) pe_dnewK)
   (pss_cons (ps_for PassesOwn.never rfl (pi_enum rfl T.n_enumerate (pa_cons (pv 0) pa_nil)) (pg_tup rfl (pgs_cons (pg_name (i:=2) sc_spots_of.nd rfl (Or.inl rfl)) (pgs_cons (pg_name (i:=3) sc_spots_of.nd rfl (Or.inl rfl)) pgs_nil))) (pss_cons (ps_if (PW.pt (pw_or (pt_cmpR op_lt (pv 3) pe_int (nomark _)) (pw_or1 (pt_cmpR op_gt (pv 3) (pe_glob (v:=.int 9999) rfl T.c_GREATEST_NAME ⟨_,rfl⟩) (nomark _))))) pss_never pss_nil)
   (pss_cons (ps_expr (pe_bm PySem.F.plainAttrs_list PySem.F.slot_list_append PySem.F.type_list_append mt_append (pe_dsetd (pv 1) (pv 3) (pe_lst pa_nil) ⟨rfl,rfl,rfl,rfl⟩) (pa_cons (pv 2) pa_nil)))
   (pss_one (ps_if (pt_cmpR op_gt (pe_callB call_len_seq (by rfl) T.n_len PySem.boot_len (pa_cons (pe_dget hu (pv 1) (pv 3) (fun _ _=>rfl)) pa_nil)) pe_int (nomark _)) pss_never pss_nil)))))
   (pss_one (ps_ret (pv 1))))),?_⟩
  intro d hd
  have hda:a≠d:=ne_of_none ha hd
  dsimp only [gName]
  show tSeq (tFor _ _ _) _ _ _ _
  refine seq_post (fun σ H1=>∃ (f:Int→Addr) (v2 v3:Option V),σ=[some (.ref a),some (.ref d),v2,v3]∧Same H H1∧H1 d=some (.dK (spk ns ns.length f))∧SpotsF H1 ns ns.length f∧∀ x∈keys ns ns.length,H (f x)=none) (fun nx hnx=>?_) ?_
  ·refine ⟨_,rfl,a,rfl,⟨_,SqL.of (by rw [upd_ne hda]; exact ha)⟩,?_⟩
   have el:(ns.map V.int).length=ns.length:=by simp
   refine for_enum (xs:=ns.map V.int) (fun i σ H1=>∃ (f:Int→Addr) (v2 v3:Option V),σ=[some (.ref a),some (.ref d),v2,v3]∧Same H H1∧H1 d=some (.dK (spk ns i f))∧SpotsF H1 ns i f∧∀ x∈keys ns i,H (f x)=none)
    ⟨fun _=>0,none,none,rfl,Same.new hd,upd_same,⟨fun x hx=>by simp [keys] at hx,fun x hx=>by simp [keys] at hx⟩,fun x hx=>by simp [keys] at hx⟩ ?_ ?_ ?_
   ·rintro i σ H1 _ ⟨f,v2,v3,rfl,sm,_⟩
    exact SqL.of (sm _ _ ha)
   ·rintro i x0 σ H1 q hx hq ⟨f,v2,v3,rfl,sm,hd1,sf,hf0⟩
    have hi:i < ns.length:=by rw [← el]; exact (List.getElem?_eq_some_iff.mp hx).1
    obtain ⟨x,hx'⟩:∃ x,ns[i]?=some x:=⟨_,List.getElem?_eq_getElem hi⟩
    obtain rfl:x0=V.int x:=by rw [List.getElem?_map,hx'] at hx; exact (Option.some.inj hx).symm
    refine ⟨q,_,rfl,SqT.of upd_same,rfl,_,_,rfl,_,_,rfl,rfl,?_⟩
    obtain ⟨x0,x1⟩:=td.rng i x hx'
    refine ⟨_,rfl,_,_,rfl,rfl,_,rfl,?_⟩
    rw [decide_eq_false (by omega:¬ x < 0)]
    refine iteF ?_
    refine ⟨_,rfl,_,_,rfl,rfl,_,rfl,?_⟩
    rw [decide_eq_false (by omega:¬ x > 9999)]
    refine iteF ?_
    have hdq:d≠q:=ne_of_none hd1 hq
    have hd2:(upd H1 q (.tup [.int i,.int x])) d=some (.dK (spk ns i f)):=by rw [upd_ne hdq]; exact hd1
    dsimp only [tNext]
    show tSeq (tDrop _) _ _ _ _
    refine seq_post (fun σ H2=>∃ (f:Int→Addr),σ=[some (.ref a),some (.ref d),some (.int i),some (.int x)]∧Same H H2∧H2 d=some (.dK (spk ns (i + 1) f))∧SpotsF H2 ns (i + 1) f∧∀ x∈keys ns (i + 1),H (f x)=none) (fun nx2 hnx2=>?_) ?_
    ·refine ⟨_,rfl,d,rfl,.inl ⟨_,.inl hd2⟩,_,rfl,Nat.zero_le _,fun l hl'=>?_⟩
     obtain ⟨hlq,hl1⟩:=upd_none hl'
     have hdl:d≠l:=ne_of_none hd1 hl1
     have hd3:(upd (upd H1 q (.tup [.int i,.int x])) l (.lst [])) d=some (.dK (spk ns i f)):=by rw [upd_ne hdl]; exact hd2
     have hlk:(spk ns i f).length < sizeLine:=by unfold spk; rw [List.length_map]; exact small1000 (by have:=keys_len ns i; omega)
     have hq0:H q=none:=sm.free hq
     have hl0:H l=none:=sm.free hl1
     have smq:Same H (upd (upd H1 q (.tup [.int i,.int x])) l (.lst [])):=Same.add (Same.add sm hq0) hl0
     have hp2:(pl ns i x).length < sizeLine:=small1000 (by have:=pl_le2 td i x; omega)
     have old:∀ b u,H1 b=some u→(upd (upd H1 q (.tup [.int i,.int x])) l (.lst [])) b=some u:=fun b u e=>by rw [upd_ne (ne_of_none e hl1),upd_ne (ne_of_none e hq)]; exact e
     refine ⟨spk ns i f,Sum.inl x,hd3,hlk,rfl,fun v hv=>?_,fun hv=>?_⟩
     ·-- the name stands already
      have hx2:x∈keys ns i:=by
       unfold spk at hv
       rw [val_map] at hv
       by_cases c:x∈keys ns i
       ·exact c
       ·rw [if_neg c] at hv; cases hv
      obtain rfl:v=V.ref (f x):=by
       unfold spk at hv
       rw [val_map,if_pos hx2] at hv
       exact (Option.some.inj hv).symm
      have ek:keys ns (i + 1)=keys ns i:=by rw [keys_step hx',if_pos hx2]
      have hfx:=old _ _ (sf.at' x hx2)
      refine ⟨.inl ⟨rfl,_,SqL.of hfx⟩,_,rfl,f x,_,_,rfl,rfl,hfx,by rw [List.length_map]; exact hp2,hnx2 _ _ ⟨f,rfl,Same.add smq (hf0 x hx2),?_,⟨?_,?_⟩,?_⟩⟩
      ·have:d≠f x:=fun z=>by rw [← z,hd3] at hfx; cases hfx
       rw [upd_ne this,hd3]
       unfold spk
       rw [ek]
      ·rw [ek]; exact sf.inj
      ·intro y hy
       rw [ek] at hy
       by_cases c:y=x
       ·subst c
        rw [upd_same,pl_same hx',List.map_append]
        rfl
       ·have:f y≠f x:=fun z=>c (sf.inj y hy x hx2 z)
        rw [upd_ne this,old _ _ (sf.at' y hy),pl_other (by rw [hx']; intro z; cases z; exact c rfl)]
      ·rw [ek]; exact hf0
     ·-- a new name
      have hx2:x ∉ keys ns i:=by
       intro c
       unfold spk at hv
       rw [val_map,if_pos c] at hv
       cases hv
      have ek:keys ns (i + 1)=keys ns i ++ [x]:=by rw [keys_step hx',if_neg hx2]
      have ep:putK (spk ns i f) (Sum.inl x) (V.ref l)=spk ns (i + 1) (fun y=>if y=x then l else f y):=by
       unfold spk
       rw [put_new hx2,ek,List.map_append]
       congr 1
       ·apply List.map_congr_left
        intro y hy
        dsimp only
        rw [if_neg (fun (z:y=x)=>hx2 (z ▸ hy))]
       ·simp
      rw [ep]
      have hl4:(upd (upd (upd H1 q (.tup [.int i,.int x])) l (.lst [])) d (.dK (spk ns (i + 1) (fun y=>if y=x then l else f y)))) l=some (.lst []):=by rw [upd_ne (Ne.symm hdl),upd_same]
      refine ⟨.inl ⟨rfl,_,SqL.of hl4⟩,_,rfl,l,_,_,rfl,rfl,hl4,by decide,hnx2 _ _ ⟨fun y=>if y=x then l else f y,rfl,Same.add (Same.add smq hd) hl0,?_,⟨?_,?_⟩,?_⟩⟩
      ·rw [upd_ne hdl,upd_same]
      ·intro y hy z hz e
       rw [ek,List.mem_append,List.mem_singleton] at hy hz
       by_cases c1:y=x
       ·by_cases c2:z=x
        ·rw [c1,c2]
        ·have hz':=hz.resolve_right c2
         simp only [c1,c2,if_true,if_false] at e
         exact absurd (sf.at' z hz') (by rw [← e,hl1]; intro w; cases w)
       ·have hy':=hy.resolve_right c1
        by_cases c2:z=x
        ·simp only [c1,c2,if_true,if_false] at e
         exact absurd (sf.at' y hy') (by rw [e,hl1]; intro w; cases w)
        ·have hz':=hz.resolve_right c2
         simp only [c1,c2,if_false] at e
         exact sf.inj y hy' z hz' e
      ·intro y hy
       rw [ek,List.mem_append,List.mem_singleton] at hy
       by_cases c:y=x
       ·subst c
        simp only [if_true]
        rw [upd_same,pl_same hx',pl_nil hx2]
        rfl
       ·have hy':=hy.resolve_right c
        have e1:=sf.at' y hy'
        have n1:f y≠l:=ne_of_none e1 hl1
        have n2:f y≠d:=fun z=>by rw [z,hd1] at e1; cases e1
        simp only [c,if_false]
        rw [upd_ne n1,upd_ne n2,old _ _ e1,pl_other (by rw [hx']; intro z; cases z; exact c rfl)]
      ·intro y hy
       rw [ek,List.mem_append,List.mem_singleton] at hy
       by_cases c:y=x
       ·simp only [c,if_true]; exact hl0
       ·simp only [c,if_false]; exact hf0 y (hy.resolve_right c)
    rintro σ H2 ⟨f',rfl,sm2,hd4,sf2,hf2⟩
    have hx3:x∈keys ns (i + 1):=keys_mem.mpr ⟨i,by omega,hx'⟩
    have hg:valV (spk ns (i + 1) f') (Sum.inl x)=some (V.ref (f' x)):=by unfold spk; rw [val_map,if_pos hx3]
    refine ⟨_,rfl,_,rfl,d,_,rfl,?_,f' x,_,rfl,.inl (SqL.of (sf2.at' x hx3)),_,_,rfl,rfl,_,rfl,?_⟩
    ·exact .inl ⟨_,Sum.inl x,.inl hd4,rfl,hg.symm⟩
    have h2:=pl_le2 td (i + 1) x
    rw [decide_eq_false (by rw [List.length_map]; omega:¬ ((((pl ns (i + 1) x).map nV).length:Nat):Int) > 2)]
    refine iteF ?_
    exact ⟨f',_,_,rfl,sm2,hd4,sf2,hf2⟩
   ·rintro σ H1 ⟨f,v2,v3,rfl,sm,hd1,sf,hf0⟩
    rw [el] at hd1 sf hf0
    exact hnx _ _ ⟨f,v2,v3,rfl,sm,hd1,sf,hf0⟩
  rintro σ H1 ⟨f,v2,v3,rfl,sm,hd1,sf,hf0⟩
  exact ⟨_,rfl,k d f H1 sm hd hd1 sf hf0⟩
noncomputable def sp_mates_of:Sp:=fun vs H Q _=>∃ (d:Addr) (M:List (Option Nat)) (ns:List Int) (f:Int→Addr),vs=[.ref d,.int ns.length]∧H d=some (.dK (spk ns ns.length f))∧SpotsF H ns ns.length f∧TD M ns∧ns.length≤120 ∧
 ∀ (m:Addr) (o:Obj) (H':Hp),(∀ b u,b≠d→H b=some u→H' b=some u)→H m=none→H' m=some (.lst (M.map mV))→H' d=some (.frz o (.dK (spk ns ns.length f)))→Q (.ref m) H'
theorem sc_mates_of:FnScope ["spots","count","mates","pair"] ["spots","count"] (defScope s_mates_of):=⟨rfl,rfl,rfl,by decide +kernel,rfl,by decide +kernel,by decide +kernel⟩
theorem ok_mates_of (T:Txt w K mg t):FnOk P w K mg base (CXr P w) 1 t.f_mates_of t.d_mates_of ["spots","count"] sp_mates_of:=by
 refine T.p_mates_of.F.okR sc_mates_of (fun vs H Q E h=>?_) (fun cdv A outer s H vs Q E hr h=>?_)
 ·obtain ⟨d,M,ns,f,rfl,_⟩:=h
  rfl
 ·obtain ⟨d,M,ns,f,rfl,hd,sf,td,hl,k⟩:=h
  refine ⟨_,(pss_cons (ps_set (i:=2) sc_mates_of.nd rfl (Or.inl rfl) (pe_op op_rep (pe_lst (pa_cons pe_non pa_nil)) (pv 1)))
   (pss_cons (ps_for PassesOwn.never rfl (pi_vals (pv 0) ⟨rfl,rfl,rfl⟩) (pg_name (i:=3) sc_mates_of.nd rfl (Or.inl rfl)) (pss_one (ps_if (pt_cmpR op_eq (pe_callB call_len_seq (by rfl) T.n_len PySem.boot_len (pa_cons (pv 3) pa_nil)) pe_int (nomark _)) (pss_cons (ps_asg (pe_ix ix_list (pv 3) pe_int (fun _ _=>rfl)) (pg_sub (pv 2) (pe_ix ix_list (pv 3) pe_int (fun _ _=>rfl)) set_list))
   (pss_one (ps_asg (pe_ix ix_list (pv 3) pe_int (fun _ _=>rfl)) (pg_sub (pv 2) (pe_ix ix_list (pv 3) pe_int (fun _ _=>rfl)) set_list)))) pss_nil)))
   (pss_one (ps_ret (pv 2))))),?_⟩
  refine ⟨(by show 1≤sizeLine; decide),fun q hq=>?_⟩
  refine ⟨_,rfl,q,_,_,rfl,rfl,upd_same,by omega,by omega,?_,fun m hm=>?_⟩
  ·have:((ns.length:Nat):Int).toNat=ns.length:=by omega
   show 1 * ((ns.length:Nat):Int).toNat≤sizeLine
   rw [this,sizeLine_eq]; omega
  obtain ⟨hmq,hm0⟩:=upd_none hm
  have eM:(List.replicate ((ns.length:Nat):Int).toNat [V.non]).flatten=(part M ns []).map mV:=by
   have:((ns.length:Nat):Int).toNat=M.length:=by rw [← td.len]; omega
   rw [this,List.flatten_replicate_singleton,part_nil td,List.map_replicate]
   rfl
  rw [eM]
  have hdm:d≠m:=ne_of_none hd hm0
  have hdq:d≠q:=ne_of_none hd hq
  dsimp only [gName]
  show tSeq (tFor _ _ _) _ _ _ _
  refine seq_post (fun σ H1=>∃ (o:Obj) (v:Option V),σ=[some (.ref d),some (.int ns.length),some (.ref m),v]∧(∀ b u,b≠d→H b=some u→H1 b=some u)∧H1 m=some (.lst (M.map mV))∧H1 d=some (.frz o (.dK (spk ns ns.length f)))) (fun nx hnx=>?_) ?_
  ·refine ⟨_,rfl,d,_,rfl,.inl ⟨by rw [upd_ne hdm,upd_ne hdq]; exact hd,fun o=>?_⟩⟩
   refine for_vals (fun j σ H1=>∃ (v:Option V),σ=[some (.ref d),some (.int ns.length),some (.ref m),v]∧(∀ b u,b≠d→H b=some u→H1 b=some u)∧H1 m=some (.lst ((part M ns ((keys ns ns.length).take j)).map mV))∧H1 d=some (.frz o (.dK (spk ns ns.length f))))
    ⟨none,rfl,fun b u hb e=>?_,?_,upd_same⟩ ?_ ?_ ?_
   ·rw [upd_ne hb,upd_ne (ne_of_none e hm0),upd_ne (ne_of_none e hq)]; exact e
   ·rw [upd_ne (Ne.symm hdm),upd_same]
    rfl
   ·rintro j σ H1 _ ⟨v,rfl,old,h1,h2⟩
    exact h2
   ·rintro j k0 x0 σ H1 hk ⟨v,rfl,old,h1,h2⟩
    obtain ⟨x,hx,rfl⟩:∃ x,(keys ns ns.length)[j]?=some x∧x0=V.ref (f x):=by
     unfold spk at hk
     rw [List.getElem?_map] at hk
     cases e:(keys ns ns.length)[j]? with
     | none=>rw [e] at hk; cases hk
     | some x=>rw [e] at hk; cases hk; exact ⟨x,rfl,rfl⟩
    have hm1:x∈keys ns ns.length:=List.mem_of_getElem? hx
    have et:(keys ns ns.length).take (j + 1)=(keys ns ns.length).take j ++ [x]:=by
     rw [List.take_add_one,hx]; rfl
    have hfx:=sf.at' x hm1
    have hfd:f x≠d:=fun z=>by rw [z,hd] at hfx; cases hfx
    have hf1:=old _ _ hfd hfx
    dsimp only [gName]
    refine ⟨_,rfl,f x,_,rfl,.inl (SqL.of hf1),rfl,_,rfl,?_⟩
    rcases pl_cases td hm1 with ⟨a,e,ea,ma⟩ | ⟨a,b,hab,e,ea,eb,ma,mb⟩
    ·rw [e] at hf1 ⊢
     refine iteF ?_
     refine ⟨_,rfl,old,?_,h2⟩
     rw [et,part_rim td e ma]
     exact h1
    ·rw [e] at hf1 ⊢
     refine iteT ?_
     have la:a < (part M ns ((keys ns ns.length).take j)).length:=by rw [part_len]; exact (List.getElem?_eq_some_iff.mp ma).1
     have lb:b < (part M ns ((keys ns ns.length).take j)).length:=by rw [part_len]; exact (List.getElem?_eq_some_iff.mp mb).1
     have hfm:f x≠m:=ne_of_none hfx hm0
     refine ⟨_,rfl,f x,_,_,_,rfl,rfl,SqL.of hf1,rfl,?_⟩
     refine ⟨_,rfl,_,rfl,f x,_,_,_,rfl,rfl,SqL.of hf1,rfl,m,_,_,a,rfl,rfl,h1,(by rw [List.length_map]; exact ixN_nat la),?_⟩
     have hf2:(upd H1 m (.lst (((part M ns ((keys ns ns.length).take j)).map mV).set a (nV b)))) (f x)=some (.lst ([a,b].map nV)):=by rw [upd_ne hfm]; exact hf1
     refine ⟨_,rfl,f x,_,_,_,rfl,rfl,SqL.of hf2,rfl,?_⟩
     refine ⟨_,rfl,_,rfl,f x,_,_,_,rfl,rfl,SqL.of hf2,rfl,m,_,_,b,rfl,rfl,upd_same,(by rw [List.length_set,List.length_map]; exact ixN_nat lb),?_⟩
     refine ⟨_,rfl,fun c u hc ec=>?_,?_,?_⟩
     ·have:c≠m:=ne_of_none ec hm0
      rw [upd_ne this,upd_ne this]
      exact old c u hc ec
     ·rw [upd_same,et,part_sewn td e hab ma mb]
      show some (HO.lst ((((part M ns ((keys ns ns.length).take j)).map mV).set a (mV (some b))).set b (mV (some a))))=_
      rw [map_set,map_set]
     ·rw [upd_ne hdm,upd_ne hdm]; exact h2
   ·rintro σ H1 ⟨v,rfl,old,h1,h2⟩
    refine hnx _ _ ⟨o,v,rfl,old,?_,h2⟩
    have:(keys ns ns.length).take (spk ns ns.length f).length=keys ns ns.length:=by
     unfold spk; rw [List.length_map,List.take_length]
    rw [this,part_all td] at h1
    exact h1
  rintro σ H1 ⟨o,v,rfl,old,h1,h2⟩
  exact ⟨_,rfl,k m o H1 old hm0 h1 h2⟩
end
end KT
set_option maxHeartbeats 4000000
namespace KT
open PySem L2
noncomputable def tflds (cl na sp mt:Addr):List (Str × V):=putF "mates" (.ref mt) (putF "spots" (.ref sp) (putF "names_at" (.ref na) (putF "cloths" (.ref cl) [])))
theorem len_putF (f:Str) (v:V):∀ fs:List (Str × V),(putF f v fs).length≤fs.length + 1
 | []=>by simp [putF]
 | (g,x) :: r=>by
  have:=len_putF f v r
  unfold putF
  split
  ·simp
  ·simp only [List.length_cons]; omega
theorem s_ns:¬ ("names_at":Str)="spots":=by decide
theorem s_nm:¬ ("names_at":Str)="mates":=by decide
theorem s_sm:¬ ("spots":Str)="mates":=by decide
theorem fl_names (cl na sp mt:Addr):(tflds cl na sp mt).lookup ("names_at":Str)=some (.ref na):=by
 unfold tflds; rw [lookup_putF,if_neg s_nm,lookup_putF,if_neg s_ns,lookup_putF,if_pos rfl]
theorem fl_spots (cl na sp mt:Addr):(tflds cl na sp mt).lookup ("spots":Str)=some (.ref sp):=by
 unfold tflds; rw [lookup_putF,if_neg s_sm,lookup_putF,if_pos rfl]
theorem fl_mates (cl na sp mt:Addr):(tflds cl na sp mt).lookup ("mates":Str)=some (.ref mt):=by
 unfold tflds; rw [lookup_putF,if_pos rfl]
theorem fl_none (cl na sp mt:Addr) {m:Str} (h:m≠"cloths"∧m≠"names_at"∧m≠"spots"∧m≠"mates":=by decide):(tflds cl na sp mt).lookup m=none:=by
 obtain ⟨h1,h2,h3,h4⟩:=h
 unfold tflds; rw [lookup_putF,if_neg h4,lookup_putF,if_neg h3,lookup_putF,if_neg h2,lookup_putF,if_neg h1]; rfl
structure TentB (C:Addr) (H:Hp) (p:Addr) (M:List (Option Nat)) (ns:List Int) (dx cl na sp mt:Addr) (o:Obj) (f:Int→Addr):Prop where
 ins:H p=some (.ins C dx (tflds cl na sp mt))
 rows:RowsAt H cl ns
 names:H na=some (.lst (ns.map V.int))
 spots:H sp=some (.frz o (.dK (spk ns ns.length f)))
 mates:H mt=some (.lst (M.map mV))
 at':∀ x∈keys ns ns.length,H (f x)=some (.lst ((pl ns ns.length x).map nV))
noncomputable def TentAt (C:Addr) (H:Hp) (p:Addr) (M:List (Option Nat)) (ns:List Int):Prop:=∃ dx cl na sp mt o f,TentB C H p M ns dx cl na sp mt o f
theorem TentAt.same {C:Addr} {H H':Hp} {p:Addr} {M:List (Option Nat)} {ns:List Int} (h:TentAt C H p M ns) (s:Same H H'):TentAt C H' p M ns:=by
 obtain ⟨dx,cl,na,sp,mt,o,f,b⟩:=h
 exact ⟨dx,cl,na,sp,mt,o,f,s _ _ b.ins,b.rows.same s,s _ _ b.names,s _ _ b.spots,s _ _ b.mates,fun x hx=>s _ _ (b.at' x hx)⟩
theorem take_row {ns:List Int} {k n:Nat} (h:ns.length=3 * n) (hk:k < n):(ns.take (3 * k)).map V.int ++ row3 ns k=(ns.take (3 * (k + 1))).map V.int:=by
 have e:ns.take (3 * (k + 1))=ns.take (3 * k) ++ [ns.getD (3 * k) 0,ns.getD (3 * k + 1) 0,ns.getD (3 * k + 2) 0]:=by
  have l0:3 * k < ns.length:=by omega
  have l1:3 * k + 1 < ns.length:=by omega
  have l2:3 * k + 2 < ns.length:=by omega
  have g:∀ i,i < ns.length→ns[i]?=some (ns.getD i 0):=fun i hi=>by rw [List.getD_eq_getElem?_getD,List.getElem?_eq_getElem hi]; rfl
  rw [show 3 * (k + 1)=3 * k + 1 + 1 + 1 by omega,List.take_add_one,List.take_add_one,List.take_add_one,g _ l0,g _ l1,g _ l2,List.append_assoc,List.append_assoc]
  rfl
 rw [e,List.map_append]
 rfl
noncomputable def sp_Tent_init (C:Addr):Sp:=fun vs H Q _=>∃ (p r dx:Addr) (M:List (Option Nat)) (ns:List Int),vs=[.ref p,.ref r]∧H p=some (.ins C dx [])∧RowsAt H r ns∧TD M ns∧ns.length≤120 ∧
 ∀ (H':Hp),(∀ b u,b≠p→H b=some u→H' b=some u)→TentAt C H' p M ns→Q .non H'
section
variable {P:Program} {w:World} {K:PySem.W.Frag} {mg:Str→Option Value} {base:Heap} {t:Adr}
theorem sc_Tent_init:FnScope ["self","rows"] ["self","rows"] (defScope s_Tent_init):=⟨rfl,rfl,rfl,by decide +kernel,rfl,by decide +kernel,by decide +kernel⟩
theorem ok_Tent_init (T:Txt w K mg t):FnOk P w K mg base (CXr P w) 2 t.f_Tent_init t.d_Tent_init ["self","rows"] (sp_Tent_init t.C_Tent):=by
  refine T.p_Tent_init.F.okR sc_Tent_init (fun vs H Q E h=>?_) (fun cdv A outer s H vs Q E hr h=>?_)
  · obtain ⟨p,r,dx,M,ns,rfl,_⟩:=h
    rfl
  · obtain ⟨p,r,dx,M,ns,rfl,hp,⟨ts,hr1,hr2,hr3⟩,td,hl,k⟩:=h
    refine ⟨_,(pss_cons (ps_if (pt_not (pt_truth (pv 1) (fun _=>rfl))) pss_never pss_nil)
      (pss_cons (ps_fld (pv 0) (pe_compG (ts:=["row"]) (fv:=[]) ⟨rfl,by decide +kernel,by decide +kernel,blkFree (by rfl),trivial⟩ rfl (pi_list (pv 1)) (fun _ _ _ _=>(pg_name (i:=0) (show List.Nodup (["row"]:List Str) from by decide +kernel) rfl (Or.inl rfl) (Or.inr rfl))) (fun _ _ _ _=>pts_nil) (fun _ _ _=>rfl) (fun _ _ _ _ _ _=>pb_emit (pe_callTy (call_tuple_ofK K) (by rfl) T.n_tuple PySem.Pv.boot_tuple (pa_cons (pv 0) pa_nil)))) rfl)
      (pss_cons (ps_fld (pv 0) (pe_compG (ts:=["row","name"]) (fv:=[]) ⟨rfl,by decide +kernel,by decide +kernel,blkFree (by rfl),trivial⟩ rfl (pi_list (pe_fld (pv 0) rfl)) (fun _ _ _ _=>(pg_name (i:=0) (show List.Nodup (["row","name"]:List Str) from by decide +kernel) rfl (Or.inl rfl) (Or.inr rfl))) (fun _ _ _ _=>pts_nil) (fun _ _ _=>rfl) (fun _ _ _ _ _ _=>pb_gen rfl rfl (pi_tupK K (pv 0)) (pg_name (i:=1) (show List.Nodup (["row","name"]:List Str) from by decide +kernel) rfl (Or.inl rfl) (Or.inr rfl)) pts_nil (pv 1))) rfl)
      (pss_cons (ps_fld (pv 0) (pe_call (ok_spots_of T) (hr.mono (by decide)) rfl T.p_spots_of.g T.p_spots_of.F.kp T.p_spots_of.b .nil passR (pa_cons (pe_fld (pv 0) rfl) pa_nil)) rfl)
      (pss_one (ps_fld (pv 0) (pe_call (ok_mates_of T) (hr.mono (by decide)) rfl T.p_mates_of.g T.p_mates_of.F.kp T.p_mates_of.b .nil passR (pa_cons (pe_fld (pv 0) rfl) (pa_cons (pe_callB call_len_seq (by rfl) T.n_len PySem.boot_len (pa_cons (pe_fld (pv 0) rfl) pa_nil)) pa_nil))) rfl)))))),?_⟩
    obtain ⟨n,n1,n2,hn⟩:=td.n
    have hnn:ns.length=3 * n:=by rw [td.len,hn]
    have htn:ts.length=n:=by omega
    have hrp:r≠p:=fun z=>by rw [z,hp] at hr1; cases hr1
    refine ⟨_,rfl,true,.inl ⟨_,SqL.of hr1,?_⟩,?_⟩
    · cases ts with
      | nil=>simp at htn; omega
      | cons _ _=>rfl
    refine iteF ?_
    dsimp only [tNext]
    refine ⟨_,rfl,r,rfl,⟨_,SqL.of hr1⟩,fun D hD=>?_⟩
    have hDp:D≠p:=fun z=>by rw [z,hp] at hD; cases hD
    refine loop_list (xs:=ts.map V.ref) (fun i σ H1=>∃ (v:Option V),σ=[v]∧Same H H1∧H1 D=some (.lst ((ts.take i).map V.ref))) ⟨none,rfl,Same.new hD,upd_same⟩ ?_ ?_ ?_
    · rintro i σ H1 _ ⟨v,rfl,sm,h1⟩
      exact SqL.of (sm _ _ hr1)
    · rintro i x σ H1 hx ⟨v,rfl,sm,h1⟩
      dsimp only [gName,tYes]
      rw [if_pos rfl]
      obtain ⟨tt,ht,rfl⟩:=map_some hx
      refine ⟨_,rfl,tt,_,rfl,.inr ⟨SqT.of (sm _ _ (hr3 i tt ht)),_,h1,(by rw [List.length_map,List.length_take]; exact small1000 (by omega)),_,rfl,Same.add sm hD,?_⟩⟩
      rw [upd_same,List.take_add_one,ht,List.map_append]
      rfl
    rintro σ H1 ⟨v,rfl,sm1,h1⟩
    rw [List.length_map,List.take_length] at h1
    have hp1:=sm1 _ _ hp
    refine ⟨_,rfl,p,_,dx,_,rfl,hp1,T.cl_Tent,T.a_Tent_cloths,by decide,?_⟩
    have old2:∀ b u,b≠p→H b=some u→(upd H1 p (.ins t.C_Tent dx (putF "cloths" (.ref D) []))) b=some u:=fun b u hb e=>by rw [upd_ne hb]; exact sm1 b u e
    have hD2:(upd H1 p (.ins t.C_Tent dx (putF "cloths" (.ref D) []))) D=some (.lst (ts.map V.ref)):=by rw [upd_ne hDp]; exact h1
    have hp2:(upd H1 p (.ins t.C_Tent dx (putF "cloths" (.ref D) []))) p=some (.ins t.C_Tent dx (putF "cloths" (.ref D) [])):=upd_same
    have ht2:∀ (k:Nat) (q:Addr),ts[k]?=some q→(upd H1 p (.ins t.C_Tent dx (putF "cloths" (.ref D) []))) q=some (.tup (row3 ns k)):=fun k q e=>by
      have e1:=hr3 k q e
      have:q≠p:=fun z=>by rw [z,hp] at e1; cases e1
      exact old2 q _ this e1
    generalize upd H1 p (.ins t.C_Tent dx (putF "cloths" (.ref D) []))=H2 at old2 hD2 hp2 ht2 ⊢
    refine ⟨_,rfl,p,_,dx,_,_,rfl,hp2,T.cl_Tent,T.a_Tent_cloths,rfl,D,rfl,⟨_,SqL.of hD2⟩,fun N hN=>?_⟩
    have hND:N≠D:=fun z=>by rw [z,hD2] at hN; cases hN
    have hNp:N≠p:=fun z=>by rw [z,hp2] at hN; cases hN
    refine loop_list (xs:=ts.map V.ref) (fun i σ H3=>∃ (v v':Option V),σ=[v,v']∧Same H2 H3∧H3 N=some (.lst ((ns.take (3 * i)).map V.int))) ⟨none,none,rfl,Same.new hN,upd_same⟩ ?_ ?_ ?_
    · rintro i σ H3 _ ⟨v,v',rfl,sm,h3⟩
      exact SqL.of (sm _ _ hD2)
    · rintro i x σ H3 hx ⟨v,v',rfl,sm,h3⟩
      dsimp only [gName,tYes]
      rw [if_pos rfl]
      obtain ⟨tt,ht,rfl⟩:=map_some hx
      have hi:i < n:=by rw [← htn]; exact (List.getElem?_eq_some_iff.mp ht).1
      refine ⟨_,rfl,tt,rfl,⟨_,SqT.of (sm _ _ (ht2 i tt ht))⟩,?_⟩
      refine loop_tup (xs:=row3 ns i) (fun j σ H4=>∃ (v':Option V),σ=[some (.ref tt),v']∧Same H2 H4∧H4 N=some (.lst ((ns.take (3 * i)).map V.int ++ (row3 ns i).take j))) ⟨v',rfl,sm,by rw [h3,List.take_zero,List.append_nil]⟩ ?_ ?_ ?_
      · rintro j σ H4 _ ⟨v',rfl,sm,h4⟩
        exact SqT.of (sm _ _ (ht2 i tt ht))
      · rintro j x σ H4 hx ⟨v',rfl,sm,h4⟩
        dsimp only [gName,tYes]
        rw [if_pos rfl]
        refine ⟨_,rfl,_,h4,?_,_,rfl,Same.add sm hN,?_⟩
        · rw [List.length_append,List.length_map,List.length_take,List.length_take]
          exact small1000 (by have:(row3 ns i).length=3:=rfl; omega)
        · rw [upd_same,List.take_add_one,hx,← List.append_assoc]
          rfl
      · rintro σ H4 ⟨v',rfl,sm,h4⟩
        refine ⟨_,_,rfl,sm,?_⟩
        rw [h4,List.take_length,take_row hnn hi]
    rintro σ H3 ⟨v,v',rfl,sm3,h3⟩
    have eall:ns.take (3 * (ts.map V.ref).length)=ns:=by rw [List.length_map,htn,← hnn,List.take_length]
    rw [eall] at h3
    have hp3:=sm3 _ _ hp2
    refine ⟨_,rfl,p,_,dx,_,rfl,hp3,T.cl_Tent,T.a_Tent_names_at,(by have h1:=len_putF "cloths" (.ref D) []; simp only [List.length_nil] at h1; omega),?_⟩
    have old4:∀ b u,b≠p→H2 b=some u→(upd H3 p (.ins t.C_Tent dx (putF "names_at" (.ref N) (putF "cloths" (.ref D) [])))) b=some u:=fun b u hb e=>by rw [upd_ne hb]; exact sm3 b u e
    have hN4:(upd H3 p (.ins t.C_Tent dx (putF "names_at" (.ref N) (putF "cloths" (.ref D) [])))) N=some (.lst (ns.map V.int)):=by rw [upd_ne hNp]; exact h3
    have hp4:(upd H3 p (.ins t.C_Tent dx (putF "names_at" (.ref N) (putF "cloths" (.ref D) [])))) p=some (.ins t.C_Tent dx (putF "names_at" (.ref N) (putF "cloths" (.ref D) []))):=upd_same
    generalize upd H3 p (.ins t.C_Tent dx (putF "names_at" (.ref N) (putF "cloths" (.ref D) [])))=H4 at old4 hN4 hp4 ⊢
    have lk1:(putF "names_at" (.ref N) (putF "cloths" (.ref D) [])).lookup ("names_at":Str)=some (.ref N):=by rw [lookup_putF,if_pos rfl]
    refine ⟨_,rfl,p,_,dx,_,_,rfl,hp4,T.cl_Tent,T.a_Tent_names_at,lk1,N,M,ns,rfl,hN4,td,hl,fun d f H5 sm5 hd5 hd5' sf hf0=>?_⟩
    have hp5:=sm5 _ _ hp4
    refine ⟨_,rfl,p,_,dx,_,rfl,hp5,T.cl_Tent,T.a_Tent_spots,(by have h1:=len_putF "cloths" (.ref D) []; have h2:=len_putF "names_at" (.ref N) (putF "cloths" (.ref D) []); simp only [List.length_nil] at h1; omega),?_⟩
    have hdp:d≠p:=fun z=>by rw [z,hp4] at hd5; cases hd5
    have hfp:∀ x∈keys ns ns.length,f x≠p:=fun x hx z=>by have:=hf0 x hx; rw [z,hp4] at this; cases this
    have old6:∀ b u,b≠p→H4 b=some u→(upd H5 p (.ins t.C_Tent dx (putF "spots" (.ref d) (putF "names_at" (.ref N) (putF "cloths" (.ref D) []))))) b=some u:=fun b u hb e=>by rw [upd_ne hb]; exact sm5 b u e
    have hp6:(upd H5 p (.ins t.C_Tent dx (putF "spots" (.ref d) (putF "names_at" (.ref N) (putF "cloths" (.ref D) []))))) p=some (.ins t.C_Tent dx (putF "spots" (.ref d) (putF "names_at" (.ref N) (putF "cloths" (.ref D) [])))):=upd_same
    have hd6:(upd H5 p (.ins t.C_Tent dx (putF "spots" (.ref d) (putF "names_at" (.ref N) (putF "cloths" (.ref D) []))))) d=some (.dK (spk ns ns.length f)):=by rw [upd_ne hdp]; exact hd5'
    have sf6:SpotsF (upd H5 p (.ins t.C_Tent dx (putF "spots" (.ref d) (putF "names_at" (.ref N) (putF "cloths" (.ref D) []))))) ns ns.length f:=⟨sf.inj,fun x hx=>by rw [upd_ne (hfp x hx)]; exact sf.at' x hx⟩
    generalize upd H5 p (.ins t.C_Tent dx (putF "spots" (.ref d) (putF "names_at" (.ref N) (putF "cloths" (.ref D) []))))=H6 at old6 hp6 hd6 sf6 ⊢
    have lk2:(putF "spots" (.ref d) (putF "names_at" (.ref N) (putF "cloths" (.ref D) []))).lookup ("spots":Str)=some (.ref d):=by rw [lookup_putF,if_pos rfl]
    have lk3:(putF "spots" (.ref d) (putF "names_at" (.ref N) (putF "cloths" (.ref D) []))).lookup ("names_at":Str)=some (.ref N):=by rw [lookup_putF,if_neg s_ns,lookup_putF,if_pos rfl]
    have hN6:=old6 _ _ hNp hN4
    have eln:(((ns.map V.int).length:Nat):Int)=(ns.length:Nat):=by rw [List.length_map]
    refine ⟨_,rfl,p,_,dx,_,_,rfl,hp6,T.cl_Tent,T.a_Tent_spots,lk2,_,rfl,p,_,dx,_,_,rfl,hp6,T.cl_Tent,T.a_Tent_names_at,lk3,N,_,rfl,.inl (SqL.of hN6),d,M,ns,f,(by rw [eln]; rfl),hd6,sf6,td,hl,fun m o H7 old7 hm7 hmm hdd=>?_⟩
    have hpd:p≠d:=Ne.symm hdp
    have hp7:=old7 _ _ hpd hp6
    refine ⟨_,rfl,p,_,dx,_,rfl,hp7,T.cl_Tent,T.a_Tent_mates,(by have h1:=len_putF "cloths" (.ref D) []; have h2:=len_putF "names_at" (.ref N) (putF "cloths" (.ref D) []); have h3:=len_putF "spots" (.ref d) (putF "names_at" (.ref N) (putF "cloths" (.ref D) [])); simp only [List.length_nil] at h1; omega),?_⟩
    have hmp:m≠p:=fun z=>by rw [z,hp6] at hm7; cases hm7
    have dN:N≠d:=fun z=>by rw [z,hd6] at hN6; cases hN6
    have old8:∀ b u,b≠p→b≠d→H6 b=some u→(upd H7 p (.ins t.C_Tent dx (tflds D N d m))) b=some u:=fun b u hb hbd e=>by rw [upd_ne hb]; exact old7 b u hbd e
    have old46:∀ b u,b≠p→H4 b=some u→H6 b=some u∧b≠d:=fun b u hb e=>⟨old6 b u hb e,fun z=>by rw [z,hd5] at e; cases e⟩
    have old28:∀ b u,b≠p→H2 b=some u→(upd H7 p (.ins t.C_Tent dx (tflds D N d m))) b=some u:=fun b u hb e=>by
      obtain ⟨e6,hbd⟩:=old46 b u hb (old4 b u hb e)
      exact old8 b u hb hbd e6
    refine k _ (fun b u hb e=>old28 b u hb (old2 b u hb e)) ⟨dx,D,N,d,m,o,f,upd_same,⟨ts,old28 _ _ hDp hD2,by omega,fun k q e=>?_⟩,?_,?_,?_,?_⟩
    · have e1:=ht2 k q e
      exact old28 q _ (fun z=>by rw [z,hp2] at e1; cases e1) e1
    · exact old8 _ _ hNp dN hN6
    · rw [upd_ne hdp]; exact hdd
    · rw [upd_ne hmp]; exact hmm
    · intro x hx
      have e1:=sf6.at' x hx
      exact old8 _ _ (hfp x hx) (fun z=>by rw [z,hd6] at e1; cases e1) e1
end
end KT
set_option maxHeartbeats 4000000
namespace KT
open PySem L2
noncomputable def sortOf (ns:List Int) (x:Int):Str:=match pl ns ns.length x with
 | [a,b]=>if a / 3=b / 3 then "locked" else "free"
 | _=>"rim"
noncomputable def sp_after:Sp:=fun vs H Q _=>∃ p:Int,vs=[.int p]∧Q (.int (after p)) H
noncomputable def sp_before:Sp:=fun vs H Q _=>∃ p:Int,vs=[.int p]∧Q (.int (before p)) H
noncomputable def sp_cloth_of:Sp:=fun vs H Q _=>∃ p:Int,vs=[.int p]∧Q (.int (p / 3)) H
noncomputable def sp_Tent_seams (C:Addr):Sp:=fun vs H Q _=>∃ (p:Addr) (M:List (Option Nat)) (ns:List Int),vs=[.ref p]∧TentAt C H p M ns∧ns.length < 64 ∧
 ∀ (l:Addr) (out:List Int),H l=none→out.Perm (keys ns ns.length)→out.Pairwise (·≤·)→Q (.ref l) (upd H l (.lst (out.map V.int)))
noncomputable def sp_Tent_has_place (C:Addr):Sp:=fun vs H Q _=>∃ (p:Addr) (M:List (Option Nat)) (ns:List Int) (x:Int),vs=[.ref p,.int x]∧TentAt C H p M ns∧Q (.bl (decide (0≤x∧x < ns.length))) H
noncomputable def sp_Tent_look_place (C EP:Addr):Sp:=fun vs H Q E=>∃ (p:Addr) (M:List (Option Nat)) (ns:List Int) (x:Int),vs=[.ref p,.int x]∧TentAt C H p M ns∧(0≤x∧x < ns.length→Q .non H)∧(¬ (0≤x∧x < ns.length)→E (.ref EP) none H)
noncomputable def sp_Tent_seam_at (C EP:Addr):Sp:=fun vs H Q E=>∃ (p:Addr) (M:List (Option Nat)) (ns:List Int) (x:Int),vs=[.ref p,.int x]∧TentAt C H p M ns∧(∀ (i:Nat) (y:Int),x=i→ns[i]?=some y→Q (.int y) H)∧(¬ (0≤x∧x < ns.length)→E (.ref EP) none H)
noncomputable def sp_Tent_mate (C EP:Addr):Sp:=fun vs H Q E=>∃ (p:Addr) (M:List (Option Nat)) (ns:List Int) (x:Int),vs=[.ref p,.int x]∧TentAt C H p M ns∧M.length=ns.length∧(∀ (i:Nat) (y:Option Nat),x=i→M[i]?=some y→Q (mV y) H)∧(¬ (0≤x∧x < ns.length)→E (.ref EP) none H)
noncomputable def sp_Tent_places (C ES:Addr):Sp:=fun vs H Q E=>∃ (p:Addr) (M:List (Option Nat)) (ns:List Int) (x:Int),vs=[.ref p,.int x]∧TentAt C H p M ns∧(x∈keys ns ns.length→∀ l,H l=none→Q (.ref l) (upd H l (.lst ((pl ns ns.length x).map nV))))∧(x ∉ keys ns ns.length→E (.ref ES) none H)
noncomputable def sp_Tent_sort_of (C ES:Addr):Sp:=fun vs H Q E=>∃ (p:Addr) (M:List (Option Nat)) (ns:List Int) (x:Int),vs=[.ref p,.int x]∧TentAt C H p M ns∧TD M ns∧(x∈keys ns ns.length→∀ H',Same H H'→Q (.str (sortOf ns x)) H')∧(x ∉ keys ns ns.length→E (.ref ES) none H)
section
variable {P:Program} {w:World} {K:PySem.W.Frag} {mg:Str→Option Value} {base:Heap} {t:Adr}
theorem sc_after:FnScope ["place"] ["place"] (defScope s_after):=⟨rfl,rfl,rfl,by decide +kernel,rfl,by decide +kernel,by decide +kernel⟩
theorem ok_after (T:Txt w K mg t):FnOk P w K mg base (CXr P w) 1 t.f_after t.d_after ["place"] sp_after:=by
 refine T.p_after.F.okR sc_after (fun vs H Q E h=>?_) (fun cdv A outer s H vs Q E hr h=>?_)
 ·obtain ⟨p,rfl,_⟩:=h
  rfl
 ·obtain ⟨p,rfl,k⟩:=h
  refine ⟨_,(pss_one (ps_ret (pe_ifExp (pt_cmpR op_eq (pe_op op_mod (pv 0) pe_int) pe_int (nomark _)) (pe_op op_sub (pv 0) pe_int) (pe_op op_add (pv 0) pe_int)))),?_⟩
  refine ⟨_,rfl,_,_,rfl,rfl,(by show (0:Int) < 3; decide),rfl,_,rfl,?_⟩
  refine ite2 (fun h=>?_) (fun h=>?_)
  ·have h:p % 3=2:=by simpa using h
   refine ⟨_,rfl,_,_,rfl,rfl,?_⟩
   have e:after p=p - 2:=if_pos h
   rw [e] at k; exact k
  ·have h:¬ p % 3=2:=by simpa using h
   refine ⟨_,rfl,_,_,rfl,rfl,?_⟩
   have e:after p=p + 1:=if_neg h
   rw [e] at k; exact k
theorem sc_before:FnScope ["place"] ["place"] (defScope s_before):=⟨rfl,rfl,rfl,by decide +kernel,rfl,by decide +kernel,by decide +kernel⟩
theorem ok_before (T:Txt w K mg t):FnOk P w K mg base (CXr P w) 1 t.f_before t.d_before ["place"] sp_before:=by
 refine T.p_before.F.okR sc_before (fun vs H Q E h=>?_) (fun cdv A outer s H vs Q E hr h=>?_)
 ·obtain ⟨p,rfl,_⟩:=h
  rfl
 ·obtain ⟨p,rfl,k⟩:=h
  refine ⟨_,(pss_one (ps_ret (pe_ifExp (pt_cmpR op_eq (pe_op op_mod (pv 0) pe_int) pe_int (nomark _)) (pe_op op_add (pv 0) pe_int) (pe_op op_sub (pv 0) pe_int)))),?_⟩
  refine ⟨_,rfl,_,_,rfl,rfl,(by show (0:Int) < 3; decide),rfl,_,rfl,?_⟩
  refine ite2 (fun h=>?_) (fun h=>?_)
  ·have h:p % 3=0:=by simpa using h
   refine ⟨_,rfl,_,_,rfl,rfl,?_⟩
   have e:before p=p + 2:=if_pos h
   rw [e] at k; exact k
  ·have h:¬ p % 3=0:=by simpa using h
   refine ⟨_,rfl,_,_,rfl,rfl,?_⟩
   have e:before p=p - 1:=if_neg h
   rw [e] at k; exact k
theorem sc_cloth_of:FnScope ["place"] ["place"] (defScope s_cloth_of):=⟨rfl,rfl,rfl,by decide +kernel,rfl,by decide +kernel,by decide +kernel⟩
theorem ok_cloth_of (T:Txt w K mg t):FnOk P w K mg base (CXr P w) 1 t.f_cloth_of t.d_cloth_of ["place"] sp_cloth_of:=by
 refine T.p_cloth_of.F.okR sc_cloth_of (fun vs H Q E h=>?_) (fun cdv A outer s H vs Q E hr h=>?_)
 ·obtain ⟨p,rfl,_⟩:=h
  rfl
 ·obtain ⟨p,rfl,k⟩:=h
  refine ⟨_,(pss_one (ps_ret (pe_op op_fdiv (pv 0) pe_int))),?_⟩
  exact ⟨_,rfl,_,_,rfl,rfl,⟨by decide,by decide⟩,k⟩
theorem sc_Tent_seams:FnScope ["self"] ["self"] (defScope s_Tent_seams):=⟨rfl,rfl,rfl,by decide +kernel,rfl,by decide +kernel,by decide +kernel⟩
theorem ok_Tent_seams (T:Txt w K mg t):FnOk P w K mg base (CXr P w) 1 t.f_Tent_seams t.d_Tent_seams ["self"] (sp_Tent_seams t.C_Tent):=by
 refine T.p_Tent_seams.F.okR sc_Tent_seams (fun vs H Q E h=>?_) (fun cdv A outer s H vs Q E hr h=>?_)
 ·obtain ⟨p,M,ns,rfl,_⟩:=h
  rfl
 ·obtain ⟨p,M,ns,rfl,⟨dx,cl,na,sp,mt,o,f,b⟩,h64,k⟩:=h
  refine ⟨_,(pss_one (ps_ret (pe_callB (call_sortedD rfl) (by rfl) T.n_sorted PyProof.Rows.boot_sorted (pa_cons (pe_fld (pv 0) rfl) pa_nil)))),?_⟩
  refine ⟨_,rfl,p,_,dx,_,_,rfl,b.ins,T.cl_Tent,T.a_Tent_spots,fl_spots ..,sp,_,keys ns ns.length,rfl,.inr ⟨o,b.spots⟩,?_,by have:=keys_len ns ns.length; omega,k⟩
  unfold spk; rw [List.map_map]; rfl
theorem sc_Tent_has_place:FnScope ["self","place"] ["self","place"] (defScope s_Tent_has_place):=⟨rfl,rfl,rfl,by decide +kernel,rfl,by decide +kernel,by decide +kernel⟩
theorem ok_Tent_has_place (T:Txt w K mg t):FnOk P w K mg base (CXr P w) 1 t.f_Tent_has_place t.d_Tent_has_place ["self","place"] (sp_Tent_has_place t.C_Tent):=by
 refine T.p_Tent_has_place.F.okR sc_Tent_has_place (fun vs H Q E h=>?_) (fun cdv A outer s H vs Q E hr h=>?_)
 ·obtain ⟨p,M,ns,x,rfl,_⟩:=h
  rfl
 ·obtain ⟨p,M,ns,x,rfl,⟨dx,cl,na,sp,mt,o,f,b⟩,k⟩:=h
  refine ⟨_,(pss_one (ps_ret (pe_chain op_le op_lt pe_int (pv 1) (pe_callB call_len_seq (by rfl) T.n_len PySem.boot_len (pa_cons (pe_fld (pv 0) rfl) pa_nil))))),?_⟩
  refine ⟨_,rfl,_,_,rfl,rfl,_,rfl,?_⟩
  refine ite2 (fun h=>?_) (fun h=>?_)
  ·have h:0≤x:=of_decide_eq_true h
   refine ⟨_,rfl,p,_,dx,_,_,rfl,b.ins,T.cl_Tent,T.a_Tent_names_at,fl_names ..,na,_,rfl,.inl (SqL.of b.names),_,_,rfl,rfl,?_⟩
   have:decide (x < (((ns.map V.int).length:Nat):Int))=decide (0≤x∧x < (ns.length:Int)):=by rw [List.length_map]; simp [h]
   show Q (V.bl (decide (x < (((ns.map V.int).length:Nat):Int)))) H
   rw [this]; exact k
  ·have h:¬ 0≤x:=fun z=>h (decide_eq_true z)
   have:decide (0≤x∧x < (ns.length:Int))=false:=decide_eq_false fun z=>h z.1
   rw [this] at k; exact k
theorem sc_Tent_look_place:FnScope ["self","place"] ["self","place"] (defScope s_Tent_look_place):=⟨rfl,rfl,rfl,by decide +kernel,rfl,by decide +kernel,by decide +kernel⟩
theorem ok_Tent_look_place (T:Txt w K mg t):FnOk P w K mg base (CXr P w) 2 t.f_Tent_look_place t.d_Tent_look_place ["self","place"] (sp_Tent_look_place t.C_Tent t.E_NoPlace):=by
 refine T.p_Tent_look_place.F.okX sc_Tent_look_place (fun vs H Q E h=>?_) (fun cdv A outer s H vs Q E hr h=>?_)
 ·obtain ⟨p,M,ns,x,rfl,_⟩:=h
  rfl
 ·obtain ⟨p,M,ns,x,rfl,ta,k1,k2⟩:=h
  obtain ⟨dx,cl,na,sp,mt,o,f,b⟩:=id ta
  refine ⟨_,(pssx_one (psx_if (pt_not (pt_val (pe_meth (pv 0) T.cl_Tent T.p_Tent_has_place.m (ok_Tent_has_place T) (hr.mono (by decide)) T.p_Tent_has_place.b .nil passR (pa_cons (pv 1) pa_nil)))) (pssx_one (psx_raise T.x_NoPlace FBV rfl T.gx_NoPlace rfl (pa_cons pe_str pa_nil))) pssx_nil)),?_⟩
  refine ⟨_,rfl,p,dx,_,rfl,b.ins,fl_none _ _ _ _,_,rfl,p,M,ns,x,rfl,ta,_,rfl,?_⟩
  by_cases c:0≤x∧x < (ns.length:Int)
  ·rw [decide_eq_true c]
   exact iteF (k1 c)
  ·rw [decide_eq_false c]
   exact iteT ⟨by decide,k2 c⟩
theorem sc_Tent_seam_at:FnScope ["self","place"] ["self","place"] (defScope s_Tent_seam_at):=⟨rfl,rfl,rfl,by decide +kernel,rfl,by decide +kernel,by decide +kernel⟩
theorem ok_Tent_seam_at (T:Txt w K mg t):FnOk P w K mg base (CXr P w) 3 t.f_Tent_seam_at t.d_Tent_seam_at ["self","place"] (sp_Tent_seam_at t.C_Tent t.E_NoPlace):=by
 refine T.p_Tent_seam_at.F.okX sc_Tent_seam_at (fun vs H Q E h=>?_) (fun cdv A outer s H vs Q E hr h=>?_)
 ·obtain ⟨p,M,ns,x,rfl,_⟩:=h
  rfl
 ·obtain ⟨p,M,ns,x,rfl,ta,k1,k2⟩:=h
  obtain ⟨dx,cl,na,sp,mt,o,f,b⟩:=id ta
  refine ⟨_,(pssx_cons (psx_expr (pex_meth (pv 0) T.cl_Tent T.p_Tent_look_place.m (ok_Tent_look_place T) (hr.mono (by decide)) T.p_Tent_look_place.b .nil (pa_cons (pv 1) pa_nil)))
   (pssx_one (psx_of (ps_ret (pe_ix ix_list (pe_fld (pv 0) rfl) (pv 1) (fun _ _=>rfl)))))),?_⟩
  refine ⟨_,rfl,p,dx,_,rfl,b.ins,fl_none _ _ _ _,_,rfl,p,M,ns,x,rfl,ta,fun c=>?_,k2⟩
  have hi:x.toNat < ns.length:=by omega
  obtain ⟨y,hy⟩:∃ y,ns[x.toNat]?=some y:=⟨_,List.getElem?_eq_getElem hi⟩
  have ex:x=(x.toNat:Int):=by omega
  refine ⟨_,rfl,p,_,dx,_,_,rfl,b.ins,T.cl_Tent,T.a_Tent_names_at,fl_names ..,_,rfl,na,_,_,_,rfl,rfl,SqL.of b.names,(by rw [ex]; exact map_at hy),k1 _ _ ex hy⟩
theorem sc_Tent_mate:FnScope ["self","place"] ["self","place"] (defScope s_Tent_mate):=⟨rfl,rfl,rfl,by decide +kernel,rfl,by decide +kernel,by decide +kernel⟩
theorem ok_Tent_mate (T:Txt w K mg t):FnOk P w K mg base (CXr P w) 3 t.f_Tent_mate t.d_Tent_mate ["self","place"] (sp_Tent_mate t.C_Tent t.E_NoPlace):=by
 refine T.p_Tent_mate.F.okX sc_Tent_mate (fun vs H Q E h=>?_) (fun cdv A outer s H vs Q E hr h=>?_)
 ·obtain ⟨p,M,ns,x,rfl,_⟩:=h
  rfl
 ·obtain ⟨p,M,ns,x,rfl,ta,hlen,k1,k2⟩:=h
  obtain ⟨dx,cl,na,sp,mt,o,f,b⟩:=id ta
  refine ⟨_,(pssx_cons (psx_expr (pex_meth (pv 0) T.cl_Tent T.p_Tent_look_place.m (ok_Tent_look_place T) (hr.mono (by decide)) T.p_Tent_look_place.b .nil (pa_cons (pv 1) pa_nil)))
   (pssx_one (psx_of (ps_ret (pe_ix ix_list (pe_fld (pv 0) rfl) (pv 1) (fun _ _=>rfl)))))),?_⟩
  refine ⟨_,rfl,p,dx,_,rfl,b.ins,fl_none _ _ _ _,_,rfl,p,M,ns,x,rfl,ta,fun c=>?_,k2⟩
  have hi:x.toNat < M.length:=by omega
  obtain ⟨y,hy⟩:∃ y,M[x.toNat]?=some y:=⟨_,List.getElem?_eq_getElem hi⟩
  have ex:x=(x.toNat:Int):=by omega
  refine ⟨_,rfl,p,_,dx,_,_,rfl,b.ins,T.cl_Tent,T.a_Tent_mates,fl_mates ..,_,rfl,mt,_,_,_,rfl,rfl,SqL.of b.mates,(by rw [ex]; exact map_at hy),k1 _ _ ex hy⟩
theorem sc_Tent_places:FnScope ["self","seam"] ["self","seam"] (defScope s_Tent_places):=⟨rfl,rfl,rfl,by decide +kernel,rfl,by decide +kernel,by decide +kernel⟩
theorem ok_Tent_places (T:Txt w K mg t):FnOk P w K mg base (CXr P w) 1 t.f_Tent_places t.d_Tent_places ["self","seam"] (sp_Tent_places t.C_Tent t.E_NoSeam):=by
 refine T.p_Tent_places.F.okX sc_Tent_places (fun vs H Q E h=>?_) (fun cdv A outer s H vs Q E hr h=>?_)
 ·obtain ⟨p,M,ns,x,rfl,_⟩:=h
  rfl
 ·obtain ⟨p,M,ns,x,rfl,ta,k1,k2⟩:=h
  obtain ⟨dx,cl,na,sp,mt,o,f,b⟩:=id ta
  have hu:=hu_of hr
  refine ⟨_,(pssx_cons (psx_if (pt_cmp (pc_dnotin hu (pv 1) (pe_fld (pv 0) rfl)) (by with_unfolding_all rfl)) (pssx_one (psx_raise T.x_NoSeam FBV rfl T.gx_NoSeam rfl (pa_cons pe_str pa_nil))) pssx_nil)
   (pssx_one (psx_of (ps_ret (pe_callTy call_list_of (by rfl) T.n_list PySem.Pv.boot_list (pa_cons (pe_dget hu (pe_fld (pv 0) rfl) (pv 1) (fun _ _=>rfl)) pa_nil)))))),?_⟩
  have hg:DGet H sp (.int x) (if x∈keys ns ns.length then some (V.ref (f x)) else none):=.inl ⟨_,Sum.inl x,.inr ⟨o,b.spots⟩,rfl,by unfold spk; rw [val_map]⟩
  refine ⟨_,rfl,_,rfl,p,_,dx,_,_,rfl,b.ins,T.cl_Tent,T.a_Tent_spots,fl_spots ..,sp,_,rfl,hg,_,rfl,?_⟩
  by_cases c:x∈keys ns ns.length
  ·rw [if_pos c] at hg ⊢
   refine iteF ?_
   exact ⟨_,rfl,p,_,dx,_,_,rfl,b.ins,T.cl_Tent,T.a_Tent_spots,fl_spots ..,_,rfl,sp,_,rfl,hg,f x,_,rfl,.inl (SqL.of (b.at' x c)),k1 c⟩
  ·rw [if_neg c] at hg ⊢
   exact iteT ⟨by decide,k2 c⟩
theorem sc_Tent_sort_of:FnScope ["self","seam","spots"] ["self","seam"] (defScope s_Tent_sort_of):=⟨rfl,rfl,rfl,by decide +kernel,rfl,by decide +kernel,by decide +kernel⟩
theorem ok_Tent_sort_of (T:Txt w K mg t):FnOk P w K mg base (CXr P w) 2 t.f_Tent_sort_of t.d_Tent_sort_of ["self","seam"] (sp_Tent_sort_of t.C_Tent t.E_NoSeam):=by
 refine T.p_Tent_sort_of.F.okX sc_Tent_sort_of (fun vs H Q E h=>?_) (fun cdv A outer s H vs Q E hr h=>?_)
 ·obtain ⟨p,M,ns,x,rfl,_⟩:=h
  rfl
 ·obtain ⟨p,M,ns,x,rfl,ta,td,k1,k2⟩:=h
  obtain ⟨dx,cl,na,sp,mt,o,f,b⟩:=id ta
  refine ⟨_,(pssx_cons (psx_set (i:=2) sc_Tent_sort_of.nd rfl (Or.inl rfl) (pex_meth (pv 0) T.cl_Tent T.p_Tent_places.m (ok_Tent_places T) (hr.mono (by decide)) T.p_Tent_places.b .nil (pa_cons (pv 1) pa_nil)))
   (pssx_cons (psx_of (ps_if (pt_cmpR op_eq (pe_callB call_len_seq (by rfl) T.n_len PySem.boot_len (pa_cons (pv 2) pa_nil)) pe_int (nomark _)) (pss_one (ps_ret pe_str)) pss_nil))
   (pssx_cons (psx_of (ps_if (pt_cmpR op_eq (pe_call (ok_cloth_of T) (hr.mono (by decide)) rfl T.p_cloth_of.g T.p_cloth_of.F.kp T.p_cloth_of.b .nil passR (pa_cons (pe_ix ix_list (pv 2) pe_int (fun _ _=>rfl)) pa_nil)) (pe_call (ok_cloth_of T) (hr.mono (by decide)) rfl T.p_cloth_of.g T.p_cloth_of.F.kp T.p_cloth_of.b .nil passR (pa_cons (pe_ix ix_list (pv 2) pe_int (fun _ _=>rfl)) pa_nil)) (nomark _)) (pss_one (ps_ret pe_str)) pss_nil))
   (pssx_one (psx_of (ps_ret pe_str)))))),?_⟩
  refine ⟨_,rfl,p,dx,_,rfl,b.ins,fl_none _ _ _ _,_,rfl,p,M,ns,x,rfl,ta,fun c l hl=>?_,k2⟩
  have k1':=k1 c _ (Same.new (o:=.lst ((pl ns ns.length x).map nV)) hl)
  refine ⟨_,rfl,l,_,rfl,.inl (SqL.of upd_same),rfl,_,rfl,?_⟩
  rcases pl_cases td c with ⟨a,e,_⟩ | ⟨a,b',hab,e,_⟩
  ·rw [e] at k1' ⊢
   refine iteT ?_
   have:sortOf ns x="rim":=by unfold sortOf; rw [e]
   rw [this] at k1'
   exact k1'
  ·rw [e] at k1' ⊢
   refine iteF ?_
   refine ⟨_,rfl,l,_,_,_,rfl,rfl,SqL.of upd_same,rfl,_,rfl,_,rfl,l,_,_,_,rfl,rfl,SqL.of upd_same,rfl,_,rfl,rfl,_,rfl,?_⟩
   by_cases q:a / 3=b' / 3
   ·have:sortOf ns x="locked":=by unfold sortOf; rw [e]; exact if_pos q
    rw [this] at k1'
    rw [decide_eq_true (by congr 1; omega)]
    exact iteT k1'
   ·have:sortOf ns x="free":=by unfold sortOf; rw [e]; exact if_neg q
    rw [this] at k1'
    rw [decide_eq_false (fun z=>q (by injection z; omega))]
    exact iteF k1'
end
end KT
set_option maxHeartbeats 4000000
namespace KT
open PySem L2
noncomputable def sp_look_free (C ES ER EL:Addr):Sp:=fun vs H Q E=>∃ (p:Addr) (M:List (Option Nat)) (ns:List Int) (x:Int),vs=[.ref p,.int x]∧TentAt C H p M ns∧TD M ns ∧
 (x∈keys ns ns.length→∀ H',Same H H'→(sortOf ns x="rim"→E (.ref ER) none H')∧(sortOf ns x="locked"→E (.ref EL) none H')∧(sortOf ns x="free"→Q .non H'))∧(x ∉ keys ns ns.length→E (.ref ES) none H)
noncomputable def sqr (a b:Nat):List V:=[.int (after a),.int (before a),.int (after b),.int (before b)]
noncomputable def sp_square (C ES ER EL:Addr):Sp:=fun vs H Q E=>∃ (p:Addr) (M:List (Option Nat)) (ns:List Int) (x:Int),vs=[.ref p,.int x]∧TentAt C H p M ns∧TD M ns ∧
 (x∈keys ns ns.length→∀ H',Same H H'→(sortOf ns x="rim"→E (.ref ER) none H')∧(sortOf ns x="locked"→E (.ref EL) none H')∧(∀ a b l,pl ns ns.length x=[a,b]→a < b→M[a]?=some (some b)→a / 3≠b / 3→H l=none→H' l=some (.tup (sqr a b))→Q (.ref l) H'))∧(x ∉ keys ns ns.length→E (.ref ES) none H)
theorem sort_cases {M:List (Option Nat)} {ns:List Int} (td:TD M ns) {x:Int} (hx:x∈keys ns ns.length) :
  (sortOf ns x="rim"∧∃ a,pl ns ns.length x=[a]∧M[a]?=some none)∨(sortOf ns x="locked"∧∃ a b,a < b∧pl ns ns.length x=[a,b]∧M[a]?=some (some b)∧a / 3=b / 3)∨(sortOf ns x="free"∧∃ a b,a < b∧pl ns ns.length x=[a,b]∧M[a]?=some (some b)∧a / 3≠b / 3):=by
 rcases pl_cases td hx with ⟨a,e,_,ma⟩ | ⟨a,b,hab,e,_,_,ma,_⟩
 ·exact .inl ⟨by unfold sortOf; rw [e],a,e,ma⟩
 ·by_cases c:a / 3=b / 3
  ·exact .inr (.inl ⟨by unfold sortOf; rw [e]; exact if_pos c,a,b,hab,e,ma,c⟩)
  ·exact .inr (.inr ⟨by unfold sortOf; rw [e]; exact if_neg c,a,b,hab,e,ma,c⟩)
theorem t_rf:¬ (("rim":Str))="free":=by decide
theorem t_lf:¬ (("locked":Str))="free":=by decide
theorem t_lr:¬ (("locked":Str))="rim":=by decide
theorem t_fr:¬ (("free":Str))="rim":=by decide
theorem t_fl:¬ (("free":Str))="locked":=by decide
theorem str_ne {x y:Str} (h:¬ x=y):decide (V.str x=V.str y)=false:=decide_eq_false fun z=>h (by injection z)
theorem str_eq {x:Str}:decide (V.str x=V.str x)=true:=decide_eq_true rfl
section
variable {P:Program} {w:World} {K:PySem.W.Frag} {mg:Str→Option Value} {base:Heap} {t:Adr}
theorem sc_look_free:FnScope ["tent","seam","sort"] ["tent","seam"] (defScope s_look_free):=⟨rfl,rfl,rfl,by decide +kernel,rfl,by decide +kernel,by decide +kernel⟩
theorem ok_look_free (T:Txt w K mg t):FnOk P w K mg base (CXr P w) 3 t.f_look_free t.d_look_free ["tent","seam"] (sp_look_free t.C_Tent t.E_NoSeam t.E_Rim t.E_Locked):=by
 refine T.p_look_free.F.okX sc_look_free (fun vs H Q E h=>?_) (fun cdv A outer s H vs Q E hr h=>?_)
 ·obtain ⟨p,M,ns,x,rfl,_⟩:=h
  rfl
 ·obtain ⟨p,M,ns,x,rfl,ta,td,k1,k2⟩:=h
  obtain ⟨dx,cl,na,sp,mt,o,f,b⟩:=id ta
  refine ⟨_,(pssx_cons (psx_set (i:=2) sc_look_free.nd rfl (Or.inl rfl) (pex_meth (pv 0) T.cl_Tent T.p_Tent_sort_of.m (ok_Tent_sort_of T) (hr.mono (by decide)) T.p_Tent_sort_of.b .nil (pa_cons (pv 1) pa_nil)))
   (pssx_cons (psx_if (pt_cmpR op_eq (pv 2) pe_str (nomark _)) (pssx_one (psx_raise T.x_Rim FBV rfl T.gx_Rim rfl (pa_cons pe_str pa_nil))) pssx_nil)
   (pssx_one (psx_if (pt_cmpR op_eq (pv 2) pe_str (nomark _)) (pssx_one (psx_raise T.x_Locked FBV rfl T.gx_Locked rfl (pa_cons pe_str pa_nil))) pssx_nil)))),?_⟩
  refine ⟨_,rfl,p,dx,_,rfl,b.ins,fl_none _ _ _ _,_,rfl,p,M,ns,x,rfl,ta,td,fun c H' sm=>?_,k2⟩
  obtain ⟨j1,j2,j3⟩:=k1 c H' sm
  refine ⟨_,rfl,rfl,_,rfl,?_⟩
  rcases sort_cases td c with ⟨e,_⟩ | ⟨e,_⟩ | ⟨e,_⟩
  ·rw [e,str_eq]
   exact iteT ⟨by decide,j1 e⟩
  ·rw [e,str_ne t_lr]
   refine iteF ⟨_,rfl,rfl,_,rfl,?_⟩
   rw [str_eq]
   exact iteT ⟨by decide,j2 e⟩
  ·rw [e,str_ne t_fr]
   refine iteF ⟨_,rfl,rfl,_,rfl,?_⟩
   rw [str_ne t_fl]
   exact iteF (j3 e)
theorem sc_square:FnScope ["tent","seam","lesser","greater"] ["tent","seam"] (defScope s_square):=⟨rfl,rfl,rfl,by decide +kernel,rfl,by decide +kernel,by decide +kernel⟩
theorem ok_square (T:Txt w K mg t):FnOk P w K mg base (CXr P w) 4 t.f_square t.d_square ["tent","seam"] (sp_square t.C_Tent t.E_NoSeam t.E_Rim t.E_Locked):=by
 refine T.p_square.F.okX sc_square (fun vs H Q E h=>?_) (fun cdv A outer s H vs Q E hr h=>?_)
 ·obtain ⟨p,M,ns,x,rfl,_⟩:=h
  rfl
 ·obtain ⟨p,M,ns,x,rfl,ta,td,k1,k2⟩:=h
  refine ⟨_,(pssx_cons (psx_expr (pex_call (ok_look_free T) (hr.mono (by decide)) rfl T.p_look_free.g T.p_look_free.F.kp T.p_look_free.b .nil (pa_cons (pv 0) (pa_cons (pv 1) pa_nil))))
   (pssx_cons (psx_of (ps_asg (pe_meth (pv 0) T.cl_Tent T.p_Tent_places.m (ok_Tent_places T) (hr.mono (by decide)) T.p_Tent_places.b .nil passR (pa_cons (pv 1) pa_nil)) (pg_lst rfl (pgs_cons (pg_name (i:=2) sc_square.nd rfl (Or.inl rfl)) (pgs_cons (pg_name (i:=3) sc_square.nd rfl (Or.inl rfl)) pgs_nil)))))
   (pssx_one (psx_of (ps_ret (pe_tup (pa_cons (pe_call (ok_after T) (hr.mono (by decide)) rfl T.p_after.g T.p_after.F.kp T.p_after.b .nil passR (pa_cons (pv 2) pa_nil)) (pa_cons (pe_call (ok_before T) (hr.mono (by decide)) rfl T.p_before.g T.p_before.F.kp T.p_before.b .nil passR (pa_cons (pv 2) pa_nil)) (pa_cons (pe_call (ok_after T) (hr.mono (by decide)) rfl T.p_after.g T.p_after.F.kp T.p_after.b .nil passR (pa_cons (pv 3) pa_nil)) (pa_cons (pe_call (ok_before T) (hr.mono (by decide)) rfl T.p_before.g T.p_before.F.kp T.p_before.b .nil passR (pa_cons (pv 3) pa_nil)) pa_nil)))))))))),?_⟩
  refine ⟨_,rfl,_,rfl,p,M,ns,x,rfl,ta,td,fun c H' sm=>⟨(k1 c H' sm).1,(k1 c H' sm).2.1,fun e=>?_⟩,k2⟩
  obtain ⟨a,b,hab,ep,em,ne⟩:∃ a b,a < b∧pl ns ns.length x=[a,b]∧M[a]?=some (some b)∧a / 3≠b / 3:=by
   rcases sort_cases td c with ⟨e',_⟩ | ⟨e',_⟩ | ⟨e',q⟩
   ·exact absurd (e'.symm.trans e) t_rf
   ·exact absurd (e'.symm.trans e) t_lf
   ·exact q
  have ta':=ta.same sm
  obtain ⟨dx,cl,na,sp,mt,o,f,B⟩:=id ta'
  refine ⟨_,rfl,p,dx,_,rfl,B.ins,fl_none _ _ _ _,_,rfl,p,M,ns,x,rfl,ta',fun _ l hl=>?_,fun z=>absurd c z⟩
  rw [ep]
  refine ⟨l,_,rfl,SqL.of upd_same,rfl,_,_,rfl,_,_,rfl,rfl,?_⟩
  refine ⟨_,rfl,_,rfl,?_⟩
  refine ⟨_,rfl,_,rfl,?_⟩
  refine ⟨_,rfl,_,rfl,?_⟩
  refine ⟨_,rfl,_,rfl,?_⟩
  refine ⟨(by show 4≤sizeLine; decide),fun q hq=>?_⟩
  obtain ⟨hql,hq'⟩:=upd_none hq
  exact (k1 c _ (Same.add (Same.add sm (sm.free hl)) (sm.free hq'))).2.2 a b q ep hab em ne (sm.free hq') upd_same
end
end KT
set_option maxHeartbeats 4000000
namespace KT
open PySem L2
noncomputable def sp_seam:Sp:=fun vs H Q _=>∃ (r:Addr) (ns:List Int) (i:Nat) (x:Int),vs=[.ref r,.int i]∧RowsAt H r ns∧ns[i]?=some x∧Q (.int x) H
noncomputable def isFree (M:List (Option Nat)) (i:Nat):Bool:=match M[i]? with
 | some (some j)=>decide (i < j) && decide (i / 3≠j / 3)
 | _=>false
noncomputable def isLow (M:List (Option Nat)) (i:Nat):Bool:=match M[i]? with
 | some (some j)=>decide (i < j)
 | _=>false
noncomputable def lowL (M:List (Option Nat)) (n:Nat):List Nat:=(List.range n).filter (isLow M)
noncomputable def freeL (M:List (Option Nat)):List Nat:=(List.range M.length).filter (isFree M)
noncomputable def sp_free:Sp:=fun vs H Q _=>∃ (m:Addr) (M:List (Option Nat)),vs=[.ref m]∧H m=some (.lst (M.map mV))∧M.length≤1000∧(∀ (i j:Nat),M[i]?=some (some j)→M[j]?=some (some i)∧i≠j) ∧
 ∀ (l:Addr) (H':Hp),Same H H'→H l=none→H' l=some (.lst ((freeL M).map nV))→Q (.ref l) H'
theorem row_at {H:Hp} {r:Addr} {ns:List Int} {i:Nat} {x:Int} (h:RowsAt H r ns) (hx:ns[i]?=some x):∃ ts:List Addr,∃ q,H r=some (.lst (ts.map V.ref))∧ts[i / 3]?=some q∧H q=some (.tup (row3 ns (i / 3)))∧(row3 ns (i / 3))[i % 3]?=some (V.int x):=by
 obtain ⟨ts,h1,h2,h3⟩:=h
 have hi:i < ns.length:=(List.getElem?_eq_some_iff.mp hx).1
 have hk:i / 3 < ts.length:=by omega
 refine ⟨ts,ts[i / 3],h1,List.getElem?_eq_getElem hk,h3 _ _ (List.getElem?_eq_getElem hk),?_⟩
 have g:∀ j,ns[j]?=some x→ns.getD j 0=x:=fun j hj=>by rw [List.getD_eq_getElem?_getD,hj]; rfl
 have hm:i % 3=0∨i % 3=1∨i % 3=2:=by omega
 rcases hm with m | m | m
 ·have:3 * (i / 3)=i:=by omega
  rw [m]; show some (V.int (ns.getD (3 * (i / 3)) 0))=_; rw [this,g i hx]
 ·have:3 * (i / 3) + 1=i:=by omega
  rw [m]; show some (V.int (ns.getD (3 * (i / 3) + 1) 0))=_; rw [this,g i hx]
 ·have:3 * (i / 3) + 2=i:=by omega
  rw [m]; show some (V.int (ns.getD (3 * (i / 3) + 2) 0))=_; rw [this,g i hx]
theorem div3 (i:Nat):(i:Int) / 3=((i / 3:Nat):Int):=by omega
theorem mod3 (i:Nat):(i:Int) % 3=((i % 3:Nat):Int):=by omega
noncomputable def sp_law (K:PySem.W.Frag):Sp:=fun vs H Q _=>∃ (a:Addr) (ns:List Int),vs=[.ref a]∧SqL K H a (ns.map V.int)∧ns.length≤63∧∀ H',Q (.bl true) H'
theorem sp_law_start {K:PySem.W.Frag} {H:Hp} {a:Addr} {ns:List Int} (hl:ns.length≤63) (hS:SqL K H a (ns.map V.int)):sp_law K [.ref a] H (fun v _=>v=.bl true) fun _ _ _=>False:=⟨a,ns,rfl,hS,hl,fun _=>rfl⟩
theorem RowsAt.copy {H:Hp} {r l:Addr} {ns:List Int} {ts:List Addr} (h1:H r=some (.lst (ts.map V.ref))) (h2:ns.length=3 * ts.length) (h3:∀ (k:Nat) (t:Addr),ts[k]?=some t→H t=some (.tup (row3 ns k))) (hl:H l=none):RowsAt (upd H l (.lst (ts.map V.ref))) l ns :=
 ⟨ts,upd_same,h2,fun k q e=>by rw [upd_ne (ne_of_none (h3 k q e) hl)]; exact h3 k q e⟩
theorem free_mem {M:List (Option Nat)} {i:Nat} (h:i∈freeL M):∃ j,M[i]?=some (some j)∧i < j∧i / 3≠j / 3:=by
 have:=(List.mem_filter.mp h).2
 unfold isFree at this
 split at this
 ·rename_i j hj
  simp at this
  exact ⟨j,hj,this.1,this.2⟩
 ·cases this
theorem pl_two {M:List (Option Nat)} {ns:List Int} (td:TD M ns) {i j:Nat} {x:Int} (hm:M[i]?=some (some j)) (hij:i < j) (hx:ns[i]?=some x):x∈keys ns ns.length∧pl ns ns.length x=[i,j]:=by
 have hi:i < ns.length:=(List.getElem?_eq_some_iff.mp hx).1
 have hk:x∈keys ns ns.length:=keys_mem.mpr ⟨i,hi,hx⟩
 have mi:i∈pl ns ns.length x:=pl_mem.mpr ⟨hi,hx⟩
 refine ⟨hk,?_⟩
 rcases pl_cases td hk with ⟨a,e,_,ma⟩ | ⟨a,b,hab,e,_,_,ma,mb⟩
 ·rw [e,List.mem_singleton] at mi
  subst mi
  rw [hm] at ma; cases ma
 ·rw [e] at mi
  rcases List.mem_cons.mp mi with z | z
  ·subst z
   rw [hm] at ma
   cases ma
   exact e
  ·have z:i=b:=by simpa using z
   subst z
   rw [hm] at mb
   cases mb
   omega
theorem tent_new {H1:Hp} {r l x dx C:Addr} {ns:List Int} {ts:List Addr} (g1:H1 r=some (.lst (ts.map V.ref))) (g2:ns.length=3 * ts.length) (g3:∀ (k:Nat) (t:Addr),ts[k]?=some t→H1 t=some (.tup (row3 ns k)))
  (hl1:H1 l=none) (hx:upd H1 l (.lst (ts.map V.ref)) x=none) (hdx:upd H1 l (.lst (ts.map V.ref)) dx=none) :
  RowsAt (upd (upd (upd H1 l (.lst (ts.map V.ref))) dx (.own x)) x (.ins C dx [])) l ns∧Same (upd H1 l (.lst (ts.map V.ref))) (upd (upd (upd H1 l (.lst (ts.map V.ref))) dx (.own x)) x (.ins C dx [])):=by
 have s:Same (upd H1 l (.lst (ts.map V.ref))) (upd (upd (upd H1 l (.lst (ts.map V.ref))) dx (.own x)) x (.ins C dx [])):=Same.add (Same.new hdx) hx
 exact ⟨(RowsAt.copy g1 g2 g3 hl1).same s,s⟩
theorem sorted_eq {a b c:List Int} (h1:a.Perm c) (h2:b.Perm c) (s1:a.Pairwise (·≤·)) (s2:b.Pairwise (·≤·)):a=b :=
 (h1.trans h2.symm).eq_of_pairwise (fun x y _ _ h1 h2=>Int.le_antisymm h1 h2) s1 s2
section
variable {P:Program} {w:World} {K:PySem.W.Frag} {mg:Str→Option Value} {base:Heap} {t:Adr}
theorem sc_l_seam:FnScope ["_law_rows_here","_law_place"] ["_law_rows_here","_law_place"] (defScope s_l_seam):=⟨rfl,rfl,rfl,by decide +kernel,rfl,by decide +kernel,by decide +kernel⟩
theorem ok_l_seam (T:Txt w K mg t):FnOk P w K mg base (CXr P w) 1 t.f_l_seam t.d_l_seam ["_law_rows_here","_law_place"] sp_seam:=by
 refine T.p_l_seam.F.okR sc_l_seam (fun vs H Q E h=>?_) (fun cdv A outer s H vs Q E hr h=>?_)
 ·obtain ⟨r,ns,i,x,rfl,_⟩:=h
  rfl
 ·obtain ⟨r,ns,i,x,rfl,hr1,hx,k⟩:=h
  refine ⟨_,(pss_one (ps_ret (pe_ix ix_tup (pe_ix ix_list (pv 0) (pe_op op_fdiv (pv 1) pe_int) (fun _ _=>rfl)) (pe_op op_mod (pv 1) pe_int) (fun _ _=>rfl)))),?_⟩
  obtain ⟨ts,q,e1,e2,e3,e4⟩:=row_at hr1 hx
  refine ⟨_,rfl,_,rfl,_,_,rfl,rfl,⟨by decide,by decide⟩,r,_,_,_,rfl,rfl,SqL.of e1,(by rw [div3]; exact map_at e2),_,rfl,_,_,rfl,rfl,(by show (0:Int) < 3; decide),q,_,_,_,rfl,rfl,SqT.of e3,(by rw [mod3]; exact atI_nat e4),k⟩
theorem low_step (M:List (Option Nat)) (n:Nat):lowL M (n + 1)=if isLow M n=true then lowL M n ++ [n] else lowL M n:=by
 unfold lowL
 rw [List.range_succ,List.filter_append]
 by_cases c:isLow M n=true
 ·simp [c]
 ·simp [c]
theorem low_le (M:List (Option Nat)) (n:Nat):(lowL M n).length≤n:=by
 unfold lowL
 exact Nat.le_trans (List.length_filter_le _ _) (by simp)
theorem free_low (M:List (Option Nat)):(lowL M M.length).filter (isFree M)=freeL M:=by
 unfold lowL freeL
 rw [List.filter_filter]
 congr 1
 funext i
 unfold isFree isLow
 cases M[i]? with
 | none=>rfl
 | some o=>cases o with
  | none=>rfl
  | some j=>by_cases c:i < j <;> simp [c]
theorem fil_step {α:Type} {p:α→Bool} {l:List α} {i:Nat} {x:α} (h:l[i]?=some x):(l.take (i + 1)).filter p=if p x=true then (l.take i).filter p ++ [x] else (l.take i).filter p:=by
 rw [List.take_add_one,h,List.filter_append]
 by_cases c:p x=true
 ·simp [c]
 ·simp [c]
theorem sc_l_free:FnScope ["_law_mates","_law_row"] ["_law_mates"] (defScope s_l_free):=⟨rfl,rfl,rfl,by decide +kernel,rfl,by decide +kernel,by decide +kernel⟩
theorem ok_l_free (T:Txt w K mg t):FnOk P w K mg base (CXr P w) 1 t.f_l_free t.d_l_free ["_law_mates"] sp_free:=by
  refine T.p_l_free.F.okR sc_l_free (fun vs H Q E h=>?_) (fun cdv A outer s H vs Q E hr h=>?_)
  · obtain ⟨m,M,rfl,_⟩:=h
    rfl
  · obtain ⟨m,M,rfl,hm,hl,inv,k⟩:=h
    refine ⟨_,(pss_cons (ps_setCompG (ts:=["_law_p"]) (fv:=[("_law_mates",0)]) (i:=1) ⟨rfl,by decide +kernel,by decide +kernel,blkFree (by rfl),⟨⟨rfl,rfl,Or.inl rfl⟩,trivial⟩⟩ rfl sc_l_free.nd rfl rfl (by rfl) (pi_range1 rfl T.n_range (pa_cons (pe_callB call_len_seq (by rfl) T.n_len PySem.boot_len (pa_cons (pv 0) pa_nil)) pa_nil)) (fun _ _ _ _=>(pg_name (i:=0) (show List.Nodup (["_law_p","_law_mates"]:List Str) from by decide +kernel) rfl (Or.inl rfl) (Or.inr rfl))) (fun _ _ _ _=>(pts_one (PW.pt (pw_and (pt_cmpR op_notN (pe_ix (ix_listK K) (pv 1) (pv 0) (fun _ _=>rfl)) pe_non (nomark _)) (pw_and1 (pt_cmpR op_lt (pv 0) (pe_ix (ix_listK K) (pv 1) (pv 0) (fun _ _=>rfl)) (nomark _))))))) (fun _ _ _=>rfl) (fun _ _ _ _ _ _=>pb_emit (pv 0)))
      (pss_one (ps_ret (pe_compG (ts:=["_law_p"]) (fv:=[("_law_mates",0)]) ⟨rfl,by decide +kernel,by decide +kernel,blkFree (by rfl),⟨⟨rfl,rfl,Or.inl rfl⟩,trivial⟩⟩ rfl (pi_list (pv 1)) (fun _ _ _ _=>(pg_name (i:=0) (show List.Nodup (["_law_p","_law_mates"]:List Str) from by decide +kernel) rfl (Or.inl rfl) (Or.inr rfl))) (fun _ _ _ _=>(pts_one (pt_cmpR op_ne (pe_op op_fdiv (pv 0) pe_int) (pe_op op_fdiv (pe_ix (ix_listK K) (pv 1) (pv 0) (fun _ _=>rfl)) pe_int) (nomark _)))) (fun _ _ _=>rfl) (fun _ _ _ _ _ _=>pb_emit (pv 0)))))),?_⟩
    refine ⟨_,rfl,m,_,rfl,.inl (SqL.of hm),_,rfl,by omega,by rw [List.length_map]; omega,fun D hD=>?_⟩
    have eL:(((M.map mV).length:Nat):Int).toNat=M.length:=by simp
    rw [eL]
    refine loop_range (fun i σ H1=>∃ v,σ=[v,some (.ref m)]∧Same H H1∧H1 D=some (.lst ((lowL M i).map nV))) ⟨none,rfl,Same.new hD,upd_same⟩ ?_ ?_
    · rintro i σ H1 hlt ⟨v,rfl,sm,h1⟩
      have e0:(0 + (i:Int))=(i:Int):=Int.zero_add _
      dsimp only [gName]
      rw [e0]
      obtain ⟨y,hy⟩:∃ y,M[i]?=some y:=⟨_,List.getElem?_eq_getElem hlt⟩
      have at':=map_at (f:=mV) hy
      have lt:((lowL M i).map nV).length < sizeLine:=by rw [List.length_map]; exact small1000 (by have:=low_le M i; omega)
      refine ⟨_,rfl,_,rfl,m,_,_,_,rfl,rfl,SqL.of (sm _ _ hm),at',rfl,_,rfl,?_⟩
      cases y with
      | none =>
        refine iteF (iteF ⟨_,rfl,sm,?_⟩)
        rw [h1,low_step,if_neg (by unfold isLow; rw [hy]; simp)]
      | some j =>
        refine iteT ⟨_,rfl,_,rfl,_,rfl,m,_,_,_,rfl,rfl,SqL.of (sm _ _ hm),at',_,_,rfl,rfl,_,rfl,?_⟩
        by_cases c:i < j
        · rw [decide_eq_true (by omega:(i:Int) < (j:Int))]
          refine iteT ⟨_,rfl,_,h1,lt,_,rfl,Same.add sm hD,?_⟩
          rw [upd_same,low_step,if_pos (by unfold isLow; rw [hy]; simp [c]),List.map_append]
          rfl
        · rw [decide_eq_false (by omega:¬ (i:Int) < (j:Int))]
          refine iteF ⟨_,rfl,sm,?_⟩
          rw [h1,low_step,if_neg (by unfold isLow; rw [hy]; simp [c])]
    rintro σ H1 ⟨v,rfl,sm,h1⟩
    refine ⟨_,rfl,D,rfl,⟨_,SqL.of h1⟩,fun D2 hD2=>?_⟩
    have hD20:H D2=none:=sm.free hD2
    refine loop_list (xs:=(lowL M M.length).map nV) (fun i σ H2=>∃ v,σ=[v,some (.ref m)]∧Same H1 H2∧H2 D2=some (.lst ((((lowL M M.length).take i).filter (isFree M)).map nV))) ⟨none,rfl,Same.new hD2,upd_same⟩ ?_ ?_ ?_
    · rintro i σ H2 _ ⟨v,rfl,sm2,h2⟩
      exact SqL.of (sm2 _ _ h1)
    · rintro i x σ H2 hx ⟨v,rfl,sm2,h2⟩
      obtain ⟨p,hp,rfl⟩:=map_some hx
      have hpm:p∈lowL M M.length:=List.mem_of_getElem? hp
      obtain ⟨j,hj,hpj⟩:∃ j,M[p]?=some (some j)∧p < j:=by
        have:=(List.mem_filter.mp hpm).2
        unfold isLow at this
        split at this
        · rename_i j hj; exact ⟨j,hj,of_decide_eq_true this⟩
        · cases this
      have lt:((((lowL M M.length).take i).filter (isFree M)).map nV).length < sizeLine:=by
        rw [List.length_map]
        exact small1000 (by
          have h1:=List.length_filter_le (isFree M) ((lowL M M.length).take i)
          have h2:=List.length_take_le i (lowL M M.length)
          have h3:=List.length_take_le' i (lowL M M.length)
          have h4:=low_le M M.length
          omega)
      dsimp only [gName]
      refine ⟨_,rfl,_,_,rfl,rfl,⟨by decide,by decide⟩,_,rfl,_,rfl,m,_,_,_,rfl,rfl,SqL.of (sm2 _ _ (sm _ _ hm)),map_at hj,_,_,rfl,rfl,⟨by decide,by decide⟩,rfl,_,rfl,?_⟩
      by_cases c:p / 3=j / 3
      · rw [show (!decide (V.int ((p:Int) / 3)=V.int ((j:Int) / 3)))=false by
          rw [show (p:Int) / 3=(j:Int) / 3 by omega]; simp]
        refine iteF ⟨_,rfl,sm2,?_⟩
        rw [h2,fil_step hp,if_neg (by unfold isFree; rw [hj]; simp [c])]
      · rw [show (!decide (V.int ((p:Int) / 3)=V.int ((j:Int) / 3)))=true by
          rw [decide_eq_false (fun z=>c (by injection z; omega))]; rfl]
        refine iteT ⟨_,rfl,_,h2,lt,_,rfl,Same.add sm2 hD2,?_⟩
        rw [upd_same,fil_step hp,if_pos (by unfold isFree; rw [hj]; simp [c,hpj]),List.map_append]
        rfl
    rintro σ H2 ⟨v,rfl,sm2,h2⟩
    rw [List.length_map,List.take_length,free_low] at h2
    exact k D2 H2 (sm.trans sm2) hD20 h2
end
end KT
set_option maxHeartbeats 4000000
namespace KT
open PySem L2
theorem len_word {ws:List Int}:(((ws.map V.int).length:Nat):Int)=ws.length:=by rw [List.length_map]
theorem cut_tail (x0:Int) (xr:List Int):cutV ((x0 :: xr).map V.int) (some 1) none=xr.map V.int:=by
 unfold cutV
 have e1:HT.sIx ((x0 :: xr).map V.int).length 0 (some ((1:Nat):Int))=1:=by
  rw [HT.sIx_nat,List.length_map,List.length_cons]
  omega
 rw [show (some (1:Int))=some ((1:Nat):Int) from rfl,e1,HT.sIx_none,List.map_cons,List.drop_succ_cons,List.drop_zero,List.length_cons,Nat.add_sub_cancel,List.take_length]
theorem flt_step {α:Type} {p:α→Bool} {l:List α} {i:Nat} {x:α} (h:l[i]?=some x):(l.take (i + 1)).filter p=if p x=true then (l.take i).filter p ++ [x] else (l.take i).filter p:=by
 rw [List.take_add_one,h,List.filter_append]
 by_cases c:p x=true
 ·simp [c]
 ·simp [c]
noncomputable def sp_walk:Sp:=fun vs H Q _=>∃ (m a:Addr) (M:List (Option Nat)) (xs:List Int),vs=[.ref m,.ref a]∧H m=some (.lst (M.map mV))∧H a=some (.lst (xs.map V.int))∧xs≠[]∧xs.length≤60∧(∀ x∈xs,0≤x∧x < 1009)∧M.length≤42∧(∃ n,M.length=3 * n)∧(∀ (i j:Nat),M[i]?=some (some j)→M[j]?=some (some i)∧i≠j) ∧
 ∀ (l:Addr) (ws:List Nat) (H':Hp),Same H H'→H l=none→H' l=some (.lst (ws.map nV))→ws.length≤60→(ws=[]∨Pl M ws)→Q (.ref l) H'
noncomputable def sp_thread (K:PySem.W.Frag):Sp:=fun vs H Q _=>∃ (a m:Addr) (sc:List Int) (i:Int) (M:List (Option Nat)),vs=[.ref a,.int i,.ref m]∧SqL K H a (sc.map V.int)∧sc.length≤63∧0≤i∧i < 1000∧H m=some (.lst (M.map mV))∧M.length≤42∧(∃ n,M.length=3 * n)∧(∀ (i j:Nat),M[i]?=some (some j)→M[j]?=some (some i)∧i≠j) ∧
 ∀ (l:Addr) (ws:List Nat) (H':Hp),Same H H'→H l=none→H' l=some (.lst (ws.map nV))→ws.length≤60→(ws=[]∨Pl M ws)→Q (.ref l) H'
noncomputable def hasM (M:List (Option Nat)) (i:Nat):Bool:=match M[i]? with
 | some (some _)=>true
 | _=>false
theorem hasM_iff {M:List (Option Nat)} {i:Nat}:hasM M i=true ↔ ∃ j,M[i]?=some (some j):=by
 unfold hasM
 split
 ·rename_i j h; exact ⟨fun _=>⟨j,h⟩,fun _=>rfl⟩
 ·rename_i h; exact ⟨fun z=>absurd z (by decide),fun ⟨j,e⟩=>absurd e (h j)⟩
section
variable {P:Program} {w:World} {K:PySem.W.Frag} {mg:Str→Option Value} {base:Heap} {t:Adr}
theorem sc_l_walk:FnScope ["_law_mates","_law_nums","_law_spots","_law_row","_law_pick","_law_side","_law_ways","_law_start","_law_stop"] ["_law_mates","_law_nums"] (defScope s_l_walk):=⟨rfl,rfl,rfl,by decide +kernel,rfl,by decide +kernel,by decide +kernel⟩
theorem ok_l_walk (T:Txt w K mg t):FnOk P w K mg base (CXr P w) 1 t.f_l_walk t.d_l_walk ["_law_mates","_law_nums"] sp_walk:=by
  refine T.p_l_walk.F.okR sc_l_walk (fun vs H Q E h=>?_) (fun cdv A outer s H vs Q E hr h=>?_)
  · obtain ⟨m,a,M,xs,rfl,_⟩:=h
    rfl
  · obtain ⟨m,a,M,xs,rfl,hm,ha,hx0,hx60,hx,h42,⟨n,hn⟩,inv,k⟩:=h
    refine ⟨_,(pss_cons (ps_setCompG (ts:=["_law_p"]) (fv:=[("_law_mates",0)]) (i:=2) ⟨rfl,by decide +kernel,by decide +kernel,blkFree (by rfl),⟨⟨rfl,rfl,Or.inl rfl⟩,trivial⟩⟩ rfl sc_l_walk.nd rfl rfl (by rfl) (pi_range1 rfl T.n_range (pa_cons (pe_callB call_len_seq (by rfl) T.n_len PySem.boot_len (pa_cons (pv 0) pa_nil)) pa_nil)) (fun _ _ _ _=>(pg_name (i:=0) (show List.Nodup (["_law_p","_law_mates"]:List Str) from by decide +kernel) rfl (Or.inl rfl) (Or.inr rfl))) (fun _ _ _ _=>(pts_one (pt_cmpR op_notN (pe_ix (ix_listK K) (pv 1) (pv 0) (fun _ _=>rfl)) pe_non (nomark _)))) (fun _ _ _=>rfl) (fun _ _ _ _ _ _=>pb_emit (pv 0)))
      (pss_cons (ps_if (pt_cmpR op_eq (pe_callB call_len_seq (by rfl) T.n_len PySem.boot_len (pa_cons (pv 2) pa_nil)) pe_int (nomark _)) (pss_one (ps_ret (pe_lst pa_nil))) pss_nil)
      (pss_cons (ps_set (i:=3) sc_l_walk.nd rfl (Or.inl rfl) (pe_lst (pa_cons (pe_ix ix_list (pv 2) (pe_op op_mod (pe_ix ix_list (pv 1) pe_int (fun _ _=>rfl)) (pe_callB call_len_seq (by rfl) T.n_len PySem.boot_len (pa_cons (pv 2) pa_nil))) (fun _ _=>rfl)) pa_nil)))
      (pss_cons (ps_for PassesOwn.never rfl (pi_list (pe_slice sl_list (pv 1) (po_some pe_int) po_none)) (pg_name (i:=4) sc_l_walk.nd rfl (Or.inl rfl)) (pss_cons (ps_set (i:=5) sc_l_walk.nd rfl (Or.inr rfl) (pe_ix ix_list (pv 0) (pe_ix ix_list (pv 3) (pe_un un_neg pe_int) (fun _ _=>rfl)) (fun _ _=>rfl)))
      (pss_cons (ps_setCompG (ts:=["_law_k"]) (fv:=[("_law_side",5)]) (i:=6) ⟨rfl,by decide +kernel,by decide +kernel,blkFree (by rfl),⟨⟨rfl,rfl,Or.inl rfl⟩,trivial⟩⟩ rfl sc_l_walk.nd rfl rfl (by rfl) (pi_range1 rfl T.n_range (pa_cons pe_int pa_nil)) (fun _ _ _ _=>(pg_name (i:=0) (show List.Nodup (["_law_k","_law_side"]:List Str) from by decide +kernel) rfl (Or.inl rfl) (Or.inr rfl))) (fun _ _ _ _=>pts_nil) (fun _ _ _=>rfl) (fun _ _ _ _ _ _=>pb_emit (pe_op op_add (pe_op op_sub (pv 1) (pe_op op_mod (pv 1) pe_int)) (pe_op op_mod (pe_op op_add (pe_op op_add (pv 1) pe_int) (pv 0)) pe_int))))
      (pss_cons (ps_setCompG (ts:=["_law_p"]) (fv:=[("_law_mates",0)]) (i:=6) ⟨rfl,by decide +kernel,by decide +kernel,blkFree (by rfl),⟨⟨rfl,rfl,Or.inl rfl⟩,trivial⟩⟩ rfl sc_l_walk.nd rfl rfl (by rfl) (pi_list (pv 6)) (fun _ _ _ _=>(pg_name (i:=0) (show List.Nodup (["_law_p","_law_mates"]:List Str) from by decide +kernel) rfl (Or.inl rfl) (Or.inr rfl))) (fun _ _ _ _=>(pts_one (pt_cmpR op_notN (pe_ix (ix_listK K) (pv 1) (pv 0) (fun _ _=>rfl)) pe_non (nomark _)))) (fun _ _ _=>rfl) (fun _ _ _ _ _ _=>pb_emit (pv 0)))
      (pss_cons (ps_if (pt_cmpR op_eq (pe_callB call_len_seq (by rfl) T.n_len PySem.boot_len (pa_cons (pv 6) pa_nil)) pe_int (nomark _)) (pss_one ps_break) pss_nil)
      (pss_one (ps_expr (pe_bm PySem.F.plainAttrs_list PySem.F.slot_list_append PySem.F.type_list_append mt_append (pv 3) (pa_cons (pe_ix ix_list (pv 6) (pe_op op_mod (pv 4) (pe_callB call_len_seq (by rfl) T.n_len PySem.boot_len (pa_cons (pv 6) pa_nil))) (fun _ _=>rfl)) pa_nil)))))))))
      (pss_cons (ps_for PassesOwn.never rfl (pi_range1 rfl T.n_range (pa_cons (pe_callB call_len_seq (by rfl) T.n_len PySem.boot_len (pa_cons (pv 3) pa_nil)) pa_nil)) (pg_name (i:=7) sc_l_walk.nd rfl (Or.inl rfl)) (pss_one (ps_for PassesOwn.never rfl (pi_revR rfl T.n_reversed rfl T.n_range (pa_cons (pe_op op_add (pv 7) pe_int) (pa_cons (pe_callB call_len_seq (by rfl) T.n_len PySem.boot_len (pa_cons (pv 3) pa_nil)) pa_nil))) (pg_name (i:=8) sc_l_walk.nd rfl (Or.inl rfl)) (pss_one (ps_if (pt_cmpR op_eq (pe_ix ix_list (pv 3) (pv 7) (fun _ _=>rfl)) (pe_ix ix_list (pv 3) (pv 8) (fun _ _=>rfl)) (nomark _)) (pss_one (ps_ret (pe_slice sl_list (pv 3) (po_some (pv 7)) (po_some (pv 8))))) pss_nil)))))
      (pss_one (ps_ret (pe_lst pa_nil)))))))),?_⟩
    refine seq_cut fun nxC hnxC=>?_
    refine ⟨_,rfl,m,_,rfl,.inl (SqL.of hm),_,rfl,by omega,by rw [List.length_map]; omega,fun D hD=>?_⟩
    have eL:(((M.map mV).length:Nat):Int).toNat=M.length:=by simp
    rw [eL]
    refine loop_range (fun i σ H1=>∃ v,σ=[v,some (.ref m)]∧Same H H1∧H1 D=some (.lst (((List.range i).filter (hasM M)).map nV))) ⟨none,rfl,Same.new hD,upd_same⟩ ?_ ?_
    · rintro i σ H1 hlt ⟨v,rfl,sm,h1⟩
      dsimp only [gName]
      rw [Int.zero_add]
      obtain ⟨y,hy⟩:∃ y,M[i]?=some y:=⟨_,List.getElem?_eq_getElem hlt⟩
      have lt:(((List.range i).filter (hasM M)).map nV).length < sizeLine:=by
        rw [List.length_map]
        have:=List.length_filter_le (hasM M) (List.range i)
        rw [List.length_range] at this
        exact small1000 (by omega)
      refine ⟨_,rfl,_,rfl,m,_,_,_,rfl,rfl,SqL.of (sm _ _ hm),map_at hy,rfl,_,rfl,?_⟩
      cases y with
      | none =>
        refine iteF ⟨_,rfl,sm,?_⟩
        rw [h1,List.range_succ,List.filter_append]
        have:hasM M i=false:=by rw [Bool.eq_false_iff]; intro z; obtain ⟨j,e⟩:=hasM_iff.mp z; rw [hy] at e; cases e
        simp [this]
      | some j =>
        refine iteT ⟨_,rfl,_,h1,lt,_,rfl,Same.add sm hD,?_⟩
        rw [upd_same,List.range_succ,List.filter_append]
        have:hasM M i=true:=hasM_iff.mpr ⟨j,hy⟩
        simp [this]
        rfl
    rintro σ H1 ⟨v,rfl,s1,h1⟩
    refine hnxC _ _ ?_
    have hsp:∀ p∈(List.range M.length).filter (hasM M),∃ j,M[p]?=some (some j):=fun p hp=>hasM_iff.mp (List.mem_filter.mp hp).2
    generalize (List.range M.length).filter (hasM M)=sps at h1 hsp
    refine seq_cut fun nxC hnxC=>?_
    refine ⟨_,rfl,D,_,rfl,.inl (SqL.of h1),rfl,_,rfl,?_⟩
    refine ite2 (fun c=>?_) (fun c=>?_)
    · exact ⟨Nat.zero_le _,fun l hl=>k l [] _ (Same.add s1 (s1.free hl)) (s1.free hl) upd_same (Nat.zero_le _) (.inl rfl)⟩
    have hne:0 < sps.length:=by
      cases sps with
      | nil=>exact absurd rfl c
      | cons _ _=>simp
    dsimp only [tNext]
    refine hnxC _ _ ?_
    obtain ⟨x0,xr,rfl⟩:∃ x0 xr,xs=x0 :: xr:=by
      cases xs with
      | nil=>exact absurd rfl hx0
      | cons a b=>exact ⟨a,b,rfl⟩
    have k0:=Int.emod_nonneg x0 (show (sps.length:Int)≠0 by omega)
    have k1:=Int.emod_lt_of_pos x0 (show (0:Int) < sps.length by omega)
    obtain ⟨kk,hkk⟩:∃ kk:Nat,x0 % (sps.length:Int)=kk:=⟨_,(Int.toNat_of_nonneg k0).symm⟩
    have hkl:kk < sps.length:=by omega
    refine seq_cut fun nxC hnxC=>?_
    refine ⟨_,rfl,_,rfl,a,_,_,_,rfl,rfl,SqL.of (s1 _ _ ha),(show atI _ ((0:Nat):Int)=_ from atI_nat rfl),_,rfl,D,_,rfl,.inl (SqL.of h1),_,_,rfl,rfl,(by rw [List.length_map]; omega),D,_,_,_,rfl,rfl,SqL.of h1,(by rw [List.length_map,hkk]; exact map_at (List.getElem?_eq_getElem hkl)),(by show 1≤sizeLine; decide),fun r hr1=>?_⟩
    refine hnxC _ _ ?_
    have hr0:H r=none:=s1.free hr1
    obtain ⟨j0,hj0⟩:=hsp _ (List.getElem_mem hkl)
    have ch0:Ch M [sps[kk]]:=Ch.one hj0
    generalize sps[kk]=p0 at ch0
    have s2:Same H (upd H1 r (.lst [nV p0])):=Same.add s1 hr0
    have h2:(upd H1 r (.lst [nV p0])) r=some (.lst ([p0].map nV)):=upd_same
    generalize upd H1 r (.lst [nV p0])=H2 at s2 h2
    dsimp only [gName]
    show tSeq (tFor _ _ _) _ _ _ _
    refine seq_post (fun σ H3=>∃ (row:List Nat) (v4 v5 v6:Option V),σ=[some (.ref m),some (.ref a),some (.ref D),some (.ref r),v4,v5,v6,none,none]∧Same H H3∧H3 r=some (.lst (row.map nV))∧Ch M row∧row.length≤60) (fun nx hnx=>?_) ?_
    · refine ⟨_,rfl,_,rfl,a,_,rfl,SqL.of (s2 _ _ ha),fun q hq=>?_⟩
      rw [cut_tail]
      have hrq:r≠q:=ne_of_none h2 hq
      have hq0:H q=none:=s2.free hq
      refine ⟨q,rfl,⟨_,SqL.of upd_same⟩,?_⟩
      rw [List.length_cons] at hx60
      refine for_list (xs:=xr.map V.int) (fun i σ H3=>∃ (row:List Nat) (v4 v5 v6:Option V),σ=[some (.ref m),some (.ref a),some (.ref D),some (.ref r),v4,v5,v6,none,none]∧Same H H3∧H3 q=some (.lst (xr.map V.int))∧H3 r=some (.lst (row.map nV))∧Ch M row∧row≠[]∧row.length≤i + 1)
        ⟨[p0],none,none,none,rfl,Same.add s2 hq0,upd_same,by rw [upd_ne hrq]; exact h2,ch0,by simp,by simp⟩ ?_ ?_ ?_
      · rintro i σ H3 _ ⟨row,v4,v5,v6,rfl,s3,h3,_⟩
        exact SqL.of h3
      · rintro i x σ H3 hxi ⟨row,v4,v5,v6,rfl,s3,h3,h4,ch,rne,rlen⟩
        have hi:i < xr.length:=by have:=(List.getElem?_eq_some_iff.mp hxi).1; rw [List.length_map] at this; exact this
        obtain ⟨pick,hpk,rfl⟩:∃ pick,xr[i]?=some pick∧x=V.int pick:=by
          rw [List.getElem?_map,List.getElem?_eq_getElem hi] at hxi
          exact ⟨_,List.getElem?_eq_getElem hi,(Option.some.inj hxi).symm⟩
        obtain ⟨la,hla⟩:∃ la,row.getLast?=some la:=by
          cases e:row.getLast? with
          | none=>exact absurd (List.getLast?_eq_none_iff.mp e) rne
          | some z=>exact ⟨z,rfl⟩
        have hlm:la∈row:=List.mem_of_getLast? hla
        obtain ⟨sd,hsd⟩:=ch.has la hlm
        have hsdM:sd < M.length:=(List.getElem?_eq_some_iff.mp (inv la sd hsd).1).1
        have elast:atI (row.map nV) (-1)=some (nV la):=by
          unfold atI ixN
          have hl:0 < row.length:=by cases row with | nil=>exact absurd rfl rne | cons _ _=>simp
          rw [if_neg (by decide),if_pos (by rw [List.length_map]; omega)]
          show ((row.map nV)[((-1:Int) + (row.map nV).length).toNat]?)=_
          rw [List.length_map,show ((-1:Int) + (row.length:Int)).toNat=row.length - 1 by omega,List.getElem?_map,← List.getLast?_eq_getElem?,hla]
          rfl
        dsimp only [gName]
        refine seq_cut fun nxC hnxC=>?_
        refine ⟨_,rfl,_,rfl,_,rfl,r,_,_,_,rfl,rfl,SqL.of h4,elast,m,_,_,_,rfl,rfl,SqL.of (s3 _ _ hm),map_at hsd,?_⟩
        refine hnxC _ _ ?_
        refine seq_cut fun nxC hnxC=>?_
        refine ⟨2,rfl,by decide,by decide,fun W hW=>?_⟩
        have hW0:H W=none:=s3.free hW
        have hWr:r≠W:=ne_of_none h4 hW
        have hWq:q≠W:=ne_of_none h3 hW
        refine loop_range (n:=2) (fun c σ H5=>∃ v,σ=[v,some (nV sd)]∧Same H3 H5∧H5 W=some (.lst (([side sd 1,side sd 2].take c).map nV))) ⟨none,rfl,Same.new hW,upd_same⟩ ?_ ?_
        · rintro c σ H5 hc ⟨v,rfl,s5,h5⟩
          dsimp only [gName,tYes]
          rw [if_pos rfl]
          refine ⟨_,rfl,_,rfl,_,_,rfl,rfl,(by show (0:Int) < 3; decide),_,_,rfl,rfl,_,rfl,_,_,rfl,rfl,_,rfl,_,_,rfl,rfl,_,_,rfl,rfl,(by show (0:Int) < 3; decide),_,_,rfl,rfl,_,h5,?_,_,rfl,Same.add s5 hW,?_⟩
          · rw [List.length_map,List.length_take]; exact small1000 (by omega)
          · rw [upd_same]
            have hc:c=0∨c=1:=by omega
            have e:∀ k:Nat,(sd:Int) - (sd:Int) % 3 + ((sd:Int) + 1 + (0 + (k:Int))) % 3=((side sd (k + 1):Nat):Int):=fun k=>by unfold side; omega
            rcases hc with rfl | rfl
            · show some (HO.lst ([] ++ [V.int ((sd:Int) - (sd:Int) % 3 + ((sd:Int) + 1 + (0 + ((0:Nat):Int))) % 3)]))=_
              rw [e 0]; rfl
            · show some (HO.lst ([nV (side sd 1)] ++ [V.int ((sd:Int) - (sd:Int) % 3 + ((sd:Int) + 1 + (0 + ((1:Nat):Int))) % 3)]))=_
              rw [e 1]; rfl
        rintro σ H5 ⟨v,rfl,s5,h5⟩
        refine hnxC _ _ ?_
        have h5:H5 W=some (.lst ([side sd 1,side sd 2].map nV)):=h5
        have sl:∀ c,side sd c < M.length:=fun c=>by rw [hn]; exact side_lt (by omega)
        refine seq_cut fun nxC hnxC=>?_
        refine ⟨_,rfl,W,rfl,⟨_,SqL.of h5⟩,fun W2 hW2=>?_⟩
        have s35:=s3.trans s5
        refine loop_list (xs:=[side sd 1,side sd 2].map nV) (fun c σ H6=>∃ v,σ=[v,some (.ref m)]∧Same H5 H6∧H6 W2=some (.lst ((([side sd 1,side sd 2].take c).filter (hasM M)).map nV))) ⟨none,rfl,Same.new hW2,upd_same⟩ ?_ ?_ ?_
        · rintro c σ H6 _ ⟨v,rfl,s6,h6⟩
          exact SqL.of (s6 _ _ h5)
        · rintro c x σ H6 hxc ⟨v,rfl,s6,h6⟩
          obtain ⟨p,hp,rfl⟩:=map_some hxc
          have hpM:p < M.length:=by
            have:=List.mem_of_getElem? hp
            rcases List.mem_cons.mp this with rfl | z
            · exact sl 1
            · rw [List.mem_singleton.mp z]; exact sl 2
          obtain ⟨y,hy⟩:∃ y,M[p]?=some y:=⟨_,List.getElem?_eq_getElem hpM⟩
          dsimp only [gName]
          refine ⟨_,rfl,_,rfl,m,_,_,_,rfl,rfl,SqL.of (s6 _ _ (s35 _ _ hm)),map_at hy,rfl,_,rfl,?_⟩
          cases y with
          | none =>
            refine iteF ⟨_,rfl,s6,?_⟩
            have:hasM M p=false:=by rw [Bool.eq_false_iff]; intro z; obtain ⟨j,e⟩:=hasM_iff.mp z; rw [hy] at e; cases e
            rw [h6,flt_step hp,if_neg (by rw [this]; decide)]
          | some jj =>
            refine iteT ⟨_,rfl,_,h6,?_,_,rfl,Same.add s6 hW2,?_⟩
            · rw [List.length_map]
              have h1:=List.length_filter_le (hasM M) ([side sd 1,side sd 2].take c)
              have h2:([side sd 1,side sd 2].take c).length≤2:=by rw [List.length_take]; exact Nat.min_le_right _ _
              exact small1000 (by omega)
            · rw [upd_same,flt_step hp,if_pos (hasM_iff.mpr ⟨jj,hy⟩),List.map_append]
              rfl
        rintro σ H6 ⟨v,rfl,s6,h6⟩
        refine hnxC _ _ ?_
        have h6:H6 W2=some (.lst (([side sd 1,side sd 2].filter (hasM M)).map nV)):=h6
        have hws:∀ p∈[side sd 1,side sd 2].filter (hasM M),(∃ j,M[p]?=some (some j))∧p / 3=sd / 3∧p≠sd:=fun p hp=>by
          obtain ⟨z1,z2⟩:=List.mem_filter.mp hp
          refine ⟨hasM_iff.mp z2,?_,?_⟩
          · rcases List.mem_cons.mp z1 with rfl | z
            · exact side_div _ _
            · rw [List.mem_singleton.mp z]; exact side_div _ _
          · rcases List.mem_cons.mp z1 with rfl | z
            · unfold side; omega
            · rw [List.mem_singleton.mp z]; unfold side; omega
        generalize [side sd 1,side sd 2].filter (hasM M)=wys at h6 hws
        have s36:=s5.trans s6
        have h4':=s36 _ _ h4
        have h3':=s36 _ _ h3
        have s06:=s3.trans s36
        refine seq_cut fun nxC hnxC=>?_
        refine ⟨_,rfl,W2,_,rfl,.inl (SqL.of h6),rfl,_,rfl,?_⟩
        refine ite2 (fun c=>?_) (fun c=>?_)
        · exact hnx _ _ ⟨row,_,_,_,rfl,s06,h4',ch,by omega⟩
        have hwp:0 < wys.length:=by
          cases wys with
          | nil=>exact absurd rfl c
          | cons _ _=>simp
        dsimp only [tNext]
        refine hnxC _ _ ?_
        have c0:=Int.emod_nonneg pick (show (wys.length:Int)≠0 by omega)
        have c1:=Int.emod_lt_of_pos pick (show (0:Int) < wys.length by omega)
        obtain ⟨cc,hcc⟩:∃ cc:Nat,pick % (wys.length:Int)=cc:=⟨_,(Int.toNat_of_nonneg c0).symm⟩
        have hcl:cc < wys.length:=by omega
        obtain ⟨w1,w2,w3⟩:=hws _ (List.getElem_mem hcl)
        have hget:=List.getElem?_eq_getElem hcl
        refine ⟨_,rfl,.inl ⟨rfl,_,SqL.of h4'⟩,_,rfl,_,rfl,_,rfl,W2,_,rfl,.inl (SqL.of h6),_,_,rfl,rfl,(by rw [List.length_map]; omega),W2,_,_,_,rfl,rfl,SqL.of h6,(by rw [List.length_map,hcc]; exact map_at hget),r,_,_,rfl,rfl,h4',(by rw [List.length_map]; exact small1000 (by omega)),?_⟩
        refine ⟨row ++ [wys[cc]],_,_,_,rfl,Same.add s06 hr0,?_,?_,ch.snoc hla hsd w2 w3 w1,by simp,by rw [List.length_append,List.length_singleton]; omega⟩
        · rw [upd_ne (Ne.symm hrq)]; exact h3'
        · rw [upd_same,List.map_append]; rfl
      · rintro σ H3 ⟨row,v4,v5,v6,rfl,s3,h3,h4,ch,rne,rlen⟩
        rw [List.length_map] at rlen
        exact hnx _ _ ⟨row,_,_,_,rfl,s3,h4,ch,by omega⟩
    rintro σ H3 ⟨row,v4,v5,v6,rfl,s3,h3,ch,rlen⟩
    show tSeq (tFor _ _ _) _ _ _ _
    refine seq_post (fun σ H4=>H4=H3) (fun nx hnx=>?_) ?_
    · refine ⟨_,rfl,r,_,rfl,.inl (SqL.of h3),_,rfl,by omega,by rw [List.length_map]; omega,?_⟩
      have eR:(((row.map nV).length:Nat):Int).toNat=row.length:=by simp
      rw [eR]
      refine for_range (n:=row.length) (fun i σ H4=>∃ v7 v8,σ=[some (.ref m),some (.ref a),some (.ref D),some (.ref r),v4,v5,v6,v7,v8]∧H4=H3) ⟨_,_,rfl,rfl⟩ ?_ ?_
      · rintro i σ H4 hi ⟨v7,v8,rfl,rfl⟩
        dsimp only [gName]
        rw [Int.zero_add]
        refine ⟨_,rfl,_,_,rfl,rfl,_,rfl,r,_,rfl,.inl (SqL.of h3),((i + 1:Nat):Int),row.length - (i + 1),?_,by omega,by omega,?_⟩
        · rw [List.length_map]
          show [V.int ((i:Int) + 1),V.int (row.length:Int)]=_
          rw [show ((i:Int) + 1)=((i + 1:Nat):Int) by omega,show (row.length:Int)=((i + 1:Nat):Int) + ((row.length - (i + 1):Nat):Int) by omega]
        refine for_range3 (n:=row.length - (i + 1)) (fun c σ H5=>∃ v8,σ=[some (.ref m),some (.ref a),some (.ref D),some (.ref r),v4,v5,v6,some (.int i),v8]∧H5=H4) ⟨_,rfl,rfl⟩ ?_ ?_
        · rintro c σ H4 hc ⟨v8,rfl,rfl⟩
          obtain ⟨e,he,hie,hel⟩:∃ e:Nat,((i + 1:Nat):Int) + ((row.length - (i + 1):Nat):Int) - 1 + (c:Int) * -1=(e:Int)∧i < e∧e < row.length:=⟨row.length - 1 - c,by omega,by omega,by omega⟩
          dsimp only [gName]
          rw [he]
          have gi:=List.getElem?_eq_getElem hi
          have ge:=List.getElem?_eq_getElem hel
          refine ⟨_,rfl,_,rfl,r,_,_,_,rfl,rfl,SqL.of h3,map_at gi,_,rfl,_,rfl,r,_,_,_,rfl,rfl,SqL.of h3,map_at ge,rfl,_,rfl,?_⟩
          refine ite2 (fun z=>?_) (fun z=>?_)
          · have z:nV row[i]=nV row[e]:=of_decide_eq_true z
            have z:row[i]=row[e]:=by unfold nV at z; injection z with z; omega
            refine ⟨_,rfl,_,rfl,_,rfl,_,rfl,_,rfl,r,_,rfl,SqL.of h3,fun l hl=>?_⟩
            have ec:cutV (row.map nV) (some (i:Int)) (some (e:Int))=((row.drop i).take (e - i)).map nV:=by
              unfold cutV
              rw [HT.sIx_nat,HT.sIx_nat,List.length_map,Nat.min_eq_left (by omega),Nat.min_eq_left (by omega),List.map_take,List.map_drop]
            rw [ec]
            refine k l _ _ (Same.add s3 (s3.free hl)) (s3.free hl) upd_same ?_ (.inr (ch.cut hie gi (by rw [ge,z])))
            rw [List.length_take,List.length_drop]; omega
          · exact ⟨_,rfl,rfl⟩
        · rintro σ H4 ⟨v8,rfl,rfl⟩
          exact ⟨_,_,rfl,rfl⟩
      · rintro σ H4 ⟨v7,v8,rfl,rfl⟩
        exact hnx _ _ rfl
    · rintro σ H4 rfl
      exact ⟨Nat.zero_le _,fun l hl=>k l [] _ (Same.add s3 (s3.free hl)) (s3.free hl) upd_same (Nat.zero_le _) (.inl rfl)⟩
end
end KT
set_option maxHeartbeats 4000000
namespace KT
open PySem L2
noncomputable def turnI (ws:List Int) (by':Int):List Int:=rot ws (by' % ws.length).toNat
noncomputable def sp_turned:Sp:=fun vs H Q _=>∃ (a:Addr) (ws:List Int) (b:Int),vs=[.ref a,.int b]∧H a=some (.lst (ws.map V.int))∧ws.length≤100000∧∀ (l:Addr) (H':Hp),Same H H'→H l=none→H' l=some (.lst ((turnI ws b).map V.int))→Q (.ref l) H'
noncomputable def sp_crossable (C:Addr):Sp:=fun vs H Q _=>∃ (p:Addr) (M:List (Option Nat)) (ns:List Int) (x:Int),vs=[.ref p,.int x]∧TentAt C H p M ns∧M.length=ns.length∧Q (.bl (crossB M x)) H
noncomputable def sp_follows (C:Addr):Sp:=fun vs H Q _=>∃ (p:Addr) (M:List (Option Nat)) (ns:List Int) (a x:Int),vs=[.ref p,.int a,.int x]∧TentAt C H p M ns∧M.length=ns.length∧crossB M a=true∧Q (.bl (followB M a x)) H
noncomputable def sp_plain (C:Addr):Sp:=fun vs H Q _=>∃ (p a:Addr) (M:List (Option Nat)) (ns ws:List Int),vs=[.ref p,.ref a]∧TentAt C H p M ns∧M.length=ns.length∧H a=some (.lst (ws.map V.int))∧ws.length≤100000∧∀ H',Same H H'→Q (.bl (plainB M ws)) H'
noncomputable def sp_look_thread (C EN:Addr):Sp:=fun vs H Q E=>∃ (p a:Addr) (M:List (Option Nat)) (ns ws:List Int),vs=[.ref p,.ref a]∧TentAt C H p M ns∧M.length=ns.length∧H a=some (.lst (ws.map V.int))∧ws.length≤100000∧∀ H',Same H H'→(plainB M ws=true→Q .non H')∧(plainB M ws=false→E (.ref EN) none H')
theorem small_word {n:Nat} (h:n≤100000):n≤sizeLine:=by rw [sizeLine_eq]; omega
theorem cut_from {ws:List Int} {s:Nat} (h:s≤ws.length):cutV (ws.map V.int) (some (s:Int)) none=(ws.drop s).map V.int:=by
 unfold cutV
 rw [HT.sIx_nat,HT.sIx_none,List.length_map,Nat.min_eq_left h,List.map_drop,List.take_of_length_le]
 rw [List.length_drop,List.length_map]
 exact Nat.le_refl _
theorem cut_to {ws:List Int} {s:Nat} (h:s≤ws.length):cutV (ws.map V.int) none (some (s:Int))=(ws.take s).map V.int:=by
 unfold cutV
 rw [HT.sIx_none,HT.sIx_nat,List.length_map,Nat.min_eq_left h,List.drop_zero,Nat.sub_zero,List.map_take]
section
variable {P:Program} {w:World} {K:PySem.W.Frag} {mg:Str→Option Value} {base:Heap} {t:Adr}
theorem sc_l_thread:FnScope ["_law_script","_law_at","_law_mates","_law_cell_here"] ["_law_script","_law_at","_law_mates"] (defScope s_l_thread):=⟨rfl,rfl,rfl,by decide +kernel,rfl,by decide +kernel,by decide +kernel⟩
theorem ok_l_thread (T:Txt w K mg t):FnOk P w K mg base (CXr P w) 2 t.f_l_thread t.d_l_thread ["_law_script","_law_at","_law_mates"] (sp_thread K):=by
 refine T.p_l_thread.F.okR sc_l_thread (fun vs H Q E h=>?_) (fun cdv A outer s H vs Q E hr h=>?_)
 ·obtain ⟨a,m,sc,i,M,rfl,_⟩:=h
  rfl
 ·obtain ⟨a,m,sc,i,M,rfl,hS,hl,i0,i1,hm,h42,hn,inv,k⟩:=h
  refine ⟨_,(pss_cons (ps_set (i:=3) sc_l_thread.nd rfl (Or.inl rfl) (pe_call (ok_l_cell T) (hr.mono (by decide)) rfl T.p_l_cell.g T.p_l_cell.F.kp T.p_l_cell.b .nil passR (pa_cons (pv 0) (pa_cons (pv 1) pa_nil))))
   (pss_one (ps_ret (pe_call (ok_l_walk T) (hr.mono (by decide)) rfl T.p_l_walk.g T.p_l_walk.F.kp T.p_l_walk.b .nil passR (pa_cons (pv 2) (pa_cons (pe_call (ok_l_numbers T) (hr.mono (by decide)) rfl T.p_l_numbers.g T.p_l_numbers.F.kp T.p_l_numbers.b .nil passR (pa_cons (pe_op op_fdiv (pv 3) pe_int) (pa_cons (pe_op op_add pe_int (pe_op op_mod (pv 3) pe_int)) pa_nil))) pa_nil)))))),?_⟩
  refine ⟨_,rfl,_,rfl,a,sc,i,rfl,hS,hl,i0,by omega,?_⟩
  dsimp only [gName]
  generalize cell sc i=c
  have m0:0≤c % 50:=Int.emod_nonneg _ (by decide)
  have m1:c % 50 < 50:=Int.emod_lt_of_pos _ (by decide)
  have e:(4 + c % 50:Int)=((4 + (c % 50).toNat:Nat):Int):=by omega
  refine ⟨_,rfl,_,rfl,_,_,rfl,rfl,⟨by decide,by decide⟩,_,rfl,_,_,rfl,rfl,(by show (0:Int) < 50; decide),_,_,rfl,rfl,_,4 + (c % 50).toNat,(by rw [← e]; rfl),by omega,fun p xs H1 s1 hp h1 hxl hx=>?_⟩
  refine ⟨m,p,M,xs,rfl,s1 _ _ hm,h1,fun z=>by rw [z] at hxl; simp at hxl; omega,by omega,hx,h42,hn,inv,fun l ws H2 s2 hl2 h2 hw hpl=>k l ws H2 (s1.trans s2) (s1.free hl2) h2 hw hpl⟩
theorem sc_turned:FnScope ["word","by","start"] ["word","by"] (defScope s_turned):=⟨rfl,rfl,rfl,by decide +kernel,rfl,by decide +kernel,by decide +kernel⟩
theorem ok_turned (T:Txt w K mg t):FnOk P w K mg base (CXr P w) 1 t.f_turned t.d_turned ["word","by"] sp_turned:=by
 refine T.p_turned.F.okR sc_turned (fun vs H Q E h=>?_) (fun cdv A outer s H vs Q E hr h=>?_)
 ·obtain ⟨a,ws,b,rfl,_⟩:=h
  rfl
 ·obtain ⟨a,ws,b,rfl,ha,hl,k⟩:=h
  refine ⟨_,(pss_cons (ps_if (pt_not (pt_truth (pv 0) (fun _=>rfl))) (pss_one (ps_ret (pe_lst pa_nil))) pss_nil)
   (pss_cons (ps_set (i:=2) sc_turned.nd rfl (Or.inl rfl) (pe_op op_mod (pv 1) (pe_callB call_len_seq (by rfl) T.n_len PySem.boot_len (pa_cons (pv 0) pa_nil))))
   (pss_one (ps_ret (pe_op op_cat (pe_slice sl_list (pv 0) (po_some (pv 2)) po_none) (pe_slice sl_list (pv 0) po_none (po_some (pv 2)))))))),?_⟩
  refine seq_cut fun nxC hnxC=>?_
  refine ⟨_,rfl,_,.inl ⟨_,SqL.of ha,rfl⟩,?_⟩
  by_cases hne:ws=[]
  ·subst hne
   exact iteT ⟨Nat.zero_le _,fun l hl'=>k l _ (Same.new hl') hl' (by rw [upd_same]; unfold turnI rot; simp)⟩
  ·have e:(!(ws.map V.int).isEmpty)=true:=by cases ws with | nil=>exact absurd rfl hne | cons _ _=>rfl
   have hp:0 < ws.length:=by cases ws with | nil=>exact absurd rfl hne | cons _ _=>simp
   rw [e]
   refine iteF ?_
   dsimp only [tNext]
   refine hnxC _ _ ?_
   have k0:=Int.emod_nonneg b (show (ws.length:Int)≠0 by omega)
   have k1:=Int.emod_lt_of_pos b (show (0:Int) < ws.length by omega)
   obtain ⟨st,hst⟩:∃ st:Nat,b % (ws.length:Int)=st:=⟨_,(Int.toNat_of_nonneg k0).symm⟩
   have hsl:st≤ws.length:=by omega
   have et:turnI ws b=ws.drop st ++ ws.take st:=by unfold turnI rot; rw [hst,Int.toNat_natCast]
   refine ⟨_,rfl,_,rfl,a,_,rfl,.inl (SqL.of ha),_,_,rfl,rfl,(by rw [List.length_map]; omega),?_⟩
   dsimp only [gName]
   rw [len_word,hst]
   refine ⟨_,rfl,_,rfl,_,rfl,a,_,rfl,SqL.of ha,fun l1 h1=>?_⟩
   rw [cut_from hsl]
   have s1:Same H (upd H l1 (.lst ((ws.drop st).map V.int))):=Same.new h1
   refine ⟨_,rfl,_,rfl,_,rfl,a,_,rfl,SqL.of (s1 _ _ ha),fun l2 h2=>?_⟩
   rw [cut_to hsl]
   obtain ⟨hne2,h2'⟩:=upd_none h2
   refine ⟨l1,l2,_,_,rfl,rfl,by rw [upd_ne (Ne.symm hne2),upd_same],upd_same,?_,fun l3 h3=>?_⟩
   ·rw [List.length_map,List.length_map,List.length_drop,List.length_take]; exact small_word (by omega)
   ·have s3:=Same.add (o:=.lst ((ws.take st).map V.int)) s1 h2'
    refine k l3 _ (Same.add s3 (s3.free h3)) (s3.free h3) ?_
    rw [upd_same,et,List.map_append]
theorem sc_crossable:FnScope ["tent","place"] ["tent","place"] (defScope s_crossable):=⟨rfl,rfl,rfl,by decide +kernel,rfl,by decide +kernel,by decide +kernel⟩
theorem ok_crossable (T:Txt w K mg t):FnOk P w K mg base (CXr P w) 4 t.f_crossable t.d_crossable ["tent","place"] (sp_crossable t.C_Tent):=by
 refine T.p_crossable.F.okR sc_crossable (fun vs H Q E h=>?_) (fun cdv A outer s H vs Q E hr h=>?_)
 ·obtain ⟨p,M,ns,x,rfl,_⟩:=h
  rfl
 ·obtain ⟨p,M,ns,x,rfl,ta,hMl,k⟩:=h
  obtain ⟨dx,cl,na,sp,mt,o,f,b⟩:=id ta
  refine ⟨_,(pss_one (ps_ret (pe_and (pe_meth (pv 0) T.cl_Tent T.p_Tent_has_place.m (ok_Tent_has_place T) (hr.mono (by decide)) T.p_Tent_has_place.b .nil passR (pa_cons (pv 1) pa_nil)) (pe_one (pe_cmpR op_notN (pe_meth (pv 0) T.cl_Tent T.p_Tent_mate.m (ok_Tent_mate T) (hr.mono (by decide)) T.p_Tent_mate.b .nil passR (pa_cons (pv 1) pa_nil)) pe_non (nomark _)))))),?_⟩
  refine ⟨_,rfl,p,dx,_,rfl,b.ins,fl_none _ _ _ _,_,rfl,p,M,ns,x,rfl,ta,_,rfl,?_⟩
  by_cases c:0≤x∧x < (ns.length:Int)
  ·rw [decide_eq_true c]
   refine iteT ⟨_,rfl,p,dx,_,rfl,b.ins,fl_none _ _ _ _,_,rfl,p,M,ns,x,rfl,ta,hMl,fun i y e1 e2=>?_,fun z=>absurd c z⟩
   refine ⟨rfl,?_⟩
   have:crossB M x=!decide (mV y=.non):=by
    unfold crossB
    rw [e1,Int.toNat_natCast,List.getD_eq_getElem?_getD,e2,decide_eq_true (show (0:Int)≤i∧(i:Int) < M.length by omega)]
    cases y <;> rfl
   rw [this] at k
   exact k
  ·rw [decide_eq_false c]
   have:crossB M x=false:=by unfold crossB; rw [decide_eq_false (by omega)]; rfl
   rw [this] at k
   exact iteF k
theorem sc_follows:FnScope ["tent","ahead","place","entry"] ["tent","ahead","place"] (defScope s_follows):=⟨rfl,rfl,rfl,by decide +kernel,rfl,by decide +kernel,by decide +kernel⟩
theorem ok_follows (T:Txt w K mg t):FnOk P w K mg base (CXr P w) 4 t.f_follows t.d_follows ["tent","ahead","place"] (sp_follows t.C_Tent):=by
 refine T.p_follows.F.okR sc_follows (fun vs H Q E h=>?_) (fun cdv A outer s H vs Q E hr h=>?_)
 ·obtain ⟨p,M,ns,a,x,rfl,_⟩:=h
  rfl
 ·obtain ⟨p,M,ns,a,x,rfl,ta,hMl,hc,k⟩:=h
  obtain ⟨dx,cl,na,sp,mt,o,f,b⟩:=id ta
  refine ⟨_,(pss_cons (ps_set (i:=3) sc_follows.nd rfl (Or.inl rfl) (pe_meth (pv 0) T.cl_Tent T.p_Tent_mate.m (ok_Tent_mate T) (hr.mono (by decide)) T.p_Tent_mate.b .nil passR (pa_cons (pv 1) pa_nil)))
   (pss_one (ps_ret (pe_and (pe_cmpR op_eq (pe_call (ok_cloth_of T) (hr.mono (by decide)) rfl T.p_cloth_of.g T.p_cloth_of.F.kp T.p_cloth_of.b .nil passR (pa_cons (pv 2) pa_nil)) (pe_call (ok_cloth_of T) (hr.mono (by decide)) rfl T.p_cloth_of.g T.p_cloth_of.F.kp T.p_cloth_of.b .nil passR (pa_cons (pv 3) pa_nil)) (nomark _)) (pe_one (pe_cmpR op_ne (pv 2) (pv 3) (nomark _))))))),?_⟩
  obtain ⟨hr1,hs1⟩:=Bool.and_eq_true_iff.mp hc
  have hr1:=of_decide_eq_true hr1
  obtain ⟨m,hm⟩:=Option.isSome_iff_exists.mp hs1
  have hal:a.toNat < M.length:=by omega
  have ha:M[a.toNat]?=some (some m):=by rw [List.getD_eq_getElem?_getD,List.getElem?_eq_getElem hal] at hm; rw [List.getElem?_eq_getElem hal]; exact congrArg some hm
  have ef:followB M a x=(decide (x / 3=(m:Int) / 3) && !decide (x=(m:Int))):=by unfold followB; rw [hm]
  rw [ef] at k
  refine ⟨_,rfl,p,dx,_,rfl,b.ins,fl_none _ _ _ _,_,rfl,p,M,ns,a,rfl,ta,hMl,fun i y e1 e2=>?_,fun z=>absurd (show 0≤a∧a < (ns.length:Int) by omega) z⟩
  have:i=a.toNat:=by omega
  subst this
  rw [ha] at e2
  cases e2
  refine ⟨_,rfl,_,rfl,_,rfl,_,rfl,rfl,_,rfl,?_⟩
  have dI:∀ u v:Int,decide (V.int u=V.int v)=decide (u=v):=fun u v=>by
   by_cases z:u=v
   ·subst z; simp
   ·rw [decide_eq_false z,decide_eq_false (fun y=>z (by injection y))]
  rw [dI]
  by_cases z:x / 3=(m:Int) / 3
  ·rw [decide_eq_true z] at k ⊢
   refine iteT ⟨_,rfl,_,rfl,rfl,?_⟩
   show Q (.bl (!decide (V.int x=V.int (m:Int)))) H
   rw [dI]
   exact k
  ·rw [decide_eq_false z] at k ⊢
   exact iteF k
theorem sc_plain:FnScope ["tent","word"] ["tent","word"] (defScope s_plain):=⟨rfl,rfl,rfl,by decide +kernel,rfl,by decide +kernel,by decide +kernel⟩
theorem ok_plain (T:Txt w K mg t):FnOk P w K mg base (CXr P w) 5 t.f_plain t.d_plain ["tent","word"] (sp_plain t.C_Tent):=by
  refine T.p_plain.F.okR sc_plain (fun vs H Q E h=>?_) (fun cdv A outer s H vs Q E hr h=>?_)
  · obtain ⟨p,a,M,ns,ws,rfl,_⟩:=h
    rfl
  · obtain ⟨p,a,M,ns,ws,rfl,ta,hMl,ha,hl,k⟩:=h
    refine ⟨_,(pss_cons (ps_if (PW.pt (pw_or (pt_not (pt_truth (pv 1) (fun _=>rfl))) (pw_or1 (pt_not (pt_val (pe_callB (call_all rfl) (by rfl) T.n_all PyProof.Rows.boot_all (pa_cons (pe_compG (ts:=["place"]) (fv:=[("tent",0)]) ⟨rfl,by decide +kernel,by decide +kernel,blkFree (by rfl),⟨⟨rfl,rfl,Or.inl rfl⟩,trivial⟩⟩ rfl (pi_list (pv 1)) (fun _ _ _ _=>(pg_name (i:=0) (show List.Nodup (["place","tent"]:List Str) from by decide +kernel) rfl (Or.inl rfl) (Or.inr rfl))) (fun _ _ _ _=>pts_nil) (fun _ _ _=>rfl) (fun _ _ _ _ _ _=>pb_emit (pe_call (ok_crossable T) (hr.mono (by decide)) rfl T.p_crossable.g T.p_crossable.F.kp T.p_crossable.b .nil passR (pa_cons (pv 1) (pa_cons (pv 0) pa_nil))))) pa_nil))))))) (pss_one (ps_ret pe_bl)) pss_nil)
      (pss_one (ps_ret (pe_callB (call_all rfl) (by rfl) T.n_all PyProof.Rows.boot_all (pa_cons (pe_compG (ts:=["ahead","place"]) (fv:=[("tent",0)]) ⟨rfl,by decide +kernel,by decide +kernel,blkFree (by rfl),⟨⟨rfl,rfl,Or.inl rfl⟩,trivial⟩⟩ rfl (pi_zip rfl T.n_zip (pa_cons (pv 1) (pa_cons (pe_call (ok_turned T) (hr.mono (by decide)) rfl T.p_turned.g T.p_turned.F.kp T.p_turned.b .nil passR (pa_cons (pv 1) (pa_cons pe_int pa_nil))) pa_nil))) (fun _ _ _ _=>(pg_tupK (n:=2) K rfl (pgs_cons (pg_name (i:=0) (show List.Nodup (["ahead","place","tent"]:List Str) from by decide +kernel) rfl (Or.inl rfl) (Or.inr rfl)) (pgs_cons (pg_name (i:=1) (show List.Nodup (["ahead","place","tent"]:List Str) from by decide +kernel) rfl (Or.inl rfl) (Or.inr rfl)) pgs_nil)))) (fun _ _ _ _=>pts_nil) (fun _ _ _=>rfl) (fun _ _ _ _ _ _=>pb_emit (pe_call (ok_follows T) (hr.mono (by decide)) rfl T.p_follows.g T.p_follows.F.kp T.p_follows.b .nil passR (pa_cons (pv 2) (pa_cons (pv 0) (pa_cons (pv 1) pa_nil)))))) pa_nil))))),?_⟩
    refine seq_cut fun nxC hnxC=>?_
    refine ⟨_,rfl,_,.inl ⟨_,SqL.of ha,rfl⟩,?_⟩
    by_cases hne:ws=[]
    · subst hne
      exact iteT (k _ (Same.refl _))
    · have e:(!(ws.map V.int).isEmpty)=true:=by cases ws with | nil=>exact absurd rfl hne | cons _ _=>rfl
      have e':(!ws.isEmpty)=true:=by cases ws with | nil=>exact absurd rfl hne | cons _ _=>rfl
      have hp:0 < ws.length:=by cases ws with | nil=>exact absurd rfl hne | cons _ _=>simp
      rw [e]
      refine iteF ?_
      refine ⟨_,rfl,a,rfl,⟨_,SqL.of ha⟩,fun D hD=>?_⟩
      refine loop_list (xs:=ws.map V.int) (fun i σ H1=>∃ v,σ=[v,some (.ref p)]∧Same H H1∧H1 D=some (.lst (((ws.take i).map (crossB M)).map V.bl))) ⟨none,rfl,Same.new hD,upd_same⟩ ?_ ?_ ?_
      · rintro i σ H1 _ ⟨v,rfl,sm,h1⟩
        exact SqL.of (sm _ _ ha)
      · rintro i x σ H1 hx ⟨v,rfl,sm,h1⟩
        obtain ⟨y,hy,rfl⟩:=map_some hx
        dsimp only [gName,tYes]
        rw [if_pos rfl]
        refine ⟨_,rfl,_,rfl,p,M,ns,y,rfl,ta.same sm,hMl,_,h1,?_,_,rfl,Same.add sm hD,?_⟩
        · rw [List.length_map,List.length_map,List.length_take,sizeLine_eq]; omega
        · rw [upd_same,List.take_add_one,hy,List.map_append,List.map_append]; rfl
      rintro σ H1 ⟨v,rfl,s1,h1⟩
      rw [List.length_map,List.take_length] at h1
      refine ⟨D,_,rfl,SqL.of h1,_,rfl,?_⟩
      by_cases hc:(ws.map (crossB M)).all id=true
      · rw [hc]
        refine iteF ?_
        dsimp only [tNext]
        refine hnxC _ _ ?_
        refine ⟨_,rfl,_,rfl,a,ws,1,rfl,s1 _ _ ha,hl,fun tl H2 s2 htl h2=>?_⟩
        have s02:=s1.trans s2
        have et:turnI ws 1=rot ws (1 % ws.length):=by
          unfold turnI
          congr 1
        rw [et] at h2
        have hrl:(rot ws (1 % ws.length)).length=ws.length:=rot_len ws (Nat.le_of_lt (Nat.mod_lt _ hp))
        have hcr:∀ y∈ws,crossB M y=true:=fun y hy=>List.all_eq_true.mp hc _ (List.mem_map.mpr ⟨y,hy,rfl⟩)
        have ep:plainB M ws=(pairB M ws (rot ws (1 % ws.length))).all id:=by unfold plainB; rw [e',hc]; rfl
        have k':=fun H' s'=>k H' s'
        rw [ep] at k'
        generalize rot ws (1 % ws.length)=vs at h2 hrl k'
        refine ⟨a,tl,_,_,rfl,SqL.of (s02 _ _ ha),SqL.of h2,fun D2 hD2=>?_⟩
        refine loop_zip (xs:=ws.map V.int) (ys:=vs.map V.int) (by rw [List.length_map,List.length_map,hrl]) (fun i σ H3=>∃ v v',σ=[v,v',some (.ref p)]∧Same H2 H3∧H3 D2=some (.lst (((pairB M ws vs).take i).map V.bl))) ⟨none,none,rfl,Same.new hD2,upd_same⟩ ?_ ?_ ?_
        · rintro i σ H3 _ ⟨v,v',rfl,s3,h3⟩
          exact ⟨SqL.of (s3 _ _ (s02 _ _ ha)),SqL.of (s3 _ _ h2)⟩
        · rintro i x y σ H3 q hx hy hq ⟨v,v',rfl,s3,h3⟩
          obtain ⟨x',hx',rfl⟩:=map_some hx
          obtain ⟨y',hy',rfl⟩:=map_some hy
          have s4:Same H3 (upd H3 q (.tup [V.int x',V.int y'])):=Same.new hq
          refine ⟨q,_,rfl,SqT.of upd_same,rfl,_,_,rfl,_,_,rfl,rfl,?_⟩
          dsimp only [tYes]
          rw [if_pos rfl]
          refine ⟨_,rfl,_,rfl,_,rfl,p,M,ns,x',y',rfl,((ta.same s02).same s3).same s4,hMl,hcr x' (List.mem_of_getElem? hx'),_,s4 _ _ h3,?_,_,_,rfl,Same.add (s3.trans s4) hD2,?_⟩
          · rw [List.length_map,List.length_take]
            have:(pairB M ws vs).length≤ws.length:=by unfold pairB; rw [List.length_map,List.length_zip]; omega
            rw [sizeLine_eq]; omega
          · have:(pairB M ws vs)[i]?=some (followB M x' y'):=by
              unfold pairB
              rw [List.getElem?_map,List.getElem?_zip_eq_some (z:=(x',y')) |>.mpr ⟨hx',hy'⟩]
              rfl
            rw [upd_same,List.take_add_one,this,List.map_append]
            rfl
        rintro σ H3 ⟨v,v',rfl,s3,h3⟩
        have hpl:(pairB M ws vs).length=ws.length:=by unfold pairB; rw [List.length_map,List.length_zip]; omega
        rw [List.length_map,List.take_of_length_le (Nat.le_of_eq hpl)] at h3
        exact ⟨D2,_,rfl,SqL.of h3,k' _ (s02.trans s3)⟩
      · have hc:(ws.map (crossB M)).all id=false:=by rw [Bool.eq_false_iff]; exact hc
        rw [hc]
        have ep:plainB M ws=false:=by unfold plainB; rw [hc]; simp
        have:=k _ s1
        rw [ep] at this
        exact iteT this
theorem sc_look_thread:FnScope ["tent","word"] ["tent","word"] (defScope s_look_thread):=⟨rfl,rfl,rfl,by decide +kernel,rfl,by decide +kernel,by decide +kernel⟩
theorem ok_look_thread (T:Txt w K mg t):FnOk P w K mg base (CXr P w) 6 t.f_look_thread t.d_look_thread ["tent","word"] (sp_look_thread t.C_Tent t.E_NoThread):=by
 refine T.p_look_thread.F.okX sc_look_thread (fun vs H Q E h=>?_) (fun cdv A outer s H vs Q E hr h=>?_)
 ·obtain ⟨p,a,M,ns,ws,rfl,_⟩:=h
  rfl
 ·obtain ⟨p,a,M,ns,ws,rfl,ta,hMl,ha,hl,k⟩:=h
  refine ⟨_,(pssx_one (psx_if (pt_not (pt_val (pe_call (ok_plain T) (hr.mono (by decide)) rfl T.p_plain.g T.p_plain.F.kp T.p_plain.b .nil passR (pa_cons (pv 0) (pa_cons (pv 1) pa_nil))))) (pssx_one (psx_raise T.x_NoThread FBV rfl T.gx_NoThread rfl (pa_cons pe_str pa_nil))) pssx_nil)),?_⟩
  refine ⟨_,rfl,_,rfl,p,a,M,ns,ws,rfl,ta,hMl,ha,hl,fun H' s'=>⟨_,rfl,?_⟩⟩
  obtain ⟨k1,k2⟩:=k H' s'
  cases e:plainB M ws with
  | true=>exact iteF (k1 e)
  | false=>exact iteT ⟨by decide,k2 e⟩
end
end KT
set_option maxHeartbeats 4000000
namespace KT
open PySem L2
theorem nv_wI (ws:List Nat):ws.map nV=(wI ws).map V.int:=by rw [List.map_map]; rfl
theorem wI_len (ws:List Nat):(wI ws).length=ws.length:=by simp
end KT
set_option maxHeartbeats 4000000
namespace KT
open PySem L2
theorem dN {a b:Nat}:decide (V.int (a:Int)=V.int (b:Int))=decide (a=b):=by
 by_cases z:a=b
 ·subst z; simp
 ·rw [decide_eq_false z,decide_eq_false (fun y=>z (by injection y with y; omega))]
noncomputable def sp_letter (C:Addr):Sp:=fun vs H Q _=>∃ (p:Addr) (M:List (Option Nat)) (ns:List Int) (a x m:Nat),vs=[.ref p,.int a,.int x]∧TentAt C H p M ns∧M.length=ns.length∧M[a]?=some (some m)∧Q (.str (letS M a x)) H
noncomputable def sp_letters (C:Addr):Sp:=fun vs H Q _=>∃ (p a:Addr) (M:List (Option Nat)) (ns:List Int) (ws:List Nat),vs=[.ref p,.ref a]∧TentAt C H p M ns∧M.length=ns.length∧H a=some (.lst (ws.map nV))∧ws.length≤10000∧Pl M ws∧∀ H',Same H H'→Q (.str (Txt.join (Str.ofString "") (letL M ws))) H'
theorem letS_len (M:List (Option Nat)) (a p:Nat):(letS M a p).length=1:=by unfold letS; split <;> decide
theorem letL_sum (M:List (Option Nat)):∀ l:List (Nat × Nat),((l.map fun q=>letS M q.1 q.2).map (·.length)).sum=l.length
 | []=>rfl
 | q :: r=>by rw [List.map_cons,List.map_cons,List.sum_cons,letL_sum M r,letS_len,List.length_cons]; omega
section
variable {P:Program} {w:World} {K:PySem.W.Frag} {mg:Str→Option Value} {base:Heap} {t:Adr}
theorem sc_letter:FnScope ["tent","ahead","place"] ["tent","ahead","place"] (defScope s_letter):=⟨rfl,rfl,rfl,by decide +kernel,rfl,by decide +kernel,by decide +kernel⟩
theorem ok_letter (T:Txt w K mg t):FnOk P w K mg base (CXr P w) 4 t.f_letter t.d_letter ["tent","ahead","place"] (sp_letter t.C_Tent):=by
 refine T.p_letter.F.okR sc_letter (fun vs H Q E h=>?_) (fun cdv A outer s H vs Q E hr h=>?_)
 ·obtain ⟨p,M,ns,a,x,m,rfl,_⟩:=h
  rfl
 ·obtain ⟨p,M,ns,a,x,m,rfl,ta,hMl,ha,k⟩:=h
  obtain ⟨dx,cl,na,sp,mt',o,f,b⟩:=id ta
  have haM:a < M.length:=(List.getElem?_eq_some_iff.mp ha).1
  refine ⟨_,(pss_one (ps_ret (pe_ifExp (pt_cmpR op_eq (pv 2) (pe_call (ok_after T) (hr.mono (by decide)) rfl T.p_after.g T.p_after.F.kp T.p_after.b .nil passR (pa_cons (pe_meth (pv 0) T.cl_Tent T.p_Tent_mate.m (ok_Tent_mate T) (hr.mono (by decide)) T.p_Tent_mate.b .nil passR (pa_cons (pv 1) pa_nil)) pa_nil)) (nomark _)) pe_str pe_str))),?_⟩
  refine ⟨_,rfl,_,rfl,p,dx,_,rfl,b.ins,fl_none _ _ _ _,_,rfl,p,M,ns,a,rfl,ta,hMl,fun i y e1 e2=>?_,fun z=>absurd (show (0:Int)≤a∧(a:Int) < ns.length by omega) z⟩
  have:i=a:=by omega
  subst this
  rw [ha] at e2
  cases e2
  refine ⟨(m:Int),rfl,rfl,_,rfl,?_⟩
  have e:letS M i x=if x=aftN m then Str.ofString "R" else Str.ofString "L":=by unfold letS; rw [List.getD_eq_getElem?_getD,ha]; rfl
  rw [e] at k
  rw [aftN_eq,dN]
  by_cases z:x=aftN m
  ·rw [if_pos z] at k
   rw [decide_eq_true z]
   exact iteT k
  ·rw [if_neg z] at k
   rw [decide_eq_false z]
   exact iteF k
theorem sc_letters:FnScope ["tent","word"] ["tent","word"] (defScope s_letters):=⟨rfl,rfl,rfl,by decide +kernel,rfl,by decide +kernel,by decide +kernel⟩
theorem ok_letters (T:Txt w K mg t):FnOk P w K mg base (CXr P w) 7 t.f_letters t.d_letters ["tent","word"] (sp_letters t.C_Tent):=by
 refine T.p_letters.F.okX sc_letters (fun vs H Q E h=>?_) (fun cdv A outer s H vs Q E hr h=>?_)
 ·obtain ⟨p,a,M,ns,ws,rfl,_⟩:=h
  rfl
 ·obtain ⟨p,a,M,ns,ws,rfl,ta,hMl,ha,hl,hP,k⟩:=h
  refine ⟨_,(pssx_cons (psx_expr (pex_call (ok_look_thread T) (hr.mono (by decide)) rfl T.p_look_thread.g T.p_look_thread.F.kp T.p_look_thread.b .nil (pa_cons (pv 0) (pa_cons (pv 1) pa_nil))))
   (pssx_one (psx_of (ps_ret (pe_bm PySem.F.plainAttrs_str PySem.F.slot_str_join PySem.F.type_str_join mt_join pe_str (pa_cons (pe_compG (ts:=["ahead","place"]) (fv:=[("tent",0)]) ⟨rfl,by decide +kernel,by decide +kernel,blkFree (by rfl),⟨⟨rfl,rfl,Or.inl rfl⟩,trivial⟩⟩ rfl (pi_zip rfl T.n_zip (pa_cons (pv 1) (pa_cons (pe_call (ok_turned T) (hr.mono (by decide)) rfl T.p_turned.g T.p_turned.F.kp T.p_turned.b .nil passR (pa_cons (pv 1) (pa_cons pe_int pa_nil))) pa_nil))) (fun _ _ _ _=>(pg_tupK (n:=2) K rfl (pgs_cons (pg_name (i:=0) (show List.Nodup (["ahead","place","tent"]:List Str) from by decide +kernel) rfl (Or.inl rfl) (Or.inr rfl)) (pgs_cons (pg_name (i:=1) (show List.Nodup (["ahead","place","tent"]:List Str) from by decide +kernel) rfl (Or.inl rfl) (Or.inr rfl)) pgs_nil)))) (fun _ _ _ _=>pts_nil) (fun _ _ _=>rfl) (fun _ _ _ _ _ _=>pb_emit (pe_call (ok_letter T) (hr.mono (by decide)) rfl T.p_letter.g T.p_letter.F.kp T.p_letter.b .nil passR (pa_cons (pv 2) (pa_cons (pv 0) (pa_cons (pv 1) pa_nil)))))) pa_nil)))))),?_⟩
  have hp:0 < ws.length:=by have:=hP.ne; cases ws with | nil=>exact absurd rfl this | cons _ _=>simp
  refine ⟨_,rfl,_,rfl,p,a,M,ns,wI ws,rfl,ta,hMl,by rw [ha,nv_wI],by rw [wI_len]; omega,fun H1 s1=>⟨fun _=>?_,fun z=>absurd ((plain_iff.mpr hP).symm.trans z) (by decide)⟩⟩
  refine ⟨rfl,_,rfl,_,rfl,a,wI ws,1,rfl,by rw [s1 _ _ ha,nv_wI],by rw [wI_len]; omega,fun tl H2 s2 htl h2=>?_⟩
  have s02:=s1.trans s2
  have et:(turnI (wI ws) 1).map V.int=(rot ws (1 % ws.length)).map nV:=by
   rw [nv_wI]
   congr 1
   unfold turnI
   rw [wI_len,show (1 % (ws.length:Int)).toNat=1 % ws.length by
    rw [show (1:Int)=((1:Nat):Int) from rfl,← Int.natCast_emod,Int.toNat_natCast]]
   unfold rot wI
   rw [List.map_append,List.map_drop,List.map_take]
  rw [et] at h2
  have hrl:(rot ws (1 % ws.length)).length=ws.length:=rot_len ws (Nat.le_of_lt (Nat.mod_lt _ hp))
  unfold letL at k
  generalize rot ws (1 % ws.length)=vs at h2 hrl k
  refine ⟨a,tl,_,_,rfl,SqL.of (s02 _ _ ha),SqL.of h2,fun D2 hD2=>?_⟩
  refine loop_zip (xs:=ws.map nV) (ys:=vs.map nV) (by rw [List.length_map,List.length_map,hrl]) (fun i σ H3=>∃ v v',σ=[v,v',some (.ref p)]∧Same H2 H3∧H3 D2=some (.lst ((((ws.zip vs).map fun q=>letS M q.1 q.2).take i).map V.str))) ⟨none,none,rfl,Same.new hD2,upd_same⟩ ?_ ?_ ?_
  ·rintro i σ H3 _ ⟨v,v',rfl,s3,h3⟩
   exact ⟨SqL.of (s3 _ _ (s02 _ _ ha)),SqL.of (s3 _ _ h2)⟩
  ·rintro i x y σ H3 q hx hy hq ⟨v,v',rfl,s3,h3⟩
   obtain ⟨x',hx',rfl⟩:=map_some hx
   obtain ⟨y',hy',rfl⟩:=map_some hy
   have s4:Same H3 (upd H3 q (.tup [nV x',nV y'])):=Same.new hq
   obtain ⟨mt,hmt⟩:=hP.has x' (List.mem_of_getElem? hx')
   refine ⟨q,_,rfl,SqT.of upd_same,rfl,_,_,rfl,_,_,rfl,rfl,?_⟩
   dsimp only [tYes]
   rw [if_pos rfl]
   refine ⟨_,rfl,_,rfl,_,rfl,p,M,ns,x',y',mt,rfl,((ta.same s02).same s3).same s4,hMl,hmt,_,s4 _ _ h3,?_,_,_,rfl,Same.add (s3.trans s4) hD2,?_⟩
   ·rw [List.length_map,List.length_take,List.length_map,List.length_zip,sizeLine_eq]
    omega
   ·have:((ws.zip vs).map fun q=>letS M q.1 q.2)[i]?=some (letS M x' y'):=by
     rw [List.getElem?_map,List.getElem?_zip_eq_some (z:=(x',y')) |>.mpr ⟨hx',hy'⟩]
     rfl
    rw [upd_same,List.take_add_one,this,List.map_append]
    rfl
  rintro σ H3 ⟨v,v',rfl,s3,h3⟩
  have hpl:((ws.zip vs).map fun q=>letS M q.1 q.2).length=ws.length:=by rw [List.length_map,List.length_zip]; omega
  rw [List.length_map,List.take_of_length_le (Nat.le_of_eq hpl)] at h3
  exact ⟨_,D2,_,rfl,rfl,SqL.of h3,by decide,by rw [letL_sum,List.length_map,List.length_zip]; omega,k _ (s02.trans s3)⟩
end
end KT
set_option maxHeartbeats 4000000
namespace KT
open PySem L2
noncomputable def tp (v:Nat × Nat):HO:=.tup [V.int v.1,V.int v.2]
noncomputable def wD (ks:List Int) (ad:Int→Addr):List (Key × V):=ks.map fun x=>((Sum.inl x:Key),V.ref (ad x))
noncomputable def WAt (H:Hp) (d:Addr) (ks:List Int) (g:Int→Nat × Nat):Prop:=∃ ad:Int→Addr,H d=some (.dK (wD ks ad))∧∀ x∈ks,H (ad x)=some (tp (g x))
theorem WAt.same {H H':Hp} {d:Addr} {ks:List Int} {g:Int→Nat × Nat} (h:WAt H d ks g) (s:Same H H'):WAt H' d ks g:=by
 obtain ⟨ad,h1,h2⟩:=h
 exact ⟨ad,s _ _ h1,fun x hx=>s _ _ (h2 x hx)⟩
theorem WAt.congr {H:Hp} {d:Addr} {ks:List Int} {g g':Int→Nat × Nat} (h:WAt H d ks g) (e:∀ x∈ks,g x=g' x):WAt H d ks g':=by
 obtain ⟨ad,h1,h2⟩:=h
 exact ⟨ad,h1,fun x hx=>by rw [← e x hx]; exact h2 x hx⟩
theorem wD_len (ks:List Int) (ad:Int→Addr):(wD ks ad).length=ks.length:=by unfold wD; rw [List.length_map]
theorem wD_val {ks:List Int} {ad:Int→Addr} {y:Int}:valV (wD ks ad) (Sum.inl y)=if y∈ks then some (V.ref (ad y)) else none:=by unfold wD; rw [val_map]
theorem wD_get {H:Hp} {d:Addr} {ks:List Int} {ad:Int→Addr} {y:Int} (h:Rd H d (.dK (wD ks ad))) (hy:y∈ks):DGet H d (.int y) (some (V.ref (ad y))):=.inl ⟨_,Sum.inl y,h,rfl,by rw [wD_val,if_pos hy]⟩
theorem wD_at {ks:List Int} {ad:Int→Addr} {i:Nat} {k:Key} {v:V} (h:(wD ks ad)[i]?=some (k,v)):∃ y,ks[i]?=some y∧k=Sum.inl y∧v=V.ref (ad y):=by
 unfold wD at h
 rw [List.getElem?_map] at h
 cases e:ks[i]? with
 | none=>rw [e] at h; cases h
 | some z=>rw [e] at h; cases h; exact ⟨z,rfl,rfl,rfl⟩
theorem WAt.put {H:Hp} {d q:Addr} {ks:List Int} {g:Int→Nat × Nat} {ad:Int→Addr} {y:Int} {v:Nat × Nat} (h1:H d=some (.dK (wD ks ad))) (h2:∀ x∈ks,H (ad x)=some (tp (g x))) (hq:H q=some (tp v)) (hy:y∈ks) :
  WAt (upd H d (.dK (putK (wD ks ad) (Sum.inl y) (V.ref q)))) d ks (putG g y v):=by
 have nd:∀ r u,H r=some (tp u)→r≠d:=fun r u h z=>by rw [z,h1] at h; cases h
 refine ⟨fun x=>if x=y then q else ad x,?_,fun x hx=>?_⟩
 ·rw [upd_same]
  unfold wD
  rw [put_old hy]
  congr 2
  apply List.map_congr_left
  intro x _
  by_cases c:x=y
  ·simp [c]
  ·simp [c]
 ·unfold putG
  show upd H d _ (if x=y then q else ad x)=some (tp (if x=y then v else g x))
  by_cases c:x=y
  ·rw [if_pos c,if_pos c,upd_ne (nd _ _ hq)]; exact hq
  ·rw [if_neg c,if_neg c,upd_ne (nd _ _ (h2 x hx))]; exact h2 x hx
theorem WAt.new {H:Hp} {d q:Addr} {ks:List Int} {g:Int→Nat × Nat} {ad:Int→Addr} {y:Int} {v:Nat × Nat} (h1:H d=some (.dK (wD ks ad))) (h2:∀ x∈ks,H (ad x)=some (tp (g x))) (hq:H q=some (tp v)) (hy:y ∉ ks) :
  WAt (upd H d (.dK (putK (wD ks ad) (Sum.inl y) (V.ref q)))) d (ks ++ [y]) (putG g y v):=by
 have nd:∀ r u,H r=some (tp u)→r≠d:=fun r u h z=>by rw [z,h1] at h; cases h
 refine ⟨fun x=>if x=y then q else ad x,?_,fun x hx=>?_⟩
 ·rw [upd_same]
  unfold wD
  rw [put_new hy,List.map_append]
  congr 3
  ·apply List.map_congr_left
   intro x hx
   have:x≠y:=fun z=>hy (z ▸ hx)
   simp [this]
  ·simp
 ·unfold putG
  show upd H d _ (if x=y then q else ad x)=some (tp (if x=y then v else g x))
  by_cases c:x=y
  ·rw [if_pos c,if_pos c,upd_ne (nd _ _ hq)]; exact hq
  ·rw [if_neg c,if_neg c]
   have hx':x∈ks:=by
    rcases List.mem_append.mp hx with z | z
    ·exact z
    ·exact absurd (List.mem_singleton.mp z) c
   rw [upd_ne (nd _ _ (h2 x hx'))]; exact h2 x hx'
noncomputable def okD (m n:Nat):Prop:=Nat.gcd m n < 2 ^ 8900
theorem okD_div {m n:Nat} (hm:1≤m) (h:okD m n):CDivB (m:Int) (Nat.gcd m n:Nat)∧CDivB (n:Int) (Nat.gcd m n:Nat):=by
 have h1:0 < Nat.gcd m n:=Nat.gcd_pos_of_pos_left _ hm
 have h3:(((Nat.gcd m n:Nat):Int)).natAbs.log2 < 9000:=by
  refine Nat.lt_of_lt_of_le (log2_lt (k:=8900) ?_ (by decide)) (by decide)
  rw [Int.natAbs_natCast]
  exact h
 exact ⟨⟨by omega,h3⟩,⟨by omega,h3⟩⟩
theorem okD_of {m n:Nat} (hm:1≤m) (h:m < 2 ^ 8900):okD m n:=Nat.lt_of_le_of_lt (Nat.le_of_dvd hm (Nat.gcd_dvd_left _ _)) h
noncomputable def sp_common:Sp:=fun vs H Q _=>∃ a b:Nat,vs=[.int a,.int b]∧Q (.int (Nat.gcd a b:Nat)) H
noncomputable def sp_look_fraction (EF:Addr):Sp:=fun vs H Q E=>∃ a b:Int,vs=[.int a,.int b]∧(1≤a→1≤b→Q .non H)∧(a < 1∨b < 1→E (.ref EF) none H)
noncomputable def sp_fraction (EF:Addr):Sp:=fun vs H Q E=>∃ a b:Int,vs=[.int a,.int b]∧(∀ m n:Nat,a=m→b=n→1≤m→1≤n→okD m n∧∀ p,H p=none→Q (.ref p) (upd H p (tp (lowN m n))))∧(a < 1∨b < 1→E (.ref EF) none H)
noncomputable def sp_sewn_seams (C:Addr):Sp:=fun vs H Q _=>∃ (p:Addr) (M:List (Option Nat)) (ns:List Int),vs=[.ref p]∧TentAt C H p M ns∧TD M ns∧ns.length < 64∧∀ (l:Addr) (H':Hp) (out:List Int),Same H H'→H l=none→H' l=some (.lst (out.map V.int))→out.Pairwise (·≤·)→SwK M ns out→Q (.ref l) H'
noncomputable def sp_lowest (C:Addr):Sp:=fun vs H Q _=>∃ (p d:Addr) (M:List (Option Nat)) (ns ks:List Int) (g:Int→Nat × Nat),vs=[.ref p,.ref d]∧TentAt C H p M ns∧TD M ns∧ns.length < 64∧WAt H d ks g∧SwK M ns ks∧(∀ x∈ks,1≤(g x).1∧1≤(g x).2∧(g x).1 < 2 ^ 8900) ∧
 ∀ (d':Addr) (H':Hp),Same H H'→H d'=none→WAt H' d' ks (lowG g)→Q (.ref d') H'
noncomputable def sp_product:Sp:=fun vs H Q _=>∃ (p q:Addr) (v f:Nat × Nat),vs=[.ref p,.ref q]∧H p=some (tp v)∧H q=some (tp f)∧1≤v.1∧1≤v.2∧Nat.gcd v.1 v.2=1∧1≤f.1∧1≤f.2∧v.1 < 2 ^ 60000∧v.2 < 2 ^ 60000∧f.1 < 2 ^ 4000∧f.2 < 2 ^ 4000∧∀ r,H r=none→Q (.ref r) (upd H r (tp (lw2 v f)))
noncomputable def sp_stretched (C:Addr):Sp:=fun vs H Q _=>∃ (p d:Addr) (M:List (Option Nat)) (ns ks:List Int) (g:Int→Nat × Nat) (x:Int) (a b:Nat),vs=[.ref p,.ref d,.int x]∧TentAt C H p M ns∧TD M ns∧ns.length < 64∧WAt H d ks g∧SwK M ns ks∧(∀ y∈ks,1≤(g y).1∧1≤(g y).2∧(g y).1 < 2 ^ 8900∧(g y).2 < 2 ^ 8900)∧Mv M ns x a b∧(lowG g x).1 < 2 ^ 3999∧(lowG g x).2 < 2 ^ 3999 ∧
 ∀ (d':Addr) (H':Hp),Same H H'→H d'=none→WAt H' d' ks (strG ks (sqX ns a b) x (lowG g))→Q (.ref d') H'
theorem mulN {m n:Nat} (h1:m < 2 ^ 60000) (h2:n < 2 ^ 60000):IntMulOk (m:Int) (n:Int):=PyProof.Rows.mulOk_of_bits (bits_le (k:=60000) (by rw [Int.natAbs_natCast]; exact h1) (by decide)) (bits_le (k:=60000) (by rw [Int.natAbs_natCast]; exact h2) (by decide)) (by decide)
theorem sewn_iff {M:List (Option Nat)} {ns:List Int} (td:TD M ns) {x:Int} (hx:x∈keys ns ns.length):SwN M ns x ↔ sortOf ns x≠"rim":=by
 constructor
 ·rintro ⟨p,j,h1,h2⟩ e
  rcases sort_cases td hx with ⟨_,a,e1,ma⟩ | ⟨e',_⟩ | ⟨e',_⟩
  ·have hp:p∈pl ns ns.length x:=pl_mem.mpr ⟨(List.getElem?_eq_some_iff.mp h2).1,h2⟩
   rw [e1,List.mem_singleton] at hp
   rw [hp,ma] at h1
   cases h1
  ·exact t_lr (e'.symm.trans e)
  ·exact t_fr (e'.symm.trans e)
 ·intro e
  rcases sort_cases td hx with ⟨e',_⟩ | ⟨_,a,b,_,e1,ma,_⟩ | ⟨_,a,b,_,e1,ma,_⟩
  ·exact absurd e' e
  ·have hp:a∈pl ns ns.length x:=by rw [e1]; exact List.mem_cons_self
   exact ⟨a,b,ma,(pl_mem.mp hp).2⟩
  ·have hp:a∈pl ns ns.length x:=by rw [e1]; exact List.mem_cons_self
   exact ⟨a,b,ma,(pl_mem.mp hp).2⟩
theorem SwK.len {M:List (Option Nat)} {ns ks:List Int} (sw:SwK M ns ks) (td:TD M ns):ks.length≤ns.length:=by
 have e:ks.Perm ((keys ns ns.length).filter fun x=>decide (x∈ks)):=(List.perm_ext_iff_of_nodup sw.nd ((keys_nodup ns ns.length).filter _)).mpr fun x=>by
  rw [List.mem_filter,decide_eq_true_eq]
  exact ⟨fun h=>⟨((sw.mem x).mp h).key td,h⟩,fun h=>h.2⟩
 have h1:=e.length_eq
 have h2:=List.length_filter_le (fun x=>decide (x∈ks)) (keys ns ns.length)
 have h3:=keys_len ns ns.length
 omega
noncomputable def swB (ns:List Int) (x:Int):Bool:=!decide (V.str (sortOf ns x)=V.str "rim")
theorem swB_iff {ns:List Int} {x:Int}:swB ns x=true ↔ sortOf ns x≠"rim":=by
 unfold swB
 rw [Bool.not_eq_true',decide_eq_false_iff_not]
 exact ⟨fun h e=>h (by rw [e]),fun h e=>h (by injection e)⟩
theorem take_filter {α:Type} {f:α→Bool} {l:List α} {i:Nat} {x:α} (h:l[i]?=some x):(l.take (i + 1)).filter f=if f x=true then (l.take i).filter f ++ [x] else (l.take i).filter f:=by
 rw [List.take_add_one,h,List.filter_append]
 by_cases c:f x=true
 ·simp [c]
 ·simp [c]
section
variable {P:Program} {w:World} {K:PySem.W.Frag} {mg:Str→Option Value} {base:Heap} {t:Adr}
theorem sc_common_measure:FnScope ["one","other"] ["one","other"] (defScope s_common_measure):=⟨rfl,rfl,rfl,by decide +kernel,rfl,by decide +kernel,by decide +kernel⟩
theorem ok_common_measure (T:Txt w K mg t):FnOk P w K mg base (CXr P w) 1 t.f_common_measure t.d_common_measure ["one","other"] sp_common:=by
 refine T.p_common_measure.F.okR sc_common_measure (fun vs H Q E h=>?_) (fun cdv A outer s H vs Q E hr h=>?_)
 ·obtain ⟨a,b,rfl,_⟩:=h
  rfl
 ·obtain ⟨a,b,rfl,k⟩:=h
  refine ⟨_,(pss_cons (ps_while PassesOwn.never (pt_truth (pv 1) (fun _=>rfl)) (pss_one (ps_par (i:=0) (j:=1) rfl sc_common_measure.nd rfl rfl (by decide) rfl rfl (pa_cons (pv 1) (pa_cons (pe_op op_mod (pv 0) (pv 1)) pa_nil)) (by rfl))))
   (pss_one (ps_ret (pv 0)))),?_⟩
  refine ⟨fun m σ H1=>∃ a' b':Nat,b'=m∧H1=H∧σ=[some (.int a'),some (.int b')]∧Nat.gcd a' b'=Nat.gcd a b,⟨b,a,b,rfl,rfl,rfl,rfl⟩,?_⟩
  rintro m σ H1 ⟨a',b',rfl,rfl,rfl,e⟩
  refine ⟨_,rfl,_,rfl,?_⟩
  by_cases z:b'=0
  ·subst z
   refine iteF ⟨_,rfl,?_⟩
   rw [Nat.gcd_zero_right] at e
   rw [e]
   exact k
  ·have hz:((b':Int) != 0)=true:=by simp; omega
   rw [hz]
   refine iteT ⟨_,fun σ' H' h=>h,?_⟩
   refine ⟨_,rfl,_,rfl,_,rfl,_,_,rfl,rfl,(by show (0:Int) < b'; omega),_,_,rfl,?_⟩
   refine ⟨a' % b',Nat.mod_lt _ (by omega),b',a' % b',rfl,rfl,?_,?_⟩
   ·rw [Int.natCast_emod]; rfl
   ·rw [← e,Nat.gcd_comm a' b',Nat.gcd_rec b' a',Nat.gcd_comm]
theorem sc_look_fraction:FnScope ["top","bottom"] ["top","bottom"] (defScope s_look_fraction):=⟨rfl,rfl,rfl,by decide +kernel,rfl,by decide +kernel,by decide +kernel⟩
theorem ok_look_fraction (T:Txt w K mg t):FnOk P w K mg base (CXr P w) 1 t.f_look_fraction t.d_look_fraction ["top","bottom"] (sp_look_fraction t.E_NoFraction):=by
 refine T.p_look_fraction.F.okX sc_look_fraction (fun vs H Q E h=>?_) (fun cdv A outer s H vs Q E hr h=>?_)
 ·obtain ⟨a,b,rfl,_⟩:=h
  rfl
 ·obtain ⟨a,b,rfl,k1,k2⟩:=h
  refine ⟨_,(pssx_one (psx_if (PW.pt (pw_or (pt_cmpR op_lt (pv 0) pe_int (nomark _)) (pw_or1 (pt_cmpR op_lt (pv 1) pe_int (nomark _))))) (pssx_one (psx_raise T.x_NoFraction FBV rfl T.gx_NoFraction rfl (pa_cons pe_str pa_nil))) pssx_nil)),?_⟩
  refine ⟨_,rfl,_,_,rfl,rfl,_,rfl,?_⟩
  refine ite2 (fun c=>?_) (fun c=>?_)
  ·have c:a < 1:=by simpa using c
   exact iteT ⟨by decide,k2 (.inl c)⟩
  ·have c:¬ a < 1:=by simpa using c
   refine ⟨_,rfl,_,_,rfl,rfl,_,rfl,?_⟩
   refine ite2 (fun d=>?_) (fun d=>?_)
   ·have d:b < 1:=by simpa using d
    exact ⟨by decide,k2 (.inr d)⟩
   ·have d:¬ b < 1:=by simpa using d
    exact k1 (by omega) (by omega)
theorem sc_fraction:FnScope ["top","bottom","measure"] ["top","bottom"] (defScope s_fraction):=⟨rfl,rfl,rfl,by decide +kernel,rfl,by decide +kernel,by decide +kernel⟩
theorem ok_fraction (T:Txt w K mg t):FnOk P w K mg base (CXr P w) 2 t.f_fraction t.d_fraction ["top","bottom"] (sp_fraction t.E_NoFraction):=by
 refine T.p_fraction.F.okX sc_fraction (fun vs H Q E h=>?_) (fun cdv A outer s H vs Q E hr h=>?_)
 ·obtain ⟨a,b,rfl,_⟩:=h
  rfl
 ·obtain ⟨a,b,rfl,k1,k2⟩:=h
  refine ⟨_,(pssx_cons (psx_expr (pex_call (ok_look_fraction T) (hr.mono (by decide)) rfl T.p_look_fraction.g T.p_look_fraction.F.kp T.p_look_fraction.b .nil (pa_cons (pv 0) (pa_cons (pv 1) pa_nil))))
   (pssx_cons (psx_of (ps_set (i:=2) sc_fraction.nd rfl (Or.inl rfl) (pe_call (ok_common_measure T) (hr.mono (by decide)) rfl T.p_common_measure.g T.p_common_measure.F.kp T.p_common_measure.b .nil passR (pa_cons (pv 0) (pa_cons (pv 1) pa_nil)))))
   (pssx_one (psx_of (ps_ret (pe_tup (pa_cons (pe_op op_fdivB (pv 0) (pv 2)) (pa_cons (pe_op op_fdivB (pv 1) (pv 2)) pa_nil)))))))),?_⟩
  refine ⟨_,rfl,_,rfl,a,b,rfl,fun ha hb=>?_,k2⟩
  obtain ⟨m,rfl⟩:∃ m:Nat,a=m:=⟨a.toNat,by omega⟩
  obtain ⟨n,rfl⟩:∃ n:Nat,b=n:=⟨b.toNat,by omega⟩
  obtain ⟨hbg,k⟩:=k1 m n rfl rfl (by omega) (by omega)
  obtain ⟨g1,g2⟩:=okD_div (m:=m) (n:=n) (by omega) hbg
  refine ⟨_,rfl,_,rfl,m,n,rfl,?_⟩
  dsimp only [gName]
  refine ⟨_,rfl,_,rfl,_,_,rfl,rfl,g1,_,rfl,_,rfl,_,_,rfl,rfl,g2,(by show 2≤sizeLine; rw [sizeLine_eq]; decide),fun p hp=>?_⟩
  exact k p hp
theorem sc_sewn_seams:FnScope ["tent"] ["tent"] (defScope s_sewn_seams):=⟨rfl,rfl,rfl,by decide +kernel,rfl,by decide +kernel,by decide +kernel⟩
theorem ok_sewn_seams (T:Txt w K mg t):FnOk P w K mg base (CXr P w) 3 t.f_sewn_seams t.d_sewn_seams ["tent"] (sp_sewn_seams t.C_Tent):=by
 refine T.p_sewn_seams.F.okR sc_sewn_seams (fun vs H Q E h=>?_) (fun cdv A outer s H vs Q E hr h=>?_)
 ·obtain ⟨p,M,ns,rfl,_⟩:=h
  rfl
 ·obtain ⟨p,M,ns,rfl,ta,td,h64,k⟩:=h
  refine ⟨_,(pss_one (ps_ret (pe_compG (ts:=["seam"]) (fv:=[("tent",0)]) ⟨rfl,by decide +kernel,by decide +kernel,blkFree (by rfl),⟨⟨rfl,rfl,Or.inl rfl⟩,trivial⟩⟩ rfl (pi_list (pe_meth0 (pv 0) T.cl_Tent T.p_Tent_seams.m (ok_Tent_seams T) (hr.mono (by decide)) T.p_Tent_seams.b .nil passR)) (fun _ _ _ _=>(pg_name (i:=0) (show List.Nodup (["seam","tent"]:List Str) from by decide +kernel) rfl (Or.inl rfl) (Or.inr rfl))) (fun _ _ _ _=>(pts_one (pt_cmpR op_ne (pe_meth (pv 1) T.cl_Tent T.p_Tent_sort_of.m (ok_Tent_sort_of T) (hr.mono (by decide)) T.p_Tent_sort_of.b .nil passR (pa_cons (pv 0) pa_nil)) pe_str (nomark _)))) (fun _ _ _=>rfl) (fun _ _ _ _ _ _=>pb_emit (pv 0))))),?_⟩
  obtain ⟨dx,cl,na,sp,mt,o,ff,b⟩:=id ta
  refine ⟨_,rfl,p,dx,_,rfl,b.ins,fl_none _ _ _ _,p,M,ns,rfl,ta,h64,fun l ks hl1 hpm hst=>?_⟩
  have s1:Same H (upd H l (.lst (ks.map V.int))):=Same.new hl1
  have h1:(upd H l (.lst (ks.map V.int))) l=some (.lst (ks.map V.int)):=upd_same
  generalize upd H l (.lst (ks.map V.int))=H1 at s1 h1 ⊢
  have hkl:ks.length≤64:=by rw [hpm.length_eq]; have:=keys_len ns ns.length; omega
  refine ⟨l,rfl,⟨_,SqL.of h1⟩,fun D hD=>?_⟩
  refine loop_list (xs:=ks.map V.int) (fun i σ H3=>∃ v,σ=[v,some (.ref p)]∧Same H1 H3∧H3 D=some (.lst (((ks.take i).filter (swB ns)).map V.int))) ⟨none,rfl,Same.new hD,upd_same⟩ ?_ ?_ ?_
  ·rintro i σ H3 _ ⟨v,rfl,s3,h3⟩
   exact SqL.of (s3 _ _ h1)
  ·rintro i x σ H3 hx ⟨v,rfl,s3,h3⟩
   obtain ⟨y,hy,rfl⟩:=map_some hx
   have hyk:y∈keys ns ns.length:=hpm.mem_iff.mp (List.mem_of_getElem? hy)
   have ta3:=(ta.same s1).same s3
   obtain ⟨dx,cl,na,sp,mt,o,ff,b⟩:=id ta3
   dsimp only [gName]
   refine ⟨_,rfl,p,dx,_,rfl,b.ins,fl_none _ _ _ _,_,rfl,p,M,ns,y,rfl,ta3,td,fun _ H4 s4=>?_,fun z=>absurd hyk z⟩
   refine ⟨rfl,_,rfl,?_⟩
   show if swB ns y=true then _ else _
   have lt:(((ks.take i).filter (swB ns)).map V.int).length < sizeLine:=by
    rw [List.length_map]
    have:=List.length_filter_le (swB ns) (ks.take i)
    rw [List.length_take] at this
    exact small1000 (by omega)
   by_cases c:swB ns y=true
   ·rw [if_pos c]
    refine ⟨_,rfl,_,s4 _ _ h3,lt,_,rfl,Same.add (s3.trans s4) hD,?_⟩
    rw [upd_same,take_filter hy,if_pos c,List.map_append]
    rfl
   ·rw [if_neg c]
    refine ⟨_,rfl,s3.trans s4,?_⟩
    rw [s4 _ _ h3,take_filter hy,if_neg c]
  ·rintro σ H3 ⟨v,rfl,s3,h3⟩
   rw [List.length_map,List.take_length] at h3
   refine k D H3 _ (s1.trans s3) (s1.free hD) h3 (hst.filter _) ⟨(hpm.nodup_iff.mpr (keys_nodup ns ns.length)).filter _,fun x=>?_⟩
   rw [List.mem_filter,hpm.mem_iff,swB_iff]
   refine ⟨fun zz42=>?_,fun h=>⟨h.key td,(sewn_iff td (h.key td)).mp h⟩⟩
   obtain ⟨h1,h2⟩:=zz42
   exact (sewn_iff td h1).mpr h2
theorem sc_lowest_worths:FnScope ["tent","worths"] ["tent","worths"] (defScope s_lowest_worths):=⟨rfl,rfl,rfl,by decide +kernel,rfl,by decide +kernel,by decide +kernel⟩
theorem ok_lowest_worths (T:Txt w K mg t):FnOk P w K mg base (CXr P w) 4 t.f_lowest_worths t.d_lowest_worths ["tent","worths"] (sp_lowest t.C_Tent):=by
 refine T.p_lowest_worths.F.okR sc_lowest_worths (fun vs H Q E h=>?_) (fun cdv A outer s H vs Q E hr h=>?_)
 ·obtain ⟨p,d,M,ns,ks,g,rfl,_⟩:=h
  rfl
 ·obtain ⟨p,d,M,ns,ks,g,rfl,ta,td,h64,wa,sw,ok,k⟩:=h
  have hu:=hu_of hr
  refine ⟨_,(pss_cons (ps_if (pt_cmpR (op_neL hr.units) (pe_callB (call_sortedD rfl) (by rfl) T.n_sorted PyProof.Rows.boot_sorted (pa_cons (pv 1) pa_nil)) (pe_call (ok_sewn_seams T) (hr.mono (by decide)) rfl T.p_sewn_seams.g T.p_sewn_seams.F.kp T.p_sewn_seams.b .nil passR (pa_cons (pv 0) pa_nil)) (nomark _)) pss_never pss_nil)
   (pss_one (ps_ret (pe_thaw (pe_dcompG (ts:=["seam","top","bottom"]) (fv:=[]) ⟨rfl,by decide +kernel,by decide +kernel,blkFree (by rfl),trivial⟩ rfl (pi_items (pv 1) ⟨rfl,rfl,rfl⟩) (fun _ _ _ _=>(pg_tupK (n:=2) K rfl (pgs_cons (pg_name (i:=0) (show List.Nodup (["seam","top","bottom"]:List Str) from by decide +kernel) rfl (Or.inl rfl) (Or.inr rfl)) (pgs_cons (pg_tupK (n:=2) K rfl (pgs_cons (pg_name (i:=1) (show List.Nodup (["seam","top","bottom"]:List Str) from by decide +kernel) rfl (Or.inl rfl) (Or.inr rfl)) (pgs_cons (pg_name (i:=2) (show List.Nodup (["seam","top","bottom"]:List Str) from by decide +kernel) rfl (Or.inl rfl) (Or.inr rfl)) pgs_nil))) pgs_nil)))) (fun _ _ _ _=>pts_nil) (fun _ _ _=>rfl) (fun _ _ _ _ _ _=>pb_demit (pv 0) (pe_call (ok_fraction T) (hr.mono (by decide)) rfl T.p_fraction.g T.p_fraction.F.kp T.p_fraction.b .nil passR (pa_cons (pv 1) (pa_cons (pv 2) pa_nil))))))))),?_⟩
  obtain ⟨ad,hd,had⟩:=id wa
  have hkl:ks.length < 64:=by
   have:=sw.len td
   omega
  refine seq_cut fun nxC hnxC=>?_
  refine ⟨_,rfl,d,_,ks,rfl,.inl hd,(by unfold wD; rw [List.map_map]; rfl),hkl,fun l1 out1 hl1 pm1 st1=>?_⟩
  have s1:Same H (upd H l1 (.lst (out1.map V.int))):=Same.new hl1
  have h1:(upd H l1 (.lst (out1.map V.int))) l1=some (.lst (out1.map V.int)):=upd_same
  generalize upd H l1 (.lst (out1.map V.int))=H1 at s1 h1 ⊢
  refine ⟨_,rfl,p,M,ns,rfl,ta.same s1,td,h64,fun l2 H2 out2 s2 hl2 h2 st2 sw2=>?_⟩
  refine ⟨l1,l2,out1,out2,rfl,rfl,SqL.of (s2 _ _ h1),SqL.of h2,_,rfl,?_⟩
  obtain rfl:=sorted_eq pm1 (sw2.perm sw) st1 st2
  rw [decide_eq_true rfl]
  refine iteF ?_
  try dsimp only [tNext]
  refine hnxC _ _ ?_
  have s12:=s1.trans s2
  have hd2:=s12 _ _ hd
  have had2:∀ x∈ks,H2 (ad x)=some (tp (g x)):=fun x hx=>s12 _ _ (had x hx)
  clear h1 h2 st1 st2 pm1 sw2 hl2
  refine ⟨_,rfl,d,_,rfl,.inl ⟨hd2,fun o=>?_⟩⟩
  intro D hD
  obtain ⟨hDd,hD2⟩:=upd_none hD
  have hda:∀ x∈ks,ad x≠d:=fun x hx z=>by have:=had2 x hx; rw [z,hd2] at this; cases this
  refine loop_items (fun i σ H3=>∃ v0 v1 v2,σ=[v0,v1,v2]∧(∀ b u,b≠d→H2 b=some u→H3 b=some u)∧H3 d=some (.frz o (.dK (wD ks ad)))∧WAt H3 D (ks.take i) (lowG g)) ⟨none,none,none,rfl,fun b u hb e=>by rw [upd_ne (ne_of_none e hD2),upd_ne hb]; exact e,by rw [upd_ne (Ne.symm hDd),upd_same],fun _=>0,upd_same,fun x hx=>by simp at hx⟩ ?_ ?_ ?_
  ·rintro i σ H3 _ ⟨v0,v1,v2,rfl,_,e,_⟩
   exact e
  ·rintro i k0 x0 σ H3 q hk0 hq ⟨v0,v1,v2,rfl,s3,e3,ad3,h3,h4⟩
   obtain ⟨y,hy,rfl,rfl⟩:=wD_at hk0
   have hyk:=List.mem_of_getElem? hy
   obtain ⟨o1,o2,o3⟩:=ok y hyk
   have sq:Same H3 (upd H3 q (.tup [kV (Sum.inl y),V.ref (ad y)])):=Same.new hq
   have hqq:(upd H3 q (.tup [kV (Sum.inl y),V.ref (ad y)])) q=some (.tup [kV (Sum.inl y),V.ref (ad y)]):=upd_same
   have hay:(upd H3 q (.tup [kV (Sum.inl y),V.ref (ad y)])) (ad y)=some (tp (g y)):=sq _ _ (s3 _ _ (hda y hyk) (had2 y hyk))
   generalize upd H3 q (.tup [kV (Sum.inl y),V.ref (ad y)])=H4 at sq hqq hay ⊢
   dsimp only [gName]
   refine ⟨q,_,rfl,SqT.of hqq,rfl,_,_,rfl,_,_,rfl,⟨ad y,_,rfl,SqT.of hay,rfl,_,_,rfl,_,_,rfl,rfl,?_⟩⟩
   refine ⟨rfl,?_⟩
   dsimp only [gName,tYes]
   rw [if_pos rfl]
   refine ⟨_,rfl,_,rfl,_,rfl,((g y).1:Int),((g y).2:Int),rfl,fun m n em en hm hn=>?_,fun z=>by omega⟩
   obtain rfl:m=(g y).1:=by omega
   obtain rfl:n=(g y).2:=by omega
   refine ⟨okD_of hm o3,fun r hr=>?_⟩
   have sr:Same H4 (upd H4 r (tp (lowN (g y).1 (g y).2))):=Same.new hr
   have hny:y ∉ ks.take i:=fun z=>by
    have hi:i < ks.length:=(List.getElem?_eq_some_iff.mp hy).1
    have nd:=sw.nd
    rw [← List.take_append_drop i ks,List.nodup_append] at nd
    refine nd.2.2 y z y ?_ rfl
    rw [List.drop_eq_getElem_cons hi,(List.getElem?_eq_some_iff.mp hy).2]
    exact List.mem_cons_self
   have s34:=sq.trans sr
   refine ⟨_,Sum.inl y,rfl,s34 _ _ h3,(by rw [wD_len,List.length_take]; exact small1000 (by omega)),_,_,_,rfl,fun b u hb e=>?_,?_,?_⟩
   ·rw [upd_ne (ne_of_none e hD2)]; exact s34 _ _ (s3 b u hb e)
   ·rw [upd_ne (Ne.symm hDd)]; exact s34 _ _ e3
   ·rw [List.take_add_one,hy]
    have:=WAt.new (g:=lowG g) (v:=lowN (g y).1 (g y).2) (s34 _ _ h3) (fun x hx=>s34 _ _ (h4 x hx)) (upd_same (H:=H4) (a:=r)) hny
    exact this.congr fun x _=>by
     unfold putG
     split
     ·rename_i z; rw [z]; rfl
     ·rfl
  ·rintro σ H3 ⟨v0,v1,v2,rfl,s3,e3,w3⟩
   rw [wD_len,List.take_length] at w3
   refine ⟨d,o,_,e3,(fun o' u z=>by have z:H d=some (.frz o' u):=z; rw [hd] at z; cases z),?_⟩
   have sF:Same H2 (upd H3 d (.dK (wD ks ad))):=fun b u e=>by
    by_cases c:b=d
    ·subst c; rw [hd2] at e; rw [upd_same]; exact e
    ·rw [upd_ne c]; exact s3 b u c e
   refine k D _ (s12.trans sF) (s12.free hD2) ?_
   obtain ⟨ad3,h5,h6⟩:=w3
   exact ⟨ad3,by rw [upd_ne hDd]; exact h5,fun x hx=>by rw [upd_ne (fun z=>by have:=h6 x hx; rw [z,e3] at this; cases this)]; exact h6 x hx⟩
theorem sc_product:FnScope ["one","other"] ["one","other"] (defScope s_product):=⟨rfl,rfl,rfl,by decide +kernel,rfl,by decide +kernel,by decide +kernel⟩
theorem ok_product (T:Txt w K mg t):FnOk P w K mg base (CXr P w) 3 t.f_product t.d_product ["one","other"] sp_product:=by
 refine T.p_product.F.okR sc_product (fun vs H Q E h=>?_) (fun cdv A outer s H vs Q E hr h=>?_)
 ·obtain ⟨p,q,v,f,rfl,_⟩:=h
  rfl
 ·obtain ⟨p,q,v,f,rfl,hp,hq,v1,v2,co,f1,f2,l1,l2,l3,l4,k⟩:=h
  refine ⟨_,(pss_one (ps_ret (pe_call (ok_fraction T) (hr.mono (by decide)) rfl T.p_fraction.g T.p_fraction.F.kp T.p_fraction.b .nil passR (pa_cons (pe_op op_mulB (pe_ix ix_tup (pv 0) pe_int (fun _ _=>rfl)) (pe_ix ix_tup (pv 1) pe_int (fun _ _=>rfl))) (pa_cons (pe_op op_mulB (pe_ix ix_tup (pv 0) pe_int (fun _ _=>rfl)) (pe_ix ix_tup (pv 1) pe_int (fun _ _=>rfl))) pa_nil))))),?_⟩
  have l3':f.1 < 2 ^ 60000:=Nat.lt_of_lt_of_le l3 (Nat.pow_le_pow_right (by decide) (by decide))
  have l4':f.2 < 2 ^ 60000:=Nat.lt_of_lt_of_le l4 (Nat.pow_le_pow_right (by decide) (by decide))
  refine ⟨_,rfl,p,_,_,_,rfl,rfl,SqT.of hp,rfl,_,rfl,q,_,_,_,rfl,rfl,SqT.of hq,rfl,_,_,rfl,rfl,mulN l1 l3',?_⟩
  refine ⟨_,rfl,p,_,_,_,rfl,rfl,SqT.of hp,rfl,_,rfl,q,_,_,_,rfl,rfl,SqT.of hq,rfl,_,_,rfl,rfl,mulN l2 l4',?_⟩
  refine ⟨(v.1:Int) * f.1,(v.2:Int) * f.2,rfl,fun m n em en hm hn=>?_,fun z=>?_⟩
  ·have em:m=v.1 * f.1:=by rw [← Int.natCast_mul] at em; omega
   have en:n=v.2 * f.2:=by rw [← Int.natCast_mul] at en; omega
   subst em en
   refine ⟨?_,fun r hr=>k r hr⟩
   refine Nat.lt_of_le_of_lt (gcd_mul_le (f:=f) co f1 f2) ?_
   calc f.1 * f.2 < 2 ^ 4000 * 2 ^ 4000:=Nat.mul_lt_mul'' l3 l4
    _=2 ^ 8000:=by rw [← Nat.pow_add]
    _≤2 ^ 8900:=Nat.pow_le_pow_right (by decide) (by decide)
  ·exfalso
   have p1:=Nat.mul_pos (Nat.lt_of_lt_of_le Nat.one_pos v1) (Nat.lt_of_lt_of_le Nat.one_pos f1)
   have p2:=Nat.mul_pos (Nat.lt_of_lt_of_le Nat.one_pos v2) (Nat.lt_of_lt_of_le Nat.one_pos f2)
   rw [← Int.natCast_mul,← Int.natCast_mul] at z
   omega
theorem sc_stretched:FnScope ["tent","worths","seam","behind","top","bottom","more","less","place","factor","name"] ["tent","worths","seam"] (defScope s_stretched):=⟨rfl,rfl,rfl,by decide +kernel,rfl,by decide +kernel,by decide +kernel⟩
theorem ok_stretched (T:Txt w K mg t):FnOk P w K mg base (CXr P w) 5 t.f_stretched t.d_stretched ["tent","worths","seam"] (sp_stretched t.C_Tent):=by
 refine T.p_stretched.F.okR sc_stretched (fun vs H Q E h=>?_) (fun cdv A outer s H vs Q E hr h=>?_)
 ·obtain ⟨p,d,M,ns,ks,g,x,a,b,rfl,_⟩:=h
  rfl
 ·obtain ⟨p,d,M,ns,ks,g,x,a,b,rfl,ta,td,h64,wa,sw,ok,mv,lt1,lt2,k⟩:=h
  have hu:=hu_of hr
  refine ⟨_,(pss_cons (ps_expr (pe_call (ok_look_free T) (hr.mono (by decide)) rfl T.p_look_free.g T.p_look_free.F.kp T.p_look_free.b .nil passR (pa_cons (pv 0) (pa_cons (pv 2) pa_nil))))
   (pss_cons (ps_set (i:=3) sc_stretched.nd rfl (Or.inl rfl) (pe_call (ok_lowest_worths T) (hr.mono (by decide)) rfl T.p_lowest_worths.g T.p_lowest_worths.F.kp T.p_lowest_worths.b .nil passR (pa_cons (pv 0) (pa_cons (pv 1) pa_nil))))
   (pss_cons (ps_asg (pe_dget hu (pv 3) (pv 2) (fun _ _=>rfl)) (pg_tup rfl (pgs_cons (pg_name (i:=4) sc_stretched.nd rfl (Or.inl rfl)) (pgs_cons (pg_name (i:=5) sc_stretched.nd rfl (Or.inl rfl)) pgs_nil))))
   (pss_cons (ps_set (i:=6) sc_stretched.nd rfl (Or.inl rfl) (pe_tup (pa_cons (pe_op op_add (pv 4) (pv 5)) (pa_cons (pv 5) pa_nil))))
   (pss_cons (ps_set (i:=7) sc_stretched.nd rfl (Or.inl rfl) (pe_tup (pa_cons (pv 4) (pa_cons (pe_op op_add (pv 4) (pv 5)) pa_nil))))
   (pss_cons (ps_for PassesOwn.never rfl (pi_zip2 rfl T.n_zip (pa_cons (pe_call (ok_square T) (hr.mono (by decide)) rfl T.p_square.g T.p_square.F.kp T.p_square.b .nil passR (pa_cons (pv 0) (pa_cons (pv 2) pa_nil))) (pa_cons (pe_lst (pa_cons (pv 6) (pa_cons (pv 7) (pa_cons (pv 6) (pa_cons (pv 7) pa_nil))))) pa_nil))) (pg_tup rfl (pgs_cons (pg_name (i:=8) sc_stretched.nd rfl (Or.inl rfl)) (pgs_cons (pg_name (i:=9) sc_stretched.nd rfl (Or.inl rfl)) pgs_nil))) (pss_cons (ps_set (i:=10) sc_stretched.nd rfl (Or.inl rfl) (pe_meth (pv 0) T.cl_Tent T.p_Tent_seam_at.m (ok_Tent_seam_at T) (hr.mono (by decide)) T.p_Tent_seam_at.b .nil passR (pa_cons (pv 8) pa_nil)))
   (pss_one (ps_if (pt_cmp (pc_din hu (pv 10) (pv 3)) (by with_unfolding_all rfl)) (pss_one (ps_dput hu (pv 3) (pv 10) (pe_call (ok_product T) (hr.mono (by decide)) rfl T.p_product.g T.p_product.F.kp T.p_product.b .nil passR (pa_cons (pe_dget hu (pv 3) (pv 10) (fun _ _=>rfl)) (pa_cons (pv 9) pa_nil))) rfl)) pss_nil))))
   (pss_cons (ps_dput hu (pv 3) (pv 2) (pe_tup (pa_cons (pv 5) (pa_cons (pv 4) pa_nil))) rfl)
   (pss_one (ps_ret (pv 3)))))))))),?_⟩
  obtain ⟨ha,hb⟩:=mv.lts td
  obtain ⟨n,n1,n40,hn⟩:=td.n
  have hMl:=td.len
  obtain ⟨hk,hpl⟩:=pl_two td mv.hM mv.lt mv.nm
  have hs:sortOf ns x="free":=by unfold sortOf; rw [hpl]; exact if_neg mv.ab
  have hxk:x∈ks:=(sw.mem x).mpr ⟨a,b,mv.hM,mv.nm⟩
  refine seq_cut fun nxC hnxC=>?_
  refine ⟨_,rfl,_,rfl,p,M,ns,x,rfl,ta,td,fun _ H1 s1=>⟨fun e=>absurd (hs.symm.trans e) (by decide),fun e=>absurd (hs.symm.trans e) (by decide),fun _=>?_⟩,fun z=>absurd hk z⟩
  refine hnxC _ _ ?_
  refine seq_cut fun nxC hnxC=>?_
  refine ⟨_,rfl,_,rfl,p,d,M,ns,ks,g,rfl,ta.same s1,td,h64,wa.same s1,sw,fun y hy=>⟨(ok y hy).1,(ok y hy).2.1,(ok y hy).2.2.1⟩,fun d' H2 s2 hd' w2=>?_⟩
  refine hnxC _ _ ?_
  try dsimp only [gName]
  have hd0:H d'=none:=s1.free hd'
  have s12:=s1.trans s2
  obtain ⟨ad,e1,e2⟩:=id w2
  refine seq_cut fun nxC hnxC=>?_
  refine ⟨_,rfl,_,rfl,d',_,rfl,wD_get (.inl e1) hxk,ad x,_,rfl,SqT.of (e2 x hxk),rfl,_,_,rfl,_,_,rfl,rfl,?_⟩
  refine hnxC _ _ ?_
  try dsimp only [gName]
  have vx:Val (lowG g x) (g x).1 (g x).2:=low_val (ok x hxk).1 (ok x hxk).2.1
  generalize etu:lowG g x=tu at *
  refine seq_cut fun nxC hnxC=>?_
  refine ⟨_,rfl,_,rfl,_,_,rfl,rfl,_,rfl,(by show 2≤sizeLine; rw [sizeLine_eq]; decide),fun mo hmo=>?_⟩
  refine hnxC _ _ ?_
  have s3:Same H2 (upd H2 mo (.tup [V.int ((tu.1:Int) + tu.2),V.int tu.2])):=Same.new hmo
  have h3:(upd H2 mo (.tup [V.int ((tu.1:Int) + tu.2),V.int tu.2])) mo=some (tp (tu.1 + tu.2,tu.2)):=by rw [upd_same]; unfold tp; rw [Int.natCast_add]
  show tSeq _ _ _ _ (upd H2 mo (.tup [V.int ((tu.1:Int) + tu.2),V.int tu.2]))
  generalize upd H2 mo (.tup [V.int ((tu.1:Int) + tu.2),V.int tu.2])=H3 at s3 h3 ⊢
  try dsimp only [gName]
  refine seq_cut fun nxC hnxC=>?_
  refine ⟨_,rfl,_,rfl,_,rfl,_,_,rfl,rfl,(by show 2≤sizeLine; rw [sizeLine_eq]; decide),fun le hle=>?_⟩
  refine hnxC _ _ ?_
  have s4:Same H3 (upd H3 le (.tup [V.int tu.1,V.int ((tu.1:Int) + tu.2)])):=Same.new hle
  have h4:(upd H3 le (.tup [V.int tu.1,V.int ((tu.1:Int) + tu.2)])) le=some (tp (tu.1,tu.1 + tu.2)):=by rw [upd_same]; unfold tp; rw [Int.natCast_add]
  show tSeq _ _ _ _ (upd H3 le (.tup [V.int tu.1,V.int ((tu.1:Int) + tu.2)]))
  generalize upd H3 le (.tup [V.int tu.1,V.int ((tu.1:Int) + tu.2)])=H4 at s4 h4 ⊢
  try dsimp only [gName]
  have s24:=s3.trans s4
  have h34:=s4 _ _ h3
  have sH4:=s12.trans s24
  clear s3 h3 hmo hle
  refine seq_post (fun σ H'=>∃ v8 v9 v10,σ=[some (.ref p),some (.ref d),some (.int x),some (.ref d'),some (.int tu.1),some (.int tu.2),some (.ref mo),some (.ref le),v8,v9,v10]∧Same H H'∧WAt H' d' ks (stG ks (sqX ns a b) tu (lowG g) 4)) (fun nx hnx=>?_) ?_
  ·refine ⟨_,rfl,_,rfl,p,M,ns,x,rfl,ta.same sH4,td,fun _ H5 s5=>⟨fun e=>absurd (hs.symm.trans e) (by decide),fun e=>absurd (hs.symm.trans e) (by decide),fun a' b' sq e1 e2 e3 e4 e5 e6=>?_⟩,fun z=>absurd hk z⟩
   rw [hpl] at e1
   cases e1
   refine ⟨_,rfl,_,rfl,_,rfl,_,rfl,(by show 4≤sizeLine; rw [sizeLine_eq]; decide),fun ls hls=>?_⟩
   have s6:Same H5 (upd H5 ls (.lst [V.ref mo,V.ref le,V.ref mo,V.ref le])):=Same.new hls
   have h6:(upd H5 ls (.lst [V.ref mo,V.ref le,V.ref mo,V.ref le])) ls=some (.lst [V.ref mo,V.ref le,V.ref mo,V.ref le]):=upd_same
   have e7:=s6 _ _ e6
   generalize upd H5 ls (.lst [V.ref mo,V.ref le,V.ref mo,V.ref le])=H6 at s6 h6 e7 ⊢
   have s46:=s5.trans s6
   refine ⟨.t sq,.l ls,_,_,rfl,SqT.of e7,SqL.of h6,?_⟩
   refine for_zip2 (xs:=sqr a b) (ys:=[V.ref mo,V.ref le,V.ref mo,V.ref le]) rfl (fun i σ H'=>∃ v8 v9 v10,σ=[some (.ref p),some (.ref d),some (.int x),some (.ref d'),some (.int tu.1),some (.int tu.2),some (.ref mo),some (.ref le),v8,v9,v10]∧Same H H'∧H' sq=some (.tup (sqr a b))∧H' ls=some (.lst [V.ref mo,V.ref le,V.ref mo,V.ref le])∧H' mo=some (tp (tu.1 + tu.2,tu.2))∧H' le=some (tp (tu.1,tu.1 + tu.2))∧WAt H' d' ks (stG ks (sqX ns a b) tu (lowG g) i)) ⟨_,_,_,rfl,sH4.trans s46,e7,h6,s46 _ _ h34,s46 _ _ h4,w2.same (s24.trans s46)⟩ ?_ ?_ ?_
   ·rintro i σ H' _ ⟨v8,v9,v10,rfl,_,q1,q2,_⟩
    exact ⟨SqT.of q1,SqL.of q2⟩
   ·rintro i x0 y0 σ H7 q hx0 hy0 hq ⟨v8,v9,v10,rfl,s7,q1,q2,q3,q4,w7⟩
    have hi:i < 4:=(List.getElem?_eq_some_iff.mp hx0).1
    obtain ⟨rfl,fa,rfl,hfa⟩:x0=V.int (sqP a b i:Nat)∧∃ fa,y0=V.ref fa∧H7 fa=some (tp (frc tu i)):=by
     have:i=0∨i=1∨i=2∨i=3:=by omega
     unfold sqr at hx0
     rw [aN_eq,bN_eq,aN_eq,bN_eq] at hx0
     rcases this with rfl | rfl | rfl | rfl
     ·cases hx0; cases hy0; exact ⟨rfl,mo,rfl,q3⟩
     ·cases hx0; cases hy0; exact ⟨rfl,le,rfl,q4⟩
     ·cases hx0; cases hy0; exact ⟨rfl,mo,rfl,q3⟩
     ·cases hx0; cases hy0; exact ⟨rfl,le,rfl,q4⟩
    have sq8:Same H7 (upd H7 q (.tup [V.int (sqP a b i:Nat),V.ref fa])):=Same.new hq
    have hq8:(upd H7 q (.tup [V.int (sqP a b i:Nat),V.ref fa])) q=some (.tup [V.int (sqP a b i:Nat),V.ref fa]):=upd_same
    generalize upd H7 q (.tup [V.int (sqP a b i:Nat),V.ref fa])=H8 at sq8 hq8 ⊢
    have hpt:sqP a b i < M.length:=by rw [hn] at ha hb ⊢; exact sqP_lt ha hb
    have hnm:=nm_at td hpt
    rw [← sqX_at hi] at hnm
    refine ⟨q,_,rfl,SqT.of hq8,rfl,_,_,rfl,_,_,rfl,rfl,?_⟩
    have s78:=s7.trans sq8
    have ta8:=ta.same s78
    obtain ⟨dx,cl,na,sp,mt,o,ff,B⟩:=id ta8
    refine seq_cut fun nxC hnxC=>?_
    refine ⟨_,rfl,p,dx,_,rfl,B.ins,fl_none _ _ _ _,_,rfl,p,M,ns,_,rfl,ta8,fun i' y' z1 z2=>?_,fun z=>absurd ⟨by omega,by omega⟩ z⟩
    obtain rfl:sqP a b i=i':=by omega
    rw [hnm] at z2
    cases z2
    refine hnxC _ _ ?_
    try dsimp only [gName]
    obtain ⟨ad8,e8,e9⟩:=w7.same sq8
    refine ⟨_,rfl,_,rfl,d',_,rfl,.inl ⟨_,Sum.inl ((sqX ns a b).getD i 0),.inl e8,rfl,rfl⟩,_,rfl,?_⟩
    rw [wD_val]
    generalize hxy:(sqX ns a b).getD i 0=y at *
    by_cases hy:y∈ks
    ·rw [if_pos hy]
     refine iteT ?_
     have vy:Val (stG ks (sqX ns a b) tu (lowG g) i y) ((g y).1 * nuN (flg ks (sqX ns a b) y) tu i) ((g y).2 * deN (flg ks (sqX ns a b) y) tu i):=by rw [stG_at]; exact ch_val (low_val (ok y hy).1 (ok y hy).2.1) vx.p1 vx.p2 i
     have bd:(stG ks (sqX ns a b) tu (lowG g) i y).1 < 2 ^ 60000∧(stG ks (sqX ns a b) tu (lowG g) i y).2 < 2 ^ 60000:=by
      rw [stG_at]
      have l0:=lowN_le (g y).1 (g y).2
      obtain ⟨c1,c2⟩:=ch_le (e:=flg ks (sqX ns a b) y) (tu:=tu) (v:=lowG g y) (B:=2 ^ 8900) (S:=2 ^ 4000) ⟨Nat.le_trans l0.1 (Nat.le_of_lt (ok y hy).2.2.1),Nat.le_trans l0.2 (Nat.le_of_lt (ok y hy).2.2.2)⟩ (by
       have:tu.1 + tu.2 < 2 ^ 3999 + 2 ^ 3999:=Nat.add_lt_add lt1 lt2
       rw [show 2 ^ 3999 + 2 ^ 3999=2 ^ 4000 by rw [← Nat.two_mul,← Nat.pow_succ']] at this
       exact Nat.le_of_lt this) (Nat.one_le_two_pow) i
      have cn:cnN (flg ks (sqX ns a b) y) i≤4:=by
       have:∀ (e:Nat→Bool) (j:Nat),cnN e j≤j:=fun e j=>by
        induction j with
        | zero=>exact Nat.le_refl _
        | succ j ih=>unfold cnN; split <;> omega
       have:=this (flg ks (sqX ns a b) y) i
       omega
      have top:2 ^ 8900 * (2 ^ 4000) ^ cnN (flg ks (sqX ns a b) y) i < 2 ^ 60000:=by
       rw [← Nat.pow_mul,← Nat.pow_add]
       exact Nat.pow_lt_pow_right (by decide) (by omega)
      exact ⟨Nat.lt_of_le_of_lt c1 top,Nat.lt_of_le_of_lt c2 top⟩
     obtain ⟨f1,f2⟩:=frc_pos vx.p1 vx.p2 i
     have fl:=frc_le tu i
     have fb:tu.1 + tu.2 < 2 ^ 4000:=by
      have:tu.1 + tu.2 < 2 ^ 3999 + 2 ^ 3999:=Nat.add_lt_add lt1 lt2
      rw [show 2 ^ 3999 + 2 ^ 3999=2 ^ 4000 by rw [← Nat.two_mul,← Nat.pow_succ']] at this
      exact this
     refine ⟨_,rfl,_,rfl,d',_,rfl,wD_get (.inl e8) hy,_,rfl,ad8 y,fa,_,frc tu i,rfl,e9 y hy,sq8 _ _ hfa,vy.p1,vy.p2,vy.co,f1,f2,bd.1,bd.2,Nat.lt_of_le_of_lt fl.1 fb,Nat.lt_of_le_of_lt fl.2 fb,fun r hr=>?_⟩
     have sr:Same H8 (upd H8 r (tp (lw2 (stG ks (sqX ns a b) tu (lowG g) i y) (frc tu i)))):=Same.new hr
     have hr9:(upd H8 r (tp (lw2 (stG ks (sqX ns a b) tu (lowG g) i y) (frc tu i)))) r=some (tp (lw2 (stG ks (sqX ns a b) tu (lowG g) i y) (frc tu i))):=upd_same
     generalize upd H8 r (tp (lw2 (stG ks (sqX ns a b) tu (lowG g) i y) (frc tu i)))=H9 at sr hr9 ⊢
     have hkl:=sw.len td
     refine ⟨_,rfl,_,rfl,d',_,rfl,DPut.k (k:=Sum.inl y) (sr _ _ e8) (by rw [wD_len]; exact small1000 (by omega)),?_⟩
     have ndt:∀ r u,H9 r=some (.tup u)→r≠d':=fun r u h z=>by rw [z,sr _ _ e8] at h; cases h
     have ndl:ls≠d':=fun z=>by have:=sr _ _ (sq8 _ _ q2); rw [z,sr _ _ e8] at this; cases this
     have s89:=sq8.trans sr
     refine ⟨_,_,_,rfl,Same.add (s7.trans s89) hd0,?_,?_,?_,?_,?_⟩
     ·rw [upd_ne (ndt _ _ (s89 _ _ q1))]; exact s89 _ _ q1
     ·rw [upd_ne ndl]; exact s89 _ _ q2
     ·rw [upd_ne (ndt _ _ (s89 _ _ q3))]; exact s89 _ _ q3
     ·rw [upd_ne (ndt _ _ (s89 _ _ q4))]; exact s89 _ _ q4
     ·have:=WAt.put (sr _ _ e8) (fun x hx=>sr _ _ (e9 x hx)) hr9 hy
      have est:stG ks (sqX ns a b) tu (lowG g) (i + 1)=putG (stG ks (sqX ns a b) tu (lowG g) i) y (lw2 (stG ks (sqX ns a b) tu (lowG g) i y) (frc tu i)):=by
       conv=>lhs; unfold stG
       rw [hxy,if_pos hy]
      rw [est]
      exact this
    ·rw [if_neg hy]
     refine iteF ⟨_,_,_,rfl,s78,sq8 _ _ q1,sq8 _ _ q2,sq8 _ _ q3,sq8 _ _ q4,?_⟩
     have est:stG ks (sqX ns a b) tu (lowG g) (i + 1)=stG ks (sqX ns a b) tu (lowG g) i:=by
      conv=>lhs; unfold stG
      rw [hxy,if_neg hy]
     rw [est]
     exact w7.same sq8
   ·rintro σ H7 ⟨v8,v9,v10,rfl,s7,q1,q2,q3,q4,w7⟩
    exact hnx _ _ ⟨_,_,_,rfl,s7,w7⟩
  rintro σ H7 ⟨v8,v9,v10,rfl,s7,ad7,e7,e8⟩
  have hkl:=sw.len td
  refine seq_cut fun nxC hnxC=>?_
  refine ⟨_,rfl,_,rfl,(by show 2≤sizeLine; rw [sizeLine_eq]; decide),fun r hr=>?_⟩
  have sr:Same H7 (upd H7 r (.tup [V.int tu.2,V.int tu.1])):=Same.new hr
  have hr9:(upd H7 r (.tup [V.int tu.2,V.int tu.1])) r=some (tp (tu.2,tu.1)):=upd_same
  refine ⟨_,rfl,_,rfl,d',_,rfl,DPut.k (k:=Sum.inl x) (sr _ _ e7) (by rw [wD_len]; exact small1000 (by omega)),?_⟩
  refine hnxC _ _ ?_
  refine ⟨_,rfl,k d' _ (Same.add (s7.trans sr) hd0) hd0 ?_⟩
  have:=WAt.put (sr _ _ e7) (fun x hx=>sr _ _ (e8 x hx)) hr9 hxk
  unfold strG
  rw [etu]
  exact this
end
end KT
set_option maxHeartbeats 4000000
namespace KT
open PySem L2
noncomputable def sp_worths:Sp:=fun vs H Q _=>∃ (m r nm:Addr) (M:List (Option Nat)) (ns xs:List Int),vs=[.ref m,.ref r,.ref nm]∧H m=some (.lst (M.map mV))∧RowsAt H r ns∧TD M ns∧M.length≤42∧H nm=some (.lst (xs.map V.int))∧xs.length=60∧(∀ x∈xs,0≤x∧x < 1009) ∧
 ∀ (d:Addr) (H':Hp) (ks:List Int) (g:Int→Nat × Nat),Same H H'→H d=none→WAt H' d ks g→SwK M ns ks→(∀ x∈ks,1≤(g x).1∧1≤(g x).2∧(g x).1≤100∧(g x).2≤100)→Q (.ref d) H'
section
variable {P:Program} {w:World} {K:PySem.W.Frag} {mg:Str→Option Value} {base:Heap} {t:Adr}
theorem sc_l_worths:FnScope ["_law_mates","_law_rows_here","_law_nums","_law_bound","_law_worths_here","_law_p","_law_top"] ["_law_mates","_law_rows_here","_law_nums"] (defScope s_l_worths):=⟨rfl,rfl,rfl,by decide +kernel,rfl,by decide +kernel,by decide +kernel⟩
theorem ok_l_worths (T:Txt w K mg t):FnOk P w K mg base (CXr P w) 1 t.f_l_worths t.d_l_worths ["_law_mates","_law_rows_here","_law_nums"] sp_worths:=by
 refine T.p_l_worths.F.okR sc_l_worths (fun vs H Q E h=>?_) (fun cdv A outer s H vs Q E hr h=>?_)
 ·obtain ⟨m,r,nm,M,ns,xs,rfl,_⟩:=h
  rfl
 ·obtain ⟨m,r,nm,M,ns,xs,rfl,hm,hr1,td,h42,hnm,hxl,hxs,k⟩:=h
  have hu:=hu_of hr
  refine ⟨_,(pss_cons (ps_set (i:=3) sc_l_worths.nd rfl (Or.inl rfl) (pe_ix ix_tup (pe_tup (pa_cons pe_int (pa_cons pe_int (pa_cons pe_int (pa_cons pe_int pa_nil))))) (pe_op op_mod (pe_ix ix_list (pv 2) pe_int (fun _ _=>rfl)) pe_int) (fun _ _=>rfl)))
   (pss_cons (ps_set (i:=4) sc_l_worths.nd rfl (Or.inl rfl) pe_dnewK)
   (pss_cons (ps_for PassesOwn.never rfl (pi_range1 rfl T.n_range (pa_cons (pe_callB call_len_seq (by rfl) T.n_len PySem.boot_len (pa_cons (pv 0) pa_nil)) pa_nil)) (pg_name (i:=5) sc_l_worths.nd rfl (Or.inl rfl)) (pss_one (ps_if (PW.pt (pw_and (pt_cmpR op_notN (pe_ix ix_list (pv 0) (pv 5) (fun _ _=>rfl)) pe_non (nomark _)) (pw_and1 (pt_cmpR op_lt (pv 5) (pe_ix ix_list (pv 0) (pv 5) (fun _ _=>rfl)) (nomark _))))) (pss_cons (ps_set (i:=6) sc_l_worths.nd rfl (Or.inl rfl) (pe_op op_add pe_int (pe_op op_mod (pe_ix ix_list (pv 2) (pe_op op_add (pv 5) pe_int) (fun _ _=>rfl)) (pv 3))))
   (pss_one (ps_dput hu (pv 4) (pe_ix ix_tup (pe_ix ix_list (pv 1) (pe_op op_fdiv (pv 5) pe_int) (fun _ _=>rfl)) (pe_op op_mod (pv 5) pe_int) (fun _ _=>rfl)) (pe_tup (pa_cons (pv 6) (pa_cons (pe_op op_add pe_int (pe_op op_mod (pe_op op_fdiv (pe_ix ix_list (pv 2) (pe_op op_add (pv 5) pe_int) (fun _ _=>rfl)) pe_int) (pv 3))) pa_nil))) rfl))) pss_nil)))
   (pss_one (ps_ret (pv 4)))))),?_⟩
  have hMl:=td.len
  have at':∀ i:Nat,i < 60→∃ x,atI (xs.map V.int) (i:Int)=some (V.int x)∧0≤x∧x < 1009:=fun i hi=>by
   have e:=List.getElem?_eq_getElem (show i < xs.length by omega)
   exact ⟨xs[i],map_at e,hxs _ (List.getElem_mem _)⟩
  obtain ⟨x0,e0,p0,q0⟩:=at' 0 (by decide)
  have e0:atI (xs.map V.int) 0=some (V.int x0):=e0
  have m0:=Int.emod_nonneg x0 (show (4:Int)≠0 by decide)
  have m1:=Int.emod_lt_of_pos x0 (show (0:Int) < 4 by decide)
  obtain ⟨bd,hbd,hb1,hb2⟩:∃ bd:Int,atI ([V.int 9,V.int 3,V.int 1,V.int 100]) (x0 % 4)=some (V.int bd)∧1≤bd∧bd≤100:=by
   have:x0 % 4=0∨x0 % 4=1∨x0 % 4=2∨x0 % 4=3:=by omega
   rcases this with e | e | e | e <;> rw [e]
   ·exact ⟨9,rfl,by decide,by decide⟩
   ·exact ⟨3,rfl,by decide,by decide⟩
   ·exact ⟨1,rfl,by decide,by decide⟩
   ·exact ⟨100,rfl,by decide,by decide⟩
  refine seq_cut fun nxC hnxC=>?_
  refine ⟨(by show 4≤sizeLine; rw [sizeLine_eq]; decide),fun q1 hq1=>?_⟩
  have s1:Same H (upd H q1 (.tup [V.int 9,V.int 3,V.int 1,V.int 100])):=Same.new hq1
  refine ⟨_,rfl,nm,_,_,_,rfl,rfl,SqL.of (s1 _ _ hnm),e0,_,_,rfl,rfl,(by show (0:Int) < 4; decide),q1,_,_,_,rfl,rfl,SqT.of upd_same,hbd,?_⟩
  refine hnxC _ _ ?_
  show tSeq _ _ _ _ (upd H q1 (.tup [V.int 9,V.int 3,V.int 1,V.int 100]))
  generalize upd H q1 (.tup [V.int 9,V.int 3,V.int 1,V.int 100])=H1 at s1 ⊢
  try dsimp only [gName]
  refine seq_cut fun nxC hnxC=>?_
  intro d hd
  refine hnxC _ _ ?_
  have hd0:H d=none:=s1.free hd
  have s2:Same H (upd H1 d (.dK [])):=Same.add s1 hd0
  have h2:WAt (upd H1 d (.dK [])) d [] (fun _=>(1,1)):=⟨fun _=>0,upd_same,fun x hx=>absurd hx List.not_mem_nil⟩
  generalize upd H1 d (.dK [])=H2 at s2 h2 ⊢
  clear s1 hd hq1
  try dsimp only [gName]
  show tSeq (tFor _ _ _) _ _ _ _
  refine seq_post (fun σ H'=>∃ (ks:List Int) (g:Int→Nat × Nat) (v5 v6:Option V),σ=[some (.ref m),some (.ref r),some (.ref nm),some (.int bd),some (.ref d),v5,v6]∧Same H H'∧WAt H' d ks g∧ks.Nodup∧(∀ x,x∈ks ↔ ∃ p j:Nat,p < M.length∧M[p]?=some (some j)∧p < j∧ns[p]?=some x)∧∀ x∈ks,1≤(g x).1∧1≤(g x).2∧(g x).1≤100∧(g x).2≤100) (fun nx hnx=>?_) ?_
  ·refine ⟨_,rfl,m,_,rfl,.inl (SqL.of (s2 _ _ hm)),_,rfl,by omega,by rw [List.length_map]; omega,?_⟩
   have eL:(((M.map mV).length:Nat):Int).toNat=M.length:=by simp
   rw [eL]
   refine for_range (n:=M.length) (fun i σ H'=>∃ (ks:List Int) (g:Int→Nat × Nat) (v5 v6:Option V),σ=[some (.ref m),some (.ref r),some (.ref nm),some (.int bd),some (.ref d),v5,v6]∧Same H H'∧WAt H' d ks g∧ks.length≤i∧ks.Nodup∧(∀ x,x∈ks ↔ ∃ p j:Nat,p < i∧M[p]?=some (some j)∧p < j∧ns[p]?=some x)∧∀ x∈ks,1≤(g x).1∧1≤(g x).2∧(g x).1≤100∧(g x).2≤100) ⟨[],_,_,_,rfl,s2,h2,Nat.le_refl _,List.nodup_nil,fun x=>⟨fun z=>absurd z List.not_mem_nil,fun ⟨p,j,z,_⟩=>by omega⟩,fun x hx=>absurd hx List.not_mem_nil⟩ ?_ ?_
   ·rintro i σ H3 hi ⟨ks,g,v5,v6,rfl,s3,w3,hkl,nd,mem,bds⟩
    dsimp only [gName]
    rw [Int.zero_add]
    obtain ⟨my,hmy⟩:∃ z,M[i]?=some z:=⟨_,List.getElem?_eq_getElem hi⟩
    refine ⟨_,rfl,_,rfl,m,_,_,_,rfl,rfl,SqL.of (s3 _ _ hm),map_at hmy,rfl,_,rfl,?_⟩
    cases my with
    | none =>
     refine iteF (iteF ⟨ks,g,_,_,rfl,s3,w3,by omega,nd,fun x=>?_,bds⟩)
     rw [mem]
     exact ⟨fun ⟨p,j,z1,z2⟩=>⟨p,j,by omega,z2⟩,fun ⟨p,j,z1,z2,z3⟩=>by
      rcases Nat.lt_or_ge p i with q | q
      ·exact ⟨p,j,q,z2,z3⟩
      ·have:p=i:=by omega
       subst this; rw [hmy] at z2; cases z2⟩
    | some j =>
     refine iteT ⟨_,rfl,_,rfl,_,rfl,m,_,_,_,rfl,rfl,SqL.of (s3 _ _ hm),map_at hmy,_,_,rfl,rfl,_,rfl,?_⟩
     by_cases c:i < j
     ·rw [decide_eq_true (by omega:(i:Int) < (j:Int))]
      refine iteT ?_
      obtain ⟨y,hy⟩:∃ y,ns[i]?=some y:=⟨_,List.getElem?_eq_getElem (by omega)⟩
      obtain ⟨x1,ex,p1,q1⟩:=at' (i + 1) (by omega)
      have ex:atI (xs.map V.int) ((i:Int) + 1)=some (V.int x1):=by rw [← ex]; rfl
      have t0:=Int.emod_nonneg x1 (show bd≠0 by omega)
      have t1:=Int.emod_lt_of_pos x1 (show 0 < bd by omega)
      have u0:=Int.emod_nonneg (x1 / 9) (show bd≠0 by omega)
      have u1:=Int.emod_lt_of_pos (x1 / 9) (show 0 < bd by omega)
      have hnm3:=s3 _ _ hnm
      refine seq_cut fun nxC hnxC=>?_
      refine ⟨_,rfl,_,rfl,_,_,rfl,rfl,nm,_,_,_,rfl,rfl,SqL.of hnm3,ex,_,rfl,_,_,rfl,rfl,(by show 0 < bd; omega),_,_,rfl,rfl,?_⟩
      refine hnxC _ _ ?_
      try dsimp only [gName]
      obtain ⟨us,q,w1,w2,w3',w4⟩:=row_at (hr1.same s3) hy
      refine ⟨_,rfl,_,rfl,_,rfl,_,_,rfl,rfl,nm,_,_,_,rfl,rfl,SqL.of hnm3,ex,_,_,rfl,rfl,⟨by decide,by decide⟩,_,rfl,_,_,rfl,rfl,(by show 0 < bd; omega),_,_,rfl,rfl,(by show 2≤sizeLine; rw [sizeLine_eq]; decide),fun tq htq=>?_⟩
      have sq:Same H3 (upd H3 tq (.tup [V.int (1 + x1 % bd),V.int (1 + x1 / 9 % bd)])):=Same.new htq
      have hq:(upd H3 tq (.tup [V.int (1 + x1 % bd),V.int (1 + x1 / 9 % bd)])) tq=some (tp ((1 + x1 % bd).toNat,(1 + x1 / 9 % bd).toNat)):=by
       rw [upd_same]; unfold tp
       rw [Int.toNat_of_nonneg (by omega),Int.toNat_of_nonneg (by omega)]
      refine ⟨_,rfl,_,rfl,_,rfl,_,_,rfl,rfl,⟨by decide,by decide⟩,r,_,_,_,rfl,rfl,SqL.of (sq _ _ w1),(by rw [div3]; exact map_at w2),_,rfl,_,_,rfl,rfl,(by show (0:Int) < 3; decide),q,_,_,_,rfl,rfl,SqT.of (sq _ _ w3'),(by rw [mod3]; exact atI_nat w4),?_⟩
      obtain ⟨ad,e1,e2⟩:=w3
      refine ⟨d,_,rfl,DPut.k (k:=Sum.inl y) (sq _ _ e1) (by rw [wD_len]; exact small1000 (by omega)),?_⟩
      have hny:y ∉ ks:=fun z=>by
       obtain ⟨p,j',z1,z2,z3,z4⟩:=(mem y).mp z
       rcases td.eqv p i y z4 hy with e | e
       ·omega
       ·rw [z2] at e
        cases e
        have:=(td.inv p i z2).1
        rw [hmy] at this
        cases this
        omega
      have wn:=WAt.new (sq _ _ e1) (fun x hx=>sq _ _ (e2 x hx)) hq hny
      refine ⟨ks ++ [y],_,_,_,rfl,Same.add (s3.trans sq) hd0,wn,by rw [List.length_append,List.length_singleton]; omega,?_,fun x=>?_,fun x hx=>?_⟩
      ·rw [List.nodup_append]
       refine ⟨nd,by simp,fun a ha b hb e=>?_⟩
       rw [List.mem_singleton] at hb
       subst hb e
       exact hny ha
      ·rw [List.mem_append,mem,List.mem_singleton]
       constructor
       ·rintro (⟨p,j',z1,z2⟩ | rfl)
        ·exact ⟨p,j',by omega,z2⟩
        ·exact ⟨i,j,by omega,hmy,c,hy⟩
       ·rintro ⟨p,j',z1,z2,z3,z4⟩
        rcases Nat.lt_or_ge p i with q | q
        ·exact .inl ⟨p,j',q,z2,z3,z4⟩
        ·have:p=i:=by omega
         subst this
         rw [hy] at z4
         cases z4
         exact .inr rfl
      ·unfold putG
       by_cases z:x=y
       ·rw [if_pos z]
        exact ⟨by show 1≤(1 + x1 % bd).toNat; omega,by show 1≤(1 + x1 / 9 % bd).toNat; omega,by show (1 + x1 % bd).toNat≤100; omega,by show (1 + x1 / 9 % bd).toNat≤100; omega⟩
       ·rw [if_neg z]
        refine bds x ?_
        rcases List.mem_append.mp hx with q | q
        ·exact q
        ·exact absurd (List.mem_singleton.mp q) z
     ·rw [decide_eq_false (by omega:¬ (i:Int) < (j:Int))]
      refine iteF ⟨ks,g,_,_,rfl,s3,w3,by omega,nd,fun x=>?_,bds⟩
      rw [mem]
      exact ⟨fun ⟨p,j,z1,z2⟩=>⟨p,j,by omega,z2⟩,fun ⟨p,j',z1,z2,z3,z4⟩=>by
       rcases Nat.lt_or_ge p i with q | q
       ·exact ⟨p,j',q,z2,z3,z4⟩
       ·have:p=i:=by omega
        subst this
        rw [hmy] at z2
        cases z2
        omega⟩
   ·rintro σ H3 ⟨ks,g,v5,v6,rfl,s3,w3,hkl,nd,mem,bds⟩
    exact hnx _ _ ⟨ks,g,_,_,rfl,s3,w3,nd,mem,bds⟩
  rintro σ H3 ⟨ks,g,v5,v6,rfl,s3,w3,nd,mem,bds⟩
  refine ⟨_,rfl,k d H3 ks g s3 hd0 w3 ⟨nd,fun x=>?_⟩ bds⟩
  rw [mem]
  constructor
  ·rintro ⟨p,j,_,h1,_,h2⟩
   exact ⟨p,j,h1,h2⟩
  ·rintro ⟨p,j,h1,h2⟩
   obtain ⟨h3,hne⟩:=td.inv p j h1
   have hp:=(List.getElem?_eq_some_iff.mp h1).1
   have hj:=(List.getElem?_eq_some_iff.mp h3).1
   rcases Nat.lt_or_ge p j with q | q
   ·exact ⟨p,j,hp,h1,q,h2⟩
   ·exact ⟨j,p,hj,h3,by omega,by rw [td.eqm p j h1]; exact h2⟩
end
end KT
set_option maxHeartbeats 4000000
namespace KT
open PySem L2 Mx
theorem mulS {m n:Nat} (h1:m < 2 ^ 3000) (h2:n < 2 ^ 3000):IntMulOk (m:Int) (n:Int):=mulN (Nat.lt_of_lt_of_le h1 (Nat.pow_le_pow_right (by decide) (by decide))) (Nat.lt_of_lt_of_le h2 (Nat.pow_le_pow_right (by decide) (by decide)))
theorem divS {m n:Nat} (h0:0 < n) (h:n < 2 ^ 3000):CDivB (m:Int) (n:Int):=⟨by omega,Nat.lt_of_lt_of_le (log2_lt (k:=3000) (by rw [Int.natAbs_natCast]; exact h) (by decide)) (by decide)⟩
noncomputable def FrAt (H:Hp) (a:Addr) (vs:List (Nat × Nat)):Prop:=∃ qs:List Addr,H a=some (.lst (qs.map V.ref))∧qs.length=vs.length∧∀ (i:Nat) (q:Addr) (v:Nat × Nat),qs[i]?=some q→vs[i]?=some v→H q=some (tp v)
theorem FrAt.same {H H':Hp} {a:Addr} {vs:List (Nat × Nat)} (h:FrAt H a vs) (s:Same H H'):FrAt H' a vs:=by
 obtain ⟨qs,h1,h2,h3⟩:=h
 exact ⟨qs,s _ _ h1,h2,fun i q v e1 e2=>s _ _ (h3 i q v e1 e2)⟩
noncomputable def sp_diag:Sp:=fun us H Q _=>∃ (c:Addr) (vs:List (Nat × Nat)) (ys:List Str),us=[.ref c,.str (Txt.join (Str.ofString "") ys)]∧FrAt H c vs∧vs.length=ys.length∧vs.length≤100∧(∀ v∈vs,v.1≤100∧v.2≤100)∧(∀ y∈ys,isLR y)∧∀ H',Same H H'→Q (.int (tr (tab (vs.zip (ys.map tuB))):Nat)) H'
noncomputable def sp_over:Sp:=fun us H Q _=>∃ (a:Addr) (N:Nat) (fs:List Nat),us=[.int N,.ref a]∧H a=some (.lst (fs.map nV))∧0 < N∧N < 2 ^ 3000∧(∀ f∈fs,1≤f∧f≤100)∧fs.length≤200∧∀ p,H p=none→Q (.ref p) (upd H p (tp (lowN N (prd fs))))
noncomputable def sp_worth (C:Addr):Sp:=fun us H Q _=>∃ (p d a:Addr) (M:List (Option Nat)) (ns ks:List Int) (g:Int→Nat × Nat) (ws:List Nat),us=[.ref p,.ref d,.ref a]∧TentAt C H p M ns∧TD M ns∧ns.length < 64∧WAt H d ks g∧SwK M ns ks∧(∀ x∈ks,1≤(g x).1∧1≤(g x).2∧(g x).1≤100∧(g x).2≤100)∧H a=some (.lst (ws.map nV))∧ws.length≤100∧Pl M ws ∧
 ∀ (r:Addr) (H':Hp),Same H H'→H' r=some (tp (wor (lowG g) M ns ws))→Q (.ref r) H'
theorem flat_len:∀ vs:List (Nat × Nat),(vs.flatMap fun v=>[v.1,v.2]).length=2 * vs.length
 | []=>rfl
 | v :: vs=>by rw [List.flatMap_cons,List.length_append,flat_len vs]; simp only [List.length_cons,List.length_nil]; omega
theorem dSt {a b:Str}:decide (V.str a=V.str b)=decide (a=b):=by
 by_cases z:a=b
 ·subst z; simp
 ·rw [decide_eq_false z,decide_eq_false (fun y=>z (by injection y))]
theorem zs_join {ys:List Str} (h:∀ y∈ys,isLR y):(Txt.join (Str.ofString "") ys).cps.all (· < 128)=true∧ys.map V.str=(Txt.join (Str.ofString "") ys).cps.toList.map fun c=>V.str ⟨#[c]⟩:=by
 obtain ⟨j1,j2,j3⟩:=join_walk h
 refine ⟨j1,?_⟩
 apply List.ext_getElem?
 intro i
 rw [List.getElem?_map,List.getElem?_map]
 rcases Nat.lt_or_ge i ys.length with hi | hi
 ·have hi':i < (Txt.join (Str.ofString "") ys).cps.size:=by omega
  have e:=Array.getElem?_eq_getElem hi'
  have e2:=j3 i _ e
  have e3:(Txt.join (Str.ofString "") ys).cps.toList[i]?=some (Txt.join (Str.ofString "") ys).cps[i]:=by rw [Array.getElem?_toList]; exact e
  rw [e3,e2]
  rfl
 ·rw [List.getElem?_eq_none hi,List.getElem?_eq_none (by rw [Array.length_toList]; omega)]
  rfl
section
variable {P:Program} {w:World} {K:PySem.W.Frag} {mg:Str→Option Value} {base:Heap} {t:Adr}
theorem sc_diagonal_sum:FnScope ["crossed","turns","upper_left","upper_right","lower_left","lower_right","top","bottom","turn"] ["crossed","turns"] (defScope s_diagonal_sum):=⟨rfl,rfl,rfl,by decide +kernel,rfl,by decide +kernel,by decide +kernel⟩
theorem ok_diagonal_sum (T:Txt w K mg t):FnOk P w K mg base (CXr P w) 1 t.f_diagonal_sum t.d_diagonal_sum ["crossed","turns"] sp_diag:=by
 refine T.p_diagonal_sum.F.okR sc_diagonal_sum (fun vs H Q E h=>?_) (fun cdv A outer s H vs Q E hr h=>?_)
 ·obtain ⟨c,vs,ys,rfl,_⟩:=h
  rfl
 ·obtain ⟨c,vs,ys,rfl,⟨qs,h1,h2,h3⟩,hl,h100,hv,hy,k⟩:=h
  refine ⟨_,(pss_cons (ps_asg (pe_tup (pa_cons pe_int (pa_cons pe_int (pa_cons pe_int (pa_cons pe_int pa_nil))))) (pg_tup rfl (pgs_cons (pg_name (i:=2) sc_diagonal_sum.nd rfl (Or.inl rfl)) (pgs_cons (pg_name (i:=3) sc_diagonal_sum.nd rfl (Or.inl rfl)) (pgs_cons (pg_name (i:=4) sc_diagonal_sum.nd rfl (Or.inl rfl)) (pgs_cons (pg_name (i:=5) sc_diagonal_sum.nd rfl (Or.inl rfl)) pgs_nil))))))
   (pss_cons (ps_for PassesOwn.never rfl (pi_zip2 rfl T.n_zip (pa_cons (pv 0) (pa_cons (pv 1) pa_nil))) (pg_tup rfl (pgs_cons (pg_tup rfl (pgs_cons (pg_name (i:=6) sc_diagonal_sum.nd rfl (Or.inl rfl)) (pgs_cons (pg_name (i:=7) sc_diagonal_sum.nd rfl (Or.inl rfl)) pgs_nil))) (pgs_cons (pg_name (i:=8) sc_diagonal_sum.nd rfl (Or.inl rfl)) pgs_nil))) (pss_cons (ps_par (i:=2) (j:=4) rfl sc_diagonal_sum.nd rfl rfl (by decide) rfl rfl (pa_cons (pe_op op_mulB (pv 2) (pv 6)) (pa_cons (pe_op op_mulB (pv 4) (pv 6)) pa_nil)) (by rfl))
   (pss_cons (ps_par (i:=3) (j:=5) rfl sc_diagonal_sum.nd rfl rfl (by decide) rfl rfl (pa_cons (pe_op op_mulB (pv 3) (pv 7)) (pa_cons (pe_op op_mulB (pv 5) (pv 7)) pa_nil)) (by rfl))
   (pss_one (ps_if (pt_cmpR op_eq (pv 8) pe_str (nomark _)) (pss_one (ps_par (i:=3) (j:=5) rfl sc_diagonal_sum.nd rfl rfl (by decide) rfl rfl (pa_cons (pe_op op_add (pv 3) (pv 2)) (pa_cons (pe_op op_add (pv 5) (pv 4)) pa_nil)) (by rfl))) (pss_one (ps_par (i:=2) (j:=4) rfl sc_diagonal_sum.nd rfl rfl (by decide) rfl rfl (pa_cons (pe_op op_add (pv 2) (pv 3)) (pa_cons (pe_op op_add (pv 4) (pv 5)) pa_nil)) (by rfl))))))))
   (pss_one (ps_ret (pe_op op_add (pv 2) (pv 5)))))),?_⟩
  obtain ⟨z1,z2⟩:=zs_join hy
  refine seq_cut fun nxC hnxC=>?_
  refine ⟨(by show 4≤sizeLine; rw [sizeLine_eq]; decide),fun q0 hq0=>?_⟩
  have s0:Same H (upd H q0 (.tup [V.int 1,V.int 0,V.int 0,V.int 1])):=Same.new hq0
  refine ⟨q0,_,rfl,SqT.of upd_same,rfl,_,_,rfl,_,_,rfl,_,_,rfl,_,_,rfl,rfl,?_⟩
  refine hnxC _ _ ?_
  try dsimp only [gName]
  show tSeq (tFor _ _ _) _ _ _ (upd H q0 (.tup [V.int 1,V.int 0,V.int 0,V.int 1]))
  generalize upd H q0 (.tup [V.int 1,V.int 0,V.int 0,V.int 1])=H0 at s0 ⊢
  have hzl:(vs.zip (ys.map tuB)).length=vs.length:=by rw [List.length_zip,List.length_map]; omega
  refine seq_post (fun σ H'=>Same H H'∧∃ v6 v7 v8,σ=[some (.ref c),some (.str (Txt.join (Str.ofString "") ys)),some (.int (tab (vs.zip (ys.map tuB))).a),some (.int (tab (vs.zip (ys.map tuB))).b),some (.int (tab (vs.zip (ys.map tuB))).c),some (.int (tab (vs.zip (ys.map tuB))).d),v6,v7,v8]) (fun nx hnx=>?_) ?_
  ·refine ⟨_,rfl,_,rfl,.l c,.s _,_,_,rfl,SqL.of (s0 _ _ h1),⟨z1,z2⟩,?_⟩
   refine for_zip2 (S:=.l c) (T:=.s (Txt.join (Str.ofString "") ys)) (xs:=qs.map V.ref) (ys:=ys.map V.str) (by rw [List.length_map,List.length_map]; omega) (fun i σ H'=>Same H H'∧∃ v6 v7 v8,σ=[some (.ref c),some (.str (Txt.join (Str.ofString "") ys)),some (.int (((vs.zip (ys.map tuB)).take i).foldl stp one).a),some (.int (((vs.zip (ys.map tuB)).take i).foldl stp one).b),some (.int (((vs.zip (ys.map tuB)).take i).foldl stp one).c),some (.int (((vs.zip (ys.map tuB)).take i).foldl stp one).d),v6,v7,v8]) ⟨s0,_,_,_,rfl⟩ ?_ ?_ ?_
   ·rintro i σ H' _ ⟨s1,v6,v7,v8,rfl⟩
    exact ⟨SqL.of (s1 _ _ h1),z1,z2⟩
   ·rintro i x y σ H1 q hx hy' hq ⟨s1,v6,v7,v8,rfl⟩
    obtain ⟨qa,hqa,rfl⟩:=map_some hx
    obtain ⟨yy,hyy,rfl⟩:=map_some hy'
    have hi:i < vs.length:=by rw [← h2]; exact (List.getElem?_eq_some_iff.mp hqa).1
    have hvi:=List.getElem?_eq_getElem hi
    have hta:=s1 _ _ (h3 i qa _ hqa hvi)
    have hzi:(vs.zip (ys.map tuB))[i]?=some (vs[i],tuB yy):=by
     rw [List.getElem?_zip_eq_some]
     exact ⟨hvi,by rw [List.getElem?_map,hyy]; rfl⟩
    have s2:Same H1 (upd H1 q (.tup [V.ref qa,V.str yy])):=Same.new hq
    have hbnd:=fold_le (k:=100) ((vs.zip (ys.map tuB)).take i) one 1 (fun q hq=>by
     have:=List.mem_of_mem_take hq
     exact hv _ (List.of_mem_zip this).1) (by decide)
    have hst:((vs.zip (ys.map tuB)).take (i + 1)).foldl stp one=stp (((vs.zip (ys.map tuB)).take i).foldl stp one) (vs[i],tuB yy):=by
     rw [List.take_add_one,hzi,List.foldl_append]; rfl
    rw [hst]
    have hb2:1 * (2 * 100) ^ ((vs.zip (ys.map tuB)).take i).length < 2 ^ 3000:=by
     rw [Nat.one_mul]
     refine Nat.lt_of_le_of_lt (Nat.pow_le_pow_right (by decide) (show _≤100 by rw [List.length_take]; omega)) (by decide +kernel)
    generalize ((vs.zip (ys.map tuB)).take i).foldl stp one=X at hbnd ⊢
    obtain ⟨b1,b2,b3,b4⟩:=hbnd
    have v100:∀ n:Nat,n≤100→n < 2 ^ 3000:=fun n hn=>Nat.lt_of_le_of_lt hn (by decide +kernel)
    obtain ⟨c1,c2⟩:=hv _ (List.getElem_mem hi)
    generalize vs[i]=v at *
    refine ⟨q,_,rfl,SqT.of upd_same,rfl,_,_,rfl,qa,_,rfl,SqT.of (s2 _ _ hta),rfl,_,_,rfl,_,_,rfl,rfl,_,_,rfl,rfl,?_⟩
    dsimp only [gName]
    have m1:X.a < 2 ^ 3000:=Nat.lt_of_le_of_lt b1 hb2
    have m2:X.b < 2 ^ 3000:=Nat.lt_of_le_of_lt b2 hb2
    have m3:X.c < 2 ^ 3000:=Nat.lt_of_le_of_lt b3 hb2
    have m4:X.d < 2 ^ 3000:=Nat.lt_of_le_of_lt b4 hb2
    have m5:=v100 _ c1
    have m6:=v100 _ c2
    clear b1 b2 b3 b4 hb2 hst c1 c2 hta
    refine seq_cut fun nxC hnxC=>?_
    refine ⟨_,rfl,_,rfl,_,_,rfl,rfl,mulS m1 m5,_,rfl,_,rfl,_,_,rfl,rfl,mulS m3 m5,_,_,rfl,?_⟩
    refine hnxC _ _ ?_
    refine seq_cut fun nxC hnxC=>?_
    refine ⟨_,rfl,_,rfl,_,_,rfl,rfl,mulS m2 m6,_,rfl,_,rfl,_,_,rfl,rfl,mulS m4 m6,_,_,rfl,?_⟩
    refine hnxC _ _ ?_
    refine ⟨_,rfl,rfl,_,rfl,?_⟩
    rw [dSt]
    rcases hy yy (List.mem_of_getElem? hyy) with rfl | rfl
    ·refine iteF ?_
     refine ⟨_,rfl,_,rfl,_,_,rfl,rfl,_,rfl,_,rfl,_,_,rfl,rfl,_,_,rfl,?_⟩
     exact ⟨s1.trans s2,_,_,_,rfl⟩
    ·refine iteT ?_
     refine ⟨_,rfl,_,rfl,_,_,rfl,rfl,_,rfl,_,rfl,_,_,rfl,rfl,_,_,rfl,?_⟩
     exact ⟨s1.trans s2,_,_,_,rfl⟩
   ·rintro σ H' ⟨s1,v6,v7,v8,rfl⟩
    rw [List.length_map,h2,← hzl,List.take_length]
    exact hnx _ _ ⟨s1,_,_,_,rfl⟩
  ·rintro σ H' ⟨s1,v6,v7,v8,rfl⟩
   refine ⟨_,rfl,_,rfl,_,_,rfl,rfl,?_⟩
   have:=k H' s1
   unfold tr at this
   rw [Int.natCast_add] at this
   exact this
theorem sc_lowest_over:FnScope ["top","factors","bottom","factor","measure"] ["top","factors"] (defScope s_lowest_over):=⟨rfl,rfl,rfl,by decide +kernel,rfl,by decide +kernel,by decide +kernel⟩
theorem ok_lowest_over (T:Txt w K mg t):FnOk P w K mg base (CXr P w) 2 t.f_lowest_over t.d_lowest_over ["top","factors"] sp_over:=by
 refine T.p_lowest_over.F.okR sc_lowest_over (fun vs H Q E h=>?_) (fun cdv A outer s H vs Q E hr h=>?_)
 ·obtain ⟨a,N,fs,rfl,_⟩:=h
  rfl
 ·obtain ⟨a,N,fs,rfl,ha,hN,hN2,hf,hfl,k⟩:=h
  refine ⟨_,(pss_cons (ps_set (i:=2) sc_lowest_over.nd rfl (Or.inl rfl) pe_int)
   (pss_cons (ps_for PassesOwn.never rfl (pi_list (pv 1)) (pg_name (i:=3) sc_lowest_over.nd rfl (Or.inl rfl)) (pss_cons (ps_set (i:=4) sc_lowest_over.nd rfl (Or.inl rfl) (pe_call (ok_common_measure T) (hr.mono (by decide)) rfl T.p_common_measure.g T.p_common_measure.F.kp T.p_common_measure.b .nil passR (pa_cons (pv 0) (pa_cons (pv 3) pa_nil))))
   (pss_cons (ps_aug (i:=0) sc_lowest_over.nd rfl (Or.inl rfl) (pv 4) ip_fdivB)
   (pss_one (ps_aug (i:=2) sc_lowest_over.nd rfl (Or.inl rfl) (pe_op op_fdivB (pv 3) (pv 4)) ip_mulB)))))
   (pss_one (ps_ret (pe_tup (pa_cons (pv 0) (pa_cons (pv 2) pa_nil))))))),?_⟩
  have f0:∀ f∈fs,0 < f:=fun f h=>(hf f h).1
  refine seq_cut fun nxC hnxC=>?_
  refine hnxC _ _ ?_
  try dsimp only [gName]
  show tSeq (tFor _ _ _) _ _ _ _
  refine seq_post (fun σ H'=>H'=H∧∃ v3 v4,σ=[some (.int (lowN N (prd fs)).1),some (.ref a),some (.int (lowN N (prd fs)).2),v3,v4]) (fun nx hnx=>?_) ?_
  ·refine ⟨_,rfl,a,rfl,⟨_,SqL.of ha⟩,?_⟩
   refine for_list (xs:=fs.map nV) (fun i σ H'=>H'=H∧∃ v3 v4,σ=[some (.int ((fs.take i).foldl loS (N,1)).1),some (.ref a),some (.int ((fs.take i).foldl loS (N,1)).2),v3,v4]) ⟨rfl,_,_,rfl⟩ ?_ ?_ ?_
   ·rintro i σ H' _ ⟨rfl,v3,v4,rfl⟩
    exact SqL.of ha
   ·rintro i x σ H' hx ⟨rfl,v3,v4,rfl⟩
    obtain ⟨f,hfi,rfl⟩:=map_some hx
    have hi:i < fs.length:=(List.getElem?_eq_some_iff.mp hfi).1
    have hv:=lo_vals hN f0 i (Nat.le_of_lt hi)
    have hp0:=prd_pos f0 i (Nat.le_of_lt hi)
    have hle:=hv.le hN hp0
    have hpl:=prd_le (k:=100) (fun f h=>(hf f h).2) i (Nat.le_of_lt hi)
    have hpb:100 ^ i < 2 ^ 3000:=Nat.lt_of_le_of_lt (Nat.pow_le_pow_right (by decide) (show i≤200 by omega)) (by decide +kernel)
    rw [lo_step hfi]
    generalize (fs.take i).foldl loS (N,1)=S at *
    obtain ⟨q1,q2⟩:=hf f (List.mem_of_getElem? hfi)
    have g0:0 < Nat.gcd S.1 f:=Nat.gcd_pos_of_pos_left _ hv.p1
    have g1:Nat.gcd S.1 f≤f:=Nat.le_of_dvd q1 (Nat.gcd_dvd_right _ _)
    have v100:∀ n:Nat,n≤100→n < 2 ^ 3000:=fun n hn=>Nat.lt_of_le_of_lt hn (by decide +kernel)
    have g2:=v100 _ (Nat.le_trans g1 q2)
    have dv:CDivB (S.1:Int) (Nat.gcd S.1 f:Nat):=divS g0 g2
    have dv2:CDivB (f:Int) (Nat.gcd S.1 f:Nat):=divS g0 g2
    dsimp only [gName]
    refine seq_cut fun nxC hnxC=>?_
    refine ⟨_,rfl,_,rfl,S.1,f,rfl,?_⟩
    refine hnxC _ _ ?_
    try dsimp only [gName]
    refine seq_cut fun nxC hnxC=>?_
    refine ⟨_,rfl,_,rfl,_,_,rfl,rfl,dv,?_⟩
    refine hnxC _ _ ?_
    refine ⟨_,rfl,_,rfl,_,rfl,_,_,rfl,rfl,dv2,_,_,rfl,rfl,?_,?_⟩
    ·exact mulS (m:=S.2) (n:=f / Nat.gcd S.1 f) (Nat.lt_of_le_of_lt hle.2 (Nat.lt_of_le_of_lt hpl hpb)) (v100 _ (Nat.le_trans (Nat.div_le_self _ _) q2))
    ·exact ⟨rfl,_,_,rfl⟩
   ·rintro σ H' ⟨rfl,v3,v4,rfl⟩
    rw [List.length_map,List.take_length,lo_eq hN f0]
    exact hnx _ _ ⟨rfl,_,_,rfl⟩
  ·rintro σ H' ⟨rfl,v3,v4,rfl⟩
   refine ⟨_,rfl,_,rfl,(by show 2≤sizeLine; rw [sizeLine_eq]; decide),fun p hp=>?_⟩
   exact k p hp
theorem sc_worth:FnScope ["tent","worths","word","turns","lowest","crossed","factors"] ["tent","worths","word"] (defScope s_worth):=⟨rfl,rfl,rfl,by decide +kernel,rfl,by decide +kernel,by decide +kernel⟩
theorem ok_worth (T:Txt w K mg t):FnOk P w K mg base (CXr P w) 8 t.f_worth t.d_worth ["tent","worths","word"] (sp_worth t.C_Tent):=by
  refine T.p_worth.F.okR sc_worth (fun vs H Q E h=>?_) (fun cdv A outer s H vs Q E hr h=>?_)
  · obtain ⟨p,d,a,M,ns,ks,g,ws,rfl,_⟩:=h
    rfl
  · obtain ⟨p,d,a,M,ns,ks,g,ws,rfl,ta,td,h64,wa,sw,bd,ha,hwl,hP,k⟩:=h
    have hu:=hu_of hr
    refine ⟨_,(pss_cons (ps_set (i:=3) sc_worth.nd rfl (Or.inl rfl) (pe_call (ok_letters T) (hr.mono (by decide)) rfl T.p_letters.g T.p_letters.F.kp T.p_letters.b .nil passR (pa_cons (pv 0) (pa_cons (pv 2) pa_nil))))
      (pss_cons (ps_set (i:=4) sc_worth.nd rfl (Or.inr rfl) (pe_call (ok_lowest_worths T) (hr.mono (by decide)) rfl T.p_lowest_worths.g T.p_lowest_worths.F.kp T.p_lowest_worths.b .nil passR (pa_cons (pv 0) (pa_cons (pv 1) pa_nil))))
      (pss_cons (ps_setCompG (ts:=["place"]) (fv:=[("lowest",4),("tent",0)]) (i:=5) ⟨rfl,by decide +kernel,by decide +kernel,blkFree (by rfl),⟨⟨rfl,rfl,Or.inl rfl⟩,⟨rfl,rfl,Or.inl rfl⟩,trivial⟩⟩ rfl sc_worth.nd rfl rfl (by rfl) (pi_list (pv 2)) (fun _ _ _ _=>(pg_name (i:=0) (show List.Nodup (["place","lowest","tent"]:List Str) from by decide +kernel) rfl (Or.inl rfl) (Or.inr rfl))) (fun _ _ _ _=>pts_nil) (fun _ _ _=>rfl) (fun _ _ _ _ _ _=>pb_emit (pe_dget hu (pv 1) (pe_meth (pv 2) T.cl_Tent T.p_Tent_seam_at.m (ok_Tent_seam_at T) (hr.mono (by decide)) T.p_Tent_seam_at.b .nil passR (pa_cons (pv 0) pa_nil)) (fun _ _=>rfl))))
      (pss_cons (ps_setCompG (ts:=["parts","part"]) (fv:=[]) (i:=6) ⟨rfl,by decide +kernel,by decide +kernel,blkFree (by rfl),trivial⟩ rfl sc_worth.nd rfl rfl (by rfl) (pi_list (pv 5)) (fun _ _ _ _=>(pg_name (i:=0) (show List.Nodup (["parts","part"]:List Str) from by decide +kernel) rfl (Or.inl rfl) (Or.inr rfl))) (fun _ _ _ _=>pts_nil) (fun _ _ _=>rfl) (fun _ _ _ _ _ _=>pb_gen rfl rfl (pi_tupK K (pv 0)) (pg_name (i:=1) (show List.Nodup (["parts","part"]:List Str) from by decide +kernel) rfl (Or.inl rfl) (Or.inr rfl)) pts_nil (pv 1)))
      (pss_one (ps_ret (pe_call (ok_lowest_over T) (hr.mono (by decide)) rfl T.p_lowest_over.g T.p_lowest_over.F.kp T.p_lowest_over.b .nil passR (pa_cons (pe_op op_powB (pe_call (ok_diagonal_sum T) (hr.mono (by decide)) rfl T.p_diagonal_sum.g T.p_diagonal_sum.F.kp T.p_diagonal_sum.b .nil passR (pa_cons (pv 5) (pa_cons (pv 3) pa_nil))) pe_int) (pa_cons (pv 6) pa_nil))))))))),?_⟩
    have hMl:=td.len
    have h0:0 < ws.length:=List.length_pos_iff.mpr hP.ne
    have inK:∀ q∈ws,ns.getD q 0∈ks∧∃ y,ns[q]?=some y∧ns.getD q 0=y:=fun q hq=>by
      obtain ⟨m,hm⟩:=hP.has q hq
      have hlt:q < ns.length:=by rw [hMl]; exact (List.getElem?_eq_some_iff.mp hm).1
      have e:=List.getElem?_eq_getElem hlt
      have e2:ns.getD q 0=ns[q]:=by rw [List.getD_eq_getElem?_getD,e]; rfl
      exact ⟨by rw [e2]; exact (sw.mem _).mpr ⟨q,m,hm,e⟩,_,e,e2⟩
    refine seq_cut fun nxC hnxC=>?_
    refine ⟨_,rfl,_,rfl,p,a,M,ns,ws,rfl,ta,hMl.symm,ha,by omega,hP,fun H1 s1=>?_⟩
    refine hnxC _ _ ?_
    try dsimp only [gName]
    refine seq_cut fun nxC hnxC=>?_
    refine ⟨_,rfl,_,rfl,p,d,M,ns,ks,g,rfl,ta.same s1,td,h64,wa.same s1,sw,fun x hx=>⟨(bd x hx).1,(bd x hx).2.1,Nat.lt_of_le_of_lt (bd x hx).2.2.1 (by decide +kernel)⟩,fun lo H2 s2 hlo w2=>?_⟩
    refine hnxC _ _ ?_
    try dsimp only [gName]
    have s02:=s1.trans s2
    obtain ⟨ad,e1,e2⟩:=id w2
    refine seq_cut fun nxC hnxC=>?_
    refine ⟨_,rfl,a,rfl,⟨_,SqL.of (s02 _ _ ha)⟩,fun D hD=>?_⟩
    refine loop_list (xs:=ws.map nV) (fun i σ H3=>∃ v,σ=[v,some (.ref lo),some (.ref p)]∧Same H2 H3∧H3 D=some (.lst (((ws.map fun q=>ad (ns.getD q 0)).take i).map V.ref))) ⟨none,rfl,Same.new hD,upd_same⟩ ?_ ?_ ?_
    · rintro i σ H3 _ ⟨v,rfl,sm,h3⟩
      exact SqL.of (sm _ _ (s02 _ _ ha))
    · rintro i y σ H3 hy ⟨v,rfl,sm,h3⟩
      obtain ⟨q,hq,rfl⟩:=map_some hy
      dsimp only [gName,tYes]
      rw [if_pos rfl]
      obtain ⟨kq,yq,hyq,eyq⟩:=inK q (List.mem_of_getElem? hq)
      have hlt:=(List.getElem?_eq_some_iff.mp hyq).1
      have ta3:=(ta.same s02).same sm
      obtain ⟨dx,cl,na,sp,mt',o,f,b⟩:=id ta3
      have g3:=wD_get (.inl (sm _ _ e1)) kq
      rw [eyq] at g3
      refine ⟨_,rfl,_,rfl,p,dx,_,rfl,b.ins,fl_none _ _ _ _,_,rfl,p,M,ns,(q:Int),rfl,ta3,fun i' y' ei ey=>?_,fun z=>absurd (show (0:Int)≤q∧(q:Int) < ns.length by omega) z⟩
      have:i'=q:=by omega
      subst this
      rw [hyq] at ey
      cases ey
      refine ⟨lo,_,rfl,g3,_,h3,?_,_,rfl,Same.add sm hD,?_⟩
      · rw [List.length_map,List.length_take,List.length_map]; exact small1000 (by omega)
      · rw [upd_same,List.take_add_one,List.getElem?_map,hq,List.map_append]
        show _=some (HO.lst (_ ++ [V.ref (ad (ns.getD i' 0))]))
        rw [eyq]
    rintro σ H3 ⟨v,rfl,s3,h3⟩
    refine hnxC _ _ ?_
    try dsimp only [gName]
    rw [List.length_map,List.take_of_length_le (by rw [List.length_map]; exact Nat.le_refl _)] at h3
    have hF3:FrAt H3 D (crL (lowG g) ns ws):=by
      refine ⟨_,h3,by rw [List.length_map,crL_len],fun i q v hq hv=>?_⟩
      unfold crL at hv
      rw [List.getElem?_map] at hq hv
      cases e:ws[i]? with
      | none=>rw [e] at hv; cases hv
      | some z =>
        rw [e] at hq hv
        cases hq; cases hv
        exact s3 _ _ (e2 _ (inK z (List.mem_of_getElem? e)).1)
    have s03:=s02.trans s3
    have hcl:=crL_len (h:=lowG g) (ns:=ns) (ws:=ws)
    have hcb:∀ v∈crL (lowG g) ns ws,1≤v.1∧1≤v.2∧v.1≤100∧v.2≤100:=fun v hv=>by
      obtain ⟨q,hq,rfl⟩:=List.mem_map.mp hv
      obtain ⟨b1,b2,b3,b4⟩:=bd _ (inK q hq).1
      have l1:=low_val b1 b2
      have l2:=lowN_le (g (ns.getD q 0)).1 (g (ns.getD q 0)).2
      exact ⟨l1.p1,l1.p2,Nat.le_trans l2.1 b3,Nat.le_trans l2.2 b4⟩
    have hwz:wz (lowG g) M ns ws=(crL (lowG g) ns ws).zip ((letL M ws).map tuB):=rfl
    unfold wor at k
    rw [hwz] at k
    have hll:=letL_len M ws h0
    have hlr:=letL_lr M ws
    generalize crL (lowG g) ns ws=vs at *
    generalize letL M ws=ys at *
    obtain ⟨qs,f1,f2,f3⟩:=id hF3
    refine seq_cut fun nxC hnxC=>?_
    refine ⟨_,rfl,D,rfl,⟨_,SqL.of f1⟩,fun D2 hD2=>?_⟩
    refine loop_list (xs:=qs.map V.ref) (fun i σ H4=>∃ v v',σ=[v,v']∧Same H3 H4∧H4 D2=some (.lst (((vs.take i).flatMap fun v=>[v.1,v.2]).map nV))) ⟨none,none,rfl,Same.new hD2,upd_same⟩ ?_ ?_ ?_
    · rintro i σ H4 _ ⟨v,v',rfl,sm,h4⟩
      exact SqL.of (sm _ _ f1)
    · rintro i x σ H4 hx ⟨v,v',rfl,sm,h4⟩
      obtain ⟨q,hq,rfl⟩:=map_some hx
      have hi:i < vs.length:=by rw [← f2]; exact (List.getElem?_eq_some_iff.mp hq).1
      have hvi:=List.getElem?_eq_getElem hi
      have hq3:=f3 i q _ hq hvi
      have ht:(vs.take (i + 1)).flatMap (fun v=>[v.1,v.2])=(vs.take i).flatMap (fun v=>[v.1,v.2]) ++ [vs[i].1,vs[i].2]:=by
        rw [List.take_add_one,hvi,List.flatMap_append]; simp
      have hfl:((vs.take i).flatMap fun v=>[v.1,v.2]).length=2 * i:=by
        rw [flat_len,List.length_take]
        omega
      dsimp only [gName,tYes]
      rw [if_pos rfl]
      refine ⟨_,rfl,q,rfl,⟨_,SqT.of (sm _ _ hq3)⟩,?_⟩
      refine loop_tup (xs:=[V.int vs[i].1,V.int vs[i].2]) (fun j σ H5=>∃ v',σ=[some (.ref q),v']∧Same H3 H5∧H5 D2=some (.lst (((vs.take i).flatMap fun v=>[v.1,v.2]).map nV ++ ([V.int vs[i].1,V.int vs[i].2]).take j))) ⟨v',rfl,sm,by rw [h4,List.take_zero,List.append_nil]⟩ ?_ ?_ ?_
      · rintro j σ H5 _ ⟨v',rfl,sm,h5⟩
        exact SqT.of (sm _ _ hq3)
      · rintro j x σ H5 hx ⟨v',rfl,sm,h5⟩
        dsimp only [gName,tYes]
        rw [if_pos rfl]
        refine ⟨_,rfl,_,h5,?_,_,rfl,Same.add sm hD2,?_⟩
        · rw [List.length_append,List.length_map,hfl,List.length_take]
          exact small1000 (by have:([V.int vs[i].1,V.int vs[i].2]).length=2:=rfl; omega)
        · rw [upd_same,List.take_add_one,hx,← List.append_assoc]
          rfl
      · rintro σ H5 ⟨v',rfl,sm,h5⟩
        refine ⟨_,_,rfl,sm,?_⟩
        rw [h5,List.take_length,ht,List.map_append]
        rfl
    rintro σ H4 ⟨v,v',rfl,s4,h4⟩
    refine hnxC _ _ ?_
    try dsimp only [gName]
    rw [List.length_map,f2,List.take_length] at h4
    have hvl:vs.length=ys.length:=by omega
    have htr:=tr_pos (l:=vs.zip (ys.map tuB)) (fun q hq=>by
      have:=hcb _ (List.of_mem_zip hq).1
      exact ⟨this.1,this.2.1⟩)
    have hbt:tr (tab (vs.zip (ys.map tuB))) < 2 ^ 1000:=by
      have hbnd:=fold_le (k:=100) (vs.zip (ys.map tuB)) one 1 (fun q hq=>(hcb _ (List.of_mem_zip hq).1).2.2) (by decide)
      have hb2:1 * (2 * 100) ^ (vs.zip (ys.map tuB)).length≤200 ^ 100:=by
        rw [Nat.one_mul]
        exact Nat.pow_le_pow_right (by decide) (by rw [List.length_zip]; omega)
      have:(200 ^ 100 + 200 ^ 100:Nat) < 2 ^ 1000:=by decide +kernel
      unfold tr
      exact Nat.lt_of_le_of_lt (Nat.add_le_add (Nat.le_trans hbnd.1 hb2) (Nat.le_trans hbnd.2.2.2 hb2)) this
    refine ⟨_,rfl,_,rfl,D,vs,ys,rfl,hF3.same s4,hvl,by omega,fun v hv=>(hcb v hv).2.2,hlr,fun H5 s5=>?_⟩
    have hdt:=dt_zip vs (ys.map tuB) (by rw [List.length_map]; exact hvl)
    rw [hdt] at k
    generalize tr (tab (vs.zip (ys.map tuB)))=tN at *
    refine ⟨_,_,rfl,rfl,⟨by decide,?_⟩,?_⟩
    · have:=bits_le (j:=(tN:Int)) (k:=1000) (by rw [Int.natAbs_natCast]; exact hbt) (by decide)
      show (_:Int) * 2≤2 ^ 27
      omega
    refine ⟨_,rfl,D2,tN * tN,_,?_,s5 _ _ h4,Nat.mul_pos htr htr,?_,?_,?_,fun r hr5=>?_⟩
    · show [V.int ((tN:Int) ^ 2),V.ref D2]=[V.int ((tN * tN:Nat):Int),V.ref D2]
      rw [Int.natCast_mul,Int.pow_succ,Int.pow_succ,Int.pow_zero,Int.one_mul]
    · calc tN * tN < 2 ^ 1000 * 2 ^ 1000:=Nat.mul_lt_mul'' hbt hbt
        _=2 ^ 2000:=by rw [← Nat.pow_add]
        _≤2 ^ 3000:=Nat.pow_le_pow_right (by decide) (by decide)
    · intro f hf
      obtain ⟨v,hv,hf⟩:=List.mem_flatMap.mp hf
      obtain ⟨c1,c2,c3,c4⟩:=hcb v hv
      simp only [List.mem_cons,List.not_mem_nil,or_false] at hf
      rcases hf with rfl | rfl
      · exact ⟨c1,c3⟩
      · exact ⟨c2,c4⟩
    · rw [flat_len]; omega
    · exact k r _ ((s03.trans s4).trans (s5.trans (Same.new hr5))) upd_same
end
end KT
set_option maxHeartbeats 4000000
namespace KT
open PySem L2 Mx
noncomputable def tpI (v:Int × Int):HO:=.tup [V.int v.1,V.int v.2]
noncomputable def WI (H:Hp) (d:Addr) (ks:List Int) (g:Int→Int × Int):Prop:=∃ ad:Int→Addr,H d=some (.dK (wD ks ad))∧∀ x∈ks,H (ad x)=some (tpI (g x))
noncomputable def WR (H:Hp) (d:Addr) (ks:List Int) (g:Int→Int × Int):Prop:=∃ ad:Int→Addr,Rd H d (.dK (wD ks ad))∧∀ x∈ks,H (ad x)=some (tpI (g x))
noncomputable def bad (v:Int × Int):Prop:=v.1 < 1∨v.2 < 1
noncomputable def okV (v:Int × Int):Prop:=bad v∨(1≤v.1∧v.1≤100∧1≤v.2∧v.2≤100)
noncomputable def SBut (d:Addr) (H H':Hp):Prop:=∀ b u,b≠d→H b=some u→H' b=some u
theorem SBut.of {d:Addr} {H H':Hp} (s:Same H H'):SBut d H H':=fun b u _ e=>s b u e
theorem SBut.after {d:Addr} {H H1 H':Hp} (s:SBut d H1 H') (s1:Same H H1):SBut d H H':=fun b u hb e=>s b u hb (s1 b u e)
theorem WI.same {H H':Hp} {d:Addr} {ks:List Int} {g:Int→Int × Int} (h:WI H d ks g) (s:Same H H'):WI H' d ks g:=by
 obtain ⟨ad,h1,h2⟩:=h
 exact ⟨ad,s _ _ h1,fun x hx=>s _ _ (h2 x hx)⟩
theorem WI.nat {H:Hp} {d:Addr} {ks:List Int} {g:Int→Int × Int} (h:WI H d ks g) (hg:∀ x∈ks,1≤(g x).1∧1≤(g x).2):WAt H d ks (fun x=>((g x).1.toNat,(g x).2.toNat)):=by
 obtain ⟨ad,h1,h2⟩:=h
 refine ⟨ad,h1,fun x hx=>?_⟩
 obtain ⟨p,q⟩:=hg x hx
 rw [h2 x hx]
 unfold tp tpI
 rw [Int.toNat_of_nonneg (by omega),Int.toNat_of_nonneg (by omega)]
theorem WI.int {H:Hp} {d:Addr} {ks:List Int} {g:Int→Nat × Nat} (h:WAt H d ks g):WI H d ks (fun x=>((g x).1,(g x).2)):=h
open Classical in
noncomputable def dueS (M:List (Option Nat)) (ns ks:List Int) (g:Int→Int × Int):Str:=if SwK M ns ks then if ∃ x∈ks,bad (g x) then "no fraction" else "" else "no worths"
noncomputable def sp_lowestX (C EW EF:Addr):Sp:=fun vs H Q E=>∃ (p d:Addr) (M:List (Option Nat)) (ns ks:List Int) (g:Int→Int × Int),vs=[.ref p,.ref d]∧TentAt C H p M ns∧TD M ns∧ns.length < 64∧WI H d ks g∧ks.Nodup∧ks.length < 64∧(∀ x∈ks,okV (g x)) ∧
 (¬ SwK M ns ks→∀ H',SBut d H H'→E (.ref EW) none H')∧(SwK M ns ks→(∃ x∈ks,bad (g x))∧∀ H',SBut d H H'→E (.ref EF) none H')
noncomputable def sp_stretchedX (C EW EF:Addr):Sp:=fun vs H Q E=>∃ (p d:Addr) (M:List (Option Nat)) (ns ks:List Int) (g:Int→Int × Int) (x:Int) (a b:Nat),vs=[.ref p,.ref d,.int x]∧TentAt C H p M ns∧TD M ns∧ns.length < 64∧WI H d ks g∧ks.Nodup∧ks.length < 64∧(∀ x∈ks,okV (g x))∧Mv M ns x a b ∧
 (¬ SwK M ns ks→∀ H',SBut d H H'→E (.ref EW) none H')∧(SwK M ns ks→(∃ x∈ks,bad (g x))∧∀ H',SBut d H H'→E (.ref EF) none H')
noncomputable def sp_worthX (C EW EF:Addr):Sp:=fun vs H Q E=>∃ (p d a:Addr) (M:List (Option Nat)) (ns ks:List Int) (g:Int→Int × Int) (ws:List Nat),vs=[.ref p,.ref d,.ref a]∧TentAt C H p M ns∧TD M ns∧ns.length < 64∧WI H d ks g∧ks.Nodup∧ks.length < 64∧(∀ x∈ks,okV (g x))∧H a=some (.lst (ws.map nV))∧ws.length≤100∧Pl M ws ∧
 (¬ SwK M ns ks→∀ H',SBut d H H'→E (.ref EW) none H')∧(SwK M ns ks→(∃ x∈ks,bad (g x))∧∀ H',SBut d H H'→E (.ref EF) none H')
noncomputable def sp_told (C:Addr):Sp:=fun vs H Q _=>∃ (door:Int) (p d:Addr) (th:V) (M:List (Option Nat)) (ns ks:List Int) (g:Int→Int × Int),vs=[.int door,.ref p,.ref d,th]∧TentAt C H p M ns∧TD M ns∧ns.length < 64∧WI H d ks g∧ks.Nodup∧ks.length < 64∧(∀ x∈ks,okV (g x)) ∧
 ((door=0∧∃ x a b,th=.int x∧Mv M ns x a b)∨(door=1∧∃ (a:Addr) (ws:List Nat),th=.ref a∧H a=some (.lst (ws.map nV))∧ws.length≤100∧Pl M ws))∧∀ H',SBut d H H'→Q (.str (dueS M ns ks g)) H'
section
variable {P:Program} {w:World} {K:PySem.W.Frag} {mg:Str→Option Value} {base:Heap} {t:Adr}
theorem ok_lowest_worthsX (T:Txt w K mg t):FnOk P w K mg base (CXr P w) 4 t.f_lowest_worths t.d_lowest_worths ["tent","worths"] (sp_lowestX t.C_Tent t.E_NoWorths t.E_NoFraction):=by
 refine T.p_lowest_worths.F.okXA sc_lowest_worths (fun vs H Q E h=>?_) rfl (fun cdv A outer s H vs Q E hr h=>?_)
 ·obtain ⟨p,d,M,ns,ks,g,rfl,_⟩:=h
  rfl
 ·obtain ⟨p,d,M,ns,ks,g,rfl,ta,td,h64,wa,nd,hkl,ok,k1,k2⟩:=h
  have hu:=hu_of hr
  refine ⟨_,_,(psx_if (pt_cmpR (op_neL hr.units) (pe_callB (call_sortedD rfl) (by rfl) T.n_sorted PyProof.Rows.boot_sorted (pa_cons (pv 1) pa_nil)) (pe_call (ok_sewn_seams T) (hr.mono (by decide)) rfl T.p_sewn_seams.g T.p_sewn_seams.F.kp T.p_sewn_seams.b .nil passR (pa_cons (pv 0) pa_nil)) (nomark _)) (pssx_one (psx_raise T.x_NoWorths FBV rfl T.gx_NoWorths rfl (pa_cons pe_str pa_nil))) pssx_nil),(pea_thaw (pea_dcomp (ts:=["seam","top","bottom"]) (fv:=[]) ⟨rfl,by decide +kernel,by decide +kernel,blkFree (by rfl),trivial⟩ rfl (pi_items (pv 1) ⟨rfl,rfl,rfl⟩) (fun _ _ _ _=>(pg_tupK (n:=2) K rfl (pgs_cons (pg_name (i:=0) (show List.Nodup (["seam","top","bottom"]:List Str) from by decide +kernel) rfl (Or.inl rfl) (Or.inr rfl)) (pgs_cons (pg_tupK (n:=2) K rfl (pgs_cons (pg_name (i:=1) (show List.Nodup (["seam","top","bottom"]:List Str) from by decide +kernel) rfl (Or.inl rfl) (Or.inr rfl)) (pgs_cons (pg_name (i:=2) (show List.Nodup (["seam","top","bottom"]:List Str) from by decide +kernel) rfl (Or.inl rfl) (Or.inr rfl)) pgs_nil))) pgs_nil)))) (fun _ _ _ _=>pts_nil) (fun _ _ _=>rfl) (fun _ _ _ _ _ _=>pbx_demit (pv 0) (pec_call (ok_fraction T) (hr.mono (by decide)) rfl T.p_fraction.g T.p_fraction.F.kp T.p_fraction.b .nil (pa_cons (pv 1) (pa_cons (pv 2) pa_nil)))))),?_⟩
  obtain ⟨ad,hd,had⟩:=id wa
  refine ⟨_,rfl,d,_,ks,rfl,.inl hd,(by unfold wD; rw [List.map_map]; rfl),hkl,fun l1 out1 hl1 pm1 st1=>?_⟩
  have s1:Same H (upd H l1 (.lst (out1.map V.int))):=Same.new hl1
  have h1:(upd H l1 (.lst (out1.map V.int))) l1=some (.lst (out1.map V.int)):=upd_same
  generalize upd H l1 (.lst (out1.map V.int))=H1 at s1 h1 ⊢
  refine ⟨_,rfl,p,M,ns,rfl,ta.same s1,td,h64,fun l2 H2 out2 s2 hl2 h2 st2 sw2=>?_⟩
  refine ⟨l1,l2,out1,out2,rfl,rfl,SqL.of (s2 _ _ h1),SqL.of h2,_,rfl,?_⟩
  have s12:=s1.trans s2
  by_cases e:out1=out2
  ·rw [decide_eq_true e]
   refine iteF ?_
   have sw:SwK M ns ks:=⟨nd,fun x=>by rw [← pm1.mem_iff,e]; exact sw2.mem x⟩
   obtain ⟨hb,k2⟩:=k2 sw
   have hd2:=s12 _ _ hd
   have had2:∀ x∈ks,H2 (ad x)=some (tpI (g x)):=fun x hx=>s12 _ _ (had x hx)
   clear h1 h2 st1 st2 pm1 sw2 hl2
   refine ⟨_,rfl,d,_,rfl,.inl ⟨hd2,fun o=>?_⟩⟩
   intro D hD
   obtain ⟨hDd,hD2⟩:=upd_none hD
   have hda:∀ x∈ks,ad x≠d:=fun x hx z=>by have:=had2 x hx; rw [z,hd2] at this; cases this
   refine loop_items (fun i σ H3=>∃ v0 v1 v2,σ=[v0,v1,v2]∧SBut d H2 H3∧H3 d=some (.frz o (.dK (wD ks ad)))∧(∃ kv,H3 D=some (.dK kv)∧kv.length≤i)∧∀ x∈ks.take i,¬ bad (g x)) ⟨none,none,none,rfl,fun b u hb e=>by rw [upd_ne (ne_of_none e hD2),upd_ne hb]; exact e,by rw [upd_ne (Ne.symm hDd),upd_same],⟨[],upd_same,Nat.le_refl _⟩,fun x hx=>by simp at hx⟩ ?_ ?_ ?_
   ·rintro i σ H3 _ ⟨v0,v1,v2,rfl,_,e,_⟩
    exact e
   ·rintro i k0 x0 σ H3 q hk0 hq ⟨v0,v1,v2,rfl,s3,e3,⟨kv,h3,hkv⟩,all⟩
    obtain ⟨y,hy,rfl,rfl⟩:=wD_at hk0
    have hyk:=List.mem_of_getElem? hy
    have hi:i < ks.length:=(List.getElem?_eq_some_iff.mp hy).1
    have sq:Same H3 (upd H3 q (.tup [kV (Sum.inl y),V.ref (ad y)])):=Same.new hq
    have hqq:(upd H3 q (.tup [kV (Sum.inl y),V.ref (ad y)])) q=some (.tup [kV (Sum.inl y),V.ref (ad y)]):=upd_same
    have hay:(upd H3 q (.tup [kV (Sum.inl y),V.ref (ad y)])) (ad y)=some (tpI (g y)):=sq _ _ (s3 _ _ (hda y hyk) (had2 y hyk))
    generalize upd H3 q (.tup [kV (Sum.inl y),V.ref (ad y)])=H4 at sq hqq hay ⊢
    dsimp only [gName]
    refine ⟨q,_,rfl,SqT.of hqq,rfl,_,_,rfl,_,_,rfl,⟨ad y,_,rfl,SqT.of hay,rfl,_,_,rfl,_,_,rfl,rfl,?_⟩⟩
    refine ⟨rfl,?_⟩
    dsimp only [gName,tYes]
    rw [if_pos rfl]
    have s24:SBut d H H4:=fun b u hb e=>sq _ _ (s3 b u hb (s12 _ _ e))
    refine ⟨_,rfl,_,rfl,_,rfl,(g y).1,(g y).2,rfl,fun m n em en hm hn=>?_,fun z=>k2 H4 s24⟩
    have hny:¬ bad (g y):=fun z=>by unfold bad at z; omega
    have o3:m < 2 ^ 8900:=by
     rcases ok y hyk with z | z
     ·exact absurd z hny
     ·exact Nat.lt_of_le_of_lt (show m≤100 by omega) (by decide +kernel)
    refine ⟨okD_of hm o3,fun r hr=>?_⟩
    have sr:Same H4 (upd H4 r (tp (lowN m n))):=Same.new hr
    have s34:=sq.trans sr
    refine ⟨_,Sum.inl y,rfl,s34 _ _ h3,small1000 (by omega),_,_,_,rfl,fun b u hb e=>?_,?_,⟨_,upd_same,?_⟩,fun x hx=>?_⟩
    ·rw [upd_ne (ne_of_none e hD2)]; exact s34 _ _ (s3 b u hb e)
    ·rw [upd_ne (Ne.symm hDd)]; exact s34 _ _ e3
    ·have:=length_putK kv (Sum.inl y) (V.ref r)
     omega
    ·rw [List.take_add_one,hy] at hx
     rcases List.mem_append.mp hx with z | z
     ·exact all x z
     ·rw [show x=y by simpa using z]; exact hny
   ·rintro σ H3 ⟨v0,v1,v2,rfl,s3,e3,_,all⟩
    rw [wD_len,List.take_length] at all
    obtain ⟨x,hx,hbx⟩:=hb
    exact absurd hbx (all x hx)
  ·rw [decide_eq_false e]
   exact iteT ⟨by decide,k1 (fun sw=>e (sorted_eq pm1 (sw2.perm sw) st1 st2)) _ (.of s12)⟩
theorem ok_stretchedX (T:Txt w K mg t):FnOk P w K mg base (CXr P w) 5 t.f_stretched t.d_stretched ["tent","worths","seam"] (sp_stretchedX t.C_Tent t.E_NoWorths t.E_NoFraction):=by
 refine T.p_stretched.F.okX sc_stretched (fun vs H Q E h=>?_) (fun cdv A outer s H vs Q E hr h=>?_)
 ·obtain ⟨p,d,M,ns,ks,g,x,a,b,rfl,_⟩:=h
  rfl
 ·obtain ⟨p,d,M,ns,ks,g,x,a,b,rfl,ta,td,h64,wa,nd,hkl,ok,mv,k1,k2⟩:=h
  have hu:=hu_of hr
  refine ⟨_,(pssx_cons (psx_expr (pex_call (ok_look_free T) (hr.mono (by decide)) rfl T.p_look_free.g T.p_look_free.F.kp T.p_look_free.b .nil (pa_cons (pv 0) (pa_cons (pv 2) pa_nil))))
   (pssx_cons (psx_set (i:=3) sc_stretched.nd rfl (Or.inl rfl) (pex_call (ok_lowest_worthsX T) (hr.mono (by decide)) rfl T.p_lowest_worths.g T.p_lowest_worths.F.kp T.p_lowest_worths.b .nil (pa_cons (pv 0) (pa_cons (pv 1) pa_nil))))
   (pssx_cons (psx_of (ps_asg (pe_dget hu (pv 3) (pv 2) (fun _ _=>rfl)) (pg_tup rfl (pgs_cons (pg_name (i:=4) sc_stretched.nd rfl (Or.inl rfl)) (pgs_cons (pg_name (i:=5) sc_stretched.nd rfl (Or.inl rfl)) pgs_nil)))))
   (pssx_cons (psx_of (ps_set (i:=6) sc_stretched.nd rfl (Or.inl rfl) (pe_tup (pa_cons (pe_op op_add (pv 4) (pv 5)) (pa_cons (pv 5) pa_nil)))))
   (pssx_cons (psx_of (ps_set (i:=7) sc_stretched.nd rfl (Or.inl rfl) (pe_tup (pa_cons (pv 4) (pa_cons (pe_op op_add (pv 4) (pv 5)) pa_nil)))))
   (pssx_cons (psx_of (ps_for PassesOwn.never rfl (pi_zip2 rfl T.n_zip (pa_cons (pe_call (ok_square T) (hr.mono (by decide)) rfl T.p_square.g T.p_square.F.kp T.p_square.b .nil passR (pa_cons (pv 0) (pa_cons (pv 2) pa_nil))) (pa_cons (pe_lst (pa_cons (pv 6) (pa_cons (pv 7) (pa_cons (pv 6) (pa_cons (pv 7) pa_nil))))) pa_nil))) (pg_tup rfl (pgs_cons (pg_name (i:=8) sc_stretched.nd rfl (Or.inl rfl)) (pgs_cons (pg_name (i:=9) sc_stretched.nd rfl (Or.inl rfl)) pgs_nil))) (pss_cons (ps_set (i:=10) sc_stretched.nd rfl (Or.inl rfl) (pe_meth (pv 0) T.cl_Tent T.p_Tent_seam_at.m (ok_Tent_seam_at T) (hr.mono (by decide)) T.p_Tent_seam_at.b .nil passR (pa_cons (pv 8) pa_nil)))
   (pss_one (ps_if (pt_cmp (pc_din hu (pv 10) (pv 3)) (by with_unfolding_all rfl)) (pss_one (ps_dput hu (pv 3) (pv 10) (pe_call (ok_product T) (hr.mono (by decide)) rfl T.p_product.g T.p_product.F.kp T.p_product.b .nil passR (pa_cons (pe_dget hu (pv 3) (pv 10) (fun _ _=>rfl)) (pa_cons (pv 9) pa_nil))) rfl)) pss_nil)))))
   (pssx_cons (psx_of (ps_dput hu (pv 3) (pv 2) (pe_tup (pa_cons (pv 5) (pa_cons (pv 4) pa_nil))) rfl))
   (pssx_one (psx_of (ps_ret (pv 3))))))))))),?_⟩
  obtain ⟨hk,hpl⟩:=pl_two td mv.hM mv.lt mv.nm
  have hs:sortOf ns x="free":=by unfold sortOf; rw [hpl]; exact if_neg mv.ab
  refine ⟨_,rfl,_,rfl,p,M,ns,x,rfl,ta,td,fun _ H1 s1=>⟨fun e=>absurd (hs.symm.trans e) (by decide),fun e=>absurd (hs.symm.trans e) (by decide),fun _=>?_⟩,fun z=>absurd hk z⟩
  exact ⟨_,rfl,_,rfl,p,d,M,ns,ks,g,rfl,ta.same s1,td,h64,wa.same s1,nd,hkl,ok,fun z H' s'=>k1 z H' (s'.after s1),fun z=>⟨(k2 z).1,fun H' s'=>(k2 z).2 H' (s'.after s1)⟩⟩
theorem ok_worthX (T:Txt w K mg t):FnOk P w K mg base (CXr P w) 8 t.f_worth t.d_worth ["tent","worths","word"] (sp_worthX t.C_Tent t.E_NoWorths t.E_NoFraction):=by
  refine T.p_worth.F.okX sc_worth (fun vs H Q E h=>?_) (fun cdv A outer s H vs Q E hr h=>?_)
  · obtain ⟨p,d,a,M,ns,ks,g,ws,rfl,_⟩:=h
    rfl
  · obtain ⟨p,d,a,M,ns,ks,g,ws,rfl,ta,td,h64,wa,nd,hkl,ok,ha,hwl,hP,k1,k2⟩:=h
    have hu:=hu_of hr
    refine ⟨_,(pssx_cons (psx_set (i:=3) sc_worth.nd rfl (Or.inl rfl) (pex_call (ok_letters T) (hr.mono (by decide)) rfl T.p_letters.g T.p_letters.F.kp T.p_letters.b .nil (pa_cons (pv 0) (pa_cons (pv 2) pa_nil))))
      (pssx_cons (psx_set (i:=4) sc_worth.nd rfl (Or.inr rfl) (pex_call (ok_lowest_worthsX T) (hr.mono (by decide)) rfl T.p_lowest_worths.g T.p_lowest_worths.F.kp T.p_lowest_worths.b .nil (pa_cons (pv 0) (pa_cons (pv 1) pa_nil))))
      (pssx_cons (psx_of (ps_setCompG (ts:=["place"]) (fv:=[("lowest",4),("tent",0)]) (i:=5) ⟨rfl,by decide +kernel,by decide +kernel,blkFree (by rfl),⟨⟨rfl,rfl,Or.inl rfl⟩,⟨rfl,rfl,Or.inl rfl⟩,trivial⟩⟩ rfl sc_worth.nd rfl rfl (by rfl) (pi_list (pv 2)) (fun _ _ _ _=>(pg_name (i:=0) (show List.Nodup (["place","lowest","tent"]:List Str) from by decide +kernel) rfl (Or.inl rfl) (Or.inr rfl))) (fun _ _ _ _=>pts_nil) (fun _ _ _=>rfl) (fun _ _ _ _ _ _=>pb_emit (pe_dget hu (pv 1) (pe_meth (pv 2) T.cl_Tent T.p_Tent_seam_at.m (ok_Tent_seam_at T) (hr.mono (by decide)) T.p_Tent_seam_at.b .nil passR (pa_cons (pv 0) pa_nil)) (fun _ _=>rfl)))))
      (pssx_cons (psx_of (ps_setCompG (ts:=["parts","part"]) (fv:=[]) (i:=6) ⟨rfl,by decide +kernel,by decide +kernel,blkFree (by rfl),trivial⟩ rfl sc_worth.nd rfl rfl (by rfl) (pi_list (pv 5)) (fun _ _ _ _=>(pg_name (i:=0) (show List.Nodup (["parts","part"]:List Str) from by decide +kernel) rfl (Or.inl rfl) (Or.inr rfl))) (fun _ _ _ _=>pts_nil) (fun _ _ _=>rfl) (fun _ _ _ _ _ _=>pb_gen rfl rfl (pi_tupK K (pv 0)) (pg_name (i:=1) (show List.Nodup (["parts","part"]:List Str) from by decide +kernel) rfl (Or.inl rfl) (Or.inr rfl)) pts_nil (pv 1))))
      (pssx_one (psx_of (ps_ret (pe_call (ok_lowest_over T) (hr.mono (by decide)) rfl T.p_lowest_over.g T.p_lowest_over.F.kp T.p_lowest_over.b .nil passR (pa_cons (pe_op op_powB (pe_call (ok_diagonal_sum T) (hr.mono (by decide)) rfl T.p_diagonal_sum.g T.p_diagonal_sum.F.kp T.p_diagonal_sum.b .nil passR (pa_cons (pv 5) (pa_cons (pv 3) pa_nil))) pe_int) (pa_cons (pv 6) pa_nil)))))))))),?_⟩
    refine ⟨_,rfl,_,rfl,p,a,M,ns,ws,rfl,ta,td.len.symm,ha,by omega,hP,fun H1 s1=>?_⟩
    exact ⟨_,rfl,_,rfl,p,d,M,ns,ks,g,rfl,ta.same s1,td,h64,wa.same s1,nd,hkl,ok,fun z H' s'=>k1 z H' (s'.after s1),fun z=>⟨(k2 z).1,fun H' s'=>(k2 z).2 H' (s'.after s1)⟩⟩
theorem ok_stretchedB (T:Txt w K mg t):FnOk P w K mg base (CXr P w) 5 t.f_stretched t.d_stretched ["tent","worths","seam"] (fun vs H Q E=>sp_stretched t.C_Tent vs H Q E∨sp_stretchedX t.C_Tent t.E_NoWorths t.E_NoFraction vs H Q E):=(ok_stretched T).or (ok_stretchedX T)
theorem ok_worthB (T:Txt w K mg t):FnOk P w K mg base (CXr P w) 8 t.f_worth t.d_worth ["tent","worths","word"] (fun vs H Q E=>sp_worth t.C_Tent vs H Q E∨sp_worthX t.C_Tent t.E_NoWorths t.E_NoFraction vs H Q E):=(ok_worth T).or (ok_worthX T)
theorem sc_l_told:FnScope ["_law_door","_law_tent_here","_law_worths_here","_law_thing","_law_told_here"] ["_law_door","_law_tent_here","_law_worths_here","_law_thing"] (defScope s_l_told):=⟨rfl,rfl,rfl,by decide +kernel,rfl,by decide +kernel,by decide +kernel⟩
theorem ok_l_told (T:Txt w K mg t):FnOk P w K mg base (CXr P w) 9 t.f_l_told t.d_l_told ["_law_door","_law_tent_here","_law_worths_here","_law_thing"] (sp_told t.C_Tent):=by
 refine T.p_l_told.F.okR sc_l_told (fun vs H Q E h=>?_) (fun cdv A outer s H vs Q E hr h=>?_)
 ·obtain ⟨door,p,d,th,M,ns,ks,g,rfl,_⟩:=h
  rfl
 ·obtain ⟨door,p,d,th,M,ns,ks,g,rfl,ta,td,h64,wa,nd,hkl,ok,hdo,k⟩:=h
  have hu:=hu_of hr
  refine ⟨_,(pss_cons (ps_set (i:=4) sc_l_told.nd rfl (Or.inl rfl) pe_str)
   (pss_cons (ps_tryN (pssx_one (psx_if (pt_cmpR op_eq (pv 0) pe_int (nomark _)) (pssx_one (psx_expr (pex_call (ok_stretchedB T) (hr.mono (by decide)) rfl T.p_stretched.g T.p_stretched.F.kp T.p_stretched.b .nil (pa_cons (pv 1) (pa_cons (pv 2) (pa_cons (pv 3) pa_nil)))))) (pssx_one (psx_expr (pex_call (ok_worthB T) (hr.mono (by decide)) rfl T.p_worth.g T.p_worth.F.kp T.p_worth.b .nil (pa_cons (pv 1) (pa_cons (pv 2) (pa_cons (pv 3) pa_nil)))))))) (hs_cons rfl T.gx_NoFraction (fun _=>(pss_one (ps_set (i:=4) sc_l_told.nd rfl (Or.inl rfl) pe_str))) (hs_cons rfl T.gx_NoWorths (fun _=>(pss_one (ps_set (i:=4) sc_l_told.nd rfl (Or.inl rfl) pe_str))) hs_off)))
   (pss_one (ps_ret (pv 4))))),?_⟩
  refine seq_cut fun nxC hnxC=>?_
  refine hnxC _ _ ?_
  have kW:¬ SwK M ns ks→∀ H',SBut d H H'→Q (.str "no worths") H':=fun z H' s'=>by
   have:=k H' s'
   unfold dueS at this
   rw [if_neg z] at this
   exact this
  have kF:SwK M ns ks→(∃ x∈ks,bad (g x))→∀ H',SBut d H H'→Q (.str "no fraction") H':=fun z y H' s'=>by
   have:=k H' s'
   unfold dueS at this
   rw [if_pos z,if_pos y] at this
   exact this
  have kG:SwK M ns ks→¬ (∃ x∈ks,bad (g x))→∀ H',SBut d H H'→Q (.str "") H':=fun z y H' s'=>by
   have:=k H' s'
   unfold dueS at this
   rw [if_pos z,if_neg y] at this
   exact this
  by_cases good:SwK M ns ks∧¬ (∃ x∈ks,bad (g x))
  ·obtain ⟨sw,nb⟩:=good
   have hg:∀ x∈ks,1≤(g x).1∧(g x).1≤100∧1≤(g x).2∧(g x).2≤100:=fun x hx=>(ok x hx).resolve_left fun z=>nb ⟨x,hx,z⟩
   have wn:=wa.nat fun x hx=>⟨(hg x hx).1,(hg x hx).2.2.1⟩
   have big:∀ n:Nat,n≤100→n < 2 ^ 3999∧n < 2 ^ 8900:=fun n hn=>⟨Nat.lt_of_le_of_lt hn (by decide +kernel),Nat.lt_of_le_of_lt hn (by decide +kernel)⟩
   refine ⟨_,rfl,rfl,_,rfl,?_⟩
   rcases hdo with ⟨rfl,x,a,b,rfl,mv⟩ | ⟨rfl,a,ws,rfl,ha,hwl,hP⟩
   ·refine iteT ⟨_,rfl,_,rfl,_,rfl,.inl ⟨p,d,M,ns,ks,_,x,a,b,rfl,ta,td,h64,wn,sw,fun y hy=>?_,mv,?_,?_,fun d' H' s' _ _=>?_⟩⟩
    ·have:=hg y hy
     exact ⟨by show 1≤(g y).1.toNat; omega,by show 1≤(g y).2.toNat; omega,(big _ (by omega)).2,(big _ (by omega)).2⟩
    ·have:=hg x ((sw.mem x).mpr ⟨a,b,mv.hM,mv.nm⟩)
     exact (big _ (Nat.le_trans (lowN_le _ _).1 (by show (g x).1.toNat≤100; omega))).1
    ·have:=hg x ((sw.mem x).mpr ⟨a,b,mv.hM,mv.nm⟩)
     exact (big _ (Nat.le_trans (lowN_le _ _).2 (by show (g x).2.toNat≤100; omega))).1
    ·exact ⟨_,rfl,kG sw nb H' (.of s')⟩
   ·refine iteF ⟨_,rfl,_,rfl,_,rfl,.inl ⟨p,d,a,M,ns,ks,_,ws,rfl,ta,td,h64,wn,sw,fun y hy=>?_,ha,hwl,hP,fun r H' s' _=>?_⟩⟩
    ·have:=hg y hy
     exact ⟨by show 1≤(g y).1.toNat; omega,by show 1≤(g y).2.toNat; omega,by show (g y).1.toNat≤100; omega,by show (g y).2.toNat≤100; omega⟩
    ·exact ⟨_,rfl,kG sw nb H' (.of s')⟩
  ·have hb:SwK M ns ks→∃ x∈ks,bad (g x):=fun sw=>Classical.byContradiction fun z=>good ⟨sw,z⟩
   refine ⟨_,rfl,rfl,_,rfl,?_⟩
   rcases hdo with ⟨rfl,x,a,b,rfl,mv⟩ | ⟨rfl,a,ws,rfl,ha,hwl,hP⟩
   ·refine iteT ⟨_,rfl,_,rfl,_,rfl,.inr ⟨p,d,M,ns,ks,g,x,a,b,rfl,ta,td,h64,wa,nd,hkl,ok,mv,fun z H' s'=>?_,fun z=>⟨hb z,fun H' s'=>?_⟩⟩⟩
    ·exact ⟨false,T.nx_NoWorths_NoFraction,iteF ⟨true,T.yx_NoWorths_NoWorths,iteT ⟨_,rfl,kW z H' s'⟩⟩⟩
    ·exact ⟨true,T.yx_NoFraction_NoFraction,iteT ⟨_,rfl,kF z (hb z) H' s'⟩⟩
   ·refine iteF ⟨_,rfl,_,rfl,_,rfl,.inr ⟨p,d,a,M,ns,ks,g,ws,rfl,ta,td,h64,wa,nd,hkl,ok,ha,hwl,hP,fun z H' s'=>?_,fun z=>⟨hb z,fun H' s'=>?_⟩⟩⟩
    ·exact ⟨false,T.nx_NoWorths_NoFraction,iteF ⟨true,T.yx_NoWorths_NoWorths,iteT ⟨_,rfl,kW z H' s'⟩⟩⟩
    ·exact ⟨true,T.yx_NoFraction_NoFraction,iteT ⟨_,rfl,kF z (hb z) H' s'⟩⟩
end
end KT
set_option maxHeartbeats 4000000
namespace KT
open PySem L2 Mx
theorem pick_at {zs:List Nat} {pick:Int} (h:0 < zs.length):∃ q,atI (zs.map nV) (pick % (((zs.map nV).length:Nat):Int))=some (nV q)∧q∈zs:=by
 rw [List.length_map]
 have k0:=Int.emod_nonneg pick (show (zs.length:Int)≠0 by omega)
 have k1:=Int.emod_lt_of_pos pick (show (0:Int) < zs.length by omega)
 obtain ⟨kk,hkk⟩:∃ kk:Nat,pick % (zs.length:Int)=kk:=⟨_,(Int.toNat_of_nonneg k0).symm⟩
 have hkl:kk < zs.length:=by omega
 rw [hkk]
 exact ⟨_,map_at (List.getElem?_eq_getElem hkl),List.getElem_mem hkl⟩
noncomputable def WK (H:Hp) (d:Addr) (n:Nat):Prop:=∃ (ks:List Int) (g:Int→Int × Int),WI H d ks g∧ks.Nodup∧ks.length≤n∧∀ x∈ks,okV (g x)
theorem WI.put {H:Hp} {d q:Addr} {ks:List Int} {g:Int→Int × Int} {ad:Int→Addr} {y:Int} {v:Int × Int} {n:Nat} (h1:H d=some (.dK (wD ks ad))) (h2:∀ x∈ks,H (ad x)=some (tpI (g x))) (hq:H q=some (tpI v)) (nd:ks.Nodup) (hn:ks.length≤n) (ok:∀ x∈ks,okV (g x)) (hv:okV v) :
  WK (upd H d (.dK (putK (wD ks ad) (Sum.inl y) (V.ref q)))) d (n + 1):=by
 have nd':∀ r u,H r=some (tpI u)→r≠d:=fun r u h z=>by rw [z,h1] at h; cases h
 by_cases hy:y∈ks
 ·refine ⟨ks,fun x=>if x=y then v else g x,⟨fun x=>if x=y then q else ad x,?_,fun x hx=>?_⟩,nd,by omega,fun x hx=>?_⟩
  ·rw [upd_same]
   unfold wD
   rw [put_old hy]
   congr 2
   apply List.map_congr_left
   intro x _
   by_cases c:x=y
   ·simp [c]
   ·simp [c]
  ·dsimp only
   by_cases c:x=y
   ·rw [if_pos c,if_pos c,upd_ne (nd' _ _ hq)]; exact hq
   ·rw [if_neg c,if_neg c,upd_ne (nd' _ _ (h2 x hx))]; exact h2 x hx
  ·dsimp only
   by_cases c:x=y
   ·rw [if_pos c]; exact hv
   ·rw [if_neg c]; exact ok x hx
 ·have inn:∀ x,x∈ks ++ [y]→x≠y→x∈ks:=fun x hx c=>by
   rcases List.mem_append.mp hx with z | z
   ·exact z
   ·exact absurd (List.mem_singleton.mp z) c
  refine ⟨ks ++ [y],fun x=>if x=y then v else g x,⟨fun x=>if x=y then q else ad x,?_,fun x hx=>?_⟩,?_,by rw [List.length_append,List.length_singleton]; omega,fun x hx=>?_⟩
  ·rw [upd_same]
   unfold wD
   rw [put_new hy,List.map_append]
   congr 3
   ·apply List.map_congr_left
    intro x hx
    have:x≠y:=fun z=>hy (z ▸ hx)
    simp [this]
   ·simp
  ·dsimp only
   by_cases c:x=y
   ·rw [if_pos c,if_pos c,upd_ne (nd' _ _ hq)]; exact hq
   ·rw [if_neg c,if_neg c,upd_ne (nd' _ _ (h2 x (inn x hx c)))]; exact h2 x (inn x hx c)
  ·rw [List.nodup_append]
   refine ⟨nd,by simp,fun a ha b hb e=>?_⟩
   rw [List.mem_singleton.mp hb] at e
   exact hy (e ▸ ha)
  ·dsimp only
   by_cases c:x=y
   ·rw [if_pos c]; exact hv
   ·rw [if_neg c]; exact ok x (inn x hx c)
theorem WI.drop {H:Hp} {d:Addr} {ks:List Int} {g:Int→Int × Int} {ad:Int→Addr} {y:Int} {n:Nat} (h1:H d=some (.dK (wD ks ad))) (h2:∀ x∈ks,H (ad x)=some (tpI (g x))) (nd:ks.Nodup) (hn:ks.length≤n) (ok:∀ x∈ks,okV (g x)) :
  WK (upd H d (.dK (dropK (wD ks ad) (Sum.inl y)))) d n:=by
 refine ⟨ks.filter (fun x=>decide (x≠y)),g,⟨ad,?_,fun x hx=>?_⟩,nd.filter _,Nat.le_trans (List.length_filter_le _ _) hn,fun x hx=>ok x (List.mem_filter.mp hx).1⟩
 ·rw [upd_same]
  unfold dropK wD
  rw [List.filter_map]
  congr 3
  apply List.filter_congr
  intro x _
  simp
 ·have hx:=(List.mem_filter.mp hx).1
  rw [upd_ne (fun z=>by have:=h2 x hx; rw [z,h1] at this; cases this)]
  exact h2 x hx
noncomputable def sp_due:Sp:=fun vs H Q _=>∃ (m r d:Addr) (M:List (Option Nat)) (ns ks:List Int) (g:Int→Int × Int),vs=[.ref m,.ref r,.ref d]∧H m=some (.lst (M.map mV))∧RowsAt H r ns∧TD M ns∧M.length≤42∧WI H d ks g∧ks.Nodup∧ks.length < 64∧∀ H',SBut d H H'→WR H' d ks g→Q (.str (dueS M ns ks g)) H'
noncomputable def nmL (M:List (Option Nat)) (ns:List Int) (i:Nat):List Int:=((List.range i).filter (hasM M)).map fun p=>ns.getD p 0
theorem nmL_len (M:List (Option Nat)) (ns:List Int) (i:Nat):(nmL M ns i).length≤i:=by
 unfold nmL
 rw [List.length_map]
 have:=List.length_filter_le (hasM M) (List.range i)
 rw [List.length_range] at this
 exact this
theorem nmL_mem {M:List (Option Nat)} {ns:List Int} (td:TD M ns) {x:Int}:x∈nmL M ns M.length ↔ SwN M ns x:=by
 have hl:=td.len
 unfold nmL
 rw [List.mem_map]
 constructor
 ·rintro ⟨p,hp,rfl⟩
  obtain ⟨h1,h2⟩:=List.mem_filter.mp hp
  obtain ⟨j,hj⟩:=hasM_iff.mp h2
  have h1:=List.mem_range.mp h1
  refine ⟨p,j,hj,?_⟩
  rw [List.getD_eq_getElem?_getD,List.getElem?_eq_getElem (by omega)]
  rfl
 ·rintro ⟨p,j,hj,hx⟩
  refine ⟨p,List.mem_filter.mpr ⟨List.mem_range.mpr (List.getElem?_eq_some_iff.mp hj).1,hasM_iff.mpr ⟨j,hj⟩⟩,?_⟩
  rw [List.getD_eq_getElem?_getD,hx]
  rfl
section
variable {P:Program} {w:World} {K:PySem.W.Frag} {mg:Str→Option Value} {base:Heap} {t:Adr}
theorem sc_l_due:FnScope ["_law_mates","_law_rows_here","_law_worths_here","_law_names","_law_seam_here"] ["_law_mates","_law_rows_here","_law_worths_here"] (defScope s_l_due):=⟨rfl,rfl,rfl,by decide +kernel,rfl,by decide +kernel,by decide +kernel⟩
theorem ok_l_due (T:Txt w K mg t):FnOk P w K mg base (CXr P w) 1 t.f_l_due t.d_l_due ["_law_mates","_law_rows_here","_law_worths_here"] sp_due:=by
  refine T.p_l_due.F.okR sc_l_due (fun vs H Q E h=>?_) (fun cdv A outer s H vs Q E hr h=>?_)
  · obtain ⟨m,r,d,M,ns,ks,g,rfl,_⟩:=h
    rfl
  · obtain ⟨m,r,d,M,ns,ks,g,rfl,hm,hr1,td,h42,wa,nd,hkl,k⟩:=h
    have hu:=hu_of hr
    refine ⟨_,(pss_cons (ps_setCompG (ts:=["_law_p"]) (fv:=[("_law_rows_here",1),("_law_mates",0)]) (i:=3) ⟨rfl,by decide +kernel,by decide +kernel,blkFree (by rfl),⟨⟨rfl,rfl,Or.inl rfl⟩,⟨rfl,rfl,Or.inl rfl⟩,trivial⟩⟩ rfl sc_l_due.nd rfl rfl (by rfl) (pi_range1 rfl T.n_range (pa_cons (pe_callB call_len_seq (by rfl) T.n_len PySem.boot_len (pa_cons (pv 0) pa_nil)) pa_nil)) (fun _ _ _ _=>(pg_name (i:=0) (show List.Nodup (["_law_p","_law_rows_here","_law_mates"]:List Str) from by decide +kernel) rfl (Or.inl rfl) (Or.inr rfl))) (fun _ _ _ _=>(pts_one (pt_cmpR op_notN (pe_ix (ix_listK K) (pv 2) (pv 0) (fun _ _=>rfl)) pe_non (nomark _)))) (fun _ _ _=>rfl) (fun _ _ _ _ _ _=>pb_emit (pe_ix (ix_tupK K) (pe_ix (ix_listK K) (pv 1) (pe_op op_fdiv (pv 0) pe_int) (fun _ _=>rfl)) (pe_op op_mod (pv 0) pe_int) (fun _ _=>rfl))))
      (pss_cons (ps_if (pt_cmpR (op_neL hr.units) (pe_callB (call_sortedD rfl) (by rfl) T.n_sorted PyProof.Rows.boot_sorted (pa_cons (pv 2) pa_nil)) (pe_callB (call_sortedS rfl) (by rfl) T.n_sorted PyProof.Rows.boot_sorted (pa_cons (pe_callTy (call_setL rfl) (by rfl) T.n_set PySem.Pv.boot_set (pa_cons (pv 3) pa_nil)) pa_nil)) (nomark _)) (pss_one (ps_ret pe_str)) pss_nil)
      (pss_cons (ps_thaw (ps_for PassesOwn.never rfl (pi_dict (pv 2)) (pg_name (i:=4) sc_l_due.nd rfl (Or.inl rfl)) (pss_one (ps_if (PW.pt (pw_or (pt_cmpR op_lt (pe_ix ix_tup (pe_dget hu (pv 2) (pv 4) (fun _ _=>rfl)) pe_int (fun _ _=>rfl)) pe_int (nomark _)) (pw_or1 (pt_cmpR op_lt (pe_ix ix_tup (pe_dget hu (pv 2) (pv 4) (fun _ _=>rfl)) pe_int (fun _ _=>rfl)) pe_int (nomark _))))) (pss_one (ps_ret pe_str)) pss_nil))))
      (pss_one (ps_ret pe_str))))),?_⟩
    have hMl:=td.len
    refine seq_cut fun nxC hnxC=>?_
    refine ⟨_,rfl,m,_,rfl,.inl (SqL.of hm),_,rfl,by omega,by rw [List.length_map]; omega,fun D2 hD2=>?_⟩
    have eL:(((M.map mV).length:Nat):Int).toNat=M.length:=by simp
    rw [eL]
    refine loop_range (fun i σ H2=>∃ v,σ=[v,some (.ref r),some (.ref m)]∧Same H H2∧H2 D2=some (.lst ((nmL M ns i).map V.int))) ⟨none,rfl,Same.new hD2,upd_same⟩ ?_ ?_
    · rintro i σ H2 hlt ⟨v,rfl,sm,h1⟩
      dsimp only [gName]
      rw [Int.zero_add]
      obtain ⟨y,hy⟩:∃ y,M[i]?=some y:=⟨_,List.getElem?_eq_getElem hlt⟩
      obtain ⟨z,hz⟩:∃ z,ns[i]?=some z:=⟨_,List.getElem?_eq_getElem (by omega)⟩
      refine ⟨_,rfl,_,rfl,m,_,_,_,rfl,rfl,SqL.of (sm _ _ hm),map_at hy,rfl,_,rfl,?_⟩
      cases y with
      | none =>
        refine iteF ⟨_,rfl,sm,?_⟩
        have:hasM M i=false:=by rw [Bool.eq_false_iff]; intro z; obtain ⟨j,e⟩:=hasM_iff.mp z; rw [hy] at e; cases e
        unfold nmL at h1 ⊢
        rw [h1,List.range_succ,List.filter_append]
        simp [this]
      | some j =>
        obtain ⟨vs,q',x1,x2,x3,x4⟩:=row_at (hr1.same sm) hz
        refine iteT ⟨_,rfl,_,rfl,_,_,rfl,rfl,⟨by decide,by decide⟩,r,_,_,_,rfl,rfl,SqL.of x1,(by rw [div3]; exact map_at x2),_,rfl,_,_,rfl,rfl,(by show (0:Int) < 3; decide),q',_,_,_,rfl,rfl,SqT.of x3,(by rw [mod3]; exact atI_nat x4),_,h1,?_,_,rfl,Same.add sm hD2,?_⟩
        · rw [List.length_map]
          exact small1000 (Nat.le_trans (nmL_len M ns i) (by omega))
        · have:hasM M i=true:=hasM_iff.mpr ⟨j,hy⟩
          have e:nmL M ns (i + 1)=nmL M ns i ++ [z]:=by
            unfold nmL
            rw [List.range_succ,List.filter_append,List.map_append]
            simp [this,hz]
          rw [upd_same,e,List.map_append]
          rfl
    rintro σ H1 ⟨v,rfl,s1,h1⟩
    refine hnxC _ _ ?_
    try dsimp only [gName]
    obtain ⟨ad,hd,had⟩:=id wa
    have hd1:=s1 _ _ hd
    refine seq_cut fun nxC hnxC=>?_
    refine ⟨_,rfl,d,_,ks,rfl,.inl hd1,(by unfold wD; rw [List.map_map]; rfl),hkl,fun l1 out1 hl1 pm1 st1=>?_⟩
    have s2:Same H1 (upd H1 l1 (.lst (out1.map V.int))):=Same.new hl1
    have h2:(upd H1 l1 (.lst (out1.map V.int))) l1=some (.lst (out1.map V.int)):=upd_same
    have h1':=s2 _ _ h1
    generalize upd H1 l1 (.lst (out1.map V.int))=H2 at s2 h2 h1' ⊢
    have hnl:=nmL_len M ns M.length
    refine ⟨_,rfl,D2,nmL M ns M.length,rfl,SqL.of h1',by omega,fun qs hqs=>?_⟩
    refine ⟨qs,dd (nmL M ns M.length),rfl,upd_same,(by have:=dd_len (nmL M ns M.length); omega),fun lO outO hlO pO qO=>?_⟩
    obtain ⟨hlOq,hlO'⟩:=upd_none hlO
    generalize hH3:upd (upd H2 qs _) lO (.lst (outO.map V.int))=H3
    have s3:Same H2 H3:=by rw [← hH3]; exact Same.add (Same.new hqs) hlO'
    have h3:H3 lO=some (.lst (outO.map V.int)):=by rw [← hH3]; exact upd_same
    clear hH3
    refine ⟨l1,lO,out1,outO,rfl,rfl,SqL.of (s3 _ _ h2),SqL.of h3,_,rfl,?_⟩
    have s13:=(s1.trans s2).trans s3
    have swO:SwK M ns outO:=⟨pO.nodup_iff.mpr (dd_nodup _),fun x=>by rw [pO.mem_iff,dd_mem,nmL_mem td]⟩
    have had3:∀ x∈ks,H3 (ad x)=some (tpI (g x)):=fun x hx=>s13 _ _ (had x hx)
    have hd3:=s13 _ _ hd
    by_cases e:out1=outO
    · rw [decide_eq_true e]
      refine iteF ?_
      try dsimp only [tNext]
      refine hnxC _ _ ?_
      have sw:SwK M ns ks:=⟨nd,fun x=>by rw [← pm1.mem_iff,e]; exact swO.mem x⟩
      clear h1 h2 h3 h1' hlO hqs hl1 pO pm1 qO st1 e
      have kF:(∃ x∈ks,bad (g x))→∀ H',SBut d H H'→WR H' d ks g→Q (.str "no fraction") H':=fun y H' s' w'=>by
        have:=k H' s' w'
        unfold dueS at this
        rw [if_pos sw,if_pos y] at this
        exact this
      have kG:¬ (∃ x∈ks,bad (g x))→∀ H',SBut d H H'→WR H' d ks g→Q (.str "") H':=fun y H' s' w'=>by
        have:=k H' s' w'
        unfold dueS at this
        rw [if_pos sw,if_neg y] at this
        exact this
      show tSeq _ _ _ _ _
      refine seq_post (fun σ H'=>SBut d H H'∧WI H' d ks g∧∀ x∈ks,¬ bad (g x)) (fun nx hnx=>?_) ?_
      · refine ⟨_,rfl,d,_,rfl,.inl ⟨hd3,fun o=>?_⟩⟩
        have hda:∀ x∈ks,ad x≠d:=fun x hx z=>by have:=had3 x hx; rw [z,hd3] at this; cases this
        refine for_keys (fun i σ H9=>∃ v4,σ=[some (.ref m),some (.ref r),some (.ref d),some (.ref D2),v4]∧H9=upd H3 d (.frz o (.dK (wD ks ad)))∧∀ x∈ks.take i,¬ bad (g x)) ⟨_,rfl,rfl,fun x hx=>by simp at hx⟩ ?_ ?_ ?_
        · rintro i σ H9 _ ⟨v,rfl,rfl,_⟩
          exact upd_same
        · rintro i k0 x0 σ H9 hk0 ⟨v,rfl,rfl,all⟩
          obtain ⟨y,hy,rfl,rfl⟩:=wD_at hk0
          have hyk:=List.mem_of_getElem? hy
          have hay:(upd H3 d (.frz o (.dK (wD ks ad)))) (ad y)=some (tpI (g y)):=by rw [upd_ne (hda y hyk)]; exact had3 y hyk
          have dg:=wD_get (ad:=ad) (H:=upd H3 d (.frz o (.dK (wD ks ad)))) (d:=d) (.inr ⟨o,upd_same⟩) hyk
          have sF:SBut d H (upd H3 d (.frz o (.dK (wD ks ad)))):=fun b u hb e=>by rw [upd_ne hb]; exact s13 _ _ e
          have wF:WR (upd H3 d (.frz o (.dK (wD ks ad)))) d ks g:=⟨ad,.inr ⟨o,upd_same⟩,fun x hx=>by rw [upd_ne (hda x hx)]; exact had3 x hx⟩
          dsimp only [gName,kV]
          refine ⟨_,rfl,_,rfl,d,_,rfl,dg,ad y,_,_,_,rfl,rfl,SqT.of hay,rfl,_,_,rfl,rfl,_,rfl,?_⟩
          refine ite2 (fun c=>?_) (fun c=>?_)
          · exact iteT (kF ⟨y,hyk,.inl (of_decide_eq_true c)⟩ _ sF wF)
          · have c:¬ (g y).1 < 1:=fun z=>c (decide_eq_true z)
            refine ⟨_,rfl,_,rfl,d,_,rfl,dg,ad y,_,_,_,rfl,rfl,SqT.of hay,rfl,_,_,rfl,rfl,_,rfl,?_⟩
            refine ite2 (fun c'=>?_) (fun c'=>?_)
            · exact kF ⟨y,hyk,.inr (of_decide_eq_true c')⟩ _ sF wF
            · have c':¬ (g y).2 < 1:=fun z=>c' (decide_eq_true z)
              refine ⟨_,rfl,rfl,fun x hx=>?_⟩
              rw [List.take_add_one,hy] at hx
              rcases List.mem_append.mp hx with z | z
              · exact all x z
              · rw [show x=y by simpa using z]
                exact fun z=>z.elim c c'
        · rintro σ H9 ⟨v,rfl,rfl,all⟩
          rw [wD_len,List.take_length] at all
          refine ⟨d,o,_,upd_same,(fun o' u z=>by have z:H d=some (.frz o' u):=z; rw [hd] at z; cases z),hnx _ _ ⟨fun b u hb e=>?_,⟨ad,upd_same,fun x hx=>?_⟩,all⟩⟩
          · rw [upd_ne hb,upd_ne hb]; exact s13 _ _ e
          · rw [upd_ne (hda x hx),upd_ne (hda x hx)]; exact had3 x hx
      · rintro σ H9 ⟨s9,⟨ad9,e9,f9⟩,all⟩
        refine kG (fun zz43=>?_) H9 s9 ⟨ad9,.inl e9,f9⟩
        obtain ⟨x,hx,hb⟩:=zz43
        exact all x hx hb
    · rw [decide_eq_false e]
      have nsw:¬ SwK M ns ks:=fun sw=>e (sorted_eq pm1 (swO.perm sw) st1 qO)
      have:=k H3 (.of s13) ⟨ad,.inl hd3,had3⟩
      unfold dueS at this
      rw [if_neg nsw] at this
      exact iteT this
theorem sc_law:FnScope ["_law_script","_law_mates","_law_rows_here","_law_tent_here","_law_worths_here","_law_pick","_law_name","_law_far","_law_due_here","_law_spots","_law_seam_here","_law_word"] ["_law_script"] (defScope s_law):=⟨rfl,rfl,rfl,by decide +kernel,rfl,by decide +kernel,by decide +kernel⟩
theorem ok_law (T:Txt w K mg t):FnOk P w K mg base (CXr P w) 10 t.f_law t.d_law ["_law_script"] (sp_law K):=by
 refine T.p_law.F.okR sc_law (fun vs H Q E h=>?_) (fun cdv A outer s H vs Q E hr h=>?_)
 ·obtain ⟨a,ns,rfl,_⟩:=h
  rfl
 ·obtain ⟨a,sc,rfl,hS,hl,k⟩:=h
  have hu:=hu_of hr
  refine ⟨_,(pss_cons (ps_asg (pe_call (ok_l_tent T) (hr.mono (by decide)) rfl T.p_l_tent.g T.p_l_tent.F.kp T.p_l_tent.b .nil passR (pa_cons (pv 0) pa_nil)) (pg_tup rfl (pgs_cons (pg_name (i:=1) sc_law.nd rfl (Or.inl rfl)) (pgs_cons (pg_name (i:=2) sc_law.nd rfl (Or.inl rfl)) pgs_nil))))
   (pss_cons (ps_set (i:=3) sc_law.nd rfl (Or.inl rfl) (pe_make T.mk_Tent (ok_Tent_init T) (hr.mono (by decide)) rfl T.gC_Tent T.p_Tent_init.b .nil passR (pa_cons (pe_callTy call_list_of (by rfl) T.n_list PySem.Pv.boot_list (pa_cons (pv 2) pa_nil)) pa_nil)))
   (pss_cons (ps_set (i:=4) sc_law.nd rfl (Or.inl rfl) (pe_call (ok_l_worths T) (hr.mono (by decide)) rfl T.p_l_worths.g T.p_l_worths.F.kp T.p_l_worths.b .nil passR (pa_cons (pv 1) (pa_cons (pv 2) (pa_cons (pe_call (ok_l_numbers T) (hr.mono (by decide)) rfl T.p_l_numbers.g T.p_l_numbers.F.kp T.p_l_numbers.b .nil passR (pa_cons (pe_call (ok_l_cell T) (hr.mono (by decide)) rfl T.p_l_cell.g T.p_l_cell.F.kp T.p_l_cell.b .nil passR (pa_cons (pv 0) (pa_cons pe_int pa_nil))) (pa_cons pe_int pa_nil))) pa_nil)))))
   (pss_cons (ps_set (i:=5) sc_law.nd rfl (Or.inl rfl) (pe_call (ok_l_cell T) (hr.mono (by decide)) rfl T.p_l_cell.g T.p_l_cell.F.kp T.p_l_cell.b .nil passR (pa_cons (pv 0) (pa_cons pe_int pa_nil))))
   (pss_cons (ps_set (i:=6) sc_law.nd rfl (Or.inl rfl) (pe_call (ok_l_seam T) (hr.mono (by decide)) rfl T.p_l_seam.g T.p_l_seam.F.kp T.p_l_seam.b .nil passR (pa_cons (pv 2) (pa_cons (pe_op op_mod (pe_op op_fdiv (pv 5) pe_int) (pe_callB call_len_seq (by rfl) T.n_len PySem.boot_len (pa_cons (pv 1) pa_nil))) pa_nil))))
   (pss_cons (ps_set (i:=7) sc_law.nd rfl (Or.inl rfl) (pe_op op_sub pe_int (pe_op op_mod (pe_call (ok_l_cell T) (hr.mono (by decide)) rfl T.p_l_cell.g T.p_l_cell.F.kp T.p_l_cell.b .nil passR (pa_cons (pv 0) (pa_cons pe_int pa_nil))) pe_int)))
   (pss_cons (ps_if (PW.pt (pw_and (pt_cmpR op_eq (pe_op op_mod (pv 5) pe_int) pe_int (nomark _)) (pw_and1 (pt_cmp (pc_din hu (pv 6) (pv 4)) (by with_unfolding_all rfl))))) (pss_one (ps_expr (pe_dpop1 (pv 4) (pv 6) ⟨rfl,rfl,rfl,rfl⟩))) pss_nil)
   (pss_cons (ps_if (PW.pt (pw_or (pt_cmpR op_eq (pe_op op_mod (pv 5) pe_int) pe_int (nomark _)) (pw_or1 (PW.pt (pw_and (pt_cmpR op_eq (pe_op op_mod (pv 5) pe_int) pe_int (nomark _)) (pw_and1 (pt_cmpR op_eq (pe_op op_mod (pe_op op_fdiv (pv 5) pe_int) pe_int) pe_int (nomark _)))))))) (pss_one (ps_dput hu (pv 4) (pe_ix ix_tup (pe_tup (pa_cons (pv 6) (pa_cons (pe_op op_mod (pe_op op_fdiv (pv 5) pe_int) pe_int) pa_nil))) (pe_op op_mod (pe_op op_fdiv (pv 5) pe_int) pe_int) (fun _ _=>rfl)) (pe_tup (pa_cons pe_int (pa_cons pe_int pa_nil))) rfl)) pss_nil)
   (pss_cons (ps_if (pt_cmpR op_eq (pe_op op_mod (pv 5) pe_int) pe_int (nomark _)) (pss_one (ps_dput hu (pv 4) (pv 6) (pe_tup (pa_cons (pv 7) (pa_cons pe_int pa_nil))) rfl)) pss_nil)
   (pss_cons (ps_if (pt_cmpR op_eq (pe_op op_mod (pv 5) pe_int) pe_int (nomark _)) (pss_one (ps_dput hu (pv 4) (pv 6) (pe_tup (pa_cons (pe_op op_add pe_int (pe_op op_mulB (pe_op op_mod (pe_op op_fdiv (pv 5) pe_int) pe_int) (pv 7))) (pa_cons (pv 7) pa_nil))) rfl)) pss_nil)
   (pss_cons (ps_set (i:=8) sc_law.nd rfl (Or.inl rfl) (pe_call (ok_l_due T) (hr.mono (by decide)) rfl T.p_l_due.g T.p_l_due.F.kp T.p_l_due.b .nil passR (pa_cons (pv 1) (pa_cons (pv 2) (pa_cons (pv 4) pa_nil)))))
   (pss_cons (ps_set (i:=9) sc_law.nd rfl (Or.inl rfl) (pe_call (ok_l_free T) (hr.mono (by decide)) rfl T.p_l_free.g T.p_l_free.F.kp T.p_l_free.b .nil passR (pa_cons (pv 1) pa_nil)))
   (pss_cons (ps_if (pt_cmpR op_gt (pe_callB call_len_seq (by rfl) T.n_len PySem.boot_len (pa_cons (pv 9) pa_nil)) pe_int (nomark _)) (pss_cons (ps_set (i:=10) sc_law.nd rfl (Or.inl rfl) (pe_call (ok_l_seam T) (hr.mono (by decide)) rfl T.p_l_seam.g T.p_l_seam.F.kp T.p_l_seam.b .nil passR (pa_cons (pv 2) (pa_cons (pe_ix ix_list (pv 9) (pe_op op_mod (pe_op op_fdiv (pv 5) pe_int) (pe_callB call_len_seq (by rfl) T.n_len PySem.boot_len (pa_cons (pv 9) pa_nil))) (fun _ _=>rfl)) pa_nil))))
   (pss_one (ps_if (pt_cmpR op_ne (pe_call (ok_l_told T) (hr.mono (by decide)) rfl T.p_l_told.g T.p_l_told.F.kp T.p_l_told.b .nil passR (pa_cons pe_int (pa_cons (pv 3) (pa_cons (pe_callTy call_dictD (by rfl) T.n_dict PySem.Pv.boot_dict (pa_cons (pv 4) pa_nil)) (pa_cons (pv 10) pa_nil))))) (pv 8) (nomark _)) (pss_one (ps_ret pe_bl)) pss_nil))) pss_nil)
   (pss_cons (ps_set (i:=11) sc_law.nd rfl (Or.inl rfl) (pe_call (ok_l_thread T) (hr.mono (by decide)) rfl T.p_l_thread.g T.p_l_thread.F.kp T.p_l_thread.b .nil passR (pa_cons (pv 0) (pa_cons pe_int (pa_cons (pv 1) pa_nil)))))
   (pss_one (ps_ret (pe_or (pe_cmpR op_eq (pe_callB call_len_seq (by rfl) T.n_len PySem.boot_len (pa_cons (pv 11) pa_nil)) pe_int (nomark _)) (pe_one (pe_cmpR op_eq (pe_call (ok_l_told T) (hr.mono (by decide)) rfl T.p_l_told.g T.p_l_told.F.kp T.p_l_told.b .nil passR (pa_cons pe_int (pa_cons (pv 3) (pa_cons (pe_callTy call_dictD (by rfl) T.n_dict PySem.Pv.boot_dict (pa_cons (pv 4) pa_nil)) (pa_cons (pv 11) pa_nil))))) (pv 8) (nomark _)))))))))))))))))))),?_⟩
  refine seq_cut fun nxC hnxC=>?_
  refine ⟨_,rfl,a,sc,rfl,hS,hl,fun p m r M ns H1 sm1 hp hm hr1 td h42 hm0 hr0=>?_⟩
  refine ⟨p,_,rfl,SqT.of hp,rfl,_,_,rfl,_,_,rfl,rfl,?_⟩
  refine hnxC _ _ ?_
  obtain ⟨ts,g1,g2,g3⟩:=id hr1
  refine seq_cut fun nxC hnxC=>?_
  refine ⟨_,rfl,r,_,rfl,.inl (SqL.of g1),fun l hl1=>?_⟩
  intro x dx hx hdx hne
  obtain ⟨rl2,s2⟩:=tent_new (C:=t.C_Tent) g1 g2 g3 hl1 hx hdx
  refine ⟨x,l,dx,M,ns,rfl,upd_same,rl2,td,by rw [td.len]; omega,fun H3 old ta=>⟨rfl,?_⟩⟩
  have s3:Same H1 H3:=fun b u e=>old b u (ne_of_none ((Same.new hl1) b u e) hx) (s2 b u ((Same.new hl1) b u e))
  refine hnxC _ _ ?_
  have hr3:=hr1.same s3
  have hm3:=s3 _ _ hm
  have hS3:SqL K H3 a (sc.map V.int):=(sm1.trans s3).seq hS
  have hMl:=td.len
  obtain ⟨n,n1,n40,hn⟩:=td.n
  have h64:ns.length < 64:=by omega
  clear old rl2 s2 g1 g2 g3 hr1 hm0 hr0 hp hm s3 sm1 hx hdx hne hl1 hS
  try dsimp only [gName]
  refine seq_cut fun nxC hnxC=>?_
  refine ⟨_,rfl,_,rfl,_,rfl,a,sc,4,rfl,hS3,hl,by decide,by decide,_,60,rfl,by decide,fun nm xs H4 s4 hnm h4 hxl hxs=>?_⟩
  refine ⟨m,r,nm,M,ns,xs,rfl,s4 _ _ hm3,hr3.same s4,td,h42,h4,hxl,hxs,fun d H5 ks0 g0 s5 hd w5 sw bd=>?_⟩
  refine hnxC _ _ ?_
  try dsimp only [gName]
  have s35:=s4.trans s5
  have ta5:=ta.same s35
  have hr5:=hr3.same s35
  have hS5:=s35.seq hS3
  have hm5:=s35 _ _ hm3
  have hk0:=sw.len td
  have wk0:WK H5 d 42:=⟨ks0,_,.int w5,sw.nd,by omega,fun x hx=>.inr (by obtain ⟨b1,b2,b3,b4⟩:=bd x hx; exact ⟨by show (1:Int)≤(g0 x).1; omega,by show ((g0 x).1:Int)≤100; omega,by show (1:Int)≤(g0 x).2; omega,by show ((g0 x).2:Int)≤100; omega⟩)⟩
  have hd3:H3 d=none:=s4.free hd
  clear s4 h4 hnm s5 hd w5 sw bd ta5
  refine seq_cut fun nxC hnxC=>?_
  refine ⟨_,rfl,a,sc,5,rfl,hS5,hl,by decide,by decide,?_⟩
  refine hnxC _ _ ?_
  try dsimp only [gName]
  generalize cell sc 5=pick
  have q0:=Int.emod_nonneg (pick / 40) (show ((M.length:Nat):Int)≠0 by omega)
  have q1:=Int.emod_lt_of_pos (pick / 40) (show (0:Int) < (M.length:Nat) by omega)
  obtain ⟨pn,hpn⟩:∃ pn:Nat,pick / 40 % ((M.length:Nat):Int)=pn:=⟨_,(Int.toNat_of_nonneg q0).symm⟩
  obtain ⟨nm,hnm⟩:∃ z,ns[pn]?=some z:=⟨_,List.getElem?_eq_getElem (by omega)⟩
  refine seq_cut fun nxC hnxC=>?_
  refine ⟨_,rfl,_,rfl,_,_,rfl,rfl,⟨by decide,by decide⟩,_,rfl,m,_,rfl,.inl (SqL.of hm5),_,_,rfl,rfl,(by rw [List.length_map]; omega),?_⟩
  refine ⟨r,ns,pn,nm,?_,hr5,hnm,?_⟩
  ·show [V.ref r,V.int (pick / 40 % (((M.map mV).length:Nat):Int))]=_
   rw [List.length_map,hpn]
  refine hnxC _ _ ?_
  try dsimp only [gName]
  refine seq_cut fun nxC hnxC=>?_
  refine ⟨_,rfl,a,sc,6,rfl,hS5,hl,by decide,by decide,_,_,rfl,rfl,(by show (0:Int) < 50; decide),_,_,rfl,rfl,?_⟩
  refine hnxC _ _ ?_
  try dsimp only [gName]
  have f0:=Int.emod_nonneg (cell sc 6) (show (50:Int)≠0 by decide)
  have f1:=Int.emod_lt_of_pos (cell sc 6) (show (0:Int) < 50 by decide)
  obtain ⟨far,hfar⟩:∃ far:Int,0 - cell sc 6 % 50=far:=⟨_,rfl⟩
  rw [hfar]
  have far0:far≤0:=by omega
  have far1:-50 < far:=by omega
  clear hfar f0 f1
  have u0:=Int.emod_nonneg (pick / 5) (show (2:Int)≠0 by decide)
  have u1:=Int.emod_lt_of_pos (pick / 5) (show (0:Int) < 2 by decide)
  refine seq_post (fun σ H'=>σ=[some (.ref a),some (.ref m),some (.ref r),some (.ref x),some (.ref d),some (.int pick),some (.int nm),some (.int far),none,none,none,none]∧SBut d H5 H'∧WK H' d 42) (fun nx hnx=>?_) ?_
  ·have stay:nx [some (.ref a),some (.ref m),some (.ref r),some (.ref x),some (.ref d),some (.int pick),some (.int nm),some (.int far),none,none,none,none] H5:=hnx _ _ ⟨rfl,fun _ _ _ e=>e,wk0⟩
   refine ⟨_,rfl,_,_,rfl,rfl,(by show (0:Int) < 5; decide),rfl,_,rfl,?_⟩
   refine ite2 (fun _=>?_) (fun _=>iteF stay)
   obtain ⟨ks,g,⟨ad,e1,e2⟩,nd,kl,ok⟩:=id wk0
   refine ⟨_,rfl,_,rfl,d,_,rfl,.inl ⟨_,Sum.inl nm,.inl e1,rfl,rfl⟩,_,rfl,?_⟩
   rw [wD_val]
   by_cases c:nm∈ks
   ·rw [if_pos c]
    refine iteT ⟨_,rfl,d,rfl,.inl ⟨_,.inl e1⟩,_,rfl,_,Sum.inl nm,V.ref (ad nm),e1,rfl,by rw [wD_val,if_pos c],?_⟩
    exact hnx _ _ ⟨rfl,fun b u hb e=>by rw [upd_ne hb]; exact e,WI.drop e1 e2 nd kl ok⟩
   ·rw [if_neg c]
    exact iteF stay
  rintro σ H6 ⟨rfl,s6,wk6⟩
  refine seq_post (fun σ H'=>σ=[some (.ref a),some (.ref m),some (.ref r),some (.ref x),some (.ref d),some (.int pick),some (.int nm),some (.int far),none,none,none,none]∧SBut d H5 H'∧WK H' d 43) (fun nx hnx=>?_) ?_
  ·have up:WK H6 d 43:=by obtain ⟨ks,g,h1,h2,h3,h4⟩:=wk6; exact ⟨ks,g,h1,h2,by omega,h4⟩
   have stay:nx [some (.ref a),some (.ref m),some (.ref r),some (.ref x),some (.ref d),some (.int pick),some (.int nm),some (.int far),none,none,none,none] H6:=hnx _ _ ⟨rfl,s6,up⟩
   obtain ⟨ks,g,⟨ad,e1,e2⟩,nd,kl,ok⟩:=id wk6
   obtain ⟨y,hy⟩:∃ y,atI [V.int nm,V.int (pick / 40 % 10000)] (pick / 5 % 2)=some (V.int y):=by
    have:pick / 5 % 2=0∨pick / 5 % 2=1:=by omega
    rcases this with e | e <;> rw [e]
    ·exact ⟨nm,rfl⟩
    ·exact ⟨_,rfl⟩
   refine ⟨_,rfl,_,_,rfl,rfl,(by show (0:Int) < 5; decide),rfl,_,rfl,?_⟩
   refine (fun R=>ite2 (fun _=>iteT R) (fun _=>?_)) ?_
   ·refine ⟨_,rfl,_,_,rfl,rfl,(by show (0:Int) < 5; decide),rfl,_,rfl,?_⟩
    refine ite2 (fun _=>?_) (fun _=>iteF stay)
    refine ⟨_,rfl,_,_,rfl,rfl,⟨by decide,by decide⟩,_,_,rfl,rfl,(by show (0:Int) < 2; decide),rfl,_,rfl,?_⟩
    exact ite2 (fun _=>R) (fun _=>stay)
   ·refine ⟨(by show 2≤sizeLine; rw [sizeLine_eq]; decide),fun q hq=>?_⟩
    have sq:Same H6 (upd H6 q (.tup [V.int 3,V.int 2])):=Same.new hq
    have hq':(upd H6 q (.tup [V.int 3,V.int 2])) q=some (tpI (3,2)):=upd_same
    generalize upd H6 q (.tup [V.int 3,V.int 2])=H7 at sq hq' ⊢
    refine ⟨_,rfl,_,rfl,_,rfl,_,_,rfl,rfl,⟨by decide,by decide⟩,_,_,rfl,rfl,(by show (0:Int) < 10000; decide),(by show 2≤sizeLine; rw [sizeLine_eq]; decide),fun q2 hq2=>?_⟩
    have sq2:Same H7 (upd H7 q2 (.tup [V.int nm,V.int (pick / 40 % 10000)])):=Same.new hq2
    have hq2':(upd H7 q2 (.tup [V.int nm,V.int (pick / 40 % 10000)])) q2=some (.tup [V.int nm,V.int (pick / 40 % 10000)]):=upd_same
    refine ⟨_,rfl,_,_,rfl,rfl,⟨by decide,by decide⟩,_,_,rfl,rfl,(by show (0:Int) < 2; decide),q2,_,_,_,rfl,rfl,SqT.of hq2',hy,?_⟩
    have s68:=sq.trans sq2
    refine ⟨d,_,rfl,DPut.k (k:=Sum.inl y) (s68 _ _ e1) (by rw [wD_len]; exact small1000 (by omega)),?_⟩
    refine hnx _ _ ⟨rfl,fun b u hb e=>?_,WI.put (s68 _ _ e1) (fun x hx=>s68 _ _ (e2 x hx)) (sq2 _ _ hq') nd kl ok (.inr ⟨by decide,by decide,by decide,by decide⟩)⟩
    rw [upd_ne hb]; exact s68 _ _ (s6 b u hb e)
  clear wk6 s6
  rintro σ H7 ⟨rfl,s7,wk7⟩
  refine seq_post (fun σ H'=>σ=[some (.ref a),some (.ref m),some (.ref r),some (.ref x),some (.ref d),some (.int pick),some (.int nm),some (.int far),none,none,none,none]∧SBut d H5 H'∧WK H' d 44) (fun nx hnx=>?_) ?_
  ·have up:WK H7 d 44:=by obtain ⟨ks,g,h1,h2,h3,h4⟩:=wk7; exact ⟨ks,g,h1,h2,by omega,h4⟩
   obtain ⟨ks,g,⟨ad,e1,e2⟩,nd,kl,ok⟩:=id wk7
   refine ⟨_,rfl,_,_,rfl,rfl,(by show (0:Int) < 5; decide),rfl,_,rfl,?_⟩
   refine ite2 (fun _=>?_) (fun _=>hnx _ _ ⟨rfl,s7,up⟩)
   refine ⟨_,rfl,(by show 2≤sizeLine; rw [sizeLine_eq]; decide),fun q hq=>?_⟩
   have sq:Same H7 (upd H7 q (.tup [V.int far,V.int 2])):=Same.new hq
   have hq':(upd H7 q (.tup [V.int far,V.int 2])) q=some (tpI (far,2)):=upd_same
   refine ⟨_,rfl,_,rfl,d,_,rfl,DPut.k (k:=Sum.inl nm) (sq _ _ e1) (by rw [wD_len]; exact small1000 (by omega)),?_⟩
   refine hnx _ _ ⟨rfl,fun b u hb e=>?_,WI.put (sq _ _ e1) (fun x hx=>sq _ _ (e2 x hx)) hq' nd kl ok (.inl (.inl (by show far < 1; omega)))⟩
   rw [upd_ne hb]; exact sq _ _ (s7 b u hb e)
  clear wk7 s7
  rintro σ H8 ⟨rfl,s8,wk8⟩
  refine seq_post (fun σ H'=>σ=[some (.ref a),some (.ref m),some (.ref r),some (.ref x),some (.ref d),some (.int pick),some (.int nm),some (.int far),none,none,none,none]∧SBut d H5 H'∧WK H' d 45) (fun nx hnx=>?_) ?_
  ·have up:WK H8 d 45:=by obtain ⟨ks,g,h1,h2,h3,h4⟩:=wk8; exact ⟨ks,g,h1,h2,by omega,h4⟩
   obtain ⟨ks,g,⟨ad,e1,e2⟩,nd,kl,ok⟩:=id wk8
   refine ⟨_,rfl,_,_,rfl,rfl,(by show (0:Int) < 5; decide),rfl,_,rfl,?_⟩
   refine ite2 (fun _=>?_) (fun _=>hnx _ _ ⟨rfl,s8,up⟩)
   have mok:IntMulOk (pick / 5 % 2) far:=PyProof.Rows.mulOk_of_bits (bits_le (k:=60000) (by
    have:(pick / 5 % 2).natAbs < 2:=by omega
    exact Nat.lt_of_lt_of_le this (by decide +kernel)) (by decide)) (bits_le (k:=60000) (by
    have:far.natAbs < 64:=by omega
    exact Nat.lt_of_lt_of_le this (by decide +kernel)) (by decide)) (by decide)
   refine ⟨_,rfl,_,_,rfl,rfl,⟨by decide,by decide⟩,_,_,rfl,rfl,(by show (0:Int) < 2; decide),_,rfl,_,_,rfl,rfl,mok,_,_,rfl,rfl,_,rfl,(by show 2≤sizeLine; rw [sizeLine_eq]; decide),fun q hq=>?_⟩
   have sq:Same H8 (upd H8 q (.tup [V.int (2 + pick / 5 % 2 * far),V.int far])):=Same.new hq
   have hq':(upd H8 q (.tup [V.int (2 + pick / 5 % 2 * far),V.int far])) q=some (tpI (2 + pick / 5 % 2 * far,far)):=upd_same
   refine ⟨_,rfl,_,rfl,d,_,rfl,DPut.k (k:=Sum.inl nm) (sq _ _ e1) (by rw [wD_len]; exact small1000 (by omega)),?_⟩
   refine hnx _ _ ⟨rfl,fun b u hb e=>?_,WI.put (sq _ _ e1) (fun x hx=>sq _ _ (e2 x hx)) hq' nd kl ok (.inl (.inr (by show far < 1; omega)))⟩
   rw [upd_ne hb]; exact sq _ _ (s8 b u hb e)
  clear wk8 s8
  rintro σ H9 ⟨rfl,s9,ks,g,wi9,nd,kl,ok⟩
  have nds:∀ b u,H3 b=some u→b≠d:=fun b u e z=>by rw [z,hd3] at e; cases e
  have s39:Same H3 H9:=fun b u e=>s9 b u (nds b u e) (s35 b u e)
  clear s9 s35 wk0 hr5 hS5 hm5 hnm far0 far1 u0 u1 hpn q0 q1
  refine seq_cut fun nxC hnxC=>?_
  refine ⟨_,rfl,_,rfl,_,rfl,m,r,d,M,ns,ks,g,rfl,s39 _ _ hm3,hr3.same s39,td,h42,wi9,nd,by omega,fun HA sA wA=>?_⟩
  refine hnxC _ _ ?_
  try dsimp only [gName]
  have s3A:Same H3 HA:=fun b u e=>sA b u (nds b u e) (s39 b u e)
  clear sA s39 wi9
  refine seq_cut fun nxC hnxC=>?_
  refine ⟨_,rfl,m,M,rfl,s3A _ _ hm3,by omega,td.inv,fun fl HB sB hfl hB=>?_⟩
  refine hnxC _ _ ?_
  try dsimp only [gName]
  have s3B:=s3A.trans sB
  have wB:WR HB d ks g:=by
   obtain ⟨ad,e1,e2⟩:=wA
   refine ⟨ad,?_,fun x hx=>sB _ _ (e2 x hx)⟩
   rcases e1 with e | ⟨o,e⟩
   ·exact .inl (sB _ _ e)
   ·exact .inr ⟨o,sB _ _ e⟩
  clear wA sB s3A hfl
  have eqS:∀ s:Str,decide (V.str s=V.str s)=true:=fun s=>by simp
  refine seq_post (fun σ H'=>∃ v10,σ=[some (.ref a),some (.ref m),some (.ref r),some (.ref x),some (.ref d),some (.int pick),some (.int nm),some (.int far),some (.str (dueS M ns ks g)),some (.ref fl),v10,none]∧Same HB H') (fun nx hnx=>?_) ?_
  ·refine ⟨_,rfl,fl,_,rfl,.inl (SqL.of hB),_,_,rfl,rfl,_,rfl,?_⟩
   refine ite2 (fun z=>?_) (fun _=>hnx _ _ ⟨_,rfl,Same.refl _⟩)
   have hf0:0 < (freeL M).length:=by have z:=of_decide_eq_true z; rw [List.length_map] at z; omega
   obtain ⟨q,e0,hqf⟩:=pick_at (pick:=pick / 7) hf0
   obtain ⟨j,hj,hqj,hc⟩:=free_mem hqf
   obtain ⟨nmq,hnmq⟩:∃ z,ns[q]?=some z:=⟨_,List.getElem?_eq_getElem (by have:=(List.getElem?_eq_some_iff.mp hj).1; omega)⟩
   have mvq:Mv M ns nmq q j:=⟨hj,hqj,hnmq,hc⟩
   refine seq_cut fun nxC hnxC=>?_
   refine ⟨_,rfl,_,rfl,_,rfl,_,_,rfl,rfl,⟨by decide,by decide⟩,_,rfl,fl,_,rfl,.inl (SqL.of hB),_,_,rfl,rfl,(by rw [List.length_map]; omega),fl,_,_,_,rfl,rfl,SqL.of hB,e0,?_⟩
   refine ⟨r,ns,q,nmq,rfl,hr3.same s3B,hnmq,?_⟩
   refine hnxC _ _ ?_
   try dsimp only [gName]
   obtain ⟨ad,e1,e2⟩:=id wB
   refine ⟨_,rfl,_,rfl,d,_,rfl,e1,fun d2 hd2=>?_⟩
   have s2:Same HB (upd HB d2 (.dK (wD ks ad))):=Same.new hd2
   refine ⟨_,rfl,0,x,d2,.int nmq,M,ns,ks,g,rfl,(ta.same s3B).same s2,td,h64,⟨ad,upd_same,fun y hy=>s2 _ _ (e2 y hy)⟩,nd,by omega,ok,.inl ⟨rfl,nmq,q,j,rfl,mvq⟩,fun HC sC=>?_⟩
   refine ⟨_,rfl,rfl,_,rfl,?_⟩
   show if (!decide (V.str (dueS M ns ks g)=V.str (dueS M ns ks g)))=true then _ else _
   rw [eqS]
   exact iteF (hnx _ _ ⟨_,rfl,fun b u e=>sC b u (ne_of_none e hd2) (s2 b u e)⟩)
  rintro σ HD ⟨v10,rfl,sD⟩
  have s3D:=s3B.trans sD
  have wD':WR HD d ks g:=by
   obtain ⟨ad,e1,e2⟩:=wB
   refine ⟨ad,?_,fun x hx=>sD _ _ (e2 x hx)⟩
   rcases e1 with e | ⟨o,e⟩
   ·exact .inl (sD _ _ e)
   ·exact .inr ⟨o,sD _ _ e⟩
  clear wB sD s3B hB
  refine seq_cut fun nxC hnxC=>?_
  refine ⟨_,rfl,_,rfl,a,m,sc,3,M,rfl,s3D.seq hS3,hl,by decide,by decide,s3D _ _ hm3,h42,⟨_,hn⟩,td.inv,fun wd ws HE sE hwd hE hw60 hpl=>?_⟩
  refine hnxC _ _ ?_
  try dsimp only [gName]
  refine ⟨_,rfl,wd,_,rfl,.inl (SqL.of hE),rfl,_,rfl,?_⟩
  refine ite2 (fun z=>k _) (fun z=>?_)
  have hP:Pl M ws:=by
   rcases hpl with rfl | hP
   ·exact absurd rfl z
   ·exact hP
  obtain ⟨ad,e1,e2⟩:=wD'
  have e1':Rd HE d (.dK (wD ks ad)):=by
   rcases e1 with e | ⟨o,e⟩
   ·exact .inl (sE _ _ e)
   ·exact .inr ⟨o,sE _ _ e⟩
  refine ⟨_,rfl,_,rfl,d,_,rfl,e1',fun d2 hd2=>?_⟩
  have s2:Same HE (upd HE d2 (.dK (wD ks ad))):=Same.new hd2
  refine ⟨_,rfl,1,x,d2,.ref wd,M,ns,ks,g,rfl,((ta.same s3D).same sE).same s2,td,h64,⟨ad,upd_same,fun y hy=>s2 _ _ (sE _ _ (e2 y hy))⟩,nd,by omega,ok,.inr ⟨rfl,wd,ws,rfl,s2 _ _ hE,by omega,hP⟩,fun HC sC=>?_⟩
  refine ⟨_,rfl,rfl,?_⟩
  show Q (.bl (decide (V.str (dueS M ns ks g)=V.str (dueS M ns ks g)))) HC
  rw [eqS]
  exact k _
end
end KT
set_option maxHeartbeats 4000000
open PySem PySem.W PyProof.Rows
namespace PySem.W.Fast
def tw8773266876136449892:=0
def tw12517600883764922309:=0
def tw8601994490845858418:=0
def tw9469743173241631284:=0
def tw14799635008185821761:=0
def tw3749710262750142665:=0
def tw12691086169967285226:=0
def tw12028049658004043758:=0
def tw1860406715423971922:=0
def tw6558208844744188566:=0
def tw355892892435366546:=0
def tw14018350211745734479:=0
def tw5273702724656323227:=0
def tw6036637989019663580:=0
def tw9614468015822224123:=0
def tw9895217654610477337:=0
def tw6191873230392790038:=0
def tw13793857818258969919:=0
def tw4327934549453337847:=0
def tw15095401363524707778:=0
def tw13640083486721139716:=0
def tw4840394007018754977:=0
def tw1009358004732911629:=0
def tw17397384691127059230:=0
def tw4135790564417148235:=0
def tw9195195464088079770:=0
def tw11854699664740091127:=0
def tw16782140715233771994:=0
def tw923241341224728459:=0
def tw7542416449778049570:=0
def tw12600290785936690878:=0
def tw7687296396466138822:=0
def tw8811658323841637870:=0
def tw3442818171810701469:=0
def tw2326367005286868074:=0
def tw8089498907134432715:=0
def tw6007597210168551011:=0
def tw15834368683353827937:=0
def tw9713505408450627254:=0
def tw15535225825200987267:=0
def tw4553619562027027022:=0
def tw10684509245926254461:=0
def tw6707398762863357420:=0
def tw9580612249975077501:=0
def tw11207649779799210106:=0
def tw8985209518149189411:=0
def tw16190821400791810339:=0
def tw13276109728228308109:=0
def tw581239768592437646:=0
def tw2643261624683267769:=0
def tw15708779310820970738:=0
def tw4966071145267010514:=0
def tw15117809143573088586:=0
def tw16594125455583362485:=0
def tw5390009719182476661:=0
def tw10298545650211072791:=0
def tw2144726425344848573:=0
def tw3374332763841705291:=0
def tw1447185646659780931:=0
def tw15395981732978888138:=0
def tw4503342163708202341:=0
def tw1834271561680662025:=0
def tw8497002581526167551:=0
def tw14501382445386607711:=0
def tw17728328765750253720:=0
def tw13790917754922334792:=0
def tw14054641352595108059:=0
def tw4256461783899816801:=0
def tw1738651122162495901:=0
def tw3057730334639890720:=0
def tw8363803404246793656:=0
def tw370256207322727633:=0
def tw363414572932795255:=0
def tw15498035836852411169:=0
def tw15334062527532396955:=0
def tw2371224359427715330:=0
def tw16749229187863249721:=0
def tw12161493047157154630:=0
def tw4862533685158510478:=0
def tw3175849053346333653:=0
def tw7755639411105973006:=0
def tw9760319363094917685:=0
def tw6921355261128204395:=0
def tw9112033032076177170:=0
def tw12465896058896040955:=0
def tw8794191414626179558:=0
def tw14865049910160429700:=0
def tw12908725520762664838:=0
def tw10009486766252572270:=0
def tw11791673572544447555:=0
def tw13982096885908335994:=0
def tw9147155704505178087:=0
def tw15809335321426957001:=0
def tw6193576384679990411:=0
def tw15290321877032958357:=0
def tw10288180520592822861:=0
def tw14762452631261345794:=0
def tw7370819916109265941:=0
def tw9477301015922187241:=0
def tw8487952748605619696:=0
def tw16887362240054328997:=0
def tw9025955213325610400:=0
def tw17389571608128643198:=0
def tw1366447701830938520:=0
def tw7311595447474760054:=0
def tw15720135795647932178:=0
def tw9582680600802509642:=0
def tw8832751108110398673:=0
def tw13515803394950766121:=0
def tw16173968006072980226:=0
def tw1308617777864980119:=0
def tw9567532107229119996:=0
def tw11140131977122872971:=0
def tw8514987420375236282:=0
def tw12352034032981095851:=0
def tw15223567580049356855:=0
def tw3909053517911944324:=0
def tw13970644788451379977:=0
def tw2089715493875966358:=0
def tw6274470040883144348:=0
def tw13106935890682366936:=0
def tw13836562492004901397:=0
def tw17331101380589294153:=0
def tw8108380548730666643:=0
def tw11699207280066611106:=0
def tw8614477737417110757:=0
def tw8877352183108361657:=0
def tw3819333815743072186:=0
def tw4665136291473103523:=0
def tw4261379230628110393:=0
def tw75301378621839033:=0
def tw10088161703715689043:=0
def tw1810563435591719674:=0
def tw8926389383853001515:=0
def tw4397775574608981515:=0
def tw290621227546386052:=0
def tw16549941452996918884:=0
def tw14656369488356020589:=0
def tw16458120222155030970:=0
def tw3425223017382920445:=0
def tw7856699614814898424:=0
def tw18344312094856958466:=0
def tw3460425412517654443:=0
def tw2591180314109490550:=0
def tw2110167707362817299:=0
def tw4066003433359673948:=0
def tw11432868229696457598:=0
def tw312745468525308442:=0
def tw2693314081520113066:=0
def tw16748183368029851338:=0
def tw15885801800519973126:=0
def tw12441385769784448483:=0
def tw13388282233774691382:=0
def tw9254932226848051581:=0
def tw13450839626957346104:=0
def tw8551479546708606003:=0
def tw11214953733726705681:=0
def tw8388388733919766743:=0
def tw923102494058057537:=0
def tw9396902522385600256:=0
def tw5047201252760660887:=0
def tw12852019732695648056:=0
def tw14163578546638544048:=0
def tw2025115307480376253:=0
def tw16411963938411905101:=0
def tw16600352648432747514:=0
def tw15120168296004207403:=0
def tw8459195029915909058:=0
def tw16803589237460892521:=0
def tw2083893214230514082:=0
def tw11972302190647930481:=0
def tw12116780818115376188:=0
def tw14858301807995871942:=0
def tw17240225278486053559:=0
def tw5241217743731815806:=0
def tw1851027857342314131:=0
def tw6162780845640337477:=0
def tw8589932002394923459:=0
def tw253627284078611749:=0
def tw6505294106285388555:=0
def tw2084522035972100383:=0
def tw16352745449535285264:=0
def tw8691412414439877312:=0
def tw13581824159580951069:=0
def tw15648848750894527887:=0
def tw17905006920530314083:=0
def tw13203737396681542396:=0
def tw12165878629361086824:=0
def tw16356871078190843593:=0
def tw6262626251940398067:=0
def tw1875982726607744946:=0
def tw14619876740367433828:=0
def tw3575061896474542449:=0
def tw3300798896334161457:=0
def tw17587757129618218934:=0
def tw8939806249304594295:=0
def tw7926124629249539110:=0
def tw15102563695421094263:=0
def tw15905626175229147638:=0
def tw11083865632893465728:=0
def tw2301384238116618123:=0
def tw13741575713483694014:=0
def tw6750272199542081119:=0
def tw4827521314080495340:=0
def tw8582180710789292185:=0
def tw17156351465450061834:=0
def tw17874123677194552890:=0
def tw5990488470252842214:=0
def tw13830238657426247959:=0
def tw15797978778402635155:=0
def tw3670099088949695285:=0
def tw6542378720339280470:=0
def tw10002357752827910900:=0
def tw546461690619900623:=0
def tw9370391388870729414:=0
def tw12289862824581425627:=0
def tw3318779579899327964:=0
def tw2905627951910186557:=0
def tw13776722043114915536:=0
def tw6478339286446712754:=0
def tw11723296849620473875:=0
def tw8217022267822821648:=0
def tw11922839515084997515:=0
def tw18436218584183786995:=0
def tw13451974930758169786:=0
def tw2362180566429630856:=0
def tw5592462870682875738:=0
def tw9075602289727450320:=0
def tw2269577970428887085:=0
def tw7175791698148735698:=0
def tw2145594493537643579:=0
def tw6673287004618438341:=0
def tw12936730804811376062:=0
def tw12912137734380473846:=0
def tw17320789289137014836:=0
def tw12173235348065532821:=0
def tw15870315647139215004:=0
def tw10316790920876469982:=0
def tw9122276542540492629:=0
def tw5085695204773672126:=0
def tw4237259866175696572:=0
def tw4205085576436293163:=0
def tw5611393225313728232:=0
def tw11298543637430366141:=0
def tw1834867232076519902:=0
def tw10503016641383275653:=0
def tw14164389058714957802:=0
def tw8756216530260831702:=0
def tw16905427862206081876:=0
def tw4684018749985213144:=0
def tw8487295379231203669:=0
def tw10239573673607534967:=0
def tw3979329477413119004:=0
def tw12260624748158999510:=0
def tw9037448228188777462:=0
def tw11345934743551330858:=0
def tw2741693019115512242:=0
def tw17598322923198957773:=0
def tw6420174102822374694:=0
def tw16867716315548676800:=0
def tw11181418207377738643:=0
def tw333715673177936595:=0
def tw9427558145284934872:=0
def tw8193906268920755192:=0
def tw10531981038230656115:=0
def tw2111679705381352614:=0
def tw15396576750295828235:=0
def tw4050084286025616178:=0
def tw8399506311067301027:=0
def tw13275261765989202601:=0
def tw11357185892524482634:=0
def tw7242782225035603119:=0
def tw4812196500891411704:=0
def tw2287218053210833524:=0
def tw7653793771363234519:=0
def tw11057415202010112232:=0
def tw15345168858195267059:=0
def tw17820554278356763785:=0
def tw16522596288402744551:=0
def tw13806867911080769916:=0
def tw8429447300296075448:=0
def tw8486799080355085097:=0
def tw9700392171532878677:=0
def tw6268839898412833112:=0
def tw18196256601235376388:=0
def tw18209606158311888235:=0
def tw832056866127804823:=0
def tw2615254535957697824:=0
def tw6779612441887915919:=0
def tw11868014627870844779:=0
def tw11773068784656521646:=0
def tw5201723214537188954:=0
def tw8390359548887340369:=0
def tw2436686305855873634:=0
def tw17753002854492044349:=0
def tw10233120144726373651:=0
def tw746951257946926955:=0
def tw18146238563955712429:=0
def tw16127619158276939685:=0
def tw6219762526326486717:=0
def tw2342185347857819906:=0
def tw17168855332705426834:=0
def tw5755491826230075355:=0
def tw412506480230621569:=0
def tw7651588047008714727:=0
def tw13809562589687000300:=0
def tw926620434482138242:=0
def tw17440795741687408594:=0
def tw1451833739339044739:=0
def tw11820315962746700663:=0
def tw15796772843178255476:=0
def tw5677365551998457838:=0
def tw13128652002999990288:=0
def tw17487107084773468863:=0
def tw302210401190730358:=0
def tw2325682883103714499:=0
def tw7598493788595591392:=0
def tw9602996307521945589:=0
def tw13966309868057349613:=0
def tw11673207234241145906:=0
def tw3421868281340611139:=0
def tw6186788340065778462:=0
def tw15327760871614568831:=0
def tw438058492707820617:=0
def tw13730511630427840685:=0
def tw3865573550591536388:=0
def tw2878771457771730316:=0
def tw8104406598184839170:=0
def tw2377325653274376016:=0
def tw14293893983481054205:=0
def tw4836552954571156133:=0
def tw14767940527611057661:=0
def tw8734693774231218425:=0
def tw11485509477688824102:=0
def tw5525954018594935736:=0
def tw10382879199034077321:=0
def tw2952246200551735139:=0
def tw15219738113186383732:=0
def tw801246672842653528:=0
def tw12319999135381677071:=0
def tw14970306264481854583:=0
def tw4324509738837345692:=0
def tw851078320025034244:=0
def tw1315650936744215188:=0
def tw17270042259232408354:=0
def tw2533781741534724100:=0
def tw18379393825056361151:=0
def tw14535737088516266859:=0
def tw15148322850841696342:=0
def tw1806066072631214440:=0
def tw11294746218918934797:=0
def tw6084294471541978337:=0
def tw2997460355054346606:=0
def tw12130809453756501233:=0
def tw9513831952761716955:=0
def tw3935875925089481349:=0
def tw1411222871407392909:=0
def tw9237910901640364564:=0
def tw14168457163078460089:=0
def tw10290141999707216764:=0
def tw2893863673685083594:=0
def tw14923600443445632215:=0
def tw17780259826456403062:=0
def tw15249010075570570620:=0
def tw8439573137427360507:=0
def tw10217962025814979357:=0
def tw699124849026352910:=0
def tw13467899318324980539:=0
def tw4544649375311020255:=0
def tw16971721518729898315:=0
def tw14680797180266589334:=0
def tw12019802437620950130:=0
def tw8326400390471340044:=0
def tw4605401374701901684:=0
def tw517729099898191925:=0
def tw9838108797880387047:=0
def tw2941410324200667560:=0
def tw17420413724301566922:=0
def tw2239043233037691462:=0
def tw130009603677808125:=0
def tw8242441548795771660:=0
def tw7831870425525839871:=0
def tw13341659235877329459:=0
def tw14996483079657014661:=0
def tw16354641710298352832:=0
def tw13084980488799105557:=0
def tw9730497469841505677:=0
def tw8445866332895043111:=0
def tw9642018672766593164:=0
def tw9797648382080575963:=0
def tw7567704350426460930:=0
def tw10293118336443251411:=0
def tw14133932998973157099:=0
def tw18021926870833639226:=0
def tw11819340197003267104:=0
def tw7590370617249800439:=0
def tw2028748624568948054:=0
def tw10337901344574413812:=0
def tw12760120441652474556:=0
def tw6317013106513856359:=0
def tw2215617569942909707:=0
def tw9960988944074715150:=0
def tw16162639955543731336:=0
def tw4399882396727634187:=0
def tw13220750905451301697:=0
def tw1698347319353048893:=0
def tw10322809340900957654:=0
def tw15783420794292968573:=0
def tw11817057085310653400:=0
def tw16734150292729012731:=0
def tw8266189270845560302:=0
def tw10431072207993666223:=0
end PySem.W.Fast
set_option maxRecDepth 100000 in
set_option maxHeartbeats 0 in
theorem PySem.Challenge.cw_tentloops_k45_worths_refused_holds : PySem.Challenge.rw_tentloops_k45_worths_refused.Holds := by
 w_on; o_law; k_head; (case hw=>w_witness2)
 k_fill
 refine L2.walk_r (l:=PySem.Challenge.rw_tentloops_k45_worths_refused) (k:=10) (spl:=KT.sp_law) rfl rfl ⟨rfl,by decide,by decide⟩ (fun w h Y=>PySem.W.kIn_of Y) (fun K H a ns hl hS=>KT.sp_law_start hl hS) ?F
 case F =>
  intro w mg fa h KX G hmg
  have T:∃ t,KT.Txt w (L2.KOf KX) mg t:=by
   dsimp only [L2.KOf]
   refine' ⟨⟨_,_,_,_,_,_,_,_,_,_,_,_,_,_,_,_,_,_,_,_,_,_,_,_,_,_,_,_,_,_,_,_,_,_,_,_,_,_,_,_,_,_,_,_,_,_,_,_,_,_,_,_,_,_,_,_,_,_,_,_,_,_,_,_,_,_,_,_,_,_,_,_,_,_,_,_,_,_,_,_,_,_,_,_,_,_,_,_,_,_,_,_,_,_,_,_,_,_,_,_,_⟩,⟨mg_of KX G ?_,⟨?_,?_,?_,?_⟩,?_,?_,?_,?_,KT.FT.of KX G (KT.ba1 (fun _ _ _ _ _ _ _ _=>rfl) rfl) ?_ ?_ ?_ ?_,KT.FT.of KX G (KT.ba1 (fun _ _ _ _ _ _ _ _=>rfl) rfl) ?_ ?_ ?_ ?_,KT.FT.of KX G (KT.ba1 (fun _ _ _ _ _ _ _ _=>rfl) rfl) ?_ ?_ ?_ ?_,KT.FT.of KX G (KT.ba1 (fun _ _ _ _ _ _ _ _=>rfl) rfl) ?_ ?_ ?_ ?_,KT.FT.of KX G (KT.ba2 (fun _ _ _ _ _ _ _ _ _=>rfl) rfl) ?_ ?_ ?_ ?_,KT.FM.of (KT.ba2 (fun _ _ _ _ _ _ _ _ _=>rfl) rfl) ?_ ?_ ?_ ?_ ?_,KT.FM.of (KT.ba1 (fun _ _ _ _ _ _ _ _=>rfl) rfl) ?_ ?_ ?_ ?_ ?_,KT.FM.of (KT.ba1 (fun _ _ _ _ _ _ _ _=>rfl) rfl) ?_ ?_ ?_ ?_ ?_,KT.FM.of (KT.ba2 (fun _ _ _ _ _ _ _ _ _=>rfl) rfl) ?_ ?_ ?_ ?_ ?_,KT.FM.of (KT.ba2 (fun _ _ _ _ _ _ _ _ _=>rfl) rfl) ?_ ?_ ?_ ?_ ?_,KT.FM.of (KT.ba2 (fun _ _ _ _ _ _ _ _ _=>rfl) rfl) ?_ ?_ ?_ ?_ ?_,KT.FM.of (KT.ba2 (fun _ _ _ _ _ _ _ _ _=>rfl) rfl) ?_ ?_ ?_ ?_ ?_,KT.FM.of (KT.ba2 (fun _ _ _ _ _ _ _ _ _=>rfl) rfl) ?_ ?_ ?_ ?_ ?_,KT.FM.of (KT.ba2 (fun _ _ _ _ _ _ _ _ _=>rfl) rfl) ?_ ?_ ?_ ?_ ?_,KT.FT.of KX G (KT.ba2 (fun _ _ _ _ _ _ _ _ _=>rfl) rfl) ?_ ?_ ?_ ?_,KT.FT.of KX G (KT.ba2 (fun _ _ _ _ _ _ _ _ _=>rfl) rfl) ?_ ?_ ?_ ?_,KT.FT.of KX G (KT.ba2 (fun _ _ _ _ _ _ _ _ _=>rfl) rfl) ?_ ?_ ?_ ?_,KT.FT.of KX G (KT.ba3 (fun _ _ _ _ _ _ _ _ _ _=>rfl) rfl) ?_ ?_ ?_ ?_,KT.FT.of KX G (KT.ba2 (fun _ _ _ _ _ _ _ _ _=>rfl) rfl) ?_ ?_ ?_ ?_,KT.FT.of KX G (KT.ba2 (fun _ _ _ _ _ _ _ _ _=>rfl) rfl) ?_ ?_ ?_ ?_,KT.FT.of KX G (KT.ba2 (fun _ _ _ _ _ _ _ _ _=>rfl) rfl) ?_ ?_ ?_ ?_,KT.FT.of KX G (KT.ba3 (fun _ _ _ _ _ _ _ _ _ _=>rfl) rfl) ?_ ?_ ?_ ?_,KT.FT.of KX G (KT.ba2 (fun _ _ _ _ _ _ _ _ _=>rfl) rfl) ?_ ?_ ?_ ?_,KT.FT.of KX G (KT.ba2 (fun _ _ _ _ _ _ _ _ _=>rfl) rfl) ?_ ?_ ?_ ?_,KT.FT.of KX G (KT.ba2 (fun _ _ _ _ _ _ _ _ _=>rfl) rfl) ?_ ?_ ?_ ?_,KT.FT.of KX G (KT.ba2 (fun _ _ _ _ _ _ _ _ _=>rfl) rfl) ?_ ?_ ?_ ?_,KT.FT.of KX G (KT.ba1 (fun _ _ _ _ _ _ _ _=>rfl) rfl) ?_ ?_ ?_ ?_,KT.FT.of KX G (KT.ba2 (fun _ _ _ _ _ _ _ _ _=>rfl) rfl) ?_ ?_ ?_ ?_,KT.FT.of KX G (KT.ba2 (fun _ _ _ _ _ _ _ _ _=>rfl) rfl) ?_ ?_ ?_ ?_,KT.FT.of KX G (KT.ba3 (fun _ _ _ _ _ _ _ _ _ _=>rfl) rfl) ?_ ?_ ?_ ?_,KT.FT.of KX G (KT.ba2 (fun _ _ _ _ _ _ _ _ _=>rfl) rfl) ?_ ?_ ?_ ?_,KT.FT.of KX G (KT.ba2 (fun _ _ _ _ _ _ _ _ _=>rfl) rfl) ?_ ?_ ?_ ?_,KT.FT.of KX G (KT.ba3 (fun _ _ _ _ _ _ _ _ _ _=>rfl) rfl) ?_ ?_ ?_ ?_,KT.FT.of KX G (KT.ba2 (fun _ _ _ _ _ _ _ _ _=>rfl) rfl) ?_ ?_ ?_ ?_,KT.FT.of KX G (KT.ba2 (fun _ _ _ _ _ _ _ _ _=>rfl) rfl) ?_ ?_ ?_ ?_,KT.FT.of KX G (KT.ba3 (fun _ _ _ _ _ _ _ _ _ _=>rfl) rfl) ?_ ?_ ?_ ?_,KT.FT.of KX G (KT.ba3 (fun _ _ _ _ _ _ _ _ _ _=>rfl) rfl) ?_ ?_ ?_ ?_,KT.FT.of KX G (KT.ba1 (fun _ _ _ _ _ _ _ _=>rfl) rfl) ?_ ?_ ?_ ?_,KT.FT.of KX G (KT.ba3 (fun _ _ _ _ _ _ _ _ _ _=>rfl) rfl) ?_ ?_ ?_ ?_,KT.FT.of KX G (KT.ba2 (fun _ _ _ _ _ _ _ _ _=>rfl) rfl) ?_ ?_ ?_ ?_,KT.FT.of KX G (KT.ba1 (fun _ _ _ _ _ _ _ _=>rfl) rfl) ?_ ?_ ?_ ?_,KT.FT.of KX G (KT.ba2 (fun _ _ _ _ _ _ _ _ _=>rfl) rfl) ?_ ?_ ?_ ?_,KT.FT.of KX G (KT.ba3 (fun _ _ _ _ _ _ _ _ _ _=>rfl) rfl) ?_ ?_ ?_ ?_,KT.FT.of KX G (KT.ba4 (fun _ _ _ _ _ _ _ _ _ _ _=>rfl) rfl) ?_ ?_ ?_ ?_,KT.FT.of KX G (KT.ba3 (fun _ _ _ _ _ _ _ _ _ _=>rfl) rfl) ?_ ?_ ?_ ?_,KT.FT.of KX G (KT.ba1 (fun _ _ _ _ _ _ _ _=>rfl) rfl) ?_ ?_ ?_ ?_,⟨?_,?_,?_,?_⟩,mg_of KX G ?_,fun s u=>.of_eq rfl,mg_none_of KX G ?_,mg_none_of KX G ?_,mg_none_of KX G ?_,mg_none_of KX G ?_,mg_none_of KX G ?_,mg_none_of KX G ?_,mg_none_of KX G ?_,mg_none_of KX G ?_,mg_none_of KX G ?_,mg_none_of KX G ?_,mg_none_of KX G ?_,mg_of KX G ?_,⟨?_⟩,mg_of KX G ?_,⟨?_⟩,mg_of KX G ?_,⟨?_⟩,mg_of KX G ?_,⟨?_⟩,mg_of KX G ?_,⟨?_⟩,mg_of KX G ?_,⟨?_⟩,mg_of KX G ?_,⟨?_⟩,?_,?_,?_⟩⟩
   any_goals first | k_is | k_exc | rfl | kernel_rfl
  obtain ⟨t,T⟩:=T
  have e0:=hmg.symm.trans T.p_law.g
  cases e0
  refine' ⟨_,?b,fun base kb nb=>KT.ok_law T⟩
  exact T.bl
#print axioms PySem.Challenge.cw_tentloops_k45_worths_refused_holds
