import PyProof.Rows.All
import Wide.All
import OpenK.AllK
import Wide.FinOn
import Lean
import PyProof.EqAt
import PyProof.EqKinds
import PyProof.TupleCall
import PySem.Challenge.RW_tentloops_k47_whole_worth_kept
set_option Elab.async false
set_option linter.all false
set_option maxRecDepth 100000
namespace L2
open PySem PySem.Spec PyProof.Rows
noncomputable abbrev Key:=Sum Int Str
noncomputable def keyIs:Key→Value→Bool
 | .inl k,v=>Value.isInt k v
 | .inr x,v=>Value.isStrOf x v
noncomputable def keyH (w:World):Key→Int
 | .inl k=>hashInt k
 | .inr x=>hashStr w x
theorem keyIs_shape:∀ {k:Key} {v:Value},keyIs k v=true→(∃ i t,k=Sum.inl i∧v=Value.int i t)∨(∃ x t,k=Sum.inr x∧v=Value.str x t)
 | .inl i,v,h=>by
  obtain ⟨t,e⟩:=Value.isInt_shape (k:=i) (v:=v) h
  exact .inl ⟨i,t,rfl,e⟩
 | .inr x,v,h=>by
  obtain ⟨t,e⟩:=Value.isStrOf_shape (x:=x) (v:=v) h
  exact .inr ⟨x,t,rfl,e⟩
theorem keyIs_int (i:Int) (t:Tok):keyIs (.inl i) (.int i t)=true:=by simp [keyIs,Value.isInt]
theorem keyIs_str (x:Str) (t:Tok):keyIs (.inr x) (.str x t)=true:=by simp [keyIs,Value.isStrOf]
theorem key_ll (a b:Int):decide ((Sum.inl a:Key)=Sum.inl b)=(a == b):=by
 by_cases e:a=b
 ·subst e; simp
 ·have h:¬ (Sum.inl a:Key)=Sum.inl b:=fun q=>e (Sum.inl.inj q)
  rw [decide_eq_false h]
  exact (beq_eq_false_iff_ne.mpr e).symm
theorem key_rr (a b:Str):decide ((Sum.inr a:Key)=Sum.inr b)=decide (a=b):=by
 by_cases e:a=b
 ·subst e; simp
 ·have h:¬ (Sum.inr a:Key)=Sum.inr b:=fun q=>e (Sum.inr.inj q)
  rw [decide_eq_false h,decide_eq_false e]
theorem key_lr (a:Int) (b:Str):decide ((Sum.inl a:Key)=Sum.inr b)=false:=decide_eq_false (fun q=>nomatch q)
theorem key_rl (a:Str) (b:Int):decide ((Sum.inr a:Key)=Sum.inl b)=false:=decide_eq_false (fun q=>nomatch q)
noncomputable def mixKind (prog:Program) (w:World):PySem.KeyKind prog w Key where
 is:=keyIs
 hash:=keyH w
 inj:=fun v a b ha hb=>by
  rcases keyIs_shape ha with ⟨i,t,rfl,rfl⟩ | ⟨x,t,rfl,rfl⟩
  ·rcases keyIs_shape hb with ⟨j,u,rfl,e⟩ | ⟨y,u,rfl,e⟩
   ·injection e with e1 _; rw [e1]
   ·exact nomatch e
  ·rcases keyIs_shape hb with ⟨j,u,rfl,e⟩ | ⟨y,u,rfl,e⟩
   ·exact nomatch e
   ·injection e with e1 _; rw [e1]
 byValue:=fun k v h=>by
  rcases keyIs_shape h with ⟨i,t,rfl,rfl⟩ | ⟨x,t,rfl,rfl⟩ <;> rfl
 pyHash:=fun hv h=>by
  rcases keyIs_shape hv with ⟨i,t,rfl,rfl⟩ | ⟨x,t,rfl,rfl⟩
  ·exact wpAny_pyHash_int h
  ·exact wpAny_pyHash_str h
 eqBool:=fun hu hv h=>by
  rcases keyIs_shape hu with ⟨i,t,rfl,rfl⟩ | ⟨x,t,rfl,rfl⟩
  ·rcases keyIs_shape hv with ⟨j,u,rfl,rfl⟩ | ⟨y,u,rfl,rfl⟩
   ·rw [key_ll] at h; exact wpAny_eqBool_int h
   ·rw [key_lr] at h; exact SeqAt.EqAt.int_str i t y u _ _ _ _ h
  ·rcases keyIs_shape hv with ⟨j,u,rfl,rfl⟩ | ⟨y,u,rfl,rfl⟩
   ·rw [key_rl] at h; exact SeqAt.EqAt.str_int x t j u _ _ _ _ h
   ·rw [key_rr] at h; exact wpAny_eqBool_str h
 «strs»:=fun k x t v h=>by
  rcases keyIs_shape h with ⟨i,u,rfl,e⟩ | ⟨y,u,rfl,e⟩
  ·exact nomatch e
  ·injection e with e1 _
   subst e1
   cases v <;> rfl
theorem mixKind_int (prog:Program) (w:World) (i:Int) (t:Tok):(mixKind prog w).is (.inl i) (.int i t)=true:=keyIs_int i t
theorem mixKind_str (prog:Program) (w:World) (x:Str) (t:Tok):(mixKind prog w).is (.inr x) (.str x t)=true:=keyIs_str x t
end L2
namespace L2
open PySem PySem.Spec PyProof.Rows
inductive V where
 | non | bl (b:Bool) | int (i:Int) | str (x:Str) | byt (b:Array UInt8) | flt (b:UInt64) | ref (a:Addr) | ty (n:String)
 deriving DecidableEq
set_option genInjectivity false
set_option genSizeOf false
noncomputable def RelV:V→Value→Prop
 | .non,u=>u=Value.none
 | .bl b,u=>u=Value.bool b
 | .int i,u=>∃ t,u=Value.int i t
 | .str x,u=>∃ t,u=Value.str x t
 | .byt b,u=>∃ t,u=Value.bytes b t
 | .flt b,u=>∃ t,u=Value.float b t
 | .ref a,u=>u=Value.ref a
 | .ty n,u=>u=Value.type n
noncomputable abbrev Vals:List V→List Value→Prop:=Paired RelV
theorem Vals.length {xs:List V} {us:List Value} (r:Vals xs us):xs.length=us.length:=Paired.length r
theorem Vals.get:∀ {xs:List V} {us:List Value} {i:Nat} {x:V},Vals xs us→xs[i]?=some x→∃ u,us[i]?=some u∧RelV x u
 | _,_,_,_,.nil,e=>by simp at e
 | _,_,0,_,.cons r _,e=>by simp at e; subst e; exact ⟨_,rfl,r⟩
 | _,_,i + 1,x,.cons _ t,e=>by
  obtain ⟨u,h1,h2⟩:=Vals.get (i:=i) (x:=x) t (by simpa using e)
  exact ⟨u,by simpa using h1,h2⟩
theorem Vals.set {x:V} {u:Value} (r:RelV x u):∀ {xs:List V} {us:List Value} (i:Nat),Vals xs us→Vals (xs.set i x) (us.set i u)
 | _,_,_,.nil=>.nil
 | _,_,0,.cons _ t=>.cons r t
 | _,_,i + 1,.cons q t=>.cons q (Vals.set r i t)
theorem Vals.append:∀ {xs ys:List V} {us ws:List Value},Vals xs us→Vals ys ws→Vals (xs ++ ys) (us ++ ws)
 | _,_,_,_,.nil,s=>s
 | _,_,_,_,.cons r t,s=>.cons r (Vals.append t s)
theorem Vals.take:∀ {xs:List V} {us:List Value} (n:Nat),Vals xs us→Vals (xs.take n) (us.take n)
 | _,_,0,_=>.nil
 | _,_,_ + 1,.nil=>.nil
 | _,_,n + 1,.cons r t=>.cons r (Vals.take n t)
theorem Vals.drop:∀ {xs:List V} {us:List Value} (n:Nat),Vals xs us→Vals (xs.drop n) (us.drop n)
 | _,_,0,r=>r
 | _,_,_ + 1,.nil=>.nil
 | _,_,n + 1,.cons _ t=>Vals.drop n t
noncomputable def RelO:Option V→Option Value→Prop
 | some v,some u=>RelV v u
 | none,none=>True
 | _,_=>False
noncomputable def KV {κ:Type}:List (κ × V)→List (κ × Value)→Prop:=Paired fun (p:κ × V) (q:κ × Value)=>p.1=q.1∧RelV p.2 q.2
noncomputable def kV:Key→V
 | .inl i=>.int i
 | .inr x=>.str x
inductive HO where
 /-- a list -/
 | lst (xs:List V)
 /-- a tuple (never changes) -/
 | tup (xs:List V)
 /-- a dict whose keys are ints and texts; one whose keys are tuples of ints and texts (the empty one is both) -/
 | dK (kvs:List (Key × V)) | dT (kvs:List (List Key × V))
 /-- a set of ints: its members,its size -/
 | set (S:Int→Bool) (n:Nat)
 /-- an instance of the class at C,its dict at dx,its attributes -/
 | ins (C dx:Addr) (fs:List (Str × V))
 /-- the dict of the instance at x -/
 | own (x:Addr)
 /-- the dict of an exception -/
 | xd (fs:List (Str × V))
 /-- a bound method,f of x -/
 | met (f x:Addr)
 /-- a range object lo,lo + 1,.. below hi -/
 | rng (lo hi:Int)
 /-- a thing that is known to the object (the script; a dict while a loop walks it): read,never written while it is so -/
 | frz (o:Obj) (u:HO)
 /-- a code object's table -/
 | tbl (ps:Array Value)
 /-- any other thing,by what is true of its one object (a def of one's own: SetO a S n:=HO.ext fun h=>..) -/
 | ext (φ:Heap→Prop)
noncomputable abbrev Hp:=Addr→Option HO
noncomputable def upd (H:Hp) (a:Addr) (o:HO):Hp:=fun b=>if b=a then some o else H b
theorem upd_same {H:Hp} {a:Addr} {o:HO}:upd H a o a=some o:=by unfold upd; rw [if_pos rfl]
theorem upd_ne {H:Hp} {a b:Addr} {o:HO} (h:b≠a):upd H a o b=H b:=by unfold upd; rw [if_neg h]
theorem ne_of {H:Hp} {a b:Addr} {o u:HO} (h:H a=some o) (h':H b=some u) (d:o≠u):a≠b:=by
 intro e; subst e; rw [h] at h'; exact d (Option.some.inj h')
theorem ne_of_none {H:Hp} {a b:Addr} {o:HO} (h:H a=some o) (h':H b=none):a≠b:=by
 intro e; subst e; rw [h] at h'; cases h'
section
variable (P:Program) (w:World)
noncomputable def ObjOk (H:Hp) (h:Heap) (a:Addr):HO→Prop
 | .lst xs=>xs.length≤sizeLine∧∃ (its:List Value) (n:Nat),Vals xs its∧h.get? a=some { cls:=.type "list",data:=.seq its.toArray n }
 | .tup xs=>xs.length≤sizeLine∧∃ its:List Value,Vals xs its∧IsTup h a its.toArray
 | .dK kvs=>kvs.length≤sizeLine∧(a == sysModules)=false∧∃ vs,KV kvs vs∧h.DictOf (mixKind P w) a vs
 | .dT kvs=>kvs.length≤sizeLine∧(a == sysModules)=false∧∃ xs:List (List Key × Addr × Value),
   Paired (fun (p:List Key × V) (q:List Key × Addr × Value)=>p.1=q.1∧H q.2.1=some (.tup (p.1.map kV))∧RelV p.2 q.2.2) kvs xs ∧
   ∃ o es ep,h.get? a=some o∧o.ExactDict∧o.data=.dict es ep∧es.toList=xs.map (entryOfKey (tupleKind (mixKind P w)))∧(xs.map (·.1)).Nodup
 | .set S n=>h.SetOf (intKind P w) a S n
 | .ins C dx fs=>H dx=some (.own a)∧fs.length≤1000∧dx≠a∧h.get? a=some (PySem.W.instObj C dx) ∧
   ∃ mA,h.Ns1 dx mA∧(∀ f,RelO (fs.lookup f) (mA f))∧PySem.Within mA (fs.map (·.1))
 | .own _=>∃ o,h.get? a=some o
 | .xd fs=>∃ mA,h.Ns1 a mA∧∀ f,RelO (fs.lookup f) (mA f)
 | .rng lo hi=>∃ t u v,h.get? a=some { cls:=.type "range",data:=.fields #[.int lo t,.int hi u,.int 1 v] }
 | .frz o u=>h.get? a=some o∧ObjOk H h a u
 | .tbl ps=>h.get? a=some { cls:=.none,data:=.fields ps }
 | .met f x=>h.get? a=some (PySem.W.methodObj (.ref f) (.ref x))
 | .ext φ=>φ h∧(∃ o,h.get? a=some o)∧∀ h1 h2:Heap,φ h1→(∀ o,h1.get? a=some o→h2.get? a=some o)→φ h2
noncomputable def HOk (H:Hp) (h:Heap):Prop:=∀ a o,H a=some o→ObjOk P w H h a o
end
section
variable {P:Program} {w:World} {H H':Hp} {h h':Heap} {a:Addr} {o:HO}
theorem ObjOk.lt (x:ObjOk P w H h a o):a < h.objs.size:=by
 cases o with
 | lst xs=>obtain ⟨_,_,_,_,e⟩:=x; exact Heap.lt_size e
 | tup xs=>obtain ⟨_,_,_,p⟩:=x; exact p.lt
 | dK kvs=>obtain ⟨_,_,_,_,o,_,_,e,_⟩:=x; exact Heap.lt_size e
 | dT kvs=>obtain ⟨_,_,_,_,o,_,_,e,_⟩:=x; exact Heap.lt_size e
 | set S n=>obtain ⟨o,_,_,_,e,_⟩:=x; exact Heap.lt_size e
 | ins C dx fs=>obtain ⟨_,_,_,e,_⟩:=x; exact Heap.lt_size e
 | own y=>obtain ⟨_,e⟩:=x; exact Heap.lt_size e
 | xd fs=>obtain ⟨_,⟨_,_,_,e,_⟩,_⟩:=x; exact Heap.lt_size e
 | rng lo hi=>obtain ⟨_,_,_,e⟩:=x; exact Heap.lt_size e
 | frz ob u=>obtain ⟨e,_⟩:=x; exact Heap.lt_size e
 | tbl ps=>exact Heap.lt_size (show h.get? a=some _ from x)
 | met f y=>exact Heap.lt_size (show h.get? a=some _ from x)
 | ext φ=>obtain ⟨_,⟨_,e⟩,_⟩:=x; exact Heap.lt_size e
theorem Paired.mapP {α β:Type} {F G:α→β→Prop}:∀ {l₁:List α} {l₂:List β},Paired F l₁ l₂→(∀ a b,F a b→G a b)→Paired G l₁ l₂
 | _,_,.nil,_=>.nil
 | _,_,.cons r t,f=>.cons (f _ _ r) (Paired.mapP t f)
theorem ObjOk.stay (x:ObjOk P w H h a o) (k:∀ b u,(b=a∨H b=some (.own a))→h.get? b=some u→h'.get? b=some u)
  (ho:∀ b,H b=some (.own a)→H' b=some (.own a)) (ht:∀ b xs,H b=some (.tup xs)→H' b=some (.tup xs)):ObjOk P w H' h' a o:=by
 induction o with
 | lst xs=>obtain ⟨z,its,n,r,e⟩:=x; exact ⟨z,its,n,r,k _ _ (.inl rfl) e⟩
 | tup xs=>obtain ⟨z,its,r,ob,e,c⟩:=x; exact ⟨z,its,r,ob,k _ _ (.inl rfl) e,c⟩
 | dK kvs=>obtain ⟨z,y,vs,r,ob,es,ep,e,c⟩:=x; exact ⟨z,y,vs,r,ob,es,ep,k _ _ (.inl rfl) e,c⟩
 | dT kvs =>
  obtain ⟨z,y,xs,r,ob,es,ep,e,c⟩:=x
  exact ⟨z,y,xs,Paired.mapP r fun p q z=>⟨z.1,ht _ _ z.2.1,z.2.2⟩,ob,es,ep,k _ _ (.inl rfl) e,c⟩
 | set S n=>obtain ⟨ob,es,ep,t,e,c⟩:=x; exact ⟨ob,es,ep,t,k _ _ (.inl rfl) e,c⟩
 | ins C dx fs =>
  obtain ⟨d,z,ne,e,mA,⟨od,es,ep,e2,c⟩,r⟩:=x
  exact ⟨ho _ d,z,ne,k _ _ (.inl rfl) e,mA,⟨od,es,ep,k _ _ (.inr d) e2,c⟩,r⟩
 | own y=>obtain ⟨ob,e⟩:=x; exact ⟨ob,k _ _ (.inl rfl) e⟩
 | xd fs=>obtain ⟨mA,⟨od,es,ep,e,c⟩,r⟩:=x; exact ⟨mA,⟨od,es,ep,k _ _ (.inl rfl) e,c⟩,r⟩
 | rng lo hi=>obtain ⟨t,u,v,e⟩:=x; exact ⟨t,u,v,k _ _ (.inl rfl) e⟩
 | frz ob u ih=>obtain ⟨e,q⟩:=x; exact ⟨k _ _ (.inl rfl) e,ih q⟩
 | tbl ps =>
  have e:h.get? a=some { cls:=.none,data:=.fields ps }:=x
  show h'.get? a=some { cls:=.none,data:=.fields ps }
  exact k a _ (.inl rfl) e
 | met f y =>
  have e:h.get? a=some (PySem.W.methodObj (.ref f) (.ref y)):=x
  show h'.get? a=some (PySem.W.methodObj (.ref f) (.ref y))
  exact k a _ (.inl rfl) e
 | ext φ=>obtain ⟨p,⟨o,e⟩,st⟩:=x; exact ⟨st _ _ p fun o q=>k _ _ (.inl rfl) q,⟨o,k _ _ (.inl rfl) e⟩,st⟩
theorem HOk.lt (x:HOk P w H h) (e:H a=some o):a < h.objs.size:=(x a o e).lt
theorem HOk.fresh (x:HOk P w H h) (e:h.objs.size≤a):H a=none:=by
 cases q:H a with
 | none=>rfl
 | some u=>exact absurd (Nat.lt_of_lt_of_le (x.lt q) e) (Nat.lt_irrefl _)
theorem HOk.kept (x:HOk P w H h) (k:∀ b u,h.get? b=some u→h'.get? b=some u):HOk P w H h':=fun a o e =>
 (x a o e).stay (fun b u _ q=>k b u q) (fun _ q=>q) fun _ _ q=>q
theorem HOk.laid (x:HOk P w H h) (k:∀ b u,h.get? b=some u→h'.get? b=some u) (hp:h.objs.size≤a) (new:ObjOk P w (upd H a o) h' a o):HOk P w (upd H a o) h':=fun b u e=>by
 have hn:=x.fresh hp
 by_cases hb:b=a
 ·subst hb; rw [upd_same] at e; cases e; exact new
 ·rw [upd_ne hb] at e
  exact (x b u e).stay (fun c v _ q=>k c v q) (fun c q=>by rw [upd_ne (ne_of_none q hn)]; exact q) fun c xs q=>by rw [upd_ne (ne_of_none q hn)]; exact q
end
noncomputable def Rd (H:Hp) (a:Addr) (u:HO):Prop:=H a=some u∨∃ o,H a=some (.frz o u)
theorem Rd.ok {P:Program} {w:World} {H:Hp} {h:Heap} {a:Addr} {u:HO} (r:Rd H a u) (x:HOk P w H h):ObjOk P w H h a u:=by
 rcases r with r | ⟨o,r⟩
 ·exact x a u r
 ·obtain ⟨_,q⟩:=x a _ r
  exact q
noncomputable def Mut:Option HO→Prop
 | some (.lst _)=>True
 | some (.dK _)=>True
 | some (.dT _)=>True
 | some (.set _ _)=>True
 | some (.ins _ _ _)=>True
 | some (.ext _)=>True
 | _=>False
section
variable {P:Program} {w:World} {H:Hp} {h h':Heap} {x e:Addr} {o':HO}
theorem HOk.write (ok:HOk P w H h) (mu:Mut (H x)) (he:e=x∨H e=some (.own x)) (k:∀ b u,b≠e→h.get? b=some u→h'.get? b=some u) (heo:∃ u,h'.get? e=some u)
  (new:ObjOk P w (upd H x o') h' x o'):HOk P w (upd H x o') h':=fun b u q=>by
 have nown:∀ c y,H c=some (.own y)→c≠x:=fun c y r z=>by subst z; rw [r] at mu; exact mu
 have ntup:∀ c xs,H c=some (.tup xs)→c≠x:=fun c xs r z=>by subst z; rw [r] at mu; exact mu
 by_cases hb:b=x
 ·subst hb; rw [upd_same] at q; cases q; exact new
 ·rw [upd_ne hb] at q
  by_cases hbe:b=e
  ·have q':H b=some (.own x):=by
    rcases he with z | z
    ·exact absurd (hbe.trans z) hb
    ·rw [hbe]; exact z
   rw [q] at q'; cases q'
   obtain ⟨v,hv⟩:=heo
   exact ⟨v,by rw [hbe]; exact hv⟩
  ·refine (ok b u q).stay (fun c v hc r=>k c v ?_ r) (fun c r=>by rw [upd_ne (nown c b r)]; exact r) fun c xs r=>by rw [upd_ne (ntup c xs r)]; exact r
   rcases hc with rfl | hc
   ·exact hbe
   ·rintro rfl
    rcases he with z | z
    ·exact nown c b hc z
    ·rw [hc] at z; cases z; exact hb rfl
end
structure Un (fs ex:List Addr) (H H':Hp) (h h':Heap):Prop where
 keep:∀ b o,h.get? b=some o→H b=none→b ∉ fs→b ∉ ex→h'.get? b=some o
 slot:∀ b o,h.get? b=some o→H b=none→b∈fs→b ∉ ex→∃ sl,h'.get? b=some { o with slots:=sl }
 free:∀ b o,h.get? b=some o→H b=none→b ∉ ex→H' b=none
 there:∀ b o,h.get? b=some o→b ∉ ex→∃ o',h'.get? b=some o'
 tups:∀ b xs,H b=some (.tup xs)→H' b=some (.tup xs)
 frzs:∀ b o u,H b=some (.frz o u)→H' b=some (.frz o u)
 tbls:∀ b ps,H b=some (.tbl ps)→∃ more,H' b=some (.tbl (ps ++ more))
section
variable {fs fs' ex ex':List Addr} {H H1 H2:Hp} {h h1 h2 h':Heap} {a x e:Addr} {o:HO}
theorem Un.any (u:Un fs ex H H1 h h1) {b:Addr} {ob:Obj} (q:h.get? b=some ob) (n:H b=none) (hx:b ∉ ex):∃ sl,h1.get? b=some { ob with slots:=sl }:=by
 by_cases hb:b∈fs
 ·exact u.slot b ob q n hb hx
 ·exact ⟨ob.slots,u.keep b ob q n hb hx⟩
theorem Un.kept (k:∀ b u,h.get? b=some u→h'.get? b=some u):Un fs ex H H h h' :=
 ⟨fun b ob q _ _ _=>k b ob q,fun b ob q _ _ _=>⟨ob.slots,k b ob q⟩,fun _ _ _ n _=>n,fun b ob q _=>⟨ob,k b ob q⟩,fun _ _ q=>q,fun _ _ _ q=>q,fun _ ps q=>⟨#[],by rw [q]; simp⟩⟩
theorem Un.refl:Un fs ex H H h h:=Un.kept fun _ _ q=>q
theorem Un.laid (k:∀ b u,h.get? b=some u→h'.get? b=some u) (hp:h.objs.size≤a) (hn:H a=none):Un fs ex H (upd H a o) h h' where
 keep:=fun b u q _ _ _=>k b u q
 slot:=fun b u q _ _ _=>⟨u.slots,k b u q⟩
 free:=fun b u q n _=>by rw [upd_ne (Nat.ne_of_lt (Nat.lt_of_lt_of_le (Heap.lt_size q) hp))]; exact n
 there:=fun b u q _=>⟨u,k b u q⟩
 tups:=fun b xs q=>by rw [upd_ne (ne_of_none q hn)]; exact q
 frzs:=fun b u xs q=>by rw [upd_ne (ne_of_none q hn)]; exact q
 tbls:=fun b ps q=>⟨#[],by rw [upd_ne (ne_of_none q hn),q]; simp⟩
theorem Un.write (mu:Mut (H x)) (he:e=x∨H e=some (.own x)) (k:∀ b u,b≠e→h.get? b=some u→h'.get? b=some u) (heo:∃ u,h'.get? e=some u):Un fs ex H (upd H x o) h h':=by
 have hx:∀ b,H b=none→b≠x:=fun b n z=>by subst z; rw [n] at mu; exact mu
 have hb:∀ b,H b=none→b≠e:=fun b n z=>by
  subst z
  rcases he with r | r
  ·exact hx b n r
  ·rw [n] at r; cases r
 have hm:∀ b u,H b=some u→¬ Mut (some u)→b≠x:=fun b u q nm z=>by subst z; rw [q] at mu; exact nm mu
 refine ⟨fun b u q n _ _=>k b u (hb b n) q,fun b u q n _ _=>⟨u.slots,k b u (hb b n) q⟩,fun b u q n _=>by rw [upd_ne (hx b n)]; exact n,fun b u q _=>?_,
  fun b xs q=>by rw [upd_ne (hm b _ q fun z=>z)]; exact q,fun b u xs q=>by rw [upd_ne (hm b _ q fun z=>z)]; exact q,fun b ps q=>⟨#[],by rw [upd_ne (hm b _ q fun z=>z),q]; simp⟩⟩
 by_cases hbe:b=e
 ·subst hbe; exact heo
 ·exact ⟨u,k b u hbe q⟩
end
noncomputable def trk (h:Heap) (H:Hp):List Addr:=(List.range h.objs.size).filter fun a=>(H a).isSome
noncomputable def hidT (h:Heap) (H:Hp):Heap:=PySem.W.hideAll h (trk h H)
theorem hidT_size (h:Heap) (H:Hp):(hidT h H).objs.size=h.objs.size:=PySem.W.hideAll_size _ _
theorem hidT_get {h:Heap} {H:Hp} {b:Addr} {o:Obj} (e:h.get? b=some o) (n:H b=none):(hidT h H).get? b=some o :=
 PySem.W.hideAll_get _ e fun hm=>by
  have q:(H b).isSome=true:=(List.mem_filter.mp hm).2
  rw [n] at q; simp at q
theorem of_hidT {h:Heap} {H:Hp} {b:Addr} {o:Obj} (e:(hidT h H).get? b=some o):h.get? b=some o∧H b=none:=by
 have e':h.get? b=some o:=PySem.W.of_hideAll (trk h H) e
 refine ⟨e',?_⟩
 cases q:H b with
 | none=>rfl
 | some x =>
  have hm:b∈trk h H:=List.mem_filter.mpr ⟨List.mem_range.mpr (Heap.lt_size e'),by simp [q]⟩
  have z:(hidT h H).get? b=none:=PySem.W.hideAll_none (trk h H) hm
  rw [z] at e; cases e
noncomputable def allNews (g h:Heap) (L:Addr):List (Addr × Obj):=(List.range h.objs.size).filterMap fun a=>if a=L∨(g.get? a).isSome=true then none else (h.get? a).map fun o=>(a,o)
noncomputable def rest (g h:Heap) (L d:Addr):List (Addr × Obj):=(allNews g h L).filter fun p=>decide (p.1≠d)
end L2
namespace L2
open PySem PySem.Spec PyProof.Rows
structure Mod (K:PySem.W.Frag) (mg:Str→Option Value) (base:Heap):Prop where
 kin:K.In base
 glob:base.Ns mainGlobals mg
 blt:∃ mb,base.Ns builtinsNs mb∧∀ x:Str,x≠"__name__"→mb x=bootBuiltins x
 nolimit:base.NoLimit
structure Cx where
 prog:Program
 w:World
 K:PySem.W.Frag
 mg:Str→Option Value
 base:Heap
 A:Around
 N:List Str
 s₀:Shared
 H₀:Hp
 env:Env
 outer:List Env
 stack:List Env
 ex:List Addr
 fn:Str→Bool
 calm:Bool
 pn:List (Addr × Obj)
 xe:Value→Shared→Prop
noncomputable def frs (l:List Env):List Addr:=l.filterMap (·.frame)
noncomputable abbrev Cx.fs (X:Cx):List Addr:=frs X.outer
noncomputable def Vis (sc:Scope) (x:Str):Prop:=sc.names.lookup x=some .local∨sc.names.lookup x=some .cell∨sc.names.lookup x=some .free
noncomputable def Loc (sc:Scope) (x:Str):Prop:=sc.names.lookup x=some .local∨sc.names.lookup x=some .cell
noncomputable def Look (env:Env) (h:Heap) (m:Str→Option Value) (x:Str) (u:Value):Prop :=
 (env.kindOf x=some .local∧m x=some u)∨((env.kindOf x=some .cell∨env.kindOf x=some .free)∧∃ c,env.cells.lookup x=some c∧h.IsCell c (some u))
structure Cx.Ok (X:Cx):Prop where
 mod:Mod X.K X.mg X.base
 kind:X.env.scope.kind=.function
 glob:X.env.globals=mainGlobals
 blt:X.env.builtins=builtinsNs
 above:X.s₀.heap.objs.size≤X.env.locals
 inj:∀ x y c,X.env.cells.lookup x=some c→X.env.cells.lookup y=some c→x=y
 has:∀ x,(X.env.kindOf x=some .cell∨X.env.kindOf x=some .free)→∃ c,X.env.cells.lookup x=some c
 cab:∀ x c,X.fn x=true→X.env.cells.lookup x=some c→X.s₀.heap.objs.size≤c
 hd:X.calm=true→X.A.handled=none
 frames:X.A.frames=some X.stack
 stk:X.stack=X.outer∨(X.stack=X.env :: X.outer∧X.env.frame=some X.env.locals)
 exf:∀ b∈X.ex,b≠X.env.locals∧∀ x c,X.env.cells.lookup x=some c→c≠b
 bs:∀ b o,X.base.get? b=some o→X.s₀.heap.get? b=some o∧X.H₀ b=none
 bsz:X.base.objs.size≤X.s₀.heap.objs.size
 noex:∀ b o,X.base.get? b=some o→b ∉ X.ex
 exfs:∀ b∈X.ex,b ∉ X.fs
 funs:X.s₀.heap.FunFrames X.base X.outer
 frf:∀ b∈X.fs,X.H₀ b=none
structure Inv (X:Cx) (pins:List (Addr × Obj)) (σ:List (Option V)) (H:Hp) (s:Shared):Prop where
 ok:X.Ok
 os:s.os=X.s₀.os
 bare:AllBare s.gens
 base:Un X.fs X.ex X.H₀ H X.s₀.heap s.heap
 loc:∃ m,s.heap.Ns X.env.locals m∧∀ (i:Nat) (x:Str) (v:V),X.N[i]?=some x→σ[i]?=some (some v)→Vis X.env.scope x→∃ u,RelV v u∧Look X.env s.heap m x u
 cell:∀ x c,X.env.cells.lookup x=some c→∃ v,s.heap.IsCell c v
 free:H X.env.locals=none
 freeC:∀ x c,X.env.cells.lookup x=some c→H c=none
 pin:∀ p∈X.pn ++ pins,s.heap.get? p.1=some p.2∧H p.1=none∧p.1≠X.env.locals∧p.1 ∉ X.fs∧∀ v,p.2.data≠.cell v
 hok:HOk X.prog X.w H s.heap
 len:σ.length=X.N.length
section
variable {X:Cx} {pins:List (Addr × Obj)} {σ:List (Option V)} {H H':Hp} {s:Shared} {h':Heap}
theorem Cx.Ok.nofr (ok:X.Ok) {b:Addr} {o:Obj} (e:X.base.get? b=some o):b ∉ X.fs:=fun hb=>by
 have:=(ok.funs.mem hb).1
 rw [e] at this; cases this
theorem Inv.bs (I:Inv X pins σ H s):∀ b o,X.base.get? b=some o→s.heap.get? b=some o∧H b=none:=fun b o e =>
 ⟨I.base.keep b o (I.ok.bs b o e).1 (I.ok.bs b o e).2 (I.ok.nofr e) (I.ok.noex b o e),I.base.free b o (I.ok.bs b o e).1 (I.ok.bs b o e).2 (I.ok.noex b o e)⟩
theorem Inv.bk (I:Inv X pins σ H s):∀ b o,X.base.get? b=some o→s.heap.get? b=some o:=fun b o e=>(I.bs b o e).1
theorem Inv.mod (I:Inv X pins σ H s):Mod X.K X.mg X.base:=I.ok.mod
theorem Inv.kIn (I:Inv X pins σ H s):X.K.In s.heap:=I.ok.mod.kin.keeps I.bk
theorem Inv.lt (I:Inv X pins σ H s):X.env.locals < s.heap.objs.size:=let ⟨_,hn,_⟩:=I.loc; hn.lt
theorem Inv.sz (I:Inv X pins σ H s):X.s₀.heap.objs.size≤s.heap.objs.size:=Nat.le_trans I.ok.above (Nat.le_of_lt I.lt)
theorem Inv.nofs (I:Inv X pins σ H s) {a:Addr} (h:s.heap.objs.size≤a):a ∉ X.fs:=fun hb=>by
 obtain ⟨_,o,ho,_⟩:=I.ok.funs.mem hb
 exact absurd (Nat.lt_of_lt_of_le (Heap.lt_size ho) (Nat.le_trans I.sz h)) (Nat.lt_irrefl _)
theorem Inv.cne (I:Inv X pins σ H s):∀ x c,X.env.cells.lookup x=some c→c≠X.env.locals:=fun x c e z=>by
 obtain ⟨v,o,ho,hd⟩:=I.cell x c e
 obtain ⟨m,⟨o',es,ep,ho',hd',_⟩,_⟩:=I.loc
 rw [z,ho'] at ho; cases ho; rw [hd'] at hd; cases hd
theorem Inv.funs (I:Inv X pins σ H s):s.heap.FunFrames X.base X.outer:=by
 have all:∀ (l:List Env),(∀ b∈frs l,b∈X.fs)→X.s₀.heap.FunFrames X.base l→s.heap.FunFrames X.base l:=by
  intro l
  induction l with
  | nil=>intro _ _; trivial
  | cons env r ih =>
   intro hs hl
   obtain ⟨hk,⟨L,o,hf,hn,ho,hd⟩,hr⟩:=hl
   have hL:L∈X.fs:=hs L (by unfold frs; rw [List.filterMap_cons,hf]; exact List.mem_cons_self)
   obtain ⟨sl,e⟩:=I.base.slot L o ho (I.ok.frf L hL) hL fun z=>I.ok.exfs L z hL
   exact ⟨hk,⟨L,_,hf,hn,e,hd⟩,ih (fun b hb=>hs b (by unfold frs; rw [List.filterMap_cons,hf]; exact List.mem_cons_of_mem _ hb)) hr⟩
 exact all X.outer (fun _ hb=>hb) I.ok.funs
theorem Inv.stack (I:Inv X pins σ H s):s.heap.FunFrames X.base X.stack:=by
 rcases I.ok.stk with e | ⟨e,hf⟩
 ·rw [e]; exact I.funs
 ·rw [e]
  obtain ⟨m,hn,_⟩:=I.loc
  refine .cons (by rw [I.ok.kind]; decide) hf hn ?_ I.funs
  exact Heap.get?_none_of_le (Nat.le_trans I.ok.bsz I.ok.above)
theorem Inv.stkSub (I:Inv X pins σ H s):∀ b∈frs X.stack,b∈X.env.locals :: X.fs:=fun b hb=>by
 rcases I.ok.stk with e | ⟨e,hf⟩
 ·rw [e] at hb; exact List.mem_cons_of_mem _ hb
 ·rw [e] at hb
  unfold frs at hb
  rw [List.filterMap_cons,hf] at hb
  exact hb
theorem Inv.stkFree (I:Inv X pins σ H s):∀ b∈frs X.stack,H b=none:=fun b hb=>by
 rcases List.mem_cons.mp (I.stkSub b hb) with e | hb
 ·rw [e]; exact I.free
 ·obtain ⟨_,o,ho,_⟩:=I.ok.funs.mem hb
  exact I.base.free b o ho (I.ok.frf b hb) fun z=>I.ok.exfs b z hb
theorem Inv.step {g':Array GenState} {t':Nat} {d':Drawn} {ch:List Addr} (I:Inv X pins σ H s)
  (hch:∀ b∈ch,(b∈X.ex∨X.s₀.heap.objs.size≤b)∧b≠X.env.locals∧(∀ x c,X.env.cells.lookup x=some c→c≠b)∧∀ p∈X.pn ++ pins,p.1≠b)
  (keep:∀ b o,b≠X.env.locals→b ∉ X.fs→b ∉ ch→s.heap.get? b=some o→H b=none→h'.get? b=some o)
  (slot:∀ b o,b≠X.env.locals→b∈X.fs→b ∉ ch→s.heap.get? b=some o→H b=none→∃ sl,h'.get? b=some { o with slots:=sl }) (free:∀ b o,b ∉ ch→s.heap.get? b=some o→H b=none→H' b=none)
  (there:∀ b o,b ∉ ch→s.heap.get? b=some o→∃ o',h'.get? b=some o')
  (tups:∀ b xs,H b=some (.tup xs)→H' b=some (.tup xs)) (frzs:∀ b o u,H b=some (.frz o u)→H' b=some (.frz o u)) (tbls:∀ b ps,H b=some (.tbl ps)→∃ more,H' b=some (.tbl (ps ++ more)))
  (ns:∀ m,s.heap.Ns X.env.locals m→h'.Ns X.env.locals m) (hok:HOk X.prog X.w H' h') (hg:AllBare g') :
  Inv X pins σ H' { s with heap:=h',gens:=g',drawn:=d',toks:=t' }:=by
 have neL:∀ b o,X.s₀.heap.get? b=some o→b≠X.env.locals:=fun b o e=>Nat.ne_of_lt (Nat.lt_of_lt_of_le (Heap.lt_size e) I.ok.above)
 have neC:∀ b o,X.s₀.heap.get? b=some o→b ∉ X.ex→b ∉ ch:=fun b o e hx hb=>by
  rcases (hch b hb).1 with z | z
  ·exact hx z
  ·exact absurd (Nat.lt_of_lt_of_le (Heap.lt_size e) z) (Nat.lt_irrefl _)
 have cellK:∀ x c,X.env.cells.lookup x=some c→∀ v,s.heap.IsCell c v→h'.IsCell c v:=fun x c e v ⟨o,ho,hd⟩=>by
  have nch:c ∉ ch:=fun z=>(hch c z).2.2.1 x c e rfl
  by_cases hc:c∈X.fs
  ·obtain ⟨sl,q⟩:=slot c o (I.cne x c e) hc nch ho (I.freeC x c e)
   exact ⟨_,q,hd⟩
  ·exact ⟨o,keep c o (I.cne x c e) hc nch ho (I.freeC x c e),hd⟩
 refine ⟨I.ok,I.os,hg,⟨fun b o e n hb hx=>?_,fun b o e n hb hx=>?_,fun b o e n hx=>?_,fun b o e hx=>?_,fun b xs e=>tups b xs (I.base.tups b xs e),fun b o xs e=>frzs b o xs (I.base.frzs b o xs e),fun b ps e=>?_⟩,?_,fun x c e=>?_,?_,fun x c e=>?_,fun p hp=>?_,hok,I.len⟩
 ·exact keep b o (neL b o e) hb (neC b o e hx) (I.base.keep b o e n hb hx) (I.base.free b o e n hx)
 ·obtain ⟨sl,e1⟩:=I.base.slot b o e n hb hx
  obtain ⟨sl',e2⟩:=slot b _ (neL b o e) hb (neC b o e hx) e1 (I.base.free b o e n hx)
  exact ⟨sl',e2⟩
 ·obtain ⟨o',e1⟩:=I.base.there b o e hx
  exact free b o' (neC b o e hx) e1 (I.base.free b o e n hx)
 ·obtain ⟨o',e1⟩:=I.base.there b o e hx
  exact there b o' (neC b o e hx) e1
 ·obtain ⟨m1,e1⟩:=I.base.tbls b ps e
  obtain ⟨m2,e2⟩:=tbls b _ e1
  exact ⟨m1 ++ m2,by rw [e2,Array.append_assoc]⟩
 ·obtain ⟨m,hn,hl⟩:=I.loc
  refine ⟨m,ns m hn,fun i x v e1 e2 e3=>?_⟩
  obtain ⟨u,r,l⟩:=hl i x v e1 e2 e3
  refine ⟨u,r,?_⟩
  rcases l with l | ⟨k,c,e,z⟩
  ·exact .inl l
  ·exact .inr ⟨k,c,e,cellK x c e _ z⟩
 ·obtain ⟨v,z⟩:=I.cell x c e
  exact ⟨v,cellK x c e v z⟩
 ·obtain ⟨m,⟨o,_,_,ho,_⟩,_⟩:=I.loc
  exact free _ o (fun z=>(hch _ z).2.1 rfl) ho I.free
 ·obtain ⟨v,o,ho,hd⟩:=I.cell x c e
  exact free c o (fun z=>(hch c z).2.2.1 x c e rfl) ho (I.freeC x c e)
 ·obtain ⟨e,n,ne,nf,d⟩:=I.pin p hp
  have nch:p.1 ∉ ch:=fun z=>(hch p.1 z).2.2.2 p hp rfl
  exact ⟨keep p.1 p.2 ne nf nch e n,free p.1 p.2 nch e n,ne,nf,d⟩
theorem Inv.un {t':Nat} (I:Inv X pins σ H s) (u:Un X.fs [] H H' s.heap h') (hok:HOk X.prog X.w H' h'):Inv X pins σ H' { s with heap:=h',toks:=t' }:=by
 obtain ⟨m,⟨o,es,ep,ho,r⟩,_⟩:=id I.loc
 obtain ⟨sl,hL⟩:=u.any ho I.free (by simp)
 exact I.step (g':=s.gens) (d':=s.drawn) (ch:=[]) (fun _ z=>nomatch z) (fun b o _ hb _ e n=>u.keep b o e n hb (by simp)) (fun b o _ hb _ e n=>u.slot b o e n hb (by simp)) (fun b o _ e n=>u.free b o e n (by simp)) (fun b o _ e=>u.there b o e (by simp)) u.tups u.frzs u.tbls (fun m' hm=>by
  obtain ⟨o',es',ep',ho',r'⟩:=hm
  rw [ho] at ho'; cases ho'
  exact ⟨_,es',ep',hL,r'⟩) hok I.bare
theorem Inv.call {g':Array GenState} {t':Nat} {d':Drawn} {ch:List Addr} (I:Inv X pins σ H s) (u:Un (frs X.stack) ch H H' s.heap h') (hok:HOk X.prog X.w H' h') (hg:AllBare g')
  (hch:∀ b∈ch,(b∈X.ex∨X.s₀.heap.objs.size≤b)∧b≠X.env.locals∧(∀ x c,X.env.cells.lookup x=some c→c≠b)∧∀ p∈X.pn ++ pins,p.1≠b) :
  Inv X pins σ H' { s with heap:=h',gens:=g',drawn:=d',toks:=t' }:=by
 obtain ⟨m,⟨o,es,ep,ho,r⟩,_⟩:=id I.loc
 obtain ⟨sl,hL⟩:=u.any ho I.free fun z=>(hch _ z).2.1 rfl
 exact I.step (ch:=ch) hch (fun b o hL hb hc e n=>u.keep b o e n (fun z=>(List.mem_cons.mp (I.stkSub b z)).elim hL hb) hc) (fun b o _ _ hc e n=>u.any e n hc) (fun b o hc e n=>u.free b o e n hc) (fun b o hc e=>u.there b o e hc) u.tups u.frzs u.tbls (fun m' hm=>by
  obtain ⟨o',es',ep',ho',r'⟩:=hm
  rw [ho] at ho'; cases ho'
  exact ⟨_,es',ep',hL,r'⟩) hok hg
theorem Inv.turned {t':Nat} {it:Addr} (I:Inv X pins σ H s) (k:∀ b o,b≠it→s.heap.get? b=some o→h'.get? b=some o) (hn:H it=none) (hL:it≠X.env.locals)
  (h1:it∈X.ex∨X.s₀.heap.objs.size≤it) (h2:∀ x c,X.env.cells.lookup x=some c→c≠it) (h3:∀ p∈X.pn ++ pins,p.1≠it):Inv X pins σ H { s with heap:=h',toks:=t' }:=by
 have nit:∀ b u,H b=some u→b≠it:=fun b u e z=>by rw [z,hn] at e; cases e
 refine I.step (g':=s.gens) (d':=s.drawn) (ch:=[it]) (fun b hb=>?_) (fun b o _ _ hc e _=>k b o (fun z=>hc (by simp [z])) e) (fun b o _ _ hc e _=>⟨o.slots,k b o (fun z=>hc (by simp [z])) e⟩) (fun _ _ _ _ n=>n)
  (fun b o hc e=>⟨o,k b o (fun z=>hc (by simp [z])) e⟩) (fun _ _ e=>e) (fun _ _ _ e=>e) (fun b ps e=>⟨#[],by rw [e]; simp⟩) (fun m hm=>?_) (fun b u e=>?_) I.bare
 ·have e:b=it:=by simpa using hb
  subst e
  exact ⟨h1,hL,h2,h3⟩
 ·obtain ⟨o,es,ep,ho,r⟩:=hm
  exact ⟨o,es,ep,k _ o (Ne.symm hL) ho,r⟩
 ·refine (I.hok b u e).stay (fun c v hc q=>k c v ?_ q) (fun _ q=>q) fun _ _ q=>q
  rcases hc with z | z
  ·rw [z]; exact nit b u e
  ·exact nit c _ z
theorem Inv.tok (I:Inv X pins σ H s) (t:Nat):Inv X pins σ H { s with toks:=t }:=I.un (h':=s.heap) (t':=t) Un.refl I.hok
theorem Inv.kept {t':Nat} (I:Inv X pins σ H s) (k:∀ b u,s.heap.get? b=some u→h'.get? b=some u):Inv X pins σ H { s with heap:=h',toks:=t' }:=I.un (Un.kept k) (I.hok.kept k)
theorem Inv.laid {a:Addr} {o:HO} {t':Nat} (I:Inv X pins σ H s) (k:∀ b u,s.heap.get? b=some u→h'.get? b=some u) (hp:s.heap.objs.size≤a) (new:ObjOk X.prog X.w (upd H a o) h' a o) :
  Inv X pins σ (upd H a o) { s with heap:=h',toks:=t' }:=I.un (Un.laid k hp (I.hok.fresh hp)) (I.hok.laid k hp new)
theorem Inv.write {x e:Addr} {o:HO} {t':Nat} (I:Inv X pins σ H s) (mu:Mut (H x)) (he:e=x∨H e=some (.own x)) (k:∀ b u,b≠e→s.heap.get? b=some u→h'.get? b=some u) (heo:∃ u,h'.get? e=some u)
  (new:ObjOk X.prog X.w (upd H x o) h' x o):Inv X pins σ (upd H x o) { s with heap:=h',toks:=t' }:=I.un (Un.write mu he k heo) (I.hok.write mu he k heo new)
theorem Inv.pins_of {pins':List (Addr × Obj)} (I:Inv X pins σ H s) (h:∀ p∈pins',s.heap.get? p.1=some p.2∧H p.1=none∧p.1≠X.env.locals∧p.1 ∉ X.fs∧∀ v,p.2.data≠.cell v):Inv X pins' σ H s :=
 ⟨I.ok,I.os,I.bare,I.base,I.loc,I.cell,I.free,I.freeC,fun p hp=>(List.mem_append.mp hp).elim (fun z=>I.pin p (List.mem_append_left _ z)) (h p),I.hok,I.len⟩
theorem nodup_ix {N:List Str} (hN:N.Nodup) {i j:Nat} {x:Str} (a:N[i]?=some x) (b:N[j]?=some x):i=j:=by
 obtain ⟨h1,e1⟩:=List.getElem?_eq_some_iff.mp a
 obtain ⟨h2,e2⟩:=List.getElem?_eq_some_iff.mp b
 exact (List.getElem_inj hN).mp (e1.trans e2.symm)
theorem store_ok2 {M:Model} {A:Around} {E:Value→Shared→Prop} {i:Nat} {x:Str} {v:V} {u:Value} {Q:Unit→Shared→Prop} (I:Inv X pins σ H s) (hN:X.N.Nodup) (hi:X.N[i]?=some x) (hx:Loc X.env.scope x) (r:RelV v u)
  (h:∀ s',Inv X pins (σ.set i (some v)) H s'→(∃ a,Heap.SameBut a s.heap s'.heap∧(a=X.env.locals∨X.env.cells.lookup x=some a))→Q () s') (hf:X.fn x=true∨X.env.scope.names.lookup x=some .local:=by first | exact .inl rfl | exact .inr rfl | assumption):wpAny M A (storeName X.env x u) Q E s:=by
 obtain ⟨m,hn,hl⟩:=id I.loc
 have hcls:(X.env.scope.kind == .class || (X.env.scope.kind == .module && X.env.locals != X.env.globals))=false:=by rw [I.ok.kind]; rfl
 have hiσ:i < σ.length:=by rw [I.len]; exact (List.getElem?_eq_some_iff.mp hi).1
 have cne:=I.cne
 have tracked:∀ {a:Addr} {h':Heap},(∃ o,s.heap.get? a=some o∧H a=none)→Heap.SameBut a s.heap h'→HOk X.prog X.w H h':=fun {a h'} ha hs b ob e=>by
  obtain ⟨_,_,hfree⟩:=ha
  refine (I.hok b ob e).stay (fun c w' hc q=>(hs.2 c ?_).trans q) (fun _ q=>q) fun _ _ q=>q
  rintro rfl
  rcases hc with rfl | hc
  ·rw [hfree] at e; cases e
  ·rw [hfree] at hc; cases hc
 rcases hx with hk | hk
 ·refine wpAny_storeName_local hk hn (fun h' hn' hs=>?_) hcls
  obtain ⟨oL,_,_,hoL,_⟩:=id hn
  refine h _ ⟨I.ok,I.os,I.bare,⟨fun b o e n hb hx=>?_,fun b o e n hb hx=>?_,I.base.free,fun b o e hx=>?_,I.base.tups,I.base.frzs,I.base.tbls⟩,⟨_,hn',fun j y v' e1 e2 e3=>?_⟩,fun y c e=>?_,I.free,I.freeC,fun p hp=>?_,tracked ⟨oL,hoL,I.free⟩ hs,by simpa using I.len⟩ ⟨_,hs,.inl rfl⟩
  ·exact (hs.2 b (Nat.ne_of_lt (Nat.lt_of_lt_of_le (Heap.lt_size e) I.ok.above))).trans (I.base.keep b o e n hb hx)
  ·obtain ⟨sl,e1⟩:=I.base.slot b o e n hb hx
   exact ⟨sl,(hs.2 b (Nat.ne_of_lt (Nat.lt_of_lt_of_le (Heap.lt_size e) I.ok.above))).trans e1⟩
  ·obtain ⟨o',e1⟩:=I.base.there b o e hx
   exact ⟨o',(hs.2 b (Nat.ne_of_lt (Nat.lt_of_lt_of_le (Heap.lt_size e) I.ok.above))).trans e1⟩
  ·by_cases hj:j=i
   ·subst hj
    rw [hi] at e1; cases e1
    rw [List.getElem?_set_self hiσ] at e2
    cases e2
    exact ⟨u,r,.inl ⟨hk,by simp⟩⟩
   ·rw [List.getElem?_set_ne (Ne.symm hj)] at e2
    obtain ⟨u',r',q⟩:=hl j y v' e1 e2 e3
    refine ⟨u',r',?_⟩
    rcases q with ⟨k,e⟩ | ⟨k,c,e,z⟩
    ·refine .inl ⟨k,?_⟩
     have:y≠x:=fun e=>hj (nodup_ix hN e1 (e ▸ hi))
     simp [this,e]
    ·exact .inr ⟨k,c,e,z.sameBut hs (cne y c e)⟩
  ·obtain ⟨w',z⟩:=I.cell y c e
   exact ⟨w',z.sameBut hs (cne y c e)⟩
  ·obtain ⟨e,n,ne,nf,d⟩:=I.pin p hp
   exact ⟨(hs.2 p.1 ne).trans e,n,ne,nf,d⟩
 ·have hfn:X.fn x=true:=by
   rcases hf with z | z
   ·exact z
   ·rw [z] at hk; cases hk
  obtain ⟨c,hc⟩:=I.ok.has x (.inl hk)
  obtain ⟨w',z⟩:=I.cell x c hc
  refine wpAny_storeName_cell I.ok.kind hk hc z (fun h' hc' hs=>?_)
  obtain ⟨oc,hoc,hocd⟩:=id z
  refine h { s with heap:=h' } ⟨I.ok,I.os,I.bare,⟨fun b o e n hb hx=>?_,fun b o e n hb hx=>?_,I.base.free,fun b o e hx=>?_,I.base.tups,I.base.frzs,I.base.tbls⟩,⟨m,hn.sameBut hs (Ne.symm (cne x c hc)),fun j y v' e1 e2 e3=>?_⟩,fun y c' e=>?_,I.free,I.freeC,fun p hp=>?_,tracked ⟨oc,hoc,I.freeC x c hc⟩ hs,by simpa using I.len⟩ ⟨c,hs,.inr hc⟩
  ·exact (hs.2 b (Nat.ne_of_lt (Nat.lt_of_lt_of_le (Heap.lt_size e) (I.ok.cab x c hfn hc)))).trans (I.base.keep b o e n hb hx)
  ·obtain ⟨sl,e1⟩:=I.base.slot b o e n hb hx
   exact ⟨sl,(hs.2 b (Nat.ne_of_lt (Nat.lt_of_lt_of_le (Heap.lt_size e) (I.ok.cab x c hfn hc)))).trans e1⟩
  ·obtain ⟨o',e1⟩:=I.base.there b o e hx
   exact ⟨o',(hs.2 b (Nat.ne_of_lt (Nat.lt_of_lt_of_le (Heap.lt_size e) (I.ok.cab x c hfn hc)))).trans e1⟩
  ·by_cases hj:j=i
   ·subst hj
    rw [hi] at e1; cases e1
    rw [List.getElem?_set_self hiσ] at e2
    cases e2
    exact ⟨u,r,.inr ⟨.inl hk,c,hc,hc'⟩⟩
   ·rw [List.getElem?_set_ne (Ne.symm hj)] at e2
    obtain ⟨u',r',q⟩:=hl j y v' e1 e2 e3
    refine ⟨u',r',?_⟩
    rcases q with q | ⟨k,c',e,z'⟩
    ·exact .inl q
    ·refine .inr ⟨k,c',e,z'.sameBut hs ?_⟩
     rintro rfl
     exact hj (nodup_ix hN e1 (I.ok.inj _ _ _ e hc ▸ hi))
  ·by_cases hcc:c'=c
   ·subst hcc; exact ⟨_,hc'⟩
   ·obtain ⟨w2,z2⟩:=I.cell y c' e
    exact ⟨w2,z2.sameBut hs hcc⟩
  ·obtain ⟨e,n,ne,nf,d⟩:=I.pin p hp
   refine ⟨(hs.2 p.1 ?_).trans e,n,ne,nf,d⟩
   intro q
   rw [q,hoc] at e
   have q':oc=p.2:=Option.some.inj e
   exact d w' (by rw [← q']; exact hocd)
theorem store_ok {M:Model} {A:Around} {E:Value→Shared→Prop} {i:Nat} {x:Str} {v:V} {u:Value} {Q:Unit→Shared→Prop} (I:Inv X pins σ H s) (hN:X.N.Nodup) (hi:X.N[i]?=some x) (hx:Loc X.env.scope x) (r:RelV v u)
  (h:∀ s',Inv X pins (σ.set i (some v)) H s'→Q () s') (hf:X.fn x=true∨X.env.scope.names.lookup x=some .local:=by first | exact .inl rfl | exact .inr rfl | assumption):wpAny M A (storeName X.env x u) Q E s :=
 store_ok2 I hN hi hx r (fun s' I' _=>h s' I') hf
theorem Inv.call' {s':Shared} {ch:List Addr} (I:Inv X pins σ H s) (ho:s'.os=s.os) (u:Un (frs X.stack) ch H H' s.heap s'.heap) (hok:HOk X.prog X.w H' s'.heap) (hg:AllBare s'.gens)
  (hch:∀ b∈ch,(b∈X.ex∨X.s₀.heap.objs.size≤b)∧b≠X.env.locals∧(∀ x c,X.env.cells.lookup x=some c→c≠b)∧∀ p∈X.pn ++ pins,p.1≠b):Inv X pins σ H' s':=by
 obtain ⟨h',g',d',t',o'⟩:=s'
 have e:o'=s.os:=ho
 subst e
 exact I.call (g':=g') (t':=t') (d':=d') u hok hg hch
end
noncomputable abbrev XK:=Value→Option Addr→Hp→Prop
noncomputable abbrev St:=List (Option V)
noncomputable abbrev VK:=V→Hp→Prop
noncomputable abbrev TE:=St→Hp→VK→Prop
noncomputable abbrev TT:=St→Hp→(Bool→Hp→Prop)→Prop
noncomputable abbrev TA:=St→Hp→(List V→Hp→Prop)→Prop
structure Ends where
 nx:St→Hp→Prop
 rt:VK
 bk:St→Hp→Prop:=fun _ _=>False
 ct:St→Hp→Prop:=fun _ _=>False
noncomputable abbrev TS:=Ends→St→Hp→Prop
noncomputable def EP (X:Cx) (pins:List (Addr × Obj)) (σ:St) (Q:VK) (u:Value) (s':Shared):Prop:=∃ v H',Inv X pins σ H' s'∧RelV v u∧Q v H'
noncomputable def TP (X:Cx) (pins:List (Addr × Obj)) (σ:St) (Q:Bool→Hp→Prop) (b:Bool) (s':Shared):Prop:=∃ H',Inv X pins σ H' s'∧Q b H'
noncomputable def AP (X:Cx) (pins:List (Addr × Obj)) (σ:St) (Q:List V→Hp→Prop) (us:List Value) (s':Shared):Prop:=∃ vs H',Inv X pins σ H' s'∧Vals vs us∧Q vs H'
noncomputable def SP (X:Cx) (pins:List (Addr × Obj)) (D:Ends) (f:Flow) (s':Shared):Prop :=
 match f with
 | .next=>∃ σ' H',Inv X pins σ' H' s'∧D.nx σ' H'
 | .brk=>∃ σ' H',Inv X pins σ' H' s'∧D.bk σ' H'
 | .cont=>∃ σ' H',Inv X pins σ' H' s'∧D.ct σ' H'
 | .ret u=>∃ v σ' H',Inv X pins σ' H' s'∧RelV v u∧D.rt v H'
noncomputable def PE (X:Cx) (e:Expr) (t:TE):Prop :=
 ∀ (pins:List (Addr × Obj)) (s:Shared) (σ:St) (H:Hp) (Q:VK),Inv X pins σ H s→t σ H Q→wpAny (model X.prog X.w) X.A (eval e X.env) (EP X pins σ Q) X.xe s
noncomputable def PT (X:Cx) (e:Expr) (t:TT):Prop :=
 ∀ (pins:List (Addr × Obj)) (s:Shared) (σ:St) (H:Hp) (Q:Bool→Hp→Prop),Inv X pins σ H s→t σ H Q→wpAny (model X.prog X.w) X.A (isTrue e X.env (eval e X.env)) (TP X pins σ Q) X.xe s
noncomputable def PW (X:Cx) (e:Expr) (t:TT):Prop :=
 ∀ (whole:Sem Value) (pins:List (Addr × Obj)) (s:Shared) (σ:St) (H:Hp) (Q:Bool→Hp→Prop),Inv X pins σ H s→t σ H Q→wpAny (model X.prog X.w) X.A (isTrue e X.env whole) (TP X pins σ Q) X.xe s
theorem PW.pt {X:Cx} {e:Expr} {t:TT} (h:PW X e t):PT X e t:=h _
noncomputable def PA (X:Cx) (es:List Expr) (t:TA):Prop :=
 ∀ (pos:Pos) (pins:List (Addr × Obj)) (s:Shared) (σ:St) (H:Hp) (Q:List V→Hp→Prop),Inv X pins σ H s→t σ H Q→wpAny (model X.prog X.w) X.A (spliced (backTo pos (starEach es X.env))) (AP X pins σ Q) X.xe s
noncomputable def PS (X:Cx) (st:Stmt) (t:TS):Prop :=
 ∀ (pins:List (Addr × Obj)) (s:Shared) (σ:St) (H:Hp) (D:Ends),Inv X pins σ H s→t D σ H→wpAny (model X.prog X.w) X.A (exec st X.env) (SP X pins D) X.xe s
noncomputable def PSs (X:Cx) (st:List Stmt) (t:TS):Prop :=
 ∀ (pins:List (Addr × Obj)) (s:Shared) (σ:St) (H:Hp) (D:Ends),Inv X pins σ H s→t D σ H→wpAny (model X.prog X.w) X.A (execs st X.env) (SP X pins D) X.xe s
theorem thn {α:Type} {t:Sem α} {Q Q':α→Shared→Prop} {M:Model} {A:Around} {E:Value→Shared→Prop} {s:Shared} (h:wpAny M A t Q E s) (hQ:∀ a s,Q a s→Q' a s):wpAny M A t Q' E s:=wpAny_mono h hQ fun _ _ x=>x
end L2
namespace L2
open PySem PySem.Spec PyProof.Rows
section
variable {X:Cx}
noncomputable def tVar (i:Nat):TE:=fun σ H Q=>∃ v,σ[i]?=some (some v)∧Q v H
noncomputable def tC (v:V):TE:=fun _ H Q=>Q v H
theorem pe_var {i:Nat} {x:Str} {pos:Pos} (hN:X.N[i]?=some x) (hv:Vis X.env.scope x) (hd:(x == ("__debug__":Str))=false:=by decide) (hcd:(x == ("__classdict__":Str))=false:=by decide):PE X (.Name x pos) (tVar i):=by
 intro pins s σ H Q I h
 obtain ⟨v,e,h⟩:=h
 obtain ⟨m,hn,hl⟩:=I.loc
 obtain ⟨u,r,l⟩:=hl i x v hN e hv
 have fin:EP X pins σ Q u s:=⟨v,H,I,r,h⟩
 rcases l with ⟨hk,hm⟩ | ⟨hk,c,hc,hcell⟩
 ·exact wpAny_Name (wpAny_loadName_local I.ok.kind hk hn hm fin) hd
 ·rcases hk with hk | hk
  ·exact wpAny_Name (wpAny_loadName_cell I.ok.kind hk hc hcell fin) hd
  ·exact wpAny_Name (wpAny_loadName_free I.ok.kind hk hc hcell fin hcd) hd
theorem pe_int {i j pos}:PE X (.Constant (.int i) j pos) (tC (.int i)):=fun _ _ _ H _ I h=>wpAny_Constant_int ⟨.int i,H,I.tok _,⟨_,rfl⟩,h⟩
theorem pe_bl {b j pos}:PE X (.Constant (.bool b) j pos) (tC (.bl b)):=fun _ _ _ H _ I h=>Constant_bool ⟨.bl b,H,I,rfl,h⟩
theorem pe_non {j pos}:PE X (.Constant .none j pos) (tC .non):=fun _ _ _ H _ I h=>Constant_none ⟨.non,H,I,rfl,h⟩
theorem pe_str {x j pos}:PE X (.Constant (.str x) j pos) (tC (.str x)):=fun _ _ _ H _ I h=>Calls.Constant_str ⟨.str x,H,I.tok _,⟨_,rfl⟩,h⟩
noncomputable def Gl (X:Cx) (x:Str):Prop:=X.env.kindOf x=some .globalImplicit
theorem ld_glob {E:Value→Shared→Prop} {pins:List (Addr × Obj)} {s:Shared} {σ:St} {H:Hp} {x:Str} {u:Value} {pos:Pos} {Q:Value→Shared→Prop} (I:Inv X pins σ H s) (hg:Gl X x) (hm:X.mg x=some u) (h:Q u s)
  (hd:(x == ("__debug__":Str))=false:=by decide):wpAny (model X.prog X.w) X.A (eval (.Name x pos) X.env) Q E s :=
 Calls.Name_function_global I.ok.kind hg (Calls.loadGlobal_global (by rw [I.ok.glob]; exact I.mod.glob.keeps I.bk) hm h) hd
theorem ld_blt {E:Value→Shared→Prop} {pins:List (Addr × Obj)} {s:Shared} {σ:St} {H:Hp} {x:Str} {u:Value} {pos:Pos} {Q:Value→Shared→Prop} (I:Inv X pins σ H s) (hg:Gl X x) (hm:X.mg x=none) (hv:bootBuiltins x=some u) (h:Q u s)
  (hn:x≠"__name__":=by decide) (hd:(x == ("__debug__":Str))=false:=by decide):wpAny (model X.prog X.w) X.A (eval (.Name x pos) X.env) Q E s:=by
 obtain ⟨mb,h1,h2⟩:=I.mod.blt
 exact Calls.Name_function_global I.ok.kind hg (Calls.loadGlobal_builtin (by rw [I.ok.glob]; exact I.mod.glob.keeps I.bk) hm (by rw [I.ok.blt]; exact h1.keeps I.bk) ((h2 x hn).trans hv) h) hd
theorem pe_glob {x:Str} {v:V} {u:Value} {pos:Pos} (hg:Gl X x) (hm:X.mg x=some u) (r:RelV v u) (hd:(x == ("__debug__":Str))=false:=by decide):PE X (.Name x pos) (tC v) :=
 fun _ _ _ H _ I h=>ld_glob I hg hm ⟨v,H,I,r,h⟩ hd
theorem pe_bltn {x:Str} {v:V} {u:Value} {pos:Pos} (hg:Gl X x) (hm:X.mg x=none) (hv:bootBuiltins x=some u) (r:RelV v u) (hn:x≠"__name__":=by decide) (hd:(x == ("__debug__":Str))=false:=by decide):PE X (.Name x pos) (tC v) :=
 fun _ _ _ H _ I h=>ld_blt I hg hm hv ⟨v,H,I,r,h⟩ hn hd
variable {a b:Expr} {ta tb:TE} {pos:Pos}
noncomputable def PC (X:Cx) (op:CmpOp) (a b:Expr) (t:TE):Prop :=
 ∀ (pins:List (Addr × Obj)) (s:Shared) (σ:St) (H:Hp) (Q:VK),Inv X pins σ H s→t σ H Q →
  wpAny (model X.prog X.w) X.A (eval a X.env) (fun v s₁=>wpAny (model X.prog X.w) X.A (eval b X.env) (fun u s₂=>wpAny (model X.prog X.w) X.A (compareOp op v u) (EP X pins σ Q) X.xe s₂) X.xe s₁) X.xe s
noncomputable def tB (t:TE):TT:=fun σ H Q=>t σ H fun x H1=>∃ c,x=.bl c∧Q c H1
theorem pt_cmp {op:CmpOp} {t:TE} (h:PC X op a b t) (h1:behindInMarks op b=false:=by first | exact nobehind _ (by decide) (by decide) | rfl):PT X (.Compare a [op] [b] pos) (tB t):=by
 intro pins s σ H Q I hw
 refine wpAny_isTrue_Compare1 (thn (h pins s σ H _ I hw) fun v s1 h1=>thn h1 fun u s2 h2=>thn h2 fun c s3 zz0=>?_) h1
 obtain ⟨x,H1,I1,r1,q1⟩:=zz0
 obtain ⟨d,rfl,q⟩:=q1
 cases r1
 exact wpAny_truthy_bool ⟨H1,I1,q⟩
theorem pt_val {e:Expr} {t:TE} (h:PE X e t) (he:∀ whole,isTrue e X.env whole=(do let v ← whole; standAt e.pos; holding [v] (truthy v)):=by intro _; rfl):PT X e (tB t):=by
 intro pins s σ H Q I hw
 refine isTrue_plain (thn (h pins s σ H _ I hw) fun v s1 zz1=>?_) (he _)
 obtain ⟨x,H1,I1,r1,q1⟩:=zz1
 obtain ⟨d,rfl,q⟩:=q1
 cases r1
 exact wpAny_truthy_bool ⟨H1,I1,q⟩
variable {tA tB':TT} {rest:List Expr}
noncomputable def tAnd (t u:TT):TT:=fun σ H Q=>t σ H fun c H1=>if c=true then u σ H1 Q else Q false H1
noncomputable def tOr (t u:TT):TT:=fun σ H Q=>t σ H fun c H1=>if c=true then Q true H1 else u σ H1 Q
noncomputable def tNot (t:TT):TT:=fun σ H Q=>t σ H fun c H1=>Q (!c) H1
theorem pw_and1 (ha:PT X a tA):PW X (.BoolOp .And [a] pos) tA:=by
 intro wh pins s σ H Q I h
 refine isTrue_and (thn (ha pins s σ H Q I h) fun c s1 e=>?_)
 cases c with
 | true=>exact isTrue_and_nil e
 | false=>exact e
theorem pw_or1 (ha:PT X a tA):PW X (.BoolOp .Or [a] pos) tA:=by
 intro wh pins s σ H Q I h
 refine isTrue_or (thn (ha pins s σ H Q I h) fun c s1 e=>?_)
 cases c with
 | false=>exact isTrue_or_nil e
 | true=>exact e
theorem pw_and (ha:PT X a tA) (hb:PW X (.BoolOp .And (b :: rest) pos) tB'):PW X (.BoolOp .And (a :: b :: rest) pos) (tAnd tA tB'):=by
 intro wh pins s σ H Q I h
 refine isTrue_and (thn (ha pins s σ H _ I h) fun c s1 zz9=>?_)
 obtain ⟨H1,I1,q1⟩:=zz9
 cases c with
 | true=>exact hb wh pins s1 σ H1 Q I1 q1
 | false=>exact ⟨H1,I1,q1⟩
theorem pw_or (ha:PT X a tA) (hb:PW X (.BoolOp .Or (b :: rest) pos) tB'):PW X (.BoolOp .Or (a :: b :: rest) pos) (tOr tA tB'):=by
 intro wh pins s σ H Q I h
 refine isTrue_or (thn (ha pins s σ H _ I h) fun c s1 zz9=>?_)
 obtain ⟨H1,I1,q1⟩:=zz9
 cases c with
 | true=>exact ⟨H1,I1,q1⟩
 | false=>exact hb wh pins s1 σ H1 Q I1 q1
theorem pt_not (ha:PT X a tA):PT X (.UnaryOp .Not a pos) (tNot tA):=by
 intro pins s σ H Q I h
 exact isTrue_not (ha pins s σ H (fun c H1=>Q (!c) H1) I h)
noncomputable def tAndV (ta tb:TE):TE:=fun σ H Q=>ta σ H fun x H1=>∃ c,x=.bl c∧if c=true then tb σ H1 Q else Q (.bl false) H1
noncomputable def tNotV (ta:TE):TE:=fun σ H Q=>ta σ H fun x H1=>∃ c,x=.bl c∧Q (.bl (!c)) H1
theorem pe_one {op} {t:TE} (h:PE X a t):PE X (.BoolOp op [a] pos) t:=fun pins s σ H Q I hw=>BoolOp_one (h pins s σ H Q I hw)
theorem pe_and (ha:PE X a ta) (hb:PE X (.BoolOp .And (b :: rest) pos) tb):PE X (.BoolOp .And (a :: b :: rest) pos) (tAndV ta tb):=by
 intro pins s σ H Q I h
 refine BoolOp_and (thn (ha pins s σ H _ I h) fun v s1 zz9=>?_)
 obtain ⟨x,H1,I1,r1,q1⟩:=zz9
 obtain ⟨c,rfl,q1⟩:=q1
 cases r1
 refine wpAny_truthy_bool ?_
 cases c with
 | true=>exact hb pins s1 σ H1 Q I1 q1
 | false=>exact ⟨.bl false,H1,I1,rfl,q1⟩
theorem pe_not (ha:PE X a ta):PE X (.UnaryOp .Not a pos) (tNotV ta):=by
 intro pins s σ H Q I h
 refine UnaryOp_ (thn (ha pins s σ H _ I h) fun v s1 zz9=>?_)
 obtain ⟨x,H1,I1,r1,q1⟩:=zz9
 obtain ⟨c,rfl,q1⟩:=q1
 cases r1
 exact not_of (wpAny_truthy_bool ⟨.bl (!c),H1,I1,rfl,q1⟩)
noncomputable def tIf (t:TT) (ta tb:TE):TE:=fun σ H Q=>t σ H fun c H1=>if c=true then ta σ H1 Q else tb σ H1 Q
theorem pe_ifExp {c:Expr} (hc:PT X c tA) (ha:PE X a ta) (hb:PE X b tb):PE X (.IfExp c a b pos) (tIf tA ta tb):=by
 intro pins s σ H Q I h
 refine wpAny_IfExp (thn (hc pins s σ H _ I h) fun d s1 zz9=>?_)
 obtain ⟨H1,I1,q1⟩:=zz9
 cases d with
 | true=>exact ha pins s1 σ H1 Q I1 q1
 | false=>exact hb pins s1 σ H1 Q I1 q1
end
end L2
namespace L2
open PySem PySem.Spec PyProof.Rows
noncomputable def SqL (K:PySem.W.Frag) (H:Hp) (a:Addr) (xs:List V):Prop :=
 Rd H a (.lst xs) ∨
  ∃ (o:Obj) (its:Array Value) (n:Nat),K.lookup a=some o∧o.cls=.type "list"∧o.dict=none∧o.data=.seq its n∧its.size≤sizeLine∧Vals xs its.toList
noncomputable def SqT (K:PySem.W.Frag) (H:Hp) (a:Addr) (xs:List V):Prop :=
 Rd H a (.tup xs) ∨
  ∃ (o:Obj) (its:Array Value) (n:Nat),K.lookup a=some o∧o.cls=.type "tuple"∧o.data=.seq its n∧its.size≤sizeLine∧Vals xs its.toList
noncomputable def absV:Value→Option V
 | .none=>some .non
 | .bool b=>some (.bl b)
 | .int i _=>some (.int i)
 | .str x _=>some (.str x)
 | .bytes b _=>some (.byt b)
 | .float b _=>some (.flt b)
 | .ref a=>some (.ref a)
 | .type n=>some (.ty n)
 | _=>none
theorem RelV.abs {x:V} {u:Value} (r:RelV x u):absV u=some x:=by
 cases x with
 | non=>cases r; rfl
 | bl _=>cases r; rfl
 | int _=>obtain ⟨t,rfl⟩:=r; rfl
 | str _=>obtain ⟨t,rfl⟩:=r; rfl
 | byt _=>obtain ⟨t,rfl⟩:=r; rfl
 | flt _=>obtain ⟨t,rfl⟩:=r; rfl
 | ref _=>cases r; rfl
 | ty _=>cases r; rfl
theorem RelV.inj {x y:V} {u:Value} (r:RelV x u) (q:RelV y u):x=y:=Option.some.inj (r.abs.symm.trans q.abs)
theorem Vals.inj:∀ {xs ys:List V} {us:List Value},Vals xs us→Vals ys us→xs=ys
 | _,_,_,.nil,.nil=>rfl
 | _,_,_,.cons r t,.cons r' t'=>by rw [r.inj r',Vals.inj t t']
section
variable {X:Cx} {pins:List (Addr × Obj)} {σ:St} {H:Hp} {s:Shared} {a:Addr} {xs ys:List V}
theorem SqL.of {K:PySem.W.Frag} (h:H a=some (.lst xs)):SqL K H a xs:=.inl (.inl h)
theorem SqT.of {K:PySem.W.Frag} (h:H a=some (.tup xs)):SqT K H a xs:=.inl (.inl h)
theorem Inv.list (I:Inv X pins σ H s) (h:SqL X.K H a xs):∃ its:List Value,Vals xs its∧PlainL s.heap a its.toArray∧xs.length≤sizeLine:=by
 rcases h with h | ⟨o,its,n,hk,hc,hd,hs,hz,r⟩
 ·obtain ⟨z,its,n,r,e⟩:=h.ok I.hok
  exact ⟨its,r,⟨_,n,e,rfl,rfl,rfl⟩,z⟩
 ·refine ⟨its.toList,r,⟨o,n,I.kIn a o hk,hc,hd,by simpa using hs⟩,?_⟩
  have e:=r.length
  simp only [Array.length_toList] at e
  omega
theorem Inv.tuple (I:Inv X pins σ H s) (h:SqT X.K H a xs):∃ its:List Value,Vals xs its∧IsTup s.heap a its.toArray∧xs.length≤sizeLine:=by
 rcases h with h | ⟨o,its,n,hk,hc,hs,hz,r⟩
 ·obtain ⟨z,its,r,p⟩:=h.ok I.hok
  exact ⟨its,r,p,z⟩
 ·refine ⟨its.toList,r,⟨o,I.kIn a o hk,hc,n,by simpa using hs⟩,?_⟩
  have e:=r.length
  simp only [Array.length_toList] at e
  omega
theorem Inv.list_inj (I:Inv X pins σ H s) (h:SqL X.K H a xs) (h':SqL X.K H a ys):xs=ys:=by
 obtain ⟨its,r,⟨o,n,e,_,_,d⟩,_⟩:=I.list h
 obtain ⟨its',r',⟨o',n',e',_,_,d'⟩,_⟩:=I.list h'
 rw [e] at e'; cases e'
 rw [d] at d'
 injection d' with d1 _
 have:its=its':=by simpa using congrArg Array.toList d1
 subst this
 exact r.inj r'
theorem Inv.tuple_inj (I:Inv X pins σ H s) (h:SqT X.K H a xs) (h':SqT X.K H a ys):xs=ys:=by
 obtain ⟨its,r,⟨o,e,_,n,d⟩,_⟩:=I.tuple h
 obtain ⟨its',r',⟨o',e',_,n',d'⟩,_⟩:=I.tuple h'
 rw [e] at e'; cases e'
 rw [d] at d'
 injection d' with d1 _
 have:its=its':=by simpa using congrArg Array.toList d1
 subst this
 exact r.inj r'
end
noncomputable abbrev Cx.wish (X:Cx) (E:Value→Shared→Prop):Cx:={ X with xe:=E }
noncomputable abbrev Cx.nox (X:Cx):Cx:=X.wish fun _ _=>False
theorem Cx.Ok.wish {X:Cx} (ok:X.Ok) (E:Value→Shared→Prop):(X.wish E).Ok :=
 ⟨ok.mod,ok.kind,ok.glob,ok.blt,ok.above,ok.inj,ok.has,ok.cab,ok.hd,ok.frames,ok.stk,ok.exf,ok.bs,ok.bsz,ok.noex,ok.exfs,ok.funs,ok.frf⟩
theorem Cx.Ok.unwish {X:Cx} {E:Value→Shared→Prop} (ok:(X.wish E).Ok):X.Ok :=
 ⟨ok.mod,ok.kind,ok.glob,ok.blt,ok.above,ok.inj,ok.has,ok.cab,ok.hd,ok.frames,ok.stk,ok.exf,ok.bs,ok.bsz,ok.noex,ok.exfs,ok.funs,ok.frf⟩
section
variable {X:Cx} {pins:List (Addr × Obj)} {σ:St} {H:Hp} {s:Shared} {E:Value→Shared→Prop}
theorem Inv.wish (I:Inv X pins σ H s) (E:Value→Shared→Prop):Inv (X.wish E) pins σ H s:=⟨I.ok.wish E,I.os,I.bare,I.base,I.loc,I.cell,I.free,I.freeC,I.pin,I.hok,I.len⟩
theorem Inv.unwish (I:Inv (X.wish E) pins σ H s):Inv X pins σ H s:=⟨I.ok.unwish,I.os,I.bare,I.base,I.loc,I.cell,I.free,I.freeC,I.pin,I.hok,I.len⟩
theorem SP.unwish {D:Ends} {f:Flow} {s':Shared} (h:SP (X.wish E) pins D f s'):SP X pins D f s':=by
 cases f with
 | next=>obtain ⟨σ',H',I,q⟩:=h; exact ⟨σ',H',I.unwish,q⟩
 | brk=>obtain ⟨σ',H',I,q⟩:=h; exact ⟨σ',H',I.unwish,q⟩
 | cont=>obtain ⟨σ',H',I,q⟩:=h; exact ⟨σ',H',I.unwish,q⟩
 | ret u=>obtain ⟨v,σ',H',I,r,q⟩:=h; exact ⟨v,σ',H',I.unwish,r,q⟩
theorem PSs.nox {st:List Stmt} {t:TS} (h:PSs X.nox st t):PSs X st t:=fun pins s σ H D I hw =>
 wpAny_mono (h pins s σ H D (I.wish _) hw) (fun _ _ q=>q.unwish) fun _ _ z=>False.elim z
end
section
variable {X:Cx} {st:Stmt} {rest:List Stmt} {t u:TS} {e:Expr} {te:TE} {pos:Pos}
noncomputable def tNext:TS:=fun D σ H=>D.nx σ H
noncomputable def tSeq (t u:TS):TS:=fun D σ H=>t { D with nx:=u D } σ H
theorem pss_nil:PSs X [] tNext:=fun _ _ σ H _ I h=>wpAny_execs_nil ⟨σ,H,I,h⟩
theorem pss_cons (h1:PS X st t) (h2:PSs X rest u):PSs X (st :: rest) (tSeq t u):=by
 intro pins s σ H D I h
 refine wpAny_execs_cons (thn (h1 pins s σ H { D with nx:=u D } I h) fun f s1 q=>?_)
 cases f with
 | next =>
  obtain ⟨σ',H',I',q⟩:=q
  exact h2 pins s1 σ' H' D I' q
 | ret v=>exact q
 | brk=>exact q
 | cont=>exact q
theorem pss_one (h1:PS X st t):PSs X [st] t:=by
 intro pins s σ H D I h
 refine wpAny_execs_cons (thn (h1 pins s σ H D I h) fun f s1 q=>?_)
 cases f with
 | next=>exact wpAny_execs_nil q
 | ret v=>exact q
 | brk=>exact q
 | cont=>exact q
noncomputable def tBreak:TS:=fun D σ H=>D.bk σ H
theorem ps_break:PS X (.Break pos) tBreak:=fun _ _ σ H _ I h=>wpAny_Break ⟨σ,H,I,h⟩
theorem Inv.quiet {pins:List (Addr × Obj)} {σ:St} {H:Hp} {s:Shared} (I:Inv X pins σ H s):interactive X.env=false:=by simp [interactive,I.ok.kind]
noncomputable def tDrop (te:TE):TS:=fun D σ H=>te σ H fun _ H1=>D.nx σ H1
theorem ps_expr (he:PE X e te) (hs:swapsWith e none pos.line X.env=pure false:=by rfl):PS X (.Expr e pos) (tDrop te):=by
 intro pins s σ H D I h
 refine wpAny_Expr_any (thn (he pins s σ H _ I h) fun v s1 zz2=>?_) I.quiet hs
 obtain ⟨x,H1,I1,r1,q1⟩:=zz2
 exact ⟨σ,H1,I1,q1⟩
noncomputable def tRet (te:TE):TS:=fun D σ H=>te σ H D.rt
theorem ps_ret (he:PE X e te):PS X (.Return (some e) pos) (tRet te):=by
 intro pins s σ H D I h
 refine wpAny_Return_some (thn (he pins s σ H _ I h) fun v s1 zz3=>?_)
 obtain ⟨x,H1,I1,r1,q1⟩:=zz3
 exact ⟨x,σ,H1,I1,r1,q1⟩
noncomputable def tIfS (c:TT) (t u:TS):TS:=fun D σ H=>c σ H fun b H1=>if b=true then t D σ H1 else u D σ H1
theorem ps_if {c:Expr} {a b:List Stmt} {tc:TT} (hc:PT X c tc) (ha:PSs X a t) (hb:PSs X b u):PS X (.If c a b pos) (tIfS tc t u):=by
 intro pins s σ H D I h
 refine wpAny_If (thn (hc pins s σ H _ I h) fun d s1 zz9=>?_)
 obtain ⟨H1,I1,q1⟩:=zz9
 cases d with
 | true=>exact ha pins s1 σ H1 D I1 q1
 | false=>exact hb pins s1 σ H1 D I1 q1
noncomputable def tNever:TS:=fun _ _ _=>False
theorem pss_never {sts:List Stmt}:PSs X sts tNever:=fun _ _ _ _ _ _ h=>h.elim
end
noncomputable abbrev TG:=V→St→Hp→(St→Hp→Prop)→Prop
noncomputable abbrev TGs:=List V→St→Hp→(St→Hp→Prop)→Prop
noncomputable def PG (X:Cx) (target:Expr) (t:TG):Prop :=
 ∀ (pins:List (Addr × Obj)) (s:Shared) (σ:St) (H:Hp) (v:V) (u:Value) (Q:St→Hp→Prop),Inv X pins σ H s→RelV v u→t v σ H Q →
  wpAny (model X.prog X.w) X.A (assign target X.env u) (fun _ s'=>∃ σ' H',Inv X pins σ' H' s'∧Q σ' H') X.xe s
noncomputable def PGs (X:Cx) (ts:List Expr) (t:TGs):Prop :=
 ∀ (pins:List (Addr × Obj)) (s:Shared) (σ:St) (H:Hp) (vs:List V) (us:List Value) (Q:St→Hp→Prop),Inv X pins σ H s→Vals vs us→t vs σ H Q →
  wpAny (model X.prog X.w) X.A (assignInOrder ((assignEach ts X.env).map (·.2)) us) (fun _ s'=>∃ σ' H',Inv X pins σ' H' s'∧Q σ' H') X.xe s
noncomputable abbrev TSet:=V→V→V→Hp→(Hp→Prop)→Prop
noncomputable def PSet (X:Cx) (t:TSet):Prop :=
 ∀ (pins:List (Addr × Obj)) (s:Shared) (σ:St) (H:Hp) (o i v:V) (ov iv u:Value) (Q:Hp→Prop),Inv X pins σ H s→RelV o ov→RelV i iv→RelV v u→t o i v H Q →
  wpAny (model X.prog X.w) X.A (setItem ov iv u) (fun _ s'=>∃ H',Inv X pins σ H' s'∧Q H') X.xe s
noncomputable abbrev TIp:=V→V→Hp→VK→Prop
noncomputable def PIp (X:Cx) (op:Operator) (t:TIp):Prop :=
 ∀ (pins:List (Addr × Obj)) (s:Shared) (σ:St) (H:Hp) (x y:V) (v u:Value) (Q:VK),Inv X pins σ H s→RelV x v→RelV y u→t x y H Q →
  wpAny (model X.prog X.w) X.A (inplaceOp op v u) (EP X pins σ Q) X.xe s
section
variable {X:Cx} {pos:Pos}
noncomputable def gName (i:Nat):TG:=fun v σ H Q=>Q (σ.set i (some v)) H
theorem pg_name {i:Nat} {x:Str} (hN:X.N.Nodup) (hi:X.N[i]?=some x) (hx:Loc X.env.scope x) (hf:X.fn x=true∨X.env.scope.names.lookup x=some .local:=by first | exact .inl rfl | exact .inr rfl | assumption):PG X (.Name x pos) (gName i):=by
 intro pins s σ H v u Q I r h
 exact wpAny_assign_Name (store_ok I hN hi hx r (fun s' I'=>⟨_,H,I',h⟩) hf)
noncomputable def gNil:TGs:=fun vs σ H Q=>vs=[]∧Q σ H
noncomputable def gCons (t:TG) (u:TGs):TGs:=fun vs σ H Q=>∃ v r,vs=v :: r∧t v σ H fun σ' H'=>u r σ' H' Q
theorem pgs_nil:PGs X [] gNil:=by
 intro pins s σ H vs us Q I r h
 obtain ⟨e,h⟩:=h
 subst e
 cases r
 exact assignInOrder_nil ⟨σ,H,I,h⟩
theorem pgs_cons {e:Expr} {es:List Expr} {t:TG} {u:TGs} (h1:PG X e t) (h2:PGs X es u)
  (hs:(assignEach (e :: es) X.env).map (·.2)=assign e X.env :: (assignEach es X.env).map (·.2):=by rfl):PGs X (e :: es) (gCons t u):=by
 intro pins s σ H vs us Q I r h
 obtain ⟨v,vr,e1,h⟩:=h
 subst e1
 cases r with
 | cons r rr =>
  rw [hs]
  refine assignInOrder_cons (thn (h1 pins s σ H _ _ _ I r h) fun _ s1 zz9=>?_)
  obtain ⟨σ1,H1,I1,q1⟩:=zz9
  exact h2 pins s1 σ1 H1 _ _ Q I1 rr q1
noncomputable def gTup (K:PySem.W.Frag) (n:Nat) (t:TGs):TG:=fun v σ H Q=>∃ a xs,v=.ref a∧SqT K H a xs∧xs.length=n∧t xs σ H Q
theorem pg_tup {es:List Expr} {k:Nat} {t:TGs} {n:Nat} (hc:X.calm=true) (h:PGs X es t)
  (hn:(assignEach es X.env).length=n:=by rfl) (hst:(assignEach es X.env).findIdx? (·.1)=none:=by rfl):PG X (.Tuple es k pos) (gTup X.K n t):=by
 intro pins s σ H v u Q I r hw
 obtain ⟨a,xs,e1,hq,hl,hw⟩:=hw
 subst e1
 cases r
 obtain ⟨its,rv,ht,hz⟩:=I.tuple hq
 refine assign_Tuple_tuple (I.ok.hd hc) ht (by simp [hn,← hl,rv.length]) hst fun h' hx=>?_
 have I1:Inv X pins σ H { s with heap:=h' }:=I.kept (t':=s.toks) fun b o e=>hx b o (Nat.ne_of_lt (Heap.lt_size e)) e
 exact h pins _ σ H xs _ Q I1 (by simpa using rv) hw
noncomputable def gSub (to ti:TE) (t:TSet):TG:=fun v σ H Q=>to σ H fun o H1=>ti σ H1 fun i H2=>t o i v H2 fun H3=>Q σ H3
theorem pg_sub {o i:Expr} {to ti:TE} {t:TSet} (ho:PE X o to) (hi:PE X i ti) (hs:PSet X t)
  (ha:∀ v,assign (.Subscript o i pos) X.env v=(do
   let ov ← holding [v] (eval o X.env)
   let iv ← holding [v,ov] (eval i X.env)
   standAt pos
   holding [v,ov,iv] (setItem ov iv v)
   release [v,ov,iv] []):=by intro _; rfl):PG X (.Subscript o i pos) (gSub to ti t):=by
 intro pins s σ H v u Q I r h
 rw [ha]
 refine wpAny_bind (wpAny_holding (thn (ho pins s σ H _ I h) fun ov s1 zz9=>?_))
 obtain ⟨x,H1,I1,r1,q1⟩:=zz9
 refine wpAny_bind (wpAny_holding (thn (hi pins s1 σ H1 _ I1 q1) fun iv s2 zz9=>?_))
 obtain ⟨y,H2,I2,r2,q2⟩:=zz9
 refine wpAny_bind (wpAny_standAt (wpAny_bind (wpAny_holding (thn (hs pins s2 σ H2 x y v ov iv u _ I2 r1 r2 r q2) fun _ s3 zz9=>?_))))
 obtain ⟨H3,I3,q3⟩:=zz9
 exact wpAny_release ⟨σ,H3,I3,q3⟩
noncomputable def tAsg (te:TE) (g:TG):TS:=fun D σ H=>te σ H fun x H1=>g x σ H1 D.nx
theorem ps_asg {tg e:Expr} {te:TE} {g:TG} (he:PE X e te) (hg:PG X tg g) (hs:swapsWithSole [tg] e pos.line X.env=pure false:=by rfl) (hw:swappedStores [tg] e X.env=pure none:=by rfl)
  (h1:(assignEach [tg] X.env).map (·.2)=[assign tg X.env]:=by rfl):PS X (.Assign [tg] e pos) (tAsg te g):=by
 intro pins s σ H D I h
 refine wpAny_Assign_stores (thn (he pins s σ H _ I h) fun v s1 zz4=>?_) hs hw
 obtain ⟨x,H1,I1,r1,q1⟩:=zz4
 rw [h1]
 exact thn (hg pins s1 σ H1 x v _ I1 r1 q1) fun _ s2 q=>q
theorem ps_set {i:Nat} {x:Str} {e:Expr} {te:TE} {pos':Pos} (hN:X.N.Nodup) (hi:X.N[i]?=some x) (hx:Loc X.env.scope x) (he:PE X e te) (hs:swapsWith e (some (.Name x pos')) pos.line X.env=pure false:=by rfl) (hf:X.fn x=true∨X.env.scope.names.lookup x=some .local:=by first | exact .inl rfl | exact .inr rfl | assumption) :
  PS X (.Assign [.Name x pos'] e pos) (tAsg te (gName i)):=by
 intro pins s σ H D I h
 refine wpAny_Assign_Name (thn (he pins s σ H _ I h) fun v s1 zz5=>?_) hs
 obtain ⟨y,H1,I1,r1,q1⟩:=zz5
 exact store_ok I1 hN hi hx r1 (fun s2 I2=>⟨_,H1,I2,q1⟩) hf
noncomputable def tPar (i j:Nat) (ta:TA):TS:=fun D σ H=>ta σ H fun vs H1=>∃ v w,vs=[v,w]∧D.nx ((σ.set i (some v)).set j (some w)) H1
theorem ps_par {i j:Nat} {x y:Str} {a b:Expr} {ta:TA} {px py pt:Pos} {kt k2 pt2} (hc:X.calm=true) (hN:X.N.Nodup) (hi:X.N[i]?=some x) (hj:X.N[j]?=some y) (hij:i≠j)
  (hx:X.env.scope.names.lookup x=some .local) (hy:X.env.scope.names.lookup y=some .local) (ha:PA X [a,b] ta)
  (hw:swappedStores [.Tuple [.Name x px,.Name y py] kt pt] (.Tuple [a,b] k2 pt2) X.env=pure (some [x,y]))
  (hs:swapsWithSole [.Tuple [.Name x px,.Name y py] kt pt] (.Tuple [a,b] k2 pt2) pos.line X.env=pure false:=by rfl) :
  PS X (.Assign [.Tuple [.Name x px,.Name y py] kt pt] (.Tuple [a,b] k2 pt2) pos) (tPar i j ta):=by
 intro pins s σ H D I h
 rw [exec_Assign_arm]
 refine wpAny_bind (wpAny_standAt ?_)
 rw [hs]
 refine wpAny_bind (wpAny_pure ?_)
 rw [if_neg (by decide)]
 refine wpAny_bind (Tuple_ (thn (ha _ pins s σ H _ I h) fun us s1 zz9=>?_))
 obtain ⟨vs,H1,I1,r1,q1⟩:=zz9
 obtain ⟨v,w,e1,q1⟩:=q1
 subst e1
 obtain ⟨u1,u2,rfl,rv,rw'⟩:∃ u1 u2,us=[u1,u2]∧RelV v u1∧RelV w u2:=by
  cases r1 with
  | cons p q =>
   cases q with
   | cons p' q' =>
    cases q'
    exact ⟨_,_,rfl,p,p'⟩
 refine wpAny_newObj_type ?_ (by show 2≤sizeLine; decide)
 have I2:Inv X pins σ H1 { s1 with heap:=s1.heap.push { cls:=.type "tuple",data:=.seq [u1,u2].toArray } }:=I1.kept (t':=s1.toks) fun b o e=>Heap.get?_push_of_some _ e
 rw [hw]
 refine wpAny_bind (wpAny_pure ?_)
 show wpAny (model X.prog X.w) X.A (do rule "assign.swapped-stores"; let items ← unpackItems (.ref s1.heap.objs.size) 2 none; assignInOrder [fun v=>bindName X.env y v,fun v=>bindName X.env x v] items.reverse; pure Flow.next) _ _ _
 refine wpAny_bind (wpAny_rule (wpAny_bind (unpackItems_tuple (items:=#[u1,u2]) (I.ok.hd hc) (IsTup.new s1.heap _) fun h' hx'=>?_)))
 have I3:=I2.kept (h':=h') (t':=s1.toks) fun b o e=>hx' b o (Nat.ne_of_lt (Heap.lt_size e)) e
 show wpAny _ _ (assignInOrder [fun v=>bindName X.env y v,fun v=>bindName X.env x v] [u2,u1] >>= fun _=>pure Flow.next) _ _ _
 refine wpAny_bind (assignInOrder_cons (wpAny_bindName (store_ok I3 hN hj (.inl hy) rw' (fun s2 I4=>?_) (.inr hy))))
 refine assignInOrder_cons (wpAny_bindName (store_ok I4 hN hi (.inl hx) rv (fun s3 I5=>assignInOrder_nil (wpAny_pure ?_)) (.inr hx)))
 rw [List.set_comm _ _ (Ne.symm hij)] at I5
 exact ⟨_,H1,I5,q1⟩
noncomputable def tAug (i:Nat) (te:TE) (ti:TIp):TS:=fun D σ H=>∃ x,σ[i]?=some (some x)∧te σ H fun y H1=>ti x y H1 fun z H2=>D.nx (σ.set i (some z)) H2
theorem ps_aug {i:Nat} {x:Str} {e:Expr} {te:TE} {op:Operator} {ti:TIp} {pos':Pos} (hN:X.N.Nodup) (hi:X.N[i]?=some x) (hx:Loc X.env.scope x) (he:PE X e te) (ho:PIp X op ti) (hf:X.fn x=true∨X.env.scope.names.lookup x=some .local:=by first | exact .inl rfl | exact .inr rfl | assumption) :
  PS X (.AugAssign (.Name x pos') op e pos) (tAug i te ti):=by
 intro pins s σ H D I h
 obtain ⟨v,e1,h⟩:=h
 obtain ⟨m,hn,hl⟩:=I.loc
 have vis:Vis X.env.scope x:=by rcases hx with k | k; exact .inl k; exact .inr (.inl k)
 obtain ⟨u,r,l⟩:=hl i x v hi e1 vis
 refine wpAny_AugAssign_Name ?_
 have go:wpAny (model X.prog X.w) X.A (eval e X.env) (fun w s₂=>wpAny (model X.prog X.w) X.A (inplaceOp op u w) (fun r s₃=>wpAny (model X.prog X.w) X.A (storeName X.env x r) (fun _=>SP X pins D .next) X.xe s₃) X.xe s₂) X.xe s:=by
  refine thn (he pins s σ H _ I h) fun w s1 zz9=>?_
  obtain ⟨y,H1,I1,r1,q1⟩:=zz9
  refine thn (ho pins s1 σ H1 v y u w _ I1 r r1 q1) fun z s2 zz9=>?_
  obtain ⟨zv,H2,I2,r2,q2⟩:=zz9
  exact store_ok I2 hN hi hx r2 (fun s3 I3=>⟨_,H2,I3,q2⟩) hf
 rcases l with ⟨hk,hm⟩ | ⟨hk,c,hc,hcell⟩
 ·exact wpAny_loadName_local I.ok.kind hk hn hm go
 ·rcases hk with hk | hk
  ·exact wpAny_loadName_cell I.ok.kind hk hc hcell go
  ·rcases hx with k | k
   ·have:X.env.scope.names.lookup x=some .free:=hk
    rw [k] at this; cases this
   ·have:X.env.scope.names.lookup x=some .free:=hk
    rw [k] at this; cases this
end
section
variable {X:Cx} {pos:Pos}
noncomputable def tWhile (c:TT) (tb:TS):TS:=fun D σ H=>∃ W:Nat→St→Hp→Prop,(∃ m,W m σ H)∧∀ m σ H,W m σ H →
 c σ H fun b H1=>if b=true then ∃ N:St→Hp→Prop,(∀ σ' H',N σ' H'→∃ m',m' < m∧W m' σ' H')∧tb { D with nx:=N,ct:=N,bk:=D.nx } σ H1 else D.nx σ H1
theorem ps_while {c:Expr} {body:List Stmt} {tc:TT} {tb:TS} (hp:PassesOwn (model X.prog X.w) X.A X.env X.xe) (hc:PT X c tc) (hb:PSs X body tb):PS X (.While c body [] pos) (tWhile tc tb):=by
 intro pins s σ H D I h
 obtain ⟨W,⟨m0,w0⟩,turn⟩:=h
 refine wpAny_While (codeAny_whileLoop (fun n s'=>∃ σ' H',Inv X pins σ' H' s'∧W n σ' H') ?_ m0 ⟨σ,H,I,w0⟩)
 rintro n s1 ⟨σ1,H1,I1,w1⟩
 refine wpAny_passesOwn hp (thn (hc pins s1 σ1 H1 _ I1 (turn n σ1 H1 w1)) fun b s2 zz9=>?_)
 obtain ⟨H2,I2,q2⟩:=zz9
 cases b with
 | true =>
  obtain ⟨N,hN,q2⟩:=q2
  rw [if_pos rfl]
  refine wpAny_passesOwn hp (thn (hb pins s2 σ1 H2 _ I2 q2) fun f s3 q3=>?_)
  cases f with
  | next =>
   obtain ⟨σ3,H3,I3,n3⟩:=q3
   obtain ⟨m',hm,w3⟩:=hN σ3 H3 n3
   exact ⟨m',hm,σ3,H3,I3,w3⟩
  | cont =>
   obtain ⟨σ3,H3,I3,n3⟩:=q3
   obtain ⟨m',hm,w3⟩:=hN σ3 H3 n3
   exact ⟨m',hm,σ3,H3,I3,w3⟩
  | brk=>exact q3
  | ret v=>exact q3
 | false =>
  rw [if_neg Bool.false_ne_true]
  exact wpAny_execs_nil ⟨σ1,H2,I2,q2⟩
end
structure It where
 go:Nat→Hp→Prop
 yld:Nat→Hp→V→Hp→Prop
 stop:Nat→Hp→Prop
noncomputable def FpOk (X:Cx) (pins:List (Addr × Obj)) (H:Hp) (b:Addr):Prop :=
 H b=none∧b≠X.env.locals∧b ∉ X.fs∧(b∈X.ex∨X.s₀.heap.objs.size≤b)∧(∀ x c,X.env.cells.lookup x=some c→c≠b)∧∀ p∈X.pn ++ pins,p.1≠b
theorem Inv.fpOk {X:Cx} {pins:List (Addr × Obj)} {σ:St} {H H':Hp} {s:Shared} {b:Addr} (I:Inv X pins σ H s) (hb:s.heap.objs.size≤b) (hn:H' b=none):FpOk X pins H' b:=by
 refine ⟨hn,Nat.ne_of_gt (Nat.lt_of_lt_of_le I.lt hb),I.nofs hb,.inr (Nat.le_trans I.sz hb),fun x c e z=>?_,fun p hp z=>?_⟩
 ·obtain ⟨v,q⟩:=I.cell x c e
  exact absurd (Nat.lt_of_lt_of_le q.lt (by rw [z]; exact hb)) (Nat.lt_irrefl _)
 ·exact absurd (Nat.lt_of_lt_of_le (Heap.lt_size (I.pin p hp).1) (by rw [z]; exact hb)) (Nat.lt_irrefl _)
structure Turn (P:Program) (w:World) (K:PySem.W.Frag) (tg:Expr) (J:It) (fp:List Addr) (it:Addr) (tn:Nat→Heap→Prop):Prop where
 mem:it∈fp
 obj:∀ i h,tn i h→∀ b∈fp,∃ o,h.get? b=some o∧∀ v,o.data≠.cell v
 keep:∀ i h h',tn i h→(∀ b∈fp,∀ o,h.get? b=some o→h'.get? b=some o)→tn i h'
 item:∀ (X:Cx),X.prog=P→X.w=w→X.K=K→X.calm=true→∀ (i:Nat) (pins:List (Addr × Obj)) (s:Shared) (σ:St) (H:Hp) (E:Value→Shared→Prop),Inv X pins σ H s→(∀ b∈fp,FpOk X pins H b)→tn i s.heap→J.go i H →
  wpAny (model P w) X.A (pyNext (.ref it)) (fun r s1=>∃ u,r=some u ∧
   wpAny (model P w) X.A (letOwnedTupleGo tg (.ref it) u) (fun _ s2=>∃ x H',Inv X pins σ H' s2∧RelV x u∧J.yld i H x H'∧tn (i + 1) s2.heap∧∀ b∈fp,H' b=none) E s1) E s
 done:∀ (X:Cx),X.prog=P→X.w=w→X.K=K→X.calm=true→∀ (i:Nat) (pins:List (Addr × Obj)) (s:Shared) (σ:St) (H:Hp) (E:Value→Shared→Prop),Inv X pins σ H s→(∀ b∈fp,FpOk X pins H b)→tn i s.heap→J.stop i H →
  wpAny (model P w) X.A (pyNext (.ref it)) (fun r s1=>r=none∧Inv X pins σ H s1) E s
 self:∀ (A:Around) (i:Nat) (s:Shared) (Q:Value→Shared→Prop) (E:Value→Shared→Prop),tn i s.heap→Q (.ref it) s→wpAny (model P w) A (pyIter (.ref it)) Q E s
noncomputable abbrev TI:=St→Hp→(It→Hp→Prop)→Prop
noncomputable def PIE (X:Cx) (pins:List (Addr × Obj)) (σ:St) (tg:Expr) (R:It→Hp→Prop) (itv:Value) (s2:Shared):Prop :=
 ∃ (it:Addr) (fp:List Addr) (tn:Nat→Heap→Prop) (J:It) (H':Hp),itv=.ref it∧Inv X pins σ H' s2∧Turn X.prog X.w X.K tg J fp it tn∧tn 0 s2.heap∧(∀ b∈fp,FpOk X pins H' b)∧R J H'
noncomputable def PI (X:Cx) (tg iter:Expr) (wi:TI):Prop :=
 ∀ (pins:List (Addr × Obj)) (s:Shared) (σ:St) (H:Hp) (R:It→Hp→Prop),Inv X pins σ H s→wi σ H R →
  wpAny (model X.prog X.w) X.A (eval iter X.env) (fun v s1=>wpAny (model X.prog X.w) X.A (pyIter v) (PIE X pins σ tg R) X.xe s1) X.xe s
theorem go_of {M:Model} {A:Around} {E:Value→Shared→Prop} {s:Shared} {tg:Expr} {it:Addr} {u:Value} {o:Obj} {n:String} {vs:Array Value} {Q:Unit→Shared→Prop} (ho:s.heap.get? it=some o) (hc:o.cls=.type n) (hd:o.data=.fields vs)
    (hn:["enumerate","zip","dict_itemiterator","dict_reverseitemiterator","odict_iterator","itertools.zip_longest","itertools.pairwise"].contains n=false) (hQ:Q () s):wpAny M A (letOwnedTupleGo tg (.ref it) u) Q E s:=by
  unfold letOwnedTupleGo
  cases tg <;> first
    | exact wpAny_pure hQ
    | (cases u <;> first
        | exact wpAny_pure hQ
        | (refine wpAny_bind (wpAny_load ho ?_)
           rw [hc,hd]
           show wpAny M A (if (["enumerate","zip","dict_itemiterator","dict_reverseitemiterator","odict_iterator","itertools.zip_longest","itertools.pairwise"].contains n && vs[0]? == some (rawInt _))=true then _ else _) Q E s
           rw [if_neg (by intro h; rw [hn,Bool.false_and] at h; cases h)]
           exact wpAny_pure hQ))
noncomputable def Itl (K:PySem.W.Frag) (a:Addr):It :=
 ⟨fun i H=>∃ xs x,SqL K H a xs∧xs[i]?=some x,fun i H x H'=>H'=H∧∀ xs,SqL K H a xs→xs[i]?=some x,fun i H=>∃ xs,SqL K H a xs∧xs.length≤i⟩
noncomputable def Itt (K:PySem.W.Frag) (a:Addr):It :=
 ⟨fun i H=>∃ xs x,SqT K H a xs∧xs[i]?=some x,fun i H x H'=>H'=H∧∀ xs,SqT K H a xs→xs[i]?=some x,fun i H=>∃ xs,SqT K H a xs∧xs.length≤i⟩
noncomputable def Itr (lo:Int) (n:Nat):It:=⟨fun i _=>i < n,fun i H x H'=>H'=H∧x=.int (lo + i),fun i _=>n≤i⟩
theorem turn_list {P:Program} {w:World} {K:PySem.W.Frag} {tg:Expr} (a it:Addr):Turn P w K tg (Itl K a) [it] it (fun i h=>h.IsListIter it a i) where
 mem:=by simp
 obj:=fun i h st b hb=>by
  have e:b=it:=by simpa using hb
  subst e
  obtain ⟨o,e,c,d⟩:=st
  exact ⟨o,e,fun v z=>by rw [d] at z; cases z⟩
 keep:=fun i h h' st k=>st.at fun o e=>k it (by simp) o e
 item:=by
  intro X hP hw hK hc i pins s σ H E I hf st hg
  subst hP hw hK
  obtain ⟨xs,x,hq,hx⟩:=hg
  obtain ⟨its,rv,p,hz⟩:=I.list hq
  obtain ⟨u,hu,ru⟩:=rv.get hx
  obtain ⟨f0,f1,f2,f3,f4,f5⟩:=hf it (by simp)
  refine wpAny_pyNext_list_item st p.isList (x:=u) (by simpa using hu) fun h' st' sb=>?_
  have I1:Inv X pins σ H { s with heap:=h' }:=I.turned (t':=s.toks) (fun b o hb e=>(sb.2 b hb).trans e) f0 f1 f3 f4 f5
  obtain ⟨o,e,c,d⟩:=id st'
  exact ⟨u,rfl,go_of (s:={ s with heap:=h' }) e c d (by decide) ⟨x,H,I1,ru,⟨rfl,fun ys hy=>by rw [I.list_inj hy hq]; exact hx⟩,st',fun b hb=>(hf b hb).1⟩⟩
 done:=by
  intro X hP hw hK hc i pins s σ H E I hf st hg
  subst hP hw hK
  obtain ⟨xs,hq,hx⟩:=hg
  obtain ⟨its,rv,p,hz⟩:=I.list hq
  obtain ⟨f0,f1,f2,f3,f4,f5⟩:=hf it (by simp)
  have hl:=rv.length
  exact wpAny_pyNext_list_end (I.ok.hd hc) st p.isList (by simp; omega) fun h' eb=>⟨rfl,I.turned (t':=s.toks) (fun b o hb e=>eb b o hb e) f0 f1 f3 f4 f5⟩
 self:=fun _ _ _ _ _ st h=>wpAny_pyIter_listiter st h
theorem turn_tuple {P:Program} {w:World} {K:PySem.W.Frag} {tg:Expr} (a it:Addr):Turn P w K tg (Itt K a) [it] it (fun i h=>h.IsTupleIter it a i) where
 mem:=by simp
 obj:=fun i h st b hb=>by
  have e:b=it:=by simpa using hb
  subst e
  obtain ⟨o,e,c,d⟩:=st
  exact ⟨o,e,fun v z=>by rw [d] at z; cases z⟩
 keep:=fun i h h' st k=>st.at fun o e=>k it (by simp) o e
 item:=by
  intro X hP hw hK hc i pins s σ H E I hf st hg
  subst hP hw hK
  obtain ⟨xs,x,hq,hx⟩:=hg
  obtain ⟨its,rv,p,hz⟩:=I.tuple hq
  obtain ⟨u,hu,ru⟩:=rv.get hx
  obtain ⟨f0,f1,f2,f3,f4,f5⟩:=hf it (by simp)
  refine wpAny_pyNext_tuple_item st (show s.heap.IsTuple a its.toArray from p) (x:=u) (by simpa using hu) fun h' st' sb=>?_
  have I1:Inv X pins σ H { s with heap:=h' }:=I.turned (t':=s.toks) (fun b o hb e=>(sb.2 b hb).trans e) f0 f1 f3 f4 f5
  obtain ⟨o,e,c,d⟩:=id st'
  exact ⟨u,rfl,go_of (s:={ s with heap:=h' }) e c d (by decide) ⟨x,H,I1,ru,⟨rfl,fun ys hy=>by rw [I.tuple_inj hy hq]; exact hx⟩,st',fun b hb=>(hf b hb).1⟩⟩
 done:=by
  intro X hP hw hK hc i pins s σ H E I hf st hg
  subst hP hw hK
  obtain ⟨xs,hq,hx⟩:=hg
  obtain ⟨its,rv,p,hz⟩:=I.tuple hq
  obtain ⟨f0,f1,f2,f3,f4,f5⟩:=hf it (by simp)
  have hl:=rv.length
  exact wpAny_pyNext_tuple_end (I.ok.hd hc) st (show s.heap.IsTuple a its.toArray from p) (by simp; omega) fun h' eb=>⟨rfl,I.turned (t':=s.toks) (fun b o hb e=>eb b o hb e) f0 f1 f3 f4 f5⟩
 self:=fun _ _ _ _ _ st h=>wpAny_pyIter_tupleiter st h
theorem turn_range {P:Program} {w:World} {K:PySem.W.Frag} {tg:Expr} (it:Addr) (lo:Int) (n:Nat):Turn P w K tg (Itr lo n) [it] it (fun i h=>IsRangeIter h it (lo + (i:Nat) * 1) ((n:Int) - (i:Nat)) 1) where
 mem:=by simp
 obj:=fun i h st b hb=>by
  have e:b=it:=by simpa using hb
  subst e
  exact ⟨_,st,fun v z=>by
   have z':Data.fields _=Data.cell v:=z
   cases z'⟩
 keep:=fun i h h' st k=>k it (by simp) _ st
 item:=by
  intro X hP hw hK hc i pins s σ H E I hf st hg
  subst hP hw hK
  obtain ⟨f0,f1,f2,f3,f4,f5⟩:=hf it (by simp)
  have W:=Walks.range (prog:=X.prog) (w:=X.w) (I.ok.hd hc) it lo 1 n
  refine W.item i s _ _ hg st fun v h' tk hv st' kk=>?_
  obtain ⟨t,rfl⟩:=hv
  have I1:Inv X pins σ H { s with heap:=h',toks:=tk }:=I.turned (fun b o hb e=>kk b o (by simpa using hb) e) f0 f1 f3 f4 f5
  refine ⟨_,rfl,go_of (s:={ s with heap:=h',toks:=tk }) (n:="range_iterator") st' rfl rfl (by decide) ⟨.int (lo + i),H,I1,⟨t,?_⟩,⟨rfl,rfl⟩,st',fun b hb=>(hf b hb).1⟩⟩
  rw [Int.mul_one]
 done:=by
  intro X hP hw hK hc i pins s σ H E I hf st hg
  subst hP hw hK
  obtain ⟨f0,f1,f2,f3,f4,f5⟩:=hf it (by simp)
  exact wpAny_pyNext_range_end (I.ok.hd hc) st (by have:n≤i:=hg; omega) fun h' eb=>⟨rfl,I.turned (t':=s.toks) (fun b o hb e=>eb b o hb e) f0 f1 f3 f4 f5⟩
 self:=fun _ _ _ _ _ st h=>wpAny_pyIter_rangeiter st h
end L2
namespace L2
open PySem PySem.Spec PyProof.Rows
section
variable {X:Cx} {tg:Expr}
noncomputable def iList (K:PySem.W.Frag) (tl:TE):TI:=fun σ H R=>tl σ H fun x H1=>∃ a,x=.ref a∧(∃ xs,SqL K H1 a xs)∧R (Itl K a) H1
noncomputable def iTup (K:PySem.W.Frag) (tl:TE):TI:=fun σ H R=>tl σ H fun x H1=>∃ a,x=.ref a∧(∃ xs,SqT K H1 a xs)∧R (Itt K a) H1
theorem pi_list {l:Expr} {tl:TE} (hl:PE X l tl):PI X tg l (iList X.K tl):=by
 intro pins s σ H R I h
 refine thn (hl pins s σ H _ I h) fun v s1 zz9=>?_
 obtain ⟨x,H1,I1,r1,q1⟩:=zz9
 obtain ⟨a,e,⟨xs,hq⟩,q⟩:=q1
 subst e
 cases r1
 obtain ⟨its,rv,p,hz⟩:=I1.list hq
 refine wpAny_pyIter_list p.isList ?_
 refine ⟨s1.heap.objs.size,[s1.heap.objs.size],_,_,H1,rfl,I1.kept (t':=s1.toks) fun b o e=>Heap.get?_push_of_some _ e,turn_list a _,⟨_,Heap.get?_push_size _ rfl,rfl,rfl⟩,fun b hb=>?_,q⟩
 have e:b=s1.heap.objs.size:=by simpa using hb
 subst e
 exact I1.fpOk (Nat.le_refl _) (I1.hok.fresh (Nat.le_refl _))
theorem pi_tup {l:Expr} {tl:TE} (hl:PE X l tl):PI X tg l (iTup X.K tl):=by
 intro pins s σ H R I h
 refine thn (hl pins s σ H _ I h) fun v s1 zz9=>?_
 obtain ⟨x,H1,I1,r1,q1⟩:=zz9
 obtain ⟨a,e,⟨xs,hq⟩,q⟩:=q1
 subst e
 cases r1
 obtain ⟨its,rv,p,hz⟩:=I1.tuple hq
 refine wpAny_pyIter_tuple (show s1.heap.IsTuple a its.toArray from p) ?_
 refine ⟨s1.heap.objs.size,[s1.heap.objs.size],_,_,H1,rfl,I1.kept (t':=s1.toks) fun b o e=>Heap.get?_push_of_some _ e,turn_tuple a _,⟨_,Heap.get?_push_size _ rfl,rfl,rfl⟩,fun b hb=>?_,q⟩
 have e:b=s1.heap.objs.size:=by simpa using hb
 subst e
 exact I1.fpOk (Nat.le_refl _) (I1.hok.fresh (Nat.le_refl _))
theorem range_it {pins:List (Addr × Obj)} {σ:St} {H:Hp} {s:Shared} {R:It→Hp→Prop} {E:Value→Shared→Prop} {lo hi:Int} {t u v:Tok} {tk:Nat} (I:Inv X pins σ H s) (h1:-(2 ^ 62)≤lo) (h2:lo < 2 ^ 62) (h3:-(2 ^ 62)≤hi) (h4:hi < 2 ^ 62)
  (q:R (Itr lo (hi - lo).toNat) H):wpAny (model X.prog X.w) X.A (pyIter (.ref s.heap.objs.size)) (PIE X pins σ tg R) E { s with heap:=s.heap.push { cls:=.type "range",data:=.fields #[.int lo t,.int hi u,.int 1 v] },toks:=tk }:=by
 refine wpAny_pyIter_range (IsRange.new ..) (small_one h1 h2 h3 h4) ?_
 have I1:Inv X pins σ H { s with heap:=s.heap.push { cls:=.type "range",data:=.fields #[.int lo t,.int hi u,.int 1 v] },toks:=tk }:=I.kept fun b o e=>Heap.get?_push_of_some _ e
 refine ⟨(s.heap.push { cls:=.type "range",data:=.fields #[.int lo t,.int hi u,.int 1 v] }).objs.size,[(s.heap.push { cls:=.type "range",data:=.fields #[.int lo t,.int hi u,.int 1 v] }).objs.size],_,_,H,rfl,
  I1.kept (t':=tk) fun b o e=>Heap.get?_push_of_some _ e,turn_range _ lo (hi - lo).toNat,?_,fun b hb=>?_,q⟩
 ·have e1:lo + ((0:Nat):Int) * 1=lo:=by simp
  have e2:(((hi - lo).toNat:Nat):Int) - ((0:Nat):Int)=Builtin.Range.rangeSize lo hi 1:=by rw [rangeSize_one]; split <;> omega
  show IsRangeIter _ _ (lo + ((0:Nat):Int) * 1) ((((hi - lo).toNat:Nat):Int) - ((0:Nat):Int)) 1
  rw [e1,e2]
  exact Heap.get?_push_size _ rfl
 ·have e:b=(s.heap.push { cls:=.type "range",data:=.fields #[.int lo t,.int hi u,.int 1 v] }).objs.size:=by simpa using hb
  subst e
  exact I1.fpOk (Nat.le_refl _) (I1.hok.fresh (Nat.le_refl _))
noncomputable def iRng1 (ta:TA):TI:=fun σ H R=>ta σ H fun vs H1=>∃ j:Int,vs=[.int j]∧-(2 ^ 62)≤j∧j < 2 ^ 62∧R (Itr 0 j.toNat) H1
noncomputable def iRng2 (ta:TA):TI:=fun σ H R=>ta σ H fun vs H1=>∃ i j:Int,vs=[.int i,.int j]∧(-(2 ^ 62)≤i∧i < 2 ^ 62∧-(2 ^ 62)≤j∧j < 2 ^ 62)∧R (Itr i (j - i).toNat) H1
theorem pi_range1 {a:Expr} {ta:TA} {p pos:Pos} (hg:Gl X "range") (hm:X.mg "range"=none) (ha:PA X [a] ta) (hs:starEach [a] X.env=[(false,eval a X.env)]:=by rfl):PI X tg (.Call (.Name "range" p) [a] [] pos) (iRng1 ta):=by
 intro pins s σ H R I h
 refine Call_ (ld_blt I hg hm boot_range (PyProof.Rows.callWith_type1 (thn (ha pos pins s σ H _ I h) fun us s1 zz6=>?_) hs rfl))
 obtain ⟨vs,H1,I1,r1,q1⟩:=zz6
 obtain ⟨j,e,q1,q2,q⟩:=q1
 subst e
 cases r1 with
 | cons r rr =>
  cases rr
  obtain ⟨t,rfl⟩:=r
  exact call_range_1 (range_it I1 (by omega) (by omega) q1 q2 (by simpa using q))
theorem pi_range2 {a b:Expr} {ta:TA} {p pos:Pos} (hg:Gl X "range") (hm:X.mg "range"=none) (ha:PA X [a,b] ta) (hs:starEach [a,b] X.env=[(false,eval a X.env),(false,eval b X.env)]:=by rfl) (hs2:starEach [b] X.env=[(false,eval b X.env)]:=by rfl) :
  PI X tg (.Call (.Name "range" p) [a,b] [] pos) (iRng2 ta):=by
 intro pins s σ H R I h
 refine Call_ (ld_blt I hg hm boot_range (PyProof.Rows.callWith_type1 (thn (ha pos pins s σ H _ I h) fun us s1 ⟨vs,H1,I1,r1,q1⟩=>?_) (by rw [hs,hs2]) (by rw [hs2]; rfl)))
 obtain ⟨i,j,e,⟨q1,q2,q3,q4⟩,q⟩:=q1
 subst e
 cases r1 with
 | cons r rr =>
  cases rr with
  | cons r' rr =>
   cases rr
   obtain ⟨t,rfl⟩:=r
   obtain ⟨t',rfl⟩:=r'
   exact call_range_2 (range_it I1 q1 q2 q3 q4 q)
noncomputable def tFor (wi:TI) (g:TG) (tb:TS):TS:=fun D σ H=>wi σ H fun J H1=>∃ W:Nat→Nat→St→Hp→Prop,(∃ m,W 0 m σ H1)∧∀ i m σ H,W i m σ H →
 (J.stop i H∧D.nx σ H)∨(J.go i H∧∃ N:St→Hp→Prop,(∀ σ' H',N σ' H'→∃ m',m' < m∧W (i + 1) m' σ' H')∧∀ x H',J.yld i H x H'→g x σ H' fun σ2 H2=>tb { D with nx:=N,ct:=N,bk:=D.nx } σ2 H2)
noncomputable def pinsAt (fp:List Addr) (h:Heap):List (Addr × Obj):=fp.filterMap fun b=>(h.get? b).map fun o=>(b,o)
theorem mem_pinsAt {fp:List Addr} {h:Heap} {b:Addr} {o:Obj} (hb:b∈fp) (e:h.get? b=some o):(b,o)∈pinsAt fp h:=List.mem_filterMap.mpr ⟨b,hb,by rw [e]; rfl⟩
theorem of_pinsAt {fp:List Addr} {h:Heap} {p:Addr × Obj} (hp:p∈pinsAt fp h):p.1∈fp∧h.get? p.1=some p.2:=by
 obtain ⟨b,hb,e⟩:=List.mem_filterMap.mp hp
 cases q:h.get? b with
 | none=>rw [q] at e; cases e
 | some o =>
  rw [q] at e
  have e':(b,o)=p:=Option.some.inj e
  subst e'
  exact ⟨hb,q⟩
theorem Inv.pinned {pins:List (Addr × Obj)} {σ:St} {H:Hp} {s:Shared} {fp:List Addr} (I:Inv X pins σ H s) (hf:∀ b∈fp,FpOk X pins H b) (ho:∀ b∈fp,∃ o,s.heap.get? b=some o∧∀ v,o.data≠.cell v):Inv X (pins ++ pinsAt fp s.heap) σ H s :=
 I.pins_of fun p hp=>(List.mem_append.mp hp).elim (fun z=>I.pin p (List.mem_append_right _ z)) fun z=>by
  obtain ⟨hb,e⟩:=of_pinsAt z
  obtain ⟨f0,f1,f2,_⟩:=hf p.1 hb
  obtain ⟨o,e',d⟩:=ho p.1 hb
  rw [e] at e'; cases e'
  exact ⟨e,f0,f1,f2,d⟩
theorem Inv.unpinned {pins pl:List (Addr × Obj)} {σ:St} {H:Hp} {s:Shared} (I:Inv X (pins ++ pl) σ H s):Inv X pins σ H s:=I.pins_of fun p hp=>I.pin p (List.mem_append_right _ (List.mem_append_left _ hp))
theorem ps_for {iter:Expr} {body:List Stmt} {wi:TI} {g:TG} {tb:TS} {pos:Pos} (hp:PassesOwn (model X.prog X.w) X.A X.env X.xe) (hc:X.calm=true) (hi:PI X tg iter wi) (hg:PG X tg g) (hb:PSs X body tb)
  (hs:∀ x,foldedSetIterable iter X.env x=pure x:=by intro _; rfl):PS X (.For tg iter body [] pos) (tFor wi g tb):=by
 intro pins s σ H D I h
 refine wpAny_For (thn (hi pins s σ H _ I h) fun v s1 h1=>thn h1 fun itv s2 h2=>?_) hs
 obtain ⟨it,fp,tn,J,H2,e,I2,T,st2,f2,W,⟨m0,w0⟩,turn⟩:=h2
 subst e
 have stat:∀ {H':Hp},(∀ b∈fp,H' b=none)→∀ b∈fp,FpOk X pins H' b:=fun hn b hb=>⟨hn b hb,(f2 b hb).2⟩
 refine codeAny_forLoop_any (fun n s'=>∃ i σ' H',Inv X pins σ' H' s'∧tn i s'.heap∧(∀ b∈fp,H' b=none)∧W i n σ' H') ?_ m0 ⟨0,σ,H2,I2,st2,fun b hb=>(f2 b hb).1,w0⟩
 rintro n s3 ⟨i,σ3,H3,I3,st3,fr3,w3⟩
 rcases turn i n σ3 H3 w3 with ⟨stop,qn⟩ | ⟨go,N,hN,step⟩
 ·refine wpAny_passesOwn hp (thn (T.done X rfl rfl rfl hc i pins s3 σ3 H3 X.xe I3 (stat fr3) st3 stop) fun r s4 ⟨hr,I4⟩=>?_)
  subst hr
  exact wpAny_execs_nil ⟨σ3,H3,I4,qn⟩
 ·refine wpAny_passesOwn hp (thn (T.item X rfl rfl rfl hc i pins s3 σ3 H3 X.xe I3 (stat fr3) st3 go) fun r s4 ⟨u,hr,h4⟩=>?_)
  subst hr
  refine wpAny_passesOwn hp (thn h4 fun _ s5 zz9=>?_)
  obtain ⟨x,H5,I5,r5,y5,st5,fr5⟩:=zz9
  have I5':=I5.pinned (stat fr5) (T.obj _ _ st5)
  refine wpAny_passesOwn hp (thn (hg _ s5 σ3 H5 x u _ I5' r5 (step x H5 y5)) fun _ s6 zz9=>?_)
  obtain ⟨σ6,H6,I6,q6⟩:=zz9
  refine wpAny_passesOwn hp (thn (hb _ s6 σ6 H6 _ I6 q6) fun f s7 q7=>?_)
  have again:∀ {σ7:St} {H7:Hp},Inv X (pins ++ pinsAt fp s5.heap) σ7 H7 s7→N σ7 H7→∃ m,m < n∧∃ i σ' H',Inv X pins σ' H' s7∧tn i s7.heap∧(∀ b∈fp,H' b=none)∧W i m σ' H':=fun {σ7 H7} I7 n7=>by
   obtain ⟨m',hm,w7⟩:=hN σ7 H7 n7
   refine ⟨m',hm,i + 1,σ7,H7,I7.unpinned,T.keep _ _ _ st5 fun b hb o e=>(I7.pin (b,o) (List.mem_append_right _ (List.mem_append_right _ (mem_pinsAt hb e)))).1,fun b hb=>?_,w7⟩
   obtain ⟨o,e,d⟩:=T.obj _ _ st5 b hb
   exact (I7.pin (b,o) (List.mem_append_right _ (List.mem_append_right _ (mem_pinsAt hb e)))).2.1
  cases f with
  | next=>obtain ⟨σ7,H7,I7,n7⟩:=q7; exact again I7 n7
  | cont=>obtain ⟨σ7,H7,I7,n7⟩:=q7; exact again I7 n7
  | brk=>obtain ⟨σ7,H7,I7,q7⟩:=q7; exact ⟨σ7,H7,I7.unpinned,q7⟩
  | ret v=>obtain ⟨x7,σ7,H7,I7,r7,q7⟩:=q7; exact ⟨x7,σ7,H7,I7.unpinned,r7,q7⟩
end
theorem for_list {K:PySem.W.Frag} {a:Addr} {xs:List V} {g:TG} {tb:TS} {D:Ends} {σ:St} {H:Hp} (Pv:Nat→St→Hp→Prop) (h0:Pv 0 σ H) (hl:∀ i σ H,i≤xs.length→Pv i σ H→SqL K H a xs)
  (hs:∀ i x σ H,xs[i]?=some x→Pv i σ H→g x σ H fun σ2 H2=>tb { D with nx:=Pv (i + 1),ct:=Pv (i + 1),bk:=D.nx } σ2 H2) (hd:∀ σ H,Pv xs.length σ H→D.nx σ H) :
  ∃ W:Nat→Nat→St→Hp→Prop,(∃ m,W 0 m σ H)∧∀ i m σ H,W i m σ H →
   ((Itl K a).stop i H∧D.nx σ H)∨((Itl K a).go i H∧∃ N:St→Hp→Prop,(∀ σ' H',N σ' H'→∃ m',m' < m∧W (i + 1) m' σ' H')∧∀ x H',(Itl K a).yld i H x H'→g x σ H' fun σ2 H2=>tb { D with nx:=N,ct:=N,bk:=D.nx } σ2 H2):=by
 refine ⟨fun i m σ H=>m=xs.length - i∧i≤xs.length∧Pv i σ H,⟨xs.length,by simp,Nat.zero_le _,h0⟩,?_⟩
 rintro i m σ H ⟨rfl,hi,p⟩
 have q:=hl i σ H hi p
 by_cases hlt:i < xs.length
 ·refine .inr ⟨⟨xs,xs[i],q,by simp [hlt]⟩,Pv (i + 1),fun σ' H' p'=>⟨xs.length - (i + 1),by omega,rfl,hlt,p'⟩,fun x H' y=>?_⟩
  obtain ⟨e,y⟩:=y
  subst e
  exact hs i x σ _ (y xs q) p
 ·have e:i=xs.length:=by omega
  subst e
  exact .inl ⟨⟨xs,q,Nat.le_refl _⟩,hd σ H p⟩
theorem for_range {lo:Int} {n:Nat} {g:TG} {tb:TS} {D:Ends} {σ:St} {H:Hp} (Pv:Nat→St→Hp→Prop) (h0:Pv 0 σ H)
  (hs:∀ i σ H,i < n→Pv i σ H→g (.int (lo + i)) σ H fun σ2 H2=>tb { D with nx:=Pv (i + 1),ct:=Pv (i + 1),bk:=D.nx } σ2 H2) (hd:∀ σ H,Pv n σ H→D.nx σ H) :
  ∃ W:Nat→Nat→St→Hp→Prop,(∃ m,W 0 m σ H)∧∀ i m σ H,W i m σ H →
   ((Itr lo n).stop i H∧D.nx σ H)∨((Itr lo n).go i H∧∃ N:St→Hp→Prop,(∀ σ' H',N σ' H'→∃ m',m' < m∧W (i + 1) m' σ' H')∧∀ x H',(Itr lo n).yld i H x H'→g x σ H' fun σ2 H2=>tb { D with nx:=N,ct:=N,bk:=D.nx } σ2 H2):=by
 refine ⟨fun i m σ H=>m=n - i∧i≤n∧Pv i σ H,⟨n,by simp,Nat.zero_le _,h0⟩,?_⟩
 rintro i m σ H ⟨rfl,hi,p⟩
 by_cases hlt:i < n
 ·refine .inr ⟨hlt,Pv (i + 1),fun σ' H' p'=>⟨n - (i + 1),by omega,rfl,hlt,p'⟩,fun x H' y=>?_⟩
  obtain ⟨e,y⟩:=y
  subst e y
  exact hs i σ _ hlt p
 ·have e:i=n:=by omega
  subst e
  exact .inl ⟨Nat.le_refl _,hd σ H p⟩
end L2
namespace L2
open PySem PySem.Spec PyProof.Rows
noncomputable abbrev R2:=V→V→Hp→VK→Prop
noncomputable def OpR (X:Cx) (f:Value→Value→Sem Value) (r:R2):Prop :=
 ∀ (pins:List (Addr × Obj)) (s:Shared) (σ:St) (H:Hp) (x y:V) (v u:Value) (Q:VK),Inv X pins σ H s→RelV x v→RelV y u→r x y H Q →
  wpAny (model X.prog X.w) X.A (f v u) (EP X pins σ Q) X.xe s
noncomputable def UnR (X:Cx) (f:Value→Sem Value) (r:V→Hp→VK→Prop):Prop :=
 ∀ (pins:List (Addr × Obj)) (s:Shared) (σ:St) (H:Hp) (x:V) (v:Value) (Q:VK),Inv X pins σ H s→RelV x v→r x H Q →
  wpAny (model X.prog X.w) X.A (f v) (EP X pins σ Q) X.xe s
noncomputable def CallR (X:Cx) (f:Value) (r:List V→Hp→VK→Prop):Prop :=
 ∀ (pins:List (Addr × Obj)) (s:Shared) (σ:St) (H:Hp) (xs:List V) (us:List Value) (Q:VK),Inv X pins σ H s→Vals xs us→r xs H Q →
  wpAny (model X.prog X.w) X.A (call f us) (EP X pins σ Q) X.xe s
noncomputable def TruR (X:Cx) (r:V→Hp→(Bool→Hp→Prop)→Prop):Prop :=
 ∀ (pins:List (Addr × Obj)) (s:Shared) (σ:St) (H:Hp) (x:V) (v:Value) (Q:Bool→Hp→Prop),Inv X pins σ H s→RelV x v→r x H Q →
  wpAny (model X.prog X.w) X.A (truthy v) (TP X pins σ Q) X.xe s
noncomputable def tOp (r:R2) (ta tb:TE):TE:=fun σ H Q=>ta σ H fun x H1=>tb σ H1 fun y H2=>r x y H2 Q
noncomputable def tUn (r:V→Hp→VK→Prop) (ta:TE):TE:=fun σ H Q=>ta σ H fun x H1=>r x H1 Q
noncomputable def rI (C:Int→Int→Prop) (g:Int→Int→V):R2:=fun x y H Q=>∃ i j,x=.int i∧y=.int j∧C i j∧Q (g i j) H
noncomputable def rI0 (g:Int→Int→V):R2:=fun x y H Q=>∃ i j,x=.int i∧y=.int j∧Q (g i j) H
noncomputable def rU (g:Int→V):V→Hp→VK→Prop:=fun x H Q=>∃ i,x=.int i∧Q (g i) H
section
variable {X:Cx} {a b c:Expr} {ta tb tc:TE} {pos:Pos}
theorem binT (ha:PE X a ta) (hb:PE X b tb) {pins:List (Addr × Obj)} {s:Shared} {σ:St} {H:Hp} {R:V→V→Hp→Prop} (I:Inv X pins σ H s)
  (h:ta σ H fun x H1=>tb σ H1 fun y H2=>R x y H2) {Q:Value→Shared→Prop} {f:Value→Value→Sem Value}
  (hf:∀ v u s2 x y H2,Inv X pins σ H2 s2→RelV x v→RelV y u→R x y H2→wpAny (model X.prog X.w) X.A (f v u) Q X.xe s2) :
  wpAny (model X.prog X.w) X.A (eval a X.env) (fun v s₁=>wpAny (model X.prog X.w) X.A (eval b X.env) (fun u s₂=>wpAny (model X.prog X.w) X.A (f v u) Q X.xe s₂) X.xe s₁) X.xe s:=by
 refine thn (ha pins s σ H _ I h) fun v s1 zz9=>?_
 obtain ⟨x,H1,I1,r1,q1⟩:=zz9
 refine thn (hb pins s1 σ H1 _ I1 q1) fun u s2 zz9=>?_
 obtain ⟨y,H2,I2,r2,q2⟩:=zz9
 exact hf v u s2 x y H2 I2 r1 r2 q2
theorem pe_op {op:Operator} {r:R2} (ho:OpR X (binaryOp op) r) (ha:PE X a ta) (hb:PE X b tb):PE X (.BinOp a op b pos) (tOp r ta tb):=by
 intro pins s σ H Q I h
 exact wpAny_BinOp (binT ha hb I h fun v u s2 x y H2 I2 rx ry q=>ho pins s2 σ H2 x y v u Q I2 rx ry q)
theorem pe_un {op:UnaryOp} {r:V→Hp→VK→Prop} (ho:UnR X (unaryOp op) r) (ha:PE X a ta):PE X (.UnaryOp op a pos) (tUn r ta):=by
 intro pins s σ H Q I h
 refine UnaryOp_ (thn (ha pins s σ H _ I h) fun v s1 zz7=>?_)
 obtain ⟨x,H1,I1,r1,q1⟩:=zz7
 exact ho pins s1 σ H1 x v Q I1 r1 q1
theorem opI {f:Value→Value→Sem Value} {C:Int→Int→Prop} {g:Int→Int→Int}
  (rule:∀ (i j:Int) (t u:Tok) (s:Shared) (Q:Value→Shared→Prop) (E:Value→Shared→Prop),C i j→Q (.int (g i j) s.toks) { s with toks:=s.toks + 1 }→wpAny (model X.prog X.w) X.A (f (.int i t) (.int j u)) Q E s) :
  OpR X f (rI C fun i j=>.int (g i j)):=by
 intro pins s σ H x y v u Q I rx ry h
 obtain ⟨i,j,rfl,rfl,hc,q⟩:=h
 obtain ⟨t,rfl⟩:=rx
 obtain ⟨t',rfl⟩:=ry
 exact rule i j t t' s _ _ hc ⟨.int (g i j),H,I.tok _,⟨_,rfl⟩,q⟩
theorem opI0 {f:Value→Value→Sem Value} {g:Int→Int→Int}
  (rule:∀ (i j:Int) (t u:Tok) (s:Shared) (Q:Value→Shared→Prop) (E:Value→Shared→Prop),Q (.int (g i j) s.toks) { s with toks:=s.toks + 1 }→wpAny (model X.prog X.w) X.A (f (.int i t) (.int j u)) Q E s) :
  OpR X f (rI0 fun i j=>.int (g i j)):=by
 intro pins s σ H x y v u Q I rx ry h
 obtain ⟨i,j,rfl,rfl,q⟩:=h
 obtain ⟨t,rfl⟩:=rx
 obtain ⟨t',rfl⟩:=ry
 exact rule i j t t' s _ _ ⟨.int (g i j),H,I.tok _,⟨_,rfl⟩,q⟩
theorem opB0 {f:Value→Value→Sem Value} {g:Int→Int→Bool}
  (rule:∀ (i j:Int) (t u:Tok) (s:Shared) (Q:Value→Shared→Prop) (E:Value→Shared→Prop),Q (.bool (g i j)) s→wpAny (model X.prog X.w) X.A (f (.int i t) (.int j u)) Q E s) :
  OpR X f (rI0 fun i j=>.bl (g i j)):=by
 intro pins s σ H x y v u Q I rx ry h
 obtain ⟨i,j,rfl,rfl,q⟩:=h
 obtain ⟨t,rfl⟩:=rx
 obtain ⟨t',rfl⟩:=ry
 exact rule i j t t' s _ _ ⟨.bl (g i j),H,I,rfl,q⟩
noncomputable def CDiv (i j:Int):Prop:=0 < j∧j < 1073741824
noncomputable def CPow (i j:Int):Prop:=0≤j∧j≤1000000∧i.natAbs < 2 ^ 64
noncomputable def CMul (i j:Int):Prop:=(-(2 ^ 64) < i∧i < 2 ^ 64)∨(-(2 ^ 64) < j∧j < 2 ^ 64)
theorem CMul.ok {i j:Int} (h:CMul i j):IntMulOk i j:=by
 rcases h with ⟨h1,h2⟩ | ⟨h1,h2⟩
 ·exact .of_left (intBits_le_64 h1 h2)
 ·exact .of_right (intBits_le_64 h1 h2)
theorem op_add:OpR X (binaryOp .Add) (rI0 fun i j=>.int (i + j)):=opI0 fun _ _ _ _ _ _ _ q=>add_int q
theorem op_sub:OpR X (binaryOp .Sub) (rI0 fun i j=>.int (i - j)):=opI0 fun _ _ _ _ _ _ _ q=>sub_int q
theorem op_mul:OpR X (binaryOp .Mult) (rI CMul fun i j=>.int (i * j)):=opI fun _ _ _ _ _ _ _ hc q=>mul_int q hc.ok
theorem op_fdiv:OpR X (binaryOp .FloorDiv) (rI CDiv fun i j=>.int (i / j)):=opI fun i j _ _ _ _ _ hc q=>by
 have h1:(0:Int) < j:=hc.1
 have h2:j < 1073741824:=hc.2
 exact floordiv_int (by omega) (by rw [Int.fdiv_eq_ediv_of_nonneg i (by omega)]; exact q) (.inl (PyProof.noPylong_small (by omega)))
theorem op_mod:OpR X (binaryOp .Mod) (rI (fun _ j=>0 < j) fun i j=>.int (i % j)):=opI fun i j _ _ _ _ _ hc q=>by
 have h1:(0:Int) < j:=hc
 exact mod_int' (by omega) (by rw [Int.fmod_eq_emod_of_nonneg i (by omega)]; exact q)
theorem op_pow:OpR X (binaryOp .Pow) (rI CPow fun i j=>.int (i ^ j.toNat)):=opI fun _ _ _ _ _ _ _ hc q=>pow_int_small hc.1 hc.2.1 hc.2.2 q
theorem unI {f:Value→Sem Value} {g:Int→Int}
  (rule:∀ (i:Int) (t:Tok) (s:Shared) (Q:Value→Shared→Prop) (E:Value→Shared→Prop),Q (.int (g i) s.toks) { s with toks:=s.toks + 1 }→wpAny (model X.prog X.w) X.A (f (.int i t)) Q E s) :
  UnR X f (rU fun i=>.int (g i)):=by
 intro pins s σ H x v Q I rx h
 obtain ⟨i,rfl,q⟩:=h
 obtain ⟨t,rfl⟩:=rx
 exact rule i t s _ _ ⟨.int (g i),H,I.tok _,⟨_,rfl⟩,q⟩
theorem un_neg:UnR X (unaryOp .USub) (rU fun i=>.int (-i)):=unI fun _ _ _ _ _ q=>neg_int q
end
noncomputable def scal:V→V→Bool
 | .non,.non=>true | .non,.int _=>true | .int _,.non=>true | .non,.bl _=>true | .bl _,.non=>true | .non,.str _=>true | .str _,.non=>true
 | .int _,.int _=>true | .bl _,.bl _=>true | .str _,.str _=>true | .byt _,.byt _=>true
 | .int _,.str _=>true | .str _,.int _=>true | .bl _,.str _=>true | .str _,.bl _=>true
 | _,_=>false
noncomputable def rEq:R2:=fun x y H Q=>scal x y=true∧Q (.bl (decide (x=y))) H
noncomputable def rNe:R2:=fun x y H Q=>scal x y=true∧Q (.bl (!decide (x=y))) H
theorem dec_int {i j:Int}:decide (V.int i=V.int j)=(i == j):=by
 rw [Bool.eq_iff_iff]
 simp
theorem dec_bl {i j:Bool}:decide (V.bl i=V.bl j)=(i == j):=by
 rw [Bool.eq_iff_iff]
 simp
theorem dec_str {i j:Str}:decide (V.str i=V.str j)=(i == j):=by
 rw [Bool.eq_iff_iff]
 simp
theorem dec_byt {i j:Array UInt8}:decide (V.byt i=V.byt j)=(i.toList == j.toList):=by
 rw [Bool.eq_iff_iff]
 cases i
 cases j
 simp
section
variable {X:Cx} {a b c:Expr} {ta tb tc:TE} {pos:Pos}
theorem fin_bl {pins:List (Addr × Obj)} {σ:St} {H:Hp} {s:Shared} {Q:VK} {k k':Bool} (I:Inv X pins σ H s) (q:Q (.bl k) H) (e:k=k'):EP X pins σ Q (.bool k') s:=by
 subst e
 exact ⟨.bl k,H,I,rfl,q⟩
theorem op_eq:OpR X (compareOp .Eq) rEq:=by
 intro pins s σ H x y v u Q I rx ry h
 obtain ⟨hs,q⟩:=h
 cases x with
 | non =>
  cases rx
  cases y with
  | non=>cases ry; exact PySem.EqNone.eq_none_none (fin_bl I q (by simp))
  | bl j=>cases ry; exact PySem.EqNone.eq_none_bool (fin_bl I q (by simp))
  | int j=>obtain ⟨t',rfl⟩:=ry; exact PySem.EqNone.eq_none_int (fin_bl I q (by simp))
  | str j=>obtain ⟨t',rfl⟩:=ry; exact PySem.EqNone.eq_none_str (fin_bl I q (by simp))
  | _=>exact absurd (show false=true from hs) Bool.false_ne_true
 | bl i =>
  cases rx
  cases y with
  | non=>cases ry; exact PySem.EqNone.eq_bool_none (fin_bl I q (by simp))
  | bl j=>cases ry; exact eq_bool (fin_bl I q dec_bl)
  | str j=>obtain ⟨t',rfl⟩:=ry; exact PySem.EqMixed.eq_bool_str (fin_bl I q (by simp))
  | _=>exact absurd (show false=true from hs) Bool.false_ne_true
 | int i =>
  obtain ⟨t,rfl⟩:=rx
  cases y with
  | non=>cases ry; exact PySem.EqNone.eq_int_none (fin_bl I q (by simp))
  | int j=>obtain ⟨t',rfl⟩:=ry; exact eq_int (fin_bl I q dec_int)
  | str j=>obtain ⟨t',rfl⟩:=ry; exact PySem.EqMixed.eq_int_str (fin_bl I q (by simp))
  | _=>exact absurd (show false=true from hs) Bool.false_ne_true
 | str i =>
  obtain ⟨t,rfl⟩:=rx
  cases y with
  | non=>cases ry; exact PySem.EqNone.eq_str_none (fin_bl I q (by simp))
  | bl j=>cases ry; exact PySem.EqMixed.eq_str_bool (fin_bl I q (by simp))
  | int j=>obtain ⟨t',rfl⟩:=ry; exact PySem.EqMixed.eq_str_int (fin_bl I q (by simp))
  | str j=>obtain ⟨t',rfl⟩:=ry; exact eq_str (fin_bl I q dec_str)
  | _=>exact absurd (show false=true from hs) Bool.false_ne_true
 | byt i =>
  obtain ⟨t,rfl⟩:=rx
  cases y with
  | byt j=>obtain ⟨t',rfl⟩:=ry; exact PySem.W.eq_bytes (fin_bl I q dec_byt)
  | _=>exact absurd (show false=true from hs) Bool.false_ne_true
 | _=>cases y <;> exact absurd (show false=true from hs) Bool.false_ne_true
theorem op_ne:OpR X (compareOp .NotEq) rNe:=by
 intro pins s σ H x y v u Q I rx ry h
 obtain ⟨hs,q⟩:=h
 cases x with
 | non =>
  cases rx
  cases y with
  | non=>cases ry; exact PySem.EqNone.ne_none_none (fin_bl I q (by simp))
  | bl j=>cases ry; exact PySem.EqNone.ne_none_bool (fin_bl I q (by simp))
  | int j=>obtain ⟨t',rfl⟩:=ry; exact PySem.EqNone.ne_none_int (fin_bl I q (by simp))
  | str j=>obtain ⟨t',rfl⟩:=ry; exact PySem.EqNone.ne_none_str (fin_bl I q (by simp))
  | _=>exact absurd (show false=true from hs) Bool.false_ne_true
 | bl i =>
  cases rx
  cases y with
  | non=>cases ry; exact PySem.EqNone.ne_bool_none (fin_bl I q (by simp))
  | bl j=>cases ry; exact ne_bool (fin_bl I q (congrArg not dec_bl))
  | str j=>obtain ⟨t',rfl⟩:=ry; exact PySem.EqMixed.ne_bool_str (fin_bl I q (by simp))
  | _=>exact absurd (show false=true from hs) Bool.false_ne_true
 | int i =>
  obtain ⟨t,rfl⟩:=rx
  cases y with
  | non=>cases ry; exact PySem.EqNone.ne_int_none (fin_bl I q (by simp))
  | int j=>obtain ⟨t',rfl⟩:=ry; exact ne_int (fin_bl I q (congrArg not dec_int))
  | str j=>obtain ⟨t',rfl⟩:=ry; exact PySem.EqMixed.ne_int_str (fin_bl I q (by simp))
  | _=>exact absurd (show false=true from hs) Bool.false_ne_true
 | str i =>
  obtain ⟨t,rfl⟩:=rx
  cases y with
  | non=>cases ry; exact PySem.EqNone.ne_str_none (fin_bl I q (by simp))
  | bl j=>cases ry; exact PySem.EqMixed.ne_str_bool (fin_bl I q (by simp))
  | int j=>obtain ⟨t',rfl⟩:=ry; exact PySem.EqMixed.ne_str_int (fin_bl I q (by simp))
  | str j=>obtain ⟨t',rfl⟩:=ry; exact ne_str (fin_bl I q (congrArg not dec_str))
  | _=>exact absurd (show false=true from hs) Bool.false_ne_true
 | byt i =>
  obtain ⟨t,rfl⟩:=rx
  cases y with
  | byt j=>obtain ⟨t',rfl⟩:=ry; exact PySem.W.ne_bytes (fin_bl I q (congrArg not dec_byt))
  | _=>exact absurd (show false=true from hs) Bool.false_ne_true
 | _=>cases y <;> exact absurd (show false=true from hs) Bool.false_ne_true
theorem op_lt:OpR X (compareOp .Lt) (rI0 fun i j=>.bl (decide (i < j))):=opB0 fun _ _ _ _ _ _ _ q=>lt_int q
theorem op_le:OpR X (compareOp .LtE) (rI0 fun i j=>.bl (decide (i≤j))):=opB0 fun _ _ _ _ _ _ _ q=>le_int q
theorem op_gt:OpR X (compareOp .Gt) (rI0 fun i j=>.bl (decide (j < i))):=opB0 fun _ _ _ _ _ _ _ q=>gt_int q
theorem op_ge:OpR X (compareOp .GtE) (rI0 fun i j=>.bl (decide (j≤i))):=opB0 fun _ _ _ _ _ _ _ q=>ge_int q
theorem op_notN:OpR X (compareOp .IsNot) (fun x y H Q=>y=.non∧Q (.bl (!decide (x=.non))) H):=by
 intro pins s σ H x y v u Q I rx ry h
 obtain ⟨rfl,q⟩:=h
 cases ry
 refine isnot_none_gen (fin_bl I q ?_)
 cases x <;> first
  | (cases rx; rfl)
  | (obtain ⟨t,rfl⟩:=rx; rfl)
theorem nomark (b:Expr) {op:CmpOp} (h:op≠.In:=by decide) (h2:op≠.NotIn:=by decide):behindInMarks op b=false:=by
 have e1:(op == CmpOp.In)=false:=by cases op <;> first | rfl | exact absurd rfl h
 have e2:(op == CmpOp.NotIn)=false:=by cases op <;> first | rfl | exact absurd rfl h2
 cases b <;> simp [behindInMarks,e1,e2]
theorem pe_cmpR {op:CmpOp} {r:R2} (ho:OpR X (compareOp op) r) (ha:PE X a ta) (hb:PE X b tb) (hm:behindInMarks op b=false):PE X (.Compare a [op] [b] pos) (tOp r ta tb):=by
 intro pins s σ H Q I h
 exact wpAny_Compare1 (binT ha hb I h fun v u s2 x y H2 I2 rx ry q=>ho pins s2 σ H2 x y v u Q I2 rx ry q) hm
noncomputable def tTest (t:TE):TT:=fun σ H Q=>t σ H fun x H'=>∃ k,x=.bl k∧Q k H'
theorem pt_cmpR {op:CmpOp} {r:R2} (ho:OpR X (compareOp op) r) (ha:PE X a ta) (hb:PE X b tb) (hm:behindInMarks op b=false):PT X (.Compare a [op] [b] pos) (tTest (tOp r ta tb)):=by
 intro pins s σ H Q I h
 refine wpAny_isTrue_Compare1 (thn (ha pins s σ H _ I h) fun v s1 ⟨x,H1,I1,r1,q1⟩=>thn (hb pins s1 σ H1 _ I1 q1) fun u s2 ⟨y,H2,I2,r2,q2⟩ =>
  thn (ho pins s2 σ H2 x y v u _ I2 r1 r2 q2) fun c s3 ⟨z,H3,I3,r3,k,e,q3⟩=>?_) hm
 subst e
 cases r3
 exact wpAny_truthy_bool ⟨H3,I3,q3⟩
noncomputable def tChain (r r':R2) (ta tb tc:TE):TE:=fun σ H Q=>ta σ H fun x H1=>tb σ H1 fun y H2=>r x y H2 fun z H3=>∃ k,z=.bl k ∧
 (if k=true then tc σ H3 fun w' H4=>r' y w' H4 Q else Q (.bl false) H3)
theorem pe_chain {op op':CmpOp} {r r':R2} (ho:OpR X (compareOp op) r) (ho':OpR X (compareOp op') r') (ha:PE X a ta) (hb:PE X b tb) (hc:PE X c tc)
  (hm:lastMarks [op,op'] [b,c]=false:=by with_unfolding_all rfl):PE X (.Compare a [op,op'] [b,c] pos) (tChain r r' ta tb tc):=by
 intro pins s σ H Q I h
 refine Compare_chain (thn (ha pins s σ H _ I h) fun v s1 ⟨x,H1,I1,r1,q1⟩=>chain_link (thn (hb pins s1 σ H1 _ I1 q1) fun u s2 ⟨y,H2,I2,r2,q2⟩ =>
  thn (ho pins s2 σ H2 x y v u _ I2 r1 r2 q2) fun d s3 ⟨z,H3,I3,r3,k,e,q3⟩=>?_)) hm
 subst e
 cases r3
 refine wpAny_truthy_bool ?_
 cases k with
 | false=>exact ite_ff ⟨.bl false,H3,I3,rfl,q3⟩
 | true=>exact ite_tt (chain_last (thn (hc pins s3 σ H3 _ I3 q3) fun w' s4 ⟨z',H4,I4,r4,q4⟩=>ho' pins s4 σ H4 y z' u w' Q I4 r2 r4 q4))
noncomputable def TruV (K:PySem.W.Frag) (x:V) (H:Hp) (k:Bool):Prop :=
 match x with
 | .non=>k=false
 | .bl b=>k=b
 | .int i=>k=(i != 0)
 | .str y=>y.length≤sizeLine∧k=((y.length:Int) != 0)
 | .byt y=>y.size≤sizeLine∧k=((y.size:Int) != 0)
 | .ref p=>(∃ xs,SqL K H p xs∧k=!xs.isEmpty)∨(∃ xs,SqT K H p xs∧k=!xs.isEmpty)∨∃ kvs,H p=some (.dK kvs)∧k=!kvs.isEmpty
 | _=>False
theorem isEmpty_kv {κ:Type} {kvs:List (κ × V)} {vs:List (κ × Value)} (r:KV kvs vs):(!vs.isEmpty)=!kvs.isEmpty:=by
 cases r <;> rfl
theorem isEmpty_of {xs:List V} {its:List Value} (r:Vals xs its):(!its.toArray.isEmpty)=!xs.isEmpty:=by
 cases r <;> simp
theorem line63:(sizeLine:Nat) < 2 ^ 63:=by rw [sizeLine_eq]; decide
theorem tru_ok:TruR X (fun x H Q=>∃ k,TruV X.K x H k∧Q k H):=by
 intro pins s σ H x v Q I rx h
 obtain ⟨k,e,q⟩:=h
 have hl:=line63
 have hs:sizeLine=16777216:=sizeLine_eq
 cases x with
 | non =>
  cases rx
  have e':k=false:=e
  subst e'
  exact truthy_none ⟨H,I,q⟩
 | bl b =>
  cases rx
  have e':k=b:=e
  subst e'
  exact wpAny_truthy_bool ⟨H,I,q⟩
 | int i =>
  obtain ⟨t,rfl⟩:=rx
  have e':k=(i != 0):=e
  subst e'
  exact PySem.P.truthy_int ⟨H,I,q⟩
 | str y =>
  obtain ⟨t,rfl⟩:=rx
  obtain ⟨hy,e'⟩:y.length≤sizeLine∧k=((y.length:Int) != 0):=e
  subst e'
  exact PySem.P.truthy_str (by omega) ⟨H,I.tok _,q⟩
 | byt y =>
  obtain ⟨t,rfl⟩:=rx
  obtain ⟨hy,e'⟩:y.size≤sizeLine∧k=((y.size:Int) != 0):=e
  subst e'
  exact PySem.W.truthy_bytes (by omega) ⟨H,I.tok _,q⟩
 | ref p =>
  cases rx
  have e':(∃ xs,SqL X.K H p xs∧k=!xs.isEmpty)∨(∃ xs,SqT X.K H p xs∧k=!xs.isEmpty)∨∃ kvs,H p=some (.dK kvs)∧k=!kvs.isEmpty:=e
  rcases e' with ⟨xs,hx,e'⟩ | ⟨xs,hx,e'⟩ | ⟨kvs,hx,e'⟩
  ·subst e'
   obtain ⟨its,r,pl,hz⟩:=I.list hx
   have hlen:=r.length
   exact wpAny_truthy_list pl.isList (by simp only [List.size_toArray]; omega) ⟨H,I.tok _,by rw [isEmpty_of r]; exact q⟩
  ·subst e'
   obtain ⟨its,r,pl,hz⟩:=I.tuple hx
   have hlen:=r.length
   exact truthy_tuple pl (by simp only [List.size_toArray]; omega) ⟨H,I.tok _,by rw [isEmpty_of r]; exact q⟩
  ·subst e'
   obtain ⟨hz,hS,vs,r,m⟩:kvs.length≤sizeLine∧(p == sysModules)=false∧∃ vs,KV kvs vs∧s.heap.DictOf (mixKind X.prog X.w) p vs:=I.hok p _ hx
   have hlen:kvs.length=vs.length:=Paired.length r
   exact wpAny_truthy_dict hS m (by omega) ⟨H,I.tok _,by rw [isEmpty_kv r]; exact q⟩
 | _=>exact (show False from e).elim
theorem pt_truth (ha:PE X a ta) (he:∀ whole,isTrue a X.env whole=(do let v ← whole; standAt a.pos; holding [v] (truthy v))) :
  PT X a (fun σ H Q=>ta σ H fun x H'=>∃ k,TruV X.K x H' k∧Q k H'):=by
 intro pins s σ H Q I h
 refine isTrue_plain (thn (ha pins s σ H _ I h) fun v s1 zz8=>?_) (he _)
 obtain ⟨x,H1,I1,r1,q1⟩:=zz8
 exact tru_ok pins s1 σ H1 x v Q I1 r1 q1
theorem vals1 {x:V} {us:List Value} (r:Vals [x] us):∃ u,us=[u]∧RelV x u:=by
 cases r with
 | cons r1 r2=>cases r2; exact ⟨_,rfl,r1⟩
theorem vals2 {x y:V} {us:List Value} (r:Vals [x,y] us):∃ u w',us=[u,w']∧RelV x u∧RelV y w':=by
 cases r with
 | cons r1 r2 =>
  cases r2 with
  | cons r3 r4=>cases r4; exact ⟨_,_,rfl,r1,r3⟩
theorem call_max2 (hc:X.calm=true):CallR X (.builtin "max") (fun xs H Q=>∃ i j,xs=[.int i,.int j]∧Q (.int (if j > i then j else i)) H):=by
 intro pins s σ H xs us Q I r h
 obtain ⟨i,j,rfl,q⟩:=h
 obtain ⟨u,w',rfl,⟨t,rfl⟩,⟨t',rfl⟩⟩:=vals2 r
 refine max_two_ints (I.ok.hd hc) fun h' tk k=>⟨_,H,I.kept k,?_,q⟩
 by_cases hj:j > i
 ·rw [if_pos hj,if_pos hj]; exact ⟨_,rfl⟩
 ·rw [if_neg hj,if_neg hj]; exact ⟨_,rfl⟩
theorem call_min2 (hc:X.calm=true):CallR X (.builtin "min") (fun xs H Q=>∃ i j,xs=[.int i,.int j]∧Q (.int (if j < i then j else i)) H):=by
 intro pins s σ H xs us Q I r h
 obtain ⟨i,j,rfl,q⟩:=h
 obtain ⟨u,w',rfl,⟨t,rfl⟩,⟨t',rfl⟩⟩:=vals2 r
 refine min_two_ints (I.ok.hd hc) fun h' tk k=>⟨_,H,I.kept k,?_,q⟩
 by_cases hj:j < i
 ·rw [if_pos hj,if_pos hj]; exact ⟨_,rfl⟩
 ·rw [if_neg hj,if_neg hj]; exact ⟨_,rfl⟩
end
end L2
namespace L2
open PySem PySem.Spec PyProof.Rows
structure ObjM (h:Heap) (x dx C:Addr) (mA:Str→Option Value):Prop where
 obj:h.get? x=some (PySem.W.instObj C dx)
 ns:h.Ns1 dx mA
 ne:dx≠x
theorem lookIn_ns {h:Heap} {dx:Addr} {mA:Str→Option Value} (n:h.Ns1 dx mA):∃ od,h.get? dx=some od∧∀ name,PySem.W.lookIn name od=some (mA name):=by
 obtain ⟨o,es,ep,ho,hd,hk,_,hm⟩:=n
 refine ⟨o,ho,fun name=>?_⟩
 have e:=hm name
 unfold nsFind findBy at e
 rw [← Array.find?_toList] at e
 unfold PySem.W.lookIn
 rw [hd]
 dsimp only
 split
 ·rename_i y q
  rw [q] at e
  exact congrArg some e
 ·rename_i q
  rw [q] at e
  have a:es.toList.any (·.refKey)=false:=by
   rw [List.any_eq_false]
   intro y hy
   obtain ⟨z,t,hkey⟩:=hk y (Array.mem_toList_iff.mp hy)
   simp [DictEntry.refKey,hkey]
  have a':¬ es.toList.any (·.refKey)=true:=by rw [a]; exact Bool.false_ne_true
  rw [if_neg a']
  exact congrArg some e
theorem ObjM.look {h:Heap} {x dx C:Addr} {mA:Str→Option Value} (I:ObjM h x dx C mA):∃ od,PySem.W.InstAt h x (PySem.W.instObj C dx) C (some od)∧∀ name,PySem.W.lookIn name od=some (mA name) :=
 let ⟨od,ho,hl⟩:=lookIn_ns I.ns
 ⟨od,⟨I.obj,rfl,rfl,ho⟩,hl⟩
section
variable {prog:Program} {w:World} {A:Around} {E:Value→Shared→Prop} {s:Shared} {K:PySem.W.Frag} {x dx C f:Addr} {mA:Str→Option Value} {name:Str} {v:Value}
theorem get_map {expr:Bool} {Q:Value→Shared→Prop} (X:K.In s.heap) (I:ObjM s.heap x dx C mA) (hg:PySem.W.plainGet K C name=true) (hh:PySem.W.hasDictIn K C=true)
  (ha:PySem.W.findIn K (.ref C) name=some none) (hv:mA name=some v) (hv':PySem.W.handedIn v=true) (h:Q v { s with toks:=s.toks + 1 }) :
  wpAny (model prog w) A (getAttr (.ref x) name expr) Q E s:=by
 obtain ⟨od,J,hl⟩:=I.look
 exact PySem.W.get_value X J (PySem.W.plainGet_of hg).1 (PySem.W.findObj_own hh ha rfl (by rw [hl,hv])) hv' h
theorem get_meth {pl:Sem Bool} {Q:Value × List Value→Shared→Prop} (X:K.In s.heap) (I:ObjM s.heap x dx C mA) (hg:PySem.W.plainGet K C name=true)
  (hf:PySem.W.findIn K (.ref C) name=some (some (.ref f))) (ht:PySem.W.isFn K (.ref f)=true) (hv:mA name=none) (h:Q (.ref f,[.ref x]) s) :
  wpAny (model prog w) A (getMethod (.ref x) name pl) Q E s:=by
 obtain ⟨od,J,hl⟩:=I.look
 exact PySem.W.method_fn X J (PySem.W.plainGet_of hg).1 (PySem.W.plainGet_of hg).2 hf (beq_iff_eq.mp ht) (by show (PySem.W.lookIn name od).map (·.isSome)=some false; rw [hl,hv]; rfl) h
theorem set_map {ns:List Str} {Q:Unit→Shared→Prop} (X:K.In s.heap) (I:ObjM s.heap x dx C mA)
  (hs:PySem.W.findIn K (.ref C) "__setattr__"=some (some (.builtin "object.__setattr__"))) (hp:PySem.W.plainOver K C=true) (ht:PySem.W.takerIn K C name=some none) (hh:PySem.W.hasDictIn K C=true)
  (hw:PySem.Within mA ns) (hsz:ns.length≤sizeLine)
  (h:∀ h',ObjM h' x dx C (fun y=>if y=name then some v else mA y)→Heap.SameBut dx s.heap h'→Q () { s with heap:=h',toks:=s.toks + 2 }) :
  wpAny (model prog w) A (setAttr (.ref x) name v) Q E s:=by
 obtain ⟨od,J,hl⟩:=I.look
 refine PySem.W.set_plain X J hs (PySem.W.osa_open (s:={ s with toks:=s.toks + 1 }) (r:=none) X J hp ht fun b=>?_)
 obtain ⟨cd,hc,hd'⟩:=PySem.W.any_some hh
 have hx:s.heap.get? x=some ⟨.ref C,some dx,.plain,#[]⟩:=I.obj
 refine wpAny_bind (wpAny_pure (wpAny_bind (wpAny_bind (wpAny_loadPart hx (wpAny_bind (PySem.W.Looks.here (s:={ s with toks:=s.toks + 1 }) (PySem.W.looks_clsIn X hc) ?_))))))
 rw [hd']
 refine wpAny_pure (a:=some dx) (wpAny_bind (wpAny_pure (wpAny_bind ?_)))
 refine wpAny_nsSet1 (s:={ s with toks:=s.toks + 1 }) I.ns fun h' hn2 hs2=>?_
 obtain ⟨oD,esD,epD,hoD,hdD,hcD⟩:=hn2.count (PySem.Within.cons name v hw)
 refine wpAny_bind (wpAny_lookBehind hoD (by rw [hdD]; exact pastItsLine_dict (Nat.le_trans hcD (by rw [List.length_cons]; omega))) ?_)
 exact wpAny_pure (h _ ⟨(hs2.2 _ (Ne.symm I.ne)).trans I.obj,hn2,I.ne⟩ hs2)
theorem make_map {R:Result→Shared→Prop} {vs:List Value} {kw:List (Str × Value)} (X:K.In s.heap) (hm:PySem.W.makesIn K C=true)
  (hi:PySem.W.findIn K (.ref C) "__init__"=some (some (.ref f))) (hf:PySem.W.typeIn K (.ref f)=some (.type "function"))
  (h:codeAny (model prog w) (A.under (.builtin "type.__call__" ⟨.ref C :: vs,kw⟩)) (.call (.ref f) ⟨.ref (s.heap.objs.size + 1) :: vs,kw⟩) (PySem.W.InitBack (s.heap.objs.size + 1) R)
   { s with heap:=(s.heap.push PySem.W.emptyDict).push (PySem.W.instObj C s.heap.objs.size) }) :
  codeAny (model prog w) A (.call (.ref C) ⟨vs,kw⟩) R s:=by
 obtain ⟨hh,g,d,t,os⟩:=s
 exact PySem.W.make_core (PySem.W.makes_of X hm) (PySem.W.looks_findIn X hi) (fun self=>PySem.W.bind_fn X self hf) (.inl rfl) h
end
noncomputable def putF (f:Str) (v:V):List (Str × V)→List (Str × V)
 | []=>[(f,v)]
 | (g,x) :: r=>if g=f then (g,v) :: r else (g,x) :: putF f v r
theorem lookup_putF (f g:Str) (v:V):∀ fs:List (Str × V),(putF f v fs).lookup g=if g=f then some v else fs.lookup g
 | []=>by
  show List.lookup g [(f,v)]=_
  by_cases h:g=f
  ·have hb:(g == f)=true:=beq_iff_eq.mpr h
   simp only [List.lookup,hb,if_pos h]
  ·have hb:(g == f)=false:=beq_eq_false_iff_ne.mpr h
   simp only [List.lookup,hb,if_neg h]
 | (k,x) :: r=>by
  have ih:=lookup_putF f g v r
  rw [show putF f v ((k,x) :: r)=(if k=f then (k,v) :: r else (k,x) :: putF f v r) from rfl]
  by_cases hk:k=f
  ·rw [if_pos hk]
   by_cases h:g=k
   ·have hb:(g == k)=true:=beq_iff_eq.mpr h
    simp only [List.lookup,hb,if_pos (h.trans hk)]
   ·have hb:(g == k)=false:=beq_eq_false_iff_ne.mpr h
    simp only [List.lookup,hb,if_neg (fun e:g=f=>h (e.trans hk.symm))]
  ·rw [if_neg hk]
   by_cases h:g=k
   ·have hb:(g == k)=true:=beq_iff_eq.mpr h
    simp only [List.lookup,hb,if_neg (fun e:g=f=>hk (h.symm.trans e))]
   ·have hb:(g == k)=false:=beq_eq_false_iff_ne.mpr h
    simp only [List.lookup,hb]
    exact ih
theorem keys_putF (f:Str) (v:V):∀ fs:List (Str × V),f∈(putF f v fs).map (·.1)∧∀ g,g∈fs.map (·.1)→g∈(putF f v fs).map (·.1)
 | []=>⟨by simp [putF],fun g h=>by simp at h⟩
 | (k,x) :: r=>by
  obtain ⟨i1,i2⟩:=keys_putF f v r
  rw [show putF f v ((k,x) :: r)=(if k=f then (k,v) :: r else (k,x) :: putF f v r) from rfl]
  by_cases hk:k=f
  ·rw [if_pos hk]
   subst hk
   exact ⟨by simp,fun g h=>by simpa using h⟩
  ·rw [if_neg hk]
   refine ⟨?_,fun g h=>?_⟩
   ·rw [List.map_cons]
    exact List.mem_cons_of_mem _ i1
   ·rw [List.map_cons] at h ⊢
    rcases List.mem_cons.mp h with e | e
    ·exact List.mem_cons.mpr (.inl e)
    ·exact List.mem_cons_of_mem _ (i2 g e)
theorem length_putF (f:Str) (v:V):∀ fs:List (Str × V),(putF f v fs).length≤fs.length + 1
 | []=>by simp [putF]
 | (k,x) :: r=>by
  have ih:=length_putF f v r
  rw [show putF f v ((k,x) :: r)=(if k=f then (k,v) :: r else (k,x) :: putF f v r) from rfl]
  by_cases hk:k=f
  ·rw [if_pos hk,List.length_cons,List.length_cons]; omega
  ·rw [if_neg hk,List.length_cons,List.length_cons]; omega
theorem RelO.some_of {v:V} {o:Option Value} (r:RelO (some v) o):∃ u,o=some u∧RelV v u:=by
 cases o with
 | none=>exact (show False from r).elim
 | some u=>exact ⟨u,rfl,r⟩
theorem RelO.none_of {o:Option Value} (r:RelO none o):o=none:=by
 cases o with
 | none=>rfl
 | some u=>exact (show False from r).elim
theorem handed_of {v:V} {u:Value} (r:RelV v u):PySem.W.handedIn u=true:=by
 cases v with
 | non=>cases (show u=Value.none from r); rfl
 | bl b=>cases (show u=Value.bool b from r); rfl
 | int i=>obtain ⟨t,e⟩:=(show ∃ t,u=Value.int i t from r); cases e; rfl
 | str x=>obtain ⟨t,e⟩:=(show ∃ t,u=Value.str x t from r); cases e; rfl
 | byt b=>obtain ⟨t,e⟩:=(show ∃ t,u=Value.bytes b t from r); cases e; rfl
 | flt b=>obtain ⟨t,e⟩:=(show ∃ t,u=Value.float b t from r); cases e; rfl
 | ref a=>cases (show u=Value.ref a from r); rfl
 | ty n=>cases (show u=Value.type n from r); rfl
section
variable {P:Program} {w:World} {H H':Hp} {h h':Heap} {a C dx:Addr} {fs fs':List (Str × V)}
theorem ins_get (hok:HOk P w H h) (e:H a=some (.ins C dx fs)):∃ mA,ObjM h a dx C mA∧(∀ f,RelO (fs.lookup f) (mA f))∧PySem.Within mA (fs.map (·.1))∧fs.length≤1000∧H dx=some (.own a):=by
 obtain ⟨d,z,ne,ob,mA,n,r,q⟩:=(show ObjOk P w H h a (.ins C dx fs) from hok a _ e)
 exact ⟨mA,⟨ob,n,ne⟩,r,q,z,d⟩
end
structure Cls (K:PySem.W.Frag) (C:Addr):Prop where
 pg:PySem.W.plainGet K C Str.empty=true
 hd:PySem.W.hasDictIn K C=true
 po:PySem.W.plainOver K C=true
 sa:PySem.W.findIn K (.ref C) "__setattr__"=some (some (.builtin "object.__setattr__"))
theorem Cls.get {K:PySem.W.Frag} {C:Addr} (c:Cls K C) (f:Str):PySem.W.plainGet K C f=true:=c.pg
noncomputable def NoAttr (K:PySem.W.Frag) (C:Addr) (f:Str):Prop:=PySem.W.findIn K (.ref C) f=some none
theorem NoAttr.taker {K:PySem.W.Frag} {C:Addr} {f:Str} (n:NoAttr K C f):PySem.W.takerIn K C f=some none:=by
 unfold PySem.W.takerIn
 rw [show PySem.W.findIn K (.ref C) f=some none from n]
 rfl
structure Meth (K:PySem.W.Frag) (C:Addr) (m:Str) (f:Addr):Prop where
 at_:PySem.W.findIn K (.ref C) m=some (some (.ref f))
 fn:PySem.W.isFn K (.ref f)=true
 kp:PySem.W.keepIn K (.ref f)=true
section
variable {X:Cx} {pins:List (Addr × Obj)} {σ:St} {H:Hp} {s:Shared} {a C dx:Addr} {fs:List (Str × V)} {f:Str} {v:V} {A:Around} {E:Value→Shared→Prop}
theorem getattr_ok {b:Bool} {Q:Value→Shared→Prop} (I:Inv X pins σ H s) (e:H a=some (.ins C dx fs)) (c:Cls X.K C) (n:NoAttr X.K C f) (l:fs.lookup f=some v)
  (h:∀ u s',Inv X pins σ H s'→RelV v u→Q u s'):wpAny (model X.prog X.w) A (getAttr (.ref a) f b) Q E s:=by
 obtain ⟨mA,O,r,_,_,_⟩:=ins_get I.hok e
 obtain ⟨u,hu,ru⟩:=RelO.some_of (v:=v) (o:=mA f) (by rw [← l]; exact r f)
 exact get_map I.kIn O (c.get f) c.hd n hu (handed_of ru) (h u _ (I.tok _) ru)
theorem getmeth_ok {m:Str} {g:Addr} {pl:Sem Bool} {Q:Value × List Value→Shared→Prop} (I:Inv X pins σ H s) (e:H a=some (.ins C dx fs)) (c:Cls X.K C) (k:Meth X.K C m g) (l:fs.lookup m=none)
  (h:Q (.ref g,[.ref a]) s):wpAny (model X.prog X.w) A (getMethod (.ref a) m pl) Q E s:=by
 obtain ⟨mA,O,r,_,_,_⟩:=ins_get I.hok e
 have hn:mA m=none:=RelO.none_of (by rw [← l]; exact r m)
 exact get_meth I.kIn O (c.get m) k.at_ k.fn hn h
theorem setattr_ok {y:V} {u:Value} {Q:Unit→Shared→Prop} (I:Inv X pins σ H s) (e:H a=some (.ins C dx fs)) (c:Cls X.K C) (n:NoAttr X.K C f) (hl:fs.length < 1000) (ry:RelV y u)
  (h:∀ s',Inv X pins σ (upd H a (.ins C dx (putF f y fs))) s'→Q () s'):wpAny (model X.prog X.w) A (setAttr (.ref a) f u) Q E s:=by
 obtain ⟨mA,O,r,wi,_,ho⟩:=ins_get I.hok e
 have hz:(fs.map (·.1)).length≤sizeLine:=by rw [List.length_map,sizeLine_eq]; omega
 refine set_map I.kIn O c.sa c.po n.taker c.hd wi hz fun h' O' sb=>h _ ?_
 have hd:∃ o,h'.get? dx=some o:=let ⟨o,_,_,e',_⟩:=O'.ns; ⟨o,e'⟩
 refine I.write (x:=a) (e:=dx) (by rw [e]; exact True.intro) (.inr ho) (fun b q hb z=>(sb.2 b hb).trans z) hd ?_
 refine ⟨by rw [upd_ne O.ne]; exact ho,?_,O.ne,O'.obj,_,O'.ns,fun g=>?_,fun g hg=>?_⟩
 ·have:=length_putF f y fs; omega
 ·show RelO ((putF f y fs).lookup g) (if g=f then some u else mA g)
  rw [lookup_putF]
  by_cases q:g=f
  ·rw [if_pos q,if_pos q]; exact ry
  ·rw [if_neg q,if_neg q]; exact r g
 ·by_cases q:g=f
  ·rw [q]; exact (keys_putF f y fs).1
  ·refine (keys_putF f y fs).2 g (wi g fun z=>hg ?_)
   show (if g=f then some u else mA g)=none
   rw [if_neg q]; exact z
theorem Inv.made (I:Inv X pins σ H s):Inv X pins σ (upd (upd H s.heap.objs.size (.own (s.heap.objs.size + 1))) (s.heap.objs.size + 1) (.ins C s.heap.objs.size []))
  { s with heap:=(s.heap.push PySem.W.emptyDict).push (PySem.W.instObj C s.heap.objs.size) }:=by
 have e1:(s.heap.push PySem.W.emptyDict).get? s.heap.objs.size=some PySem.W.emptyDict:=Heap.get?_push_size s.heap rfl
 have e2:((s.heap.push PySem.W.emptyDict).push (PySem.W.instObj C s.heap.objs.size)).get? (s.heap.objs.size + 1)=some (PySem.W.instObj C s.heap.objs.size):=by
  have:=Heap.get?_push_size (s.heap.push PySem.W.emptyDict) (o:=PySem.W.instObj C s.heap.objs.size) rfl
  rwa [Heap.size_push] at this
 have e3:(s.heap.push PySem.W.emptyDict).Ns s.heap.objs.size (fun _=>none):=⟨PySem.W.emptyDict,#[],_,e1,rfl,(fun e he=>absurd he (by simp)),fun _=>rfl⟩
 have I1:=I.laid (a:=s.heap.objs.size) (o:=.own (s.heap.objs.size + 1)) (h':=s.heap.push PySem.W.emptyDict) (t':=s.toks) (fun b u q=>Heap.get?_push_of_some _ q) (Nat.le_refl _) ⟨_,e1⟩
 refine I1.laid (a:=s.heap.objs.size + 1) (o:=.ins C s.heap.objs.size []) (t':=s.toks) (fun b u q=>Heap.get?_push_of_some _ q) (Nat.le_of_eq (Heap.size_push _ _)) ?_
 have ne:s.heap.objs.size≠s.heap.objs.size + 1:=Nat.ne_of_lt (Nat.lt_succ_self _)
 refine ⟨by rw [upd_ne ne,upd_same],Nat.zero_le _,ne,e2,fun _=>none,(Heap.Ns1.of_empty e3).at fun o q=>Heap.get?_push_of_some _ q,fun _=>True.intro,fun y hy=>absurd rfl hy⟩
theorem attr_of {prog:Program} {w:World} {env:Env} {e:Expr} {f:Str} {pos:Pos} {s:Shared} {Q:Value→Shared→Prop} (hb:attributeBase e f env (eval e env)=eval e env)
  (h:wpAny (model prog w) A (eval e env) (fun o s₁=>wpAny (model prog w) A (getAttr o f true) Q E s₁) E s):wpAny (model prog w) A (eval (.Attribute e f pos) env) Q E s :=
 Attribute_any_ h (by rw [arm_eval_Attribute,hb])
end
noncomputable def tFld (K:PySem.W.Frag) (ta:TE) (f:Str):TE:=fun σ H Q=>ta σ H fun x H1=>∃ a C dx fs v,x=.ref a∧H1 a=some (.ins C dx fs)∧Cls K C∧NoAttr K C f∧fs.lookup f=some v∧Q v H1
noncomputable def sFld (K:PySem.W.Frag) (ta tv:TE) (f:Str):TS:=fun D σ H=>tv σ H fun y H1=>ta σ H1 fun x H2=>∃ a C dx fs,x=.ref a∧H2 a=some (.ins C dx fs)∧Cls K C∧NoAttr K C f∧fs.length < 1000 ∧
 D.nx σ (upd H2 a (.ins C dx (putF f y fs)))
section
variable {X:Cx} {o e value:Expr} {f:Str} {pos pos' tpos:Pos} {ta tv:TE}
theorem pe_fld (he:PE X e ta) (hb:attributeBase e f X.env (eval e X.env)=eval e X.env):PE X (.Attribute e f pos) (tFld X.K ta f):=by
 intro pins s σ H Q I h
 refine attr_of hb (thn (he pins s σ H _ I h) fun u s1 zz9=>?_)
 obtain ⟨x,H1,I1,rx,a,C,dx,fs,v,ex,ea,c,n,l,q⟩:=zz9
 subst ex
 obtain rfl:u=Value.ref a:=rx
 exact getattr_ok I1 ea c n l fun u' s2 I2 ru=>⟨v,H1,I2,ru,q⟩
theorem ps_fld (ha:PE X o ta) (hv:PE X value tv) (hs:swapsWith value (some (.Attribute o f pos')) pos.line X.env=pure false):PS X (.Assign [.Attribute o f pos'] value pos) (sFld X.K ta tv f):=by
 intro pins s σ H D I h
 refine plainObj_wpAny_Assign_Attribute (thn (hv pins s σ H _ I h) fun u s1 zz9=>?_) hs
 obtain ⟨y,H1,I1,ry,q⟩:=zz9
 refine thn (ha pins s1 σ H1 _ I1 q) fun ov s2 zz10=>?_
 obtain ⟨x,H2,I2,rx,a,C,dx,fs,ex,ea,c,n,l,q2⟩:=zz10
 subst ex
 obtain rfl:ov=Value.ref a:=rx
 exact setattr_ok I2 ea c n l ry fun s3 I3=>⟨σ,_,I3,q2⟩
end
section
variable {X:Cx} {pins:List (Addr × Obj)} {σ:St} {H:Hp} {s:Shared} {A:Around} {E:Value→Shared→Prop} {Q:Value→Shared→Prop} {c:Value} {b:Bool}
inductive TyOf (K:PySem.W.Frag) (H:Hp):V→Value→Prop where
 | non:TyOf K H .non (.type "NoneType")
 | bl (x:Bool):TyOf K H (.bl x) (.type "bool")
 | int (i:Int):TyOf K H (.int i) (.type "int")
 | str (x:Str):TyOf K H (.str x) (.type "str")
 | flt (x:UInt64):TyOf K H (.flt x) (.type "float")
 | lst {a:Addr} {xs:List V} (e:H a=some (.lst xs)):TyOf K H (.ref a) (.type "list")
 | frz {a:Addr} {o:Obj} {xs:List V} (e:H a=some (.frz o (.lst xs))):TyOf K H (.ref a) (.type "list")
 | tup {a:Addr} {xs:List V} (e:H a=some (.tup xs)):TyOf K H (.ref a) (.type "tuple")
 | dK {a:Addr} {kvs:List (Key × V)} (e:H a=some (.dK kvs)):TyOf K H (.ref a) (.type "dict")
 | dT {a:Addr} {kvs:List (List Key × V)} (e:H a=some (.dT kvs)):TyOf K H (.ref a) (.type "dict")
 | ins {a C dx:Addr} {fs:List (Str × V)} (e:H a=some (.ins C dx fs)) (cl:Cls K C) (ha:PySem.W.findIn K (.ref C) "__class__"=some (some (.builtin "object.__class__")))
   (hn:PySem.W.specialIn K (.builtin "object.__class__") "__get__"=some (some (.builtin "getset_descriptor.__get__"))) (htk:PySem.W.takesIn K (.builtin "object.__class__")=some true)
   (hm:PySem.W.mroIn K C (.type "object")=some true):TyOf K H (.ref a) (.ref C)
theorem isinst_ok {x:V} {u t:Value} (I:Inv X pins σ H s) (rx:RelV x u) (ty:TyOf X.K H x t) (e:PySem.W.kitOne X.K t c=some b) (h:∀ tk,Q (.bool b) { s with toks:=tk }) :
  wpAny (model X.prog X.w) A (call (.builtin "isinstance") [u,c]) Q E s:=by
 cases ty with
 | non=>cases (show u=Value.none from rx); exact PySem.W.kia_one PySem.W.kitx_none I.kIn True.intro e (fun z=>nomatch z) h
 | bl y=>cases (show u=Value.bool y from rx); exact PySem.W.kia_one PySem.W.kitx_bool I.kIn True.intro e (fun z=>nomatch z) h
 | int i=>obtain ⟨t,q⟩:=(show ∃ t,u=Value.int i t from rx); cases q; exact PySem.W.kia_one PySem.W.kitx_int I.kIn True.intro e (fun z=>nomatch z) h
 | str y=>obtain ⟨t,q⟩:=(show ∃ t,u=Value.str y t from rx); cases q; exact PySem.W.kia_one PySem.W.kitx_str I.kIn True.intro e (fun z=>nomatch z) h
 | flt y=>obtain ⟨t,q⟩:=(show ∃ t,u=Value.float y t from rx); cases q; exact PySem.W.kia_one PySem.W.kitx_float I.kIn True.intro e (fun z=>nomatch z) h
 | @lst a xs ea =>
  cases (show u=Value.ref a from rx)
  obtain ⟨_,_,n,_,h1⟩:=(show ObjOk X.prog X.w H s.heap a (.lst xs) from I.hok a _ ea)
  exact PySem.W.kia_one PySem.W.kitx_list I.kIn ⟨_,h1,rfl⟩ e (fun z=>nomatch z) h
 | @frz a ob xs ea =>
  cases (show u=Value.ref a from rx)
  obtain ⟨_,_,_,n,_,h1⟩:=(show ObjOk X.prog X.w H s.heap a (.frz ob (.lst xs)) from I.hok a _ ea)
  exact PySem.W.kia_one PySem.W.kitx_list I.kIn ⟨_,h1,rfl⟩ e (fun z=>nomatch z) h
 | @tup a xs ea =>
  cases (show u=Value.ref a from rx)
  obtain ⟨_,_,_,p⟩:=(show ObjOk X.prog X.w H s.heap a (.tup xs) from I.hok a _ ea)
  obtain ⟨o,h1,h2,_⟩:=p
  exact PySem.W.kia_one PySem.W.kitx_tuple I.kIn ⟨o,h1,h2⟩ e (fun z=>nomatch z) h
 | @dK a kvs ea =>
  cases (show u=Value.ref a from rx)
  obtain ⟨_,_,vs,_,p⟩:=(show ObjOk X.prog X.w H s.heap a (.dK kvs) from I.hok a _ ea)
  obtain ⟨o,es,ep,h1,h2,_⟩:=p
  exact PySem.W.kia_one PySem.W.kitx_dict I.kIn ⟨o,h1,h2.1⟩ e (fun z=>nomatch z) h
 | @dT a kvs ea =>
  cases (show u=Value.ref a from rx)
  obtain ⟨_,_,xs,_,o,es,ep,h1,h2,_⟩:=(show ObjOk X.prog X.w H s.heap a (.dT kvs) from I.hok a _ ea)
  exact PySem.W.kia_one PySem.W.kitx_dict I.kIn ⟨o,h1,h2.1⟩ e (fun z=>nomatch z) h
 | @ins a C dx fs ea cl ha hn htk hm =>
  cases (show u=Value.ref a from rx)
  obtain ⟨mA,O,_⟩:=ins_get I.hok ea
  obtain ⟨od,J,_⟩:=O.look
  exact PySem.W.kia_one (PySem.W.kitx_own (cl.get _) cl.hd ha hn htk hm) I.kIn J e (fun z=>nomatch z) h
end
end L2
namespace L2
open PySem PySem.Spec PyProof.Rows
structure Room (k:Nat) (A:Around):Prop where
 hd:A.handled=none
 dp:A.depth + 3 * k + 5 < recursionLimit
 un:A.units + 16 * k + 200 < cLine
theorem Room.mono {j k:Nat} {A:Around} (r:Room k A) (h:j≤k):Room j A:=⟨r.hd,by have:=r.dp; omega,by have:=r.un; omega⟩
theorem Room.deeper {k:Nat} {A:Around} (r:Room (k + 1) A) (env:Env):Room k (A.deeper env) :=
 ⟨r.hd,by have:=r.dp; show A.depth + 1 + 3 * k + 5 < _; omega,by have:=r.un; show A.units + 3 + 16 * k + 200 < _; omega⟩
theorem make_depth {A:Around} {C:Addr} {us:List Value} {kw:List (Str × Value)}:(A.under (.builtin "type.__call__" ⟨.ref C :: us,kw⟩)).depth=A.depth + 1:=by
 first | rfl | simp [Around.under,Code.weight,Code.isCreation,Code.isGuard,Code.isCaller,Code.frames,Code.isFrame,guardIds]
theorem make_units {A:Around} {C:Addr} {us:List Value} {kw:List (Str × Value)}:(A.under (.builtin "type.__call__" ⟨.ref C :: us,kw⟩)).units=A.units + 1:=by
 first | rfl | simp [Around.under,Code.cUnits,Code.frames,Code.isFrame]
theorem Room.make {k:Nat} {A:Around} (r:Room (k + 1) A) (C:Addr) (us:List Value) (kw:List (Str × Value)):Room k (A.under (.builtin "type.__call__" ⟨.ref C :: us,kw⟩)) :=
 ⟨r.hd,by have:=r.dp; rw [make_depth]; omega,by have:=r.un; rw [make_units]; omega⟩
theorem Room.depth {k:Nat} {A:Around} (r:Room k A):A.depth < recursionLimit:=by have:=r.dp; omega
theorem Room.units {k:Nat} {A:Around} (r:Room k A):A.units + 64 < cLine:=by have:=r.un; omega
noncomputable def tNil:TA:=fun _ H Q=>Q [] H
noncomputable def tCons (ta:TE) (tr:TA):TA:=fun σ H Q=>ta σ H fun x H1=>tr σ H1 fun xs H2=>Q (x :: xs) H2
section
variable {X:Cx} {e:Expr} {es:List Expr} {te:TE} {t:TA} {pos:Pos}
theorem pa_nil:PA X [] tNil:=fun _ _ _ _ H Q I h=>Calls.spliced_nil ⟨[],H,I,.nil,h⟩
theorem pa_cons (ha:PE X e te) (hr:PA X es t) (hs:starEach (e :: es) X.env=(false,eval e X.env) :: starEach es X.env:=by rfl):PA X (e :: es) (tCons te t):=by
 intro pos pins s σ H Q I h
 rw [hs]
 show wpAny _ _ (spliced ((false,eval e X.env) :: backTo pos (starEach es X.env))) _ _ s
 refine Calls.spliced_cons (thn (ha pins s σ H _ I h) fun u s1 zz9=>?_)
 obtain ⟨x,H1,I1,r1,q1⟩:=zz9
 refine thn (hr pos pins s1 σ H1 _ I1 q1) fun us s2 zz11=>?_
 obtain ⟨xs,H2,I2,r2,q2⟩:=zz11
 exact ⟨x :: xs,H2,I2,.cons r1 r2,q2⟩
noncomputable def tTup (t:TA):TE:=fun σ H Q=>t σ H fun xs H1=>xs.length≤sizeLine∧∀ p,H1 p=none→Q (.ref p) (upd H1 p (.tup xs))
noncomputable def tLst (t:TA):TE:=fun σ H Q=>t σ H fun xs H1=>xs.length≤sizeLine∧∀ p,H1 p=none→Q (.ref p) (upd H1 p (.lst xs))
theorem pe_tup {x1} (h:PA X es t):PE X (.Tuple es x1 pos) (tTup t):=by
 intro pins s σ H Q I hq
 refine wpAny_Tuple_spliced (thn (h pos pins s σ H _ I hq) fun us s1 zz7=>?_)
 obtain ⟨xs,H1,I1,r,z,q⟩:=zz7
 refine ⟨by rw [← r.length]; exact z,?_⟩
 have hf:H1 s1.heap.objs.size=none:=I1.hok.fresh (Nat.le_refl _)
 refine ⟨.ref s1.heap.objs.size,upd H1 s1.heap.objs.size (.tup xs),I1.laid (t':=s1.toks) (fun b u e=>Heap.get?_push_of_some _ e) (Nat.le_refl _) ?_,rfl,q _ hf⟩
 exact ⟨z,us,r,⟨_,Heap.get?_push_size _ rfl,rfl,_,rfl⟩⟩
theorem pe_lst (h:PA X es t):PE X (.List es pos) (tLst t):=by
 intro pins s σ H Q I hq
 refine wpAny_List_spliced (thn (h pos pins s σ H _ I hq) fun us s1 zz7=>?_)
 obtain ⟨xs,H1,I1,r,z,q⟩:=zz7
 refine ⟨by rw [← r.length]; exact z,?_⟩
 have hf:H1 s1.heap.objs.size=none:=I1.hok.fresh (Nat.le_refl _)
 refine ⟨.ref s1.heap.objs.size,upd H1 s1.heap.objs.size (.lst xs),I1.laid (t':=s1.toks) (fun b u e=>Heap.get?_push_of_some _ e) (Nat.le_refl _) ?_,rfl,q _ hf⟩
 exact ⟨z,us,0,r,Heap.get?_push_size _ rfl⟩
end
noncomputable abbrev Sp:=List V→Hp→VK→XK→Prop
noncomputable abbrev CXT:=List Env→Hp→Shared→XK→Value→Shared→Prop
structure Env0 (P:Program) (w:World) (K:PySem.W.Frag) (mg:Str→Option Value) (base:Heap) (A:Around) (outer:List Env) (s:Shared) (H:Hp):Prop where
 frames:A.frames=some outer
 mod:Mod K mg base
 bs:∀ b o,base.get? b=some o→s.heap.get? b=some o∧H b=none
 bsz:base.objs.size≤s.heap.objs.size
 funs:s.heap.FunFrames base outer
 frf:∀ b∈frs outer,H b=none
 hok:HOk P w H s.heap
 bare:AllBare s.gens
noncomputable def CE (outer:List Env) (P:Program) (w:World) (H:Hp) (s:Shared) (Q:VK) (u:Value) (s':Shared):Prop :=
 ∃ v H',s'.os=s.os∧AllBare s'.gens∧Un (frs outer) [] H H' s.heap s'.heap∧HOk P w H' s'.heap∧RelV v u∧Q v H'
noncomputable def CR (CX:CXT) (outer:List Env) (P:Program) (w:World) (H:Hp) (s:Shared) (Q:VK) (E:XK) (r:Result) (s':Shared):Prop :=
 match r with
 | .ok (.ret u)=>CE outer P w H s Q u s'
 | .ok _=>False
 | .error e=>CX outer H s E e s'
structure FnOk (P:Program) (w:World) (K:PySem.W.Frag) (mg:Str→Option Value) (base:Heap) (CX:CXT) (k:Nat) (f:Addr) (fd:FuncData) (ps:List Str) (sp:Sp):Prop where
 len:∀ vs H Q E,sp vs H Q E→vs.length=ps.length
 run:∀ (A:Around) (outer:List Env) (s:Shared) (H:Hp) (args:Args) (us:List Value) (vs:List V) (Q:VK) (E:XK),Room k A→Env0 P w K mg base A outer s H→BindsTo s fd args (ps.zip us)→Vals vs us→sp vs H Q E →
  codeAny (model P w) A (.call (.ref f) args) (CR CX outer P w H s Q E) s
theorem Env0.make {P:Program} {w:World} {K:PySem.W.Frag} {mg:Str→Option Value} {base:Heap} {A:Around} {outer:List Env} {s:Shared} {H:Hp} (e:Env0 P w K mg base A outer s H) (C:Addr) (us:List Value) (kw:List (Str × Value)) :
  Env0 P w K mg base (A.under (.builtin "type.__call__" ⟨.ref C :: us,kw⟩)) outer s H:=⟨by first | exact e.frames | (simpa [Around.under,Code.envs,Code.isFrame,pushEnvs] using e.frames),e.mod,e.bs,e.bsz,e.funs,e.frf,e.hok,e.bare⟩
section
variable {X:Cx} {pins:List (Addr × Obj)} {σ:St} {H:Hp} {s s':Shared}
theorem Inv.env0 (I:Inv X pins σ H s):Env0 X.prog X.w X.K X.mg X.base X.A X.stack s H :=
 ⟨I.ok.frames,I.ok.mod,I.bs,Nat.le_trans I.ok.bsz I.sz,I.stack,I.stkFree,I.hok,I.bare⟩
theorem Inv.after {Q:VK} {u:Value} (I:Inv X pins σ H s) (h:CE X.stack X.prog X.w H s Q u s'):EP X pins σ Q u s':=by
 obtain ⟨v,H',os,bare,un,hok,r,q⟩:=h
 obtain ⟨hh,g,d,t,os'⟩:=s'
 obtain rfl:os'=s.os:=os
 exact ⟨v,H',I.call (h':=hh) (g':=g) (d':=d) (t':=t) (ch:=[]) un hok bare (fun b z=>absurd z (by simp)),r,q⟩
end
noncomputable def tCall (sp:Sp) (dvs:List V) (E:XK) (t:TA):TE:=fun σ H Q=>t σ H fun vs H1=>sp (vs ++ dvs) H1 Q E
noncomputable def tMeth (C:Addr) (m:Str) (sp:Sp) (dvs:List V) (E:XK) (ta:TE) (t:TA):TE:=fun σ H Q=>ta σ H fun x H1=>∃ a dx fs,x=.ref a∧H1 a=some (.ins C dx fs)∧fs.lookup m=none ∧
 t σ H1 fun vs H2=>sp (x :: (vs ++ dvs)) H2 Q E
noncomputable def tMake (C:Addr) (sp:Sp) (dvs:List V) (E:XK) (t:TA):TE:=fun σ H Q=>t σ H fun vs H1=>∀ x dx,H1 x=none→H1 dx=none→dx≠x →
 sp (.ref x :: (vs ++ dvs)) (upd (upd H1 dx (.own x)) x (.ins C dx [])) (fun v H2=>v=.non∧Q (.ref x) H2) E
noncomputable def Binds (K:PySem.W.Frag) (fd:FuncData) (ps:List Str) (ds:List Value):Prop :=
 ∀ (s:Shared) (us:List Value),K.In s.heap→(us ++ ds).length=ps.length→BindsTo s fd ⟨us,[]⟩ (ps.zip (us ++ ds))
theorem Binds.all {K:PySem.W.Frag} {fd:FuncData} {ps:List Str} (h:∀ us:List Value,us.length=ps.length→bindArgs fd ⟨us,[]⟩=pure (ps.zip us)):Binds K fd ps []:=fun s us _ hl=>by
 rw [List.append_nil] at hl ⊢
 exact .of_eq (h us hl)
noncomputable def Passes (CX:CXT) (X:Cx) (E:XK):Prop:=∀ (pins:List (Addr × Obj)) (σ:St) (H:Hp) (s:Shared) (e:Value) (s':Shared),Inv X pins σ H s→CX X.stack H s E e s'→X.xe e s'
section
variable {X:Cx} {CX:CXT} {k:Nat} {f C:Addr} {fd:FuncData} {ps:List Str} {sp:Sp} {dvs:List V} {ds:List Value} {E:XK} {x m:Str} {p pos apos:Pos} {e o:Expr} {es:List Expr} {ta:TE} {t:TA}
theorem run_fn {pins:List (Addr × Obj)} {σ:St} {H:Hp} {s:Shared} {Q:VK} {us:List Value} {vs:List V} (F:FnOk X.prog X.w X.K X.mg X.base CX k f fd ps sp) (hr:Room k X.A) (hb:Binds X.K fd ps ds) (hd:Vals dvs ds) (hx:Passes CX X E)
  (I:Inv X pins σ H s) (r:Vals vs us) (h:sp (vs ++ dvs) H Q E):wpAny (model X.prog X.w) X.A (call (.ref f) us) (EP X pins σ Q) X.xe s:=by
 have r2:Vals (vs ++ dvs) (us ++ ds):=r.append hd
 have hl:(us ++ ds).length=ps.length:=by rw [← r2.length]; exact F.len _ _ _ _ h
 refine wpAny_call (codeAny_mono (F.run X.A X.stack s H ⟨us,[]⟩ (us ++ ds) (vs ++ dvs) Q E hr I.env0 (hb s us I.kIn hl) r2 h) fun r s' hq=>?_)
 cases r with
 | error e=>exact hx pins σ H s e s' I hq
 | ok fl =>
  cases fl with
  | ret u=>exact I.after hq
  | next=>exact False.elim hq
  | brk=>exact False.elim hq
  | cont=>exact False.elim hq
theorem pe_call (F:FnOk X.prog X.w X.K X.mg X.base CX k f fd ps sp) (hr:Room k X.A) (hg:Gl X x) (hm:X.mg x=some (.ref f)) (hk:PySem.W.keepIn X.K (.ref f)=true) (hb:Binds X.K fd ps ds) (hd:Vals dvs ds) (hx:Passes CX X E)
  (ha:PA X (e :: es) t) (hdb:(x == ("__debug__":Str))=false:=by decide) (he:starEach (e :: es) X.env=(false,eval e X.env) :: starEach es X.env:=by rfl) (hpl:(backTo pos (starEach es X.env)).any (·.1)=false:=by rfl) :
  PE X (.Call (.Name x p) (e :: es) [] pos) (tCall sp dvs E t):=by
 intro pins s σ H Q I h
 refine wpAny_Call_Name_kw (ld_glob I hg hm ?_ hdb)
 refine PySem.W.callWith_K (h₀:=X.base) I.ok.mod.kin hk (thn (ha pos pins s σ H _ I h) fun us s1 zz12=>?_) he hpl
 obtain ⟨vs,H1,I1,r,q⟩:=zz12
 refine ⟨I1.kIn,?_⟩
 exact run_fn F hr hb hd hx I1 r q
theorem pe_meth {pl:Sem Bool} (he:PE X o ta) (c:Cls X.K C) (hm:Meth X.K C m f) (F:FnOk X.prog X.w X.K X.mg X.base CX k f fd ps sp) (hr:Room k X.A) (hb:Binds X.K fd ps ds) (hd:Vals dvs ds) (hx:Passes CX X E) (ha:PA X (e :: es) t)
  (hst:starEach (e :: es) X.env=(false,eval e X.env) :: starEach es X.env:=by rfl) (hpl:(backTo pos (starEach es X.env)).any (·.1)=false:=by rfl)
  (ht:eval (.Call (.Attribute o m apos) (e :: es) [] pos) X.env=(do
   let ov ← eval o X.env
   standAt apos.atName
   let (f,first) ← holding [ov] (getMethod ov m pl)
   callWith pos f first (backTo pos (starEach (e :: es) X.env)) (backToKw pos (keywordEach [] X.env))):=by rfl) :
  PE X (.Call (.Attribute o m apos) (e :: es) [] pos) (tMeth C m sp dvs E ta t):=by
 intro pins s σ H Q I h
 refine PySem.W.methodCall_KW (pl:=pl) (thn (he pins s σ H _ I h) fun u s1 zz13=>?_) ht
 obtain ⟨x,H1,I1,rx,a,dx,fs,ex,ea,l,q⟩:=zz13
 subst ex
 obtain rfl:u=Value.ref a:=rx
 refine getmeth_ok I1 ea c hm l ?_
 refine PySem.W.callWith_K (first:=[.ref a]) (h₀:=X.base) I.ok.mod.kin hm.kp (thn (ha pos pins s1 σ H1 _ I1 q) fun us s2 zz14=>?_) hst hpl
 obtain ⟨vs,H2,I2,r,q2⟩:=zz14
 refine ⟨I2.kIn,?_⟩
 exact run_fn (us:=.ref a :: us) (vs:=.ref a :: vs) F hr hb hd hx I2 (.cons rfl r) q2
theorem pe_meth0 {pl:Sem Bool} (he:PE X o ta) (c:Cls X.K C) (hm:Meth X.K C m f) (F:FnOk X.prog X.w X.K X.mg X.base CX k f fd ps sp) (hr:Room k X.A) (hb:Binds X.K fd ps ds) (hd:Vals dvs ds) (hx:Passes CX X E)
  (ht:eval (.Call (.Attribute o m apos) [] [] pos) X.env=(do
   let ov ← eval o X.env
   standAt apos.atName
   let (f,first) ← holding [ov] (getMethod ov m pl)
   callWith pos f first (backTo pos (starEach [] X.env)) (backToKw pos (keywordEach [] X.env))):=by rfl) :
  PE X (.Call (.Attribute o m apos) [] [] pos) (tMeth C m sp dvs E ta tNil):=by
 intro pins s σ H Q I h
 refine PySem.W.methodCall_KW (pl:=pl) (thn (he pins s σ H _ I h) fun u s1 zz15=>?_) ht
 obtain ⟨x,H1,I1,rx,a,dx,fs,ex,ea,l,q⟩:=zz15
 subst ex
 obtain rfl:u=Value.ref a:=rx
 refine getmeth_ok I1 ea c hm l ?_
 exact PySem.W.callWith_K0 (first:=[.ref a]) I1.kIn hm.kp (run_fn (us:=[.ref a]) (vs:=[.ref a]) F hr hb hd hx I1 (.cons rfl .nil) q)
structure Mk (K:PySem.W.Frag) (C f:Addr):Prop where
 makes:PySem.W.makesIn K C=true
 init:PySem.W.findIn K (.ref C) "__init__"=some (some (.ref f))
 fn:PySem.W.isFn K (.ref f)=true
 kp:PySem.W.keepIn K (.ref C)=true
theorem run_make {pins:List (Addr × Obj)} {σ:St} {H:Hp} {s:Shared} {Q:VK} {us:List Value} {vs:List V} (M:Mk X.K C f) (F:FnOk X.prog X.w X.K X.mg X.base CX k f fd ps sp) (hr:Room (k + 1) X.A) (hb:Binds X.K fd ps ds) (hd:Vals dvs ds)
  (hx:Passes CX X E) (I:Inv X pins σ H s) (r:Vals vs us)
  (h:∀ x dx,H x=none→H dx=none→dx≠x→sp (.ref x :: (vs ++ dvs)) (upd (upd H dx (.own x)) x (.ins C dx [])) (fun v H2=>v=.non∧Q (.ref x) H2) E) :
  wpAny (model X.prog X.w) X.A (call (.ref C) us) (EP X pins σ Q) X.xe s:=by
 have hq:=h (s.heap.objs.size + 1) s.heap.objs.size (I.hok.fresh (Nat.le_succ _)) (I.hok.fresh (Nat.le_refl _)) (Nat.ne_of_lt (Nat.lt_succ_self _))
 have I2:=Inv.made (C:=C) I
 have r2:Vals (V.ref (s.heap.objs.size + 1) :: (vs ++ dvs)) (Value.ref (s.heap.objs.size + 1) :: (us ++ ds)):=.cons rfl (r.append hd)
 have hl:(Value.ref (s.heap.objs.size + 1) :: us ++ ds).length=ps.length:=by
  have e:=r2.length
  rw [F.len _ _ _ _ hq] at e
  exact e.symm
 refine wpAny_call (make_map (f:=f) I.kIn M.makes M.init (beq_iff_eq.mp M.fn) (codeAny_mono (F.run _ X.stack _ _ ⟨Value.ref (s.heap.objs.size + 1) :: us,[]⟩ (Value.ref (s.heap.objs.size + 1) :: (us ++ ds)) _ _ E (hr.make C us [])
  (I2.env0.make C us []) (hb _ (Value.ref (s.heap.objs.size + 1) :: us) I2.kIn hl) r2 hq) fun r s' hq'=>?_))
 cases r with
 | error e=>exact hx pins σ _ _ e s' I2 hq'
 | ok fl =>
  cases fl with
  | ret u =>
   obtain ⟨v,H',I3,rv,ev,q3⟩:=I2.after hq'
   subst ev
   exact ⟨rv,⟨V.ref (s.heap.objs.size + 1),H',I3,rfl,q3⟩⟩
  | next=>exact False.elim hq'
  | brk=>exact False.elim hq'
  | cont=>exact False.elim hq'
theorem pe_make (M:Mk X.K C f) (F:FnOk X.prog X.w X.K X.mg X.base CX k f fd ps sp) (hr:Room (k + 1) X.A) (hg:Gl X x) (hm:X.mg x=some (.ref C)) (hb:Binds X.K fd ps ds) (hd:Vals dvs ds) (hx:Passes CX X E)
  (ha:PA X (e :: es) t) (hdb:(x == ("__debug__":Str))=false:=by decide) (he:starEach (e :: es) X.env=(false,eval e X.env) :: starEach es X.env:=by rfl) (hpl:(backTo pos (starEach es X.env)).any (·.1)=false:=by rfl) :
  PE X (.Call (.Name x p) (e :: es) [] pos) (tMake C sp dvs E t):=by
 intro pins s σ H Q I h
 refine wpAny_Call_Name_kw (ld_glob I hg hm ?_ hdb)
 refine PySem.W.callWith_K (h₀:=X.base) I.ok.mod.kin M.kp (thn (ha pos pins s σ H _ I h) fun us s1 zz16=>?_) he hpl
 obtain ⟨vs,H1,I1,r,q⟩:=zz16
 refine ⟨I1.kIn,?_⟩
 exact run_make M F hr hb hd hx I1 r q
end
structure FnScope (N P:List Str) (sc:Scope):Prop where
 kind:sc.kind=.function
 co:sc.isCoroutine=false
 gen:sc.isGenerator=false
 nd:N.Nodup
 pre:N.take P.length=P
 par:∀ x∈P,sc.names.lookup x=some .local∨sc.names.lookup x=some .cell
 nofree:∀ y∈sc.names,y.2≠.free
theorem bindL_out {kindOf:Str→Option NameKind} {x:Str}:∀ {binds:List (Str × Value)} {m:Str→Option Value},(∀ v,(x,v) ∉ binds)→bindL kindOf binds m x=m x
 | [],_,_=>rfl
 | (n,v) :: r,m,h=>by
  unfold bindL
  rw [bindL_out fun w hw=>h w (List.mem_cons_of_mem _ hw)]
  split
  ·have:x≠n:=by rintro rfl; exact h v List.mem_cons_self
   simp [this]
  ·rfl
theorem bindC_out {kindOf:Str→Option NameKind} {x:Str}:∀ {binds:List (Str × Value)} {m:Str→Option Value},(∀ v,(x,v) ∉ binds)→bindC kindOf binds m x=m x
 | [],_,_=>rfl
 | (n,v) :: r,m,h=>by
  unfold bindC
  rw [bindC_out fun w hw=>h w (List.mem_cons_of_mem _ hw)]
  split
  ·rfl
  ·have:x≠n:=by rintro rfl; exact h v List.mem_cons_self
   simp [this]
theorem bindL_get {kindOf:Str→Option NameKind} {x:Str} {v:Value}:∀ {P:List Str} {vs:List Value} {i:Nat} {m:Str→Option Value},P.Nodup→P[i]?=some x→vs[i]?=some v→kindOf x=some .local →
  bindL kindOf (P.zip vs) m x=some v
 | [],_,_,_,_,h,_,_=>by simp at h
 | _ :: _,[],_,_,_,_,h,_=>by simp at h
 | p :: P,w :: vs,0,m,nd,h1,h2,hk=>by
  simp at h1 h2; subst h1; subst h2
  show bindL kindOf ((p,w) :: P.zip vs) m p=_
  unfold bindL
  rw [bindL_out fun v hv=>(List.nodup_cons.mp nd).1 (List.of_mem_zip hv).1,if_pos hk]
  simp
 | p :: P,w :: vs,i + 1,m,nd,h1,h2,hk=>by
  show bindL kindOf ((p,w) :: P.zip vs) m x=_
  unfold bindL
  exact bindL_get (i:=i) (List.nodup_cons.mp nd).2 (by simpa using h1) (by simpa using h2) hk
theorem bindC_get {kindOf:Str→Option NameKind} {x:Str} {v:Value}:∀ {P:List Str} {vs:List Value} {i:Nat} {m:Str→Option Value},P.Nodup→P[i]?=some x→vs[i]?=some v→kindOf x≠some .local →
  bindC kindOf (P.zip vs) m x=some v
 | [],_,_,_,_,h,_,_=>by simp at h
 | _ :: _,[],_,_,_,_,h,_=>by simp at h
 | p :: P,w :: vs,0,m,nd,h1,h2,hk=>by
  simp at h1 h2; subst h1; subst h2
  show bindC kindOf ((p,w) :: P.zip vs) m p=_
  unfold bindC
  rw [bindC_out fun v hv=>(List.nodup_cons.mp nd).1 (List.of_mem_zip hv).1,if_neg hk]
  simp
 | p :: P,w :: vs,i + 1,m,nd,h1,h2,hk=>by
  show bindC kindOf ((p,w) :: P.zip vs) m x=_
  unfold bindC
  exact bindC_get (i:=i) (List.nodup_cons.mp nd).2 (by simpa using h1) (by simpa using h2) hk
noncomputable def start (N:List Str) (vs:List V):St:=vs.map some ++ List.replicate (N.length - vs.length) none
noncomputable def cxOf (CX:CXT) (P:Program) (w:World) (K:PySem.W.Frag) (mg:Str→Option Value) (base:Heap) (N:List Str) (qual:Str) (scope:Scope) (f:Addr) (cd:Value) (A:Around) (outer:List Env) (s:Shared) (H:Hp) (E:XK):Cx where
 prog:=P
 w:=w
 K:=K
 mg:=mg
 base:=base
 A:=A.deeper (envOfC qual scope s.heap.objs.size f cd)
 N:=N
 s₀:=s
 H₀:=H
 env:=envOfC qual scope s.heap.objs.size f cd
 outer:=outer
 stack:=envOfC qual scope s.heap.objs.size f cd :: outer
 ex:=[]
 calm:=true
 fn:=fun _=>true
 pn:=[]
 xe:=fun e s'=>wpAny (model P w) (A.deeper (envOfC qual scope s.heap.objs.size f cd)) (leaving (envOfC qual scope s.heap.objs.size f cd) e) (fun _ s''=>CX outer H s E e s'') (fun e' s''=>CX outer H s E e' s'') s'
theorem cell_has {sc:Scope} {n:Nat} {x:Str} (h:sc.names.lookup x=some .cell):∃ c,(cellsFrom n sc.names []).lookup x=some c:=by
 have q:=PySem.W.cellsFrom_some sc.names n [] (.inl h)
 exact Option.isSome_iff_exists.mp q
theorem inv_start {CX:CXT} {P:Program} {w:World} {K:PySem.W.Frag} {mg:Str→Option Value} {base:Heap} {N ps:List Str} {qual:Str} {scope:Scope} {f:Addr} {cd:Value} {A:Around} {outer:List Env} {s s1:Shared} {H:Hp} {E:XK} {us:List Value} {vs:List V}
  (S:FnScope N ps scope) (hd:A.handled=none) (e0:Env0 P w K mg base A outer s H) (hl:vs.length=ps.length) (r:Vals vs us)
  (x:InCallC s s.heap.objs.size (bindL (envOfC qual scope s.heap.objs.size f cd).kindOf (ps.zip us) fun _=>none) (cellsFrom (s.heap.objs.size + 1) scope.names []) (bindC (envOfC qual scope s.heap.objs.size f cd).kindOf (ps.zip us) fun _=>none) s1) :
  Inv (cxOf CX P w K mg base N qual scope f cd A outer s H E) [] (start N vs) H s1:=by
 have hpl:ps.length≤N.length:=by have:=congrArg List.length S.pre; rw [List.length_take] at this; omega
 obtain ⟨h1,tk,rfl,hk⟩:=x.done
 have noA:∀ b:Addr,b ∉ (cxOf CX P w K mg base N qual scope f cd A outer s H E).ex:=fun b z=>absurd (show b∈([]:List Addr) from z) (by simp)
 refine ⟨⟨e0.mod,S.kind,rfl,rfl,Nat.le_refl _,fun y z c h1 h2=>?_,fun y hy=>?_,fun y c _ h=>?_,fun _=>hd,Around.frames_deeper e0.frames,.inr ⟨rfl,rfl⟩,fun b z=>absurd z (noA b),e0.bs,e0.bsz,fun b _ _=>noA b,fun b z=>absurd z (noA b),e0.funs,e0.frf⟩,
  rfl,e0.bare,Un.kept hk,⟨_,x.toInCall.ns,fun i y v h1 h2 h3=>?_⟩,fun y c h=>⟨_,x.cell y c h⟩,e0.hok.fresh (Nat.le_refl _),fun y c h=>?_,fun p hp=>absurd (show p∈([]:List (Addr × Obj)) from hp) (by simp),e0.hok.kept hk,?_⟩
 ·exact name_of_addr x.apart (PySem.mem_of_lookup h1) (PySem.mem_of_lookup h2)
 ·have hy:scope.names.lookup y=some .cell∨scope.names.lookup y=some .free:=hy
  rcases hy with hy | hy
  ·exact cell_has hy
  ·exact absurd rfl (S.nofree _ (PySem.mem_of_lookup hy))
 ·exact Nat.le_of_lt (x.above y c (PySem.mem_of_lookup h))
 ·have hi:i < vs.length:=by
   unfold start at h2
   by_cases hi:i < vs.length
   ·exact hi
   ·rw [List.getElem?_append_right (by simpa using hi)] at h2
    rw [List.getElem?_replicate] at h2
    split at h2 <;> cases h2
  have ha:vs[i]?=some v:=by
   unfold start at h2
   rw [List.getElem?_append_left (by simpa using hi),List.getElem?_map] at h2
   cases e:vs[i]? with
   | none=>rw [e] at h2; cases h2
   | some a=>rw [e] at h2; cases h2; rfl
  obtain ⟨u,hu,rv⟩:=r.get ha
  have hp:ps[i]?=some y:=by
   rw [← S.pre,List.getElem?_take_of_lt (by omega)]; exact h1
  have ndP:ps.Nodup:=by rw [← S.pre]; exact S.nd.sublist (List.take_sublist _ _)
  refine ⟨u,rv,?_⟩
  rcases S.par y (List.mem_of_getElem? hp) with k | k
  ·exact .inl ⟨k,bindL_get ndP hp hu k⟩
  ·obtain ⟨c,e⟩:=cell_has (n:=s.heap.objs.size + 1) k
   refine .inr ⟨.inl k,c,e,?_⟩
   have q:=x.cell y c e
   rw [bindC_get ndP hp hu (by show scope.names.lookup y≠_; rw [k]; decide)] at q
   exact q
 ·exact e0.hok.fresh (Nat.le_of_lt (x.above y c (PySem.mem_of_lookup h)))
 ·unfold start
  show _=N.length
  rw [List.length_append,List.length_map,List.length_replicate]
  omega
theorem fn_of {CX:CXT} {P:Program} {w:World} {K:PySem.W.Frag} {mg:Str→Option Value} {base:Heap} {k:Nat} {f:Addr} {name qual:Str} {params:Arguments} {body:List Stmt} {scope:Scope} {dV kV doc pm cdv ct oc:Value} {an od:Option Addr}
  {osl:Array (Option Value)} {N ps:List Str} {sp:Sp} (lk:K.lookup f=some ⟨oc,od,.func (PySem.W.fnOf name qual params body scope dV kV doc pm an cdv ct),osl⟩) (hcd:PySem.W.codeIn K cdv qual=true) (S:FnScope N ps scope)
  (len:∀ vs H Q E,sp vs H Q E→vs.length=ps.length)
  (hbody:∀ (A:Around) (outer:List Env) (s:Shared) (H:Hp) (vs:List V) (Q:VK) (E:XK),Room k (A.deeper (envOfC qual scope s.heap.objs.size f cdv))→sp vs H Q E →
   ∃ t,PSs (cxOf CX P w K mg base N qual scope f cdv A outer s H E) body t∧t { nx:=fun _ H'=>Q .non H',rt:=Q } (start N vs) H) :
  FnOk P w K mg base CX (k + 1) f (PySem.W.fnOf name qual params body scope dV kV doc pm an cdv ct) ps sp:=by
 refine ⟨len,fun A outer s H args us vs Q E hr e0 hb r hsp=>?_⟩
 have hl:=len _ _ _ _ hsp
 have KX:K.In s.heap:=e0.mod.kin.keeps fun b o e=>(e0.bs b o e).1
 have lim:s.heap.NoLimit:=e0.mod.nolimit.keeps fun b o e=>(e0.bs b o e).1
 have hkind:∀ y∈ps.zip us,scope.names.lookup y.1=some .local∨(scope.names.lookup y.1=some .cell∧((cellsFrom (s.heap.objs.size + 1) scope.names []).lookup y.1).isSome=true):=fun ⟨n,v⟩ hy=>by
  rcases S.par n (List.of_mem_zip hy).1 with q | q
  ·exact .inl q
  ·exact .inr ⟨q,PySem.W.cellsFrom_some _ _ _ (.inl q)⟩
 refine codeAny_call_function hr.depth (KX _ _ lk) rfl S.co S.gen rfl (PySem.W.codeRec_of KX hcd) (hb _ _ _ _ ?_)
 refine wpAny_newFunctionEnv_cells S.kind hkind fun env he s1 x=>?_
 subst he
 refine ⟨lim.keeps x.toInCall.keep,codeAny_func ?_⟩
 obtain ⟨t,ht,hq⟩:=hbody A outer s H vs Q E (hr.deeper _) hsp
 have I:Inv (cxOf CX P w K mg base N qual scope f cdv A outer s H E) [] (start N vs) H s1:=inv_start S hr.hd e0 hl r x
 refine wpAny_mono (ht [] s1 (start N vs) H _ I hq) (fun fl s' hs=>?_) fun e s' hs=>hs
 have fin:∀ {σ':St} {H':Hp} {v:V} {u:Value},Inv (cxOf CX P w K mg base N qual scope f cdv A outer s H E) [] σ' H' s'→RelV v u→Q v H'→CE outer P w H s Q u s' :=
  fun {σ' H' v u} J rv q=>⟨v,H',J.os,J.bare,J.base,J.hok,rv,q⟩
 cases fl with
 | ret u =>
  obtain ⟨v,σ',H',J,rv,q⟩:=hs
  exact fin J rv q
 | next =>
  obtain ⟨σ',H',J,q⟩:=hs
  exact fin (v:=V.non) (u:=Value.none) J rfl q
 | brk =>
  obtain ⟨_,_,_,q⟩:=hs
  exact False.elim q
 | cont =>
  obtain ⟨_,_,_,q⟩:=hs
  exact False.elim q
end L2
namespace L2
open PySem PySem.Spec PyProof.Rows
section
variable {X:Cx} {x:Str} {p pos:Pos} {e:Expr} {es:List Expr} {t:TA} {id T:String} {r:List V→Hp→VK→Prop}
noncomputable def tCB (r:List V→Hp→VK→Prop) (t:TA):TE:=fun σ H Q=>t σ H fun vs H1=>r vs H1 Q
theorem pe_callB (hc:CallR X (.builtin id) r) (hg:Gl X x) (hm:X.mg x=none) (hv:bootBuiltins x=some (.builtin id)) (ha:PA X (e :: es) t) (hn:x≠"__name__":=by decide) (hdb:(x == ("__debug__":Str))=false:=by decide)
  (he:starEach (e :: es) X.env=(false,eval e X.env) :: starEach es X.env:=by rfl) (hpl:(backTo pos (starEach es X.env)).any (·.1)=false:=by rfl):PE X (.Call (.Name x p) (e :: es) [] pos) (tCB r t):=by
 intro pins s σ H Q I h
 refine wpAny_Call_Name_kw (ld_blt I hg hm hv ?_ hn hdb)
 refine PyProof.Rows.callWith_builtin1 (thn (ha pos pins s σ H _ I h) fun us s1 zz17=>?_) he hpl
 obtain ⟨vs,H1,I1,r1,q1⟩:=zz17
 exact hc pins s1 σ H1 vs us Q I1 r1 q1
theorem pe_callTy (hc:CallR X (.type T) r) (hg:Gl X x) (hm:X.mg x=none) (hv:bootBuiltins x=some (.type T)) (ha:PA X (e :: es) t) (hn:x≠"__name__":=by decide) (hdb:(x == ("__debug__":Str))=false:=by decide)
  (he:starEach (e :: es) X.env=(false,eval e X.env) :: starEach es X.env:=by rfl) (hpl:(backTo pos (starEach es X.env)).any (·.1)=false:=by rfl):PE X (.Call (.Name x p) (e :: es) [] pos) (tCB r t):=by
 intro pins s σ H Q I h
 refine wpAny_Call_Name_kw (ld_blt I hg hm hv ?_ hn hdb)
 refine PyProof.Rows.callWith_type1 (thn (ha pos pins s σ H _ I h) fun us s1 zz18=>?_) he hpl
 obtain ⟨vs,H1,I1,r1,q1⟩:=zz18
 exact hc pins s1 σ H1 vs us Q I1 r1 q1
end
end L2
namespace HT
open PySem PyProof.Rows
section
variable {prog:Program} {w:World} {A:Around} {E:Value→Shared→Prop} {s:Shared}
noncomputable def sIx (n d:Nat):Option Int→Nat
 | none=>d
 | some v=>if v < 0 then (v + (n:Int)).toNat else min v.toNat n
theorem sIx_none (n d:Nat):sIx n d none=d:=rfl
theorem sIx_nat (n d k:Nat):sIx n d (some (k:Int))=min k n:=by
 show (if (k:Int) < 0 then ((k:Int) + (n:Int)).toNat else min (k:Int).toNat n)=min k n
 rw [if_neg (by omega),Int.toNat_natCast]
end
end HT
namespace L2
open PySem PySem.Spec PyProof.Rows
noncomputable abbrev TO:=St→Hp→(Option Int→Hp→Prop)→Prop
noncomputable def PO (X:Cx) (e:Option Expr) (t:TO):Prop :=
 ∀ (pins:List (Addr × Obj)) (s:Shared) (σ:St) (H:Hp) (Q:Option Int→Hp→Prop),Inv X pins σ H s→t σ H Q →
  wpAny (model X.prog X.w) X.A (evalPart e X.env) (fun u s'=>∃ o H',Inv X pins σ H' s'∧IsPart u o∧Q o H') X.xe s
noncomputable def tNoPart:TO:=fun _ H Q=>Q none H
noncomputable def tPart (t:TE):TO:=fun σ H Q=>t σ H fun x H1=>∃ i,x=.int i∧Q (some i) H1
theorem intsAre_of {ns:List Int}:∀ {us:List Value},Vals (ns.map V.int) us→IntsAre us ns:=by
 induction ns with
 | nil=>intro us r; rw [List.map_nil] at r; cases r; exact .nil
 | cons n ns ih =>
  intro us r
  rw [List.map_cons] at r
  cases r with
  | cons r1 r2 =>
   obtain ⟨t,e⟩:=r1
   subst e
   exact .cons n t (ih r2)
section
variable {X:Cx} {e:Expr} {te:TE} {lo hi:Option Expr} {tl th:TO} {pos p2:Pos}
theorem po_none:PO X none tNoPart:=by
 intro pins s σ H Q I h
 rw [evalPart_none]
 exact wpAny_pure ⟨none,H,I,.none,h⟩
theorem po_some (h:PE X e te):PO X (some e) (tPart te):=by
 intro pins s σ H Q I hw
 rw [evalPart_some]
 refine thn (h pins s σ H _ I hw) fun u s1 zz9=>?_
 obtain ⟨x,H1,I1,r1,q1⟩:=zz9
 obtain ⟨i,rfl,q⟩:=q1
 obtain ⟨t,rfl⟩:=r1
 exact ⟨some i,H1,I1,.int i t,q⟩
noncomputable def SlR (X:Cx) (r:V→Option Int→Option Int→Hp→VK→Prop):Prop :=
 ∀ (pins:List (Addr × Obj)) (s:Shared) (σ:St) (H:Hp) (x:V) (v vl vu:Value) (lo hi:Option Int) (sl:Addr) (Q:VK),Inv X pins σ H s→RelV x v→s.heap.IsSliceOf sl vl vu .none→IsPart vl lo→IsPart vu hi→r x lo hi H Q →
  ∃ T id,typeLookup (.type T) "__getitem__"=pure (some (.builtin id))∧s.TypeIs v T∧wpAny (model X.prog X.w) X.A (getItem v (.ref sl)) (EP X pins σ Q) X.xe s
noncomputable def tSl (r:V→Option Int→Option Int→Hp→VK→Prop) (te:TE) (tl th:TO):TE:=fun σ H Q=>te σ H fun x H1=>tl σ H1 fun l H2=>th σ H2 fun u H3=>r x l u H3 Q
theorem pe_slice {r:V→Option Int→Option Int→Hp→VK→Prop} (hr:SlR X r) (he:PE X e te) (hl:PO X lo tl) (hu:PO X hi th):PE X (.Subscript e (.Slice lo hi none p2) pos) (tSl r te tl th):=by
 intro pins s σ H Q I h
 refine Subscript_ (thn (he pins s σ H _ I h) fun v s1 zz9=>?_)
 obtain ⟨x,H1,I1,r1,q1⟩:=zz9
 refine wpAny_Slice (thn (hl pins s1 σ H1 _ I1 q1) fun vl s2 zz19=>?_)
 obtain ⟨l,H2,I2,pl,q2⟩:=zz19
 refine thn (hu pins s2 σ H2 _ I2 q2) fun vu s3 zz9=>?_
 obtain ⟨u,H3,I3,pu,q3⟩:=zz9
 rw [evalPart_none]
 refine wpAny_pure ?_
 have I4:Inv X pins σ H3 { s3 with heap:=s3.heap.push { cls:=.type "slice",data:=.fields #[vl,vu,.none] } }:=I3.kept (t':=s3.toks) fun b ob q=>Heap.get?_push_of_some _ q
 obtain ⟨T,id,hT,ht,hg⟩:=hr pins { s3 with heap:=s3.heap.push { cls:=.type "slice",data:=.fields #[vl,vu,.none] } } σ H3 x v vl vu l u s3.heap.objs.size Q I4 r1 (Heap.IsSliceOf.new ..) pl pu q3
 show wpAny (model X.prog X.w) X.A (subscriptTail e (.Slice lo hi none p2) v (.ref s3.heap.objs.size)) (EP X pins σ Q) X.xe { s3 with heap:=s3.heap.push { cls:=.type "slice",data:=.fields #[vl,vu,.none] } }
 exact tail_any (ops:=[.ref s3.heap.objs.size,v]) ht hT hg (by with_unfolding_all rfl)
noncomputable def cutV (xs:List V) (lo hi:Option Int):List V:=(xs.drop (HT.sIx xs.length 0 lo)).take (HT.sIx xs.length xs.length hi - HT.sIx xs.length 0 lo)
theorem cutV_length (xs:List V) (lo hi:Option Int):(cutV xs lo hi).length≤xs.length:=by
 unfold cutV
 rw [List.length_take,List.length_drop]
 omega
end
end L2
namespace L2
open PySem PySem.Spec PyProof.Rows
noncomputable def ixN (n:Nat) (i:Int):Option Nat:=if 0≤i then (if i < n then some i.toNat else none) else if -(n:Int)≤i then some (i + n).toNat else none
noncomputable def atI {α:Type} (xs:List α) (i:Int):Option α:=(ixN xs.length i).bind fun j=>xs[j]?
theorem ixN_seq {n:Nat} {i:Int} {j:Nat} (h:ixN n i=some j):seqIndex? i n=some j∧j < n∧-(n:Int)≤i∧i < n:=by
 unfold ixN at h
 by_cases h0:0≤i
 ·rw [if_pos h0] at h
  by_cases h1:i < n
  ·rw [if_pos h1] at h
   have e:i.toNat=j:=Option.some.inj h
   exact ⟨by rw [seqIndex_of h0 h1,e],by omega,by omega,h1⟩
  ·rw [if_neg h1] at h; cases h
 ·rw [if_neg h0] at h
  by_cases h1:-(n:Int)≤i
  ·rw [if_pos h1] at h
   have e:(i + n).toNat=j:=Option.some.inj h
   exact ⟨by rw [seqIndex_neg (by omega) h1,e],by omega,h1,by omega⟩
  ·rw [if_neg h1] at h; cases h
theorem atI_get {α:Type} {xs:List α} {i:Int} {v:α} (h:atI xs i=some v):∃ j,seqIndex? i xs.length=some j∧xs[j]?=some v∧j < xs.length∧-(xs.length:Int)≤i∧i < xs.length:=by
 unfold atI at h
 cases e:ixN xs.length i with
 | none=>rw [e] at h; cases h
 | some j =>
  rw [e] at h
  obtain ⟨h1,h2,h3,h4⟩:=ixN_seq e
  exact ⟨j,h1,h,h2,h3,h4⟩
theorem atI_nat {α:Type} {xs:List α} {j:Nat} {v:α} (h:xs[j]?=some v):atI xs (j:Int)=some v:=by
 have hj:j < xs.length:=(List.getElem?_eq_some_iff.mp h).1
 have e:ixN xs.length (j:Int)=some j:=by
  unfold ixN
  rw [if_pos (by omega),if_pos (by omega)]; simp
 unfold atI; rw [e]; exact h
noncomputable def PlainIx (b:Expr):Prop:=∀ o i,subscripted b false o i=operate [o,i] (getItem o i)
noncomputable def IxR (X:Cx) (r:R2):Prop :=
 ∀ (value slice:Expr) (pins:List (Addr × Obj)) (s:Shared) (σ:St) (H:Hp) (x y:V) (v u:Value) (Q:VK),Inv X pins σ H s→RelV x v→RelV y u→r x y H Q →
  subscripted slice false v u=operate [v,u] (getItem v u)→wpAny (model X.prog X.w) X.A (subscriptTail value slice v u) (EP X pins σ Q) X.xe s
noncomputable def MtR (X:Cx) (id:String) (r:V→List V→Hp→VK→Prop):Prop :=
 ∀ (pins:List (Addr × Obj)) (s:Shared) (σ:St) (H:Hp) (x:V) (xs:List V) (v:Value) (us:List Value) (Q:VK),Inv X pins σ H s→RelV x v→Vals xs us→r x xs H Q →
  wpAny (model X.prog X.w) X.A (call (.builtin id) (v :: us)) (EP X pins σ Q) X.xe s
section
variable {X:Cx} {a b:Expr} {ta tb:TE} {pos:Pos}
theorem pe_ix {r:R2} (hr:IxR X r) (ha:PE X a ta) (hb:PE X b tb) (hs:PlainIx b):PE X (.Subscript a b pos) (tOp r ta tb):=by
 intro pins s σ H Q I h
 exact Subscript_ (binT ha hb I h fun v u s2 x y H2 I2 rx ry q=>hr a b pins s2 σ H2 x y v u Q I2 rx ry q (hs _ _))
noncomputable def rIxL (K:PySem.W.Frag):R2:=fun x y H Q=>∃ p xs i v,x=.ref p∧y=.int i∧SqL K H p xs∧atI xs i=some v∧Q v H
noncomputable def rIxT (K:PySem.W.Frag):R2:=fun x y H Q=>∃ p xs i v,x=.ref p∧y=.int i∧SqT K H p xs∧atI xs i=some v∧Q v H
theorem ix_list:IxR X (rIxL X.K):=by
 intro value slice pins s σ H x y v u Q I rx ry h hs
 obtain ⟨p,xs,i,z,rfl,rfl,hq,he,q⟩:=h
 cases rx
 obtain ⟨t,rfl⟩:=ry
 obtain ⟨its,r,pl,hz⟩:=I.list hq
 obtain ⟨j,h1,h2,h3,h4,h5⟩:=atI_get he
 obtain ⟨w,ew,rw'⟩:=r.get h2
 have hl:=r.length
 have hn:=line63
 have fin:EP X pins σ Q w s:=⟨z,H,I,rw',q⟩
 by_cases h0:0≤i
 ·have hj:i.toNat=j:=by
   rw [seqIndex_of h0 h5] at h1
   exact Option.some.inj h1
  exact item_listR pl.isList h0 (by omega) (by rw [hj]; simpa using ew) fin hs
 ·have hj:(i + (its.toArray.size:Int)).toNat=j:=by
   rw [seqIndex_neg (by omega) h4] at h1
   rw [List.size_toArray,← hl]
   exact Option.some.inj h1
  exact subscriptTail_builtinR (x:=w) pl.isList.typeIs slot_list_getitem.lookup
   (wpAny_getItem_list_neg (Q:=fun r s'=>r=w∧EP X pins σ Q r s') pl.isList (by omega) (by rw [List.size_toArray] <;> omega) (by omega) (by rw [hj]; simpa using ew) ⟨rfl,fin⟩) hs
theorem ix_tup:IxR X (rIxT X.K):=by
 intro value slice pins s σ H x y v u Q I rx ry h hs
 obtain ⟨p,xs,i,z,rfl,rfl,hq,he,q⟩:=h
 cases rx
 obtain ⟨t,rfl⟩:=ry
 obtain ⟨its,r,pl,hz⟩:=I.tuple hq
 obtain ⟨j,h1,h2,h3,h4,h5⟩:=atI_get he
 obtain ⟨w,ew,rw'⟩:=r.get h2
 have hl:=r.length
 have hn:=line63
 have fin:EP X pins σ Q w s:=⟨z,H,I,rw',q⟩
 exact subscriptTail_builtinR (x:=w) pl.typeIs slot_tuple_getitem.lookup
  (getItem_tuple (j:=j) (Q:=fun r s'=>r=w∧EP X pins σ Q r s') pl (by omega) (by omega) (by rw [List.size_toArray,← hl]; exact h1) (by simpa using ew) ⟨rfl,fin⟩) hs
theorem mapSeq_set (its:List Value) (n j:Nat) (u:Value):Obj.mapSeq (·.setIfInBounds j u) { cls:=.type "list",data:=.seq its.toArray n }={ cls:=.type "list",data:=.seq (its.set j u).toArray n }:=by
 simp [Obj.mapSeq]
theorem Inv.lst {pins:List (Addr × Obj)} {σ:St} {H:Hp} {s:Shared} {p:Addr} {xs:List V} (I:Inv X pins σ H s) (h:H p=some (.lst xs)) :
  ∃ (its:List Value) (n:Nat),Vals xs its∧s.heap.get? p=some { cls:=.type "list",data:=.seq its.toArray n }∧xs.length≤sizeLine:=by
 obtain ⟨z,its,n,r,e⟩:=I.hok p _ h
 exact ⟨its,n,r,e,z⟩
theorem Inv.lstUpd {pins:List (Addr × Obj)} {σ:St} {H:Hp} {s:Shared} {p:Addr} {xs ys:List V} {its its':List Value} {n n':Nat} {f:Obj→Obj} (I:Inv X pins σ H s) (h:H p=some (.lst xs))
  (ho:s.heap.get? p=some { cls:=.type "list",data:=.seq its.toArray n }) (hf:f { cls:=.type "list",data:=.seq its.toArray n }={ cls:=.type "list",data:=.seq its'.toArray n' }) (r:Vals ys its') (hz:ys.length≤sizeLine) (t:Nat) :
  Inv X pins σ (upd H p (.lst ys)) { s with heap:=s.heap.update p f,toks:=t }:=by
 have e:(s.heap.update p f).get? p=some { cls:=.type "list",data:=.seq its'.toArray n' }:=by
  rw [Heap.get?_update_self f ho (by rw [hf] <;> rfl),hf]
 refine I.write (x:=p) (e:=p) (by rw [h]; trivial) (.inl rfl) (fun b u hb q=>(Heap.get?_update_other _ _ (Ne.symm hb)).trans q) ⟨_,e⟩ ?_
 exact ⟨hz,its',n',r,e⟩
noncomputable def rSetL:V→V→V→Hp→(Hp→Prop)→Prop:=fun o i v H Q=>∃ p xs k j,o=.ref p∧i=.int k∧H p=some (.lst xs)∧ixN xs.length k=some j∧Q (upd H p (.lst (xs.set j v)))
theorem set_list:PSet X rSetL:=by
 intro pins s σ H o i v ov iv u Q I ro ri rv h
 obtain ⟨p,xs,k,j,rfl,rfl,hp,hj,q⟩:=h
 cases ro
 obtain ⟨t,rfl⟩:=ri
 obtain ⟨its,n,r,ho,hz⟩:=I.lst hp
 obtain ⟨h1,h2,h3,h4⟩:=ixN_seq hj
 have hl:=r.length
 have hn:=line63
 have I':Inv X pins σ (upd H p (.lst (xs.set j v))) { s with heap:=s.heap.update p (Obj.mapSeq (·.setIfInBounds j u)) } :=
  I.lstUpd hp ho (mapSeq_set its n j u) (r.set rv j) (by rw [List.length_set]; exact hz) s.toks
 by_cases h0:0≤k
 ·have hk:k.toNat=j:=by
   rw [seqIndex_of h0 h4] at h1
   exact Option.some.inj h1
  exact PySem.W.ki_setAt ho h0 (by omega) (by rw [List.size_toArray,← hl]; exact h4) (by rw [hk]; exact ⟨_,I',q⟩)
 ·have hk:(k + (its.toArray.size:Int)).toNat=j:=by
   rw [seqIndex_neg (by omega) h3] at h1
   rw [List.size_toArray,← hl]
   exact Option.some.inj h1
  exact PySem.W.ki_setBack ho (by omega) (by rw [List.size_toArray,← hl]; exact h3) (by omega) (by rw [hk]; exact ⟨_,I',q⟩)
theorem slice_bounds (lo hi:Option Int) (n:Nat):(sliceBounds lo hi none n).1=((HT.sIx n 0 lo:Nat):Int)∧(sliceBounds lo hi none n).2.1=((HT.sIx n n hi:Nat):Int)∧(sliceBounds lo hi none n).2.2=1:=by
 refine ⟨?_,?_,rfl⟩
 ·cases lo with
  | none=>simp [sliceBounds,HT.sIx]
  | some i =>
   simp only [sliceBounds,HT.sIx,Option.getD_none,show (1:Int) > 0 by decide,if_true]
   by_cases h:i < 0
   ·simp only [h,if_true] <;> omega
   ·simp only [h,if_false] <;> omega
 ·cases hi with
  | none=>simp [sliceBounds,HT.sIx]
  | some i =>
   simp only [sliceBounds,HT.sIx,Option.getD_none,show (1:Int) > 0 by decide,if_true]
   by_cases h:i < 0
   ·simp only [h,if_true] <;> omega
   ·simp only [h,if_false] <;> omega
theorem slicePick_cut (its:List Value) (lo hi:Option Int):slicePick its.toArray lo hi none=((its.drop (HT.sIx its.length 0 lo)).take (HT.sIx its.length its.length hi - HT.sIx its.length 0 lo)).toArray:=by
 obtain ⟨h1,h2,h3⟩:=slice_bounds lo hi its.toArray.size
 unfold slicePick
 rw [h1,h2,h3]
 simp only [sliceRange_one,pick_run,List.size_toArray] <;> rfl
noncomputable def rSlL (K:PySem.W.Frag):V→Option Int→Option Int→Hp→VK→Prop:=fun x lo hi H Q=>∃ a xs,x=.ref a∧SqL K H a xs∧∀ p,H p=none→Q (.ref p) (upd H p (.lst (cutV xs lo hi)))
theorem sl_list:SlR X (rSlL X.K):=by
 intro pins s σ H x v vl vu lo hi sl Q I rx hs pl pu h
 obtain ⟨a,xs,rfl,hx,q⟩:=h
 cases rx
 obtain ⟨its,r,ht,hz⟩:=I.list hx
 have hlen:=r.length
 refine ⟨"list",_,slot_list_getitem.lookup,ht.isList.typeIs,?_⟩
 refine wpAny_getItem_list_slice ht.isList hs pl pu .none (by simp) ?_ (by rw [List.size_toArray] <;> omega)
 rw [slicePick_cut,← hlen]
 refine ⟨.ref s.heap.objs.size,_,I.laid (t':=s.toks) (o:=.lst (cutV xs lo hi)) (fun b ob q=>Heap.get?_push_of_some _ q) (Nat.le_refl _) ?_,rfl,q _ (I.hok.fresh (Nat.le_refl _))⟩
 exact ⟨Nat.le_trans (cutV_length xs lo hi) hz,_,0,(r.drop (HT.sIx xs.length 0 lo)).take (HT.sIx xs.length xs.length hi - HT.sIx xs.length 0 lo),Heap.get?_push_size _ rfl⟩
noncomputable def flatV:V→Bool
 | .non=>true
 | .bl _=>true
 | .int _=>true
 | .str _=>true
 | _=>false
noncomputable def eqV:V→V→Bool
 | .non,.non=>true
 | .bl a,.bl b=>a == b
 | .bl a,.int b=>(if a then 1 else 0) == b
 | .int a,.bl b=>a == (if b then 1 else 0)
 | .int a,.int b=>a == b
 | .str a,.str b=>a == b
 | _,_=>false
theorem eqAt_V {A:Around} {s:Shared} {y x:V} {u v:Value} (ry:RelV y u) (rx:RelV x v) (fy:flatV y=true) (fx:flatV x=true):SeqAt.EqAt A s u v (eqV y x):=by
 cases y with
 | non =>
  cases ry
  cases x with
  | non=>cases rx; exact SeqAt.EqAt.same _
  | bl b=>cases rx; exact SeqAt.EqAt.none_bool b
  | int b=>obtain ⟨t,rfl⟩:=rx; exact SeqAt.EqAt.none_int b t
  | str b=>obtain ⟨t,rfl⟩:=rx; exact SeqAt.EqAt.none_str b t
  | _=>exact absurd (show false=true from fx) Bool.false_ne_true
 | bl a =>
  cases ry
  cases x with
  | non=>cases rx; exact SeqAt.EqAt.bool_none a
  | bl b=>cases rx; exact SeqAt.EqAt.bool_bool a b
  | int b=>obtain ⟨t,rfl⟩:=rx; exact SeqAt.EqAt.bool_int a b t
  | str b=>obtain ⟨t,rfl⟩:=rx; exact SeqAt.EqAt.bool_str a b t
  | _=>exact absurd (show false=true from fx) Bool.false_ne_true
 | int a =>
  obtain ⟨t',rfl⟩:=ry
  cases x with
  | non=>cases rx; exact SeqAt.EqAt.int_none a t'
  | bl b=>cases rx; exact SeqAt.EqAt.int_bool a t' b
  | int b=>obtain ⟨t,rfl⟩:=rx; exact SeqAt.EqAt.int_int a t' b t
  | str b=>obtain ⟨t,rfl⟩:=rx; exact SeqAt.EqAt.int_str a t' b t
  | _=>exact absurd (show false=true from fx) Bool.false_ne_true
 | str a =>
  obtain ⟨t',rfl⟩:=ry
  cases x with
  | non=>cases rx; exact SeqAt.EqAt.str_none a t'
  | bl b=>cases rx; exact SeqAt.EqAt.str_bool a t' b
  | int b=>obtain ⟨t,rfl⟩:=rx; exact SeqAt.EqAt.str_int a t' b t
  | str b=>obtain ⟨t,rfl⟩:=rx; exact SeqAt.EqAt.str_str a t' b t
  | _=>exact absurd (show false=true from fx) Bool.false_ne_true
 | _=>exact absurd (show false=true from fy) Bool.false_ne_true
noncomputable def eqU (x:V) (u:Value):Bool:=match u with
 | .none=>eqV .non x
 | .bool b=>eqV (.bl b) x
 | .int i _=>eqV (.int i) x
 | .str z _=>eqV (.str z) x
 | _=>false
theorem eqU_of {x y:V} {u:Value} (r:RelV y u) (f:flatV y=true):eqU x u=eqV y x:=by
 cases y with
 | non=>cases r; rfl
 | bl b=>cases r; rfl
 | int i=>obtain ⟨t,rfl⟩:=r; rfl
 | str z=>obtain ⟨t,rfl⟩:=r; rfl
 | _=>exact absurd (show false=true from f) Bool.false_ne_true
theorem any_eqU {x:V}:∀ {xs:List V} {us:List Value},Vals xs us→xs.all flatV=true→us.any (eqU x)=xs.any fun y=>eqV y x
 | _,_,.nil,_=>rfl
 | y :: xs,u :: us,.cons r t,f=>by
  rw [List.all_cons,Bool.and_eq_true] at f
  rw [List.any_cons,List.any_cons,eqU_of r f.1,any_eqU t f.2]
theorem mem_eqAt {A:Around} {s:Shared} {x:V} {v:Value} (rx:RelV x v) (fx:flatV x=true):∀ {xs:List V} {us:List Value},Vals xs us→xs.all flatV=true→∀ u∈us,SeqAt.EqAt A s u v (eqU x u)
 | _,_,.nil,_=>fun u hu=>by cases hu
 | y :: xs,u :: us,.cons r t,f=>fun u' hu=>by
  rw [List.all_cons,Bool.and_eq_true] at f
  rcases List.mem_cons.mp hu with rfl | hu
  ·rw [eqU_of r f.1]; exact eqAt_V r rx f.1 fx
  ·exact mem_eqAt rx fx t f.2 u' hu
noncomputable def inV (x:V) (xs:List V):Bool:=xs.any fun y=>eqV y x
noncomputable def rIn (K:PySem.W.Frag) (neg:Bool):R2:=fun x y H Q=>∃ p xs,y=.ref p∧(SqL K H p xs∨SqT K H p xs)∧flatV x=true∧xs.all flatV=true∧Q (.bl (if neg then !inV x xs else inV x xs)) H
theorem op_notIn_seq:OpR X (compareOp .NotIn) (rIn X.K true):=by
 intro pins s σ H x y v u Q I rx ry h
 obtain ⟨p,xs,rfl,hq,fx,fs,q⟩:=h
 cases ry
 rcases hq with hq | hq
 ·obtain ⟨its,r,pl,hz⟩:=I.list hq
  refine SeqAt.notIn_listAt (eqU x) pl.isList (fun w hw=>mem_eqAt rx fx r fs w (by simpa using hw)) ⟨.bl _,H,I,rfl,?_⟩
  rw [show its.toArray.any (eqU x)=its.any (eqU x) by simp,any_eqU r fs]
  exact q
 ·obtain ⟨its,r,pl,hz⟩:=I.tuple hq
  refine SeqAt.notIn_tupleAt (eqU x) pl (fun w hw=>mem_eqAt rx fx r fs w (by simpa using hw)) ⟨.bl _,H,I,rfl,?_⟩
  rw [show its.toArray.any (eqU x)=its.any (eqU x) by simp,any_eqU r fs]
  exact q
theorem call_len_seq:CallR X (.builtin "len") (fun xs H Q=>∃ p ys,xs=[.ref p]∧(SqL X.K H p ys∨SqT X.K H p ys)∧Q (.int ys.length) H):=by
 intro pins s σ H xs us Q I r h
 obtain ⟨p,ys,rfl,hq,q⟩:=h
 obtain ⟨u,rfl,rx⟩:=vals1 r
 cases rx
 have hn:=line63
 rcases hq with hq | hq
 ·obtain ⟨its,r',pl,hz⟩:=I.list hq
  have hlen:=r'.length
  exact Calls.call_len_list pl.isList (by simp only [List.size_toArray] <;> omega) ⟨.int ys.length,H,I.tok _,⟨s.toks + 1,by rw [List.size_toArray,hlen]⟩,q⟩
 ·obtain ⟨its,r',pl,hz⟩:=I.tuple hq
  have hlen:=r'.length
  exact len_tuple pl (by simp only [List.size_toArray] <;> omega) ⟨.int ys.length,H,I.tok _,⟨s.toks + 1,by rw [List.size_toArray,hlen]⟩,q⟩
theorem call_list_of:CallR X (.type "list") (fun xs H Q=>∃ p ys,xs=[.ref p]∧(SqL X.K H p ys∨SqT X.K H p ys)∧∀ l,H l=none→Q (.ref l) (upd H l (.lst ys))):=by
 intro pins s σ H xs us Q I r h
 obtain ⟨p,ys,rfl,hq,q⟩:=h
 obtain ⟨u,rfl,rx⟩:=vals1 r
 cases rx
 have fin:∀ (its:List Value),Vals ys its→ys.length≤sizeLine→∀ (h':Heap) (c':Nat),(∀ b o',s.heap.get? b=some o'→h'.get? b=some o') →
   h'.get? s.heap.objs.size=some { cls:=.type "list",dict:=none,data:=.seq its.toArray c',slots:=#[] }→EP X pins σ Q (.ref s.heap.objs.size) { s with heap:=h' }:=fun its r' hz h' c' kp e =>
  ⟨.ref s.heap.objs.size,_,I.laid (t':=s.toks) kp (Nat.le_refl _) (show ObjOk X.prog X.w _ h' _ (.lst ys) from ⟨hz,its,c',r',e⟩),rfl,q _ (I.hok.fresh (Nat.le_refl _))⟩
 rcases hq with hq | hq
 ·obtain ⟨its,r',pl,hz⟩:=I.list hq
  have hlen:=r'.length
  obtain ⟨o,ho,hc,n,hd⟩:=pl.isList
  exact call_list_seq p (.inl rfl) ho hc hd (fun h' c' kp e=>fin its r' hz h' c' kp e) (by simp only [List.size_toArray] <;> omega)
 ·obtain ⟨its,r',pl,hz⟩:=I.tuple hq
  have hlen:=r'.length
  obtain ⟨o,ho,hc,n,hd⟩:=pl
  exact call_list_seq p (.inr rfl) ho hc hd (fun h' c' kp e=>fin its r' hz h' c' kp e) (by simp only [List.size_toArray] <;> omega)
theorem call_tuple_of:CallR X (.type "tuple") (fun xs H Q=>∃ p ys,xs=[.ref p]∧((SqL X.K H p ys∧∀ l,H l=none→Q (.ref l) (upd H l (.tup ys)))∨(SqT X.K H p ys∧Q (.ref p) H))):=by
 intro pins s σ H xs us Q I r h
 obtain ⟨p,ys,rfl,h⟩:=h
 obtain ⟨u,rfl,rx⟩:=vals1 r
 cases rx
 rcases h with ⟨hq,q⟩ | ⟨hq,q⟩
 ·obtain ⟨its,r',pl,hz⟩:=I.list hq
  have hlen:=r'.length
  refine call_tuple_list pl.isList (fun h' kp=>?_) (by simp only [List.size_toArray] <;> omega)
  have I1:Inv X pins σ H { s with heap:=h' }:=I.kept (t':=s.toks) kp
  have I2:Inv X pins σ (upd H h'.objs.size (.tup ys)) { s with heap:=h'.push { cls:=.type "tuple",data:=.seq its.toArray } } :=
   I1.laid (t':=s.toks) (fun b o e=>Heap.get?_push_of_some _ e) (Nat.le_refl _) (show ObjOk X.prog X.w _ _ _ (.tup ys) from ⟨hz,its,r',IsTup.new _ _⟩)
  exact ⟨.ref h'.objs.size,_,I2,rfl,q _ (I1.hok.fresh (Nat.le_refl _))⟩
 ·obtain ⟨its,r',pl,hz⟩:=I.tuple hq
  exact call_tuple_same pl ⟨.ref p,H,I,rfl,q⟩
noncomputable def tyV (K:PySem.W.Frag) (T:String) (x:V) (H:Hp):Prop:=match x with
 | .str _=>T="str"
 | .int _=>T="int"
 | .ref p=>(T="list"∧∃ xs,SqL K H p xs)∨(T="tuple"∧∃ o,K.lookup p=some o∧o.cls=.type "tuple"∧o.dict=none) ∨
   (T="dict"∧((∃ kvs,H p=some (.dK kvs))∨∃ kvs,H p=some (.dT kvs)))∨(T="set"∧∃ S n,H p=some (.set S n))
 | _=>False
theorem tyV_is {pins:List (Addr × Obj)} {σ:St} {H:Hp} {s:Shared} {T:String} {x:V} {v:Value} (I:Inv X pins σ H s) (r:RelV x v) (ty:tyV X.K T x H) :
  s.TypeIs v T∧∀ a,v=.ref a→∃ ob,s.heap.get? a=some ob∧ob.dict=none:=by
 cases x with
 | str z =>
  obtain ⟨t,rfl⟩:=r
  cases (show T="str" from ty)
  exact ⟨typeIs_str s z t,fun _ e=>nomatch e⟩
 | int i =>
  obtain ⟨t,rfl⟩:=r
  cases (show T="int" from ty)
  exact ⟨typeIs_int s i t,fun _ e=>nomatch e⟩
 | ref p =>
  cases r
  rcases ty with ⟨rfl,xs,hq⟩ | ⟨rfl,o,hk,hc,hd⟩ | ⟨rfl,hk⟩ | ⟨rfl,S,n,hk⟩
  ·obtain ⟨its,_,pl,_⟩:=I.list hq
   refine ⟨pl.isList.typeIs,fun a e=>?_⟩
   cases e
   obtain ⟨o,n,e,c,hd,_⟩:=pl
   exact ⟨o,e,hd⟩
  ·refine ⟨⟨o,I.kIn p o hk,hc⟩,fun a e=>?_⟩
   cases e
   exact ⟨o,I.kIn _ o hk,hd⟩
  ·have z:∃ o,s.heap.get? p=some o∧o.ExactDict:=by
    rcases hk with ⟨kvs,hk⟩ | ⟨kvs,hk⟩
    ·obtain ⟨_,_,_,_,o,_,_,e,ex,_⟩:=I.hok p _ hk
     exact ⟨o,e,ex⟩
    ·obtain ⟨_,_,_,_,o,_,_,e,ex,_⟩:=I.hok p _ hk
     exact ⟨o,e,ex⟩
   obtain ⟨o,e,ex⟩:=z
   refine ⟨⟨o,e,ex.1⟩,fun a e2=>?_⟩
   cases e2
   exact ⟨o,e,ex.2.1⟩
  ·obtain ⟨o,_,_,_,e,ex,_⟩:=I.hok p _ hk
   refine ⟨⟨o,e,ex.1⟩,fun a e2=>?_⟩
   cases e2
   exact ⟨o,e,ex.2.1⟩
 | _=>exact False.elim ty
noncomputable def tBM (K:PySem.W.Frag) (T:String) (r:V→List V→Hp→VK→Prop) (to:TE) (t:TA):TE:=fun σ H Q=>to σ H fun x H1=>tyV K T x H1∧t σ H1 fun xs H2=>r x xs H2 Q
variable {o e:Expr} {es:List Expr} {to:TE} {t:TA} {name:Str} {apos cpos:Pos} {T id:String} {r:V→List V→Hp→VK→Prop}
theorem pe_bm (pa:PlainAttrs T) (slot:Slot T name id) (hty:typeOf (.builtin id)=pure (.type "method_descriptor")) (hm:MtR X id r) (ho:PE X o to) (ha:PA X (e :: es) t)
  (hbase:attributeBase o name X.env (eval o X.env)=eval o X.env:=by rfl)
  (hfew:((backTo cpos (starEach (e :: es) X.env)).all (fun x=>!x.1) && (backToKw cpos (keywordEach [] X.env)).all (fun x=>x.1.isSome)
   && decide ((e :: es).length + ([]:List Keyword).length + (if ([]:List Keyword).isEmpty then 0 else 1) < 30))=true:=by rfl)
  (hline:(apos.endLine == cpos.line)=true:=by rfl) (hs:starEach (e :: es) X.env=(false,eval e X.env) :: starEach es X.env:=by rfl) (hplain:(backTo cpos (starEach es X.env)).any (·.1)=false:=by rfl) :
  PE X (.Call (.Attribute o name apos) (e :: es) [] cpos) (tBM X.K T r to t):=by
 intro pins s σ H Q I h
 refine wpAny_Call_method_late hbase hfew hline rfl (thn (ho pins s σ H _ I h) fun v s1 zz9=>?_)
 obtain ⟨x,H1,I1,r1,ty,q1⟩:=zz9
 obtain ⟨h1,h2⟩:=tyV_is I1 r1 ty
 refine ⟨T,id,pa,slot,hty,h1,h2,?_⟩
 have hA:=ha cpos pins s1 σ H1 _ I1 q1
 rw [hs] at hA ⊢
 refine Calls.callWith_builtin (by show (false || (backTo cpos (starEach es X.env)).any (·.1))=false; rw [hplain] <;> rfl) (Calls.evalArgs_plain ?_)
 refine thn hA fun us s2 zz20=>?_
 obtain ⟨vs,H2,I2,r2,q2⟩:=zz20
 exact hm pins s2 σ H2 x vs v us Q I2 r1 r2 q2
end
end L2
namespace L2
open PySem PySem.Spec PyProof.Rows
noncomputable def MtM (X:Cx) (id:String) (r:V→List V→Hp→VK→Prop):Prop :=
 ∀ (pins:List (Addr × Obj)) (s:Shared) (σ:St) (H:Hp) (x:V) (xs:List V) (v:Value) (us:List Value) (Q:VK),Inv X pins σ H s→RelV x v→Vals xs us→r x xs H Q →
  wpAny (model X.prog X.w) X.A (call (.builtin id) (v :: us)) (EP X pins σ Q) X.xe s
theorem Vals.one {x:V} {us:List Value} (h:Vals [x] us):∃ u,us=[u]∧RelV x u:=by
  cases h with
  | cons r t=>cases t; exact ⟨_,rfl,r⟩
theorem Vals.two {x y:V} {us:List Value} (h:Vals [x,y] us):∃ u v,us=[u,v]∧RelV x u∧RelV y v:=by
  cases h with
  | cons r t =>
    obtain ⟨v,rfl,q⟩:=Vals.one t
    exact ⟨_,v,rfl,r,q⟩
theorem Vals.eraseIdx:∀ {xs:List V} {us:List Value} (i:Nat),Vals xs us→Vals (xs.eraseIdx i) (us.eraseIdx i)
 | _,_,_,.nil=>.nil
 | _,_,0,.cons _ t=>t
 | _,_,i + 1,.cons r t=>.cons r (Vals.eraseIdx i t)
theorem Vals.rep {xs:List V} {us:List Value} (h:Vals xs us):∀ k:Nat,Vals (List.replicate k xs).flatten (List.replicate k us).flatten
 | 0=>.nil
 | k + 1=>by
  rw [List.replicate_succ,List.replicate_succ,List.flatten_cons,List.flatten_cons]
  exact Vals.append h (Vals.rep h k)
theorem len_erase {α:Type}:∀ (l:List α) (i:Nat),(l.eraseIdx i).length≤l.length
 | [],_=>Nat.le_refl _
 | _ :: _,0=>Nat.le_succ _
 | _ :: r,i + 1=>Nat.succ_le_succ (len_erase r i)
theorem foldl_rep (its:List Value):∀ (k:Nat) (acc:List Value),
  List.foldl (fun x1 x2=>x1 ++ x2) acc.toArray (List.replicate k its.toArray)=(acc ++ (List.replicate k its).flatten).toArray
 | 0,acc=>by simp
 | k + 1,acc=>by
  have e:acc.toArray ++ its.toArray=(acc ++ its).toArray:=by simp
  have e2:(acc ++ its) ++ (List.replicate k its).flatten=acc ++ (List.replicate (k + 1) its).flatten:=by
   rw [List.replicate_succ,List.flatten_cons,List.append_assoc]
  rw [← e2,← foldl_rep its k (acc ++ its),← e,List.replicate_succ,List.foldl_cons]
section
variable {X:Cx} {pins:List (Addr × Obj)} {σ:St} {H:Hp} {s:Shared} {l b:Addr} {xs ys zs:List V}
theorem Inv.lset {its its':List Value} {n:Nat} {f:Array Value→Array Value} {t':Nat} (I:Inv X pins σ H s) (hH:H l=some (.lst xs))
  (e:s.heap.get? l=some { cls:=.type "list",data:=.seq its.toArray n }) (hf:f its.toArray=its'.toArray) (hv:Vals ys its') (hz:ys.length≤sizeLine) :
  Inv X pins σ (upd H l (.lst ys)) { s with heap:=s.heap.update l (Obj.mapSeq f),toks:=t' }:=by
 have q:=PySem.IsL.update e f
 rw [hf] at q
 refine I.write (x:=l) (e:=l) (by rw [hH]; exact trivial) (.inl rfl) (fun b' u hb hu=>(Heap.get?_update_other s.heap (Obj.mapSeq f) (Ne.symm hb)).trans hu) ⟨_,q⟩ ?_
 exact ⟨hz,its',_,hv,q⟩
theorem Inv.lnew {its:List Value} {t':Nat} (I:Inv X pins σ H s) (hv:Vals ys its) (hz:ys.length≤sizeLine) :
  Inv X pins σ (upd H s.heap.objs.size (.lst ys)) { s with heap:=s.heap.push { cls:=.type "list",data:=.seq its.toArray },toks:=t' } :=
 I.laid (fun _ _ q=>Heap.get?_push_of_some _ q) (Nat.le_refl _) ⟨hz,its,0,hv,Heap.get?_push_size _ rfl⟩
theorem Inv.fresh (I:Inv X pins σ H s):H s.heap.objs.size=none:=I.hok.fresh (Nat.le_refl _)
theorem Inv.lstM (I:Inv X pins σ H s) (hH:H l=some (.lst xs)):xs.length≤sizeLine∧∃ (its:List Value) (n:Nat),Vals xs its∧xs.length=its.length∧s.heap.get? l=some { cls:=.type "list",data:=.seq its.toArray n }:=by
 obtain ⟨z,its,n,r,e⟩:=I.hok l _ hH
 exact ⟨z,its,n,r,r.length,e⟩
theorem notLongL {n:Nat} (h:n≤sizeLine):Builtin.List.listTooLong n=false:=by
 unfold Builtin.List.listTooLong
 exact decide_eq_false (by omega)
end
section
variable {X:Cx}
noncomputable def rAppend:V→List V→Hp→VK→Prop:=fun x vs H Q=>∃ l xs y,x=.ref l∧vs=[y]∧H l=some (.lst xs)∧xs.length < sizeLine∧Q .non (upd H l (.lst (xs ++ [y])))
theorem mt_append:MtM X "list.append" rAppend:=by
 intro pins s σ H x vs v us Q I rx rv h
 obtain ⟨l,xs,y,rfl,rfl,hH,hz,q⟩:=h
 cases rx
 obtain ⟨u,rfl,ru⟩:=rv.one
 obtain ⟨z,its,n,r,hl,e⟩:=I.lstM hH
 refine call_meets F.slot_list_append ⟨_,e,rfl⟩ F.entry_list_append (F.args_list_append_2 _ _) (PySem.list_append l its.toArray n u (by rw [List.size_toArray]; omega)) ⟨e,?_⟩
 refine ⟨.non,_,I.lset (its':=its ++ [u]) hH e (by simp) (r.append (.cons ru .nil)) ?_,rfl,q⟩
 rw [List.length_append,List.length_singleton]
 omega
noncomputable def rExtend:V→List V→Hp→VK→Prop:=fun x vs H Q=>∃ l b xs zs,x=.ref l∧vs=[.ref b]∧H l=some (.lst xs)∧H b=some (.lst zs)∧xs.length + zs.length≤sizeLine∧Q .non (upd H l (.lst (xs ++ zs)))
theorem mt_extend:MtM X "list.extend" rExtend:=by
 intro pins s σ H x vs v us Q I rx rv h
 obtain ⟨l,b,xs,zs,rfl,rfl,hH,hB,hz,q⟩:=h
 cases rx
 obtain ⟨u,rfl,ru⟩:=rv.one
 cases ru
 obtain ⟨z,its,n,r,hl,e⟩:=I.lstM hH
 obtain ⟨z2,its2,n2,r2,hl2,e2⟩:=I.lstM hB
 have hsz:its.toArray.size + its2.toArray.size≤sizeLine:=by rw [List.size_toArray,List.size_toArray]; omega
 have hlong:¬ (!its.toArray.isEmpty && Builtin.List.listTooLong (its.toArray.size + its2.toArray.size))=true:=by
  rw [notLongL hsz,Bool.and_false]
  exact Bool.false_ne_true
 refine call_meets F.slot_list_extend ⟨_,e,rfl⟩ F.entry_list_extend (F.args_list_extend_2 _ _)
  (AutoSeq1.list_extend_list_list_0 l its.toArray n b its2.toArray n2 hlong (by rw [List.size_toArray]; omega) (by omega)) ⟨e,e2,?_⟩
 refine ⟨.non,_,I.lset (its':=its ++ its2) hH e (by simp) (r.append r2) ?_,rfl,q⟩
 rw [List.length_append]
 omega
noncomputable def rPopAt:V→List V→Hp→VK→Prop:=fun x vs H Q=>∃ l xs i k y,x=.ref l∧vs=[.int i]∧H l=some (.lst xs)∧-(2 ^ 63)≤i∧i < 2 ^ 63∧seqIndex? i xs.length=some k∧xs[k]?=some y∧Q y (upd H l (.lst (xs.eraseIdx k)))
theorem mt_popAt:MtM X "list.pop" rPopAt:=by
 intro pins s σ H x vs v us Q I rx rv h
 obtain ⟨l,xs,i,k,y,rfl,rfl,hH,h1,h2,hk,hy,q⟩:=h
 cases rx
 obtain ⟨u,rfl,ru⟩:=rv.one
 obtain ⟨t,rfl⟩:=ru
 obtain ⟨z,its,n,r,hl,e⟩:=I.lstM hH
 obtain ⟨w,hw,rw'⟩:=r.get hy
 refine call_meets F.slot_list_pop ⟨_,e,rfl⟩ F.entry_list_pop (F.args_list_pop_2 _ _)
  (MeetsSeq.list_pop_at l its.toArray n i t k w (fitsIndex_both h1 h2) (by rw [List.size_toArray,← hl]; exact hk) (by rw [← Array.getElem?_toList]; exact hw) (by rw [List.size_toArray]; omega)) ⟨e,?_⟩
 refine ⟨y,_,I.lset (its':=its.eraseIdx k) hH e ?_ (r.eraseIdx k) ?_,rw',q⟩
 ·show its.toArray.eraseIdxIfInBounds k=(its.eraseIdx k).toArray
  rw [List.eraseIdxIfInBounds_toArray]
 ·have:=len_erase xs k
  omega
noncomputable def rCat:R2:=fun x y H Q=>∃ l b xs zs,x=.ref l∧y=.ref b∧H l=some (.lst xs)∧H b=some (.lst zs)∧xs.length + zs.length≤sizeLine∧∀ p,H p=none→Q (.ref p) (upd H p (.lst (xs ++ zs)))
theorem op_cat:OpR X (binaryOp .Add) rCat:=by
 intro pins s σ H x y v u Q I rx ry h
 obtain ⟨l,b,xs,zs,rfl,rfl,hH,hB,hz,q⟩:=h
 cases rx
 cases ry
 obtain ⟨z,its,n,r,hl,e⟩:=I.lstM hH
 obtain ⟨z2,its2,n2,r2,hl2,e2⟩:=I.lstM hB
 refine PySem.P.add_list e e2 ?_ (by rw [List.size_toArray,List.size_toArray]; omega)
 have ea:its.toArray ++ its2.toArray=(its ++ its2).toArray:=by simp
 rw [ea]
 exact ⟨.ref _,_,I.lnew (t':=s.toks) (r.append r2) (by rw [List.length_append]; omega),rfl,q _ I.fresh⟩
noncomputable def rRep:R2:=fun x y H Q=>∃ l k xs,x=.ref l∧y=.int k∧H l=some (.lst xs)∧-(2 ^ 63)≤k∧k < 2 ^ 63∧xs.length * k.toNat≤sizeLine ∧
 ∀ p,H p=none→Q (.ref p) (upd H p (.lst (List.replicate k.toNat xs).flatten))
theorem len_rep {α:Type} (xs:List α) (k:Nat):(List.replicate k xs).flatten.length=k * xs.length:=by
 induction k with
 | zero=>simp
 | succ k ih=>rw [List.replicate_succ,List.flatten_cons,List.length_append,ih,Nat.succ_mul,Nat.add_comm]
theorem op_rep:OpR X (binaryOp .Mult) rRep:=by
 intro pins s σ H x y v u Q I rx ry h
 obtain ⟨l,k,xs,rfl,rfl,hH,h1,h2,hz,q⟩:=h
 cases rx
 obtain ⟨t,rfl⟩:=ry
 obtain ⟨z,its,n,r,hl,e⟩:=I.lstM hH
 have hlen:its.toArray.size * k.toNat≤sizeLine:=by rw [List.size_toArray,← hl]; exact hz
 have hcap:¬ its.toArray.size * k.toNat > (2 ^ 63 - 1) / 8:=by
  have:(sizeLine:Nat)≤(2 ^ 63 - 1) / 8:=by decide
  omega
 have hfit:¬ (!Builtin.List.listFitsIndex k)=true:=by
  rw [fitsIndex_both h1 h2]
  exact Bool.false_ne_true
 have hlong:¬ Builtin.List.listTooLong (its.toArray.size * k.toNat)=true:=by
  rw [notLongL hlen]
  exact Bool.false_ne_true
 have hnew:List.foldl (fun x1 x2=>x1 ++ x2) #[] (List.replicate (if its.toArray.isEmpty=true then 0 else k.toNat) its.toArray)=(List.replicate k.toNat its).flatten.toArray:=by
  have f0:∀ m:Nat,List.foldl (fun x1 x2=>x1 ++ x2) #[] (List.replicate m its.toArray)=(List.replicate m its).flatten.toArray:=fun m=>by
   have:=foldl_rep its m []
   rw [List.nil_append] at this
   exact this
  rw [f0]
  cases its with
  | nil=>simp
  | cons a r'=>rw [if_neg (by simp)]
 refine wpAny_binaryOp_repeat_ref (T:="list") (U:="int") (by decide) ⟨_,e,rfl⟩ (fun s'=>typeIs_int s' k t) noFill_list_mul F.fills_int_mul F.slot_int_rmul repeat_list F.slot_int_index.lookup
  (call_meets F.slot_int_rmul (typeIs_int s k t) F.entry_int_rmul (F.args_int_rmul_2 _ _) (int___rmul___int_list k t l its.toArray n)
   ⟨e,rfl,⟨_,e,rfl⟩,call_meets F.slot_list_mul ⟨_,e,rfl⟩ F.entry_list_mul (F.args_list_mul_2 _ _) (AutoListH.list___mul___list_int_3 l its.toArray n k t hfit hcap hlong) ⟨e,?_⟩⟩)
 rw [hnew]
 exact ⟨.ref _,_,I.lnew (t':=s.toks) (r.rep k.toNat) (by rw [len_rep,Nat.mul_comm]; exact hz),rfl,q _ I.fresh⟩
end
end L2
namespace L2
open PySem PySem.Spec PyProof.Rows
section
variable {κ:Type} [DecidableEq κ]
noncomputable def valV (kvs:List (κ × V)) (k:κ):Option V:=(kvs.find? fun kv=>decide (kv.1=k)).map (·.2)
noncomputable def putK (kvs:List (κ × V)) (k:κ) (v:V):List (κ × V) :=
 if (kvs.any fun kv=>decide (kv.1=k))=true then kvs.map (fun kv=>if kv.1=k then (kv.1,v) else kv) else kvs ++ [(k,v)]
theorem valV_pos {p:κ × V} {r:List (κ × V)} {k:κ} (e:p.1=k):valV (p :: r) k=some p.2:=by simp [valV,List.find?_cons,e]
theorem valV_neg {p:κ × V} {r:List (κ × V)} {k:κ} (e:¬ p.1=k):valV (p :: r) k=valV r k:=by simp [valV,List.find?_cons,e]
theorem valV_any (k:κ):∀ kvs:List (κ × V),(kvs.any fun kv=>decide (kv.1=k))=(valV kvs k).isSome
 | []=>rfl
 | p :: r=>by
  rw [List.any_cons]
  by_cases e:p.1=k
  ·simp only [valV_pos e,decide_eq_true e,Bool.true_or,Option.isSome_some]
  ·rw [valV_neg e,decide_eq_false e,Bool.false_or]; exact valV_any k r
theorem length_putK (kvs:List (κ × V)) (k:κ) (v:V):(putK kvs k v).length≤kvs.length + 1:=by
 unfold putK
 split
 ·rw [List.length_map]; omega
 ·rw [List.length_append,List.length_cons,List.length_nil]; omega
theorem RelO.isSome_eq {o:Option V} {u:Option Value} (r:RelO o u):o.isSome=u.isSome:=by
 cases o with
 | none=>cases u with
  | none=>rfl
  | some _=>exact (show False from r).elim
 | some _=>cases u with
  | none=>exact (show False from r).elim
  | some _=>rfl
theorem RelO.getD {o:Option V} {u:Option Value} {d:V} {d':Value} (r:RelO o u) (rd:RelV d d'):RelV (o.getD d) (u.getD d'):=by
 cases o with
 | none=>cases u with
  | none=>exact rd
  | some _=>exact (show False from r).elim
 | some _=>cases u with
  | none=>exact (show False from r).elim
  | some _=>exact r
theorem KV.val {kvs:List (κ × V)} {vs:List (κ × Value)} (r:KV kvs vs) (k:κ):RelO (valV kvs k) (valueAt vs k):=by
 unfold KV at r
 induction r with
 | nil=>exact True.intro
 | @cons p q ps qs h t ih =>
  obtain ⟨h1,h2⟩:=h
  by_cases e:p.1=k
  ·have e':q.1=k:=h1.symm.trans e
   have b:valueAt (q :: qs) k=some q.2:=by simp [valueAt,List.find?_cons,e']
   rw [valV_pos e,b]; exact h2
  ·have e':¬ q.1=k:=fun z=>e (h1.trans z)
   have b:valueAt (q :: qs) k=valueAt qs k:=by simp [valueAt,List.find?_cons,e']
   rw [valV_neg e,b]; exact ih
theorem KV.any {kvs:List (κ × V)} {vs:List (κ × Value)} (r:KV kvs vs) (k:κ):(kvs.any fun kv=>decide (kv.1=k))=vs.any fun kv=>decide (kv.1=k):=by
 unfold KV at r
 induction r with
 | nil=>rfl
 | cons h t ih=>rw [List.any_cons,List.any_cons,ih,h.1]
theorem KV.repl {kvs:List (κ × V)} {vs:List (κ × Value)} (r:KV kvs vs) (k:κ) {y:V} {u:Value} (ry:RelV y u) :
  KV (kvs.map fun kv=>if kv.1=k then (kv.1,y) else kv) (vs.map fun kv=>if kv.1=k then (kv.1,u) else kv):=by
 unfold KV at r ⊢
 induction r with
 | nil=>exact .nil
 | @cons p q ps qs h t ih =>
  rw [List.map_cons,List.map_cons]
  refine .cons ?_ ih
  obtain ⟨h1,h2⟩:=h
  by_cases e:p.1=k
  ·rw [if_pos e,if_pos (h1.symm.trans e)]; exact ⟨h1,ry⟩
  ·rw [if_neg e,if_neg (fun z=>e (h1.trans z))]; exact ⟨h1,h2⟩
theorem KV.put {kvs:List (κ × V)} {vs:List (κ × Value)} (r:KV kvs vs) (k:κ) {y:V} {u:Value} (ry:RelV y u):KV (putK kvs k y) (stored vs k u):=by
 unfold putK stored
 rw [r.any k]
 by_cases e:(vs.any fun kv=>decide (kv.1=k))=true
 ·rw [if_pos e,if_pos e]; exact r.repl k ry
 ·rw [if_neg e,if_neg e]; exact Paired.snoc r ⟨rfl,ry⟩
theorem KV.length {kvs:List (κ × V)} {vs:List (κ × Value)} (r:KV kvs vs):kvs.length=vs.length:=Paired.length r
end
theorem kV_is {P:Program} {w:World} {k:Key} {u:Value} (r:RelV (kV k) u):(mixKind P w).is k u=true:=by
 cases k with
 | inl i=>obtain ⟨t,e⟩:=(show ∃ t,u=Value.int i t from r); subst e; exact mixKind_int P w i t
 | inr x=>obtain ⟨t,e⟩:=(show ∃ t,u=Value.str x t from r); subst e; exact mixKind_str P w x t
theorem items_are {P:Program} {w:World}:∀ {ks:List Key} {us:List Value},Vals (ks.map kV) us→ItemsAre (mixKind P w) ks us
 | [],_,r=>by rw [List.map_nil] at r; cases r; exact .nil
 | k :: ks,_,r=>by
  rw [List.map_cons] at r
  cases r with
  | cons h t=>exact .cons (kV_is h) (items_are t)
noncomputable abbrev KT (H:Hp):List (List Key × V)→List (List Key × Addr × Value)→Prop:=Paired fun p q=>p.1=q.1∧H q.2.1=some (.tup (p.1.map kV))∧RelV p.2 q.2.2
theorem KT.val {H:Hp} {kvs:List (List Key × V)} {xs:List (List Key × Addr × Value)} (r:KT H kvs xs) (k:List Key):RelO (valV kvs k) ((atKey xs k).map (·.2)):=by
 induction r with
 | nil=>exact True.intro
 | @cons p q ps qs h t ih =>
  obtain ⟨h1,_,h2⟩:=h
  by_cases e:p.1=k
  ·have e':q.1=k:=h1.symm.trans e
   have b:atKey (q :: qs) k=some q.2:=by simp [atKey,List.find?_cons,e']
   rw [valV_pos e,b]; exact h2
  ·have e':¬ q.1=k:=fun z=>e (h1.trans z)
   have b:atKey (q :: qs) k=atKey qs k:=by simp [atKey,List.find?_cons,e']
   rw [valV_neg e,b]; exact ih
theorem KT.repl {H:Hp} {kvs:List (List Key × V)} {xs:List (List Key × Addr × Value)} (r:KT H kvs xs) (k:List Key) {y:V} {u:Value} (ry:RelV y u) :
  KT H (kvs.map fun kv=>if kv.1=k then (kv.1,y) else kv) (xs.map (putAt k u)):=by
 induction r with
 | nil=>exact .nil
 | @cons p q ps qs h t ih =>
  rw [List.map_cons,List.map_cons]
  refine .cons ?_ ih
  obtain ⟨h1,h2,h3⟩:=h
  unfold putAt
  by_cases e:p.1=k
  ·rw [if_pos e,if_pos (h1.symm.trans e)]; exact ⟨h1,h2,ry⟩
  ·rw [if_neg e,if_neg (fun z=>e (h1.trans z))]; exact ⟨h1,h2,h3⟩
theorem KT.put {H:Hp} {kvs:List (List Key × V)} {xs:List (List Key × Addr × Value)} (r:KT H kvs xs) (k:List Key) {b:Addr} {y:V} {u:Value} (hb:H b=some (.tup (k.map kV))) (ry:RelV y u) :
  KT H (putK kvs k y) (storedH xs k b u):=by
 have e:(kvs.any fun kv=>decide (kv.1=k))=(atKey xs k).isSome:=by
  rw [valV_any,(r.val k).isSome_eq,Option.isSome_map]
 unfold putK storedH
 rw [e]
 by_cases q:(atKey xs k).isSome=true
 ·rw [if_pos q,if_pos q]; exact r.repl k ry
 ·rw [if_neg q,if_neg q]; exact Paired.snoc r ⟨rfl,hb,ry⟩
theorem KT.keeps {H H':Hp} {kvs:List (List Key × V)} {xs:List (List Key × Addr × Value)} (r:KT H kvs xs) (ht:∀ b ys,H b=some (.tup ys)→H' b=some (.tup ys)):KT H' kvs xs :=
 Paired.mapP r fun _ _ z=>⟨z.1,ht _ _ z.2.1,z.2.2⟩
section
variable {P:Program} {w:World} {H:Hp} {h:Heap} {a:Addr}
theorem rd_of {u:HO} (ok:HOk P w H h) (e:Rd H a u):ObjOk P w H h a u:=e.ok ok
theorem dk_rd {kvs:List (Key × V)} (ok:HOk P w H h) (e:Rd H a (.dK kvs)):kvs.length≤sizeLine∧(a == sysModules)=false∧∃ vs,KV kvs vs∧h.DictOf (mixKind P w) a vs :=
 show ObjOk P w H h a (.dK kvs) from rd_of ok e
theorem dk_of {kvs:List (Key × V)} (ok:HOk P w H h) (e:H a=some (.dK kvs)):kvs.length≤sizeLine∧(a == sysModules)=false∧∃ vs,KV kvs vs∧h.DictOf (mixKind P w) a vs:=dk_rd ok (.inl e)
theorem key_of {ks:List Key} (ok:HOk P w H h) (e:H a=some (.tup (ks.map kV))):(tupleKind (mixKind P w)).is h ks a:=by
 obtain ⟨_,its,r,o,h1,h2,n,h3⟩:=(show ObjOk P w H h a (.tup (ks.map kV)) from ok a _ e)
 exact ⟨o,its.toArray,n,h1,h2,h3,by simpa using items_are r⟩
theorem dt_rd {kvs:List (List Key × V)} (ok:HOk P w H h) (e:Rd H a (.dT kvs)):kvs.length≤sizeLine∧(a == sysModules)=false ∧
  ∃ xs,KT H kvs xs∧h.DictOfH (tupleKind (mixKind P w)) a xs:=by
 obtain ⟨z,y,xs,r,o,es,ep,h1,h2,h3,h4,h5⟩:=(show ObjOk P w H h a (.dT kvs) from rd_of ok e)
 refine ⟨z,y,xs,r,o,es,ep,h1,h2,h3,h4,fun x hx=>?_,h5⟩
 have all:∀ {l:List (List Key × V)} {m:List (List Key × Addr × Value)},KT H l m→∀ x∈m,(tupleKind (mixKind P w)).is h x.1 x.2.1:=by
  intro l m q
  induction q with
  | nil=>intro x hx; exact nomatch hx
  | @cons p q ps qs hq t ih =>
   intro x hx
   rcases List.mem_cons.mp hx with e | hx
   ·subst e
    exact key_of ok (by rw [← hq.1]; exact hq.2.1)
   ·exact ih x hx
 exact all r x hx
theorem dt_of {kvs:List (List Key × V)} (ok:HOk P w H h) (e:H a=some (.dT kvs)):kvs.length≤sizeLine∧(a == sysModules)=false ∧
  ∃ xs,KT H kvs xs∧h.DictOfH (tupleKind (mixKind P w)) a xs:=dt_rd ok (.inl e)
end
noncomputable def DGet (H:Hp) (a:Addr) (y:V) (r:Option V):Prop :=
 (∃ kvs k,Rd H a (.dK kvs)∧y=kV k∧r=valV kvs k)∨∃ kvs k b,Rd H a (.dT kvs)∧y=.ref b∧H b=some (.tup (k.map kV))∧r=valV kvs k
noncomputable def DPut (H:Hp) (a:Addr) (y v:V) (H':Hp):Prop :=
 (∃ kvs k,H a=some (.dK kvs)∧y=kV k∧kvs.length < sizeLine∧H'=upd H a (.dK (putK kvs k v))) ∨
 ∃ kvs k b,H a=some (.dT kvs)∧y=.ref b∧H b=some (.tup (k.map kV))∧kvs.length < sizeLine∧H'=upd H a (.dT (putK kvs k v))
theorem DGet.k {H:Hp} {a:Addr} {kvs:List (Key × V)} {k:Key} (e:H a=some (.dK kvs)):DGet H a (kV k) (valV kvs k):=.inl ⟨kvs,k,.inl e,rfl,rfl⟩
theorem DPut.k {H:Hp} {a:Addr} {kvs:List (Key × V)} {k:Key} {v:V} (e:H a=some (.dK kvs)) (hl:kvs.length < sizeLine):DPut H a (kV k) v (upd H a (.dK (putK kvs k v))):=.inl ⟨kvs,k,e,rfl,hl,rfl⟩
section
variable {X:Cx} {pins:List (Addr × Obj)} {σ:St} {H:Hp} {s:Shared} {a:Addr} {y v:V} {u r:Value} {o:Option V} {A:Around} {E:Value→Shared→Prop}
theorem Inv.big (I:Inv X pins σ H s):sysModules < s.heap.objs.size:=by
 have h:mainGlobals < s.heap.objs.size:=(I.mod.glob.keeps I.bk).lt
 exact Nat.lt_trans (by decide) h
theorem d_getItem {Q:Value→Shared→Prop} (hu:A.units + 1 < cLine) (I:Inv X pins σ H s) (g:DGet H a y (some v)) (ry:RelV y u) (h:∀ w' s',Inv X pins σ H s'→RelV v w'→Q w' s') :
  wpAny (model X.prog X.w) A (getItem (.ref a) u) Q E s:=by
 rcases g with ⟨kvs,k,e,ey,l⟩ | ⟨kvs,k,b,e,ey,eb,l⟩
 ·subst ey
  obtain ⟨z,hd,vs,rel,dd⟩:=dk_rd I.hok e
  obtain ⟨w',hw,rw'⟩:=RelO.some_of (v:=v) (o:=valueAt vs k) (by rw [l]; exact rel.val k)
  exact wpAny_getItem_of (kV_is ry) dd.mapOf hw (h w' _ (I.tok _) rw')
 ·subst ey
  cases (show u=Value.ref b from ry)
  obtain ⟨z,hd,xs,rel,dd⟩:=dt_rd I.hok e
  obtain ⟨w',hw,rw'⟩:=RelO.some_of (v:=v) (o:=(atKey xs k).map (·.2)) (by rw [l]; exact rel.val k)
  obtain ⟨p,hp,hp2⟩:=Option.map_eq_some_iff.mp hw
  refine wpAny_getItem_heap (tupleKind_room_in1 hu) (key_of I.hok eb) dd hp ?_
  rw [hp2]
  exact h w' _ (I.tok _) rw'
theorem d_in {Q:Value→Shared→Prop} (hu:A.units + 1 < cLine) (I:Inv X pins σ H s) (g:DGet H a y o) (ry:RelV y u) (h:∀ s',Inv X pins σ H s'→Q (.bool o.isSome) s') :
  wpAny (model X.prog X.w) A (compareOp .In u (.ref a)) Q E s:=by
 rcases g with ⟨kvs,k,e,ey,l⟩ | ⟨kvs,k,b,e,ey,eb,l⟩
 ·subst ey
  obtain ⟨z,hd,vs,rel,dd⟩:=dk_rd I.hok e
  refine wpAny_in_of (kV_is ry) hd dd.mapOf ?_
  rw [← (rel.val k).isSome_eq,← l]
  exact h _ (I.tok _)
 ·subst ey
  cases (show u=Value.ref b from ry)
  obtain ⟨z,hd,xs,rel,dd⟩:=dt_rd I.hok e
  refine wpAny_in_heap (tupleKind_room_in1 hu) (key_of I.hok eb) hd dd ?_
  have q:=(rel.val k).isSome_eq
  rw [Option.isSome_map] at q
  rw [← q,← l]
  exact h _ (I.tok _)
theorem d_notIn {Q:Value→Shared→Prop} (hu:A.units + 1 < cLine) (I:Inv X pins σ H s) (g:DGet H a y o) (ry:RelV y u) (h:∀ s',Inv X pins σ H s'→Q (.bool (!o.isSome)) s') :
  wpAny (model X.prog X.w) A (compareOp .NotIn u (.ref a)) Q E s:=by
 rcases g with ⟨kvs,k,e,ey,l⟩ | ⟨kvs,k,b,e,ey,eb,l⟩
 ·subst ey
  obtain ⟨z,hd,vs,rel,dd⟩:=dk_rd I.hok e
  refine wpAny_notIn_of (kV_is ry) hd dd.mapOf ?_
  rw [← (rel.val k).isSome_eq,← l]
  exact h _ (I.tok _)
 ·subst ey
  cases (show u=Value.ref b from ry)
  obtain ⟨z,hd,xs,rel,dd⟩:=dt_rd I.hok e
  refine wpAny_notIn_heap (tupleKind_room_in1 hu) (key_of I.hok eb) hd dd ?_
  have q:=(rel.val k).isSome_eq
  rw [Option.isSome_map] at q
  rw [← q,← l]
  exact h _ (I.tok _)
theorem d_write {h':Heap} {t':Nat} {ob:HO} (I:Inv X pins σ H s) (mu:Mut (H a)) (hs:Heap.SameBut a s.heap h') (he:∃ q,h'.get? a=some q) (new:ObjOk X.prog X.w (upd H a ob) h' a ob) :
  Inv X pins σ (upd H a ob) { s with heap:=h',toks:=t' } :=
 I.write (x:=a) (e:=a) mu (.inl rfl) (fun b q hb z=>(hs.2 b hb).trans z) he new
theorem dk_new {P:Program} {w:World} {H':Hp} {h':Heap} {kvs:List (Key × V)} {vs:List (Key × Value)} (z:kvs.length≤sizeLine) (hd:(a == sysModules)=false) (rel:KV kvs vs) (dd:h'.DictOf (mixKind P w) a vs) :
  ObjOk P w H' h' a (.dK kvs):=⟨z,hd,vs,rel,dd⟩
theorem d_setItem {H':Hp} {Q:Unit→Shared→Prop} (hu:A.units + 1 < cLine) (I:Inv X pins σ H s) (g:DPut H a y v H') (ry:RelV y u) (rv:RelV v r) (h:∀ s',Inv X pins σ H' s'→Q () s') :
  wpAny (model X.prog X.w) A (setItem (.ref a) u r) Q E s:=by
 rcases g with ⟨kvs,k,e,ey,l,eH⟩ | ⟨kvs,k,b,e,ey,eb,l,eH⟩
 ·subst ey eH
  obtain ⟨z,hd,vs,rel,dd⟩:=dk_of I.hok e
  have hz:vs.length≤sizeLine:=by rw [← rel.length]; exact z
  have hl:(putK kvs k v).length≤sizeLine:=by have:=length_putK kvs k v; omega
  refine wpAny_setItem_pairs (hsz:=hz) (kV_is ry) dd fun h' dd' hs=>h _ ?_
  have he:∃ q,h'.get? a=some q:=let ⟨q,_,_,hq,_⟩:=dd'; ⟨q,hq⟩
  exact d_write I (by rw [e]; exact True.intro) hs he (dk_new hl hd (rel.put k rv) dd')
 ·subst ey eH
  cases (show u=Value.ref b from ry)
  obtain ⟨z,hd,xs,rel,dd⟩:=dt_of I.hok e
  have hz:xs.length≤sizeLine:=by rw [← Paired.length rel]; exact z
  have hl:(putK kvs k v).length≤sizeLine:=by have:=length_putK kvs k v; omega
  refine wpAny_setItem_heap (hsz:=hz) (tupleKind_room_in1 hu) (key_of I.hok eb) dd fun h' dd' hs=>h _ ?_
  obtain ⟨q,es,ep,hq,h2,h3,h4,_,h5⟩:=dd'
  refine d_write I (by rw [e]; exact True.intro) hs ⟨q,hq⟩ ⟨hl,hd,_,(rel.put k eb rv).keeps fun c ys ec=>?_,q,es,ep,hq,h2,h3,h4,h5⟩
  rw [upd_ne (ne_of ec e (fun z=>nomatch z))]
  exact ec
end
noncomputable def NoSl (i:Expr):Prop:=∀ ov iv,subscripted i false ov iv=operate [ov,iv] (getItem ov iv)
theorem subD_of {prog:Program} {w:World} {A:Around} {E:Value→Shared→Prop} {s:Shared} {env:Env} {value slice:Expr} {pos:Pos} {T id:String} {Q:Value→Shared→Prop}
  (hl:typeLookup (.type T) "__getitem__"=pure (some (.builtin id))) (hs:NoSl slice)
  (h:wpAny (model prog w) A (eval value env) (fun o s₁=>wpAny (model prog w) A (eval slice env) (fun i s₂=>s₂.TypeIs o T∧wpAny (model prog w) A (getItem o i) Q E s₂) E s₁) E s) :
  wpAny (model prog w) A (eval (.Subscript value slice pos) env) Q E s:=by
 refine Subscript_ (wpAny_mono h (fun o s₁ h₁=>wpAny_mono h₁ (fun i s₂ h₂=>?_) fun _ _ x=>x) fun _ _ x=>x)
 obtain ⟨hT,h₂⟩:=h₂
 unfold subscriptTail
 refine wpAny_bind ?_
 rw [getitemInPython_of_ne hT.not_modules]
 refine wpAny_bind (wpAny_specialOf hT hl ?_)
 have fin:wpAny (model prog w) A (subscripted slice false o i) (fun r s₃=>wpAny (model prog w) A (letTemporaryGo value o r >>= fun _=>pure r) Q E s₃) E s₂:=by
  rw [hs o i]
  exact wpAny_operating (wpAny_mono h₂ (fun r s₃ h₃=>wpAny_bind (wpAny_letTemporaryGo (wpAny_pure h₃))) fun _ _ x=>x)
 first
  | exact wpAny_pure (wpAny_bind fin)
  | exact wpAny_bind (wpAny_pure (wpAny_bind fin))
  | exact wpAny_bind fin
theorem dict_typeIs {X:Cx} {pins:List (Addr × Obj)} {σ:St} {H:Hp} {s:Shared} {a:Addr} {y:V} {o:Option V} (I:Inv X pins σ H s) (g:DGet H a y o):s.TypeIs (.ref a) "dict":=by
 rcases g with ⟨kvs,k,e,_,_⟩ | ⟨kvs,k,b,e,_,_,_⟩
 ·obtain ⟨_,_,vs,_,dd⟩:=dk_rd I.hok e
  exact dd.typeIs
 ·obtain ⟨_,_,xs,_,dd⟩:=dt_rd I.hok e
  exact dd.typeIs
noncomputable def tDGet (td ty:TE):TE:=fun σ H Q=>td σ H fun x H1=>ty σ H1 fun y H2=>∃ a v,x=.ref a∧DGet H2 a y (some v)∧Q v H2
noncomputable def tDIn (ty td:TE):TE:=fun σ H Q=>ty σ H fun y H1=>td σ H1 fun x H2=>∃ a o,x=.ref a∧DGet H2 a y o∧Q (.bl o.isSome) H2
noncomputable def tDNotIn (ty td:TE):TE:=fun σ H Q=>ty σ H fun y H1=>td σ H1 fun x H2=>∃ a o,x=.ref a∧DGet H2 a y o∧Q (.bl (!o.isSome)) H2
noncomputable def sDPut (td ty tv:TE):TS:=fun D σ H=>tv σ H fun v H1=>td σ H1 fun x H2=>ty σ H2 fun y H3=>∃ a H4,x=.ref a∧DPut H3 a y v H4∧D.nx σ H4
section
variable {X:Cx} {o i e value:Expr} {pos pos' tpos:Pos} {td ty tv:TE}
theorem pe_dget (hu:X.A.units + 1 < cLine) (ho:PE X o td) (hi:PE X i ty) (hs:NoSl i):PE X (.Subscript o i pos) (tDGet td ty):=by
 intro pins s σ H Q I h
 refine subD_of PySem.F.slot_dict_getitem.lookup hs (thn (ho pins s σ H _ I h) fun u s1 zz21=>?_)
 obtain ⟨x,H1,I1,rx,q1⟩:=zz21
 refine thn (hi pins s1 σ H1 _ I1 q1) fun iv s2 zz9=>?_
 obtain ⟨y,H2,I2,ry,a,v,ex,g,q2⟩:=zz9
 subst ex
 obtain rfl:u=Value.ref a:=rx
 exact ⟨dict_typeIs I2 g,d_getItem hu I2 g ry fun w' s3 I3 rw'=>⟨v,H2,I3,rw',q2⟩⟩
theorem pc_din (hu:X.A.units + 1 < cLine) (hi:PE X i ty) (ho:PE X o td):PC X .In i o (tDIn ty td):=by
 intro pins s σ H Q I h
 refine thn (hi pins s σ H _ I h) fun iv s1 zz22=>?_
 obtain ⟨y,H1,I1,ry,q1⟩:=zz22
 refine thn (ho pins s1 σ H1 _ I1 q1) fun u s2 zz9=>?_
 obtain ⟨x,H2,I2,rx,a,ov,ex,g,q2⟩:=zz9
 subst ex
 obtain rfl:u=Value.ref a:=rx
 exact d_in hu I2 g ry fun s3 I3=>⟨.bl ov.isSome,H2,I3,rfl,q2⟩
theorem pc_dnotin (hu:X.A.units + 1 < cLine) (hi:PE X i ty) (ho:PE X o td):PC X .NotIn i o (tDNotIn ty td):=by
 intro pins s σ H Q I h
 refine thn (hi pins s σ H _ I h) fun iv s1 zz23=>?_
 obtain ⟨y,H1,I1,ry,q1⟩:=zz23
 refine thn (ho pins s1 σ H1 _ I1 q1) fun u s2 zz9=>?_
 obtain ⟨x,H2,I2,rx,a,ov,ex,g,q2⟩:=zz9
 subst ex
 obtain rfl:u=Value.ref a:=rx
 exact d_notIn hu I2 g ry fun s3 I3=>⟨.bl (!ov.isSome),H2,I3,rfl,q2⟩
theorem ps_dput (hu:X.A.units + 1 < cLine) (ho:PE X o td) (hi:PE X i ty) (hv:PE X value tv) (hs:swapsWith value (some (.Subscript o i pos')) pos.line X.env=pure false) :
  PS X (.Assign [.Subscript o i pos'] value pos) (sDPut td ty tv):=by
 intro pins s σ H D I h
 refine wpAny_Assign_Subscript (thn (hv pins s σ H _ I h) fun r s1 zz24=>?_) hs
 obtain ⟨v,H1,I1,rv,q1⟩:=zz24
 refine thn (ho pins s1 σ H1 _ I1 q1) fun u s2 zz25=>?_
 obtain ⟨x,H2,I2,rx,q2⟩:=zz25
 refine thn (hi pins s2 σ H2 _ I2 q2) fun iv s3 zz26=>?_
 obtain ⟨y,H3,I3,ry,a,H4,ex,g,q3⟩:=zz26
 subst ex
 obtain rfl:u=Value.ref a:=rx
 exact d_setItem hu I3 g ry rv fun s4 I4=>⟨σ,H4,I4,q3⟩
end
theorem dk_empty {P:Program} {w:World} {H:Hp} (h:Heap) (hb:sysModules < h.objs.size):ObjOk P w H (h.push { cls:=.type "dict",data:=.dict #[] }) h.objs.size (.dK []) :=
 ⟨Nat.zero_le _,beq_eq_false_iff_ne.mpr (Ne.symm (Nat.ne_of_lt hb)),[],.nil,Heap.DictOf.new h⟩
noncomputable def tDNewK:TE:=fun _ H Q=>∀ p,H p=none→Q (.ref p) (upd H p (.dK []))
section
variable {X:Cx} {pos:Pos}
theorem pe_dnewK:PE X (.Dict [] [] pos) tDNewK:=fun pins s σ H Q I h =>
 wpAny_Dict_empty ⟨.ref s.heap.objs.size,_,I.laid (a:=s.heap.objs.size) (o:=.dK []) (t':=s.toks) (fun _ _ q=>Heap.get?_push_of_some _ q) (Nat.le_refl _) (dk_empty s.heap I.big),rfl,h _ (I.hok.fresh (Nat.le_refl _))⟩
end
noncomputable def tPairs:List (TE × TE)→St→Hp→(List (V × V)→Hp→Prop)→Prop
 | [],_,H,Q=>Q [] H
 | (tk,tv) :: r,σ,H,Q=>tk σ H fun x H1=>tv σ H1 fun y H2=>tPairs r σ H2 fun ps H3=>Q ((x,y) :: ps) H3
noncomputable abbrev VV:List (V × V)→List (Value × Value)→Prop:=Paired fun p q=>RelV p.1 q.1∧RelV p.2 q.2
noncomputable def PPs (X:Cx) (pos:Pos) (keys:List (Option Expr)) (values:List Expr) (trs:List (TE × TE)):Prop :=
 ∀ (pins:List (Addr × Obj)) (s:Shared) (σ:St) (H:Hp) (Q:List (V × V)→Hp→Prop),Inv X pins σ H s→tPairs trs σ H Q →
  wpAny (model X.prog X.w) X.A (evalPairs (pairTrees keys values X.env pos)) (fun vs s'=>∃ ps H',Inv X pins σ H' s'∧VV ps vs∧Q ps H') X.xe s
theorem pps_nil {X:Cx} {pos:Pos}:PPs X pos [] [] []:=fun pins s σ H Q I h=>pairTrees_nil_walk ⟨[],H,I,.nil,h⟩
theorem pps_cons {X:Cx} {pos:Pos} {k v:Expr} {ks:List (Option Expr)} {vs:List Expr} {tk tv:TE} {trs:List (TE × TE)} (hk:PE X k tk) (hv:PE X v tv) (hr:PPs X pos ks vs trs) :
  PPs X pos (some k :: ks) (v :: vs) ((tk,tv) :: trs):=fun pins s σ H Q I h =>
 pairTrees_cons_walk (thn (hk pins s σ H _ I h) fun u s1 ⟨x,H1,I1,rx,q1⟩=>thn (hv pins s1 σ H1 _ I1 q1) fun w2 s2 ⟨y,H2,I2,ry,q2⟩ =>
  thn (hr pins s2 σ H2 _ I2 q2) fun ws s3 ⟨ps,H3,I3,rel,q3⟩=>⟨(x,y) :: ps,H3,I3,.cons ⟨rx,ry⟩ rel,q3⟩)
noncomputable def mergeK (kvs more:List (Key × V)):List (Key × V):=more.foldl (fun acc kv=>putK acc kv.1 kv.2) kvs
theorem KV.merge:∀ {more:List (Key × V)} {rs:List (Key × Value)} {kvs:List (Key × V)} {vs:List (Key × Value)},KV more rs→KV kvs vs→KV (mergeK kvs more) (merged vs rs):=by
 intro more rs kvs vs r
 unfold KV at r
 induction r generalizing kvs vs with
 | nil=>intro q; exact q
 | @cons p q ps qs h t ih =>
  intro r0
  have e:KV (putK kvs p.1 p.2) (stored vs q.1 q.2):=by
   have:=r0.put p.1 h.2
   rw [← h.1]; exact this
  exact ih e
theorem length_mergeK:∀ (more kvs:List (Key × V)),(mergeK kvs more).length≤kvs.length + more.length
 | [],kvs=>by show kvs.length≤kvs.length + 0; omega
 | p :: r,kvs=>by
  have h1:=length_mergeK r (putK kvs p.1 p.2)
  have h2:=length_putK kvs p.1 p.2
  show (mergeK (putK kvs p.1 p.2) r).length≤_
  rw [List.length_cons]; omega
theorem carries_of {P:Program} {w:World}:∀ {kvs:List (Key × V)} {ws:List (Value × Value)},VV (kvs.map fun kv=>(kV kv.1,kv.2)) ws→∃ rs,Carries (mixKind P w) ws rs∧KV kvs rs
 | [],_,r=>by rw [List.map_nil] at r; cases r; exact ⟨[],True.intro,.nil⟩
 | p :: kvs,_,r=>by
  rw [List.map_cons] at r
  cases r with
  | @cons a b as bs h t =>
   obtain ⟨rs,c,q⟩:=carries_of (P:=P) (w:=w) t
   obtain ⟨b1,b2⟩:=b
   exact ⟨(p.1,b2) :: rs,⟨kV_is h.1,rfl,c⟩,.cons ⟨rfl,h.2⟩ q⟩
noncomputable def tDisp (trs:List (TE × TE)):TE:=fun σ H Q=>∀ p,H p=none→tPairs trs σ (upd H p (.dK [])) fun ps H2=>H2 p=some (.dK [])∧∃ kvs:List (Key × V),ps=kvs.map (fun kv=>(kV kv.1,kv.2))∧kvs.length≤15∧Q (.ref p) (upd H2 p (.dK (mergeK [] kvs)))
theorem pe_disp {X:Cx} {pos:Pos} {keys:List (Option Expr)} {values:List Expr} {trs:List (TE × TE)} (h:PPs X pos keys values trs) (hall:keys.all (·.isSome)=true) (hl:keys.length=values.length) (h0:keys≠[])
  (h15:keys.length≤15):PE X (.Dict keys values pos) (tDisp trs):=by
 intro pins s σ H Q I q
 have hn:=I.hok.fresh (Nat.le_refl s.heap.objs.size)
 have I1:=I.laid (a:=s.heap.objs.size) (o:=.dK []) (h':=s.heap.push { cls:=.type "dict",data:=.dict #[] }) (t':=s.toks) (fun _ _ q=>Heap.get?_push_of_some _ q) (Nat.le_refl _) (dk_empty s.heap I.big)
 refine wpAny_Dict_walk (knd:=mixKind X.prog X.w) hall hl h0 h15 (thn (h pins _ σ _ _ I1 (q _ hn)) fun ws s2 zz9=>?_)
 obtain ⟨ps,H2,I2,rel,e,kvs,ep,lk,q2⟩:=zz9
 subst ep
 obtain ⟨rs,c,rk⟩:=carries_of (P:=X.prog) (w:=X.w) rel
 obtain ⟨z,hd,vs0,r0,dd⟩:=dk_of I2.hok e
 cases r0
 refine ⟨rs,c,dd,fun h' dd' hs=>⟨.ref s.heap.objs.size,_,?_,rfl,q2⟩⟩
 have hz:(mergeK [] kvs).length≤sizeLine:=by
  have h1:=length_mergeK kvs []
  rw [List.length_nil] at h1
  rw [sizeLine_eq]; omega
 have he:∃ q,h'.get? s.heap.objs.size=some q:=let ⟨q,_,_,hq,_⟩:=dd'; ⟨q,hq⟩
 exact d_write I2 (by rw [e]; exact True.intro) hs he (dk_new hz hd (rk.merge .nil) dd')
structure M2 (X:Cx) (o:Expr) (m:Str) (apos:Pos) (e f:Expr) (cpos:Pos):Prop where
 base:attributeBase o m X.env (eval o X.env)=eval o X.env
 few:((backTo cpos (starEach [e,f] X.env)).all (fun x=>!x.1) && (backToKw cpos (keywordEach [] X.env)).all (fun x=>x.1.isSome)
  && decide (([e,f]:List Expr).length + ([]:List Keyword).length + (if ([]:List Keyword).isEmpty then 0 else 1) < 30))=true
 line:(apos.endLine == cpos.line)=true
 trees:backTo cpos (starEach [e,f] X.env)=[(false,eval e X.env),(false,eval f X.env)]
noncomputable def IsD (H:Hp) (a:Addr):Prop:=(∃ kvs,Rd H a (.dK kvs))∨∃ kvs,Rd H a (.dT kvs)
theorem isD_at {X:Cx} {pins:List (Addr × Obj)} {σ:St} {H:Hp} {s:Shared} {a:Addr} (I:Inv X pins σ H s) (d:IsD H a) :
  s.TypeIs (.ref a) "dict"∧(∀ b,Value.ref a=.ref b→∃ ob,s.heap.get? b=some ob∧ob.dict=none)∧(a == sysModules)=false:=by
 rcases d with ⟨kvs,e⟩ | ⟨kvs,e⟩
 ·obtain ⟨_,hd,vs,_,dd⟩:=dk_rd I.hok e
  refine ⟨dd.typeIs,fun b q=>?_,hd⟩
  cases q
  obtain ⟨ob,_,_,h1,h2,_⟩:=dd
  exact ⟨ob,h1,h2.2.1⟩
 ·obtain ⟨_,hd,xs,_,dd⟩:=dt_rd I.hok e
  refine ⟨dd.typeIs,fun b q=>?_,hd⟩
  cases q
  obtain ⟨ob,_,_,h1,h2,_⟩:=dd
  exact ⟨ob,h1,h2.2.1⟩
section
variable {X:Cx} {pins:List (Addr × Obj)} {σ:St} {H:Hp} {s:Shared} {a:Addr} {y d:V} {u r:Value} {o:Option V} {A:Around} {E:Value→Shared→Prop}
theorem d_get2 {Q:Value→Shared→Prop} (hu:A.units + 1 < cLine) (I:Inv X pins σ H s) (g:DGet H a y o) (ry:RelV y u) (rd:RelV d r) (h:∀ w' s',Inv X pins σ H s'→RelV (o.getD d) w'→Q w' s') :
  wpAny (model X.prog X.w) A (call (.builtin "dict.get") [.ref a,u,r]) Q E s:=by
 rcases g with ⟨kvs,k,e,ey,l⟩ | ⟨kvs,k,b,e,ey,eb,l⟩
 ·subst ey
  obtain ⟨z,hd,vs,rel,dd⟩:=dk_rd I.hok e
  refine call_meetsIn PySem.F.slot_dict_get dd.typeIs PySem.F.entry_dict_get (PySem.F.args_dict_get_3 _ _ _) (meets_dict_get_default (mixKind X.prog X.w) a (kV_is ry) hd r) ⟨_,dd.mapOf,h _ _ (I.tok _) ?_⟩
  rw [l]
  exact (rel.val k).getD rd
 ·subst ey
  cases (show u=Value.ref b from ry)
  obtain ⟨z,hd,xs,rel,dd⟩:=dt_rd I.hok e
  refine call_meetsIn PySem.F.slot_dict_get dd.typeIs PySem.F.entry_dict_get (PySem.F.args_dict_get_3 _ _ _) (meetsH_dict_get_default (tupleKind (mixKind X.prog X.w)) a b hd r) ⟨tupleKind_room_in1 hu,k,xs,key_of I.hok eb,dd,h _ _ (I.tok _) ?_⟩
  rw [l]
  exact (rel.val k).getD rd
end
noncomputable def tDGet2 (td ty tx:TE):TE:=fun σ H Q=>td σ H fun x H1=>∃ a,x=.ref a∧IsD H1 a∧ty σ H1 fun y H2=>tx σ H2 fun z H3=>∃ o,DGet H3 a y o∧Q (o.getD z) H3
section
variable {X:Cx} {o e f:Expr} {apos cpos:Pos} {td ty tx:TE}
theorem pe_dget2 (hu:X.A.units + 1 < cLine) (ho:PE X o td) (he:PE X e ty) (hf:PE X f tx) (m:M2 X o "get" apos e f cpos):PE X (.Call (.Attribute o "get" apos) [e,f] [] cpos) (tDGet2 td ty tx):=by
 intro pins s σ H Q I h
 refine wpAny_Call_method m.base m.few m.line PySem.F.plainAttrs_dict PySem.F.slot_dict_get PySem.F.type_dict_get (thn (ho pins s σ H _ I h) fun u s1 zz9=>?_)
 obtain ⟨x,H1,I1,rx,a,ex,d,q1⟩:=zz9
 subst ex
 obtain rfl:u=Value.ref a:=rx
 obtain ⟨t1,t2,_⟩:=isD_at I1 d
 refine ⟨t1,t2,?_⟩
 rw [m.trees]
 refine Calls.callWith_builtin rfl (Calls.evalArgs_plain (Calls.spliced_cons (thn (he pins s1 σ H1 _ I1 q1) fun iv s2 ⟨y,H2,I2,ry,q2⟩ =>
  Calls.spliced_cons (thn (hf pins s2 σ H2 _ I2 q2) fun fv s3 ⟨z,H3,I3,rz,ov,g,q3⟩=>Calls.spliced_nil ?_))))
 exact d_get2 hu I3 g ry rz fun w' s4 I4 rw'=>⟨_,H3,I4,rw',q3⟩
end
end L2
namespace Att
open PySem PySem.W PySem.Calls PyProof.Rows
theorem ints_of_wellAll {P:Params} {h:Heap}:∀ (ns:List Int) (vs:List Value),WellAll P h vs (ns.map WData.int)→IntsAre vs ns:=by
 intro ns
 induction ns with
 | nil =>
  intro vs w
  rw [List.map_nil] at w
  cases w
  exact .nil
 | cons n ns ih =>
  intro vs w
  rw [List.map_cons] at w
  cases w with
  | cons a b =>
   cases a
   exact .cons _ _ (ih _ b)
theorem script_of {l:OpenLaw} {n:Nat} (hn:l.most=some n) {P:Params} {h:Heap} {args:List WData} {vals:List Value}
  (hpre:l.row.toRowW.claim.pre args=true) (hwl:WellAll P h vals args) :
  ∃ a vs ns,vals=[Value.ref a]∧args=[WData.list (ns.map WData.int)]∧h.get? a=some { cls:=.type "list",data:=.seq vs.toArray }∧IntsAre vs ns∧ns.length≤n:=by
 have hsh:WShape.hasAll [] args [.list .int]=true:=(pre_splitW hpre).1
 have hc:l.pre.holds [] { args:=args }=true:=(pre_splitW hpre).2
 obtain ⟨d,r,rfl,h1,h2⟩:=hasAllW_cons hsh
 obtain rfl:=hasAllW_nil h2
 obtain ⟨xs,rfl,h3⟩:=hasW_list h1
 obtain ⟨ns,rfl⟩:=items_int h3
 have hlen:ns.length≤n:=by
  unfold OpenLaw.pre at hc
  have h4:(WTm.not (.lt (.lit (.int (n:Int))) (.len (.arg 0)))).holds [] { args:=[.list (ns.map .int)] }=true:=by
   have h4:=(holds_andW hc).1
   rw [hn] at h4
   exact h4
  have h5:=condW_of h4 (w_not (w_lt w_lit (w_len_list (w_arg rfl))))
  rw [List.length_map] at h5
  refine Nat.le_of_not_lt fun q=>?_
  have q':(n:Int) < ((ns.length:Nat):Int):=by omega
  first
   | (rw [decide_eq_true q'] at h5; exact absurd h5 (by decide))
   | (simp at h5; omega)
 cases hwl with
 | cons w1 w2 =>
  cases w2
  cases w1 with
  | list ho hall=>exact ⟨_,_,ns,rfl,rfl,ho,ints_of_wellAll ns _ hall,hlen⟩
theorem post_true (l:OpenLaw) (args:List WData):l.row.toRowW.claim.post args (.bool true) args=true :=
 postW_of (r:=l.row.toRowW) (X:=(true == true))
  (show WShape.has [] (.bool true) .bool=true by first | rfl | decide | simp [WShape.has,WShape.arms,WShape.armsAll])
  (show (WTm.eq .res (.lit (.bool true))).value [] { args:=args,res:=some (.bool true),after:=args }=some (.bool (true == true)) from w_eq_bool (w_res rfl) w_lit) rfl
theorem attach_call {l:OpenLaw} {n:Nat} {q:Program} {loose:List Str} {XP:(Str→Option Value)→Heap→Prop} {YP:World→Heap→Prop} {d:DefRec}
  (hn:l.most=some n) (hdf:d.params.defaults=[])
  (call:∀ (w:World) (s₀ s₁:Shared) (mg mb:Str→Option Value) (fa:Addr) (o:Obj) (pm cd doc:Value) (a:Addr) (vs:List Value) (ns:List Int),
   Ground q loose [] XP w s₀ mg mb s₁.heap→YP w s₁.heap →
   s₁.heap.get? fa=some o→o.data=.func (docDef d.name d.params d.body d.scope pm cd doc)→s₁.heap.CodeRec cd d.name→mg d.name=some (.ref fa) →
   s₁.heap.get? a=some { cls:=.type "list",data:=.seq vs.toArray }→IntsAre vs ns→ns.length≤n→s₁.gens=#[] →
   codeAny (model l.prog w) callerA (.call (.ref fa) ⟨[.ref a],[]⟩) (fun r s'=>r=.ok (.ret (.bool true))∧OldK s₁.heap s'.heap∧s'.os=s₁.os∧AllBare s'.gens) s₁) :
  WalkO q loose XP YP l.row.toRowW d [] (fun f vs=>PySem.call f vs):=by
 intro w s₀ s₁ mg mb G Y fa o pm cd doc dV kV ho hd hcd hD hmg hg args vals as hpre hlay hrd hwl hlo
 obtain rfl:dV=.none:=Dflts.none hD hdf
 obtain rfl:kV=.none:=Dflts.noKw hD
 obtain ⟨a,vs,ns,rfl,rfl,hobj,hints,hlen⟩:=script_of hn hpre hwl
 refine enter_call (codeAny_mono (call w s₀ s₁ mg mb fa o pm cd doc a vs ns G Y ho (fd_plain hd) hcd hmg hobj hints hlen hg) fun r s' hq=>?_)
 obtain ⟨rfl,h2,h3,h4⟩:=hq
 exact ⟨.inl ⟨.bool true,.bool true,[],rfl,fun _=>rfl,.bool true,post_true l _,fun _=>⟨List.Pairwise.nil,fun _ hm=>(nomatch hm)⟩⟩,h2,h3,h4⟩
end Att
namespace L2
open PySem PySem.Spec PyProof.Rows
theorem vals_ints:∀ {vs:List Value} {ns:List Int},IntsAre vs ns→Vals (ns.map V.int) vs
 | _,_,.nil=>.nil
 | _,_,.cons n t h=>.cons ⟨t,rfl⟩ (vals_ints h)
noncomputable def Only (H:Hp):Prop:=∀ b,H b=none∨∃ o xs,H b=some (.frz o (.lst xs))
theorem law_call {P:Program} {w:World} {K:PySem.W.Frag} {mg mb:Str→Option Value} {CX:CXT} {k:Nat} {fa a:Addr} {fd:FuncData} {x:Str} {sp:Sp} {s₁:Shared} {vs:List Value} {ns:List Int}
  (KX:K.In s₁.heap) (hns:s₁.heap.Ns mainGlobals mg) (hb:s₁.heap.Ns builtinsNs mb) (hbb:∀ x:Str,x≠"__name__"→mb x=bootBuiltins x) (hlim:s₁.heap.NoLimit) (hg:s₁.gens=#[])
  (ha:s₁.heap.get? a=some { cls:=.type "list",data:=.seq vs.toArray }) (hi:IntsAre vs ns) (hl:ns.length≤sizeLine) (hr:Room k callerA)
  (F:∀ base:Heap,K.In base→base.Ns mainGlobals mg→FnOk P w K mg base CX k fa fd [x] sp) (hbind:∀ (s:Shared) (u:Value),BindsTo s fd ⟨[u],[]⟩ [(x,u)])
  (hsp:∀ H:Hp,Only H→SqL K H a (ns.map V.int)→sp [.ref a] H (fun v _=>v=.bl true) fun _ _ _=>False)
  (hCX:∀ H e s',CX [] H s₁ (fun _ _ _=>False) e s'→False) :
  codeAny (model P w) callerA (.call (.ref fa) ⟨[.ref a],[]⟩) (fun r s'=>r=.ok (.ret (.bool true))∧OldK s₁.heap s'.heap∧s'.os=s₁.os∧AllBare s'.gens) s₁:=by
 have rv:=vals_ints hi
 have lenV:=hi.length
 have core:∀ H:Hp,Only H→SqL K H a (ns.map V.int)→HOk P w H s₁.heap→(∀ b,H b≠none→b=a)→(H a≠none→K.lookup a=none) →
   codeAny (model P w) callerA (.call (.ref fa) ⟨[.ref a],[]⟩) (fun r s'=>r=.ok (.ret (.bool true))∧OldK s₁.heap s'.heap∧s'.os=s₁.os∧AllBare s'.gens) s₁:=by
  intro H hO hS hok hA hK
  have base_of:∀ {b:Addr} {o:Obj},s₁.heap.get? b=some o→H b=none→(hidT s₁.heap H).get? b=some o:=fun e n=>hidT_get e n
  have noA:∀ {b:Addr} {o:Obj} {es:Array DictEntry} {ep:Nat},s₁.heap.get? b=some o→o.data=.dict es ep→H b=none:=fun {b o es ep} e d=>by
   cases q:H b with
   | none=>rfl
   | some u =>
    have e':b=a:=hA b (by rw [q]; simp)
    subst e'
    rw [ha] at e; cases e
    have d':Data.seq vs.toArray _=Data.dict es ep:=d
    cases d'
  have nsK:∀ {b:Addr} {m:Str→Option Value},s₁.heap.Ns b m→(hidT s₁.heap H).Ns b m:=fun {b m} ⟨o,es,ep,e,d,r⟩=>⟨o,es,ep,base_of e (noA e d),d,r⟩
  have hKb:K.In (hidT s₁.heap H):=fun b o e=>base_of (KX b o e) (by
   cases q:H b with
   | none=>rfl
   | some u =>
    have e':b=a:=hA b (by rw [q]; simp)
    subst e'
    rw [hK (by rw [q]; simp)] at e; cases e)
  have hM:Mod K mg (hidT s₁.heap H):=⟨hKb,nsK hns,⟨mb,nsK hb,hbb⟩,let ⟨mc,h1,h2⟩:=hlim; ⟨mc,nsK h1,h2⟩⟩
  have e0:Env0 P w K mg (hidT s₁.heap H) callerA [] s₁ H:=⟨rfl,hM,fun b o e=>of_hidT e,Nat.le_of_eq (hidT_size _ _),trivial,fun b hb=>absurd (show b∈([]:List Addr) from hb) (by simp),hok,.of_eq hg⟩
  refine codeAny_mono ((F _ hKb (nsK hns)).run callerA [] s₁ H ⟨[.ref a],[]⟩ [.ref a] [.ref a] _ _ hr e0 (hbind s₁ (.ref a)) (.cons rfl .nil) (hsp H hO hS)) fun r s' h=>?_
  cases r with
  | error e=>exact (hCX H e s' h).elim
  | ok fl =>
   cases fl with
   | next=>exact False.elim h
   | brk=>exact False.elim h
   | cont=>exact False.elim h
   | ret u =>
    obtain ⟨v,H',os,bare,un,hok',r',q⟩:=h
    have q':v=.bl true:=q
    subst q'
    obtain rfl:u=Value.bool true:=r'
    refine ⟨rfl,OldK.of_keep fun b o e=>?_,os,bare⟩
    cases q:H b with
    | none=>exact un.keep b o e q (by intro z; exact absurd (show b∈([]:List Addr) from z) (by simp)) (by simp)
    | some u =>
     rcases hO b with z | ⟨ob,xs,z⟩
     ·rw [q] at z; cases z
     ·have z2:=un.frzs b ob _ z
      obtain ⟨e1,_⟩:=hok b _ z
      obtain ⟨e2,_⟩:=hok' b _ z2
      rw [e] at e1; cases e1
      exact e2
 cases hk:K.lookup a with
 | some o =>
  have e:=KX a o hk
  rw [ha] at e
  cases e
  refine core (fun _=>none) (fun _=>.inl rfl) (.inr ⟨_,vs.toArray,_,hk,rfl,rfl,rfl,by rw [List.size_toArray,lenV]; exact hl,by simpa using rv⟩) (fun b u z=>by have z':(none:Option HO)=some u:=z; cases z') (fun b z=>absurd rfl z) fun z=>absurd rfl z
 | none =>
  refine core (fun b=>if b=a then some (.frz { cls:=.type "list",data:=.seq vs.toArray } (.lst (ns.map V.int))) else none) (fun b=>?_) (.inl (.inr ⟨{ cls:=.type "list",data:=.seq vs.toArray },if_pos rfl⟩)) (fun b u z=>?_) (fun b z=>?_) fun _=>hk
  ·by_cases hb:b=a
   ·exact .inr ⟨_,_,if_pos hb⟩
   ·exact .inl (if_neg hb)
  ·by_cases hb:b=a
   ·have z':=(if_pos hb).symm.trans z
    cases z'
    subst hb
    exact ⟨ha,by rw [List.length_map]; exact hl,vs,_,rv,ha⟩
   ·have z':=(if_neg hb).symm.trans z
    cases z'
  ·by_cases hb:b=a
   ·exact hb
   ·exact absurd (if_neg hb) z
end L2
namespace L2
open PySem PySem.Spec PyProof.Rows
noncomputable abbrev KOf {K:PySem.W.Frag} {h:Heap} (_:K.In h):PySem.W.Frag:=K
theorem walk_of {l:PySem.W.OpenLaw} {n k:Nat} {q:Program} {loose:List Str} {XP:(Str→Option Value)→Heap→Prop} {YP:World→Heap→Prop} {d:DefRec} {K:Params→PySem.W.Frag} {CX:World→CXT} {sp:World→Sp} {x:Str}
  (hn:l.most=some n) (hn2:n≤sizeLine) (hdf:d.params.defaults=[]) (hr:Room k callerA)
  (hY:∀ (w:World) (h:Heap),YP w h→(K w.params).In h)
  (F:∀ (w:World) (mg:Str→Option Value) (fa:Addr) (h:Heap),(K w.params).In h→h.Ns mainGlobals mg→mg d.name=some (.ref fa) →
   ∃ fd:FuncData,(∀ (s:Shared) (u:Value),BindsTo s fd ⟨[u],[]⟩ [(x,u)]) ∧
    ∀ base:Heap,(K w.params).In base→base.Ns mainGlobals mg→FnOk l.prog w (K w.params) mg base (CX w) k fa fd [x] (sp w))
  (hsp:∀ (w:World) (H:Hp) (a:Addr) (ns:List Int),ns.length≤n→Only H→SqL (K w.params) H a (ns.map V.int)→sp w [.ref a] H (fun v _=>v=.bl true) fun _ _ _=>False)
  (hCX:∀ (w:World) (H:Hp) (s:Shared) (e:Value) (s':Shared),CX w [] H s (fun _ _ _=>False) e s'→False) :
  PySem.W.WalkO q loose XP YP l.row.toRowW d [] (fun f vs=>PySem.call f vs):=by
 refine Att.attach_call hn hdf fun w s₀ s₁ mg mb fa o pm cd doc a vs ns G Y ho hd hcd hmg hobj hints hlen hg=>?_
 have KX:=hY w _ Y
 obtain ⟨fd,hb,hF⟩:=F w mg fa _ KX G.T.g hmg
 exact law_call KX G.T.g G.T.b G.T.builtins G.T.nolimit hg hobj hints (Nat.le_trans hlen hn2) hr hF hb (fun H hO hS=>hsp w H a ns hlen hO hS) fun H e s'=>hCX w H s₁ e s'
end L2
namespace L2
open PySem PySem.Spec PyProof.Rows
noncomputable def inClass (s:Stmt) (j:Nat):Stmt:=match s with
 | .ClassDef _ _ _ body _ _ _ _ _ _ _=>body.getD j (.Pass ⟨0,0,0,0⟩)
 | _=>.Pass ⟨0,0,0,0⟩
noncomputable def defArgs (s:Stmt):Arguments:=match s with
 | .FunctionDef _ a _ _ _ _ _ _ _ _=>a
 | _=>{ posonlyargs:=[],args:=[],vararg:=none,kwonlyargs:=[],kw_defaults:=[],kwarg:=none,defaults:=[] }
noncomputable def defBody (s:Stmt):List Stmt:=match s with
 | .FunctionDef _ _ b _ _ _ _ _ _ _=>b
 | _=>[]
noncomputable def defScope (s:Stmt):Scope:=match s with
 | .FunctionDef _ _ _ _ _ _ sc _ _ _=>sc
 | _=>{ kind:=.function,names:=[],isGenerator:=false,isCoroutine:=false }
noncomputable abbrev E0:XK:=fun _ _ _=>False
structure Fun (K:PySem.W.Frag) (x qual:Str) (st:Stmt) (f:Addr) (fd:FuncData):Prop where
 ex:∃ (oc:Value) (od:Option Addr) (kV doc pm:Value) (an:Option Addr) (cdv ct:Value) (osl:Array (Option Value)),
  fd=PySem.W.fnOf x qual (defArgs st) (defBody st) (defScope st) .none kV doc pm an cdv ct∧K.lookup f=some ⟨oc,od,.func fd,osl⟩∧PySem.W.codeIn K cdv qual=true
 kp:PySem.W.keepIn K (.ref f)=true
section
variable {P:Program} {w:World} {K:PySem.W.Frag} {mg:Str→Option Value} {base:Heap}
theorem Fun.binds {x qual:Str} {st:Stmt} {f:Addr} {fd:FuncData} {ps:List Str} (F:Fun K x qual st f fd)
  (h:∀ (kV doc pm:Value) (an:Option Addr) (cdv ct:Value) (us:List Value),us.length=ps.length→bindArgs (PySem.W.fnOf x qual (defArgs st) (defBody st) (defScope st) .none kV doc pm an cdv ct) ⟨us,[]⟩=pure (ps.zip us)):Binds K fd ps []:=by
 obtain ⟨oc,od,kV,doc,pm,an,cdv,ct,osl,rfl,lk,hcd⟩:=F.ex
 exact .all (h kV doc pm an cdv ct)
theorem fun_mk {x qual:Str} {st:Stmt} {f:Addr} {oc:Value} {od an:Option Addr} {osl:Array (Option Value)} {kV doc pm cdv ct:Value} (l:K.lookup f=some ⟨oc,od,.func (PySem.W.fnOf x qual (defArgs st) (defBody st) (defScope st) .none kV doc pm an cdv ct),osl⟩)
  (c:PySem.W.codeIn K cdv qual=true) (k:PySem.W.keepIn K (.ref f)=true):Fun K x qual st f (PySem.W.fnOf x qual (defArgs st) (defBody st) (defScope st) .none kV doc pm an cdv ct):=⟨⟨oc,od,kV,doc,pm,an,cdv,ct,osl,rfl,l,c⟩,k⟩
end
theorem hu_of {A:Around} {k:Nat} (hr:Room k A):A.units + 1 < cLine:=Nat.lt_of_le_of_lt (Nat.add_le_add_left (by decide:1≤64) _) hr.units
theorem small1000 {n:Nat} (h:n≤1000):n < sizeLine:=Nat.lt_of_le_of_lt h (by decide)
section
variable {X:Cx}
theorem pv (i:Nat) {x:Str} {pos:Pos} (hN:X.N[i]?=some x:=by rfl) (hv:Vis X.env.scope x:=by first | exact Or.inl rfl | exact Or.inr (Or.inl rfl) | exact Or.inr (Or.inr rfl)) (hd:(x == ("__debug__":Str))=false:=by decide)
  (hcd:(x == ("__classdict__":Str))=false:=by decide):PE X (.Name x pos) (tVar i):=pe_var hN hv hd hcd
end
theorem iteF {A B:Prop} (h:B):if false=true then A else B:=by
 rw [if_neg Bool.false_ne_true]
 exact h
theorem iteT {A B:Prop} (h:A):if true=true then A else B:=by
 rw [if_pos rfl]
 exact h
theorem ite2 {c A B:Prop} [Decidable c] (h1:c→A) (h2:¬ c→B):if c then A else B:=by
 by_cases h:c
 ·rw [if_pos h]
  exact h1 h
 ·rw [if_neg h]
  exact h2 h
noncomputable def Same (H H':Hp):Prop:=∀ b o,H b=some o→H' b=some o
theorem Same.refl (H:Hp):Same H H:=fun _ _ h=>h
theorem Same.trans {H H1 H2:Hp} (a:Same H H1) (b:Same H1 H2):Same H H2:=fun c o h=>b c o (a c o h)
theorem Same.free {H H':Hp} (e:Same H H') {l:Addr} (h:H' l=Option.none):H l=Option.none:=by
 cases q:H l with
 | none=>rfl
 | some o =>
  rw [e l o q] at h
  cases h
theorem Same.seq {K:PySem.W.Frag} {H H':Hp} {a:Addr} {xs:List V} (e:Same H H') (h:SqL K H a xs):SqL K H' a xs:=by
 rcases h with (h | ⟨o,h⟩) | h
 ·exact .inl (.inl (e _ _ h))
 ·exact .inl (.inr ⟨o,e _ _ h⟩)
 ·exact .inr h
end L2
set_option maxHeartbeats 4000000
namespace L2
open PySem PySem.Spec PyProof.Rows
noncomputable def cloList (env:Env):List (Str × NameKind)→List (Str × Addr)→List (Str × Addr)
 | [],acc=>acc
 | (n,k) :: r,acc=>if (k == NameKind.free)=true then (match env.cells.lookup n with
  | some c=>cloList env r ((n,c) :: acc)
  | none=>cloList env r acc) else cloList env r acc
theorem cloList_sound {env:Env}:∀ (ns:List (Str × NameKind)) (acc:List (Str × Addr)),(∀ x c,acc.lookup x=some c→env.cells.lookup x=some c) →
  ∀ x c,(cloList env ns acc).lookup x=some c→env.cells.lookup x=some c
 | [],acc,h=>h
 | (n,k) :: r,acc,h=>by
  unfold cloList
  split
  ·cases e:env.cells.lookup n with
   | none=>exact cloList_sound r acc h
   | some c =>
    refine cloList_sound r _ fun x d hx=>?_
    rw [List.lookup_cons] at hx
    cases hb:x == n with
    | true =>
     rw [hb] at hx
     cases hx
     rw [beq_iff_eq.mp hb]
     exact e
    | false =>
     rw [hb] at hx
     exact h x d hx
  ·exact cloList_sound r acc h
theorem cloList_keeps {env:Env}:∀ (ns:List (Str × NameKind)) (acc:List (Str × Addr)) (x:Str),(∃ c,acc.lookup x=some c)→∃ c,(cloList env ns acc).lookup x=some c
 | [],acc,x,h=>h
 | (n,k) :: r,acc,x,h=>by
  unfold cloList
  split
  ·cases e:env.cells.lookup n with
   | none=>exact cloList_keeps r acc x h
   | some c =>
    refine cloList_keeps r _ x ?_
    rw [List.lookup_cons]
    cases hb:x == n with
    | true=>exact ⟨c,rfl⟩
    | false=>exact h
  ·exact cloList_keeps r acc x h
theorem cloList_has {env:Env}:∀ (ns:List (Str × NameKind)) (acc:List (Str × Addr)) (x:Str),(x,NameKind.free)∈ns→(∃ c,env.cells.lookup x=some c)→∃ c,(cloList env ns acc).lookup x=some c
 | [],acc,x,h,_=>by cases h
 | (n,k) :: r,acc,x,h,hc=>by
  rcases List.mem_cons.mp h with e | h
  ·cases e
   obtain ⟨c,hc⟩:=hc
   unfold cloList
   rw [if_pos (show (NameKind.free == NameKind.free)=true by decide),hc]
   exact cloList_keeps r _ n ⟨c,by rw [List.lookup_cons,beq_self_eq_true]⟩
  ·unfold cloList
   split
   ·cases e:env.cells.lookup n with
    | none=>exact cloList_has r acc x h hc
    | some c=>exact cloList_has r _ x h hc
   ·exact cloList_has r acc x h hc
theorem cloFor_run {env:Env} (f:Str × NameKind→List (Str × Addr)→Sem (ForInStep (List (Str × Addr))))
  (hf:∀ name kind cs,f (name,kind) cs=if (kind == NameKind.free)=true then (do let a ← cellOf env name; pure (.yield ((name,a) :: cs))) else pure (.yield cs)) :
  ∀ (ns:List (Str × NameKind)) (acc:List (Str × Addr)),(∀ y∈ns,y.2=.free→∃ c,env.cells.lookup y.1=some c)→forIn ns acc f=pure (cloList env ns acc)
 | [],acc,_=>by rw [List.forIn_nil]; rfl
 | (n,k) :: r,acc,h=>by
  rw [List.forIn_cons,hf]
  unfold cloList
  have hr:∀ y∈r,y.2=.free→∃ c,env.cells.lookup y.1=some c:=fun y hy=>h y (List.mem_cons_of_mem _ hy)
  split
  ·rename_i hk
   obtain ⟨c,hc⟩:=h (n,k) List.mem_cons_self (by simpa using hk)
   have hc':env.cells.lookup n=some c:=hc
   have e:cellOf env n=pure c:=by unfold cellOf; rw [hc']
   rw [e,hc']
   exact cloFor_run f hf r ((n,c) :: acc) hr
  ·exact cloFor_run f hf r acc hr
theorem closure_run {env:Env} {scope:Scope} (h:∀ y∈scope.names,y.2=.free→∃ c,env.cells.lookup y.1=some c):closureFor scope env=pure (cloList env scope.names []):=by
 unfold closureFor
 dsimp only
 rw [cloFor_run (env:=env) _ (fun name kind cs=>by split <;> rfl) scope.names [] h]
 rfl
theorem relabel_lookup (env:Env):∀ (names:List (Str × NameKind)) (x:Str),
  (names.map fun (n,k)=>if (k == NameKind.free && env.scope.kind == .function && env.kindOf n == some .cell) then (n,NameKind.cell) else (n,k)).lookup x =
   (names.lookup x).map fun k=>if (k == NameKind.free && env.scope.kind == .function && env.kindOf x == some .cell)=true then NameKind.cell else k
 | [],_=>rfl
 | (n,k) :: r,x=>by
  have ih:=relabel_lookup env r x
  have e:(if (k == NameKind.free && env.scope.kind == .function && env.kindOf n == some .cell)=true then (n,NameKind.cell) else (n,k))=(n,if (k == NameKind.free && env.scope.kind == .function && env.kindOf n == some .cell)=true then NameKind.cell else k):=by split <;> rfl
  show List.lookup x ((if (k == NameKind.free && env.scope.kind == .function && env.kindOf n == some .cell)=true then (n,NameKind.cell) else (n,k)) :: _)=_
  rw [e,List.lookup_cons,List.lookup_cons]
  cases hx:x == n with
  | true =>
   have e2:x=n:=beq_iff_eq.mp hx
   subst e2
   rfl
  | false=>exact ih
theorem relabel_free {env:Env} {names:List (Str × NameKind)} {x:Str} {k:NameKind} (hc:∀ y∈names,y.2≠.cell)
  (h:(names.map fun (n,k)=>if (k == NameKind.free && env.scope.kind == .function && env.kindOf n == some .cell) then (n,NameKind.cell) else (n,k)).lookup x=some k) (hk:k=.cell∨k=.free):names.lookup x=some .free:=by
 rw [relabel_lookup] at h
 cases e:names.lookup x with
 | none=>rw [e] at h; cases h
 | some k' =>
  rw [e] at h
  have hk':k'≠.cell:=hc _ (PySem.mem_of_lookup e)
  have h':(if (k' == NameKind.free && env.scope.kind == .function && env.kindOf x == some .cell)=true then NameKind.cell else k')=k:=Option.some.inj h
  split at h'
  ·rename_i q
   simp only [Bool.and_eq_true,beq_iff_eq] at q
   rw [q.1.1]
  ·subst h'
   rcases hk with z | z
   ·exact absurd z hk'
   ·rw [z]
theorem relabel_nolocal {env:Env} {names:List (Str × NameKind)} {x:Str} (h:names.lookup x=some .free) :
  (names.map fun (n,k)=>if (k == NameKind.free && env.scope.kind == .function && env.kindOf n == some .cell) then (n,NameKind.cell) else (n,k)).lookup x≠some .local:=by
 rw [relabel_lookup,h]
 intro z
 have z':(if (NameKind.free == NameKind.free && env.scope.kind == .function && env.kindOf x == some .cell)=true then NameKind.cell else NameKind.free)=.local:=Option.some.inj z
 split at z' <;> cases z'
noncomputable def blkCx (X:Cx) (N':List Str) (scope:Scope) (C:Addr) (s₀:Shared) (H₀:Hp) (ex:List Addr):Cx :=
 { X with N:=N',s₀:=s₀,H₀:=H₀,env:=compEnvC scope (cloList X.env scope.names []) C X.env,outer:=X.stack,ex:=ex,fn:=fun _=>false,pn:=[],xe:=fun _ _=>False }
noncomputable def FvOk (X:Cx) (scope:Scope):List (Str × Nat)→Prop
 | []=>True
 | (x,j) :: r=>(X.N[j]?=some x∧scope.names.lookup x=some .free∧(X.env.kindOf x=some .cell∨X.env.kindOf x=some .free))∧FvOk X scope r
theorem FvOk.mem {X:Cx} {scope:Scope}:∀ {l:List (Str × Nat)},FvOk X scope l→∀ y∈l,X.N[y.2]?=some y.1∧scope.names.lookup y.1=some .free∧(X.env.kindOf y.1=some .cell∨X.env.kindOf y.1=some .free)
 | [],_,_,h=>by cases h
 | (x,j) :: r,h,y,hy=>by
  rcases List.mem_cons.mp hy with e | hy
  ·cases e; exact h.1
  ·exact FvOk.mem h.2 y hy
noncomputable def blkN (ts:List Str) (fv:List (Str × Nat)):List Str:=ts ++ fv.map (·.1)
noncomputable def blkS (ts:List Str) (fv:List (Str × Nat)) (σ:St):St:=ts.map (fun _=>none) ++ fv.map fun y=>(σ[y.2]?).join
structure BlkOk (X:Cx) (scope:Scope) (fv:List (Str × Nat)):Prop where
 kind:scope.kind=.function
 nocell:∀ y∈scope.names,y.2≠.cell
 names:∀ y∈scope.names,y.2=.local→scope.names.lookup y.1=some .local
 free:∀ y∈scope.names,y.2=.free→X.env.kindOf y.1=some .cell∨X.env.kindOf y.1=some .free
 fvs:FvOk X scope fv
section
variable {X:Cx} {pins:List (Addr × Obj)} {σ:St} {H:Hp} {s:Shared} {scope:Scope} {ts:List Str} {fv:List (Str × Nat)}
theorem blk_start {h':Heap} {fp:List Addr} {tk:Nat} (B:BlkOk X scope fv) (I:Inv X pins σ H s) (hf:∀ b∈fp,FpOk X pins H b) (ho:∀ b∈fp,∃ o,s.heap.get? b=some o)
  (hn:h'.Ns s.heap.objs.size (fun _=>none)) (hk:∀ b o,s.heap.get? b=some o→h'.get? b=some o) :
  Inv (blkCx X (blkN ts fv) scope s.heap.objs.size s H fp) [] (blkS ts fv σ) H { s with heap:=h',toks:=tk }:=by
 have has:∀ y∈scope.names,y.2=.free→∃ c,X.env.cells.lookup y.1=some c:=fun y hy e=>I.ok.has y.1 (B.free y hy e)
 have snd:∀ x c,(cloList X.env scope.names []).lookup x=some c→X.env.cells.lookup x=some c:=cloList_sound _ _ (fun x c h=>by simp at h)
 have fr:∀ x,(scope.names.lookup x=some .free)→∃ c,(cloList X.env scope.names []).lookup x=some c:=fun x hx =>
  cloList_has _ _ x (PySem.mem_of_lookup hx) (has _ (PySem.mem_of_lookup hx) rfl)
 have nfs:∀ b∈fp,b ∉ frs X.stack:=fun b hb z=>by
  obtain ⟨_,h1,h2,_⟩:=hf b hb
  rcases List.mem_cons.mp (I.stkSub b z) with e | e
  ·exact h1 e
  ·exact h2 e
 have lt:∀ b∈fp,b < s.heap.objs.size:=fun b hb=>let ⟨o,e⟩:=ho b hb; Heap.lt_size e
 refine ⟨⟨I.ok.mod,?_,I.ok.glob,I.ok.blt,Nat.le_refl _,fun x y c h1 h2=>I.ok.inj x y c (snd x c h1) (snd y c h2),fun x hx=>?_,fun _ _ h=>absurd (show false=true from h) Bool.false_ne_true,I.ok.hd,I.ok.frames,.inl rfl,fun b hb=>⟨Nat.ne_of_lt (lt b hb),fun x c e=>(hf b hb).2.2.2.2.1 x c (snd x c e)⟩,I.bs,Nat.le_trans I.ok.bsz I.sz,fun b o e hb=>?_,nfs,I.stack,I.stkFree⟩,
  rfl,I.bare,Un.kept hk,⟨_,hn,fun i x v h1 h2 h3=>?_⟩,fun x c e=>?_,I.fresh,fun x c e=>I.freeC x c (snd x c e),fun p hp=>?_,I.hok.kept hk,?_⟩
 ·exact B.kind
 ·refine fr x ?_
  have hx':(relabel scope X.env).names.lookup x=some .cell∨(relabel scope X.env).names.lookup x=some .free:=hx
  rcases hx' with e | e
  ·exact relabel_free B.nocell e (.inl rfl)
  ·exact relabel_free B.nocell e (.inr rfl)
 ·rcases (hf b hb).2.2.2.1 with z | z
  ·exact I.ok.noex b o e z
  ·exact absurd (Nat.lt_of_lt_of_le (Heap.lt_size e) (Nat.le_trans I.ok.bsz z)) (Nat.lt_irrefl _)
 ·have h1:(ts ++ fv.map (·.1))[i]?=some x:=h1
  have h2:(ts.map (fun _=>(none:Option V)) ++ fv.map fun y=>(σ[y.2]?).join)[i]?=some (some v):=h2
  by_cases hi:i < ts.length
  ·rw [List.getElem?_append_left (by simpa using hi),List.getElem?_map] at h2
   cases e:ts[i]? with
   | none=>rw [e] at h2; cases h2
   | some z=>rw [e] at h2; cases h2
  ·rw [List.getElem?_append_right (by simpa using hi),List.length_map,List.getElem?_map] at h2
   rw [List.getElem?_append_right (by simpa using hi),List.getElem?_map] at h1
   cases e:fv[i - ts.length]? with
   | none=>rw [e] at h2; cases h2
   | some y =>
    rw [e] at h1 h2
    have e1:y.1=x:=by simpa using h1
    have e2:(σ[y.2]?).join=some v:=by simpa using h2
    obtain ⟨f1,f2,f3⟩:=B.fvs.mem y (List.mem_of_getElem? e)
    have e3:σ[y.2]?=some (some v):=by
     cases q:σ[y.2]? with
     | none=>rw [q] at e2; cases e2
     | some z=>rw [q] at e2; exact congrArg some e2
    obtain ⟨m,hm,hl⟩:=I.loc
    obtain ⟨u,r,l⟩:=hl y.2 y.1 v f1 e3 (by rcases f3 with z | z; exact .inr (.inl z); exact .inr (.inr z))
    rw [e1] at f2 f3 l
    refine ⟨u,r,?_⟩
    obtain ⟨c,hc⟩:=fr x f2
    have hc':=snd x c hc
    rcases l with ⟨l1,_⟩ | ⟨_,c2,l2,l3⟩
    ·rcases f3 with z | z
     ·rw [l1] at z; cases z
     ·rw [l1] at z; cases z
    ·rw [hc'] at l2
     cases l2
     have hv:Vis (relabel scope X.env) x:=h3
     rcases hv with z | z | z
     ·exfalso
      exact relabel_nolocal f2 z
     ·exact .inr ⟨.inl z,c,hc,l3.keeps hk⟩
     ·exact .inr ⟨.inr z,c,hc,l3.keeps hk⟩
 ·obtain ⟨v,z⟩:=I.cell x c (snd x c e)
  exact ⟨v,z.keeps hk⟩
 ·exact absurd (show p∈([]:List (Addr × Obj)) from hp) (by simp)
 ·show (ts.map (fun _=>(none:Option V)) ++ fv.map fun y=>(σ[y.2]?).join).length=(ts ++ fv.map (·.1)).length
  simp
theorem Inv.apart {C:Addr} {h':Heap} (I:Inv X pins σ H s) (hs:Heap.SameBut C s.heap h') (hC:H C=none) (h0:X.s₀.heap.objs.size≤C) (hL:C≠X.env.locals) (hc:∀ x c,X.env.cells.lookup x=some c→c≠C) (hp:∀ p∈X.pn ++ pins,p.1≠C) :
  Inv X pins σ H { s with heap:=h' } :=
 I.turned (t':=s.toks) (it:=C) (fun b o hb e=>(hs.2 b hb).trans e) hC hL (.inr h0) hc hp
theorem blk_end {s':Shared} {H':Hp} {σ':St} {C:Addr} {N':List Str} {fp:List Addr} (I:Inv X pins σ H s) (hf:∀ b∈fp,FpOk X pins H b) (hC:s.heap.objs.size≤C)
  (J:Inv (blkCx X N' scope C s H fp) [] σ' H' s'):Inv X pins σ H' s'∧H' C=none∧X.s₀.heap.objs.size≤C∧C≠X.env.locals∧(∀ x c,X.env.cells.lookup x=some c→c≠C)∧(∀ p∈X.pn ++ pins,p.1≠C):=by
 refine ⟨I.call' J.os J.base J.hok J.bare fun b hb=>?_,J.free,Nat.le_trans I.sz hC,Nat.ne_of_gt (Nat.lt_of_lt_of_le I.lt hC),fun x c e z=>?_,fun p hp z=>?_⟩
 ·obtain ⟨_,h1,_,h3,h4,h5⟩:=hf b hb
  exact ⟨h3,h1,h4,h5⟩
 ·obtain ⟨v,q⟩:=I.cell x c e
  exact absurd (Nat.lt_of_lt_of_le q.lt (by rw [z]; exact hC)) (Nat.lt_irrefl _)
 ·exact absurd (Nat.lt_of_lt_of_le (Heap.lt_size (I.pin p hp).1) (by rw [z]; exact hC)) (Nat.lt_irrefl _)
end
end L2
set_option maxHeartbeats 4000000
namespace L2
open PySem PySem.Spec PyProof.Rows
noncomputable abbrev TB:=St→Hp→(St→Hp→Prop)→Prop
noncomputable def PTs (X:Cx) (ifs:List Expr) (t:TT):Prop :=
 ∀ (pins:List (Addr × Obj)) (s:Shared) (σ:St) (H:Hp) (Q:Bool→Hp→Prop),Inv X pins σ H s→t σ H Q →
  wpAny (model X.prog X.w) X.A (forIn ifs true fun c r=>if r=true then do let ok ← isTrue c X.env (eval c X.env); pure (ForInStep.yield ok) else pure (ForInStep.yield r)) (TP X pins σ Q) X.xe s
noncomputable def tYes:TT:=fun _ H Q=>Q true H
theorem pts_nil {X:Cx}:PTs X [] tYes:=fun pins s σ H Q I h=>wpAny_tests_nil ⟨H,I,h⟩
theorem pts_one {X:Cx} {c:Expr} {t:TT} (h:PT X c t):PTs X [c] t:=fun pins s σ H Q I hq=>wpAny_tests_one (h pins s σ H Q I hq)
noncomputable def PB (X:Cx) (kont:Sem Fin) (c:Code) (t:TB):Prop :=
 ∀ (pins:List (Addr × Obj)) (s:Shared) (σ:St) (H:Hp) (N:St→Hp→Prop),Inv X pins σ H s→t σ H N →
  wpAny (model X.prog X.w) X.A kont (fun fin s'=>fin=.again c∧∃ σ' H',Inv X pins σ' H' s'∧N σ' H') X.xe s
noncomputable def LoopR (J:It) (g:TG) (tt:TT) (tb:TB) (R:St→Hp→Prop) (σ:St) (H:Hp):Prop :=
 ∃ W:Nat→Nat→St→Hp→Prop,(∃ m,W 0 m σ H)∧∀ i m σ H,W i m σ H →
  (J.stop i H∧R σ H)∨(J.go i H∧∃ N:St→Hp→Prop,(∀ σ' H',N σ' H'→∃ m',m' < m∧W (i + 1) m' σ' H') ∧
   ∀ x H',J.yld i H x H'→g x σ H' fun σ2 H2=>tt σ2 H2 fun b H3=>if b=true then tb σ2 H3 N else N σ2 H3)
section
variable {X:Cx}
theorem comp_loop {e tg:Expr} {d:Nat} {acc:Value} {ifs:List Expr} {kont:Sem Fin} {J:It} {fp:List Addr} {it:Addr} {tn:Nat→Heap→Prop} {g:TG} {tt:TT} {tb:TB} {p:Pos} {pins:List (Addr × Obj)} {s:Shared} {σ:St} {H:Hp} {R:St→Hp→Prop}
  {RR:Result→Shared→Prop} (hxe:X.xe=fun _ _=>False)
  (hcq:Code.quiet (.compLoop e d (.ref it) acc X.env)=true) (hden:(model X.prog X.w).den (.compLoop e d (.ref it) acc X.env)=(compTurn e d (.ref it) acc X.env).onRaise (fun x=>do noteFrame x X.env; theTreesLotGoes x))
  (hund:X.A.under (.compLoop e d (.ref it) acc X.env)=X.A)
  (heq:compTurn e d (.ref it) acc X.env=(standAt p >>= fun _=>pyNext (.ref it) >>= fun r=>match r with
   | none=>pure (.done .next)
   | some v=>letOwnedTupleGo tg (.ref it) v >>= fun _=>assign tg X.env v >>= fun _ =>
    (forIn ifs true fun c r=>if r=true then do let ok ← isTrue c X.env (eval c X.env); pure (ForInStep.yield ok) else pure (ForInStep.yield r)) >>= fun ok =>
     if ok=true then kont else again (.compLoop e d (.ref it) acc X.env)))
  (T:Turn X.prog X.w X.K tg J fp it tn) (hc:X.calm=true) (hg:PG X tg g) (ht:PTs X ifs tt) (hb:PB X kont (.compLoop e d (.ref it) acc X.env) tb)
  (hf:∀ b∈fp,FpOk X pins H b) (I:Inv X pins σ H s) (st:tn 0 s.heap) (h:LoopR J g tt tb R σ H)
  (hR:∀ s' σ' H',Inv X pins σ' H' s'→R σ' H'→RR (.ok .next) s') :
  codeAny (model X.prog X.w) X.A (.compLoop e d (.ref it) acc X.env) RR s:=by
 obtain ⟨W,⟨m0,w0⟩,turn⟩:=h
 have stat:∀ {H':Hp},(∀ b∈fp,H' b=none)→∀ b∈fp,FpOk X pins H' b:=fun hn b hb=>⟨hn b hb,(hf b hb).2⟩
 refine codeAny_loop hcq (fun n s'=>∃ i σ' H',Inv X pins σ' H' s'∧tn i s'.heap∧(∀ b∈fp,H' b=none)∧W i n σ' H') ?_ m0 ⟨0,σ,H,I,st,fun b hb=>(hf b hb).1,w0⟩
 rintro n s3 ⟨i,σ3,H3,I3,st3,fr3,w3⟩
 rw [hden,hund]
 refine wpAny_noted (wpAny_mono (E:=fun _ _=>False) ?_ (fun _ _ q=>q) fun _ _ z=>z.elim)
 rw [heq]
 have hxe':∀ {α:Type} {t:Sem α} {Q:α→Shared→Prop} {s:Shared},wpAny (model X.prog X.w) X.A t Q X.xe s→wpAny (model X.prog X.w) X.A t Q (fun _ _=>False) s:=fun h=>by rw [hxe] at h; exact h
 refine wpAny_bind (wpAny_standAt (wpAny_bind ?_))
 rcases turn i n σ3 H3 w3 with ⟨stop,qn⟩ | ⟨go,N,hN,step⟩
 ·refine thn (T.done X rfl rfl rfl hc i pins s3 σ3 H3 _ I3 (stat fr3) st3 stop) fun r s4 ⟨hr,I4⟩=>?_
  subst hr
  exact wpAny_pure (hR s4 σ3 H3 I4 qn)
 ·refine thn (T.item X rfl rfl rfl hc i pins s3 σ3 H3 _ I3 (stat fr3) st3 go) fun r s4 ⟨u,hr,h4⟩=>?_
  subst hr
  refine wpAny_bind (thn h4 fun _ s5 zz9=>?_)
  obtain ⟨x,H5,I5,r5,y5,st5,fr5⟩:=zz9
  have I5':=I5.pinned (stat fr5) (T.obj _ _ st5)
  refine wpAny_bind (hxe' (thn (hg _ s5 σ3 H5 x u _ I5' r5 (step x H5 y5)) fun _ s6 zz9=>?_))
  obtain ⟨σ6,H6,I6,q6⟩:=zz9
  refine wpAny_bind (hxe ▸ thn (ht _ s6 σ6 H6 _ I6 q6) fun ok s7 zz9=>?_)
  obtain ⟨H7,I7,q7⟩:=zz9
  have back:∀ {σ7:St} {H7:Hp} {s7:Shared},Inv X (pins ++ pinsAt fp s5.heap) σ7 H7 s7→N σ7 H7→∃ m,m < n∧∃ i σ' H',Inv X pins σ' H' s7∧tn i s7.heap∧(∀ b∈fp,H' b=none)∧W i m σ' H':=fun {σ7 H7 s7} I7 n7=>by
   obtain ⟨m',hm,w7⟩:=hN σ7 H7 n7
   refine ⟨m',hm,i + 1,σ7,H7,I7.unpinned,T.keep _ _ _ st5 fun b hb o e=>(I7.pin (b,o) (List.mem_append_right _ (List.mem_append_right _ (mem_pinsAt hb e)))).1,fun b hb=>?_,w7⟩
   obtain ⟨o,e,d⟩:=T.obj _ _ st5 b hb
   exact (I7.pin (b,o) (List.mem_append_right _ (List.mem_append_right _ (mem_pinsAt hb e)))).2.1
  cases ok with
  | false=>exact hxe ▸ wpAny_pure ⟨rfl,back I7 q7⟩
  | true =>
   refine thn (hb _ s7 σ6 H7 N I7 q7) fun fin s8 zz9=>?_
   obtain ⟨hfin,σ8,H8,I8,q8⟩:=zz9
   subst hfin
   exact ⟨rfl,back I8 q8⟩
end
end L2
set_option maxHeartbeats 4000000
namespace L2
open PySem PySem.Spec PyProof.Rows
noncomputable def tEmit (te:TE) (D:Addr):TB:=fun σ H N=>te σ H fun v H1=>∃ xs,H1 D=some (.lst xs)∧xs.length < sizeLine∧N σ (upd H1 D (.lst (xs ++ [v])))
section
variable {X:Cx}
theorem pb_emit {elt:Expr} {te:TE} {D:Addr} {c:Code} (he:PE X elt te) :
  PB X ((eval elt X.env >>= fun x=>call (.builtin "list.append") [.ref D,x] >>= fun _=>pure ()) >>= fun _=>again c) c (tEmit te D):=by
 intro pins s σ H N I h
 refine wpAny_bind (wpAny_bind (thn (he pins s σ H _ I h) fun u s1 zz9=>?_))
 obtain ⟨v,H1,I1,r1,q1⟩:=zz9
 obtain ⟨xs,hD,hl,q⟩:=q1
 refine wpAny_bind (thn (mt_append pins s1 σ H1 (.ref D) [v] (.ref D) [u] (fun _ H2=>N σ H2) I1 rfl (.cons r1 .nil) ⟨D,xs,v,rfl,rfl,hD,hl,q⟩) fun _ s2 zz9=>?_)
 obtain ⟨_,H2,I2,_,q2⟩:=zz9
 exact wpAny_pure (wpAny_pure ⟨rfl,σ,H2,I2,q2⟩)
noncomputable def tGen (wi:TI) (g:TG) (tt:TT) (tb:TB):TB:=fun σ H N=>wi σ H fun J H1=>LoopR J g tt tb N σ H1
theorem compStart1 {prog:Program} {w:World} {A:Around} {R:Result→Shared→Prop} {s:Shared} {elt:Expr} {t0 i0:Expr} {f0:List Expr} {t1 i1:Expr} {f1:List Expr} {scope:Scope} {pos:Pos} {it acc:Value} {env:Env}
  (h0:codeAny (model prog w) A (.compLoop (.ListComp elt [⟨t0,i0,f0,0⟩,⟨t1,i1,f1,0⟩] scope pos) 1 it acc env) R s)
  (h:wpAny (model prog w) A (pyIter it) (fun it' s'=>codeAny (model prog w) A (.compLoop (.ListComp elt [⟨t0,i0,f0,0⟩,⟨t1,i1,f1,0⟩] scope pos) 1 it' acc env) R s')
   (notedBy (model prog w) A env fun x s'=>R (.error x) s') s) :
  codeAny (model prog w) A (.compStart (.ListComp elt [⟨t0,i0,f0,0⟩,⟨t1,i1,f1,0⟩] scope pos) 1 it acc env) R s:=by
 refine codeAny_of_tree ?_
 show wpAny _ _ ((compStart (.ListComp elt [⟨t0,i0,f0,0⟩,⟨t1,i1,f1,0⟩] scope pos) 1 it acc env).onRaise (fun x=>do noteFrame x env; standAt theWindowsPlace)) _ _ s
 refine wpAny_notedAt ?_
 unfold compStart
 show wpAny _ _ (ask >>= _) _ _ s
 refine wpAny_bind (wpAny_askSetting (wpAny_ite ?_))
 split
 ·first
   | exact wpAny_bind (wpAny_pure (wpAny_pure (And.intro rfl h0)))
   | exact wpAny_pure (And.intro rfl h0)
 ·first
   | exact wpAny_bind (wpAny_rule (wpAny_bind (wpAny_standAt (wpAny_bind (wpAny_mono h (fun it' s' h'=>wpAny_pure (And.intro rfl h')) fun _ _ x=>x)))))
   | (refine wpAny_bind (wpAny_rule ?_); show wpAny _ _ (standAt i1.pos >>= _) _ _ s; exact wpAny_bind (wpAny_standAt (wpAny_bind (wpAny_mono h (fun it' s' h'=>wpAny_pure (And.intro rfl h')) fun _ _ x=>x))))
theorem pb_gen {elt t0 i0 t1 i1:Expr} {f0 f1:List Expr} {scope:Scope} {pos:Pos} {D:Addr} {c:Code} {wi:TI} {g:TG} {tt:TT} {te:TE} (hxe:X.xe=fun _ _=>False) (hc:X.calm=true)
  (hi:PI X t1 i1 wi) (hg:PG X t1 g) (ht:PTs X f1 tt) (he:PE X elt te) (hs:∀ x,foldedSetIterable i1 X.env x=pure x:=by intro _; rfl) :
  PB X (eval i1 X.env >>= fun x=>standAt i1.pos >>= fun _=>foldedSetIterable i1 X.env x >>= fun x=>holding [x] (pyIter x) >>= fun it =>
   runOwn (.compStart (.ListComp elt [⟨t0,i0,f0,0⟩,⟨t1,i1,f1,0⟩] scope pos) 1 it (.ref D) X.env) X.env >>= fun _=>again c) c (tGen wi g tt (tEmit te D)):=by
 intro pins s σ H N I h
 refine wpAny_bind (thn (hi pins s σ H _ I h) fun v s1 h1=>wpAny_bind (wpAny_standAt ?_))
 rw [hs]
 refine wpAny_bind (wpAny_pure (wpAny_bind (wpAny_holding (thn h1 fun itv s2 h2=>?_))))
 obtain ⟨it,fp,tn,J,H2,e,I2,T,st2,f2,L⟩:=h2
 subst e
 have loop:∀ (A:Around),A=X.A→codeAny (model X.prog X.w) A (.compLoop (.ListComp elt [⟨t0,i0,f0,0⟩,⟨t1,i1,f1,0⟩] scope pos) 1 (.ref it) (.ref D) X.env)
   (fun r s'=>match r with | .ok f=>wpAny (model X.prog X.w) X.A (again c) (fun fin s'=>fin=.again c∧∃ σ' H',Inv X pins σ' H' s'∧N σ' H') X.xe s' | .error e=>cameBackBy (model X.prog X.w) X.A X.env X.xe e s') s2:=by
  rintro A rfl
  exact comp_loop (tg:=t1) (ifs:=f1) (R:=N) hxe rfl rfl rfl rfl T hc hg ht (pb_emit (c:=.compLoop (.ListComp elt [⟨t0,i0,f0,0⟩,⟨t1,i1,f1,0⟩] scope pos) 1 (.ref it) (.ref D) X.env) he) f2 I2 st2 L fun s' σ' H' I' q=>wpAny_pure ⟨rfl,σ',H',I',q⟩
 refine wpAny_bind (wpAny_runOwn (h:=none) ?_)
 exact compStart1 (loop _ rfl) (T.self _ _ _ _ _ st2 (loop _ rfl))
end
end L2
set_option maxHeartbeats 4000000
namespace L2
open PySem PySem.Spec PyProof.Rows
noncomputable def tComp (ts:List Str) (fv:List (Str × Nat)) (wi:TI) (g:TG) (tt:TT) (tb:Addr→TB):TE:=fun σ H Q=>wi σ H fun J H1=>∀ D,H1 D=none →
 LoopR J g tt (tb D) (fun _ H'=>Q (.ref D) H') (blkS ts fv σ) (upd H1 D (.lst []))
section
variable {X:Cx} {ts:List Str} {fv:List (Str × Nat)} {scope:Scope} {elt t0 i0:Expr} {f0:List Expr} {rest:List Comprehension} {pos:Pos} {wi:TI} {g:TG} {tt:TT} {tb:Addr→TB} {kont:Env→Addr→Addr→Sem Fin}
theorem comp_core (B:BlkOk X scope fv) (hc:X.calm=true) (hi:PI X t0 i0 wi)
  (hg:∀ C s₀ H₀ ex,PG (blkCx X (blkN ts fv) scope C s₀ H₀ ex) t0 g) (ht:∀ C s₀ H₀ ex,PTs (blkCx X (blkN ts fv) scope C s₀ H₀ ex) f0 tt)
  (heq:∀ (env:Env) (it D:Addr),compTurn (.ListComp elt (⟨t0,i0,f0,0⟩ :: rest) scope pos) 0 (.ref it) (.ref D) env=(standAt i0.pos >>= fun _=>pyNext (.ref it) >>= fun r=>match r with
   | none=>pure (.done .next)
   | some v=>letOwnedTupleGo t0 (.ref it) v >>= fun _=>assign t0 env v >>= fun _ =>
    (forIn f0 true fun c r=>if r=true then do let ok ← isTrue c env (eval c env); pure (ForInStep.yield ok) else pure (ForInStep.yield r)) >>= fun ok =>
     if ok=true then kont env it D else again (.compLoop (.ListComp elt (⟨t0,i0,f0,0⟩ :: rest) scope pos) 0 (.ref it) (.ref D) env)))
  (hb:∀ C s₀ H₀ ex it D,PB (blkCx X (blkN ts fv) scope C s₀ H₀ ex) (kont (blkCx X (blkN ts fv) scope C s₀ H₀ ex).env it D) (.compLoop (.ListComp elt (⟨t0,i0,f0,0⟩ :: rest) scope pos) 0 (.ref it) (.ref D) (blkCx X (blkN ts fv) scope C s₀ H₀ ex).env) (tb D))
  {pins:List (Addr × Obj)} {s:Shared} {σ:St} {H:Hp} {Q:VK} {RR:Value→Addr→Result→Shared→Prop} (I:Inv X pins σ H s) (h:tComp ts fv wi g tt tb σ H Q)
  (hRR:∀ D C s' H',Inv X pins σ H' s'→H' C=none→X.s₀.heap.objs.size≤C→C≠X.env.locals→(∀ x c,X.env.cells.lookup x=some c→c≠C)→(∀ p∈X.pn ++ pins,p.1≠C)→(∃ m,s'.heap.Ns C m)→Q (.ref D) H'→RR (.ref D) C (.ok .next) s') :
  wpAny (model X.prog X.w) X.A (eval i0 X.env) (fun x s₁=>wpAny (model X.prog X.w) X.A (pyIter x) (fun it s₂=>wpAny (model X.prog X.w) X.A (newList []) (fun acc s₃ =>
   wpAny (model X.prog X.w) X.A (newFunctionEnv scope X.env.globals (cloList X.env scope.names []) [] X.env.qual none .none (some X.env)) (fun cenv s₄ =>
    codeAny (model X.prog X.w) X.A (.compStart (.ListComp elt (⟨t0,i0,f0,0⟩ :: rest) scope pos) 0 it acc { cenv with scope:=relabel scope X.env }) (RR acc cenv.locals) s₄) X.xe s₃) X.xe s₂) X.xe s₁) X.xe s:=by
 refine thn (hi pins s σ H _ I h) fun v s1 h1=>thn h1 fun itv s2 h2=>?_
 obtain ⟨it,fp,tn,J,H2,e,I2,T,st2,f2,L⟩:=h2
 subst e
 have L:=L s2.heap.objs.size I2.fresh
 refine wpAny_newObj_type ?_
 have I3:Inv X pins σ (upd H2 s2.heap.objs.size (.lst [])) { s2 with heap:=s2.heap.push { cls:=.type "list",data:=.seq ([]:List Value).toArray },toks:=s2.toks }:=I2.lnew (its:=[]) (t':=s2.toks) .nil (Nat.zero_le _)
 have ho2:∀ b∈fp,∃ o,s2.heap.get? b=some o∧∀ v,o.data≠.cell v:=T.obj _ _ st2
 have f3:∀ b∈fp,FpOk X pins (upd H2 s2.heap.objs.size (.lst [])) b:=fun b hb=>by
  obtain ⟨o,ho,_⟩:=ho2 b hb
  refine ⟨?_,(f2 b hb).2⟩
  rw [upd_ne (Nat.ne_of_lt (Heap.lt_size ho))]
  exact (f2 b hb).1
 have st3:tn 0 (s2.heap.push { cls:=.type "list",data:=.seq ([]:List Value).toArray }):=T.keep _ _ _ st2 fun b _ o e=>Heap.get?_push_of_some _ e
 have ho3:∀ b∈fp,∃ o,(s2.heap.push { cls:=.type "list",data:=.seq ([]:List Value).toArray }).get? b=some o:=fun b hb=>let ⟨o,e,_⟩:=ho2 b hb; ⟨o,Heap.get?_push_of_some _ e⟩
 generalize hs3:({ s2 with heap:=s2.heap.push { cls:=.type "list",data:=.seq ([]:List Value).toArray },toks:=s2.toks }:Shared)=s3 at I3
 have eh:s2.heap.push { cls:=.type "list",data:=.seq ([]:List Value).toArray }=s3.heap:=by rw [← hs3]
 rw [eh] at st3 ho3
 refine wpAny_newFunctionEnv B.nocell (by intro y hy; simp at hy) (fun h₁ hns hsb=>?_) B.kind
 have hk:∀ b o,s3.heap.get? b=some o→h₁.get? b=some o:=fun b o e=>hsb.extBut b o (Nat.ne_of_lt (Heap.lt_size e)) (Heap.get?_push_of_some _ e)
 have I4:=blk_start (ts:=ts) (tk:=s3.toks + ([]:List (Str × Value)).length) B I3 f3 ho3 hns hk
 have f4:∀ b∈fp,FpOk (blkCx X (blkN ts fv) scope s3.heap.objs.size s3 (upd H2 s2.heap.objs.size (.lst [])) fp) [] (upd H2 s2.heap.objs.size (.lst [])) b:=fun b hb=>by
  obtain ⟨f0,f1,f2',f3',f4',f5'⟩:=f3 b hb
  obtain ⟨o,eo⟩:=ho3 b hb
  exact ⟨f0,Nat.ne_of_lt (Heap.lt_size eo),I4.ok.exfs b hb,.inl hb,(I4.ok.exf b hb).2,fun p hp=>absurd (show p∈([]:List (Addr × Obj)) from hp) (by simp)⟩
 have st4:tn 0 h₁:=T.keep _ _ _ st3 fun b _ o e=>hk b o e
 have loop:codeAny (model X.prog X.w) X.A (.compLoop (.ListComp elt (⟨t0,i0,f0,0⟩ :: rest) scope pos) 0 (.ref it) (.ref s2.heap.objs.size) (blkCx X (blkN ts fv) scope s3.heap.objs.size s3 (upd H2 s2.heap.objs.size (.lst [])) fp).env)
   (RR (.ref s2.heap.objs.size) s3.heap.objs.size) { s3 with heap:=h₁,toks:=s3.toks + ([]:List (Str × Value)).length }:=by
  refine comp_loop (X:=blkCx X (blkN ts fv) scope s3.heap.objs.size s3 (upd H2 s2.heap.objs.size (.lst [])) fp) (tg:=t0) (ifs:=f0) (R:=fun _ H'=>Q (.ref s2.heap.objs.size) H') rfl rfl rfl rfl (heq _ it s2.heap.objs.size) T hc (hg _ _ _ _) (ht _ _ _ _) (hb _ _ _ _ it s2.heap.objs.size) f4 I4 st4 L fun s' σ' H' J' q=>?_
  obtain ⟨e1,e2,e3,e4,e5,e6⟩:=blk_end I3 f3 (Nat.le_refl _) J'
  obtain ⟨m,hm,_⟩:=J'.loc
  exact hRR _ _ s' H' e1 e2 e3 e4 e5 e6 ⟨m,hm⟩ q
 exact codeAny_compStart_list loop (T.self _ _ _ _ _ st4 loop)
theorem pe_compG (B:BlkOk X scope fv) (hc:X.calm=true) (hi:PI X t0 i0 wi)
  (hg:∀ C s₀ H₀ ex,PG (blkCx X (blkN ts fv) scope C s₀ H₀ ex) t0 g) (ht:∀ C s₀ H₀ ex,PTs (blkCx X (blkN ts fv) scope C s₀ H₀ ex) f0 tt)
  (heq:∀ (env:Env) (it D:Addr),compTurn (.ListComp elt (⟨t0,i0,f0,0⟩ :: rest) scope pos) 0 (.ref it) (.ref D) env=(standAt i0.pos >>= fun _=>pyNext (.ref it) >>= fun r=>match r with
   | none=>pure (.done .next)
   | some v=>letOwnedTupleGo t0 (.ref it) v >>= fun _=>assign t0 env v >>= fun _ =>
    (forIn f0 true fun c r=>if r=true then do let ok ← isTrue c env (eval c env); pure (ForInStep.yield ok) else pure (ForInStep.yield r)) >>= fun ok =>
     if ok=true then kont env it D else again (.compLoop (.ListComp elt (⟨t0,i0,f0,0⟩ :: rest) scope pos) 0 (.ref it) (.ref D) env)))
  (hb:∀ C s₀ H₀ ex it D,PB (blkCx X (blkN ts fv) scope C s₀ H₀ ex) (kont (blkCx X (blkN ts fv) scope C s₀ H₀ ex).env it D) (.compLoop (.ListComp elt (⟨t0,i0,f0,0⟩ :: rest) scope pos) 0 (.ref it) (.ref D) (blkCx X (blkN ts fv) scope C s₀ H₀ ex).env) (tb D))
  (hs:∀ x,foldedSetIterable i0 X.env x=pure x:=by intro _; rfl) :
  PE X (.ListComp elt (⟨t0,i0,f0,0⟩ :: rest) scope pos) (tComp ts fv wi g tt tb):=by
 intro pins s σ H Q I h
 rw [eval_ListComp]
 refine wpAny_comprehension_free (use:=none) rfl hs (closure_run fun y hy e=>I.ok.has y.1 (B.free y hy e)) B.kind B.names ?_
 refine comp_core (RR:=fun acc C=>compPost (model X.prog X.w) X.A X.xe none (EP X pins σ Q) acc C) B hc hi hg ht heq hb I h fun D C s' H' I' e2 e3 e4 e5 e6 hm q=>?_
 obtain ⟨m,hm⟩:=hm
 exact ⟨m,hm,fun h' hs'=>⟨.ref D,H',I'.apart hs' e2 e3 e4 e5 e6,rfl,q⟩⟩
theorem ps_setCompG {i:Nat} {y:Str} {py spos:Pos} (B:BlkOk X scope fv) (hc:X.calm=true) (hN:X.N.Nodup) (hiy:X.N[i]?=some y) (hyl:X.env.scope.names.lookup y=some .local)
  (hsw:swapsWith (.ListComp elt (⟨t0,i0,f0,0⟩ :: rest) scope pos) (some (.Name y py)) spos.line X.env=pure true) (hi:PI X t0 i0 wi)
  (hg:∀ C s₀ H₀ ex,PG (blkCx X (blkN ts fv) scope C s₀ H₀ ex) t0 g) (ht:∀ C s₀ H₀ ex,PTs (blkCx X (blkN ts fv) scope C s₀ H₀ ex) f0 tt)
  (heq:∀ (env:Env) (it D:Addr),compTurn (.ListComp elt (⟨t0,i0,f0,0⟩ :: rest) scope pos) 0 (.ref it) (.ref D) env=(standAt i0.pos >>= fun _=>pyNext (.ref it) >>= fun r=>match r with
   | none=>pure (.done .next)
   | some v=>letOwnedTupleGo t0 (.ref it) v >>= fun _=>assign t0 env v >>= fun _ =>
    (forIn f0 true fun c r=>if r=true then do let ok ← isTrue c env (eval c env); pure (ForInStep.yield ok) else pure (ForInStep.yield r)) >>= fun ok =>
     if ok=true then kont env it D else again (.compLoop (.ListComp elt (⟨t0,i0,f0,0⟩ :: rest) scope pos) 0 (.ref it) (.ref D) env)))
  (hb:∀ C s₀ H₀ ex it D,PB (blkCx X (blkN ts fv) scope C s₀ H₀ ex) (kont (blkCx X (blkN ts fv) scope C s₀ H₀ ex).env it D) (.compLoop (.ListComp elt (⟨t0,i0,f0,0⟩ :: rest) scope pos) 0 (.ref it) (.ref D) (blkCx X (blkN ts fv) scope C s₀ H₀ ex).env) (tb D))
  (hs:∀ x,foldedSetIterable i0 X.env x=pure x:=by intro _; rfl) :
  PS X (.Assign [.Name y py] (.ListComp elt (⟨t0,i0,f0,0⟩ :: rest) scope pos) spos) (tAsg (tComp ts fv wi g tt tb) (gName i)):=by
 intro pins s σ H D0 I h
 rw [exec_Assign_Name_used _ _ _ _ hsw]
 refine wpAny_bind (wpAny_standAt (wpAny_bind ?_))
 show wpAny _ X.A (do let _ ← comprehension (.ListComp elt (⟨t0,i0,f0,0⟩ :: rest) scope pos) scope X.env _ (newList []) false (eval i0 X.env) (some (assign (.Name y py) X.env))) _ _ s
 refine wpAny_bind (wpAny_mono (wpAny_comprehension_free (use:=some (assign (.Name y py) X.env)) (Q:=fun _ s'=>SP X pins D0 .next s') rfl hs (closure_run fun y hy e=>I.ok.has y.1 (B.free y hy e)) B.kind B.names ?_) (fun _ s' hq=>wpAny_pure (wpAny_pure hq)) fun _ _ e=>e)
 refine comp_core (Q:=fun x H1=>gName i x σ H1 D0.nx) (RR:=fun acc C=>compPost (model X.prog X.w) X.A X.xe (some (assign (.Name y py) X.env)) (fun _ s'=>SP X pins D0 .next s') acc C) B hc hi hg ht heq hb I h fun D C s' H' I' e2 e3 e4 e5 e6 hm q=>?_
 obtain ⟨m,hm⟩:=hm
 show wpAny _ X.A (assign (.Name y py) X.env (.ref D)) _ _ _
 refine wpAny_assign_Name (store_ok2 I' hN hiy (.inl hyl) (show RelV (.ref D) (.ref D) from rfl) (fun s'' I'' hch=>?_) (.inr hyl))
 obtain ⟨a,hsb,ha⟩:=hch
 have haC:C≠a:=by
  rcases ha with e | e
  ·rw [e]; exact e4
  ·exact fun z=>e5 y a e z.symm
 exact ⟨m,hm.sameBut hsb haC,fun h' hs'=>⟨_,H',I''.apart hs' e2 e3 e4 e5 e6,q⟩⟩
end
end L2
set_option maxHeartbeats 4000000
namespace L2
open PySem PySem.Spec PyProof.Rows
noncomputable def FlyT (e T:Addr) (cls a0:Value) (h:Heap):Prop :=
 ∃ oe vs oT ts,h.get? e=some oe∧(oe.cls=cls∧vs[0]?=some a0)∧oe.data=.fields vs∧vs[1]?=some (.ref T)∧T≠e∧h.get? T=some oT∧oT.data=.fields ts∧ts[3]?=some .none
noncomputable def CXr (P:Program) (w:World):CXT:=fun outer H s E ev s' =>
 ∃ (e T:Addr) (cls a0:Value) (H':Hp),ev=.ref e∧s'.os=s.os∧AllBare s'.gens∧Un (frs outer) [] H H' s.heap s'.heap∧HOk P w H' s'.heap ∧
  s.heap.get? e=none∧s.heap.get? T=none∧H' e=none∧H' T=none∧FlyT e T cls a0 s'.heap∧E cls none H'
theorem passR {X:Cx}:Passes (CXr X.prog X.w) X E0:=fun _ _ _ _ _ _ _ h=>by
 obtain ⟨_,_,_,_,_,_,_,_,_,_,_,_,_,_,_,z⟩:=h
 exact z.elim
theorem cxr_top {P:Program} {w:World} {H:Hp} {s:Shared} {e:Value} {s':Shared} (h:CXr P w [] H s (fun _ _ _=>False) e s'):False:=by
 obtain ⟨_,_,_,_,_,_,_,_,_,_,_,_,_,_,_,z⟩:=h
 exact z
section
variable {P:Program} {w:World} {K:PySem.W.Frag} {mg:Str→Option Value} {base:Heap}
theorem Fun.okR {x qual:Str} {st:Stmt} {f:Addr} {fd:FuncData} {N ps:List Str} {k:Nat} {sp:Sp} (F:Fun K x qual st f fd) (S:FnScope N ps (defScope st)) (len:∀ vs H Q E,sp vs H Q E→vs.length=ps.length)
  (hbody:∀ (cdv:Value) (A:Around) (outer:List Env) (s:Shared) (H:Hp) (vs:List V) (Q:VK) (E:XK),Room k (A.deeper (envOfC qual (defScope st) s.heap.objs.size f cdv))→sp vs H Q E →
   ∃ t,PSs (cxOf (CXr P w) P w K mg base N qual (defScope st) f cdv A outer s H E).nox (defBody st) t∧t { nx:=fun _ H'=>Q .non H',rt:=Q } (start N vs) H):FnOk P w K mg base (CXr P w) (k + 1) f fd ps sp:=by
 obtain ⟨oc,od,kV,doc,pm,an,cdv,ct,osl,rfl,lk,hcd⟩:=F.ex
 refine fn_of lk hcd S len fun A outer s H vs Q E hr hsp=>?_
 obtain ⟨t,h,q⟩:=hbody cdv A outer s H vs Q E hr hsp
 exact ⟨t,h.nox,q⟩
end
section
variable {X:Cx}
theorem call_isinst:CallR X (.builtin "isinstance") (fun xs H Q=>∃ x T t b,xs=[x,.ty T]∧TyOf X.K H x t∧PySem.W.kitOne X.K t (.type T)=some b∧Q (.bl b) H):=by
 intro pins s σ H xs us Q I r h
 obtain ⟨x,T,t,b,rfl,hty,hk,q⟩:=h
 obtain ⟨u,v,rfl,ru,rv⟩:=r.two
 obtain rfl:v=Value.type T:=rv
 exact isinst_ok I ru hty hk fun tk=>⟨.bl b,H,I.tok _,rfl,q⟩
theorem kit_same {K:PySem.W.Frag} {T:String}:PySem.W.kitOne K (.type T) (.type T)=some true:=by
 unfold PySem.W.kitOne
 rw [if_pos (by simp)]
theorem blkFree {X:Cx} {scope:Scope} (h:scope.names.all (fun y=>y.2 != .free || X.env.kindOf y.1 == some .cell || X.env.kindOf y.1 == some .free)=true) :
  ∀ y∈scope.names,y.2=.free→X.env.kindOf y.1=some .cell∨X.env.kindOf y.1=some .free:=fun y hy e=>by
 have:=List.all_eq_true.mp h y hy
 simp [e] at this
 exact this
end
theorem walk_r {l:PySem.W.OpenLaw} {k:Nat} {q:Program} {loose:List Str} {XP:(Str→Option Value)→Heap→Prop} {YP:World→Heap→Prop} {d:DefRec} {K:Params→PySem.W.Frag} {spl:PySem.W.Frag→Sp}
  (hn:l.most=some 63) (hdf:d.params.defaults=[]) (hr:Room k callerA) (hY:∀ (w:World) (h:Heap),YP w h→(K w.params).In h)
  (hsp:∀ (K:PySem.W.Frag) (H:Hp) (a:Addr) (ns:List Int),ns.length≤63→SqL K H a (ns.map V.int)→spl K [.ref a] H (fun v _=>v=.bl true) fun _ _ _=>False)
  (F:∀ (w:World) (mg:Str→Option Value) (fa:Addr) (h:Heap),(K w.params).In h→h.Ns mainGlobals mg→mg d.name=some (.ref fa) →
   ∃ fd:FuncData,(∀ (s:Shared) (u:Value),BindsTo s fd ⟨[u],[]⟩ [("_law_script",u)]) ∧
    ∀ base:Heap,(K w.params).In base→base.Ns mainGlobals mg→FnOk l.prog w (K w.params) mg base (CXr l.prog w) k fa fd ["_law_script"] (spl (K w.params))) :
  PySem.W.WalkO q loose XP YP l.row.toRowW d [] (fun f vs=>PySem.call f vs) :=
 walk_of (n:=63) (k:=k) (x:="_law_script") (CX:=fun w=>CXr l.prog w) (sp:=fun w=>spl (K w.params)) hn (by decide) hdf hr hY F (fun w H a ns hl _ hS=>hsp _ H a ns hl hS) (fun w H s e s' h=>cxr_top h)
end L2
set_option maxHeartbeats 4000000
namespace L2
open PySem PySem.Spec PyProof.Rows
noncomputable def ExT (e:Addr) (T:Option Addr) (cls a0:Value) (h:Heap):Prop:=match T with
 | some T=>FlyT e T cls a0 h
 | none=>∃ oe vs,h.get? e=some oe∧(oe.cls=cls∧vs[0]?=some a0)∧oe.data=.fields vs∧vs[1]?=some .none
structure FxOk (X:Cx) (pins:List (Addr × Obj)) (H:Hp) (b:Addr):Prop where
 nt:H b=none
 nl:b≠X.env.locals
 nf:b ∉ X.fs
 n0:X.s₀.heap.get? b=none
 nc:∀ x c,X.env.cells.lookup x=some c→c≠b
 np:∀ p∈X.pn ++ pins,p.1≠b
noncomputable def XS (fr:Bool) (X:Cx) (pins:List (Addr × Obj)) (R:Value→St→Hp→Prop) (ev:Value) (s':Shared):Prop :=
 ∃ (e:Addr) (T:Option Addr) (cls a0:Value) (σ':St) (H':Hp),ev=.ref e∧Inv X pins σ' H' s'∧ExT e T cls a0 s'.heap∧FxOk X pins H' e∧(∀ t,T=some t→FxOk X pins H' t)∧(T=none→fr=true)∧R cls σ' H'
noncomputable abbrev TSX:=Ends→(Value→St→Hp→Prop)→St→Hp→Prop
noncomputable abbrev TEX:=St→Hp→VK→XK→Prop
noncomputable def PSX (fr:Bool) (X:Cx) (st:Stmt) (t:TSX):Prop :=
 ∀ (pins:List (Addr × Obj)) (s:Shared) (σ:St) (H:Hp) (D:Ends) (R:Value→St→Hp→Prop),Inv X pins σ H s→t D R σ H→wpAny (model X.prog X.w) X.A (exec st X.env) (SP X pins D) (XS fr X pins R) s
noncomputable def PSsX (fr:Bool) (X:Cx) (st:List Stmt) (t:TSX):Prop :=
 ∀ (pins:List (Addr × Obj)) (s:Shared) (σ:St) (H:Hp) (D:Ends) (R:Value→St→Hp→Prop),Inv X pins σ H s→t D R σ H→wpAny (model X.prog X.w) X.A (execs st X.env) (SP X pins D) (XS fr X pins R) s
noncomputable def PEX (fr:Bool) (X:Cx) (e:Expr) (t:TEX):Prop :=
 ∀ (pins:List (Addr × Obj)) (s:Shared) (σ:St) (H:Hp) (Q:VK) (E:XK),Inv X pins σ H s→t σ H Q E→wpAny (model X.prog X.w) X.A (eval e X.env) (EP X pins σ Q) (XS fr X pins fun cls σ' H'=>σ'=σ∧E cls none H') s
section
variable {X:Cx} {fr:Bool}
theorem psx_of {st:Stmt} {t:TS} (h:PS X st t) (hx:X.xe=(fun _ _=>False):=by rfl):PSX fr X st (fun D _ σ H=>t D σ H):=fun pins s σ H D R I q=>by
 have:=h pins s σ H D I q
 rw [hx] at this
 exact wpAny_mono this (fun _ _ z=>z) fun _ _ z=>z.elim
noncomputable def tSeqX (t u:TSX):TSX:=fun D R σ H=>t { D with nx:=u D R } R σ H
theorem pssx_cons {st:Stmt} {rest:List Stmt} {t u:TSX} (h1:PSX fr X st t) (h2:PSsX fr X rest u):PSsX fr X (st :: rest) (tSeqX t u):=by
 intro pins s σ H D R I h
 refine wpAny_execs_cons (thn (h1 pins s σ H { D with nx:=u D R } R I h) fun f s1 q=>?_)
 cases f with
 | next =>
  obtain ⟨σ',H',I',q⟩:=q
  exact h2 pins s1 σ' H' D R I' q
 | ret v=>exact q
 | brk=>exact q
 | cont=>exact q
theorem pssx_one {st:Stmt} {t:TSX} (h1:PSX fr X st t):PSsX fr X [st] t:=by
 intro pins s σ H D R I h
 refine wpAny_execs_cons (thn (h1 pins s σ H D R I h) fun f s1 q=>?_)
 cases f with
 | next=>exact wpAny_execs_nil q
 | ret v=>exact q
 | brk=>exact q
 | cont=>exact q
theorem pssx_nil:PSsX fr X [] (fun D _ σ H=>D.nx σ H):=fun _ _ σ H _ _ I h=>wpAny_execs_nil ⟨σ,H,I,h⟩
noncomputable def tIfX (c:TT) (t u:TSX):TSX:=fun D R σ H=>c σ H fun b H1=>if b=true then t D R σ H1 else u D R σ H1
theorem psx_if {c:Expr} {a b:List Stmt} {tc:TT} {t u:TSX} {pos:Pos} (hc:PT X c tc) (ha:PSsX fr X a t) (hb:PSsX fr X b u) (hx:X.xe=(fun _ _=>False):=by rfl):PSX fr X (.If c a b pos) (tIfX tc t u):=by
 intro pins s σ H D R I h
 have h0:=hc pins s σ H _ I h
 rw [hx] at h0
 refine wpAny_If (wpAny_mono h0 (fun d s1 zz27=>?_) fun _ _ z=>z.elim)
 obtain ⟨H1,I1,q1⟩:=zz27
 cases d with
 | true=>exact ha pins s1 σ H1 D R I1 q1
 | false=>exact hb pins s1 σ H1 D R I1 q1
noncomputable def tDropX (te:TEX):TSX:=fun D R σ H=>te σ H (fun _ H1=>D.nx σ H1) fun cls _ H1=>R cls σ H1
theorem psx_expr {e:Expr} {te:TEX} {pos:Pos} (he:PEX fr X e te) (hs:swapsWith e none pos.line X.env=pure false:=by rfl):PSX fr X (.Expr e pos) (tDropX te):=by
 intro pins s σ H D R I h
 refine wpAny_Expr_any (wpAny_mono (he pins s σ H _ _ I h) (fun v s1 ⟨x,H1,I1,r1,q1⟩=>⟨σ,H1,I1,q1⟩) ?_) I.quiet hs
 rintro ev s1 ⟨e,T,cls,a0,σ',H',h1,h2,h3,h4,h5,h7,rfl,h6⟩
 exact ⟨e,T,cls,a0,σ',H',h1,h2,h3,h4,h5,h7,h6⟩
noncomputable def tSetX (i:Nat) (te:TEX):TSX:=fun D R σ H=>te σ H (fun x H1=>D.nx (σ.set i (some x)) H1) fun cls _ H1=>R cls σ H1
theorem psx_set {i:Nat} {x:Str} {e:Expr} {te:TEX} {pos pos':Pos} (hN:X.N.Nodup) (hi:X.N[i]?=some x) (hx:Loc X.env.scope x) (he:PEX fr X e te) (hs:swapsWith e (some (.Name x pos')) pos.line X.env=pure false:=by rfl)
  (hf:X.fn x=true∨X.env.scope.names.lookup x=some .local:=by first | exact .inl rfl | exact .inr rfl | assumption):PSX fr X (.Assign [.Name x pos'] e pos) (tSetX i te):=by
 intro pins s σ H D R I h
 refine wpAny_Assign_Name (wpAny_mono (he pins s σ H _ _ I h) (fun v s1 ⟨y,H1,I1,r1,q1⟩=>?_) ?_) hs
 ·exact store_ok I1 hN hi hx r1 (fun s2 I2=>⟨_,H1,I2,q1⟩) hf
 ·rintro ev s1 ⟨e,T,cls,a0,σ',H',h1,h2,h3,h4,h5,h7,rfl,h6⟩
  exact ⟨e,T,cls,a0,σ',H',h1,h2,h3,h4,h5,h7,h6⟩
theorem Inv.cxr {pins:List (Addr × Obj)} {σ:St} {H:Hp} {s s':Shared} {E:XK} {ev:Value} (I:Inv X pins σ H s) (hex:X.ex=[]) (h:CXr X.prog X.w X.stack H s E ev s'):XS fr X pins (fun cls σ' H'=>σ'=σ∧E cls none H') ev s':=by
 obtain ⟨e,T,cls,a0,H',rfl,os,bare,un,hok,ne,nT,he,hT,fl,q⟩:=h
 have I':Inv X pins σ H' s':=I.call' os un hok bare fun b hb=>absurd hb (by simp)
 have fx:∀ b,s.heap.get? b=none→H' b=none→FxOk X pins H' b:=fun b hb hn=>by
  refine ⟨hn,fun z=>?_,fun z=>?_,?_,fun x c e z=>?_,fun p hp z=>?_⟩
  ·obtain ⟨m,⟨o,_,_,ho,_⟩,_⟩:=I.loc
   rw [z,ho] at hb; cases hb
  ·obtain ⟨_,o,ho,_⟩:=I.funs.mem z
   rw [ho] at hb; cases hb
  ·cases q:X.s₀.heap.get? b with
   | none=>rfl
   | some o =>
    obtain ⟨o',e'⟩:=I.base.there b o q (by rw [hex]; simp)
    rw [hb] at e'; cases e'
  ·obtain ⟨v,o,ho,_⟩:=I.cell x c e
   rw [z,hb] at ho; cases ho
  ·have:=(I.pin p hp).1
   rw [z,hb] at this; cases this
 exact ⟨e,some T,cls,a0,σ,H',rfl,I',fl,fx e ne he,fun t ht=>by cases ht; exact fx T nT hT,(fun z=>nomatch z),rfl,q⟩
variable {k:Nat} {f C:Addr} {fd:FuncData} {ps:List Str} {sp:Sp} {dvs:List V} {ds:List Value} {x m:Str} {p pos apos:Pos} {e o:Expr} {es:List Expr} {ta:TE} {t:TA}
theorem run_fnX {pins:List (Addr × Obj)} {σ:St} {H:Hp} {s:Shared} {Q:VK} {E:XK} {us:List Value} {vs:List V} (F:FnOk X.prog X.w X.K X.mg X.base (CXr X.prog X.w) k f fd ps sp) (hr:Room k X.A) (hb:Binds X.K fd ps ds) (hd:Vals dvs ds) (hex:X.ex=[])
  (I:Inv X pins σ H s) (r:Vals vs us) (h:sp (vs ++ dvs) H Q E):wpAny (model X.prog X.w) X.A (call (.ref f) us) (EP X pins σ Q) (XS fr X pins fun cls σ' H'=>σ'=σ∧E cls none H') s:=by
 have r2:Vals (vs ++ dvs) (us ++ ds):=r.append hd
 have hl:(us ++ ds).length=ps.length:=by rw [← r2.length]; exact F.len _ _ _ _ h
 refine wpAny_call (codeAny_mono (F.run X.A X.stack s H ⟨us,[]⟩ (us ++ ds) (vs ++ dvs) Q E hr I.env0 (hb s us I.kIn hl) r2 h) fun r s' hq=>?_)
 cases r with
 | error e=>exact I.cxr hex hq
 | ok fl =>
  cases fl with
  | ret u=>exact I.after hq
  | next=>exact False.elim hq
  | brk=>exact False.elim hq
  | cont=>exact False.elim hq
noncomputable def tCallX (sp:Sp) (dvs:List V) (t:TA):TEX:=fun σ H Q E=>t σ H fun vs H1=>sp (vs ++ dvs) H1 Q E
theorem pex_call (F:FnOk X.prog X.w X.K X.mg X.base (CXr X.prog X.w) k f fd ps sp) (hr:Room k X.A) (hg:Gl X x) (hm:X.mg x=some (.ref f)) (hk:PySem.W.keepIn X.K (.ref f)=true) (hb:Binds X.K fd ps ds) (hd:Vals dvs ds)
  (ha:PA X (e :: es) t) (hex:X.ex=[]:=by rfl) (hx:X.xe=(fun _ _=>False):=by rfl) (hdb:(x == ("__debug__":Str))=false:=by decide) (he:starEach (e :: es) X.env=(false,eval e X.env) :: starEach es X.env:=by rfl) (hpl:(backTo pos (starEach es X.env)).any (·.1)=false:=by rfl) :
  PEX fr X (.Call (.Name x p) (e :: es) [] pos) (tCallX sp dvs t):=by
 intro pins s σ H Q E I h
 have h0:=ha pos pins s σ H _ I h
 rw [hx] at h0
 refine wpAny_Call_Name_kw (ld_glob I hg hm ?_ hdb)
 refine PySem.W.callWith_K (h₀:=X.base) I.ok.mod.kin hk (wpAny_mono h0 (fun us s1 zz28=>?_) fun _ _ z=>z.elim) he hpl
 obtain ⟨vs,H1,I1,r,q⟩:=zz28
 refine ⟨I1.kIn,?_⟩
 exact run_fnX F hr hb hd hex I1 r q
noncomputable def tMethX (C:Addr) (m:Str) (sp:Sp) (dvs:List V) (ta:TE) (t:TA):TEX:=fun σ H Q E=>ta σ H fun x H1=>∃ a dx fs,x=.ref a∧H1 a=some (.ins C dx fs)∧fs.lookup m=none ∧
 t σ H1 fun vs H2=>sp (x :: (vs ++ dvs)) H2 Q E
theorem pex_meth {pl:Sem Bool} (he:PE X o ta) (c:Cls X.K C) (hm:Meth X.K C m f) (F:FnOk X.prog X.w X.K X.mg X.base (CXr X.prog X.w) k f fd ps sp) (hr:Room k X.A) (hb:Binds X.K fd ps ds) (hd:Vals dvs ds) (ha:PA X (e :: es) t)
  (hex:X.ex=[]:=by rfl) (hx:X.xe=(fun _ _=>False):=by rfl) (hst:starEach (e :: es) X.env=(false,eval e X.env) :: starEach es X.env:=by rfl) (hpl:(backTo pos (starEach es X.env)).any (·.1)=false:=by rfl)
  (ht:eval (.Call (.Attribute o m apos) (e :: es) [] pos) X.env=(do
   let ov ← eval o X.env
   standAt apos.atName
   let (f,first) ← holding [ov] (getMethod ov m pl)
   callWith pos f first (backTo pos (starEach (e :: es) X.env)) (backToKw pos (keywordEach [] X.env))):=by rfl) :
  PEX fr X (.Call (.Attribute o m apos) (e :: es) [] pos) (tMethX C m sp dvs ta t):=by
 intro pins s σ H Q E I h
 have h0:=he pins s σ H _ I h
 rw [hx] at h0
 refine PySem.W.methodCall_KW (pl:=pl) (wpAny_mono h0 (fun u s1 zz29=>?_) fun _ _ z=>z.elim) ht
 obtain ⟨x,H1,I1,rx,a,dx,fs,ex,ea,l,q⟩:=zz29
 subst ex
 obtain rfl:u=Value.ref a:=rx
 refine getmeth_ok I1 ea c hm l ?_
 have h1:=ha pos pins s1 σ H1 _ I1 q
 rw [hx] at h1
 refine PySem.W.callWith_K (first:=[.ref a]) (h₀:=X.base) I.ok.mod.kin hm.kp (wpAny_mono h1 (fun us s2 zz30=>?_) fun _ _ z=>z.elim) hst hpl
 obtain ⟨vs,H2,I2,r,q2⟩:=zz30
 refine ⟨I2.kIn,?_⟩
 exact run_fnX (us:=.ref a :: us) (vs:=.ref a :: vs) F hr hb hd hex I2 (.cons rfl r) q2
end
end L2
set_option maxHeartbeats 4000000
namespace L2
open PySem PySem.Spec PyProof.Rows
theorem ObjOk.there {P:Program} {w:World} {H:Hp} {h:Heap} {a:Addr}:∀ {o:HO},ObjOk P w H h a o→∃ ob,h.get? a=some ob
 | .lst _,x=>by obtain ⟨_,_,_,_,e⟩:=x; exact ⟨_,e⟩
 | .tup _,x=>by obtain ⟨_,_,_,ob,e,_⟩:=x; exact ⟨_,e⟩
 | .dK _,x=>by obtain ⟨_,_,_,_,o,_,_,e,_⟩:=x; exact ⟨_,e⟩
 | .dT _,x=>by obtain ⟨_,_,_,_,o,_,_,e,_⟩:=x; exact ⟨_,e⟩
 | .set _ _,x=>by obtain ⟨o,_,_,_,e,_⟩:=x; exact ⟨_,e⟩
 | .ins _ _ _,x=>by obtain ⟨_,_,_,e,_⟩:=x; exact ⟨_,e⟩
 | .own _,x=>by obtain ⟨_,e⟩:=x; exact ⟨_,e⟩
 | .xd _,x=>by obtain ⟨_,⟨_,_,_,e,_⟩,_⟩:=x; exact ⟨_,e⟩
 | .rng _ _,x=>by obtain ⟨_,_,_,e⟩:=x; exact ⟨_,e⟩
 | .frz _ _,x=>by obtain ⟨e,_⟩:=x; exact ⟨_,e⟩
 | .tbl _,x=>⟨_,(show h.get? a=some _ from x)⟩
 | .met _ _,x=>⟨_,(show h.get? a=some _ from x)⟩
 | .ext _,x=>by obtain ⟨_,⟨_,e⟩,_⟩:=x; exact ⟨_,e⟩
section
variable {X:Cx} {pins:List (Addr × Obj)} {σ:St} {H:Hp} {s:Shared}
theorem Inv.untr (I:Inv X pins σ H s) {b:Addr} (hb:s.heap.get? b=none):H b=none:=by
 cases q:H b with
 | none=>rfl
 | some o =>
  obtain ⟨ob,e⟩:=(I.hok b o q).there
  rw [hb] at e; cases e
theorem Inv.fxOk (I:Inv X pins σ H s) (hex:X.ex=[]) {b:Addr} (hb:s.heap.get? b=none):FxOk X pins H b:=by
 refine ⟨I.untr hb,fun z=>?_,fun z=>?_,?_,fun x c e z=>?_,fun p hp z=>?_⟩
 ·obtain ⟨m,⟨o,_,_,ho,_⟩,_⟩:=I.loc
  rw [z,ho] at hb; cases hb
 ·obtain ⟨_,o,ho,_⟩:=I.funs.mem z
  rw [ho] at hb; cases hb
 ·cases q:X.s₀.heap.get? b with
  | none=>rfl
  | some o =>
   obtain ⟨o',e'⟩:=I.base.there b o q (by rw [hex]; simp)
   rw [hb] at e'; cases e'
 ·obtain ⟨v,o,ho,_⟩:=I.cell x c e
  rw [z,hb] at ho; cases ho
 ·have:=(I.pin p hp).1
  rw [z,hb] at this; cases this
end
structure ExcK (K:PySem.W.Frag) (C:Addr) (bmB:List Value) (newId:String):Prop where
 q:PySem.W.excIn K C bmB newId=true
theorem exc_obj {K:PySem.W.Frag} {h:Heap} {C:Addr} {bmB:List Value} {newId:String} (X:K.In h) (q:PySem.W.excIn K C bmB newId=true) :
  ∃ bm N nm q bs hdct sn sub ab col dd k0 k1 k2 k3 k5 mN,h.get? C=some (excClassObj nm q C N bs bm hdct sn sub ab col dd k0 k1 k2 k3 k5 newId)∧h.Ns N mN∧mN "__init__"=none∧OwnTail h bmB bm:=by
 unfold PySem.W.excIn at q
 split at q
 ·rename_i dd cd sl ho
  split at q
  ·rename_i C' bm k0 k1 k2 k3 n k5 hm hs
   simp only [Bool.and_eq_true,beq_iff_eq,Bool.not_eq_true'] at q
   obtain ⟨⟨⟨⟨⟨rfl,rfl⟩,hdel⟩,ht⟩,hok⟩,hni⟩:=q
   obtain ⟨nm,bs,mro,ns,qn,hd,sn,sub,ab,col,del⟩:=cd
   dsimp only at hm hdel hok hni
   subst hm hdel
   have hsl:sl=#[k0,k1,k2,k3,some (.builtin n),k5]:=by
    obtain ⟨l⟩:=sl
    simp only at hs
    rw [hs]
   subst hsl
   exact ⟨bm,ns,nm,qn,bs,hd,sn,sub,ab,col,dd,k0,k1,k2,k3,k5,_,X _ _ ho,.of_isNs (PySem.W.isNs_of_in X hok),PySem.W.nsMap_none_of_in X hok hni,PySem.W.tail_of_in X ht⟩
  ·cases q
 ·cases q
section
variable {X:Cx}
noncomputable def tRaise (C:Addr) (t:TA):TSX:=fun _ R σ H=>t σ H fun vs H1=>vs.length≤1000∧R (.ref C) σ H1
theorem psx_raise {C:Addr} {bmB:List Value} {B newId initId:String} {x:Str} {np cpos pos:Pos} {e:Expr} {es:List Expr} {t:TA} (K:ExcK X.K C bmB newId) (FB:ExcBaseFacts B newId initId bmB) (hg:Gl X x) (hm:X.mg x=some (.ref C)) (hc:X.calm=true) (ha:PA X (e :: es) t)
  (hex:X.ex=[]:=by rfl) (hx:X.xe=(fun _ _=>False):=by rfl) (hdb:(x == ("__debug__":Str))=false:=by decide) (he:starEach (e :: es) X.env=(false,eval e X.env) :: starEach es X.env:=by rfl) (hpl:(backTo cpos (starEach es X.env)).any (·.1)=false:=by rfl) :
  PSX true X (.Raise (some (.Call (.Name x np) (e :: es) [] cpos)) none pos) (tRaise C t):=by
 intro pins s σ H D R I h
 obtain ⟨tl,N,nm,q,bs,hdct,sn,sub,ab,col,dd,k0,k1,k2,k3,k5,mN,hC,hN,hni,T⟩:=exc_obj I.ok.mod.kin K.q
 refine wpAny_Raise_call_subT (C:=C) (nm:=nm) (q:=q) (N:=N) (bs:=bs) (bm:=tl) (hdct:=hdct) (sn:=sn) (sub:=sub) (ab:=ab) (col:=col) (dd:=dd) (k0:=k0) (k1:=k1) (k2:=k2) (k3:=k3) (k5:=k5)
  FB (mN:=mN) (T.hasType FB.hasBase) (I.ok.hd hc) (by rw [he]; show (false || (backTo cpos (starEach es X.env)).any (·.1))=false; rw [hpl]; rfl) hni (ld_glob I hg hm ⟨rfl,?_⟩ hdb)
 have h0:=ha cpos pins s σ H _ I h
 rw [hx] at h0
 rw [he] at h0 ⊢
 refine Calls.evalArgs_plain (wpAny_mono h0 (fun us s₂ zz31=>?_) fun _ _ z=>z.elim)
 obtain ⟨vs,H1,I1,r1,hl,q1⟩:=zz31
 have kb:=I1.bk
 refine ⟨rfl,?_,kb _ _ hC,hN.keeps kb,T.keeps kb,fun h' ea hm'=>?_⟩
 ·rw [← r1.length]
  exact Nat.le_of_lt (small1000 hl)
 obtain ⟨tt,h1,h2,h3⟩:=hm'.there
 have I2:Inv X pins σ H1 { s₂ with heap:=h' }:=I1.kept (t':=s₂.toks) hm'.keeps
 have fx:=I1.fxOk hex hm'.new
 exact ⟨ea,none,.ref C,.ref tt,σ,H1,rfl,I2,⟨_,_,h1,⟨rfl,rfl⟩,rfl,rfl⟩,⟨fx.nt,fx.nl,fx.nf,fx.n0,fx.nc,fx.np⟩,(fun t z=>nomatch z),(fun _=>rfl),q1⟩
theorem Un.leave {fs:List Addr} {H₀ H:Hp} {h₀ h h':Heap} (u:Un fs [] H₀ H h₀ h) (hk:∀ b o,h₀.get? b=some o→b ∉ fs→h.get? b=some o→h'.get? b=some o)
  (hs:∀ b o,b∈fs→h.get? b=some o→∃ sl,h'.get? b=some { o with slots:=sl }) (ht:∀ b o,h₀.get? b=some o→∀ o',h.get? b=some o'→∃ o'',h'.get? b=some o''):Un fs [] H₀ H h₀ h' where
 keep:=fun b o e n hb hx=>hk b o e hb (u.keep b o e n hb hx)
 slot:=fun b o e n hb hx=>by
  obtain ⟨sl,e1⟩:=u.slot b o e n hb hx
  obtain ⟨sl',e2⟩:=hs b _ hb e1
  exact ⟨sl',e2⟩
 free:=u.free
 there:=fun b o e hx=>by
  obtain ⟨o',e1⟩:=u.there b o e hx
  exact ht b o e o' e1
 tups:=u.tups
 frzs:=u.frzs
 tbls:=u.tbls
theorem funFrames_hide {X:Cx} {pins:List (Addr × Obj)} {σ:St} {H:Hp} {s:Shared} (I:Inv X pins σ H s) (as:List Addr) (hs:∀ b∈frs X.stack,b∈as):s.heap.FunFrames (PySem.W.hideAll s.heap as) X.stack:=by
 have all:∀ (l:List Env),(∀ b∈frs l,b∈as)→s.heap.FunFrames X.base l→s.heap.FunFrames (PySem.W.hideAll s.heap as) l:=by
  intro l
  induction l with
  | nil=>intro _ _; trivial
  | cons env r ih =>
   intro hs hl
   obtain ⟨hk,⟨L,o,hf,hn,ho,hd⟩,hr⟩:=hl
   have hL:L∈as:=hs L (by unfold frs; rw [List.filterMap_cons,hf]; exact List.mem_cons_self)
   exact ⟨hk,⟨L,o,hf,PySem.W.hideAll_none as hL,ho,hd⟩,ih (fun b hb=>hs b (by unfold frs; rw [List.filterMap_cons,hf]; exact List.mem_cons_of_mem _ hb)) hr⟩
 exact all X.stack hs I.stack
theorem Inv.fnd {X:Cx} {pins:List (Addr × Obj)} {σ:St} {H:Hp} {s:Shared} (I:Inv X pins σ H s) {b:Addr} (hb:b∈frs X.stack) {o:Obj} (e:s.heap.get? b=some o):∀ vs,o.data≠.fields vs:=by
 obtain ⟨_,o',e',d⟩:=I.stack.mem hb
 rw [e] at e'; cases e'
 exact d
end
end L2
set_option maxHeartbeats 4000000
namespace L2
open PySem PySem.Spec PyProof.Rows
theorem FxOk.none {X:Cx} {pins:List (Addr × Obj)} {H:Hp} {b:Addr} (h:FxOk X pins H b):FxOk X [] H b:=⟨h.nt,h.nl,h.nf,h.n0,h.nc,fun p hp=>h.np p (by rw [List.append_nil] at hp; exact List.mem_append_left _ hp)⟩
section
variable {P:Program} {w:World} {K:PySem.W.Frag} {mg:Str→Option Value} {base:Heap}
theorem leave_ok {N:List Str} {qual:Str} {scope:Scope} {f:Addr} {cd:Value} {A:Around} {outer:List Env} {s s':Shared} {H:Hp} {E:XK} {ev:Value}
  {fr:Bool} (h:XS fr (cxOf (CXr P w) P w K mg base N qual scope f cd A outer s H E).nox [] (fun cls _ H'=>E cls none H') ev s'):(cxOf (CXr P w) P w K mg base N qual scope f cd A outer s H E).xe ev s':=by
 obtain ⟨e,T,cls,a0,σ',H',rfl,I,hx,fe,fT,_,q⟩:=h
 show wpAny (model P w) (A.deeper (envOfC qual scope s.heap.objs.size f cd)) (leaving (envOfC qual scope s.heap.objs.size f cd) (.ref e)) (fun _ s''=>CXr P w outer H s E (.ref e) s'') (fun e' s''=>CXr P w outer H s E e' s'') s'
 have hst:(cxOf (CXr P w) P w K mg base N qual scope f cd A outer s H E).nox.stack=envOfC qual scope s.heap.objs.size f cd :: outer:=rfl
 have hfr:(A.deeper (envOfC qual scope s.heap.objs.size f cd)).frames=some (envOfC qual scope s.heap.objs.size f cd :: outer):=I.ok.frames
 have n0:∀ b,b∈e :: T.toList→s.heap.get? b=none:=fun b hb=>by
  rcases List.mem_cons.mp hb with z | z
  ·rw [z]; exact fe.n0
  ·cases T with
   | none=>simp at z
   | some t =>
    have:b=t:=by simpa using z
    rw [this]; exact (fT t rfl).n0
 have nt:∀ b,b∈e :: T.toList→H' b=none:=fun b hb=>by
  rcases List.mem_cons.mp hb with z | z
  ·rw [z]; exact fe.nt
  ·cases T with
   | none=>simp at z
   | some t =>
    have:b=t:=by simpa using z
    rw [this]; exact (fT t rfl).nt
 have hB:∀ b o,b ∉ e :: T.toList→b ∉ frs (envOfC qual scope s.heap.objs.size f cd :: outer)→s'.heap.get? b=some o→(PySem.W.hideAll s'.heap ((e :: T.toList) ++ frs (envOfC qual scope s.heap.objs.size f cd :: outer))).get? b=some o:=fun b o h1 h2 e1 =>
  PySem.W.hideAll_get _ e1 fun z=>(List.mem_append.mp z).elim h1 h2
 have hl:s'.heap.FunFrames (PySem.W.hideAll s'.heap ((e :: T.toList) ++ frs (envOfC qual scope s.heap.objs.size f cd :: outer))) (envOfC qual scope s.heap.objs.size f cd :: outer):=funFrames_hide I _ fun b hb=>List.mem_append_right _ hb
 have hkb:(PySem.W.hideAll s'.heap ((e :: T.toList) ++ frs (envOfC qual scope s.heap.objs.size f cd :: outer))).StaysIn s'.heap:=fun b o e1=>PySem.W.of_hideAll _ e1
 have hen:(PySem.W.hideAll s'.heap ((e :: T.toList) ++ frs (envOfC qual scope s.heap.objs.size f cd :: outer))).get? e=none:=PySem.W.hideAll_none _ (List.mem_append_left _ List.mem_cons_self)
 have fin:∀ h',Heap.LeftW (PySem.W.hideAll s'.heap ((e :: T.toList) ++ frs (envOfC qual scope s.heap.objs.size f cd :: outer))) (envOfC qual scope s.heap.objs.size f cd :: outer) e cls a0 s'.heap h'→CXr P w outer H s E (.ref e) { s' with heap:=h' }:=fun h' ⟨k1,k2,k3,k4⟩=>by
  obtain ⟨oe,vs,T',oT,ts,x1,x2,x3,x4,x5,x6,x7,x8,x9⟩:=k3
  have notfr:∀ b o,b∈frs (envOfC qual scope s.heap.objs.size f cd :: outer)→s'.heap.get? b=some o→∃ sl,h'.get? b=some { o with slots:=sl }:=fun b o hb e1=>k4 b o e1 (I.fnd hb e1)
  have kept:∀ b o,b ∉ e :: T.toList→b ∉ frs (envOfC qual scope s.heap.objs.size f cd :: outer)→s'.heap.get? b=some o→h'.get? b=some o:=fun b o h1 h2 e1=>k1 b o (hB b o h1 h2 e1)
  have nL:∀ b o,s.heap.get? b=some o→b ∉ frs outer→b ∉ frs (envOfC qual scope s.heap.objs.size f cd :: outer):=fun b o e1 h2 z=>by
   have z':b∈s.heap.objs.size :: frs outer:=z
   rcases List.mem_cons.mp z' with z1 | z1
   ·rw [z1] at e1; exact absurd (Heap.lt_size e1) (Nat.lt_irrefl _)
   ·exact h2 z1
  have nE:∀ b o,s.heap.get? b=some o→b ∉ e :: T.toList:=fun b o e1 z=>by rw [n0 b z] at e1; cases e1
  have trk:∀ b u,H' b=some u→∀ o,s'.heap.get? b=some o→h'.get? b=some o:=fun b u hu o e1=>by
   refine kept b o (fun z=>by rw [nt b z] at hu; cases hu) (fun z=>?_) e1
   rw [I.stkFree b z] at hu; cases hu
  have hT':s.heap.get? T'=none∧H' T'=none:=by
   by_cases hz:s'.heap.get? T'=none
   ·refine ⟨?_,I.untr hz⟩
    cases q':s.heap.get? T' with
    | none=>rfl
    | some o =>
     obtain ⟨o',e'⟩:=I.base.there T' o q' (by simp [cxOf])
     rw [hz] at e'; cases e'
   ·obtain ⟨o,ho⟩:=Option.ne_none_iff_exists'.mp hz
    by_cases h1:T'∈e :: T.toList
    ·exact ⟨n0 T' h1,nt T' h1⟩
    ·by_cases h2:T'∈frs (envOfC qual scope s.heap.objs.size f cd :: outer)
     ·exfalso
      obtain ⟨sl,e'⟩:=notfr T' o h2 ho
      rw [x7] at e'
      cases e'
      exact I.fnd h2 ho ts x8
     ·rw [hB T' o h1 h2 ho] at x5; cases x5
  refine ⟨e,T',cls,a0,H',rfl,I.os,I.bare,?_,fun b u hu=>?_,fe.n0,hT'.1,fe.nt,hT'.2,⟨oe,vs,oT,ts,x1,x2,x3,x4,x6,x7,x8,x9⟩,q⟩
  ·refine Un.leave I.base (fun b o e1 h1 e2=>kept b o (nE b o e1) (nL b o e1 h1) e2) (fun b o hb e1=>notfr b o (List.mem_cons_of_mem _ hb) e1) fun b o e1 o' e2=>?_
   by_cases h2:b∈frs outer
   ·obtain ⟨sl,e'⟩:=notfr b o' (List.mem_cons_of_mem _ h2) e2
    exact ⟨_,e'⟩
   ·exact ⟨o',kept b o' (nE b o e1) (nL b o e1 h2) e2⟩
  ·refine (I.hok b u hu).stay (fun c v hc e1=>?_) (fun _ z=>z) fun _ _ z=>z
   rcases hc with z | z
   ·exact trk c u (by rw [z]; exact hu) v e1
   ·exact trk c _ z v e1
 cases T with
 | none =>
  obtain ⟨oe,vs,x1,x2,x3,x4⟩:=hx
  obtain ⟨x21,x22⟩:=x2
  subst x21
  exact wpAny_leaving_firstW hfr hl rfl x1 hkb hen x3 x4 x22 fin
 | some t =>
  obtain ⟨oe,vs,oT,ts,x1,x2,x3,x4,x5,x6,x7,x8⟩:=hx
  exact wpAny_leaving_nextW hfr hl rfl ⟨oe,vs,t,oT,ts,x1,x2,x3,x4,PySem.W.hideAll_none _ (List.mem_append_left _ (by simp)),x5,x6,x7,x8⟩ hkb hen fin
theorem Fun.okX {x qual:Str} {st:Stmt} {f:Addr} {fd:FuncData} {N ps:List Str} {k:Nat} {sp:Sp} (F:Fun K x qual st f fd) (S:FnScope N ps (defScope st)) (len:∀ vs H Q E,sp vs H Q E→vs.length=ps.length)
  (hbody:∀ (cdv:Value) (A:Around) (outer:List Env) (s:Shared) (H:Hp) (vs:List V) (Q:VK) (E:XK),Room k (A.deeper (envOfC qual (defScope st) s.heap.objs.size f cdv))→sp vs H Q E →
   ∃ t,PSsX true (cxOf (CXr P w) P w K mg base N qual (defScope st) f cdv A outer s H E).nox (defBody st) t∧t { nx:=fun _ H'=>Q .non H',rt:=Q } (fun cls _ H'=>E cls none H') (start N vs) H):FnOk P w K mg base (CXr P w) (k + 1) f fd ps sp:=by
 obtain ⟨oc,od,kV,doc,pm,an,cdv,ct,osl,rfl,lk,hcd⟩:=F.ex
 refine fn_of lk hcd S len fun A outer s H vs Q E hr hsp=>?_
 obtain ⟨t,h,q⟩:=hbody cdv A outer s H vs Q E hr hsp
 refine ⟨fun D σ H'=>t D (fun cls _ H''=>E cls none H'') σ H',fun pins s' σ' H' D I hD=>?_,q⟩
 refine wpAny_mono (h pins s' σ' H' D _ (I.wish _) hD) (fun _ _ z=>z.unwish) fun ev s'' z=>leave_ok (fr:=true) ?_
 obtain ⟨e,T,cls,a0,σ2,H2,h1,h2,h3,h4,h5,h7,h6⟩:=z
 exact ⟨e,T,cls,a0,σ2,H2,h1,h2.pins_of (fun p hp=>absurd hp (by simp)),h3,h4.none,fun t ht=>(h5 t ht).none,h7,h6⟩
end
end L2
set_option maxHeartbeats 4000000
namespace L2
open PySem PySem.Spec PyProof.Rows
end L2
set_option maxHeartbeats 4000000
namespace L2
open PySem PySem.Spec PyProof.Rows
section
variable {X:Cx} {pins:List (Addr × Obj)} {σ:St} {H:Hp} {s:Shared} {A:Around} {E:Value→Shared→Prop} {a:Addr}
theorem d_setd {kvs:List (Key × V)} {k:Key} {d:V} {u r:Value} {Q:Value→Shared→Prop} (I:Inv X pins σ H s) (e:H a=some (.dK kvs)) (hl:kvs.length < sizeLine) (ry:RelV (kV k) u) (rd:RelV d r)
  (h1:∀ v w' s',valV kvs k=some v→Inv X pins σ H s'→RelV v w'→Q w' s') (h2:valV kvs k=none→∀ s',Inv X pins σ (upd H a (.dK (putK kvs k d))) s'→Q r s') :
  wpAny (model X.prog X.w) A (call (.builtin "dict.setdefault") [.ref a,u,r]) Q E s:=by
 obtain ⟨z,hd,vs,rel,dd⟩:=dk_of I.hok e
 have hz:vs.length≤sizeLine:=by rw [← rel.length]; exact z
 refine call_meetsIn PySem.F.slot_dict_setdefault dd.typeIs PySem.F.entry_dict_setdefault (PySem.F.args_dict_setdefault_3 _ _ _) (kt_meets_setdefault (mixKind X.prog X.w) a (kV_is ry) hd r) ⟨vs,dd,hz,fun v hv=>?_,fun hv h' dd' hs=>?_⟩
 ·have rel':=rel.val k
  rw [hv] at rel'
  cases q:valV kvs k with
  | none=>rw [q] at rel'; exact rel'.elim
  | some y=>rw [q] at rel'; exact h1 y v _ q (I.tok _) rel'
 ·have rel':=rel.val k
  rw [hv] at rel'
  cases q:valV kvs k with
  | some y=>rw [q] at rel'; exact rel'.elim
  | none =>
   have he:∃ q,h'.get? a=some q:=let ⟨q,_,_,hq,_⟩:=dd'; ⟨q,hq⟩
   have hl2:(putK kvs k d).length≤sizeLine:=by have:=length_putK kvs k d; omega
   exact h2 q _ (d_write I (by rw [e]; exact True.intro) hs he (dk_new hl2 hd (rel.put k rd) dd'))
end
noncomputable def tDSetd (td ty tx:TE):TE:=fun σ H Q=>td σ H fun x H1=>∃ a,x=.ref a∧IsD H1 a∧ty σ H1 fun y H2=>tx σ H2 fun z H3=>∃ kvs k,H3 a=some (.dK kvs)∧kvs.length < sizeLine∧y=kV k ∧
 (∀ v,valV kvs k=some v→Q v H3)∧(valV kvs k=none→Q z (upd H3 a (.dK (putK kvs k z))))
section
variable {X:Cx} {o e f:Expr} {apos cpos:Pos} {td ty tx:TE}
theorem pe_dsetd (ho:PE X o td) (he:PE X e ty) (hf:PE X f tx) (m:M2 X o "setdefault" apos e f cpos):PE X (.Call (.Attribute o "setdefault" apos) [e,f] [] cpos) (tDSetd td ty tx):=by
 intro pins s σ H Q I h
 refine wpAny_Call_method m.base m.few m.line PySem.F.plainAttrs_dict PySem.F.slot_dict_setdefault PySem.F.type_dict_setdefault (thn (ho pins s σ H _ I h) fun u s1 zz9=>?_)
 obtain ⟨x,H1,I1,rx,a,ex,d,q1⟩:=zz9
 subst ex
 obtain rfl:u=Value.ref a:=rx
 obtain ⟨t1,t2,_⟩:=isD_at I1 d
 refine ⟨t1,t2,?_⟩
 rw [m.trees]
 refine Calls.callWith_builtin rfl (Calls.evalArgs_plain (Calls.spliced_cons (thn (he pins s1 σ H1 _ I1 q1) fun iv s2 ⟨y,H2,I2,ry,q2⟩ =>
  Calls.spliced_cons (thn (hf pins s2 σ H2 _ I2 q2) fun fv s3 ⟨z,H3,I3,rz,kvs,k,hk,hl,ey,q3,q4⟩=>Calls.spliced_nil ?_))))
 subst ey
 exact d_setd I3 hk hl ry rz (fun v w' s' hv I' rw'=>⟨v,H3,I',rw',q3 v hv⟩) fun hv s' I'=>⟨z,_,I',rz,q4 hv⟩
theorem ints_of_keys {P:Program} {w:World} {kvs:List (Key × V)} {vs:List (Key × Value)} {ks:List Int} (rel:KV kvs vs) (hk:kvs.map (·.1)=ks.map Sum.inl) {us:List Value} (hl:us.length=vs.length)
  (hu:∀ (j:Nat) (v:Value),us[j]?=some v→∃ k x,vs[j]?=some (k,x)∧(mixKind P w).is k v=true):IntsAre us ks:=by
 have hkl:kvs.length=ks.length:=by have:=congrArg List.length hk; simpa using this
 have hvl:kvs.length=vs.length:=rel.length
 have key:∀ (j:Nat) (v:Value),us[j]?=some v→∃ i t,ks[j]?=some i∧v=Value.int i t:=fun j v hv=>by
  obtain ⟨k,x,hx,hi⟩:=hu j v hv
  have e1:(vs.map (·.1))[j]?=some k:=by rw [List.getElem?_map,hx]; rfl
  have e2:vs.map (·.1)=kvs.map (·.1):=by
   clear hk hl hu hkl hvl hx hi e1
   induction rel with
   | nil=>rfl
   | cons r t ih=>rw [List.map_cons,List.map_cons,ih,r.1]
  rw [e2,hk,List.getElem?_map] at e1
  cases q:ks[j]? with
  | none=>rw [q] at e1; cases e1
  | some i =>
   rw [q] at e1
   have e3:Sum.inl i=k:=Option.some.inj e1
   subst e3
   obtain ⟨t,ht⟩:=Value.isInt_shape (k:=i) (v:=v) hi
   exact ⟨i,t,rfl,ht⟩
 have gen:∀ (us:List Value) (ks:List Int),us.length=ks.length→(∀ (j:Nat) (v:Value),us[j]?=some v→∃ i t,ks[j]?=some i∧v=Value.int i t)→IntsAre us ks:=by
  intro us
  induction us with
  | nil =>
   intro ks hl _
   cases ks with
   | nil=>exact .nil
   | cons _ _=>simp at hl
  | cons u r ih =>
   intro ks hl h
   cases ks with
   | nil=>simp at hl
   | cons i ks =>
    obtain ⟨i',t,e1,e2⟩:=h 0 u rfl
    have e1':i=i':=by simpa using e1
    subst e1' e2
    exact .cons i t (ih ks (by simpa using hl) fun j v hv=>h (j + 1) v (by simpa using hv))
 exact gen us ks (by omega) key
theorem call_sortedD (hc:X.calm=true):CallR X (.builtin "sorted") (fun xs H Q=>∃ (d:Addr) (kvs:List (Key × V)) (ks:List Int),xs=[.ref d]∧Rd H d (.dK kvs)∧kvs.map (·.1)=ks.map Sum.inl∧ks.length < 64 ∧
  ∀ (p:Addr) (out:List Int),H p=none→out.Perm ks→out.Pairwise (·≤·)→Q (.ref p) (upd H p (.lst (out.map V.int)))):=by
 intro pins s σ H xs us Q I r h
 obtain ⟨d,kvs,ks,rfl,hd,hk,h64,q⟩:=h
 obtain ⟨u,rfl,ru⟩:=vals1 r
 obtain rfl:u=Value.ref d:=ru
 obtain ⟨z,hsys,vs,rel,dd⟩:=dk_rd I.hok hd
 obtain ⟨ep,hat⟩:=dd.dictAt
 have hlen:vs.length=ks.length:=by have:=congrArg List.length hk; rw [List.length_map,List.length_map] at this; have:=rel.length; omega
 have hn:vs.length≤sizeLine:=by rw [sizeLine_eq]; omega
 refine Calls.call_function_entry kind_sorted plain_sorted entry_sorted (args_sorted1 _) ?_
 unfold Builtin.«sorted»
 refine wpAny_bind (m:=checkCount "sorted" 1 1 _) (wpAny_pure ?_)
 refine wpAny_bind (PySem.W.kdu_collect (A:=X.A.in1) (PySem.W.kdl_dict (knd:=mixKind X.prog X.w) (kvs:=vs) (ep:=ep) hsys) (I.ok.hd hc) hat hn fun h' tk acc hk' hacc=>?_)
 have hl:acc.toList.length=vs.length:=by rw [Array.length_toList]; exact hacc.1
 have hI:IntsAre acc.toList ks:=ints_of_keys (P:=X.prog) (w:=X.w) rel hk hl fun j v hv=>hacc.2 j v (by rw [← Array.getElem?_toList]; exact hv)
 refine wpAny_bind (wpAny_newList ?_ (by rw [hl]; exact hn))
 have I1:Inv X pins σ H { s with heap:=h',toks:=tk }:=I.kept hk'
 have hoL:(h'.push { cls:=.type "list",data:=.seq acc.toList.toArray }).get? h'.objs.size=some (seqObj "list" acc.toList.toArray 0):=Heap.get?_push_size _ rfl
 refine wpAny_bind (wpAny_holding (wpAny_call_entry slot_list_sort ⟨_,hoL,rfl⟩ entry_list_sort (list_sort_tree hoL hI (by omega) fun out ns' a1 a2 a3=>⟨_,rfl,?_⟩) (args_list_sort _)))
 refine wpAny_pure ⟨_,rfl,?_⟩
 obtain ⟨e,he⟩:=sortedHeap_at (out:=out) hoL
 have kp:∀ b u,h'.get? b=some u→(sortedHeap (h'.push { cls:=.type "list",data:=.seq acc.toList.toArray }) h'.objs.size acc.toList out).get? b=some u:=fun b u hb=>by
  have hlt:b < h'.objs.size:=Heap.lt_size hb
  rw [sortedHeap_old (Nat.ne_of_lt hlt) (by rw [Heap.size_push]; exact Nat.lt_succ_of_lt hlt)]
  exact Heap.get?_push_of_some _ hb
 have hv:Vals (ns'.map V.int) out.toList:=by
  clear he kp
  generalize out.toList=l at a1
  clear a2 a3
  induction a1 with
  | nil=>exact .nil
  | cons i t _ ih=>exact .cons ⟨_,rfl⟩ ih
 refine ⟨.ref h'.objs.size,upd H h'.objs.size (.lst (ns'.map V.int)),I1.laid kp (Nat.le_refl _) ?_,rfl,q _ ns' I1.fresh a2 a3⟩
 refine ⟨?_,out.toList,e,hv,?_⟩
 ·rw [List.length_map,a2.length_eq,sizeLine_eq]; omega
 ·rw [he]
end
end L2
set_option maxHeartbeats 4000000
namespace L2
open PySem PySem.Spec PyProof.Rows
section
variable {X:Cx} {pins:List (Addr × Obj)} {σ:St} {H:Hp} {s:Shared} {a:Addr}
theorem Inv.freeze {u:HO} {ob:Obj} (I:Inv X pins σ H s) (e:H a=some u) (mu:Mut (some u)) (ho:s.heap.get? a=some ob):Inv X pins σ (upd H a (.frz ob u)) s:=by
 have nown:∀ c y,H c=some (.own y)→c≠a:=fun c y r z=>by subst z; rw [r] at e; cases e; exact mu
 have ntup:∀ c xs,H c=some (.tup xs)→c≠a:=fun c xs r z=>by subst z; rw [r] at e; cases e; exact mu
 have nfrz:∀ c o xs,H c=some (.frz o xs)→c≠a:=fun c o xs r z=>by subst z; rw [r] at e; cases e; exact mu
 have ntbl:∀ c ps,H c=some (.tbl ps)→c≠a:=fun c ps r z=>by subst z; rw [r] at e; cases e; exact mu
 have un:Un X.fs [] H (upd H a (.frz ob u)) s.heap s.heap:=⟨fun _ _ q _ _ _=>q,fun _ o q _ _ _=>⟨o.slots,q⟩,fun b o q n _=>by rw [upd_ne (fun z=>by rw [z,e] at n; cases n)]; exact n,fun b o q _=>⟨o,q⟩,
  fun b xs q=>by rw [upd_ne (ntup b xs q)]; exact q,fun b o xs q=>by rw [upd_ne (nfrz b o xs q)]; exact q,fun b ps q=>⟨#[],by rw [upd_ne (ntbl b ps q),q]; simp⟩⟩
 have hok:HOk X.prog X.w (upd H a (.frz ob u)) s.heap:=fun b v q=>by
  have st:∀ c w',ObjOk X.prog X.w H s.heap c w'→ObjOk X.prog X.w (upd H a (.frz ob u)) s.heap c w':=fun c w' x=>x.stay (fun _ _ _ q=>q) (fun d r=>by rw [upd_ne (nown d c r)]; exact r) fun d xs r=>by rw [upd_ne (ntup d xs r)]; exact r
  by_cases hb:b=a
  ·subst hb
   rw [upd_same] at q
   cases q
   exact ⟨ho,st _ _ (I.hok _ _ e)⟩
  ·rw [upd_ne hb] at q
   exact st _ _ (I.hok b v q)
 exact I.un (h':=s.heap) (t':=s.toks) un hok
end
section
theorem KV.at {kvs:List (Key × V)} {vs:List (Key × Value)} (r:KV kvs vs):∀ {i:Nat} {k:Key} {v:V},kvs[i]?=some (k,v)→∃ u,vs[i]?=some (k,u)∧RelV v u:=by
 induction r with
 | nil=>intro i k v h; simp at h
 | cons r t ih =>
  intro i k v h
  cases i with
  | zero =>
   simp at h
   subst h
   exact ⟨_,by rw [List.getElem?_cons_zero]; exact congrArg some (Prod.ext r.1.symm rfl),r.2⟩
  | succ i =>
   obtain ⟨u,h1,h2⟩:=ih (by simpa using h)
   exact ⟨u,by simpa using h1,h2⟩
theorem kV_of {P:Program} {w:World} {k:Key} {u:Value} (h:(mixKind P w).is k u=true):RelV (kV k) u:=by
 cases k with
 | inl i=>obtain ⟨t,e⟩:=Value.isInt_shape (k:=i) (v:=u) h; exact ⟨t,e⟩
 | inr x=>obtain ⟨t,e⟩:=Value.isStrOf_shape (x:=x) (v:=u) h; exact ⟨t,e⟩
theorem frz_dict {X:Cx} {pins:List (Addr × Obj)} {σ:St} {H:Hp} {s:Shared} {d:Addr} {o:Obj} {kvs:List (Key × V)} (I:Inv X pins σ H s) (e:H d=some (.frz o (.dK kvs))) :
  ∃ vs ep,KV kvs vs∧s.heap.DictAt (mixKind X.prog X.w) d vs ep∧s.heap.get? d=some o:=by
 obtain ⟨ho,_,_,vs,rel,dd⟩:=I.hok d _ e
 obtain ⟨ep,da⟩:=dd.dictAt
 exact ⟨vs,ep,rel,da,ho⟩
noncomputable def epOf (o:Obj):Nat:=match o.data with
 | .dict _ ep=>ep
 | _=>0
theorem ep_of {P:Program} {w:World} {h:Heap} {d:Addr} {o:Obj} {vs:List (Key × Value)} {ep:Nat} (da:h.DictAt (mixKind P w) d vs ep) (ho:h.get? d=some o):ep=epOf o:=by
 obtain ⟨o',es,h1,_,h2,_⟩:=da
 rw [ho] at h1
 cases h1
 unfold epOf
 rw [h2]
theorem turn_vals {P:Program} {w:World} {K:PySem.W.Frag} {tg:Expr} (d it:Addr) (kvs:List (Key × V)) (o:Obj) :
  Turn P w K tg ⟨fun i H=>i < kvs.length∧H d=some (.frz o (.dK kvs)),fun i H x H'=>H'=H∧∃ k,kvs[i]?=some (k,x),fun i H=>kvs.length≤i∧H d=some (.frz o (.dK kvs))⟩ [it] it (fun i h=>h.IsValIter it d i kvs.length (epOf o)) where
 mem:=by simp
 obj:=fun i h st b hb=>by
  have e:b=it:=by simpa using hb
  subst e
  obtain ⟨o,e,c,d⟩:=st
  exact ⟨o,e,fun v z=>by rw [d] at z; cases z⟩
 keep:=fun i h h' st k=>st.at fun o e=>k it (by simp) o e
 item:=by
  intro X hP hw hK hc i pins s σ H E I hf st hg
  subst hP hw hK
  obtain ⟨hi,hq⟩:=hg
  obtain ⟨vs,ep,rel,da,ho⟩:=frz_dict I hq
  have hep:=ep_of da ho
  subst hep
  obtain ⟨f0,f1,f2,f3,f4,f5⟩:=hf it (by simp)
  obtain ⟨⟨k,v⟩,hx⟩:∃ p,kvs[i]?=some p:=⟨_,List.getElem?_eq_getElem hi⟩
  obtain ⟨u,hu,ru⟩:=rel.at hx
  have hlen:vs.length=kvs.length:=rel.length.symm
  rw [← hlen] at st
  refine wpAny_pyNext_values_item st da hu fun h' st' sb=>?_
  have I1:Inv X pins σ H { s with heap:=h' }:=I.turned (t':=s.toks) (fun b o hb e=>(sb.2 b hb).trans e) f0 f1 f3 f4 f5
  rw [hlen] at st'
  obtain ⟨oi,e,c,dd⟩:=id st'
  exact ⟨u,rfl,go_of (s:={ s with heap:=h' }) e c dd (by decide) ⟨v,H,I1,ru,⟨rfl,k,hx⟩,st',fun b hb=>(hf b hb).1⟩⟩
 done:=by
  intro X hP hw hK hc i pins s σ H E I hf st hg
  subst hP hw hK
  obtain ⟨hi,hq⟩:=hg
  obtain ⟨vs,ep,rel,da,ho⟩:=frz_dict I hq
  have hep:=ep_of da ho
  subst hep
  obtain ⟨f0,f1,f2,f3,f4,f5⟩:=hf it (by simp)
  have hlen:vs.length=kvs.length:=rel.length.symm
  rw [← hlen] at st
  exact wpAny_pyNext_values_end (I.ok.hd hc) st da (by rw [List.getElem?_eq_none]; omega) fun h' eb=>⟨rfl,I.turned (t':=s.toks) (fun b o hb e=>eb b o hb e) f0 f1 f3 f4 f5⟩
 self:=fun _ _ _ _ _ st h=>wpAny_pyIter_valiter st h
end
end L2
set_option maxHeartbeats 4000000
namespace L2
open PySem PySem.Spec PyProof.Rows
section
variable {X:Cx} {tg:Expr} {l:Expr} {tl:TE}
noncomputable def Itv2 (d:Addr) (kvs:List (Key × V)) (o:Obj):It:=⟨fun i H=>i < kvs.length∧H d=some (.frz o (.dK kvs)),fun i H x H'=>H'=H∧∃ k,kvs[i]?=some (k,x),fun i H=>kvs.length≤i∧H d=some (.frz o (.dK kvs))⟩
noncomputable def iDict (J:Addr→List (Key × V)→Obj→It) (tl:TE):TI:=fun σ H R=>tl σ H fun x H1=>∃ a kvs,x=.ref a∧((H1 a=some (.dK kvs)∧∀ o,R (J a kvs o) (upd H1 a (.frz o (.dK kvs))))∨∃ o,H1 a=some (.frz o (.dK kvs))∧R (J a kvs o) H1)
theorem dict_frz {pins:List (Addr × Obj)} {σ:St} {H:Hp} {s:Shared} {a:Addr} {kvs:List (Key × V)} {R:Obj→Hp→Prop} (I:Inv X pins σ H s)
  (h:(H a=some (.dK kvs)∧∀ o,R o (upd H a (.frz o (.dK kvs))))∨∃ o,H a=some (.frz o (.dK kvs))∧R o H):∃ o H',H' a=some (.frz o (.dK kvs))∧Inv X pins σ H' s∧R o H':=by
 rcases h with ⟨e,r⟩ | ⟨o,e,r⟩
 ·obtain ⟨ob,ho⟩:=(I.hok a _ e).there
  exact ⟨ob,_,upd_same,I.freeze e True.intro ho,r ob⟩
 ·exact ⟨o,H,e,I,r⟩
structure M0 (X:Cx) (o:Expr) (m:Str) (apos cpos:Pos):Prop where
 base:attributeBase o m X.env (eval o X.env)=eval o X.env
 few:((backTo cpos (starEach [] X.env)).all (fun x=>!x.1) && (backToKw cpos (keywordEach [] X.env)).all (fun x=>x.1.isSome)
  && decide (([]:List Expr).length + ([]:List Keyword).length + (if ([]:List Keyword).isEmpty then 0 else 1) < 30))=true
 line:(apos.endLine == cpos.line)=true
theorem pi_vals {apos cpos:Pos} (hl:PE X l tl) (m:M0 X l "values" apos cpos):PI X tg (.Call (.Attribute l "values" apos) [] [] cpos) (iDict Itv2 tl):=by
 intro pins s σ H R I h
 refine wpAny_Call_method m.base m.few m.line PySem.F.plainAttrs_dict PySem.F.slot_dict_values PySem.F.type_dict_values (thn (hl pins s σ H _ I h) fun v s1 zz9=>?_)
 obtain ⟨x,H1,I1,r1,q1⟩:=zz9
 obtain ⟨a,kvs,e,q⟩:=q1
 subst e
 cases r1
 obtain ⟨o,H2,e2,I2,q2⟩:=dict_frz (R:=fun o H=>R (Itv2 a kvs o) H) I1 q
 obtain ⟨vs,ep,rel,da,ho⟩:=frz_dict I2 e2
 have hep:=ep_of da ho
 subst hep
 obtain ⟨_,_,hsys,_⟩:=I2.hok a _ e2
 have isd:IsD H2 a:=.inl ⟨kvs,.inr ⟨o,e2⟩⟩
 obtain ⟨t1,t2,_⟩:=isD_at I2 isd
 refine ⟨t1,t2,?_⟩
 refine Calls.callWith_builtin rfl (PyProof.Rows.evalArgs_empty ?_)
 refine call_meetsIn PySem.F.slot_dict_values da.dictOf.typeIs PySem.F.entry_dict_values (PySem.F.args_dict_values_1 _) (meets_dict_values (mixKind X.prog X.w) a hsys) ⟨⟨vs,da.dictOf⟩,?_⟩
 have I3:Inv X pins σ H2 { s1 with heap:=s1.heap.push { cls:=.type "dict_values",data:=.fields #[.ref a] } }:=I2.kept (t':=s1.toks) fun b o e=>Heap.get?_push_of_some _ e
 refine wpAny_pyIter_values ⟨_,Heap.get?_push_size _ rfl,rfl,rfl⟩ (da.push _) ?_
 have hlen:vs.length=kvs.length:=rel.length.symm
 rw [hlen]
 refine ⟨(s1.heap.push { cls:=.type "dict_values",data:=.fields #[.ref a] }).objs.size,[(s1.heap.push { cls:=.type "dict_values",data:=.fields #[.ref a] }).objs.size],_,_,H2,rfl,I3.kept (t':=s1.toks) fun b o e=>Heap.get?_push_of_some _ e,turn_vals a _ kvs o,⟨_,Heap.get?_push_size _ rfl,rfl,rfl⟩,fun b hb=>?_,q2⟩
 have e:b=(s1.heap.push { cls:=.type "dict_values",data:=.fields #[.ref a] }).objs.size:=by simpa using hb
 subst e
 exact I3.fpOk (Nat.le_refl _) (I3.hok.fresh (Nat.le_refl _))
end
section
noncomputable def Ite (K:PySem.W.Frag) (a:Addr):It :=
 ⟨fun i H=>∃ xs x,SqL K H a xs∧xs[i]?=some x,fun i H x H'=>∃ q y,H q=none∧x=.ref q∧(∀ xs,SqL K H a xs→xs[i]?=some y)∧H'=upd H q (.tup [.int i,y]),fun i H=>∃ xs,SqL K H a xs∧xs.length≤i⟩
theorem turn_enum {P:Program} {w:World} {K:PySem.W.Frag} {elts:List Expr} {x1:Nat} {pos:Pos} (a e it:Addr) (hne:e≠it):Turn P w K (.Tuple elts x1 pos) (Ite K a) [e,it] e (fun i h=>(∃ old,IsEnum h e it i old)∧h.IsListIter it a i) where
 mem:=by simp
 obj:=fun i h st b hb=>by
  obtain ⟨⟨old,h1⟩,o,h2,c,d⟩:=st
  rcases List.mem_cons.mp hb with z | z
  ·subst z
   exact ⟨_,h1,fun v z=>by
    have z':Data.fields _=Data.cell v:=z
    cases z'⟩
  ·have z:b=it:=by simpa using z
   subst z
   exact ⟨o,h2,fun v z=>by rw [d] at z; cases z⟩
 keep:=fun i h h' st k=>⟨let ⟨old,h1⟩:=st.1; ⟨old,k e (by simp) _ h1⟩,st.2.at fun o q=>k it (by simp) o q⟩
 item:=by
  intro X hP hw hK hc i pins s σ H E I hf st hg
  subst hP hw hK
  obtain ⟨xs,x,hq,hx⟩:=hg
  obtain ⟨its,rv,p,hz⟩:=I.list hq
  obtain ⟨u,hu,ru⟩:=rv.get hx
  obtain ⟨f0,f1,f2,f3,f4,f5⟩:=hf e (by simp)
  obtain ⟨g0,g1,g2,g3,g4,g5⟩:=hf it (by simp)
  obtain ⟨⟨old,he⟩,hit⟩:=st
  refine wpAny_pyNext_enum_item he hit p.isList (x:=u) (by simpa using hu) hne fun h' ho' hit' ht' hsz' kk=>?_
  have eo:=Heap.lt_size he
  have io:it < s.heap.objs.size:=let ⟨o,q,_⟩:=hit; Heap.lt_size q
  refine ⟨.ref s.heap.objs.size,rfl,wpAny_letOwnedTupleGo_enum ho' fun h'' he'' sb=>?_⟩
  have keepb:∀ b o,b≠e→b≠it→s.heap.get? b=some o→h''.get? b=some o:=fun b o h1 h2 q=>(sb.2 b h1).trans (kk b o h1 h2 q)
  have ht'':h''.get? s.heap.objs.size=some { cls:=.type "tuple",data:=.seq #[.int i s.toks,u] }:=(sb.2 _ (Nat.ne_of_gt eo)).trans ht'
  have hn:H s.heap.objs.size=none:=I.hok.fresh (Nat.le_refl _)
  have I2:Inv X pins σ (upd H s.heap.objs.size (.tup [.int i,x])) { s with heap:=h'',toks:=s.toks + 1 }:=by
   refine I.step (g':=s.gens) (d':=s.drawn) (ch:=[e,it]) (fun b hb=>?_) (fun b o _ _ hc q _=>keepb b o (fun z=>hc (by simp [z])) (fun z=>hc (by simp [z])) q) (fun b o _ _ hc q _=>⟨o.slots,keepb b o (fun z=>hc (by simp [z])) (fun z=>hc (by simp [z])) q⟩) (fun b o _ q n=>by rw [upd_ne (Nat.ne_of_lt (Heap.lt_size q))]; exact n)
    (fun b o hc q=>⟨o,keepb b o (fun z=>hc (by simp [z])) (fun z=>hc (by simp [z])) q⟩) (fun b ys q=>by rw [upd_ne (ne_of_none q hn)]; exact q) (fun b o ys q=>by rw [upd_ne (ne_of_none q hn)]; exact q) (fun b ps q=>⟨#[],by rw [upd_ne (ne_of_none q hn),q]; simp⟩) (fun m hm=>?_) (fun b v q=>?_) I.bare
   ·rcases List.mem_cons.mp hb with z | z
    ·subst z; exact ⟨f3,f1,f4,f5⟩
    ·have z:b=it:=by simpa using z
     subst z; exact ⟨g3,g1,g4,g5⟩
   ·obtain ⟨o,es,ep,ho,r⟩:=hm
    exact ⟨o,es,ep,keepb _ o (Ne.symm f1) (Ne.symm g1) ho,r⟩
   ·by_cases hb:b=s.heap.objs.size
    ·subst hb
     rw [upd_same] at q
     cases q
     exact ⟨by show 2≤sizeLine; decide,[.int i s.toks,u],.cons ⟨_,rfl⟩ (.cons ru .nil),⟨_,ht'',rfl,_,rfl⟩⟩
    ·rw [upd_ne hb] at q
     refine (I.hok b v q).stay (fun c w' hc z=>keepb c w' ?_ ?_ z) (fun d z=>by rw [upd_ne (ne_of_none z hn)]; exact z) fun d ys z=>by rw [upd_ne (ne_of_none z hn)]; exact z
     ·rintro rfl
      rcases hc with z | z
      ·rw [z,q] at f0; cases f0
      ·rw [f0] at z; cases z
     ·rintro rfl
      rcases hc with z | z
      ·rw [z,q] at g0; cases g0
      ·rw [g0] at z; cases z
  refine ⟨.ref s.heap.objs.size,_,I2,rfl,⟨_,x,hn,rfl,fun ys hy=>by rw [I.list_inj hy hq]; exact hx,rfl⟩,⟨⟨u,he''⟩,hit'.at fun o q=>(sb.2 it (Ne.symm hne)).trans q⟩,fun b hb=>?_⟩
  rcases List.mem_cons.mp hb with z | z
  ·subst z; rw [upd_ne (Nat.ne_of_lt eo)]; exact f0
  ·have z:b=it:=by simpa using z
   subst z; rw [upd_ne (Nat.ne_of_lt io)]; exact g0
 done:=by
  intro X hP hw hK hc i pins s σ H E I hf st hg
  subst hP hw hK
  obtain ⟨xs,hq,hx⟩:=hg
  obtain ⟨its,rv,p,hz⟩:=I.list hq
  obtain ⟨g0,g1,g2,g3,g4,g5⟩:=hf it (by simp)
  obtain ⟨⟨old,he⟩,hit⟩:=st
  have hl:=rv.length
  exact wpAny_pyNext_enum_end (I.ok.hd hc) he hit p.isList (by simp; omega) fun h' eb=>⟨rfl,I.turned (t':=s.toks) (fun b o hb e=>eb b o hb e) g0 g1 g3 g4 g5⟩
 self:=fun _ _ _ _ _ st h=>by
  obtain ⟨⟨old,he⟩,_⟩:=st
  exact wpAny_pyIter_enum he h
variable {X:Cx}
noncomputable def iEnum (K:PySem.W.Frag) (ta:TA):TI:=fun σ H R=>ta σ H fun vs H1=>∃ a,vs=[.ref a]∧(∃ xs,SqL K H1 a xs)∧R (Ite K a) H1
theorem pi_enum {elts:List Expr} {x1:Nat} {tpos p pos:Pos} {l:Expr} {ta:TA} (hg:Gl X "enumerate") (hm:X.mg "enumerate"=none) (ha:PA X [l] ta) (hs:starEach [l] X.env=[(false,eval l X.env)]:=by rfl):PI X (.Tuple elts x1 tpos) (.Call (.Name "enumerate" p) [l] [] pos) (iEnum X.K ta):=by
 intro pins s σ H R I h
 refine Call_ (ld_blt I hg hm boot_enumerate (PyProof.Rows.callWith_type1 (thn (ha pos pins s σ H _ I h) fun us s1 zz32=>?_) hs rfl))
 obtain ⟨vs,H1,I1,r1,q1⟩:=zz32
 obtain ⟨a,e,⟨xs,hq⟩,q⟩:=q1
 subst e
 obtain ⟨u,rfl,ru⟩:=vals1 r1
 cases ru
 obtain ⟨its,rv,pl,hz⟩:=I1.list hq
 refine call_enumerate_list pl.isList fun h' he hit hsz hk=>wpAny_pyIter_enum he ?_
 have I2:Inv X pins σ H1 { s1 with heap:=h' }:=I1.kept (t':=s1.toks) hk
 refine ⟨s1.heap.objs.size + 1,[s1.heap.objs.size + 1,s1.heap.objs.size],_,_,H1,rfl,I2,turn_enum a _ _ (Nat.succ_ne_self _),⟨⟨.none,he⟩,hit⟩,fun b hb=>?_,q⟩
 rcases List.mem_cons.mp hb with z | z
 ·subst z; exact I1.fpOk (Nat.le_succ _) (I1.hok.fresh (Nat.le_succ _))
 ·have z:b=s1.heap.objs.size:=by simpa using z
  subst z; exact I1.fpOk (Nat.le_refl _) (I1.hok.fresh (Nat.le_refl _))
theorem for_enum {K:PySem.W.Frag} {a:Addr} {xs:List V} {g:TG} {tb:TS} {D:Ends} {σ:St} {H:Hp} (Pv:Nat→St→Hp→Prop) (h0:Pv 0 σ H) (hl:∀ i σ H,i≤xs.length→Pv i σ H→SqL K H a xs)
  (hs:∀ i x σ H q,xs[i]?=some x→H q=none→Pv i σ H→g (.ref q) σ (upd H q (.tup [.int i,x])) fun σ2 H2=>tb { D with nx:=Pv (i + 1),ct:=Pv (i + 1),bk:=D.nx } σ2 H2) (hd:∀ σ H,Pv xs.length σ H→D.nx σ H) :
  ∃ W:Nat→Nat→St→Hp→Prop,(∃ m,W 0 m σ H)∧∀ i m σ H,W i m σ H →
   ((Ite K a).stop i H∧D.nx σ H)∨((Ite K a).go i H∧∃ N:St→Hp→Prop,(∀ σ' H',N σ' H'→∃ m',m' < m∧W (i + 1) m' σ' H')∧∀ x H',(Ite K a).yld i H x H'→g x σ H' fun σ2 H2=>tb { D with nx:=N,ct:=N,bk:=D.nx } σ2 H2):=by
 refine ⟨fun i m σ H=>m=xs.length - i∧i≤xs.length∧Pv i σ H,⟨xs.length,by simp,Nat.zero_le _,h0⟩,?_⟩
 rintro i m σ H ⟨rfl,hi,p⟩
 have q:=hl i σ H hi p
 by_cases hlt:i < xs.length
 ·refine .inr ⟨⟨xs,xs[i],q,by simp [hlt]⟩,Pv (i + 1),fun σ' H' p'=>⟨xs.length - (i + 1),by omega,rfl,hlt,p'⟩,fun x H' y=>?_⟩
  obtain ⟨c,z,hn,e1,e2,e3⟩:=y
  subst e1 e3
  exact hs i z σ H c (e2 xs q) hn p
 ·have e:i=xs.length:=by omega
  subst e
  exact .inl ⟨⟨xs,q,Nat.le_refl _⟩,hd σ H p⟩
theorem for_vals {d:Addr} {kvs:List (Key × V)} {o:Obj} {g:TG} {tb:TS} {D:Ends} {σ:St} {H:Hp} (Pv:Nat→St→Hp→Prop) (h0:Pv 0 σ H) (hl:∀ i σ H,i≤kvs.length→Pv i σ H→H d=some (.frz o (.dK kvs)))
  (hs:∀ i k x σ H,kvs[i]?=some (k,x)→Pv i σ H→g x σ H fun σ2 H2=>tb { D with nx:=Pv (i + 1),ct:=Pv (i + 1),bk:=D.nx } σ2 H2) (hd:∀ σ H,Pv kvs.length σ H→D.nx σ H) :
  ∃ W:Nat→Nat→St→Hp→Prop,(∃ m,W 0 m σ H)∧∀ i m σ H,W i m σ H →
   ((Itv2 d kvs o).stop i H∧D.nx σ H)∨((Itv2 d kvs o).go i H∧∃ N:St→Hp→Prop,(∀ σ' H',N σ' H'→∃ m',m' < m∧W (i + 1) m' σ' H')∧∀ x H',(Itv2 d kvs o).yld i H x H'→g x σ H' fun σ2 H2=>tb { D with nx:=N,ct:=N,bk:=D.nx } σ2 H2):=by
 refine ⟨fun i m σ H=>m=kvs.length - i∧i≤kvs.length∧Pv i σ H,⟨kvs.length,by simp,Nat.zero_le _,h0⟩,?_⟩
 rintro i m σ H ⟨rfl,hi,p⟩
 have q:=hl i σ H hi p
 by_cases hlt:i < kvs.length
 ·refine .inr ⟨⟨hlt,q⟩,Pv (i + 1),fun σ' H' p'=>⟨kvs.length - (i + 1),by omega,rfl,hlt,p'⟩,fun x H' y=>?_⟩
  obtain ⟨e,k,y⟩:=y
  subst e
  exact hs i k x σ _ y p
 ·have e:i=kvs.length:=by omega
  subst e
  exact .inl ⟨⟨Nat.le_refl _,q⟩,hd σ H p⟩
noncomputable def tLRange (ta:TA):TE:=fun σ H Q=>ta σ H fun vs H1=>∃ n:Nat,vs=[.int n]∧n≤1000∧∀ p,H1 p=none→Q (.ref p) (upd H1 p (.lst ((List.range n).map fun (i:Nat)=>V.int i)))
theorem pe_listRange {a:Expr} {ta:TA} {p1 p2 pos pos2:Pos} (hgl:Gl X "list") (hml:X.mg "list"=none) (hg:Gl X "range") (hm:X.mg "range"=none) (hc:X.calm=true) (ha:PA X [a] ta) (hs:starEach [a] X.env=[(false,eval a X.env)]:=by rfl)
  (hs2:starEach [.Call (.Name "range" p2) [a] [] pos2] X.env=[(false,eval (.Call (.Name "range" p2) [a] [] pos2) X.env)]:=by rfl):PE X (.Call (.Name "list" p1) [.Call (.Name "range" p2) [a] [] pos2] [] pos) (tLRange ta):=by
 intro pins s σ H Q I h
 refine Call_ (ld_blt I hgl hml PySem.Pv.boot_list (PyProof.Rows.callWith_type1 ?_ hs2 rfl))
 rw [hs2]
 refine Calls.spliced_cons ?_
 refine Call_ (ld_blt I hg hm boot_range (PyProof.Rows.callWith_type1 (thn (ha pos2 pins s σ H _ I h) fun us s1 zz33=>?_) hs rfl))
 obtain ⟨vs,H1,I1,r1,q1⟩:=zz33
 obtain ⟨n,e,hn,q⟩:=q1
 subst e
 obtain ⟨u,rfl,ru⟩:=vals1 r1
 obtain ⟨t,rfl⟩:=ru
 refine call_range_1 (Calls.spliced_nil ?_)
 have hr:Builtin.Range.rangeSize 0 (n:Int) 1=n:=by rw [rangeSize_one]; split <;> omega
 refine call_list_range (I.ok.hd hc) (IsRange.new ..) (small_one (by omega) (by omega) (by omega) (by omega)) hr (by omega) fun h' tk acc c' hk hS hacc=>?_
 have hk1:∀ b o,s1.heap.get? b=some o→h'.get? b=some o:=fun b o e=>hk b o (Heap.get?_push_of_some _ e)
 have hv:Vals ((List.range n).map fun (i:Nat)=>V.int i) acc.toList:=by
  have gen:∀ (l:List Value) (k:Nat),(∀ (j:Nat) (v:Value),l[j]?=some v→∃ t,v=.int ((k + j:Nat):Int) t)→Vals ((List.range' k l.length).map fun (i:Nat)=>V.int i) l:=by
   intro l
   induction l with
   | nil=>intro k _; exact .nil
   | cons v r ih =>
    intro k h
    obtain ⟨t,e⟩:=h 0 v rfl
    rw [List.length_cons,List.range'_succ,List.map_cons]
    refine .cons ⟨t,by rw [e]; rfl⟩ (ih (k + 1) fun j w hw=>?_)
    obtain ⟨t',e'⟩:=h (j + 1) w (by simpa using hw)
    exact ⟨t',by rw [e']; congr 1; omega⟩
  have hl:acc.toList.length=n:=by rw [Array.length_toList]; exact hacc.1
  have:=gen acc.toList 0 fun j v hj=>by
   obtain ⟨t,e⟩:=hacc.2 j v (by rw [← Array.getElem?_toList]; exact hj)
   exact ⟨t,by rw [e]; congr 1; omega⟩
  rw [hl,← List.range_eq_range'] at this
  exact this
 have hle:s1.heap.objs.size≤(s1.heap.push { cls:=.type "range",data:=.fields #[.int 0 s1.toks,.int (n:Int) t,.int 1 (s1.toks + 1)] }).objs.size:=by rw [Heap.size_push]; exact Nat.le_succ _
 refine ⟨.ref _,upd H1 _ (.lst ((List.range n).map fun (i:Nat)=>V.int i)),I1.laid hk1 (Nat.le_of_lt (by first | exact Nat.lt_of_le_of_lt hle (Heap.lt_size hS) | (rw [Heap.size_push]; exact Nat.lt_succ_self _))) ⟨?_,acc.toList,c',hv,?_⟩,rfl,q _ (I1.hok.fresh ?_)⟩
 ·rw [List.length_map,List.length_range,sizeLine_eq]; omega
 ·simpa using hS
 ·rw [Heap.size_push]; exact Nat.le_succ _
end
end L2
set_option maxHeartbeats 4000000
namespace L2
open PySem PySem.Spec PyProof.Rows
noncomputable abbrev TJ:=Str→TE
end L2
set_option maxHeartbeats 4000000
namespace L2
open PySem PySem.Spec PyProof.Rows
section
variable {X:Cx}
theorem ix_listK (K:PySem.W.Frag) (h:X.K=K:=by rfl):IxR X (rIxL K):=h ▸ ix_list
theorem call_tuple_ofK (K:PySem.W.Frag) (h:X.K=K:=by rfl):CallR X (.type "tuple") (fun xs H Q=>∃ p ys,xs=[.ref p]∧((SqL K H p ys∧∀ l,H l=none→Q (.ref l) (upd H l (.tup ys)))∨(SqT K H p ys∧Q (.ref p) H))):=h ▸ call_tuple_of
variable {tg l e:Expr} {tl ta:TE} {f:Str} {pos:Pos}
theorem pi_tupK (K:PySem.W.Frag) (hl:PE X l tl) (h:X.K=K:=by rfl):PI X tg l (iTup K tl):=h ▸ pi_tup hl
end
end L2
set_option maxHeartbeats 4000000
namespace L2
open PySem PySem.Spec PyProof.Rows
section
variable {prog:Program} {w:World} {A:Around} {E:Value→Shared→Prop}
theorem drawL {it l:Addr} {xs:Array Value} (ne:l≠it) (k:Nat):∀ (i:Nat) (s:Shared) (Q:List Value→Shared→Prop),s.heap.IsListIter it l i→s.heap.IsList l xs→i + k≤xs.size →
  (∀ h',h'.IsListIter it l (i + k)→Heap.SameBut it s.heap h'→Q ((xs.toList.drop i).take k) { s with heap:=h' })→wpAny (model prog w) A (draw (.ref it) k) Q E s:=by
 induction k with
 | zero =>
  intro i s Q a b c q
  have z:=q s.heap a (Heap.SameBut.refl ..)
  rw [List.take_zero] at z
  exact wpAny_pure z
 | succ k ih =>
  intro i s Q a b c q
  have lt:i < xs.size:=by omega
  refine wpAny_bind (m:=pyNext (.ref it)) (wpAny_pyNext_list_item a b (x:=xs[i]) (by simp [lt]) fun g st sb=>?_)
  refine wpAny_bind (wpAny_holding (ih (i + 1) _ _ st (b.extBut sb.extBut ne) (by omega) fun g2 st2 sb2=>wpAny_pure ?_))
  have z:=q g2 (by rw [Nat.add_right_comm] at st2; exact st2) (sb.trans sb2)
  rwa [List.drop_eq_getElem_cons (by simpa using lt),List.take_succ_cons,Array.getElem_toList] at z
theorem unpackL {l:Addr} {xs:Array Value} {s:Shared} {Q:List Value→Shared→Prop} (hc:A.handled=none) (b:s.heap.IsList l xs)
  (q:∀ h',Heap.ExtBut s.heap.objs.size s.heap h'→Q xs.toList { s with heap:=h' }):wpAny (model prog w) A (unpackItems (.ref l) xs.size none) Q E s:=by
 have ne:l≠s.heap.objs.size:=by obtain ⟨o,ho,_⟩:=b; exact Nat.ne_of_lt (Heap.lt_size ho)
 unfold unpackItems notIterableAtAll
 refine wpAny_bind (wpAny_bind (wpAny_specialOf b.typeIs PySem.F.slot_list_iter.lookup (wpAny_pure ?_)))
 rw [if_neg (by decide)]
 refine wpAny_bind (wpAny_holding (wpAny_pyIter_list b ?_))
 refine wpAny_bind (wpAny_holding (drawL ne xs.size 0 _ _ ⟨_,Heap.get?_push_size _ rfl,rfl,rfl⟩ (b.push _) (by omega) fun g st sb=>?_))
 have e:(xs.toList.drop 0).take xs.size=xs.toList:=by rw [List.drop_zero,List.take_of_length_le]; simp
 rw [e,if_neg (by simp)]
 refine wpAny_bind (wpAny_holding (wpAny_pyNext_list_end hc st ((b.push _).extBut sb.extBut ne) (by simp) fun g2 eb=>?_))
 rw [if_neg (by decide)]
 exact wpAny_pure (q g2 fun c o hb z=>eb c o hb (sb.extBut c o hb (Heap.get?_push_of_some _ z)))
end
section
variable {X:Cx} {pos:Pos}
noncomputable def gLst (K:PySem.W.Frag) (n:Nat) (t:TGs):TG:=fun v σ H Q=>∃ a xs,v=.ref a∧SqL K H a xs∧xs.length=n∧t xs σ H Q
theorem pg_lst {es:List Expr} {k:Nat} {t:TGs} {n:Nat} (hc:X.calm=true) (h:PGs X es t)
  (hn:(assignEach es X.env).length=n:=by rfl) (hst:(assignEach es X.env).findIdx? (·.1)=none:=by rfl):PG X (.Tuple es k pos) (gLst X.K n t):=by
 intro pins s σ H v u Q I r hw
 obtain ⟨a,xs,e1,hq,hl,hw⟩:=hw
 subst e1
 cases r
 obtain ⟨its,rv,p,hz⟩:=I.list hq
 rw [assign_Tuple]
 refine wpAny_bind (wpAny_standAt ?_)
 unfold unpack
 have hn2:(assignEach es X.env).length=its.toArray.size:=by rw [hn,← hl,rv.length]; simp
 rw [hn2,hst]
 refine wpAny_bind (wpAny_holding (unpackL (I.ok.hd hc) p.isList fun h' hx=>?_))
 have I1:Inv X pins σ H { s with heap:=h' }:=I.kept (t':=s.toks) fun b o e=>hx b o (Nat.ne_of_lt (Heap.lt_size e)) e
 exact h pins _ σ H xs _ Q I1 (by simpa using rv) hw
end
end L2
set_option maxHeartbeats 4000000
namespace L2
open PySem PySem.Spec PyProof.Rows
noncomputable def KDict (w:World) (K:PySem.W.Frag) (a:Addr) (kvs:List (Key × V)):Prop :=
 ∃ o es ep vs,K.lookup a=some o∧o.ExactDict∧o.data=.dict es ep∧(∀ e∈es,∃ k,keyIs k e.key=true∧e.hash=keyH w k)∧(∀ P:Program,Pairs (mixKind P w) es.toList vs)∧(vs.map (·.1)).Nodup∧KV kvs vs∧(a == sysModules)=false
section
variable {X:Cx} {i o:Expr} {ty td:TE} {pos:Pos}
theorem KDict.here {pins:List (Addr × Obj)} {σ:St} {H:Hp} {s:Shared} {a:Addr} {kvs:List (Key × V)} (h:KDict X.w X.K a kvs) (I:Inv X pins σ H s):(a == sysModules)=false∧∃ vs,KV kvs vs∧s.heap.DictOf (mixKind X.prog X.w) a vs:=by
 obtain ⟨o,es,ep,vs,h1,h2,h3,h4,h5,h6,h7,h8⟩:=h
 exact ⟨h8,vs,h7,o,es,ep,I.kIn a o h1,h2,h3,h4,h5 X.prog,h6⟩
noncomputable def tKNotIn (w:World) (K:PySem.W.Frag) (ty td:TE):TE:=fun σ H Q=>ty σ H fun y H1=>td σ H1 fun x H2=>∃ a kvs k,x=.ref a∧KDict w K a kvs∧y=kV k∧Q (.bl (!(valV kvs k).isSome)) H2
theorem pc_knotin (hi:PE X i ty) (ho:PE X o td):PC X .NotIn i o (tKNotIn X.w X.K ty td):=by
 intro pins s σ H Q I h
 refine thn (hi pins s σ H _ I h) fun iv s1 zz34=>?_
 obtain ⟨y,H1,I1,ry,q1⟩:=zz34
 refine thn (ho pins s1 σ H1 _ I1 q1) fun u s2 zz9=>?_
 obtain ⟨x,H2,I2,rx,a,kvs,k,ex,g,ey,q2⟩:=zz9
 subst ex ey
 obtain rfl:u=Value.ref a:=rx
 obtain ⟨hd,vs,rel,dd⟩:=g.here I2
 refine wpAny_notIn_of (kV_is ry) hd dd.mapOf ?_
 rw [← (rel.val k).isSome_eq]
 exact ⟨.bl _,H2,I2.tok _,rfl,q2⟩
end
section
noncomputable def Itm2 (d:Addr) (kvs:List (Key × V)) (o:Obj):It :=
 ⟨fun i H=>i < kvs.length∧H d=some (.frz o (.dK kvs)),fun i H x H'=>∃ q k v,H q=none∧x=.ref q∧kvs[i]?=some (k,v)∧H'=upd H q (.tup [kV k,v]),fun i H=>kvs.length≤i∧H d=some (.frz o (.dK kvs))⟩
theorem turn_items {P:Program} {w:World} {K:PySem.W.Frag} {elts:List Expr} {x1:Nat} {pos:Pos} (d it:Addr) (kvs:List (Key × V)) (o:Obj) :
  Turn P w K (.Tuple elts x1 pos) (Itm2 d kvs o) [it] it (fun i h=>∃ a b,IsItemIter h it d i kvs.length (epOf o) a b) where
 mem:=by simp
 obj:=fun i h st b hb=>by
  have e:b=it:=by simpa using hb
  subst e
  obtain ⟨a,c,z⟩:=st
  exact ⟨_,z,fun v y=>by
   have y':Data.fields _=Data.cell v:=y
   cases y'⟩
 keep:=fun i h h' st k=>by
  obtain ⟨a,c,z⟩:=st
  exact ⟨a,c,k it (by simp) _ z⟩
 item:=by
  intro X hP hw hK hc i pins s σ H E I hf st hg
  subst hP hw hK
  obtain ⟨hi,hq⟩:=hg
  obtain ⟨vs,ep,rel,da,ho⟩:=frz_dict I hq
  have hep:=ep_of da ho
  subst hep
  obtain ⟨f0,f1,f2,f3,f4,f5⟩:=hf it (by simp)
  obtain ⟨⟨k,v⟩,hx⟩:∃ p,kvs[i]?=some p:=⟨_,List.getElem?_eq_getElem hi⟩
  obtain ⟨u,hu,ru⟩:=rel.at hx
  have hlen:vs.length=kvs.length:=rel.length.symm
  obtain ⟨a0,b0,st⟩:=st
  rw [← hlen] at st
  have itlt:=Heap.lt_size st
  refine wpAny_pyNext_items_item st da hu fun key h' hk st' ht hsz kk=>?_
  rw [hlen] at st'
  refine ⟨.ref s.heap.objs.size,rfl,wpAny_letOwnedTupleGo_items st' fun h'' st'' sb=>?_⟩
  have keepb:∀ b z,b≠it→s.heap.get? b=some z→h''.get? b=some z:=fun b z hb e=>(sb.2 b hb).trans (kk b z hb e)
  have ht'':h''.get? s.heap.objs.size=some { cls:=.type "tuple",data:=.seq #[key,u] }:=(sb.2 _ (Nat.ne_of_gt itlt)).trans ht
  have hn:H s.heap.objs.size=none:=I.hok.fresh (Nat.le_refl _)
  have I2:Inv X pins σ (upd H s.heap.objs.size (.tup [kV k,v])) { s with heap:=h'' }:=by
   refine I.step (g':=s.gens) (d':=s.drawn) (ch:=[it]) (fun b hb=>?_) (fun b o _ _ hc q _=>keepb b o (fun z=>hc (by simp [z])) q) (fun b o _ _ hc q _=>⟨o.slots,keepb b o (fun z=>hc (by simp [z])) q⟩) (fun b o _ q n=>by rw [upd_ne (Nat.ne_of_lt (Heap.lt_size q))]; exact n)
    (fun b o hc q=>⟨o,keepb b o (fun z=>hc (by simp [z])) q⟩) (fun b ys q=>by rw [upd_ne (ne_of_none q hn)]; exact q) (fun b o ys q=>by rw [upd_ne (ne_of_none q hn)]; exact q) (fun b ps q=>⟨#[],by rw [upd_ne (ne_of_none q hn),q]; simp⟩) (fun m hm=>?_) (fun b v' q=>?_) I.bare
   ·have z:b=it:=by simpa using hb
    subst z; exact ⟨f3,f1,f4,f5⟩
   ·obtain ⟨o,es,ep,ho,r⟩:=hm
    exact ⟨o,es,ep,keepb _ o (Ne.symm f1) ho,r⟩
   ·by_cases hb:b=s.heap.objs.size
    ·subst hb
     rw [upd_same] at q
     cases q
     exact ⟨by show 2≤sizeLine; decide,[key,u],.cons (kV_of hk) (.cons ru .nil),⟨_,ht'',rfl,_,rfl⟩⟩
    ·rw [upd_ne hb] at q
     refine (I.hok b v' q).stay (fun c w' hc z=>keepb c w' ?_ z) (fun d z=>by rw [upd_ne (ne_of_none z hn)]; exact z) fun d ys z=>by rw [upd_ne (ne_of_none z hn)]; exact z
     rintro rfl
     rcases hc with z | z
     ·rw [z,q] at f0; cases f0
     ·rw [f0] at z; cases z
  refine ⟨.ref s.heap.objs.size,_,I2,rfl,⟨_,k,v,hn,rfl,hx,rfl⟩,⟨_,_,st''⟩,fun b hb=>?_⟩
  have z:b=it:=by simpa using hb
  subst z; rw [upd_ne (Nat.ne_of_lt itlt)]; exact f0
 done:=by
  intro X hP hw hK hc i pins s σ H E I hf st hg
  subst hP hw hK
  obtain ⟨hi,hq⟩:=hg
  obtain ⟨vs,ep,rel,da,ho⟩:=frz_dict I hq
  have hep:=ep_of da ho
  subst hep
  obtain ⟨f0,f1,f2,f3,f4,f5⟩:=hf it (by simp)
  have hlen:vs.length=kvs.length:=rel.length.symm
  obtain ⟨a0,b0,st⟩:=st
  rw [← hlen] at st
  exact wpAny_pyNext_items_end (I.ok.hd hc) st da (by rw [List.getElem?_eq_none]; omega) fun h' eb=>⟨rfl,I.turned (t':=s.toks) (fun b o hb e=>eb b o hb e) f0 f1 f3 f4 f5⟩
 self:=fun _ _ _ _ _ st h=>by
  obtain ⟨a,b,st⟩:=st
  exact PySem.W.kcp_self st h
variable {X:Cx} {l:Expr} {tl:TE}
theorem pi_items {elts:List Expr} {x1:Nat} {tpos apos cpos:Pos} (hl:PE X l tl) (m:M0 X l "items" apos cpos):PI X (.Tuple elts x1 tpos) (.Call (.Attribute l "items" apos) [] [] cpos) (iDict Itm2 tl):=by
 intro pins s σ H R I h
 refine wpAny_Call_method m.base m.few m.line PySem.F.plainAttrs_dict PySem.F.slot_dict_items PySem.F.type_dict_items (thn (hl pins s σ H _ I h) fun v s1 zz9=>?_)
 obtain ⟨x,H1,I1,r1,q1⟩:=zz9
 obtain ⟨a,kvs,e,q⟩:=q1
 subst e
 cases r1
 obtain ⟨o,H2,e2,I2,q2⟩:=dict_frz (R:=fun o H=>R (Itm2 a kvs o) H) I1 q
 obtain ⟨vs,ep,rel,da,ho⟩:=frz_dict I2 e2
 have hep:=ep_of da ho
 subst hep
 obtain ⟨_,_,hsys,_⟩:=I2.hok a _ e2
 have isd:IsD H2 a:=.inl ⟨kvs,.inr ⟨o,e2⟩⟩
 obtain ⟨t1,t2,_⟩:=isD_at I2 isd
 refine ⟨t1,t2,?_⟩
 refine Calls.callWith_builtin rfl (PyProof.Rows.evalArgs_empty ?_)
 refine call_meetsIn PySem.F.slot_dict_items da.dictOf.typeIs PySem.F.entry_dict_items (PySem.F.args_dict_items_1 _) (meets_dict_items (mixKind X.prog X.w) a hsys) ⟨⟨vs,da.dictOf⟩,?_⟩
 have I3:Inv X pins σ H2 { s1 with heap:=s1.heap.push { cls:=.type "dict_items",data:=.fields #[.ref a] } }:=I2.kept (t':=s1.toks) fun b o e=>Heap.get?_push_of_some _ e
 refine wpAny_pyIter_items ⟨_,Heap.get?_push_size _ rfl,rfl,rfl⟩ (da.push _) ?_
 have hlen:vs.length=kvs.length:=rel.length.symm
 rw [hlen]
 refine ⟨(s1.heap.push { cls:=.type "dict_items",data:=.fields #[.ref a] }).objs.size,[(s1.heap.push { cls:=.type "dict_items",data:=.fields #[.ref a] }).objs.size],_,_,H2,rfl,I3.kept (t':=s1.toks) fun b o e=>Heap.get?_push_of_some _ e,turn_items a _ kvs o,⟨_,_,Heap.get?_push_size _ rfl⟩,fun b hb=>?_,q2⟩
 have e:b=(s1.heap.push { cls:=.type "dict_items",data:=.fields #[.ref a] }).objs.size:=by simpa using hb
 subst e
 exact I3.fpOk (Nat.le_refl _) (I3.hok.fresh (Nat.le_refl _))
theorem for_items {d:Addr} {kvs:List (Key × V)} {o:Obj} {g:TG} {tb:TS} {D:Ends} {σ:St} {H:Hp} (Pv:Nat→St→Hp→Prop) (h0:Pv 0 σ H) (hl:∀ i σ H,i≤kvs.length→Pv i σ H→H d=some (.frz o (.dK kvs)))
  (hs:∀ i k x σ H q,kvs[i]?=some (k,x)→H q=none→Pv i σ H→g (.ref q) σ (upd H q (.tup [kV k,x])) fun σ2 H2=>tb { D with nx:=Pv (i + 1),ct:=Pv (i + 1),bk:=D.nx } σ2 H2) (hd:∀ σ H,Pv kvs.length σ H→D.nx σ H) :
  ∃ W:Nat→Nat→St→Hp→Prop,(∃ m,W 0 m σ H)∧∀ i m σ H,W i m σ H →
   ((Itm2 d kvs o).stop i H∧D.nx σ H)∨((Itm2 d kvs o).go i H∧∃ N:St→Hp→Prop,(∀ σ' H',N σ' H'→∃ m',m' < m∧W (i + 1) m' σ' H')∧∀ x H',(Itm2 d kvs o).yld i H x H'→g x σ H' fun σ2 H2=>tb { D with nx:=N,ct:=N,bk:=D.nx } σ2 H2):=by
 refine ⟨fun i m σ H=>m=kvs.length - i∧i≤kvs.length∧Pv i σ H,⟨kvs.length,by simp,Nat.zero_le _,h0⟩,?_⟩
 rintro i m σ H ⟨rfl,hi,p⟩
 have q:=hl i σ H hi p
 by_cases hlt:i < kvs.length
 ·refine .inr ⟨⟨hlt,q⟩,Pv (i + 1),fun σ' H' p'=>⟨kvs.length - (i + 1),by omega,rfl,hlt,p'⟩,fun x H' y=>?_⟩
  obtain ⟨c,k,v,hn,e1,y,e2⟩:=y
  subst e1 e2
  exact hs i k v σ H c y hn p
 ·have e:i=kvs.length:=by omega
  subst e
  exact .inl ⟨⟨Nat.le_refl _,q⟩,hd σ H p⟩
end
section
noncomputable def Itr3 (lo st:Int) (n:Nat):It:=⟨fun i _=>i < n,fun i H x H'=>H'=H∧x=.int (lo + i * st),fun i _=>n≤i⟩
theorem turn_range3 {P:Program} {w:World} {K:PySem.W.Frag} {tg:Expr} (it:Addr) (lo st:Int) (n:Nat):Turn P w K tg (Itr3 lo st n) [it] it (fun i h=>IsRangeIter h it (lo + (i:Nat) * st) ((n:Int) - (i:Nat)) st) where
 mem:=by simp
 obj:=fun i h st b hb=>by
  have e:b=it:=by simpa using hb
  subst e
  exact ⟨_,st,fun v z=>by
   have z':Data.fields _=Data.cell v:=z
   cases z'⟩
 keep:=fun i h h' st k=>k it (by simp) _ st
 item:=by
  intro X hP hw hK hc i pins s σ H E I hf st' hg
  subst hP hw hK
  obtain ⟨f0,f1,f2,f3,f4,f5⟩:=hf it (by simp)
  have W:=Walks.range (prog:=X.prog) (w:=X.w) (I.ok.hd hc) it lo st n
  refine W.item i s _ _ hg st' fun v h' tk hv st2 kk=>?_
  obtain ⟨t,rfl⟩:=hv
  have I1:Inv X pins σ H { s with heap:=h',toks:=tk }:=I.turned (fun b o hb e=>kk b o (by simpa using hb) e) f0 f1 f3 f4 f5
  exact ⟨_,rfl,go_of (s:={ s with heap:=h',toks:=tk }) (n:="range_iterator") st2 rfl rfl (by decide) ⟨.int (lo + i * st),H,I1,⟨t,rfl⟩,⟨rfl,rfl⟩,st2,fun b hb=>(hf b hb).1⟩⟩
 done:=by
  intro X hP hw hK hc i pins s σ H E I hf st' hg
  subst hP hw hK
  obtain ⟨f0,f1,f2,f3,f4,f5⟩:=hf it (by simp)
  exact wpAny_pyNext_range_end (I.ok.hd hc) st' (by have:n≤i:=hg; omega) fun h' eb=>⟨rfl,I.turned (t':=s.toks) (fun b o hb e=>eb b o hb e) f0 f1 f3 f4 f5⟩
 self:=fun _ _ _ _ _ st h=>wpAny_pyIter_rangeiter st h
end
section
variable {X:Cx} {tg:Expr}
noncomputable def iRng3 (ta:TA):TI:=fun σ H R=>ta σ H fun vs H1=>∃ n:Nat,vs=[.int 0,.int (3 * n:Nat),.int 3]∧n≤1000∧R (Itr3 0 3 n) H1
theorem range3_it {pins:List (Addr × Obj)} {σ:St} {H:Hp} {s:Shared} {R:It→Hp→Prop} {E:Value→Shared→Prop} {n:Nat} {t u v:Tok} {tk:Nat} (I:Inv X pins σ H s) (hn:n≤1000)
  (q:R (Itr3 0 3 n) H):wpAny (model X.prog X.w) X.A (pyIter (.ref s.heap.objs.size)) (PIE X pins σ tg R) E { s with heap:=s.heap.push { cls:=.type "range",data:=.fields #[.int 0 t,.int (3 * n:Nat) u,.int 3 v] },toks:=tk }:=by
 have hr:Builtin.Range.rangeSize 0 ((3 * n:Nat):Int) 3=n:=by
  unfold Builtin.Range.rangeSize
  rw [if_pos (by decide)]
  split <;> omega
 have hsm:Builtin.Range.small 0 ((3 * n:Nat):Int) 3=true:=by
  unfold Builtin.Range.small
  rw [hr]
  have e:∀ z:Int,-(2 ^ 62)≤z→z < 2 ^ 62→Builtin.Range.rangeFitsLong z=true:=fun z h1 h2=>by
   unfold Builtin.Range.rangeFitsLong
   rw [Bool.and_eq_true,decide_eq_true_eq,decide_eq_true_eq]
   omega
  have e2:=e ((3 * n:Nat):Int) (by omega) (by omega)
  have e4:=e (n:Int) (by omega) (by omega)
  have e5:=e (((3 * n:Nat):Int) + (3 - 1)) (by omega) (by omega)
  rw [e 0 (by decide) (by decide),e2,e 3 (by decide) (by decide),e4,if_pos (by decide),e5,Bool.or_true]
  rfl
 refine wpAny_pyIter_range (IsRange.new ..) hsm ?_
 have I1:Inv X pins σ H { s with heap:=s.heap.push { cls:=.type "range",data:=.fields #[.int 0 t,.int (3 * n:Nat) u,.int 3 v] },toks:=tk }:=I.kept fun b o e=>Heap.get?_push_of_some _ e
 refine ⟨(s.heap.push { cls:=.type "range",data:=.fields #[.int 0 t,.int (3 * n:Nat) u,.int 3 v] }).objs.size,[(s.heap.push { cls:=.type "range",data:=.fields #[.int 0 t,.int (3 * n:Nat) u,.int 3 v] }).objs.size],_,_,H,rfl,
  I1.kept (t':=tk) fun b o e=>Heap.get?_push_of_some _ e,turn_range3 _ 0 3 n,?_,fun b hb=>?_,q⟩
 ·show IsRangeIter _ _ ((0:Int) + ((0:Nat):Int) * 3) (((n:Nat):Int) - ((0:Nat):Int)) 3
  have e1:(0:Int) + ((0:Nat):Int) * 3=0:=by simp
  have e2:((n:Nat):Int) - ((0:Nat):Int)=Builtin.Range.rangeSize 0 ((3 * n:Nat):Int) 3:=by rw [hr]; simp
  rw [e1,e2]
  exact Heap.get?_push_size _ rfl
 ·have e:b=(s.heap.push { cls:=.type "range",data:=.fields #[.int 0 t,.int (3 * n:Nat) u,.int 3 v] }).objs.size:=by simpa using hb
  subst e
  exact I1.fpOk (Nat.le_refl _) (I1.hok.fresh (Nat.le_refl _))
theorem pi_range3 {a b c:Expr} {ta:TA} {p pos:Pos} (hg:Gl X "range") (hm:X.mg "range"=none) (ha:PA X [a,b,c] ta) (hs:starEach [a,b,c] X.env=[(false,eval a X.env),(false,eval b X.env),(false,eval c X.env)]:=by rfl) (hs2:starEach [b,c] X.env=[(false,eval b X.env),(false,eval c X.env)]:=by rfl) :
  PI X tg (.Call (.Name "range" p) [a,b,c] [] pos) (iRng3 ta):=by
 intro pins s σ H R I h
 refine Call_ (ld_blt I hg hm boot_range (PyProof.Rows.callWith_type1 (thn (ha pos pins s σ H _ I h) fun us s1 ⟨vs,H1,I1,r1,q1⟩=>?_) (by rw [hs,hs2]) (by rw [hs2]; rfl)))
 obtain ⟨n,e,hn,q⟩:=q1
 subst e
 cases r1 with
 | cons r rr =>
  cases rr with
  | cons r' rr =>
   cases rr with
   | cons r'' rr =>
    cases rr
    obtain ⟨t,rfl⟩:=r
    obtain ⟨t',rfl⟩:=r'
    obtain ⟨t'',rfl⟩:=r''
    exact call_range_3 (by decide) (range3_it I1 hn q) (.inl (PyProof.noPylong_small (by decide)))
theorem loop_range3 {lo st:Int} {n:Nat} {g:TG} {tt:TT} {tb:TB} {R:St→Hp→Prop} {σ:St} {H:Hp} (Pv:Nat→St→Hp→Prop) (h0:Pv 0 σ H)
  (hs:∀ (i:Nat) σ H,i < n→Pv i σ H→g (.int (lo + i * st)) σ H fun σ2 H2=>tt σ2 H2 fun b H3=>if b=true then tb σ2 H3 (Pv (i + 1)) else Pv (i + 1) σ2 H3) (hd:∀ σ H,Pv n σ H→R σ H):LoopR (Itr3 lo st n) g tt tb R σ H:=by
 refine ⟨fun i m σ H=>m=n - i∧i≤n∧Pv i σ H,⟨n,by simp,Nat.zero_le _,h0⟩,?_⟩
 rintro i m σ H ⟨rfl,hi,p⟩
 by_cases hlt:i < n
 ·refine .inr ⟨hlt,Pv (i + 1),fun σ' H' p'=>⟨n - (i + 1),by omega,rfl,hlt,p'⟩,fun x H' y=>?_⟩
  obtain ⟨e,y⟩:=y
  subst e y
  exact hs i σ _ hlt p
 ·have e:i=n:=by omega
  subst e
  exact .inl ⟨Nat.le_refl _,hd σ H p⟩
end
section
variable {X:Cx} {fr:Bool} {pos:Pos}
noncomputable def tAsgX (te:TEX) (g:TG):TSX:=fun D R σ H=>te σ H (fun x H1=>g x σ H1 D.nx) fun cls _ H1=>R cls σ H1
theorem psx_asg {tg e:Expr} {te:TEX} {g:TG} (he:PEX fr X e te) (hg:PG X tg g) (hs:swapsWithSole [tg] e pos.line X.env=pure false:=by rfl) (hw:swappedStores [tg] e X.env=pure none:=by rfl)
  (h1:(assignEach [tg] X.env).map (·.2)=[assign tg X.env]:=by rfl) (hx:X.xe=(fun _ _=>False):=by rfl):PSX fr X (.Assign [tg] e pos) (tAsgX te g):=by
 intro pins s σ H D R I h
 refine wpAny_Assign_stores (wpAny_mono (he pins s σ H _ _ I h) (fun v s1 ⟨x,H1,I1,r1,q1⟩=>?_) ?_) hs hw
 ·rw [h1]
  have z:=hg pins s1 σ H1 x v _ I1 r1 q1
  rw [hx] at z
  exact wpAny_mono z (fun _ _ y=>y) fun _ _ y=>y.elim
 ·rintro ev s1 ⟨e,T,cls,a0,σ',H',g1,g2,g3,g4,g5,g7,rfl,g6⟩
  exact ⟨e,T,cls,a0,σ',H',g1,g2,g3,g4,g5,g7,g6⟩
end
theorem sl_listK {X:Cx} (K:PySem.W.Frag) (h:X.K=K:=by rfl):SlR X (rSlL K):=h ▸ sl_list
theorem kdict_mk2 {w:World} {K:PySem.W.Frag} {a:Addr} {h1 h2:Int} {t1 t2 t3 t4:Tok} {ep:Nat} {x1 y1 x2 y2:Str}
  (l:K.lookup a=some ⟨.type "dict",none,.dict #[⟨h1,.str x1 t1,.str y1 t2⟩,⟨h2,.str x2 t3,.str y2 t4⟩] ep,#[]⟩) (e1:h1=hashStr w x1) (e2:h2=hashStr w x2) (ne:x1≠x2) (sy:(a == sysModules)=false) :
  KDict w K a [(Sum.inr x1,.str y1),(Sum.inr x2,.str y2)]:=by
 refine ⟨_,_,_,[(Sum.inr x1,.str y1 t2),(Sum.inr x2,.str y2 t4)],l,⟨rfl,rfl,rfl⟩,rfl,fun e he=>?_,fun P=>?_,?_,?_,sy⟩
 ·have he:e=⟨h1,.str x1 t1,.str y1 t2⟩∨e=⟨h2,.str x2 t3,.str y2 t4⟩:=by simpa using he
  rcases he with rfl | rfl
  ·exact ⟨Sum.inr x1,keyIs_str x1 t1,e1⟩
  ·exact ⟨Sum.inr x2,keyIs_str x2 t3,e2⟩
 ·exact .cons (keyIs_str x1 t1) rfl (.cons (keyIs_str x2 t3) rfl .nil)
 ·refine List.nodup_cons.mpr ⟨?_,by simp⟩
  simp [ne]
 ·exact .cons ⟨rfl,⟨_,rfl⟩⟩ (.cons ⟨rfl,⟨_,rfl⟩⟩ .nil)
end L2
set_option maxHeartbeats 4000000
namespace L2
open PySem PySem.Spec PyProof.Rows
section
variable {X:Cx}
noncomputable def rNeL (K:PySem.W.Frag):R2:=fun x y H Q=>∃ a b ns ms,x=.ref a∧y=.ref b∧SqL K H a (List.map V.int ns)∧SqL K H b (List.map V.int ms)∧Q (.bl (!decide (ns=ms))) H
theorem op_neL (hu:X.A.units + 64 < cLine):OpR X (compareOp .NotEq) (rNeL X.K):=by
 intro pins s σ H x y v u Q I rx ry h
 obtain ⟨a,b,ns,ms,rfl,rfl,ha,hb,q⟩:=h
 cases rx
 cases ry
 obtain ⟨ia,ra,pa,_⟩:=I.list ha
 obtain ⟨ib,rb,pb,_⟩:=I.list hb
 exact PySem.W.ne_intsK pa.isList (intsAre_of ra) pb.isList (intsAre_of rb) hu ⟨.bl _,H,I,rfl,q⟩
theorem all_range (bs:List Bool):((List.range bs.length).all fun i=>bs.getD i true)=bs.all id:=by
 rw [Bool.eq_iff_iff,List.all_eq_true,List.all_eq_true]
 constructor
 ·intro h b hb
  obtain ⟨i,hi,rfl⟩:=List.mem_iff_getElem.mp hb
  have:=h i (List.mem_range.mpr hi)
  rw [List.getD_eq_getElem?_getD,List.getElem?_eq_getElem hi] at this
  exact this
 ·intro h i hi
  have hi:=List.mem_range.mp hi
  rw [List.getD_eq_getElem?_getD,List.getElem?_eq_getElem hi]
  exact h _ (List.getElem_mem hi)
theorem call_all (hc:X.calm=true):CallR X (.builtin "all") (fun xs H Q=>∃ p bs,xs=[.ref p]∧SqL X.K H p (List.map V.bl bs)∧Q (.bl (bs.all id)) H):=by
 intro pins s σ H xs us Q I r h
 obtain ⟨p,bs,rfl,hq,q⟩:=h
 obtain ⟨u,rfl,ru⟩:=vals1 r
 cases ru
 obtain ⟨its,rv,pl,hz⟩:=I.list hq
 have ne:p≠s.heap.objs.size:=by obtain ⟨o,ho,_⟩:=pl.isList; exact Nat.ne_of_lt (Heap.lt_size ho)
 refine call_all_walk (wpAny_pyIter_list pl.isList ⟨s.heap.objs.size,_,_,_,_,_,fun i=>bs.getD i true,rfl,Walks.list (A:=X.A.in1) (show X.A.in1.handled=none from I.ok.hd hc) s.heap.objs.size p ne its.toArray,⟨⟨_,Heap.get?_push_size _ rfl,rfl,rfl⟩,pl.isList.push _⟩,?_,?_⟩)
 ·intro i v s' Q' E' hv hq'
  have hv:its[i]?=some v:=by simpa using hv
  have hlen:=rv.length
  rw [List.length_map] at hlen
  have hi:i < bs.length:=by have:=(List.getElem?_eq_some_iff.mp hv).1; omega
  obtain ⟨u,hu,ru⟩:=rv.get (show (bs.map V.bl)[i]?=some (V.bl bs[i]) by rw [List.getElem?_map,List.getElem?_eq_getElem hi]; rfl)
  rw [hv] at hu
  cases hu
  cases ru
  have e:bs.getD i true=bs[i]:=by rw [List.getD_eq_getElem?_getD,List.getElem?_eq_getElem hi]; rfl
  refine wpAny_truthy_bool ?_
  have hq':Q' (bs.getD i true) s':=hq'
  rw [e] at hq'
  exact hq'
 ·intro h' tk hk
  have I1:Inv X pins σ H { s with heap:=h',toks:=tk }:=I.kept fun b o e=>hk b o (fun z=>absurd (Heap.lt_size e) (by rw [List.mem_singleton.mp z]; exact Nat.lt_irrefl _)) (Heap.get?_push_of_some _ e)
  have hlen:its.toArray.size=bs.length:=by have:=rv.length; rw [List.length_map] at this; simp; omega
  refine ⟨.bl (bs.all id),H,I1,?_,q⟩
  show Value.bool _=_
  rw [hlen,all_range]
end
end L2
set_option maxHeartbeats 4000000
namespace L2
open PySem PySem.Spec PyProof.Rows
section
variable {prog:Program} {w:World} {A:Around} {E:Value→Shared→Prop} {s:Shared}
noncomputable abbrev upIt (a n:Int):Obj:={ cls:=.type "range_iterator",data:=.fields #[rawInt (a + (n - 1) * 1),rawInt n,rawInt (-1)] }
theorem fits62 {z:Int} (h1:-(2 ^ 62)≤z) (h2:z < 2 ^ 62):Builtin.Range.rangeFitsLong z=true:=by
 unfold Builtin.Range.rangeFitsLong
 rw [Bool.and_eq_true,decide_eq_true_eq,decide_eq_true_eq]
 omega
theorem rr_meets (r:Addr) (a b:Int) (t u v:Tok) (hs:(Builtin.Range.rangeFitsLong a && Builtin.Range.rangeFitsLong b && Builtin.Range.rangeFitsLong 1 && Builtin.Range.rangeFitsLong (-1) && Builtin.Range.rangeFitsLong (a - 1) && Builtin.Range.rangeFitsLong (Builtin.Range.rangeSize a b 1))=true) :
  Meets (Builtin.«range.__reversed__» ⟨[.ref r],[]⟩) (fun _ R s=>IsRange s.heap r a b 1 t u v∧R (.ok (.ret (.ref s.heap.objs.size))) { s with heap:=s.heap.push (upIt a (Builtin.Range.rangeSize a b 1)) }) :=
 .of_wp fun prog w A R s h=>by
  obtain ⟨hp,g,d,tk,os⟩:=s
  obtain ⟨hl,h⟩:=h
  unfold Builtin.«range.__reversed__»
  refine wpAny_bind (wpAny_of_eq (a:=Value.ref r) rfl ?_)
  refine wpAny_bind (m:=Builtin.Range.rangeFields (.ref r)) ?_
  unfold Builtin.Range.rangeFields
  refine wpAny_bind (wpAny_field hl rfl (x:=.int a t) rfl ?_)
  refine wpAny_bind (wpAny_of_eq (a:=some a) rfl ?_)
  refine wpAny_bind (wpAny_field hl rfl (x:=.int b u) rfl ?_)
  refine wpAny_bind (wpAny_of_eq (a:=some b) rfl ?_)
  refine wpAny_bind (wpAny_field hl rfl (x:=.int 1 v) rfl ?_)
  refine wpAny_bind (wpAny_of_eq (a:=some 1) rfl ?_)
  refine wpAny_pure ?_
  dsimp only
  simp only [hs,Bool.not_true,Bool.false_eq_true,if_false,if_true]
  exact wpAny_bind (wpAny_newObj_type (wpAny_pure ⟨_,rfl,h⟩))
theorem rr_sub:isSubtype (.type "range_iterator") (.type "reversed")=pure false:=by
 rw [isSubtype_type]
 kernel_rfl
theorem rr_code {r:Addr} {a b:Int} {t u v:Tok} {Z:Value→Shared→Prop} (hr:IsRange s.heap r a b 1 t u v)
  (hs:(Builtin.Range.rangeFitsLong a && Builtin.Range.rangeFitsLong b && Builtin.Range.rangeFitsLong 1 && Builtin.Range.rangeFitsLong (-1) && Builtin.Range.rangeFitsLong (a - 1) && Builtin.Range.rangeFitsLong (Builtin.Range.rangeSize a b 1))=true)
  (q:Z (.ref s.heap.objs.size) { s with heap:=s.heap.push (upIt a (Builtin.Range.rangeSize a b 1)) }) :
  codeAny (model prog w) A (.call (.builtin "reversed.__new__") ⟨[.type "reversed",.ref r],[]⟩) (wants Z E) s:=by
 have hT:s.TypeIs (.ref r) "range":=⟨_,hr,rfl⟩
 refine codeAny_of_tree (show wpAny _ A.in1 (checkBuiltinCall "reversed.__new__" ⟨[.type "reversed",.ref r],[]⟩ >>= fun _=>again (.builtin "reversed.__new__" ⟨[.type "reversed",.ref r],[]⟩)) _ _ s from ?_)
 refine wpAny_bind (wpAny_of_eq (PySem.F.newCall_reversed_1 (.ref r)) (wpAny_pure ⟨plainId_quiet PySem.F.plain_reversed_new _,codeAny_builtin PySem.F.entry_reversed_new ?_⟩))
 rw [Around.under_plainId PySem.F.plain_reversed_new _]
 unfold Builtin.«reversed.__new__»
 refine wpAny_bind (wpAny_of_eq (newClass_reversed (.ref r)) ?_)
 refine wpAny_bind (wpAny_of_eq (a:=()) (by first | rfl | kernel_rfl) (wpAny_bind (wpAny_of_eq (a:=()) (by first | rfl | kernel_rfl) ?_)))
 refine wpAny_bind (wpAny_specialOf hT PySem.F.slot_range_reversed.lookup (wpAny_bind (wpAny_of_eq (PySem.F.slot_range_reversed.bind (.ref r)) ?_)))
 have ne:¬ ((Value.builtin "range.__reversed__" == Value.none)=true):=Bool.false_ne_true
 dsimp only
 first | rw [if_neg ne] | (show wpAny _ _ (if (Value.builtin "range.__reversed__" == Value.none)=true then _ else _) _ _ _; rw [if_neg ne])
 refine wpAny_bind (wpAny_rule (wpAny_bind (m:=runValue (.call (.builtin "range.__reversed__") ⟨[.ref r],[]⟩)) ?_))
 show wpAny _ _ (call (.builtin "range.__reversed__") [.ref r]) _ _ _
 refine call_meets PySem.F.slot_range_reversed hT PySem.F.entry_range_reversed (PySem.F.args_range_reversed_1 _) (rr_meets r a b t u v hs) ⟨hr,?_⟩
 first | exact wpAny_pure q | exact wpAny_bind (wpAny_pure (wpAny_pure q))
theorem rr_call {r:Addr} {a b:Int} {t u v:Tok} {Q:Value→Shared→Prop} (hr:IsRange s.heap r a b 1 t u v)
  (hs:(Builtin.Range.rangeFitsLong a && Builtin.Range.rangeFitsLong b && Builtin.Range.rangeFitsLong 1 && Builtin.Range.rangeFitsLong (-1) && Builtin.Range.rangeFitsLong (a - 1) && Builtin.Range.rangeFitsLong (Builtin.Range.rangeSize a b 1))=true)
  (q:Q (.ref s.heap.objs.size) { s with heap:=s.heap.push (upIt a (Builtin.Range.rangeSize a b 1)) }):wpAny (model prog w) A (call (.type "reversed") [.ref r]) Q E s:=by
 refine callType_other (U:="range_iterator") (Q₁:=fun o z=>o=.ref s.heap.objs.size∧z={ s with heap:=s.heap.push (upIt a (Builtin.Range.rangeSize a b 1)) }) (by decide +kernel) PySem.F.create_reversed ⟨_,_,PySem.F.mro_reversed⟩ PySem.F.made_reversed rr_sub (PySem.F.typeCall_reversed_1 _) (rr_code hr hs ⟨rfl,rfl⟩) ?_
 rintro o z ⟨rfl,rfl⟩
 exact ⟨⟨_,Heap.get?_push_size _ rfl,rfl⟩,q⟩
end
section
variable {X:Cx} {tg:Expr}
noncomputable def iRevR (ta:TA):TI:=fun σ H R=>ta σ H fun vs H1=>∃ (i:Int) (n:Nat),vs=[.int i,.int (i + n)]∧0≤i∧i + n≤100000∧R (Itr3 (i + n - 1) (-1) n) H1
theorem pi_revR {a b:Expr} {ta:TA} {p1 p2 pos pos2:Pos} (hgl:Gl X "reversed") (hml:X.mg "reversed"=none) (hg:Gl X "range") (hm:X.mg "range"=none) (ha:PA X [a,b] ta) (hs:starEach [a,b] X.env=[(false,eval a X.env),(false,eval b X.env)]:=by rfl) (hsb:starEach [b] X.env=[(false,eval b X.env)]:=by rfl)
  (hs2:starEach [.Call (.Name "range" p2) [a,b] [] pos2] X.env=[(false,eval (.Call (.Name "range" p2) [a,b] [] pos2) X.env)]:=by rfl):PI X tg (.Call (.Name "reversed" p1) [.Call (.Name "range" p2) [a,b] [] pos2] [] pos) (iRevR ta):=by
 intro pins s σ H R I h
 refine Call_ (ld_blt I hgl hml boot_reversed (PyProof.Rows.callWith_type1 ?_ hs2 rfl))
 rw [hs2]
 refine Calls.spliced_cons ?_
 refine Call_ (ld_blt I hg hm boot_range (PyProof.Rows.callWith_type1 (thn (ha pos2 pins s σ H _ I h) fun us s1 ⟨vs,H1,I1,r1,q1⟩=>?_) (by rw [hs,hsb]) (by rw [hsb]; rfl)))
 obtain ⟨i,n,e,h0,h1,q⟩:=q1
 subst e
 obtain ⟨u,v,rfl,ru,rv⟩:=r1.two
 obtain ⟨t,rfl⟩:=ru
 obtain ⟨t',rfl⟩:=rv
 refine call_range_2 (Calls.spliced_nil ?_)
 have hr:Builtin.Range.rangeSize i (i + n) 1=n:=by rw [rangeSize_one]; split <;> omega
 have fits:(Builtin.Range.rangeFitsLong i && Builtin.Range.rangeFitsLong (i + n) && Builtin.Range.rangeFitsLong 1 && Builtin.Range.rangeFitsLong (-1) && Builtin.Range.rangeFitsLong (i - 1) && Builtin.Range.rangeFitsLong (Builtin.Range.rangeSize i (i + n) 1))=true:=by
  rw [hr,fits62 (by omega) (by omega),fits62 (by omega) (by omega),fits62 (by decide) (by decide),fits62 (by decide) (by decide),fits62 (by omega) (by omega),fits62 (by omega) (by omega)]
  rfl
 refine rr_call (IsRange.new ..) fits ?_
 rw [hr]
 have I2:Inv X pins σ H1 { s1 with heap:=s1.heap.push { cls:=.type "range",data:=.fields #[.int i t,.int (i + n) t',.int 1 s1.toks] },toks:=s1.toks + 1 }:=I1.kept fun b o e=>Heap.get?_push_of_some _ e
 have st:IsRangeIter ((s1.heap.push { cls:=.type "range",data:=.fields #[.int i t,.int (i + n) t',.int 1 s1.toks] }).push (upIt i n)) (s1.heap.push { cls:=.type "range",data:=.fields #[.int i t,.int (i + n) t',.int 1 s1.toks] }).objs.size (i + n - 1 + ((0:Nat):Int) * (-1)) ((n:Int) - ((0:Nat):Int)) (-1):=by
  have e1:i + (n:Int) - 1 + ((0:Nat):Int) * (-1)=i + ((n:Int) - 1) * 1:=by simp; omega
  have e2:(n:Int) - ((0:Nat):Int)=n:=by simp
  rw [e1,e2]
  exact Heap.get?_push_size _ rfl
 refine wpAny_pyIter_rangeiter st ?_
 refine ⟨_,[(s1.heap.push { cls:=.type "range",data:=.fields #[.int i t,.int (i + n) t',.int 1 s1.toks] }).objs.size],_,_,H1,rfl,I2.kept (t':=s1.toks + 1) fun b o e=>Heap.get?_push_of_some _ e,turn_range3 _ (i + n - 1) (-1) n,st,fun b hb=>?_,q⟩
 have e:b=(s1.heap.push { cls:=.type "range",data:=.fields #[.int i t,.int (i + n) t',.int 1 s1.toks] }).objs.size:=by simpa using hb
 subst e
 exact I2.fpOk (Nat.le_refl _) (I2.hok.fresh (Nat.le_refl _))
theorem for_range3 {lo st:Int} {n:Nat} {g:TG} {tb:TS} {D:Ends} {σ:St} {H:Hp} (Pv:Nat→St→Hp→Prop) (h0:Pv 0 σ H)
  (hs:∀ (i:Nat) σ H,i < n→Pv i σ H→g (.int (lo + i * st)) σ H fun σ2 H2=>tb { D with nx:=Pv (i + 1),ct:=Pv (i + 1),bk:=D.nx } σ2 H2) (hd:∀ σ H,Pv n σ H→D.nx σ H) :
  ∃ W:Nat→Nat→St→Hp→Prop,(∃ m,W 0 m σ H)∧∀ i m σ H,W i m σ H →
   ((Itr3 lo st n).stop i H∧D.nx σ H)∨((Itr3 lo st n).go i H∧∃ N:St→Hp→Prop,(∀ σ' H',N σ' H'→∃ m',m' < m∧W (i + 1) m' σ' H')∧∀ x H',(Itr3 lo st n).yld i H x H'→g x σ H' fun σ2 H2=>tb { D with nx:=N,ct:=N,bk:=D.nx } σ2 H2):=by
 refine ⟨fun i m σ H=>m=n - i∧i≤n∧Pv i σ H,⟨n,by simp,Nat.zero_le _,h0⟩,?_⟩
 rintro i m σ H ⟨rfl,hi,p⟩
 by_cases hlt:i < n
 ·refine .inr ⟨hlt,Pv (i + 1),fun σ' H' p'=>⟨n - (i + 1),by omega,rfl,hlt,p'⟩,fun x H' y=>?_⟩
  obtain ⟨e,y⟩:=y
  subst e y
  exact hs i σ _ hlt p
 ·have e:i=n:=by omega
  subst e
  exact .inl ⟨Nat.le_refl _,hd σ H p⟩
theorem pg_tupK {pos:Pos} (K:PySem.W.Frag) {es:List Expr} {k:Nat} {t:TGs} {n:Nat} (hc:X.calm=true) (h:PGs X es t)
  (hn:(assignEach es X.env).length=n:=by rfl) (hst:(assignEach es X.env).findIdx? (·.1)=none:=by rfl) (hk:X.K=K:=by rfl):PG X (.Tuple es k pos) (gTup K n t):=hk ▸ pg_tup hc h hn hst
end
end L2
set_option maxHeartbeats 4000000
namespace KT
open PySem L2
noncomputable def mV:Option Nat→V
 | none=>.non
 | some j=>.int j
structure TD (M:List (Option Nat)) (ns:List Int):Prop where
 n:∃ n,1≤n∧n≤40∧M.length=3 * n
 len:ns.length=M.length
 inv:∀ (i j:Nat),M[i]?=some (some j)→M[j]?=some (some i)∧i≠j
 rng:∀ (i:Nat) x,ns[i]?=some x→0≤x∧x≤9999
 eqv:∀ (i j:Nat) x,ns[i]?=some x→ns[j]?=some x→i=j∨M[i]?=some (some j)
 eqm:∀ (i j:Nat),M[i]?=some (some j)→ns[j]?=ns[i]?
structure SewOk (N:Nat) (F:List Nat) (M:List (Option Nat)):Prop where
 len:M.length=N
 nd:F.Nodup
 free:∀ f∈F,f < N∧M[f]?=some none
 inv:∀ (i j:Nat),M[i]?=some (some j)→M[j]?=some (some i)∧i≠j
theorem SewOk.start (N:Nat):SewOk N (List.range N) (List.replicate N none):=by
 refine ⟨by simp,List.nodup_range,fun f hf=>?_,fun i j h=>?_⟩
 ·have h:=List.mem_range.mp hf
  exact ⟨h,by rw [List.getElem?_replicate,if_pos h]⟩
 ·rw [List.getElem?_replicate] at h
  split at h <;> cases h
theorem SewOk.skip {N:Nat} {one:Nat} {F:List Nat} {M:List (Option Nat)} (h:SewOk N (one :: F) M):SewOk N F M :=
 ⟨h.len,(List.nodup_cons.mp h.nd).2,fun f hf=>h.free f (List.mem_cons_of_mem _ hf),h.inv⟩
theorem SewOk.pair {N:Nat} {one other k:Nat} {F:List Nat} {M:List (Option Nat)} (h:SewOk N (one :: F) M) (hk:F[k]?=some other):SewOk N (F.eraseIdx k) ((M.set one (some other)).set other (some one)):=by
 obtain ⟨n1,n2⟩:=List.nodup_cons.mp h.nd
 have hm:other∈F:=List.mem_of_getElem? hk
 have hne:one≠other:=fun z=>n1 (z ▸ hm)
 obtain ⟨h1,f1⟩:=h.free one List.mem_cons_self
 obtain ⟨h2,f2⟩:=h.free other (List.mem_cons_of_mem _ hm)
 have l1:one < M.length:=by rw [h.len]; exact h1
 have l2:other < M.length:=by rw [h.len]; exact h2
 have g1:((M.set one (some other)).set other (some one))[one]?=some (some other):=by
  rw [List.getElem?_set_ne (Ne.symm hne),List.getElem?_set_self l1]
 have g2:((M.set one (some other)).set other (some one))[other]?=some (some one):=by
  rw [List.getElem?_set_self (by rw [List.length_set]; exact l2)]
 have g3:∀ i,i≠one→i≠other→((M.set one (some other)).set other (some one))[i]?=M[i]?:=fun i a b=>by
  rw [List.getElem?_set_ne (Ne.symm b),List.getElem?_set_ne (Ne.symm a)]
 refine ⟨by rw [List.length_set,List.length_set]; exact h.len,n2.sublist (List.eraseIdx_sublist F k),fun f hf=>?_,fun i j e=>?_⟩
 ·obtain ⟨i,hi,hik,e⟩:=List.mem_eraseIdx_iff_getElem.mp hf
  have fm:f∈F:=e ▸ List.getElem_mem hi
  obtain ⟨a,b⟩:=h.free f (List.mem_cons_of_mem _ fm)
  have c1:f≠one:=fun z=>n1 (z ▸ fm)
  have c2:f≠other:=fun z=>by
   obtain ⟨hk',ek⟩:=List.getElem?_eq_some_iff.mp hk
   exact hik ((List.getElem_inj n2).mp (e.trans (z.trans ek.symm)))
  exact ⟨a,by rw [g3 f c1 c2]; exact b⟩
 ·by_cases c1:i=one
  ·subst c1
   rw [g1] at e
   cases e
   exact ⟨g2,hne⟩
  ·by_cases c2:i=other
   ·subst c2
    rw [g2] at e
    cases e
    exact ⟨g1,Ne.symm hne⟩
   ·rw [g3 i c1 c2] at e
    obtain ⟨a,b⟩:=h.inv i j e
    have d1:j≠one:=fun z=>by rw [z,f1] at a; cases a
    have d2:j≠other:=fun z=>by rw [z,f2] at a; cases a
    exact ⟨by rw [g3 j d1 d2]; exact a,b⟩
noncomputable def nm (s t:Int) (i:Nat):Int:=(s + t * i) % 10000
noncomputable def rep (M:List (Option Nat)) (i:Nat):Nat:=match M[i]? with
 | some (some j)=>if j < i then j else i
 | _=>i
noncomputable def flat (M:List (Option Nat)) (s t:Int):List Int:=(List.range M.length).map fun i=>nm s t (rep M i)
noncomputable def steps:List Int:=[1,3,7,9,37,1009,3333,9999]
theorem nm_d:∀ t∈steps,∀ d:Fin 42,t * ((d.val:Nat):Int) % 10000=0→d.val=0:=by decide +kernel
theorem nm_inj {s t:Int} (ht:t∈steps) {i j:Nat} (hi:i < 42) (hj:j < 42) (h:nm s t i=nm s t j):i=j:=by
  have key:∀ a b:Nat,b≤a→a < 42→nm s t a=nm s t b→a=b:=fun a b hab ha e=>by
    have e2:=Int.emod_eq_emod_iff_emod_sub_eq_zero.mp e
    rw [Int.add_sub_add_left,← Int.mul_sub,← Int.natCast_sub hab] at e2
    have:=nm_d t ht ⟨a - b,Nat.lt_of_le_of_lt (Nat.sub_le _ _) ha⟩ e2
    exact Nat.le_antisymm (Nat.sub_eq_zero_iff_le.mp this) hab
  rcases Nat.le_total i j with h' | h'
  · exact (key j i h' hj h.symm).symm
  · exact key i j h' hi h
theorem rep_lt {M:List (Option Nat)} {i N:Nat} (h:i < N):rep M i < N:=by
 unfold rep
 split
 ·split <;> omega
 ·exact h
theorem rep_cases (M:List (Option Nat)) (i:Nat):rep M i=i∨(∃ j,M[i]?=some (some j)∧j < i∧rep M i=j):=by
 cases e:M[i]? with
 | none=>exact .inl (by unfold rep; rw [e])
 | some o =>
  cases o with
  | none=>exact .inl (by unfold rep; rw [e])
  | some j =>
   by_cases h:j < i
   ·exact .inr ⟨j,rfl,h,by unfold rep; rw [e]; exact if_pos h⟩
   ·exact .inl (by unfold rep; rw [e]; exact if_neg h)
theorem flat_get {M:List (Option Nat)} {s t:Int} {i:Nat} {x:Int} (h:(flat M s t)[i]?=some x):i < M.length∧x=nm s t (rep M i):=by
 unfold flat at h
 rw [List.getElem?_map] at h
 by_cases hi:i < M.length
 ·rw [List.getElem?_range hi] at h
  exact ⟨hi,(Option.some.inj h).symm⟩
 ·rw [List.getElem?_eq_none (by simpa using hi)] at h
  cases h
theorem flat_at {M:List (Option Nat)} {s t:Int} {i:Nat} (hi:i < M.length):(flat M s t)[i]?=some (nm s t (rep M i)):=by
 unfold flat
 rw [List.getElem?_map,List.getElem?_range hi]
 rfl
theorem td_flat {M:List (Option Nat)} {s t:Int} {n:Nat} (h1:1≤n) (h2:n≤14) (hM:M.length=3 * n) (hinv:∀ (i j:Nat),M[i]?=some (some j)→M[j]?=some (some i)∧i≠j) (ht:t∈steps):TD M (flat M s t) where
 n:=⟨n,h1,by omega,hM⟩
 len:=by unfold flat; simp
 inv:=hinv
 rng:=fun i x h=>by
  obtain ⟨_,rfl⟩:=flat_get h
  unfold nm
  omega
 eqv:=fun i j x hi hj=>by
  obtain ⟨li,ei⟩:=flat_get hi
  obtain ⟨lj,ej⟩:=flat_get hj
  have e:rep M i=rep M j:=nm_inj ht (by have:=rep_lt (M:=M) li; omega) (by have:=rep_lt (M:=M) lj; omega) (ei.symm.trans ej)
  rcases rep_cases M i with a | ⟨a,ha,la,ra⟩
  ·rcases rep_cases M j with b | ⟨b,hb,lb,rb⟩
   ·exact .inl (a.symm.trans (e.trans b))
   ·have:b=i:=by rw [← rb,← e,a]
    subst this
    exact .inr (hinv j b hb).1
  ·rcases rep_cases M j with b | ⟨b,hb,lb,rb⟩
   ·have:a=j:=by rw [← ra,e,b]
    subst this
    exact .inr ha
   ·have:a=b:=by rw [← ra,e,rb]
    subst this
    have c1:=(hinv i a ha).1
    have c2:=(hinv j a hb).1
    rw [c1] at c2
    exact .inl (by cases c2; rfl)
 eqm:=fun i j h=>by
  obtain ⟨h',hne⟩:=hinv i j h
  have li:i < M.length:=(List.getElem?_eq_some_iff.mp h).1
  have lj:j < M.length:=(List.getElem?_eq_some_iff.mp h').1
  rw [flat_at li,flat_at lj]
  have e:rep M j=rep M i:=by
   by_cases c:j < i
   ·have a:rep M i=j:=by unfold rep; rw [h]; exact if_pos c
    have b:rep M j=j:=by unfold rep; rw [h']; exact if_neg (by omega)
    rw [a,b]
   ·have a:rep M i=i:=by unfold rep; rw [h]; exact if_neg c
    have b:rep M j=i:=by unfold rep; rw [h']; exact if_pos (by omega)
    rw [a,b]
  rw [e]
end KT
set_option maxHeartbeats 4000000
namespace KT
open PySem L2
noncomputable def pl (ns:List Int) (n:Nat) (x:Int):List Nat:=(List.range n).filter fun i=>decide (ns[i]?=some x)
noncomputable def keys (ns:List Int):Nat→List Int
 | 0=>[]
 | n + 1=>match ns[n]? with
  | some x=>if x∈keys ns n then keys ns n else keys ns n ++ [x]
  | none=>keys ns n
theorem pl_mem {ns:List Int} {n:Nat} {x:Int} {i:Nat}:i∈pl ns n x ↔ i < n∧ns[i]?=some x:=by
 unfold pl
 rw [List.mem_filter,List.mem_range]
 simp
theorem pl_nodup (ns:List Int) (n:Nat) (x:Int):(pl ns n x).Nodup:=(List.nodup_range).sublist List.filter_sublist
theorem pl_sorted (ns:List Int) (n:Nat) (x:Int):(pl ns n x).Pairwise (· < ·):=(List.pairwise_lt_range).sublist List.filter_sublist
theorem pl_same {ns:List Int} {n:Nat} {x:Int} (h:ns[n]?=some x):pl ns (n + 1) x=pl ns n x ++ [n]:=by
 unfold pl
 rw [List.range_succ,List.filter_append]
 congr 1
 simp [h]
theorem pl_other {ns:List Int} {n:Nat} {x:Int} (h:ns[n]?≠some x):pl ns (n + 1) x=pl ns n x:=by
 unfold pl
 rw [List.range_succ,List.filter_append]
 simp [h]
theorem keys_step {ns:List Int} {n:Nat} {x:Int} (h:ns[n]?=some x):keys ns (n + 1)=if x∈keys ns n then keys ns n else keys ns n ++ [x]:=by
 show (match ns[n]? with | some x=>if x∈keys ns n then keys ns n else keys ns n ++ [x] | none=>keys ns n)=_
 rw [h]
theorem keys_mem {ns:List Int}:∀ {n:Nat} {x:Int},x∈keys ns n ↔ ∃ i,i < n∧ns[i]?=some x
 | 0,x=>by simp [keys]
 | n + 1,x=>by
  have ih:=keys_mem (ns:=ns) (n:=n) (x:=x)
  have e:x∈keys ns (n + 1) ↔ x∈keys ns n∨ns[n]?=some x:=by
   cases h:ns[n]? with
   | none =>
    have:keys ns (n + 1)=keys ns n:=by
     show (match ns[n]? with | some x=>if x∈keys ns n then keys ns n else keys ns n ++ [x] | none=>keys ns n)=_
     rw [h]
    rw [this]; simp
   | some y =>
    rw [keys_step h]
    split
    ·constructor
     ·exact .inl
     ·rintro (z | z)
      ·exact z
      ·cases z; assumption
    ·rw [List.mem_append,List.mem_singleton]
     constructor
     ·rintro (z | z)
      ·exact .inl z
      ·exact .inr (by rw [z])
     ·rintro (z | z)
      ·exact .inl z
      ·exact .inr (by cases z; rfl)
  rw [e,ih]
  constructor
  ·rintro (⟨i,h1,h2⟩ | h)
   ·exact ⟨i,by omega,h2⟩
   ·exact ⟨n,by omega,h⟩
  ·rintro ⟨i,h1,h2⟩
   by_cases c:i=n
   ·subst c; exact .inr h2
   ·exact .inl ⟨i,by omega,h2⟩
theorem keys_nodup (ns:List Int):∀ n,(keys ns n).Nodup
 | 0=>List.nodup_nil
 | n + 1=>by
  have ih:=keys_nodup ns n
  cases h:ns[n]? with
  | none =>
   have:keys ns (n + 1)=keys ns n:=by
    show (match ns[n]? with | some x=>if x∈keys ns n then keys ns n else keys ns n ++ [x] | none=>keys ns n)=_
    rw [h]
   rw [this]; exact ih
  | some y =>
   rw [keys_step h]
   split
   ·exact ih
   ·rename_i c
    refine List.nodup_append.mpr ⟨ih,by simp,fun a ha b hb=>?_⟩
    rw [List.mem_singleton] at hb
    subst hb
    rintro rfl
    exact c ha
theorem keys_len (ns:List Int):∀ n,(keys ns n).length≤n
 | 0=>Nat.le_refl _
 | n + 1=>by
  have ih:=keys_len ns n
  cases h:ns[n]? with
  | none =>
   have:keys ns (n + 1)=keys ns n:=by
    show (match ns[n]? with | some x=>if x∈keys ns n then keys ns n else keys ns n ++ [x] | none=>keys ns n)=_
    rw [h]
   rw [this]; omega
  | some y =>
   rw [keys_step h]
   split
   ·omega
   ·rw [List.length_append,List.length_singleton]; omega
theorem pl_nil {ns:List Int} {n:Nat} {x:Int} (h:x ∉ keys ns n):pl ns n x=[]:=by
 cases e:pl ns n x with
 | nil=>rfl
 | cons a r =>
  have:a∈pl ns n x:=by rw [e]; exact List.mem_cons_self
  obtain ⟨h1,h2⟩:=pl_mem.mp this
  exact absurd (keys_mem.mpr ⟨a,h1,h2⟩) h
theorem pl_le2 {M:List (Option Nat)} {ns:List Int} (td:TD M ns) (n:Nat) (x:Int):(pl ns n x).length≤2:=by
 match e:pl ns n x with
 | []=>simp
 | [_]=>simp
 | [_,_]=>simp
 | a :: b :: c :: r =>
  exfalso
  have nd:=pl_nodup ns n x
  rw [e] at nd
  have ha:=(pl_mem.mp (show a∈pl ns n x by rw [e]; simp)).2
  have hb:=(pl_mem.mp (show b∈pl ns n x by rw [e]; simp)).2
  have hc:=(pl_mem.mp (show c∈pl ns n x by rw [e]; simp)).2
  simp only [List.nodup_cons,List.mem_cons,not_or] at nd
  obtain ⟨⟨n1,n2,_⟩,⟨n3,_⟩,_⟩:=nd
  rcases td.eqv a b x ha hb with z | z
  ·exact n1 z
  ·rcases td.eqv a c x ha hc with y | y
   ·exact n2 y
   ·rw [z] at y
    cases y
    exact n3 rfl
theorem pl_cases {M:List (Option Nat)} {ns:List Int} (td:TD M ns) {x:Int} (hx:x∈keys ns ns.length) :
  (∃ a,pl ns ns.length x=[a]∧ns[a]?=some x∧M[a]?=some none)∨(∃ a b,a < b∧pl ns ns.length x=[a,b]∧ns[a]?=some x∧ns[b]?=some x∧M[a]?=some (some b)∧M[b]?=some (some a)):=by
 obtain ⟨i,h1,h2⟩:=keys_mem.mp hx
 have mi:i∈pl ns ns.length x:=pl_mem.mpr ⟨h1,h2⟩
 have l2:=pl_le2 td ns.length x
 have st:=pl_sorted ns ns.length x
 match e:pl ns ns.length x with
 | []=>rw [e] at mi; simp at mi
 | [a] =>
  obtain ⟨ga,ha⟩:=pl_mem.mp (show a∈pl ns ns.length x by rw [e]; simp)
  refine .inl ⟨a,rfl,ha,?_⟩
  have la:a < M.length:=by rw [← td.len]; exact ga
  cases q:M[a]? with
  | none=>rw [List.getElem?_eq_none_iff] at q; omega
  | some o =>
   cases o with
   | none=>rfl
   | some b =>
    exfalso
    have hb:ns[b]?=some x:=by rw [td.eqm a b q]; exact ha
    have mb:b∈pl ns ns.length x:=pl_mem.mpr ⟨(List.getElem?_eq_some_iff.mp hb).1,hb⟩
    rw [e,List.mem_singleton] at mb
    exact (td.inv a b q).2 mb.symm
 | [a,b] =>
  obtain ⟨ga,ha⟩:=pl_mem.mp (show a∈pl ns ns.length x by rw [e]; simp)
  obtain ⟨gb,hb⟩:=pl_mem.mp (show b∈pl ns ns.length x by rw [e]; simp)
  rw [e] at st
  have hab:a < b:=by simpa using st
  rcases td.eqv a b x ha hb with z | z
  ·omega
  ·exact .inr ⟨a,b,hab,rfl,ha,hb,z,(td.inv a b z).1⟩
 | a :: b :: c :: r=>rw [e] at l2; simp at l2
noncomputable def part (M:List (Option Nat)) (ns:List Int) (ks:List Int):List (Option Nat):=(List.range M.length).map fun i=>match ns[i]? with
 | some x=>if x∈ks then M.getD i none else none
 | none=>none
theorem part_len (M:List (Option Nat)) (ns ks:List Int):(part M ns ks).length=M.length:=by unfold part; simp
theorem part_get {M:List (Option Nat)} {ns ks:List Int} (td:TD M ns) {i:Nat} {x:Int} (h:ns[i]?=some x):(part M ns ks)[i]?=some (if x∈ks then M.getD i none else none):=by
 have li:i < M.length:=by rw [← td.len]; exact (List.getElem?_eq_some_iff.mp h).1
 unfold part
 rw [List.getElem?_map,List.getElem?_range li]
 simp [h]
theorem part_nil {M:List (Option Nat)} {ns:List Int} (td:TD M ns):part M ns []=List.replicate M.length none:=by
 apply List.ext_getElem?
 intro i
 by_cases li:i < M.length
 ·obtain ⟨x,hx⟩:∃ x,ns[i]?=some x:=⟨_,List.getElem?_eq_getElem (by rw [td.len]; exact li)⟩
  rw [part_get td hx,List.getElem?_replicate,if_pos li]
  simp
 ·rw [List.getElem?_eq_none (by rw [part_len]; omega),List.getElem?_eq_none (by simp; omega)]
theorem part_all {M:List (Option Nat)} {ns:List Int} (td:TD M ns):part M ns (keys ns ns.length)=M:=by
 apply List.ext_getElem?
 intro i
 by_cases li:i < M.length
 ·have ln:i < ns.length:=by rw [td.len]; exact li
  obtain ⟨x,hx⟩:∃ x,ns[i]?=some x:=⟨_,List.getElem?_eq_getElem ln⟩
  rw [part_get td hx,if_pos (keys_mem.mpr ⟨i,ln,hx⟩),List.getD_eq_getElem?_getD,List.getElem?_eq_getElem li]
  rfl
 ·rw [List.getElem?_eq_none (by rw [part_len]; omega),List.getElem?_eq_none (by omega)]
theorem part_rim {M:List (Option Nat)} {ns ks:List Int} (td:TD M ns) {x:Int} {a:Nat} (hp:pl ns ns.length x=[a]) (hm:M[a]?=some none):part M ns (ks ++ [x])=part M ns ks:=by
 apply List.ext_getElem?
 intro i
 by_cases li:i < M.length
 ·have ln:i < ns.length:=by rw [td.len]; exact li
  obtain ⟨y,hy⟩:∃ x,ns[i]?=some x:=⟨_,List.getElem?_eq_getElem ln⟩
  rw [part_get td hy,part_get td hy]
  by_cases c:y=x
  ·subst c
   have:i∈pl ns ns.length y:=pl_mem.mpr ⟨ln,hy⟩
   rw [hp,List.mem_singleton] at this
   subst this
   have:M.getD i none=none:=by rw [List.getD_eq_getElem?_getD,hm]; rfl
   rw [this]
   simp
  ·simp [c]
 ·rw [List.getElem?_eq_none (by rw [part_len]; omega),List.getElem?_eq_none (by rw [part_len]; omega)]
theorem part_sewn {M:List (Option Nat)} {ns ks:List Int} (td:TD M ns) {x:Int} {a b:Nat} (hp:pl ns ns.length x=[a,b]) (hab:a < b) (ha:M[a]?=some (some b)) (hb:M[b]?=some (some a)) :
  part M ns (ks ++ [x])=((part M ns ks).set a (some b)).set b (some a):=by
 have la:a < M.length:=(List.getElem?_eq_some_iff.mp ha).1
 have lb:b < M.length:=(List.getElem?_eq_some_iff.mp hb).1
 have na:=(pl_mem.mp (show a∈pl ns ns.length x by rw [hp]; simp)).2
 have nb:=(pl_mem.mp (show b∈pl ns ns.length x by rw [hp]; simp)).2
 apply List.ext_getElem?
 intro i
 by_cases li:i < M.length
 ·have ln:i < ns.length:=by rw [td.len]; exact li
  obtain ⟨y,hy⟩:∃ x,ns[i]?=some x:=⟨_,List.getElem?_eq_getElem ln⟩
  rw [part_get td hy]
  by_cases cb:i=b
  ·subst cb
   rw [nb] at hy; cases hy
   rw [List.getElem?_set_self (by rw [List.length_set,part_len]; exact lb),if_pos (by simp),List.getD_eq_getElem?_getD,hb]
   rfl
  ·rw [List.getElem?_set_ne (Ne.symm cb)]
   by_cases ca:i=a
   ·subst ca
    rw [na] at hy; cases hy
    rw [List.getElem?_set_self (by rw [part_len]; exact la),if_pos (by simp),List.getD_eq_getElem?_getD,ha]
    rfl
   ·rw [List.getElem?_set_ne (Ne.symm ca),part_get td hy]
    have:y≠x:=by
     rintro rfl
     have:i∈pl ns ns.length y:=pl_mem.mpr ⟨ln,hy⟩
     rw [hp] at this
     simp at this
     omega
    simp [this]
 ·rw [List.getElem?_eq_none (by rw [part_len]; omega),List.getElem?_eq_none (by rw [List.length_set,List.length_set,part_len]; omega)]
end KT
set_option maxHeartbeats 4000000
namespace KT
open PySem L2
noncomputable def nV (i:Nat):V:=.int (i:Int)
theorem val_map {g:Int→V} {y:Int}:∀ {ks:List Int},valV (ks.map fun x=>((Sum.inl x:Key),g x)) (Sum.inl y)=if y∈ks then some (g y) else none
 | []=>by simp [valV]
 | k :: r=>by
  have ih:=val_map (g:=g) (y:=y) (ks:=r)
  unfold valV at ih ⊢
  rw [List.map_cons,List.find?_cons]
  by_cases c:k=y
  ·subst c
   simp
  ·have:(decide ((Sum.inl k:Key)=Sum.inl y))=false:=by
    rw [decide_eq_false_iff_not]
    intro z
    cases z
    exact c rfl
   simp only [this]
   rw [ih]
   have:(y∈k :: r) ↔ y∈r:=by
    rw [List.mem_cons]
    exact ⟨fun z=>z.elim (fun w=>absurd w.symm c) id,.inr⟩
   simp only [this]
theorem put_new {g:Int→V} {y:Int} {v:V} {ks:List Int} (h:y ∉ ks):putK (ks.map fun x=>((Sum.inl x:Key),g x)) (Sum.inl y) v=(ks.map fun x=>((Sum.inl x:Key),g x)) ++ [(Sum.inl y,v)]:=by
 unfold putK
 rw [if_neg]
 intro z
 rw [List.any_eq_true] at z
 obtain ⟨kv,h1,h2⟩:=z
 obtain ⟨x,hx,rfl⟩:=List.mem_map.mp h1
 have:(Sum.inl x:Key)=Sum.inl y:=of_decide_eq_true h2
 cases this
 exact h hx
theorem put_old {g:Int→V} {y:Int} {v:V} {ks:List Int} (h:y∈ks):putK (ks.map fun x=>((Sum.inl x:Key),g x)) (Sum.inl y) v=ks.map fun x=>((Sum.inl x:Key),if x=y then v else g x):=by
 unfold putK
 rw [if_pos]
 ·rw [List.map_map]
  apply List.map_congr_left
  intro x hx
  show (if (Sum.inl x:Key)=Sum.inl y then ((Sum.inl x:Key),v) else (Sum.inl x,g x))=_
  by_cases c:x=y
  ·subst c; simp
  ·rw [if_neg (fun z=>by cases z; exact c rfl),if_neg c]
 ·rw [List.any_eq_true]
  exact ⟨_,List.mem_map.mpr ⟨y,h,rfl⟩,by simp⟩
theorem map_at {α:Type} {f:α→V} {l:List α} {i:Nat} {x:α} (h:l[i]?=some x):atI (l.map f) (i:Int)=some (f x):=atI_nat (by rw [List.getElem?_map,h]; rfl)
theorem upd_none {H:Hp} {p q:Addr} {o:HO} (h:upd H p o q=none):q≠p∧H q=none:=by
 by_cases c:q=p
 ·subst c; rw [upd_same] at h; cases h
 ·rw [upd_ne c] at h; exact ⟨c,h⟩
end KT
set_option maxHeartbeats 4000000
namespace KT
open PySem L2
noncomputable def after (p:Int):Int:=if p % 3=2 then p - 2 else p + 1
noncomputable def before (p:Int):Int:=if p % 3=0 then p + 2 else p - 1
noncomputable def fourL (left:Bool) (a b:Nat):List Int:=if left then [after a,before b,after b,before a] else [after a,before a,after b,before b]
noncomputable def mvI (left:Bool) (a b:Nat) (z:Int):Int :=
 if z=after a then (if left then before b else before a) else if z=before b then (if left then after b else after a) else if z=after b then (if left then before a else before b) else if z=before a then (if left then after a else after b) else z
noncomputable def glV (left:Bool) (a b:Nat):List (Key × V):=(fourL left a b).map fun x=>((Sum.inl x:Key),V.int (mvI left a b x))
theorem after_div (p:Nat):after p / 3=(p:Int) / 3∧after p≠p∧0≤after p:=by unfold after; split <;> omega
theorem before_div (p:Nat):before p / 3=(p:Int) / 3∧before p≠p∧0≤before p:=by unfold before; split <;> omega
theorem after_before (p:Nat):after p≠before p:=by unfold after before; split <;> split <;> omega
theorem four_apart {a b:Nat} (h:a / 3≠b / 3):after a≠before a∧after a≠after b∧after a≠before b∧before a≠after b∧before a≠before b∧after b≠before b:=by
 obtain ⟨h1,_,_⟩:=after_div a
 obtain ⟨h2,_,_⟩:=before_div a
 obtain ⟨h3,_,_⟩:=after_div b
 obtain ⟨h4,_,_⟩:=before_div b
 have e:¬ (a:Int) / 3=(b:Int) / 3:=by omega
 refine ⟨after_before a,fun z=>e ?_,fun z=>e ?_,fun z=>e ?_,fun z=>e ?_,after_before b⟩
 ·rw [← h1,← h3,z]
 ·rw [← h1,← h4,z]
 ·rw [← h2,← h3,z]
 ·rw [← h2,← h4,z]
theorem mergeK_app:∀ (kvs acc:List (Key × V)),((acc ++ kvs).map (·.1)).Nodup→mergeK acc kvs=acc ++ kvs
 | [],acc,_=>by simp [mergeK]
 | kv :: r,acc,h=>by
  have h1:(acc.any fun x=>decide (x.1=kv.1))=false:=by
   rw [List.any_eq_false]
   intro x hx z
   have z:x.1=kv.1:=of_decide_eq_true z
   rw [List.map_append,List.map_cons] at h
   have:=(List.nodup_append.mp h).2.2 x.1 (List.mem_map.mpr ⟨x,hx,rfl⟩) kv.1 List.mem_cons_self
   exact this z
  have h2:putK acc kv.1 kv.2=acc ++ [kv]:=by
   unfold putK
   rw [if_neg (by rw [h1]; decide)]
  show mergeK (putK acc kv.1 kv.2) r=_
  rw [h2,mergeK_app r (acc ++ [kv]) (by simpa using h)]
  simp
theorem merge_gl {left:Bool} {a b:Nat} (h:a / 3≠b / 3):mergeK [] (glV left a b)=glV left a b:=by
 obtain ⟨h1,h2,h3,h4,h5,h6⟩:=four_apart h
 refine mergeK_app (glV left a b) [] ?_
 unfold glV fourL
 rw [List.nil_append,List.map_map]
 cases left <;> simp [h1,h2,h3,h4,h5,h6,Ne.symm h1,Ne.symm h2,Ne.symm h3,Ne.symm h4,Ne.symm h5,Ne.symm h6]
theorem glV_left {a b:Nat} (h:a / 3≠b / 3):glV true a b=[(Sum.inl (after a),.int (before b)),(Sum.inl (before b),.int (after b)),(Sum.inl (after b),.int (before a)),(Sum.inl (before a),.int (after a))]:=by
 obtain ⟨h1,h2,h3,h4,h5,h6⟩:=four_apart h
 unfold glV fourL mvI
 simp [h1,h2,h3,h4,h5,h6,Ne.symm h1,Ne.symm h2,Ne.symm h3,Ne.symm h4,Ne.symm h5,Ne.symm h6]
theorem glV_right {a b:Nat} (h:a / 3≠b / 3):glV false a b=[(Sum.inl (after a),.int (before a)),(Sum.inl (before a),.int (after b)),(Sum.inl (after b),.int (before b)),(Sum.inl (before b),.int (after a))]:=by
 obtain ⟨h1,h2,h3,h4,h5,h6⟩:=four_apart h
 unfold glV fourL mvI
 simp [h1,h2,h3,h4,h5,h6,Ne.symm h1,Ne.symm h2,Ne.symm h3,Ne.symm h4,Ne.symm h5,Ne.symm h6]
theorem val_gl {left:Bool} {a b:Nat} {z:Int}:(valV (glV left a b) (Sum.inl z)).getD (V.int z)=V.int (mvI left a b z):=by
 unfold glV
 rw [val_map]
 by_cases c:z∈fourL left a b
 ·rw [if_pos c]; rfl
 ·rw [if_neg c]
  have:mvI left a b z=z:=by
   unfold mvI
   have n1:¬ z=after a:=fun e=>c (by unfold fourL; split <;> simp [e])
   have n2:¬ z=before b:=fun e=>c (by unfold fourL; split <;> simp [e])
   have n3:¬ z=after b:=fun e=>c (by unfold fourL; split <;> simp [e])
   have n4:¬ z=before a:=fun e=>c (by unfold fourL; split <;> simp [e])
   rw [if_neg n1,if_neg n2,if_neg n3,if_neg n4]
  rw [this]
  rfl
end KT
set_option maxHeartbeats 4000000
namespace KT
open PySem L2
theorem mv_cases (left:Bool) (i j:Nat) (z:Int):mvI left i j z=z∨mvI left i j z=after i∨mvI left i j z=before i∨mvI left i j z=after j∨mvI left i j z=before j:=by
 unfold mvI
 by_cases c1:z=after i
 ·cases left <;> simp [c1]
 ·by_cases c2:z=before j
  ·rw [if_neg c1,if_pos c2]; cases left <;> simp
  ·by_cases c3:z=after j
   ·rw [if_neg c1,if_neg c2,if_pos c3]; cases left <;> simp
   ·by_cases c4:z=before i
    ·rw [if_neg c1,if_neg c2,if_neg c3,if_pos c4]; cases left <;> simp
    ·rw [if_neg c1,if_neg c2,if_neg c3,if_neg c4]; exact .inl rfl
noncomputable def mvN (left:Bool) (i j z:Nat):Nat:=(mvI left i j z).toNat
theorem mv_nonneg (left:Bool) (i j z:Nat):0≤mvI left i j z:=by
 have h1:=(after_div i).2.2
 have h2:=(before_div i).2.2
 have h3:=(after_div j).2.2
 have h4:=(before_div j).2.2
 rcases mv_cases left i j z with e | e | e | e | e <;> rw [e] <;> omega
theorem mvN_eq (left:Bool) (i j z:Nat):((mvN left i j z:Nat):Int)=mvI left i j z:=Int.toNat_of_nonneg (mv_nonneg left i j z)
theorem mvI_inv {i j:Nat} (h:i / 3≠j / 3) (left:Bool) (z:Int):mvI (!left) i j (mvI left i j z)=z:=by
 obtain ⟨h1,h2,h3,h4,h5,h6⟩:=four_apart h
 by_cases c1:z=after i
 ·subst c1; cases left <;> simp [mvI,h1,h2,h3,h4,h5,h6,Ne.symm h1,Ne.symm h2,Ne.symm h3,Ne.symm h4,Ne.symm h5,Ne.symm h6]
 ·by_cases c2:z=before j
  ·subst c2; cases left <;> simp [mvI,h1,h2,h3,h4,h5,h6,Ne.symm h1,Ne.symm h2,Ne.symm h3,Ne.symm h4,Ne.symm h5,Ne.symm h6]
  ·by_cases c3:z=after j
   ·subst c3; cases left <;> simp [mvI,h1,h2,h3,h4,h5,h6,Ne.symm h1,Ne.symm h2,Ne.symm h3,Ne.symm h4,Ne.symm h5,Ne.symm h6]
   ·by_cases c4:z=before i
    ·subst c4; cases left <;> simp [mvI,h1,h2,h3,h4,h5,h6,Ne.symm h1,Ne.symm h2,Ne.symm h3,Ne.symm h4,Ne.symm h5,Ne.symm h6]
    ·cases left <;> simp [mvI,c1,c2,c3,c4]
theorem mvN_inv {i j:Nat} (h:i / 3≠j / 3) (left:Bool) (z:Nat):mvN (!left) i j (mvN left i j z)=z:=by
 have:=mvI_inv h left z
 rw [← mvN_eq left,← mvN_eq] at this
 omega
theorem mvN_inv' {i j:Nat} (h:i / 3≠j / 3) (left:Bool) (z:Nat):mvN left i j (mvN (!left) i j z)=z:=by
 have:=mvN_inv h (!left) z
 rw [Bool.not_not] at this
 exact this
theorem cl_nat {p:Int} {q a:Nat} (e:(q:Int)=p) (h:p / 3=(a:Int) / 3):q / 3=a / 3:=by omega
theorem cl_lt {p:Int} {q i n:Nat} (e:(q:Int)=p) (h:p / 3=(i:Int) / 3) (hi:i < 3 * n):q < 3 * n:=by omega
theorem cl_in {p:Int} {i n:Nat} (h0:0≤p) (h:p / 3=(i:Int) / 3) (hi:i < 3 * n):0≤p∧p < 3 * (n:Int):=⟨h0,by omega⟩
theorem mvN_lt {i j n:Nat} (hi:i < 3 * n) (hj:j < 3 * n) (left:Bool) {z:Nat} (hz:z < 3 * n):mvN left i j z < 3 * n:=by
 have e:=mvN_eq left i j z
 rcases mv_cases left i j z with q | q | q | q | q <;> rw [q] at e
 ·exact cl_lt e rfl hz
 ·exact cl_lt e (after_div i).1 hi
 ·exact cl_lt e (before_div i).1 hi
 ·exact cl_lt e (after_div j).1 hj
 ·exact cl_lt e (before_div j).1 hj
theorem mvN_inj {i j:Nat} (h:i / 3≠j / 3) (left:Bool) {y z:Nat} (e:mvN left i j y=mvN left i j z):y=z:=by
 have:=congrArg (mvN (!left) i j) e
 rw [mvN_inv h,mvN_inv h] at this
 exact this
noncomputable def exN (left:Bool) (i j:Nat) (ns:List Int):List Int:=(List.range ns.length).map fun z=>ns.getD (mvN (!left) i j z) 0
noncomputable def exM (left:Bool) (i j:Nat) (M:List (Option Nat)):List (Option Nat):=(List.range M.length).map fun z=>(M.getD (mvN (!left) i j z) none).map (mvN left i j)
theorem exN_len (left:Bool) (i j:Nat) (ns:List Int):(exN left i j ns).length=ns.length:=by unfold exN; simp
theorem exM_len (left:Bool) (i j:Nat) (M:List (Option Nat)):(exM left i j M).length=M.length:=by unfold exM; simp
section
variable {M:List (Option Nat)} {ns:List Int} {i j:Nat}
theorem exN_get (td:TD M ns) (hi:i < M.length) (hj:j < M.length) (h:i / 3≠j / 3) (left:Bool) {z:Nat}:z < M.length→(exN left i j ns)[z]?=ns[mvN (!left) i j z]?:=by
 intro hz
 obtain ⟨n,_,_,hn⟩:=td.n
 rw [hn] at hi hj hz
 have hz':=mvN_lt hi hj (!left) hz
 have l1:z < ns.length:=by rw [td.len,hn]; exact hz
 have l2:mvN (!left) i j z < ns.length:=by rw [td.len,hn]; exact hz'
 unfold exN
 rw [List.getElem?_map,List.getElem?_range l1]
 show some (ns.getD _ 0)=_
 rw [List.getD_eq_getElem?_getD,List.getElem?_eq_getElem l2]
 rfl
theorem exM_get (td:TD M ns) (hi:i < M.length) (hj:j < M.length) (h:i / 3≠j / 3) (left:Bool) {z:Nat}:z < M.length→(exM left i j M)[z]?=(M[mvN (!left) i j z]?).map (Option.map (mvN left i j)):=by
 intro hz
 obtain ⟨n,_,_,hn⟩:=td.n
 have hz0:=hz
 rw [hn] at hi hj hz
 have hz':=mvN_lt hi hj (!left) hz
 have l2:mvN (!left) i j z < M.length:=by rw [hn]; exact hz'
 unfold exM
 rw [List.getElem?_map,List.getElem?_range hz0]
 show some ((M.getD _ none).map _)=_
 rw [List.getD_eq_getElem?_getD,List.getElem?_eq_getElem l2]
 rfl
theorem TD.ex (td:TD M ns) (hi:i < M.length) (hj:j < M.length) (h:i / 3≠j / 3) (left:Bool):TD (exM left i j M) (exN left i j ns) where
 n:=by obtain ⟨n,a,b,c⟩:=td.n; exact ⟨n,a,b,by rw [exM_len]; exact c⟩
 len:=by rw [exN_len,exM_len]; exact td.len
 inv:=fun p q e=>by
  have hp:p < M.length:=by have:=(List.getElem?_eq_some_iff.mp e).1; rw [exM_len] at this; exact this
  rw [exM_get td hi hj h left hp] at e
  cases e1:M[mvN (!left) i j p]? with
  | none=>rw [e1] at e; cases e
  | some o =>
   cases o with
   | none=>rw [e1] at e; cases e
   | some b =>
    rw [e1] at e
    have e2:mvN left i j b=q:=by have:=Option.some.inj e; exact Option.some.inj this
    obtain ⟨i1,i2⟩:=td.inv _ _ e1
    have hb:b < M.length:=(List.getElem?_eq_some_iff.mp i1).1
    obtain ⟨n,_,_,hn⟩:=td.n
    have hq:q < M.length:=by rw [← e2,hn]; rw [hn] at hi hj hb; exact mvN_lt hi hj left hb
    have eb:mvN (!left) i j q=b:=by rw [← e2,mvN_inv h]
    refine ⟨?_,fun z=>i2 ?_⟩
    ·rw [exM_get td hi hj h left hq,eb,i1]
     show some (some (mvN left i j (mvN (!left) i j p)))=_
     rw [mvN_inv' h]
    ·rw [z,eb]
 rng:=fun p x e=>by
  have hp:p < M.length:=by have:=(List.getElem?_eq_some_iff.mp e).1; rw [exN_len,td.len] at this; exact this
  rw [exN_get td hi hj h left hp] at e
  exact td.rng _ x e
 eqv:=fun p q x e1 e2=>by
  have hp:p < M.length:=by have:=(List.getElem?_eq_some_iff.mp e1).1; rw [exN_len,td.len] at this; exact this
  have hq:q < M.length:=by have:=(List.getElem?_eq_some_iff.mp e2).1; rw [exN_len,td.len] at this; exact this
  rw [exN_get td hi hj h left hp] at e1
  rw [exN_get td hi hj h left hq] at e2
  rcases td.eqv _ _ x e1 e2 with z | z
  ·exact .inl (mvN_inj h (!left) z)
  ·right
   rw [exM_get td hi hj h left hp,z]
   show some (some (mvN left i j (mvN (!left) i j q)))=_
   rw [mvN_inv' h]
 eqm:=fun p q e=>by
  have hp:p < M.length:=by have:=(List.getElem?_eq_some_iff.mp e).1; rw [exM_len] at this; exact this
  have e0:=e
  rw [exM_get td hi hj h left hp] at e
  cases e1:M[mvN (!left) i j p]? with
  | none=>rw [e1] at e; cases e
  | some o =>
   cases o with
   | none=>rw [e1] at e; cases e
   | some b =>
    rw [e1] at e
    have e2:mvN left i j b=q:=by have:=Option.some.inj e; exact Option.some.inj this
    obtain ⟨i1,i2⟩:=td.inv _ _ e1
    have hb:b < M.length:=(List.getElem?_eq_some_iff.mp i1).1
    obtain ⟨n,_,_,hn⟩:=td.n
    have hq:q < M.length:=by rw [← e2,hn]; rw [hn] at hi hj hb; exact mvN_lt hi hj left hb
    have eb:mvN (!left) i j q=b:=by rw [← e2,mvN_inv h]
    rw [exN_get td hi hj h left hp,exN_get td hi hj h left hq,eb]
    exact td.eqm _ _ e1
end
noncomputable def nst (left:Bool) (i j:Nat) (ns:List Int) (k:Nat):List Int:=(List.range ns.length).map fun z=>if ((mvN (!left) i j z:Nat):Int)∈(fourL left i j).take k then ns.getD (mvN (!left) i j z) 0 else ns.getD z 0
theorem nst_zero (left:Bool) (i j:Nat) (ns:List Int):nst left i j ns 0=ns:=by
 apply List.ext_getElem?
 intro z
 unfold nst
 rw [List.getElem?_map]
 by_cases hz:z < ns.length
 ·rw [List.getElem?_range hz,List.take_zero]
  simp [hz]
 ·rw [List.getElem?_eq_none (by simpa using hz),List.getElem?_eq_none (by omega)]
  rfl
theorem mv_other {i j:Nat} {left:Bool} {z:Int} (h:z ∉ fourL left i j) (l2:Bool):mvI l2 i j z=z:=by
 have n1:¬ z=after i:=fun e=>h (by unfold fourL; split <;> simp [e])
 have n2:¬ z=before j:=fun e=>h (by unfold fourL; split <;> simp [e])
 have n3:¬ z=after j:=fun e=>h (by unfold fourL; split <;> simp [e])
 have n4:¬ z=before i:=fun e=>h (by unfold fourL; split <;> simp [e])
 unfold mvI
 rw [if_neg n1,if_neg n2,if_neg n3,if_neg n4]
theorem four_len (left:Bool) (i j:Nat):(fourL left i j).length=4:=by unfold fourL; split <;> rfl
theorem nst_all {i j:Nat} (h:i / 3≠j / 3) (left:Bool) (ns:List Int):nst left i j ns 4=exN left i j ns:=by
 unfold nst exN
 apply List.map_congr_left
 intro z _
 by_cases c:((mvN (!left) i j z:Nat):Int)∈(fourL left i j).take 4
 ·rw [if_pos c]
 ·rw [if_neg c]
  rw [List.take_of_length_le (Nat.le_of_eq (four_len left i j))] at c
  have e1:=mv_other c left
  rw [mvN_eq,] at e1
  have e2:=mvI_inv h (!left) (z:Int)
  rw [Bool.not_not] at e2
  rw [e2] at e1
  have:mvN (!left) i j z=z:=by have:=mvN_eq (!left) i j z; omega
  rw [this]
theorem nst_step {i j:Nat} (h:i / 3≠j / 3) {left:Bool} {ns:List Int} {k p:Nat} (hk:(fourL left i j)[k]?=some (p:Int)) (hq:mvN left i j p < ns.length) :
  (nst left i j ns k).set (mvN left i j p) (ns.getD p 0)=nst left i j ns (k + 1):=by
 apply List.ext_getElem?
 intro z
 unfold nst
 by_cases c:z=mvN left i j p
 ·subst c
  rw [List.getElem?_set_self (by simpa using hq),List.getElem?_map,List.getElem?_range hq]
  have e:mvN (!left) i j (mvN left i j p)=p:=mvN_inv h left p
  have:((mvN (!left) i j (mvN left i j p):Nat):Int)∈(fourL left i j).take (k + 1):=by rw [e,List.take_add_one,hk]; simp
  simp only [Option.map_some,this,if_true]
  rw [e]
 ·rw [List.getElem?_set_ne (Ne.symm c),List.getElem?_map,List.getElem?_map]
  by_cases d:z < ns.length
  ·rw [List.getElem?_range d]
   have ne:¬ ((mvN (!left) i j z:Nat):Int)=(p:Int):=fun e=>c (by
    have e:mvN (!left) i j z=p:=by omega
    rw [← e,mvN_inv' h])
   have:((mvN (!left) i j z:Nat):Int)∈(fourL left i j).take (k + 1) ↔ ((mvN (!left) i j z:Nat):Int)∈(fourL left i j).take k:=by
    rw [List.take_add_one,hk]
    simp [ne]
   simp only [Option.map_some,this]
  ·rw [List.getElem?_eq_none (by simpa using d)]
   rfl
theorem four_in {left:Bool} {i j n k:Nat} {p:Int} (hi:i < 3 * n) (hj:j < 3 * n) (hk:(fourL left i j)[k]?=some p):0≤p∧p < 3 * (n:Int):=by
 have hm:p∈fourL left i j:=List.mem_of_getElem? hk
 obtain ⟨a1,_,a3⟩:=after_div i
 obtain ⟨b1,_,b3⟩:=before_div i
 obtain ⟨c1,_,c3⟩:=after_div j
 obtain ⟨d1,_,d3⟩:=before_div j
 have hm:p=after i∨p=before i∨p=after j∨p=before j:=by
  unfold fourL at hm
  split at hm <;> simp at hm <;> rcases hm with e | e | e | e <;> simp [e]
 rcases hm with e | e | e | e <;> rw [e]
 ·exact cl_in a3 a1 hi
 ·exact cl_in b3 b1 hi
 ·exact cl_in c3 c1 hj
 ·exact cl_in d3 d1 hj
noncomputable def mfil {α:Type} (left:Bool) (i j n:Nat) (f:Nat→α) (d:α) (k:Nat):List α:=(List.range n).map fun z=>if mvN (!left) i j z < k then f z else d
theorem mfil_zero {α:Type} (left:Bool) (i j n:Nat) (f:Nat→α) (d:α):mfil left i j n f d 0=List.replicate n d:=by
 unfold mfil
 apply List.ext_getElem?
 intro z
 rw [List.getElem?_map,List.getElem?_replicate]
 by_cases h:z < n
 ·rw [List.getElem?_range h,if_pos h]; simp
 ·rw [List.getElem?_eq_none (by simpa using h),if_neg h]; rfl
theorem mfil_len {α:Type} (left:Bool) (i j n:Nat) (f:Nat→α) (d:α) (k:Nat):(mfil left i j n f d k).length=n:=by unfold mfil; simp
theorem mfil_step {α:Type} {left:Bool} {i j n:Nat} {f:Nat→α} {d:α} {k:Nat} (h:i / 3≠j / 3) (hk:mvN left i j k < n):(mfil left i j n f d k).set (mvN left i j k) (f (mvN left i j k))=mfil left i j n f d (k + 1):=by
 apply List.ext_getElem?
 intro z
 unfold mfil
 by_cases c:z=mvN left i j k
 ·subst c
  rw [List.getElem?_set_self (by simpa using hk),List.getElem?_map,List.getElem?_range hk]
  have e:mvN (!left) i j (mvN left i j k)=k:=mvN_inv h left k
  simp only [Option.map_some]
  rw [e,if_pos (by omega)]
 ·rw [List.getElem?_set_ne (Ne.symm c),List.getElem?_map,List.getElem?_map]
  by_cases d:z < n
  ·rw [List.getElem?_range d]
   have ne:mvN (!left) i j z≠k:=fun e=>c (by rw [← e,mvN_inv' h])
   have:mvN (!left) i j z < k + 1 ↔ mvN (!left) i j z < k:=by omega
   simp only [Option.map_some,this]
  ·rw [List.getElem?_eq_none (by simpa using d)]
   rfl
theorem mfil_skip {α:Type} {left:Bool} {i j n:Nat} {f:Nat→α} {d:α} {k:Nat} (h:i / 3≠j / 3) (hd:f (mvN left i j k)=d):mfil left i j n f d k=mfil left i j n f d (k + 1):=by
 unfold mfil
 apply List.map_congr_left
 intro z _
 by_cases c:mvN (!left) i j z=k
 ·have:z=mvN left i j k:=by rw [← c,mvN_inv' h]
  subst this
  rw [if_neg (by omega),if_pos (by omega),hd]
 ·have:mvN (!left) i j z < k + 1 ↔ mvN (!left) i j z < k:=by omega
  simp only [this]
theorem mfil_all {α:Type} {left:Bool} {i j m:Nat} {f:Nat→α} {d:α} (hi:i < 3 * m) (hj:j < 3 * m):mfil left i j (3 * m) f d (3 * m)=(List.range (3 * m)).map f:=by
 unfold mfil
 apply List.map_congr_left
 intro z hz
 rw [if_pos (mvN_lt hi hj _ (List.mem_range.mp hz))]
end KT
set_option maxHeartbeats 4000000
namespace KT
open PySem L2
noncomputable def side (p k:Nat):Nat:=p - p % 3 + (p + k) % 3
theorem side_lt {p k n:Nat} (h:p < 3 * n):side p k < 3 * n:=by unfold side; omega
theorem side_div (p k:Nat):side p k / 3=p / 3:=by unfold side; omega
end KT
set_option maxHeartbeats 4000000
namespace KT
open PySem L2
noncomputable def crossB (M:List (Option Nat)) (p:Int):Bool:=decide (0≤p∧p < M.length) && (M.getD p.toNat none).isSome
noncomputable def followB (M:List (Option Nat)) (a p:Int):Bool:=match M.getD a.toNat none with
 | some m=>decide (p / 3=(m:Int) / 3) && !decide (p=(m:Int))
 | none=>false
noncomputable def rot {α:Type} (ws:List α) (s:Nat):List α:=ws.drop s ++ ws.take s
noncomputable def pairB (M:List (Option Nat)) (ws vs:List Int):List Bool:=(ws.zip vs).map fun p=>followB M p.1 p.2
noncomputable def plainB (M:List (Option Nat)) (ws:List Int):Bool:=!ws.isEmpty && ((ws.map (crossB M)).all id && (pairB M ws (rot ws (1 % ws.length))).all id)
theorem rot_len {α:Type} (ws:List α) {s:Nat} (h:s≤ws.length):(rot ws s).length=ws.length:=by
 unfold rot
 rw [List.length_append,List.length_drop,List.length_take]
 omega
theorem rot_get {α:Type} {ws:List α} {s k:Nat} (hs:s < ws.length) (hk:k < ws.length):(rot ws s)[k]?=ws[(k + s) % ws.length]?:=by
 unfold rot
 by_cases c:k < ws.length - s
 ·rw [List.getElem?_append_left (by rw [List.length_drop]; exact c),List.getElem?_drop,Nat.mod_eq_of_lt (by omega),Nat.add_comm]
 ·rw [List.getElem?_append_right (by rw [List.length_drop]; omega),List.length_drop,List.getElem?_take_of_lt (by omega)]
  have:(k + s) % ws.length=k - (ws.length - s):=by
   rw [show k + s=(k - (ws.length - s)) + ws.length by omega,Nat.add_mod_right,Nat.mod_eq_of_lt (by omega)]
  rw [this]
structure Pl (M:List (Option Nat)) (ws:List Nat):Prop where
 ne:ws≠[]
 has:∀ p∈ws,∃ m,M[p]?=some (some m)
 nxt:∀ (k:Nat) (a p:Nat),ws[k]?=some a→ws[(k + 1) % ws.length]?=some p→∀ m,M[a]?=some (some m)→p / 3=m / 3∧p≠m
noncomputable abbrev wI (ws:List Nat):List Int:=ws.map fun (x:Nat)=>(x:Int)
theorem cross_nat {M:List (Option Nat)} {p:Nat}:crossB M (p:Int)=true ↔ ∃ m,M[p]?=some (some m):=by
 unfold crossB
 rw [Bool.and_eq_true,decide_eq_true_eq,Int.toNat_natCast]
 constructor
 ·rintro ⟨⟨_,h1⟩,h2⟩
  have h1:p < M.length:=by omega
  rw [List.getD_eq_getElem?_getD,List.getElem?_eq_getElem h1] at h2
  obtain ⟨m,hm⟩:=Option.isSome_iff_exists.mp h2
  exact ⟨m,by rw [List.getElem?_eq_getElem h1]; exact congrArg some hm⟩
 ·rintro ⟨m,hm⟩
  have h1:p < M.length:=(List.getElem?_eq_some_iff.mp hm).1
  exact ⟨⟨by omega,by omega⟩,by rw [List.getD_eq_getElem?_getD,hm]; rfl⟩
theorem follow_nat {M:List (Option Nat)} {a p m:Nat} (h:M[a]?=some (some m)):followB M (a:Int) (p:Int)=true ↔ p / 3=m / 3∧p≠m:=by
 unfold followB
 rw [Int.toNat_natCast,List.getD_eq_getElem?_getD,h]
 show (decide ((p:Int) / 3=(m:Int) / 3) && !decide ((p:Int)=(m:Int)))=true ↔ _
 rw [Bool.and_eq_true,decide_eq_true_eq,Bool.not_eq_true',decide_eq_false_iff_not]
 omega
theorem zip_all {M:List (Option Nat)} {ws vs:List Int} (hl:ws.length=vs.length):(pairB M ws vs).all id=true ↔ ∀ (k:Nat) (a p:Int),ws[k]?=some a→vs[k]?=some p→followB M a p=true:=by
 unfold pairB
 rw [List.all_eq_true]
 constructor
 ·intro h k a p ha hp
  refine h (followB M a p) (List.mem_map.mpr ⟨(a,p),?_,rfl⟩)
  exact List.mem_of_getElem? (i:=k) (by rw [List.getElem?_zip_eq_some]; exact ⟨ha,hp⟩)
 ·intro h b hb
  obtain ⟨⟨a,p⟩,hm,rfl⟩:=List.mem_map.mp hb
  obtain ⟨k,hk⟩:=List.getElem?_of_mem hm
  rw [List.getElem?_zip_eq_some] at hk
  exact h k a p hk.1 hk.2
theorem plain_iff {M:List (Option Nat)} {ws:List Nat}:plainB M (wI ws)=true ↔ Pl M ws:=by
 have hl:(wI ws).length=ws.length:=by simp
 unfold plainB
 rw [Bool.and_eq_true,Bool.and_eq_true,Bool.not_eq_true',hl]
 constructor
 ·rintro ⟨h0,h1,h2⟩
  have hne:ws≠[]:=by
   rintro rfl
   cases h0
  have hpos:0 < ws.length:=by cases ws with | nil=>exact absurd rfl hne | cons _ _=>simp
  have hh:∀ p∈ws,∃ m,M[p]?=some (some m):=fun p hp=>by
   refine cross_nat.mp (List.all_eq_true.mp h1 _ (List.mem_map.mpr ⟨(p:Int),List.mem_map.mpr ⟨p,hp,rfl⟩,rfl⟩))
  refine ⟨hne,hh,fun k a p ha hp m hm=>?_⟩
  have hs:1 % ws.length < (wI ws).length:=by rw [hl]; exact Nat.mod_lt _ hpos
  have hk:k < (wI ws).length:=by rw [hl]; exact (List.getElem?_eq_some_iff.mp ha).1
  refine (follow_nat hm).mp ((zip_all (by rw [rot_len _ (Nat.le_of_lt hs)])).mp h2 k a p (by rw [List.getElem?_map,ha]; rfl) ?_)
  rw [rot_get hs hk,hl,show (k + 1 % ws.length) % ws.length=(k + 1) % ws.length by rw [Nat.add_mod_mod],List.getElem?_map,hp]
  rfl
 ·rintro ⟨h0,h1,h2⟩
  have hpos:0 < ws.length:=by cases ws with | nil=>exact absurd rfl h0 | cons _ _=>simp
  have hs:1 % ws.length < (wI ws).length:=by rw [hl]; exact Nat.mod_lt _ hpos
  refine ⟨by cases ws with | nil=>exact absurd rfl h0 | cons _ _=>rfl,?_,?_⟩
  ·rw [List.all_eq_true]
   intro b hb
   obtain ⟨p',hp',rfl⟩:=List.mem_map.mp hb
   obtain ⟨p,hp,rfl⟩:=List.mem_map.mp hp'
   exact cross_nat.mpr (h1 p hp)
  ·refine (zip_all (by rw [rot_len _ (Nat.le_of_lt hs)])).mpr fun k a p ha hp=>?_
   have hk:k < (wI ws).length:=(List.getElem?_eq_some_iff.mp ha).1
   rw [rot_get hs hk,hl,show (k + 1 % ws.length) % ws.length=(k + 1) % ws.length by rw [Nat.add_mod_mod]] at hp
   rw [List.getElem?_map] at ha hp
   cases ea:ws[k]? with
   | none=>rw [ea] at ha; cases ha
   | some a' =>
    cases ep:ws[(k + 1) % ws.length]? with
    | none=>rw [ep] at hp; cases hp
    | some p' =>
     rw [ea] at ha; cases ha
     rw [ep] at hp; cases hp
     obtain ⟨m,hm⟩:=h1 a' (List.mem_of_getElem? ea)
     exact (follow_nat hm).mpr (h2 k a' p' ea ep m hm)
structure Ch (M:List (Option Nat)) (row:List Nat):Prop where
 has:∀ p∈row,∃ m,M[p]?=some (some m)
 nxt:∀ (k:Nat) (a p m:Nat),row[k]?=some a→row[k + 1]?=some p→M[a]?=some (some m)→p / 3=m / 3∧p≠m
theorem Ch.one {M:List (Option Nat)} {p m:Nat} (h:M[p]?=some (some m)):Ch M [p]:=by
 refine ⟨fun q hq=>?_,fun k a q m' _ hq=>?_⟩
 ·rw [List.mem_singleton] at hq; subst hq; exact ⟨m,h⟩
 ·simp at hq
theorem Ch.snoc {M:List (Option Nat)} {row:List Nat} {a p m:Nat} (h:Ch M row) (hl:row.getLast?=some a) (hm:M[a]?=some (some m)) (h1:p / 3=m / 3) (h2:p≠m) (hp:∃ q,M[p]?=some (some q)):Ch M (row ++ [p]):=by
 refine ⟨fun q hq=>?_,fun k b q m' hb hq hm'=>?_⟩
 ·rcases List.mem_append.mp hq with z | z
  ·exact h.has q z
  ·rw [List.mem_singleton] at z; subst z; exact hp
 ·by_cases c:k + 1 < row.length
  ·rw [List.getElem?_append_left c] at hq
   rw [List.getElem?_append_left (by omega)] at hb
   exact h.nxt k b q m' hb hq hm'
  ·have hk:k + 1 < (row ++ [p]).length:=(List.getElem?_eq_some_iff.mp hq).1
   rw [List.length_append,List.length_singleton] at hk
   have hk:k + 1=row.length:=by omega
   rw [List.getElem?_append_right (by omega),hk] at hq
   have:q=p:=by simpa using hq.symm
   subst this
   rw [List.getElem?_append_left (by omega)] at hb
   rw [List.getLast?_eq_getElem?,show row.length - 1=k by omega,hb] at hl
   cases hl
   rw [hm] at hm'
   cases hm'
   exact ⟨h1,h2⟩
theorem Ch.cut {M:List (Option Nat)} {row:List Nat} {s e a:Nat} (h:Ch M row) (hse:s < e) (h1:row[s]?=some a) (h2:row[e]?=some a):Pl M ((row.drop s).take (e - s)):=by
 have he:e < row.length:=(List.getElem?_eq_some_iff.mp h2).1
 have hl:((row.drop s).take (e - s)).length=e - s:=by rw [List.length_take,List.length_drop]; omega
 have gt:∀ k,k < e - s→((row.drop s).take (e - s))[k]?=row[s + k]?:=fun k hk=>by rw [List.getElem?_take_of_lt hk,List.getElem?_drop]
 refine ⟨fun z=>by rw [z] at hl; simp at hl; omega,fun p hp=>?_,fun k b p hb hp m hm=>?_⟩
 ·exact h.has p (List.mem_of_mem_drop (List.mem_of_mem_take hp))
 ·rw [hl] at hp
  have hk:k < e - s:=by have:=(List.getElem?_eq_some_iff.mp hb).1; rw [hl] at this; exact this
  rw [gt k hk] at hb
  by_cases c:k + 1 < e - s
  ·rw [Nat.mod_eq_of_lt c,gt _ c] at hp
   exact h.nxt (s + k) b p m hb (by rw [show s + k + 1=s + (k + 1) by omega]; exact hp) hm
  ·have hk:k + 1=e - s:=by omega
   rw [hk,Nat.mod_self,gt 0 (by omega),Nat.add_zero,h1] at hp
   cases hp
   exact h.nxt (s + k) b a m hb (by rw [show s + k + 1=e by omega]; exact h2) hm
end KT
set_option maxHeartbeats 4000000
namespace KT
open PySem L2
end KT
set_option maxHeartbeats 4000000
namespace L2
open PySem PySem.Spec PyProof.Rows
end L2
set_option maxHeartbeats 4000000
namespace L2
open PySem PySem.Spec PyProof.Rows
section
variable {X:Cx}
noncomputable def CDivB (i j:Int):Prop:=0 < j∧j.natAbs.log2 < 9000
theorem op_fdivB:OpR X (binaryOp .FloorDiv) (rI CDivB fun i j=>.int (i / j)):=opI fun i j _ _ _ _ _ hc q=>by
 have h1:(0:Int) < j:=hc.1
 exact floordiv_int (by omega) (by rw [Int.fdiv_eq_ediv_of_nonneg i (by omega)]; exact q) (.inl (PyProof.noPylong_of_log2 hc.2))
theorem op_mulB:OpR X (binaryOp .Mult) (rI IntMulOk fun i j=>.int (i * j)):=opI fun _ _ _ _ _ _ _ hc q=>mul_int q hc
theorem log2_lt {j:Int} {k:Nat} (h:j.natAbs < 2 ^ k) (hk:0 < k):j.natAbs.log2 < k:=by
 by_cases e:j.natAbs=0
 ·rw [e]; simpa using hk
 ·exact (Nat.log2_lt e).mpr h
theorem bits_le {j:Int} {k:Nat} (h:j.natAbs < 2 ^ k) (hk:0 < k):Builtin.Int.intBits j≤k:=by
 unfold Builtin.Int.intBits
 have:=log2_lt h hk
 split
 ·omega
 ·omega
noncomputable def rEqT (K:PySem.W.Frag):R2:=fun x y H Q=>∃ a b ns ms,x=.ref a∧y=.ref b∧SqT K H a (List.map V.int ns)∧SqT K H b (List.map V.int ms)∧Q (.bl (decide (ns=ms))) H
theorem op_eqT (hu:X.A.units + 64 < cLine):OpR X (compareOp .Eq) (rEqT X.K):=by
 intro pins s σ H x y v u Q I rx ry h
 obtain ⟨a,b,ns,ms,rfl,rfl,ha,hb,q⟩:=h
 cases rx
 cases ry
 obtain ⟨ia,ra,pa,_⟩:=I.tuple ha
 obtain ⟨ib,rb,pb,_⟩:=I.tuple hb
 have la:ia.length=ns.length:=by rw [← ra.length,List.length_map]
 have lb:ib.length=ms.length:=by rw [← rb.length,List.length_map]
 refine PySem.SeqAt.eq_tupleAt (e:=fun j=>ns.getD j 0 == ms.getD j 0) pa pb (Nat.lt_of_le_of_lt (Nat.le_add_right _ _) hu) ?_ ?_
 ·intro j h1 h2
  have h1':j < ns.length:=by rw [List.size_toArray] at h1; omega
  have h2':j < ms.length:=by rw [List.size_toArray] at h2; omega
  obtain ⟨u1,e1,r1⟩:=ra.get (i:=j) (show (ns.map V.int)[j]?=some (V.int ns[j]) by rw [List.getElem?_map,List.getElem?_eq_getElem h1']; rfl)
  obtain ⟨u2,e2,r2⟩:=rb.get (i:=j) (show (ms.map V.int)[j]?=some (V.int ms[j]) by rw [List.getElem?_map,List.getElem?_eq_getElem h2']; rfl)
  obtain ⟨t1,rfl⟩:=r1
  obtain ⟨t2,rfl⟩:=r2
  have g1:ia.toArray[j]=.int ns[j] t1:=by
   have:=List.getElem?_eq_some_iff.mp e1
   simpa using this.2
  have g2:ib.toArray[j]=.int ms[j] t2:=by
   have:=List.getElem?_eq_some_iff.mp e2
   simpa using this.2
  rw [g1,g2,show ns.getD j 0=ns[j] by rw [List.getD_eq_getElem?_getD,List.getElem?_eq_getElem h1']; rfl,show ms.getD j 0=ms[j] by rw [List.getD_eq_getElem?_getD,List.getElem?_eq_getElem h2']; rfl]
  exact PySem.SeqAt.EqAt.int_int _ _ _ _
 ·refine fin_bl I q ?_
  rw [List.size_toArray,List.size_toArray,la,lb,Bool.eq_iff_iff]
  simp only [decide_eq_true_eq,Bool.and_eq_true,List.all_eq_true,List.mem_range,beq_iff_eq]
  constructor
  ·rintro rfl
   exact ⟨fun _ _=>rfl,rfl⟩
  ·rintro ⟨h1,h2⟩
   apply List.ext_getElem h2
   intro i g1 g2
   have:=h1 i (by omega)
   rw [List.getD_eq_getElem?_getD,List.getD_eq_getElem?_getD,List.getElem?_eq_getElem g1,List.getElem?_eq_getElem g2] at this
   exact this
end
end L2
set_option maxHeartbeats 4000000
namespace HL
open PySem PyProof.Rows HT
end HL
set_option maxHeartbeats 4000000
namespace L2
open PySem PySem.Spec PyProof.Rows
end L2
namespace HT
end HT
set_option maxHeartbeats 4000000
namespace L2
open PySem PySem.Spec PyProof.Rows
end L2
set_option maxHeartbeats 4000000
namespace L2
open PySem PySem.Spec PyProof.Rows
section
variable {X:Cx} {pins:List (Addr × Obj)} {σ:St} {H:Hp} {s:Shared} {a:Addr} {y v:V} {u r:Value} {A:Around} {E:Value→Shared→Prop}
theorem d_set {kvs:List (Key × V)} {k:Key} {Q:Unit→Shared→Prop} (I:Inv X pins σ H s) (e:H a=some (.dK kvs)) (l:kvs.length < sizeLine) (ry:RelV (kV k) u) (rv:RelV v r) (h:∀ s',Inv X pins σ (upd H a (.dK (putK kvs k v))) s'→Q () s') :
  wpAny (model X.prog X.w) A (dictSet a u r) Q E s:=by
 obtain ⟨z,hd,vs,rel,dd⟩:=dk_of I.hok e
 have hz:vs.length≤sizeLine:=by rw [← rel.length]; exact z
 have hl:(putK kvs k v).length≤sizeLine:=by have:=length_putK kvs k v; omega
 refine wpAny_dictSet_pairs (hsz:=hz) (kV_is ry) dd fun h' dd' hs=>h _ ?_
 have he:∃ q,h'.get? a=some q:=let ⟨q,_,_,hq,_⟩:=dd'; ⟨q,hq⟩
 exact d_write I (by rw [e]; exact True.intro) hs he (dk_new hl hd (rel.put k rv) dd')
end
noncomputable def tDEmit (tk tv:TE) (D:Addr):TB:=fun σ H N=>tk σ H fun x H1=>tv σ H1 fun v H2=>∃ kvs k,x=kV k∧H2 D=some (.dK kvs)∧kvs.length < sizeLine∧N σ (upd H2 D (.dK (putK kvs k v)))
section
variable {X:Cx}
theorem pb_demit {kx vx:Expr} {tk tv:TE} {D:Addr} {c:Code} {p:Pos} (hk:PE X kx tk) (hv:PE X vx tv) :
  PB X ((eval kx X.env >>= fun kv=>holding [kv] (eval vx X.env) >>= fun vv=>standAt p >>= fun _=>holding [kv,vv] (dictSet D kv vv)) >>= fun _=>again c) c (tDEmit tk tv D):=by
 intro pins s σ H N I h
 refine wpAny_bind (wpAny_bind (thn (hk pins s σ H _ I h) fun u s1 zz35=>?_))
 obtain ⟨x,H1,I1,r1,q1⟩:=zz35
 refine wpAny_bind (wpAny_holding (thn (hv pins s1 σ H1 _ I1 q1) fun w s2 zz36=>?_))
 obtain ⟨v,H2,I2,r2,q2⟩:=zz36
 refine wpAny_bind (wpAny_standAt (wpAny_holding ?_))
 obtain ⟨kvs,k,rfl,hD,hl,q⟩:=q2
 exact d_set I2 hD hl r1 r2 fun s3 I3=>wpAny_pure ⟨rfl,σ,_,I3,q⟩
end
noncomputable def tDComp (ts:List Str) (fv:List (Str × Nat)) (wi:TI) (g:TG) (tt:TT) (tb:Addr→TB):TE:=fun σ H Q=>wi σ H fun J H1=>∀ D,H1 D=none →
 LoopR J g tt (tb D) (fun _ H'=>Q (.ref D) H') (blkS ts fv σ) (upd H1 D (.dK []))
section
variable {X:Cx} {ts:List Str} {fv:List (Str × Nat)} {scope:Scope} {kx vx t0 i0:Expr} {f0:List Expr} {rest:List Comprehension} {pos:Pos} {wi:TI} {g:TG} {tt:TT} {tb:Addr→TB} {kont:Env→Addr→Addr→Sem Fin}
theorem dcomp_core (B:BlkOk X scope fv) (hc:X.calm=true) (hi:PI X t0 i0 wi)
  (hg:∀ C s₀ H₀ ex,PG (blkCx X (blkN ts fv) scope C s₀ H₀ ex) t0 g) (ht:∀ C s₀ H₀ ex,PTs (blkCx X (blkN ts fv) scope C s₀ H₀ ex) f0 tt)
  (heq:∀ (env:Env) (it D:Addr),compTurn (.DictComp kx vx (⟨t0,i0,f0,0⟩ :: rest) scope pos) 0 (.ref it) (.ref D) env=(standAt i0.pos >>= fun _=>pyNext (.ref it) >>= fun r=>match r with
   | none=>pure (.done .next)
   | some v=>letOwnedTupleGo t0 (.ref it) v >>= fun _=>assign t0 env v >>= fun _ =>
    (forIn f0 true fun c r=>if r=true then do let ok ← isTrue c env (eval c env); pure (ForInStep.yield ok) else pure (ForInStep.yield r)) >>= fun ok =>
     if ok=true then kont env it D else again (.compLoop (.DictComp kx vx (⟨t0,i0,f0,0⟩ :: rest) scope pos) 0 (.ref it) (.ref D) env)))
  (hb:∀ C s₀ H₀ ex it D,PB (blkCx X (blkN ts fv) scope C s₀ H₀ ex) (kont (blkCx X (blkN ts fv) scope C s₀ H₀ ex).env it D) (.compLoop (.DictComp kx vx (⟨t0,i0,f0,0⟩ :: rest) scope pos) 0 (.ref it) (.ref D) (blkCx X (blkN ts fv) scope C s₀ H₀ ex).env) (tb D))
  {pins:List (Addr × Obj)} {s:Shared} {σ:St} {H:Hp} {Q:VK} {RR:Value→Addr→Result→Shared→Prop} (I:Inv X pins σ H s) (h:tDComp ts fv wi g tt tb σ H Q)
  (hRR:∀ D C s' H',Inv X pins σ H' s'→H' C=none→X.s₀.heap.objs.size≤C→C≠X.env.locals→(∀ x c,X.env.cells.lookup x=some c→c≠C)→(∀ p∈X.pn ++ pins,p.1≠C)→(∃ m,s'.heap.Ns C m)→Q (.ref D) H'→RR (.ref D) C (.ok .next) s') :
  wpAny (model X.prog X.w) X.A (eval i0 X.env) (fun x s₁=>wpAny (model X.prog X.w) X.A (pyIter x) (fun it s₂=>wpAny (model X.prog X.w) X.A newDict (fun acc s₃ =>
   wpAny (model X.prog X.w) X.A (newFunctionEnv scope X.env.globals (cloList X.env scope.names []) [] X.env.qual none .none (some X.env)) (fun cenv s₄ =>
    codeAny (model X.prog X.w) X.A (.compStart (.DictComp kx vx (⟨t0,i0,f0,0⟩ :: rest) scope pos) 0 it acc { cenv with scope:=relabel scope X.env }) (RR acc cenv.locals) s₄) X.xe s₃) X.xe s₂) X.xe s₁) X.xe s:=by
 refine thn (hi pins s σ H _ I h) fun v s1 h1=>thn h1 fun itv s2 h2=>?_
 obtain ⟨it,fp,tn,J,H2,e,I2,T,st2,f2,L⟩:=h2
 subst e
 have L:=L s2.heap.objs.size I2.fresh
 refine wpAny_newObj_type ?_
 have I3:Inv X pins σ (upd H2 s2.heap.objs.size (.dK [])) { s2 with heap:=s2.heap.push { cls:=.type "dict",data:=.dict #[] },toks:=s2.toks }:=I2.laid (a:=s2.heap.objs.size) (o:=.dK []) (t':=s2.toks) (fun _ _ q=>Heap.get?_push_of_some _ q) (Nat.le_refl _) (dk_empty s2.heap I2.big)
 have ho2:∀ b∈fp,∃ o,s2.heap.get? b=some o∧∀ v,o.data≠.cell v:=T.obj _ _ st2
 have f3:∀ b∈fp,FpOk X pins (upd H2 s2.heap.objs.size (.dK [])) b:=fun b hb=>by
  obtain ⟨o,ho,_⟩:=ho2 b hb
  refine ⟨?_,(f2 b hb).2⟩
  rw [upd_ne (Nat.ne_of_lt (Heap.lt_size ho))]
  exact (f2 b hb).1
 have st3:tn 0 (s2.heap.push { cls:=.type "dict",data:=.dict #[] }):=T.keep _ _ _ st2 fun b _ o e=>Heap.get?_push_of_some _ e
 have ho3:∀ b∈fp,∃ o,(s2.heap.push { cls:=.type "dict",data:=.dict #[] }).get? b=some o:=fun b hb=>let ⟨o,e,_⟩:=ho2 b hb; ⟨o,Heap.get?_push_of_some _ e⟩
 generalize hs3:({ s2 with heap:=s2.heap.push { cls:=.type "dict",data:=.dict #[] },toks:=s2.toks }:Shared)=s3 at I3
 have eh:s2.heap.push { cls:=.type "dict",data:=.dict #[] }=s3.heap:=by rw [← hs3]
 rw [eh] at st3 ho3
 refine wpAny_newFunctionEnv B.nocell (by intro y hy; simp at hy) (fun h₁ hns hsb=>?_) B.kind
 have hk:∀ b o,s3.heap.get? b=some o→h₁.get? b=some o:=fun b o e=>hsb.extBut b o (Nat.ne_of_lt (Heap.lt_size e)) (Heap.get?_push_of_some _ e)
 have I4:=blk_start (ts:=ts) (tk:=s3.toks + ([]:List (Str × Value)).length) B I3 f3 ho3 hns hk
 have f4:∀ b∈fp,FpOk (blkCx X (blkN ts fv) scope s3.heap.objs.size s3 (upd H2 s2.heap.objs.size (.dK [])) fp) [] (upd H2 s2.heap.objs.size (.dK [])) b:=fun b hb=>by
  obtain ⟨f0,f1,f2',f3',f4',f5'⟩:=f3 b hb
  obtain ⟨o,eo⟩:=ho3 b hb
  exact ⟨f0,Nat.ne_of_lt (Heap.lt_size eo),I4.ok.exfs b hb,.inl hb,(I4.ok.exf b hb).2,fun p hp=>absurd (show p∈([]:List (Addr × Obj)) from hp) (by simp)⟩
 have st4:tn 0 h₁:=T.keep _ _ _ st3 fun b _ o e=>hk b o e
 have loop:codeAny (model X.prog X.w) X.A (.compLoop (.DictComp kx vx (⟨t0,i0,f0,0⟩ :: rest) scope pos) 0 (.ref it) (.ref s2.heap.objs.size) (blkCx X (blkN ts fv) scope s3.heap.objs.size s3 (upd H2 s2.heap.objs.size (.dK [])) fp).env)
   (RR (.ref s2.heap.objs.size) s3.heap.objs.size) { s3 with heap:=h₁,toks:=s3.toks + ([]:List (Str × Value)).length }:=by
  refine comp_loop (X:=blkCx X (blkN ts fv) scope s3.heap.objs.size s3 (upd H2 s2.heap.objs.size (.dK [])) fp) (tg:=t0) (ifs:=f0) (R:=fun _ H'=>Q (.ref s2.heap.objs.size) H') rfl rfl rfl rfl (heq _ it s2.heap.objs.size) T hc (hg _ _ _ _) (ht _ _ _ _) (hb _ _ _ _ it s2.heap.objs.size) f4 I4 st4 L fun s' σ' H' J' q=>?_
  obtain ⟨e1,e2,e3,e4,e5,e6⟩:=blk_end I3 f3 (Nat.le_refl _) J'
  obtain ⟨m,hm,_⟩:=J'.loc
  exact hRR _ _ s' H' e1 e2 e3 e4 e5 e6 ⟨m,hm⟩ q
 exact codeAny_compStart_dict loop (T.self _ _ _ _ _ st4 loop)
theorem pe_dcompG (B:BlkOk X scope fv) (hc:X.calm=true) (hi:PI X t0 i0 wi)
  (hg:∀ C s₀ H₀ ex,PG (blkCx X (blkN ts fv) scope C s₀ H₀ ex) t0 g) (ht:∀ C s₀ H₀ ex,PTs (blkCx X (blkN ts fv) scope C s₀ H₀ ex) f0 tt)
  (heq:∀ (env:Env) (it D:Addr),compTurn (.DictComp kx vx (⟨t0,i0,f0,0⟩ :: rest) scope pos) 0 (.ref it) (.ref D) env=(standAt i0.pos >>= fun _=>pyNext (.ref it) >>= fun r=>match r with
   | none=>pure (.done .next)
   | some v=>letOwnedTupleGo t0 (.ref it) v >>= fun _=>assign t0 env v >>= fun _ =>
    (forIn f0 true fun c r=>if r=true then do let ok ← isTrue c env (eval c env); pure (ForInStep.yield ok) else pure (ForInStep.yield r)) >>= fun ok =>
     if ok=true then kont env it D else again (.compLoop (.DictComp kx vx (⟨t0,i0,f0,0⟩ :: rest) scope pos) 0 (.ref it) (.ref D) env)))
  (hb:∀ C s₀ H₀ ex it D,PB (blkCx X (blkN ts fv) scope C s₀ H₀ ex) (kont (blkCx X (blkN ts fv) scope C s₀ H₀ ex).env it D) (.compLoop (.DictComp kx vx (⟨t0,i0,f0,0⟩ :: rest) scope pos) 0 (.ref it) (.ref D) (blkCx X (blkN ts fv) scope C s₀ H₀ ex).env) (tb D))
  (hs:∀ x,foldedSetIterable i0 X.env x=pure x:=by intro _; rfl) :
  PE X (.DictComp kx vx (⟨t0,i0,f0,0⟩ :: rest) scope pos) (tDComp ts fv wi g tt tb):=by
 intro pins s σ H Q I h
 show wpAny _ X.A (comprehension (.DictComp kx vx (⟨t0,i0,f0,0⟩ :: rest) scope pos) scope X.env _ newDict false (eval i0 X.env)) _ _ s
 refine wpAny_comprehension_free (use:=none) rfl hs (closure_run fun y hy e=>I.ok.has y.1 (B.free y hy e)) B.kind B.names ?_
 refine dcomp_core (RR:=fun acc C=>compPost (model X.prog X.w) X.A X.xe none (EP X pins σ Q) acc C) B hc hi hg ht heq hb I h fun D C s' H' I' e2 e3 e4 e5 e6 hm q=>?_
 obtain ⟨m,hm⟩:=hm
 exact ⟨m,hm,fun h' hs'=>⟨.ref D,H',I'.apart hs' e2 e3 e4 e5 e6,rfl,q⟩⟩
end
end L2
set_option maxHeartbeats 4000000
namespace L2
open PySem PySem.Spec PyProof.Rows
section
variable {X:Cx} {pins:List (Addr × Obj)} {σ:St} {H:Hp} {s:Shared} {a:Addr}
theorem Inv.thaw {kvs:List (Key × V)} {ob:Obj} (I:Inv X pins σ H s) (e:H a=some (.frz ob (.dK kvs))) (h0:∀ o u,X.H₀ a≠some (.frz o u)):Inv X pins σ (upd H a (.dK kvs)) s:=by
 have nown:∀ c y,H c=some (.own y)→c≠a:=fun c y r z=>by subst z; rw [r] at e; cases e
 have ntup:∀ c xs,H c=some (.tup xs)→c≠a:=fun c xs r z=>by subst z; rw [r] at e; cases e
 have nnon:∀ c,H c=none→c≠a:=fun c r z=>by subst z; rw [r] at e; cases e
 have hok:HOk X.prog X.w (upd H a (.dK kvs)) s.heap:=fun b v q=>by
  have st:∀ c w',ObjOk X.prog X.w H s.heap c w'→ObjOk X.prog X.w (upd H a (.dK kvs)) s.heap c w':=fun c w' x=>x.stay (fun _ _ _ q=>q) (fun d r=>by rw [upd_ne (nown d c r)]; exact r) fun d xs r=>by rw [upd_ne (ntup d xs r)]; exact r
  by_cases hb:b=a
  ·subst hb
   rw [upd_same] at q
   cases q
   exact st _ _ (I.hok _ _ e).2
  ·rw [upd_ne hb] at q
   exact st _ _ (I.hok b v q)
 refine ⟨I.ok,I.os,I.bare,⟨I.base.keep,I.base.slot,fun b o q n hx=>?_,I.base.there,fun b xs q=>?_,fun b o u q=>?_,fun b ps q=>?_⟩,I.loc,I.cell,?_,fun x c q=>?_,fun p hp=>?_,hok,I.len⟩
 ·have:=I.base.free b o q n hx
  rw [upd_ne (nnon b this)]; exact this
 ·have:=I.base.tups b xs q
  rw [upd_ne (ntup b xs this)]; exact this
 ·have:=I.base.frzs b o u q
  rw [upd_ne (fun z=>by subst z; exact h0 _ _ q)]; exact this
 ·obtain ⟨more,z⟩:=I.base.tbls b ps q
  exact ⟨more,by rw [upd_ne (fun w=>by subst w; rw [z] at e; cases e)]; exact z⟩
 ·have:=I.free
  rw [upd_ne (nnon _ this)]; exact this
 ·have:=I.freeC x c q
  rw [upd_ne (nnon _ this)]; exact this
 ·obtain ⟨q1,q2,q3⟩:=I.pin p hp
  exact ⟨q1,by rw [upd_ne (nnon _ q2)]; exact q2,q3⟩
end
end L2
set_option maxHeartbeats 4000000
namespace L2
open PySem PySem.Spec PyProof.Rows
section
variable {X:Cx}
theorem strsAre_of {ys:List Str}:∀ {us:List Value},Vals (ys.map V.str) us→StrsAre us ys:=by
 induction ys with
 | nil=>intro us r; rw [List.map_nil] at r; cases r; exact .nil
 | cons y ys ih =>
  intro us r
  rw [List.map_cons] at r
  cases r with
  | cons r1 r2 =>
   obtain ⟨t,e⟩:=r1
   subst e
   exact .cons y t (ih r2)
noncomputable def rJoin (K:PySem.W.Frag):V→List V→Hp→VK→Prop:=fun o xs H Q=>∃ sep p ys,o=.str sep∧xs=[.ref p]∧SqL K H p (List.map V.str ys)∧sep.length≤16∧(ys.map (·.length)).sum + ys.length≤1048576∧Q (.str (Txt.join sep ys)) H
theorem mt_join:MtR X "str.join" (rJoin X.K):=by
 intro pins s σ H x xs v us Q I rx rs h
 obtain ⟨sep,p,ys,rfl,rfl,hq,h1,h2,q⟩:=h
 obtain ⟨t,rfl⟩:=rx
 obtain ⟨u,rfl,ru⟩:=vals1 rs
 cases ru
 obtain ⟨its,rv,pl,_⟩:=I.list hq
 exact join_listW pl.isList (by simpa using strsAre_of rv) h1 h2 fun t' k=>⟨.str _,H,I.tok _,⟨_,rfl⟩,q⟩
end
end L2
namespace L2
open PySem PySem.Spec PyProof.Rows
theorem glue_fold:∀ (l:List Str) (a:Array Nat),(l.foldl (fun acc p=>acc ++ (Str.ofString "").cps ++ p.cps) a).toList=a.toList ++ (l.map fun y=>y.cps.toList).flatten
 | [],a=>by simp
 | y :: r,a=>by
  rw [List.foldl_cons,glue_fold r]
  have:(Str.ofString "").cps=#[]:=by decide +kernel
  rw [this]
  simp
theorem join_cps (ys:List Str):(Txt.join (Str.ofString "") ys).cps.toList=(ys.map fun y=>y.cps.toList).flatten:=by
 unfold Txt.join Builtin.Str.glued
 cases ys with
 | nil=>rfl
 | cons y r =>
  show ((r.foldl (fun acc p=>acc ++ (Str.ofString "").cps ++ p.cps) y.cps)).toList=_
  rw [glue_fold]
  simp
end L2
set_option maxHeartbeats 4000000
namespace KT
open PySem L2
noncomputable def aftN (i:Nat):Nat:=if i % 3=2 then i - 2 else i + 1
theorem aftN_eq (i:Nat):after (i:Int)=(aftN i:Int):=by unfold after aftN; split <;> split <;> omega
noncomputable def nxC (M:List (Option Nat)) (c:Nat):Option Nat:=(M[aftN c]?).join
noncomputable abbrev InvM (M:List (Option Nat)):Prop:=∀ (i j:Nat),M[i]?=some (some j)→M[j]?=some (some i)∧i≠j
noncomputable def letS (M:List (Option Nat)) (a p:Nat):Str:=if p=aftN ((M.getD a none).getD 0) then Str.ofString "R" else Str.ofString "L"
noncomputable def letL (M:List (Option Nat)) (ws:List Nat):List Str:=(ws.zip (rot ws (1 % ws.length))).map fun q=>letS M q.1 q.2
end KT
set_option maxHeartbeats 4000000
namespace KT
open PySem L2
noncomputable abbrev sR:Str:=Str.ofString "R"
noncomputable abbrev sL:Str:=Str.ofString "L"
theorem sR_is:sR=⟨#[82]⟩:=by decide +kernel
theorem sL_is:sL=⟨#[76]⟩:=by decide +kernel
noncomputable def isLR (y:Str):Prop:=y=sR∨y=sL
theorem lr_code {y:Str} (h:isLR y):∃ c,y=⟨#[c]⟩∧c < 128:=by
 rcases h with rfl | rfl
 ·exact ⟨82,sR_is,by decide⟩
 ·exact ⟨76,sL_is,by decide⟩
theorem codes:∀ (ys:List Str),(∀ y∈ys,isLR y)→∃ cs:List Nat,(ys.map fun y=>y.cps.toList).flatten=cs∧cs.length=ys.length∧(∀ c∈cs,c < 128)∧∀ (i c:Nat),cs[i]?=some c→ys[i]?=some ⟨#[c]⟩
 | [],_=>⟨[],rfl,rfl,(fun c hc=>absurd hc List.not_mem_nil),fun i c h=>(by simp at h)⟩
 | y :: r,h=>by
  obtain ⟨c,rfl,hc⟩:=lr_code (h y List.mem_cons_self)
  obtain ⟨cs,e,hl,h1,h2⟩:=codes r fun z hz=>h z (List.mem_cons_of_mem _ hz)
  refine ⟨c :: cs,by rw [List.map_cons,List.flatten_cons,e]; rfl,by simp [hl],fun z hz=>?_,fun i z hz=>?_⟩
  ·rcases List.mem_cons.mp hz with rfl | hz
   ·exact hc
   ·exact h1 z hz
  ·cases i with
   | zero=>cases hz; rfl
   | succ i=>exact h2 i z hz
theorem join_walk {ys:List Str} (h:∀ y∈ys,isLR y):(Txt.join (Str.ofString "") ys).cps.all (· < 128)=true∧(Txt.join (Str.ofString "") ys).cps.size=ys.length∧∀ (i c:Nat),(Txt.join (Str.ofString "") ys).cps[i]?=some c→ys[i]?=some ⟨#[c]⟩:=by
 obtain ⟨cs,e,hl,h1,h2⟩:=codes ys h
 have e':(Txt.join (Str.ofString "") ys).cps.toList=cs:=by rw [join_cps,e]
 generalize (Txt.join (Str.ofString "") ys).cps=arr at e'
 subst e'
 refine ⟨?_,by rw [← hl]; simp,fun i c hc=>h2 i c (by simpa using hc)⟩
 rw [← Array.all_toList,List.all_eq_true]
 exact fun c hc=>decide_eq_true (h1 c hc)
section
variable {M:List (Option Nat)} {a:Nat} {ys:List Str}
theorem letL_get {ws:List Nat} {k a p:Nat} (ha:ws[k]?=some a) (hp:ws[(k + 1) % ws.length]?=some p):(letL M ws)[k]?=some (letS M a p):=by
 have hk:=(List.getElem?_eq_some_iff.mp ha).1
 unfold letL
 rw [List.getElem?_map]
 have:(ws.zip (rot ws (1 % ws.length)))[k]?=some (a,p):=by
  rw [List.getElem?_zip_eq_some]
  refine ⟨ha,?_⟩
  rw [rot_get (Nat.mod_lt _ (by omega)) hk,Nat.add_mod_mod]
  exact hp
 rw [this]
 rfl
theorem letL_lr (M:List (Option Nat)) (ws:List Nat):∀ y∈letL M ws,isLR y:=fun y hy=>by
 obtain ⟨q,_,rfl⟩:=List.mem_map.mp hy
 unfold letS
 split
 ·exact .inl rfl
 ·exact .inr rfl
theorem letL_len (M:List (Option Nat)) (ws:List Nat) (h:0 < ws.length):(letL M ws).length=ws.length:=by
 unfold letL
 rw [List.length_map,List.length_zip,rot_len _ (Nat.le_of_lt (Nat.mod_lt _ h)),Nat.min_self]
end
end KT
set_option maxHeartbeats 4000000
namespace L2
open PySem PySem.Spec PyProof.Rows
end L2
set_option maxHeartbeats 4000000
namespace L2
open PySem PySem.Spec PyProof.Rows
section
variable {X:Cx}
theorem op_notIn_seqK (K:PySem.W.Frag) (h:X.K=K:=by rfl):OpR X (compareOp .NotIn) (rIn K true):=h ▸ op_notIn_seq
end
end L2
set_option maxHeartbeats 4000000
namespace L2
open PySem PySem.Spec PyProof.Rows PySem.SeqAt
end L2
set_option maxHeartbeats 4000000
namespace KT
open PySem L2
end KT
set_option maxHeartbeats 4000000
namespace KT
open PySem L2
theorem filter_split {P:Nat→Bool}:∀ (l:List Nat) (k h:Nat),(l.filter P)[k]?=some h→∃ l1 l2,l=l1 ++ h :: l2∧P h=true∧(l1.filter P).length=k
 | [],k,h,e=>by simp at e
 | x :: r,k,h,e=>by
  by_cases c:P x=true
  ·rw [List.filter_cons_of_pos c] at e
   cases k with
   | zero=>cases e; exact ⟨[],r,rfl,c,rfl⟩
   | succ k =>
    obtain ⟨l1,l2,e1,e2,e3⟩:=filter_split r k h e
    exact ⟨x :: l1,l2,by rw [e1]; rfl,e2,by rw [List.filter_cons_of_pos c,List.length_cons,e3]⟩
  ·rw [List.filter_cons_of_neg c] at e
   obtain ⟨l1,l2,e1,e2,e3⟩:=filter_split r k h e
   exact ⟨x :: l1,l2,by rw [e1]; rfl,e2,by rw [List.filter_cons_of_neg c,e3]⟩
theorem ne_af (a:Nat):¬ (a:Int)=after a:=by have:=after_div a; omega
theorem ne_be (a:Nat):¬ (a:Int)=before a:=by have:=before_div a; omega
theorem ne_af' {a b:Nat} (h:a / 3≠b / 3):¬ (a:Int)=after b:=by have:=(after_div b).1; omega
theorem ne_be' {a b:Nat} (h:a / 3≠b / 3):¬ (a:Int)=before b:=by have:=(before_div b).1; omega
theorem mv_cloth {left:Bool} {a b z:Nat} (h:z / 3=a / 3∨z / 3=b / 3):mvN left a b z / 3=a / 3∨mvN left a b z / 3=b / 3:=by
 have e:=mvN_eq left a b z
 rcases mv_cases left a b z with c | c | c | c | c <;> rw [c] at e
 ·rw [cl_nat e rfl]; exact h
 ·exact .inl (cl_nat e (after_div a).1)
 ·exact .inl (cl_nat e (before_div a).1)
 ·exact .inr (cl_nat e (after_div b).1)
 ·exact .inr (cl_nat e (before_div b).1)
theorem mv_out {left:Bool} {a b z:Nat} (h1:z / 3≠a / 3) (h2:z / 3≠b / 3):mvN left a b z=z:=by
 have:mvI left a b z=z:=by
  unfold mvI
  rw [if_neg (ne_af' h1),if_neg (ne_be' h2),if_neg (ne_af' h2),if_neg (ne_be' h1)]
 unfold mvN
 rw [this]
 exact Int.toNat_natCast z
noncomputable def keepB (a b q:Nat):Bool:=!decide (q=a) && !decide (q=b)
noncomputable def keptL (a b:Nat) (ws:List Nat):List Nat:=ws.filter (keepB a b)
noncomputable def mtN (M:List (Option Nat)) (h:Nat):Nat:=(M.getD h none).getD 0
noncomputable def crossL (a b e f:Nat):List Nat:=if e / 3=f / 3 then [] else [a,b].filter fun q=>decide (q / 3=e / 3)
noncomputable def pullAt (M:List (Option Nat)) (left:Bool) (a b h f:Nat):List Nat:=mvN left a b h :: crossL a b (mvN left a b (mtN M h)) (mvN left a b f)
noncomputable def pairsL (ks:List Nat):List (Nat × Nat):=ks.zip (rot ks (1 % ks.length))
noncomputable def pullL (M:List (Option Nat)) (left:Bool) (a b:Nat) (ps:List (Nat × Nat)):List Nat:=(ps.map fun q=>pullAt M left a b q.1 q.2).flatten
theorem crossL_len (a b e f:Nat):(crossL a b e f).length≤2:=by
 unfold crossL
 split
 ·exact Nat.zero_le _
 ·exact List.length_filter_le _ _
theorem pullL_len (M:List (Option Nat)) (left:Bool) (a b:Nat):∀ ps:List (Nat × Nat),(pullL M left a b ps).length≤3 * ps.length
 | []=>Nat.le_refl _
 | q :: r=>by
  have ih:=pullL_len M left a b r
  have h1:=crossL_len a b (mvN left a b (mtN M q.1)) (mvN left a b q.2)
  have e:pullL M left a b (q :: r)=pullAt M left a b q.1 q.2 ++ pullL M left a b r:=rfl
  rw [e,List.length_append]
  unfold pullAt
  rw [List.length_cons,List.length_cons]
  omega
theorem pullL_step {M:List (Option Nat)} {left:Bool} {a b i h f:Nat} {ps:List (Nat × Nat)} (hq:ps[i]?=some (h,f)):pullL M left a b (ps.take (i + 1))=pullL M left a b (ps.take i) ++ pullAt M left a b h f:=by
 unfold pullL
 rw [List.take_add_one,hq,List.map_append,List.flatten_append]
 simp
theorem pairs_len (ks:List Nat):(pairsL ks).length=ks.length:=by
 unfold pairsL
 by_cases z:ks.length=0
 ·have:ks=[]:=List.length_eq_zero_iff.mp z
  subst this; rfl
 ·rw [List.length_zip,rot_len _ (Nat.le_of_lt (Nat.mod_lt _ (by omega))),Nat.min_self]
theorem cross_one {a b e f:Nat} (hab:a / 3≠b / 3) (hne:e / 3≠f / 3) (he:e / 3=a / 3∨e / 3=b / 3):crossL a b e f=[if a / 3=e / 3 then a else b]:=by
 unfold crossL
 rw [if_neg hne]
 rcases he with he | he
 ·rw [if_pos he.symm,List.filter_cons_of_pos (by simp [he]),List.filter_cons_of_neg (by simp only [decide_eq_true_eq]; omega)]
  rfl
 ·rw [if_neg (by omega),List.filter_cons_of_neg (by simp only [decide_eq_true_eq]; omega),List.filter_cons_of_pos (by simp [he])]
  rfl
end KT
set_option maxHeartbeats 4000000
namespace KT
open PySem L2
theorem rot_at {ws:List Nat} {j i:Nat} (hj:j < ws.length) (hi:i < ws.length):(rot ws (j + 1))[i]?=ws[(i + (j + 1)) % ws.length]?:=by
 by_cases z:j + 1 < ws.length
 ·exact rot_get z hi
 ·have e:j + 1=ws.length:=by omega
  rw [e,Nat.add_mod_right,Nat.mod_eq_of_lt hi]
  unfold rot
  rw [List.drop_length,List.take_length,List.nil_append]
theorem filter_turn {P:Nat→Bool} {l:List Nat} {k h:Nat} (hk:(l.filter P)[k]?=some h):∃ j,l[j]?=some h∧P h=true∧(l.filter P)[(k + 1) % (l.filter P).length]?=((rot l (j + 1)).filter P)[0]?:=by
 obtain ⟨l1,l2,e,hh,hl⟩:=filter_split l k h hk
 subst e
 refine ⟨l1.length,by rw [List.getElem?_append_right (Nat.le_refl _),Nat.sub_self]; rfl,hh,?_⟩
 have er:rot (l1 ++ h :: l2) (l1.length + 1)=l2 ++ (l1 ++ [h]):=by
  unfold rot
  have e:l1 ++ h :: l2=(l1 ++ [h]) ++ l2:=by simp
  rw [e,show l1.length + 1=(l1 ++ [h]).length by simp,List.drop_left,List.take_left]
 rw [er]
 have ef:(l1 ++ h :: l2).filter P=l1.filter P ++ h :: l2.filter P:=by rw [List.filter_append,List.filter_cons_of_pos hh]
 rw [ef,List.filter_append,List.filter_append,List.filter_cons_of_pos hh]
 cases e2:l2.filter P with
 | cons q r =>
  rw [Nat.mod_eq_of_lt (by simp; omega),List.getElem?_append_right (by omega),show k + 1 - (l1.filter P).length=1 by omega]
  rfl
 | nil =>
  rw [show (l1.filter P ++ [h]).length=k + 1 by simp [hl],Nat.mod_self]
  rfl
noncomputable def CH (R:Nat→Nat→Prop) (l:List Nat):Prop:=∀ (k u v:Nat),l[k]?=some u→l[k + 1]?=some v→R u v
theorem CH.app {R:Nat→Nat→Prop} {l r:List Nat} {x:Nat} (h1:CH R (l ++ [x])) (h2:CH R (x :: r)):CH R (l ++ x :: r):=by
 intro k u v hu hv
 by_cases z:k + 1≤l.length
 ·refine h1 k u v ?_ ?_
  ·rw [List.getElem?_append_left (by omega)] at hu ⊢; exact hu
  ·by_cases z2:k + 1 < l.length
   ·rw [List.getElem?_append_left z2] at hv ⊢; exact hv
   ·rw [List.getElem?_append_right (by omega),show k + 1 - l.length=0 by omega] at hv ⊢
    exact hv
 ·refine h2 (k - l.length) u v ?_ ?_
  ·rw [List.getElem?_append_right (by omega)] at hu; exact hu
  ·rw [List.getElem?_append_right (by omega),show k + 1 - l.length=k - l.length + 1 by omega] at hv; exact hv
noncomputable def Nx (M:List (Option Nat)) (u v:Nat):Prop:=∃ m,M[u]?=some (some m)∧v / 3=m / 3∧v≠m
theorem Pl.chain {M:List (Option Nat)} {x:Nat} {t:List Nat} (h:CH (Nx M) (x :: t ++ [x])):Pl M (x :: t):=by
 have hl:(x :: t).length=t.length + 1:=rfl
 refine ⟨List.cons_ne_nil _ _,fun p hp=>?_,fun k u p hu hp m hm=>?_⟩
 ·obtain ⟨k,hk,e⟩:=List.mem_iff_getElem.mp hp
  have e1:(x :: t ++ [x])[k]?=some p:=by rw [List.getElem?_append_left hk,List.getElem?_eq_getElem hk,e]
  have hk2:k + 1 < (x :: t ++ [x]).length:=by rw [List.length_append,List.length_singleton]; omega
  obtain ⟨m,hm,_⟩:=h k p _ e1 (List.getElem?_eq_getElem hk2)
  exact ⟨m,hm⟩
 ·have hk:=(List.getElem?_eq_some_iff.mp hu).1
  have e1:(x :: t ++ [x])[k]?=some u:=by rw [List.getElem?_append_left hk]; exact hu
  have e2:(x :: t ++ [x])[k + 1]?=some p:=by
   by_cases z:k + 1 < (x :: t).length
   ·rw [Nat.mod_eq_of_lt z] at hp
    rw [List.getElem?_append_left z]; exact hp
   ·have e:k + 1=(x :: t).length:=by omega
    rw [e,Nat.mod_self] at hp
    rw [e,List.getElem?_append_right (Nat.le_refl _),Nat.sub_self]
    exact hp
  obtain ⟨m',hm',a1,a2⟩:=h k u p e1 e2
  rw [hm] at hm'
  cases hm'
  exact ⟨a1,a2⟩
theorem mv_a {left:Bool} {a b:Nat} (h:a / 3≠b / 3):mvN left a b a=a∧mvN left a b b=b:=by
 have h':=Ne.symm h
 have i1:mvI left a b a=a:=by
  unfold mvI
  rw [if_neg (ne_af a),if_neg (ne_be' h),if_neg (ne_af' h),if_neg (ne_be a)]
 have i2:mvI left a b b=b:=by
  unfold mvI
  rw [if_neg (ne_af' h'),if_neg (ne_be b),if_neg (ne_af b),if_neg (ne_be' h')]
 unfold mvN
 rw [i1,i2]
 exact ⟨Int.toNat_natCast a,Int.toNat_natCast b⟩
section
variable {M:List (Option Nat)} {ns:List Int} {left:Bool} {a b:Nat}
theorem exM_mv (td:TD M ns) (ha:a < M.length) (hb:b < M.length) (hab:a / 3≠b / 3) {y m:Nat} (hy:M[y]?=some (some m)):(exM left a b M)[mvN left a b y]?=some (some (mvN left a b m)):=by
 obtain ⟨n,_,_,hn⟩:=td.n
 have hyl:y < M.length:=(List.getElem?_eq_some_iff.mp hy).1
 have hz:mvN left a b y < M.length:=by rw [hn] at ha hb hyl ⊢; exact mvN_lt ha hb left hyl
 rw [exM_get td ha hb hab left hz,mvN_inv hab,hy]
 rfl
theorem next_kept (td:TD M ns) (hM:M[a]?=some (some b)) (hab:a / 3≠b / 3) {ws:List Nat} (hP:Pl M ws) {k h f:Nat} (hh:(keptL a b ws)[k]?=some h) (hf:(keptL a b ws)[(k + 1) % (keptL a b ws).length]?=some f) :
  ∃ m,M[h]?=some (some m)∧((f / 3=m / 3∧f≠m)∨(m / 3=a / 3∧f / 3=b / 3)∨(m / 3=b / 3∧f / 3=a / 3)):=by
 have inv:=td.inv
 have hMb:=(inv a b hM).1
 have ha:a < M.length:=(List.getElem?_eq_some_iff.mp hM).1
 have hb:b < M.length:=(List.getElem?_eq_some_iff.mp hMb).1
 obtain ⟨j,hj,hPh,nx⟩:=filter_turn hh
 have hjl:=(List.getElem?_eq_some_iff.mp hj).1
 have hfk:keepB a b f=true:=(List.mem_filter.mp (List.mem_of_getElem? hf)).2
 have kb:∀ q,keepB a b q=true→q≠a∧q≠b:=fun q hq=>by
  unfold keepB at hq
  simpa using hq
 obtain ⟨hha,hhb⟩:=kb h hPh
 obtain ⟨hfa,hfb⟩:=kb f hfk
 obtain ⟨m,hm⟩:=hP.has h (List.mem_of_getElem? hj)
 have emt:mtN M h=m:=by unfold mtN; rw [List.getD_eq_getElem?_getD,hm]; rfl
 have hma:m≠a:=fun z=>by subst z; have:=(inv h m hm).1; rw [hM] at this; cases this; exact hhb rfl
 have hmb:m≠b:=fun z=>by subst z; have:=(inv h m hm).1; rw [hMb] at this; cases this; exact hha rfl
 have nx:((rot ws (j + 1)).filter (keepB a b))[0]?=some f:=nx.symm.trans hf
 have t0:=rot_at hjl (show 0 < ws.length by omega)
 rw [Nat.zero_add] at t0
 have key:(f / 3=m / 3∧f≠m)∨(m / 3=a / 3∧f / 3=b / 3)∨(m / 3=b / 3∧f / 3=a / 3):=by
  have ep:=List.getElem?_eq_getElem (Nat.mod_lt (j + 1) (show 0 < ws.length by omega))
  obtain ⟨n1,n2⟩:=hP.nxt j h _ hj ep m hm
  generalize ws[(j + 1) % ws.length]'(Nat.mod_lt (j + 1) (by omega))=p at ep n1 n2
  cases hr:rot ws (j + 1) with
  | nil =>
   have:=rot_len ws (show j + 1≤ws.length by omega)
   rw [hr] at this
   simp at this
   omega
  | cons p' r =>
   rw [hr,ep] at t0
   have t0:some p'=some p:=t0
   cases t0
   rw [hr] at nx
   by_cases c:keepB a b p=true
   ·rw [List.filter_cons_of_pos c] at nx
    have nx:some p=some f:=nx
    cases nx
    exact .inl ⟨n1,n2⟩
   ·rw [List.filter_cons_of_neg c] at nx
    have hpc:p=a∨p=b:=by
     unfold keepB at c
     simp only [Bool.and_eq_true,Bool.not_eq_true',decide_eq_false_iff_not,not_and,Decidable.not_not] at c
     by_cases z:p=a
     ·exact .inl z
     ·exact .inr (c z)
    cases r with
    | nil=>simp at nx
    | cons q r =>
     have h2:1 < ws.length:=by
      have:=rot_len ws (show j + 1≤ws.length by omega)
      rw [hr] at this
      simp only [List.length_cons] at this
      omega
     have t1:=rot_at hjl h2
     rw [hr] at t1
     have t1:ws[(1 + (j + 1)) % ws.length]?=some q:=t1.symm
     have t1':ws[((j + 1) % ws.length + 1) % ws.length]?=some q:=by rw [Nat.mod_add_mod,Nat.add_comm]; exact t1
     have qk:∀ d,M[p]?=some (some d)→q / 3=d / 3∧q≠d:=fun d hd=>hP.nxt _ p q ep t1' d hd
     have fin:∀ d,M[p]?=some (some d)→p / 3≠d / 3→(d=a∨d=b)→f / 3=d / 3:=fun d hd hne hdab=>by
      obtain ⟨q1,q2⟩:=qk d hd
      have hqk:keepB a b q=true:=by
       unfold keepB
       have q3:q≠p:=fun z=>hne (by rw [← z,q1])
       have:q≠a∧q≠b:=by
        rcases hpc with e | e <;> rcases hdab with e' | e' <;> subst e <;> subst e' <;> first | exact ⟨q3,q2⟩ | exact ⟨q2,q3⟩ | exact absurd rfl hne
       rw [decide_eq_false this.1,decide_eq_false this.2]
       rfl
      rw [List.filter_cons_of_pos hqk] at nx
      have nx:some q=some f:=nx
      cases nx
      exact q1
     rcases hpc with e | e
     ·subst e
      exact .inr (.inl ⟨n1.symm,fin b hM hab (.inr rfl)⟩)
     ·subst e
      exact .inr (.inr ⟨n1.symm,fin a hMb (Ne.symm hab) (.inl rfl)⟩)
 exact ⟨m,hm,key⟩
theorem block (td:TD M ns) (hM:M[a]?=some (some b)) (hab:a / 3≠b / 3) {ws:List Nat} (hP:Pl M ws) {k h f:Nat} (hh:(keptL a b ws)[k]?=some h) (hf:(keptL a b ws)[(k + 1) % (keptL a b ws).length]?=some f) :
  CH (Nx (exM left a b M)) (pullAt M left a b h f ++ [mvN left a b f]):=by
 have inv:=td.inv
 have hMb:=(inv a b hM).1
 have ha:a < M.length:=(List.getElem?_eq_some_iff.mp hM).1
 have hb:b < M.length:=(List.getElem?_eq_some_iff.mp hMb).1
 obtain ⟨ma,mb⟩:=@mv_a left a b hab
 have hPh:keepB a b h=true:=(List.mem_filter.mp (List.mem_of_getElem? hh)).2
 have hfk:keepB a b f=true:=(List.mem_filter.mp (List.mem_of_getElem? hf)).2
 have kb:∀ q,keepB a b q=true→q≠a∧q≠b:=fun q hq=>by
  unfold keepB at hq
  simpa using hq
 obtain ⟨hha,hhb⟩:=kb h hPh
 obtain ⟨hfa,hfb⟩:=kb f hfk
 obtain ⟨m,hm,key⟩:=next_kept td hM hab hP hh hf
 have emt:mtN M h=m:=by unfold mtN; rw [List.getD_eq_getElem?_getD,hm]; rfl
 have hma:m≠a:=fun z=>by subst z; have:=(inv h m hm).1; rw [hM] at this; cases this; exact hhb rfl
 have hmb:m≠b:=fun z=>by subst z; have:=(inv h m hm).1; rw [hMb] at this; cases this; exact hha rfl
 have x0:=exM_mv (left:=left) td ha hb hab hm
 have inj:=fun {y z:Nat} (e:mvN left a b y=mvN left a b z)=>mvN_inj hab left e
 unfold pullAt
 rw [emt]
 by_cases hc:mvN left a b m / 3=mvN left a b f / 3
 ·have ec:crossL a b (mvN left a b m) (mvN left a b f)=[]:=if_pos hc
  rw [ec]
  have hfm:f≠m:=by
   rcases key with k1 | k1 | k1
   ·exact k1.2
   ·exact fun z=>hab (by rw [← k1.1,← k1.2,z])
   ·exact fun z=>hab (by rw [← k1.1,← k1.2,z])
  intro i u v hu hv
  have hi:i + 1 < 2:=(List.getElem?_eq_some_iff.mp hv).1
  have hi:i=0:=by omega
  subst hi
  cases hu
  cases hv
  exact ⟨_,x0,hc.symm,fun z=>hfm (inj z)⟩
 ·have hm3:m / 3=a / 3∨m / 3=b / 3:=by
   rcases key with k1 | k1 | k1
   ·refine Classical.byContradiction fun z=>hc ?_
    have c1:m / 3≠a / 3:=fun y=>z (.inl y)
    have c2:m / 3≠b / 3:=fun y=>z (.inr y)
    rw [mv_out c1 c2,mv_out (by rw [k1.1]; exact c1) (by rw [k1.1]; exact c2),k1.1]
   ·exact .inl k1.1
   ·exact .inr k1.1
  have hf3:f / 3=a / 3∨f / 3=b / 3:=by
   rcases key with k1 | k1 | k1
   ·rw [k1.1]; exact hm3
   ·exact .inr k1.2
   ·exact .inl k1.2
  have xm:=mv_cloth (left:=left) hm3
  have xf:=mv_cloth (left:=left) hf3
  rw [cross_one hab hc xm]
  have xa:=exM_mv (left:=left) td ha hb hab hM
  have xb:=exM_mv (left:=left) td ha hb hab hMb
  rw [ma,mb] at xa
  rw [mb,ma] at xb
  have nm_a:mvN left a b m≠a:=fun z=>hma (inj (z.trans ma.symm))
  have nm_b:mvN left a b m≠b:=fun z=>hmb (inj (z.trans mb.symm))
  have nf_a:mvN left a b f≠a:=fun z=>hfa (inj (z.trans ma.symm))
  have nf_b:mvN left a b f≠b:=fun z=>hfb (inj (z.trans mb.symm))
  by_cases y:a / 3=mvN left a b m / 3
  ·rw [if_pos y]
   intro i u v hu hv
   have hi:i + 1 < 3:=(List.getElem?_eq_some_iff.mp hv).1
   rcases (show i=0∨i=1 by omega) with e | e
   ·subst e; cases hu; cases hv
    exact ⟨_,x0,y,fun z=>nm_a z.symm⟩
   ·subst e; cases hu; cases hv
    exact ⟨_,xa,xf.resolve_left (fun z=>hc (y.symm.trans z.symm)),nf_b⟩
  ·rw [if_neg y]
   intro i u v hu hv
   have hi:i + 1 < 3:=(List.getElem?_eq_some_iff.mp hv).1
   rcases (show i=0∨i=1 by omega) with e | e
   ·subst e; cases hu; cases hv
    exact ⟨_,x0,(xm.resolve_left (fun z=>y z.symm)).symm,fun z=>nm_b z.symm⟩
   ·subst e; cases hu; cases hv
    exact ⟨_,xb,xf.resolve_right (fun z=>hc ((xm.resolve_left (fun w=>y w.symm)).trans z.symm)),nf_a⟩
theorem pull_chain {R:Nat→Nat→Prop}:∀ (r:List Nat) (h z:Nat),(∀ (k u v:Nat),(h :: r ++ [z])[k]?=some u→(h :: r ++ [z])[k + 1]?=some v→CH R (pullAt M left a b u v ++ [mvN left a b v]))→CH R (pullL M left a b ((h :: r).zip (r ++ [z])) ++ [mvN left a b z])
 | [],h,z,B=>by
  have e:pullL M left a b ([h].zip ([] ++ [z]))=pullAt M left a b h z:=by unfold pullL; simp
  rw [e]
  exact B 0 h z rfl rfl
 | f :: r,h,z,B=>by
  have ih:=pull_chain r f z fun k u v hu hv=>B (k + 1) u v hu hv
  have e:pullL M left a b ((h :: f :: r).zip (f :: r ++ [z]))=pullAt M left a b h f ++ pullL M left a b ((f :: r).zip (r ++ [z])):=rfl
  rw [e,List.append_assoc]
  have hd:∃ t,pullL M left a b ((f :: r).zip (r ++ [z])) ++ [mvN left a b z]=mvN left a b f :: t:=by
   cases r with
   | nil=>exact ⟨_,rfl⟩
   | cons _ _=>exact ⟨_,rfl⟩
  obtain ⟨t,ht⟩:=hd
  rw [ht] at ih ⊢
  exact CH.app (B 0 h f rfl rfl) ih
theorem kept_ne (td:TD M ns) (hM:M[a]?=some (some b)) (hab:a / 3≠b / 3) {ws:List Nat} (hP:Pl M ws):keptL a b ws≠[]:=by
 intro hk
 have inv:=td.inv
 have hMb:=(inv a b hM).1
 have all:∀ q∈ws,q=a∨q=b:=fun q hq=>by
  have:¬ keepB a b q=true:=fun z=>by
   have hm:q∈keptL a b ws:=List.mem_filter.mpr ⟨hq,z⟩
   rw [hk] at hm
   exact absurd hm List.not_mem_nil
  unfold keepB at this
  simp only [Bool.and_eq_true,Bool.not_eq_true',decide_eq_false_iff_not,not_and,Decidable.not_not] at this
  by_cases z:q=a
  ·exact .inl z
  ·exact .inr (this z)
 have hp:0 < ws.length:=by have:=hP.ne; cases ws with | nil=>exact absurd rfl this | cons _ _=>simp
 have e0:=List.getElem?_eq_getElem hp
 have e1:=List.getElem?_eq_getElem (Nat.mod_lt (0 + 1) hp)
 have n:=hP.nxt 0 _ _ e0 e1
 have h0:=all _ (List.mem_of_getElem? e0)
 have h1:=all _ (List.mem_of_getElem? e1)
 generalize ws[0]=u at n h0
 generalize ws[(0 + 1) % ws.length]'(Nat.mod_lt _ hp)=v at n h1
 rcases h0 with rfl | rfl
 ·obtain ⟨n1,n2⟩:=n _ hM
  rcases h1 with rfl | rfl
  ·exact hab n1
  ·exact n2 rfl
 ·obtain ⟨n1,n2⟩:=n _ hMb
  rcases h1 with rfl | rfl
  ·exact n2 rfl
  ·exact hab n1.symm
theorem Pl.pull (td:TD M ns) (hM:M[a]?=some (some b)) (hab:a / 3≠b / 3) {ws:List Nat} (hP:Pl M ws):Pl (exM left a b M) (pullL M left a b (pairsL (keptL a b ws))):=by
 have hne:=kept_ne td hM hab hP
 have B:=fun k h f e1 e2=>@block M ns left a b td hM hab ws hP k h f e1 e2
 generalize keptL a b ws=ks at hne B
 cases ks with
 | nil=>exact absurd rfl hne
 | cons h r =>
  have er:rot (h :: r) (1 % (h :: r).length)=r ++ [h]:=by
   cases r with
   | nil=>rw [show 1 % [h].length=0 from Nat.mod_self 1]; rfl
   | cons q r' =>
    rw [Nat.mod_eq_of_lt (by simp)]
    rfl
  unfold pairsL
  rw [er]
  have C:=pull_chain (M:=M) (left:=left) (a:=a) (b:=b) (R:=Nx (exM left a b M)) r h h fun k u v hu hv=>by
   have hk:k < (h :: r).length:=by
    have:=(List.getElem?_eq_some_iff.mp hv).1
    rw [List.length_append,List.length_singleton] at this
    omega
   refine B k u v ?_ ?_
   ·rw [List.getElem?_append_left hk] at hu; exact hu
   ·by_cases z:k + 1 < (h :: r).length
    ·rw [Nat.mod_eq_of_lt z]
     rw [List.getElem?_append_left z] at hv
     exact hv
    ·have e:k + 1=(h :: r).length:=by omega
     rw [e,List.getElem?_append_right (Nat.le_refl _),Nat.sub_self] at hv
     rw [e,Nat.mod_self]
     exact hv
  have hd:∃ t,pullL M left a b ((h :: r).zip (r ++ [h]))=mvN left a b h :: t:=by
   cases r with
   | nil=>exact ⟨_,rfl⟩
   | cons _ _=>exact ⟨_,rfl⟩
  obtain ⟨t,ht⟩:=hd
  rw [ht] at C ⊢
  exact Pl.chain C
end
end KT
set_option maxHeartbeats 4000000
namespace KT
open PySem L2
section
variable {M:List (Option Nat)} {ns:List Int} {left:Bool} {a b:Nat}
theorem keep_ne {q:Nat} (h:keepB a b q=true):q≠a∧q≠b:=by unfold keepB at h; simpa using h
theorem not_keep {q:Nat} (h:¬ keepB a b q=true):q=a∨q=b:=by
 unfold keepB at h
 simp only [Bool.and_eq_true,Bool.not_eq_true',decide_eq_false_iff_not,not_and,Decidable.not_not] at h
 by_cases z:q=a
 ·exact .inl z
 ·exact .inr (h z)
theorem CH.tail {R:Nat→Nat→Prop} {x:Nat} {l:List Nat} (h:CH R (x :: l)):CH R l:=fun k u v hu hv=>h (k + 1) u v hu hv
noncomputable def againL (M:List (Option Nat)) (a b:Nat) (ps:List (Nat × Nat)):List Nat:=(ps.map fun q=>q.1 :: crossL a b (mtN M q.1) q.2).flatten
theorem mtN_of {h m:Nat} (hm:M[h]?=some (some m)):mtN M h=m:=by unfold mtN; rw [List.getD_eq_getElem?_getD,hm]; rfl
theorem recon (hM:M[a]?=some (some b)) (hMb:M[b]?=some (some a)) (hab:a / 3≠b / 3):∀ (k:Nat) (l:List Nat) (h z:Nat),l.length≤k→keepB a b z=true→CH (Nx M) (h :: l ++ [z])→againL M a b ((h :: l.filter (keepB a b)).zip (l.filter (keepB a b) ++ [z]))=h :: l
 | k,[],h,z,_,hz,hc=>by
  obtain ⟨m,hm,e1,e2⟩:=hc 0 h z rfl rfl
  have ec:crossL a b (mtN M h) z=[]:=if_pos (by rw [mtN_of hm,e1])
  unfold againL
  simp [ec]
 | 0,f :: r,h,z,hk,hz,hc=>by simp at hk
 | k + 1,f :: r,h,z,hk,hz,hc=>by
  obtain ⟨m,hm,e1,e2⟩:=hc 0 h f rfl rfl
  have hc':CH (Nx M) (f :: r ++ [z]):=CH.tail hc
  have hk':r.length≤k:=by simp at hk; exact hk
  by_cases c:keepB a b f=true
  ·have ih:=recon hM hMb hab k r f z hk' hz hc'
   rw [List.filter_cons_of_pos c]
   have ec:crossL a b (mtN M h) f=[]:=if_pos (by rw [mtN_of hm,e1])
   show (h :: crossL a b (mtN M h) f) ++ againL M a b ((f :: r.filter (keepB a b)).zip (r.filter (keepB a b) ++ [z]))=_
   rw [ih,ec]
   rfl
  ·rw [List.filter_cons_of_neg c]
   have step:∀ d g,M[f]?=some (some d)→f / 3≠d / 3→((f=a∧d=b)∨(f=b∧d=a))→Nx M f g→keepB a b g=true∧crossL a b (mtN M h) g=[f]:=fun d g hd hfd hfab hn=>by
    obtain ⟨d',hd',n1,n2⟩:=hn
    rw [hd] at hd'
    cases hd'
    have n3:g≠f:=fun y=>hfd (by rw [← y,n1])
    refine ⟨?_,?_⟩
    ·unfold keepB
     have:g≠a∧g≠b:=by
      rcases hfab with ⟨y1,y2⟩ | ⟨y1,y2⟩
      ·rw [← y1,← y2]; exact ⟨n3,n2⟩
      ·rw [← y1,← y2]; exact ⟨n2,n3⟩
     rw [decide_eq_false this.1,decide_eq_false this.2]
     rfl
    ·rw [mtN_of hm]
     have hne:m / 3≠g / 3:=fun y=>hfd (by rw [e1,y,n1])
     have hmab:m / 3=a / 3∨m / 3=b / 3:=by
      rcases hfab with ⟨y1,_⟩ | ⟨y1,_⟩
      ·exact .inl (by rw [← e1,y1])
      ·exact .inr (by rw [← e1,y1])
     rw [cross_one hab hne hmab]
     rcases hfab with ⟨y1,_⟩ | ⟨y1,_⟩
     ·rw [if_pos (by rw [← e1,y1]),y1]
     ·rw [if_neg (by rw [← e1,y1]; exact hab),y1]
   have fd:∃ d,M[f]?=some (some d)∧f / 3≠d / 3∧((f=a∧d=b)∨(f=b∧d=a)):=by
    rcases not_keep c with y | y
    ·exact ⟨b,by rw [y]; exact hM,by rw [y]; exact hab,.inl ⟨y,rfl⟩⟩
    ·exact ⟨a,by rw [y]; exact hMb,by rw [y]; exact Ne.symm hab,.inr ⟨y,rfl⟩⟩
   obtain ⟨d,hd,hfd,hfab⟩:=fd
   cases r with
   | nil =>
    obtain ⟨_,ec⟩:=step d z hd hfd hfab (hc' 0 f z rfl rfl)
    unfold againL
    simp [ec]
   | cons g r' =>
    obtain ⟨hg,ec⟩:=step d g hd hfd hfab (hc' 0 f g rfl rfl)
    have ih:=recon hM hMb hab k r' g z (by simp at hk'; omega) hz (CH.tail hc')
    rw [List.filter_cons_of_pos hg]
    show (h :: crossL a b (mtN M h) g) ++ againL M a b ((g :: r'.filter (keepB a b)).zip (r'.filter (keepB a b) ++ [z]))=_
    rw [ih,ec]
    rfl
theorem kept_pull (hab:a / 3≠b / 3):∀ ps:List (Nat × Nat),(∀ q∈ps,keepB a b q.1=true)→keptL a b (pullL M left a b ps)=ps.map fun q=>mvN left a b q.1
 | [],_=>rfl
 | q :: r,h=>by
  have ih:=kept_pull hab r fun z hz=>h z (List.mem_cons_of_mem _ hz)
  obtain ⟨ma,mb⟩:=@mv_a left a b hab
  obtain ⟨h1,h2⟩:=keep_ne (h q List.mem_cons_self)
  have k1:keepB a b (mvN left a b q.1)=true:=by
   unfold keepB
   rw [decide_eq_false (fun z=>h1 (mvN_inj hab left (z.trans ma.symm))),decide_eq_false (fun z=>h2 (mvN_inj hab left (z.trans mb.symm)))]
   rfl
  have c0:(crossL a b (mvN left a b (mtN M q.1)) (mvN left a b q.2)).filter (keepB a b)=[]:=by
   rw [List.filter_eq_nil_iff]
   intro c hc
   unfold crossL at hc
   split at hc
   ·exact absurd hc List.not_mem_nil
   ·have hc:=(List.mem_filter.mp hc).1
    have:c=a∨c=b:=by simpa using hc
    unfold keepB
    rcases this with z | z <;> subst z <;> simp
  have e:pullL M left a b (q :: r)=pullAt M left a b q.1 q.2 ++ pullL M left a b r:=rfl
  unfold keptL at ih ⊢
  rw [e,List.filter_append,ih]
  unfold pullAt
  rw [List.filter_cons_of_pos k1,c0]
  rfl
theorem pairs_map (f:Nat→Nat) (ks:List Nat):pairsL (ks.map f)=(pairsL ks).map fun q=>(f q.1,f q.2):=by
 unfold pairsL
 rw [List.length_map]
 have:rot (ks.map f) (1 % ks.length)=(rot ks (1 % ks.length)).map f:=by unfold rot; rw [List.map_append,List.map_drop,List.map_take]
 rw [this,List.zip_map]
 rfl
theorem back_pull (td:TD M ns) (hM:M[a]?=some (some b)) (hab:a / 3≠b / 3) (ks:List Nat) (hk:∀ q∈ks,∃ m,M[q]?=some (some m)):pullL (exM left a b M) (!left) a b (pairsL (ks.map (mvN left a b)))=againL M a b (pairsL ks):=by
 have hMb:=(td.inv a b hM).1
 have ha:a < M.length:=(List.getElem?_eq_some_iff.mp hM).1
 have hb:b < M.length:=(List.getElem?_eq_some_iff.mp hMb).1
 rw [pairs_map]
 unfold pullL againL
 rw [List.map_map]
 congr 1
 apply List.map_congr_left
 rintro ⟨h,f⟩ hq
 have hh:h∈ks:=(List.of_mem_zip hq).1
 obtain ⟨m,hm⟩:=hk h hh
 show pullAt (exM left a b M) (!left) a b (mvN left a b h) (mvN left a b f)=h :: crossL a b (mtN M h) f
 unfold pullAt
 rw [mtN_of (exM_mv td ha hb hab hm),mvN_inv hab,mvN_inv hab,mvN_inv hab,mtN_of hm]
theorem pairs_cons (h:Nat) (r:List Nat):pairsL (h :: r)=(h :: r).zip (r ++ [h]):=by
 unfold pairsL
 congr 1
 cases r with
 | nil=>rw [show 1 % [h].length=0 from Nat.mod_self 1]; rfl
 | cons q r'=>rw [Nat.mod_eq_of_lt (by simp)]; rfl
theorem Pl.toChain {x:Nat} {t:List Nat} (h:Pl M (x :: t)):CH (Nx M) (x :: t ++ [x]):=by
 intro k u v hu hv
 have hk:k < (x :: t).length:=by
  have:=(List.getElem?_eq_some_iff.mp hv).1
  rw [List.length_append,List.length_singleton] at this
  omega
 rw [List.getElem?_append_left hk] at hu
 have hv':(x :: t)[(k + 1) % (x :: t).length]?=some v:=by
  by_cases z:k + 1 < (x :: t).length
  ·rw [List.getElem?_append_left z] at hv
   rw [Nat.mod_eq_of_lt z]; exact hv
  ·have e:k + 1=(x :: t).length:=by omega
   rw [e,List.getElem?_append_right (Nat.le_refl _),Nat.sub_self] at hv
   rw [e,Nat.mod_self]; exact hv
 obtain ⟨m,hm⟩:=h.has u (List.mem_of_getElem? hu)
 exact ⟨m,hm,h.nxt k u v hu hv' m hm⟩
theorem pulled_back (td:TD M ns) (hM:M[a]?=some (some b)) (hab:a / 3≠b / 3) {ws:List Nat} (hP:Pl M ws) :
  pullL (exM left a b M) (!left) a b (pairsL (keptL a b (pullL M left a b (pairsL (keptL a b ws)))))=match ws with
   | []=>[]
   | c :: r=>if keepB a b c=true then c :: r else r ++ [c]:=by
 have hMb:=(td.inv a b hM).1
 have hkw:∀ q∈keptL a b ws,q∈ws∧keepB a b q=true:=fun q hq=>List.mem_filter.mp hq
 have ef:(pairsL (keptL a b ws)).map Prod.fst=keptL a b ws:=by
  unfold pairsL
  refine List.map_fst_zip ?_
  have:=pairs_len (keptL a b ws)
  unfold pairsL at this
  rw [List.length_zip] at this
  omega
 have e1:keptL a b (pullL M left a b (pairsL (keptL a b ws)))=(keptL a b ws).map (mvN left a b):=by
  rw [kept_pull hab _ fun q hq=>(hkw q.1 (by rw [← ef]; exact List.mem_map.mpr ⟨q,hq,rfl⟩)).2]
  conv=>rhs; rw [← ef]
  rw [List.map_map]
  rfl
 rw [e1,back_pull td hM hab _ fun q hq=>hP.has q (hkw q hq).1]
 cases ws with
 | nil=>exact absurd rfl hP.ne
 | cons c r =>
  by_cases hc:keepB a b c=true
  ·show _=if keepB a b c=true then c :: r else r ++ [c]
   rw [if_pos hc]
   have ek:keptL a b (c :: r)=c :: r.filter (keepB a b):=List.filter_cons_of_pos hc
   rw [ek,pairs_cons]
   exact recon hM hMb hab r.length r c c (Nat.le_refl _) hc hP.toChain
  ·show _=if keepB a b c=true then c :: r else r ++ [c]
   rw [if_neg hc]
   have ch:=hP.toChain
   have ek:keptL a b (c :: r)=r.filter (keepB a b):=List.filter_cons_of_neg hc
   rw [ek]
   have fd:∃ d,M[c]?=some (some d)∧c / 3≠d / 3∧((c=a∧d=b)∨(c=b∧d=a)):=by
    rcases not_keep hc with y | y
    ·exact ⟨b,by rw [y]; exact hM,by rw [y]; exact hab,.inl ⟨y,rfl⟩⟩
    ·exact ⟨a,by rw [y]; exact hMb,by rw [y]; exact Ne.symm hab,.inr ⟨y,rfl⟩⟩
   obtain ⟨d,hd,hcd,hcab⟩:=fd
   cases r with
   | nil =>
    obtain ⟨d',hd',n1,_⟩:=ch 0 c c rfl rfl
    rw [hd] at hd'
    cases hd'
    exact absurd n1 hcd
   | cons h r' =>
    obtain ⟨d',hd',n1,n2⟩:=ch 0 c h rfl rfl
    rw [hd] at hd'
    cases hd'
    have n3:h≠c:=fun y=>hcd (by rw [← y,n1])
    have hk:keepB a b h=true:=by
     unfold keepB
     have:h≠a∧h≠b:=by
      rcases hcab with ⟨y1,y2⟩ | ⟨y1,y2⟩
      ·rw [← y1,← y2]; exact ⟨n3,n2⟩
      ·rw [← y1,← y2]; exact ⟨n2,n3⟩
     rw [decide_eq_false this.1,decide_eq_false this.2]
     rfl
    have eF:(r' ++ [c]).filter (keepB a b)=r'.filter (keepB a b):=by
     rw [List.filter_append,List.filter_cons_of_neg hc]
     simp
    rw [List.filter_cons_of_pos hk,pairs_cons]
    have C2:CH (Nx M) (h :: (r' ++ [c]) ++ [h]):=by
     have c1:CH (Nx M) (h :: r' ++ [c]):=CH.tail ch
     have c2:CH (Nx M) [c,h]:=fun k u v hu hv=>by
      have hk2:k + 1 < 2:=(List.getElem?_eq_some_iff.mp hv).1
      have hk0:k=0:=by omega
      subst hk0
      exact ch 0 u v hu hv
     have:=CH.app c1 c2
     have e:h :: (r' ++ [c]) ++ [h]=h :: r' ++ c :: [h]:=by simp
     rw [e]
     exact this
    have:=recon hM hMb hab (r' ++ [c]).length (r' ++ [c]) h h (Nat.le_refl _) hk C2
    rw [eF] at this
    exact this
end
end KT
set_option maxHeartbeats 4000000
namespace KT
open PySem L2
section
variable {M:List (Option Nat)} {ns:List Int} {left:Bool} {a b:Nat}
theorem sides (td:TD M ns) (hM:M[a]?=some (some b)) (hab:a / 3≠b / 3) {ws:List Nat} (hP:Pl M ws) {k h f:Nat} (hh:(keptL a b ws)[k]?=some h) (hf:(keptL a b ws)[(k + 1) % (keptL a b ws).length]?=some f) :
  mvN left a b (mtN M h) / 3≠mvN left a b f / 3→(mvN left a b (mtN M h) / 3=a / 3∧mvN left a b f / 3=b / 3)∨(mvN left a b (mtN M h) / 3=b / 3∧mvN left a b f / 3=a / 3):=by
 obtain ⟨m,hm,key⟩:=next_kept td hM hab hP hh hf
 rw [mtN_of hm]
 intro hc
 have hm3:m / 3=a / 3∨m / 3=b / 3:=by
  rcases key with k1 | k1 | k1
  ·refine Classical.byContradiction fun z=>hc ?_
   have c1:m / 3≠a / 3:=fun y=>z (.inl y)
   have c2:m / 3≠b / 3:=fun y=>z (.inr y)
   rw [mv_out c1 c2,mv_out (by rw [k1.1]; exact c1) (by rw [k1.1]; exact c2),k1.1]
  ·exact .inl k1.1
  ·exact .inr k1.1
 have hf3:f / 3=a / 3∨f / 3=b / 3:=by
  rcases key with k1 | k1 | k1
  ·rw [k1.1]; exact hm3
  ·exact .inr k1.2
  ·exact .inl k1.2
 have xm:=mv_cloth (left:=left) hm3
 have xf:=mv_cloth (left:=left) hf3
 rcases xm with xm | xm
 ·exact .inl ⟨xm,xf.resolve_left fun z=>hc (xm.trans z.symm)⟩
 ·exact .inr ⟨xm,xf.resolve_right fun z=>hc (xm.trans z.symm)⟩
end
end KT
set_option maxHeartbeats 4000000
namespace KT
open PySem L2
theorem rot_app {α:Type} (A B:List α):rot (A ++ B) A.length=B ++ A:=by unfold rot; simp
noncomputable def Tn {α:Type} (u v:List α):Prop:=∃ A B,u=A ++ B∧v=B ++ A
theorem Tn.rot {α:Type} {u v:List α} (h:Tn u v):∃ s,s≤u.length∧v=KT.rot u s:=by
 obtain ⟨A,B,rfl,rfl⟩:=h
 exact ⟨A.length,by simp,(rot_app A B).symm⟩
theorem Tn.refl {α:Type} (u:List α):Tn u u:=⟨[],u,rfl,(List.append_nil u).symm⟩
section
variable {M:List (Option Nat)} {ns:List Int} {left:Bool} {a b:Nat}
noncomputable abbrev pW (M:List (Option Nat)) (left:Bool) (a b:Nat) (ws:List Nat):List Nat:=pullL M left a b (pairsL (keptL a b ws))
theorem back_turn (td:TD M ns) (hM:M[a]?=some (some b)) (hab:a / 3≠b / 3) {ws:List Nat} (hP:Pl M ws):Tn ws (pW (exM left a b M) (!left) a b (pW M left a b ws)):=by
 have h:=pulled_back (left:=left) td hM hab hP
 unfold pW
 rw [h]
 cases ws with
 | nil=>exact Tn.refl _
 | cons c r =>
  show Tn (c :: r) (if keepB a b c=true then c :: r else r ++ [c])
  split
  ·exact Tn.refl _
  ·exact ⟨[c],r,rfl,rfl⟩
end
end KT
set_option maxHeartbeats 4000000
namespace KT
open PySem L2
end KT
set_option maxHeartbeats 4000000
namespace KT
open PySem L2
structure Mv (M:List (Option Nat)) (ns:List Int) (x:Int) (a b:Nat):Prop where
 hM:M[a]?=some (some b)
 lt:a < b
 nm:ns[a]?=some x
 ab:a / 3≠b / 3
section
variable {M M':List (Option Nat)} {ns ns':List Int} {ws ws':List Nat} {mv:List (Int × Bool)} {x:Int} {left:Bool} {a b:Nat}
theorem Mv.lts (h:Mv M ns x a b) (td:TD M ns):a < M.length∧b < M.length:=⟨(List.getElem?_eq_some_iff.mp h.hM).1,(List.getElem?_eq_some_iff.mp (td.inv a b h.hM).1).1⟩
theorem Mv.td (h:Mv M ns x a b) (td:TD M ns):TD (exM left a b M) (exN left a b ns):=td.ex (h.lts td).1 (h.lts td).2 h.ab left
end
end KT
set_option maxHeartbeats 4000000
namespace KT
open PySem L2
end KT
set_option maxHeartbeats 4000000
namespace L2
open PySem PySem.Spec PyProof.Rows PySem.SeqAt
section
variable {X:Cx}
theorem ip_mulB:PIp X .Mult (fun x y H Q=>∃ i j,x=.int i∧y=.int j∧IntMulOk i j∧Q (.int (i * j)) H):=by
 intro pins s σ H x y v u Q I r1 r2 h
 obtain ⟨i,j,e1,e2,hc,q⟩:=h
 subst e1; subst e2
 obtain ⟨t,rfl⟩:=r1
 obtain ⟨t',rfl⟩:=r2
 exact imul_int ⟨.int _,H,I.tok _,⟨_,rfl⟩,q⟩ hc
end
end L2
set_option maxHeartbeats 4000000
namespace L2
open PySem PySem.Spec PyProof.Rows
noncomputable abbrev TBX:=St→Hp→(St→Hp→Prop)→XK→Prop
end L2
set_option maxHeartbeats 4000000
namespace L2
open PySem PySem.Spec PyProof.Rows
end L2
set_option maxHeartbeats 4000000
namespace HL
open PySem PyProof.Rows HT
end HL
namespace L2
open PySem PySem.Spec PyProof.Rows
end L2
set_option maxHeartbeats 4000000
namespace L2
open PySem PySem.Spec PyProof.Rows
noncomputable def CPowB (i j:Int):Prop:=0≤j∧(Builtin.Int.intBits i:Int) * j≤2 ^ 27
theorem op_powB {X:Cx}:OpR X (binaryOp .Pow) (rI CPowB fun i j=>.int (i ^ j.toNat)):=opI fun _ _ _ _ _ _ _ hc q=>pow_int hc.1 hc.2 q
theorem ip_fdivB {X:Cx}:PIp X .FloorDiv (fun x y H Q=>∃ i j,x=.int i∧y=.int j∧CDivB i j∧Q (.int (i / j)) H):=by
 intro pins s σ H x y v u Q I r1 r2 h
 obtain ⟨i,j,e1,e2,hc,q⟩:=h
 subst e1; subst e2
 obtain ⟨t,rfl⟩:=r1
 obtain ⟨t',rfl⟩:=r2
 have h1:(0:Int) < j:=hc.1
 refine ifloordiv_int (by omega) ?_ (.inl (PyProof.noPylong_of_log2 hc.2))
 rw [Int.fdiv_eq_ediv_of_nonneg i (by omega)]
 exact ⟨.int _,H,I.tok _,⟨_,rfl⟩,q⟩
end L2
set_option maxHeartbeats 4000000
namespace KT
open PySem L2
noncomputable def aN (a:Nat):Nat:=(after a).toNat
noncomputable def bN (a:Nat):Nat:=(before a).toNat
theorem aN_eq (a:Nat):after a=(aN a:Int):=(Int.toNat_of_nonneg (after_div a).2.2).symm
theorem bN_eq (a:Nat):before a=(bN a:Int):=(Int.toNat_of_nonneg (before_div a).2.2).symm
theorem aN_val (a:Nat):aN a=if a % 3=2 then a - 2 else a + 1:=by
 have h:=aN_eq a
 unfold after at h
 split at h <;> split <;> omega
theorem bN_val (a:Nat):bN a=if a % 3=0 then a + 2 else a - 1:=by
 have h:=bN_eq a
 unfold before at h
 split at h <;> split <;> omega
theorem d3_0 (q:Nat):3 * q / 3=q:=Nat.mul_div_cancel_left q (by decide)
theorem d3_1 (q:Nat):(3 * q + 1) / 3=q:=by rw [Nat.mul_add_div (by decide)]; rfl
theorem d3_2 (q:Nat):(3 * q + 2) / 3=q:=by rw [Nat.mul_add_div (by decide)]; rfl
theorem aN_0 (q:Nat):aN (3 * q)=3 * q + 1:=by rw [aN_val,if_neg (by rw [Nat.mul_mod_right]; decide)]
theorem aN_1 (q:Nat):aN (3 * q + 1)=3 * q + 2:=by rw [aN_val,if_neg (by rw [Nat.mul_add_mod]; decide)]
theorem aN_2 (q:Nat):aN (3 * q + 2)=3 * q:=by rw [aN_val,if_pos (by rw [Nat.mul_add_mod])]; rfl
theorem bN_0 (q:Nat):bN (3 * q)=3 * q + 2:=by rw [bN_val,if_pos (Nat.mul_mod_right 3 q)]
theorem bN_1 (q:Nat):bN (3 * q + 1)=3 * q:=by rw [bN_val,if_neg (by rw [Nat.mul_add_mod]; decide)]; rfl
theorem bN_2 (q:Nat):bN (3 * q + 2)=3 * q + 1:=by rw [bN_val,if_neg (by rw [Nat.mul_add_mod]; decide)]; rfl
theorem three (a:Nat):∃ q,a=3 * q∨a=3 * q + 1∨a=3 * q + 2:=⟨a / 3,by omega⟩
theorem sidesN (a:Nat):aN a / 3=a / 3∧bN a / 3=a / 3∧aN (aN a)=bN a∧bN (aN a)=a∧aN (bN a)=a∧bN (bN a)=aN a∧aN a≠a∧bN a≠a∧aN a≠bN a:=by
 have n1:∀ q,q + 1≠q:=fun q=>Nat.succ_ne_self q
 have n2:∀ q,q + 2≠q:=fun q h=>Nat.ne_of_gt (Nat.lt_add_of_pos_right (n:=q) (k:=2) (by decide)) h
 obtain ⟨q,rfl | rfl | rfl⟩:=three a
 ·rw [aN_0,bN_0,aN_1,bN_1,aN_2,bN_2,d3_0,d3_1,d3_2]
  exact ⟨rfl,rfl,rfl,rfl,rfl,rfl,n1 _,n2 _,fun h=>n1 _ h.symm⟩
 ·rw [aN_1,bN_1,aN_2,bN_2,aN_0,bN_0,d3_0,d3_1,d3_2]
  exact ⟨rfl,rfl,rfl,rfl,rfl,rfl,n1 _,fun h=>n1 _ h.symm,n2 _⟩
 ·rw [aN_2,bN_2,aN_0,bN_0,aN_1,bN_1,d3_0,d3_1,d3_2]
  exact ⟨rfl,rfl,rfl,rfl,rfl,rfl,fun h=>n2 _ h.symm,fun h=>n1 _ h.symm,fun h=>n1 _ h.symm⟩
theorem cloth_cases (a z:Nat) (h:z / 3=a / 3):z=a∨z=aN a∨z=bN a:=by
 have h1:=aN_val a
 have h2:=bN_val a
 split at h1 <;> split at h2 <;> omega
theorem sideN_lt {a n:Nat} (h:a < 3 * n):aN a < 3 * n∧bN a < 3 * n:=by
 obtain ⟨h1,h2,_⟩:=sidesN a
 exact ⟨by omega,by omega⟩
structure PC (M:List (Option Nat)) (f:Nat→Int):Prop where
 nn:∀ p,p < M.length→0≤f p
 rim:∀ p:Nat,M[p]?=some none→f p=0
 mate:∀ p q:Nat,M[p]?=some (some q)→f q=f p
 even:∀ p,p < M.length→(f p + f (aN p) + f (bN p)) % 2=0
 tri:∀ p,p < M.length→f p≤f (aN p) + f (bN p)
noncomputable def mx (x y:Int):Int:=if y > x then y else x
noncomputable def bh (f:Nat→Int) (a b:Nat):Int:=mx (f (aN a) + f (aN b)) (f (bN a) + f (bN b)) - f a
noncomputable def fx (left:Bool) (a b:Nat) (f:Nat→Int) (z:Nat):Int:=if z=a∨z=b then bh f a b else f (mvN (!left) a b z)
end KT
set_option maxHeartbeats 4000000
namespace KT
open PySem L2
noncomputable def sF (f:Nat→Int):Nat→Int
 | 0=>0
 | n + 1=>sF f n + f n
end KT
set_option maxHeartbeats 4000000
namespace KT
open PySem L2
end KT
set_option maxHeartbeats 4000000
namespace KT
open PySem L2
end KT
set_option maxHeartbeats 4000000
namespace KT
open PySem L2
section
variable {M:List (Option Nat)} {ns:List Int} {f:Nat→Int} {g:Int→Int}
noncomputable def mu (M:List (Option Nat)) (p:Nat):Nat:=match (M[p]?).join with
 | some q=>q
 | none=>p
end
end KT
set_option maxHeartbeats 4000000
namespace KT
noncomputable def lowN (m n:Nat):Nat × Nat:=(m / Nat.gcd m n,n / Nat.gcd m n)
structure Val (v:Nat × Nat) (N D:Nat):Prop where
 p1:0 < v.1
 p2:0 < v.2
 co:Nat.gcd v.1 v.2=1
 eq:v.1 * D=v.2 * N
theorem low_val {m n:Nat} (hm:0 < m) (hn:0 < n):Val (lowN m n) m n:=by
 have g0:0 < Nat.gcd m n:=Nat.gcd_pos_of_pos_left _ hm
 have d1:=Nat.gcd_dvd_left m n
 have d2:=Nat.gcd_dvd_right m n
 refine ⟨Nat.div_pos (Nat.le_of_dvd hm d1) g0,Nat.div_pos (Nat.le_of_dvd hn d2) g0,?_,?_⟩
 ·show Nat.gcd (m / Nat.gcd m n) (n / Nat.gcd m n)=1
  rw [Nat.gcd_div d1 d2,Nat.div_self g0]
 ·show m / Nat.gcd m n * n=n / Nat.gcd m n * m
  obtain ⟨a,ha⟩:=d1
  obtain ⟨b,hb⟩:=d2
  generalize Nat.gcd m n=g at *
  subst ha hb
  rw [Nat.mul_div_cancel_left _ g0,Nat.mul_div_cancel_left _ g0]
  simp only [Nat.mul_comm,Nat.mul_left_comm]
theorem lowN_le (m n:Nat):(lowN m n).1≤m∧(lowN m n).2≤n:=⟨Nat.div_le_self _ _,Nat.div_le_self _ _⟩
theorem Val.uniq {v w:Nat × Nat} {N D:Nat} (h1:Val v N D) (h2:Val w N D) (hD:0 < D):v=w:=by
 have e:v.1 * w.2=v.2 * w.1:=by
  refine Nat.eq_of_mul_eq_mul_right hD ?_
  calc v.1 * w.2 * D=w.2 * (v.1 * D):=by simp only [Nat.mul_comm,Nat.mul_left_comm]
   _=w.2 * (v.2 * N):=by rw [h1.eq]
   _=v.2 * (w.2 * N):=by simp only [Nat.mul_comm,Nat.mul_left_comm]
   _=v.2 * (w.1 * D):=by rw [h2.eq]
   _=v.2 * w.1 * D:=by rw [Nat.mul_assoc]
 have c1:Nat.Coprime v.1 v.2:=h1.co
 have c2:Nat.Coprime w.1 w.2:=h2.co
 have d1:v.1 ∣ w.1:=c1.dvd_of_dvd_mul_left (by rw [← e]; exact Nat.dvd_mul_right _ _)
 have d2:w.1 ∣ v.1:=c2.dvd_of_dvd_mul_left (by rw [Nat.mul_comm w.2,e]; exact Nat.dvd_mul_left _ _)
 have e1:v.1=w.1:=Nat.dvd_antisymm d1 d2
 have e2:v.2=w.2:=by
  rw [e1,Nat.mul_comm] at e
  exact (Nat.eq_of_mul_eq_mul_right h2.p1 e).symm
 exact Prod.ext e1 e2
theorem Val.to {v:Nat × Nat} {N D N' D':Nat} (h:Val v N D) (hN:0 < N) (e:N * D'=D * N'):Val v N' D':=by
 refine ⟨h.p1,h.p2,h.co,?_⟩
 refine Nat.eq_of_mul_eq_mul_right hN ?_
 calc v.1 * D' * N=v.1 * (N * D'):=by simp only [Nat.mul_comm,Nat.mul_left_comm]
  _=v.1 * (D * N'):=by rw [e]
  _=v.1 * D * N':=by rw [Nat.mul_assoc]
  _=v.2 * N * N':=by rw [h.eq]
  _=v.2 * N' * N:=by simp only [Nat.mul_comm,Nat.mul_left_comm]
noncomputable def lw2 (v f:Nat × Nat):Nat × Nat:=lowN (v.1 * f.1) (v.2 * f.2)
theorem Val.mul {v f:Nat × Nat} {N D:Nat} (h:Val v N D) (f1:0 < f.1) (f2:0 < f.2):Val (lw2 v f) (N * f.1) (D * f.2):=by
 refine (low_val (Nat.mul_pos h.p1 f1) (Nat.mul_pos h.p2 f2)).to (Nat.mul_pos h.p1 f1) ?_
 calc v.1 * f.1 * (D * f.2)=v.1 * D * (f.1 * f.2):=by simp only [Nat.mul_comm,Nat.mul_left_comm]
  _=v.2 * N * (f.1 * f.2):=by rw [h.eq]
  _=v.2 * f.2 * (N * f.1):=by simp only [Nat.mul_comm,Nat.mul_left_comm]
theorem gcd_mul_le {v f:Nat × Nat} (co:Nat.gcd v.1 v.2=1) (f1:0 < f.1) (f2:0 < f.2):Nat.gcd (v.1 * f.1) (v.2 * f.2)≤f.1 * f.2:=by
 refine Nat.le_of_dvd (Nat.mul_pos f1 f2) ?_
 have d1:Nat.gcd (v.1 * f.1) (v.2 * f.2) ∣ v.1 * (f.1 * f.2):=by
  rw [← Nat.mul_assoc]; exact Nat.dvd_trans (Nat.gcd_dvd_left _ _) (Nat.dvd_mul_right _ _)
 have d2:Nat.gcd (v.1 * f.1) (v.2 * f.2) ∣ v.2 * (f.1 * f.2):=by
  rw [Nat.mul_comm f.1,← Nat.mul_assoc]; exact Nat.dvd_trans (Nat.gcd_dvd_right _ _) (Nat.dvd_mul_right _ _)
 have:=Nat.dvd_gcd d1 d2
 rw [Nat.gcd_mul_right,co,Nat.one_mul] at this
 exact this
noncomputable def frc (tu:Nat × Nat) (k:Nat):Nat × Nat:=if k % 2=0 then (tu.1 + tu.2,tu.2) else (tu.1,tu.1 + tu.2)
theorem frc_pos {tu:Nat × Nat} (h1:0 < tu.1) (h2:0 < tu.2) (k:Nat):0 < (frc tu k).1∧0 < (frc tu k).2:=by
 unfold frc
 split
 ·exact ⟨Nat.add_pos_left h1 _,h2⟩
 ·exact ⟨h1,Nat.add_pos_left h1 _⟩
theorem frc_le (tu:Nat × Nat) (k:Nat):(frc tu k).1≤tu.1 + tu.2∧(frc tu k).2≤tu.1 + tu.2:=by
 unfold frc
 split
 ·exact ⟨Nat.le_refl _,Nat.le_add_left _ _⟩
 ·exact ⟨Nat.le_add_right _ _,Nat.le_refl _⟩
noncomputable def putG (g:Int→Nat × Nat) (x:Int) (v:Nat × Nat):Int→Nat × Nat:=fun y=>if y=x then v else g y
noncomputable def stG (ks:List Int) (xs:List Int) (tu:Nat × Nat) (g:Int→Nat × Nat):Nat→Int→Nat × Nat
 | 0=>g
 | k + 1=>if xs.getD k 0∈ks then putG (stG ks xs tu g k) (xs.getD k 0) (lw2 (stG ks xs tu g k (xs.getD k 0)) (frc tu k)) else stG ks xs tu g k
noncomputable def strG (ks:List Int) (xs:List Int) (x:Int) (g:Int→Nat × Nat):Int→Nat × Nat:=putG (stG ks xs (g x) g 4) x ((g x).2,(g x).1)
noncomputable def lowG (g:Int→Nat × Nat):Int→Nat × Nat:=fun x=>lowN (g x).1 (g x).2
noncomputable def chN (e:Nat→Bool) (tu v:Nat × Nat):Nat→Nat × Nat
 | 0=>v
 | k + 1=>if e k=true then lw2 (chN e tu v k) (frc tu k) else chN e tu v k
noncomputable def nuN (e:Nat→Bool) (tu:Nat × Nat):Nat→Nat
 | 0=>1
 | k + 1=>if e k=true then nuN e tu k * (frc tu k).1 else nuN e tu k
noncomputable def deN (e:Nat→Bool) (tu:Nat × Nat):Nat→Nat
 | 0=>1
 | k + 1=>if e k=true then deN e tu k * (frc tu k).2 else deN e tu k
noncomputable def cnN (e:Nat→Bool):Nat→Nat
 | 0=>0
 | k + 1=>if e k=true then cnN e k + 1 else cnN e k
noncomputable def flg (ks xs:List Int) (y:Int) (k:Nat):Bool:=decide (xs.getD k 0=y∧y∈ks)
theorem stG_at (ks xs:List Int) (tu:Nat × Nat) (g:Int→Nat × Nat) (y:Int):∀ k,stG ks xs tu g k y=chN (flg ks xs y) tu (g y) k
 | 0=>rfl
 | k + 1=>by
  have ih:=stG_at ks xs tu g y k
  unfold stG chN
  by_cases c:xs.getD k 0∈ks
  ·rw [if_pos c]
   unfold putG
   by_cases z:y=xs.getD k 0
   ·rw [if_pos z,if_pos (by unfold flg; exact decide_eq_true ⟨z.symm,z ▸ c⟩),← ih,z]
   ·rw [if_neg z,if_neg (by unfold flg; rw [decide_eq_false (fun q=>z q.1.symm)]; decide)]
    exact ih
  ·rw [if_neg c,if_neg (by unfold flg; rw [decide_eq_false (show ¬ (xs.getD k 0=y∧y∈ks) from fun q=>c (by rw [q.1]; exact q.2))]; decide)]
   exact ih
theorem nu_pos {e:Nat→Bool} {tu:Nat × Nat} (h1:0 < tu.1) (h2:0 < tu.2):∀ k,0 < nuN e tu k∧0 < deN e tu k
 | 0=>⟨Nat.one_pos,Nat.one_pos⟩
 | k + 1=>by
  obtain ⟨i1,i2⟩:=nu_pos (e:=e) h1 h2 k
  obtain ⟨f1,f2⟩:=frc_pos h1 h2 k
  unfold nuN deN
  split
  ·exact ⟨Nat.mul_pos i1 f1,Nat.mul_pos i2 f2⟩
  ·exact ⟨i1,i2⟩
theorem ch_val {e:Nat→Bool} {tu v:Nat × Nat} {N D:Nat} (h:Val v N D) (h1:0 < tu.1) (h2:0 < tu.2):∀ k,Val (chN e tu v k) (N * nuN e tu k) (D * deN e tu k)
 | 0=>by
  show Val v (N * 1) (D * 1)
  rw [Nat.mul_one,Nat.mul_one]
  exact h
 | k + 1=>by
  have ih:=ch_val (e:=e) h h1 h2 k
  obtain ⟨f1,f2⟩:=frc_pos h1 h2 k
  unfold chN nuN deN
  split
  ·rw [← Nat.mul_assoc,← Nat.mul_assoc]
   exact ih.mul f1 f2
  ·exact ih
theorem ch_le {e:Nat→Bool} {tu v:Nat × Nat} {B S:Nat} (hv:v.1≤B∧v.2≤B) (hS:tu.1 + tu.2≤S) (h1:1≤S):∀ k,(chN e tu v k).1≤B * S ^ cnN e k∧(chN e tu v k).2≤B * S ^ cnN e k
 | 0=>by
  show v.1≤B * S ^ 0∧v.2≤B * S ^ 0
  rw [Nat.pow_zero,Nat.mul_one]
  exact hv
 | k + 1=>by
  obtain ⟨i1,i2⟩:=ch_le (e:=e) (tu:=tu) hv hS h1 k
  obtain ⟨f1,f2⟩:=frc_le tu k
  unfold chN cnN
  split
  ·rw [Nat.pow_succ,← Nat.mul_assoc]
   unfold lw2
   obtain ⟨l1,l2⟩:=lowN_le ((chN e tu v k).1 * (frc tu k).1) ((chN e tu v k).2 * (frc tu k).2)
   exact ⟨Nat.le_trans l1 (Nat.mul_le_mul i1 (Nat.le_trans f1 hS)),Nat.le_trans l2 (Nat.mul_le_mul i2 (Nat.le_trans f2 hS))⟩
  ·exact ⟨i1,i2⟩
end KT
set_option maxHeartbeats 4000000
namespace KT
open PySem L2
section
variable {M:List (Option Nat)} {ns:List Int} {x y:Int} {a b:Nat}
noncomputable def SwN (M:List (Option Nat)) (ns:List Int) (x:Int):Prop:=∃ p j:Nat,M[p]?=some (some j)∧ns[p]?=some x
structure SwK (M:List (Option Nat)) (ns:List Int) (ks:List Int):Prop where
 nd:ks.Nodup
 mem:∀ x,x∈ks ↔ SwN M ns x
theorem SwK.perm {ks ls:List Int} (h:SwK M ns ks) (g:SwK M ns ls):ks.Perm ls:=(List.perm_ext_iff_of_nodup h.nd g.nd).mpr fun x=>(h.mem x).trans (g.mem x).symm
theorem SwN.key (td:TD M ns) (h:SwN M ns x):x∈keys ns ns.length:=by
 obtain ⟨p,j,_,e⟩:=h
 exact keys_mem.mpr ⟨p,(List.getElem?_eq_some_iff.mp e).1,e⟩
theorem SwN.ex (td:TD M ns) (mv:Mv M ns x a b) (left:Bool) (h:SwN M ns y):SwN (exM left a b M) (exN left a b ns) y:=by
 obtain ⟨p,j,h1,h2⟩:=h
 obtain ⟨ha,hb⟩:=mv.lts td
 obtain ⟨n,n1,n40,hn⟩:=td.n
 have hp:p < M.length:=(List.getElem?_eq_some_iff.mp h1).1
 have hq:mvN left a b p < M.length:=by rw [hn] at ha hb hp ⊢; exact mvN_lt ha hb left hp
 refine ⟨mvN left a b p,mvN left a b j,?_,?_⟩
 ·rw [exM_get td ha hb mv.ab left hq,mvN_inv mv.ab,h1]; rfl
 ·rw [exN_get td ha hb mv.ab left hq,mvN_inv mv.ab,h2]
theorem SwN.exI (td:TD M ns) (mv:Mv M ns x a b) (left:Bool) (h:SwN (exM left a b M) (exN left a b ns) y):SwN M ns y:=by
 obtain ⟨p,j,h1,h2⟩:=h
 obtain ⟨ha,hb⟩:=mv.lts td
 have hp:p < M.length:=by have:=(List.getElem?_eq_some_iff.mp h1).1; rw [exM_len] at this; exact this
 rw [exM_get td ha hb mv.ab left hp] at h1
 rw [exN_get td ha hb mv.ab left hp] at h2
 cases c:M[mvN (!left) a b p]? with
 | none=>rw [c] at h1; cases h1
 | some m =>
  rw [c] at h1
  cases m with
  | none=>cases h1
  | some q=>exact ⟨_,q,c,h2⟩
theorem SwK.ex {ks:List Int} (td:TD M ns) (mv:Mv M ns x a b) (left:Bool) (h:SwK M ns ks):SwK (exM left a b M) (exN left a b ns) ks :=
 ⟨h.nd,fun y=>⟨fun z=>((h.mem y).mp z).ex td mv left,fun z=>(h.mem y).mpr (z.exI td mv left)⟩⟩
noncomputable def sqX (ns:List Int) (a b:Nat):List Int:=[ns.getD (aN a) 0,ns.getD (bN a) 0,ns.getD (aN b) 0,ns.getD (bN b) 0]
noncomputable def sqP (a b:Nat):Nat→Nat
 | 0=>aN a
 | 1=>bN a
 | 2=>aN b
 | _=>bN b
theorem sqX_at {k:Nat} (h:k < 4):(sqX ns a b).getD k 0=ns.getD (sqP a b k) 0:=by
 have:k=0∨k=1∨k=2∨k=3:=by omega
 rcases this with rfl | rfl | rfl | rfl <;> rfl
theorem sqP_lt {n k:Nat} (ha:a < 3 * n) (hb:b < 3 * n):sqP a b k < 3 * n:=by
 obtain ⟨a1,a2⟩:=sideN_lt ha
 obtain ⟨b1,b2⟩:=sideN_lt hb
 unfold sqP
 split <;> assumption
theorem ne_cloth {p q a b:Nat} (hab:a / 3≠b / 3) (hp:p / 3=a / 3) (hq:q / 3=b / 3):p≠q:=fun z=>hab (by rw [← hp,← hq,z])
theorem sqP_ne (hab:a / 3≠b / 3):∀ i j,i < 4→j < 4→i≠j→sqP a b i≠sqP a b j:=by
 intro i j hi hj hij
 obtain ⟨a1,a2,_,_,_,_,_,_,a3⟩:=sidesN a
 obtain ⟨b1,b2,_,_,_,_,_,_,b3⟩:=sidesN b
 have hba:=Ne.symm hab
 have hi':i=0∨i=1∨i=2∨i=3:=by omega
 have hj':j=0∨j=1∨j=2∨j=3:=by omega
 rcases hi' with rfl | rfl | rfl | rfl <;> rcases hj' with rfl | rfl | rfl | rfl <;> first | exact absurd rfl hij | exact a3 | exact Ne.symm a3 | exact b3 | exact Ne.symm b3 | exact ne_cloth hab a1 b1 | exact ne_cloth hab a1 b2 | exact ne_cloth hab a2 b1 | exact ne_cloth hab a2 b2 | exact ne_cloth hba b1 a1 | exact ne_cloth hba b1 a2 | exact ne_cloth hba b2 a1 | exact ne_cloth hba b2 a2
theorem nm_at {p:Nat} (td:TD M ns) (hp:p < M.length):ns[p]?=some (ns.getD p 0):=by
 have:=td.len
 rw [List.getD_eq_getElem?_getD,List.getElem?_eq_getElem (by omega)]
 rfl
theorem sqX_two (td:TD M ns) (mv:Mv M ns x a b) (ks:List Int) (y:Int):cnN (flg ks (sqX ns a b) y) 4≤2:=by
 obtain ⟨ha,hb⟩:=mv.lts td
 obtain ⟨n,n1,n40,hn⟩:=td.n
 have lt:∀ k,sqP a b k < M.length:=fun k=>by rw [hn] at ha hb ⊢; exact sqP_lt ha hb
 have at':∀ k,k < 4→flg ks (sqX ns a b) y k=true→ns[sqP a b k]?=some y:=fun k hk h=>by
  have h:=(of_decide_eq_true h).1
  rw [sqX_at hk] at h
  rw [nm_at td (lt k),h]
 have three:∀ i j k,i < 4→j < 4→k < 4→i≠j→i≠k→j≠k→flg ks (sqX ns a b) y i=true→flg ks (sqX ns a b) y j=true→flg ks (sqX ns a b) y k=true→False:=by
  intro i j k hi hj hk h1 h2 h3 e1 e2 e3
  have q1:=at' i hi e1
  have q2:=at' j hj e2
  have q3:=at' k hk e3
  rcases td.eqv _ _ y q1 q2 with z | z
  ·exact sqP_ne mv.ab i j hi hj h1 z
  ·rcases td.eqv _ _ y q1 q3 with z' | z'
   ·exact sqP_ne mv.ab i k hi hk h2 z'
   ·rw [z] at z'
    injection z' with z'
    injection z' with z'
    exact sqP_ne mv.ab j k hj hk h3 z'
 have t1:=three 0 1 2 (by decide) (by decide) (by decide) (by decide) (by decide) (by decide)
 have t2:=three 0 1 3 (by decide) (by decide) (by decide) (by decide) (by decide) (by decide)
 have t3:=three 0 2 3 (by decide) (by decide) (by decide) (by decide) (by decide) (by decide)
 have t4:=three 1 2 3 (by decide) (by decide) (by decide) (by decide) (by decide) (by decide)
 simp only [cnN]
 generalize flg ks (sqX ns a b) y 0=e0 at *
 generalize flg ks (sqX ns a b) y 1=e1 at *
 generalize flg ks (sqX ns a b) y 2=e2 at *
 generalize flg ks (sqX ns a b) y 3=e3 at *
 revert t1 t2 t3 t4
 cases e0 <;> cases e1 <;> cases e2 <;> cases e3 <;> simp
end
end KT
set_option maxHeartbeats 4000000
namespace KT
open PySem L2
noncomputable def Bq:Nat→Nat
 | 0=>7
 | k + 1=>3 * Bq k + 2
noncomputable def Bd (B:Nat) (v:Nat × Nat):Prop:=1≤v.1∧1≤v.2∧v.1 < 2 ^ B∧v.2 < 2 ^ B
theorem Bd.up {B C:Nat} {v:Nat × Nat} (h:Bd B v) (l:B≤C):Bd C v:=⟨h.1,h.2.1,Nat.lt_of_lt_of_le h.2.2.1 (Nat.pow_le_pow_right (by decide) l),Nat.lt_of_lt_of_le h.2.2.2 (Nat.pow_le_pow_right (by decide) l)⟩
theorem Bd.low {B:Nat} {g:Int→Nat × Nat} {y:Int} (h:Bd B (g y)):Bd B (lowG g y)∧Val (lowG g y) (g y).1 (g y).2:=by
 have v:=low_val h.1 h.2.1
 have l:=lowN_le (g y).1 (g y).2
 exact ⟨⟨v.p1,v.p2,Nat.lt_of_le_of_lt l.1 h.2.2.1,Nat.lt_of_le_of_lt l.2 h.2.2.2⟩,v⟩
section
variable {M:List (Option Nat)} {ns ks:List Int} {x y:Int} {a b B:Nat} {g:Int→Nat × Nat}
theorem str_own:strG ks (sqX ns a b) x (lowG g) x=((lowG g x).2,(lowG g x).1):=by unfold strG putG; rw [if_pos rfl]
theorem str_else (h:y≠x):strG ks (sqX ns a b) x (lowG g) y=chN (flg ks (sqX ns a b) y) (lowG g x) (lowG g y) 4:=by unfold strG putG; rw [if_neg h,stG_at]
theorem str_co (hx:Bd B (g x)) (hy:Bd B (g y)):Nat.gcd (strG ks (sqX ns a b) x (lowG g) y).1 (strG ks (sqX ns a b) x (lowG g) y).2=1∧1≤(strG ks (sqX ns a b) x (lowG g) y).1∧1≤(strG ks (sqX ns a b) x (lowG g) y).2:=by
 obtain ⟨_,vx⟩:=hx.low
 by_cases c:y=x
 ·subst c
  rw [str_own]
  exact ⟨by rw [Nat.gcd_comm]; exact vx.co,vx.p2,vx.p1⟩
 ·rw [str_else c]
  have v:=ch_val (e:=flg ks (sqX ns a b) y) hy.low.2 vx.p1 vx.p2 4
  exact ⟨v.co,v.p1,v.p2⟩
theorem str_bd (td:TD M ns) (mv:Mv M ns x a b) (hx:Bd B (g x)) (hy:Bd B (g y)):Bd (3 * B + 2) (strG ks (sqX ns a b) x (lowG g) y):=by
 obtain ⟨_,p1,p2⟩:=str_co (ks:=ks) (ns:=ns) (a:=a) (b:=b) hx hy
 obtain ⟨lx,vx⟩:=hx.low
 obtain ⟨ly,vy⟩:=hy.low
 by_cases c:y=x
 ·subst c
  rw [str_own]
  exact ⟨lx.2.1,lx.1,Nat.lt_of_lt_of_le lx.2.2.2 (Nat.pow_le_pow_right (by decide) (by omega)),Nat.lt_of_lt_of_le lx.2.2.1 (Nat.pow_le_pow_right (by decide) (by omega))⟩
 ·rw [str_else c] at p1 p2 ⊢
  have two:=sqX_two td mv ks y
  have b0:0 < 2 ^ B:=Nat.two_pow_pos B
  have sS:(lowG g x).1 + (lowG g x).2≤2 ^ (B + 1):=by
   have h1:=lx.2.2.1
   have h2:=lx.2.2.2
   rw [Nat.pow_succ]
   omega
  obtain ⟨c1,c2⟩:=ch_le (e:=flg ks (sqX ns a b) y) (tu:=lowG g x) (v:=lowG g y) (B:=2 ^ B - 1) (S:=2 ^ (B + 1)) ⟨by have:=ly.2.2.1; omega,by have:=ly.2.2.2; omega⟩ sS Nat.one_le_two_pow 4
  have top:(2 ^ B - 1) * (2 ^ (B + 1)) ^ cnN (flg ks (sqX ns a b) y) 4 < 2 ^ (3 * B + 2):=by
   have e1:(2 ^ B - 1) * (2 ^ (B + 1)) ^ cnN (flg ks (sqX ns a b) y) 4 < 2 ^ B * (2 ^ (B + 1)) ^ cnN (flg ks (sqX ns a b) y) 4:=Nat.mul_lt_mul_of_pos_right (by omega) (Nat.pow_pos (Nat.two_pow_pos _))
   refine Nat.lt_of_lt_of_le e1 ?_
   rw [← Nat.pow_mul,← Nat.pow_add]
   refine Nat.pow_le_pow_right (by decide) ?_
   have:(B + 1) * cnN (flg ks (sqX ns a b) y) 4≤(B + 1) * 2:=Nat.mul_le_mul_left _ two
   omega
  exact ⟨p1,p2,Nat.lt_of_le_of_lt c1 top,Nat.lt_of_le_of_lt c2 top⟩
theorem low_id {v:Nat × Nat} (h:Nat.gcd v.1 v.2=1):lowN v.1 v.2=v:=by
 unfold lowN
 rw [h,Nat.div_one,Nat.div_one]
end
end KT
set_option maxHeartbeats 4000000
namespace L2
open PySem PySem.Spec PyProof.Rows
section
variable {P:Program} {w:World} {A:Around} {E:Value→Shared→Prop} {s:Shared}
theorem draws_tup (hh:A.handled=none) (it t:Addr) (hne:t≠it) (its:Array Value):Draws P w A it [it,t] its.size (fun i v=>its[i]?=some v) (fun i h=>IsTupIter h it t i∧IsTup h t its):=by
 refine ⟨fun _ _ st=>let ⟨o,ho,_⟩:=st.1; ⟨o,ho⟩,fun _ _ _ st k=>?_,fun i s Q E hi st hQ=>?_,fun s Q E st hE=>?_⟩
 ·obtain ⟨⟨o,ho,r⟩,o2,ho2,r2⟩:=st
  exact ⟨⟨o,k it (by simp) o ho,r⟩,o2,k t (by simp) o2 ho2,r2⟩
 ·obtain ⟨hit,ht⟩:=st
  obtain ⟨o,ho,hc,hd⟩:=id hit
  obtain ⟨ol,hol,_,nl,hdl⟩:=id ht
  have hx:its[i]?=some its[i]:=Array.getElem?_eq_getElem hi
  unfold Builtin.SmallTypes.nextOf
  refine wpAny_bind (wpAny_callSpecial?_slot (name:=Str.ofString "__next__") hit.typeIs slot_tupleiter_next (wpAny_call_entry slot_tupleiter_next hit.typeIs entry_tupleiter_next ?_ (args_tupleiter_next _)))
  refine wpAny_bind (m:=field (.ref it) 0) (wpAny_field ho hd (x:=.ref t) rfl ?_)
  show wpAny _ _ (if (Value.ref t == Value.none)=true then _ else _) _ _ s
  rw [if_neg (show ¬ ((Value.ref t == Value.none)=true) from Bool.false_ne_true)]
  refine wpAny_bind (m:=field (.ref it) 1) (wpAny_field ho hd (x:=.int i 0) rfl (wpAny_bind (m:=seqItems? (.ref t)) (wpAny_seqItems hol hdl ?_)))
  simp only [Int.toNat_natCast,hx]
  refine wpAny_bind (wpAny_setField ho hd (by simp) (wpAny_pure ⟨its[i],rfl,wpAny_pure (hQ _ _ s.toks hx ⟨?_,(Heap.get?_update_other _ _ (Ne.symm hne)).trans hol |> fun e=>⟨ol,e,‹_›,nl,hdl⟩⟩ (Heap.SameBut.update ..))⟩))
  exact ⟨_,Heap.get?_update_self _ ho (Obj.isFreed_of_fields (Obj.data_mapFields hd _)),(Obj.cls_mapFields ..).trans hc,by rw [Obj.data_mapFields hd]; simp [rawInt]⟩
 ·obtain ⟨hit,ht⟩:=st
  obtain ⟨o,ho,hc,hd⟩:=id hit
  obtain ⟨ol,hol,_,nl,hdl⟩:=id ht
  unfold Builtin.SmallTypes.nextOf
  refine wpAny_bind (wpAny_callSpecial?_slot (name:=Str.ofString "__next__") hit.typeIs slot_tupleiter_next (wpAny_call_entry slot_tupleiter_next hit.typeIs entry_tupleiter_next ?_ (args_tupleiter_next _)))
  refine wpAny_bind (m:=field (.ref it) 0) (wpAny_field ho hd (x:=.ref t) rfl ?_)
  show wpAny _ _ (if (Value.ref t == Value.none)=true then _ else _) _ _ s
  rw [if_neg (show ¬ ((Value.ref t == Value.none)=true) from Bool.false_ne_true)]
  refine wpAny_bind (m:=field (.ref it) 1) (wpAny_field ho hd (x:=.int its.size 0) rfl (wpAny_bind (m:=seqItems? (.ref t)) (wpAny_seqItems hol hdl ?_)))
  simp only [Int.toNat_natCast,Array.getElem?_eq_none (Nat.le_refl its.size)]
  refine wpAny_bind (wpAny_rule (wpAny_bind (wpAny_setField ho hd (by simp) ?_)))
  refine wpAny_bind (m:=newExc (.type "StopIteration") []) ?_
  simp only [newExc,newTuple]
  refine wpAny_bind (wpAny_newObj_type ?_ (by size_fits))
  refine wpAny_bind (m:=firstArgMember _ _) (wpAny_of_eq (a:=Value.none) (by first | rfl | (simp only [firstArgMember]; rfl)) (wpAny_newObj_type ?_ (by size_fits)))
  exact wpAny_raiseNew_none (A:=A.in1) hh (hE _ _ (((Heap.SameBut.update ..).extBut.push _).push _) ⟨_,Heap.get?_push_size _ rfl,rfl⟩)
structure ZA (z TI TO i1 i2:Addr) (f1 f2:List Addr):Prop where
 TIz:TI≠z
 TOz:TO≠z
 i1z:i1≠z
 i2z:i2≠z
 TITO:TI≠TO
 TIi1:TI≠i1
 TIi2:TI≠i2
 TOi1:TO≠i1
 TOi2:TO≠i2
 i12:i1≠i2
 z1:z ∉ f1
 z2:z ∉ f2
 t1:TO ∉ f1
 t2:TO ∉ f2
 a1:i2 ∉ f1
 a2:i1 ∉ f2
variable {z TI TO i1 i2:Addr} {f1 f2:List Addr} {n1 n2:Nat} {P1 P2:Nat→Value→Prop} {S1 S2:Nat→Heap→Prop} {a b:Value}
theorem zipD_item {k:Nat} {Q:Option Value→Shared→Prop} (D1:Draws P w A.in1 i1 f1 n1 P1 S1) (D2:Draws P w A.in1 i2 f2 n2 P2 S2) (D:ZA z TI TO i1 i2 f1 f2) (hz:IsZip s.heap z TI TO .none) (hTI:IsPair s.heap TI (.ref i1) (.ref i2)) (hTO:IsPair s.heap TO a b)
  (s1:S1 k s.heap) (s2:S2 k s.heap) (l1:k < n1) (l2:k < n2)
  (hQ:∀ x y h' tk,P1 k x→P2 k y→IsZip h' z TI TO (rawInt s.heap.objs.size)→IsPair h' TO x y→S1 (k + 1) h'→S2 (k + 1) h'→IsPair h' s.heap.objs.size x y →
   (∀ c o,c≠z→c≠TO→c≠i1→c≠i2→s.heap.get? c=some o→h'.get? c=some o)→Q (some (.ref s.heap.objs.size)) { s with heap:=h',toks:=tk }):wpAny (model P w) A (pyNext (.ref z)) Q E s:=by
 have hT:s.TypeIs (.ref z) "zip":=⟨_,hz,rfl⟩
 unfold pyNext
 refine wpAny_bind (wpAny_attempt (wpAny_callSpecial?_slot (name:=Str.ofString "__next__") hT PySem.F.slot_zip_next (wpAny_call_entry PySem.F.slot_zip_next hT PySem.F.entry_zip_next ?_ (PySem.F.args_zip_next_1 _))))
 refine wpAny_bind (m:=field (.ref z) 2) (wpAny_field hz rfl (x:=.bool false) rfl ?_)
 refine wpAny_bind (m:=field (.ref z) 3) (wpAny_field hz rfl (x:=.ref TI) rfl (wpAny_bind (wpAny_seqItems hTI rfl ?_)))
 refine wpAny_bind (m:=Builtin.SmallTypes.ownedTupleIsFree (.ref z)) ?_
 unfold Builtin.SmallTypes.ownedTupleIsFree
 refine wpAny_bind (wpAny_field hz rfl (x:=.none) rfl (wpAny_pure ?_))
 simp only [if_true]
 refine wpAny_bind (wpAny_rule (wpAny_bind (wpAny_field hz rfl (x:=.ref TO) rfl (wpAny_bind (wpAny_setField_rec hz (by simp) fun g1 q1 b1=>?_)))))
 replace q1:IsZip g1 z TI TO .ellipsis:=q1
 refine wpAny_bind ?_
 simp only [List.zipIdx_cons,List.zipIdx_nil,List.forIn_cons,List.forIn_nil]
 refine wpAny_bind (wpAny_bind (wpAny_onRaise (wpAny_bind (m:=Builtin.SmallTypes.nextOf (.ref i1)) (D1.item k _ _ _ l1 (D1.frame k _ _ s1 fun c hc o e=>b1.extBut c o (fun q=>D.z1 (q ▸ hc)) e) fun x g2 tk2 px st2 b2=>wpAny_pure ?_))))
 have r2:IsPair g2 TO a b:=b2.extBut _ _ D.TOi1 (b1.extBut _ _ D.TOz hTO)
 refine wpAny_bind (wpAny_seqItems r2 rfl (wpAny_bind (wpAny_updateSeq_pair r2 fun g3 r3 b3=>wpAny_bind (wpAny_letGo (wpAny_pure ?_)))))
 replace r3:IsPair g3 TO x b:=r3
 have st3:S2 k g3:=D2.frame k _ _ s2 fun c hc o e=>b3.extBut c o (fun q=>D.t2 (q ▸ hc)) (b2.extBut c o (fun q=>D.a2 (q ▸ hc)) (b1.extBut c o (fun q=>D.z2 (q ▸ hc)) e))
 refine wpAny_bind (wpAny_bind (wpAny_onRaise (wpAny_bind (m:=Builtin.SmallTypes.nextOf (.ref i2)) (D2.item k _ _ _ l2 st3 fun y g4 tk4 py st4 b4=>wpAny_pure ?_))))
 have r4:IsPair g4 TO x b:=b4.extBut _ _ D.TOi2 r3
 refine wpAny_bind (wpAny_seqItems r4 rfl (wpAny_bind (wpAny_updateSeq_pair r4 fun g5 r5 b5=>wpAny_bind (wpAny_letGo (wpAny_pure (wpAny_pure ?_))))))
 replace r5:IsPair g5 TO x y:=r5
 refine wpAny_bind (wpAny_seqItems r5 rfl (wpAny_bind (wpAny_newTuple ?_)))
 have sz:g5.objs.size=s.heap.objs.size:=by rw [b5.1,b4.1,b3.1,b2.1,b1.1]
 have q5:IsZip g5 z TI TO .ellipsis:=b5.extBut _ _ D.TOz.symm (b4.extBut _ _ D.i2z.symm (b3.extBut _ _ D.TOz.symm (b2.extBut _ _ D.i1z.symm q1)))
 have k5:∀ c o,c≠z→c≠TO→c≠i1→c≠i2→s.heap.get? c=some o→g5.get? c=some o:=fun c o c1 c2 c3 c4 e=>b5.extBut _ _ c2 (b4.extBut _ _ c4 (b3.extBut _ _ c2 (b2.extBut _ _ c3 (b1.extBut _ _ c1 e))))
 have u1:S1 (k + 1) g5:=D1.frame _ _ _ st2 fun c hc o e=>b5.extBut c o (fun q=>D.t1 (q ▸ hc)) (b4.extBut c o (fun q=>D.a1 (q ▸ hc)) (b3.extBut c o (fun q=>D.t1 (q ▸ hc)) e))
 have u2:S2 (k + 1) g5:=D2.frame _ _ _ st4 fun c hc o e=>b5.extBut c o (fun q=>D.t2 (q ▸ hc)) e
 have zl:z < g5.objs.size:=Heap.lt_size q5
 refine wpAny_bind (m:=Builtin.SmallTypes.ownedTupleHandOut (.ref z) (.ref g5.objs.size)) ?_
 unfold Builtin.SmallTypes.ownedTupleHandOut
 refine wpAny_bind (wpAny_setField_rec (show IsZip (g5.push { cls:=.type "tuple",data:=.seq #[x,y] }) z TI TO .ellipsis from Heap.get?_push_of_some _ q5) (by simp) fun g7 q7 b7=>?_)
 replace q7:IsZip g7 z TI TO (rawInt g5.objs.size):=q7
 refine wpAny_setField_rec q7 (by simp) fun g8 q8 b8=>?_
 replace q8:IsZip g8 z TI TO (rawInt g5.objs.size):=q8
 have up:∀ c o,c≠z→g5.get? c=some o→g8.get? c=some o:=fun c o c1 e=>b8.extBut _ _ c1 (b7.extBut _ _ c1 (Heap.get?_push_of_some _ e))
 have r8:IsPair g8 g5.objs.size x y:=b8.extBut _ _ (Nat.ne_of_gt zl) (b7.extBut _ _ (Nat.ne_of_gt zl) (Heap.get?_push_size _ rfl))
 rw [sz] at q8 r8
 refine wpAny_pure ⟨_,rfl,wpAny_pure ?_⟩
 show Q (some (.ref g5.objs.size)) _
 rw [sz]
 exact hQ x y g8 tk4 px py q8 (up _ _ D.TOz r5) (D1.frame _ _ _ u1 fun c hc o e=>up c o (fun q=>D.z1 (q ▸ hc)) e) (D2.frame _ _ _ u2 fun c hc o e=>up c o (fun q=>D.z2 (q ▸ hc)) e) r8 fun c o c1 c2 c3 c4 e=>up c o c1 (k5 c o c1 c2 c3 c4 e)
theorem zipD_end {k:Nat} {Q:Option Value→Shared→Prop} (D1:Draws P w A.in1 i1 f1 n1 P1 S1) (D2:Draws P w A.in1 i2 f2 n2 P2 S2) (D:ZA z TI TO i1 i2 f1 f2) (hz:IsZip s.heap z TI TO .none) (hTI:IsPair s.heap TI (.ref i1) (.ref i2)) (hTO:IsPair s.heap TO a b)
  (s1:S1 k s.heap) (s2:S2 k s.heap) (l1:k=n1∨k < n1∧k=n2)
  (hQ:∀ h' tk,(∀ c o,c≠z→c≠TO→c≠i1→c≠i2→s.heap.get? c=some o→h'.get? c=some o)→Q none { s with heap:=h',toks:=tk }):wpAny (model P w) A (pyNext (.ref z)) Q E s:=by
 have hT:s.TypeIs (.ref z) "zip":=⟨_,hz,rfl⟩
 have fin:∀ (h':Heap) (tk:Nat) (e:Addr),(∀ c o,c≠z→c≠TO→c≠i1→c≠i2→s.heap.get? c=some o→h'.get? c=some o)→(∃ o,h'.get? e=some o∧o.cls=.type "StopIteration") →
   wpAny (model P w) A (do if ← isInstance (.ref e) (.type "StopIteration") then pure (none:Option Value) else throw (.ref e)) Q E { s with heap:=h',toks:=tk }:=fun h' tk e kp ⟨o,ho,hc⟩ =>
  wpAny_bind (wpAny_isInstance (T:="StopIteration") (b:=true) ⟨o,ho,hc⟩ isSubtype_stop (wpAny_pure (hQ _ _ kp)))
 unfold pyNext
 refine wpAny_bind (wpAny_attempt (wpAny_callSpecial?_slot (name:=Str.ofString "__next__") hT PySem.F.slot_zip_next (wpAny_call_entry PySem.F.slot_zip_next hT PySem.F.entry_zip_next ?_ (PySem.F.args_zip_next_1 _))))
 refine wpAny_bind (m:=field (.ref z) 2) (wpAny_field hz rfl (x:=.bool false) rfl ?_)
 refine wpAny_bind (m:=field (.ref z) 3) (wpAny_field hz rfl (x:=.ref TI) rfl (wpAny_bind (wpAny_seqItems hTI rfl ?_)))
 refine wpAny_bind (m:=Builtin.SmallTypes.ownedTupleIsFree (.ref z)) ?_
 unfold Builtin.SmallTypes.ownedTupleIsFree
 refine wpAny_bind (wpAny_field hz rfl (x:=.none) rfl (wpAny_pure ?_))
 simp only [if_true]
 refine wpAny_bind (wpAny_rule (wpAny_bind (wpAny_field hz rfl (x:=.ref TO) rfl (wpAny_bind (wpAny_setField_rec hz (by simp) fun g1 q1 b1=>?_)))))
 replace q1:IsZip g1 z TI TO .ellipsis:=q1
 refine wpAny_bind ?_
 simp only [List.zipIdx_cons,List.zipIdx_nil,List.forIn_cons,List.forIn_nil]
 have st1:S1 k g1:=D1.frame k _ _ s1 fun c hc o e=>b1.extBut c o (fun q=>D.z1 (q ▸ hc)) e
 rcases l1 with rfl | ⟨l1,rfl⟩
 ·refine wpAny_bind (wpAny_bind (wpAny_onRaise (wpAny_bind (m:=Builtin.SmallTypes.nextOf (.ref i1)) (D1.done _ _ _ st1 fun g2 e b2 ⟨oe,hoe,hce⟩=>?_))))
  have q2:IsZip g2 z TI TO .ellipsis:=b2 _ _ D.i1z.symm q1
  have ez:e≠z:=fun x=>by subst x; rw [q2] at hoe; cases hoe; simp at hce
  exact wpAny_setField_rec q2 (by simp) fun g3 _ b3=>fin g3 s.toks e (fun c o c1 _ c3 _ x=>b3.extBut _ _ c1 (b2 _ _ c3 (b1.extBut _ _ c1 x))) ⟨oe,b3.extBut _ _ ez hoe,hce⟩
 ·refine wpAny_bind (wpAny_bind (wpAny_onRaise (wpAny_bind (m:=Builtin.SmallTypes.nextOf (.ref i1)) (D1.item k _ _ _ l1 st1 fun x g2 tk2 px st2 b2=>wpAny_pure ?_))))
  have r2:IsPair g2 TO a b:=b2.extBut _ _ D.TOi1 (b1.extBut _ _ D.TOz hTO)
  refine wpAny_bind (wpAny_seqItems r2 rfl (wpAny_bind (wpAny_updateSeq_pair r2 fun g3 r3 b3=>wpAny_bind (wpAny_letGo (wpAny_pure ?_)))))
  have st3:S2 k g3:=D2.frame k _ _ s2 fun c hc o e=>b3.extBut c o (fun q=>D.t2 (q ▸ hc)) (b2.extBut c o (fun q=>D.a2 (q ▸ hc)) (b1.extBut c o (fun q=>D.z2 (q ▸ hc)) e))
  refine wpAny_bind (wpAny_bind (wpAny_onRaise (wpAny_bind (m:=Builtin.SmallTypes.nextOf (.ref i2)) (D2.done _ _ _ st3 fun g4 e b4 zz9=>?_))))
  obtain ⟨oe,hoe,hce⟩:=zz9
  have q4:IsZip g4 z TI TO .ellipsis:=b4 _ _ D.i2z.symm (b3.extBut _ _ D.TOz.symm (b2.extBut _ _ D.i1z.symm q1))
  have ez:e≠z:=fun x=>by subst x; rw [q4] at hoe; cases hoe; simp at hce
  exact wpAny_setField_rec q4 (by simp) fun g5 _ b5=>fin g5 tk2 e (fun c o c1 c2 c3 c4 x=>b5.extBut _ _ c1 (b4 _ _ c4 (b3.extBut _ _ c2 (b2.extBut _ _ c3 (b1.extBut _ _ c1 x))))) ⟨oe,b5.extBut _ _ ez hoe,hce⟩
end
end L2
set_option maxHeartbeats 4000000
namespace L2
open PySem PySem.Spec PyProof.Rows
inductive ZS where
 | l (a:Addr)
 | t (a:Addr)
 | s (x:Str)
noncomputable def ZS.ad:ZS→List Addr
 | .l a=>[a]
 | .t a=>[a]
 | .s _=>[]
noncomputable def ZS.has (K:PySem.W.Frag) (H:Hp) (S:ZS) (xs:List V):Prop:=match S with
 | .l a=>SqL K H a xs
 | .t a=>SqT K H a xs
 | .s x=>x.cps.all (· < 128)=true∧xs=x.cps.toList.map fun c=>V.str ⟨#[c]⟩
noncomputable def ZS.it (S:ZS) (i:Addr) (k:Nat) (h:Heap):Prop:=match S with
 | .l a=>h.IsListIter i a k
 | .t a=>IsTupIter h i a k
 | .s x=>∃ t,h.IsStrIter i "str_ascii_iterator" x t k
noncomputable def ZS.v:ZS→V
 | .l a=>.ref a
 | .t a=>.ref a
 | .s x=>.str x
theorem ZS.it_obj {S:ZS} {i:Addr} {k:Nat} {h:Heap} (st:S.it i k h):∃ o,h.get? i=some o∧∀ v,o.data≠.cell v:=by
 cases S with
 | l a=>obtain ⟨o,e,_,d⟩:=st; exact ⟨o,e,fun v z=>by rw [d] at z; cases z⟩
 | t a=>obtain ⟨o,e,_,d⟩:=st; exact ⟨o,e,fun v z=>by rw [d] at z; cases z⟩
 | s x=>obtain ⟨t,o,e,_,d⟩:=st; exact ⟨o,e,fun v z=>by rw [d] at z; cases z⟩
theorem ZS.it_keep {S:ZS} {i:Addr} {k:Nat} {h h':Heap} (st:S.it i k h) (kp:∀ o,h.get? i=some o→h'.get? i=some o):S.it i k h':=by
 cases S with
 | l a=>obtain ⟨o,e,r⟩:=st; exact ⟨o,kp o e,r⟩
 | t a=>obtain ⟨o,e,r⟩:=st; exact ⟨o,kp o e,r⟩
 | s x=>obtain ⟨t,o,e,r⟩:=st; exact ⟨t,o,kp o e,r⟩
theorem ZS.has_inj {X:Cx} {pins:List (Addr × Obj)} {σ:List (Option V)} {H:Hp} {s:Shared} (I:Inv X pins σ H s) {S:ZS} {xs ys:List V} (h1:S.has X.K H xs) (h2:S.has X.K H ys):xs=ys:=by
 cases S with
 | l a=>exact I.list_inj h1 h2
 | t a=>exact I.tuple_inj h1 h2
 | s x=>rw [h1.2,h2.2]
section
variable {X:Cx} {pins:List (Addr × Obj)} {σ:List (Option V)} {H:Hp} {s:Shared}
theorem ZS.draws (I:Inv X pins σ H s) {A:Around} (hh:A.handled=none) {S:ZS} {xs:List V} (h:S.has X.K H xs) {i:Addr} (hi:i ∉ S.ad) {k:Nat} (st:S.it i k s.heap) :
  ∃ (P1:Nat→Value→Prop) (St:Nat→Heap→Prop),Draws X.prog X.w A i (i :: S.ad) xs.length P1 St∧St k s.heap∧(∀ k h,St k h→S.it i k h)∧∀ (k:Nat) (v:Value) (x:V),P1 k v→xs[k]?=some x→RelV x v:=by
 cases S with
 | l a =>
  obtain ⟨its,rv,pl,_⟩:=I.list h
  have hl:xs.length=its.toArray.size:=by rw [List.size_toArray]; exact rv.length
  have hne:a≠i:=fun z=>hi (by rw [z]; exact List.mem_singleton.mpr rfl)
  refine ⟨_,_,hl ▸ Draws.list hh i a hne its.toArray,⟨st,pl.isList⟩,fun k h st=>st.1,fun k v x hv hx=>?_⟩
  obtain ⟨u,hu,ru⟩:=rv.get hx
  have:its.toArray[k]?=some v:=hv
  rw [List.getElem?_toArray,hu] at this
  cases this
  exact ru
 | t a =>
  obtain ⟨its,rv,pl,_⟩:=I.tuple h
  have hl:xs.length=its.toArray.size:=by rw [List.size_toArray]; exact rv.length
  have hne:a≠i:=fun z=>hi (by rw [z]; exact List.mem_singleton.mpr rfl)
  refine ⟨_,_,hl ▸ draws_tup hh i a hne its.toArray,⟨st,pl⟩,fun k h st=>st.1,fun k v x hv hx=>?_⟩
  obtain ⟨u,hu,ru⟩:=rv.get hx
  have:its.toArray[k]?=some v:=hv
  rw [List.getElem?_toArray,hu] at this
  cases this
  exact ru
 | s x =>
  obtain ⟨ha,rfl⟩:=h
  obtain ⟨t,st⟩:=st
  have hl:(x.cps.toList.map fun c=>V.str ⟨#[c]⟩).length=x.cps.size:=by rw [List.length_map,Array.length_toList]
  refine ⟨_,_,hl ▸ Draws.strAscii hh i x t,st,fun k h st=>⟨t,st⟩,fun k v y hv hy=>?_⟩
  obtain ⟨c,u,hc,rfl⟩:=hv
  rw [List.getElem?_map,Array.getElem?_toList,hc] at hy
  cases hy
  exact ⟨u,rfl⟩
end
noncomputable def Itz2 (K:PySem.W.Frag) (S T:ZS):It :=
  ⟨fun i H=>∃ xs ys x y,S.has K H xs∧T.has K H ys∧xs[i]?=some x∧ys[i]?=some y,
   fun i H v H'=>∃ q x y,H q=none∧v=.ref q∧(∀ xs,S.has K H xs→xs[i]?=some x)∧(∀ ys,T.has K H ys→ys[i]?=some y)∧H'=upd H q (.tup [x,y]),
   fun i H=>∃ xs ys,S.has K H xs∧T.has K H ys∧i=xs.length∧xs.length=ys.length⟩
theorem turn_zip2 {P:Program} {w:World} {K:PySem.W.Frag} {elts:List Expr} {x1:Nat} {pos:Pos} (S T:ZS) (z TI TO i1 i2:Addr) (D:ZA z TI TO i1 i2 (i1 :: S.ad) (i2 :: T.ad)) (h1:i1 ∉ S.ad) (h2:i2 ∉ T.ad) :
  Turn P w K (.Tuple elts x1 pos) (Itz2 K S T) [z,TI,TO,i1,i2] z (fun i h=>IsZip h z TI TO .none∧IsPair h TI (.ref i1) (.ref i2)∧(∃ u v,IsPair h TO u v)∧S.it i1 i h∧T.it i2 i h) where
 mem:=by simp
 obj:=fun i h st c hc=>by
  obtain ⟨s1,s2,⟨u,v,s3⟩,s4,s5⟩:=st
  have hc:c=z∨c=TI∨c=TO∨c=i1∨c=i2:=by simpa using hc
  rcases hc with rfl | rfl | rfl | rfl | rfl
  ·exact ⟨_,s1,fun v y=>by have y':Data.fields _=Data.cell v:=y; cases y'⟩
  ·exact ⟨_,s2,fun v y=>by have y':Data.seq _ _=Data.cell v:=y; cases y'⟩
  ·exact ⟨_,s3,fun v y=>by have y':Data.seq _ _=Data.cell v:=y; cases y'⟩
  ·exact ZS.it_obj s4
  ·exact ZS.it_obj s5
 keep:=fun i h h' st k=>by
  obtain ⟨s1,s2,⟨u,v,s3⟩,s4,s5⟩:=st
  exact ⟨k z (by simp) _ s1,k TI (by simp) _ s2,⟨u,v,k TO (by simp) _ s3⟩,ZS.it_keep s4 fun o e=>k i1 (by simp) o e,ZS.it_keep s5 fun o e=>k i2 (by simp) o e⟩
 item:=by
  intro X hP hw hK hc i pins s σ H E I hf st hg
  subst hP hw hK
  obtain ⟨xs,ys,x,y,hqx,hqy,hx,hy⟩:=hg
  obtain ⟨s1,s2,⟨u0,v0,s3⟩,s4,s5⟩:=st
  have hh:X.A.in1.handled=none:=I.ok.hd hc
  obtain ⟨P1,St1,D1,t1,k1,r1⟩:=ZS.draws I hh hqx h1 s4
  obtain ⟨P2,St2,D2,t2,k2,r2⟩:=ZS.draws I hh hqy h2 s5
  refine zipD_item D1 D2 D s1 s2 s3 t1 t2 (List.getElem?_eq_some_iff.mp hx).1 (List.getElem?_eq_some_iff.mp hy).1 fun u v h' tk pu pv a1 a2 a3 a4 a5 a7=>?_
  have ru:=r1 i u x pu hx
  have rv:=r2 i v y pv hy
  refine ⟨.ref s.heap.objs.size,rfl,wpAny_letOwnedTupleGo_zip (s:={ s with heap:=h',toks:=tk }) a1 fun h'' b1 sb=>?_⟩
  replace sb:Heap.SameBut z h' h'':=sb
  have lt:∀ c∈[z,TI,TO,i1,i2],c < s.heap.objs.size:=fun c hc=>by
   have hc:c=z∨c=TI∨c=TO∨c=i1∨c=i2:=by simpa using hc
   rcases hc with rfl | rfl | rfl | rfl | rfl
   ·exact Heap.lt_size s1
   ·exact Heap.lt_size s2
   ·exact Heap.lt_size s3
   ·obtain ⟨o,e,_⟩:=ZS.it_obj s4; exact Heap.lt_size e
   ·obtain ⟨o,e,_⟩:=ZS.it_obj s5; exact Heap.lt_size e
  have keepb:∀ c o,c≠z→c≠TO→c≠i1→c≠i2→s.heap.get? c=some o→h''.get? c=some o:=fun c o n1 n2 n3 n4 e=>(sb.2 c n1).trans (a7 c o n1 n2 n3 n4 e)
  have ht'':h''.get? s.heap.objs.size=some { cls:=.type "tuple",data:=.seq #[u,v] }:=(sb.2 _ (Nat.ne_of_gt (lt z (by simp)))).trans a5
  have hn:H s.heap.objs.size=none:=I.hok.fresh (Nat.le_refl _)
  have I2:Inv X pins σ (upd H s.heap.objs.size (.tup [x,y])) { s with heap:=h'',toks:=tk }:=by
   have out:∀ c,c ∉ [z,TO,i1,i2]→c≠z∧c≠TO∧c≠i1∧c≠i2:=fun c hc=>by simpa using hc
   refine I.step (g':=s.gens) (d':=s.drawn) (ch:=[z,TO,i1,i2]) (fun c hc=>?_) (fun c o _ _ hc q _=>?_) (fun c o _ _ hc q _=>⟨o.slots,?_⟩) (fun c o _ q n=>by rw [upd_ne (Nat.ne_of_lt (Heap.lt_size q))]; exact n)
    (fun c o hc q=>⟨o,?_⟩) (fun c zs q=>by rw [upd_ne (ne_of_none q hn)]; exact q) (fun c o zs q=>by rw [upd_ne (ne_of_none q hn)]; exact q) (fun c ps q=>⟨#[],by rw [upd_ne (ne_of_none q hn),q]; simp⟩) (fun m hm=>?_) (fun c v' q=>?_) I.bare
   ·have hc:c=z∨c=TO∨c=i1∨c=i2:=by simpa using hc
    have hm:c∈[z,TI,TO,i1,i2]:=by rcases hc with rfl | rfl | rfl | rfl <;> simp
    obtain ⟨f0,f1,f2,f3,f4,f5⟩:=hf c hm
    exact ⟨f3,f1,f4,f5⟩
   ·obtain ⟨n1,n2,n3,n4⟩:=out c hc; exact keepb c o n1 n2 n3 n4 q
   ·obtain ⟨n1,n2,n3,n4⟩:=out c hc; exact keepb c o n1 n2 n3 n4 q
   ·obtain ⟨n1,n2,n3,n4⟩:=out c hc; exact keepb c o n1 n2 n3 n4 q
   ·obtain ⟨o,es,ep,ho,r⟩:=hm
    exact ⟨o,es,ep,keepb _ o (Ne.symm (hf z (by simp)).2.1) (Ne.symm (hf TO (by simp)).2.1) (Ne.symm (hf i1 (by simp)).2.1) (Ne.symm (hf i2 (by simp)).2.1) ho,r⟩
   ·by_cases hb:c=s.heap.objs.size
    ·subst hb
     rw [upd_same] at q
     cases q
     exact ⟨by show 2≤sizeLine; decide,[u,v],.cons ru (.cons rv .nil),⟨_,ht'',rfl,_,rfl⟩⟩
    ·rw [upd_ne hb] at q
     refine (I.hok c v' q).stay (fun e w' he y'=>keepb e w' ?_ ?_ ?_ ?_ y') (fun d y'=>by rw [upd_ne (ne_of_none y' hn)]; exact y') fun d zs y'=>by rw [upd_ne (ne_of_none y' hn)]; exact y'
     all_goals
      rintro rfl
      have hz0:H e=none:=(hf e (by simp)).1
      rcases he with y' | y'
      ·rw [y',q] at hz0; cases hz0
      ·rw [hz0] at y'; cases y'
  refine ⟨.ref s.heap.objs.size,_,I2,rfl,⟨_,x,y,hn,rfl,fun zs hz=>by rw [ZS.has_inj I hz hqx]; exact hx,fun zs hz=>by rw [ZS.has_inj I hz hqy]; exact hy,rfl⟩,
   ⟨b1,(sb.2 TI D.TIz).trans (a7 TI _ D.TIz D.TITO D.TIi1 D.TIi2 s2),⟨u,v,(sb.2 TO D.TOz).trans a2⟩,ZS.it_keep (k1 _ _ a3) fun o e=>(sb.2 i1 D.i1z).trans e,ZS.it_keep (k2 _ _ a4) fun o e=>(sb.2 i2 D.i2z).trans e⟩,fun c hc=>?_⟩
  rw [upd_ne (Nat.ne_of_lt (lt c hc))]
  exact (hf c hc).1
 done:=by
  intro X hP hw hK hc i pins s σ H E I hf st hg
  subst hP hw hK
  obtain ⟨xs,ys,hqx,hqy,e1,e2⟩:=hg
  obtain ⟨s1,s2,⟨u0,v0,s3⟩,s4,s5⟩:=st
  have hh:X.A.in1.handled=none:=I.ok.hd hc
  obtain ⟨P1,St1,D1,t1,k1,r1⟩:=ZS.draws I hh hqx h1 s4
  obtain ⟨P2,St2,D2,t2,k2,r2⟩:=ZS.draws I hh hqy h2 s5
  refine zipD_end D1 D2 D s1 s2 s3 t1 t2 (.inl e1) fun h' tk eb=>⟨rfl,?_⟩
  ·have out:∀ c,c ∉ [z,TO,i1,i2]→c≠z∧c≠TO∧c≠i1∧c≠i2:=fun c hc=>by simpa using hc
   refine I.step (g':=s.gens) (d':=s.drawn) (t':=tk) (ch:=[z,TO,i1,i2]) (fun c hc=>?_) (fun c o _ _ hc q _=>?_) (fun c o _ _ hc q _=>⟨o.slots,?_⟩) (fun c o _ q n=>n)
    (fun c o hc q=>⟨o,?_⟩) (fun c zs q=>q) (fun c o zs q=>q) (fun c ps q=>⟨#[],by rw [q]; simp⟩) (fun m hm=>?_) (fun c v' q=>?_) I.bare
   ·have hc:c=z∨c=TO∨c=i1∨c=i2:=by simpa using hc
    have hm:c∈[z,TI,TO,i1,i2]:=by rcases hc with rfl | rfl | rfl | rfl <;> simp
    obtain ⟨f0,f1,f2,f3,f4,f5⟩:=hf c hm
    exact ⟨f3,f1,f4,f5⟩
   ·obtain ⟨n1,n2,n3,n4⟩:=out c hc; exact eb c o n1 n2 n3 n4 q
   ·obtain ⟨n1,n2,n3,n4⟩:=out c hc; exact eb c o n1 n2 n3 n4 q
   ·obtain ⟨n1,n2,n3,n4⟩:=out c hc; exact eb c o n1 n2 n3 n4 q
   ·obtain ⟨o,es,ep,ho,r⟩:=hm
    exact ⟨o,es,ep,eb _ o (Ne.symm (hf z (by simp)).2.1) (Ne.symm (hf TO (by simp)).2.1) (Ne.symm (hf i1 (by simp)).2.1) (Ne.symm (hf i2 (by simp)).2.1) ho,r⟩
   ·refine (I.hok c v' q).stay (fun e w' he y'=>eb e w' ?_ ?_ ?_ ?_ y') (fun d y'=>y') fun d zs y'=>y'
    all_goals
     rintro rfl
     have hz0:H e=none:=(hf e (by simp)).1
     rcases he with y' | y'
     ·rw [y',q] at hz0; cases hz0
     ·rw [hz0] at y'; cases y'
 self:=fun _ _ _ _ _ st h=>wpAny_pyIter_zip st.1 h
section
variable {P:Program} {w:World}
noncomputable def IterOk (P:Program) (w:World) (v:Value) (o:Obj) (C:Heap→Prop):Prop:=(∀ h u,C h→C (h.push u))∧∀ (A:Around) (E:Value→Shared→Prop) (s:Shared) (Q:Value→Shared→Prop),C s.heap→Q (.ref s.heap.objs.size) { s with heap:=s.heap.push o }→wpAny (model P w) A (pyIter v) Q E s
theorem call_zipD {A:Around} {E:Value→Shared→Prop} {s:Shared} {v1 v2:Value} {o1 o2:Obj} {C1 C2:Heap→Prop} {Q:Value→Shared→Prop} (I1:IterOk P w v1 o1 C1) (I2:IterOk P w v2 o2 C2) (c1:C1 s.heap) (c2:C2 s.heap)
  (h:∀ h',IsZip h' (s.heap.objs.size + 4) (s.heap.objs.size + 2) (s.heap.objs.size + 3) .none→IsPair h' (s.heap.objs.size + 2) (.ref s.heap.objs.size) (.ref (s.heap.objs.size + 1)) →
   IsPair h' (s.heap.objs.size + 3) .none .none→h'.get? s.heap.objs.size=some o1→h'.get? (s.heap.objs.size + 1)=some o2→(∀ c o,s.heap.get? c=some o→h'.get? c=some o)→Q (.ref (s.heap.objs.size + 4)) { s with heap:=h' }) (f1:o1.isFreed=false) (f2:o2.isFreed=false) :
  wpAny (model P w) A (call (.type "zip") [v1,v2]) Q E s:=by
 have M:MeetsIn P w (Builtin.«zip.__new__» ⟨[.type "zip",v1,v2],[]⟩) (fun _ R s=>C1 s.heap∧C2 s.heap∧R (.ok (.ret (.ref ((((s.heap.push o1).push o2).push { cls:=.type "tuple",data:=.seq #[.ref s.heap.objs.size,.ref (s.heap.push o1).objs.size] }).push { cls:=.type "tuple",data:=.seq #[.none,.none] }).objs.size)))
   { s with heap:=((((s.heap.push o1).push o2).push { cls:=.type "tuple",data:=.seq #[.ref s.heap.objs.size,.ref (s.heap.push o1).objs.size] }).push { cls:=.type "tuple",data:=.seq #[.none,.none] }).push { cls:=.type "zip",data:=.fields #[.none,.bool false,.bool false,.ref ((s.heap.push o1).push o2).objs.size,.ref (((s.heap.push o1).push o2).push { cls:=.type "tuple",data:=.seq #[.ref s.heap.objs.size,.ref (s.heap.push o1).objs.size] }).objs.size] } }):=by
  refine .of_wp fun A R s h=>?_
  obtain ⟨hp,g,d,tk,os⟩:=s
  obtain ⟨q1,q2,h⟩:=h
  have hsub:=sub_zip
  have W1:∀ (A:Around) (E:Value→Shared→Prop) (Q:Value→Shared→Prop),Q (.ref hp.objs.size) ⟨hp.push o1,g,d,tk,os⟩→wpAny (model P w) A (pyIter v1) Q E ⟨hp,g,d,tk,os⟩:=fun A E Q q=>I1.2 A E _ Q q1 q
  have W2:∀ (A:Around) (E:Value→Shared→Prop) (Q:Value→Shared→Prop),Q (.ref (hp.push o1).objs.size) ⟨(hp.push o1).push o2,g,d,tk,os⟩→wpAny (model P w) A (pyIter v2) Q E ⟨hp.push o1,g,d,tk,os⟩:=fun A E Q q=>I2.2 A E _ Q (I2.1 _ _ q2) q
  wp_walk using W1 _ _ _,W2 _ _ _
  exact ⟨_,rfl,h⟩
 refine callType_newIn PySem.F.called_zip (by decide) (by kernel_rfl) (by kernel_rfl) (fun obj=>PySem.F.args_object_init_3 obj _ _) PySem.F.entry_zip_new M ⟨c1,c2,?_⟩
 generalize hN:s.heap.objs.size=N at *
 have z1:(s.heap.push o1).objs.size=N + 1:=by rw [Heap.size_push,hN]
 have z2:((s.heap.push o1).push o2).objs.size=N + 2:=by rw [Heap.size_push,z1]
 generalize hT1:({ cls:=.type "tuple",data:=.seq #[.ref N,.ref (s.heap.push o1).objs.size] }:Obj)=T1
 have z3:(((s.heap.push o1).push o2).push T1).objs.size=N + 3:=by rw [Heap.size_push,z2]
 generalize hT2:({ cls:=.type "tuple",data:=.seq #[.none,.none] }:Obj)=T2
 have z4:((((s.heap.push o1).push o2).push T1).push T2).objs.size=N + 4:=by rw [Heap.size_push,z3]
 have e1:(s.heap.push o1).get? N=some o1:=by rw [← hN]; exact Heap.get?_push_size _ f1
 have e2:((s.heap.push o1).push o2).get? (N + 1)=some o2:=by rw [← z1]; exact Heap.get?_push_size _ f2
 have e3:(((s.heap.push o1).push o2).push T1).get? (N + 2)=some T1:=by rw [← z2]; exact Heap.get?_push_size _ (by rw [← hT1]; rfl)
 have e4:((((s.heap.push o1).push o2).push T1).push T2).get? (N + 3)=some T2:=by rw [← z3]; exact Heap.get?_push_size _ (by rw [← hT2]; rfl)
 rw [z4,z3,z2]
 generalize hZ:({ cls:=.type "zip",data:=.fields #[.none,.bool false,.bool false,.ref (N + 2),.ref (N + 3)] }:Obj)=Z
 have e5:(((((s.heap.push o1).push o2).push T1).push T2).push Z).get? (N + 4)=some Z:=by rw [← z4]; exact Heap.get?_push_size _ (by rw [← hZ]; rfl)
 refine ⟨⟨_,e5,by rw [← hZ]⟩,h _ (e5.trans (by rw [← hZ])) (by
  have:=Heap.get?_push_of_some Z (Heap.get?_push_of_some T2 e3)
  rw [← hT1,z1] at this
  rw [← hT1,z1]
  exact this) (by
  have:=Heap.get?_push_of_some Z e4
  rw [← hT2] at this ⊢
  exact this) (Heap.get?_push_of_some _ (Heap.get?_push_of_some _ (Heap.get?_push_of_some _ (Heap.get?_push_of_some _ e1)))) (Heap.get?_push_of_some _ (Heap.get?_push_of_some _ (Heap.get?_push_of_some _ e2))) fun c o x=>Heap.get?_push_of_some _ (Heap.get?_push_of_some _ (Heap.get?_push_of_some _ (Heap.get?_push_of_some _ (Heap.get?_push_of_some _ x))))⟩
end
end L2
set_option maxHeartbeats 4000000
namespace L2
open PySem PySem.Spec PyProof.Rows
section
variable {X:Cx} {pins:List (Addr × Obj)} {σ:List (Option V)} {H:Hp} {s:Shared}
theorem ZS.iter (I:Inv X pins σ H s) {S:ZS} {xs:List V} (h:S.has X.K H xs) {v:Value} (r:RelV S.v v):∃ (o:Obj) (C:Heap→Prop),IterOk X.prog X.w v o C∧C s.heap∧o.isFreed=false∧(∀ (h:Heap) (i:Addr),h.get? i=some o→S.it i 0 h)∧∀ a∈S.ad,a < s.heap.objs.size:=by
 cases S with
 | l a =>
  obtain ⟨its,rv,pl,_⟩:=I.list h
  cases r
  refine ⟨_,fun h=>h.IsList a its.toArray,⟨fun h u c=>c.push u,fun A E s Q c q=>wpAny_pyIter_list c q⟩,pl.isList,rfl,fun h i e=>⟨_,e,rfl,rfl⟩,fun b hb=>?_⟩
  obtain ⟨o,ho,_⟩:=pl.isList
  rw [List.mem_singleton.mp hb]
  exact Heap.lt_size ho
 | t a =>
  obtain ⟨its,rv,pl,_⟩:=I.tuple h
  cases r
  refine ⟨_,fun h=>IsTup h a its.toArray,⟨fun h u c=>c.keeps fun b o e=>Heap.get?_push_of_some _ e,fun A E s Q c q=>iter_tuple c q⟩,pl,rfl,fun h i e=>⟨_,e,rfl,rfl⟩,fun b hb=>?_⟩
  rw [List.mem_singleton.mp hb]
  exact pl.lt
 | s x =>
  obtain ⟨ha,rfl⟩:=h
  obtain ⟨t,rfl⟩:=r
  exact ⟨_,fun _=>True,⟨fun h u c=>trivial,fun A E s Q c q=>wpAny_pyIter_ascii ha q⟩,trivial,rfl,fun h i e=>⟨t,_,e,rfl,rfl⟩,fun b hb=>absurd hb List.not_mem_nil⟩
theorem za_new {N:Nat} {f g:List Addr} (h1:∀ a∈f,a < N) (h2:∀ a∈g,a < N):ZA (N + 4) (N + 2) (N + 3) N (N + 1) (N :: f) ((N + 1) :: g):=by
 have nf:∀ k,N + k ∉ f:=fun k z=>absurd (h1 _ z) (Nat.not_lt.mpr (Nat.le_add_right _ _))
 have ng:∀ k,N + k ∉ g:=fun k z=>absurd (h2 _ z) (Nat.not_lt.mpr (Nat.le_add_right _ _))
 have e:∀ {i j:Nat},i≠j→N + i≠N + j:=fun h z=>h (Nat.add_left_cancel z)
 have c1:∀ {k:Nat} {f:List Addr} {i:Addr},N + k≠i→N + k ∉ f→N + k ∉ i :: f:=fun h1 h2 z=>by
  rcases List.mem_cons.mp z with q | q
  ·exact h1 q
  ·exact h2 q
 exact ⟨e (by decide),e (by decide),e (i:=0) (by decide),e (by decide),e (by decide),e (j:=0) (by decide),e (by decide),e (j:=0) (by decide),e (by decide),e (i:=0) (by decide),c1 (e (j:=0) (by decide)) (nf 4),c1 (e (by decide)) (ng 4),c1 (e (j:=0) (by decide)) (nf 3),c1 (e (by decide)) (ng 3),c1 (e (j:=0) (by decide)) (nf 1),c1 (k:=0) (e (by decide)) (ng 0)⟩
noncomputable def iZip2 (K:PySem.W.Frag) (ta:TA):TI:=fun σ H R=>ta σ H fun vs H1=>∃ (S T:ZS) (xs ys:List V),vs=[S.v,T.v]∧S.has K H1 xs∧T.has K H1 ys∧R (Itz2 K S T) H1
theorem pi_zip2 {elts:List Expr} {x1:Nat} {tpos p pos:Pos} {l m:Expr} {ta:TA} (hg:Gl X "zip") (hm:X.mg "zip"=none) (ha:PA X [l,m] ta) (hs:starEach [l,m] X.env=[(false,eval l X.env),(false,eval m X.env)]:=by rfl) (hs2:starEach [m] X.env=[(false,eval m X.env)]:=by rfl) :
  PI X (.Tuple elts x1 tpos) (.Call (.Name "zip" p) [l,m] [] pos) (iZip2 X.K ta):=by
 intro pins s σ H R I h
 refine Call_ (ld_blt I hg hm boot_zip (PyProof.Rows.callWith_type1 (thn (ha pos pins s σ H _ I h) fun us s1 ⟨vs,H1,I1,r1,q1⟩=>?_) (by rw [hs,hs2]) (by rw [hs2]; rfl)))
 obtain ⟨S,T,xs,ys,e,hqx,hqy,q⟩:=q1
 subst e
 obtain ⟨u,v,rfl,ru,rv⟩:=r1.two
 obtain ⟨o1,C1,i1,c1,f1,t1,l1⟩:=ZS.iter I1 hqx ru
 obtain ⟨o2,C2,i2,c2,f2,t2,l2⟩:=ZS.iter I1 hqy rv
 refine call_zipD i1 i2 c1 c2 (fun h' z1 z2 z3 z4 z5 z7=>wpAny_pyIter_zip z1 ?_) f1 f2
 have I2:Inv X pins σ H1 { s1 with heap:=h' }:=I1.kept (t':=s1.toks) z7
 generalize hN:s1.heap.objs.size=N at *
 have n1:N ∉ S.ad:=fun z=>Nat.lt_irrefl _ (l1 _ z)
 have n2:N + 1 ∉ T.ad:=fun z=>absurd (l2 _ z) (Nat.not_lt.mpr (Nat.le_succ _))
 refine ⟨N + 4,[N + 4,N + 2,N + 3,N,N + 1],_,_,H1,rfl,I2,turn_zip2 S T (N + 4) (N + 2) (N + 3) N (N + 1) (za_new l1 l2) n1 n2,⟨z1,z2,⟨_,_,z3⟩,t1 _ _ z4,t2 _ _ z5⟩,fun c hc=>?_,q⟩
 have hc:s1.heap.objs.size≤c:=by
  have hc:c=N + 4∨c=N + 2∨c=N + 3∨c=N∨c=N + 1:=by simpa using hc
  rw [hN]
  rcases hc with rfl | rfl | rfl | rfl | rfl
  ·exact Nat.le_add_right _ _
  ·exact Nat.le_add_right _ _
  ·exact Nat.le_add_right _ _
  ·exact Nat.le_refl _
  ·exact Nat.le_add_right _ _
 exact I1.fpOk hc (I1.hok.fresh hc)
theorem for_zip2 {K:PySem.W.Frag} {S T:ZS} {xs ys:List V} {g:TG} {tb:TS} {D:Ends} {σ:St} {H:Hp} (hlen:xs.length=ys.length) (Pv:Nat→St→Hp→Prop) (h0:Pv 0 σ H) (hl:∀ i σ H,i≤xs.length→Pv i σ H→S.has K H xs∧T.has K H ys)
  (hs:∀ i x y σ H q,xs[i]?=some x→ys[i]?=some y→H q=none→Pv i σ H→g (.ref q) σ (upd H q (.tup [x,y])) fun σ2 H2=>tb { D with nx:=Pv (i + 1),ct:=Pv (i + 1),bk:=D.nx } σ2 H2) (hd:∀ σ H,Pv xs.length σ H→D.nx σ H) :
  ∃ W:Nat→Nat→St→Hp→Prop,(∃ m,W 0 m σ H)∧∀ i m σ H,W i m σ H →
   ((Itz2 K S T).stop i H∧D.nx σ H)∨((Itz2 K S T).go i H∧∃ N:St→Hp→Prop,(∀ σ' H',N σ' H'→∃ m',m' < m∧W (i + 1) m' σ' H')∧∀ x H',(Itz2 K S T).yld i H x H'→g x σ H' fun σ2 H2=>tb { D with nx:=N,ct:=N,bk:=D.nx } σ2 H2):=by
 refine ⟨fun i m σ H=>m=xs.length - i∧i≤xs.length∧Pv i σ H,⟨xs.length,by simp,Nat.zero_le _,h0⟩,?_⟩
 rintro i m σ H ⟨rfl,hi,p⟩
 obtain ⟨q1,q2⟩:=hl i σ H hi p
 by_cases hlt:i < xs.length
 ·have hlt2:i < ys.length:=by omega
  refine .inr ⟨⟨xs,ys,xs[i],ys[i],q1,q2,by simp [hlt],by simp [hlt2]⟩,Pv (i + 1),fun σ' H' p'=>⟨xs.length - (i + 1),by omega,rfl,hlt,p'⟩,fun x H' y=>?_⟩
  obtain ⟨c,u,v,hn,e1,y1,y2,e2⟩:=y
  subst e1 e2
  exact hs i u v σ H c (y1 xs q1) (y2 ys q2) hn p
 ·have e:i=xs.length:=by omega
  subst e
  exact .inl ⟨⟨xs,ys,q1,q2,rfl,hlen⟩,hd σ H p⟩
end
end L2
set_option maxHeartbeats 4000000
namespace L2
open PySem PySem.Spec PyProof.Rows
theorem loop_zip2 {K:PySem.W.Frag} {S T:ZS} {xs ys:List V} {g:TG} {tt:TT} {tb:TB} {R:St→Hp→Prop} {σ:St} {H:Hp} (hlen:xs.length=ys.length) (Pv:Nat→St→Hp→Prop) (h0:Pv 0 σ H) (hl:∀ i σ H,i≤xs.length→Pv i σ H→S.has K H xs∧T.has K H ys)
  (hs:∀ (i:Nat) x y σ H q,xs[i]?=some x→ys[i]?=some y→H q=none→Pv i σ H→g (.ref q) σ (upd H q (.tup [x,y])) fun σ2 H2=>tt σ2 H2 fun b H3=>if b=true then tb σ2 H3 (Pv (i + 1)) else Pv (i + 1) σ2 H3) (hd:∀ σ H,Pv xs.length σ H→R σ H):LoopR (Itz2 K S T) g tt tb R σ H:=by
 refine ⟨fun i m σ H=>m=xs.length - i∧i≤xs.length∧Pv i σ H,⟨xs.length,by simp,Nat.zero_le _,h0⟩,?_⟩
 rintro i m σ H ⟨rfl,hi,p⟩
 obtain ⟨q1,q2⟩:=hl i σ H hi p
 by_cases hlt:i < xs.length
 ·have hlt2:i < ys.length:=by omega
  refine .inr ⟨⟨xs,ys,xs[i],ys[i],q1,q2,by simp [hlt],by simp [hlt2]⟩,Pv (i + 1),fun σ' H' p'=>⟨xs.length - (i + 1),by omega,rfl,hlt,p'⟩,fun x H' y=>?_⟩
  obtain ⟨c,u,v,hn,e1,y1,y2,e2⟩:=y
  subst e1 e2
  exact hs i u v σ H c (y1 xs q1) (y2 ys q2) hn p
 ·have e:i=xs.length:=by omega
  subst e
  exact .inl ⟨⟨xs,ys,q1,q2,rfl,hlen⟩,hd σ H p⟩
end L2
set_option maxHeartbeats 4000000
namespace L2
open PySem PySem.Spec PyProof.Rows
theorem loop_items {d:Addr} {kvs:List (Key × V)} {o:Obj} {g:TG} {tt:TT} {tb:TB} {R:St→Hp→Prop} {σ:St} {H:Hp} (Pv:Nat→St→Hp→Prop) (h0:Pv 0 σ H) (hl:∀ i σ H,i≤kvs.length→Pv i σ H→H d=some (.frz o (.dK kvs)))
  (hs:∀ (i:Nat) k x σ H q,kvs[i]?=some (k,x)→H q=none→Pv i σ H→g (.ref q) σ (upd H q (.tup [kV k,x])) fun σ2 H2=>tt σ2 H2 fun b H3=>if b=true then tb σ2 H3 (Pv (i + 1)) else Pv (i + 1) σ2 H3) (hd:∀ σ H,Pv kvs.length σ H→R σ H):LoopR (Itm2 d kvs o) g tt tb R σ H:=by
 refine ⟨fun i m σ H=>m=kvs.length - i∧i≤kvs.length∧Pv i σ H,⟨kvs.length,by simp,Nat.zero_le _,h0⟩,?_⟩
 rintro i m σ H ⟨rfl,hi,p⟩
 have q:=hl i σ H hi p
 by_cases hlt:i < kvs.length
 ·refine .inr ⟨⟨hlt,q⟩,Pv (i + 1),fun σ' H' p'=>⟨kvs.length - (i + 1),by omega,rfl,hlt,p'⟩,fun x H' y=>?_⟩
  obtain ⟨c,k,v,hn,e1,y,e2⟩:=y
  subst e1 e2
  exact hs i k v σ H c y hn p
 ·have e:i=kvs.length:=by omega
  subst e
  exact .inl ⟨⟨Nat.le_refl _,q⟩,hd σ H p⟩
noncomputable def tThawE (H0:Hp) (t:TE):TE:=fun σ H Q=>t σ H fun v H'=>∃ (a:Addr) (o:Obj) (kvs:List (Key × V)),H' a=some (.frz o (.dK kvs))∧(∀ o u,H0 a≠some (.frz o u))∧Q v (upd H' a (.dK kvs))
theorem pe_thaw {X:Cx} {e:Expr} {t:TE} (h:PE X e t):PE X e (tThawE X.H₀ t):=by
 intro pins s σ H Q I hw
 refine wpAny_mono (h pins s σ H _ I hw) (fun v s' q=>?_) fun _ _ e=>e
 obtain ⟨x,H',I',r,a,o,kvs,e,h0,q⟩:=q
 exact ⟨x,_,I'.thaw e h0,r,q⟩
end L2
set_option maxHeartbeats 4000000
namespace KT
structure Mx where
 a:Nat
 b:Nat
 c:Nat
 d:Nat
namespace Mx
theorem ext' {x y:Mx} (h1:x.a=y.a) (h2:x.b=y.b) (h3:x.c=y.c) (h4:x.d=y.d):x=y:=by
 cases x; cases y; simp only at h1 h2 h3 h4; subst h1 h2 h3 h4; rfl
noncomputable def one:Mx:=⟨1,0,0,1⟩
noncomputable def mul (x y:Mx):Mx:=⟨x.a * y.a + x.b * y.c,x.a * y.b + x.b * y.d,x.c * y.a + x.d * y.c,x.c * y.b + x.d * y.d⟩
noncomputable def tp (x:Mx):Mx:=⟨x.a,x.c,x.b,x.d⟩
noncomputable def tr (x:Mx):Nat:=x.a + x.d
theorem one_mul (x:Mx):mul one x=x:=by apply ext' <;> simp [mul,one]
theorem mul_one (x:Mx):mul x one=x:=by apply ext' <;> simp [mul,one]
theorem assoc (x y z:Mx):mul (mul x y) z=mul x (mul y z):=by
 apply ext' <;> simp only [mul,Nat.add_mul,Nat.mul_add,Nat.mul_assoc] <;> omega
theorem tr_comm (x y:Mx):tr (mul x y)=tr (mul y x):=by
 simp only [tr,mul,Nat.mul_comm]
 omega
noncomputable def prod:List Mx→Mx
 | []=>one
 | x :: l=>mul x (prod l)
theorem prod_append:∀ l m:List Mx,prod (l ++ m)=mul (prod l) (prod m)
 | [],m=>(one_mul _).symm
 | x :: l,m=>by
  show mul x (prod (l ++ m))=_
  rw [prod_append l m,← assoc]
  rfl
noncomputable def dg (v:Nat × Nat):Mx:=⟨v.1,0,0,v.2⟩
noncomputable def tu (l:Bool):Mx:=if l then ⟨1,1,0,1⟩ else ⟨1,0,1,1⟩
noncomputable def stp (x:Mx) (q:(Nat × Nat) × Bool):Mx:=if q.2 then ⟨x.a * q.1.1,x.b * q.1.2 + x.a * q.1.1,x.c * q.1.1,x.d * q.1.2 + x.c * q.1.1⟩ else ⟨x.a * q.1.1 + x.b * q.1.2,x.b * q.1.2,x.c * q.1.1 + x.d * q.1.2,x.d * q.1.2⟩
theorem stp_eq (x:Mx) (q:(Nat × Nat) × Bool):stp x q=mul x (mul (dg q.1) (tu q.2)):=by
 obtain ⟨v,l⟩:=q
 cases l
 ·apply ext' <;> simp [stp,mul,dg,tu]
 ·apply ext' <;> simp [stp,mul,dg,tu] <;> omega
noncomputable def tab (l:List ((Nat × Nat) × Bool)):Mx:=l.foldl stp one
noncomputable def wd:List ((Nat × Nat) × Bool)→List Mx
 | []=>[]
 | q :: l=>dg q.1 :: tu q.2 :: wd l
theorem tab_fold:∀ (l:List ((Nat × Nat) × Bool)) (x:Mx),l.foldl stp x=mul x (prod (wd l))
 | [],x=>(mul_one x).symm
 | q :: l,x=>by
  rw [List.foldl_cons,tab_fold l,stp_eq]
  show _=mul x (mul (dg q.1) (mul (tu q.2) (prod (wd l))))
  rw [assoc,assoc]
theorem tab_eq (l:List ((Nat × Nat) × Bool)):tab l=prod (wd l):=by rw [tab,tab_fold,one_mul]
theorem wd_append:∀ l m:List ((Nat × Nat) × Bool),wd (l ++ m)=wd l ++ wd m
 | [],m=>rfl
 | q :: l,m=>by
  show dg q.1 :: tu q.2 :: wd (l ++ m)=_
  rw [wd_append l m]
  rfl
theorem tr_rot (l m:List ((Nat × Nat) × Bool)):tr (tab (l ++ m))=tr (tab (m ++ l)):=by rw [tab_eq,tab_eq,wd_append,wd_append,prod_append,prod_append,tr_comm]
noncomputable def dt:List ((Nat × Nat) × Bool)→Nat
 | []=>1
 | q :: l=>q.1.1 * q.1.2 * dt l
theorem stp_det {x:Mx} {D:Nat} (q:(Nat × Nat) × Bool) (h:x.a * x.d=x.b * x.c + D):(stp x q).a * (stp x q).d=(stp x q).b * (stp x q).c + D * (q.1.1 * q.1.2):=by
 obtain ⟨v,l⟩:=q
 have h2:x.a * v.1 * (x.d * v.2)=x.b * v.2 * (x.c * v.1) + D * (v.1 * v.2):=by
  have e:x.a * v.1 * (x.d * v.2)=x.a * x.d * (v.1 * v.2):=by simp only [Nat.mul_comm,Nat.mul_left_comm]
  rw [e,h,Nat.add_mul]
  simp only [Nat.mul_comm,Nat.mul_left_comm]
 cases l
 ·show (x.a * v.1 + x.b * v.2) * (x.d * v.2)=x.b * v.2 * (x.c * v.1 + x.d * v.2) + D * (v.1 * v.2)
  rw [Nat.add_mul,Nat.mul_add,h2]
  omega
 ·show x.a * v.1 * (x.d * v.2 + x.c * v.1)=(x.b * v.2 + x.a * v.1) * (x.c * v.1) + D * (v.1 * v.2)
  rw [Nat.add_mul,Nat.mul_add,h2]
  omega
theorem fold_det:∀ (l:List ((Nat × Nat) × Bool)) (x:Mx) (D:Nat),x.a * x.d=x.b * x.c + D→(l.foldl stp x).a * (l.foldl stp x).d=(l.foldl stp x).b * (l.foldl stp x).c + D * dt l
 | [],x,D,h=>by show x.a * x.d=x.b * x.c + D * 1; rw [Nat.mul_one]; exact h
 | q :: l,x,D,h=>by
  rw [List.foldl_cons]
  have:=fold_det l (stp x q) _ (stp_det q h)
  rw [Nat.mul_assoc] at this
  exact this
theorem tab_det (l:List ((Nat × Nat) × Bool)):(tab l).a * (tab l).d=(tab l).b * (tab l).c + dt l:=by
 have:=fold_det l one 1 rfl
 rw [Nat.one_mul] at this
 exact this
theorem dt_pos:∀ {l:List ((Nat × Nat) × Bool)},(∀ q∈l,1≤q.1.1∧1≤q.1.2)→1≤dt l
 | [],_=>Nat.le_refl _
 | q :: l,h=>Nat.mul_pos (Nat.mul_pos (h q List.mem_cons_self).1 (h q List.mem_cons_self).2) (dt_pos fun p hp=>h p (List.mem_cons_of_mem _ hp))
theorem dt_append:∀ l m:List ((Nat × Nat) × Bool),dt (l ++ m)=dt l * dt m
 | [],m=>(Nat.one_mul _).symm
 | q :: l,m=>by
  show q.1.1 * q.1.2 * dt (l ++ m)=q.1.1 * q.1.2 * dt l * dt m
  rw [dt_append l m,Nat.mul_assoc (q.1.1 * q.1.2)]
theorem four_le (l:List ((Nat × Nat) × Bool)):4 * dt l≤tr (tab l) * tr (tab l):=by
 have h:=tab_det l
 have sq:∀ a d:Nat,4 * (a * d)≤(a + d) * (a + d):=fun a d=>by
  rcases Nat.le_total a d with q | q
  ·obtain ⟨k,rfl⟩:=Nat.exists_eq_add_of_le q
   have:(a + (a + k)) * (a + (a + k))=4 * (a * (a + k)) + k * k:=by
    simp only [Nat.add_mul,Nat.mul_add,Nat.mul_comm k a]
    omega
   omega
  ·obtain ⟨k,rfl⟩:=Nat.exists_eq_add_of_le q
   have:((d + k) + d) * ((d + k) + d)=4 * ((d + k) * d) + k * k:=by
    simp only [Nat.add_mul,Nat.mul_add,Nat.mul_comm k d]
    omega
   omega
 have:=sq (tab l).a (tab l).d
 unfold tr
 omega
theorem stp_le {x:Mx} {B k:Nat} (q:(Nat × Nat) × Bool) (h:x.a≤B∧x.b≤B∧x.c≤B∧x.d≤B) (h1:q.1.1≤k) (h2:q.1.2≤k):(stp x q).a≤B * (2 * k)∧(stp x q).b≤B * (2 * k)∧(stp x q).c≤B * (2 * k)∧(stp x q).d≤B * (2 * k):=by
 obtain ⟨v,l⟩:=q
 obtain ⟨a,b,c,d⟩:=h
 have e:B * (2 * k)=B * k + B * k:=by rw [Nat.two_mul,Nat.mul_add]
 have a1:=Nat.mul_le_mul a h1
 have b1:=Nat.mul_le_mul b h2
 have c1:=Nat.mul_le_mul c h1
 have d1:=Nat.mul_le_mul d h2
 dsimp only at a1 b1 c1 d1
 rw [e]
 cases l
 ·show x.a * v.1 + x.b * v.2≤_∧x.b * v.2≤_∧x.c * v.1 + x.d * v.2≤_∧x.d * v.2≤_
  omega
 ·show x.a * v.1≤_∧x.b * v.2 + x.a * v.1≤_∧x.c * v.1≤_∧x.d * v.2 + x.c * v.1≤_
  omega
theorem fold_le {k:Nat}:∀ (l:List ((Nat × Nat) × Bool)) (x:Mx) (B:Nat),(∀ q∈l,q.1.1≤k∧q.1.2≤k)→(x.a≤B∧x.b≤B∧x.c≤B∧x.d≤B)→(l.foldl stp x).a≤B * (2 * k) ^ l.length∧(l.foldl stp x).b≤B * (2 * k) ^ l.length∧(l.foldl stp x).c≤B * (2 * k) ^ l.length∧(l.foldl stp x).d≤B * (2 * k) ^ l.length
 | [],x,B,_,h=>by simpa using h
 | q :: l,x,B,hq,h=>by
  rw [List.foldl_cons,List.length_cons,Nat.pow_succ',← Nat.mul_assoc]
  exact fold_le l _ _ (fun p hp=>hq p (List.mem_cons_of_mem _ hp)) (stp_le q h (hq q List.mem_cons_self).1 (hq q List.mem_cons_self).2)
noncomputable def sca:List ((Nat × Nat) × Bool)→List ((Nat × Nat) × Bool)→Nat→Prop
 | [],[],G=>G=1
 | p :: l,q :: m,G=>∃ g G',p.2=q.2∧p.1.1=g * q.1.1∧p.1.2=g * q.1.2∧sca l m G'∧G=g * G'
 | _,_,_=>False
theorem sca_tab:∀ {l m:List ((Nat × Nat) × Bool)} {G:Nat},sca l m G→∀ (x y:Mx) (k:Nat),x.a=k * y.a→x.b=k * y.b→x.c=k * y.c→x.d=k * y.d→(l.foldl stp x).a=k * G * (m.foldl stp y).a∧(l.foldl stp x).d=k * G * (m.foldl stp y).d∧dt l=G * G * dt m
 | [],[],G,h,x,y,k,h1,h2,h3,h4=>by
  have h:G=1:=h
  subst h
  simp only [List.foldl_nil,Nat.mul_one,dt]
  exact ⟨h1,h4,trivial⟩
 | (v,t) :: l,(u,s) :: m,G,h,x,y,k,h1,h2,h3,h4=>by
  obtain ⟨g,G',e1,e2,e3,hs,rfl⟩:=h
  dsimp only at e1 e2 e3
  subst e1
  have key:=sca_tab hs (stp x (v,t)) (stp y (u,t)) (k * g) ?_ ?_ ?_ ?_
  ·rw [List.foldl_cons,List.foldl_cons]
   refine ⟨by rw [key.1,Nat.mul_assoc k],by rw [key.2.1,Nat.mul_assoc k],?_⟩
   show v.1 * v.2 * dt l=g * G' * (g * G') * (u.1 * u.2 * dt m)
   rw [key.2.2,e2,e3]
   simp only [Nat.mul_comm,Nat.mul_left_comm,Nat.mul_assoc]
  all_goals
   cases t <;> simp only [stp,if_true,if_false,Bool.false_eq_true,h1,h2,h3,h4,e2,e3,Nat.mul_add] <;> simp only [Nat.mul_comm,Nat.mul_left_comm]
 | [],_ :: _,_,h,_,_,_,_,_,_,_=>h.elim
 | _ :: _,[],_,h,_,_,_,_,_,_,_=>h.elim
end Mx
end KT
set_option maxHeartbeats 4000000
namespace KT
open PySem L2 Mx
noncomputable def loS (s:Nat × Nat) (f:Nat):Nat × Nat:=(s.1 / Nat.gcd s.1 f,s.2 * (f / Nat.gcd s.1 f))
theorem lo_val {s:Nat × Nat} {f N D:Nat} (h:Val s N D) (hf:0 < f):Val (loS s f) N (D * f):=by
 have g0:0 < Nat.gcd s.1 f:=Nat.gcd_pos_of_pos_left _ h.p1
 obtain ⟨a,ha⟩:=Nat.gcd_dvd_left s.1 f
 obtain ⟨b,hb⟩:=Nat.gcd_dvd_right s.1 f
 have ea:s.1 / Nat.gcd s.1 f=a:=by rw [Nat.div_eq_iff_eq_mul_right g0 (Nat.gcd_dvd_left _ _)]; exact ha
 have eb:f / Nat.gcd s.1 f=b:=by rw [Nat.div_eq_iff_eq_mul_right g0 (Nat.gcd_dvd_right _ _)]; exact hb
 have co:Nat.gcd a b=1:=by rw [← ea,← eb,Nat.gcd_div (Nat.gcd_dvd_left _ _) (Nat.gcd_dvd_right _ _),Nat.div_self g0]
 have e:=h.eq
 have c0:=h.co
 unfold loS
 rw [ea,eb]
 generalize Nat.gcd s.1 f=m at *
 have p1:=h.p1
 have p2:=h.p2
 rw [ha] at p1 e c0
 rw [hb] at hf
 refine ⟨Nat.pos_of_mul_pos_left p1,Nat.mul_pos p2 (Nat.pos_of_mul_pos_left hf),?_,?_⟩
 ·exact Nat.Coprime.mul_right (Nat.Coprime.coprime_mul_left c0) co
 ·show a * (D * f)=s.2 * b * N
  rw [hb]
  calc a * (D * (m * b))=m * a * D * b:=by ac_rfl
   _=s.2 * b * N:=by rw [e]; ac_rfl
noncomputable def prd (fs:List Nat):Nat:=fs.foldl (· * ·) 1
theorem prd_step {fs:List Nat} {i f:Nat} (h:fs[i]?=some f):prd (fs.take (i + 1))=prd (fs.take i) * f:=by
 unfold prd
 rw [List.take_add_one,h,List.foldl_append]
 rfl
theorem lo_step {fs:List Nat} {s:Nat × Nat} {i f:Nat} (h:fs[i]?=some f):(fs.take (i + 1)).foldl loS s=loS ((fs.take i).foldl loS s) f:=by
 rw [List.take_add_one,h,List.foldl_append]
 rfl
theorem lo_vals {fs:List Nat} {N:Nat} (hN:0 < N) (hf:∀ f∈fs,0 < f):∀ i,i≤fs.length→Val ((fs.take i).foldl loS (N,1)) N (prd (fs.take i))
 | 0,_=>⟨hN,Nat.one_pos,Nat.gcd_one_right _,by show N * 1=1 * N; omega⟩
 | i + 1,h=>by
  have e:=List.getElem?_eq_getElem (show i < fs.length by omega)
  rw [lo_step e,prd_step e]
  exact lo_val (lo_vals hN hf i (by omega)) (hf _ (List.getElem_mem _))
theorem prd_pos {fs:List Nat} (hf:∀ f∈fs,0 < f):∀ i,i≤fs.length→0 < prd (fs.take i)
 | 0,_=>Nat.one_pos
 | i + 1,h=>by
  rw [prd_step (List.getElem?_eq_getElem (show i < fs.length by omega))]
  exact Nat.mul_pos (prd_pos hf i (by omega)) (hf _ (List.getElem_mem _))
theorem prd_le {fs:List Nat} {k:Nat} (hf:∀ f∈fs,f≤k):∀ i,i≤fs.length→prd (fs.take i)≤k ^ i
 | 0,_=>Nat.le_refl _
 | i + 1,h=>by
  rw [prd_step (List.getElem?_eq_getElem (show i < fs.length by omega)),Nat.pow_succ]
  exact Nat.mul_le_mul (prd_le hf i (by omega)) (hf _ (List.getElem_mem _))
theorem lo_eq {fs:List Nat} {N:Nat} (hN:0 < N) (hf:∀ f∈fs,0 < f):fs.foldl loS (N,1)=lowN N (prd fs):=by
 have h1:=lo_vals hN hf fs.length (Nat.le_refl _)
 have h2:=prd_pos hf fs.length (Nat.le_refl _)
 rw [List.take_length] at h1 h2
 exact h1.uniq (low_val hN h2) h2
theorem Val.le {v:Nat × Nat} {N D:Nat} (h:Val v N D) (hN:0 < N) (hD:0 < D):v.1≤N∧v.2≤D:=by
 rw [h.uniq (low_val hN hD) hD]
 exact lowN_le N D
theorem low_scale {k m n:Nat} (hk:0 < k) (hm:0 < m) (hn:0 < n):lowN (k * m) (k * n)=lowN m n:=by
 have h:=low_val (Nat.mul_pos hk hm) (Nat.mul_pos hk hn)
 have:Val (lowN (k * m) (k * n)) m n:=⟨h.p1,h.p2,h.co,by
  refine Nat.eq_of_mul_eq_mul_left hk ?_
  have:=h.eq
  rw [Nat.mul_left_comm,this,Nat.mul_left_comm]⟩
 exact this.uniq (low_val hm hn) hn
noncomputable def tuB (y:Str):Bool:=decide (y=sL)
noncomputable def tuL (M:List (Option Nat)) (ws:List Nat):List Bool:=(letL M ws).map tuB
noncomputable def crL (h:Int→Nat × Nat) (ns:List Int) (ws:List Nat):List (Nat × Nat):=ws.map fun p=>h (ns.getD p 0)
noncomputable def wz (h:Int→Nat × Nat) (M:List (Option Nat)) (ns:List Int) (ws:List Nat):List ((Nat × Nat) × Bool):=(crL h ns ws).zip (tuL M ws)
noncomputable def wor (h:Int→Nat × Nat) (M:List (Option Nat)) (ns:List Int) (ws:List Nat):Nat × Nat:=lowN (tr (tab (wz h M ns ws)) * tr (tab (wz h M ns ws))) (dt (wz h M ns ws))
variable {M:List (Option Nat)} {ns:List Int} {ws:List Nat} {h:Int→Nat × Nat}
theorem crL_len:(crL h ns ws).length=ws.length:=by unfold crL; simp
theorem tuL_len (h0:0 < ws.length):(tuL M ws).length=ws.length:=by unfold tuL; rw [List.length_map,letL_len M ws h0]
theorem wz_len (h0:0 < ws.length):(wz h M ns ws).length=ws.length:=by unfold wz; rw [List.length_zip,crL_len,tuL_len h0,Nat.min_self]
theorem tuL_get {k a p:Nat} (ha:ws[k]?=some a) (hp:ws[(k + 1) % ws.length]?=some p):(tuL M ws)[k]?=some (tuB (letS M a p)):=by
 unfold tuL
 rw [List.getElem?_map,letL_get ha hp]
 rfl
theorem tuL_rot {s:Nat} (hs:s < ws.length):tuL M (rot ws s)=rot (tuL M ws) s:=by
 have h0:0 < ws.length:=by omega
 have hl:=rot_len ws (Nat.le_of_lt hs)
 apply List.ext_getElem?
 intro k
 rcases Nat.lt_or_ge k ws.length with hk | hk
 ·rw [rot_get (by rw [tuL_len h0]; exact hs) (by rw [tuL_len h0]; exact hk),tuL_len h0]
  have i1:(k + s) % ws.length < ws.length:=Nat.mod_lt _ h0
  have i2:((k + s) % ws.length + 1) % ws.length < ws.length:=Nat.mod_lt _ h0
  have e1:=List.getElem?_eq_getElem i1
  have e2:=List.getElem?_eq_getElem i2
  rw [tuL_get e1 e2]
  refine tuL_get ?_ ?_
  ·rw [rot_get hs hk]; exact e1
  ·rw [hl,rot_get hs (Nat.mod_lt _ h0),← e2]
   congr 1
   rw [Nat.mod_add_mod,Nat.mod_add_mod]
   congr 1
   omega
 ·rw [List.getElem?_eq_none (by rw [tuL_len (by omega)]; omega),List.getElem?_eq_none (by rw [rot_len _ (by rw [tuL_len h0]; omega),tuL_len h0]; exact hk)]
theorem zip_rot {α β:Type} {a:List α} {b:List β} {s:Nat} (e:a.length=b.length):(rot a s).zip (rot b s)=rot (a.zip b) s:=by
 unfold rot
 rw [List.zip_append (by simp [e])]
 unfold List.zip
 rw [List.drop_zipWith,List.take_zipWith]
theorem dt_zip:∀ (vs:List (Nat × Nat)) (ts:List Bool),vs.length=ts.length→dt (vs.zip ts)=prd (vs.flatMap fun v=>[v.1,v.2])
 | [],[],_=>rfl
 | v :: vs,t :: ts,e=>by
  have e':vs.length=ts.length:=by simpa using e
  rw [List.zip_cons_cons,List.flatMap_cons]
  show v.1 * v.2 * dt (vs.zip ts)=prd (v.1 :: v.2 :: vs.flatMap fun v=>[v.1,v.2])
  rw [dt_zip vs ts e']
  unfold prd
  rw [List.foldl_cons,List.foldl_cons,Nat.one_mul]
  exact (prd_mul _ _).symm
where
 prd_mul:∀ (k:Nat) (fs:List Nat),fs.foldl (· * ·) k=k * fs.foldl (· * ·) 1
  | k,[]=>(Nat.mul_one k).symm
  | k,f :: fs=>by
   rw [List.foldl_cons,List.foldl_cons,prd_mul (k * f) fs,prd_mul (1 * f) fs,Nat.one_mul,Nat.mul_assoc]
theorem sca_zip {g:Int→Nat × Nat}:∀ (ps:List Nat) (ts:List Bool),ps.length=ts.length→(∀ p∈ps,1≤(g (ns.getD p 0)).1∧1≤(g (ns.getD p 0)).2)→∃ G,1≤G∧sca ((crL g ns ps).zip ts) ((crL (lowG g) ns ps).zip ts) G
 | [],[],_,_=>⟨1,Nat.le_refl _,rfl⟩
 | p :: ps,t :: ts,e,hp=>by
  obtain ⟨G,hG,hs⟩:=sca_zip ps ts (by simpa using e) (fun q hq=>hp q (List.mem_cons_of_mem _ hq))
  obtain ⟨h1,h2⟩:=hp p List.mem_cons_self
  have g0:0 < Nat.gcd (g (ns.getD p 0)).1 (g (ns.getD p 0)).2:=Nat.gcd_pos_of_pos_left _ h1
  refine ⟨_ * G,Nat.mul_pos g0 hG,_,G,rfl,?_,?_,hs,rfl⟩
  ·exact (Nat.mul_div_cancel' (Nat.gcd_dvd_left _ _)).symm
  ·exact (Nat.mul_div_cancel' (Nat.gcd_dvd_right _ _)).symm
theorem wz_pos {g:Int→Nat × Nat} (hg:∀ p∈ws,1≤(g (ns.getD p 0)).1∧1≤(g (ns.getD p 0)).2):∀ q∈wz g M ns ws,1≤q.1.1∧1≤q.1.2:=fun q hq=>by
 unfold wz at hq
 obtain ⟨p,hp,e⟩:=List.mem_map.mp (List.of_mem_zip hq).1
 rw [← e]
 exact hg p hp
theorem wz_le {g:Int→Nat × Nat} {k:Nat} (hg:∀ p∈ws,(g (ns.getD p 0)).1≤k∧(g (ns.getD p 0)).2≤k):∀ q∈wz g M ns ws,q.1.1≤k∧q.1.2≤k:=fun q hq=>by
 unfold wz at hq
 obtain ⟨p,hp,e⟩:=List.mem_map.mp (List.of_mem_zip hq).1
 rw [← e]
 exact hg p hp
theorem tr_pos {l:List ((Nat × Nat) × Bool)} (hl:∀ q∈l,1≤q.1.1∧1≤q.1.2):1≤tr (tab l):=by
 have h1:=four_le l
 have h2:=dt_pos hl
 rcases Nat.eq_zero_or_pos (tr (tab l)) with z | z
 ·rw [z] at h1; omega
 ·exact z
theorem wor_low {g:Int→Nat × Nat} (h0:0 < ws.length) (hg:∀ p∈ws,1≤(g (ns.getD p 0)).1∧1≤(g (ns.getD p 0)).2):wor g M ns ws=wor (lowG g) M ns ws:=by
 obtain ⟨G,hG,hs⟩:=sca_zip (g:=g) (ns:=ns) ws (tuL M ws) (by rw [tuL_len h0]) hg
 have hl:∀ p∈ws,1≤(lowG g (ns.getD p 0)).1∧1≤(lowG g (ns.getD p 0)).2:=fun p hp=>by
  have:=low_val (hg p hp).1 (hg p hp).2
  exact ⟨this.p1,this.p2⟩
 obtain ⟨k1,k2,k3⟩:=sca_tab hs one one 1 rfl rfl rfl rfl
 have p1:=tr_pos (wz_pos (M:=M) hl)
 have p2:=dt_pos (wz_pos (M:=M) hl)
 have e:tr (tab (wz g M ns ws))=G * tr (tab (wz (lowG g) M ns ws)):=by
  unfold tr
  show (List.foldl stp one (wz g M ns ws)).a + (List.foldl stp one (wz g M ns ws)).d=_
  unfold wz
  rw [k1,k2,Nat.one_mul,← Nat.mul_add]
  rfl
 have e2:dt (wz g M ns ws)=G * G * dt (wz (lowG g) M ns ws):=k3
 unfold wor
 rw [e,e2,show G * tr (tab (wz (lowG g) M ns ws)) * (G * tr (tab (wz (lowG g) M ns ws)))=G * G * (tr (tab (wz (lowG g) M ns ws)) * tr (tab (wz (lowG g) M ns ws))) by ac_rfl]
 exact low_scale (Nat.mul_pos hG hG) (Nat.mul_pos p1 p1) p2
end KT
set_option maxHeartbeats 4000000
namespace KT
open PySem L2 Mx
theorem tab_app (l m:List ((Nat × Nat) × Bool)):tab (l ++ m)=mul (tab l) (tab m):=by rw [tab_eq,tab_eq,tab_eq,wd_append,prod_append]
noncomputable def scl (c:Nat) (x:Mx):Mx:=⟨c * x.a,c * x.b,c * x.c,c * x.d⟩
theorem scl_mul (c:Nat) (x y:Mx):mul (scl c x) y=scl c (mul x y):=by apply Mx.ext' <;> simp only [mul,scl,Nat.mul_add,Nat.mul_assoc]
theorem mul_scl (c:Nat) (x y:Mx):mul x (scl c y)=scl c (mul x y):=by apply Mx.ext' <;> simp only [mul,scl,Nat.mul_add,Nat.mul_left_comm]
theorem scl_scl (c d:Nat) (x:Mx):scl c (scl d x)=scl (c * d) x:=by apply Mx.ext' <;> simp only [scl,Nat.mul_assoc]
noncomputable def tq (e q:Nat):Bool:=!decide (q=aftN e)
theorem tuB_let {M:List (Option Nat)} {p m q:Nat} (h:M[p]?=some (some m)):tuB (letS M p q)=tq m q:=by
 have e:letS M p q=if q=aftN m then Str.ofString "R" else Str.ofString "L":=by unfold letS; rw [List.getD_eq_getElem?_getD,h]; rfl
 have n1:tuB (Str.ofString "R")=false:=by decide
 have n2:tuB (Str.ofString "L")=true:=by decide
 rw [e]
 unfold tq
 by_cases c:q=aftN m
 ·rw [if_pos c,n1,decide_eq_true c]; rfl
 ·rw [if_neg c,n2,decide_eq_false c]; rfl
noncomputable def pth (v:Nat→Nat × Nat) (M:List (Option Nat)):List Nat→Nat→List ((Nat × Nat) × Bool)
 | [],_=>[]
 | p :: l,z=>(v p,tuB (letS M p (l.headD z))) :: pth v M l z
variable {v v':Nat→Nat × Nat} {M:List (Option Nat)}
theorem pth_app:∀ (l m:List Nat) (z:Nat),pth v M (l ++ m) z=pth v M l (m.headD z) ++ pth v M m z
 | [],m,z=>rfl
 | p :: l,m,z=>by
  show (v p,tuB (letS M p ((l ++ m).headD z))) :: pth v M (l ++ m) z=(v p,tuB (letS M p (l.headD (m.headD z)))) :: (pth v M l (m.headD z) ++ pth v M m z)
  rw [pth_app l m z]
  cases l <;> rfl
theorem zip_pth:∀ (t:List Nat) (x z:Nat),((x :: t).map v).zip (((x :: t).zip (t ++ [z])).map fun q=>tuB (letS M q.1 q.2))=pth v M (x :: t) z
 | [],x,z=>rfl
 | y :: t,x,z=>by
  show (v x,tuB (letS M x y)) :: ((y :: t).map v).zip (((y :: t).zip (t ++ [z])).map fun q=>tuB (letS M q.1 q.2))=(v x,tuB (letS M x y)) :: pth v M (y :: t) z
  rw [zip_pth t y z]
noncomputable def wzv (v:Nat→Nat × Nat) (M:List (Option Nat)) (ws:List Nat):List ((Nat × Nat) × Bool):=(ws.map v).zip (tuL M ws)
noncomputable def worV (v:Nat→Nat × Nat) (M:List (Option Nat)) (ws:List Nat):Nat × Nat:=lowN (tr (tab (wzv v M ws)) * tr (tab (wzv v M ws))) (dt (wzv v M ws))
theorem wor_V (h:Int→Nat × Nat) (ns:List Int) (ws:List Nat):wor h M ns ws=worV (fun p=>h (ns.getD p 0)) M ws:=rfl
theorem wz_pth (x:Nat) (t:List Nat):wzv v M (x :: t)=pth v M (x :: t) x:=by
 rw [← zip_pth]
 unfold wzv tuL letL
 rw [List.map_map,show (x :: t).zip (rot (x :: t) (1 % (x :: t).length))=(x :: t).zip (t ++ [x]) from pairs_cons x t]
 rfl
theorem worV_rot {ws:List Nat} {s:Nat} (hs:s < ws.length):worV v M (rot ws s)=worV v M ws:=by
 have e:wzv v M (rot ws s)=rot (wzv v M ws) s:=by
  unfold wzv
  rw [tuL_rot hs,show (rot ws s).map v=rot (ws.map v) s by unfold rot; rw [List.map_append,List.map_drop,List.map_take],zip_rot (by rw [List.length_map,tuL_len (by omega)])]
 unfold worV
 rw [e]
 generalize wzv v M ws=l
 have e1:tr (tab (rot l s))=tr (tab l):=by
  unfold rot
  rw [tr_rot,List.take_append_drop]
 have e2:dt (rot l s)=dt l:=by
  unfold rot
  rw [dt_append,Nat.mul_comm,← dt_append,List.take_append_drop]
 rw [e1,e2]
theorem worV_turn {u w:List Nat} (h:Tn u w):worV v M w=worV v M u:=by
 obtain ⟨s,hs,rfl⟩:=h.rot
 rcases Nat.lt_or_ge s u.length with c | c
 ·exact worV_rot c
 ·have:s=u.length:=by omega
  subst this
  rw [show rot u u.length=u by unfold rot; simp]
theorem pth_blk {blk:Nat→Nat→List Nat} {st:Nat→Nat} (hb:∀ u f,∃ l,blk u f=st u :: l):∀ (r:List Nat) (h z:Nat),pth v M (((h :: r).zip (r ++ [z])).map fun q=>blk q.1 q.2).flatten (st z)=(((h :: r).zip (r ++ [z])).map fun q=>pth v M (blk q.1 q.2) (st q.2)).flatten
 | [],h,z=>by simp
 | f :: r,h,z=>by
  have ih:=pth_blk hb r f z
  show pth v M (blk h f ++ (((f :: r).zip (r ++ [z])).map fun q=>blk q.1 q.2).flatten) (st z)=pth v M (blk h f) (st f) ++ (((f :: r).zip (r ++ [z])).map fun q=>pth v M (blk q.1 q.2) (st q.2)).flatten
  rw [pth_app,ih]
  congr 2
  cases r with
  | nil =>
   obtain ⟨l,e⟩:=hb f z
   show (blk f z ++ []).headD (st z)=st f
   rw [e]; rfl
  | cons y r =>
   obtain ⟨l,e⟩:=hb f y
   show (blk f y ++ _).headD (st z)=st f
   rw [e]; rfl
theorem twine {N O:Nat→Nat→List ((Nat × Nat) × Bool)} {F:Nat→Nat × Nat}:∀ (r:List Nat) (h z:Nat),(∀ (k u w:Nat),(h :: r ++ [z])[k]?=some u→(h :: r ++ [z])[k + 1]?=some w→∃ c,1≤c∧mul (tab (N u w)) (dg (F w))=scl c (mul (dg (F u)) (tab (O u w)))) →
  ∃ c,1≤c∧mul (tab (((h :: r).zip (r ++ [z])).map fun q=>N q.1 q.2).flatten) (dg (F z))=scl c (mul (dg (F h)) (tab (((h :: r).zip (r ++ [z])).map fun q=>O q.1 q.2).flatten))
 | [],h,z,k=>by
  have:=k 0 h z rfl rfl
  simpa using this
 | f :: r,h,z,k=>by
  obtain ⟨c1,p1,e1⟩:=k 0 h f rfl rfl
  obtain ⟨c2,p2,e2⟩:=twine (N:=N) (O:=O) (F:=F) r f z (fun i u w hu hw=>k (i + 1) u w hu hw)
  refine ⟨c2 * c1,Nat.mul_pos p2 p1,?_⟩
  show mul (tab (N h f ++ (((f :: r).zip (r ++ [z])).map fun q=>N q.1 q.2).flatten)) (dg (F z))=scl (c2 * c1) (mul (dg (F h)) (tab (O h f ++ (((f :: r).zip (r ++ [z])).map fun q=>O q.1 q.2).flatten)))
  rw [tab_app,tab_app,Mx.assoc,e2,mul_scl,← Mx.assoc,e1,scl_mul,scl_scl,Mx.assoc]
theorem twine_end {n o:List ((Nat × Nat) × Bool)} {f:Nat × Nat} {c:Nat} (h1:1≤f.1) (h2:1≤f.2) (h:mul (tab n) (dg f)=scl c (mul (dg f) (tab o))):tr (tab n)=c * tr (tab o)∧dt n=c * c * dt o:=by
 have dn:=tab_det n
 have do':=tab_det o
 generalize tab n=X at *
 generalize tab o=Y at *
 have ha:=congrArg Mx.a h
 have hb:=congrArg Mx.b h
 have hc:=congrArg Mx.c h
 have hd:=congrArg Mx.d h
 simp only [mul,dg,scl,Nat.mul_zero,Nat.zero_mul,Nat.add_zero,Nat.zero_add] at ha hb hc hd
 have ea:X.a=c * Y.a:=Nat.eq_of_mul_eq_mul_right h1 (by rw [ha]; ac_rfl)
 have ed:X.d=c * Y.d:=Nat.eq_of_mul_eq_mul_right h2 (by rw [hd]; ac_rfl)
 have ebc:X.b * X.c=c * c * (Y.b * Y.c):=by
  refine Nat.eq_of_mul_eq_mul_right (Nat.mul_pos h1 h2) ?_
  calc X.b * X.c * (f.1 * f.2)=(X.b * f.2) * (X.c * f.1):=by ac_rfl
   _=c * c * (Y.b * Y.c) * (f.1 * f.2):=by rw [hb,hc]; ac_rfl
 refine ⟨by unfold tr; rw [ea,ed,Nat.mul_add],?_⟩
 have e1:X.a * X.d=c * c * (Y.a * Y.d):=by rw [ea,ed]; ac_rfl
 rw [e1,ebc,do',Nat.mul_add] at dn
 omega
theorem twine_wor {n o:List ((Nat × Nat) × Bool)} {f:Nat × Nat} {c:Nat} (hc:1≤c) (h1:1≤f.1) (h2:1≤f.2) (ho:∀ q∈o,1≤q.1.1∧1≤q.1.2) (h:mul (tab n) (dg f)=scl c (mul (dg f) (tab o))):lowN (tr (tab n) * tr (tab n)) (dt n)=lowN (tr (tab o) * tr (tab o)) (dt o):=by
 obtain ⟨e1,e2⟩:=twine_end h1 h2 h
 rw [e1,e2,show c * tr (tab o) * (c * tr (tab o))=c * c * (tr (tab o) * tr (tab o)) by ac_rfl]
 exact low_scale (Nat.mul_pos hc hc) (Nat.mul_pos (tr_pos ho) (tr_pos ho)) (dt_pos ho)
theorem dg_mul (x y:Nat × Nat):mul (dg x) (dg y)=dg (x.1 * y.1,x.2 * y.2):=by apply Mx.ext' <;> simp [mul,dg]
noncomputable def Tm (x:Nat × Nat) (a b e f:Nat):Mx:=if e / 3=f / 3 then Mx.tu (tq e f) else if a / 3=e / 3 then mul (Mx.tu (tq e a)) (mul (dg x) (Mx.tu (tq b f))) else mul (Mx.tu (tq e b)) (mul (dg x) (Mx.tu (tq a f)))
noncomputable def TTq (x:Nat × Nat) (i j:Nat):Mx:=if i / 2=j / 2 then Mx.tu (decide (j < i)) else mul (Mx.tu (decide (i % 2=0))) (mul (dg x) (Mx.tu (decide (j % 2=1))))
theorem aftN_aN (i:Nat):aftN i=aN i:=(aN_val i).symm
theorem tq_eq {e q:Nat} (h:q=aN e):tq e q=false:=by unfold tq; rw [aftN_aN,decide_eq_true h]; rfl
theorem tq_ne {e q:Nat} (h:q≠aN e):tq e q=true:=by unfold tq; rw [aftN_aN,decide_eq_false h]; rfl
theorem tq_ab (a:Nat):tq (aN a) (bN a)=false∧tq (bN a) (aN a)=true∧tq (aN a) a=true∧tq (bN a) a=false∧tq a (aN a)=false∧tq a (bN a)=true:=by
 obtain ⟨_,_,e1,_,e2,_,n1,n2,n3⟩:=sidesN a
 exact ⟨tq_eq e1.symm,tq_ne (by rw [e2]; exact n1),tq_ne (by rw [e1]; exact Ne.symm n2),tq_eq e2.symm,tq_eq rfl,tq_ne (Ne.symm n3)⟩
theorem ab_div (a:Nat):aN a / 3=a / 3∧bN a / 3=a / 3:=⟨(sidesN a).1,(sidesN a).2.1⟩
theorem sh_lt (left:Bool) (z:Nat):(if left=true then (z + 3) % 4 else (z + 1) % 4) < 4:=by split <;> exact Nat.mod_lt _ (by decide)
theorem sh_ne {left:Bool} {i j:Nat} (hi:i < 4) (hj:j < 4) (h:i≠j):(if left=true then (i + 3) % 4 else (i + 1) % 4)≠(if left=true then (j + 3) % 4 else (j + 1) % 4):=by split <;> omega
theorem Tm_TTq {x:Nat × Nat} {a b i j:Nat} (hab:a / 3≠b / 3) (hi:i < 4) (hj:j < 4) (hij:i≠j):Tm x a b (sqP a b i) (sqP a b j)=TTq x i j:=by
 obtain ⟨a1,a2,a3,a4,a5,a6⟩:=tq_ab a
 obtain ⟨b1,b2,b3,b4,b5,b6⟩:=tq_ab b
 obtain ⟨da,da'⟩:=ab_div a
 obtain ⟨db,db'⟩:=ab_div b
 have hba:b / 3≠a / 3:=Ne.symm hab
 have hi':i=0∨i=1∨i=2∨i=3:=by omega
 have hj':j=0∨j=1∨j=2∨j=3:=by omega
 rcases hi' with rfl | rfl | rfl | rfl <;> rcases hj' with rfl | rfl | rfl | rfl <;> first | exact absurd rfl hij | (simp [Tm,TTq,sqP,a1,a2,a3,a4,a5,a6,b1,b2,b3,b4,b5,b6,da,da',db,db',hab,hba])
theorem mv_sq {left:Bool} {a b i:Nat} (hab:a / 3≠b / 3) (hi:i < 4):mvN left a b (sqP a b i)=sqP a b (if left=true then (i + 3) % 4 else (i + 1) % 4):=by
 obtain ⟨h1,h2,h3,h4,h5,h6⟩:=four_apart hab
 have hi':i=0∨i=1∨i=2∨i=3:=by omega
 unfold mvN
 rcases hi' with rfl | rfl | rfl | rfl
 ·show (mvI left a b ((aN a:Nat):Int)).toNat=_
  rw [← aN_eq]
  cases left <;> simp [mvI,h1,h2,h3,h4,h5,h6,Ne.symm h1,Ne.symm h2,Ne.symm h3,Ne.symm h4,Ne.symm h5,Ne.symm h6] <;> rfl
 ·show (mvI left a b ((bN a:Nat):Int)).toNat=_
  rw [← bN_eq]
  cases left <;> simp [mvI,h1,h2,h3,h4,h5,h6,Ne.symm h1,Ne.symm h2,Ne.symm h3,Ne.symm h4,Ne.symm h5,Ne.symm h6] <;> rfl
 ·show (mvI left a b ((aN b:Nat):Int)).toNat=_
  rw [← aN_eq]
  cases left <;> simp [mvI,h1,h2,h3,h4,h5,h6,Ne.symm h1,Ne.symm h2,Ne.symm h3,Ne.symm h4,Ne.symm h5,Ne.symm h6] <;> rfl
 ·show (mvI left a b ((bN b:Nat):Int)).toNat=_
  rw [← bN_eq]
  cases left <;> simp [mvI,h1,h2,h3,h4,h5,h6,Ne.symm h1,Ne.symm h2,Ne.symm h3,Ne.symm h4,Ne.symm h5,Ne.symm h6] <;> rfl
noncomputable def ccN (t u i j:Nat):Nat:=if i / 2=j / 2 then t * u * (t + u) else if i % 2=j % 2 then (if i % 2=0 then u else t) * (t + u) else t + u
theorem core0 {t u i j:Nat} (hi:i < 2) (hj:j < 4) (hij:i≠j):mul (dg (frc (t,u) i)) (mul (TTq (u,t) ((i + 1) % 4) ((j + 1) % 4)) (dg (frc (t,u) j)))=scl (ccN t u i j) (TTq (t,u) i j):=by
 have hi':i=0∨i=1:=by omega
 have hj':j=0∨j=1∨j=2∨j=3:=by omega
 rcases hi' with rfl | rfl <;> rcases hj' with rfl | rfl | rfl | rfl <;> first | exact absurd rfl hij | (apply Mx.ext' <;> simp [TTq,frc,dg,mul,Mx.tu,scl,ccN] <;> simp only [Nat.mul_add,Nat.add_mul,Nat.mul_comm,Nat.mul_left_comm,Nat.mul_assoc,Nat.add_comm,Nat.add_left_comm,Nat.add_assoc])
theorem core1 {t u i j:Nat} (hi:i < 4) (hj:j < 4) (hij:i≠j):mul (dg (frc (t,u) i)) (mul (TTq (u,t) ((i + 1) % 4) ((j + 1) % 4)) (dg (frc (t,u) j)))=scl (ccN t u i j) (TTq (t,u) i j):=by
 have hi':i=0∨i=1∨i=2∨i=3:=by omega
 have hj':j=0∨j=1∨j=2∨j=3:=by omega
 have k:=@core0 t u
 rcases hi' with rfl | rfl | rfl | rfl
 ·exact k (by decide) hj hij
 ·exact k (by decide) hj hij
 ·rcases hj' with rfl | rfl | rfl | rfl
  ·exact k (i:=0) (j:=2) (by decide) (by decide) (by decide)
  ·exact k (i:=0) (j:=3) (by decide) (by decide) (by decide)
  ·exact absurd rfl hij
  ·exact k (i:=0) (j:=1) (by decide) (by decide) (by decide)
 ·rcases hj' with rfl | rfl | rfl | rfl
  ·exact k (i:=1) (j:=2) (by decide) (by decide) (by decide)
  ·exact k (i:=1) (j:=3) (by decide) (by decide) (by decide)
  ·exact k (i:=1) (j:=0) (by decide) (by decide) (by decide)
  ·exact absurd rfl hij
theorem tt2 {x:Nat × Nat} {i j:Nat} (hi:i < 4) (hj:j < 4):TTq x ((i + 3) % 4) ((j + 3) % 4)=TTq x ((i + 1) % 4) ((j + 1) % 4):=by
 have hi':i=0∨i=1∨i=2∨i=3:=by omega
 have hj':j=0∨j=1∨j=2∨j=3:=by omega
 rcases hi' with rfl | rfl | rfl | rfl <;> rcases hj' with rfl | rfl | rfl | rfl <;> rfl
theorem core {left:Bool} {t u i j:Nat} (hi:i < 4) (hj:j < 4) (hij:i≠j):mul (dg (frc (t,u) i)) (mul (TTq (u,t) (if left=true then (i + 3) % 4 else (i + 1) % 4) (if left=true then (j + 3) % 4 else (j + 1) % 4)) (dg (frc (t,u) j)))=scl (ccN t u i j) (TTq (t,u) i j):=by
 cases left
 ·exact core1 hi hj hij
 ·show mul _ (mul (TTq (u,t) ((i + 3) % 4) ((j + 3) % 4)) _)=_
  rw [tt2 hi hj]
  exact core1 hi hj hij
end KT
set_option maxHeartbeats 4000000
namespace KT
open PySem L2 Mx
theorem tab_one (v:Nat × Nat) (t:Bool):tab [(v,t)]=mul (dg v) (Mx.tu t):=by
 rw [tab_eq]
 show mul (dg v) (mul (Mx.tu t) one)=_
 rw [Mx.mul_one]
section
variable {M:List (Option Nat)} {ns:List Int} {left:Bool} {a b:Nat} {v v':Nat→Nat × Nat} {x tu:Nat × Nat}
theorem blk_tab {h e f:Nat} (hab:a / 3≠b / 3) (hM:M[a]?=some (some b)) (hMb:M[b]?=some (some a)) (va:v a=x) (vb:v b=x) (hh:M[h]?=some (some e)) (hx:e / 3≠f / 3→e / 3=a / 3∨e / 3=b / 3):tab (pth v M (h :: crossL a b e f) f)=mul (dg (v h)) (Tm x a b e f):=by
 by_cases c:e / 3=f / 3
 ·have e1:crossL a b e f=[]:=if_pos c
  rw [e1]
  show tab [(v h,tuB (letS M h f))]=_
  rw [tuB_let hh,tab_one]
  unfold Tm
  rw [if_pos c]
 ·rw [cross_one hab c (hx c)]
  unfold Tm
  rw [if_neg c]
  by_cases d:a / 3=e / 3
  ·rw [if_pos d,if_pos d]
   show tab ([(v h,tuB (letS M h a))] ++ [(v a,tuB (letS M a f))])=_
   rw [tab_app,tuB_let hh,tuB_let hM,tab_one,tab_one,va,Mx.assoc]
  ·rw [if_neg d,if_neg d]
   show tab ([(v h,tuB (letS M h b))] ++ [(v b,tuB (letS M b f))])=_
   rw [tab_app,tuB_let hh,tuB_let hMb,tab_one,tab_one,vb,Mx.assoc]
noncomputable def fxP (tu:Nat × Nat) (a b p:Nat):Nat × Nat:=(nuN (fun i=>decide (sqP a b i=p)) tu 4,deN (fun i=>decide (sqP a b i=p)) tu 4)
theorem fx_pos (h1:0 < tu.1) (h2:0 < tu.2) (p:Nat):0 < (fxP tu a b p).1∧0 < (fxP tu a b p).2:=nu_pos (e:=fun i=>decide (sqP a b i=p)) h1 h2 4
theorem fx_sq (hab:a / 3≠b / 3) {i:Nat} (hi:i < 4):fxP tu a b (sqP a b i)=frc tu i:=by
 have n:=sqP_ne hab
 have n01:=n 0 1 (by decide) (by decide) (by decide)
 have n02:=n 0 2 (by decide) (by decide) (by decide)
 have n03:=n 0 3 (by decide) (by decide) (by decide)
 have n12:=n 1 2 (by decide) (by decide) (by decide)
 have n13:=n 1 3 (by decide) (by decide) (by decide)
 have n23:=n 2 3 (by decide) (by decide) (by decide)
 have hi':i=0∨i=1∨i=2∨i=3:=by omega
 unfold fxP
 rcases hi' with rfl | rfl | rfl | rfl <;> simp [nuN,deN,n01,n02,n03,n12,n13,n23,Ne.symm n01,Ne.symm n02,Ne.symm n03,Ne.symm n12,Ne.symm n13,Ne.symm n23]
theorem fx_out {p:Nat} (h:∀ i,i < 4→sqP a b i≠p):fxP tu a b p=(1,1):=by
 unfold fxP
 simp [nuN,deN,h 0,h 1,h 2,h 3]
theorem in_sq {p:Nat} (h:p / 3=a / 3∨p / 3=b / 3) (n1:p≠a) (n2:p≠b):∃ i,i < 4∧p=sqP a b i:=by
 rcases h with h | h
 ·rcases cloth_cases a p h with z | z | z
  ·exact absurd z n1
  ·exact ⟨0,by decide,z⟩
  ·exact ⟨1,by decide,z⟩
 ·rcases cloth_cases b p h with z | z | z
  ·exact absurd z n2
  ·exact ⟨2,by decide,z⟩
  ·exact ⟨3,by decide,z⟩
theorem sq_cloth (i:Nat):sqP a b i / 3=a / 3∨sqP a b i / 3=b / 3:=by
 unfold sqP
 split
 ·exact .inl (ab_div a).1
 ·exact .inl (ab_div a).2
 ·exact .inr (ab_div b).1
 ·exact .inr (ab_div b).2
theorem cc_pos {t u i j:Nat} (h1:0 < t) (h2:0 < u):1≤ccN t u i j:=by
 unfold ccN
 have h3:0 < t + u:=by omega
 split
 ·exact Nat.mul_pos (Nat.mul_pos h1 h2) h3
 ·split
  ·split
   ·exact Nat.mul_pos h2 h3
   ·exact Nat.mul_pos h1 h3
  ·exact h3
theorem weave {V F E G:Mx} {Tn To:Mx} {c:Nat} (h:mul E (mul Tn G)=scl c To):mul (mul (mul F (mul V E)) Tn) G=scl c (mul F (mul V To)):=by
 rw [Mx.assoc,Mx.assoc,Mx.assoc,h,mul_scl,mul_scl]
theorem piece (td:TD M ns) (hM:M[a]?=some (some b)) (hab:a / 3≠b / 3) (t1:0 < tu.1) (u1:0 < tu.2) (va:v a=tu) (vb:v b=tu) (va':v' a=(tu.2,tu.1)) (vb':v' b=(tu.2,tu.1)) {ws:List Nat} (hP:Pl M ws) {k h f:Nat}
  (hh:(keptL a b ws)[k]?=some h) (hf:(keptL a b ws)[(k + 1) % (keptL a b ws).length]?=some f)
  (hv:∀ p m,keepB a b p=true→M[p]?=some (some m)→v' (mvN left a b p)=((fxP tu a b p).1 * ((v p).1 * (fxP tu a b m).1),(fxP tu a b p).2 * ((v p).2 * (fxP tu a b m).2))) :
  ∃ c,1≤c∧mul (tab (pth v' (exM left a b M) (pullAt M left a b h f) (mvN left a b f))) (dg (fxP tu a b f))=scl c (mul (dg (fxP tu a b h)) (tab (pth v M (h :: crossL a b (mtN M h) f) f))):=by
 have hMb:=(td.inv a b hM).1
 have ha:a < M.length:=(List.getElem?_eq_some_iff.mp hM).1
 have hb:b < M.length:=(List.getElem?_eq_some_iff.mp hMb).1
 have hs:=sides (left:=left) td hM hab hP hh hf
 obtain ⟨m,hm,key⟩:=next_kept td hM hab hP hh hf
 rw [mtN_of hm] at hs ⊢
 have kh:=(List.mem_filter.mp (List.mem_of_getElem? hh)).2
 have kf:=(List.mem_filter.mp (List.mem_of_getElem? hf)).2
 obtain ⟨ha1,hb1⟩:=keep_ne kh
 obtain ⟨fa1,fb1⟩:=keep_ne kf
 have hmi:=(td.inv h m hm).1
 have ma1:m≠a:=fun z=>by rw [z,hM] at hmi; cases hmi; exact hb1 rfl
 have mb1:m≠b:=fun z=>by rw [z,hMb] at hmi; cases hmi; exact ha1 rfl
 obtain ⟨aa,bb⟩:=mv_a (left:=left) hab
 have hM':=exM_mv (left:=left) td ha hb hab hM
 have hMb':=exM_mv (left:=left) td ha hb hab hMb
 rw [aa,bb] at hM' hMb'
 have hx1:m / 3≠f / 3→m / 3=a / 3∨m / 3=b / 3:=fun z=>by
  rcases key with k1 | k1 | k1
  ·exact absurd k1.1.symm z
  ·exact .inl k1.1
  ·exact .inr k1.1
 have hx2:mvN left a b m / 3≠mvN left a b f / 3→mvN left a b m / 3=a / 3∨mvN left a b m / 3=b / 3:=fun z=>(hs z).elim (fun q=>.inl q.1) (fun q=>.inr q.1)
 unfold pullAt
 rw [mtN_of hm,blk_tab hab hM hMb va vb hm hx1,blk_tab hab hM' hMb' va' vb' (exM_mv (left:=left) td ha hb hab hm) hx2,hv h m kh hm]
 have ed:dg ((fxP tu a b h).1 * ((v h).1 * (fxP tu a b m).1),(fxP tu a b h).2 * ((v h).2 * (fxP tu a b m).2))=mul (dg (fxP tu a b h)) (mul (dg (v h)) (dg (fxP tu a b m))):=by rw [dg_mul,dg_mul]
 rw [ed]
 by_cases c:m / 3=a / 3∨m / 3=b / 3
 ·have cf:f / 3=a / 3∨f / 3=b / 3:=by
   rcases key with k1 | k1 | k1
   ·rw [k1.1]; exact c
   ·exact .inr k1.2
   ·exact .inl k1.2
  have nfm:m≠f:=by
   rcases key with k1 | k1 | k1
   ·exact Ne.symm k1.2
   ·exact fun z=>hab (k1.1.symm.trans ((congrArg (· / 3) z).trans k1.2))
   ·exact fun z=>hab (k1.2.symm.trans ((congrArg (· / 3) z.symm).trans k1.1))
  obtain ⟨i,hi,rfl⟩:=in_sq c ma1 mb1
  obtain ⟨j,hj,rfl⟩:=in_sq cf fa1 fb1
  have hij:i≠j:=fun z=>nfm (by rw [z])
  refine ⟨ccN tu.1 tu.2 i j,cc_pos t1 u1,weave ?_⟩
  rw [mv_sq hab hi,mv_sq hab hj,Tm_TTq hab hi hj hij,fx_sq hab hi,fx_sq hab hj]
  rw [Tm_TTq hab (sh_lt left i) (sh_lt left j) (sh_ne hi hj hij)]
  exact core hi hj hij
 ·have c1:m / 3≠a / 3:=fun z=>c (.inl z)
  have c2:m / 3≠b / 3:=fun z=>c (.inr z)
  have k1:f / 3=m / 3:=by
   rcases key with k1 | k1 | k1
   ·exact k1.1
   ·exact absurd k1.1 c1
   ·exact absurd k1.1 c2
  rw [mv_out c1 c2,mv_out (by rw [k1]; exact c1) (by rw [k1]; exact c2)]
  have o:∀ q,q / 3≠a / 3→q / 3≠b / 3→fxP tu a b q=(1,1):=fun q q1 q2=>fx_out fun i _ z=>by
   have:=sq_cloth (a:=a) (b:=b) i
   rw [z] at this
   exact this.elim q1 q2
  rw [o m c1 c2,o f (by rw [k1]; exact c1) (by rw [k1]; exact c2)]
  refine ⟨1,Nat.le_refl _,weave ?_⟩
  have i1:dg (1,1)=one:=rfl
  unfold Tm
  rw [if_pos k1.symm,if_pos k1.symm,i1,Mx.one_mul,Mx.mul_one]
  apply Mx.ext' <;> simp [scl]
theorem pth_mem:∀ (l:List Nat) (z:Nat),∀ q∈pth v M l z,∃ p∈l,q.1=v p
 | [],z,q,h=>absurd h List.not_mem_nil
 | p :: l,z,q,h=>by
  rcases List.mem_cons.mp h with rfl | h
  ·exact ⟨p,List.mem_cons_self,rfl⟩
  ·obtain ⟨p',h1,h2⟩:=pth_mem l z q h
   exact ⟨p',List.mem_cons_of_mem _ h1,h2⟩
theorem wz_head {L:List Nat} {y:Nat} (h:L.head?=some y):wzv v M L=pth v M L y:=by
 cases L with
 | nil=>cases h
 | cons z t=>cases h; exact wz_pth _ _
theorem again_turn (td:TD M ns) (hM:M[a]?=some (some b)) (hab:a / 3≠b / 3) {ws:List Nat} (hP:Pl M ws):Tn ws (againL M a b (pairsL (keptL a b ws))):=by
 have h:=back_turn (left:=true) td hM hab hP
 have hkw:∀ q∈keptL a b ws,q∈ws∧keepB a b q=true:=fun q hq=>List.mem_filter.mp hq
 have ef:(pairsL (keptL a b ws)).map Prod.fst=keptL a b ws:=by
  unfold pairsL
  refine List.map_fst_zip ?_
  have:=pairs_len (keptL a b ws)
  unfold pairsL at this
  rw [List.length_zip] at this
  omega
 have e1:keptL a b (pW M true a b ws)=(keptL a b ws).map (mvN true a b):=by
  unfold pW
  rw [kept_pull hab _ fun q hq=>(hkw q.1 (by rw [← ef]; exact List.mem_map.mpr ⟨q,hq,rfl⟩)).2]
  conv=>rhs; rw [← ef]
  rw [List.map_map]
  rfl
 have e2:pW (exM true a b M) (!true) a b (pW M true a b ws)=againL M a b (pairsL (keptL a b ws)):=by
  show pullL (exM true a b M) (!true) a b (pairsL (keptL a b (pW M true a b ws)))=_
  rw [e1,back_pull td hM hab _ fun q hq=>hP.has q (hkw q hq).1]
 rw [e2] at h
 exact h
theorem wor_flip (td:TD M ns) (hM:M[a]?=some (some b)) (hab:a / 3≠b / 3) (t1:0 < tu.1) (u1:0 < tu.2) (va:v a=tu) (vb:v b=tu) (va':v' a=(tu.2,tu.1)) (vb':v' b=(tu.2,tu.1)) {ws:List Nat} (hP:Pl M ws)
  (hp:∀ p∈ws,1≤(v p).1∧1≤(v p).2)
  (hv:∀ p m,keepB a b p=true→M[p]?=some (some m)→v' (mvN left a b p)=((fxP tu a b p).1 * ((v p).1 * (fxP tu a b m).1),(fxP tu a b p).2 * ((v p).2 * (fxP tu a b m).2))) :
  worV v' (exM left a b M) (pW M left a b ws)=worV v M ws:=by
 have tn:=again_turn td hM hab hP
 rw [← worV_turn tn]
 have memw:∀ p∈againL M a b (pairsL (keptL a b ws)),p∈ws:=fun p h=>by
  obtain ⟨A,B,e1,e2⟩:=tn
  rw [e2] at h
  rw [e1]
  simp only [List.mem_append] at h ⊢
  exact h.symm
 have hne:=kept_ne td hM hab hP
 have pc:=fun {k h f:Nat} (hh:(keptL a b ws)[k]?=some h) (hf:(keptL a b ws)[(k + 1) % (keptL a b ws).length]?=some f)=>piece (left:=left) td hM hab t1 u1 va vb va' vb' hP hh hf hv
 unfold pW
 generalize keptL a b ws=ks at hne pc memw
 cases ks with
 | nil=>exact absurd rfl hne
 | cons h0 r =>
  have tw:=twine (N:=fun u w=>pth v' (exM left a b M) (pullAt M left a b u w) (mvN left a b w)) (O:=fun u w=>pth v M (u :: crossL a b (mtN M u) w) w) (F:=fxP tu a b) r h0 h0 (fun k u w hu hw=>by
   have hk:k < (h0 :: r).length:=by
    have:=(List.getElem?_eq_some_iff.mp hw).1
    rw [List.length_append,List.length_singleton] at this
    omega
   rw [List.getElem?_append_left hk] at hu
   refine pc hu ?_
   by_cases c:k + 1 < (h0 :: r).length
   ·rw [List.getElem?_append_left c] at hw
    rw [Nat.mod_eq_of_lt c]; exact hw
   ·have c:k + 1=(h0 :: r).length:=by omega
    rw [List.getElem?_append_right (by omega),c,Nat.sub_self] at hw
    rw [c,Nat.mod_self]
    exact hw)
  obtain ⟨c,hc,e⟩:=tw
  have n1:=pth_blk (v:=v') (M:=exM left a b M) (blk:=fun u w=>pullAt M left a b u w) (st:=mvN left a b) (fun u w=>⟨_,rfl⟩) r h0 h0
  have n2:=pth_blk (v:=v) (M:=M) (blk:=fun u w=>u :: crossL a b (mtN M u) w) (st:=fun u=>u) (fun u w=>⟨_,rfl⟩) r h0 h0
  rw [← n1,← n2] at e
  have e1:pullL M left a b (pairsL (h0 :: r))=(((h0 :: r).zip (r ++ [h0])).map fun q=>pullAt M left a b q.1 q.2).flatten:=by unfold pullL; rw [pairs_cons]
  have e2:againL M a b (pairsL (h0 :: r))=(((h0 :: r).zip (r ++ [h0])).map fun q=>q.1 :: crossL a b (mtN M q.1) q.2).flatten:=by unfold againL; rw [pairs_cons]
  rw [← e1,← e2] at e
  have hd1:(pullL M left a b (pairsL (h0 :: r))).head?=some (mvN left a b h0):=by
   rw [e1]
   cases r <;> rfl
  have hd2:(againL M a b (pairsL (h0 :: r))).head?=some h0:=by
   rw [e2]
   cases r <;> rfl
  obtain ⟨f1,f2⟩:=fx_pos (a:=a) (b:=b) t1 u1 h0
  unfold worV
  rw [wz_head hd1,wz_head hd2]
  refine twine_wor hc f1 f2 (fun q hq=>?_) e
  obtain ⟨p,hp1,hp2⟩:=pth_mem _ _ q hq
  rw [hp2]
  exact hp p (memw p hp1)
end
end KT
set_option maxHeartbeats 4000000
namespace KT
open PySem L2 Mx
theorem sca_map {v w:Nat→Nat × Nat}:∀ (ps:List Nat) (ts:List Bool),ps.length=ts.length→(∀ p∈ps,∃ k,1≤k∧(v p).1=k * (w p).1∧(v p).2=k * (w p).2)→∃ G,1≤G∧sca ((ps.map v).zip ts) ((ps.map w).zip ts) G
 | [],[],_,_=>⟨1,Nat.le_refl _,rfl⟩
 | p :: ps,t :: ts,e,hp=>by
  obtain ⟨G,hG,hs⟩:=sca_map ps ts (by simpa using e) (fun q hq=>hp q (List.mem_cons_of_mem _ hq))
  obtain ⟨k,h1,h2,h3⟩:=hp p List.mem_cons_self
  exact ⟨k * G,Nat.mul_pos h1 hG,k,G,rfl,h2,h3,hs,rfl⟩
theorem worV_sca {v w:Nat→Nat × Nat} {M:List (Option Nat)} {ws:List Nat} (h0:0 < ws.length) (h:∀ p∈ws,∃ k,1≤k∧(v p).1=k * (w p).1∧(v p).2=k * (w p).2) (hw:∀ p∈ws,1≤(w p).1∧1≤(w p).2):worV v M ws=worV w M ws:=by
 obtain ⟨G,hG,hs⟩:=sca_map ws (tuL M ws) (by rw [tuL_len h0]) h
 have hl:∀ q∈wzv w M ws,1≤q.1.1∧1≤q.1.2:=fun q hq=>by
  unfold wzv at hq
  obtain ⟨p,hp,e⟩:=List.mem_map.mp (List.of_mem_zip hq).1
  rw [← e]
  exact hw p hp
 obtain ⟨k1,k2,k3⟩:=sca_tab hs one one 1 rfl rfl rfl rfl
 have p1:=tr_pos hl
 have p2:=dt_pos hl
 have e:tr (tab (wzv v M ws))=G * tr (tab (wzv w M ws)):=by
  unfold tr
  show (List.foldl stp one (wzv v M ws)).a + (List.foldl stp one (wzv v M ws)).d=_
  unfold wzv
  rw [k1,k2,Nat.one_mul,← Nat.mul_add]
  rfl
 have e2:dt (wzv v M ws)=G * G * dt (wzv w M ws):=k3
 unfold worV
 rw [e,e2,show G * tr (tab (wzv w M ws)) * (G * tr (tab (wzv w M ws)))=G * G * (tr (tab (wzv w M ws)) * tr (tab (wzv w M ws))) by ac_rfl]
 exact low_scale (Nat.mul_pos hG hG) (Nat.mul_pos p1 p1) p2
theorem Val.scale {v:Nat × Nat} {N D:Nat} (h:Val v N D) (hN:0 < N) (hD:0 < D):∃ k,1≤k∧N=k * v.1∧D=k * v.2:=by
 rw [h.uniq (low_val hN hD) hD]
 exact ⟨Nat.gcd N D,Nat.gcd_pos_of_pos_left _ hN,(Nat.mul_div_cancel' (Nat.gcd_dvd_left _ _)).symm,(Nat.mul_div_cancel' (Nat.gcd_dvd_right _ _)).symm⟩
theorem nu_or {e e1 e2:Nat→Bool} {tu:Nat × Nat}:∀ k,(∀ i,i < k→e i=(e1 i || e2 i))→(∀ i,i < k→¬ (e1 i=true∧e2 i=true))→nuN e tu k=nuN e1 tu k * nuN e2 tu k∧deN e tu k=deN e1 tu k * deN e2 tu k
 | 0,_,_=>⟨rfl,rfl⟩
 | k + 1,h,n=>by
  obtain ⟨i1,i2⟩:=nu_or k (fun i hi=>h i (by omega)) (fun i hi=>n i (by omega))
  have hk:=h k (by omega)
  have nk:=n k (by omega)
  unfold nuN deN
  rw [hk,i1,i2]
  cases c1:e1 k <;> cases c2:e2 k
  ·exact ⟨rfl,rfl⟩
  ·simp only [Bool.false_or,if_true,Bool.false_eq_true,if_false]
   exact ⟨by ac_rfl,by ac_rfl⟩
  ·simp only [Bool.true_or,Bool.or_false,if_true,Bool.false_eq_true,if_false]
   exact ⟨by ac_rfl,by ac_rfl⟩
  ·exact absurd ⟨c1,c2⟩ nk
section
variable {M:List (Option Nat)} {ns ks:List Int} {x:Int} {a b B:Nat} {g:Int→Nat × Nat} {left:Bool}
theorem wor_kept (td:TD M ns) (mv:Mv M ns x a b) (sw:SwK M ns ks) (hb:∀ y∈ks,Bd B (g y)) {ws:List Nat} (hP:Pl M ws) :
  wor (strG ks (sqX ns a b) x (lowG g)) (exM left a b M) (exN left a b ns) (pW M left a b ws)=wor (lowG g) M ns ws:=by
 obtain ⟨hal,hbl⟩:=mv.lts td
 obtain ⟨n,n1,n40,hn⟩:=td.n
 have hM:=mv.hM
 have hab:=mv.ab
 have hMb:=(td.inv a b hM).1
 have hMl:=td.len
 have hxk:x∈ks:=(sw.mem x).mpr ⟨a,b,hM,mv.nm⟩
 obtain ⟨lx,vx⟩:=(hb x hxk).low
 have na:ns.getD a 0=x:=by rw [List.getD_eq_getElem?_getD,mv.nm]; rfl
 have nb:ns.getD b 0=x:=by rw [List.getD_eq_getElem?_getD,td.eqm a b hM,mv.nm]; rfl
 have keyOf:∀ p m,M[p]?=some (some m)→ns[p]?=some (ns.getD p 0)∧ns.getD p 0∈ks:=fun p m hm=>by
  have e:=nm_at td (List.getElem?_eq_some_iff.mp hm).1
  exact ⟨e,(sw.mem _).mpr ⟨p,m,hm,e⟩⟩
 rw [wor_V,wor_V]
 obtain ⟨aa,bb⟩:=mv_a (left:=left) hab
 obtain ⟨aa',bb'⟩:=mv_a (left:=!left) hab
 have hP':=Pl.pull (left:=left) td hM hab hP
 have hP':Pl (exM left a b M) (pW M left a b ws):=hP'
 have step:=wor_flip (left:=left) (v:=fun p=>lowG g (ns.getD p 0)) (v':=fun q=>if q=a∨q=b then ((lowG g x).2,(lowG g x).1) else ((fxP (lowG g x) a b (mvN (!left) a b q)).1 * ((lowG g (ns.getD (mvN (!left) a b q) 0)).1 * (fxP (lowG g x) a b (mtN M (mvN (!left) a b q))).1),(fxP (lowG g x) a b (mvN (!left) a b q)).2 * ((lowG g (ns.getD (mvN (!left) a b q) 0)).2 * (fxP (lowG g x) a b (mtN M (mvN (!left) a b q))).2)))
  (tu:=lowG g x) td hM hab vx.p1 vx.p2 (by show lowG g (ns.getD a 0)=_; rw [na]) (by show lowG g (ns.getD b 0)=_; rw [nb]) (if_pos (.inl rfl)) (if_pos (.inr rfl)) hP (fun p hp=>by
   obtain ⟨m,hm⟩:=hP.has p hp
   have:=(hb _ (keyOf p m hm).2).low.2
   exact ⟨this.p1,this.p2⟩) (fun p m hk hm=>by
   obtain ⟨k1,k2⟩:=keep_ne hk
   have i0:mvN (!left) a b (mvN left a b p)=p:=mvN_inv hab left p
   show (if mvN left a b p=a∨mvN left a b p=b then _ else _)=_
   rw [if_neg (fun z=>by
    rcases z with z | z
    ·rw [z,aa'] at i0; exact k1 i0.symm
    ·rw [z,bb'] at i0; exact k2 i0.symm),i0,mtN_of hm])
 rw [← step]
 symm
 refine worV_sca (List.length_pos_iff.mpr hP'.ne) (fun q hq=>?_) (fun q hq=>?_)
 ·obtain ⟨m',hm'⟩:=hP'.has q hq
  have hql:q < M.length:=by rw [← exM_len left a b M]; exact (List.getElem?_eq_some_iff.mp hm').1
  have hpl:mvN (!left) a b q < M.length:=by rw [hn] at hal hbl hql ⊢; exact mvN_lt hal hbl _ hql
  have en:(exN left a b ns).getD q 0=ns.getD (mvN (!left) a b q) 0:=by rw [List.getD_eq_getElem?_getD,exN_get td hal hbl hab left hql,← List.getD_eq_getElem?_getD]
  by_cases c:q=a∨q=b
  ·refine ⟨1,Nat.le_refl _,?_⟩
   show (if q=a∨q=b then _ else _:Nat × Nat).1=1 * (strG ks (sqX ns a b) x (lowG g) ((exN left a b ns).getD q 0)).1∧(if q=a∨q=b then _ else _:Nat × Nat).2=1 * (strG ks (sqX ns a b) x (lowG g) ((exN left a b ns).getD q 0)).2
   rw [if_pos c,Nat.one_mul,Nat.one_mul,en]
   have:ns.getD (mvN (!left) a b q) 0=x:=by
    rcases c with rfl | rfl
    ·rw [aa',na]
    ·rw [bb',nb]
   rw [this,str_own]
   exact ⟨rfl,rfl⟩
  ·show ∃ k,1≤k∧(if q=a∨q=b then _ else _:Nat × Nat).1=k * (strG ks (sqX ns a b) x (lowG g) ((exN left a b ns).getD q 0)).1∧(if q=a∨q=b then _ else _:Nat × Nat).2=k * (strG ks (sqX ns a b) x (lowG g) ((exN left a b ns).getD q 0)).2
   rw [if_neg c,en]
   have ip:mvN left a b (mvN (!left) a b q)=q:=by
    have:=mvN_inv hab (!left) q
    rw [Bool.not_not] at this
    exact this
   have hm2:=hm'
   rw [exM_get td hal hbl hab left hql] at hm2
   generalize mvN (!left) a b q=p at *
   have pa:p≠a:=fun z=>c (.inl (by rw [← ip,z,aa]))
   have pb:p≠b:=fun z=>c (.inr (by rw [← ip,z,bb]))
   obtain ⟨m,hm⟩:∃ m,M[p]?=some (some m):=by
    cases e:M[p]? with
    | none=>rw [e] at hm2; cases hm2
    | some z =>
     rw [e] at hm2
     cases z with
     | none=>cases hm2
     | some m=>exact ⟨m,rfl⟩
   rw [mtN_of hm]
   obtain ⟨ep,kp⟩:=keyOf p m hm
   generalize hy:ns.getD p 0=y at *
   have yx:y≠x:=fun z=>by
    rw [z] at ep
    rcases td.eqv p a x ep mv.nm with w | w
    ·exact pa w
    ·have:=(td.inv _ _ w).1
     rw [hM] at this
     cases this
     exact pb rfl
   rw [str_else yx]
   have vy:=(hb y kp).low.2
   have vI:Val (lowG g y) (lowG g y).1 (lowG g y).2:=⟨vy.p1,vy.p2,vy.co,Nat.mul_comm _ _⟩
   have vv:=ch_val (e:=flg ks (sqX ns a b) y) vI vx.p1 vx.p2 4
   have pm:p≠m:=(td.inv p m hm).2
   obtain ⟨o1,o2⟩:=nu_or (e:=flg ks (sqX ns a b) y) (e1:=fun i=>decide (sqP a b i=p)) (e2:=fun i=>decide (sqP a b i=m)) (tu:=lowG g x) 4 (fun i hi=>by
    have hlt:sqP a b i < M.length:=by rw [hn] at hal hbl ⊢; exact sqP_lt hal hbl
    have ei:=nm_at td hlt
    unfold flg
    rw [sqX_at hi]
    apply Bool.eq_iff_iff.mpr
    rw [decide_eq_true_eq,Bool.or_eq_true,decide_eq_true_eq,decide_eq_true_eq]
    constructor
    ·rintro ⟨z,_⟩
     rw [z] at ei
     rcases td.eqv _ p y ei ep with w | w
     ·exact .inl w
     ·have:=(td.inv _ _ w).1
      rw [hm] at this
      cases this
      exact .inr rfl
    ·rintro (z | z)
     ·rw [z]; exact ⟨hy,kp⟩
     ·rw [z]
      refine ⟨?_,kp⟩
      rw [List.getD_eq_getElem?_getD,td.eqm p m hm,ep]
      rfl) (fun i hi z=>by
    have z1:=of_decide_eq_true z.1
    have z2:=of_decide_eq_true z.2
    exact pm (z1.symm.trans z2))
   rw [o1,o2] at vv
   have f1:=fx_pos (a:=a) (b:=b) vx.p1 vx.p2 p
   have f2:=fx_pos (a:=a) (b:=b) vx.p1 vx.p2 m
   obtain ⟨k,k1,k2,k3⟩:=vv.scale (Nat.mul_pos vy.p1 (Nat.mul_pos f1.1 f2.1)) (Nat.mul_pos vy.p2 (Nat.mul_pos f1.2 f2.2))
   refine ⟨k,k1,?_,?_⟩
   ·rw [← k2]
    show (fxP (lowG g x) a b p).1 * ((lowG g y).1 * (fxP (lowG g x) a b m).1)=(lowG g y).1 * ((fxP (lowG g x) a b p).1 * (fxP (lowG g x) a b m).1)
    ac_rfl
   ·rw [← k3]
    show (fxP (lowG g x) a b p).2 * ((lowG g y).2 * (fxP (lowG g x) a b m).2)=(lowG g y).2 * ((fxP (lowG g x) a b p).2 * (fxP (lowG g x) a b m).2)
    ac_rfl
 ·obtain ⟨m',hm'⟩:=hP'.has q hq
  have sw':=sw.ex td mv left
  have td':TD (exM left a b M) (exN left a b ns):=mv.td td
  have hlt:=(List.getElem?_eq_some_iff.mp hm').1
  have e:=nm_at td' hlt
  have hk:(exN left a b ns).getD q 0∈ks:=(sw'.mem _).mpr ⟨q,m',hm',e⟩
  have:=(str_co (ks:=ks) (ns:=ns) (a:=a) (b:=b) (hb x hxk) (hb _ hk)).2
  exact this
end
end KT
set_option maxHeartbeats 4000000
set_option genInjectivity false
set_option genSizeOf false
namespace KT
open PySem L2
noncomputable def bmV:List Value:=[.type "ValueError",.type "Exception",.type "BaseException",.type "object"]
theorem FBV:ExcBaseFacts "ValueError" "ValueError.__new__" "ValueError.__init__" bmV:=PySem.F.excBase_ValueError
theorem map_some {α:Type} {f:α→V} {l:List α} {i:Nat} {y:V} (h:(l.map f)[i]?=some y):∃ q,l[i]?=some q∧y=f q:=by
 rw [List.getElem?_map] at h
 cases e:l[i]? with
 | none=>rw [e] at h; cases h
 | some q=>rw [e] at h; cases h; exact ⟨q,rfl,rfl⟩
structure FT (K:PySem.W.Frag) (mg:Str→Option Value) (x:Str) (st:Stmt) (ps:List Str) (f:Addr) (d:FuncData):Prop where
 F:Fun K x x st f d
 b:Binds K d ps []
 g:mg x=some (.ref f)
structure FM (K:PySem.W.Frag) (C:Addr) (x q:Str) (st:Stmt) (ps:List Str) (f:Addr) (d:FuncData):Prop where
 F:Fun K x q st f d
 b:Binds K d ps []
 m:Meth K C x f
noncomputable def BA (q:Str) (st:Stmt) (ps:List Str):Prop:=∀ (x:Str) (kV doc pm:Value) (an:Option Addr) (cdv ct:Value) (us:List Value),us.length=ps.length→bindArgs (PySem.W.fnOf x q (defArgs st) (defBody st) (defScope st) .none kV doc pm an cdv ct) ⟨us,[]⟩=pure (ps.zip us)
theorem len_two {α:Type} {us:List α} (e:us.length=2):∃ a b,us=[a,b]:=by
 obtain ⟨a,us,rfl⟩:=List.exists_cons_of_length_eq_add_one e
 obtain ⟨b,rfl⟩:=List.length_eq_one_iff.mp (Nat.succ.inj e)
 exact ⟨a,b,rfl⟩
theorem len_three {α:Type} {us:List α} (e:us.length=3):∃ a b c,us=[a,b,c]:=by
 obtain ⟨a,us,rfl⟩:=List.exists_cons_of_length_eq_add_one e
 obtain ⟨b,c,rfl⟩:=len_two (Nat.succ.inj e)
 exact ⟨a,b,c,rfl⟩
theorem ba1 {q:Str} {st:Stmt} {ps:List Str} (h:∀ (x:Str) (kV doc pm:Value) (an:Option Addr) (cdv ct:Value) (a:Value),bindArgs (PySem.W.fnOf x q (defArgs st) (defBody st) (defScope st) .none kV doc pm an cdv ct) ⟨[a],[]⟩=pure (ps.zip [a])) (hl:ps.length=1):BA q st ps:=fun x kV doc pm an cdv ct us e=>by
 rw [hl] at e
 obtain ⟨a,rfl⟩:=List.length_eq_one_iff.mp e
 exact h x kV doc pm an cdv ct a
theorem ba2 {q:Str} {st:Stmt} {ps:List Str} (h:∀ (x:Str) (kV doc pm:Value) (an:Option Addr) (cdv ct:Value) (a b:Value),bindArgs (PySem.W.fnOf x q (defArgs st) (defBody st) (defScope st) .none kV doc pm an cdv ct) ⟨[a,b],[]⟩=pure (ps.zip [a,b])) (hl:ps.length=2):BA q st ps:=fun x kV doc pm an cdv ct us e=>by
 rw [hl] at e
 obtain ⟨a,b,rfl⟩:=len_two e
 exact h x kV doc pm an cdv ct a b
theorem ba3 {q:Str} {st:Stmt} {ps:List Str} (h:∀ (x:Str) (kV doc pm:Value) (an:Option Addr) (cdv ct:Value) (a b c:Value),bindArgs (PySem.W.fnOf x q (defArgs st) (defBody st) (defScope st) .none kV doc pm an cdv ct) ⟨[a,b,c],[]⟩=pure (ps.zip [a,b,c])) (hl:ps.length=3):BA q st ps:=fun x kV doc pm an cdv ct us e=>by
 rw [hl] at e
 obtain ⟨a,b,c,rfl⟩:=len_three e
 exact h x kV doc pm an cdv ct a b c
theorem ba4 {q:Str} {st:Stmt} {ps:List Str} (h:∀ (x:Str) (kV doc pm:Value) (an:Option Addr) (cdv ct:Value) (a b c d:Value),bindArgs (PySem.W.fnOf x q (defArgs st) (defBody st) (defScope st) .none kV doc pm an cdv ct) ⟨[a,b,c,d],[]⟩=pure (ps.zip [a,b,c,d])) (hl:ps.length=4):BA q st ps:=fun x kV doc pm an cdv ct us e=>by
 rw [hl] at e
 obtain ⟨a,us,rfl⟩:=List.exists_cons_of_length_eq_add_one e
 obtain ⟨b,c,d,rfl⟩:=len_three (Nat.succ.inj e)
 exact h x kV doc pm an cdv ct a b c d
section
variable {K:PySem.W.Frag} {h:Heap} {mg:Str→Option Value} {C:Addr} {x q:Str} {st:Stmt} {ps:List Str} {f:Addr} {oc:Value} {od an:Option Addr} {sl:Array (Option Value)} {kV doc pm cd ct:Value}
theorem FT.of (X:K.In h) (G:h.Ns mainGlobals mg) (B:BA x st ps) (a:PySem.W.nsIn K mainGlobals x=some (some (.ref f))) (l:K.lookup f=some ⟨oc,od,.func (PySem.W.fnOf x x (defArgs st) (defBody st) (defScope st) .none kV doc pm an cd ct),sl⟩)
  (c:PySem.W.codeIn K cd x=true) (k:PySem.W.keepIn K (.ref f)=true):FT K mg x st ps f (PySem.W.fnOf x x (defArgs st) (defBody st) (defScope st) .none kV doc pm an cd ct):=⟨fun_mk l c k,(fun_mk l c k).binds (B x),PySem.W.mg_of X G a⟩
theorem FM.of (B:BA q st ps) (a:PySem.W.findIn K (.ref C) x=some (some (.ref f))) (i:PySem.W.isFn K (.ref f)=true) (l:K.lookup f=some ⟨oc,od,.func (PySem.W.fnOf x q (defArgs st) (defBody st) (defScope st) .none kV doc pm an cd ct),sl⟩)
  (c:PySem.W.codeIn K cd q=true) (k:PySem.W.keepIn K (.ref f)=true):FM K C x q st ps f (PySem.W.fnOf x q (defArgs st) (defBody st) (defScope st) .none kV doc pm an cd ct):=⟨fun_mk l c k,(fun_mk l c k).binds (B x),⟨a,i,k⟩⟩
end
noncomputable def top (i:Nat):Stmt:=PySem.Challenge.pw_tentloops_k47_whole_worth_kept.main.body.getD i (.Pass ⟨0,0,0,0⟩)
noncomputable abbrev s_after:Stmt:=top 14
noncomputable abbrev s_before:Stmt:=top 15
noncomputable abbrev s_cloth_of:Stmt:=top 16
noncomputable abbrev s_spots_of:Stmt:=top 17
noncomputable abbrev s_mates_of:Stmt:=top 18
noncomputable abbrev s_Tent_init:Stmt:=inClass (top 19) 0
noncomputable abbrev s_Tent_rows:Stmt:=inClass (top 19) 1
noncomputable abbrev s_Tent_size:Stmt:=inClass (top 19) 2
noncomputable abbrev s_Tent_seams:Stmt:=inClass (top 19) 3
noncomputable abbrev s_Tent_has_place:Stmt:=inClass (top 19) 5
noncomputable abbrev s_Tent_look_place:Stmt:=inClass (top 19) 6
noncomputable abbrev s_Tent_seam_at:Stmt:=inClass (top 19) 7
noncomputable abbrev s_Tent_places:Stmt:=inClass (top 19) 8
noncomputable abbrev s_Tent_mate:Stmt:=inClass (top 19) 9
noncomputable abbrev s_Tent_sort_of:Stmt:=inClass (top 19) 10
noncomputable abbrev s_look_way:Stmt:=top 22
noncomputable abbrev s_look_free:Stmt:=top 23
noncomputable abbrev s_square:Stmt:=top 24
noncomputable abbrev s_shifts:Stmt:=top 25
noncomputable abbrev s_exchanged:Stmt:=top 26
noncomputable abbrev s_crossable:Stmt:=top 28
noncomputable abbrev s_follows:Stmt:=top 29
noncomputable abbrev s_plain:Stmt:=top 30
noncomputable abbrev s_look_thread:Stmt:=top 31
noncomputable abbrev s_turned:Stmt:=top 32
noncomputable abbrev s_letter:Stmt:=top 33
noncomputable abbrev s_letters:Stmt:=top 34
noncomputable abbrev s_common_measure:Stmt:=top 36
noncomputable abbrev s_look_fraction:Stmt:=top 37
noncomputable abbrev s_fraction:Stmt:=top 38
noncomputable abbrev s_sewn_seams:Stmt:=top 39
noncomputable abbrev s_lowest_worths:Stmt:=top 40
noncomputable abbrev s_product:Stmt:=top 41
noncomputable abbrev s_stretched:Stmt:=top 42
noncomputable abbrev s_diagonal_sum:Stmt:=top 43
noncomputable abbrev s_lowest_over:Stmt:=top 44
noncomputable abbrev s_worth:Stmt:=top 45
noncomputable abbrev s_crossing_between:Stmt:=top 47
noncomputable abbrev s_pulled:Stmt:=top 48
noncomputable abbrev s_l_cell:Stmt:=top 50
noncomputable abbrev s_l_numbers:Stmt:=top 51
noncomputable abbrev s_l_sewn:Stmt:=top 52
noncomputable abbrev s_l_rows:Stmt:=top 53
noncomputable abbrev s_l_tent:Stmt:=top 54
noncomputable abbrev s_l_walk:Stmt:=top 55
noncomputable abbrev s_l_thread:Stmt:=top 56
noncomputable abbrev s_l_worths:Stmt:=top 57
noncomputable abbrev s_l_low:Stmt:=top 58
noncomputable abbrev s_l_worth:Stmt:=top 59
noncomputable abbrev s_l_free:Stmt:=top 60
noncomputable abbrev s_l_seam:Stmt:=top 61
noncomputable abbrev s_l_way:Stmt:=top 62
noncomputable abbrev s_l_shift:Stmt:=top 63
noncomputable abbrev s_l_around:Stmt:=top 64
noncomputable abbrev s_l_goals:Stmt:=top 65
noncomputable abbrev s_l_whole:Stmt:=top 66
noncomputable abbrev s_l_pair:Stmt:=top 67
noncomputable abbrev s_law:Stmt:=top 68
structure Adr where
 (C_Tent f_after f_before f_cloth_of f_spots_of f_mates_of f_Tent_init f_Tent_rows f_Tent_size f_Tent_seams f_Tent_has_place f_Tent_look_place f_Tent_seam_at f_Tent_places f_Tent_mate f_Tent_sort_of f_look_way f_look_free f_square f_shifts f_exchanged f_crossable f_follows f_plain f_look_thread f_turned f_letter f_letters f_common_measure f_look_fraction f_fraction f_sewn_seams f_lowest_worths f_product f_stretched f_diagonal_sum f_lowest_over f_worth f_crossing_between f_pulled f_l_cell f_l_numbers f_l_sewn f_l_rows f_l_tent f_l_walk f_l_thread f_l_worths f_l_low f_l_worth f_l_free f_l_seam f_l_way f_l_shift f_l_around f_l_goals f_l_whole f_l_pair f_law g_CONTRARY_WAYS E_NoPlace E_NoSeam E_Rim E_Locked E_NoWay E_NoThread E_NoFraction E_NoWorths:Addr)
 (d_after d_before d_cloth_of d_spots_of d_mates_of d_Tent_init d_Tent_rows d_Tent_size d_Tent_seams d_Tent_has_place d_Tent_look_place d_Tent_seam_at d_Tent_places d_Tent_mate d_Tent_sort_of d_look_way d_look_free d_square d_shifts d_exchanged d_crossable d_follows d_plain d_look_thread d_turned d_letter d_letters d_common_measure d_look_fraction d_fraction d_sewn_seams d_lowest_worths d_product d_stretched d_diagonal_sum d_lowest_over d_worth d_crossing_between d_pulled d_l_cell d_l_numbers d_l_sewn d_l_rows d_l_tent d_l_walk d_l_thread d_l_worths d_l_low d_l_worth d_l_free d_l_seam d_l_way d_l_shift d_l_around d_l_goals d_l_whole d_l_pair d_law:FuncData)
 (k_GREATEST_NAME:Tok)
structure Txt (w:World) (K:PySem.W.Frag) (mg:Str→Option Value) (t:Adr):Prop where
 gC_Tent:mg "Tent"=some (.ref t.C_Tent)
 cl_Tent:Cls K t.C_Tent
 a_Tent_cloths:NoAttr K t.C_Tent "cloths"
 a_Tent_names_at:NoAttr K t.C_Tent "names_at"
 a_Tent_spots:NoAttr K t.C_Tent "spots"
 a_Tent_mates:NoAttr K t.C_Tent "mates"
 p_after:FT K mg "after" s_after ["place"] t.f_after t.d_after
 p_before:FT K mg "before" s_before ["place"] t.f_before t.d_before
 p_cloth_of:FT K mg "cloth_of" s_cloth_of ["place"] t.f_cloth_of t.d_cloth_of
 p_spots_of:FT K mg "spots_of" s_spots_of ["names_at"] t.f_spots_of t.d_spots_of
 p_mates_of:FT K mg "mates_of" s_mates_of ["spots","count"] t.f_mates_of t.d_mates_of
 p_Tent_init:FM K t.C_Tent "__init__" "Tent.__init__" s_Tent_init ["self","rows"] t.f_Tent_init t.d_Tent_init
 p_Tent_rows:FM K t.C_Tent "rows" "Tent.rows" s_Tent_rows ["self"] t.f_Tent_rows t.d_Tent_rows
 p_Tent_size:FM K t.C_Tent "size" "Tent.size" s_Tent_size ["self"] t.f_Tent_size t.d_Tent_size
 p_Tent_seams:FM K t.C_Tent "seams" "Tent.seams" s_Tent_seams ["self"] t.f_Tent_seams t.d_Tent_seams
 p_Tent_has_place:FM K t.C_Tent "has_place" "Tent.has_place" s_Tent_has_place ["self","place"] t.f_Tent_has_place t.d_Tent_has_place
 p_Tent_look_place:FM K t.C_Tent "look_place" "Tent.look_place" s_Tent_look_place ["self","place"] t.f_Tent_look_place t.d_Tent_look_place
 p_Tent_seam_at:FM K t.C_Tent "seam_at" "Tent.seam_at" s_Tent_seam_at ["self","place"] t.f_Tent_seam_at t.d_Tent_seam_at
 p_Tent_places:FM K t.C_Tent "places" "Tent.places" s_Tent_places ["self","seam"] t.f_Tent_places t.d_Tent_places
 p_Tent_mate:FM K t.C_Tent "mate" "Tent.mate" s_Tent_mate ["self","place"] t.f_Tent_mate t.d_Tent_mate
 p_Tent_sort_of:FM K t.C_Tent "sort_of" "Tent.sort_of" s_Tent_sort_of ["self","seam"] t.f_Tent_sort_of t.d_Tent_sort_of
 p_look_way:FT K mg "look_way" s_look_way ["way"] t.f_look_way t.d_look_way
 p_look_free:FT K mg "look_free" s_look_free ["tent","seam"] t.f_look_free t.d_look_free
 p_square:FT K mg "square" s_square ["tent","seam"] t.f_square t.d_square
 p_shifts:FT K mg "shifts" s_shifts ["tent","seam","way"] t.f_shifts t.d_shifts
 p_exchanged:FT K mg "exchanged" s_exchanged ["tent","seam","way"] t.f_exchanged t.d_exchanged
 p_crossable:FT K mg "crossable" s_crossable ["tent","place"] t.f_crossable t.d_crossable
 p_follows:FT K mg "follows" s_follows ["tent","ahead","place"] t.f_follows t.d_follows
 p_plain:FT K mg "plain" s_plain ["tent","word"] t.f_plain t.d_plain
 p_look_thread:FT K mg "look_thread" s_look_thread ["tent","word"] t.f_look_thread t.d_look_thread
 p_turned:FT K mg "turned" s_turned ["word","by"] t.f_turned t.d_turned
 p_letter:FT K mg "letter" s_letter ["tent","ahead","place"] t.f_letter t.d_letter
 p_letters:FT K mg "letters" s_letters ["tent","word"] t.f_letters t.d_letters
 p_common_measure:FT K mg "common_measure" s_common_measure ["one","other"] t.f_common_measure t.d_common_measure
 p_look_fraction:FT K mg "look_fraction" s_look_fraction ["top","bottom"] t.f_look_fraction t.d_look_fraction
 p_fraction:FT K mg "fraction" s_fraction ["top","bottom"] t.f_fraction t.d_fraction
 p_sewn_seams:FT K mg "sewn_seams" s_sewn_seams ["tent"] t.f_sewn_seams t.d_sewn_seams
 p_lowest_worths:FT K mg "lowest_worths" s_lowest_worths ["tent","worths"] t.f_lowest_worths t.d_lowest_worths
 p_product:FT K mg "product" s_product ["one","other"] t.f_product t.d_product
 p_stretched:FT K mg "stretched" s_stretched ["tent","worths","seam"] t.f_stretched t.d_stretched
 p_diagonal_sum:FT K mg "diagonal_sum" s_diagonal_sum ["crossed","turns"] t.f_diagonal_sum t.d_diagonal_sum
 p_lowest_over:FT K mg "lowest_over" s_lowest_over ["top","factors"] t.f_lowest_over t.d_lowest_over
 p_worth:FT K mg "worth" s_worth ["tent","worths","word"] t.f_worth t.d_worth
 p_crossing_between:FT K mg "crossing_between" s_crossing_between ["own","entry","leaving"] t.f_crossing_between t.d_crossing_between
 p_pulled:FT K mg "pulled" s_pulled ["tent","seam","way","word"] t.f_pulled t.d_pulled
 p_l_cell:FT K mg "_law_cell" s_l_cell ["_law_script","_law_at"] t.f_l_cell t.d_l_cell
 p_l_numbers:FT K mg "_law_numbers" s_l_numbers ["_law_cell_here","_law_many"] t.f_l_numbers t.d_l_numbers
 p_l_sewn:FT K mg "_law_sewn" s_l_sewn ["_law_nums","_law_many","_law_share"] t.f_l_sewn t.d_l_sewn
 p_l_rows:FT K mg "_law_rows" s_l_rows ["_law_mates","_law_start","_law_step"] t.f_l_rows t.d_l_rows
 p_l_tent:FT K mg "_law_tent" s_l_tent ["_law_script"] t.f_l_tent t.d_l_tent
 p_l_walk:FT K mg "_law_walk" s_l_walk ["_law_mates","_law_nums"] t.f_l_walk t.d_l_walk
 p_l_thread:FT K mg "_law_thread" s_l_thread ["_law_script","_law_at","_law_mates"] t.f_l_thread t.d_l_thread
 p_l_worths:FT K mg "_law_worths" s_l_worths ["_law_mates","_law_rows_here","_law_nums"] t.f_l_worths t.d_l_worths
 p_l_low:FT K mg "_law_low" s_l_low ["_law_top","_law_bottom"] t.f_l_low t.d_l_low
 p_l_worth:FT K mg "_law_worth" s_l_worth ["_law_mates","_law_rows_here","_law_worths_here","_law_word"] t.f_l_worth t.d_l_worth
 p_l_free:FT K mg "_law_free" s_l_free ["_law_mates"] t.f_l_free t.d_l_free
 p_l_seam:FT K mg "_law_seam" s_l_seam ["_law_rows_here","_law_place"] t.f_l_seam t.d_l_seam
 p_l_way:FT K mg "_law_way" s_l_way ["_law_left"] t.f_l_way t.d_l_way
 p_l_shift:FT K mg "_law_shift" s_l_shift ["_law_mates","_law_rows_here","_law_goals_here"] t.f_l_shift t.d_l_shift
 p_l_around:FT K mg "_law_around" s_l_around ["_law_mates","_law_place"] t.f_l_around t.d_l_around
 p_l_goals:FT K mg "_law_goals" s_l_goals ["_law_mates","_law_place","_law_left"] t.f_l_goals t.d_l_goals
 p_l_whole:FT K mg "_law_whole" s_l_whole ["_law_found"] t.f_l_whole t.d_l_whole
 p_l_pair:FT K mg "_law_pair" s_l_pair ["_law_found","_law_due"] t.f_l_pair t.d_l_pair
 p_law:FT K mg "law" s_law ["_law_script"] t.f_law t.d_law
 mk_Tent:Mk K t.C_Tent t.f_Tent_init
 c_GREATEST_NAME:mg "GREATEST_NAME"=some (.int 9999 t.k_GREATEST_NAME)
 gd_CONTRARY_WAYS:mg "CONTRARY_WAYS"=some (.ref t.g_CONTRARY_WAYS)
 kd_CONTRARY_WAYS:KDict w K t.g_CONTRARY_WAYS [(Sum.inr "left",.str "right"),(Sum.inr "right",.str "left")]
 bl:∀ (s:Shared) (u:Value),BindsTo s t.d_law ⟨[u],[]⟩ [("_law_script",u)]
 n_all:mg "all"=none
 n_bool:mg "bool"=none
 n_enumerate:mg "enumerate"=none
 n_int:mg "int"=none
 n_isinstance:mg "isinstance"=none
 n_len:mg "len"=none
 n_list:mg "list"=none
 n_max:mg "max"=none
 n_min:mg "min"=none
 n_range:mg "range"=none
 n_reversed:mg "reversed"=none
 n_sorted:mg "sorted"=none
 n_tuple:mg "tuple"=none
 n_zip:mg "zip"=none
 gx_NoPlace:mg "NoPlace"=some (.ref t.E_NoPlace)
 x_NoPlace:ExcK K t.E_NoPlace bmV "ValueError.__new__"
 gx_NoSeam:mg "NoSeam"=some (.ref t.E_NoSeam)
 x_NoSeam:ExcK K t.E_NoSeam bmV "ValueError.__new__"
 gx_Rim:mg "Rim"=some (.ref t.E_Rim)
 x_Rim:ExcK K t.E_Rim bmV "ValueError.__new__"
 gx_Locked:mg "Locked"=some (.ref t.E_Locked)
 x_Locked:ExcK K t.E_Locked bmV "ValueError.__new__"
 gx_NoWay:mg "NoWay"=some (.ref t.E_NoWay)
 x_NoWay:ExcK K t.E_NoWay bmV "ValueError.__new__"
 gx_NoThread:mg "NoThread"=some (.ref t.E_NoThread)
 x_NoThread:ExcK K t.E_NoThread bmV "ValueError.__new__"
 gx_NoFraction:mg "NoFraction"=some (.ref t.E_NoFraction)
 x_NoFraction:ExcK K t.E_NoFraction bmV "ValueError.__new__"
 gx_NoWorths:mg "NoWorths"=some (.ref t.E_NoWorths)
 x_NoWorths:ExcK K t.E_NoWorths bmV "ValueError.__new__"
end KT
set_option maxHeartbeats 4000000
namespace KT
open PySem L2
theorem Same.add {H H1:Hp} {p:Addr} {o:HO} (s:Same H H1) (hp:H p=none):Same H (upd H1 p o):=fun b u e=>by rw [upd_ne (ne_of_none e hp)]; exact s b u e
theorem Same.new {H:Hp} {p:Addr} {o:HO} (hp:H p=none):Same H (upd H p o):=Same.add (Same.refl H) hp
theorem seq_post {t u:TS} {D:Ends} {σ:St} {H:Hp} (Post:St→Hp→Prop) (ht:∀ nx:St→Hp→Prop,(∀ σ H,Post σ H→nx σ H)→t { D with nx:=nx } σ H) (hu:∀ σ H,Post σ H→u D σ H):tSeq t u D σ H:=ht (u D) hu
theorem seq_cut {t u:TS} {D:Ends} {σ:St} {H:Hp} (ht:∀ nx:St→Hp→Prop,(∀ σ H,u D σ H→nx σ H)→t { D with nx:=nx } σ H):tSeq t u D σ H:=ht (u D) fun _ _ h=>h
theorem map_snoc (xs:List Int) (y:Int):xs.map V.int ++ [V.int y]=(xs ++ [y]).map V.int:=by simp
theorem getI {ns:List Int} {n:Nat} (h:n < ns.length):(ns.map V.int)[n]?=some (V.int (ns.getD n 0)):=by
 rw [List.getElem?_map,List.getElem?_eq_getElem h,List.getD_eq_getElem?_getD,List.getElem?_eq_getElem h]
 rfl
noncomputable def cell (ns:List Int) (n:Int):Int:=if n < ns.length then ns.getD n.toNat 0 else if ns.length=0 then 31 * n + 7 else ns.getD (n % ns.length).toNat 0 % 1000003 + 101 * n
noncomputable def sp_cell (K:PySem.W.Frag):Sp:=fun vs H Q _=>∃ (a:Addr) (ns:List Int) (n:Int),vs=[.ref a,.int n]∧SqL K H a (ns.map V.int)∧ns.length≤63∧0≤n∧n < 1000000∧Q (.int (cell ns n)) H
noncomputable def sp_whole:Sp:=fun vs H Q _=>∃ n:Int,vs=[.int n]∧Q (.bl true) H
noncomputable def sp_numbers:Sp:=fun vs H Q _=>∃ (c:Int) (n:Nat),vs=[.int c,.int n]∧n≤60∧∀ (p:Addr) (xs:List Int) (H':Hp),Same H H'→H p=none→H' p=some (.lst (xs.map V.int))→xs.length=n→(∀ x∈xs,0≤x∧x < 1009)→Q (.ref p) H'
section
variable {P:Program} {w:World} {K:PySem.W.Frag} {mg:Str→Option Value} {base:Heap} {t:Adr}
theorem sc_l_whole:FnScope ["_law_found"] ["_law_found"] (defScope s_l_whole):=⟨rfl,rfl,rfl,by decide +kernel,rfl,by decide +kernel,by decide +kernel⟩
theorem ok_l_whole (T:Txt w K mg t):FnOk P w K mg base (CXr P w) 1 t.f_l_whole t.d_l_whole ["_law_found"] sp_whole:=by
 refine T.p_l_whole.F.okR sc_l_whole (fun vs H Q E h=>?_) (fun cdv A outer s H vs Q E hr h=>?_)
 ·obtain ⟨p,rfl,_⟩:=h
  rfl
 ·obtain ⟨p,rfl,k⟩:=h
  refine ⟨_,(pss_one (ps_ret (pe_and (pe_callB call_isinst (by rfl) T.n_isinstance PyProof.Rows.boot_isinstance (pa_cons (pv 0) (pa_cons (pe_bltn (v:=.ty "int") (by rfl) T.n_int PySem.Pv.boot_int rfl) pa_nil))) (pe_one (pe_not (pe_callB call_isinst (by rfl) T.n_isinstance PyProof.Rows.boot_isinstance (pa_cons (pv 0) (pa_cons (pe_bltn (v:=.ty "bool") (by rfl) T.n_bool PySem.Pv.boot_bool rfl) pa_nil)))))))),?_⟩
  refine ⟨_,rfl,_,"int",_,true,rfl,TyOf.int p,kit_same,_,rfl,iteT ?_⟩
  refine ⟨_,rfl,_,"bool",_,false,rfl,TyOf.int p,(by rfl),_,rfl,k⟩
theorem sc_l_cell:FnScope ["_law_script","_law_at"] ["_law_script","_law_at"] (defScope s_l_cell):=⟨rfl,rfl,rfl,by decide +kernel,rfl,by decide +kernel,by decide +kernel⟩
theorem ok_l_cell (T:Txt w K mg t):FnOk P w K mg base (CXr P w) 1 t.f_l_cell t.d_l_cell ["_law_script","_law_at"] (sp_cell K):=by
 refine T.p_l_cell.F.okR sc_l_cell (fun vs H Q E h=>?_) (fun cdv A outer s H vs Q E hr h=>?_)
 ·obtain ⟨a,ns,n,rfl,_⟩:=h
  rfl
 ·obtain ⟨a,ns,n,rfl,hS,hl,h0,h1,k⟩:=h
  refine ⟨_,(pss_cons (ps_if (pt_cmpR op_lt (pv 1) (pe_callB call_len_seq (by rfl) T.n_len PySem.boot_len (pa_cons (pv 0) pa_nil)) (nomark _)) (pss_one (ps_ret (pe_ix ix_list (pv 0) (pv 1) (fun _ _=>rfl)))) pss_nil)
   (pss_cons (ps_if (pt_cmpR op_eq (pe_callB call_len_seq (by rfl) T.n_len PySem.boot_len (pa_cons (pv 0) pa_nil)) pe_int (nomark _)) (pss_one (ps_ret (pe_op op_add (pe_op op_mul pe_int (pv 1)) pe_int))) pss_nil)
   (pss_one (ps_ret (pe_op op_add (pe_op op_mod (pe_ix ix_list (pv 0) (pe_op op_mod (pv 1) (pe_callB call_len_seq (by rfl) T.n_len PySem.boot_len (pa_cons (pv 0) pa_nil))) (fun _ _=>rfl)) pe_int) (pe_op op_mul pe_int (pv 1))))))),?_⟩
  have el:((ns.map V.int).length:Int)=ns.length:=by simp
  refine ⟨_,rfl,_,rfl,a,_,rfl,.inl hS,_,_,rfl,rfl,_,rfl,?_⟩
  rw [el]
  refine ite2 (fun h=>?_) (fun h=>?_)
  ·have h:n < ns.length:=by simpa using h
   have e:cell ns n=ns.getD n.toNat 0:=if_pos h
   have en:n=(n.toNat:Int):=by omega
   have ei:atI (ns.map V.int) n=some (V.int (ns.getD n.toNat 0)):=by rw [en]; exact atI_nat (getI (n:=n.toNat) (by omega))
   rw [e] at k
   exact ⟨_,rfl,_,rfl,a,_,_,_,rfl,rfl,hS,ei,k⟩
  ·have h:¬ n < ns.length:=by simpa using h
   have e:cell ns n=if ns.length=0 then 31 * n + 7 else ns.getD (n % ns.length).toNat 0 % 1000003 + 101 * n:=if_neg h
   refine ⟨_,rfl,a,_,rfl,.inl hS,rfl,_,rfl,?_⟩
   rw [el]
   refine ite2 (fun g=>?_) (fun g=>?_)
   ·have g:ns.length=0:=by simpa using g
    refine ⟨_,rfl,_,_,rfl,rfl,.inl ⟨by decide,by decide⟩,_,_,rfl,rfl,?_⟩
    rw [if_pos g] at e
    rw [e] at k; exact k
   ·have g:¬ ns.length=0:=by simpa using g
    have gp:(0:Int) < ns.length:=by omega
    rw [if_neg g] at e
    have m0:=Int.emod_nonneg n (show (ns.length:Int)≠0 by omega)
    have m1:=Int.emod_lt_of_pos n gp
    refine ⟨_,rfl,_,rfl,_,rfl,a,_,rfl,.inl hS,_,_,rfl,rfl,(by rw [el]; exact gp),a,_,_,_,rfl,rfl,hS,(?_:atI _ _=some (V.int (ns.getD (n % ns.length).toNat 0))),_,_,rfl,rfl,(by show (0:Int) < 1000003; decide),_,rfl,_,_,rfl,rfl,.inl ⟨by decide,by decide⟩,_,_,rfl,rfl,?_⟩
    ·rw [el]
     have en:n % (ns.length:Int)=((n % (ns.length:Int)).toNat:Int):=by omega
     rw [en]
     exact atI_nat (getI (by omega))
    ·rw [e] at k; exact k
theorem sc_l_numbers:FnScope ["_law_cell_here","_law_many","_law_row","_law_rest","_law_seed"] ["_law_cell_here","_law_many"] (defScope s_l_numbers):=⟨rfl,rfl,rfl,by decide +kernel,rfl,by decide +kernel,by decide +kernel⟩
theorem ok_l_numbers (T:Txt w K mg t):FnOk P w K mg base (CXr P w) 1 t.f_l_numbers t.d_l_numbers ["_law_cell_here","_law_many"] sp_numbers:=by
 refine T.p_l_numbers.F.okR sc_l_numbers (fun vs H Q E h=>?_) (fun cdv A outer s H vs Q E hr h=>?_)
 ·obtain ⟨c,n,rfl,_⟩:=h
  rfl
 ·obtain ⟨c,n,rfl,hn60,k⟩:=h
  refine ⟨_,(pss_cons (ps_set (i:=2) sc_l_numbers.nd rfl (Or.inl rfl) (pe_lst pa_nil))
   (pss_cons (ps_set (i:=3) sc_l_numbers.nd rfl (Or.inl rfl) (pe_op op_sub (pv 0) (pe_op op_pow pe_int pe_int)))
   (pss_cons (ps_while PassesOwn.never (PW.pt (pw_and (pt_cmpR op_gt (pv 3) pe_int (nomark _)) (pw_and1 (pt_cmpR op_lt (pe_callB call_len_seq (by rfl) T.n_len PySem.boot_len (pa_cons (pv 2) pa_nil)) (pv 1) (nomark _))))) (pss_cons (ps_expr (pe_bm PySem.F.plainAttrs_list PySem.F.slot_list_append PySem.F.type_list_append mt_append (pv 2) (pa_cons (pe_op op_mod (pv 3) pe_int) pa_nil)))
   (pss_one (ps_set (i:=3) sc_l_numbers.nd rfl (Or.inl rfl) (pe_op op_fdiv (pv 3) pe_int)))))
   (pss_cons (ps_set (i:=4) sc_l_numbers.nd rfl (Or.inl rfl) (pe_op op_mod (pv 0) pe_int))
   (pss_cons (ps_while PassesOwn.never (pt_cmpR op_lt (pe_callB call_len_seq (by rfl) T.n_len PySem.boot_len (pa_cons (pv 2) pa_nil)) (pv 1) (nomark _)) (pss_cons (ps_set (i:=4) sc_l_numbers.nd rfl (Or.inl rfl) (pe_op op_mod (pe_op op_add (pe_op op_add (pe_op op_mul (pv 4) pe_int) pe_int) (pe_callB call_len_seq (by rfl) T.n_len PySem.boot_len (pa_cons (pv 2) pa_nil))) pe_int))
   (pss_one (ps_expr (pe_bm PySem.F.plainAttrs_list PySem.F.slot_list_append PySem.F.type_list_append mt_append (pv 2) (pa_cons (pe_op op_mod (pe_op op_fdiv (pe_op op_mod (pe_op op_mul (pv 4) pe_int) pe_int) pe_int) pe_int) pa_nil))))))
   (pss_one (ps_ret (pv 2)))))))),?_⟩
  refine ⟨Nat.zero_le _,fun r hr0=>?_⟩
  refine ⟨_,rfl,_,_,rfl,rfl,⟨by decide,by decide,by decide⟩,_,_,rfl,rfl,?_⟩
  show tSeq (tWhile _ _) _ _ _ _
  refine seq_post (fun σ H1=>∃ (xs:List Int) (rest:Int),σ=[some (.int c),some (.int n),some (.ref r),some (.int rest),none]∧Same H H1∧H1 r=some (.lst (xs.map V.int))∧xs.length≤n∧(∀ x∈xs,0≤x∧x < 1009)) (fun nx hnx=>?_) ?_
  ·refine ⟨fun m σ H1=>∃ (xs:List Int) (rest:Int),m=n - xs.length∧σ=[some (.int c),some (.int n),some (.ref r),some (.int rest),none]∧Same H H1∧H1 r=some (.lst (xs.map V.int))∧xs.length≤n∧(∀ x∈xs,0≤x∧x < 1009),
    ⟨n,[],_,rfl,rfl,Same.new hr0,upd_same,Nat.zero_le _,fun x hx=>absurd hx (by simp)⟩,?_⟩
   rintro m σ H1 ⟨xs,rest,rfl,rfl,sm,h1,hl,hx⟩
   have el:((xs.map V.int).length:Int)=xs.length:=by simp
   refine ⟨_,rfl,_,_,rfl,rfl,_,rfl,?_⟩
   refine ite2 (fun _=>?_) (fun _=>?_)
   ·refine ⟨_,rfl,r,_,rfl,.inl (SqL.of h1),_,rfl,_,_,rfl,rfl,_,rfl,?_⟩
    rw [el]
    refine ite2 (fun g=>?_) (fun _=>?_)
    ·have g:(xs.length:Int) < n:=by simpa using g
     refine ⟨_,fun σ' H' h=>h,?_⟩
     refine ⟨_,rfl,.inl ⟨rfl,_,SqL.of h1⟩,_,rfl,_,_,rfl,rfl,(by show (0:Int) < 1009; decide),r,_,_,rfl,rfl,h1,(by rw [List.length_map]; exact small1000 (by omega)),?_⟩
     refine ⟨_,rfl,_,_,rfl,rfl,⟨by decide,by decide⟩,?_⟩
     refine ⟨n - (xs ++ [rest % 1009]).length,?_,xs ++ [rest % 1009],_,rfl,rfl,Same.add sm hr0,?_,?_,?_⟩
     ·rw [List.length_append,List.length_singleton]; omega
     ·rw [upd_same,← map_snoc]
     ·rw [List.length_append,List.length_singleton]; omega
     ·intro x hm
      rcases List.mem_append.mp hm with z | z
      ·exact hx x z
      ·have:x=rest % 1009:=by simpa using z
       subst this
       omega
    ·exact hnx _ _ ⟨xs,rest,rfl,sm,h1,hl,hx⟩
   ·exact hnx _ _ ⟨xs,rest,rfl,sm,h1,hl,hx⟩
  rintro σ H1 ⟨xs,rest,rfl,sm,h1,hl,hx⟩
  refine ⟨_,rfl,_,_,rfl,rfl,(by show (0:Int) < 2147483629; decide),?_⟩
  show tSeq (tWhile _ _) _ _ _ _
  refine seq_post (fun σ H1=>∃ (xs:List Int) (rest seed:Int),σ=[some (.int c),some (.int n),some (.ref r),some (.int rest),some (.int seed)]∧Same H H1∧H1 r=some (.lst (xs.map V.int))∧xs.length=n∧(∀ x∈xs,0≤x∧x < 1009)) (fun nx hnx=>?_) ?_
  ·refine ⟨fun m σ H1=>∃ (xs:List Int) (rest seed:Int),m=n - xs.length∧σ=[some (.int c),some (.int n),some (.ref r),some (.int rest),some (.int seed)]∧Same H H1∧H1 r=some (.lst (xs.map V.int))∧xs.length≤n∧(∀ x∈xs,0≤x∧x < 1009),
    ⟨n - xs.length,xs,rest,_,rfl,rfl,sm,h1,hl,hx⟩,?_⟩
   clear h1 hl hx sm xs rest
   rintro m σ H1 ⟨xs,rest,seed,rfl,rfl,sm,h1,hl,hx⟩
   have el:((xs.map V.int).length:Int)=xs.length:=by simp
   refine ⟨_,rfl,r,_,rfl,.inl (SqL.of h1),_,rfl,_,_,rfl,rfl,_,rfl,?_⟩
   rw [el]
   refine ite2 (fun g=>?_) (fun g=>?_)
   ·have g:(xs.length:Int) < n:=by simpa using g
    refine ⟨_,fun σ' H' h=>h,?_⟩
    refine ⟨_,rfl,_,_,rfl,rfl,.inr ⟨by decide,by decide⟩,_,_,rfl,rfl,_,rfl,r,_,rfl,.inl (SqL.of h1),_,_,rfl,rfl,_,_,rfl,rfl,(by show (0:Int) < 2147483647; decide),?_⟩
    obtain ⟨y,hy⟩:∃ y,y=(seed * 48271 + 12345 + ((xs.map V.int).length:Int)) % 2147483647 * 69621 % 2147483629 / 7 % 1009:=⟨_,rfl⟩
    refine ⟨_,rfl,.inl ⟨rfl,_,SqL.of h1⟩,_,rfl,_,_,rfl,rfl,.inr ⟨by decide,by decide⟩,_,_,rfl,rfl,(by show (0:Int) < 2147483629; decide),_,_,rfl,rfl,⟨by decide,by decide⟩,_,_,rfl,rfl,(by show (0:Int) < 1009; decide),r,_,_,rfl,rfl,h1,(by rw [List.length_map]; exact small1000 (by omega)),?_⟩
    refine ⟨n - (xs ++ [y]).length,?_,xs ++ [y],_,_,rfl,rfl,Same.add sm hr0,?_,?_,?_⟩
    ·rw [List.length_append,List.length_singleton]; omega
    ·rw [upd_same,← map_snoc,hy]
    ·rw [List.length_append,List.length_singleton]; omega
    ·intro x hm
     rcases List.mem_append.mp hm with z | z
     ·exact hx x z
     ·have:x=y:=by simpa using z
      rw [this,hy]
      exact ⟨Int.emod_nonneg _ (by decide),Int.emod_lt_of_pos _ (by decide)⟩
   ·have g:¬ (xs.length:Int) < n:=by simpa using g
    exact hnx _ _ ⟨xs,rest,seed,rfl,sm,h1,by omega,hx⟩
  rintro σ H1 ⟨xs,rest,seed,rfl,sm,h1,hl,hx⟩
  exact ⟨_,rfl,k r xs H1 sm hr0 h1 hl hx⟩
noncomputable def sp_sewn (K:PySem.W.Frag):Sp:=fun vs H Q _=>∃ (a:Addr) (xs:List Int) (n:Nat) (sh:Int),vs=[.ref a,.int n,.int sh]∧H a=some (.lst (xs.map V.int))∧xs.length=60∧(∀ x∈xs,0≤x∧x < 1009)∧1≤n∧n≤14 ∧
 ∀ (p:Addr) (M:List (Option Nat)) (H':Hp),Same H H'→H p=none→H' p=some (.lst (M.map mV))→M.length=3 * n→(∀ (i j:Nat),M[i]?=some (some j)→M[j]?=some (some i)∧i≠j)→Q (.ref p) H'
theorem map_set {α:Type} (f:α→V) (l:List α) (i:Nat) (x:α):(l.map f).set i (f x)=(l.set i x).map f:=by rw [List.map_set]
theorem ixN_nat {n i:Nat} (h:i < n):ixN n (i:Int)=some i:=by
 unfold ixN
 simp
 omega
theorem er_map {α β:Type} (f:α→β):∀ (l:List α) (i:Nat),(l.map f).eraseIdx i=(l.eraseIdx i).map f
 | [],_=>rfl
 | _ :: _,0=>rfl
 | a :: r,i + 1=>by rw [List.map_cons,List.eraseIdx_cons_succ,er_map f r i,List.eraseIdx_cons_succ,List.map_cons]
theorem natV (F:List Nat) (i:Nat):(F.map fun (j:Nat)=>V.int j)[i]?=(F[i]?).map fun (j:Nat)=>V.int j:=List.getElem?_map ..
theorem sc_l_sewn:FnScope ["_law_nums","_law_many","_law_share","_law_mates","_law_free_here","_law_at","_law_one","_law_pick","_law_other"] ["_law_nums","_law_many","_law_share"] (defScope s_l_sewn):=⟨rfl,rfl,rfl,by decide +kernel,rfl,by decide +kernel,by decide +kernel⟩
theorem ok_l_sewn (T:Txt w K mg t):FnOk P w K mg base (CXr P w) 1 t.f_l_sewn t.d_l_sewn ["_law_nums","_law_many","_law_share"] (sp_sewn K):=by
 refine T.p_l_sewn.F.okR sc_l_sewn (fun vs H Q E h=>?_) (fun cdv A outer s H vs Q E hr h=>?_)
 ·obtain ⟨a,xs,n,sh,rfl,_⟩:=h
  rfl
 ·obtain ⟨a,xs,n,sh,rfl,ha,hl,hx,h1,h2,k⟩:=h
  refine ⟨_,(pss_cons (ps_set (i:=3) sc_l_sewn.nd rfl (Or.inl rfl) (pe_op op_rep (pe_lst (pa_cons pe_non pa_nil)) (pe_op op_mul pe_int (pv 1))))
   (pss_cons (ps_set (i:=4) sc_l_sewn.nd rfl (Or.inl rfl) (pe_listRange rfl T.n_list rfl T.n_range rfl (pa_cons (pe_op op_mul pe_int (pv 1)) pa_nil)))
   (pss_cons (ps_set (i:=5) sc_l_sewn.nd rfl (Or.inl rfl) pe_int)
   (pss_cons (ps_while PassesOwn.never (pt_cmpR op_gt (pe_callB call_len_seq (by rfl) T.n_len PySem.boot_len (pa_cons (pv 4) pa_nil)) pe_int (nomark _)) (pss_cons (ps_set (i:=6) sc_l_sewn.nd rfl (Or.inl rfl) (pe_bm PySem.F.plainAttrs_list PySem.F.slot_list_pop PySem.F.type_list_pop mt_popAt (pv 4) (pa_cons pe_int pa_nil)))
   (pss_cons (ps_set (i:=7) sc_l_sewn.nd rfl (Or.inl rfl) (pe_ix ix_list (pv 0) (pv 5) (fun _ _=>rfl)))
   (pss_cons (ps_set (i:=5) sc_l_sewn.nd rfl (Or.inl rfl) (pe_op op_add (pv 5) pe_int))
   (pss_one (ps_if (pt_cmpR op_ge (pe_op op_mod (pv 7) pe_int) (pv 2) (nomark _)) (pss_cons (ps_set (i:=8) sc_l_sewn.nd rfl (Or.inl rfl) (pe_bm PySem.F.plainAttrs_list PySem.F.slot_list_pop PySem.F.type_list_pop mt_popAt (pv 4) (pa_cons (pe_op op_mod (pe_op op_fdiv (pv 7) pe_int) (pe_callB call_len_seq (by rfl) T.n_len PySem.boot_len (pa_cons (pv 4) pa_nil))) pa_nil)))
   (pss_cons (ps_asg (pv 8) (pg_sub (pv 3) (pv 6) set_list))
   (pss_one (ps_asg (pv 6) (pg_sub (pv 3) (pv 8) set_list))))) pss_nil))))))
   (pss_one (ps_ret (pv 3))))))),?_⟩
  refine ⟨(by show 1≤sizeLine; decide),fun q hq=>?_⟩
  refine ⟨_,rfl,_,_,rfl,rfl,.inl ⟨by decide,by decide⟩,q,_,_,rfl,rfl,upd_same,(by omega),(by omega),?_,fun m hm=>?_⟩
  ·have:(3 * (n:Int)).toNat=3 * n:=by omega
   show 1 * (3 * (n:Int)).toNat≤sizeLine
   rw [this,sizeLine_eq]; omega
  have eN:(3 * (n:Int)).toNat=3 * n:=by omega
  have eM:(List.replicate (3 * (n:Int)).toNat [V.non]).flatten=(List.replicate (3 * n) (none:Option Nat)).map mV:=by
   rw [eN,List.flatten_replicate_singleton,List.map_replicate]
   rfl
  refine ⟨_,rfl,_,_,rfl,rfl,.inl ⟨by decide,by decide⟩,3 * n,(congrArg (fun z=>[V.int z]) (by omega:(3 * (n:Int))=((3 * n:Nat):Int))),by omega,fun f hf=>?_⟩
  have hfm:f≠m:=fun z=>by rw [z,upd_same] at hf; cases hf
  have hm0:H m=none:=by
   have:m≠q:=fun z=>by rw [z,upd_same] at hm; cases hm
   rw [upd_ne this] at hm; exact hm
  have hf0:H f=none:=by
   rw [upd_ne hfm] at hf
   have:f≠q:=fun z=>by rw [z,upd_same] at hf; cases hf
   rw [upd_ne this] at hf; exact hf
  have sm0:Same H (upd (upd (upd H q (.lst [.non])) m (.lst (List.replicate (3 * (n:Int)).toNat [V.non]).flatten)) f (.lst ((List.range (3 * n)).map fun (i:Nat)=>V.int i))):=Same.add (Same.add (Same.new hq) hm0) hf0
  show tSeq (tWhile _ _) _ _ _ _
  refine seq_post (fun σ H1=>∃ (M:List (Option Nat)) (v4 v5 v6 v7 v8:Option V),σ=[some (.ref a),some (.int n),some (.int sh),some (.ref m),v4,v5,v6,v7,v8]∧Same H H1∧H1 m=some (.lst (M.map mV))∧M.length=3 * n∧∀ (i j:Nat),M[i]?=some (some j)→M[j]?=some (some i)∧i≠j) (fun nx hnx=>?_) ?_
  ·refine ⟨fun c σ H1=>∃ (F:List Nat) (M:List (Option Nat)) (at':Nat) (v6 v7 v8:Option V),c=F.length∧σ=[some (.ref a),some (.int n),some (.int sh),some (.ref m),some (.ref f),some (.int at'),v6,v7,v8]∧Same H H1∧H1 m=some (.lst (M.map mV))∧H1 f=some (.lst (F.map fun (i:Nat)=>V.int i))∧SewOk (3 * n) F M∧at' + F.length≤3 * n,
    ⟨_,List.range (3 * n),List.replicate (3 * n) none,0,none,none,none,rfl,rfl,sm0,?_,upd_same,SewOk.start _,by simp⟩,?_⟩
   ·rw [upd_ne hfm.symm,upd_same,eM]
   rintro c σ H1 ⟨F,M,at',v6,v7,v8,rfl,rfl,sm,g1,g2,hs,hat⟩
   refine ⟨_,rfl,f,_,rfl,.inl (SqL.of g2),_,_,rfl,rfl,_,rfl,?_⟩
   rw [List.length_map]
   refine ite2 (fun g=>?_) (fun g=>?_)
   ·have g:1 < F.length:=by have:=of_decide_eq_true g; omega
    obtain ⟨one,F',rfl⟩:∃ one F',F=one :: F':=by
     cases F with
     | nil=>simp at g
     | cons a b=>exact ⟨a,b,rfl⟩
    rw [List.length_cons] at g hat
    refine ⟨_,fun σ' H' h=>h,?_⟩
    refine ⟨_,rfl,.inl ⟨rfl,_,SqL.of g2⟩,f,_,0,0,V.int one,rfl,rfl,g2,by decide,by decide,(by simp [seqIndex?]),rfl,?_⟩
    have e0:((one :: F').map fun (i:Nat)=>V.int i).eraseIdx 0=F'.map fun (i:Nat)=>V.int i:=rfl
    rw [e0]
    have g2':(upd H1 f (.lst (F'.map fun (i:Nat)=>V.int i))) f=some (.lst (F'.map fun (i:Nat)=>V.int i)):=upd_same
    have g1':(upd H1 f (.lst (F'.map fun (i:Nat)=>V.int i))) m=some (.lst (M.map mV)):=by rw [upd_ne hfm.symm]; exact g1
    have sm':Same H (upd H1 f (.lst (F'.map fun (i:Nat)=>V.int i))):=Same.add sm hf0
    generalize upd H1 f (.lst (F'.map fun (i:Nat)=>V.int i))=H2 at g1' g2' sm' ⊢
    have hpick:at' < xs.length:=by omega
    refine ⟨_,rfl,_,rfl,a,_,_,_,rfl,rfl,SqL.of (sm' _ _ ha),atI_nat (getI hpick),?_⟩
    obtain ⟨p0,p1⟩:=hx _ (List.getElem_mem hpick)
    have ep:xs.getD at' 0=xs[at']:=by rw [List.getD_eq_getElem?_getD,List.getElem?_eq_getElem hpick]; rfl
    rw [ep]
    generalize xs[at']=pick at p0 p1 ⊢
    refine ⟨_,rfl,_,_,rfl,rfl,?_⟩
    refine ⟨_,rfl,_,_,rfl,rfl,(by show (0:Int) < 7; decide),_,rfl,_,_,rfl,rfl,_,rfl,?_⟩
    refine ite2 (fun _=>?_) (fun _=>?_)
    ·-- other=free.pop(..)
     have hF:(0:Int) < F'.length:=by omega
     have k0:=Int.emod_nonneg (pick / 7) (show (F'.length:Int)≠0 by omega)
     have k1:=Int.emod_lt_of_pos (pick / 7) hF
     obtain ⟨kk,hkk⟩:∃ kk:Nat,pick / 7 % (F'.length:Int)=kk:=⟨_,(Int.toNat_of_nonneg k0).symm⟩
     have hkl:kk < F'.length:=by omega
     refine ⟨_,rfl,.inl ⟨rfl,_,SqL.of g2'⟩,_,rfl,_,_,rfl,rfl,⟨by decide,by decide⟩,_,rfl,f,_,rfl,.inl (SqL.of g2'),_,_,rfl,rfl,(by rw [List.length_map]; exact hF),f,_,_,kk,V.int F'[kk],rfl,rfl,g2',?_,?_,?_,?_,?_⟩
     ·rw [List.length_map,hkk]; omega
     ·rw [List.length_map,hkk]; omega
     ·rw [List.length_map,hkk]; simp [seqIndex?]; omega
     ·rw [natV,List.getElem?_eq_getElem hkl]; rfl
     have e1:(F'.map fun (i:Nat)=>V.int i).eraseIdx kk=(F'.eraseIdx kk).map fun (i:Nat)=>V.int i:=by rw [er_map]
     rw [e1]
     have hp:=hs.pair (List.getElem?_eq_getElem hkl)
     have l1:one < M.length:=by rw [hs.len]; exact (hs.free one List.mem_cons_self).1
     have l2:F'[kk] < M.length:=by rw [hs.len]; exact (hs.free _ (List.mem_cons_of_mem _ (List.getElem_mem hkl))).1
     have g1'':(upd H2 f (.lst ((F'.eraseIdx kk).map fun (i:Nat)=>V.int i))) m=some (.lst (M.map mV)):=by rw [upd_ne hfm.symm]; exact g1'
     refine ⟨_,rfl,_,rfl,_,rfl,m,_,_,one,rfl,rfl,g1'',(by rw [List.length_map]; exact ixN_nat l1),?_⟩
     refine ⟨_,rfl,_,rfl,_,rfl,m,_,_,F'[kk],rfl,rfl,upd_same,(by rw [List.length_set,List.length_map]; exact ixN_nat l2),?_⟩
     refine ⟨(F'.eraseIdx kk).length,?_,F'.eraseIdx kk,(M.set one (some F'[kk])).set F'[kk] (some one),at' + 1,_,_,_,rfl,rfl,Same.add (Same.add (Same.add sm' hf0) hm0) hm0,?_,?_,hp,?_⟩
     ·rw [List.length_eraseIdx_of_lt hkl,List.length_cons]; omega
     ·rw [upd_same]
      show some (HO.lst (((M.map mV).set one (mV (some F'[kk]))).set F'[kk] (mV (some one))))=_
      rw [map_set,map_set]
     ·rw [upd_ne hfm,upd_ne hfm,upd_same]
     ·rw [List.length_eraseIdx_of_lt hkl]; omega
    ·exact ⟨F'.length,by rw [List.length_cons]; omega,F',M,at' + 1,_,_,_,rfl,rfl,sm',g1',g2',hs.skip,by omega⟩
   ·exact hnx _ _ ⟨M,_,_,_,_,_,rfl,sm,g1,hs.len,hs.inv⟩
  rintro σ H1 ⟨M,v4,v5,v6,v7,v8,rfl,sm,g1,hl',hi'⟩
  exact ⟨_,rfl,k m M H1 sm hm0 g1 hl' hi'⟩
end
end KT
set_option maxHeartbeats 4000000
namespace KT
open PySem L2
theorem loop_range {lo:Int} {n:Nat} {g:TG} {tt:TT} {tb:TB} {R:St→Hp→Prop} {σ:St} {H:Hp} (Pv:Nat→St→Hp→Prop) (h0:Pv 0 σ H)
  (hs:∀ (i:Nat) σ H,i < n→Pv i σ H→g (.int (lo + i)) σ H fun σ2 H2=>tt σ2 H2 fun b H3=>if b=true then tb σ2 H3 (Pv (i + 1)) else Pv (i + 1) σ2 H3) (hd:∀ σ H,Pv n σ H→R σ H):LoopR (Itr lo n) g tt tb R σ H:=by
 refine ⟨fun i m σ H=>m=n - i∧i≤n∧Pv i σ H,⟨n,by simp,Nat.zero_le _,h0⟩,?_⟩
 rintro i m σ H ⟨rfl,hi,p⟩
 by_cases hlt:i < n
 ·refine .inr ⟨hlt,Pv (i + 1),fun σ' H' p'=>⟨n - (i + 1),by omega,rfl,hlt,p'⟩,fun x H' y=>?_⟩
  obtain ⟨e,y⟩:=y
  subst e y
  exact hs i σ _ hlt p
 ·have e:i=n:=by omega
  subst e
  exact .inl ⟨Nat.le_refl _,hd σ H p⟩
theorem loop_list {K:PySem.W.Frag} {a:Addr} {xs:List V} {g:TG} {tt:TT} {tb:TB} {R:St→Hp→Prop} {σ:St} {H:Hp} (Pv:Nat→St→Hp→Prop) (h0:Pv 0 σ H) (hl:∀ i σ H,i≤xs.length→Pv i σ H→SqL K H a xs)
  (hs:∀ (i:Nat) x σ H,xs[i]?=some x→Pv i σ H→g x σ H fun σ2 H2=>tt σ2 H2 fun b H3=>if b=true then tb σ2 H3 (Pv (i + 1)) else Pv (i + 1) σ2 H3) (hd:∀ σ H,Pv xs.length σ H→R σ H):LoopR (Itl K a) g tt tb R σ H:=by
 refine ⟨fun i m σ H=>m=xs.length - i∧i≤xs.length∧Pv i σ H,⟨xs.length,by simp,Nat.zero_le _,h0⟩,?_⟩
 rintro i m σ H ⟨rfl,hi,p⟩
 have q:=hl i σ H hi p
 by_cases hlt:i < xs.length
 ·refine .inr ⟨⟨xs,xs[i],q,by simp [hlt]⟩,Pv (i + 1),fun σ' H' p'=>⟨xs.length - (i + 1),by omega,rfl,hlt,p'⟩,fun x H' y=>?_⟩
  obtain ⟨e,y⟩:=y
  subst e
  exact hs i x σ _ (y xs q) p
 ·have e:i=xs.length:=by omega
  subst e
  exact .inl ⟨⟨xs,q,Nat.le_refl _⟩,hd σ H p⟩
theorem loop_tup {K:PySem.W.Frag} {a:Addr} {xs:List V} {g:TG} {tt:TT} {tb:TB} {R:St→Hp→Prop} {σ:St} {H:Hp} (Pv:Nat→St→Hp→Prop) (h0:Pv 0 σ H) (hl:∀ i σ H,i≤xs.length→Pv i σ H→SqT K H a xs)
  (hs:∀ (i:Nat) x σ H,xs[i]?=some x→Pv i σ H→g x σ H fun σ2 H2=>tt σ2 H2 fun b H3=>if b=true then tb σ2 H3 (Pv (i + 1)) else Pv (i + 1) σ2 H3) (hd:∀ σ H,Pv xs.length σ H→R σ H):LoopR (Itt K a) g tt tb R σ H:=by
 refine ⟨fun i m σ H=>m=xs.length - i∧i≤xs.length∧Pv i σ H,⟨xs.length,by simp,Nat.zero_le _,h0⟩,?_⟩
 rintro i m σ H ⟨rfl,hi,p⟩
 have q:=hl i σ H hi p
 by_cases hlt:i < xs.length
 ·refine .inr ⟨⟨xs,xs[i],q,by simp [hlt]⟩,Pv (i + 1),fun σ' H' p'=>⟨xs.length - (i + 1),by omega,rfl,hlt,p'⟩,fun x H' y=>?_⟩
  obtain ⟨e,y⟩:=y
  subst e
  exact hs i x σ _ (y xs q) p
 ·have e:i=xs.length:=by omega
  subst e
  exact .inl ⟨⟨xs,q,Nat.le_refl _⟩,hd σ H p⟩
noncomputable def row3 (ns:List Int) (k:Nat):List V:=[.int (ns.getD (3 * k) 0),.int (ns.getD (3 * k + 1) 0),.int (ns.getD (3 * k + 2) 0)]
noncomputable def RowsAt (H:Hp) (r:Addr) (ns:List Int):Prop:=∃ ts:List Addr,H r=some (.lst (ts.map V.ref))∧ns.length=3 * ts.length∧∀ (k:Nat) (t:Addr),ts[k]?=some t→H t=some (.tup (row3 ns k))
theorem RowsAt.same {H H':Hp} {r:Addr} {ns:List Int} (h:RowsAt H r ns) (s:Same H H'):RowsAt H' r ns:=by
 obtain ⟨ts,h1,h2,h3⟩:=h
 exact ⟨ts,s _ _ h1,h2,fun k t e=>s _ _ (h3 k t e)⟩
noncomputable def sp_rows:Sp:=fun vs H Q _=>∃ (a:Addr) (M:List (Option Nat)) (n:Nat) (st sp:Int),vs=[.ref a,.int st,.int sp]∧H a=some (.lst (M.map mV))∧M.length=3 * n∧1≤n∧n≤14∧(∀ (i j:Nat),M[i]?=some (some j)→M[j]?=some (some i)∧i≠j)∧sp∈steps ∧
 ∀ (p:Addr) (H':Hp),Same H H'→H p=none→RowsAt H' p (flat M st sp)→Q (.ref p) H'
theorem steps_small {t:Int} (h:t∈steps):-(2 ^ 64) < t∧t < 2 ^ 64:=by
 simp only [steps,List.mem_cons,List.not_mem_nil,or_false] at h
 rcases h with rfl | rfl | rfl | rfl | rfl | rfl | rfl | rfl <;> decide
theorem mV_get {M:List (Option Nat)} {i:Nat} (h:i < M.length):atI (M.map mV) (0 + (i:Int))=some (mV M[i]):=by
 rw [Int.zero_add]
 exact atI_nat (by rw [List.getElem?_map,List.getElem?_eq_getElem h]; rfl)
section
variable {P:Program} {w:World} {K:PySem.W.Frag} {mg:Str→Option Value} {base:Heap} {t:Adr}
theorem sc_l_rows:FnScope ["_law_mates","_law_start","_law_step","_law_flat","_law_at","_law_mate"] ["_law_mates","_law_start","_law_step"] (defScope s_l_rows):=⟨rfl,rfl,rfl,by decide +kernel,rfl,by decide +kernel,by decide +kernel⟩
theorem ok_l_rows (T:Txt w K mg t):FnOk P w K mg base (CXr P w) 1 t.f_l_rows t.d_l_rows ["_law_mates","_law_start","_law_step"] sp_rows:=by
 refine T.p_l_rows.F.okR sc_l_rows (fun vs H Q E h=>?_) (fun cdv A outer s H vs Q E hr h=>?_)
 ·obtain ⟨a,M,n,st,sp,rfl,_⟩:=h
  rfl
 ·obtain ⟨a,M,n,st,sp,rfl,ha,hM,h1,h2,hi,hsp,k⟩:=h
  refine ⟨_,(pss_cons (ps_set (i:=3) sc_l_rows.nd rfl (Or.inr rfl) (pe_lst pa_nil))
   (pss_cons (ps_for PassesOwn.never rfl (pi_range1 rfl T.n_range (pa_cons (pe_callB call_len_seq (by rfl) T.n_len PySem.boot_len (pa_cons (pv 0) pa_nil)) pa_nil)) (pg_name (i:=4) sc_l_rows.nd rfl (Or.inl rfl)) (pss_cons (ps_set (i:=5) sc_l_rows.nd rfl (Or.inl rfl) (pe_ix ix_list (pv 0) (pv 4) (fun _ _=>rfl)))
   (pss_one (ps_if (PW.pt (pw_and (pt_cmpR op_notN (pv 5) pe_non (nomark _)) (pw_and1 (pt_cmpR op_lt (pv 5) (pv 4) (nomark _))))) (pss_one (ps_expr (pe_bm PySem.F.plainAttrs_list PySem.F.slot_list_append PySem.F.type_list_append mt_append (pv 3) (pa_cons (pe_ix ix_list (pv 3) (pv 5) (fun _ _=>rfl)) pa_nil)))) (pss_one (ps_expr (pe_bm PySem.F.plainAttrs_list PySem.F.slot_list_append PySem.F.type_list_append mt_append (pv 3) (pa_cons (pe_op op_mod (pe_op op_add (pv 1) (pe_op op_mul (pv 2) (pv 4))) pe_int) pa_nil))))))))
   (pss_one (ps_ret (pe_compG (ts:=["_law_k"]) (fv:=[("_law_flat",3)]) ⟨rfl,by decide +kernel,by decide +kernel,blkFree (by rfl),⟨⟨rfl,rfl,Or.inl rfl⟩,trivial⟩⟩ rfl (pi_range1 rfl T.n_range (pa_cons (pe_op op_fdiv (pe_callB call_len_seq (by rfl) T.n_len PySem.boot_len (pa_cons (pv 0) pa_nil)) pe_int) pa_nil)) (fun _ _ _ _=>(pg_name (i:=0) (show List.Nodup (["_law_k","_law_flat"]:List Str) from by decide +kernel) rfl (Or.inl rfl) (Or.inr rfl))) (fun _ _ _ _=>pts_nil) (fun _ _ _=>rfl) (fun _ _ _ _ _ _=>pb_emit (pe_tup (pa_cons (pe_ix (ix_listK K) (pv 1) (pe_op op_mul pe_int (pv 0)) (fun _ _=>rfl)) (pa_cons (pe_ix (ix_listK K) (pv 1) (pe_op op_add (pe_op op_mul pe_int (pv 0)) pe_int) (fun _ _=>rfl)) (pa_cons (pe_ix (ix_listK K) (pv 1) (pe_op op_add (pe_op op_mul pe_int (pv 0)) pe_int) (fun _ _=>rfl)) pa_nil)))))))))),?_⟩
  refine ⟨Nat.zero_le _,fun f hf=>?_⟩
  have eL:(((M.map mV).length:Nat):Int).toNat=M.length:=by simp
  have ha1:(upd H f (.lst [])) a=some (.lst (M.map mV)):=by rw [upd_ne (ne_of_none ha hf)]; exact ha
  dsimp only [gName]
  show tSeq (tFor _ _ _) _ _ _ _
  refine seq_post (fun σ H1=>∃ (v4 v5:Option V),σ=[some (.ref a),some (.int st),some (.int sp),some (.ref f),v4,v5]∧Same H H1∧H1 f=some (.lst ((flat M st sp).map V.int))) (fun nx hnx=>?_) ?_
  ·refine ⟨_,rfl,a,_,rfl,.inl (SqL.of ha1),_,rfl,by omega,by rw [List.length_map]; omega,?_⟩
   rw [eL]
   refine for_range (n:=M.length) (fun i σ H1=>∃ (v4 v5:Option V),σ=[some (.ref a),some (.int st),some (.int sp),some (.ref f),v4,v5]∧Same H H1∧H1 f=some (.lst (((List.range i).map fun i=>nm st sp (rep M i)).map V.int))) ⟨none,none,rfl,Same.new hf,upd_same⟩ ?_ ?_
   ·rintro i σ H1 hlt ⟨v4,v5,rfl,sm,hfl⟩
    refine ⟨_,rfl,_,rfl,a,_,_,_,rfl,rfl,SqL.of (sm _ _ ha),mV_get hlt,?_⟩
    have fin:∀ x:Int,x=nm st sp (rep M i)→(upd H1 f (.lst (((List.range i).map fun i=>nm st sp (rep M i)).map V.int ++ [V.int x]))) f=some (.lst (((List.range (i + 1)).map fun i=>nm st sp (rep M i)).map V.int)):=fun x hx=>by
     rw [upd_same,hx,List.range_succ]
     simp
    have hlen:(((List.range i).map fun i=>nm st sp (rep M i)).map V.int).length < sizeLine:=by
     rw [List.length_map,List.length_map,List.length_range]; exact small1000 (by omega)
    refine ⟨_,rfl,rfl,_,rfl,?_⟩
    cases e:M[i] with
    | none =>
     have er:rep M i=i:=by unfold rep; rw [List.getElem?_eq_getElem hlt,e]
     refine iteF ?_
     refine iteF ?_
     refine ⟨_,rfl,.inl ⟨rfl,_,SqL.of hfl⟩,_,rfl,_,rfl,_,rfl,_,_,rfl,rfl,.inl (steps_small hsp),_,_,rfl,rfl,_,_,rfl,rfl,(by show (0:Int) < 10000; decide),f,_,_,rfl,rfl,hfl,hlen,?_⟩
     exact ⟨_,_,rfl,Same.add sm hf,fin _ (by rw [er]; unfold nm; rw [Int.zero_add])⟩
    | some j =>
     have hMi:M[i]?=some (some j):=by rw [List.getElem?_eq_getElem hlt,e]
     refine iteT ?_
     refine ⟨_,rfl,_,rfl,_,_,rfl,rfl,_,rfl,?_⟩
     refine ite2 (fun g=>?_) (fun g=>?_)
     ·have g:j < i:=by have:=of_decide_eq_true g; omega
      have er:rep M i=j:=by unfold rep; rw [hMi]; exact if_pos g
      have erj:rep M j=j:=by unfold rep; rw [(hi i j hMi).1]; exact if_neg (by omega)
      have ej:atI (((List.range i).map fun i=>nm st sp (rep M i)).map V.int) (j:Int)=some (V.int (nm st sp (rep M i))):=by
       refine atI_nat ?_
       rw [List.getElem?_map,List.getElem?_map,List.getElem?_range g,er]
       show some (V.int (nm st sp (rep M j)))=_
       rw [erj]
      refine ⟨_,rfl,.inl ⟨rfl,_,SqL.of hfl⟩,_,rfl,_,rfl,f,_,_,_,rfl,rfl,SqL.of hfl,ej,f,_,_,rfl,rfl,hfl,hlen,?_⟩
      exact ⟨_,_,rfl,Same.add sm hf,fin _ rfl⟩
     ·have g:¬ j < i:=by
       have:¬ ((j:Int) < 0 + (i:Int)):=fun z=>g (decide_eq_true z)
       omega
      have er:rep M i=i:=by unfold rep; rw [hMi]; exact if_neg g
      refine ⟨_,rfl,.inl ⟨rfl,_,SqL.of hfl⟩,_,rfl,_,rfl,_,rfl,_,_,rfl,rfl,.inl (steps_small hsp),_,_,rfl,rfl,_,_,rfl,rfl,(by show (0:Int) < 10000; decide),f,_,_,rfl,rfl,hfl,hlen,?_⟩
      exact ⟨_,_,rfl,Same.add sm hf,fin _ (by rw [er]; unfold nm; rw [Int.zero_add])⟩
   ·rintro σ H1 ⟨v4,v5,rfl,sm,hfl⟩
    exact hnx _ _ ⟨v4,v5,rfl,sm,hfl⟩
  rintro σ H1 ⟨v4,v5,rfl,sm,hfl⟩
  refine ⟨_,rfl,a,_,rfl,.inl (SqL.of (sm _ _ ha)),_,_,rfl,rfl,⟨by decide,by decide⟩,_,rfl,by rw [List.length_map]; omega,by rw [List.length_map]; omega,fun D hD=>?_⟩
  have eD:((((M.map mV).length:Nat):Int) / 3).toNat=n:=by rw [List.length_map,hM]; omega
  have hD0:H D=none:=sm.free hD
  have hfD:f≠D:=fun z=>by rw [z] at hfl; rw [hD] at hfl; cases hfl
  have hlf:(flat M st sp).length=3 * n:=by unfold flat; simp [hM]
  show LoopR (Itr 0 ((((M.map mV).length:Nat):Int) / 3).toNat) _ _ _ _ _ _
  rw [eD]
  refine loop_range (fun i σ H2=>∃ (ts:List Addr) (v:Option V),σ=[v,some (.ref f)]∧Same H H2∧H2 D=some (.lst (ts.map V.ref))∧ts.length=i∧H2 f=some (.lst ((flat M st sp).map V.int))∧∀ (k:Nat) (t:Addr),ts[k]?=some t→H2 t=some (.tup (row3 (flat M st sp) k)))
   ⟨[],none,rfl,Same.add sm hD0,upd_same,rfl,by rw [upd_ne hfD]; exact hfl,fun k t z=>by simp at z⟩ ?_ ?_
  ·rintro i σ H2 hlt ⟨ts,v,rfl,sm2,g1,hl2,g2,g3⟩
   have at':∀ (c:Nat) (z:Int),c < 3→z=3 * (0 + (i:Int)) + c→atI ((flat M st sp).map V.int) z=some (V.int ((flat M st sp).getD (3 * i + c) 0)):=fun c z hc hz=>by
    have e:z=((3 * i + c:Nat):Int):=by omega
    rw [e]
    exact atI_nat (getI (by omega))
   dsimp only [gName,tYes]
   rw [if_pos rfl]
   refine ⟨_,rfl,_,rfl,_,_,rfl,rfl,.inl ⟨by decide,by decide⟩,f,_,_,_,rfl,rfl,SqL.of g2,at' 0 _ (by decide) (by simp),?_⟩
   refine ⟨_,rfl,_,rfl,_,_,rfl,rfl,.inl ⟨by decide,by decide⟩,_,_,rfl,rfl,f,_,_,_,rfl,rfl,SqL.of g2,at' 1 _ (by decide) rfl,?_⟩
   refine ⟨_,rfl,_,rfl,_,_,rfl,rfl,.inl ⟨by decide,by decide⟩,_,_,rfl,rfl,f,_,_,_,rfl,rfl,SqL.of g2,at' 2 _ (by decide) rfl,?_⟩
   refine ⟨(by show 3≤sizeLine; decide),fun q hq=>?_⟩
   have hqD:q≠D:=fun z=>by rw [z,g1] at hq; cases hq
   have hqf:q≠f:=fun z=>by rw [z,g2] at hq; cases hq
   have hq0:H q=none:=sm2.free hq
   refine ⟨_,by rw [upd_ne (Ne.symm hqD)]; exact g1,(by rw [List.length_map]; exact small1000 (by omega)),ts ++ [q],_,rfl,Same.add (Same.add sm2 hq0) hD0,?_,?_,?_,?_⟩
   ·rw [upd_same]; simp
   ·rw [List.length_append,List.length_singleton,hl2]
   ·rw [upd_ne hfD,upd_ne (Ne.symm hqf)]; exact g2
   ·intro k t z
    by_cases hk:k < ts.length
    ·rw [List.getElem?_append_left hk] at z
     have g:=g3 k t z
     rw [upd_ne (fun e=>by rw [e,g1] at g; cases g),upd_ne (ne_of_none g hq)]
     exact g
    ·have hk2:k=ts.length:=by
      have:=(List.getElem?_eq_some_iff.mp z).1
      rw [List.length_append,List.length_singleton] at this
      omega
     subst hk2
     have:t=q:=by simpa using z.symm
     subst this
     rw [upd_ne hqD,upd_same,hl2]
     rfl
  ·rintro σ H2 ⟨ts,v,rfl,sm2,g1,hl2,g2,g3⟩
   exact k D H2 sm2 hD0 ⟨ts,g1,by rw [hlf,hl2],g3⟩
end
end KT
set_option maxHeartbeats 4000000
namespace KT
open PySem L2
theorem at4 {i:Int} (h0:0≤i) (h1:i < 4):∃ sh:Int,atI [V.int 0,V.int 0,V.int 1,V.int 3] i=some (V.int sh):=by
 obtain rfl | rfl | rfl | rfl:i=0∨i=1∨i=2∨i=3:=by omega
 all_goals exact ⟨_,rfl⟩
theorem at8 {i:Int} (h0:0≤i) (h1:i < 8):∃ sp:Int,sp∈steps∧atI [V.int 1,V.int 3,V.int 7,V.int 9,V.int 37,V.int 1009,V.int 3333,V.int 9999] i=some (V.int sp):=by
 obtain rfl | rfl | rfl | rfl | rfl | rfl | rfl | rfl:i=0∨i=1∨i=2∨i=3∨i=4∨i=5∨i=6∨i=7:=by omega
 all_goals exact ⟨_,by decide,rfl⟩
noncomputable def sp_tent (K:PySem.W.Frag):Sp:=fun vs H Q _=>∃ (a:Addr) (ns:List Int),vs=[.ref a]∧SqL K H a (ns.map V.int)∧ns.length≤63 ∧
 ∀ (p m r:Addr) (M:List (Option Nat)) (nms:List Int) (H':Hp),Same H H'→H' p=some (.tup [.ref m,.ref r])→H' m=some (.lst (M.map mV))→RowsAt H' r nms→TD M nms→M.length≤42→H m=none→H r=none→Q (.ref p) H'
section
variable {P:Program} {w:World} {K:PySem.W.Frag} {mg:Str→Option Value} {base:Heap} {t:Adr}
theorem sc_l_tent:FnScope ["_law_script","_law_head","_law_many","_law_names","_law_share","_law_mates","_law_step"] ["_law_script"] (defScope s_l_tent):=⟨rfl,rfl,rfl,by decide +kernel,rfl,by decide +kernel,by decide +kernel⟩
theorem ok_l_tent (T:Txt w K mg t):FnOk P w K mg base (CXr P w) 2 t.f_l_tent t.d_l_tent ["_law_script"] (sp_tent K):=by
 refine T.p_l_tent.F.okR sc_l_tent (fun vs H Q E h=>?_) (fun cdv A outer s H vs Q E hr h=>?_)
 ·obtain ⟨a,ns,rfl,_⟩:=h
  rfl
 ·obtain ⟨a,ns,rfl,hS,hl,k⟩:=h
  refine ⟨_,(pss_cons (ps_set (i:=1) sc_l_tent.nd rfl (Or.inl rfl) (pe_call (ok_l_cell T) (hr.mono (by decide)) rfl T.p_l_cell.g T.p_l_cell.F.kp T.p_l_cell.b .nil passR (pa_cons (pv 0) (pa_cons pe_int pa_nil))))
   (pss_cons (ps_set (i:=2) sc_l_tent.nd rfl (Or.inl rfl) (pe_op op_add pe_int (pe_op op_mod (pv 1) pe_int)))
   (pss_cons (ps_if (pt_cmpR op_eq (pe_op op_mod (pe_op op_fdiv (pv 1) pe_int) pe_int) pe_int (nomark _)) (pss_one (ps_set (i:=2) sc_l_tent.nd rfl (Or.inl rfl) (pe_op op_add pe_int (pe_op op_mod (pe_op op_fdiv (pv 1) pe_int) pe_int)))) pss_nil)
   (pss_cons (ps_set (i:=3) sc_l_tent.nd rfl (Or.inl rfl) (pe_call (ok_l_cell T) (hr.mono (by decide)) rfl T.p_l_cell.g T.p_l_cell.F.kp T.p_l_cell.b .nil passR (pa_cons (pv 0) (pa_cons pe_int pa_nil))))
   (pss_cons (ps_set (i:=4) sc_l_tent.nd rfl (Or.inl rfl) (pe_ix ix_tup (pe_tup (pa_cons pe_int (pa_cons pe_int (pa_cons pe_int (pa_cons pe_int pa_nil))))) (pe_op op_mod (pv 3) pe_int) (fun _ _=>rfl)))
   (pss_cons (ps_set (i:=5) sc_l_tent.nd rfl (Or.inl rfl) (pe_call (ok_l_sewn T) (hr.mono (by decide)) rfl T.p_l_sewn.g T.p_l_sewn.F.kp T.p_l_sewn.b .nil passR (pa_cons (pe_call (ok_l_numbers T) (hr.mono (by decide)) rfl T.p_l_numbers.g T.p_l_numbers.F.kp T.p_l_numbers.b .nil passR (pa_cons (pe_call (ok_l_cell T) (hr.mono (by decide)) rfl T.p_l_cell.g T.p_l_cell.F.kp T.p_l_cell.b .nil passR (pa_cons (pv 0) (pa_cons pe_int pa_nil))) (pa_cons pe_int pa_nil))) (pa_cons (pv 2) (pa_cons (pv 4) pa_nil)))))
   (pss_cons (ps_set (i:=6) sc_l_tent.nd rfl (Or.inl rfl) (pe_ix ix_tup (pe_tup (pa_cons pe_int (pa_cons pe_int (pa_cons pe_int (pa_cons pe_int (pa_cons pe_int (pa_cons pe_int (pa_cons pe_int (pa_cons pe_int pa_nil))))))))) (pe_op op_mod (pe_op op_fdiv (pv 3) pe_int) pe_int) (fun _ _=>rfl)))
   (pss_one (ps_ret (pe_tup (pa_cons (pv 5) (pa_cons (pe_call (ok_l_rows T) (hr.mono (by decide)) rfl T.p_l_rows.g T.p_l_rows.F.kp T.p_l_rows.b .nil passR (pa_cons (pv 5) (pa_cons (pe_op op_mod (pe_op op_fdiv (pv 3) pe_int) pe_int) (pa_cons (pv 6) pa_nil)))) pa_nil)))))))))))),?_⟩
  refine ⟨_,rfl,a,ns,0,rfl,hS,hl,by decide,by decide,?_⟩
  generalize cell ns 0=hd
  refine ⟨_,rfl,_,_,rfl,rfl,(by show (0:Int) < 6; decide),_,_,rfl,rfl,?_⟩
  dsimp only [gName]
  show tSeq (tIfS _ _ _) _ _ _ _
  refine seq_post (fun σ H1=>∃ n:Nat,1≤n∧n≤14∧σ=[some (.ref a),some (.int hd),some (.int n),none,none,none,none]∧H1=H) (fun nx hnx=>?_) ?_
  ·refine ⟨_,rfl,_,_,rfl,rfl,⟨by decide,by decide⟩,_,_,rfl,rfl,(by show (0:Int) < 9; decide),rfl,_,rfl,?_⟩
   refine ite2 (fun _=>?_) (fun _=>?_)
   ·refine ⟨_,rfl,_,_,rfl,rfl,⟨by decide,by decide⟩,_,_,rfl,rfl,(by show (0:Int) < 8; decide),_,_,rfl,rfl,?_⟩
    have e:(7 + hd / 54 % 8:Int)=((7 + (hd / 54 % 8).toNat:Nat):Int):=by omega
    exact hnx _ _ ⟨7 + (hd / 54 % 8).toNat,by omega,by omega,by rw [← e]; rfl,rfl⟩
   ·have e:(1 + hd % 6:Int)=((1 + (hd % 6).toNat:Nat):Int):=by omega
    exact hnx _ _ ⟨1 + (hd % 6).toNat,by omega,by omega,by rw [← e]; rfl,rfl⟩
  rintro σ H1 ⟨n,n1,n2,rfl,rfl⟩
  refine ⟨_,rfl,a,ns,2,rfl,hS,hl,by decide,by decide,?_⟩
  generalize cell ns 2=nam
  refine ⟨(by show 4≤sizeLine; decide),fun q hq=>?_⟩
  have m4:0≤nam % 4∧nam % 4 < 4:=by omega
  obtain ⟨sh,esh⟩:=at4 m4.1 m4.2
  refine ⟨_,rfl,_,_,rfl,rfl,(by show (0:Int) < 4; decide),q,_,_,_,rfl,rfl,SqT.of upd_same,esh,?_⟩
  have s1:Same H1 (upd H1 q (.tup [V.int 0,V.int 0,V.int 1,V.int 3])):=Same.new hq
  refine ⟨_,rfl,a,ns,1,rfl,s1.seq hS,hl,by decide,by decide,?_⟩
  refine ⟨_,60,rfl,by decide,fun p xs H2 s2 hp h2 h60 hx=>?_⟩
  refine ⟨_,rfl,_,rfl,p,xs,n,sh,rfl,h2,h60,hx,n1,n2,fun m M H3 s3 hm hM hlen hinv=>?_⟩
  have s13:Same H1 H3:=(s1.trans s2).trans s3
  have hm0:H1 m=none:=(s1.trans s2).free hm
  refine ⟨(by show 8≤sizeLine; decide),fun q2 hq2=>?_⟩
  have m8:0≤nam / 4 % 8∧nam / 4 % 8 < 8:=by omega
  obtain ⟨sp,hsp,esp⟩:=at8 m8.1 m8.2
  refine ⟨_,rfl,_,_,rfl,rfl,⟨by decide,by decide⟩,_,_,rfl,rfl,(by show (0:Int) < 8; decide),q2,_,_,_,rfl,rfl,SqT.of upd_same,esp,?_⟩
  have s14:Same H1 (upd H3 q2 (.tup [V.int 1,V.int 3,V.int 7,V.int 9,V.int 37,V.int 1009,V.int 3333,V.int 9999])):=Same.add s13 (s13.free hq2)
  have hM4:(upd H3 q2 (.tup [V.int 1,V.int 3,V.int 7,V.int 9,V.int 37,V.int 1009,V.int 3333,V.int 9999])) m=some (.lst (M.map mV)):=by rw [upd_ne (ne_of_none hM hq2)]; exact hM
  refine ⟨_,rfl,_,rfl,_,rfl,_,_,rfl,rfl,⟨by decide,by decide⟩,_,_,rfl,rfl,(by show (0:Int) < 10000; decide),_,rfl,m,M,n,_,sp,rfl,hM4,hlen,n1,n2,hinv,hsp,fun r H5 s5 hr5 hrow=>?_⟩
  refine ⟨(by show 2≤sizeLine; decide),fun p5 hp5=>?_⟩
  have s15:=s14.trans s5
  have hr0:H1 r=none:=s14.free hr5
  refine k p5 m r M _ _ (Same.add s15 (s15.free hp5)) upd_same ?_ (hrow.same (Same.new hp5)) (td_flat n1 n2 hlen hinv hsp) (by omega) hm0 hr0
  rw [upd_ne (ne_of_none (s5 _ _ hM4) hp5)]
  exact s5 _ _ hM4
end
end KT
set_option maxHeartbeats 4000000
namespace KT
open PySem L2
noncomputable def spk (ns:List Int) (n:Nat) (f:Int→Addr):List (Key × V):=(keys ns n).map fun x=>((Sum.inl x:Key),V.ref (f x))
structure SpotsF (H:Hp) (ns:List Int) (n:Nat) (f:Int→Addr):Prop where
 inj:∀ x∈keys ns n,∀ y∈keys ns n,f x=f y→x=y
 at':∀ x∈keys ns n,H (f x)=some (.lst ((pl ns n x).map nV))
noncomputable def sp_spots_of:Sp:=fun vs H Q _=>∃ (a:Addr) (M:List (Option Nat)) (ns:List Int),vs=[.ref a]∧H a=some (.lst (ns.map V.int))∧TD M ns∧ns.length≤120 ∧
 ∀ (d:Addr) (f:Int→Addr) (H':Hp),Same H H'→H d=none→H' d=some (.dK (spk ns ns.length f))→SpotsF H' ns ns.length f→(∀ x∈keys ns ns.length,H (f x)=none)→Q (.ref d) H'
section
variable {P:Program} {w:World} {K:PySem.W.Frag} {mg:Str→Option Value} {base:Heap} {t:Adr}
theorem sc_spots_of:FnScope ["names_at","spots","place","name"] ["names_at"] (defScope s_spots_of):=⟨rfl,rfl,rfl,by decide +kernel,rfl,by decide +kernel,by decide +kernel⟩
theorem ok_spots_of (T:Txt w K mg t):FnOk P w K mg base (CXr P w) 1 t.f_spots_of t.d_spots_of ["names_at"] sp_spots_of:=by
 refine T.p_spots_of.F.okR sc_spots_of (fun vs H Q E h=>?_) (fun cdv A outer s H vs Q E hr h=>?_)
 ·obtain ⟨a,M,ns,rfl,_⟩:=h
  rfl
 ·obtain ⟨a,M,ns,rfl,ha,td,hl,k⟩:=h
  have hu:=hu_of hr
  refine ⟨_,(pss_cons (ps_set (i:=1) sc_spots_of.nd rfl (Or.inl rfl) pe_dnewK)
   (pss_cons (ps_for PassesOwn.never rfl (pi_enum rfl T.n_enumerate (pa_cons (pv 0) pa_nil)) (pg_tup rfl (pgs_cons (pg_name (i:=2) sc_spots_of.nd rfl (Or.inl rfl)) (pgs_cons (pg_name (i:=3) sc_spots_of.nd rfl (Or.inl rfl)) pgs_nil))) (pss_cons (ps_if (PW.pt (pw_or (pt_cmpR op_lt (pv 3) pe_int (nomark _)) (pw_or1 (pt_cmpR op_gt (pv 3) (pe_glob (v:=.int 9999) rfl T.c_GREATEST_NAME ⟨_,rfl⟩) (nomark _))))) pss_never pss_nil)
   (pss_cons (ps_expr (pe_bm PySem.F.plainAttrs_list PySem.F.slot_list_append PySem.F.type_list_append mt_append (pe_dsetd (pv 1) (pv 3) (pe_lst pa_nil) ⟨rfl,rfl,rfl,rfl⟩) (pa_cons (pv 2) pa_nil)))
   (pss_one (ps_if (pt_cmpR op_gt (pe_callB call_len_seq (by rfl) T.n_len PySem.boot_len (pa_cons (pe_dget hu (pv 1) (pv 3) (fun _ _=>rfl)) pa_nil)) pe_int (nomark _)) pss_never pss_nil)))))
   (pss_one (ps_ret (pv 1))))),?_⟩
  intro d hd
  have hda:a≠d:=ne_of_none ha hd
  dsimp only [gName]
  show tSeq (tFor _ _ _) _ _ _ _
  refine seq_post (fun σ H1=>∃ (f:Int→Addr) (v2 v3:Option V),σ=[some (.ref a),some (.ref d),v2,v3]∧Same H H1∧H1 d=some (.dK (spk ns ns.length f))∧SpotsF H1 ns ns.length f∧∀ x∈keys ns ns.length,H (f x)=none) (fun nx hnx=>?_) ?_
  ·refine ⟨_,rfl,a,rfl,⟨_,SqL.of (by rw [upd_ne hda]; exact ha)⟩,?_⟩
   have el:(ns.map V.int).length=ns.length:=by simp
   refine for_enum (xs:=ns.map V.int) (fun i σ H1=>∃ (f:Int→Addr) (v2 v3:Option V),σ=[some (.ref a),some (.ref d),v2,v3]∧Same H H1∧H1 d=some (.dK (spk ns i f))∧SpotsF H1 ns i f∧∀ x∈keys ns i,H (f x)=none)
    ⟨fun _=>0,none,none,rfl,Same.new hd,upd_same,⟨fun x hx=>by simp [keys] at hx,fun x hx=>by simp [keys] at hx⟩,fun x hx=>by simp [keys] at hx⟩ ?_ ?_ ?_
   ·rintro i σ H1 _ ⟨f,v2,v3,rfl,sm,_⟩
    exact SqL.of (sm _ _ ha)
   ·rintro i x0 σ H1 q hx hq ⟨f,v2,v3,rfl,sm,hd1,sf,hf0⟩
    have hi:i < ns.length:=by rw [← el]; exact (List.getElem?_eq_some_iff.mp hx).1
    obtain ⟨x,hx'⟩:∃ x,ns[i]?=some x:=⟨_,List.getElem?_eq_getElem hi⟩
    obtain rfl:x0=V.int x:=by rw [List.getElem?_map,hx'] at hx; exact (Option.some.inj hx).symm
    refine ⟨q,_,rfl,SqT.of upd_same,rfl,_,_,rfl,_,_,rfl,rfl,?_⟩
    obtain ⟨x0,x1⟩:=td.rng i x hx'
    refine ⟨_,rfl,_,_,rfl,rfl,_,rfl,?_⟩
    rw [decide_eq_false (by omega:¬ x < 0)]
    refine iteF ?_
    refine ⟨_,rfl,_,_,rfl,rfl,_,rfl,?_⟩
    rw [decide_eq_false (by omega:¬ x > 9999)]
    refine iteF ?_
    have hdq:d≠q:=ne_of_none hd1 hq
    have hd2:(upd H1 q (.tup [.int i,.int x])) d=some (.dK (spk ns i f)):=by rw [upd_ne hdq]; exact hd1
    dsimp only [tNext]
    show tSeq (tDrop _) _ _ _ _
    refine seq_post (fun σ H2=>∃ (f:Int→Addr),σ=[some (.ref a),some (.ref d),some (.int i),some (.int x)]∧Same H H2∧H2 d=some (.dK (spk ns (i + 1) f))∧SpotsF H2 ns (i + 1) f∧∀ x∈keys ns (i + 1),H (f x)=none) (fun nx2 hnx2=>?_) ?_
    ·refine ⟨_,rfl,d,rfl,.inl ⟨_,.inl hd2⟩,_,rfl,Nat.zero_le _,fun l hl'=>?_⟩
     obtain ⟨hlq,hl1⟩:=upd_none hl'
     have hdl:d≠l:=ne_of_none hd1 hl1
     have hd3:(upd (upd H1 q (.tup [.int i,.int x])) l (.lst [])) d=some (.dK (spk ns i f)):=by rw [upd_ne hdl]; exact hd2
     have hlk:(spk ns i f).length < sizeLine:=by unfold spk; rw [List.length_map]; exact small1000 (by have:=keys_len ns i; omega)
     have hq0:H q=none:=sm.free hq
     have hl0:H l=none:=sm.free hl1
     have smq:Same H (upd (upd H1 q (.tup [.int i,.int x])) l (.lst [])):=Same.add (Same.add sm hq0) hl0
     have hp2:(pl ns i x).length < sizeLine:=small1000 (by have:=pl_le2 td i x; omega)
     have old:∀ b u,H1 b=some u→(upd (upd H1 q (.tup [.int i,.int x])) l (.lst [])) b=some u:=fun b u e=>by rw [upd_ne (ne_of_none e hl1),upd_ne (ne_of_none e hq)]; exact e
     refine ⟨spk ns i f,Sum.inl x,hd3,hlk,rfl,fun v hv=>?_,fun hv=>?_⟩
     ·-- the name stands already
      have hx2:x∈keys ns i:=by
       unfold spk at hv
       rw [val_map] at hv
       by_cases c:x∈keys ns i
       ·exact c
       ·rw [if_neg c] at hv; cases hv
      obtain rfl:v=V.ref (f x):=by
       unfold spk at hv
       rw [val_map,if_pos hx2] at hv
       exact (Option.some.inj hv).symm
      have ek:keys ns (i + 1)=keys ns i:=by rw [keys_step hx',if_pos hx2]
      have hfx:=old _ _ (sf.at' x hx2)
      refine ⟨.inl ⟨rfl,_,SqL.of hfx⟩,_,rfl,f x,_,_,rfl,rfl,hfx,by rw [List.length_map]; exact hp2,hnx2 _ _ ⟨f,rfl,Same.add smq (hf0 x hx2),?_,⟨?_,?_⟩,?_⟩⟩
      ·have:d≠f x:=fun z=>by rw [← z,hd3] at hfx; cases hfx
       rw [upd_ne this,hd3]
       unfold spk
       rw [ek]
      ·rw [ek]; exact sf.inj
      ·intro y hy
       rw [ek] at hy
       by_cases c:y=x
       ·subst c
        rw [upd_same,pl_same hx',List.map_append]
        rfl
       ·have:f y≠f x:=fun z=>c (sf.inj y hy x hx2 z)
        rw [upd_ne this,old _ _ (sf.at' y hy),pl_other (by rw [hx']; intro z; cases z; exact c rfl)]
      ·rw [ek]; exact hf0
     ·-- a new name
      have hx2:x ∉ keys ns i:=by
       intro c
       unfold spk at hv
       rw [val_map,if_pos c] at hv
       cases hv
      have ek:keys ns (i + 1)=keys ns i ++ [x]:=by rw [keys_step hx',if_neg hx2]
      have ep:putK (spk ns i f) (Sum.inl x) (V.ref l)=spk ns (i + 1) (fun y=>if y=x then l else f y):=by
       unfold spk
       rw [put_new hx2,ek,List.map_append]
       congr 1
       ·apply List.map_congr_left
        intro y hy
        dsimp only
        rw [if_neg (fun (z:y=x)=>hx2 (z ▸ hy))]
       ·simp
      rw [ep]
      have hl4:(upd (upd (upd H1 q (.tup [.int i,.int x])) l (.lst [])) d (.dK (spk ns (i + 1) (fun y=>if y=x then l else f y)))) l=some (.lst []):=by rw [upd_ne (Ne.symm hdl),upd_same]
      refine ⟨.inl ⟨rfl,_,SqL.of hl4⟩,_,rfl,l,_,_,rfl,rfl,hl4,by decide,hnx2 _ _ ⟨fun y=>if y=x then l else f y,rfl,Same.add (Same.add smq hd) hl0,?_,⟨?_,?_⟩,?_⟩⟩
      ·rw [upd_ne hdl,upd_same]
      ·intro y hy z hz e
       rw [ek,List.mem_append,List.mem_singleton] at hy hz
       by_cases c1:y=x
       ·by_cases c2:z=x
        ·rw [c1,c2]
        ·have hz':=hz.resolve_right c2
         simp only [c1,c2,if_true,if_false] at e
         exact absurd (sf.at' z hz') (by rw [← e,hl1]; intro w; cases w)
       ·have hy':=hy.resolve_right c1
        by_cases c2:z=x
        ·simp only [c1,c2,if_true,if_false] at e
         exact absurd (sf.at' y hy') (by rw [e,hl1]; intro w; cases w)
        ·have hz':=hz.resolve_right c2
         simp only [c1,c2,if_false] at e
         exact sf.inj y hy' z hz' e
      ·intro y hy
       rw [ek,List.mem_append,List.mem_singleton] at hy
       by_cases c:y=x
       ·subst c
        simp only [if_true]
        rw [upd_same,pl_same hx',pl_nil hx2]
        rfl
       ·have hy':=hy.resolve_right c
        have e1:=sf.at' y hy'
        have n1:f y≠l:=ne_of_none e1 hl1
        have n2:f y≠d:=fun z=>by rw [z,hd1] at e1; cases e1
        simp only [c,if_false]
        rw [upd_ne n1,upd_ne n2,old _ _ e1,pl_other (by rw [hx']; intro z; cases z; exact c rfl)]
      ·intro y hy
       rw [ek,List.mem_append,List.mem_singleton] at hy
       by_cases c:y=x
       ·simp only [c,if_true]; exact hl0
       ·simp only [c,if_false]; exact hf0 y (hy.resolve_right c)
    rintro σ H2 ⟨f',rfl,sm2,hd4,sf2,hf2⟩
    have hx3:x∈keys ns (i + 1):=keys_mem.mpr ⟨i,by omega,hx'⟩
    have hg:valV (spk ns (i + 1) f') (Sum.inl x)=some (V.ref (f' x)):=by unfold spk; rw [val_map,if_pos hx3]
    refine ⟨_,rfl,_,rfl,d,_,rfl,?_,f' x,_,rfl,.inl (SqL.of (sf2.at' x hx3)),_,_,rfl,rfl,_,rfl,?_⟩
    ·exact .inl ⟨_,Sum.inl x,.inl hd4,rfl,hg.symm⟩
    have h2:=pl_le2 td (i + 1) x
    rw [decide_eq_false (by rw [List.length_map]; omega:¬ ((((pl ns (i + 1) x).map nV).length:Nat):Int) > 2)]
    refine iteF ?_
    exact ⟨f',_,_,rfl,sm2,hd4,sf2,hf2⟩
   ·rintro σ H1 ⟨f,v2,v3,rfl,sm,hd1,sf,hf0⟩
    rw [el] at hd1 sf hf0
    exact hnx _ _ ⟨f,v2,v3,rfl,sm,hd1,sf,hf0⟩
  rintro σ H1 ⟨f,v2,v3,rfl,sm,hd1,sf,hf0⟩
  exact ⟨_,rfl,k d f H1 sm hd hd1 sf hf0⟩
noncomputable def sp_mates_of:Sp:=fun vs H Q _=>∃ (d:Addr) (M:List (Option Nat)) (ns:List Int) (f:Int→Addr),vs=[.ref d,.int ns.length]∧H d=some (.dK (spk ns ns.length f))∧SpotsF H ns ns.length f∧TD M ns∧ns.length≤120 ∧
 ∀ (m:Addr) (o:Obj) (H':Hp),(∀ b u,b≠d→H b=some u→H' b=some u)→H m=none→H' m=some (.lst (M.map mV))→H' d=some (.frz o (.dK (spk ns ns.length f)))→Q (.ref m) H'
theorem sc_mates_of:FnScope ["spots","count","mates","pair"] ["spots","count"] (defScope s_mates_of):=⟨rfl,rfl,rfl,by decide +kernel,rfl,by decide +kernel,by decide +kernel⟩
theorem ok_mates_of (T:Txt w K mg t):FnOk P w K mg base (CXr P w) 1 t.f_mates_of t.d_mates_of ["spots","count"] sp_mates_of:=by
 refine T.p_mates_of.F.okR sc_mates_of (fun vs H Q E h=>?_) (fun cdv A outer s H vs Q E hr h=>?_)
 ·obtain ⟨d,M,ns,f,rfl,_⟩:=h
  rfl
 ·obtain ⟨d,M,ns,f,rfl,hd,sf,td,hl,k⟩:=h
  refine ⟨_,(pss_cons (ps_set (i:=2) sc_mates_of.nd rfl (Or.inl rfl) (pe_op op_rep (pe_lst (pa_cons pe_non pa_nil)) (pv 1)))
   (pss_cons (ps_for PassesOwn.never rfl (pi_vals (pv 0) ⟨rfl,rfl,rfl⟩) (pg_name (i:=3) sc_mates_of.nd rfl (Or.inl rfl)) (pss_one (ps_if (pt_cmpR op_eq (pe_callB call_len_seq (by rfl) T.n_len PySem.boot_len (pa_cons (pv 3) pa_nil)) pe_int (nomark _)) (pss_cons (ps_asg (pe_ix ix_list (pv 3) pe_int (fun _ _=>rfl)) (pg_sub (pv 2) (pe_ix ix_list (pv 3) pe_int (fun _ _=>rfl)) set_list))
   (pss_one (ps_asg (pe_ix ix_list (pv 3) pe_int (fun _ _=>rfl)) (pg_sub (pv 2) (pe_ix ix_list (pv 3) pe_int (fun _ _=>rfl)) set_list)))) pss_nil)))
   (pss_one (ps_ret (pv 2))))),?_⟩
  refine ⟨(by show 1≤sizeLine; decide),fun q hq=>?_⟩
  refine ⟨_,rfl,q,_,_,rfl,rfl,upd_same,by omega,by omega,?_,fun m hm=>?_⟩
  ·have:((ns.length:Nat):Int).toNat=ns.length:=by omega
   show 1 * ((ns.length:Nat):Int).toNat≤sizeLine
   rw [this,sizeLine_eq]; omega
  obtain ⟨hmq,hm0⟩:=upd_none hm
  have eM:(List.replicate ((ns.length:Nat):Int).toNat [V.non]).flatten=(part M ns []).map mV:=by
   have:((ns.length:Nat):Int).toNat=M.length:=by rw [← td.len]; omega
   rw [this,List.flatten_replicate_singleton,part_nil td,List.map_replicate]
   rfl
  rw [eM]
  have hdm:d≠m:=ne_of_none hd hm0
  have hdq:d≠q:=ne_of_none hd hq
  dsimp only [gName]
  show tSeq (tFor _ _ _) _ _ _ _
  refine seq_post (fun σ H1=>∃ (o:Obj) (v:Option V),σ=[some (.ref d),some (.int ns.length),some (.ref m),v]∧(∀ b u,b≠d→H b=some u→H1 b=some u)∧H1 m=some (.lst (M.map mV))∧H1 d=some (.frz o (.dK (spk ns ns.length f)))) (fun nx hnx=>?_) ?_
  ·refine ⟨_,rfl,d,_,rfl,.inl ⟨by rw [upd_ne hdm,upd_ne hdq]; exact hd,fun o=>?_⟩⟩
   refine for_vals (fun j σ H1=>∃ (v:Option V),σ=[some (.ref d),some (.int ns.length),some (.ref m),v]∧(∀ b u,b≠d→H b=some u→H1 b=some u)∧H1 m=some (.lst ((part M ns ((keys ns ns.length).take j)).map mV))∧H1 d=some (.frz o (.dK (spk ns ns.length f))))
    ⟨none,rfl,fun b u hb e=>?_,?_,upd_same⟩ ?_ ?_ ?_
   ·rw [upd_ne hb,upd_ne (ne_of_none e hm0),upd_ne (ne_of_none e hq)]; exact e
   ·rw [upd_ne (Ne.symm hdm),upd_same]
    rfl
   ·rintro j σ H1 _ ⟨v,rfl,old,h1,h2⟩
    exact h2
   ·rintro j k0 x0 σ H1 hk ⟨v,rfl,old,h1,h2⟩
    obtain ⟨x,hx,rfl⟩:∃ x,(keys ns ns.length)[j]?=some x∧x0=V.ref (f x):=by
     unfold spk at hk
     rw [List.getElem?_map] at hk
     cases e:(keys ns ns.length)[j]? with
     | none=>rw [e] at hk; cases hk
     | some x=>rw [e] at hk; cases hk; exact ⟨x,rfl,rfl⟩
    have hm1:x∈keys ns ns.length:=List.mem_of_getElem? hx
    have et:(keys ns ns.length).take (j + 1)=(keys ns ns.length).take j ++ [x]:=by
     rw [List.take_add_one,hx]; rfl
    have hfx:=sf.at' x hm1
    have hfd:f x≠d:=fun z=>by rw [z,hd] at hfx; cases hfx
    have hf1:=old _ _ hfd hfx
    dsimp only [gName]
    refine ⟨_,rfl,f x,_,rfl,.inl (SqL.of hf1),rfl,_,rfl,?_⟩
    rcases pl_cases td hm1 with ⟨a,e,ea,ma⟩ | ⟨a,b,hab,e,ea,eb,ma,mb⟩
    ·rw [e] at hf1 ⊢
     refine iteF ?_
     refine ⟨_,rfl,old,?_,h2⟩
     rw [et,part_rim td e ma]
     exact h1
    ·rw [e] at hf1 ⊢
     refine iteT ?_
     have la:a < (part M ns ((keys ns ns.length).take j)).length:=by rw [part_len]; exact (List.getElem?_eq_some_iff.mp ma).1
     have lb:b < (part M ns ((keys ns ns.length).take j)).length:=by rw [part_len]; exact (List.getElem?_eq_some_iff.mp mb).1
     have hfm:f x≠m:=ne_of_none hfx hm0
     refine ⟨_,rfl,f x,_,_,_,rfl,rfl,SqL.of hf1,rfl,?_⟩
     refine ⟨_,rfl,_,rfl,f x,_,_,_,rfl,rfl,SqL.of hf1,rfl,m,_,_,a,rfl,rfl,h1,(by rw [List.length_map]; exact ixN_nat la),?_⟩
     have hf2:(upd H1 m (.lst (((part M ns ((keys ns ns.length).take j)).map mV).set a (nV b)))) (f x)=some (.lst ([a,b].map nV)):=by rw [upd_ne hfm]; exact hf1
     refine ⟨_,rfl,f x,_,_,_,rfl,rfl,SqL.of hf2,rfl,?_⟩
     refine ⟨_,rfl,_,rfl,f x,_,_,_,rfl,rfl,SqL.of hf2,rfl,m,_,_,b,rfl,rfl,upd_same,(by rw [List.length_set,List.length_map]; exact ixN_nat lb),?_⟩
     refine ⟨_,rfl,fun c u hc ec=>?_,?_,?_⟩
     ·have:c≠m:=ne_of_none ec hm0
      rw [upd_ne this,upd_ne this]
      exact old c u hc ec
     ·rw [upd_same,et,part_sewn td e hab ma mb]
      show some (HO.lst ((((part M ns ((keys ns ns.length).take j)).map mV).set a (mV (some b))).set b (mV (some a))))=_
      rw [map_set,map_set]
     ·rw [upd_ne hdm,upd_ne hdm]; exact h2
   ·rintro σ H1 ⟨v,rfl,old,h1,h2⟩
    refine hnx _ _ ⟨o,v,rfl,old,?_,h2⟩
    have:(keys ns ns.length).take (spk ns ns.length f).length=keys ns ns.length:=by
     unfold spk; rw [List.length_map,List.take_length]
    rw [this,part_all td] at h1
    exact h1
  rintro σ H1 ⟨o,v,rfl,old,h1,h2⟩
  exact ⟨_,rfl,k m o H1 old hm0 h1 h2⟩
end
end KT
set_option maxHeartbeats 4000000
namespace KT
open PySem L2
noncomputable def tflds (cl na sp mt:Addr):List (Str × V):=putF "mates" (.ref mt) (putF "spots" (.ref sp) (putF "names_at" (.ref na) (putF "cloths" (.ref cl) [])))
theorem len_putF (f:Str) (v:V):∀ fs:List (Str × V),(putF f v fs).length≤fs.length + 1
 | []=>by simp [putF]
 | (g,x) :: r=>by
  have:=len_putF f v r
  unfold putF
  split
  ·simp
  ·simp only [List.length_cons]; omega
theorem s_cn:¬ ("cloths":Str)="names_at":=by decide
theorem s_cs:¬ ("cloths":Str)="spots":=by decide
theorem s_cm:¬ ("cloths":Str)="mates":=by decide
theorem s_ns:¬ ("names_at":Str)="spots":=by decide
theorem s_nm:¬ ("names_at":Str)="mates":=by decide
theorem s_sm:¬ ("spots":Str)="mates":=by decide
theorem fl_cloths (cl na sp mt:Addr):(tflds cl na sp mt).lookup ("cloths":Str)=some (.ref cl):=by
 unfold tflds; rw [lookup_putF,if_neg s_cm,lookup_putF,if_neg s_cs,lookup_putF,if_neg s_cn,lookup_putF,if_pos rfl]
theorem fl_names (cl na sp mt:Addr):(tflds cl na sp mt).lookup ("names_at":Str)=some (.ref na):=by
 unfold tflds; rw [lookup_putF,if_neg s_nm,lookup_putF,if_neg s_ns,lookup_putF,if_pos rfl]
theorem fl_spots (cl na sp mt:Addr):(tflds cl na sp mt).lookup ("spots":Str)=some (.ref sp):=by
 unfold tflds; rw [lookup_putF,if_neg s_sm,lookup_putF,if_pos rfl]
theorem fl_mates (cl na sp mt:Addr):(tflds cl na sp mt).lookup ("mates":Str)=some (.ref mt):=by
 unfold tflds; rw [lookup_putF,if_pos rfl]
theorem fl_none (cl na sp mt:Addr) {m:Str} (h:m≠"cloths"∧m≠"names_at"∧m≠"spots"∧m≠"mates":=by decide):(tflds cl na sp mt).lookup m=none:=by
 obtain ⟨h1,h2,h3,h4⟩:=h
 unfold tflds; rw [lookup_putF,if_neg h4,lookup_putF,if_neg h3,lookup_putF,if_neg h2,lookup_putF,if_neg h1]; rfl
structure TentB (C:Addr) (H:Hp) (p:Addr) (M:List (Option Nat)) (ns:List Int) (dx cl na sp mt:Addr) (o:Obj) (f:Int→Addr):Prop where
 ins:H p=some (.ins C dx (tflds cl na sp mt))
 rows:RowsAt H cl ns
 names:H na=some (.lst (ns.map V.int))
 spots:H sp=some (.frz o (.dK (spk ns ns.length f)))
 mates:H mt=some (.lst (M.map mV))
 at':∀ x∈keys ns ns.length,H (f x)=some (.lst ((pl ns ns.length x).map nV))
noncomputable def TentAt (C:Addr) (H:Hp) (p:Addr) (M:List (Option Nat)) (ns:List Int):Prop:=∃ dx cl na sp mt o f,TentB C H p M ns dx cl na sp mt o f
theorem TentAt.same {C:Addr} {H H':Hp} {p:Addr} {M:List (Option Nat)} {ns:List Int} (h:TentAt C H p M ns) (s:Same H H'):TentAt C H' p M ns:=by
 obtain ⟨dx,cl,na,sp,mt,o,f,b⟩:=h
 exact ⟨dx,cl,na,sp,mt,o,f,s _ _ b.ins,b.rows.same s,s _ _ b.names,s _ _ b.spots,s _ _ b.mates,fun x hx=>s _ _ (b.at' x hx)⟩
theorem take_row {ns:List Int} {k n:Nat} (h:ns.length=3 * n) (hk:k < n):(ns.take (3 * k)).map V.int ++ row3 ns k=(ns.take (3 * (k + 1))).map V.int:=by
 have e:ns.take (3 * (k + 1))=ns.take (3 * k) ++ [ns.getD (3 * k) 0,ns.getD (3 * k + 1) 0,ns.getD (3 * k + 2) 0]:=by
  have l0:3 * k < ns.length:=by omega
  have l1:3 * k + 1 < ns.length:=by omega
  have l2:3 * k + 2 < ns.length:=by omega
  have g:∀ i,i < ns.length→ns[i]?=some (ns.getD i 0):=fun i hi=>by rw [List.getD_eq_getElem?_getD,List.getElem?_eq_getElem hi]; rfl
  rw [show 3 * (k + 1)=3 * k + 1 + 1 + 1 by omega,List.take_add_one,List.take_add_one,List.take_add_one,g _ l0,g _ l1,g _ l2,List.append_assoc,List.append_assoc]
  rfl
 rw [e,List.map_append]
 rfl
noncomputable def sp_Tent_init (C:Addr):Sp:=fun vs H Q _=>∃ (p r dx:Addr) (M:List (Option Nat)) (ns:List Int),vs=[.ref p,.ref r]∧H p=some (.ins C dx [])∧RowsAt H r ns∧TD M ns∧ns.length≤120 ∧
 ∀ (H':Hp),(∀ b u,b≠p→H b=some u→H' b=some u)→TentAt C H' p M ns→Q .non H'
section
variable {P:Program} {w:World} {K:PySem.W.Frag} {mg:Str→Option Value} {base:Heap} {t:Adr}
theorem sc_Tent_init:FnScope ["self","rows"] ["self","rows"] (defScope s_Tent_init):=⟨rfl,rfl,rfl,by decide +kernel,rfl,by decide +kernel,by decide +kernel⟩
theorem ok_Tent_init (T:Txt w K mg t):FnOk P w K mg base (CXr P w) 2 t.f_Tent_init t.d_Tent_init ["self","rows"] (sp_Tent_init t.C_Tent):=by
  refine T.p_Tent_init.F.okR sc_Tent_init (fun vs H Q E h=>?_) (fun cdv A outer s H vs Q E hr h=>?_)
  · obtain ⟨p,r,dx,M,ns,rfl,_⟩:=h
    rfl
  · obtain ⟨p,r,dx,M,ns,rfl,hp,⟨ts,hr1,hr2,hr3⟩,td,hl,k⟩:=h
    refine ⟨_,(pss_cons (ps_if (pt_not (pt_truth (pv 1) (fun _=>rfl))) pss_never pss_nil)
      (pss_cons (ps_fld (pv 0) (pe_compG (ts:=["row"]) (fv:=[]) ⟨rfl,by decide +kernel,by decide +kernel,blkFree (by rfl),trivial⟩ rfl (pi_list (pv 1)) (fun _ _ _ _=>(pg_name (i:=0) (show List.Nodup (["row"]:List Str) from by decide +kernel) rfl (Or.inl rfl) (Or.inr rfl))) (fun _ _ _ _=>pts_nil) (fun _ _ _=>rfl) (fun _ _ _ _ _ _=>pb_emit (pe_callTy (call_tuple_ofK K) (by rfl) T.n_tuple PySem.Pv.boot_tuple (pa_cons (pv 0) pa_nil)))) rfl)
      (pss_cons (ps_fld (pv 0) (pe_compG (ts:=["row","name"]) (fv:=[]) ⟨rfl,by decide +kernel,by decide +kernel,blkFree (by rfl),trivial⟩ rfl (pi_list (pe_fld (pv 0) rfl)) (fun _ _ _ _=>(pg_name (i:=0) (show List.Nodup (["row","name"]:List Str) from by decide +kernel) rfl (Or.inl rfl) (Or.inr rfl))) (fun _ _ _ _=>pts_nil) (fun _ _ _=>rfl) (fun _ _ _ _ _ _=>pb_gen rfl rfl (pi_tupK K (pv 0)) (pg_name (i:=1) (show List.Nodup (["row","name"]:List Str) from by decide +kernel) rfl (Or.inl rfl) (Or.inr rfl)) pts_nil (pv 1))) rfl)
      (pss_cons (ps_fld (pv 0) (pe_call (ok_spots_of T) (hr.mono (by decide)) rfl T.p_spots_of.g T.p_spots_of.F.kp T.p_spots_of.b .nil passR (pa_cons (pe_fld (pv 0) rfl) pa_nil)) rfl)
      (pss_one (ps_fld (pv 0) (pe_call (ok_mates_of T) (hr.mono (by decide)) rfl T.p_mates_of.g T.p_mates_of.F.kp T.p_mates_of.b .nil passR (pa_cons (pe_fld (pv 0) rfl) (pa_cons (pe_callB call_len_seq (by rfl) T.n_len PySem.boot_len (pa_cons (pe_fld (pv 0) rfl) pa_nil)) pa_nil))) rfl)))))),?_⟩
    obtain ⟨n,n1,n2,hn⟩:=td.n
    have hnn:ns.length=3 * n:=by rw [td.len,hn]
    have htn:ts.length=n:=by omega
    have hrp:r≠p:=fun z=>by rw [z,hp] at hr1; cases hr1
    refine ⟨_,rfl,true,.inl ⟨_,SqL.of hr1,?_⟩,?_⟩
    · cases ts with
      | nil=>simp at htn; omega
      | cons _ _=>rfl
    refine iteF ?_
    dsimp only [tNext]
    refine ⟨_,rfl,r,rfl,⟨_,SqL.of hr1⟩,fun D hD=>?_⟩
    have hDp:D≠p:=fun z=>by rw [z,hp] at hD; cases hD
    refine loop_list (xs:=ts.map V.ref) (fun i σ H1=>∃ (v:Option V),σ=[v]∧Same H H1∧H1 D=some (.lst ((ts.take i).map V.ref))) ⟨none,rfl,Same.new hD,upd_same⟩ ?_ ?_ ?_
    · rintro i σ H1 _ ⟨v,rfl,sm,h1⟩
      exact SqL.of (sm _ _ hr1)
    · rintro i x σ H1 hx ⟨v,rfl,sm,h1⟩
      dsimp only [gName,tYes]
      rw [if_pos rfl]
      obtain ⟨tt,ht,rfl⟩:=map_some hx
      refine ⟨_,rfl,tt,_,rfl,.inr ⟨SqT.of (sm _ _ (hr3 i tt ht)),_,h1,(by rw [List.length_map,List.length_take]; exact small1000 (by omega)),_,rfl,Same.add sm hD,?_⟩⟩
      rw [upd_same,List.take_add_one,ht,List.map_append]
      rfl
    rintro σ H1 ⟨v,rfl,sm1,h1⟩
    rw [List.length_map,List.take_length] at h1
    have hp1:=sm1 _ _ hp
    refine ⟨_,rfl,p,_,dx,_,rfl,hp1,T.cl_Tent,T.a_Tent_cloths,by decide,?_⟩
    have old2:∀ b u,b≠p→H b=some u→(upd H1 p (.ins t.C_Tent dx (putF "cloths" (.ref D) []))) b=some u:=fun b u hb e=>by rw [upd_ne hb]; exact sm1 b u e
    have hD2:(upd H1 p (.ins t.C_Tent dx (putF "cloths" (.ref D) []))) D=some (.lst (ts.map V.ref)):=by rw [upd_ne hDp]; exact h1
    have hp2:(upd H1 p (.ins t.C_Tent dx (putF "cloths" (.ref D) []))) p=some (.ins t.C_Tent dx (putF "cloths" (.ref D) [])):=upd_same
    have ht2:∀ (k:Nat) (q:Addr),ts[k]?=some q→(upd H1 p (.ins t.C_Tent dx (putF "cloths" (.ref D) []))) q=some (.tup (row3 ns k)):=fun k q e=>by
      have e1:=hr3 k q e
      have:q≠p:=fun z=>by rw [z,hp] at e1; cases e1
      exact old2 q _ this e1
    generalize upd H1 p (.ins t.C_Tent dx (putF "cloths" (.ref D) []))=H2 at old2 hD2 hp2 ht2 ⊢
    refine ⟨_,rfl,p,_,dx,_,_,rfl,hp2,T.cl_Tent,T.a_Tent_cloths,rfl,D,rfl,⟨_,SqL.of hD2⟩,fun N hN=>?_⟩
    have hND:N≠D:=fun z=>by rw [z,hD2] at hN; cases hN
    have hNp:N≠p:=fun z=>by rw [z,hp2] at hN; cases hN
    refine loop_list (xs:=ts.map V.ref) (fun i σ H3=>∃ (v v':Option V),σ=[v,v']∧Same H2 H3∧H3 N=some (.lst ((ns.take (3 * i)).map V.int))) ⟨none,none,rfl,Same.new hN,upd_same⟩ ?_ ?_ ?_
    · rintro i σ H3 _ ⟨v,v',rfl,sm,h3⟩
      exact SqL.of (sm _ _ hD2)
    · rintro i x σ H3 hx ⟨v,v',rfl,sm,h3⟩
      dsimp only [gName,tYes]
      rw [if_pos rfl]
      obtain ⟨tt,ht,rfl⟩:=map_some hx
      have hi:i < n:=by rw [← htn]; exact (List.getElem?_eq_some_iff.mp ht).1
      refine ⟨_,rfl,tt,rfl,⟨_,SqT.of (sm _ _ (ht2 i tt ht))⟩,?_⟩
      refine loop_tup (xs:=row3 ns i) (fun j σ H4=>∃ (v':Option V),σ=[some (.ref tt),v']∧Same H2 H4∧H4 N=some (.lst ((ns.take (3 * i)).map V.int ++ (row3 ns i).take j))) ⟨v',rfl,sm,by rw [h3,List.take_zero,List.append_nil]⟩ ?_ ?_ ?_
      · rintro j σ H4 _ ⟨v',rfl,sm,h4⟩
        exact SqT.of (sm _ _ (ht2 i tt ht))
      · rintro j x σ H4 hx ⟨v',rfl,sm,h4⟩
        dsimp only [gName,tYes]
        rw [if_pos rfl]
        refine ⟨_,rfl,_,h4,?_,_,rfl,Same.add sm hN,?_⟩
        · rw [List.length_append,List.length_map,List.length_take,List.length_take]
          exact small1000 (by have:(row3 ns i).length=3:=rfl; omega)
        · rw [upd_same,List.take_add_one,hx,← List.append_assoc]
          rfl
      · rintro σ H4 ⟨v',rfl,sm,h4⟩
        refine ⟨_,_,rfl,sm,?_⟩
        rw [h4,List.take_length,take_row hnn hi]
    rintro σ H3 ⟨v,v',rfl,sm3,h3⟩
    have eall:ns.take (3 * (ts.map V.ref).length)=ns:=by rw [List.length_map,htn,← hnn,List.take_length]
    rw [eall] at h3
    have hp3:=sm3 _ _ hp2
    refine ⟨_,rfl,p,_,dx,_,rfl,hp3,T.cl_Tent,T.a_Tent_names_at,(by have h1:=len_putF "cloths" (.ref D) []; simp only [List.length_nil] at h1; omega),?_⟩
    have old4:∀ b u,b≠p→H2 b=some u→(upd H3 p (.ins t.C_Tent dx (putF "names_at" (.ref N) (putF "cloths" (.ref D) [])))) b=some u:=fun b u hb e=>by rw [upd_ne hb]; exact sm3 b u e
    have hN4:(upd H3 p (.ins t.C_Tent dx (putF "names_at" (.ref N) (putF "cloths" (.ref D) [])))) N=some (.lst (ns.map V.int)):=by rw [upd_ne hNp]; exact h3
    have hp4:(upd H3 p (.ins t.C_Tent dx (putF "names_at" (.ref N) (putF "cloths" (.ref D) [])))) p=some (.ins t.C_Tent dx (putF "names_at" (.ref N) (putF "cloths" (.ref D) []))):=upd_same
    generalize upd H3 p (.ins t.C_Tent dx (putF "names_at" (.ref N) (putF "cloths" (.ref D) [])))=H4 at old4 hN4 hp4 ⊢
    have lk1:(putF "names_at" (.ref N) (putF "cloths" (.ref D) [])).lookup ("names_at":Str)=some (.ref N):=by rw [lookup_putF,if_pos rfl]
    refine ⟨_,rfl,p,_,dx,_,_,rfl,hp4,T.cl_Tent,T.a_Tent_names_at,lk1,N,M,ns,rfl,hN4,td,hl,fun d f H5 sm5 hd5 hd5' sf hf0=>?_⟩
    have hp5:=sm5 _ _ hp4
    refine ⟨_,rfl,p,_,dx,_,rfl,hp5,T.cl_Tent,T.a_Tent_spots,(by have h1:=len_putF "cloths" (.ref D) []; have h2:=len_putF "names_at" (.ref N) (putF "cloths" (.ref D) []); simp only [List.length_nil] at h1; omega),?_⟩
    have hdp:d≠p:=fun z=>by rw [z,hp4] at hd5; cases hd5
    have hfp:∀ x∈keys ns ns.length,f x≠p:=fun x hx z=>by have:=hf0 x hx; rw [z,hp4] at this; cases this
    have old6:∀ b u,b≠p→H4 b=some u→(upd H5 p (.ins t.C_Tent dx (putF "spots" (.ref d) (putF "names_at" (.ref N) (putF "cloths" (.ref D) []))))) b=some u:=fun b u hb e=>by rw [upd_ne hb]; exact sm5 b u e
    have hp6:(upd H5 p (.ins t.C_Tent dx (putF "spots" (.ref d) (putF "names_at" (.ref N) (putF "cloths" (.ref D) []))))) p=some (.ins t.C_Tent dx (putF "spots" (.ref d) (putF "names_at" (.ref N) (putF "cloths" (.ref D) [])))):=upd_same
    have hd6:(upd H5 p (.ins t.C_Tent dx (putF "spots" (.ref d) (putF "names_at" (.ref N) (putF "cloths" (.ref D) []))))) d=some (.dK (spk ns ns.length f)):=by rw [upd_ne hdp]; exact hd5'
    have sf6:SpotsF (upd H5 p (.ins t.C_Tent dx (putF "spots" (.ref d) (putF "names_at" (.ref N) (putF "cloths" (.ref D) []))))) ns ns.length f:=⟨sf.inj,fun x hx=>by rw [upd_ne (hfp x hx)]; exact sf.at' x hx⟩
    generalize upd H5 p (.ins t.C_Tent dx (putF "spots" (.ref d) (putF "names_at" (.ref N) (putF "cloths" (.ref D) []))))=H6 at old6 hp6 hd6 sf6 ⊢
    have lk2:(putF "spots" (.ref d) (putF "names_at" (.ref N) (putF "cloths" (.ref D) []))).lookup ("spots":Str)=some (.ref d):=by rw [lookup_putF,if_pos rfl]
    have lk3:(putF "spots" (.ref d) (putF "names_at" (.ref N) (putF "cloths" (.ref D) []))).lookup ("names_at":Str)=some (.ref N):=by rw [lookup_putF,if_neg s_ns,lookup_putF,if_pos rfl]
    have hN6:=old6 _ _ hNp hN4
    have eln:(((ns.map V.int).length:Nat):Int)=(ns.length:Nat):=by rw [List.length_map]
    refine ⟨_,rfl,p,_,dx,_,_,rfl,hp6,T.cl_Tent,T.a_Tent_spots,lk2,_,rfl,p,_,dx,_,_,rfl,hp6,T.cl_Tent,T.a_Tent_names_at,lk3,N,_,rfl,.inl (SqL.of hN6),d,M,ns,f,(by rw [eln]; rfl),hd6,sf6,td,hl,fun m o H7 old7 hm7 hmm hdd=>?_⟩
    have hpd:p≠d:=Ne.symm hdp
    have hp7:=old7 _ _ hpd hp6
    refine ⟨_,rfl,p,_,dx,_,rfl,hp7,T.cl_Tent,T.a_Tent_mates,(by have h1:=len_putF "cloths" (.ref D) []; have h2:=len_putF "names_at" (.ref N) (putF "cloths" (.ref D) []); have h3:=len_putF "spots" (.ref d) (putF "names_at" (.ref N) (putF "cloths" (.ref D) [])); simp only [List.length_nil] at h1; omega),?_⟩
    have hmp:m≠p:=fun z=>by rw [z,hp6] at hm7; cases hm7
    have dN:N≠d:=fun z=>by rw [z,hd6] at hN6; cases hN6
    have old8:∀ b u,b≠p→b≠d→H6 b=some u→(upd H7 p (.ins t.C_Tent dx (tflds D N d m))) b=some u:=fun b u hb hbd e=>by rw [upd_ne hb]; exact old7 b u hbd e
    have old46:∀ b u,b≠p→H4 b=some u→H6 b=some u∧b≠d:=fun b u hb e=>⟨old6 b u hb e,fun z=>by rw [z,hd5] at e; cases e⟩
    have old28:∀ b u,b≠p→H2 b=some u→(upd H7 p (.ins t.C_Tent dx (tflds D N d m))) b=some u:=fun b u hb e=>by
      obtain ⟨e6,hbd⟩:=old46 b u hb (old4 b u hb e)
      exact old8 b u hb hbd e6
    refine k _ (fun b u hb e=>old28 b u hb (old2 b u hb e)) ⟨dx,D,N,d,m,o,f,upd_same,⟨ts,old28 _ _ hDp hD2,by omega,fun k q e=>?_⟩,?_,?_,?_,?_⟩
    · have e1:=ht2 k q e
      exact old28 q _ (fun z=>by rw [z,hp2] at e1; cases e1) e1
    · exact old8 _ _ hNp dN hN6
    · rw [upd_ne hdp]; exact hdd
    · rw [upd_ne hmp]; exact hmm
    · intro x hx
      have e1:=sf6.at' x hx
      exact old8 _ _ (hfp x hx) (fun z=>by rw [z,hd6] at e1; cases e1) e1
end
end KT
set_option maxHeartbeats 4000000
namespace KT
open PySem L2
noncomputable def sortOf (ns:List Int) (x:Int):Str:=match pl ns ns.length x with
 | [a,b]=>if a / 3=b / 3 then "locked" else "free"
 | _=>"rim"
noncomputable def sp_after:Sp:=fun vs H Q _=>∃ p:Int,vs=[.int p]∧Q (.int (after p)) H
noncomputable def sp_before:Sp:=fun vs H Q _=>∃ p:Int,vs=[.int p]∧Q (.int (before p)) H
noncomputable def sp_cloth_of:Sp:=fun vs H Q _=>∃ p:Int,vs=[.int p]∧Q (.int (p / 3)) H
noncomputable def sp_Tent_rows (C:Addr):Sp:=fun vs H Q _=>∃ (p:Addr) (M:List (Option Nat)) (ns:List Int),vs=[.ref p]∧TentAt C H p M ns ∧
 ∀ (l:Addr) (ts:List Addr),H l=none→ns.length=3 * ts.length→(∀ (k:Nat) (t:Addr),ts[k]?=some t→H t=some (.tup (row3 ns k)))→Q (.ref l) (upd H l (.lst (ts.map V.ref)))
noncomputable def sp_Tent_size (C:Addr):Sp:=fun vs H Q _=>∃ (p:Addr) (M:List (Option Nat)) (ns:List Int) (n:Nat),vs=[.ref p]∧TentAt C H p M ns∧ns.length=3 * n∧Q (.int n) H
noncomputable def sp_Tent_seams (C:Addr):Sp:=fun vs H Q _=>∃ (p:Addr) (M:List (Option Nat)) (ns:List Int),vs=[.ref p]∧TentAt C H p M ns∧ns.length < 64 ∧
 ∀ (l:Addr) (out:List Int),H l=none→out.Perm (keys ns ns.length)→out.Pairwise (·≤·)→Q (.ref l) (upd H l (.lst (out.map V.int)))
noncomputable def sp_Tent_has_place (C:Addr):Sp:=fun vs H Q _=>∃ (p:Addr) (M:List (Option Nat)) (ns:List Int) (x:Int),vs=[.ref p,.int x]∧TentAt C H p M ns∧Q (.bl (decide (0≤x∧x < ns.length))) H
noncomputable def sp_Tent_look_place (C EP:Addr):Sp:=fun vs H Q E=>∃ (p:Addr) (M:List (Option Nat)) (ns:List Int) (x:Int),vs=[.ref p,.int x]∧TentAt C H p M ns∧(0≤x∧x < ns.length→Q .non H)∧(¬ (0≤x∧x < ns.length)→E (.ref EP) none H)
noncomputable def sp_Tent_seam_at (C EP:Addr):Sp:=fun vs H Q E=>∃ (p:Addr) (M:List (Option Nat)) (ns:List Int) (x:Int),vs=[.ref p,.int x]∧TentAt C H p M ns∧(∀ (i:Nat) (y:Int),x=i→ns[i]?=some y→Q (.int y) H)∧(¬ (0≤x∧x < ns.length)→E (.ref EP) none H)
noncomputable def sp_Tent_mate (C EP:Addr):Sp:=fun vs H Q E=>∃ (p:Addr) (M:List (Option Nat)) (ns:List Int) (x:Int),vs=[.ref p,.int x]∧TentAt C H p M ns∧M.length=ns.length∧(∀ (i:Nat) (y:Option Nat),x=i→M[i]?=some y→Q (mV y) H)∧(¬ (0≤x∧x < ns.length)→E (.ref EP) none H)
noncomputable def sp_Tent_places (C ES:Addr):Sp:=fun vs H Q E=>∃ (p:Addr) (M:List (Option Nat)) (ns:List Int) (x:Int),vs=[.ref p,.int x]∧TentAt C H p M ns∧(x∈keys ns ns.length→∀ l,H l=none→Q (.ref l) (upd H l (.lst ((pl ns ns.length x).map nV))))∧(x ∉ keys ns ns.length→E (.ref ES) none H)
noncomputable def sp_Tent_sort_of (C ES:Addr):Sp:=fun vs H Q E=>∃ (p:Addr) (M:List (Option Nat)) (ns:List Int) (x:Int),vs=[.ref p,.int x]∧TentAt C H p M ns∧TD M ns∧(x∈keys ns ns.length→∀ H',Same H H'→Q (.str (sortOf ns x)) H')∧(x ∉ keys ns ns.length→E (.ref ES) none H)
section
variable {P:Program} {w:World} {K:PySem.W.Frag} {mg:Str→Option Value} {base:Heap} {t:Adr}
theorem sc_after:FnScope ["place"] ["place"] (defScope s_after):=⟨rfl,rfl,rfl,by decide +kernel,rfl,by decide +kernel,by decide +kernel⟩
theorem ok_after (T:Txt w K mg t):FnOk P w K mg base (CXr P w) 1 t.f_after t.d_after ["place"] sp_after:=by
 refine T.p_after.F.okR sc_after (fun vs H Q E h=>?_) (fun cdv A outer s H vs Q E hr h=>?_)
 ·obtain ⟨p,rfl,_⟩:=h
  rfl
 ·obtain ⟨p,rfl,k⟩:=h
  refine ⟨_,(pss_one (ps_ret (pe_ifExp (pt_cmpR op_eq (pe_op op_mod (pv 0) pe_int) pe_int (nomark _)) (pe_op op_sub (pv 0) pe_int) (pe_op op_add (pv 0) pe_int)))),?_⟩
  refine ⟨_,rfl,_,_,rfl,rfl,(by show (0:Int) < 3; decide),rfl,_,rfl,?_⟩
  refine ite2 (fun h=>?_) (fun h=>?_)
  ·have h:p % 3=2:=by simpa using h
   refine ⟨_,rfl,_,_,rfl,rfl,?_⟩
   have e:after p=p - 2:=if_pos h
   rw [e] at k; exact k
  ·have h:¬ p % 3=2:=by simpa using h
   refine ⟨_,rfl,_,_,rfl,rfl,?_⟩
   have e:after p=p + 1:=if_neg h
   rw [e] at k; exact k
theorem sc_before:FnScope ["place"] ["place"] (defScope s_before):=⟨rfl,rfl,rfl,by decide +kernel,rfl,by decide +kernel,by decide +kernel⟩
theorem ok_before (T:Txt w K mg t):FnOk P w K mg base (CXr P w) 1 t.f_before t.d_before ["place"] sp_before:=by
 refine T.p_before.F.okR sc_before (fun vs H Q E h=>?_) (fun cdv A outer s H vs Q E hr h=>?_)
 ·obtain ⟨p,rfl,_⟩:=h
  rfl
 ·obtain ⟨p,rfl,k⟩:=h
  refine ⟨_,(pss_one (ps_ret (pe_ifExp (pt_cmpR op_eq (pe_op op_mod (pv 0) pe_int) pe_int (nomark _)) (pe_op op_add (pv 0) pe_int) (pe_op op_sub (pv 0) pe_int)))),?_⟩
  refine ⟨_,rfl,_,_,rfl,rfl,(by show (0:Int) < 3; decide),rfl,_,rfl,?_⟩
  refine ite2 (fun h=>?_) (fun h=>?_)
  ·have h:p % 3=0:=by simpa using h
   refine ⟨_,rfl,_,_,rfl,rfl,?_⟩
   have e:before p=p + 2:=if_pos h
   rw [e] at k; exact k
  ·have h:¬ p % 3=0:=by simpa using h
   refine ⟨_,rfl,_,_,rfl,rfl,?_⟩
   have e:before p=p - 1:=if_neg h
   rw [e] at k; exact k
theorem sc_cloth_of:FnScope ["place"] ["place"] (defScope s_cloth_of):=⟨rfl,rfl,rfl,by decide +kernel,rfl,by decide +kernel,by decide +kernel⟩
theorem ok_cloth_of (T:Txt w K mg t):FnOk P w K mg base (CXr P w) 1 t.f_cloth_of t.d_cloth_of ["place"] sp_cloth_of:=by
 refine T.p_cloth_of.F.okR sc_cloth_of (fun vs H Q E h=>?_) (fun cdv A outer s H vs Q E hr h=>?_)
 ·obtain ⟨p,rfl,_⟩:=h
  rfl
 ·obtain ⟨p,rfl,k⟩:=h
  refine ⟨_,(pss_one (ps_ret (pe_op op_fdiv (pv 0) pe_int))),?_⟩
  exact ⟨_,rfl,_,_,rfl,rfl,⟨by decide,by decide⟩,k⟩
theorem sc_Tent_rows:FnScope ["self"] ["self"] (defScope s_Tent_rows):=⟨rfl,rfl,rfl,by decide +kernel,rfl,by decide +kernel,by decide +kernel⟩
theorem ok_Tent_rows (T:Txt w K mg t):FnOk P w K mg base (CXr P w) 1 t.f_Tent_rows t.d_Tent_rows ["self"] (sp_Tent_rows t.C_Tent):=by
 refine T.p_Tent_rows.F.okR sc_Tent_rows (fun vs H Q E h=>?_) (fun cdv A outer s H vs Q E hr h=>?_)
 ·obtain ⟨p,M,ns,rfl,_⟩:=h
  rfl
 ·obtain ⟨p,M,ns,rfl,⟨dx,cl,na,sp,mt,o,f,b⟩,k⟩:=h
  refine ⟨_,(pss_one (ps_ret (pe_callTy call_list_of (by rfl) T.n_list PySem.Pv.boot_list (pa_cons (pe_fld (pv 0) rfl) pa_nil)))),?_⟩
  obtain ⟨ts,h1,h2,h3⟩:=b.rows
  exact ⟨_,rfl,p,_,dx,_,_,rfl,b.ins,T.cl_Tent,T.a_Tent_cloths,fl_cloths ..,cl,_,rfl,.inl (SqL.of h1),fun l hl=>k l ts hl h2 h3⟩
theorem sc_Tent_size:FnScope ["self"] ["self"] (defScope s_Tent_size):=⟨rfl,rfl,rfl,by decide +kernel,rfl,by decide +kernel,by decide +kernel⟩
theorem ok_Tent_size (T:Txt w K mg t):FnOk P w K mg base (CXr P w) 1 t.f_Tent_size t.d_Tent_size ["self"] (sp_Tent_size t.C_Tent):=by
 refine T.p_Tent_size.F.okR sc_Tent_size (fun vs H Q E h=>?_) (fun cdv A outer s H vs Q E hr h=>?_)
 ·obtain ⟨p,M,ns,n,rfl,_⟩:=h
  rfl
 ·obtain ⟨p,M,ns,n,rfl,⟨dx,cl,na,sp,mt,o,f,b⟩,hn,k⟩:=h
  refine ⟨_,(pss_one (ps_ret (pe_callB call_len_seq (by rfl) T.n_len PySem.boot_len (pa_cons (pe_fld (pv 0) rfl) pa_nil)))),?_⟩
  obtain ⟨ts,h1,h2,h3⟩:=b.rows
  refine ⟨_,rfl,p,_,dx,_,_,rfl,b.ins,T.cl_Tent,T.a_Tent_cloths,fl_cloths ..,cl,_,rfl,.inl (SqL.of h1),?_⟩
  have:(ts.map V.ref).length=n:=by rw [List.length_map]; omega
  rw [this]; exact k
theorem sc_Tent_seams:FnScope ["self"] ["self"] (defScope s_Tent_seams):=⟨rfl,rfl,rfl,by decide +kernel,rfl,by decide +kernel,by decide +kernel⟩
theorem ok_Tent_seams (T:Txt w K mg t):FnOk P w K mg base (CXr P w) 1 t.f_Tent_seams t.d_Tent_seams ["self"] (sp_Tent_seams t.C_Tent):=by
 refine T.p_Tent_seams.F.okR sc_Tent_seams (fun vs H Q E h=>?_) (fun cdv A outer s H vs Q E hr h=>?_)
 ·obtain ⟨p,M,ns,rfl,_⟩:=h
  rfl
 ·obtain ⟨p,M,ns,rfl,⟨dx,cl,na,sp,mt,o,f,b⟩,h64,k⟩:=h
  refine ⟨_,(pss_one (ps_ret (pe_callB (call_sortedD rfl) (by rfl) T.n_sorted PyProof.Rows.boot_sorted (pa_cons (pe_fld (pv 0) rfl) pa_nil)))),?_⟩
  refine ⟨_,rfl,p,_,dx,_,_,rfl,b.ins,T.cl_Tent,T.a_Tent_spots,fl_spots ..,sp,_,keys ns ns.length,rfl,.inr ⟨o,b.spots⟩,?_,by have:=keys_len ns ns.length; omega,k⟩
  unfold spk; rw [List.map_map]; rfl
theorem sc_Tent_has_place:FnScope ["self","place"] ["self","place"] (defScope s_Tent_has_place):=⟨rfl,rfl,rfl,by decide +kernel,rfl,by decide +kernel,by decide +kernel⟩
theorem ok_Tent_has_place (T:Txt w K mg t):FnOk P w K mg base (CXr P w) 1 t.f_Tent_has_place t.d_Tent_has_place ["self","place"] (sp_Tent_has_place t.C_Tent):=by
 refine T.p_Tent_has_place.F.okR sc_Tent_has_place (fun vs H Q E h=>?_) (fun cdv A outer s H vs Q E hr h=>?_)
 ·obtain ⟨p,M,ns,x,rfl,_⟩:=h
  rfl
 ·obtain ⟨p,M,ns,x,rfl,⟨dx,cl,na,sp,mt,o,f,b⟩,k⟩:=h
  refine ⟨_,(pss_one (ps_ret (pe_chain op_le op_lt pe_int (pv 1) (pe_callB call_len_seq (by rfl) T.n_len PySem.boot_len (pa_cons (pe_fld (pv 0) rfl) pa_nil))))),?_⟩
  refine ⟨_,rfl,_,_,rfl,rfl,_,rfl,?_⟩
  refine ite2 (fun h=>?_) (fun h=>?_)
  ·have h:0≤x:=of_decide_eq_true h
   refine ⟨_,rfl,p,_,dx,_,_,rfl,b.ins,T.cl_Tent,T.a_Tent_names_at,fl_names ..,na,_,rfl,.inl (SqL.of b.names),_,_,rfl,rfl,?_⟩
   have:decide (x < (((ns.map V.int).length:Nat):Int))=decide (0≤x∧x < (ns.length:Int)):=by rw [List.length_map]; simp [h]
   show Q (V.bl (decide (x < (((ns.map V.int).length:Nat):Int)))) H
   rw [this]; exact k
  ·have h:¬ 0≤x:=fun z=>h (decide_eq_true z)
   have:decide (0≤x∧x < (ns.length:Int))=false:=decide_eq_false fun z=>h z.1
   rw [this] at k; exact k
theorem sc_Tent_look_place:FnScope ["self","place"] ["self","place"] (defScope s_Tent_look_place):=⟨rfl,rfl,rfl,by decide +kernel,rfl,by decide +kernel,by decide +kernel⟩
theorem ok_Tent_look_place (T:Txt w K mg t):FnOk P w K mg base (CXr P w) 2 t.f_Tent_look_place t.d_Tent_look_place ["self","place"] (sp_Tent_look_place t.C_Tent t.E_NoPlace):=by
 refine T.p_Tent_look_place.F.okX sc_Tent_look_place (fun vs H Q E h=>?_) (fun cdv A outer s H vs Q E hr h=>?_)
 ·obtain ⟨p,M,ns,x,rfl,_⟩:=h
  rfl
 ·obtain ⟨p,M,ns,x,rfl,ta,k1,k2⟩:=h
  obtain ⟨dx,cl,na,sp,mt,o,f,b⟩:=id ta
  refine ⟨_,(pssx_one (psx_if (pt_not (pt_val (pe_meth (pv 0) T.cl_Tent T.p_Tent_has_place.m (ok_Tent_has_place T) (hr.mono (by decide)) T.p_Tent_has_place.b .nil passR (pa_cons (pv 1) pa_nil)))) (pssx_one (psx_raise T.x_NoPlace FBV rfl T.gx_NoPlace rfl (pa_cons pe_str pa_nil))) pssx_nil)),?_⟩
  refine ⟨_,rfl,p,dx,_,rfl,b.ins,fl_none _ _ _ _,_,rfl,p,M,ns,x,rfl,ta,_,rfl,?_⟩
  by_cases c:0≤x∧x < (ns.length:Int)
  ·rw [decide_eq_true c]
   exact iteF (k1 c)
  ·rw [decide_eq_false c]
   exact iteT ⟨by decide,k2 c⟩
theorem sc_Tent_seam_at:FnScope ["self","place"] ["self","place"] (defScope s_Tent_seam_at):=⟨rfl,rfl,rfl,by decide +kernel,rfl,by decide +kernel,by decide +kernel⟩
theorem ok_Tent_seam_at (T:Txt w K mg t):FnOk P w K mg base (CXr P w) 3 t.f_Tent_seam_at t.d_Tent_seam_at ["self","place"] (sp_Tent_seam_at t.C_Tent t.E_NoPlace):=by
 refine T.p_Tent_seam_at.F.okX sc_Tent_seam_at (fun vs H Q E h=>?_) (fun cdv A outer s H vs Q E hr h=>?_)
 ·obtain ⟨p,M,ns,x,rfl,_⟩:=h
  rfl
 ·obtain ⟨p,M,ns,x,rfl,ta,k1,k2⟩:=h
  obtain ⟨dx,cl,na,sp,mt,o,f,b⟩:=id ta
  refine ⟨_,(pssx_cons (psx_expr (pex_meth (pv 0) T.cl_Tent T.p_Tent_look_place.m (ok_Tent_look_place T) (hr.mono (by decide)) T.p_Tent_look_place.b .nil (pa_cons (pv 1) pa_nil)))
   (pssx_one (psx_of (ps_ret (pe_ix ix_list (pe_fld (pv 0) rfl) (pv 1) (fun _ _=>rfl)))))),?_⟩
  refine ⟨_,rfl,p,dx,_,rfl,b.ins,fl_none _ _ _ _,_,rfl,p,M,ns,x,rfl,ta,fun c=>?_,k2⟩
  have hi:x.toNat < ns.length:=by omega
  obtain ⟨y,hy⟩:∃ y,ns[x.toNat]?=some y:=⟨_,List.getElem?_eq_getElem hi⟩
  have ex:x=(x.toNat:Int):=by omega
  refine ⟨_,rfl,p,_,dx,_,_,rfl,b.ins,T.cl_Tent,T.a_Tent_names_at,fl_names ..,_,rfl,na,_,_,_,rfl,rfl,SqL.of b.names,(by rw [ex]; exact map_at hy),k1 _ _ ex hy⟩
theorem sc_Tent_mate:FnScope ["self","place"] ["self","place"] (defScope s_Tent_mate):=⟨rfl,rfl,rfl,by decide +kernel,rfl,by decide +kernel,by decide +kernel⟩
theorem ok_Tent_mate (T:Txt w K mg t):FnOk P w K mg base (CXr P w) 3 t.f_Tent_mate t.d_Tent_mate ["self","place"] (sp_Tent_mate t.C_Tent t.E_NoPlace):=by
 refine T.p_Tent_mate.F.okX sc_Tent_mate (fun vs H Q E h=>?_) (fun cdv A outer s H vs Q E hr h=>?_)
 ·obtain ⟨p,M,ns,x,rfl,_⟩:=h
  rfl
 ·obtain ⟨p,M,ns,x,rfl,ta,hlen,k1,k2⟩:=h
  obtain ⟨dx,cl,na,sp,mt,o,f,b⟩:=id ta
  refine ⟨_,(pssx_cons (psx_expr (pex_meth (pv 0) T.cl_Tent T.p_Tent_look_place.m (ok_Tent_look_place T) (hr.mono (by decide)) T.p_Tent_look_place.b .nil (pa_cons (pv 1) pa_nil)))
   (pssx_one (psx_of (ps_ret (pe_ix ix_list (pe_fld (pv 0) rfl) (pv 1) (fun _ _=>rfl)))))),?_⟩
  refine ⟨_,rfl,p,dx,_,rfl,b.ins,fl_none _ _ _ _,_,rfl,p,M,ns,x,rfl,ta,fun c=>?_,k2⟩
  have hi:x.toNat < M.length:=by omega
  obtain ⟨y,hy⟩:∃ y,M[x.toNat]?=some y:=⟨_,List.getElem?_eq_getElem hi⟩
  have ex:x=(x.toNat:Int):=by omega
  refine ⟨_,rfl,p,_,dx,_,_,rfl,b.ins,T.cl_Tent,T.a_Tent_mates,fl_mates ..,_,rfl,mt,_,_,_,rfl,rfl,SqL.of b.mates,(by rw [ex]; exact map_at hy),k1 _ _ ex hy⟩
theorem sc_Tent_places:FnScope ["self","seam"] ["self","seam"] (defScope s_Tent_places):=⟨rfl,rfl,rfl,by decide +kernel,rfl,by decide +kernel,by decide +kernel⟩
theorem ok_Tent_places (T:Txt w K mg t):FnOk P w K mg base (CXr P w) 1 t.f_Tent_places t.d_Tent_places ["self","seam"] (sp_Tent_places t.C_Tent t.E_NoSeam):=by
 refine T.p_Tent_places.F.okX sc_Tent_places (fun vs H Q E h=>?_) (fun cdv A outer s H vs Q E hr h=>?_)
 ·obtain ⟨p,M,ns,x,rfl,_⟩:=h
  rfl
 ·obtain ⟨p,M,ns,x,rfl,ta,k1,k2⟩:=h
  obtain ⟨dx,cl,na,sp,mt,o,f,b⟩:=id ta
  have hu:=hu_of hr
  refine ⟨_,(pssx_cons (psx_if (pt_cmp (pc_dnotin hu (pv 1) (pe_fld (pv 0) rfl)) (by with_unfolding_all rfl)) (pssx_one (psx_raise T.x_NoSeam FBV rfl T.gx_NoSeam rfl (pa_cons pe_str pa_nil))) pssx_nil)
   (pssx_one (psx_of (ps_ret (pe_callTy call_list_of (by rfl) T.n_list PySem.Pv.boot_list (pa_cons (pe_dget hu (pe_fld (pv 0) rfl) (pv 1) (fun _ _=>rfl)) pa_nil)))))),?_⟩
  have hg:DGet H sp (.int x) (if x∈keys ns ns.length then some (V.ref (f x)) else none):=.inl ⟨_,Sum.inl x,.inr ⟨o,b.spots⟩,rfl,by unfold spk; rw [val_map]⟩
  refine ⟨_,rfl,_,rfl,p,_,dx,_,_,rfl,b.ins,T.cl_Tent,T.a_Tent_spots,fl_spots ..,sp,_,rfl,hg,_,rfl,?_⟩
  by_cases c:x∈keys ns ns.length
  ·rw [if_pos c] at hg ⊢
   refine iteF ?_
   exact ⟨_,rfl,p,_,dx,_,_,rfl,b.ins,T.cl_Tent,T.a_Tent_spots,fl_spots ..,_,rfl,sp,_,rfl,hg,f x,_,rfl,.inl (SqL.of (b.at' x c)),k1 c⟩
  ·rw [if_neg c] at hg ⊢
   exact iteT ⟨by decide,k2 c⟩
theorem sc_Tent_sort_of:FnScope ["self","seam","spots"] ["self","seam"] (defScope s_Tent_sort_of):=⟨rfl,rfl,rfl,by decide +kernel,rfl,by decide +kernel,by decide +kernel⟩
theorem ok_Tent_sort_of (T:Txt w K mg t):FnOk P w K mg base (CXr P w) 2 t.f_Tent_sort_of t.d_Tent_sort_of ["self","seam"] (sp_Tent_sort_of t.C_Tent t.E_NoSeam):=by
 refine T.p_Tent_sort_of.F.okX sc_Tent_sort_of (fun vs H Q E h=>?_) (fun cdv A outer s H vs Q E hr h=>?_)
 ·obtain ⟨p,M,ns,x,rfl,_⟩:=h
  rfl
 ·obtain ⟨p,M,ns,x,rfl,ta,td,k1,k2⟩:=h
  obtain ⟨dx,cl,na,sp,mt,o,f,b⟩:=id ta
  refine ⟨_,(pssx_cons (psx_set (i:=2) sc_Tent_sort_of.nd rfl (Or.inl rfl) (pex_meth (pv 0) T.cl_Tent T.p_Tent_places.m (ok_Tent_places T) (hr.mono (by decide)) T.p_Tent_places.b .nil (pa_cons (pv 1) pa_nil)))
   (pssx_cons (psx_of (ps_if (pt_cmpR op_eq (pe_callB call_len_seq (by rfl) T.n_len PySem.boot_len (pa_cons (pv 2) pa_nil)) pe_int (nomark _)) (pss_one (ps_ret pe_str)) pss_nil))
   (pssx_cons (psx_of (ps_if (pt_cmpR op_eq (pe_call (ok_cloth_of T) (hr.mono (by decide)) rfl T.p_cloth_of.g T.p_cloth_of.F.kp T.p_cloth_of.b .nil passR (pa_cons (pe_ix ix_list (pv 2) pe_int (fun _ _=>rfl)) pa_nil)) (pe_call (ok_cloth_of T) (hr.mono (by decide)) rfl T.p_cloth_of.g T.p_cloth_of.F.kp T.p_cloth_of.b .nil passR (pa_cons (pe_ix ix_list (pv 2) pe_int (fun _ _=>rfl)) pa_nil)) (nomark _)) (pss_one (ps_ret pe_str)) pss_nil))
   (pssx_one (psx_of (ps_ret pe_str)))))),?_⟩
  refine ⟨_,rfl,p,dx,_,rfl,b.ins,fl_none _ _ _ _,_,rfl,p,M,ns,x,rfl,ta,fun c l hl=>?_,k2⟩
  have k1':=k1 c _ (Same.new (o:=.lst ((pl ns ns.length x).map nV)) hl)
  refine ⟨_,rfl,l,_,rfl,.inl (SqL.of upd_same),rfl,_,rfl,?_⟩
  rcases pl_cases td c with ⟨a,e,_⟩ | ⟨a,b',hab,e,_⟩
  ·rw [e] at k1' ⊢
   refine iteT ?_
   have:sortOf ns x="rim":=by unfold sortOf; rw [e]
   rw [this] at k1'
   exact k1'
  ·rw [e] at k1' ⊢
   refine iteF ?_
   refine ⟨_,rfl,l,_,_,_,rfl,rfl,SqL.of upd_same,rfl,_,rfl,_,rfl,l,_,_,_,rfl,rfl,SqL.of upd_same,rfl,_,rfl,rfl,_,rfl,?_⟩
   by_cases q:a / 3=b' / 3
   ·have:sortOf ns x="locked":=by unfold sortOf; rw [e]; exact if_pos q
    rw [this] at k1'
    rw [decide_eq_true (by congr 1; omega)]
    exact iteT k1'
   ·have:sortOf ns x="free":=by unfold sortOf; rw [e]; exact if_neg q
    rw [this] at k1'
    rw [decide_eq_false (fun z=>q (by injection z; omega))]
    exact iteF k1'
end
end KT
set_option maxHeartbeats 4000000
namespace KT
open PySem L2
noncomputable def sp_look_free (C ES ER EL:Addr):Sp:=fun vs H Q E=>∃ (p:Addr) (M:List (Option Nat)) (ns:List Int) (x:Int),vs=[.ref p,.int x]∧TentAt C H p M ns∧TD M ns ∧
 (x∈keys ns ns.length→∀ H',Same H H'→(sortOf ns x="rim"→E (.ref ER) none H')∧(sortOf ns x="locked"→E (.ref EL) none H')∧(sortOf ns x="free"→Q .non H'))∧(x ∉ keys ns ns.length→E (.ref ES) none H)
noncomputable def sqr (a b:Nat):List V:=[.int (after a),.int (before a),.int (after b),.int (before b)]
noncomputable def sp_square (C ES ER EL:Addr):Sp:=fun vs H Q E=>∃ (p:Addr) (M:List (Option Nat)) (ns:List Int) (x:Int),vs=[.ref p,.int x]∧TentAt C H p M ns∧TD M ns ∧
 (x∈keys ns ns.length→∀ H',Same H H'→(sortOf ns x="rim"→E (.ref ER) none H')∧(sortOf ns x="locked"→E (.ref EL) none H')∧(∀ a b l,pl ns ns.length x=[a,b]→a < b→M[a]?=some (some b)→a / 3≠b / 3→H l=none→H' l=some (.tup (sqr a b))→Q (.ref l) H'))∧(x ∉ keys ns ns.length→E (.ref ES) none H)
theorem sort_cases {M:List (Option Nat)} {ns:List Int} (td:TD M ns) {x:Int} (hx:x∈keys ns ns.length) :
  (sortOf ns x="rim"∧∃ a,pl ns ns.length x=[a]∧M[a]?=some none)∨(sortOf ns x="locked"∧∃ a b,a < b∧pl ns ns.length x=[a,b]∧M[a]?=some (some b)∧a / 3=b / 3)∨(sortOf ns x="free"∧∃ a b,a < b∧pl ns ns.length x=[a,b]∧M[a]?=some (some b)∧a / 3≠b / 3):=by
 rcases pl_cases td hx with ⟨a,e,_,ma⟩ | ⟨a,b,hab,e,_,_,ma,_⟩
 ·exact .inl ⟨by unfold sortOf; rw [e],a,e,ma⟩
 ·by_cases c:a / 3=b / 3
  ·exact .inr (.inl ⟨by unfold sortOf; rw [e]; exact if_pos c,a,b,hab,e,ma,c⟩)
  ·exact .inr (.inr ⟨by unfold sortOf; rw [e]; exact if_neg c,a,b,hab,e,ma,c⟩)
theorem t_rf:¬ (("rim":Str))="free":=by decide
theorem t_lf:¬ (("locked":Str))="free":=by decide
theorem t_lr:¬ (("locked":Str))="rim":=by decide
theorem t_fr:¬ (("free":Str))="rim":=by decide
theorem t_fl:¬ (("free":Str))="locked":=by decide
theorem str_ne {x y:Str} (h:¬ x=y):decide (V.str x=V.str y)=false:=decide_eq_false fun z=>h (by injection z)
theorem str_eq {x:Str}:decide (V.str x=V.str x)=true:=decide_eq_true rfl
section
variable {P:Program} {w:World} {K:PySem.W.Frag} {mg:Str→Option Value} {base:Heap} {t:Adr}
theorem sc_look_free:FnScope ["tent","seam","sort"] ["tent","seam"] (defScope s_look_free):=⟨rfl,rfl,rfl,by decide +kernel,rfl,by decide +kernel,by decide +kernel⟩
theorem ok_look_free (T:Txt w K mg t):FnOk P w K mg base (CXr P w) 3 t.f_look_free t.d_look_free ["tent","seam"] (sp_look_free t.C_Tent t.E_NoSeam t.E_Rim t.E_Locked):=by
 refine T.p_look_free.F.okX sc_look_free (fun vs H Q E h=>?_) (fun cdv A outer s H vs Q E hr h=>?_)
 ·obtain ⟨p,M,ns,x,rfl,_⟩:=h
  rfl
 ·obtain ⟨p,M,ns,x,rfl,ta,td,k1,k2⟩:=h
  obtain ⟨dx,cl,na,sp,mt,o,f,b⟩:=id ta
  refine ⟨_,(pssx_cons (psx_set (i:=2) sc_look_free.nd rfl (Or.inl rfl) (pex_meth (pv 0) T.cl_Tent T.p_Tent_sort_of.m (ok_Tent_sort_of T) (hr.mono (by decide)) T.p_Tent_sort_of.b .nil (pa_cons (pv 1) pa_nil)))
   (pssx_cons (psx_if (pt_cmpR op_eq (pv 2) pe_str (nomark _)) (pssx_one (psx_raise T.x_Rim FBV rfl T.gx_Rim rfl (pa_cons pe_str pa_nil))) pssx_nil)
   (pssx_one (psx_if (pt_cmpR op_eq (pv 2) pe_str (nomark _)) (pssx_one (psx_raise T.x_Locked FBV rfl T.gx_Locked rfl (pa_cons pe_str pa_nil))) pssx_nil)))),?_⟩
  refine ⟨_,rfl,p,dx,_,rfl,b.ins,fl_none _ _ _ _,_,rfl,p,M,ns,x,rfl,ta,td,fun c H' sm=>?_,k2⟩
  obtain ⟨j1,j2,j3⟩:=k1 c H' sm
  refine ⟨_,rfl,rfl,_,rfl,?_⟩
  rcases sort_cases td c with ⟨e,_⟩ | ⟨e,_⟩ | ⟨e,_⟩
  ·rw [e,str_eq]
   exact iteT ⟨by decide,j1 e⟩
  ·rw [e,str_ne t_lr]
   refine iteF ⟨_,rfl,rfl,_,rfl,?_⟩
   rw [str_eq]
   exact iteT ⟨by decide,j2 e⟩
  ·rw [e,str_ne t_fr]
   refine iteF ⟨_,rfl,rfl,_,rfl,?_⟩
   rw [str_ne t_fl]
   exact iteF (j3 e)
theorem sc_square:FnScope ["tent","seam","lesser","greater"] ["tent","seam"] (defScope s_square):=⟨rfl,rfl,rfl,by decide +kernel,rfl,by decide +kernel,by decide +kernel⟩
theorem ok_square (T:Txt w K mg t):FnOk P w K mg base (CXr P w) 4 t.f_square t.d_square ["tent","seam"] (sp_square t.C_Tent t.E_NoSeam t.E_Rim t.E_Locked):=by
 refine T.p_square.F.okX sc_square (fun vs H Q E h=>?_) (fun cdv A outer s H vs Q E hr h=>?_)
 ·obtain ⟨p,M,ns,x,rfl,_⟩:=h
  rfl
 ·obtain ⟨p,M,ns,x,rfl,ta,td,k1,k2⟩:=h
  refine ⟨_,(pssx_cons (psx_expr (pex_call (ok_look_free T) (hr.mono (by decide)) rfl T.p_look_free.g T.p_look_free.F.kp T.p_look_free.b .nil (pa_cons (pv 0) (pa_cons (pv 1) pa_nil))))
   (pssx_cons (psx_of (ps_asg (pe_meth (pv 0) T.cl_Tent T.p_Tent_places.m (ok_Tent_places T) (hr.mono (by decide)) T.p_Tent_places.b .nil passR (pa_cons (pv 1) pa_nil)) (pg_lst rfl (pgs_cons (pg_name (i:=2) sc_square.nd rfl (Or.inl rfl)) (pgs_cons (pg_name (i:=3) sc_square.nd rfl (Or.inl rfl)) pgs_nil)))))
   (pssx_one (psx_of (ps_ret (pe_tup (pa_cons (pe_call (ok_after T) (hr.mono (by decide)) rfl T.p_after.g T.p_after.F.kp T.p_after.b .nil passR (pa_cons (pv 2) pa_nil)) (pa_cons (pe_call (ok_before T) (hr.mono (by decide)) rfl T.p_before.g T.p_before.F.kp T.p_before.b .nil passR (pa_cons (pv 2) pa_nil)) (pa_cons (pe_call (ok_after T) (hr.mono (by decide)) rfl T.p_after.g T.p_after.F.kp T.p_after.b .nil passR (pa_cons (pv 3) pa_nil)) (pa_cons (pe_call (ok_before T) (hr.mono (by decide)) rfl T.p_before.g T.p_before.F.kp T.p_before.b .nil passR (pa_cons (pv 3) pa_nil)) pa_nil)))))))))),?_⟩
  refine ⟨_,rfl,_,rfl,p,M,ns,x,rfl,ta,td,fun c H' sm=>⟨(k1 c H' sm).1,(k1 c H' sm).2.1,fun e=>?_⟩,k2⟩
  obtain ⟨a,b,hab,ep,em,ne⟩:∃ a b,a < b∧pl ns ns.length x=[a,b]∧M[a]?=some (some b)∧a / 3≠b / 3:=by
   rcases sort_cases td c with ⟨e',_⟩ | ⟨e',_⟩ | ⟨e',q⟩
   ·exact absurd (e'.symm.trans e) t_rf
   ·exact absurd (e'.symm.trans e) t_lf
   ·exact q
  have ta':=ta.same sm
  obtain ⟨dx,cl,na,sp,mt,o,f,B⟩:=id ta'
  refine ⟨_,rfl,p,dx,_,rfl,B.ins,fl_none _ _ _ _,_,rfl,p,M,ns,x,rfl,ta',fun _ l hl=>?_,fun z=>absurd c z⟩
  rw [ep]
  refine ⟨l,_,rfl,SqL.of upd_same,rfl,_,_,rfl,_,_,rfl,rfl,?_⟩
  refine ⟨_,rfl,_,rfl,?_⟩
  refine ⟨_,rfl,_,rfl,?_⟩
  refine ⟨_,rfl,_,rfl,?_⟩
  refine ⟨_,rfl,_,rfl,?_⟩
  refine ⟨(by show 4≤sizeLine; decide),fun q hq=>?_⟩
  obtain ⟨hql,hq'⟩:=upd_none hq
  exact (k1 c _ (Same.add (Same.add sm (sm.free hl)) (sm.free hq'))).2.2 a b q ep hab em ne (sm.free hq') upd_same
end
end KT
set_option maxHeartbeats 4000000
namespace KT
open PySem L2
noncomputable def sp_seam:Sp:=fun vs H Q _=>∃ (r:Addr) (ns:List Int) (i:Nat) (x:Int),vs=[.ref r,.int i]∧RowsAt H r ns∧ns[i]?=some x∧Q (.int x) H
noncomputable def isFree (M:List (Option Nat)) (i:Nat):Bool:=match M[i]? with
 | some (some j)=>decide (i < j) && decide (i / 3≠j / 3)
 | _=>false
noncomputable def isLow (M:List (Option Nat)) (i:Nat):Bool:=match M[i]? with
 | some (some j)=>decide (i < j)
 | _=>false
noncomputable def lowL (M:List (Option Nat)) (n:Nat):List Nat:=(List.range n).filter (isLow M)
noncomputable def freeL (M:List (Option Nat)):List Nat:=(List.range M.length).filter (isFree M)
noncomputable def sp_free:Sp:=fun vs H Q _=>∃ (m:Addr) (M:List (Option Nat)),vs=[.ref m]∧H m=some (.lst (M.map mV))∧M.length≤1000∧(∀ (i j:Nat),M[i]?=some (some j)→M[j]?=some (some i)∧i≠j) ∧
 ∀ (l:Addr) (H':Hp),Same H H'→H l=none→H' l=some (.lst ((freeL M).map nV))→Q (.ref l) H'
noncomputable def sp_around:Sp:=fun vs H Q _=>∃ (m:Addr) (M:List (Option Nat)) (i j:Nat),vs=[.ref m,.int i]∧H m=some (.lst (M.map mV))∧M[i]?=some (some j) ∧
 ∀ (l:Addr) (H':Hp),Same H H'→H l=none→H' l=some (.lst (sqr i j))→Q (.ref l) H'
theorem row_at {H:Hp} {r:Addr} {ns:List Int} {i:Nat} {x:Int} (h:RowsAt H r ns) (hx:ns[i]?=some x):∃ ts:List Addr,∃ q,H r=some (.lst (ts.map V.ref))∧ts[i / 3]?=some q∧H q=some (.tup (row3 ns (i / 3)))∧(row3 ns (i / 3))[i % 3]?=some (V.int x):=by
 obtain ⟨ts,h1,h2,h3⟩:=h
 have hi:i < ns.length:=(List.getElem?_eq_some_iff.mp hx).1
 have hk:i / 3 < ts.length:=by omega
 refine ⟨ts,ts[i / 3],h1,List.getElem?_eq_getElem hk,h3 _ _ (List.getElem?_eq_getElem hk),?_⟩
 have g:∀ j,ns[j]?=some x→ns.getD j 0=x:=fun j hj=>by rw [List.getD_eq_getElem?_getD,hj]; rfl
 have hm:i % 3=0∨i % 3=1∨i % 3=2:=by omega
 rcases hm with m | m | m
 ·have:3 * (i / 3)=i:=by omega
  rw [m]; show some (V.int (ns.getD (3 * (i / 3)) 0))=_; rw [this,g i hx]
 ·have:3 * (i / 3) + 1=i:=by omega
  rw [m]; show some (V.int (ns.getD (3 * (i / 3) + 1) 0))=_; rw [this,g i hx]
 ·have:3 * (i / 3) + 2=i:=by omega
  rw [m]; show some (V.int (ns.getD (3 * (i / 3) + 2) 0))=_; rw [this,g i hx]
theorem div3 (i:Nat):(i:Int) / 3=((i / 3:Nat):Int):=by omega
theorem mod3 (i:Nat):(i:Int) % 3=((i % 3:Nat):Int):=by omega
theorem after_side (i:Nat):(i:Int) - (i:Int) % 3 + ((i:Int) + 1) % 3=after i:=by unfold after; split <;> omega
theorem before_side (i:Nat):(i:Int) - (i:Int) % 3 + ((i:Int) + 2) % 3=before i:=by unfold before; split <;> omega
noncomputable def sp_law (K:PySem.W.Frag):Sp:=fun vs H Q _=>∃ (a:Addr) (ns:List Int),vs=[.ref a]∧SqL K H a (ns.map V.int)∧ns.length≤63∧∀ H',Q (.bl true) H'
theorem sp_law_start {K:PySem.W.Frag} {H:Hp} {a:Addr} {ns:List Int} (hl:ns.length≤63) (hS:SqL K H a (ns.map V.int)):sp_law K [.ref a] H (fun v _=>v=.bl true) fun _ _ _=>False:=⟨a,ns,rfl,hS,hl,fun _=>rfl⟩
theorem RowsAt.copy {H:Hp} {r l:Addr} {ns:List Int} {ts:List Addr} (h1:H r=some (.lst (ts.map V.ref))) (h2:ns.length=3 * ts.length) (h3:∀ (k:Nat) (t:Addr),ts[k]?=some t→H t=some (.tup (row3 ns k))) (hl:H l=none):RowsAt (upd H l (.lst (ts.map V.ref))) l ns :=
 ⟨ts,upd_same,h2,fun k q e=>by rw [upd_ne (ne_of_none (h3 k q e) hl)]; exact h3 k q e⟩
theorem free_mem {M:List (Option Nat)} {i:Nat} (h:i∈freeL M):∃ j,M[i]?=some (some j)∧i < j∧i / 3≠j / 3:=by
 have:=(List.mem_filter.mp h).2
 unfold isFree at this
 split at this
 ·rename_i j hj
  simp at this
  exact ⟨j,hj,this.1,this.2⟩
 ·cases this
theorem pl_two {M:List (Option Nat)} {ns:List Int} (td:TD M ns) {i j:Nat} {x:Int} (hm:M[i]?=some (some j)) (hij:i < j) (hx:ns[i]?=some x):x∈keys ns ns.length∧pl ns ns.length x=[i,j]:=by
 have hi:i < ns.length:=(List.getElem?_eq_some_iff.mp hx).1
 have hk:x∈keys ns ns.length:=keys_mem.mpr ⟨i,hi,hx⟩
 have mi:i∈pl ns ns.length x:=pl_mem.mpr ⟨hi,hx⟩
 refine ⟨hk,?_⟩
 rcases pl_cases td hk with ⟨a,e,_,ma⟩ | ⟨a,b,hab,e,_,_,ma,mb⟩
 ·rw [e,List.mem_singleton] at mi
  subst mi
  rw [hm] at ma; cases ma
 ·rw [e] at mi
  rcases List.mem_cons.mp mi with z | z
  ·subst z
   rw [hm] at ma
   cases ma
   exact e
  ·have z:i=b:=by simpa using z
   subst z
   rw [hm] at mb
   cases mb
   omega
theorem tent_new {H1:Hp} {r l x dx C:Addr} {ns:List Int} {ts:List Addr} (g1:H1 r=some (.lst (ts.map V.ref))) (g2:ns.length=3 * ts.length) (g3:∀ (k:Nat) (t:Addr),ts[k]?=some t→H1 t=some (.tup (row3 ns k)))
  (hl1:H1 l=none) (hx:upd H1 l (.lst (ts.map V.ref)) x=none) (hdx:upd H1 l (.lst (ts.map V.ref)) dx=none) :
  RowsAt (upd (upd (upd H1 l (.lst (ts.map V.ref))) dx (.own x)) x (.ins C dx [])) l ns∧Same (upd H1 l (.lst (ts.map V.ref))) (upd (upd (upd H1 l (.lst (ts.map V.ref))) dx (.own x)) x (.ins C dx [])):=by
 have s:Same (upd H1 l (.lst (ts.map V.ref))) (upd (upd (upd H1 l (.lst (ts.map V.ref))) dx (.own x)) x (.ins C dx [])):=Same.add (Same.new hdx) hx
 exact ⟨(RowsAt.copy g1 g2 g3 hl1).same s,s⟩
theorem sorted_eq {a b c:List Int} (h1:a.Perm c) (h2:b.Perm c) (s1:a.Pairwise (·≤·)) (s2:b.Pairwise (·≤·)):a=b :=
 (h1.trans h2.symm).eq_of_pairwise (fun x y _ _ h1 h2=>Int.le_antisymm h1 h2) s1 s2
section
variable {P:Program} {w:World} {K:PySem.W.Frag} {mg:Str→Option Value} {base:Heap} {t:Adr}
theorem sc_l_seam:FnScope ["_law_rows_here","_law_place"] ["_law_rows_here","_law_place"] (defScope s_l_seam):=⟨rfl,rfl,rfl,by decide +kernel,rfl,by decide +kernel,by decide +kernel⟩
theorem ok_l_seam (T:Txt w K mg t):FnOk P w K mg base (CXr P w) 1 t.f_l_seam t.d_l_seam ["_law_rows_here","_law_place"] sp_seam:=by
 refine T.p_l_seam.F.okR sc_l_seam (fun vs H Q E h=>?_) (fun cdv A outer s H vs Q E hr h=>?_)
 ·obtain ⟨r,ns,i,x,rfl,_⟩:=h
  rfl
 ·obtain ⟨r,ns,i,x,rfl,hr1,hx,k⟩:=h
  refine ⟨_,(pss_one (ps_ret (pe_ix ix_tup (pe_ix ix_list (pv 0) (pe_op op_fdiv (pv 1) pe_int) (fun _ _=>rfl)) (pe_op op_mod (pv 1) pe_int) (fun _ _=>rfl)))),?_⟩
  obtain ⟨ts,q,e1,e2,e3,e4⟩:=row_at hr1 hx
  refine ⟨_,rfl,_,rfl,_,_,rfl,rfl,⟨by decide,by decide⟩,r,_,_,_,rfl,rfl,SqL.of e1,(by rw [div3]; exact map_at e2),_,rfl,_,_,rfl,rfl,(by show (0:Int) < 3; decide),q,_,_,_,rfl,rfl,SqT.of e3,(by rw [mod3]; exact atI_nat e4),k⟩
theorem sc_l_around:FnScope ["_law_mates","_law_place","_law_row","_law_side"] ["_law_mates","_law_place"] (defScope s_l_around):=⟨rfl,rfl,rfl,by decide +kernel,rfl,by decide +kernel,by decide +kernel⟩
theorem ok_l_around (T:Txt w K mg t):FnOk P w K mg base (CXr P w) 1 t.f_l_around t.d_l_around ["_law_mates","_law_place"] sp_around:=by
 refine T.p_l_around.F.okR sc_l_around (fun vs H Q E h=>?_) (fun cdv A outer s H vs Q E hr h=>?_)
 ·obtain ⟨m,M,i,j,rfl,_⟩:=h
  rfl
 ·obtain ⟨m,M,i,j,rfl,hm,hij,k⟩:=h
  refine ⟨_,(pss_cons (ps_set (i:=2) sc_l_around.nd rfl (Or.inl rfl) (pe_lst pa_nil))
   (pss_cons (ps_for PassesOwn.never rfl (pi_list (pe_lst (pa_cons (pv 1) (pa_cons (pe_ix ix_list (pv 0) (pv 1) (fun _ _=>rfl)) pa_nil)))) (pg_name (i:=3) sc_l_around.nd rfl (Or.inl rfl)) (pss_cons (ps_expr (pe_bm PySem.F.plainAttrs_list PySem.F.slot_list_append PySem.F.type_list_append mt_append (pv 2) (pa_cons (pe_op op_add (pe_op op_sub (pv 3) (pe_op op_mod (pv 3) pe_int)) (pe_op op_mod (pe_op op_add (pv 3) pe_int) pe_int)) pa_nil)))
   (pss_one (ps_expr (pe_bm PySem.F.plainAttrs_list PySem.F.slot_list_append PySem.F.type_list_append mt_append (pv 2) (pa_cons (pe_op op_add (pe_op op_sub (pv 3) (pe_op op_mod (pv 3) pe_int)) (pe_op op_mod (pe_op op_add (pv 3) pe_int) pe_int)) pa_nil))))))
   (pss_one (ps_ret (pv 2))))),?_⟩
  refine ⟨Nat.zero_le _,fun r hr0=>?_⟩
  have hmr:m≠r:=ne_of_none hm hr0
  dsimp only [gName]
  show tSeq (tFor _ _ _) _ _ _ _
  refine seq_post (fun σ H1=>∃ v,σ=[some (.ref m),some (.int i),some (.ref r),v]∧Same H H1∧H1 r=some (.lst (sqr i j))) (fun nx hnx=>?_) ?_
  ·refine ⟨_,rfl,_,rfl,_,rfl,m,_,_,_,rfl,rfl,SqL.of (by rw [upd_ne hmr]; exact hm),map_at hij,(by show 2≤sizeLine; decide),fun q hq=>?_⟩
   obtain ⟨hqr,hq0⟩:=upd_none hq
   refine ⟨q,rfl,⟨_,SqL.of upd_same⟩,?_⟩
   refine for_list (xs:=[V.int i,V.int j]) (fun n σ H1=>∃ v,σ=[some (.ref m),some (.int i),some (.ref r),v]∧Same H H1∧H1 q=some (.lst [V.int i,V.int j])∧H1 r=some (.lst ((sqr i j).take (2 * n)))) ⟨none,rfl,Same.add (Same.new hr0) hq0,upd_same,by rw [upd_ne (Ne.symm hqr),upd_same]; rfl⟩ ?_ ?_ ?_
   ·rintro n σ H1 _ ⟨v,rfl,sm,h1,h2⟩
    exact SqL.of h1
   ·rintro n x σ H1 hx ⟨v,rfl,sm,h1,h2⟩
    have lt:∀ z:Nat,z≤4→((sqr i j).take z).length < sizeLine:=fun z hz=>by rw [List.length_take]; exact small1000 (by omega)
    dsimp only [gName]
    obtain ⟨c,rfl⟩:∃ c:Nat,x=V.int c:=by
     match n,hx with
     | 0,hx=>exact ⟨i,(Option.some.inj hx).symm⟩
     | 1,hx=>exact ⟨j,(Option.some.inj hx).symm⟩
    refine ⟨_,rfl,.inl ⟨rfl,_,SqL.of h2⟩,_,rfl,_,rfl,_,_,rfl,rfl,(by show (0:Int) < 3; decide),_,_,rfl,rfl,_,rfl,_,_,rfl,rfl,_,_,rfl,rfl,(by show (0:Int) < 3; decide),_,_,rfl,rfl,r,_,_,rfl,rfl,h2,lt _ (by have:=(List.getElem?_eq_some_iff.mp hx).1; simp at this; omega),?_⟩
    refine ⟨_,rfl,.inl ⟨rfl,_,SqL.of upd_same⟩,_,rfl,_,rfl,_,_,rfl,rfl,(by show (0:Int) < 3; decide),_,_,rfl,rfl,_,rfl,_,_,rfl,rfl,_,_,rfl,rfl,(by show (0:Int) < 3; decide),_,_,rfl,rfl,r,_,_,rfl,rfl,upd_same,?_,?_⟩
    ·rw [List.length_append,List.length_take]; exact small1000 (by simp [sqr]; omega)
    ·refine ⟨_,rfl,Same.add (Same.add sm hr0) hr0,?_,?_⟩
     ·rw [upd_ne hqr,upd_ne hqr]; exact h1
     ·rw [upd_same]
      dsimp only
      rw [after_side,before_side]
      match n,hx with
      | 0,hx =>
       have e:i=c:=by have e:=Option.some.inj hx; injection e with e; omega
       subst e; rfl
      | 1,hx =>
       have e:j=c:=by have e:=Option.some.inj hx; injection e with e; omega
       subst e; rfl
   ·rintro σ H1 ⟨v,rfl,sm,h1,h2⟩
    exact hnx _ _ ⟨v,rfl,sm,h2⟩
  rintro σ H1 ⟨v,rfl,sm,h2⟩
  exact ⟨_,rfl,k r H1 sm hr0 h2⟩
theorem low_step (M:List (Option Nat)) (n:Nat):lowL M (n + 1)=if isLow M n=true then lowL M n ++ [n] else lowL M n:=by
 unfold lowL
 rw [List.range_succ,List.filter_append]
 by_cases c:isLow M n=true
 ·simp [c]
 ·simp [c]
theorem low_le (M:List (Option Nat)) (n:Nat):(lowL M n).length≤n:=by
 unfold lowL
 exact Nat.le_trans (List.length_filter_le _ _) (by simp)
theorem free_low (M:List (Option Nat)):(lowL M M.length).filter (isFree M)=freeL M:=by
 unfold lowL freeL
 rw [List.filter_filter]
 congr 1
 funext i
 unfold isFree isLow
 cases M[i]? with
 | none=>rfl
 | some o=>cases o with
  | none=>rfl
  | some j=>by_cases c:i < j <;> simp [c]
theorem fil_step {α:Type} {p:α→Bool} {l:List α} {i:Nat} {x:α} (h:l[i]?=some x):(l.take (i + 1)).filter p=if p x=true then (l.take i).filter p ++ [x] else (l.take i).filter p:=by
 rw [List.take_add_one,h,List.filter_append]
 by_cases c:p x=true
 ·simp [c]
 ·simp [c]
theorem sc_l_free:FnScope ["_law_mates","_law_row"] ["_law_mates"] (defScope s_l_free):=⟨rfl,rfl,rfl,by decide +kernel,rfl,by decide +kernel,by decide +kernel⟩
theorem ok_l_free (T:Txt w K mg t):FnOk P w K mg base (CXr P w) 1 t.f_l_free t.d_l_free ["_law_mates"] sp_free:=by
  refine T.p_l_free.F.okR sc_l_free (fun vs H Q E h=>?_) (fun cdv A outer s H vs Q E hr h=>?_)
  · obtain ⟨m,M,rfl,_⟩:=h
    rfl
  · obtain ⟨m,M,rfl,hm,hl,inv,k⟩:=h
    refine ⟨_,(pss_cons (ps_setCompG (ts:=["_law_p"]) (fv:=[("_law_mates",0)]) (i:=1) ⟨rfl,by decide +kernel,by decide +kernel,blkFree (by rfl),⟨⟨rfl,rfl,Or.inl rfl⟩,trivial⟩⟩ rfl sc_l_free.nd rfl rfl (by rfl) (pi_range1 rfl T.n_range (pa_cons (pe_callB call_len_seq (by rfl) T.n_len PySem.boot_len (pa_cons (pv 0) pa_nil)) pa_nil)) (fun _ _ _ _=>(pg_name (i:=0) (show List.Nodup (["_law_p","_law_mates"]:List Str) from by decide +kernel) rfl (Or.inl rfl) (Or.inr rfl))) (fun _ _ _ _=>(pts_one (PW.pt (pw_and (pt_cmpR op_notN (pe_ix (ix_listK K) (pv 1) (pv 0) (fun _ _=>rfl)) pe_non (nomark _)) (pw_and1 (pt_cmpR op_lt (pv 0) (pe_ix (ix_listK K) (pv 1) (pv 0) (fun _ _=>rfl)) (nomark _))))))) (fun _ _ _=>rfl) (fun _ _ _ _ _ _=>pb_emit (pv 0)))
      (pss_one (ps_ret (pe_compG (ts:=["_law_p"]) (fv:=[("_law_mates",0)]) ⟨rfl,by decide +kernel,by decide +kernel,blkFree (by rfl),⟨⟨rfl,rfl,Or.inl rfl⟩,trivial⟩⟩ rfl (pi_list (pv 1)) (fun _ _ _ _=>(pg_name (i:=0) (show List.Nodup (["_law_p","_law_mates"]:List Str) from by decide +kernel) rfl (Or.inl rfl) (Or.inr rfl))) (fun _ _ _ _=>(pts_one (pt_cmpR op_ne (pe_op op_fdiv (pv 0) pe_int) (pe_op op_fdiv (pe_ix (ix_listK K) (pv 1) (pv 0) (fun _ _=>rfl)) pe_int) (nomark _)))) (fun _ _ _=>rfl) (fun _ _ _ _ _ _=>pb_emit (pv 0)))))),?_⟩
    refine ⟨_,rfl,m,_,rfl,.inl (SqL.of hm),_,rfl,by omega,by rw [List.length_map]; omega,fun D hD=>?_⟩
    have eL:(((M.map mV).length:Nat):Int).toNat=M.length:=by simp
    rw [eL]
    refine loop_range (fun i σ H1=>∃ v,σ=[v,some (.ref m)]∧Same H H1∧H1 D=some (.lst ((lowL M i).map nV))) ⟨none,rfl,Same.new hD,upd_same⟩ ?_ ?_
    · rintro i σ H1 hlt ⟨v,rfl,sm,h1⟩
      have e0:(0 + (i:Int))=(i:Int):=Int.zero_add _
      dsimp only [gName]
      rw [e0]
      obtain ⟨y,hy⟩:∃ y,M[i]?=some y:=⟨_,List.getElem?_eq_getElem hlt⟩
      have at':=map_at (f:=mV) hy
      have lt:((lowL M i).map nV).length < sizeLine:=by rw [List.length_map]; exact small1000 (by have:=low_le M i; omega)
      refine ⟨_,rfl,_,rfl,m,_,_,_,rfl,rfl,SqL.of (sm _ _ hm),at',rfl,_,rfl,?_⟩
      cases y with
      | none =>
        refine iteF (iteF ⟨_,rfl,sm,?_⟩)
        rw [h1,low_step,if_neg (by unfold isLow; rw [hy]; simp)]
      | some j =>
        refine iteT ⟨_,rfl,_,rfl,_,rfl,m,_,_,_,rfl,rfl,SqL.of (sm _ _ hm),at',_,_,rfl,rfl,_,rfl,?_⟩
        by_cases c:i < j
        · rw [decide_eq_true (by omega:(i:Int) < (j:Int))]
          refine iteT ⟨_,rfl,_,h1,lt,_,rfl,Same.add sm hD,?_⟩
          rw [upd_same,low_step,if_pos (by unfold isLow; rw [hy]; simp [c]),List.map_append]
          rfl
        · rw [decide_eq_false (by omega:¬ (i:Int) < (j:Int))]
          refine iteF ⟨_,rfl,sm,?_⟩
          rw [h1,low_step,if_neg (by unfold isLow; rw [hy]; simp [c])]
    rintro σ H1 ⟨v,rfl,sm,h1⟩
    refine ⟨_,rfl,D,rfl,⟨_,SqL.of h1⟩,fun D2 hD2=>?_⟩
    have hD20:H D2=none:=sm.free hD2
    refine loop_list (xs:=(lowL M M.length).map nV) (fun i σ H2=>∃ v,σ=[v,some (.ref m)]∧Same H1 H2∧H2 D2=some (.lst ((((lowL M M.length).take i).filter (isFree M)).map nV))) ⟨none,rfl,Same.new hD2,upd_same⟩ ?_ ?_ ?_
    · rintro i σ H2 _ ⟨v,rfl,sm2,h2⟩
      exact SqL.of (sm2 _ _ h1)
    · rintro i x σ H2 hx ⟨v,rfl,sm2,h2⟩
      obtain ⟨p,hp,rfl⟩:=map_some hx
      have hpm:p∈lowL M M.length:=List.mem_of_getElem? hp
      obtain ⟨j,hj,hpj⟩:∃ j,M[p]?=some (some j)∧p < j:=by
        have:=(List.mem_filter.mp hpm).2
        unfold isLow at this
        split at this
        · rename_i j hj; exact ⟨j,hj,of_decide_eq_true this⟩
        · cases this
      have lt:((((lowL M M.length).take i).filter (isFree M)).map nV).length < sizeLine:=by
        rw [List.length_map]
        exact small1000 (by
          have h1:=List.length_filter_le (isFree M) ((lowL M M.length).take i)
          have h2:=List.length_take_le i (lowL M M.length)
          have h3:=List.length_take_le' i (lowL M M.length)
          have h4:=low_le M M.length
          omega)
      dsimp only [gName]
      refine ⟨_,rfl,_,_,rfl,rfl,⟨by decide,by decide⟩,_,rfl,_,rfl,m,_,_,_,rfl,rfl,SqL.of (sm2 _ _ (sm _ _ hm)),map_at hj,_,_,rfl,rfl,⟨by decide,by decide⟩,rfl,_,rfl,?_⟩
      by_cases c:p / 3=j / 3
      · rw [show (!decide (V.int ((p:Int) / 3)=V.int ((j:Int) / 3)))=false by
          rw [show (p:Int) / 3=(j:Int) / 3 by omega]; simp]
        refine iteF ⟨_,rfl,sm2,?_⟩
        rw [h2,fil_step hp,if_neg (by unfold isFree; rw [hj]; simp [c])]
      · rw [show (!decide (V.int ((p:Int) / 3)=V.int ((j:Int) / 3)))=true by
          rw [decide_eq_false (fun z=>c (by injection z; omega))]; rfl]
        refine iteT ⟨_,rfl,_,h2,lt,_,rfl,Same.add sm2 hD2,?_⟩
        rw [upd_same,fil_step hp,if_pos (by unfold isFree; rw [hj]; simp [c,hpj]),List.map_append]
        rfl
    rintro σ H2 ⟨v,rfl,sm2,h2⟩
    rw [List.length_map,List.take_length,free_low] at h2
    exact k D2 H2 (sm.trans sm2) hD20 h2
end
end KT
set_option maxHeartbeats 4000000
namespace KT
open PySem L2
noncomputable def isL (way:Str):Bool:=decide (way="left")
noncomputable def sp_look_way (EW:Addr):Sp:=fun vs H Q E=>∃ way:Str,vs=[.str way]∧(way="left"∨way="right"→Q .non H)∧(¬ (way="left"∨way="right")→E (.ref EW) none H)
structure Wrong (EW ES ER EL:Addr) (M:List (Option Nat)) (ns:List Int) (x:Int) (way:Str) (H:Hp) (E:XK) (G:Nat→Nat→Hp→Prop):Prop where
 noway:¬ (way="left"∨way="right")→E (.ref EW) none H
 seam:way="left"∨way="right"→x ∉ keys ns ns.length→E (.ref ES) none H
 rim:way="left"∨way="right"→∀ H',Same H H'→x∈keys ns ns.length→sortOf ns x="rim"→E (.ref ER) none H'
 lock:way="left"∨way="right"→∀ H',Same H H'→x∈keys ns ns.length→sortOf ns x="locked"→E (.ref EL) none H'
 go:way="left"∨way="right"→∀ a b H',Same H H'→pl ns ns.length x=[a,b]→a < b→M[a]?=some (some b)→a / 3≠b / 3→G a b H'
noncomputable def sp_shifts (C EW ES ER EL:Addr):Sp:=fun vs H Q E=>∃ (p:Addr) (M:List (Option Nat)) (ns:List Int) (x:Int) (way:Str),vs=[.ref p,.int x,.str way]∧TentAt C H p M ns∧TD M ns ∧
 Wrong EW ES ER EL M ns x way H E fun a b H'=>∀ l,H l=none→H' l=some (.dK (glV (isL way) a b))→Q (.ref l) H'
theorem ways_val (way:Str):(valV [((Sum.inr "left":Key),V.str "right"),(Sum.inr "right",V.str "left")] (Sum.inr way)).isSome=true ↔ way="left"∨way="right":=by
 unfold valV
 by_cases c1:way="left"
 ·subst c1; simp
 ·by_cases c2:way="right"
  ·subst c2
   simp [List.find?_cons]
   split <;> simp
  ·have n1:¬ (Sum.inr "left":Key)=Sum.inr way:=fun z=>c1 (by injection z with z; exact z.symm)
   have n2:¬ (Sum.inr "right":Key)=Sum.inr way:=fun z=>c2 (by injection z with z; exact z.symm)
   simp [List.find?_cons,n1,n2,c1,c2]
section
variable {P:Program} {w:World} {K:PySem.W.Frag} {mg:Str→Option Value} {base:Heap} {t:Adr}
theorem sc_look_way:FnScope ["way"] ["way"] (defScope s_look_way):=⟨rfl,rfl,rfl,by decide +kernel,rfl,by decide +kernel,by decide +kernel⟩
theorem ok_look_way (T:Txt w K mg t):FnOk P w K mg base (CXr P w) 1 t.f_look_way t.d_look_way ["way"] (sp_look_way t.E_NoWay):=by
 refine T.p_look_way.F.okX sc_look_way (fun vs H Q E h=>?_) (fun cdv A outer s H vs Q E hr h=>?_)
 ·obtain ⟨way,rfl,_⟩:=h
  rfl
 ·obtain ⟨way,rfl,k1,k2⟩:=h
  refine ⟨_,(pssx_one (psx_if (pt_cmp (pc_knotin (pv 0) (pe_glob (v:=.ref t.g_CONTRARY_WAYS) rfl T.gd_CONTRARY_WAYS rfl)) (by with_unfolding_all rfl)) (pssx_one (psx_raise T.x_NoWay FBV rfl T.gx_NoWay rfl (pa_cons pe_str pa_nil))) pssx_nil)),?_⟩
  refine ⟨_,rfl,t.g_CONTRARY_WAYS,_,Sum.inr way,rfl,T.kd_CONTRARY_WAYS,rfl,_,rfl,?_⟩
  by_cases c:way="left"∨way="right"
  ·rw [(ways_val way).mpr c]
   exact iteF (k1 c)
  ·have:(valV [((Sum.inr "left":Key),V.str "right"),(Sum.inr "right",V.str "left")] (Sum.inr way)).isSome=false:=by
    rw [Bool.eq_false_iff]; exact fun z=>c ((ways_val way).mp z)
   rw [this]
   exact iteT ⟨by decide,k2 c⟩
theorem sc_shifts:FnScope ["tent","seam","way","a","b","c","d"] ["tent","seam","way"] (defScope s_shifts):=⟨rfl,rfl,rfl,by decide +kernel,rfl,by decide +kernel,by decide +kernel⟩
theorem ok_shifts (T:Txt w K mg t):FnOk P w K mg base (CXr P w) 5 t.f_shifts t.d_shifts ["tent","seam","way"] (sp_shifts t.C_Tent t.E_NoWay t.E_NoSeam t.E_Rim t.E_Locked):=by
 refine T.p_shifts.F.okX sc_shifts (fun vs H Q E h=>?_) (fun cdv A outer s H vs Q E hr h=>?_)
 ·obtain ⟨p,M,ns,x,way,rfl,_⟩:=h
  rfl
 ·obtain ⟨p,M,ns,x,way,rfl,ta,td,W⟩:=h
  refine ⟨_,(pssx_cons (psx_expr (pex_call (ok_look_way T) (hr.mono (by decide)) rfl T.p_look_way.g T.p_look_way.F.kp T.p_look_way.b .nil (pa_cons (pv 2) pa_nil)))
   (pssx_cons (psx_asg (pex_call (ok_square T) (hr.mono (by decide)) rfl T.p_square.g T.p_square.F.kp T.p_square.b .nil (pa_cons (pv 0) (pa_cons (pv 1) pa_nil))) (pg_tup rfl (pgs_cons (pg_name (i:=3) sc_shifts.nd rfl (Or.inl rfl)) (pgs_cons (pg_name (i:=4) sc_shifts.nd rfl (Or.inl rfl)) (pgs_cons (pg_name (i:=5) sc_shifts.nd rfl (Or.inl rfl)) (pgs_cons (pg_name (i:=6) sc_shifts.nd rfl (Or.inl rfl)) pgs_nil))))))
   (pssx_cons (psx_of (ps_if (pt_cmpR op_eq (pv 2) pe_str (nomark _)) (pss_one (ps_ret (pe_disp (pps_cons (pv 3) (pv 6) (pps_cons (pv 6) (pv 5) (pps_cons (pv 5) (pv 4) (pps_cons (pv 4) (pv 3) pps_nil)))) rfl rfl (List.cons_ne_nil _ _) (by decide)))) pss_nil))
   (pssx_one (psx_of (ps_ret (pe_disp (pps_cons (pv 3) (pv 4) (pps_cons (pv 4) (pv 5) (pps_cons (pv 5) (pv 6) (pps_cons (pv 6) (pv 3) pps_nil)))) rfl rfl (List.cons_ne_nil _ _) (by decide)))))))),?_⟩
  refine ⟨_,rfl,way,rfl,fun hw=>?_,W.noway⟩
  refine ⟨_,rfl,_,rfl,p,M,ns,x,rfl,ta,td,fun c H' sm=>⟨fun e=>W.rim hw H' sm c e,fun e=>W.lock hw H' sm c e,fun a b l e1 e2 e3 e4 e5 e6=>?_⟩,fun c=>W.seam hw c⟩
  refine ⟨l,_,rfl,SqT.of e6,rfl,_,_,rfl,_,_,rfl,_,_,rfl,_,_,rfl,rfl,?_⟩
  refine ⟨_,rfl,rfl,_,rfl,?_⟩
  by_cases c:way="left"
  ·have cl:isL way=true:=decide_eq_true c
   have:=fun H'' s''=>W.go hw a b H'' s'' e1 e2 e3 e4
   rw [cl] at this
   rw [decide_eq_true (show V.str way=V.str "left" by rw [c])]
   refine iteT ?_
   intro d hd
   refine ⟨_,rfl,_,rfl,_,rfl,_,rfl,_,rfl,_,rfl,_,rfl,_,rfl,upd_same,glV true a b,?_,?_,?_⟩
   ·rw [glV_left e4]; rfl
   ·rw [glV_left e4]; show 4≤15; decide
   ·rw [merge_gl e4]
    exact this _ (Same.add (Same.add sm (sm.free hd)) (sm.free hd)) d (sm.free hd) upd_same
  ·have cl:isL way=false:=decide_eq_false c
   have:=fun H'' s''=>W.go hw a b H'' s'' e1 e2 e3 e4
   rw [cl] at this
   rw [str_ne c]
   refine iteF ?_
   intro d hd
   refine ⟨_,rfl,_,rfl,_,rfl,_,rfl,_,rfl,_,rfl,_,rfl,_,rfl,upd_same,glV false a b,?_,?_,?_⟩
   ·rw [glV_right e4]; rfl
   ·rw [glV_right e4]; show 4≤15; decide
   ·rw [merge_gl e4]
    exact this _ (Same.add (Same.add sm (sm.free hd)) (sm.free hd)) d (sm.free hd) upd_same
end
end KT
set_option maxHeartbeats 4000000
namespace KT
open PySem L2
noncomputable def wayS (left:Bool):Str:=if left then "left" else "right"
theorem way_ok (left:Bool):wayS left="left"∨wayS left="right":=by cases left <;> simp [wayS]
theorem way_isL (left:Bool):isL (wayS left)=left:=by cases left <;> decide
noncomputable def sp_way:Sp:=fun vs H Q _=>∃ left:Bool,vs=[.bl left]∧Q (.str (wayS left)) H
noncomputable def sp_goals:Sp:=fun vs H Q _=>∃ (m:Addr) (M:List (Option Nat)) (n i j:Nat) (left:Bool),vs=[.ref m,.int i,.bl left]∧H m=some (.lst (M.map mV))∧M.length=3 * n∧n≤40∧M[i]?=some (some j)∧M[j]?=some (some i)∧i / 3≠j / 3 ∧
 ∀ (l:Addr) (H':Hp),Same H H'→H l=none→H' l=some (.lst (((List.range M.length).map fun (z:Nat)=>mvI left i j (z:Int)).map V.int))→Q (.ref l) H'
noncomputable def sqI (i j:Nat):List Int:=[after i,before i,after j,before j]
noncomputable def gst (left:Bool) (i j n k:Nat):List Int:=(List.range n).map fun (z:Nat)=>if (z:Int)∈(sqI i j).take k then mvI left i j (z:Int) else (z:Int)
theorem gst_zero (left:Bool) (i j n:Nat):gst left i j n 0=(List.range n).map fun (z:Nat)=>(z:Int):=by unfold gst; simp
theorem gst_all (left:Bool) (i j n:Nat):gst left i j n 4=(List.range n).map fun (z:Nat)=>mvI left i j (z:Int):=by
 unfold gst
 apply List.map_congr_left
 intro z _
 by_cases c:(z:Int)∈(sqI i j).take 4
 ·rw [if_pos c]
 ·rw [if_neg c]
  have n1:¬ (z:Int)=after i:=fun e=>c (by unfold sqI; simp [e])
  have n2:¬ (z:Int)=before j:=fun e=>c (by unfold sqI; simp [e])
  have n3:¬ (z:Int)=after j:=fun e=>c (by unfold sqI; simp [e])
  have n4:¬ (z:Int)=before i:=fun e=>c (by unfold sqI; simp [e])
  unfold mvI
  rw [if_neg n1,if_neg n2,if_neg n3,if_neg n4]
theorem gst_step {left:Bool} {i j n k q:Nat} (h:(sqI i j)[k]?=some (q:Int)) (hq:q < n):(gst left i j n k).set q (mvI left i j (q:Int))=gst left i j n (k + 1):=by
 apply List.ext_getElem?
 intro z
 unfold gst
 by_cases c:z=q
 ·subst c
  rw [List.getElem?_set_self (by simpa using hq),List.getElem?_map,List.getElem?_range hq]
  have:(z:Int)∈(sqI i j).take (k + 1):=by rw [List.take_add_one,h]; simp
  simp only [Option.map_some,this,if_true]
 ·rw [List.getElem?_set_ne (Ne.symm c),List.getElem?_map,List.getElem?_map]
  by_cases d:z < n
  ·rw [List.getElem?_range d]
   have:(z:Int)∈(sqI i j).take (k + 1) ↔ (z:Int)∈(sqI i j).take k:=by
    have c':¬ (z:Int)=(q:Int):=by omega
    rw [List.take_add_one,h]
    simp [c']
   simp only [Option.map_some,this]
  ·rw [List.getElem?_eq_none (by simpa using d)]
   rfl
theorem sq_mv {i j:Nat} (h:i / 3≠j / 3) (left:Bool) {k:Nat} (hk:k < 4):atI (sqr i j) ((if left then ((k:Int) + 3) % 4 else ((k:Int) + 1) % 4))=some (V.int (mvI left i j ((sqI i j).getD k 0))):=by
 obtain ⟨h1,h2,h3,h4,h5,h6⟩:=four_apart h
 have hk:k=0∨k=1∨k=2∨k=3:=by omega
 rcases hk with rfl | rfl | rfl | rfl <;> cases left <;> (unfold mvI sqI; simp [h1,h2,h3,h4,h5,h6,Ne.symm h1,Ne.symm h2,Ne.symm h3,Ne.symm h4,Ne.symm h5,Ne.symm h6]; rfl)
theorem sq_in {i j n k:Nat} (hi:i < 3 * n) (hj:j < 3 * n) (hk:k < 4):∃ q:Nat,(sqI i j)[k]?=some (q:Int)∧q < 3 * n:=by
 obtain ⟨a1,_,a3⟩:=after_div i
 obtain ⟨b1,_,b3⟩:=before_div i
 obtain ⟨c1,_,c3⟩:=after_div j
 obtain ⟨d1,_,d3⟩:=before_div j
 have hk:k=0∨k=1∨k=2∨k=3:=by omega
 rcases hk with rfl | rfl | rfl | rfl
 ·exact ⟨(after i).toNat,by show some (after i)=_; rw [Int.toNat_of_nonneg a3],by omega⟩
 ·exact ⟨(before i).toNat,by show some (before i)=_; rw [Int.toNat_of_nonneg b3],by omega⟩
 ·exact ⟨(after j).toNat,by show some (after j)=_; rw [Int.toNat_of_nonneg c3],by omega⟩
 ·exact ⟨(before j).toNat,by show some (before j)=_; rw [Int.toNat_of_nonneg d3],by omega⟩
theorem Wrong.free {EW ES ER EL:Addr} {M:List (Option Nat)} {ns:List Int} {x:Int} {left:Bool} {H:Hp} {E:XK} {G:Nat→Nat→Hp→Prop} {i j:Nat} (td:TD M ns) (hk:x∈keys ns ns.length) (hp:pl ns ns.length x=[i,j]) (ne:i / 3≠j / 3) (g:∀ H',Same H H'→G i j H'):Wrong EW ES ER EL M ns x (wayS left) H E G:=by
 have es:sortOf ns x="free":=by unfold sortOf; rw [hp]; exact if_neg ne
 refine ⟨fun c=>absurd (way_ok left) c,fun _ c=>absurd hk c,fun _ H' _ _ e=>absurd (es.symm.trans e) t_fr,fun _ H' _ _ e=>absurd (es.symm.trans e) t_fl,fun _ a b H' s e1 _ _ _=>?_⟩
 rw [hp] at e1
 cases e1
 exact g H' s
section
variable {P:Program} {w:World} {K:PySem.W.Frag} {mg:Str→Option Value} {base:Heap} {t:Adr}
theorem sc_l_way:FnScope ["_law_left"] ["_law_left"] (defScope s_l_way):=⟨rfl,rfl,rfl,by decide +kernel,rfl,by decide +kernel,by decide +kernel⟩
theorem ok_l_way (T:Txt w K mg t):FnOk P w K mg base (CXr P w) 1 t.f_l_way t.d_l_way ["_law_left"] sp_way:=by
 refine T.p_l_way.F.okR sc_l_way (fun vs H Q E h=>?_) (fun cdv A outer s H vs Q E hr h=>?_)
 ·obtain ⟨l,rfl,_⟩:=h
  rfl
 ·obtain ⟨l,rfl,k⟩:=h
  refine ⟨_,(pss_cons (ps_if (pt_val (pv 0)) (pss_one (ps_ret pe_str)) pss_nil)
   (pss_one (ps_ret pe_str))),?_⟩
  refine ⟨_,rfl,_,rfl,?_⟩
  cases l with
  | true=>exact iteT k
  | false=>exact iteF k
theorem sc_l_goals:FnScope ["_law_mates","_law_place","_law_left","_law_around_here","_law_goals_here","_law_k"] ["_law_mates","_law_place","_law_left"] (defScope s_l_goals):=⟨rfl,rfl,rfl,by decide +kernel,rfl,by decide +kernel,by decide +kernel⟩
theorem ok_l_goals (T:Txt w K mg t):FnOk P w K mg base (CXr P w) 2 t.f_l_goals t.d_l_goals ["_law_mates","_law_place","_law_left"] sp_goals:=by
 refine T.p_l_goals.F.okR sc_l_goals (fun vs H Q E h=>?_) (fun cdv A outer s H vs Q E hr h=>?_)
 ·obtain ⟨m,M,n,i,j,left,rfl,_⟩:=h
  rfl
 ·obtain ⟨m,M,n,i,j,left,rfl,hm,hn,hn40,hij,hji,ne,k⟩:=h
  refine ⟨_,(pss_cons (ps_set (i:=3) sc_l_goals.nd rfl (Or.inl rfl) (pe_call (ok_l_around T) (hr.mono (by decide)) rfl T.p_l_around.g T.p_l_around.F.kp T.p_l_around.b .nil passR (pa_cons (pv 0) (pa_cons (pv 1) pa_nil))))
   (pss_cons (ps_set (i:=4) sc_l_goals.nd rfl (Or.inl rfl) (pe_listRange rfl T.n_list rfl T.n_range rfl (pa_cons (pe_callB call_len_seq (by rfl) T.n_len PySem.boot_len (pa_cons (pv 0) pa_nil)) pa_nil)))
   (pss_cons (ps_for PassesOwn.never rfl (pi_range1 rfl T.n_range (pa_cons pe_int pa_nil)) (pg_name (i:=5) sc_l_goals.nd rfl (Or.inl rfl)) (pss_one (ps_if (pt_val (pv 2)) (pss_one (ps_asg (pe_ix ix_list (pv 3) (pe_op op_mod (pe_op op_add (pv 5) pe_int) pe_int) (fun _ _=>rfl)) (pg_sub (pv 4) (pe_ix ix_list (pv 3) (pv 5) (fun _ _=>rfl)) set_list))) (pss_one (ps_asg (pe_ix ix_list (pv 3) (pe_op op_mod (pe_op op_add (pv 5) pe_int) pe_int) (fun _ _=>rfl)) (pg_sub (pv 4) (pe_ix ix_list (pv 3) (pv 5) (fun _ _=>rfl)) set_list))))))
   (pss_one (ps_ret (pv 4)))))),?_⟩
  have hi:i < 3 * n:=by rw [← hn]; exact (List.getElem?_eq_some_iff.mp hij).1
  have hj:j < 3 * n:=by rw [← hn]; exact (List.getElem?_eq_some_iff.mp hji).1
  refine ⟨_,rfl,_,rfl,m,M,i,j,rfl,hm,hij,fun ar H1 s1 har h1=>?_⟩
  refine ⟨_,rfl,m,_,rfl,.inl (SqL.of (s1 _ _ hm)),M.length,by rw [List.length_map],by omega,fun g hg=>?_⟩
  have hag:ar≠g:=ne_of_none h1 hg
  have hg0:H g=none:=s1.free hg
  dsimp only [gName]
  show tSeq (tFor _ _ _) _ _ _ _
  refine seq_post (fun σ H2=>∃ v,σ=[some (.ref m),some (.int i),some (.bl left),some (.ref ar),some (.ref g),v]∧Same H H2∧H2 g=some (.lst ((gst left i j (3 * n) 4).map V.int))) (fun nx hnx=>?_) ?_
  ·refine ⟨4,rfl,by decide,by decide,?_⟩
   refine for_range (n:=4) (fun c σ H2=>∃ v,σ=[some (.ref m),some (.int i),some (.bl left),some (.ref ar),some (.ref g),v]∧Same H H2∧H2 ar=some (.lst (sqr i j))∧H2 g=some (.lst ((gst left i j (3 * n) c).map V.int))) ⟨none,rfl,Same.add s1 hg0,by rw [upd_ne hag]; exact h1,?_⟩ ?_ ?_
   ·rw [upd_same,gst_zero,List.map_map,hn]
    rfl
   ·rintro c σ H2 hc ⟨v,rfl,s2,h2,h3⟩
    obtain ⟨q,eq,hq⟩:=sq_in hi hj hc
    have e1:atI (sqr i j) (0 + (c:Int))=some (V.int q):=by
     rw [Int.zero_add]
     refine atI_nat ?_
     show ((sqI i j).map V.int)[c]?=_
     rw [List.getElem?_map,eq]; rfl
    have ed:(sqI i j).getD c 0=(q:Int):=by rw [List.getD_eq_getElem?_getD,eq]; rfl
    have hlen:q < ((gst left i j (3 * n) c).map V.int).length:=by rw [List.length_map]; unfold gst; simpa using hq
    have fin:∀ H3:Hp,Same H H3→H3 ar=some (.lst (sqr i j))→H3 g=some (.lst (((gst left i j (3 * n) c).map V.int).set q (V.int (mvI left i j (q:Int)))))→∃ v,[some (V.ref m),some (.int i),some (.bl left),some (.ref ar),some (.ref g),some (.int (0 + c))]=[some (.ref m),some (.int i),some (.bl left),some (.ref ar),some (.ref g),v]∧Same H H3∧H3 ar=some (.lst (sqr i j))∧H3 g=some (.lst ((gst left i j (3 * n) (c + 1)).map V.int)):=fun H3 a1 a2 a3 =>
     ⟨_,rfl,a1,a2,by rw [a3,← gst_step eq hq,List.map_set]⟩
    have m0:=sq_mv ne left hc
    rw [ed] at m0
    dsimp only [gName]
    refine ⟨_,rfl,_,rfl,?_⟩
    cases left with
    | true =>
     refine iteT ⟨_,rfl,_,rfl,_,_,rfl,rfl,_,_,rfl,rfl,(by show (0:Int) < 4; decide),ar,_,_,_,rfl,rfl,SqL.of h2,(by rw [Int.zero_add]; exact m0),?_⟩
     refine ⟨_,rfl,_,rfl,_,rfl,ar,_,_,_,rfl,rfl,SqL.of h2,e1,g,_,_,q,rfl,rfl,h3,ixN_nat hlen,?_⟩
     exact fin _ (Same.add s2 hg0) (by rw [upd_ne hag]; exact h2) upd_same
    | false =>
     refine iteF ⟨_,rfl,_,rfl,_,_,rfl,rfl,_,_,rfl,rfl,(by show (0:Int) < 4; decide),ar,_,_,_,rfl,rfl,SqL.of h2,(by rw [Int.zero_add]; exact m0),?_⟩
     refine ⟨_,rfl,_,rfl,_,rfl,ar,_,_,_,rfl,rfl,SqL.of h2,e1,g,_,_,q,rfl,rfl,h3,ixN_nat hlen,?_⟩
     exact fin _ (Same.add s2 hg0) (by rw [upd_ne hag]; exact h2) upd_same
   ·rintro σ H2 ⟨v,rfl,s2,_,h3⟩
    exact hnx _ _ ⟨v,rfl,s2,h3⟩
  rintro σ H2 ⟨v,rfl,s2,h3⟩
  refine ⟨_,rfl,k g H2 s2 hg0 ?_⟩
  rw [h3,gst_all,hn]
end
end KT
set_option maxHeartbeats 4000000
namespace KT
open PySem L2
theorem flat_loop {K:PySem.W.Frag} {D N:Addr} {ns:List Int} {ts:List Addr} {n:Nat} {H2:Hp} {R:St→Hp→Prop} (hD2:H2 D=some (.lst (ts.map V.ref))) (ht2:∀ (k:Nat) (q:Addr),ts[k]?=some q→H2 q=some (.tup (row3 ns k))) (hnn:ns.length=3 * n) (htn:ts.length=n) (n2:n≤40) (hN:H2 N=none)
  (hR:∀ σ H3,Same H2 H3→H3 N=some (.lst (ns.map V.int))→R σ H3):LoopR (Itl K D) (gName 0) tYes (tGen (iTup K (tVar 0)) (gName 1) tYes (tEmit (tVar 1) N)) R [none,none] (upd H2 N (.lst [])):=by
 refine loop_list (xs:=ts.map V.ref) (fun i σ H3=>∃ (v v':Option V),σ=[v,v']∧Same H2 H3∧H3 N=some (.lst ((ns.take (3 * i)).map V.int))) ⟨none,none,rfl,Same.new hN,upd_same⟩ ?_ ?_ ?_
 ·rintro i σ H3 _ ⟨v,v',rfl,sm,h3⟩
  exact SqL.of (sm _ _ hD2)
 ·rintro i x σ H3 hx ⟨v,v',rfl,sm,h3⟩
  dsimp only [gName,tYes]
  rw [if_pos rfl]
  obtain ⟨tt,ht,rfl⟩:=map_some hx
  have hi:i < n:=by rw [← htn]; exact (List.getElem?_eq_some_iff.mp ht).1
  refine ⟨_,rfl,tt,rfl,⟨_,SqT.of (sm _ _ (ht2 i tt ht))⟩,?_⟩
  refine loop_tup (xs:=row3 ns i) (fun j σ H4=>∃ (v':Option V),σ=[some (.ref tt),v']∧Same H2 H4∧H4 N=some (.lst ((ns.take (3 * i)).map V.int ++ (row3 ns i).take j))) ⟨v',rfl,sm,by rw [h3,List.take_zero,List.append_nil]⟩ ?_ ?_ ?_
  ·rintro j σ H4 _ ⟨v',rfl,sm,h4⟩
   exact SqT.of (sm _ _ (ht2 i tt ht))
  ·rintro j x σ H4 hx ⟨v',rfl,sm,h4⟩
   dsimp only [gName,tYes]
   rw [if_pos rfl]
   refine ⟨_,rfl,_,h4,?_,_,rfl,Same.add sm hN,?_⟩
   ·rw [List.length_append,List.length_map,List.length_take,List.length_take]
    exact small1000 (by have:(row3 ns i).length=3:=rfl; omega)
   ·rw [upd_same,List.take_add_one,hx,← List.append_assoc]
    rfl
  ·rintro σ H4 ⟨v',rfl,sm,h4⟩
   refine ⟨_,_,rfl,sm,?_⟩
   rw [h4,List.take_length,take_row hnn hi]
 rintro σ H3 ⟨v,v',rfl,sm3,h3⟩
 have eall:ns.take (3 * (ts.map V.ref).length)=ns:=by rw [List.length_map,htn,← hnn,List.take_length]
 rw [eall] at h3
 exact hR _ _ sm3 h3
theorem cut_row {ns:List Int} {i n:Nat} (hn:ns.length=3 * n) (hi:i < n):cutV (ns.map V.int) (some (0 + (i:Int) * 3)) (some (0 + (i:Int) * 3 + 3))=row3 ns i:=by
 have e0:(0 + (i:Int) * 3)=((3 * i:Nat):Int):=by omega
 have e3:(0 + (i:Int) * 3 + 3)=((3 * i + 3:Nat):Int):=by omega
 have l0:3 * i < ns.length:=by omega
 have l1:3 * i + 1 < ns.length:=by omega
 have l2:3 * i + 2 < ns.length:=by omega
 unfold cutV
 rw [e3,e0,HT.sIx_nat,HT.sIx_nat,List.length_map,Nat.min_eq_left (by omega),Nat.min_eq_left (by omega),show 3 * i + 3 - 3 * i=3 by omega]
 have g:∀ k,(hk:k < ns.length)→(ns.map V.int).drop k=V.int (ns.getD k 0) :: (ns.map V.int).drop (k + 1):=fun k hk=>by
  rw [List.drop_eq_getElem_cons (by rw [List.length_map]; exact hk),List.getElem_map,List.getD_eq_getElem?_getD,List.getElem?_eq_getElem hk]
  rfl
 rw [g _ l0,g _ l1,g _ l2]
 rfl
noncomputable def sp_exchanged (C EW ES ER EL:Addr):Sp:=fun vs H Q E=>∃ (p:Addr) (M:List (Option Nat)) (ns:List Int) (x:Int) (way:Str),vs=[.ref p,.int x,.str way]∧TentAt C H p M ns∧TD M ns ∧
 Wrong EW ES ER EL M ns x way H E fun a b H'=>∀ p',H p'=none→TentAt C H' p' (exM (isL way) a b M) (exN (isL way) a b ns)→Q (.ref p') H'
section
variable {P:Program} {w:World} {K:PySem.W.Frag} {mg:Str→Option Value} {base:Heap} {t:Adr}
theorem sc_exchanged:FnScope ["tent","seam","way","goals","names","place","goal"] ["tent","seam","way"] (defScope s_exchanged):=⟨rfl,rfl,rfl,by decide +kernel,rfl,by decide +kernel,by decide +kernel⟩
theorem ok_exchanged (T:Txt w K mg t):FnOk P w K mg base (CXr P w) 6 t.f_exchanged t.d_exchanged ["tent","seam","way"] (sp_exchanged t.C_Tent t.E_NoWay t.E_NoSeam t.E_Rim t.E_Locked):=by
  refine T.p_exchanged.F.okX sc_exchanged (fun vs H Q E h=>?_) (fun cdv A outer s H vs Q E hr h=>?_)
  · obtain ⟨p,M,ns,x,way,rfl,_⟩:=h
    rfl
  · obtain ⟨p,M,ns,x,way,rfl,ta,td,W⟩:=h
    refine ⟨_,(pssx_cons (psx_set (i:=3) sc_exchanged.nd rfl (Or.inl rfl) (pex_call (ok_shifts T) (hr.mono (by decide)) rfl T.p_shifts.g T.p_shifts.F.kp T.p_shifts.b .nil (pa_cons (pv 0) (pa_cons (pv 1) (pa_cons (pv 2) pa_nil)))))
      (pssx_cons (psx_of (ps_set (i:=4) sc_exchanged.nd rfl (Or.inr rfl) (pe_compG (ts:=["row","name"]) (fv:=[]) ⟨rfl,by decide +kernel,by decide +kernel,blkFree (by rfl),trivial⟩ rfl (pi_list (pe_meth0 (pv 0) T.cl_Tent T.p_Tent_rows.m (ok_Tent_rows T) (hr.mono (by decide)) T.p_Tent_rows.b .nil passR)) (fun _ _ _ _=>(pg_name (i:=0) (show List.Nodup (["row","name"]:List Str) from by decide +kernel) rfl (Or.inl rfl) (Or.inr rfl))) (fun _ _ _ _=>pts_nil) (fun _ _ _=>rfl) (fun _ _ _ _ _ _=>pb_gen rfl rfl (pi_tupK K (pv 0)) (pg_name (i:=1) (show List.Nodup (["row","name"]:List Str) from by decide +kernel) rfl (Or.inl rfl) (Or.inr rfl)) pts_nil (pv 1)))))
      (pssx_cons (psx_of (ps_for PassesOwn.never rfl (pi_items (pv 3) ⟨rfl,rfl,rfl⟩) (pg_tup rfl (pgs_cons (pg_name (i:=5) sc_exchanged.nd rfl (Or.inl rfl)) (pgs_cons (pg_name (i:=6) sc_exchanged.nd rfl (Or.inl rfl)) pgs_nil))) (pss_one (ps_asg (pe_meth (pv 0) T.cl_Tent T.p_Tent_seam_at.m (ok_Tent_seam_at T) (hr.mono (by decide)) T.p_Tent_seam_at.b .nil passR (pa_cons (pv 5) pa_nil)) (pg_sub (pv 4) (pv 6) set_list)))))
      (pssx_one (psx_of (ps_ret (pe_make T.mk_Tent (ok_Tent_init T) (hr.mono (by decide)) rfl T.gC_Tent T.p_Tent_init.b .nil passR (pa_cons (pe_compG (ts:=["k"]) (fv:=[("names",4)]) ⟨rfl,by decide +kernel,by decide +kernel,blkFree (by rfl),⟨⟨rfl,rfl,Or.inl rfl⟩,trivial⟩⟩ rfl (pi_range3 rfl T.n_range (pa_cons pe_int (pa_cons (pe_callB call_len_seq (by rfl) T.n_len PySem.boot_len (pa_cons (pv 4) pa_nil)) (pa_cons pe_int pa_nil)))) (fun _ _ _ _=>(pg_name (i:=0) (show List.Nodup (["k","names"]:List Str) from by decide +kernel) rfl (Or.inl rfl) (Or.inr rfl))) (fun _ _ _ _=>pts_nil) (fun _ _ _=>rfl) (fun _ _ _ _ _ _=>pb_emit (pe_callTy (call_tuple_ofK K) (by rfl) T.n_tuple PySem.Pv.boot_tuple (pa_cons (pe_slice (sl_listK K) (pv 1) (po_some (pv 0)) (po_some (pe_op op_add (pv 0) pe_int))) pa_nil)))) pa_nil)))))))),?_⟩
    refine ⟨_,rfl,_,rfl,_,rfl,p,M,ns,x,way,rfl,ta,td,⟨W.noway,W.seam,W.rim,W.lock,fun hw i j H1 s1 e1 e2 e3 e4 l hl hd1=>?_⟩⟩
    have g:=fun H' s'=>W.go hw i j H' s' e1 e2 e3 e4
    generalize isL way=left at g hd1
    obtain ⟨n,n1,n40,hn⟩:=td.n
    have hMl:=td.len
    have hnn:ns.length=3 * n:=by omega
    have hi:i < 3 * n:=by rw [← hn]; exact (List.getElem?_eq_some_iff.mp e3).1
    have hj:j < 3 * n:=by rw [← hn]; exact (List.getElem?_eq_some_iff.mp (td.inv i j e3).1).1
    have ta1:=ta.same s1
    obtain ⟨dx,cl,na,sp,mt,o,f,B⟩:=id ta1
    refine ⟨_,rfl,p,dx,_,rfl,B.ins,fl_none _ _ _ _,p,M,ns,rfl,ta1,fun l2 ts hl2 hlen h3=>?_⟩
    have s2:Same H1 (upd H1 l2 (.lst (ts.map V.ref))):=Same.new hl2
    refine ⟨l2,rfl,⟨_,SqL.of upd_same⟩,fun N hN=>?_⟩
    refine flat_loop (n:=n) upd_same (fun k q e=>s2 _ _ (h3 k q e)) hnn (by omega) n40 hN fun σ3 H3 s3 h3'=>?_
    have s13:=s2.trans s3
    have hN0:H N=none:=(s1.trans s2).free hN
    have hd3:=s13 _ _ hd1
    have hNl:N≠l:=fun z=>by rw [z,hd3] at h3'; cases h3'
    clear h3 hlen
    dsimp only [gName]
    show tSeq (tFor _ _ _) _ _ _ _
    refine seq_post (fun σ H4=>∃ v5 v6,σ=[some (.ref p),some (.int x),some (.str way),some (.ref l),some (.ref N),v5,v6]∧Same H H4∧H4 N=some (.lst ((exN left i j ns).map V.int))) (fun nx hnx=>?_) ?_
    · refine ⟨_,rfl,l,_,rfl,.inl ⟨hd3,fun o=>?_⟩⟩
      refine for_items (fun k σ H4=>∃ v5 v6,σ=[some (.ref p),some (.int x),some (.str way),some (.ref l),some (.ref N),v5,v6]∧Same H H4∧H4 l=some (.frz o (.dK (glV left i j)))∧H4 N=some (.lst ((nst left i j ns k).map V.int)))
        ⟨_,_,rfl,Same.add (s1.trans s13) hl,upd_same,by rw [upd_ne hNl,nst_zero]; exact h3'⟩ ?_ ?_ ?_
      · rintro k σ H4 _ ⟨v5,v6,rfl,s4,h4,_⟩
        exact h4
      · rintro k key v σ H4 q hk hq ⟨v5,v6,rfl,s4,h4,h5⟩
        obtain ⟨z,hz,rfl,rfl⟩:∃ z,(fourL left i j)[k]?=some z∧key=Sum.inl z∧v=V.int (mvI left i j z):=by
          unfold glV at hk
          rw [List.getElem?_map] at hk
          cases e:(fourL left i j)[k]? with
          | none=>rw [e] at hk; cases hk
          | some z=>rw [e] at hk; cases hk; exact ⟨z,rfl,rfl,rfl⟩
        obtain ⟨z0,z1⟩:=four_in hi hj hz
        obtain ⟨c,rfl⟩:∃ c:Nat,z=c:=⟨z.toNat,by omega⟩
        have hc:c < ns.length:=by omega
        have hq':mvN left i j c < ns.length:=by rw [hnn]; exact mvN_lt hi hj left (by omega)
        have s5:Same H4 (upd H4 q (.tup [kV (Sum.inl (c:Int)),V.int (mvI left i j c)])):=Same.new hq
        have ta4:=(ta.same s4).same s5
        obtain ⟨dx4,cl4,na4,sp4,mt4,o4,ff4,B4⟩:=id ta4
        have hNq:N≠q:=ne_of_none h5 hq
        have hlq:l≠q:=ne_of_none h4 hq
        refine ⟨q,_,rfl,SqT.of upd_same,rfl,_,_,rfl,_,_,rfl,rfl,?_⟩
        refine ⟨_,rfl,p,dx4,_,rfl,B4.ins,fl_none _ _ _ _,_,rfl,p,M,ns,c,rfl,ta4,fun i' y z1 z2=>?_,fun z=>absurd ⟨by omega,by omega⟩ z⟩
        obtain rfl:c=i':=by omega
        have ey:ns.getD c 0=y:=by rw [List.getD_eq_getElem?_getD,z2]; rfl
        have hlen:((nst left i j ns k).map V.int).length=ns.length:=by unfold nst; simp
        refine ⟨_,rfl,_,rfl,N,_,_,mvN left i j c,rfl,rfl,(by rw [upd_ne hNq]; exact h5),(by rw [hlen,← mvN_eq]; exact ixN_nat hq'),?_⟩
        refine ⟨_,_,rfl,Same.add (Same.add s4 (s4.free hq)) hN0,?_,?_⟩
        · rw [upd_ne (Ne.symm hNl),upd_ne hlq]; exact h4
        · rw [upd_same,← nst_step e4 hz hq',ey,List.map_set]
      · rintro σ H4 ⟨v5,v6,rfl,s4,h4,h5⟩
        have e:(glV left i j).length=4:=by unfold glV; rw [List.length_map,four_len]
        rw [e,nst_all e4] at h5
        exact hnx _ _ ⟨_,_,rfl,s4,h5⟩
    rintro σ H4 ⟨v5,v6,rfl,s4,h4⟩
    have tdx:TD (exM left i j M) (exN left i j ns):=td.ex (by omega) (by omega) e4 left
    have hxl:(exN left i j ns).length=3 * n:=by rw [exN_len]; exact hnn
    generalize exN left i j ns=ns' at h4 tdx hxl g ⊢
    refine ⟨_,rfl,N,_,rfl,.inl (SqL.of h4),n,(by rw [List.length_map,hxl]),by omega,fun D hD=>?_⟩
    have hND:N≠D:=ne_of_none h4 hD
    refine loop_range3 (fun c σ H5=>∃ v ts,σ=[v,some (.ref N)]∧Same H4 H5∧H5 D=some (.lst (ts.map V.ref))∧ts.length=c∧∀ (k:Nat) (q:Addr),ts[k]?=some q→H5 q=some (.tup (row3 ns' k)))
      ⟨none,[],rfl,Same.new hD,upd_same,rfl,fun k q e=>by simp at e⟩ ?_ ?_
    · rintro c σ H5 hc ⟨v,ts,rfl,s5,h5,hts,hrow⟩
      dsimp only [gName,tYes]
      rw [if_pos rfl]
      have h45:=s5 _ _ h4
      refine ⟨_,rfl,_,rfl,_,rfl,_,rfl,_,_,rfl,rfl,_,rfl,N,_,rfl,SqL.of h45,fun q hq=>?_⟩
      rw [cut_row hxl hc]
      refine ⟨q,_,rfl,.inl ⟨SqL.of upd_same,fun q2 hq2=>?_⟩⟩
      obtain ⟨hqq,hq2'⟩:=upd_none hq2
      have hDq:D≠q:=ne_of_none h5 hq
      have hDq2:D≠q2:=ne_of_none h5 hq2'
      have s6:Same H5 (upd (upd H5 q (.lst (row3 ns' c))) q2 (.tup (row3 ns' c))):=Same.add (Same.new hq) hq2'
      refine ⟨_,s6 _ _ h5,(by rw [List.length_map]; exact small1000 (by omega)),_,ts ++ [q2],rfl,Same.add (s5.trans s6) hD,?_,?_,?_⟩
      · rw [upd_same]; simp
      · rw [List.length_append,List.length_singleton,hts]
      · intro k q3 z
        by_cases hk:k < ts.length
        · rw [List.getElem?_append_left hk] at z
          have g3:=s6 _ _ (hrow k q3 z)
          rw [upd_ne (fun e=>by rw [e,s6 _ _ h5] at g3; cases g3)]
          exact g3
        · have hk2:k=ts.length:=by
            have:=(List.getElem?_eq_some_iff.mp z).1
            rw [List.length_append,List.length_singleton] at this
            omega
          subst hk2
          have:q3=q2:=by simpa using z.symm
          subst this
          rw [upd_ne (Ne.symm hDq2),upd_same,hts]
    rintro σ H5 ⟨v,ts,rfl,s5,h5,hts,hrow⟩
    intro y dy hy hdy hne
    have s6:Same H5 (upd (upd H5 dy (.own y)) y (.ins t.C_Tent dy [])):=Same.add (Same.new hdy) hy
    refine ⟨y,D,dy,_,ns',rfl,upd_same,⟨ts,s6 _ _ h5,by omega,fun k q e=>s6 _ _ (hrow k q e)⟩,tdx,by omega,fun H7 old ta7=>⟨rfl,?_⟩⟩
    have s57:Same H5 H7:=fun b u e=>old b u (ne_of_none e hy) (s6 b u e)
    have s07:=(s4.trans s5).trans s57
    exact g H7 s07 y ((s4.trans s5).free hy) ta7
noncomputable def sp_shift:Sp:=fun vs H Q _=>∃ (m r g:Addr) (M:List (Option Nat)) (ns:List Int) (i j:Nat) (left:Bool),vs=[.ref m,.ref r,.ref g]∧H m=some (.lst (M.map mV))∧RowsAt H r ns∧H g=some (.lst (((List.range M.length).map fun (z:Nat)=>mvI left i j (z:Int)).map V.int))∧TD M ns∧i < M.length∧j < M.length∧i / 3≠j / 3 ∧
 ∀ (p m' r':Addr) (H':Hp),Same H H'→H' p=some (.tup [.ref m',.ref r'])→H' m'=some (.lst ((exM left i j M).map mV))→RowsAt H' r' (exN left i j ns)→Q (.ref p) H'
theorem sc_l_shift:FnScope ["_law_mates","_law_rows_here","_law_goals_here","_law_names","_law_ties","_law_p"] ["_law_mates","_law_rows_here","_law_goals_here"] (defScope s_l_shift):=⟨rfl,rfl,rfl,by decide +kernel,rfl,by decide +kernel,by decide +kernel⟩
theorem ok_l_shift (T:Txt w K mg t):FnOk P w K mg base (CXr P w) 1 t.f_l_shift t.d_l_shift ["_law_mates","_law_rows_here","_law_goals_here"] sp_shift:=by
 refine T.p_l_shift.F.okR sc_l_shift (fun vs H Q E h=>?_) (fun cdv A outer s H vs Q E hr h=>?_)
 ·obtain ⟨m,r,g,M,ns,i,j,left,rfl,_⟩:=h
  rfl
 ·obtain ⟨m,r,g,M,ns,i,j,left,rfl,hm,hrw,hg,td,hi,hj,ne,k⟩:=h
  refine ⟨_,(pss_cons (ps_set (i:=3) sc_l_shift.nd rfl (Or.inr rfl) (pe_op op_rep (pe_lst (pa_cons pe_int pa_nil)) (pe_callB call_len_seq (by rfl) T.n_len PySem.boot_len (pa_cons (pv 0) pa_nil))))
   (pss_cons (ps_set (i:=4) sc_l_shift.nd rfl (Or.inl rfl) (pe_op op_rep (pe_lst (pa_cons pe_non pa_nil)) (pe_callB call_len_seq (by rfl) T.n_len PySem.boot_len (pa_cons (pv 0) pa_nil))))
   (pss_cons (ps_for PassesOwn.never rfl (pi_range1 rfl T.n_range (pa_cons (pe_callB call_len_seq (by rfl) T.n_len PySem.boot_len (pa_cons (pv 0) pa_nil)) pa_nil)) (pg_name (i:=5) sc_l_shift.nd rfl (Or.inl rfl)) (pss_cons (ps_asg (pe_ix ix_tup (pe_ix ix_list (pv 1) (pe_op op_fdiv (pv 5) pe_int) (fun _ _=>rfl)) (pe_op op_mod (pv 5) pe_int) (fun _ _=>rfl)) (pg_sub (pv 3) (pe_ix ix_list (pv 2) (pv 5) (fun _ _=>rfl)) set_list))
   (pss_one (ps_if (pt_cmpR op_notN (pe_ix ix_list (pv 0) (pv 5) (fun _ _=>rfl)) pe_non (nomark _)) (pss_one (ps_asg (pe_ix ix_list (pv 2) (pe_ix ix_list (pv 0) (pv 5) (fun _ _=>rfl)) (fun _ _=>rfl)) (pg_sub (pv 4) (pe_ix ix_list (pv 2) (pv 5) (fun _ _=>rfl)) set_list))) pss_nil))))
   (pss_one (ps_ret (pe_tup (pa_cons (pv 4) (pa_cons (pe_compG (ts:=["_law_k"]) (fv:=[("_law_names",3)]) ⟨rfl,by decide +kernel,by decide +kernel,blkFree (by rfl),⟨⟨rfl,rfl,Or.inl rfl⟩,trivial⟩⟩ rfl (pi_range1 rfl T.n_range (pa_cons (pe_callB call_len_seq (by rfl) T.n_len PySem.boot_len (pa_cons (pv 1) pa_nil)) pa_nil)) (fun _ _ _ _=>(pg_name (i:=0) (show List.Nodup (["_law_k","_law_names"]:List Str) from by decide +kernel) rfl (Or.inl rfl) (Or.inr rfl))) (fun _ _ _ _=>pts_nil) (fun _ _ _=>rfl) (fun _ _ _ _ _ _=>pb_emit (pe_tup (pa_cons (pe_ix (ix_listK K) (pv 1) (pe_op op_mul pe_int (pv 0)) (fun _ _=>rfl)) (pa_cons (pe_ix (ix_listK K) (pv 1) (pe_op op_add (pe_op op_mul pe_int (pv 0)) pe_int) (fun _ _=>rfl)) (pa_cons (pe_ix (ix_listK K) (pv 1) (pe_op op_add (pe_op op_mul pe_int (pv 0)) pe_int) (fun _ _=>rfl)) pa_nil)))))) pa_nil)))))))),?_⟩
  obtain ⟨n,n1,n40,hn⟩:=td.n
  have hMl:=td.len
  have hi3:i < 3 * n:=by omega
  have hj3:j < 3 * n:=by omega
  have eT:(((M.map mV).length:Nat):Int).toNat=3 * n:=by rw [List.length_map,hn]; omega
  have rp:∀ v:V,1 * (((M.map mV).length:Nat):Int).toNat≤sizeLine:=fun v=>by rw [eT,sizeLine_eq]; omega
  have gp:∀ c,c < M.length→((List.range M.length).map fun (z:Nat)=>mvI left i j (z:Int))[c]?=some ((mvN left i j c:Nat):Int):=fun c hc=>by rw [List.getElem?_map,List.getElem?_range hc,mvN_eq]; rfl
  refine seq_cut fun nxC hnxC=>?_
  refine ⟨(by show 1≤sizeLine; decide),fun q hq=>?_⟩
  have s1:Same H (upd H q (.lst [.int 0])):=Same.new hq
  refine ⟨_,rfl,m,_,rfl,.inl (SqL.of (s1 _ _ hm)),q,_,_,rfl,rfl,upd_same,by omega,by rw [List.length_map]; omega,rp (.int 0),fun N hN=>?_⟩
  have eN:(List.replicate (((M.map mV).length:Nat):Int).toNat [V.int 0]).flatten=(mfil left i j (3 * n) (fun z=>ns.getD (mvN (!left) i j z) 0) 0 0).map V.int:=by
   rw [eT,List.flatten_replicate_singleton,mfil_zero,List.map_replicate]
  rw [eN]
  have s2:=s1.trans (Same.new (o:=.lst ((mfil left i j (3 * n) (fun z=>ns.getD (mvN (!left) i j z) 0) 0 0).map V.int)) hN)
  have hN0:H N=none:=s1.free hN
  have hN2:(upd (upd H q (.lst [.int 0])) N (.lst ((mfil left i j (3 * n) (fun z=>ns.getD (mvN (!left) i j z) 0) 0 0).map V.int))) N=some (.lst ((mfil left i j (3 * n) (fun z=>ns.getD (mvN (!left) i j z) 0) 0 0).map V.int)):=upd_same
  generalize upd (upd H q (.lst [.int 0])) N (.lst ((mfil left i j (3 * n) (fun z=>ns.getD (mvN (!left) i j z) 0) 0 0).map V.int))=H2 at s2 hN2 ⊢
  refine hnxC _ _ ?_
  refine seq_cut fun nxC hnxC=>?_
  refine ⟨(by show 1≤sizeLine; decide),fun q2 hq2=>?_⟩
  have s3:Same H2 (upd H2 q2 (.lst [.non])):=Same.new hq2
  refine ⟨_,rfl,m,_,rfl,.inl (SqL.of (s3 _ _ (s2 _ _ hm))),q2,_,_,rfl,rfl,upd_same,by omega,by rw [List.length_map]; omega,rp .non,fun TT hT=>?_⟩
  have eTT:(List.replicate (((M.map mV).length:Nat):Int).toNat [V.non]).flatten=(mfil left i j (3 * n) (fun z=>(M.getD (mvN (!left) i j z) none).map (mvN left i j)) none 0).map mV:=by
   rw [eT,List.flatten_replicate_singleton,mfil_zero,List.map_replicate]
   rfl
  rw [eTT]
  have s4:=s3.trans (Same.new (o:=.lst ((mfil left i j (3 * n) (fun z=>(M.getD (mvN (!left) i j z) none).map (mvN left i j)) none 0).map mV)) hT)
  have hT2:(upd (upd H2 q2 (.lst [.non])) TT (.lst ((mfil left i j (3 * n) (fun z=>(M.getD (mvN (!left) i j z) none).map (mvN left i j)) none 0).map mV))) TT=some (.lst ((mfil left i j (3 * n) (fun z=>(M.getD (mvN (!left) i j z) none).map (mvN left i j)) none 0).map mV)):=upd_same
  generalize upd (upd H2 q2 (.lst [.non])) TT (.lst ((mfil left i j (3 * n) (fun z=>(M.getD (mvN (!left) i j z) none).map (mvN left i j)) none 0).map mV))=H4 at s4 hT2 ⊢
  refine hnxC _ _ ?_
  have hTN:TT≠N:=fun z=>by
   have:=s3.free hT
   rw [z,hN2] at this; cases this
  have hT0:H TT=none:=s2.free (s3.free hT)
  have hN4:=s4 _ _ hN2
  have s04:=s2.trans s4
  dsimp only [gName]
  show tSeq (tFor _ _ _) _ _ _ _
  refine seq_post (fun σ H5=>∃ v,σ=[some (.ref m),some (.ref r),some (.ref g),some (.ref N),some (.ref TT),v]∧Same H H5∧H5 N=some (.lst ((exN left i j ns).map V.int))∧H5 TT=some (.lst ((exM left i j M).map mV))) (fun nx hnx=>?_) ?_
  ·refine ⟨_,rfl,m,_,rfl,.inl (SqL.of (s04 _ _ hm)),_,rfl,by omega,by rw [List.length_map]; omega,?_⟩
   have eL:(((M.map mV).length:Nat):Int).toNat=M.length:=by simp
   rw [eL]
   refine for_range (n:=M.length) (fun c σ H5=>∃ v,σ=[some (.ref m),some (.ref r),some (.ref g),some (.ref N),some (.ref TT),v]∧Same H H5∧H5 N=some (.lst ((mfil left i j (3 * n) (fun z=>ns.getD (mvN (!left) i j z) 0) 0 c).map V.int))∧H5 TT=some (.lst ((mfil left i j (3 * n) (fun z=>(M.getD (mvN (!left) i j z) none).map (mvN left i j)) none c).map mV))) ⟨none,rfl,s04,hN4,hT2⟩ ?_ ?_
   ·rintro c σ H5 hc ⟨v,rfl,s5,h5,h6⟩
    dsimp only [gName]
    rw [Int.zero_add]
    have hcn:c < ns.length:=by omega
    obtain ⟨y,hy⟩:∃ y,ns[c]?=some y:=⟨_,List.getElem?_eq_getElem hcn⟩
    have ey:ns.getD c 0=y:=by rw [List.getD_eq_getElem?_getD,hy]; rfl
    obtain ⟨ts',q,e1,e2,e3,e4⟩:=row_at (hrw.same s5) hy
    have hmc:mvN left i j c < 3 * n:=mvN_lt hi3 hj3 left (by omega)
    refine ⟨_,rfl,_,rfl,_,_,rfl,rfl,⟨by decide,by decide⟩,r,_,_,_,rfl,rfl,SqL.of e1,(by rw [div3]; exact map_at e2),_,rfl,_,_,rfl,rfl,(by show (0:Int) < 3; decide),q,_,_,_,rfl,rfl,SqT.of e3,(by rw [mod3]; exact atI_nat e4),?_⟩
    refine ⟨_,rfl,_,rfl,_,rfl,g,_,_,_,rfl,rfl,SqL.of (s5 _ _ hg),map_at (gp c hc),N,_,_,mvN left i j c,rfl,rfl,h5,(by rw [List.length_map,mfil_len]; exact ixN_nat hmc),?_⟩
    have eN':((mfil left i j (3 * n) (fun z=>ns.getD (mvN (!left) i j z) 0) 0 c).map V.int).set (mvN left i j c) (V.int y)=(mfil left i j (3 * n) (fun z=>ns.getD (mvN (!left) i j z) 0) 0 (c + 1)).map V.int:=by
     rw [← mfil_step ne hmc,List.map_set,mvN_inv ne,ey]
    rw [eN']
    have s6:Same H (upd H5 N (.lst ((mfil left i j (3 * n) (fun z=>ns.getD (mvN (!left) i j z) 0) 0 (c + 1)).map V.int))):=Same.add s5 hN0
    have h7:(upd H5 N (.lst ((mfil left i j (3 * n) (fun z=>ns.getD (mvN (!left) i j z) 0) 0 (c + 1)).map V.int))) TT=_:=(upd_ne hTN).trans h6
    have h8:(upd H5 N (.lst ((mfil left i j (3 * n) (fun z=>ns.getD (mvN (!left) i j z) 0) 0 (c + 1)).map V.int))) N=some (.lst ((mfil left i j (3 * n) (fun z=>ns.getD (mvN (!left) i j z) 0) 0 (c + 1)).map V.int)):=upd_same
    generalize upd H5 N (.lst ((mfil left i j (3 * n) (fun z=>ns.getD (mvN (!left) i j z) 0) 0 (c + 1)).map V.int))=H6 at s6 h7 h8 ⊢
    obtain ⟨mc,hmcE⟩:∃ mc,M[c]?=some mc:=⟨_,List.getElem?_eq_getElem hc⟩
    have eMc:M.getD c none=mc:=by rw [List.getD_eq_getElem?_getD,hmcE]; rfl
    refine ⟨_,rfl,_,rfl,m,_,_,_,rfl,rfl,SqL.of (s6 _ _ hm),map_at hmcE,rfl,_,rfl,?_⟩
    cases mc with
    | none =>
     refine iteF ⟨_,rfl,s6,h8,?_⟩
     rw [h7,mfil_skip ne (by rw [mvN_inv ne,eMc]; rfl)]
    | some b =>
     have hb:b < M.length:=(List.getElem?_eq_some_iff.mp (td.inv c b hmcE).1).1
     refine iteT ⟨_,rfl,_,rfl,_,rfl,m,_,_,_,rfl,rfl,SqL.of (s6 _ _ hm),map_at hmcE,g,_,_,_,rfl,rfl,SqL.of (s6 _ _ hg),map_at (gp b hb),?_⟩
     refine ⟨_,rfl,_,rfl,_,rfl,g,_,_,_,rfl,rfl,SqL.of (s6 _ _ hg),map_at (gp c hc),TT,_,_,mvN left i j c,rfl,rfl,h7,(by rw [List.length_map,mfil_len]; exact ixN_nat hmc),?_⟩
     refine ⟨_,rfl,Same.add s6 hT0,by rw [upd_ne (Ne.symm hTN)]; exact h8,?_⟩
     rw [upd_same,← mfil_step ne hmc,List.map_set,mvN_inv ne,eMc]
     rfl
   ·rintro σ H5 ⟨v,rfl,s5,h5,h6⟩
    rw [hn,mfil_all hi3 hj3] at h5 h6
    refine hnx _ _ ⟨_,rfl,s5,?_,?_⟩
    ·rw [h5]; unfold exN; rw [hMl,hn]
    ·rw [h6]; unfold exM; rw [hn]
  rintro σ H5 ⟨v,rfl,s5,h5,h6⟩
  have hxl:(exN left i j ns).length=3 * n:=by rw [exN_len]; omega
  generalize exN left i j ns=F at h5 hxl k ⊢
  obtain ⟨ts0,w1,w2,w3⟩:=hrw.same s5
  have ets:ts0.length=n:=by omega
  refine ⟨_,rfl,_,rfl,r,_,rfl,.inl (SqL.of w1),_,rfl,by omega,by rw [List.length_map]; omega,fun D hD=>?_⟩
  have eD:(((ts0.map V.ref).length:Nat):Int).toNat=n:=by rw [List.length_map]; omega
  rw [eD]
  have hND:N≠D:=ne_of_none h5 hD
  have hTD:TT≠D:=ne_of_none h6 hD
  refine loop_range (fun c σ H6=>∃ (ts:List Addr) (v:Option V),σ=[v,some (.ref N)]∧Same H5 H6∧H6 D=some (.lst (ts.map V.ref))∧ts.length=c∧∀ (k:Nat) (t:Addr),ts[k]?=some t→H6 t=some (.tup (row3 F k)))
   ⟨[],none,rfl,Same.new hD,upd_same,rfl,fun k t z=>by simp at z⟩ ?_ ?_
  ·rintro c σ H6 hlt ⟨ts,v,rfl,s6,g1,hl2,g3⟩
   have g2:=s6 _ _ h5
   have at':∀ (e:Nat) (z:Int),e < 3→z=3 * (0 + (c:Int)) + e→atI (F.map V.int) z=some (V.int (F.getD (3 * c + e) 0)):=fun e z he hz=>by
    have e:z=((3 * c + e:Nat):Int):=by omega
    rw [e]
    exact atI_nat (getI (by omega))
   dsimp only [gName,tYes]
   rw [if_pos rfl]
   refine ⟨_,rfl,_,rfl,_,_,rfl,rfl,.inl ⟨by decide,by decide⟩,N,_,_,_,rfl,rfl,SqL.of g2,at' 0 _ (by decide) (by simp),?_⟩
   refine ⟨_,rfl,_,rfl,_,_,rfl,rfl,.inl ⟨by decide,by decide⟩,_,_,rfl,rfl,N,_,_,_,rfl,rfl,SqL.of g2,at' 1 _ (by decide) rfl,?_⟩
   refine ⟨_,rfl,_,rfl,_,_,rfl,rfl,.inl ⟨by decide,by decide⟩,_,_,rfl,rfl,N,_,_,_,rfl,rfl,SqL.of g2,at' 2 _ (by decide) rfl,?_⟩
   refine ⟨(by show 3≤sizeLine; decide),fun q hq=>?_⟩
   have hqD:q≠D:=fun z=>by rw [z,g1] at hq; cases hq
   have s7:Same H6 (upd H6 q (.tup (row3 F c))):=Same.new hq
   refine ⟨_,s7 _ _ g1,(by rw [List.length_map]; exact small1000 (by omega)),ts ++ [q],_,rfl,Same.add (s6.trans s7) hD,?_,?_,?_⟩
   ·rw [upd_same]; simp
   ·rw [List.length_append,List.length_singleton,hl2]
   ·intro k t z
    by_cases hk:k < ts.length
    ·rw [List.getElem?_append_left hk] at z
     have g:=s7 _ _ (g3 k t z)
     rw [upd_ne (fun e=>by rw [e,s7 _ _ g1] at g; cases g)]
     exact g
    ·have hk2:k=ts.length:=by
      have:=(List.getElem?_eq_some_iff.mp z).1
      rw [List.length_append,List.length_singleton] at this
      omega
     subst hk2
     have:t=q:=by simpa using z.symm
     subst this
     rw [upd_ne hqD,upd_same,hl2]
     rfl
  ·rintro σ H6 ⟨ts,v,rfl,s6,g1,hl2,g3⟩
   refine ⟨(by show 2≤sizeLine; decide),fun p5 hp5=>?_⟩
   have s7:=Same.new (o:=.tup [V.ref TT,V.ref D]) hp5
   refine k p5 TT D _ ((s5.trans s6).trans s7) upd_same (s7 _ _ (s6 _ _ h6)) ⟨ts,s7 _ _ g1,by omega,fun k t z=>s7 _ _ (g3 k t z)⟩
end
end KT
set_option maxHeartbeats 4000000
namespace KT
open PySem L2
theorem len_word {ws:List Int}:(((ws.map V.int).length:Nat):Int)=ws.length:=by rw [List.length_map]
theorem cut_tail (x0:Int) (xr:List Int):cutV ((x0 :: xr).map V.int) (some 1) none=xr.map V.int:=by
 unfold cutV
 have e1:HT.sIx ((x0 :: xr).map V.int).length 0 (some ((1:Nat):Int))=1:=by
  rw [HT.sIx_nat,List.length_map,List.length_cons]
  omega
 rw [show (some (1:Int))=some ((1:Nat):Int) from rfl,e1,HT.sIx_none,List.map_cons,List.drop_succ_cons,List.drop_zero,List.length_cons,Nat.add_sub_cancel,List.take_length]
theorem flt_step {α:Type} {p:α→Bool} {l:List α} {i:Nat} {x:α} (h:l[i]?=some x):(l.take (i + 1)).filter p=if p x=true then (l.take i).filter p ++ [x] else (l.take i).filter p:=by
 rw [List.take_add_one,h,List.filter_append]
 by_cases c:p x=true
 ·simp [c]
 ·simp [c]
noncomputable def sp_walk:Sp:=fun vs H Q _=>∃ (m a:Addr) (M:List (Option Nat)) (xs:List Int),vs=[.ref m,.ref a]∧H m=some (.lst (M.map mV))∧H a=some (.lst (xs.map V.int))∧xs≠[]∧xs.length≤60∧(∀ x∈xs,0≤x∧x < 1009)∧M.length≤42∧(∃ n,M.length=3 * n)∧(∀ (i j:Nat),M[i]?=some (some j)→M[j]?=some (some i)∧i≠j) ∧
 ∀ (l:Addr) (ws:List Nat) (H':Hp),Same H H'→H l=none→H' l=some (.lst (ws.map nV))→ws.length≤60→(ws=[]∨Pl M ws)→Q (.ref l) H'
noncomputable def sp_thread (K:PySem.W.Frag):Sp:=fun vs H Q _=>∃ (a m:Addr) (sc:List Int) (i:Int) (M:List (Option Nat)),vs=[.ref a,.int i,.ref m]∧SqL K H a (sc.map V.int)∧sc.length≤63∧0≤i∧i < 1000∧H m=some (.lst (M.map mV))∧M.length≤42∧(∃ n,M.length=3 * n)∧(∀ (i j:Nat),M[i]?=some (some j)→M[j]?=some (some i)∧i≠j) ∧
 ∀ (l:Addr) (ws:List Nat) (H':Hp),Same H H'→H l=none→H' l=some (.lst (ws.map nV))→ws.length≤60→(ws=[]∨Pl M ws)→Q (.ref l) H'
noncomputable def hasM (M:List (Option Nat)) (i:Nat):Bool:=match M[i]? with
 | some (some _)=>true
 | _=>false
theorem hasM_iff {M:List (Option Nat)} {i:Nat}:hasM M i=true ↔ ∃ j,M[i]?=some (some j):=by
 unfold hasM
 split
 ·rename_i j h; exact ⟨fun _=>⟨j,h⟩,fun _=>rfl⟩
 ·rename_i h; exact ⟨fun z=>absurd z (by decide),fun ⟨j,e⟩=>absurd e (h j)⟩
section
variable {P:Program} {w:World} {K:PySem.W.Frag} {mg:Str→Option Value} {base:Heap} {t:Adr}
theorem sc_l_walk:FnScope ["_law_mates","_law_nums","_law_spots","_law_row","_law_pick","_law_side","_law_ways","_law_start","_law_stop"] ["_law_mates","_law_nums"] (defScope s_l_walk):=⟨rfl,rfl,rfl,by decide +kernel,rfl,by decide +kernel,by decide +kernel⟩
theorem ok_l_walk (T:Txt w K mg t):FnOk P w K mg base (CXr P w) 1 t.f_l_walk t.d_l_walk ["_law_mates","_law_nums"] sp_walk:=by
  refine T.p_l_walk.F.okR sc_l_walk (fun vs H Q E h=>?_) (fun cdv A outer s H vs Q E hr h=>?_)
  · obtain ⟨m,a,M,xs,rfl,_⟩:=h
    rfl
  · obtain ⟨m,a,M,xs,rfl,hm,ha,hx0,hx60,hx,h42,⟨n,hn⟩,inv,k⟩:=h
    refine ⟨_,(pss_cons (ps_setCompG (ts:=["_law_p"]) (fv:=[("_law_mates",0)]) (i:=2) ⟨rfl,by decide +kernel,by decide +kernel,blkFree (by rfl),⟨⟨rfl,rfl,Or.inl rfl⟩,trivial⟩⟩ rfl sc_l_walk.nd rfl rfl (by rfl) (pi_range1 rfl T.n_range (pa_cons (pe_callB call_len_seq (by rfl) T.n_len PySem.boot_len (pa_cons (pv 0) pa_nil)) pa_nil)) (fun _ _ _ _=>(pg_name (i:=0) (show List.Nodup (["_law_p","_law_mates"]:List Str) from by decide +kernel) rfl (Or.inl rfl) (Or.inr rfl))) (fun _ _ _ _=>(pts_one (pt_cmpR op_notN (pe_ix (ix_listK K) (pv 1) (pv 0) (fun _ _=>rfl)) pe_non (nomark _)))) (fun _ _ _=>rfl) (fun _ _ _ _ _ _=>pb_emit (pv 0)))
      (pss_cons (ps_if (pt_cmpR op_eq (pe_callB call_len_seq (by rfl) T.n_len PySem.boot_len (pa_cons (pv 2) pa_nil)) pe_int (nomark _)) (pss_one (ps_ret (pe_lst pa_nil))) pss_nil)
      (pss_cons (ps_set (i:=3) sc_l_walk.nd rfl (Or.inl rfl) (pe_lst (pa_cons (pe_ix ix_list (pv 2) (pe_op op_mod (pe_ix ix_list (pv 1) pe_int (fun _ _=>rfl)) (pe_callB call_len_seq (by rfl) T.n_len PySem.boot_len (pa_cons (pv 2) pa_nil))) (fun _ _=>rfl)) pa_nil)))
      (pss_cons (ps_for PassesOwn.never rfl (pi_list (pe_slice sl_list (pv 1) (po_some pe_int) po_none)) (pg_name (i:=4) sc_l_walk.nd rfl (Or.inl rfl)) (pss_cons (ps_set (i:=5) sc_l_walk.nd rfl (Or.inr rfl) (pe_ix ix_list (pv 0) (pe_ix ix_list (pv 3) (pe_un un_neg pe_int) (fun _ _=>rfl)) (fun _ _=>rfl)))
      (pss_cons (ps_setCompG (ts:=["_law_k"]) (fv:=[("_law_side",5)]) (i:=6) ⟨rfl,by decide +kernel,by decide +kernel,blkFree (by rfl),⟨⟨rfl,rfl,Or.inl rfl⟩,trivial⟩⟩ rfl sc_l_walk.nd rfl rfl (by rfl) (pi_range1 rfl T.n_range (pa_cons pe_int pa_nil)) (fun _ _ _ _=>(pg_name (i:=0) (show List.Nodup (["_law_k","_law_side"]:List Str) from by decide +kernel) rfl (Or.inl rfl) (Or.inr rfl))) (fun _ _ _ _=>pts_nil) (fun _ _ _=>rfl) (fun _ _ _ _ _ _=>pb_emit (pe_op op_add (pe_op op_sub (pv 1) (pe_op op_mod (pv 1) pe_int)) (pe_op op_mod (pe_op op_add (pe_op op_add (pv 1) pe_int) (pv 0)) pe_int))))
      (pss_cons (ps_setCompG (ts:=["_law_p"]) (fv:=[("_law_mates",0)]) (i:=6) ⟨rfl,by decide +kernel,by decide +kernel,blkFree (by rfl),⟨⟨rfl,rfl,Or.inl rfl⟩,trivial⟩⟩ rfl sc_l_walk.nd rfl rfl (by rfl) (pi_list (pv 6)) (fun _ _ _ _=>(pg_name (i:=0) (show List.Nodup (["_law_p","_law_mates"]:List Str) from by decide +kernel) rfl (Or.inl rfl) (Or.inr rfl))) (fun _ _ _ _=>(pts_one (pt_cmpR op_notN (pe_ix (ix_listK K) (pv 1) (pv 0) (fun _ _=>rfl)) pe_non (nomark _)))) (fun _ _ _=>rfl) (fun _ _ _ _ _ _=>pb_emit (pv 0)))
      (pss_cons (ps_if (pt_cmpR op_eq (pe_callB call_len_seq (by rfl) T.n_len PySem.boot_len (pa_cons (pv 6) pa_nil)) pe_int (nomark _)) (pss_one ps_break) pss_nil)
      (pss_one (ps_expr (pe_bm PySem.F.plainAttrs_list PySem.F.slot_list_append PySem.F.type_list_append mt_append (pv 3) (pa_cons (pe_ix ix_list (pv 6) (pe_op op_mod (pv 4) (pe_callB call_len_seq (by rfl) T.n_len PySem.boot_len (pa_cons (pv 6) pa_nil))) (fun _ _=>rfl)) pa_nil)))))))))
      (pss_cons (ps_for PassesOwn.never rfl (pi_range1 rfl T.n_range (pa_cons (pe_callB call_len_seq (by rfl) T.n_len PySem.boot_len (pa_cons (pv 3) pa_nil)) pa_nil)) (pg_name (i:=7) sc_l_walk.nd rfl (Or.inl rfl)) (pss_one (ps_for PassesOwn.never rfl (pi_revR rfl T.n_reversed rfl T.n_range (pa_cons (pe_op op_add (pv 7) pe_int) (pa_cons (pe_callB call_len_seq (by rfl) T.n_len PySem.boot_len (pa_cons (pv 3) pa_nil)) pa_nil))) (pg_name (i:=8) sc_l_walk.nd rfl (Or.inl rfl)) (pss_one (ps_if (pt_cmpR op_eq (pe_ix ix_list (pv 3) (pv 7) (fun _ _=>rfl)) (pe_ix ix_list (pv 3) (pv 8) (fun _ _=>rfl)) (nomark _)) (pss_one (ps_ret (pe_slice sl_list (pv 3) (po_some (pv 7)) (po_some (pv 8))))) pss_nil)))))
      (pss_one (ps_ret (pe_lst pa_nil)))))))),?_⟩
    refine seq_cut fun nxC hnxC=>?_
    refine ⟨_,rfl,m,_,rfl,.inl (SqL.of hm),_,rfl,by omega,by rw [List.length_map]; omega,fun D hD=>?_⟩
    have eL:(((M.map mV).length:Nat):Int).toNat=M.length:=by simp
    rw [eL]
    refine loop_range (fun i σ H1=>∃ v,σ=[v,some (.ref m)]∧Same H H1∧H1 D=some (.lst (((List.range i).filter (hasM M)).map nV))) ⟨none,rfl,Same.new hD,upd_same⟩ ?_ ?_
    · rintro i σ H1 hlt ⟨v,rfl,sm,h1⟩
      dsimp only [gName]
      rw [Int.zero_add]
      obtain ⟨y,hy⟩:∃ y,M[i]?=some y:=⟨_,List.getElem?_eq_getElem hlt⟩
      have lt:(((List.range i).filter (hasM M)).map nV).length < sizeLine:=by
        rw [List.length_map]
        have:=List.length_filter_le (hasM M) (List.range i)
        rw [List.length_range] at this
        exact small1000 (by omega)
      refine ⟨_,rfl,_,rfl,m,_,_,_,rfl,rfl,SqL.of (sm _ _ hm),map_at hy,rfl,_,rfl,?_⟩
      cases y with
      | none =>
        refine iteF ⟨_,rfl,sm,?_⟩
        rw [h1,List.range_succ,List.filter_append]
        have:hasM M i=false:=by rw [Bool.eq_false_iff]; intro z; obtain ⟨j,e⟩:=hasM_iff.mp z; rw [hy] at e; cases e
        simp [this]
      | some j =>
        refine iteT ⟨_,rfl,_,h1,lt,_,rfl,Same.add sm hD,?_⟩
        rw [upd_same,List.range_succ,List.filter_append]
        have:hasM M i=true:=hasM_iff.mpr ⟨j,hy⟩
        simp [this]
        rfl
    rintro σ H1 ⟨v,rfl,s1,h1⟩
    refine hnxC _ _ ?_
    have hsp:∀ p∈(List.range M.length).filter (hasM M),∃ j,M[p]?=some (some j):=fun p hp=>hasM_iff.mp (List.mem_filter.mp hp).2
    generalize (List.range M.length).filter (hasM M)=sps at h1 hsp
    refine seq_cut fun nxC hnxC=>?_
    refine ⟨_,rfl,D,_,rfl,.inl (SqL.of h1),rfl,_,rfl,?_⟩
    refine ite2 (fun c=>?_) (fun c=>?_)
    · exact ⟨Nat.zero_le _,fun l hl=>k l [] _ (Same.add s1 (s1.free hl)) (s1.free hl) upd_same (Nat.zero_le _) (.inl rfl)⟩
    have hne:0 < sps.length:=by
      cases sps with
      | nil=>exact absurd rfl c
      | cons _ _=>simp
    dsimp only [tNext]
    refine hnxC _ _ ?_
    obtain ⟨x0,xr,rfl⟩:∃ x0 xr,xs=x0 :: xr:=by
      cases xs with
      | nil=>exact absurd rfl hx0
      | cons a b=>exact ⟨a,b,rfl⟩
    have k0:=Int.emod_nonneg x0 (show (sps.length:Int)≠0 by omega)
    have k1:=Int.emod_lt_of_pos x0 (show (0:Int) < sps.length by omega)
    obtain ⟨kk,hkk⟩:∃ kk:Nat,x0 % (sps.length:Int)=kk:=⟨_,(Int.toNat_of_nonneg k0).symm⟩
    have hkl:kk < sps.length:=by omega
    refine seq_cut fun nxC hnxC=>?_
    refine ⟨_,rfl,_,rfl,a,_,_,_,rfl,rfl,SqL.of (s1 _ _ ha),(show atI _ ((0:Nat):Int)=_ from atI_nat rfl),_,rfl,D,_,rfl,.inl (SqL.of h1),_,_,rfl,rfl,(by rw [List.length_map]; omega),D,_,_,_,rfl,rfl,SqL.of h1,(by rw [List.length_map,hkk]; exact map_at (List.getElem?_eq_getElem hkl)),(by show 1≤sizeLine; decide),fun r hr1=>?_⟩
    refine hnxC _ _ ?_
    have hr0:H r=none:=s1.free hr1
    obtain ⟨j0,hj0⟩:=hsp _ (List.getElem_mem hkl)
    have ch0:Ch M [sps[kk]]:=Ch.one hj0
    generalize sps[kk]=p0 at ch0
    have s2:Same H (upd H1 r (.lst [nV p0])):=Same.add s1 hr0
    have h2:(upd H1 r (.lst [nV p0])) r=some (.lst ([p0].map nV)):=upd_same
    generalize upd H1 r (.lst [nV p0])=H2 at s2 h2
    dsimp only [gName]
    show tSeq (tFor _ _ _) _ _ _ _
    refine seq_post (fun σ H3=>∃ (row:List Nat) (v4 v5 v6:Option V),σ=[some (.ref m),some (.ref a),some (.ref D),some (.ref r),v4,v5,v6,none,none]∧Same H H3∧H3 r=some (.lst (row.map nV))∧Ch M row∧row.length≤60) (fun nx hnx=>?_) ?_
    · refine ⟨_,rfl,_,rfl,a,_,rfl,SqL.of (s2 _ _ ha),fun q hq=>?_⟩
      rw [cut_tail]
      have hrq:r≠q:=ne_of_none h2 hq
      have hq0:H q=none:=s2.free hq
      refine ⟨q,rfl,⟨_,SqL.of upd_same⟩,?_⟩
      rw [List.length_cons] at hx60
      refine for_list (xs:=xr.map V.int) (fun i σ H3=>∃ (row:List Nat) (v4 v5 v6:Option V),σ=[some (.ref m),some (.ref a),some (.ref D),some (.ref r),v4,v5,v6,none,none]∧Same H H3∧H3 q=some (.lst (xr.map V.int))∧H3 r=some (.lst (row.map nV))∧Ch M row∧row≠[]∧row.length≤i + 1)
        ⟨[p0],none,none,none,rfl,Same.add s2 hq0,upd_same,by rw [upd_ne hrq]; exact h2,ch0,by simp,by simp⟩ ?_ ?_ ?_
      · rintro i σ H3 _ ⟨row,v4,v5,v6,rfl,s3,h3,_⟩
        exact SqL.of h3
      · rintro i x σ H3 hxi ⟨row,v4,v5,v6,rfl,s3,h3,h4,ch,rne,rlen⟩
        have hi:i < xr.length:=by have:=(List.getElem?_eq_some_iff.mp hxi).1; rw [List.length_map] at this; exact this
        obtain ⟨pick,hpk,rfl⟩:∃ pick,xr[i]?=some pick∧x=V.int pick:=by
          rw [List.getElem?_map,List.getElem?_eq_getElem hi] at hxi
          exact ⟨_,List.getElem?_eq_getElem hi,(Option.some.inj hxi).symm⟩
        obtain ⟨la,hla⟩:∃ la,row.getLast?=some la:=by
          cases e:row.getLast? with
          | none=>exact absurd (List.getLast?_eq_none_iff.mp e) rne
          | some z=>exact ⟨z,rfl⟩
        have hlm:la∈row:=List.mem_of_getLast? hla
        obtain ⟨sd,hsd⟩:=ch.has la hlm
        have hsdM:sd < M.length:=(List.getElem?_eq_some_iff.mp (inv la sd hsd).1).1
        have elast:atI (row.map nV) (-1)=some (nV la):=by
          unfold atI ixN
          have hl:0 < row.length:=by cases row with | nil=>exact absurd rfl rne | cons _ _=>simp
          rw [if_neg (by decide),if_pos (by rw [List.length_map]; omega)]
          show ((row.map nV)[((-1:Int) + (row.map nV).length).toNat]?)=_
          rw [List.length_map,show ((-1:Int) + (row.length:Int)).toNat=row.length - 1 by omega,List.getElem?_map,← List.getLast?_eq_getElem?,hla]
          rfl
        dsimp only [gName]
        refine seq_cut fun nxC hnxC=>?_
        refine ⟨_,rfl,_,rfl,_,rfl,r,_,_,_,rfl,rfl,SqL.of h4,elast,m,_,_,_,rfl,rfl,SqL.of (s3 _ _ hm),map_at hsd,?_⟩
        refine hnxC _ _ ?_
        refine seq_cut fun nxC hnxC=>?_
        refine ⟨2,rfl,by decide,by decide,fun W hW=>?_⟩
        have hW0:H W=none:=s3.free hW
        have hWr:r≠W:=ne_of_none h4 hW
        have hWq:q≠W:=ne_of_none h3 hW
        refine loop_range (n:=2) (fun c σ H5=>∃ v,σ=[v,some (nV sd)]∧Same H3 H5∧H5 W=some (.lst (([side sd 1,side sd 2].take c).map nV))) ⟨none,rfl,Same.new hW,upd_same⟩ ?_ ?_
        · rintro c σ H5 hc ⟨v,rfl,s5,h5⟩
          dsimp only [gName,tYes]
          rw [if_pos rfl]
          refine ⟨_,rfl,_,rfl,_,_,rfl,rfl,(by show (0:Int) < 3; decide),_,_,rfl,rfl,_,rfl,_,_,rfl,rfl,_,rfl,_,_,rfl,rfl,_,_,rfl,rfl,(by show (0:Int) < 3; decide),_,_,rfl,rfl,_,h5,?_,_,rfl,Same.add s5 hW,?_⟩
          · rw [List.length_map,List.length_take]; exact small1000 (by omega)
          · rw [upd_same]
            have hc:c=0∨c=1:=by omega
            have e:∀ k:Nat,(sd:Int) - (sd:Int) % 3 + ((sd:Int) + 1 + (0 + (k:Int))) % 3=((side sd (k + 1):Nat):Int):=fun k=>by unfold side; omega
            rcases hc with rfl | rfl
            · show some (HO.lst ([] ++ [V.int ((sd:Int) - (sd:Int) % 3 + ((sd:Int) + 1 + (0 + ((0:Nat):Int))) % 3)]))=_
              rw [e 0]; rfl
            · show some (HO.lst ([nV (side sd 1)] ++ [V.int ((sd:Int) - (sd:Int) % 3 + ((sd:Int) + 1 + (0 + ((1:Nat):Int))) % 3)]))=_
              rw [e 1]; rfl
        rintro σ H5 ⟨v,rfl,s5,h5⟩
        refine hnxC _ _ ?_
        have h5:H5 W=some (.lst ([side sd 1,side sd 2].map nV)):=h5
        have sl:∀ c,side sd c < M.length:=fun c=>by rw [hn]; exact side_lt (by omega)
        refine seq_cut fun nxC hnxC=>?_
        refine ⟨_,rfl,W,rfl,⟨_,SqL.of h5⟩,fun W2 hW2=>?_⟩
        have s35:=s3.trans s5
        refine loop_list (xs:=[side sd 1,side sd 2].map nV) (fun c σ H6=>∃ v,σ=[v,some (.ref m)]∧Same H5 H6∧H6 W2=some (.lst ((([side sd 1,side sd 2].take c).filter (hasM M)).map nV))) ⟨none,rfl,Same.new hW2,upd_same⟩ ?_ ?_ ?_
        · rintro c σ H6 _ ⟨v,rfl,s6,h6⟩
          exact SqL.of (s6 _ _ h5)
        · rintro c x σ H6 hxc ⟨v,rfl,s6,h6⟩
          obtain ⟨p,hp,rfl⟩:=map_some hxc
          have hpM:p < M.length:=by
            have:=List.mem_of_getElem? hp
            rcases List.mem_cons.mp this with rfl | z
            · exact sl 1
            · rw [List.mem_singleton.mp z]; exact sl 2
          obtain ⟨y,hy⟩:∃ y,M[p]?=some y:=⟨_,List.getElem?_eq_getElem hpM⟩
          dsimp only [gName]
          refine ⟨_,rfl,_,rfl,m,_,_,_,rfl,rfl,SqL.of (s6 _ _ (s35 _ _ hm)),map_at hy,rfl,_,rfl,?_⟩
          cases y with
          | none =>
            refine iteF ⟨_,rfl,s6,?_⟩
            have:hasM M p=false:=by rw [Bool.eq_false_iff]; intro z; obtain ⟨j,e⟩:=hasM_iff.mp z; rw [hy] at e; cases e
            rw [h6,flt_step hp,if_neg (by rw [this]; decide)]
          | some jj =>
            refine iteT ⟨_,rfl,_,h6,?_,_,rfl,Same.add s6 hW2,?_⟩
            · rw [List.length_map]
              have h1:=List.length_filter_le (hasM M) ([side sd 1,side sd 2].take c)
              have h2:([side sd 1,side sd 2].take c).length≤2:=by rw [List.length_take]; exact Nat.min_le_right _ _
              exact small1000 (by omega)
            · rw [upd_same,flt_step hp,if_pos (hasM_iff.mpr ⟨jj,hy⟩),List.map_append]
              rfl
        rintro σ H6 ⟨v,rfl,s6,h6⟩
        refine hnxC _ _ ?_
        have h6:H6 W2=some (.lst (([side sd 1,side sd 2].filter (hasM M)).map nV)):=h6
        have hws:∀ p∈[side sd 1,side sd 2].filter (hasM M),(∃ j,M[p]?=some (some j))∧p / 3=sd / 3∧p≠sd:=fun p hp=>by
          obtain ⟨z1,z2⟩:=List.mem_filter.mp hp
          refine ⟨hasM_iff.mp z2,?_,?_⟩
          · rcases List.mem_cons.mp z1 with rfl | z
            · exact side_div _ _
            · rw [List.mem_singleton.mp z]; exact side_div _ _
          · rcases List.mem_cons.mp z1 with rfl | z
            · unfold side; omega
            · rw [List.mem_singleton.mp z]; unfold side; omega
        generalize [side sd 1,side sd 2].filter (hasM M)=wys at h6 hws
        have s36:=s5.trans s6
        have h4':=s36 _ _ h4
        have h3':=s36 _ _ h3
        have s06:=s3.trans s36
        refine seq_cut fun nxC hnxC=>?_
        refine ⟨_,rfl,W2,_,rfl,.inl (SqL.of h6),rfl,_,rfl,?_⟩
        refine ite2 (fun c=>?_) (fun c=>?_)
        · exact hnx _ _ ⟨row,_,_,_,rfl,s06,h4',ch,by omega⟩
        have hwp:0 < wys.length:=by
          cases wys with
          | nil=>exact absurd rfl c
          | cons _ _=>simp
        dsimp only [tNext]
        refine hnxC _ _ ?_
        have c0:=Int.emod_nonneg pick (show (wys.length:Int)≠0 by omega)
        have c1:=Int.emod_lt_of_pos pick (show (0:Int) < wys.length by omega)
        obtain ⟨cc,hcc⟩:∃ cc:Nat,pick % (wys.length:Int)=cc:=⟨_,(Int.toNat_of_nonneg c0).symm⟩
        have hcl:cc < wys.length:=by omega
        obtain ⟨w1,w2,w3⟩:=hws _ (List.getElem_mem hcl)
        have hget:=List.getElem?_eq_getElem hcl
        refine ⟨_,rfl,.inl ⟨rfl,_,SqL.of h4'⟩,_,rfl,_,rfl,_,rfl,W2,_,rfl,.inl (SqL.of h6),_,_,rfl,rfl,(by rw [List.length_map]; omega),W2,_,_,_,rfl,rfl,SqL.of h6,(by rw [List.length_map,hcc]; exact map_at hget),r,_,_,rfl,rfl,h4',(by rw [List.length_map]; exact small1000 (by omega)),?_⟩
        refine ⟨row ++ [wys[cc]],_,_,_,rfl,Same.add s06 hr0,?_,?_,ch.snoc hla hsd w2 w3 w1,by simp,by rw [List.length_append,List.length_singleton]; omega⟩
        · rw [upd_ne (Ne.symm hrq)]; exact h3'
        · rw [upd_same,List.map_append]; rfl
      · rintro σ H3 ⟨row,v4,v5,v6,rfl,s3,h3,h4,ch,rne,rlen⟩
        rw [List.length_map] at rlen
        exact hnx _ _ ⟨row,_,_,_,rfl,s3,h4,ch,by omega⟩
    rintro σ H3 ⟨row,v4,v5,v6,rfl,s3,h3,ch,rlen⟩
    show tSeq (tFor _ _ _) _ _ _ _
    refine seq_post (fun σ H4=>H4=H3) (fun nx hnx=>?_) ?_
    · refine ⟨_,rfl,r,_,rfl,.inl (SqL.of h3),_,rfl,by omega,by rw [List.length_map]; omega,?_⟩
      have eR:(((row.map nV).length:Nat):Int).toNat=row.length:=by simp
      rw [eR]
      refine for_range (n:=row.length) (fun i σ H4=>∃ v7 v8,σ=[some (.ref m),some (.ref a),some (.ref D),some (.ref r),v4,v5,v6,v7,v8]∧H4=H3) ⟨_,_,rfl,rfl⟩ ?_ ?_
      · rintro i σ H4 hi ⟨v7,v8,rfl,rfl⟩
        dsimp only [gName]
        rw [Int.zero_add]
        refine ⟨_,rfl,_,_,rfl,rfl,_,rfl,r,_,rfl,.inl (SqL.of h3),((i + 1:Nat):Int),row.length - (i + 1),?_,by omega,by omega,?_⟩
        · rw [List.length_map]
          show [V.int ((i:Int) + 1),V.int (row.length:Int)]=_
          rw [show ((i:Int) + 1)=((i + 1:Nat):Int) by omega,show (row.length:Int)=((i + 1:Nat):Int) + ((row.length - (i + 1):Nat):Int) by omega]
        refine for_range3 (n:=row.length - (i + 1)) (fun c σ H5=>∃ v8,σ=[some (.ref m),some (.ref a),some (.ref D),some (.ref r),v4,v5,v6,some (.int i),v8]∧H5=H4) ⟨_,rfl,rfl⟩ ?_ ?_
        · rintro c σ H4 hc ⟨v8,rfl,rfl⟩
          obtain ⟨e,he,hie,hel⟩:∃ e:Nat,((i + 1:Nat):Int) + ((row.length - (i + 1):Nat):Int) - 1 + (c:Int) * -1=(e:Int)∧i < e∧e < row.length:=⟨row.length - 1 - c,by omega,by omega,by omega⟩
          dsimp only [gName]
          rw [he]
          have gi:=List.getElem?_eq_getElem hi
          have ge:=List.getElem?_eq_getElem hel
          refine ⟨_,rfl,_,rfl,r,_,_,_,rfl,rfl,SqL.of h3,map_at gi,_,rfl,_,rfl,r,_,_,_,rfl,rfl,SqL.of h3,map_at ge,rfl,_,rfl,?_⟩
          refine ite2 (fun z=>?_) (fun z=>?_)
          · have z:nV row[i]=nV row[e]:=of_decide_eq_true z
            have z:row[i]=row[e]:=by unfold nV at z; injection z with z; omega
            refine ⟨_,rfl,_,rfl,_,rfl,_,rfl,_,rfl,r,_,rfl,SqL.of h3,fun l hl=>?_⟩
            have ec:cutV (row.map nV) (some (i:Int)) (some (e:Int))=((row.drop i).take (e - i)).map nV:=by
              unfold cutV
              rw [HT.sIx_nat,HT.sIx_nat,List.length_map,Nat.min_eq_left (by omega),Nat.min_eq_left (by omega),List.map_take,List.map_drop]
            rw [ec]
            refine k l _ _ (Same.add s3 (s3.free hl)) (s3.free hl) upd_same ?_ (.inr (ch.cut hie gi (by rw [ge,z])))
            rw [List.length_take,List.length_drop]; omega
          · exact ⟨_,rfl,rfl⟩
        · rintro σ H4 ⟨v8,rfl,rfl⟩
          exact ⟨_,_,rfl,rfl⟩
      · rintro σ H4 ⟨v7,v8,rfl,rfl⟩
        exact hnx _ _ rfl
    · rintro σ H4 rfl
      exact ⟨Nat.zero_le _,fun l hl=>k l [] _ (Same.add s3 (s3.free hl)) (s3.free hl) upd_same (Nat.zero_le _) (.inl rfl)⟩
end
end KT
set_option maxHeartbeats 4000000
namespace KT
open PySem L2
noncomputable def turnI (ws:List Int) (by':Int):List Int:=rot ws (by' % ws.length).toNat
noncomputable def sp_turned:Sp:=fun vs H Q _=>∃ (a:Addr) (ws:List Int) (b:Int),vs=[.ref a,.int b]∧H a=some (.lst (ws.map V.int))∧ws.length≤100000∧∀ (l:Addr) (H':Hp),Same H H'→H l=none→H' l=some (.lst ((turnI ws b).map V.int))→Q (.ref l) H'
noncomputable def sp_crossable (C:Addr):Sp:=fun vs H Q _=>∃ (p:Addr) (M:List (Option Nat)) (ns:List Int) (x:Int),vs=[.ref p,.int x]∧TentAt C H p M ns∧M.length=ns.length∧Q (.bl (crossB M x)) H
noncomputable def sp_follows (C:Addr):Sp:=fun vs H Q _=>∃ (p:Addr) (M:List (Option Nat)) (ns:List Int) (a x:Int),vs=[.ref p,.int a,.int x]∧TentAt C H p M ns∧M.length=ns.length∧crossB M a=true∧Q (.bl (followB M a x)) H
noncomputable def sp_plain (C:Addr):Sp:=fun vs H Q _=>∃ (p a:Addr) (M:List (Option Nat)) (ns ws:List Int),vs=[.ref p,.ref a]∧TentAt C H p M ns∧M.length=ns.length∧H a=some (.lst (ws.map V.int))∧ws.length≤100000∧∀ H',Same H H'→Q (.bl (plainB M ws)) H'
noncomputable def sp_look_thread (C EN:Addr):Sp:=fun vs H Q E=>∃ (p a:Addr) (M:List (Option Nat)) (ns ws:List Int),vs=[.ref p,.ref a]∧TentAt C H p M ns∧M.length=ns.length∧H a=some (.lst (ws.map V.int))∧ws.length≤100000∧∀ H',Same H H'→(plainB M ws=true→Q .non H')∧(plainB M ws=false→E (.ref EN) none H')
theorem small_word {n:Nat} (h:n≤100000):n≤sizeLine:=by rw [sizeLine_eq]; omega
theorem cut_from {ws:List Int} {s:Nat} (h:s≤ws.length):cutV (ws.map V.int) (some (s:Int)) none=(ws.drop s).map V.int:=by
 unfold cutV
 rw [HT.sIx_nat,HT.sIx_none,List.length_map,Nat.min_eq_left h,List.map_drop,List.take_of_length_le]
 rw [List.length_drop,List.length_map]
 exact Nat.le_refl _
theorem cut_to {ws:List Int} {s:Nat} (h:s≤ws.length):cutV (ws.map V.int) none (some (s:Int))=(ws.take s).map V.int:=by
 unfold cutV
 rw [HT.sIx_none,HT.sIx_nat,List.length_map,Nat.min_eq_left h,List.drop_zero,Nat.sub_zero,List.map_take]
section
variable {P:Program} {w:World} {K:PySem.W.Frag} {mg:Str→Option Value} {base:Heap} {t:Adr}
theorem sc_l_thread:FnScope ["_law_script","_law_at","_law_mates","_law_cell_here"] ["_law_script","_law_at","_law_mates"] (defScope s_l_thread):=⟨rfl,rfl,rfl,by decide +kernel,rfl,by decide +kernel,by decide +kernel⟩
theorem ok_l_thread (T:Txt w K mg t):FnOk P w K mg base (CXr P w) 2 t.f_l_thread t.d_l_thread ["_law_script","_law_at","_law_mates"] (sp_thread K):=by
 refine T.p_l_thread.F.okR sc_l_thread (fun vs H Q E h=>?_) (fun cdv A outer s H vs Q E hr h=>?_)
 ·obtain ⟨a,m,sc,i,M,rfl,_⟩:=h
  rfl
 ·obtain ⟨a,m,sc,i,M,rfl,hS,hl,i0,i1,hm,h42,hn,inv,k⟩:=h
  refine ⟨_,(pss_cons (ps_set (i:=3) sc_l_thread.nd rfl (Or.inl rfl) (pe_call (ok_l_cell T) (hr.mono (by decide)) rfl T.p_l_cell.g T.p_l_cell.F.kp T.p_l_cell.b .nil passR (pa_cons (pv 0) (pa_cons (pv 1) pa_nil))))
   (pss_one (ps_ret (pe_call (ok_l_walk T) (hr.mono (by decide)) rfl T.p_l_walk.g T.p_l_walk.F.kp T.p_l_walk.b .nil passR (pa_cons (pv 2) (pa_cons (pe_call (ok_l_numbers T) (hr.mono (by decide)) rfl T.p_l_numbers.g T.p_l_numbers.F.kp T.p_l_numbers.b .nil passR (pa_cons (pe_op op_fdiv (pv 3) pe_int) (pa_cons (pe_op op_add pe_int (pe_op op_mod (pv 3) pe_int)) pa_nil))) pa_nil)))))),?_⟩
  refine ⟨_,rfl,_,rfl,a,sc,i,rfl,hS,hl,i0,by omega,?_⟩
  dsimp only [gName]
  generalize cell sc i=c
  have m0:0≤c % 50:=Int.emod_nonneg _ (by decide)
  have m1:c % 50 < 50:=Int.emod_lt_of_pos _ (by decide)
  have e:(4 + c % 50:Int)=((4 + (c % 50).toNat:Nat):Int):=by omega
  refine ⟨_,rfl,_,rfl,_,_,rfl,rfl,⟨by decide,by decide⟩,_,rfl,_,_,rfl,rfl,(by show (0:Int) < 50; decide),_,_,rfl,rfl,_,4 + (c % 50).toNat,(by rw [← e]; rfl),by omega,fun p xs H1 s1 hp h1 hxl hx=>?_⟩
  refine ⟨m,p,M,xs,rfl,s1 _ _ hm,h1,fun z=>by rw [z] at hxl; simp at hxl; omega,by omega,hx,h42,hn,inv,fun l ws H2 s2 hl2 h2 hw hpl=>k l ws H2 (s1.trans s2) (s1.free hl2) h2 hw hpl⟩
theorem sc_turned:FnScope ["word","by","start"] ["word","by"] (defScope s_turned):=⟨rfl,rfl,rfl,by decide +kernel,rfl,by decide +kernel,by decide +kernel⟩
theorem ok_turned (T:Txt w K mg t):FnOk P w K mg base (CXr P w) 1 t.f_turned t.d_turned ["word","by"] sp_turned:=by
 refine T.p_turned.F.okR sc_turned (fun vs H Q E h=>?_) (fun cdv A outer s H vs Q E hr h=>?_)
 ·obtain ⟨a,ws,b,rfl,_⟩:=h
  rfl
 ·obtain ⟨a,ws,b,rfl,ha,hl,k⟩:=h
  refine ⟨_,(pss_cons (ps_if (pt_not (pt_truth (pv 0) (fun _=>rfl))) (pss_one (ps_ret (pe_lst pa_nil))) pss_nil)
   (pss_cons (ps_set (i:=2) sc_turned.nd rfl (Or.inl rfl) (pe_op op_mod (pv 1) (pe_callB call_len_seq (by rfl) T.n_len PySem.boot_len (pa_cons (pv 0) pa_nil))))
   (pss_one (ps_ret (pe_op op_cat (pe_slice sl_list (pv 0) (po_some (pv 2)) po_none) (pe_slice sl_list (pv 0) po_none (po_some (pv 2)))))))),?_⟩
  refine seq_cut fun nxC hnxC=>?_
  refine ⟨_,rfl,_,.inl ⟨_,SqL.of ha,rfl⟩,?_⟩
  by_cases hne:ws=[]
  ·subst hne
   exact iteT ⟨Nat.zero_le _,fun l hl'=>k l _ (Same.new hl') hl' (by rw [upd_same]; unfold turnI rot; simp)⟩
  ·have e:(!(ws.map V.int).isEmpty)=true:=by cases ws with | nil=>exact absurd rfl hne | cons _ _=>rfl
   have hp:0 < ws.length:=by cases ws with | nil=>exact absurd rfl hne | cons _ _=>simp
   rw [e]
   refine iteF ?_
   dsimp only [tNext]
   refine hnxC _ _ ?_
   have k0:=Int.emod_nonneg b (show (ws.length:Int)≠0 by omega)
   have k1:=Int.emod_lt_of_pos b (show (0:Int) < ws.length by omega)
   obtain ⟨st,hst⟩:∃ st:Nat,b % (ws.length:Int)=st:=⟨_,(Int.toNat_of_nonneg k0).symm⟩
   have hsl:st≤ws.length:=by omega
   have et:turnI ws b=ws.drop st ++ ws.take st:=by unfold turnI rot; rw [hst,Int.toNat_natCast]
   refine ⟨_,rfl,_,rfl,a,_,rfl,.inl (SqL.of ha),_,_,rfl,rfl,(by rw [List.length_map]; omega),?_⟩
   dsimp only [gName]
   rw [len_word,hst]
   refine ⟨_,rfl,_,rfl,_,rfl,a,_,rfl,SqL.of ha,fun l1 h1=>?_⟩
   rw [cut_from hsl]
   have s1:Same H (upd H l1 (.lst ((ws.drop st).map V.int))):=Same.new h1
   refine ⟨_,rfl,_,rfl,_,rfl,a,_,rfl,SqL.of (s1 _ _ ha),fun l2 h2=>?_⟩
   rw [cut_to hsl]
   obtain ⟨hne2,h2'⟩:=upd_none h2
   refine ⟨l1,l2,_,_,rfl,rfl,by rw [upd_ne (Ne.symm hne2),upd_same],upd_same,?_,fun l3 h3=>?_⟩
   ·rw [List.length_map,List.length_map,List.length_drop,List.length_take]; exact small_word (by omega)
   ·have s3:=Same.add (o:=.lst ((ws.take st).map V.int)) s1 h2'
    refine k l3 _ (Same.add s3 (s3.free h3)) (s3.free h3) ?_
    rw [upd_same,et,List.map_append]
theorem sc_crossable:FnScope ["tent","place"] ["tent","place"] (defScope s_crossable):=⟨rfl,rfl,rfl,by decide +kernel,rfl,by decide +kernel,by decide +kernel⟩
theorem ok_crossable (T:Txt w K mg t):FnOk P w K mg base (CXr P w) 4 t.f_crossable t.d_crossable ["tent","place"] (sp_crossable t.C_Tent):=by
 refine T.p_crossable.F.okR sc_crossable (fun vs H Q E h=>?_) (fun cdv A outer s H vs Q E hr h=>?_)
 ·obtain ⟨p,M,ns,x,rfl,_⟩:=h
  rfl
 ·obtain ⟨p,M,ns,x,rfl,ta,hMl,k⟩:=h
  obtain ⟨dx,cl,na,sp,mt,o,f,b⟩:=id ta
  refine ⟨_,(pss_one (ps_ret (pe_and (pe_meth (pv 0) T.cl_Tent T.p_Tent_has_place.m (ok_Tent_has_place T) (hr.mono (by decide)) T.p_Tent_has_place.b .nil passR (pa_cons (pv 1) pa_nil)) (pe_one (pe_cmpR op_notN (pe_meth (pv 0) T.cl_Tent T.p_Tent_mate.m (ok_Tent_mate T) (hr.mono (by decide)) T.p_Tent_mate.b .nil passR (pa_cons (pv 1) pa_nil)) pe_non (nomark _)))))),?_⟩
  refine ⟨_,rfl,p,dx,_,rfl,b.ins,fl_none _ _ _ _,_,rfl,p,M,ns,x,rfl,ta,_,rfl,?_⟩
  by_cases c:0≤x∧x < (ns.length:Int)
  ·rw [decide_eq_true c]
   refine iteT ⟨_,rfl,p,dx,_,rfl,b.ins,fl_none _ _ _ _,_,rfl,p,M,ns,x,rfl,ta,hMl,fun i y e1 e2=>?_,fun z=>absurd c z⟩
   refine ⟨rfl,?_⟩
   have:crossB M x=!decide (mV y=.non):=by
    unfold crossB
    rw [e1,Int.toNat_natCast,List.getD_eq_getElem?_getD,e2,decide_eq_true (show (0:Int)≤i∧(i:Int) < M.length by omega)]
    cases y <;> rfl
   rw [this] at k
   exact k
  ·rw [decide_eq_false c]
   have:crossB M x=false:=by unfold crossB; rw [decide_eq_false (by omega)]; rfl
   rw [this] at k
   exact iteF k
theorem sc_follows:FnScope ["tent","ahead","place","entry"] ["tent","ahead","place"] (defScope s_follows):=⟨rfl,rfl,rfl,by decide +kernel,rfl,by decide +kernel,by decide +kernel⟩
theorem ok_follows (T:Txt w K mg t):FnOk P w K mg base (CXr P w) 4 t.f_follows t.d_follows ["tent","ahead","place"] (sp_follows t.C_Tent):=by
 refine T.p_follows.F.okR sc_follows (fun vs H Q E h=>?_) (fun cdv A outer s H vs Q E hr h=>?_)
 ·obtain ⟨p,M,ns,a,x,rfl,_⟩:=h
  rfl
 ·obtain ⟨p,M,ns,a,x,rfl,ta,hMl,hc,k⟩:=h
  obtain ⟨dx,cl,na,sp,mt,o,f,b⟩:=id ta
  refine ⟨_,(pss_cons (ps_set (i:=3) sc_follows.nd rfl (Or.inl rfl) (pe_meth (pv 0) T.cl_Tent T.p_Tent_mate.m (ok_Tent_mate T) (hr.mono (by decide)) T.p_Tent_mate.b .nil passR (pa_cons (pv 1) pa_nil)))
   (pss_one (ps_ret (pe_and (pe_cmpR op_eq (pe_call (ok_cloth_of T) (hr.mono (by decide)) rfl T.p_cloth_of.g T.p_cloth_of.F.kp T.p_cloth_of.b .nil passR (pa_cons (pv 2) pa_nil)) (pe_call (ok_cloth_of T) (hr.mono (by decide)) rfl T.p_cloth_of.g T.p_cloth_of.F.kp T.p_cloth_of.b .nil passR (pa_cons (pv 3) pa_nil)) (nomark _)) (pe_one (pe_cmpR op_ne (pv 2) (pv 3) (nomark _))))))),?_⟩
  obtain ⟨hr1,hs1⟩:=Bool.and_eq_true_iff.mp hc
  have hr1:=of_decide_eq_true hr1
  obtain ⟨m,hm⟩:=Option.isSome_iff_exists.mp hs1
  have hal:a.toNat < M.length:=by omega
  have ha:M[a.toNat]?=some (some m):=by rw [List.getD_eq_getElem?_getD,List.getElem?_eq_getElem hal] at hm; rw [List.getElem?_eq_getElem hal]; exact congrArg some hm
  have ef:followB M a x=(decide (x / 3=(m:Int) / 3) && !decide (x=(m:Int))):=by unfold followB; rw [hm]
  rw [ef] at k
  refine ⟨_,rfl,p,dx,_,rfl,b.ins,fl_none _ _ _ _,_,rfl,p,M,ns,a,rfl,ta,hMl,fun i y e1 e2=>?_,fun z=>absurd (show 0≤a∧a < (ns.length:Int) by omega) z⟩
  have:i=a.toNat:=by omega
  subst this
  rw [ha] at e2
  cases e2
  refine ⟨_,rfl,_,rfl,_,rfl,_,rfl,rfl,_,rfl,?_⟩
  have dI:∀ u v:Int,decide (V.int u=V.int v)=decide (u=v):=fun u v=>by
   by_cases z:u=v
   ·subst z; simp
   ·rw [decide_eq_false z,decide_eq_false (fun y=>z (by injection y))]
  rw [dI]
  by_cases z:x / 3=(m:Int) / 3
  ·rw [decide_eq_true z] at k ⊢
   refine iteT ⟨_,rfl,_,rfl,rfl,?_⟩
   show Q (.bl (!decide (V.int x=V.int (m:Int)))) H
   rw [dI]
   exact k
  ·rw [decide_eq_false z] at k ⊢
   exact iteF k
theorem sc_plain:FnScope ["tent","word"] ["tent","word"] (defScope s_plain):=⟨rfl,rfl,rfl,by decide +kernel,rfl,by decide +kernel,by decide +kernel⟩
theorem ok_plain (T:Txt w K mg t):FnOk P w K mg base (CXr P w) 5 t.f_plain t.d_plain ["tent","word"] (sp_plain t.C_Tent):=by
  refine T.p_plain.F.okR sc_plain (fun vs H Q E h=>?_) (fun cdv A outer s H vs Q E hr h=>?_)
  · obtain ⟨p,a,M,ns,ws,rfl,_⟩:=h
    rfl
  · obtain ⟨p,a,M,ns,ws,rfl,ta,hMl,ha,hl,k⟩:=h
    refine ⟨_,(pss_cons (ps_if (PW.pt (pw_or (pt_not (pt_truth (pv 1) (fun _=>rfl))) (pw_or1 (pt_not (pt_val (pe_callB (call_all rfl) (by rfl) T.n_all PyProof.Rows.boot_all (pa_cons (pe_compG (ts:=["place"]) (fv:=[("tent",0)]) ⟨rfl,by decide +kernel,by decide +kernel,blkFree (by rfl),⟨⟨rfl,rfl,Or.inl rfl⟩,trivial⟩⟩ rfl (pi_list (pv 1)) (fun _ _ _ _=>(pg_name (i:=0) (show List.Nodup (["place","tent"]:List Str) from by decide +kernel) rfl (Or.inl rfl) (Or.inr rfl))) (fun _ _ _ _=>pts_nil) (fun _ _ _=>rfl) (fun _ _ _ _ _ _=>pb_emit (pe_call (ok_crossable T) (hr.mono (by decide)) rfl T.p_crossable.g T.p_crossable.F.kp T.p_crossable.b .nil passR (pa_cons (pv 1) (pa_cons (pv 0) pa_nil))))) pa_nil))))))) (pss_one (ps_ret pe_bl)) pss_nil)
      (pss_one (ps_ret (pe_callB (call_all rfl) (by rfl) T.n_all PyProof.Rows.boot_all (pa_cons (pe_compG (ts:=["ahead","place"]) (fv:=[("tent",0)]) ⟨rfl,by decide +kernel,by decide +kernel,blkFree (by rfl),⟨⟨rfl,rfl,Or.inl rfl⟩,trivial⟩⟩ rfl (pi_zip2 rfl T.n_zip (pa_cons (pv 1) (pa_cons (pe_call (ok_turned T) (hr.mono (by decide)) rfl T.p_turned.g T.p_turned.F.kp T.p_turned.b .nil passR (pa_cons (pv 1) (pa_cons pe_int pa_nil))) pa_nil))) (fun _ _ _ _=>(pg_tupK (n:=2) K rfl (pgs_cons (pg_name (i:=0) (show List.Nodup (["ahead","place","tent"]:List Str) from by decide +kernel) rfl (Or.inl rfl) (Or.inr rfl)) (pgs_cons (pg_name (i:=1) (show List.Nodup (["ahead","place","tent"]:List Str) from by decide +kernel) rfl (Or.inl rfl) (Or.inr rfl)) pgs_nil)))) (fun _ _ _ _=>pts_nil) (fun _ _ _=>rfl) (fun _ _ _ _ _ _=>pb_emit (pe_call (ok_follows T) (hr.mono (by decide)) rfl T.p_follows.g T.p_follows.F.kp T.p_follows.b .nil passR (pa_cons (pv 2) (pa_cons (pv 0) (pa_cons (pv 1) pa_nil)))))) pa_nil))))),?_⟩
    refine seq_cut fun nxC hnxC=>?_
    refine ⟨_,rfl,_,.inl ⟨_,SqL.of ha,rfl⟩,?_⟩
    by_cases hne:ws=[]
    · subst hne
      exact iteT (k _ (Same.refl _))
    · have e:(!(ws.map V.int).isEmpty)=true:=by cases ws with | nil=>exact absurd rfl hne | cons _ _=>rfl
      have e':(!ws.isEmpty)=true:=by cases ws with | nil=>exact absurd rfl hne | cons _ _=>rfl
      have hp:0 < ws.length:=by cases ws with | nil=>exact absurd rfl hne | cons _ _=>simp
      rw [e]
      refine iteF ?_
      refine ⟨_,rfl,a,rfl,⟨_,SqL.of ha⟩,fun D hD=>?_⟩
      refine loop_list (xs:=ws.map V.int) (fun i σ H1=>∃ v,σ=[v,some (.ref p)]∧Same H H1∧H1 D=some (.lst (((ws.take i).map (crossB M)).map V.bl))) ⟨none,rfl,Same.new hD,upd_same⟩ ?_ ?_ ?_
      · rintro i σ H1 _ ⟨v,rfl,sm,h1⟩
        exact SqL.of (sm _ _ ha)
      · rintro i x σ H1 hx ⟨v,rfl,sm,h1⟩
        obtain ⟨y,hy,rfl⟩:=map_some hx
        dsimp only [gName,tYes]
        rw [if_pos rfl]
        refine ⟨_,rfl,_,rfl,p,M,ns,y,rfl,ta.same sm,hMl,_,h1,?_,_,rfl,Same.add sm hD,?_⟩
        · rw [List.length_map,List.length_map,List.length_take,sizeLine_eq]; omega
        · rw [upd_same,List.take_add_one,hy,List.map_append,List.map_append]; rfl
      rintro σ H1 ⟨v,rfl,s1,h1⟩
      rw [List.length_map,List.take_length] at h1
      refine ⟨D,_,rfl,SqL.of h1,_,rfl,?_⟩
      by_cases hc:(ws.map (crossB M)).all id=true
      · rw [hc]
        refine iteF ?_
        dsimp only [tNext]
        refine hnxC _ _ ?_
        refine ⟨_,rfl,_,rfl,a,ws,1,rfl,s1 _ _ ha,hl,fun tl H2 s2 htl h2=>?_⟩
        have s02:=s1.trans s2
        have et:turnI ws 1=rot ws (1 % ws.length):=by
          unfold turnI
          congr 1
        rw [et] at h2
        have hrl:(rot ws (1 % ws.length)).length=ws.length:=rot_len ws (Nat.le_of_lt (Nat.mod_lt _ hp))
        have hcr:∀ y∈ws,crossB M y=true:=fun y hy=>List.all_eq_true.mp hc _ (List.mem_map.mpr ⟨y,hy,rfl⟩)
        have ep:plainB M ws=(pairB M ws (rot ws (1 % ws.length))).all id:=by unfold plainB; rw [e',hc]; rfl
        have k':=fun H' s'=>k H' s'
        rw [ep] at k'
        generalize rot ws (1 % ws.length)=vs at h2 hrl k'
        refine ⟨.l a,.l tl,_,_,rfl,SqL.of (s02 _ _ ha),SqL.of h2,fun D2 hD2=>?_⟩
        refine loop_zip2 (S:=.l a) (T:=.l tl) (xs:=ws.map V.int) (ys:=vs.map V.int) (by rw [List.length_map,List.length_map,hrl]) (fun i σ H3=>∃ v v',σ=[v,v',some (.ref p)]∧Same H2 H3∧H3 D2=some (.lst (((pairB M ws vs).take i).map V.bl))) ⟨none,none,rfl,Same.new hD2,upd_same⟩ ?_ ?_ ?_
        · rintro i σ H3 _ ⟨v,v',rfl,s3,h3⟩
          exact ⟨SqL.of (s3 _ _ (s02 _ _ ha)),SqL.of (s3 _ _ h2)⟩
        · rintro i x y σ H3 q hx hy hq ⟨v,v',rfl,s3,h3⟩
          obtain ⟨x',hx',rfl⟩:=map_some hx
          obtain ⟨y',hy',rfl⟩:=map_some hy
          have s4:Same H3 (upd H3 q (.tup [V.int x',V.int y'])):=Same.new hq
          refine ⟨q,_,rfl,SqT.of upd_same,rfl,_,_,rfl,_,_,rfl,rfl,?_⟩
          dsimp only [tYes]
          rw [if_pos rfl]
          refine ⟨_,rfl,_,rfl,_,rfl,p,M,ns,x',y',rfl,((ta.same s02).same s3).same s4,hMl,hcr x' (List.mem_of_getElem? hx'),_,s4 _ _ h3,?_,_,_,rfl,Same.add (s3.trans s4) hD2,?_⟩
          · rw [List.length_map,List.length_take]
            have:(pairB M ws vs).length≤ws.length:=by unfold pairB; rw [List.length_map,List.length_zip]; omega
            rw [sizeLine_eq]; omega
          · have:(pairB M ws vs)[i]?=some (followB M x' y'):=by
              unfold pairB
              rw [List.getElem?_map,List.getElem?_zip_eq_some (z:=(x',y')) |>.mpr ⟨hx',hy'⟩]
              rfl
            rw [upd_same,List.take_add_one,this,List.map_append]
            rfl
        rintro σ H3 ⟨v,v',rfl,s3,h3⟩
        have hpl:(pairB M ws vs).length=ws.length:=by unfold pairB; rw [List.length_map,List.length_zip]; omega
        rw [List.length_map,List.take_of_length_le (Nat.le_of_eq hpl)] at h3
        exact ⟨D2,_,rfl,SqL.of h3,k' _ (s02.trans s3)⟩
      · have hc:(ws.map (crossB M)).all id=false:=by rw [Bool.eq_false_iff]; exact hc
        rw [hc]
        have ep:plainB M ws=false:=by unfold plainB; rw [hc]; simp
        have:=k _ s1
        rw [ep] at this
        exact iteT this
theorem sc_look_thread:FnScope ["tent","word"] ["tent","word"] (defScope s_look_thread):=⟨rfl,rfl,rfl,by decide +kernel,rfl,by decide +kernel,by decide +kernel⟩
theorem ok_look_thread (T:Txt w K mg t):FnOk P w K mg base (CXr P w) 6 t.f_look_thread t.d_look_thread ["tent","word"] (sp_look_thread t.C_Tent t.E_NoThread):=by
 refine T.p_look_thread.F.okX sc_look_thread (fun vs H Q E h=>?_) (fun cdv A outer s H vs Q E hr h=>?_)
 ·obtain ⟨p,a,M,ns,ws,rfl,_⟩:=h
  rfl
 ·obtain ⟨p,a,M,ns,ws,rfl,ta,hMl,ha,hl,k⟩:=h
  refine ⟨_,(pssx_one (psx_if (pt_not (pt_val (pe_call (ok_plain T) (hr.mono (by decide)) rfl T.p_plain.g T.p_plain.F.kp T.p_plain.b .nil passR (pa_cons (pv 0) (pa_cons (pv 1) pa_nil))))) (pssx_one (psx_raise T.x_NoThread FBV rfl T.gx_NoThread rfl (pa_cons pe_str pa_nil))) pssx_nil)),?_⟩
  refine ⟨_,rfl,_,rfl,p,a,M,ns,ws,rfl,ta,hMl,ha,hl,fun H' s'=>⟨_,rfl,?_⟩⟩
  obtain ⟨k1,k2⟩:=k H' s'
  cases e:plainB M ws with
  | true=>exact iteF (k1 e)
  | false=>exact iteT ⟨by decide,k2 e⟩
end
end KT
set_option maxHeartbeats 4000000
namespace KT
open PySem L2
theorem nv_wI (ws:List Nat):ws.map nV=(wI ws).map V.int:=by rw [List.map_map]; rfl
theorem wI_len (ws:List Nat):(wI ws).length=ws.length:=by simp
end KT
set_option maxHeartbeats 4000000
namespace KT
open PySem L2
theorem after_sideN (i:Nat):(i:Int) - (i:Int) % 3 + ((i:Int) + 1) % 3=(aftN i:Int):=by rw [← aftN_eq]; exact after_side i
theorem dN {a b:Nat}:decide (V.int (a:Int)=V.int (b:Int))=decide (a=b):=by
 by_cases z:a=b
 ·subst z; simp
 ·rw [decide_eq_false z,decide_eq_false (fun y=>z (by injection y with y; omega))]
noncomputable def sp_letter (C:Addr):Sp:=fun vs H Q _=>∃ (p:Addr) (M:List (Option Nat)) (ns:List Int) (a x m:Nat),vs=[.ref p,.int a,.int x]∧TentAt C H p M ns∧M.length=ns.length∧M[a]?=some (some m)∧Q (.str (letS M a x)) H
noncomputable def sp_letters (C:Addr):Sp:=fun vs H Q _=>∃ (p a:Addr) (M:List (Option Nat)) (ns:List Int) (ws:List Nat),vs=[.ref p,.ref a]∧TentAt C H p M ns∧M.length=ns.length∧H a=some (.lst (ws.map nV))∧ws.length≤10000∧Pl M ws∧∀ H',Same H H'→Q (.str (Txt.join (Str.ofString "") (letL M ws))) H'
theorem letS_len (M:List (Option Nat)) (a p:Nat):(letS M a p).length=1:=by unfold letS; split <;> decide
theorem letL_sum (M:List (Option Nat)):∀ l:List (Nat × Nat),((l.map fun q=>letS M q.1 q.2).map (·.length)).sum=l.length
 | []=>rfl
 | q :: r=>by rw [List.map_cons,List.map_cons,List.sum_cons,letL_sum M r,letS_len,List.length_cons]; omega
section
variable {P:Program} {w:World} {K:PySem.W.Frag} {mg:Str→Option Value} {base:Heap} {t:Adr}
theorem sc_letter:FnScope ["tent","ahead","place"] ["tent","ahead","place"] (defScope s_letter):=⟨rfl,rfl,rfl,by decide +kernel,rfl,by decide +kernel,by decide +kernel⟩
theorem ok_letter (T:Txt w K mg t):FnOk P w K mg base (CXr P w) 4 t.f_letter t.d_letter ["tent","ahead","place"] (sp_letter t.C_Tent):=by
 refine T.p_letter.F.okR sc_letter (fun vs H Q E h=>?_) (fun cdv A outer s H vs Q E hr h=>?_)
 ·obtain ⟨p,M,ns,a,x,m,rfl,_⟩:=h
  rfl
 ·obtain ⟨p,M,ns,a,x,m,rfl,ta,hMl,ha,k⟩:=h
  obtain ⟨dx,cl,na,sp,mt',o,f,b⟩:=id ta
  have haM:a < M.length:=(List.getElem?_eq_some_iff.mp ha).1
  refine ⟨_,(pss_one (ps_ret (pe_ifExp (pt_cmpR op_eq (pv 2) (pe_call (ok_after T) (hr.mono (by decide)) rfl T.p_after.g T.p_after.F.kp T.p_after.b .nil passR (pa_cons (pe_meth (pv 0) T.cl_Tent T.p_Tent_mate.m (ok_Tent_mate T) (hr.mono (by decide)) T.p_Tent_mate.b .nil passR (pa_cons (pv 1) pa_nil)) pa_nil)) (nomark _)) pe_str pe_str))),?_⟩
  refine ⟨_,rfl,_,rfl,p,dx,_,rfl,b.ins,fl_none _ _ _ _,_,rfl,p,M,ns,a,rfl,ta,hMl,fun i y e1 e2=>?_,fun z=>absurd (show (0:Int)≤a∧(a:Int) < ns.length by omega) z⟩
  have:i=a:=by omega
  subst this
  rw [ha] at e2
  cases e2
  refine ⟨(m:Int),rfl,rfl,_,rfl,?_⟩
  have e:letS M i x=if x=aftN m then Str.ofString "R" else Str.ofString "L":=by unfold letS; rw [List.getD_eq_getElem?_getD,ha]; rfl
  rw [e] at k
  rw [aftN_eq,dN]
  by_cases z:x=aftN m
  ·rw [if_pos z] at k
   rw [decide_eq_true z]
   exact iteT k
  ·rw [if_neg z] at k
   rw [decide_eq_false z]
   exact iteF k
theorem sc_letters:FnScope ["tent","word"] ["tent","word"] (defScope s_letters):=⟨rfl,rfl,rfl,by decide +kernel,rfl,by decide +kernel,by decide +kernel⟩
theorem ok_letters (T:Txt w K mg t):FnOk P w K mg base (CXr P w) 7 t.f_letters t.d_letters ["tent","word"] (sp_letters t.C_Tent):=by
 refine T.p_letters.F.okX sc_letters (fun vs H Q E h=>?_) (fun cdv A outer s H vs Q E hr h=>?_)
 ·obtain ⟨p,a,M,ns,ws,rfl,_⟩:=h
  rfl
 ·obtain ⟨p,a,M,ns,ws,rfl,ta,hMl,ha,hl,hP,k⟩:=h
  refine ⟨_,(pssx_cons (psx_expr (pex_call (ok_look_thread T) (hr.mono (by decide)) rfl T.p_look_thread.g T.p_look_thread.F.kp T.p_look_thread.b .nil (pa_cons (pv 0) (pa_cons (pv 1) pa_nil))))
   (pssx_one (psx_of (ps_ret (pe_bm PySem.F.plainAttrs_str PySem.F.slot_str_join PySem.F.type_str_join mt_join pe_str (pa_cons (pe_compG (ts:=["ahead","place"]) (fv:=[("tent",0)]) ⟨rfl,by decide +kernel,by decide +kernel,blkFree (by rfl),⟨⟨rfl,rfl,Or.inl rfl⟩,trivial⟩⟩ rfl (pi_zip2 rfl T.n_zip (pa_cons (pv 1) (pa_cons (pe_call (ok_turned T) (hr.mono (by decide)) rfl T.p_turned.g T.p_turned.F.kp T.p_turned.b .nil passR (pa_cons (pv 1) (pa_cons pe_int pa_nil))) pa_nil))) (fun _ _ _ _=>(pg_tupK (n:=2) K rfl (pgs_cons (pg_name (i:=0) (show List.Nodup (["ahead","place","tent"]:List Str) from by decide +kernel) rfl (Or.inl rfl) (Or.inr rfl)) (pgs_cons (pg_name (i:=1) (show List.Nodup (["ahead","place","tent"]:List Str) from by decide +kernel) rfl (Or.inl rfl) (Or.inr rfl)) pgs_nil)))) (fun _ _ _ _=>pts_nil) (fun _ _ _=>rfl) (fun _ _ _ _ _ _=>pb_emit (pe_call (ok_letter T) (hr.mono (by decide)) rfl T.p_letter.g T.p_letter.F.kp T.p_letter.b .nil passR (pa_cons (pv 2) (pa_cons (pv 0) (pa_cons (pv 1) pa_nil)))))) pa_nil)))))),?_⟩
  have hp:0 < ws.length:=by have:=hP.ne; cases ws with | nil=>exact absurd rfl this | cons _ _=>simp
  refine ⟨_,rfl,_,rfl,p,a,M,ns,wI ws,rfl,ta,hMl,by rw [ha,nv_wI],by rw [wI_len]; omega,fun H1 s1=>⟨fun _=>?_,fun z=>absurd ((plain_iff.mpr hP).symm.trans z) (by decide)⟩⟩
  refine ⟨rfl,_,rfl,_,rfl,a,wI ws,1,rfl,by rw [s1 _ _ ha,nv_wI],by rw [wI_len]; omega,fun tl H2 s2 htl h2=>?_⟩
  have s02:=s1.trans s2
  have et:(turnI (wI ws) 1).map V.int=(rot ws (1 % ws.length)).map nV:=by
   rw [nv_wI]
   congr 1
   unfold turnI
   rw [wI_len,show (1 % (ws.length:Int)).toNat=1 % ws.length by
    rw [show (1:Int)=((1:Nat):Int) from rfl,← Int.natCast_emod,Int.toNat_natCast]]
   unfold rot wI
   rw [List.map_append,List.map_drop,List.map_take]
  rw [et] at h2
  have hrl:(rot ws (1 % ws.length)).length=ws.length:=rot_len ws (Nat.le_of_lt (Nat.mod_lt _ hp))
  unfold letL at k
  generalize rot ws (1 % ws.length)=vs at h2 hrl k
  refine ⟨.l a,.l tl,_,_,rfl,SqL.of (s02 _ _ ha),SqL.of h2,fun D2 hD2=>?_⟩
  refine loop_zip2 (S:=.l a) (T:=.l tl) (xs:=ws.map nV) (ys:=vs.map nV) (by rw [List.length_map,List.length_map,hrl]) (fun i σ H3=>∃ v v',σ=[v,v',some (.ref p)]∧Same H2 H3∧H3 D2=some (.lst ((((ws.zip vs).map fun q=>letS M q.1 q.2).take i).map V.str))) ⟨none,none,rfl,Same.new hD2,upd_same⟩ ?_ ?_ ?_
  ·rintro i σ H3 _ ⟨v,v',rfl,s3,h3⟩
   exact ⟨SqL.of (s3 _ _ (s02 _ _ ha)),SqL.of (s3 _ _ h2)⟩
  ·rintro i x y σ H3 q hx hy hq ⟨v,v',rfl,s3,h3⟩
   obtain ⟨x',hx',rfl⟩:=map_some hx
   obtain ⟨y',hy',rfl⟩:=map_some hy
   have s4:Same H3 (upd H3 q (.tup [nV x',nV y'])):=Same.new hq
   obtain ⟨mt,hmt⟩:=hP.has x' (List.mem_of_getElem? hx')
   refine ⟨q,_,rfl,SqT.of upd_same,rfl,_,_,rfl,_,_,rfl,rfl,?_⟩
   dsimp only [tYes]
   rw [if_pos rfl]
   refine ⟨_,rfl,_,rfl,_,rfl,p,M,ns,x',y',mt,rfl,((ta.same s02).same s3).same s4,hMl,hmt,_,s4 _ _ h3,?_,_,_,rfl,Same.add (s3.trans s4) hD2,?_⟩
   ·rw [List.length_map,List.length_take,List.length_map,List.length_zip,sizeLine_eq]
    omega
   ·have:((ws.zip vs).map fun q=>letS M q.1 q.2)[i]?=some (letS M x' y'):=by
     rw [List.getElem?_map,List.getElem?_zip_eq_some (z:=(x',y')) |>.mpr ⟨hx',hy'⟩]
     rfl
    rw [upd_same,List.take_add_one,this,List.map_append]
    rfl
  rintro σ H3 ⟨v,v',rfl,s3,h3⟩
  have hpl:((ws.zip vs).map fun q=>letS M q.1 q.2).length=ws.length:=by rw [List.length_map,List.length_zip]; omega
  rw [List.length_map,List.take_of_length_le (Nat.le_of_eq hpl)] at h3
  exact ⟨_,D2,_,rfl,rfl,SqL.of h3,by decide,by rw [letL_sum,List.length_map,List.length_zip]; omega,k _ (s02.trans s3)⟩
end
end KT
set_option maxHeartbeats 4000000
namespace KT
open PySem L2
theorem flat_nat (l:List Nat):(l.map nV).all flatV=true:=by rw [List.all_eq_true]; intro v hv; obtain ⟨x,_,rfl⟩:=List.mem_map.mp hv; rfl
theorem eqV_nat {x y:Nat}:eqV (nV y) (nV x)=decide (y=x):=by
 show decide ((y:Int)=(x:Int))=_
 by_cases z:y=x
 ·subst z; simp
 ·rw [decide_eq_false z,decide_eq_false (by omega)]
theorem inV_nat {x:Nat} {l:List Nat}:inV (nV x) (l.map nV)=decide (x∈l):=by
 unfold inV
 rw [List.any_map,Bool.eq_iff_iff,List.any_eq_true,decide_eq_true_eq]
 constructor
 ·rintro ⟨y,hy,e⟩
  have e:eqV (nV y) (nV x)=true:=e
  rw [eqV_nat,decide_eq_true_eq] at e
  rw [← e]; exact hy
 ·intro h
  refine ⟨x,h,?_⟩
  show eqV (nV x) (nV x)=true
  rw [eqV_nat,decide_eq_true rfl]
theorem dN3 {a b:Nat}:decide (V.int ((a:Int) / 3)=V.int ((b:Int) / 3))=decide (a / 3=b / 3):=by
 rw [div3,div3]; exact dN
theorem rot1_len (ks:List Nat):(rot ks (1 % ks.length)).length=ks.length:=by
 by_cases z:ks.length=0
 ·have:ks=[]:=List.length_eq_zero_iff.mp z
  subst this; rfl
 ·exact rot_len _ (Nat.le_of_lt (Nat.mod_lt _ (by omega)))
theorem turn1 (ks:List Nat):(turnI (wI ks) 1).map V.int=(rot ks (1 % ks.length)).map nV:=by
 rw [nv_wI]
 congr 1
 unfold turnI
 rw [wI_len,show (1 % (ks.length:Int)).toNat=1 % ks.length by
  rw [show (1:Int)=((1:Nat):Int) from rfl,← Int.natCast_emod,Int.toNat_natCast]]
 unfold rot wI
 rw [List.map_append,List.map_drop,List.map_take]
theorem val_glN {left:Bool} {a b z:Nat}:(valV (glV left a b) (Sum.inl (z:Int))).getD (nV z)=nV (mvN left a b z):=by
 rw [show nV z=V.int (z:Int) from rfl,val_gl,← mvN_eq]; rfl
theorem val_glM {left:Bool} {a b z:Nat}:(valV (glV left a b) (Sum.inl (z:Int))).getD (mV (some z))=nV (mvN left a b z):=val_glN
theorem keepB_in {a b q:Nat}:(!decide (q∈[a,b]))=keepB a b q:=by
 unfold keepB
 by_cases h1:q=a
 ·subst h1; simp
 ·by_cases h2:q=b
  ·subst h2; simp
  ·simp [h1,h2]
noncomputable def sp_cross:Sp:=fun vs H Q _=>∃ (o:Addr) (a b e f:Nat),vs=[.ref o,.int e,.int f]∧H o=some (.lst ([a,b].map nV))∧∀ (l:Addr) (H':Hp),Same H H'→H' l=some (.lst ((crossL a b e f).map nV))→Q (.ref l) H'
noncomputable def sp_pulled (C:Addr):Sp:=fun vs H Q _=>∃ (p wd:Addr) (M:List (Option Nat)) (ns:List Int) (x:Int) (left:Bool) (a b:Nat) (ws:List Nat),vs=[.ref p,.int x,.str (wayS left),.ref wd]∧TentAt C H p M ns∧TD M ns∧x∈keys ns ns.length∧pl ns ns.length x=[a,b]∧a / 3≠b / 3∧H wd=some (.lst (ws.map nV))∧ws.length≤1000∧Pl M ws ∧
 ∀ (l:Addr) (H':Hp),Same H H'→H l=none→H' l=some (.lst ((pullL M left a b (pairsL (keptL a b ws))).map nV))→Q (.ref l) H'
section
variable {P:Program} {w:World} {K:PySem.W.Frag} {mg:Str→Option Value} {base:Heap} {t:Adr}
theorem sc_crossing_between:FnScope ["own","entry","leaving"] ["own","entry","leaving"] (defScope s_crossing_between):=⟨rfl,rfl,rfl,by decide +kernel,rfl,by decide +kernel,by decide +kernel⟩
theorem ok_crossing_between (T:Txt w K mg t):FnOk P w K mg base (CXr P w) 2 t.f_crossing_between t.d_crossing_between ["own","entry","leaving"] sp_cross:=by
 refine T.p_crossing_between.F.okR sc_crossing_between (fun vs H Q E h=>?_) (fun cdv A outer s H vs Q E hr h=>?_)
 ·obtain ⟨o,a,b,e,f,rfl,_⟩:=h
  rfl
 ·obtain ⟨o,a,b,e,f,rfl,ho,k⟩:=h
  refine ⟨_,(pss_cons (ps_if (pt_cmpR op_eq (pe_call (ok_cloth_of T) (hr.mono (by decide)) rfl T.p_cloth_of.g T.p_cloth_of.F.kp T.p_cloth_of.b .nil passR (pa_cons (pv 1) pa_nil)) (pe_call (ok_cloth_of T) (hr.mono (by decide)) rfl T.p_cloth_of.g T.p_cloth_of.F.kp T.p_cloth_of.b .nil passR (pa_cons (pv 2) pa_nil)) (nomark _)) (pss_one (ps_ret (pe_lst pa_nil))) pss_nil)
   (pss_one (ps_ret (pe_compG (ts:=["place"]) (fv:=[("entry",1)]) ⟨rfl,by decide +kernel,by decide +kernel,blkFree (by rfl),⟨⟨rfl,rfl,Or.inl rfl⟩,trivial⟩⟩ rfl (pi_list (pv 0)) (fun _ _ _ _=>(pg_name (i:=0) (show List.Nodup (["place","entry"]:List Str) from by decide +kernel) rfl (Or.inl rfl) (Or.inr rfl))) (fun _ _ _ _=>(pts_one (pt_cmpR op_eq (pe_call (ok_cloth_of T) (hr.mono (by decide)) rfl T.p_cloth_of.g T.p_cloth_of.F.kp T.p_cloth_of.b .nil passR (pa_cons (pv 0) pa_nil)) (pe_call (ok_cloth_of T) (hr.mono (by decide)) rfl T.p_cloth_of.g T.p_cloth_of.F.kp T.p_cloth_of.b .nil passR (pa_cons (pv 1) pa_nil)) (nomark _)))) (fun _ _ _=>rfl) (fun _ _ _ _ _ _=>pb_emit (pv 0)))))),?_⟩
  refine ⟨_,rfl,_,rfl,_,rfl,_,rfl,rfl,_,rfl,?_⟩
  rw [dN3]
  unfold crossL at k
  by_cases z:e / 3=f / 3
  ·rw [if_pos z] at k
   rw [decide_eq_true z]
   exact iteT ⟨Nat.zero_le _,fun l hl=>k l _ (Same.new hl) upd_same⟩
  ·rw [if_neg z] at k
   rw [decide_eq_false z]
   refine iteF ?_
   dsimp only [tNext]
   refine ⟨_,rfl,o,rfl,⟨_,SqL.of ho⟩,fun D hD=>?_⟩
   refine loop_list (xs:=[a,b].map nV) (fun i σ H1=>∃ v,σ=[v,some (.int e)]∧Same H H1∧H1 D=some (.lst ((([a,b].take i).filter fun q=>decide (q / 3=e / 3)).map nV))) ⟨none,rfl,Same.new hD,upd_same⟩ ?_ ?_ ?_
   ·rintro i σ H1 _ ⟨v,rfl,sm,h1⟩
    exact SqL.of (sm _ _ ho)
   ·rintro i y σ H1 hy ⟨v,rfl,sm,h1⟩
    obtain ⟨q,hq,rfl⟩:=map_some hy
    have hi:i < 2:=(List.getElem?_eq_some_iff.mp hq).1
    have lt:((([a,b].take i).filter fun q=>decide (q / 3=e / 3)).map nV).length < sizeLine:=by
     rw [List.length_map]
     have h1:=List.length_filter_le (fun q=>decide (q / 3=e / 3)) ([a,b].take i)
     rw [List.length_take] at h1
     exact small1000 (by omega)
    dsimp only [gName]
    refine ⟨_,rfl,_,rfl,_,rfl,_,rfl,rfl,_,rfl,?_⟩
    show if decide (V.int ((q:Int) / 3)=V.int ((e:Int) / 3))=true then _ else _
    rw [dN3]
    by_cases c:q / 3=e / 3
    ·rw [decide_eq_true c]
     refine iteT ⟨_,rfl,_,h1,lt,_,rfl,Same.add sm hD,?_⟩
     rw [upd_same,flt_step hq,if_pos (decide_eq_true c),List.map_append]; rfl
    ·rw [decide_eq_false c]
     refine iteF ⟨_,rfl,sm,?_⟩
     rw [h1,flt_step hq,if_neg (by rw [decide_eq_false c]; decide)]
   rintro σ H1 ⟨v,rfl,sm,h1⟩
   exact k D H1 sm h1
theorem sc_pulled:FnScope ["tent","seam","way","word","goals","own","kept","told","ahead","following","entry"] ["tent","seam","way","word"] (defScope s_pulled):=⟨rfl,rfl,rfl,by decide +kernel,rfl,by decide +kernel,by decide +kernel⟩
theorem ok_pulled (T:Txt w K mg t):FnOk P w K mg base (CXr P w) 7 t.f_pulled t.d_pulled ["tent","seam","way","word"] (sp_pulled t.C_Tent):=by
  refine T.p_pulled.F.okX sc_pulled (fun vs H Q E h=>?_) (fun cdv A outer s H vs Q E hr h=>?_)
  · obtain ⟨p,wd,M,ns,x,left,a,b,ws,rfl,_⟩:=h
    rfl
  · obtain ⟨p,wd,M,ns,x,left,a,b,ws,rfl,ta,td,hk,hpl,hab,hw,hwl,hP,k⟩:=h
    have hu:=hu_of hr
    have hMl:M.length=ns.length:=td.len.symm
    refine ⟨_,(pssx_cons (psx_set (i:=4) sc_pulled.nd rfl (Or.inl rfl) (pex_call (ok_shifts T) (hr.mono (by decide)) rfl T.p_shifts.g T.p_shifts.F.kp T.p_shifts.b .nil (pa_cons (pv 0) (pa_cons (pv 1) (pa_cons (pv 2) pa_nil)))))
      (pssx_cons (psx_expr (pex_call (ok_look_thread T) (hr.mono (by decide)) rfl T.p_look_thread.g T.p_look_thread.F.kp T.p_look_thread.b .nil (pa_cons (pv 0) (pa_cons (pv 3) pa_nil))))
      (pssx_cons (psx_of (ps_set (i:=5) sc_pulled.nd rfl (Or.inr rfl) (pe_meth (pv 0) T.cl_Tent T.p_Tent_places.m (ok_Tent_places T) (hr.mono (by decide)) T.p_Tent_places.b .nil passR (pa_cons (pv 1) pa_nil))))
      (pssx_cons (psx_of (ps_setCompG (ts:=["place"]) (fv:=[("own",5)]) (i:=6) ⟨rfl,by decide +kernel,by decide +kernel,blkFree (by rfl),⟨⟨rfl,rfl,Or.inl rfl⟩,trivial⟩⟩ rfl sc_pulled.nd rfl rfl (by rfl) (pi_list (pv 3)) (fun _ _ _ _=>(pg_name (i:=0) (show List.Nodup (["place","own"]:List Str) from by decide +kernel) rfl (Or.inl rfl) (Or.inr rfl))) (fun _ _ _ _=>(pts_one (pt_cmpR (op_notIn_seqK K) (pv 0) (pv 1) (by with_unfolding_all rfl)))) (fun _ _ _=>rfl) (fun _ _ _ _ _ _=>pb_emit (pv 0))))
      (pssx_cons (psx_of (ps_set (i:=7) sc_pulled.nd rfl (Or.inl rfl) (pe_lst pa_nil)))
      (pssx_cons (psx_of (ps_for PassesOwn.never rfl (pi_zip2 rfl T.n_zip (pa_cons (pv 6) (pa_cons (pe_call (ok_turned T) (hr.mono (by decide)) rfl T.p_turned.g T.p_turned.F.kp T.p_turned.b .nil passR (pa_cons (pv 6) (pa_cons pe_int pa_nil))) pa_nil))) (pg_tup rfl (pgs_cons (pg_name (i:=8) sc_pulled.nd rfl (Or.inl rfl)) (pgs_cons (pg_name (i:=9) sc_pulled.nd rfl (Or.inl rfl)) pgs_nil))) (pss_cons (ps_set (i:=10) sc_pulled.nd rfl (Or.inl rfl) (pe_meth (pv 0) T.cl_Tent T.p_Tent_mate.m (ok_Tent_mate T) (hr.mono (by decide)) T.p_Tent_mate.b .nil passR (pa_cons (pv 8) pa_nil)))
      (pss_cons (ps_expr (pe_bm PySem.F.plainAttrs_list PySem.F.slot_list_append PySem.F.type_list_append mt_append (pv 7) (pa_cons (pe_dget2 hu (pv 4) (pv 8) (pv 8) ⟨rfl,rfl,rfl,rfl⟩) pa_nil)))
      (pss_one (ps_expr (pe_bm PySem.F.plainAttrs_list PySem.F.slot_list_extend PySem.F.type_list_extend mt_extend (pv 7) (pa_cons (pe_call (ok_crossing_between T) (hr.mono (by decide)) rfl T.p_crossing_between.g T.p_crossing_between.F.kp T.p_crossing_between.b .nil passR (pa_cons (pv 5) (pa_cons (pe_dget2 hu (pv 4) (pv 10) (pv 10) ⟨rfl,rfl,rfl,rfl⟩) (pa_cons (pe_dget2 hu (pv 4) (pv 9) (pv 9) ⟨rfl,rfl,rfl,rfl⟩) pa_nil)))) pa_nil))))))))
      (pssx_one (psx_of (ps_ret (pv 7)))))))))),?_⟩
    refine ⟨_,rfl,_,rfl,_,rfl,p,M,ns,x,wayS left,rfl,ta,td,Wrong.free td hk hpl hab fun H1 s1 d hd0 hd=>?_⟩
    rw [way_isL] at hd
    refine ⟨_,rfl,_,rfl,p,wd,M,ns,wI ws,rfl,ta.same s1,hMl,by rw [s1 _ _ hw,nv_wI],by rw [wI_len]; omega,fun H2 s2=>⟨fun _=>?_,fun z=>absurd ((plain_iff.mpr hP).symm.trans z) (by decide)⟩⟩
    have s02:=s1.trans s2
    have hd2:=s2 _ _ hd
    have ta2:=ta.same s02
    obtain ⟨dx,cl,na,sp,mt',oo,ff,bb⟩:=id ta2
    refine ⟨_,rfl,p,dx,_,rfl,bb.ins,fl_none _ _ _ _,_,rfl,p,M,ns,x,rfl,ta2,fun _ o ho=>?_,fun z=>absurd hk z⟩
    rw [hpl]
    have s03:Same H (upd H2 o (.lst ([a,b].map nV))):=Same.add s02 (s02.free ho)
    have hd3:(upd H2 o (.lst ([a,b].map nV))) d=some (.dK (glV left a b)):=by rw [upd_ne (ne_of_none hd2 ho)]; exact hd2
    have ho3:(upd H2 o (.lst ([a,b].map nV))) o=some (.lst ([a,b].map nV)):=upd_same
    generalize upd H2 o (.lst ([a,b].map nV))=H3 at s03 hd3 ho3
    clear bb ta2 s02 hd2 s2 hd s1
    dsimp only [gName]
    refine ⟨_,rfl,wd,rfl,⟨_,SqL.of (s03 _ _ hw)⟩,fun D hD=>?_⟩
    refine loop_list (xs:=ws.map nV) (fun i σ H4=>∃ v,σ=[v,some (.ref o)]∧Same H3 H4∧H4 D=some (.lst (((ws.take i).filter (keepB a b)).map nV))) ⟨none,rfl,Same.new hD,upd_same⟩ ?_ ?_ ?_
    · rintro i σ H4 _ ⟨v,rfl,sm,h4⟩
      exact SqL.of (sm _ _ (s03 _ _ hw))
    · rintro i y σ H4 hy ⟨v,rfl,sm,h4⟩
      obtain ⟨q,hq,rfl⟩:=map_some hy
      have hi:i < ws.length:=(List.getElem?_eq_some_iff.mp hq).1
      have lt:(((ws.take i).filter (keepB a b)).map nV).length < sizeLine:=by
        rw [List.length_map]
        have h1:=List.length_filter_le (keepB a b) (ws.take i)
        rw [List.length_take] at h1
        exact small1000 (by omega)
      dsimp only [gName]
      refine ⟨_,rfl,_,rfl,o,_,rfl,.inl (SqL.of (sm _ _ ho3)),rfl,flat_nat _,_,rfl,?_⟩
      show if (if true=true then !inV (nV q) ([a,b].map nV) else inV (nV q) ([a,b].map nV))=true then _ else _
      rw [if_pos rfl,inV_nat,keepB_in]
      cases hb:keepB a b q with
      | true =>
        refine iteT ⟨_,rfl,_,h4,lt,_,rfl,Same.add sm hD,?_⟩
        rw [upd_same,flt_step hq,if_pos hb,List.map_append]; rfl
      | false =>
        refine iteF ⟨_,rfl,sm,?_⟩
        rw [h4,flt_step hq,if_neg (by rw [hb]; decide)]
    rintro σ H4 ⟨v,rfl,s34,h4⟩
    rw [List.length_map,List.take_length] at h4
    have hkl:(keptL a b ws).length≤1000:=Nat.le_trans (List.length_filter_le _ _) hwl
    have hkm:∀ q∈keptL a b ws,q∈ws:=fun q hq=>(List.mem_filter.mp hq).1
    have h4:H4 D=some (.lst ((keptL a b ws).map nV)):=h4
    generalize keptL a b ws=ks at h4 hkl hkm k
    have s04:=s03.trans s34
    have hd4:=s34 _ _ hd3
    have ho4:=s34 _ _ ho3
    dsimp only [gName]
    refine ⟨Nat.zero_le _,fun tl htl=>?_⟩
    have htl0:=s04.free htl
    have hot:o≠tl:=ne_of_none ho4 htl
    have hDt:D≠tl:=ne_of_none h4 htl
    have s05:Same H (upd H4 tl (.lst [])):=Same.add s04 htl0
    have hs45:Same H4 (upd H4 tl (.lst [])):=Same.new htl
    have h5t:(upd H4 tl (.lst [])) tl=some (.lst ((pullL M left a b ((pairsL ks).take 0)).map nV)):=upd_same
    generalize upd H4 tl (.lst [])=H5 at s05 hs45 h5t
    have hd5:=hs45 _ _ hd4
    have ho5:=hs45 _ _ ho4
    have hk5:=hs45 _ _ h4
    clear hs45 hd4 ho4 h4 s34 hd3 ho3 s03 s04 hD
    dsimp only [gName]
    refine ⟨_,rfl,_,rfl,D,wI ks,1,rfl,by rw [hk5,nv_wI],by rw [wI_len]; omega,fun tr H6 s6 htr h6=>?_⟩
    rw [turn1] at h6
    have hrt:tr≠tl:=fun z=>by rw [z,h5t] at htr; cases htr
    have hrl:=rot1_len ks
    have hpair:∀ (i h f:Nat),ks[i]?=some h→(rot ks (1 % ks.length))[i]?=some f→(pairsL ks)[i]?=some (h,f):=fun i h f e1 e2=>by unfold pairsL; rw [List.getElem?_zip_eq_some]; exact ⟨e1,e2⟩
    have hpl2:=pairs_len ks
    generalize rot ks (1 % ks.length)=vs at h6 hrl hpair
    have hd6:=s6 _ _ hd5
    have ho6:=s6 _ _ ho5
    have hk6:=s6 _ _ hk5
    refine ⟨.l D,.l tr,_,_,rfl,SqL.of hk6,SqL.of h6,?_⟩
    refine for_zip2 (S:=.l D) (T:=.l tr) (xs:=ks.map nV) (ys:=vs.map nV) (by rw [List.length_map,List.length_map,hrl]) (fun i σ H7=>∃ (v8 v9 v10:Option V),σ=[some (.ref p),some (.int x),some (.str (wayS left)),some (.ref wd),some (.ref d),some (.ref o),some (.ref D),some (.ref tl),v8,v9,v10]∧Same H H7∧H7 d=some (.dK (glV left a b))∧H7 o=some (.lst ([a,b].map nV))∧H7 D=some (.lst (ks.map nV))∧H7 tr=some (.lst (vs.map nV))∧H7 tl=some (.lst ((pullL M left a b ((pairsL ks).take i)).map nV))) ⟨none,none,none,rfl,s05.trans s6,hd6,ho6,hk6,h6,s6 _ _ h5t⟩ ?_ ?_ ?_
    · rintro i σ H7 _ ⟨v8,v9,v10,rfl,s7,hd7,ho7,hk7,hr7,ht7⟩
      exact ⟨SqL.of hk7,SqL.of hr7⟩
    · rintro i y z σ H7 q hy hz hq ⟨v8,v9,v10,rfl,s7,hd7,ho7,hk7,hr7,ht7⟩
      obtain ⟨hh,hhe,rfl⟩:=map_some hy
      obtain ⟨f,hfe,rfl⟩:=map_some hz
      have hi:i < ks.length:=(List.getElem?_eq_some_iff.mp hhe).1
      obtain ⟨m,hm⟩:=hP.has hh (hkm hh (List.mem_of_getElem? hhe))
      have hhM:hh < M.length:=(List.getElem?_eq_some_iff.mp hm).1
      have emt:mtN M hh=m:=by unfold mtN; rw [List.getD_eq_getElem?_getD,hm]; rfl
      have hlen:=pullL_len M left a b ((pairsL ks).take i)
      rw [List.length_take] at hlen
      have hcl:=crossL_len a b (mvN left a b m) (mvN left a b f)
      have sq:Same H7 (upd H7 q (.tup [nV hh,nV f])):=Same.new hq
      have s8:=s7.trans sq
      have hq8:(upd H7 q (.tup [nV hh,nV f])) q=some (.tup [nV hh,nV f]):=upd_same
      have hd8:=sq _ _ hd7
      have ho8:=sq _ _ ho7
      have hk8:=sq _ _ hk7
      have hr8:=sq _ _ hr7
      have ht8:=sq _ _ ht7
      generalize upd H7 q (.tup [nV hh,nV f])=H8 at s8 hq8 hd8 ho8 hk8 hr8 ht8
      clear sq hd7 ho7 hk7 hr7 ht7 s7 hq
      refine ⟨q,_,rfl,SqT.of hq8,rfl,_,_,rfl,_,_,rfl,rfl,?_⟩
      have ta8:=ta.same s8
      obtain ⟨dx,cl,na,sp,mt',oo,ff,bb⟩:=id ta8
      refine ⟨_,rfl,p,dx,_,rfl,bb.ins,fl_none _ _ _ _,_,rfl,p,M,ns,hh,rfl,ta8,hMl,fun i' y e1 e2=>?_,fun z=>absurd (show (0:Int)≤hh∧(hh:Int) < ns.length by omega) z⟩
      have:i'=hh:=by omega
      subst this
      rw [hm] at e2
      cases e2
      refine ⟨_,rfl,.inl ⟨rfl,_,SqL.of ht8⟩,_,rfl,d,rfl,.inl ⟨_,.inl hd8⟩,_,rfl,_,rfl,_,DGet.k (k:=Sum.inl (i':Int)) hd8,tl,_,_,rfl,rfl,ht8,(by rw [List.length_map,sizeLine_eq]; omega),?_⟩
      rw [val_glN]
      have s9:Same H (upd H8 tl (.lst ((pullL M left a b ((pairsL ks).take i)).map nV ++ [nV (mvN left a b i')]))):=Same.add s8 htl0
      have ht9:(upd H8 tl (.lst ((pullL M left a b ((pairsL ks).take i)).map nV ++ [nV (mvN left a b i')]))) tl=some (.lst ((pullL M left a b ((pairsL ks).take i) ++ [mvN left a b i']).map nV)):=by rw [upd_same,List.map_append]; rfl
      have hdt:d≠tl:=fun z=>by rw [z,ht8] at hd8; cases hd8
      have hd9:(upd H8 tl (.lst ((pullL M left a b ((pairsL ks).take i)).map nV ++ [nV (mvN left a b i')]))) d=some (.dK (glV left a b)):=by rw [upd_ne hdt]; exact hd8
      have ho9:(upd H8 tl (.lst ((pullL M left a b ((pairsL ks).take i)).map nV ++ [nV (mvN left a b i')]))) o=some (.lst ([a,b].map nV)):=by rw [upd_ne hot]; exact ho8
      have hk9:(upd H8 tl (.lst ((pullL M left a b ((pairsL ks).take i)).map nV ++ [nV (mvN left a b i')]))) D=some (.lst (ks.map nV)):=by rw [upd_ne hDt]; exact hk8
      have hr9:(upd H8 tl (.lst ((pullL M left a b ((pairsL ks).take i)).map nV ++ [nV (mvN left a b i')]))) tr=some (.lst (vs.map nV)):=by rw [upd_ne hrt]; exact hr8
      show _
      generalize upd H8 tl (.lst ((pullL M left a b ((pairsL ks).take i)).map nV ++ [nV (mvN left a b i')]))=H9 at s9 ht9 hd9 ho9 hk9 hr9
      refine ⟨_,rfl,.inl ⟨rfl,_,SqL.of ht9⟩,_,rfl,_,rfl,d,rfl,.inl ⟨_,.inl hd9⟩,_,rfl,_,rfl,_,DGet.k (k:=Sum.inl (m:Int)) hd9,_,rfl,d,rfl,.inl ⟨_,.inl hd9⟩,_,rfl,_,rfl,_,DGet.k (k:=Sum.inl (f:Int)) hd9,?_⟩
      rw [val_glM,val_glN]
      refine ⟨o,a,b,mvN left a b m,mvN left a b f,rfl,ho9,fun l HA sA hA=>?_⟩
      refine ⟨tl,l,_,_,rfl,rfl,sA _ _ ht9,hA,?_,?_⟩
      · rw [List.length_map,List.length_map,List.length_append,List.length_singleton,sizeLine_eq]; omega
      · refine ⟨_,_,_,rfl,Same.add (s9.trans sA) htl0,by rw [upd_ne hdt]; exact sA _ _ hd9,by rw [upd_ne hot]; exact sA _ _ ho9,by rw [upd_ne hDt]; exact sA _ _ hk9,by rw [upd_ne hrt]; exact sA _ _ hr9,?_⟩
        rw [upd_same,pullL_step (hpair i _ f hhe hfe),← List.map_append]
        unfold pullAt
        rw [emt,List.append_assoc]
        rfl
    · rintro σ H7 ⟨v8,v9,v10,rfl,s7,hd7,ho7,hk7,hr7,ht7⟩
      rw [List.length_map,List.take_of_length_le (by omega)] at ht7
      exact ⟨_,rfl,k tl H7 s7 htl0 ht7⟩
end
end KT
set_option maxHeartbeats 4000000
namespace KT
open PySem L2
noncomputable def tp (v:Nat × Nat):HO:=.tup [V.int v.1,V.int v.2]
noncomputable def wD (ks:List Int) (ad:Int→Addr):List (Key × V):=ks.map fun x=>((Sum.inl x:Key),V.ref (ad x))
noncomputable def WAt (H:Hp) (d:Addr) (ks:List Int) (g:Int→Nat × Nat):Prop:=∃ ad:Int→Addr,H d=some (.dK (wD ks ad))∧∀ x∈ks,H (ad x)=some (tp (g x))
theorem WAt.same {H H':Hp} {d:Addr} {ks:List Int} {g:Int→Nat × Nat} (h:WAt H d ks g) (s:Same H H'):WAt H' d ks g:=by
 obtain ⟨ad,h1,h2⟩:=h
 exact ⟨ad,s _ _ h1,fun x hx=>s _ _ (h2 x hx)⟩
theorem WAt.congr {H:Hp} {d:Addr} {ks:List Int} {g g':Int→Nat × Nat} (h:WAt H d ks g) (e:∀ x∈ks,g x=g' x):WAt H d ks g':=by
 obtain ⟨ad,h1,h2⟩:=h
 exact ⟨ad,h1,fun x hx=>by rw [← e x hx]; exact h2 x hx⟩
theorem wD_len (ks:List Int) (ad:Int→Addr):(wD ks ad).length=ks.length:=by unfold wD; rw [List.length_map]
theorem wD_val {ks:List Int} {ad:Int→Addr} {y:Int}:valV (wD ks ad) (Sum.inl y)=if y∈ks then some (V.ref (ad y)) else none:=by unfold wD; rw [val_map]
theorem wD_get {H:Hp} {d:Addr} {ks:List Int} {ad:Int→Addr} {y:Int} (h:Rd H d (.dK (wD ks ad))) (hy:y∈ks):DGet H d (.int y) (some (V.ref (ad y))):=.inl ⟨_,Sum.inl y,h,rfl,by rw [wD_val,if_pos hy]⟩
theorem wD_at {ks:List Int} {ad:Int→Addr} {i:Nat} {k:Key} {v:V} (h:(wD ks ad)[i]?=some (k,v)):∃ y,ks[i]?=some y∧k=Sum.inl y∧v=V.ref (ad y):=by
 unfold wD at h
 rw [List.getElem?_map] at h
 cases e:ks[i]? with
 | none=>rw [e] at h; cases h
 | some z=>rw [e] at h; cases h; exact ⟨z,rfl,rfl,rfl⟩
theorem WAt.put {H:Hp} {d q:Addr} {ks:List Int} {g:Int→Nat × Nat} {ad:Int→Addr} {y:Int} {v:Nat × Nat} (h1:H d=some (.dK (wD ks ad))) (h2:∀ x∈ks,H (ad x)=some (tp (g x))) (hq:H q=some (tp v)) (hy:y∈ks) :
  WAt (upd H d (.dK (putK (wD ks ad) (Sum.inl y) (V.ref q)))) d ks (putG g y v):=by
 have nd:∀ r u,H r=some (tp u)→r≠d:=fun r u h z=>by rw [z,h1] at h; cases h
 refine ⟨fun x=>if x=y then q else ad x,?_,fun x hx=>?_⟩
 ·rw [upd_same]
  unfold wD
  rw [put_old hy]
  congr 2
  apply List.map_congr_left
  intro x _
  by_cases c:x=y
  ·simp [c]
  ·simp [c]
 ·unfold putG
  show upd H d _ (if x=y then q else ad x)=some (tp (if x=y then v else g x))
  by_cases c:x=y
  ·rw [if_pos c,if_pos c,upd_ne (nd _ _ hq)]; exact hq
  ·rw [if_neg c,if_neg c,upd_ne (nd _ _ (h2 x hx))]; exact h2 x hx
theorem WAt.new {H:Hp} {d q:Addr} {ks:List Int} {g:Int→Nat × Nat} {ad:Int→Addr} {y:Int} {v:Nat × Nat} (h1:H d=some (.dK (wD ks ad))) (h2:∀ x∈ks,H (ad x)=some (tp (g x))) (hq:H q=some (tp v)) (hy:y ∉ ks) :
  WAt (upd H d (.dK (putK (wD ks ad) (Sum.inl y) (V.ref q)))) d (ks ++ [y]) (putG g y v):=by
 have nd:∀ r u,H r=some (tp u)→r≠d:=fun r u h z=>by rw [z,h1] at h; cases h
 refine ⟨fun x=>if x=y then q else ad x,?_,fun x hx=>?_⟩
 ·rw [upd_same]
  unfold wD
  rw [put_new hy,List.map_append]
  congr 3
  ·apply List.map_congr_left
   intro x hx
   have:x≠y:=fun z=>hy (z ▸ hx)
   simp [this]
  ·simp
 ·unfold putG
  show upd H d _ (if x=y then q else ad x)=some (tp (if x=y then v else g x))
  by_cases c:x=y
  ·rw [if_pos c,if_pos c,upd_ne (nd _ _ hq)]; exact hq
  ·rw [if_neg c,if_neg c]
   have hx':x∈ks:=by
    rcases List.mem_append.mp hx with z | z
    ·exact z
    ·exact absurd (List.mem_singleton.mp z) c
   rw [upd_ne (nd _ _ (h2 x hx'))]; exact h2 x hx'
noncomputable def okD (m n:Nat):Prop:=Nat.gcd m n < 2 ^ 8900
theorem okD_div {m n:Nat} (hm:1≤m) (h:okD m n):CDivB (m:Int) (Nat.gcd m n:Nat)∧CDivB (n:Int) (Nat.gcd m n:Nat):=by
 have h1:0 < Nat.gcd m n:=Nat.gcd_pos_of_pos_left _ hm
 have h3:(((Nat.gcd m n:Nat):Int)).natAbs.log2 < 9000:=by
  refine Nat.lt_of_lt_of_le (log2_lt (k:=8900) ?_ (by decide)) (by decide)
  rw [Int.natAbs_natCast]
  exact h
 exact ⟨⟨by omega,h3⟩,⟨by omega,h3⟩⟩
theorem okD_of {m n:Nat} (hm:1≤m) (h:m < 2 ^ 8900):okD m n:=Nat.lt_of_le_of_lt (Nat.le_of_dvd hm (Nat.gcd_dvd_left _ _)) h
noncomputable def sp_common:Sp:=fun vs H Q _=>∃ a b:Nat,vs=[.int a,.int b]∧Q (.int (Nat.gcd a b:Nat)) H
noncomputable def sp_look_fraction (EF:Addr):Sp:=fun vs H Q E=>∃ a b:Int,vs=[.int a,.int b]∧(1≤a→1≤b→Q .non H)∧(a < 1∨b < 1→E (.ref EF) none H)
noncomputable def sp_fraction (EF:Addr):Sp:=fun vs H Q E=>∃ a b:Int,vs=[.int a,.int b]∧(∀ m n:Nat,a=m→b=n→1≤m→1≤n→okD m n∧∀ p,H p=none→Q (.ref p) (upd H p (tp (lowN m n))))∧(a < 1∨b < 1→E (.ref EF) none H)
noncomputable def sp_sewn_seams (C:Addr):Sp:=fun vs H Q _=>∃ (p:Addr) (M:List (Option Nat)) (ns:List Int),vs=[.ref p]∧TentAt C H p M ns∧TD M ns∧ns.length < 64∧∀ (l:Addr) (H':Hp) (out:List Int),Same H H'→H l=none→H' l=some (.lst (out.map V.int))→out.Pairwise (·≤·)→SwK M ns out→Q (.ref l) H'
noncomputable def sp_lowest (C:Addr):Sp:=fun vs H Q _=>∃ (p d:Addr) (M:List (Option Nat)) (ns ks:List Int) (g:Int→Nat × Nat),vs=[.ref p,.ref d]∧TentAt C H p M ns∧TD M ns∧ns.length < 64∧WAt H d ks g∧SwK M ns ks∧(∀ x∈ks,1≤(g x).1∧1≤(g x).2∧(g x).1 < 2 ^ 8900) ∧
 ∀ (d':Addr) (H':Hp),Same H H'→H d'=none→WAt H' d' ks (lowG g)→Q (.ref d') H'
noncomputable def sp_product:Sp:=fun vs H Q _=>∃ (p q:Addr) (v f:Nat × Nat),vs=[.ref p,.ref q]∧H p=some (tp v)∧H q=some (tp f)∧1≤v.1∧1≤v.2∧Nat.gcd v.1 v.2=1∧1≤f.1∧1≤f.2∧v.1 < 2 ^ 60000∧v.2 < 2 ^ 60000∧f.1 < 2 ^ 4000∧f.2 < 2 ^ 4000∧∀ r,H r=none→Q (.ref r) (upd H r (tp (lw2 v f)))
noncomputable def sp_stretched (C:Addr):Sp:=fun vs H Q _=>∃ (p d:Addr) (M:List (Option Nat)) (ns ks:List Int) (g:Int→Nat × Nat) (x:Int) (a b:Nat),vs=[.ref p,.ref d,.int x]∧TentAt C H p M ns∧TD M ns∧ns.length < 64∧WAt H d ks g∧SwK M ns ks∧(∀ y∈ks,1≤(g y).1∧1≤(g y).2∧(g y).1 < 2 ^ 8900∧(g y).2 < 2 ^ 8900)∧Mv M ns x a b∧(lowG g x).1 < 2 ^ 3999∧(lowG g x).2 < 2 ^ 3999 ∧
 ∀ (d':Addr) (H':Hp),Same H H'→H d'=none→WAt H' d' ks (strG ks (sqX ns a b) x (lowG g))→Q (.ref d') H'
theorem mulN {m n:Nat} (h1:m < 2 ^ 60000) (h2:n < 2 ^ 60000):IntMulOk (m:Int) (n:Int):=PyProof.Rows.mulOk_of_bits (bits_le (k:=60000) (by rw [Int.natAbs_natCast]; exact h1) (by decide)) (bits_le (k:=60000) (by rw [Int.natAbs_natCast]; exact h2) (by decide)) (by decide)
theorem sewn_iff {M:List (Option Nat)} {ns:List Int} (td:TD M ns) {x:Int} (hx:x∈keys ns ns.length):SwN M ns x ↔ sortOf ns x≠"rim":=by
 constructor
 ·rintro ⟨p,j,h1,h2⟩ e
  rcases sort_cases td hx with ⟨_,a,e1,ma⟩ | ⟨e',_⟩ | ⟨e',_⟩
  ·have hp:p∈pl ns ns.length x:=pl_mem.mpr ⟨(List.getElem?_eq_some_iff.mp h2).1,h2⟩
   rw [e1,List.mem_singleton] at hp
   rw [hp,ma] at h1
   cases h1
  ·exact t_lr (e'.symm.trans e)
  ·exact t_fr (e'.symm.trans e)
 ·intro e
  rcases sort_cases td hx with ⟨e',_⟩ | ⟨_,a,b,_,e1,ma,_⟩ | ⟨_,a,b,_,e1,ma,_⟩
  ·exact absurd e' e
  ·have hp:a∈pl ns ns.length x:=by rw [e1]; exact List.mem_cons_self
   exact ⟨a,b,ma,(pl_mem.mp hp).2⟩
  ·have hp:a∈pl ns ns.length x:=by rw [e1]; exact List.mem_cons_self
   exact ⟨a,b,ma,(pl_mem.mp hp).2⟩
theorem SwK.len {M:List (Option Nat)} {ns ks:List Int} (sw:SwK M ns ks) (td:TD M ns):ks.length≤ns.length:=by
 have e:ks.Perm ((keys ns ns.length).filter fun x=>decide (x∈ks)):=(List.perm_ext_iff_of_nodup sw.nd ((keys_nodup ns ns.length).filter _)).mpr fun x=>by
  rw [List.mem_filter,decide_eq_true_eq]
  exact ⟨fun h=>⟨((sw.mem x).mp h).key td,h⟩,fun h=>h.2⟩
 have h1:=e.length_eq
 have h2:=List.length_filter_le (fun x=>decide (x∈ks)) (keys ns ns.length)
 have h3:=keys_len ns ns.length
 omega
noncomputable def swB (ns:List Int) (x:Int):Bool:=!decide (V.str (sortOf ns x)=V.str "rim")
theorem swB_iff {ns:List Int} {x:Int}:swB ns x=true ↔ sortOf ns x≠"rim":=by
 unfold swB
 rw [Bool.not_eq_true',decide_eq_false_iff_not]
 exact ⟨fun h e=>h (by rw [e]),fun h e=>h (by injection e)⟩
theorem take_filter {α:Type} {f:α→Bool} {l:List α} {i:Nat} {x:α} (h:l[i]?=some x):(l.take (i + 1)).filter f=if f x=true then (l.take i).filter f ++ [x] else (l.take i).filter f:=by
 rw [List.take_add_one,h,List.filter_append]
 by_cases c:f x=true
 ·simp [c]
 ·simp [c]
section
variable {P:Program} {w:World} {K:PySem.W.Frag} {mg:Str→Option Value} {base:Heap} {t:Adr}
theorem sc_common_measure:FnScope ["one","other"] ["one","other"] (defScope s_common_measure):=⟨rfl,rfl,rfl,by decide +kernel,rfl,by decide +kernel,by decide +kernel⟩
theorem ok_common_measure (T:Txt w K mg t):FnOk P w K mg base (CXr P w) 1 t.f_common_measure t.d_common_measure ["one","other"] sp_common:=by
 refine T.p_common_measure.F.okR sc_common_measure (fun vs H Q E h=>?_) (fun cdv A outer s H vs Q E hr h=>?_)
 ·obtain ⟨a,b,rfl,_⟩:=h
  rfl
 ·obtain ⟨a,b,rfl,k⟩:=h
  refine ⟨_,(pss_cons (ps_while PassesOwn.never (pt_truth (pv 1) (fun _=>rfl)) (pss_one (ps_par (i:=0) (j:=1) rfl sc_common_measure.nd rfl rfl (by decide) rfl rfl (pa_cons (pv 1) (pa_cons (pe_op op_mod (pv 0) (pv 1)) pa_nil)) (by rfl))))
   (pss_one (ps_ret (pv 0)))),?_⟩
  refine ⟨fun m σ H1=>∃ a' b':Nat,b'=m∧H1=H∧σ=[some (.int a'),some (.int b')]∧Nat.gcd a' b'=Nat.gcd a b,⟨b,a,b,rfl,rfl,rfl,rfl⟩,?_⟩
  rintro m σ H1 ⟨a',b',rfl,rfl,rfl,e⟩
  refine ⟨_,rfl,_,rfl,?_⟩
  by_cases z:b'=0
  ·subst z
   refine iteF ⟨_,rfl,?_⟩
   rw [Nat.gcd_zero_right] at e
   rw [e]
   exact k
  ·have hz:((b':Int) != 0)=true:=by simp; omega
   rw [hz]
   refine iteT ⟨_,fun σ' H' h=>h,?_⟩
   refine ⟨_,rfl,_,rfl,_,rfl,_,_,rfl,rfl,(by show (0:Int) < b'; omega),_,_,rfl,?_⟩
   refine ⟨a' % b',Nat.mod_lt _ (by omega),b',a' % b',rfl,rfl,?_,?_⟩
   ·rw [Int.natCast_emod]; rfl
   ·rw [← e,Nat.gcd_comm a' b',Nat.gcd_rec b' a',Nat.gcd_comm]
theorem sc_look_fraction:FnScope ["top","bottom"] ["top","bottom"] (defScope s_look_fraction):=⟨rfl,rfl,rfl,by decide +kernel,rfl,by decide +kernel,by decide +kernel⟩
theorem ok_look_fraction (T:Txt w K mg t):FnOk P w K mg base (CXr P w) 1 t.f_look_fraction t.d_look_fraction ["top","bottom"] (sp_look_fraction t.E_NoFraction):=by
 refine T.p_look_fraction.F.okX sc_look_fraction (fun vs H Q E h=>?_) (fun cdv A outer s H vs Q E hr h=>?_)
 ·obtain ⟨a,b,rfl,_⟩:=h
  rfl
 ·obtain ⟨a,b,rfl,k1,k2⟩:=h
  refine ⟨_,(pssx_one (psx_if (PW.pt (pw_or (pt_cmpR op_lt (pv 0) pe_int (nomark _)) (pw_or1 (pt_cmpR op_lt (pv 1) pe_int (nomark _))))) (pssx_one (psx_raise T.x_NoFraction FBV rfl T.gx_NoFraction rfl (pa_cons pe_str pa_nil))) pssx_nil)),?_⟩
  refine ⟨_,rfl,_,_,rfl,rfl,_,rfl,?_⟩
  refine ite2 (fun c=>?_) (fun c=>?_)
  ·have c:a < 1:=by simpa using c
   exact iteT ⟨by decide,k2 (.inl c)⟩
  ·have c:¬ a < 1:=by simpa using c
   refine ⟨_,rfl,_,_,rfl,rfl,_,rfl,?_⟩
   refine ite2 (fun d=>?_) (fun d=>?_)
   ·have d:b < 1:=by simpa using d
    exact ⟨by decide,k2 (.inr d)⟩
   ·have d:¬ b < 1:=by simpa using d
    exact k1 (by omega) (by omega)
theorem sc_fraction:FnScope ["top","bottom","measure"] ["top","bottom"] (defScope s_fraction):=⟨rfl,rfl,rfl,by decide +kernel,rfl,by decide +kernel,by decide +kernel⟩
theorem ok_fraction (T:Txt w K mg t):FnOk P w K mg base (CXr P w) 2 t.f_fraction t.d_fraction ["top","bottom"] (sp_fraction t.E_NoFraction):=by
 refine T.p_fraction.F.okX sc_fraction (fun vs H Q E h=>?_) (fun cdv A outer s H vs Q E hr h=>?_)
 ·obtain ⟨a,b,rfl,_⟩:=h
  rfl
 ·obtain ⟨a,b,rfl,k1,k2⟩:=h
  refine ⟨_,(pssx_cons (psx_expr (pex_call (ok_look_fraction T) (hr.mono (by decide)) rfl T.p_look_fraction.g T.p_look_fraction.F.kp T.p_look_fraction.b .nil (pa_cons (pv 0) (pa_cons (pv 1) pa_nil))))
   (pssx_cons (psx_of (ps_set (i:=2) sc_fraction.nd rfl (Or.inl rfl) (pe_call (ok_common_measure T) (hr.mono (by decide)) rfl T.p_common_measure.g T.p_common_measure.F.kp T.p_common_measure.b .nil passR (pa_cons (pv 0) (pa_cons (pv 1) pa_nil)))))
   (pssx_one (psx_of (ps_ret (pe_tup (pa_cons (pe_op op_fdivB (pv 0) (pv 2)) (pa_cons (pe_op op_fdivB (pv 1) (pv 2)) pa_nil)))))))),?_⟩
  refine ⟨_,rfl,_,rfl,a,b,rfl,fun ha hb=>?_,k2⟩
  obtain ⟨m,rfl⟩:∃ m:Nat,a=m:=⟨a.toNat,by omega⟩
  obtain ⟨n,rfl⟩:∃ n:Nat,b=n:=⟨b.toNat,by omega⟩
  obtain ⟨hbg,k⟩:=k1 m n rfl rfl (by omega) (by omega)
  obtain ⟨g1,g2⟩:=okD_div (m:=m) (n:=n) (by omega) hbg
  refine ⟨_,rfl,_,rfl,m,n,rfl,?_⟩
  dsimp only [gName]
  refine ⟨_,rfl,_,rfl,_,_,rfl,rfl,g1,_,rfl,_,rfl,_,_,rfl,rfl,g2,(by show 2≤sizeLine; rw [sizeLine_eq]; decide),fun p hp=>?_⟩
  exact k p hp
theorem sc_sewn_seams:FnScope ["tent"] ["tent"] (defScope s_sewn_seams):=⟨rfl,rfl,rfl,by decide +kernel,rfl,by decide +kernel,by decide +kernel⟩
theorem ok_sewn_seams (T:Txt w K mg t):FnOk P w K mg base (CXr P w) 3 t.f_sewn_seams t.d_sewn_seams ["tent"] (sp_sewn_seams t.C_Tent):=by
 refine T.p_sewn_seams.F.okR sc_sewn_seams (fun vs H Q E h=>?_) (fun cdv A outer s H vs Q E hr h=>?_)
 ·obtain ⟨p,M,ns,rfl,_⟩:=h
  rfl
 ·obtain ⟨p,M,ns,rfl,ta,td,h64,k⟩:=h
  refine ⟨_,(pss_one (ps_ret (pe_compG (ts:=["seam"]) (fv:=[("tent",0)]) ⟨rfl,by decide +kernel,by decide +kernel,blkFree (by rfl),⟨⟨rfl,rfl,Or.inl rfl⟩,trivial⟩⟩ rfl (pi_list (pe_meth0 (pv 0) T.cl_Tent T.p_Tent_seams.m (ok_Tent_seams T) (hr.mono (by decide)) T.p_Tent_seams.b .nil passR)) (fun _ _ _ _=>(pg_name (i:=0) (show List.Nodup (["seam","tent"]:List Str) from by decide +kernel) rfl (Or.inl rfl) (Or.inr rfl))) (fun _ _ _ _=>(pts_one (pt_cmpR op_ne (pe_meth (pv 1) T.cl_Tent T.p_Tent_sort_of.m (ok_Tent_sort_of T) (hr.mono (by decide)) T.p_Tent_sort_of.b .nil passR (pa_cons (pv 0) pa_nil)) pe_str (nomark _)))) (fun _ _ _=>rfl) (fun _ _ _ _ _ _=>pb_emit (pv 0))))),?_⟩
  obtain ⟨dx,cl,na,sp,mt,o,ff,b⟩:=id ta
  refine ⟨_,rfl,p,dx,_,rfl,b.ins,fl_none _ _ _ _,p,M,ns,rfl,ta,h64,fun l ks hl1 hpm hst=>?_⟩
  have s1:Same H (upd H l (.lst (ks.map V.int))):=Same.new hl1
  have h1:(upd H l (.lst (ks.map V.int))) l=some (.lst (ks.map V.int)):=upd_same
  generalize upd H l (.lst (ks.map V.int))=H1 at s1 h1 ⊢
  have hkl:ks.length≤64:=by rw [hpm.length_eq]; have:=keys_len ns ns.length; omega
  refine ⟨l,rfl,⟨_,SqL.of h1⟩,fun D hD=>?_⟩
  refine loop_list (xs:=ks.map V.int) (fun i σ H3=>∃ v,σ=[v,some (.ref p)]∧Same H1 H3∧H3 D=some (.lst (((ks.take i).filter (swB ns)).map V.int))) ⟨none,rfl,Same.new hD,upd_same⟩ ?_ ?_ ?_
  ·rintro i σ H3 _ ⟨v,rfl,s3,h3⟩
   exact SqL.of (s3 _ _ h1)
  ·rintro i x σ H3 hx ⟨v,rfl,s3,h3⟩
   obtain ⟨y,hy,rfl⟩:=map_some hx
   have hyk:y∈keys ns ns.length:=hpm.mem_iff.mp (List.mem_of_getElem? hy)
   have ta3:=(ta.same s1).same s3
   obtain ⟨dx,cl,na,sp,mt,o,ff,b⟩:=id ta3
   dsimp only [gName]
   refine ⟨_,rfl,p,dx,_,rfl,b.ins,fl_none _ _ _ _,_,rfl,p,M,ns,y,rfl,ta3,td,fun _ H4 s4=>?_,fun z=>absurd hyk z⟩
   refine ⟨rfl,_,rfl,?_⟩
   show if swB ns y=true then _ else _
   have lt:(((ks.take i).filter (swB ns)).map V.int).length < sizeLine:=by
    rw [List.length_map]
    have:=List.length_filter_le (swB ns) (ks.take i)
    rw [List.length_take] at this
    exact small1000 (by omega)
   by_cases c:swB ns y=true
   ·rw [if_pos c]
    refine ⟨_,rfl,_,s4 _ _ h3,lt,_,rfl,Same.add (s3.trans s4) hD,?_⟩
    rw [upd_same,take_filter hy,if_pos c,List.map_append]
    rfl
   ·rw [if_neg c]
    refine ⟨_,rfl,s3.trans s4,?_⟩
    rw [s4 _ _ h3,take_filter hy,if_neg c]
  ·rintro σ H3 ⟨v,rfl,s3,h3⟩
   rw [List.length_map,List.take_length] at h3
   refine k D H3 _ (s1.trans s3) (s1.free hD) h3 (hst.filter _) ⟨(hpm.nodup_iff.mpr (keys_nodup ns ns.length)).filter _,fun x=>?_⟩
   rw [List.mem_filter,hpm.mem_iff,swB_iff]
   refine ⟨fun zz37=>?_,fun h=>⟨h.key td,(sewn_iff td (h.key td)).mp h⟩⟩
   obtain ⟨h1,h2⟩:=zz37
   exact (sewn_iff td h1).mpr h2
theorem sc_lowest_worths:FnScope ["tent","worths"] ["tent","worths"] (defScope s_lowest_worths):=⟨rfl,rfl,rfl,by decide +kernel,rfl,by decide +kernel,by decide +kernel⟩
theorem ok_lowest_worths (T:Txt w K mg t):FnOk P w K mg base (CXr P w) 4 t.f_lowest_worths t.d_lowest_worths ["tent","worths"] (sp_lowest t.C_Tent):=by
 refine T.p_lowest_worths.F.okR sc_lowest_worths (fun vs H Q E h=>?_) (fun cdv A outer s H vs Q E hr h=>?_)
 ·obtain ⟨p,d,M,ns,ks,g,rfl,_⟩:=h
  rfl
 ·obtain ⟨p,d,M,ns,ks,g,rfl,ta,td,h64,wa,sw,ok,k⟩:=h
  have hu:=hu_of hr
  refine ⟨_,(pss_cons (ps_if (pt_cmpR (op_neL hr.units) (pe_callB (call_sortedD rfl) (by rfl) T.n_sorted PyProof.Rows.boot_sorted (pa_cons (pv 1) pa_nil)) (pe_call (ok_sewn_seams T) (hr.mono (by decide)) rfl T.p_sewn_seams.g T.p_sewn_seams.F.kp T.p_sewn_seams.b .nil passR (pa_cons (pv 0) pa_nil)) (nomark _)) pss_never pss_nil)
   (pss_one (ps_ret (pe_thaw (pe_dcompG (ts:=["seam","top","bottom"]) (fv:=[]) ⟨rfl,by decide +kernel,by decide +kernel,blkFree (by rfl),trivial⟩ rfl (pi_items (pv 1) ⟨rfl,rfl,rfl⟩) (fun _ _ _ _=>(pg_tupK (n:=2) K rfl (pgs_cons (pg_name (i:=0) (show List.Nodup (["seam","top","bottom"]:List Str) from by decide +kernel) rfl (Or.inl rfl) (Or.inr rfl)) (pgs_cons (pg_tupK (n:=2) K rfl (pgs_cons (pg_name (i:=1) (show List.Nodup (["seam","top","bottom"]:List Str) from by decide +kernel) rfl (Or.inl rfl) (Or.inr rfl)) (pgs_cons (pg_name (i:=2) (show List.Nodup (["seam","top","bottom"]:List Str) from by decide +kernel) rfl (Or.inl rfl) (Or.inr rfl)) pgs_nil))) pgs_nil)))) (fun _ _ _ _=>pts_nil) (fun _ _ _=>rfl) (fun _ _ _ _ _ _=>pb_demit (pv 0) (pe_call (ok_fraction T) (hr.mono (by decide)) rfl T.p_fraction.g T.p_fraction.F.kp T.p_fraction.b .nil passR (pa_cons (pv 1) (pa_cons (pv 2) pa_nil))))))))),?_⟩
  obtain ⟨ad,hd,had⟩:=id wa
  have hkl:ks.length < 64:=by
   have:=sw.len td
   omega
  refine seq_cut fun nxC hnxC=>?_
  refine ⟨_,rfl,d,_,ks,rfl,.inl hd,(by unfold wD; rw [List.map_map]; rfl),hkl,fun l1 out1 hl1 pm1 st1=>?_⟩
  have s1:Same H (upd H l1 (.lst (out1.map V.int))):=Same.new hl1
  have h1:(upd H l1 (.lst (out1.map V.int))) l1=some (.lst (out1.map V.int)):=upd_same
  generalize upd H l1 (.lst (out1.map V.int))=H1 at s1 h1 ⊢
  refine ⟨_,rfl,p,M,ns,rfl,ta.same s1,td,h64,fun l2 H2 out2 s2 hl2 h2 st2 sw2=>?_⟩
  refine ⟨l1,l2,out1,out2,rfl,rfl,SqL.of (s2 _ _ h1),SqL.of h2,_,rfl,?_⟩
  obtain rfl:=sorted_eq pm1 (sw2.perm sw) st1 st2
  rw [decide_eq_true rfl]
  refine iteF ?_
  try dsimp only [tNext]
  refine hnxC _ _ ?_
  have s12:=s1.trans s2
  have hd2:=s12 _ _ hd
  have had2:∀ x∈ks,H2 (ad x)=some (tp (g x)):=fun x hx=>s12 _ _ (had x hx)
  clear h1 h2 st1 st2 pm1 sw2 hl2
  refine ⟨_,rfl,d,_,rfl,.inl ⟨hd2,fun o=>?_⟩⟩
  intro D hD
  obtain ⟨hDd,hD2⟩:=upd_none hD
  have hda:∀ x∈ks,ad x≠d:=fun x hx z=>by have:=had2 x hx; rw [z,hd2] at this; cases this
  refine loop_items (fun i σ H3=>∃ v0 v1 v2,σ=[v0,v1,v2]∧(∀ b u,b≠d→H2 b=some u→H3 b=some u)∧H3 d=some (.frz o (.dK (wD ks ad)))∧WAt H3 D (ks.take i) (lowG g)) ⟨none,none,none,rfl,fun b u hb e=>by rw [upd_ne (ne_of_none e hD2),upd_ne hb]; exact e,by rw [upd_ne (Ne.symm hDd),upd_same],fun _=>0,upd_same,fun x hx=>by simp at hx⟩ ?_ ?_ ?_
  ·rintro i σ H3 _ ⟨v0,v1,v2,rfl,_,e,_⟩
   exact e
  ·rintro i k0 x0 σ H3 q hk0 hq ⟨v0,v1,v2,rfl,s3,e3,ad3,h3,h4⟩
   obtain ⟨y,hy,rfl,rfl⟩:=wD_at hk0
   have hyk:=List.mem_of_getElem? hy
   obtain ⟨o1,o2,o3⟩:=ok y hyk
   have sq:Same H3 (upd H3 q (.tup [kV (Sum.inl y),V.ref (ad y)])):=Same.new hq
   have hqq:(upd H3 q (.tup [kV (Sum.inl y),V.ref (ad y)])) q=some (.tup [kV (Sum.inl y),V.ref (ad y)]):=upd_same
   have hay:(upd H3 q (.tup [kV (Sum.inl y),V.ref (ad y)])) (ad y)=some (tp (g y)):=sq _ _ (s3 _ _ (hda y hyk) (had2 y hyk))
   generalize upd H3 q (.tup [kV (Sum.inl y),V.ref (ad y)])=H4 at sq hqq hay ⊢
   dsimp only [gName]
   refine ⟨q,_,rfl,SqT.of hqq,rfl,_,_,rfl,_,_,rfl,⟨ad y,_,rfl,SqT.of hay,rfl,_,_,rfl,_,_,rfl,rfl,?_⟩⟩
   refine ⟨rfl,?_⟩
   dsimp only [gName,tYes]
   rw [if_pos rfl]
   refine ⟨_,rfl,_,rfl,_,rfl,((g y).1:Int),((g y).2:Int),rfl,fun m n em en hm hn=>?_,fun z=>by omega⟩
   obtain rfl:m=(g y).1:=by omega
   obtain rfl:n=(g y).2:=by omega
   refine ⟨okD_of hm o3,fun r hr=>?_⟩
   have sr:Same H4 (upd H4 r (tp (lowN (g y).1 (g y).2))):=Same.new hr
   have hny:y ∉ ks.take i:=fun z=>by
    have hi:i < ks.length:=(List.getElem?_eq_some_iff.mp hy).1
    have nd:=sw.nd
    rw [← List.take_append_drop i ks,List.nodup_append] at nd
    refine nd.2.2 y z y ?_ rfl
    rw [List.drop_eq_getElem_cons hi,(List.getElem?_eq_some_iff.mp hy).2]
    exact List.mem_cons_self
   have s34:=sq.trans sr
   refine ⟨_,Sum.inl y,rfl,s34 _ _ h3,(by rw [wD_len,List.length_take]; exact small1000 (by omega)),_,_,_,rfl,fun b u hb e=>?_,?_,?_⟩
   ·rw [upd_ne (ne_of_none e hD2)]; exact s34 _ _ (s3 b u hb e)
   ·rw [upd_ne (Ne.symm hDd)]; exact s34 _ _ e3
   ·rw [List.take_add_one,hy]
    have:=WAt.new (g:=lowG g) (v:=lowN (g y).1 (g y).2) (s34 _ _ h3) (fun x hx=>s34 _ _ (h4 x hx)) (upd_same (H:=H4) (a:=r)) hny
    exact this.congr fun x _=>by
     unfold putG
     split
     ·rename_i z; rw [z]; rfl
     ·rfl
  ·rintro σ H3 ⟨v0,v1,v2,rfl,s3,e3,w3⟩
   rw [wD_len,List.take_length] at w3
   refine ⟨d,o,_,e3,(fun o' u z=>by have z:H d=some (.frz o' u):=z; rw [hd] at z; cases z),?_⟩
   have sF:Same H2 (upd H3 d (.dK (wD ks ad))):=fun b u e=>by
    by_cases c:b=d
    ·subst c; rw [hd2] at e; rw [upd_same]; exact e
    ·rw [upd_ne c]; exact s3 b u c e
   refine k D _ (s12.trans sF) (s12.free hD2) ?_
   obtain ⟨ad3,h5,h6⟩:=w3
   exact ⟨ad3,by rw [upd_ne hDd]; exact h5,fun x hx=>by rw [upd_ne (fun z=>by have:=h6 x hx; rw [z,e3] at this; cases this)]; exact h6 x hx⟩
theorem sc_product:FnScope ["one","other"] ["one","other"] (defScope s_product):=⟨rfl,rfl,rfl,by decide +kernel,rfl,by decide +kernel,by decide +kernel⟩
theorem ok_product (T:Txt w K mg t):FnOk P w K mg base (CXr P w) 3 t.f_product t.d_product ["one","other"] sp_product:=by
 refine T.p_product.F.okR sc_product (fun vs H Q E h=>?_) (fun cdv A outer s H vs Q E hr h=>?_)
 ·obtain ⟨p,q,v,f,rfl,_⟩:=h
  rfl
 ·obtain ⟨p,q,v,f,rfl,hp,hq,v1,v2,co,f1,f2,l1,l2,l3,l4,k⟩:=h
  refine ⟨_,(pss_one (ps_ret (pe_call (ok_fraction T) (hr.mono (by decide)) rfl T.p_fraction.g T.p_fraction.F.kp T.p_fraction.b .nil passR (pa_cons (pe_op op_mulB (pe_ix ix_tup (pv 0) pe_int (fun _ _=>rfl)) (pe_ix ix_tup (pv 1) pe_int (fun _ _=>rfl))) (pa_cons (pe_op op_mulB (pe_ix ix_tup (pv 0) pe_int (fun _ _=>rfl)) (pe_ix ix_tup (pv 1) pe_int (fun _ _=>rfl))) pa_nil))))),?_⟩
  have l3':f.1 < 2 ^ 60000:=Nat.lt_of_lt_of_le l3 (Nat.pow_le_pow_right (by decide) (by decide))
  have l4':f.2 < 2 ^ 60000:=Nat.lt_of_lt_of_le l4 (Nat.pow_le_pow_right (by decide) (by decide))
  refine ⟨_,rfl,p,_,_,_,rfl,rfl,SqT.of hp,rfl,_,rfl,q,_,_,_,rfl,rfl,SqT.of hq,rfl,_,_,rfl,rfl,mulN l1 l3',?_⟩
  refine ⟨_,rfl,p,_,_,_,rfl,rfl,SqT.of hp,rfl,_,rfl,q,_,_,_,rfl,rfl,SqT.of hq,rfl,_,_,rfl,rfl,mulN l2 l4',?_⟩
  refine ⟨(v.1:Int) * f.1,(v.2:Int) * f.2,rfl,fun m n em en hm hn=>?_,fun z=>?_⟩
  ·have em:m=v.1 * f.1:=by rw [← Int.natCast_mul] at em; omega
   have en:n=v.2 * f.2:=by rw [← Int.natCast_mul] at en; omega
   subst em en
   refine ⟨?_,fun r hr=>k r hr⟩
   refine Nat.lt_of_le_of_lt (gcd_mul_le (f:=f) co f1 f2) ?_
   calc f.1 * f.2 < 2 ^ 4000 * 2 ^ 4000:=Nat.mul_lt_mul'' l3 l4
    _=2 ^ 8000:=by rw [← Nat.pow_add]
    _≤2 ^ 8900:=Nat.pow_le_pow_right (by decide) (by decide)
  ·exfalso
   have p1:=Nat.mul_pos (Nat.lt_of_lt_of_le Nat.one_pos v1) (Nat.lt_of_lt_of_le Nat.one_pos f1)
   have p2:=Nat.mul_pos (Nat.lt_of_lt_of_le Nat.one_pos v2) (Nat.lt_of_lt_of_le Nat.one_pos f2)
   rw [← Int.natCast_mul,← Int.natCast_mul] at z
   omega
theorem sc_stretched:FnScope ["tent","worths","seam","behind","top","bottom","more","less","place","factor","name"] ["tent","worths","seam"] (defScope s_stretched):=⟨rfl,rfl,rfl,by decide +kernel,rfl,by decide +kernel,by decide +kernel⟩
theorem ok_stretched (T:Txt w K mg t):FnOk P w K mg base (CXr P w) 5 t.f_stretched t.d_stretched ["tent","worths","seam"] (sp_stretched t.C_Tent):=by
 refine T.p_stretched.F.okR sc_stretched (fun vs H Q E h=>?_) (fun cdv A outer s H vs Q E hr h=>?_)
 ·obtain ⟨p,d,M,ns,ks,g,x,a,b,rfl,_⟩:=h
  rfl
 ·obtain ⟨p,d,M,ns,ks,g,x,a,b,rfl,ta,td,h64,wa,sw,ok,mv,lt1,lt2,k⟩:=h
  have hu:=hu_of hr
  refine ⟨_,(pss_cons (ps_expr (pe_call (ok_look_free T) (hr.mono (by decide)) rfl T.p_look_free.g T.p_look_free.F.kp T.p_look_free.b .nil passR (pa_cons (pv 0) (pa_cons (pv 2) pa_nil))))
   (pss_cons (ps_set (i:=3) sc_stretched.nd rfl (Or.inl rfl) (pe_call (ok_lowest_worths T) (hr.mono (by decide)) rfl T.p_lowest_worths.g T.p_lowest_worths.F.kp T.p_lowest_worths.b .nil passR (pa_cons (pv 0) (pa_cons (pv 1) pa_nil))))
   (pss_cons (ps_asg (pe_dget hu (pv 3) (pv 2) (fun _ _=>rfl)) (pg_tup rfl (pgs_cons (pg_name (i:=4) sc_stretched.nd rfl (Or.inl rfl)) (pgs_cons (pg_name (i:=5) sc_stretched.nd rfl (Or.inl rfl)) pgs_nil))))
   (pss_cons (ps_set (i:=6) sc_stretched.nd rfl (Or.inl rfl) (pe_tup (pa_cons (pe_op op_add (pv 4) (pv 5)) (pa_cons (pv 5) pa_nil))))
   (pss_cons (ps_set (i:=7) sc_stretched.nd rfl (Or.inl rfl) (pe_tup (pa_cons (pv 4) (pa_cons (pe_op op_add (pv 4) (pv 5)) pa_nil))))
   (pss_cons (ps_for PassesOwn.never rfl (pi_zip2 rfl T.n_zip (pa_cons (pe_call (ok_square T) (hr.mono (by decide)) rfl T.p_square.g T.p_square.F.kp T.p_square.b .nil passR (pa_cons (pv 0) (pa_cons (pv 2) pa_nil))) (pa_cons (pe_lst (pa_cons (pv 6) (pa_cons (pv 7) (pa_cons (pv 6) (pa_cons (pv 7) pa_nil))))) pa_nil))) (pg_tup rfl (pgs_cons (pg_name (i:=8) sc_stretched.nd rfl (Or.inl rfl)) (pgs_cons (pg_name (i:=9) sc_stretched.nd rfl (Or.inl rfl)) pgs_nil))) (pss_cons (ps_set (i:=10) sc_stretched.nd rfl (Or.inl rfl) (pe_meth (pv 0) T.cl_Tent T.p_Tent_seam_at.m (ok_Tent_seam_at T) (hr.mono (by decide)) T.p_Tent_seam_at.b .nil passR (pa_cons (pv 8) pa_nil)))
   (pss_one (ps_if (pt_cmp (pc_din hu (pv 10) (pv 3)) (by with_unfolding_all rfl)) (pss_one (ps_dput hu (pv 3) (pv 10) (pe_call (ok_product T) (hr.mono (by decide)) rfl T.p_product.g T.p_product.F.kp T.p_product.b .nil passR (pa_cons (pe_dget hu (pv 3) (pv 10) (fun _ _=>rfl)) (pa_cons (pv 9) pa_nil))) rfl)) pss_nil))))
   (pss_cons (ps_dput hu (pv 3) (pv 2) (pe_tup (pa_cons (pv 5) (pa_cons (pv 4) pa_nil))) rfl)
   (pss_one (ps_ret (pv 3)))))))))),?_⟩
  obtain ⟨ha,hb⟩:=mv.lts td
  obtain ⟨n,n1,n40,hn⟩:=td.n
  have hMl:=td.len
  obtain ⟨hk,hpl⟩:=pl_two td mv.hM mv.lt mv.nm
  have hs:sortOf ns x="free":=by unfold sortOf; rw [hpl]; exact if_neg mv.ab
  have hxk:x∈ks:=(sw.mem x).mpr ⟨a,b,mv.hM,mv.nm⟩
  refine seq_cut fun nxC hnxC=>?_
  refine ⟨_,rfl,_,rfl,p,M,ns,x,rfl,ta,td,fun _ H1 s1=>⟨fun e=>absurd (hs.symm.trans e) (by decide),fun e=>absurd (hs.symm.trans e) (by decide),fun _=>?_⟩,fun z=>absurd hk z⟩
  refine hnxC _ _ ?_
  refine seq_cut fun nxC hnxC=>?_
  refine ⟨_,rfl,_,rfl,p,d,M,ns,ks,g,rfl,ta.same s1,td,h64,wa.same s1,sw,fun y hy=>⟨(ok y hy).1,(ok y hy).2.1,(ok y hy).2.2.1⟩,fun d' H2 s2 hd' w2=>?_⟩
  refine hnxC _ _ ?_
  try dsimp only [gName]
  have hd0:H d'=none:=s1.free hd'
  have s12:=s1.trans s2
  obtain ⟨ad,e1,e2⟩:=id w2
  refine seq_cut fun nxC hnxC=>?_
  refine ⟨_,rfl,_,rfl,d',_,rfl,wD_get (.inl e1) hxk,ad x,_,rfl,SqT.of (e2 x hxk),rfl,_,_,rfl,_,_,rfl,rfl,?_⟩
  refine hnxC _ _ ?_
  try dsimp only [gName]
  have vx:Val (lowG g x) (g x).1 (g x).2:=low_val (ok x hxk).1 (ok x hxk).2.1
  generalize etu:lowG g x=tu at *
  refine seq_cut fun nxC hnxC=>?_
  refine ⟨_,rfl,_,rfl,_,_,rfl,rfl,_,rfl,(by show 2≤sizeLine; rw [sizeLine_eq]; decide),fun mo hmo=>?_⟩
  refine hnxC _ _ ?_
  have s3:Same H2 (upd H2 mo (.tup [V.int ((tu.1:Int) + tu.2),V.int tu.2])):=Same.new hmo
  have h3:(upd H2 mo (.tup [V.int ((tu.1:Int) + tu.2),V.int tu.2])) mo=some (tp (tu.1 + tu.2,tu.2)):=by rw [upd_same]; unfold tp; rw [Int.natCast_add]
  show tSeq _ _ _ _ (upd H2 mo (.tup [V.int ((tu.1:Int) + tu.2),V.int tu.2]))
  generalize upd H2 mo (.tup [V.int ((tu.1:Int) + tu.2),V.int tu.2])=H3 at s3 h3 ⊢
  try dsimp only [gName]
  refine seq_cut fun nxC hnxC=>?_
  refine ⟨_,rfl,_,rfl,_,rfl,_,_,rfl,rfl,(by show 2≤sizeLine; rw [sizeLine_eq]; decide),fun le hle=>?_⟩
  refine hnxC _ _ ?_
  have s4:Same H3 (upd H3 le (.tup [V.int tu.1,V.int ((tu.1:Int) + tu.2)])):=Same.new hle
  have h4:(upd H3 le (.tup [V.int tu.1,V.int ((tu.1:Int) + tu.2)])) le=some (tp (tu.1,tu.1 + tu.2)):=by rw [upd_same]; unfold tp; rw [Int.natCast_add]
  show tSeq _ _ _ _ (upd H3 le (.tup [V.int tu.1,V.int ((tu.1:Int) + tu.2)]))
  generalize upd H3 le (.tup [V.int tu.1,V.int ((tu.1:Int) + tu.2)])=H4 at s4 h4 ⊢
  try dsimp only [gName]
  have s24:=s3.trans s4
  have h34:=s4 _ _ h3
  have sH4:=s12.trans s24
  clear s3 h3 hmo hle
  refine seq_post (fun σ H'=>∃ v8 v9 v10,σ=[some (.ref p),some (.ref d),some (.int x),some (.ref d'),some (.int tu.1),some (.int tu.2),some (.ref mo),some (.ref le),v8,v9,v10]∧Same H H'∧WAt H' d' ks (stG ks (sqX ns a b) tu (lowG g) 4)) (fun nx hnx=>?_) ?_
  ·refine ⟨_,rfl,_,rfl,p,M,ns,x,rfl,ta.same sH4,td,fun _ H5 s5=>⟨fun e=>absurd (hs.symm.trans e) (by decide),fun e=>absurd (hs.symm.trans e) (by decide),fun a' b' sq e1 e2 e3 e4 e5 e6=>?_⟩,fun z=>absurd hk z⟩
   rw [hpl] at e1
   cases e1
   refine ⟨_,rfl,_,rfl,_,rfl,_,rfl,(by show 4≤sizeLine; rw [sizeLine_eq]; decide),fun ls hls=>?_⟩
   have s6:Same H5 (upd H5 ls (.lst [V.ref mo,V.ref le,V.ref mo,V.ref le])):=Same.new hls
   have h6:(upd H5 ls (.lst [V.ref mo,V.ref le,V.ref mo,V.ref le])) ls=some (.lst [V.ref mo,V.ref le,V.ref mo,V.ref le]):=upd_same
   have e7:=s6 _ _ e6
   generalize upd H5 ls (.lst [V.ref mo,V.ref le,V.ref mo,V.ref le])=H6 at s6 h6 e7 ⊢
   have s46:=s5.trans s6
   refine ⟨.t sq,.l ls,_,_,rfl,SqT.of e7,SqL.of h6,?_⟩
   refine for_zip2 (xs:=sqr a b) (ys:=[V.ref mo,V.ref le,V.ref mo,V.ref le]) rfl (fun i σ H'=>∃ v8 v9 v10,σ=[some (.ref p),some (.ref d),some (.int x),some (.ref d'),some (.int tu.1),some (.int tu.2),some (.ref mo),some (.ref le),v8,v9,v10]∧Same H H'∧H' sq=some (.tup (sqr a b))∧H' ls=some (.lst [V.ref mo,V.ref le,V.ref mo,V.ref le])∧H' mo=some (tp (tu.1 + tu.2,tu.2))∧H' le=some (tp (tu.1,tu.1 + tu.2))∧WAt H' d' ks (stG ks (sqX ns a b) tu (lowG g) i)) ⟨_,_,_,rfl,sH4.trans s46,e7,h6,s46 _ _ h34,s46 _ _ h4,w2.same (s24.trans s46)⟩ ?_ ?_ ?_
   ·rintro i σ H' _ ⟨v8,v9,v10,rfl,_,q1,q2,_⟩
    exact ⟨SqT.of q1,SqL.of q2⟩
   ·rintro i x0 y0 σ H7 q hx0 hy0 hq ⟨v8,v9,v10,rfl,s7,q1,q2,q3,q4,w7⟩
    have hi:i < 4:=(List.getElem?_eq_some_iff.mp hx0).1
    obtain ⟨rfl,fa,rfl,hfa⟩:x0=V.int (sqP a b i:Nat)∧∃ fa,y0=V.ref fa∧H7 fa=some (tp (frc tu i)):=by
     have:i=0∨i=1∨i=2∨i=3:=by omega
     unfold sqr at hx0
     rw [aN_eq,bN_eq,aN_eq,bN_eq] at hx0
     rcases this with rfl | rfl | rfl | rfl
     ·cases hx0; cases hy0; exact ⟨rfl,mo,rfl,q3⟩
     ·cases hx0; cases hy0; exact ⟨rfl,le,rfl,q4⟩
     ·cases hx0; cases hy0; exact ⟨rfl,mo,rfl,q3⟩
     ·cases hx0; cases hy0; exact ⟨rfl,le,rfl,q4⟩
    have sq8:Same H7 (upd H7 q (.tup [V.int (sqP a b i:Nat),V.ref fa])):=Same.new hq
    have hq8:(upd H7 q (.tup [V.int (sqP a b i:Nat),V.ref fa])) q=some (.tup [V.int (sqP a b i:Nat),V.ref fa]):=upd_same
    generalize upd H7 q (.tup [V.int (sqP a b i:Nat),V.ref fa])=H8 at sq8 hq8 ⊢
    have hpt:sqP a b i < M.length:=by rw [hn] at ha hb ⊢; exact sqP_lt ha hb
    have hnm:=nm_at td hpt
    rw [← sqX_at hi] at hnm
    refine ⟨q,_,rfl,SqT.of hq8,rfl,_,_,rfl,_,_,rfl,rfl,?_⟩
    have s78:=s7.trans sq8
    have ta8:=ta.same s78
    obtain ⟨dx,cl,na,sp,mt,o,ff,B⟩:=id ta8
    refine seq_cut fun nxC hnxC=>?_
    refine ⟨_,rfl,p,dx,_,rfl,B.ins,fl_none _ _ _ _,_,rfl,p,M,ns,_,rfl,ta8,fun i' y' z1 z2=>?_,fun z=>absurd ⟨by omega,by omega⟩ z⟩
    obtain rfl:sqP a b i=i':=by omega
    rw [hnm] at z2
    cases z2
    refine hnxC _ _ ?_
    try dsimp only [gName]
    obtain ⟨ad8,e8,e9⟩:=w7.same sq8
    refine ⟨_,rfl,_,rfl,d',_,rfl,.inl ⟨_,Sum.inl ((sqX ns a b).getD i 0),.inl e8,rfl,rfl⟩,_,rfl,?_⟩
    rw [wD_val]
    generalize hxy:(sqX ns a b).getD i 0=y at *
    by_cases hy:y∈ks
    ·rw [if_pos hy]
     refine iteT ?_
     have vy:Val (stG ks (sqX ns a b) tu (lowG g) i y) ((g y).1 * nuN (flg ks (sqX ns a b) y) tu i) ((g y).2 * deN (flg ks (sqX ns a b) y) tu i):=by rw [stG_at]; exact ch_val (low_val (ok y hy).1 (ok y hy).2.1) vx.p1 vx.p2 i
     have bd:(stG ks (sqX ns a b) tu (lowG g) i y).1 < 2 ^ 60000∧(stG ks (sqX ns a b) tu (lowG g) i y).2 < 2 ^ 60000:=by
      rw [stG_at]
      have l0:=lowN_le (g y).1 (g y).2
      obtain ⟨c1,c2⟩:=ch_le (e:=flg ks (sqX ns a b) y) (tu:=tu) (v:=lowG g y) (B:=2 ^ 8900) (S:=2 ^ 4000) ⟨Nat.le_trans l0.1 (Nat.le_of_lt (ok y hy).2.2.1),Nat.le_trans l0.2 (Nat.le_of_lt (ok y hy).2.2.2)⟩ (by
       have:tu.1 + tu.2 < 2 ^ 3999 + 2 ^ 3999:=Nat.add_lt_add lt1 lt2
       rw [show 2 ^ 3999 + 2 ^ 3999=2 ^ 4000 by rw [← Nat.two_mul,← Nat.pow_succ']] at this
       exact Nat.le_of_lt this) (Nat.one_le_two_pow) i
      have cn:cnN (flg ks (sqX ns a b) y) i≤4:=by
       have:∀ (e:Nat→Bool) (j:Nat),cnN e j≤j:=fun e j=>by
        induction j with
        | zero=>exact Nat.le_refl _
        | succ j ih=>unfold cnN; split <;> omega
       have:=this (flg ks (sqX ns a b) y) i
       omega
      have top:2 ^ 8900 * (2 ^ 4000) ^ cnN (flg ks (sqX ns a b) y) i < 2 ^ 60000:=by
       rw [← Nat.pow_mul,← Nat.pow_add]
       exact Nat.pow_lt_pow_right (by decide) (by omega)
      exact ⟨Nat.lt_of_le_of_lt c1 top,Nat.lt_of_le_of_lt c2 top⟩
     obtain ⟨f1,f2⟩:=frc_pos vx.p1 vx.p2 i
     have fl:=frc_le tu i
     have fb:tu.1 + tu.2 < 2 ^ 4000:=by
      have:tu.1 + tu.2 < 2 ^ 3999 + 2 ^ 3999:=Nat.add_lt_add lt1 lt2
      rw [show 2 ^ 3999 + 2 ^ 3999=2 ^ 4000 by rw [← Nat.two_mul,← Nat.pow_succ']] at this
      exact this
     refine ⟨_,rfl,_,rfl,d',_,rfl,wD_get (.inl e8) hy,_,rfl,ad8 y,fa,_,frc tu i,rfl,e9 y hy,sq8 _ _ hfa,vy.p1,vy.p2,vy.co,f1,f2,bd.1,bd.2,Nat.lt_of_le_of_lt fl.1 fb,Nat.lt_of_le_of_lt fl.2 fb,fun r hr=>?_⟩
     have sr:Same H8 (upd H8 r (tp (lw2 (stG ks (sqX ns a b) tu (lowG g) i y) (frc tu i)))):=Same.new hr
     have hr9:(upd H8 r (tp (lw2 (stG ks (sqX ns a b) tu (lowG g) i y) (frc tu i)))) r=some (tp (lw2 (stG ks (sqX ns a b) tu (lowG g) i y) (frc tu i))):=upd_same
     generalize upd H8 r (tp (lw2 (stG ks (sqX ns a b) tu (lowG g) i y) (frc tu i)))=H9 at sr hr9 ⊢
     have hkl:=sw.len td
     refine ⟨_,rfl,_,rfl,d',_,rfl,DPut.k (k:=Sum.inl y) (sr _ _ e8) (by rw [wD_len]; exact small1000 (by omega)),?_⟩
     have ndt:∀ r u,H9 r=some (.tup u)→r≠d':=fun r u h z=>by rw [z,sr _ _ e8] at h; cases h
     have ndl:ls≠d':=fun z=>by have:=sr _ _ (sq8 _ _ q2); rw [z,sr _ _ e8] at this; cases this
     have s89:=sq8.trans sr
     refine ⟨_,_,_,rfl,Same.add (s7.trans s89) hd0,?_,?_,?_,?_,?_⟩
     ·rw [upd_ne (ndt _ _ (s89 _ _ q1))]; exact s89 _ _ q1
     ·rw [upd_ne ndl]; exact s89 _ _ q2
     ·rw [upd_ne (ndt _ _ (s89 _ _ q3))]; exact s89 _ _ q3
     ·rw [upd_ne (ndt _ _ (s89 _ _ q4))]; exact s89 _ _ q4
     ·have:=WAt.put (sr _ _ e8) (fun x hx=>sr _ _ (e9 x hx)) hr9 hy
      have est:stG ks (sqX ns a b) tu (lowG g) (i + 1)=putG (stG ks (sqX ns a b) tu (lowG g) i) y (lw2 (stG ks (sqX ns a b) tu (lowG g) i y) (frc tu i)):=by
       conv=>lhs; unfold stG
       rw [hxy,if_pos hy]
      rw [est]
      exact this
    ·rw [if_neg hy]
     refine iteF ⟨_,_,_,rfl,s78,sq8 _ _ q1,sq8 _ _ q2,sq8 _ _ q3,sq8 _ _ q4,?_⟩
     have est:stG ks (sqX ns a b) tu (lowG g) (i + 1)=stG ks (sqX ns a b) tu (lowG g) i:=by
      conv=>lhs; unfold stG
      rw [hxy,if_neg hy]
     rw [est]
     exact w7.same sq8
   ·rintro σ H7 ⟨v8,v9,v10,rfl,s7,q1,q2,q3,q4,w7⟩
    exact hnx _ _ ⟨_,_,_,rfl,s7,w7⟩
  rintro σ H7 ⟨v8,v9,v10,rfl,s7,ad7,e7,e8⟩
  have hkl:=sw.len td
  refine seq_cut fun nxC hnxC=>?_
  refine ⟨_,rfl,_,rfl,(by show 2≤sizeLine; rw [sizeLine_eq]; decide),fun r hr=>?_⟩
  have sr:Same H7 (upd H7 r (.tup [V.int tu.2,V.int tu.1])):=Same.new hr
  have hr9:(upd H7 r (.tup [V.int tu.2,V.int tu.1])) r=some (tp (tu.2,tu.1)):=upd_same
  refine ⟨_,rfl,_,rfl,d',_,rfl,DPut.k (k:=Sum.inl x) (sr _ _ e7) (by rw [wD_len]; exact small1000 (by omega)),?_⟩
  refine hnxC _ _ ?_
  refine ⟨_,rfl,k d' _ (Same.add (s7.trans sr) hd0) hd0 ?_⟩
  have:=WAt.put (sr _ _ e7) (fun x hx=>sr _ _ (e8 x hx)) hr9 hxk
  unfold strG
  rw [etu]
  exact this
end
end KT
set_option maxHeartbeats 4000000
namespace KT
open PySem L2
noncomputable def sp_low:Sp:=fun vs H Q _=>∃ m n:Nat,vs=[.int m,.int n]∧1≤m∧1≤n∧okD m n∧∀ p,H p=none→Q (.ref p) (upd H p (tp (lowN m n)))
noncomputable def sp_pair:Sp:=fun vs H Q _=>∃ (p q:Addr) (v:Nat × Nat),vs=[.ref p,.ref q]∧H p=some (tp v)∧H q=some (tp v)∧Q (.bl true) H
noncomputable def sp_worths:Sp:=fun vs H Q _=>∃ (m r nm:Addr) (M:List (Option Nat)) (ns xs:List Int),vs=[.ref m,.ref r,.ref nm]∧H m=some (.lst (M.map mV))∧RowsAt H r ns∧TD M ns∧M.length≤42∧H nm=some (.lst (xs.map V.int))∧xs.length=60∧(∀ x∈xs,0≤x∧x < 1009) ∧
 ∀ (d:Addr) (H':Hp) (ks:List Int) (g:Int→Nat × Nat),Same H H'→H d=none→WAt H' d ks g→SwK M ns ks→(∀ x∈ks,1≤(g x).1∧1≤(g x).2∧(g x).1≤100∧(g x).2≤100)→Q (.ref d) H'
section
variable {P:Program} {w:World} {K:PySem.W.Frag} {mg:Str→Option Value} {base:Heap} {t:Adr}
theorem sc_l_low:FnScope ["_law_top","_law_bottom","_law_one","_law_other","_law_rest"] ["_law_top","_law_bottom"] (defScope s_l_low):=⟨rfl,rfl,rfl,by decide +kernel,rfl,by decide +kernel,by decide +kernel⟩
theorem ok_l_low (T:Txt w K mg t):FnOk P w K mg base (CXr P w) 1 t.f_l_low t.d_l_low ["_law_top","_law_bottom"] sp_low:=by
 refine T.p_l_low.F.okR sc_l_low (fun vs H Q E h=>?_) (fun cdv A outer s H vs Q E hr h=>?_)
 ·obtain ⟨a,b,rfl,_⟩:=h
  rfl
 ·obtain ⟨m,n,rfl,hm,hn,hbg,k⟩:=h
  obtain ⟨g1,g2⟩:=okD_div (m:=m) (n:=n) hm hbg
  refine ⟨_,(pss_cons (ps_set (i:=2) sc_l_low.nd rfl (Or.inl rfl) (pv 0))
   (pss_cons (ps_set (i:=3) sc_l_low.nd rfl (Or.inl rfl) (pv 1))
   (pss_cons (ps_while PassesOwn.never (pt_cmpR op_gt (pv 3) pe_int (nomark _)) (pss_cons (ps_set (i:=4) sc_l_low.nd rfl (Or.inl rfl) (pe_op op_mod (pv 2) (pv 3)))
   (pss_cons (ps_set (i:=2) sc_l_low.nd rfl (Or.inl rfl) (pv 3))
   (pss_one (ps_set (i:=3) sc_l_low.nd rfl (Or.inl rfl) (pv 4))))))
   (pss_one (ps_ret (pe_tup (pa_cons (pe_op op_fdivB (pv 0) (pv 2)) (pa_cons (pe_op op_fdivB (pv 1) (pv 2)) pa_nil)))))))),?_⟩
  refine ⟨_,rfl,?_⟩
  refine ⟨_,rfl,?_⟩
  show tSeq (tWhile _ _) _ _ _ _
  refine ⟨fun c σ H1=>∃ (a' b':Nat) (v:Option V),b'=c∧H1=H∧σ=[some (.int m),some (.int n),some (.int a'),some (.int b'),v]∧Nat.gcd a' b'=Nat.gcd m n,⟨n,m,n,none,rfl,rfl,rfl,rfl⟩,?_⟩
  rintro c σ H1 ⟨a',b',v,rfl,rfl,rfl,e⟩
  refine ⟨_,rfl,_,_,rfl,rfl,_,rfl,?_⟩
  refine ite2 (fun z=>?_) (fun z=>?_)
  ·have z:0 < b':=by have:=of_decide_eq_true z; omega
   refine ⟨_,fun σ' H' h=>h,?_⟩
   refine ⟨_,rfl,_,rfl,_,_,rfl,rfl,(by show (0:Int) < b'; omega),?_⟩
   refine ⟨_,rfl,?_⟩
   refine ⟨_,rfl,?_⟩
   refine ⟨a' % b',Nat.mod_lt _ z,b',a' % b',some (.int ((a':Int) % (b':Int))),rfl,rfl,?_,?_⟩
   ·rw [Int.natCast_emod]; rfl
   ·rw [← e,Nat.gcd_comm a' b',Nat.gcd_rec b' a',Nat.gcd_comm]
  ·have z:b'=0:=by have z':¬ (0:Int) < b':=(by simpa using z); omega
   subst z
   rw [Nat.gcd_zero_right] at e
   subst e
   dsimp only
   refine ⟨_,rfl,_,rfl,_,_,rfl,rfl,g1,_,rfl,_,rfl,_,_,rfl,rfl,g2,(by show 2≤sizeLine; rw [sizeLine_eq]; decide),fun p hp=>?_⟩
   exact k p hp
theorem sc_l_pair:FnScope ["_law_found","_law_due"] ["_law_found","_law_due"] (defScope s_l_pair):=⟨rfl,rfl,rfl,by decide +kernel,rfl,by decide +kernel,by decide +kernel⟩
theorem ok_l_pair (T:Txt w K mg t):FnOk P w K mg base (CXr P w) 2 t.f_l_pair t.d_l_pair ["_law_found","_law_due"] sp_pair:=by
 refine T.p_l_pair.F.okR sc_l_pair (fun vs H Q E h=>?_) (fun cdv A outer s H vs Q E hr h=>?_)
 ·obtain ⟨p,q,v,rfl,_⟩:=h
  rfl
 ·obtain ⟨p,q,v,rfl,hp,hq,k⟩:=h
  refine ⟨_,(pss_cons (ps_if (PW.pt (pw_or (pt_not (pt_val (pe_callB call_isinst (by rfl) T.n_isinstance PyProof.Rows.boot_isinstance (pa_cons (pv 0) (pa_cons (pe_bltn (v:=.ty "tuple") (by rfl) T.n_tuple PySem.Pv.boot_tuple rfl) pa_nil))))) (pw_or1 (pt_cmpR op_ne (pe_callB call_len_seq (by rfl) T.n_len PySem.boot_len (pa_cons (pv 0) pa_nil)) pe_int (nomark _))))) (pss_one (ps_ret pe_bl)) pss_nil)
   (pss_one (ps_ret (pe_and (pe_call (ok_l_whole T) (hr.mono (by decide)) rfl T.p_l_whole.g T.p_l_whole.F.kp T.p_l_whole.b .nil passR (pa_cons (pe_ix ix_tup (pv 0) pe_int (fun _ _=>rfl)) pa_nil)) (pe_and (pe_call (ok_l_whole T) (hr.mono (by decide)) rfl T.p_l_whole.g T.p_l_whole.F.kp T.p_l_whole.b .nil passR (pa_cons (pe_ix ix_tup (pv 0) pe_int (fun _ _=>rfl)) pa_nil)) (pe_one (pe_cmpR (op_eqT hr.units) (pv 0) (pv 1) (nomark _)))))))),?_⟩
  refine ⟨_,rfl,_,"tuple",_,true,rfl,TyOf.tup hp,kit_same,_,rfl,iteF ?_⟩
  refine ⟨_,rfl,p,_,rfl,.inr (SqT.of hp),rfl,_,rfl,iteF ?_⟩
  refine ⟨_,rfl,p,_,_,_,rfl,rfl,SqT.of hp,rfl,(v.1:Int),rfl,_,rfl,iteT ?_⟩
  refine ⟨_,rfl,p,_,_,_,rfl,rfl,SqT.of hp,rfl,(v.2:Int),rfl,_,rfl,iteT ?_⟩
  refine ⟨_,rfl,_,rfl,p,q,[(v.1:Int),v.2],[(v.1:Int),v.2],rfl,rfl,SqT.of hp,SqT.of hq,?_⟩
  rw [decide_eq_true rfl]
  exact k
theorem sc_l_worths:FnScope ["_law_mates","_law_rows_here","_law_nums","_law_bound","_law_worths_here","_law_p","_law_top"] ["_law_mates","_law_rows_here","_law_nums"] (defScope s_l_worths):=⟨rfl,rfl,rfl,by decide +kernel,rfl,by decide +kernel,by decide +kernel⟩
theorem ok_l_worths (T:Txt w K mg t):FnOk P w K mg base (CXr P w) 1 t.f_l_worths t.d_l_worths ["_law_mates","_law_rows_here","_law_nums"] sp_worths:=by
 refine T.p_l_worths.F.okR sc_l_worths (fun vs H Q E h=>?_) (fun cdv A outer s H vs Q E hr h=>?_)
 ·obtain ⟨m,r,nm,M,ns,xs,rfl,_⟩:=h
  rfl
 ·obtain ⟨m,r,nm,M,ns,xs,rfl,hm,hr1,td,h42,hnm,hxl,hxs,k⟩:=h
  have hu:=hu_of hr
  refine ⟨_,(pss_cons (ps_set (i:=3) sc_l_worths.nd rfl (Or.inl rfl) (pe_ix ix_tup (pe_tup (pa_cons pe_int (pa_cons pe_int (pa_cons pe_int (pa_cons pe_int pa_nil))))) (pe_op op_mod (pe_ix ix_list (pv 2) pe_int (fun _ _=>rfl)) pe_int) (fun _ _=>rfl)))
   (pss_cons (ps_set (i:=4) sc_l_worths.nd rfl (Or.inl rfl) pe_dnewK)
   (pss_cons (ps_for PassesOwn.never rfl (pi_range1 rfl T.n_range (pa_cons (pe_callB call_len_seq (by rfl) T.n_len PySem.boot_len (pa_cons (pv 0) pa_nil)) pa_nil)) (pg_name (i:=5) sc_l_worths.nd rfl (Or.inl rfl)) (pss_one (ps_if (PW.pt (pw_and (pt_cmpR op_notN (pe_ix ix_list (pv 0) (pv 5) (fun _ _=>rfl)) pe_non (nomark _)) (pw_and1 (pt_cmpR op_lt (pv 5) (pe_ix ix_list (pv 0) (pv 5) (fun _ _=>rfl)) (nomark _))))) (pss_cons (ps_set (i:=6) sc_l_worths.nd rfl (Or.inl rfl) (pe_op op_add pe_int (pe_op op_mod (pe_ix ix_list (pv 2) (pe_op op_add (pv 5) pe_int) (fun _ _=>rfl)) (pv 3))))
   (pss_one (ps_dput hu (pv 4) (pe_ix ix_tup (pe_ix ix_list (pv 1) (pe_op op_fdiv (pv 5) pe_int) (fun _ _=>rfl)) (pe_op op_mod (pv 5) pe_int) (fun _ _=>rfl)) (pe_tup (pa_cons (pv 6) (pa_cons (pe_op op_add pe_int (pe_op op_mod (pe_op op_fdiv (pe_ix ix_list (pv 2) (pe_op op_add (pv 5) pe_int) (fun _ _=>rfl)) pe_int) (pv 3))) pa_nil))) rfl))) pss_nil)))
   (pss_one (ps_ret (pv 4)))))),?_⟩
  have hMl:=td.len
  have at':∀ i:Nat,i < 60→∃ x,atI (xs.map V.int) (i:Int)=some (V.int x)∧0≤x∧x < 1009:=fun i hi=>by
   have e:=List.getElem?_eq_getElem (show i < xs.length by omega)
   exact ⟨xs[i],map_at e,hxs _ (List.getElem_mem _)⟩
  obtain ⟨x0,e0,p0,q0⟩:=at' 0 (by decide)
  have e0:atI (xs.map V.int) 0=some (V.int x0):=e0
  have m0:=Int.emod_nonneg x0 (show (4:Int)≠0 by decide)
  have m1:=Int.emod_lt_of_pos x0 (show (0:Int) < 4 by decide)
  obtain ⟨bd,hbd,hb1,hb2⟩:∃ bd:Int,atI ([V.int 9,V.int 3,V.int 1,V.int 100]) (x0 % 4)=some (V.int bd)∧1≤bd∧bd≤100:=by
   have:x0 % 4=0∨x0 % 4=1∨x0 % 4=2∨x0 % 4=3:=by omega
   rcases this with e | e | e | e <;> rw [e]
   ·exact ⟨9,rfl,by decide,by decide⟩
   ·exact ⟨3,rfl,by decide,by decide⟩
   ·exact ⟨1,rfl,by decide,by decide⟩
   ·exact ⟨100,rfl,by decide,by decide⟩
  refine seq_cut fun nxC hnxC=>?_
  refine ⟨(by show 4≤sizeLine; rw [sizeLine_eq]; decide),fun q1 hq1=>?_⟩
  have s1:Same H (upd H q1 (.tup [V.int 9,V.int 3,V.int 1,V.int 100])):=Same.new hq1
  refine ⟨_,rfl,nm,_,_,_,rfl,rfl,SqL.of (s1 _ _ hnm),e0,_,_,rfl,rfl,(by show (0:Int) < 4; decide),q1,_,_,_,rfl,rfl,SqT.of upd_same,hbd,?_⟩
  refine hnxC _ _ ?_
  show tSeq _ _ _ _ (upd H q1 (.tup [V.int 9,V.int 3,V.int 1,V.int 100]))
  generalize upd H q1 (.tup [V.int 9,V.int 3,V.int 1,V.int 100])=H1 at s1 ⊢
  try dsimp only [gName]
  refine seq_cut fun nxC hnxC=>?_
  intro d hd
  refine hnxC _ _ ?_
  have hd0:H d=none:=s1.free hd
  have s2:Same H (upd H1 d (.dK [])):=Same.add s1 hd0
  have h2:WAt (upd H1 d (.dK [])) d [] (fun _=>(1,1)):=⟨fun _=>0,upd_same,fun x hx=>absurd hx List.not_mem_nil⟩
  generalize upd H1 d (.dK [])=H2 at s2 h2 ⊢
  clear s1 hd hq1
  try dsimp only [gName]
  show tSeq (tFor _ _ _) _ _ _ _
  refine seq_post (fun σ H'=>∃ (ks:List Int) (g:Int→Nat × Nat) (v5 v6:Option V),σ=[some (.ref m),some (.ref r),some (.ref nm),some (.int bd),some (.ref d),v5,v6]∧Same H H'∧WAt H' d ks g∧ks.Nodup∧(∀ x,x∈ks ↔ ∃ p j:Nat,p < M.length∧M[p]?=some (some j)∧p < j∧ns[p]?=some x)∧∀ x∈ks,1≤(g x).1∧1≤(g x).2∧(g x).1≤100∧(g x).2≤100) (fun nx hnx=>?_) ?_
  ·refine ⟨_,rfl,m,_,rfl,.inl (SqL.of (s2 _ _ hm)),_,rfl,by omega,by rw [List.length_map]; omega,?_⟩
   have eL:(((M.map mV).length:Nat):Int).toNat=M.length:=by simp
   rw [eL]
   refine for_range (n:=M.length) (fun i σ H'=>∃ (ks:List Int) (g:Int→Nat × Nat) (v5 v6:Option V),σ=[some (.ref m),some (.ref r),some (.ref nm),some (.int bd),some (.ref d),v5,v6]∧Same H H'∧WAt H' d ks g∧ks.length≤i∧ks.Nodup∧(∀ x,x∈ks ↔ ∃ p j:Nat,p < i∧M[p]?=some (some j)∧p < j∧ns[p]?=some x)∧∀ x∈ks,1≤(g x).1∧1≤(g x).2∧(g x).1≤100∧(g x).2≤100) ⟨[],_,_,_,rfl,s2,h2,Nat.le_refl _,List.nodup_nil,fun x=>⟨fun z=>absurd z List.not_mem_nil,fun ⟨p,j,z,_⟩=>by omega⟩,fun x hx=>absurd hx List.not_mem_nil⟩ ?_ ?_
   ·rintro i σ H3 hi ⟨ks,g,v5,v6,rfl,s3,w3,hkl,nd,mem,bds⟩
    dsimp only [gName]
    rw [Int.zero_add]
    obtain ⟨my,hmy⟩:∃ z,M[i]?=some z:=⟨_,List.getElem?_eq_getElem hi⟩
    refine ⟨_,rfl,_,rfl,m,_,_,_,rfl,rfl,SqL.of (s3 _ _ hm),map_at hmy,rfl,_,rfl,?_⟩
    cases my with
    | none =>
     refine iteF (iteF ⟨ks,g,_,_,rfl,s3,w3,by omega,nd,fun x=>?_,bds⟩)
     rw [mem]
     exact ⟨fun ⟨p,j,z1,z2⟩=>⟨p,j,by omega,z2⟩,fun ⟨p,j,z1,z2,z3⟩=>by
      rcases Nat.lt_or_ge p i with q | q
      ·exact ⟨p,j,q,z2,z3⟩
      ·have:p=i:=by omega
       subst this; rw [hmy] at z2; cases z2⟩
    | some j =>
     refine iteT ⟨_,rfl,_,rfl,_,rfl,m,_,_,_,rfl,rfl,SqL.of (s3 _ _ hm),map_at hmy,_,_,rfl,rfl,_,rfl,?_⟩
     by_cases c:i < j
     ·rw [decide_eq_true (by omega:(i:Int) < (j:Int))]
      refine iteT ?_
      obtain ⟨y,hy⟩:∃ y,ns[i]?=some y:=⟨_,List.getElem?_eq_getElem (by omega)⟩
      obtain ⟨x1,ex,p1,q1⟩:=at' (i + 1) (by omega)
      have ex:atI (xs.map V.int) ((i:Int) + 1)=some (V.int x1):=by rw [← ex]; rfl
      have t0:=Int.emod_nonneg x1 (show bd≠0 by omega)
      have t1:=Int.emod_lt_of_pos x1 (show 0 < bd by omega)
      have u0:=Int.emod_nonneg (x1 / 9) (show bd≠0 by omega)
      have u1:=Int.emod_lt_of_pos (x1 / 9) (show 0 < bd by omega)
      have hnm3:=s3 _ _ hnm
      refine seq_cut fun nxC hnxC=>?_
      refine ⟨_,rfl,_,rfl,_,_,rfl,rfl,nm,_,_,_,rfl,rfl,SqL.of hnm3,ex,_,rfl,_,_,rfl,rfl,(by show 0 < bd; omega),_,_,rfl,rfl,?_⟩
      refine hnxC _ _ ?_
      try dsimp only [gName]
      obtain ⟨us,q,w1,w2,w3',w4⟩:=row_at (hr1.same s3) hy
      refine ⟨_,rfl,_,rfl,_,rfl,_,_,rfl,rfl,nm,_,_,_,rfl,rfl,SqL.of hnm3,ex,_,_,rfl,rfl,⟨by decide,by decide⟩,_,rfl,_,_,rfl,rfl,(by show 0 < bd; omega),_,_,rfl,rfl,(by show 2≤sizeLine; rw [sizeLine_eq]; decide),fun tq htq=>?_⟩
      have sq:Same H3 (upd H3 tq (.tup [V.int (1 + x1 % bd),V.int (1 + x1 / 9 % bd)])):=Same.new htq
      have hq:(upd H3 tq (.tup [V.int (1 + x1 % bd),V.int (1 + x1 / 9 % bd)])) tq=some (tp ((1 + x1 % bd).toNat,(1 + x1 / 9 % bd).toNat)):=by
       rw [upd_same]; unfold tp
       rw [Int.toNat_of_nonneg (by omega),Int.toNat_of_nonneg (by omega)]
      refine ⟨_,rfl,_,rfl,_,rfl,_,_,rfl,rfl,⟨by decide,by decide⟩,r,_,_,_,rfl,rfl,SqL.of (sq _ _ w1),(by rw [div3]; exact map_at w2),_,rfl,_,_,rfl,rfl,(by show (0:Int) < 3; decide),q,_,_,_,rfl,rfl,SqT.of (sq _ _ w3'),(by rw [mod3]; exact atI_nat w4),?_⟩
      obtain ⟨ad,e1,e2⟩:=w3
      refine ⟨d,_,rfl,DPut.k (k:=Sum.inl y) (sq _ _ e1) (by rw [wD_len]; exact small1000 (by omega)),?_⟩
      have hny:y ∉ ks:=fun z=>by
       obtain ⟨p,j',z1,z2,z3,z4⟩:=(mem y).mp z
       rcases td.eqv p i y z4 hy with e | e
       ·omega
       ·rw [z2] at e
        cases e
        have:=(td.inv p i z2).1
        rw [hmy] at this
        cases this
        omega
      have wn:=WAt.new (sq _ _ e1) (fun x hx=>sq _ _ (e2 x hx)) hq hny
      refine ⟨ks ++ [y],_,_,_,rfl,Same.add (s3.trans sq) hd0,wn,by rw [List.length_append,List.length_singleton]; omega,?_,fun x=>?_,fun x hx=>?_⟩
      ·rw [List.nodup_append]
       refine ⟨nd,by simp,fun a ha b hb e=>?_⟩
       rw [List.mem_singleton] at hb
       subst hb e
       exact hny ha
      ·rw [List.mem_append,mem,List.mem_singleton]
       constructor
       ·rintro (⟨p,j',z1,z2⟩ | rfl)
        ·exact ⟨p,j',by omega,z2⟩
        ·exact ⟨i,j,by omega,hmy,c,hy⟩
       ·rintro ⟨p,j',z1,z2,z3,z4⟩
        rcases Nat.lt_or_ge p i with q | q
        ·exact .inl ⟨p,j',q,z2,z3,z4⟩
        ·have:p=i:=by omega
         subst this
         rw [hy] at z4
         cases z4
         exact .inr rfl
      ·unfold putG
       by_cases z:x=y
       ·rw [if_pos z]
        exact ⟨by show 1≤(1 + x1 % bd).toNat; omega,by show 1≤(1 + x1 / 9 % bd).toNat; omega,by show (1 + x1 % bd).toNat≤100; omega,by show (1 + x1 / 9 % bd).toNat≤100; omega⟩
       ·rw [if_neg z]
        refine bds x ?_
        rcases List.mem_append.mp hx with q | q
        ·exact q
        ·exact absurd (List.mem_singleton.mp q) z
     ·rw [decide_eq_false (by omega:¬ (i:Int) < (j:Int))]
      refine iteF ⟨ks,g,_,_,rfl,s3,w3,by omega,nd,fun x=>?_,bds⟩
      rw [mem]
      exact ⟨fun ⟨p,j,z1,z2⟩=>⟨p,j,by omega,z2⟩,fun ⟨p,j',z1,z2,z3,z4⟩=>by
       rcases Nat.lt_or_ge p i with q | q
       ·exact ⟨p,j',q,z2,z3,z4⟩
       ·have:p=i:=by omega
        subst this
        rw [hmy] at z2
        cases z2
        omega⟩
   ·rintro σ H3 ⟨ks,g,v5,v6,rfl,s3,w3,hkl,nd,mem,bds⟩
    exact hnx _ _ ⟨ks,g,_,_,rfl,s3,w3,nd,mem,bds⟩
  rintro σ H3 ⟨ks,g,v5,v6,rfl,s3,w3,nd,mem,bds⟩
  refine ⟨_,rfl,k d H3 ks g s3 hd0 w3 ⟨nd,fun x=>?_⟩ bds⟩
  rw [mem]
  constructor
  ·rintro ⟨p,j,_,h1,_,h2⟩
   exact ⟨p,j,h1,h2⟩
  ·rintro ⟨p,j,h1,h2⟩
   obtain ⟨h3,hne⟩:=td.inv p j h1
   have hp:=(List.getElem?_eq_some_iff.mp h1).1
   have hj:=(List.getElem?_eq_some_iff.mp h3).1
   rcases Nat.lt_or_ge p j with q | q
   ·exact ⟨p,j,hp,h1,q,h2⟩
   ·exact ⟨j,p,hj,h3,by omega,by rw [td.eqm p j h1]; exact h2⟩
end
end KT
set_option maxHeartbeats 4000000
namespace KT
open PySem L2 Mx
theorem mulS {m n:Nat} (h1:m < 2 ^ 3000) (h2:n < 2 ^ 3000):IntMulOk (m:Int) (n:Int):=mulN (Nat.lt_of_lt_of_le h1 (Nat.pow_le_pow_right (by decide) (by decide))) (Nat.lt_of_lt_of_le h2 (Nat.pow_le_pow_right (by decide) (by decide)))
theorem divS {m n:Nat} (h0:0 < n) (h:n < 2 ^ 3000):CDivB (m:Int) (n:Int):=⟨by omega,Nat.lt_of_lt_of_le (log2_lt (k:=3000) (by rw [Int.natAbs_natCast]; exact h) (by decide)) (by decide)⟩
@[irreducible] def W7:Nat:=2 ^ 700
@[irreducible] def WB:Nat:=2 ^ 300000
theorem WB_ge {k:Nat} (h:k≤300000):2 ^ k≤WB:=by unfold WB; exact Nat.pow_le_pow_right (by decide) h
theorem W7_lt {n:Nat} (h:n≤W7):n < 2 ^ 3000:=by
 unfold W7 at h
 exact Nat.lt_of_le_of_lt h (Nat.pow_lt_pow_right (by decide) (by decide))
theorem W7_WB {n:Nat} (h:n≤W7):n < WB:=Nat.lt_of_lt_of_le (W7_lt h) (WB_ge (by decide))
theorem W7_pow {i:Nat} (h:i≤400):W7 ^ i < WB:=by
 unfold W7
 rw [← Nat.pow_mul]
 exact Nat.lt_of_lt_of_le (Nat.pow_lt_pow_right (a:=2) (by decide) (show 700 * i < 280001 by omega)) (WB_ge (by decide))
theorem W7_two {i:Nat} (h:i≤200):1 * (2 * W7) ^ i + 1 * (2 * W7) ^ i < WB:=by
 have e:2 * W7=2 ^ 701:=by unfold W7; rw [Nat.pow_succ 2 700,Nat.mul_comm]
 rw [e,← Nat.pow_mul,Nat.one_mul,← Nat.two_mul,← Nat.pow_succ']
 exact Nat.lt_of_lt_of_le (Nat.pow_lt_pow_right (a:=2) (by decide) (show 701 * i + 1 < 140202 by omega)) (WB_ge (by decide))
theorem mulW {m n:Nat} (h1:m < WB) (h2:n < WB):IntMulOk (m:Int) (n:Int):=by
 unfold WB at h1 h2
 exact PyProof.Rows.mulOk_of_bits (bits_le (k:=300000) (by rw [Int.natAbs_natCast]; exact h1) (by decide)) (bits_le (k:=300000) (by rw [Int.natAbs_natCast]; exact h2) (by decide)) (by decide)
noncomputable def FrAt (H:Hp) (a:Addr) (vs:List (Nat × Nat)):Prop:=∃ qs:List Addr,H a=some (.lst (qs.map V.ref))∧qs.length=vs.length∧∀ (i:Nat) (q:Addr) (v:Nat × Nat),qs[i]?=some q→vs[i]?=some v→H q=some (tp v)
theorem FrAt.same {H H':Hp} {a:Addr} {vs:List (Nat × Nat)} (h:FrAt H a vs) (s:Same H H'):FrAt H' a vs:=by
 obtain ⟨qs,h1,h2,h3⟩:=h
 exact ⟨qs,s _ _ h1,h2,fun i q v e1 e2=>s _ _ (h3 i q v e1 e2)⟩
noncomputable def sp_diag:Sp:=fun us H Q _=>∃ (c:Addr) (vs:List (Nat × Nat)) (ys:List Str),us=[.ref c,.str (Txt.join (Str.ofString "") ys)]∧FrAt H c vs∧vs.length=ys.length∧vs.length≤200∧(∀ v∈vs,v.1≤W7∧v.2≤W7)∧(∀ y∈ys,isLR y)∧∀ H',Same H H'→Q (.int (tr (tab (vs.zip (ys.map tuB))):Nat)) H'
noncomputable def sp_over:Sp:=fun us H Q _=>∃ (a:Addr) (N:Nat) (fs:List Nat),us=[.int N,.ref a]∧H a=some (.lst (fs.map nV))∧0 < N∧(∀ f∈fs,1≤f∧f≤W7)∧fs.length≤400∧∀ p,H p=none→Q (.ref p) (upd H p (tp (lowN N (prd fs))))
noncomputable def sp_worth (C:Addr):Sp:=fun us H Q _=>∃ (p d a:Addr) (M:List (Option Nat)) (ns ks:List Int) (g:Int→Nat × Nat) (ws:List Nat),us=[.ref p,.ref d,.ref a]∧TentAt C H p M ns∧TD M ns∧ns.length < 64∧WAt H d ks g∧SwK M ns ks∧(∀ x∈ks,1≤(g x).1∧1≤(g x).2∧(g x).1≤W7∧(g x).2≤W7)∧H a=some (.lst (ws.map nV))∧ws.length≤200∧Pl M ws ∧
 ∀ (r:Addr) (H':Hp),Same H H'→H' r=some (tp (wor (lowG g) M ns ws))→Q (.ref r) H'
theorem flat_len:∀ vs:List (Nat × Nat),(vs.flatMap fun v=>[v.1,v.2]).length=2 * vs.length
 | []=>rfl
 | v :: vs=>by rw [List.flatMap_cons,List.length_append,flat_len vs]; simp only [List.length_cons,List.length_nil]; omega
theorem dSt {a b:Str}:decide (V.str a=V.str b)=decide (a=b):=by
 by_cases z:a=b
 ·subst z; simp
 ·rw [decide_eq_false z,decide_eq_false (fun y=>z (by injection y))]
theorem zs_join {ys:List Str} (h:∀ y∈ys,isLR y):(Txt.join (Str.ofString "") ys).cps.all (· < 128)=true∧ys.map V.str=(Txt.join (Str.ofString "") ys).cps.toList.map fun c=>V.str ⟨#[c]⟩:=by
 obtain ⟨j1,j2,j3⟩:=join_walk h
 refine ⟨j1,?_⟩
 apply List.ext_getElem?
 intro i
 rw [List.getElem?_map,List.getElem?_map]
 rcases Nat.lt_or_ge i ys.length with hi | hi
 ·have hi':i < (Txt.join (Str.ofString "") ys).cps.size:=by omega
  have e:=Array.getElem?_eq_getElem hi'
  have e2:=j3 i _ e
  have e3:(Txt.join (Str.ofString "") ys).cps.toList[i]?=some (Txt.join (Str.ofString "") ys).cps[i]:=by rw [Array.getElem?_toList]; exact e
  rw [e3,e2]
  rfl
 ·rw [List.getElem?_eq_none hi,List.getElem?_eq_none (by rw [Array.length_toList]; omega)]
  rfl
section
variable {P:Program} {w:World} {K:PySem.W.Frag} {mg:Str→Option Value} {base:Heap} {t:Adr}
theorem sc_diagonal_sum:FnScope ["crossed","turns","upper_left","upper_right","lower_left","lower_right","top","bottom","turn"] ["crossed","turns"] (defScope s_diagonal_sum):=⟨rfl,rfl,rfl,by decide +kernel,rfl,by decide +kernel,by decide +kernel⟩
theorem ok_diagonal_sum (T:Txt w K mg t):FnOk P w K mg base (CXr P w) 1 t.f_diagonal_sum t.d_diagonal_sum ["crossed","turns"] sp_diag:=by
 refine T.p_diagonal_sum.F.okR sc_diagonal_sum (fun vs H Q E h=>?_) (fun cdv A outer s H vs Q E hr h=>?_)
 ·obtain ⟨c,vs,ys,rfl,_⟩:=h
  rfl
 ·obtain ⟨c,vs,ys,rfl,⟨qs,h1,h2,h3⟩,hl,h100,hv,hy,k⟩:=h
  refine ⟨_,(pss_cons (ps_asg (pe_tup (pa_cons pe_int (pa_cons pe_int (pa_cons pe_int (pa_cons pe_int pa_nil))))) (pg_tup rfl (pgs_cons (pg_name (i:=2) sc_diagonal_sum.nd rfl (Or.inl rfl)) (pgs_cons (pg_name (i:=3) sc_diagonal_sum.nd rfl (Or.inl rfl)) (pgs_cons (pg_name (i:=4) sc_diagonal_sum.nd rfl (Or.inl rfl)) (pgs_cons (pg_name (i:=5) sc_diagonal_sum.nd rfl (Or.inl rfl)) pgs_nil))))))
   (pss_cons (ps_for PassesOwn.never rfl (pi_zip2 rfl T.n_zip (pa_cons (pv 0) (pa_cons (pv 1) pa_nil))) (pg_tup rfl (pgs_cons (pg_tup rfl (pgs_cons (pg_name (i:=6) sc_diagonal_sum.nd rfl (Or.inl rfl)) (pgs_cons (pg_name (i:=7) sc_diagonal_sum.nd rfl (Or.inl rfl)) pgs_nil))) (pgs_cons (pg_name (i:=8) sc_diagonal_sum.nd rfl (Or.inl rfl)) pgs_nil))) (pss_cons (ps_par (i:=2) (j:=4) rfl sc_diagonal_sum.nd rfl rfl (by decide) rfl rfl (pa_cons (pe_op op_mulB (pv 2) (pv 6)) (pa_cons (pe_op op_mulB (pv 4) (pv 6)) pa_nil)) (by rfl))
   (pss_cons (ps_par (i:=3) (j:=5) rfl sc_diagonal_sum.nd rfl rfl (by decide) rfl rfl (pa_cons (pe_op op_mulB (pv 3) (pv 7)) (pa_cons (pe_op op_mulB (pv 5) (pv 7)) pa_nil)) (by rfl))
   (pss_one (ps_if (pt_cmpR op_eq (pv 8) pe_str (nomark _)) (pss_one (ps_par (i:=3) (j:=5) rfl sc_diagonal_sum.nd rfl rfl (by decide) rfl rfl (pa_cons (pe_op op_add (pv 3) (pv 2)) (pa_cons (pe_op op_add (pv 5) (pv 4)) pa_nil)) (by rfl))) (pss_one (ps_par (i:=2) (j:=4) rfl sc_diagonal_sum.nd rfl rfl (by decide) rfl rfl (pa_cons (pe_op op_add (pv 2) (pv 3)) (pa_cons (pe_op op_add (pv 4) (pv 5)) pa_nil)) (by rfl))))))))
   (pss_one (ps_ret (pe_op op_add (pv 2) (pv 5)))))),?_⟩
  obtain ⟨z1,z2⟩:=zs_join hy
  refine seq_cut fun nxC hnxC=>?_
  refine ⟨(by show 4≤sizeLine; rw [sizeLine_eq]; decide),fun q0 hq0=>?_⟩
  have s0:Same H (upd H q0 (.tup [V.int 1,V.int 0,V.int 0,V.int 1])):=Same.new hq0
  refine ⟨q0,_,rfl,SqT.of upd_same,rfl,_,_,rfl,_,_,rfl,_,_,rfl,_,_,rfl,rfl,?_⟩
  refine hnxC _ _ ?_
  try dsimp only [gName]
  show tSeq (tFor _ _ _) _ _ _ (upd H q0 (.tup [V.int 1,V.int 0,V.int 0,V.int 1]))
  generalize upd H q0 (.tup [V.int 1,V.int 0,V.int 0,V.int 1])=H0 at s0 ⊢
  have hzl:(vs.zip (ys.map tuB)).length=vs.length:=by rw [List.length_zip,List.length_map]; omega
  refine seq_post (fun σ H'=>Same H H'∧∃ v6 v7 v8,σ=[some (.ref c),some (.str (Txt.join (Str.ofString "") ys)),some (.int (tab (vs.zip (ys.map tuB))).a),some (.int (tab (vs.zip (ys.map tuB))).b),some (.int (tab (vs.zip (ys.map tuB))).c),some (.int (tab (vs.zip (ys.map tuB))).d),v6,v7,v8]) (fun nx hnx=>?_) ?_
  ·refine ⟨_,rfl,_,rfl,.l c,.s _,_,_,rfl,SqL.of (s0 _ _ h1),⟨z1,z2⟩,?_⟩
   refine for_zip2 (S:=.l c) (T:=.s (Txt.join (Str.ofString "") ys)) (xs:=qs.map V.ref) (ys:=ys.map V.str) (by rw [List.length_map,List.length_map]; omega) (fun i σ H'=>Same H H'∧∃ v6 v7 v8,σ=[some (.ref c),some (.str (Txt.join (Str.ofString "") ys)),some (.int (((vs.zip (ys.map tuB)).take i).foldl stp one).a),some (.int (((vs.zip (ys.map tuB)).take i).foldl stp one).b),some (.int (((vs.zip (ys.map tuB)).take i).foldl stp one).c),some (.int (((vs.zip (ys.map tuB)).take i).foldl stp one).d),v6,v7,v8]) ⟨s0,_,_,_,rfl⟩ ?_ ?_ ?_
   ·rintro i σ H' _ ⟨s1,v6,v7,v8,rfl⟩
    exact ⟨SqL.of (s1 _ _ h1),z1,z2⟩
   ·rintro i x y σ H1 q hx hy' hq ⟨s1,v6,v7,v8,rfl⟩
    obtain ⟨qa,hqa,rfl⟩:=map_some hx
    obtain ⟨yy,hyy,rfl⟩:=map_some hy'
    have hi:i < vs.length:=by rw [← h2]; exact (List.getElem?_eq_some_iff.mp hqa).1
    have hvi:=List.getElem?_eq_getElem hi
    have hta:=s1 _ _ (h3 i qa _ hqa hvi)
    have hzi:(vs.zip (ys.map tuB))[i]?=some (vs[i],tuB yy):=by
     rw [List.getElem?_zip_eq_some]
     exact ⟨hvi,by rw [List.getElem?_map,hyy]; rfl⟩
    have s2:Same H1 (upd H1 q (.tup [V.ref qa,V.str yy])):=Same.new hq
    have hbnd:=fold_le (k:=W7) ((vs.zip (ys.map tuB)).take i) one 1 (fun q hq=>by
     have:=List.mem_of_mem_take hq
     exact hv _ (List.of_mem_zip this).1) (by decide)
    have hst:((vs.zip (ys.map tuB)).take (i + 1)).foldl stp one=stp (((vs.zip (ys.map tuB)).take i).foldl stp one) (vs[i],tuB yy):=by
     rw [List.take_add_one,hzi,List.foldl_append]; rfl
    rw [hst]
    have hb2:1 * (2 * W7) ^ ((vs.zip (ys.map tuB)).take i).length < WB:=Nat.lt_of_le_of_lt (Nat.le_add_right _ _) (W7_two (by rw [List.length_take]; omega))
    generalize ((vs.zip (ys.map tuB)).take i).foldl stp one=X at hbnd ⊢
    obtain ⟨b1,b2,b3,b4⟩:=hbnd
    obtain ⟨c1,c2⟩:=hv _ (List.getElem_mem hi)
    generalize vs[i]=v at *
    refine ⟨q,_,rfl,SqT.of upd_same,rfl,_,_,rfl,qa,_,rfl,SqT.of (s2 _ _ hta),rfl,_,_,rfl,_,_,rfl,rfl,_,_,rfl,rfl,?_⟩
    dsimp only [gName]
    have m1:X.a < WB:=Nat.lt_of_le_of_lt b1 hb2
    have m2:X.b < WB:=Nat.lt_of_le_of_lt b2 hb2
    have m3:X.c < WB:=Nat.lt_of_le_of_lt b3 hb2
    have m4:X.d < WB:=Nat.lt_of_le_of_lt b4 hb2
    have m5:=W7_WB c1
    have m6:=W7_WB c2
    clear b1 b2 b3 b4 hb2 hst c1 c2 hta
    refine seq_cut fun nxC hnxC=>?_
    refine ⟨_,rfl,_,rfl,_,_,rfl,rfl,mulW m1 m5,_,rfl,_,rfl,_,_,rfl,rfl,mulW m3 m5,_,_,rfl,?_⟩
    refine hnxC _ _ ?_
    refine seq_cut fun nxC hnxC=>?_
    refine ⟨_,rfl,_,rfl,_,_,rfl,rfl,mulW m2 m6,_,rfl,_,rfl,_,_,rfl,rfl,mulW m4 m6,_,_,rfl,?_⟩
    refine hnxC _ _ ?_
    refine ⟨_,rfl,rfl,_,rfl,?_⟩
    rw [dSt]
    rcases hy yy (List.mem_of_getElem? hyy) with rfl | rfl
    ·refine iteF ?_
     refine ⟨_,rfl,_,rfl,_,_,rfl,rfl,_,rfl,_,rfl,_,_,rfl,rfl,_,_,rfl,?_⟩
     exact ⟨s1.trans s2,_,_,_,rfl⟩
    ·refine iteT ?_
     refine ⟨_,rfl,_,rfl,_,_,rfl,rfl,_,rfl,_,rfl,_,_,rfl,rfl,_,_,rfl,?_⟩
     exact ⟨s1.trans s2,_,_,_,rfl⟩
   ·rintro σ H' ⟨s1,v6,v7,v8,rfl⟩
    rw [List.length_map,h2,← hzl,List.take_length]
    exact hnx _ _ ⟨s1,_,_,_,rfl⟩
  ·rintro σ H' ⟨s1,v6,v7,v8,rfl⟩
   refine ⟨_,rfl,_,rfl,_,_,rfl,rfl,?_⟩
   have:=k H' s1
   unfold tr at this
   rw [Int.natCast_add] at this
   exact this
theorem sc_lowest_over:FnScope ["top","factors","bottom","factor","measure"] ["top","factors"] (defScope s_lowest_over):=⟨rfl,rfl,rfl,by decide +kernel,rfl,by decide +kernel,by decide +kernel⟩
theorem ok_lowest_over (T:Txt w K mg t):FnOk P w K mg base (CXr P w) 2 t.f_lowest_over t.d_lowest_over ["top","factors"] sp_over:=by
 refine T.p_lowest_over.F.okR sc_lowest_over (fun vs H Q E h=>?_) (fun cdv A outer s H vs Q E hr h=>?_)
 ·obtain ⟨a,N,fs,rfl,_⟩:=h
  rfl
 ·obtain ⟨a,N,fs,rfl,ha,hN,hf,hfl,k⟩:=h
  refine ⟨_,(pss_cons (ps_set (i:=2) sc_lowest_over.nd rfl (Or.inl rfl) pe_int)
   (pss_cons (ps_for PassesOwn.never rfl (pi_list (pv 1)) (pg_name (i:=3) sc_lowest_over.nd rfl (Or.inl rfl)) (pss_cons (ps_set (i:=4) sc_lowest_over.nd rfl (Or.inl rfl) (pe_call (ok_common_measure T) (hr.mono (by decide)) rfl T.p_common_measure.g T.p_common_measure.F.kp T.p_common_measure.b .nil passR (pa_cons (pv 0) (pa_cons (pv 3) pa_nil))))
   (pss_cons (ps_aug (i:=0) sc_lowest_over.nd rfl (Or.inl rfl) (pv 4) ip_fdivB)
   (pss_one (ps_aug (i:=2) sc_lowest_over.nd rfl (Or.inl rfl) (pe_op op_fdivB (pv 3) (pv 4)) ip_mulB)))))
   (pss_one (ps_ret (pe_tup (pa_cons (pv 0) (pa_cons (pv 2) pa_nil))))))),?_⟩
  have f0:∀ f∈fs,0 < f:=fun f h=>(hf f h).1
  refine seq_cut fun nxC hnxC=>?_
  refine hnxC _ _ ?_
  try dsimp only [gName]
  show tSeq (tFor _ _ _) _ _ _ _
  refine seq_post (fun σ H'=>H'=H∧∃ v3 v4,σ=[some (.int (lowN N (prd fs)).1),some (.ref a),some (.int (lowN N (prd fs)).2),v3,v4]) (fun nx hnx=>?_) ?_
  ·refine ⟨_,rfl,a,rfl,⟨_,SqL.of ha⟩,?_⟩
   refine for_list (xs:=fs.map nV) (fun i σ H'=>H'=H∧∃ v3 v4,σ=[some (.int ((fs.take i).foldl loS (N,1)).1),some (.ref a),some (.int ((fs.take i).foldl loS (N,1)).2),v3,v4]) ⟨rfl,_,_,rfl⟩ ?_ ?_ ?_
   ·rintro i σ H' _ ⟨rfl,v3,v4,rfl⟩
    exact SqL.of ha
   ·rintro i x σ H' hx ⟨rfl,v3,v4,rfl⟩
    obtain ⟨f,hfi,rfl⟩:=map_some hx
    have hi:i < fs.length:=(List.getElem?_eq_some_iff.mp hfi).1
    have hv:=lo_vals hN f0 i (Nat.le_of_lt hi)
    have hp0:=prd_pos f0 i (Nat.le_of_lt hi)
    have hle:=hv.le hN hp0
    have hpl:=prd_le (k:=W7) (fun f h=>(hf f h).2) i (Nat.le_of_lt hi)
    have hpb:W7 ^ i < WB:=W7_pow (by omega)
    rw [lo_step hfi]
    generalize (fs.take i).foldl loS (N,1)=S at *
    obtain ⟨q1,q2⟩:=hf f (List.mem_of_getElem? hfi)
    have g0:0 < Nat.gcd S.1 f:=Nat.gcd_pos_of_pos_left _ hv.p1
    have g1:Nat.gcd S.1 f≤f:=Nat.le_of_dvd q1 (Nat.gcd_dvd_right _ _)
    have g2:=W7_lt (Nat.le_trans g1 q2)
    have dv:CDivB (S.1:Int) (Nat.gcd S.1 f:Nat):=divS g0 g2
    have dv2:CDivB (f:Int) (Nat.gcd S.1 f:Nat):=divS g0 g2
    dsimp only [gName]
    refine seq_cut fun nxC hnxC=>?_
    refine ⟨_,rfl,_,rfl,S.1,f,rfl,?_⟩
    refine hnxC _ _ ?_
    try dsimp only [gName]
    refine seq_cut fun nxC hnxC=>?_
    refine ⟨_,rfl,_,rfl,_,_,rfl,rfl,dv,?_⟩
    refine hnxC _ _ ?_
    refine ⟨_,rfl,_,rfl,_,rfl,_,_,rfl,rfl,dv2,_,_,rfl,rfl,?_,?_⟩
    ·exact mulW (m:=S.2) (n:=f / Nat.gcd S.1 f) (Nat.lt_of_le_of_lt hle.2 (Nat.lt_of_le_of_lt hpl hpb)) (W7_WB (Nat.le_trans (Nat.div_le_self _ _) q2))
    ·exact ⟨rfl,_,_,rfl⟩
   ·rintro σ H' ⟨rfl,v3,v4,rfl⟩
    rw [List.length_map,List.take_length,lo_eq hN f0]
    exact hnx _ _ ⟨rfl,_,_,rfl⟩
  ·rintro σ H' ⟨rfl,v3,v4,rfl⟩
   refine ⟨_,rfl,_,rfl,(by show 2≤sizeLine; rw [sizeLine_eq]; decide),fun p hp=>?_⟩
   exact k p hp
theorem sc_worth:FnScope ["tent","worths","word","turns","lowest","crossed","factors"] ["tent","worths","word"] (defScope s_worth):=⟨rfl,rfl,rfl,by decide +kernel,rfl,by decide +kernel,by decide +kernel⟩
theorem ok_worth (T:Txt w K mg t):FnOk P w K mg base (CXr P w) 8 t.f_worth t.d_worth ["tent","worths","word"] (sp_worth t.C_Tent):=by
  refine T.p_worth.F.okR sc_worth (fun vs H Q E h=>?_) (fun cdv A outer s H vs Q E hr h=>?_)
  · obtain ⟨p,d,a,M,ns,ks,g,ws,rfl,_⟩:=h
    rfl
  · obtain ⟨p,d,a,M,ns,ks,g,ws,rfl,ta,td,h64,wa,sw,bd,ha,hwl,hP,k⟩:=h
    have hu:=hu_of hr
    refine ⟨_,(pss_cons (ps_set (i:=3) sc_worth.nd rfl (Or.inl rfl) (pe_call (ok_letters T) (hr.mono (by decide)) rfl T.p_letters.g T.p_letters.F.kp T.p_letters.b .nil passR (pa_cons (pv 0) (pa_cons (pv 2) pa_nil))))
      (pss_cons (ps_set (i:=4) sc_worth.nd rfl (Or.inr rfl) (pe_call (ok_lowest_worths T) (hr.mono (by decide)) rfl T.p_lowest_worths.g T.p_lowest_worths.F.kp T.p_lowest_worths.b .nil passR (pa_cons (pv 0) (pa_cons (pv 1) pa_nil))))
      (pss_cons (ps_setCompG (ts:=["place"]) (fv:=[("lowest",4),("tent",0)]) (i:=5) ⟨rfl,by decide +kernel,by decide +kernel,blkFree (by rfl),⟨⟨rfl,rfl,Or.inl rfl⟩,⟨rfl,rfl,Or.inl rfl⟩,trivial⟩⟩ rfl sc_worth.nd rfl rfl (by rfl) (pi_list (pv 2)) (fun _ _ _ _=>(pg_name (i:=0) (show List.Nodup (["place","lowest","tent"]:List Str) from by decide +kernel) rfl (Or.inl rfl) (Or.inr rfl))) (fun _ _ _ _=>pts_nil) (fun _ _ _=>rfl) (fun _ _ _ _ _ _=>pb_emit (pe_dget hu (pv 1) (pe_meth (pv 2) T.cl_Tent T.p_Tent_seam_at.m (ok_Tent_seam_at T) (hr.mono (by decide)) T.p_Tent_seam_at.b .nil passR (pa_cons (pv 0) pa_nil)) (fun _ _=>rfl))))
      (pss_cons (ps_setCompG (ts:=["parts","part"]) (fv:=[]) (i:=6) ⟨rfl,by decide +kernel,by decide +kernel,blkFree (by rfl),trivial⟩ rfl sc_worth.nd rfl rfl (by rfl) (pi_list (pv 5)) (fun _ _ _ _=>(pg_name (i:=0) (show List.Nodup (["parts","part"]:List Str) from by decide +kernel) rfl (Or.inl rfl) (Or.inr rfl))) (fun _ _ _ _=>pts_nil) (fun _ _ _=>rfl) (fun _ _ _ _ _ _=>pb_gen rfl rfl (pi_tupK K (pv 0)) (pg_name (i:=1) (show List.Nodup (["parts","part"]:List Str) from by decide +kernel) rfl (Or.inl rfl) (Or.inr rfl)) pts_nil (pv 1)))
      (pss_one (ps_ret (pe_call (ok_lowest_over T) (hr.mono (by decide)) rfl T.p_lowest_over.g T.p_lowest_over.F.kp T.p_lowest_over.b .nil passR (pa_cons (pe_op op_powB (pe_call (ok_diagonal_sum T) (hr.mono (by decide)) rfl T.p_diagonal_sum.g T.p_diagonal_sum.F.kp T.p_diagonal_sum.b .nil passR (pa_cons (pv 5) (pa_cons (pv 3) pa_nil))) pe_int) (pa_cons (pv 6) pa_nil))))))))),?_⟩
    have hMl:=td.len
    have h0:0 < ws.length:=List.length_pos_iff.mpr hP.ne
    have inK:∀ q∈ws,ns.getD q 0∈ks∧∃ y,ns[q]?=some y∧ns.getD q 0=y:=fun q hq=>by
      obtain ⟨m,hm⟩:=hP.has q hq
      have hlt:q < ns.length:=by rw [hMl]; exact (List.getElem?_eq_some_iff.mp hm).1
      have e:=List.getElem?_eq_getElem hlt
      have e2:ns.getD q 0=ns[q]:=by rw [List.getD_eq_getElem?_getD,e]; rfl
      exact ⟨by rw [e2]; exact (sw.mem _).mpr ⟨q,m,hm,e⟩,_,e,e2⟩
    refine seq_cut fun nxC hnxC=>?_
    refine ⟨_,rfl,_,rfl,p,a,M,ns,ws,rfl,ta,hMl.symm,ha,by omega,hP,fun H1 s1=>?_⟩
    refine hnxC _ _ ?_
    try dsimp only [gName]
    refine seq_cut fun nxC hnxC=>?_
    refine ⟨_,rfl,_,rfl,p,d,M,ns,ks,g,rfl,ta.same s1,td,h64,wa.same s1,sw,fun x hx=>⟨(bd x hx).1,(bd x hx).2.1,Nat.lt_of_lt_of_le (W7_lt (bd x hx).2.2.1) (Nat.pow_le_pow_right (by decide) (by decide))⟩,fun lo H2 s2 hlo w2=>?_⟩
    refine hnxC _ _ ?_
    try dsimp only [gName]
    have s02:=s1.trans s2
    obtain ⟨ad,e1,e2⟩:=id w2
    refine seq_cut fun nxC hnxC=>?_
    refine ⟨_,rfl,a,rfl,⟨_,SqL.of (s02 _ _ ha)⟩,fun D hD=>?_⟩
    refine loop_list (xs:=ws.map nV) (fun i σ H3=>∃ v,σ=[v,some (.ref lo),some (.ref p)]∧Same H2 H3∧H3 D=some (.lst (((ws.map fun q=>ad (ns.getD q 0)).take i).map V.ref))) ⟨none,rfl,Same.new hD,upd_same⟩ ?_ ?_ ?_
    · rintro i σ H3 _ ⟨v,rfl,sm,h3⟩
      exact SqL.of (sm _ _ (s02 _ _ ha))
    · rintro i y σ H3 hy ⟨v,rfl,sm,h3⟩
      obtain ⟨q,hq,rfl⟩:=map_some hy
      dsimp only [gName,tYes]
      rw [if_pos rfl]
      obtain ⟨kq,yq,hyq,eyq⟩:=inK q (List.mem_of_getElem? hq)
      have hlt:=(List.getElem?_eq_some_iff.mp hyq).1
      have ta3:=(ta.same s02).same sm
      obtain ⟨dx,cl,na,sp,mt',o,f,b⟩:=id ta3
      have g3:=wD_get (.inl (sm _ _ e1)) kq
      rw [eyq] at g3
      refine ⟨_,rfl,_,rfl,p,dx,_,rfl,b.ins,fl_none _ _ _ _,_,rfl,p,M,ns,(q:Int),rfl,ta3,fun i' y' ei ey=>?_,fun z=>absurd (show (0:Int)≤q∧(q:Int) < ns.length by omega) z⟩
      have:i'=q:=by omega
      subst this
      rw [hyq] at ey
      cases ey
      refine ⟨lo,_,rfl,g3,_,h3,?_,_,rfl,Same.add sm hD,?_⟩
      · rw [List.length_map,List.length_take,List.length_map]; exact small1000 (by omega)
      · rw [upd_same,List.take_add_one,List.getElem?_map,hq,List.map_append]
        show _=some (HO.lst (_ ++ [V.ref (ad (ns.getD i' 0))]))
        rw [eyq]
    rintro σ H3 ⟨v,rfl,s3,h3⟩
    refine hnxC _ _ ?_
    try dsimp only [gName]
    rw [List.length_map,List.take_of_length_le (by rw [List.length_map]; exact Nat.le_refl _)] at h3
    have hF3:FrAt H3 D (crL (lowG g) ns ws):=by
      refine ⟨_,h3,by rw [List.length_map,crL_len],fun i q v hq hv=>?_⟩
      unfold crL at hv
      rw [List.getElem?_map] at hq hv
      cases e:ws[i]? with
      | none=>rw [e] at hv; cases hv
      | some z =>
        rw [e] at hq hv
        cases hq; cases hv
        exact s3 _ _ (e2 _ (inK z (List.mem_of_getElem? e)).1)
    have s03:=s02.trans s3
    have hcl:=crL_len (h:=lowG g) (ns:=ns) (ws:=ws)
    have hcb:∀ v∈crL (lowG g) ns ws,1≤v.1∧1≤v.2∧v.1≤W7∧v.2≤W7:=fun v hv=>by
      obtain ⟨q,hq,rfl⟩:=List.mem_map.mp hv
      obtain ⟨b1,b2,b3,b4⟩:=bd _ (inK q hq).1
      have l1:=low_val b1 b2
      have l2:=lowN_le (g (ns.getD q 0)).1 (g (ns.getD q 0)).2
      exact ⟨l1.p1,l1.p2,Nat.le_trans l2.1 b3,Nat.le_trans l2.2 b4⟩
    have hwz:wz (lowG g) M ns ws=(crL (lowG g) ns ws).zip ((letL M ws).map tuB):=rfl
    unfold wor at k
    rw [hwz] at k
    have hll:=letL_len M ws h0
    have hlr:=letL_lr M ws
    generalize crL (lowG g) ns ws=vs at *
    generalize letL M ws=ys at *
    obtain ⟨qs,f1,f2,f3⟩:=id hF3
    refine seq_cut fun nxC hnxC=>?_
    refine ⟨_,rfl,D,rfl,⟨_,SqL.of f1⟩,fun D2 hD2=>?_⟩
    refine loop_list (xs:=qs.map V.ref) (fun i σ H4=>∃ v v',σ=[v,v']∧Same H3 H4∧H4 D2=some (.lst (((vs.take i).flatMap fun v=>[v.1,v.2]).map nV))) ⟨none,none,rfl,Same.new hD2,upd_same⟩ ?_ ?_ ?_
    · rintro i σ H4 _ ⟨v,v',rfl,sm,h4⟩
      exact SqL.of (sm _ _ f1)
    · rintro i x σ H4 hx ⟨v,v',rfl,sm,h4⟩
      obtain ⟨q,hq,rfl⟩:=map_some hx
      have hi:i < vs.length:=by rw [← f2]; exact (List.getElem?_eq_some_iff.mp hq).1
      have hvi:=List.getElem?_eq_getElem hi
      have hq3:=f3 i q _ hq hvi
      have ht:(vs.take (i + 1)).flatMap (fun v=>[v.1,v.2])=(vs.take i).flatMap (fun v=>[v.1,v.2]) ++ [vs[i].1,vs[i].2]:=by
        rw [List.take_add_one,hvi,List.flatMap_append]; simp
      have hfl:((vs.take i).flatMap fun v=>[v.1,v.2]).length=2 * i:=by
        rw [flat_len,List.length_take]
        omega
      dsimp only [gName,tYes]
      rw [if_pos rfl]
      refine ⟨_,rfl,q,rfl,⟨_,SqT.of (sm _ _ hq3)⟩,?_⟩
      refine loop_tup (xs:=[V.int vs[i].1,V.int vs[i].2]) (fun j σ H5=>∃ v',σ=[some (.ref q),v']∧Same H3 H5∧H5 D2=some (.lst (((vs.take i).flatMap fun v=>[v.1,v.2]).map nV ++ ([V.int vs[i].1,V.int vs[i].2]).take j))) ⟨v',rfl,sm,by rw [h4,List.take_zero,List.append_nil]⟩ ?_ ?_ ?_
      · rintro j σ H5 _ ⟨v',rfl,sm,h5⟩
        exact SqT.of (sm _ _ hq3)
      · rintro j x σ H5 hx ⟨v',rfl,sm,h5⟩
        dsimp only [gName,tYes]
        rw [if_pos rfl]
        refine ⟨_,rfl,_,h5,?_,_,rfl,Same.add sm hD2,?_⟩
        · rw [List.length_append,List.length_map,hfl,List.length_take]
          exact small1000 (by have:([V.int vs[i].1,V.int vs[i].2]).length=2:=rfl; omega)
        · rw [upd_same,List.take_add_one,hx,← List.append_assoc]
          rfl
      · rintro σ H5 ⟨v',rfl,sm,h5⟩
        refine ⟨_,_,rfl,sm,?_⟩
        rw [h5,List.take_length,ht,List.map_append]
        rfl
    rintro σ H4 ⟨v,v',rfl,s4,h4⟩
    refine hnxC _ _ ?_
    try dsimp only [gName]
    rw [List.length_map,f2,List.take_length] at h4
    have hvl:vs.length=ys.length:=by omega
    have htr:=tr_pos (l:=vs.zip (ys.map tuB)) (fun q hq=>by
      have:=hcb _ (List.of_mem_zip hq).1
      exact ⟨this.1,this.2.1⟩)
    have hbt:tr (tab (vs.zip (ys.map tuB))) < WB:=by
      have hbnd:=fold_le (k:=W7) (vs.zip (ys.map tuB)) one 1 (fun q hq=>(hcb _ (List.of_mem_zip hq).1).2.2) (by decide)
      unfold tr
      exact Nat.lt_of_le_of_lt (Nat.add_le_add hbnd.1 hbnd.2.2.2) (W7_two (by rw [List.length_zip]; omega))
    refine ⟨_,rfl,_,rfl,D,vs,ys,rfl,hF3.same s4,hvl,by omega,fun v hv=>(hcb v hv).2.2,hlr,fun H5 s5=>?_⟩
    have hdt:=dt_zip vs (ys.map tuB) (by rw [List.length_map]; exact hvl)
    rw [hdt] at k
    generalize tr (tab (vs.zip (ys.map tuB)))=tN at *
    refine ⟨_,_,rfl,rfl,⟨by decide,?_⟩,?_⟩
    · unfold WB at hbt
      have:=bits_le (j:=(tN:Int)) (k:=300000) (by rw [Int.natAbs_natCast]; exact hbt) (by decide)
      clear hbt
      show (_:Int) * 2≤2 ^ 27
      omega
    refine ⟨_,rfl,D2,tN * tN,_,?_,s5 _ _ h4,Nat.mul_pos htr htr,?_,?_,fun r hr5=>?_⟩
    · show [V.int ((tN:Int) ^ 2),V.ref D2]=[V.int ((tN * tN:Nat):Int),V.ref D2]
      rw [Int.natCast_mul,Int.pow_succ,Int.pow_succ,Int.pow_zero,Int.one_mul]
    · intro f hf
      obtain ⟨v,hv,hf⟩:=List.mem_flatMap.mp hf
      obtain ⟨c1,c2,c3,c4⟩:=hcb v hv
      simp only [List.mem_cons,List.not_mem_nil,or_false] at hf
      rcases hf with rfl | rfl
      · exact ⟨c1,c3⟩
      · exact ⟨c2,c4⟩
    · rw [flat_len]; omega
    · exact k r _ ((s03.trans s4).trans (s5.trans (Same.new hr5))) upd_same
end
end KT
set_option maxHeartbeats 4000000
namespace KT
open PySem L2 Mx
noncomputable def sp_l_worth:Sp:=fun us H Q _=>∃ (m r d a:Addr) (M:List (Option Nat)) (ns ks:List Int) (g:Int→Nat × Nat) (ws:List Nat),us=[.ref m,.ref r,.ref d,.ref a]∧H m=some (.lst (M.map mV))∧RowsAt H r ns∧TD M ns∧WAt H d ks g∧SwK M ns ks∧(∀ x∈ks,1≤(g x).1∧1≤(g x).2∧(g x).1≤100∧(g x).2≤100)∧H a=some (.lst (ws.map nV))∧ws.length≤100∧Pl M ws ∧
 ∀ p,H p=none→Q (.ref p) (upd H p (tp (wor g M ns ws)))
section
variable {P:Program} {w:World} {K:PySem.W.Frag} {mg:Str→Option Value} {base:Heap} {t:Adr}
theorem sc_l_worth:FnScope ["_law_mates","_law_rows_here","_law_worths_here","_law_word","_law_a","_law_b","_law_c","_law_d","_law_k","_law_top","_law_bottom","_law_side"] ["_law_mates","_law_rows_here","_law_worths_here","_law_word"] (defScope s_l_worth):=⟨rfl,rfl,rfl,by decide +kernel,rfl,by decide +kernel,by decide +kernel⟩
theorem ok_l_worth (T:Txt w K mg t):FnOk P w K mg base (CXr P w) 2 t.f_l_worth t.d_l_worth ["_law_mates","_law_rows_here","_law_worths_here","_law_word"] sp_l_worth:=by
 refine T.p_l_worth.F.okR sc_l_worth (fun vs H Q E h=>?_) (fun cdv A outer s H vs Q E hr h=>?_)
 ·obtain ⟨m,r,d,a,M,ns,ks,g,ws,rfl,_⟩:=h
  rfl
 ·obtain ⟨m,r,d,a,M,ns,ks,g,ws,rfl,hm,hr1,td,wa,sw,bd,ha,hwl,hP,k⟩:=h
  have hu:=hu_of hr
  refine ⟨_,(pss_cons (ps_set (i:=4) sc_l_worth.nd rfl (Or.inl rfl) pe_int)
   (pss_cons (ps_set (i:=5) sc_l_worth.nd rfl (Or.inl rfl) pe_int)
   (pss_cons (ps_set (i:=6) sc_l_worth.nd rfl (Or.inl rfl) pe_int)
   (pss_cons (ps_set (i:=7) sc_l_worth.nd rfl (Or.inl rfl) pe_int)
   (pss_cons (ps_for PassesOwn.never rfl (pi_range1 rfl T.n_range (pa_cons (pe_callB call_len_seq (by rfl) T.n_len PySem.boot_len (pa_cons (pv 3) pa_nil)) pa_nil)) (pg_name (i:=8) sc_l_worth.nd rfl (Or.inl rfl)) (pss_cons (ps_asg (pe_dget hu (pv 2) (pe_ix ix_tup (pe_ix ix_list (pv 1) (pe_op op_fdiv (pe_ix ix_list (pv 3) (pv 8) (fun _ _=>rfl)) pe_int) (fun _ _=>rfl)) (pe_op op_mod (pe_ix ix_list (pv 3) (pv 8) (fun _ _=>rfl)) pe_int) (fun _ _=>rfl)) (fun _ _=>rfl)) (pg_tup rfl (pgs_cons (pg_name (i:=9) sc_l_worth.nd rfl (Or.inl rfl)) (pgs_cons (pg_name (i:=10) sc_l_worth.nd rfl (Or.inl rfl)) pgs_nil))))
   (pss_cons (ps_set (i:=4) sc_l_worth.nd rfl (Or.inl rfl) (pe_op op_mulB (pv 4) (pv 9)))
   (pss_cons (ps_set (i:=6) sc_l_worth.nd rfl (Or.inl rfl) (pe_op op_mulB (pv 6) (pv 9)))
   (pss_cons (ps_set (i:=5) sc_l_worth.nd rfl (Or.inl rfl) (pe_op op_mulB (pv 5) (pv 10)))
   (pss_cons (ps_set (i:=7) sc_l_worth.nd rfl (Or.inl rfl) (pe_op op_mulB (pv 7) (pv 10)))
   (pss_cons (ps_set (i:=11) sc_l_worth.nd rfl (Or.inl rfl) (pe_ix ix_list (pv 0) (pe_ix ix_list (pv 3) (pv 8) (fun _ _=>rfl)) (fun _ _=>rfl)))
   (pss_one (ps_if (pt_cmpR op_eq (pe_ix ix_list (pv 3) (pe_op op_mod (pe_op op_add (pv 8) pe_int) (pe_callB call_len_seq (by rfl) T.n_len PySem.boot_len (pa_cons (pv 3) pa_nil))) (fun _ _=>rfl)) (pe_op op_add (pe_op op_sub (pv 11) (pe_op op_mod (pv 11) pe_int)) (pe_op op_mod (pe_op op_add (pv 11) pe_int) pe_int)) (nomark _)) (pss_cons (ps_set (i:=4) sc_l_worth.nd rfl (Or.inl rfl) (pe_op op_add (pv 4) (pv 5)))
   (pss_one (ps_set (i:=6) sc_l_worth.nd rfl (Or.inl rfl) (pe_op op_add (pv 6) (pv 7))))) (pss_cons (ps_set (i:=5) sc_l_worth.nd rfl (Or.inl rfl) (pe_op op_add (pv 4) (pv 5)))
   (pss_one (ps_set (i:=7) sc_l_worth.nd rfl (Or.inl rfl) (pe_op op_add (pv 6) (pv 7))))))))))))))
   (pss_one (ps_ret (pe_call (ok_l_low T) (hr.mono (by decide)) rfl T.p_l_low.g T.p_l_low.F.kp T.p_l_low.b .nil passR (pa_cons (pe_op op_mulB (pe_op op_add (pv 4) (pv 7)) (pe_op op_add (pv 4) (pv 7))) (pa_cons (pe_op op_sub (pe_op op_mulB (pv 4) (pv 7)) (pe_op op_mulB (pv 5) (pv 6))) pa_nil)))))))))),?_⟩
  have hMl:=td.len
  have h0:0 < ws.length:=List.length_pos_iff.mpr hP.ne
  have inK:∀ q∈ws,ns.getD q 0∈ks∧∃ y,ns[q]?=some y∧ns.getD q 0=y:=fun q hq=>by
   obtain ⟨m,hm⟩:=hP.has q hq
   have hlt:q < ns.length:=by rw [hMl]; exact (List.getElem?_eq_some_iff.mp hm).1
   have e:=List.getElem?_eq_getElem hlt
   have e2:ns.getD q 0=ns[q]:=by rw [List.getD_eq_getElem?_getD,e]; rfl
   exact ⟨by rw [e2]; exact (sw.mem _).mpr ⟨q,m,hm,e⟩,_,e,e2⟩
  have hb:∀ q∈wz g M ns ws,q.1.1≤100∧q.1.2≤100:=wz_le fun p hp=>(bd _ (inK p hp).1).2.2
  have hp1:∀ q∈wz g M ns ws,1≤q.1.1∧1≤q.1.2:=wz_pos fun p hp=>⟨(bd _ (inK p hp).1).1,(bd _ (inK p hp).1).2.1⟩
  have hzl:=wz_len (h:=g) (M:=M) (ns:=ns) h0
  have cap:∀ i,((wz g M ns ws).take i).length≤100:=fun i=>by rw [List.length_take]; omega
  have bnd:∀ i,(((wz g M ns ws).take i).foldl stp one).a < 2 ^ 1000∧(((wz g M ns ws).take i).foldl stp one).b < 2 ^ 1000∧(((wz g M ns ws).take i).foldl stp one).c < 2 ^ 1000∧(((wz g M ns ws).take i).foldl stp one).d < 2 ^ 1000:=fun i=>by
   have hbnd:=fold_le (k:=100) ((wz g M ns ws).take i) one 1 (fun q hq=>hb q (List.mem_of_mem_take hq)) (by decide)
   have hb2:1 * (2 * 100) ^ ((wz g M ns ws).take i).length < 2 ^ 1000:=by
    rw [Nat.one_mul]
    exact Nat.lt_of_le_of_lt (Nat.pow_le_pow_right (by decide) (cap i)) (by decide +kernel)
   exact ⟨Nat.lt_of_le_of_lt hbnd.1 hb2,Nat.lt_of_le_of_lt hbnd.2.1 hb2,Nat.lt_of_le_of_lt hbnd.2.2.1 hb2,Nat.lt_of_le_of_lt hbnd.2.2.2 hb2⟩
  refine seq_cut fun nxC hnxC=>?_
  refine hnxC _ _ ?_
  refine seq_cut fun nxC hnxC=>?_
  refine hnxC _ _ ?_
  refine seq_cut fun nxC hnxC=>?_
  refine hnxC _ _ ?_
  refine seq_cut fun nxC hnxC=>?_
  refine hnxC _ _ ?_
  try dsimp only [gName]
  show tSeq (tFor _ _ _) _ _ _ _
  refine seq_post (fun σ H'=>H'=H∧∃ v8 v9 v10 v11,σ=[some (.ref m),some (.ref r),some (.ref d),some (.ref a),some (.int (tab (wz g M ns ws)).a),some (.int (tab (wz g M ns ws)).b),some (.int (tab (wz g M ns ws)).c),some (.int (tab (wz g M ns ws)).d),v8,v9,v10,v11]) (fun nx hnx=>?_) ?_
  ·refine ⟨_,rfl,a,_,rfl,.inl (SqL.of ha),_,rfl,by omega,by rw [List.length_map]; omega,?_⟩
   have eL:(((ws.map nV).length:Nat):Int).toNat=ws.length:=by simp
   rw [eL]
   refine for_range (n:=ws.length) (fun i σ H'=>H'=H∧∃ v8 v9 v10 v11,σ=[some (.ref m),some (.ref r),some (.ref d),some (.ref a),some (.int (((wz g M ns ws).take i).foldl stp one).a),some (.int (((wz g M ns ws).take i).foldl stp one).b),some (.int (((wz g M ns ws).take i).foldl stp one).c),some (.int (((wz g M ns ws).take i).foldl stp one).d),v8,v9,v10,v11]) ⟨rfl,_,_,_,_,rfl⟩ ?_ ?_
   ·rintro i σ H1 hi ⟨rfl,v8,v9,v10,v11,rfl⟩
    dsimp only [gName]
    rw [Int.zero_add]
    have hq:=List.getElem?_eq_getElem hi
    have hi2:(i + 1) % ws.length < ws.length:=Nat.mod_lt _ h0
    have hn:=List.getElem?_eq_getElem hi2
    generalize ws[i]=q at hq
    generalize ws[(i + 1) % ws.length]=nq at hn
    obtain ⟨kq,y,hy,ey⟩:=inK q (List.mem_of_getElem? hq)
    obtain ⟨mt,hmt⟩:=hP.has q (List.mem_of_getElem? hq)
    obtain ⟨us,qr,w1,w2,w3',w4⟩:=row_at hr1 hy
    obtain ⟨ad,e1,e2⟩:=id wa
    have g3:=wD_get (.inl e1) kq
    have tq:=e2 _ kq
    have bq:=bd _ kq
    rw [ey] at g3 tq bq
    have hat:atI (ws.map nV) (((i:Int) + 1) % (((ws.map nV).length:Nat):Int))=some (nV nq):=by
     rw [List.length_map,show ((i:Int) + 1) % (ws.length:Int)=(((i + 1) % ws.length:Nat):Int) by rw [Int.natCast_emod]; rfl]
     exact map_at hn
    have hzi:(wz g M ns ws)[i]?=some (g y,tuB (letS M q nq)):=by
     unfold wz
     rw [List.getElem?_zip_eq_some]
     refine ⟨?_,tuL_get hq hn⟩
     unfold crL
     rw [List.getElem?_map,hq]
     show some (g (ns.getD q 0))=some (g y)
     rw [ey]
    have hst:((wz g M ns ws).take (i + 1)).foldl stp one=stp (((wz g M ns ws).take i).foldl stp one) (g y,tuB (letS M q nq)):=by
     rw [List.take_add_one,hzi,List.foldl_append]; rfl
    rw [hst]
    have bi:=bnd i
    generalize ((wz g M ns ws).take i).foldl stp one=X at bi ⊢
    obtain ⟨b1,b2,b3,b4⟩:=bi
    have up:∀ n:Nat,n < 2 ^ 1000→n < 2 ^ 3000:=fun n hn=>Nat.lt_of_lt_of_le hn (Nat.pow_le_pow_right (by decide) (by decide))
    have m5:(g y).1 < 2 ^ 3000:=Nat.lt_of_le_of_lt bq.2.2.1 (by decide +kernel)
    have m6:(g y).2 < 2 ^ 3000:=Nat.lt_of_le_of_lt bq.2.2.2 (by decide +kernel)
    have m1:=up _ b1
    have m2:=up _ b2
    have m3:=up _ b3
    have m4:=up _ b4
    clear bnd cap hb hp1 hst hzi
    refine seq_cut fun nxC hnxC=>?_
    refine ⟨_,rfl,_,rfl,_,rfl,_,rfl,a,_,_,_,rfl,rfl,SqL.of ha,map_at hq,_,_,rfl,rfl,⟨by decide,by decide⟩,r,_,_,_,rfl,rfl,SqL.of w1,(by rw [div3]; exact map_at w2),_,rfl,_,rfl,a,_,_,_,rfl,rfl,SqL.of ha,map_at hq,_,_,rfl,rfl,(by show (0:Int) < 3; decide),qr,_,_,_,rfl,rfl,SqT.of w3',(by rw [mod3]; exact atI_nat w4),d,_,rfl,g3,ad y,_,rfl,SqT.of tq,rfl,_,_,rfl,_,_,rfl,rfl,?_⟩
    refine hnxC _ _ ?_
    try dsimp only [gName]
    refine seq_cut fun nxC hnxC=>?_
    refine ⟨_,rfl,_,rfl,_,_,rfl,rfl,mulS m1 m5,?_⟩
    refine hnxC _ _ ?_
    refine seq_cut fun nxC hnxC=>?_
    refine ⟨_,rfl,_,rfl,_,_,rfl,rfl,mulS m3 m5,?_⟩
    refine hnxC _ _ ?_
    refine seq_cut fun nxC hnxC=>?_
    refine ⟨_,rfl,_,rfl,_,_,rfl,rfl,mulS m2 m6,?_⟩
    refine hnxC _ _ ?_
    refine seq_cut fun nxC hnxC=>?_
    refine ⟨_,rfl,_,rfl,_,_,rfl,rfl,mulS m4 m6,?_⟩
    refine hnxC _ _ ?_
    refine seq_cut fun nxC hnxC=>?_
    refine ⟨_,rfl,_,rfl,_,rfl,a,_,_,_,rfl,rfl,SqL.of ha,map_at hq,m,_,_,_,rfl,rfl,SqL.of hm,map_at hmt,?_⟩
    refine hnxC _ _ ?_
    try dsimp only [gName]
    refine ⟨_,rfl,_,rfl,_,_,rfl,rfl,_,rfl,a,_,rfl,.inl (SqL.of ha),_,_,rfl,rfl,(by rw [List.length_map]; omega),a,_,_,_,rfl,rfl,SqL.of ha,hat,_,rfl,_,rfl,_,_,rfl,rfl,(by show (0:Int) < 3; decide),_,_,rfl,rfl,_,rfl,_,_,rfl,rfl,_,_,rfl,rfl,(by show (0:Int) < 3; decide),_,_,rfl,rfl,rfl,_,rfl,?_⟩
    have e:letS M q nq=if nq=aftN mt then Str.ofString "R" else Str.ofString "L":=by unfold letS; rw [List.getD_eq_getElem?_getD,hmt]; rfl
    show if decide (V.int (nq:Int)=V.int ((mt:Int) - (mt:Int) % 3 + ((mt:Int) + 1) % 3))=true then _ else _
    rw [after_sideN,dN,e]
    by_cases z:nq=aftN mt
    ·rw [decide_eq_true z,if_pos z]
     refine iteT ?_
     refine seq_cut fun nxC hnxC=>?_
     refine ⟨_,rfl,_,rfl,_,_,rfl,rfl,?_⟩
     refine hnxC _ _ ?_
     refine ⟨_,rfl,_,rfl,_,_,rfl,rfl,?_⟩
     exact ⟨rfl,_,_,_,_,rfl⟩
    ·rw [decide_eq_false z,if_neg z]
     refine iteF ?_
     refine seq_cut fun nxC hnxC=>?_
     refine ⟨_,rfl,_,rfl,_,_,rfl,rfl,?_⟩
     refine hnxC _ _ ?_
     refine ⟨_,rfl,_,rfl,_,_,rfl,rfl,?_⟩
     refine ⟨rfl,some (.int i),some (.int (g y).1),some (.int (g y).2),some (.int mt),?_⟩
     have f1:(((X.b * (g y).2 + X.a * (g y).1:Nat)):Int)=(X.a:Int) * (g y).1 + X.b * (g y).2:=by rw [Int.natCast_add,Int.natCast_mul,Int.natCast_mul,Int.add_comm]
     have f2:(((X.d * (g y).2 + X.c * (g y).1:Nat)):Int)=(X.c:Int) * (g y).1 + X.d * (g y).2:=by rw [Int.natCast_add,Int.natCast_mul,Int.natCast_mul,Int.add_comm]
     have hT:tuB (Str.ofString "L")=true:=by decide
     rw [hT]
     show _=[_,_,_,_,_,some (V.int ((X.b * (g y).2 + X.a * (g y).1:Nat):Int)),_,some (V.int ((X.d * (g y).2 + X.c * (g y).1:Nat):Int)),_,_,_,_]
     rw [f1,f2]
     rfl
   ·rintro σ H1 ⟨rfl,v8,v9,v10,v11,rfl⟩
    rw [← hzl,List.take_length]
    exact hnx _ _ ⟨rfl,_,_,_,_,rfl⟩
  ·rintro σ H1 ⟨rfl,v8,v9,v10,v11,rfl⟩
   have bi:=bnd ws.length
   rw [← hzl,List.take_length] at bi
   have dt0:=tab_det (wz g M ns ws)
   have tp0:=tr_pos hp1
   have dp0:=dt_pos hp1
   unfold wor at k
   unfold tr at k tp0
   have bi:(tab (wz g M ns ws)).a < 2 ^ 1000∧(tab (wz g M ns ws)).b < 2 ^ 1000∧(tab (wz g M ns ws)).c < 2 ^ 1000∧(tab (wz g M ns ws)).d < 2 ^ 1000:=bi
   clear bnd cap hb hp1 hzl
   generalize tab (wz g M ns ws)=X at *
   generalize dt (wz g M ns ws)=D at *
   obtain ⟨b1,b2,b3,b4⟩:=bi
   have up:∀ n:Nat,n < 2 ^ 1000→n < 2 ^ 3000:=fun n hn=>Nat.lt_of_lt_of_le hn (Nat.pow_le_pow_right (by decide) (by decide))
   have s1:X.a + X.d < 2 ^ 1001:=by rw [Nat.pow_succ]; omega
   have ok1:IntMulOk ((X.a:Int) + X.d) ((X.a:Int) + X.d):=by
    have:=mulS (m:=X.a + X.d) (n:=X.a + X.d) (Nat.lt_of_lt_of_le s1 (Nat.pow_le_pow_right (by decide) (by decide))) (Nat.lt_of_lt_of_le s1 (Nat.pow_le_pow_right (by decide) (by decide)))
    rw [Int.natCast_add] at this
    exact this
   refine ⟨_,rfl,_,rfl,_,_,rfl,rfl,_,rfl,_,rfl,_,_,rfl,rfl,_,_,rfl,rfl,ok1,_,rfl,_,rfl,_,_,rfl,rfl,mulS (up _ b1) (up _ b4),_,rfl,_,rfl,_,_,rfl,rfl,mulS (up _ b2) (up _ b3),_,_,rfl,rfl,?_⟩
   refine ⟨(X.a + X.d) * (X.a + X.d),D,?_,Nat.mul_pos tp0 tp0,dp0,okD_of (Nat.mul_pos tp0 tp0) ?_,k⟩
   ·show [V.int (((X.a:Int) + X.d) * ((X.a:Int) + X.d)),V.int ((X.a:Int) * X.d - X.b * X.c)]=_
    rw [Int.natCast_mul,Int.natCast_add,show (X.a:Int) * X.d - X.b * X.c=D by
     rw [← Int.natCast_mul,← Int.natCast_mul,dt0,Int.natCast_add]
     omega]
   ·calc (X.a + X.d) * (X.a + X.d) < 2 ^ 1001 * 2 ^ 1001:=Nat.mul_lt_mul'' s1 s1
     _=2 ^ 2002:=by rw [← Nat.pow_add]
     _≤2 ^ 8900:=Nat.pow_le_pow_right (by decide) (by decide)
end
end KT
set_option maxHeartbeats 4000000
namespace KT
open PySem L2 Mx
theorem pick_at {zs:List Nat} {pick:Int} (h:0 < zs.length):∃ q,atI (zs.map nV) (pick % (((zs.map nV).length:Nat):Int))=some (nV q)∧q∈zs:=by
 rw [List.length_map]
 have k0:=Int.emod_nonneg pick (show (zs.length:Int)≠0 by omega)
 have k1:=Int.emod_lt_of_pos pick (show (0:Int) < zs.length by omega)
 obtain ⟨kk,hkk⟩:∃ kk:Nat,pick % (zs.length:Int)=kk:=⟨_,(Int.toNat_of_nonneg k0).symm⟩
 have hkl:kk < zs.length:=by omega
 rw [hkk]
 exact ⟨_,map_at (List.getElem?_eq_getElem hkl),List.getElem_mem hkl⟩
theorem wor_congr {h h':Int→Nat × Nat} {M:List (Option Nat)} {ns:List Int} {ws:List Nat} (e:∀ p∈ws,h (ns.getD p 0)=h' (ns.getD p 0)):wor h M ns ws=wor h' M ns ws:=by
 have:crL h ns ws=crL h' ns ws:=by unfold crL; exact List.map_congr_left e
 unfold wor wz
 rw [this]
theorem pW_len {M:List (Option Nat)} {left:Bool} {a b:Nat} {ws:List Nat}:(pW M left a b ws).length≤3 * ws.length:=by
 unfold pW
 refine Nat.le_trans (pullL_len M left a b _) ?_
 rw [pairs_len]
 exact Nat.mul_le_mul_left 3 (List.length_filter_le _ _)
theorem in_ks {M:List (Option Nat)} {ns ks:List Int} {ws:List Nat} (td:TD M ns) (sw:SwK M ns ks) (hP:Pl M ws):∀ p∈ws,ns.getD p 0∈ks:=fun p hp=>by
 obtain ⟨m,hm⟩:=hP.has p hp
 have e:=nm_at td (List.getElem?_eq_some_iff.mp hm).1
 exact (sw.mem _).mpr ⟨p,m,hm,e⟩
theorem Bd.w7 {B:Nat} {v:Nat × Nat} (h:Bd B v) (hB:B≤700):1≤v.1∧1≤v.2∧v.1≤W7∧v.2≤W7:=by
 obtain ⟨h1,h2,h3,h4⟩:=h.up hB
 refine ⟨h1,h2,?_,?_⟩
 ·unfold W7; exact Nat.le_of_lt h3
 ·unfold W7; exact Nat.le_of_lt h4
noncomputable def LoopW (C a du:Addr) (D:Nat × Nat) (N:Nat) (ks:List Int) (H:Hp) (k:Nat) (σ:St) (H':Hp):Prop:=∃ (m r x wd d:Addr) (M:List (Option Nat)) (ns:List Int) (g:Int→Nat × Nat) (ws:List Nat) (v7 v8 v9 v10 v11 v12:Option V),σ=[some (.ref a),some (.ref m),some (.ref r),some (.ref x),some (.ref wd),some (.ref d),some (.ref du),v7,v8,v9,v10,v11,v12]∧Same H H'∧H' m=some (.lst (M.map mV))∧RowsAt H' r ns∧TentAt C H' x M ns∧TD M ns∧M.length=N∧WAt H' d ks g∧SwK M ns ks∧(∀ y∈ks,Bd (Bq k) (g y))∧H' wd=some (.lst (ws.map nV))∧Pl M ws∧wor (lowG g) M ns ws=D
section
variable {P:Program} {w:World} {K:PySem.W.Frag} {mg:Str→Option Value} {base:Heap} {t:Adr}
theorem sc_law:FnScope ["_law_script","_law_mates","_law_rows_here","_law_tent_here","_law_word","_law_worths_here","_law_due","_law_at","_law_spots","_law_pick","_law_place","_law_seam_here","_law_way_here"] ["_law_script"] (defScope s_law):=⟨rfl,rfl,rfl,by decide +kernel,rfl,by decide +kernel,by decide +kernel⟩
theorem ok_law (T:Txt w K mg t):FnOk P w K mg base (CXr P w) 9 t.f_law t.d_law ["_law_script"] (sp_law K):=by
 refine T.p_law.F.okR sc_law (fun vs H Q E h=>?_) (fun cdv A outer s H vs Q E hr h=>?_)
 ·obtain ⟨a,ns,rfl,_⟩:=h
  rfl
 ·obtain ⟨a,sc,rfl,hS,hl,k⟩:=h
  have hu:=hu_of hr
  refine ⟨_,(pss_cons (ps_asg (pe_call (ok_l_tent T) (hr.mono (by decide)) rfl T.p_l_tent.g T.p_l_tent.F.kp T.p_l_tent.b .nil passR (pa_cons (pv 0) pa_nil)) (pg_tup rfl (pgs_cons (pg_name (i:=1) sc_law.nd rfl (Or.inl rfl)) (pgs_cons (pg_name (i:=2) sc_law.nd rfl (Or.inl rfl)) pgs_nil))))
   (pss_cons (ps_set (i:=3) sc_law.nd rfl (Or.inl rfl) (pe_make T.mk_Tent (ok_Tent_init T) (hr.mono (by decide)) rfl T.gC_Tent T.p_Tent_init.b .nil passR (pa_cons (pe_callTy call_list_of (by rfl) T.n_list PySem.Pv.boot_list (pa_cons (pv 2) pa_nil)) pa_nil)))
   (pss_cons (ps_set (i:=4) sc_law.nd rfl (Or.inl rfl) (pe_call (ok_l_thread T) (hr.mono (by decide)) rfl T.p_l_thread.g T.p_l_thread.F.kp T.p_l_thread.b .nil passR (pa_cons (pv 0) (pa_cons pe_int (pa_cons (pv 1) pa_nil)))))
   (pss_cons (ps_if (PW.pt (pw_or (pt_cmpR op_eq (pe_callB call_len_seq (by rfl) T.n_len PySem.boot_len (pa_cons (pv 4) pa_nil)) pe_int (nomark _)) (pw_or1 (pt_cmpR op_gt (pe_callB call_len_seq (by rfl) T.n_len PySem.boot_len (pa_cons (pv 4) pa_nil)) pe_int (nomark _))))) (pss_one (ps_ret (pe_cmpR op_eq (pe_meth0 (pv 3) T.cl_Tent T.p_Tent_size.m (ok_Tent_size T) (hr.mono (by decide)) T.p_Tent_size.b .nil passR) (pe_callB call_len_seq (by rfl) T.n_len PySem.boot_len (pa_cons (pv 2) pa_nil)) (nomark _)))) pss_nil)
   (pss_cons (ps_set (i:=5) sc_law.nd rfl (Or.inl rfl) (pe_call (ok_l_worths T) (hr.mono (by decide)) rfl T.p_l_worths.g T.p_l_worths.F.kp T.p_l_worths.b .nil passR (pa_cons (pv 1) (pa_cons (pv 2) (pa_cons (pe_call (ok_l_numbers T) (hr.mono (by decide)) rfl T.p_l_numbers.g T.p_l_numbers.F.kp T.p_l_numbers.b .nil passR (pa_cons (pe_call (ok_l_cell T) (hr.mono (by decide)) rfl T.p_l_cell.g T.p_l_cell.F.kp T.p_l_cell.b .nil passR (pa_cons (pv 0) (pa_cons pe_int pa_nil))) (pa_cons pe_int pa_nil))) pa_nil)))))
   (pss_cons (ps_set (i:=6) sc_law.nd rfl (Or.inl rfl) (pe_call (ok_l_worth T) (hr.mono (by decide)) rfl T.p_l_worth.g T.p_l_worth.F.kp T.p_l_worth.b .nil passR (pa_cons (pv 1) (pa_cons (pv 2) (pa_cons (pv 5) (pa_cons (pv 4) pa_nil))))))
   (pss_cons (ps_for PassesOwn.never rfl (pi_range2 rfl T.n_range (pa_cons pe_int (pa_cons (pe_callB (call_min2 rfl) (by rfl) T.n_min PyProof.Rows.boot_min (pa_cons pe_int (pa_cons (pe_callB (call_max2 rfl) (by rfl) T.n_max PyProof.Rows.boot_max (pa_cons pe_int (pa_cons (pe_callB call_len_seq (by rfl) T.n_len PySem.boot_len (pa_cons (pv 0) pa_nil)) pa_nil))) pa_nil))) pa_nil))) (pg_name (i:=7) sc_law.nd rfl (Or.inl rfl)) (pss_cons (ps_set (i:=8) sc_law.nd rfl (Or.inl rfl) (pe_call (ok_l_free T) (hr.mono (by decide)) rfl T.p_l_free.g T.p_l_free.F.kp T.p_l_free.b .nil passR (pa_cons (pv 1) pa_nil)))
   (pss_cons (ps_if (PW.pt (pw_or (pt_cmpR op_eq (pe_callB call_len_seq (by rfl) T.n_len PySem.boot_len (pa_cons (pv 8) pa_nil)) pe_int (nomark _)) (pw_or1 (pt_cmpR op_gt (pe_callB call_len_seq (by rfl) T.n_len PySem.boot_len (pa_cons (pv 4) pa_nil)) pe_int (nomark _))))) (pss_one ps_break) pss_nil)
   (pss_cons (ps_set (i:=9) sc_law.nd rfl (Or.inl rfl) (pe_call (ok_l_cell T) (hr.mono (by decide)) rfl T.p_l_cell.g T.p_l_cell.F.kp T.p_l_cell.b .nil passR (pa_cons (pv 0) (pa_cons (pv 7) pa_nil))))
   (pss_cons (ps_set (i:=10) sc_law.nd rfl (Or.inl rfl) (pe_ix ix_list (pv 8) (pe_op op_mod (pe_op op_fdiv (pv 9) pe_int) (pe_callB call_len_seq (by rfl) T.n_len PySem.boot_len (pa_cons (pv 8) pa_nil))) (fun _ _=>rfl)))
   (pss_cons (ps_set (i:=11) sc_law.nd rfl (Or.inl rfl) (pe_call (ok_l_seam T) (hr.mono (by decide)) rfl T.p_l_seam.g T.p_l_seam.F.kp T.p_l_seam.b .nil passR (pa_cons (pv 2) (pa_cons (pv 10) pa_nil))))
   (pss_cons (ps_set (i:=12) sc_law.nd rfl (Or.inl rfl) (pe_call (ok_l_way T) (hr.mono (by decide)) rfl T.p_l_way.g T.p_l_way.F.kp T.p_l_way.b .nil passR (pa_cons (pe_cmpR op_eq (pe_op op_mod (pv 9) pe_int) pe_int (nomark _)) pa_nil)))
   (pss_cons (ps_set (i:=5) sc_law.nd rfl (Or.inl rfl) (pe_call (ok_stretched T) (hr.mono (by decide)) rfl T.p_stretched.g T.p_stretched.F.kp T.p_stretched.b .nil passR (pa_cons (pv 3) (pa_cons (pv 5) (pa_cons (pv 11) pa_nil)))))
   (pss_cons (ps_set (i:=4) sc_law.nd rfl (Or.inl rfl) (pe_call (ok_pulled T) (hr.mono (by decide)) rfl T.p_pulled.g T.p_pulled.F.kp T.p_pulled.b .nil passR (pa_cons (pv 3) (pa_cons (pv 11) (pa_cons (pv 12) (pa_cons (pv 4) pa_nil))))))
   (pss_cons (ps_set (i:=3) sc_law.nd rfl (Or.inl rfl) (pe_call (ok_exchanged T) (hr.mono (by decide)) rfl T.p_exchanged.g T.p_exchanged.F.kp T.p_exchanged.b .nil passR (pa_cons (pv 3) (pa_cons (pv 11) (pa_cons (pv 12) pa_nil)))))
   (pss_cons (ps_asg (pe_call (ok_l_shift T) (hr.mono (by decide)) rfl T.p_l_shift.g T.p_l_shift.F.kp T.p_l_shift.b .nil passR (pa_cons (pv 1) (pa_cons (pv 2) (pa_cons (pe_call (ok_l_goals T) (hr.mono (by decide)) rfl T.p_l_goals.g T.p_l_goals.F.kp T.p_l_goals.b .nil passR (pa_cons (pv 1) (pa_cons (pv 10) (pa_cons (pe_cmpR op_eq (pe_op op_mod (pv 9) pe_int) pe_int (nomark _)) pa_nil)))) pa_nil)))) (pg_tup rfl (pgs_cons (pg_name (i:=1) sc_law.nd rfl (Or.inl rfl)) (pgs_cons (pg_name (i:=2) sc_law.nd rfl (Or.inl rfl)) pgs_nil))))
   (pss_one (ps_if (pt_not (pt_val (pe_call (ok_l_pair T) (hr.mono (by decide)) rfl T.p_l_pair.g T.p_l_pair.F.kp T.p_l_pair.b .nil passR (pa_cons (pe_call (ok_worth T) (hr.mono (by decide)) rfl T.p_worth.g T.p_worth.F.kp T.p_worth.b .nil passR (pa_cons (pv 3) (pa_cons (pv 5) (pa_cons (pv 4) pa_nil)))) (pa_cons (pv 6) pa_nil))))) (pss_one (ps_ret pe_bl)) pss_nil)))))))))))))
   (pss_one (ps_ret pe_bl))))))))),?_⟩
  refine seq_cut fun nxC hnxC=>?_
  refine ⟨_,rfl,a,sc,rfl,hS,hl,fun p m r M ns H1 sm1 hp hm hr1 td h42 hm0 hr0=>?_⟩
  refine ⟨p,_,rfl,SqT.of hp,rfl,_,_,rfl,_,_,rfl,rfl,?_⟩
  refine hnxC _ _ ?_
  obtain ⟨ts,g1,g2,g3⟩:=id hr1
  refine seq_cut fun nxC hnxC=>?_
  refine ⟨_,rfl,r,_,rfl,.inl (SqL.of g1),fun l hl1=>?_⟩
  intro x dx hx hdx hne
  obtain ⟨rl2,s2⟩:=tent_new (C:=t.C_Tent) g1 g2 g3 hl1 hx hdx
  refine ⟨x,l,dx,M,ns,rfl,upd_same,rl2,td,by rw [td.len]; omega,fun H3 old ta=>⟨rfl,?_⟩⟩
  have s3:Same H1 H3:=fun b u e=>old b u (ne_of_none ((Same.new hl1) b u e) hx) (s2 b u ((Same.new hl1) b u e))
  refine hnxC _ _ ?_
  have hr3:=hr1.same s3
  have hm3:=s3 _ _ hm
  have sH3:=sm1.trans s3
  have hMl:=td.len
  obtain ⟨n,n1,n40,hn⟩:=td.n
  clear old rl2 s2 g1 g2 g3 hr1 hm0 hr0 hp hm s3 sm1 hx hdx hne hl1
  try dsimp only [gName]
  refine seq_cut fun nxC hnxC=>?_
  refine ⟨_,rfl,_,rfl,a,m,sc,3,M,rfl,sH3.seq hS,hl,by decide,by decide,hm3,h42,⟨_,hn⟩,td.inv,fun wd ws H4 s4 hwd h4 hw60 hpl=>?_⟩
  refine hnxC _ _ ?_
  have ta4:=ta.same s4
  have hr4:=hr3.same s4
  have hm4:=s4 _ _ hm3
  have sH4:=sH3.trans s4
  clear ta hr3 hm3 s4 hwd sH3
  have hret:∃ ts4:List Addr,H4 r=some (.lst (ts4.map V.ref))∧ts4.length=n:=by
   obtain ⟨ts4,w1,w2,w3⟩:=id hr4
   exact ⟨ts4,w1,by omega⟩
  obtain ⟨ts4,w1,w2⟩:=hret
  obtain ⟨dx4,cl4,na4,sp4,mt4,o4,ff4,b4⟩:=id ta4
  refine seq_cut fun nxC hnxC=>?_
  refine ⟨_,rfl,wd,_,rfl,.inl (SqL.of h4),rfl,_,rfl,?_⟩
  refine ite2 (fun z=>iteT ?_) (fun z=>?_)
  ·refine ⟨_,rfl,x,dx4,_,rfl,b4.ins,fl_none _ _ _ _,x,M,ns,n,rfl,ta4,by omega,_,rfl,r,_,rfl,.inl (SqL.of w1),rfl,?_⟩
   show Q (.bl (decide (V.int n=V.int ((ts4.map V.ref).length:Nat)))) H4
   rw [List.length_map,w2,show decide (V.int (n:Int)=V.int n)=true by simp]
   exact k _
  refine ⟨_,rfl,wd,_,rfl,.inl (SqL.of h4),_,_,rfl,rfl,_,rfl,?_⟩
  refine ite2 (fun z2=>?_) (fun z2=>?_)
  ·refine ⟨_,rfl,x,dx4,_,rfl,b4.ins,fl_none _ _ _ _,x,M,ns,n,rfl,ta4,by omega,_,rfl,r,_,rfl,.inl (SqL.of w1),rfl,?_⟩
   show Q (.bl (decide (V.int n=V.int ((ts4.map V.ref).length:Nat)))) H4
   rw [List.length_map,w2,show decide (V.int (n:Int)=V.int n)=true by simp]
   exact k _
  have hP:Pl M ws:=by
   rcases hpl with rfl | hP
   ·exact absurd rfl z
   ·exact hP
  have hw0:0 < ws.length:=List.length_pos_iff.mpr hP.ne
  clear hpl z z2 b4 w1 w2
  try dsimp only [tNext]
  refine hnxC _ _ ?_
  try dsimp only [gName]
  refine seq_cut fun nxC hnxC=>?_
  refine ⟨_,rfl,_,rfl,_,rfl,a,sc,4,rfl,sH4.seq hS,hl,by decide,by decide,_,60,rfl,by decide,fun nm xs H5 s5 hnm h5 hxl hxs=>?_⟩
  refine ⟨m,r,nm,M,ns,xs,rfl,s5 _ _ hm4,hr4.same s5,td,h42,h5,hxl,hxs,fun d H6 ks g s6 hd w6 sw bd=>?_⟩
  refine hnxC _ _ ?_
  try dsimp only [gName]
  have s46:=s5.trans s6
  have ta6:=ta4.same s46
  have hr6:=hr4.same s46
  have sH6:=sH4.trans s46
  have hm6:=s46 _ _ hm4
  have h6:=s46 _ _ h4
  clear ta4 hr4 sH4 hm4 h4 s5 s6 s46 h5 hnm hd
  have inK:=in_ks td sw hP
  have hgp:∀ q∈ws,1≤(g (ns.getD q 0)).1∧1≤(g (ns.getD q 0)).2:=fun q hq=>⟨(bd _ (inK q hq)).1,(bd _ (inK q hq)).2.1⟩
  have ew:=wor_low (M:=M) hw0 hgp
  refine seq_cut fun nxC hnxC=>?_
  refine ⟨_,rfl,_,rfl,_,rfl,_,rfl,m,r,d,wd,M,ns,ks,g,ws,rfl,hm6,hr6,td,w6,sw,bd,h6,by omega,hP,fun du hdu=>?_⟩
  refine hnxC _ _ ?_
  try dsimp only [gName]
  have s7:Same H6 (upd H6 du (tp (wor g M ns ws))):=Same.new hdu
  have h7:(upd H6 du (tp (wor g M ns ws))) du=some (tp (wor g M ns ws)):=upd_same
  generalize upd H6 du (tp (wor g M ns ws))=H7 at s7 h7 ⊢
  have hbd:∀ y∈ks,Bd (Bq 0) (g y):=fun y hy=>by
   obtain ⟨b1,b2,b3,b4⟩:=bd y hy
   exact ⟨b1,b2,Nat.lt_of_le_of_lt b3 (by decide),Nat.lt_of_le_of_lt b4 (by decide)⟩
  have ta7:=ta6.same s7
  have hr7:=hr6.same s7
  have sH7:=sH6.trans s7
  have hm7:=s7 _ _ hm6
  have hw7:=s7 _ _ h6
  have w7:=w6.same s7
  rw [ew] at h7
  clear ta6 hr6 sH6 hm6 h6 w6 s7 hdu bd hgp ew inK hxl hxs
  generalize hD:wor (lowG g) M ns ws=D at h7
  show tSeq (tFor _ _ _) _ _ _ _
  refine seq_post (fun _ _=>True) (fun nx hnx=>?_) (fun _ H9 _=>k H9)
  have hend:∀ σ H',nx σ H':=fun σ H'=>hnx σ H' trivial
  clear hnx
  have hb:∃ top:Int,(if (if ((sc.length:Nat):Int) > 8 then ((sc.length:Nat):Int) else 8) < 9 then (if ((sc.length:Nat):Int) > 8 then ((sc.length:Nat):Int) else 8) else 9)=top∧0≤top∧top≤9:=⟨_,rfl,by split <;> split <;> omega,by split <;> split <;> omega⟩
  obtain ⟨top,etop,b0,b1⟩:=hb
  refine ⟨_,rfl,a,_,rfl,.inl (sH7.seq hS),_,_,rfl,_,_,rfl,5,top,?_,⟨by decide,by decide,by omega,by omega⟩,?_⟩
  ·rw [List.length_map]
   exact congrArg (fun z=>[V.int 5,V.int z]) etop
  refine for_range (lo:=5) (n:=(top - 5).toNat) (fun i σ H'=>LoopW t.C_Tent a du D M.length ks H7 i σ H') ⟨m,r,x,wd,d,M,ns,g,ws,_,_,_,_,_,_,rfl,.refl _,hm7,hr7,ta7,td,rfl,w7,sw,hbd,hw7,hP,hD⟩ ?_ (fun σ H' _=>hend σ H')
  clear hm7 hr7 ta7 w7 sw hbd hw7 hP hD hw0 hw60 hMl hn n1 n40
  rintro i σ H5' hi ⟨m',r',x',wd',d',M',ns',g',ws',v7,v8,v9,v10,v11,v12,rfl,s5,hm5,hr5,ta5,td',hM',w5,sw,hbd,hw5,hP,hD⟩
  have hi4:i < 4:=by omega
  clear hi b0 b1 etop
  obtain ⟨n',n1',n40',hn'⟩:=td'.n
  have inv':InvM M':=td'.inv
  have hMl':M'.length=ns'.length:=td'.len.symm
  have h64:ns'.length < 64:=by omega
  dsimp only [gName]
  refine seq_cut fun nxC hnxC=>?_
  refine ⟨_,rfl,m',M',rfl,hm5,by omega,inv',fun fl H6 s6 hfl h6=>?_⟩
  refine hnxC _ _ ?_
  try dsimp only [gName]
  have s06:=s5.trans s6
  have hm6:=s6 _ _ hm5
  have hr6:=hr5.same s6
  have ta6:=ta5.same s6
  have w6:=w5.same s6
  have hw6:=s6 _ _ hw5
  have hS6:=(sH7.trans s06).seq hS
  clear s5 s6 hm5 hr5 ta5 w5 hfl hw5
  refine seq_cut fun nxC hnxC=>?_
  refine ⟨_,rfl,fl,_,rfl,.inl (SqL.of h6),rfl,_,rfl,?_⟩
  refine ite2 (fun _=>iteT (hend _ _)) (fun z1=>?_)
  refine ⟨_,rfl,wd',_,rfl,.inl (SqL.of hw6),_,_,rfl,rfl,_,rfl,?_⟩
  refine ite2 (fun _=>hend _ _) (fun z2=>?_)
  have hf0:0 < (freeL M').length:=by
   cases e:freeL M' with
   | nil=>rw [e] at z1; exact absurd rfl z1
   | cons _ _=>simp
  have hwl:ws'.length≤60:=by
   have y:¬ (((ws'.map nV).length:Nat):Int) > 60:=fun y=>z2 (decide_eq_true y)
   rw [List.length_map] at y
   omega
  clear z1 z2
  try dsimp only [tNext]
  refine hnxC _ _ ?_
  refine seq_cut fun nxC hnxC=>?_
  refine ⟨_,rfl,_,rfl,a,sc,5 + (i:Int),rfl,hS6,hl,by omega,by omega,?_⟩
  refine hnxC _ _ ?_
  try dsimp only [gName]
  generalize cell sc (5 + (i:Int))=pick
  obtain ⟨q,e0,hqf⟩:=pick_at (pick:=pick / 2) hf0
  refine seq_cut fun nxC hnxC=>?_
  refine ⟨_,rfl,_,rfl,_,_,rfl,rfl,⟨by decide,by decide⟩,_,rfl,fl,_,rfl,.inl (SqL.of h6),_,_,rfl,rfl,(by rw [List.length_map]; omega),fl,_,_,_,rfl,rfl,SqL.of h6,e0,?_⟩
  refine hnxC _ _ ?_
  clear e0 hf0 h6 hS6
  try dsimp only [gName]
  obtain ⟨j,hj,hqj,hc⟩:=free_mem hqf
  have hqM:q < M'.length:=(List.getElem?_eq_some_iff.mp hj).1
  have hjM:j < M'.length:=(List.getElem?_eq_some_iff.mp (inv' q j hj).1).1
  obtain ⟨nmq,hnm⟩:∃ z,ns'[q]?=some z:=⟨_,List.getElem?_eq_getElem (by omega)⟩
  have mvq:Mv M' ns' nmq q j:=⟨hj,hqj,hnm,hc⟩
  have hxk:nmq∈ks:=(sw.mem nmq).mpr ⟨q,j,hj,hnm⟩
  obtain ⟨hk,hpl⟩:=pl_two td' hj hqj hnm
  have bqi:Bq i≤647∧Bq (i + 1)≤700:=by
   have:i=0∨i=1∨i=2∨i=3:=by omega
   rcases this with rfl | rfl | rfl | rfl <;> decide
  have okf:∀ y∈ks,1≤(g' y).1∧1≤(g' y).2∧(g' y).1 < 2 ^ 8900∧(g' y).2 < 2 ^ 8900:=fun y hy=>(hbd y hy).up (by omega)
  have lx:=(hbd nmq hxk).low.1.up (C:=3999) (by omega)
  refine seq_cut fun nxC hnxC=>?_
  refine ⟨_,rfl,_,rfl,r',ns',q,nmq,rfl,hr6,hnm,?_⟩
  refine hnxC _ _ ?_
  try dsimp only [gName]
  generalize hleft:decide (V.int (pick % 2)=V.int 0)=left
  refine seq_cut fun nxC hnxC=>?_
  refine ⟨_,rfl,_,_,rfl,rfl,(by show (0:Int) < 2; decide),rfl,left,congrArg (fun b=>[V.bl b]) hleft,?_⟩
  refine hnxC _ _ ?_
  try dsimp only [gName]
  refine seq_cut fun nxC hnxC=>?_
  refine ⟨_,rfl,_,rfl,_,rfl,x',d',M',ns',ks,g',nmq,q,j,rfl,ta6,td',h64,w6,sw,okf,mvq,lx.2.2.1,lx.2.2.2,fun fo H7' s7 hfo w7=>?_⟩
  refine hnxC _ _ ?_
  try dsimp only [gName]
  have bdG:∀ y∈ks,Bd (Bq (i + 1)) (strG ks (sqX ns' q j) nmq (lowG g') y):=fun y hy=>str_bd td' mvq (hbd nmq hxk) (hbd y hy)
  have wk:=wor_kept (left:=left) td' mvq sw hbd hP
  have coG:∀ y∈ks,lowG (strG ks (sqX ns' q j) nmq (lowG g')) y=strG ks (sqX ns' q j) nmq (lowG g') y:=fun y hy=>low_id (str_co (hbd nmq hxk) (hbd y hy)).1
  clear okf lx
  have s07:=s06.trans s7
  have hm7:=s7 _ _ hm6
  have hr7:=hr6.same s7
  have ta7:=ta6.same s7
  have hw7:=s7 _ _ hw6
  clear hm6 hr6 ta6 hw6 w6 s06 hbd hfo
  generalize strG ks (sqX ns' q j) nmq (lowG g')=gG at *
  refine seq_cut fun nxC hnxC=>?_
  refine ⟨_,rfl,_,rfl,_,rfl,_,rfl,x',wd',M',ns',nmq,left,q,j,ws',rfl,ta7,td',hk,hpl,hc,hw7,by omega,hP,fun wd2 H8 s8 hwd2 h8=>?_⟩
  refine hnxC _ _ ?_
  try dsimp only [gName]
  have h8:H8 wd2=some (.lst ((pW M' left q j ws').map nV)):=h8
  have hP2:Pl (exM left q j M') (pW M' left q j ws'):=hP.pull td' hj hc
  have hl2:(pW M' left q j ws').length≤200:=Nat.le_trans pW_len (by omega)
  have s78:=s7.trans s8
  refine seq_cut fun nxC hnxC=>?_
  refine ⟨_,rfl,_,rfl,_,rfl,x',M',ns',nmq,wayS left,rfl,ta7.same s8,td',Wrong.free td' hk hpl hc fun HA sA x2 hx2 taA=>?_⟩
  rw [way_isL] at taA
  refine hnxC _ _ ?_
  try dsimp only [gName]
  have s8A:=s8.trans sA
  refine seq_cut fun nxC hnxC=>?_
  refine ⟨_,rfl,_,rfl,_,rfl,_,rfl,_,rfl,_,_,rfl,rfl,(by show (0:Int) < 2; decide),rfl,m',M',n',q,j,left,congrArg (fun b=>[V.ref m',V.int (q:Int),V.bl b]) hleft,s8A _ _ hm7,hn',n40',hj,(inv' q j hj).1,hc,fun gl HB sB hgl hB=>?_⟩
  have s8B:=s8A.trans sB
  refine ⟨m',r',gl,M',ns',q,j,left,rfl,s8B _ _ hm7,hr7.same s8B,hB,td',hqM,hjM,hc,fun p2 m2 r2 HD sD hp2 hmD hrD=>?_⟩
  refine ⟨p2,_,rfl,SqT.of hp2,rfl,_,_,rfl,_,_,rfl,rfl,?_⟩
  refine hnxC _ _ ?_
  try dsimp only [gName]
  have td2:TD (exM left q j M') (exN left q j ns'):=mvq.td td'
  have sw2:SwK (exM left q j M') (exN left q j ns') ks:=sw.ex td' mvq left
  have hML2:=exM_len left q j M'
  have hNL2:=exN_len left q j ns'
  have sBD:=sB.trans sD
  have sAD:=sA.trans sBD
  have s8D:=s8.trans sAD
  have taD:=taA.same sBD
  have hwD:=sAD _ _ h8
  have wD2:=w7.same s8D
  have s0D:=s07.trans s8D
  have eN:wor (lowG gG) (exM left q j M') (exN left q j ns') (pW M' left q j ws')=D:=by
   rw [← hD,← wk]
   exact wor_congr fun p hp=>coG _ (in_ks td2 sw2 hP2 p hp)
  clear wk coG hB hgl hp2 hx2 h8 hwd2 taA w7 hm7 hr7 ta7 hw7 s8D sAD sBD sD s8B sB s8A sA s78 s8 s7 hk hpl
  generalize exM left q j M'=M2 at *
  generalize exN left q j ns'=ns2 at *
  generalize pW M' left q j ws'=ws2 at *
  refine ⟨_,rfl,_,rfl,_,rfl,x2,fo,wd2,M2,ns2,ks,gG,ws2,rfl,taD,td2,by omega,wD2,sw2,fun y hy=>(bdG y hy).w7 bqi.2,hwD,hl2,hP2,fun r3 HE sE hr3=>?_⟩
  rw [eN] at hr3
  refine ⟨_,rfl,r3,du,D,rfl,hr3,(s0D.trans sE) _ _ h7,_,rfl,iteF ?_⟩
  exact ⟨m2,r2,x2,wd2,fo,M2,ns2,gG,ws2,_,_,_,_,_,_,rfl,s0D.trans sE,sE _ _ hmD,hrD.same sE,taD.same sE,td2,by omega,wD2.same sE,sw2,bdG,sE _ _ hwD,hP2,eN⟩
end
end KT
set_option maxHeartbeats 4000000
open PySem PySem.W PyProof.Rows
namespace PySem.W.Fast
def tw15051863878612222712:=0
def tw1160869140160355256:=0
def tw16151077963734491697:=0
def tw9135752998857298259:=0
def tw18102966432597554825:=0
def tw7657901954723440043:=0
def tw9296181948440049503:=0
def tw14648869039885003584:=0
def tw15915941065230065649:=0
def tw15753147802935722116:=0
def tw5887036200919302420:=0
def tw18018996041392596378:=0
def tw1233515953201018794:=0
def tw7168501279313074104:=0
def tw6986259622061473160:=0
def tw18221077617626040020:=0
def tw12946620891222361947:=0
def tw12563746029971771360:=0
def tw17798478321311878601:=0
def tw8988091279924461856:=0
def tw14608107241728475076:=0
def tw17056014655505147068:=0
def tw715289939152267584:=0
def tw1218090860835826184:=0
def tw11605621269450441794:=0
def tw6646540914269811036:=0
def tw6915423091785029756:=0
def tw7444442249993674839:=0
def tw15567685876768648238:=0
def tw11288898634541579864:=0
def tw17648685951325392863:=0
def tw5056027700319900181:=0
def tw5863061385989400292:=0
def tw14678117268508356130:=0
def tw2989114166761480403:=0
def tw11456049083382303906:=0
def tw2461345690220756566:=0
def tw4637160247983162494:=0
def tw14037677989642628464:=0
def tw10536559377564221627:=0
def tw11061091742701064021:=0
def tw17240702624203455404:=0
def tw7821415023149977986:=0
def tw16992916913857015019:=0
def tw3598026293877011681:=0
def tw13490523415075735302:=0
def tw17024477798491498340:=0
def tw7704055182870041442:=0
def tw7161088339286163200:=0
def tw57637040459674309:=0
def tw8761035780524855592:=0
def tw5229059617441126328:=0
def tw12849996694078684695:=0
def tw380007764744159243:=0
def tw8860623808213569052:=0
def tw2495101525382280734:=0
def tw15296857622717180686:=0
def tw1114562000117781053:=0
def tw15263913566716794675:=0
def tw12039892931237900969:=0
def tw4448419361308316531:=0
def tw8213910490153076894:=0
def tw1821230621079681295:=0
def tw10937941236541958150:=0
def tw5601863698836555804:=0
def tw11082488054943712754:=0
def tw5034613945309768006:=0
def tw14809817411393453716:=0
def tw5482743091096876957:=0
def tw4775759052476377238:=0
def tw18436326486992329768:=0
def tw13434640362331879949:=0
def tw6331770390237361913:=0
def tw13774708742842023887:=0
def tw5025491158372908670:=0
def tw15376102030794505305:=0
def tw7518252291174221618:=0
def tw8320029798642824839:=0
def tw9495522032012489482:=0
def tw11818850619314559124:=0
def tw9250373472084499019:=0
def tw6881175551151680459:=0
def tw1339887947439256457:=0
def tw8290559468933233011:=0
def tw1996198927972489025:=0
def tw602808035025841935:=0
def tw11476708047555542065:=0
def tw11891712549823103963:=0
def tw13369197153347898269:=0
def tw7142037836148179515:=0
def tw10193379636563429413:=0
def tw10023459700944025037:=0
def tw15483233340808159639:=0
def tw12213811338293944884:=0
def tw9771037710197095449:=0
def tw17228280624551377594:=0
def tw11436068467478201899:=0
def tw197645913580230840:=0
def tw11440582210991093990:=0
def tw6586021994277204053:=0
def tw14870703873257370993:=0
def tw10514812754075402283:=0
def tw6377572953660677760:=0
def tw7018114878169997146:=0
def tw544959222139414780:=0
def tw15061746549944463381:=0
def tw6824417794164466428:=0
def tw6526359240050110515:=0
def tw1041340189392577923:=0
def tw6578024920403299198:=0
def tw5948106628251269132:=0
def tw6352997076430603153:=0
def tw15506938788217959315:=0
def tw14095586998638581326:=0
def tw14842857589955962802:=0
def tw12311721384459889419:=0
def tw7479218771241406548:=0
def tw6075495619900086673:=0
def tw1436883422192837038:=0
def tw1795504446379763298:=0
def tw11889340107499455824:=0
def tw11481361191883410214:=0
def tw11156358192304921523:=0
def tw13921527765725418959:=0
def tw3699162130226990111:=0
def tw5125561581915650775:=0
def tw6992561271318353240:=0
def tw5393834487065963332:=0
def tw6424624064554491305:=0
def tw14595348471797522211:=0
def tw16347465514075838280:=0
def tw17413464249553772404:=0
def tw17551534144215812188:=0
def tw6927348211658268636:=0
def tw16692114074822090559:=0
def tw10128626832668166425:=0
def tw17237609466476219286:=0
def tw8438797281233536063:=0
def tw8892742053286881010:=0
def tw9228418794218053611:=0
def tw2569242056782194204:=0
def tw7907314629498569921:=0
def tw11857078815639563542:=0
def tw1087399466419698587:=0
def tw6538772675317786808:=0
def tw7511085596570591752:=0
def tw15483559204012199471:=0
def tw856558149020769629:=0
def tw13902088393129732750:=0
def tw1789285702738010737:=0
def tw5820692607792075792:=0
def tw7551893608720426908:=0
def tw8554856427722465850:=0
def tw37221669564659063:=0
def tw10854992401982671878:=0
def tw7888928359508057646:=0
def tw13179370934298335640:=0
def tw9666922761590715094:=0
def tw8439279070094332416:=0
def tw9004091283613803188:=0
def tw1445195944464275905:=0
def tw12060235729190908905:=0
def tw12506336754051258983:=0
def tw7541976857333377418:=0
def tw8490833705328640078:=0
def tw5155700662011797357:=0
def tw1191677005353237130:=0
def tw8142431234731022252:=0
def tw10780607736309997341:=0
def tw15376927463535469078:=0
def tw1920064596695186433:=0
def tw4573182780759905619:=0
def tw10415666666046881296:=0
def tw15261556589600303285:=0
def tw6454964231789809560:=0
def tw8998061551968453160:=0
def tw11333066865456308462:=0
def tw5768792988019016470:=0
def tw4382843859417069014:=0
def tw2882434171349105597:=0
def tw16966428951097992128:=0
def tw5752042442955704061:=0
def tw9501390639636353689:=0
def tw15825713123490608830:=0
def tw14790728635264927777:=0
def tw7328965121602962278:=0
def tw13621847509230328348:=0
def tw4320125940459817230:=0
def tw14998059738335304108:=0
def tw11903596780130002934:=0
def tw12160028273652371140:=0
def tw3297559662515206137:=0
def tw13784262357609120262:=0
def tw11476383927952313691:=0
def tw6718195899363706630:=0
def tw15743326096768374312:=0
def tw14752917150031117434:=0
def tw17678667658875290313:=0
def tw15002846750388063267:=0
def tw3983037751751162933:=0
def tw15950273764703197653:=0
def tw14642063365611032550:=0
def tw9957943905823875669:=0
def tw2401724014331848732:=0
def tw7076075496934343675:=0
def tw6982154873967114521:=0
def tw11368805610659255702:=0
def tw10465620681826268305:=0
def tw4979708144018276780:=0
def tw3447322855480476520:=0
def tw8494760779664194860:=0
def tw13457927463528758925:=0
def tw7335889892998052027:=0
def tw5281031637556569911:=0
def tw14931759476851181495:=0
def tw14496241931683809076:=0
def tw6026926120264592273:=0
def tw14981757900084415832:=0
def tw2412741416418707211:=0
def tw7506509260386088157:=0
def tw2745958759934940424:=0
def tw10462042559596303922:=0
def tw2885527617690560904:=0
def tw602600676203506127:=0
def tw10752934540338976725:=0
def tw7397818236782129575:=0
def tw9490604741508065487:=0
def tw16462597514789785538:=0
def tw17701577603283121219:=0
def tw1286238408336985076:=0
def tw16604859350191891529:=0
def tw14212073018595744959:=0
def tw4894368450531058209:=0
def tw10698283083953905910:=0
def tw5730754136473026953:=0
def tw10575537644450555043:=0
def tw18045210053917019730:=0
def tw11408364140404002179:=0
def tw6914848007197616643:=0
def tw15035484319598065588:=0
def tw17943372426143181405:=0
def tw13375381735174196299:=0
def tw12340471959645721079:=0
def tw8382738797913781296:=0
def tw4775800484087702467:=0
def tw16185401810934593558:=0
def tw4051444478113944570:=0
def tw15693128487229570665:=0
def tw16145072548280186127:=0
def tw6230367953264511137:=0
def tw10916047718115234796:=0
def tw4561485630718513509:=0
def tw11428255370432760198:=0
def tw7884168289664267251:=0
def tw17945852131655622788:=0
def tw13551956525160919168:=0
def tw10952845963921332703:=0
def tw2214279002877717296:=0
def tw8905034228509568842:=0
def tw187331061418458990:=0
def tw17006667333306080133:=0
def tw5925458997411425231:=0
def tw12159198465320715366:=0
def tw8671339438046471868:=0
def tw8424524588226174647:=0
def tw17072408629170919674:=0
def tw6100510843281587121:=0
def tw5118931347615518805:=0
def tw9130213475819402653:=0
def tw8173089361736317306:=0
def tw1349570101377391533:=0
def tw13982159286641982841:=0
def tw12758686175633065132:=0
def tw11048411120982772346:=0
def tw17342390052745576060:=0
def tw4510557437751535119:=0
def tw6098792429709060600:=0
def tw15611728501054270098:=0
def tw16876168014215468455:=0
def tw5192292571799966952:=0
def tw17793266377933101955:=0
def tw18371271660534321327:=0
def tw14886137773570770065:=0
def tw9937793717431320279:=0
def tw10592214784139269257:=0
def tw18160097247061418908:=0
def tw4971002696532694234:=0
def tw6974605269880298832:=0
def tw7623656693042235546:=0
def tw17644179956266733153:=0
def tw3711890237623698390:=0
def tw3245886163247238426:=0
def tw87841627703193915:=0
def tw7808311039013337310:=0
def tw6783711915623310797:=0
def tw13149989189707863267:=0
def tw9057035986772050745:=0
def tw8023131237710861550:=0
def tw17533051691194958800:=0
def tw15410689332938226710:=0
def tw7570744677524556875:=0
def tw12275607953109700173:=0
def tw12590163822382127041:=0
def tw2610656188336341881:=0
def tw8906741749886838237:=0
def tw17673541253720958565:=0
def tw6108254558452199351:=0
def tw5248247314245666485:=0
def tw15743836624302822252:=0
def tw10919158947203271908:=0
def tw5592705424323268310:=0
def tw1908140927954407962:=0
def tw17289183200501563309:=0
def tw1962230291692229022:=0
def tw12405390849497509673:=0
def tw10770347673241050233:=0
def tw7986470588756332778:=0
def tw9409224929943967896:=0
def tw7489039757234905813:=0
def tw3953774028294983805:=0
def tw14420205765008691497:=0
def tw5201690187151497585:=0
def tw1378293541035092160:=0
def tw6603294830134773078:=0
def tw8024653381963370049:=0
def tw10556901762344510312:=0
def tw16399388220149234146:=0
def tw18440470029806700974:=0
def tw12683991280489963056:=0
def tw1763341085386943016:=0
def tw3692004563166298126:=0
def tw17955993966446117087:=0
def tw14337663977490710265:=0
def tw10986195149676919245:=0
def tw11473927932689322644:=0
def tw18124520610661220822:=0
def tw8080037153761145736:=0
def tw3330163629047908976:=0
def tw18021620504143928205:=0
def tw8771436436982918476:=0
def tw7319374803782743173:=0
def tw15608766530004711895:=0
def tw16666033121774294440:=0
def tw4494893574139402210:=0
def tw7530873218857669105:=0
def tw16628658034125216662:=0
def tw15429717559975753226:=0
def tw11146369720783346140:=0
def tw13078509994132047323:=0
def tw11244884987470412373:=0
def tw1144888937197062085:=0
def tw2209969906446770997:=0
def tw1257073740049915216:=0
def tw15051341350322142871:=0
def tw1440641874345647390:=0
def tw16932414822090887227:=0
def tw3861956558727727057:=0
def tw458159820857121583:=0
def tw2863676530278848333:=0
def tw17112002969348389304:=0
def tw17946826456829998920:=0
def tw16057477012762157842:=0
def tw9513592683974931850:=0
def tw8685339694670778299:=0
def tw17159854477058539890:=0
def tw5535001813439503920:=0
def tw18201484320054567523:=0
def tw16740769859006797503:=0
def tw7211505438060997865:=0
def tw677293323933369197:=0
def tw15302265354903696756:=0
def tw9583565315969792079:=0
def tw14164286295361409061:=0
def tw15778377346830537507:=0
def tw1447708604779922817:=0
def tw14465267531533741441:=0
def tw9036215659646383781:=0
def tw3830340486800616416:=0
def tw14602943157779264082:=0
def tw2871904125196310304:=0
def tw16436026887049941513:=0
def tw7579932578322255814:=0
def tw1785245307018550290:=0
def tw13043698469470261680:=0
def tw11358354239869072023:=0
def tw12841032197784929759:=0
def tw8502344063287242557:=0
def tw11148299420248879360:=0
def tw14304868621611347555:=0
def tw13728969659351063007:=0
def tw5403543722257815287:=0
def tw8967048362457931025:=0
def tw13728163075529602971:=0
def tw10513248497860228410:=0
def tw7184234537263390910:=0
def tw9560202514594078771:=0
def tw5235906878640471656:=0
def tw13969510942247417008:=0
def tw2793644463676691629:=0
def tw5967844691663274109:=0
def tw2047115257032822781:=0
def tw16432950641685215626:=0
def tw8929226670745090046:=0
def tw3538938269875497151:=0
def tw184298456228681908:=0
def tw15786848035610571528:=0
def tw4235545834985859793:=0
def tw7558457313507097825:=0
def tw17108400855012649736:=0
def tw2715748260366887672:=0
def tw14908338920913336721:=0
def tw4811525452502675569:=0
def tw5628599030805403631:=0
def tw2807991394472099778:=0
def tw11223476928155686093:=0
def tw10879057267811159324:=0
def tw15112920039154819903:=0
def tw12274652371288771224:=0
def tw1908519683779658336:=0
def tw2781697230620937127:=0
def tw2915108963176996446:=0
def tw14106232168360950627:=0
def tw7138679051247213232:=0
def tw14423805557246093032:=0
def tw3514316710602761483:=0
def tw7042622015607323361:=0
def tw7003895774879848534:=0
def tw10677798998690313408:=0
def tw7107659918700299271:=0
def tw4676177035468838275:=0
def tw9139982397800898044:=0
def tw14871462289872186888:=0
def tw6611893236068533893:=0
def tw1946733991329409398:=0
def tw4911899048917473198:=0
def tw9422905836021943994:=0
def tw2997891507875712639:=0
def tw4396237759376649429:=0
def tw3115753543602230144:=0
def tw12980077112904212859:=0
def tw2975994795778561223:=0
def tw15482490218785827784:=0
def tw806559400271544330:=0
def tw12931491418906600219:=0
def tw17952960600930747842:=0
def tw5918906283191902848:=0
def tw5135702493043174789:=0
def tw2939480973972063193:=0
def tw7459754765676255058:=0
def tw7509608372666504605:=0
def tw17444790974976406162:=0
def tw11369981160696796889:=0
def tw14062175933504817584:=0
def tw12653335111919056593:=0
def tw5909397501141121603:=0
def tw11957005289305530813:=0
def tw5386136234621961669:=0
def tw12349321495836531114:=0
def tw15907576871364876397:=0
def tw10104391078241867687:=0
def tw17703791255640099550:=0
def tw17458112408152723207:=0
def tw18184437130587178490:=0
def tw8640028563567787454:=0
def tw9973042616371559179:=0
def tw15925564368777554692:=0
def tw9525700524227356110:=0
def tw1929586049029076432:=0
def tw9364948838483560262:=0
def tw4771055202381500576:=0
def tw3647369618097530185:=0
def tw8411212131059492986:=0
def tw6178253341252104939:=0
def tw10333447657907436061:=0
def tw4300460188617175837:=0
def tw1395158857866244315:=0
def tw14273346453688951227:=0
def tw8230915342559957021:=0
def tw13180475299957687673:=0
def tw14005202607128850672:=0
def tw11560971281022251291:=0
def tw18142663465221660761:=0
def tw17583144126237409343:=0
def tw7604317217617475791:=0
def tw2346386322729598013:=0
def tw11879101190590700506:=0
def tw9330812691289234933:=0
def tw6593334823635557879:=0
def tw10489942304489418775:=0
end PySem.W.Fast
set_option maxRecDepth 100000 in
set_option maxHeartbeats 0 in
theorem PySem.Challenge.cw_tentloops_k47_whole_worth_kept_holds : PySem.Challenge.rw_tentloops_k47_whole_worth_kept.Holds := by
 w_on; o_law; k_head; (case hw=>w_witness2)
 k_fill
 refine L2.walk_r (l:=PySem.Challenge.rw_tentloops_k47_whole_worth_kept) (k:=9) (spl:=KT.sp_law) rfl rfl ⟨rfl,by decide,by decide⟩ (fun w h Y=>PySem.W.kIn_of Y) (fun K H a ns hl hS=>KT.sp_law_start hl hS) ?F
 case F =>
  intro w mg fa h KX G hmg
  have T:∃ t,KT.Txt w (L2.KOf KX) mg t:=by
   dsimp only [L2.KOf]
   refine' ⟨⟨_,_,_,_,_,_,_,_,_,_,_,_,_,_,_,_,_,_,_,_,_,_,_,_,_,_,_,_,_,_,_,_,_,_,_,_,_,_,_,_,_,_,_,_,_,_,_,_,_,_,_,_,_,_,_,_,_,_,_,_,_,_,_,_,_,_,_,_,_,_,_,_,_,_,_,_,_,_,_,_,_,_,_,_,_,_,_,_,_,_,_,_,_,_,_,_,_,_,_,_,_,_,_,_,_,_,_,_,_,_,_,_,_,_,_,_,_,_,_,_,_,_,_,_,_,_,_⟩,⟨mg_of KX G ?_,⟨?_,?_,?_,?_⟩,?_,?_,?_,?_,KT.FT.of KX G (KT.ba1 (fun _ _ _ _ _ _ _ _=>rfl) rfl) ?_ ?_ ?_ ?_,KT.FT.of KX G (KT.ba1 (fun _ _ _ _ _ _ _ _=>rfl) rfl) ?_ ?_ ?_ ?_,KT.FT.of KX G (KT.ba1 (fun _ _ _ _ _ _ _ _=>rfl) rfl) ?_ ?_ ?_ ?_,KT.FT.of KX G (KT.ba1 (fun _ _ _ _ _ _ _ _=>rfl) rfl) ?_ ?_ ?_ ?_,KT.FT.of KX G (KT.ba2 (fun _ _ _ _ _ _ _ _ _=>rfl) rfl) ?_ ?_ ?_ ?_,KT.FM.of (KT.ba2 (fun _ _ _ _ _ _ _ _ _=>rfl) rfl) ?_ ?_ ?_ ?_ ?_,KT.FM.of (KT.ba1 (fun _ _ _ _ _ _ _ _=>rfl) rfl) ?_ ?_ ?_ ?_ ?_,KT.FM.of (KT.ba1 (fun _ _ _ _ _ _ _ _=>rfl) rfl) ?_ ?_ ?_ ?_ ?_,KT.FM.of (KT.ba1 (fun _ _ _ _ _ _ _ _=>rfl) rfl) ?_ ?_ ?_ ?_ ?_,KT.FM.of (KT.ba2 (fun _ _ _ _ _ _ _ _ _=>rfl) rfl) ?_ ?_ ?_ ?_ ?_,KT.FM.of (KT.ba2 (fun _ _ _ _ _ _ _ _ _=>rfl) rfl) ?_ ?_ ?_ ?_ ?_,KT.FM.of (KT.ba2 (fun _ _ _ _ _ _ _ _ _=>rfl) rfl) ?_ ?_ ?_ ?_ ?_,KT.FM.of (KT.ba2 (fun _ _ _ _ _ _ _ _ _=>rfl) rfl) ?_ ?_ ?_ ?_ ?_,KT.FM.of (KT.ba2 (fun _ _ _ _ _ _ _ _ _=>rfl) rfl) ?_ ?_ ?_ ?_ ?_,KT.FM.of (KT.ba2 (fun _ _ _ _ _ _ _ _ _=>rfl) rfl) ?_ ?_ ?_ ?_ ?_,KT.FT.of KX G (KT.ba1 (fun _ _ _ _ _ _ _ _=>rfl) rfl) ?_ ?_ ?_ ?_,KT.FT.of KX G (KT.ba2 (fun _ _ _ _ _ _ _ _ _=>rfl) rfl) ?_ ?_ ?_ ?_,KT.FT.of KX G (KT.ba2 (fun _ _ _ _ _ _ _ _ _=>rfl) rfl) ?_ ?_ ?_ ?_,KT.FT.of KX G (KT.ba3 (fun _ _ _ _ _ _ _ _ _ _=>rfl) rfl) ?_ ?_ ?_ ?_,KT.FT.of KX G (KT.ba3 (fun _ _ _ _ _ _ _ _ _ _=>rfl) rfl) ?_ ?_ ?_ ?_,KT.FT.of KX G (KT.ba2 (fun _ _ _ _ _ _ _ _ _=>rfl) rfl) ?_ ?_ ?_ ?_,KT.FT.of KX G (KT.ba3 (fun _ _ _ _ _ _ _ _ _ _=>rfl) rfl) ?_ ?_ ?_ ?_,KT.FT.of KX G (KT.ba2 (fun _ _ _ _ _ _ _ _ _=>rfl) rfl) ?_ ?_ ?_ ?_,KT.FT.of KX G (KT.ba2 (fun _ _ _ _ _ _ _ _ _=>rfl) rfl) ?_ ?_ ?_ ?_,KT.FT.of KX G (KT.ba2 (fun _ _ _ _ _ _ _ _ _=>rfl) rfl) ?_ ?_ ?_ ?_,KT.FT.of KX G (KT.ba3 (fun _ _ _ _ _ _ _ _ _ _=>rfl) rfl) ?_ ?_ ?_ ?_,KT.FT.of KX G (KT.ba2 (fun _ _ _ _ _ _ _ _ _=>rfl) rfl) ?_ ?_ ?_ ?_,KT.FT.of KX G (KT.ba2 (fun _ _ _ _ _ _ _ _ _=>rfl) rfl) ?_ ?_ ?_ ?_,KT.FT.of KX G (KT.ba2 (fun _ _ _ _ _ _ _ _ _=>rfl) rfl) ?_ ?_ ?_ ?_,KT.FT.of KX G (KT.ba2 (fun _ _ _ _ _ _ _ _ _=>rfl) rfl) ?_ ?_ ?_ ?_,KT.FT.of KX G (KT.ba1 (fun _ _ _ _ _ _ _ _=>rfl) rfl) ?_ ?_ ?_ ?_,KT.FT.of KX G (KT.ba2 (fun _ _ _ _ _ _ _ _ _=>rfl) rfl) ?_ ?_ ?_ ?_,KT.FT.of KX G (KT.ba2 (fun _ _ _ _ _ _ _ _ _=>rfl) rfl) ?_ ?_ ?_ ?_,KT.FT.of KX G (KT.ba3 (fun _ _ _ _ _ _ _ _ _ _=>rfl) rfl) ?_ ?_ ?_ ?_,KT.FT.of KX G (KT.ba2 (fun _ _ _ _ _ _ _ _ _=>rfl) rfl) ?_ ?_ ?_ ?_,KT.FT.of KX G (KT.ba2 (fun _ _ _ _ _ _ _ _ _=>rfl) rfl) ?_ ?_ ?_ ?_,KT.FT.of KX G (KT.ba3 (fun _ _ _ _ _ _ _ _ _ _=>rfl) rfl) ?_ ?_ ?_ ?_,KT.FT.of KX G (KT.ba3 (fun _ _ _ _ _ _ _ _ _ _=>rfl) rfl) ?_ ?_ ?_ ?_,KT.FT.of KX G (KT.ba4 (fun _ _ _ _ _ _ _ _ _ _ _=>rfl) rfl) ?_ ?_ ?_ ?_,KT.FT.of KX G (KT.ba2 (fun _ _ _ _ _ _ _ _ _=>rfl) rfl) ?_ ?_ ?_ ?_,KT.FT.of KX G (KT.ba2 (fun _ _ _ _ _ _ _ _ _=>rfl) rfl) ?_ ?_ ?_ ?_,KT.FT.of KX G (KT.ba3 (fun _ _ _ _ _ _ _ _ _ _=>rfl) rfl) ?_ ?_ ?_ ?_,KT.FT.of KX G (KT.ba3 (fun _ _ _ _ _ _ _ _ _ _=>rfl) rfl) ?_ ?_ ?_ ?_,KT.FT.of KX G (KT.ba1 (fun _ _ _ _ _ _ _ _=>rfl) rfl) ?_ ?_ ?_ ?_,KT.FT.of KX G (KT.ba2 (fun _ _ _ _ _ _ _ _ _=>rfl) rfl) ?_ ?_ ?_ ?_,KT.FT.of KX G (KT.ba3 (fun _ _ _ _ _ _ _ _ _ _=>rfl) rfl) ?_ ?_ ?_ ?_,KT.FT.of KX G (KT.ba3 (fun _ _ _ _ _ _ _ _ _ _=>rfl) rfl) ?_ ?_ ?_ ?_,KT.FT.of KX G (KT.ba2 (fun _ _ _ _ _ _ _ _ _=>rfl) rfl) ?_ ?_ ?_ ?_,KT.FT.of KX G (KT.ba4 (fun _ _ _ _ _ _ _ _ _ _ _=>rfl) rfl) ?_ ?_ ?_ ?_,KT.FT.of KX G (KT.ba1 (fun _ _ _ _ _ _ _ _=>rfl) rfl) ?_ ?_ ?_ ?_,KT.FT.of KX G (KT.ba2 (fun _ _ _ _ _ _ _ _ _=>rfl) rfl) ?_ ?_ ?_ ?_,KT.FT.of KX G (KT.ba1 (fun _ _ _ _ _ _ _ _=>rfl) rfl) ?_ ?_ ?_ ?_,KT.FT.of KX G (KT.ba3 (fun _ _ _ _ _ _ _ _ _ _=>rfl) rfl) ?_ ?_ ?_ ?_,KT.FT.of KX G (KT.ba2 (fun _ _ _ _ _ _ _ _ _=>rfl) rfl) ?_ ?_ ?_ ?_,KT.FT.of KX G (KT.ba3 (fun _ _ _ _ _ _ _ _ _ _=>rfl) rfl) ?_ ?_ ?_ ?_,KT.FT.of KX G (KT.ba1 (fun _ _ _ _ _ _ _ _=>rfl) rfl) ?_ ?_ ?_ ?_,KT.FT.of KX G (KT.ba2 (fun _ _ _ _ _ _ _ _ _=>rfl) rfl) ?_ ?_ ?_ ?_,KT.FT.of KX G (KT.ba1 (fun _ _ _ _ _ _ _ _=>rfl) rfl) ?_ ?_ ?_ ?_,⟨?_,?_,?_,?_⟩,mg_of KX G ?_,mg_of KX G ?_,L2.kdict_mk2 ?_ ?_ ?_ (by decide) ?_,fun s u=>.of_eq rfl,mg_none_of KX G ?_,mg_none_of KX G ?_,mg_none_of KX G ?_,mg_none_of KX G ?_,mg_none_of KX G ?_,mg_none_of KX G ?_,mg_none_of KX G ?_,mg_none_of KX G ?_,mg_none_of KX G ?_,mg_none_of KX G ?_,mg_none_of KX G ?_,mg_none_of KX G ?_,mg_none_of KX G ?_,mg_none_of KX G ?_,mg_of KX G ?_,⟨?_⟩,mg_of KX G ?_,⟨?_⟩,mg_of KX G ?_,⟨?_⟩,mg_of KX G ?_,⟨?_⟩,mg_of KX G ?_,⟨?_⟩,mg_of KX G ?_,⟨?_⟩,mg_of KX G ?_,⟨?_⟩,mg_of KX G ?_,⟨?_⟩⟩⟩
   any_goals first | k_is | k_exc | rfl | kernel_rfl
  obtain ⟨t,T⟩:=T
  have e0:=hmg.symm.trans T.p_law.g
  cases e0
  refine' ⟨_,?b,fun base kb nb=>KT.ok_law T⟩
  exact T.bl
#print axioms PySem.Challenge.cw_tentloops_k47_whole_worth_kept_holds
