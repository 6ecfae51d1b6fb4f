import PyProof.Rows.All
import Wide.All
import OpenK.AllK
import Wide.FinOn
import Lean
import PyProof.EqAt
import PyProof.EqKinds
import PyProof.TupleCall
import PySem.Challenge.RW_tentloops_k21_no_thread
set_option Elab.async false
set_option linter.all false
set_option maxRecDepth 100000
set_option maxHeartbeats 4000000
namespace L2
open PySem PySem.Spec PyProof.Rows
noncomputable abbrev Key:=Sum Int Str
noncomputable def V4:Key->Value->Bool
 | .inl k,v=>Value.isInt k v
 | .inr x,v=>Value.isStrOf x v
noncomputable def keyH (w:World):Key->Int
 | .inl k=>hashInt k
 | .inr x=>hashStr w x
theorem Xa:∀ {k:Key} {v:Value},V4 k v=true->(∃ i t,k=Sum.inl i/\v=Value.int i t)\/(∃ x t,k=Sum.inr x/\v=Value.str x t)
 | .inl i,v,h=>by
  obtain ⟨t,e⟩:=Value.isInt_shape (k:=i) (v:=v) h
  exact .inl ⟨i,t,rfl,e⟩
 | .inr x,v,h=>by
  obtain ⟨t,e⟩:=Value.isStrOf_shape (x:=x) (v:=v) h
  exact .inr ⟨x,t,rfl,e⟩
theorem Zip (i:Int) (t:Tok):V4 (.inl i) (.int i t)=true:=by simp [V4,Value.isInt]
theorem J5 (x:Str) (t:Tok):V4 (.inr x) (.str x t)=true:=by simp [V4,Value.isStrOf]
theorem Zok (a b:Int):decide ((Sum.inl a:Key)=Sum.inl b)=(a == b):=by
 by_cases e:a=b
 ·subst e; simp
 ·have h:¬ (Sum.inl a:Key)=Sum.inl b:=λq=>e (Sum.inl.inj q)
  rw [decide_eq_false h]
  exact (beq_eq_false_iff_ne.mpr e).symm
theorem Zoh (a b:Str):decide ((Sum.inr a:Key)=Sum.inr b)=decide (a=b):=by
 by_cases e:a=b
 ·subst e; simp
 ·have h:¬ (Sum.inr a:Key)=Sum.inr b:=λq=>e (Sum.inr.inj q)
  rw [decide_eq_false h,decide_eq_false e]
theorem Zoj (a:Int) (b:Str):decide ((Sum.inl a:Key)=Sum.inr b)=false:=decide_eq_false (λq=>nomatch q)
theorem Zoi (a:Str) (b:Int):decide ((Sum.inr a:Key)=Sum.inl b)=false:=decide_eq_false (λq=>nomatch q)
noncomputable def Yd (prog:Program) (w:World):PySem.KeyKind prog w Key where
 is:=V4
 hash:=keyH w
 inj:=λv a b ha hb=>by
  rcases Xa ha with ⟨i,t,rfl,rfl⟩ | ⟨x,t,rfl,rfl⟩
  ·rcases Xa hb with ⟨j,u,rfl,e⟩ | ⟨y,u,rfl,e⟩
   ·injection e with e1 _; rw [e1]
   ·exact nomatch e
  ·rcases Xa hb with ⟨j,u,rfl,e⟩ | ⟨y,u,rfl,e⟩
   ·exact nomatch e
   ·injection e with e1 _; rw [e1]
 byValue:=λk v h=>by
  rcases Xa h with ⟨i,t,rfl,rfl⟩ | ⟨x,t,rfl,rfl⟩ <;> rfl
 pyHash:=λhv h=>by
  rcases Xa hv with ⟨i,t,rfl,rfl⟩ | ⟨x,t,rfl,rfl⟩
  ·exact wpAny_pyHash_int h
  ·exact wpAny_pyHash_str h
 eqBool:=λhu hv h=>by
  rcases Xa hu with ⟨i,t,rfl,rfl⟩ | ⟨x,t,rfl,rfl⟩
  ·rcases Xa hv with ⟨j,u,rfl,rfl⟩ | ⟨y,u,rfl,rfl⟩
   ·rw [Zok] at h; exact wpAny_eqBool_int h
   ·rw [Zoj] at h; exact SeqAt.EqAt.int_str i t y u _ _ _ _ h
  ·rcases Xa hv with ⟨j,u,rfl,rfl⟩ | ⟨y,u,rfl,rfl⟩
   ·rw [Zoi] at h; exact SeqAt.EqAt.str_int x t j u _ _ _ _ h
   ·rw [Zoh] at h; exact wpAny_eqBool_str h
 «strs»:=λk x t v h=>by
  rcases Xa h with ⟨i,u,rfl,e⟩ | ⟨y,u,rfl,e⟩
  ·exact nomatch e
  ·injection e with e1 _
   subst e1
   cases v <;> rfl
theorem Zef (prog:Program) (w:World) (i:Int) (t:Tok):(Yd prog w).is (.inl i) (.int i t)=true:=Zip i t
theorem Zee (prog:Program) (w:World) (x:Str) (t:Tok):(Yd prog w).is (.inr x) (.str x t)=true:=J5 x t
inductive V where
 | non | bl (b:Bool) | int (i:Int) | str (x:Str) | byt (b:Array UInt8) | flt (b:UInt64) | ref (a:Addr) | ty (n:String)
 deriving DecidableEq
set_option genInjectivity false
set_option genSizeOf false
noncomputable def RelV:V->Value->Prop
 | .non,u=>u=Value.none
 | .bl b,u=>u=Value.bool b
 | .int i,u=>∃ t,u=Value.int i t
 | .str x,u=>∃ t,u=Value.str x t
 | .byt b,u=>∃ t,u=Value.bytes b t
 | .flt b,u=>∃ t,u=Value.float b t
 | .ref a,u=>u=Value.ref a
 | .ty n,u=>u=Value.type n
noncomputable abbrev Vals:List V->List Value->Prop:=Paired RelV
theorem Vals.length {xs:List V} {us:List Value} (r:Vals xs us):xs.length=us.length:=Paired.length r
theorem Vals.get:∀ {xs:List V} {us:List Value} {i:Nat} {x:V},Vals xs us->xs[i]?=some x->∃ u,us[i]?=some u/\RelV x u
 | _,_,_,_,.nil,e=>by simp at e
 | _,_,0,_,.cons r _,e=>by simp at e; subst e; exact ⟨_,rfl,r⟩
 | _,_,i + 1,x,.cons _ t,e=>by
  obtain ⟨u,h1,h2⟩:=Vals.get (i:=i) (x:=x) t (by simpa using e)
  exact ⟨u,by simpa using h1,h2⟩
theorem Vals.set {x:V} {u:Value} (r:RelV x u):∀ {xs:List V} {us:List Value} (i:Nat),Vals xs us->Vals (xs.set i x) (us.set i u)
 | _,_,_,.nil=>.nil
 | _,_,0,.cons _ t=>.cons r t
 | _,_,i + 1,.cons q t=>.cons q (Vals.set r i t)
theorem Vals.append:∀ {xs ys:List V} {us ws:List Value},Vals xs us->Vals ys ws->Vals (xs ++ ys) (us ++ ws)
 | _,_,_,_,.nil,s=>s
 | _,_,_,_,.cons r t,s=>.cons r (Vals.append t s)
theorem Vals.take:∀ {xs:List V} {us:List Value} (n:Nat),Vals xs us->Vals (xs.take n) (us.take n)
 | _,_,0,_=>.nil
 | _,_,_ + 1,.nil=>.nil
 | _,_,n + 1,.cons r t=>.cons r (Vals.take n t)
theorem Vals.drop:∀ {xs:List V} {us:List Value} (n:Nat),Vals xs us->Vals (xs.drop n) (us.drop n)
 | _,_,0,r=>r
 | _,_,_ + 1,.nil=>.nil
 | _,_,n + 1,.cons _ t=>Vals.drop n t
noncomputable def RelO:Option V->Option Value->Prop
 | some v,some u=>RelV v u
 | none,none=>True
 | _,_=>False
noncomputable def KV {κ:Type}:List (κ × V)->List (κ × Value)->Prop:=Paired λ(p:κ × V) (q:κ × Value)=>p.1=q.1/\RelV p.2 q.2
noncomputable def kV:Key->V
 | .inl i=>.int i
 | .inr x=>.str x
inductive HO where
 /-- a list -/
 | lst (xs:List V)
 /-- a tuple (never changes) -/
 | tup (xs:List V)
 /-- a dict whose keys are ints and texts; one whose keys are tuples of ints and texts (the empty one is both) -/
 | dK (kvs:List (Key × V)) | dT (kvs:List (List Key × V))
 /-- a set of ints: its members,its size -/
 | set (S:Int->Bool) (n:Nat)
 /-- an instance of the class at C,its dict at dx,its attributes -/
 | ins (C dx:Addr) (fs:List (Str × V))
 /-- the dict of the instance at x -/
 | own (x:Addr)
 /-- the dict of an exception -/
 | xd (fs:List (Str × V))
 /-- a bound method,f of x -/
 | met (f x:Addr)
 /-- a range object lo,lo + 1,.. below hi -/
 | rng (lo hi:Int)
 /-- a thing that is known to the object (the script; a dict while a loop walks it): read,never written while it is so -/
 | frz (o:Obj) (u:HO)
 /-- a code object's table -/
 | tbl (ps:Array Value)
 /-- any other thing,by what is true of its one object (a def of one's own: SetO a S n:=HO.ext λh=>..) -/
 | ext (φ:Heap->Prop)
noncomputable abbrev Hp:=Addr->Option HO
noncomputable def upd (H:Hp) (a:Addr) (o:HO):Hp:=λb=>if b=a then some o else H b
theorem Zc {H:Hp} {a:Addr} {o:HO}:upd H a o a=some o:=by unfold upd; rw [if_pos rfl]
theorem Ze {H:Hp} {a b:Addr} {o:HO} (h:b≠a):upd H a o b=H b:=by unfold upd; rw [if_neg h]
theorem Zpn {H:Hp} {a b:Addr} {o u:HO} (h:H a=some o) (h':H b=some u) (d:o≠u):a≠b:=by
 intro e; subst e; rw [h] at h'; exact d (Option.some.inj h')
theorem Zj {H:Hp} {a b:Addr} {o:HO} (h:H a=some o) (h':H b=none):a≠b:=by
 intro e; subst e; rw [h] at h'; cases h'
section
variable (P:Program) (w:World)
noncomputable def Yl (H:Hp) (h:Heap) (a:Addr):HO->Prop
 | .lst xs=>xs.length<=sizeLine/\∃ (its:List Value) (n:Nat),Vals xs its/\h.get? a=some { cls:=.type "list",data:=.seq its.toArray n }
 | .tup xs=>xs.length<=sizeLine/\∃ its:List Value,Vals xs its/\IsTup h a its.toArray
 | .dK kvs=>kvs.length<=sizeLine/\(a == sysModules)=false/\∃ vs,KV kvs vs/\h.DictOf (Yd P w) a vs
 | .dT kvs=>kvs.length<=sizeLine/\(a == sysModules)=false/\∃ xs:List (List Key × Addr × Value),
   Paired (λ(p:List Key × V) (q:List Key × Addr × Value)=>p.1=q.1/\H q.2.1=some (.tup (p.1.map kV))/\RelV p.2 q.2.2) kvs xs /\
   ∃ o es ep,h.get? a=some o/\o.ExactDict/\o.data=.dict es ep/\es.toList=xs.map (entryOfKey (tupleKind (Yd P w)))/\(xs.map (·.1)).Nodup
 | .set S n=>h.SetOf (intKind P w) a S n
 | .ins C dx fs=>H dx=some (.own a)/\fs.length<=1000/\dx≠a/\h.get? a=some (PySem.W.instObj C dx) /\
   ∃ mA,h.Ns1 dx mA/\(∀ f,RelO (fs.lookup f) (mA f))/\PySem.Within mA (fs.map (·.1))
 | .own _=>∃ o,h.get? a=some o
 | .xd fs=>∃ mA,h.Ns1 a mA/\∀ f,RelO (fs.lookup f) (mA f)
 | .rng lo hi=>∃ t u v,h.get? a=some { cls:=.type "range",data:=.fields #[.int lo t,.int hi u,.int 1 v] }
 | .frz o u=>h.get? a=some o/\Yl H h a u
 | .tbl ps=>h.get? a=some { cls:=.none,data:=.fields ps }
 | .met f x=>h.get? a=some (PySem.W.methodObj (.ref f) (.ref x))
 | .ext φ=>φ h/\(∃ o,h.get? a=some o)/\∀ h1 h2:Heap,φ h1->(∀ o,h1.get? a=some o->h2.get? a=some o)->φ h2
noncomputable def HOk (H:Hp) (h:Heap):Prop:=∀ a o,H a=some o->Yl P w H h a o
end
section
variable {P:Program} {w:World} {H H':Hp} {h h':Heap} {a:Addr} {o:HO}
theorem Yl.lt (x:Yl P w H h a o):a < h.objs.size:=by
 cases o with
 | lst xs=>obtain ⟨_,_,_,_,e⟩:=x; exact Heap.lt_size e
 | tup xs=>obtain ⟨_,_,_,p⟩:=x; exact p.lt
 | dK kvs=>obtain ⟨_,_,_,_,o,_,_,e,_⟩:=x; exact Heap.lt_size e
 | dT kvs=>obtain ⟨_,_,_,_,o,_,_,e,_⟩:=x; exact Heap.lt_size e
 | set S n=>obtain ⟨o,_,_,_,e,_⟩:=x; exact Heap.lt_size e
 | ins C dx fs=>obtain ⟨_,_,_,e,_⟩:=x; exact Heap.lt_size e
 | own y=>obtain ⟨_,e⟩:=x; exact Heap.lt_size e
 | xd fs=>obtain ⟨_,⟨_,_,_,e,_⟩,_⟩:=x; exact Heap.lt_size e
 | rng lo hi=>obtain ⟨_,_,_,e⟩:=x; exact Heap.lt_size e
 | frz ob u=>obtain ⟨e,_⟩:=x; exact Heap.lt_size e
 | tbl ps=>exact Heap.lt_size (show h.get? a=some _ from x)
 | met f y=>exact Heap.lt_size (show h.get? a=some _ from x)
 | ext φ=>obtain ⟨_,⟨_,e⟩,_⟩:=x; exact Heap.lt_size e
theorem Paired.mapP {α β:Type} {F G:α->β->Prop}:∀ {l₁:List α} {l₂:List β},Paired F l₁ l₂->(∀ a b,F a b->G a b)->Paired G l₁ l₂
 | _,_,.nil,_=>.nil
 | _,_,.cons r t,f=>.cons (f _ _ r) (Paired.mapP t f)
theorem Yl.stay (x:Yl P w H h a o) (k:∀ b u,(b=a\/H b=some (.own a))->h.get? b=some u->h'.get? b=some u)
  (ho:∀ b,H b=some (.own a)->H' b=some (.own a)) (ht:∀ b xs,H b=some (.tup xs)->H' b=some (.tup xs)):Yl P w H' h' a o:=by
 induction o with
 | lst xs=>obtain ⟨z,its,n,r,e⟩:=x; exact ⟨z,its,n,r,k _ _ (.inl rfl) e⟩
 | tup xs=>obtain ⟨z,its,r,ob,e,c⟩:=x; exact ⟨z,its,r,ob,k _ _ (.inl rfl) e,c⟩
 | dK kvs=>obtain ⟨z,y,vs,r,ob,es,ep,e,c⟩:=x; exact ⟨z,y,vs,r,ob,es,ep,k _ _ (.inl rfl) e,c⟩
 | dT kvs =>
  obtain ⟨z,y,xs,r,ob,es,ep,e,c⟩:=x
  exact ⟨z,y,xs,Paired.mapP r λp q z=>⟨z.1,ht _ _ z.2.1,z.2.2⟩,ob,es,ep,k _ _ (.inl rfl) e,c⟩
 | set S n=>obtain ⟨ob,es,ep,t,e,c⟩:=x; exact ⟨ob,es,ep,t,k _ _ (.inl rfl) e,c⟩
 | ins C dx fs =>
  obtain ⟨d,z,ne,e,mA,⟨od,es,ep,e2,c⟩,r⟩:=x
  exact ⟨ho _ d,z,ne,k _ _ (.inl rfl) e,mA,⟨od,es,ep,k _ _ (.inr d) e2,c⟩,r⟩
 | own y=>obtain ⟨ob,e⟩:=x; exact ⟨ob,k _ _ (.inl rfl) e⟩
 | xd fs=>obtain ⟨mA,⟨od,es,ep,e,c⟩,r⟩:=x; exact ⟨mA,⟨od,es,ep,k _ _ (.inl rfl) e,c⟩,r⟩
 | rng lo hi=>obtain ⟨t,u,v,e⟩:=x; exact ⟨t,u,v,k _ _ (.inl rfl) e⟩
 | frz ob u ih=>obtain ⟨e,q⟩:=x; exact ⟨k _ _ (.inl rfl) e,ih q⟩
 | tbl ps =>
  have e:h.get? a=some { cls:=.none,data:=.fields ps }:=x
  show h'.get? a=some { cls:=.none,data:=.fields ps }
  exact k a _ (.inl rfl) e
 | met f y =>
  have e:h.get? a=some (PySem.W.methodObj (.ref f) (.ref y)):=x
  show h'.get? a=some (PySem.W.methodObj (.ref f) (.ref y))
  exact k a _ (.inl rfl) e
 | ext φ=>obtain ⟨p,⟨o,e⟩,st⟩:=x; exact ⟨st _ _ p λo q=>k _ _ (.inl rfl) q,⟨o,k _ _ (.inl rfl) e⟩,st⟩
theorem HOk.lt (x:HOk P w H h) (e:H a=some o):a < h.objs.size:=(x a o e).lt
theorem HOk.fresh (x:HOk P w H h) (e:h.objs.size<=a):H a=none:=by
 cases q:H a with
 | none=>rfl
 | some u=>exact absurd (Nat.lt_of_lt_of_le (x.lt q) e) (Nat.lt_irrefl _)
theorem HOk.kept (x:HOk P w H h) (k:∀ b u,h.get? b=some u->h'.get? b=some u):HOk P w H h':=λa o e =>
 (x a o e).stay (λb u _ q=>k b u q) (λ_ q=>q) λ_ _ q=>q
theorem HOk.laid (x:HOk P w H h) (k:∀ b u,h.get? b=some u->h'.get? b=some u) (hp:h.objs.size<=a) (new:Yl P w (upd H a o) h' a o):HOk P w (upd H a o) h':=λb u e=>by
 have hn:=x.fresh hp
 by_cases hb:b=a
 ·subst hb; rw [Zc] at e; cases e; exact new
 ·rw [Ze hb] at e
  exact (x b u e).stay (λc v _ q=>k c v q) (λc q=>by rw [Ze (Zj q hn)]; exact q) λc xs q=>by rw [Ze (Zj q hn)]; exact q
end
noncomputable def Rd (H:Hp) (a:Addr) (u:HO):Prop:=H a=some u\/∃ o,H a=some (.frz o u)
theorem Rd.ok {P:Program} {w:World} {H:Hp} {h:Heap} {a:Addr} {u:HO} (r:Rd H a u) (x:HOk P w H h):Yl P w H h a u:=by
 rcases r with r | ⟨o,r⟩
 ·exact x a u r
 ·obtain ⟨_,q⟩:=x a _ r
  exact q
noncomputable def Mut:Option HO->Prop
 | some (.lst _)=>True
 | some (.dK _)=>True
 | some (.dT _)=>True
 | some (.set _ _)=>True
 | some (.ins _ _ _)=>True
 | some (.ext _)=>True
 | _=>False
section
variable {P:Program} {w:World} {H:Hp} {h h':Heap} {x e:Addr} {o':HO}
theorem HOk.write (ok:HOk P w H h) (mu:Mut (H x)) (he:e=x\/H e=some (.own x)) (k:∀ b u,b≠e->h.get? b=some u->h'.get? b=some u) (heo:∃ u,h'.get? e=some u)
  (new:Yl P w (upd H x o') h' x o'):HOk P w (upd H x o') h':=λb u q=>by
 have nown:∀ c y,H c=some (.own y)->c≠x:=λc y r z=>by subst z; rw [r] at mu; exact mu
 have ntup:∀ c xs,H c=some (.tup xs)->c≠x:=λc xs r z=>by subst z; rw [r] at mu; exact mu
 by_cases hb:b=x
 ·subst hb; rw [Zc] at q; cases q; exact new
 ·rw [Ze hb] at q
  by_cases hbe:b=e
  ·have q':H b=some (.own x):=by
    rcases he with z | z
    ·exact absurd (hbe.trans z) hb
    ·rw [hbe]; exact z
   rw [q] at q'; cases q'
   obtain ⟨v,hv⟩:=heo
   exact ⟨v,by rw [hbe]; exact hv⟩
  ·refine (ok b u q).stay (λc v hc r=>k c v ?_ r) (λc r=>by rw [Ze (nown c b r)]; exact r) λc xs r=>by rw [Ze (ntup c xs r)]; exact r
   rcases hc with rfl | hc
   ·exact hbe
   ·rintro rfl
    rcases he with z | z
    ·exact nown c b hc z
    ·rw [hc] at z; cases z; exact hb rfl
end
structure Un (fs ex:List Addr) (H H':Hp) (h h':Heap):Prop where
 keep:∀ b o,h.get? b=some o->H b=none->b ∉ fs->b ∉ ex->h'.get? b=some o
 slot:∀ b o,h.get? b=some o->H b=none->b∈fs->b ∉ ex->∃ sl,h'.get? b=some { o with slots:=sl }
 free:∀ b o,h.get? b=some o->H b=none->b ∉ ex->H' b=none
 there:∀ b o,h.get? b=some o->b ∉ ex->∃ o',h'.get? b=some o'
 tups:∀ b xs,H b=some (.tup xs)->H' b=some (.tup xs)
 frzs:∀ b o u,H b=some (.frz o u)->H' b=some (.frz o u)
 tbls:∀ b ps,H b=some (.tbl ps)->∃ more,H' b=some (.tbl (ps ++ more))
section
variable {fs fs' ex ex':List Addr} {H H1 H2:Hp} {h h1 h2 h':Heap} {a x e:Addr} {o:HO}
theorem Un.any (u:Un fs ex H H1 h h1) {b:Addr} {ob:Obj} (q:h.get? b=some ob) (n:H b=none) (hx:b ∉ ex):∃ sl,h1.get? b=some { ob with slots:=sl }:=by
 by_cases hb:b∈fs
 ·exact u.slot b ob q n hb hx
 ·exact ⟨ob.slots,u.keep b ob q n hb hx⟩
theorem Un.kept (k:∀ b u,h.get? b=some u->h'.get? b=some u):Un fs ex H H h h' :=
 ⟨λb ob q _ _ _=>k b ob q,λb ob q _ _ _=>⟨ob.slots,k b ob q⟩,λ_ _ _ n _=>n,λb ob q _=>⟨ob,k b ob q⟩,λ_ _ q=>q,λ_ _ _ q=>q,λ_ ps q=>⟨#[],by rw [q]; simp⟩⟩
theorem Un.refl:Un fs ex H H h h:=Un.kept λ_ _ q=>q
theorem Un.laid (k:∀ b u,h.get? b=some u->h'.get? b=some u) (hp:h.objs.size<=a) (hn:H a=none):Un fs ex H (upd H a o) h h' where
 keep:=λb u q _ _ _=>k b u q
 slot:=λb u q _ _ _=>⟨u.slots,k b u q⟩
 free:=λb u q n _=>by rw [Ze (Nat.ne_of_lt (Nat.lt_of_lt_of_le (Heap.lt_size q) hp))]; exact n
 there:=λb u q _=>⟨u,k b u q⟩
 tups:=λb xs q=>by rw [Ze (Zj q hn)]; exact q
 frzs:=λb u xs q=>by rw [Ze (Zj q hn)]; exact q
 tbls:=λb ps q=>⟨#[],by rw [Ze (Zj q hn),q]; simp⟩
theorem Un.write (mu:Mut (H x)) (he:e=x\/H e=some (.own x)) (k:∀ b u,b≠e->h.get? b=some u->h'.get? b=some u) (heo:∃ u,h'.get? e=some u):Un fs ex H (upd H x o) h h':=by
 have hx:∀ b,H b=none->b≠x:=λb n z=>by subst z; rw [n] at mu; exact mu
 have hb:∀ b,H b=none->b≠e:=λb n z=>by
  subst z
  rcases he with r | r
  ·exact hx b n r
  ·rw [n] at r; cases r
 have hm:∀ b u,H b=some u->¬ Mut (some u)->b≠x:=λb u q nm z=>by subst z; rw [q] at mu; exact nm mu
 refine ⟨λb u q n _ _=>k b u (hb b n) q,λb u q n _ _=>⟨u.slots,k b u (hb b n) q⟩,λb u q n _=>by rw [Ze (hx b n)]; exact n,λb u q _=>?_,
  λb xs q=>by rw [Ze (hm b _ q λz=>z)]; exact q,λb u xs q=>by rw [Ze (hm b _ q λz=>z)]; exact q,λb ps q=>⟨#[],by rw [Ze (hm b _ q λz=>z),q]; simp⟩⟩
 by_cases hbe:b=e
 ·subst hbe; exact heo
 ·exact ⟨u,k b u hbe q⟩
end
noncomputable def trk (h:Heap) (H:Hp):List Addr:=(List.range h.objs.size).filter λa=>(H a).isSome
noncomputable def hidT (h:Heap) (H:Hp):Heap:=PySem.W.hideAll h (trk h H)
theorem Ziw (h:Heap) (H:Hp):(hidT h H).objs.size=h.objs.size:=PySem.W.hideAll_size _ _
theorem Zkr {h:Heap} {H:Hp} {b:Addr} {o:Obj} (e:h.get? b=some o) (n:H b=none):(hidT h H).get? b=some o :=
 PySem.W.hideAll_get _ e λhm=>by
  have q:(H b).isSome=true:=(List.mem_filter.mp hm).2
  rw [n] at q; simp at q
theorem Zmp {h:Heap} {H:Hp} {b:Addr} {o:Obj} (e:(hidT h H).get? b=some o):h.get? b=some o/\H b=none:=by
 have e':h.get? b=some o:=PySem.W.of_hideAll (trk h H) e
 refine ⟨e',?_⟩
 cases q:H b with
 | none=>rfl
 | some x =>
  have hm:b∈trk h H:=List.mem_filter.mpr ⟨List.mem_range.mpr (Heap.lt_size e'),by simp [q]⟩
  have z:(hidT h H).get? b=none:=PySem.W.hideAll_none (trk h H) hm
  rw [z] at e; cases e
noncomputable def Znc (g h:Heap) (L:Addr):List (Addr × Obj):=(List.range h.objs.size).filterMap λa=>if a=L\/(g.get? a).isSome=true then none else (h.get? a).map λo=>(a,o)
noncomputable def rest (g h:Heap) (L d:Addr):List (Addr × Obj):=(Znc g h L).filter λp=>decide (p.1≠d)
structure Mod (K:PySem.W.Frag) (mg:Str->Option Value) (base:Heap):Prop where
 kin:K.In base
 glob:base.Ns mainGlobals mg
 blt:∃ mb,base.Ns builtinsNs mb/\∀ x:Str,x≠"__name__"->mb x=bootBuiltins x
 nolimit:base.NoLimit
structure Cx where
 prog:Program
 w:World
 K:PySem.W.Frag
 mg:Str->Option Value
 base:Heap
 A:Around
 N:List Str
 s₀:Shared
 H₀:Hp
 env:Env
 outer:List Env
 stack:List Env
 ex:List Addr
 fn:Str->Bool
 calm:Bool
 pn:List (Addr × Obj)
 xe:Value->Shared->Prop
noncomputable def frs (l:List Env):List Addr:=l.filterMap (·.frame)
noncomputable abbrev Cx.fs (X:Cx):List Addr:=frs X.outer
noncomputable def Vis (sc:Scope) (x:Str):Prop:=sc.names.lookup x=some .local\/sc.names.lookup x=some .cell\/sc.names.lookup x=some .free
noncomputable def Loc (sc:Scope) (x:Str):Prop:=sc.names.lookup x=some .local\/sc.names.lookup x=some .cell
noncomputable def Look (env:Env) (h:Heap) (m:Str->Option Value) (x:Str) (u:Value):Prop :=
 (env.kindOf x=some .local/\m x=some u)\/((env.kindOf x=some .cell\/env.kindOf x=some .free)/\∃ c,env.cells.lookup x=some c/\h.IsCell c (some u))
structure Cx.Ok (X:Cx):Prop where
 mod:Mod X.K X.mg X.base
 kind:X.env.scope.kind=.function
 glob:X.env.globals=mainGlobals
 blt:X.env.builtins=builtinsNs
 above:X.s₀.heap.objs.size<=X.env.locals
 inj:∀ x y c,X.env.cells.lookup x=some c->X.env.cells.lookup y=some c->x=y
 has:∀ x,(X.env.kindOf x=some .cell\/X.env.kindOf x=some .free)->∃ c,X.env.cells.lookup x=some c
 cab:∀ x c,X.fn x=true->X.env.cells.lookup x=some c->X.s₀.heap.objs.size<=c
 hd:X.calm=true->X.A.handled=none
 frames:X.A.frames=some X.stack
 stk:X.stack=X.outer\/(X.stack=X.env :: X.outer/\X.env.frame=some X.env.locals)
 exf:∀ b∈X.ex,b≠X.env.locals/\∀ x c,X.env.cells.lookup x=some c->c≠b
 bs:∀ b o,X.base.get? b=some o->X.s₀.heap.get? b=some o/\X.H₀ b=none
 bsz:X.base.objs.size<=X.s₀.heap.objs.size
 noex:∀ b o,X.base.get? b=some o->b ∉ X.ex
 exfs:∀ b∈X.ex,b ∉ X.fs
 funs:X.s₀.heap.FunFrames X.base X.outer
 frf:∀ b∈X.fs,X.H₀ b=none
structure Inv (X:Cx) (pins:List (Addr × Obj)) (σ:List (Option V)) (H:Hp) (s:Shared):Prop where
 ok:X.Ok
 os:s.os=X.s₀.os
 bare:AllBare s.gens
 base:Un X.fs X.ex X.H₀ H X.s₀.heap s.heap
 loc:∃ m,s.heap.Ns X.env.locals m/\∀ (i:Nat) (x:Str) (v:V),X.N[i]?=some x->σ[i]?=some (some v)->Vis X.env.scope x->∃ u,RelV v u/\Look X.env s.heap m x u
 cell:∀ x c,X.env.cells.lookup x=some c->∃ v,s.heap.IsCell c v
 free:H X.env.locals=none
 freeC:∀ x c,X.env.cells.lookup x=some c->H c=none
 pin:∀ p∈X.pn ++ pins,s.heap.get? p.1=some p.2/\H p.1=none/\p.1≠X.env.locals/\p.1 ∉ X.fs/\∀ v,p.2.data≠.cell v
 hok:HOk X.prog X.w H s.heap
 len:σ.length=X.N.length
section
variable {X:Cx} {pins:List (Addr × Obj)} {σ:List (Option V)} {H H':Hp} {s:Shared} {h':Heap}
theorem Cx.Ok.nofr (ok:X.Ok) {b:Addr} {o:Obj} (e:X.base.get? b=some o):b ∉ X.fs:=λhb=>by
 have:=(ok.funs.mem hb).1
 rw [e] at this; cases this
theorem Inv.bs (I:Inv X pins σ H s):∀ b o,X.base.get? b=some o->s.heap.get? b=some o/\H b=none:=λb o e =>
 ⟨I.base.keep b o (I.ok.bs b o e).1 (I.ok.bs b o e).2 (I.ok.nofr e) (I.ok.noex b o e),I.base.free b o (I.ok.bs b o e).1 (I.ok.bs b o e).2 (I.ok.noex b o e)⟩
theorem Inv.bk (I:Inv X pins σ H s):∀ b o,X.base.get? b=some o->s.heap.get? b=some o:=λb o e=>(I.bs b o e).1
theorem Inv.mod (I:Inv X pins σ H s):Mod X.K X.mg X.base:=I.ok.mod
theorem Inv.kIn (I:Inv X pins σ H s):X.K.In s.heap:=I.ok.mod.kin.keeps I.bk
theorem Inv.lt (I:Inv X pins σ H s):X.env.locals < s.heap.objs.size:=let ⟨_,hn,_⟩:=I.loc; hn.lt
theorem Inv.sz (I:Inv X pins σ H s):X.s₀.heap.objs.size<=s.heap.objs.size:=Nat.le_trans I.ok.above (Nat.le_of_lt I.lt)
theorem Inv.nofs (I:Inv X pins σ H s) {a:Addr} (h:s.heap.objs.size<=a):a ∉ X.fs:=λhb=>by
 obtain ⟨_,o,ho,_⟩:=I.ok.funs.mem hb
 exact absurd (Nat.lt_of_lt_of_le (Heap.lt_size ho) (Nat.le_trans I.sz h)) (Nat.lt_irrefl _)
theorem Inv.cne (I:Inv X pins σ H s):∀ x c,X.env.cells.lookup x=some c->c≠X.env.locals:=λx c e z=>by
 obtain ⟨v,o,ho,hd⟩:=I.cell x c e
 obtain ⟨m,⟨o',es,ep,ho',hd',_⟩,_⟩:=I.loc
 rw [z,ho'] at ho; cases ho; rw [hd'] at hd; cases hd
theorem Inv.funs (I:Inv X pins σ H s):s.heap.FunFrames X.base X.outer:=by
 have all:∀ (l:List Env),(∀ b∈frs l,b∈X.fs)->X.s₀.heap.FunFrames X.base l->s.heap.FunFrames X.base l:=by
  intro l
  induction l with
  | nil=>intro _ _; trivial
  | cons env r ih =>
   intro hs hl
   obtain ⟨hk,⟨L,o,hf,hn,ho,hd⟩,hr⟩:=hl
   have hL:L∈X.fs:=hs L (by unfold frs; rw [List.filterMap_cons,hf]; exact List.mem_cons_self)
   obtain ⟨sl,e⟩:=I.base.slot L o ho (I.ok.frf L hL) hL λz=>I.ok.exfs L z hL
   exact ⟨hk,⟨L,_,hf,hn,e,hd⟩,ih (λb hb=>hs b (by unfold frs; rw [List.filterMap_cons,hf]; exact List.mem_cons_of_mem _ hb)) hr⟩
 exact all X.outer (λ_ hb=>hb) I.ok.funs
theorem Inv.stack (I:Inv X pins σ H s):s.heap.FunFrames X.base X.stack:=by
 rcases I.ok.stk with e | ⟨e,hf⟩
 ·rw [e]; exact I.funs
 ·rw [e]
  obtain ⟨m,hn,_⟩:=I.loc
  refine .cons (by rw [I.ok.kind]; decide) hf hn ?_ I.funs
  exact Heap.get?_none_of_le (Nat.le_trans I.ok.bsz I.ok.above)
theorem Inv.stkSub (I:Inv X pins σ H s):∀ b∈frs X.stack,b∈X.env.locals :: X.fs:=λb hb=>by
 rcases I.ok.stk with e | ⟨e,hf⟩
 ·rw [e] at hb; exact List.mem_cons_of_mem _ hb
 ·rw [e] at hb
  unfold frs at hb
  rw [List.filterMap_cons,hf] at hb
  exact hb
theorem Inv.stkFree (I:Inv X pins σ H s):∀ b∈frs X.stack,H b=none:=λb hb=>by
 rcases List.mem_cons.mp (I.stkSub b hb) with e | hb
 ·rw [e]; exact I.free
 ·obtain ⟨_,o,ho,_⟩:=I.ok.funs.mem hb
  exact I.base.free b o ho (I.ok.frf b hb) λz=>I.ok.exfs b z hb
theorem Inv.step {g':Array GenState} {t':Nat} {d':Drawn} {ch:List Addr} (I:Inv X pins σ H s)
  (hch:∀ b∈ch,(b∈X.ex\/X.s₀.heap.objs.size<=b)/\b≠X.env.locals/\(∀ x c,X.env.cells.lookup x=some c->c≠b)/\∀ p∈X.pn ++ pins,p.1≠b)
  (keep:∀ b o,b≠X.env.locals->b ∉ X.fs->b ∉ ch->s.heap.get? b=some o->H b=none->h'.get? b=some o)
  (slot:∀ b o,b≠X.env.locals->b∈X.fs->b ∉ ch->s.heap.get? b=some o->H b=none->∃ sl,h'.get? b=some { o with slots:=sl }) (free:∀ b o,b ∉ ch->s.heap.get? b=some o->H b=none->H' b=none)
  (there:∀ b o,b ∉ ch->s.heap.get? b=some o->∃ o',h'.get? b=some o')
  (tups:∀ b xs,H b=some (.tup xs)->H' b=some (.tup xs)) (frzs:∀ b o u,H b=some (.frz o u)->H' b=some (.frz o u)) (tbls:∀ b ps,H b=some (.tbl ps)->∃ more,H' b=some (.tbl (ps ++ more)))
  (ns:∀ m,s.heap.Ns X.env.locals m->h'.Ns X.env.locals m) (hok:HOk X.prog X.w H' h') (hg:AllBare g') :
  Inv X pins σ H' { s with heap:=h',gens:=g',drawn:=d',toks:=t' }:=by
 have neL:∀ b o,X.s₀.heap.get? b=some o->b≠X.env.locals:=λb o e=>Nat.ne_of_lt (Nat.lt_of_lt_of_le (Heap.lt_size e) I.ok.above)
 have neC:∀ b o,X.s₀.heap.get? b=some o->b ∉ X.ex->b ∉ ch:=λb o e hx hb=>by
  rcases (hch b hb).1 with z | z
  ·exact hx z
  ·exact absurd (Nat.lt_of_lt_of_le (Heap.lt_size e) z) (Nat.lt_irrefl _)
 have cellK:∀ x c,X.env.cells.lookup x=some c->∀ v,s.heap.IsCell c v->h'.IsCell c v:=λx c e v ⟨o,ho,hd⟩=>by
  have nch:c ∉ ch:=λz=>(hch c z).2.2.1 x c e rfl
  by_cases hc:c∈X.fs
  ·obtain ⟨sl,q⟩:=slot c o (I.cne x c e) hc nch ho (I.freeC x c e)
   exact ⟨_,q,hd⟩
  ·exact ⟨o,keep c o (I.cne x c e) hc nch ho (I.freeC x c e),hd⟩
 refine ⟨I.ok,I.os,hg,⟨λb o e n hb hx=>?_,λb o e n hb hx=>?_,λb o e n hx=>?_,λb o e hx=>?_,λb xs e=>tups b xs (I.base.tups b xs e),λb o xs e=>frzs b o xs (I.base.frzs b o xs e),λb ps e=>?_⟩,?_,λx c e=>?_,?_,λx c e=>?_,λp hp=>?_,hok,I.len⟩
 ·exact keep b o (neL b o e) hb (neC b o e hx) (I.base.keep b o e n hb hx) (I.base.free b o e n hx)
 ·obtain ⟨sl,e1⟩:=I.base.slot b o e n hb hx
  obtain ⟨sl',e2⟩:=slot b _ (neL b o e) hb (neC b o e hx) e1 (I.base.free b o e n hx)
  exact ⟨sl',e2⟩
 ·obtain ⟨o',e1⟩:=I.base.there b o e hx
  exact free b o' (neC b o e hx) e1 (I.base.free b o e n hx)
 ·obtain ⟨o',e1⟩:=I.base.there b o e hx
  exact there b o' (neC b o e hx) e1
 ·obtain ⟨m1,e1⟩:=I.base.tbls b ps e
  obtain ⟨m2,e2⟩:=tbls b _ e1
  exact ⟨m1 ++ m2,by rw [e2,Array.append_assoc]⟩
 ·obtain ⟨m,hn,hl⟩:=I.loc
  refine ⟨m,ns m hn,λi x v e1 e2 e3=>?_⟩
  obtain ⟨u,r,l⟩:=hl i x v e1 e2 e3
  refine ⟨u,r,?_⟩
  rcases l with l | ⟨k,c,e,z⟩
  ·exact .inl l
  ·exact .inr ⟨k,c,e,cellK x c e _ z⟩
 ·obtain ⟨v,z⟩:=I.cell x c e
  exact ⟨v,cellK x c e v z⟩
 ·obtain ⟨m,⟨o,_,_,ho,_⟩,_⟩:=I.loc
  exact free _ o (λz=>(hch _ z).2.1 rfl) ho I.free
 ·obtain ⟨v,o,ho,hd⟩:=I.cell x c e
  exact free c o (λz=>(hch c z).2.2.1 x c e rfl) ho (I.freeC x c e)
 ·obtain ⟨e,n,ne,nf,d⟩:=I.pin p hp
  have nch:p.1 ∉ ch:=λz=>(hch p.1 z).2.2.2 p hp rfl
  exact ⟨keep p.1 p.2 ne nf nch e n,free p.1 p.2 nch e n,ne,nf,d⟩
theorem Inv.un {t':Nat} (I:Inv X pins σ H s) (u:Un X.fs [] H H' s.heap h') (hok:HOk X.prog X.w H' h'):Inv X pins σ H' { s with heap:=h',toks:=t' }:=by
 obtain ⟨m,⟨o,es,ep,ho,r⟩,_⟩:=id I.loc
 obtain ⟨sl,hL⟩:=u.any ho I.free (by simp)
 exact I.step (g':=s.gens) (d':=s.drawn) (ch:=[]) (λ_ z=>nomatch z) (λb o _ hb _ e n=>u.keep b o e n hb (by simp)) (λb o _ hb _ e n=>u.slot b o e n hb (by simp)) (λb o _ e n=>u.free b o e n (by simp)) (λb o _ e=>u.there b o e (by simp)) u.tups u.frzs u.tbls (λm' hm=>by
  obtain ⟨o',es',ep',ho',r'⟩:=hm
  rw [ho] at ho'; cases ho'
  exact ⟨_,es',ep',hL,r'⟩) hok I.bare
theorem Inv.call {g':Array GenState} {t':Nat} {d':Drawn} {ch:List Addr} (I:Inv X pins σ H s) (u:Un (frs X.stack) ch H H' s.heap h') (hok:HOk X.prog X.w H' h') (hg:AllBare g')
  (hch:∀ b∈ch,(b∈X.ex\/X.s₀.heap.objs.size<=b)/\b≠X.env.locals/\(∀ x c,X.env.cells.lookup x=some c->c≠b)/\∀ p∈X.pn ++ pins,p.1≠b) :
  Inv X pins σ H' { s with heap:=h',gens:=g',drawn:=d',toks:=t' }:=by
 obtain ⟨m,⟨o,es,ep,ho,r⟩,_⟩:=id I.loc
 obtain ⟨sl,hL⟩:=u.any ho I.free λz=>(hch _ z).2.1 rfl
 exact I.step (ch:=ch) hch (λb o hL hb hc e n=>u.keep b o e n (λz=>(List.mem_cons.mp (I.stkSub b z)).elim hL hb) hc) (λb o _ _ hc e n=>u.any e n hc) (λb o hc e n=>u.free b o e n hc) (λb o hc e=>u.there b o e hc) u.tups u.frzs u.tbls (λm' hm=>by
  obtain ⟨o',es',ep',ho',r'⟩:=hm
  rw [ho] at ho'; cases ho'
  exact ⟨_,es',ep',hL,r'⟩) hok hg
theorem Inv.turned {t':Nat} {it:Addr} (I:Inv X pins σ H s) (k:∀ b o,b≠it->s.heap.get? b=some o->h'.get? b=some o) (hn:H it=none) (hL:it≠X.env.locals)
  (h1:it∈X.ex\/X.s₀.heap.objs.size<=it) (h2:∀ x c,X.env.cells.lookup x=some c->c≠it) (h3:∀ p∈X.pn ++ pins,p.1≠it):Inv X pins σ H { s with heap:=h',toks:=t' }:=by
 have nit:∀ b u,H b=some u->b≠it:=λb u e z=>by rw [z,hn] at e; cases e
 refine I.step (g':=s.gens) (d':=s.drawn) (ch:=[it]) (λb hb=>?_) (λb o _ _ hc e _=>k b o (λz=>hc (by simp [z])) e) (λb o _ _ hc e _=>⟨o.slots,k b o (λz=>hc (by simp [z])) e⟩) (λ_ _ _ _ n=>n)
  (λb o hc e=>⟨o,k b o (λz=>hc (by simp [z])) e⟩) (λ_ _ e=>e) (λ_ _ _ e=>e) (λb ps e=>⟨#[],by rw [e]; simp⟩) (λm hm=>?_) (λb u e=>?_) I.bare
 ·have e:b=it:=by simpa using hb
  subst e
  exact ⟨h1,hL,h2,h3⟩
 ·obtain ⟨o,es,ep,ho,r⟩:=hm
  exact ⟨o,es,ep,k _ o (Ne.symm hL) ho,r⟩
 ·refine (I.hok b u e).stay (λc v hc q=>k c v ?_ q) (λ_ q=>q) λ_ _ q=>q
  rcases hc with z | z
  ·rw [z]; exact nit b u e
  ·exact nit c _ z
theorem Inv.tok (I:Inv X pins σ H s) (t:Nat):Inv X pins σ H { s with toks:=t }:=I.un (h':=s.heap) (t':=t) Un.refl I.hok
theorem Inv.kept {t':Nat} (I:Inv X pins σ H s) (k:∀ b u,s.heap.get? b=some u->h'.get? b=some u):Inv X pins σ H { s with heap:=h',toks:=t' }:=I.un (Un.kept k) (I.hok.kept k)
theorem Inv.laid {a:Addr} {o:HO} {t':Nat} (I:Inv X pins σ H s) (k:∀ b u,s.heap.get? b=some u->h'.get? b=some u) (hp:s.heap.objs.size<=a) (new:Yl X.prog X.w (upd H a o) h' a o) :
  Inv X pins σ (upd H a o) { s with heap:=h',toks:=t' }:=I.un (Un.laid k hp (I.hok.fresh hp)) (I.hok.laid k hp new)
theorem Inv.write {x e:Addr} {o:HO} {t':Nat} (I:Inv X pins σ H s) (mu:Mut (H x)) (he:e=x\/H e=some (.own x)) (k:∀ b u,b≠e->s.heap.get? b=some u->h'.get? b=some u) (heo:∃ u,h'.get? e=some u)
  (new:Yl X.prog X.w (upd H x o) h' x o):Inv X pins σ (upd H x o) { s with heap:=h',toks:=t' }:=I.un (Un.write mu he k heo) (I.hok.write mu he k heo new)
theorem Inv.pins_of {pins':List (Addr × Obj)} (I:Inv X pins σ H s) (h:∀ p∈pins',s.heap.get? p.1=some p.2/\H p.1=none/\p.1≠X.env.locals/\p.1 ∉ X.fs/\∀ v,p.2.data≠.cell v):Inv X pins' σ H s :=
 ⟨I.ok,I.os,I.bare,I.base,I.loc,I.cell,I.free,I.freeC,λp hp=>(List.mem_append.mp hp).elim (λz=>I.pin p (List.mem_append_left _ z)) (h p),I.hok,I.len⟩
theorem K1 {N:List Str} (hN:N.Nodup) {i j:Nat} {x:Str} (a:N[i]?=some x) (b:N[j]?=some x):i=j:=by
 obtain ⟨h1,e1⟩:=List.getElem?_eq_some_iff.mp a
 obtain ⟨h2,e2⟩:=List.getElem?_eq_some_iff.mp b
 exact (List.getElem_inj hN).mp (e1.trans e2.symm)
theorem Ut {M:Model} {A:Around} {E:Value->Shared->Prop} {i:Nat} {x:Str} {v:V} {u:Value} {Q:Unit->Shared->Prop} (I:Inv X pins σ H s) (hN:X.N.Nodup) (hi:X.N[i]?=some x) (hx:Loc X.env.scope x) (r:RelV v u)
  (h:∀ s',Inv X pins (σ.set i (some v)) H s'->(∃ a,Heap.SameBut a s.heap s'.heap/\(a=X.env.locals\/X.env.cells.lookup x=some a))->Q () s') (hf:X.fn x=true\/X.env.scope.names.lookup x=some .local:=by first | exact .inl rfl | exact .inr rfl | assumption):wpAny M A (storeName X.env x u) Q E s:=by
 obtain ⟨m,hn,hl⟩:=id I.loc
 have hcls:(X.env.scope.kind == .class || (X.env.scope.kind == .module && X.env.locals != X.env.globals))=false:=by rw [I.ok.kind]; rfl
 have hiσ:i < σ.length:=by rw [I.len]; exact (List.getElem?_eq_some_iff.mp hi).1
 have cne:=I.cne
 have tracked:∀ {a:Addr} {h':Heap},(∃ o,s.heap.get? a=some o/\H a=none)->Heap.SameBut a s.heap h'->HOk X.prog X.w H h':=λ{a h'} ha hs b ob e=>by
  obtain ⟨_,_,hfree⟩:=ha
  refine (I.hok b ob e).stay (λc w' hc q=>(hs.2 c ?_).trans q) (λ_ q=>q) λ_ _ q=>q
  rintro rfl
  rcases hc with rfl | hc
  ·rw [hfree] at e; cases e
  ·rw [hfree] at hc; cases hc
 rcases hx with hk | hk
 ·refine wpAny_storeName_local hk hn (λh' hn' hs=>?_) hcls
  obtain ⟨oL,_,_,hoL,_⟩:=id hn
  refine h _ ⟨I.ok,I.os,I.bare,⟨λb o e n hb hx=>?_,λb o e n hb hx=>?_,I.base.free,λb o e hx=>?_,I.base.tups,I.base.frzs,I.base.tbls⟩,⟨_,hn',λj y v' e1 e2 e3=>?_⟩,λy c e=>?_,I.free,I.freeC,λp hp=>?_,tracked ⟨oL,hoL,I.free⟩ hs,by simpa using I.len⟩ ⟨_,hs,.inl rfl⟩
  ·exact (hs.2 b (Nat.ne_of_lt (Nat.lt_of_lt_of_le (Heap.lt_size e) I.ok.above))).trans (I.base.keep b o e n hb hx)
  ·obtain ⟨sl,e1⟩:=I.base.slot b o e n hb hx
   exact ⟨sl,(hs.2 b (Nat.ne_of_lt (Nat.lt_of_lt_of_le (Heap.lt_size e) I.ok.above))).trans e1⟩
  ·obtain ⟨o',e1⟩:=I.base.there b o e hx
   exact ⟨o',(hs.2 b (Nat.ne_of_lt (Nat.lt_of_lt_of_le (Heap.lt_size e) I.ok.above))).trans e1⟩
  ·by_cases hj:j=i
   ·subst hj
    rw [hi] at e1; cases e1
    rw [List.getElem?_set_self hiσ] at e2
    cases e2
    exact ⟨u,r,.inl ⟨hk,by simp⟩⟩
   ·rw [List.getElem?_set_ne (Ne.symm hj)] at e2
    obtain ⟨u',r',q⟩:=hl j y v' e1 e2 e3
    refine ⟨u',r',?_⟩
    rcases q with ⟨k,e⟩ | ⟨k,c,e,z⟩
    ·refine .inl ⟨k,?_⟩
     have:y≠x:=λe=>hj (K1 hN e1 (e ▸ hi))
     simp [this,e]
    ·exact .inr ⟨k,c,e,z.sameBut hs (cne y c e)⟩
  ·obtain ⟨w',z⟩:=I.cell y c e
   exact ⟨w',z.sameBut hs (cne y c e)⟩
  ·obtain ⟨e,n,ne,nf,d⟩:=I.pin p hp
   exact ⟨(hs.2 p.1 ne).trans e,n,ne,nf,d⟩
 ·have hfn:X.fn x=true:=by
   rcases hf with z | z
   ·exact z
   ·rw [z] at hk; cases hk
  obtain ⟨c,hc⟩:=I.ok.has x (.inl hk)
  obtain ⟨w',z⟩:=I.cell x c hc
  refine wpAny_storeName_cell I.ok.kind hk hc z (λh' hc' hs=>?_)
  obtain ⟨oc,hoc,hocd⟩:=id z
  refine h { s with heap:=h' } ⟨I.ok,I.os,I.bare,⟨λb o e n hb hx=>?_,λb o e n hb hx=>?_,I.base.free,λb o e hx=>?_,I.base.tups,I.base.frzs,I.base.tbls⟩,⟨m,hn.sameBut hs (Ne.symm (cne x c hc)),λj y v' e1 e2 e3=>?_⟩,λy c' e=>?_,I.free,I.freeC,λp hp=>?_,tracked ⟨oc,hoc,I.freeC x c hc⟩ hs,by simpa using I.len⟩ ⟨c,hs,.inr hc⟩
  ·exact (hs.2 b (Nat.ne_of_lt (Nat.lt_of_lt_of_le (Heap.lt_size e) (I.ok.cab x c hfn hc)))).trans (I.base.keep b o e n hb hx)
  ·obtain ⟨sl,e1⟩:=I.base.slot b o e n hb hx
   exact ⟨sl,(hs.2 b (Nat.ne_of_lt (Nat.lt_of_lt_of_le (Heap.lt_size e) (I.ok.cab x c hfn hc)))).trans e1⟩
  ·obtain ⟨o',e1⟩:=I.base.there b o e hx
   exact ⟨o',(hs.2 b (Nat.ne_of_lt (Nat.lt_of_lt_of_le (Heap.lt_size e) (I.ok.cab x c hfn hc)))).trans e1⟩
  ·by_cases hj:j=i
   ·subst hj
    rw [hi] at e1; cases e1
    rw [List.getElem?_set_self hiσ] at e2
    cases e2
    exact ⟨u,r,.inr ⟨.inl hk,c,hc,hc'⟩⟩
   ·rw [List.getElem?_set_ne (Ne.symm hj)] at e2
    obtain ⟨u',r',q⟩:=hl j y v' e1 e2 e3
    refine ⟨u',r',?_⟩
    rcases q with q | ⟨k,c',e,z'⟩
    ·exact .inl q
    ·refine .inr ⟨k,c',e,z'.sameBut hs ?_⟩
     rintro rfl
     exact hj (K1 hN e1 (I.ok.inj _ _ _ e hc ▸ hi))
  ·by_cases hcc:c'=c
   ·subst hcc; exact ⟨_,hc'⟩
   ·obtain ⟨w2,z2⟩:=I.cell y c' e
    exact ⟨w2,z2.sameBut hs hcc⟩
  ·obtain ⟨e,n,ne,nf,d⟩:=I.pin p hp
   refine ⟨(hs.2 p.1 ?_).trans e,n,ne,nf,d⟩
   intro q
   rw [q,hoc] at e
   have q':oc=p.2:=Option.some.inj e
   exact d w' (by rw [<- q']; exact hocd)
theorem Wu {M:Model} {A:Around} {E:Value->Shared->Prop} {i:Nat} {x:Str} {v:V} {u:Value} {Q:Unit->Shared->Prop} (I:Inv X pins σ H s) (hN:X.N.Nodup) (hi:X.N[i]?=some x) (hx:Loc X.env.scope x) (r:RelV v u)
  (h:∀ s',Inv X pins (σ.set i (some v)) H s'->Q () s') (hf:X.fn x=true\/X.env.scope.names.lookup x=some .local:=by first | exact .inl rfl | exact .inr rfl | assumption):wpAny M A (storeName X.env x u) Q E s :=
 Ut I hN hi hx r (λs' I' _=>h s' I') hf
theorem Inv.call' {s':Shared} {ch:List Addr} (I:Inv X pins σ H s) (ho:s'.os=s.os) (u:Un (frs X.stack) ch H H' s.heap s'.heap) (hok:HOk X.prog X.w H' s'.heap) (hg:AllBare s'.gens)
  (hch:∀ b∈ch,(b∈X.ex\/X.s₀.heap.objs.size<=b)/\b≠X.env.locals/\(∀ x c,X.env.cells.lookup x=some c->c≠b)/\∀ p∈X.pn ++ pins,p.1≠b):Inv X pins σ H' s':=by
 obtain ⟨h',g',d',t',o'⟩:=s'
 have e:o'=s.os:=ho
 subst e
 exact I.call (g':=g') (t':=t') (d':=d') u hok hg hch
end
noncomputable abbrev XK:=Value->Option Addr->Hp->Prop
noncomputable abbrev St:=List (Option V)
noncomputable abbrev VK:=V->Hp->Prop
noncomputable abbrev TE:=St->Hp->VK->Prop
noncomputable abbrev TT:=St->Hp->(Bool->Hp->Prop)->Prop
noncomputable abbrev TA:=St->Hp->(List V->Hp->Prop)->Prop
structure Ends where
 nx:St->Hp->Prop
 rt:VK
 bk:St->Hp->Prop:=λ_ _=>False
 ct:St->Hp->Prop:=λ_ _=>False
noncomputable abbrev TS:=Ends->St->Hp->Prop
noncomputable def EP (X:Cx) (pins:List (Addr × Obj)) (σ:St) (Q:VK) (u:Value) (s':Shared):Prop:=∃ v H',Inv X pins σ H' s'/\RelV v u/\Q v H'
noncomputable def TP (X:Cx) (pins:List (Addr × Obj)) (σ:St) (Q:Bool->Hp->Prop) (b:Bool) (s':Shared):Prop:=∃ H',Inv X pins σ H' s'/\Q b H'
noncomputable def AP (X:Cx) (pins:List (Addr × Obj)) (σ:St) (Q:List V->Hp->Prop) (us:List Value) (s':Shared):Prop:=∃ vs H',Inv X pins σ H' s'/\Vals vs us/\Q vs H'
noncomputable def SP (X:Cx) (pins:List (Addr × Obj)) (D:Ends) (f:Flow) (s':Shared):Prop :=
 match f with
 | .next=>∃ σ' H',Inv X pins σ' H' s'/\D.nx σ' H'
 | .brk=>∃ σ' H',Inv X pins σ' H' s'/\D.bk σ' H'
 | .cont=>∃ σ' H',Inv X pins σ' H' s'/\D.ct σ' H'
 | .ret u=>∃ v σ' H',Inv X pins σ' H' s'/\RelV v u/\D.rt v H'
noncomputable def PE (X:Cx) (e:Expr) (t:TE):Prop :=
 ∀ (pins:List (Addr × Obj)) (s:Shared) (σ:St) (H:Hp) (Q:VK),Inv X pins σ H s->t σ H Q->wpAny (model X.prog X.w) X.A (eval e X.env) (EP X pins σ Q) X.xe s
noncomputable def PT (X:Cx) (e:Expr) (t:TT):Prop :=
 ∀ (pins:List (Addr × Obj)) (s:Shared) (σ:St) (H:Hp) (Q:Bool->Hp->Prop),Inv X pins σ H s->t σ H Q->wpAny (model X.prog X.w) X.A (isTrue e X.env (eval e X.env)) (TP X pins σ Q) X.xe s
noncomputable def PW (X:Cx) (e:Expr) (t:TT):Prop :=
 ∀ (whole:Sem Value) (pins:List (Addr × Obj)) (s:Shared) (σ:St) (H:Hp) (Q:Bool->Hp->Prop),Inv X pins σ H s->t σ H Q->wpAny (model X.prog X.w) X.A (isTrue e X.env whole) (TP X pins σ Q) X.xe s
theorem PW.pt {X:Cx} {e:Expr} {t:TT} (h:PW X e t):PT X e t:=h _
noncomputable def PA (X:Cx) (es:List Expr) (t:TA):Prop :=
 ∀ (pos:Pos) (pins:List (Addr × Obj)) (s:Shared) (σ:St) (H:Hp) (Q:List V->Hp->Prop),Inv X pins σ H s->t σ H Q->wpAny (model X.prog X.w) X.A (spliced (backTo pos (starEach es X.env))) (AP X pins σ Q) X.xe s
noncomputable def PS (X:Cx) (st:Stmt) (t:TS):Prop :=
 ∀ (pins:List (Addr × Obj)) (s:Shared) (σ:St) (H:Hp) (D:Ends),Inv X pins σ H s->t D σ H->wpAny (model X.prog X.w) X.A (exec st X.env) (SP X pins D) X.xe s
noncomputable def PSs (X:Cx) (st:List Stmt) (t:TS):Prop :=
 ∀ (pins:List (Addr × Obj)) (s:Shared) (σ:St) (H:Hp) (D:Ends),Inv X pins σ H s->t D σ H->wpAny (model X.prog X.w) X.A (execs st X.env) (SP X pins D) X.xe s
theorem thn {α:Type} {t:Sem α} {Q Q':α->Shared->Prop} {M:Model} {A:Around} {E:Value->Shared->Prop} {s:Shared} (h:wpAny M A t Q E s) (hQ:∀ a s,Q a s->Q' a s):wpAny M A t Q' E s:=wpAny_mono h hQ λ_ _ x=>x
section
variable {X:Cx}
noncomputable def tVar (i:Nat):TE:=λσ H Q=>∃ v,σ[i]?=some (some v)/\Q v H
noncomputable def tC (v:V):TE:=λ_ H Q=>Q v H
theorem Zn7 {i:Nat} {x:Str} {pos:Pos} (hN:X.N[i]?=some x) (hv:Vis X.env.scope x) (hd:(x == ("__debug__":Str))=false:=by decide) (hcd:(x == ("__classdict__":Str))=false:=by decide):PE X (.Name x pos) (tVar i):=by
 intro pins s σ H Q I h
 obtain ⟨v,e,h⟩:=h
 obtain ⟨m,hn,hl⟩:=I.loc
 obtain ⟨u,r,l⟩:=hl i x v hN e hv
 have fin:EP X pins σ Q u s:=⟨v,H,I,r,h⟩
 rcases l with ⟨hk,hm⟩ | ⟨hk,c,hc,hcell⟩
 ·exact wpAny_Name (wpAny_loadName_local I.ok.kind hk hn hm fin) hd
 ·rcases hk with hk | hk
  ·exact wpAny_Name (wpAny_loadName_cell I.ok.kind hk hc hcell fin) hd
  ·exact wpAny_Name (wpAny_loadName_free I.ok.kind hk hc hcell fin hcd) hd
theorem Zd {i j pos}:PE X (.Constant (.int i) j pos) (tC (.int i)):=λ_ _ _ H _ I h=>wpAny_Constant_int ⟨.int i,H,I.tok _,⟨_,rfl⟩,h⟩
theorem Vb {b j pos}:PE X (.Constant (.bool b) j pos) (tC (.bl b)):=λ_ _ _ H _ I h=>Constant_bool ⟨.bl b,H,I,rfl,h⟩
theorem W7 {j pos}:PE X (.Constant .none j pos) (tC .non):=λ_ _ _ H _ I h=>Constant_none ⟨.non,H,I,rfl,h⟩
theorem Yb {x j pos}:PE X (.Constant (.str x) j pos) (tC (.str x)):=λ_ _ _ H _ I h=>Calls.Constant_str ⟨.str x,H,I.tok _,⟨_,rfl⟩,h⟩
noncomputable def Gl (X:Cx) (x:Str):Prop:=X.env.kindOf x=some .globalImplicit
theorem Jk {E:Value->Shared->Prop} {pins:List (Addr × Obj)} {s:Shared} {σ:St} {H:Hp} {x:Str} {u:Value} {pos:Pos} {Q:Value->Shared->Prop} (I:Inv X pins σ H s) (hg:Gl X x) (hm:X.mg x=some u) (h:Q u s)
  (hd:(x == ("__debug__":Str))=false:=by decide):wpAny (model X.prog X.w) X.A (eval (.Name x pos) X.env) Q E s :=
 Calls.Name_function_global I.ok.kind hg (Calls.loadGlobal_global (by rw [I.ok.glob]; exact I.mod.glob.keeps I.bk) hm h) hd
theorem Xu {E:Value->Shared->Prop} {pins:List (Addr × Obj)} {s:Shared} {σ:St} {H:Hp} {x:Str} {u:Value} {pos:Pos} {Q:Value->Shared->Prop} (I:Inv X pins σ H s) (hg:Gl X x) (hm:X.mg x=none) (hv:bootBuiltins x=some u) (h:Q u s)
  (hn:x≠"__name__":=by decide) (hd:(x == ("__debug__":Str))=false:=by decide):wpAny (model X.prog X.w) X.A (eval (.Name x pos) X.env) Q E s:=by
 obtain ⟨mb,h1,h2⟩:=I.mod.blt
 exact Calls.Name_function_global I.ok.kind hg (Calls.loadGlobal_builtin (by rw [I.ok.glob]; exact I.mod.glob.keeps I.bk) hm (by rw [I.ok.blt]; exact h1.keeps I.bk) ((h2 x hn).trans hv) h) hd
theorem Jg {x:Str} {v:V} {u:Value} {pos:Pos} (hg:Gl X x) (hm:X.mg x=some u) (r:RelV v u) (hd:(x == ("__debug__":Str))=false:=by decide):PE X (.Name x pos) (tC v) :=
 λ_ _ _ H _ I h=>Jk I hg hm ⟨v,H,I,r,h⟩ hd
theorem Ze7 {x:Str} {v:V} {u:Value} {pos:Pos} (hg:Gl X x) (hm:X.mg x=none) (hv:bootBuiltins x=some u) (r:RelV v u) (hn:x≠"__name__":=by decide) (hd:(x == ("__debug__":Str))=false:=by decide):PE X (.Name x pos) (tC v) :=
 λ_ _ _ H _ I h=>Xu I hg hm hv ⟨v,H,I,r,h⟩ hn hd
variable {a b:Expr} {ta tb:TE} {pos:Pos}
noncomputable def PC (X:Cx) (op:CmpOp) (a b:Expr) (t:TE):Prop :=
 ∀ (pins:List (Addr × Obj)) (s:Shared) (σ:St) (H:Hp) (Q:VK),Inv X pins σ H s->t σ H Q ->
  wpAny (model X.prog X.w) X.A (eval a X.env) (λv s₁=>wpAny (model X.prog X.w) X.A (eval b X.env) (λu s₂=>wpAny (model X.prog X.w) X.A (compareOp op v u) (EP X pins σ Q) X.xe s₂) X.xe s₁) X.xe s
noncomputable def tB (t:TE):TT:=λσ H Q=>t σ H λx H1=>∃ c,x=.bl c/\Q c H1
theorem Gx {op:CmpOp} {t:TE} (h:PC X op a b t) (h1:behindInMarks op b=false:=by first | exact nobehind _ (by decide) (by decide) | rfl):PT X (.Compare a [op] [b] pos) (tB t):=by
 intro pins s σ H Q I hw
 refine wpAny_isTrue_Compare1 (thn (h pins s σ H _ I hw) λv s1 h1=>thn h1 λu s2 h2=>thn h2 λc s3 zz0=>?_) h1
 obtain ⟨x,H1,I1,r1,q1⟩:=zz0
 obtain ⟨d,rfl,q⟩:=q1
 cases r1
 exact wpAny_truthy_bool ⟨H1,I1,q⟩
theorem Qv {e:Expr} {t:TE} (h:PE X e t) (he:∀ whole,isTrue e X.env whole=(do let v <- whole; standAt e.pos; holding [v] (truthy v)):=by intro _; rfl):PT X e (tB t):=by
 intro pins s σ H Q I hw
 refine isTrue_plain (thn (h pins s σ H _ I hw) λv s1 zz1=>?_) (he _)
 obtain ⟨x,H1,I1,r1,q1⟩:=zz1
 obtain ⟨d,rfl,q⟩:=q1
 cases r1
 exact wpAny_truthy_bool ⟨H1,I1,q⟩
variable {tA tB':TT} {rest:List Expr}
noncomputable def tAnd (t u:TT):TT:=λσ H Q=>t σ H λc H1=>if c=true then u σ H1 Q else Q false H1
noncomputable def tOr (t u:TT):TT:=λσ H Q=>t σ H λc H1=>if c=true then Q true H1 else u σ H1 Q
noncomputable def tNot (t:TT):TT:=λσ H Q=>t σ H λc H1=>Q (!c) H1
theorem Wz (ha:PT X a tA):PW X (.BoolOp .And [a] pos) tA:=by
 intro wh pins s σ H Q I h
 refine isTrue_and (thn (ha pins s σ H Q I h) λc s1 e=>?_)
 cases c with
 | true=>exact isTrue_and_nil e
 | false=>exact e
theorem Qu (ha:PT X a tA):PW X (.BoolOp .Or [a] pos) tA:=by
 intro wh pins s σ H Q I h
 refine isTrue_or (thn (ha pins s σ H Q I h) λc s1 e=>?_)
 cases c with
 | false=>exact isTrue_or_nil e
 | true=>exact e
theorem Jx (ha:PT X a tA) (hb:PW X (.BoolOp .And (b :: rest) pos) tB'):PW X (.BoolOp .And (a :: b :: rest) pos) (tAnd tA tB'):=by
 intro wh pins s σ H Q I h
 refine isTrue_and (thn (ha pins s σ H _ I h) λc s1 zz9=>?_)
 obtain ⟨H1,I1,q1⟩:=zz9
 cases c with
 | true=>exact hb wh pins s1 σ H1 Q I1 q1
 | false=>exact ⟨H1,I1,q1⟩
theorem Va (ha:PT X a tA) (hb:PW X (.BoolOp .Or (b :: rest) pos) tB'):PW X (.BoolOp .Or (a :: b :: rest) pos) (tOr tA tB'):=by
 intro wh pins s σ H Q I h
 refine isTrue_or (thn (ha pins s σ H _ I h) λc s1 zz9=>?_)
 obtain ⟨H1,I1,q1⟩:=zz9
 cases c with
 | true=>exact ⟨H1,I1,q1⟩
 | false=>exact hb wh pins s1 σ H1 Q I1 q1
theorem Jy (ha:PT X a tA):PT X (.UnaryOp .Not a pos) (tNot tA):=by
 intro pins s σ H Q I h
 exact isTrue_not (ha pins s σ H (λc H1=>Q (!c) H1) I h)
noncomputable def Zpf (ta tb:TE):TE:=λσ H Q=>ta σ H λx H1=>∃ c,x=.bl c/\if c=true then tb σ H1 Q else Q (.bl false) H1
theorem Zct {op} {t:TE} (h:PE X a t):PE X (.BoolOp op [a] pos) t:=λpins s σ H Q I hw=>BoolOp_one (h pins s σ H Q I hw)
theorem Zcv (ha:PE X a ta) (hb:PE X (.BoolOp .And (b :: rest) pos) tb):PE X (.BoolOp .And (a :: b :: rest) pos) (Zpf ta tb):=by
 intro pins s σ H Q I h
 refine BoolOp_and (thn (ha pins s σ H _ I h) λv s1 zz9=>?_)
 obtain ⟨x,H1,I1,r1,q1⟩:=zz9
 obtain ⟨c,rfl,q1⟩:=q1
 cases r1
 refine wpAny_truthy_bool ?_
 cases c with
 | true=>exact hb pins s1 σ H1 Q I1 q1
 | false=>exact ⟨.bl false,H1,I1,rfl,q1⟩
noncomputable def tIf (t:TT) (ta tb:TE):TE:=λσ H Q=>t σ H λc H1=>if c=true then ta σ H1 Q else tb σ H1 Q
theorem Qy {c:Expr} (hc:PT X c tA) (ha:PE X a ta) (hb:PE X b tb):PE X (.IfExp c a b pos) (tIf tA ta tb):=by
 intro pins s σ H Q I h
 refine wpAny_IfExp (thn (hc pins s σ H _ I h) λd s1 zz9=>?_)
 obtain ⟨H1,I1,q1⟩:=zz9
 cases d with
 | true=>exact ha pins s1 σ H1 Q I1 q1
 | false=>exact hb pins s1 σ H1 Q I1 q1
end
noncomputable def SqL (K:PySem.W.Frag) (H:Hp) (a:Addr) (xs:List V):Prop :=
 Rd H a (.lst xs) \/
  ∃ (o:Obj) (its:Array Value) (n:Nat),K.lookup a=some o/\o.cls=.type "list"/\o.dict=none/\o.data=.seq its n/\its.size<=sizeLine/\Vals xs its.toList
noncomputable def SqT (K:PySem.W.Frag) (H:Hp) (a:Addr) (xs:List V):Prop :=
 Rd H a (.tup xs) \/
  ∃ (o:Obj) (its:Array Value) (n:Nat),K.lookup a=some o/\o.cls=.type "tuple"/\o.data=.seq its n/\its.size<=sizeLine/\Vals xs its.toList
noncomputable def absV:Value->Option V
 | .none=>some .non
 | .bool b=>some (.bl b)
 | .int i _=>some (.int i)
 | .str x _=>some (.str x)
 | .bytes b _=>some (.byt b)
 | .float b _=>some (.flt b)
 | .ref a=>some (.ref a)
 | .type n=>some (.ty n)
 | _=>none
theorem RelV.abs {x:V} {u:Value} (r:RelV x u):absV u=some x:=by
 cases x with
 | non=>cases r; rfl
 | bl _=>cases r; rfl
 | int _=>obtain ⟨t,rfl⟩:=r; rfl
 | str _=>obtain ⟨t,rfl⟩:=r; rfl
 | byt _=>obtain ⟨t,rfl⟩:=r; rfl
 | flt _=>obtain ⟨t,rfl⟩:=r; rfl
 | ref _=>cases r; rfl
 | ty _=>cases r; rfl
theorem RelV.inj {x y:V} {u:Value} (r:RelV x u) (q:RelV y u):x=y:=Option.some.inj (r.abs.symm.trans q.abs)
theorem Vals.inj:∀ {xs ys:List V} {us:List Value},Vals xs us->Vals ys us->xs=ys
 | _,_,_,.nil,.nil=>rfl
 | _,_,_,.cons r t,.cons r' t'=>by rw [r.inj r',Vals.inj t t']
section
variable {X:Cx} {pins:List (Addr × Obj)} {σ:St} {H:Hp} {s:Shared} {a:Addr} {xs ys:List V}
theorem SqL.of {K:PySem.W.Frag} (h:H a=some (.lst xs)):SqL K H a xs:=.inl (.inl h)
theorem SqT.of {K:PySem.W.Frag} (h:H a=some (.tup xs)):SqT K H a xs:=.inl (.inl h)
theorem Inv.list (I:Inv X pins σ H s) (h:SqL X.K H a xs):∃ its:List Value,Vals xs its/\PlainL s.heap a its.toArray/\xs.length<=sizeLine:=by
 rcases h with h | ⟨o,its,n,hk,hc,hd,hs,hz,r⟩
 ·obtain ⟨z,its,n,r,e⟩:=h.ok I.hok
  exact ⟨its,r,⟨_,n,e,rfl,rfl,rfl⟩,z⟩
 ·refine ⟨its.toList,r,⟨o,n,I.kIn a o hk,hc,hd,by simpa using hs⟩,?_⟩
  have e:=r.length
  simp only [Array.length_toList] at e
  omega
theorem Inv.tuple (I:Inv X pins σ H s) (h:SqT X.K H a xs):∃ its:List Value,Vals xs its/\IsTup s.heap a its.toArray/\xs.length<=sizeLine:=by
 rcases h with h | ⟨o,its,n,hk,hc,hs,hz,r⟩
 ·obtain ⟨z,its,r,p⟩:=h.ok I.hok
  exact ⟨its,r,p,z⟩
 ·refine ⟨its.toList,r,⟨o,I.kIn a o hk,hc,n,by simpa using hs⟩,?_⟩
  have e:=r.length
  simp only [Array.length_toList] at e
  omega
theorem Inv.list_inj (I:Inv X pins σ H s) (h:SqL X.K H a xs) (h':SqL X.K H a ys):xs=ys:=by
 obtain ⟨its,r,⟨o,n,e,_,_,d⟩,_⟩:=I.list h
 obtain ⟨its',r',⟨o',n',e',_,_,d'⟩,_⟩:=I.list h'
 rw [e] at e'; cases e'
 rw [d] at d'
 injection d' with d1 _
 have:its=its':=by simpa using congrArg Array.toList d1
 subst this
 exact r.inj r'
theorem Inv.tuple_inj (I:Inv X pins σ H s) (h:SqT X.K H a xs) (h':SqT X.K H a ys):xs=ys:=by
 obtain ⟨its,r,⟨o,e,_,n,d⟩,_⟩:=I.tuple h
 obtain ⟨its',r',⟨o',e',_,n',d'⟩,_⟩:=I.tuple h'
 rw [e] at e'; cases e'
 rw [d] at d'
 injection d' with d1 _
 have:its=its':=by simpa using congrArg Array.toList d1
 subst this
 exact r.inj r'
end
noncomputable abbrev Cx.wish (X:Cx) (E:Value->Shared->Prop):Cx:={ X with xe:=E }
noncomputable abbrev Cx.nox (X:Cx):Cx:=X.wish λ_ _=>False
theorem Cx.Ok.wish {X:Cx} (ok:X.Ok) (E:Value->Shared->Prop):(X.wish E).Ok :=
 ⟨ok.mod,ok.kind,ok.glob,ok.blt,ok.above,ok.inj,ok.has,ok.cab,ok.hd,ok.frames,ok.stk,ok.exf,ok.bs,ok.bsz,ok.noex,ok.exfs,ok.funs,ok.frf⟩
theorem Cx.Ok.unwish {X:Cx} {E:Value->Shared->Prop} (ok:(X.wish E).Ok):X.Ok :=
 ⟨ok.mod,ok.kind,ok.glob,ok.blt,ok.above,ok.inj,ok.has,ok.cab,ok.hd,ok.frames,ok.stk,ok.exf,ok.bs,ok.bsz,ok.noex,ok.exfs,ok.funs,ok.frf⟩
section
variable {X:Cx} {pins:List (Addr × Obj)} {σ:St} {H:Hp} {s:Shared} {E:Value->Shared->Prop}
theorem Inv.wish (I:Inv X pins σ H s) (E:Value->Shared->Prop):Inv (X.wish E) pins σ H s:=⟨I.ok.wish E,I.os,I.bare,I.base,I.loc,I.cell,I.free,I.freeC,I.pin,I.hok,I.len⟩
theorem Inv.unwish (I:Inv (X.wish E) pins σ H s):Inv X pins σ H s:=⟨I.ok.unwish,I.os,I.bare,I.base,I.loc,I.cell,I.free,I.freeC,I.pin,I.hok,I.len⟩
theorem SP.unwish {D:Ends} {f:Flow} {s':Shared} (h:SP (X.wish E) pins D f s'):SP X pins D f s':=by
 cases f with
 | next=>obtain ⟨σ',H',I,q⟩:=h; exact ⟨σ',H',I.unwish,q⟩
 | brk=>obtain ⟨σ',H',I,q⟩:=h; exact ⟨σ',H',I.unwish,q⟩
 | cont=>obtain ⟨σ',H',I,q⟩:=h; exact ⟨σ',H',I.unwish,q⟩
 | ret u=>obtain ⟨v,σ',H',I,r,q⟩:=h; exact ⟨v,σ',H',I.unwish,r,q⟩
theorem PSs.nox {st:List Stmt} {t:TS} (h:PSs X.nox st t):PSs X st t:=λpins s σ H D I hw =>
 wpAny_mono (h pins s σ H D (I.wish _) hw) (λ_ _ q=>q.unwish) λ_ _ z=>False.elim z
end
section
variable {X:Cx} {st:Stmt} {rest:List Stmt} {t u:TS} {e:Expr} {te:TE} {pos:Pos}
noncomputable def Jp:TS:=λD σ H=>D.nx σ H
noncomputable def tSeq (t u:TS):TS:=λD σ H=>t { D with nx:=u D } σ H
theorem Z7:PSs X [] Jp:=λ_ _ σ H _ I h=>wpAny_execs_nil ⟨σ,H,I,h⟩
theorem Zf (h1:PS X st t) (h2:PSs X rest u):PSs X (st :: rest) (tSeq t u):=by
 intro pins s σ H D I h
 refine wpAny_execs_cons (thn (h1 pins s σ H { D with nx:=u D } I h) λf s1 q=>?_)
 cases f with
 | next =>
  obtain ⟨σ',H',I',q⟩:=q
  exact h2 pins s1 σ' H' D I' q
 | ret v=>exact q
 | brk=>exact q
 | cont=>exact q
theorem Zh (h1:PS X st t):PSs X [st] t:=by
 intro pins s σ H D I h
 refine wpAny_execs_cons (thn (h1 pins s σ H D I h) λf s1 q=>?_)
 cases f with
 | next=>exact wpAny_execs_nil q
 | ret v=>exact q
 | brk=>exact q
 | cont=>exact q
noncomputable def Znx:TS:=λD σ H=>D.bk σ H
noncomputable def Zpa:TS:=λD σ H=>D.ct σ H
theorem Zjz:PS X (.Break pos) Znx:=λ_ _ σ H _ I h=>wpAny_Break ⟨σ,H,I,h⟩
theorem Zd4:PS X (.Continue pos) Zpa:=λ_ _ σ H _ I h=>wpAny_Continue ⟨σ,H,I,h⟩
theorem Inv.quiet {pins:List (Addr × Obj)} {σ:St} {H:Hp} {s:Shared} (I:Inv X pins σ H s):interactive X.env=false:=by simp [interactive,I.ok.kind]
noncomputable def Zk9 (te:TE):TS:=λD σ H=>te σ H λ_ H1=>D.nx σ H1
theorem Xn (he:PE X e te) (hs:swapsWith e none pos.line X.env=pure false:=by rfl):PS X (.Expr e pos) (Zk9 te):=by
 intro pins s σ H D I h
 refine wpAny_Expr_any (thn (he pins s σ H _ I h) λv s1 zz2=>?_) I.quiet hs
 obtain ⟨x,H1,I1,r1,q1⟩:=zz2
 exact ⟨σ,H1,I1,q1⟩
noncomputable def tRet (te:TE):TS:=λD σ H=>te σ H D.rt
theorem Zr (he:PE X e te):PS X (.Return (some e) pos) (tRet te):=by
 intro pins s σ H D I h
 refine wpAny_Return_some (thn (he pins s σ H _ I h) λv s1 zz3=>?_)
 obtain ⟨x,H1,I1,r1,q1⟩:=zz3
 exact ⟨x,σ,H1,I1,r1,q1⟩
noncomputable def tIfS (c:TT) (t u:TS):TS:=λD σ H=>c σ H λb H1=>if b=true then t D σ H1 else u D σ H1
theorem Yj {c:Expr} {a b:List Stmt} {tc:TT} (hc:PT X c tc) (ha:PSs X a t) (hb:PSs X b u):PS X (.If c a b pos) (tIfS tc t u):=by
 intro pins s σ H D I h
 refine wpAny_If (thn (hc pins s σ H _ I h) λd s1 zz9=>?_)
 obtain ⟨H1,I1,q1⟩:=zz9
 cases d with
 | true=>exact ha pins s1 σ H1 D I1 q1
 | false=>exact hb pins s1 σ H1 D I1 q1
noncomputable def Zgz:TS:=λ_ _ _=>False
theorem Kq:PS X st Zgz:=λ_ _ _ _ _ _ h=>h.elim
theorem Y4 {sts:List Stmt}:PSs X sts Zgz:=λ_ _ _ _ _ _ h=>h.elim
end
noncomputable abbrev TG:=V->St->Hp->(St->Hp->Prop)->Prop
noncomputable abbrev TGs:=List V->St->Hp->(St->Hp->Prop)->Prop
noncomputable def PG (X:Cx) (target:Expr) (t:TG):Prop :=
 ∀ (pins:List (Addr × Obj)) (s:Shared) (σ:St) (H:Hp) (v:V) (u:Value) (Q:St->Hp->Prop),Inv X pins σ H s->RelV v u->t v σ H Q ->
  wpAny (model X.prog X.w) X.A (assign target X.env u) (λ_ s'=>∃ σ' H',Inv X pins σ' H' s'/\Q σ' H') X.xe s
noncomputable def PGs (X:Cx) (ts:List Expr) (t:TGs):Prop :=
 ∀ (pins:List (Addr × Obj)) (s:Shared) (σ:St) (H:Hp) (vs:List V) (us:List Value) (Q:St->Hp->Prop),Inv X pins σ H s->Vals vs us->t vs σ H Q ->
  wpAny (model X.prog X.w) X.A (assignInOrder ((assignEach ts X.env).map (·.2)) us) (λ_ s'=>∃ σ' H',Inv X pins σ' H' s'/\Q σ' H') X.xe s
noncomputable abbrev TSet:=V->V->V->Hp->(Hp->Prop)->Prop
noncomputable def PSet (X:Cx) (t:TSet):Prop :=
 ∀ (pins:List (Addr × Obj)) (s:Shared) (σ:St) (H:Hp) (o i v:V) (ov iv u:Value) (Q:Hp->Prop),Inv X pins σ H s->RelV o ov->RelV i iv->RelV v u->t o i v H Q ->
  wpAny (model X.prog X.w) X.A (setItem ov iv u) (λ_ s'=>∃ H',Inv X pins σ H' s'/\Q H') X.xe s
noncomputable abbrev TIp:=V->V->Hp->VK->Prop
noncomputable def PIp (X:Cx) (op:Operator) (t:TIp):Prop :=
 ∀ (pins:List (Addr × Obj)) (s:Shared) (σ:St) (H:Hp) (x y:V) (v u:Value) (Q:VK),Inv X pins σ H s->RelV x v->RelV y u->t x y H Q ->
  wpAny (model X.prog X.w) X.A (inplaceOp op v u) (EP X pins σ Q) X.xe s
section
variable {X:Cx} {pos:Pos}
noncomputable def Zv (i:Nat):TG:=λv σ H Q=>Q (σ.set i (some v)) H
theorem Zq {i:Nat} {x:Str} (hN:X.N.Nodup) (hi:X.N[i]?=some x) (hx:Loc X.env.scope x) (hf:X.fn x=true\/X.env.scope.names.lookup x=some .local:=by first | exact .inl rfl | exact .inr rfl | assumption):PG X (.Name x pos) (Zv i):=by
 intro pins s σ H v u Q I r h
 exact wpAny_assign_Name (Wu I hN hi hx r (λs' I'=>⟨_,H,I',h⟩) hf)
noncomputable def gNil:TGs:=λvs σ H Q=>vs=[]/\Q σ H
noncomputable def Zpz (t:TG) (u:TGs):TGs:=λvs σ H Q=>∃ v r,vs=v :: r/\t v σ H λσ' H'=>u r σ' H' Q
theorem Xo:PGs X [] gNil:=by
 intro pins s σ H vs us Q I r h
 obtain ⟨e,h⟩:=h
 subst e
 cases r
 exact assignInOrder_nil ⟨σ,H,I,h⟩
theorem Z3 {e:Expr} {es:List Expr} {t:TG} {u:TGs} (h1:PG X e t) (h2:PGs X es u)
  (hs:(assignEach (e :: es) X.env).map (·.2)=assign e X.env :: (assignEach es X.env).map (·.2):=by rfl):PGs X (e :: es) (Zpz t u):=by
 intro pins s σ H vs us Q I r h
 obtain ⟨v,vr,e1,h⟩:=h
 subst e1
 cases r with
 | cons r rr =>
  rw [hs]
  refine assignInOrder_cons (thn (h1 pins s σ H _ _ _ I r h) λ_ s1 zz9=>?_)
  obtain ⟨σ1,H1,I1,q1⟩:=zz9
  exact h2 pins s1 σ1 H1 _ _ Q I1 rr q1
noncomputable def gTup (K:PySem.W.Frag) (n:Nat) (t:TGs):TG:=λv σ H Q=>∃ a xs,v=.ref a/\SqT K H a xs/\xs.length=n/\t xs σ H Q
theorem W6 {es:List Expr} {k:Nat} {t:TGs} {n:Nat} (hc:X.calm=true) (h:PGs X es t)
  (hn:(assignEach es X.env).length=n:=by rfl) (hst:(assignEach es X.env).findIdx? (·.1)=none:=by rfl):PG X (.Tuple es k pos) (gTup X.K n t):=by
 intro pins s σ H v u Q I r hw
 obtain ⟨a,xs,e1,hq,hl,hw⟩:=hw
 subst e1
 cases r
 obtain ⟨its,rv,ht,hz⟩:=I.tuple hq
 refine assign_Tuple_tuple (I.ok.hd hc) ht (by simp [hn,<- hl,rv.length]) hst λh' hx=>?_
 have I1:Inv X pins σ H { s with heap:=h' }:=I.kept (t':=s.toks) λb o e=>hx b o (Nat.ne_of_lt (Heap.lt_size e)) e
 exact h pins _ σ H xs _ Q I1 (by simpa using rv) hw
noncomputable def gSub (to ti:TE) (t:TSet):TG:=λv σ H Q=>to σ H λo H1=>ti σ H1 λi H2=>t o i v H2 λH3=>Q σ H3
theorem Ob {o i:Expr} {to ti:TE} {t:TSet} (ho:PE X o to) (hi:PE X i ti) (hs:PSet X t)
  (ha:∀ v,assign (.Subscript o i pos) X.env v=(do
   let ov <- holding [v] (eval o X.env)
   let iv <- holding [v,ov] (eval i X.env)
   standAt pos
   holding [v,ov,iv] (setItem ov iv v)
   release [v,ov,iv] []):=by intro _; rfl):PG X (.Subscript o i pos) (gSub to ti t):=by
 intro pins s σ H v u Q I r h
 rw [ha]
 refine wpAny_bind (wpAny_holding (thn (ho pins s σ H _ I h) λov s1 zz9=>?_))
 obtain ⟨x,H1,I1,r1,q1⟩:=zz9
 refine wpAny_bind (wpAny_holding (thn (hi pins s1 σ H1 _ I1 q1) λiv s2 zz9=>?_))
 obtain ⟨y,H2,I2,r2,q2⟩:=zz9
 refine wpAny_bind (wpAny_standAt (wpAny_bind (wpAny_holding (thn (hs pins s2 σ H2 x y v ov iv u _ I2 r1 r2 r q2) λ_ s3 zz9=>?_))))
 obtain ⟨H3,I3,q3⟩:=zz9
 exact wpAny_release ⟨σ,H3,I3,q3⟩
noncomputable def tAsg (te:TE) (g:TG):TS:=λD σ H=>te σ H λx H1=>g x σ H1 D.nx
theorem Jz {tg e:Expr} {te:TE} {g:TG} (he:PE X e te) (hg:PG X tg g) (hs:swapsWithSole [tg] e pos.line X.env=pure false:=by rfl) (hw:swappedStores [tg] e X.env=pure none:=by rfl)
  (h1:(assignEach [tg] X.env).map (·.2)=[assign tg X.env]:=by rfl):PS X (.Assign [tg] e pos) (tAsg te g):=by
 intro pins s σ H D I h
 refine wpAny_Assign_stores (thn (he pins s σ H _ I h) λv s1 zz4=>?_) hs hw
 obtain ⟨x,H1,I1,r1,q1⟩:=zz4
 rw [h1]
 exact thn (hg pins s1 σ H1 x v _ I1 r1 q1) λ_ s2 q=>q
theorem Zu {i:Nat} {x:Str} {e:Expr} {te:TE} {pos':Pos} (hN:X.N.Nodup) (hi:X.N[i]?=some x) (hx:Loc X.env.scope x) (he:PE X e te) (hs:swapsWith e (some (.Name x pos')) pos.line X.env=pure false:=by rfl) (hf:X.fn x=true\/X.env.scope.names.lookup x=some .local:=by first | exact .inl rfl | exact .inr rfl | assumption) :
  PS X (.Assign [.Name x pos'] e pos) (tAsg te (Zv i)):=by
 intro pins s σ H D I h
 refine wpAny_Assign_Name (thn (he pins s σ H _ I h) λv s1 zz5=>?_) hs
 obtain ⟨y,H1,I1,r1,q1⟩:=zz5
 exact Wu I1 hN hi hx r1 (λs2 I2=>⟨_,H1,I2,q1⟩) hf
noncomputable def tPar (i j:Nat) (ta:TA):TS:=λD σ H=>ta σ H λvs H1=>∃ v w,vs=[v,w]/\D.nx ((σ.set i (some v)).set j (some w)) H1
theorem U9 {i j:Nat} {x y:Str} {a b:Expr} {ta:TA} {px py pt:Pos} {kt k2 pt2} (hc:X.calm=true) (hN:X.N.Nodup) (hi:X.N[i]?=some x) (hj:X.N[j]?=some y) (hij:i≠j)
  (hx:X.env.scope.names.lookup x=some .local) (hy:X.env.scope.names.lookup y=some .local) (ha:PA X [a,b] ta)
  (hw:swappedStores [.Tuple [.Name x px,.Name y py] kt pt] (.Tuple [a,b] k2 pt2) X.env=pure (some [x,y]))
  (hs:swapsWithSole [.Tuple [.Name x px,.Name y py] kt pt] (.Tuple [a,b] k2 pt2) pos.line X.env=pure false:=by rfl) :
  PS X (.Assign [.Tuple [.Name x px,.Name y py] kt pt] (.Tuple [a,b] k2 pt2) pos) (tPar i j ta):=by
 intro pins s σ H D I h
 rw [exec_Assign_arm]
 refine wpAny_bind (wpAny_standAt ?_)
 rw [hs]
 refine wpAny_bind (wpAny_pure ?_)
 rw [if_neg (by decide)]
 refine wpAny_bind (Tuple_ (thn (ha _ pins s σ H _ I h) λus s1 zz9=>?_))
 obtain ⟨vs,H1,I1,r1,q1⟩:=zz9
 obtain ⟨v,w,e1,q1⟩:=q1
 subst e1
 obtain ⟨u1,u2,rfl,rv,rw'⟩:∃ u1 u2,us=[u1,u2]/\RelV v u1/\RelV w u2:=by
  cases r1 with
  | cons p q =>
   cases q with
   | cons p' q' =>
    cases q'
    exact ⟨_,_,rfl,p,p'⟩
 refine wpAny_newObj_type ?_ (by show 2<=sizeLine; decide)
 have I2:Inv X pins σ H1 { s1 with heap:=s1.heap.push { cls:=.type "tuple",data:=.seq [u1,u2].toArray } }:=I1.kept (t':=s1.toks) λb o e=>Heap.get?_push_of_some _ e
 rw [hw]
 refine wpAny_bind (wpAny_pure ?_)
 show wpAny (model X.prog X.w) X.A (do rule "assign.swapped-stores"; let items <- unpackItems (.ref s1.heap.objs.size) 2 none; assignInOrder [λv=>bindName X.env y v,λv=>bindName X.env x v] items.reverse; pure Flow.next) _ _ _
 refine wpAny_bind (wpAny_rule (wpAny_bind (unpackItems_tuple (items:=#[u1,u2]) (I.ok.hd hc) (IsTup.new s1.heap _) λh' hx'=>?_)))
 have I3:=I2.kept (h':=h') (t':=s1.toks) λb o e=>hx' b o (Nat.ne_of_lt (Heap.lt_size e)) e
 show wpAny _ _ (assignInOrder [λv=>bindName X.env y v,λv=>bindName X.env x v] [u2,u1] >>= λ_=>pure Flow.next) _ _ _
 refine wpAny_bind (assignInOrder_cons (wpAny_bindName (Wu I3 hN hj (.inl hy) rw' (λs2 I4=>?_) (.inr hy))))
 refine assignInOrder_cons (wpAny_bindName (Wu I4 hN hi (.inl hx) rv (λs3 I5=>assignInOrder_nil (wpAny_pure ?_)) (.inr hx)))
 rw [List.set_comm _ _ (Ne.symm hij)] at I5
 exact ⟨_,H1,I5,q1⟩
noncomputable def tAug (i:Nat) (te:TE) (ti:TIp):TS:=λD σ H=>∃ x,σ[i]?=some (some x)/\te σ H λy H1=>ti x y H1 λz H2=>D.nx (σ.set i (some z)) H2
theorem Gy {i:Nat} {x:Str} {e:Expr} {te:TE} {op:Operator} {ti:TIp} {pos':Pos} (hN:X.N.Nodup) (hi:X.N[i]?=some x) (hx:Loc X.env.scope x) (he:PE X e te) (ho:PIp X op ti) (hf:X.fn x=true\/X.env.scope.names.lookup x=some .local:=by first | exact .inl rfl | exact .inr rfl | assumption) :
  PS X (.AugAssign (.Name x pos') op e pos) (tAug i te ti):=by
 intro pins s σ H D I h
 obtain ⟨v,e1,h⟩:=h
 obtain ⟨m,hn,hl⟩:=I.loc
 have vis:Vis X.env.scope x:=by rcases hx with k | k; exact .inl k; exact .inr (.inl k)
 obtain ⟨u,r,l⟩:=hl i x v hi e1 vis
 refine wpAny_AugAssign_Name ?_
 have go:wpAny (model X.prog X.w) X.A (eval e X.env) (λw s₂=>wpAny (model X.prog X.w) X.A (inplaceOp op u w) (λr s₃=>wpAny (model X.prog X.w) X.A (storeName X.env x r) (λ_=>SP X pins D .next) X.xe s₃) X.xe s₂) X.xe s:=by
  refine thn (he pins s σ H _ I h) λw s1 zz9=>?_
  obtain ⟨y,H1,I1,r1,q1⟩:=zz9
  refine thn (ho pins s1 σ H1 v y u w _ I1 r r1 q1) λz s2 zz9=>?_
  obtain ⟨zv,H2,I2,r2,q2⟩:=zz9
  exact Wu I2 hN hi hx r2 (λs3 I3=>⟨_,H2,I3,q2⟩) hf
 rcases l with ⟨hk,hm⟩ | ⟨hk,c,hc,hcell⟩
 ·exact wpAny_loadName_local I.ok.kind hk hn hm go
 ·rcases hk with hk | hk
  ·exact wpAny_loadName_cell I.ok.kind hk hc hcell go
  ·rcases hx with k | k
   ·have:X.env.scope.names.lookup x=some .free:=hk
    rw [k] at this; cases this
   ·have:X.env.scope.names.lookup x=some .free:=hk
    rw [k] at this; cases this
noncomputable def Zpd (to ti te:TE) (tget:V->V->Hp->VK->Prop) (tip:TIp) (tset:TSet):TS:=λD σ H=>to σ H λo H1=>ti σ H1 λi H2=>tget o i H2 λx H3=>te σ H3 λy H4=>tip x y H4 λz H5=>tset o i z H5 λH6=>D.nx σ H6
noncomputable def PGet (X:Cx) (t:V->V->Hp->VK->Prop):Prop :=
 ∀ (pins:List (Addr × Obj)) (s:Shared) (σ:St) (H:Hp) (o i:V) (ov iv:Value) (Q:VK),Inv X pins σ H s->RelV o ov->RelV i iv->t o i H Q ->
  wpAny (model X.prog X.w) X.A (getItem ov iv) (EP X pins σ Q) X.xe s
theorem Ze1 {o i e:Expr} {to ti te:TE} {tget:V->V->Hp->VK->Prop} {tip:TIp} {tset:TSet} {op:Operator} {tpos:Pos} (ho:PE X o to) (hi:PE X i ti) (hg:PGet X tget) (he:PE X e te) (hp:PIp X op tip) (hs:PSet X tset)
  (ha:∀ ov iv new,augStore i ov iv new=(do holding [new,ov,iv] (setItem ov iv new); release [new,ov,iv] []; pure .next):=by intros; rfl):PS X (.AugAssign (.Subscript o i tpos) op e pos) (Zpd to ti te tget tip tset):=by
 intro pins s σ H D I h
 refine wpAny_AugAssign_SubscriptAny (thn (ho pins s σ H _ I h) λov s1 zz6=>?_) ha
 obtain ⟨x1,H1,I1,r1,q1⟩:=zz6
 refine thn (hi pins s1 σ H1 _ I1 q1) λiv s2 zz9=>?_
 obtain ⟨x2,H2,I2,r2,q2⟩:=zz9
 refine thn (hg pins s2 σ H2 x1 x2 ov iv _ I2 r1 r2 q2) λold s3 zz9=>?_
 obtain ⟨x3,H3,I3,r3,q3⟩:=zz9
 refine thn (he pins s3 σ H3 _ I3 q3) λv s4 zz9=>?_
 obtain ⟨x4,H4,I4,r4,q4⟩:=zz9
 refine thn (hp pins s4 σ H4 x3 x4 old v _ I4 r3 r4 q4) λnew s5 zz9=>?_
 obtain ⟨x5,H5,I5,r5,q5⟩:=zz9
 refine thn (hs pins s5 σ H5 x1 x2 x5 ov iv new _ I5 r1 r2 r5 q5) λ_ s6 zz7=>?_
 obtain ⟨H6,I6,q6⟩:=zz7
 exact ⟨σ,H6,I6,q6⟩
noncomputable def ipI (f:Int->Int->Int):TIp:=λx y H Q=>∃ i j,x=.int i/\y=.int j/\Q (.int (f i j)) H
theorem Zit:PIp X .Add (ipI λi j=>i + j):=by
 intro pins s σ H x y v u Q I r1 r2 h
 obtain ⟨i,j,e1,e2,q⟩:=h
 subst e1; subst e2
 obtain ⟨t,rfl⟩:=r1
 obtain ⟨t',rfl⟩:=r2
 exact iadd_int ⟨.int _,H,I.tok _,⟨_,rfl⟩,q⟩
theorem Zom:PIp X .Sub (ipI λi j=>i - j):=by
 intro pins s σ H x y v u Q I r1 r2 h
 obtain ⟨i,j,e1,e2,q⟩:=h
 subst e1; subst e2
 obtain ⟨t,rfl⟩:=r1
 obtain ⟨t',rfl⟩:=r2
 exact isub_int ⟨.int _,H,I.tok _,⟨_,rfl⟩,q⟩
end
section
variable {X:Cx} {pos:Pos}
noncomputable def Us (c:TT) (tb:TS):TS:=λD σ H=>∃ W:Nat->St->Hp->Prop,(∃ m,W m σ H)/\∀ m σ H,W m σ H ->
 c σ H λb H1=>if b=true then ∃ N:St->Hp->Prop,(∀ σ' H',N σ' H'->∃ m',m' < m/\W m' σ' H')/\tb { D with nx:=N,ct:=N,bk:=D.nx } σ H1 else D.nx σ H1
theorem Jf {c:Expr} {body:List Stmt} {tc:TT} {tb:TS} (hp:PassesOwn (model X.prog X.w) X.A X.env X.xe) (hc:PT X c tc) (hb:PSs X body tb):PS X (.While c body [] pos) (Us tc tb):=by
 intro pins s σ H D I h
 obtain ⟨W,⟨m0,w0⟩,turn⟩:=h
 refine wpAny_While (codeAny_whileLoop (λn s'=>∃ σ' H',Inv X pins σ' H' s'/\W n σ' H') ?_ m0 ⟨σ,H,I,w0⟩)
 rintro n s1 ⟨σ1,H1,I1,w1⟩
 refine wpAny_passesOwn hp (thn (hc pins s1 σ1 H1 _ I1 (turn n σ1 H1 w1)) λb s2 zz9=>?_)
 obtain ⟨H2,I2,q2⟩:=zz9
 cases b with
 | true =>
  obtain ⟨N,hN,q2⟩:=q2
  rw [if_pos rfl]
  refine wpAny_passesOwn hp (thn (hb pins s2 σ1 H2 _ I2 q2) λf s3 q3=>?_)
  cases f with
  | next =>
   obtain ⟨σ3,H3,I3,n3⟩:=q3
   obtain ⟨m',hm,w3⟩:=hN σ3 H3 n3
   exact ⟨m',hm,σ3,H3,I3,w3⟩
  | cont =>
   obtain ⟨σ3,H3,I3,n3⟩:=q3
   obtain ⟨m',hm,w3⟩:=hN σ3 H3 n3
   exact ⟨m',hm,σ3,H3,I3,w3⟩
  | brk=>exact q3
  | ret v=>exact q3
 | false =>
  rw [if_neg Bool.false_ne_true]
  exact wpAny_execs_nil ⟨σ1,H2,I2,q2⟩
end
structure It where
 go:Nat->Hp->Prop
 yld:Nat->Hp->V->Hp->Prop
 stop:Nat->Hp->Prop
noncomputable def FpOk (X:Cx) (pins:List (Addr × Obj)) (H:Hp) (b:Addr):Prop :=
 H b=none/\b≠X.env.locals/\b ∉ X.fs/\(b∈X.ex\/X.s₀.heap.objs.size<=b)/\(∀ x c,X.env.cells.lookup x=some c->c≠b)/\∀ p∈X.pn ++ pins,p.1≠b
theorem Inv.fpOk {X:Cx} {pins:List (Addr × Obj)} {σ:St} {H H':Hp} {s:Shared} {b:Addr} (I:Inv X pins σ H s) (hb:s.heap.objs.size<=b) (hn:H' b=none):FpOk X pins H' b:=by
 refine ⟨hn,Nat.ne_of_gt (Nat.lt_of_lt_of_le I.lt hb),I.nofs hb,.inr (Nat.le_trans I.sz hb),λx c e z=>?_,λp hp z=>?_⟩
 ·obtain ⟨v,q⟩:=I.cell x c e
  exact absurd (Nat.lt_of_lt_of_le q.lt (by rw [z]; exact hb)) (Nat.lt_irrefl _)
 ·exact absurd (Nat.lt_of_lt_of_le (Heap.lt_size (I.pin p hp).1) (by rw [z]; exact hb)) (Nat.lt_irrefl _)
structure Turn (P:Program) (w:World) (K:PySem.W.Frag) (tg:Expr) (J:It) (fp:List Addr) (it:Addr) (tn:Nat->Heap->Prop):Prop where
 mem:it∈fp
 obj:∀ i h,tn i h->∀ b∈fp,∃ o,h.get? b=some o/\∀ v,o.data≠.cell v
 keep:∀ i h h',tn i h->(∀ b∈fp,∀ o,h.get? b=some o->h'.get? b=some o)->tn i h'
 item:∀ (X:Cx),X.prog=P->X.w=w->X.K=K->X.calm=true->∀ (i:Nat) (pins:List (Addr × Obj)) (s:Shared) (σ:St) (H:Hp) (E:Value->Shared->Prop),Inv X pins σ H s->(∀ b∈fp,FpOk X pins H b)->tn i s.heap->J.go i H ->
  wpAny (model P w) X.A (pyNext (.ref it)) (λr s1=>∃ u,r=some u /\
   wpAny (model P w) X.A (letOwnedTupleGo tg (.ref it) u) (λ_ s2=>∃ x H',Inv X pins σ H' s2/\RelV x u/\J.yld i H x H'/\tn (i + 1) s2.heap/\∀ b∈fp,H' b=none) E s1) E s
 done:∀ (X:Cx),X.prog=P->X.w=w->X.K=K->X.calm=true->∀ (i:Nat) (pins:List (Addr × Obj)) (s:Shared) (σ:St) (H:Hp) (E:Value->Shared->Prop),Inv X pins σ H s->(∀ b∈fp,FpOk X pins H b)->tn i s.heap->J.stop i H ->
  wpAny (model P w) X.A (pyNext (.ref it)) (λr s1=>r=none/\Inv X pins σ H s1) E s
 self:∀ (A:Around) (i:Nat) (s:Shared) (Q:Value->Shared->Prop) (E:Value->Shared->Prop),tn i s.heap->Q (.ref it) s->wpAny (model P w) A (pyIter (.ref it)) Q E s
noncomputable abbrev TI:=St->Hp->(It->Hp->Prop)->Prop
noncomputable def PIE (X:Cx) (pins:List (Addr × Obj)) (σ:St) (tg:Expr) (R:It->Hp->Prop) (itv:Value) (s2:Shared):Prop :=
 ∃ (it:Addr) (fp:List Addr) (tn:Nat->Heap->Prop) (J:It) (H':Hp),itv=.ref it/\Inv X pins σ H' s2/\Turn X.prog X.w X.K tg J fp it tn/\tn 0 s2.heap/\(∀ b∈fp,FpOk X pins H' b)/\R J H'
noncomputable def PI (X:Cx) (tg iter:Expr) (wi:TI):Prop :=
 ∀ (pins:List (Addr × Obj)) (s:Shared) (σ:St) (H:Hp) (R:It->Hp->Prop),Inv X pins σ H s->wi σ H R ->
  wpAny (model X.prog X.w) X.A (eval iter X.env) (λv s1=>wpAny (model X.prog X.w) X.A (pyIter v) (PIE X pins σ tg R) X.xe s1) X.xe s
theorem V6 {M:Model} {A:Around} {E:Value->Shared->Prop} {s:Shared} {tg:Expr} {it:Addr} {u:Value} {o:Obj} {n:String} {vs:Array Value} {Q:Unit->Shared->Prop} (ho:s.heap.get? it=some o) (hc:o.cls=.type n) (hd:o.data=.fields vs)
    (hn:["enumerate","zip","dict_itemiterator","dict_reverseitemiterator","odict_iterator","itertools.zip_longest","itertools.pairwise"].contains n=false) (hQ:Q () s):wpAny M A (letOwnedTupleGo tg (.ref it) u) Q E s:=by
  unfold letOwnedTupleGo
  cases tg <;> first
    | exact wpAny_pure hQ
    | (cases u <;> first
        | exact wpAny_pure hQ
        | (refine wpAny_bind (wpAny_load ho ?_)
           rw [hc,hd]
           show wpAny M A (if (["enumerate","zip","dict_itemiterator","dict_reverseitemiterator","odict_iterator","itertools.zip_longest","itertools.pairwise"].contains n && vs[0]? == some (rawInt _))=true then _ else _) Q E s
           rw [if_neg (by intro h; rw [hn,Bool.false_and] at h; cases h)]
           exact wpAny_pure hQ))
noncomputable def Itl (K:PySem.W.Frag) (a:Addr):It :=
 ⟨λi H=>∃ xs x,SqL K H a xs/\xs[i]?=some x,λi H x H'=>H'=H/\∀ xs,SqL K H a xs->xs[i]?=some x,λi H=>∃ xs,SqL K H a xs/\xs.length<=i⟩
noncomputable def Itt (K:PySem.W.Frag) (a:Addr):It :=
 ⟨λi H=>∃ xs x,SqT K H a xs/\xs[i]?=some x,λi H x H'=>H'=H/\∀ xs,SqT K H a xs->xs[i]?=some x,λi H=>∃ xs,SqT K H a xs/\xs.length<=i⟩
noncomputable def Itr (lo:Int) (n:Nat):It:=⟨λi _=>i < n,λi H x H'=>H'=H/\x=.int (lo + i),λi _=>n<=i⟩
theorem Zgx {P:Program} {w:World} {K:PySem.W.Frag} {tg:Expr} (a it:Addr):Turn P w K tg (Itl K a) [it] it (λi h=>h.IsListIter it a i) where
 mem:=by simp
 obj:=λi h st b hb=>by
  have e:b=it:=by simpa using hb
  subst e
  obtain ⟨o,e,c,d⟩:=st
  exact ⟨o,e,λv z=>by rw [d] at z; cases z⟩
 keep:=λi h h' st k=>st.at λo e=>k it (by simp) o e
 item:=by
  intro X hP hw hK hc i pins s σ H E I hf st hg
  subst hP hw hK
  obtain ⟨xs,x,hq,hx⟩:=hg
  obtain ⟨its,rv,p,hz⟩:=I.list hq
  obtain ⟨u,hu,ru⟩:=rv.get hx
  obtain ⟨f0,f1,f2,f3,f4,f5⟩:=hf it (by simp)
  refine wpAny_pyNext_list_item st p.isList (x:=u) (by simpa using hu) λh' st' sb=>?_
  have I1:Inv X pins σ H { s with heap:=h' }:=I.turned (t':=s.toks) (λb o hb e=>(sb.2 b hb).trans e) f0 f1 f3 f4 f5
  obtain ⟨o,e,c,d⟩:=id st'
  exact ⟨u,rfl,V6 (s:={ s with heap:=h' }) e c d (by decide) ⟨x,H,I1,ru,⟨rfl,λys hy=>by rw [I.list_inj hy hq]; exact hx⟩,st',λb hb=>(hf b hb).1⟩⟩
 done:=by
  intro X hP hw hK hc i pins s σ H E I hf st hg
  subst hP hw hK
  obtain ⟨xs,hq,hx⟩:=hg
  obtain ⟨its,rv,p,hz⟩:=I.list hq
  obtain ⟨f0,f1,f2,f3,f4,f5⟩:=hf it (by simp)
  have hl:=rv.length
  exact wpAny_pyNext_list_end (I.ok.hd hc) st p.isList (by simp; omega) λh' eb=>⟨rfl,I.turned (t':=s.toks) (λb o hb e=>eb b o hb e) f0 f1 f3 f4 f5⟩
 self:=λ_ _ _ _ _ st h=>wpAny_pyIter_listiter st h
theorem Zfq {P:Program} {w:World} {K:PySem.W.Frag} {tg:Expr} (a it:Addr):Turn P w K tg (Itt K a) [it] it (λi h=>h.IsTupleIter it a i) where
 mem:=by simp
 obj:=λi h st b hb=>by
  have e:b=it:=by simpa using hb
  subst e
  obtain ⟨o,e,c,d⟩:=st
  exact ⟨o,e,λv z=>by rw [d] at z; cases z⟩
 keep:=λi h h' st k=>st.at λo e=>k it (by simp) o e
 item:=by
  intro X hP hw hK hc i pins s σ H E I hf st hg
  subst hP hw hK
  obtain ⟨xs,x,hq,hx⟩:=hg
  obtain ⟨its,rv,p,hz⟩:=I.tuple hq
  obtain ⟨u,hu,ru⟩:=rv.get hx
  obtain ⟨f0,f1,f2,f3,f4,f5⟩:=hf it (by simp)
  refine wpAny_pyNext_tuple_item st (show s.heap.IsTuple a its.toArray from p) (x:=u) (by simpa using hu) λh' st' sb=>?_
  have I1:Inv X pins σ H { s with heap:=h' }:=I.turned (t':=s.toks) (λb o hb e=>(sb.2 b hb).trans e) f0 f1 f3 f4 f5
  obtain ⟨o,e,c,d⟩:=id st'
  exact ⟨u,rfl,V6 (s:={ s with heap:=h' }) e c d (by decide) ⟨x,H,I1,ru,⟨rfl,λys hy=>by rw [I.tuple_inj hy hq]; exact hx⟩,st',λb hb=>(hf b hb).1⟩⟩
 done:=by
  intro X hP hw hK hc i pins s σ H E I hf st hg
  subst hP hw hK
  obtain ⟨xs,hq,hx⟩:=hg
  obtain ⟨its,rv,p,hz⟩:=I.tuple hq
  obtain ⟨f0,f1,f2,f3,f4,f5⟩:=hf it (by simp)
  have hl:=rv.length
  exact wpAny_pyNext_tuple_end (I.ok.hd hc) st (show s.heap.IsTuple a its.toArray from p) (by simp; omega) λh' eb=>⟨rfl,I.turned (t':=s.toks) (λb o hb e=>eb b o hb e) f0 f1 f3 f4 f5⟩
 self:=λ_ _ _ _ _ st h=>wpAny_pyIter_tupleiter st h
theorem Zfr {P:Program} {w:World} {K:PySem.W.Frag} {tg:Expr} (it:Addr) (lo:Int) (n:Nat):Turn P w K tg (Itr lo n) [it] it (λi h=>IsRangeIter h it (lo + (i:Nat) * 1) ((n:Int) - (i:Nat)) 1) where
 mem:=by simp
 obj:=λi h st b hb=>by
  have e:b=it:=by simpa using hb
  subst e
  exact ⟨_,st,λv z=>by
   have z':Data.fields _=Data.cell v:=z
   cases z'⟩
 keep:=λi h h' st k=>k it (by simp) _ st
 item:=by
  intro X hP hw hK hc i pins s σ H E I hf st hg
  subst hP hw hK
  obtain ⟨f0,f1,f2,f3,f4,f5⟩:=hf it (by simp)
  have W:=Walks.range (prog:=X.prog) (w:=X.w) (I.ok.hd hc) it lo 1 n
  refine W.item i s _ _ hg st λv h' tk hv st' kk=>?_
  obtain ⟨t,rfl⟩:=hv
  have I1:Inv X pins σ H { s with heap:=h',toks:=tk }:=I.turned (λb o hb e=>kk b o (by simpa using hb) e) f0 f1 f3 f4 f5
  refine ⟨_,rfl,V6 (s:={ s with heap:=h',toks:=tk }) (n:="range_iterator") st' rfl rfl (by decide) ⟨.int (lo + i),H,I1,⟨t,?_⟩,⟨rfl,rfl⟩,st',λb hb=>(hf b hb).1⟩⟩
  rw [Int.mul_one]
 done:=by
  intro X hP hw hK hc i pins s σ H E I hf st hg
  subst hP hw hK
  obtain ⟨f0,f1,f2,f3,f4,f5⟩:=hf it (by simp)
  exact wpAny_pyNext_range_end (I.ok.hd hc) st (by have:n<=i:=hg; omega) λh' eb=>⟨rfl,I.turned (t':=s.toks) (λb o hb e=>eb b o hb e) f0 f1 f3 f4 f5⟩
 self:=λ_ _ _ _ _ st h=>wpAny_pyIter_rangeiter st h
section
variable {X:Cx} {tg:Expr}
noncomputable def Zpu (K:PySem.W.Frag) (tl:TE):TI:=λσ H R=>tl σ H λx H1=>∃ a,x=.ref a/\(∃ xs,SqL K H1 a xs)/\R (Itl K a) H1
noncomputable def iTup (K:PySem.W.Frag) (tl:TE):TI:=λσ H R=>tl σ H λx H1=>∃ a,x=.ref a/\(∃ xs,SqT K H1 a xs)/\R (Itt K a) H1
theorem Yp {l:Expr} {tl:TE} (hl:PE X l tl):PI X tg l (Zpu X.K tl):=by
 intro pins s σ H R I h
 refine thn (hl pins s σ H _ I h) λv s1 zz9=>?_
 obtain ⟨x,H1,I1,r1,q1⟩:=zz9
 obtain ⟨a,e,⟨xs,hq⟩,q⟩:=q1
 subst e
 cases r1
 obtain ⟨its,rv,p,hz⟩:=I1.list hq
 refine wpAny_pyIter_list p.isList ?_
 refine ⟨s1.heap.objs.size,[s1.heap.objs.size],_,_,H1,rfl,I1.kept (t':=s1.toks) λb o e=>Heap.get?_push_of_some _ e,Zgx a _,⟨_,Heap.get?_push_size _ rfl,rfl,rfl⟩,λb hb=>?_,q⟩
 have e:b=s1.heap.objs.size:=by simpa using hb
 subst e
 exact I1.fpOk (Nat.le_refl _) (I1.hok.fresh (Nat.le_refl _))
theorem Zn3 {l:Expr} {tl:TE} (hl:PE X l tl):PI X tg l (iTup X.K tl):=by
 intro pins s σ H R I h
 refine thn (hl pins s σ H _ I h) λv s1 zz9=>?_
 obtain ⟨x,H1,I1,r1,q1⟩:=zz9
 obtain ⟨a,e,⟨xs,hq⟩,q⟩:=q1
 subst e
 cases r1
 obtain ⟨its,rv,p,hz⟩:=I1.tuple hq
 refine wpAny_pyIter_tuple (show s1.heap.IsTuple a its.toArray from p) ?_
 refine ⟨s1.heap.objs.size,[s1.heap.objs.size],_,_,H1,rfl,I1.kept (t':=s1.toks) λb o e=>Heap.get?_push_of_some _ e,Zfq a _,⟨_,Heap.get?_push_size _ rfl,rfl,rfl⟩,λb hb=>?_,q⟩
 have e:b=s1.heap.objs.size:=by simpa using hb
 subst e
 exact I1.fpOk (Nat.le_refl _) (I1.hok.fresh (Nat.le_refl _))
theorem Zcn {pins:List (Addr × Obj)} {σ:St} {H:Hp} {s:Shared} {R:It->Hp->Prop} {E:Value->Shared->Prop} {lo hi:Int} {t u v:Tok} {tk:Nat} (I:Inv X pins σ H s) (h1:-(2 ^ 62)<=lo) (h2:lo < 2 ^ 62) (h3:-(2 ^ 62)<=hi) (h4:hi < 2 ^ 62)
  (q:R (Itr lo (hi - lo).toNat) H):wpAny (model X.prog X.w) X.A (pyIter (.ref s.heap.objs.size)) (PIE X pins σ tg R) E { s with heap:=s.heap.push { cls:=.type "range",data:=.fields #[.int lo t,.int hi u,.int 1 v] },toks:=tk }:=by
 refine wpAny_pyIter_range (IsRange.new ..) (small_one h1 h2 h3 h4) ?_
 have I1:Inv X pins σ H { s with heap:=s.heap.push { cls:=.type "range",data:=.fields #[.int lo t,.int hi u,.int 1 v] },toks:=tk }:=I.kept λb o e=>Heap.get?_push_of_some _ e
 refine ⟨(s.heap.push { cls:=.type "range",data:=.fields #[.int lo t,.int hi u,.int 1 v] }).objs.size,[(s.heap.push { cls:=.type "range",data:=.fields #[.int lo t,.int hi u,.int 1 v] }).objs.size],_,_,H,rfl,
  I1.kept (t':=tk) λb o e=>Heap.get?_push_of_some _ e,Zfr _ lo (hi - lo).toNat,?_,λb hb=>?_,q⟩
 ·have e1:lo + ((0:Nat):Int) * 1=lo:=by simp
  have e2:(((hi - lo).toNat:Nat):Int) - ((0:Nat):Int)=Builtin.Range.rangeSize lo hi 1:=by rw [rangeSize_one]; split <;> omega
  show IsRangeIter _ _ (lo + ((0:Nat):Int) * 1) ((((hi - lo).toNat:Nat):Int) - ((0:Nat):Int)) 1
  rw [e1,e2]
  exact Heap.get?_push_size _ rfl
 ·have e:b=(s.heap.push { cls:=.type "range",data:=.fields #[.int lo t,.int hi u,.int 1 v] }).objs.size:=by simpa using hb
  subst e
  exact I1.fpOk (Nat.le_refl _) (I1.hok.fresh (Nat.le_refl _))
noncomputable def Zps (ta:TA):TI:=λσ H R=>ta σ H λvs H1=>∃ j:Int,vs=[.int j]/\-(2 ^ 62)<=j/\j < 2 ^ 62/\R (Itr 0 j.toNat) H1
noncomputable def Zpr (ta:TA):TI:=λσ H R=>ta σ H λvs H1=>∃ i j:Int,vs=[.int i,.int j]/\(-(2 ^ 62)<=i/\i < 2 ^ 62/\-(2 ^ 62)<=j/\j < 2 ^ 62)/\R (Itr i (j - i).toNat) H1
theorem Xt {a:Expr} {ta:TA} {p pos:Pos} (hg:Gl X "range") (hm:X.mg "range"=none) (ha:PA X [a] ta) (hs:starEach [a] X.env=[(false,eval a X.env)]:=by rfl):PI X tg (.Call (.Name "range" p) [a] [] pos) (Zps ta):=by
 intro pins s σ H R I h
 refine Call_ (Xu I hg hm boot_range (PyProof.Rows.callWith_type1 (thn (ha pos pins s σ H _ I h) λus s1 zz8=>?_) hs rfl))
 obtain ⟨vs,H1,I1,r1,q1⟩:=zz8
 obtain ⟨j,e,q1,q2,q⟩:=q1
 subst e
 cases r1 with
 | cons r rr =>
  cases rr
  obtain ⟨t,rfl⟩:=r
  exact call_range_1 (Zcn I1 (by omega) (by omega) q1 q2 (by simpa using q))
theorem Zhq {a b:Expr} {ta:TA} {p pos:Pos} (hg:Gl X "range") (hm:X.mg "range"=none) (ha:PA X [a,b] ta) (hs:starEach [a,b] X.env=[(false,eval a X.env),(false,eval b X.env)]:=by rfl) (hs2:starEach [b] X.env=[(false,eval b X.env)]:=by rfl) :
  PI X tg (.Call (.Name "range" p) [a,b] [] pos) (Zpr ta):=by
 intro pins s σ H R I h
 refine Call_ (Xu I hg hm boot_range (PyProof.Rows.callWith_type1 (thn (ha pos pins s σ H _ I h) λus s1 ⟨vs,H1,I1,r1,q1⟩=>?_) (by rw [hs,hs2]) (by rw [hs2]; rfl)))
 obtain ⟨i,j,e,⟨q1,q2,q3,q4⟩,q⟩:=q1
 subst e
 cases r1 with
 | cons r rr =>
  cases rr with
  | cons r' rr =>
   cases rr
   obtain ⟨t,rfl⟩:=r
   obtain ⟨t',rfl⟩:=r'
   exact call_range_2 (Zcn I1 q1 q2 q3 q4 q)
noncomputable def tFor (wi:TI) (g:TG) (tb:TS):TS:=λD σ H=>wi σ H λJ H1=>∃ W:Nat->Nat->St->Hp->Prop,(∃ m,W 0 m σ H1)/\∀ i m σ H,W i m σ H ->
 (J.stop i H/\D.nx σ H)\/(J.go i H/\∃ N:St->Hp->Prop,(∀ σ' H',N σ' H'->∃ m',m' < m/\W (i + 1) m' σ' H')/\∀ x H',J.yld i H x H'->g x σ H' λσ2 H2=>tb { D with nx:=N,ct:=N,bk:=D.nx } σ2 H2)
noncomputable def Oa (fp:List Addr) (h:Heap):List (Addr × Obj):=fp.filterMap λb=>(h.get? b).map λo=>(b,o)
theorem Qf {fp:List Addr} {h:Heap} {b:Addr} {o:Obj} (hb:b∈fp) (e:h.get? b=some o):(b,o)∈Oa fp h:=List.mem_filterMap.mpr ⟨b,hb,by rw [e]; rfl⟩
theorem Zii {fp:List Addr} {h:Heap} {p:Addr × Obj} (hp:p∈Oa fp h):p.1∈fp/\h.get? p.1=some p.2:=by
 obtain ⟨b,hb,e⟩:=List.mem_filterMap.mp hp
 cases q:h.get? b with
 | none=>rw [q] at e; cases e
 | some o =>
  rw [q] at e
  have e':(b,o)=p:=Option.some.inj e
  subst e'
  exact ⟨hb,q⟩
theorem Inv.pinned {pins:List (Addr × Obj)} {σ:St} {H:Hp} {s:Shared} {fp:List Addr} (I:Inv X pins σ H s) (hf:∀ b∈fp,FpOk X pins H b) (ho:∀ b∈fp,∃ o,s.heap.get? b=some o/\∀ v,o.data≠.cell v):Inv X (pins ++ Oa fp s.heap) σ H s :=
 I.pins_of λp hp=>(List.mem_append.mp hp).elim (λz=>I.pin p (List.mem_append_right _ z)) λz=>by
  obtain ⟨hb,e⟩:=Zii z
  obtain ⟨f0,f1,f2,_⟩:=hf p.1 hb
  obtain ⟨o,e',d⟩:=ho p.1 hb
  rw [e] at e'; cases e'
  exact ⟨e,f0,f1,f2,d⟩
theorem Inv.unpinned {pins pl:List (Addr × Obj)} {σ:St} {H:Hp} {s:Shared} (I:Inv X (pins ++ pl) σ H s):Inv X pins σ H s:=I.pins_of λp hp=>I.pin p (List.mem_append_right _ (List.mem_append_left _ hp))
theorem Xb {iter:Expr} {body:List Stmt} {wi:TI} {g:TG} {tb:TS} {pos:Pos} (hp:PassesOwn (model X.prog X.w) X.A X.env X.xe) (hc:X.calm=true) (hi:PI X tg iter wi) (hg:PG X tg g) (hb:PSs X body tb)
  (hs:∀ x,foldedSetIterable iter X.env x=pure x:=by intro _; rfl):PS X (.For tg iter body [] pos) (tFor wi g tb):=by
 intro pins s σ H D I h
 refine wpAny_For (thn (hi pins s σ H _ I h) λv s1 h1=>thn h1 λitv s2 h2=>?_) hs
 obtain ⟨it,fp,tn,J,H2,e,I2,T,st2,f2,W,⟨m0,w0⟩,turn⟩:=h2
 subst e
 have stat:∀ {H':Hp},(∀ b∈fp,H' b=none)->∀ b∈fp,FpOk X pins H' b:=λhn b hb=>⟨hn b hb,(f2 b hb).2⟩
 refine codeAny_forLoop_any (λn s'=>∃ i σ' H',Inv X pins σ' H' s'/\tn i s'.heap/\(∀ b∈fp,H' b=none)/\W i n σ' H') ?_ m0 ⟨0,σ,H2,I2,st2,λb hb=>(f2 b hb).1,w0⟩
 rintro n s3 ⟨i,σ3,H3,I3,st3,fr3,w3⟩
 rcases turn i n σ3 H3 w3 with ⟨stop,qn⟩ | ⟨go,N,hN,step⟩
 ·refine wpAny_passesOwn hp (thn (T.done X rfl rfl rfl hc i pins s3 σ3 H3 X.xe I3 (stat fr3) st3 stop) λr s4 ⟨hr,I4⟩=>?_)
  subst hr
  exact wpAny_execs_nil ⟨σ3,H3,I4,qn⟩
 ·refine wpAny_passesOwn hp (thn (T.item X rfl rfl rfl hc i pins s3 σ3 H3 X.xe I3 (stat fr3) st3 go) λr s4 ⟨u,hr,h4⟩=>?_)
  subst hr
  refine wpAny_passesOwn hp (thn h4 λ_ s5 zz9=>?_)
  obtain ⟨x,H5,I5,r5,y5,st5,fr5⟩:=zz9
  have I5':=I5.pinned (stat fr5) (T.obj _ _ st5)
  refine wpAny_passesOwn hp (thn (hg _ s5 σ3 H5 x u _ I5' r5 (step x H5 y5)) λ_ s6 zz9=>?_)
  obtain ⟨σ6,H6,I6,q6⟩:=zz9
  refine wpAny_passesOwn hp (thn (hb _ s6 σ6 H6 _ I6 q6) λf s7 q7=>?_)
  have again:∀ {σ7:St} {H7:Hp},Inv X (pins ++ Oa fp s5.heap) σ7 H7 s7->N σ7 H7->∃ m,m < n/\∃ i σ' H',Inv X pins σ' H' s7/\tn i s7.heap/\(∀ b∈fp,H' b=none)/\W i m σ' H':=λ{σ7 H7} I7 n7=>by
   obtain ⟨m',hm,w7⟩:=hN σ7 H7 n7
   refine ⟨m',hm,i + 1,σ7,H7,I7.unpinned,T.keep _ _ _ st5 λb hb o e=>(I7.pin (b,o) (List.mem_append_right _ (List.mem_append_right _ (Qf hb e)))).1,λb hb=>?_,w7⟩
   obtain ⟨o,e,d⟩:=T.obj _ _ st5 b hb
   exact (I7.pin (b,o) (List.mem_append_right _ (List.mem_append_right _ (Qf hb e)))).2.1
  cases f with
  | next=>obtain ⟨σ7,H7,I7,n7⟩:=q7; exact again I7 n7
  | cont=>obtain ⟨σ7,H7,I7,n7⟩:=q7; exact again I7 n7
  | brk=>obtain ⟨σ7,H7,I7,q7⟩:=q7; exact ⟨σ7,H7,I7.unpinned,q7⟩
  | ret v=>obtain ⟨x7,σ7,H7,I7,r7,q7⟩:=q7; exact ⟨x7,σ7,H7,I7.unpinned,r7,q7⟩
end
theorem Jn {K:PySem.W.Frag} {a:Addr} {xs:List V} {g:TG} {tb:TS} {D:Ends} {σ:St} {H:Hp} (Pv:Nat->St->Hp->Prop) (h0:Pv 0 σ H) (hl:∀ i σ H,i<=xs.length->Pv i σ H->SqL K H a xs)
  (hs:∀ i x σ H,xs[i]?=some x->Pv i σ H->g x σ H λσ2 H2=>tb { D with nx:=Pv (i + 1),ct:=Pv (i + 1),bk:=D.nx } σ2 H2) (hd:∀ σ H,Pv xs.length σ H->D.nx σ H) :
  ∃ W:Nat->Nat->St->Hp->Prop,(∃ m,W 0 m σ H)/\∀ i m σ H,W i m σ H ->
   ((Itl K a).stop i H/\D.nx σ H)\/((Itl K a).go i H/\∃ N:St->Hp->Prop,(∀ σ' H',N σ' H'->∃ m',m' < m/\W (i + 1) m' σ' H')/\∀ x H',(Itl K a).yld i H x H'->g x σ H' λσ2 H2=>tb { D with nx:=N,ct:=N,bk:=D.nx } σ2 H2):=by
 refine ⟨λi m σ H=>m=xs.length - i/\i<=xs.length/\Pv i σ H,⟨xs.length,by simp,Nat.zero_le _,h0⟩,?_⟩
 rintro i m σ H ⟨rfl,hi,p⟩
 have q:=hl i σ H hi p
 by_cases hlt:i < xs.length
 ·refine .inr ⟨⟨xs,xs[i],q,by simp [hlt]⟩,Pv (i + 1),λσ' H' p'=>⟨xs.length - (i + 1),by omega,rfl,hlt,p'⟩,λx H' y=>?_⟩
  obtain ⟨e,y⟩:=y
  subst e
  exact hs i x σ _ (y xs q) p
 ·have e:i=xs.length:=by omega
  subst e
  exact .inl ⟨⟨xs,q,Nat.le_refl _⟩,hd σ H p⟩
theorem W5 {lo:Int} {n:Nat} {g:TG} {tb:TS} {D:Ends} {σ:St} {H:Hp} (Pv:Nat->St->Hp->Prop) (h0:Pv 0 σ H)
  (hs:∀ i σ H,i < n->Pv i σ H->g (.int (lo + i)) σ H λσ2 H2=>tb { D with nx:=Pv (i + 1),ct:=Pv (i + 1),bk:=D.nx } σ2 H2) (hd:∀ σ H,Pv n σ H->D.nx σ H) :
  ∃ W:Nat->Nat->St->Hp->Prop,(∃ m,W 0 m σ H)/\∀ i m σ H,W i m σ H ->
   ((Itr lo n).stop i H/\D.nx σ H)\/((Itr lo n).go i H/\∃ N:St->Hp->Prop,(∀ σ' H',N σ' H'->∃ m',m' < m/\W (i + 1) m' σ' H')/\∀ x H',(Itr lo n).yld i H x H'->g x σ H' λσ2 H2=>tb { D with nx:=N,ct:=N,bk:=D.nx } σ2 H2):=by
 refine ⟨λi m σ H=>m=n - i/\i<=n/\Pv i σ H,⟨n,by simp,Nat.zero_le _,h0⟩,?_⟩
 rintro i m σ H ⟨rfl,hi,p⟩
 by_cases hlt:i < n
 ·refine .inr ⟨hlt,Pv (i + 1),λσ' H' p'=>⟨n - (i + 1),by omega,rfl,hlt,p'⟩,λx H' y=>?_⟩
  obtain ⟨e,y⟩:=y
  subst e y
  exact hs i σ _ hlt p
 ·have e:i=n:=by omega
  subst e
  exact .inl ⟨Nat.le_refl _,hd σ H p⟩
noncomputable abbrev R2:=V->V->Hp->VK->Prop
noncomputable def OpR (X:Cx) (f:Value->Value->Sem Value) (r:R2):Prop :=
 ∀ (pins:List (Addr × Obj)) (s:Shared) (σ:St) (H:Hp) (x y:V) (v u:Value) (Q:VK),Inv X pins σ H s->RelV x v->RelV y u->r x y H Q ->
  wpAny (model X.prog X.w) X.A (f v u) (EP X pins σ Q) X.xe s
noncomputable def UnR (X:Cx) (f:Value->Sem Value) (r:V->Hp->VK->Prop):Prop :=
 ∀ (pins:List (Addr × Obj)) (s:Shared) (σ:St) (H:Hp) (x:V) (v:Value) (Q:VK),Inv X pins σ H s->RelV x v->r x H Q ->
  wpAny (model X.prog X.w) X.A (f v) (EP X pins σ Q) X.xe s
noncomputable def Xy (X:Cx) (f:Value) (r:List V->Hp->VK->Prop):Prop :=
 ∀ (pins:List (Addr × Obj)) (s:Shared) (σ:St) (H:Hp) (xs:List V) (us:List Value) (Q:VK),Inv X pins σ H s->Vals xs us->r xs H Q ->
  wpAny (model X.prog X.w) X.A (call f us) (EP X pins σ Q) X.xe s
noncomputable def TruR (X:Cx) (r:V->Hp->(Bool->Hp->Prop)->Prop):Prop :=
 ∀ (pins:List (Addr × Obj)) (s:Shared) (σ:St) (H:Hp) (x:V) (v:Value) (Q:Bool->Hp->Prop),Inv X pins σ H s->RelV x v->r x H Q ->
  wpAny (model X.prog X.w) X.A (truthy v) (TP X pins σ Q) X.xe s
noncomputable def tOp (r:R2) (ta tb:TE):TE:=λσ H Q=>ta σ H λx H1=>tb σ H1 λy H2=>r x y H2 Q
noncomputable def tUn (r:V->Hp->VK->Prop) (ta:TE):TE:=λσ H Q=>ta σ H λx H1=>r x H1 Q
noncomputable def rI (C:Int->Int->Prop) (g:Int->Int->V):R2:=λx y H Q=>∃ i j,x=.int i/\y=.int j/\C i j/\Q (g i j) H
noncomputable def rI0 (g:Int->Int->V):R2:=λx y H Q=>∃ i j,x=.int i/\y=.int j/\Q (g i j) H
noncomputable def rU (g:Int->V):V->Hp->VK->Prop:=λx H Q=>∃ i,x=.int i/\Q (g i) H
section
variable {X:Cx} {a b c:Expr} {ta tb tc:TE} {pos:Pos}
theorem binT (ha:PE X a ta) (hb:PE X b tb) {pins:List (Addr × Obj)} {s:Shared} {σ:St} {H:Hp} {R:V->V->Hp->Prop} (I:Inv X pins σ H s)
  (h:ta σ H λx H1=>tb σ H1 λy H2=>R x y H2) {Q:Value->Shared->Prop} {f:Value->Value->Sem Value}
  (hf:∀ v u s2 x y H2,Inv X pins σ H2 s2->RelV x v->RelV y u->R x y H2->wpAny (model X.prog X.w) X.A (f v u) Q X.xe s2) :
  wpAny (model X.prog X.w) X.A (eval a X.env) (λv s₁=>wpAny (model X.prog X.w) X.A (eval b X.env) (λu s₂=>wpAny (model X.prog X.w) X.A (f v u) Q X.xe s₂) X.xe s₁) X.xe s:=by
 refine thn (ha pins s σ H _ I h) λv s1 zz9=>?_
 obtain ⟨x,H1,I1,r1,q1⟩:=zz9
 refine thn (hb pins s1 σ H1 _ I1 q1) λu s2 zz9=>?_
 obtain ⟨y,H2,I2,r2,q2⟩:=zz9
 exact hf v u s2 x y H2 I2 r1 r2 q2
theorem Zi {op:Operator} {r:R2} (ho:OpR X (binaryOp op) r) (ha:PE X a ta) (hb:PE X b tb):PE X (.BinOp a op b pos) (tOp r ta tb):=by
 intro pins s σ H Q I h
 exact wpAny_BinOp (binT ha hb I h λv u s2 x y H2 I2 rx ry q=>ho pins s2 σ H2 x y v u Q I2 rx ry q)
theorem Zlc {op:UnaryOp} {r:V->Hp->VK->Prop} (ho:UnR X (unaryOp op) r) (ha:PE X a ta):PE X (.UnaryOp op a pos) (tUn r ta):=by
 intro pins s σ H Q I h
 refine UnaryOp_ (thn (ha pins s σ H _ I h) λv s1 zz9=>?_)
 obtain ⟨x,H1,I1,r1,q1⟩:=zz9
 exact ho pins s1 σ H1 x v Q I1 r1 q1
theorem opI {f:Value->Value->Sem Value} {C:Int->Int->Prop} {g:Int->Int->Int}
  (rule:∀ (i j:Int) (t u:Tok) (s:Shared) (Q:Value->Shared->Prop) (E:Value->Shared->Prop),C i j->Q (.int (g i j) s.toks) { s with toks:=s.toks + 1 }->wpAny (model X.prog X.w) X.A (f (.int i t) (.int j u)) Q E s) :
  OpR X f (rI C λi j=>.int (g i j)):=by
 intro pins s σ H x y v u Q I rx ry h
 obtain ⟨i,j,rfl,rfl,hc,q⟩:=h
 obtain ⟨t,rfl⟩:=rx
 obtain ⟨t',rfl⟩:=ry
 exact rule i j t t' s _ _ hc ⟨.int (g i j),H,I.tok _,⟨_,rfl⟩,q⟩
theorem opI0 {f:Value->Value->Sem Value} {g:Int->Int->Int}
  (rule:∀ (i j:Int) (t u:Tok) (s:Shared) (Q:Value->Shared->Prop) (E:Value->Shared->Prop),Q (.int (g i j) s.toks) { s with toks:=s.toks + 1 }->wpAny (model X.prog X.w) X.A (f (.int i t) (.int j u)) Q E s) :
  OpR X f (rI0 λi j=>.int (g i j)):=by
 intro pins s σ H x y v u Q I rx ry h
 obtain ⟨i,j,rfl,rfl,q⟩:=h
 obtain ⟨t,rfl⟩:=rx
 obtain ⟨t',rfl⟩:=ry
 exact rule i j t t' s _ _ ⟨.int (g i j),H,I.tok _,⟨_,rfl⟩,q⟩
theorem opB0 {f:Value->Value->Sem Value} {g:Int->Int->Bool}
  (rule:∀ (i j:Int) (t u:Tok) (s:Shared) (Q:Value->Shared->Prop) (E:Value->Shared->Prop),Q (.bool (g i j)) s->wpAny (model X.prog X.w) X.A (f (.int i t) (.int j u)) Q E s) :
  OpR X f (rI0 λi j=>.bl (g i j)):=by
 intro pins s σ H x y v u Q I rx ry h
 obtain ⟨i,j,rfl,rfl,q⟩:=h
 obtain ⟨t,rfl⟩:=rx
 obtain ⟨t',rfl⟩:=ry
 exact rule i j t t' s _ _ ⟨.bl (g i j),H,I,rfl,q⟩
noncomputable def CDiv (i j:Int):Prop:=0 < j/\j < 1073741824
noncomputable def CPow (i j:Int):Prop:=0<=j/\j<=1000000/\i.natAbs < 2 ^ 64
noncomputable def CMul (i j:Int):Prop:=(-(2 ^ 64) < i/\i < 2 ^ 64)\/(-(2 ^ 64) < j/\j < 2 ^ 64)
theorem CMul.ok {i j:Int} (h:CMul i j):IntMulOk i j:=by
 rcases h with ⟨h1,h2⟩ | ⟨h1,h2⟩
 ·exact .of_left (intBits_le_64 h1 h2)
 ·exact .of_right (intBits_le_64 h1 h2)
theorem Yn:OpR X (binaryOp .Add) (rI0 λi j=>.int (i + j)):=opI0 λ_ _ _ _ _ _ _ q=>add_int q
theorem J1:OpR X (binaryOp .Sub) (rI0 λi j=>.int (i - j)):=opI0 λ_ _ _ _ _ _ _ q=>sub_int q
theorem Wl:OpR X (binaryOp .Mult) (rI CMul λi j=>.int (i * j)):=opI λ_ _ _ _ _ _ _ hc q=>mul_int q hc.ok
theorem Ym:OpR X (binaryOp .FloorDiv) (rI CDiv λi j=>.int (i / j)):=opI λi j _ _ _ _ _ hc q=>by
 have h1:(0:Int) < j:=hc.1
 have h2:j < 1073741824:=hc.2
 exact floordiv_int (by omega) (by rw [Int.fdiv_eq_ediv_of_nonneg i (by omega)]; exact q) (.inl (PyProof.noPylong_small (by omega)))
theorem Z6:OpR X (binaryOp .Mod) (rI (λ_ j=>0 < j) λi j=>.int (i % j)):=opI λi j _ _ _ _ _ hc q=>by
 have h1:(0:Int) < j:=hc
 exact mod_int' (by omega) (by rw [Int.fmod_eq_emod_of_nonneg i (by omega)]; exact q)
theorem Zn8:OpR X (binaryOp .Pow) (rI CPow λi j=>.int (i ^ j.toNat)):=opI λ_ _ _ _ _ _ _ hc q=>pow_int_small hc.1 hc.2.1 hc.2.2 q
theorem unI {f:Value->Sem Value} {g:Int->Int}
  (rule:∀ (i:Int) (t:Tok) (s:Shared) (Q:Value->Shared->Prop) (E:Value->Shared->Prop),Q (.int (g i) s.toks) { s with toks:=s.toks + 1 }->wpAny (model X.prog X.w) X.A (f (.int i t)) Q E s) :
  UnR X f (rU λi=>.int (g i)):=by
 intro pins s σ H x v Q I rx h
 obtain ⟨i,rfl,q⟩:=h
 obtain ⟨t,rfl⟩:=rx
 exact rule i t s _ _ ⟨.int (g i),H,I.tok _,⟨_,rfl⟩,q⟩
theorem Zgt:UnR X (unaryOp .USub) (rU λi=>.int (-i)):=unI λ_ _ _ _ _ q=>neg_int q
end
noncomputable def scal:V->V->Bool
 | .non,.non=>true | .non,.int _=>true | .int _,.non=>true | .non,.bl _=>true | .bl _,.non=>true | .non,.str _=>true | .str _,.non=>true
 | .int _,.int _=>true | .bl _,.bl _=>true | .str _,.str _=>true | .byt _,.byt _=>true
 | .int _,.str _=>true | .str _,.int _=>true | .bl _,.str _=>true | .str _,.bl _=>true
 | _,_=>false
noncomputable def rEq:R2:=λx y H Q=>scal x y=true/\Q (.bl (decide (x=y))) H
noncomputable def rNe:R2:=λx y H Q=>scal x y=true/\Q (.bl (!decide (x=y))) H
theorem Zfl {i j:Int}:decide (V.int i=V.int j)=(i == j):=by
 rw [Bool.eq_iff_iff]
 simp
theorem Zi5 {i j:Bool}:decide (V.bl i=V.bl j)=(i == j):=by
 rw [Bool.eq_iff_iff]
 simp
theorem Zfk {i j:Str}:decide (V.str i=V.str j)=(i == j):=by
 rw [Bool.eq_iff_iff]
 simp
theorem Zfm {i j:Array UInt8}:decide (V.byt i=V.byt j)=(i.toList == j.toList):=by
 rw [Bool.eq_iff_iff]
 cases i
 cases j
 simp
section
variable {X:Cx} {a b c:Expr} {ta tb tc:TE} {pos:Pos}
theorem Yg {pins:List (Addr × Obj)} {σ:St} {H:Hp} {s:Shared} {Q:VK} {k k':Bool} (I:Inv X pins σ H s) (q:Q (.bl k) H) (e:k=k'):EP X pins σ Q (.bool k') s:=by
 subst e
 exact ⟨.bl k,H,I,rfl,q⟩
theorem Ye:OpR X (compareOp .Eq) rEq:=by
 intro pins s σ H x y v u Q I rx ry h
 obtain ⟨hs,q⟩:=h
 cases x with
 | non =>
  cases rx
  cases y with
  | non=>cases ry; exact PySem.EqNone.eq_none_none (Yg I q (by simp))
  | bl j=>cases ry; exact PySem.EqNone.eq_none_bool (Yg I q (by simp))
  | int j=>obtain ⟨t',rfl⟩:=ry; exact PySem.EqNone.eq_none_int (Yg I q (by simp))
  | str j=>obtain ⟨t',rfl⟩:=ry; exact PySem.EqNone.eq_none_str (Yg I q (by simp))
  | _=>exact absurd (show false=true from hs) Bool.false_ne_true
 | bl i =>
  cases rx
  cases y with
  | non=>cases ry; exact PySem.EqNone.eq_bool_none (Yg I q (by simp))
  | bl j=>cases ry; exact eq_bool (Yg I q Zi5)
  | str j=>obtain ⟨t',rfl⟩:=ry; exact PySem.EqMixed.eq_bool_str (Yg I q (by simp))
  | _=>exact absurd (show false=true from hs) Bool.false_ne_true
 | int i =>
  obtain ⟨t,rfl⟩:=rx
  cases y with
  | non=>cases ry; exact PySem.EqNone.eq_int_none (Yg I q (by simp))
  | int j=>obtain ⟨t',rfl⟩:=ry; exact eq_int (Yg I q Zfl)
  | str j=>obtain ⟨t',rfl⟩:=ry; exact PySem.EqMixed.eq_int_str (Yg I q (by simp))
  | _=>exact absurd (show false=true from hs) Bool.false_ne_true
 | str i =>
  obtain ⟨t,rfl⟩:=rx
  cases y with
  | non=>cases ry; exact PySem.EqNone.eq_str_none (Yg I q (by simp))
  | bl j=>cases ry; exact PySem.EqMixed.eq_str_bool (Yg I q (by simp))
  | int j=>obtain ⟨t',rfl⟩:=ry; exact PySem.EqMixed.eq_str_int (Yg I q (by simp))
  | str j=>obtain ⟨t',rfl⟩:=ry; exact eq_str (Yg I q Zfk)
  | _=>exact absurd (show false=true from hs) Bool.false_ne_true
 | byt i =>
  obtain ⟨t,rfl⟩:=rx
  cases y with
  | byt j=>obtain ⟨t',rfl⟩:=ry; exact PySem.W.eq_bytes (Yg I q Zfm)
  | _=>exact absurd (show false=true from hs) Bool.false_ne_true
 | _=>cases y <;> exact absurd (show false=true from hs) Bool.false_ne_true
theorem Os:OpR X (compareOp .NotEq) rNe:=by
 intro pins s σ H x y v u Q I rx ry h
 obtain ⟨hs,q⟩:=h
 cases x with
 | non =>
  cases rx
  cases y with
  | non=>cases ry; exact PySem.EqNone.ne_none_none (Yg I q (by simp))
  | bl j=>cases ry; exact PySem.EqNone.ne_none_bool (Yg I q (by simp))
  | int j=>obtain ⟨t',rfl⟩:=ry; exact PySem.EqNone.ne_none_int (Yg I q (by simp))
  | str j=>obtain ⟨t',rfl⟩:=ry; exact PySem.EqNone.ne_none_str (Yg I q (by simp))
  | _=>exact absurd (show false=true from hs) Bool.false_ne_true
 | bl i =>
  cases rx
  cases y with
  | non=>cases ry; exact PySem.EqNone.ne_bool_none (Yg I q (by simp))
  | bl j=>cases ry; exact ne_bool (Yg I q (congrArg not Zi5))
  | str j=>obtain ⟨t',rfl⟩:=ry; exact PySem.EqMixed.ne_bool_str (Yg I q (by simp))
  | _=>exact absurd (show false=true from hs) Bool.false_ne_true
 | int i =>
  obtain ⟨t,rfl⟩:=rx
  cases y with
  | non=>cases ry; exact PySem.EqNone.ne_int_none (Yg I q (by simp))
  | int j=>obtain ⟨t',rfl⟩:=ry; exact ne_int (Yg I q (congrArg not Zfl))
  | str j=>obtain ⟨t',rfl⟩:=ry; exact PySem.EqMixed.ne_int_str (Yg I q (by simp))
  | _=>exact absurd (show false=true from hs) Bool.false_ne_true
 | str i =>
  obtain ⟨t,rfl⟩:=rx
  cases y with
  | non=>cases ry; exact PySem.EqNone.ne_str_none (Yg I q (by simp))
  | bl j=>cases ry; exact PySem.EqMixed.ne_str_bool (Yg I q (by simp))
  | int j=>obtain ⟨t',rfl⟩:=ry; exact PySem.EqMixed.ne_str_int (Yg I q (by simp))
  | str j=>obtain ⟨t',rfl⟩:=ry; exact ne_str (Yg I q (congrArg not Zfk))
  | _=>exact absurd (show false=true from hs) Bool.false_ne_true
 | byt i =>
  obtain ⟨t,rfl⟩:=rx
  cases y with
  | byt j=>obtain ⟨t',rfl⟩:=ry; exact PySem.W.ne_bytes (Yg I q (congrArg not Zfm))
  | _=>exact absurd (show false=true from hs) Bool.false_ne_true
 | _=>cases y <;> exact absurd (show false=true from hs) Bool.false_ne_true
theorem Wi:OpR X (compareOp .Lt) (rI0 λi j=>.bl (decide (i < j))):=opB0 λ_ _ _ _ _ _ _ q=>lt_int q
theorem Zf5:OpR X (compareOp .LtE) (rI0 λi j=>.bl (decide (i<=j))):=opB0 λ_ _ _ _ _ _ _ q=>le_int q
theorem Ou:OpR X (compareOp .Gt) (rI0 λi j=>.bl (decide (j < i))):=opB0 λ_ _ _ _ _ _ _ q=>gt_int q
theorem Zf6:OpR X (compareOp .GtE) (rI0 λi j=>.bl (decide (j<=i))):=opB0 λ_ _ _ _ _ _ _ q=>ge_int q
theorem Zn9:OpR X (compareOp .Is) (λx y H Q=>y=.non/\Q (.bl (decide (x=.non))) H):=by
 intro pins s σ H x y v u Q I rx ry h
 obtain ⟨rfl,q⟩:=h
 cases ry
 refine is_none_gen (Yg I q ?_)
 cases x <;> first
  | (cases rx; rfl)
  | (obtain ⟨t,rfl⟩:=rx; rfl)
theorem Qo:OpR X (compareOp .IsNot) (λx y H Q=>y=.non/\Q (.bl (!decide (x=.non))) H):=by
 intro pins s σ H x y v u Q I rx ry h
 obtain ⟨rfl,q⟩:=h
 cases ry
 refine isnot_none_gen (Yg I q ?_)
 cases x <;> first
  | (cases rx; rfl)
  | (obtain ⟨t,rfl⟩:=rx; rfl)
theorem Zn (b:Expr) {op:CmpOp} (h:op≠.In:=by decide) (h2:op≠.NotIn:=by decide):behindInMarks op b=false:=by
 have e1:(op == CmpOp.In)=false:=by cases op <;> first | rfl | exact absurd rfl h
 have e2:(op == CmpOp.NotIn)=false:=by cases op <;> first | rfl | exact absurd rfl h2
 cases b <;> simp [behindInMarks,e1,e2]
theorem Vq {op:CmpOp} {r:R2} (ho:OpR X (compareOp op) r) (ha:PE X a ta) (hb:PE X b tb) (hm:behindInMarks op b=false):PE X (.Compare a [op] [b] pos) (tOp r ta tb):=by
 intro pins s σ H Q I h
 exact wpAny_Compare1 (binT ha hb I h λv u s2 x y H2 I2 rx ry q=>ho pins s2 σ H2 x y v u Q I2 rx ry q) hm
noncomputable def Zo2 (t:TE):TT:=λσ H Q=>t σ H λx H'=>∃ k,x=.bl k/\Q k H'
theorem Zk {op:CmpOp} {r:R2} (ho:OpR X (compareOp op) r) (ha:PE X a ta) (hb:PE X b tb) (hm:behindInMarks op b=false):PT X (.Compare a [op] [b] pos) (Zo2 (tOp r ta tb)):=by
 intro pins s σ H Q I h
 refine wpAny_isTrue_Compare1 (thn (ha pins s σ H _ I h) λv s1 ⟨x,H1,I1,r1,q1⟩=>thn (hb pins s1 σ H1 _ I1 q1) λu s2 ⟨y,H2,I2,r2,q2⟩ =>
  thn (ho pins s2 σ H2 x y v u _ I2 r1 r2 q2) λc s3 ⟨z,H3,I3,r3,k,e,q3⟩=>?_) hm
 subst e
 cases r3
 exact wpAny_truthy_bool ⟨H3,I3,q3⟩
noncomputable def Znv (r r':R2) (ta tb tc:TE):TE:=λσ H Q=>ta σ H λx H1=>tb σ H1 λy H2=>r x y H2 λz H3=>∃ k,z=.bl k /\
 (if k=true then tc σ H3 λw' H4=>r' y w' H4 Q else Q (.bl false) H3)
theorem Zcu {op op':CmpOp} {r r':R2} (ho:OpR X (compareOp op) r) (ho':OpR X (compareOp op') r') (ha:PE X a ta) (hb:PE X b tb) (hc:PE X c tc)
  (hm:lastMarks [op,op'] [b,c]=false:=by with_unfolding_all rfl):PE X (.Compare a [op,op'] [b,c] pos) (Znv r r' ta tb tc):=by
 intro pins s σ H Q I h
 refine Compare_chain (thn (ha pins s σ H _ I h) λv s1 ⟨x,H1,I1,r1,q1⟩=>chain_link (thn (hb pins s1 σ H1 _ I1 q1) λu s2 ⟨y,H2,I2,r2,q2⟩ =>
  thn (ho pins s2 σ H2 x y v u _ I2 r1 r2 q2) λd s3 ⟨z,H3,I3,r3,k,e,q3⟩=>?_)) hm
 subst e
 cases r3
 refine wpAny_truthy_bool ?_
 cases k with
 | false=>exact ite_ff ⟨.bl false,H3,I3,rfl,q3⟩
 | true=>exact ite_tt (chain_last (thn (hc pins s3 σ H3 _ I3 q3) λw' s4 ⟨z',H4,I4,r4,q4⟩=>ho' pins s4 σ H4 y z' u w' Q I4 r2 r4 q4))
noncomputable def TruV (K:PySem.W.Frag) (x:V) (H:Hp) (k:Bool):Prop :=
 match x with
 | .non=>k=false
 | .bl b=>k=b
 | .int i=>k=(i != 0)
 | .str y=>y.length<=sizeLine/\k=((y.length:Int) != 0)
 | .byt y=>y.size<=sizeLine/\k=((y.size:Int) != 0)
 | .ref p=>(∃ xs,SqL K H p xs/\k=!xs.isEmpty)\/(∃ xs,SqT K H p xs/\k=!xs.isEmpty)\/∃ kvs,H p=some (.dK kvs)/\k=!kvs.isEmpty
 | _=>False
theorem Zgl {κ:Type} {kvs:List (κ × V)} {vs:List (κ × Value)} (r:KV kvs vs):(!vs.isEmpty)=!kvs.isEmpty:=by
 cases r <;> rfl
theorem G5 {xs:List V} {its:List Value} (r:Vals xs its):(!its.toArray.isEmpty)=!xs.isEmpty:=by
 cases r <;> simp
theorem Q2:(sizeLine:Nat) < 2 ^ 63:=by rw [sizeLine_eq]; decide
theorem Znl:TruR X (λx H Q=>∃ k,TruV X.K x H k/\Q k H):=by
 intro pins s σ H x v Q I rx h
 obtain ⟨k,e,q⟩:=h
 have hl:=Q2
 have hs:sizeLine=16777216:=sizeLine_eq
 cases x with
 | non =>
  cases rx
  have e':k=false:=e
  subst e'
  exact truthy_none ⟨H,I,q⟩
 | bl b =>
  cases rx
  have e':k=b:=e
  subst e'
  exact wpAny_truthy_bool ⟨H,I,q⟩
 | int i =>
  obtain ⟨t,rfl⟩:=rx
  have e':k=(i != 0):=e
  subst e'
  exact PySem.P.truthy_int ⟨H,I,q⟩
 | str y =>
  obtain ⟨t,rfl⟩:=rx
  obtain ⟨hy,e'⟩:y.length<=sizeLine/\k=((y.length:Int) != 0):=e
  subst e'
  exact PySem.P.truthy_str (by omega) ⟨H,I.tok _,q⟩
 | byt y =>
  obtain ⟨t,rfl⟩:=rx
  obtain ⟨hy,e'⟩:y.size<=sizeLine/\k=((y.size:Int) != 0):=e
  subst e'
  exact PySem.W.truthy_bytes (by omega) ⟨H,I.tok _,q⟩
 | ref p =>
  cases rx
  have e':(∃ xs,SqL X.K H p xs/\k=!xs.isEmpty)\/(∃ xs,SqT X.K H p xs/\k=!xs.isEmpty)\/∃ kvs,H p=some (.dK kvs)/\k=!kvs.isEmpty:=e
  rcases e' with ⟨xs,hx,e'⟩ | ⟨xs,hx,e'⟩ | ⟨kvs,hx,e'⟩
  ·subst e'
   obtain ⟨its,r,pl,hz⟩:=I.list hx
   have hlen:=r.length
   exact wpAny_truthy_list pl.isList (by simp only [List.size_toArray]; omega) ⟨H,I.tok _,by rw [G5 r]; exact q⟩
  ·subst e'
   obtain ⟨its,r,pl,hz⟩:=I.tuple hx
   have hlen:=r.length
   exact truthy_tuple pl (by simp only [List.size_toArray]; omega) ⟨H,I.tok _,by rw [G5 r]; exact q⟩
  ·subst e'
   obtain ⟨hz,hS,vs,r,m⟩:kvs.length<=sizeLine/\(p == sysModules)=false/\∃ vs,KV kvs vs/\s.heap.DictOf (Yd X.prog X.w) p vs:=I.hok p _ hx
   have hlen:kvs.length=vs.length:=Paired.length r
   exact wpAny_truthy_dict hS m (by omega) ⟨H,I.tok _,by rw [Zgl r]; exact q⟩
 | _=>exact (show False from e).elim
theorem V1 (ha:PE X a ta) (he:∀ whole,isTrue a X.env whole=(do let v <- whole; standAt a.pos; holding [v] (truthy v))) :
  PT X a (λσ H Q=>ta σ H λx H'=>∃ k,TruV X.K x H' k/\Q k H'):=by
 intro pins s σ H Q I h
 refine isTrue_plain (thn (ha pins s σ H _ I h) λv s1 zz10=>?_) (he _)
 obtain ⟨x,H1,I1,r1,q1⟩:=zz10
 exact Znl pins s1 σ H1 x v Q I1 r1 q1
theorem We {x:V} {us:List Value} (r:Vals [x] us):∃ u,us=[u]/\RelV x u:=by
 cases r with
 | cons r1 r2=>cases r2; exact ⟨_,rfl,r1⟩
theorem Zk6 {x y:V} {us:List Value} (r:Vals [x,y] us):∃ u w',us=[u,w']/\RelV x u/\RelV y w':=by
 cases r with
 | cons r1 r2 =>
  cases r2 with
  | cons r3 r4=>cases r4; exact ⟨_,_,rfl,r1,r3⟩
theorem Zdl:Xy X (.type "str") (λxs H Q=>∃ i,xs=[.int i]/\i.natAbs.log2 < 1920/\Q (.str (toString i)) H):=by
 intro pins s σ H xs us Q I r h
 obtain ⟨i,rfl,hz,q⟩:=h
 obtain ⟨u,rfl,t,rfl⟩:=We r
 exact PySem.P.str_of_int hz ⟨.str _,H,I.tok _,⟨_,rfl⟩,q⟩
end
structure ObjM (h:Heap) (x dx C:Addr) (mA:Str->Option Value):Prop where
 obj:h.get? x=some (PySem.W.instObj C dx)
 ns:h.Ns1 dx mA
 ne:dx≠x
theorem Zio {h:Heap} {dx:Addr} {mA:Str->Option Value} (n:h.Ns1 dx mA):∃ od,h.get? dx=some od/\∀ name,PySem.W.lookIn name od=some (mA name):=by
 obtain ⟨o,es,ep,ho,hd,hk,_,hm⟩:=n
 refine ⟨o,ho,λname=>?_⟩
 have e:=hm name
 unfold nsFind findBy at e
 rw [<- Array.find?_toList] at e
 unfold PySem.W.lookIn
 rw [hd]
 dsimp only
 split
 ·rename_i y q
  rw [q] at e
  exact congrArg some e
 ·rename_i q
  rw [q] at e
  have a:es.toList.any (·.refKey)=false:=by
   rw [List.any_eq_false]
   intro y hy
   obtain ⟨z,t,hkey⟩:=hk y (Array.mem_toList_iff.mp hy)
   simp [DictEntry.refKey,hkey]
  have a':¬ es.toList.any (·.refKey)=true:=by rw [a]; exact Bool.false_ne_true
  rw [if_neg a']
  exact congrArg some e
theorem ObjM.look {h:Heap} {x dx C:Addr} {mA:Str->Option Value} (I:ObjM h x dx C mA):∃ od,PySem.W.InstAt h x (PySem.W.instObj C dx) C (some od)/\∀ name,PySem.W.lookIn name od=some (mA name) :=
 let ⟨od,ho,hl⟩:=Zio I.ns
 ⟨od,⟨I.obj,rfl,rfl,ho⟩,hl⟩
section
variable {prog:Program} {w:World} {A:Around} {E:Value->Shared->Prop} {s:Shared} {K:PySem.W.Frag} {x dx C f:Addr} {mA:Str->Option Value} {name:Str} {v:Value}
theorem Zm2 {expr:Bool} {Q:Value->Shared->Prop} (X:K.In s.heap) (I:ObjM s.heap x dx C mA) (hg:PySem.W.plainGet K C name=true) (hh:PySem.W.hasDictIn K C=true)
  (ha:PySem.W.findIn K (.ref C) name=some none) (hv:mA name=some v) (hv':PySem.W.handedIn v=true) (h:Q v { s with toks:=s.toks + 1 }) :
  wpAny (model prog w) A (getAttr (.ref x) name expr) Q E s:=by
 obtain ⟨od,J,hl⟩:=I.look
 exact PySem.W.get_value X J (PySem.W.plainGet_of hg).1 (PySem.W.findObj_own hh ha rfl (by rw [hl,hv])) hv' h
theorem Zks {pl:Sem Bool} {Q:Value × List Value->Shared->Prop} (X:K.In s.heap) (I:ObjM s.heap x dx C mA) (hg:PySem.W.plainGet K C name=true)
  (hf:PySem.W.findIn K (.ref C) name=some (some (.ref f))) (ht:PySem.W.isFn K (.ref f)=true) (hv:mA name=none) (h:Q (.ref f,[.ref x]) s) :
  wpAny (model prog w) A (getMethod (.ref x) name pl) Q E s:=by
 obtain ⟨od,J,hl⟩:=I.look
 exact PySem.W.method_fn X J (PySem.W.plainGet_of hg).1 (PySem.W.plainGet_of hg).2 hf (beq_iff_eq.mp ht) (by show (PySem.W.lookIn name od).map (·.isSome)=some false; rw [hl,hv]; rfl) h
theorem Zl7 {ns:List Str} {Q:Unit->Shared->Prop} (X:K.In s.heap) (I:ObjM s.heap x dx C mA)
  (hs:PySem.W.findIn K (.ref C) "__setattr__"=some (some (.builtin "object.__setattr__"))) (hp:PySem.W.plainOver K C=true) (ht:PySem.W.takerIn K C name=some none) (hh:PySem.W.hasDictIn K C=true)
  (hw:PySem.Within mA ns) (hsz:ns.length<=sizeLine)
  (h:∀ h',ObjM h' x dx C (λy=>if y=name then some v else mA y)->Heap.SameBut dx s.heap h'->Q () { s with heap:=h',toks:=s.toks + 2 }) :
  wpAny (model prog w) A (setAttr (.ref x) name v) Q E s:=by
 obtain ⟨od,J,hl⟩:=I.look
 refine PySem.W.set_plain X J hs (PySem.W.osa_open (s:={ s with toks:=s.toks + 1 }) (r:=none) X J hp ht λb=>?_)
 obtain ⟨cd,hc,hd'⟩:=PySem.W.any_some hh
 have hx:s.heap.get? x=some ⟨.ref C,some dx,.plain,#[]⟩:=I.obj
 refine wpAny_bind (wpAny_pure (wpAny_bind (wpAny_bind (wpAny_loadPart hx (wpAny_bind (PySem.W.Looks.here (s:={ s with toks:=s.toks + 1 }) (PySem.W.looks_clsIn X hc) ?_))))))
 rw [hd']
 refine wpAny_pure (a:=some dx) (wpAny_bind (wpAny_pure (wpAny_bind ?_)))
 refine wpAny_nsSet1 (s:={ s with toks:=s.toks + 1 }) I.ns λh' hn2 hs2=>?_
 obtain ⟨oD,esD,epD,hoD,hdD,hcD⟩:=hn2.count (PySem.Within.cons name v hw)
 refine wpAny_bind (wpAny_lookBehind hoD (by rw [hdD]; exact pastItsLine_dict (Nat.le_trans hcD (by rw [List.length_cons]; omega))) ?_)
 exact wpAny_pure (h _ ⟨(hs2.2 _ (Ne.symm I.ne)).trans I.obj,hn2,I.ne⟩ hs2)
theorem Zkg {R:Result->Shared->Prop} {vs:List Value} {kw:List (Str × Value)} (X:K.In s.heap) (hm:PySem.W.makesIn K C=true)
  (hi:PySem.W.findIn K (.ref C) "__init__"=some (some (.ref f))) (hf:PySem.W.typeIn K (.ref f)=some (.type "function"))
  (h:codeAny (model prog w) (A.under (.builtin "type.__call__" ⟨.ref C :: vs,kw⟩)) (.call (.ref f) ⟨.ref (s.heap.objs.size + 1) :: vs,kw⟩) (PySem.W.InitBack (s.heap.objs.size + 1) R)
   { s with heap:=(s.heap.push PySem.W.emptyDict).push (PySem.W.instObj C s.heap.objs.size) }) :
  codeAny (model prog w) A (.call (.ref C) ⟨vs,kw⟩) R s:=by
 obtain ⟨hh,g,d,t,os⟩:=s
 exact PySem.W.make_core (PySem.W.makes_of X hm) (PySem.W.looks_findIn X hi) (λself=>PySem.W.bind_fn X self hf) (.inl rfl) h
end
noncomputable def putF (f:Str) (v:V):List (Str × V)->List (Str × V)
 | []=>[(f,v)]
 | (g,x) :: r=>if g=f then (g,v) :: r else (g,x) :: putF f v r
theorem Z5 (f g:Str) (v:V):∀ fs:List (Str × V),(putF f v fs).lookup g=if g=f then some v else fs.lookup g
 | []=>by
  show List.lookup g [(f,v)]=_
  by_cases h:g=f
  ·have hb:(g == f)=true:=beq_iff_eq.mpr h
   simp only [List.lookup,hb,if_pos h]
  ·have hb:(g == f)=false:=beq_eq_false_iff_ne.mpr h
   simp only [List.lookup,hb,if_neg h]
 | (k,x) :: r=>by
  have ih:=Z5 f g v r
  rw [show putF f v ((k,x) :: r)=(if k=f then (k,v) :: r else (k,x) :: putF f v r) from rfl]
  by_cases hk:k=f
  ·rw [if_pos hk]
   by_cases h:g=k
   ·have hb:(g == k)=true:=beq_iff_eq.mpr h
    simp only [List.lookup,hb,if_pos (h.trans hk)]
   ·have hb:(g == k)=false:=beq_eq_false_iff_ne.mpr h
    simp only [List.lookup,hb,if_neg (λe:g=f=>h (e.trans hk.symm))]
  ·rw [if_neg hk]
   by_cases h:g=k
   ·have hb:(g == k)=true:=beq_iff_eq.mpr h
    simp only [List.lookup,hb,if_neg (λe:g=f=>hk (h.symm.trans e))]
   ·have hb:(g == k)=false:=beq_eq_false_iff_ne.mpr h
    simp only [List.lookup,hb]
    exact ih
theorem Og (f:Str) (v:V):∀ fs:List (Str × V),f∈(putF f v fs).map (·.1)/\∀ g,g∈fs.map (·.1)->g∈(putF f v fs).map (·.1)
 | []=>⟨by simp [putF],λg h=>by simp at h⟩
 | (k,x) :: r=>by
  obtain ⟨i1,i2⟩:=Og f v r
  rw [show putF f v ((k,x) :: r)=(if k=f then (k,v) :: r else (k,x) :: putF f v r) from rfl]
  by_cases hk:k=f
  ·rw [if_pos hk]
   subst hk
   exact ⟨by simp,λg h=>by simpa using h⟩
  ·rw [if_neg hk]
   refine ⟨?_,λg h=>?_⟩
   ·rw [List.map_cons]
    exact List.mem_cons_of_mem _ i1
   ·rw [List.map_cons] at h ⊢
    rcases List.mem_cons.mp h with e | e
    ·exact List.mem_cons.mpr (.inl e)
    ·exact List.mem_cons_of_mem _ (i2 g e)
theorem Kh (f:Str) (v:V):∀ fs:List (Str × V),(putF f v fs).length<=fs.length + 1
 | []=>by simp [putF]
 | (k,x) :: r=>by
  have ih:=Kh f v r
  rw [show putF f v ((k,x) :: r)=(if k=f then (k,v) :: r else (k,x) :: putF f v r) from rfl]
  by_cases hk:k=f
  ·rw [if_pos hk,List.length_cons,List.length_cons]; omega
  ·rw [if_neg hk,List.length_cons,List.length_cons]; omega
theorem RelO.some_of {v:V} {o:Option Value} (r:RelO (some v) o):∃ u,o=some u/\RelV v u:=by
 cases o with
 | none=>exact (show False from r).elim
 | some u=>exact ⟨u,rfl,r⟩
theorem RelO.none_of {o:Option Value} (r:RelO none o):o=none:=by
 cases o with
 | none=>rfl
 | some u=>exact (show False from r).elim
theorem Ziy {v:V} {u:Value} (r:RelV v u):PySem.W.handedIn u=true:=by
 cases v with
 | non=>cases (show u=Value.none from r); rfl
 | bl b=>cases (show u=Value.bool b from r); rfl
 | int i=>obtain ⟨t,e⟩:=(show ∃ t,u=Value.int i t from r); cases e; rfl
 | str x=>obtain ⟨t,e⟩:=(show ∃ t,u=Value.str x t from r); cases e; rfl
 | byt b=>obtain ⟨t,e⟩:=(show ∃ t,u=Value.bytes b t from r); cases e; rfl
 | flt b=>obtain ⟨t,e⟩:=(show ∃ t,u=Value.float b t from r); cases e; rfl
 | ref a=>cases (show u=Value.ref a from r); rfl
 | ty n=>cases (show u=Value.type n from r); rfl
section
variable {P:Program} {w:World} {H H':Hp} {h h':Heap} {a C dx:Addr} {fs fs':List (Str × V)}
theorem Ow (hok:HOk P w H h) (e:H a=some (.ins C dx fs)):∃ mA,ObjM h a dx C mA/\(∀ f,RelO (fs.lookup f) (mA f))/\PySem.Within mA (fs.map (·.1))/\fs.length<=1000/\H dx=some (.own a):=by
 obtain ⟨d,z,ne,ob,mA,n,r,q⟩:=(show Yl P w H h a (.ins C dx fs) from hok a _ e)
 exact ⟨mA,⟨ob,n,ne⟩,r,q,z,d⟩
end
structure Cls (K:PySem.W.Frag) (C:Addr):Prop where
 pg:PySem.W.plainGet K C Str.empty=true
 hd:PySem.W.hasDictIn K C=true
 po:PySem.W.plainOver K C=true
 sa:PySem.W.findIn K (.ref C) "__setattr__"=some (some (.builtin "object.__setattr__"))
theorem Cls.get {K:PySem.W.Frag} {C:Addr} (c:Cls K C) (f:Str):PySem.W.plainGet K C f=true:=c.pg
noncomputable def Y5 (K:PySem.W.Frag) (C:Addr) (f:Str):Prop:=PySem.W.findIn K (.ref C) f=some none
theorem Y5.taker {K:PySem.W.Frag} {C:Addr} {f:Str} (n:Y5 K C f):PySem.W.takerIn K C f=some none:=by
 unfold PySem.W.takerIn
 rw [show PySem.W.findIn K (.ref C) f=some none from n]
 rfl
structure Meth (K:PySem.W.Frag) (C:Addr) (m:Str) (f:Addr):Prop where
 at_:PySem.W.findIn K (.ref C) m=some (some (.ref f))
 fn:PySem.W.isFn K (.ref f)=true
 kp:PySem.W.keepIn K (.ref f)=true
section
variable {X:Cx} {pins:List (Addr × Obj)} {σ:St} {H:Hp} {s:Shared} {a C dx:Addr} {fs:List (Str × V)} {f:Str} {v:V} {A:Around} {E:Value->Shared->Prop}
theorem Zgm {b:Bool} {Q:Value->Shared->Prop} (I:Inv X pins σ H s) (e:H a=some (.ins C dx fs)) (c:Cls X.K C) (n:Y5 X.K C f) (l:fs.lookup f=some v)
  (h:∀ u s',Inv X pins σ H s'->RelV v u->Q u s'):wpAny (model X.prog X.w) A (getAttr (.ref a) f b) Q E s:=by
 obtain ⟨mA,O,r,_,_,_⟩:=Ow I.hok e
 obtain ⟨u,hu,ru⟩:=RelO.some_of (v:=v) (o:=mA f) (by rw [<- l]; exact r f)
 exact Zm2 I.kIn O (c.get f) c.hd n hu (Ziy ru) (h u _ (I.tok _) ru)
theorem V7 {m:Str} {g:Addr} {pl:Sem Bool} {Q:Value × List Value->Shared->Prop} (I:Inv X pins σ H s) (e:H a=some (.ins C dx fs)) (c:Cls X.K C) (k:Meth X.K C m g) (l:fs.lookup m=none)
  (h:Q (.ref g,[.ref a]) s):wpAny (model X.prog X.w) A (getMethod (.ref a) m pl) Q E s:=by
 obtain ⟨mA,O,r,_,_,_⟩:=Ow I.hok e
 have hn:mA m=none:=RelO.none_of (by rw [<- l]; exact r m)
 exact Zks I.kIn O (c.get m) k.at_ k.fn hn h
theorem Zfz {y:V} {u:Value} {Q:Unit->Shared->Prop} (I:Inv X pins σ H s) (e:H a=some (.ins C dx fs)) (c:Cls X.K C) (n:Y5 X.K C f) (hl:fs.length < 1000) (ry:RelV y u)
  (h:∀ s',Inv X pins σ (upd H a (.ins C dx (putF f y fs))) s'->Q () s'):wpAny (model X.prog X.w) A (setAttr (.ref a) f u) Q E s:=by
 obtain ⟨mA,O,r,wi,_,ho⟩:=Ow I.hok e
 have hz:(fs.map (·.1)).length<=sizeLine:=by rw [List.length_map,sizeLine_eq]; omega
 refine Zl7 I.kIn O c.sa c.po n.taker c.hd wi hz λh' O' sb=>h _ ?_
 have hd:∃ o,h'.get? dx=some o:=let ⟨o,_,_,e',_⟩:=O'.ns; ⟨o,e'⟩
 refine I.write (x:=a) (e:=dx) (by rw [e]; exact True.intro) (.inr ho) (λb q hb z=>(sb.2 b hb).trans z) hd ?_
 refine ⟨by rw [Ze O.ne]; exact ho,?_,O.ne,O'.obj,_,O'.ns,λg=>?_,λg hg=>?_⟩
 ·have:=Kh f y fs; omega
 ·show RelO ((putF f y fs).lookup g) (if g=f then some u else mA g)
  rw [Z5]
  by_cases q:g=f
  ·rw [if_pos q,if_pos q]; exact ry
  ·rw [if_neg q,if_neg q]; exact r g
 ·by_cases q:g=f
  ·rw [q]; exact (Og f y fs).1
  ·refine (Og f y fs).2 g (wi g λz=>hg ?_)
   show (if g=f then some u else mA g)=none
   rw [if_neg q]; exact z
theorem Inv.made (I:Inv X pins σ H s):Inv X pins σ (upd (upd H s.heap.objs.size (.own (s.heap.objs.size + 1))) (s.heap.objs.size + 1) (.ins C s.heap.objs.size []))
  { s with heap:=(s.heap.push PySem.W.emptyDict).push (PySem.W.instObj C s.heap.objs.size) }:=by
 have e1:(s.heap.push PySem.W.emptyDict).get? s.heap.objs.size=some PySem.W.emptyDict:=Heap.get?_push_size s.heap rfl
 have e2:((s.heap.push PySem.W.emptyDict).push (PySem.W.instObj C s.heap.objs.size)).get? (s.heap.objs.size + 1)=some (PySem.W.instObj C s.heap.objs.size):=by
  have:=Heap.get?_push_size (s.heap.push PySem.W.emptyDict) (o:=PySem.W.instObj C s.heap.objs.size) rfl
  rwa [Heap.size_push] at this
 have e3:(s.heap.push PySem.W.emptyDict).Ns s.heap.objs.size (λ_=>none):=⟨PySem.W.emptyDict,#[],_,e1,rfl,(λe he=>absurd he (by simp)),λ_=>rfl⟩
 have I1:=I.laid (a:=s.heap.objs.size) (o:=.own (s.heap.objs.size + 1)) (h':=s.heap.push PySem.W.emptyDict) (t':=s.toks) (λb u q=>Heap.get?_push_of_some _ q) (Nat.le_refl _) ⟨_,e1⟩
 refine I1.laid (a:=s.heap.objs.size + 1) (o:=.ins C s.heap.objs.size []) (t':=s.toks) (λb u q=>Heap.get?_push_of_some _ q) (Nat.le_of_eq (Heap.size_push _ _)) ?_
 have ne:s.heap.objs.size≠s.heap.objs.size + 1:=Nat.ne_of_lt (Nat.lt_succ_self _)
 refine ⟨by rw [Ze ne,Zc],Nat.zero_le _,ne,e2,λ_=>none,(Heap.Ns1.of_empty e3).at λo q=>Heap.get?_push_of_some _ q,λ_=>True.intro,λy hy=>absurd rfl hy⟩
theorem Zm9 {prog:Program} {w:World} {env:Env} {e:Expr} {f:Str} {pos:Pos} {s:Shared} {Q:Value->Shared->Prop} (hb:attributeBase e f env (eval e env)=eval e env)
  (h:wpAny (model prog w) A (eval e env) (λo s₁=>wpAny (model prog w) A (getAttr o f true) Q E s₁) E s):wpAny (model prog w) A (eval (.Attribute e f pos) env) Q E s :=
 Attribute_any_ h (by rw [arm_eval_Attribute,hb])
end
noncomputable def tFld (K:PySem.W.Frag) (ta:TE) (f:Str):TE:=λσ H Q=>ta σ H λx H1=>∃ a C dx fs v,x=.ref a/\H1 a=some (.ins C dx fs)/\Cls K C/\Y5 K C f/\fs.lookup f=some v/\Q v H1
noncomputable def sFld (K:PySem.W.Frag) (ta tv:TE) (f:Str):TS:=λD σ H=>tv σ H λy H1=>ta σ H1 λx H2=>∃ a C dx fs,x=.ref a/\H2 a=some (.ins C dx fs)/\Cls K C/\Y5 K C f/\fs.length < 1000 /\
 D.nx σ (upd H2 a (.ins C dx (putF f y fs)))
noncomputable def InOp (X:Cx) (op:Operator) (rd:V->V->Hp->VK->Prop):Prop :=
 ∀ (pins:List (Addr × Obj)) (s:Shared) (σ:St) (H:Hp) (x y:V) (u v:Value) (Q:VK),Inv X pins σ H s->RelV x u->RelV y v->rd x y H Q->wpAny (model X.prog X.w) X.A (inplaceOp op u v) (EP X pins σ Q) X.xe s
section
variable {X:Cx} {o e value:Expr} {f:Str} {pos pos' tpos:Pos} {ta tv:TE}
theorem Yr (he:PE X e ta) (hb:attributeBase e f X.env (eval e X.env)=eval e X.env):PE X (.Attribute e f pos) (tFld X.K ta f):=by
 intro pins s σ H Q I h
 refine Zm9 hb (thn (he pins s σ H _ I h) λu s1 zz9=>?_)
 obtain ⟨x,H1,I1,rx,a,C,dx,fs,v,ex,ea,c,n,l,q⟩:=zz9
 subst ex
 obtain rfl:u=Value.ref a:=rx
 exact Zgm I1 ea c n l λu' s2 I2 ru=>⟨v,H1,I2,ru,q⟩
theorem Xs (ha:PE X o ta) (hv:PE X value tv) (hs:swapsWith value (some (.Attribute o f pos')) pos.line X.env=pure false):PS X (.Assign [.Attribute o f pos'] value pos) (sFld X.K ta tv f):=by
 intro pins s σ H D I h
 refine plainObj_wpAny_Assign_Attribute (thn (hv pins s σ H _ I h) λu s1 zz11=>?_) hs
 obtain ⟨y,H1,I1,ry,q⟩:=zz11
 refine thn (ha pins s1 σ H1 _ I1 q) λov s2 zz12=>?_
 obtain ⟨x,H2,I2,rx,a,C,dx,fs,ex,ea,c,n,l,q2⟩:=zz12
 subst ex
 obtain rfl:ov=Value.ref a:=rx
 exact Zfz I2 ea c n l ry λs3 I3=>⟨σ,_,I3,q2⟩
noncomputable def rAdd:V->V->Hp->VK->Prop:=λx y H Q=>∃ i j,x=.int i/\y=.int j/\Q (.int (i + j)) H
theorem Zon:InOp X .Add rAdd:=by
 rintro pins s σ H x y u v Q I rx ry ⟨i,j,rfl,rfl,q⟩
 obtain ⟨t,rfl⟩:=(show ∃ t,u=Value.int i t from rx)
 obtain ⟨t',rfl⟩:=(show ∃ t',v=Value.int j t' from ry)
 exact PyProof.Rows.iadd_int ⟨.int (i + j),H,I.tok _,⟨_,rfl⟩,q⟩
end
section
variable {X:Cx} {pins:List (Addr × Obj)} {σ:St} {H:Hp} {s:Shared} {A:Around} {E:Value->Shared->Prop} {Q:Value->Shared->Prop} {c:Value} {b:Bool}
inductive TyOf (K:PySem.W.Frag) (H:Hp):V->Value->Prop where
 | non:TyOf K H .non (.type "NoneType")
 | bl (x:Bool):TyOf K H (.bl x) (.type "bool")
 | int (i:Int):TyOf K H (.int i) (.type "int")
 | str (x:Str):TyOf K H (.str x) (.type "str")
 | flt (x:UInt64):TyOf K H (.flt x) (.type "float")
 | lst {a:Addr} {xs:List V} (e:H a=some (.lst xs)):TyOf K H (.ref a) (.type "list")
 | frz {a:Addr} {o:Obj} {xs:List V} (e:H a=some (.frz o (.lst xs))):TyOf K H (.ref a) (.type "list")
 | tup {a:Addr} {xs:List V} (e:H a=some (.tup xs)):TyOf K H (.ref a) (.type "tuple")
 | dK {a:Addr} {kvs:List (Key × V)} (e:H a=some (.dK kvs)):TyOf K H (.ref a) (.type "dict")
 | dT {a:Addr} {kvs:List (List Key × V)} (e:H a=some (.dT kvs)):TyOf K H (.ref a) (.type "dict")
 | ins {a C dx:Addr} {fs:List (Str × V)} (e:H a=some (.ins C dx fs)) (cl:Cls K C) (ha:PySem.W.findIn K (.ref C) "__class__"=some (some (.builtin "object.__class__")))
   (hn:PySem.W.specialIn K (.builtin "object.__class__") "__get__"=some (some (.builtin "getset_descriptor.__get__"))) (htk:PySem.W.takesIn K (.builtin "object.__class__")=some true)
   (hm:PySem.W.mroIn K C (.type "object")=some true):TyOf K H (.ref a) (.ref C)
theorem Zis {x:V} {u t:Value} (I:Inv X pins σ H s) (rx:RelV x u) (ty:TyOf X.K H x t) (e:PySem.W.kitOne X.K t c=some b) (h:∀ tk,Q (.bool b) { s with toks:=tk }) :
  wpAny (model X.prog X.w) A (call (.builtin "isinstance") [u,c]) Q E s:=by
 cases ty with
 | non=>cases (show u=Value.none from rx); exact PySem.W.kia_one PySem.W.kitx_none I.kIn True.intro e (λz=>nomatch z) h
 | bl y=>cases (show u=Value.bool y from rx); exact PySem.W.kia_one PySem.W.kitx_bool I.kIn True.intro e (λz=>nomatch z) h
 | int i=>obtain ⟨t,q⟩:=(show ∃ t,u=Value.int i t from rx); cases q; exact PySem.W.kia_one PySem.W.kitx_int I.kIn True.intro e (λz=>nomatch z) h
 | str y=>obtain ⟨t,q⟩:=(show ∃ t,u=Value.str y t from rx); cases q; exact PySem.W.kia_one PySem.W.kitx_str I.kIn True.intro e (λz=>nomatch z) h
 | flt y=>obtain ⟨t,q⟩:=(show ∃ t,u=Value.float y t from rx); cases q; exact PySem.W.kia_one PySem.W.kitx_float I.kIn True.intro e (λz=>nomatch z) h
 | @lst a xs ea =>
  cases (show u=Value.ref a from rx)
  obtain ⟨_,_,n,_,h1⟩:=(show Yl X.prog X.w H s.heap a (.lst xs) from I.hok a _ ea)
  exact PySem.W.kia_one PySem.W.kitx_list I.kIn ⟨_,h1,rfl⟩ e (λz=>nomatch z) h
 | @frz a ob xs ea =>
  cases (show u=Value.ref a from rx)
  obtain ⟨_,_,_,n,_,h1⟩:=(show Yl X.prog X.w H s.heap a (.frz ob (.lst xs)) from I.hok a _ ea)
  exact PySem.W.kia_one PySem.W.kitx_list I.kIn ⟨_,h1,rfl⟩ e (λz=>nomatch z) h
 | @tup a xs ea =>
  cases (show u=Value.ref a from rx)
  obtain ⟨_,_,_,p⟩:=(show Yl X.prog X.w H s.heap a (.tup xs) from I.hok a _ ea)
  obtain ⟨o,h1,h2,_⟩:=p
  exact PySem.W.kia_one PySem.W.kitx_tuple I.kIn ⟨o,h1,h2⟩ e (λz=>nomatch z) h
 | @dK a kvs ea =>
  cases (show u=Value.ref a from rx)
  obtain ⟨_,_,vs,_,p⟩:=(show Yl X.prog X.w H s.heap a (.dK kvs) from I.hok a _ ea)
  obtain ⟨o,es,ep,h1,h2,_⟩:=p
  exact PySem.W.kia_one PySem.W.kitx_dict I.kIn ⟨o,h1,h2.1⟩ e (λz=>nomatch z) h
 | @dT a kvs ea =>
  cases (show u=Value.ref a from rx)
  obtain ⟨_,_,xs,_,o,es,ep,h1,h2,_⟩:=(show Yl X.prog X.w H s.heap a (.dT kvs) from I.hok a _ ea)
  exact PySem.W.kia_one PySem.W.kitx_dict I.kIn ⟨o,h1,h2.1⟩ e (λz=>nomatch z) h
 | @ins a C dx fs ea cl ha hn htk hm =>
  cases (show u=Value.ref a from rx)
  obtain ⟨mA,O,_⟩:=Ow I.hok ea
  obtain ⟨od,J,_⟩:=O.look
  exact PySem.W.kia_one (PySem.W.kitx_own (cl.get _) cl.hd ha hn htk hm) I.kIn J e (λz=>nomatch z) h
end
structure Room (k:Nat) (A:Around):Prop where
 hd:A.handled=none
 dp:A.depth + 3 * k + 5 < recursionLimit
 un:A.units + 16 * k + 200 < cLine
theorem Room.mono {j k:Nat} {A:Around} (r:Room k A) (h:j<=k):Room j A:=⟨r.hd,by have:=r.dp; omega,by have:=r.un; omega⟩
theorem Room.deeper {k:Nat} {A:Around} (r:Room (k + 1) A) (env:Env):Room k (A.deeper env) :=
 ⟨r.hd,by have:=r.dp; show A.depth + 1 + 3 * k + 5 < _; omega,by have:=r.un; show A.units + 3 + 16 * k + 200 < _; omega⟩
theorem Zgi {A:Around} {C:Addr} {us:List Value} {kw:List (Str × Value)}:(A.under (.builtin "type.__call__" ⟨.ref C :: us,kw⟩)).depth=A.depth + 1:=by
 first | rfl | simp [Around.under,Code.weight,Code.isCreation,Code.isGuard,Code.isCaller,Code.frames,Code.isFrame,guardIds]
theorem Zgh {A:Around} {C:Addr} {us:List Value} {kw:List (Str × Value)}:(A.under (.builtin "type.__call__" ⟨.ref C :: us,kw⟩)).units=A.units + 1:=by
 first | rfl | simp [Around.under,Code.cUnits,Code.frames,Code.isFrame]
theorem Room.make {k:Nat} {A:Around} (r:Room (k + 1) A) (C:Addr) (us:List Value) (kw:List (Str × Value)):Room k (A.under (.builtin "type.__call__" ⟨.ref C :: us,kw⟩)) :=
 ⟨r.hd,by have:=r.dp; rw [Zgi]; omega,by have:=r.un; rw [Zgh]; omega⟩
theorem Room.depth {k:Nat} {A:Around} (r:Room k A):A.depth < recursionLimit:=by have:=r.dp; omega
theorem Room.units {k:Nat} {A:Around} (r:Room k A):A.units + 64 < cLine:=by have:=r.un; omega
noncomputable def tNil:TA:=λ_ H Q=>Q [] H
noncomputable def Zpb (ta:TE) (tr:TA):TA:=λσ H Q=>ta σ H λx H1=>tr σ H1 λxs H2=>Q (x :: xs) H2
section
variable {X:Cx} {e:Expr} {es:List Expr} {te:TE} {t:TA} {pos:Pos}
theorem Zb:PA X [] tNil:=λ_ _ _ _ H Q I h=>Calls.spliced_nil ⟨[],H,I,.nil,h⟩
theorem Za (ha:PE X e te) (hr:PA X es t) (hs:starEach (e :: es) X.env=(false,eval e X.env) :: starEach es X.env:=by rfl):PA X (e :: es) (Zpb te t):=by
 intro pos pins s σ H Q I h
 rw [hs]
 show wpAny _ _ (spliced ((false,eval e X.env) :: backTo pos (starEach es X.env))) _ _ s
 refine Calls.spliced_cons (thn (ha pins s σ H _ I h) λu s1 zz9=>?_)
 obtain ⟨x,H1,I1,r1,q1⟩:=zz9
 refine thn (hr pos pins s1 σ H1 _ I1 q1) λus s2 zz13=>?_
 obtain ⟨xs,H2,I2,r2,q2⟩:=zz13
 exact ⟨x :: xs,H2,I2,.cons r1 r2,q2⟩
noncomputable def tTup (t:TA):TE:=λσ H Q=>t σ H λxs H1=>xs.length<=sizeLine/\∀ p,H1 p=none->Q (.ref p) (upd H1 p (.tup xs))
noncomputable def tLst (t:TA):TE:=λσ H Q=>t σ H λxs H1=>xs.length<=sizeLine/\∀ p,H1 p=none->Q (.ref p) (upd H1 p (.lst xs))
theorem X7 {x1} (h:PA X es t):PE X (.Tuple es x1 pos) (tTup t):=by
 intro pins s σ H Q I hq
 refine wpAny_Tuple_spliced (thn (h pos pins s σ H _ I hq) λus s1 zz7=>?_)
 obtain ⟨xs,H1,I1,r,z,q⟩:=zz7
 refine ⟨by rw [<- r.length]; exact z,?_⟩
 have hf:H1 s1.heap.objs.size=none:=I1.hok.fresh (Nat.le_refl _)
 refine ⟨.ref s1.heap.objs.size,upd H1 s1.heap.objs.size (.tup xs),I1.laid (t':=s1.toks) (λb u e=>Heap.get?_push_of_some _ e) (Nat.le_refl _) ?_,rfl,q _ hf⟩
 exact ⟨z,us,r,⟨_,Heap.get?_push_size _ rfl,rfl,_,rfl⟩⟩
theorem Xd (h:PA X es t):PE X (.List es pos) (tLst t):=by
 intro pins s σ H Q I hq
 refine wpAny_List_spliced (thn (h pos pins s σ H _ I hq) λus s1 zz7=>?_)
 obtain ⟨xs,H1,I1,r,z,q⟩:=zz7
 refine ⟨by rw [<- r.length]; exact z,?_⟩
 have hf:H1 s1.heap.objs.size=none:=I1.hok.fresh (Nat.le_refl _)
 refine ⟨.ref s1.heap.objs.size,upd H1 s1.heap.objs.size (.lst xs),I1.laid (t':=s1.toks) (λb u e=>Heap.get?_push_of_some _ e) (Nat.le_refl _) ?_,rfl,q _ hf⟩
 exact ⟨z,us,0,r,Heap.get?_push_size _ rfl⟩
end
noncomputable abbrev Sp:=List V->Hp->VK->XK->Prop
noncomputable abbrev CXT:=List Env->Hp->Shared->XK->Value->Shared->Prop
structure Env0 (P:Program) (w:World) (K:PySem.W.Frag) (mg:Str->Option Value) (base:Heap) (A:Around) (outer:List Env) (s:Shared) (H:Hp):Prop where
 frames:A.frames=some outer
 mod:Mod K mg base
 bs:∀ b o,base.get? b=some o->s.heap.get? b=some o/\H b=none
 bsz:base.objs.size<=s.heap.objs.size
 funs:s.heap.FunFrames base outer
 frf:∀ b∈frs outer,H b=none
 hok:HOk P w H s.heap
 bare:AllBare s.gens
noncomputable def CE (outer:List Env) (P:Program) (w:World) (H:Hp) (s:Shared) (Q:VK) (u:Value) (s':Shared):Prop :=
 ∃ v H',s'.os=s.os/\AllBare s'.gens/\Un (frs outer) [] H H' s.heap s'.heap/\HOk P w H' s'.heap/\RelV v u/\Q v H'
noncomputable def CR (CX:CXT) (outer:List Env) (P:Program) (w:World) (H:Hp) (s:Shared) (Q:VK) (E:XK) (r:Result) (s':Shared):Prop :=
 match r with
 | .ok (.ret u)=>CE outer P w H s Q u s'
 | .ok _=>False
 | .error e=>CX outer H s E e s'
structure FnOk (P:Program) (w:World) (K:PySem.W.Frag) (mg:Str->Option Value) (base:Heap) (CX:CXT) (k:Nat) (f:Addr) (fd:FuncData) (ps:List Str) (sp:Sp):Prop where
 len:∀ vs H Q E,sp vs H Q E->vs.length=ps.length
 run:∀ (A:Around) (outer:List Env) (s:Shared) (H:Hp) (args:Args) (us:List Value) (vs:List V) (Q:VK) (E:XK),Room k A->Env0 P w K mg base A outer s H->BindsTo s fd args (ps.zip us)->Vals vs us->sp vs H Q E ->
  codeAny (model P w) A (.call (.ref f) args) (CR CX outer P w H s Q E) s
theorem Env0.make {P:Program} {w:World} {K:PySem.W.Frag} {mg:Str->Option Value} {base:Heap} {A:Around} {outer:List Env} {s:Shared} {H:Hp} (e:Env0 P w K mg base A outer s H) (C:Addr) (us:List Value) (kw:List (Str × Value)) :
  Env0 P w K mg base (A.under (.builtin "type.__call__" ⟨.ref C :: us,kw⟩)) outer s H:=⟨by first | exact e.frames | (simpa [Around.under,Code.envs,Code.isFrame,pushEnvs] using e.frames),e.mod,e.bs,e.bsz,e.funs,e.frf,e.hok,e.bare⟩
section
variable {X:Cx} {pins:List (Addr × Obj)} {σ:St} {H:Hp} {s s':Shared}
theorem Inv.env0 (I:Inv X pins σ H s):Env0 X.prog X.w X.K X.mg X.base X.A X.stack s H :=
 ⟨I.ok.frames,I.ok.mod,I.bs,Nat.le_trans I.ok.bsz I.sz,I.stack,I.stkFree,I.hok,I.bare⟩
theorem Inv.after {Q:VK} {u:Value} (I:Inv X pins σ H s) (h:CE X.stack X.prog X.w H s Q u s'):EP X pins σ Q u s':=by
 obtain ⟨v,H',os,bare,un,hok,r,q⟩:=h
 obtain ⟨hh,g,d,t,os'⟩:=s'
 obtain rfl:os'=s.os:=os
 exact ⟨v,H',I.call (h':=hh) (g':=g) (d':=d) (t':=t) (ch:=[]) un hok bare (λb z=>absurd z (by simp)),r,q⟩
end
noncomputable def Zpc (sp:Sp) (dvs:List V) (E:XK) (t:TA):TE:=λσ H Q=>t σ H λvs H1=>sp (vs ++ dvs) H1 Q E
noncomputable def Zk7 (C:Addr) (m:Str) (sp:Sp) (dvs:List V) (E:XK) (ta:TE) (t:TA):TE:=λσ H Q=>ta σ H λx H1=>∃ a dx fs,x=.ref a/\H1 a=some (.ins C dx fs)/\fs.lookup m=none /\
 t σ H1 λvs H2=>sp (x :: (vs ++ dvs)) H2 Q E
noncomputable def Zo7 (C:Addr) (sp:Sp) (dvs:List V) (E:XK) (t:TA):TE:=λσ H Q=>t σ H λvs H1=>∀ x dx,H1 x=none->H1 dx=none->dx≠x ->
 sp (.ref x :: (vs ++ dvs)) (upd (upd H1 dx (.own x)) x (.ins C dx [])) (λv H2=>v=.non/\Q (.ref x) H2) E
noncomputable def Wa (K:PySem.W.Frag) (fd:FuncData) (ps:List Str) (ds:List Value):Prop :=
 ∀ (s:Shared) (us:List Value),K.In s.heap->(us ++ ds).length=ps.length->BindsTo s fd ⟨us,[]⟩ (ps.zip (us ++ ds))
theorem Wa.all {K:PySem.W.Frag} {fd:FuncData} {ps:List Str} (h:∀ us:List Value,us.length=ps.length->bindArgs fd ⟨us,[]⟩=pure (ps.zip us)):Wa K fd ps []:=λs us _ hl=>by
 rw [List.append_nil] at hl ⊢
 exact .of_eq (h us hl)
noncomputable def Q4 (CX:CXT) (X:Cx) (E:XK):Prop:=∀ (pins:List (Addr × Obj)) (σ:St) (H:Hp) (s:Shared) (e:Value) (s':Shared),Inv X pins σ H s->CX X.stack H s E e s'->X.xe e s'
section
variable {X:Cx} {CX:CXT} {k:Nat} {f C:Addr} {fd:FuncData} {ps:List Str} {sp:Sp} {dvs:List V} {ds:List Value} {E:XK} {x m:Str} {p pos apos:Pos} {e o:Expr} {es:List Expr} {ta:TE} {t:TA}
theorem Zck {pins:List (Addr × Obj)} {σ:St} {H:Hp} {s:Shared} {Q:VK} {us:List Value} {vs:List V} (F:FnOk X.prog X.w X.K X.mg X.base CX k f fd ps sp) (hr:Room k X.A) (hb:Wa X.K fd ps ds) (hd:Vals dvs ds) (hx:Q4 CX X E)
  (I:Inv X pins σ H s) (r:Vals vs us) (h:sp (vs ++ dvs) H Q E):wpAny (model X.prog X.w) X.A (call (.ref f) us) (EP X pins σ Q) X.xe s:=by
 have r2:Vals (vs ++ dvs) (us ++ ds):=r.append hd
 have hl:(us ++ ds).length=ps.length:=by rw [<- r2.length]; exact F.len _ _ _ _ h
 refine wpAny_call (codeAny_mono (F.run X.A X.stack s H ⟨us,[]⟩ (us ++ ds) (vs ++ dvs) Q E hr I.env0 (hb s us I.kIn hl) r2 h) λr s' hq=>?_)
 cases r with
 | error e=>exact hx pins σ H s e s' I hq
 | ok fl =>
  cases fl with
  | ret u=>exact I.after hq
  | next=>exact False.elim hq
  | brk=>exact False.elim hq
  | cont=>exact False.elim hq
theorem Zo (F:FnOk X.prog X.w X.K X.mg X.base CX k f fd ps sp) (hr:Room k X.A) (hg:Gl X x) (hm:X.mg x=some (.ref f)) (hk:PySem.W.keepIn X.K (.ref f)=true) (hb:Wa X.K fd ps ds) (hd:Vals dvs ds) (hx:Q4 CX X E)
  (ha:PA X (e :: es) t) (hdb:(x == ("__debug__":Str))=false:=by decide) (he:starEach (e :: es) X.env=(false,eval e X.env) :: starEach es X.env:=by rfl) (hpl:(backTo pos (starEach es X.env)).any (·.1)=false:=by rfl) :
  PE X (.Call (.Name x p) (e :: es) [] pos) (Zpc sp dvs E t):=by
 intro pins s σ H Q I h
 refine wpAny_Call_Name_kw (Jk I hg hm ?_ hdb)
 refine PySem.W.callWith_K (h₀:=X.base) I.ok.mod.kin hk (thn (ha pos pins s σ H _ I h) λus s1 zz14=>?_) he hpl
 obtain ⟨vs,H1,I1,r,q⟩:=zz14
 refine ⟨I1.kIn,?_⟩
 exact Zck F hr hb hd hx I1 r q
theorem Xf {pl:Sem Bool} (he:PE X o ta) (c:Cls X.K C) (hm:Meth X.K C m f) (F:FnOk X.prog X.w X.K X.mg X.base CX k f fd ps sp) (hr:Room k X.A) (hb:Wa X.K fd ps ds) (hd:Vals dvs ds) (hx:Q4 CX X E) (ha:PA X (e :: es) t)
  (hst:starEach (e :: es) X.env=(false,eval e X.env) :: starEach es X.env:=by rfl) (hpl:(backTo pos (starEach es X.env)).any (·.1)=false:=by rfl)
  (ht:eval (.Call (.Attribute o m apos) (e :: es) [] pos) X.env=(do
   let ov <- eval o X.env
   standAt apos.atName
   let (f,first) <- holding [ov] (getMethod ov m pl)
   callWith pos f first (backTo pos (starEach (e :: es) X.env)) (backToKw pos (keywordEach [] X.env))):=by rfl) :
  PE X (.Call (.Attribute o m apos) (e :: es) [] pos) (Zk7 C m sp dvs E ta t):=by
 intro pins s σ H Q I h
 refine PySem.W.methodCall_KW (pl:=pl) (thn (he pins s σ H _ I h) λu s1 zz15=>?_) ht
 obtain ⟨x,H1,I1,rx,a,dx,fs,ex,ea,l,q⟩:=zz15
 subst ex
 obtain rfl:u=Value.ref a:=rx
 refine V7 I1 ea c hm l ?_
 refine PySem.W.callWith_K (first:=[.ref a]) (h₀:=X.base) I.ok.mod.kin hm.kp (thn (ha pos pins s1 σ H1 _ I1 q) λus s2 zz16=>?_) hst hpl
 obtain ⟨vs,H2,I2,r,q2⟩:=zz16
 refine ⟨I2.kIn,?_⟩
 exact Zck (us:=.ref a :: us) (vs:=.ref a :: vs) F hr hb hd hx I2 (.cons rfl r) q2
theorem V3 {pl:Sem Bool} (he:PE X o ta) (c:Cls X.K C) (hm:Meth X.K C m f) (F:FnOk X.prog X.w X.K X.mg X.base CX k f fd ps sp) (hr:Room k X.A) (hb:Wa X.K fd ps ds) (hd:Vals dvs ds) (hx:Q4 CX X E)
  (ht:eval (.Call (.Attribute o m apos) [] [] pos) X.env=(do
   let ov <- eval o X.env
   standAt apos.atName
   let (f,first) <- holding [ov] (getMethod ov m pl)
   callWith pos f first (backTo pos (starEach [] X.env)) (backToKw pos (keywordEach [] X.env))):=by rfl) :
  PE X (.Call (.Attribute o m apos) [] [] pos) (Zk7 C m sp dvs E ta tNil):=by
 intro pins s σ H Q I h
 refine PySem.W.methodCall_KW (pl:=pl) (thn (he pins s σ H _ I h) λu s1 zz17=>?_) ht
 obtain ⟨x,H1,I1,rx,a,dx,fs,ex,ea,l,q⟩:=zz17
 subst ex
 obtain rfl:u=Value.ref a:=rx
 refine V7 I1 ea c hm l ?_
 exact PySem.W.callWith_K0 (first:=[.ref a]) I1.kIn hm.kp (Zck (us:=[.ref a]) (vs:=[.ref a]) F hr hb hd hx I1 (.cons rfl .nil) q)
structure Mk (K:PySem.W.Frag) (C f:Addr):Prop where
 makes:PySem.W.makesIn K C=true
 init:PySem.W.findIn K (.ref C) "__init__"=some (some (.ref f))
 fn:PySem.W.isFn K (.ref f)=true
 kp:PySem.W.keepIn K (.ref C)=true
theorem Zju {pins:List (Addr × Obj)} {σ:St} {H:Hp} {s:Shared} {Q:VK} {us:List Value} {vs:List V} (M:Mk X.K C f) (F:FnOk X.prog X.w X.K X.mg X.base CX k f fd ps sp) (hr:Room (k + 1) X.A) (hb:Wa X.K fd ps ds) (hd:Vals dvs ds)
  (hx:Q4 CX X E) (I:Inv X pins σ H s) (r:Vals vs us)
  (h:∀ x dx,H x=none->H dx=none->dx≠x->sp (.ref x :: (vs ++ dvs)) (upd (upd H dx (.own x)) x (.ins C dx [])) (λv H2=>v=.non/\Q (.ref x) H2) E) :
  wpAny (model X.prog X.w) X.A (call (.ref C) us) (EP X pins σ Q) X.xe s:=by
 have hq:=h (s.heap.objs.size + 1) s.heap.objs.size (I.hok.fresh (Nat.le_succ _)) (I.hok.fresh (Nat.le_refl _)) (Nat.ne_of_lt (Nat.lt_succ_self _))
 have I2:=Inv.made (C:=C) I
 have r2:Vals (V.ref (s.heap.objs.size + 1) :: (vs ++ dvs)) (Value.ref (s.heap.objs.size + 1) :: (us ++ ds)):=.cons rfl (r.append hd)
 have hl:(Value.ref (s.heap.objs.size + 1) :: us ++ ds).length=ps.length:=by
  have e:=r2.length
  rw [F.len _ _ _ _ hq] at e
  exact e.symm
 refine wpAny_call (Zkg (f:=f) I.kIn M.makes M.init (beq_iff_eq.mp M.fn) (codeAny_mono (F.run _ X.stack _ _ ⟨Value.ref (s.heap.objs.size + 1) :: us,[]⟩ (Value.ref (s.heap.objs.size + 1) :: (us ++ ds)) _ _ E (hr.make C us [])
  (I2.env0.make C us []) (hb _ (Value.ref (s.heap.objs.size + 1) :: us) I2.kIn hl) r2 hq) λr s' hq'=>?_))
 cases r with
 | error e=>exact hx pins σ _ _ e s' I2 hq'
 | ok fl =>
  cases fl with
  | ret u =>
   obtain ⟨v,H',I3,rv,ev,q3⟩:=I2.after hq'
   subst ev
   exact ⟨rv,⟨V.ref (s.heap.objs.size + 1),H',I3,rfl,q3⟩⟩
  | next=>exact False.elim hq'
  | brk=>exact False.elim hq'
  | cont=>exact False.elim hq'
theorem Vp (M:Mk X.K C f) (F:FnOk X.prog X.w X.K X.mg X.base CX k f fd ps sp) (hr:Room (k + 1) X.A) (hg:Gl X x) (hm:X.mg x=some (.ref C)) (hb:Wa X.K fd ps ds) (hd:Vals dvs ds) (hx:Q4 CX X E)
  (ha:PA X (e :: es) t) (hdb:(x == ("__debug__":Str))=false:=by decide) (he:starEach (e :: es) X.env=(false,eval e X.env) :: starEach es X.env:=by rfl) (hpl:(backTo pos (starEach es X.env)).any (·.1)=false:=by rfl) :
  PE X (.Call (.Name x p) (e :: es) [] pos) (Zo7 C sp dvs E t):=by
 intro pins s σ H Q I h
 refine wpAny_Call_Name_kw (Jk I hg hm ?_ hdb)
 refine PySem.W.callWith_K (h₀:=X.base) I.ok.mod.kin M.kp (thn (ha pos pins s σ H _ I h) λus s1 zz18=>?_) he hpl
 obtain ⟨vs,H1,I1,r,q⟩:=zz18
 refine ⟨I1.kIn,?_⟩
 exact Zju M F hr hb hd hx I1 r q
end
structure FnScope (N P:List Str) (sc:Scope):Prop where
 kind:sc.kind=.function
 co:sc.isCoroutine=false
 gen:sc.isGenerator=false
 nd:N.Nodup
 pre:N.take P.length=P
 par:∀ x∈P,sc.names.lookup x=some .local\/sc.names.lookup x=some .cell
 nofree:∀ y∈sc.names,y.2≠.free
theorem Zax {kindOf:Str->Option NameKind} {x:Str}:∀ {binds:List (Str × Value)} {m:Str->Option Value},(∀ v,(x,v) ∉ binds)->bindL kindOf binds m x=m x
 | [],_,_=>rfl
 | (n,v) :: r,m,h=>by
  unfold bindL
  rw [Zax λw hw=>h w (List.mem_cons_of_mem _ hw)]
  split
  ·have:x≠n:=by rintro rfl; exact h v List.mem_cons_self
   simp [this]
  ·rfl
theorem Zaz {kindOf:Str->Option NameKind} {x:Str}:∀ {binds:List (Str × Value)} {m:Str->Option Value},(∀ v,(x,v) ∉ binds)->bindC kindOf binds m x=m x
 | [],_,_=>rfl
 | (n,v) :: r,m,h=>by
  unfold bindC
  rw [Zaz λw hw=>h w (List.mem_cons_of_mem _ hw)]
  split
  ·rfl
  ·have:x≠n:=by rintro rfl; exact h v List.mem_cons_self
   simp [this]
theorem Zay {kindOf:Str->Option NameKind} {x:Str} {v:Value}:∀ {P:List Str} {vs:List Value} {i:Nat} {m:Str->Option Value},P.Nodup->P[i]?=some x->vs[i]?=some v->kindOf x=some .local ->
  bindL kindOf (P.zip vs) m x=some v
 | [],_,_,_,_,h,_,_=>by simp at h
 | _ :: _,[],_,_,_,_,h,_=>by simp at h
 | p :: P,w :: vs,0,m,nd,h1,h2,hk=>by
  simp at h1 h2; subst h1; subst h2
  show bindL kindOf ((p,w) :: P.zip vs) m p=_
  unfold bindL
  rw [Zax λv hv=>(List.nodup_cons.mp nd).1 (List.of_mem_zip hv).1,if_pos hk]
  simp
 | p :: P,w :: vs,i + 1,m,nd,h1,h2,hk=>by
  show bindL kindOf ((p,w) :: P.zip vs) m x=_
  unfold bindL
  exact Zay (i:=i) (List.nodup_cons.mp nd).2 (by simpa using h1) (by simpa using h2) hk
theorem Za0 {kindOf:Str->Option NameKind} {x:Str} {v:Value}:∀ {P:List Str} {vs:List Value} {i:Nat} {m:Str->Option Value},P.Nodup->P[i]?=some x->vs[i]?=some v->kindOf x≠some .local ->
  bindC kindOf (P.zip vs) m x=some v
 | [],_,_,_,_,h,_,_=>by simp at h
 | _ :: _,[],_,_,_,_,h,_=>by simp at h
 | p :: P,w :: vs,0,m,nd,h1,h2,hk=>by
  simp at h1 h2; subst h1; subst h2
  show bindC kindOf ((p,w) :: P.zip vs) m p=_
  unfold bindC
  rw [Zaz λv hv=>(List.nodup_cons.mp nd).1 (List.of_mem_zip hv).1,if_neg hk]
  simp
 | p :: P,w :: vs,i + 1,m,nd,h1,h2,hk=>by
  show bindC kindOf ((p,w) :: P.zip vs) m x=_
  unfold bindC
  exact Za0 (i:=i) (List.nodup_cons.mp nd).2 (by simpa using h1) (by simpa using h2) hk
noncomputable def start (N:List Str) (vs:List V):St:=vs.map some ++ List.replicate (N.length - vs.length) none
noncomputable def cxOf (CX:CXT) (P:Program) (w:World) (K:PySem.W.Frag) (mg:Str->Option Value) (base:Heap) (N:List Str) (qual:Str) (scope:Scope) (f:Addr) (cd:Value) (A:Around) (outer:List Env) (s:Shared) (H:Hp) (E:XK):Cx where
 prog:=P
 w:=w
 K:=K
 mg:=mg
 base:=base
 A:=A.deeper (envOfC qual scope s.heap.objs.size f cd)
 N:=N
 s₀:=s
 H₀:=H
 env:=envOfC qual scope s.heap.objs.size f cd
 outer:=outer
 stack:=envOfC qual scope s.heap.objs.size f cd :: outer
 ex:=[]
 calm:=true
 fn:=λ_=>true
 pn:=[]
 xe:=λe s'=>wpAny (model P w) (A.deeper (envOfC qual scope s.heap.objs.size f cd)) (leaving (envOfC qual scope s.heap.objs.size f cd) e) (λ_ s''=>CX outer H s E e s'') (λe' s''=>CX outer H s E e' s'') s'
theorem Zdk {sc:Scope} {n:Nat} {x:Str} (h:sc.names.lookup x=some .cell):∃ c,(cellsFrom n sc.names []).lookup x=some c:=by
 have q:=PySem.W.cellsFrom_some sc.names n [] (.inl h)
 exact Option.isSome_iff_exists.mp q
theorem Ziu {CX:CXT} {P:Program} {w:World} {K:PySem.W.Frag} {mg:Str->Option Value} {base:Heap} {N ps:List Str} {qual:Str} {scope:Scope} {f:Addr} {cd:Value} {A:Around} {outer:List Env} {s s1:Shared} {H:Hp} {E:XK} {us:List Value} {vs:List V}
  (S:FnScope N ps scope) (hd:A.handled=none) (e0:Env0 P w K mg base A outer s H) (hl:vs.length=ps.length) (r:Vals vs us)
  (x:InCallC s s.heap.objs.size (bindL (envOfC qual scope s.heap.objs.size f cd).kindOf (ps.zip us) λ_=>none) (cellsFrom (s.heap.objs.size + 1) scope.names []) (bindC (envOfC qual scope s.heap.objs.size f cd).kindOf (ps.zip us) λ_=>none) s1) :
  Inv (cxOf CX P w K mg base N qual scope f cd A outer s H E) [] (start N vs) H s1:=by
 have hpl:ps.length<=N.length:=by have:=congrArg List.length S.pre; rw [List.length_take] at this; omega
 obtain ⟨h1,tk,rfl,hk⟩:=x.done
 have noA:∀ b:Addr,b ∉ (cxOf CX P w K mg base N qual scope f cd A outer s H E).ex:=λb z=>absurd (show b∈([]:List Addr) from z) (by simp)
 refine ⟨⟨e0.mod,S.kind,rfl,rfl,Nat.le_refl _,λy z c h1 h2=>?_,λy hy=>?_,λy c _ h=>?_,λ_=>hd,Around.frames_deeper e0.frames,.inr ⟨rfl,rfl⟩,λb z=>absurd z (noA b),e0.bs,e0.bsz,λb _ _=>noA b,λb z=>absurd z (noA b),e0.funs,e0.frf⟩,
  rfl,e0.bare,Un.kept hk,⟨_,x.toInCall.ns,λi y v h1 h2 h3=>?_⟩,λy c h=>⟨_,x.cell y c h⟩,e0.hok.fresh (Nat.le_refl _),λy c h=>?_,λp hp=>absurd (show p∈([]:List (Addr × Obj)) from hp) (by simp),e0.hok.kept hk,?_⟩
 ·exact name_of_addr x.apart (PySem.mem_of_lookup h1) (PySem.mem_of_lookup h2)
 ·have hy:scope.names.lookup y=some .cell\/scope.names.lookup y=some .free:=hy
  rcases hy with hy | hy
  ·exact Zdk hy
  ·exact absurd rfl (S.nofree _ (PySem.mem_of_lookup hy))
 ·exact Nat.le_of_lt (x.above y c (PySem.mem_of_lookup h))
 ·have hi:i < vs.length:=by
   unfold start at h2
   by_cases hi:i < vs.length
   ·exact hi
   ·rw [List.getElem?_append_right (by simpa using hi)] at h2
    rw [List.getElem?_replicate] at h2
    split at h2 <;> cases h2
  have ha:vs[i]?=some v:=by
   unfold start at h2
   rw [List.getElem?_append_left (by simpa using hi),List.getElem?_map] at h2
   cases e:vs[i]? with
   | none=>rw [e] at h2; cases h2
   | some a=>rw [e] at h2; cases h2; rfl
  obtain ⟨u,hu,rv⟩:=r.get ha
  have hp:ps[i]?=some y:=by
   rw [<- S.pre,List.getElem?_take_of_lt (by omega)]; exact h1
  have ndP:ps.Nodup:=by rw [<- S.pre]; exact S.nd.sublist (List.take_sublist _ _)
  refine ⟨u,rv,?_⟩
  rcases S.par y (List.mem_of_getElem? hp) with k | k
  ·exact .inl ⟨k,Zay ndP hp hu k⟩
  ·obtain ⟨c,e⟩:=Zdk (n:=s.heap.objs.size + 1) k
   refine .inr ⟨.inl k,c,e,?_⟩
   have q:=x.cell y c e
   rw [Za0 ndP hp hu (by show scope.names.lookup y≠_; rw [k]; decide)] at q
   exact q
 ·exact e0.hok.fresh (Nat.le_of_lt (x.above y c (PySem.mem_of_lookup h)))
 ·unfold start
  show _=N.length
  rw [List.length_append,List.length_map,List.length_replicate]
  omega
theorem Zlf {CX:CXT} {P:Program} {w:World} {K:PySem.W.Frag} {mg:Str->Option Value} {base:Heap} {k:Nat} {f:Addr} {name qual:Str} {params:Arguments} {body:List Stmt} {scope:Scope} {dV kV doc pm cdv ct oc:Value} {an od:Option Addr}
  {osl:Array (Option Value)} {N ps:List Str} {sp:Sp} (lk:K.lookup f=some ⟨oc,od,.func (PySem.W.fnOf name qual params body scope dV kV doc pm an cdv ct),osl⟩) (hcd:PySem.W.codeIn K cdv qual=true) (S:FnScope N ps scope)
  (len:∀ vs H Q E,sp vs H Q E->vs.length=ps.length)
  (hbody:∀ (A:Around) (outer:List Env) (s:Shared) (H:Hp) (vs:List V) (Q:VK) (E:XK),Room k (A.deeper (envOfC qual scope s.heap.objs.size f cdv))->sp vs H Q E ->
   ∃ t,PSs (cxOf CX P w K mg base N qual scope f cdv A outer s H E) body t/\t { nx:=λ_ H'=>Q .non H',rt:=Q } (start N vs) H) :
  FnOk P w K mg base CX (k + 1) f (PySem.W.fnOf name qual params body scope dV kV doc pm an cdv ct) ps sp:=by
 refine ⟨len,λA outer s H args us vs Q E hr e0 hb r hsp=>?_⟩
 have hl:=len _ _ _ _ hsp
 have KX:K.In s.heap:=e0.mod.kin.keeps λb o e=>(e0.bs b o e).1
 have lim:s.heap.NoLimit:=e0.mod.nolimit.keeps λb o e=>(e0.bs b o e).1
 have hkind:∀ y∈ps.zip us,scope.names.lookup y.1=some .local\/(scope.names.lookup y.1=some .cell/\((cellsFrom (s.heap.objs.size + 1) scope.names []).lookup y.1).isSome=true):=λ⟨n,v⟩ hy=>by
  rcases S.par n (List.of_mem_zip hy).1 with q | q
  ·exact .inl q
  ·exact .inr ⟨q,PySem.W.cellsFrom_some _ _ _ (.inl q)⟩
 refine codeAny_call_function hr.depth (KX _ _ lk) rfl S.co S.gen rfl (PySem.W.codeRec_of KX hcd) (hb _ _ _ _ ?_)
 refine wpAny_newFunctionEnv_cells S.kind hkind λenv he s1 x=>?_
 subst he
 refine ⟨lim.keeps x.toInCall.keep,codeAny_func ?_⟩
 obtain ⟨t,ht,hq⟩:=hbody A outer s H vs Q E (hr.deeper _) hsp
 have I:Inv (cxOf CX P w K mg base N qual scope f cdv A outer s H E) [] (start N vs) H s1:=Ziu S hr.hd e0 hl r x
 refine wpAny_mono (ht [] s1 (start N vs) H _ I hq) (λfl s' hs=>?_) λe s' hs=>hs
 have fin:∀ {σ':St} {H':Hp} {v:V} {u:Value},Inv (cxOf CX P w K mg base N qual scope f cdv A outer s H E) [] σ' H' s'->RelV v u->Q v H'->CE outer P w H s Q u s' :=
  λ{σ' H' v u} J rv q=>⟨v,H',J.os,J.bare,J.base,J.hok,rv,q⟩
 cases fl with
 | ret u =>
  obtain ⟨v,σ',H',J,rv,q⟩:=hs
  exact fin J rv q
 | next =>
  obtain ⟨σ',H',J,q⟩:=hs
  exact fin (v:=V.non) (u:=Value.none) J rfl q
 | brk =>
  obtain ⟨_,_,_,q⟩:=hs
  exact False.elim q
 | cont =>
  obtain ⟨_,_,_,q⟩:=hs
  exact False.elim q
section
variable {X:Cx} {x:Str} {p pos:Pos} {e:Expr} {es:List Expr} {t:TA} {id T:String} {r:List V->Hp->VK->Prop}
noncomputable def tCB (r:List V->Hp->VK->Prop) (t:TA):TE:=λσ H Q=>t σ H λvs H1=>r vs H1 Q
theorem Zt (hc:Xy X (.builtin id) r) (hg:Gl X x) (hm:X.mg x=none) (hv:bootBuiltins x=some (.builtin id)) (ha:PA X (e :: es) t) (hn:x≠"__name__":=by decide) (hdb:(x == ("__debug__":Str))=false:=by decide)
  (he:starEach (e :: es) X.env=(false,eval e X.env) :: starEach es X.env:=by rfl) (hpl:(backTo pos (starEach es X.env)).any (·.1)=false:=by rfl):PE X (.Call (.Name x p) (e :: es) [] pos) (tCB r t):=by
 intro pins s σ H Q I h
 refine wpAny_Call_Name_kw (Xu I hg hm hv ?_ hn hdb)
 refine PyProof.Rows.callWith_builtin1 (thn (ha pos pins s σ H _ I h) λus s1 zz19=>?_) he hpl
 obtain ⟨vs,H1,I1,r1,q1⟩:=zz19
 exact hc pins s1 σ H1 vs us Q I1 r1 q1
theorem Yw (hc:Xy X (.type T) r) (hg:Gl X x) (hm:X.mg x=none) (hv:bootBuiltins x=some (.type T)) (ha:PA X (e :: es) t) (hn:x≠"__name__":=by decide) (hdb:(x == ("__debug__":Str))=false:=by decide)
  (he:starEach (e :: es) X.env=(false,eval e X.env) :: starEach es X.env:=by rfl) (hpl:(backTo pos (starEach es X.env)).any (·.1)=false:=by rfl):PE X (.Call (.Name x p) (e :: es) [] pos) (tCB r t):=by
 intro pins s σ H Q I h
 refine wpAny_Call_Name_kw (Xu I hg hm hv ?_ hn hdb)
 refine PyProof.Rows.callWith_type1 (thn (ha pos pins s σ H _ I h) λus s1 zz20=>?_) he hpl
 obtain ⟨vs,H1,I1,r1,q1⟩:=zz20
 exact hc pins s1 σ H1 vs us Q I1 r1 q1
end
end L2
namespace HT
open PySem PyProof.Rows
noncomputable def lexLt:List Int->List Int->Bool
 | [],[]=>false
 | [],_ :: _=>true
 | _ :: _,[]=>false
 | x :: xs,y :: ys=>if x=y then lexLt xs ys else decide (x < y)
theorem Qh (x y:Int) (xs ys:List Int):lexLt (x :: xs) (y :: ys)=if x=y then lexLt xs ys else decide (x < y):=rfl
theorem Uo:lexLt [] []=false:=rfl
theorem Jj (y:Int) (ys:List Int):lexLt [] (y :: ys)=true:=rfl
theorem Wj (x:Int) (xs:List Int):lexLt (x :: xs) []=false:=rfl
theorem Zk1 (A:Around) (s:Shared) (a:Int) (t:Tok) (c:Int) (u:Tok):∃ e,SeqAt.EqAt A s (.int a t) (.int c u) e/\(e=true ↔ a=c) :=
 ⟨(a == c),SeqAt.EqAt.int_int a t c u,by simp⟩
theorem Zjy (A:Around) (s:Shared) (a:Int) (t:Tok) (c:Int) (u:Tok) (prog:Program) (w:World) (E:Value->Shared->Prop) (Q:Value->Shared->Prop) (h:Q (.bool (decide (a < c))) s) :
  wpAny (model prog w) A (richCompare .Lt (.int a t) (.int c u)) Q E s :=
 (PyProof.Rows.lt_int h:wpAny (model prog w) A (compareOp .Lt (.int a t) (.int c u)) Q E s)
section
variable {prog:Program} {w:World} {A:Around} {E:Value->Shared->Prop} {s:Shared}
noncomputable def sIx (n d:Nat):Option Int->Nat
 | none=>d
 | some v=>if v < 0 then (v + (n:Int)).toNat else min v.toNat n
theorem sIx_none (n d:Nat):sIx n d none=d:=rfl
theorem sIx_nat (n d k:Nat):sIx n d (some (k:Int))=min k n:=by
 show (if (k:Int) < 0 then ((k:Int) + (n:Int)).toNat else min (k:Int).toNat n)=min k n
 rw [if_neg (by omega),Int.toNat_natCast]
end
end HT
namespace L2
open PySem PySem.Spec PyProof.Rows
noncomputable abbrev TO:=St->Hp->(Option Int->Hp->Prop)->Prop
noncomputable def PO (X:Cx) (e:Option Expr) (t:TO):Prop :=
 ∀ (pins:List (Addr × Obj)) (s:Shared) (σ:St) (H:Hp) (Q:Option Int->Hp->Prop),Inv X pins σ H s->t σ H Q ->
  wpAny (model X.prog X.w) X.A (evalPart e X.env) (λu s'=>∃ o H',Inv X pins σ H' s'/\IsPart u o/\Q o H') X.xe s
noncomputable def Zlp:TO:=λ_ H Q=>Q none H
noncomputable def Zo6 (t:TE):TO:=λσ H Q=>t σ H λx H1=>∃ i,x=.int i/\Q (some i) H1
theorem Jb {ns:List Int}:∀ {us:List Value},Vals (ns.map V.int) us->IntsAre us ns:=by
 induction ns with
 | nil=>intro us r; rw [List.map_nil] at r; cases r; exact .nil
 | cons n ns ih =>
  intro us r
  rw [List.map_cons] at r
  cases r with
  | cons r1 r2 =>
   obtain ⟨t,e⟩:=r1
   subst e
   exact .cons n t (ih r2)
section
variable {X:Cx} {e:Expr} {te:TE} {lo hi:Option Expr} {tl th:TO} {pos p2:Pos}
theorem Op:PO X none Zlp:=by
 intro pins s σ H Q I h
 rw [evalPart_none]
 exact wpAny_pure ⟨none,H,I,.none,h⟩
theorem Qn (h:PE X e te):PO X (some e) (Zo6 te):=by
 intro pins s σ H Q I hw
 rw [evalPart_some]
 refine thn (h pins s σ H _ I hw) λu s1 zz9=>?_
 obtain ⟨x,H1,I1,r1,q1⟩:=zz9
 obtain ⟨i,rfl,q⟩:=q1
 obtain ⟨t,rfl⟩:=r1
 exact ⟨some i,H1,I1,.int i t,q⟩
noncomputable def SlR (X:Cx) (r:V->Option Int->Option Int->Hp->VK->Prop):Prop :=
 ∀ (pins:List (Addr × Obj)) (s:Shared) (σ:St) (H:Hp) (x:V) (v vl vu:Value) (lo hi:Option Int) (sl:Addr) (Q:VK),Inv X pins σ H s->RelV x v->s.heap.IsSliceOf sl vl vu .none->IsPart vl lo->IsPart vu hi->r x lo hi H Q ->
  ∃ T id,typeLookup (.type T) "__getitem__"=pure (some (.builtin id))/\s.TypeIs v T/\wpAny (model X.prog X.w) X.A (getItem v (.ref sl)) (EP X pins σ Q) X.xe s
noncomputable def tSl (r:V->Option Int->Option Int->Hp->VK->Prop) (te:TE) (tl th:TO):TE:=λσ H Q=>te σ H λx H1=>tl σ H1 λl H2=>th σ H2 λu H3=>r x l u H3 Q
theorem Qx {r:V->Option Int->Option Int->Hp->VK->Prop} (hr:SlR X r) (he:PE X e te) (hl:PO X lo tl) (hu:PO X hi th):PE X (.Subscript e (.Slice lo hi none p2) pos) (tSl r te tl th):=by
 intro pins s σ H Q I h
 refine Subscript_ (thn (he pins s σ H _ I h) λv s1 zz9=>?_)
 obtain ⟨x,H1,I1,r1,q1⟩:=zz9
 refine wpAny_Slice (thn (hl pins s1 σ H1 _ I1 q1) λvl s2 zz21=>?_)
 obtain ⟨l,H2,I2,pl,q2⟩:=zz21
 refine thn (hu pins s2 σ H2 _ I2 q2) λvu s3 zz9=>?_
 obtain ⟨u,H3,I3,pu,q3⟩:=zz9
 rw [evalPart_none]
 refine wpAny_pure ?_
 have I4:Inv X pins σ H3 { s3 with heap:=s3.heap.push { cls:=.type "slice",data:=.fields #[vl,vu,.none] } }:=I3.kept (t':=s3.toks) λb ob q=>Heap.get?_push_of_some _ q
 obtain ⟨T,id,hT,ht,hg⟩:=hr pins { s3 with heap:=s3.heap.push { cls:=.type "slice",data:=.fields #[vl,vu,.none] } } σ H3 x v vl vu l u s3.heap.objs.size Q I4 r1 (Heap.IsSliceOf.new ..) pl pu q3
 show wpAny (model X.prog X.w) X.A (subscriptTail e (.Slice lo hi none p2) v (.ref s3.heap.objs.size)) (EP X pins σ Q) X.xe { s3 with heap:=s3.heap.push { cls:=.type "slice",data:=.fields #[vl,vu,.none] } }
 exact tail_any (ops:=[.ref s3.heap.objs.size,v]) ht hT hg (by with_unfolding_all rfl)
noncomputable def cutV (xs:List V) (lo hi:Option Int):List V:=(xs.drop (HT.sIx xs.length 0 lo)).take (HT.sIx xs.length xs.length hi - HT.sIx xs.length 0 lo)
theorem Zeh (xs:List V) (lo hi:Option Int):(cutV xs lo hi).length<=xs.length:=by
 unfold cutV
 rw [List.length_take,List.length_drop]
 omega
end
noncomputable def ixN (n:Nat) (i:Int):Option Nat:=if 0<=i then (if i < n then some i.toNat else none) else if -(n:Int)<=i then some (i + n).toNat else none
noncomputable def atI {α:Type} (xs:List α) (i:Int):Option α:=(ixN xs.length i).bind λj=>xs[j]?
theorem F0 {n:Nat} {i:Int} {j:Nat} (h:ixN n i=some j):seqIndex? i n=some j/\j < n/\-(n:Int)<=i/\i < n:=by
 unfold ixN at h
 by_cases h0:0<=i
 ·rw [if_pos h0] at h
  by_cases h1:i < n
  ·rw [if_pos h1] at h
   have e:i.toNat=j:=Option.some.inj h
   exact ⟨by rw [seqIndex_of h0 h1,e],by omega,by omega,h1⟩
  ·rw [if_neg h1] at h; cases h
 ·rw [if_neg h0] at h
  by_cases h1:-(n:Int)<=i
  ·rw [if_pos h1] at h
   have e:(i + n).toNat=j:=Option.some.inj h
   exact ⟨by rw [seqIndex_neg (by omega) h1,e],by omega,h1,by omega⟩
  ·rw [if_neg h1] at h; cases h
theorem Zfp {α:Type} {xs:List α} {i:Int} {v:α} (h:atI xs i=some v):∃ j,seqIndex? i xs.length=some j/\xs[j]?=some v/\j < xs.length/\-(xs.length:Int)<=i/\i < xs.length:=by
 unfold atI at h
 cases e:ixN xs.length i with
 | none=>rw [e] at h; cases h
 | some j =>
  rw [e] at h
  obtain ⟨h1,h2,h3,h4⟩:=F0 e
  exact ⟨j,h1,h,h2,h3,h4⟩
theorem X2 {α:Type} {xs:List α} {j:Nat} {v:α} (h:xs[j]?=some v):atI xs (j:Int)=some v:=by
 have hj:j < xs.length:=(List.getElem?_eq_some_iff.mp h).1
 have e:ixN xs.length (j:Int)=some j:=by
  unfold ixN
  rw [if_pos (by omega),if_pos (by omega)]; simp
 unfold atI; rw [e]; exact h
noncomputable def Zne (b:Expr):Prop:=∀ o i,subscripted b false o i=operate [o,i] (getItem o i)
noncomputable def IxR (X:Cx) (r:R2):Prop :=
 ∀ (value slice:Expr) (pins:List (Addr × Obj)) (s:Shared) (σ:St) (H:Hp) (x y:V) (v u:Value) (Q:VK),Inv X pins σ H s->RelV x v->RelV y u->r x y H Q ->
  subscripted slice false v u=operate [v,u] (getItem v u)->wpAny (model X.prog X.w) X.A (subscriptTail value slice v u) (EP X pins σ Q) X.xe s
noncomputable def MtR (X:Cx) (id:String) (r:V->List V->Hp->VK->Prop):Prop :=
 ∀ (pins:List (Addr × Obj)) (s:Shared) (σ:St) (H:Hp) (x:V) (xs:List V) (v:Value) (us:List Value) (Q:VK),Inv X pins σ H s->RelV x v->Vals xs us->r x xs H Q ->
  wpAny (model X.prog X.w) X.A (call (.builtin id) (v :: us)) (EP X pins σ Q) X.xe s
section
variable {X:Cx} {a b:Expr} {ta tb:TE} {pos:Pos}
theorem Z9 {r:R2} (hr:IxR X r) (ha:PE X a ta) (hb:PE X b tb) (hs:Zne b):PE X (.Subscript a b pos) (tOp r ta tb):=by
 intro pins s σ H Q I h
 exact Subscript_ (binT ha hb I h λv u s2 x y H2 I2 rx ry q=>hr a b pins s2 σ H2 x y v u Q I2 rx ry q (hs _ _))
noncomputable def rIxL (K:PySem.W.Frag):R2:=λx y H Q=>∃ p xs i v,x=.ref p/\y=.int i/\SqL K H p xs/\atI xs i=some v/\Q v H
noncomputable def rIxT (K:PySem.W.Frag):R2:=λx y H Q=>∃ p xs i v,x=.ref p/\y=.int i/\SqT K H p xs/\atI xs i=some v/\Q v H
theorem Z8:IxR X (rIxL X.K):=by
 intro value slice pins s σ H x y v u Q I rx ry h hs
 obtain ⟨p,xs,i,z,rfl,rfl,hq,he,q⟩:=h
 cases rx
 obtain ⟨t,rfl⟩:=ry
 obtain ⟨its,r,pl,hz⟩:=I.list hq
 obtain ⟨j,h1,h2,h3,h4,h5⟩:=Zfp he
 obtain ⟨w,ew,rw'⟩:=r.get h2
 have hl:=r.length
 have hn:=Q2
 have fin:EP X pins σ Q w s:=⟨z,H,I,rw',q⟩
 by_cases h0:0<=i
 ·have hj:i.toNat=j:=by
   rw [seqIndex_of h0 h5] at h1
   exact Option.some.inj h1
  exact item_listR pl.isList h0 (by omega) (by rw [hj]; simpa using ew) fin hs
 ·have hj:(i + (its.toArray.size:Int)).toNat=j:=by
   rw [seqIndex_neg (by omega) h4] at h1
   rw [List.size_toArray,<- hl]
   exact Option.some.inj h1
  exact subscriptTail_builtinR (x:=w) pl.isList.typeIs slot_list_getitem.lookup
   (wpAny_getItem_list_neg (Q:=λr s'=>r=w/\EP X pins σ Q r s') pl.isList (by omega) (by rw [List.size_toArray] <;> omega) (by omega) (by rw [hj]; simpa using ew) ⟨rfl,fin⟩) hs
theorem G4:IxR X (rIxT X.K):=by
 intro value slice pins s σ H x y v u Q I rx ry h hs
 obtain ⟨p,xs,i,z,rfl,rfl,hq,he,q⟩:=h
 cases rx
 obtain ⟨t,rfl⟩:=ry
 obtain ⟨its,r,pl,hz⟩:=I.tuple hq
 obtain ⟨j,h1,h2,h3,h4,h5⟩:=Zfp he
 obtain ⟨w,ew,rw'⟩:=r.get h2
 have hl:=r.length
 have hn:=Q2
 have fin:EP X pins σ Q w s:=⟨z,H,I,rw',q⟩
 exact subscriptTail_builtinR (x:=w) pl.typeIs slot_tuple_getitem.lookup
  (getItem_tuple (j:=j) (Q:=λr s'=>r=w/\EP X pins σ Q r s') pl (by omega) (by omega) (by rw [List.size_toArray,<- hl]; exact h1) (by simpa using ew) ⟨rfl,fin⟩) hs
theorem Zgg (its:List Value) (n j:Nat) (u:Value):Obj.mapSeq (·.setIfInBounds j u) { cls:=.type "list",data:=.seq its.toArray n }={ cls:=.type "list",data:=.seq (its.set j u).toArray n }:=by
 simp [Obj.mapSeq]
theorem Inv.lst {pins:List (Addr × Obj)} {σ:St} {H:Hp} {s:Shared} {p:Addr} {xs:List V} (I:Inv X pins σ H s) (h:H p=some (.lst xs)) :
  ∃ (its:List Value) (n:Nat),Vals xs its/\s.heap.get? p=some { cls:=.type "list",data:=.seq its.toArray n }/\xs.length<=sizeLine:=by
 obtain ⟨z,its,n,r,e⟩:=I.hok p _ h
 exact ⟨its,n,r,e,z⟩
theorem Inv.lstUpd {pins:List (Addr × Obj)} {σ:St} {H:Hp} {s:Shared} {p:Addr} {xs ys:List V} {its its':List Value} {n n':Nat} {f:Obj->Obj} (I:Inv X pins σ H s) (h:H p=some (.lst xs))
  (ho:s.heap.get? p=some { cls:=.type "list",data:=.seq its.toArray n }) (hf:f { cls:=.type "list",data:=.seq its.toArray n }={ cls:=.type "list",data:=.seq its'.toArray n' }) (r:Vals ys its') (hz:ys.length<=sizeLine) (t:Nat) :
  Inv X pins σ (upd H p (.lst ys)) { s with heap:=s.heap.update p f,toks:=t }:=by
 have e:(s.heap.update p f).get? p=some { cls:=.type "list",data:=.seq its'.toArray n' }:=by
  rw [Heap.get?_update_self f ho (by rw [hf] <;> rfl),hf]
 refine I.write (x:=p) (e:=p) (by rw [h]; trivial) (.inl rfl) (λb u hb q=>(Heap.get?_update_other _ _ (Ne.symm hb)).trans q) ⟨_,e⟩ ?_
 exact ⟨hz,its',n',r,e⟩
noncomputable def Zpk:V->V->V->Hp->(Hp->Prop)->Prop:=λo i v H Q=>∃ p xs k j,o=.ref p/\i=.int k/\H p=some (.lst xs)/\ixN xs.length k=some j/\Q (upd H p (.lst (xs.set j v)))
theorem Wv:PSet X Zpk:=by
 intro pins s σ H o i v ov iv u Q I ro ri rv h
 obtain ⟨p,xs,k,j,rfl,rfl,hp,hj,q⟩:=h
 cases ro
 obtain ⟨t,rfl⟩:=ri
 obtain ⟨its,n,r,ho,hz⟩:=I.lst hp
 obtain ⟨h1,h2,h3,h4⟩:=F0 hj
 have hl:=r.length
 have hn:=Q2
 have I':Inv X pins σ (upd H p (.lst (xs.set j v))) { s with heap:=s.heap.update p (Obj.mapSeq (·.setIfInBounds j u)) } :=
  I.lstUpd hp ho (Zgg its n j u) (r.set rv j) (by rw [List.length_set]; exact hz) s.toks
 by_cases h0:0<=k
 ·have hk:k.toNat=j:=by
   rw [seqIndex_of h0 h4] at h1
   exact Option.some.inj h1
  exact PySem.W.ki_setAt ho h0 (by omega) (by rw [List.size_toArray,<- hl]; exact h4) (by rw [hk]; exact ⟨_,I',q⟩)
 ·have hk:(k + (its.toArray.size:Int)).toNat=j:=by
   rw [seqIndex_neg (by omega) h3] at h1
   rw [List.size_toArray,<- hl]
   exact Option.some.inj h1
  exact PySem.W.ki_setBack ho (by omega) (by rw [List.size_toArray,<- hl]; exact h3) (by omega) (by rw [hk]; exact ⟨_,I',q⟩)
theorem Zby (lo hi:Option Int) (n:Nat):(sliceBounds lo hi none n).1=((HT.sIx n 0 lo:Nat):Int)/\(sliceBounds lo hi none n).2.1=((HT.sIx n n hi:Nat):Int)/\(sliceBounds lo hi none n).2.2=1:=by
 refine ⟨?_,?_,rfl⟩
 ·cases lo with
  | none=>simp [sliceBounds,HT.sIx]
  | some i =>
   simp only [sliceBounds,HT.sIx,Option.getD_none,show (1:Int) > 0 by decide,if_true]
   by_cases h:i < 0
   ·simp only [h,if_true] <;> omega
   ·simp only [h,if_false] <;> omega
 ·cases hi with
  | none=>simp [sliceBounds,HT.sIx]
  | some i =>
   simp only [sliceBounds,HT.sIx,Option.getD_none,show (1:Int) > 0 by decide,if_true]
   by_cases h:i < 0
   ·simp only [h,if_true] <;> omega
   ·simp only [h,if_false] <;> omega
theorem Za7 (its:List Value) (lo hi:Option Int):slicePick its.toArray lo hi none=((its.drop (HT.sIx its.length 0 lo)).take (HT.sIx its.length its.length hi - HT.sIx its.length 0 lo)).toArray:=by
 obtain ⟨h1,h2,h3⟩:=Zby lo hi its.toArray.size
 unfold slicePick
 rw [h1,h2,h3]
 simp only [sliceRange_one,pick_run,List.size_toArray] <;> rfl
noncomputable def rSlL (K:PySem.W.Frag):V->Option Int->Option Int->Hp->VK->Prop:=λx lo hi H Q=>∃ a xs,x=.ref a/\SqL K H a xs/\∀ p,H p=none->Q (.ref p) (upd H p (.lst (cutV xs lo hi)))
theorem Vk:SlR X (rSlL X.K):=by
 intro pins s σ H x v vl vu lo hi sl Q I rx hs pl pu h
 obtain ⟨a,xs,rfl,hx,q⟩:=h
 cases rx
 obtain ⟨its,r,ht,hz⟩:=I.list hx
 have hlen:=r.length
 refine ⟨"list",_,slot_list_getitem.lookup,ht.isList.typeIs,?_⟩
 refine wpAny_getItem_list_slice ht.isList hs pl pu .none (by simp) ?_ (by rw [List.size_toArray] <;> omega)
 rw [Za7,<- hlen]
 refine ⟨.ref s.heap.objs.size,_,I.laid (t':=s.toks) (o:=.lst (cutV xs lo hi)) (λb ob q=>Heap.get?_push_of_some _ q) (Nat.le_refl _) ?_,rfl,q _ (I.hok.fresh (Nat.le_refl _))⟩
 exact ⟨Nat.le_trans (Zeh xs lo hi) hz,_,0,(r.drop (HT.sIx xs.length 0 lo)).take (HT.sIx xs.length xs.length hi - HT.sIx xs.length 0 lo),Heap.get?_push_size _ rfl⟩
noncomputable def Qk:V->Bool
 | .non=>true
 | .bl _=>true
 | .int _=>true
 | .str _=>true
 | _=>false
noncomputable def eqV:V->V->Bool
 | .non,.non=>true
 | .bl a,.bl b=>a == b
 | .bl a,.int b=>(if a then 1 else 0) == b
 | .int a,.bl b=>a == (if b then 1 else 0)
 | .int a,.int b=>a == b
 | .str a,.str b=>a == b
 | _,_=>false
theorem Zoq {A:Around} {s:Shared} {y x:V} {u v:Value} (ry:RelV y u) (rx:RelV x v) (fy:Qk y=true) (fx:Qk x=true):SeqAt.EqAt A s u v (eqV y x):=by
 cases y with
 | non =>
  cases ry
  cases x with
  | non=>cases rx; exact SeqAt.EqAt.same _
  | bl b=>cases rx; exact SeqAt.EqAt.none_bool b
  | int b=>obtain ⟨t,rfl⟩:=rx; exact SeqAt.EqAt.none_int b t
  | str b=>obtain ⟨t,rfl⟩:=rx; exact SeqAt.EqAt.none_str b t
  | _=>exact absurd (show false=true from fx) Bool.false_ne_true
 | bl a =>
  cases ry
  cases x with
  | non=>cases rx; exact SeqAt.EqAt.bool_none a
  | bl b=>cases rx; exact SeqAt.EqAt.bool_bool a b
  | int b=>obtain ⟨t,rfl⟩:=rx; exact SeqAt.EqAt.bool_int a b t
  | str b=>obtain ⟨t,rfl⟩:=rx; exact SeqAt.EqAt.bool_str a b t
  | _=>exact absurd (show false=true from fx) Bool.false_ne_true
 | int a =>
  obtain ⟨t',rfl⟩:=ry
  cases x with
  | non=>cases rx; exact SeqAt.EqAt.int_none a t'
  | bl b=>cases rx; exact SeqAt.EqAt.int_bool a t' b
  | int b=>obtain ⟨t,rfl⟩:=rx; exact SeqAt.EqAt.int_int a t' b t
  | str b=>obtain ⟨t,rfl⟩:=rx; exact SeqAt.EqAt.int_str a t' b t
  | _=>exact absurd (show false=true from fx) Bool.false_ne_true
 | str a =>
  obtain ⟨t',rfl⟩:=ry
  cases x with
  | non=>cases rx; exact SeqAt.EqAt.str_none a t'
  | bl b=>cases rx; exact SeqAt.EqAt.str_bool a t' b
  | int b=>obtain ⟨t,rfl⟩:=rx; exact SeqAt.EqAt.str_int a t' b t
  | str b=>obtain ⟨t,rfl⟩:=rx; exact SeqAt.EqAt.str_str a t' b t
  | _=>exact absurd (show false=true from fx) Bool.false_ne_true
 | _=>exact absurd (show false=true from fy) Bool.false_ne_true
noncomputable def eqU (x:V) (u:Value):Bool:=match u with
 | .none=>eqV .non x
 | .bool b=>eqV (.bl b) x
 | .int i _=>eqV (.int i) x
 | .str z _=>eqV (.str z) x
 | _=>false
theorem Zi1 {x y:V} {u:Value} (r:RelV y u) (f:Qk y=true):eqU x u=eqV y x:=by
 cases y with
 | non=>cases r; rfl
 | bl b=>cases r; rfl
 | int i=>obtain ⟨t,rfl⟩:=r; rfl
 | str z=>obtain ⟨t,rfl⟩:=r; rfl
 | _=>exact absurd (show false=true from f) Bool.false_ne_true
theorem Vv {x:V}:∀ {xs:List V} {us:List Value},Vals xs us->xs.all Qk=true->us.any (eqU x)=xs.any λy=>eqV y x
 | _,_,.nil,_=>rfl
 | y :: xs,u :: us,.cons r t,f=>by
  rw [List.all_cons,Bool.and_eq_true] at f
  rw [List.any_cons,List.any_cons,Zi1 r f.1,Vv t f.2]
theorem Q1 {A:Around} {s:Shared} {x:V} {v:Value} (rx:RelV x v) (fx:Qk x=true):∀ {xs:List V} {us:List Value},Vals xs us->xs.all Qk=true->∀ u∈us,SeqAt.EqAt A s u v (eqU x u)
 | _,_,.nil,_=>λu hu=>by cases hu
 | y :: xs,u :: us,.cons r t,f=>λu' hu=>by
  rw [List.all_cons,Bool.and_eq_true] at f
  rcases List.mem_cons.mp hu with rfl | hu
  ·rw [Zi1 r f.1]; exact Zoq r rx f.1 fx
  ·exact Q1 rx fx t f.2 u' hu
noncomputable def inV (x:V) (xs:List V):Bool:=xs.any λy=>eqV y x
noncomputable def rIn (K:PySem.W.Frag) (neg:Bool):R2:=λx y H Q=>∃ p xs,y=.ref p/\(SqL K H p xs\/SqT K H p xs)/\Qk x=true/\xs.all Qk=true/\Q (.bl (if neg then !inV x xs else inV x xs)) H
theorem Zhz:OpR X (compareOp .In) (rIn X.K false):=by
 intro pins s σ H x y v u Q I rx ry h
 obtain ⟨p,xs,rfl,hq,fx,fs,q⟩:=h
 cases ry
 rcases hq with hq | hq
 ·obtain ⟨its,r,pl,hz⟩:=I.list hq
  refine SeqAt.in_listAt (eqU x) pl.isList (λw hw=>Q1 rx fx r fs w (by simpa using hw)) ⟨.bl _,H,I,rfl,?_⟩
  rw [show its.toArray.any (eqU x)=its.any (eqU x) by simp,Vv r fs]
  exact q
 ·obtain ⟨its,r,pl,hz⟩:=I.tuple hq
  refine SeqAt.in_tupleAt (eqU x) pl (λw hw=>Q1 rx fx r fs w (by simpa using hw)) ⟨.bl _,H,I,rfl,?_⟩
  rw [show its.toArray.any (eqU x)=its.any (eqU x) by simp,Vv r fs]
  exact q
theorem Zcw:OpR X (compareOp .NotIn) (rIn X.K true):=by
 intro pins s σ H x y v u Q I rx ry h
 obtain ⟨p,xs,rfl,hq,fx,fs,q⟩:=h
 cases ry
 rcases hq with hq | hq
 ·obtain ⟨its,r,pl,hz⟩:=I.list hq
  refine SeqAt.notIn_listAt (eqU x) pl.isList (λw hw=>Q1 rx fx r fs w (by simpa using hw)) ⟨.bl _,H,I,rfl,?_⟩
  rw [show its.toArray.any (eqU x)=its.any (eqU x) by simp,Vv r fs]
  exact q
 ·obtain ⟨its,r,pl,hz⟩:=I.tuple hq
  refine SeqAt.notIn_tupleAt (eqU x) pl (λw hw=>Q1 rx fx r fs w (by simpa using hw)) ⟨.bl _,H,I,rfl,?_⟩
  rw [show its.toArray.any (eqU x)=its.any (eqU x) by simp,Vv r fs]
  exact q
theorem Zl:Xy X (.builtin "len") (λxs H Q=>∃ p ys,xs=[.ref p]/\(SqL X.K H p ys\/SqT X.K H p ys)/\Q (.int ys.length) H):=by
 intro pins s σ H xs us Q I r h
 obtain ⟨p,ys,rfl,hq,q⟩:=h
 obtain ⟨u,rfl,rx⟩:=We r
 cases rx
 have hn:=Q2
 rcases hq with hq | hq
 ·obtain ⟨its,r',pl,hz⟩:=I.list hq
  have hlen:=r'.length
  exact Calls.call_len_list pl.isList (by simp only [List.size_toArray] <;> omega) ⟨.int ys.length,H,I.tok _,⟨s.toks + 1,by rw [List.size_toArray,hlen]⟩,q⟩
 ·obtain ⟨its,r',pl,hz⟩:=I.tuple hq
  have hlen:=r'.length
  exact len_tuple pl (by simp only [List.size_toArray] <;> omega) ⟨.int ys.length,H,I.tok _,⟨s.toks + 1,by rw [List.size_toArray,hlen]⟩,q⟩
theorem Zdm:Xy X (.builtin "len") (λxs H Q=>∃ z,xs=[.str z]/\z.length<=sizeLine/\Q (.int z.length) H):=by
 intro pins s σ H xs us Q I r h
 obtain ⟨z,rfl,hz,q⟩:=h
 obtain ⟨u,rfl,t,rfl⟩:=We r
 have hn:=Q2
 exact len_str (by omega) ⟨.int z.length,H,I.tok _,⟨_,rfl⟩,q⟩
theorem Yz:Xy X (.type "list") (λxs H Q=>∃ p ys,xs=[.ref p]/\(SqL X.K H p ys\/SqT X.K H p ys)/\∀ l,H l=none->Q (.ref l) (upd H l (.lst ys))):=by
 intro pins s σ H xs us Q I r h
 obtain ⟨p,ys,rfl,hq,q⟩:=h
 obtain ⟨u,rfl,rx⟩:=We r
 cases rx
 have fin:∀ (its:List Value),Vals ys its->ys.length<=sizeLine->∀ (h':Heap) (c':Nat),(∀ b o',s.heap.get? b=some o'->h'.get? b=some o') ->
   h'.get? s.heap.objs.size=some { cls:=.type "list",dict:=none,data:=.seq its.toArray c',slots:=#[] }->EP X pins σ Q (.ref s.heap.objs.size) { s with heap:=h' }:=λits r' hz h' c' kp e =>
  ⟨.ref s.heap.objs.size,_,I.laid (t':=s.toks) kp (Nat.le_refl _) (show Yl X.prog X.w _ h' _ (.lst ys) from ⟨hz,its,c',r',e⟩),rfl,q _ (I.hok.fresh (Nat.le_refl _))⟩
 rcases hq with hq | hq
 ·obtain ⟨its,r',pl,hz⟩:=I.list hq
  have hlen:=r'.length
  obtain ⟨o,ho,hc,n,hd⟩:=pl.isList
  exact call_list_seq p (.inl rfl) ho hc hd (λh' c' kp e=>fin its r' hz h' c' kp e) (by simp only [List.size_toArray] <;> omega)
 ·obtain ⟨its,r',pl,hz⟩:=I.tuple hq
  have hlen:=r'.length
  obtain ⟨o,ho,hc,n,hd⟩:=pl
  exact call_list_seq p (.inr rfl) ho hc hd (λh' c' kp e=>fin its r' hz h' c' kp e) (by simp only [List.size_toArray] <;> omega)
theorem Zbe:Xy X (.type "tuple") (λxs H Q=>∃ p ys,xs=[.ref p]/\((SqL X.K H p ys/\∀ l,H l=none->Q (.ref l) (upd H l (.tup ys)))\/(SqT X.K H p ys/\Q (.ref p) H))):=by
 intro pins s σ H xs us Q I r h
 obtain ⟨p,ys,rfl,h⟩:=h
 obtain ⟨u,rfl,rx⟩:=We r
 cases rx
 rcases h with ⟨hq,q⟩ | ⟨hq,q⟩
 ·obtain ⟨its,r',pl,hz⟩:=I.list hq
  have hlen:=r'.length
  refine call_tuple_list pl.isList (λh' kp=>?_) (by simp only [List.size_toArray] <;> omega)
  have I1:Inv X pins σ H { s with heap:=h' }:=I.kept (t':=s.toks) kp
  have I2:Inv X pins σ (upd H h'.objs.size (.tup ys)) { s with heap:=h'.push { cls:=.type "tuple",data:=.seq its.toArray } } :=
   I1.laid (t':=s.toks) (λb o e=>Heap.get?_push_of_some _ e) (Nat.le_refl _) (show Yl X.prog X.w _ _ _ (.tup ys) from ⟨hz,its,r',IsTup.new _ _⟩)
  exact ⟨.ref h'.objs.size,_,I2,rfl,q _ (I1.hok.fresh (Nat.le_refl _))⟩
 ·obtain ⟨its,r',pl,hz⟩:=I.tuple hq
  exact call_tuple_same pl ⟨.ref p,H,I,rfl,q⟩
noncomputable def tyV (K:PySem.W.Frag) (T:String) (x:V) (H:Hp):Prop:=match x with
 | .str _=>T="str"
 | .int _=>T="int"
 | .ref p=>(T="list"/\∃ xs,SqL K H p xs)\/(T="tuple"/\∃ o,K.lookup p=some o/\o.cls=.type "tuple"/\o.dict=none) \/
   (T="dict"/\((∃ kvs,H p=some (.dK kvs))\/∃ kvs,H p=some (.dT kvs)))\/(T="set"/\∃ S n,H p=some (.set S n))
 | _=>False
theorem Zgu {pins:List (Addr × Obj)} {σ:St} {H:Hp} {s:Shared} {T:String} {x:V} {v:Value} (I:Inv X pins σ H s) (r:RelV x v) (ty:tyV X.K T x H) :
  s.TypeIs v T/\∀ a,v=.ref a->∃ ob,s.heap.get? a=some ob/\ob.dict=none:=by
 cases x with
 | str z =>
  obtain ⟨t,rfl⟩:=r
  cases (show T="str" from ty)
  exact ⟨typeIs_str s z t,λ_ e=>nomatch e⟩
 | int i =>
  obtain ⟨t,rfl⟩:=r
  cases (show T="int" from ty)
  exact ⟨typeIs_int s i t,λ_ e=>nomatch e⟩
 | ref p =>
  cases r
  rcases ty with ⟨rfl,xs,hq⟩ | ⟨rfl,o,hk,hc,hd⟩ | ⟨rfl,hk⟩ | ⟨rfl,S,n,hk⟩
  ·obtain ⟨its,_,pl,_⟩:=I.list hq
   refine ⟨pl.isList.typeIs,λa e=>?_⟩
   cases e
   obtain ⟨o,n,e,c,hd,_⟩:=pl
   exact ⟨o,e,hd⟩
  ·refine ⟨⟨o,I.kIn p o hk,hc⟩,λa e=>?_⟩
   cases e
   exact ⟨o,I.kIn _ o hk,hd⟩
  ·have z:∃ o,s.heap.get? p=some o/\o.ExactDict:=by
    rcases hk with ⟨kvs,hk⟩ | ⟨kvs,hk⟩
    ·obtain ⟨_,_,_,_,o,_,_,e,ex,_⟩:=I.hok p _ hk
     exact ⟨o,e,ex⟩
    ·obtain ⟨_,_,_,_,o,_,_,e,ex,_⟩:=I.hok p _ hk
     exact ⟨o,e,ex⟩
   obtain ⟨o,e,ex⟩:=z
   refine ⟨⟨o,e,ex.1⟩,λa e2=>?_⟩
   cases e2
   exact ⟨o,e,ex.2.1⟩
  ·obtain ⟨o,_,_,_,e,ex,_⟩:=I.hok p _ hk
   refine ⟨⟨o,e,ex.1⟩,λa e2=>?_⟩
   cases e2
   exact ⟨o,e,ex.2.1⟩
 | _=>exact False.elim ty
noncomputable def tBM (K:PySem.W.Frag) (T:String) (r:V->List V->Hp->VK->Prop) (to:TE) (t:TA):TE:=λσ H Q=>to σ H λx H1=>tyV K T x H1/\t σ H1 λxs H2=>r x xs H2 Q
variable {o e:Expr} {es:List Expr} {to:TE} {t:TA} {name:Str} {apos cpos:Pos} {T id:String} {r:V->List V->Hp->VK->Prop}
theorem Xx (pa:PlainAttrs T) (slot:Slot T name id) (hty:typeOf (.builtin id)=pure (.type "method_descriptor")) (hm:MtR X id r) (ho:PE X o to) (ha:PA X (e :: es) t)
  (hbase:attributeBase o name X.env (eval o X.env)=eval o X.env:=by rfl)
  (hfew:((backTo cpos (starEach (e :: es) X.env)).all (λx=>!x.1) && (backToKw cpos (keywordEach [] X.env)).all (λx=>x.1.isSome)
   && decide ((e :: es).length + ([]:List Keyword).length + (if ([]:List Keyword).isEmpty then 0 else 1) < 30))=true:=by rfl)
  (hline:(apos.endLine == cpos.line)=true:=by rfl) (hs:starEach (e :: es) X.env=(false,eval e X.env) :: starEach es X.env:=by rfl) (hplain:(backTo cpos (starEach es X.env)).any (·.1)=false:=by rfl) :
  PE X (.Call (.Attribute o name apos) (e :: es) [] cpos) (tBM X.K T r to t):=by
 intro pins s σ H Q I h
 refine wpAny_Call_method_late hbase hfew hline rfl (thn (ho pins s σ H _ I h) λv s1 zz9=>?_)
 obtain ⟨x,H1,I1,r1,ty,q1⟩:=zz9
 obtain ⟨h1,h2⟩:=Zgu I1 r1 ty
 refine ⟨T,id,pa,slot,hty,h1,h2,?_⟩
 have hA:=ha cpos pins s1 σ H1 _ I1 q1
 rw [hs] at hA ⊢
 refine Calls.callWith_builtin (by show (false || (backTo cpos (starEach es X.env)).any (·.1))=false; rw [hplain] <;> rfl) (Calls.evalArgs_plain ?_)
 refine thn hA λus s2 zz22=>?_
 obtain ⟨vs,H2,I2,r2,q2⟩:=zz22
 exact hm pins s2 σ H2 x vs v us Q I2 r1 r2 q2
end
noncomputable def MtM (X:Cx) (id:String) (r:V->List V->Hp->VK->Prop):Prop :=
 ∀ (pins:List (Addr × Obj)) (s:Shared) (σ:St) (H:Hp) (x:V) (xs:List V) (v:Value) (us:List Value) (Q:VK),Inv X pins σ H s->RelV x v->Vals xs us->r x xs H Q ->
  wpAny (model X.prog X.w) X.A (call (.builtin id) (v :: us)) (EP X pins σ Q) X.xe s
theorem Vals.one {x:V} {us:List Value} (h:Vals [x] us):∃ u,us=[u]/\RelV x u:=by
  cases h with
  | cons r t=>cases t; exact ⟨_,rfl,r⟩
theorem Vals.two {x y:V} {us:List Value} (h:Vals [x,y] us):∃ u v,us=[u,v]/\RelV x u/\RelV y v:=by
  cases h with
  | cons r t =>
    obtain ⟨v,rfl,q⟩:=Vals.one t
    exact ⟨_,v,rfl,r,q⟩
theorem Vals.eraseIdx:∀ {xs:List V} {us:List Value} (i:Nat),Vals xs us->Vals (xs.eraseIdx i) (us.eraseIdx i)
 | _,_,_,.nil=>.nil
 | _,_,0,.cons _ t=>t
 | _,_,i + 1,.cons r t=>.cons r (Vals.eraseIdx i t)
theorem Vals.rep {xs:List V} {us:List Value} (h:Vals xs us):∀ k:Nat,Vals (List.replicate k xs).flatten (List.replicate k us).flatten
 | 0=>.nil
 | k + 1=>by
  rw [List.replicate_succ,List.replicate_succ,List.flatten_cons,List.flatten_cons]
  exact Vals.append h (Vals.rep h k)
theorem Zao {α:Type}:∀ (l:List α) (i:Nat),(l.eraseIdx i).length<=l.length
 | [],_=>Nat.le_refl _
 | _ :: _,0=>Nat.le_succ _
 | _ :: r,i + 1=>Nat.succ_le_succ (Zao r i)
theorem Zas (its:List Value):∀ (k:Nat) (acc:List Value),
  List.foldl (λx1 x2=>x1 ++ x2) acc.toArray (List.replicate k its.toArray)=(acc ++ (List.replicate k its).flatten).toArray
 | 0,acc=>by simp
 | k + 1,acc=>by
  have e:acc.toArray ++ its.toArray=(acc ++ its).toArray:=by simp
  have e2:(acc ++ its) ++ (List.replicate k its).flatten=acc ++ (List.replicate (k + 1) its).flatten:=by
   rw [List.replicate_succ,List.flatten_cons,List.append_assoc]
  rw [<- e2,<- Zas its k (acc ++ its),<- e,List.replicate_succ,List.foldl_cons]
section
variable {X:Cx} {pins:List (Addr × Obj)} {σ:St} {H:Hp} {s:Shared} {l b:Addr} {xs ys zs:List V}
theorem Inv.lset {its its':List Value} {n:Nat} {f:Array Value->Array Value} {t':Nat} (I:Inv X pins σ H s) (hH:H l=some (.lst xs))
  (e:s.heap.get? l=some { cls:=.type "list",data:=.seq its.toArray n }) (hf:f its.toArray=its'.toArray) (hv:Vals ys its') (hz:ys.length<=sizeLine) :
  Inv X pins σ (upd H l (.lst ys)) { s with heap:=s.heap.update l (Obj.mapSeq f),toks:=t' }:=by
 have q:=PySem.IsL.update e f
 rw [hf] at q
 refine I.write (x:=l) (e:=l) (by rw [hH]; exact trivial) (.inl rfl) (λb' u hb hu=>(Heap.get?_update_other s.heap (Obj.mapSeq f) (Ne.symm hb)).trans hu) ⟨_,q⟩ ?_
 exact ⟨hz,its',_,hv,q⟩
theorem Inv.lnew {its:List Value} {t':Nat} (I:Inv X pins σ H s) (hv:Vals ys its) (hz:ys.length<=sizeLine) :
  Inv X pins σ (upd H s.heap.objs.size (.lst ys)) { s with heap:=s.heap.push { cls:=.type "list",data:=.seq its.toArray },toks:=t' } :=
 I.laid (λ_ _ q=>Heap.get?_push_of_some _ q) (Nat.le_refl _) ⟨hz,its,0,hv,Heap.get?_push_size _ rfl⟩
theorem Inv.fresh (I:Inv X pins σ H s):H s.heap.objs.size=none:=I.hok.fresh (Nat.le_refl _)
theorem Inv.lstM (I:Inv X pins σ H s) (hH:H l=some (.lst xs)):xs.length<=sizeLine/\∃ (its:List Value) (n:Nat),Vals xs its/\xs.length=its.length/\s.heap.get? l=some { cls:=.type "list",data:=.seq its.toArray n }:=by
 obtain ⟨z,its,n,r,e⟩:=I.hok l _ hH
 exact ⟨z,its,n,r,r.length,e⟩
theorem Zc4 {n:Nat} (h:n<=sizeLine):Builtin.List.listTooLong n=false:=by
 unfold Builtin.List.listTooLong
 exact decide_eq_false (by omega)
end
section
variable {X:Cx}
noncomputable def Zmd:V->List V->Hp->VK->Prop:=λx vs H Q=>∃ l xs y,x=.ref l/\vs=[y]/\H l=some (.lst xs)/\xs.length < sizeLine/\Q .non (upd H l (.lst (xs ++ [y])))
theorem Xl:MtM X "list.append" Zmd:=by
 intro pins s σ H x vs v us Q I rx rv h
 obtain ⟨l,xs,y,rfl,rfl,hH,hz,q⟩:=h
 cases rx
 obtain ⟨u,rfl,ru⟩:=rv.one
 obtain ⟨z,its,n,r,hl,e⟩:=I.lstM hH
 refine call_meets F.slot_list_append ⟨_,e,rfl⟩ F.entry_list_append (F.args_list_append_2 _ _) (PySem.list_append l its.toArray n u (by rw [List.size_toArray]; omega)) ⟨e,?_⟩
 refine ⟨.non,_,I.lset (its':=its ++ [u]) hH e (by simp) (r.append (.cons ru .nil)) ?_,rfl,q⟩
 rw [List.length_append,List.length_singleton]
 omega
noncomputable def Zmc:V->List V->Hp->VK->Prop:=λx vs H Q=>∃ l b xs zs,x=.ref l/\vs=[.ref b]/\H l=some (.lst xs)/\H b=some (.lst zs)/\xs.length + zs.length<=sizeLine/\Q .non (upd H l (.lst (xs ++ zs)))
theorem Zil:MtM X "list.extend" Zmc:=by
 intro pins s σ H x vs v us Q I rx rv h
 obtain ⟨l,b,xs,zs,rfl,rfl,hH,hB,hz,q⟩:=h
 cases rx
 obtain ⟨u,rfl,ru⟩:=rv.one
 cases ru
 obtain ⟨z,its,n,r,hl,e⟩:=I.lstM hH
 obtain ⟨z2,its2,n2,r2,hl2,e2⟩:=I.lstM hB
 have hsz:its.toArray.size + its2.toArray.size<=sizeLine:=by rw [List.size_toArray,List.size_toArray]; omega
 have hlong:¬ (!its.toArray.isEmpty && Builtin.List.listTooLong (its.toArray.size + its2.toArray.size))=true:=by
  rw [Zc4 hsz,Bool.and_false]
  exact Bool.false_ne_true
 refine call_meets F.slot_list_extend ⟨_,e,rfl⟩ F.entry_list_extend (F.args_list_extend_2 _ _)
  (AutoSeq1.list_extend_list_list_0 l its.toArray n b its2.toArray n2 hlong (by rw [List.size_toArray]; omega) (by omega)) ⟨e,e2,?_⟩
 refine ⟨.non,_,I.lset (its':=its ++ its2) hH e (by simp) (r.append r2) ?_,rfl,q⟩
 rw [List.length_append]
 omega
noncomputable def Zn0:V->List V->Hp->VK->Prop:=λx vs H Q=>∃ l xs i k y,x=.ref l/\vs=[.int i]/\H l=some (.lst xs)/\-(2 ^ 63)<=i/\i < 2 ^ 63/\seqIndex? i xs.length=some k/\xs[k]?=some y/\Q y (upd H l (.lst (xs.eraseIdx k)))
theorem K2:MtM X "list.pop" Zn0:=by
 intro pins s σ H x vs v us Q I rx rv h
 obtain ⟨l,xs,i,k,y,rfl,rfl,hH,h1,h2,hk,hy,q⟩:=h
 cases rx
 obtain ⟨u,rfl,ru⟩:=rv.one
 obtain ⟨t,rfl⟩:=ru
 obtain ⟨z,its,n,r,hl,e⟩:=I.lstM hH
 obtain ⟨w,hw,rw'⟩:=r.get hy
 refine call_meets F.slot_list_pop ⟨_,e,rfl⟩ F.entry_list_pop (F.args_list_pop_2 _ _)
  (MeetsSeq.list_pop_at l its.toArray n i t k w (fitsIndex_both h1 h2) (by rw [List.size_toArray,<- hl]; exact hk) (by rw [<- Array.getElem?_toList]; exact hw) (by rw [List.size_toArray]; omega)) ⟨e,?_⟩
 refine ⟨y,_,I.lset (its':=its.eraseIdx k) hH e ?_ (r.eraseIdx k) ?_,rw',q⟩
 ·show its.toArray.eraseIdxIfInBounds k=(its.eraseIdx k).toArray
  rw [List.eraseIdxIfInBounds_toArray]
 ·have:=Zao xs k
  omega
noncomputable def rCat:R2:=λx y H Q=>∃ l b xs zs,x=.ref l/\y=.ref b/\H l=some (.lst xs)/\H b=some (.lst zs)/\xs.length + zs.length<=sizeLine/\∀ p,H p=none->Q (.ref p) (upd H p (.lst (xs ++ zs)))
theorem Zh0:OpR X (binaryOp .Add) rCat:=by
 intro pins s σ H x y v u Q I rx ry h
 obtain ⟨l,b,xs,zs,rfl,rfl,hH,hB,hz,q⟩:=h
 cases rx
 cases ry
 obtain ⟨z,its,n,r,hl,e⟩:=I.lstM hH
 obtain ⟨z2,its2,n2,r2,hl2,e2⟩:=I.lstM hB
 refine PySem.P.add_list e e2 ?_ (by rw [List.size_toArray,List.size_toArray]; omega)
 have ea:its.toArray ++ its2.toArray=(its ++ its2).toArray:=by simp
 rw [ea]
 exact ⟨.ref _,_,I.lnew (t':=s.toks) (r.append r2) (by rw [List.length_append]; omega),rfl,q _ I.fresh⟩
noncomputable def rRep:R2:=λx y H Q=>∃ l k xs,x=.ref l/\y=.int k/\H l=some (.lst xs)/\-(2 ^ 63)<=k/\k < 2 ^ 63/\xs.length * k.toNat<=sizeLine /\
 ∀ p,H p=none->Q (.ref p) (upd H p (.lst (List.replicate k.toNat xs).flatten))
theorem Zmv {α:Type} (xs:List α) (k:Nat):(List.replicate k xs).flatten.length=k * xs.length:=by
 induction k with
 | zero=>simp
 | succ k ih=>rw [List.replicate_succ,List.flatten_cons,List.length_append,ih,Nat.succ_mul,Nat.add_comm]
theorem Zhx:OpR X (binaryOp .Mult) rRep:=by
 intro pins s σ H x y v u Q I rx ry h
 obtain ⟨l,k,xs,rfl,rfl,hH,h1,h2,hz,q⟩:=h
 cases rx
 obtain ⟨t,rfl⟩:=ry
 obtain ⟨z,its,n,r,hl,e⟩:=I.lstM hH
 have hlen:its.toArray.size * k.toNat<=sizeLine:=by rw [List.size_toArray,<- hl]; exact hz
 have hcap:¬ its.toArray.size * k.toNat > (2 ^ 63 - 1) / 8:=by
  have:(sizeLine:Nat)<=(2 ^ 63 - 1) / 8:=by decide
  omega
 have hfit:¬ (!Builtin.List.listFitsIndex k)=true:=by
  rw [fitsIndex_both h1 h2]
  exact Bool.false_ne_true
 have hlong:¬ Builtin.List.listTooLong (its.toArray.size * k.toNat)=true:=by
  rw [Zc4 hlen]
  exact Bool.false_ne_true
 have hnew:List.foldl (λx1 x2=>x1 ++ x2) #[] (List.replicate (if its.toArray.isEmpty=true then 0 else k.toNat) its.toArray)=(List.replicate k.toNat its).flatten.toArray:=by
  have f0:∀ m:Nat,List.foldl (λx1 x2=>x1 ++ x2) #[] (List.replicate m its.toArray)=(List.replicate m its).flatten.toArray:=λm=>by
   have:=Zas its m []
   rw [List.nil_append] at this
   exact this
  rw [f0]
  cases its with
  | nil=>simp
  | cons a r'=>rw [if_neg (by simp)]
 refine wpAny_binaryOp_repeat_ref (T:="list") (U:="int") (by decide) ⟨_,e,rfl⟩ (λs'=>typeIs_int s' k t) noFill_list_mul F.fills_int_mul F.slot_int_rmul repeat_list F.slot_int_index.lookup
  (call_meets F.slot_int_rmul (typeIs_int s k t) F.entry_int_rmul (F.args_int_rmul_2 _ _) (int___rmul___int_list k t l its.toArray n)
   ⟨e,rfl,⟨_,e,rfl⟩,call_meets F.slot_list_mul ⟨_,e,rfl⟩ F.entry_list_mul (F.args_list_mul_2 _ _) (AutoListH.list___mul___list_int_3 l its.toArray n k t hfit hcap hlong) ⟨e,?_⟩⟩)
 rw [hnew]
 exact ⟨.ref _,_,I.lnew (t':=s.toks) (r.rep k.toNat) (by rw [Zmv,Nat.mul_comm]; exact hz),rfl,q _ I.fresh⟩
end
section
variable {κ:Type} [DecidableEq κ]
noncomputable def valV (kvs:List (κ × V)) (k:κ):Option V:=(kvs.find? λkv=>decide (kv.1=k)).map (·.2)
noncomputable def putK (kvs:List (κ × V)) (k:κ) (v:V):List (κ × V) :=
 if (kvs.any λkv=>decide (kv.1=k))=true then kvs.map (λkv=>if kv.1=k then (kv.1,v) else kv) else kvs ++ [(k,v)]
theorem Ki {p:κ × V} {r:List (κ × V)} {k:κ} (e:p.1=k):valV (p :: r) k=some p.2:=by simp [valV,List.find?_cons,e]
theorem Kj {p:κ × V} {r:List (κ × V)} {k:κ} (e:¬ p.1=k):valV (p :: r) k=valV r k:=by simp [valV,List.find?_cons,e]
theorem Zbi (k:κ):∀ kvs:List (κ × V),(kvs.any λkv=>decide (kv.1=k))=(valV kvs k).isSome
 | []=>rfl
 | p :: r=>by
  rw [List.any_cons]
  by_cases e:p.1=k
  ·simp only [Ki e,decide_eq_true e,Bool.true_or,Option.isSome_some]
  ·rw [Kj e,decide_eq_false e,Bool.false_or]; exact Zbi k r
theorem Wm (kvs:List (κ × V)) (k:κ) (v:V):(putK kvs k v).length<=kvs.length + 1:=by
 unfold putK
 split
 ·rw [List.length_map]; omega
 ·rw [List.length_append,List.length_cons,List.length_nil]; omega
theorem RelO.isSome_eq {o:Option V} {u:Option Value} (r:RelO o u):o.isSome=u.isSome:=by
 cases o with
 | none=>cases u with
  | none=>rfl
  | some _=>exact (show False from r).elim
 | some _=>cases u with
  | none=>exact (show False from r).elim
  | some _=>rfl
theorem RelO.getD {o:Option V} {u:Option Value} {d:V} {d':Value} (r:RelO o u) (rd:RelV d d'):RelV (o.getD d) (u.getD d'):=by
 cases o with
 | none=>cases u with
  | none=>exact rd
  | some _=>exact (show False from r).elim
 | some _=>cases u with
  | none=>exact (show False from r).elim
  | some _=>exact r
theorem KV.val {kvs:List (κ × V)} {vs:List (κ × Value)} (r:KV kvs vs) (k:κ):RelO (valV kvs k) (valueAt vs k):=by
 unfold KV at r
 induction r with
 | nil=>exact True.intro
 | @cons p q ps qs h t ih =>
  obtain ⟨h1,h2⟩:=h
  by_cases e:p.1=k
  ·have e':q.1=k:=h1.symm.trans e
   have b:valueAt (q :: qs) k=some q.2:=by simp [valueAt,List.find?_cons,e']
   rw [Ki e,b]; exact h2
  ·have e':¬ q.1=k:=λz=>e (h1.trans z)
   have b:valueAt (q :: qs) k=valueAt qs k:=by simp [valueAt,List.find?_cons,e']
   rw [Kj e,b]; exact ih
theorem KV.any {kvs:List (κ × V)} {vs:List (κ × Value)} (r:KV kvs vs) (k:κ):(kvs.any λkv=>decide (kv.1=k))=vs.any λkv=>decide (kv.1=k):=by
 unfold KV at r
 induction r with
 | nil=>rfl
 | cons h t ih=>rw [List.any_cons,List.any_cons,ih,h.1]
theorem KV.repl {kvs:List (κ × V)} {vs:List (κ × Value)} (r:KV kvs vs) (k:κ) {y:V} {u:Value} (ry:RelV y u) :
  KV (kvs.map λkv=>if kv.1=k then (kv.1,y) else kv) (vs.map λkv=>if kv.1=k then (kv.1,u) else kv):=by
 unfold KV at r ⊢
 induction r with
 | nil=>exact .nil
 | @cons p q ps qs h t ih =>
  rw [List.map_cons,List.map_cons]
  refine .cons ?_ ih
  obtain ⟨h1,h2⟩:=h
  by_cases e:p.1=k
  ·rw [if_pos e,if_pos (h1.symm.trans e)]; exact ⟨h1,ry⟩
  ·rw [if_neg e,if_neg (λz=>e (h1.trans z))]; exact ⟨h1,h2⟩
theorem KV.put {kvs:List (κ × V)} {vs:List (κ × Value)} (r:KV kvs vs) (k:κ) {y:V} {u:Value} (ry:RelV y u):KV (putK kvs k y) (stored vs k u):=by
 unfold putK stored
 rw [r.any k]
 by_cases e:(vs.any λkv=>decide (kv.1=k))=true
 ·rw [if_pos e,if_pos e]; exact r.repl k ry
 ·rw [if_neg e,if_neg e]; exact Paired.snoc r ⟨rfl,ry⟩
theorem KV.length {kvs:List (κ × V)} {vs:List (κ × Value)} (r:KV kvs vs):kvs.length=vs.length:=Paired.length r
end
theorem Jr {P:Program} {w:World} {k:Key} {u:Value} (r:RelV (kV k) u):(Yd P w).is k u=true:=by
 cases k with
 | inl i=>obtain ⟨t,e⟩:=(show ∃ t,u=Value.int i t from r); subst e; exact Zef P w i t
 | inr x=>obtain ⟨t,e⟩:=(show ∃ t,u=Value.str x t from r); subst e; exact Zee P w x t
theorem Zap {P:Program} {w:World}:∀ {ks:List Key} {us:List Value},Vals (ks.map kV) us->ItemsAre (Yd P w) ks us
 | [],_,r=>by rw [List.map_nil] at r; cases r; exact .nil
 | k :: ks,_,r=>by
  rw [List.map_cons] at r
  cases r with
  | cons h t=>exact .cons (Jr h) (Zap t)
noncomputable abbrev KT (H:Hp):List (List Key × V)->List (List Key × Addr × Value)->Prop:=Paired λp q=>p.1=q.1/\H q.2.1=some (.tup (p.1.map kV))/\RelV p.2 q.2.2
theorem KT.val {H:Hp} {kvs:List (List Key × V)} {xs:List (List Key × Addr × Value)} (r:KT H kvs xs) (k:List Key):RelO (valV kvs k) ((atKey xs k).map (·.2)):=by
 induction r with
 | nil=>exact True.intro
 | @cons p q ps qs h t ih =>
  obtain ⟨h1,_,h2⟩:=h
  by_cases e:p.1=k
  ·have e':q.1=k:=h1.symm.trans e
   have b:atKey (q :: qs) k=some q.2:=by simp [atKey,List.find?_cons,e']
   rw [Ki e,b]; exact h2
  ·have e':¬ q.1=k:=λz=>e (h1.trans z)
   have b:atKey (q :: qs) k=atKey qs k:=by simp [atKey,List.find?_cons,e']
   rw [Kj e,b]; exact ih
theorem KT.repl {H:Hp} {kvs:List (List Key × V)} {xs:List (List Key × Addr × Value)} (r:KT H kvs xs) (k:List Key) {y:V} {u:Value} (ry:RelV y u) :
  KT H (kvs.map λkv=>if kv.1=k then (kv.1,y) else kv) (xs.map (putAt k u)):=by
 induction r with
 | nil=>exact .nil
 | @cons p q ps qs h t ih =>
  rw [List.map_cons,List.map_cons]
  refine .cons ?_ ih
  obtain ⟨h1,h2,h3⟩:=h
  unfold putAt
  by_cases e:p.1=k
  ·rw [if_pos e,if_pos (h1.symm.trans e)]; exact ⟨h1,h2,ry⟩
  ·rw [if_neg e,if_neg (λz=>e (h1.trans z))]; exact ⟨h1,h2,h3⟩
theorem KT.put {H:Hp} {kvs:List (List Key × V)} {xs:List (List Key × Addr × Value)} (r:KT H kvs xs) (k:List Key) {b:Addr} {y:V} {u:Value} (hb:H b=some (.tup (k.map kV))) (ry:RelV y u) :
  KT H (putK kvs k y) (storedH xs k b u):=by
 have e:(kvs.any λkv=>decide (kv.1=k))=(atKey xs k).isSome:=by
  rw [Zbi,(r.val k).isSome_eq,Option.isSome_map]
 unfold putK storedH
 rw [e]
 by_cases q:(atKey xs k).isSome=true
 ·rw [if_pos q,if_pos q]; exact r.repl k ry
 ·rw [if_neg q,if_neg q]; exact Paired.snoc r ⟨rfl,hb,ry⟩
theorem KT.keeps {H H':Hp} {kvs:List (List Key × V)} {xs:List (List Key × Addr × Value)} (r:KT H kvs xs) (ht:∀ b ys,H b=some (.tup ys)->H' b=some (.tup ys)):KT H' kvs xs :=
 Paired.mapP r λ_ _ z=>⟨z.1,ht _ _ z.2.1,z.2.2⟩
section
variable {P:Program} {w:World} {H:Hp} {h:Heap} {a:Addr}
theorem Zlb {u:HO} (ok:HOk P w H h) (e:Rd H a u):Yl P w H h a u:=e.ok ok
theorem Ql {kvs:List (Key × V)} (ok:HOk P w H h) (e:Rd H a (.dK kvs)):kvs.length<=sizeLine/\(a == sysModules)=false/\∃ vs,KV kvs vs/\h.DictOf (Yd P w) a vs :=
 show Yl P w H h a (.dK kvs) from Zlb ok e
theorem Zbg {kvs:List (Key × V)} (ok:HOk P w H h) (e:H a=some (.dK kvs)):kvs.length<=sizeLine/\(a == sysModules)=false/\∃ vs,KV kvs vs/\h.DictOf (Yd P w) a vs:=Ql ok (.inl e)
theorem Vr {ks:List Key} (ok:HOk P w H h) (e:H a=some (.tup (ks.map kV))):(tupleKind (Yd P w)).is h ks a:=by
 obtain ⟨_,its,r,o,h1,h2,n,h3⟩:=(show Yl P w H h a (.tup (ks.map kV)) from ok a _ e)
 exact ⟨o,its.toArray,n,h1,h2,h3,by simpa using Zap r⟩
theorem Ua {kvs:List (List Key × V)} (ok:HOk P w H h) (e:Rd H a (.dT kvs)):kvs.length<=sizeLine/\(a == sysModules)=false /\
  ∃ xs,KT H kvs xs/\h.DictOfH (tupleKind (Yd P w)) a xs:=by
 obtain ⟨z,y,xs,r,o,es,ep,h1,h2,h3,h4,h5⟩:=(show Yl P w H h a (.dT kvs) from Zlb ok e)
 refine ⟨z,y,xs,r,o,es,ep,h1,h2,h3,h4,λx hx=>?_,h5⟩
 have all:∀ {l:List (List Key × V)} {m:List (List Key × Addr × Value)},KT H l m->∀ x∈m,(tupleKind (Yd P w)).is h x.1 x.2.1:=by
  intro l m q
  induction q with
  | nil=>intro x hx; exact nomatch hx
  | @cons p q ps qs hq t ih =>
   intro x hx
   rcases List.mem_cons.mp hx with e | hx
   ·subst e
    exact Vr ok (by rw [<- hq.1]; exact hq.2.1)
   ·exact ih x hx
 exact all r x hx
theorem Zp0 {kvs:List (List Key × V)} (ok:HOk P w H h) (e:H a=some (.dT kvs)):kvs.length<=sizeLine/\(a == sysModules)=false /\
  ∃ xs,KT H kvs xs/\h.DictOfH (tupleKind (Yd P w)) a xs:=Ua ok (.inl e)
end
noncomputable def DGet (H:Hp) (a:Addr) (y:V) (r:Option V):Prop :=
 (∃ kvs k,Rd H a (.dK kvs)/\y=kV k/\r=valV kvs k)\/∃ kvs k b,Rd H a (.dT kvs)/\y=.ref b/\H b=some (.tup (k.map kV))/\r=valV kvs k
noncomputable def DPut (H:Hp) (a:Addr) (y v:V) (H':Hp):Prop :=
 (∃ kvs k,H a=some (.dK kvs)/\y=kV k/\kvs.length < sizeLine/\H'=upd H a (.dK (putK kvs k v))) \/
 ∃ kvs k b,H a=some (.dT kvs)/\y=.ref b/\H b=some (.tup (k.map kV))/\kvs.length < sizeLine/\H'=upd H a (.dT (putK kvs k v))
theorem DGet.k {H:Hp} {a:Addr} {kvs:List (Key × V)} {k:Key} (e:H a=some (.dK kvs)):DGet H a (kV k) (valV kvs k):=.inl ⟨kvs,k,.inl e,rfl,rfl⟩
theorem DPut.k {H:Hp} {a:Addr} {kvs:List (Key × V)} {k:Key} {v:V} (e:H a=some (.dK kvs)) (hl:kvs.length < sizeLine):DPut H a (kV k) v (upd H a (.dK (putK kvs k v))):=.inl ⟨kvs,k,e,rfl,hl,rfl⟩
section
variable {X:Cx} {pins:List (Addr × Obj)} {σ:St} {H:Hp} {s:Shared} {a:Addr} {y v:V} {u r:Value} {o:Option V} {A:Around} {E:Value->Shared->Prop}
theorem Inv.big (I:Inv X pins σ H s):sysModules < s.heap.objs.size:=by
 have h:mainGlobals < s.heap.objs.size:=(I.mod.glob.keeps I.bk).lt
 exact Nat.lt_trans (by decide) h
theorem Zau {Q:Value->Shared->Prop} (hu:A.units + 1 < cLine) (I:Inv X pins σ H s) (g:DGet H a y (some v)) (ry:RelV y u) (h:∀ w' s',Inv X pins σ H s'->RelV v w'->Q w' s') :
  wpAny (model X.prog X.w) A (getItem (.ref a) u) Q E s:=by
 rcases g with ⟨kvs,k,e,ey,l⟩ | ⟨kvs,k,b,e,ey,eb,l⟩
 ·subst ey
  obtain ⟨z,hd,vs,rel,dd⟩:=Ql I.hok e
  obtain ⟨w',hw,rw'⟩:=RelO.some_of (v:=v) (o:=valueAt vs k) (by rw [l]; exact rel.val k)
  exact wpAny_getItem_of (Jr ry) dd.mapOf hw (h w' _ (I.tok _) rw')
 ·subst ey
  cases (show u=Value.ref b from ry)
  obtain ⟨z,hd,xs,rel,dd⟩:=Ua I.hok e
  obtain ⟨w',hw,rw'⟩:=RelO.some_of (v:=v) (o:=(atKey xs k).map (·.2)) (by rw [l]; exact rel.val k)
  obtain ⟨p,hp,hp2⟩:=Option.map_eq_some_iff.mp hw
  refine wpAny_getItem_heap (tupleKind_room_in1 hu) (Vr I.hok eb) dd hp ?_
  rw [hp2]
  exact h w' _ (I.tok _) rw'
theorem d_in {Q:Value->Shared->Prop} (hu:A.units + 1 < cLine) (I:Inv X pins σ H s) (g:DGet H a y o) (ry:RelV y u) (h:∀ s',Inv X pins σ H s'->Q (.bool o.isSome) s') :
  wpAny (model X.prog X.w) A (compareOp .In u (.ref a)) Q E s:=by
 rcases g with ⟨kvs,k,e,ey,l⟩ | ⟨kvs,k,b,e,ey,eb,l⟩
 ·subst ey
  obtain ⟨z,hd,vs,rel,dd⟩:=Ql I.hok e
  refine wpAny_in_of (Jr ry) hd dd.mapOf ?_
  rw [<- (rel.val k).isSome_eq,<- l]
  exact h _ (I.tok _)
 ·subst ey
  cases (show u=Value.ref b from ry)
  obtain ⟨z,hd,xs,rel,dd⟩:=Ua I.hok e
  refine wpAny_in_heap (tupleKind_room_in1 hu) (Vr I.hok eb) hd dd ?_
  have q:=(rel.val k).isSome_eq
  rw [Option.isSome_map] at q
  rw [<- q,<- l]
  exact h _ (I.tok _)
theorem Zm7 {Q:Value->Shared->Prop} (hu:A.units + 1 < cLine) (I:Inv X pins σ H s) (g:DGet H a y o) (ry:RelV y u) (h:∀ s',Inv X pins σ H s'->Q (.bool (!o.isSome)) s') :
  wpAny (model X.prog X.w) A (compareOp .NotIn u (.ref a)) Q E s:=by
 rcases g with ⟨kvs,k,e,ey,l⟩ | ⟨kvs,k,b,e,ey,eb,l⟩
 ·subst ey
  obtain ⟨z,hd,vs,rel,dd⟩:=Ql I.hok e
  refine wpAny_notIn_of (Jr ry) hd dd.mapOf ?_
  rw [<- (rel.val k).isSome_eq,<- l]
  exact h _ (I.tok _)
 ·subst ey
  cases (show u=Value.ref b from ry)
  obtain ⟨z,hd,xs,rel,dd⟩:=Ua I.hok e
  refine wpAny_notIn_heap (tupleKind_room_in1 hu) (Vr I.hok eb) hd dd ?_
  have q:=(rel.val k).isSome_eq
  rw [Option.isSome_map] at q
  rw [<- q,<- l]
  exact h _ (I.tok _)
theorem Vu {h':Heap} {t':Nat} {ob:HO} (I:Inv X pins σ H s) (mu:Mut (H a)) (hs:Heap.SameBut a s.heap h') (he:∃ q,h'.get? a=some q) (new:Yl X.prog X.w (upd H a ob) h' a ob) :
  Inv X pins σ (upd H a ob) { s with heap:=h',toks:=t' } :=
 I.write (x:=a) (e:=a) mu (.inl rfl) (λb q hb z=>(hs.2 b hb).trans z) he new
theorem Fa {P:Program} {w:World} {H':Hp} {h':Heap} {kvs:List (Key × V)} {vs:List (Key × Value)} (z:kvs.length<=sizeLine) (hd:(a == sysModules)=false) (rel:KV kvs vs) (dd:h'.DictOf (Yd P w) a vs) :
  Yl P w H' h' a (.dK kvs):=⟨z,hd,vs,rel,dd⟩
theorem Zat {H':Hp} {Q:Unit->Shared->Prop} (hu:A.units + 1 < cLine) (I:Inv X pins σ H s) (g:DPut H a y v H') (ry:RelV y u) (rv:RelV v r) (h:∀ s',Inv X pins σ H' s'->Q () s') :
  wpAny (model X.prog X.w) A (setItem (.ref a) u r) Q E s:=by
 rcases g with ⟨kvs,k,e,ey,l,eH⟩ | ⟨kvs,k,b,e,ey,eb,l,eH⟩
 ·subst ey eH
  obtain ⟨z,hd,vs,rel,dd⟩:=Zbg I.hok e
  have hz:vs.length<=sizeLine:=by rw [<- rel.length]; exact z
  have hl:(putK kvs k v).length<=sizeLine:=by have:=Wm kvs k v; omega
  refine wpAny_setItem_pairs (hsz:=hz) (Jr ry) dd λh' dd' hs=>h _ ?_
  have he:∃ q,h'.get? a=some q:=let ⟨q,_,_,hq,_⟩:=dd'; ⟨q,hq⟩
  exact Vu I (by rw [e]; exact True.intro) hs he (Fa hl hd (rel.put k rv) dd')
 ·subst ey eH
  cases (show u=Value.ref b from ry)
  obtain ⟨z,hd,xs,rel,dd⟩:=Zp0 I.hok e
  have hz:xs.length<=sizeLine:=by rw [<- Paired.length rel]; exact z
  have hl:(putK kvs k v).length<=sizeLine:=by have:=Wm kvs k v; omega
  refine wpAny_setItem_heap (hsz:=hz) (tupleKind_room_in1 hu) (Vr I.hok eb) dd λh' dd' hs=>h _ ?_
  obtain ⟨q,es,ep,hq,h2,h3,h4,_,h5⟩:=dd'
  refine Vu I (by rw [e]; exact True.intro) hs ⟨q,hq⟩ ⟨hl,hd,_,(rel.put k eb rv).keeps λc ys ec=>?_,q,es,ep,hq,h2,h3,h4,h5⟩
  rw [Ze (Zpn ec e (λz=>nomatch z))]
  exact ec
end
noncomputable def NoSl (i:Expr):Prop:=∀ ov iv,subscripted i false ov iv=operate [ov,iv] (getItem ov iv)
theorem Zlu {prog:Program} {w:World} {A:Around} {E:Value->Shared->Prop} {s:Shared} {env:Env} {value slice:Expr} {pos:Pos} {T id:String} {Q:Value->Shared->Prop}
  (hl:typeLookup (.type T) "__getitem__"=pure (some (.builtin id))) (hs:NoSl slice)
  (h:wpAny (model prog w) A (eval value env) (λo s₁=>wpAny (model prog w) A (eval slice env) (λi s₂=>s₂.TypeIs o T/\wpAny (model prog w) A (getItem o i) Q E s₂) E s₁) E s) :
  wpAny (model prog w) A (eval (.Subscript value slice pos) env) Q E s:=by
 refine Subscript_ (wpAny_mono h (λo s₁ h₁=>wpAny_mono h₁ (λi s₂ h₂=>?_) λ_ _ x=>x) λ_ _ x=>x)
 obtain ⟨hT,h₂⟩:=h₂
 unfold subscriptTail
 refine wpAny_bind ?_
 rw [getitemInPython_of_ne hT.not_modules]
 refine wpAny_bind (wpAny_specialOf hT hl ?_)
 have fin:wpAny (model prog w) A (subscripted slice false o i) (λr s₃=>wpAny (model prog w) A (letTemporaryGo value o r >>= λ_=>pure r) Q E s₃) E s₂:=by
  rw [hs o i]
  exact wpAny_operating (wpAny_mono h₂ (λr s₃ h₃=>wpAny_bind (wpAny_letTemporaryGo (wpAny_pure h₃))) λ_ _ x=>x)
 first
  | exact wpAny_pure (wpAny_bind fin)
  | exact wpAny_bind (wpAny_pure (wpAny_bind fin))
  | exact wpAny_bind fin
theorem Zeg {X:Cx} {pins:List (Addr × Obj)} {σ:St} {H:Hp} {s:Shared} {a:Addr} {y:V} {o:Option V} (I:Inv X pins σ H s) (g:DGet H a y o):s.TypeIs (.ref a) "dict":=by
 rcases g with ⟨kvs,k,e,_,_⟩ | ⟨kvs,k,b,e,_,_,_⟩
 ·obtain ⟨_,_,vs,_,dd⟩:=Ql I.hok e
  exact dd.typeIs
 ·obtain ⟨_,_,xs,_,dd⟩:=Ua I.hok e
  exact dd.typeIs
noncomputable def Zo9 (td ty:TE):TE:=λσ H Q=>td σ H λx H1=>ty σ H1 λy H2=>∃ a v,x=.ref a/\DGet H2 a y (some v)/\Q v H2
noncomputable def tDIn (ty td:TE):TE:=λσ H Q=>ty σ H λy H1=>td σ H1 λx H2=>∃ a o,x=.ref a/\DGet H2 a y o/\Q (.bl o.isSome) H2
noncomputable def Zls (ty td:TE):TE:=λσ H Q=>ty σ H λy H1=>td σ H1 λx H2=>∃ a o,x=.ref a/\DGet H2 a y o/\Q (.bl (!o.isSome)) H2
noncomputable def Zpi (td ty tv:TE):TS:=λD σ H=>tv σ H λv H1=>td σ H1 λx H2=>ty σ H2 λy H3=>∃ a H4,x=.ref a/\DPut H3 a y v H4/\D.nx σ H4
noncomputable def Zpj (td ty tv:TE) (rd:V->V->Hp->VK->Prop):TS:=λD σ H=>td σ H λx H1=>ty σ H1 λy H2=>∃ a v,x=.ref a/\DGet H2 a y (some v) /\
 tv σ H2 λy2 H3=>rd v y2 H3 λz H4=>∃ H5,DPut H4 a y z H5/\D.nx σ H5
section
variable {X:Cx} {o i e value:Expr} {pos pos' tpos:Pos} {td ty tv:TE}
theorem Fu (hu:X.A.units + 1 < cLine) (ho:PE X o td) (hi:PE X i ty) (hs:NoSl i):PE X (.Subscript o i pos) (Zo9 td ty):=by
 intro pins s σ H Q I h
 refine Zlu PySem.F.slot_dict_getitem.lookup hs (thn (ho pins s σ H _ I h) λu s1 zz23=>?_)
 obtain ⟨x,H1,I1,rx,q1⟩:=zz23
 refine thn (hi pins s1 σ H1 _ I1 q1) λiv s2 zz9=>?_
 obtain ⟨y,H2,I2,ry,a,v,ex,g,q2⟩:=zz9
 subst ex
 obtain rfl:u=Value.ref a:=rx
 exact ⟨Zeg I2 g,Zau hu I2 g ry λw' s3 I3 rw'=>⟨v,H2,I3,rw',q2⟩⟩
theorem Zht (hu:X.A.units + 1 < cLine) (hi:PE X i ty) (ho:PE X o td):PC X .In i o (tDIn ty td):=by
 intro pins s σ H Q I h
 refine thn (hi pins s σ H _ I h) λiv s1 zz24=>?_
 obtain ⟨y,H1,I1,ry,q1⟩:=zz24
 refine thn (ho pins s1 σ H1 _ I1 q1) λu s2 zz9=>?_
 obtain ⟨x,H2,I2,rx,a,ov,ex,g,q2⟩:=zz9
 subst ex
 obtain rfl:u=Value.ref a:=rx
 exact d_in hu I2 g ry λs3 I3=>⟨.bl ov.isSome,H2,I3,rfl,q2⟩
theorem Zhs (hu:X.A.units + 1 < cLine) (hi:PE X i ty) (ho:PE X o td):PC X .NotIn i o (Zls ty td):=by
 intro pins s σ H Q I h
 refine thn (hi pins s σ H _ I h) λiv s1 zz25=>?_
 obtain ⟨y,H1,I1,ry,q1⟩:=zz25
 refine thn (ho pins s1 σ H1 _ I1 q1) λu s2 zz9=>?_
 obtain ⟨x,H2,I2,rx,a,ov,ex,g,q2⟩:=zz9
 subst ex
 obtain rfl:u=Value.ref a:=rx
 exact Zm7 hu I2 g ry λs3 I3=>⟨.bl (!ov.isSome),H2,I3,rfl,q2⟩
theorem Ze0 (hu:X.A.units + 1 < cLine) (ho:PE X o td) (hi:PE X i ty) (hv:PE X value tv) (hs:swapsWith value (some (.Subscript o i pos')) pos.line X.env=pure false) :
  PS X (.Assign [.Subscript o i pos'] value pos) (Zpi td ty tv):=by
 intro pins s σ H D I h
 refine wpAny_Assign_Subscript (thn (hv pins s σ H _ I h) λr s1 zz26=>?_) hs
 obtain ⟨v,H1,I1,rv,q1⟩:=zz26
 refine thn (ho pins s1 σ H1 _ I1 q1) λu s2 zz27=>?_
 obtain ⟨x,H2,I2,rx,q2⟩:=zz27
 refine thn (hi pins s2 σ H2 _ I2 q2) λiv s3 zz28=>?_
 obtain ⟨y,H3,I3,ry,a,H4,ex,g,q3⟩:=zz28
 subst ex
 obtain rfl:u=Value.ref a:=rx
 exact Zat hu I3 g ry rv λs4 I4=>⟨σ,H4,I4,q3⟩
theorem Zmf {op:Operator} {rd:V->V->Hp->VK->Prop} (hu:X.A.units + 1 < cLine) (ho:PE X o td) (hi:PE X i ty) (hv:PE X value tv) (hop:InOp X op rd)
  (ha:∀ ov iv new,augStore i ov iv new=(do holding [new,ov,iv] (setItem ov iv new); release [new,ov,iv] []; pure .next)):PS X (.AugAssign (.Subscript o i tpos) op value pos) (Zpj td ty tv rd):=by
 intro pins s σ H D I h
 refine wpAny_AugAssign_SubscriptAny (thn (ho pins s σ H _ I h) λu s1 zz29=>?_) ha
 obtain ⟨x,H1,I1,rx,q1⟩:=zz29
 refine thn (hi pins s1 σ H1 _ I1 q1) λiv s2 zz30=>?_
 obtain ⟨y,H2,I2,ry,a,v,ex,g,q2⟩:=zz30
 subst ex
 obtain rfl:u=Value.ref a:=rx
 refine Zau hu I2 g ry λw' s3 I3 rw'=>thn (hv pins s3 σ H2 _ I3 q2) λw2 s4 zz31=>?_
 obtain ⟨y2,H3,I4,ry2,q3⟩:=zz31
 refine thn (hop pins s4 σ H3 v y2 w' w2 _ I4 rw' ry2 q3) λw3 s5 zz9=>?_
 obtain ⟨z,H4,I5,rz,H5,g5,q4⟩:=zz9
 exact Zat hu I5 g5 ry rz λs6 I6=>⟨σ,H5,I6,q4⟩
end
theorem Ub {P:Program} {w:World} {H:Hp} (h:Heap) (hb:sysModules < h.objs.size):Yl P w H (h.push { cls:=.type "dict",data:=.dict #[] }) h.objs.size (.dK []) :=
 ⟨Nat.zero_le _,beq_eq_false_iff_ne.mpr (Ne.symm (Nat.ne_of_lt hb)),[],.nil,Heap.DictOf.new h⟩
noncomputable def Zns:TE:=λ_ H Q=>∀ p,H p=none->Q (.ref p) (upd H p (.dK []))
section
variable {X:Cx} {pos:Pos}
theorem Qz:PE X (.Dict [] [] pos) Zns:=λpins s σ H Q I h =>
 wpAny_Dict_empty ⟨.ref s.heap.objs.size,_,I.laid (a:=s.heap.objs.size) (o:=.dK []) (t':=s.toks) (λ_ _ q=>Heap.get?_push_of_some _ q) (Nat.le_refl _) (Ub s.heap I.big),rfl,h _ (I.hok.fresh (Nat.le_refl _))⟩
end
noncomputable def Zbj:List (TE × TE)->St->Hp->(List (V × V)->Hp->Prop)->Prop
 | [],_,H,Q=>Q [] H
 | (tk,tv) :: r,σ,H,Q=>tk σ H λx H1=>tv σ H1 λy H2=>Zbj r σ H2 λps H3=>Q ((x,y) :: ps) H3
noncomputable abbrev VV:List (V × V)->List (Value × Value)->Prop:=Paired λp q=>RelV p.1 q.1/\RelV p.2 q.2
noncomputable def PPs (X:Cx) (pos:Pos) (keys:List (Option Expr)) (values:List Expr) (trs:List (TE × TE)):Prop :=
 ∀ (pins:List (Addr × Obj)) (s:Shared) (σ:St) (H:Hp) (Q:List (V × V)->Hp->Prop),Inv X pins σ H s->Zbj trs σ H Q ->
  wpAny (model X.prog X.w) X.A (evalPairs (pairTrees keys values X.env pos)) (λvs s'=>∃ ps H',Inv X pins σ H' s'/\VV ps vs/\Q ps H') X.xe s
theorem Ze2 {X:Cx} {pos:Pos}:PPs X pos [] [] []:=λpins s σ H Q I h=>pairTrees_nil_walk ⟨[],H,I,.nil,h⟩
theorem Wb {X:Cx} {pos:Pos} {k v:Expr} {ks:List (Option Expr)} {vs:List Expr} {tk tv:TE} {trs:List (TE × TE)} (hk:PE X k tk) (hv:PE X v tv) (hr:PPs X pos ks vs trs) :
  PPs X pos (some k :: ks) (v :: vs) ((tk,tv) :: trs):=λpins s σ H Q I h =>
 pairTrees_cons_walk (thn (hk pins s σ H _ I h) λu s1 ⟨x,H1,I1,rx,q1⟩=>thn (hv pins s1 σ H1 _ I1 q1) λw2 s2 ⟨y,H2,I2,ry,q2⟩ =>
  thn (hr pins s2 σ H2 _ I2 q2) λws s3 ⟨ps,H3,I3,rel,q3⟩=>⟨(x,y) :: ps,H3,I3,.cons ⟨rx,ry⟩ rel,q3⟩)
noncomputable def W9 (kvs more:List (Key × V)):List (Key × V):=more.foldl (λacc kv=>putK acc kv.1 kv.2) kvs
theorem KV.merge:∀ {more:List (Key × V)} {rs:List (Key × Value)} {kvs:List (Key × V)} {vs:List (Key × Value)},KV more rs->KV kvs vs->KV (W9 kvs more) (merged vs rs):=by
 intro more rs kvs vs r
 unfold KV at r
 induction r generalizing kvs vs with
 | nil=>intro q; exact q
 | @cons p q ps qs h t ih =>
  intro r0
  have e:KV (putK kvs p.1 p.2) (stored vs q.1 q.2):=by
   have:=r0.put p.1 h.2
   rw [<- h.1]; exact this
  exact ih e
theorem Up:∀ (more kvs:List (Key × V)),(W9 kvs more).length<=kvs.length + more.length
 | [],kvs=>by show kvs.length<=kvs.length + 0; omega
 | p :: r,kvs=>by
  have h1:=Up r (putK kvs p.1 p.2)
  have h2:=Wm kvs p.1 p.2
  show (W9 (putK kvs p.1 p.2) r).length<=_
  rw [List.length_cons]; omega
theorem Fd {P:Program} {w:World}:∀ {kvs:List (Key × V)} {ws:List (Value × Value)},VV (kvs.map λkv=>(kV kv.1,kv.2)) ws->∃ rs,Carries (Yd P w) ws rs/\KV kvs rs
 | [],_,r=>by rw [List.map_nil] at r; cases r; exact ⟨[],True.intro,.nil⟩
 | p :: kvs,_,r=>by
  rw [List.map_cons] at r
  cases r with
  | @cons a b as bs h t =>
   obtain ⟨rs,c,q⟩:=Fd (P:=P) (w:=w) t
   obtain ⟨b1,b2⟩:=b
   exact ⟨(p.1,b2) :: rs,⟨Jr h.1,rfl,c⟩,.cons ⟨rfl,h.2⟩ q⟩
noncomputable def Zo8 (trs:List (TE × TE)):TE:=λσ H Q=>∀ p,H p=none->Zbj trs σ (upd H p (.dK [])) λps H2=>H2 p=some (.dK [])/\∃ kvs:List (Key × V),ps=kvs.map (λkv=>(kV kv.1,kv.2))/\kvs.length<=15/\Q (.ref p) (upd H2 p (.dK (W9 [] kvs)))
theorem Ze6 {X:Cx} {pos:Pos} {keys:List (Option Expr)} {values:List Expr} {trs:List (TE × TE)} (h:PPs X pos keys values trs) (hall:keys.all (·.isSome)=true) (hl:keys.length=values.length) (h0:keys≠[])
  (h15:keys.length<=15):PE X (.Dict keys values pos) (Zo8 trs):=by
 intro pins s σ H Q I q
 have hn:=I.hok.fresh (Nat.le_refl s.heap.objs.size)
 have I1:=I.laid (a:=s.heap.objs.size) (o:=.dK []) (h':=s.heap.push { cls:=.type "dict",data:=.dict #[] }) (t':=s.toks) (λ_ _ q=>Heap.get?_push_of_some _ q) (Nat.le_refl _) (Ub s.heap I.big)
 refine wpAny_Dict_walk (knd:=Yd X.prog X.w) hall hl h0 h15 (thn (h pins _ σ _ _ I1 (q _ hn)) λws s2 zz9=>?_)
 obtain ⟨ps,H2,I2,rel,e,kvs,ep,lk,q2⟩:=zz9
 subst ep
 obtain ⟨rs,c,rk⟩:=Fd (P:=X.prog) (w:=X.w) rel
 obtain ⟨z,hd,vs0,r0,dd⟩:=Zbg I2.hok e
 cases r0
 refine ⟨rs,c,dd,λh' dd' hs=>⟨.ref s.heap.objs.size,_,?_,rfl,q2⟩⟩
 have hz:(W9 [] kvs).length<=sizeLine:=by
  have h1:=Up kvs []
  rw [List.length_nil] at h1
  rw [sizeLine_eq]; omega
 have he:∃ q,h'.get? s.heap.objs.size=some q:=let ⟨q,_,_,hq,_⟩:=dd'; ⟨q,hq⟩
 exact Vu I2 (by rw [e]; exact True.intro) hs he (Fa hz hd (rk.merge .nil) dd')
structure M2 (X:Cx) (o:Expr) (m:Str) (apos:Pos) (e f:Expr) (cpos:Pos):Prop where
 base:attributeBase o m X.env (eval o X.env)=eval o X.env
 few:((backTo cpos (starEach [e,f] X.env)).all (λx=>!x.1) && (backToKw cpos (keywordEach [] X.env)).all (λx=>x.1.isSome)
  && decide (([e,f]:List Expr).length + ([]:List Keyword).length + (if ([]:List Keyword).isEmpty then 0 else 1) < 30))=true
 line:(apos.endLine == cpos.line)=true
 trees:backTo cpos (starEach [e,f] X.env)=[(false,eval e X.env),(false,eval f X.env)]
noncomputable def IsD (H:Hp) (a:Addr):Prop:=(∃ kvs,Rd H a (.dK kvs))\/∃ kvs,Rd H a (.dT kvs)
theorem G6 {X:Cx} {pins:List (Addr × Obj)} {σ:St} {H:Hp} {s:Shared} {a:Addr} (I:Inv X pins σ H s) (d:IsD H a) :
  s.TypeIs (.ref a) "dict"/\(∀ b,Value.ref a=.ref b->∃ ob,s.heap.get? b=some ob/\ob.dict=none)/\(a == sysModules)=false:=by
 rcases d with ⟨kvs,e⟩ | ⟨kvs,e⟩
 ·obtain ⟨_,hd,vs,_,dd⟩:=Ql I.hok e
  refine ⟨dd.typeIs,λb q=>?_,hd⟩
  cases q
  obtain ⟨ob,_,_,h1,h2,_⟩:=dd
  exact ⟨ob,h1,h2.2.1⟩
 ·obtain ⟨_,hd,xs,_,dd⟩:=Ua I.hok e
  refine ⟨dd.typeIs,λb q=>?_,hd⟩
  cases q
  obtain ⟨ob,_,_,h1,h2,_⟩:=dd
  exact ⟨ob,h1,h2.2.1⟩
section
variable {X:Cx} {pins:List (Addr × Obj)} {σ:St} {H:Hp} {s:Shared} {a:Addr} {y d:V} {u r:Value} {o:Option V} {A:Around} {E:Value->Shared->Prop}
theorem Zos {Q:Value->Shared->Prop} (hu:A.units + 1 < cLine) (I:Inv X pins σ H s) (g:DGet H a y o) (ry:RelV y u) (rd:RelV d r) (h:∀ w' s',Inv X pins σ H s'->RelV (o.getD d) w'->Q w' s') :
  wpAny (model X.prog X.w) A (call (.builtin "dict.get") [.ref a,u,r]) Q E s:=by
 rcases g with ⟨kvs,k,e,ey,l⟩ | ⟨kvs,k,b,e,ey,eb,l⟩
 ·subst ey
  obtain ⟨z,hd,vs,rel,dd⟩:=Ql I.hok e
  refine call_meetsIn PySem.F.slot_dict_get dd.typeIs PySem.F.entry_dict_get (PySem.F.args_dict_get_3 _ _ _) (meets_dict_get_default (Yd X.prog X.w) a (Jr ry) hd r) ⟨_,dd.mapOf,h _ _ (I.tok _) ?_⟩
  rw [l]
  exact (rel.val k).getD rd
 ·subst ey
  cases (show u=Value.ref b from ry)
  obtain ⟨z,hd,xs,rel,dd⟩:=Ua I.hok e
  refine call_meetsIn PySem.F.slot_dict_get dd.typeIs PySem.F.entry_dict_get (PySem.F.args_dict_get_3 _ _ _) (meetsH_dict_get_default (tupleKind (Yd X.prog X.w)) a b hd r) ⟨tupleKind_room_in1 hu,k,xs,Vr I.hok eb,dd,h _ _ (I.tok _) ?_⟩
  rw [l]
  exact (rel.val k).getD rd
end
noncomputable def Znt (td ty tx:TE):TE:=λσ H Q=>td σ H λx H1=>∃ a,x=.ref a/\IsD H1 a/\ty σ H1 λy H2=>tx σ H2 λz H3=>∃ o,DGet H3 a y o/\Q (o.getD z) H3
section
variable {X:Cx} {o e f:Expr} {apos cpos:Pos} {td ty tx:TE}
theorem Kt (hu:X.A.units + 1 < cLine) (ho:PE X o td) (he:PE X e ty) (hf:PE X f tx) (m:M2 X o "get" apos e f cpos):PE X (.Call (.Attribute o "get" apos) [e,f] [] cpos) (Znt td ty tx):=by
 intro pins s σ H Q I h
 refine wpAny_Call_method m.base m.few m.line PySem.F.plainAttrs_dict PySem.F.slot_dict_get PySem.F.type_dict_get (thn (ho pins s σ H _ I h) λu s1 zz9=>?_)
 obtain ⟨x,H1,I1,rx,a,ex,d,q1⟩:=zz9
 subst ex
 obtain rfl:u=Value.ref a:=rx
 obtain ⟨t1,t2,_⟩:=G6 I1 d
 refine ⟨t1,t2,?_⟩
 rw [m.trees]
 refine Calls.callWith_builtin rfl (Calls.evalArgs_plain (Calls.spliced_cons (thn (he pins s1 σ H1 _ I1 q1) λiv s2 ⟨y,H2,I2,ry,q2⟩ =>
  Calls.spliced_cons (thn (hf pins s2 σ H2 _ I2 q2) λfv s3 ⟨z,H3,I3,rz,ov,g,q3⟩=>Calls.spliced_nil ?_))))
 exact Zos hu I3 g ry rz λw' s4 I4 rw'=>⟨_,H3,I4,rw',q3⟩
end
end L2
namespace Att
open PySem PySem.W PySem.Calls PyProof.Rows
theorem G7 {P:Params} {h:Heap}:∀ (ns:List Int) (vs:List Value),WellAll P h vs (ns.map WData.int)->IntsAre vs ns:=by
 intro ns
 induction ns with
 | nil =>
  intro vs w
  rw [List.map_nil] at w
  cases w
  exact .nil
 | cons n ns ih =>
  intro vs w
  rw [List.map_cons] at w
  cases w with
  | cons a b =>
   cases a
   exact .cons _ _ (ih _ b)
theorem Zhd {l:OpenLaw} {n:Nat} (hn:l.most=some n) {P:Params} {h:Heap} {args:List WData} {vals:List Value}
  (hpre:l.row.toRowW.claim.pre args=true) (hwl:WellAll P h vals args) :
  ∃ a vs ns,vals=[Value.ref a]/\args=[WData.list (ns.map WData.int)]/\h.get? a=some { cls:=.type "list",data:=.seq vs.toArray }/\IntsAre vs ns/\ns.length<=n:=by
 have hsh:WShape.hasAll [] args [.list .int]=true:=(pre_splitW hpre).1
 have hc:l.pre.holds [] { args:=args }=true:=(pre_splitW hpre).2
 obtain ⟨d,r,rfl,h1,h2⟩:=hasAllW_cons hsh
 obtain rfl:=hasAllW_nil h2
 obtain ⟨xs,rfl,h3⟩:=hasW_list h1
 obtain ⟨ns,rfl⟩:=items_int h3
 have hlen:ns.length<=n:=by
  unfold OpenLaw.pre at hc
  have h4:(WTm.not (.lt (.lit (.int (n:Int))) (.len (.arg 0)))).holds [] { args:=[.list (ns.map .int)] }=true:=by
   have h4:=(holds_andW hc).1
   rw [hn] at h4
   exact h4
  have h5:=condW_of h4 (w_not (w_lt w_lit (w_len_list (w_arg rfl))))
  rw [List.length_map] at h5
  refine Nat.le_of_not_lt λq=>?_
  have q':(n:Int) < ((ns.length:Nat):Int):=by omega
  first
   | (rw [decide_eq_true q'] at h5; exact absurd h5 (by decide))
   | (simp at h5; omega)
 cases hwl with
 | cons w1 w2 =>
  cases w2
  cases w1 with
  | list ho hall=>exact ⟨_,_,ns,rfl,rfl,ho,G7 ns _ hall,hlen⟩
theorem Zhn (l:OpenLaw) (args:List WData):l.row.toRowW.claim.post args (.bool true) args=true :=
 postW_of (r:=l.row.toRowW) (X:=(true == true))
  (show WShape.has [] (.bool true) .bool=true by first | rfl | decide | simp [WShape.has,WShape.arms,WShape.armsAll])
  (show (WTm.eq .res (.lit (.bool true))).value [] { args:=args,res:=some (.bool true),after:=args }=some (.bool (true == true)) from w_eq_bool (w_res rfl) w_lit) rfl
theorem attach_call {l:OpenLaw} {n:Nat} {q:Program} {loose:List Str} {XP:(Str->Option Value)->Heap->Prop} {YP:World->Heap->Prop} {d:DefRec}
  (hn:l.most=some n) (hdf:d.params.defaults=[])
  (call:∀ (w:World) (s₀ s₁:Shared) (mg mb:Str->Option Value) (fa:Addr) (o:Obj) (pm cd doc:Value) (a:Addr) (vs:List Value) (ns:List Int),
   Ground q loose [] XP w s₀ mg mb s₁.heap->YP w s₁.heap ->
   s₁.heap.get? fa=some o->o.data=.func (docDef d.name d.params d.body d.scope pm cd doc)->s₁.heap.CodeRec cd d.name->mg d.name=some (.ref fa) ->
   s₁.heap.get? a=some { cls:=.type "list",data:=.seq vs.toArray }->IntsAre vs ns->ns.length<=n->s₁.gens=#[] ->
   codeAny (model l.prog w) callerA (.call (.ref fa) ⟨[.ref a],[]⟩) (λr s'=>r=.ok (.ret (.bool true))/\OldK s₁.heap s'.heap/\s'.os=s₁.os/\AllBare s'.gens) s₁) :
  WalkO q loose XP YP l.row.toRowW d [] (λf vs=>PySem.call f vs):=by
 intro w s₀ s₁ mg mb G Y fa o pm cd doc dV kV ho hd hcd hD hmg hg args vals as hpre hlay hrd hwl hlo
 obtain rfl:dV=.none:=Dflts.none hD hdf
 obtain rfl:kV=.none:=Dflts.noKw hD
 obtain ⟨a,vs,ns,rfl,rfl,hobj,hints,hlen⟩:=Zhd hn hpre hwl
 refine enter_call (codeAny_mono (call w s₀ s₁ mg mb fa o pm cd doc a vs ns G Y ho (fd_plain hd) hcd hmg hobj hints hlen hg) λr s' hq=>?_)
 obtain ⟨rfl,h2,h3,h4⟩:=hq
 exact ⟨.inl ⟨.bool true,.bool true,[],rfl,λ_=>rfl,.bool true,Zhn l _,λ_=>⟨List.Pairwise.nil,λ_ hm=>(nomatch hm)⟩⟩,h2,h3,h4⟩
end Att
namespace L2
open PySem PySem.Spec PyProof.Rows
theorem F4:∀ {vs:List Value} {ns:List Int},IntsAre vs ns->Vals (ns.map V.int) vs
 | _,_,.nil=>.nil
 | _,_,.cons n t h=>.cons ⟨t,rfl⟩ (F4 h)
noncomputable def Only (H:Hp):Prop:=∀ b,H b=none\/∃ o xs,H b=some (.frz o (.lst xs))
theorem Zkn {P:Program} {w:World} {K:PySem.W.Frag} {mg mb:Str->Option Value} {CX:CXT} {k:Nat} {fa a:Addr} {fd:FuncData} {x:Str} {sp:Sp} {s₁:Shared} {vs:List Value} {ns:List Int}
  (KX:K.In s₁.heap) (hns:s₁.heap.Ns mainGlobals mg) (hb:s₁.heap.Ns builtinsNs mb) (hbb:∀ x:Str,x≠"__name__"->mb x=bootBuiltins x) (hlim:s₁.heap.NoLimit) (hg:s₁.gens=#[])
  (ha:s₁.heap.get? a=some { cls:=.type "list",data:=.seq vs.toArray }) (hi:IntsAre vs ns) (hl:ns.length<=sizeLine) (hr:Room k callerA)
  (F:∀ base:Heap,K.In base->base.Ns mainGlobals mg->FnOk P w K mg base CX k fa fd [x] sp) (hbind:∀ (s:Shared) (u:Value),BindsTo s fd ⟨[u],[]⟩ [(x,u)])
  (hsp:∀ H:Hp,Only H->SqL K H a (ns.map V.int)->sp [.ref a] H (λv _=>v=.bl true) λ_ _ _=>False)
  (hCX:∀ H e s',CX [] H s₁ (λ_ _ _=>False) e s'->False) :
  codeAny (model P w) callerA (.call (.ref fa) ⟨[.ref a],[]⟩) (λr s'=>r=.ok (.ret (.bool true))/\OldK s₁.heap s'.heap/\s'.os=s₁.os/\AllBare s'.gens) s₁:=by
 have rv:=F4 hi
 have lenV:=hi.length
 have core:∀ H:Hp,Only H->SqL K H a (ns.map V.int)->HOk P w H s₁.heap->(∀ b,H b≠none->b=a)->(H a≠none->K.lookup a=none) ->
   codeAny (model P w) callerA (.call (.ref fa) ⟨[.ref a],[]⟩) (λr s'=>r=.ok (.ret (.bool true))/\OldK s₁.heap s'.heap/\s'.os=s₁.os/\AllBare s'.gens) s₁:=by
  intro H hO hS hok hA hK
  have base_of:∀ {b:Addr} {o:Obj},s₁.heap.get? b=some o->H b=none->(hidT s₁.heap H).get? b=some o:=λe n=>Zkr e n
  have noA:∀ {b:Addr} {o:Obj} {es:Array DictEntry} {ep:Nat},s₁.heap.get? b=some o->o.data=.dict es ep->H b=none:=λ{b o es ep} e d=>by
   cases q:H b with
   | none=>rfl
   | some u =>
    have e':b=a:=hA b (by rw [q]; simp)
    subst e'
    rw [ha] at e; cases e
    have d':Data.seq vs.toArray _=Data.dict es ep:=d
    cases d'
  have nsK:∀ {b:Addr} {m:Str->Option Value},s₁.heap.Ns b m->(hidT s₁.heap H).Ns b m:=λ{b m} ⟨o,es,ep,e,d,r⟩=>⟨o,es,ep,base_of e (noA e d),d,r⟩
  have hKb:K.In (hidT s₁.heap H):=λb o e=>base_of (KX b o e) (by
   cases q:H b with
   | none=>rfl
   | some u =>
    have e':b=a:=hA b (by rw [q]; simp)
    subst e'
    rw [hK (by rw [q]; simp)] at e; cases e)
  have hM:Mod K mg (hidT s₁.heap H):=⟨hKb,nsK hns,⟨mb,nsK hb,hbb⟩,let ⟨mc,h1,h2⟩:=hlim; ⟨mc,nsK h1,h2⟩⟩
  have e0:Env0 P w K mg (hidT s₁.heap H) callerA [] s₁ H:=⟨rfl,hM,λb o e=>Zmp e,Nat.le_of_eq (Ziw _ _),trivial,λb hb=>absurd (show b∈([]:List Addr) from hb) (by simp),hok,.of_eq hg⟩
  refine codeAny_mono ((F _ hKb (nsK hns)).run callerA [] s₁ H ⟨[.ref a],[]⟩ [.ref a] [.ref a] _ _ hr e0 (hbind s₁ (.ref a)) (.cons rfl .nil) (hsp H hO hS)) λr s' h=>?_
  cases r with
  | error e=>exact (hCX H e s' h).elim
  | ok fl =>
   cases fl with
   | next=>exact False.elim h
   | brk=>exact False.elim h
   | cont=>exact False.elim h
   | ret u =>
    obtain ⟨v,H',os,bare,un,hok',r',q⟩:=h
    have q':v=.bl true:=q
    subst q'
    obtain rfl:u=Value.bool true:=r'
    refine ⟨rfl,OldK.of_keep λb o e=>?_,os,bare⟩
    cases q:H b with
    | none=>exact un.keep b o e q (by intro z; exact absurd (show b∈([]:List Addr) from z) (by simp)) (by simp)
    | some u =>
     rcases hO b with z | ⟨ob,xs,z⟩
     ·rw [q] at z; cases z
     ·have z2:=un.frzs b ob _ z
      obtain ⟨e1,_⟩:=hok b _ z
      obtain ⟨e2,_⟩:=hok' b _ z2
      rw [e] at e1; cases e1
      exact e2
 cases hk:K.lookup a with
 | some o =>
  have e:=KX a o hk
  rw [ha] at e
  cases e
  refine core (λ_=>none) (λ_=>.inl rfl) (.inr ⟨_,vs.toArray,_,hk,rfl,rfl,rfl,by rw [List.size_toArray,lenV]; exact hl,by simpa using rv⟩) (λb u z=>by have z':(none:Option HO)=some u:=z; cases z') (λb z=>absurd rfl z) λz=>absurd rfl z
 | none =>
  refine core (λb=>if b=a then some (.frz { cls:=.type "list",data:=.seq vs.toArray } (.lst (ns.map V.int))) else none) (λb=>?_) (.inl (.inr ⟨{ cls:=.type "list",data:=.seq vs.toArray },if_pos rfl⟩)) (λb u z=>?_) (λb z=>?_) λ_=>hk
  ·by_cases hb:b=a
   ·exact .inr ⟨_,_,if_pos hb⟩
   ·exact .inl (if_neg hb)
  ·by_cases hb:b=a
   ·have z':=(if_pos hb).symm.trans z
    cases z'
    subst hb
    exact ⟨ha,by rw [List.length_map]; exact hl,vs,_,rv,ha⟩
   ·have z':=(if_neg hb).symm.trans z
    cases z'
  ·by_cases hb:b=a
   ·exact hb
   ·exact absurd (if_neg hb) z
noncomputable abbrev KOf {K:PySem.W.Frag} {h:Heap} (_:K.In h):PySem.W.Frag:=K
theorem Zlk {l:PySem.W.OpenLaw} {n k:Nat} {q:Program} {loose:List Str} {XP:(Str->Option Value)->Heap->Prop} {YP:World->Heap->Prop} {d:DefRec} {K:Params->PySem.W.Frag} {CX:World->CXT} {sp:World->Sp} {x:Str}
  (hn:l.most=some n) (hn2:n<=sizeLine) (hdf:d.params.defaults=[]) (hr:Room k callerA)
  (hY:∀ (w:World) (h:Heap),YP w h->(K w.params).In h)
  (F:∀ (w:World) (mg:Str->Option Value) (fa:Addr) (h:Heap),(K w.params).In h->h.Ns mainGlobals mg->mg d.name=some (.ref fa) ->
   ∃ fd:FuncData,(∀ (s:Shared) (u:Value),BindsTo s fd ⟨[u],[]⟩ [(x,u)]) /\
    ∀ base:Heap,(K w.params).In base->base.Ns mainGlobals mg->FnOk l.prog w (K w.params) mg base (CX w) k fa fd [x] (sp w))
  (hsp:∀ (w:World) (H:Hp) (a:Addr) (ns:List Int),ns.length<=n->Only H->SqL (K w.params) H a (ns.map V.int)->sp w [.ref a] H (λv _=>v=.bl true) λ_ _ _=>False)
  (hCX:∀ (w:World) (H:Hp) (s:Shared) (e:Value) (s':Shared),CX w [] H s (λ_ _ _=>False) e s'->False) :
  PySem.W.WalkO q loose XP YP l.row.toRowW d [] (λf vs=>PySem.call f vs):=by
 refine Att.attach_call hn hdf λw s₀ s₁ mg mb fa o pm cd doc a vs ns G Y ho hd hcd hmg hobj hints hlen hg=>?_
 have KX:=hY w _ Y
 obtain ⟨fd,hb,hF⟩:=F w mg fa _ KX G.T.g hmg
 exact Zkn KX G.T.g G.T.b G.T.builtins G.T.nolimit hg hobj hints (Nat.le_trans hlen hn2) hr hF hb (λH hO hS=>hsp w H a ns hlen hO hS) λH e s'=>hCX w H s₁ e s'
noncomputable def Y8 (s:Stmt) (j:Nat):Stmt:=match s with
 | .ClassDef _ _ _ body _ _ _ _ _ _ _=>body.getD j (.Pass ⟨0,0,0,0⟩)
 | _=>.Pass ⟨0,0,0,0⟩
noncomputable def Y9 (s:Stmt):Arguments:=match s with
 | .FunctionDef _ a _ _ _ _ _ _ _ _=>a
 | _=>{ posonlyargs:=[],args:=[],vararg:=none,kwonlyargs:=[],kw_defaults:=[],kwarg:=none,defaults:=[] }
noncomputable def Y0 (s:Stmt):List Stmt:=match s with
 | .FunctionDef _ _ b _ _ _ _ _ _ _=>b
 | _=>[]
noncomputable def Zg (s:Stmt):Scope:=match s with
 | .FunctionDef _ _ _ _ _ _ sc _ _ _=>sc
 | _=>{ kind:=.function,names:=[],isGenerator:=false,isCoroutine:=false }
noncomputable abbrev E0:XK:=λ_ _ _=>False
structure Fun (K:PySem.W.Frag) (x qual:Str) (st:Stmt) (f:Addr) (fd:FuncData):Prop where
 ex:∃ (oc:Value) (od:Option Addr) (kV doc pm:Value) (an:Option Addr) (cdv ct:Value) (osl:Array (Option Value)),
  fd=PySem.W.fnOf x qual (Y9 st) (Y0 st) (Zg st) .none kV doc pm an cdv ct/\K.lookup f=some ⟨oc,od,.func fd,osl⟩/\PySem.W.codeIn K cdv qual=true
 kp:PySem.W.keepIn K (.ref f)=true
section
variable {P:Program} {w:World} {K:PySem.W.Frag} {mg:Str->Option Value} {base:Heap}
theorem Fun.binds {x qual:Str} {st:Stmt} {f:Addr} {fd:FuncData} {ps:List Str} (F:Fun K x qual st f fd)
  (h:∀ (kV doc pm:Value) (an:Option Addr) (cdv ct:Value) (us:List Value),us.length=ps.length->bindArgs (PySem.W.fnOf x qual (Y9 st) (Y0 st) (Zg st) .none kV doc pm an cdv ct) ⟨us,[]⟩=pure (ps.zip us)):Wa K fd ps []:=by
 obtain ⟨oc,od,kV,doc,pm,an,cdv,ct,osl,rfl,lk,hcd⟩:=F.ex
 exact .all (h kV doc pm an cdv ct)
theorem G8 {x qual:Str} {st:Stmt} {f:Addr} {oc:Value} {od an:Option Addr} {osl:Array (Option Value)} {kV doc pm cdv ct:Value} (l:K.lookup f=some ⟨oc,od,.func (PySem.W.fnOf x qual (Y9 st) (Y0 st) (Zg st) .none kV doc pm an cdv ct),osl⟩)
  (c:PySem.W.codeIn K cdv qual=true) (k:PySem.W.keepIn K (.ref f)=true):Fun K x qual st f (PySem.W.fnOf x qual (Y9 st) (Y0 st) (Zg st) .none kV doc pm an cdv ct):=⟨⟨oc,od,kV,doc,pm,an,cdv,ct,osl,rfl,l,c⟩,k⟩
end
theorem Wp {A:Around} {k:Nat} (hr:Room k A):A.units + 1 < cLine:=Nat.lt_of_le_of_lt (Nat.add_le_add_left (by decide:1<=64) _) hr.units
theorem Zx {n:Nat} (h:n<=1000):n < sizeLine:=Nat.lt_of_le_of_lt h (by decide)
section
variable {X:Cx}
theorem pv (i:Nat) {x:Str} {pos:Pos} (hN:X.N[i]?=some x:=by rfl) (hv:Vis X.env.scope x:=by first | exact Or.inl rfl | exact Or.inr (Or.inl rfl) | exact Or.inr (Or.inr rfl)) (hd:(x == ("__debug__":Str))=false:=by decide)
  (hcd:(x == ("__classdict__":Str))=false:=by decide):PE X (.Name x pos) (tVar i):=Zn7 hN hv hd hcd
end
theorem iteF {A B:Prop} (h:B):if false=true then A else B:=by
 rw [if_neg Bool.false_ne_true]
 exact h
theorem iteT {A B:Prop} (h:A):if true=true then A else B:=by
 rw [if_pos rfl]
 exact h
theorem ite2 {c A B:Prop} [Decidable c] (h1:c->A) (h2:¬ c->B):if c then A else B:=by
 by_cases h:c
 ·rw [if_pos h]
  exact h1 h
 ·rw [if_neg h]
  exact h2 h
noncomputable def Same (H H':Hp):Prop:=∀ b o,H b=some o->H' b=some o
theorem Same.refl (H:Hp):Same H H:=λ_ _ h=>h
theorem Same.trans {H H1 H2:Hp} (a:Same H H1) (b:Same H1 H2):Same H H2:=λc o h=>b c o (a c o h)
theorem Same.free {H H':Hp} (e:Same H H') {l:Addr} (h:H' l=Option.none):H l=Option.none:=by
 cases q:H l with
 | none=>rfl
 | some o =>
  rw [e l o q] at h
  cases h
theorem Same.seq {K:PySem.W.Frag} {H H':Hp} {a:Addr} {xs:List V} (e:Same H H') (h:SqL K H a xs):SqL K H' a xs:=by
 rcases h with (h | ⟨o,h⟩) | h
 ·exact .inl (.inl (e _ _ h))
 ·exact .inl (.inr ⟨o,e _ _ h⟩)
 ·exact .inr h
noncomputable def Yx (env:Env):List (Str × NameKind)->List (Str × Addr)->List (Str × Addr)
 | [],acc=>acc
 | (n,k) :: r,acc=>if (k == NameKind.free)=true then (match env.cells.lookup n with
  | some c=>Yx env r ((n,c) :: acc)
  | none=>Yx env r acc) else Yx env r acc
theorem Wq {env:Env}:∀ (ns:List (Str × NameKind)) (acc:List (Str × Addr)),(∀ x c,acc.lookup x=some c->env.cells.lookup x=some c) ->
  ∀ x c,(Yx env ns acc).lookup x=some c->env.cells.lookup x=some c
 | [],acc,h=>h
 | (n,k) :: r,acc,h=>by
  unfold Yx
  split
  ·cases e:env.cells.lookup n with
   | none=>exact Wq r acc h
   | some c =>
    refine Wq r _ λx d hx=>?_
    rw [List.lookup_cons] at hx
    cases hb:x == n with
    | true =>
     rw [hb] at hx
     cases hx
     rw [beq_iff_eq.mp hb]
     exact e
    | false =>
     rw [hb] at hx
     exact h x d hx
  ·exact Wq r acc h
theorem Wr {env:Env}:∀ (ns:List (Str × NameKind)) (acc:List (Str × Addr)) (x:Str),(∃ c,acc.lookup x=some c)->∃ c,(Yx env ns acc).lookup x=some c
 | [],acc,x,h=>h
 | (n,k) :: r,acc,x,h=>by
  unfold Yx
  split
  ·cases e:env.cells.lookup n with
   | none=>exact Wr r acc x h
   | some c =>
    refine Wr r _ x ?_
    rw [List.lookup_cons]
    cases hb:x == n with
    | true=>exact ⟨c,rfl⟩
    | false=>exact h
  ·exact Wr r acc x h
theorem Jt {env:Env}:∀ (ns:List (Str × NameKind)) (acc:List (Str × Addr)) (x:Str),(x,NameKind.free)∈ns->(∃ c,env.cells.lookup x=some c)->∃ c,(Yx env ns acc).lookup x=some c
 | [],acc,x,h,_=>by cases h
 | (n,k) :: r,acc,x,h,hc=>by
  rcases List.mem_cons.mp h with e | h
  ·cases e
   obtain ⟨c,hc⟩:=hc
   unfold Yx
   rw [if_pos (show (NameKind.free == NameKind.free)=true by decide),hc]
   exact Wr r _ n ⟨c,by rw [List.lookup_cons,beq_self_eq_true]⟩
  ·unfold Yx
   split
   ·cases e:env.cells.lookup n with
    | none=>exact Jt r acc x h hc
    | some c=>exact Jt r _ x h hc
   ·exact Jt r acc x h hc
theorem Uc {env:Env} (f:Str × NameKind->List (Str × Addr)->Sem (ForInStep (List (Str × Addr))))
  (hf:∀ name kind cs,f (name,kind) cs=if (kind == NameKind.free)=true then (do let a <- cellOf env name; pure (.yield ((name,a) :: cs))) else pure (.yield cs)) :
  ∀ (ns:List (Str × NameKind)) (acc:List (Str × Addr)),(∀ y∈ns,y.2=.free->∃ c,env.cells.lookup y.1=some c)->forIn ns acc f=pure (Yx env ns acc)
 | [],acc,_=>by rw [List.forIn_nil]; rfl
 | (n,k) :: r,acc,h=>by
  rw [List.forIn_cons,hf]
  unfold Yx
  have hr:∀ y∈r,y.2=.free->∃ c,env.cells.lookup y.1=some c:=λy hy=>h y (List.mem_cons_of_mem _ hy)
  split
  ·rename_i hk
   obtain ⟨c,hc⟩:=h (n,k) List.mem_cons_self (by simpa using hk)
   have hc':env.cells.lookup n=some c:=hc
   have e:cellOf env n=pure c:=by unfold cellOf; rw [hc']
   rw [e,hc']
   exact Uc f hf r ((n,c) :: acc) hr
  ·exact Uc f hf r acc hr
theorem Js {env:Env} {scope:Scope} (h:∀ y∈scope.names,y.2=.free->∃ c,env.cells.lookup y.1=some c):closureFor scope env=pure (Yx env scope.names []):=by
 unfold closureFor
 dsimp only
 rw [Uc (env:=env) _ (λname kind cs=>by split <;> rfl) scope.names [] h]
 rfl
theorem Jc (env:Env):∀ (names:List (Str × NameKind)) (x:Str),
  (names.map λ(n,k)=>if (k == NameKind.free && env.scope.kind == .function && env.kindOf n == some .cell) then (n,NameKind.cell) else (n,k)).lookup x =
   (names.lookup x).map λk=>if (k == NameKind.free && env.scope.kind == .function && env.kindOf x == some .cell)=true then NameKind.cell else k
 | [],_=>rfl
 | (n,k) :: r,x=>by
  have ih:=Jc env r x
  have e:(if (k == NameKind.free && env.scope.kind == .function && env.kindOf n == some .cell)=true then (n,NameKind.cell) else (n,k))=(n,if (k == NameKind.free && env.scope.kind == .function && env.kindOf n == some .cell)=true then NameKind.cell else k):=by split <;> rfl
  show List.lookup x ((if (k == NameKind.free && env.scope.kind == .function && env.kindOf n == some .cell)=true then (n,NameKind.cell) else (n,k)) :: _)=_
  rw [e,List.lookup_cons,List.lookup_cons]
  cases hx:x == n with
  | true =>
   have e2:x=n:=beq_iff_eq.mp hx
   subst e2
   rfl
  | false=>exact ih
theorem U7 {env:Env} {names:List (Str × NameKind)} {x:Str} {k:NameKind} (hc:∀ y∈names,y.2≠.cell)
  (h:(names.map λ(n,k)=>if (k == NameKind.free && env.scope.kind == .function && env.kindOf n == some .cell) then (n,NameKind.cell) else (n,k)).lookup x=some k) (hk:k=.cell\/k=.free):names.lookup x=some .free:=by
 rw [Jc] at h
 cases e:names.lookup x with
 | none=>rw [e] at h; cases h
 | some k' =>
  rw [e] at h
  have hk':k'≠.cell:=hc _ (PySem.mem_of_lookup e)
  have h':(if (k' == NameKind.free && env.scope.kind == .function && env.kindOf x == some .cell)=true then NameKind.cell else k')=k:=Option.some.inj h
  split at h'
  ·rename_i q
   simp only [Bool.and_eq_true,beq_iff_eq] at q
   rw [q.1.1]
  ·subst h'
   rcases hk with z | z
   ·exact absurd z hk'
   ·rw [z]
theorem Gw {env:Env} {names:List (Str × NameKind)} {x:Str} (h:names.lookup x=some .free) :
  (names.map λ(n,k)=>if (k == NameKind.free && env.scope.kind == .function && env.kindOf n == some .cell) then (n,NameKind.cell) else (n,k)).lookup x≠some .local:=by
 rw [Jc,h]
 intro z
 have z':(if (NameKind.free == NameKind.free && env.scope.kind == .function && env.kindOf x == some .cell)=true then NameKind.cell else NameKind.free)=.local:=Option.some.inj z
 split at z' <;> cases z'
noncomputable def Yi (X:Cx) (N':List Str) (scope:Scope) (C:Addr) (s₀:Shared) (H₀:Hp) (ex:List Addr):Cx :=
 { X with N:=N',s₀:=s₀,H₀:=H₀,env:=compEnvC scope (Yx X.env scope.names []) C X.env,outer:=X.stack,ex:=ex,fn:=λ_=>false,pn:=[],xe:=λ_ _=>False }
noncomputable def FvOk (X:Cx) (scope:Scope):List (Str × Nat)->Prop
 | []=>True
 | (x,j) :: r=>(X.N[j]?=some x/\scope.names.lookup x=some .free/\(X.env.kindOf x=some .cell\/X.env.kindOf x=some .free))/\FvOk X scope r
theorem FvOk.mem {X:Cx} {scope:Scope}:∀ {l:List (Str × Nat)},FvOk X scope l->∀ y∈l,X.N[y.2]?=some y.1/\scope.names.lookup y.1=some .free/\(X.env.kindOf y.1=some .cell\/X.env.kindOf y.1=some .free)
 | [],_,_,h=>by cases h
 | (x,j) :: r,h,y,hy=>by
  rcases List.mem_cons.mp hy with e | hy
  ·cases e; exact h.1
  ·exact FvOk.mem h.2 y hy
noncomputable def blkN (ts:List Str) (fv:List (Str × Nat)):List Str:=ts ++ fv.map (·.1)
noncomputable def blkS (ts:List Str) (fv:List (Str × Nat)) (σ:St):St:=ts.map (λ_=>none) ++ fv.map λy=>(σ[y.2]?).join
structure BlkOk (X:Cx) (scope:Scope) (fv:List (Str × Nat)):Prop where
 kind:scope.kind=.function
 nocell:∀ y∈scope.names,y.2≠.cell
 names:∀ y∈scope.names,y.2=.local->scope.names.lookup y.1=some .local
 free:∀ y∈scope.names,y.2=.free->X.env.kindOf y.1=some .cell\/X.env.kindOf y.1=some .free
 fvs:FvOk X scope fv
section
variable {X:Cx} {pins:List (Addr × Obj)} {σ:St} {H:Hp} {s:Shared} {scope:Scope} {ts:List Str} {fv:List (Str × Nat)}
theorem Zaw {h':Heap} {fp:List Addr} {tk:Nat} (B:BlkOk X scope fv) (I:Inv X pins σ H s) (hf:∀ b∈fp,FpOk X pins H b) (ho:∀ b∈fp,∃ o,s.heap.get? b=some o)
  (hn:h'.Ns s.heap.objs.size (λ_=>none)) (hk:∀ b o,s.heap.get? b=some o->h'.get? b=some o) :
  Inv (Yi X (blkN ts fv) scope s.heap.objs.size s H fp) [] (blkS ts fv σ) H { s with heap:=h',toks:=tk }:=by
 have has:∀ y∈scope.names,y.2=.free->∃ c,X.env.cells.lookup y.1=some c:=λy hy e=>I.ok.has y.1 (B.free y hy e)
 have snd:∀ x c,(Yx X.env scope.names []).lookup x=some c->X.env.cells.lookup x=some c:=Wq _ _ (λx c h=>by simp at h)
 have fr:∀ x,(scope.names.lookup x=some .free)->∃ c,(Yx X.env scope.names []).lookup x=some c:=λx hx =>
  Jt _ _ x (PySem.mem_of_lookup hx) (has _ (PySem.mem_of_lookup hx) rfl)
 have nfs:∀ b∈fp,b ∉ frs X.stack:=λb hb z=>by
  obtain ⟨_,h1,h2,_⟩:=hf b hb
  rcases List.mem_cons.mp (I.stkSub b z) with e | e
  ·exact h1 e
  ·exact h2 e
 have lt:∀ b∈fp,b < s.heap.objs.size:=λb hb=>let ⟨o,e⟩:=ho b hb; Heap.lt_size e
 refine ⟨⟨I.ok.mod,?_,I.ok.glob,I.ok.blt,Nat.le_refl _,λx y c h1 h2=>I.ok.inj x y c (snd x c h1) (snd y c h2),λx hx=>?_,λ_ _ h=>absurd (show false=true from h) Bool.false_ne_true,I.ok.hd,I.ok.frames,.inl rfl,λb hb=>⟨Nat.ne_of_lt (lt b hb),λx c e=>(hf b hb).2.2.2.2.1 x c (snd x c e)⟩,I.bs,Nat.le_trans I.ok.bsz I.sz,λb o e hb=>?_,nfs,I.stack,I.stkFree⟩,
  rfl,I.bare,Un.kept hk,⟨_,hn,λi x v h1 h2 h3=>?_⟩,λx c e=>?_,I.fresh,λx c e=>I.freeC x c (snd x c e),λp hp=>?_,I.hok.kept hk,?_⟩
 ·exact B.kind
 ·refine fr x ?_
  have hx':(relabel scope X.env).names.lookup x=some .cell\/(relabel scope X.env).names.lookup x=some .free:=hx
  rcases hx' with e | e
  ·exact U7 B.nocell e (.inl rfl)
  ·exact U7 B.nocell e (.inr rfl)
 ·rcases (hf b hb).2.2.2.1 with z | z
  ·exact I.ok.noex b o e z
  ·exact absurd (Nat.lt_of_lt_of_le (Heap.lt_size e) (Nat.le_trans I.ok.bsz z)) (Nat.lt_irrefl _)
 ·have h1:(ts ++ fv.map (·.1))[i]?=some x:=h1
  have h2:(ts.map (λ_=>(none:Option V)) ++ fv.map λy=>(σ[y.2]?).join)[i]?=some (some v):=h2
  by_cases hi:i < ts.length
  ·rw [List.getElem?_append_left (by simpa using hi),List.getElem?_map] at h2
   cases e:ts[i]? with
   | none=>rw [e] at h2; cases h2
   | some z=>rw [e] at h2; cases h2
  ·rw [List.getElem?_append_right (by simpa using hi),List.length_map,List.getElem?_map] at h2
   rw [List.getElem?_append_right (by simpa using hi),List.getElem?_map] at h1
   cases e:fv[i - ts.length]? with
   | none=>rw [e] at h2; cases h2
   | some y =>
    rw [e] at h1 h2
    have e1:y.1=x:=by simpa using h1
    have e2:(σ[y.2]?).join=some v:=by simpa using h2
    obtain ⟨f1,f2,f3⟩:=B.fvs.mem y (List.mem_of_getElem? e)
    have e3:σ[y.2]?=some (some v):=by
     cases q:σ[y.2]? with
     | none=>rw [q] at e2; cases e2
     | some z=>rw [q] at e2; exact congrArg some e2
    obtain ⟨m,hm,hl⟩:=I.loc
    obtain ⟨u,r,l⟩:=hl y.2 y.1 v f1 e3 (by rcases f3 with z | z; exact .inr (.inl z); exact .inr (.inr z))
    rw [e1] at f2 f3 l
    refine ⟨u,r,?_⟩
    obtain ⟨c,hc⟩:=fr x f2
    have hc':=snd x c hc
    rcases l with ⟨l1,_⟩ | ⟨_,c2,l2,l3⟩
    ·rcases f3 with z | z
     ·rw [l1] at z; cases z
     ·rw [l1] at z; cases z
    ·rw [hc'] at l2
     cases l2
     have hv:Vis (relabel scope X.env) x:=h3
     rcases hv with z | z | z
     ·exfalso
      exact Gw f2 z
     ·exact .inr ⟨.inl z,c,hc,l3.keeps hk⟩
     ·exact .inr ⟨.inr z,c,hc,l3.keeps hk⟩
 ·obtain ⟨v,z⟩:=I.cell x c (snd x c e)
  exact ⟨v,z.keeps hk⟩
 ·exact absurd (show p∈([]:List (Addr × Obj)) from hp) (by simp)
 ·show (ts.map (λ_=>(none:Option V)) ++ fv.map λy=>(σ[y.2]?).join).length=(ts ++ fv.map (·.1)).length
  simp
theorem Inv.apart {C:Addr} {h':Heap} (I:Inv X pins σ H s) (hs:Heap.SameBut C s.heap h') (hC:H C=none) (h0:X.s₀.heap.objs.size<=C) (hL:C≠X.env.locals) (hc:∀ x c,X.env.cells.lookup x=some c->c≠C) (hp:∀ p∈X.pn ++ pins,p.1≠C) :
  Inv X pins σ H { s with heap:=h' } :=
 I.turned (t':=s.toks) (it:=C) (λb o hb e=>(hs.2 b hb).trans e) hC hL (.inr h0) hc hp
theorem Zfo {s':Shared} {H':Hp} {σ':St} {C:Addr} {N':List Str} {fp:List Addr} (I:Inv X pins σ H s) (hf:∀ b∈fp,FpOk X pins H b) (hC:s.heap.objs.size<=C)
  (J:Inv (Yi X N' scope C s H fp) [] σ' H' s'):Inv X pins σ H' s'/\H' C=none/\X.s₀.heap.objs.size<=C/\C≠X.env.locals/\(∀ x c,X.env.cells.lookup x=some c->c≠C)/\(∀ p∈X.pn ++ pins,p.1≠C):=by
 refine ⟨I.call' J.os J.base J.hok J.bare λb hb=>?_,J.free,Nat.le_trans I.sz hC,Nat.ne_of_gt (Nat.lt_of_lt_of_le I.lt hC),λx c e z=>?_,λp hp z=>?_⟩
 ·obtain ⟨_,h1,_,h3,h4,h5⟩:=hf b hb
  exact ⟨h3,h1,h4,h5⟩
 ·obtain ⟨v,q⟩:=I.cell x c e
  exact absurd (Nat.lt_of_lt_of_le q.lt (by rw [z]; exact hC)) (Nat.lt_irrefl _)
 ·exact absurd (Nat.lt_of_lt_of_le (Heap.lt_size (I.pin p hp).1) (by rw [z]; exact hC)) (Nat.lt_irrefl _)
end
noncomputable abbrev TB:=St->Hp->(St->Hp->Prop)->Prop
noncomputable def PTs (X:Cx) (ifs:List Expr) (t:TT):Prop :=
 ∀ (pins:List (Addr × Obj)) (s:Shared) (σ:St) (H:Hp) (Q:Bool->Hp->Prop),Inv X pins σ H s->t σ H Q ->
  wpAny (model X.prog X.w) X.A (forIn ifs true λc r=>if r=true then do let ok <- isTrue c X.env (eval c X.env); pure (ForInStep.yield ok) else pure (ForInStep.yield r)) (TP X pins σ Q) X.xe s
noncomputable def tYes:TT:=λ_ H Q=>Q true H
theorem Yu {X:Cx}:PTs X [] tYes:=λpins s σ H Q I h=>wpAny_tests_nil ⟨H,I,h⟩
theorem Jd {X:Cx} {c:Expr} {t:TT} (h:PT X c t):PTs X [c] t:=λpins s σ H Q I hq=>wpAny_tests_one (h pins s σ H Q I hq)
noncomputable def PB (X:Cx) (kont:Sem Fin) (c:Code) (t:TB):Prop :=
 ∀ (pins:List (Addr × Obj)) (s:Shared) (σ:St) (H:Hp) (N:St->Hp->Prop),Inv X pins σ H s->t σ H N ->
  wpAny (model X.prog X.w) X.A kont (λfin s'=>fin=.again c/\∃ σ' H',Inv X pins σ' H' s'/\N σ' H') X.xe s
noncomputable def Ws (J:It) (g:TG) (tt:TT) (tb:TB) (R:St->Hp->Prop) (σ:St) (H:Hp):Prop :=
 ∃ W:Nat->Nat->St->Hp->Prop,(∃ m,W 0 m σ H)/\∀ i m σ H,W i m σ H ->
  (J.stop i H/\R σ H)\/(J.go i H/\∃ N:St->Hp->Prop,(∀ σ' H',N σ' H'->∃ m',m' < m/\W (i + 1) m' σ' H') /\
   ∀ x H',J.yld i H x H'->g x σ H' λσ2 H2=>tt σ2 H2 λb H3=>if b=true then tb σ2 H3 N else N σ2 H3)
section
variable {X:Cx}
theorem Oi {e tg:Expr} {d:Nat} {acc:Value} {ifs:List Expr} {kont:Sem Fin} {J:It} {fp:List Addr} {it:Addr} {tn:Nat->Heap->Prop} {g:TG} {tt:TT} {tb:TB} {p:Pos} {pins:List (Addr × Obj)} {s:Shared} {σ:St} {H:Hp} {R:St->Hp->Prop}
  {RR:Result->Shared->Prop} (hxe:X.xe=λ_ _=>False)
  (hcq:Code.quiet (.compLoop e d (.ref it) acc X.env)=true) (hden:(model X.prog X.w).den (.compLoop e d (.ref it) acc X.env)=(compTurn e d (.ref it) acc X.env).onRaise (λx=>do noteFrame x X.env; theTreesLotGoes x))
  (hund:X.A.under (.compLoop e d (.ref it) acc X.env)=X.A)
  (heq:compTurn e d (.ref it) acc X.env=(standAt p >>= λ_=>pyNext (.ref it) >>= λr=>match r with
   | none=>pure (.done .next)
   | some v=>letOwnedTupleGo tg (.ref it) v >>= λ_=>assign tg X.env v >>= λ_ =>
    (forIn ifs true λc r=>if r=true then do let ok <- isTrue c X.env (eval c X.env); pure (ForInStep.yield ok) else pure (ForInStep.yield r)) >>= λok =>
     if ok=true then kont else again (.compLoop e d (.ref it) acc X.env)))
  (T:Turn X.prog X.w X.K tg J fp it tn) (hc:X.calm=true) (hg:PG X tg g) (ht:PTs X ifs tt) (hb:PB X kont (.compLoop e d (.ref it) acc X.env) tb)
  (hf:∀ b∈fp,FpOk X pins H b) (I:Inv X pins σ H s) (st:tn 0 s.heap) (h:Ws J g tt tb R σ H)
  (hR:∀ s' σ' H',Inv X pins σ' H' s'->R σ' H'->RR (.ok .next) s') :
  codeAny (model X.prog X.w) X.A (.compLoop e d (.ref it) acc X.env) RR s:=by
 obtain ⟨W,⟨m0,w0⟩,turn⟩:=h
 have stat:∀ {H':Hp},(∀ b∈fp,H' b=none)->∀ b∈fp,FpOk X pins H' b:=λhn b hb=>⟨hn b hb,(hf b hb).2⟩
 refine codeAny_loop hcq (λn s'=>∃ i σ' H',Inv X pins σ' H' s'/\tn i s'.heap/\(∀ b∈fp,H' b=none)/\W i n σ' H') ?_ m0 ⟨0,σ,H,I,st,λb hb=>(hf b hb).1,w0⟩
 rintro n s3 ⟨i,σ3,H3,I3,st3,fr3,w3⟩
 rw [hden,hund]
 refine wpAny_noted (wpAny_mono (E:=λ_ _=>False) ?_ (λ_ _ q=>q) λ_ _ z=>z.elim)
 rw [heq]
 have hxe':∀ {α:Type} {t:Sem α} {Q:α->Shared->Prop} {s:Shared},wpAny (model X.prog X.w) X.A t Q X.xe s->wpAny (model X.prog X.w) X.A t Q (λ_ _=>False) s:=λh=>by rw [hxe] at h; exact h
 refine wpAny_bind (wpAny_standAt (wpAny_bind ?_))
 rcases turn i n σ3 H3 w3 with ⟨stop,qn⟩ | ⟨go,N,hN,step⟩
 ·refine thn (T.done X rfl rfl rfl hc i pins s3 σ3 H3 _ I3 (stat fr3) st3 stop) λr s4 ⟨hr,I4⟩=>?_
  subst hr
  exact wpAny_pure (hR s4 σ3 H3 I4 qn)
 ·refine thn (T.item X rfl rfl rfl hc i pins s3 σ3 H3 _ I3 (stat fr3) st3 go) λr s4 ⟨u,hr,h4⟩=>?_
  subst hr
  refine wpAny_bind (thn h4 λ_ s5 zz9=>?_)
  obtain ⟨x,H5,I5,r5,y5,st5,fr5⟩:=zz9
  have I5':=I5.pinned (stat fr5) (T.obj _ _ st5)
  refine wpAny_bind (hxe' (thn (hg _ s5 σ3 H5 x u _ I5' r5 (step x H5 y5)) λ_ s6 zz9=>?_))
  obtain ⟨σ6,H6,I6,q6⟩:=zz9
  refine wpAny_bind (hxe ▸ thn (ht _ s6 σ6 H6 _ I6 q6) λok s7 zz9=>?_)
  obtain ⟨H7,I7,q7⟩:=zz9
  have back:∀ {σ7:St} {H7:Hp} {s7:Shared},Inv X (pins ++ Oa fp s5.heap) σ7 H7 s7->N σ7 H7->∃ m,m < n/\∃ i σ' H',Inv X pins σ' H' s7/\tn i s7.heap/\(∀ b∈fp,H' b=none)/\W i m σ' H':=λ{σ7 H7 s7} I7 n7=>by
   obtain ⟨m',hm,w7⟩:=hN σ7 H7 n7
   refine ⟨m',hm,i + 1,σ7,H7,I7.unpinned,T.keep _ _ _ st5 λb hb o e=>(I7.pin (b,o) (List.mem_append_right _ (List.mem_append_right _ (Qf hb e)))).1,λb hb=>?_,w7⟩
   obtain ⟨o,e,d⟩:=T.obj _ _ st5 b hb
   exact (I7.pin (b,o) (List.mem_append_right _ (List.mem_append_right _ (Qf hb e)))).2.1
  cases ok with
  | false=>exact hxe ▸ wpAny_pure ⟨rfl,back I7 q7⟩
  | true =>
   refine thn (hb _ s7 σ6 H7 N I7 q7) λfin s8 zz9=>?_
   obtain ⟨hfin,σ8,H8,I8,q8⟩:=zz9
   subst hfin
   exact ⟨rfl,back I8 q8⟩
end
noncomputable def Zk8 (te:TE) (D:Addr):TB:=λσ H N=>te σ H λv H1=>∃ xs,H1 D=some (.lst xs)/\xs.length < sizeLine/\N σ (upd H1 D (.lst (xs ++ [v])))
section
variable {X:Cx}
theorem Ys {elt:Expr} {te:TE} {D:Addr} {c:Code} (he:PE X elt te) :
  PB X ((eval elt X.env >>= λx=>call (.builtin "list.append") [.ref D,x] >>= λ_=>pure ()) >>= λ_=>again c) c (Zk8 te D):=by
 intro pins s σ H N I h
 refine wpAny_bind (wpAny_bind (thn (he pins s σ H _ I h) λu s1 zz9=>?_))
 obtain ⟨v,H1,I1,r1,q1⟩:=zz9
 obtain ⟨xs,hD,hl,q⟩:=q1
 refine wpAny_bind (thn (Xl pins s1 σ H1 (.ref D) [v] (.ref D) [u] (λ_ H2=>N σ H2) I1 rfl (.cons r1 .nil) ⟨D,xs,v,rfl,rfl,hD,hl,q⟩) λ_ s2 zz9=>?_)
 obtain ⟨_,H2,I2,_,q2⟩:=zz9
 exact wpAny_pure (wpAny_pure ⟨rfl,σ,H2,I2,q2⟩)
noncomputable def tGen (wi:TI) (g:TG) (tt:TT) (tb:TB):TB:=λσ H N=>wi σ H λJ H1=>Ws J g tt tb N σ H1
theorem Zgo {prog:Program} {w:World} {A:Around} {R:Result->Shared->Prop} {s:Shared} {elt:Expr} {t0 i0:Expr} {f0:List Expr} {t1 i1:Expr} {f1:List Expr} {scope:Scope} {pos:Pos} {it acc:Value} {env:Env}
  (h0:codeAny (model prog w) A (.compLoop (.ListComp elt [⟨t0,i0,f0,0⟩,⟨t1,i1,f1,0⟩] scope pos) 1 it acc env) R s)
  (h:wpAny (model prog w) A (pyIter it) (λit' s'=>codeAny (model prog w) A (.compLoop (.ListComp elt [⟨t0,i0,f0,0⟩,⟨t1,i1,f1,0⟩] scope pos) 1 it' acc env) R s')
   (notedBy (model prog w) A env λx s'=>R (.error x) s') s) :
  codeAny (model prog w) A (.compStart (.ListComp elt [⟨t0,i0,f0,0⟩,⟨t1,i1,f1,0⟩] scope pos) 1 it acc env) R s:=by
 refine codeAny_of_tree ?_
 show wpAny _ _ ((compStart (.ListComp elt [⟨t0,i0,f0,0⟩,⟨t1,i1,f1,0⟩] scope pos) 1 it acc env).onRaise (λx=>do noteFrame x env; standAt theWindowsPlace)) _ _ s
 refine wpAny_notedAt ?_
 unfold compStart
 show wpAny _ _ (ask >>= _) _ _ s
 refine wpAny_bind (wpAny_askSetting (wpAny_ite ?_))
 split
 ·first
   | exact wpAny_bind (wpAny_pure (wpAny_pure (And.intro rfl h0)))
   | exact wpAny_pure (And.intro rfl h0)
 ·first
   | exact wpAny_bind (wpAny_rule (wpAny_bind (wpAny_standAt (wpAny_bind (wpAny_mono h (λit' s' h'=>wpAny_pure (And.intro rfl h')) λ_ _ x=>x)))))
   | (refine wpAny_bind (wpAny_rule ?_); show wpAny _ _ (standAt i1.pos >>= _) _ _ s; exact wpAny_bind (wpAny_standAt (wpAny_bind (wpAny_mono h (λit' s' h'=>wpAny_pure (And.intro rfl h')) λ_ _ x=>x))))
theorem Zhu {elt t0 i0 t1 i1:Expr} {f0 f1:List Expr} {scope:Scope} {pos:Pos} {D:Addr} {c:Code} {wi:TI} {g:TG} {tt:TT} {te:TE} (hxe:X.xe=λ_ _=>False) (hc:X.calm=true)
  (hi:PI X t1 i1 wi) (hg:PG X t1 g) (ht:PTs X f1 tt) (he:PE X elt te) (hs:∀ x,foldedSetIterable i1 X.env x=pure x:=by intro _; rfl) :
  PB X (eval i1 X.env >>= λx=>standAt i1.pos >>= λ_=>foldedSetIterable i1 X.env x >>= λx=>holding [x] (pyIter x) >>= λit =>
   runOwn (.compStart (.ListComp elt [⟨t0,i0,f0,0⟩,⟨t1,i1,f1,0⟩] scope pos) 1 it (.ref D) X.env) X.env >>= λ_=>again c) c (tGen wi g tt (Zk8 te D)):=by
 intro pins s σ H N I h
 refine wpAny_bind (thn (hi pins s σ H _ I h) λv s1 h1=>wpAny_bind (wpAny_standAt ?_))
 rw [hs]
 refine wpAny_bind (wpAny_pure (wpAny_bind (wpAny_holding (thn h1 λitv s2 h2=>?_))))
 obtain ⟨it,fp,tn,J,H2,e,I2,T,st2,f2,L⟩:=h2
 subst e
 have loop:∀ (A:Around),A=X.A->codeAny (model X.prog X.w) A (.compLoop (.ListComp elt [⟨t0,i0,f0,0⟩,⟨t1,i1,f1,0⟩] scope pos) 1 (.ref it) (.ref D) X.env)
   (λr s'=>match r with | .ok f=>wpAny (model X.prog X.w) X.A (again c) (λfin s'=>fin=.again c/\∃ σ' H',Inv X pins σ' H' s'/\N σ' H') X.xe s' | .error e=>cameBackBy (model X.prog X.w) X.A X.env X.xe e s') s2:=by
  rintro A rfl
  exact Oi (tg:=t1) (ifs:=f1) (R:=N) hxe rfl rfl rfl rfl T hc hg ht (Ys (c:=.compLoop (.ListComp elt [⟨t0,i0,f0,0⟩,⟨t1,i1,f1,0⟩] scope pos) 1 (.ref it) (.ref D) X.env) he) f2 I2 st2 L λs' σ' H' I' q=>wpAny_pure ⟨rfl,σ',H',I',q⟩
 refine wpAny_bind (wpAny_runOwn (h:=none) ?_)
 exact Zgo (loop _ rfl) (T.self _ _ _ _ _ st2 (loop _ rfl))
end
noncomputable def Zft (ts:List Str) (fv:List (Str × Nat)) (wi:TI) (g:TG) (tt:TT) (tb:Addr->TB):TE:=λσ H Q=>wi σ H λJ H1=>∀ D,H1 D=none ->
 Ws J g tt (tb D) (λ_ H'=>Q (.ref D) H') (blkS ts fv σ) (upd H1 D (.lst []))
section
variable {X:Cx} {ts:List Str} {fv:List (Str × Nat)} {scope:Scope} {elt t0 i0:Expr} {f0:List Expr} {rest:List Comprehension} {pos:Pos} {wi:TI} {g:TG} {tt:TT} {tb:Addr->TB} {kont:Env->Addr->Addr->Sem Fin}
theorem Zav (B:BlkOk X scope fv) (hc:X.calm=true) (hi:PI X t0 i0 wi)
  (hg:∀ C s₀ H₀ ex,PG (Yi X (blkN ts fv) scope C s₀ H₀ ex) t0 g) (ht:∀ C s₀ H₀ ex,PTs (Yi X (blkN ts fv) scope C s₀ H₀ ex) f0 tt)
  (heq:∀ (env:Env) (it D:Addr),compTurn (.ListComp elt (⟨t0,i0,f0,0⟩ :: rest) scope pos) 0 (.ref it) (.ref D) env=(standAt i0.pos >>= λ_=>pyNext (.ref it) >>= λr=>match r with
   | none=>pure (.done .next)
   | some v=>letOwnedTupleGo t0 (.ref it) v >>= λ_=>assign t0 env v >>= λ_ =>
    (forIn f0 true λc r=>if r=true then do let ok <- isTrue c env (eval c env); pure (ForInStep.yield ok) else pure (ForInStep.yield r)) >>= λok =>
     if ok=true then kont env it D else again (.compLoop (.ListComp elt (⟨t0,i0,f0,0⟩ :: rest) scope pos) 0 (.ref it) (.ref D) env)))
  (hb:∀ C s₀ H₀ ex it D,PB (Yi X (blkN ts fv) scope C s₀ H₀ ex) (kont (Yi X (blkN ts fv) scope C s₀ H₀ ex).env it D) (.compLoop (.ListComp elt (⟨t0,i0,f0,0⟩ :: rest) scope pos) 0 (.ref it) (.ref D) (Yi X (blkN ts fv) scope C s₀ H₀ ex).env) (tb D))
  {pins:List (Addr × Obj)} {s:Shared} {σ:St} {H:Hp} {Q:VK} {RR:Value->Addr->Result->Shared->Prop} (I:Inv X pins σ H s) (h:Zft ts fv wi g tt tb σ H Q)
  (hRR:∀ D C s' H',Inv X pins σ H' s'->H' C=none->X.s₀.heap.objs.size<=C->C≠X.env.locals->(∀ x c,X.env.cells.lookup x=some c->c≠C)->(∀ p∈X.pn ++ pins,p.1≠C)->(∃ m,s'.heap.Ns C m)->Q (.ref D) H'->RR (.ref D) C (.ok .next) s') :
  wpAny (model X.prog X.w) X.A (eval i0 X.env) (λx s₁=>wpAny (model X.prog X.w) X.A (pyIter x) (λit s₂=>wpAny (model X.prog X.w) X.A (newList []) (λacc s₃ =>
   wpAny (model X.prog X.w) X.A (newFunctionEnv scope X.env.globals (Yx X.env scope.names []) [] X.env.qual none .none (some X.env)) (λcenv s₄ =>
    codeAny (model X.prog X.w) X.A (.compStart (.ListComp elt (⟨t0,i0,f0,0⟩ :: rest) scope pos) 0 it acc { cenv with scope:=relabel scope X.env }) (RR acc cenv.locals) s₄) X.xe s₃) X.xe s₂) X.xe s₁) X.xe s:=by
 refine thn (hi pins s σ H _ I h) λv s1 h1=>thn h1 λitv s2 h2=>?_
 obtain ⟨it,fp,tn,J,H2,e,I2,T,st2,f2,L⟩:=h2
 subst e
 have L:=L s2.heap.objs.size I2.fresh
 refine wpAny_newObj_type ?_
 have I3:Inv X pins σ (upd H2 s2.heap.objs.size (.lst [])) { s2 with heap:=s2.heap.push { cls:=.type "list",data:=.seq ([]:List Value).toArray },toks:=s2.toks }:=I2.lnew (its:=[]) (t':=s2.toks) .nil (Nat.zero_le _)
 have ho2:∀ b∈fp,∃ o,s2.heap.get? b=some o/\∀ v,o.data≠.cell v:=T.obj _ _ st2
 have f3:∀ b∈fp,FpOk X pins (upd H2 s2.heap.objs.size (.lst [])) b:=λb hb=>by
  obtain ⟨o,ho,_⟩:=ho2 b hb
  refine ⟨?_,(f2 b hb).2⟩
  rw [Ze (Nat.ne_of_lt (Heap.lt_size ho))]
  exact (f2 b hb).1
 have st3:tn 0 (s2.heap.push { cls:=.type "list",data:=.seq ([]:List Value).toArray }):=T.keep _ _ _ st2 λb _ o e=>Heap.get?_push_of_some _ e
 have ho3:∀ b∈fp,∃ o,(s2.heap.push { cls:=.type "list",data:=.seq ([]:List Value).toArray }).get? b=some o:=λb hb=>let ⟨o,e,_⟩:=ho2 b hb; ⟨o,Heap.get?_push_of_some _ e⟩
 generalize hs3:({ s2 with heap:=s2.heap.push { cls:=.type "list",data:=.seq ([]:List Value).toArray },toks:=s2.toks }:Shared)=s3 at I3
 have eh:s2.heap.push { cls:=.type "list",data:=.seq ([]:List Value).toArray }=s3.heap:=by rw [<- hs3]
 rw [eh] at st3 ho3
 refine wpAny_newFunctionEnv B.nocell (by intro y hy; simp at hy) (λh₁ hns hsb=>?_) B.kind
 have hk:∀ b o,s3.heap.get? b=some o->h₁.get? b=some o:=λb o e=>hsb.extBut b o (Nat.ne_of_lt (Heap.lt_size e)) (Heap.get?_push_of_some _ e)
 have I4:=Zaw (ts:=ts) (tk:=s3.toks + ([]:List (Str × Value)).length) B I3 f3 ho3 hns hk
 have f4:∀ b∈fp,FpOk (Yi X (blkN ts fv) scope s3.heap.objs.size s3 (upd H2 s2.heap.objs.size (.lst [])) fp) [] (upd H2 s2.heap.objs.size (.lst [])) b:=λb hb=>by
  obtain ⟨f0,f1,f2',f3',f4',f5'⟩:=f3 b hb
  obtain ⟨o,eo⟩:=ho3 b hb
  exact ⟨f0,Nat.ne_of_lt (Heap.lt_size eo),I4.ok.exfs b hb,.inl hb,(I4.ok.exf b hb).2,λp hp=>absurd (show p∈([]:List (Addr × Obj)) from hp) (by simp)⟩
 have st4:tn 0 h₁:=T.keep _ _ _ st3 λb _ o e=>hk b o e
 have loop:codeAny (model X.prog X.w) X.A (.compLoop (.ListComp elt (⟨t0,i0,f0,0⟩ :: rest) scope pos) 0 (.ref it) (.ref s2.heap.objs.size) (Yi X (blkN ts fv) scope s3.heap.objs.size s3 (upd H2 s2.heap.objs.size (.lst [])) fp).env)
   (RR (.ref s2.heap.objs.size) s3.heap.objs.size) { s3 with heap:=h₁,toks:=s3.toks + ([]:List (Str × Value)).length }:=by
  refine Oi (X:=Yi X (blkN ts fv) scope s3.heap.objs.size s3 (upd H2 s2.heap.objs.size (.lst [])) fp) (tg:=t0) (ifs:=f0) (R:=λ_ H'=>Q (.ref s2.heap.objs.size) H') rfl rfl rfl rfl (heq _ it s2.heap.objs.size) T hc (hg _ _ _ _) (ht _ _ _ _) (hb _ _ _ _ it s2.heap.objs.size) f4 I4 st4 L λs' σ' H' J' q=>?_
  obtain ⟨e1,e2,e3,e4,e5,e6⟩:=Zfo I3 f3 (Nat.le_refl _) J'
  obtain ⟨m,hm,_⟩:=J'.loc
  exact hRR _ _ s' H' e1 e2 e3 e4 e5 e6 ⟨m,hm⟩ q
 exact codeAny_compStart_list loop (T.self _ _ _ _ _ st4 loop)
theorem Y6 (B:BlkOk X scope fv) (hc:X.calm=true) (hi:PI X t0 i0 wi)
  (hg:∀ C s₀ H₀ ex,PG (Yi X (blkN ts fv) scope C s₀ H₀ ex) t0 g) (ht:∀ C s₀ H₀ ex,PTs (Yi X (blkN ts fv) scope C s₀ H₀ ex) f0 tt)
  (heq:∀ (env:Env) (it D:Addr),compTurn (.ListComp elt (⟨t0,i0,f0,0⟩ :: rest) scope pos) 0 (.ref it) (.ref D) env=(standAt i0.pos >>= λ_=>pyNext (.ref it) >>= λr=>match r with
   | none=>pure (.done .next)
   | some v=>letOwnedTupleGo t0 (.ref it) v >>= λ_=>assign t0 env v >>= λ_ =>
    (forIn f0 true λc r=>if r=true then do let ok <- isTrue c env (eval c env); pure (ForInStep.yield ok) else pure (ForInStep.yield r)) >>= λok =>
     if ok=true then kont env it D else again (.compLoop (.ListComp elt (⟨t0,i0,f0,0⟩ :: rest) scope pos) 0 (.ref it) (.ref D) env)))
  (hb:∀ C s₀ H₀ ex it D,PB (Yi X (blkN ts fv) scope C s₀ H₀ ex) (kont (Yi X (blkN ts fv) scope C s₀ H₀ ex).env it D) (.compLoop (.ListComp elt (⟨t0,i0,f0,0⟩ :: rest) scope pos) 0 (.ref it) (.ref D) (Yi X (blkN ts fv) scope C s₀ H₀ ex).env) (tb D))
  (hs:∀ x,foldedSetIterable i0 X.env x=pure x:=by intro _; rfl) :
  PE X (.ListComp elt (⟨t0,i0,f0,0⟩ :: rest) scope pos) (Zft ts fv wi g tt tb):=by
 intro pins s σ H Q I h
 rw [eval_ListComp]
 refine wpAny_comprehension_free (use:=none) rfl hs (Js λy hy e=>I.ok.has y.1 (B.free y hy e)) B.kind B.names ?_
 refine Zav (RR:=λacc C=>compPost (model X.prog X.w) X.A X.xe none (EP X pins σ Q) acc C) B hc hi hg ht heq hb I h λD C s' H' I' e2 e3 e4 e5 e6 hm q=>?_
 obtain ⟨m,hm⟩:=hm
 exact ⟨m,hm,λh' hs'=>⟨.ref D,H',I'.apart hs' e2 e3 e4 e5 e6,rfl,q⟩⟩
theorem Xj {i:Nat} {y:Str} {py spos:Pos} (B:BlkOk X scope fv) (hc:X.calm=true) (hN:X.N.Nodup) (hiy:X.N[i]?=some y) (hyl:X.env.scope.names.lookup y=some .local)
  (hsw:swapsWith (.ListComp elt (⟨t0,i0,f0,0⟩ :: rest) scope pos) (some (.Name y py)) spos.line X.env=pure true) (hi:PI X t0 i0 wi)
  (hg:∀ C s₀ H₀ ex,PG (Yi X (blkN ts fv) scope C s₀ H₀ ex) t0 g) (ht:∀ C s₀ H₀ ex,PTs (Yi X (blkN ts fv) scope C s₀ H₀ ex) f0 tt)
  (heq:∀ (env:Env) (it D:Addr),compTurn (.ListComp elt (⟨t0,i0,f0,0⟩ :: rest) scope pos) 0 (.ref it) (.ref D) env=(standAt i0.pos >>= λ_=>pyNext (.ref it) >>= λr=>match r with
   | none=>pure (.done .next)
   | some v=>letOwnedTupleGo t0 (.ref it) v >>= λ_=>assign t0 env v >>= λ_ =>
    (forIn f0 true λc r=>if r=true then do let ok <- isTrue c env (eval c env); pure (ForInStep.yield ok) else pure (ForInStep.yield r)) >>= λok =>
     if ok=true then kont env it D else again (.compLoop (.ListComp elt (⟨t0,i0,f0,0⟩ :: rest) scope pos) 0 (.ref it) (.ref D) env)))
  (hb:∀ C s₀ H₀ ex it D,PB (Yi X (blkN ts fv) scope C s₀ H₀ ex) (kont (Yi X (blkN ts fv) scope C s₀ H₀ ex).env it D) (.compLoop (.ListComp elt (⟨t0,i0,f0,0⟩ :: rest) scope pos) 0 (.ref it) (.ref D) (Yi X (blkN ts fv) scope C s₀ H₀ ex).env) (tb D))
  (hs:∀ x,foldedSetIterable i0 X.env x=pure x:=by intro _; rfl) :
  PS X (.Assign [.Name y py] (.ListComp elt (⟨t0,i0,f0,0⟩ :: rest) scope pos) spos) (tAsg (Zft ts fv wi g tt tb) (Zv i)):=by
 intro pins s σ H D0 I h
 rw [exec_Assign_Name_used _ _ _ _ hsw]
 refine wpAny_bind (wpAny_standAt (wpAny_bind ?_))
 show wpAny _ X.A (do let _ <- comprehension (.ListComp elt (⟨t0,i0,f0,0⟩ :: rest) scope pos) scope X.env _ (newList []) false (eval i0 X.env) (some (assign (.Name y py) X.env))) _ _ s
 refine wpAny_bind (wpAny_mono (wpAny_comprehension_free (use:=some (assign (.Name y py) X.env)) (Q:=λ_ s'=>SP X pins D0 .next s') rfl hs (Js λy hy e=>I.ok.has y.1 (B.free y hy e)) B.kind B.names ?_) (λ_ s' hq=>wpAny_pure (wpAny_pure hq)) λ_ _ e=>e)
 refine Zav (Q:=λx H1=>Zv i x σ H1 D0.nx) (RR:=λacc C=>compPost (model X.prog X.w) X.A X.xe (some (assign (.Name y py) X.env)) (λ_ s'=>SP X pins D0 .next s') acc C) B hc hi hg ht heq hb I h λD C s' H' I' e2 e3 e4 e5 e6 hm q=>?_
 obtain ⟨m,hm⟩:=hm
 show wpAny _ X.A (assign (.Name y py) X.env (.ref D)) _ _ _
 refine wpAny_assign_Name (Ut I' hN hiy (.inl hyl) (show RelV (.ref D) (.ref D) from rfl) (λs'' I'' hch=>?_) (.inr hyl))
 obtain ⟨a,hsb,ha⟩:=hch
 have haC:C≠a:=by
  rcases ha with e | e
  ·rw [e]; exact e4
  ·exact λz=>e5 y a e z.symm
 exact ⟨m,hm.sameBut hsb haC,λh' hs'=>⟨_,H',I''.apart hs' e2 e3 e4 e5 e6,q⟩⟩
end
noncomputable def FlyT (e T:Addr) (cls a0:Value) (h:Heap):Prop :=
 ∃ oe vs oT ts,h.get? e=some oe/\(oe.cls=cls/\vs[0]?=some a0)/\oe.data=.fields vs/\vs[1]?=some (.ref T)/\T≠e/\h.get? T=some oT/\oT.data=.fields ts/\ts[3]?=some .none
noncomputable def CXr (P:Program) (w:World):CXT:=λouter H s E ev s' =>
 ∃ (e T:Addr) (cls a0:Value) (H':Hp),ev=.ref e/\s'.os=s.os/\AllBare s'.gens/\Un (frs outer) [] H H' s.heap s'.heap/\HOk P w H' s'.heap /\
  s.heap.get? e=none/\s.heap.get? T=none/\H' e=none/\H' T=none/\FlyT e T cls a0 s'.heap/\E cls none H'
theorem Zs {X:Cx}:Q4 (CXr X.prog X.w) X E0:=λ_ _ _ _ _ _ _ h=>by
 obtain ⟨_,_,_,_,_,_,_,_,_,_,_,_,_,_,_,z⟩:=h
 exact z.elim
theorem Zm8 {P:Program} {w:World} {H:Hp} {s:Shared} {e:Value} {s':Shared} (h:CXr P w [] H s (λ_ _ _=>False) e s'):False:=by
 obtain ⟨_,_,_,_,_,_,_,_,_,_,_,_,_,_,_,z⟩:=h
 exact z
section
variable {P:Program} {w:World} {K:PySem.W.Frag} {mg:Str->Option Value} {base:Heap}
theorem Fun.okR {x qual:Str} {st:Stmt} {f:Addr} {fd:FuncData} {N ps:List Str} {k:Nat} {sp:Sp} (F:Fun K x qual st f fd) (S:FnScope N ps (Zg st)) (len:∀ vs H Q E,sp vs H Q E->vs.length=ps.length)
  (hbody:∀ (cdv:Value) (A:Around) (outer:List Env) (s:Shared) (H:Hp) (vs:List V) (Q:VK) (E:XK),Room k (A.deeper (envOfC qual (Zg st) s.heap.objs.size f cdv))->sp vs H Q E ->
   ∃ t,PSs (cxOf (CXr P w) P w K mg base N qual (Zg st) f cdv A outer s H E).nox (Y0 st) t/\t { nx:=λ_ H'=>Q .non H',rt:=Q } (start N vs) H):FnOk P w K mg base (CXr P w) (k + 1) f fd ps sp:=by
 obtain ⟨oc,od,kV,doc,pm,an,cdv,ct,osl,rfl,lk,hcd⟩:=F.ex
 refine Zlf lk hcd S len λA outer s H vs Q E hr hsp=>?_
 obtain ⟨t,h,q⟩:=hbody cdv A outer s H vs Q E hr hsp
 exact ⟨t,h.nox,q⟩
end
section
variable {X:Cx}
theorem Zei:Xy X (.builtin "isinstance") (λxs H Q=>∃ x T t b,xs=[x,.ty T]/\TyOf X.K H x t/\PySem.W.kitOne X.K t (.type T)=some b/\Q (.bl b) H):=by
 intro pins s σ H xs us Q I r h
 obtain ⟨x,T,t,b,rfl,hty,hk,q⟩:=h
 obtain ⟨u,v,rfl,ru,rv⟩:=r.two
 obtain rfl:v=Value.type T:=rv
 exact Zis I ru hty hk λtk=>⟨.bl b,H,I.tok _,rfl,q⟩
theorem Zko {K:PySem.W.Frag} {T:String}:PySem.W.kitOne K (.type T) (.type T)=some true:=by
 unfold PySem.W.kitOne
 rw [if_pos (by simp)]
theorem Yk {X:Cx} {scope:Scope} (h:scope.names.all (λy=>y.2 != .free || X.env.kindOf y.1 == some .cell || X.env.kindOf y.1 == some .free)=true) :
  ∀ y∈scope.names,y.2=.free->X.env.kindOf y.1=some .cell\/X.env.kindOf y.1=some .free:=λy hy e=>by
 have:=List.all_eq_true.mp h y hy
 simp [e] at this
 exact this
end
theorem walk_r {l:PySem.W.OpenLaw} {k:Nat} {q:Program} {loose:List Str} {XP:(Str->Option Value)->Heap->Prop} {YP:World->Heap->Prop} {d:DefRec} {K:Params->PySem.W.Frag} {spl:PySem.W.Frag->Sp}
  (hn:l.most=some 63) (hdf:d.params.defaults=[]) (hr:Room k callerA) (hY:∀ (w:World) (h:Heap),YP w h->(K w.params).In h)
  (hsp:∀ (K:PySem.W.Frag) (H:Hp) (a:Addr) (ns:List Int),ns.length<=63->SqL K H a (ns.map V.int)->spl K [.ref a] H (λv _=>v=.bl true) λ_ _ _=>False)
  (F:∀ (w:World) (mg:Str->Option Value) (fa:Addr) (h:Heap),(K w.params).In h->h.Ns mainGlobals mg->mg d.name=some (.ref fa) ->
   ∃ fd:FuncData,(∀ (s:Shared) (u:Value),BindsTo s fd ⟨[u],[]⟩ [("_law_script",u)]) /\
    ∀ base:Heap,(K w.params).In base->base.Ns mainGlobals mg->FnOk l.prog w (K w.params) mg base (CXr l.prog w) k fa fd ["_law_script"] (spl (K w.params))) :
  PySem.W.WalkO q loose XP YP l.row.toRowW d [] (λf vs=>PySem.call f vs) :=
 Zlk (n:=63) (k:=k) (x:="_law_script") (CX:=λw=>CXr l.prog w) (sp:=λw=>spl (K w.params)) hn (by decide) hdf hr hY F (λw H a ns hl _ hS=>hsp _ H a ns hl hS) (λw H s e s' h=>Zm8 h)
noncomputable def ExT (e:Addr) (T:Option Addr) (cls a0:Value) (h:Heap):Prop:=match T with
 | some T=>FlyT e T cls a0 h
 | none=>∃ oe vs,h.get? e=some oe/\(oe.cls=cls/\vs[0]?=some a0)/\oe.data=.fields vs/\vs[1]?=some .none
structure FxOk (X:Cx) (pins:List (Addr × Obj)) (H:Hp) (b:Addr):Prop where
 nt:H b=none
 nl:b≠X.env.locals
 nf:b ∉ X.fs
 n0:X.s₀.heap.get? b=none
 nc:∀ x c,X.env.cells.lookup x=some c->c≠b
 np:∀ p∈X.pn ++ pins,p.1≠b
noncomputable def XS (fr:Bool) (X:Cx) (pins:List (Addr × Obj)) (R:Value->St->Hp->Prop) (ev:Value) (s':Shared):Prop :=
 ∃ (e:Addr) (T:Option Addr) (cls a0:Value) (σ':St) (H':Hp),ev=.ref e/\Inv X pins σ' H' s'/\ExT e T cls a0 s'.heap/\FxOk X pins H' e/\(∀ t,T=some t->FxOk X pins H' t)/\(T=none->fr=true)/\R cls σ' H'
noncomputable abbrev TSX:=Ends->(Value->St->Hp->Prop)->St->Hp->Prop
noncomputable abbrev TEX:=St->Hp->VK->XK->Prop
noncomputable def PSX (fr:Bool) (X:Cx) (st:Stmt) (t:TSX):Prop :=
 ∀ (pins:List (Addr × Obj)) (s:Shared) (σ:St) (H:Hp) (D:Ends) (R:Value->St->Hp->Prop),Inv X pins σ H s->t D R σ H->wpAny (model X.prog X.w) X.A (exec st X.env) (SP X pins D) (XS fr X pins R) s
noncomputable def PSsX (fr:Bool) (X:Cx) (st:List Stmt) (t:TSX):Prop :=
 ∀ (pins:List (Addr × Obj)) (s:Shared) (σ:St) (H:Hp) (D:Ends) (R:Value->St->Hp->Prop),Inv X pins σ H s->t D R σ H->wpAny (model X.prog X.w) X.A (execs st X.env) (SP X pins D) (XS fr X pins R) s
noncomputable def PEX (fr:Bool) (X:Cx) (e:Expr) (t:TEX):Prop :=
 ∀ (pins:List (Addr × Obj)) (s:Shared) (σ:St) (H:Hp) (Q:VK) (E:XK),Inv X pins σ H s->t σ H Q E->wpAny (model X.prog X.w) X.A (eval e X.env) (EP X pins σ Q) (XS fr X pins λcls σ' H'=>σ'=σ/\E cls none H') s
section
variable {X:Cx} {fr:Bool}
theorem Ya {st:Stmt} {t:TS} (h:PS X st t) (hx:X.xe=(λ_ _=>False):=by rfl):PSX fr X st (λD _ σ H=>t D σ H):=λpins s σ H D R I q=>by
 have:=h pins s σ H D I q
 rw [hx] at this
 exact wpAny_mono this (λ_ _ z=>z) λ_ _ z=>z.elim
theorem W0 {st:List Stmt} {t:TS} (h:PSs X st t) (hx:X.xe=(λ_ _=>False):=by rfl):PSsX fr X st (λD _ σ H=>t D σ H):=λpins s σ H D R I q=>by
 have:=h pins s σ H D I q
 rw [hx] at this
 exact wpAny_mono this (λ_ _ z=>z) λ_ _ z=>z.elim
noncomputable def Zo4 (t u:TSX):TSX:=λD R σ H=>t { D with nx:=u D R } R σ H
theorem Zp {st:Stmt} {rest:List Stmt} {t u:TSX} (h1:PSX fr X st t) (h2:PSsX fr X rest u):PSsX fr X (st :: rest) (Zo4 t u):=by
 intro pins s σ H D R I h
 refine wpAny_execs_cons (thn (h1 pins s σ H { D with nx:=u D R } R I h) λf s1 q=>?_)
 cases f with
 | next =>
  obtain ⟨σ',H',I',q⟩:=q
  exact h2 pins s1 σ' H' D R I' q
 | ret v=>exact q
 | brk=>exact q
 | cont=>exact q
theorem Zm {st:Stmt} {t:TSX} (h1:PSX fr X st t):PSsX fr X [st] t:=by
 intro pins s σ H D R I h
 refine wpAny_execs_cons (thn (h1 pins s σ H D R I h) λf s1 q=>?_)
 cases f with
 | next=>exact wpAny_execs_nil q
 | ret v=>exact q
 | brk=>exact q
 | cont=>exact q
theorem Xv:PSsX fr X [] (λD _ σ H=>D.nx σ H):=λ_ _ σ H _ _ I h=>wpAny_execs_nil ⟨σ,H,I,h⟩
noncomputable def tIfX (c:TT) (t u:TSX):TSX:=λD R σ H=>c σ H λb H1=>if b=true then t D R σ H1 else u D R σ H1
theorem Yy {c:Expr} {a b:List Stmt} {tc:TT} {t u:TSX} {pos:Pos} (hc:PT X c tc) (ha:PSsX fr X a t) (hb:PSsX fr X b u) (hx:X.xe=(λ_ _=>False):=by rfl):PSX fr X (.If c a b pos) (tIfX tc t u):=by
 intro pins s σ H D R I h
 have h0:=hc pins s σ H _ I h
 rw [hx] at h0
 refine wpAny_If (wpAny_mono h0 (λd s1 zz32=>?_) λ_ _ z=>z.elim)
 obtain ⟨H1,I1,q1⟩:=zz32
 cases d with
 | true=>exact ha pins s1 σ H1 D R I1 q1
 | false=>exact hb pins s1 σ H1 D R I1 q1
noncomputable def Znq (te:TEX):TSX:=λD R σ H=>te σ H (λ_ H1=>D.nx σ H1) λcls _ H1=>R cls σ H1
theorem Z0 {e:Expr} {te:TEX} {pos:Pos} (he:PEX fr X e te) (hs:swapsWith e none pos.line X.env=pure false:=by rfl):PSX fr X (.Expr e pos) (Znq te):=by
 intro pins s σ H D R I h
 refine wpAny_Expr_any (wpAny_mono (he pins s σ H _ _ I h) (λv s1 ⟨x,H1,I1,r1,q1⟩=>⟨σ,H1,I1,q1⟩) ?_) I.quiet hs
 rintro ev s1 ⟨e,T,cls,a0,σ',H',h1,h2,h3,h4,h5,h7,rfl,h6⟩
 exact ⟨e,T,cls,a0,σ',H',h1,h2,h3,h4,h5,h7,h6⟩
noncomputable def Zo5 (te:TEX):TSX:=λD R σ H=>te σ H D.rt λcls _ H1=>R cls σ H1
theorem Zey {e:Expr} {te:TEX} {pos:Pos} (he:PEX fr X e te):PSX fr X (.Return (some e) pos) (Zo5 te):=by
 intro pins s σ H D R I h
 refine wpAny_Return_some (wpAny_mono (he pins s σ H _ _ I h) (λv s1 ⟨x,H1,I1,r1,q1⟩=>⟨x,σ,H1,I1,r1,q1⟩) ?_)
 rintro ev s1 ⟨e,T,cls,a0,σ',H',h1,h2,h3,h4,h5,h7,rfl,h6⟩
 exact ⟨e,T,cls,a0,σ',H',h1,h2,h3,h4,h5,h7,h6⟩
noncomputable def Zo3 (i:Nat) (te:TEX):TSX:=λD R σ H=>te σ H (λx H1=>D.nx (σ.set i (some x)) H1) λcls _ H1=>R cls σ H1
theorem Je {i:Nat} {x:Str} {e:Expr} {te:TEX} {pos pos':Pos} (hN:X.N.Nodup) (hi:X.N[i]?=some x) (hx:Loc X.env.scope x) (he:PEX fr X e te) (hs:swapsWith e (some (.Name x pos')) pos.line X.env=pure false:=by rfl)
  (hf:X.fn x=true\/X.env.scope.names.lookup x=some .local:=by first | exact .inl rfl | exact .inr rfl | assumption):PSX fr X (.Assign [.Name x pos'] e pos) (Zo3 i te):=by
 intro pins s σ H D R I h
 refine wpAny_Assign_Name (wpAny_mono (he pins s σ H _ _ I h) (λv s1 ⟨y,H1,I1,r1,q1⟩=>?_) ?_) hs
 ·exact Wu I1 hN hi hx r1 (λs2 I2=>⟨_,H1,I2,q1⟩) hf
 ·rintro ev s1 ⟨e,T,cls,a0,σ',H',h1,h2,h3,h4,h5,h7,rfl,h6⟩
  exact ⟨e,T,cls,a0,σ',H',h1,h2,h3,h4,h5,h7,h6⟩
theorem Inv.cxr {pins:List (Addr × Obj)} {σ:St} {H:Hp} {s s':Shared} {E:XK} {ev:Value} (I:Inv X pins σ H s) (hex:X.ex=[]) (h:CXr X.prog X.w X.stack H s E ev s'):XS fr X pins (λcls σ' H'=>σ'=σ/\E cls none H') ev s':=by
 obtain ⟨e,T,cls,a0,H',rfl,os,bare,un,hok,ne,nT,he,hT,fl,q⟩:=h
 have I':Inv X pins σ H' s':=I.call' os un hok bare λb hb=>absurd hb (by simp)
 have fx:∀ b,s.heap.get? b=none->H' b=none->FxOk X pins H' b:=λb hb hn=>by
  refine ⟨hn,λz=>?_,λz=>?_,?_,λx c e z=>?_,λp hp z=>?_⟩
  ·obtain ⟨m,⟨o,_,_,ho,_⟩,_⟩:=I.loc
   rw [z,ho] at hb; cases hb
  ·obtain ⟨_,o,ho,_⟩:=I.funs.mem z
   rw [ho] at hb; cases hb
  ·cases q:X.s₀.heap.get? b with
   | none=>rfl
   | some o =>
    obtain ⟨o',e'⟩:=I.base.there b o q (by rw [hex]; simp)
    rw [hb] at e'; cases e'
  ·obtain ⟨v,o,ho,_⟩:=I.cell x c e
   rw [z,hb] at ho; cases ho
  ·have:=(I.pin p hp).1
   rw [z,hb] at this; cases this
 exact ⟨e,some T,cls,a0,σ,H',rfl,I',fl,fx e ne he,λt ht=>by cases ht; exact fx T nT hT,(λz=>nomatch z),rfl,q⟩
variable {k:Nat} {f C:Addr} {fd:FuncData} {ps:List Str} {sp:Sp} {dvs:List V} {ds:List Value} {x m:Str} {p pos apos:Pos} {e o:Expr} {es:List Expr} {ta:TE} {t:TA}
theorem Zew {pins:List (Addr × Obj)} {σ:St} {H:Hp} {s:Shared} {Q:VK} {E:XK} {us:List Value} {vs:List V} (F:FnOk X.prog X.w X.K X.mg X.base (CXr X.prog X.w) k f fd ps sp) (hr:Room k X.A) (hb:Wa X.K fd ps ds) (hd:Vals dvs ds) (hex:X.ex=[])
  (I:Inv X pins σ H s) (r:Vals vs us) (h:sp (vs ++ dvs) H Q E):wpAny (model X.prog X.w) X.A (call (.ref f) us) (EP X pins σ Q) (XS fr X pins λcls σ' H'=>σ'=σ/\E cls none H') s:=by
 have r2:Vals (vs ++ dvs) (us ++ ds):=r.append hd
 have hl:(us ++ ds).length=ps.length:=by rw [<- r2.length]; exact F.len _ _ _ _ h
 refine wpAny_call (codeAny_mono (F.run X.A X.stack s H ⟨us,[]⟩ (us ++ ds) (vs ++ dvs) Q E hr I.env0 (hb s us I.kIn hl) r2 h) λr s' hq=>?_)
 cases r with
 | error e=>exact I.cxr hex hq
 | ok fl =>
  cases fl with
  | ret u=>exact I.after hq
  | next=>exact False.elim hq
  | brk=>exact False.elim hq
  | cont=>exact False.elim hq
noncomputable def Znw (sp:Sp) (dvs:List V) (t:TA):TEX:=λσ H Q E=>t σ H λvs H1=>sp (vs ++ dvs) H1 Q E
theorem Zw (F:FnOk X.prog X.w X.K X.mg X.base (CXr X.prog X.w) k f fd ps sp) (hr:Room k X.A) (hg:Gl X x) (hm:X.mg x=some (.ref f)) (hk:PySem.W.keepIn X.K (.ref f)=true) (hb:Wa X.K fd ps ds) (hd:Vals dvs ds)
  (ha:PA X (e :: es) t) (hex:X.ex=[]:=by rfl) (hx:X.xe=(λ_ _=>False):=by rfl) (hdb:(x == ("__debug__":Str))=false:=by decide) (he:starEach (e :: es) X.env=(false,eval e X.env) :: starEach es X.env:=by rfl) (hpl:(backTo pos (starEach es X.env)).any (·.1)=false:=by rfl) :
  PEX fr X (.Call (.Name x p) (e :: es) [] pos) (Znw sp dvs t):=by
 intro pins s σ H Q E I h
 have h0:=ha pos pins s σ H _ I h
 rw [hx] at h0
 refine wpAny_Call_Name_kw (Jk I hg hm ?_ hdb)
 refine PySem.W.callWith_K (h₀:=X.base) I.ok.mod.kin hk (wpAny_mono h0 (λus s1 zz33=>?_) λ_ _ z=>z.elim) he hpl
 obtain ⟨vs,H1,I1,r,q⟩:=zz33
 refine ⟨I1.kIn,?_⟩
 exact Zew F hr hb hd hex I1 r q
noncomputable def Znp (C:Addr) (m:Str) (sp:Sp) (dvs:List V) (ta:TE) (t:TA):TEX:=λσ H Q E=>ta σ H λx H1=>∃ a dx fs,x=.ref a/\H1 a=some (.ins C dx fs)/\fs.lookup m=none /\
 t σ H1 λvs H2=>sp (x :: (vs ++ dvs)) H2 Q E
theorem Qw {pl:Sem Bool} (he:PE X o ta) (c:Cls X.K C) (hm:Meth X.K C m f) (F:FnOk X.prog X.w X.K X.mg X.base (CXr X.prog X.w) k f fd ps sp) (hr:Room k X.A) (hb:Wa X.K fd ps ds) (hd:Vals dvs ds) (ha:PA X (e :: es) t)
  (hex:X.ex=[]:=by rfl) (hx:X.xe=(λ_ _=>False):=by rfl) (hst:starEach (e :: es) X.env=(false,eval e X.env) :: starEach es X.env:=by rfl) (hpl:(backTo pos (starEach es X.env)).any (·.1)=false:=by rfl)
  (ht:eval (.Call (.Attribute o m apos) (e :: es) [] pos) X.env=(do
   let ov <- eval o X.env
   standAt apos.atName
   let (f,first) <- holding [ov] (getMethod ov m pl)
   callWith pos f first (backTo pos (starEach (e :: es) X.env)) (backToKw pos (keywordEach [] X.env))):=by rfl) :
  PEX fr X (.Call (.Attribute o m apos) (e :: es) [] pos) (Znp C m sp dvs ta t):=by
 intro pins s σ H Q E I h
 have h0:=he pins s σ H _ I h
 rw [hx] at h0
 refine PySem.W.methodCall_KW (pl:=pl) (wpAny_mono h0 (λu s1 zz34=>?_) λ_ _ z=>z.elim) ht
 obtain ⟨x,H1,I1,rx,a,dx,fs,ex,ea,l,q⟩:=zz34
 subst ex
 obtain rfl:u=Value.ref a:=rx
 refine V7 I1 ea c hm l ?_
 have h1:=ha pos pins s1 σ H1 _ I1 q
 rw [hx] at h1
 refine PySem.W.callWith_K (first:=[.ref a]) (h₀:=X.base) I.ok.mod.kin hm.kp (wpAny_mono h1 (λus s2 zz35=>?_) λ_ _ z=>z.elim) hst hpl
 obtain ⟨vs,H2,I2,r,q2⟩:=zz35
 refine ⟨I2.kIn,?_⟩
 exact Zew (us:=.ref a :: us) (vs:=.ref a :: vs) F hr hb hd hex I2 (.cons rfl r) q2
end
theorem Yl.there {P:Program} {w:World} {H:Hp} {h:Heap} {a:Addr}:∀ {o:HO},Yl P w H h a o->∃ ob,h.get? a=some ob
 | .lst _,x=>by obtain ⟨_,_,_,_,e⟩:=x; exact ⟨_,e⟩
 | .tup _,x=>by obtain ⟨_,_,_,ob,e,_⟩:=x; exact ⟨_,e⟩
 | .dK _,x=>by obtain ⟨_,_,_,_,o,_,_,e,_⟩:=x; exact ⟨_,e⟩
 | .dT _,x=>by obtain ⟨_,_,_,_,o,_,_,e,_⟩:=x; exact ⟨_,e⟩
 | .set _ _,x=>by obtain ⟨o,_,_,_,e,_⟩:=x; exact ⟨_,e⟩
 | .ins _ _ _,x=>by obtain ⟨_,_,_,e,_⟩:=x; exact ⟨_,e⟩
 | .own _,x=>by obtain ⟨_,e⟩:=x; exact ⟨_,e⟩
 | .xd _,x=>by obtain ⟨_,⟨_,_,_,e,_⟩,_⟩:=x; exact ⟨_,e⟩
 | .rng _ _,x=>by obtain ⟨_,_,_,e⟩:=x; exact ⟨_,e⟩
 | .frz _ _,x=>by obtain ⟨e,_⟩:=x; exact ⟨_,e⟩
 | .tbl _,x=>⟨_,(show h.get? a=some _ from x)⟩
 | .met _ _,x=>⟨_,(show h.get? a=some _ from x)⟩
 | .ext _,x=>by obtain ⟨_,⟨_,e⟩,_⟩:=x; exact ⟨_,e⟩
section
variable {X:Cx} {pins:List (Addr × Obj)} {σ:St} {H:Hp} {s:Shared}
theorem Inv.untr (I:Inv X pins σ H s) {b:Addr} (hb:s.heap.get? b=none):H b=none:=by
 cases q:H b with
 | none=>rfl
 | some o =>
  obtain ⟨ob,e⟩:=(I.hok b o q).there
  rw [hb] at e; cases e
theorem Inv.fxOk (I:Inv X pins σ H s) (hex:X.ex=[]) {b:Addr} (hb:s.heap.get? b=none):FxOk X pins H b:=by
 refine ⟨I.untr hb,λz=>?_,λz=>?_,?_,λx c e z=>?_,λp hp z=>?_⟩
 ·obtain ⟨m,⟨o,_,_,ho,_⟩,_⟩:=I.loc
  rw [z,ho] at hb; cases hb
 ·obtain ⟨_,o,ho,_⟩:=I.funs.mem z
  rw [ho] at hb; cases hb
 ·cases q:X.s₀.heap.get? b with
  | none=>rfl
  | some o =>
   obtain ⟨o',e'⟩:=I.base.there b o q (by rw [hex]; simp)
   rw [hb] at e'; cases e'
 ·obtain ⟨v,o,ho,_⟩:=I.cell x c e
  rw [z,hb] at ho; cases ho
 ·have:=(I.pin p hp).1
  rw [z,hb] at this; cases this
end
structure ExcK (K:PySem.W.Frag) (C:Addr) (bmB:List Value) (newId:String):Prop where
 q:PySem.W.excIn K C bmB newId=true
theorem Zm5 {K:PySem.W.Frag} {h:Heap} {C:Addr} {bmB:List Value} {newId:String} (X:K.In h) (q:PySem.W.excIn K C bmB newId=true) :
  ∃ bm N nm q bs hdct sn sub ab col dd k0 k1 k2 k3 k5 mN,h.get? C=some (excClassObj nm q C N bs bm hdct sn sub ab col dd k0 k1 k2 k3 k5 newId)/\h.Ns N mN/\mN "__init__"=none/\OwnTail h bmB bm:=by
 unfold PySem.W.excIn at q
 split at q
 ·rename_i dd cd sl ho
  split at q
  ·rename_i C' bm k0 k1 k2 k3 n k5 hm hs
   simp only [Bool.and_eq_true,beq_iff_eq,Bool.not_eq_true'] at q
   obtain ⟨⟨⟨⟨⟨rfl,rfl⟩,hdel⟩,ht⟩,hok⟩,hni⟩:=q
   obtain ⟨nm,bs,mro,ns,qn,hd,sn,sub,ab,col,del⟩:=cd
   dsimp only at hm hdel hok hni
   subst hm hdel
   have hsl:sl=#[k0,k1,k2,k3,some (.builtin n),k5]:=by
    obtain ⟨l⟩:=sl
    simp only at hs
    rw [hs]
   subst hsl
   exact ⟨bm,ns,nm,qn,bs,hd,sn,sub,ab,col,dd,k0,k1,k2,k3,k5,_,X _ _ ho,.of_isNs (PySem.W.isNs_of_in X hok),PySem.W.nsMap_none_of_in X hok hni,PySem.W.tail_of_in X ht⟩
  ·cases q
 ·cases q
section
variable {X:Cx}
noncomputable def Zno (C:Addr) (t:TA):TSX:=λ_ R σ H=>t σ H λvs H1=>vs.length<=1000/\R (.ref C) σ H1
theorem Xi {C:Addr} {bmB:List Value} {B newId initId:String} {x:Str} {np cpos pos:Pos} {e:Expr} {es:List Expr} {t:TA} (K:ExcK X.K C bmB newId) (FB:ExcBaseFacts B newId initId bmB) (hg:Gl X x) (hm:X.mg x=some (.ref C)) (hc:X.calm=true) (ha:PA X (e :: es) t)
  (hex:X.ex=[]:=by rfl) (hx:X.xe=(λ_ _=>False):=by rfl) (hdb:(x == ("__debug__":Str))=false:=by decide) (he:starEach (e :: es) X.env=(false,eval e X.env) :: starEach es X.env:=by rfl) (hpl:(backTo cpos (starEach es X.env)).any (·.1)=false:=by rfl) :
  PSX true X (.Raise (some (.Call (.Name x np) (e :: es) [] cpos)) none pos) (Zno C t):=by
 intro pins s σ H D R I h
 obtain ⟨tl,N,nm,q,bs,hdct,sn,sub,ab,col,dd,k0,k1,k2,k3,k5,mN,hC,hN,hni,T⟩:=Zm5 I.ok.mod.kin K.q
 refine wpAny_Raise_call_subT (C:=C) (nm:=nm) (q:=q) (N:=N) (bs:=bs) (bm:=tl) (hdct:=hdct) (sn:=sn) (sub:=sub) (ab:=ab) (col:=col) (dd:=dd) (k0:=k0) (k1:=k1) (k2:=k2) (k3:=k3) (k5:=k5)
  FB (mN:=mN) (T.hasType FB.hasBase) (I.ok.hd hc) (by rw [he]; show (false || (backTo cpos (starEach es X.env)).any (·.1))=false; rw [hpl]; rfl) hni (Jk I hg hm ⟨rfl,?_⟩ hdb)
 have h0:=ha cpos pins s σ H _ I h
 rw [hx] at h0
 rw [he] at h0 ⊢
 refine Calls.evalArgs_plain (wpAny_mono h0 (λus s₂ zz36=>?_) λ_ _ z=>z.elim)
 obtain ⟨vs,H1,I1,r1,hl,q1⟩:=zz36
 have kb:=I1.bk
 refine ⟨rfl,?_,kb _ _ hC,hN.keeps kb,T.keeps kb,λh' ea hm'=>?_⟩
 ·rw [<- r1.length]
  exact Nat.le_of_lt (Zx hl)
 obtain ⟨tt,h1,h2,h3⟩:=hm'.there
 have I2:Inv X pins σ H1 { s₂ with heap:=h' }:=I1.kept (t':=s₂.toks) hm'.keeps
 have fx:=I1.fxOk hex hm'.new
 exact ⟨ea,none,.ref C,.ref tt,σ,H1,rfl,I2,⟨_,_,h1,⟨rfl,rfl⟩,rfl,rfl⟩,⟨fx.nt,fx.nl,fx.nf,fx.n0,fx.nc,fx.np⟩,(λt z=>nomatch z),(λ_=>rfl),q1⟩
theorem Un.leave {fs:List Addr} {H₀ H:Hp} {h₀ h h':Heap} (u:Un fs [] H₀ H h₀ h) (hk:∀ b o,h₀.get? b=some o->b ∉ fs->h.get? b=some o->h'.get? b=some o)
  (hs:∀ b o,b∈fs->h.get? b=some o->∃ sl,h'.get? b=some { o with slots:=sl }) (ht:∀ b o,h₀.get? b=some o->∀ o',h.get? b=some o'->∃ o'',h'.get? b=some o''):Un fs [] H₀ H h₀ h' where
 keep:=λb o e n hb hx=>hk b o e hb (u.keep b o e n hb hx)
 slot:=λb o e n hb hx=>by
  obtain ⟨sl,e1⟩:=u.slot b o e n hb hx
  obtain ⟨sl',e2⟩:=hs b _ hb e1
  exact ⟨sl',e2⟩
 free:=u.free
 there:=λb o e hx=>by
  obtain ⟨o',e1⟩:=u.there b o e hx
  exact ht b o e o' e1
 tups:=u.tups
 frzs:=u.frzs
 tbls:=u.tbls
theorem Vs {X:Cx} {pins:List (Addr × Obj)} {σ:St} {H:Hp} {s:Shared} (I:Inv X pins σ H s) (as:List Addr) (hs:∀ b∈frs X.stack,b∈as):s.heap.FunFrames (PySem.W.hideAll s.heap as) X.stack:=by
 have all:∀ (l:List Env),(∀ b∈frs l,b∈as)->s.heap.FunFrames X.base l->s.heap.FunFrames (PySem.W.hideAll s.heap as) l:=by
  intro l
  induction l with
  | nil=>intro _ _; trivial
  | cons env r ih =>
   intro hs hl
   obtain ⟨hk,⟨L,o,hf,hn,ho,hd⟩,hr⟩:=hl
   have hL:L∈as:=hs L (by unfold frs; rw [List.filterMap_cons,hf]; exact List.mem_cons_self)
   exact ⟨hk,⟨L,o,hf,PySem.W.hideAll_none as hL,ho,hd⟩,ih (λb hb=>hs b (by unfold frs; rw [List.filterMap_cons,hf]; exact List.mem_cons_of_mem _ hb)) hr⟩
 exact all X.stack hs I.stack
theorem Inv.fnd {X:Cx} {pins:List (Addr × Obj)} {σ:St} {H:Hp} {s:Shared} (I:Inv X pins σ H s) {b:Addr} (hb:b∈frs X.stack) {o:Obj} (e:s.heap.get? b=some o):∀ vs,o.data≠.fields vs:=by
 obtain ⟨_,o',e',d⟩:=I.stack.mem hb
 rw [e] at e'; cases e'
 exact d
end
theorem FxOk.none {X:Cx} {pins:List (Addr × Obj)} {H:Hp} {b:Addr} (h:FxOk X pins H b):FxOk X [] H b:=⟨h.nt,h.nl,h.nf,h.n0,h.nc,λp hp=>h.np p (by rw [List.append_nil] at hp; exact List.mem_append_left _ hp)⟩
section
variable {P:Program} {w:World} {K:PySem.W.Frag} {mg:Str->Option Value} {base:Heap}
theorem Zkl {N:List Str} {qual:Str} {scope:Scope} {f:Addr} {cd:Value} {A:Around} {outer:List Env} {s s':Shared} {H:Hp} {E:XK} {ev:Value}
  {fr:Bool} (h:XS fr (cxOf (CXr P w) P w K mg base N qual scope f cd A outer s H E).nox [] (λcls _ H'=>E cls none H') ev s'):(cxOf (CXr P w) P w K mg base N qual scope f cd A outer s H E).xe ev s':=by
 obtain ⟨e,T,cls,a0,σ',H',rfl,I,hx,fe,fT,_,q⟩:=h
 show wpAny (model P w) (A.deeper (envOfC qual scope s.heap.objs.size f cd)) (leaving (envOfC qual scope s.heap.objs.size f cd) (.ref e)) (λ_ s''=>CXr P w outer H s E (.ref e) s'') (λe' s''=>CXr P w outer H s E e' s'') s'
 have hst:(cxOf (CXr P w) P w K mg base N qual scope f cd A outer s H E).nox.stack=envOfC qual scope s.heap.objs.size f cd :: outer:=rfl
 have hfr:(A.deeper (envOfC qual scope s.heap.objs.size f cd)).frames=some (envOfC qual scope s.heap.objs.size f cd :: outer):=I.ok.frames
 have n0:∀ b,b∈e :: T.toList->s.heap.get? b=none:=λb hb=>by
  rcases List.mem_cons.mp hb with z | z
  ·rw [z]; exact fe.n0
  ·cases T with
   | none=>simp at z
   | some t =>
    have:b=t:=by simpa using z
    rw [this]; exact (fT t rfl).n0
 have nt:∀ b,b∈e :: T.toList->H' b=none:=λb hb=>by
  rcases List.mem_cons.mp hb with z | z
  ·rw [z]; exact fe.nt
  ·cases T with
   | none=>simp at z
   | some t =>
    have:b=t:=by simpa using z
    rw [this]; exact (fT t rfl).nt
 have hB:∀ b o,b ∉ e :: T.toList->b ∉ frs (envOfC qual scope s.heap.objs.size f cd :: outer)->s'.heap.get? b=some o->(PySem.W.hideAll s'.heap ((e :: T.toList) ++ frs (envOfC qual scope s.heap.objs.size f cd :: outer))).get? b=some o:=λb o h1 h2 e1 =>
  PySem.W.hideAll_get _ e1 λz=>(List.mem_append.mp z).elim h1 h2
 have hl:s'.heap.FunFrames (PySem.W.hideAll s'.heap ((e :: T.toList) ++ frs (envOfC qual scope s.heap.objs.size f cd :: outer))) (envOfC qual scope s.heap.objs.size f cd :: outer):=Vs I _ λb hb=>List.mem_append_right _ hb
 have hkb:(PySem.W.hideAll s'.heap ((e :: T.toList) ++ frs (envOfC qual scope s.heap.objs.size f cd :: outer))).StaysIn s'.heap:=λb o e1=>PySem.W.of_hideAll _ e1
 have hen:(PySem.W.hideAll s'.heap ((e :: T.toList) ++ frs (envOfC qual scope s.heap.objs.size f cd :: outer))).get? e=none:=PySem.W.hideAll_none _ (List.mem_append_left _ List.mem_cons_self)
 have fin:∀ h',Heap.LeftW (PySem.W.hideAll s'.heap ((e :: T.toList) ++ frs (envOfC qual scope s.heap.objs.size f cd :: outer))) (envOfC qual scope s.heap.objs.size f cd :: outer) e cls a0 s'.heap h'->CXr P w outer H s E (.ref e) { s' with heap:=h' }:=λh' ⟨k1,k2,k3,k4⟩=>by
  obtain ⟨oe,vs,T',oT,ts,x1,x2,x3,x4,x5,x6,x7,x8,x9⟩:=k3
  have notfr:∀ b o,b∈frs (envOfC qual scope s.heap.objs.size f cd :: outer)->s'.heap.get? b=some o->∃ sl,h'.get? b=some { o with slots:=sl }:=λb o hb e1=>k4 b o e1 (I.fnd hb e1)
  have kept:∀ b o,b ∉ e :: T.toList->b ∉ frs (envOfC qual scope s.heap.objs.size f cd :: outer)->s'.heap.get? b=some o->h'.get? b=some o:=λb o h1 h2 e1=>k1 b o (hB b o h1 h2 e1)
  have nL:∀ b o,s.heap.get? b=some o->b ∉ frs outer->b ∉ frs (envOfC qual scope s.heap.objs.size f cd :: outer):=λb o e1 h2 z=>by
   have z':b∈s.heap.objs.size :: frs outer:=z
   rcases List.mem_cons.mp z' with z1 | z1
   ·rw [z1] at e1; exact absurd (Heap.lt_size e1) (Nat.lt_irrefl _)
   ·exact h2 z1
  have nE:∀ b o,s.heap.get? b=some o->b ∉ e :: T.toList:=λb o e1 z=>by rw [n0 b z] at e1; cases e1
  have trk:∀ b u,H' b=some u->∀ o,s'.heap.get? b=some o->h'.get? b=some o:=λb u hu o e1=>by
   refine kept b o (λz=>by rw [nt b z] at hu; cases hu) (λz=>?_) e1
   rw [I.stkFree b z] at hu; cases hu
  have hT':s.heap.get? T'=none/\H' T'=none:=by
   by_cases hz:s'.heap.get? T'=none
   ·refine ⟨?_,I.untr hz⟩
    cases q':s.heap.get? T' with
    | none=>rfl
    | some o =>
     obtain ⟨o',e'⟩:=I.base.there T' o q' (by simp [cxOf])
     rw [hz] at e'; cases e'
   ·obtain ⟨o,ho⟩:=Option.ne_none_iff_exists'.mp hz
    by_cases h1:T'∈e :: T.toList
    ·exact ⟨n0 T' h1,nt T' h1⟩
    ·by_cases h2:T'∈frs (envOfC qual scope s.heap.objs.size f cd :: outer)
     ·exfalso
      obtain ⟨sl,e'⟩:=notfr T' o h2 ho
      rw [x7] at e'
      cases e'
      exact I.fnd h2 ho ts x8
     ·rw [hB T' o h1 h2 ho] at x5; cases x5
  refine ⟨e,T',cls,a0,H',rfl,I.os,I.bare,?_,λb u hu=>?_,fe.n0,hT'.1,fe.nt,hT'.2,⟨oe,vs,oT,ts,x1,x2,x3,x4,x6,x7,x8,x9⟩,q⟩
  ·refine Un.leave I.base (λb o e1 h1 e2=>kept b o (nE b o e1) (nL b o e1 h1) e2) (λb o hb e1=>notfr b o (List.mem_cons_of_mem _ hb) e1) λb o e1 o' e2=>?_
   by_cases h2:b∈frs outer
   ·obtain ⟨sl,e'⟩:=notfr b o' (List.mem_cons_of_mem _ h2) e2
    exact ⟨_,e'⟩
   ·exact ⟨o',kept b o' (nE b o e1) (nL b o e1 h2) e2⟩
  ·refine (I.hok b u hu).stay (λc v hc e1=>?_) (λ_ z=>z) λ_ _ z=>z
   rcases hc with z | z
   ·exact trk c u (by rw [z]; exact hu) v e1
   ·exact trk c _ z v e1
 cases T with
 | none =>
  obtain ⟨oe,vs,x1,x2,x3,x4⟩:=hx
  obtain ⟨x21,x22⟩:=x2
  subst x21
  exact wpAny_leaving_firstW hfr hl rfl x1 hkb hen x3 x4 x22 fin
 | some t =>
  obtain ⟨oe,vs,oT,ts,x1,x2,x3,x4,x5,x6,x7,x8⟩:=hx
  exact wpAny_leaving_nextW hfr hl rfl ⟨oe,vs,t,oT,ts,x1,x2,x3,x4,PySem.W.hideAll_none _ (List.mem_append_left _ (by simp)),x5,x6,x7,x8⟩ hkb hen fin
theorem Fun.okX {x qual:Str} {st:Stmt} {f:Addr} {fd:FuncData} {N ps:List Str} {k:Nat} {sp:Sp} (F:Fun K x qual st f fd) (S:FnScope N ps (Zg st)) (len:∀ vs H Q E,sp vs H Q E->vs.length=ps.length)
  (hbody:∀ (cdv:Value) (A:Around) (outer:List Env) (s:Shared) (H:Hp) (vs:List V) (Q:VK) (E:XK),Room k (A.deeper (envOfC qual (Zg st) s.heap.objs.size f cdv))->sp vs H Q E ->
   ∃ t,PSsX true (cxOf (CXr P w) P w K mg base N qual (Zg st) f cdv A outer s H E).nox (Y0 st) t/\t { nx:=λ_ H'=>Q .non H',rt:=Q } (λcls _ H'=>E cls none H') (start N vs) H):FnOk P w K mg base (CXr P w) (k + 1) f fd ps sp:=by
 obtain ⟨oc,od,kV,doc,pm,an,cdv,ct,osl,rfl,lk,hcd⟩:=F.ex
 refine Zlf lk hcd S len λA outer s H vs Q E hr hsp=>?_
 obtain ⟨t,h,q⟩:=hbody cdv A outer s H vs Q E hr hsp
 refine ⟨λD σ H'=>t D (λcls _ H''=>E cls none H'') σ H',λpins s' σ' H' D I hD=>?_,q⟩
 refine wpAny_mono (h pins s' σ' H' D _ (I.wish _) hD) (λ_ _ z=>z.unwish) λev s'' z=>Zkl (fr:=true) ?_
 obtain ⟨e,T,cls,a0,σ2,H2,h1,h2,h3,h4,h5,h7,h6⟩:=z
 exact ⟨e,T,cls,a0,σ2,H2,h1,h2.pins_of (λp hp=>absurd hp (by simp)),h3,h4.none,λt ht=>(h5 t ht).none,h7,h6⟩
end
section
variable {X:Cx}
theorem Inv.exc {pins:List (Addr × Obj)} {σ:St} {H:Hp} {s:Shared} {e T:Addr} {h':Heap} (I:Inv X pins σ H s) (hex:X.ex=[]) (fe:FxOk X pins H e) (fT:FxOk X pins H T)
  (keep:∀ b o,b≠e->b≠T->b ∉ frs X.stack->s.heap.get? b=some o->h'.get? b=some o) (slot:∀ b o,b∈frs X.stack->s.heap.get? b=some o->∃ sl,h'.get? b=some { o with slots:=sl }):Inv X pins σ H { s with heap:=h' }:=by
 have fss:∀ b∈X.fs,b∈frs X.stack:=λb hb=>by
  rcases I.ok.stk with z | ⟨z,hf⟩
  ·rw [z]; exact hb
  ·rw [z]; unfold frs; rw [List.filterMap_cons,hf]; exact List.mem_cons_of_mem _ hb
 have data:∀ b o,b≠e->b≠T->s.heap.get? b=some o->∃ sl,h'.get? b=some { o with slots:=sl }:=λb o h1 h2 e1=>by
  by_cases hb:b∈frs X.stack
  ·exact slot b o hb e1
  ·exact ⟨o.slots,keep b o h1 h2 hb e1⟩
 have ne0:∀ b o,X.s₀.heap.get? b=some o->b≠e/\b≠T:=λb o e1=>⟨λz=>(by rw [z,fe.n0] at e1; cases e1),λz=>(by rw [z,fT.n0] at e1; cases e1)⟩
 have cellK:∀ x c,X.env.cells.lookup x=some c->∀ v,s.heap.IsCell c v->h'.IsCell c v:=λx c ec v ⟨o,ho,hd⟩=>by
  obtain ⟨sl,e1⟩:=data c o (fe.nc x c ec) (fT.nc x c ec) ho
  exact ⟨_,e1,hd⟩
 refine ⟨I.ok,I.os,I.bare,⟨λb o e0 n hb hx=>?_,λb o e0 n hb hx=>?_,I.base.free,λb o e0 hx=>?_,I.base.tups,I.base.frzs,I.base.tbls⟩,?_,λx c ec=>?_,I.free,I.freeC,λp hp=>?_,λb u hu=>?_,I.len⟩
 ·obtain ⟨n1,n2⟩:=ne0 b o e0
  refine keep b o n1 n2 (λz=>?_) (I.base.keep b o e0 n hb hx)
  rcases List.mem_cons.mp (I.stkSub b z) with z1 | z1
  ·rw [z1] at e0; exact absurd (Nat.lt_of_lt_of_le (Heap.lt_size e0) I.ok.above) (Nat.lt_irrefl _)
  ·exact hb z1
 ·obtain ⟨sl,e1⟩:=I.base.slot b o e0 n hb hx
  obtain ⟨sl',e2⟩:=slot b _ (fss b hb) e1
  exact ⟨sl',e2⟩
 ·obtain ⟨n1,n2⟩:=ne0 b o e0
  obtain ⟨o',e1⟩:=I.base.there b o e0 hx
  obtain ⟨sl,e2⟩:=data b o' n1 n2 e1
  exact ⟨_,e2⟩
 ·obtain ⟨m,hn,hl⟩:=I.loc
  refine ⟨m,?_,λi x v e1 e2 e3=>?_⟩
  ·obtain ⟨o,es,ep,ho,hd,r⟩:=hn
   obtain ⟨sl,e1⟩:=data _ o (Ne.symm fe.nl) (Ne.symm fT.nl) ho
   exact ⟨_,es,ep,e1,hd,r⟩
  ·obtain ⟨u,r,l⟩:=hl i x v e1 e2 e3
   refine ⟨u,r,?_⟩
   rcases l with l | ⟨k,c,ec,z⟩
   ·exact .inl l
   ·exact .inr ⟨k,c,ec,cellK x c ec _ z⟩
 ·obtain ⟨v,z⟩:=I.cell x c ec
  exact ⟨v,cellK x c ec v z⟩
 ·obtain ⟨e1,n,ne,nf,d⟩:=I.pin p hp
  refine ⟨keep p.1 p.2 (fe.np p hp) (fT.np p hp) (λz=>?_) e1,n,ne,nf,d⟩
  rcases List.mem_cons.mp (I.stkSub p.1 z) with z1 | z1
  ·exact ne z1
  ·exact nf z1
 ·have trk:∀ b u,H b=some u->∀ o,s.heap.get? b=some o->h'.get? b=some o:=λb u hu o e1=>by
   refine keep b o (λz=>by rw [z,fe.nt] at hu; cases hu) (λz=>by rw [z,fT.nt] at hu; cases hu) (λz=>?_) e1
   rw [I.stkFree b z] at hu; cases hu
  refine (I.hok b u hu).stay (λc v hc e1=>?_) (λ_ z=>z) λ_ _ z=>z
  rcases hc with z | z
  ·exact trk c u (by rw [z]; exact hu) v e1
  ·exact trk c _ z v e1
noncomputable def Vf (X:Cx) (e:Addr):Cx:={ X with A:=X.A.mark (some (.ref e)),calm:=false }
theorem Inv.hnd {pins:List (Addr × Obj)} {σ:St} {H:Hp} {s:Shared} (I:Inv X pins σ H s) (e:Addr):Inv (Vf X e) pins σ H s :=
 ⟨⟨I.ok.mod,I.ok.kind,I.ok.glob,I.ok.blt,I.ok.above,I.ok.inj,I.ok.has,I.ok.cab,λh=>absurd (show false=true from h) Bool.false_ne_true,I.ok.frames,I.ok.stk,I.ok.exf,I.ok.bs,I.ok.bsz,I.ok.noex,I.ok.exfs,I.ok.funs,I.ok.frf⟩,
  I.os,I.bare,I.base,I.loc,I.cell,I.free,I.freeC,I.pin,I.hok,I.len⟩
theorem Inv.unhnd {pins:List (Addr × Obj)} {σ:St} {H:Hp} {s:Shared} {e:Addr} (I:Inv (Vf X e) pins σ H s) (ok:X.Ok):Inv X pins σ H s :=
 ⟨ok,I.os,I.bare,I.base,I.loc,I.cell,I.free,I.freeC,I.pin,I.hok,I.len⟩
theorem SP.unhnd {pins:List (Addr × Obj)} {D:Ends} {f:Flow} {s':Shared} {e:Addr} (h:SP (Vf X e) pins D f s') (ok:X.Ok):SP X pins D f s':=by
 cases f with
 | next=>obtain ⟨σ',H',I,q⟩:=h; exact ⟨σ',H',I.unhnd ok,q⟩
 | brk=>obtain ⟨σ',H',I,q⟩:=h; exact ⟨σ',H',I.unhnd ok,q⟩
 | cont=>obtain ⟨σ',H',I,q⟩:=h; exact ⟨σ',H',I.unhnd ok,q⟩
 | ret u=>obtain ⟨v,σ',H',I,r,q⟩:=h; exact ⟨v,σ',H',I.unhnd ok,r,q⟩
theorem Zoo {pins:List (Addr × Obj)} {σ:St} {H:Hp} {s:Shared} {e T:Addr} {cls a0:Value} (I:Inv X pins σ H s) (hx:FlyT e T cls a0 s.heap) :
  Heap.FlyingW (PySem.W.hideAll s.heap (e :: T :: frs X.stack)) X.stack e cls a0 s.heap:=by
 obtain ⟨oe,vs,oT,ts,x1,x2,x3,x4,x5,x6,x7,x8⟩:=hx
 exact ⟨λb o e1=>PySem.W.of_hideAll _ e1,PySem.W.hideAll_none _ (by simp),Vs I _ λb hb=>by simp [hb],oe,vs,T,oT,ts,x1,x2,x3,x4,PySem.W.hideAll_none _ (by simp),x5,x6,x7,x8⟩
theorem Inv.flown {pins:List (Addr × Obj)} {σ:St} {H:Hp} {s:Shared} {e T:Addr} {h':Heap} (I:Inv X pins σ H s) (hex:X.ex=[]) (fe:FxOk X pins H e) (fT:FxOk X pins H T)
  (hst:(PySem.W.hideAll s.heap (e :: T :: frs X.stack)).StaysIn h') (hup:s.heap.UpToSlots h'):Inv X pins σ H { s with heap:=h' }:=by
 refine I.exc hex fe fT (λb o h1 h2 h3 e1=>hst b o (PySem.W.hideAll_get _ e1 λz=>?_)) λb o hb e1=>hup b o e1 (I.fnd hb e1)
 rcases List.mem_cons.mp z with z | z
 ·exact h1 z
 ·rcases List.mem_cons.mp z with z | z
  ·exact h2 z
  ·exact h3 z
end
section
variable {X:Cx} {pins:List (Addr × Obj)} {σ:St} {H:Hp} {s:Shared} {A:Around} {E:Value->Shared->Prop} {a:Addr}
theorem Zor {kvs:List (Key × V)} {k:Key} {d:V} {u r:Value} {Q:Value->Shared->Prop} (I:Inv X pins σ H s) (e:H a=some (.dK kvs)) (hl:kvs.length < sizeLine) (ry:RelV (kV k) u) (rd:RelV d r)
  (h1:∀ v w' s',valV kvs k=some v->Inv X pins σ H s'->RelV v w'->Q w' s') (h2:valV kvs k=none->∀ s',Inv X pins σ (upd H a (.dK (putK kvs k d))) s'->Q r s') :
  wpAny (model X.prog X.w) A (call (.builtin "dict.setdefault") [.ref a,u,r]) Q E s:=by
 obtain ⟨z,hd,vs,rel,dd⟩:=Zbg I.hok e
 have hz:vs.length<=sizeLine:=by rw [<- rel.length]; exact z
 refine call_meetsIn PySem.F.slot_dict_setdefault dd.typeIs PySem.F.entry_dict_setdefault (PySem.F.args_dict_setdefault_3 _ _ _) (kt_meets_setdefault (Yd X.prog X.w) a (Jr ry) hd r) ⟨vs,dd,hz,λv hv=>?_,λhv h' dd' hs=>?_⟩
 ·have rel':=rel.val k
  rw [hv] at rel'
  cases q:valV kvs k with
  | none=>rw [q] at rel'; exact rel'.elim
  | some y=>rw [q] at rel'; exact h1 y v _ q (I.tok _) rel'
 ·have rel':=rel.val k
  rw [hv] at rel'
  cases q:valV kvs k with
  | some y=>rw [q] at rel'; exact rel'.elim
  | none =>
   have he:∃ q,h'.get? a=some q:=let ⟨q,_,_,hq,_⟩:=dd'; ⟨q,hq⟩
   have hl2:(putK kvs k d).length<=sizeLine:=by have:=Wm kvs k d; omega
   exact h2 q _ (Vu I (by rw [e]; exact True.intro) hs he (Fa hl2 hd (rel.put k rd) dd'))
end
noncomputable def Znr (td ty tx:TE):TE:=λσ H Q=>td σ H λx H1=>∃ a,x=.ref a/\IsD H1 a/\ty σ H1 λy H2=>tx σ H2 λz H3=>∃ kvs k,H3 a=some (.dK kvs)/\kvs.length < sizeLine/\y=kV k /\
 (∀ v,valV kvs k=some v->Q v H3)/\(valV kvs k=none->Q z (upd H3 a (.dK (putK kvs k z))))
section
variable {X:Cx} {o e f:Expr} {apos cpos:Pos} {td ty tx:TE}
theorem Zj2 (ho:PE X o td) (he:PE X e ty) (hf:PE X f tx) (m:M2 X o "setdefault" apos e f cpos):PE X (.Call (.Attribute o "setdefault" apos) [e,f] [] cpos) (Znr td ty tx):=by
 intro pins s σ H Q I h
 refine wpAny_Call_method m.base m.few m.line PySem.F.plainAttrs_dict PySem.F.slot_dict_setdefault PySem.F.type_dict_setdefault (thn (ho pins s σ H _ I h) λu s1 zz9=>?_)
 obtain ⟨x,H1,I1,rx,a,ex,d,q1⟩:=zz9
 subst ex
 obtain rfl:u=Value.ref a:=rx
 obtain ⟨t1,t2,_⟩:=G6 I1 d
 refine ⟨t1,t2,?_⟩
 rw [m.trees]
 refine Calls.callWith_builtin rfl (Calls.evalArgs_plain (Calls.spliced_cons (thn (he pins s1 σ H1 _ I1 q1) λiv s2 ⟨y,H2,I2,ry,q2⟩ =>
  Calls.spliced_cons (thn (hf pins s2 σ H2 _ I2 q2) λfv s3 ⟨z,H3,I3,rz,kvs,k,hk,hl,ey,q3,q4⟩=>Calls.spliced_nil ?_))))
 subst ey
 exact Zor I3 hk hl ry rz (λv w' s' hv I' rw'=>⟨v,H3,I',rw',q3 v hv⟩) λhv s' I'=>⟨z,_,I',rz,q4 hv⟩
theorem Zdd {P:Program} {w:World} {kvs:List (Key × V)} {vs:List (Key × Value)} {ks:List Int} (rel:KV kvs vs) (hk:kvs.map (·.1)=ks.map Sum.inl) {us:List Value} (hl:us.length=vs.length)
  (hu:∀ (j:Nat) (v:Value),us[j]?=some v->∃ k x,vs[j]?=some (k,x)/\(Yd P w).is k v=true):IntsAre us ks:=by
 have hkl:kvs.length=ks.length:=by have:=congrArg List.length hk; simpa using this
 have hvl:kvs.length=vs.length:=rel.length
 have key:∀ (j:Nat) (v:Value),us[j]?=some v->∃ i t,ks[j]?=some i/\v=Value.int i t:=λj v hv=>by
  obtain ⟨k,x,hx,hi⟩:=hu j v hv
  have e1:(vs.map (·.1))[j]?=some k:=by rw [List.getElem?_map,hx]; rfl
  have e2:vs.map (·.1)=kvs.map (·.1):=by
   clear hk hl hu hkl hvl hx hi e1
   induction rel with
   | nil=>rfl
   | cons r t ih=>rw [List.map_cons,List.map_cons,ih,r.1]
  rw [e2,hk,List.getElem?_map] at e1
  cases q:ks[j]? with
  | none=>rw [q] at e1; cases e1
  | some i =>
   rw [q] at e1
   have e3:Sum.inl i=k:=Option.some.inj e1
   subst e3
   obtain ⟨t,ht⟩:=Value.isInt_shape (k:=i) (v:=v) hi
   exact ⟨i,t,rfl,ht⟩
 have gen:∀ (us:List Value) (ks:List Int),us.length=ks.length->(∀ (j:Nat) (v:Value),us[j]?=some v->∃ i t,ks[j]?=some i/\v=Value.int i t)->IntsAre us ks:=by
  intro us
  induction us with
  | nil =>
   intro ks hl _
   cases ks with
   | nil=>exact .nil
   | cons _ _=>simp at hl
  | cons u r ih =>
   intro ks hl h
   cases ks with
   | nil=>simp at hl
   | cons i ks =>
    obtain ⟨i',t,e1,e2⟩:=h 0 u rfl
    have e1':i=i':=by simpa using e1
    subst e1' e2
    exact .cons i t (ih ks (by simpa using hl) λj v hv=>h (j + 1) v (by simpa using hv))
 exact gen us ks (by omega) key
theorem Oj (hc:X.calm=true):Xy X (.builtin "sorted") (λxs H Q=>∃ (d:Addr) (kvs:List (Key × V)) (ks:List Int),xs=[.ref d]/\Rd H d (.dK kvs)/\kvs.map (·.1)=ks.map Sum.inl/\ks.length < 64 /\
  ∀ (p:Addr) (out:List Int),H p=none->out.Perm ks->out.Pairwise (·<=·)->Q (.ref p) (upd H p (.lst (out.map V.int)))):=by
 intro pins s σ H xs us Q I r h
 obtain ⟨d,kvs,ks,rfl,hd,hk,h64,q⟩:=h
 obtain ⟨u,rfl,ru⟩:=We r
 obtain rfl:u=Value.ref d:=ru
 obtain ⟨z,hsys,vs,rel,dd⟩:=Ql I.hok hd
 obtain ⟨ep,hat⟩:=dd.dictAt
 have hlen:vs.length=ks.length:=by have:=congrArg List.length hk; rw [List.length_map,List.length_map] at this; have:=rel.length; omega
 have hn:vs.length<=sizeLine:=by rw [sizeLine_eq]; omega
 refine Calls.call_function_entry kind_sorted plain_sorted entry_sorted (args_sorted1 _) ?_
 unfold Builtin.«sorted»
 refine wpAny_bind (m:=checkCount "sorted" 1 1 _) (wpAny_pure ?_)
 refine wpAny_bind (PySem.W.kdu_collect (A:=X.A.in1) (PySem.W.kdl_dict (knd:=Yd X.prog X.w) (kvs:=vs) (ep:=ep) hsys) (I.ok.hd hc) hat hn λh' tk acc hk' hacc=>?_)
 have hl:acc.toList.length=vs.length:=by rw [Array.length_toList]; exact hacc.1
 have hI:IntsAre acc.toList ks:=Zdd (P:=X.prog) (w:=X.w) rel hk hl λj v hv=>hacc.2 j v (by rw [<- Array.getElem?_toList]; exact hv)
 refine wpAny_bind (wpAny_newList ?_ (by rw [hl]; exact hn))
 have I1:Inv X pins σ H { s with heap:=h',toks:=tk }:=I.kept hk'
 have hoL:(h'.push { cls:=.type "list",data:=.seq acc.toList.toArray }).get? h'.objs.size=some (seqObj "list" acc.toList.toArray 0):=Heap.get?_push_size _ rfl
 refine wpAny_bind (wpAny_holding (wpAny_call_entry slot_list_sort ⟨_,hoL,rfl⟩ entry_list_sort (list_sort_tree hoL hI (by omega) λout ns' a1 a2 a3=>⟨_,rfl,?_⟩) (args_list_sort _)))
 refine wpAny_pure ⟨_,rfl,?_⟩
 obtain ⟨e,he⟩:=sortedHeap_at (out:=out) hoL
 have kp:∀ b u,h'.get? b=some u->(sortedHeap (h'.push { cls:=.type "list",data:=.seq acc.toList.toArray }) h'.objs.size acc.toList out).get? b=some u:=λb u hb=>by
  have hlt:b < h'.objs.size:=Heap.lt_size hb
  rw [sortedHeap_old (Nat.ne_of_lt hlt) (by rw [Heap.size_push]; exact Nat.lt_succ_of_lt hlt)]
  exact Heap.get?_push_of_some _ hb
 have hv:Vals (ns'.map V.int) out.toList:=by
  clear he kp
  generalize out.toList=l at a1
  clear a2 a3
  induction a1 with
  | nil=>exact .nil
  | cons i t _ ih=>exact .cons ⟨_,rfl⟩ ih
 refine ⟨.ref h'.objs.size,upd H h'.objs.size (.lst (ns'.map V.int)),I1.laid kp (Nat.le_refl _) ?_,rfl,q _ ns' I1.fresh a2 a3⟩
 refine ⟨?_,out.toList,e,hv,?_⟩
 ·rw [List.length_map,a2.length_eq,sizeLine_eq]; omega
 ·rw [he]
end
section
variable {X:Cx} {pins:List (Addr × Obj)} {σ:St} {H:Hp} {s:Shared} {a:Addr}
theorem Inv.freeze {u:HO} {ob:Obj} (I:Inv X pins σ H s) (e:H a=some u) (mu:Mut (some u)) (ho:s.heap.get? a=some ob):Inv X pins σ (upd H a (.frz ob u)) s:=by
 have nown:∀ c y,H c=some (.own y)->c≠a:=λc y r z=>by subst z; rw [r] at e; cases e; exact mu
 have ntup:∀ c xs,H c=some (.tup xs)->c≠a:=λc xs r z=>by subst z; rw [r] at e; cases e; exact mu
 have nfrz:∀ c o xs,H c=some (.frz o xs)->c≠a:=λc o xs r z=>by subst z; rw [r] at e; cases e; exact mu
 have ntbl:∀ c ps,H c=some (.tbl ps)->c≠a:=λc ps r z=>by subst z; rw [r] at e; cases e; exact mu
 have un:Un X.fs [] H (upd H a (.frz ob u)) s.heap s.heap:=⟨λ_ _ q _ _ _=>q,λ_ o q _ _ _=>⟨o.slots,q⟩,λb o q n _=>by rw [Ze (λz=>by rw [z,e] at n; cases n)]; exact n,λb o q _=>⟨o,q⟩,
  λb xs q=>by rw [Ze (ntup b xs q)]; exact q,λb o xs q=>by rw [Ze (nfrz b o xs q)]; exact q,λb ps q=>⟨#[],by rw [Ze (ntbl b ps q),q]; simp⟩⟩
 have hok:HOk X.prog X.w (upd H a (.frz ob u)) s.heap:=λb v q=>by
  have st:∀ c w',Yl X.prog X.w H s.heap c w'->Yl X.prog X.w (upd H a (.frz ob u)) s.heap c w':=λc w' x=>x.stay (λ_ _ _ q=>q) (λd r=>by rw [Ze (nown d c r)]; exact r) λd xs r=>by rw [Ze (ntup d xs r)]; exact r
  by_cases hb:b=a
  ·subst hb
   rw [Zc] at q
   cases q
   exact ⟨ho,st _ _ (I.hok _ _ e)⟩
  ·rw [Ze hb] at q
   exact st _ _ (I.hok b v q)
 exact I.un (h':=s.heap) (t':=s.toks) un hok
end
section
theorem KV.at {kvs:List (Key × V)} {vs:List (Key × Value)} (r:KV kvs vs):∀ {i:Nat} {k:Key} {v:V},kvs[i]?=some (k,v)->∃ u,vs[i]?=some (k,u)/\RelV v u:=by
 induction r with
 | nil=>intro i k v h; simp at h
 | cons r t ih =>
  intro i k v h
  cases i with
  | zero =>
   simp at h
   subst h
   exact ⟨_,by rw [List.getElem?_cons_zero]; exact congrArg some (Prod.ext r.1.symm rfl),r.2⟩
  | succ i =>
   obtain ⟨u,h1,h2⟩:=ih (by simpa using h)
   exact ⟨u,by simpa using h1,h2⟩
theorem Zpp {P:Program} {w:World} {k:Key} {u:Value} (h:(Yd P w).is k u=true):RelV (kV k) u:=by
 cases k with
 | inl i=>obtain ⟨t,e⟩:=Value.isInt_shape (k:=i) (v:=u) h; exact ⟨t,e⟩
 | inr x=>obtain ⟨t,e⟩:=Value.isStrOf_shape (x:=x) (v:=u) h; exact ⟨t,e⟩
theorem Jm {X:Cx} {pins:List (Addr × Obj)} {σ:St} {H:Hp} {s:Shared} {d:Addr} {o:Obj} {kvs:List (Key × V)} (I:Inv X pins σ H s) (e:H d=some (.frz o (.dK kvs))) :
  ∃ vs ep,KV kvs vs/\s.heap.DictAt (Yd X.prog X.w) d vs ep/\s.heap.get? d=some o:=by
 obtain ⟨ho,_,_,vs,rel,dd⟩:=I.hok d _ e
 obtain ⟨ep,da⟩:=dd.dictAt
 exact ⟨vs,ep,rel,da,ho⟩
noncomputable def epOf (o:Obj):Nat:=match o.data with
 | .dict _ ep=>ep
 | _=>0
theorem Ox {P:Program} {w:World} {h:Heap} {d:Addr} {o:Obj} {vs:List (Key × Value)} {ep:Nat} (da:h.DictAt (Yd P w) d vs ep) (ho:h.get? d=some o):ep=epOf o:=by
 obtain ⟨o',es,h1,_,h2,_⟩:=da
 rw [ho] at h1
 cases h1
 unfold epOf
 rw [h2]
theorem Zgw {P:Program} {w:World} {K:PySem.W.Frag} {tg:Expr} (d it:Addr) (kvs:List (Key × V)) (o:Obj) :
  Turn P w K tg ⟨λi H=>i < kvs.length/\H d=some (.frz o (.dK kvs)),λi H x H'=>H'=H/\∃ k,kvs[i]?=some (k,x),λi H=>kvs.length<=i/\H d=some (.frz o (.dK kvs))⟩ [it] it (λi h=>h.IsValIter it d i kvs.length (epOf o)) where
 mem:=by simp
 obj:=λi h st b hb=>by
  have e:b=it:=by simpa using hb
  subst e
  obtain ⟨o,e,c,d⟩:=st
  exact ⟨o,e,λv z=>by rw [d] at z; cases z⟩
 keep:=λi h h' st k=>st.at λo e=>k it (by simp) o e
 item:=by
  intro X hP hw hK hc i pins s σ H E I hf st hg
  subst hP hw hK
  obtain ⟨hi,hq⟩:=hg
  obtain ⟨vs,ep,rel,da,ho⟩:=Jm I hq
  have hep:=Ox da ho
  subst hep
  obtain ⟨f0,f1,f2,f3,f4,f5⟩:=hf it (by simp)
  obtain ⟨⟨k,v⟩,hx⟩:∃ p,kvs[i]?=some p:=⟨_,List.getElem?_eq_getElem hi⟩
  obtain ⟨u,hu,ru⟩:=rel.at hx
  have hlen:vs.length=kvs.length:=rel.length.symm
  rw [<- hlen] at st
  refine wpAny_pyNext_values_item st da hu λh' st' sb=>?_
  have I1:Inv X pins σ H { s with heap:=h' }:=I.turned (t':=s.toks) (λb o hb e=>(sb.2 b hb).trans e) f0 f1 f3 f4 f5
  rw [hlen] at st'
  obtain ⟨oi,e,c,dd⟩:=id st'
  exact ⟨u,rfl,V6 (s:={ s with heap:=h' }) e c dd (by decide) ⟨v,H,I1,ru,⟨rfl,k,hx⟩,st',λb hb=>(hf b hb).1⟩⟩
 done:=by
  intro X hP hw hK hc i pins s σ H E I hf st hg
  subst hP hw hK
  obtain ⟨hi,hq⟩:=hg
  obtain ⟨vs,ep,rel,da,ho⟩:=Jm I hq
  have hep:=Ox da ho
  subst hep
  obtain ⟨f0,f1,f2,f3,f4,f5⟩:=hf it (by simp)
  have hlen:vs.length=kvs.length:=rel.length.symm
  rw [<- hlen] at st
  exact wpAny_pyNext_values_end (I.ok.hd hc) st da (by rw [List.getElem?_eq_none]; omega) λh' eb=>⟨rfl,I.turned (t':=s.toks) (λb o hb e=>eb b o hb e) f0 f1 f3 f4 f5⟩
 self:=λ_ _ _ _ _ st h=>wpAny_pyIter_valiter st h
end
section
variable {X:Cx} {tg:Expr} {l:Expr} {tl:TE}
noncomputable def Itv2 (d:Addr) (kvs:List (Key × V)) (o:Obj):It:=⟨λi H=>i < kvs.length/\H d=some (.frz o (.dK kvs)),λi H x H'=>H'=H/\∃ k,kvs[i]?=some (k,x),λi H=>kvs.length<=i/\H d=some (.frz o (.dK kvs))⟩
noncomputable def Zle (J:Addr->List (Key × V)->Obj->It) (tl:TE):TI:=λσ H R=>tl σ H λx H1=>∃ a kvs,x=.ref a/\((H1 a=some (.dK kvs)/\∀ o,R (J a kvs o) (upd H1 a (.frz o (.dK kvs))))\/∃ o,H1 a=some (.frz o (.dK kvs))/\R (J a kvs o) H1)
theorem Zdi {pins:List (Addr × Obj)} {σ:St} {H:Hp} {s:Shared} {a:Addr} {kvs:List (Key × V)} {R:Obj->Hp->Prop} (I:Inv X pins σ H s)
  (h:(H a=some (.dK kvs)/\∀ o,R o (upd H a (.frz o (.dK kvs))))\/∃ o,H a=some (.frz o (.dK kvs))/\R o H):∃ o H',H' a=some (.frz o (.dK kvs))/\Inv X pins σ H' s/\R o H':=by
 rcases h with ⟨e,r⟩ | ⟨o,e,r⟩
 ·obtain ⟨ob,ho⟩:=(I.hok a _ e).there
  exact ⟨ob,_,Zc,I.freeze e True.intro ho,r ob⟩
 ·exact ⟨o,H,e,I,r⟩
structure M0 (X:Cx) (o:Expr) (m:Str) (apos cpos:Pos):Prop where
 base:attributeBase o m X.env (eval o X.env)=eval o X.env
 few:((backTo cpos (starEach [] X.env)).all (λx=>!x.1) && (backToKw cpos (keywordEach [] X.env)).all (λx=>x.1.isSome)
  && decide (([]:List Expr).length + ([]:List Keyword).length + (if ([]:List Keyword).isEmpty then 0 else 1) < 30))=true
 line:(apos.endLine == cpos.line)=true
theorem Zmh {apos cpos:Pos} (hl:PE X l tl) (m:M0 X l "values" apos cpos):PI X tg (.Call (.Attribute l "values" apos) [] [] cpos) (Zle Itv2 tl):=by
 intro pins s σ H R I h
 refine wpAny_Call_method m.base m.few m.line PySem.F.plainAttrs_dict PySem.F.slot_dict_values PySem.F.type_dict_values (thn (hl pins s σ H _ I h) λv s1 zz9=>?_)
 obtain ⟨x,H1,I1,r1,q1⟩:=zz9
 obtain ⟨a,kvs,e,q⟩:=q1
 subst e
 cases r1
 obtain ⟨o,H2,e2,I2,q2⟩:=Zdi (R:=λo H=>R (Itv2 a kvs o) H) I1 q
 obtain ⟨vs,ep,rel,da,ho⟩:=Jm I2 e2
 have hep:=Ox da ho
 subst hep
 obtain ⟨_,_,hsys,_⟩:=I2.hok a _ e2
 have isd:IsD H2 a:=.inl ⟨kvs,.inr ⟨o,e2⟩⟩
 obtain ⟨t1,t2,_⟩:=G6 I2 isd
 refine ⟨t1,t2,?_⟩
 refine Calls.callWith_builtin rfl (PyProof.Rows.evalArgs_empty ?_)
 refine call_meetsIn PySem.F.slot_dict_values da.dictOf.typeIs PySem.F.entry_dict_values (PySem.F.args_dict_values_1 _) (meets_dict_values (Yd X.prog X.w) a hsys) ⟨⟨vs,da.dictOf⟩,?_⟩
 have I3:Inv X pins σ H2 { s1 with heap:=s1.heap.push { cls:=.type "dict_values",data:=.fields #[.ref a] } }:=I2.kept (t':=s1.toks) λb o e=>Heap.get?_push_of_some _ e
 refine wpAny_pyIter_values ⟨_,Heap.get?_push_size _ rfl,rfl,rfl⟩ (da.push _) ?_
 have hlen:vs.length=kvs.length:=rel.length.symm
 rw [hlen]
 refine ⟨(s1.heap.push { cls:=.type "dict_values",data:=.fields #[.ref a] }).objs.size,[(s1.heap.push { cls:=.type "dict_values",data:=.fields #[.ref a] }).objs.size],_,_,H2,rfl,I3.kept (t':=s1.toks) λb o e=>Heap.get?_push_of_some _ e,Zgw a _ kvs o,⟨_,Heap.get?_push_size _ rfl,rfl,rfl⟩,λb hb=>?_,q2⟩
 have e:b=(s1.heap.push { cls:=.type "dict_values",data:=.fields #[.ref a] }).objs.size:=by simpa using hb
 subst e
 exact I3.fpOk (Nat.le_refl _) (I3.hok.fresh (Nat.le_refl _))
end
section
noncomputable def Ite (K:PySem.W.Frag) (a:Addr):It :=
 ⟨λi H=>∃ xs x,SqL K H a xs/\xs[i]?=some x,λi H x H'=>∃ q y,H q=none/\x=.ref q/\(∀ xs,SqL K H a xs->xs[i]?=some y)/\H'=upd H q (.tup [.int i,y]),λi H=>∃ xs,SqL K H a xs/\xs.length<=i⟩
theorem Zgy {P:Program} {w:World} {K:PySem.W.Frag} {elts:List Expr} {x1:Nat} {pos:Pos} (a e it:Addr) (hne:e≠it):Turn P w K (.Tuple elts x1 pos) (Ite K a) [e,it] e (λi h=>(∃ old,IsEnum h e it i old)/\h.IsListIter it a i) where
 mem:=by simp
 obj:=λi h st b hb=>by
  obtain ⟨⟨old,h1⟩,o,h2,c,d⟩:=st
  rcases List.mem_cons.mp hb with z | z
  ·subst z
   exact ⟨_,h1,λv z=>by
    have z':Data.fields _=Data.cell v:=z
    cases z'⟩
  ·have z:b=it:=by simpa using z
   subst z
   exact ⟨o,h2,λv z=>by rw [d] at z; cases z⟩
 keep:=λi h h' st k=>⟨let ⟨old,h1⟩:=st.1; ⟨old,k e (by simp) _ h1⟩,st.2.at λo q=>k it (by simp) o q⟩
 item:=by
  intro X hP hw hK hc i pins s σ H E I hf st hg
  subst hP hw hK
  obtain ⟨xs,x,hq,hx⟩:=hg
  obtain ⟨its,rv,p,hz⟩:=I.list hq
  obtain ⟨u,hu,ru⟩:=rv.get hx
  obtain ⟨f0,f1,f2,f3,f4,f5⟩:=hf e (by simp)
  obtain ⟨g0,g1,g2,g3,g4,g5⟩:=hf it (by simp)
  obtain ⟨⟨old,he⟩,hit⟩:=st
  refine wpAny_pyNext_enum_item he hit p.isList (x:=u) (by simpa using hu) hne λh' ho' hit' ht' hsz' kk=>?_
  have eo:=Heap.lt_size he
  have io:it < s.heap.objs.size:=let ⟨o,q,_⟩:=hit; Heap.lt_size q
  refine ⟨.ref s.heap.objs.size,rfl,wpAny_letOwnedTupleGo_enum ho' λh'' he'' sb=>?_⟩
  have keepb:∀ b o,b≠e->b≠it->s.heap.get? b=some o->h''.get? b=some o:=λb o h1 h2 q=>(sb.2 b h1).trans (kk b o h1 h2 q)
  have ht'':h''.get? s.heap.objs.size=some { cls:=.type "tuple",data:=.seq #[.int i s.toks,u] }:=(sb.2 _ (Nat.ne_of_gt eo)).trans ht'
  have hn:H s.heap.objs.size=none:=I.hok.fresh (Nat.le_refl _)
  have I2:Inv X pins σ (upd H s.heap.objs.size (.tup [.int i,x])) { s with heap:=h'',toks:=s.toks + 1 }:=by
   refine I.step (g':=s.gens) (d':=s.drawn) (ch:=[e,it]) (λb hb=>?_) (λb o _ _ hc q _=>keepb b o (λz=>hc (by simp [z])) (λz=>hc (by simp [z])) q) (λb o _ _ hc q _=>⟨o.slots,keepb b o (λz=>hc (by simp [z])) (λz=>hc (by simp [z])) q⟩) (λb o _ q n=>by rw [Ze (Nat.ne_of_lt (Heap.lt_size q))]; exact n)
    (λb o hc q=>⟨o,keepb b o (λz=>hc (by simp [z])) (λz=>hc (by simp [z])) q⟩) (λb ys q=>by rw [Ze (Zj q hn)]; exact q) (λb o ys q=>by rw [Ze (Zj q hn)]; exact q) (λb ps q=>⟨#[],by rw [Ze (Zj q hn),q]; simp⟩) (λm hm=>?_) (λb v q=>?_) I.bare
   ·rcases List.mem_cons.mp hb with z | z
    ·subst z; exact ⟨f3,f1,f4,f5⟩
    ·have z:b=it:=by simpa using z
     subst z; exact ⟨g3,g1,g4,g5⟩
   ·obtain ⟨o,es,ep,ho,r⟩:=hm
    exact ⟨o,es,ep,keepb _ o (Ne.symm f1) (Ne.symm g1) ho,r⟩
   ·by_cases hb:b=s.heap.objs.size
    ·subst hb
     rw [Zc] at q
     cases q
     exact ⟨by show 2<=sizeLine; decide,[.int i s.toks,u],.cons ⟨_,rfl⟩ (.cons ru .nil),⟨_,ht'',rfl,_,rfl⟩⟩
    ·rw [Ze hb] at q
     refine (I.hok b v q).stay (λc w' hc z=>keepb c w' ?_ ?_ z) (λd z=>by rw [Ze (Zj z hn)]; exact z) λd ys z=>by rw [Ze (Zj z hn)]; exact z
     ·rintro rfl
      rcases hc with z | z
      ·rw [z,q] at f0; cases f0
      ·rw [f0] at z; cases z
     ·rintro rfl
      rcases hc with z | z
      ·rw [z,q] at g0; cases g0
      ·rw [g0] at z; cases z
  refine ⟨.ref s.heap.objs.size,_,I2,rfl,⟨_,x,hn,rfl,λys hy=>by rw [I.list_inj hy hq]; exact hx,rfl⟩,⟨⟨u,he''⟩,hit'.at λo q=>(sb.2 it (Ne.symm hne)).trans q⟩,λb hb=>?_⟩
  rcases List.mem_cons.mp hb with z | z
  ·subst z; rw [Ze (Nat.ne_of_lt eo)]; exact f0
  ·have z:b=it:=by simpa using z
   subst z; rw [Ze (Nat.ne_of_lt io)]; exact g0
 done:=by
  intro X hP hw hK hc i pins s σ H E I hf st hg
  subst hP hw hK
  obtain ⟨xs,hq,hx⟩:=hg
  obtain ⟨its,rv,p,hz⟩:=I.list hq
  obtain ⟨g0,g1,g2,g3,g4,g5⟩:=hf it (by simp)
  obtain ⟨⟨old,he⟩,hit⟩:=st
  have hl:=rv.length
  exact wpAny_pyNext_enum_end (I.ok.hd hc) he hit p.isList (by simp; omega) λh' eb=>⟨rfl,I.turned (t':=s.toks) (λb o hb e=>eb b o hb e) g0 g1 g3 g4 g5⟩
 self:=λ_ _ _ _ _ st h=>by
  obtain ⟨⟨old,he⟩,_⟩:=st
  exact wpAny_pyIter_enum he h
variable {X:Cx}
noncomputable def Zpv (K:PySem.W.Frag) (ta:TA):TI:=λσ H R=>ta σ H λvs H1=>∃ a,vs=[.ref a]/\(∃ xs,SqL K H1 a xs)/\R (Ite K a) H1
theorem Zmj {elts:List Expr} {x1:Nat} {tpos p pos:Pos} {l:Expr} {ta:TA} (hg:Gl X "enumerate") (hm:X.mg "enumerate"=none) (ha:PA X [l] ta) (hs:starEach [l] X.env=[(false,eval l X.env)]:=by rfl):PI X (.Tuple elts x1 tpos) (.Call (.Name "enumerate" p) [l] [] pos) (Zpv X.K ta):=by
 intro pins s σ H R I h
 refine Call_ (Xu I hg hm boot_enumerate (PyProof.Rows.callWith_type1 (thn (ha pos pins s σ H _ I h) λus s1 zz37=>?_) hs rfl))
 obtain ⟨vs,H1,I1,r1,q1⟩:=zz37
 obtain ⟨a,e,⟨xs,hq⟩,q⟩:=q1
 subst e
 obtain ⟨u,rfl,ru⟩:=We r1
 cases ru
 obtain ⟨its,rv,pl,hz⟩:=I1.list hq
 refine call_enumerate_list pl.isList λh' he hit hsz hk=>wpAny_pyIter_enum he ?_
 have I2:Inv X pins σ H1 { s1 with heap:=h' }:=I1.kept (t':=s1.toks) hk
 refine ⟨s1.heap.objs.size + 1,[s1.heap.objs.size + 1,s1.heap.objs.size],_,_,H1,rfl,I2,Zgy a _ _ (Nat.succ_ne_self _),⟨⟨.none,he⟩,hit⟩,λb hb=>?_,q⟩
 rcases List.mem_cons.mp hb with z | z
 ·subst z; exact I1.fpOk (Nat.le_succ _) (I1.hok.fresh (Nat.le_succ _))
 ·have z:b=s1.heap.objs.size:=by simpa using z
  subst z; exact I1.fpOk (Nat.le_refl _) (I1.hok.fresh (Nat.le_refl _))
theorem Zkx {K:PySem.W.Frag} {a:Addr} {xs:List V} {g:TG} {tb:TS} {D:Ends} {σ:St} {H:Hp} (Pv:Nat->St->Hp->Prop) (h0:Pv 0 σ H) (hl:∀ i σ H,i<=xs.length->Pv i σ H->SqL K H a xs)
  (hs:∀ i x σ H q,xs[i]?=some x->H q=none->Pv i σ H->g (.ref q) σ (upd H q (.tup [.int i,x])) λσ2 H2=>tb { D with nx:=Pv (i + 1),ct:=Pv (i + 1),bk:=D.nx } σ2 H2) (hd:∀ σ H,Pv xs.length σ H->D.nx σ H) :
  ∃ W:Nat->Nat->St->Hp->Prop,(∃ m,W 0 m σ H)/\∀ i m σ H,W i m σ H ->
   ((Ite K a).stop i H/\D.nx σ H)\/((Ite K a).go i H/\∃ N:St->Hp->Prop,(∀ σ' H',N σ' H'->∃ m',m' < m/\W (i + 1) m' σ' H')/\∀ x H',(Ite K a).yld i H x H'->g x σ H' λσ2 H2=>tb { D with nx:=N,ct:=N,bk:=D.nx } σ2 H2):=by
 refine ⟨λi m σ H=>m=xs.length - i/\i<=xs.length/\Pv i σ H,⟨xs.length,by simp,Nat.zero_le _,h0⟩,?_⟩
 rintro i m σ H ⟨rfl,hi,p⟩
 have q:=hl i σ H hi p
 by_cases hlt:i < xs.length
 ·refine .inr ⟨⟨xs,xs[i],q,by simp [hlt]⟩,Pv (i + 1),λσ' H' p'=>⟨xs.length - (i + 1),by omega,rfl,hlt,p'⟩,λx H' y=>?_⟩
  obtain ⟨c,z,hn,e1,e2,e3⟩:=y
  subst e1 e3
  exact hs i z σ H c (e2 xs q) hn p
 ·have e:i=xs.length:=by omega
  subst e
  exact .inl ⟨⟨xs,q,Nat.le_refl _⟩,hd σ H p⟩
theorem Zkw {d:Addr} {kvs:List (Key × V)} {o:Obj} {g:TG} {tb:TS} {D:Ends} {σ:St} {H:Hp} (Pv:Nat->St->Hp->Prop) (h0:Pv 0 σ H) (hl:∀ i σ H,i<=kvs.length->Pv i σ H->H d=some (.frz o (.dK kvs)))
  (hs:∀ i k x σ H,kvs[i]?=some (k,x)->Pv i σ H->g x σ H λσ2 H2=>tb { D with nx:=Pv (i + 1),ct:=Pv (i + 1),bk:=D.nx } σ2 H2) (hd:∀ σ H,Pv kvs.length σ H->D.nx σ H) :
  ∃ W:Nat->Nat->St->Hp->Prop,(∃ m,W 0 m σ H)/\∀ i m σ H,W i m σ H ->
   ((Itv2 d kvs o).stop i H/\D.nx σ H)\/((Itv2 d kvs o).go i H/\∃ N:St->Hp->Prop,(∀ σ' H',N σ' H'->∃ m',m' < m/\W (i + 1) m' σ' H')/\∀ x H',(Itv2 d kvs o).yld i H x H'->g x σ H' λσ2 H2=>tb { D with nx:=N,ct:=N,bk:=D.nx } σ2 H2):=by
 refine ⟨λi m σ H=>m=kvs.length - i/\i<=kvs.length/\Pv i σ H,⟨kvs.length,by simp,Nat.zero_le _,h0⟩,?_⟩
 rintro i m σ H ⟨rfl,hi,p⟩
 have q:=hl i σ H hi p
 by_cases hlt:i < kvs.length
 ·refine .inr ⟨⟨hlt,q⟩,Pv (i + 1),λσ' H' p'=>⟨kvs.length - (i + 1),by omega,rfl,hlt,p'⟩,λx H' y=>?_⟩
  obtain ⟨e,k,y⟩:=y
  subst e
  exact hs i k x σ _ y p
 ·have e:i=kvs.length:=by omega
  subst e
  exact .inl ⟨⟨Nat.le_refl _,q⟩,hd σ H p⟩
noncomputable def Zlq (ta:TA):TE:=λσ H Q=>ta σ H λvs H1=>∃ n:Nat,vs=[.int n]/\n<=1000/\∀ p,H1 p=none->Q (.ref p) (upd H1 p (.lst ((List.range n).map λ(i:Nat)=>V.int i)))
theorem Oc {a:Expr} {ta:TA} {p1 p2 pos pos2:Pos} (hgl:Gl X "list") (hml:X.mg "list"=none) (hg:Gl X "range") (hm:X.mg "range"=none) (hc:X.calm=true) (ha:PA X [a] ta) (hs:starEach [a] X.env=[(false,eval a X.env)]:=by rfl)
  (hs2:starEach [.Call (.Name "range" p2) [a] [] pos2] X.env=[(false,eval (.Call (.Name "range" p2) [a] [] pos2) X.env)]:=by rfl):PE X (.Call (.Name "list" p1) [.Call (.Name "range" p2) [a] [] pos2] [] pos) (Zlq ta):=by
 intro pins s σ H Q I h
 refine Call_ (Xu I hgl hml PySem.Pv.boot_list (PyProof.Rows.callWith_type1 ?_ hs2 rfl))
 rw [hs2]
 refine Calls.spliced_cons ?_
 refine Call_ (Xu I hg hm boot_range (PyProof.Rows.callWith_type1 (thn (ha pos2 pins s σ H _ I h) λus s1 zz38=>?_) hs rfl))
 obtain ⟨vs,H1,I1,r1,q1⟩:=zz38
 obtain ⟨n,e,hn,q⟩:=q1
 subst e
 obtain ⟨u,rfl,ru⟩:=We r1
 obtain ⟨t,rfl⟩:=ru
 refine call_range_1 (Calls.spliced_nil ?_)
 have hr:Builtin.Range.rangeSize 0 (n:Int) 1=n:=by rw [rangeSize_one]; split <;> omega
 refine call_list_range (I.ok.hd hc) (IsRange.new ..) (small_one (by omega) (by omega) (by omega) (by omega)) hr (by omega) λh' tk acc c' hk hS hacc=>?_
 have hk1:∀ b o,s1.heap.get? b=some o->h'.get? b=some o:=λb o e=>hk b o (Heap.get?_push_of_some _ e)
 have hv:Vals ((List.range n).map λ(i:Nat)=>V.int i) acc.toList:=by
  have gen:∀ (l:List Value) (k:Nat),(∀ (j:Nat) (v:Value),l[j]?=some v->∃ t,v=.int ((k + j:Nat):Int) t)->Vals ((List.range' k l.length).map λ(i:Nat)=>V.int i) l:=by
   intro l
   induction l with
   | nil=>intro k _; exact .nil
   | cons v r ih =>
    intro k h
    obtain ⟨t,e⟩:=h 0 v rfl
    rw [List.length_cons,List.range'_succ,List.map_cons]
    refine .cons ⟨t,by rw [e]; rfl⟩ (ih (k + 1) λj w hw=>?_)
    obtain ⟨t',e'⟩:=h (j + 1) w (by simpa using hw)
    exact ⟨t',by rw [e']; congr 1; omega⟩
  have hl:acc.toList.length=n:=by rw [Array.length_toList]; exact hacc.1
  have:=gen acc.toList 0 λj v hj=>by
   obtain ⟨t,e⟩:=hacc.2 j v (by rw [<- Array.getElem?_toList]; exact hj)
   exact ⟨t,by rw [e]; congr 1; omega⟩
  rw [hl,<- List.range_eq_range'] at this
  exact this
 have hle:s1.heap.objs.size<=(s1.heap.push { cls:=.type "range",data:=.fields #[.int 0 s1.toks,.int (n:Int) t,.int 1 (s1.toks + 1)] }).objs.size:=by rw [Heap.size_push]; exact Nat.le_succ _
 refine ⟨.ref _,upd H1 _ (.lst ((List.range n).map λ(i:Nat)=>V.int i)),I1.laid hk1 (Nat.le_of_lt (by first | exact Nat.lt_of_le_of_lt hle (Heap.lt_size hS) | (rw [Heap.size_push]; exact Nat.lt_succ_self _))) ⟨?_,acc.toList,c',hv,?_⟩,rfl,q _ (I1.hok.fresh ?_)⟩
 ·rw [List.length_map,List.length_range,sizeLine_eq]; omega
 ·simpa using hS
 ·rw [Heap.size_push]; exact Nat.le_succ _
end
noncomputable abbrev TJ:=Str->TE
section
variable {X:Cx}
theorem Wd (K:PySem.W.Frag) (h:X.K=K:=by rfl):IxR X (rIxL K):=h ▸ Z8
theorem Zbf (K:PySem.W.Frag) (h:X.K=K:=by rfl):Xy X (.builtin "len") (λxs H Q=>∃ p ys,xs=[.ref p]/\(SqL K H p ys\/SqT K H p ys)/\Q (.int ys.length) H):=h ▸ Zl
theorem F2 (K:PySem.W.Frag) (h:X.K=K:=by rfl):Xy X (.type "tuple") (λxs H Q=>∃ p ys,xs=[.ref p]/\((SqL K H p ys/\∀ l,H l=none->Q (.ref l) (upd H l (.tup ys)))\/(SqT K H p ys/\Q (.ref p) H))):=h ▸ Zbe
variable {tg l e:Expr} {tl ta:TE} {f:Str} {pos:Pos}
theorem Ze4 (K:PySem.W.Frag) (hl:PE X l tl) (h:X.K=K:=by rfl):PI X tg l (iTup K tl):=h ▸ Zn3 hl
end
section
variable {prog:Program} {w:World} {A:Around} {E:Value->Shared->Prop}
theorem Zp1 {it l:Addr} {xs:Array Value} (ne:l≠it) (k:Nat):∀ (i:Nat) (s:Shared) (Q:List Value->Shared->Prop),s.heap.IsListIter it l i->s.heap.IsList l xs->i + k<=xs.size ->
  (∀ h',h'.IsListIter it l (i + k)->Heap.SameBut it s.heap h'->Q ((xs.toList.drop i).take k) { s with heap:=h' })->wpAny (model prog w) A (draw (.ref it) k) Q E s:=by
 induction k with
 | zero =>
  intro i s Q a b c q
  have z:=q s.heap a (Heap.SameBut.refl ..)
  rw [List.take_zero] at z
  exact wpAny_pure z
 | succ k ih =>
  intro i s Q a b c q
  have lt:i < xs.size:=by omega
  refine wpAny_bind (m:=pyNext (.ref it)) (wpAny_pyNext_list_item a b (x:=xs[i]) (by simp [lt]) λg st sb=>?_)
  refine wpAny_bind (wpAny_holding (ih (i + 1) _ _ st (b.extBut sb.extBut ne) (by omega) λg2 st2 sb2=>wpAny_pure ?_))
  have z:=q g2 (by rw [Nat.add_right_comm] at st2; exact st2) (sb.trans sb2)
  rwa [List.drop_eq_getElem_cons (by simpa using lt),List.take_succ_cons,Array.getElem_toList] at z
theorem Zlm {l:Addr} {xs:Array Value} {s:Shared} {Q:List Value->Shared->Prop} (hc:A.handled=none) (b:s.heap.IsList l xs)
  (q:∀ h',Heap.ExtBut s.heap.objs.size s.heap h'->Q xs.toList { s with heap:=h' }):wpAny (model prog w) A (unpackItems (.ref l) xs.size none) Q E s:=by
 have ne:l≠s.heap.objs.size:=by obtain ⟨o,ho,_⟩:=b; exact Nat.ne_of_lt (Heap.lt_size ho)
 unfold unpackItems notIterableAtAll
 refine wpAny_bind (wpAny_bind (wpAny_specialOf b.typeIs PySem.F.slot_list_iter.lookup (wpAny_pure ?_)))
 rw [if_neg (by decide)]
 refine wpAny_bind (wpAny_holding (wpAny_pyIter_list b ?_))
 refine wpAny_bind (wpAny_holding (Zp1 ne xs.size 0 _ _ ⟨_,Heap.get?_push_size _ rfl,rfl,rfl⟩ (b.push _) (by omega) λg st sb=>?_))
 have e:(xs.toList.drop 0).take xs.size=xs.toList:=by rw [List.drop_zero,List.take_of_length_le]; simp
 rw [e,if_neg (by simp)]
 refine wpAny_bind (wpAny_holding (wpAny_pyNext_list_end hc st ((b.push _).extBut sb.extBut ne) (by simp) λg2 eb=>?_))
 rw [if_neg (by decide)]
 exact wpAny_pure (q g2 λc o hb z=>eb c o hb (sb.extBut c o hb (Heap.get?_push_of_some _ z)))
end
section
variable {X:Cx} {pos:Pos}
noncomputable def gLst (K:PySem.W.Frag) (n:Nat) (t:TGs):TG:=λv σ H Q=>∃ a xs,v=.ref a/\SqL K H a xs/\xs.length=n/\t xs σ H Q
theorem Zn6 {es:List Expr} {k:Nat} {t:TGs} {n:Nat} (hc:X.calm=true) (h:PGs X es t)
  (hn:(assignEach es X.env).length=n:=by rfl) (hst:(assignEach es X.env).findIdx? (·.1)=none:=by rfl):PG X (.Tuple es k pos) (gLst X.K n t):=by
 intro pins s σ H v u Q I r hw
 obtain ⟨a,xs,e1,hq,hl,hw⟩:=hw
 subst e1
 cases r
 obtain ⟨its,rv,p,hz⟩:=I.list hq
 rw [assign_Tuple]
 refine wpAny_bind (wpAny_standAt ?_)
 unfold unpack
 have hn2:(assignEach es X.env).length=its.toArray.size:=by rw [hn,<- hl,rv.length]; simp
 rw [hn2,hst]
 refine wpAny_bind (wpAny_holding (Zlm (I.ok.hd hc) p.isList λh' hx=>?_))
 have I1:Inv X pins σ H { s with heap:=h' }:=I.kept (t':=s.toks) λb o e=>hx b o (Nat.ne_of_lt (Heap.lt_size e)) e
 exact h pins _ σ H xs _ Q I1 (by simpa using rv) hw
end
noncomputable def Fh (w:World) (K:PySem.W.Frag) (a:Addr) (kvs:List (Key × V)):Prop :=
 ∃ o es ep vs,K.lookup a=some o/\o.ExactDict/\o.data=.dict es ep/\(∀ e∈es,∃ k,V4 k e.key=true/\e.hash=keyH w k)/\(∀ P:Program,Pairs (Yd P w) es.toList vs)/\(vs.map (·.1)).Nodup/\KV kvs vs/\(a == sysModules)=false
section
variable {X:Cx} {i o:Expr} {ty td:TE} {pos:Pos}
theorem Fh.here {pins:List (Addr × Obj)} {σ:St} {H:Hp} {s:Shared} {a:Addr} {kvs:List (Key × V)} (h:Fh X.w X.K a kvs) (I:Inv X pins σ H s):(a == sysModules)=false/\∃ vs,KV kvs vs/\s.heap.DictOf (Yd X.prog X.w) a vs:=by
 obtain ⟨o,es,ep,vs,h1,h2,h3,h4,h5,h6,h7,h8⟩:=h
 exact ⟨h8,vs,h7,o,es,ep,I.kIn a o h1,h2,h3,h4,h5 X.prog,h6⟩
noncomputable def Zlr (w:World) (K:PySem.W.Frag) (ty td:TE):TE:=λσ H Q=>ty σ H λy H1=>td σ H1 λx H2=>∃ a kvs k,x=.ref a/\Fh w K a kvs/\y=kV k/\Q (.bl (!(valV kvs k).isSome)) H2
theorem Zhr (hi:PE X i ty) (ho:PE X o td):PC X .NotIn i o (Zlr X.w X.K ty td):=by
 intro pins s σ H Q I h
 refine thn (hi pins s σ H _ I h) λiv s1 zz39=>?_
 obtain ⟨y,H1,I1,ry,q1⟩:=zz39
 refine thn (ho pins s1 σ H1 _ I1 q1) λu s2 zz9=>?_
 obtain ⟨x,H2,I2,rx,a,kvs,k,ex,g,ey,q2⟩:=zz9
 subst ex ey
 obtain rfl:u=Value.ref a:=rx
 obtain ⟨hd,vs,rel,dd⟩:=g.here I2
 refine wpAny_notIn_of (Jr ry) hd dd.mapOf ?_
 rw [<- (rel.val k).isSome_eq]
 exact ⟨.bl _,H2,I2.tok _,rfl,q2⟩
end
section
noncomputable def Itm2 (d:Addr) (kvs:List (Key × V)) (o:Obj):It :=
 ⟨λi H=>i < kvs.length/\H d=some (.frz o (.dK kvs)),λi H x H'=>∃ q k v,H q=none/\x=.ref q/\kvs[i]?=some (k,v)/\H'=upd H q (.tup [kV k,v]),λi H=>kvs.length<=i/\H d=some (.frz o (.dK kvs))⟩
theorem Zfs {P:Program} {w:World} {K:PySem.W.Frag} {elts:List Expr} {x1:Nat} {pos:Pos} (d it:Addr) (kvs:List (Key × V)) (o:Obj) :
  Turn P w K (.Tuple elts x1 pos) (Itm2 d kvs o) [it] it (λi h=>∃ a b,IsItemIter h it d i kvs.length (epOf o) a b) where
 mem:=by simp
 obj:=λi h st b hb=>by
  have e:b=it:=by simpa using hb
  subst e
  obtain ⟨a,c,z⟩:=st
  exact ⟨_,z,λv y=>by
   have y':Data.fields _=Data.cell v:=y
   cases y'⟩
 keep:=λi h h' st k=>by
  obtain ⟨a,c,z⟩:=st
  exact ⟨a,c,k it (by simp) _ z⟩
 item:=by
  intro X hP hw hK hc i pins s σ H E I hf st hg
  subst hP hw hK
  obtain ⟨hi,hq⟩:=hg
  obtain ⟨vs,ep,rel,da,ho⟩:=Jm I hq
  have hep:=Ox da ho
  subst hep
  obtain ⟨f0,f1,f2,f3,f4,f5⟩:=hf it (by simp)
  obtain ⟨⟨k,v⟩,hx⟩:∃ p,kvs[i]?=some p:=⟨_,List.getElem?_eq_getElem hi⟩
  obtain ⟨u,hu,ru⟩:=rel.at hx
  have hlen:vs.length=kvs.length:=rel.length.symm
  obtain ⟨a0,b0,st⟩:=st
  rw [<- hlen] at st
  have itlt:=Heap.lt_size st
  refine wpAny_pyNext_items_item st da hu λkey h' hk st' ht hsz kk=>?_
  rw [hlen] at st'
  refine ⟨.ref s.heap.objs.size,rfl,wpAny_letOwnedTupleGo_items st' λh'' st'' sb=>?_⟩
  have keepb:∀ b z,b≠it->s.heap.get? b=some z->h''.get? b=some z:=λb z hb e=>(sb.2 b hb).trans (kk b z hb e)
  have ht'':h''.get? s.heap.objs.size=some { cls:=.type "tuple",data:=.seq #[key,u] }:=(sb.2 _ (Nat.ne_of_gt itlt)).trans ht
  have hn:H s.heap.objs.size=none:=I.hok.fresh (Nat.le_refl _)
  have I2:Inv X pins σ (upd H s.heap.objs.size (.tup [kV k,v])) { s with heap:=h'' }:=by
   refine I.step (g':=s.gens) (d':=s.drawn) (ch:=[it]) (λb hb=>?_) (λb o _ _ hc q _=>keepb b o (λz=>hc (by simp [z])) q) (λb o _ _ hc q _=>⟨o.slots,keepb b o (λz=>hc (by simp [z])) q⟩) (λb o _ q n=>by rw [Ze (Nat.ne_of_lt (Heap.lt_size q))]; exact n)
    (λb o hc q=>⟨o,keepb b o (λz=>hc (by simp [z])) q⟩) (λb ys q=>by rw [Ze (Zj q hn)]; exact q) (λb o ys q=>by rw [Ze (Zj q hn)]; exact q) (λb ps q=>⟨#[],by rw [Ze (Zj q hn),q]; simp⟩) (λm hm=>?_) (λb v' q=>?_) I.bare
   ·have z:b=it:=by simpa using hb
    subst z; exact ⟨f3,f1,f4,f5⟩
   ·obtain ⟨o,es,ep,ho,r⟩:=hm
    exact ⟨o,es,ep,keepb _ o (Ne.symm f1) ho,r⟩
   ·by_cases hb:b=s.heap.objs.size
    ·subst hb
     rw [Zc] at q
     cases q
     exact ⟨by show 2<=sizeLine; decide,[key,u],.cons (Zpp hk) (.cons ru .nil),⟨_,ht'',rfl,_,rfl⟩⟩
    ·rw [Ze hb] at q
     refine (I.hok b v' q).stay (λc w' hc z=>keepb c w' ?_ z) (λd z=>by rw [Ze (Zj z hn)]; exact z) λd ys z=>by rw [Ze (Zj z hn)]; exact z
     rintro rfl
     rcases hc with z | z
     ·rw [z,q] at f0; cases f0
     ·rw [f0] at z; cases z
  refine ⟨.ref s.heap.objs.size,_,I2,rfl,⟨_,k,v,hn,rfl,hx,rfl⟩,⟨_,_,st''⟩,λb hb=>?_⟩
  have z:b=it:=by simpa using hb
  subst z; rw [Ze (Nat.ne_of_lt itlt)]; exact f0
 done:=by
  intro X hP hw hK hc i pins s σ H E I hf st hg
  subst hP hw hK
  obtain ⟨hi,hq⟩:=hg
  obtain ⟨vs,ep,rel,da,ho⟩:=Jm I hq
  have hep:=Ox da ho
  subst hep
  obtain ⟨f0,f1,f2,f3,f4,f5⟩:=hf it (by simp)
  have hlen:vs.length=kvs.length:=rel.length.symm
  obtain ⟨a0,b0,st⟩:=st
  rw [<- hlen] at st
  exact wpAny_pyNext_items_end (I.ok.hd hc) st da (by rw [List.getElem?_eq_none]; omega) λh' eb=>⟨rfl,I.turned (t':=s.toks) (λb o hb e=>eb b o hb e) f0 f1 f3 f4 f5⟩
 self:=λ_ _ _ _ _ st h=>by
  obtain ⟨a,b,st⟩:=st
  exact PySem.W.kcp_self st h
variable {X:Cx} {l:Expr} {tl:TE}
theorem Zj1 {elts:List Expr} {x1:Nat} {tpos apos cpos:Pos} (hl:PE X l tl) (m:M0 X l "items" apos cpos):PI X (.Tuple elts x1 tpos) (.Call (.Attribute l "items" apos) [] [] cpos) (Zle Itm2 tl):=by
 intro pins s σ H R I h
 refine wpAny_Call_method m.base m.few m.line PySem.F.plainAttrs_dict PySem.F.slot_dict_items PySem.F.type_dict_items (thn (hl pins s σ H _ I h) λv s1 zz9=>?_)
 obtain ⟨x,H1,I1,r1,q1⟩:=zz9
 obtain ⟨a,kvs,e,q⟩:=q1
 subst e
 cases r1
 obtain ⟨o,H2,e2,I2,q2⟩:=Zdi (R:=λo H=>R (Itm2 a kvs o) H) I1 q
 obtain ⟨vs,ep,rel,da,ho⟩:=Jm I2 e2
 have hep:=Ox da ho
 subst hep
 obtain ⟨_,_,hsys,_⟩:=I2.hok a _ e2
 have isd:IsD H2 a:=.inl ⟨kvs,.inr ⟨o,e2⟩⟩
 obtain ⟨t1,t2,_⟩:=G6 I2 isd
 refine ⟨t1,t2,?_⟩
 refine Calls.callWith_builtin rfl (PyProof.Rows.evalArgs_empty ?_)
 refine call_meetsIn PySem.F.slot_dict_items da.dictOf.typeIs PySem.F.entry_dict_items (PySem.F.args_dict_items_1 _) (meets_dict_items (Yd X.prog X.w) a hsys) ⟨⟨vs,da.dictOf⟩,?_⟩
 have I3:Inv X pins σ H2 { s1 with heap:=s1.heap.push { cls:=.type "dict_items",data:=.fields #[.ref a] } }:=I2.kept (t':=s1.toks) λb o e=>Heap.get?_push_of_some _ e
 refine wpAny_pyIter_items ⟨_,Heap.get?_push_size _ rfl,rfl,rfl⟩ (da.push _) ?_
 have hlen:vs.length=kvs.length:=rel.length.symm
 rw [hlen]
 refine ⟨(s1.heap.push { cls:=.type "dict_items",data:=.fields #[.ref a] }).objs.size,[(s1.heap.push { cls:=.type "dict_items",data:=.fields #[.ref a] }).objs.size],_,_,H2,rfl,I3.kept (t':=s1.toks) λb o e=>Heap.get?_push_of_some _ e,Zfs a _ kvs o,⟨_,_,Heap.get?_push_size _ rfl⟩,λb hb=>?_,q2⟩
 have e:b=(s1.heap.push { cls:=.type "dict_items",data:=.fields #[.ref a] }).objs.size:=by simpa using hb
 subst e
 exact I3.fpOk (Nat.le_refl _) (I3.hok.fresh (Nat.le_refl _))
end
section
noncomputable def Itr3 (lo st:Int) (n:Nat):It:=⟨λi _=>i < n,λi H x H'=>H'=H/\x=.int (lo + i * st),λi _=>n<=i⟩
theorem Zdr {P:Program} {w:World} {K:PySem.W.Frag} {tg:Expr} (it:Addr) (lo st:Int) (n:Nat):Turn P w K tg (Itr3 lo st n) [it] it (λi h=>IsRangeIter h it (lo + (i:Nat) * st) ((n:Int) - (i:Nat)) st) where
 mem:=by simp
 obj:=λi h st b hb=>by
  have e:b=it:=by simpa using hb
  subst e
  exact ⟨_,st,λv z=>by
   have z':Data.fields _=Data.cell v:=z
   cases z'⟩
 keep:=λi h h' st k=>k it (by simp) _ st
 item:=by
  intro X hP hw hK hc i pins s σ H E I hf st' hg
  subst hP hw hK
  obtain ⟨f0,f1,f2,f3,f4,f5⟩:=hf it (by simp)
  have W:=Walks.range (prog:=X.prog) (w:=X.w) (I.ok.hd hc) it lo st n
  refine W.item i s _ _ hg st' λv h' tk hv st2 kk=>?_
  obtain ⟨t,rfl⟩:=hv
  have I1:Inv X pins σ H { s with heap:=h',toks:=tk }:=I.turned (λb o hb e=>kk b o (by simpa using hb) e) f0 f1 f3 f4 f5
  exact ⟨_,rfl,V6 (s:={ s with heap:=h',toks:=tk }) (n:="range_iterator") st2 rfl rfl (by decide) ⟨.int (lo + i * st),H,I1,⟨t,rfl⟩,⟨rfl,rfl⟩,st2,λb hb=>(hf b hb).1⟩⟩
 done:=by
  intro X hP hw hK hc i pins s σ H E I hf st' hg
  subst hP hw hK
  obtain ⟨f0,f1,f2,f3,f4,f5⟩:=hf it (by simp)
  exact wpAny_pyNext_range_end (I.ok.hd hc) st' (by have:n<=i:=hg; omega) λh' eb=>⟨rfl,I.turned (t':=s.toks) (λb o hb e=>eb b o hb e) f0 f1 f3 f4 f5⟩
 self:=λ_ _ _ _ _ st h=>wpAny_pyIter_rangeiter st h
end
section
variable {X:Cx} {fr:Bool} {pos:Pos}
noncomputable def Zpe (te:TEX) (g:TG):TSX:=λD R σ H=>te σ H (λx H1=>g x σ H1 D.nx) λcls _ H1=>R cls σ H1
theorem Zme {tg e:Expr} {te:TEX} {g:TG} (he:PEX fr X e te) (hg:PG X tg g) (hs:swapsWithSole [tg] e pos.line X.env=pure false:=by rfl) (hw:swappedStores [tg] e X.env=pure none:=by rfl)
  (h1:(assignEach [tg] X.env).map (·.2)=[assign tg X.env]:=by rfl) (hx:X.xe=(λ_ _=>False):=by rfl):PSX fr X (.Assign [tg] e pos) (Zpe te g):=by
 intro pins s σ H D R I h
 refine wpAny_Assign_stores (wpAny_mono (he pins s σ H _ _ I h) (λv s1 ⟨x,H1,I1,r1,q1⟩=>?_) ?_) hs hw
 ·rw [h1]
  have z:=hg pins s1 σ H1 x v _ I1 r1 q1
  rw [hx] at z
  exact wpAny_mono z (λ_ _ y=>y) λ_ _ y=>y.elim
 ·rintro ev s1 ⟨e,T,cls,a0,σ',H',g1,g2,g3,g4,g5,g7,rfl,g6⟩
  exact ⟨e,T,cls,a0,σ',H',g1,g2,g3,g4,g5,g7,g6⟩
end
theorem kdict_mk2 {w:World} {K:PySem.W.Frag} {a:Addr} {h1 h2:Int} {t1 t2 t3 t4:Tok} {ep:Nat} {x1 y1 x2 y2:Str}
  (l:K.lookup a=some ⟨.type "dict",none,.dict #[⟨h1,.str x1 t1,.str y1 t2⟩,⟨h2,.str x2 t3,.str y2 t4⟩] ep,#[]⟩) (e1:h1=hashStr w x1) (e2:h2=hashStr w x2) (ne:x1≠x2) (sy:(a == sysModules)=false) :
  Fh w K a [(Sum.inr x1,.str y1),(Sum.inr x2,.str y2)]:=by
 refine ⟨_,_,_,[(Sum.inr x1,.str y1 t2),(Sum.inr x2,.str y2 t4)],l,⟨rfl,rfl,rfl⟩,rfl,λe he=>?_,λP=>?_,?_,?_,sy⟩
 ·have he:e=⟨h1,.str x1 t1,.str y1 t2⟩\/e=⟨h2,.str x2 t3,.str y2 t4⟩:=by simpa using he
  rcases he with rfl | rfl
  ·exact ⟨Sum.inr x1,J5 x1 t1,e1⟩
  ·exact ⟨Sum.inr x2,J5 x2 t3,e2⟩
 ·exact .cons (J5 x1 t1) rfl (.cons (J5 x2 t3) rfl .nil)
 ·refine List.nodup_cons.mpr ⟨?_,by simp⟩
  simp [ne]
 ·exact .cons ⟨rfl,⟨_,rfl⟩⟩ (.cons ⟨rfl,⟨_,rfl⟩⟩ .nil)
section
variable {X:Cx}
noncomputable def rEqL (K:PySem.W.Frag):R2:=λx y H Q=>∃ a b ns ms,x=.ref a/\y=.ref b/\SqL K H a (List.map V.int ns)/\SqL K H b (List.map V.int ms)/\Q (.bl (decide (ns=ms))) H
noncomputable def rNeL (K:PySem.W.Frag):R2:=λx y H Q=>∃ a b ns ms,x=.ref a/\y=.ref b/\SqL K H a (List.map V.int ns)/\SqL K H b (List.map V.int ms)/\Q (.bl (!decide (ns=ms))) H
theorem Zcx (hu:X.A.units + 64 < cLine):OpR X (compareOp .Eq) (rEqL X.K):=by
 intro pins s σ H x y v u Q I rx ry h
 obtain ⟨a,b,ns,ms,rfl,rfl,ha,hb,q⟩:=h
 cases rx
 cases ry
 obtain ⟨ia,ra,pa,_⟩:=I.list ha
 obtain ⟨ib,rb,pb,_⟩:=I.list hb
 exact PySem.W.eq_intsK pa.isList (Jb ra) pb.isList (Jb rb) hu ⟨.bl _,H,I,rfl,q⟩
theorem Zhy (hu:X.A.units + 64 < cLine):OpR X (compareOp .NotEq) (rNeL X.K):=by
 intro pins s σ H x y v u Q I rx ry h
 obtain ⟨a,b,ns,ms,rfl,rfl,ha,hb,q⟩:=h
 cases rx
 cases ry
 obtain ⟨ia,ra,pa,_⟩:=I.list ha
 obtain ⟨ib,rb,pb,_⟩:=I.list hb
 exact PySem.W.ne_intsK pa.isList (Jb ra) pb.isList (Jb rb) hu ⟨.bl _,H,I,rfl,q⟩
theorem Zjc (bs:List Bool):((List.range bs.length).all λi=>bs.getD i true)=bs.all id:=by
 rw [Bool.eq_iff_iff,List.all_eq_true,List.all_eq_true]
 constructor
 ·intro h b hb
  obtain ⟨i,hi,rfl⟩:=List.mem_iff_getElem.mp hb
  have:=h i (List.mem_range.mpr hi)
  rw [List.getD_eq_getElem?_getD,List.getElem?_eq_getElem hi] at this
  exact this
 ·intro h i hi
  have hi:=List.mem_range.mp hi
  rw [List.getD_eq_getElem?_getD,List.getElem?_eq_getElem hi]
  exact h _ (List.getElem_mem hi)
theorem Ga (hc:X.calm=true):Xy X (.builtin "all") (λxs H Q=>∃ p bs,xs=[.ref p]/\SqL X.K H p (List.map V.bl bs)/\Q (.bl (bs.all id)) H):=by
 intro pins s σ H xs us Q I r h
 obtain ⟨p,bs,rfl,hq,q⟩:=h
 obtain ⟨u,rfl,ru⟩:=We r
 cases ru
 obtain ⟨its,rv,pl,hz⟩:=I.list hq
 have ne:p≠s.heap.objs.size:=by obtain ⟨o,ho,_⟩:=pl.isList; exact Nat.ne_of_lt (Heap.lt_size ho)
 refine call_all_walk (wpAny_pyIter_list pl.isList ⟨s.heap.objs.size,_,_,_,_,_,λi=>bs.getD i true,rfl,Walks.list (A:=X.A.in1) (show X.A.in1.handled=none from I.ok.hd hc) s.heap.objs.size p ne its.toArray,⟨⟨_,Heap.get?_push_size _ rfl,rfl,rfl⟩,pl.isList.push _⟩,?_,?_⟩)
 ·intro i v s' Q' E' hv hq'
  have hv:its[i]?=some v:=by simpa using hv
  have hlen:=rv.length
  rw [List.length_map] at hlen
  have hi:i < bs.length:=by have:=(List.getElem?_eq_some_iff.mp hv).1; omega
  obtain ⟨u,hu,ru⟩:=rv.get (show (bs.map V.bl)[i]?=some (V.bl bs[i]) by rw [List.getElem?_map,List.getElem?_eq_getElem hi]; rfl)
  rw [hv] at hu
  cases hu
  cases ru
  have e:bs.getD i true=bs[i]:=by rw [List.getD_eq_getElem?_getD,List.getElem?_eq_getElem hi]; rfl
  refine wpAny_truthy_bool ?_
  have hq':Q' (bs.getD i true) s':=hq'
  rw [e] at hq'
  exact hq'
 ·intro h' tk hk
  have I1:Inv X pins σ H { s with heap:=h',toks:=tk }:=I.kept λb o e=>hk b o (λz=>absurd (Heap.lt_size e) (by rw [List.mem_singleton.mp z]; exact Nat.lt_irrefl _)) (Heap.get?_push_of_some _ e)
  have hlen:its.toArray.size=bs.length:=by have:=rv.length; rw [List.length_map] at this; simp; omega
  refine ⟨.bl (bs.all id),H,I1,?_,q⟩
  show Value.bool _=_
  rw [hlen,Zjc]
end
section
noncomputable def Zgq (K:PySem.W.Frag) (a:Addr) (n:Nat):It :=
 ⟨λi H=>i < n/\∃ xs,SqL K H a xs/\xs.length=n,λi H x H'=>H'=H/\∀ xs,SqL K H a xs->xs[n - 1 - i]?=some x,λi H=>n<=i/\∃ xs,SqL K H a xs/\xs.length=n⟩
theorem Zji {P:Program} {w:World} {K:PySem.W.Frag} {tg:Expr} (a it:Addr) (n:Nat):Turn P w K tg (Zgq K a n) [it] it (λi h=>i<=n/\h.IsRevIter it a ((n:Int) - 1 - i)) where
 mem:=by simp
 obj:=λi h st b hb=>by
  have e:b=it:=by simpa using hb
  subst e
  obtain ⟨_,o,e,c,d⟩:=st
  exact ⟨o,e,λv z=>by rw [d] at z; cases z⟩
 keep:=λi h h' st k=>⟨st.1,st.2.at λo e=>k it (by simp) o e⟩
 item:=by
  intro X hP hw hK hc i pins s σ H E I hf st hg
  subst hP hw hK
  obtain ⟨hi,xs,hq,hl⟩:=hg
  obtain ⟨its,rv,p,hz⟩:=I.list hq
  obtain ⟨f0,f1,f2,f3,f4,f5⟩:=hf it (by simp)
  have hlt:n - 1 - i < xs.length:=by omega
  obtain ⟨u,hu,ru⟩:=rv.get (List.getElem?_eq_getElem hlt)
  have e1:(n:Int) - 1 - i=((n - 1 - i:Nat):Int):=by omega
  have st2:=st.2
  rw [e1] at st2
  refine wpAny_pyNext_rev_item st2 p.isList (x:=u) (by simpa using hu) λh' st' sb=>?_
  have I1:Inv X pins σ H { s with heap:=h' }:=I.turned (t':=s.toks) (λb o hb e=>(sb.2 b hb).trans e) f0 f1 f3 f4 f5
  have e2:((n - 1 - i:Nat):Int) - 1=(n:Int) - 1 - ((i + 1:Nat):Int):=by omega
  rw [e2] at st'
  obtain ⟨o,e,c,d⟩:=id st'
  exact ⟨u,rfl,V6 (s:={ s with heap:=h' }) e c d (by decide) ⟨xs[n - 1 - i],H,I1,ru,⟨rfl,λys hy=>by rw [I.list_inj hy hq]; exact List.getElem?_eq_getElem hlt⟩,⟨hi,st'⟩,λb hb=>(hf b hb).1⟩⟩
 done:=by
  intro X hP hw hK hc i pins s σ H E I hf st hg
  subst hP hw hK
  obtain ⟨hi,xs,hq,hl⟩:=hg
  obtain ⟨f0,f1,f2,f3,f4,f5⟩:=hf it (by simp)
  have st2:=st.2
  rw [show (n:Int) - 1 - i=-1 by have:=st.1; omega] at st2
  exact wpAny_pyNext_rev_end (I.ok.hd hc) st2 λh' eb=>⟨rfl,I.turned (t':=s.toks) (λb o hb e=>eb b o hb e) f0 f1 f3 f4 f5⟩
 self:=λ_ _ _ _ _ st h=>wpAny_pyIter_revIter st.2 h
variable {X:Cx} {tg:Expr}
noncomputable def iRev (K:PySem.W.Frag) (ta:TA):TI:=λσ H R=>ta σ H λvs H1=>∃ a xs,vs=[.ref a]/\SqL K H1 a xs/\R (Zgq K a xs.length) H1
theorem Zn5 {l:Expr} {ta:TA} {p pos:Pos} (hg:Gl X "reversed") (hm:X.mg "reversed"=none) (ha:PA X [l] ta) (hs:starEach [l] X.env=[(false,eval l X.env)]:=by rfl):PI X tg (.Call (.Name "reversed" p) [l] [] pos) (iRev X.K ta):=by
 intro pins s σ H R I h
 refine Call_ (Xu I hg hm boot_reversed (PyProof.Rows.callWith_type1 (thn (ha pos pins s σ H _ I h) λus s1 zz40=>?_) hs rfl))
 obtain ⟨vs,H1,I1,r1,q1⟩:=zz40
 obtain ⟨a,xs,e,hq,q⟩:=q1
 subst e
 obtain ⟨u,rfl,ru⟩:=We r1
 cases ru
 obtain ⟨its,rv,pl,hz⟩:=I1.list hq
 refine call_reversed_list pl.isList ?_
 have I2:Inv X pins σ H1 { s1 with heap:=s1.heap.push (revObj a ((its.toArray.size:Int) - 1)) }:=I1.kept (t':=s1.toks) λb o e=>Heap.get?_push_of_some _ e
 have hn:its.toArray.size=xs.length:=by have:=rv.length; simp; omega
 rw [hn] at I2 ⊢
 have st:(s1.heap.push (revObj a ((xs.length:Int) - 1))).IsRevIter s1.heap.objs.size a ((xs.length:Int) - 1 - ((0:Nat):Int)):=by
  rw [show (xs.length:Int) - 1 - ((0:Nat):Int)=(xs.length:Int) - 1 by simp]
  exact ⟨_,Heap.get?_push_size _ rfl,rfl,rfl⟩
 refine wpAny_pyIter_revIter st ?_
 refine ⟨s1.heap.objs.size,[s1.heap.objs.size],_,_,H1,rfl,I2,Zji a _ xs.length,⟨Nat.zero_le _,st⟩,λb hb=>?_,q⟩
 have e:b=s1.heap.objs.size:=by simpa using hb
 subst e
 exact I1.fpOk (Nat.le_refl _) (I1.hok.fresh (Nat.le_refl _))
theorem Zki {K:PySem.W.Frag} {a:Addr} {xs:List V} {g:TG} {tt:TT} {tb:TB} {R:St->Hp->Prop} {σ:St} {H:Hp} (Pv:Nat->St->Hp->Prop) (h0:Pv 0 σ H) (hl:∀ i σ H,i<=xs.length->Pv i σ H->SqL K H a xs)
  (hs:∀ (i:Nat) x σ H,xs.reverse[i]?=some x->Pv i σ H->g x σ H λσ2 H2=>tt σ2 H2 λb H3=>if b=true then tb σ2 H3 (Pv (i + 1)) else Pv (i + 1) σ2 H3) (hd:∀ σ H,Pv xs.length σ H->R σ H):Ws (Zgq K a xs.length) g tt tb R σ H:=by
 refine ⟨λi m σ H=>m=xs.length - i/\i<=xs.length/\Pv i σ H,⟨xs.length,by simp,Nat.zero_le _,h0⟩,?_⟩
 rintro i m σ H ⟨rfl,hi,p⟩
 have q:=hl i σ H hi p
 by_cases hlt:i < xs.length
 ·refine .inr ⟨⟨hlt,xs,q,rfl⟩,Pv (i + 1),λσ' H' p'=>⟨xs.length - (i + 1),by omega,rfl,hlt,p'⟩,λx H' y=>?_⟩
  obtain ⟨e,y⟩:=y
  subst e
  exact hs i x σ _ (by rw [List.getElem?_reverse hlt]; exact y xs q) p
 ·have e:i=xs.length:=by omega
  subst e
  exact .inl ⟨⟨Nat.le_refl _,xs,q,rfl⟩,hd σ H p⟩
end
section
noncomputable def Itz (K:PySem.W.Frag) (a b:Addr):It :=
  ⟨λi H=>∃ xs ys x y,SqL K H a xs/\SqL K H b ys/\xs[i]?=some x/\ys[i]?=some y,
   λi H v H'=>∃ q x y,H q=none/\v=.ref q/\(∀ xs,SqL K H a xs->xs[i]?=some x)/\(∀ ys,SqL K H b ys->ys[i]?=some y)/\H'=upd H q (.tup [x,y]),
   λi H=>∃ xs ys,SqL K H a xs/\SqL K H b ys/\(xs.length<=i\/ys.length<=i)⟩
theorem Zjf {P:Program} {w:World} {K:PySem.W.Frag} {elts:List Expr} {x1:Nat} {pos:Pos} (a b z TI TO i1 i2:Addr) (D:ZipApart z TI TO i1 i2 a b) :
  Turn P w K (.Tuple elts x1 pos) (Itz K a b) [z,TI,TO,i1,i2] z (λi h=>IsZip h z TI TO .none/\IsPair h TI (.ref i1) (.ref i2)/\(∃ u v,IsPair h TO u v)/\h.IsListIter i1 a i/\h.IsListIter i2 b i) where
 mem:=by simp
 obj:=λi h st c hc=>by
  obtain ⟨s1,s2,⟨u,v,s3⟩,⟨o4,e4,c4,d4⟩,o5,e5,c5,d5⟩:=st
  have hc:c=z\/c=TI\/c=TO\/c=i1\/c=i2:=by simpa using hc
  rcases hc with rfl | rfl | rfl | rfl | rfl
  ·exact ⟨_,s1,λv y=>by have y':Data.fields _=Data.cell v:=y; cases y'⟩
  ·exact ⟨_,s2,λv y=>by have y':Data.seq _ _=Data.cell v:=y; cases y'⟩
  ·exact ⟨_,s3,λv y=>by have y':Data.seq _ _=Data.cell v:=y; cases y'⟩
  ·exact ⟨o4,e4,λv y=>by rw [d4] at y; cases y⟩
  ·exact ⟨o5,e5,λv y=>by rw [d5] at y; cases y⟩
 keep:=λi h h' st k=>by
  obtain ⟨s1,s2,⟨u,v,s3⟩,s4,s5⟩:=st
  exact ⟨k z (by simp) _ s1,k TI (by simp) _ s2,⟨u,v,k TO (by simp) _ s3⟩,s4.at λo e=>k i1 (by simp) o e,s5.at λo e=>k i2 (by simp) o e⟩
 item:=by
  intro X hP hw hK hc i pins s σ H E I hf st hg
  subst hP hw hK
  obtain ⟨xs,ys,x,y,hqx,hqy,hx,hy⟩:=hg
  obtain ⟨itx,rvx,px,_⟩:=I.list hqx
  obtain ⟨ity,rvy,py,_⟩:=I.list hqy
  obtain ⟨u,hu,ru⟩:=rvx.get hx
  obtain ⟨v,hv,rv⟩:=rvy.get hy
  obtain ⟨s1,s2,⟨u0,v0,s3⟩,s4,s5⟩:=st
  refine wpAny_pyNext_zip_item D s1 s2 s3 s4 s5 px.isList py.isList (x:=u) (y:=v) (by simpa using hu) (by simpa using hv) λh' a1 a2 a3 a4 a5 a6 a7=>?_
  refine ⟨.ref s.heap.objs.size,rfl,wpAny_letOwnedTupleGo_zip a1 λh'' b1 sb=>?_⟩
  have lt:∀ c∈[z,TI,TO,i1,i2],c < s.heap.objs.size:=λc hc=>by
   obtain ⟨o,e,_⟩:∃ o,s.heap.get? c=some o/\True:=by
    have hc:c=z\/c=TI\/c=TO\/c=i1\/c=i2:=by simpa using hc
    rcases hc with rfl | rfl | rfl | rfl | rfl
    ·exact ⟨_,s1,trivial⟩
    ·exact ⟨_,s2,trivial⟩
    ·exact ⟨_,s3,trivial⟩
    ·obtain ⟨o,e,_⟩:=s4; exact ⟨o,e,trivial⟩
    ·obtain ⟨o,e,_⟩:=s5; exact ⟨o,e,trivial⟩
   exact Heap.lt_size e
  have keepb:∀ c o,c≠z->c≠TO->c≠i1->c≠i2->s.heap.get? c=some o->h''.get? c=some o:=λc o n1 n2 n3 n4 e=>(sb.2 c n1).trans (a7 c o n1 n2 n3 n4 e)
  have zl:=lt z (by simp)
  have ht'':h''.get? s.heap.objs.size=some { cls:=.type "tuple",data:=.seq #[u,v] }:=(sb.2 _ (Nat.ne_of_gt zl)).trans a5
  have hn:H s.heap.objs.size=none:=I.hok.fresh (Nat.le_refl _)
  have I2:Inv X pins σ (upd H s.heap.objs.size (.tup [x,y])) { s with heap:=h'' }:=by
   have out:∀ c,c ∉ [z,TO,i1,i2]->c≠z/\c≠TO/\c≠i1/\c≠i2:=λc hc=>by simpa using hc
   refine I.step (g':=s.gens) (d':=s.drawn) (ch:=[z,TO,i1,i2]) (λc hc=>?_) (λc o _ _ hc q _=>?_) (λc o _ _ hc q _=>⟨o.slots,?_⟩) (λc o _ q n=>by rw [Ze (Nat.ne_of_lt (Heap.lt_size q))]; exact n)
    (λc o hc q=>⟨o,?_⟩) (λc zs q=>by rw [Ze (Zj q hn)]; exact q) (λc o zs q=>by rw [Ze (Zj q hn)]; exact q) (λc ps q=>⟨#[],by rw [Ze (Zj q hn),q]; simp⟩) (λm hm=>?_) (λc v' q=>?_) I.bare
   ·have hc:c=z\/c=TO\/c=i1\/c=i2:=by simpa using hc
    have hm:c∈[z,TI,TO,i1,i2]:=by rcases hc with rfl | rfl | rfl | rfl <;> simp
    obtain ⟨f0,f1,f2,f3,f4,f5⟩:=hf c hm
    exact ⟨f3,f1,f4,f5⟩
   ·obtain ⟨n1,n2,n3,n4⟩:=out c hc; exact keepb c o n1 n2 n3 n4 q
   ·obtain ⟨n1,n2,n3,n4⟩:=out c hc; exact keepb c o n1 n2 n3 n4 q
   ·obtain ⟨n1,n2,n3,n4⟩:=out c hc; exact keepb c o n1 n2 n3 n4 q
   ·obtain ⟨o,es,ep,ho,r⟩:=hm
    exact ⟨o,es,ep,keepb _ o (Ne.symm (hf z (by simp)).2.1) (Ne.symm (hf TO (by simp)).2.1) (Ne.symm (hf i1 (by simp)).2.1) (Ne.symm (hf i2 (by simp)).2.1) ho,r⟩
   ·by_cases hb:c=s.heap.objs.size
    ·subst hb
     rw [Zc] at q
     cases q
     exact ⟨by show 2<=sizeLine; decide,[u,v],.cons ru (.cons rv .nil),⟨_,ht'',rfl,_,rfl⟩⟩
    ·rw [Ze hb] at q
     refine (I.hok c v' q).stay (λe w' he y'=>keepb e w' ?_ ?_ ?_ ?_ y') (λd y'=>by rw [Ze (Zj y' hn)]; exact y') λd zs y'=>by rw [Ze (Zj y' hn)]; exact y'
     all_goals
      rintro rfl
      have hz0:H e=none:=(hf e (by simp)).1
      rcases he with y' | y'
      ·rw [y',q] at hz0; cases hz0
      ·rw [hz0] at y'; cases y'
  refine ⟨.ref s.heap.objs.size,_,I2,rfl,⟨_,x,y,hn,rfl,λxs' hy'=>by rw [I.list_inj hy' hqx]; exact hx,λys' hy'=>by rw [I.list_inj hy' hqy]; exact hy,rfl⟩,
   ⟨b1,(sb.2 TI D.TIz).trans (a7 TI _ D.TIz D.TITO D.TIi1 D.TIi2 s2),⟨u,v,(sb.2 TO D.TOz).trans a2⟩,a3.at λo e=>(sb.2 i1 D.i1z).trans e,a4.at λo e=>(sb.2 i2 D.i2z).trans e⟩,λc hc=>?_⟩
  rw [Ze (Nat.ne_of_lt (lt c hc))]
  exact (hf c hc).1
 done:=by
  intro X hP hw hK hc i pins s σ H E I hf st hg
  subst hP hw hK
  obtain ⟨xs,ys,hqx,hqy,hlen⟩:=hg
  obtain ⟨itx,rvx,px,_⟩:=I.list hqx
  obtain ⟨ity,rvy,py,_⟩:=I.list hqy
  obtain ⟨s1,s2,⟨u0,v0,s3⟩,s4,s5⟩:=st
  have l1:=rvx.length
  have l2:=rvy.length
  refine wpAny_pyNext_zip_end (I.ok.hd hc) D s1 s2 s3 s4 s5 px.isList py.isList ?_ λh' eb=>⟨rfl,?_⟩
  ·rcases hlen with z | z
   ·exact .inl (by simp; omega)
   ·exact .inr (by simp; omega)
  ·have out:∀ c,c ∉ [z,TO,i1,i2]->c≠z/\c≠TO/\c≠i1/\c≠i2:=λc hc=>by simpa using hc
   refine I.step (g':=s.gens) (d':=s.drawn) (t':=s.toks) (ch:=[z,TO,i1,i2]) (λc hc=>?_) (λc o _ _ hc q _=>?_) (λc o _ _ hc q _=>⟨o.slots,?_⟩) (λc o _ q n=>n)
    (λc o hc q=>⟨o,?_⟩) (λc zs q=>q) (λc o zs q=>q) (λc ps q=>⟨#[],by rw [q]; simp⟩) (λm hm=>?_) (λc v' q=>?_) I.bare
   ·have hc:c=z\/c=TO\/c=i1\/c=i2:=by simpa using hc
    have hm:c∈[z,TI,TO,i1,i2]:=by rcases hc with rfl | rfl | rfl | rfl <;> simp
    obtain ⟨f0,f1,f2,f3,f4,f5⟩:=hf c hm
    exact ⟨f3,f1,f4,f5⟩
   ·obtain ⟨n1,n2,n3,n4⟩:=out c hc; exact eb c o n1 n2 n3 n4 q
   ·obtain ⟨n1,n2,n3,n4⟩:=out c hc; exact eb c o n1 n2 n3 n4 q
   ·obtain ⟨n1,n2,n3,n4⟩:=out c hc; exact eb c o n1 n2 n3 n4 q
   ·obtain ⟨o,es,ep,ho,r⟩:=hm
    exact ⟨o,es,ep,eb _ o (Ne.symm (hf z (by simp)).2.1) (Ne.symm (hf TO (by simp)).2.1) (Ne.symm (hf i1 (by simp)).2.1) (Ne.symm (hf i2 (by simp)).2.1) ho,r⟩
   ·refine (I.hok c v' q).stay (λe w' he y'=>eb e w' ?_ ?_ ?_ ?_ y') (λd y'=>y') λd zs y'=>y'
    all_goals
     rintro rfl
     have hz0:H e=none:=(hf e (by simp)).1
     rcases he with y' | y'
     ·rw [y',q] at hz0; cases hz0
     ·rw [hz0] at y'; cases y'
 self:=λ_ _ _ _ _ st h=>wpAny_pyIter_zip st.1 h
theorem Zgr {N a b:Nat} (la:a < N) (lb:b < N):ZipApart (N + 4) (N + 2) (N + 3) N (N + 1) a b:=by
 constructor <;> (intro z; first | exact absurd (show (_:Nat)=_ from z) (by omega) | omega)
variable {X:Cx}
noncomputable def iZip (K:PySem.W.Frag) (ta:TA):TI:=λσ H R=>ta σ H λvs H1=>∃ a b xs ys,vs=[.ref a,.ref b]/\SqL K H1 a xs/\SqL K H1 b ys/\R (Itz K a b) H1
theorem Zcs {elts:List Expr} {x1:Nat} {tpos p pos:Pos} {l m:Expr} {ta:TA} (hg:Gl X "zip") (hm:X.mg "zip"=none) (ha:PA X [l,m] ta) (hs:starEach [l,m] X.env=[(false,eval l X.env),(false,eval m X.env)]:=by rfl) (hs2:starEach [m] X.env=[(false,eval m X.env)]:=by rfl) :
  PI X (.Tuple elts x1 tpos) (.Call (.Name "zip" p) [l,m] [] pos) (iZip X.K ta):=by
 intro pins s σ H R I h
 refine Call_ (Xu I hg hm boot_zip (PyProof.Rows.callWith_type1 (thn (ha pos pins s σ H _ I h) λus s1 ⟨vs,H1,I1,r1,q1⟩=>?_) (by rw [hs,hs2]) (by rw [hs2]; rfl)))
 obtain ⟨a,b,xs,ys,e,hqx,hqy,q⟩:=q1
 subst e
 obtain ⟨u,v,rfl,ru,rv⟩:=r1.two
 cases ru
 cases rv
 obtain ⟨itx,rvx,px,_⟩:=I1.list hqx
 obtain ⟨ity,rvy,py,_⟩:=I1.list hqy
 have la:a < s1.heap.objs.size:=by obtain ⟨o,ho,_⟩:=px.isList; exact Heap.lt_size ho
 have lb:b < s1.heap.objs.size:=by obtain ⟨o,ho,_⟩:=py.isList; exact Heap.lt_size ho
 refine call_zip_2 px.isList py.isList λh' z1 z2 z3 z4 z5 z6 z7=>wpAny_pyIter_zip z1 ?_
 have I2:Inv X pins σ H1 { s1 with heap:=h' }:=I1.kept (t':=s1.toks) z7
 generalize hN:s1.heap.objs.size=N at *
 refine ⟨N + 4,[N + 4,N + 2,N + 3,N,N + 1],_,_,H1,rfl,I2,Zjf a b (N + 4) (N + 2) (N + 3) N (N + 1) (Zgr la lb),⟨z1,z2,⟨_,_,z3⟩,z4,z5⟩,λc hc=>?_,q⟩
 have hc:s1.heap.objs.size<=c:=by
  have hc:c=N + 4\/c=N + 2\/c=N + 3\/c=N\/c=N + 1:=by simpa using hc
  rw [hN]
  rcases hc with rfl | rfl | rfl | rfl | rfl
  ·exact Nat.le_add_right _ _
  ·exact Nat.le_add_right _ _
  ·exact Nat.le_add_right _ _
  ·exact Nat.le_refl _
  ·exact Nat.le_add_right _ _
 exact I1.fpOk hc (I1.hok.fresh hc)
theorem Zc7 {K:PySem.W.Frag} {a b:Addr} {xs ys:List V} {g:TG} {tt:TT} {tb:TB} {R:St->Hp->Prop} {σ:St} {H:Hp} (hlen:xs.length=ys.length) (Pv:Nat->St->Hp->Prop) (h0:Pv 0 σ H) (hl:∀ i σ H,i<=xs.length->Pv i σ H->SqL K H a xs/\SqL K H b ys)
  (hs:∀ (i:Nat) x y σ H q,xs[i]?=some x->ys[i]?=some y->H q=none->Pv i σ H->g (.ref q) σ (upd H q (.tup [x,y])) λσ2 H2=>tt σ2 H2 λb H3=>if b=true then tb σ2 H3 (Pv (i + 1)) else Pv (i + 1) σ2 H3) (hd:∀ σ H,Pv xs.length σ H->R σ H):Ws (Itz K a b) g tt tb R σ H:=by
 refine ⟨λi m σ H=>m=xs.length - i/\i<=xs.length/\Pv i σ H,⟨xs.length,by simp,Nat.zero_le _,h0⟩,?_⟩
 rintro i m σ H ⟨rfl,hi,p⟩
 obtain ⟨q1,q2⟩:=hl i σ H hi p
 by_cases hlt:i < xs.length
 ·have hlt2:i < ys.length:=by omega
  refine .inr ⟨⟨xs,ys,xs[i],ys[i],q1,q2,by simp [hlt],by simp [hlt2]⟩,Pv (i + 1),λσ' H' p'=>⟨xs.length - (i + 1),by omega,rfl,hlt,p'⟩,λx H' y=>?_⟩
  obtain ⟨c,u,v,hn,e1,y1,y2,e2⟩:=y
  subst e1 e2
  exact hs i u v σ H c (y1 xs q1) (y2 ys q2) hn p
 ·have e:i=xs.length:=by omega
  subst e
  exact .inl ⟨⟨xs,ys,q1,q2,.inl (Nat.le_refl _)⟩,hd σ H p⟩
theorem Zm4 {K:PySem.W.Frag} {a b:Addr} {xs ys:List V} {g:TG} {tb:TS} {D:Ends} {σ:St} {H:Hp} (hlen:xs.length=ys.length) (Pv:Nat->St->Hp->Prop) (h0:Pv 0 σ H) (hl:∀ i σ H,i<=xs.length->Pv i σ H->SqL K H a xs/\SqL K H b ys)
  (hs:∀ i x y σ H q,xs[i]?=some x->ys[i]?=some y->H q=none->Pv i σ H->g (.ref q) σ (upd H q (.tup [x,y])) λσ2 H2=>tb { D with nx:=Pv (i + 1),ct:=Pv (i + 1),bk:=D.nx } σ2 H2) (hd:∀ σ H,Pv xs.length σ H->D.nx σ H) :
  ∃ W:Nat->Nat->St->Hp->Prop,(∃ m,W 0 m σ H)/\∀ i m σ H,W i m σ H ->
   ((Itz K a b).stop i H/\D.nx σ H)\/((Itz K a b).go i H/\∃ N:St->Hp->Prop,(∀ σ' H',N σ' H'->∃ m',m' < m/\W (i + 1) m' σ' H')/\∀ x H',(Itz K a b).yld i H x H'->g x σ H' λσ2 H2=>tb { D with nx:=N,ct:=N,bk:=D.nx } σ2 H2):=by
 refine ⟨λi m σ H=>m=xs.length - i/\i<=xs.length/\Pv i σ H,⟨xs.length,by simp,Nat.zero_le _,h0⟩,?_⟩
 rintro i m σ H ⟨rfl,hi,p⟩
 obtain ⟨q1,q2⟩:=hl i σ H hi p
 by_cases hlt:i < xs.length
 ·have hlt2:i < ys.length:=by omega
  refine .inr ⟨⟨xs,ys,xs[i],ys[i],q1,q2,by simp [hlt],by simp [hlt2]⟩,Pv (i + 1),λσ' H' p'=>⟨xs.length - (i + 1),by omega,rfl,hlt,p'⟩,λx H' y=>?_⟩
  obtain ⟨c,u,v,hn,e1,y1,y2,e2⟩:=y
  subst e1 e2
  exact hs i u v σ H c (y1 xs q1) (y2 ys q2) hn p
 ·have e:i=xs.length:=by omega
  subst e
  exact .inl ⟨⟨xs,ys,q1,q2,.inl (Nat.le_refl _)⟩,hd σ H p⟩
end
section
variable {prog:Program} {w:World} {A:Around} {E:Value->Shared->Prop} {s:Shared}
noncomputable abbrev upIt (a n:Int):Obj:={ cls:=.type "range_iterator",data:=.fields #[rawInt (a + (n - 1) * 1),rawInt n,rawInt (-1)] }
theorem Vt {z:Int} (h1:-(2 ^ 62)<=z) (h2:z < 2 ^ 62):Builtin.Range.rangeFitsLong z=true:=by
 unfold Builtin.Range.rangeFitsLong
 rw [Bool.and_eq_true,decide_eq_true_eq,decide_eq_true_eq]
 omega
theorem Zjv (r:Addr) (a b:Int) (t u v:Tok) (hs:(Builtin.Range.rangeFitsLong a && Builtin.Range.rangeFitsLong b && Builtin.Range.rangeFitsLong 1 && Builtin.Range.rangeFitsLong (-1) && Builtin.Range.rangeFitsLong (a - 1) && Builtin.Range.rangeFitsLong (Builtin.Range.rangeSize a b 1))=true) :
  Meets (Builtin.«range.__reversed__» ⟨[.ref r],[]⟩) (λ_ R s=>IsRange s.heap r a b 1 t u v/\R (.ok (.ret (.ref s.heap.objs.size))) { s with heap:=s.heap.push (upIt a (Builtin.Range.rangeSize a b 1)) }) :=
 .of_wp λprog w A R s h=>by
  obtain ⟨hp,g,d,tk,os⟩:=s
  obtain ⟨hl,h⟩:=h
  unfold Builtin.«range.__reversed__»
  refine wpAny_bind (wpAny_of_eq (a:=Value.ref r) rfl ?_)
  refine wpAny_bind (m:=Builtin.Range.rangeFields (.ref r)) ?_
  unfold Builtin.Range.rangeFields
  refine wpAny_bind (wpAny_field hl rfl (x:=.int a t) rfl ?_)
  refine wpAny_bind (wpAny_of_eq (a:=some a) rfl ?_)
  refine wpAny_bind (wpAny_field hl rfl (x:=.int b u) rfl ?_)
  refine wpAny_bind (wpAny_of_eq (a:=some b) rfl ?_)
  refine wpAny_bind (wpAny_field hl rfl (x:=.int 1 v) rfl ?_)
  refine wpAny_bind (wpAny_of_eq (a:=some 1) rfl ?_)
  refine wpAny_pure ?_
  dsimp only
  simp only [hs,Bool.not_true,Bool.false_eq_true,if_false,if_true]
  exact wpAny_bind (wpAny_newObj_type (wpAny_pure ⟨_,rfl,h⟩))
theorem Znz:isSubtype (.type "range_iterator") (.type "reversed")=pure false:=by
 rw [isSubtype_type]
 kernel_rfl
theorem Zl9 {r:Addr} {a b:Int} {t u v:Tok} {Z:Value->Shared->Prop} (hr:IsRange s.heap r a b 1 t u v)
  (hs:(Builtin.Range.rangeFitsLong a && Builtin.Range.rangeFitsLong b && Builtin.Range.rangeFitsLong 1 && Builtin.Range.rangeFitsLong (-1) && Builtin.Range.rangeFitsLong (a - 1) && Builtin.Range.rangeFitsLong (Builtin.Range.rangeSize a b 1))=true)
  (q:Z (.ref s.heap.objs.size) { s with heap:=s.heap.push (upIt a (Builtin.Range.rangeSize a b 1)) }) :
  codeAny (model prog w) A (.call (.builtin "reversed.__new__") ⟨[.type "reversed",.ref r],[]⟩) (wants Z E) s:=by
 have hT:s.TypeIs (.ref r) "range":=⟨_,hr,rfl⟩
 refine codeAny_of_tree (show wpAny _ A.in1 (checkBuiltinCall "reversed.__new__" ⟨[.type "reversed",.ref r],[]⟩ >>= λ_=>again (.builtin "reversed.__new__" ⟨[.type "reversed",.ref r],[]⟩)) _ _ s from ?_)
 refine wpAny_bind (wpAny_of_eq (PySem.F.newCall_reversed_1 (.ref r)) (wpAny_pure ⟨plainId_quiet PySem.F.plain_reversed_new _,codeAny_builtin PySem.F.entry_reversed_new ?_⟩))
 rw [Around.under_plainId PySem.F.plain_reversed_new _]
 unfold Builtin.«reversed.__new__»
 refine wpAny_bind (wpAny_of_eq (newClass_reversed (.ref r)) ?_)
 refine wpAny_bind (wpAny_of_eq (a:=()) (by first | rfl | kernel_rfl) (wpAny_bind (wpAny_of_eq (a:=()) (by first | rfl | kernel_rfl) ?_)))
 refine wpAny_bind (wpAny_specialOf hT PySem.F.slot_range_reversed.lookup (wpAny_bind (wpAny_of_eq (PySem.F.slot_range_reversed.bind (.ref r)) ?_)))
 have ne:¬ ((Value.builtin "range.__reversed__" == Value.none)=true):=Bool.false_ne_true
 dsimp only
 first | rw [if_neg ne] | (show wpAny _ _ (if (Value.builtin "range.__reversed__" == Value.none)=true then _ else _) _ _ _; rw [if_neg ne])
 refine wpAny_bind (wpAny_rule (wpAny_bind (m:=runValue (.call (.builtin "range.__reversed__") ⟨[.ref r],[]⟩)) ?_))
 show wpAny _ _ (call (.builtin "range.__reversed__") [.ref r]) _ _ _
 refine call_meets PySem.F.slot_range_reversed hT PySem.F.entry_range_reversed (PySem.F.args_range_reversed_1 _) (Zjv r a b t u v hs) ⟨hr,?_⟩
 first | exact wpAny_pure q | exact wpAny_bind (wpAny_pure (wpAny_pure q))
theorem Zma {r:Addr} {a b:Int} {t u v:Tok} {Q:Value->Shared->Prop} (hr:IsRange s.heap r a b 1 t u v)
  (hs:(Builtin.Range.rangeFitsLong a && Builtin.Range.rangeFitsLong b && Builtin.Range.rangeFitsLong 1 && Builtin.Range.rangeFitsLong (-1) && Builtin.Range.rangeFitsLong (a - 1) && Builtin.Range.rangeFitsLong (Builtin.Range.rangeSize a b 1))=true)
  (q:Q (.ref s.heap.objs.size) { s with heap:=s.heap.push (upIt a (Builtin.Range.rangeSize a b 1)) }):wpAny (model prog w) A (call (.type "reversed") [.ref r]) Q E s:=by
 refine callType_other (U:="range_iterator") (Q₁:=λo z=>o=.ref s.heap.objs.size/\z={ s with heap:=s.heap.push (upIt a (Builtin.Range.rangeSize a b 1)) }) (by decide +kernel) PySem.F.create_reversed ⟨_,_,PySem.F.mro_reversed⟩ PySem.F.made_reversed Znz (PySem.F.typeCall_reversed_1 _) (Zl9 hr hs ⟨rfl,rfl⟩) ?_
 rintro o z ⟨rfl,rfl⟩
 exact ⟨⟨_,Heap.get?_push_size _ rfl,rfl⟩,q⟩
end
section
variable {X:Cx} {tg:Expr}
noncomputable def Zpt (ta:TA):TI:=λσ H R=>ta σ H λvs H1=>∃ (i:Int) (n:Nat),vs=[.int i,.int (i + n)]/\0<=i/\i + n<=100000/\R (Itr3 (i + n - 1) (-1) n) H1
theorem Zmi {a b:Expr} {ta:TA} {p1 p2 pos pos2:Pos} (hgl:Gl X "reversed") (hml:X.mg "reversed"=none) (hg:Gl X "range") (hm:X.mg "range"=none) (ha:PA X [a,b] ta) (hs:starEach [a,b] X.env=[(false,eval a X.env),(false,eval b X.env)]:=by rfl) (hsb:starEach [b] X.env=[(false,eval b X.env)]:=by rfl)
  (hs2:starEach [.Call (.Name "range" p2) [a,b] [] pos2] X.env=[(false,eval (.Call (.Name "range" p2) [a,b] [] pos2) X.env)]:=by rfl):PI X tg (.Call (.Name "reversed" p1) [.Call (.Name "range" p2) [a,b] [] pos2] [] pos) (Zpt ta):=by
 intro pins s σ H R I h
 refine Call_ (Xu I hgl hml boot_reversed (PyProof.Rows.callWith_type1 ?_ hs2 rfl))
 rw [hs2]
 refine Calls.spliced_cons ?_
 refine Call_ (Xu I hg hm boot_range (PyProof.Rows.callWith_type1 (thn (ha pos2 pins s σ H _ I h) λus s1 ⟨vs,H1,I1,r1,q1⟩=>?_) (by rw [hs,hsb]) (by rw [hsb]; rfl)))
 obtain ⟨i,n,e,h0,h1,q⟩:=q1
 subst e
 obtain ⟨u,v,rfl,ru,rv⟩:=r1.two
 obtain ⟨t,rfl⟩:=ru
 obtain ⟨t',rfl⟩:=rv
 refine call_range_2 (Calls.spliced_nil ?_)
 have hr:Builtin.Range.rangeSize i (i + n) 1=n:=by rw [rangeSize_one]; split <;> omega
 have fits:(Builtin.Range.rangeFitsLong i && Builtin.Range.rangeFitsLong (i + n) && Builtin.Range.rangeFitsLong 1 && Builtin.Range.rangeFitsLong (-1) && Builtin.Range.rangeFitsLong (i - 1) && Builtin.Range.rangeFitsLong (Builtin.Range.rangeSize i (i + n) 1))=true:=by
  rw [hr,Vt (by omega) (by omega),Vt (by omega) (by omega),Vt (by decide) (by decide),Vt (by decide) (by decide),Vt (by omega) (by omega),Vt (by omega) (by omega)]
  rfl
 refine Zma (IsRange.new ..) fits ?_
 rw [hr]
 have I2:Inv X pins σ H1 { s1 with heap:=s1.heap.push { cls:=.type "range",data:=.fields #[.int i t,.int (i + n) t',.int 1 s1.toks] },toks:=s1.toks + 1 }:=I1.kept λb o e=>Heap.get?_push_of_some _ e
 have st:IsRangeIter ((s1.heap.push { cls:=.type "range",data:=.fields #[.int i t,.int (i + n) t',.int 1 s1.toks] }).push (upIt i n)) (s1.heap.push { cls:=.type "range",data:=.fields #[.int i t,.int (i + n) t',.int 1 s1.toks] }).objs.size (i + n - 1 + ((0:Nat):Int) * (-1)) ((n:Int) - ((0:Nat):Int)) (-1):=by
  have e1:i + (n:Int) - 1 + ((0:Nat):Int) * (-1)=i + ((n:Int) - 1) * 1:=by simp; omega
  have e2:(n:Int) - ((0:Nat):Int)=n:=by simp
  rw [e1,e2]
  exact Heap.get?_push_size _ rfl
 refine wpAny_pyIter_rangeiter st ?_
 refine ⟨_,[(s1.heap.push { cls:=.type "range",data:=.fields #[.int i t,.int (i + n) t',.int 1 s1.toks] }).objs.size],_,_,H1,rfl,I2.kept (t':=s1.toks + 1) λb o e=>Heap.get?_push_of_some _ e,Zdr _ (i + n - 1) (-1) n,st,λb hb=>?_,q⟩
 have e:b=(s1.heap.push { cls:=.type "range",data:=.fields #[.int i t,.int (i + n) t',.int 1 s1.toks] }).objs.size:=by simpa using hb
 subst e
 exact I2.fpOk (Nat.le_refl _) (I2.hok.fresh (Nat.le_refl _))
theorem Zgn {lo st:Int} {n:Nat} {g:TG} {tb:TS} {D:Ends} {σ:St} {H:Hp} (Pv:Nat->St->Hp->Prop) (h0:Pv 0 σ H)
  (hs:∀ (i:Nat) σ H,i < n->Pv i σ H->g (.int (lo + i * st)) σ H λσ2 H2=>tb { D with nx:=Pv (i + 1),ct:=Pv (i + 1),bk:=D.nx } σ2 H2) (hd:∀ σ H,Pv n σ H->D.nx σ H) :
  ∃ W:Nat->Nat->St->Hp->Prop,(∃ m,W 0 m σ H)/\∀ i m σ H,W i m σ H ->
   ((Itr3 lo st n).stop i H/\D.nx σ H)\/((Itr3 lo st n).go i H/\∃ N:St->Hp->Prop,(∀ σ' H',N σ' H'->∃ m',m' < m/\W (i + 1) m' σ' H')/\∀ x H',(Itr3 lo st n).yld i H x H'->g x σ H' λσ2 H2=>tb { D with nx:=N,ct:=N,bk:=D.nx } σ2 H2):=by
 refine ⟨λi m σ H=>m=n - i/\i<=n/\Pv i σ H,⟨n,by simp,Nat.zero_le _,h0⟩,?_⟩
 rintro i m σ H ⟨rfl,hi,p⟩
 by_cases hlt:i < n
 ·refine .inr ⟨hlt,Pv (i + 1),λσ' H' p'=>⟨n - (i + 1),by omega,rfl,hlt,p'⟩,λx H' y=>?_⟩
  obtain ⟨e,y⟩:=y
  subst e y
  exact hs i σ _ hlt p
 ·have e:i=n:=by omega
  subst e
  exact .inl ⟨Nat.le_refl _,hd σ H p⟩
theorem Oq {pos:Pos} (K:PySem.W.Frag) {es:List Expr} {k:Nat} {t:TGs} {n:Nat} (hc:X.calm=true) (h:PGs X es t)
  (hn:(assignEach es X.env).length=n:=by rfl) (hst:(assignEach es X.env).findIdx? (·.1)=none:=by rfl) (hk:X.K=K:=by rfl):PG X (.Tuple es k pos) (gTup K n t):=hk ▸ W6 hc h hn hst
end
end L2
namespace KT
open PySem L2
noncomputable def mV:Option Nat->V
 | none=>.non
 | some j=>.int j
structure TD (M:List (Option Nat)) (ns:List Int):Prop where
 n:∃ n,1<=n/\n<=40/\M.length=3 * n
 len:ns.length=M.length
 inv:∀ (i j:Nat),M[i]?=some (some j)->M[j]?=some (some i)/\i≠j
 rng:∀ (i:Nat) x,ns[i]?=some x->0<=x/\x<=9999
 eqv:∀ (i j:Nat) x,ns[i]?=some x->ns[j]?=some x->i=j\/M[i]?=some (some j)
 eqm:∀ (i j:Nat),M[i]?=some (some j)->ns[j]?=ns[i]?
structure SewOk (N:Nat) (F:List Nat) (M:List (Option Nat)):Prop where
 len:M.length=N
 nd:F.Nodup
 free:∀ f∈F,f < N/\M[f]?=some none
 inv:∀ (i j:Nat),M[i]?=some (some j)->M[j]?=some (some i)/\i≠j
theorem SewOk.start (N:Nat):SewOk N (List.range N) (List.replicate N none):=by
 refine ⟨by simp,List.nodup_range,λf hf=>?_,λi j h=>?_⟩
 ·have h:=List.mem_range.mp hf
  exact ⟨h,by rw [List.getElem?_replicate,if_pos h]⟩
 ·rw [List.getElem?_replicate] at h
  split at h <;> cases h
theorem SewOk.skip {N:Nat} {one:Nat} {F:List Nat} {M:List (Option Nat)} (h:SewOk N (one :: F) M):SewOk N F M :=
 ⟨h.len,(List.nodup_cons.mp h.nd).2,λf hf=>h.free f (List.mem_cons_of_mem _ hf),h.inv⟩
theorem SewOk.pair {N:Nat} {one other k:Nat} {F:List Nat} {M:List (Option Nat)} (h:SewOk N (one :: F) M) (hk:F[k]?=some other):SewOk N (F.eraseIdx k) ((M.set one (some other)).set other (some one)):=by
 obtain ⟨n1,n2⟩:=List.nodup_cons.mp h.nd
 have hm:other∈F:=List.mem_of_getElem? hk
 have hne:one≠other:=λz=>n1 (z ▸ hm)
 obtain ⟨h1,f1⟩:=h.free one List.mem_cons_self
 obtain ⟨h2,f2⟩:=h.free other (List.mem_cons_of_mem _ hm)
 have l1:one < M.length:=by rw [h.len]; exact h1
 have l2:other < M.length:=by rw [h.len]; exact h2
 have g1:((M.set one (some other)).set other (some one))[one]?=some (some other):=by
  rw [List.getElem?_set_ne (Ne.symm hne),List.getElem?_set_self l1]
 have g2:((M.set one (some other)).set other (some one))[other]?=some (some one):=by
  rw [List.getElem?_set_self (by rw [List.length_set]; exact l2)]
 have g3:∀ i,i≠one->i≠other->((M.set one (some other)).set other (some one))[i]?=M[i]?:=λi a b=>by
  rw [List.getElem?_set_ne (Ne.symm b),List.getElem?_set_ne (Ne.symm a)]
 refine ⟨by rw [List.length_set,List.length_set]; exact h.len,n2.sublist (List.eraseIdx_sublist F k),λf hf=>?_,λi j e=>?_⟩
 ·obtain ⟨i,hi,hik,e⟩:=List.mem_eraseIdx_iff_getElem.mp hf
  have fm:f∈F:=e ▸ List.getElem_mem hi
  obtain ⟨a,b⟩:=h.free f (List.mem_cons_of_mem _ fm)
  have c1:f≠one:=λz=>n1 (z ▸ fm)
  have c2:f≠other:=λz=>by
   obtain ⟨hk',ek⟩:=List.getElem?_eq_some_iff.mp hk
   exact hik ((List.getElem_inj n2).mp (e.trans (z.trans ek.symm)))
  exact ⟨a,by rw [g3 f c1 c2]; exact b⟩
 ·by_cases c1:i=one
  ·subst c1
   rw [g1] at e
   cases e
   exact ⟨g2,hne⟩
  ·by_cases c2:i=other
   ·subst c2
    rw [g2] at e
    cases e
    exact ⟨g1,Ne.symm hne⟩
   ·rw [g3 i c1 c2] at e
    obtain ⟨a,b⟩:=h.inv i j e
    have d1:j≠one:=λz=>by rw [z,f1] at a; cases a
    have d2:j≠other:=λz=>by rw [z,f2] at a; cases a
    exact ⟨by rw [g3 j d1 d2]; exact a,b⟩
noncomputable def nm (s t:Int) (i:Nat):Int:=(s + t * i) % 10000
noncomputable def rep (M:List (Option Nat)) (i:Nat):Nat:=match M[i]? with
 | some (some j)=>if j < i then j else i
 | _=>i
noncomputable def flat (M:List (Option Nat)) (s t:Int):List Int:=(List.range M.length).map λi=>nm s t (rep M i)
noncomputable def Vw:List Int:=[1,3,7,9,37,1009,3333,9999]
theorem nm_d:∀ t∈Vw,∀ d:Fin 42,t * ((d.val:Nat):Int) % 10000=0->d.val=0:=by decide +kernel
theorem Zoc {s t:Int} (ht:t∈Vw) {i j:Nat} (hi:i < 42) (hj:j < 42) (h:nm s t i=nm s t j):i=j:=by
  have key:∀ a b:Nat,b<=a->a < 42->nm s t a=nm s t b->a=b:=λa b hab ha e=>by
    have e2:=Int.emod_eq_emod_iff_emod_sub_eq_zero.mp e
    rw [Int.add_sub_add_left,<- Int.mul_sub,<- Int.natCast_sub hab] at e2
    have:=nm_d t ht ⟨a - b,Nat.lt_of_le_of_lt (Nat.sub_le _ _) ha⟩ e2
    exact Nat.le_antisymm (Nat.sub_eq_zero_iff_le.mp this) hab
  rcases Nat.le_total i j with h' | h'
  · exact (key j i h' hj h.symm).symm
  · exact key i j h' hi h
theorem Zhl {M:List (Option Nat)} {i N:Nat} (h:i < N):rep M i < N:=by
 unfold rep
 split
 ·split <;> omega
 ·exact h
theorem U6 (M:List (Option Nat)) (i:Nat):rep M i=i\/(∃ j,M[i]?=some (some j)/\j < i/\rep M i=j):=by
 cases e:M[i]? with
 | none=>exact .inl (by unfold rep; rw [e])
 | some o =>
  cases o with
  | none=>exact .inl (by unfold rep; rw [e])
  | some j =>
   by_cases h:j < i
   ·exact .inr ⟨j,rfl,h,by unfold rep; rw [e]; exact if_pos h⟩
   ·exact .inl (by unfold rep; rw [e]; exact if_neg h)
theorem K5 {M:List (Option Nat)} {s t:Int} {i:Nat} {x:Int} (h:(flat M s t)[i]?=some x):i < M.length/\x=nm s t (rep M i):=by
 unfold flat at h
 rw [List.getElem?_map] at h
 by_cases hi:i < M.length
 ·rw [List.getElem?_range hi] at h
  exact ⟨hi,(Option.some.inj h).symm⟩
 ·rw [List.getElem?_eq_none (by simpa using hi)] at h
  cases h
theorem Zff {M:List (Option Nat)} {s t:Int} {i:Nat} (hi:i < M.length):(flat M s t)[i]?=some (nm s t (rep M i)):=by
 unfold flat
 rw [List.getElem?_map,List.getElem?_range hi]
 rfl
theorem Zln {M:List (Option Nat)} {s t:Int} {n:Nat} (h1:1<=n) (h2:n<=14) (hM:M.length=3 * n) (hinv:∀ (i j:Nat),M[i]?=some (some j)->M[j]?=some (some i)/\i≠j) (ht:t∈Vw):TD M (flat M s t) where
 n:=⟨n,h1,by omega,hM⟩
 len:=by unfold flat; simp
 inv:=hinv
 rng:=λi x h=>by
  obtain ⟨_,rfl⟩:=K5 h
  unfold nm
  omega
 eqv:=λi j x hi hj=>by
  obtain ⟨li,ei⟩:=K5 hi
  obtain ⟨lj,ej⟩:=K5 hj
  have e:rep M i=rep M j:=Zoc ht (by have:=Zhl (M:=M) li; omega) (by have:=Zhl (M:=M) lj; omega) (ei.symm.trans ej)
  rcases U6 M i with a | ⟨a,ha,la,ra⟩
  ·rcases U6 M j with b | ⟨b,hb,lb,rb⟩
   ·exact .inl (a.symm.trans (e.trans b))
   ·have:b=i:=by rw [<- rb,<- e,a]
    subst this
    exact .inr (hinv j b hb).1
  ·rcases U6 M j with b | ⟨b,hb,lb,rb⟩
   ·have:a=j:=by rw [<- ra,e,b]
    subst this
    exact .inr ha
   ·have:a=b:=by rw [<- ra,e,rb]
    subst this
    have c1:=(hinv i a ha).1
    have c2:=(hinv j a hb).1
    rw [c1] at c2
    exact .inl (by cases c2; rfl)
 eqm:=λi j h=>by
  obtain ⟨h',hne⟩:=hinv i j h
  have li:i < M.length:=(List.getElem?_eq_some_iff.mp h).1
  have lj:j < M.length:=(List.getElem?_eq_some_iff.mp h').1
  rw [Zff li,Zff lj]
  have e:rep M j=rep M i:=by
   by_cases c:j < i
   ·have a:rep M i=j:=by unfold rep; rw [h]; exact if_pos c
    have b:rep M j=j:=by unfold rep; rw [h']; exact if_neg (by omega)
    rw [a,b]
   ·have a:rep M i=i:=by unfold rep; rw [h]; exact if_neg c
    have b:rep M j=i:=by unfold rep; rw [h']; exact if_pos (by omega)
    rw [a,b]
  rw [e]
noncomputable def pl (ns:List Int) (n:Nat) (x:Int):List Nat:=(List.range n).filter λi=>decide (ns[i]?=some x)
noncomputable def keys (ns:List Int):Nat->List Int
 | 0=>[]
 | n + 1=>match ns[n]? with
  | some x=>if x∈keys ns n then keys ns n else keys ns n ++ [x]
  | none=>keys ns n
theorem Xc {ns:List Int} {n:Nat} {x:Int} {i:Nat}:i∈pl ns n x ↔ i < n/\ns[i]?=some x:=by
 unfold pl
 rw [List.mem_filter,List.mem_range]
 simp
theorem Zj0 (ns:List Int) (n:Nat) (x:Int):(pl ns n x).Nodup:=(List.nodup_range).sublist List.filter_sublist
theorem Zhp (ns:List Int) (n:Nat) (x:Int):(pl ns n x).Pairwise (· < ·):=(List.pairwise_lt_range).sublist List.filter_sublist
theorem Ze3 {ns:List Int} {n:Nat} {x:Int} (h:ns[n]?=some x):pl ns (n + 1) x=pl ns n x ++ [n]:=by
 unfold pl
 rw [List.range_succ,List.filter_append]
 congr 1
 simp [h]
theorem Zcp {ns:List Int} {n:Nat} {x:Int} (h:ns[n]?≠some x):pl ns (n + 1) x=pl ns n x:=by
 unfold pl
 rw [List.range_succ,List.filter_append]
 simp [h]
theorem W4 {ns:List Int} {n:Nat} {x:Int} (h:ns[n]?=some x):keys ns (n + 1)=if x∈keys ns n then keys ns n else keys ns n ++ [x]:=by
 show (match ns[n]? with | some x=>if x∈keys ns n then keys ns n else keys ns n ++ [x] | none=>keys ns n)=_
 rw [h]
theorem Wc {ns:List Int}:∀ {n:Nat} {x:Int},x∈keys ns n ↔ ∃ i,i < n/\ns[i]?=some x
 | 0,x=>by simp [keys]
 | n + 1,x=>by
  have ih:=Wc (ns:=ns) (n:=n) (x:=x)
  have e:x∈keys ns (n + 1) ↔ x∈keys ns n\/ns[n]?=some x:=by
   cases h:ns[n]? with
   | none =>
    have:keys ns (n + 1)=keys ns n:=by
     show (match ns[n]? with | some x=>if x∈keys ns n then keys ns n else keys ns n ++ [x] | none=>keys ns n)=_
     rw [h]
    rw [this]; simp
   | some y =>
    rw [W4 h]
    split
    ·constructor
     ·exact .inl
     ·rintro (z | z)
      ·exact z
      ·cases z; assumption
    ·rw [List.mem_append,List.mem_singleton]
     constructor
     ·rintro (z | z)
      ·exact .inl z
      ·exact .inr (by rw [z])
     ·rintro (z | z)
      ·exact .inl z
      ·exact .inr (by cases z; rfl)
  rw [e,ih]
  constructor
  ·rintro (⟨i,h1,h2⟩ | h)
   ·exact ⟨i,by omega,h2⟩
   ·exact ⟨n,by omega,h⟩
  ·rintro ⟨i,h1,h2⟩
   by_cases c:i=n
   ·subst c; exact .inr h2
   ·exact .inl ⟨i,by omega,h2⟩
theorem Qi (ns:List Int):∀ n,(keys ns n).Nodup
 | 0=>List.nodup_nil
 | n + 1=>by
  have ih:=Qi ns n
  cases h:ns[n]? with
  | none =>
   have:keys ns (n + 1)=keys ns n:=by
    show (match ns[n]? with | some x=>if x∈keys ns n then keys ns n else keys ns n ++ [x] | none=>keys ns n)=_
    rw [h]
   rw [this]; exact ih
  | some y =>
   rw [W4 h]
   split
   ·exact ih
   ·rename_i c
    refine List.nodup_append.mpr ⟨ih,by simp,λa ha b hb=>?_⟩
    rw [List.mem_singleton] at hb
    subst hb
    rintro rfl
    exact c ha
theorem Q3 (ns:List Int):∀ n,(keys ns n).length<=n
 | 0=>Nat.le_refl _
 | n + 1=>by
  have ih:=Q3 ns n
  cases h:ns[n]? with
  | none =>
   have:keys ns (n + 1)=keys ns n:=by
    show (match ns[n]? with | some x=>if x∈keys ns n then keys ns n else keys ns n ++ [x] | none=>keys ns n)=_
    rw [h]
   rw [this]; omega
  | some y =>
   rw [W4 h]
   split
   ·omega
   ·rw [List.length_append,List.length_singleton]; omega
theorem Zn2 {ns:List Int} {n:Nat} {x:Int} (h:x ∉ keys ns n):pl ns n x=[]:=by
 cases e:pl ns n x with
 | nil=>rfl
 | cons a r =>
  have:a∈pl ns n x:=by rw [e]; exact List.mem_cons_self
  obtain ⟨h1,h2⟩:=Xc.mp this
  exact absurd (Wc.mpr ⟨a,h1,h2⟩) h
theorem Zcq {M:List (Option Nat)} {ns:List Int} (td:TD M ns) (n:Nat) (x:Int):(pl ns n x).length<=2:=by
 match e:pl ns n x with
 | []=>simp
 | [_]=>simp
 | [_,_]=>simp
 | a :: b :: c :: r =>
  exfalso
  have nd:=Zj0 ns n x
  rw [e] at nd
  have ha:=(Xc.mp (show a∈pl ns n x by rw [e]; simp)).2
  have hb:=(Xc.mp (show b∈pl ns n x by rw [e]; simp)).2
  have hc:=(Xc.mp (show c∈pl ns n x by rw [e]; simp)).2
  simp only [List.nodup_cons,List.mem_cons,not_or] at nd
  obtain ⟨⟨n1,n2,_⟩,⟨n3,_⟩,_⟩:=nd
  rcases td.eqv a b x ha hb with z | z
  ·exact n1 z
  ·rcases td.eqv a c x ha hc with y | y
   ·exact n2 y
   ·rw [z] at y
    cases y
    exact n3 rfl
theorem V2 {M:List (Option Nat)} {ns:List Int} (td:TD M ns) {x:Int} (hx:x∈keys ns ns.length) :
  (∃ a,pl ns ns.length x=[a]/\ns[a]?=some x/\M[a]?=some none)\/(∃ a b,a < b/\pl ns ns.length x=[a,b]/\ns[a]?=some x/\ns[b]?=some x/\M[a]?=some (some b)/\M[b]?=some (some a)):=by
 obtain ⟨i,h1,h2⟩:=Wc.mp hx
 have mi:i∈pl ns ns.length x:=Xc.mpr ⟨h1,h2⟩
 have l2:=Zcq td ns.length x
 have st:=Zhp ns ns.length x
 match e:pl ns ns.length x with
 | []=>rw [e] at mi; simp at mi
 | [a] =>
  obtain ⟨ga,ha⟩:=Xc.mp (show a∈pl ns ns.length x by rw [e]; simp)
  refine .inl ⟨a,rfl,ha,?_⟩
  have la:a < M.length:=by rw [<- td.len]; exact ga
  cases q:M[a]? with
  | none=>rw [List.getElem?_eq_none_iff] at q; omega
  | some o =>
   cases o with
   | none=>rfl
   | some b =>
    exfalso
    have hb:ns[b]?=some x:=by rw [td.eqm a b q]; exact ha
    have mb:b∈pl ns ns.length x:=Xc.mpr ⟨(List.getElem?_eq_some_iff.mp hb).1,hb⟩
    rw [e,List.mem_singleton] at mb
    exact (td.inv a b q).2 mb.symm
 | [a,b] =>
  obtain ⟨ga,ha⟩:=Xc.mp (show a∈pl ns ns.length x by rw [e]; simp)
  obtain ⟨gb,hb⟩:=Xc.mp (show b∈pl ns ns.length x by rw [e]; simp)
  rw [e] at st
  have hab:a < b:=by simpa using st
  rcases td.eqv a b x ha hb with z | z
  ·omega
  ·exact .inr ⟨a,b,hab,rfl,ha,hb,z,(td.inv a b z).1⟩
 | a :: b :: c :: r=>rw [e] at l2; simp at l2
noncomputable def part (M:List (Option Nat)) (ns:List Int) (ks:List Int):List (Option Nat):=(List.range M.length).map λi=>match ns[i]? with
 | some x=>if x∈ks then M.getD i none else none
 | none=>none
theorem Xw (M:List (Option Nat)) (ns ks:List Int):(part M ns ks).length=M.length:=by unfold part; simp
theorem Jh {M:List (Option Nat)} {ns ks:List Int} (td:TD M ns) {i:Nat} {x:Int} (h:ns[i]?=some x):(part M ns ks)[i]?=some (if x∈ks then M.getD i none else none):=by
 have li:i < M.length:=by rw [<- td.len]; exact (List.getElem?_eq_some_iff.mp h).1
 unfold part
 rw [List.getElem?_map,List.getElem?_range li]
 simp [h]
theorem Zj4 {M:List (Option Nat)} {ns:List Int} (td:TD M ns):part M ns []=List.replicate M.length none:=by
 apply List.ext_getElem?
 intro i
 by_cases li:i < M.length
 ·obtain ⟨x,hx⟩:∃ x,ns[i]?=some x:=⟨_,List.getElem?_eq_getElem (by rw [td.len]; exact li)⟩
  rw [Jh td hx,List.getElem?_replicate,if_pos li]
  simp
 ·rw [List.getElem?_eq_none (by rw [Xw]; omega),List.getElem?_eq_none (by simp; omega)]
theorem Zj5 {M:List (Option Nat)} {ns:List Int} (td:TD M ns):part M ns (keys ns ns.length)=M:=by
 apply List.ext_getElem?
 intro i
 by_cases li:i < M.length
 ·have ln:i < ns.length:=by rw [td.len]; exact li
  obtain ⟨x,hx⟩:∃ x,ns[i]?=some x:=⟨_,List.getElem?_eq_getElem ln⟩
  rw [Jh td hx,if_pos (Wc.mpr ⟨i,ln,hx⟩),List.getD_eq_getElem?_getD,List.getElem?_eq_getElem li]
  rfl
 ·rw [List.getElem?_eq_none (by rw [Xw]; omega),List.getElem?_eq_none (by omega)]
theorem Zj3 {M:List (Option Nat)} {ns ks:List Int} (td:TD M ns) {x:Int} {a:Nat} (hp:pl ns ns.length x=[a]) (hm:M[a]?=some none):part M ns (ks ++ [x])=part M ns ks:=by
 apply List.ext_getElem?
 intro i
 by_cases li:i < M.length
 ·have ln:i < ns.length:=by rw [td.len]; exact li
  obtain ⟨y,hy⟩:∃ x,ns[i]?=some x:=⟨_,List.getElem?_eq_getElem ln⟩
  rw [Jh td hy,Jh td hy]
  by_cases c:y=x
  ·subst c
   have:i∈pl ns ns.length y:=Xc.mpr ⟨ln,hy⟩
   rw [hp,List.mem_singleton] at this
   subst this
   have:M.getD i none=none:=by rw [List.getD_eq_getElem?_getD,hm]; rfl
   rw [this]
   simp
  ·simp [c]
 ·rw [List.getElem?_eq_none (by rw [Xw]; omega),List.getElem?_eq_none (by rw [Xw]; omega)]
theorem Zhv {M:List (Option Nat)} {ns ks:List Int} (td:TD M ns) {x:Int} {a b:Nat} (hp:pl ns ns.length x=[a,b]) (hab:a < b) (ha:M[a]?=some (some b)) (hb:M[b]?=some (some a)) :
  part M ns (ks ++ [x])=((part M ns ks).set a (some b)).set b (some a):=by
 have la:a < M.length:=(List.getElem?_eq_some_iff.mp ha).1
 have lb:b < M.length:=(List.getElem?_eq_some_iff.mp hb).1
 have na:=(Xc.mp (show a∈pl ns ns.length x by rw [hp]; simp)).2
 have nb:=(Xc.mp (show b∈pl ns ns.length x by rw [hp]; simp)).2
 apply List.ext_getElem?
 intro i
 by_cases li:i < M.length
 ·have ln:i < ns.length:=by rw [td.len]; exact li
  obtain ⟨y,hy⟩:∃ x,ns[i]?=some x:=⟨_,List.getElem?_eq_getElem ln⟩
  rw [Jh td hy]
  by_cases cb:i=b
  ·subst cb
   rw [nb] at hy; cases hy
   rw [List.getElem?_set_self (by rw [List.length_set,Xw]; exact lb),if_pos (by simp),List.getD_eq_getElem?_getD,hb]
   rfl
  ·rw [List.getElem?_set_ne (Ne.symm cb)]
   by_cases ca:i=a
   ·subst ca
    rw [na] at hy; cases hy
    rw [List.getElem?_set_self (by rw [Xw]; exact la),if_pos (by simp),List.getD_eq_getElem?_getD,ha]
    rfl
   ·rw [List.getElem?_set_ne (Ne.symm ca),Jh td hy]
    have:y≠x:=by
     rintro rfl
     have:i∈pl ns ns.length y:=Xc.mpr ⟨ln,hy⟩
     rw [hp] at this
     simp at this
     omega
    simp [this]
 ·rw [List.getElem?_eq_none (by rw [Xw]; omega),List.getElem?_eq_none (by rw [List.length_set,List.length_set,Xw]; omega)]
noncomputable def nV (i:Nat):V:=.int (i:Int)
theorem Wf {g:Int->V} {y:Int}:∀ {ks:List Int},valV (ks.map λx=>((Sum.inl x:Key),g x)) (Sum.inl y)=if y∈ks then some (g y) else none
 | []=>by simp [valV]
 | k :: r=>by
  have ih:=Wf (g:=g) (y:=y) (ks:=r)
  unfold valV at ih ⊢
  rw [List.map_cons,List.find?_cons]
  by_cases c:k=y
  ·subst c
   simp
  ·have:(decide ((Sum.inl k:Key)=Sum.inl y))=false:=by
    rw [decide_eq_false_iff_not]
    intro z
    cases z
    exact c rfl
   simp only [this]
   rw [ih]
   have:(y∈k :: r) ↔ y∈r:=by
    rw [List.mem_cons]
    exact ⟨λz=>z.elim (λw=>absurd w.symm c) id,.inr⟩
   simp only [this]
theorem Fs {g:Int->V} {y:Int} {v:V} {ks:List Int} (h:y ∉ ks):putK (ks.map λx=>((Sum.inl x:Key),g x)) (Sum.inl y) v=(ks.map λx=>((Sum.inl x:Key),g x)) ++ [(Sum.inl y,v)]:=by
 unfold putK
 rw [if_neg]
 intro z
 rw [List.any_eq_true] at z
 obtain ⟨kv,h1,h2⟩:=z
 obtain ⟨x,hx,rfl⟩:=List.mem_map.mp h1
 have:(Sum.inl x:Key)=Sum.inl y:=of_decide_eq_true h2
 cases this
 exact h hx
theorem Zex {g:Int->V} {y:Int} {v:V} {ks:List Int} (h:y∈ks):putK (ks.map λx=>((Sum.inl x:Key),g x)) (Sum.inl y) v=ks.map λx=>((Sum.inl x:Key),if x=y then v else g x):=by
 unfold putK
 rw [if_pos]
 ·rw [List.map_map]
  apply List.map_congr_left
  intro x hx
  show (if (Sum.inl x:Key)=Sum.inl y then ((Sum.inl x:Key),v) else (Sum.inl x,g x))=_
  by_cases c:x=y
  ·subst c; simp
  ·rw [if_neg (λz=>by cases z; exact c rfl),if_neg c]
 ·rw [List.any_eq_true]
  exact ⟨_,List.mem_map.mpr ⟨y,h,rfl⟩,by simp⟩
theorem Y1 {α:Type} {f:α->V} {l:List α} {i:Nat} {x:α} (h:l[i]?=some x):atI (l.map f) (i:Int)=some (f x):=X2 (by rw [List.getElem?_map,h]; rfl)
theorem Wt {H:Hp} {p q:Addr} {o:HO} (h:upd H p o q=none):q≠p/\H q=none:=by
 by_cases c:q=p
 ·subst c; rw [Zc] at h; cases h
 ·rw [Ze c] at h; exact ⟨c,h⟩
noncomputable def after (p:Int):Int:=if p % 3=2 then p - 2 else p + 1
noncomputable def Z2 (p:Int):Int:=if p % 3=0 then p + 2 else p - 1
noncomputable def Qj (left:Bool) (a b:Nat):List Int:=if left then [after a,Z2 b,after b,Z2 a] else [after a,Z2 a,after b,Z2 b]
noncomputable def mvI (left:Bool) (a b:Nat) (z:Int):Int :=
 if z=after a then (if left then Z2 b else Z2 a) else if z=Z2 b then (if left then after b else after a) else if z=after b then (if left then Z2 a else Z2 b) else if z=Z2 a then (if left then after a else after b) else z
noncomputable def glV (left:Bool) (a b:Nat):List (Key × V):=(Qj left a b).map λx=>((Sum.inl x:Key),V.int (mvI left a b x))
theorem Vh (p:Nat):after p / 3=(p:Int) / 3/\after p≠p/\0<=after p:=by unfold after; split <;> omega
theorem Qm (p:Nat):Z2 p / 3=(p:Int) / 3/\Z2 p≠p/\0<=Z2 p:=by unfold Z2; split <;> omega
theorem Ol (p:Nat):after p≠Z2 p:=by unfold after Z2; split <;> split <;> omega
theorem V9 {a b:Nat} (h:a / 3≠b / 3):after a≠Z2 a/\after a≠after b/\after a≠Z2 b/\Z2 a≠after b/\Z2 a≠Z2 b/\after b≠Z2 b:=by
 obtain ⟨h1,_,_⟩:=Vh a
 obtain ⟨h2,_,_⟩:=Qm a
 obtain ⟨h3,_,_⟩:=Vh b
 obtain ⟨h4,_,_⟩:=Qm b
 have e:¬ (a:Int) / 3=(b:Int) / 3:=by omega
 refine ⟨Ol a,λz=>e ?_,λz=>e ?_,λz=>e ?_,λz=>e ?_,Ol b⟩
 ·rw [<- h1,<- h3,z]
 ·rw [<- h1,<- h4,z]
 ·rw [<- h2,<- h3,z]
 ·rw [<- h2,<- h4,z]
theorem G2:∀ (kvs acc:List (Key × V)),((acc ++ kvs).map (·.1)).Nodup->W9 acc kvs=acc ++ kvs
 | [],acc,_=>by simp [W9]
 | kv :: r,acc,h=>by
  have h1:(acc.any λx=>decide (x.1=kv.1))=false:=by
   rw [List.any_eq_false]
   intro x hx z
   have z:x.1=kv.1:=of_decide_eq_true z
   rw [List.map_append,List.map_cons] at h
   have:=(List.nodup_append.mp h).2.2 x.1 (List.mem_map.mpr ⟨x,hx,rfl⟩) kv.1 List.mem_cons_self
   exact this z
  have h2:putK acc kv.1 kv.2=acc ++ [kv]:=by
   unfold putK
   rw [if_neg (by rw [h1]; decide)]
  show W9 (putK acc kv.1 kv.2) r=_
  rw [h2,G2 r (acc ++ [kv]) (by simpa using h)]
  simp
theorem Zc5 {left:Bool} {a b:Nat} (h:a / 3≠b / 3):W9 [] (glV left a b)=glV left a b:=by
 obtain ⟨h1,h2,h3,h4,h5,h6⟩:=V9 h
 refine G2 (glV left a b) [] ?_
 unfold glV Qj
 rw [List.nil_append,List.map_map]
 cases left <;> simp [h1,h2,h3,h4,h5,h6,Ne.symm h1,Ne.symm h2,Ne.symm h3,Ne.symm h4,Ne.symm h5,Ne.symm h6]
theorem Zde {a b:Nat} (h:a / 3≠b / 3):glV true a b=[(Sum.inl (after a),.int (Z2 b)),(Sum.inl (Z2 b),.int (after b)),(Sum.inl (after b),.int (Z2 a)),(Sum.inl (Z2 a),.int (after a))]:=by
 obtain ⟨h1,h2,h3,h4,h5,h6⟩:=V9 h
 unfold glV Qj mvI
 simp [h1,h2,h3,h4,h5,h6,Ne.symm h1,Ne.symm h2,Ne.symm h3,Ne.symm h4,Ne.symm h5,Ne.symm h6]
theorem Zar {a b:Nat} (h:a / 3≠b / 3):glV false a b=[(Sum.inl (after a),.int (Z2 a)),(Sum.inl (Z2 a),.int (after b)),(Sum.inl (after b),.int (Z2 b)),(Sum.inl (Z2 b),.int (after a))]:=by
 obtain ⟨h1,h2,h3,h4,h5,h6⟩:=V9 h
 unfold glV Qj mvI
 simp [h1,h2,h3,h4,h5,h6,Ne.symm h1,Ne.symm h2,Ne.symm h3,Ne.symm h4,Ne.symm h5,Ne.symm h6]
theorem Znk {left:Bool} {a b:Nat} {z:Int}:(valV (glV left a b) (Sum.inl z)).getD (V.int z)=V.int (mvI left a b z):=by
 unfold glV
 rw [Wf]
 by_cases c:z∈Qj left a b
 ·rw [if_pos c]; rfl
 ·rw [if_neg c]
  have:mvI left a b z=z:=by
   unfold mvI
   have n1:¬ z=after a:=λe=>c (by unfold Qj; split <;> simp [e])
   have n2:¬ z=Z2 b:=λe=>c (by unfold Qj; split <;> simp [e])
   have n3:¬ z=after b:=λe=>c (by unfold Qj; split <;> simp [e])
   have n4:¬ z=Z2 a:=λe=>c (by unfold Qj; split <;> simp [e])
   rw [if_neg n1,if_neg n2,if_neg n3,if_neg n4]
  rw [this]
  rfl
theorem Zkf (left:Bool) (i j:Nat) (z:Int):mvI left i j z=z\/mvI left i j z=after i\/mvI left i j z=Z2 i\/mvI left i j z=after j\/mvI left i j z=Z2 j:=by
 unfold mvI
 by_cases c1:z=after i
 ·cases left <;> simp [c1]
 ·by_cases c2:z=Z2 j
  ·rw [if_neg c1,if_pos c2]; cases left <;> simp
  ·by_cases c3:z=after j
   ·rw [if_neg c1,if_neg c2,if_pos c3]; cases left <;> simp
   ·by_cases c4:z=Z2 i
    ·rw [if_neg c1,if_neg c2,if_neg c3,if_pos c4]; cases left <;> simp
    ·rw [if_neg c1,if_neg c2,if_neg c3,if_neg c4]; exact .inl rfl
noncomputable def mvN (left:Bool) (i j z:Nat):Nat:=(mvI left i j z).toNat
theorem Zij (left:Bool) (i j z:Nat):0<=mvI left i j z:=by
 have h1:=(Vh i).2.2
 have h2:=(Qm i).2.2
 have h3:=(Vh j).2.2
 have h4:=(Qm j).2.2
 rcases Zkf left i j z with e | e | e | e | e <;> rw [e] <;> omega
theorem Zod (left:Bool) (i j z:Nat):((mvN left i j z:Nat):Int)=mvI left i j z:=Int.toNat_of_nonneg (Zij left i j z)
noncomputable def side (p k:Nat):Nat:=p - p % 3 + (p + k) % 3
theorem Zl6 {p k n:Nat} (h:p < 3 * n):side p k < 3 * n:=by unfold side; omega
theorem Zbz (p k:Nat):side p k / 3=p / 3:=by unfold side; omega
noncomputable def Yv (M:List (Option Nat)) (p:Int):Bool:=decide (0<=p/\p < M.length) && (M.getD p.toNat none).isSome
noncomputable def Y3 (M:List (Option Nat)) (a p:Int):Bool:=match M.getD a.toNat none with
 | some m=>decide (p / 3=(m:Int) / 3) && !decide (p=(m:Int))
 | none=>false
noncomputable def rot {α:Type} (ws:List α) (s:Nat):List α:=ws.drop s ++ ws.take s
noncomputable def W8 (M:List (Option Nat)) (ws vs:List Int):List Bool:=(ws.zip vs).map λp=>Y3 M p.1 p.2
noncomputable def Z1 (M:List (Option Nat)) (ws:List Int):Bool:=!ws.isEmpty && ((ws.map (Yv M)).all id && (W8 M ws (rot ws (1 % ws.length))).all id)
theorem Wy {α:Type} (ws:List α) {s:Nat} (h:s<=ws.length):(rot ws s).length=ws.length:=by
 unfold rot
 rw [List.length_append,List.length_drop,List.length_take]
 omega
theorem Zcm {α:Type} (ws:List α):rot ws 0=ws:=by unfold rot; simp
theorem Oo {α:Type} {ws:List α} {s k:Nat} (hs:s < ws.length) (hk:k < ws.length):(rot ws s)[k]?=ws[(k + s) % ws.length]?:=by
 unfold rot
 by_cases c:k < ws.length - s
 ·rw [List.getElem?_append_left (by rw [List.length_drop]; exact c),List.getElem?_drop,Nat.mod_eq_of_lt (by omega),Nat.add_comm]
 ·rw [List.getElem?_append_right (by rw [List.length_drop]; omega),List.length_drop,List.getElem?_take_of_lt (by omega)]
  have:(k + s) % ws.length=k - (ws.length - s):=by
   rw [show k + s=(k - (ws.length - s)) + ws.length by omega,Nat.add_mod_right,Nat.mod_eq_of_lt (by omega)]
  rw [this]
structure Pl (M:List (Option Nat)) (ws:List Nat):Prop where
 ne:ws≠[]
 has:∀ p∈ws,∃ m,M[p]?=some (some m)
 nxt:∀ (k:Nat) (a p:Nat),ws[k]?=some a->ws[(k + 1) % ws.length]?=some p->∀ m,M[a]?=some (some m)->p / 3=m / 3/\p≠m
noncomputable abbrev wI (ws:List Nat):List Int:=ws.map λ(x:Nat)=>(x:Int)
theorem Vg {M:List (Option Nat)} {p:Nat}:Yv M (p:Int)=true ↔ ∃ m,M[p]?=some (some m):=by
 unfold Yv
 rw [Bool.and_eq_true,decide_eq_true_eq,Int.toNat_natCast]
 constructor
 ·rintro ⟨⟨_,h1⟩,h2⟩
  have h1:p < M.length:=by omega
  rw [List.getD_eq_getElem?_getD,List.getElem?_eq_getElem h1] at h2
  obtain ⟨m,hm⟩:=Option.isSome_iff_exists.mp h2
  exact ⟨m,by rw [List.getElem?_eq_getElem h1]; exact congrArg some hm⟩
 ·rintro ⟨m,hm⟩
  have h1:p < M.length:=(List.getElem?_eq_some_iff.mp hm).1
  exact ⟨⟨by omega,by omega⟩,by rw [List.getD_eq_getElem?_getD,hm]; rfl⟩
theorem G9 {M:List (Option Nat)} {a p m:Nat} (h:M[a]?=some (some m)):Y3 M (a:Int) (p:Int)=true ↔ p / 3=m / 3/\p≠m:=by
 unfold Y3
 rw [Int.toNat_natCast,List.getD_eq_getElem?_getD,h]
 show (decide ((p:Int) / 3=(m:Int) / 3) && !decide ((p:Int)=(m:Int)))=true ↔ _
 rw [Bool.and_eq_true,decide_eq_true_eq,Bool.not_eq_true',decide_eq_false_iff_not]
 omega
theorem Fi {M:List (Option Nat)} {ws vs:List Int} (hl:ws.length=vs.length):(W8 M ws vs).all id=true ↔ ∀ (k:Nat) (a p:Int),ws[k]?=some a->vs[k]?=some p->Y3 M a p=true:=by
 unfold W8
 rw [List.all_eq_true]
 constructor
 ·intro h k a p ha hp
  refine h (Y3 M a p) (List.mem_map.mpr ⟨(a,p),?_,rfl⟩)
  exact List.mem_of_getElem? (i:=k) (by rw [List.getElem?_zip_eq_some]; exact ⟨ha,hp⟩)
 ·intro h b hb
  obtain ⟨⟨a,p⟩,hm,rfl⟩:=List.mem_map.mp hb
  obtain ⟨k,hk⟩:=List.getElem?_of_mem hm
  rw [List.getElem?_zip_eq_some] at hk
  exact h k a p hk.1 hk.2
theorem W3 {M:List (Option Nat)} {ws:List Nat}:Z1 M (wI ws)=true ↔ Pl M ws:=by
 have hl:(wI ws).length=ws.length:=by simp
 unfold Z1
 rw [Bool.and_eq_true,Bool.and_eq_true,Bool.not_eq_true',hl]
 constructor
 ·rintro ⟨h0,h1,h2⟩
  have hne:ws≠[]:=by
   rintro rfl
   cases h0
  have hpos:0 < ws.length:=by cases ws with | nil=>exact absurd rfl hne | cons _ _=>simp
  have hh:∀ p∈ws,∃ m,M[p]?=some (some m):=λp hp=>by
   refine Vg.mp (List.all_eq_true.mp h1 _ (List.mem_map.mpr ⟨(p:Int),List.mem_map.mpr ⟨p,hp,rfl⟩,rfl⟩))
  refine ⟨hne,hh,λk a p ha hp m hm=>?_⟩
  have hs:1 % ws.length < (wI ws).length:=by rw [hl]; exact Nat.mod_lt _ hpos
  have hk:k < (wI ws).length:=by rw [hl]; exact (List.getElem?_eq_some_iff.mp ha).1
  refine (G9 hm).mp ((Fi (by rw [Wy _ (Nat.le_of_lt hs)])).mp h2 k a p (by rw [List.getElem?_map,ha]; rfl) ?_)
  rw [Oo hs hk,hl,show (k + 1 % ws.length) % ws.length=(k + 1) % ws.length by rw [Nat.add_mod_mod],List.getElem?_map,hp]
  rfl
 ·rintro ⟨h0,h1,h2⟩
  have hpos:0 < ws.length:=by cases ws with | nil=>exact absurd rfl h0 | cons _ _=>simp
  have hs:1 % ws.length < (wI ws).length:=by rw [hl]; exact Nat.mod_lt _ hpos
  refine ⟨by cases ws with | nil=>exact absurd rfl h0 | cons _ _=>rfl,?_,?_⟩
  ·rw [List.all_eq_true]
   intro b hb
   obtain ⟨p',hp',rfl⟩:=List.mem_map.mp hb
   obtain ⟨p,hp,rfl⟩:=List.mem_map.mp hp'
   exact Vg.mpr (h1 p hp)
  ·refine (Fi (by rw [Wy _ (Nat.le_of_lt hs)])).mpr λk a p ha hp=>?_
   have hk:k < (wI ws).length:=(List.getElem?_eq_some_iff.mp ha).1
   rw [Oo hs hk,hl,show (k + 1 % ws.length) % ws.length=(k + 1) % ws.length by rw [Nat.add_mod_mod]] at hp
   rw [List.getElem?_map] at ha hp
   cases ea:ws[k]? with
   | none=>rw [ea] at ha; cases ha
   | some a' =>
    cases ep:ws[(k + 1) % ws.length]? with
    | none=>rw [ep] at hp; cases hp
    | some p' =>
     rw [ea] at ha; cases ha
     rw [ep] at hp; cases hp
     obtain ⟨m,hm⟩:=h1 a' (List.mem_of_getElem? ea)
     exact (G9 hm).mpr (h2 k a' p' ea ep m hm)
structure Ch (M:List (Option Nat)) (row:List Nat):Prop where
 has:∀ p∈row,∃ m,M[p]?=some (some m)
 nxt:∀ (k:Nat) (a p m:Nat),row[k]?=some a->row[k + 1]?=some p->M[a]?=some (some m)->p / 3=m / 3/\p≠m
theorem Ch.one {M:List (Option Nat)} {p m:Nat} (h:M[p]?=some (some m)):Ch M [p]:=by
 refine ⟨λq hq=>?_,λk a q m' _ hq=>?_⟩
 ·rw [List.mem_singleton] at hq; subst hq; exact ⟨m,h⟩
 ·simp at hq
theorem Ch.snoc {M:List (Option Nat)} {row:List Nat} {a p m:Nat} (h:Ch M row) (hl:row.getLast?=some a) (hm:M[a]?=some (some m)) (h1:p / 3=m / 3) (h2:p≠m) (hp:∃ q,M[p]?=some (some q)):Ch M (row ++ [p]):=by
 refine ⟨λq hq=>?_,λk b q m' hb hq hm'=>?_⟩
 ·rcases List.mem_append.mp hq with z | z
  ·exact h.has q z
  ·rw [List.mem_singleton] at z; subst z; exact hp
 ·by_cases c:k + 1 < row.length
  ·rw [List.getElem?_append_left c] at hq
   rw [List.getElem?_append_left (by omega)] at hb
   exact h.nxt k b q m' hb hq hm'
  ·have hk:k + 1 < (row ++ [p]).length:=(List.getElem?_eq_some_iff.mp hq).1
   rw [List.length_append,List.length_singleton] at hk
   have hk:k + 1=row.length:=by omega
   rw [List.getElem?_append_right (by omega),hk] at hq
   have:q=p:=by simpa using hq.symm
   subst this
   rw [List.getElem?_append_left (by omega)] at hb
   rw [List.getLast?_eq_getElem?,show row.length - 1=k by omega,hb] at hl
   cases hl
   rw [hm] at hm'
   cases hm'
   exact ⟨h1,h2⟩
theorem Ch.cut {M:List (Option Nat)} {row:List Nat} {s e a:Nat} (h:Ch M row) (hse:s < e) (h1:row[s]?=some a) (h2:row[e]?=some a):Pl M ((row.drop s).take (e - s)):=by
 have he:e < row.length:=(List.getElem?_eq_some_iff.mp h2).1
 have hl:((row.drop s).take (e - s)).length=e - s:=by rw [List.length_take,List.length_drop]; omega
 have gt:∀ k,k < e - s->((row.drop s).take (e - s))[k]?=row[s + k]?:=λk hk=>by rw [List.getElem?_take_of_lt hk,List.getElem?_drop]
 refine ⟨λz=>by rw [z] at hl; simp at hl; omega,λp hp=>?_,λk b p hb hp m hm=>?_⟩
 ·exact h.has p (List.mem_of_mem_drop (List.mem_of_mem_take hp))
 ·rw [hl] at hp
  have hk:k < e - s:=by have:=(List.getElem?_eq_some_iff.mp hb).1; rw [hl] at this; exact this
  rw [gt k hk] at hb
  by_cases c:k + 1 < e - s
  ·rw [Nat.mod_eq_of_lt c,gt _ c] at hp
   exact h.nxt (s + k) b p m hb (by rw [show s + k + 1=s + (k + 1) by omega]; exact hp) hm
  ·have hk:k + 1=e - s:=by omega
   rw [hk,Nat.mod_self,gt 0 (by omega),Nat.add_zero,h1] at hp
   cases hp
   exact h.nxt (s + k) b a m hb (by rw [show s + k + 1=e by omega]; exact h2) hm
end KT
namespace L2
open PySem PySem.Spec PyProof.Rows
section
variable {X:Cx}
noncomputable def Zmb:V->List V->Hp->VK->Prop:=λx vs H Q=>∃ l xs k y,x=.ref l/\vs=[.int (k:Nat),y]/\H l=some (.lst xs)/\k<=xs.length/\xs.length < sizeLine/\Q .non (upd H l (.lst (xs.take k ++ y :: xs.drop k)))
theorem Zkq {prog:Program} {w:World} {A:Around} {E:Value->Shared->Prop} {s:Shared} {Q:Value->Shared->Prop} {l:Addr} {its:Array Value} {n:Nat} {x:Int} {t:Tok} {u:Value} (h:¬ (!Builtin.List.listFitsIndex x)=true) (hz:its.size<=sizeLine)
  (e:s.heap.get? l=some { cls:=.type "list",dict:=none,data:=.seq its n,slots:=#[] })
  (q:Q Value.none { s with heap:=s.heap.update l (Obj.mapSeq λxs=>have k:=if x < 0 then (x + ((xs.size:Nat):Int)).toNat else min x.toNat xs.size; (xs.extract 0 k).push u ++ xs.extract k),toks:=s.toks }) :
  wpAny (model prog w) A (call (Value.builtin "list.insert") [.ref l,.int x t,u]) Q E s:=by
 have M:=@PySem.AutoListH.list_insert_list_int_val_1 l its n x t u h hz
 have ar:=F.args_list_insert_3 (.ref l) (.int x t) u
 exact @call_meets prog w A E s _ _ _ _ (.ref l) [.int x t,u] _ Q F.slot_list_insert ⟨_,e,rfl⟩ F.entry_list_insert ar M ⟨e,q⟩
theorem Zik:MtM X "list.insert" Zmb:=by
 intro pins s σ H x vs v us Q I rx rv h
 obtain ⟨l,xs,k,y,rfl,rfl,hH,hk,hz,q⟩:=h
 cases rx
 obtain ⟨u1,u2,rfl,r1,r2⟩:=rv.two
 obtain ⟨t,rfl⟩:=r1
 obtain ⟨z,its,n,r,hl,e⟩:=I.lstM hH
 have hsz:its.toArray.size<=sizeLine:=by rw [List.size_toArray]; omega
 have hs2:sizeLine < 2 ^ 62:=by rw [sizeLine_eq]; omega
 have hf:Builtin.List.listFitsIndex (k:Int)=true:=fitsIndex_both (by omega) (by omega)
 have hf2:¬ (!Builtin.List.listFitsIndex (k:Int))=true:=by rw [hf]; simp
 have hxk:(k:Int).toNat=k/\¬ (k:Int) < 0:=⟨Int.toNat_natCast k,by omega⟩
 revert hf2 hxk
 clear hf
 generalize (k:Int)=x
 intro hf2 hxk
 refine Zkq hf2 hsz e ?_
 refine ⟨.non,_,I.lset (its':=its.take k ++ u2 :: its.drop k) hH e ?_ ?_ ?_,rfl,q⟩
 ·have hk':k<=its.length:=by omega
  show (its.toArray.extract 0 (if x < 0 then (x + ((its.toArray.size:Nat):Int)).toNat else min x.toNat its.toArray.size)).push u2 ++ its.toArray.extract (if x < 0 then (x + ((its.toArray.size:Nat):Int)).toNat else min x.toNat its.toArray.size)=_
  rw [if_neg hxk.2,hxk.1,List.size_toArray,Nat.min_eq_left hk']
  simp
  exact List.take_of_length_le (by rw [List.length_drop]; exact Nat.le_refl _)
 ·exact (r.take k).append (.cons r2 (r.drop k))
 ·rw [List.length_append,List.length_cons,List.length_take,List.length_drop]
  omega
end
section
variable {X:Cx}
noncomputable def Ud (i j:Int):Prop:=0 < j/\j.natAbs.log2 < 9000
theorem Kv:OpR X (binaryOp .FloorDiv) (rI Ud λi j=>.int (i / j)):=opI λi j _ _ _ _ _ hc q=>by
 have h1:(0:Int) < j:=hc.1
 exact floordiv_int (by omega) (by rw [Int.fdiv_eq_ediv_of_nonneg i (by omega)]; exact q) (.inl (PyProof.noPylong_of_log2 hc.2))
theorem Ot:OpR X (binaryOp .Mult) (rI IntMulOk λi j=>.int (i * j)):=opI λ_ _ _ _ _ _ _ hc q=>mul_int q hc
theorem log2_lt {j:Int} {k:Nat} (h:j.natAbs < 2 ^ k) (hk:0 < k):j.natAbs.log2 < k:=by
 by_cases e:j.natAbs=0
 ·rw [e]; simpa using hk
 ·exact (Nat.log2_lt e).mpr h
theorem F3 {j:Int} {k:Nat} (h:j.natAbs < 2 ^ k) (hk:0 < k):Builtin.Int.intBits j<=k:=by
 unfold Builtin.Int.intBits
 have:=log2_lt h hk
 split
 ·omega
 ·omega
end
end L2
namespace HL
open PySem PyProof.Rows HT
section
open PySem.SeqAt
open PySem.AutoSeq1 (wpAny_loadPart')
open PySem.MeetsSeq PySem.MeetsSeq2 PySem.MeetsSeq3
theorem Zfe {us:List Value} {ns:List Int} (h:IntsAre us ns):∀ {i:Nat},i < us.length->∃ t,us[i]?=some (.int (ns.getD i 0) t):=by
 induction h with
 | nil=>intro i hi; simp at hi
 | cons n t h ih =>
  intro i hi
  cases i with
  | zero=>exact ⟨t,rfl⟩
  | succ i=>obtain ⟨t',e⟩:=ih (i:=i) (by simpa using hi); exact ⟨t',e⟩
theorem Zmt {a b:List Int} {i:Nat} (h:a.length<=i\/b.length<=i):lexLt (a.drop i) (b.drop i)=decide (a.length - i < b.length - i):=by
 by_cases ha:a.length<=i
 ·rw [List.drop_eq_nil_of_le ha]
  by_cases hb:b.length<=i
  ·rw [List.drop_eq_nil_of_le hb,Uo]; exact (decide_eq_false (by omega)).symm
  ·cases e:b.drop i with
   | nil=>exact absurd (List.drop_eq_nil_iff.mp e) hb
   | cons c t=>rw [Jj]; exact (decide_eq_true (by omega)).symm
 ·have hb:b.length<=i:=by omega
  rw [List.drop_eq_nil_of_le hb]
  cases e:a.drop i with
  | nil=>exact absurd (List.drop_eq_nil_iff.mp e) ha
  | cons c t=>rw [Wj]; exact (decide_eq_false (by omega)).symm
theorem Zfj {a:List Int} {i:Nat} (h:i < a.length):a.drop i=a.getD i 0 :: a.drop (i + 1):=by
 rw [List.drop_eq_getElem_cons h,List.getD_eq_getElem?_getD,List.getElem?_eq_getElem h]; rfl
theorem Zmq (l b:Addr) (xs ys:Array Value) (n n2:Nat) (dd dd2:Option Addr) (sl sl2:Array (Option Value)) (ns ms:List Int) (hi:IntsAre xs.toList ns) (hj:IntsAre ys.toList ms) (k:Nat) :
  ∀ i:Nat,i<=xs.size->i<=ys.size->min xs.size ys.size - i=k->Meets (Builtin.«list.__eq__.loop» ⟨[.ref l,.ref b,rawInt i,rawInt 0],[]⟩)
   (λ_ R s=>s.heap.get? l=some { cls:=.type "list",dict:=dd,data:=.seq xs n,slots:=sl }/\s.heap.get? b=some { cls:=.type "list",dict:=dd2,data:=.seq ys n2,slots:=sl2 }/\R (.ok (.ret (.bool (lexLt (ns.drop i) (ms.drop i))))) s):=by
 have z1:xs.size=ns.length:=by rw [<- hi.length]; simp
 have z2:ys.size=ms.length:=by rw [<- hj.length]; simp
 induction k with
 | zero =>
  intro i b1 b2 hk prog w A R s h
  obtain ⟨hp,g,d,tk,os⟩:=s
  obtain ⟨hl,hb,h⟩:=h
  rw [Zmt (by omega)] at h
  have hv:(decide (ns.length - i < ms.length - i))=decide (xs.size < ys.size):=by
   apply decide_eq_decide.mpr
   omega
  rw [hv] at h
  wp_walk using wpAny_loadPart' hl,wpAny_loadPart' hb
  by_cases c:i < xs.size
  ·have e1:xs[((i:Nat):Int).toNat]?=some xs[i]:=by simp [c]
   have e2:ys[((i:Nat):Int).toNat]?=none:=by simp; omega
   rw [e1,e2]
   wp_walk using wpAny_loadPart' hl,wpAny_loadPart' hb
   exact h
  ·have e1:xs[((i:Nat):Int).toNat]?=none:=by simp; omega
   rw [e1]
   wp_walk using wpAny_loadPart' hl,wpAny_loadPart' hb
   exact h
 | succ k ih =>
  intro i b1 b2 hk prog w A R s h
  obtain ⟨hp,g,d,tk,os⟩:=s
  obtain ⟨hl,hb,h⟩:=h
  have c1:i < xs.size:=by omega
  have c2:i < ys.size:=by omega
  obtain ⟨t1,q1⟩:=Zfe hi (i:=i) (by simpa using c1)
  obtain ⟨t2,q2⟩:=Zfe hj (i:=i) (by simpa using c2)
  have e1:xs[((i:Nat):Int).toNat]?=some (.int (ns.getD i 0) t1):=by simpa using q1
  have e2:ys[((i:Nat):Int).toNat]?=some (.int (ms.getD i 0) t2):=by simpa using q2
  have hc:((i:Int) + 1)=((i + 1:Nat):Int):=by push_cast; rfl
  rw [Zfj (a:=ns) (i:=i) (by omega),Zfj (a:=ms) (i:=i) (by omega),Qh] at h
  wp_walk using wpAny_loadPart' hl,wpAny_loadPart' hb
  rw [e1,e2]
  obtain ⟨ev,he,hiff⟩:=Zk1 A.in1 ⟨hp,g,d,tk,os⟩ (ns.getD i 0) t1 (ms.getD i 0) t2
  refine wpAny_bind (he prog w _ _ ?_)
  cases ev with
  | true =>
   rw [if_pos (hiff.mp rfl)] at h
   wp_walk
   rw [hc]
   refine ⟨plainId_quiet plain_eq_loop _,codeAny_builtin entry_eq_loop ?_⟩
   rw [Around.under_plainId plain_eq_loop _]
   exact ih (i + 1) (by omega) (by omega) (by omega) prog w A R _ ⟨hl,hb,h⟩
  | false =>
   rw [if_neg (λq=>absurd (hiff.mpr q) Bool.false_ne_true)] at h
   wp_walk using wpAny_loadPart' hl,wpAny_loadPart' hb
   rw [e1,e2]
   have hri:=Zjy A.in1 ⟨hp,g,d,tk,os⟩ (ns.getD i 0) t1 (ms.getD i 0) t2 prog w
   wp_walk using hri
   exact h
theorem Zms (l b:Addr) (xs ys:Array Value) (n n2:Nat) (dd dd2:Option Addr) (sl sl2:Array (Option Value)) (ns ms:List Int) (hi:IntsAre xs.toList ns) (hj:IntsAre ys.toList ms) :
  Meets (Builtin.«list.__lt__» ⟨[.ref l,.ref b],[]⟩)
   (λ_ R s=>s.heap.get? l=some { cls:=.type "list",dict:=dd,data:=.seq xs n,slots:=sl }/\s.heap.get? b=some { cls:=.type "list",dict:=dd2,data:=.seq ys n2,slots:=sl2 }/\R (.ok (.ret (.bool (lexLt ns ms)))) s):=by
 intro prog w A R s h
 obtain ⟨hp,g,d,tk,os⟩:=s
 obtain ⟨hl,hb,h⟩:=h
 have f3:=AutoSeq1.sub_list_list
 wp_walk using wpAny_loadPart' hl,wpAny_loadPart' hb
 refine ⟨plainId_quiet plain_eq_loop _,codeAny_builtin entry_eq_loop ?_⟩
 rw [Around.under_plainId plain_eq_loop _]
 exact Zmq l b xs ys n n2 dd dd2 sl sl2 ns ms hi hj _ 0 (Nat.zero_le _) (Nat.zero_le _) rfl prog w A R _ ⟨hl,hb,h⟩
end
section
variable {prog:Program} {w:World} {A:Around} {E:Value->Shared->Prop} {s:Shared}
theorem lt_lists {l b:Addr} {xs ys:Array Value} {ns ms:List Int} {Q:Value->Shared->Prop} (hl:s.heap.IsList l xs) (hb:s.heap.IsList b ys) (hi:IntsAre xs.toList ns) (hj:IntsAre ys.toList ms)
  (hu:A.units < cLine) (h:Q (.bool (lexLt ns ms)) s):wpAny (model prog w) A (richCompare .Lt (.ref l) (.ref b)) Q E s:=by
 obtain ⟨⟨cls,dd,data,sl⟩,ho,hc,n,hd⟩:=id hl
 obtain ⟨⟨cls2,dd2,data2,sl2⟩,ho2,hc2,n2,hd2⟩:=id hb
 simp only at hc hd hc2 hd2
 subst hc hd hc2 hd2
 exact richCompare_meets_room (op:=.Lt) ⟨_,ho,rfl⟩ ⟨_,ho2,rfl⟩ PySem.F.slot_list_lt PySem.F.entry_list_lt (PySem.F.args_list_lt_2 _ _) (Zms l b xs ys n n2 dd dd2 sl sl2 ns ms hi hj)
  ⟨ho,ho2,show Value.bool (lexLt ns ms)≠Value.notImplemented/\Q (.bool (lexLt ns ms)) s from ⟨(λx=>nomatch x),h⟩⟩ hu
end
section
variable {prog:Program} {w:World} {A:Around} {R:Result->Shared->Prop} {I:Addr} {fp wr:List Addr} {n:Nat} {P:Nat->Value->Prop} {St:Nat->Heap->Prop}
theorem Ov {g:Heap} {B:Addr} {f:Obj->Obj} (b:Addr) (o:Obj) (bB:b≠B) (e:g.get? b=some o):(g.update B f).get? b=some o:=(Heap.get?_update_other _ _ (Ne.symm bB)).trans e
noncomputable def CmpIn (prog:Program) (w:World) (A:Around) (J:Heap->Prop) (P:Nat->Value->Prop) (bt:Nat->Nat->Bool):Prop :=
 ∀ i j vi vj (s:Shared) (Q:Value->Shared->Prop) (E:Value->Shared->Prop),J s.heap->P i vi->P j vj->Q (.bool (bt i j)) s->wpAny (model prog w) A (richCompare .Lt vi vj) Q E s
theorem Zoe {J:Heap->Prop} (V:Walks prog w A.in1 I fp wr n P St) (bt:Nat->Nat->Bool) (cmp:CmpIn prog w A.in1 J P bt) (B:Addr) (nB:B ∉ fp) (stay:∀ h h':Heap,J h->(∀ b o,b ∉ wr->b≠B->h.get? b=some o->h'.get? b=some o)->J h') :
  ∀ (k j:Nat) (s:Shared) (u:Value) (c:Nat),n - (j + 1)=k->j + 1<=n->St (j + 1) s.heap->J s.heap->P (argBest bt j) u->s.heap.get? B=some { cls:=.type "list",dict:=none,data:=.seq #[u,u] c,slots:=#[] } ->
  (∀ v h' tk,P (argBest bt (n - 1)) v->(∀ b o,b ∉ wr->b≠B->s.heap.get? b=some o->h'.get? b=some o)->R (.ok (.ret v)) { s with heap:=h',toks:=tk }) ->
  codeAny (model prog w) A (.builtin "min.loop" ⟨[.ref I,.none,.ref B],[]⟩) R s:=by
 have nW:B ∉ wr:=λz=>nB (V.sub _ z)
 have nm:(toString "min" ++ toString ".loop":String)="min.loop":=by decide
 intro k
 induction k with
 | zero =>
  intro j s u c ek lj st hJ pu hB out
  have last:j + 1=n:=by omega
  refine codeAny_builtin F.entry_min_loop ?_; rw [Around.under_plainId F.plain_min_loop _]
  show wpAny _ A.in1 (seqItems? (.ref B) >>= _) _ _ s
  refine wpAny_bind (wpAny_seqItems hB rfl ?_); show wpAny _ A.in1 (tryCatch (pyNext (.ref I)) _ >>= _) _ _ s
  refine wpAny_bind (wpAny_tryCatch (V.done s _ _ (last ▸ st) λg tk kp=>?_))
  have hB2:=kp B _ nW hB
  show wpAny _ A.in1 (updateSeq B (λ_=>#[]) >>= _) _ _ _
  refine wpAny_bind (wpAny_updateSeq hB2 rfl (wpAny_bind (wpAny_letGo (wpAny_pure ?_))))
  exact out u _ tk (by rw [<- last]; exact pu) λb o bw bB e=>(Heap.get?_update_other _ _ (Ne.symm bB)).trans (kp b o bw e)
 | succ k ih =>
  intro j s u c ek lj st hJ pu hB out
  have more:j + 1 < n:=by omega
  refine codeAny_builtin F.entry_min_loop ?_; rw [Around.under_plainId F.plain_min_loop _]
  show wpAny _ A.in1 (seqItems? (.ref B) >>= _) _ _ s
  refine wpAny_bind (wpAny_seqItems hB rfl ?_); show wpAny _ A.in1 (tryCatch (pyNext (.ref I)) _ >>= _) _ _ s
  refine wpAny_bind (wpAny_tryCatch (V.item (j + 1) s _ _ more st λv g tk pv st2 kp=>?_))
  have hB2:=kp B _ nW hB
  have hJ2:J g:=stay _ _ hJ λb o bw _ e=>kp b o bw e
  show wpAny _ A.in1 (tryCatch (holding [v,v] (richCompare .Lt v u >>= _)) _ >>= _) _ _ _
  refine wpAny_bind (wpAny_tryCatch (wpAny_holding (wpAny_bind (cmp (j + 1) (argBest bt j) v u _ _ _ hJ2 pv pu ?_))))
  refine wpAny_bind (wpAny_holding (wpAny_truthy_bool ?_)); refine wpAny_bind (wpAny_letGo (wpAny_pure ?_))
  cases less:bt (j + 1) (argBest bt j) with
  | true =>
   simp only [if_true]
   refine wpAny_bind (wpAny_updateSeq hB2 rfl (wpAny_bind (wpAny_letGo ?_))); rw [nm]
   refine wpAny_pure ⟨plainId_quiet F.plain_min_loop _,ih (j + 1) _ v _ (by omega) more (V.frame _ _ _ st2 λb bf o e=>Ov b o (λz=>nB (z ▸ bf)) e) (stay _ _ hJ2 λb o _ bB e=>Ov b o bB e) (by simp only [argBest,less,if_true]; exact pv) (Heap.get?_update_self _ hB2 rfl) λv' g' tk' pv' kp'=>?_⟩
   exact out v' g' tk' pv' λb o bw bB e=>kp' b o bw bB (Ov b o bB (kp b o bw e))
  | false =>
   simp only [Bool.false_eq_true,if_false]
   refine wpAny_bind (wpAny_letGo ?_); rw [nm]
   refine wpAny_pure ⟨plainId_quiet F.plain_min_loop _,ih (j + 1) _ u c (by omega) more st2 hJ2 (by simp only [argBest,less,Bool.false_eq_true,if_false]; exact pu) hB2 λv' g' tk' pv' kp'=>?_⟩
   exact out v' g' tk' pv' λb o bw bB e=>kp' b o bw bB (kp b o bw e)
theorem Zim {J:Heap->Prop} (V:Walks prog w A.in1 I fp wr n P St) (bt:Nat->Nat->Bool) (cmp:CmpIn prog w A.in1 J P bt) (B:Addr) (nB:B ∉ fp) (stay:∀ h h':Heap,J h->(∀ b o,b ∉ wr->b≠B->h.get? b=some o->h'.get? b=some o)->J h') (hn:0 < n) {s:Shared} {c:Nat} (st:St 0 s.heap) (hJ:J s.heap)
  (hB:s.heap.get? B=some { cls:=.type "list",dict:=none,data:=.seq #[] c,slots:=#[] })
  (out:∀ v h' tk,P (argBest bt (n - 1)) v->(∀ b o,b ∉ wr->b≠B->s.heap.get? b=some o->h'.get? b=some o)->R (.ok (.ret v)) { s with heap:=h',toks:=tk }) :
  codeAny (model prog w) A (.builtin "min.loop" ⟨[.ref I,.none,.ref B],[]⟩) R s:=by
 have nW:B ∉ wr:=λz=>nB (V.sub _ z)
 have nm:(toString "min" ++ toString ".loop":String)="min.loop":=by decide
 refine codeAny_builtin F.entry_min_loop ?_; rw [Around.under_plainId F.plain_min_loop _]
 show wpAny _ A.in1 (seqItems? (.ref B) >>= _) _ _ s
 refine wpAny_bind (wpAny_seqItems hB rfl ?_); show wpAny _ A.in1 (tryCatch (pyNext (.ref I)) _ >>= _) _ _ s
 refine wpAny_bind (wpAny_tryCatch (V.item 0 s _ _ hn st λv g tk pv st2 kp=>?_))
 have hB2:=kp B _ nW hB
 have hJ2:J g:=stay _ _ hJ λb o bw _ e=>kp b o bw e
 show wpAny _ A.in1 (updateSeq B (λ_=>#[v,v]) >>= _) _ _ _
 refine wpAny_bind (wpAny_updateSeq hB2 rfl ?_); rw [nm]
 refine wpAny_pure ⟨plainId_quiet F.plain_min_loop _,Zoe V bt cmp B nB stay _ 0 _ v _ rfl hn (V.frame _ _ _ st2 λb bf o e=>Ov b o (λz=>nB (z ▸ bf)) e) (stay _ _ hJ2 λb o _ bB e=>Ov b o bB e) pv (Heap.get?_update_self _ hB2 rfl) λv' g' tk' pv' kp'=>?_⟩
 exact out v' g' tk' pv' λb o bw bB e=>kp' b o bw bB (Ov b o bB (kp b o bw e))
end
section
variable {prog:Program} {w:World} {A:Around} {E:Value->Shared->Prop} {s:Shared}
theorem min_pair {a b:Value} {Q:Value->Shared->Prop} (h:wpAny (model prog w) A.in1 (pyIter (.ref s.heap.objs.size)) (λit s₂=>∃ I fp wr n P St bt J,it=.ref I/\Walks prog w A.in1 I fp wr n P St/\St 0 s₂.heap/\(∀ b∈fp,b < s₂.heap.objs.size)/\0 < n/\CmpIn prog w A.in1 J P bt /\
   J s₂.heap/\(∀ h h':Heap,J h->(∀ b o,b ∉ wr->b≠s₂.heap.objs.size->h.get? b=some o->h'.get? b=some o)->J h') /\
   ∀ v h' tk,P (argBest bt (n - 1)) v->(∀ b o,b ∉ wr->s₂.heap.get? b=some o->h'.get? b=some o)->Q v { s₂ with heap:=h',toks:=tk }) E
   { s with heap:=s.heap.push { cls:=.type "tuple",data:=.seq #[a,b] } }):wpAny (model prog w) A (call (.builtin "min") [a,b]) Q E s:=by
 have nm:(toString "min" ++ toString ".loop":String)="min.loop":=by decide
 refine call_function_tree F.kind_min F.plain_min F.entry_min (F.args_min2 _ _) ?_
 show wpAny _ A.in1 (Builtin.Builtins.bindParams "min" ["key","default"] 0 ⟨[],[]⟩ >>= _) _ _ s
 have none2:Builtin.Builtins.bindParams "min" ["key","default"] 0 ⟨[],[]⟩=pure [none,none]:=rfl
 refine wpAny_bind (wpAny_of_eq none2 ?_); show wpAny _ A.in1 (newTuple [a,b] >>= _) _ _ s
 refine wpAny_bind (wpAny_newObj_type (wpAny_bind (wpAny_mono h (λit s₂ q=>?_) λ_ _ z=>z)))
 obtain ⟨I,fp,wr,n,P,St,bt,J,rfl,V,st,lo,hn,cmp,hJ,stay,out⟩:=q
 refine wpAny_bind (wpAny_newObj_type ?_)
 have nB:s₂.heap.objs.size ∉ fp:=λz=>Nat.lt_irrefl _ (lo _ z)
 have hJ2:=stay _ _ hJ λb o _ _ e=>Heap.get?_push_of_some { cls:=.type "list",data:=.seq #[] } e
 rw [nm]
 refine wpAny_pure ⟨plainId_quiet F.plain_min_loop _,Zim V bt cmp s₂.heap.objs.size nB stay hn (V.frame _ _ _ st λb _ o e=>Heap.get?_push_of_some _ e) hJ2 (Heap.get?_push_size _ rfl) λv g tk pv kp=>?_⟩
 exact out v g tk pv λb o bw e=>kp b o bw (Nat.ne_of_lt (Heap.lt_size e)) (Heap.get?_push_of_some _ e)
end
end HL
namespace L2
open PySem PySem.Spec PyProof.Rows
section
variable {X:Cx}
noncomputable def LsAt (as:List Addr) (nss:Nat->List Int) (h:Heap):Prop:=∀ i a,as[i]?=some a->∃ its:List Value,h.IsList a its.toArray/\IntsAre its (nss i)
theorem LsAt.cmp {P:Program} {w:World} {A:Around} {as:List Addr} {nss:Nat->List Int} (hu:A.units < cLine) :
  HL.CmpIn P w A (LsAt as nss) (λi v=>∃ a,as[i]?=some a/\v=.ref a) λi j=>HT.lexLt (nss i) (nss j):=by
 rintro i j vi vj s Q E hJ ⟨a,ea,rfl⟩ ⟨b,eb,rfl⟩ q
 obtain ⟨ia,la,na⟩:=hJ i a ea
 obtain ⟨ib,lb,nb⟩:=hJ j b eb
 exact HL.lt_lists la lb (by simpa using na) (by simpa using nb) hu q
theorem LsAt.stay {as:List Addr} {nss:Nat->List Int} {h h':Heap} {no:Addr->Prop} (hJ:LsAt as nss h) (hno:∀ (i:Nat) (a:Addr),as[i]?=some a->¬ no a) (k:∀ b o,¬ no b->h.get? b=some o->h'.get? b=some o):LsAt as nss h':=by
 intro i a e
 obtain ⟨its,⟨o,ho,hc⟩,n⟩:=hJ i a e
 exact ⟨its,⟨o,k a o (hno i a e) ho,hc⟩,n⟩
theorem LsAt.of {pins:List (Addr × Obj)} {σ:St} {H:Hp} {s:Shared} {as:List Addr} {nss:Nat->List Int} (I:Inv X pins σ H s) (h:∀ i a,as[i]?=some a->SqL X.K H a ((nss i).map V.int)):LsAt as nss s.heap:=by
 intro i a e
 obtain ⟨its,r,p,_⟩:=I.list (h i a e)
 exact ⟨its,p.isList,Jb r⟩
theorem LsAt.lt {as:List Addr} {nss:Nat->List Int} {h:Heap} (hJ:LsAt as nss h) {i:Nat} {a:Addr} (e:as[i]?=some a):a < h.objs.size:=by
 obtain ⟨_,⟨o,ho,_⟩,_⟩:=hJ i a e
 exact Heap.lt_size ho
theorem Fe (hc:X.calm=true) (hu:X.A.units + 64 < cLine):Xy X (.builtin "min") (λxs H Q=>∃ (a b:Addr) (ns ms:List Int),xs=[.ref a,.ref b]/\SqL X.K H a (ns.map V.int)/\SqL X.K H b (ms.map V.int) /\
  Q (.ref (if HT.lexLt ms ns=true then b else a)) H):=by
 intro pins s σ H xs us Q I r h
 obtain ⟨a,b,ns,ms,rfl,ha,hb,q⟩:=h
 obtain ⟨u,v,rfl,ru,rv⟩:=Zk6 r
 cases ru
 cases rv
 let as:List Addr:=[a,b]
 let nss:Nat->List Int:=λi=>if i=0 then ns else ms
 have hJ:LsAt as nss s.heap:=LsAt.of I λi c e=>by
  match i,e with
  | 0,e=>cases e; exact ha
  | 1,e=>cases e; exact hb
  | n + 2,e=>cases e
 have hT:(s.heap.push { cls:=.type "tuple",data:=.seq #[.ref a,.ref b] }).IsTuple s.heap.objs.size #[.ref a,.ref b]:=⟨_,Heap.get?_push_size _ rfl,rfl,0,rfl⟩
 have hsz:(s.heap.push { cls:=.type "tuple",data:=.seq #[.ref a,.ref b] }).objs.size=s.heap.objs.size + 1:=Heap.size_push ..
 have W:=Walks.tuple (prog:=X.prog) (w:=X.w) (A:=X.A.in1) (show X.A.in1.handled=none from I.ok.hd hc) (s.heap.push { cls:=.type "tuple",data:=.seq #[.ref a,.ref b] }).objs.size s.heap.objs.size (by rw [hsz]; exact Nat.ne_of_lt (Nat.lt_succ_self _)) #[.ref a,.ref b]
 have hat:∀ (i:Nat) (v:Value),(#[Value.ref a,Value.ref b]:Array Value)[i]?=some v->∃ c,as[i]?=some c/\v=.ref c:=λi v e=>by
  match i,e with
  | 0,e=>cases e; exact ⟨a,rfl,rfl⟩
  | 1,e=>cases e; exact ⟨b,rfl,rfl⟩
  | n + 2,e=>simp at e
 refine HL.min_pair (wpAny_pyIter_tuple hT ⟨_,[_,s.heap.objs.size],[_],_,λi v=>∃ c,as[i]?=some c/\v=.ref c,_,λi j=>HT.lexLt (nss i) (nss j),LsAt as nss,rfl,
  ⟨W.sub,W.frame,λi s' Q' E' hi st hQ=>W.item i s' Q' E' hi st λv h' tk e st' k=>hQ v h' tk (hat i v e) st' k,W.done,W.self⟩,⟨⟨_,Heap.get?_push_size _ rfl,rfl,rfl⟩,hT.push _⟩,?_,Nat.succ_pos 1,LsAt.cmp (by show X.A.units + 1 < cLine; omega),?_,?_,?_⟩)
 ·intro c hc'
  show c < ((s.heap.push _).push _).objs.size
  rw [Heap.size_push,hsz]
  rcases List.mem_cons.mp hc' with rfl | hc'
  ·rw [hsz]; exact Nat.lt_succ_self _
  ·have:=List.mem_singleton.mp hc'
   subst this
   exact Nat.lt_succ_of_lt (Nat.lt_succ_self _)
 ·exact hJ.stay (no:=λ_=>False) (λ_ _ _=>id) λc o _ e=>Heap.get?_push_of_some _ (Heap.get?_push_of_some _ e)
 ·intro h h' j k
  refine j.stay (no:=λc=>c∈[(s.heap.push { cls:=.type "tuple",data:=.seq #[.ref a,.ref b] }).objs.size]\/c=((s.heap.push { cls:=.type "tuple",data:=.seq #[.ref a,.ref b] }).push { cls:=.type "tuple_iterator",data:=.fields #[.ref s.heap.objs.size,.int 0 0] }).objs.size) (λi c e=>?_) (λc o n e=>k c o (λz=>n (.inl z)) (λz=>n (.inr z)) e)
  have l:=hJ.lt e
  rw [List.mem_singleton,Heap.size_push,Heap.size_push,Heap.size_push]
  exact λz=>z.elim (λz=>Nat.ne_of_lt (Nat.lt_succ_of_lt l) z) λz=>Nat.ne_of_lt (Nat.lt_succ_of_lt (Nat.lt_succ_of_lt l)) z
 ·rintro v h' tk ⟨c,ec,rfl⟩ hk
  have I1:Inv X pins σ H { s with heap:=h',toks:=tk }:=I.kept λd o e=>hk d o (λz=>by
   have l:=Heap.lt_size e
   rw [List.mem_singleton.mp z,hsz] at l
   exact absurd l (Nat.not_lt_of_le (Nat.le_succ _))) (Heap.get?_push_of_some _ (Heap.get?_push_of_some _ e))
  have e1:c=if HT.lexLt ms ns=true then b else a:=by
   have ec':as[argBest (λi j=>HT.lexLt (nss i) (nss j)) 1]?=some c:=ec
   have eb:argBest (λi j=>HT.lexLt (nss i) (nss j)) 1=if HT.lexLt ms ns=true then 1 else 0:=rfl
   rw [eb] at ec'
   by_cases z:HT.lexLt ms ns=true
   ·rw [if_pos z] at ec' ⊢; cases ec'; rfl
   ·rw [if_neg z] at ec' ⊢; cases ec'; rfl
  rw [e1]
  exact ⟨.ref _,H,I1,rfl,q⟩
end
end L2
namespace HT
theorem lex_irr:∀ a:List Int,lexLt a a=false
 | []=>rfl
 | x :: a=>by rw [Qh,if_pos rfl]; exact lex_irr a
theorem Zam:∀ a b:List Int,lexLt a b=false->lexLt b a=false->a=b
 | [],[],_,_=>rfl
 | [],_ :: _,h,_=>by rw [Jj] at h; cases h
 | _ :: _,[],_,h=>by rw [Jj] at h; cases h
 | x :: a,y :: b,h1,h2=>by
  rw [Qh] at h1 h2
  by_cases e:x=y
  ·subst e
   rw [if_pos rfl] at h1 h2
   rw [Zam a b h1 h2]
  ·rw [if_neg e] at h1
   rw [if_neg (λz=>e z.symm)] at h2
   have:=of_decide_eq_false h1
   have:=of_decide_eq_false h2
   omega
theorem lex_trans:∀ a b c:List Int,lexLt a b=true->lexLt b c=true->lexLt a c=true
 | [],[],_,h,_=>by rw [Uo] at h; cases h
 | [],_ :: _,[],_,h=>by rw [Wj] at h; cases h
 | [],_ :: _,_ :: _,_,_=>rfl
 | _ :: _,[],_,h,_=>by rw [Wj] at h; cases h
 | _ :: _,_ :: _,[],_,h=>by rw [Wj] at h; cases h
 | x :: a,y :: b,z :: c,h1,h2=>by
  rw [Qh] at h1 h2 ⊢
  by_cases e1:x=y
  ·subst e1
   rw [if_pos rfl] at h1
   by_cases e2:x=z
   ·subst e2
    rw [if_pos rfl] at h2 ⊢
    exact lex_trans a b c h1 h2
   ·rw [if_neg e2] at h2 ⊢; exact h2
  ·rw [if_neg e1] at h1
   have g1:=of_decide_eq_true h1
   by_cases e2:y=z
   ·subst e2
    rw [if_neg e1]; exact h1
   ·rw [if_neg e2] at h2
    have g2:=of_decide_eq_true h2
    rw [if_neg (by omega)]
    exact decide_eq_true (by omega)
theorem lex_le {a b c:List Int} (h1:lexLt b a=false) (h2:lexLt c b=false):lexLt c a=false:=by
 cases e:lexLt c a with
 | false=>rfl
 | true =>
  cases f:lexLt b c with
  | true=>rw [lex_trans b c a f e] at h1; cases h1
  | false =>
   have:=Zam b c f h2
   subst this
   rw [e] at h1
   cases h1
noncomputable def IsLeast (S:List Int->Prop) (a:List Int):Prop:=S a/\∀ b,S b->lexLt b a=false
end HT
namespace L2
open PySem PySem.Spec PyProof.Rows
section
variable {X:Cx} {pins:List (Addr × Obj)} {σ:St} {H:Hp} {s:Shared} {a:Addr} {y v:V} {u r:Value} {A:Around} {E:Value->Shared->Prop}
theorem Zp2 {kvs:List (Key × V)} {k:Key} {Q:Unit->Shared->Prop} (I:Inv X pins σ H s) (e:H a=some (.dK kvs)) (l:kvs.length < sizeLine) (ry:RelV (kV k) u) (rv:RelV v r) (h:∀ s',Inv X pins σ (upd H a (.dK (putK kvs k v))) s'->Q () s') :
  wpAny (model X.prog X.w) A (dictSet a u r) Q E s:=by
 obtain ⟨z,hd,vs,rel,dd⟩:=Zbg I.hok e
 have hz:vs.length<=sizeLine:=by rw [<- rel.length]; exact z
 have hl:(putK kvs k v).length<=sizeLine:=by have:=Wm kvs k v; omega
 refine wpAny_dictSet_pairs (hsz:=hz) (Jr ry) dd λh' dd' hs=>h _ ?_
 have he:∃ q,h'.get? a=some q:=let ⟨q,_,_,hq,_⟩:=dd'; ⟨q,hq⟩
 exact Vu I (by rw [e]; exact True.intro) hs he (Fa hl hd (rel.put k rv) dd')
end
noncomputable def Znu (tk tv:TE) (D:Addr):TB:=λσ H N=>tk σ H λx H1=>tv σ H1 λv H2=>∃ kvs k,x=kV k/\H2 D=some (.dK kvs)/\kvs.length < sizeLine/\N σ (upd H2 D (.dK (putK kvs k v)))
section
variable {X:Cx}
theorem Ku {kx vx:Expr} {tk tv:TE} {D:Addr} {c:Code} {p:Pos} (hk:PE X kx tk) (hv:PE X vx tv) :
  PB X ((eval kx X.env >>= λkv=>holding [kv] (eval vx X.env) >>= λvv=>standAt p >>= λ_=>holding [kv,vv] (dictSet D kv vv)) >>= λ_=>again c) c (Znu tk tv D):=by
 intro pins s σ H N I h
 refine wpAny_bind (wpAny_bind (thn (hk pins s σ H _ I h) λu s1 zz41=>?_))
 obtain ⟨x,H1,I1,r1,q1⟩:=zz41
 refine wpAny_bind (wpAny_holding (thn (hv pins s1 σ H1 _ I1 q1) λw s2 zz42=>?_))
 obtain ⟨v,H2,I2,r2,q2⟩:=zz42
 refine wpAny_bind (wpAny_standAt (wpAny_holding ?_))
 obtain ⟨kvs,k,rfl,hD,hl,q⟩:=q2
 exact Zp2 I2 hD hl r1 r2 λs3 I3=>wpAny_pure ⟨rfl,σ,_,I3,q⟩
end
noncomputable def Zbk (ts:List Str) (fv:List (Str × Nat)) (wi:TI) (g:TG) (tt:TT) (tb:Addr->TB):TE:=λσ H Q=>wi σ H λJ H1=>∀ D,H1 D=none ->
 Ws J g tt (tb D) (λ_ H'=>Q (.ref D) H') (blkS ts fv σ) (upd H1 D (.dK []))
section
variable {X:Cx} {ts:List Str} {fv:List (Str × Nat)} {scope:Scope} {kx vx t0 i0:Expr} {f0:List Expr} {rest:List Comprehension} {pos:Pos} {wi:TI} {g:TG} {tt:TT} {tb:Addr->TB} {kont:Env->Addr->Addr->Sem Fin}
theorem Fb (B:BlkOk X scope fv) (hc:X.calm=true) (hi:PI X t0 i0 wi)
  (hg:∀ C s₀ H₀ ex,PG (Yi X (blkN ts fv) scope C s₀ H₀ ex) t0 g) (ht:∀ C s₀ H₀ ex,PTs (Yi X (blkN ts fv) scope C s₀ H₀ ex) f0 tt)
  (heq:∀ (env:Env) (it D:Addr),compTurn (.DictComp kx vx (⟨t0,i0,f0,0⟩ :: rest) scope pos) 0 (.ref it) (.ref D) env=(standAt i0.pos >>= λ_=>pyNext (.ref it) >>= λr=>match r with
   | none=>pure (.done .next)
   | some v=>letOwnedTupleGo t0 (.ref it) v >>= λ_=>assign t0 env v >>= λ_ =>
    (forIn f0 true λc r=>if r=true then do let ok <- isTrue c env (eval c env); pure (ForInStep.yield ok) else pure (ForInStep.yield r)) >>= λok =>
     if ok=true then kont env it D else again (.compLoop (.DictComp kx vx (⟨t0,i0,f0,0⟩ :: rest) scope pos) 0 (.ref it) (.ref D) env)))
  (hb:∀ C s₀ H₀ ex it D,PB (Yi X (blkN ts fv) scope C s₀ H₀ ex) (kont (Yi X (blkN ts fv) scope C s₀ H₀ ex).env it D) (.compLoop (.DictComp kx vx (⟨t0,i0,f0,0⟩ :: rest) scope pos) 0 (.ref it) (.ref D) (Yi X (blkN ts fv) scope C s₀ H₀ ex).env) (tb D))
  {pins:List (Addr × Obj)} {s:Shared} {σ:St} {H:Hp} {Q:VK} {RR:Value->Addr->Result->Shared->Prop} (I:Inv X pins σ H s) (h:Zbk ts fv wi g tt tb σ H Q)
  (hRR:∀ D C s' H',Inv X pins σ H' s'->H' C=none->X.s₀.heap.objs.size<=C->C≠X.env.locals->(∀ x c,X.env.cells.lookup x=some c->c≠C)->(∀ p∈X.pn ++ pins,p.1≠C)->(∃ m,s'.heap.Ns C m)->Q (.ref D) H'->RR (.ref D) C (.ok .next) s') :
  wpAny (model X.prog X.w) X.A (eval i0 X.env) (λx s₁=>wpAny (model X.prog X.w) X.A (pyIter x) (λit s₂=>wpAny (model X.prog X.w) X.A newDict (λacc s₃ =>
   wpAny (model X.prog X.w) X.A (newFunctionEnv scope X.env.globals (Yx X.env scope.names []) [] X.env.qual none .none (some X.env)) (λcenv s₄ =>
    codeAny (model X.prog X.w) X.A (.compStart (.DictComp kx vx (⟨t0,i0,f0,0⟩ :: rest) scope pos) 0 it acc { cenv with scope:=relabel scope X.env }) (RR acc cenv.locals) s₄) X.xe s₃) X.xe s₂) X.xe s₁) X.xe s:=by
 refine thn (hi pins s σ H _ I h) λv s1 h1=>thn h1 λitv s2 h2=>?_
 obtain ⟨it,fp,tn,J,H2,e,I2,T,st2,f2,L⟩:=h2
 subst e
 have L:=L s2.heap.objs.size I2.fresh
 refine wpAny_newObj_type ?_
 have I3:Inv X pins σ (upd H2 s2.heap.objs.size (.dK [])) { s2 with heap:=s2.heap.push { cls:=.type "dict",data:=.dict #[] },toks:=s2.toks }:=I2.laid (a:=s2.heap.objs.size) (o:=.dK []) (t':=s2.toks) (λ_ _ q=>Heap.get?_push_of_some _ q) (Nat.le_refl _) (Ub s2.heap I2.big)
 have ho2:∀ b∈fp,∃ o,s2.heap.get? b=some o/\∀ v,o.data≠.cell v:=T.obj _ _ st2
 have f3:∀ b∈fp,FpOk X pins (upd H2 s2.heap.objs.size (.dK [])) b:=λb hb=>by
  obtain ⟨o,ho,_⟩:=ho2 b hb
  refine ⟨?_,(f2 b hb).2⟩
  rw [Ze (Nat.ne_of_lt (Heap.lt_size ho))]
  exact (f2 b hb).1
 have st3:tn 0 (s2.heap.push { cls:=.type "dict",data:=.dict #[] }):=T.keep _ _ _ st2 λb _ o e=>Heap.get?_push_of_some _ e
 have ho3:∀ b∈fp,∃ o,(s2.heap.push { cls:=.type "dict",data:=.dict #[] }).get? b=some o:=λb hb=>let ⟨o,e,_⟩:=ho2 b hb; ⟨o,Heap.get?_push_of_some _ e⟩
 generalize hs3:({ s2 with heap:=s2.heap.push { cls:=.type "dict",data:=.dict #[] },toks:=s2.toks }:Shared)=s3 at I3
 have eh:s2.heap.push { cls:=.type "dict",data:=.dict #[] }=s3.heap:=by rw [<- hs3]
 rw [eh] at st3 ho3
 refine wpAny_newFunctionEnv B.nocell (by intro y hy; simp at hy) (λh₁ hns hsb=>?_) B.kind
 have hk:∀ b o,s3.heap.get? b=some o->h₁.get? b=some o:=λb o e=>hsb.extBut b o (Nat.ne_of_lt (Heap.lt_size e)) (Heap.get?_push_of_some _ e)
 have I4:=Zaw (ts:=ts) (tk:=s3.toks + ([]:List (Str × Value)).length) B I3 f3 ho3 hns hk
 have f4:∀ b∈fp,FpOk (Yi X (blkN ts fv) scope s3.heap.objs.size s3 (upd H2 s2.heap.objs.size (.dK [])) fp) [] (upd H2 s2.heap.objs.size (.dK [])) b:=λb hb=>by
  obtain ⟨f0,f1,f2',f3',f4',f5'⟩:=f3 b hb
  obtain ⟨o,eo⟩:=ho3 b hb
  exact ⟨f0,Nat.ne_of_lt (Heap.lt_size eo),I4.ok.exfs b hb,.inl hb,(I4.ok.exf b hb).2,λp hp=>absurd (show p∈([]:List (Addr × Obj)) from hp) (by simp)⟩
 have st4:tn 0 h₁:=T.keep _ _ _ st3 λb _ o e=>hk b o e
 have loop:codeAny (model X.prog X.w) X.A (.compLoop (.DictComp kx vx (⟨t0,i0,f0,0⟩ :: rest) scope pos) 0 (.ref it) (.ref s2.heap.objs.size) (Yi X (blkN ts fv) scope s3.heap.objs.size s3 (upd H2 s2.heap.objs.size (.dK [])) fp).env)
   (RR (.ref s2.heap.objs.size) s3.heap.objs.size) { s3 with heap:=h₁,toks:=s3.toks + ([]:List (Str × Value)).length }:=by
  refine Oi (X:=Yi X (blkN ts fv) scope s3.heap.objs.size s3 (upd H2 s2.heap.objs.size (.dK [])) fp) (tg:=t0) (ifs:=f0) (R:=λ_ H'=>Q (.ref s2.heap.objs.size) H') rfl rfl rfl rfl (heq _ it s2.heap.objs.size) T hc (hg _ _ _ _) (ht _ _ _ _) (hb _ _ _ _ it s2.heap.objs.size) f4 I4 st4 L λs' σ' H' J' q=>?_
  obtain ⟨e1,e2,e3,e4,e5,e6⟩:=Zfo I3 f3 (Nat.le_refl _) J'
  obtain ⟨m,hm,_⟩:=J'.loc
  exact hRR _ _ s' H' e1 e2 e3 e4 e5 e6 ⟨m,hm⟩ q
 exact codeAny_compStart_dict loop (T.self _ _ _ _ _ st4 loop)
theorem Zah (B:BlkOk X scope fv) (hc:X.calm=true) (hi:PI X t0 i0 wi)
  (hg:∀ C s₀ H₀ ex,PG (Yi X (blkN ts fv) scope C s₀ H₀ ex) t0 g) (ht:∀ C s₀ H₀ ex,PTs (Yi X (blkN ts fv) scope C s₀ H₀ ex) f0 tt)
  (heq:∀ (env:Env) (it D:Addr),compTurn (.DictComp kx vx (⟨t0,i0,f0,0⟩ :: rest) scope pos) 0 (.ref it) (.ref D) env=(standAt i0.pos >>= λ_=>pyNext (.ref it) >>= λr=>match r with
   | none=>pure (.done .next)
   | some v=>letOwnedTupleGo t0 (.ref it) v >>= λ_=>assign t0 env v >>= λ_ =>
    (forIn f0 true λc r=>if r=true then do let ok <- isTrue c env (eval c env); pure (ForInStep.yield ok) else pure (ForInStep.yield r)) >>= λok =>
     if ok=true then kont env it D else again (.compLoop (.DictComp kx vx (⟨t0,i0,f0,0⟩ :: rest) scope pos) 0 (.ref it) (.ref D) env)))
  (hb:∀ C s₀ H₀ ex it D,PB (Yi X (blkN ts fv) scope C s₀ H₀ ex) (kont (Yi X (blkN ts fv) scope C s₀ H₀ ex).env it D) (.compLoop (.DictComp kx vx (⟨t0,i0,f0,0⟩ :: rest) scope pos) 0 (.ref it) (.ref D) (Yi X (blkN ts fv) scope C s₀ H₀ ex).env) (tb D))
  (hs:∀ x,foldedSetIterable i0 X.env x=pure x:=by intro _; rfl) :
  PE X (.DictComp kx vx (⟨t0,i0,f0,0⟩ :: rest) scope pos) (Zbk ts fv wi g tt tb):=by
 intro pins s σ H Q I h
 show wpAny _ X.A (comprehension (.DictComp kx vx (⟨t0,i0,f0,0⟩ :: rest) scope pos) scope X.env _ newDict false (eval i0 X.env)) _ _ s
 refine wpAny_comprehension_free (use:=none) rfl hs (Js λy hy e=>I.ok.has y.1 (B.free y hy e)) B.kind B.names ?_
 refine Fb (RR:=λacc C=>compPost (model X.prog X.w) X.A X.xe none (EP X pins σ Q) acc C) B hc hi hg ht heq hb I h λD C s' H' I' e2 e3 e4 e5 e6 hm q=>?_
 obtain ⟨m,hm⟩:=hm
 exact ⟨m,hm,λh' hs'=>⟨.ref D,H',I'.apart hs' e2 e3 e4 e5 e6,rfl,q⟩⟩
theorem Zco {i:Nat} {y:Str} {py spos:Pos} (B:BlkOk X scope fv) (hc:X.calm=true) (hN:X.N.Nodup) (hiy:X.N[i]?=some y) (hyl:X.env.scope.names.lookup y=some .local)
  (hsw:swapsWith (.DictComp kx vx (⟨t0,i0,f0,0⟩ :: rest) scope pos) (some (.Name y py)) spos.line X.env=pure true) (hi:PI X t0 i0 wi)
  (hg:∀ C s₀ H₀ ex,PG (Yi X (blkN ts fv) scope C s₀ H₀ ex) t0 g) (ht:∀ C s₀ H₀ ex,PTs (Yi X (blkN ts fv) scope C s₀ H₀ ex) f0 tt)
  (heq:∀ (env:Env) (it D:Addr),compTurn (.DictComp kx vx (⟨t0,i0,f0,0⟩ :: rest) scope pos) 0 (.ref it) (.ref D) env=(standAt i0.pos >>= λ_=>pyNext (.ref it) >>= λr=>match r with
   | none=>pure (.done .next)
   | some v=>letOwnedTupleGo t0 (.ref it) v >>= λ_=>assign t0 env v >>= λ_ =>
    (forIn f0 true λc r=>if r=true then do let ok <- isTrue c env (eval c env); pure (ForInStep.yield ok) else pure (ForInStep.yield r)) >>= λok =>
     if ok=true then kont env it D else again (.compLoop (.DictComp kx vx (⟨t0,i0,f0,0⟩ :: rest) scope pos) 0 (.ref it) (.ref D) env)))
  (hb:∀ C s₀ H₀ ex it D,PB (Yi X (blkN ts fv) scope C s₀ H₀ ex) (kont (Yi X (blkN ts fv) scope C s₀ H₀ ex).env it D) (.compLoop (.DictComp kx vx (⟨t0,i0,f0,0⟩ :: rest) scope pos) 0 (.ref it) (.ref D) (Yi X (blkN ts fv) scope C s₀ H₀ ex).env) (tb D))
  (hs:∀ x,foldedSetIterable i0 X.env x=pure x:=by intro _; rfl) :
  PS X (.Assign [.Name y py] (.DictComp kx vx (⟨t0,i0,f0,0⟩ :: rest) scope pos) spos) (tAsg (Zbk ts fv wi g tt tb) (Zv i)):=by
 intro pins s σ H D0 I h
 rw [exec_Assign_Name_used _ _ _ _ hsw]
 refine wpAny_bind (wpAny_standAt (wpAny_bind ?_))
 show wpAny _ X.A (do let _ <- comprehension (.DictComp kx vx (⟨t0,i0,f0,0⟩ :: rest) scope pos) scope X.env _ newDict false (eval i0 X.env) (some (assign (.Name y py) X.env))) _ _ s
 refine wpAny_bind (wpAny_mono (wpAny_comprehension_free (use:=some (assign (.Name y py) X.env)) (Q:=λ_ s'=>SP X pins D0 .next s') rfl hs (Js λy hy e=>I.ok.has y.1 (B.free y hy e)) B.kind B.names ?_) (λ_ s' hq=>wpAny_pure (wpAny_pure hq)) λ_ _ e=>e)
 refine Fb (Q:=λx H1=>Zv i x σ H1 D0.nx) (RR:=λacc C=>compPost (model X.prog X.w) X.A X.xe (some (assign (.Name y py) X.env)) (λ_ s'=>SP X pins D0 .next s') acc C) B hc hi hg ht heq hb I h λD C s' H' I' e2 e3 e4 e5 e6 hm q=>?_
 obtain ⟨m,hm⟩:=hm
 show wpAny _ X.A (assign (.Name y py) X.env (.ref D)) _ _ _
 refine wpAny_assign_Name (Ut I' hN hiy (.inl hyl) (show RelV (.ref D) (.ref D) from rfl) (λs'' I'' hch=>?_) (.inr hyl))
 obtain ⟨a,hsb,ha⟩:=hch
 have haC:C≠a:=by
  rcases ha with e | e
  ·rw [e]; exact e4
  ·exact λz=>e5 y a e z.symm
 exact ⟨m,hm.sameBut hsb haC,λh' hs'=>⟨_,H',I''.apart hs' e2 e3 e4 e5 e6,q⟩⟩
end
section
variable {X:Cx}
noncomputable def Zpm (K:PySem.W.Frag):V->V->Hp->VK->Prop:=λo i H Q=>∃ p xs,∃ (k:Nat) (v:V),o=.ref p/\i=.int k/\SqL K H p xs/\xs[k]?=some v/\Q v H
theorem Zdf:PGet X (Zpm X.K):=by
 intro pins s σ H o i ov iv Q I ro ri h
 obtain ⟨p,xs,k,v,rfl,rfl,hq,he,q⟩:=h
 cases ro
 obtain ⟨t,rfl⟩:=ri
 obtain ⟨its,r,pl,hz⟩:=I.list hq
 obtain ⟨w,ew,rw'⟩:=r.get he
 have hl:=r.length
 have hk:k < its.length:=(List.getElem?_eq_some_iff.mp ew).1
 have hn:=Q2
 exact wpAny_getItem_list pl.isList (by omega) (by omega) (by simpa using ew) ⟨v,H,I,rw',q⟩
end
section
variable {X:Cx} {pins:List (Addr × Obj)} {σ:St} {H:Hp} {s:Shared} {a:Addr}
theorem Inv.thaw {kvs:List (Key × V)} {ob:Obj} (I:Inv X pins σ H s) (e:H a=some (.frz ob (.dK kvs))) (h0:∀ o u,X.H₀ a≠some (.frz o u)):Inv X pins σ (upd H a (.dK kvs)) s:=by
 have nown:∀ c y,H c=some (.own y)->c≠a:=λc y r z=>by subst z; rw [r] at e; cases e
 have ntup:∀ c xs,H c=some (.tup xs)->c≠a:=λc xs r z=>by subst z; rw [r] at e; cases e
 have nnon:∀ c,H c=none->c≠a:=λc r z=>by subst z; rw [r] at e; cases e
 have hok:HOk X.prog X.w (upd H a (.dK kvs)) s.heap:=λb v q=>by
  have st:∀ c w',Yl X.prog X.w H s.heap c w'->Yl X.prog X.w (upd H a (.dK kvs)) s.heap c w':=λc w' x=>x.stay (λ_ _ _ q=>q) (λd r=>by rw [Ze (nown d c r)]; exact r) λd xs r=>by rw [Ze (ntup d xs r)]; exact r
  by_cases hb:b=a
  ·subst hb
   rw [Zc] at q
   cases q
   exact st _ _ (I.hok _ _ e).2
  ·rw [Ze hb] at q
   exact st _ _ (I.hok b v q)
 refine ⟨I.ok,I.os,I.bare,⟨I.base.keep,I.base.slot,λb o q n hx=>?_,I.base.there,λb xs q=>?_,λb o u q=>?_,λb ps q=>?_⟩,I.loc,I.cell,?_,λx c q=>?_,λp hp=>?_,hok,I.len⟩
 ·have:=I.base.free b o q n hx
  rw [Ze (nnon b this)]; exact this
 ·have:=I.base.tups b xs q
  rw [Ze (ntup b xs this)]; exact this
 ·have:=I.base.frzs b o u q
  rw [Ze (λz=>by subst z; exact h0 _ _ q)]; exact this
 ·obtain ⟨more,z⟩:=I.base.tbls b ps q
  exact ⟨more,by rw [Ze (λw=>by subst w; rw [z] at e; cases e)]; exact z⟩
 ·have:=I.free
  rw [Ze (nnon _ this)]; exact this
 ·have:=I.freeC x c q
  rw [Ze (nnon _ this)]; exact this
 ·obtain ⟨q1,q2,q3⟩:=I.pin p hp
  exact ⟨q1,by rw [Ze (nnon _ q2)]; exact q2,q3⟩
end
section
variable {X:Cx}
theorem Gc {ys:List Str}:∀ {us:List Value},Vals (ys.map V.str) us->StrsAre us ys:=by
 induction ys with
 | nil=>intro us r; rw [List.map_nil] at r; cases r; exact .nil
 | cons y ys ih =>
  intro us r
  rw [List.map_cons] at r
  cases r with
  | cons r1 r2 =>
   obtain ⟨t,e⟩:=r1
   subst e
   exact .cons y t (ih r2)
noncomputable def Zpl (K:PySem.W.Frag):V->List V->Hp->VK->Prop:=λo xs H Q=>∃ sep p ys,o=.str sep/\xs=[.ref p]/\SqL K H p (List.map V.str ys)/\sep.length<=16/\(ys.map (·.length)).sum + ys.length<=1048576/\Q (.str (Txt.join sep ys)) H
theorem Ze9:MtR X "str.join" (Zpl X.K):=by
 intro pins s σ H x xs v us Q I rx rs h
 obtain ⟨sep,p,ys,rfl,rfl,hq,h1,h2,q⟩:=h
 obtain ⟨t,rfl⟩:=rx
 obtain ⟨u,rfl,ru⟩:=We rs
 cases ru
 obtain ⟨its,rv,pl,_⟩:=I.list hq
 exact join_listW pl.isList (by simpa using Gc rv) h1 h2 λt' k=>⟨.str _,H,I.tok _,⟨_,rfl⟩,q⟩
end
theorem Zaq:∀ (l:List Str) (a:Array Nat),(l.foldl (λacc p=>acc ++ (Str.ofString "").cps ++ p.cps) a).toList=a.toList ++ (l.map λy=>y.cps.toList).flatten
 | [],a=>by simp
 | y :: r,a=>by
  rw [List.foldl_cons,Zaq r]
  have:(Str.ofString "").cps=#[]:=by decide +kernel
  rw [this]
  simp
theorem Zdb (ys:List Str):(Txt.join (Str.ofString "") ys).cps.toList=(ys.map λy=>y.cps.toList).flatten:=by
 unfold Txt.join Builtin.Str.glued
 cases ys with
 | nil=>rfl
 | cons y r =>
  show ((r.foldl (λacc p=>acc ++ (Str.ofString "").cps ++ p.cps) y.cps)).toList=_
  rw [Zaq]
  simp
end L2
namespace KT
open PySem L2
noncomputable def aftN (i:Nat):Nat:=if i % 3=2 then i - 2 else i + 1
theorem Znd (i:Nat):after (i:Int)=(aftN i:Int):=by unfold after aftN; split <;> split <;> omega
noncomputable def nxC (M:List (Option Nat)) (c:Nat):Option Nat:=(M[aftN c]?).join
noncomputable abbrev InvM (M:List (Option Nat)):Prop:=∀ (i j:Nat),M[i]?=some (some j)->M[j]?=some (some i)/\i≠j
noncomputable def letS (M:List (Option Nat)) (a p:Nat):Str:=if p=aftN ((M.getD a none).getD 0) then Str.ofString "R" else Str.ofString "L"
noncomputable def letL (M:List (Option Nat)) (ws:List Nat):List Str:=(ws.zip (rot ws (1 % ws.length))).map λq=>letS M q.1 q.2
noncomputable abbrev sR:Str:=Str.ofString "R"
noncomputable abbrev sL:Str:=Str.ofString "L"
theorem Zpg:sR=⟨#[82]⟩:=by decide +kernel
theorem Zph:sL=⟨#[76]⟩:=by decide +kernel
noncomputable def isLR (y:Str):Prop:=y=sR\/y=sL
theorem Zmr {y:Str} (h:isLR y):∃ c,y=⟨#[c]⟩/\c < 128:=by
 rcases h with rfl | rfl
 ·exact ⟨82,Zpg,by decide⟩
 ·exact ⟨76,Zph,by decide⟩
theorem Zlg:∀ (ys:List Str),(∀ y∈ys,isLR y)->∃ cs:List Nat,(ys.map λy=>y.cps.toList).flatten=cs/\cs.length=ys.length/\(∀ c∈cs,c < 128)/\∀ (i c:Nat),cs[i]?=some c->ys[i]?=some ⟨#[c]⟩
 | [],_=>⟨[],rfl,rfl,(λc hc=>absurd hc List.not_mem_nil),λi c h=>(by simp at h)⟩
 | y :: r,h=>by
  obtain ⟨c,rfl,hc⟩:=Zmr (h y List.mem_cons_self)
  obtain ⟨cs,e,hl,h1,h2⟩:=Zlg r λz hz=>h z (List.mem_cons_of_mem _ hz)
  refine ⟨c :: cs,by rw [List.map_cons,List.flatten_cons,e]; rfl,by simp [hl],λz hz=>?_,λi z hz=>?_⟩
  ·rcases List.mem_cons.mp hz with rfl | hz
   ·exact hc
   ·exact h1 z hz
  ·cases i with
   | zero=>cases hz; rfl
   | succ i=>exact h2 i z hz
theorem Ziq {ys:List Str} (h:∀ y∈ys,isLR y):(Txt.join (Str.ofString "") ys).cps.all (· < 128)=true/\(Txt.join (Str.ofString "") ys).cps.size=ys.length/\∀ (i c:Nat),(Txt.join (Str.ofString "") ys).cps[i]?=some c->ys[i]?=some ⟨#[c]⟩:=by
 obtain ⟨cs,e,hl,h1,h2⟩:=Zlg ys h
 have e':(Txt.join (Str.ofString "") ys).cps.toList=cs:=by rw [Zdb,e]
 generalize (Txt.join (Str.ofString "") ys).cps=arr at e'
 subst e'
 refine ⟨?_,by rw [<- hl]; simp,λi c hc=>h2 i c (by simpa using hc)⟩
 rw [<- Array.all_toList,List.all_eq_true]
 exact λc hc=>decide_eq_true (h1 c hc)
section
variable {M:List (Option Nat)} {a:Nat} {ys:List Str}
theorem Zmu (M:List (Option Nat)) (ws:List Nat):∀ y∈letL M ws,isLR y:=λy hy=>by
 obtain ⟨q,_,rfl⟩:=List.mem_map.mp hy
 unfold letS
 split
 ·exact .inl rfl
 ·exact .inr rfl
theorem Zkk (M:List (Option Nat)) (ws:List Nat) (h:0 < ws.length):(letL M ws).length=ws.length:=by
 unfold letL
 rw [List.length_map,List.length_zip,Wy _ (Nat.le_of_lt (Nat.mod_lt _ h)),Nat.min_self]
end
end KT
namespace L2
open PySem PySem.Spec PyProof.Rows
section
noncomputable def Its (x:Str):It :=
 ⟨λi _=>i < x.cps.size,λi H v H'=>H'=H/\∃ c,x.cps[i]?=some c/\v=.str ⟨#[c]⟩,λi _=>x.cps.size<=i⟩
theorem Zjg {P:Program} {w:World} {K:PySem.W.Frag} {tg:Expr} (x:Str) (t:Tok) (it:Addr):Turn P w K tg (Its x) [it] it (λi h=>h.IsStrIter it "str_ascii_iterator" x t i) where
 mem:=by simp
 obj:=λi h st b hb=>by
  have e:b=it:=by simpa using hb
  subst e
  obtain ⟨o,e,c,d⟩:=st
  exact ⟨o,e,λv z=>by rw [d] at z; cases z⟩
 keep:=λi h h' st k=>by
  obtain ⟨o,ho,r⟩:=st
  exact ⟨o,k it (by simp) o ho,r⟩
 item:=by
  intro X hP hw hK hc i pins s σ H E I hf st hg
  subst hP hw hK
  have hg:i < x.cps.size:=hg
  obtain ⟨f0,f1,f2,f3,f4,f5⟩:=hf it (by simp)
  have hx:x.cps[i]?=some x.cps[i]:=by simp [hg]
  refine wpAny_pyNext_ascii_item st hx λh' st' sb=>?_
  have I1:Inv X pins σ H { s with heap:=h',toks:=s.toks + 1 }:=I.turned (t':=s.toks + 1) (λb o hb e=>(sb.2 b hb).trans e) f0 f1 f3 f4 f5
  obtain ⟨o,e,c,d⟩:=id st'
  exact ⟨_,rfl,V6 (s:={ s with heap:=h',toks:=s.toks + 1 }) e c d (by decide) ⟨.str ⟨#[x.cps[i]]⟩,H,I1,⟨_,rfl⟩,⟨rfl,_,hx,rfl⟩,st',λb hb=>(hf b hb).1⟩⟩
 done:=by
  intro X hP hw hK hc i pins s σ H E I hf st hg
  subst hP hw hK
  have hg:x.cps.size<=i:=hg
  obtain ⟨f0,f1,f2,f3,f4,f5⟩:=hf it (by simp)
  exact wpAny_pyNext_ascii_end (I.ok.hd hc) st (by simp [hg]) λh' eb=>⟨rfl,I.turned (t':=s.toks) (λb o hb e=>eb b o hb e) f0 f1 f3 f4 f5⟩
 self:=λ_ _ _ _ _ st h=>wpAny_pyIter_striter_ascii st h
variable {X:Cx} {tg:Expr}
noncomputable def iStr (tl:TE):TI:=λσ H R=>tl σ H λv H1=>∃ x,v=.str x/\x.cps.all (· < 128)=true/\R (Its x) H1
theorem Zn4 {l:Expr} {tl:TE} (hl:PE X l tl):PI X tg l (iStr tl):=by
 intro pins s σ H R I h
 refine thn (hl pins s σ H _ I h) λv s1 zz9=>?_
 obtain ⟨x,H1,I1,r1,q1⟩:=zz9
 obtain ⟨x,e,ha,q⟩:=q1
 subst e
 obtain ⟨t,rfl⟩:=r1
 refine wpAny_pyIter_ascii ha ?_
 refine ⟨s1.heap.objs.size,[s1.heap.objs.size],_,_,H1,rfl,I1.kept (t':=s1.toks) λb o e=>Heap.get?_push_of_some _ e,Zjg x t _,⟨_,Heap.get?_push_size _ rfl,rfl,rfl⟩,λb hb=>?_,q⟩
 have e:b=s1.heap.objs.size:=by simpa using hb
 subst e
 exact I1.fpOk (Nat.le_refl _) (I1.hok.fresh (Nat.le_refl _))
end
section
variable {X:Cx}
theorem Zbc (K:PySem.W.Frag) (h:X.K=K:=by rfl):OpR X (compareOp .NotIn) (rIn K true):=h ▸ Zcw
end
end L2
namespace L2
open PySem PySem.Spec PyProof.Rows PySem.SeqAt
end L2
namespace KT
open PySem L2
noncomputable def V5 (a b q:Nat):Bool:=!decide (q=a) && !decide (q=b)
noncomputable def G3 (a b:Nat) (ws:List Nat):List Nat:=ws.filter (V5 a b)
noncomputable def mtN (M:List (Option Nat)) (h:Nat):Nat:=(M.getD h none).getD 0
noncomputable def Oh (a b e f:Nat):List Nat:=if e / 3=f / 3 then [] else [a,b].filter λq=>decide (q / 3=e / 3)
noncomputable def U8 (M:List (Option Nat)) (left:Bool) (a b h f:Nat):List Nat:=mvN left a b h :: Oh a b (mvN left a b (mtN M h)) (mvN left a b f)
noncomputable def Xg (ks:List Nat):List (Nat × Nat):=ks.zip (rot ks (1 % ks.length))
noncomputable def Xr (M:List (Option Nat)) (left:Bool) (a b:Nat) (ps:List (Nat × Nat)):List Nat:=(ps.map λq=>U8 M left a b q.1 q.2).flatten
theorem Fc (a b e f:Nat):(Oh a b e f).length<=2:=by
 unfold Oh
 split
 ·exact Nat.zero_le _
 ·exact List.length_filter_le _ _
theorem Zaf (M:List (Option Nat)) (left:Bool) (a b:Nat):∀ ps:List (Nat × Nat),(Xr M left a b ps).length<=3 * ps.length
 | []=>Nat.le_refl _
 | q :: r=>by
  have ih:=Zaf M left a b r
  have h1:=Fc a b (mvN left a b (mtN M q.1)) (mvN left a b q.2)
  have e:Xr M left a b (q :: r)=U8 M left a b q.1 q.2 ++ Xr M left a b r:=rfl
  rw [e,List.length_append]
  unfold U8
  rw [List.length_cons,List.length_cons]
  omega
theorem Zf3 {M:List (Option Nat)} {left:Bool} {a b i h f:Nat} {ps:List (Nat × Nat)} (hq:ps[i]?=some (h,f)):Xr M left a b (ps.take (i + 1))=Xr M left a b (ps.take i) ++ U8 M left a b h f:=by
 unfold Xr
 rw [List.take_add_one,hq,List.map_append,List.flatten_append]
 simp
theorem Zhw (ks:List Nat):(Xg ks).length=ks.length:=by
 unfold Xg
 by_cases z:ks.length=0
 ·have:ks=[]:=List.length_eq_zero_iff.mp z
  subst this; rfl
 ·rw [List.length_zip,Wy _ (Nat.le_of_lt (Nat.mod_lt _ (by omega))),Nat.min_self]
noncomputable def CH (R:Nat->Nat->Prop) (l:List Nat):Prop:=∀ (k u v:Nat),l[k]?=some u->l[k + 1]?=some v->R u v
end KT
namespace L2
open PySem PySem.Spec PyProof.Rows PySem.SeqAt
section
variable {X:Cx}
theorem Ff:Xy X (.type "dict") (λxs H Q=>∃ (d:Addr) (kvs:List (Key × V)),xs=[.ref d]/\Rd H d (.dK kvs)/\∀ p,H p=none->Q (.ref p) (upd H p (.dK kvs))):=by
 intro pins s σ H xs us Q I r h
 obtain ⟨d,kvs,rfl,hd,q⟩:=h
 obtain ⟨u,rfl,ru⟩:=We r
 obtain rfl:u=Value.ref d:=ru
 obtain ⟨z,hsys,vs,rel,dd⟩:=Ql I.hok hd
 have hl:vs.length<=sizeLine:=by rw [<- rel.length]; exact z
 refine kt_call_dict hsys dd hl λh' hD hsb=>?_
 have hk:∀ b u,s.heap.get? b=some u->h'.get? b=some u:=λb u e=>(hsb.2 b (Nat.ne_of_lt (Heap.lt_size e))).trans (Heap.get?_push_of_some _ e)
 refine ⟨.ref s.heap.objs.size,_,I.laid (a:=s.heap.objs.size) (o:=.dK kvs) (t':=s.toks) hk (Nat.le_refl _) ⟨z,?_,vs,rel,hD⟩,rfl,q _ (I.hok.fresh (Nat.le_refl _))⟩
 exact (Ub (P:=X.prog) (w:=X.w) (H:=H) s.heap I.big).2.1
theorem Zmx:PIp X .Mult (λx y H Q=>∃ i j,x=.int i/\y=.int j/\IntMulOk i j/\Q (.int (i * j)) H):=by
 intro pins s σ H x y v u Q I r1 r2 h
 obtain ⟨i,j,e1,e2,hc,q⟩:=h
 subst e1; subst e2
 obtain ⟨t,rfl⟩:=r1
 obtain ⟨t',rfl⟩:=r2
 exact imul_int ⟨.int _,H,I.tok _,⟨_,rfl⟩,q⟩ hc
end
end L2
namespace L2
open PySem PySem.Spec PyProof.Rows
noncomputable abbrev TBX:=St->Hp->(St->Hp->Prop)->XK->Prop
end L2
namespace HL
open PySem PyProof.Rows HT
end HL
namespace L2
open PySem PySem.Spec PyProof.Rows
end L2
namespace KT
open PySem L2
noncomputable def aN (a:Nat):Nat:=(after a).toNat
noncomputable def bN (a:Nat):Nat:=(Z2 a).toNat
structure PC (M:List (Option Nat)) (f:Nat->Int):Prop where
 nn:∀ p,p < M.length->0<=f p
 rim:∀ p:Nat,M[p]?=some none->f p=0
 mate:∀ p q:Nat,M[p]?=some (some q)->f q=f p
 even:∀ p,p < M.length->(f p + f (aN p) + f (bN p)) % 2=0
 tri:∀ p,p < M.length->f p<=f (aN p) + f (bN p)
noncomputable def mx (x y:Int):Int:=if y > x then y else x
noncomputable def bh (f:Nat->Int) (a b:Nat):Int:=mx (f (aN a) + f (aN b)) (f (bN a) + f (bN b)) - f a
noncomputable def fx (left:Bool) (a b:Nat) (f:Nat->Int) (z:Nat):Int:=if z=a\/z=b then bh f a b else f (mvN (!left) a b z)
noncomputable def sF (f:Nat->Int):Nat->Int
 | 0=>0
 | n + 1=>sF f n + f n
section
variable {M:List (Option Nat)} {ns:List Int} {f:Nat->Int} {g:Int->Int}
noncomputable def mu (M:List (Option Nat)) (p:Nat):Nat:=match (M[p]?).join with
 | some q=>q
 | none=>p
end
end KT
namespace L2
open PySem PySem.Spec PyProof.Rows
noncomputable def Zp4 (i j:Int):Prop:=0<=j/\(Builtin.Int.intBits i:Int) * j<=2 ^ 27
theorem Zml {X:Cx}:OpR X (binaryOp .Pow) (rI Zp4 λi j=>.int (i ^ j.toNat)):=opI λ_ _ _ _ _ _ _ hc q=>pow_int hc.1 hc.2 q
theorem Zdc {X:Cx}:PIp X .FloorDiv (λx y H Q=>∃ i j,x=.int i/\y=.int j/\Ud i j/\Q (.int (i / j)) H):=by
 intro pins s σ H x y v u Q I r1 r2 h
 obtain ⟨i,j,e1,e2,hc,q⟩:=h
 subst e1; subst e2
 obtain ⟨t,rfl⟩:=r1
 obtain ⟨t',rfl⟩:=r2
 have h1:(0:Int) < j:=hc.1
 refine ifloordiv_int (by omega) ?_ (.inl (PyProof.noPylong_of_log2 hc.2))
 rw [Int.fdiv_eq_ediv_of_nonneg i (by omega)]
 exact ⟨.int _,H,I.tok _,⟨_,rfl⟩,q⟩
end L2
namespace PySem.F
end PySem.F
namespace L2
open PySem PySem.Spec PyProof.Rows
noncomputable def dd (ks:List Int):List Int:=ks.foldl step_dedup []
theorem Zgj {d:Addr} {kvs:List (Key × V)} {o:Obj} {g:TG} {tt:TT} {tb:TB} {R:St->Hp->Prop} {σ:St} {H:Hp} (Pv:Nat->St->Hp->Prop) (h0:Pv 0 σ H) (hl:∀ i σ H,i<=kvs.length->Pv i σ H->H d=some (.frz o (.dK kvs)))
  (hs:∀ (i:Nat) k x σ H q,kvs[i]?=some (k,x)->H q=none->Pv i σ H->g (.ref q) σ (upd H q (.tup [kV k,x])) λσ2 H2=>tt σ2 H2 λb H3=>if b=true then tb σ2 H3 (Pv (i + 1)) else Pv (i + 1) σ2 H3) (hd:∀ σ H,Pv kvs.length σ H->R σ H):Ws (Itm2 d kvs o) g tt tb R σ H:=by
 refine ⟨λi m σ H=>m=kvs.length - i/\i<=kvs.length/\Pv i σ H,⟨kvs.length,by simp,Nat.zero_le _,h0⟩,?_⟩
 rintro i m σ H ⟨rfl,hi,p⟩
 have q:=hl i σ H hi p
 by_cases hlt:i < kvs.length
 ·refine .inr ⟨⟨hlt,q⟩,Pv (i + 1),λσ' H' p'=>⟨kvs.length - (i + 1),by omega,rfl,hlt,p'⟩,λx H' y=>?_⟩
  obtain ⟨c,k,v,hn,e1,y,e2⟩:=y
  subst e1 e2
  exact hs i k v σ H c y hn p
 ·have e:i=kvs.length:=by omega
  subst e
  exact .inl ⟨⟨Nat.le_refl _,q⟩,hd σ H p⟩
noncomputable def Znn (H0:Hp) (t:TE):TE:=λσ H Q=>t σ H λv H'=>∃ (a:Addr) (o:Obj) (kvs:List (Key × V)),H' a=some (.frz o (.dK kvs))/\(∀ o u,H0 a≠some (.frz o u))/\Q v (upd H' a (.dK kvs))
theorem Zmk {X:Cx} {e:Expr} {t:TE} (h:PE X e t):PE X e (Znn X.H₀ t):=by
 intro pins s σ H Q I hw
 refine wpAny_mono (h pins s σ H _ I hw) (λv s' q=>?_) λ_ _ e=>e
 obtain ⟨x,H',I',r,a,o,kvs,e,h0,q⟩:=q
 exact ⟨x,_,I'.thaw e h0,r,q⟩
end L2
namespace KT
noncomputable def lowN (m n:Nat):Nat × Nat:=(m / Nat.gcd m n,n / Nat.gcd m n)
structure Val (v:Nat × Nat) (N D:Nat):Prop where
 p1:0 < v.1
 p2:0 < v.2
 co:Nat.gcd v.1 v.2=1
 eq:v.1 * D=v.2 * N
theorem Fy {m n:Nat} (hm:0 < m) (hn:0 < n):Val (lowN m n) m n:=by
 have g0:0 < Nat.gcd m n:=Nat.gcd_pos_of_pos_left _ hm
 have d1:=Nat.gcd_dvd_left m n
 have d2:=Nat.gcd_dvd_right m n
 refine ⟨Nat.div_pos (Nat.le_of_dvd hm d1) g0,Nat.div_pos (Nat.le_of_dvd hn d2) g0,?_,?_⟩
 ·show Nat.gcd (m / Nat.gcd m n) (n / Nat.gcd m n)=1
  rw [Nat.gcd_div d1 d2,Nat.div_self g0]
 ·show m / Nat.gcd m n * n=n / Nat.gcd m n * m
  obtain ⟨a,ha⟩:=d1
  obtain ⟨b,hb⟩:=d2
  generalize Nat.gcd m n=g at *
  subst ha hb
  rw [Nat.mul_div_cancel_left _ g0,Nat.mul_div_cancel_left _ g0]
  simp only [Nat.mul_comm,Nat.mul_left_comm]
theorem Zfa (m n:Nat):(lowN m n).1<=m/\(lowN m n).2<=n:=⟨Nat.div_le_self _ _,Nat.div_le_self _ _⟩
theorem Val.uniq {v w:Nat × Nat} {N D:Nat} (h1:Val v N D) (h2:Val w N D) (hD:0 < D):v=w:=by
 have e:v.1 * w.2=v.2 * w.1:=by
  refine Nat.eq_of_mul_eq_mul_right hD ?_
  calc v.1 * w.2 * D=w.2 * (v.1 * D):=by simp only [Nat.mul_comm,Nat.mul_left_comm]
   _=w.2 * (v.2 * N):=by rw [h1.eq]
   _=v.2 * (w.2 * N):=by simp only [Nat.mul_comm,Nat.mul_left_comm]
   _=v.2 * (w.1 * D):=by rw [h2.eq]
   _=v.2 * w.1 * D:=by rw [Nat.mul_assoc]
 have c1:Nat.Coprime v.1 v.2:=h1.co
 have c2:Nat.Coprime w.1 w.2:=h2.co
 have d1:v.1 ∣ w.1:=c1.dvd_of_dvd_mul_left (by rw [<- e]; exact Nat.dvd_mul_right _ _)
 have d2:w.1 ∣ v.1:=c2.dvd_of_dvd_mul_left (by rw [Nat.mul_comm w.2,e]; exact Nat.dvd_mul_left _ _)
 have e1:v.1=w.1:=Nat.dvd_antisymm d1 d2
 have e2:v.2=w.2:=by
  rw [e1,Nat.mul_comm] at e
  exact (Nat.eq_of_mul_eq_mul_right h2.p1 e).symm
 exact Prod.ext e1 e2
noncomputable def putG (g:Int->Nat × Nat) (x:Int) (v:Nat × Nat):Int->Nat × Nat:=λy=>if y=x then v else g y
noncomputable def lowG (g:Int->Nat × Nat):Int->Nat × Nat:=λx=>lowN (g x).1 (g x).2
end KT
namespace KT
open PySem L2
section
variable {M:List (Option Nat)} {ns:List Int} {x y:Int} {a b:Nat}
noncomputable def SwN (M:List (Option Nat)) (ns:List Int) (x:Int):Prop:=∃ p j:Nat,M[p]?=some (some j)/\ns[p]?=some x
structure SwK (M:List (Option Nat)) (ns:List Int) (ks:List Int):Prop where
 nd:ks.Nodup
 mem:∀ x,x∈ks ↔ SwN M ns x
theorem SwK.perm {ks ls:List Int} (h:SwK M ns ks) (g:SwK M ns ls):ks.Perm ls:=(List.perm_ext_iff_of_nodup h.nd g.nd).mpr λx=>(h.mem x).trans (g.mem x).symm
theorem SwN.key (td:TD M ns) (h:SwN M ns x):x∈keys ns ns.length:=by
 obtain ⟨p,j,_,e⟩:=h
 exact Wc.mpr ⟨p,(List.getElem?_eq_some_iff.mp e).1,e⟩
end
end KT
namespace L2
open PySem PySem.Spec PyProof.Rows
section
variable {X:Cx}
noncomputable abbrev THs:=Value->TS
noncomputable def PHs (X:Cx) (hs:List ExceptHandler) (t:THs):Prop :=
 ∀ (pins:List (Addr × Obj)) (s:Shared) (σ:St) (H:Hp) (D:Ends) (e T:Addr) (cls a0:Value) (h':Heap),Inv X pins σ H s->FxOk X pins H e->FxOk X pins H T ->
  Heap.FlyingW (PySem.W.hideAll s.heap (e :: T :: frs X.stack)) X.stack e cls a0 h'->s.heap.UpToSlots h'->t cls D σ H->wpAny (model X.prog X.w) X.A (handleBy (.ref e) X.env hs) (SP X pins D) X.xe { s with heap:=h' }
theorem Ziv {hs:List ExceptHandler}:PHs X hs (λ_ _ _ _=>False):=λ_ _ _ _ _ _ _ _ _ _ _ _ _ _ _ z=>z.elim
theorem Zmz {b₀:Stmt} {suite:List Stmt} {x:Str} {np hpos:Pos} {rest:List ExceptHandler} {ts:TS} {tr:THs} {C:Addr} (hg:Gl X x) (hm:X.mg x=some (.ref C)) (hs:∀ e,PSs (Vf X e) (b₀ :: suite) ts) (hr:PHs X rest tr)
  (hex:X.ex=[]:=by rfl) (hx:X.xe=(λ_ _=>False):=by rfl) (hdb:(x == ("__debug__":Str))=false:=by decide) :
  PHs X (.ExceptHandler (some (.Name x np)) none (b₀ :: suite) hpos :: rest) (λcls D σ H=>∃ b,PySem.W.exmOne X.K cls (.ref C)=some b/\if b=true then ts D σ H else tr cls D σ H):=by
 intro pins s σ H D e T cls a0 h' I fe fT hheld hsm q
 obtain ⟨b,hb,q⟩:=q
 have I5:Inv X pins σ H { s with heap:=h' }:=I.flown hex fe fT hheld.1 hsm
 obtain ⟨ob,hob,hobc⟩:=hheld.there
 refine wpAny_handleBy_cons (codeAny_handlers_test (Jk (X:=Vf X e) (I5.hnd e) hg hm ?_ hdb)) (by intro q; cases q)
 have LT:PySem.W.Looks (model X.prog X.w) h' (typeOf (.ref e)) cls:=by
  have:PySem.W.Looks (model X.prog X.w) h' (typeOf (.ref e)) ob.cls:=(PySem.W.Looks.ld hob).andThen .now
  rw [hobc] at this
  exact this
 refine (PySem.W.exm_one I5.kIn LT hb).here ?_
 cases b with
 | false=>exact hr pins s σ H D e T cls a0 h' I fe fT hheld hsm q
 | true =>
  refine codeAny_handlers_suite ?_
  refine lands_againW hheld λh₆ hfl₆ hsm₆=>?_
  have I6:Inv X pins σ H { s with heap:=h₆ }:=I.flown hex fe fT hfl₆.1 (hsm.trans hsm₆)
  have h6:=hs e pins _ σ H D (I6.hnd e) q
  have hxe:(Vf X e).xe=λ_ _=>False:=hx
  rw [hxe] at h6
  refine wpAny_mono h6 (λf s2 q2=>?_) λ_ _ z=>z.elim
  exact q2.unhnd I6.ok
noncomputable def Zo1 (tb:TSX) (th:THs):TS:=λD σ H=>tb D (λcls σ' H'=>th cls D σ' H') σ H
theorem Zez {body:List Stmt} {h₀:ExceptHandler} {hs:List ExceptHandler} {pos:Pos} {tb:TSX} {th:THs} (hb:PSsX false X body tb) (hh:PHs X (h₀ :: hs) th)
  (hex:X.ex=[]:=by rfl) (hstk:∃ o,X.stack=X.env :: o:=by exact ⟨_,rfl⟩) (hfr:X.env.frame=some X.env.locals:=by rfl) :
  PS X (.Try body (h₀ :: hs) [] [] pos) (Zo1 tb th):=by
 intro pins s σ H D I h
 obtain ⟨outer,hstk⟩:=hstk
 refine wpAny_Try_except (wpAny_mono (hb pins s σ H D _ I h) (λf s1 q=>?_) ?_)
 ·cases f with
  | next=>exact wpAny_execs_nil q
  | ret v=>exact q
  | brk=>exact q
  | cont=>exact q
 ·rintro ev s1 ⟨e,T,cls,a0,σ1,H1,rfl,I1,hx1,fe,fT,hT,q⟩
  obtain ⟨T,rfl⟩:∃ t,T=some t:=by
   cases T with
   | none=>exact absurd (hT rfl) Bool.false_ne_true
   | some t=>exact ⟨t,rfl⟩
  have fT:=fT T rfl
  have hf1:=Zoo I1 hx1
  have hA:X.A.frames=some (X.env :: outer):=by rw [I.ok.frames,hstk]
  have hf1':Heap.FlyingW (PySem.W.hideAll s1.heap (e :: T :: frs X.stack)) (X.env :: outer) e cls a0 s1.heap:=by
   have:=hf1
   generalize PySem.W.hideAll s1.heap (e :: T :: frs X.stack)=B at this ⊢
   rw [hstk] at this
   exact this
  refine wpAny_looks_onW hA hfr hf1' λh₄ hheld₄ hsm₄=>?_
  refine wpAny_landsW hheld₄ λh₅ hheld hsm₅'=>?_
  refine hh pins s1 σ1 H1 D e T cls a0 h₅ I1 fe fT ?_ (hsm₄.trans hsm₅') q
  generalize PySem.W.hideAll s1.heap (e :: T :: frs X.stack)=B at hheld ⊢
  rw [hstk]
  exact hheld
end
theorem FnOk.or {P:Program} {w:World} {K:PySem.W.Frag} {mg:Str->Option Value} {base:Heap} {CX:CXT} {k:Nat} {f:Addr} {fd:FuncData} {ps:List Str} {sp sp':Sp} (F:FnOk P w K mg base CX k f fd ps sp) (G:FnOk P w K mg base CX k f fd ps sp') :
  FnOk P w K mg base CX k f fd ps (λvs H Q E=>sp vs H Q E\/sp' vs H Q E) :=
 ⟨λvs H Q E q=>q.elim (F.len vs H Q E) (G.len vs H Q E),λA outer s H args us vs Q E hr he hb hv hs=>hs.elim (F.run A outer s H args us vs Q E hr he hb hv) (G.run A outer s H args us vs Q E hr he hb hv)⟩
section
variable {X:Cx}
noncomputable def asCx (X:Cx) (e:Addr) (ob:Obj):Cx:={ Vf X e with pn:=(e,ob) :: X.pn }
variable {pins:List (Addr × Obj)} {σ:St} {H:Hp} {s:Shared}
theorem Inv.asE (I:Inv X pins σ H s) {e:Addr} {ob:Obj} (h:s.heap.get? e=some ob) (f:FxOk X pins H e) (d:∀ v,ob.data≠.cell v):Inv (asCx X e ob) pins σ H s :=
 ⟨⟨I.ok.mod,I.ok.kind,I.ok.glob,I.ok.blt,I.ok.above,I.ok.inj,I.ok.has,I.ok.cab,λh=>absurd (show false=true from h) Bool.false_ne_true,I.ok.frames,I.ok.stk,I.ok.exf,I.ok.bs,I.ok.bsz,I.ok.noex,I.ok.exfs,I.ok.funs,I.ok.frf⟩,
  I.os,I.bare,I.base,I.loc,I.cell,I.free,I.freeC,λp hp=>(List.mem_cons.mp (show p∈(e,ob) :: (X.pn ++ pins) from hp)).elim (λz=>z ▸ ⟨h,f.nt,f.nl,f.nf,d⟩) (I.pin p),I.hok,I.len⟩
theorem Inv.unas {e:Addr} {ob:Obj} (I:Inv (asCx X e ob) pins σ H s) (ok:X.Ok):Inv X pins σ H s :=
 ⟨ok,I.os,I.bare,I.base,I.loc,I.cell,I.free,I.freeC,λp hp=>I.pin p (List.mem_cons_of_mem _ hp),I.hok,I.len⟩
theorem Inv.gone {M:Model} {A:Around} {E:Value->Shared->Prop} {i:Nat} {n:Str} {pos:Pos} {Q:Unit->Shared->Prop} (I:Inv X pins σ H s) (hN:X.N.Nodup) (hi:X.N[i]?=some n) (hk:X.env.scope.names.lookup n=some .local)
  (h:∀ s',Inv X pins (σ.set i none) H s'->Q () s'):wpAny M A (do bindName X.env n .none; unbindBehindTheSuite X.env n pos) Q E s:=by
 obtain ⟨m,hn,hl⟩:=id I.loc
 have hcls:(X.env.scope.kind == .class || (X.env.scope.kind == .module && X.env.locals != X.env.globals))=false:=by rw [I.ok.kind]; rfl
 have hiσ:i < σ.length:=by rw [I.len]; exact (List.getElem?_eq_some_iff.mp hi).1
 have cne:=I.cne
 refine wpAny_nameGoes_keeps hk hn hcls λh' v hn' hs=>?_
 refine h _ ⟨I.ok,I.os,I.bare,⟨λb o e n hb hx=>?_,λb o e n hb hx=>?_,I.base.free,λb o e hx=>?_,I.base.tups,I.base.frzs,I.base.tbls⟩,⟨_,hn',λj y v' e1 e2 e3=>?_⟩,λy c e=>?_,I.free,I.freeC,λp hp=>?_,λb ob e=>?_,by simpa using I.len⟩
 ·exact (hs.2 b (Nat.ne_of_lt (Nat.lt_of_lt_of_le (Heap.lt_size e) I.ok.above))).trans (I.base.keep b o e n hb hx)
 ·obtain ⟨sl,e1⟩:=I.base.slot b o e n hb hx
  exact ⟨sl,(hs.2 b (Nat.ne_of_lt (Nat.lt_of_lt_of_le (Heap.lt_size e) I.ok.above))).trans e1⟩
 ·obtain ⟨o',e1⟩:=I.base.there b o e hx
  exact ⟨o',(hs.2 b (Nat.ne_of_lt (Nat.lt_of_lt_of_le (Heap.lt_size e) I.ok.above))).trans e1⟩
 ·by_cases hj:j=i
  ·subst hj
   rw [List.getElem?_set_self hiσ] at e2
   cases e2
  ·rw [List.getElem?_set_ne (Ne.symm hj)] at e2
   obtain ⟨u',r',q⟩:=hl j y v' e1 e2 e3
   refine ⟨u',r',?_⟩
   rcases q with ⟨k,e⟩ | ⟨k,c,e,z⟩
   ·refine .inl ⟨k,?_⟩
    have:y≠n:=λe=>hj (K1 hN e1 (e ▸ hi))
    simp [this,e]
   ·exact .inr ⟨k,c,e,z.sameBut hs (cne y c e)⟩
 ·obtain ⟨w',z⟩:=I.cell y c e
  exact ⟨w',z.sameBut hs (cne y c e)⟩
 ·obtain ⟨e,n,ne,nf,d⟩:=I.pin p hp
  exact ⟨(hs.2 p.1 ne).trans e,n,ne,nf,d⟩
 ·refine (I.hok b ob e).stay (λc w' hc q=>(hs.2 c ?_).trans q) (λ_ q=>q) λ_ _ q=>q
  rintro rfl
  rcases hc with rfl | hc
  ·rw [I.free] at e; cases e
  ·rw [I.free] at hc; cases hc
noncomputable def Zjb (i:Nat) (D:Ends):Ends:={ nx:=λσ H=>D.nx (σ.set i none) H,rt:=D.rt,bk:=λσ H=>D.bk (σ.set i none) H,ct:=λσ H=>D.ct (σ.set i none) H }
theorem Zpw {b₀:Stmt} {suite:List Stmt} {x n:Str} {np hpos:Pos} {rest:List ExceptHandler} {ts:Addr->Obj->TS} {tr:THs} {C:Addr} {i:Nat} (hg:Gl X x) (hm:X.mg x=some (.ref C)) (hN:X.N.Nodup) (hi:X.N[i]?=some n) (hk:X.env.scope.names.lookup n=some .local) (hs:∀ e ob,PSs (asCx X e ob) (b₀ :: suite) (ts e ob)) (hr:PHs X rest tr)
  (hex:X.ex=[]:=by rfl) (hx:X.xe=(λ_ _=>False):=by rfl) (hdb:(x == ("__debug__":Str))=false:=by decide) :
  PHs X (.ExceptHandler (some (.Name x np)) (some n) (b₀ :: suite) hpos :: rest) (λcls D σ H=>∃ b,PySem.W.exmOne X.K cls (.ref C)=some b/\if b=true then ∀ e ob,ob.cls=cls->ts e ob (Zjb i D) (σ.set i (some (.ref e))) H else tr cls D σ H):=by
 intro pins s σ H D e T cls a0 h' I fe fT hheld hsm q
 obtain ⟨b,hb,q⟩:=q
 have I5:Inv X pins σ H { s with heap:=h' }:=I.flown hex fe fT hheld.1 hsm
 obtain ⟨ob,hob,hobc⟩:=hheld.there
 refine wpAny_handleBy_cons (codeAny_handlers_test (Jk (X:=Vf X e) (I5.hnd e) hg hm ?_ hdb)) (by intro q; cases q)
 have LT:PySem.W.Looks (model X.prog X.w) h' (typeOf (.ref e)) cls:=by
  have:PySem.W.Looks (model X.prog X.w) h' (typeOf (.ref e)) ob.cls:=(PySem.W.Looks.ld hob).andThen .now
  rw [hobc] at this
  exact this
 refine (PySem.W.exm_one I5.kIn LT hb).here ?_
 cases b with
 | false=>exact hr pins s σ H D e T cls a0 h' I fe fT hheld hsm q
 | true =>
  refine codeAny_handlers_suite_as ?_
  refine lands_againW hheld λh₆ hfl₆ hsm₆=>?_
  have I6:Inv X pins σ H { s with heap:=h₆ }:=I.flown hex fe fT hfl₆.1 (hsm.trans hsm₆)
  obtain ⟨oe,ws,hoe,hoec,hoed,_⟩:=hfl₆.first
  have I7:=I6.asE hoe fe (λv z=>by rw [hoed] at z; cases z)
  refine Wu (X:=asCx X e oe) (v:=.ref e) I7 hN hi (.inl hk) rfl (λs7 I8=>?_) (.inr hk)
  have h6:=hs e oe pins s7 _ H (Zjb i D) I8 (q e oe hoec)
  have hxe:(asCx X e oe).xe=λ_ _=>False:=hx
  rw [hxe] at h6
  refine wpAny_mono h6 (λf s2 q2=>?_) λ_ _ z=>z.elim
  cases f with
  | next=>obtain ⟨σ',H',J,q⟩:=q2; exact (J.unas I6.ok).gone hN hi hk λs' J'=>⟨_,_,J',q⟩
  | brk=>obtain ⟨σ',H',J,q⟩:=q2; exact (J.unas I6.ok).gone hN hi hk λs' J'=>⟨_,_,J',q⟩
  | cont=>obtain ⟨σ',H',J,q⟩:=q2; exact (J.unas I6.ok).gone hN hi hk λs' J'=>⟨_,_,J',q⟩
  | ret u=>obtain ⟨v,σ',H',J,r,q⟩:=q2; exact (J.unas I6.ok).gone hN hi hk λs' J'=>⟨_,_,_,J',r,q⟩
theorem Ze5 {fr:Bool} {a b:Expr} {op:CmpOp} {ta tb:TEX} {r:R2} {pos:Pos} (ha:PEX fr X a ta) (hb:PEX fr X b tb) (ho:OpR X (compareOp op) r) (hm:behindInMarks op b=false) (hx:X.xe=(λ_ _=>False):=by rfl) :
  PEX fr X (.Compare a [op] [b] pos) (λσ H Q E=>ta σ H (λx H1=>tb σ H1 (λy H2=>r x y H2 Q) E) E):=by
 intro pins s σ H Q E I h
 refine wpAny_Compare1 (wpAny_mono (ha pins s σ H _ _ I h) (λv s1 zz43=>?_) λ_ _ z=>z) hm
 obtain ⟨x,H1,I1,r1,q1⟩:=zz43
 refine wpAny_mono (hb pins s1 σ H1 _ _ I1 q1) (λu s2 zz44=>?_) λ_ _ z=>z
 obtain ⟨y,H2,I2,r2,q2⟩:=zz44
 have h2:=ho pins s2 σ H2 x y v u _ I2 r1 r2 q2
 rw [hx] at h2
 exact wpAny_mono h2 (λ_ _ z=>z) λ_ _ z=>z.elim
theorem Fg:bootBuiltins "ValueError"=some (.type "ValueError"):=by decide +kernel
theorem Zm6 {K:PySem.W.Frag} {a:Addr} {t c:Value} (e:PySem.W.kitOne K t c=some true):Answers (λs=>PySem.W.Frag.In K s.heap/\∃ o,s.heap.get? a=some o/\o.cls=t) (.ref a) c true:=by
 intro dep tk prog w A R s hs
 obtain ⟨h0,g,d,tt,os⟩:=s
 obtain ⟨⟨X,o,ho,hc⟩,hq⟩:=hs
 have LT:PySem.W.Looks (model prog w) h0 (typeOf (.ref a)) t:=by
  have:PySem.W.Looks (model prog w) h0 (typeOf (.ref a)) o.cls:=(PySem.W.Looks.ld ho).andThen .now
  rw [hc] at this
  exact this
 unfold PySem.W.kitOne at e
 unfold Builtin.«isinstance.nested»
 refine wpAny_bind (LT.at ?_)
 by_cases q:(t == c)=true
 ·rw [if_pos q]
  first
   | exact wpAny_bind (wpAny_rule (hq tt))
   | exact wpAny_bind (wpAny_rule (wpAny_pure (hq tt)))
 ·rw [if_neg q] at e
  rw [if_neg q]
  obtain ⟨hty,his,hsub⟩:=PySem.W.kit_cls (M:=model prog w) X e
  have LI:PySem.W.Looks (model prog w) h0 (isInstance (.ref a) c) true:=LT.andThen hsub
  refine wpAny_bind (hty.at ?_)
  rw [if_pos (by decide)]
  k_delta "plainIsInstance"
  refine wpAny_bind (wpAny_bind (his.at ?_))
  simp only [Bool.not_true,Bool.false_eq_true,if_false]
  refine wpAny_bind (LI.at ?_)
  first
   | exact wpAny_pure (wpAny_pure (hq tt))
   | (simp only [if_true]; first | exact wpAny_pure (wpAny_pure (hq tt)) | exact wpAny_pure (hq tt) | exact wpAny_bind (wpAny_pure (wpAny_pure (hq tt))))
theorem Zdo {e:Addr} {ob:Obj}:Xy (asCx X e ob) (.builtin "isinstance") (λxs H Q=>∃ T,xs=[.ref e,.ty T]/\PySem.W.kitOne X.K ob.cls (.type T)=some true/\Q (.bl true) H):=by
 intro pins s σ H xs us Q I r h
 obtain ⟨T,rfl,hk,q⟩:=h
 obtain ⟨u,u2,rfl,ru,ru2⟩:=Zk6 r
 cases ru
 obtain rfl:u2=Value.type T:=ru2
 have hp:=I.pin (e,ob) (List.mem_cons_self ..)
 exact call_isinstance (S:=λ_ R s=>(X.K.In s.heap/\∃ o,s.heap.get? e=some o/\o.cls=ob.cls)/\∀ tk,R (.ok (.ret (.bool true))) { s with toks:=tk })
  (λprog w A R s hs=>isinstance_outer (Zm6 hk 0 _ prog w A R s hs) (λz=>nomatch z)) ⟨⟨I.kIn,ob,hp.1,rfl⟩,λtk=>⟨.bl true,H,I.tok _,rfl,q⟩⟩
end
section
variable {P:Program} {w:World} {A:Around} {E:Value->Shared->Prop} {s:Shared}
theorem Zi4 (hh:A.handled=none) (it t:Addr) (hne:t≠it) (its:Array Value):Draws P w A it [it,t] its.size (λi v=>its[i]?=some v) (λi h=>IsTupIter h it t i/\IsTup h t its):=by
 refine ⟨λ_ _ st=>let ⟨o,ho,_⟩:=st.1; ⟨o,ho⟩,λ_ _ _ st k=>?_,λi s Q E hi st hQ=>?_,λs Q E st hE=>?_⟩
 ·obtain ⟨⟨o,ho,r⟩,o2,ho2,r2⟩:=st
  exact ⟨⟨o,k it (by simp) o ho,r⟩,o2,k t (by simp) o2 ho2,r2⟩
 ·obtain ⟨hit,ht⟩:=st
  obtain ⟨o,ho,hc,hd⟩:=id hit
  obtain ⟨ol,hol,_,nl,hdl⟩:=id ht
  have hx:its[i]?=some its[i]:=Array.getElem?_eq_getElem hi
  unfold Builtin.SmallTypes.nextOf
  refine wpAny_bind (wpAny_callSpecial?_slot (name:=Str.ofString "__next__") hit.typeIs slot_tupleiter_next (wpAny_call_entry slot_tupleiter_next hit.typeIs entry_tupleiter_next ?_ (args_tupleiter_next _)))
  refine wpAny_bind (m:=field (.ref it) 0) (wpAny_field ho hd (x:=.ref t) rfl ?_)
  show wpAny _ _ (if (Value.ref t == Value.none)=true then _ else _) _ _ s
  rw [if_neg (show ¬ ((Value.ref t == Value.none)=true) from Bool.false_ne_true)]
  refine wpAny_bind (m:=field (.ref it) 1) (wpAny_field ho hd (x:=.int i 0) rfl (wpAny_bind (m:=seqItems? (.ref t)) (wpAny_seqItems hol hdl ?_)))
  simp only [Int.toNat_natCast,hx]
  refine wpAny_bind (wpAny_setField ho hd (by simp) (wpAny_pure ⟨its[i],rfl,wpAny_pure (hQ _ _ s.toks hx ⟨?_,(Heap.get?_update_other _ _ (Ne.symm hne)).trans hol |> λe=>⟨ol,e,‹_›,nl,hdl⟩⟩ (Heap.SameBut.update ..))⟩))
  exact ⟨_,Heap.get?_update_self _ ho (Obj.isFreed_of_fields (Obj.data_mapFields hd _)),(Obj.cls_mapFields ..).trans hc,by rw [Obj.data_mapFields hd]; simp [rawInt]⟩
 ·obtain ⟨hit,ht⟩:=st
  obtain ⟨o,ho,hc,hd⟩:=id hit
  obtain ⟨ol,hol,_,nl,hdl⟩:=id ht
  unfold Builtin.SmallTypes.nextOf
  refine wpAny_bind (wpAny_callSpecial?_slot (name:=Str.ofString "__next__") hit.typeIs slot_tupleiter_next (wpAny_call_entry slot_tupleiter_next hit.typeIs entry_tupleiter_next ?_ (args_tupleiter_next _)))
  refine wpAny_bind (m:=field (.ref it) 0) (wpAny_field ho hd (x:=.ref t) rfl ?_)
  show wpAny _ _ (if (Value.ref t == Value.none)=true then _ else _) _ _ s
  rw [if_neg (show ¬ ((Value.ref t == Value.none)=true) from Bool.false_ne_true)]
  refine wpAny_bind (m:=field (.ref it) 1) (wpAny_field ho hd (x:=.int its.size 0) rfl (wpAny_bind (m:=seqItems? (.ref t)) (wpAny_seqItems hol hdl ?_)))
  simp only [Int.toNat_natCast,Array.getElem?_eq_none (Nat.le_refl its.size)]
  refine wpAny_bind (wpAny_rule (wpAny_bind (wpAny_setField ho hd (by simp) ?_)))
  refine wpAny_bind (m:=newExc (.type "StopIteration") []) ?_
  simp only [newExc,newTuple]
  refine wpAny_bind (wpAny_newObj_type ?_ (by size_fits))
  refine wpAny_bind (m:=firstArgMember _ _) (wpAny_of_eq (a:=Value.none) (by first | rfl | (simp only [firstArgMember]; rfl)) (wpAny_newObj_type ?_ (by size_fits)))
  exact wpAny_raiseNew_none (A:=A.in1) hh (hE _ _ (((Heap.SameBut.update ..).extBut.push _).push _) ⟨_,Heap.get?_push_size _ rfl,rfl⟩)
structure ZA (z TI TO i1 i2:Addr) (f1 f2:List Addr):Prop where
 TIz:TI≠z
 TOz:TO≠z
 i1z:i1≠z
 i2z:i2≠z
 TITO:TI≠TO
 TIi1:TI≠i1
 TIi2:TI≠i2
 TOi1:TO≠i1
 TOi2:TO≠i2
 i12:i1≠i2
 z1:z ∉ f1
 z2:z ∉ f2
 t1:TO ∉ f1
 t2:TO ∉ f2
 a1:i2 ∉ f1
 a2:i1 ∉ f2
variable {z TI TO i1 i2:Addr} {f1 f2:List Addr} {n1 n2:Nat} {P1 P2:Nat->Value->Prop} {S1 S2:Nat->Heap->Prop} {a b:Value}
theorem Zgs {k:Nat} {Q:Option Value->Shared->Prop} (D1:Draws P w A.in1 i1 f1 n1 P1 S1) (D2:Draws P w A.in1 i2 f2 n2 P2 S2) (D:ZA z TI TO i1 i2 f1 f2) (hz:IsZip s.heap z TI TO .none) (hTI:IsPair s.heap TI (.ref i1) (.ref i2)) (hTO:IsPair s.heap TO a b)
  (s1:S1 k s.heap) (s2:S2 k s.heap) (l1:k < n1) (l2:k < n2)
  (hQ:∀ x y h' tk,P1 k x->P2 k y->IsZip h' z TI TO (rawInt s.heap.objs.size)->IsPair h' TO x y->S1 (k + 1) h'->S2 (k + 1) h'->IsPair h' s.heap.objs.size x y ->
   (∀ c o,c≠z->c≠TO->c≠i1->c≠i2->s.heap.get? c=some o->h'.get? c=some o)->Q (some (.ref s.heap.objs.size)) { s with heap:=h',toks:=tk }):wpAny (model P w) A (pyNext (.ref z)) Q E s:=by
 have hT:s.TypeIs (.ref z) "zip":=⟨_,hz,rfl⟩
 unfold pyNext
 refine wpAny_bind (wpAny_attempt (wpAny_callSpecial?_slot (name:=Str.ofString "__next__") hT PySem.F.slot_zip_next (wpAny_call_entry PySem.F.slot_zip_next hT PySem.F.entry_zip_next ?_ (PySem.F.args_zip_next_1 _))))
 refine wpAny_bind (m:=field (.ref z) 2) (wpAny_field hz rfl (x:=.bool false) rfl ?_)
 refine wpAny_bind (m:=field (.ref z) 3) (wpAny_field hz rfl (x:=.ref TI) rfl (wpAny_bind (wpAny_seqItems hTI rfl ?_)))
 refine wpAny_bind (m:=Builtin.SmallTypes.ownedTupleIsFree (.ref z)) ?_
 unfold Builtin.SmallTypes.ownedTupleIsFree
 refine wpAny_bind (wpAny_field hz rfl (x:=.none) rfl (wpAny_pure ?_))
 simp only [if_true]
 refine wpAny_bind (wpAny_rule (wpAny_bind (wpAny_field hz rfl (x:=.ref TO) rfl (wpAny_bind (wpAny_setField_rec hz (by simp) λg1 q1 b1=>?_)))))
 replace q1:IsZip g1 z TI TO .ellipsis:=q1
 refine wpAny_bind ?_
 simp only [List.zipIdx_cons,List.zipIdx_nil,List.forIn_cons,List.forIn_nil]
 refine wpAny_bind (wpAny_bind (wpAny_onRaise (wpAny_bind (m:=Builtin.SmallTypes.nextOf (.ref i1)) (D1.item k _ _ _ l1 (D1.frame k _ _ s1 λc hc o e=>b1.extBut c o (λq=>D.z1 (q ▸ hc)) e) λx g2 tk2 px st2 b2=>wpAny_pure ?_))))
 have r2:IsPair g2 TO a b:=b2.extBut _ _ D.TOi1 (b1.extBut _ _ D.TOz hTO)
 refine wpAny_bind (wpAny_seqItems r2 rfl (wpAny_bind (wpAny_updateSeq_pair r2 λg3 r3 b3=>wpAny_bind (wpAny_letGo (wpAny_pure ?_)))))
 replace r3:IsPair g3 TO x b:=r3
 have st3:S2 k g3:=D2.frame k _ _ s2 λc hc o e=>b3.extBut c o (λq=>D.t2 (q ▸ hc)) (b2.extBut c o (λq=>D.a2 (q ▸ hc)) (b1.extBut c o (λq=>D.z2 (q ▸ hc)) e))
 refine wpAny_bind (wpAny_bind (wpAny_onRaise (wpAny_bind (m:=Builtin.SmallTypes.nextOf (.ref i2)) (D2.item k _ _ _ l2 st3 λy g4 tk4 py st4 b4=>wpAny_pure ?_))))
 have r4:IsPair g4 TO x b:=b4.extBut _ _ D.TOi2 r3
 refine wpAny_bind (wpAny_seqItems r4 rfl (wpAny_bind (wpAny_updateSeq_pair r4 λg5 r5 b5=>wpAny_bind (wpAny_letGo (wpAny_pure (wpAny_pure ?_))))))
 replace r5:IsPair g5 TO x y:=r5
 refine wpAny_bind (wpAny_seqItems r5 rfl (wpAny_bind (wpAny_newTuple ?_)))
 have sz:g5.objs.size=s.heap.objs.size:=by rw [b5.1,b4.1,b3.1,b2.1,b1.1]
 have q5:IsZip g5 z TI TO .ellipsis:=b5.extBut _ _ D.TOz.symm (b4.extBut _ _ D.i2z.symm (b3.extBut _ _ D.TOz.symm (b2.extBut _ _ D.i1z.symm q1)))
 have k5:∀ c o,c≠z->c≠TO->c≠i1->c≠i2->s.heap.get? c=some o->g5.get? c=some o:=λc o c1 c2 c3 c4 e=>b5.extBut _ _ c2 (b4.extBut _ _ c4 (b3.extBut _ _ c2 (b2.extBut _ _ c3 (b1.extBut _ _ c1 e))))
 have u1:S1 (k + 1) g5:=D1.frame _ _ _ st2 λc hc o e=>b5.extBut c o (λq=>D.t1 (q ▸ hc)) (b4.extBut c o (λq=>D.a1 (q ▸ hc)) (b3.extBut c o (λq=>D.t1 (q ▸ hc)) e))
 have u2:S2 (k + 1) g5:=D2.frame _ _ _ st4 λc hc o e=>b5.extBut c o (λq=>D.t2 (q ▸ hc)) e
 have zl:z < g5.objs.size:=Heap.lt_size q5
 refine wpAny_bind (m:=Builtin.SmallTypes.ownedTupleHandOut (.ref z) (.ref g5.objs.size)) ?_
 unfold Builtin.SmallTypes.ownedTupleHandOut
 refine wpAny_bind (wpAny_setField_rec (show IsZip (g5.push { cls:=.type "tuple",data:=.seq #[x,y] }) z TI TO .ellipsis from Heap.get?_push_of_some _ q5) (by simp) λg7 q7 b7=>?_)
 replace q7:IsZip g7 z TI TO (rawInt g5.objs.size):=q7
 refine wpAny_setField_rec q7 (by simp) λg8 q8 b8=>?_
 replace q8:IsZip g8 z TI TO (rawInt g5.objs.size):=q8
 have up:∀ c o,c≠z->g5.get? c=some o->g8.get? c=some o:=λc o c1 e=>b8.extBut _ _ c1 (b7.extBut _ _ c1 (Heap.get?_push_of_some _ e))
 have r8:IsPair g8 g5.objs.size x y:=b8.extBut _ _ (Nat.ne_of_gt zl) (b7.extBut _ _ (Nat.ne_of_gt zl) (Heap.get?_push_size _ rfl))
 rw [sz] at q8 r8
 refine wpAny_pure ⟨_,rfl,wpAny_pure ?_⟩
 show Q (some (.ref g5.objs.size)) _
 rw [sz]
 exact hQ x y g8 tk4 px py q8 (up _ _ D.TOz r5) (D1.frame _ _ _ u1 λc hc o e=>up c o (λq=>D.z1 (q ▸ hc)) e) (D2.frame _ _ _ u2 λc hc o e=>up c o (λq=>D.z2 (q ▸ hc)) e) r8 λc o c1 c2 c3 c4 e=>up c o c1 (k5 c o c1 c2 c3 c4 e)
theorem Zjd {k:Nat} {Q:Option Value->Shared->Prop} (D1:Draws P w A.in1 i1 f1 n1 P1 S1) (D2:Draws P w A.in1 i2 f2 n2 P2 S2) (D:ZA z TI TO i1 i2 f1 f2) (hz:IsZip s.heap z TI TO .none) (hTI:IsPair s.heap TI (.ref i1) (.ref i2)) (hTO:IsPair s.heap TO a b)
  (s1:S1 k s.heap) (s2:S2 k s.heap) (l1:k=n1\/k < n1/\k=n2)
  (hQ:∀ h' tk,(∀ c o,c≠z->c≠TO->c≠i1->c≠i2->s.heap.get? c=some o->h'.get? c=some o)->Q none { s with heap:=h',toks:=tk }):wpAny (model P w) A (pyNext (.ref z)) Q E s:=by
 have hT:s.TypeIs (.ref z) "zip":=⟨_,hz,rfl⟩
 have fin:∀ (h':Heap) (tk:Nat) (e:Addr),(∀ c o,c≠z->c≠TO->c≠i1->c≠i2->s.heap.get? c=some o->h'.get? c=some o)->(∃ o,h'.get? e=some o/\o.cls=.type "StopIteration") ->
   wpAny (model P w) A (do if <- isInstance (.ref e) (.type "StopIteration") then pure (none:Option Value) else throw (.ref e)) Q E { s with heap:=h',toks:=tk }:=λh' tk e kp ⟨o,ho,hc⟩ =>
  wpAny_bind (wpAny_isInstance (T:="StopIteration") (b:=true) ⟨o,ho,hc⟩ isSubtype_stop (wpAny_pure (hQ _ _ kp)))
 unfold pyNext
 refine wpAny_bind (wpAny_attempt (wpAny_callSpecial?_slot (name:=Str.ofString "__next__") hT PySem.F.slot_zip_next (wpAny_call_entry PySem.F.slot_zip_next hT PySem.F.entry_zip_next ?_ (PySem.F.args_zip_next_1 _))))
 refine wpAny_bind (m:=field (.ref z) 2) (wpAny_field hz rfl (x:=.bool false) rfl ?_)
 refine wpAny_bind (m:=field (.ref z) 3) (wpAny_field hz rfl (x:=.ref TI) rfl (wpAny_bind (wpAny_seqItems hTI rfl ?_)))
 refine wpAny_bind (m:=Builtin.SmallTypes.ownedTupleIsFree (.ref z)) ?_
 unfold Builtin.SmallTypes.ownedTupleIsFree
 refine wpAny_bind (wpAny_field hz rfl (x:=.none) rfl (wpAny_pure ?_))
 simp only [if_true]
 refine wpAny_bind (wpAny_rule (wpAny_bind (wpAny_field hz rfl (x:=.ref TO) rfl (wpAny_bind (wpAny_setField_rec hz (by simp) λg1 q1 b1=>?_)))))
 replace q1:IsZip g1 z TI TO .ellipsis:=q1
 refine wpAny_bind ?_
 simp only [List.zipIdx_cons,List.zipIdx_nil,List.forIn_cons,List.forIn_nil]
 have st1:S1 k g1:=D1.frame k _ _ s1 λc hc o e=>b1.extBut c o (λq=>D.z1 (q ▸ hc)) e
 rcases l1 with rfl | ⟨l1,rfl⟩
 ·refine wpAny_bind (wpAny_bind (wpAny_onRaise (wpAny_bind (m:=Builtin.SmallTypes.nextOf (.ref i1)) (D1.done _ _ _ st1 λg2 e b2 ⟨oe,hoe,hce⟩=>?_))))
  have q2:IsZip g2 z TI TO .ellipsis:=b2 _ _ D.i1z.symm q1
  have ez:e≠z:=λx=>by subst x; rw [q2] at hoe; cases hoe; simp at hce
  exact wpAny_setField_rec q2 (by simp) λg3 _ b3=>fin g3 s.toks e (λc o c1 _ c3 _ x=>b3.extBut _ _ c1 (b2 _ _ c3 (b1.extBut _ _ c1 x))) ⟨oe,b3.extBut _ _ ez hoe,hce⟩
 ·refine wpAny_bind (wpAny_bind (wpAny_onRaise (wpAny_bind (m:=Builtin.SmallTypes.nextOf (.ref i1)) (D1.item k _ _ _ l1 st1 λx g2 tk2 px st2 b2=>wpAny_pure ?_))))
  have r2:IsPair g2 TO a b:=b2.extBut _ _ D.TOi1 (b1.extBut _ _ D.TOz hTO)
  refine wpAny_bind (wpAny_seqItems r2 rfl (wpAny_bind (wpAny_updateSeq_pair r2 λg3 r3 b3=>wpAny_bind (wpAny_letGo (wpAny_pure ?_)))))
  have st3:S2 k g3:=D2.frame k _ _ s2 λc hc o e=>b3.extBut c o (λq=>D.t2 (q ▸ hc)) (b2.extBut c o (λq=>D.a2 (q ▸ hc)) (b1.extBut c o (λq=>D.z2 (q ▸ hc)) e))
  refine wpAny_bind (wpAny_bind (wpAny_onRaise (wpAny_bind (m:=Builtin.SmallTypes.nextOf (.ref i2)) (D2.done _ _ _ st3 λg4 e b4 zz9=>?_))))
  obtain ⟨oe,hoe,hce⟩:=zz9
  have q4:IsZip g4 z TI TO .ellipsis:=b4 _ _ D.i2z.symm (b3.extBut _ _ D.TOz.symm (b2.extBut _ _ D.i1z.symm q1))
  have ez:e≠z:=λx=>by subst x; rw [q4] at hoe; cases hoe; simp at hce
  exact wpAny_setField_rec q4 (by simp) λg5 _ b5=>fin g5 tk2 e (λc o c1 c2 c3 c4 x=>b5.extBut _ _ c1 (b4 _ _ c4 (b3.extBut _ _ c2 (b2.extBut _ _ c3 (b1.extBut _ _ c1 x))))) ⟨oe,b5.extBut _ _ ez hoe,hce⟩
end
inductive ZS where
 | l (a:Addr)
 | t (a:Addr)
 | s (x:Str)
noncomputable def ZS.ad:ZS->List Addr
 | .l a=>[a]
 | .t a=>[a]
 | .s _=>[]
noncomputable def ZS.has (K:PySem.W.Frag) (H:Hp) (S:ZS) (xs:List V):Prop:=match S with
 | .l a=>SqL K H a xs
 | .t a=>SqT K H a xs
 | .s x=>x.cps.all (· < 128)=true/\xs=x.cps.toList.map λc=>V.str ⟨#[c]⟩
noncomputable def ZS.it (S:ZS) (i:Addr) (k:Nat) (h:Heap):Prop:=match S with
 | .l a=>h.IsListIter i a k
 | .t a=>IsTupIter h i a k
 | .s x=>∃ t,h.IsStrIter i "str_ascii_iterator" x t k
noncomputable def ZS.v:ZS->V
 | .l a=>.ref a
 | .t a=>.ref a
 | .s x=>.str x
theorem ZS.it_obj {S:ZS} {i:Addr} {k:Nat} {h:Heap} (st:S.it i k h):∃ o,h.get? i=some o/\∀ v,o.data≠.cell v:=by
 cases S with
 | l a=>obtain ⟨o,e,_,d⟩:=st; exact ⟨o,e,λv z=>by rw [d] at z; cases z⟩
 | t a=>obtain ⟨o,e,_,d⟩:=st; exact ⟨o,e,λv z=>by rw [d] at z; cases z⟩
 | s x=>obtain ⟨t,o,e,_,d⟩:=st; exact ⟨o,e,λv z=>by rw [d] at z; cases z⟩
theorem ZS.it_keep {S:ZS} {i:Addr} {k:Nat} {h h':Heap} (st:S.it i k h) (kp:∀ o,h.get? i=some o->h'.get? i=some o):S.it i k h':=by
 cases S with
 | l a=>obtain ⟨o,e,r⟩:=st; exact ⟨o,kp o e,r⟩
 | t a=>obtain ⟨o,e,r⟩:=st; exact ⟨o,kp o e,r⟩
 | s x=>obtain ⟨t,o,e,r⟩:=st; exact ⟨t,o,kp o e,r⟩
theorem ZS.has_inj {X:Cx} {pins:List (Addr × Obj)} {σ:List (Option V)} {H:Hp} {s:Shared} (I:Inv X pins σ H s) {S:ZS} {xs ys:List V} (h1:S.has X.K H xs) (h2:S.has X.K H ys):xs=ys:=by
 cases S with
 | l a=>exact I.list_inj h1 h2
 | t a=>exact I.tuple_inj h1 h2
 | s x=>rw [h1.2,h2.2]
section
variable {X:Cx} {pins:List (Addr × Obj)} {σ:List (Option V)} {H:Hp} {s:Shared}
theorem ZS.draws (I:Inv X pins σ H s) {A:Around} (hh:A.handled=none) {S:ZS} {xs:List V} (h:S.has X.K H xs) {i:Addr} (hi:i ∉ S.ad) {k:Nat} (st:S.it i k s.heap) :
  ∃ (P1:Nat->Value->Prop) (St:Nat->Heap->Prop),Draws X.prog X.w A i (i :: S.ad) xs.length P1 St/\St k s.heap/\(∀ k h,St k h->S.it i k h)/\∀ (k:Nat) (v:Value) (x:V),P1 k v->xs[k]?=some x->RelV x v:=by
 cases S with
 | l a =>
  obtain ⟨its,rv,pl,_⟩:=I.list h
  have hl:xs.length=its.toArray.size:=by rw [List.size_toArray]; exact rv.length
  have hne:a≠i:=λz=>hi (by rw [z]; exact List.mem_singleton.mpr rfl)
  refine ⟨_,_,hl ▸ Draws.list hh i a hne its.toArray,⟨st,pl.isList⟩,λk h st=>st.1,λk v x hv hx=>?_⟩
  obtain ⟨u,hu,ru⟩:=rv.get hx
  have:its.toArray[k]?=some v:=hv
  rw [List.getElem?_toArray,hu] at this
  cases this
  exact ru
 | t a =>
  obtain ⟨its,rv,pl,_⟩:=I.tuple h
  have hl:xs.length=its.toArray.size:=by rw [List.size_toArray]; exact rv.length
  have hne:a≠i:=λz=>hi (by rw [z]; exact List.mem_singleton.mpr rfl)
  refine ⟨_,_,hl ▸ Zi4 hh i a hne its.toArray,⟨st,pl⟩,λk h st=>st.1,λk v x hv hx=>?_⟩
  obtain ⟨u,hu,ru⟩:=rv.get hx
  have:its.toArray[k]?=some v:=hv
  rw [List.getElem?_toArray,hu] at this
  cases this
  exact ru
 | s x =>
  obtain ⟨ha,rfl⟩:=h
  obtain ⟨t,st⟩:=st
  have hl:(x.cps.toList.map λc=>V.str ⟨#[c]⟩).length=x.cps.size:=by rw [List.length_map,Array.length_toList]
  refine ⟨_,_,hl ▸ Draws.strAscii hh i x t,st,λk h st=>⟨t,st⟩,λk v y hv hy=>?_⟩
  obtain ⟨c,u,hc,rfl⟩:=hv
  rw [List.getElem?_map,Array.getElem?_toList,hc] at hy
  cases hy
  exact ⟨u,rfl⟩
end
noncomputable def Itz2 (K:PySem.W.Frag) (S T:ZS):It :=
  ⟨λi H=>∃ xs ys x y,S.has K H xs/\T.has K H ys/\xs[i]?=some x/\ys[i]?=some y,
   λi H v H'=>∃ q x y,H q=none/\v=.ref q/\(∀ xs,S.has K H xs->xs[i]?=some x)/\(∀ ys,T.has K H ys->ys[i]?=some y)/\H'=upd H q (.tup [x,y]),
   λi H=>∃ xs ys,S.has K H xs/\T.has K H ys/\i=xs.length/\xs.length=ys.length⟩
theorem Zgv {P:Program} {w:World} {K:PySem.W.Frag} {elts:List Expr} {x1:Nat} {pos:Pos} (S T:ZS) (z TI TO i1 i2:Addr) (D:ZA z TI TO i1 i2 (i1 :: S.ad) (i2 :: T.ad)) (h1:i1 ∉ S.ad) (h2:i2 ∉ T.ad) :
  Turn P w K (.Tuple elts x1 pos) (Itz2 K S T) [z,TI,TO,i1,i2] z (λi h=>IsZip h z TI TO .none/\IsPair h TI (.ref i1) (.ref i2)/\(∃ u v,IsPair h TO u v)/\S.it i1 i h/\T.it i2 i h) where
 mem:=by simp
 obj:=λi h st c hc=>by
  obtain ⟨s1,s2,⟨u,v,s3⟩,s4,s5⟩:=st
  have hc:c=z\/c=TI\/c=TO\/c=i1\/c=i2:=by simpa using hc
  rcases hc with rfl | rfl | rfl | rfl | rfl
  ·exact ⟨_,s1,λv y=>by have y':Data.fields _=Data.cell v:=y; cases y'⟩
  ·exact ⟨_,s2,λv y=>by have y':Data.seq _ _=Data.cell v:=y; cases y'⟩
  ·exact ⟨_,s3,λv y=>by have y':Data.seq _ _=Data.cell v:=y; cases y'⟩
  ·exact ZS.it_obj s4
  ·exact ZS.it_obj s5
 keep:=λi h h' st k=>by
  obtain ⟨s1,s2,⟨u,v,s3⟩,s4,s5⟩:=st
  exact ⟨k z (by simp) _ s1,k TI (by simp) _ s2,⟨u,v,k TO (by simp) _ s3⟩,ZS.it_keep s4 λo e=>k i1 (by simp) o e,ZS.it_keep s5 λo e=>k i2 (by simp) o e⟩
 item:=by
  intro X hP hw hK hc i pins s σ H E I hf st hg
  subst hP hw hK
  obtain ⟨xs,ys,x,y,hqx,hqy,hx,hy⟩:=hg
  obtain ⟨s1,s2,⟨u0,v0,s3⟩,s4,s5⟩:=st
  have hh:X.A.in1.handled=none:=I.ok.hd hc
  obtain ⟨P1,St1,D1,t1,k1,r1⟩:=ZS.draws I hh hqx h1 s4
  obtain ⟨P2,St2,D2,t2,k2,r2⟩:=ZS.draws I hh hqy h2 s5
  refine Zgs D1 D2 D s1 s2 s3 t1 t2 (List.getElem?_eq_some_iff.mp hx).1 (List.getElem?_eq_some_iff.mp hy).1 λu v h' tk pu pv a1 a2 a3 a4 a5 a7=>?_
  have ru:=r1 i u x pu hx
  have rv:=r2 i v y pv hy
  refine ⟨.ref s.heap.objs.size,rfl,wpAny_letOwnedTupleGo_zip (s:={ s with heap:=h',toks:=tk }) a1 λh'' b1 sb=>?_⟩
  replace sb:Heap.SameBut z h' h'':=sb
  have lt:∀ c∈[z,TI,TO,i1,i2],c < s.heap.objs.size:=λc hc=>by
   have hc:c=z\/c=TI\/c=TO\/c=i1\/c=i2:=by simpa using hc
   rcases hc with rfl | rfl | rfl | rfl | rfl
   ·exact Heap.lt_size s1
   ·exact Heap.lt_size s2
   ·exact Heap.lt_size s3
   ·obtain ⟨o,e,_⟩:=ZS.it_obj s4; exact Heap.lt_size e
   ·obtain ⟨o,e,_⟩:=ZS.it_obj s5; exact Heap.lt_size e
  have keepb:∀ c o,c≠z->c≠TO->c≠i1->c≠i2->s.heap.get? c=some o->h''.get? c=some o:=λc o n1 n2 n3 n4 e=>(sb.2 c n1).trans (a7 c o n1 n2 n3 n4 e)
  have ht'':h''.get? s.heap.objs.size=some { cls:=.type "tuple",data:=.seq #[u,v] }:=(sb.2 _ (Nat.ne_of_gt (lt z (by simp)))).trans a5
  have hn:H s.heap.objs.size=none:=I.hok.fresh (Nat.le_refl _)
  have I2:Inv X pins σ (upd H s.heap.objs.size (.tup [x,y])) { s with heap:=h'',toks:=tk }:=by
   have out:∀ c,c ∉ [z,TO,i1,i2]->c≠z/\c≠TO/\c≠i1/\c≠i2:=λc hc=>by simpa using hc
   refine I.step (g':=s.gens) (d':=s.drawn) (ch:=[z,TO,i1,i2]) (λc hc=>?_) (λc o _ _ hc q _=>?_) (λc o _ _ hc q _=>⟨o.slots,?_⟩) (λc o _ q n=>by rw [Ze (Nat.ne_of_lt (Heap.lt_size q))]; exact n)
    (λc o hc q=>⟨o,?_⟩) (λc zs q=>by rw [Ze (Zj q hn)]; exact q) (λc o zs q=>by rw [Ze (Zj q hn)]; exact q) (λc ps q=>⟨#[],by rw [Ze (Zj q hn),q]; simp⟩) (λm hm=>?_) (λc v' q=>?_) I.bare
   ·have hc:c=z\/c=TO\/c=i1\/c=i2:=by simpa using hc
    have hm:c∈[z,TI,TO,i1,i2]:=by rcases hc with rfl | rfl | rfl | rfl <;> simp
    obtain ⟨f0,f1,f2,f3,f4,f5⟩:=hf c hm
    exact ⟨f3,f1,f4,f5⟩
   ·obtain ⟨n1,n2,n3,n4⟩:=out c hc; exact keepb c o n1 n2 n3 n4 q
   ·obtain ⟨n1,n2,n3,n4⟩:=out c hc; exact keepb c o n1 n2 n3 n4 q
   ·obtain ⟨n1,n2,n3,n4⟩:=out c hc; exact keepb c o n1 n2 n3 n4 q
   ·obtain ⟨o,es,ep,ho,r⟩:=hm
    exact ⟨o,es,ep,keepb _ o (Ne.symm (hf z (by simp)).2.1) (Ne.symm (hf TO (by simp)).2.1) (Ne.symm (hf i1 (by simp)).2.1) (Ne.symm (hf i2 (by simp)).2.1) ho,r⟩
   ·by_cases hb:c=s.heap.objs.size
    ·subst hb
     rw [Zc] at q
     cases q
     exact ⟨by show 2<=sizeLine; decide,[u,v],.cons ru (.cons rv .nil),⟨_,ht'',rfl,_,rfl⟩⟩
    ·rw [Ze hb] at q
     refine (I.hok c v' q).stay (λe w' he y'=>keepb e w' ?_ ?_ ?_ ?_ y') (λd y'=>by rw [Ze (Zj y' hn)]; exact y') λd zs y'=>by rw [Ze (Zj y' hn)]; exact y'
     all_goals
      rintro rfl
      have hz0:H e=none:=(hf e (by simp)).1
      rcases he with y' | y'
      ·rw [y',q] at hz0; cases hz0
      ·rw [hz0] at y'; cases y'
  refine ⟨.ref s.heap.objs.size,_,I2,rfl,⟨_,x,y,hn,rfl,λzs hz=>by rw [ZS.has_inj I hz hqx]; exact hx,λzs hz=>by rw [ZS.has_inj I hz hqy]; exact hy,rfl⟩,
   ⟨b1,(sb.2 TI D.TIz).trans (a7 TI _ D.TIz D.TITO D.TIi1 D.TIi2 s2),⟨u,v,(sb.2 TO D.TOz).trans a2⟩,ZS.it_keep (k1 _ _ a3) λo e=>(sb.2 i1 D.i1z).trans e,ZS.it_keep (k2 _ _ a4) λo e=>(sb.2 i2 D.i2z).trans e⟩,λc hc=>?_⟩
  rw [Ze (Nat.ne_of_lt (lt c hc))]
  exact (hf c hc).1
 done:=by
  intro X hP hw hK hc i pins s σ H E I hf st hg
  subst hP hw hK
  obtain ⟨xs,ys,hqx,hqy,e1,e2⟩:=hg
  obtain ⟨s1,s2,⟨u0,v0,s3⟩,s4,s5⟩:=st
  have hh:X.A.in1.handled=none:=I.ok.hd hc
  obtain ⟨P1,St1,D1,t1,k1,r1⟩:=ZS.draws I hh hqx h1 s4
  obtain ⟨P2,St2,D2,t2,k2,r2⟩:=ZS.draws I hh hqy h2 s5
  refine Zjd D1 D2 D s1 s2 s3 t1 t2 (.inl e1) λh' tk eb=>⟨rfl,?_⟩
  ·have out:∀ c,c ∉ [z,TO,i1,i2]->c≠z/\c≠TO/\c≠i1/\c≠i2:=λc hc=>by simpa using hc
   refine I.step (g':=s.gens) (d':=s.drawn) (t':=tk) (ch:=[z,TO,i1,i2]) (λc hc=>?_) (λc o _ _ hc q _=>?_) (λc o _ _ hc q _=>⟨o.slots,?_⟩) (λc o _ q n=>n)
    (λc o hc q=>⟨o,?_⟩) (λc zs q=>q) (λc o zs q=>q) (λc ps q=>⟨#[],by rw [q]; simp⟩) (λm hm=>?_) (λc v' q=>?_) I.bare
   ·have hc:c=z\/c=TO\/c=i1\/c=i2:=by simpa using hc
    have hm:c∈[z,TI,TO,i1,i2]:=by rcases hc with rfl | rfl | rfl | rfl <;> simp
    obtain ⟨f0,f1,f2,f3,f4,f5⟩:=hf c hm
    exact ⟨f3,f1,f4,f5⟩
   ·obtain ⟨n1,n2,n3,n4⟩:=out c hc; exact eb c o n1 n2 n3 n4 q
   ·obtain ⟨n1,n2,n3,n4⟩:=out c hc; exact eb c o n1 n2 n3 n4 q
   ·obtain ⟨n1,n2,n3,n4⟩:=out c hc; exact eb c o n1 n2 n3 n4 q
   ·obtain ⟨o,es,ep,ho,r⟩:=hm
    exact ⟨o,es,ep,eb _ o (Ne.symm (hf z (by simp)).2.1) (Ne.symm (hf TO (by simp)).2.1) (Ne.symm (hf i1 (by simp)).2.1) (Ne.symm (hf i2 (by simp)).2.1) ho,r⟩
   ·refine (I.hok c v' q).stay (λe w' he y'=>eb e w' ?_ ?_ ?_ ?_ y') (λd y'=>y') λd zs y'=>y'
    all_goals
     rintro rfl
     have hz0:H e=none:=(hf e (by simp)).1
     rcases he with y' | y'
     ·rw [y',q] at hz0; cases hz0
     ·rw [hz0] at y'; cases y'
 self:=λ_ _ _ _ _ st h=>wpAny_pyIter_zip st.1 h
section
variable {P:Program} {w:World}
noncomputable def Zdq (P:Program) (w:World) (v:Value) (o:Obj) (C:Heap->Prop):Prop:=(∀ h u,C h->C (h.push u))/\∀ (A:Around) (E:Value->Shared->Prop) (s:Shared) (Q:Value->Shared->Prop),C s.heap->Q (.ref s.heap.objs.size) { s with heap:=s.heap.push o }->wpAny (model P w) A (pyIter v) Q E s
theorem Zi9 {A:Around} {E:Value->Shared->Prop} {s:Shared} {v1 v2:Value} {o1 o2:Obj} {C1 C2:Heap->Prop} {Q:Value->Shared->Prop} (I1:Zdq P w v1 o1 C1) (I2:Zdq P w v2 o2 C2) (c1:C1 s.heap) (c2:C2 s.heap)
  (h:∀ h',IsZip h' (s.heap.objs.size + 4) (s.heap.objs.size + 2) (s.heap.objs.size + 3) .none->IsPair h' (s.heap.objs.size + 2) (.ref s.heap.objs.size) (.ref (s.heap.objs.size + 1)) ->
   IsPair h' (s.heap.objs.size + 3) .none .none->h'.get? s.heap.objs.size=some o1->h'.get? (s.heap.objs.size + 1)=some o2->(∀ c o,s.heap.get? c=some o->h'.get? c=some o)->Q (.ref (s.heap.objs.size + 4)) { s with heap:=h' }) (f1:o1.isFreed=false) (f2:o2.isFreed=false) :
  wpAny (model P w) A (call (.type "zip") [v1,v2]) Q E s:=by
 have M:MeetsIn P w (Builtin.«zip.__new__» ⟨[.type "zip",v1,v2],[]⟩) (λ_ R s=>C1 s.heap/\C2 s.heap/\R (.ok (.ret (.ref ((((s.heap.push o1).push o2).push { cls:=.type "tuple",data:=.seq #[.ref s.heap.objs.size,.ref (s.heap.push o1).objs.size] }).push { cls:=.type "tuple",data:=.seq #[.none,.none] }).objs.size)))
   { s with heap:=((((s.heap.push o1).push o2).push { cls:=.type "tuple",data:=.seq #[.ref s.heap.objs.size,.ref (s.heap.push o1).objs.size] }).push { cls:=.type "tuple",data:=.seq #[.none,.none] }).push { cls:=.type "zip",data:=.fields #[.none,.bool false,.bool false,.ref ((s.heap.push o1).push o2).objs.size,.ref (((s.heap.push o1).push o2).push { cls:=.type "tuple",data:=.seq #[.ref s.heap.objs.size,.ref (s.heap.push o1).objs.size] }).objs.size] } }):=by
  refine .of_wp λA R s h=>?_
  obtain ⟨hp,g,d,tk,os⟩:=s
  obtain ⟨q1,q2,h⟩:=h
  have hsub:=sub_zip
  have W1:∀ (A:Around) (E:Value->Shared->Prop) (Q:Value->Shared->Prop),Q (.ref hp.objs.size) ⟨hp.push o1,g,d,tk,os⟩->wpAny (model P w) A (pyIter v1) Q E ⟨hp,g,d,tk,os⟩:=λA E Q q=>I1.2 A E _ Q q1 q
  have W2:∀ (A:Around) (E:Value->Shared->Prop) (Q:Value->Shared->Prop),Q (.ref (hp.push o1).objs.size) ⟨(hp.push o1).push o2,g,d,tk,os⟩->wpAny (model P w) A (pyIter v2) Q E ⟨hp.push o1,g,d,tk,os⟩:=λA E Q q=>I2.2 A E _ Q (I2.1 _ _ q2) q
  wp_walk using W1 _ _ _,W2 _ _ _
  exact ⟨_,rfl,h⟩
 refine callType_newIn PySem.F.called_zip (by decide) (by kernel_rfl) (by kernel_rfl) (λobj=>PySem.F.args_object_init_3 obj _ _) PySem.F.entry_zip_new M ⟨c1,c2,?_⟩
 generalize hN:s.heap.objs.size=N at *
 have z1:(s.heap.push o1).objs.size=N + 1:=by rw [Heap.size_push,hN]
 have z2:((s.heap.push o1).push o2).objs.size=N + 2:=by rw [Heap.size_push,z1]
 generalize hT1:({ cls:=.type "tuple",data:=.seq #[.ref N,.ref (s.heap.push o1).objs.size] }:Obj)=T1
 have z3:(((s.heap.push o1).push o2).push T1).objs.size=N + 3:=by rw [Heap.size_push,z2]
 generalize hT2:({ cls:=.type "tuple",data:=.seq #[.none,.none] }:Obj)=T2
 have z4:((((s.heap.push o1).push o2).push T1).push T2).objs.size=N + 4:=by rw [Heap.size_push,z3]
 have e1:(s.heap.push o1).get? N=some o1:=by rw [<- hN]; exact Heap.get?_push_size _ f1
 have e2:((s.heap.push o1).push o2).get? (N + 1)=some o2:=by rw [<- z1]; exact Heap.get?_push_size _ f2
 have e3:(((s.heap.push o1).push o2).push T1).get? (N + 2)=some T1:=by rw [<- z2]; exact Heap.get?_push_size _ (by rw [<- hT1]; rfl)
 have e4:((((s.heap.push o1).push o2).push T1).push T2).get? (N + 3)=some T2:=by rw [<- z3]; exact Heap.get?_push_size _ (by rw [<- hT2]; rfl)
 rw [z4,z3,z2]
 generalize hZ:({ cls:=.type "zip",data:=.fields #[.none,.bool false,.bool false,.ref (N + 2),.ref (N + 3)] }:Obj)=Z
 have e5:(((((s.heap.push o1).push o2).push T1).push T2).push Z).get? (N + 4)=some Z:=by rw [<- z4]; exact Heap.get?_push_size _ (by rw [<- hZ]; rfl)
 refine ⟨⟨_,e5,by rw [<- hZ]⟩,h _ (e5.trans (by rw [<- hZ])) (by
  have:=Heap.get?_push_of_some Z (Heap.get?_push_of_some T2 e3)
  rw [<- hT1,z1] at this
  rw [<- hT1,z1]
  exact this) (by
  have:=Heap.get?_push_of_some Z e4
  rw [<- hT2] at this ⊢
  exact this) (Heap.get?_push_of_some _ (Heap.get?_push_of_some _ (Heap.get?_push_of_some _ (Heap.get?_push_of_some _ e1)))) (Heap.get?_push_of_some _ (Heap.get?_push_of_some _ (Heap.get?_push_of_some _ e2))) λc o x=>Heap.get?_push_of_some _ (Heap.get?_push_of_some _ (Heap.get?_push_of_some _ (Heap.get?_push_of_some _ (Heap.get?_push_of_some _ x))))⟩
end
section
variable {X:Cx} {pins:List (Addr × Obj)} {σ:List (Option V)} {H:Hp} {s:Shared}
theorem ZS.iter (I:Inv X pins σ H s) {S:ZS} {xs:List V} (h:S.has X.K H xs) {v:Value} (r:RelV S.v v):∃ (o:Obj) (C:Heap->Prop),Zdq X.prog X.w v o C/\C s.heap/\o.isFreed=false/\(∀ (h:Heap) (i:Addr),h.get? i=some o->S.it i 0 h)/\∀ a∈S.ad,a < s.heap.objs.size:=by
 cases S with
 | l a =>
  obtain ⟨its,rv,pl,_⟩:=I.list h
  cases r
  refine ⟨_,λh=>h.IsList a its.toArray,⟨λh u c=>c.push u,λA E s Q c q=>wpAny_pyIter_list c q⟩,pl.isList,rfl,λh i e=>⟨_,e,rfl,rfl⟩,λb hb=>?_⟩
  obtain ⟨o,ho,_⟩:=pl.isList
  rw [List.mem_singleton.mp hb]
  exact Heap.lt_size ho
 | t a =>
  obtain ⟨its,rv,pl,_⟩:=I.tuple h
  cases r
  refine ⟨_,λh=>IsTup h a its.toArray,⟨λh u c=>c.keeps λb o e=>Heap.get?_push_of_some _ e,λA E s Q c q=>iter_tuple c q⟩,pl,rfl,λh i e=>⟨_,e,rfl,rfl⟩,λb hb=>?_⟩
  rw [List.mem_singleton.mp hb]
  exact pl.lt
 | s x =>
  obtain ⟨ha,rfl⟩:=h
  obtain ⟨t,rfl⟩:=r
  exact ⟨_,λ_=>True,⟨λh u c=>trivial,λA E s Q c q=>wpAny_pyIter_ascii ha q⟩,trivial,rfl,λh i e=>⟨t,_,e,rfl,rfl⟩,λb hb=>absurd hb List.not_mem_nil⟩
theorem Znf {N:Nat} {f g:List Addr} (h1:∀ a∈f,a < N) (h2:∀ a∈g,a < N):ZA (N + 4) (N + 2) (N + 3) N (N + 1) (N :: f) ((N + 1) :: g):=by
 have nf:∀ k,N + k ∉ f:=λk z=>absurd (h1 _ z) (Nat.not_lt.mpr (Nat.le_add_right _ _))
 have ng:∀ k,N + k ∉ g:=λk z=>absurd (h2 _ z) (Nat.not_lt.mpr (Nat.le_add_right _ _))
 have e:∀ {i j:Nat},i≠j->N + i≠N + j:=λh z=>h (Nat.add_left_cancel z)
 have c1:∀ {k:Nat} {f:List Addr} {i:Addr},N + k≠i->N + k ∉ f->N + k ∉ i :: f:=λh1 h2 z=>by
  rcases List.mem_cons.mp z with q | q
  ·exact h1 q
  ·exact h2 q
 exact ⟨e (by decide),e (by decide),e (i:=0) (by decide),e (by decide),e (by decide),e (j:=0) (by decide),e (by decide),e (j:=0) (by decide),e (by decide),e (i:=0) (by decide),c1 (e (j:=0) (by decide)) (nf 4),c1 (e (by decide)) (ng 4),c1 (e (j:=0) (by decide)) (nf 3),c1 (e (by decide)) (ng 3),c1 (e (j:=0) (by decide)) (nf 1),c1 (k:=0) (e (by decide)) (ng 0)⟩
noncomputable def Zpq (K:PySem.W.Frag) (ta:TA):TI:=λσ H R=>ta σ H λvs H1=>∃ (S T:ZS) (xs ys:List V),vs=[S.v,T.v]/\S.has K H1 xs/\T.has K H1 ys/\R (Itz2 K S T) H1
theorem Zmg {elts:List Expr} {x1:Nat} {tpos p pos:Pos} {l m:Expr} {ta:TA} (hg:Gl X "zip") (hm:X.mg "zip"=none) (ha:PA X [l,m] ta) (hs:starEach [l,m] X.env=[(false,eval l X.env),(false,eval m X.env)]:=by rfl) (hs2:starEach [m] X.env=[(false,eval m X.env)]:=by rfl) :
  PI X (.Tuple elts x1 tpos) (.Call (.Name "zip" p) [l,m] [] pos) (Zpq X.K ta):=by
 intro pins s σ H R I h
 refine Call_ (Xu I hg hm boot_zip (PyProof.Rows.callWith_type1 (thn (ha pos pins s σ H _ I h) λus s1 ⟨vs,H1,I1,r1,q1⟩=>?_) (by rw [hs,hs2]) (by rw [hs2]; rfl)))
 obtain ⟨S,T,xs,ys,e,hqx,hqy,q⟩:=q1
 subst e
 obtain ⟨u,v,rfl,ru,rv⟩:=r1.two
 obtain ⟨o1,C1,i1,c1,f1,t1,l1⟩:=ZS.iter I1 hqx ru
 obtain ⟨o2,C2,i2,c2,f2,t2,l2⟩:=ZS.iter I1 hqy rv
 refine Zi9 i1 i2 c1 c2 (λh' z1 z2 z3 z4 z5 z7=>wpAny_pyIter_zip z1 ?_) f1 f2
 have I2:Inv X pins σ H1 { s1 with heap:=h' }:=I1.kept (t':=s1.toks) z7
 generalize hN:s1.heap.objs.size=N at *
 have n1:N ∉ S.ad:=λz=>Nat.lt_irrefl _ (l1 _ z)
 have n2:N + 1 ∉ T.ad:=λz=>absurd (l2 _ z) (Nat.not_lt.mpr (Nat.le_succ _))
 refine ⟨N + 4,[N + 4,N + 2,N + 3,N,N + 1],_,_,H1,rfl,I2,Zgv S T (N + 4) (N + 2) (N + 3) N (N + 1) (Znf l1 l2) n1 n2,⟨z1,z2,⟨_,_,z3⟩,t1 _ _ z4,t2 _ _ z5⟩,λc hc=>?_,q⟩
 have hc:s1.heap.objs.size<=c:=by
  have hc:c=N + 4\/c=N + 2\/c=N + 3\/c=N\/c=N + 1:=by simpa using hc
  rw [hN]
  rcases hc with rfl | rfl | rfl | rfl | rfl
  ·exact Nat.le_add_right _ _
  ·exact Nat.le_add_right _ _
  ·exact Nat.le_add_right _ _
  ·exact Nat.le_refl _
  ·exact Nat.le_add_right _ _
 exact I1.fpOk hc (I1.hok.fresh hc)
theorem Zkv {K:PySem.W.Frag} {S T:ZS} {xs ys:List V} {g:TG} {tb:TS} {D:Ends} {σ:St} {H:Hp} (hlen:xs.length=ys.length) (Pv:Nat->St->Hp->Prop) (h0:Pv 0 σ H) (hl:∀ i σ H,i<=xs.length->Pv i σ H->S.has K H xs/\T.has K H ys)
  (hs:∀ i x y σ H q,xs[i]?=some x->ys[i]?=some y->H q=none->Pv i σ H->g (.ref q) σ (upd H q (.tup [x,y])) λσ2 H2=>tb { D with nx:=Pv (i + 1),ct:=Pv (i + 1),bk:=D.nx } σ2 H2) (hd:∀ σ H,Pv xs.length σ H->D.nx σ H) :
  ∃ W:Nat->Nat->St->Hp->Prop,(∃ m,W 0 m σ H)/\∀ i m σ H,W i m σ H ->
   ((Itz2 K S T).stop i H/\D.nx σ H)\/((Itz2 K S T).go i H/\∃ N:St->Hp->Prop,(∀ σ' H',N σ' H'->∃ m',m' < m/\W (i + 1) m' σ' H')/\∀ x H',(Itz2 K S T).yld i H x H'->g x σ H' λσ2 H2=>tb { D with nx:=N,ct:=N,bk:=D.nx } σ2 H2):=by
 refine ⟨λi m σ H=>m=xs.length - i/\i<=xs.length/\Pv i σ H,⟨xs.length,by simp,Nat.zero_le _,h0⟩,?_⟩
 rintro i m σ H ⟨rfl,hi,p⟩
 obtain ⟨q1,q2⟩:=hl i σ H hi p
 by_cases hlt:i < xs.length
 ·have hlt2:i < ys.length:=by omega
  refine .inr ⟨⟨xs,ys,xs[i],ys[i],q1,q2,by simp [hlt],by simp [hlt2]⟩,Pv (i + 1),λσ' H' p'=>⟨xs.length - (i + 1),by omega,rfl,hlt,p'⟩,λx H' y=>?_⟩
  obtain ⟨c,u,v,hn,e1,y1,y2,e2⟩:=y
  subst e1 e2
  exact hs i u v σ H c (y1 xs q1) (y2 ys q2) hn p
 ·have e:i=xs.length:=by omega
  subst e
  exact .inl ⟨⟨xs,ys,q1,q2,rfl,hlen⟩,hd σ H p⟩
end
theorem Zke:typeLookup (.type "list_reverseiterator") "__len__"=pure none:=by
 rw [typeLookup_type]
 rw [builtinLookup_eq_fast]
 kernel_rfl
theorem Zm0:typeLookup (.type "list_reverseiterator") "__length_hint__"=pure (some (.builtin "list_reverseiterator.__length_hint__")):=by
 rw [typeLookup_type]
 rw [builtinLookup_eq_fast]
 kernel_rfl
section
variable {prog:Program} {w:World} {A:Around} {E:Value->Shared->Prop} {s:Shared}
theorem Zgp {I:Addr} {fp wr:List Addr} {G:Array GenState->Array GenState->Prop} {n:Nat} {P:Nat->Value->Prop} {St:Nat->Shared->Prop} {Q:List Value->Shared->Prop}
  (W:WalksS prog w A.in1 I fp wr G n P St) (hT:∀ i z,St i z->z.TypeIs (.ref I) "list_reverseiterator") (h0:St 0 s) (hlt:∀ b∈fp,b < s.heap.objs.size) (hI:I∈fp)
  (q:∀ z acc,Moved wr G s z->ItemsOf P acc n->Q acc.toList z) (hn:n<=sizeLine):wpAny (model prog w) A (collect (.ref I)) Q E s:=by
 have nf:s.heap.objs.size ∉ fp:=λz=>absurd (hlt _ z) (Nat.lt_irrefl _)
 have ni:s.heap.objs.size≠I:=λz=>nf (by rw [z]; exact hI)
 unfold collect
 refine wpAny_bind ?_
 refine wpAny_runValue ?_
 refine codeAny_builtin F.entry_proto_collect ?_
 rw [Around.under_plainId F.plain_proto_collect _]
 refine wpAny_bind (m:=newList []) ?_
 refine wpAny_newObj_type ?_
 refine wpAny_pure ?_
 refine ⟨plainId_quiet F.plain_list_iadd _,?_⟩
 refine codeAny_builtin F.entry_list_iadd ?_
 rw [Around.under_plainId F.plain_list_iadd _]
 have k:∀ b o,s.heap.get? b=some o->(s.heap.push { cls:=.type "list",data:=.seq ([]:List Value).toArray }).get? b=some o:=λb o e=>Heap.get?_push_of_some _ e
 have h1:=W.frame 0 s _ s.toks h0 (Nat.le_refl _) λb _ o e=>k b o e
 have hS:(s.heap.push { cls:=.type "list",data:=.seq ([]:List Value).toArray }).get? s.heap.objs.size=some { cls:=.type "list",data:=.seq ([]:List Value).toArray }:=Heap.get?_push_size _ rfl
 have ns:Builtin.List.listSameRef (.ref s.heap.objs.size) (.ref I)=false:=by
  unfold Builtin.List.listSameRef
  simp [ni]
 show wpAny _ A.in1 (Builtin.List.listExtendWith (.ref s.heap.objs.size) (.ref I) (.ref s.heap.objs.size)) _ _ _
 unfold Builtin.List.listExtendWith
 refine wpAny_bind ?_
 refine wpAny_typeOf (hT 0 _ h1) ?_
 rw [if_neg (by rw [ns]; decide)]
 refine wpAny_bind ?_
 refine W.self 0 _ _ _ h1 ?_
 refine wpAny_bind ?_
 refine wpAny_holding ?_
 unfold Builtin.List.listLengthHint
 refine wpAny_bind ?_
 refine wpAny_specialOf (hT 0 _ h1) Zke ?_
 refine wpAny_bind (m:=specialOf (.ref I) (Str.ofString "__length_hint__")) ?_
 refine wpAny_specialOf (hT 0 _ h1) Zm0 ?_
 generalize hid:("list_reverseiterator.__length_hint__":String)=nmId
 (fail_if_success (clear hid nmId))
 wp_delta
 rw [show splitId nmId=some ("list_reverseiterator","__length_hint__") by rw [<- hid]; decide +kernel]
 subst hid
 refine wpAny_bind ?_
 refine wpAny_isInstance (b:=true) (hT 0 _ h1) (by rw [isSubtype_type]; kernel_rfl) ?_
 refine wpAny_pure ?_
 rw [if_neg (by decide)]
 refine wpAny_pure ?_
 refine ⟨plainId_quiet F.plain_extend_loop _,?_⟩
 refine codeAny_extend_loopS W hn _ nf _ n 0 _ _ _ rfl (Nat.zero_le _) h1 hS (ItemsOf.nil P) λz acc c hm hz ha=>?_
 show wpAny _ A (load s.heap.objs.size >>= _) _ _ z
 refine wpAny_bind ?_
 refine wpAny_load hz ?_
 refine wpAny_pure ?_
 exact q z acc (Moved.drop_new (o:={ cls:=.type "list",data:=.seq ([]:List Value).toArray }) (tk:=s.toks) hm (Nat.le_refl _)) ha
theorem Zmw {I l:Addr} {its:List Value} {ys:List Str} {x:Str} {t:Tok} {Q:Value->Shared->Prop} (hh:A.handled=none) (hne:l≠I) (hit:s.heap.IsRevIter I l ((its.length:Int) - 1)) (hl:s.heap.IsList l its.toArray)
  (hi:StrsAre its ys) (hsep:x.length<=16) (hw:(ys.map (·.length)).sum + ys.length<=1048576)
  (q:∀ h' t' k,(∀ b o,b≠I->s.heap.get? b=some o->h'.get? b=some o)->Q (.str (Txt.join x ys.reverse) t') { s with heap:=h',toks:=k }):wpAny (model prog w) A (call (.builtin "str.join") [.str x t,.ref I]) Q E s:=by
 have W:=(Walks.listRev (prog:=prog) (w:=w) (A:=A.in1.in1) hh I l hne its.toArray).toS
 have hT:∀ i (z:Shared),(i<=its.toArray.size/\z.heap.IsRevIter I l ((its.toArray.size:Int) - 1 - (i:Int))/\z.heap.IsList l its.toArray)->z.TypeIs (.ref I) "list_reverseiterator":=λi z h=>h.2.1.typeIs
 have h0:0<=its.toArray.size/\s.heap.IsRevIter I l ((its.toArray.size:Int) - 1 - ((0:Nat):Int))/\s.heap.IsList l its.toArray:=⟨Nat.zero_le _,by simpa using hit,hl⟩
 have hly:its.length=ys.length:=hi.length
 refine wpAny_call ?_
 refine codeAny_call_builtin F.slot_str_join.plain F.entry_str_join ?_
 refine F.slot_str_join.check _ _ _ _ _ _ _ _ (typeIs_str _ _ _) (F.args_str_join_2 _ _) ?_
 rw [join_tree_other]
 refine wpAny_bind ?_
 refine wpAny_typeOf (hT 0 s h0) ?_
 show wpAny _ A.in1 ((pyIter (.ref I)).tryCatch _ >>= λit=>collect it >>= λzs=>joinTail x zs) _ _ s
 refine wpAny_bind ?_
 refine wpAny_tryCatch ?_
 refine W.of_in1.self 0 s _ _ h0 ?_
 refine wpAny_bind ?_
 have hlt:∀ b∈[I,l],b < s.heap.objs.size:=λb hb=>by
  rcases List.mem_cons.mp hb with z | z
  ·obtain ⟨o,e,_⟩:=hit.typeIs
   subst z
   exact Heap.lt_size e
  ·rw [List.mem_singleton.mp z]
   obtain ⟨o,e,_⟩:=hl
   exact Heap.lt_size e
 refine Zgp W hT h0 hlt List.mem_cons_self (λz acc hm ha=>?_) (by rw [List.size_toArray,sizeLine_eq]; omega)
 have ea:acc.toList=its.reverse:=by
  refine List.ext_getElem? λj=>?_
  have hz:acc.size=its.length:=ha.1.trans List.size_toArray
  by_cases c:j < its.length
  ·have hj:j < acc.size:=by omega
   have h2:=ha.2 j _ (Array.getElem?_eq_getElem hj)
   rw [Array.getElem?_toList,Array.getElem?_eq_getElem hj,List.getElem?_reverse c,<- h2]
   simp
  ·rw [List.getElem?_eq_none (by rw [Array.length_toList]; omega),List.getElem?_eq_none (by rw [List.length_reverse]; omega)]
 obtain ⟨ps,hps⟩:=exists_strValues its.reverse λv hv=>hi.all v (List.mem_reverse.mp hv)
 have ey:ps.map (·.1)=ys.reverse:=by
  rw [<- hi.strs,<- List.map_reverse,<- hps]
  unfold strValues
  rw [List.map_map]
  rfl
 rw [ea,<- hps]
 have ok:JoinOk x (ps.map (·.1))=true:=joinOk_of_weight (by rw [ey]; simpa using hw) hsep
 unfold JoinOk at ok
 rw [Bool.not_eq_true'] at ok
 have g:Gives (joinTail x (strValues ps)) (joinMade x ps):=by
  have g0:=gives_joinTail x ps ok
  rcases ps with _ | ⟨p,_ | ⟨p',r⟩⟩
  ·exact g0
  ·exact g0
  ·exact g0
 refine g prog w A (wants Q E) z (post_join ps ⟨joinFit_length ok,λt' k=>?_⟩)
 rw [ey]
 obtain ⟨zh,zg,zd,zt,zo⟩:=z
 obtain ⟨m1,m2,m3,m4,m5⟩:=hm
 have m2:zg=s.gens:=m2
 have m3:zd=s.drawn:=m3
 have m4:zo=s.os:=m4
 subst m2 m3 m4
 exact q zh t' k λb o hb e=>m1 b o (λz=>hb (List.mem_singleton.mp z)) e
end
section
variable {X:Cx}
noncomputable def Zjm (K:PySem.W.Frag) (to:TE) (ta:TA):TE:=λσ H Q=>to σ H λx H1=>∃ sep,x=.str sep/\ta σ H1 λvs H2=>∃ a ys,vs=[.ref a]/\SqL K H2 a (List.map V.str ys)/\sep.length<=16/\(ys.map (·.length)).sum + ys.length<=1048576/\Q (.str (Txt.join sep ys.reverse)) H2
theorem Zf4 {o l:Expr} {to:TE} {ta:TA} {p1 apos cpos pos1:Pos} (hg:Gl X "reversed") (hm:X.mg "reversed"=none) (hc:X.calm=true) (ho:PE X o to) (ha:PA X [l] ta)
  (hbase:attributeBase o "join" X.env (eval o X.env)=eval o X.env:=by rfl)
  (hfew:((backTo cpos (starEach [.Call (.Name "reversed" p1) [l] [] pos1] X.env)).all (λx=>!x.1) && (backToKw cpos (keywordEach [] X.env)).all (λx=>x.1.isSome)
   && decide ([Expr.Call (.Name "reversed" p1) [l] [] pos1].length + ([]:List Keyword).length + (if ([]:List Keyword).isEmpty then 0 else 1) < 30))=true:=by rfl)
  (hline:(apos.endLine == cpos.line)=true:=by rfl) (hs:starEach [.Call (.Name "reversed" p1) [l] [] pos1] X.env=[(false,eval (.Call (.Name "reversed" p1) [l] [] pos1) X.env)]:=by rfl) (hsl:starEach [l] X.env=[(false,eval l X.env)]:=by rfl) :
  PE X (.Call (.Attribute o "join" apos) [.Call (.Name "reversed" p1) [l] [] pos1] [] cpos) (Zjm X.K to ta):=by
 intro pins s σ H Q I h
 refine wpAny_Call_method_late hbase hfew hline rfl (thn (ho pins s σ H _ I h) λv s1 zz9=>?_)
 obtain ⟨x,H1,I1,r1,q1⟩:=zz9
 obtain ⟨sep,rfl,q1⟩:=q1
 obtain ⟨h1,h2⟩:=Zgu (T:="str") I1 r1 (by first | rfl | exact trivial)
 refine ⟨"str","str.join",PySem.F.plainAttrs_str,PySem.F.slot_str_join,PySem.F.type_str_join,h1,h2,?_⟩
 obtain ⟨t,rfl⟩:=r1
 rw [hs]
 refine Calls.callWith_builtin rfl (Calls.evalArgs_plain ?_)
 refine Calls.spliced_cons ?_
 refine Call_ (Xu I1 hg hm boot_reversed (PyProof.Rows.callWith_type1 (thn (ha pos1 pins s1 σ H1 _ I1 q1) λus s2 zz45=>?_) hsl rfl))
 obtain ⟨vs,H2,I2,r2,q2⟩:=zz45
 obtain ⟨a,ys,e,hq,w1,w2,q⟩:=q2
 subst e
 obtain ⟨u,rfl,ru⟩:=We r2
 cases ru
 obtain ⟨its,rv,pl,_⟩:=I2.list hq
 refine call_reversed_list pl.isList ?_
 refine Calls.spliced_nil ?_
 have I3:Inv X pins σ H2 { s2 with heap:=s2.heap.push (revObj a ((its.toArray.size:Int) - 1)) }:=I2.kept (t':=s2.toks) λb o e=>Heap.get?_push_of_some _ e
 have ne:a≠s2.heap.objs.size:=λz=>by
  obtain ⟨o,e,_⟩:=pl.isList
  exact Nat.ne_of_lt (Heap.lt_size e) z
 have hl3:(s2.heap.push (revObj a ((its.toArray.size:Int) - 1))).IsList a its.toArray:=pl.isList.at λo e=>Heap.get?_push_of_some _ e
 have hit:(s2.heap.push (revObj a ((its.toArray.size:Int) - 1))).IsRevIter s2.heap.objs.size a ((its.length:Int) - 1):=by
  rw [show ((its.length:Int) - 1)=((its.toArray.size:Int) - 1) by simp]
  exact ⟨_,Heap.get?_push_size _ rfl,rfl,rfl⟩
 refine Zmw (I2.ok.hd hc) ne hit hl3 (by simpa using Gc rv) w1 w2 λh' t' k hk=>?_
 refine ⟨.str _,H2,I2.kept (t':=k) λb o e=>hk b o (λz=>?_) (Heap.get?_push_of_some _ e),⟨_,rfl⟩,q⟩
 exact Nat.ne_of_lt (Heap.lt_size e) z
end
section
variable {X:Cx}
theorem Zoa:OpR X (compareOp .In) (λx y H Q=>∃ a b,x=.str a/\y=.str b/\Q (.bl (Txt.contains b a)) H):=by
 intro pins s σ H x y v u Q I rx ry h
 obtain ⟨a,b,rfl,rfl,q⟩:=h
 obtain ⟨t,rfl⟩:=rx
 obtain ⟨t',rfl⟩:=ry
 exact PySem.SB.contains ⟨.bl _,H,I,rfl,q⟩
theorem Zdn (K:PySem.W.Frag) (h:X.K=K:=by rfl):Xy X (.builtin "isinstance") (λxs H Q=>∃ x T t b,xs=[x,V.ty T]/\TyOf K H x t/\PySem.W.kitOne K t (.type T)=some b/\Q (V.bl b) H):=h ▸ Zei
end
section
variable {X:Cx}
noncomputable def Asc (x:Str):Prop:=∀ c∈x.cps.toList,c < 128
theorem Asc.of {x:Str} (h:x.cps.all (· < 128)=true):Asc x:=by
 rw [<- Array.all_toList,List.all_eq_true] at h
 exact λc hc=>of_decide_eq_true (h c hc)
theorem Asc.join {ys:List Str} (h:∀ y∈ys,Asc y):Asc (Txt.join (Str.ofString "") ys):=by
 intro c hc
 rw [Zdb] at hc
 obtain ⟨l,hl,hc⟩:=List.mem_flatten.mp hc
 obtain ⟨y,hy,rfl⟩:=List.mem_map.mp hl
 exact h y hy c hc
end
theorem Asc.num (i:Int):Asc (Str.ofString (toString i)):=λc hc=>by
 refine Decidable.byContradiction λh=>?_
 exact int_text_free' c ⟨by omega,by omega⟩ i hc
theorem Zdp {sep:Str} (hs:Asc sep):∀ (l:List Str) (a:Array Nat),(∀ c∈a.toList,c < 128)->(∀ y∈l,Asc y)->∀ c∈(l.foldl (λacc p=>acc ++ sep.cps ++ p.cps) a).toList,c < 128
 | [],a,ha,_,c,hc=>ha c hc
 | y :: l,a,ha,hl,c,hc=>by
  refine Zdp hs l (a ++ sep.cps ++ y.cps) (λd hd=>?_) (λz hz=>hl z (List.mem_cons_of_mem _ hz)) c hc
  rw [Array.toList_append,Array.toList_append] at hd
  rcases List.mem_append.mp hd with h | h
  ·rcases List.mem_append.mp h with h | h
   ·exact ha d h
   ·exact hs d h
  ·exact hl y List.mem_cons_self d h
theorem Asc.joinS {sep:Str} {ys:List Str} (hs:Asc sep) (h:∀ y∈ys,Asc y):Asc (Txt.join sep ys):=by
 unfold Txt.join Builtin.Str.glued
 cases ys with
 | nil=>intro c hc; have hc:c∈([]:List Nat):=hc; cases hc
 | cons y l=>exact Zdp hs l y.cps (h y List.mem_cons_self) λz hz=>h z (List.mem_cons_of_mem _ hz)
end L2
namespace KT
structure Mx where
 a:Nat
 b:Nat
 c:Nat
 d:Nat
namespace Mx
noncomputable def one:Mx:=⟨1,0,0,1⟩
noncomputable def tp (x:Mx):Mx:=⟨x.a,x.c,x.b,x.d⟩
noncomputable def tr (x:Mx):Nat:=x.a + x.d
noncomputable def dg (v:Nat × Nat):Mx:=⟨v.1,0,0,v.2⟩
noncomputable def tu (l:Bool):Mx:=if l then ⟨1,1,0,1⟩ else ⟨1,0,1,1⟩
noncomputable def stp (x:Mx) (q:(Nat × Nat) × Bool):Mx:=if q.2 then ⟨x.a * q.1.1,x.b * q.1.2 + x.a * q.1.1,x.c * q.1.1,x.d * q.1.2 + x.c * q.1.1⟩ else ⟨x.a * q.1.1 + x.b * q.1.2,x.b * q.1.2,x.c * q.1.1 + x.d * q.1.2,x.d * q.1.2⟩
noncomputable def tab (l:List ((Nat × Nat) × Bool)):Mx:=l.foldl stp one
noncomputable def wd:List ((Nat × Nat) × Bool)->List Mx
 | []=>[]
 | q :: l=>dg q.1 :: tu q.2 :: wd l
noncomputable def dt:List ((Nat × Nat) × Bool)->Nat
 | []=>1
 | q :: l=>q.1.1 * q.1.2 * dt l
theorem Zlv {x:Mx} {D:Nat} (q:(Nat × Nat) × Bool) (h:x.a * x.d=x.b * x.c + D):(stp x q).a * (stp x q).d=(stp x q).b * (stp x q).c + D * (q.1.1 * q.1.2):=by
 obtain ⟨v,l⟩:=q
 have h2:x.a * v.1 * (x.d * v.2)=x.b * v.2 * (x.c * v.1) + D * (v.1 * v.2):=by
  have e:x.a * v.1 * (x.d * v.2)=x.a * x.d * (v.1 * v.2):=by simp only [Nat.mul_comm,Nat.mul_left_comm]
  rw [e,h,Nat.add_mul]
  simp only [Nat.mul_comm,Nat.mul_left_comm]
 cases l
 ·show (x.a * v.1 + x.b * v.2) * (x.d * v.2)=x.b * v.2 * (x.c * v.1 + x.d * v.2) + D * (v.1 * v.2)
  rw [Nat.add_mul,Nat.mul_add,h2]
  omega
 ·show x.a * v.1 * (x.d * v.2 + x.c * v.1)=(x.b * v.2 + x.a * v.1) * (x.c * v.1) + D * (v.1 * v.2)
  rw [Nat.add_mul,Nat.mul_add,h2]
  omega
theorem Zdg:∀ (l:List ((Nat × Nat) × Bool)) (x:Mx) (D:Nat),x.a * x.d=x.b * x.c + D->(l.foldl stp x).a * (l.foldl stp x).d=(l.foldl stp x).b * (l.foldl stp x).c + D * dt l
 | [],x,D,h=>by show x.a * x.d=x.b * x.c + D * 1; rw [Nat.mul_one]; exact h
 | q :: l,x,D,h=>by
  rw [List.foldl_cons]
  have:=Zdg l (stp x q) _ (Zlv q h)
  rw [Nat.mul_assoc] at this
  exact this
theorem Zlo (l:List ((Nat × Nat) × Bool)):(tab l).a * (tab l).d=(tab l).b * (tab l).c + dt l:=by
 have:=Zdg l one 1 rfl
 rw [Nat.one_mul] at this
 exact this
theorem Zi3:∀ {l:List ((Nat × Nat) × Bool)},(∀ q∈l,1<=q.1.1/\1<=q.1.2)->1<=dt l
 | [],_=>Nat.le_refl _
 | q :: l,h=>Nat.mul_pos (Nat.mul_pos (h q List.mem_cons_self).1 (h q List.mem_cons_self).2) (Zi3 λp hp=>h p (List.mem_cons_of_mem _ hp))
theorem Zm3 (l:List ((Nat × Nat) × Bool)):4 * dt l<=tr (tab l) * tr (tab l):=by
 have h:=Zlo l
 have sq:∀ a d:Nat,4 * (a * d)<=(a + d) * (a + d):=λa d=>by
  rcases Nat.le_total a d with q | q
  ·obtain ⟨k,rfl⟩:=Nat.exists_eq_add_of_le q
   have:(a + (a + k)) * (a + (a + k))=4 * (a * (a + k)) + k * k:=by
    simp only [Nat.add_mul,Nat.mul_add,Nat.mul_comm k a]
    omega
   omega
  ·obtain ⟨k,rfl⟩:=Nat.exists_eq_add_of_le q
   have:((d + k) + d) * ((d + k) + d)=4 * ((d + k) * d) + k * k:=by
    simp only [Nat.add_mul,Nat.mul_add,Nat.mul_comm k d]
    omega
   omega
 have:=sq (tab l).a (tab l).d
 unfold tr
 omega
theorem Zny {x:Mx} {B k:Nat} (q:(Nat × Nat) × Bool) (h:x.a<=B/\x.b<=B/\x.c<=B/\x.d<=B) (h1:q.1.1<=k) (h2:q.1.2<=k):(stp x q).a<=B * (2 * k)/\(stp x q).b<=B * (2 * k)/\(stp x q).c<=B * (2 * k)/\(stp x q).d<=B * (2 * k):=by
 obtain ⟨v,l⟩:=q
 obtain ⟨a,b,c,d⟩:=h
 have e:B * (2 * k)=B * k + B * k:=by rw [Nat.two_mul,Nat.mul_add]
 have a1:=Nat.mul_le_mul a h1
 have b1:=Nat.mul_le_mul b h2
 have c1:=Nat.mul_le_mul c h1
 have d1:=Nat.mul_le_mul d h2
 dsimp only at a1 b1 c1 d1
 rw [e]
 cases l
 ·show x.a * v.1 + x.b * v.2<=_/\x.b * v.2<=_/\x.c * v.1 + x.d * v.2<=_/\x.d * v.2<=_
  omega
 ·show x.a * v.1<=_/\x.b * v.2 + x.a * v.1<=_/\x.c * v.1<=_/\x.d * v.2 + x.c * v.1<=_
  omega
theorem F1 {k:Nat}:∀ (l:List ((Nat × Nat) × Bool)) (x:Mx) (B:Nat),(∀ q∈l,q.1.1<=k/\q.1.2<=k)->(x.a<=B/\x.b<=B/\x.c<=B/\x.d<=B)->(l.foldl stp x).a<=B * (2 * k) ^ l.length/\(l.foldl stp x).b<=B * (2 * k) ^ l.length/\(l.foldl stp x).c<=B * (2 * k) ^ l.length/\(l.foldl stp x).d<=B * (2 * k) ^ l.length
 | [],x,B,_,h=>by simpa using h
 | q :: l,x,B,hq,h=>by
  rw [List.foldl_cons,List.length_cons,Nat.pow_succ',<- Nat.mul_assoc]
  exact F1 l _ _ (λp hp=>hq p (List.mem_cons_of_mem _ hp)) (Zny q h (hq q List.mem_cons_self).1 (hq q List.mem_cons_self).2)
end Mx
end KT
namespace KT
open PySem L2 Mx
noncomputable def loS (s:Nat × Nat) (f:Nat):Nat × Nat:=(s.1 / Nat.gcd s.1 f,s.2 * (f / Nat.gcd s.1 f))
theorem Zog {s:Nat × Nat} {f N D:Nat} (h:Val s N D) (hf:0 < f):Val (loS s f) N (D * f):=by
 have g0:0 < Nat.gcd s.1 f:=Nat.gcd_pos_of_pos_left _ h.p1
 obtain ⟨a,ha⟩:=Nat.gcd_dvd_left s.1 f
 obtain ⟨b,hb⟩:=Nat.gcd_dvd_right s.1 f
 have ea:s.1 / Nat.gcd s.1 f=a:=by rw [Nat.div_eq_iff_eq_mul_right g0 (Nat.gcd_dvd_left _ _)]; exact ha
 have eb:f / Nat.gcd s.1 f=b:=by rw [Nat.div_eq_iff_eq_mul_right g0 (Nat.gcd_dvd_right _ _)]; exact hb
 have co:Nat.gcd a b=1:=by rw [<- ea,<- eb,Nat.gcd_div (Nat.gcd_dvd_left _ _) (Nat.gcd_dvd_right _ _),Nat.div_self g0]
 have e:=h.eq
 have c0:=h.co
 unfold loS
 rw [ea,eb]
 generalize Nat.gcd s.1 f=m at *
 have p1:=h.p1
 have p2:=h.p2
 rw [ha] at p1 e c0
 rw [hb] at hf
 refine ⟨Nat.pos_of_mul_pos_left p1,Nat.mul_pos p2 (Nat.pos_of_mul_pos_left hf),?_,?_⟩
 ·exact Nat.Coprime.mul_right (Nat.Coprime.coprime_mul_left c0) co
 ·show a * (D * f)=s.2 * b * N
  rw [hb]
  calc a * (D * (m * b))=m * a * D * b:=by ac_rfl
   _=s.2 * b * N:=by rw [e]; ac_rfl
noncomputable def prd (fs:List Nat):Nat:=fs.foldl (· * ·) 1
theorem Kr {fs:List Nat} {i f:Nat} (h:fs[i]?=some f):prd (fs.take (i + 1))=prd (fs.take i) * f:=by
 unfold prd
 rw [List.take_add_one,h,List.foldl_append]
 rfl
theorem Zfb {fs:List Nat} {s:Nat × Nat} {i f:Nat} (h:fs[i]?=some f):(fs.take (i + 1)).foldl loS s=loS ((fs.take i).foldl loS s) f:=by
 rw [List.take_add_one,h,List.foldl_append]
 rfl
theorem Fz {fs:List Nat} {N:Nat} (hN:0 < N) (hf:∀ f∈fs,0 < f):∀ i,i<=fs.length->Val ((fs.take i).foldl loS (N,1)) N (prd (fs.take i))
 | 0,_=>⟨hN,Nat.one_pos,Nat.gcd_one_right _,by show N * 1=1 * N; omega⟩
 | i + 1,h=>by
  have e:=List.getElem?_eq_getElem (show i < fs.length by omega)
  rw [Zfb e,Kr e]
  exact Zog (Fz hN hf i (by omega)) (hf _ (List.getElem_mem _))
theorem Ft {fs:List Nat} (hf:∀ f∈fs,0 < f):∀ i,i<=fs.length->0 < prd (fs.take i)
 | 0,_=>Nat.one_pos
 | i + 1,h=>by
  rw [Kr (List.getElem?_eq_getElem (show i < fs.length by omega))]
  exact Nat.mul_pos (Ft hf i (by omega)) (hf _ (List.getElem_mem _))
theorem Zhm {fs:List Nat} {k:Nat} (hf:∀ f∈fs,f<=k):∀ i,i<=fs.length->prd (fs.take i)<=k ^ i
 | 0,_=>Nat.le_refl _
 | i + 1,h=>by
  rw [Kr (List.getElem?_eq_getElem (show i < fs.length by omega)),Nat.pow_succ]
  exact Nat.mul_le_mul (Zhm hf i (by omega)) (hf _ (List.getElem_mem _))
theorem Zpo {fs:List Nat} {N:Nat} (hN:0 < N) (hf:∀ f∈fs,0 < f):fs.foldl loS (N,1)=lowN N (prd fs):=by
 have h1:=Fz hN hf fs.length (Nat.le_refl _)
 have h2:=Ft hf fs.length (Nat.le_refl _)
 rw [List.take_length] at h1 h2
 exact h1.uniq (Fy hN h2) h2
theorem Val.le {v:Nat × Nat} {N D:Nat} (h:Val v N D) (hN:0 < N) (hD:0 < D):v.1<=N/\v.2<=D:=by
 rw [h.uniq (Fy hN hD) hD]
 exact Zfa N D
noncomputable def tuB (y:Str):Bool:=decide (y=sL)
noncomputable def tuL (M:List (Option Nat)) (ws:List Nat):List Bool:=(letL M ws).map tuB
noncomputable def crL (h:Int->Nat × Nat) (ns:List Int) (ws:List Nat):List (Nat × Nat):=ws.map λp=>h (ns.getD p 0)
noncomputable def wz (h:Int->Nat × Nat) (M:List (Option Nat)) (ns:List Int) (ws:List Nat):List ((Nat × Nat) × Bool):=(crL h ns ws).zip (tuL M ws)
noncomputable def wor (h:Int->Nat × Nat) (M:List (Option Nat)) (ns:List Int) (ws:List Nat):Nat × Nat:=lowN (tr (tab (wz h M ns ws)) * tr (tab (wz h M ns ws))) (dt (wz h M ns ws))
variable {M:List (Option Nat)} {ns:List Int} {ws:List Nat} {h:Int->Nat × Nat}
theorem Zfn:(crL h ns ws).length=ws.length:=by unfold crL; simp
theorem Zi2:∀ (vs:List (Nat × Nat)) (ts:List Bool),vs.length=ts.length->dt (vs.zip ts)=prd (vs.flatMap λv=>[v.1,v.2])
 | [],[],_=>rfl
 | v :: vs,t :: ts,e=>by
  have e':vs.length=ts.length:=by simpa using e
  rw [List.zip_cons_cons,List.flatMap_cons]
  show v.1 * v.2 * dt (vs.zip ts)=prd (v.1 :: v.2 :: vs.flatMap λv=>[v.1,v.2])
  rw [Zi2 vs ts e']
  unfold prd
  rw [List.foldl_cons,List.foldl_cons,Nat.one_mul]
  exact (prd_mul _ _).symm
where
 prd_mul:∀ (k:Nat) (fs:List Nat),fs.foldl (· * ·) k=k * fs.foldl (· * ·) 1
  | k,[]=>(Nat.mul_one k).symm
  | k,f :: fs=>by
   rw [List.foldl_cons,List.foldl_cons,prd_mul (k * f) fs,prd_mul (1 * f) fs,Nat.one_mul,Nat.mul_assoc]
theorem Znm {l:List ((Nat × Nat) × Bool)} (hl:∀ q∈l,1<=q.1.1/\1<=q.1.2):1<=tr (tab l):=by
 have h1:=Zm3 l
 have h2:=Zi3 hl
 rcases Nat.eq_zero_or_pos (tr (tab l)) with z | z
 ·rw [z] at h1; omega
 ·exact z
end KT
set_option genInjectivity false
set_option genSizeOf false
namespace KT
open PySem L2
noncomputable def bmV:List Value:=[.type "ValueError",.type "Exception",.type "BaseException",.type "object"]
theorem FBV:ExcBaseFacts "ValueError" "ValueError.__new__" "ValueError.__init__" bmV:=PySem.F.excBase_ValueError
theorem Yf {α:Type} {f:α->V} {l:List α} {i:Nat} {y:V} (h:(l.map f)[i]?=some y):∃ q,l[i]?=some q/\y=f q:=by
 rw [List.getElem?_map] at h
 cases e:l[i]? with
 | none=>rw [e] at h; cases h
 | some q=>rw [e] at h; cases h; exact ⟨q,rfl,rfl⟩
structure FT (K:PySem.W.Frag) (mg:Str->Option Value) (x:Str) (st:Stmt) (ps:List Str) (f:Addr) (d:FuncData):Prop where
 F:Fun K x x st f d
 b:Wa K d ps []
 g:mg x=some (.ref f)
structure FM (K:PySem.W.Frag) (C:Addr) (x q:Str) (st:Stmt) (ps:List Str) (f:Addr) (d:FuncData):Prop where
 F:Fun K x q st f d
 b:Wa K d ps []
 m:Meth K C x f
noncomputable def BA (q:Str) (st:Stmt) (ps:List Str):Prop:=∀ (x:Str) (kV doc pm:Value) (an:Option Addr) (cdv ct:Value) (us:List Value),us.length=ps.length->bindArgs (PySem.W.fnOf x q (Y9 st) (Y0 st) (Zg st) .none kV doc pm an cdv ct) ⟨us,[]⟩=pure (ps.zip us)
theorem Zfc {α:Type} {us:List α} (e:us.length=2):∃ a b,us=[a,b]:=by
 obtain ⟨a,us,rfl⟩:=List.exists_cons_of_length_eq_add_one e
 obtain ⟨b,rfl⟩:=List.length_eq_one_iff.mp (Nat.succ.inj e)
 exact ⟨a,b,rfl⟩
theorem Zan {α:Type} {us:List α} (e:us.length=3):∃ a b c,us=[a,b,c]:=by
 obtain ⟨a,us,rfl⟩:=List.exists_cons_of_length_eq_add_one e
 obtain ⟨b,c,rfl⟩:=Zfc (Nat.succ.inj e)
 exact ⟨a,b,c,rfl⟩
theorem ba1 {q:Str} {st:Stmt} {ps:List Str} (h:∀ (x:Str) (kV doc pm:Value) (an:Option Addr) (cdv ct:Value) (a:Value),bindArgs (PySem.W.fnOf x q (Y9 st) (Y0 st) (Zg st) .none kV doc pm an cdv ct) ⟨[a],[]⟩=pure (ps.zip [a])) (hl:ps.length=1):BA q st ps:=λx kV doc pm an cdv ct us e=>by
 rw [hl] at e
 obtain ⟨a,rfl⟩:=List.length_eq_one_iff.mp e
 exact h x kV doc pm an cdv ct a
theorem ba2 {q:Str} {st:Stmt} {ps:List Str} (h:∀ (x:Str) (kV doc pm:Value) (an:Option Addr) (cdv ct:Value) (a b:Value),bindArgs (PySem.W.fnOf x q (Y9 st) (Y0 st) (Zg st) .none kV doc pm an cdv ct) ⟨[a,b],[]⟩=pure (ps.zip [a,b])) (hl:ps.length=2):BA q st ps:=λx kV doc pm an cdv ct us e=>by
 rw [hl] at e
 obtain ⟨a,b,rfl⟩:=Zfc e
 exact h x kV doc pm an cdv ct a b
theorem ba3 {q:Str} {st:Stmt} {ps:List Str} (h:∀ (x:Str) (kV doc pm:Value) (an:Option Addr) (cdv ct:Value) (a b c:Value),bindArgs (PySem.W.fnOf x q (Y9 st) (Y0 st) (Zg st) .none kV doc pm an cdv ct) ⟨[a,b,c],[]⟩=pure (ps.zip [a,b,c])) (hl:ps.length=3):BA q st ps:=λx kV doc pm an cdv ct us e=>by
 rw [hl] at e
 obtain ⟨a,b,c,rfl⟩:=Zan e
 exact h x kV doc pm an cdv ct a b c
theorem ba4 {q:Str} {st:Stmt} {ps:List Str} (h:∀ (x:Str) (kV doc pm:Value) (an:Option Addr) (cdv ct:Value) (a b c d:Value),bindArgs (PySem.W.fnOf x q (Y9 st) (Y0 st) (Zg st) .none kV doc pm an cdv ct) ⟨[a,b,c,d],[]⟩=pure (ps.zip [a,b,c,d])) (hl:ps.length=4):BA q st ps:=λx kV doc pm an cdv ct us e=>by
 rw [hl] at e
 obtain ⟨a,us,rfl⟩:=List.exists_cons_of_length_eq_add_one e
 obtain ⟨b,c,d,rfl⟩:=Zan (Nat.succ.inj e)
 exact h x kV doc pm an cdv ct a b c d
theorem ba5 {q:Str} {st:Stmt} {ps:List Str} (h:∀ (x:Str) (kV doc pm:Value) (an:Option Addr) (cdv ct:Value) (a b c d e:Value),bindArgs (PySem.W.fnOf x q (Y9 st) (Y0 st) (Zg st) .none kV doc pm an cdv ct) ⟨[a,b,c,d,e],[]⟩=pure (ps.zip [a,b,c,d,e])) (hl:ps.length=5):BA q st ps:=λx kV doc pm an cdv ct us e=>by
 rw [hl] at e
 match us,e with
 | [a,b,c,d,e],_=>exact h x kV doc pm an cdv ct a b c d e
section
variable {K:PySem.W.Frag} {h:Heap} {mg:Str->Option Value} {C:Addr} {x q:Str} {st:Stmt} {ps:List Str} {f:Addr} {oc:Value} {od an:Option Addr} {sl:Array (Option Value)} {kV doc pm cd ct:Value}
theorem FT.of (X:K.In h) (G:h.Ns mainGlobals mg) (B:BA x st ps) (a:PySem.W.nsIn K mainGlobals x=some (some (.ref f))) (l:K.lookup f=some ⟨oc,od,.func (PySem.W.fnOf x x (Y9 st) (Y0 st) (Zg st) .none kV doc pm an cd ct),sl⟩)
  (c:PySem.W.codeIn K cd x=true) (k:PySem.W.keepIn K (.ref f)=true):FT K mg x st ps f (PySem.W.fnOf x x (Y9 st) (Y0 st) (Zg st) .none kV doc pm an cd ct):=⟨G8 l c k,(G8 l c k).binds (B x),PySem.W.mg_of X G a⟩
theorem FM.of (B:BA q st ps) (a:PySem.W.findIn K (.ref C) x=some (some (.ref f))) (i:PySem.W.isFn K (.ref f)=true) (l:K.lookup f=some ⟨oc,od,.func (PySem.W.fnOf x q (Y9 st) (Y0 st) (Zg st) .none kV doc pm an cd ct),sl⟩)
  (c:PySem.W.codeIn K cd q=true) (k:PySem.W.keepIn K (.ref f)=true):FM K C x q st ps f (PySem.W.fnOf x q (Y9 st) (Y0 st) (Zg st) .none kV doc pm an cd ct):=⟨G8 l c k,(G8 l c k).binds (B x),⟨a,i,k⟩⟩
end
noncomputable def top (i:Nat):Stmt:=PySem.Challenge.pw_tentloops_k21_no_thread.main.body.getD i (.Pass ⟨0,0,0,0⟩)
noncomputable abbrev Zev:Stmt:=top 20
noncomputable abbrev Zcj:Stmt:=top 21
noncomputable abbrev Gs:Stmt:=top 22
noncomputable abbrev Gm:Stmt:=top 23
noncomputable abbrev Go:Stmt:=top 24
noncomputable abbrev Kd:Stmt:=Y8 (top 25) 0
noncomputable abbrev Kb:Stmt:=Y8 (top 25) 1
noncomputable abbrev Zd3:Stmt:=Y8 (top 25) 2
noncomputable abbrev U3:Stmt:=Y8 (top 25) 3
noncomputable abbrev J9:Stmt:=Y8 (top 25) 4
noncomputable abbrev Qs:Stmt:=Y8 (top 25) 5
noncomputable abbrev J8:Stmt:=Y8 (top 25) 6
noncomputable abbrev Vo:Stmt:=Y8 (top 25) 7
noncomputable abbrev Ui:Stmt:=Y8 (top 25) 8
noncomputable abbrev Kc:Stmt:=Y8 (top 25) 9
noncomputable abbrev Vn:Stmt:=Y8 (top 25) 10
noncomputable abbrev Ka:Stmt:=top 27
noncomputable abbrev Zad:Stmt:=top 28
noncomputable abbrev Zer:Stmt:=top 29
noncomputable abbrev Uf:Stmt:=top 30
noncomputable abbrev Gu:Stmt:=top 31
noncomputable abbrev Zb6:Stmt:=top 32
noncomputable abbrev U2:Stmt:=top 33
noncomputable abbrev Zes:Stmt:=top 34
noncomputable abbrev Zeu:Stmt:=top 35
noncomputable abbrev Zep:Stmt:=top 36
noncomputable abbrev Zca:Stmt:=top 37
noncomputable abbrev F9:Stmt:=top 38
noncomputable abbrev Gp:Stmt:=top 41
noncomputable abbrev O8:Stmt:=top 42
noncomputable abbrev Zb7:Stmt:=top 43
noncomputable abbrev Zb8:Stmt:=top 44
noncomputable abbrev Zeq:Stmt:=top 47
noncomputable abbrev Zhj:Stmt:=top 48
noncomputable abbrev Jw:Stmt:=top 52
noncomputable abbrev Zb9:Stmt:=top 53
noncomputable abbrev Vl:Stmt:=top 54
noncomputable abbrev Qr:Stmt:=top 56
noncomputable abbrev Q9:Stmt:=top 57
noncomputable abbrev Gr:Stmt:=top 58
noncomputable abbrev U1:Stmt:=top 59
noncomputable abbrev Uh:Stmt:=top 60
noncomputable abbrev Q7:Stmt:=top 61
noncomputable abbrev Vm:Stmt:=top 64
noncomputable abbrev Ue:Stmt:=top 65
noncomputable abbrev Zeo:Stmt:=top 66
noncomputable abbrev F8:Stmt:=top 72
noncomputable abbrev Zac:Stmt:=top 73
noncomputable abbrev Zae:Stmt:=top 74
noncomputable abbrev Gn:Stmt:=top 75
noncomputable abbrev U4:Stmt:=Y8 (top 79) 0
noncomputable abbrev O7:Stmt:=top 80
noncomputable abbrev Q8:Stmt:=top 81
noncomputable abbrev Ug:Stmt:=top 82
noncomputable abbrev Ke:Stmt:=Y8 (top 85) 0
noncomputable abbrev U5:Stmt:=Y8 (top 85) 1
noncomputable abbrev Gv:Stmt:=Y8 (top 85) 2
noncomputable abbrev Zci:Stmt:=top 87
noncomputable abbrev O9:Stmt:=top 88
noncomputable abbrev Zce:Stmt:=top 89
noncomputable abbrev Zcg:Stmt:=top 90
noncomputable abbrev Zcd:Stmt:=top 91
noncomputable abbrev Zcb:Stmt:=top 92
noncomputable abbrev Gq:Stmt:=top 93
noncomputable abbrev Zaa:Stmt:=top 94
noncomputable abbrev Zch:Stmt:=top 95
noncomputable abbrev Zcf:Stmt:=top 96
noncomputable abbrev Zhi:Stmt:=top 97
noncomputable abbrev Zcc:Stmt:=top 98
noncomputable abbrev Zab:Stmt:=top 99
noncomputable abbrev Zet:Stmt:=top 100
noncomputable abbrev Zla:Stmt:=top 101
structure Adr where
 (C_Tent C_Scene C_Hall f_after f_before f_cloth_of f_spots_of f_mates_of f_Tent_init f_Tent_rows f_Tent_size f_Tent_seams f_Tent_all_places f_Tent_has_place f_Tent_look_place f_Tent_seam_at f_Tent_places f_Tent_mate f_Tent_sort_of f_crossable f_follows f_plain f_look_thread f_backward f_turned f_least_turn f_least f_alike f_times f_letter f_letters f_look_way f_look_free f_square f_shifts f_tally f_flow f_crossing_between f_pulled f_pulled_along f_common_measure f_look_fraction f_fraction f_sewn_seams f_even_worths f_lowest_worths f_diagonal_sum f_lowest_over f_worth f_made_of f_is_name f_figures f_row_text f_Scene_init f_with_item f_look_new_name f_look_length f_Hall_init f_Hall_enter f_Hall_lay f_l_cell f_l_numbers f_l_sewn f_l_rows f_l_tent f_l_walk f_l_thread f_l_plain f_l_free f_l_seam f_l_go f_l_told f_l_based f_l_row f_law g_CONTRARY_WAYS E_NoPlace E_NoSeam E_Rim E_Locked E_NoWay E_NoThread E_NoFraction E_NoWorths E_NoTent E_TooMany E_BadName E_Taken E_TentError:Addr)
 (d_after d_before d_cloth_of d_spots_of d_mates_of d_Tent_init d_Tent_rows d_Tent_size d_Tent_seams d_Tent_all_places d_Tent_has_place d_Tent_look_place d_Tent_seam_at d_Tent_places d_Tent_mate d_Tent_sort_of d_crossable d_follows d_plain d_look_thread d_backward d_turned d_least_turn d_least d_alike d_times d_letter d_letters d_look_way d_look_free d_square d_shifts d_tally d_flow d_crossing_between d_pulled d_pulled_along d_common_measure d_look_fraction d_fraction d_sewn_seams d_even_worths d_lowest_worths d_diagonal_sum d_lowest_over d_worth d_made_of d_is_name d_figures d_row_text d_Scene_init d_with_item d_look_new_name d_look_length d_Hall_init d_Hall_enter d_Hall_lay d_l_cell d_l_numbers d_l_sewn d_l_rows d_l_tent d_l_walk d_l_thread d_l_plain d_l_free d_l_seam d_l_go d_l_told d_l_based d_l_row d_law:FuncData)
 (k_GREATEST_NAME k_SMALL_LETTERS k_LONGEST_NAME k_PART k_WRITTEN_AT_ONCE k_MOST_PLACES:Tok)
structure Txt (w:World) (K:PySem.W.Frag) (mg:Str->Option Value) (t:Adr):Prop where
 gC_Tent:mg "Tent"=some (.ref t.C_Tent)
 cl_Tent:Cls K t.C_Tent
 a_Tent_cloths:Y5 K t.C_Tent "cloths"
 a_Tent_names_at:Y5 K t.C_Tent "names_at"
 a_Tent_spots:Y5 K t.C_Tent "spots"
 a_Tent_mates:Y5 K t.C_Tent "mates"
 gC_Scene:mg "Scene"=some (.ref t.C_Scene)
 cl_Scene:Cls K t.C_Scene
 a_Scene_tent:Y5 K t.C_Scene "tent"
 a_Scene_threads:Y5 K t.C_Scene "threads"
 a_Scene_pools:Y5 K t.C_Scene "pools"
 a_Scene_worths:Y5 K t.C_Scene "worths"
 gC_Hall:mg "Hall"=some (.ref t.C_Hall)
 cl_Hall:Cls K t.C_Hall
 a_Hall_began:Y5 K t.C_Hall "began"
 a_Hall_scene:Y5 K t.C_Hall "scene"
 a_Hall_standing:Y5 K t.C_Hall "standing"
 a_Hall_undone:Y5 K t.C_Hall "undone"
 p_after:FT K mg "after" Zev ["place"] t.f_after t.d_after
 p_before:FT K mg "before" Zcj ["place"] t.f_before t.d_before
 p_cloth_of:FT K mg "cloth_of" Gs ["place"] t.f_cloth_of t.d_cloth_of
 p_spots_of:FT K mg "spots_of" Gm ["names_at"] t.f_spots_of t.d_spots_of
 p_mates_of:FT K mg "mates_of" Go ["spots","count"] t.f_mates_of t.d_mates_of
 p_Tent_init:FM K t.C_Tent "__init__" "Tent.__init__" Kd ["self","rows"] t.f_Tent_init t.d_Tent_init
 p_Tent_rows:FM K t.C_Tent "rows" "Tent.rows" Kb ["self"] t.f_Tent_rows t.d_Tent_rows
 p_Tent_size:FM K t.C_Tent "size" "Tent.size" Zd3 ["self"] t.f_Tent_size t.d_Tent_size
 p_Tent_seams:FM K t.C_Tent "seams" "Tent.seams" U3 ["self"] t.f_Tent_seams t.d_Tent_seams
 p_Tent_all_places:FM K t.C_Tent "all_places" "Tent.all_places" J9 ["self"] t.f_Tent_all_places t.d_Tent_all_places
 p_Tent_has_place:FM K t.C_Tent "has_place" "Tent.has_place" Qs ["self","place"] t.f_Tent_has_place t.d_Tent_has_place
 p_Tent_look_place:FM K t.C_Tent "look_place" "Tent.look_place" J8 ["self","place"] t.f_Tent_look_place t.d_Tent_look_place
 p_Tent_seam_at:FM K t.C_Tent "seam_at" "Tent.seam_at" Vo ["self","place"] t.f_Tent_seam_at t.d_Tent_seam_at
 p_Tent_places:FM K t.C_Tent "places" "Tent.places" Ui ["self","seam"] t.f_Tent_places t.d_Tent_places
 p_Tent_mate:FM K t.C_Tent "mate" "Tent.mate" Kc ["self","place"] t.f_Tent_mate t.d_Tent_mate
 p_Tent_sort_of:FM K t.C_Tent "sort_of" "Tent.sort_of" Vn ["self","seam"] t.f_Tent_sort_of t.d_Tent_sort_of
 p_crossable:FT K mg "crossable" Ka ["tent","place"] t.f_crossable t.d_crossable
 p_follows:FT K mg "follows" Zad ["tent","ahead","place"] t.f_follows t.d_follows
 p_plain:FT K mg "plain" Zer ["tent","word"] t.f_plain t.d_plain
 p_look_thread:FT K mg "look_thread" Uf ["tent","word"] t.f_look_thread t.d_look_thread
 p_backward:FT K mg "backward" Gu ["tent","word"] t.f_backward t.d_backward
 p_turned:FT K mg "turned" Zb6 ["word","by"] t.f_turned t.d_turned
 p_least_turn:FT K mg "least_turn" U2 ["word"] t.f_least_turn t.d_least_turn
 p_least:FT K mg "least" Zes ["tent","word"] t.f_least t.d_least
 p_alike:FT K mg "alike" Zeu ["tent","one","other"] t.f_alike t.d_alike
 p_times:FT K mg "times" Zep ["tent","word"] t.f_times t.d_times
 p_letter:FT K mg "letter" Zca ["tent","ahead","place"] t.f_letter t.d_letter
 p_letters:FT K mg "letters" F9 ["tent","word"] t.f_letters t.d_letters
 p_look_way:FT K mg "look_way" Gp ["way"] t.f_look_way t.d_look_way
 p_look_free:FT K mg "look_free" O8 ["tent","seam"] t.f_look_free t.d_look_free
 p_square:FT K mg "square" Zb7 ["tent","seam"] t.f_square t.d_square
 p_shifts:FT K mg "shifts" Zb8 ["tent","seam","way"] t.f_shifts t.d_shifts
 p_tally:FT K mg "tally" Zeq ["tent","word"] t.f_tally t.d_tally
 p_flow:FT K mg "flow" Zhj ["tent","word"] t.f_flow t.d_flow
 p_crossing_between:FT K mg "crossing_between" Jw ["own","entry","leaving"] t.f_crossing_between t.d_crossing_between
 p_pulled:FT K mg "pulled" Zb9 ["tent","seam","way","word"] t.f_pulled t.d_pulled
 p_pulled_along:FT K mg "pulled_along" Vl ["tent","moves","word"] t.f_pulled_along t.d_pulled_along
 p_common_measure:FT K mg "common_measure" Qr ["one","other"] t.f_common_measure t.d_common_measure
 p_look_fraction:FT K mg "look_fraction" Q9 ["top","bottom"] t.f_look_fraction t.d_look_fraction
 p_fraction:FT K mg "fraction" Gr ["top","bottom"] t.f_fraction t.d_fraction
 p_sewn_seams:FT K mg "sewn_seams" U1 ["tent"] t.f_sewn_seams t.d_sewn_seams
 p_even_worths:FT K mg "even_worths" Uh ["tent"] t.f_even_worths t.d_even_worths
 p_lowest_worths:FT K mg "lowest_worths" Q7 ["tent","worths"] t.f_lowest_worths t.d_lowest_worths
 p_diagonal_sum:FT K mg "diagonal_sum" Vm ["crossed","turns"] t.f_diagonal_sum t.d_diagonal_sum
 p_lowest_over:FT K mg "lowest_over" Ue ["top","factors"] t.f_lowest_over t.d_lowest_over
 p_worth:FT K mg "worth" Zeo ["tent","worths","word"] t.f_worth t.d_worth
 p_made_of:FT K mg "made_of" F8 ["text","signs"] t.f_made_of t.d_made_of
 p_is_name:FT K mg "is_name" Zac ["text"] t.f_is_name t.d_is_name
 p_figures:FT K mg "figures" Zae ["number"] t.f_figures t.d_figures
 p_row_text:FT K mg "row_text" Gn ["words"] t.f_row_text t.d_row_text
 p_Scene_init:FM K t.C_Scene "__init__" "Scene.__init__" U4 ["self","tent","threads","pools","worths"] t.f_Scene_init t.d_Scene_init
 p_with_item:FT K mg "with_item" O7 ["table","name","value"] t.f_with_item t.d_with_item
 p_look_new_name:FT K mg "look_new_name" Q8 ["scene","name"] t.f_look_new_name t.d_look_new_name
 p_look_length:FT K mg "look_length" Ug ["word"] t.f_look_length t.d_look_length
 p_Hall_init:FM K t.C_Hall "__init__" "Hall.__init__" Ke ["self","rows"] t.f_Hall_init t.d_Hall_init
 p_Hall_enter:FM K t.C_Hall "enter" "Hall.enter" U5 ["self","text","scene"] t.f_Hall_enter t.d_Hall_enter
 p_Hall_lay:FM K t.C_Hall "lay" "Hall.lay" Gv ["self","name","word"] t.f_Hall_lay t.d_Hall_lay
 p_l_cell:FT K mg "_law_cell" Zci ["_law_script","_law_at"] t.f_l_cell t.d_l_cell
 p_l_numbers:FT K mg "_law_numbers" O9 ["_law_cell_here","_law_many"] t.f_l_numbers t.d_l_numbers
 p_l_sewn:FT K mg "_law_sewn" Zce ["_law_nums","_law_many","_law_share"] t.f_l_sewn t.d_l_sewn
 p_l_rows:FT K mg "_law_rows" Zcg ["_law_mates","_law_start","_law_step"] t.f_l_rows t.d_l_rows
 p_l_tent:FT K mg "_law_tent" Zcd ["_law_script"] t.f_l_tent t.d_l_tent
 p_l_walk:FT K mg "_law_walk" Zcb ["_law_mates","_law_nums"] t.f_l_walk t.d_l_walk
 p_l_thread:FT K mg "_law_thread" Gq ["_law_script","_law_at","_law_mates"] t.f_l_thread t.d_l_thread
 p_l_plain:FT K mg "_law_plain" Zaa ["_law_mates","_law_word"] t.f_l_plain t.d_l_plain
 p_l_free:FT K mg "_law_free" Zch ["_law_mates"] t.f_l_free t.d_l_free
 p_l_seam:FT K mg "_law_seam" Zcf ["_law_rows_here","_law_place"] t.f_l_seam t.d_l_seam
 p_l_go:FT K mg "_law_go" Zhi ["_law_door","_law_tent_here","_law_row_here","_law_good","_law_seam_here","_law_worths"] t.f_l_go t.d_l_go
 p_l_told:FT K mg "_law_told" Zcc ["_law_door","_law_tent_here","_law_row_here","_law_good","_law_seam_here","_law_worths"] t.f_l_told t.d_l_told
 p_l_based:FT K mg "_law_based" Zab ["_law_tent_here","_law_row_here"] t.f_l_based t.d_l_based
 p_l_row:FT K mg "_law_row" Zet ["_law_script","_law_mates","_law_word"] t.f_l_row t.d_l_row
 p_law:FT K mg "law" Zla ["_law_script"] t.f_law t.d_law
 mk_Tent:Mk K t.C_Tent t.f_Tent_init
 mk_Scene:Mk K t.C_Scene t.f_Scene_init
 mk_Hall:Mk K t.C_Hall t.f_Hall_init
 c_GREATEST_NAME:mg "GREATEST_NAME"=some (.int 9999 t.k_GREATEST_NAME)
 c_SMALL_LETTERS:mg "SMALL_LETTERS"=some (.str (Str.ofString "abcdefghijklmnopqrstuvwxyz") t.k_SMALL_LETTERS)
 c_LONGEST_NAME:mg "LONGEST_NAME"=some (.int 8 t.k_LONGEST_NAME)
 c_PART:mg "PART"=some (.int 1000000000000000000000000000000000000000000000000000000000000 t.k_PART)
 c_WRITTEN_AT_ONCE:mg "WRITTEN_AT_ONCE"=some (.int 60 t.k_WRITTEN_AT_ONCE)
 c_MOST_PLACES:mg "MOST_PLACES"=some (.int 400 t.k_MOST_PLACES)
 gd_CONTRARY_WAYS:mg "CONTRARY_WAYS"=some (.ref t.g_CONTRARY_WAYS)
 kd_CONTRARY_WAYS:Fh w K t.g_CONTRARY_WAYS [(Sum.inr "left",.str "right"),(Sum.inr "right",.str "left")]
 bl:∀ (s:Shared) (u:Value),BindsTo s t.d_law ⟨[u],[]⟩ [("_law_script",u)]
 n_ValueError:mg "ValueError"=none
 n_all:mg "all"=none
 n_dict:mg "dict"=none
 n_enumerate:mg "enumerate"=none
 n_isinstance:mg "isinstance"=none
 n_len:mg "len"=none
 n_list:mg "list"=none
 n_min:mg "min"=none
 n_range:mg "range"=none
 n_reversed:mg "reversed"=none
 n_sorted:mg "sorted"=none
 n_str:mg "str"=none
 n_tuple:mg "tuple"=none
 n_zip:mg "zip"=none
 gx_NoPlace:mg "NoPlace"=some (.ref t.E_NoPlace)
 x_NoPlace:ExcK K t.E_NoPlace bmV "ValueError.__new__"
 gx_NoSeam:mg "NoSeam"=some (.ref t.E_NoSeam)
 x_NoSeam:ExcK K t.E_NoSeam bmV "ValueError.__new__"
 gx_Rim:mg "Rim"=some (.ref t.E_Rim)
 x_Rim:ExcK K t.E_Rim bmV "ValueError.__new__"
 gx_Locked:mg "Locked"=some (.ref t.E_Locked)
 x_Locked:ExcK K t.E_Locked bmV "ValueError.__new__"
 gx_NoWay:mg "NoWay"=some (.ref t.E_NoWay)
 x_NoWay:ExcK K t.E_NoWay bmV "ValueError.__new__"
 gx_NoThread:mg "NoThread"=some (.ref t.E_NoThread)
 x_NoThread:ExcK K t.E_NoThread bmV "ValueError.__new__"
 gx_NoFraction:mg "NoFraction"=some (.ref t.E_NoFraction)
 x_NoFraction:ExcK K t.E_NoFraction bmV "ValueError.__new__"
 gx_NoWorths:mg "NoWorths"=some (.ref t.E_NoWorths)
 x_NoWorths:ExcK K t.E_NoWorths bmV "ValueError.__new__"
 gx_NoTent:mg "NoTent"=some (.ref t.E_NoTent)
 x_NoTent:ExcK K t.E_NoTent bmV "ValueError.__new__"
 gx_TooMany:mg "TooMany"=some (.ref t.E_TooMany)
 x_TooMany:ExcK K t.E_TooMany bmV "ValueError.__new__"
 gx_BadName:mg "BadName"=some (.ref t.E_BadName)
 x_BadName:ExcK K t.E_BadName bmV "ValueError.__new__"
 gx_Taken:mg "Taken"=some (.ref t.E_Taken)
 x_Taken:ExcK K t.E_Taken bmV "ValueError.__new__"
 gx_TentError:mg "TentError"=some (.ref t.E_TentError)
 kv_NoThread:PySem.W.kitOne K (.ref t.E_NoThread) (.type "ValueError")=some true
 yx_NoThread_NoThread:PySem.W.exmOne K (.ref t.E_NoThread) (.ref t.E_NoThread)=some true
 yx_NoThread_TentError:PySem.W.exmOne K (.ref t.E_NoThread) (.ref t.E_TentError)=some true
theorem Same.add {H H1:Hp} {p:Addr} {o:HO} (s:Same H H1) (hp:H p=none):Same H (upd H1 p o):=λb u e=>by rw [Ze (Zj e hp)]; exact s b u e
theorem Same.new {H:Hp} {p:Addr} {o:HO} (hp:H p=none):Same H (upd H p o):=Same.add (Same.refl H) hp
theorem Zz {t u:TS} {D:Ends} {σ:St} {H:Hp} (Post:St->Hp->Prop) (ht:∀ nx:St->Hp->Prop,(∀ σ H,Post σ H->nx σ H)->t { D with nx:=nx } σ H) (hu:∀ σ H,Post σ H->u D σ H):tSeq t u D σ H:=ht (u D) hu
theorem Z4 {t u:TS} {D:Ends} {σ:St} {H:Hp} (ht:∀ nx:St->Hp->Prop,(∀ σ H,u D σ H->nx σ H)->t { D with nx:=nx } σ H):tSeq t u D σ H:=ht (u D) λ_ _ h=>h
theorem Zc6 (xs:List Int) (y:Int):xs.map V.int ++ [V.int y]=(xs ++ [y]).map V.int:=by simp
theorem getI {ns:List Int} {n:Nat} (h:n < ns.length):(ns.map V.int)[n]?=some (V.int (ns.getD n 0)):=by
 rw [List.getElem?_map,List.getElem?_eq_getElem h,List.getD_eq_getElem?_getD,List.getElem?_eq_getElem h]
 rfl
noncomputable def cell (ns:List Int) (n:Int):Int:=if n < ns.length then ns.getD n.toNat 0 else if ns.length=0 then 31 * n + 7 else ns.getD (n % ns.length).toNat 0 % 1000003 + 101 * n
noncomputable def Zl5 (K:PySem.W.Frag):Sp:=λvs H Q _=>∃ (a:Addr) (ns:List Int) (n:Int),vs=[.ref a,.int n]/\SqL K H a (ns.map V.int)/\ns.length<=63/\0<=n/\n < 1000000/\Q (.int (cell ns n)) H
noncomputable def Zfu:Sp:=λvs H Q _=>∃ (c:Int) (n:Nat),vs=[.int c,.int n]/\n<=60/\∀ (p:Addr) (xs:List Int) (H':Hp),Same H H'->H p=none->H' p=some (.lst (xs.map V.int))->xs.length=n->(∀ x∈xs,0<=x/\x < 1009)->Q (.ref p) H'
section
variable {P:Program} {w:World} {K:PySem.W.Frag} {mg:Str->Option Value} {base:Heap} {t:Adr}
theorem Zhg:FnScope ["_law_script","_law_at"] ["_law_script","_law_at"] (Zg Zci):=⟨rfl,rfl,rfl,by decide +kernel,rfl,by decide +kernel,by decide +kernel⟩
theorem X5 (T:Txt w K mg t):FnOk P w K mg base (CXr P w) 1 t.f_l_cell t.d_l_cell ["_law_script","_law_at"] (Zl5 K):=by
 refine T.p_l_cell.F.okR Zhg (λvs H Q E h=>?_) (λcdv A outer s H vs Q E hr h=>?_)
 ·obtain ⟨a,ns,n,rfl,_⟩:=h
  rfl
 ·obtain ⟨a,ns,n,rfl,hS,hl,h0,h1,k⟩:=h
  refine ⟨_,(Zf (Yj (Zk Wi (pv 1) (Zt Zl (by rfl) T.n_len PySem.boot_len (Za (pv 0) Zb)) (Zn _)) (Zh (Zr (Z9 Z8 (pv 0) (pv 1) (λ_ _=>rfl)))) Z7)
   (Zf (Yj (Zk Ye (Zt Zl (by rfl) T.n_len PySem.boot_len (Za (pv 0) Zb)) Zd (Zn _)) (Zh (Zr (Zi Yn (Zi Wl Zd (pv 1)) Zd))) Z7)
   (Zh (Zr (Zi Yn (Zi Z6 (Z9 Z8 (pv 0) (Zi Z6 (pv 1) (Zt Zl (by rfl) T.n_len PySem.boot_len (Za (pv 0) Zb))) (λ_ _=>rfl)) Zd) (Zi Wl Zd (pv 1))))))),?_⟩
  have el:((ns.map V.int).length:Int)=ns.length:=by simp
  refine ⟨_,rfl,_,rfl,a,_,rfl,.inl hS,_,_,rfl,rfl,_,rfl,?_⟩
  rw [el]
  refine ite2 (λh=>?_) (λh=>?_)
  ·have h:n < ns.length:=by simpa using h
   have e:cell ns n=ns.getD n.toNat 0:=if_pos h
   have en:n=(n.toNat:Int):=by omega
   have ei:atI (ns.map V.int) n=some (V.int (ns.getD n.toNat 0)):=by rw [en]; exact X2 (getI (n:=n.toNat) (by omega))
   rw [e] at k
   exact ⟨_,rfl,_,rfl,a,_,_,_,rfl,rfl,hS,ei,k⟩
  ·have h:¬ n < ns.length:=by simpa using h
   have e:cell ns n=if ns.length=0 then 31 * n + 7 else ns.getD (n % ns.length).toNat 0 % 1000003 + 101 * n:=if_neg h
   refine ⟨_,rfl,a,_,rfl,.inl hS,rfl,_,rfl,?_⟩
   rw [el]
   refine ite2 (λg=>?_) (λg=>?_)
   ·have g:ns.length=0:=by simpa using g
    refine ⟨_,rfl,_,_,rfl,rfl,.inl ⟨by decide,by decide⟩,_,_,rfl,rfl,?_⟩
    rw [if_pos g] at e
    rw [e] at k; exact k
   ·have g:¬ ns.length=0:=by simpa using g
    have gp:(0:Int) < ns.length:=by omega
    rw [if_neg g] at e
    have m0:=Int.emod_nonneg n (show (ns.length:Int)≠0 by omega)
    have m1:=Int.emod_lt_of_pos n gp
    refine ⟨_,rfl,_,rfl,_,rfl,a,_,rfl,.inl hS,_,_,rfl,rfl,(by rw [el]; exact gp),a,_,_,_,rfl,rfl,hS,(?_:atI _ _=some (V.int (ns.getD (n % ns.length).toNat 0))),_,_,rfl,rfl,(by show (0:Int) < 1000003; decide),_,rfl,_,_,rfl,rfl,.inl ⟨by decide,by decide⟩,_,_,rfl,rfl,?_⟩
    ·rw [el]
     have en:n % (ns.length:Int)=((n % (ns.length:Int)).toNat:Int):=by omega
     rw [en]
     exact X2 (getI (by omega))
    ·rw [e] at k; exact k
theorem X0:FnScope ["_law_cell_here","_law_many","_law_row_here","_law_rest","_law_seed"] ["_law_cell_here","_law_many"] (Zg O9):=⟨rfl,rfl,rfl,by decide +kernel,rfl,by decide +kernel,by decide +kernel⟩
theorem Q0 (T:Txt w K mg t):FnOk P w K mg base (CXr P w) 1 t.f_l_numbers t.d_l_numbers ["_law_cell_here","_law_many"] Zfu:=by
 refine T.p_l_numbers.F.okR X0 (λvs H Q E h=>?_) (λcdv A outer s H vs Q E hr h=>?_)
 ·obtain ⟨c,n,rfl,_⟩:=h
  rfl
 ·obtain ⟨c,n,rfl,hn60,k⟩:=h
  refine ⟨_,(Zf (Zu (i:=2) X0.nd rfl (Or.inl rfl) (Xd Zb))
   (Zf (Zu (i:=3) X0.nd rfl (Or.inl rfl) (Zi J1 (pv 0) (Zi Zn8 Zd Zd)))
   (Zf (Jf PassesOwn.never (PW.pt (Jx (Zk Ou (pv 3) Zd (Zn _)) (Wz (Zk Wi (Zt Zl (by rfl) T.n_len PySem.boot_len (Za (pv 2) Zb)) (pv 1) (Zn _))))) (Zf (Xn (Xx PySem.F.plainAttrs_list PySem.F.slot_list_append PySem.F.type_list_append Xl (pv 2) (Za (Zi Z6 (pv 3) Zd) Zb)))
   (Zh (Zu (i:=3) X0.nd rfl (Or.inl rfl) (Zi Ym (pv 3) Zd)))))
   (Zf (Zu (i:=4) X0.nd rfl (Or.inl rfl) (Zi Z6 (pv 0) Zd))
   (Zf (Jf PassesOwn.never (Zk Wi (Zt Zl (by rfl) T.n_len PySem.boot_len (Za (pv 2) Zb)) (pv 1) (Zn _)) (Zf (Zu (i:=4) X0.nd rfl (Or.inl rfl) (Zi Z6 (Zi Yn (Zi Yn (Zi Wl (pv 4) Zd) Zd) (Zt Zl (by rfl) T.n_len PySem.boot_len (Za (pv 2) Zb))) Zd))
   (Zh (Xn (Xx PySem.F.plainAttrs_list PySem.F.slot_list_append PySem.F.type_list_append Xl (pv 2) (Za (Zi Z6 (Zi Ym (Zi Z6 (Zi Wl (pv 4) Zd) Zd) Zd) Zd) Zb))))))
   (Zh (Zr (pv 2)))))))),?_⟩
  refine ⟨Nat.zero_le _,λr hr0=>?_⟩
  refine ⟨_,rfl,_,_,rfl,rfl,⟨by decide,by decide,by decide⟩,_,_,rfl,rfl,?_⟩
  show tSeq (Us _ _) _ _ _ _
  refine Zz (λσ H1=>∃ (xs:List Int) (rest:Int),σ=[some (.int c),some (.int n),some (.ref r),some (.int rest),none]/\Same H H1/\H1 r=some (.lst (xs.map V.int))/\xs.length<=n/\(∀ x∈xs,0<=x/\x < 1009)) (λnx hnx=>?_) ?_
  ·refine ⟨λm σ H1=>∃ (xs:List Int) (rest:Int),m=n - xs.length/\σ=[some (.int c),some (.int n),some (.ref r),some (.int rest),none]/\Same H H1/\H1 r=some (.lst (xs.map V.int))/\xs.length<=n/\(∀ x∈xs,0<=x/\x < 1009),
    ⟨n,[],_,rfl,rfl,Same.new hr0,Zc,Nat.zero_le _,λx hx=>absurd hx (by simp)⟩,?_⟩
   rintro m σ H1 ⟨xs,rest,rfl,rfl,sm,h1,hl,hx⟩
   have el:((xs.map V.int).length:Int)=xs.length:=by simp
   refine ⟨_,rfl,_,_,rfl,rfl,_,rfl,?_⟩
   refine ite2 (λ_=>?_) (λ_=>?_)
   ·refine ⟨_,rfl,r,_,rfl,.inl (SqL.of h1),_,rfl,_,_,rfl,rfl,_,rfl,?_⟩
    rw [el]
    refine ite2 (λg=>?_) (λ_=>?_)
    ·have g:(xs.length:Int) < n:=by simpa using g
     refine ⟨_,λσ' H' h=>h,?_⟩
     refine ⟨_,rfl,.inl ⟨rfl,_,SqL.of h1⟩,_,rfl,_,_,rfl,rfl,(by show (0:Int) < 1009; decide),r,_,_,rfl,rfl,h1,(by rw [List.length_map]; exact Zx (by omega)),?_⟩
     refine ⟨_,rfl,_,_,rfl,rfl,⟨by decide,by decide⟩,?_⟩
     refine ⟨n - (xs ++ [rest % 1009]).length,?_,xs ++ [rest % 1009],_,rfl,rfl,Same.add sm hr0,?_,?_,?_⟩
     ·rw [List.length_append,List.length_singleton]; omega
     ·rw [Zc,<- Zc6]
     ·rw [List.length_append,List.length_singleton]; omega
     ·intro x hm
      rcases List.mem_append.mp hm with z | z
      ·exact hx x z
      ·have:x=rest % 1009:=by simpa using z
       subst this
       omega
    ·exact hnx _ _ ⟨xs,rest,rfl,sm,h1,hl,hx⟩
   ·exact hnx _ _ ⟨xs,rest,rfl,sm,h1,hl,hx⟩
  rintro σ H1 ⟨xs,rest,rfl,sm,h1,hl,hx⟩
  refine ⟨_,rfl,_,_,rfl,rfl,(by show (0:Int) < 2147483629; decide),?_⟩
  show tSeq (Us _ _) _ _ _ _
  refine Zz (λσ H1=>∃ (xs:List Int) (rest seed:Int),σ=[some (.int c),some (.int n),some (.ref r),some (.int rest),some (.int seed)]/\Same H H1/\H1 r=some (.lst (xs.map V.int))/\xs.length=n/\(∀ x∈xs,0<=x/\x < 1009)) (λnx hnx=>?_) ?_
  ·refine ⟨λm σ H1=>∃ (xs:List Int) (rest seed:Int),m=n - xs.length/\σ=[some (.int c),some (.int n),some (.ref r),some (.int rest),some (.int seed)]/\Same H H1/\H1 r=some (.lst (xs.map V.int))/\xs.length<=n/\(∀ x∈xs,0<=x/\x < 1009),
    ⟨n - xs.length,xs,rest,_,rfl,rfl,sm,h1,hl,hx⟩,?_⟩
   clear h1 hl hx sm xs rest
   rintro m σ H1 ⟨xs,rest,seed,rfl,rfl,sm,h1,hl,hx⟩
   have el:((xs.map V.int).length:Int)=xs.length:=by simp
   refine ⟨_,rfl,r,_,rfl,.inl (SqL.of h1),_,rfl,_,_,rfl,rfl,_,rfl,?_⟩
   rw [el]
   refine ite2 (λg=>?_) (λg=>?_)
   ·have g:(xs.length:Int) < n:=by simpa using g
    refine ⟨_,λσ' H' h=>h,?_⟩
    refine ⟨_,rfl,_,_,rfl,rfl,.inr ⟨by decide,by decide⟩,_,_,rfl,rfl,_,rfl,r,_,rfl,.inl (SqL.of h1),_,_,rfl,rfl,_,_,rfl,rfl,(by show (0:Int) < 2147483647; decide),?_⟩
    obtain ⟨y,hy⟩:∃ y,y=(seed * 48271 + 12345 + ((xs.map V.int).length:Int)) % 2147483647 * 69621 % 2147483629 / 7 % 1009:=⟨_,rfl⟩
    refine ⟨_,rfl,.inl ⟨rfl,_,SqL.of h1⟩,_,rfl,_,_,rfl,rfl,.inr ⟨by decide,by decide⟩,_,_,rfl,rfl,(by show (0:Int) < 2147483629; decide),_,_,rfl,rfl,⟨by decide,by decide⟩,_,_,rfl,rfl,(by show (0:Int) < 1009; decide),r,_,_,rfl,rfl,h1,(by rw [List.length_map]; exact Zx (by omega)),?_⟩
    refine ⟨n - (xs ++ [y]).length,?_,xs ++ [y],_,_,rfl,rfl,Same.add sm hr0,?_,?_,?_⟩
    ·rw [List.length_append,List.length_singleton]; omega
    ·rw [Zc,<- Zc6,hy]
    ·rw [List.length_append,List.length_singleton]; omega
    ·intro x hm
     rcases List.mem_append.mp hm with z | z
     ·exact hx x z
     ·have:x=y:=by simpa using z
      rw [this,hy]
      exact ⟨Int.emod_nonneg _ (by decide),Int.emod_lt_of_pos _ (by decide)⟩
   ·have g:¬ (xs.length:Int) < n:=by simpa using g
    exact hnx _ _ ⟨xs,rest,seed,rfl,sm,h1,by omega,hx⟩
  rintro σ H1 ⟨xs,rest,seed,rfl,sm,h1,hl,hx⟩
  exact ⟨_,rfl,k r xs H1 sm hr0 h1 hl hx⟩
noncomputable def Zly (K:PySem.W.Frag):Sp:=λvs H Q _=>∃ (a:Addr) (xs:List Int) (n:Nat) (sh:Int),vs=[.ref a,.int n,.int sh]/\H a=some (.lst (xs.map V.int))/\xs.length=60/\(∀ x∈xs,0<=x/\x < 1009)/\1<=n/\n<=14 /\
 ∀ (p:Addr) (M:List (Option Nat)) (H':Hp),Same H H'->H p=none->H' p=some (.lst (M.map mV))->M.length=3 * n->(∀ (i j:Nat),M[i]?=some (some j)->M[j]?=some (some i)/\i≠j)->Q (.ref p) H'
theorem map_set {α:Type} (f:α->V) (l:List α) (i:Nat) (x:α):(l.map f).set i (f x)=(l.set i x).map f:=by rw [List.map_set]
theorem Qp {n i:Nat} (h:i < n):ixN n (i:Int)=some i:=by
 unfold ixN
 simp
 omega
theorem Zi0 {α β:Type} (f:α->β):∀ (l:List α) (i:Nat),(l.map f).eraseIdx i=(l.eraseIdx i).map f
 | [],_=>rfl
 | _ :: _,0=>rfl
 | a :: r,i + 1=>by rw [List.map_cons,List.eraseIdx_cons_succ,Zi0 f r i,List.eraseIdx_cons_succ,List.map_cons]
theorem natV (F:List Nat) (i:Nat):(F.map λ(j:Nat)=>V.int j)[i]?=(F[i]?).map λ(j:Nat)=>V.int j:=List.getElem?_map ..
theorem X4:FnScope ["_law_nums","_law_many","_law_share","_law_mates","_law_free_here","_law_at","_law_one","_law_pick","_law_other"] ["_law_nums","_law_many","_law_share"] (Zg Zce):=⟨rfl,rfl,rfl,by decide +kernel,rfl,by decide +kernel,by decide +kernel⟩
theorem Zid (T:Txt w K mg t):FnOk P w K mg base (CXr P w) 1 t.f_l_sewn t.d_l_sewn ["_law_nums","_law_many","_law_share"] (Zly K):=by
 refine T.p_l_sewn.F.okR X4 (λvs H Q E h=>?_) (λcdv A outer s H vs Q E hr h=>?_)
 ·obtain ⟨a,xs,n,sh,rfl,_⟩:=h
  rfl
 ·obtain ⟨a,xs,n,sh,rfl,ha,hl,hx,h1,h2,k⟩:=h
  refine ⟨_,(Zf (Zu (i:=3) X4.nd rfl (Or.inl rfl) (Zi Zhx (Xd (Za W7 Zb)) (Zi Wl Zd (pv 1))))
   (Zf (Zu (i:=4) X4.nd rfl (Or.inl rfl) (Oc rfl T.n_list rfl T.n_range rfl (Za (Zi Wl Zd (pv 1)) Zb)))
   (Zf (Zu (i:=5) X4.nd rfl (Or.inl rfl) Zd)
   (Zf (Jf PassesOwn.never (Zk Ou (Zt Zl (by rfl) T.n_len PySem.boot_len (Za (pv 4) Zb)) Zd (Zn _)) (Zf (Zu (i:=6) X4.nd rfl (Or.inl rfl) (Xx PySem.F.plainAttrs_list PySem.F.slot_list_pop PySem.F.type_list_pop K2 (pv 4) (Za Zd Zb)))
   (Zf (Zu (i:=7) X4.nd rfl (Or.inl rfl) (Z9 Z8 (pv 0) (pv 5) (λ_ _=>rfl)))
   (Zf (Zu (i:=5) X4.nd rfl (Or.inl rfl) (Zi Yn (pv 5) Zd))
   (Zh (Yj (Zk Zf6 (Zi Z6 (pv 7) Zd) (pv 2) (Zn _)) (Zf (Zu (i:=8) X4.nd rfl (Or.inl rfl) (Xx PySem.F.plainAttrs_list PySem.F.slot_list_pop PySem.F.type_list_pop K2 (pv 4) (Za (Zi Z6 (Zi Ym (pv 7) Zd) (Zt Zl (by rfl) T.n_len PySem.boot_len (Za (pv 4) Zb))) Zb)))
   (Zf (Jz (pv 8) (Ob (pv 3) (pv 6) Wv))
   (Zh (Jz (pv 6) (Ob (pv 3) (pv 8) Wv))))) Z7))))))
   (Zh (Zr (pv 3))))))),?_⟩
  refine ⟨(by show 1<=sizeLine; decide),λq hq=>?_⟩
  refine ⟨_,rfl,_,_,rfl,rfl,.inl ⟨by decide,by decide⟩,q,_,_,rfl,rfl,Zc,(by omega),(by omega),?_,λm hm=>?_⟩
  ·have:(3 * (n:Int)).toNat=3 * n:=by omega
   show 1 * (3 * (n:Int)).toNat<=sizeLine
   rw [this,sizeLine_eq]; omega
  have eN:(3 * (n:Int)).toNat=3 * n:=by omega
  have eM:(List.replicate (3 * (n:Int)).toNat [V.non]).flatten=(List.replicate (3 * n) (none:Option Nat)).map mV:=by
   rw [eN,List.flatten_replicate_singleton,List.map_replicate]
   rfl
  refine ⟨_,rfl,_,_,rfl,rfl,.inl ⟨by decide,by decide⟩,3 * n,(congrArg (λz=>[V.int z]) (by omega:(3 * (n:Int))=((3 * n:Nat):Int))),by omega,λf hf=>?_⟩
  have hfm:f≠m:=λz=>by rw [z,Zc] at hf; cases hf
  have hm0:H m=none:=by
   have:m≠q:=λz=>by rw [z,Zc] at hm; cases hm
   rw [Ze this] at hm; exact hm
  have hf0:H f=none:=by
   rw [Ze hfm] at hf
   have:f≠q:=λz=>by rw [z,Zc] at hf; cases hf
   rw [Ze this] at hf; exact hf
  have sm0:Same H (upd (upd (upd H q (.lst [.non])) m (.lst (List.replicate (3 * (n:Int)).toNat [V.non]).flatten)) f (.lst ((List.range (3 * n)).map λ(i:Nat)=>V.int i))):=Same.add (Same.add (Same.new hq) hm0) hf0
  show tSeq (Us _ _) _ _ _ _
  refine Zz (λσ H1=>∃ (M:List (Option Nat)) (v4 v5 v6 v7 v8:Option V),σ=[some (.ref a),some (.int n),some (.int sh),some (.ref m),v4,v5,v6,v7,v8]/\Same H H1/\H1 m=some (.lst (M.map mV))/\M.length=3 * n/\∀ (i j:Nat),M[i]?=some (some j)->M[j]?=some (some i)/\i≠j) (λnx hnx=>?_) ?_
  ·refine ⟨λc σ H1=>∃ (F:List Nat) (M:List (Option Nat)) (at':Nat) (v6 v7 v8:Option V),c=F.length/\σ=[some (.ref a),some (.int n),some (.int sh),some (.ref m),some (.ref f),some (.int at'),v6,v7,v8]/\Same H H1/\H1 m=some (.lst (M.map mV))/\H1 f=some (.lst (F.map λ(i:Nat)=>V.int i))/\SewOk (3 * n) F M/\at' + F.length<=3 * n,
    ⟨_,List.range (3 * n),List.replicate (3 * n) none,0,none,none,none,rfl,rfl,sm0,?_,Zc,SewOk.start _,by simp⟩,?_⟩
   ·rw [Ze hfm.symm,Zc,eM]
   rintro c σ H1 ⟨F,M,at',v6,v7,v8,rfl,rfl,sm,g1,g2,hs,hat⟩
   refine ⟨_,rfl,f,_,rfl,.inl (SqL.of g2),_,_,rfl,rfl,_,rfl,?_⟩
   rw [List.length_map]
   refine ite2 (λg=>?_) (λg=>?_)
   ·have g:1 < F.length:=by have:=of_decide_eq_true g; omega
    obtain ⟨one,F',rfl⟩:∃ one F',F=one :: F':=by
     cases F with
     | nil=>simp at g
     | cons a b=>exact ⟨a,b,rfl⟩
    rw [List.length_cons] at g hat
    refine ⟨_,λσ' H' h=>h,?_⟩
    refine ⟨_,rfl,.inl ⟨rfl,_,SqL.of g2⟩,f,_,0,0,V.int one,rfl,rfl,g2,by decide,by decide,(by simp [seqIndex?]),rfl,?_⟩
    have e0:((one :: F').map λ(i:Nat)=>V.int i).eraseIdx 0=F'.map λ(i:Nat)=>V.int i:=rfl
    rw [e0]
    have g2':(upd H1 f (.lst (F'.map λ(i:Nat)=>V.int i))) f=some (.lst (F'.map λ(i:Nat)=>V.int i)):=Zc
    have g1':(upd H1 f (.lst (F'.map λ(i:Nat)=>V.int i))) m=some (.lst (M.map mV)):=by rw [Ze hfm.symm]; exact g1
    have sm':Same H (upd H1 f (.lst (F'.map λ(i:Nat)=>V.int i))):=Same.add sm hf0
    generalize upd H1 f (.lst (F'.map λ(i:Nat)=>V.int i))=H2 at g1' g2' sm' ⊢
    have hpick:at' < xs.length:=by omega
    refine ⟨_,rfl,_,rfl,a,_,_,_,rfl,rfl,SqL.of (sm' _ _ ha),X2 (getI hpick),?_⟩
    obtain ⟨p0,p1⟩:=hx _ (List.getElem_mem hpick)
    have ep:xs.getD at' 0=xs[at']:=by rw [List.getD_eq_getElem?_getD,List.getElem?_eq_getElem hpick]; rfl
    rw [ep]
    generalize xs[at']=pick at p0 p1 ⊢
    refine ⟨_,rfl,_,_,rfl,rfl,?_⟩
    refine ⟨_,rfl,_,_,rfl,rfl,(by show (0:Int) < 7; decide),_,rfl,_,_,rfl,rfl,_,rfl,?_⟩
    refine ite2 (λ_=>?_) (λ_=>?_)
    ·-- other=free.pop(..)
     have hF:(0:Int) < F'.length:=by omega
     have k0:=Int.emod_nonneg (pick / 7) (show (F'.length:Int)≠0 by omega)
     have k1:=Int.emod_lt_of_pos (pick / 7) hF
     obtain ⟨kk,hkk⟩:∃ kk:Nat,pick / 7 % (F'.length:Int)=kk:=⟨_,(Int.toNat_of_nonneg k0).symm⟩
     have hkl:kk < F'.length:=by omega
     refine ⟨_,rfl,.inl ⟨rfl,_,SqL.of g2'⟩,_,rfl,_,_,rfl,rfl,⟨by decide,by decide⟩,_,rfl,f,_,rfl,.inl (SqL.of g2'),_,_,rfl,rfl,(by rw [List.length_map]; exact hF),f,_,_,kk,V.int F'[kk],rfl,rfl,g2',?_,?_,?_,?_,?_⟩
     ·rw [List.length_map,hkk]; omega
     ·rw [List.length_map,hkk]; omega
     ·rw [List.length_map,hkk]; simp [seqIndex?]; omega
     ·rw [natV,List.getElem?_eq_getElem hkl]; rfl
     have e1:(F'.map λ(i:Nat)=>V.int i).eraseIdx kk=(F'.eraseIdx kk).map λ(i:Nat)=>V.int i:=by rw [Zi0]
     rw [e1]
     have hp:=hs.pair (List.getElem?_eq_getElem hkl)
     have l1:one < M.length:=by rw [hs.len]; exact (hs.free one List.mem_cons_self).1
     have l2:F'[kk] < M.length:=by rw [hs.len]; exact (hs.free _ (List.mem_cons_of_mem _ (List.getElem_mem hkl))).1
     have g1'':(upd H2 f (.lst ((F'.eraseIdx kk).map λ(i:Nat)=>V.int i))) m=some (.lst (M.map mV)):=by rw [Ze hfm.symm]; exact g1'
     refine ⟨_,rfl,_,rfl,_,rfl,m,_,_,one,rfl,rfl,g1'',(by rw [List.length_map]; exact Qp l1),?_⟩
     refine ⟨_,rfl,_,rfl,_,rfl,m,_,_,F'[kk],rfl,rfl,Zc,(by rw [List.length_set,List.length_map]; exact Qp l2),?_⟩
     refine ⟨(F'.eraseIdx kk).length,?_,F'.eraseIdx kk,(M.set one (some F'[kk])).set F'[kk] (some one),at' + 1,_,_,_,rfl,rfl,Same.add (Same.add (Same.add sm' hf0) hm0) hm0,?_,?_,hp,?_⟩
     ·rw [List.length_eraseIdx_of_lt hkl,List.length_cons]; omega
     ·rw [Zc]
      show some (HO.lst (((M.map mV).set one (mV (some F'[kk]))).set F'[kk] (mV (some one))))=_
      rw [map_set,map_set]
     ·rw [Ze hfm,Ze hfm,Zc]
     ·rw [List.length_eraseIdx_of_lt hkl]; omega
    ·exact ⟨F'.length,by rw [List.length_cons]; omega,F',M,at' + 1,_,_,_,rfl,rfl,sm',g1',g2',hs.skip,by omega⟩
   ·exact hnx _ _ ⟨M,_,_,_,_,_,rfl,sm,g1,hs.len,hs.inv⟩
  rintro σ H1 ⟨M,v4,v5,v6,v7,v8,rfl,sm,g1,hl',hi'⟩
  exact ⟨_,rfl,k m M H1 sm hm0 g1 hl' hi'⟩
theorem Qg {lo:Int} {n:Nat} {g:TG} {tt:TT} {tb:TB} {R:St->Hp->Prop} {σ:St} {H:Hp} (Pv:Nat->St->Hp->Prop) (h0:Pv 0 σ H)
  (hs:∀ (i:Nat) σ H,i < n->Pv i σ H->g (.int (lo + i)) σ H λσ2 H2=>tt σ2 H2 λb H3=>if b=true then tb σ2 H3 (Pv (i + 1)) else Pv (i + 1) σ2 H3) (hd:∀ σ H,Pv n σ H->R σ H):Ws (Itr lo n) g tt tb R σ H:=by
 refine ⟨λi m σ H=>m=n - i/\i<=n/\Pv i σ H,⟨n,by simp,Nat.zero_le _,h0⟩,?_⟩
 rintro i m σ H ⟨rfl,hi,p⟩
 by_cases hlt:i < n
 ·refine .inr ⟨hlt,Pv (i + 1),λσ' H' p'=>⟨n - (i + 1),by omega,rfl,hlt,p'⟩,λx H' y=>?_⟩
  obtain ⟨e,y⟩:=y
  subst e y
  exact hs i σ _ hlt p
 ·have e:i=n:=by omega
  subst e
  exact .inl ⟨Nat.le_refl _,hd σ H p⟩
theorem Yt {K:PySem.W.Frag} {a:Addr} {xs:List V} {g:TG} {tt:TT} {tb:TB} {R:St->Hp->Prop} {σ:St} {H:Hp} (Pv:Nat->St->Hp->Prop) (h0:Pv 0 σ H) (hl:∀ i σ H,i<=xs.length->Pv i σ H->SqL K H a xs)
  (hs:∀ (i:Nat) x σ H,xs[i]?=some x->Pv i σ H->g x σ H λσ2 H2=>tt σ2 H2 λb H3=>if b=true then tb σ2 H3 (Pv (i + 1)) else Pv (i + 1) σ2 H3) (hd:∀ σ H,Pv xs.length σ H->R σ H):Ws (Itl K a) g tt tb R σ H:=by
 refine ⟨λi m σ H=>m=xs.length - i/\i<=xs.length/\Pv i σ H,⟨xs.length,by simp,Nat.zero_le _,h0⟩,?_⟩
 rintro i m σ H ⟨rfl,hi,p⟩
 have q:=hl i σ H hi p
 by_cases hlt:i < xs.length
 ·refine .inr ⟨⟨xs,xs[i],q,by simp [hlt]⟩,Pv (i + 1),λσ' H' p'=>⟨xs.length - (i + 1),by omega,rfl,hlt,p'⟩,λx H' y=>?_⟩
  obtain ⟨e,y⟩:=y
  subst e
  exact hs i x σ _ (y xs q) p
 ·have e:i=xs.length:=by omega
  subst e
  exact .inl ⟨⟨xs,q,Nat.le_refl _⟩,hd σ H p⟩
theorem Zc8 {K:PySem.W.Frag} {a:Addr} {xs:List V} {g:TG} {tt:TT} {tb:TB} {R:St->Hp->Prop} {σ:St} {H:Hp} (Pv:Nat->St->Hp->Prop) (h0:Pv 0 σ H) (hl:∀ i σ H,i<=xs.length->Pv i σ H->SqT K H a xs)
  (hs:∀ (i:Nat) x σ H,xs[i]?=some x->Pv i σ H->g x σ H λσ2 H2=>tt σ2 H2 λb H3=>if b=true then tb σ2 H3 (Pv (i + 1)) else Pv (i + 1) σ2 H3) (hd:∀ σ H,Pv xs.length σ H->R σ H):Ws (Itt K a) g tt tb R σ H:=by
 refine ⟨λi m σ H=>m=xs.length - i/\i<=xs.length/\Pv i σ H,⟨xs.length,by simp,Nat.zero_le _,h0⟩,?_⟩
 rintro i m σ H ⟨rfl,hi,p⟩
 have q:=hl i σ H hi p
 by_cases hlt:i < xs.length
 ·refine .inr ⟨⟨xs,xs[i],q,by simp [hlt]⟩,Pv (i + 1),λσ' H' p'=>⟨xs.length - (i + 1),by omega,rfl,hlt,p'⟩,λx H' y=>?_⟩
  obtain ⟨e,y⟩:=y
  subst e
  exact hs i x σ _ (y xs q) p
 ·have e:i=xs.length:=by omega
  subst e
  exact .inl ⟨⟨xs,q,Nat.le_refl _⟩,hd σ H p⟩
noncomputable def row3 (ns:List Int) (k:Nat):List V:=[.int (ns.getD (3 * k) 0),.int (ns.getD (3 * k + 1) 0),.int (ns.getD (3 * k + 2) 0)]
noncomputable def Y2 (H:Hp) (r:Addr) (ns:List Int):Prop:=∃ ts:List Addr,H r=some (.lst (ts.map V.ref))/\ns.length=3 * ts.length/\∀ (k:Nat) (t:Addr),ts[k]?=some t->H t=some (.tup (row3 ns k))
theorem Y2.same {H H':Hp} {r:Addr} {ns:List Int} (h:Y2 H r ns) (s:Same H H'):Y2 H' r ns:=by
 obtain ⟨ts,h1,h2,h3⟩:=h
 exact ⟨ts,s _ _ h1,h2,λk t e=>s _ _ (h3 k t e)⟩
noncomputable def Zl0:Sp:=λvs H Q _=>∃ (a:Addr) (M:List (Option Nat)) (n:Nat) (st sp:Int),vs=[.ref a,.int st,.int sp]/\H a=some (.lst (M.map mV))/\M.length=3 * n/\1<=n/\n<=14/\(∀ (i j:Nat),M[i]?=some (some j)->M[j]?=some (some i)/\i≠j)/\sp∈Vw /\
 ∀ (p:Addr) (H':Hp),Same H H'->H p=none->Y2 H' p (flat M st sp)->Q (.ref p) H'
theorem O2 {t:Int} (h:t∈Vw):-(2 ^ 64) < t/\t < 2 ^ 64:=by
 simp only [Vw,List.mem_cons,List.not_mem_nil,or_false] at h
 rcases h with rfl | rfl | rfl | rfl | rfl | rfl | rfl | rfl <;> decide
theorem Zof {M:List (Option Nat)} {i:Nat} (h:i < M.length):atI (M.map mV) (0 + (i:Int))=some (mV M[i]):=by
 rw [Int.zero_add]
 exact X2 (by rw [List.getElem?_map,List.getElem?_eq_getElem h]; rfl)
theorem Q5:FnScope ["_law_mates","_law_start","_law_step","_law_flat","_law_at","_law_mate"] ["_law_mates","_law_start","_law_step"] (Zg Zcg):=⟨rfl,rfl,rfl,by decide +kernel,rfl,by decide +kernel,by decide +kernel⟩
theorem Zif (T:Txt w K mg t):FnOk P w K mg base (CXr P w) 1 t.f_l_rows t.d_l_rows ["_law_mates","_law_start","_law_step"] Zl0:=by
 refine T.p_l_rows.F.okR Q5 (λvs H Q E h=>?_) (λcdv A outer s H vs Q E hr h=>?_)
 ·obtain ⟨a,M,n,st,sp,rfl,_⟩:=h
  rfl
 ·obtain ⟨a,M,n,st,sp,rfl,ha,hM,h1,h2,hi,hsp,k⟩:=h
  refine ⟨_,(Zf (Zu (i:=3) Q5.nd rfl (Or.inr rfl) (Xd Zb))
   (Zf (Xb PassesOwn.never rfl (Xt rfl T.n_range (Za (Zt Zl (by rfl) T.n_len PySem.boot_len (Za (pv 0) Zb)) Zb)) (Zq (i:=4) Q5.nd rfl (Or.inl rfl)) (Zf (Zu (i:=5) Q5.nd rfl (Or.inl rfl) (Z9 Z8 (pv 0) (pv 4) (λ_ _=>rfl)))
   (Zh (Yj (PW.pt (Jx (Zk Qo (pv 5) W7 (Zn _)) (Wz (Zk Wi (pv 5) (pv 4) (Zn _))))) (Zh (Xn (Xx PySem.F.plainAttrs_list PySem.F.slot_list_append PySem.F.type_list_append Xl (pv 3) (Za (Z9 Z8 (pv 3) (pv 5) (λ_ _=>rfl)) Zb)))) (Zh (Xn (Xx PySem.F.plainAttrs_list PySem.F.slot_list_append PySem.F.type_list_append Xl (pv 3) (Za (Zi Z6 (Zi Yn (pv 1) (Zi Wl (pv 2) (pv 4))) Zd) Zb))))))))
   (Zh (Zr (Y6 (ts:=["_law_k"]) (fv:=[("_law_flat",3)]) ⟨rfl,by decide +kernel,by decide +kernel,Yk (by rfl),⟨⟨rfl,rfl,Or.inl rfl⟩,trivial⟩⟩ rfl (Xt rfl T.n_range (Za (Zi Ym (Zt Zl (by rfl) T.n_len PySem.boot_len (Za (pv 0) Zb)) Zd) Zb)) (λ_ _ _ _=>(Zq (i:=0) (show List.Nodup (["_law_k","_law_flat"]:List Str) from by decide +kernel) rfl (Or.inl rfl) (Or.inr rfl))) (λ_ _ _ _=>Yu) (λ_ _ _=>rfl) (λ_ _ _ _ _ _=>Ys (X7 (Za (Z9 (Wd K) (pv 1) (Zi Wl Zd (pv 0)) (λ_ _=>rfl)) (Za (Z9 (Wd K) (pv 1) (Zi Yn (Zi Wl Zd (pv 0)) Zd) (λ_ _=>rfl)) (Za (Z9 (Wd K) (pv 1) (Zi Yn (Zi Wl Zd (pv 0)) Zd) (λ_ _=>rfl)) Zb)))))))))),?_⟩
  refine ⟨Nat.zero_le _,λf hf=>?_⟩
  have eL:(((M.map mV).length:Nat):Int).toNat=M.length:=by simp
  have ha1:(upd H f (.lst [])) a=some (.lst (M.map mV)):=by rw [Ze (Zj ha hf)]; exact ha
  dsimp only [Zv]
  show tSeq (tFor _ _ _) _ _ _ _
  refine Zz (λσ H1=>∃ (v4 v5:Option V),σ=[some (.ref a),some (.int st),some (.int sp),some (.ref f),v4,v5]/\Same H H1/\H1 f=some (.lst ((flat M st sp).map V.int))) (λnx hnx=>?_) ?_
  ·refine ⟨_,rfl,a,_,rfl,.inl (SqL.of ha1),_,rfl,by omega,by rw [List.length_map]; omega,?_⟩
   rw [eL]
   refine W5 (n:=M.length) (λi σ H1=>∃ (v4 v5:Option V),σ=[some (.ref a),some (.int st),some (.int sp),some (.ref f),v4,v5]/\Same H H1/\H1 f=some (.lst (((List.range i).map λi=>nm st sp (rep M i)).map V.int))) ⟨none,none,rfl,Same.new hf,Zc⟩ ?_ ?_
   ·rintro i σ H1 hlt ⟨v4,v5,rfl,sm,hfl⟩
    refine ⟨_,rfl,_,rfl,a,_,_,_,rfl,rfl,SqL.of (sm _ _ ha),Zof hlt,?_⟩
    have fin:∀ x:Int,x=nm st sp (rep M i)->(upd H1 f (.lst (((List.range i).map λi=>nm st sp (rep M i)).map V.int ++ [V.int x]))) f=some (.lst (((List.range (i + 1)).map λi=>nm st sp (rep M i)).map V.int)):=λx hx=>by
     rw [Zc,hx,List.range_succ]
     simp
    have hlen:(((List.range i).map λi=>nm st sp (rep M i)).map V.int).length < sizeLine:=by
     rw [List.length_map,List.length_map,List.length_range]; exact Zx (by omega)
    refine ⟨_,rfl,rfl,_,rfl,?_⟩
    cases e:M[i] with
    | none =>
     have er:rep M i=i:=by unfold rep; rw [List.getElem?_eq_getElem hlt,e]
     refine iteF ?_
     refine iteF ?_
     refine ⟨_,rfl,.inl ⟨rfl,_,SqL.of hfl⟩,_,rfl,_,rfl,_,rfl,_,_,rfl,rfl,.inl (O2 hsp),_,_,rfl,rfl,_,_,rfl,rfl,(by show (0:Int) < 10000; decide),f,_,_,rfl,rfl,hfl,hlen,?_⟩
     exact ⟨_,_,rfl,Same.add sm hf,fin _ (by rw [er]; unfold nm; rw [Int.zero_add])⟩
    | some j =>
     have hMi:M[i]?=some (some j):=by rw [List.getElem?_eq_getElem hlt,e]
     refine iteT ?_
     refine ⟨_,rfl,_,rfl,_,_,rfl,rfl,_,rfl,?_⟩
     refine ite2 (λg=>?_) (λg=>?_)
     ·have g:j < i:=by have:=of_decide_eq_true g; omega
      have er:rep M i=j:=by unfold rep; rw [hMi]; exact if_pos g
      have erj:rep M j=j:=by unfold rep; rw [(hi i j hMi).1]; exact if_neg (by omega)
      have ej:atI (((List.range i).map λi=>nm st sp (rep M i)).map V.int) (j:Int)=some (V.int (nm st sp (rep M i))):=by
       refine X2 ?_
       rw [List.getElem?_map,List.getElem?_map,List.getElem?_range g,er]
       show some (V.int (nm st sp (rep M j)))=_
       rw [erj]
      refine ⟨_,rfl,.inl ⟨rfl,_,SqL.of hfl⟩,_,rfl,_,rfl,f,_,_,_,rfl,rfl,SqL.of hfl,ej,f,_,_,rfl,rfl,hfl,hlen,?_⟩
      exact ⟨_,_,rfl,Same.add sm hf,fin _ rfl⟩
     ·have g:¬ j < i:=by
       have:¬ ((j:Int) < 0 + (i:Int)):=λz=>g (decide_eq_true z)
       omega
      have er:rep M i=i:=by unfold rep; rw [hMi]; exact if_neg g
      refine ⟨_,rfl,.inl ⟨rfl,_,SqL.of hfl⟩,_,rfl,_,rfl,_,rfl,_,_,rfl,rfl,.inl (O2 hsp),_,_,rfl,rfl,_,_,rfl,rfl,(by show (0:Int) < 10000; decide),f,_,_,rfl,rfl,hfl,hlen,?_⟩
      exact ⟨_,_,rfl,Same.add sm hf,fin _ (by rw [er]; unfold nm; rw [Int.zero_add])⟩
   ·rintro σ H1 ⟨v4,v5,rfl,sm,hfl⟩
    exact hnx _ _ ⟨v4,v5,rfl,sm,hfl⟩
  rintro σ H1 ⟨v4,v5,rfl,sm,hfl⟩
  refine ⟨_,rfl,a,_,rfl,.inl (SqL.of (sm _ _ ha)),_,_,rfl,rfl,⟨by decide,by decide⟩,_,rfl,by rw [List.length_map]; omega,by rw [List.length_map]; omega,λD hD=>?_⟩
  have eD:((((M.map mV).length:Nat):Int) / 3).toNat=n:=by rw [List.length_map,hM]; omega
  have hD0:H D=none:=sm.free hD
  have hfD:f≠D:=λz=>by rw [z] at hfl; rw [hD] at hfl; cases hfl
  have hlf:(flat M st sp).length=3 * n:=by unfold flat; simp [hM]
  show Ws (Itr 0 ((((M.map mV).length:Nat):Int) / 3).toNat) _ _ _ _ _ _
  rw [eD]
  refine Qg (λi σ H2=>∃ (ts:List Addr) (v:Option V),σ=[v,some (.ref f)]/\Same H H2/\H2 D=some (.lst (ts.map V.ref))/\ts.length=i/\H2 f=some (.lst ((flat M st sp).map V.int))/\∀ (k:Nat) (t:Addr),ts[k]?=some t->H2 t=some (.tup (row3 (flat M st sp) k)))
   ⟨[],none,rfl,Same.add sm hD0,Zc,rfl,by rw [Ze hfD]; exact hfl,λk t z=>by simp at z⟩ ?_ ?_
  ·rintro i σ H2 hlt ⟨ts,v,rfl,sm2,g1,hl2,g2,g3⟩
   have at':∀ (c:Nat) (z:Int),c < 3->z=3 * (0 + (i:Int)) + c->atI ((flat M st sp).map V.int) z=some (V.int ((flat M st sp).getD (3 * i + c) 0)):=λc z hc hz=>by
    have e:z=((3 * i + c:Nat):Int):=by omega
    rw [e]
    exact X2 (getI (by omega))
   dsimp only [Zv,tYes]
   rw [if_pos rfl]
   refine ⟨_,rfl,_,rfl,_,_,rfl,rfl,.inl ⟨by decide,by decide⟩,f,_,_,_,rfl,rfl,SqL.of g2,at' 0 _ (by decide) (by simp),?_⟩
   refine ⟨_,rfl,_,rfl,_,_,rfl,rfl,.inl ⟨by decide,by decide⟩,_,_,rfl,rfl,f,_,_,_,rfl,rfl,SqL.of g2,at' 1 _ (by decide) rfl,?_⟩
   refine ⟨_,rfl,_,rfl,_,_,rfl,rfl,.inl ⟨by decide,by decide⟩,_,_,rfl,rfl,f,_,_,_,rfl,rfl,SqL.of g2,at' 2 _ (by decide) rfl,?_⟩
   refine ⟨(by show 3<=sizeLine; decide),λq hq=>?_⟩
   have hqD:q≠D:=λz=>by rw [z,g1] at hq; cases hq
   have hqf:q≠f:=λz=>by rw [z,g2] at hq; cases hq
   have hq0:H q=none:=sm2.free hq
   refine ⟨_,by rw [Ze (Ne.symm hqD)]; exact g1,(by rw [List.length_map]; exact Zx (by omega)),ts ++ [q],_,rfl,Same.add (Same.add sm2 hq0) hD0,?_,?_,?_,?_⟩
   ·rw [Zc]; simp
   ·rw [List.length_append,List.length_singleton,hl2]
   ·rw [Ze hfD,Ze (Ne.symm hqf)]; exact g2
   ·intro k t z
    by_cases hk:k < ts.length
    ·rw [List.getElem?_append_left hk] at z
     have g:=g3 k t z
     rw [Ze (λe=>by rw [e,g1] at g; cases g),Ze (Zj g hq)]
     exact g
    ·have hk2:k=ts.length:=by
      have:=(List.getElem?_eq_some_iff.mp z).1
      rw [List.length_append,List.length_singleton] at this
      omega
     subst hk2
     have:t=q:=by simpa using z.symm
     subst this
     rw [Ze hqD,Zc,hl2]
     rfl
  ·rintro σ H2 ⟨ts,v,rfl,sm2,g1,hl2,g2,g3⟩
   exact k D H2 sm2 hD0 ⟨ts,g1,by rw [hlf,hl2],g3⟩
theorem at4 {i:Int} (h0:0<=i) (h1:i < 4):∃ sh:Int,atI [V.int 0,V.int 0,V.int 1,V.int 3] i=some (V.int sh):=by
 obtain rfl | rfl | rfl | rfl:i=0\/i=1\/i=2\/i=3:=by omega
 all_goals exact ⟨_,rfl⟩
theorem at8 {i:Int} (h0:0<=i) (h1:i < 8):∃ sp:Int,sp∈Vw/\atI [V.int 1,V.int 3,V.int 7,V.int 9,V.int 37,V.int 1009,V.int 3333,V.int 9999] i=some (V.int sp):=by
 obtain rfl | rfl | rfl | rfl | rfl | rfl | rfl | rfl:i=0\/i=1\/i=2\/i=3\/i=4\/i=5\/i=6\/i=7:=by omega
 all_goals exact ⟨_,by decide,rfl⟩
noncomputable def Zlx (K:PySem.W.Frag):Sp:=λvs H Q _=>∃ (a:Addr) (ns:List Int),vs=[.ref a]/\SqL K H a (ns.map V.int)/\ns.length<=63 /\
 ∀ (p m r:Addr) (M:List (Option Nat)) (nms:List Int) (H':Hp),Same H H'->H' p=some (.tup [.ref m,.ref r])->H' m=some (.lst (M.map mV))->Y2 H' r nms->TD M nms->M.length<=42->H m=none->H r=none->Q (.ref p) H'
theorem X3:FnScope ["_law_script","_law_head","_law_many","_law_names","_law_share","_law_mates","_law_step"] ["_law_script"] (Zg Zcd):=⟨rfl,rfl,rfl,by decide +kernel,rfl,by decide +kernel,by decide +kernel⟩
theorem Zic (T:Txt w K mg t):FnOk P w K mg base (CXr P w) 2 t.f_l_tent t.d_l_tent ["_law_script"] (Zlx K):=by
 refine T.p_l_tent.F.okR X3 (λvs H Q E h=>?_) (λcdv A outer s H vs Q E hr h=>?_)
 ·obtain ⟨a,ns,rfl,_⟩:=h
  rfl
 ·obtain ⟨a,ns,rfl,hS,hl,k⟩:=h
  refine ⟨_,(Zf (Zu (i:=1) X3.nd rfl (Or.inl rfl) (Zo (X5 T) (hr.mono (by decide)) rfl T.p_l_cell.g T.p_l_cell.F.kp T.p_l_cell.b .nil Zs (Za (pv 0) (Za Zd Zb))))
   (Zf (Zu (i:=2) X3.nd rfl (Or.inl rfl) (Zi Yn Zd (Zi Z6 (pv 1) Zd)))
   (Zf (Yj (Zk Ye (Zi Z6 (Zi Ym (pv 1) Zd) Zd) Zd (Zn _)) (Zh (Zu (i:=2) X3.nd rfl (Or.inl rfl) (Zi Yn Zd (Zi Z6 (Zi Ym (pv 1) Zd) Zd)))) Z7)
   (Zf (Zu (i:=3) X3.nd rfl (Or.inl rfl) (Zo (X5 T) (hr.mono (by decide)) rfl T.p_l_cell.g T.p_l_cell.F.kp T.p_l_cell.b .nil Zs (Za (pv 0) (Za Zd Zb))))
   (Zf (Zu (i:=4) X3.nd rfl (Or.inl rfl) (Z9 G4 (X7 (Za Zd (Za Zd (Za Zd (Za Zd Zb))))) (Zi Z6 (pv 3) Zd) (λ_ _=>rfl)))
   (Zf (Zu (i:=5) X3.nd rfl (Or.inl rfl) (Zo (Zid T) (hr.mono (by decide)) rfl T.p_l_sewn.g T.p_l_sewn.F.kp T.p_l_sewn.b .nil Zs (Za (Zo (Q0 T) (hr.mono (by decide)) rfl T.p_l_numbers.g T.p_l_numbers.F.kp T.p_l_numbers.b .nil Zs (Za (Zo (X5 T) (hr.mono (by decide)) rfl T.p_l_cell.g T.p_l_cell.F.kp T.p_l_cell.b .nil Zs (Za (pv 0) (Za Zd Zb))) (Za Zd Zb))) (Za (pv 2) (Za (pv 4) Zb)))))
   (Zf (Zu (i:=6) X3.nd rfl (Or.inl rfl) (Z9 G4 (X7 (Za Zd (Za Zd (Za Zd (Za Zd (Za Zd (Za Zd (Za Zd (Za Zd Zb))))))))) (Zi Z6 (Zi Ym (pv 3) Zd) Zd) (λ_ _=>rfl)))
   (Zh (Zr (X7 (Za (pv 5) (Za (Zo (Zif T) (hr.mono (by decide)) rfl T.p_l_rows.g T.p_l_rows.F.kp T.p_l_rows.b .nil Zs (Za (pv 5) (Za (Zi Z6 (Zi Ym (pv 3) Zd) Zd) (Za (pv 6) Zb)))) Zb)))))))))))),?_⟩
  refine ⟨_,rfl,a,ns,0,rfl,hS,hl,by decide,by decide,?_⟩
  generalize cell ns 0=hd
  refine ⟨_,rfl,_,_,rfl,rfl,(by show (0:Int) < 6; decide),_,_,rfl,rfl,?_⟩
  dsimp only [Zv]
  show tSeq (tIfS _ _ _) _ _ _ _
  refine Zz (λσ H1=>∃ n:Nat,1<=n/\n<=14/\σ=[some (.ref a),some (.int hd),some (.int n),none,none,none,none]/\H1=H) (λnx hnx=>?_) ?_
  ·refine ⟨_,rfl,_,_,rfl,rfl,⟨by decide,by decide⟩,_,_,rfl,rfl,(by show (0:Int) < 9; decide),rfl,_,rfl,?_⟩
   refine ite2 (λ_=>?_) (λ_=>?_)
   ·refine ⟨_,rfl,_,_,rfl,rfl,⟨by decide,by decide⟩,_,_,rfl,rfl,(by show (0:Int) < 8; decide),_,_,rfl,rfl,?_⟩
    have e:(7 + hd / 54 % 8:Int)=((7 + (hd / 54 % 8).toNat:Nat):Int):=by omega
    exact hnx _ _ ⟨7 + (hd / 54 % 8).toNat,by omega,by omega,by rw [<- e]; rfl,rfl⟩
   ·have e:(1 + hd % 6:Int)=((1 + (hd % 6).toNat:Nat):Int):=by omega
    exact hnx _ _ ⟨1 + (hd % 6).toNat,by omega,by omega,by rw [<- e]; rfl,rfl⟩
  rintro σ H1 ⟨n,n1,n2,rfl,rfl⟩
  refine ⟨_,rfl,a,ns,2,rfl,hS,hl,by decide,by decide,?_⟩
  generalize cell ns 2=nam
  refine ⟨(by show 4<=sizeLine; decide),λq hq=>?_⟩
  have m4:0<=nam % 4/\nam % 4 < 4:=by omega
  obtain ⟨sh,esh⟩:=at4 m4.1 m4.2
  refine ⟨_,rfl,_,_,rfl,rfl,(by show (0:Int) < 4; decide),q,_,_,_,rfl,rfl,SqT.of Zc,esh,?_⟩
  have s1:Same H1 (upd H1 q (.tup [V.int 0,V.int 0,V.int 1,V.int 3])):=Same.new hq
  refine ⟨_,rfl,a,ns,1,rfl,s1.seq hS,hl,by decide,by decide,?_⟩
  refine ⟨_,60,rfl,by decide,λp xs H2 s2 hp h2 h60 hx=>?_⟩
  refine ⟨_,rfl,_,rfl,p,xs,n,sh,rfl,h2,h60,hx,n1,n2,λm M H3 s3 hm hM hlen hinv=>?_⟩
  have s13:Same H1 H3:=(s1.trans s2).trans s3
  have hm0:H1 m=none:=(s1.trans s2).free hm
  refine ⟨(by show 8<=sizeLine; decide),λq2 hq2=>?_⟩
  have m8:0<=nam / 4 % 8/\nam / 4 % 8 < 8:=by omega
  obtain ⟨sp,hsp,esp⟩:=at8 m8.1 m8.2
  refine ⟨_,rfl,_,_,rfl,rfl,⟨by decide,by decide⟩,_,_,rfl,rfl,(by show (0:Int) < 8; decide),q2,_,_,_,rfl,rfl,SqT.of Zc,esp,?_⟩
  have s14:Same H1 (upd H3 q2 (.tup [V.int 1,V.int 3,V.int 7,V.int 9,V.int 37,V.int 1009,V.int 3333,V.int 9999])):=Same.add s13 (s13.free hq2)
  have hM4:(upd H3 q2 (.tup [V.int 1,V.int 3,V.int 7,V.int 9,V.int 37,V.int 1009,V.int 3333,V.int 9999])) m=some (.lst (M.map mV)):=by rw [Ze (Zj hM hq2)]; exact hM
  refine ⟨_,rfl,_,rfl,_,rfl,_,_,rfl,rfl,⟨by decide,by decide⟩,_,_,rfl,rfl,(by show (0:Int) < 10000; decide),_,rfl,m,M,n,_,sp,rfl,hM4,hlen,n1,n2,hinv,hsp,λr H5 s5 hr5 hrow=>?_⟩
  refine ⟨(by show 2<=sizeLine; decide),λp5 hp5=>?_⟩
  have s15:=s14.trans s5
  have hr0:H1 r=none:=s14.free hr5
  refine k p5 m r M _ _ (Same.add s15 (s15.free hp5)) Zc ?_ (hrow.same (Same.new hp5)) (Zln n1 n2 hlen hinv hsp) (by omega) hm0 hr0
  rw [Ze (Zj (s5 _ _ hM4) hp5)]
  exact s5 _ _ hM4
noncomputable def spk (ns:List Int) (n:Nat) (f:Int->Addr):List (Key × V):=(keys ns n).map λx=>((Sum.inl x:Key),V.ref (f x))
structure SpotsF (H:Hp) (ns:List Int) (n:Nat) (f:Int->Addr):Prop where
 inj:∀ x∈keys ns n,∀ y∈keys ns n,f x=f y->x=y
 at':∀ x∈keys ns n,H (f x)=some (.lst ((pl ns n x).map nV))
noncomputable def Zds:Sp:=λvs H Q _=>∃ (a:Addr) (M:List (Option Nat)) (ns:List Int),vs=[.ref a]/\H a=some (.lst (ns.map V.int))/\TD M ns/\ns.length<=120 /\
 ∀ (d:Addr) (f:Int->Addr) (H':Hp),Same H H'->H d=none->H' d=some (.dK (spk ns ns.length f))->SpotsF H' ns ns.length f->(∀ x∈keys ns ns.length,H (f x)=none)->Q (.ref d) H'
theorem Jq:FnScope ["names_at","spots","place","name"] ["names_at"] (Zg Gm):=⟨rfl,rfl,rfl,by decide +kernel,rfl,by decide +kernel,by decide +kernel⟩
theorem Zd6 (T:Txt w K mg t):FnOk P w K mg base (CXr P w) 1 t.f_spots_of t.d_spots_of ["names_at"] Zds:=by
 refine T.p_spots_of.F.okR Jq (λvs H Q E h=>?_) (λcdv A outer s H vs Q E hr h=>?_)
 ·obtain ⟨a,M,ns,rfl,_⟩:=h
  rfl
 ·obtain ⟨a,M,ns,rfl,ha,td,hl,k⟩:=h
  have hu:=Wp hr
  refine ⟨_,(Zf (Zu (i:=1) Jq.nd rfl (Or.inl rfl) Qz)
   (Zf (Xb PassesOwn.never rfl (Zmj rfl T.n_enumerate (Za (pv 0) Zb)) (W6 rfl (Z3 (Zq (i:=2) Jq.nd rfl (Or.inl rfl)) (Z3 (Zq (i:=3) Jq.nd rfl (Or.inl rfl)) Xo))) (Zf (Yj (PW.pt (Va (Zk Wi (pv 3) Zd (Zn _)) (Qu (Zk Ou (pv 3) (Jg (v:=.int 9999) rfl T.c_GREATEST_NAME ⟨_,rfl⟩) (Zn _))))) Y4 Z7)
   (Zf (Xn (Xx PySem.F.plainAttrs_list PySem.F.slot_list_append PySem.F.type_list_append Xl (Zj2 (pv 1) (pv 3) (Xd Zb) ⟨rfl,rfl,rfl,rfl⟩) (Za (pv 2) Zb)))
   (Zh (Yj (Zk Ou (Zt Zl (by rfl) T.n_len PySem.boot_len (Za (Fu hu (pv 1) (pv 3) (λ_ _=>rfl)) Zb)) Zd (Zn _)) Y4 Z7)))))
   (Zh (Zr (pv 1))))),?_⟩
  intro d hd
  have hda:a≠d:=Zj ha hd
  dsimp only [Zv]
  show tSeq (tFor _ _ _) _ _ _ _
  refine Zz (λσ H1=>∃ (f:Int->Addr) (v2 v3:Option V),σ=[some (.ref a),some (.ref d),v2,v3]/\Same H H1/\H1 d=some (.dK (spk ns ns.length f))/\SpotsF H1 ns ns.length f/\∀ x∈keys ns ns.length,H (f x)=none) (λnx hnx=>?_) ?_
  ·refine ⟨_,rfl,a,rfl,⟨_,SqL.of (by rw [Ze hda]; exact ha)⟩,?_⟩
   have el:(ns.map V.int).length=ns.length:=by simp
   refine Zkx (xs:=ns.map V.int) (λi σ H1=>∃ (f:Int->Addr) (v2 v3:Option V),σ=[some (.ref a),some (.ref d),v2,v3]/\Same H H1/\H1 d=some (.dK (spk ns i f))/\SpotsF H1 ns i f/\∀ x∈keys ns i,H (f x)=none)
    ⟨λ_=>0,none,none,rfl,Same.new hd,Zc,⟨λx hx=>by simp [keys] at hx,λx hx=>by simp [keys] at hx⟩,λx hx=>by simp [keys] at hx⟩ ?_ ?_ ?_
   ·rintro i σ H1 _ ⟨f,v2,v3,rfl,sm,_⟩
    exact SqL.of (sm _ _ ha)
   ·rintro i x0 σ H1 q hx hq ⟨f,v2,v3,rfl,sm,hd1,sf,hf0⟩
    have hi:i < ns.length:=by rw [<- el]; exact (List.getElem?_eq_some_iff.mp hx).1
    obtain ⟨x,hx'⟩:∃ x,ns[i]?=some x:=⟨_,List.getElem?_eq_getElem hi⟩
    obtain rfl:x0=V.int x:=by rw [List.getElem?_map,hx'] at hx; exact (Option.some.inj hx).symm
    refine ⟨q,_,rfl,SqT.of Zc,rfl,_,_,rfl,_,_,rfl,rfl,?_⟩
    obtain ⟨x0,x1⟩:=td.rng i x hx'
    refine ⟨_,rfl,_,_,rfl,rfl,_,rfl,?_⟩
    rw [decide_eq_false (by omega:¬ x < 0)]
    refine iteF ?_
    refine ⟨_,rfl,_,_,rfl,rfl,_,rfl,?_⟩
    rw [decide_eq_false (by omega:¬ x > 9999)]
    refine iteF ?_
    have hdq:d≠q:=Zj hd1 hq
    have hd2:(upd H1 q (.tup [.int i,.int x])) d=some (.dK (spk ns i f)):=by rw [Ze hdq]; exact hd1
    dsimp only [Jp]
    show tSeq (Zk9 _) _ _ _ _
    refine Zz (λσ H2=>∃ (f:Int->Addr),σ=[some (.ref a),some (.ref d),some (.int i),some (.int x)]/\Same H H2/\H2 d=some (.dK (spk ns (i + 1) f))/\SpotsF H2 ns (i + 1) f/\∀ x∈keys ns (i + 1),H (f x)=none) (λnx2 hnx2=>?_) ?_
    ·refine ⟨_,rfl,d,rfl,.inl ⟨_,.inl hd2⟩,_,rfl,Nat.zero_le _,λl hl'=>?_⟩
     obtain ⟨hlq,hl1⟩:=Wt hl'
     have hdl:d≠l:=Zj hd1 hl1
     have hd3:(upd (upd H1 q (.tup [.int i,.int x])) l (.lst [])) d=some (.dK (spk ns i f)):=by rw [Ze hdl]; exact hd2
     have hlk:(spk ns i f).length < sizeLine:=by unfold spk; rw [List.length_map]; exact Zx (by have:=Q3 ns i; omega)
     have hq0:H q=none:=sm.free hq
     have hl0:H l=none:=sm.free hl1
     have smq:Same H (upd (upd H1 q (.tup [.int i,.int x])) l (.lst [])):=Same.add (Same.add sm hq0) hl0
     have hp2:(pl ns i x).length < sizeLine:=Zx (by have:=Zcq td i x; omega)
     have old:∀ b u,H1 b=some u->(upd (upd H1 q (.tup [.int i,.int x])) l (.lst [])) b=some u:=λb u e=>by rw [Ze (Zj e hl1),Ze (Zj e hq)]; exact e
     refine ⟨spk ns i f,Sum.inl x,hd3,hlk,rfl,λv hv=>?_,λhv=>?_⟩
     ·-- the name stands already
      have hx2:x∈keys ns i:=by
       unfold spk at hv
       rw [Wf] at hv
       by_cases c:x∈keys ns i
       ·exact c
       ·rw [if_neg c] at hv; cases hv
      obtain rfl:v=V.ref (f x):=by
       unfold spk at hv
       rw [Wf,if_pos hx2] at hv
       exact (Option.some.inj hv).symm
      have ek:keys ns (i + 1)=keys ns i:=by rw [W4 hx',if_pos hx2]
      have hfx:=old _ _ (sf.at' x hx2)
      refine ⟨.inl ⟨rfl,_,SqL.of hfx⟩,_,rfl,f x,_,_,rfl,rfl,hfx,by rw [List.length_map]; exact hp2,hnx2 _ _ ⟨f,rfl,Same.add smq (hf0 x hx2),?_,⟨?_,?_⟩,?_⟩⟩
      ·have:d≠f x:=λz=>by rw [<- z,hd3] at hfx; cases hfx
       rw [Ze this,hd3]
       unfold spk
       rw [ek]
      ·rw [ek]; exact sf.inj
      ·intro y hy
       rw [ek] at hy
       by_cases c:y=x
       ·subst c
        rw [Zc,Ze3 hx',List.map_append]
        rfl
       ·have:f y≠f x:=λz=>c (sf.inj y hy x hx2 z)
        rw [Ze this,old _ _ (sf.at' y hy),Zcp (by rw [hx']; intro z; cases z; exact c rfl)]
      ·rw [ek]; exact hf0
     ·-- a new name
      have hx2:x ∉ keys ns i:=by
       intro c
       unfold spk at hv
       rw [Wf,if_pos c] at hv
       cases hv
      have ek:keys ns (i + 1)=keys ns i ++ [x]:=by rw [W4 hx',if_neg hx2]
      have ep:putK (spk ns i f) (Sum.inl x) (V.ref l)=spk ns (i + 1) (λy=>if y=x then l else f y):=by
       unfold spk
       rw [Fs hx2,ek,List.map_append]
       congr 1
       ·apply List.map_congr_left
        intro y hy
        dsimp only
        rw [if_neg (λ(z:y=x)=>hx2 (z ▸ hy))]
       ·simp
      rw [ep]
      have hl4:(upd (upd (upd H1 q (.tup [.int i,.int x])) l (.lst [])) d (.dK (spk ns (i + 1) (λy=>if y=x then l else f y)))) l=some (.lst []):=by rw [Ze (Ne.symm hdl),Zc]
      refine ⟨.inl ⟨rfl,_,SqL.of hl4⟩,_,rfl,l,_,_,rfl,rfl,hl4,by decide,hnx2 _ _ ⟨λy=>if y=x then l else f y,rfl,Same.add (Same.add smq hd) hl0,?_,⟨?_,?_⟩,?_⟩⟩
      ·rw [Ze hdl,Zc]
      ·intro y hy z hz e
       rw [ek,List.mem_append,List.mem_singleton] at hy hz
       by_cases c1:y=x
       ·by_cases c2:z=x
        ·rw [c1,c2]
        ·have hz':=hz.resolve_right c2
         simp only [c1,c2,if_true,if_false] at e
         exact absurd (sf.at' z hz') (by rw [<- e,hl1]; intro w; cases w)
       ·have hy':=hy.resolve_right c1
        by_cases c2:z=x
        ·simp only [c1,c2,if_true,if_false] at e
         exact absurd (sf.at' y hy') (by rw [e,hl1]; intro w; cases w)
        ·have hz':=hz.resolve_right c2
         simp only [c1,c2,if_false] at e
         exact sf.inj y hy' z hz' e
      ·intro y hy
       rw [ek,List.mem_append,List.mem_singleton] at hy
       by_cases c:y=x
       ·subst c
        simp only [if_true]
        rw [Zc,Ze3 hx',Zn2 hx2]
        rfl
       ·have hy':=hy.resolve_right c
        have e1:=sf.at' y hy'
        have n1:f y≠l:=Zj e1 hl1
        have n2:f y≠d:=λz=>by rw [z,hd1] at e1; cases e1
        simp only [c,if_false]
        rw [Ze n1,Ze n2,old _ _ e1,Zcp (by rw [hx']; intro z; cases z; exact c rfl)]
      ·intro y hy
       rw [ek,List.mem_append,List.mem_singleton] at hy
       by_cases c:y=x
       ·simp only [c,if_true]; exact hl0
       ·simp only [c,if_false]; exact hf0 y (hy.resolve_right c)
    rintro σ H2 ⟨f',rfl,sm2,hd4,sf2,hf2⟩
    have hx3:x∈keys ns (i + 1):=Wc.mpr ⟨i,by omega,hx'⟩
    have hg:valV (spk ns (i + 1) f') (Sum.inl x)=some (V.ref (f' x)):=by unfold spk; rw [Wf,if_pos hx3]
    refine ⟨_,rfl,_,rfl,d,_,rfl,?_,f' x,_,rfl,.inl (SqL.of (sf2.at' x hx3)),_,_,rfl,rfl,_,rfl,?_⟩
    ·exact .inl ⟨_,Sum.inl x,.inl hd4,rfl,hg.symm⟩
    have h2:=Zcq td (i + 1) x
    rw [decide_eq_false (by rw [List.length_map]; omega:¬ ((((pl ns (i + 1) x).map nV).length:Nat):Int) > 2)]
    refine iteF ?_
    exact ⟨f',_,_,rfl,sm2,hd4,sf2,hf2⟩
   ·rintro σ H1 ⟨f,v2,v3,rfl,sm,hd1,sf,hf0⟩
    rw [el] at hd1 sf hf0
    exact hnx _ _ ⟨f,v2,v3,rfl,sm,hd1,sf,hf0⟩
  rintro σ H1 ⟨f,v2,v3,rfl,sm,hd1,sf,hf0⟩
  exact ⟨_,rfl,k d f H1 sm hd hd1 sf hf0⟩
noncomputable def Zdu:Sp:=λvs H Q _=>∃ (d:Addr) (M:List (Option Nat)) (ns:List Int) (f:Int->Addr),vs=[.ref d,.int ns.length]/\H d=some (.dK (spk ns ns.length f))/\SpotsF H ns ns.length f/\TD M ns/\ns.length<=120 /\
 ∀ (m:Addr) (o:Obj) (H':Hp),(∀ b u,b≠d->H b=some u->H' b=some u)->H m=none->H' m=some (.lst (M.map mV))->H' d=some (.frz o (.dK (spk ns ns.length f)))->Q (.ref m) H'
theorem Vi:FnScope ["spots","count","mates","pair"] ["spots","count"] (Zg Go):=⟨rfl,rfl,rfl,by decide +kernel,rfl,by decide +kernel,by decide +kernel⟩
theorem Zd8 (T:Txt w K mg t):FnOk P w K mg base (CXr P w) 1 t.f_mates_of t.d_mates_of ["spots","count"] Zdu:=by
 refine T.p_mates_of.F.okR Vi (λvs H Q E h=>?_) (λcdv A outer s H vs Q E hr h=>?_)
 ·obtain ⟨d,M,ns,f,rfl,_⟩:=h
  rfl
 ·obtain ⟨d,M,ns,f,rfl,hd,sf,td,hl,k⟩:=h
  refine ⟨_,(Zf (Zu (i:=2) Vi.nd rfl (Or.inl rfl) (Zi Zhx (Xd (Za W7 Zb)) (pv 1)))
   (Zf (Xb PassesOwn.never rfl (Zmh (pv 0) ⟨rfl,rfl,rfl⟩) (Zq (i:=3) Vi.nd rfl (Or.inl rfl)) (Zh (Yj (Zk Ye (Zt Zl (by rfl) T.n_len PySem.boot_len (Za (pv 3) Zb)) Zd (Zn _)) (Zf (Jz (Z9 Z8 (pv 3) Zd (λ_ _=>rfl)) (Ob (pv 2) (Z9 Z8 (pv 3) Zd (λ_ _=>rfl)) Wv))
   (Zh (Jz (Z9 Z8 (pv 3) Zd (λ_ _=>rfl)) (Ob (pv 2) (Z9 Z8 (pv 3) Zd (λ_ _=>rfl)) Wv)))) Z7)))
   (Zh (Zr (pv 2))))),?_⟩
  refine ⟨(by show 1<=sizeLine; decide),λq hq=>?_⟩
  refine ⟨_,rfl,q,_,_,rfl,rfl,Zc,by omega,by omega,?_,λm hm=>?_⟩
  ·have:((ns.length:Nat):Int).toNat=ns.length:=by omega
   show 1 * ((ns.length:Nat):Int).toNat<=sizeLine
   rw [this,sizeLine_eq]; omega
  obtain ⟨hmq,hm0⟩:=Wt hm
  have eM:(List.replicate ((ns.length:Nat):Int).toNat [V.non]).flatten=(part M ns []).map mV:=by
   have:((ns.length:Nat):Int).toNat=M.length:=by rw [<- td.len]; omega
   rw [this,List.flatten_replicate_singleton,Zj4 td,List.map_replicate]
   rfl
  rw [eM]
  have hdm:d≠m:=Zj hd hm0
  have hdq:d≠q:=Zj hd hq
  dsimp only [Zv]
  show tSeq (tFor _ _ _) _ _ _ _
  refine Zz (λσ H1=>∃ (o:Obj) (v:Option V),σ=[some (.ref d),some (.int ns.length),some (.ref m),v]/\(∀ b u,b≠d->H b=some u->H1 b=some u)/\H1 m=some (.lst (M.map mV))/\H1 d=some (.frz o (.dK (spk ns ns.length f)))) (λnx hnx=>?_) ?_
  ·refine ⟨_,rfl,d,_,rfl,.inl ⟨by rw [Ze hdm,Ze hdq]; exact hd,λo=>?_⟩⟩
   refine Zkw (λj σ H1=>∃ (v:Option V),σ=[some (.ref d),some (.int ns.length),some (.ref m),v]/\(∀ b u,b≠d->H b=some u->H1 b=some u)/\H1 m=some (.lst ((part M ns ((keys ns ns.length).take j)).map mV))/\H1 d=some (.frz o (.dK (spk ns ns.length f))))
    ⟨none,rfl,λb u hb e=>?_,?_,Zc⟩ ?_ ?_ ?_
   ·rw [Ze hb,Ze (Zj e hm0),Ze (Zj e hq)]; exact e
   ·rw [Ze (Ne.symm hdm),Zc]
    rfl
   ·rintro j σ H1 _ ⟨v,rfl,old,h1,h2⟩
    exact h2
   ·rintro j k0 x0 σ H1 hk ⟨v,rfl,old,h1,h2⟩
    obtain ⟨x,hx,rfl⟩:∃ x,(keys ns ns.length)[j]?=some x/\x0=V.ref (f x):=by
     unfold spk at hk
     rw [List.getElem?_map] at hk
     cases e:(keys ns ns.length)[j]? with
     | none=>rw [e] at hk; cases hk
     | some x=>rw [e] at hk; cases hk; exact ⟨x,rfl,rfl⟩
    have hm1:x∈keys ns ns.length:=List.mem_of_getElem? hx
    have et:(keys ns ns.length).take (j + 1)=(keys ns ns.length).take j ++ [x]:=by
     rw [List.take_add_one,hx]; rfl
    have hfx:=sf.at' x hm1
    have hfd:f x≠d:=λz=>by rw [z,hd] at hfx; cases hfx
    have hf1:=old _ _ hfd hfx
    dsimp only [Zv]
    refine ⟨_,rfl,f x,_,rfl,.inl (SqL.of hf1),rfl,_,rfl,?_⟩
    rcases V2 td hm1 with ⟨a,e,ea,ma⟩ | ⟨a,b,hab,e,ea,eb,ma,mb⟩
    ·rw [e] at hf1 ⊢
     refine iteF ?_
     refine ⟨_,rfl,old,?_,h2⟩
     rw [et,Zj3 td e ma]
     exact h1
    ·rw [e] at hf1 ⊢
     refine iteT ?_
     have la:a < (part M ns ((keys ns ns.length).take j)).length:=by rw [Xw]; exact (List.getElem?_eq_some_iff.mp ma).1
     have lb:b < (part M ns ((keys ns ns.length).take j)).length:=by rw [Xw]; exact (List.getElem?_eq_some_iff.mp mb).1
     have hfm:f x≠m:=Zj hfx hm0
     refine ⟨_,rfl,f x,_,_,_,rfl,rfl,SqL.of hf1,rfl,?_⟩
     refine ⟨_,rfl,_,rfl,f x,_,_,_,rfl,rfl,SqL.of hf1,rfl,m,_,_,a,rfl,rfl,h1,(by rw [List.length_map]; exact Qp la),?_⟩
     have hf2:(upd H1 m (.lst (((part M ns ((keys ns ns.length).take j)).map mV).set a (nV b)))) (f x)=some (.lst ([a,b].map nV)):=by rw [Ze hfm]; exact hf1
     refine ⟨_,rfl,f x,_,_,_,rfl,rfl,SqL.of hf2,rfl,?_⟩
     refine ⟨_,rfl,_,rfl,f x,_,_,_,rfl,rfl,SqL.of hf2,rfl,m,_,_,b,rfl,rfl,Zc,(by rw [List.length_set,List.length_map]; exact Qp lb),?_⟩
     refine ⟨_,rfl,λc u hc ec=>?_,?_,?_⟩
     ·have:c≠m:=Zj ec hm0
      rw [Ze this,Ze this]
      exact old c u hc ec
     ·rw [Zc,et,Zhv td e hab ma mb]
      show some (HO.lst ((((part M ns ((keys ns ns.length).take j)).map mV).set a (mV (some b))).set b (mV (some a))))=_
      rw [map_set,map_set]
     ·rw [Ze hdm,Ze hdm]; exact h2
   ·rintro σ H1 ⟨v,rfl,old,h1,h2⟩
    refine hnx _ _ ⟨o,v,rfl,old,?_,h2⟩
    have:(keys ns ns.length).take (spk ns ns.length f).length=keys ns ns.length:=by
     unfold spk; rw [List.length_map,List.take_length]
    rw [this,Zj5 td] at h1
    exact h1
  rintro σ H1 ⟨o,v,rfl,old,h1,h2⟩
  exact ⟨_,rfl,k m o H1 old hm0 h1 h2⟩
noncomputable def Wg (cl na sp mt:Addr):List (Str × V):=putF "mates" (.ref mt) (putF "spots" (.ref sp) (putF "names_at" (.ref na) (putF "cloths" (.ref cl) [])))
theorem Y7 (f:Str) (v:V):∀ fs:List (Str × V),(putF f v fs).length<=fs.length + 1
 | []=>by simp [putF]
 | (g,x) :: r=>by
  have:=Y7 f v r
  unfold putF
  split
  ·simp
  ·simp only [List.length_cons]; omega
theorem s_cn:¬ ("cloths":Str)="names_at":=by decide
theorem s_cs:¬ ("cloths":Str)="spots":=by decide
theorem s_cm:¬ ("cloths":Str)="mates":=by decide
theorem s_ns:¬ ("names_at":Str)="spots":=by decide
theorem s_nm:¬ ("names_at":Str)="mates":=by decide
theorem s_sm:¬ ("spots":Str)="mates":=by decide
theorem Ziz (cl na sp mt:Addr):(Wg cl na sp mt).lookup ("cloths":Str)=some (.ref cl):=by
 unfold Wg; rw [Z5,if_neg s_cm,Z5,if_neg s_cs,Z5,if_neg s_cn,Z5,if_pos rfl]
theorem K7 (cl na sp mt:Addr):(Wg cl na sp mt).lookup ("names_at":Str)=some (.ref na):=by
 unfold Wg; rw [Z5,if_neg s_nm,Z5,if_neg s_ns,Z5,if_pos rfl]
theorem K6 (cl na sp mt:Addr):(Wg cl na sp mt).lookup ("spots":Str)=some (.ref sp):=by
 unfold Wg; rw [Z5,if_neg s_sm,Z5,if_pos rfl]
theorem Zkz (cl na sp mt:Addr):(Wg cl na sp mt).lookup ("mates":Str)=some (.ref mt):=by
 unfold Wg; rw [Z5,if_pos rfl]
theorem Yq (cl na sp mt:Addr) {m:Str} (h:m≠"cloths"/\m≠"names_at"/\m≠"spots"/\m≠"mates":=by decide):(Wg cl na sp mt).lookup m=none:=by
 obtain ⟨h1,h2,h3,h4⟩:=h
 unfold Wg; rw [Z5,if_neg h4,Z5,if_neg h3,Z5,if_neg h2,Z5,if_neg h1]; rfl
structure TentB (C:Addr) (H:Hp) (p:Addr) (M:List (Option Nat)) (ns:List Int) (dx cl na sp mt:Addr) (o:Obj) (f:Int->Addr):Prop where
 ins:H p=some (.ins C dx (Wg cl na sp mt))
 rows:Y2 H cl ns
 names:H na=some (.lst (ns.map V.int))
 spots:H sp=some (.frz o (.dK (spk ns ns.length f)))
 mates:H mt=some (.lst (M.map mV))
 at':∀ x∈keys ns ns.length,H (f x)=some (.lst ((pl ns ns.length x).map nV))
noncomputable def Zy (C:Addr) (H:Hp) (p:Addr) (M:List (Option Nat)) (ns:List Int):Prop:=∃ dx cl na sp mt o f,TentB C H p M ns dx cl na sp mt o f
theorem Zy.same {C:Addr} {H H':Hp} {p:Addr} {M:List (Option Nat)} {ns:List Int} (h:Zy C H p M ns) (s:Same H H'):Zy C H' p M ns:=by
 obtain ⟨dx,cl,na,sp,mt,o,f,b⟩:=h
 exact ⟨dx,cl,na,sp,mt,o,f,s _ _ b.ins,b.rows.same s,s _ _ b.names,s _ _ b.spots,s _ _ b.mates,λx hx=>s _ _ (b.at' x hx)⟩
theorem Zjl {ns:List Int} {k n:Nat} (h:ns.length=3 * n) (hk:k < n):(ns.take (3 * k)).map V.int ++ row3 ns k=(ns.take (3 * (k + 1))).map V.int:=by
 have e:ns.take (3 * (k + 1))=ns.take (3 * k) ++ [ns.getD (3 * k) 0,ns.getD (3 * k + 1) 0,ns.getD (3 * k + 2) 0]:=by
  have l0:3 * k < ns.length:=by omega
  have l1:3 * k + 1 < ns.length:=by omega
  have l2:3 * k + 2 < ns.length:=by omega
  have g:∀ i,i < ns.length->ns[i]?=some (ns.getD i 0):=λi hi=>by rw [List.getD_eq_getElem?_getD,List.getElem?_eq_getElem hi]; rfl
  rw [show 3 * (k + 1)=3 * k + 1 + 1 + 1 by omega,List.take_add_one,List.take_add_one,List.take_add_one,g _ l0,g _ l1,g _ l2,List.append_assoc,List.append_assoc]
  rfl
 rw [e,List.map_append]
 rfl
noncomputable def Zbw (C:Addr):Sp:=λvs H Q _=>∃ (p r dx:Addr) (M:List (Option Nat)) (ns:List Int),vs=[.ref p,.ref r]/\H p=some (.ins C dx [])/\Y2 H r ns/\TD M ns/\ns.length<=120 /\
 ∀ (H':Hp),(∀ b u,b≠p->H b=some u->H' b=some u)->Zy C H' p M ns->Q .non H'
theorem Zb4:FnScope ["self","rows"] ["self","rows"] (Zg Kd):=⟨rfl,rfl,rfl,by decide +kernel,rfl,by decide +kernel,by decide +kernel⟩
theorem Oe (T:Txt w K mg t):FnOk P w K mg base (CXr P w) 2 t.f_Tent_init t.d_Tent_init ["self","rows"] (Zbw t.C_Tent):=by
  refine T.p_Tent_init.F.okR Zb4 (λvs H Q E h=>?_) (λcdv A outer s H vs Q E hr h=>?_)
  · obtain ⟨p,r,dx,M,ns,rfl,_⟩:=h
    rfl
  · obtain ⟨p,r,dx,M,ns,rfl,hp,⟨ts,hr1,hr2,hr3⟩,td,hl,k⟩:=h
    refine ⟨_,(Zf (Yj (Jy (V1 (pv 1) (λ_=>rfl))) Y4 Z7)
      (Zf (Xs (pv 0) (Y6 (ts:=["row"]) (fv:=[]) ⟨rfl,by decide +kernel,by decide +kernel,Yk (by rfl),trivial⟩ rfl (Yp (pv 1)) (λ_ _ _ _=>(Zq (i:=0) (show List.Nodup (["row"]:List Str) from by decide +kernel) rfl (Or.inl rfl) (Or.inr rfl))) (λ_ _ _ _=>Yu) (λ_ _ _=>rfl) (λ_ _ _ _ _ _=>Ys (Yw (F2 K) (by rfl) T.n_tuple PySem.Pv.boot_tuple (Za (pv 0) Zb)))) rfl)
      (Zf (Xs (pv 0) (Y6 (ts:=["row","name"]) (fv:=[]) ⟨rfl,by decide +kernel,by decide +kernel,Yk (by rfl),trivial⟩ rfl (Yp (Yr (pv 0) rfl)) (λ_ _ _ _=>(Zq (i:=0) (show List.Nodup (["row","name"]:List Str) from by decide +kernel) rfl (Or.inl rfl) (Or.inr rfl))) (λ_ _ _ _=>Yu) (λ_ _ _=>rfl) (λ_ _ _ _ _ _=>Zhu rfl rfl (Ze4 K (pv 0)) (Zq (i:=1) (show List.Nodup (["row","name"]:List Str) from by decide +kernel) rfl (Or.inl rfl) (Or.inr rfl)) Yu (pv 1))) rfl)
      (Zf (Xs (pv 0) (Zo (Zd6 T) (hr.mono (by decide)) rfl T.p_spots_of.g T.p_spots_of.F.kp T.p_spots_of.b .nil Zs (Za (Yr (pv 0) rfl) Zb)) rfl)
      (Zh (Xs (pv 0) (Zo (Zd8 T) (hr.mono (by decide)) rfl T.p_mates_of.g T.p_mates_of.F.kp T.p_mates_of.b .nil Zs (Za (Yr (pv 0) rfl) (Za (Zt Zl (by rfl) T.n_len PySem.boot_len (Za (Yr (pv 0) rfl) Zb)) Zb))) rfl)))))),?_⟩
    obtain ⟨n,n1,n2,hn⟩:=td.n
    have hnn:ns.length=3 * n:=by rw [td.len,hn]
    have htn:ts.length=n:=by omega
    have hrp:r≠p:=λz=>by rw [z,hp] at hr1; cases hr1
    refine ⟨_,rfl,true,.inl ⟨_,SqL.of hr1,?_⟩,?_⟩
    · cases ts with
      | nil=>simp at htn; omega
      | cons _ _=>rfl
    refine iteF ?_
    dsimp only [Jp]
    refine ⟨_,rfl,r,rfl,⟨_,SqL.of hr1⟩,λD hD=>?_⟩
    have hDp:D≠p:=λz=>by rw [z,hp] at hD; cases hD
    refine Yt (xs:=ts.map V.ref) (λi σ H1=>∃ (v:Option V),σ=[v]/\Same H H1/\H1 D=some (.lst ((ts.take i).map V.ref))) ⟨none,rfl,Same.new hD,Zc⟩ ?_ ?_ ?_
    · rintro i σ H1 _ ⟨v,rfl,sm,h1⟩
      exact SqL.of (sm _ _ hr1)
    · rintro i x σ H1 hx ⟨v,rfl,sm,h1⟩
      dsimp only [Zv,tYes]
      rw [if_pos rfl]
      obtain ⟨tt,ht,rfl⟩:=Yf hx
      refine ⟨_,rfl,tt,_,rfl,.inr ⟨SqT.of (sm _ _ (hr3 i tt ht)),_,h1,(by rw [List.length_map,List.length_take]; exact Zx (by omega)),_,rfl,Same.add sm hD,?_⟩⟩
      rw [Zc,List.take_add_one,ht,List.map_append]
      rfl
    rintro σ H1 ⟨v,rfl,sm1,h1⟩
    rw [List.length_map,List.take_length] at h1
    have hp1:=sm1 _ _ hp
    refine ⟨_,rfl,p,_,dx,_,rfl,hp1,T.cl_Tent,T.a_Tent_cloths,by decide,?_⟩
    have old2:∀ b u,b≠p->H b=some u->(upd H1 p (.ins t.C_Tent dx (putF "cloths" (.ref D) []))) b=some u:=λb u hb e=>by rw [Ze hb]; exact sm1 b u e
    have hD2:(upd H1 p (.ins t.C_Tent dx (putF "cloths" (.ref D) []))) D=some (.lst (ts.map V.ref)):=by rw [Ze hDp]; exact h1
    have hp2:(upd H1 p (.ins t.C_Tent dx (putF "cloths" (.ref D) []))) p=some (.ins t.C_Tent dx (putF "cloths" (.ref D) [])):=Zc
    have ht2:∀ (k:Nat) (q:Addr),ts[k]?=some q->(upd H1 p (.ins t.C_Tent dx (putF "cloths" (.ref D) []))) q=some (.tup (row3 ns k)):=λk q e=>by
      have e1:=hr3 k q e
      have:q≠p:=λz=>by rw [z,hp] at e1; cases e1
      exact old2 q _ this e1
    generalize upd H1 p (.ins t.C_Tent dx (putF "cloths" (.ref D) []))=H2 at old2 hD2 hp2 ht2 ⊢
    refine ⟨_,rfl,p,_,dx,_,_,rfl,hp2,T.cl_Tent,T.a_Tent_cloths,rfl,D,rfl,⟨_,SqL.of hD2⟩,λN hN=>?_⟩
    have hND:N≠D:=λz=>by rw [z,hD2] at hN; cases hN
    have hNp:N≠p:=λz=>by rw [z,hp2] at hN; cases hN
    refine Yt (xs:=ts.map V.ref) (λi σ H3=>∃ (v v':Option V),σ=[v,v']/\Same H2 H3/\H3 N=some (.lst ((ns.take (3 * i)).map V.int))) ⟨none,none,rfl,Same.new hN,Zc⟩ ?_ ?_ ?_
    · rintro i σ H3 _ ⟨v,v',rfl,sm,h3⟩
      exact SqL.of (sm _ _ hD2)
    · rintro i x σ H3 hx ⟨v,v',rfl,sm,h3⟩
      dsimp only [Zv,tYes]
      rw [if_pos rfl]
      obtain ⟨tt,ht,rfl⟩:=Yf hx
      have hi:i < n:=by rw [<- htn]; exact (List.getElem?_eq_some_iff.mp ht).1
      refine ⟨_,rfl,tt,rfl,⟨_,SqT.of (sm _ _ (ht2 i tt ht))⟩,?_⟩
      refine Zc8 (xs:=row3 ns i) (λj σ H4=>∃ (v':Option V),σ=[some (.ref tt),v']/\Same H2 H4/\H4 N=some (.lst ((ns.take (3 * i)).map V.int ++ (row3 ns i).take j))) ⟨v',rfl,sm,by rw [h3,List.take_zero,List.append_nil]⟩ ?_ ?_ ?_
      · rintro j σ H4 _ ⟨v',rfl,sm,h4⟩
        exact SqT.of (sm _ _ (ht2 i tt ht))
      · rintro j x σ H4 hx ⟨v',rfl,sm,h4⟩
        dsimp only [Zv,tYes]
        rw [if_pos rfl]
        refine ⟨_,rfl,_,h4,?_,_,rfl,Same.add sm hN,?_⟩
        · rw [List.length_append,List.length_map,List.length_take,List.length_take]
          exact Zx (by have:(row3 ns i).length=3:=rfl; omega)
        · rw [Zc,List.take_add_one,hx,<- List.append_assoc]
          rfl
      · rintro σ H4 ⟨v',rfl,sm,h4⟩
        refine ⟨_,_,rfl,sm,?_⟩
        rw [h4,List.take_length,Zjl hnn hi]
    rintro σ H3 ⟨v,v',rfl,sm3,h3⟩
    have eall:ns.take (3 * (ts.map V.ref).length)=ns:=by rw [List.length_map,htn,<- hnn,List.take_length]
    rw [eall] at h3
    have hp3:=sm3 _ _ hp2
    refine ⟨_,rfl,p,_,dx,_,rfl,hp3,T.cl_Tent,T.a_Tent_names_at,(by have h1:=Y7 "cloths" (.ref D) []; simp only [List.length_nil] at h1; omega),?_⟩
    have old4:∀ b u,b≠p->H2 b=some u->(upd H3 p (.ins t.C_Tent dx (putF "names_at" (.ref N) (putF "cloths" (.ref D) [])))) b=some u:=λb u hb e=>by rw [Ze hb]; exact sm3 b u e
    have hN4:(upd H3 p (.ins t.C_Tent dx (putF "names_at" (.ref N) (putF "cloths" (.ref D) [])))) N=some (.lst (ns.map V.int)):=by rw [Ze hNp]; exact h3
    have hp4:(upd H3 p (.ins t.C_Tent dx (putF "names_at" (.ref N) (putF "cloths" (.ref D) [])))) p=some (.ins t.C_Tent dx (putF "names_at" (.ref N) (putF "cloths" (.ref D) []))):=Zc
    generalize upd H3 p (.ins t.C_Tent dx (putF "names_at" (.ref N) (putF "cloths" (.ref D) [])))=H4 at old4 hN4 hp4 ⊢
    have lk1:(putF "names_at" (.ref N) (putF "cloths" (.ref D) [])).lookup ("names_at":Str)=some (.ref N):=by rw [Z5,if_pos rfl]
    refine ⟨_,rfl,p,_,dx,_,_,rfl,hp4,T.cl_Tent,T.a_Tent_names_at,lk1,N,M,ns,rfl,hN4,td,hl,λd f H5 sm5 hd5 hd5' sf hf0=>?_⟩
    have hp5:=sm5 _ _ hp4
    refine ⟨_,rfl,p,_,dx,_,rfl,hp5,T.cl_Tent,T.a_Tent_spots,(by have h1:=Y7 "cloths" (.ref D) []; have h2:=Y7 "names_at" (.ref N) (putF "cloths" (.ref D) []); simp only [List.length_nil] at h1; omega),?_⟩
    have hdp:d≠p:=λz=>by rw [z,hp4] at hd5; cases hd5
    have hfp:∀ x∈keys ns ns.length,f x≠p:=λx hx z=>by have:=hf0 x hx; rw [z,hp4] at this; cases this
    have old6:∀ b u,b≠p->H4 b=some u->(upd H5 p (.ins t.C_Tent dx (putF "spots" (.ref d) (putF "names_at" (.ref N) (putF "cloths" (.ref D) []))))) b=some u:=λb u hb e=>by rw [Ze hb]; exact sm5 b u e
    have hp6:(upd H5 p (.ins t.C_Tent dx (putF "spots" (.ref d) (putF "names_at" (.ref N) (putF "cloths" (.ref D) []))))) p=some (.ins t.C_Tent dx (putF "spots" (.ref d) (putF "names_at" (.ref N) (putF "cloths" (.ref D) [])))):=Zc
    have hd6:(upd H5 p (.ins t.C_Tent dx (putF "spots" (.ref d) (putF "names_at" (.ref N) (putF "cloths" (.ref D) []))))) d=some (.dK (spk ns ns.length f)):=by rw [Ze hdp]; exact hd5'
    have sf6:SpotsF (upd H5 p (.ins t.C_Tent dx (putF "spots" (.ref d) (putF "names_at" (.ref N) (putF "cloths" (.ref D) []))))) ns ns.length f:=⟨sf.inj,λx hx=>by rw [Ze (hfp x hx)]; exact sf.at' x hx⟩
    generalize upd H5 p (.ins t.C_Tent dx (putF "spots" (.ref d) (putF "names_at" (.ref N) (putF "cloths" (.ref D) []))))=H6 at old6 hp6 hd6 sf6 ⊢
    have lk2:(putF "spots" (.ref d) (putF "names_at" (.ref N) (putF "cloths" (.ref D) []))).lookup ("spots":Str)=some (.ref d):=by rw [Z5,if_pos rfl]
    have lk3:(putF "spots" (.ref d) (putF "names_at" (.ref N) (putF "cloths" (.ref D) []))).lookup ("names_at":Str)=some (.ref N):=by rw [Z5,if_neg s_ns,Z5,if_pos rfl]
    have hN6:=old6 _ _ hNp hN4
    have eln:(((ns.map V.int).length:Nat):Int)=(ns.length:Nat):=by rw [List.length_map]
    refine ⟨_,rfl,p,_,dx,_,_,rfl,hp6,T.cl_Tent,T.a_Tent_spots,lk2,_,rfl,p,_,dx,_,_,rfl,hp6,T.cl_Tent,T.a_Tent_names_at,lk3,N,_,rfl,.inl (SqL.of hN6),d,M,ns,f,(by rw [eln]; rfl),hd6,sf6,td,hl,λm o H7 old7 hm7 hmm hdd=>?_⟩
    have hpd:p≠d:=Ne.symm hdp
    have hp7:=old7 _ _ hpd hp6
    refine ⟨_,rfl,p,_,dx,_,rfl,hp7,T.cl_Tent,T.a_Tent_mates,(by have h1:=Y7 "cloths" (.ref D) []; have h2:=Y7 "names_at" (.ref N) (putF "cloths" (.ref D) []); have h3:=Y7 "spots" (.ref d) (putF "names_at" (.ref N) (putF "cloths" (.ref D) [])); simp only [List.length_nil] at h1; omega),?_⟩
    have hmp:m≠p:=λz=>by rw [z,hp6] at hm7; cases hm7
    have dN:N≠d:=λz=>by rw [z,hd6] at hN6; cases hN6
    have old8:∀ b u,b≠p->b≠d->H6 b=some u->(upd H7 p (.ins t.C_Tent dx (Wg D N d m))) b=some u:=λb u hb hbd e=>by rw [Ze hb]; exact old7 b u hbd e
    have old46:∀ b u,b≠p->H4 b=some u->H6 b=some u/\b≠d:=λb u hb e=>⟨old6 b u hb e,λz=>by rw [z,hd5] at e; cases e⟩
    have old28:∀ b u,b≠p->H2 b=some u->(upd H7 p (.ins t.C_Tent dx (Wg D N d m))) b=some u:=λb u hb e=>by
      obtain ⟨e6,hbd⟩:=old46 b u hb (old4 b u hb e)
      exact old8 b u hb hbd e6
    refine k _ (λb u hb e=>old28 b u hb (old2 b u hb e)) ⟨dx,D,N,d,m,o,f,Zc,⟨ts,old28 _ _ hDp hD2,by omega,λk q e=>?_⟩,?_,?_,?_,?_⟩
    · have e1:=ht2 k q e
      exact old28 q _ (λz=>by rw [z,hp2] at e1; cases e1) e1
    · exact old8 _ _ hNp dN hN6
    · rw [Ze hdp]; exact hdd
    · rw [Ze hmp]; exact hmm
    · intro x hx
      have e1:=sf6.at' x hx
      exact old8 _ _ (hfp x hx) (λz=>by rw [z,hd6] at e1; cases e1) e1
noncomputable def Yo (ns:List Int) (x:Int):Str:=match pl ns ns.length x with
 | [a,b]=>if a / 3=b / 3 then "locked" else "free"
 | _=>"rim"
noncomputable def Zjr:Sp:=λvs H Q _=>∃ p:Int,vs=[.int p]/\Q (.int (after p)) H
noncomputable def Zha:Sp:=λvs H Q _=>∃ p:Int,vs=[.int p]/\Q (.int (Z2 p)) H
noncomputable def Zdy:Sp:=λvs H Q _=>∃ p:Int,vs=[.int p]/\Q (.int (p / 3)) H
noncomputable def Zbu (C:Addr):Sp:=λvs H Q _=>∃ (p:Addr) (M:List (Option Nat)) (ns:List Int),vs=[.ref p]/\Zy C H p M ns /\
 ∀ (l:Addr) (ts:List Addr),H l=none->ns.length=3 * ts.length->(∀ (k:Nat) (t:Addr),ts[k]?=some t->H t=some (.tup (row3 ns k)))->Q (.ref l) (upd H l (.lst (ts.map V.ref)))
noncomputable def Za4 (C:Addr):Sp:=λvs H Q _=>∃ (p:Addr) (M:List (Option Nat)) (ns:List Int),vs=[.ref p]/\Zy C H p M ns/\ns.length < 64 /\
 ∀ (l:Addr) (out:List Int),H l=none->out.Perm (keys ns ns.length)->out.Pairwise (·<=·)->Q (.ref l) (upd H l (.lst (out.map V.int)))
noncomputable def Oz (C:Addr):Sp:=λvs H Q _=>∃ (p:Addr) (M:List (Option Nat)) (ns:List Int) (x:Int),vs=[.ref p,.int x]/\Zy C H p M ns/\Q (.bl (decide (0<=x/\x < ns.length))) H
noncomputable def Uu (C EP:Addr):Sp:=λvs H Q E=>∃ (p:Addr) (M:List (Option Nat)) (ns:List Int) (x:Int),vs=[.ref p,.int x]/\Zy C H p M ns/\(0<=x/\x < ns.length->Q .non H)/\(¬ (0<=x/\x < ns.length)->E (.ref EP) none H)
noncomputable def Gg (C EP:Addr):Sp:=λvs H Q E=>∃ (p:Addr) (M:List (Option Nat)) (ns:List Int) (x:Int),vs=[.ref p,.int x]/\Zy C H p M ns/\(∀ (i:Nat) (y:Int),x=i->ns[i]?=some y->Q (.int y) H)/\(¬ (0<=x/\x < ns.length)->E (.ref EP) none H)
noncomputable def Zbv (C EP:Addr):Sp:=λvs H Q E=>∃ (p:Addr) (M:List (Option Nat)) (ns:List Int) (x:Int),vs=[.ref p,.int x]/\Zy C H p M ns/\M.length=ns.length/\(∀ (i:Nat) (y:Option Nat),x=i->M[i]?=some y->Q (mV y) H)/\(¬ (0<=x/\x < ns.length)->E (.ref EP) none H)
noncomputable def Fn (C ES:Addr):Sp:=λvs H Q E=>∃ (p:Addr) (M:List (Option Nat)) (ns:List Int) (x:Int),vs=[.ref p,.int x]/\Zy C H p M ns/\(x∈keys ns ns.length->∀ l,H l=none->Q (.ref l) (upd H l (.lst ((pl ns ns.length x).map nV))))/\(x ∉ keys ns ns.length->E (.ref ES) none H)
noncomputable def Gf (C ES:Addr):Sp:=λvs H Q E=>∃ (p:Addr) (M:List (Option Nat)) (ns:List Int) (x:Int),vs=[.ref p,.int x]/\Zy C H p M ns/\TD M ns/\(x∈keys ns ns.length->∀ H',Same H H'->Q (.str (Yo ns x)) H')/\(x ∉ keys ns ns.length->E (.ref ES) none H)
theorem Zjt:FnScope ["place"] ["place"] (Zg Zev):=⟨rfl,rfl,rfl,by decide +kernel,rfl,by decide +kernel,by decide +kernel⟩
theorem K0 (T:Txt w K mg t):FnOk P w K mg base (CXr P w) 1 t.f_after t.d_after ["place"] Zjr:=by
 refine T.p_after.F.okR Zjt (λvs H Q E h=>?_) (λcdv A outer s H vs Q E hr h=>?_)
 ·obtain ⟨p,rfl,_⟩:=h
  rfl
 ·obtain ⟨p,rfl,k⟩:=h
  refine ⟨_,(Zh (Zr (Qy (Zk Ye (Zi Z6 (pv 0) Zd) Zd (Zn _)) (Zi J1 (pv 0) Zd) (Zi Yn (pv 0) Zd)))),?_⟩
  refine ⟨_,rfl,_,_,rfl,rfl,(by show (0:Int) < 3; decide),rfl,_,rfl,?_⟩
  refine ite2 (λh=>?_) (λh=>?_)
  ·have h:p % 3=2:=by simpa using h
   refine ⟨_,rfl,_,_,rfl,rfl,?_⟩
   have e:after p=p - 2:=if_pos h
   rw [e] at k; exact k
  ·have h:¬ p % 3=2:=by simpa using h
   refine ⟨_,rfl,_,_,rfl,rfl,?_⟩
   have e:after p=p + 1:=if_neg h
   rw [e] at k; exact k
theorem Zhh:FnScope ["place"] ["place"] (Zg Zcj):=⟨rfl,rfl,rfl,by decide +kernel,rfl,by decide +kernel,by decide +kernel⟩
theorem Zak (T:Txt w K mg t):FnOk P w K mg base (CXr P w) 1 t.f_before t.d_before ["place"] Zha:=by
 refine T.p_before.F.okR Zhh (λvs H Q E h=>?_) (λcdv A outer s H vs Q E hr h=>?_)
 ·obtain ⟨p,rfl,_⟩:=h
  rfl
 ·obtain ⟨p,rfl,k⟩:=h
  refine ⟨_,(Zh (Zr (Qy (Zk Ye (Zi Z6 (pv 0) Zd) Zd (Zn _)) (Zi Yn (pv 0) Zd) (Zi J1 (pv 0) Zd)))),?_⟩
  refine ⟨_,rfl,_,_,rfl,rfl,(by show (0:Int) < 3; decide),rfl,_,rfl,?_⟩
  refine ite2 (λh=>?_) (λh=>?_)
  ·have h:p % 3=0:=by simpa using h
   refine ⟨_,rfl,_,_,rfl,rfl,?_⟩
   have e:Z2 p=p + 2:=if_pos h
   rw [e] at k; exact k
  ·have h:¬ p % 3=0:=by simpa using h
   refine ⟨_,rfl,_,_,rfl,rfl,?_⟩
   have e:Z2 p=p - 1:=if_neg h
   rw [e] at k; exact k
theorem Zd2:FnScope ["place"] ["place"] (Zg Gs):=⟨rfl,rfl,rfl,by decide +kernel,rfl,by decide +kernel,by decide +kernel⟩
theorem Xk (T:Txt w K mg t):FnOk P w K mg base (CXr P w) 1 t.f_cloth_of t.d_cloth_of ["place"] Zdy:=by
 refine T.p_cloth_of.F.okR Zd2 (λvs H Q E h=>?_) (λcdv A outer s H vs Q E hr h=>?_)
 ·obtain ⟨p,rfl,_⟩:=h
  rfl
 ·obtain ⟨p,rfl,k⟩:=h
  refine ⟨_,(Zh (Zr (Zi Ym (pv 0) Zd))),?_⟩
  exact ⟨_,rfl,_,_,rfl,rfl,⟨by decide,by decide⟩,k⟩
theorem Zb2:FnScope ["self"] ["self"] (Zg Kb):=⟨rfl,rfl,rfl,by decide +kernel,rfl,by decide +kernel,by decide +kernel⟩
theorem Zc2 (T:Txt w K mg t):FnOk P w K mg base (CXr P w) 1 t.f_Tent_rows t.d_Tent_rows ["self"] (Zbu t.C_Tent):=by
 refine T.p_Tent_rows.F.okR Zb2 (λvs H Q E h=>?_) (λcdv A outer s H vs Q E hr h=>?_)
 ·obtain ⟨p,M,ns,rfl,_⟩:=h
  rfl
 ·obtain ⟨p,M,ns,rfl,⟨dx,cl,na,sp,mt,o,f,b⟩,k⟩:=h
  refine ⟨_,(Zh (Zr (Yw Yz (by rfl) T.n_list PySem.Pv.boot_list (Za (Yr (pv 0) rfl) Zb)))),?_⟩
  obtain ⟨ts,h1,h2,h3⟩:=b.rows
  exact ⟨_,rfl,p,_,dx,_,_,rfl,b.ins,T.cl_Tent,T.a_Tent_cloths,Ziz ..,cl,_,rfl,.inl (SqL.of h1),λl hl=>k l ts hl h2 h3⟩
theorem Za9:FnScope ["self"] ["self"] (Zg U3):=⟨rfl,rfl,rfl,by decide +kernel,rfl,by decide +kernel,by decide +kernel⟩
theorem Ul (T:Txt w K mg t):FnOk P w K mg base (CXr P w) 1 t.f_Tent_seams t.d_Tent_seams ["self"] (Za4 t.C_Tent):=by
 refine T.p_Tent_seams.F.okR Za9 (λvs H Q E h=>?_) (λcdv A outer s H vs Q E hr h=>?_)
 ·obtain ⟨p,M,ns,rfl,_⟩:=h
  rfl
 ·obtain ⟨p,M,ns,rfl,⟨dx,cl,na,sp,mt,o,f,b⟩,h64,k⟩:=h
  refine ⟨_,(Zh (Zr (Zt (Oj rfl) (by rfl) T.n_sorted PyProof.Rows.boot_sorted (Za (Yr (pv 0) rfl) Zb)))),?_⟩
  refine ⟨_,rfl,p,_,dx,_,_,rfl,b.ins,T.cl_Tent,T.a_Tent_spots,K6 ..,sp,_,keys ns ns.length,rfl,.inr ⟨o,b.spots⟩,?_,by have:=Q3 ns ns.length; omega,k⟩
  unfold spk; rw [List.map_map]; rfl
theorem O0:FnScope ["self","place"] ["self","place"] (Zg Qs):=⟨rfl,rfl,rfl,by decide +kernel,rfl,by decide +kernel,by decide +kernel⟩
theorem Qb (T:Txt w K mg t):FnOk P w K mg base (CXr P w) 1 t.f_Tent_has_place t.d_Tent_has_place ["self","place"] (Oz t.C_Tent):=by
 refine T.p_Tent_has_place.F.okR O0 (λvs H Q E h=>?_) (λcdv A outer s H vs Q E hr h=>?_)
 ·obtain ⟨p,M,ns,x,rfl,_⟩:=h
  rfl
 ·obtain ⟨p,M,ns,x,rfl,⟨dx,cl,na,sp,mt,o,f,b⟩,k⟩:=h
  refine ⟨_,(Zh (Zr (Zcu Zf5 Wi Zd (pv 1) (Zt Zl (by rfl) T.n_len PySem.boot_len (Za (Yr (pv 0) rfl) Zb))))),?_⟩
  refine ⟨_,rfl,_,_,rfl,rfl,_,rfl,?_⟩
  refine ite2 (λh=>?_) (λh=>?_)
  ·have h:0<=x:=of_decide_eq_true h
   refine ⟨_,rfl,p,_,dx,_,_,rfl,b.ins,T.cl_Tent,T.a_Tent_names_at,K7 ..,na,_,rfl,.inl (SqL.of b.names),_,_,rfl,rfl,?_⟩
   have:decide (x < (((ns.map V.int).length:Nat):Int))=decide (0<=x/\x < (ns.length:Int)):=by rw [List.length_map]; simp [h]
   show Q (V.bl (decide (x < (((ns.map V.int).length:Nat):Int)))) H
   rw [this]; exact k
  ·have h:¬ 0<=x:=λz=>h (decide_eq_true z)
   have:decide (0<=x/\x < (ns.length:Int))=false:=decide_eq_false λz=>h z.1
   rw [this] at k; exact k
theorem Uz:FnScope ["self","place"] ["self","place"] (Zg J8):=⟨rfl,rfl,rfl,by decide +kernel,rfl,by decide +kernel,by decide +kernel⟩
theorem J4 (T:Txt w K mg t):FnOk P w K mg base (CXr P w) 2 t.f_Tent_look_place t.d_Tent_look_place ["self","place"] (Uu t.C_Tent t.E_NoPlace):=by
 refine T.p_Tent_look_place.F.okX Uz (λvs H Q E h=>?_) (λcdv A outer s H vs Q E hr h=>?_)
 ·obtain ⟨p,M,ns,x,rfl,_⟩:=h
  rfl
 ·obtain ⟨p,M,ns,x,rfl,ta,k1,k2⟩:=h
  obtain ⟨dx,cl,na,sp,mt,o,f,b⟩:=id ta
  refine ⟨_,(Zm (Yy (Jy (Qv (Xf (pv 0) T.cl_Tent T.p_Tent_has_place.m (Qb T) (hr.mono (by decide)) T.p_Tent_has_place.b .nil Zs (Za (pv 1) Zb)))) (Zm (Xi T.x_NoPlace FBV rfl T.gx_NoPlace rfl (Za Yb Zb))) Xv)),?_⟩
  refine ⟨_,rfl,p,dx,_,rfl,b.ins,Yq _ _ _ _,_,rfl,p,M,ns,x,rfl,ta,_,rfl,?_⟩
  by_cases c:0<=x/\x < (ns.length:Int)
  ·rw [decide_eq_true c]
   exact iteF (k1 c)
  ·rw [decide_eq_false c]
   exact iteT ⟨by decide,k2 c⟩
theorem Gk:FnScope ["self","place"] ["self","place"] (Zg Vo):=⟨rfl,rfl,rfl,by decide +kernel,rfl,by decide +kernel,by decide +kernel⟩
theorem Vd (T:Txt w K mg t):FnOk P w K mg base (CXr P w) 3 t.f_Tent_seam_at t.d_Tent_seam_at ["self","place"] (Gg t.C_Tent t.E_NoPlace):=by
 refine T.p_Tent_seam_at.F.okX Gk (λvs H Q E h=>?_) (λcdv A outer s H vs Q E hr h=>?_)
 ·obtain ⟨p,M,ns,x,rfl,_⟩:=h
  rfl
 ·obtain ⟨p,M,ns,x,rfl,ta,k1,k2⟩:=h
  obtain ⟨dx,cl,na,sp,mt,o,f,b⟩:=id ta
  refine ⟨_,(Zp (Z0 (Qw (pv 0) T.cl_Tent T.p_Tent_look_place.m (J4 T) (hr.mono (by decide)) T.p_Tent_look_place.b .nil (Za (pv 1) Zb)))
   (Zm (Ya (Zr (Z9 Z8 (Yr (pv 0) rfl) (pv 1) (λ_ _=>rfl)))))),?_⟩
  refine ⟨_,rfl,p,dx,_,rfl,b.ins,Yq _ _ _ _,_,rfl,p,M,ns,x,rfl,ta,λc=>?_,k2⟩
  have hi:x.toNat < ns.length:=by omega
  obtain ⟨y,hy⟩:∃ y,ns[x.toNat]?=some y:=⟨_,List.getElem?_eq_getElem hi⟩
  have ex:x=(x.toNat:Int):=by omega
  refine ⟨_,rfl,p,_,dx,_,_,rfl,b.ins,T.cl_Tent,T.a_Tent_names_at,K7 ..,_,rfl,na,_,_,_,rfl,rfl,SqL.of b.names,(by rw [ex]; exact Y1 hy),k1 _ _ ex hy⟩
theorem Zb3:FnScope ["self","place"] ["self","place"] (Zg Kc):=⟨rfl,rfl,rfl,by decide +kernel,rfl,by decide +kernel,by decide +kernel⟩
theorem X1 (T:Txt w K mg t):FnOk P w K mg base (CXr P w) 3 t.f_Tent_mate t.d_Tent_mate ["self","place"] (Zbv t.C_Tent t.E_NoPlace):=by
 refine T.p_Tent_mate.F.okX Zb3 (λvs H Q E h=>?_) (λcdv A outer s H vs Q E hr h=>?_)
 ·obtain ⟨p,M,ns,x,rfl,_⟩:=h
  rfl
 ·obtain ⟨p,M,ns,x,rfl,ta,hlen,k1,k2⟩:=h
  obtain ⟨dx,cl,na,sp,mt,o,f,b⟩:=id ta
  refine ⟨_,(Zp (Z0 (Qw (pv 0) T.cl_Tent T.p_Tent_look_place.m (J4 T) (hr.mono (by decide)) T.p_Tent_look_place.b .nil (Za (pv 1) Zb)))
   (Zm (Ya (Zr (Z9 Z8 (Yr (pv 0) rfl) (pv 1) (λ_ _=>rfl)))))),?_⟩
  refine ⟨_,rfl,p,dx,_,rfl,b.ins,Yq _ _ _ _,_,rfl,p,M,ns,x,rfl,ta,λc=>?_,k2⟩
  have hi:x.toNat < M.length:=by omega
  obtain ⟨y,hy⟩:∃ y,M[x.toNat]?=some y:=⟨_,List.getElem?_eq_getElem hi⟩
  have ex:x=(x.toNat:Int):=by omega
  refine ⟨_,rfl,p,_,dx,_,_,rfl,b.ins,T.cl_Tent,T.a_Tent_mates,Zkz ..,_,rfl,mt,_,_,_,rfl,rfl,SqL.of b.mates,(by rw [ex]; exact Y1 hy),k1 _ _ ex hy⟩
theorem Fr:FnScope ["self","seam"] ["self","seam"] (Zg Ui):=⟨rfl,rfl,rfl,by decide +kernel,rfl,by decide +kernel,by decide +kernel⟩
theorem Ji (T:Txt w K mg t):FnOk P w K mg base (CXr P w) 1 t.f_Tent_places t.d_Tent_places ["self","seam"] (Fn t.C_Tent t.E_NoSeam):=by
 refine T.p_Tent_places.F.okX Fr (λvs H Q E h=>?_) (λcdv A outer s H vs Q E hr h=>?_)
 ·obtain ⟨p,M,ns,x,rfl,_⟩:=h
  rfl
 ·obtain ⟨p,M,ns,x,rfl,ta,k1,k2⟩:=h
  obtain ⟨dx,cl,na,sp,mt,o,f,b⟩:=id ta
  have hu:=Wp hr
  refine ⟨_,(Zp (Yy (Gx (Zhs hu (pv 1) (Yr (pv 0) rfl)) (by with_unfolding_all rfl)) (Zm (Xi T.x_NoSeam FBV rfl T.gx_NoSeam rfl (Za Yb Zb))) Xv)
   (Zm (Ya (Zr (Yw Yz (by rfl) T.n_list PySem.Pv.boot_list (Za (Fu hu (Yr (pv 0) rfl) (pv 1) (λ_ _=>rfl)) Zb)))))),?_⟩
  have hg:DGet H sp (.int x) (if x∈keys ns ns.length then some (V.ref (f x)) else none):=.inl ⟨_,Sum.inl x,.inr ⟨o,b.spots⟩,rfl,by unfold spk; rw [Wf]⟩
  refine ⟨_,rfl,_,rfl,p,_,dx,_,_,rfl,b.ins,T.cl_Tent,T.a_Tent_spots,K6 ..,sp,_,rfl,hg,_,rfl,?_⟩
  by_cases c:x∈keys ns ns.length
  ·rw [if_pos c] at hg ⊢
   refine iteF ?_
   exact ⟨_,rfl,p,_,dx,_,_,rfl,b.ins,T.cl_Tent,T.a_Tent_spots,K6 ..,_,rfl,sp,_,rfl,hg,f x,_,rfl,.inl (SqL.of (b.at' x c)),k1 c⟩
  ·rw [if_neg c] at hg ⊢
   exact iteT ⟨by decide,k2 c⟩
theorem Q6:FnScope ["self","seam","spots"] ["self","seam"] (Zg Vn):=⟨rfl,rfl,rfl,by decide +kernel,rfl,by decide +kernel,by decide +kernel⟩
theorem Vc (T:Txt w K mg t):FnOk P w K mg base (CXr P w) 2 t.f_Tent_sort_of t.d_Tent_sort_of ["self","seam"] (Gf t.C_Tent t.E_NoSeam):=by
 refine T.p_Tent_sort_of.F.okX Q6 (λvs H Q E h=>?_) (λcdv A outer s H vs Q E hr h=>?_)
 ·obtain ⟨p,M,ns,x,rfl,_⟩:=h
  rfl
 ·obtain ⟨p,M,ns,x,rfl,ta,td,k1,k2⟩:=h
  obtain ⟨dx,cl,na,sp,mt,o,f,b⟩:=id ta
  refine ⟨_,(Zp (Je (i:=2) Q6.nd rfl (Or.inl rfl) (Qw (pv 0) T.cl_Tent T.p_Tent_places.m (Ji T) (hr.mono (by decide)) T.p_Tent_places.b .nil (Za (pv 1) Zb)))
   (Zp (Ya (Yj (Zk Ye (Zt Zl (by rfl) T.n_len PySem.boot_len (Za (pv 2) Zb)) Zd (Zn _)) (Zh (Zr Yb)) Z7))
   (Zp (Ya (Yj (Zk Ye (Zo (Xk T) (hr.mono (by decide)) rfl T.p_cloth_of.g T.p_cloth_of.F.kp T.p_cloth_of.b .nil Zs (Za (Z9 Z8 (pv 2) Zd (λ_ _=>rfl)) Zb)) (Zo (Xk T) (hr.mono (by decide)) rfl T.p_cloth_of.g T.p_cloth_of.F.kp T.p_cloth_of.b .nil Zs (Za (Z9 Z8 (pv 2) Zd (λ_ _=>rfl)) Zb)) (Zn _)) (Zh (Zr Yb)) Z7))
   (Zm (Ya (Zr Yb)))))),?_⟩
  refine ⟨_,rfl,p,dx,_,rfl,b.ins,Yq _ _ _ _,_,rfl,p,M,ns,x,rfl,ta,λc l hl=>?_,k2⟩
  have k1':=k1 c _ (Same.new (o:=.lst ((pl ns ns.length x).map nV)) hl)
  refine ⟨_,rfl,l,_,rfl,.inl (SqL.of Zc),rfl,_,rfl,?_⟩
  rcases V2 td c with ⟨a,e,_⟩ | ⟨a,b',hab,e,_⟩
  ·rw [e] at k1' ⊢
   refine iteT ?_
   have:Yo ns x="rim":=by unfold Yo; rw [e]
   rw [this] at k1'
   exact k1'
  ·rw [e] at k1' ⊢
   refine iteF ?_
   refine ⟨_,rfl,l,_,_,_,rfl,rfl,SqL.of Zc,rfl,_,rfl,_,rfl,l,_,_,_,rfl,rfl,SqL.of Zc,rfl,_,rfl,rfl,_,rfl,?_⟩
   by_cases q:a / 3=b' / 3
   ·have:Yo ns x="locked":=by unfold Yo; rw [e]; exact if_pos q
    rw [this] at k1'
    rw [decide_eq_true (by congr 1; omega)]
    exact iteT k1'
   ·have:Yo ns x="free":=by unfold Yo; rw [e]; exact if_neg q
    rw [this] at k1'
    rw [decide_eq_false (λz=>q (by injection z; omega))]
    exact iteF k1'
noncomputable def Zbq (C ES ER EL:Addr):Sp:=λvs H Q E=>∃ (p:Addr) (M:List (Option Nat)) (ns:List Int) (x:Int),vs=[.ref p,.int x]/\Zy C H p M ns/\TD M ns /\
 (x∈keys ns ns.length->∀ H',Same H H'->(Yo ns x="rim"->E (.ref ER) none H')/\(Yo ns x="locked"->E (.ref EL) none H')/\(Yo ns x="free"->Q .non H'))/\(x ∉ keys ns ns.length->E (.ref ES) none H)
noncomputable def sqr (a b:Nat):List V:=[.int (after a),.int (Z2 a),.int (after b),.int (Z2 b)]
noncomputable def Zg5 (C ES ER EL:Addr):Sp:=λvs H Q E=>∃ (p:Addr) (M:List (Option Nat)) (ns:List Int) (x:Int),vs=[.ref p,.int x]/\Zy C H p M ns/\TD M ns /\
 (x∈keys ns ns.length->∀ H',Same H H'->(Yo ns x="rim"->E (.ref ER) none H')/\(Yo ns x="locked"->E (.ref EL) none H')/\(∀ a b l,pl ns ns.length x=[a,b]->a < b->M[a]?=some (some b)->a / 3≠b / 3->H l=none->H' l=some (.tup (sqr a b))->Q (.ref l) H'))/\(x ∉ keys ns ns.length->E (.ref ES) none H)
theorem Qc {M:List (Option Nat)} {ns:List Int} (td:TD M ns) {x:Int} (hx:x∈keys ns ns.length) :
  (Yo ns x="rim"/\∃ a,pl ns ns.length x=[a]/\M[a]?=some none)\/(Yo ns x="locked"/\∃ a b,a < b/\pl ns ns.length x=[a,b]/\M[a]?=some (some b)/\a / 3=b / 3)\/(Yo ns x="free"/\∃ a b,a < b/\pl ns ns.length x=[a,b]/\M[a]?=some (some b)/\a / 3≠b / 3):=by
 rcases V2 td hx with ⟨a,e,_,ma⟩ | ⟨a,b,hab,e,_,_,ma,_⟩
 ·exact .inl ⟨by unfold Yo; rw [e],a,e,ma⟩
 ·by_cases c:a / 3=b / 3
  ·exact .inr (.inl ⟨by unfold Yo; rw [e]; exact if_pos c,a,b,hab,e,ma,c⟩)
  ·exact .inr (.inr ⟨by unfold Yo; rw [e]; exact if_neg c,a,b,hab,e,ma,c⟩)
theorem t_rf:¬ (("rim":Str))="free":=by decide
theorem t_lf:¬ (("locked":Str))="free":=by decide
theorem t_lr:¬ (("locked":Str))="rim":=by decide
theorem t_fr:¬ (("free":Str))="rim":=by decide
theorem t_fl:¬ (("free":Str))="locked":=by decide
theorem Gd {x y:Str} (h:¬ x=y):decide (V.str x=V.str y)=false:=decide_eq_false λz=>h (by injection z)
theorem Zg1 {x:Str}:decide (V.str x=V.str x)=true:=decide_eq_true rfl
theorem Ux:FnScope ["tent","seam","sort"] ["tent","seam"] (Zg O8):=⟨rfl,rfl,rfl,by decide +kernel,rfl,by decide +kernel,by decide +kernel⟩
theorem Zcz (T:Txt w K mg t):FnOk P w K mg base (CXr P w) 3 t.f_look_free t.d_look_free ["tent","seam"] (Zbq t.C_Tent t.E_NoSeam t.E_Rim t.E_Locked):=by
 refine T.p_look_free.F.okX Ux (λvs H Q E h=>?_) (λcdv A outer s H vs Q E hr h=>?_)
 ·obtain ⟨p,M,ns,x,rfl,_⟩:=h
  rfl
 ·obtain ⟨p,M,ns,x,rfl,ta,td,k1,k2⟩:=h
  obtain ⟨dx,cl,na,sp,mt,o,f,b⟩:=id ta
  refine ⟨_,(Zp (Je (i:=2) Ux.nd rfl (Or.inl rfl) (Qw (pv 0) T.cl_Tent T.p_Tent_sort_of.m (Vc T) (hr.mono (by decide)) T.p_Tent_sort_of.b .nil (Za (pv 1) Zb)))
   (Zp (Yy (Zk Ye (pv 2) Yb (Zn _)) (Zm (Xi T.x_Rim FBV rfl T.gx_Rim rfl (Za Yb Zb))) Xv)
   (Zm (Yy (Zk Ye (pv 2) Yb (Zn _)) (Zm (Xi T.x_Locked FBV rfl T.gx_Locked rfl (Za Yb Zb))) Xv)))),?_⟩
  refine ⟨_,rfl,p,dx,_,rfl,b.ins,Yq _ _ _ _,_,rfl,p,M,ns,x,rfl,ta,td,λc H' sm=>?_,k2⟩
  obtain ⟨j1,j2,j3⟩:=k1 c H' sm
  refine ⟨_,rfl,rfl,_,rfl,?_⟩
  rcases Qc td c with ⟨e,_⟩ | ⟨e,_⟩ | ⟨e,_⟩
  ·rw [e,Zg1]
   exact iteT ⟨by decide,j1 e⟩
  ·rw [e,Gd t_lr]
   refine iteF ⟨_,rfl,rfl,_,rfl,?_⟩
   rw [Zg1]
   exact iteT ⟨by decide,j2 e⟩
  ·rw [e,Gd t_fr]
   refine iteF ⟨_,rfl,rfl,_,rfl,?_⟩
   rw [Gd t_fl]
   exact iteF (j3 e)
theorem Uw:FnScope ["tent","seam","lesser","greater"] ["tent","seam"] (Zg Zb7):=⟨rfl,rfl,rfl,by decide +kernel,rfl,by decide +kernel,by decide +kernel⟩
theorem Zh6 (T:Txt w K mg t):FnOk P w K mg base (CXr P w) 4 t.f_square t.d_square ["tent","seam"] (Zg5 t.C_Tent t.E_NoSeam t.E_Rim t.E_Locked):=by
 refine T.p_square.F.okX Uw (λvs H Q E h=>?_) (λcdv A outer s H vs Q E hr h=>?_)
 ·obtain ⟨p,M,ns,x,rfl,_⟩:=h
  rfl
 ·obtain ⟨p,M,ns,x,rfl,ta,td,k1,k2⟩:=h
  refine ⟨_,(Zp (Z0 (Zw (Zcz T) (hr.mono (by decide)) rfl T.p_look_free.g T.p_look_free.F.kp T.p_look_free.b .nil (Za (pv 0) (Za (pv 1) Zb))))
   (Zp (Ya (Jz (Xf (pv 0) T.cl_Tent T.p_Tent_places.m (Ji T) (hr.mono (by decide)) T.p_Tent_places.b .nil Zs (Za (pv 1) Zb)) (Zn6 rfl (Z3 (Zq (i:=2) Uw.nd rfl (Or.inl rfl)) (Z3 (Zq (i:=3) Uw.nd rfl (Or.inl rfl)) Xo)))))
   (Zm (Ya (Zr (X7 (Za (Zo (K0 T) (hr.mono (by decide)) rfl T.p_after.g T.p_after.F.kp T.p_after.b .nil Zs (Za (pv 2) Zb)) (Za (Zo (Zak T) (hr.mono (by decide)) rfl T.p_before.g T.p_before.F.kp T.p_before.b .nil Zs (Za (pv 2) Zb)) (Za (Zo (K0 T) (hr.mono (by decide)) rfl T.p_after.g T.p_after.F.kp T.p_after.b .nil Zs (Za (pv 3) Zb)) (Za (Zo (Zak T) (hr.mono (by decide)) rfl T.p_before.g T.p_before.F.kp T.p_before.b .nil Zs (Za (pv 3) Zb)) Zb)))))))))),?_⟩
  refine ⟨_,rfl,_,rfl,p,M,ns,x,rfl,ta,td,λc H' sm=>⟨(k1 c H' sm).1,(k1 c H' sm).2.1,λe=>?_⟩,k2⟩
  obtain ⟨a,b,hab,ep,em,ne⟩:∃ a b,a < b/\pl ns ns.length x=[a,b]/\M[a]?=some (some b)/\a / 3≠b / 3:=by
   rcases Qc td c with ⟨e',_⟩ | ⟨e',_⟩ | ⟨e',q⟩
   ·exact absurd (e'.symm.trans e) t_rf
   ·exact absurd (e'.symm.trans e) t_lf
   ·exact q
  have ta':=ta.same sm
  obtain ⟨dx,cl,na,sp,mt,o,f,B⟩:=id ta'
  refine ⟨_,rfl,p,dx,_,rfl,B.ins,Yq _ _ _ _,_,rfl,p,M,ns,x,rfl,ta',λ_ l hl=>?_,λz=>absurd c z⟩
  rw [ep]
  refine ⟨l,_,rfl,SqL.of Zc,rfl,_,_,rfl,_,_,rfl,rfl,?_⟩
  refine ⟨_,rfl,_,rfl,?_⟩
  refine ⟨_,rfl,_,rfl,?_⟩
  refine ⟨_,rfl,_,rfl,?_⟩
  refine ⟨_,rfl,_,rfl,?_⟩
  refine ⟨(by show 4<=sizeLine; decide),λq hq=>?_⟩
  obtain ⟨hql,hq'⟩:=Wt hq
  exact (k1 c _ (Same.add (Same.add sm (sm.free hl)) (sm.free hq'))).2.2 a b q ep hab em ne (sm.free hq') Zc
noncomputable def Zlz:Sp:=λvs H Q _=>∃ (r:Addr) (ns:List Int) (i:Nat) (x:Int),vs=[.ref r,.int i]/\Y2 H r ns/\ns[i]?=some x/\Q (.int x) H
noncomputable def Ja (M:List (Option Nat)) (i:Nat):Bool:=match M[i]? with
 | some (some j)=>decide (i < j) && decide (i / 3≠j / 3)
 | _=>false
noncomputable def Ve (M:List (Option Nat)) (i:Nat):Bool:=match M[i]? with
 | some (some j)=>decide (i < j)
 | _=>false
noncomputable def lowL (M:List (Option Nat)) (n:Nat):List Nat:=(List.range n).filter (Ve M)
noncomputable def V8 (M:List (Option Nat)):List Nat:=(List.range M.length).filter (Ja M)
noncomputable def Zl3:Sp:=λvs H Q _=>∃ (m:Addr) (M:List (Option Nat)),vs=[.ref m]/\H m=some (.lst (M.map mV))/\M.length<=1000/\(∀ (i j:Nat),M[i]?=some (some j)->M[j]?=some (some i)/\i≠j) /\
 ∀ (l:Addr) (H':Hp),Same H H'->H l=none->H' l=some (.lst ((V8 M).map nV))->Q (.ref l) H'
theorem Zhk {H:Hp} {r:Addr} {ns:List Int} {i:Nat} {x:Int} (h:Y2 H r ns) (hx:ns[i]?=some x):∃ ts:List Addr,∃ q,H r=some (.lst (ts.map V.ref))/\ts[i / 3]?=some q/\H q=some (.tup (row3 ns (i / 3)))/\(row3 ns (i / 3))[i % 3]?=some (V.int x):=by
 obtain ⟨ts,h1,h2,h3⟩:=h
 have hi:i < ns.length:=(List.getElem?_eq_some_iff.mp hx).1
 have hk:i / 3 < ts.length:=by omega
 refine ⟨ts,ts[i / 3],h1,List.getElem?_eq_getElem hk,h3 _ _ (List.getElem?_eq_getElem hk),?_⟩
 have g:∀ j,ns[j]?=some x->ns.getD j 0=x:=λj hj=>by rw [List.getD_eq_getElem?_getD,hj]; rfl
 have hm:i % 3=0\/i % 3=1\/i % 3=2:=by omega
 rcases hm with m | m | m
 ·have:3 * (i / 3)=i:=by omega
  rw [m]; show some (V.int (ns.getD (3 * (i / 3)) 0))=_; rw [this,g i hx]
 ·have:3 * (i / 3) + 1=i:=by omega
  rw [m]; show some (V.int (ns.getD (3 * (i / 3) + 1) 0))=_; rw [this,g i hx]
 ·have:3 * (i / 3) + 2=i:=by omega
  rw [m]; show some (V.int (ns.getD (3 * (i / 3) + 2) 0))=_; rw [this,g i hx]
theorem div3 (i:Nat):(i:Int) / 3=((i / 3:Nat):Int):=by omega
theorem mod3 (i:Nat):(i:Int) % 3=((i % 3:Nat):Int):=by omega
noncomputable def sp_law (K:PySem.W.Frag):Sp:=λvs H Q _=>∃ (a:Addr) (ns:List Int),vs=[.ref a]/\SqL K H a (ns.map V.int)/\ns.length<=63/\∀ H',Q (.bl true) H'
theorem sp_law_start {K:PySem.W.Frag} {H:Hp} {a:Addr} {ns:List Int} (hl:ns.length<=63) (hS:SqL K H a (ns.map V.int)):sp_law K [.ref a] H (λv _=>v=.bl true) λ_ _ _=>False:=⟨a,ns,rfl,hS,hl,λ_=>rfl⟩
theorem Y2.copy {H:Hp} {r l:Addr} {ns:List Int} {ts:List Addr} (h1:H r=some (.lst (ts.map V.ref))) (h2:ns.length=3 * ts.length) (h3:∀ (k:Nat) (t:Addr),ts[k]?=some t->H t=some (.tup (row3 ns k))) (hl:H l=none):Y2 (upd H l (.lst (ts.map V.ref))) l ns :=
 ⟨ts,Zc,h2,λk q e=>by rw [Ze (Zj (h3 k q e) hl)]; exact h3 k q e⟩
theorem Zkt {M:List (Option Nat)} {i:Nat} (h:i∈V8 M):∃ j,M[i]?=some (some j)/\i < j/\i / 3≠j / 3:=by
 have:=(List.mem_filter.mp h).2
 unfold Ja at this
 split at this
 ·rename_i j hj
  simp at this
  exact ⟨j,hj,this.1,this.2⟩
 ·cases this
theorem Zn1 {M:List (Option Nat)} {ns:List Int} (td:TD M ns) {i j:Nat} {x:Int} (hm:M[i]?=some (some j)) (hij:i < j) (hx:ns[i]?=some x):x∈keys ns ns.length/\pl ns ns.length x=[i,j]:=by
 have hi:i < ns.length:=(List.getElem?_eq_some_iff.mp hx).1
 have hk:x∈keys ns ns.length:=Wc.mpr ⟨i,hi,hx⟩
 have mi:i∈pl ns ns.length x:=Xc.mpr ⟨hi,hx⟩
 refine ⟨hk,?_⟩
 rcases V2 td hk with ⟨a,e,_,ma⟩ | ⟨a,b,hab,e,_,_,ma,mb⟩
 ·rw [e,List.mem_singleton] at mi
  subst mi
  rw [hm] at ma; cases ma
 ·rw [e] at mi
  rcases List.mem_cons.mp mi with z | z
  ·subst z
   rw [hm] at ma
   cases ma
   exact e
  ·have z:i=b:=by simpa using z
   subst z
   rw [hm] at mb
   cases mb
   omega
theorem Zjk {H1:Hp} {r l x dx C:Addr} {ns:List Int} {ts:List Addr} (g1:H1 r=some (.lst (ts.map V.ref))) (g2:ns.length=3 * ts.length) (g3:∀ (k:Nat) (t:Addr),ts[k]?=some t->H1 t=some (.tup (row3 ns k)))
  (hl1:H1 l=none) (hx:upd H1 l (.lst (ts.map V.ref)) x=none) (hdx:upd H1 l (.lst (ts.map V.ref)) dx=none) :
  Y2 (upd (upd (upd H1 l (.lst (ts.map V.ref))) dx (.own x)) x (.ins C dx [])) l ns/\Same (upd H1 l (.lst (ts.map V.ref))) (upd (upd (upd H1 l (.lst (ts.map V.ref))) dx (.own x)) x (.ins C dx [])):=by
 have s:Same (upd H1 l (.lst (ts.map V.ref))) (upd (upd (upd H1 l (.lst (ts.map V.ref))) dx (.own x)) x (.ins C dx [])):=Same.add (Same.new hdx) hx
 exact ⟨(Y2.copy g1 g2 g3 hl1).same s,s⟩
theorem Zhc {a b c:List Int} (h1:a.Perm c) (h2:b.Perm c) (s1:a.Pairwise (·<=·)) (s2:b.Pairwise (·<=·)):a=b :=
 (h1.trans h2.symm).eq_of_pairwise (λx y _ _ h1 h2=>Int.le_antisymm h1 h2) s1 s2
theorem Zhf:FnScope ["_law_rows_here","_law_place"] ["_law_rows_here","_law_place"] (Zg Zcf):=⟨rfl,rfl,rfl,by decide +kernel,rfl,by decide +kernel,by decide +kernel⟩
theorem Zie (T:Txt w K mg t):FnOk P w K mg base (CXr P w) 1 t.f_l_seam t.d_l_seam ["_law_rows_here","_law_place"] Zlz:=by
 refine T.p_l_seam.F.okR Zhf (λvs H Q E h=>?_) (λcdv A outer s H vs Q E hr h=>?_)
 ·obtain ⟨r,ns,i,x,rfl,_⟩:=h
  rfl
 ·obtain ⟨r,ns,i,x,rfl,hr1,hx,k⟩:=h
  refine ⟨_,(Zh (Zr (Z9 G4 (Z9 Z8 (pv 0) (Zi Ym (pv 1) Zd) (λ_ _=>rfl)) (Zi Z6 (pv 1) Zd) (λ_ _=>rfl)))),?_⟩
  obtain ⟨ts,q,e1,e2,e3,e4⟩:=Zhk hr1 hx
  refine ⟨_,rfl,_,rfl,_,_,rfl,rfl,⟨by decide,by decide⟩,r,_,_,_,rfl,rfl,SqL.of e1,(by rw [div3]; exact Y1 e2),_,rfl,_,_,rfl,rfl,(by show (0:Int) < 3; decide),q,_,_,_,rfl,rfl,SqT.of e3,(by rw [mod3]; exact X2 e4),k⟩
theorem K3 (M:List (Option Nat)) (n:Nat):lowL M (n + 1)=if Ve M n=true then lowL M n ++ [n] else lowL M n:=by
 unfold lowL
 rw [List.range_succ,List.filter_append]
 by_cases c:Ve M n=true
 ·simp [c]
 ·simp [c]
theorem Zin (M:List (Option Nat)) (n:Nat):(lowL M n).length<=n:=by
 unfold lowL
 exact Nat.le_trans (List.length_filter_le _ _) (by simp)
theorem Zku (M:List (Option Nat)):(lowL M M.length).filter (Ja M)=V8 M:=by
 unfold lowL V8
 rw [List.filter_filter]
 congr 1
 funext i
 unfold Ja Ve
 cases M[i]? with
 | none=>rfl
 | some o=>cases o with
  | none=>rfl
  | some j=>by_cases c:i < j <;> simp [c]
theorem Zdh {α:Type} {p:α->Bool} {l:List α} {i:Nat} {x:α} (h:l[i]?=some x):(l.take (i + 1)).filter p=if p x=true then (l.take i).filter p ++ [x] else (l.take i).filter p:=by
 rw [List.take_add_one,h,List.filter_append]
 by_cases c:p x=true
 ·simp [c]
 ·simp [c]
theorem F7:FnScope ["_law_mates","_law_row_here"] ["_law_mates"] (Zg Zch):=⟨rfl,rfl,rfl,by decide +kernel,rfl,by decide +kernel,by decide +kernel⟩
theorem Zig (T:Txt w K mg t):FnOk P w K mg base (CXr P w) 1 t.f_l_free t.d_l_free ["_law_mates"] Zl3:=by
  refine T.p_l_free.F.okR F7 (λvs H Q E h=>?_) (λcdv A outer s H vs Q E hr h=>?_)
  · obtain ⟨m,M,rfl,_⟩:=h
    rfl
  · obtain ⟨m,M,rfl,hm,hl,inv,k⟩:=h
    refine ⟨_,(Zf (Xj (ts:=["_law_p"]) (fv:=[("_law_mates",0)]) (i:=1) ⟨rfl,by decide +kernel,by decide +kernel,Yk (by rfl),⟨⟨rfl,rfl,Or.inl rfl⟩,trivial⟩⟩ rfl F7.nd rfl rfl (by rfl) (Xt rfl T.n_range (Za (Zt Zl (by rfl) T.n_len PySem.boot_len (Za (pv 0) Zb)) Zb)) (λ_ _ _ _=>(Zq (i:=0) (show List.Nodup (["_law_p","_law_mates"]:List Str) from by decide +kernel) rfl (Or.inl rfl) (Or.inr rfl))) (λ_ _ _ _=>(Jd (PW.pt (Jx (Zk Qo (Z9 (Wd K) (pv 1) (pv 0) (λ_ _=>rfl)) W7 (Zn _)) (Wz (Zk Wi (pv 0) (Z9 (Wd K) (pv 1) (pv 0) (λ_ _=>rfl)) (Zn _))))))) (λ_ _ _=>rfl) (λ_ _ _ _ _ _=>Ys (pv 0)))
      (Zh (Zr (Y6 (ts:=["_law_p"]) (fv:=[("_law_mates",0)]) ⟨rfl,by decide +kernel,by decide +kernel,Yk (by rfl),⟨⟨rfl,rfl,Or.inl rfl⟩,trivial⟩⟩ rfl (Yp (pv 1)) (λ_ _ _ _=>(Zq (i:=0) (show List.Nodup (["_law_p","_law_mates"]:List Str) from by decide +kernel) rfl (Or.inl rfl) (Or.inr rfl))) (λ_ _ _ _=>(Jd (Zk Os (Zi Ym (pv 0) Zd) (Zi Ym (Z9 (Wd K) (pv 1) (pv 0) (λ_ _=>rfl)) Zd) (Zn _)))) (λ_ _ _=>rfl) (λ_ _ _ _ _ _=>Ys (pv 0)))))),?_⟩
    refine ⟨_,rfl,m,_,rfl,.inl (SqL.of hm),_,rfl,by omega,by rw [List.length_map]; omega,λD hD=>?_⟩
    have eL:(((M.map mV).length:Nat):Int).toNat=M.length:=by simp
    rw [eL]
    refine Qg (λi σ H1=>∃ v,σ=[v,some (.ref m)]/\Same H H1/\H1 D=some (.lst ((lowL M i).map nV))) ⟨none,rfl,Same.new hD,Zc⟩ ?_ ?_
    · rintro i σ H1 hlt ⟨v,rfl,sm,h1⟩
      have e0:(0 + (i:Int))=(i:Int):=Int.zero_add _
      dsimp only [Zv]
      rw [e0]
      obtain ⟨y,hy⟩:∃ y,M[i]?=some y:=⟨_,List.getElem?_eq_getElem hlt⟩
      have at':=Y1 (f:=mV) hy
      have lt:((lowL M i).map nV).length < sizeLine:=by rw [List.length_map]; exact Zx (by have:=Zin M i; omega)
      refine ⟨_,rfl,_,rfl,m,_,_,_,rfl,rfl,SqL.of (sm _ _ hm),at',rfl,_,rfl,?_⟩
      cases y with
      | none =>
        refine iteF (iteF ⟨_,rfl,sm,?_⟩)
        rw [h1,K3,if_neg (by unfold Ve; rw [hy]; simp)]
      | some j =>
        refine iteT ⟨_,rfl,_,rfl,_,rfl,m,_,_,_,rfl,rfl,SqL.of (sm _ _ hm),at',_,_,rfl,rfl,_,rfl,?_⟩
        by_cases c:i < j
        · rw [decide_eq_true (by omega:(i:Int) < (j:Int))]
          refine iteT ⟨_,rfl,_,h1,lt,_,rfl,Same.add sm hD,?_⟩
          rw [Zc,K3,if_pos (by unfold Ve; rw [hy]; simp [c]),List.map_append]
          rfl
        · rw [decide_eq_false (by omega:¬ (i:Int) < (j:Int))]
          refine iteF ⟨_,rfl,sm,?_⟩
          rw [h1,K3,if_neg (by unfold Ve; rw [hy]; simp [c])]
    rintro σ H1 ⟨v,rfl,sm,h1⟩
    refine ⟨_,rfl,D,rfl,⟨_,SqL.of h1⟩,λD2 hD2=>?_⟩
    have hD20:H D2=none:=sm.free hD2
    refine Yt (xs:=(lowL M M.length).map nV) (λi σ H2=>∃ v,σ=[v,some (.ref m)]/\Same H1 H2/\H2 D2=some (.lst ((((lowL M M.length).take i).filter (Ja M)).map nV))) ⟨none,rfl,Same.new hD2,Zc⟩ ?_ ?_ ?_
    · rintro i σ H2 _ ⟨v,rfl,sm2,h2⟩
      exact SqL.of (sm2 _ _ h1)
    · rintro i x σ H2 hx ⟨v,rfl,sm2,h2⟩
      obtain ⟨p,hp,rfl⟩:=Yf hx
      have hpm:p∈lowL M M.length:=List.mem_of_getElem? hp
      obtain ⟨j,hj,hpj⟩:∃ j,M[p]?=some (some j)/\p < j:=by
        have:=(List.mem_filter.mp hpm).2
        unfold Ve at this
        split at this
        · rename_i j hj; exact ⟨j,hj,of_decide_eq_true this⟩
        · cases this
      have lt:((((lowL M M.length).take i).filter (Ja M)).map nV).length < sizeLine:=by
        rw [List.length_map]
        exact Zx (by
          have h1:=List.length_filter_le (Ja M) ((lowL M M.length).take i)
          have h2:=List.length_take_le i (lowL M M.length)
          have h3:=List.length_take_le' i (lowL M M.length)
          have h4:=Zin M M.length
          omega)
      dsimp only [Zv]
      refine ⟨_,rfl,_,_,rfl,rfl,⟨by decide,by decide⟩,_,rfl,_,rfl,m,_,_,_,rfl,rfl,SqL.of (sm2 _ _ (sm _ _ hm)),Y1 hj,_,_,rfl,rfl,⟨by decide,by decide⟩,rfl,_,rfl,?_⟩
      by_cases c:p / 3=j / 3
      · rw [show (!decide (V.int ((p:Int) / 3)=V.int ((j:Int) / 3)))=false by
          rw [show (p:Int) / 3=(j:Int) / 3 by omega]; simp]
        refine iteF ⟨_,rfl,sm2,?_⟩
        rw [h2,Zdh hp,if_neg (by unfold Ja; rw [hj]; simp [c])]
      · rw [show (!decide (V.int ((p:Int) / 3)=V.int ((j:Int) / 3)))=true by
          rw [decide_eq_false (λz=>c (by injection z; omega))]; rfl]
        refine iteT ⟨_,rfl,_,h2,lt,_,rfl,Same.add sm2 hD2,?_⟩
        rw [Zc,Zdh hp,if_pos (by unfold Ja; rw [hj]; simp [c,hpj]),List.map_append]
        rfl
    rintro σ H2 ⟨v,rfl,sm2,h2⟩
    rw [List.length_map,List.take_length,Zku] at h2
    exact k D2 H2 (sm.trans sm2) hD20 h2
noncomputable def isL (way:Str):Bool:=decide (way="left")
noncomputable def Zdv (EW:Addr):Sp:=λvs H Q E=>∃ way:Str,vs=[.str way]/\(way="left"\/way="right"->Q .non H)/\(¬ (way="left"\/way="right")->E (.ref EW) none H)
structure Wrong (EW ES ER EL:Addr) (M:List (Option Nat)) (ns:List Int) (x:Int) (way:Str) (H:Hp) (E:XK) (G:Nat->Nat->Hp->Prop):Prop where
 noway:¬ (way="left"\/way="right")->E (.ref EW) none H
 seam:way="left"\/way="right"->x ∉ keys ns ns.length->E (.ref ES) none H
 rim:way="left"\/way="right"->∀ H',Same H H'->x∈keys ns ns.length->Yo ns x="rim"->E (.ref ER) none H'
 lock:way="left"\/way="right"->∀ H',Same H H'->x∈keys ns ns.length->Yo ns x="locked"->E (.ref EL) none H'
 go:way="left"\/way="right"->∀ a b H',Same H H'->pl ns ns.length x=[a,b]->a < b->M[a]?=some (some b)->a / 3≠b / 3->G a b H'
noncomputable def Zg6 (C EW ES ER EL:Addr):Sp:=λvs H Q E=>∃ (p:Addr) (M:List (Option Nat)) (ns:List Int) (x:Int) (way:Str),vs=[.ref p,.int x,.str way]/\Zy C H p M ns/\TD M ns /\
 Wrong EW ES ER EL M ns x way H E λa b H'=>∀ l,H l=none->H' l=some (.dK (glV (isL way) a b))->Q (.ref l) H'
theorem Zbh (way:Str):(valV [((Sum.inr "left":Key),V.str "right"),(Sum.inr "right",V.str "left")] (Sum.inr way)).isSome=true ↔ way="left"\/way="right":=by
 unfold valV
 by_cases c1:way="left"
 ·subst c1; simp
 ·by_cases c2:way="right"
  ·subst c2
   simp [List.find?_cons]
   split <;> simp
  ·have n1:¬ (Sum.inr "left":Key)=Sum.inr way:=λz=>c1 (by injection z with z; exact z.symm)
   have n2:¬ (Sum.inr "right":Key)=Sum.inr way:=λz=>c2 (by injection z with z; exact z.symm)
   simp [List.find?_cons,n1,n2,c1,c2]
theorem Zd1:FnScope ["way"] ["way"] (Zg Gp):=⟨rfl,rfl,rfl,by decide +kernel,rfl,by decide +kernel,by decide +kernel⟩
theorem Zd9 (T:Txt w K mg t):FnOk P w K mg base (CXr P w) 1 t.f_look_way t.d_look_way ["way"] (Zdv t.E_NoWay):=by
 refine T.p_look_way.F.okX Zd1 (λvs H Q E h=>?_) (λcdv A outer s H vs Q E hr h=>?_)
 ·obtain ⟨way,rfl,_⟩:=h
  rfl
 ·obtain ⟨way,rfl,k1,k2⟩:=h
  refine ⟨_,(Zm (Yy (Gx (Zhr (pv 0) (Jg (v:=.ref t.g_CONTRARY_WAYS) rfl T.gd_CONTRARY_WAYS rfl)) (by with_unfolding_all rfl)) (Zm (Xi T.x_NoWay FBV rfl T.gx_NoWay rfl (Za Yb Zb))) Xv)),?_⟩
  refine ⟨_,rfl,t.g_CONTRARY_WAYS,_,Sum.inr way,rfl,T.kd_CONTRARY_WAYS,rfl,_,rfl,?_⟩
  by_cases c:way="left"\/way="right"
  ·rw [(Zbh way).mpr c]
   exact iteF (k1 c)
  ·have:(valV [((Sum.inr "left":Key),V.str "right"),(Sum.inr "right",V.str "left")] (Sum.inr way)).isSome=false:=by
    rw [Bool.eq_false_iff]; exact λz=>c ((Zbh way).mp z)
   rw [this]
   exact iteT ⟨by decide,k2 c⟩
theorem Jv:FnScope ["tent","seam","way","a","b","c","d"] ["tent","seam","way"] (Zg Zb8):=⟨rfl,rfl,rfl,by decide +kernel,rfl,by decide +kernel,by decide +kernel⟩
theorem Zaj (T:Txt w K mg t):FnOk P w K mg base (CXr P w) 5 t.f_shifts t.d_shifts ["tent","seam","way"] (Zg6 t.C_Tent t.E_NoWay t.E_NoSeam t.E_Rim t.E_Locked):=by
 refine T.p_shifts.F.okX Jv (λvs H Q E h=>?_) (λcdv A outer s H vs Q E hr h=>?_)
 ·obtain ⟨p,M,ns,x,way,rfl,_⟩:=h
  rfl
 ·obtain ⟨p,M,ns,x,way,rfl,ta,td,W⟩:=h
  refine ⟨_,(Zp (Z0 (Zw (Zd9 T) (hr.mono (by decide)) rfl T.p_look_way.g T.p_look_way.F.kp T.p_look_way.b .nil (Za (pv 2) Zb)))
   (Zp (Zme (Zw (Zh6 T) (hr.mono (by decide)) rfl T.p_square.g T.p_square.F.kp T.p_square.b .nil (Za (pv 0) (Za (pv 1) Zb))) (W6 rfl (Z3 (Zq (i:=3) Jv.nd rfl (Or.inl rfl)) (Z3 (Zq (i:=4) Jv.nd rfl (Or.inl rfl)) (Z3 (Zq (i:=5) Jv.nd rfl (Or.inl rfl)) (Z3 (Zq (i:=6) Jv.nd rfl (Or.inl rfl)) Xo))))))
   (Zp (Ya (Yj (Zk Ye (pv 2) Yb (Zn _)) (Zh (Zr (Ze6 (Wb (pv 3) (pv 6) (Wb (pv 6) (pv 5) (Wb (pv 5) (pv 4) (Wb (pv 4) (pv 3) Ze2)))) rfl rfl (List.cons_ne_nil _ _) (by decide)))) Z7))
   (Zm (Ya (Zr (Ze6 (Wb (pv 3) (pv 4) (Wb (pv 4) (pv 5) (Wb (pv 5) (pv 6) (Wb (pv 6) (pv 3) Ze2)))) rfl rfl (List.cons_ne_nil _ _) (by decide)))))))),?_⟩
  refine ⟨_,rfl,way,rfl,λhw=>?_,W.noway⟩
  refine ⟨_,rfl,_,rfl,p,M,ns,x,rfl,ta,td,λc H' sm=>⟨λe=>W.rim hw H' sm c e,λe=>W.lock hw H' sm c e,λa b l e1 e2 e3 e4 e5 e6=>?_⟩,λc=>W.seam hw c⟩
  refine ⟨l,_,rfl,SqT.of e6,rfl,_,_,rfl,_,_,rfl,_,_,rfl,_,_,rfl,rfl,?_⟩
  refine ⟨_,rfl,rfl,_,rfl,?_⟩
  by_cases c:way="left"
  ·have cl:isL way=true:=decide_eq_true c
   have:=λH'' s''=>W.go hw a b H'' s'' e1 e2 e3 e4
   rw [cl] at this
   rw [decide_eq_true (show V.str way=V.str "left" by rw [c])]
   refine iteT ?_
   intro d hd
   refine ⟨_,rfl,_,rfl,_,rfl,_,rfl,_,rfl,_,rfl,_,rfl,_,rfl,Zc,glV true a b,?_,?_,?_⟩
   ·rw [Zde e4]; rfl
   ·rw [Zde e4]; show 4<=15; decide
   ·rw [Zc5 e4]
    exact this _ (Same.add (Same.add sm (sm.free hd)) (sm.free hd)) d (sm.free hd) Zc
  ·have cl:isL way=false:=decide_eq_false c
   have:=λH'' s''=>W.go hw a b H'' s'' e1 e2 e3 e4
   rw [cl] at this
   rw [Gd c]
   refine iteF ?_
   intro d hd
   refine ⟨_,rfl,_,rfl,_,rfl,_,rfl,_,rfl,_,rfl,_,rfl,_,rfl,Zc,glV false a b,?_,?_,?_⟩
   ·rw [Zar e4]; rfl
   ·rw [Zar e4]; show 4<=15; decide
   ·rw [Zc5 e4]
    exact this _ (Same.add (Same.add sm (sm.free hd)) (sm.free hd)) d (sm.free hd) Zc
noncomputable def wayS (left:Bool):Str:=if left then "left" else "right"
theorem Zng (left:Bool):wayS left="left"\/wayS left="right":=by cases left <;> simp [wayS]
theorem Zlj (left:Bool):isL (wayS left)=left:=by cases left <;> decide
theorem Wrong.free {EW ES ER EL:Addr} {M:List (Option Nat)} {ns:List Int} {x:Int} {left:Bool} {H:Hp} {E:XK} {G:Nat->Nat->Hp->Prop} {i j:Nat} (td:TD M ns) (hk:x∈keys ns ns.length) (hp:pl ns ns.length x=[i,j]) (ne:i / 3≠j / 3) (g:∀ H',Same H H'->G i j H'):Wrong EW ES ER EL M ns x (wayS left) H E G:=by
 have es:Yo ns x="free":=by unfold Yo; rw [hp]; exact if_neg ne
 refine ⟨λc=>absurd (Zng left) c,λ_ c=>absurd hk c,λ_ H' _ _ e=>absurd (es.symm.trans e) t_fr,λ_ H' _ _ e=>absurd (es.symm.trans e) t_fl,λ_ a b H' s e1 _ _ _=>?_⟩
 rw [hp] at e1
 cases e1
 exact g H' s
theorem Zda {ws:List Int}:(((ws.map V.int).length:Nat):Int)=ws.length:=by rw [List.length_map]
theorem Zk2 (x0:Int) (xr:List Int):cutV ((x0 :: xr).map V.int) (some 1) none=xr.map V.int:=by
 unfold cutV
 have e1:HT.sIx ((x0 :: xr).map V.int).length 0 (some ((1:Nat):Int))=1:=by
  rw [HT.sIx_nat,List.length_map,List.length_cons]
  omega
 rw [show (some (1:Int))=some ((1:Nat):Int) from rfl,e1,HT.sIx_none,List.map_cons,List.drop_succ_cons,List.drop_zero,List.length_cons,Nat.add_sub_cancel,List.take_length]
theorem Jo {α:Type} {p:α->Bool} {l:List α} {i:Nat} {x:α} (h:l[i]?=some x):(l.take (i + 1)).filter p=if p x=true then (l.take i).filter p ++ [x] else (l.take i).filter p:=by
 rw [List.take_add_one,h,List.filter_append]
 by_cases c:p x=true
 ·simp [c]
 ·simp [c]
noncomputable def Zlw:Sp:=λvs H Q _=>∃ (m a:Addr) (M:List (Option Nat)) (xs:List Int),vs=[.ref m,.ref a]/\H m=some (.lst (M.map mV))/\H a=some (.lst (xs.map V.int))/\xs≠[]/\xs.length<=60/\(∀ x∈xs,0<=x/\x < 1009)/\M.length<=42/\(∃ n,M.length=3 * n)/\(∀ (i j:Nat),M[i]?=some (some j)->M[j]?=some (some i)/\i≠j) /\
 ∀ (l:Addr) (ws:List Nat) (H':Hp),Same H H'->H l=none->H' l=some (.lst (ws.map nV))->ws.length<=60->(ws=[]\/Pl M ws)->Q (.ref l) H'
noncomputable def Zg4 (K:PySem.W.Frag):Sp:=λvs H Q _=>∃ (a m:Addr) (sc:List Int) (i:Int) (M:List (Option Nat)),vs=[.ref a,.int i,.ref m]/\SqL K H a (sc.map V.int)/\sc.length<=63/\0<=i/\i < 1000/\H m=some (.lst (M.map mV))/\M.length<=42/\(∃ n,M.length=3 * n)/\(∀ (i j:Nat),M[i]?=some (some j)->M[j]?=some (some i)/\i≠j) /\
 ∀ (l:Addr) (ws:List Nat) (H':Hp),Same H H'->H l=none->H' l=some (.lst (ws.map nV))->ws.length<=60->(ws=[]\/Pl M ws)->Q (.ref l) H'
noncomputable def hasM (M:List (Option Nat)) (i:Nat):Bool:=match M[i]? with
 | some (some _)=>true
 | _=>false
theorem Jl {M:List (Option Nat)} {i:Nat}:hasM M i=true ↔ ∃ j,M[i]?=some (some j):=by
 unfold hasM
 split
 ·rename_i j h; exact ⟨λ_=>⟨j,h⟩,λ_=>rfl⟩
 ·rename_i h; exact ⟨λz=>absurd z (by decide),λ⟨j,e⟩=>absurd e (h j)⟩
theorem Xq:FnScope ["_law_mates","_law_nums","_law_spots","_law_row_here","_law_pick","_law_side","_law_ways","_law_start","_law_stop"] ["_law_mates","_law_nums"] (Zg Zcb):=⟨rfl,rfl,rfl,by decide +kernel,rfl,by decide +kernel,by decide +kernel⟩
theorem Zia (T:Txt w K mg t):FnOk P w K mg base (CXr P w) 1 t.f_l_walk t.d_l_walk ["_law_mates","_law_nums"] Zlw:=by
  refine T.p_l_walk.F.okR Xq (λvs H Q E h=>?_) (λcdv A outer s H vs Q E hr h=>?_)
  · obtain ⟨m,a,M,xs,rfl,_⟩:=h
    rfl
  · obtain ⟨m,a,M,xs,rfl,hm,ha,hx0,hx60,hx,h42,⟨n,hn⟩,inv,k⟩:=h
    refine ⟨_,(Zf (Xj (ts:=["_law_p"]) (fv:=[("_law_mates",0)]) (i:=2) ⟨rfl,by decide +kernel,by decide +kernel,Yk (by rfl),⟨⟨rfl,rfl,Or.inl rfl⟩,trivial⟩⟩ rfl Xq.nd rfl rfl (by rfl) (Xt rfl T.n_range (Za (Zt Zl (by rfl) T.n_len PySem.boot_len (Za (pv 0) Zb)) Zb)) (λ_ _ _ _=>(Zq (i:=0) (show List.Nodup (["_law_p","_law_mates"]:List Str) from by decide +kernel) rfl (Or.inl rfl) (Or.inr rfl))) (λ_ _ _ _=>(Jd (Zk Qo (Z9 (Wd K) (pv 1) (pv 0) (λ_ _=>rfl)) W7 (Zn _)))) (λ_ _ _=>rfl) (λ_ _ _ _ _ _=>Ys (pv 0)))
      (Zf (Yj (Zk Ye (Zt Zl (by rfl) T.n_len PySem.boot_len (Za (pv 2) Zb)) Zd (Zn _)) (Zh (Zr (Xd Zb))) Z7)
      (Zf (Zu (i:=3) Xq.nd rfl (Or.inl rfl) (Xd (Za (Z9 Z8 (pv 2) (Zi Z6 (Z9 Z8 (pv 1) Zd (λ_ _=>rfl)) (Zt Zl (by rfl) T.n_len PySem.boot_len (Za (pv 2) Zb))) (λ_ _=>rfl)) Zb)))
      (Zf (Xb PassesOwn.never rfl (Yp (Qx Vk (pv 1) (Qn Zd) Op)) (Zq (i:=4) Xq.nd rfl (Or.inl rfl)) (Zf (Zu (i:=5) Xq.nd rfl (Or.inr rfl) (Z9 Z8 (pv 0) (Z9 Z8 (pv 3) (Zlc Zgt Zd) (λ_ _=>rfl)) (λ_ _=>rfl)))
      (Zf (Xj (ts:=["_law_k"]) (fv:=[("_law_side",5)]) (i:=6) ⟨rfl,by decide +kernel,by decide +kernel,Yk (by rfl),⟨⟨rfl,rfl,Or.inl rfl⟩,trivial⟩⟩ rfl Xq.nd rfl rfl (by rfl) (Xt rfl T.n_range (Za Zd Zb)) (λ_ _ _ _=>(Zq (i:=0) (show List.Nodup (["_law_k","_law_side"]:List Str) from by decide +kernel) rfl (Or.inl rfl) (Or.inr rfl))) (λ_ _ _ _=>Yu) (λ_ _ _=>rfl) (λ_ _ _ _ _ _=>Ys (Zi Yn (Zi J1 (pv 1) (Zi Z6 (pv 1) Zd)) (Zi Z6 (Zi Yn (Zi Yn (pv 1) Zd) (pv 0)) Zd))))
      (Zf (Xj (ts:=["_law_p"]) (fv:=[("_law_mates",0)]) (i:=6) ⟨rfl,by decide +kernel,by decide +kernel,Yk (by rfl),⟨⟨rfl,rfl,Or.inl rfl⟩,trivial⟩⟩ rfl Xq.nd rfl rfl (by rfl) (Yp (pv 6)) (λ_ _ _ _=>(Zq (i:=0) (show List.Nodup (["_law_p","_law_mates"]:List Str) from by decide +kernel) rfl (Or.inl rfl) (Or.inr rfl))) (λ_ _ _ _=>(Jd (Zk Qo (Z9 (Wd K) (pv 1) (pv 0) (λ_ _=>rfl)) W7 (Zn _)))) (λ_ _ _=>rfl) (λ_ _ _ _ _ _=>Ys (pv 0)))
      (Zf (Yj (Zk Ye (Zt Zl (by rfl) T.n_len PySem.boot_len (Za (pv 6) Zb)) Zd (Zn _)) (Zh Zjz) Z7)
      (Zh (Xn (Xx PySem.F.plainAttrs_list PySem.F.slot_list_append PySem.F.type_list_append Xl (pv 3) (Za (Z9 Z8 (pv 6) (Zi Z6 (pv 4) (Zt Zl (by rfl) T.n_len PySem.boot_len (Za (pv 6) Zb))) (λ_ _=>rfl)) Zb)))))))))
      (Zf (Xb PassesOwn.never rfl (Xt rfl T.n_range (Za (Zt Zl (by rfl) T.n_len PySem.boot_len (Za (pv 3) Zb)) Zb)) (Zq (i:=7) Xq.nd rfl (Or.inl rfl)) (Zh (Xb PassesOwn.never rfl (Zmi rfl T.n_reversed rfl T.n_range (Za (Zi Yn (pv 7) Zd) (Za (Zt Zl (by rfl) T.n_len PySem.boot_len (Za (pv 3) Zb)) Zb))) (Zq (i:=8) Xq.nd rfl (Or.inl rfl)) (Zh (Yj (Zk Ye (Z9 Z8 (pv 3) (pv 7) (λ_ _=>rfl)) (Z9 Z8 (pv 3) (pv 8) (λ_ _=>rfl)) (Zn _)) (Zh (Zr (Qx Vk (pv 3) (Qn (pv 7)) (Qn (pv 8))))) Z7)))))
      (Zh (Zr (Xd Zb)))))))),?_⟩
    refine Z4 λnxC hnxC=>?_
    refine ⟨_,rfl,m,_,rfl,.inl (SqL.of hm),_,rfl,by omega,by rw [List.length_map]; omega,λD hD=>?_⟩
    have eL:(((M.map mV).length:Nat):Int).toNat=M.length:=by simp
    rw [eL]
    refine Qg (λi σ H1=>∃ v,σ=[v,some (.ref m)]/\Same H H1/\H1 D=some (.lst (((List.range i).filter (hasM M)).map nV))) ⟨none,rfl,Same.new hD,Zc⟩ ?_ ?_
    · rintro i σ H1 hlt ⟨v,rfl,sm,h1⟩
      dsimp only [Zv]
      rw [Int.zero_add]
      obtain ⟨y,hy⟩:∃ y,M[i]?=some y:=⟨_,List.getElem?_eq_getElem hlt⟩
      have lt:(((List.range i).filter (hasM M)).map nV).length < sizeLine:=by
        rw [List.length_map]
        have:=List.length_filter_le (hasM M) (List.range i)
        rw [List.length_range] at this
        exact Zx (by omega)
      refine ⟨_,rfl,_,rfl,m,_,_,_,rfl,rfl,SqL.of (sm _ _ hm),Y1 hy,rfl,_,rfl,?_⟩
      cases y with
      | none =>
        refine iteF ⟨_,rfl,sm,?_⟩
        rw [h1,List.range_succ,List.filter_append]
        have:hasM M i=false:=by rw [Bool.eq_false_iff]; intro z; obtain ⟨j,e⟩:=Jl.mp z; rw [hy] at e; cases e
        simp [this]
      | some j =>
        refine iteT ⟨_,rfl,_,h1,lt,_,rfl,Same.add sm hD,?_⟩
        rw [Zc,List.range_succ,List.filter_append]
        have:hasM M i=true:=Jl.mpr ⟨j,hy⟩
        simp [this]
        rfl
    rintro σ H1 ⟨v,rfl,s1,h1⟩
    refine hnxC _ _ ?_
    have hsp:∀ p∈(List.range M.length).filter (hasM M),∃ j,M[p]?=some (some j):=λp hp=>Jl.mp (List.mem_filter.mp hp).2
    generalize (List.range M.length).filter (hasM M)=sps at h1 hsp
    refine Z4 λnxC hnxC=>?_
    refine ⟨_,rfl,D,_,rfl,.inl (SqL.of h1),rfl,_,rfl,?_⟩
    refine ite2 (λc=>?_) (λc=>?_)
    · exact ⟨Nat.zero_le _,λl hl=>k l [] _ (Same.add s1 (s1.free hl)) (s1.free hl) Zc (Nat.zero_le _) (.inl rfl)⟩
    have hne:0 < sps.length:=by
      cases sps with
      | nil=>exact absurd rfl c
      | cons _ _=>simp
    dsimp only [Jp]
    refine hnxC _ _ ?_
    obtain ⟨x0,xr,rfl⟩:∃ x0 xr,xs=x0 :: xr:=by
      cases xs with
      | nil=>exact absurd rfl hx0
      | cons a b=>exact ⟨a,b,rfl⟩
    have k0:=Int.emod_nonneg x0 (show (sps.length:Int)≠0 by omega)
    have k1:=Int.emod_lt_of_pos x0 (show (0:Int) < sps.length by omega)
    obtain ⟨kk,hkk⟩:∃ kk:Nat,x0 % (sps.length:Int)=kk:=⟨_,(Int.toNat_of_nonneg k0).symm⟩
    have hkl:kk < sps.length:=by omega
    refine Z4 λnxC hnxC=>?_
    refine ⟨_,rfl,_,rfl,a,_,_,_,rfl,rfl,SqL.of (s1 _ _ ha),(show atI _ ((0:Nat):Int)=_ from X2 rfl),_,rfl,D,_,rfl,.inl (SqL.of h1),_,_,rfl,rfl,(by rw [List.length_map]; omega),D,_,_,_,rfl,rfl,SqL.of h1,(by rw [List.length_map,hkk]; exact Y1 (List.getElem?_eq_getElem hkl)),(by show 1<=sizeLine; decide),λr hr1=>?_⟩
    refine hnxC _ _ ?_
    have hr0:H r=none:=s1.free hr1
    obtain ⟨j0,hj0⟩:=hsp _ (List.getElem_mem hkl)
    have ch0:Ch M [sps[kk]]:=Ch.one hj0
    generalize sps[kk]=p0 at ch0
    have s2:Same H (upd H1 r (.lst [nV p0])):=Same.add s1 hr0
    have h2:(upd H1 r (.lst [nV p0])) r=some (.lst ([p0].map nV)):=Zc
    generalize upd H1 r (.lst [nV p0])=H2 at s2 h2
    dsimp only [Zv]
    show tSeq (tFor _ _ _) _ _ _ _
    refine Zz (λσ H3=>∃ (row:List Nat) (v4 v5 v6:Option V),σ=[some (.ref m),some (.ref a),some (.ref D),some (.ref r),v4,v5,v6,none,none]/\Same H H3/\H3 r=some (.lst (row.map nV))/\Ch M row/\row.length<=60) (λnx hnx=>?_) ?_
    · refine ⟨_,rfl,_,rfl,a,_,rfl,SqL.of (s2 _ _ ha),λq hq=>?_⟩
      rw [Zk2]
      have hrq:r≠q:=Zj h2 hq
      have hq0:H q=none:=s2.free hq
      refine ⟨q,rfl,⟨_,SqL.of Zc⟩,?_⟩
      rw [List.length_cons] at hx60
      refine Jn (xs:=xr.map V.int) (λi σ H3=>∃ (row:List Nat) (v4 v5 v6:Option V),σ=[some (.ref m),some (.ref a),some (.ref D),some (.ref r),v4,v5,v6,none,none]/\Same H H3/\H3 q=some (.lst (xr.map V.int))/\H3 r=some (.lst (row.map nV))/\Ch M row/\row≠[]/\row.length<=i + 1)
        ⟨[p0],none,none,none,rfl,Same.add s2 hq0,Zc,by rw [Ze hrq]; exact h2,ch0,by simp,by simp⟩ ?_ ?_ ?_
      · rintro i σ H3 _ ⟨row,v4,v5,v6,rfl,s3,h3,_⟩
        exact SqL.of h3
      · rintro i x σ H3 hxi ⟨row,v4,v5,v6,rfl,s3,h3,h4,ch,rne,rlen⟩
        have hi:i < xr.length:=by have:=(List.getElem?_eq_some_iff.mp hxi).1; rw [List.length_map] at this; exact this
        obtain ⟨pick,hpk,rfl⟩:∃ pick,xr[i]?=some pick/\x=V.int pick:=by
          rw [List.getElem?_map,List.getElem?_eq_getElem hi] at hxi
          exact ⟨_,List.getElem?_eq_getElem hi,(Option.some.inj hxi).symm⟩
        obtain ⟨la,hla⟩:∃ la,row.getLast?=some la:=by
          cases e:row.getLast? with
          | none=>exact absurd (List.getLast?_eq_none_iff.mp e) rne
          | some z=>exact ⟨z,rfl⟩
        have hlm:la∈row:=List.mem_of_getLast? hla
        obtain ⟨sd,hsd⟩:=ch.has la hlm
        have hsdM:sd < M.length:=(List.getElem?_eq_some_iff.mp (inv la sd hsd).1).1
        have elast:atI (row.map nV) (-1)=some (nV la):=by
          unfold atI ixN
          have hl:0 < row.length:=by cases row with | nil=>exact absurd rfl rne | cons _ _=>simp
          rw [if_neg (by decide),if_pos (by rw [List.length_map]; omega)]
          show ((row.map nV)[((-1:Int) + (row.map nV).length).toNat]?)=_
          rw [List.length_map,show ((-1:Int) + (row.length:Int)).toNat=row.length - 1 by omega,List.getElem?_map,<- List.getLast?_eq_getElem?,hla]
          rfl
        dsimp only [Zv]
        refine Z4 λnxC hnxC=>?_
        refine ⟨_,rfl,_,rfl,_,rfl,r,_,_,_,rfl,rfl,SqL.of h4,elast,m,_,_,_,rfl,rfl,SqL.of (s3 _ _ hm),Y1 hsd,?_⟩
        refine hnxC _ _ ?_
        refine Z4 λnxC hnxC=>?_
        refine ⟨2,rfl,by decide,by decide,λW hW=>?_⟩
        have hW0:H W=none:=s3.free hW
        have hWr:r≠W:=Zj h4 hW
        have hWq:q≠W:=Zj h3 hW
        refine Qg (n:=2) (λc σ H5=>∃ v,σ=[v,some (nV sd)]/\Same H3 H5/\H5 W=some (.lst (([side sd 1,side sd 2].take c).map nV))) ⟨none,rfl,Same.new hW,Zc⟩ ?_ ?_
        · rintro c σ H5 hc ⟨v,rfl,s5,h5⟩
          dsimp only [Zv,tYes]
          rw [if_pos rfl]
          refine ⟨_,rfl,_,rfl,_,_,rfl,rfl,(by show (0:Int) < 3; decide),_,_,rfl,rfl,_,rfl,_,_,rfl,rfl,_,rfl,_,_,rfl,rfl,_,_,rfl,rfl,(by show (0:Int) < 3; decide),_,_,rfl,rfl,_,h5,?_,_,rfl,Same.add s5 hW,?_⟩
          · rw [List.length_map,List.length_take]; exact Zx (by omega)
          · rw [Zc]
            have hc:c=0\/c=1:=by omega
            have e:∀ k:Nat,(sd:Int) - (sd:Int) % 3 + ((sd:Int) + 1 + (0 + (k:Int))) % 3=((side sd (k + 1):Nat):Int):=λk=>by unfold side; omega
            rcases hc with rfl | rfl
            · show some (HO.lst ([] ++ [V.int ((sd:Int) - (sd:Int) % 3 + ((sd:Int) + 1 + (0 + ((0:Nat):Int))) % 3)]))=_
              rw [e 0]; rfl
            · show some (HO.lst ([nV (side sd 1)] ++ [V.int ((sd:Int) - (sd:Int) % 3 + ((sd:Int) + 1 + (0 + ((1:Nat):Int))) % 3)]))=_
              rw [e 1]; rfl
        rintro σ H5 ⟨v,rfl,s5,h5⟩
        refine hnxC _ _ ?_
        have h5:H5 W=some (.lst ([side sd 1,side sd 2].map nV)):=h5
        have sl:∀ c,side sd c < M.length:=λc=>by rw [hn]; exact Zl6 (by omega)
        refine Z4 λnxC hnxC=>?_
        refine ⟨_,rfl,W,rfl,⟨_,SqL.of h5⟩,λW2 hW2=>?_⟩
        have s35:=s3.trans s5
        refine Yt (xs:=[side sd 1,side sd 2].map nV) (λc σ H6=>∃ v,σ=[v,some (.ref m)]/\Same H5 H6/\H6 W2=some (.lst ((([side sd 1,side sd 2].take c).filter (hasM M)).map nV))) ⟨none,rfl,Same.new hW2,Zc⟩ ?_ ?_ ?_
        · rintro c σ H6 _ ⟨v,rfl,s6,h6⟩
          exact SqL.of (s6 _ _ h5)
        · rintro c x σ H6 hxc ⟨v,rfl,s6,h6⟩
          obtain ⟨p,hp,rfl⟩:=Yf hxc
          have hpM:p < M.length:=by
            have:=List.mem_of_getElem? hp
            rcases List.mem_cons.mp this with rfl | z
            · exact sl 1
            · rw [List.mem_singleton.mp z]; exact sl 2
          obtain ⟨y,hy⟩:∃ y,M[p]?=some y:=⟨_,List.getElem?_eq_getElem hpM⟩
          dsimp only [Zv]
          refine ⟨_,rfl,_,rfl,m,_,_,_,rfl,rfl,SqL.of (s6 _ _ (s35 _ _ hm)),Y1 hy,rfl,_,rfl,?_⟩
          cases y with
          | none =>
            refine iteF ⟨_,rfl,s6,?_⟩
            have:hasM M p=false:=by rw [Bool.eq_false_iff]; intro z; obtain ⟨j,e⟩:=Jl.mp z; rw [hy] at e; cases e
            rw [h6,Jo hp,if_neg (by rw [this]; decide)]
          | some jj =>
            refine iteT ⟨_,rfl,_,h6,?_,_,rfl,Same.add s6 hW2,?_⟩
            · rw [List.length_map]
              have h1:=List.length_filter_le (hasM M) ([side sd 1,side sd 2].take c)
              have h2:([side sd 1,side sd 2].take c).length<=2:=by rw [List.length_take]; exact Nat.min_le_right _ _
              exact Zx (by omega)
            · rw [Zc,Jo hp,if_pos (Jl.mpr ⟨jj,hy⟩),List.map_append]
              rfl
        rintro σ H6 ⟨v,rfl,s6,h6⟩
        refine hnxC _ _ ?_
        have h6:H6 W2=some (.lst (([side sd 1,side sd 2].filter (hasM M)).map nV)):=h6
        have hws:∀ p∈[side sd 1,side sd 2].filter (hasM M),(∃ j,M[p]?=some (some j))/\p / 3=sd / 3/\p≠sd:=λp hp=>by
          obtain ⟨z1,z2⟩:=List.mem_filter.mp hp
          refine ⟨Jl.mp z2,?_,?_⟩
          · rcases List.mem_cons.mp z1 with rfl | z
            · exact Zbz _ _
            · rw [List.mem_singleton.mp z]; exact Zbz _ _
          · rcases List.mem_cons.mp z1 with rfl | z
            · unfold side; omega
            · rw [List.mem_singleton.mp z]; unfold side; omega
        generalize [side sd 1,side sd 2].filter (hasM M)=wys at h6 hws
        have s36:=s5.trans s6
        have h4':=s36 _ _ h4
        have h3':=s36 _ _ h3
        have s06:=s3.trans s36
        refine Z4 λnxC hnxC=>?_
        refine ⟨_,rfl,W2,_,rfl,.inl (SqL.of h6),rfl,_,rfl,?_⟩
        refine ite2 (λc=>?_) (λc=>?_)
        · exact hnx _ _ ⟨row,_,_,_,rfl,s06,h4',ch,by omega⟩
        have hwp:0 < wys.length:=by
          cases wys with
          | nil=>exact absurd rfl c
          | cons _ _=>simp
        dsimp only [Jp]
        refine hnxC _ _ ?_
        have c0:=Int.emod_nonneg pick (show (wys.length:Int)≠0 by omega)
        have c1:=Int.emod_lt_of_pos pick (show (0:Int) < wys.length by omega)
        obtain ⟨cc,hcc⟩:∃ cc:Nat,pick % (wys.length:Int)=cc:=⟨_,(Int.toNat_of_nonneg c0).symm⟩
        have hcl:cc < wys.length:=by omega
        obtain ⟨w1,w2,w3⟩:=hws _ (List.getElem_mem hcl)
        have hget:=List.getElem?_eq_getElem hcl
        refine ⟨_,rfl,.inl ⟨rfl,_,SqL.of h4'⟩,_,rfl,_,rfl,_,rfl,W2,_,rfl,.inl (SqL.of h6),_,_,rfl,rfl,(by rw [List.length_map]; omega),W2,_,_,_,rfl,rfl,SqL.of h6,(by rw [List.length_map,hcc]; exact Y1 hget),r,_,_,rfl,rfl,h4',(by rw [List.length_map]; exact Zx (by omega)),?_⟩
        refine ⟨row ++ [wys[cc]],_,_,_,rfl,Same.add s06 hr0,?_,?_,ch.snoc hla hsd w2 w3 w1,by simp,by rw [List.length_append,List.length_singleton]; omega⟩
        · rw [Ze (Ne.symm hrq)]; exact h3'
        · rw [Zc,List.map_append]; rfl
      · rintro σ H3 ⟨row,v4,v5,v6,rfl,s3,h3,h4,ch,rne,rlen⟩
        rw [List.length_map] at rlen
        exact hnx _ _ ⟨row,_,_,_,rfl,s3,h4,ch,by omega⟩
    rintro σ H3 ⟨row,v4,v5,v6,rfl,s3,h3,ch,rlen⟩
    show tSeq (tFor _ _ _) _ _ _ _
    refine Zz (λσ H4=>H4=H3) (λnx hnx=>?_) ?_
    · refine ⟨_,rfl,r,_,rfl,.inl (SqL.of h3),_,rfl,by omega,by rw [List.length_map]; omega,?_⟩
      have eR:(((row.map nV).length:Nat):Int).toNat=row.length:=by simp
      rw [eR]
      refine W5 (n:=row.length) (λi σ H4=>∃ v7 v8,σ=[some (.ref m),some (.ref a),some (.ref D),some (.ref r),v4,v5,v6,v7,v8]/\H4=H3) ⟨_,_,rfl,rfl⟩ ?_ ?_
      · rintro i σ H4 hi ⟨v7,v8,rfl,rfl⟩
        dsimp only [Zv]
        rw [Int.zero_add]
        refine ⟨_,rfl,_,_,rfl,rfl,_,rfl,r,_,rfl,.inl (SqL.of h3),((i + 1:Nat):Int),row.length - (i + 1),?_,by omega,by omega,?_⟩
        · rw [List.length_map]
          show [V.int ((i:Int) + 1),V.int (row.length:Int)]=_
          rw [show ((i:Int) + 1)=((i + 1:Nat):Int) by omega,show (row.length:Int)=((i + 1:Nat):Int) + ((row.length - (i + 1):Nat):Int) by omega]
        refine Zgn (n:=row.length - (i + 1)) (λc σ H5=>∃ v8,σ=[some (.ref m),some (.ref a),some (.ref D),some (.ref r),v4,v5,v6,some (.int i),v8]/\H5=H4) ⟨_,rfl,rfl⟩ ?_ ?_
        · rintro c σ H4 hc ⟨v8,rfl,rfl⟩
          obtain ⟨e,he,hie,hel⟩:∃ e:Nat,((i + 1:Nat):Int) + ((row.length - (i + 1):Nat):Int) - 1 + (c:Int) * -1=(e:Int)/\i < e/\e < row.length:=⟨row.length - 1 - c,by omega,by omega,by omega⟩
          dsimp only [Zv]
          rw [he]
          have gi:=List.getElem?_eq_getElem hi
          have ge:=List.getElem?_eq_getElem hel
          refine ⟨_,rfl,_,rfl,r,_,_,_,rfl,rfl,SqL.of h3,Y1 gi,_,rfl,_,rfl,r,_,_,_,rfl,rfl,SqL.of h3,Y1 ge,rfl,_,rfl,?_⟩
          refine ite2 (λz=>?_) (λz=>?_)
          · have z:nV row[i]=nV row[e]:=of_decide_eq_true z
            have z:row[i]=row[e]:=by unfold nV at z; injection z with z; omega
            refine ⟨_,rfl,_,rfl,_,rfl,_,rfl,_,rfl,r,_,rfl,SqL.of h3,λl hl=>?_⟩
            have ec:cutV (row.map nV) (some (i:Int)) (some (e:Int))=((row.drop i).take (e - i)).map nV:=by
              unfold cutV
              rw [HT.sIx_nat,HT.sIx_nat,List.length_map,Nat.min_eq_left (by omega),Nat.min_eq_left (by omega),List.map_take,List.map_drop]
            rw [ec]
            refine k l _ _ (Same.add s3 (s3.free hl)) (s3.free hl) Zc ?_ (.inr (ch.cut hie gi (by rw [ge,z])))
            rw [List.length_take,List.length_drop]; omega
          · exact ⟨_,rfl,rfl⟩
        · rintro σ H4 ⟨v8,rfl,rfl⟩
          exact ⟨_,_,rfl,rfl⟩
      · rintro σ H4 ⟨v7,v8,rfl,rfl⟩
        exact hnx _ _ rfl
    · rintro σ H4 rfl
      exact ⟨Nat.zero_le _,λl hl=>k l [] _ (Same.add s3 (s3.free hl)) (s3.free hl) Zc (Nat.zero_le _) (.inl rfl)⟩
noncomputable def X8 (ws:List Int) (by':Int):List Int:=rot ws (by' % ws.length).toNat
noncomputable def Zg2:Sp:=λvs H Q _=>∃ (a:Addr) (ws:List Int) (b:Int),vs=[.ref a,.int b]/\H a=some (.lst (ws.map V.int))/\ws.length<=100000/\∀ (l:Addr) (H':Hp),Same H H'->H l=none->H' l=some (.lst ((X8 ws b).map V.int))->Q (.ref l) H'
noncomputable def Zbs (C:Addr):Sp:=λvs H Q _=>∃ (p:Addr) (M:List (Option Nat)) (ns:List Int) (x:Int),vs=[.ref p,.int x]/\Zy C H p M ns/\M.length=ns.length/\Q (.bl (Yv M x)) H
noncomputable def Zfx (C:Addr):Sp:=λvs H Q _=>∃ (p:Addr) (M:List (Option Nat)) (ns:List Int) (a x:Int),vs=[.ref p,.int a,.int x]/\Zy C H p M ns/\M.length=ns.length/\Yv M a=true/\Q (.bl (Y3 M a x)) H
noncomputable def Zjo (C:Addr):Sp:=λvs H Q _=>∃ (p a:Addr) (M:List (Option Nat)) (ns ws:List Int),vs=[.ref p,.ref a]/\Zy C H p M ns/\M.length=ns.length/\H a=some (.lst (ws.map V.int))/\ws.length<=100000/\∀ H',Same H H'->Q (.bl (Z1 M ws)) H'
noncomputable def Fk (C EN:Addr):Sp:=λvs H Q E=>∃ (p a:Addr) (M:List (Option Nat)) (ns ws:List Int),vs=[.ref p,.ref a]/\Zy C H p M ns/\M.length=ns.length/\H a=some (.lst (ws.map V.int))/\ws.length<=100000/\∀ H',Same H H'->(Z1 M ws=true->Q .non H')/\(Z1 M ws=false->E (.ref EN) none H')
theorem Gh {n:Nat} (h:n<=100000):n<=sizeLine:=by rw [sizeLine_eq]; omega
theorem Zk3 {ws:List Int} {s:Nat} (h:s<=ws.length):cutV (ws.map V.int) (some (s:Int)) none=(ws.drop s).map V.int:=by
 unfold cutV
 rw [HT.sIx_nat,HT.sIx_none,List.length_map,Nat.min_eq_left h,List.map_drop,List.take_of_length_le]
 rw [List.length_drop,List.length_map]
 exact Nat.le_refl _
theorem Zi8 {ws:List Int} {s:Nat} (h:s<=ws.length):cutV (ws.map V.int) none (some (s:Int))=(ws.take s).map V.int:=by
 unfold cutV
 rw [HT.sIx_none,HT.sIx_nat,List.length_map,Nat.min_eq_left h,List.drop_zero,Nat.sub_zero,List.map_take]
theorem O4:FnScope ["_law_script","_law_at","_law_mates","_law_cell_here"] ["_law_script","_law_at","_law_mates"] (Zg Gq):=⟨rfl,rfl,rfl,by decide +kernel,rfl,by decide +kernel,by decide +kernel⟩
theorem Zeb (T:Txt w K mg t):FnOk P w K mg base (CXr P w) 2 t.f_l_thread t.d_l_thread ["_law_script","_law_at","_law_mates"] (Zg4 K):=by
 refine T.p_l_thread.F.okR O4 (λvs H Q E h=>?_) (λcdv A outer s H vs Q E hr h=>?_)
 ·obtain ⟨a,m,sc,i,M,rfl,_⟩:=h
  rfl
 ·obtain ⟨a,m,sc,i,M,rfl,hS,hl,i0,i1,hm,h42,hn,inv,k⟩:=h
  refine ⟨_,(Zf (Zu (i:=3) O4.nd rfl (Or.inl rfl) (Zo (X5 T) (hr.mono (by decide)) rfl T.p_l_cell.g T.p_l_cell.F.kp T.p_l_cell.b .nil Zs (Za (pv 0) (Za (pv 1) Zb))))
   (Zh (Zr (Zo (Zia T) (hr.mono (by decide)) rfl T.p_l_walk.g T.p_l_walk.F.kp T.p_l_walk.b .nil Zs (Za (pv 2) (Za (Zo (Q0 T) (hr.mono (by decide)) rfl T.p_l_numbers.g T.p_l_numbers.F.kp T.p_l_numbers.b .nil Zs (Za (Zi Ym (pv 3) Zd) (Za (Zi Yn Zd (Zi Z6 (pv 3) Zd)) Zb))) Zb)))))),?_⟩
  refine ⟨_,rfl,_,rfl,a,sc,i,rfl,hS,hl,i0,by omega,?_⟩
  dsimp only [Zv]
  generalize cell sc i=c
  have m0:0<=c % 50:=Int.emod_nonneg _ (by decide)
  have m1:c % 50 < 50:=Int.emod_lt_of_pos _ (by decide)
  have e:(4 + c % 50:Int)=((4 + (c % 50).toNat:Nat):Int):=by omega
  refine ⟨_,rfl,_,rfl,_,_,rfl,rfl,⟨by decide,by decide⟩,_,rfl,_,_,rfl,rfl,(by show (0:Int) < 50; decide),_,_,rfl,rfl,_,4 + (c % 50).toNat,(by rw [<- e]; rfl),by omega,λp xs H1 s1 hp h1 hxl hx=>?_⟩
  refine ⟨m,p,M,xs,rfl,s1 _ _ hm,h1,λz=>by rw [z] at hxl; simp at hxl; omega,by omega,hx,h42,hn,inv,λl ws H2 s2 hl2 h2 hw hpl=>k l ws H2 (s1.trans s2) (s1.free hl2) h2 hw hpl⟩
theorem F6:FnScope ["word","by","start"] ["word","by"] (Zg Zb6):=⟨rfl,rfl,rfl,by decide +kernel,rfl,by decide +kernel,by decide +kernel⟩
theorem J2 (T:Txt w K mg t):FnOk P w K mg base (CXr P w) 1 t.f_turned t.d_turned ["word","by"] Zg2:=by
 refine T.p_turned.F.okR F6 (λvs H Q E h=>?_) (λcdv A outer s H vs Q E hr h=>?_)
 ·obtain ⟨a,ws,b,rfl,_⟩:=h
  rfl
 ·obtain ⟨a,ws,b,rfl,ha,hl,k⟩:=h
  refine ⟨_,(Zf (Yj (Jy (V1 (pv 0) (λ_=>rfl))) (Zh (Zr (Xd Zb))) Z7)
   (Zf (Zu (i:=2) F6.nd rfl (Or.inl rfl) (Zi Z6 (pv 1) (Zt Zl (by rfl) T.n_len PySem.boot_len (Za (pv 0) Zb))))
   (Zh (Zr (Zi Zh0 (Qx Vk (pv 0) (Qn (pv 2)) Op) (Qx Vk (pv 0) Op (Qn (pv 2)))))))),?_⟩
  refine Z4 λnxC hnxC=>?_
  refine ⟨_,rfl,_,.inl ⟨_,SqL.of ha,rfl⟩,?_⟩
  by_cases hne:ws=[]
  ·subst hne
   exact iteT ⟨Nat.zero_le _,λl hl'=>k l _ (Same.new hl') hl' (by rw [Zc]; unfold X8 rot; simp)⟩
  ·have e:(!(ws.map V.int).isEmpty)=true:=by cases ws with | nil=>exact absurd rfl hne | cons _ _=>rfl
   have hp:0 < ws.length:=by cases ws with | nil=>exact absurd rfl hne | cons _ _=>simp
   rw [e]
   refine iteF ?_
   dsimp only [Jp]
   refine hnxC _ _ ?_
   have k0:=Int.emod_nonneg b (show (ws.length:Int)≠0 by omega)
   have k1:=Int.emod_lt_of_pos b (show (0:Int) < ws.length by omega)
   obtain ⟨st,hst⟩:∃ st:Nat,b % (ws.length:Int)=st:=⟨_,(Int.toNat_of_nonneg k0).symm⟩
   have hsl:st<=ws.length:=by omega
   have et:X8 ws b=ws.drop st ++ ws.take st:=by unfold X8 rot; rw [hst,Int.toNat_natCast]
   refine ⟨_,rfl,_,rfl,a,_,rfl,.inl (SqL.of ha),_,_,rfl,rfl,(by rw [List.length_map]; omega),?_⟩
   dsimp only [Zv]
   rw [Zda,hst]
   refine ⟨_,rfl,_,rfl,_,rfl,a,_,rfl,SqL.of ha,λl1 h1=>?_⟩
   rw [Zk3 hsl]
   have s1:Same H (upd H l1 (.lst ((ws.drop st).map V.int))):=Same.new h1
   refine ⟨_,rfl,_,rfl,_,rfl,a,_,rfl,SqL.of (s1 _ _ ha),λl2 h2=>?_⟩
   rw [Zi8 hsl]
   obtain ⟨hne2,h2'⟩:=Wt h2
   refine ⟨l1,l2,_,_,rfl,rfl,by rw [Ze (Ne.symm hne2),Zc],Zc,?_,λl3 h3=>?_⟩
   ·rw [List.length_map,List.length_map,List.length_drop,List.length_take]; exact Gh (by omega)
   ·have s3:=Same.add (o:=.lst ((ws.take st).map V.int)) s1 h2'
    refine k l3 _ (Same.add s3 (s3.free h3)) (s3.free h3) ?_
    rw [Zc,et,List.map_append]
theorem Zb1:FnScope ["tent","place"] ["tent","place"] (Zg Ka):=⟨rfl,rfl,rfl,by decide +kernel,rfl,by decide +kernel,by decide +kernel⟩
theorem Zc0 (T:Txt w K mg t):FnOk P w K mg base (CXr P w) 4 t.f_crossable t.d_crossable ["tent","place"] (Zbs t.C_Tent):=by
 refine T.p_crossable.F.okR Zb1 (λvs H Q E h=>?_) (λcdv A outer s H vs Q E hr h=>?_)
 ·obtain ⟨p,M,ns,x,rfl,_⟩:=h
  rfl
 ·obtain ⟨p,M,ns,x,rfl,ta,hMl,k⟩:=h
  obtain ⟨dx,cl,na,sp,mt,o,f,b⟩:=id ta
  refine ⟨_,(Zh (Zr (Zcv (Xf (pv 0) T.cl_Tent T.p_Tent_has_place.m (Qb T) (hr.mono (by decide)) T.p_Tent_has_place.b .nil Zs (Za (pv 1) Zb)) (Zct (Vq Qo (Xf (pv 0) T.cl_Tent T.p_Tent_mate.m (X1 T) (hr.mono (by decide)) T.p_Tent_mate.b .nil Zs (Za (pv 1) Zb)) W7 (Zn _)))))),?_⟩
  refine ⟨_,rfl,p,dx,_,rfl,b.ins,Yq _ _ _ _,_,rfl,p,M,ns,x,rfl,ta,_,rfl,?_⟩
  by_cases c:0<=x/\x < (ns.length:Int)
  ·rw [decide_eq_true c]
   refine iteT ⟨_,rfl,p,dx,_,rfl,b.ins,Yq _ _ _ _,_,rfl,p,M,ns,x,rfl,ta,hMl,λi y e1 e2=>?_,λz=>absurd c z⟩
   refine ⟨rfl,?_⟩
   have:Yv M x=!decide (mV y=.non):=by
    unfold Yv
    rw [e1,Int.toNat_natCast,List.getD_eq_getElem?_getD,e2,decide_eq_true (show (0:Int)<=i/\(i:Int) < M.length by omega)]
    cases y <;> rfl
   rw [this] at k
   exact k
  ·rw [decide_eq_false c]
   have:Yv M x=false:=by unfold Yv; rw [decide_eq_false (by omega)]; rfl
   rw [this] at k
   exact iteF k
theorem Gj:FnScope ["tent","ahead","place","entry"] ["tent","ahead","place"] (Zg Zad):=⟨rfl,rfl,rfl,by decide +kernel,rfl,by decide +kernel,by decide +kernel⟩
theorem Zgd (T:Txt w K mg t):FnOk P w K mg base (CXr P w) 4 t.f_follows t.d_follows ["tent","ahead","place"] (Zfx t.C_Tent):=by
 refine T.p_follows.F.okR Gj (λvs H Q E h=>?_) (λcdv A outer s H vs Q E hr h=>?_)
 ·obtain ⟨p,M,ns,a,x,rfl,_⟩:=h
  rfl
 ·obtain ⟨p,M,ns,a,x,rfl,ta,hMl,hc,k⟩:=h
  obtain ⟨dx,cl,na,sp,mt,o,f,b⟩:=id ta
  refine ⟨_,(Zf (Zu (i:=3) Gj.nd rfl (Or.inl rfl) (Xf (pv 0) T.cl_Tent T.p_Tent_mate.m (X1 T) (hr.mono (by decide)) T.p_Tent_mate.b .nil Zs (Za (pv 1) Zb)))
   (Zh (Zr (Zcv (Vq Ye (Zo (Xk T) (hr.mono (by decide)) rfl T.p_cloth_of.g T.p_cloth_of.F.kp T.p_cloth_of.b .nil Zs (Za (pv 2) Zb)) (Zo (Xk T) (hr.mono (by decide)) rfl T.p_cloth_of.g T.p_cloth_of.F.kp T.p_cloth_of.b .nil Zs (Za (pv 3) Zb)) (Zn _)) (Zct (Vq Os (pv 2) (pv 3) (Zn _))))))),?_⟩
  obtain ⟨hr1,hs1⟩:=Bool.and_eq_true_iff.mp hc
  have hr1:=of_decide_eq_true hr1
  obtain ⟨m,hm⟩:=Option.isSome_iff_exists.mp hs1
  have hal:a.toNat < M.length:=by omega
  have ha:M[a.toNat]?=some (some m):=by rw [List.getD_eq_getElem?_getD,List.getElem?_eq_getElem hal] at hm; rw [List.getElem?_eq_getElem hal]; exact congrArg some hm
  have ef:Y3 M a x=(decide (x / 3=(m:Int) / 3) && !decide (x=(m:Int))):=by unfold Y3; rw [hm]
  rw [ef] at k
  refine ⟨_,rfl,p,dx,_,rfl,b.ins,Yq _ _ _ _,_,rfl,p,M,ns,a,rfl,ta,hMl,λi y e1 e2=>?_,λz=>absurd (show 0<=a/\a < (ns.length:Int) by omega) z⟩
  have:i=a.toNat:=by omega
  subst this
  rw [ha] at e2
  cases e2
  refine ⟨_,rfl,_,rfl,_,rfl,_,rfl,rfl,_,rfl,?_⟩
  have dI:∀ u v:Int,decide (V.int u=V.int v)=decide (u=v):=λu v=>by
   by_cases z:u=v
   ·subst z; simp
   ·rw [decide_eq_false z,decide_eq_false (λy=>z (by injection y))]
  rw [dI]
  by_cases z:x / 3=(m:Int) / 3
  ·rw [decide_eq_true z] at k ⊢
   refine iteT ⟨_,rfl,_,rfl,rfl,?_⟩
   show Q (.bl (!decide (V.int x=V.int (m:Int)))) H
   rw [dI]
   exact k
  ·rw [decide_eq_false z] at k ⊢
   exact iteF k
theorem Zjs:FnScope ["tent","word"] ["tent","word"] (Zg Zer):=⟨rfl,rfl,rfl,by decide +kernel,rfl,by decide +kernel,by decide +kernel⟩
theorem Zj9 (T:Txt w K mg t):FnOk P w K mg base (CXr P w) 5 t.f_plain t.d_plain ["tent","word"] (Zjo t.C_Tent):=by
  refine T.p_plain.F.okR Zjs (λvs H Q E h=>?_) (λcdv A outer s H vs Q E hr h=>?_)
  · obtain ⟨p,a,M,ns,ws,rfl,_⟩:=h
    rfl
  · obtain ⟨p,a,M,ns,ws,rfl,ta,hMl,ha,hl,k⟩:=h
    refine ⟨_,(Zf (Yj (PW.pt (Va (Jy (V1 (pv 1) (λ_=>rfl))) (Qu (Jy (Qv (Zt (Ga rfl) (by rfl) T.n_all PyProof.Rows.boot_all (Za (Y6 (ts:=["place"]) (fv:=[("tent",0)]) ⟨rfl,by decide +kernel,by decide +kernel,Yk (by rfl),⟨⟨rfl,rfl,Or.inl rfl⟩,trivial⟩⟩ rfl (Yp (pv 1)) (λ_ _ _ _=>(Zq (i:=0) (show List.Nodup (["place","tent"]:List Str) from by decide +kernel) rfl (Or.inl rfl) (Or.inr rfl))) (λ_ _ _ _=>Yu) (λ_ _ _=>rfl) (λ_ _ _ _ _ _=>Ys (Zo (Zc0 T) (hr.mono (by decide)) rfl T.p_crossable.g T.p_crossable.F.kp T.p_crossable.b .nil Zs (Za (pv 1) (Za (pv 0) Zb))))) Zb))))))) (Zh (Zr Vb)) Z7)
      (Zh (Zr (Zt (Ga rfl) (by rfl) T.n_all PyProof.Rows.boot_all (Za (Y6 (ts:=["ahead","place"]) (fv:=[("tent",0)]) ⟨rfl,by decide +kernel,by decide +kernel,Yk (by rfl),⟨⟨rfl,rfl,Or.inl rfl⟩,trivial⟩⟩ rfl (Zcs rfl T.n_zip (Za (pv 1) (Za (Zo (J2 T) (hr.mono (by decide)) rfl T.p_turned.g T.p_turned.F.kp T.p_turned.b .nil Zs (Za (pv 1) (Za Zd Zb))) Zb))) (λ_ _ _ _=>(Oq (n:=2) K rfl (Z3 (Zq (i:=0) (show List.Nodup (["ahead","place","tent"]:List Str) from by decide +kernel) rfl (Or.inl rfl) (Or.inr rfl)) (Z3 (Zq (i:=1) (show List.Nodup (["ahead","place","tent"]:List Str) from by decide +kernel) rfl (Or.inl rfl) (Or.inr rfl)) Xo)))) (λ_ _ _ _=>Yu) (λ_ _ _=>rfl) (λ_ _ _ _ _ _=>Ys (Zo (Zgd T) (hr.mono (by decide)) rfl T.p_follows.g T.p_follows.F.kp T.p_follows.b .nil Zs (Za (pv 2) (Za (pv 0) (Za (pv 1) Zb)))))) Zb))))),?_⟩
    refine Z4 λnxC hnxC=>?_
    refine ⟨_,rfl,_,.inl ⟨_,SqL.of ha,rfl⟩,?_⟩
    by_cases hne:ws=[]
    · subst hne
      exact iteT (k _ (Same.refl _))
    · have e:(!(ws.map V.int).isEmpty)=true:=by cases ws with | nil=>exact absurd rfl hne | cons _ _=>rfl
      have e':(!ws.isEmpty)=true:=by cases ws with | nil=>exact absurd rfl hne | cons _ _=>rfl
      have hp:0 < ws.length:=by cases ws with | nil=>exact absurd rfl hne | cons _ _=>simp
      rw [e]
      refine iteF ?_
      refine ⟨_,rfl,a,rfl,⟨_,SqL.of ha⟩,λD hD=>?_⟩
      refine Yt (xs:=ws.map V.int) (λi σ H1=>∃ v,σ=[v,some (.ref p)]/\Same H H1/\H1 D=some (.lst (((ws.take i).map (Yv M)).map V.bl))) ⟨none,rfl,Same.new hD,Zc⟩ ?_ ?_ ?_
      · rintro i σ H1 _ ⟨v,rfl,sm,h1⟩
        exact SqL.of (sm _ _ ha)
      · rintro i x σ H1 hx ⟨v,rfl,sm,h1⟩
        obtain ⟨y,hy,rfl⟩:=Yf hx
        dsimp only [Zv,tYes]
        rw [if_pos rfl]
        refine ⟨_,rfl,_,rfl,p,M,ns,y,rfl,ta.same sm,hMl,_,h1,?_,_,rfl,Same.add sm hD,?_⟩
        · rw [List.length_map,List.length_map,List.length_take,sizeLine_eq]; omega
        · rw [Zc,List.take_add_one,hy,List.map_append,List.map_append]; rfl
      rintro σ H1 ⟨v,rfl,s1,h1⟩
      rw [List.length_map,List.take_length] at h1
      refine ⟨D,_,rfl,SqL.of h1,_,rfl,?_⟩
      by_cases hc:(ws.map (Yv M)).all id=true
      · rw [hc]
        refine iteF ?_
        dsimp only [Jp]
        refine hnxC _ _ ?_
        refine ⟨_,rfl,_,rfl,a,ws,1,rfl,s1 _ _ ha,hl,λtl H2 s2 htl h2=>?_⟩
        have s02:=s1.trans s2
        have et:X8 ws 1=rot ws (1 % ws.length):=by
          unfold X8
          congr 1
        rw [et] at h2
        have hrl:(rot ws (1 % ws.length)).length=ws.length:=Wy ws (Nat.le_of_lt (Nat.mod_lt _ hp))
        have hcr:∀ y∈ws,Yv M y=true:=λy hy=>List.all_eq_true.mp hc _ (List.mem_map.mpr ⟨y,hy,rfl⟩)
        have ep:Z1 M ws=(W8 M ws (rot ws (1 % ws.length))).all id:=by unfold Z1; rw [e',hc]; rfl
        have k':=λH' s'=>k H' s'
        rw [ep] at k'
        generalize rot ws (1 % ws.length)=vs at h2 hrl k'
        refine ⟨a,tl,_,_,rfl,SqL.of (s02 _ _ ha),SqL.of h2,λD2 hD2=>?_⟩
        refine Zc7 (xs:=ws.map V.int) (ys:=vs.map V.int) (by rw [List.length_map,List.length_map,hrl]) (λi σ H3=>∃ v v',σ=[v,v',some (.ref p)]/\Same H2 H3/\H3 D2=some (.lst (((W8 M ws vs).take i).map V.bl))) ⟨none,none,rfl,Same.new hD2,Zc⟩ ?_ ?_ ?_
        · rintro i σ H3 _ ⟨v,v',rfl,s3,h3⟩
          exact ⟨SqL.of (s3 _ _ (s02 _ _ ha)),SqL.of (s3 _ _ h2)⟩
        · rintro i x y σ H3 q hx hy hq ⟨v,v',rfl,s3,h3⟩
          obtain ⟨x',hx',rfl⟩:=Yf hx
          obtain ⟨y',hy',rfl⟩:=Yf hy
          have s4:Same H3 (upd H3 q (.tup [V.int x',V.int y'])):=Same.new hq
          refine ⟨q,_,rfl,SqT.of Zc,rfl,_,_,rfl,_,_,rfl,rfl,?_⟩
          dsimp only [tYes]
          rw [if_pos rfl]
          refine ⟨_,rfl,_,rfl,_,rfl,p,M,ns,x',y',rfl,((ta.same s02).same s3).same s4,hMl,hcr x' (List.mem_of_getElem? hx'),_,s4 _ _ h3,?_,_,_,rfl,Same.add (s3.trans s4) hD2,?_⟩
          · rw [List.length_map,List.length_take]
            have:(W8 M ws vs).length<=ws.length:=by unfold W8; rw [List.length_map,List.length_zip]; omega
            rw [sizeLine_eq]; omega
          · have:(W8 M ws vs)[i]?=some (Y3 M x' y'):=by
              unfold W8
              rw [List.getElem?_map,List.getElem?_zip_eq_some (z:=(x',y')) |>.mpr ⟨hx',hy'⟩]
              rfl
            rw [Zc,List.take_add_one,this,List.map_append]
            rfl
        rintro σ H3 ⟨v,v',rfl,s3,h3⟩
        have hpl:(W8 M ws vs).length=ws.length:=by unfold W8; rw [List.length_map,List.length_zip]; omega
        rw [List.length_map,List.take_of_length_le (Nat.le_of_eq hpl)] at h3
        exact ⟨D2,_,rfl,SqL.of h3,k' _ (s02.trans s3)⟩
      · have hc:(ws.map (Yv M)).all id=false:=by rw [Bool.eq_false_iff]; exact hc
        rw [hc]
        have ep:Z1 M ws=false:=by unfold Z1; rw [hc]; simp
        have:=k _ s1
        rw [ep] at this
        exact iteT this
theorem Fo:FnScope ["tent","word"] ["tent","word"] (Zg Uf):=⟨rfl,rfl,rfl,by decide +kernel,rfl,by decide +kernel,by decide +kernel⟩
theorem Yc (T:Txt w K mg t):FnOk P w K mg base (CXr P w) 6 t.f_look_thread t.d_look_thread ["tent","word"] (Fk t.C_Tent t.E_NoThread):=by
 refine T.p_look_thread.F.okX Fo (λvs H Q E h=>?_) (λcdv A outer s H vs Q E hr h=>?_)
 ·obtain ⟨p,a,M,ns,ws,rfl,_⟩:=h
  rfl
 ·obtain ⟨p,a,M,ns,ws,rfl,ta,hMl,ha,hl,k⟩:=h
  refine ⟨_,(Zm (Yy (Jy (Qv (Zo (Zj9 T) (hr.mono (by decide)) rfl T.p_plain.g T.p_plain.F.kp T.p_plain.b .nil Zs (Za (pv 0) (Za (pv 1) Zb))))) (Zm (Xi T.x_NoThread FBV rfl T.gx_NoThread rfl (Za Yb Zb))) Xv)),?_⟩
  refine ⟨_,rfl,_,rfl,p,a,M,ns,ws,rfl,ta,hMl,ha,hl,λH' s'=>⟨_,rfl,?_⟩⟩
  obtain ⟨k1,k2⟩:=k H' s'
  cases e:Z1 M ws with
  | true=>exact iteF (k1 e)
  | false=>exact iteT ⟨by decide,k2 e⟩
theorem Wo (ws:List Nat):ws.map nV=(wI ws).map V.int:=by rw [List.map_map]; rfl
theorem Xz (ws:List Nat):(wI ws).length=ws.length:=by simp
noncomputable def Ju (M:List (Option Nat)) (ws:List Nat):List Nat:=ws.reverse.map λp=>(M.getD p none).getD 0
theorem J6 (M:List (Option Nat)) (ws:List Nat):(Ju M ws).length=ws.length:=by unfold Ju; simp
theorem Zja {M:List (Option Nat)} {ws:List Nat} {i p m:Nat} (h:ws.reverse[i]?=some p) (hm:M[p]?=some (some m)):(Ju M ws)[i]?=some m:=by
 unfold Ju
 rw [List.getElem?_map,h]
 show some ((M.getD p none).getD 0)=some m
 rw [List.getD_eq_getElem?_getD,hm]
 rfl
noncomputable def O3 (C:Addr):Sp:=λvs H Q _=>∃ (p a:Addr) (M:List (Option Nat)) (ns:List Int) (ws:List Nat),vs=[.ref p,.ref a]/\Zy C H p M ns/\M.length=ns.length/\H a=some (.lst (ws.map nV))/\ws.length<=10000/\Pl M ws/\∀ (l:Addr) (H':Hp),Same H H'->H l=none->H' l=some (.lst ((Ju M ws).map nV))->Q (.ref l) H'
theorem O6:FnScope ["tent","word"] ["tent","word"] (Zg Gu):=⟨rfl,rfl,rfl,by decide +kernel,rfl,by decide +kernel,by decide +kernel⟩
theorem Kg (T:Txt w K mg t):FnOk P w K mg base (CXr P w) 7 t.f_backward t.d_backward ["tent","word"] (O3 t.C_Tent):=by
 refine T.p_backward.F.okX O6 (λvs H Q E h=>?_) (λcdv A outer s H vs Q E hr h=>?_)
 ·obtain ⟨p,a,M,ns,ws,rfl,_⟩:=h
  rfl
 ·obtain ⟨p,a,M,ns,ws,rfl,ta,hMl,ha,hl,hP,k⟩:=h
  refine ⟨_,(Zp (Z0 (Zw (Yc T) (hr.mono (by decide)) rfl T.p_look_thread.g T.p_look_thread.F.kp T.p_look_thread.b .nil (Za (pv 0) (Za (pv 1) Zb))))
   (Zm (Ya (Zr (Y6 (ts:=["place"]) (fv:=[("tent",0)]) ⟨rfl,by decide +kernel,by decide +kernel,Yk (by rfl),⟨⟨rfl,rfl,Or.inl rfl⟩,trivial⟩⟩ rfl (Zn5 rfl T.n_reversed (Za (pv 1) Zb)) (λ_ _ _ _=>(Zq (i:=0) (show List.Nodup (["place","tent"]:List Str) from by decide +kernel) rfl (Or.inl rfl) (Or.inr rfl))) (λ_ _ _ _=>Yu) (λ_ _ _=>rfl) (λ_ _ _ _ _ _=>Ys (Xf (pv 1) T.cl_Tent T.p_Tent_mate.m (X1 T) (hr.mono (by decide)) T.p_Tent_mate.b .nil Zs (Za (pv 0) Zb)))))))),?_⟩
  refine ⟨_,rfl,_,rfl,p,a,M,ns,wI ws,rfl,ta,hMl,by rw [ha,Wo],by rw [Xz]; omega,λH1 s1=>⟨λ_=>?_,λz=>absurd ((W3.mpr hP).symm.trans z) (by decide)⟩⟩
  refine ⟨_,rfl,a,_,rfl,SqL.of (s1 _ _ ha),λD hD=>?_⟩
  refine Zki (xs:=ws.map nV) (λi σ H2=>∃ v,σ=[v,some (.ref p)]/\Same H1 H2/\H2 D=some (.lst (((Ju M ws).take i).map nV))) ⟨none,rfl,Same.new hD,Zc⟩ ?_ ?_ ?_
  ·rintro i σ H2 _ ⟨v,rfl,sm,h2⟩
   exact SqL.of (sm _ _ (s1 _ _ ha))
  ·rintro i x σ H2 hx ⟨v,rfl,sm,h2⟩
   obtain ⟨q,hq,rfl⟩:∃ q,ws.reverse[i]?=some q/\x=nV q:=by
    rw [<- List.map_reverse,List.getElem?_map] at hx
    cases e:ws.reverse[i]? with
    | none=>rw [e] at hx; cases hx
    | some y=>rw [e] at hx; cases hx; exact ⟨y,rfl,rfl⟩
   obtain ⟨mt,hmt⟩:=hP.has q (List.mem_reverse.mp (List.mem_of_getElem? hq))
   have ta2:=(ta.same s1).same sm
   obtain ⟨dx,cl,na,sp,mt',o,f,b⟩:=id ta2
   have hqM:q < M.length:=(List.getElem?_eq_some_iff.mp hmt).1
   dsimp only [Zv,tYes]
   rw [if_pos rfl]
   refine ⟨_,rfl,p,dx,_,rfl,b.ins,Yq _ _ _ _,_,rfl,p,M,ns,q,rfl,ta2,hMl,λi' y e1 e2=>?_,λz=>absurd (show (0:Int)<=q/\(q:Int) < ns.length by omega) z⟩
   have:i'=q:=by omega
   subst this
   rw [hmt] at e2
   cases e2
   refine ⟨_,h2,?_,_,rfl,Same.add sm hD,?_⟩
   ·rw [List.length_map,List.length_take,J6]; exact Gh (by omega)
   ·rw [Zc,List.take_add_one,Zja hq hmt,List.map_append]; rfl
  ·rintro σ H2 ⟨v,rfl,sm,h2⟩
   rw [List.length_map,List.take_of_length_le (by rw [J6]; exact Nat.le_refl _)] at h2
   exact k D H2 (s1.trans sm) (s1.free hD) h2
theorem Zjj (ws:List Int) (d:Nat):X8 ws (d:Int)=rot ws (d % ws.length):=by
 unfold X8
 congr 1
theorem Ks {M:List (Option Nat)} {ws:List Int} (h:Z1 M ws=true):0 < ws.length:=by
 cases ws with
 | nil=>exact absurd h (by unfold Z1; simp)
 | cons _ _=>simp
theorem Zjw (ws:List Int):rot ws (ws.length % ws.length)=ws:=by
 rw [Nat.mod_self]; unfold rot; simp
noncomputable def Zbo (C:Addr):Sp:=λvs H Q _=>∃ (p a:Addr) (M:List (Option Nat)) (ns ws:List Int),vs=[.ref p,.ref a]/\Zy C H p M ns/\M.length=ns.length/\H a=some (.lst (ws.map V.int))/\ws.length<=100000/\Z1 M ws=true/\∀ (H':Hp) (d:Nat),Same H H'->1<=d->d<=ws.length->rot ws (d % ws.length)=ws->(∀ e,1<=e->e < d->rot ws (e % ws.length)≠ws)->Q (.int ((ws.length / d:Nat):Int)) H'
theorem Vx:FnScope ["tent","word","size"] ["tent","word"] (Zg Zep):=⟨rfl,rfl,rfl,by decide +kernel,rfl,by decide +kernel,by decide +kernel⟩
theorem Zj7 (T:Txt w K mg t):FnOk P w K mg base (CXr P w) 7 t.f_times t.d_times ["tent","word"] (Zbo t.C_Tent):=by
 refine T.p_times.F.okX Vx (λvs H Q E h=>?_) (λcdv A outer s H vs Q E hr h=>?_)
 ·obtain ⟨p,a,M,ns,ws,rfl,_⟩:=h
  rfl
 ·obtain ⟨p,a,M,ns,ws,rfl,ta,hMl,ha,hl,hpl,k⟩:=h
  refine ⟨_,(Zp (Z0 (Zw (Yc T) (hr.mono (by decide)) rfl T.p_look_thread.g T.p_look_thread.F.kp T.p_look_thread.b .nil (Za (pv 0) (Za (pv 1) Zb))))
   (Zp (Ya (Zu (i:=2) Vx.nd rfl (Or.inl rfl) Zd))
   (Zp (Ya (Jf PassesOwn.never (Zk (Zhy hr.units) (Zo (J2 T) (hr.mono (by decide)) rfl T.p_turned.g T.p_turned.F.kp T.p_turned.b .nil Zs (Za (pv 1) (Za (pv 2) Zb))) (pv 1) (Zn _)) (Zh (Gy (i:=2) Vx.nd rfl (Or.inl rfl) Zd Zit))))
   (Zm (Ya (Zr (Zi Ym (Zt Zl (by rfl) T.n_len PySem.boot_len (Za (pv 1) Zb)) (pv 2)))))))),?_⟩
  have hp:=Ks hpl
  refine ⟨_,rfl,_,rfl,p,a,M,ns,ws,rfl,ta,hMl,ha,hl,λH1 s1=>⟨λ_=>?_,λz=>absurd (hpl.symm.trans z) (by decide)⟩⟩
  show tSeq (Us _ _) _ _ _ _
  refine Zz (λσ H2=>∃ d:Nat,σ=[some (.ref p),some (.ref a),some (.int d)]/\Same H H2/\1<=d/\d<=ws.length/\rot ws (d % ws.length)=ws/\(∀ e,1<=e->e < d->rot ws (e % ws.length)≠ws)) (λnx hnx=>?_) ?_
  ·refine ⟨λm σ H2=>∃ d:Nat,m=ws.length - d/\σ=[some (.ref p),some (.ref a),some (.int d)]/\Same H H2/\1<=d/\d<=ws.length/\(∀ e,1<=e->e < d->rot ws (e % ws.length)≠ws),⟨_,1,rfl,rfl,s1,Nat.le_refl _,hp,λe e1 e2=>by omega⟩,?_⟩
   rintro m σ H2 ⟨d,rfl,rfl,s2,d1,d2,hmin⟩
   refine ⟨_,rfl,_,rfl,a,ws,d,rfl,s2 _ _ ha,hl,λtl H3 s3 htl h3=>?_⟩
   rw [Zjj] at h3
   refine ⟨_,rfl,tl,a,_,ws,rfl,rfl,SqL.of h3,SqL.of ((s2.trans s3) _ _ ha),_,rfl,?_⟩
   by_cases c:rot ws (d % ws.length)=ws
   ·rw [decide_eq_true c]
    exact iteF (hnx _ _ ⟨d,rfl,s2.trans s3,d1,d2,c,hmin⟩)
   ·rw [decide_eq_false c]
    have:d≠ws.length:=λz=>c (by rw [z]; exact Zjw ws)
    refine iteT ⟨_,λσ' H' h=>h,?_⟩
    refine ⟨_,rfl,_,_,rfl,rfl,ws.length - (d + 1),by omega,d + 1,rfl,rfl,s2.trans s3,by omega,by omega,λe e1 e2=>?_⟩
    by_cases z:e=d
    ·rw [z]; exact c
    ·exact hmin e e1 (by omega)
  ·rintro σ H2 ⟨d,rfl,s2,d1,d2,hd,hmin⟩
   refine ⟨_,rfl,a,_,rfl,.inl (SqL.of (s2 _ _ ha)),_,rfl,_,_,rfl,rfl,⟨by omega,by omega⟩,?_⟩
   have:=k H2 d s2 d1 d2 hd hmin
   rw [Zda]
   exact this
theorem Znh (ws:List Nat) (b:Nat):rot (wI ws) b=wI (rot ws b):=by
 unfold rot wI; rw [List.map_append,List.map_drop,List.map_take]
noncomputable def Oy (M:List (Option Nat)) (ws:List Nat) (x:List Int):Prop:=∃ b,b < ws.length/\(x=wI (rot ws b)\/x=wI (rot (Ju M ws) b))
theorem Zjh (ws:List Nat) {b:Nat} (h:b < ws.length):X8 (wI ws) (b:Int)=wI (rot ws b):=by
 unfold X8
 rw [Xz,show ((b:Int) % (ws.length:Int)).toNat=b by rw [<- Int.natCast_emod,Nat.mod_eq_of_lt h,Int.toNat_natCast],Znh]
theorem Zgk {S:List Int->Prop} {a b:List Int} {p q:Addr} (h:HT.IsLeast S a):HT.IsLeast (λx=>S x\/x=b) (if HT.lexLt b a=true then b else a):=by
 by_cases z:HT.lexLt b a=true
 ·rw [if_pos z]
  refine ⟨.inr rfl,λc hc=>?_⟩
  rcases hc with hc | rfl
  ·cases e:HT.lexLt c b with
   | false=>rfl
   | true=>rw [<- HT.lex_trans c b a e z]; exact (h.2 c hc)
  ·exact HT.lex_irr _
 ·rw [if_neg z]
  refine ⟨.inl h.1,λc hc=>?_⟩
  rcases hc with hc | rfl
  ·exact h.2 c hc
  ·simpa using z
noncomputable def Za2:Sp:=λvs H Q _=>∃ (a:Addr) (ws:List Nat),vs=[.ref a]/\H a=some (.lst (ws.map nV))/\0 < ws.length/\ws.length<=10000/\∀ (l:Addr) (L:List Int) (H':Hp),Same H H'->H l=none->H' l=some (.lst (L.map V.int))->HT.IsLeast (λx=>∃ b,b < ws.length/\x=wI (rot ws b)) L->Q (.ref l) H'
noncomputable def Zbr (C:Addr):Sp:=λvs H Q _=>∃ (p a:Addr) (M:List (Option Nat)) (ns:List Int) (ws:List Nat),vs=[.ref p,.ref a]/\Zy C H p M ns/\M.length=ns.length/\H a=some (.lst (ws.map nV))/\ws.length<=10000/\Pl M ws/\∀ (l:Addr) (L:List Int) (H':Hp),Same H H'->H l=none->H' l=some (.lst (L.map V.int))->HT.IsLeast (Oy M ws) L->Q (.ref l) H'
theorem Zkm {S T:List Int->Prop} {a b:List Int} (h:HT.IsLeast S a) (g:HT.IsLeast T b):HT.IsLeast (λx=>S x\/T x) (if HT.lexLt b a=true then b else a):=by
 by_cases z:HT.lexLt b a=true
 ·rw [if_pos z]
  refine ⟨.inr g.1,λc hc=>?_⟩
  rcases hc with hc | hc
  ·cases e:HT.lexLt c b with
   | false=>rfl
   | true=>rw [<- HT.lex_trans c b a e z]; exact (h.2 c hc)
  ·exact g.2 c hc
 ·have z:HT.lexLt b a=false:=by simpa using z
  rw [if_neg (by rw [z]; decide)]
  refine ⟨.inl h.1,λc hc=>?_⟩
  rcases hc with hc | hc
  ·exact h.2 c hc
  ·exact HT.lex_le z (g.2 c hc)
theorem IsLeast.iff {S T:List Int->Prop} {a:List Int} (h:HT.IsLeast S a) (e:∀ x,S x ↔ T x):HT.IsLeast T a:=⟨(e a).mp h.1,λb hb=>h.2 b ((e b).mpr hb)⟩
theorem Zcr {H:Hp} {p q:Addr} {a b:List Int} {c:Bool} (h1:H p=some (.lst (a.map V.int))) (h2:H q=some (.lst (b.map V.int))):H (if c=true then q else p)=some (.lst ((if c=true then b else a).map V.int)):=by
 cases c <;> assumption
theorem Zag {H:Hp} {p q:Addr} {c:Bool} (h1:H p=none) (h2:H q=none):H (if c=true then q else p)=none:=by
 cases c <;> assumption
theorem Zje (M:List (Option Nat)) (ws:List Nat) (x:List Int):((∃ b,b < ws.length/\x=wI (rot ws b))\/∃ b,b < (Ju M ws).length/\x=wI (rot (Ju M ws) b)) ↔ Oy M ws x:=by
 rw [J6]
 constructor
 ·rintro (⟨b,h,e⟩ | ⟨b,h,e⟩)
  ·exact ⟨b,h,.inl e⟩
  ·exact ⟨b,h,.inr e⟩
 ·rintro ⟨b,h,e | e⟩
  ·exact .inl ⟨b,h,e⟩
  ·exact .inr ⟨b,h,e⟩
theorem Zld {ws:List Nat}:ws.map nV=(wI ws).map V.int:=Wo ws
theorem Wn:FnScope ["word","best","by"] ["word"] (Zg U2):=⟨rfl,rfl,rfl,by decide +kernel,rfl,by decide +kernel,by decide +kernel⟩
theorem Uk (T:Txt w K mg t):FnOk P w K mg base (CXr P w) 2 t.f_least_turn t.d_least_turn ["word"] Za2:=by
 refine T.p_least_turn.F.okR Wn (λvs H Q E h=>?_) (λcdv A outer s H vs Q E hr h=>?_)
 ·obtain ⟨a,ws,rfl,_⟩:=h
  rfl
 ·obtain ⟨a,ws,rfl,ha,h0,hl,k⟩:=h
  refine ⟨_,(Zf (Zu (i:=1) Wn.nd rfl (Or.inl rfl) (Yw Yz (by rfl) T.n_list PySem.Pv.boot_list (Za (pv 0) Zb)))
   (Zf (Xb PassesOwn.never rfl (Zhq rfl T.n_range (Za Zd (Za (Zt Zl (by rfl) T.n_len PySem.boot_len (Za (pv 0) Zb)) Zb))) (Zq (i:=2) Wn.nd rfl (Or.inl rfl)) (Zh (Zu (i:=1) Wn.nd rfl (Or.inl rfl) (Zt (Fe rfl hr.units) (by rfl) T.n_min PyProof.Rows.boot_min (Za (pv 1) (Za (Zo (J2 T) (hr.mono (by decide)) rfl T.p_turned.g T.p_turned.F.kp T.p_turned.b .nil Zs (Za (pv 0) (Za (pv 2) Zb))) Zb))))))
   (Zh (Zr (pv 1))))),?_⟩
  refine Z4 λnxC hnxC=>?_
  refine ⟨_,rfl,a,_,rfl,.inl (SqL.of ha),λl hl1=>?_⟩
  refine hnxC _ _ ?_
  dsimp only [Zv]
  have s1:Same H (upd H l (.lst (ws.map nV))):=Same.new hl1
  have h1:(upd H l (.lst (ws.map nV))) l=some (.lst ((wI ws).map V.int)):=by rw [Zc,Zld]
  generalize upd H l (.lst (ws.map nV))=H1 at s1 h1 ⊢
  show tSeq (tFor _ _ _) _ _ _ _
  refine Zz (λσ H2=>∃ (p:Addr) (L:List Int) (v:Option V),σ=[some (.ref a),some (.ref p),v]/\Same H H2/\H p=none/\H2 p=some (.lst (L.map V.int))/\HT.IsLeast (λx=>∃ b,b < ws.length/\x=wI (rot ws b)) L) (λnx hnx=>?_) ?_
  ·refine ⟨_,rfl,a,_,rfl,.inl (SqL.of (s1 _ _ ha)),_,_,rfl,⟨by decide,by decide,by rw [List.length_map]; omega,by rw [List.length_map]; omega⟩,?_⟩
   rw [List.length_map]
   refine W5 (n:=((ws.length:Int) - 1).toNat) (λi σ H2=>∃ (p:Addr) (L:List Int) (v:Option V),σ=[some (.ref a),some (.ref p),v]/\Same H H2/\H p=none/\H2 p=some (.lst (L.map V.int))/\HT.IsLeast (λx=>∃ b,b < 1 + i/\x=wI (rot ws b)) L)
    ⟨l,wI ws,none,rfl,s1,hl1,h1,⟨0,by omega,by rw [Zcm]⟩,λc ⟨b,hb,e⟩=>?_⟩ ?_ ?_
   ·have:b=0:=by omega
    subst this
    rw [e,Zcm]
    exact HT.lex_irr _
   ·rintro i σ H2 hi ⟨p,L,v,rfl,s2,hp,h2,m2⟩
    dsimp only [Zv]
    rw [show ((1:Int) + (i:Int))=((1 + i:Nat):Int) by omega]
    have hb:1 + i < ws.length:=by omega
    refine ⟨_,rfl,_,rfl,_,rfl,a,wI ws,_,rfl,by rw [s2 _ _ ha,Zld],by rw [Xz]; omega,λq H3 s3 hq h3=>?_⟩
    rw [Zjh ws hb] at h3
    refine ⟨p,q,L,_,rfl,SqL.of (s3 _ _ h2),SqL.of h3,?_⟩
    refine ⟨_,_,_,rfl,s2.trans s3,Zag hp (s2.free hq),Zcr (s3 _ _ h2) h3,?_⟩
    refine IsLeast.iff (Zgk (p:=p) (q:=q) m2) λx=>?_
    constructor
    ·rintro (⟨b,g,e⟩ | rfl)
     ·exact ⟨b,by omega,e⟩
     ·exact ⟨1 + i,by omega,rfl⟩
    ·rintro ⟨b,g,e⟩
     by_cases z:b=1 + i
     ·subst z; exact .inr e
     ·exact .inl ⟨b,by omega,e⟩
   ·rintro σ H2 ⟨p,L,v,rfl,s2,hp,h2,m2⟩
    refine hnx _ _ ⟨p,L,v,rfl,s2,hp,h2,IsLeast.iff m2 λx=>?_⟩
    refine ⟨λzz46=>?_,λ⟨b,g,e⟩=>⟨b,by omega,e⟩⟩
    obtain ⟨b,g,e⟩:=zz46
    exact ⟨b,by omega,e⟩
  ·rintro σ H2 ⟨p,L,v,rfl,s2,hp,h2,m2⟩
   exact ⟨_,rfl,k p L H2 s2 hp h2 m2⟩
theorem Vz:FnScope ["tent","word","back"] ["tent","word"] (Zg Zes):=⟨rfl,rfl,rfl,by decide +kernel,rfl,by decide +kernel,by decide +kernel⟩
theorem Kz (T:Txt w K mg t):FnOk P w K mg base (CXr P w) 8 t.f_least t.d_least ["tent","word"] (Zbr t.C_Tent):=by
 refine T.p_least.F.okX Vz (λvs H Q E h=>?_) (λcdv A outer s H vs Q E hr h=>?_)
 ·obtain ⟨p,a,M,ns,ws,rfl,_⟩:=h
  rfl
 ·obtain ⟨p,a,M,ns,ws,rfl,ta,hMl,ha,hl,hP,k⟩:=h
  have hw0:0 < ws.length:=by have:=hP.ne; cases ws with | nil=>exact absurd rfl this | cons _ _=>simp
  refine ⟨_,(Zp (Je (i:=2) Vz.nd rfl (Or.inl rfl) (Zw (Kg T) (hr.mono (by decide)) rfl T.p_backward.g T.p_backward.F.kp T.p_backward.b .nil (Za (pv 0) (Za (pv 1) Zb))))
   (Zm (Ya (Zr (Zt (Fe rfl hr.units) (by rfl) T.n_min PyProof.Rows.boot_min (Za (Zo (Uk T) (hr.mono (by decide)) rfl T.p_least_turn.g T.p_least_turn.F.kp T.p_least_turn.b .nil Zs (Za (pv 1) Zb)) (Za (Zo (Uk T) (hr.mono (by decide)) rfl T.p_least_turn.g T.p_least_turn.F.kp T.p_least_turn.b .nil Zs (Za (pv 2) Zb)) Zb))))))),?_⟩
  refine ⟨_,rfl,_,rfl,p,a,M,ns,ws,rfl,ta,hMl,ha,hl,hP,λb H1 s1 hb h1=>?_⟩
  refine ⟨_,rfl,a,ws,rfl,s1 _ _ ha,hw0,hl,λl2 L2 H2 s2 hl2 h2 m2=>?_⟩
  refine ⟨_,rfl,b,Ju M ws,rfl,s2 _ _ h1,by rw [J6]; exact hw0,by rw [J6]; exact hl,λl3 L3 H3 s3 hl3 h3 m3=>?_⟩
  refine ⟨l2,l3,L2,L3,rfl,SqL.of (s3 _ _ h2),SqL.of h3,?_⟩
  have s13:=s1.trans (s2.trans s3)
  exact k _ _ H3 s13 (Zag (s1.free hl2) (s1.free (s2.free hl3))) (Zcr (s3 _ _ h2) h3) (IsLeast.iff (Zkm m2 m3) (Zje M ws))
theorem Zk5 {α:Type} {f:α->V} {ws:List α} {i:Nat} (hi:i < ws.length):∃ pi,pi < ws.length/\(pi + 1) % ws.length=i/\∀ a,ws[pi]?=some a->atI (ws.map f) (0 + (i:Int) - 1)=some (f a):=by
 cases i with
 | zero =>
  refine ⟨ws.length - 1,by omega,by rw [Nat.sub_add_cancel hi,Nat.mod_self],λa ha=>?_⟩
  show atI (ws.map f) (-1)=_
  unfold atI ixN
  rw [if_neg (by decide),if_pos (by rw [List.length_map]; omega)]
  show ((ws.map f)[((-1:Int) + (ws.map f).length).toNat]?)=_
  rw [List.length_map,show ((-1:Int) + (ws.length:Int)).toNat=ws.length - 1 by omega,List.getElem?_map,ha]
  rfl
 | succ j =>
  refine ⟨j,by omega,Nat.mod_eq_of_lt hi,λa ha=>?_⟩
  rw [show (0 + ((j + 1:Nat):Int) - 1)=(j:Int) by omega]
  exact Y1 ha
theorem J0 {M:List (Option Nat)} {ws:List Int} (hw:0 < ws.length):Z1 M ws=true ↔ (∀ p∈ws,Yv M p=true)/\∀ (k:Nat) (a p:Int),ws[k]?=some a->ws[(k + 1) % ws.length]?=some p->Y3 M a p=true:=by
 have hs:1 % ws.length < ws.length:=Nat.mod_lt _ hw
 have e:(!ws.isEmpty)=true:=by cases ws with | nil=>simp at hw | cons _ _=>rfl
 unfold Z1
 rw [e,Bool.true_and,Bool.and_eq_true,Fi (by rw [Wy _ (Nat.le_of_lt hs)])]
 constructor
 ·rintro ⟨h1,h2⟩
  refine ⟨λp hp=>List.all_eq_true.mp h1 _ (List.mem_map.mpr ⟨p,hp,rfl⟩),λk a p ha hp=>h2 k a p ha ?_⟩
  have hk:k < ws.length:=(List.getElem?_eq_some_iff.mp ha).1
  rw [Oo hs hk,Nat.add_mod_mod]
  exact hp
 ·rintro ⟨h1,h2⟩
  refine ⟨?_,λk a p ha hp=>h2 k a p ha ?_⟩
  ·rw [List.all_eq_true]
   intro b hb
   obtain ⟨p,hp,rfl⟩:=List.mem_map.mp hb
   exact h1 p hp
  ·have hk:k < ws.length:=(List.getElem?_eq_some_iff.mp ha).1
   rw [Oo hs hk,Nat.add_mod_mod] at hp
   exact hp
theorem K8 {M:List (Option Nat)} {q:Int} (h:Yv M q=true):∃ u m:Nat,q=(u:Int)/\M[u]?=some (some m):=by
 have h0:=(of_decide_eq_true (Bool.and_eq_true_iff.mp h).1).1
 have e:q=((q.toNat:Nat):Int):=(Int.toNat_of_nonneg h0).symm
 rw [e] at h
 obtain ⟨m,hm⟩:=Vg.mp h
 exact ⟨_,m,e,hm⟩
theorem Zbl {n a b:Nat} (ha:a < n) (hb:b < n) (h:(a + 1) % n=(b + 1) % n):a=b:=by
 by_cases c:a + 1 < n
 ·by_cases d:b + 1 < n
  ·rw [Nat.mod_eq_of_lt c,Nat.mod_eq_of_lt d] at h; omega
  ·rw [Nat.mod_eq_of_lt c,show b + 1=n by omega,Nat.mod_self] at h; omega
 ·by_cases d:b + 1 < n
  ·rw [Nat.mod_eq_of_lt d,show a + 1=n by omega,Nat.mod_self] at h; omega
  ·omega
theorem Zoz {ws:List Int} {i:Nat} {x:V} (hx:(ws.map V.int)[i]?=some x):∃ q,ws[i]?=some q/\x=V.int q:=by
 rw [List.getElem?_map] at hx
 cases e:ws[i]? with
 | none=>rw [e] at hx; cases hx
 | some y=>rw [e] at hx; cases hx; exact ⟨y,rfl,rfl⟩
noncomputable def Zdw:Sp:=λvs H Q _=>∃ (m a:Addr) (M:List (Option Nat)) (ws:List Int),vs=[.ref m,.ref a]/\H m=some (.lst (M.map mV))/\H a=some (.lst (ws.map V.int))/\ws.length<=1000/\Q (.bl (Z1 M ws)) H
theorem Qd:FnScope ["_law_mates","_law_word","_law_p","_law_k","_law_side"] ["_law_mates","_law_word"] (Zg Zaa):=⟨rfl,rfl,rfl,by decide +kernel,rfl,by decide +kernel,by decide +kernel⟩
theorem Zga (T:Txt w K mg t):FnOk P w K mg base (CXr P w) 1 t.f_l_plain t.d_l_plain ["_law_mates","_law_word"] Zdw:=by
 refine T.p_l_plain.F.okR Qd (λvs H Q E h=>?_) (λcdv A outer s H vs Q E hr h=>?_)
 ·obtain ⟨m,a,M,ws,rfl,_⟩:=h
  rfl
 ·obtain ⟨m,a,M,ws,rfl,hm,ha,hl,k⟩:=h
  refine ⟨_,(Zf (Yj (Zk Ye (Zt Zl (by rfl) T.n_len PySem.boot_len (Za (pv 1) Zb)) Zd (Zn _)) (Zh (Zr Vb)) Z7)
   (Zf (Xb PassesOwn.never rfl (Yp (pv 1)) (Zq (i:=2) Qd.nd rfl (Or.inl rfl)) (Zh (Yj (PW.pt (Va (Zk Wi (pv 2) Zd (Zn _)) (Va (Zk Zf6 (pv 2) (Zt Zl (by rfl) T.n_len PySem.boot_len (Za (pv 0) Zb)) (Zn _)) (Qu (Zk Zn9 (Z9 Z8 (pv 0) (pv 2) (λ_ _=>rfl)) W7 (Zn _)))))) (Zh (Zr Vb)) Z7)))
   (Zf (Xb PassesOwn.never rfl (Xt rfl T.n_range (Za (Zt Zl (by rfl) T.n_len PySem.boot_len (Za (pv 1) Zb)) Zb)) (Zq (i:=3) Qd.nd rfl (Or.inl rfl)) (Zf (Zu (i:=4) Qd.nd rfl (Or.inl rfl) (Z9 Z8 (pv 0) (Z9 Z8 (pv 1) (Zi J1 (pv 3) Zd) (λ_ _=>rfl)) (λ_ _=>rfl)))
   (Zh (Yj (PW.pt (Va (Zk Os (Zi Ym (pv 4) Zd) (Zi Ym (Z9 Z8 (pv 1) (pv 3) (λ_ _=>rfl)) Zd) (Zn _)) (Qu (Zk Ye (pv 4) (Z9 Z8 (pv 1) (pv 3) (λ_ _=>rfl)) (Zn _))))) (Zh (Zr Vb)) Z7))))
   (Zh (Zr Vb))))),?_⟩
  refine Z4 λnxC hnxC=>?_
  refine ⟨_,rfl,a,_,rfl,.inl (SqL.of ha),rfl,_,rfl,?_⟩
  refine ite2 (λz=>?_) (λz=>?_)
  ·have:ws=[]:=by
    have:=of_decide_eq_true z
    injection this with this
    rw [List.length_map] at this
    exact List.length_eq_zero_iff.mp (by omega)
   subst this
   exact k
  have hw0:0 < ws.length:=by
   cases ws with
   | nil=>exact absurd rfl z
   | cons _ _=>simp
  dsimp only [Jp]
  refine hnxC _ _ ?_
  refine Zz (λσ H4=>∃ v2,σ=[some (.ref m),some (.ref a),v2,none,none]/\H4=H/\∀ p∈ws,Yv M p=true) (λnx hnx=>?_) ?_
  ·refine ⟨_,rfl,a,rfl,⟨_,SqL.of ha⟩,?_⟩
   refine Jn (xs:=ws.map V.int) (λi σ H4=>∃ v2,σ=[some (.ref m),some (.ref a),v2,none,none]/\H4=H/\∀ (j:Nat) (p:Int),j < i->ws[j]?=some p->Yv M p=true) ⟨_,rfl,rfl,λj p hj=>absurd hj (Nat.not_lt_zero j)⟩ ?_ ?_ ?_
   ·rintro i σ H4 _ ⟨v2,rfl,rfl,_⟩
    exact SqL.of ha
   ·rintro i x σ H4 hx ⟨v2,rfl,rfl,hcr⟩
    obtain ⟨q,hq,rfl⟩:=Zoz hx
    have bad:Yv M q=false->Q (.bl false) H4:=λe=>by
     have:Z1 M ws=false:=by
      rw [Bool.eq_false_iff]
      intro y
      rw [((J0 hw0).mp y).1 q (List.mem_of_getElem? hq)] at e
      cases e
     rw [this] at k
     exact k
    dsimp only [Zv]
    refine ⟨_,rfl,_,_,rfl,rfl,_,rfl,?_⟩
    refine ite2 (λz=>iteT (bad ?_)) (λz=>?_)
    ·have:=of_decide_eq_true z
     unfold Yv; rw [decide_eq_false (by omega)]; rfl
    refine ⟨_,rfl,_,rfl,m,_,rfl,.inl (SqL.of hm),_,_,rfl,rfl,_,rfl,?_⟩
    refine ite2 (λz=>iteT (bad ?_)) (λz'=>?_)
    ·have:=of_decide_eq_true z
     rw [List.length_map] at this
     unfold Yv; rw [decide_eq_false (by omega)]; rfl
    have hq0:0<=q:=by have:=of_decide_eq_false (Bool.eq_false_iff.mpr z); omega
    have hqM:q < M.length:=by have:=of_decide_eq_false (Bool.eq_false_iff.mpr z'); rw [List.length_map] at this; omega
    obtain ⟨u,rfl⟩:∃ u:Nat,q=u:=⟨q.toNat,(Int.toNat_of_nonneg hq0).symm⟩
    obtain ⟨mt,hmt⟩:∃ mt,M[u]?=some mt:=⟨_,List.getElem?_eq_getElem (by omega)⟩
    refine ⟨_,rfl,_,rfl,m,_,_,_,rfl,rfl,SqL.of hm,Y1 hmt,rfl,_,rfl,?_⟩
    cases mt with
    | none =>
     refine iteT (bad ?_)
     unfold Yv; rw [Int.toNat_natCast,List.getD_eq_getElem?_getD,hmt]; simp
    | some mm =>
     refine iteF ⟨_,rfl,rfl,λj p hj hp=>?_⟩
     by_cases c:j=i
     ·subst c
      rw [hq] at hp
      cases hp
      exact Vg.mpr ⟨mm,hmt⟩
     ·exact hcr j p (by omega) hp
   ·rintro σ H4 ⟨v2,rfl,rfl,hcr⟩
    refine hnx _ _ ⟨_,rfl,rfl,λp hp=>?_⟩
    obtain ⟨j,hj,e⟩:=List.mem_iff_getElem.mp hp
    exact hcr j p (by rw [List.length_map]; exact hj) (by rw [List.getElem?_eq_getElem hj,e])
  ·rintro σ H4 ⟨v2,rfl,rfl,hcr⟩
   refine Zz (λσ H5=>H5=H4/\Z1 M ws=true) (λnx hnx=>?_) ?_
   ·refine ⟨_,rfl,a,_,rfl,.inl (SqL.of ha),_,rfl,by omega,by rw [List.length_map]; omega,?_⟩
    have eL:(((ws.map V.int).length:Nat):Int).toNat=ws.length:=by simp
    rw [eL]
    refine W5 (n:=ws.length) (λi σ H5=>∃ v3 v4,σ=[some (.ref m),some (.ref a),v2,v3,v4]/\H5=H4/\∀ (k:Nat) (a p:Int),(k + 1) % ws.length < i->ws[k]?=some a->ws[(k + 1) % ws.length]?=some p->Y3 M a p=true) ⟨_,_,rfl,rfl,λk a p hj=>absurd hj (Nat.not_lt_zero _)⟩ ?_ ?_
    ·rintro i σ H5 hi ⟨v3,v4,rfl,rfl,hfo⟩
     obtain ⟨pi,hpi,hpn,hat⟩:=Zk5 (f:=V.int) hi
     have hq:=List.getElem?_eq_getElem hi
     have hp':=List.getElem?_eq_getElem hpi
     obtain ⟨u,sd,eu,hsd⟩:=K8 (hcr _ (List.mem_of_getElem? hp'))
     have hix:atI (ws.map V.int) (0 + (i:Int))=some (V.int ws[i]):=by rw [Int.zero_add]; exact Y1 hq
     have hat:=hat _ hp'
     rw [eu] at hat hp'
     have step:∀ q:Int,ws[i]?=some q->Y3 M (u:Int) q=true->∀ (k:Nat) (a p:Int),(k + 1) % ws.length < i + 1->ws[k]?=some a->ws[(k + 1) % ws.length]?=some p->Y3 M a p=true:=λq hq hf k a p hk hka hkp=>by
      by_cases c:(k + 1) % ws.length=i
      ·have:k=pi:=Zbl (List.getElem?_eq_some_iff.mp hka).1 hpi (c.trans hpn.symm)
       subst this
       rw [hp'] at hka
       rw [hpn,hq] at hkp
       cases hka
       cases hkp
       exact hf
      ·exact hfo k a p (by omega) hka hkp
     have bad:∀ q:Int,ws[i]?=some q->Y3 M (u:Int) q=false->Q (.bl false) H5:=λq hq hf=>by
      have:Z1 M ws=false:=by
       rw [Bool.eq_false_iff]
       intro y
       rw [((J0 hw0).mp y).2 pi u q hp' (by rw [hpn]; exact hq)] at hf
       cases hf
      rw [this] at k
      exact k
     have step:=step _ hq
     have bad:=bad _ hq
     have ef:∀ q:Int,Y3 M (u:Int) q=(decide (q / 3=(sd:Int) / 3) && !decide (q=(sd:Int))):=λq=>by unfold Y3; rw [Int.toNat_natCast,List.getD_eq_getElem?_getD,hsd]; rfl
     have ef:=ef ws[i]
     generalize ws[i]=q at hix step bad ef
     dsimp only [Zv]
     refine Z4 λnxC hnxC=>?_
     refine ⟨_,rfl,_,rfl,_,rfl,_,_,rfl,rfl,a,_,_,_,rfl,rfl,SqL.of ha,hat,m,_,_,_,rfl,rfl,SqL.of hm,Y1 hsd,?_⟩
     refine hnxC _ _ ?_
     refine ⟨_,rfl,_,_,rfl,rfl,⟨by decide,by decide⟩,_,rfl,_,rfl,a,_,_,_,rfl,rfl,SqL.of ha,hix,_,_,rfl,rfl,⟨by decide,by decide⟩,rfl,_,rfl,?_⟩
     by_cases c1:q / 3=(sd:Int) / 3
     ·rw [show (!decide ((λi j=>V.int (i / j)) (sd:Int) 3=(λi j=>V.int (i / j)) q 3))=false from by
       rw [Bool.not_eq_false']
       exact decide_eq_true (show V.int _=V.int _ by rw [c1])]
      refine iteF ⟨_,rfl,_,rfl,_,rfl,a,_,_,_,rfl,rfl,SqL.of ha,hix,rfl,_,rfl,?_⟩
      by_cases c2:q=(sd:Int)
      ·rw [show decide (mV (some sd)=V.int q)=true from decide_eq_true (by rw [c2]; rfl)]
       exact iteT (bad (by rw [ef,decide_eq_true c2]; simp))
      ·rw [show decide (mV (some sd)=V.int q)=false from decide_eq_false (λy=>c2 (by injection y with y; exact y.symm))]
       exact iteF ⟨_,_,rfl,rfl,step (by rw [ef,decide_eq_true c1,decide_eq_false c2]; rfl)⟩
     ·rw [show (!decide ((λi j=>V.int (i / j)) (sd:Int) 3=(λi j=>V.int (i / j)) q 3))=true from by
       rw [Bool.not_eq_true']
       exact decide_eq_false (λy:V.int _=V.int _=>c1 (by injection y with y; exact y.symm))]
      exact iteT (iteT (bad (by rw [ef,decide_eq_false c1]; rfl)))
    ·rintro σ H5 ⟨v3,v4,rfl,rfl,hfo⟩
     exact hnx _ _ ⟨rfl,(J0 hw0).mpr ⟨hcr,λk a p ha hp=>hfo k a p (Nat.mod_lt _ hw0) ha hp⟩⟩
   ·rintro σ H5 ⟨rfl,e⟩
    rw [e] at k
    exact k
theorem dN {a b:Nat}:decide (V.int (a:Int)=V.int (b:Int))=decide (a=b):=by
 by_cases z:a=b
 ·subst z; simp
 ·rw [decide_eq_false z,decide_eq_false (λy=>z (by injection y with y; omega))]
noncomputable def Zg8 (C:Addr):Sp:=λvs H Q _=>∃ (p:Addr) (M:List (Option Nat)) (ns:List Int) (a x m:Nat),vs=[.ref p,.int a,.int x]/\Zy C H p M ns/\M.length=ns.length/\M[a]?=some (some m)/\Q (.str (letS M a x)) H
noncomputable def Ge (C:Addr):Sp:=λvs H Q _=>∃ (p a:Addr) (M:List (Option Nat)) (ns:List Int) (ws:List Nat),vs=[.ref p,.ref a]/\Zy C H p M ns/\M.length=ns.length/\H a=some (.lst (ws.map nV))/\ws.length<=10000/\Pl M ws/\∀ H',Same H H'->Q (.str (Txt.join (Str.ofString "") (letL M ws))) H'
theorem Zkj (M:List (Option Nat)) (a p:Nat):(letS M a p).length=1:=by unfold letS; split <;> decide
theorem Zc9 (M:List (Option Nat)):∀ l:List (Nat × Nat),((l.map λq=>letS M q.1 q.2).map (·.length)).sum=l.length
 | []=>rfl
 | q :: r=>by rw [List.map_cons,List.map_cons,List.sum_cons,Zc9 M r,Zkj,List.length_cons]; omega
theorem Zhe:FnScope ["tent","ahead","place"] ["tent","ahead","place"] (Zg Zca):=⟨rfl,rfl,rfl,by decide +kernel,rfl,by decide +kernel,by decide +kernel⟩
theorem Zh8 (T:Txt w K mg t):FnOk P w K mg base (CXr P w) 4 t.f_letter t.d_letter ["tent","ahead","place"] (Zg8 t.C_Tent):=by
 refine T.p_letter.F.okR Zhe (λvs H Q E h=>?_) (λcdv A outer s H vs Q E hr h=>?_)
 ·obtain ⟨p,M,ns,a,x,m,rfl,_⟩:=h
  rfl
 ·obtain ⟨p,M,ns,a,x,m,rfl,ta,hMl,ha,k⟩:=h
  obtain ⟨dx,cl,na,sp,mt',o,f,b⟩:=id ta
  have haM:a < M.length:=(List.getElem?_eq_some_iff.mp ha).1
  refine ⟨_,(Zh (Zr (Qy (Zk Ye (pv 2) (Zo (K0 T) (hr.mono (by decide)) rfl T.p_after.g T.p_after.F.kp T.p_after.b .nil Zs (Za (Xf (pv 0) T.cl_Tent T.p_Tent_mate.m (X1 T) (hr.mono (by decide)) T.p_Tent_mate.b .nil Zs (Za (pv 1) Zb)) Zb)) (Zn _)) Yb Yb))),?_⟩
  refine ⟨_,rfl,_,rfl,p,dx,_,rfl,b.ins,Yq _ _ _ _,_,rfl,p,M,ns,a,rfl,ta,hMl,λi y e1 e2=>?_,λz=>absurd (show (0:Int)<=a/\(a:Int) < ns.length by omega) z⟩
  have:i=a:=by omega
  subst this
  rw [ha] at e2
  cases e2
  refine ⟨(m:Int),rfl,rfl,_,rfl,?_⟩
  have e:letS M i x=if x=aftN m then Str.ofString "R" else Str.ofString "L":=by unfold letS; rw [List.getD_eq_getElem?_getD,ha]; rfl
  rw [e] at k
  rw [Znd,dN]
  by_cases z:x=aftN m
  ·rw [if_pos z] at k
   rw [decide_eq_true z]
   exact iteT k
  ·rw [if_neg z] at k
   rw [decide_eq_false z]
   exact iteF k
theorem Gi:FnScope ["tent","word"] ["tent","word"] (Zg F9):=⟨rfl,rfl,rfl,by decide +kernel,rfl,by decide +kernel,by decide +kernel⟩
theorem G0 (T:Txt w K mg t):FnOk P w K mg base (CXr P w) 7 t.f_letters t.d_letters ["tent","word"] (Ge t.C_Tent):=by
 refine T.p_letters.F.okX Gi (λvs H Q E h=>?_) (λcdv A outer s H vs Q E hr h=>?_)
 ·obtain ⟨p,a,M,ns,ws,rfl,_⟩:=h
  rfl
 ·obtain ⟨p,a,M,ns,ws,rfl,ta,hMl,ha,hl,hP,k⟩:=h
  refine ⟨_,(Zp (Z0 (Zw (Yc T) (hr.mono (by decide)) rfl T.p_look_thread.g T.p_look_thread.F.kp T.p_look_thread.b .nil (Za (pv 0) (Za (pv 1) Zb))))
   (Zm (Ya (Zr (Xx PySem.F.plainAttrs_str PySem.F.slot_str_join PySem.F.type_str_join Ze9 Yb (Za (Y6 (ts:=["ahead","place"]) (fv:=[("tent",0)]) ⟨rfl,by decide +kernel,by decide +kernel,Yk (by rfl),⟨⟨rfl,rfl,Or.inl rfl⟩,trivial⟩⟩ rfl (Zcs rfl T.n_zip (Za (pv 1) (Za (Zo (J2 T) (hr.mono (by decide)) rfl T.p_turned.g T.p_turned.F.kp T.p_turned.b .nil Zs (Za (pv 1) (Za Zd Zb))) Zb))) (λ_ _ _ _=>(Oq (n:=2) K rfl (Z3 (Zq (i:=0) (show List.Nodup (["ahead","place","tent"]:List Str) from by decide +kernel) rfl (Or.inl rfl) (Or.inr rfl)) (Z3 (Zq (i:=1) (show List.Nodup (["ahead","place","tent"]:List Str) from by decide +kernel) rfl (Or.inl rfl) (Or.inr rfl)) Xo)))) (λ_ _ _ _=>Yu) (λ_ _ _=>rfl) (λ_ _ _ _ _ _=>Ys (Zo (Zh8 T) (hr.mono (by decide)) rfl T.p_letter.g T.p_letter.F.kp T.p_letter.b .nil Zs (Za (pv 2) (Za (pv 0) (Za (pv 1) Zb)))))) Zb)))))),?_⟩
  have hp:0 < ws.length:=by have:=hP.ne; cases ws with | nil=>exact absurd rfl this | cons _ _=>simp
  refine ⟨_,rfl,_,rfl,p,a,M,ns,wI ws,rfl,ta,hMl,by rw [ha,Wo],by rw [Xz]; omega,λH1 s1=>⟨λ_=>?_,λz=>absurd ((W3.mpr hP).symm.trans z) (by decide)⟩⟩
  refine ⟨rfl,_,rfl,_,rfl,a,wI ws,1,rfl,by rw [s1 _ _ ha,Wo],by rw [Xz]; omega,λtl H2 s2 htl h2=>?_⟩
  have s02:=s1.trans s2
  have et:(X8 (wI ws) 1).map V.int=(rot ws (1 % ws.length)).map nV:=by
   rw [Wo]
   congr 1
   unfold X8
   rw [Xz,show (1 % (ws.length:Int)).toNat=1 % ws.length by
    rw [show (1:Int)=((1:Nat):Int) from rfl,<- Int.natCast_emod,Int.toNat_natCast]]
   unfold rot wI
   rw [List.map_append,List.map_drop,List.map_take]
  rw [et] at h2
  have hrl:(rot ws (1 % ws.length)).length=ws.length:=Wy ws (Nat.le_of_lt (Nat.mod_lt _ hp))
  unfold letL at k
  generalize rot ws (1 % ws.length)=vs at h2 hrl k
  refine ⟨a,tl,_,_,rfl,SqL.of (s02 _ _ ha),SqL.of h2,λD2 hD2=>?_⟩
  refine Zc7 (xs:=ws.map nV) (ys:=vs.map nV) (by rw [List.length_map,List.length_map,hrl]) (λi σ H3=>∃ v v',σ=[v,v',some (.ref p)]/\Same H2 H3/\H3 D2=some (.lst ((((ws.zip vs).map λq=>letS M q.1 q.2).take i).map V.str))) ⟨none,none,rfl,Same.new hD2,Zc⟩ ?_ ?_ ?_
  ·rintro i σ H3 _ ⟨v,v',rfl,s3,h3⟩
   exact ⟨SqL.of (s3 _ _ (s02 _ _ ha)),SqL.of (s3 _ _ h2)⟩
  ·rintro i x y σ H3 q hx hy hq ⟨v,v',rfl,s3,h3⟩
   obtain ⟨x',hx',rfl⟩:=Yf hx
   obtain ⟨y',hy',rfl⟩:=Yf hy
   have s4:Same H3 (upd H3 q (.tup [nV x',nV y'])):=Same.new hq
   obtain ⟨mt,hmt⟩:=hP.has x' (List.mem_of_getElem? hx')
   refine ⟨q,_,rfl,SqT.of Zc,rfl,_,_,rfl,_,_,rfl,rfl,?_⟩
   dsimp only [tYes]
   rw [if_pos rfl]
   refine ⟨_,rfl,_,rfl,_,rfl,p,M,ns,x',y',mt,rfl,((ta.same s02).same s3).same s4,hMl,hmt,_,s4 _ _ h3,?_,_,_,rfl,Same.add (s3.trans s4) hD2,?_⟩
   ·rw [List.length_map,List.length_take,List.length_map,List.length_zip,sizeLine_eq]
    omega
   ·have:((ws.zip vs).map λq=>letS M q.1 q.2)[i]?=some (letS M x' y'):=by
     rw [List.getElem?_map,List.getElem?_zip_eq_some (z:=(x',y')) |>.mpr ⟨hx',hy'⟩]
     rfl
    rw [Zc,List.take_add_one,this,List.map_append]
    rfl
  rintro σ H3 ⟨v,v',rfl,s3,h3⟩
  have hpl:((ws.zip vs).map λq=>letS M q.1 q.2).length=ws.length:=by rw [List.length_map,List.length_zip]; omega
  rw [List.length_map,List.take_of_length_le (Nat.le_of_eq hpl)] at h3
  exact ⟨_,D2,_,rfl,rfl,SqL.of h3,by decide,by rw [Zc9,List.length_map,List.length_zip]; omega,k _ (s02.trans s3)⟩
noncomputable def dI (ks:List Int) (f:Int->Int):List (Key × V):=ks.map λx=>((Sum.inl x:Key),V.int (f x))
theorem Zou {ks:List Int} {f:Int->Int} {y:Int} (h:y∈ks):valV (dI ks f) (Sum.inl y)=some (V.int (f y)):=by unfold dI; rw [Wf,if_pos h]
theorem Zov {ks:List Int} {f:Int->Int} {y v:Int} (h:y∈ks):putK (dI ks f) (Sum.inl y) (V.int v)=dI ks λx=>if x=y then v else f x:=by
 unfold dI
 rw [Zex h]
 apply List.map_congr_left
 intro x _
 by_cases c:x=y
 ·simp [c]
 ·simp [c]
theorem Zow {ks:List Int} {f:Int->Int} {y v:Int} (h:y ∉ ks):putK (dI ks f) (Sum.inl y) (V.int v)=dI (ks ++ [y]) λx=>if x=y then v else f x:=by
 unfold dI
 rw [Fs h,List.map_append]
 congr 1
 ·apply List.map_congr_left
  intro x hx
  have:x≠y:=λz=>h (z ▸ hx)
  simp [this]
 ·simp
theorem Zi7 {ks:List Int} {f:Int->Int}:(dI ks f).length=ks.length:=by unfold dI; simp
theorem Zdj {ks:List Int} {f g:Int->Int} (h:∀ x∈ks,f x=g x):dI ks f=dI ks g:=by
 unfold dI
 exact List.map_congr_left λx hx=>by rw [h x hx]
noncomputable def crS (ns:List Int) (ws:List Nat) (x:Int):Int:=((ws.countP λq=>decide (ns[q]?=some x):Nat):Int)
theorem K9 {α:Type} {f:α->Bool} {l:List α} {i:Nat} {x:α} (h:l[i]?=some x):(l.take (i + 1)).countP f=(l.take i).countP f + if f x=true then 1 else 0:=by
 rw [List.take_add_one,h,List.countP_append]
 simp [List.countP_cons]
theorem Zk4 {ns:List Int} {ws:List Nat} {i q:Nat} {y:Int} (h:ws[i]?=some q) (hy:ns[q]?=some y) (x:Int):crS ns (ws.take (i + 1)) x=if x=y then crS ns (ws.take i) y + 1 else crS ns (ws.take i) x:=by
 unfold crS
 rw [K9 h]
 by_cases c:x=y
 ·subst c
  rw [if_pos rfl,if_pos (decide_eq_true hy)]
  omega
 ·rw [if_neg c,if_neg (λz=>c (by have:=of_decide_eq_true z; rw [hy] at this; cases this; rfl))]
  omega
noncomputable def rowI (n:Nat) (f:Nat->Int):List V:=(List.range n).map λp=>V.int (f p)
theorem Qt (n:Nat) (f:Nat->Int):(rowI n f).length=n:=by unfold rowI; simp
theorem On {n p:Nat} {f:Nat->Int} (h:p < n):(rowI n f)[p]?=some (V.int (f p)):=by unfold rowI; rw [List.getElem?_map,List.getElem?_range h]; rfl
theorem Zcl {n p:Nat} {f:Nat->Int} {v:Int}:(rowI n f).set p (V.int v)=rowI n λq=>if q=p then v else f q:=by
 apply List.ext_getElem?
 intro i
 by_cases hi:i < n
 ·rw [On hi,List.getElem?_set,Qt]
  by_cases c:p=i
  ·subst c; simp [hi]
  ·rw [if_neg c,On hi,if_neg (λz=>c z.symm)]
 ·rw [List.getElem?_eq_none (by rw [List.length_set,Qt]; omega),List.getElem?_eq_none (by rw [Qt]; omega)]
theorem Zf2 {n:Nat} {f g:Nat->Int} (h:∀ p,f p=g p):rowI n f=rowI n g:=by unfold rowI; exact List.map_congr_left λp _=>by rw [h p]
noncomputable def Zbp (C:Addr):Sp:=λvs H Q _=>∃ (p a:Addr) (M:List (Option Nat)) (ns:List Int) (ws:List Nat),vs=[.ref p,.ref a]/\Zy C H p M ns/\TD M ns/\ns.length < 64/\H a=some (.lst (ws.map nV))/\ws.length<=10000/\Pl M ws /\
 ∀ (l:Addr) (ks:List Int) (H':Hp),Same H H'->H l=none->ks.Perm (keys ns ns.length)->H' l=some (.dK (dI ks (crS ns ws)))->Q (.ref l) H'
noncomputable def flP (M:List (Option Nat)) (ws:List Nat) (p:Nat):Int:=((ws.countP λq=>decide (q=p):Nat):Int) - ((ws.countP λq=>decide (M[q]?=some (some p)):Nat):Int)
theorem Zk0 {M:List (Option Nat)} {ws:List Nat} {i q m:Nat} (h:ws[i]?=some q) (hm:M[q]?=some (some m)) (ne:q≠m) (p:Nat):flP M (ws.take (i + 1)) p=if p=m then flP M (ws.take i) m - 1 else if p=q then flP M (ws.take i) q + 1 else flP M (ws.take i) p:=by
 unfold flP
 rw [K9 h,K9 h]
 by_cases c:p=m
 ·subst c
  rw [if_pos rfl,if_pos (decide_eq_true hm),if_neg (by rw [decide_eq_false ne]; decide)]
  omega
 ·rw [if_neg c]
  have hn:¬ M[q]?=some (some p):=λz=>by rw [hm] at z; cases z; exact c rfl
  by_cases d:p=q
  ·subst d
   rw [if_pos rfl,if_pos (decide_eq_true rfl),if_neg (by rw [decide_eq_false hn]; decide)]
   omega
  ·rw [if_neg d,if_neg (by rw [decide_eq_false (λz=>d z.symm)]; decide),if_neg (by rw [decide_eq_false hn]; decide)]
   omega
noncomputable def Za3 (C:Addr):Sp:=λvs H Q _=>∃ (p:Addr) (M:List (Option Nat)) (ns:List Int),vs=[.ref p]/\Zy C H p M ns/\ns.length<=1000/\∀ l,H l=none->Q (.ref l) (upd H l (.lst ((List.range ns.length).map nV)))
noncomputable def Zen (C:Addr):Sp:=λvs H Q _=>∃ (p a:Addr) (M:List (Option Nat)) (ns:List Int) (ws:List Nat),vs=[.ref p,.ref a]/\Zy C H p M ns/\M.length=ns.length/\M.length<=1000/\InvM M/\H a=some (.lst (ws.map nV))/\ws.length<=10000/\Pl M ws/\∀ (l:Addr) (H':Hp),Same H H'->H l=none->H' l=some (.lst (rowI M.length (flP M ws)))->Q (.ref l) H'
theorem U0:FnScope ["self"] ["self"] (Zg J9):=⟨rfl,rfl,rfl,by decide +kernel,rfl,by decide +kernel,by decide +kernel⟩
theorem Of (T:Txt w K mg t):FnOk P w K mg base (CXr P w) 1 t.f_Tent_all_places t.d_Tent_all_places ["self"] (Za3 t.C_Tent):=by
 refine T.p_Tent_all_places.F.okR U0 (λvs H Q E h=>?_) (λcdv A outer s H vs Q E hr h=>?_)
 ·obtain ⟨p,M,ns,rfl,_⟩:=h
  rfl
 ·obtain ⟨p,M,ns,rfl,⟨dx,cl,na,sp,mt,o,f,b⟩,hl,k⟩:=h
  refine ⟨_,(Zh (Zr (Oc rfl T.n_list rfl T.n_range rfl (Za (Zt Zl (by rfl) T.n_len PySem.boot_len (Za (Yr (pv 0) rfl) Zb)) Zb)))),?_⟩
  exact ⟨_,rfl,p,_,dx,_,_,rfl,b.ins,T.cl_Tent,T.a_Tent_names_at,K7 ..,na,_,rfl,.inl (SqL.of b.names),ns.length,by rw [List.length_map],hl,λl hl'=>k l hl'⟩
theorem Om:FnScope ["tent","word","surplus","place"] ["tent","word"] (Zg Zhj):=⟨rfl,rfl,rfl,by decide +kernel,rfl,by decide +kernel,by decide +kernel⟩
theorem Zmn (T:Txt w K mg t):FnOk P w K mg base (CXr P w) 7 t.f_flow t.d_flow ["tent","word"] (Zen t.C_Tent):=by
  refine T.p_flow.F.okX Om (λvs H Q E h=>?_) (λcdv A outer s H vs Q E hr h=>?_)
  · obtain ⟨p,a,M,ns,ws,rfl,_⟩:=h
    rfl
  · obtain ⟨p,a,M,ns,ws,rfl,ta,hMl,h1000,inv,ha,hl,hP,k⟩:=h
    refine ⟨_,(Zp (Z0 (Zw (Yc T) (hr.mono (by decide)) rfl T.p_look_thread.g T.p_look_thread.F.kp T.p_look_thread.b .nil (Za (pv 0) (Za (pv 1) Zb))))
      (Zp (Ya (Xj (ts:=["place"]) (fv:=[]) (i:=2) ⟨rfl,by decide +kernel,by decide +kernel,Yk (by rfl),trivial⟩ rfl Om.nd rfl rfl (by rfl) (Yp (V3 (pv 0) T.cl_Tent T.p_Tent_all_places.m (Of T) (hr.mono (by decide)) T.p_Tent_all_places.b .nil Zs)) (λ_ _ _ _=>(Zq (i:=0) (show List.Nodup (["place"]:List Str) from by decide +kernel) rfl (Or.inl rfl) (Or.inr rfl))) (λ_ _ _ _=>Yu) (λ_ _ _=>rfl) (λ_ _ _ _ _ _=>Ys Zd)))
      (Zp (Ya (Xb PassesOwn.never rfl (Yp (pv 1)) (Zq (i:=3) Om.nd rfl (Or.inl rfl)) (Zf (Ze1 (pv 2) (pv 3) Zdf Zd Zit Wv)
      (Zh (Ze1 (pv 2) (Xf (pv 0) T.cl_Tent T.p_Tent_mate.m (X1 T) (hr.mono (by decide)) T.p_Tent_mate.b .nil Zs (Za (pv 3) Zb)) Zdf Zd Zom Wv)))))
      (Zm (Ya (Zr (pv 2))))))),?_⟩
    refine ⟨_,rfl,_,rfl,p,a,M,ns,wI ws,rfl,ta,hMl,by rw [ha,Wo],by rw [Xz]; omega,λH1 s1=>⟨λ_=>?_,λz=>absurd ((W3.mpr hP).symm.trans z) (by decide)⟩⟩
    have ta1:=ta.same s1
    obtain ⟨dx,cl,na,sp,mt',oo,ff,bb⟩:=id ta1
    refine ⟨_,rfl,p,dx,_,rfl,bb.ins,Yq _ _ _ _,p,M,ns,rfl,ta1,by omega,λl hl0=>?_⟩
    have s2:Same H (upd H1 l (.lst ((List.range ns.length).map nV))):=Same.add s1 (s1.free hl0)
    have h2:(upd H1 l (.lst ((List.range ns.length).map nV))) l=some (.lst ((List.range ns.length).map nV)):=Zc
    generalize upd H1 l (.lst ((List.range ns.length).map nV))=H2 at s2 h2
    clear bb
    refine ⟨l,rfl,⟨_,SqL.of h2⟩,λc hc=>?_⟩
    have hc0:=s2.free hc
    refine Yt (xs:=(List.range ns.length).map nV) (λi σ H3=>∃ v,σ=[v]/\Same H2 H3/\H3 c=some (.lst (List.replicate i (V.int 0)))) ⟨none,rfl,Same.new hc,Zc⟩ ?_ ?_ ?_
    · rintro i σ H3 _ ⟨v,rfl,sm,h3⟩
      exact SqL.of (sm _ _ h2)
    · rintro i y σ H3 hy ⟨v,rfl,sm,h3⟩
      have hi:i < ns.length:=by have:=(List.getElem?_eq_some_iff.mp hy).1; rw [List.length_map,List.length_range] at this; exact this
      dsimp only [Zv,tYes]
      rw [if_pos rfl]
      refine ⟨_,h3,by rw [List.length_replicate]; exact Zx (by omega),_,rfl,Same.add sm hc,?_⟩
      rw [Zc,List.replicate_succ']
    rintro σ H3 ⟨v,rfl,s3,h3⟩
    have e0:List.replicate ((List.range ns.length).map nV).length (V.int 0)=rowI M.length (flP M (ws.take 0)):=by
      rw [List.length_map,List.length_range,<- hMl]
      unfold rowI flP
      apply List.ext_getElem?
      intro i
      rw [List.getElem?_map,List.getElem?_replicate]
      by_cases hi:i < M.length
      · rw [if_pos hi,List.getElem?_range hi]; rfl
      · rw [if_neg hi,List.getElem?_eq_none (by rw [List.length_range]; omega)]; rfl
    rw [e0] at h3
    have s03:=s2.trans s3
    dsimp only [Zv]
    refine ⟨_,rfl,a,rfl,⟨_,SqL.of (s03 _ _ ha)⟩,?_⟩
    refine Jn (xs:=ws.map nV) (λi σ H4=>∃ v,σ=[some (.ref p),some (.ref a),some (.ref c),v]/\Same H H4/\H4 c=some (.lst (rowI M.length (flP M (ws.take i))))) ⟨_,rfl,s03,h3⟩ ?_ ?_ ?_
    · rintro i σ H4 _ ⟨v,rfl,s4,h4⟩
      exact SqL.of (s4 _ _ ha)
    · rintro i y σ H4 hy ⟨v,rfl,s4,h4⟩
      obtain ⟨q,hq,rfl⟩:=Yf hy
      obtain ⟨mt,hmt⟩:=hP.has q (List.mem_of_getElem? hq)
      obtain ⟨hmb,hne⟩:=inv q mt hmt
      have hqM:q < M.length:=(List.getElem?_eq_some_iff.mp hmt).1
      have htM:mt < M.length:=(List.getElem?_eq_some_iff.mp hmb).1
      dsimp only [Zv]
      refine ⟨_,rfl,_,rfl,c,_,q,_,rfl,rfl,SqL.of h4,On hqM,_,_,rfl,rfl,c,_,_,q,rfl,rfl,h4,(by rw [Qt]; exact Qp hqM),?_⟩
      rw [Zcl]
      have s5:=Same.add (o:=.lst (rowI M.length λp=>if p=q then flP M (ws.take i) q + 1 else flP M (ws.take i) p)) s4 hc0
      have h5:(upd H4 c (.lst (rowI M.length λp=>if p=q then flP M (ws.take i) q + 1 else flP M (ws.take i) p))) c=some (.lst (rowI M.length λp=>if p=q then flP M (ws.take i) q + 1 else flP M (ws.take i) p)):=Zc
      generalize upd H4 c (.lst (rowI M.length λp=>if p=q then flP M (ws.take i) q + 1 else flP M (ws.take i) p))=H5 at s5 h5 ⊢
      have ta5:=ta.same s5
      obtain ⟨dx,cl,na,sp,mt',oo,ff,bb⟩:=id ta5
      refine ⟨_,rfl,_,rfl,p,dx,_,rfl,bb.ins,Yq _ _ _ _,_,rfl,p,M,ns,q,rfl,ta5,hMl,λi' y e1 e2=>?_,λz=>absurd (show (0:Int)<=q/\(q:Int) < ns.length by omega) z⟩
      have:i'=q:=by omega
      subst this
      rw [hmt] at e2
      cases e2
      refine ⟨c,_,mt,_,rfl,rfl,SqL.of h5,On htM,_,_,rfl,rfl,c,_,_,mt,rfl,rfl,h5,(by rw [Qt]; exact Qp htM),?_⟩
      refine ⟨_,rfl,Same.add s5 hc0,?_⟩
      rw [Zc,Zcl]
      congr 2
      refine Zf2 λp=>?_
      rw [Zk0 hq hmt hne p,if_neg (Ne.symm hne)]
    · rintro σ H4 ⟨v,rfl,s4,h4⟩
      rw [List.length_map,List.take_length] at h4
      exact ⟨_,rfl,k c H4 s4 hc0 h4⟩
theorem Zky (l:List Nat):(l.map nV).all Qk=true:=by rw [List.all_eq_true]; intro v hv; obtain ⟨x,_,rfl⟩:=List.mem_map.mp hv; rfl
theorem Zfi {x y:Nat}:eqV (nV y) (nV x)=decide (y=x):=by
 show decide ((y:Int)=(x:Int))=_
 by_cases z:y=x
 ·subst z; simp
 ·rw [decide_eq_false z,decide_eq_false (by omega)]
theorem Zmy {x:Nat} {l:List Nat}:inV (nV x) (l.map nV)=decide (x∈l):=by
 unfold inV
 rw [List.any_map,Bool.eq_iff_iff,List.any_eq_true,decide_eq_true_eq]
 constructor
 ·rintro ⟨y,hy,e⟩
  have e:eqV (nV y) (nV x)=true:=e
  rw [Zfi,decide_eq_true_eq] at e
  rw [<- e]; exact hy
 ·intro h
  refine ⟨x,h,?_⟩
  show eqV (nV x) (nV x)=true
  rw [Zfi,decide_eq_true rfl]
theorem dN3 {a b:Nat}:decide (V.int ((a:Int) / 3)=V.int ((b:Int) / 3))=decide (a / 3=b / 3):=by
 rw [div3,div3]; exact dN
theorem Zjx (ks:List Nat):(rot ks (1 % ks.length)).length=ks.length:=by
 by_cases z:ks.length=0
 ·have:ks=[]:=List.length_eq_zero_iff.mp z
  subst this; rfl
 ·exact Wy _ (Nat.le_of_lt (Nat.mod_lt _ (by omega)))
theorem Zo0 (ks:List Nat):(X8 (wI ks) 1).map V.int=(rot ks (1 % ks.length)).map nV:=by
 rw [Wo]
 congr 1
 unfold X8
 rw [Xz,show (1 % (ks.length:Int)).toNat=1 % ks.length by
  rw [show (1:Int)=((1:Nat):Int) from rfl,<- Int.natCast_emod,Int.toNat_natCast]]
 unfold rot wI
 rw [List.map_append,List.map_drop,List.map_take]
theorem Fj {left:Bool} {a b z:Nat}:(valV (glV left a b) (Sum.inl (z:Int))).getD (nV z)=nV (mvN left a b z):=by
 rw [show nV z=V.int (z:Int) from rfl,Znk,<- Zod]; rfl
theorem Zll {left:Bool} {a b z:Nat}:(valV (glV left a b) (Sum.inl (z:Int))).getD (mV (some z))=nV (mvN left a b z):=Fj
theorem Zkp {a b q:Nat}:(!decide (q∈[a,b]))=V5 a b q:=by
 unfold V5
 by_cases h1:q=a
 ·subst h1; simp
 ·by_cases h2:q=b
  ·subst h2; simp
  ·simp [h1,h2]
noncomputable def Zjp:Sp:=λvs H Q _=>∃ (o:Addr) (a b e f:Nat),vs=[.ref o,.int e,.int f]/\H o=some (.lst ([a,b].map nV))/\∀ (l:Addr) (H':Hp),Same H H'->H' l=some (.lst ((Oh a b e f).map nV))->Q (.ref l) H'
noncomputable def F5 (C:Addr):Sp:=λvs H Q _=>∃ (p wd:Addr) (M:List (Option Nat)) (ns:List Int) (x:Int) (left:Bool) (a b:Nat) (ws:List Nat),vs=[.ref p,.int x,.str (wayS left),.ref wd]/\Zy C H p M ns/\TD M ns/\x∈keys ns ns.length/\pl ns ns.length x=[a,b]/\a / 3≠b / 3/\H wd=some (.lst (ws.map nV))/\ws.length<=1000/\Pl M ws /\
 ∀ (l:Addr) (H':Hp),Same H H'->H l=none->H' l=some (.lst ((Xr M left a b (Xg (G3 a b ws))).map nV))->Q (.ref l) H'
theorem Uq:FnScope ["own","entry","leaving"] ["own","entry","leaving"] (Zg Jw):=⟨rfl,rfl,rfl,by decide +kernel,rfl,by decide +kernel,by decide +kernel⟩
theorem Ur (T:Txt w K mg t):FnOk P w K mg base (CXr P w) 2 t.f_crossing_between t.d_crossing_between ["own","entry","leaving"] Zjp:=by
 refine T.p_crossing_between.F.okR Uq (λvs H Q E h=>?_) (λcdv A outer s H vs Q E hr h=>?_)
 ·obtain ⟨o,a,b,e,f,rfl,_⟩:=h
  rfl
 ·obtain ⟨o,a,b,e,f,rfl,ho,k⟩:=h
  refine ⟨_,(Zf (Yj (Zk Ye (Zo (Xk T) (hr.mono (by decide)) rfl T.p_cloth_of.g T.p_cloth_of.F.kp T.p_cloth_of.b .nil Zs (Za (pv 1) Zb)) (Zo (Xk T) (hr.mono (by decide)) rfl T.p_cloth_of.g T.p_cloth_of.F.kp T.p_cloth_of.b .nil Zs (Za (pv 2) Zb)) (Zn _)) (Zh (Zr (Xd Zb))) Z7)
   (Zh (Zr (Y6 (ts:=["place"]) (fv:=[("entry",1)]) ⟨rfl,by decide +kernel,by decide +kernel,Yk (by rfl),⟨⟨rfl,rfl,Or.inl rfl⟩,trivial⟩⟩ rfl (Yp (pv 0)) (λ_ _ _ _=>(Zq (i:=0) (show List.Nodup (["place","entry"]:List Str) from by decide +kernel) rfl (Or.inl rfl) (Or.inr rfl))) (λ_ _ _ _=>(Jd (Zk Ye (Zo (Xk T) (hr.mono (by decide)) rfl T.p_cloth_of.g T.p_cloth_of.F.kp T.p_cloth_of.b .nil Zs (Za (pv 0) Zb)) (Zo (Xk T) (hr.mono (by decide)) rfl T.p_cloth_of.g T.p_cloth_of.F.kp T.p_cloth_of.b .nil Zs (Za (pv 1) Zb)) (Zn _)))) (λ_ _ _=>rfl) (λ_ _ _ _ _ _=>Ys (pv 0)))))),?_⟩
  refine ⟨_,rfl,_,rfl,_,rfl,_,rfl,rfl,_,rfl,?_⟩
  rw [dN3]
  unfold Oh at k
  by_cases z:e / 3=f / 3
  ·rw [if_pos z] at k
   rw [decide_eq_true z]
   exact iteT ⟨Nat.zero_le _,λl hl=>k l _ (Same.new hl) Zc⟩
  ·rw [if_neg z] at k
   rw [decide_eq_false z]
   refine iteF ?_
   dsimp only [Jp]
   refine ⟨_,rfl,o,rfl,⟨_,SqL.of ho⟩,λD hD=>?_⟩
   refine Yt (xs:=[a,b].map nV) (λi σ H1=>∃ v,σ=[v,some (.int e)]/\Same H H1/\H1 D=some (.lst ((([a,b].take i).filter λq=>decide (q / 3=e / 3)).map nV))) ⟨none,rfl,Same.new hD,Zc⟩ ?_ ?_ ?_
   ·rintro i σ H1 _ ⟨v,rfl,sm,h1⟩
    exact SqL.of (sm _ _ ho)
   ·rintro i y σ H1 hy ⟨v,rfl,sm,h1⟩
    obtain ⟨q,hq,rfl⟩:=Yf hy
    have hi:i < 2:=(List.getElem?_eq_some_iff.mp hq).1
    have lt:((([a,b].take i).filter λq=>decide (q / 3=e / 3)).map nV).length < sizeLine:=by
     rw [List.length_map]
     have h1:=List.length_filter_le (λq=>decide (q / 3=e / 3)) ([a,b].take i)
     rw [List.length_take] at h1
     exact Zx (by omega)
    dsimp only [Zv]
    refine ⟨_,rfl,_,rfl,_,rfl,_,rfl,rfl,_,rfl,?_⟩
    show if decide (V.int ((q:Int) / 3)=V.int ((e:Int) / 3))=true then _ else _
    rw [dN3]
    by_cases c:q / 3=e / 3
    ·rw [decide_eq_true c]
     refine iteT ⟨_,rfl,_,h1,lt,_,rfl,Same.add sm hD,?_⟩
     rw [Zc,Jo hq,if_pos (decide_eq_true c),List.map_append]; rfl
    ·rw [decide_eq_false c]
     refine iteF ⟨_,rfl,sm,?_⟩
     rw [h1,Jo hq,if_neg (by rw [decide_eq_false c]; decide)]
   rintro σ H1 ⟨v,rfl,sm,h1⟩
   exact k D H1 sm h1
theorem Xh:FnScope ["tent","seam","way","word","goals","own","kept","told","ahead","following","entry"] ["tent","seam","way","word"] (Zg Zb9):=⟨rfl,rfl,rfl,by decide +kernel,rfl,by decide +kernel,by decide +kernel⟩
theorem Zh7 (T:Txt w K mg t):FnOk P w K mg base (CXr P w) 7 t.f_pulled t.d_pulled ["tent","seam","way","word"] (F5 t.C_Tent):=by
  refine T.p_pulled.F.okX Xh (λvs H Q E h=>?_) (λcdv A outer s H vs Q E hr h=>?_)
  · obtain ⟨p,wd,M,ns,x,left,a,b,ws,rfl,_⟩:=h
    rfl
  · obtain ⟨p,wd,M,ns,x,left,a,b,ws,rfl,ta,td,hk,hpl,hab,hw,hwl,hP,k⟩:=h
    have hu:=Wp hr
    have hMl:M.length=ns.length:=td.len.symm
    refine ⟨_,(Zp (Je (i:=4) Xh.nd rfl (Or.inl rfl) (Zw (Zaj T) (hr.mono (by decide)) rfl T.p_shifts.g T.p_shifts.F.kp T.p_shifts.b .nil (Za (pv 0) (Za (pv 1) (Za (pv 2) Zb)))))
      (Zp (Z0 (Zw (Yc T) (hr.mono (by decide)) rfl T.p_look_thread.g T.p_look_thread.F.kp T.p_look_thread.b .nil (Za (pv 0) (Za (pv 3) Zb))))
      (Zp (Ya (Zu (i:=5) Xh.nd rfl (Or.inr rfl) (Xf (pv 0) T.cl_Tent T.p_Tent_places.m (Ji T) (hr.mono (by decide)) T.p_Tent_places.b .nil Zs (Za (pv 1) Zb))))
      (Zp (Ya (Xj (ts:=["place"]) (fv:=[("own",5)]) (i:=6) ⟨rfl,by decide +kernel,by decide +kernel,Yk (by rfl),⟨⟨rfl,rfl,Or.inl rfl⟩,trivial⟩⟩ rfl Xh.nd rfl rfl (by rfl) (Yp (pv 3)) (λ_ _ _ _=>(Zq (i:=0) (show List.Nodup (["place","own"]:List Str) from by decide +kernel) rfl (Or.inl rfl) (Or.inr rfl))) (λ_ _ _ _=>(Jd (Zk (Zbc K) (pv 0) (pv 1) (by with_unfolding_all rfl)))) (λ_ _ _=>rfl) (λ_ _ _ _ _ _=>Ys (pv 0))))
      (Zp (Ya (Zu (i:=7) Xh.nd rfl (Or.inl rfl) (Xd Zb)))
      (Zp (Ya (Xb PassesOwn.never rfl (Zcs rfl T.n_zip (Za (pv 6) (Za (Zo (J2 T) (hr.mono (by decide)) rfl T.p_turned.g T.p_turned.F.kp T.p_turned.b .nil Zs (Za (pv 6) (Za Zd Zb))) Zb))) (W6 rfl (Z3 (Zq (i:=8) Xh.nd rfl (Or.inl rfl)) (Z3 (Zq (i:=9) Xh.nd rfl (Or.inl rfl)) Xo))) (Zf (Zu (i:=10) Xh.nd rfl (Or.inl rfl) (Xf (pv 0) T.cl_Tent T.p_Tent_mate.m (X1 T) (hr.mono (by decide)) T.p_Tent_mate.b .nil Zs (Za (pv 8) Zb)))
      (Zf (Xn (Xx PySem.F.plainAttrs_list PySem.F.slot_list_append PySem.F.type_list_append Xl (pv 7) (Za (Kt hu (pv 4) (pv 8) (pv 8) ⟨rfl,rfl,rfl,rfl⟩) Zb)))
      (Zh (Xn (Xx PySem.F.plainAttrs_list PySem.F.slot_list_extend PySem.F.type_list_extend Zil (pv 7) (Za (Zo (Ur T) (hr.mono (by decide)) rfl T.p_crossing_between.g T.p_crossing_between.F.kp T.p_crossing_between.b .nil Zs (Za (pv 5) (Za (Kt hu (pv 4) (pv 10) (pv 10) ⟨rfl,rfl,rfl,rfl⟩) (Za (Kt hu (pv 4) (pv 9) (pv 9) ⟨rfl,rfl,rfl,rfl⟩) Zb)))) Zb))))))))
      (Zm (Ya (Zr (pv 7)))))))))),?_⟩
    refine ⟨_,rfl,_,rfl,_,rfl,p,M,ns,x,wayS left,rfl,ta,td,Wrong.free td hk hpl hab λH1 s1 d hd0 hd=>?_⟩
    rw [Zlj] at hd
    refine ⟨_,rfl,_,rfl,p,wd,M,ns,wI ws,rfl,ta.same s1,hMl,by rw [s1 _ _ hw,Wo],by rw [Xz]; omega,λH2 s2=>⟨λ_=>?_,λz=>absurd ((W3.mpr hP).symm.trans z) (by decide)⟩⟩
    have s02:=s1.trans s2
    have hd2:=s2 _ _ hd
    have ta2:=ta.same s02
    obtain ⟨dx,cl,na,sp,mt',oo,ff,bb⟩:=id ta2
    refine ⟨_,rfl,p,dx,_,rfl,bb.ins,Yq _ _ _ _,_,rfl,p,M,ns,x,rfl,ta2,λ_ o ho=>?_,λz=>absurd hk z⟩
    rw [hpl]
    have s03:Same H (upd H2 o (.lst ([a,b].map nV))):=Same.add s02 (s02.free ho)
    have hd3:(upd H2 o (.lst ([a,b].map nV))) d=some (.dK (glV left a b)):=by rw [Ze (Zj hd2 ho)]; exact hd2
    have ho3:(upd H2 o (.lst ([a,b].map nV))) o=some (.lst ([a,b].map nV)):=Zc
    generalize upd H2 o (.lst ([a,b].map nV))=H3 at s03 hd3 ho3
    clear bb ta2 s02 hd2 s2 hd s1
    dsimp only [Zv]
    refine ⟨_,rfl,wd,rfl,⟨_,SqL.of (s03 _ _ hw)⟩,λD hD=>?_⟩
    refine Yt (xs:=ws.map nV) (λi σ H4=>∃ v,σ=[v,some (.ref o)]/\Same H3 H4/\H4 D=some (.lst (((ws.take i).filter (V5 a b)).map nV))) ⟨none,rfl,Same.new hD,Zc⟩ ?_ ?_ ?_
    · rintro i σ H4 _ ⟨v,rfl,sm,h4⟩
      exact SqL.of (sm _ _ (s03 _ _ hw))
    · rintro i y σ H4 hy ⟨v,rfl,sm,h4⟩
      obtain ⟨q,hq,rfl⟩:=Yf hy
      have hi:i < ws.length:=(List.getElem?_eq_some_iff.mp hq).1
      have lt:(((ws.take i).filter (V5 a b)).map nV).length < sizeLine:=by
        rw [List.length_map]
        have h1:=List.length_filter_le (V5 a b) (ws.take i)
        rw [List.length_take] at h1
        exact Zx (by omega)
      dsimp only [Zv]
      refine ⟨_,rfl,_,rfl,o,_,rfl,.inl (SqL.of (sm _ _ ho3)),rfl,Zky _,_,rfl,?_⟩
      show if (if true=true then !inV (nV q) ([a,b].map nV) else inV (nV q) ([a,b].map nV))=true then _ else _
      rw [if_pos rfl,Zmy,Zkp]
      cases hb:V5 a b q with
      | true =>
        refine iteT ⟨_,rfl,_,h4,lt,_,rfl,Same.add sm hD,?_⟩
        rw [Zc,Jo hq,if_pos hb,List.map_append]; rfl
      | false =>
        refine iteF ⟨_,rfl,sm,?_⟩
        rw [h4,Jo hq,if_neg (by rw [hb]; decide)]
    rintro σ H4 ⟨v,rfl,s34,h4⟩
    rw [List.length_map,List.take_length] at h4
    have hkl:(G3 a b ws).length<=1000:=Nat.le_trans (List.length_filter_le _ _) hwl
    have hkm:∀ q∈G3 a b ws,q∈ws:=λq hq=>(List.mem_filter.mp hq).1
    have h4:H4 D=some (.lst ((G3 a b ws).map nV)):=h4
    generalize G3 a b ws=ks at h4 hkl hkm k
    have s04:=s03.trans s34
    have hd4:=s34 _ _ hd3
    have ho4:=s34 _ _ ho3
    dsimp only [Zv]
    refine ⟨Nat.zero_le _,λtl htl=>?_⟩
    have htl0:=s04.free htl
    have hot:o≠tl:=Zj ho4 htl
    have hDt:D≠tl:=Zj h4 htl
    have s05:Same H (upd H4 tl (.lst [])):=Same.add s04 htl0
    have hs45:Same H4 (upd H4 tl (.lst [])):=Same.new htl
    have h5t:(upd H4 tl (.lst [])) tl=some (.lst ((Xr M left a b ((Xg ks).take 0)).map nV)):=Zc
    generalize upd H4 tl (.lst [])=H5 at s05 hs45 h5t
    have hd5:=hs45 _ _ hd4
    have ho5:=hs45 _ _ ho4
    have hk5:=hs45 _ _ h4
    clear hs45 hd4 ho4 h4 s34 hd3 ho3 s03 s04 hD
    dsimp only [Zv]
    refine ⟨_,rfl,_,rfl,D,wI ks,1,rfl,by rw [hk5,Wo],by rw [Xz]; omega,λtr H6 s6 htr h6=>?_⟩
    rw [Zo0] at h6
    have hrt:tr≠tl:=λz=>by rw [z,h5t] at htr; cases htr
    have hrl:=Zjx ks
    have hpair:∀ (i h f:Nat),ks[i]?=some h->(rot ks (1 % ks.length))[i]?=some f->(Xg ks)[i]?=some (h,f):=λi h f e1 e2=>by unfold Xg; rw [List.getElem?_zip_eq_some]; exact ⟨e1,e2⟩
    have hpl2:=Zhw ks
    generalize rot ks (1 % ks.length)=vs at h6 hrl hpair
    have hd6:=s6 _ _ hd5
    have ho6:=s6 _ _ ho5
    have hk6:=s6 _ _ hk5
    refine ⟨D,tr,_,_,rfl,SqL.of hk6,SqL.of h6,?_⟩
    refine Zm4 (xs:=ks.map nV) (ys:=vs.map nV) (by rw [List.length_map,List.length_map,hrl]) (λi σ H7=>∃ (v8 v9 v10:Option V),σ=[some (.ref p),some (.int x),some (.str (wayS left)),some (.ref wd),some (.ref d),some (.ref o),some (.ref D),some (.ref tl),v8,v9,v10]/\Same H H7/\H7 d=some (.dK (glV left a b))/\H7 o=some (.lst ([a,b].map nV))/\H7 D=some (.lst (ks.map nV))/\H7 tr=some (.lst (vs.map nV))/\H7 tl=some (.lst ((Xr M left a b ((Xg ks).take i)).map nV))) ⟨none,none,none,rfl,s05.trans s6,hd6,ho6,hk6,h6,s6 _ _ h5t⟩ ?_ ?_ ?_
    · rintro i σ H7 _ ⟨v8,v9,v10,rfl,s7,hd7,ho7,hk7,hr7,ht7⟩
      exact ⟨SqL.of hk7,SqL.of hr7⟩
    · rintro i y z σ H7 q hy hz hq ⟨v8,v9,v10,rfl,s7,hd7,ho7,hk7,hr7,ht7⟩
      obtain ⟨hh,hhe,rfl⟩:=Yf hy
      obtain ⟨f,hfe,rfl⟩:=Yf hz
      have hi:i < ks.length:=(List.getElem?_eq_some_iff.mp hhe).1
      obtain ⟨m,hm⟩:=hP.has hh (hkm hh (List.mem_of_getElem? hhe))
      have hhM:hh < M.length:=(List.getElem?_eq_some_iff.mp hm).1
      have emt:mtN M hh=m:=by unfold mtN; rw [List.getD_eq_getElem?_getD,hm]; rfl
      have hlen:=Zaf M left a b ((Xg ks).take i)
      rw [List.length_take] at hlen
      have hcl:=Fc a b (mvN left a b m) (mvN left a b f)
      have sq:Same H7 (upd H7 q (.tup [nV hh,nV f])):=Same.new hq
      have s8:=s7.trans sq
      have hq8:(upd H7 q (.tup [nV hh,nV f])) q=some (.tup [nV hh,nV f]):=Zc
      have hd8:=sq _ _ hd7
      have ho8:=sq _ _ ho7
      have hk8:=sq _ _ hk7
      have hr8:=sq _ _ hr7
      have ht8:=sq _ _ ht7
      generalize upd H7 q (.tup [nV hh,nV f])=H8 at s8 hq8 hd8 ho8 hk8 hr8 ht8
      clear sq hd7 ho7 hk7 hr7 ht7 s7 hq
      refine ⟨q,_,rfl,SqT.of hq8,rfl,_,_,rfl,_,_,rfl,rfl,?_⟩
      have ta8:=ta.same s8
      obtain ⟨dx,cl,na,sp,mt',oo,ff,bb⟩:=id ta8
      refine ⟨_,rfl,p,dx,_,rfl,bb.ins,Yq _ _ _ _,_,rfl,p,M,ns,hh,rfl,ta8,hMl,λi' y e1 e2=>?_,λz=>absurd (show (0:Int)<=hh/\(hh:Int) < ns.length by omega) z⟩
      have:i'=hh:=by omega
      subst this
      rw [hm] at e2
      cases e2
      refine ⟨_,rfl,.inl ⟨rfl,_,SqL.of ht8⟩,_,rfl,d,rfl,.inl ⟨_,.inl hd8⟩,_,rfl,_,rfl,_,DGet.k (k:=Sum.inl (i':Int)) hd8,tl,_,_,rfl,rfl,ht8,(by rw [List.length_map,sizeLine_eq]; omega),?_⟩
      rw [Fj]
      have s9:Same H (upd H8 tl (.lst ((Xr M left a b ((Xg ks).take i)).map nV ++ [nV (mvN left a b i')]))):=Same.add s8 htl0
      have ht9:(upd H8 tl (.lst ((Xr M left a b ((Xg ks).take i)).map nV ++ [nV (mvN left a b i')]))) tl=some (.lst ((Xr M left a b ((Xg ks).take i) ++ [mvN left a b i']).map nV)):=by rw [Zc,List.map_append]; rfl
      have hdt:d≠tl:=λz=>by rw [z,ht8] at hd8; cases hd8
      have hd9:(upd H8 tl (.lst ((Xr M left a b ((Xg ks).take i)).map nV ++ [nV (mvN left a b i')]))) d=some (.dK (glV left a b)):=by rw [Ze hdt]; exact hd8
      have ho9:(upd H8 tl (.lst ((Xr M left a b ((Xg ks).take i)).map nV ++ [nV (mvN left a b i')]))) o=some (.lst ([a,b].map nV)):=by rw [Ze hot]; exact ho8
      have hk9:(upd H8 tl (.lst ((Xr M left a b ((Xg ks).take i)).map nV ++ [nV (mvN left a b i')]))) D=some (.lst (ks.map nV)):=by rw [Ze hDt]; exact hk8
      have hr9:(upd H8 tl (.lst ((Xr M left a b ((Xg ks).take i)).map nV ++ [nV (mvN left a b i')]))) tr=some (.lst (vs.map nV)):=by rw [Ze hrt]; exact hr8
      show _
      generalize upd H8 tl (.lst ((Xr M left a b ((Xg ks).take i)).map nV ++ [nV (mvN left a b i')]))=H9 at s9 ht9 hd9 ho9 hk9 hr9
      refine ⟨_,rfl,.inl ⟨rfl,_,SqL.of ht9⟩,_,rfl,_,rfl,d,rfl,.inl ⟨_,.inl hd9⟩,_,rfl,_,rfl,_,DGet.k (k:=Sum.inl (m:Int)) hd9,_,rfl,d,rfl,.inl ⟨_,.inl hd9⟩,_,rfl,_,rfl,_,DGet.k (k:=Sum.inl (f:Int)) hd9,?_⟩
      rw [Zll,Fj]
      refine ⟨o,a,b,mvN left a b m,mvN left a b f,rfl,ho9,λl HA sA hA=>?_⟩
      refine ⟨tl,l,_,_,rfl,rfl,sA _ _ ht9,hA,?_,?_⟩
      · rw [List.length_map,List.length_map,List.length_append,List.length_singleton,sizeLine_eq]; omega
      · refine ⟨_,_,_,rfl,Same.add (s9.trans sA) htl0,by rw [Ze hdt]; exact sA _ _ hd9,by rw [Ze hot]; exact sA _ _ ho9,by rw [Ze hDt]; exact sA _ _ hk9,by rw [Ze hrt]; exact sA _ _ hr9,?_⟩
        rw [Zc,Zf3 (hpair i _ f hhe hfe),<- List.map_append]
        unfold U8
        rw [emt,List.append_assoc]
        rfl
    · rintro σ H7 ⟨v8,v9,v10,rfl,s7,hd7,ho7,hk7,hr7,ht7⟩
      rw [List.length_map,List.take_of_length_le (by omega)] at ht7
      exact ⟨_,rfl,k tl H7 s7 htl0 ht7⟩
noncomputable def tp (v:Nat × Nat):HO:=.tup [V.int v.1,V.int v.2]
noncomputable def wD (ks:List Int) (ad:Int->Addr):List (Key × V):=ks.map λx=>((Sum.inl x:Key),V.ref (ad x))
noncomputable def WAt (H:Hp) (d:Addr) (ks:List Int) (g:Int->Nat × Nat):Prop:=∃ ad:Int->Addr,H d=some (.dK (wD ks ad))/\∀ x∈ks,H (ad x)=some (tp (g x))
theorem WAt.same {H H':Hp} {d:Addr} {ks:List Int} {g:Int->Nat × Nat} (h:WAt H d ks g) (s:Same H H'):WAt H' d ks g:=by
 obtain ⟨ad,h1,h2⟩:=h
 exact ⟨ad,s _ _ h1,λx hx=>s _ _ (h2 x hx)⟩
theorem WAt.congr {H:Hp} {d:Addr} {ks:List Int} {g g':Int->Nat × Nat} (h:WAt H d ks g) (e:∀ x∈ks,g x=g' x):WAt H d ks g':=by
 obtain ⟨ad,h1,h2⟩:=h
 exact ⟨ad,h1,λx hx=>by rw [<- e x hx]; exact h2 x hx⟩
theorem Gb (ks:List Int) (ad:Int->Addr):(wD ks ad).length=ks.length:=by unfold wD; rw [List.length_map]
theorem Zni {ks:List Int} {ad:Int->Addr} {y:Int}:valV (wD ks ad) (Sum.inl y)=if y∈ks then some (V.ref (ad y)) else none:=by unfold wD; rw [Wf]
theorem Znj {H:Hp} {d:Addr} {ks:List Int} {ad:Int->Addr} {y:Int} (h:Rd H d (.dK (wD ks ad))) (hy:y∈ks):DGet H d (.int y) (some (V.ref (ad y))):=.inl ⟨_,Sum.inl y,h,rfl,by rw [Zni,if_pos hy]⟩
theorem Zoy {ks:List Int} {ad:Int->Addr} {i:Nat} {k:Key} {v:V} (h:(wD ks ad)[i]?=some (k,v)):∃ y,ks[i]?=some y/\k=Sum.inl y/\v=V.ref (ad y):=by
 unfold wD at h
 rw [List.getElem?_map] at h
 cases e:ks[i]? with
 | none=>rw [e] at h; cases h
 | some z=>rw [e] at h; cases h; exact ⟨z,rfl,rfl,rfl⟩
theorem WAt.put {H:Hp} {d q:Addr} {ks:List Int} {g:Int->Nat × Nat} {ad:Int->Addr} {y:Int} {v:Nat × Nat} (h1:H d=some (.dK (wD ks ad))) (h2:∀ x∈ks,H (ad x)=some (tp (g x))) (hq:H q=some (tp v)) (hy:y∈ks) :
  WAt (upd H d (.dK (putK (wD ks ad) (Sum.inl y) (V.ref q)))) d ks (putG g y v):=by
 have nd:∀ r u,H r=some (tp u)->r≠d:=λr u h z=>by rw [z,h1] at h; cases h
 refine ⟨λx=>if x=y then q else ad x,?_,λx hx=>?_⟩
 ·rw [Zc]
  unfold wD
  rw [Zex hy]
  congr 2
  apply List.map_congr_left
  intro x _
  by_cases c:x=y
  ·simp [c]
  ·simp [c]
 ·unfold putG
  show upd H d _ (if x=y then q else ad x)=some (tp (if x=y then v else g x))
  by_cases c:x=y
  ·rw [if_pos c,if_pos c,Ze (nd _ _ hq)]; exact hq
  ·rw [if_neg c,if_neg c,Ze (nd _ _ (h2 x hx))]; exact h2 x hx
theorem WAt.new {H:Hp} {d q:Addr} {ks:List Int} {g:Int->Nat × Nat} {ad:Int->Addr} {y:Int} {v:Nat × Nat} (h1:H d=some (.dK (wD ks ad))) (h2:∀ x∈ks,H (ad x)=some (tp (g x))) (hq:H q=some (tp v)) (hy:y ∉ ks) :
  WAt (upd H d (.dK (putK (wD ks ad) (Sum.inl y) (V.ref q)))) d (ks ++ [y]) (putG g y v):=by
 have nd:∀ r u,H r=some (tp u)->r≠d:=λr u h z=>by rw [z,h1] at h; cases h
 refine ⟨λx=>if x=y then q else ad x,?_,λx hx=>?_⟩
 ·rw [Zc]
  unfold wD
  rw [Fs hy,List.map_append]
  congr 3
  ·apply List.map_congr_left
   intro x hx
   have:x≠y:=λz=>hy (z ▸ hx)
   simp [this]
  ·simp
 ·unfold putG
  show upd H d _ (if x=y then q else ad x)=some (tp (if x=y then v else g x))
  by_cases c:x=y
  ·rw [if_pos c,if_pos c,Ze (nd _ _ hq)]; exact hq
  ·rw [if_neg c,if_neg c]
   have hx':x∈ks:=by
    rcases List.mem_append.mp hx with z | z
    ·exact z
    ·exact absurd (List.mem_singleton.mp z) c
   rw [Ze (nd _ _ (h2 x hx'))]; exact h2 x hx'
noncomputable def okD (m n:Nat):Prop:=Nat.gcd m n < 2 ^ 8900
theorem Zmo {m n:Nat} (hm:1<=m) (h:okD m n):Ud (m:Int) (Nat.gcd m n:Nat)/\Ud (n:Int) (Nat.gcd m n:Nat):=by
 have h1:0 < Nat.gcd m n:=Nat.gcd_pos_of_pos_left _ hm
 have h3:(((Nat.gcd m n:Nat):Int)).natAbs.log2 < 9000:=by
  refine Nat.lt_of_lt_of_le (log2_lt (k:=8900) ?_ (by decide)) (by decide)
  rw [Int.natAbs_natCast]
  exact h
 exact ⟨⟨by omega,h3⟩,⟨by omega,h3⟩⟩
theorem Zob {m n:Nat} (hm:1<=m) (h:m < 2 ^ 8900):okD m n:=Nat.lt_of_le_of_lt (Nat.le_of_dvd hm (Nat.gcd_dvd_left _ _)) h
noncomputable def Zg9:Sp:=λvs H Q _=>∃ a b:Nat,vs=[.int a,.int b]/\Q (.int (Nat.gcd a b:Nat)) H
noncomputable def Kl (EF:Addr):Sp:=λvs H Q E=>∃ a b:Int,vs=[.int a,.int b]/\(1<=a->1<=b->Q .non H)/\(a < 1\/b < 1->E (.ref EF) none H)
noncomputable def Zdx (EF:Addr):Sp:=λvs H Q E=>∃ a b:Int,vs=[.int a,.int b]/\(∀ m n:Nat,a=m->b=n->1<=m->1<=n->okD m n/\∀ p,H p=none->Q (.ref p) (upd H p (tp (lowN m n))))/\(a < 1\/b < 1->E (.ref EF) none H)
noncomputable def Za1 (C:Addr):Sp:=λvs H Q _=>∃ (p:Addr) (M:List (Option Nat)) (ns:List Int),vs=[.ref p]/\Zy C H p M ns/\TD M ns/\ns.length < 64/\∀ (l:Addr) (H':Hp) (out:List Int),Same H H'->H l=none->H' l=some (.lst (out.map V.int))->out.Pairwise (·<=·)->SwK M ns out->Q (.ref l) H'
noncomputable def Fm (C:Addr):Sp:=λvs H Q _=>∃ (p:Addr) (M:List (Option Nat)) (ns:List Int),vs=[.ref p]/\Zy C H p M ns/\TD M ns/\ns.length < 64/\∀ (d:Addr) (H':Hp) (ks:List Int),Same H H'->H d=none->WAt H' d ks (λ_=>(1,1))->SwK M ns ks->Q (.ref d) H'
noncomputable def Zg7 (C:Addr):Sp:=λvs H Q _=>∃ (p d:Addr) (M:List (Option Nat)) (ns ks:List Int) (g:Int->Nat × Nat),vs=[.ref p,.ref d]/\Zy C H p M ns/\TD M ns/\ns.length < 64/\WAt H d ks g/\SwK M ns ks/\(∀ x∈ks,1<=(g x).1/\1<=(g x).2/\(g x).1 < 2 ^ 8900) /\
 ∀ (d':Addr) (H':Hp),Same H H'->H d'=none->WAt H' d' ks (lowG g)->Q (.ref d') H'
theorem mulN {m n:Nat} (h1:m < 2 ^ 60000) (h2:n < 2 ^ 60000):IntMulOk (m:Int) (n:Int):=PyProof.Rows.mulOk_of_bits (F3 (k:=60000) (by rw [Int.natAbs_natCast]; exact h1) (by decide)) (F3 (k:=60000) (by rw [Int.natAbs_natCast]; exact h2) (by decide)) (by decide)
theorem Zb0 {M:List (Option Nat)} {ns:List Int} (td:TD M ns) {x:Int} (hx:x∈keys ns ns.length):SwN M ns x ↔ Yo ns x≠"rim":=by
 constructor
 ·rintro ⟨p,j,h1,h2⟩ e
  rcases Qc td hx with ⟨_,a,e1,ma⟩ | ⟨e',_⟩ | ⟨e',_⟩
  ·have hp:p∈pl ns ns.length x:=Xc.mpr ⟨(List.getElem?_eq_some_iff.mp h2).1,h2⟩
   rw [e1,List.mem_singleton] at hp
   rw [hp,ma] at h1
   cases h1
  ·exact t_lr (e'.symm.trans e)
  ·exact t_fr (e'.symm.trans e)
 ·intro e
  rcases Qc td hx with ⟨e',_⟩ | ⟨_,a,b,_,e1,ma,_⟩ | ⟨_,a,b,_,e1,ma,_⟩
  ·exact absurd e' e
  ·have hp:a∈pl ns ns.length x:=by rw [e1]; exact List.mem_cons_self
   exact ⟨a,b,ma,(Xc.mp hp).2⟩
  ·have hp:a∈pl ns ns.length x:=by rw [e1]; exact List.mem_cons_self
   exact ⟨a,b,ma,(Xc.mp hp).2⟩
theorem SwK.len {M:List (Option Nat)} {ns ks:List Int} (sw:SwK M ns ks) (td:TD M ns):ks.length<=ns.length:=by
 have e:ks.Perm ((keys ns ns.length).filter λx=>decide (x∈ks)):=(List.perm_ext_iff_of_nodup sw.nd ((Qi ns ns.length).filter _)).mpr λx=>by
  rw [List.mem_filter,decide_eq_true_eq]
  exact ⟨λh=>⟨((sw.mem x).mp h).key td,h⟩,λh=>h.2⟩
 have h1:=e.length_eq
 have h2:=List.length_filter_le (λx=>decide (x∈ks)) (keys ns ns.length)
 have h3:=Q3 ns ns.length
 omega
noncomputable def swB (ns:List Int) (x:Int):Bool:=!decide (V.str (Yo ns x)=V.str "rim")
theorem Zlt {ns:List Int} {x:Int}:swB ns x=true ↔ Yo ns x≠"rim":=by
 unfold swB
 rw [Bool.not_eq_true',decide_eq_false_iff_not]
 exact ⟨λh e=>h (by rw [e]),λh e=>h (by injection e)⟩
theorem O1 {α:Type} {f:α->Bool} {l:List α} {i:Nat} {x:α} (h:l[i]?=some x):(l.take (i + 1)).filter f=if f x=true then (l.take i).filter f ++ [x] else (l.take i).filter f:=by
 rw [List.take_add_one,h,List.filter_append]
 by_cases c:f x=true
 ·simp [c]
 ·simp [c]
theorem J7:FnScope ["one","other"] ["one","other"] (Zg Qr):=⟨rfl,rfl,rfl,by decide +kernel,rfl,by decide +kernel,by decide +kernel⟩
theorem Qa (T:Txt w K mg t):FnOk P w K mg base (CXr P w) 1 t.f_common_measure t.d_common_measure ["one","other"] Zg9:=by
 refine T.p_common_measure.F.okR J7 (λvs H Q E h=>?_) (λcdv A outer s H vs Q E hr h=>?_)
 ·obtain ⟨a,b,rfl,_⟩:=h
  rfl
 ·obtain ⟨a,b,rfl,k⟩:=h
  refine ⟨_,(Zf (Jf PassesOwn.never (V1 (pv 1) (λ_=>rfl)) (Zh (U9 (i:=0) (j:=1) rfl J7.nd rfl rfl (by decide) rfl rfl (Za (pv 1) (Za (Zi Z6 (pv 0) (pv 1)) Zb)) (by rfl))))
   (Zh (Zr (pv 0)))),?_⟩
  refine ⟨λm σ H1=>∃ a' b':Nat,b'=m/\H1=H/\σ=[some (.int a'),some (.int b')]/\Nat.gcd a' b'=Nat.gcd a b,⟨b,a,b,rfl,rfl,rfl,rfl⟩,?_⟩
  rintro m σ H1 ⟨a',b',rfl,rfl,rfl,e⟩
  refine ⟨_,rfl,_,rfl,?_⟩
  by_cases z:b'=0
  ·subst z
   refine iteF ⟨_,rfl,?_⟩
   rw [Nat.gcd_zero_right] at e
   rw [e]
   exact k
  ·have hz:((b':Int) != 0)=true:=by simp; omega
   rw [hz]
   refine iteT ⟨_,λσ' H' h=>h,?_⟩
   refine ⟨_,rfl,_,rfl,_,rfl,_,_,rfl,rfl,(by show (0:Int) < b'; omega),_,_,rfl,?_⟩
   refine ⟨a' % b',Nat.mod_lt _ (by omega),b',a' % b',rfl,rfl,?_,?_⟩
   ·rw [Int.natCast_emod]; rfl
   ·rw [<- e,Nat.gcd_comm a' b',Nat.gcd_rec b' a',Nat.gcd_comm]
theorem Ko:FnScope ["top","bottom"] ["top","bottom"] (Zg Q9):=⟨rfl,rfl,rfl,by decide +kernel,rfl,by decide +kernel,by decide +kernel⟩
theorem Ky (T:Txt w K mg t):FnOk P w K mg base (CXr P w) 1 t.f_look_fraction t.d_look_fraction ["top","bottom"] (Kl t.E_NoFraction):=by
 refine T.p_look_fraction.F.okX Ko (λvs H Q E h=>?_) (λcdv A outer s H vs Q E hr h=>?_)
 ·obtain ⟨a,b,rfl,_⟩:=h
  rfl
 ·obtain ⟨a,b,rfl,k1,k2⟩:=h
  refine ⟨_,(Zm (Yy (PW.pt (Va (Zk Wi (pv 0) Zd (Zn _)) (Qu (Zk Wi (pv 1) Zd (Zn _))))) (Zm (Xi T.x_NoFraction FBV rfl T.gx_NoFraction rfl (Za Yb Zb))) Xv)),?_⟩
  refine ⟨_,rfl,_,_,rfl,rfl,_,rfl,?_⟩
  refine ite2 (λc=>?_) (λc=>?_)
  ·have c:a < 1:=by simpa using c
   exact iteT ⟨by decide,k2 (.inl c)⟩
  ·have c:¬ a < 1:=by simpa using c
   refine ⟨_,rfl,_,_,rfl,rfl,_,rfl,?_⟩
   refine ite2 (λd=>?_) (λd=>?_)
   ·have d:b < 1:=by simpa using d
    exact ⟨by decide,k2 (.inr d)⟩
   ·have d:¬ b < 1:=by simpa using d
    exact k1 (by omega) (by omega)
theorem O5:FnScope ["top","bottom","measure"] ["top","bottom"] (Zg Gr):=⟨rfl,rfl,rfl,by decide +kernel,rfl,by decide +kernel,by decide +kernel⟩
theorem Zec (T:Txt w K mg t):FnOk P w K mg base (CXr P w) 2 t.f_fraction t.d_fraction ["top","bottom"] (Zdx t.E_NoFraction):=by
 refine T.p_fraction.F.okX O5 (λvs H Q E h=>?_) (λcdv A outer s H vs Q E hr h=>?_)
 ·obtain ⟨a,b,rfl,_⟩:=h
  rfl
 ·obtain ⟨a,b,rfl,k1,k2⟩:=h
  refine ⟨_,(Zp (Z0 (Zw (Ky T) (hr.mono (by decide)) rfl T.p_look_fraction.g T.p_look_fraction.F.kp T.p_look_fraction.b .nil (Za (pv 0) (Za (pv 1) Zb))))
   (Zp (Ya (Zu (i:=2) O5.nd rfl (Or.inl rfl) (Zo (Qa T) (hr.mono (by decide)) rfl T.p_common_measure.g T.p_common_measure.F.kp T.p_common_measure.b .nil Zs (Za (pv 0) (Za (pv 1) Zb)))))
   (Zm (Ya (Zr (X7 (Za (Zi Kv (pv 0) (pv 2)) (Za (Zi Kv (pv 1) (pv 2)) Zb)))))))),?_⟩
  refine ⟨_,rfl,_,rfl,a,b,rfl,λha hb=>?_,k2⟩
  obtain ⟨m,rfl⟩:∃ m:Nat,a=m:=⟨a.toNat,by omega⟩
  obtain ⟨n,rfl⟩:∃ n:Nat,b=n:=⟨b.toNat,by omega⟩
  obtain ⟨hbg,k⟩:=k1 m n rfl rfl (by omega) (by omega)
  obtain ⟨g1,g2⟩:=Zmo (m:=m) (n:=n) (by omega) hbg
  refine ⟨_,rfl,_,rfl,m,n,rfl,?_⟩
  dsimp only [Zv]
  refine ⟨_,rfl,_,rfl,_,_,rfl,rfl,g1,_,rfl,_,rfl,_,_,rfl,rfl,g2,(by show 2<=sizeLine; rw [sizeLine_eq]; decide),λp hp=>?_⟩
  exact k p hp
theorem Za8:FnScope ["tent"] ["tent"] (Zg U1):=⟨rfl,rfl,rfl,by decide +kernel,rfl,by decide +kernel,by decide +kernel⟩
theorem Uj (T:Txt w K mg t):FnOk P w K mg base (CXr P w) 3 t.f_sewn_seams t.d_sewn_seams ["tent"] (Za1 t.C_Tent):=by
 refine T.p_sewn_seams.F.okR Za8 (λvs H Q E h=>?_) (λcdv A outer s H vs Q E hr h=>?_)
 ·obtain ⟨p,M,ns,rfl,_⟩:=h
  rfl
 ·obtain ⟨p,M,ns,rfl,ta,td,h64,k⟩:=h
  refine ⟨_,(Zh (Zr (Y6 (ts:=["seam"]) (fv:=[("tent",0)]) ⟨rfl,by decide +kernel,by decide +kernel,Yk (by rfl),⟨⟨rfl,rfl,Or.inl rfl⟩,trivial⟩⟩ rfl (Yp (V3 (pv 0) T.cl_Tent T.p_Tent_seams.m (Ul T) (hr.mono (by decide)) T.p_Tent_seams.b .nil Zs)) (λ_ _ _ _=>(Zq (i:=0) (show List.Nodup (["seam","tent"]:List Str) from by decide +kernel) rfl (Or.inl rfl) (Or.inr rfl))) (λ_ _ _ _=>(Jd (Zk Os (Xf (pv 1) T.cl_Tent T.p_Tent_sort_of.m (Vc T) (hr.mono (by decide)) T.p_Tent_sort_of.b .nil Zs (Za (pv 0) Zb)) Yb (Zn _)))) (λ_ _ _=>rfl) (λ_ _ _ _ _ _=>Ys (pv 0))))),?_⟩
  obtain ⟨dx,cl,na,sp,mt,o,ff,b⟩:=id ta
  refine ⟨_,rfl,p,dx,_,rfl,b.ins,Yq _ _ _ _,p,M,ns,rfl,ta,h64,λl ks hl1 hpm hst=>?_⟩
  have s1:Same H (upd H l (.lst (ks.map V.int))):=Same.new hl1
  have h1:(upd H l (.lst (ks.map V.int))) l=some (.lst (ks.map V.int)):=Zc
  generalize upd H l (.lst (ks.map V.int))=H1 at s1 h1 ⊢
  have hkl:ks.length<=64:=by rw [hpm.length_eq]; have:=Q3 ns ns.length; omega
  refine ⟨l,rfl,⟨_,SqL.of h1⟩,λD hD=>?_⟩
  refine Yt (xs:=ks.map V.int) (λi σ H3=>∃ v,σ=[v,some (.ref p)]/\Same H1 H3/\H3 D=some (.lst (((ks.take i).filter (swB ns)).map V.int))) ⟨none,rfl,Same.new hD,Zc⟩ ?_ ?_ ?_
  ·rintro i σ H3 _ ⟨v,rfl,s3,h3⟩
   exact SqL.of (s3 _ _ h1)
  ·rintro i x σ H3 hx ⟨v,rfl,s3,h3⟩
   obtain ⟨y,hy,rfl⟩:=Yf hx
   have hyk:y∈keys ns ns.length:=hpm.mem_iff.mp (List.mem_of_getElem? hy)
   have ta3:=(ta.same s1).same s3
   obtain ⟨dx,cl,na,sp,mt,o,ff,b⟩:=id ta3
   dsimp only [Zv]
   refine ⟨_,rfl,p,dx,_,rfl,b.ins,Yq _ _ _ _,_,rfl,p,M,ns,y,rfl,ta3,td,λ_ H4 s4=>?_,λz=>absurd hyk z⟩
   refine ⟨rfl,_,rfl,?_⟩
   show if swB ns y=true then _ else _
   have lt:(((ks.take i).filter (swB ns)).map V.int).length < sizeLine:=by
    rw [List.length_map]
    have:=List.length_filter_le (swB ns) (ks.take i)
    rw [List.length_take] at this
    exact Zx (by omega)
   by_cases c:swB ns y=true
   ·rw [if_pos c]
    refine ⟨_,rfl,_,s4 _ _ h3,lt,_,rfl,Same.add (s3.trans s4) hD,?_⟩
    rw [Zc,O1 hy,if_pos c,List.map_append]
    rfl
   ·rw [if_neg c]
    refine ⟨_,rfl,s3.trans s4,?_⟩
    rw [s4 _ _ h3,O1 hy,if_neg c]
  ·rintro σ H3 ⟨v,rfl,s3,h3⟩
   rw [List.length_map,List.take_length] at h3
   refine k D H3 _ (s1.trans s3) (s1.free hD) h3 (hst.filter _) ⟨(hpm.nodup_iff.mpr (Qi ns ns.length)).filter _,λx=>?_⟩
   rw [List.mem_filter,hpm.mem_iff,Zlt]
   refine ⟨λzz47=>?_,λh=>⟨h.key td,(Zb0 td (h.key td)).mp h⟩⟩
   obtain ⟨h1,h2⟩:=zz47
   exact (Zb0 td h1).mpr h2
theorem Fq:FnScope ["tent"] ["tent"] (Zg Uh):=⟨rfl,rfl,rfl,by decide +kernel,rfl,by decide +kernel,by decide +kernel⟩
theorem Fx (T:Txt w K mg t):FnOk P w K mg base (CXr P w) 4 t.f_even_worths t.d_even_worths ["tent"] (Fm t.C_Tent):=by
 refine T.p_even_worths.F.okR Fq (λvs H Q E h=>?_) (λcdv A outer s H vs Q E hr h=>?_)
 ·obtain ⟨p,M,ns,rfl,_⟩:=h
  rfl
 ·obtain ⟨p,M,ns,rfl,ta,td,h64,k⟩:=h
  have hu:=Wp hr
  refine ⟨_,(Zh (Zr (Zah (ts:=["seam"]) (fv:=[]) ⟨rfl,by decide +kernel,by decide +kernel,Yk (by rfl),trivial⟩ rfl (Yp (Zo (Uj T) (hr.mono (by decide)) rfl T.p_sewn_seams.g T.p_sewn_seams.F.kp T.p_sewn_seams.b .nil Zs (Za (pv 0) Zb))) (λ_ _ _ _=>(Zq (i:=0) (show List.Nodup (["seam"]:List Str) from by decide +kernel) rfl (Or.inl rfl) (Or.inr rfl))) (λ_ _ _ _=>Yu) (λ_ _ _=>rfl) (λ_ _ _ _ _ _=>Ku (pv 0) (X7 (Za Zd (Za Zd Zb))))))),?_⟩
  refine ⟨_,rfl,p,M,ns,rfl,ta,td,h64,λl H1 ks s1 hl1 h1 _ sw=>?_⟩
  have hkl:ks.length<=64:=by
   have:=sw.len td
   omega
  refine ⟨l,rfl,⟨_,SqL.of h1⟩,λD hD=>?_⟩
  refine Yt (xs:=ks.map V.int) (λi σ H3=>∃ v,σ=[v]/\Same H1 H3/\WAt H3 D (ks.take i) λ_=>(1,1)) ⟨none,rfl,Same.new hD,λ_=>0,Zc,λx hx=>by simp at hx⟩ ?_ ?_ ?_
  ·rintro i σ H3 _ ⟨v,rfl,s3,h3⟩
   exact SqL.of (s3 _ _ h1)
  ·rintro i x σ H3 hx ⟨v,rfl,s3,ad,h3,h4⟩
   obtain ⟨y,hy,rfl⟩:=Yf hx
   dsimp only [Zv,tYes]
   rw [if_pos rfl]
   refine ⟨_,rfl,(by show 2<=sizeLine; rw [sizeLine_eq]; decide),λq hq=>?_⟩
   have sq:Same H3 (upd H3 q (.tup [V.int 1,V.int 1])):=Same.new hq
   have hq':(upd H3 q (.tup [V.int 1,V.int 1])) q=some (tp (1,1)):=Zc
   have hny:y ∉ ks.take i:=λz=>by
    have hi:i < ks.length:=(List.getElem?_eq_some_iff.mp hy).1
    have nd:=sw.nd
    rw [<- List.take_append_drop i ks,List.nodup_append] at nd
    refine nd.2.2 y z y ?_ rfl
    rw [List.drop_eq_getElem_cons hi,(List.getElem?_eq_some_iff.mp hy).2]
    exact List.mem_cons_self
   refine ⟨_,Sum.inl y,rfl,sq _ _ h3,(by rw [Gb,List.length_take]; exact Zx (by omega)),_,rfl,Same.add (s3.trans sq) hD,?_⟩
   rw [List.take_add_one,hy]
   have:=WAt.new (g:=λ_=>(1,1)) (v:=(1,1)) (sq _ _ h3) (λx hx=>sq _ _ (h4 x hx)) hq' hny
   exact this.congr λx _=>by unfold putG; split <;> rfl
  ·rintro σ H3 ⟨v,rfl,s3,h3⟩
   rw [List.length_map,List.take_length] at h3
   exact k D H3 ks (s1.trans s3) (s1.free hD) h3 sw
theorem Km:FnScope ["tent","worths"] ["tent","worths"] (Zg Q7):=⟨rfl,rfl,rfl,by decide +kernel,rfl,by decide +kernel,by decide +kernel⟩
theorem Kw (T:Txt w K mg t):FnOk P w K mg base (CXr P w) 4 t.f_lowest_worths t.d_lowest_worths ["tent","worths"] (Zg7 t.C_Tent):=by
 refine T.p_lowest_worths.F.okR Km (λvs H Q E h=>?_) (λcdv A outer s H vs Q E hr h=>?_)
 ·obtain ⟨p,d,M,ns,ks,g,rfl,_⟩:=h
  rfl
 ·obtain ⟨p,d,M,ns,ks,g,rfl,ta,td,h64,wa,sw,ok,k⟩:=h
  have hu:=Wp hr
  refine ⟨_,(Zf (Yj (Zk (Zhy hr.units) (Zt (Oj rfl) (by rfl) T.n_sorted PyProof.Rows.boot_sorted (Za (pv 1) Zb)) (Zo (Uj T) (hr.mono (by decide)) rfl T.p_sewn_seams.g T.p_sewn_seams.F.kp T.p_sewn_seams.b .nil Zs (Za (pv 0) Zb)) (Zn _)) Y4 Z7)
   (Zh (Zr (Zmk (Zah (ts:=["seam","top","bottom"]) (fv:=[]) ⟨rfl,by decide +kernel,by decide +kernel,Yk (by rfl),trivial⟩ rfl (Zj1 (pv 1) ⟨rfl,rfl,rfl⟩) (λ_ _ _ _=>(Oq (n:=2) K rfl (Z3 (Zq (i:=0) (show List.Nodup (["seam","top","bottom"]:List Str) from by decide +kernel) rfl (Or.inl rfl) (Or.inr rfl)) (Z3 (Oq (n:=2) K rfl (Z3 (Zq (i:=1) (show List.Nodup (["seam","top","bottom"]:List Str) from by decide +kernel) rfl (Or.inl rfl) (Or.inr rfl)) (Z3 (Zq (i:=2) (show List.Nodup (["seam","top","bottom"]:List Str) from by decide +kernel) rfl (Or.inl rfl) (Or.inr rfl)) Xo))) Xo)))) (λ_ _ _ _=>Yu) (λ_ _ _=>rfl) (λ_ _ _ _ _ _=>Ku (pv 0) (Zo (Zec T) (hr.mono (by decide)) rfl T.p_fraction.g T.p_fraction.F.kp T.p_fraction.b .nil Zs (Za (pv 1) (Za (pv 2) Zb))))))))),?_⟩
  obtain ⟨ad,hd,had⟩:=id wa
  have hkl:ks.length < 64:=by
   have:=sw.len td
   omega
  refine Z4 λnxC hnxC=>?_
  refine ⟨_,rfl,d,_,ks,rfl,.inl hd,(by unfold wD; rw [List.map_map]; rfl),hkl,λl1 out1 hl1 pm1 st1=>?_⟩
  have s1:Same H (upd H l1 (.lst (out1.map V.int))):=Same.new hl1
  have h1:(upd H l1 (.lst (out1.map V.int))) l1=some (.lst (out1.map V.int)):=Zc
  generalize upd H l1 (.lst (out1.map V.int))=H1 at s1 h1 ⊢
  refine ⟨_,rfl,p,M,ns,rfl,ta.same s1,td,h64,λl2 H2 out2 s2 hl2 h2 st2 sw2=>?_⟩
  refine ⟨l1,l2,out1,out2,rfl,rfl,SqL.of (s2 _ _ h1),SqL.of h2,_,rfl,?_⟩
  obtain rfl:=Zhc pm1 (sw2.perm sw) st1 st2
  rw [decide_eq_true rfl]
  refine iteF ?_
  try dsimp only [Jp]
  refine hnxC _ _ ?_
  have s12:=s1.trans s2
  have hd2:=s12 _ _ hd
  have had2:∀ x∈ks,H2 (ad x)=some (tp (g x)):=λx hx=>s12 _ _ (had x hx)
  clear h1 h2 st1 st2 pm1 sw2 hl2
  refine ⟨_,rfl,d,_,rfl,.inl ⟨hd2,λo=>?_⟩⟩
  intro D hD
  obtain ⟨hDd,hD2⟩:=Wt hD
  have hda:∀ x∈ks,ad x≠d:=λx hx z=>by have:=had2 x hx; rw [z,hd2] at this; cases this
  refine Zgj (λi σ H3=>∃ v0 v1 v2,σ=[v0,v1,v2]/\(∀ b u,b≠d->H2 b=some u->H3 b=some u)/\H3 d=some (.frz o (.dK (wD ks ad)))/\WAt H3 D (ks.take i) (lowG g)) ⟨none,none,none,rfl,λb u hb e=>by rw [Ze (Zj e hD2),Ze hb]; exact e,by rw [Ze (Ne.symm hDd),Zc],λ_=>0,Zc,λx hx=>by simp at hx⟩ ?_ ?_ ?_
  ·rintro i σ H3 _ ⟨v0,v1,v2,rfl,_,e,_⟩
   exact e
  ·rintro i k0 x0 σ H3 q hk0 hq ⟨v0,v1,v2,rfl,s3,e3,ad3,h3,h4⟩
   obtain ⟨y,hy,rfl,rfl⟩:=Zoy hk0
   have hyk:=List.mem_of_getElem? hy
   obtain ⟨o1,o2,o3⟩:=ok y hyk
   have sq:Same H3 (upd H3 q (.tup [kV (Sum.inl y),V.ref (ad y)])):=Same.new hq
   have hqq:(upd H3 q (.tup [kV (Sum.inl y),V.ref (ad y)])) q=some (.tup [kV (Sum.inl y),V.ref (ad y)]):=Zc
   have hay:(upd H3 q (.tup [kV (Sum.inl y),V.ref (ad y)])) (ad y)=some (tp (g y)):=sq _ _ (s3 _ _ (hda y hyk) (had2 y hyk))
   generalize upd H3 q (.tup [kV (Sum.inl y),V.ref (ad y)])=H4 at sq hqq hay ⊢
   dsimp only [Zv]
   refine ⟨q,_,rfl,SqT.of hqq,rfl,_,_,rfl,_,_,rfl,⟨ad y,_,rfl,SqT.of hay,rfl,_,_,rfl,_,_,rfl,rfl,?_⟩⟩
   refine ⟨rfl,?_⟩
   dsimp only [Zv,tYes]
   rw [if_pos rfl]
   refine ⟨_,rfl,_,rfl,_,rfl,((g y).1:Int),((g y).2:Int),rfl,λm n em en hm hn=>?_,λz=>by omega⟩
   obtain rfl:m=(g y).1:=by omega
   obtain rfl:n=(g y).2:=by omega
   refine ⟨Zob hm o3,λr hr=>?_⟩
   have sr:Same H4 (upd H4 r (tp (lowN (g y).1 (g y).2))):=Same.new hr
   have hny:y ∉ ks.take i:=λz=>by
    have hi:i < ks.length:=(List.getElem?_eq_some_iff.mp hy).1
    have nd:=sw.nd
    rw [<- List.take_append_drop i ks,List.nodup_append] at nd
    refine nd.2.2 y z y ?_ rfl
    rw [List.drop_eq_getElem_cons hi,(List.getElem?_eq_some_iff.mp hy).2]
    exact List.mem_cons_self
   have s34:=sq.trans sr
   refine ⟨_,Sum.inl y,rfl,s34 _ _ h3,(by rw [Gb,List.length_take]; exact Zx (by omega)),_,_,_,rfl,λb u hb e=>?_,?_,?_⟩
   ·rw [Ze (Zj e hD2)]; exact s34 _ _ (s3 b u hb e)
   ·rw [Ze (Ne.symm hDd)]; exact s34 _ _ e3
   ·rw [List.take_add_one,hy]
    have:=WAt.new (g:=lowG g) (v:=lowN (g y).1 (g y).2) (s34 _ _ h3) (λx hx=>s34 _ _ (h4 x hx)) (Zc (H:=H4) (a:=r)) hny
    exact this.congr λx _=>by
     unfold putG
     split
     ·rename_i z; rw [z]; rfl
     ·rfl
  ·rintro σ H3 ⟨v0,v1,v2,rfl,s3,e3,w3⟩
   rw [Gb,List.take_length] at w3
   refine ⟨d,o,_,e3,(λo' u z=>by have z:H d=some (.frz o' u):=z; rw [hd] at z; cases z),?_⟩
   have sF:Same H2 (upd H3 d (.dK (wD ks ad))):=λb u e=>by
    by_cases c:b=d
    ·subst c; rw [hd2] at e; rw [Zc]; exact e
    ·rw [Ze c]; exact s3 b u c e
   refine k D _ (s12.trans sF) (s12.free hD2) ?_
   obtain ⟨ad3,h5,h6⟩:=w3
   exact ⟨ad3,by rw [Ze hDd]; exact h5,λx hx=>by rw [Ze (λz=>by have:=h6 x hx; rw [z,e3] at this; cases this)]; exact h6 x hx⟩
end
end KT
namespace KT
open PySem L2 Mx
theorem mulS {m n:Nat} (h1:m < 2 ^ 3000) (h2:n < 2 ^ 3000):IntMulOk (m:Int) (n:Int):=mulN (Nat.lt_of_lt_of_le h1 (Nat.pow_le_pow_right (by decide) (by decide))) (Nat.lt_of_lt_of_le h2 (Nat.pow_le_pow_right (by decide) (by decide)))
theorem divS {m n:Nat} (h0:0 < n) (h:n < 2 ^ 3000):Ud (m:Int) (n:Int):=⟨by omega,Nat.lt_of_lt_of_le (log2_lt (k:=3000) (by rw [Int.natAbs_natCast]; exact h) (by decide)) (by decide)⟩
noncomputable def FrAt (H:Hp) (a:Addr) (vs:List (Nat × Nat)):Prop:=∃ qs:List Addr,H a=some (.lst (qs.map V.ref))/\qs.length=vs.length/\∀ (i:Nat) (q:Addr) (v:Nat × Nat),qs[i]?=some q->vs[i]?=some v->H q=some (tp v)
theorem FrAt.same {H H':Hp} {a:Addr} {vs:List (Nat × Nat)} (h:FrAt H a vs) (s:Same H H'):FrAt H' a vs:=by
 obtain ⟨qs,h1,h2,h3⟩:=h
 exact ⟨qs,s _ _ h1,h2,λi q v e1 e2=>s _ _ (h3 i q v e1 e2)⟩
noncomputable def Zl4:Sp:=λus H Q _=>∃ (c:Addr) (vs:List (Nat × Nat)) (ys:List Str),us=[.ref c,.str (Txt.join (Str.ofString "") ys)]/\FrAt H c vs/\vs.length=ys.length/\vs.length<=100/\(∀ v∈vs,v.1<=100/\v.2<=100)/\(∀ y∈ys,isLR y)/\∀ H',Same H H'->Q (.int (tr (tab (vs.zip (ys.map tuB))):Nat)) H'
noncomputable def Zl1:Sp:=λus H Q _=>∃ (a:Addr) (N:Nat) (fs:List Nat),us=[.int N,.ref a]/\H a=some (.lst (fs.map nV))/\0 < N/\N < 2 ^ 3000/\(∀ f∈fs,1<=f/\f<=100)/\fs.length<=200/\∀ p,H p=none->Q (.ref p) (upd H p (tp (lowN N (prd fs))))
noncomputable def Zbm (C:Addr):Sp:=λus H Q _=>∃ (p d a:Addr) (M:List (Option Nat)) (ns ks:List Int) (g:Int->Nat × Nat) (ws:List Nat),us=[.ref p,.ref d,.ref a]/\Zy C H p M ns/\TD M ns/\ns.length < 64/\WAt H d ks g/\SwK M ns ks/\(∀ x∈ks,1<=(g x).1/\1<=(g x).2/\(g x).1<=100/\(g x).2<=100)/\H a=some (.lst (ws.map nV))/\ws.length<=100/\Pl M ws /\
 ∀ (r:Addr) (H':Hp),Same H H'->H' r=some (tp (wor (lowG g) M ns ws))->Q (.ref r) H'
theorem K4:∀ vs:List (Nat × Nat),(vs.flatMap λv=>[v.1,v.2]).length=2 * vs.length
 | []=>rfl
 | v :: vs=>by rw [List.flatMap_cons,List.length_append,K4 vs]; simp only [List.length_cons,List.length_nil]; omega
theorem dSt {a b:Str}:decide (V.str a=V.str b)=decide (a=b):=by
 by_cases z:a=b
 ·subst z; simp
 ·rw [decide_eq_false z,decide_eq_false (λy=>z (by injection y))]
theorem Zli {ys:List Str} (h:∀ y∈ys,isLR y):(Txt.join (Str.ofString "") ys).cps.all (· < 128)=true/\ys.map V.str=(Txt.join (Str.ofString "") ys).cps.toList.map λc=>V.str ⟨#[c]⟩:=by
 obtain ⟨j1,j2,j3⟩:=Ziq h
 refine ⟨j1,?_⟩
 apply List.ext_getElem?
 intro i
 rw [List.getElem?_map,List.getElem?_map]
 rcases Nat.lt_or_ge i ys.length with hi | hi
 ·have hi':i < (Txt.join (Str.ofString "") ys).cps.size:=by omega
  have e:=Array.getElem?_eq_getElem hi'
  have e2:=j3 i _ e
  have e3:(Txt.join (Str.ofString "") ys).cps.toList[i]?=some (Txt.join (Str.ofString "") ys).cps[i]:=by rw [Array.getElem?_toList]; exact e
  rw [e3,e2]
  rfl
 ·rw [List.getElem?_eq_none hi,List.getElem?_eq_none (by rw [Array.length_toList]; omega)]
  rfl
section
variable {P:Program} {w:World} {K:PySem.W.Frag} {mg:Str->Option Value} {base:Heap} {t:Adr}
theorem Yh:FnScope ["crossed","turns","upper_left","upper_right","lower_left","lower_right","top","bottom","turn"] ["crossed","turns"] (Zg Vm):=⟨rfl,rfl,rfl,by decide +kernel,rfl,by decide +kernel,by decide +kernel⟩
theorem G1 (T:Txt w K mg t):FnOk P w K mg base (CXr P w) 1 t.f_diagonal_sum t.d_diagonal_sum ["crossed","turns"] Zl4:=by
 refine T.p_diagonal_sum.F.okR Yh (λvs H Q E h=>?_) (λcdv A outer s H vs Q E hr h=>?_)
 ·obtain ⟨c,vs,ys,rfl,_⟩:=h
  rfl
 ·obtain ⟨c,vs,ys,rfl,⟨qs,h1,h2,h3⟩,hl,h100,hv,hy,k⟩:=h
  refine ⟨_,(Zf (Jz (X7 (Za Zd (Za Zd (Za Zd (Za Zd Zb))))) (W6 rfl (Z3 (Zq (i:=2) Yh.nd rfl (Or.inl rfl)) (Z3 (Zq (i:=3) Yh.nd rfl (Or.inl rfl)) (Z3 (Zq (i:=4) Yh.nd rfl (Or.inl rfl)) (Z3 (Zq (i:=5) Yh.nd rfl (Or.inl rfl)) Xo))))))
   (Zf (Xb PassesOwn.never rfl (Zmg rfl T.n_zip (Za (pv 0) (Za (pv 1) Zb))) (W6 rfl (Z3 (W6 rfl (Z3 (Zq (i:=6) Yh.nd rfl (Or.inl rfl)) (Z3 (Zq (i:=7) Yh.nd rfl (Or.inl rfl)) Xo))) (Z3 (Zq (i:=8) Yh.nd rfl (Or.inl rfl)) Xo))) (Zf (U9 (i:=2) (j:=4) rfl Yh.nd rfl rfl (by decide) rfl rfl (Za (Zi Ot (pv 2) (pv 6)) (Za (Zi Ot (pv 4) (pv 6)) Zb)) (by rfl))
   (Zf (U9 (i:=3) (j:=5) rfl Yh.nd rfl rfl (by decide) rfl rfl (Za (Zi Ot (pv 3) (pv 7)) (Za (Zi Ot (pv 5) (pv 7)) Zb)) (by rfl))
   (Zh (Yj (Zk Ye (pv 8) Yb (Zn _)) (Zh (U9 (i:=3) (j:=5) rfl Yh.nd rfl rfl (by decide) rfl rfl (Za (Zi Yn (pv 3) (pv 2)) (Za (Zi Yn (pv 5) (pv 4)) Zb)) (by rfl))) (Zh (U9 (i:=2) (j:=4) rfl Yh.nd rfl rfl (by decide) rfl rfl (Za (Zi Yn (pv 2) (pv 3)) (Za (Zi Yn (pv 4) (pv 5)) Zb)) (by rfl))))))))
   (Zh (Zr (Zi Yn (pv 2) (pv 5)))))),?_⟩
  obtain ⟨z1,z2⟩:=Zli hy
  refine Z4 λnxC hnxC=>?_
  refine ⟨(by show 4<=sizeLine; rw [sizeLine_eq]; decide),λq0 hq0=>?_⟩
  have s0:Same H (upd H q0 (.tup [V.int 1,V.int 0,V.int 0,V.int 1])):=Same.new hq0
  refine ⟨q0,_,rfl,SqT.of Zc,rfl,_,_,rfl,_,_,rfl,_,_,rfl,_,_,rfl,rfl,?_⟩
  refine hnxC _ _ ?_
  try dsimp only [Zv]
  show tSeq (tFor _ _ _) _ _ _ (upd H q0 (.tup [V.int 1,V.int 0,V.int 0,V.int 1]))
  generalize upd H q0 (.tup [V.int 1,V.int 0,V.int 0,V.int 1])=H0 at s0 ⊢
  have hzl:(vs.zip (ys.map tuB)).length=vs.length:=by rw [List.length_zip,List.length_map]; omega
  refine Zz (λσ H'=>Same H H'/\∃ v6 v7 v8,σ=[some (.ref c),some (.str (Txt.join (Str.ofString "") ys)),some (.int (tab (vs.zip (ys.map tuB))).a),some (.int (tab (vs.zip (ys.map tuB))).b),some (.int (tab (vs.zip (ys.map tuB))).c),some (.int (tab (vs.zip (ys.map tuB))).d),v6,v7,v8]) (λnx hnx=>?_) ?_
  ·refine ⟨_,rfl,_,rfl,.l c,.s _,_,_,rfl,SqL.of (s0 _ _ h1),⟨z1,z2⟩,?_⟩
   refine Zkv (S:=.l c) (T:=.s (Txt.join (Str.ofString "") ys)) (xs:=qs.map V.ref) (ys:=ys.map V.str) (by rw [List.length_map,List.length_map]; omega) (λi σ H'=>Same H H'/\∃ v6 v7 v8,σ=[some (.ref c),some (.str (Txt.join (Str.ofString "") ys)),some (.int (((vs.zip (ys.map tuB)).take i).foldl stp one).a),some (.int (((vs.zip (ys.map tuB)).take i).foldl stp one).b),some (.int (((vs.zip (ys.map tuB)).take i).foldl stp one).c),some (.int (((vs.zip (ys.map tuB)).take i).foldl stp one).d),v6,v7,v8]) ⟨s0,_,_,_,rfl⟩ ?_ ?_ ?_
   ·rintro i σ H' _ ⟨s1,v6,v7,v8,rfl⟩
    exact ⟨SqL.of (s1 _ _ h1),z1,z2⟩
   ·rintro i x y σ H1 q hx hy' hq ⟨s1,v6,v7,v8,rfl⟩
    obtain ⟨qa,hqa,rfl⟩:=Yf hx
    obtain ⟨yy,hyy,rfl⟩:=Yf hy'
    have hi:i < vs.length:=by rw [<- h2]; exact (List.getElem?_eq_some_iff.mp hqa).1
    have hvi:=List.getElem?_eq_getElem hi
    have hta:=s1 _ _ (h3 i qa _ hqa hvi)
    have hzi:(vs.zip (ys.map tuB))[i]?=some (vs[i],tuB yy):=by
     rw [List.getElem?_zip_eq_some]
     exact ⟨hvi,by rw [List.getElem?_map,hyy]; rfl⟩
    have s2:Same H1 (upd H1 q (.tup [V.ref qa,V.str yy])):=Same.new hq
    have hbnd:=F1 (k:=100) ((vs.zip (ys.map tuB)).take i) one 1 (λq hq=>by
     have:=List.mem_of_mem_take hq
     exact hv _ (List.of_mem_zip this).1) (by decide)
    have hst:((vs.zip (ys.map tuB)).take (i + 1)).foldl stp one=stp (((vs.zip (ys.map tuB)).take i).foldl stp one) (vs[i],tuB yy):=by
     rw [List.take_add_one,hzi,List.foldl_append]; rfl
    rw [hst]
    have hb2:1 * (2 * 100) ^ ((vs.zip (ys.map tuB)).take i).length < 2 ^ 3000:=by
     rw [Nat.one_mul]
     refine Nat.lt_of_le_of_lt (Nat.pow_le_pow_right (by decide) (show _<=100 by rw [List.length_take]; omega)) (by decide +kernel)
    generalize ((vs.zip (ys.map tuB)).take i).foldl stp one=X at hbnd ⊢
    obtain ⟨b1,b2,b3,b4⟩:=hbnd
    have v100:∀ n:Nat,n<=100->n < 2 ^ 3000:=λn hn=>Nat.lt_of_le_of_lt hn (by decide +kernel)
    obtain ⟨c1,c2⟩:=hv _ (List.getElem_mem hi)
    generalize vs[i]=v at *
    refine ⟨q,_,rfl,SqT.of Zc,rfl,_,_,rfl,qa,_,rfl,SqT.of (s2 _ _ hta),rfl,_,_,rfl,_,_,rfl,rfl,_,_,rfl,rfl,?_⟩
    dsimp only [Zv]
    have m1:X.a < 2 ^ 3000:=Nat.lt_of_le_of_lt b1 hb2
    have m2:X.b < 2 ^ 3000:=Nat.lt_of_le_of_lt b2 hb2
    have m3:X.c < 2 ^ 3000:=Nat.lt_of_le_of_lt b3 hb2
    have m4:X.d < 2 ^ 3000:=Nat.lt_of_le_of_lt b4 hb2
    have m5:=v100 _ c1
    have m6:=v100 _ c2
    clear b1 b2 b3 b4 hb2 hst c1 c2 hta
    refine Z4 λnxC hnxC=>?_
    refine ⟨_,rfl,_,rfl,_,_,rfl,rfl,mulS m1 m5,_,rfl,_,rfl,_,_,rfl,rfl,mulS m3 m5,_,_,rfl,?_⟩
    refine hnxC _ _ ?_
    refine Z4 λnxC hnxC=>?_
    refine ⟨_,rfl,_,rfl,_,_,rfl,rfl,mulS m2 m6,_,rfl,_,rfl,_,_,rfl,rfl,mulS m4 m6,_,_,rfl,?_⟩
    refine hnxC _ _ ?_
    refine ⟨_,rfl,rfl,_,rfl,?_⟩
    rw [dSt]
    rcases hy yy (List.mem_of_getElem? hyy) with rfl | rfl
    ·refine iteF ?_
     refine ⟨_,rfl,_,rfl,_,_,rfl,rfl,_,rfl,_,rfl,_,_,rfl,rfl,_,_,rfl,?_⟩
     exact ⟨s1.trans s2,_,_,_,rfl⟩
    ·refine iteT ?_
     refine ⟨_,rfl,_,rfl,_,_,rfl,rfl,_,rfl,_,rfl,_,_,rfl,rfl,_,_,rfl,?_⟩
     exact ⟨s1.trans s2,_,_,_,rfl⟩
   ·rintro σ H' ⟨s1,v6,v7,v8,rfl⟩
    rw [List.length_map,h2,<- hzl,List.take_length]
    exact hnx _ _ ⟨s1,_,_,_,rfl⟩
  ·rintro σ H' ⟨s1,v6,v7,v8,rfl⟩
   refine ⟨_,rfl,_,rfl,_,_,rfl,rfl,?_⟩
   have:=k H' s1
   unfold tr at this
   rw [Int.natCast_add] at this
   exact this
theorem Xm:FnScope ["top","factors","bottom","factor","measure"] ["top","factors"] (Zg Ue):=⟨rfl,rfl,rfl,by decide +kernel,rfl,by decide +kernel,by decide +kernel⟩
theorem Fv (T:Txt w K mg t):FnOk P w K mg base (CXr P w) 2 t.f_lowest_over t.d_lowest_over ["top","factors"] Zl1:=by
 refine T.p_lowest_over.F.okR Xm (λvs H Q E h=>?_) (λcdv A outer s H vs Q E hr h=>?_)
 ·obtain ⟨a,N,fs,rfl,_⟩:=h
  rfl
 ·obtain ⟨a,N,fs,rfl,ha,hN,hN2,hf,hfl,k⟩:=h
  refine ⟨_,(Zf (Zu (i:=2) Xm.nd rfl (Or.inl rfl) Zd)
   (Zf (Xb PassesOwn.never rfl (Yp (pv 1)) (Zq (i:=3) Xm.nd rfl (Or.inl rfl)) (Zf (Zu (i:=4) Xm.nd rfl (Or.inl rfl) (Zo (Qa T) (hr.mono (by decide)) rfl T.p_common_measure.g T.p_common_measure.F.kp T.p_common_measure.b .nil Zs (Za (pv 0) (Za (pv 3) Zb))))
   (Zf (Gy (i:=0) Xm.nd rfl (Or.inl rfl) (pv 4) Zdc)
   (Zh (Gy (i:=2) Xm.nd rfl (Or.inl rfl) (Zi Kv (pv 3) (pv 4)) Zmx)))))
   (Zh (Zr (X7 (Za (pv 0) (Za (pv 2) Zb))))))),?_⟩
  have f0:∀ f∈fs,0 < f:=λf h=>(hf f h).1
  refine Z4 λnxC hnxC=>?_
  refine hnxC _ _ ?_
  try dsimp only [Zv]
  show tSeq (tFor _ _ _) _ _ _ _
  refine Zz (λσ H'=>H'=H/\∃ v3 v4,σ=[some (.int (lowN N (prd fs)).1),some (.ref a),some (.int (lowN N (prd fs)).2),v3,v4]) (λnx hnx=>?_) ?_
  ·refine ⟨_,rfl,a,rfl,⟨_,SqL.of ha⟩,?_⟩
   refine Jn (xs:=fs.map nV) (λi σ H'=>H'=H/\∃ v3 v4,σ=[some (.int ((fs.take i).foldl loS (N,1)).1),some (.ref a),some (.int ((fs.take i).foldl loS (N,1)).2),v3,v4]) ⟨rfl,_,_,rfl⟩ ?_ ?_ ?_
   ·rintro i σ H' _ ⟨rfl,v3,v4,rfl⟩
    exact SqL.of ha
   ·rintro i x σ H' hx ⟨rfl,v3,v4,rfl⟩
    obtain ⟨f,hfi,rfl⟩:=Yf hx
    have hi:i < fs.length:=(List.getElem?_eq_some_iff.mp hfi).1
    have hv:=Fz hN f0 i (Nat.le_of_lt hi)
    have hp0:=Ft f0 i (Nat.le_of_lt hi)
    have hle:=hv.le hN hp0
    have hpl:=Zhm (k:=100) (λf h=>(hf f h).2) i (Nat.le_of_lt hi)
    have hpb:100 ^ i < 2 ^ 3000:=Nat.lt_of_le_of_lt (Nat.pow_le_pow_right (by decide) (show i<=200 by omega)) (by decide +kernel)
    rw [Zfb hfi]
    generalize (fs.take i).foldl loS (N,1)=S at *
    obtain ⟨q1,q2⟩:=hf f (List.mem_of_getElem? hfi)
    have g0:0 < Nat.gcd S.1 f:=Nat.gcd_pos_of_pos_left _ hv.p1
    have g1:Nat.gcd S.1 f<=f:=Nat.le_of_dvd q1 (Nat.gcd_dvd_right _ _)
    have v100:∀ n:Nat,n<=100->n < 2 ^ 3000:=λn hn=>Nat.lt_of_le_of_lt hn (by decide +kernel)
    have g2:=v100 _ (Nat.le_trans g1 q2)
    have dv:Ud (S.1:Int) (Nat.gcd S.1 f:Nat):=divS g0 g2
    have dv2:Ud (f:Int) (Nat.gcd S.1 f:Nat):=divS g0 g2
    dsimp only [Zv]
    refine Z4 λnxC hnxC=>?_
    refine ⟨_,rfl,_,rfl,S.1,f,rfl,?_⟩
    refine hnxC _ _ ?_
    try dsimp only [Zv]
    refine Z4 λnxC hnxC=>?_
    refine ⟨_,rfl,_,rfl,_,_,rfl,rfl,dv,?_⟩
    refine hnxC _ _ ?_
    refine ⟨_,rfl,_,rfl,_,rfl,_,_,rfl,rfl,dv2,_,_,rfl,rfl,?_,?_⟩
    ·exact mulS (m:=S.2) (n:=f / Nat.gcd S.1 f) (Nat.lt_of_le_of_lt hle.2 (Nat.lt_of_le_of_lt hpl hpb)) (v100 _ (Nat.le_trans (Nat.div_le_self _ _) q2))
    ·exact ⟨rfl,_,_,rfl⟩
   ·rintro σ H' ⟨rfl,v3,v4,rfl⟩
    rw [List.length_map,List.take_length,Zpo hN f0]
    exact hnx _ _ ⟨rfl,_,_,rfl⟩
  ·rintro σ H' ⟨rfl,v3,v4,rfl⟩
   refine ⟨_,rfl,_,rfl,(by show 2<=sizeLine; rw [sizeLine_eq]; decide),λp hp=>?_⟩
   exact k p hp
theorem Ww:FnScope ["tent","worths","word","turns","lowest","crossed","factors"] ["tent","worths","word"] (Zg Zeo):=⟨rfl,rfl,rfl,by decide +kernel,rfl,by decide +kernel,by decide +kernel⟩
theorem Zj6 (T:Txt w K mg t):FnOk P w K mg base (CXr P w) 8 t.f_worth t.d_worth ["tent","worths","word"] (Zbm t.C_Tent):=by
  refine T.p_worth.F.okR Ww (λvs H Q E h=>?_) (λcdv A outer s H vs Q E hr h=>?_)
  · obtain ⟨p,d,a,M,ns,ks,g,ws,rfl,_⟩:=h
    rfl
  · obtain ⟨p,d,a,M,ns,ks,g,ws,rfl,ta,td,h64,wa,sw,bd,ha,hwl,hP,k⟩:=h
    have hu:=Wp hr
    refine ⟨_,(Zf (Zu (i:=3) Ww.nd rfl (Or.inl rfl) (Zo (G0 T) (hr.mono (by decide)) rfl T.p_letters.g T.p_letters.F.kp T.p_letters.b .nil Zs (Za (pv 0) (Za (pv 2) Zb))))
      (Zf (Zu (i:=4) Ww.nd rfl (Or.inr rfl) (Zo (Kw T) (hr.mono (by decide)) rfl T.p_lowest_worths.g T.p_lowest_worths.F.kp T.p_lowest_worths.b .nil Zs (Za (pv 0) (Za (pv 1) Zb))))
      (Zf (Xj (ts:=["place"]) (fv:=[("lowest",4),("tent",0)]) (i:=5) ⟨rfl,by decide +kernel,by decide +kernel,Yk (by rfl),⟨⟨rfl,rfl,Or.inl rfl⟩,⟨rfl,rfl,Or.inl rfl⟩,trivial⟩⟩ rfl Ww.nd rfl rfl (by rfl) (Yp (pv 2)) (λ_ _ _ _=>(Zq (i:=0) (show List.Nodup (["place","lowest","tent"]:List Str) from by decide +kernel) rfl (Or.inl rfl) (Or.inr rfl))) (λ_ _ _ _=>Yu) (λ_ _ _=>rfl) (λ_ _ _ _ _ _=>Ys (Fu hu (pv 1) (Xf (pv 2) T.cl_Tent T.p_Tent_seam_at.m (Vd T) (hr.mono (by decide)) T.p_Tent_seam_at.b .nil Zs (Za (pv 0) Zb)) (λ_ _=>rfl))))
      (Zf (Xj (ts:=["parts","part"]) (fv:=[]) (i:=6) ⟨rfl,by decide +kernel,by decide +kernel,Yk (by rfl),trivial⟩ rfl Ww.nd rfl rfl (by rfl) (Yp (pv 5)) (λ_ _ _ _=>(Zq (i:=0) (show List.Nodup (["parts","part"]:List Str) from by decide +kernel) rfl (Or.inl rfl) (Or.inr rfl))) (λ_ _ _ _=>Yu) (λ_ _ _=>rfl) (λ_ _ _ _ _ _=>Zhu rfl rfl (Ze4 K (pv 0)) (Zq (i:=1) (show List.Nodup (["parts","part"]:List Str) from by decide +kernel) rfl (Or.inl rfl) (Or.inr rfl)) Yu (pv 1)))
      (Zh (Zr (Zo (Fv T) (hr.mono (by decide)) rfl T.p_lowest_over.g T.p_lowest_over.F.kp T.p_lowest_over.b .nil Zs (Za (Zi Zml (Zo (G1 T) (hr.mono (by decide)) rfl T.p_diagonal_sum.g T.p_diagonal_sum.F.kp T.p_diagonal_sum.b .nil Zs (Za (pv 5) (Za (pv 3) Zb))) Zd) (Za (pv 6) Zb))))))))),?_⟩
    have hMl:=td.len
    have h0:0 < ws.length:=List.length_pos_iff.mpr hP.ne
    have inK:∀ q∈ws,ns.getD q 0∈ks/\∃ y,ns[q]?=some y/\ns.getD q 0=y:=λq hq=>by
      obtain ⟨m,hm⟩:=hP.has q hq
      have hlt:q < ns.length:=by rw [hMl]; exact (List.getElem?_eq_some_iff.mp hm).1
      have e:=List.getElem?_eq_getElem hlt
      have e2:ns.getD q 0=ns[q]:=by rw [List.getD_eq_getElem?_getD,e]; rfl
      exact ⟨by rw [e2]; exact (sw.mem _).mpr ⟨q,m,hm,e⟩,_,e,e2⟩
    refine Z4 λnxC hnxC=>?_
    refine ⟨_,rfl,_,rfl,p,a,M,ns,ws,rfl,ta,hMl.symm,ha,by omega,hP,λH1 s1=>?_⟩
    refine hnxC _ _ ?_
    try dsimp only [Zv]
    refine Z4 λnxC hnxC=>?_
    refine ⟨_,rfl,_,rfl,p,d,M,ns,ks,g,rfl,ta.same s1,td,h64,wa.same s1,sw,λx hx=>⟨(bd x hx).1,(bd x hx).2.1,Nat.lt_of_le_of_lt (bd x hx).2.2.1 (by decide +kernel)⟩,λlo H2 s2 hlo w2=>?_⟩
    refine hnxC _ _ ?_
    try dsimp only [Zv]
    have s02:=s1.trans s2
    obtain ⟨ad,e1,e2⟩:=id w2
    refine Z4 λnxC hnxC=>?_
    refine ⟨_,rfl,a,rfl,⟨_,SqL.of (s02 _ _ ha)⟩,λD hD=>?_⟩
    refine Yt (xs:=ws.map nV) (λi σ H3=>∃ v,σ=[v,some (.ref lo),some (.ref p)]/\Same H2 H3/\H3 D=some (.lst (((ws.map λq=>ad (ns.getD q 0)).take i).map V.ref))) ⟨none,rfl,Same.new hD,Zc⟩ ?_ ?_ ?_
    · rintro i σ H3 _ ⟨v,rfl,sm,h3⟩
      exact SqL.of (sm _ _ (s02 _ _ ha))
    · rintro i y σ H3 hy ⟨v,rfl,sm,h3⟩
      obtain ⟨q,hq,rfl⟩:=Yf hy
      dsimp only [Zv,tYes]
      rw [if_pos rfl]
      obtain ⟨kq,yq,hyq,eyq⟩:=inK q (List.mem_of_getElem? hq)
      have hlt:=(List.getElem?_eq_some_iff.mp hyq).1
      have ta3:=(ta.same s02).same sm
      obtain ⟨dx,cl,na,sp,mt',o,f,b⟩:=id ta3
      have g3:=Znj (.inl (sm _ _ e1)) kq
      rw [eyq] at g3
      refine ⟨_,rfl,_,rfl,p,dx,_,rfl,b.ins,Yq _ _ _ _,_,rfl,p,M,ns,(q:Int),rfl,ta3,λi' y' ei ey=>?_,λz=>absurd (show (0:Int)<=q/\(q:Int) < ns.length by omega) z⟩
      have:i'=q:=by omega
      subst this
      rw [hyq] at ey
      cases ey
      refine ⟨lo,_,rfl,g3,_,h3,?_,_,rfl,Same.add sm hD,?_⟩
      · rw [List.length_map,List.length_take,List.length_map]; exact Zx (by omega)
      · rw [Zc,List.take_add_one,List.getElem?_map,hq,List.map_append]
        show _=some (HO.lst (_ ++ [V.ref (ad (ns.getD i' 0))]))
        rw [eyq]
    rintro σ H3 ⟨v,rfl,s3,h3⟩
    refine hnxC _ _ ?_
    try dsimp only [Zv]
    rw [List.length_map,List.take_of_length_le (by rw [List.length_map]; exact Nat.le_refl _)] at h3
    have hF3:FrAt H3 D (crL (lowG g) ns ws):=by
      refine ⟨_,h3,by rw [List.length_map,Zfn],λi q v hq hv=>?_⟩
      unfold crL at hv
      rw [List.getElem?_map] at hq hv
      cases e:ws[i]? with
      | none=>rw [e] at hv; cases hv
      | some z =>
        rw [e] at hq hv
        cases hq; cases hv
        exact s3 _ _ (e2 _ (inK z (List.mem_of_getElem? e)).1)
    have s03:=s02.trans s3
    have hcl:=Zfn (h:=lowG g) (ns:=ns) (ws:=ws)
    have hcb:∀ v∈crL (lowG g) ns ws,1<=v.1/\1<=v.2/\v.1<=100/\v.2<=100:=λv hv=>by
      obtain ⟨q,hq,rfl⟩:=List.mem_map.mp hv
      obtain ⟨b1,b2,b3,b4⟩:=bd _ (inK q hq).1
      have l1:=Fy b1 b2
      have l2:=Zfa (g (ns.getD q 0)).1 (g (ns.getD q 0)).2
      exact ⟨l1.p1,l1.p2,Nat.le_trans l2.1 b3,Nat.le_trans l2.2 b4⟩
    have hwz:wz (lowG g) M ns ws=(crL (lowG g) ns ws).zip ((letL M ws).map tuB):=rfl
    unfold wor at k
    rw [hwz] at k
    have hll:=Zkk M ws h0
    have hlr:=Zmu M ws
    generalize crL (lowG g) ns ws=vs at *
    generalize letL M ws=ys at *
    obtain ⟨qs,f1,f2,f3⟩:=id hF3
    refine Z4 λnxC hnxC=>?_
    refine ⟨_,rfl,D,rfl,⟨_,SqL.of f1⟩,λD2 hD2=>?_⟩
    refine Yt (xs:=qs.map V.ref) (λi σ H4=>∃ v v',σ=[v,v']/\Same H3 H4/\H4 D2=some (.lst (((vs.take i).flatMap λv=>[v.1,v.2]).map nV))) ⟨none,none,rfl,Same.new hD2,Zc⟩ ?_ ?_ ?_
    · rintro i σ H4 _ ⟨v,v',rfl,sm,h4⟩
      exact SqL.of (sm _ _ f1)
    · rintro i x σ H4 hx ⟨v,v',rfl,sm,h4⟩
      obtain ⟨q,hq,rfl⟩:=Yf hx
      have hi:i < vs.length:=by rw [<- f2]; exact (List.getElem?_eq_some_iff.mp hq).1
      have hvi:=List.getElem?_eq_getElem hi
      have hq3:=f3 i q _ hq hvi
      have ht:(vs.take (i + 1)).flatMap (λv=>[v.1,v.2])=(vs.take i).flatMap (λv=>[v.1,v.2]) ++ [vs[i].1,vs[i].2]:=by
        rw [List.take_add_one,hvi,List.flatMap_append]; simp
      have hfl:((vs.take i).flatMap λv=>[v.1,v.2]).length=2 * i:=by
        rw [K4,List.length_take]
        omega
      dsimp only [Zv,tYes]
      rw [if_pos rfl]
      refine ⟨_,rfl,q,rfl,⟨_,SqT.of (sm _ _ hq3)⟩,?_⟩
      refine Zc8 (xs:=[V.int vs[i].1,V.int vs[i].2]) (λj σ H5=>∃ v',σ=[some (.ref q),v']/\Same H3 H5/\H5 D2=some (.lst (((vs.take i).flatMap λv=>[v.1,v.2]).map nV ++ ([V.int vs[i].1,V.int vs[i].2]).take j))) ⟨v',rfl,sm,by rw [h4,List.take_zero,List.append_nil]⟩ ?_ ?_ ?_
      · rintro j σ H5 _ ⟨v',rfl,sm,h5⟩
        exact SqT.of (sm _ _ hq3)
      · rintro j x σ H5 hx ⟨v',rfl,sm,h5⟩
        dsimp only [Zv,tYes]
        rw [if_pos rfl]
        refine ⟨_,rfl,_,h5,?_,_,rfl,Same.add sm hD2,?_⟩
        · rw [List.length_append,List.length_map,hfl,List.length_take]
          exact Zx (by have:([V.int vs[i].1,V.int vs[i].2]).length=2:=rfl; omega)
        · rw [Zc,List.take_add_one,hx,<- List.append_assoc]
          rfl
      · rintro σ H5 ⟨v',rfl,sm,h5⟩
        refine ⟨_,_,rfl,sm,?_⟩
        rw [h5,List.take_length,ht,List.map_append]
        rfl
    rintro σ H4 ⟨v,v',rfl,s4,h4⟩
    refine hnxC _ _ ?_
    try dsimp only [Zv]
    rw [List.length_map,f2,List.take_length] at h4
    have hvl:vs.length=ys.length:=by omega
    have htr:=Znm (l:=vs.zip (ys.map tuB)) (λq hq=>by
      have:=hcb _ (List.of_mem_zip hq).1
      exact ⟨this.1,this.2.1⟩)
    have hbt:tr (tab (vs.zip (ys.map tuB))) < 2 ^ 1000:=by
      have hbnd:=F1 (k:=100) (vs.zip (ys.map tuB)) one 1 (λq hq=>(hcb _ (List.of_mem_zip hq).1).2.2) (by decide)
      have hb2:1 * (2 * 100) ^ (vs.zip (ys.map tuB)).length<=200 ^ 100:=by
        rw [Nat.one_mul]
        exact Nat.pow_le_pow_right (by decide) (by rw [List.length_zip]; omega)
      have:(200 ^ 100 + 200 ^ 100:Nat) < 2 ^ 1000:=by decide +kernel
      unfold tr
      exact Nat.lt_of_le_of_lt (Nat.add_le_add (Nat.le_trans hbnd.1 hb2) (Nat.le_trans hbnd.2.2.2 hb2)) this
    refine ⟨_,rfl,_,rfl,D,vs,ys,rfl,hF3.same s4,hvl,by omega,λv hv=>(hcb v hv).2.2,hlr,λH5 s5=>?_⟩
    have hdt:=Zi2 vs (ys.map tuB) (by rw [List.length_map]; exact hvl)
    rw [hdt] at k
    generalize tr (tab (vs.zip (ys.map tuB)))=tN at *
    refine ⟨_,_,rfl,rfl,⟨by decide,?_⟩,?_⟩
    · have:=F3 (j:=(tN:Int)) (k:=1000) (by rw [Int.natAbs_natCast]; exact hbt) (by decide)
      show (_:Int) * 2<=2 ^ 27
      omega
    refine ⟨_,rfl,D2,tN * tN,_,?_,s5 _ _ h4,Nat.mul_pos htr htr,?_,?_,?_,λr hr5=>?_⟩
    · show [V.int ((tN:Int) ^ 2),V.ref D2]=[V.int ((tN * tN:Nat):Int),V.ref D2]
      rw [Int.natCast_mul,Int.pow_succ,Int.pow_succ,Int.pow_zero,Int.one_mul]
    · calc tN * tN < 2 ^ 1000 * 2 ^ 1000:=Nat.mul_lt_mul'' hbt hbt
        _=2 ^ 2000:=by rw [<- Nat.pow_add]
        _<=2 ^ 3000:=Nat.pow_le_pow_right (by decide) (by decide)
    · intro f hf
      obtain ⟨v,hv,hf⟩:=List.mem_flatMap.mp hf
      obtain ⟨c1,c2,c3,c4⟩:=hcb v hv
      simp only [List.mem_cons,List.not_mem_nil,or_false] at hf
      rcases hf with rfl | rfl
      · exact ⟨c1,c3⟩
      · exact ⟨c2,c4⟩
    · rw [K4]; omega
    · exact k r _ ((s03.trans s4).trans (s5.trans (Same.new hr5))) Zc
end
end KT
namespace KT
open PySem L2
theorem Wx {H:Hp} {p:Addr} {a b:HO}:upd (upd H p a) p b=upd H p b:=by
 funext c
 by_cases z:c=p
 ·subst z; rw [Zc,Zc]
 ·rw [Ze z,Ze z,Ze z]
noncomputable def Wh (te th po wo:V):List (Str × V):=putF "worths" wo (putF "pools" po (putF "threads" th (putF "tent" te [])))
noncomputable def Wk (be sc st un:Addr):List (Str × V):=putF "undone" (.ref un) (putF "standing" (.ref st) (putF "scene" (.ref sc) (putF "began" (.ref be) [])))
structure HallNew (CT CS CH:Addr) (H:Hp) (p:Addr) (M:List (Option Nat)) (ns:List Int) (dx be sc st un dxs th po wo:Addr) (ks:List Int):Prop where
 ins:H p=some (.ins CH dx (Wk be sc st un))
 tent:Zy CT H be M ns
 scn:H sc=some (.ins CS dxs (Wh (.ref be) (.ref th) (.ref po) (.ref wo)))
 thr:H th=some (.dK [])
 poo:H po=some (.dK [])
 wor:WAt H wo ks λ_=>(1,1)
 sw:SwK M ns ks
 sta:H st=some (.lst [])
 und:H un=some (.lst [])
noncomputable def OthP (p:Addr) (H H':Hp):Prop:=∀ b u,b≠p->H b=some u->H' b=some u
theorem OthP.trans {p:Addr} {H H1 H':Hp} (s:OthP p H H1) (s1:OthP p H1 H'):OthP p H H':=λb u hb e=>s1 b u hb (s b u hb e)
theorem OthP.of {p:Addr} {H H':Hp} (s:Same H H'):OthP p H H':=λb u _ e=>s b u e
theorem OthP.upd {p:Addr} {H:Hp} {o:HO}:OthP p H (upd H p o):=λb u hb e=>by rw [Ze hb]; exact e
theorem Xe {H H':Hp} {p C dx:Addr} {fs:List (Str × V)} (hp:H p=some (.ins C dx fs)) (s:OthP p H H') {b:Addr} {u:HO} (e:H b=some u) (hu:∀ C dx fs,u≠.ins C dx fs):H' b=some u :=
 s b u (λz=>by rw [z,hp] at e; exact hu _ _ _ (Option.some.inj e).symm) e
theorem Y2.oth {H H':Hp} {p C dx r:Addr} {fs:List (Str × V)} {ns:List Int} (h:Y2 H r ns) (hp:H p=some (.ins C dx fs)) (s:OthP p H H'):Y2 H' r ns:=by
 obtain ⟨ts,h1,h2,h3⟩:=h
 exact ⟨ts,Xe hp s h1 (λ_ _ _ z=>nomatch z),h2,λk q e=>Xe hp s (h3 k q e) (λ_ _ _ z=>nomatch z)⟩
theorem Zy.oth {C0:Addr} {H H':Hp} {p C dx x:Addr} {fs:List (Str × V)} {M:List (Option Nat)} {ns:List Int} (h:Zy C0 H x M ns) (hp:H p=some (.ins C dx fs)) (hx:x≠p) (s:OthP p H H'):Zy C0 H' x M ns:=by
 obtain ⟨dt,cl,na,sp,mt,o,f,b⟩:=h
 exact ⟨dt,cl,na,sp,mt,o,f,s _ _ hx b.ins,b.rows.oth hp s,Xe hp s b.names (λ_ _ _ z=>nomatch z),Xe hp s b.spots (λ_ _ _ z=>nomatch z),Xe hp s b.mates (λ_ _ _ z=>nomatch z),λy hy=>Xe hp s (b.at' y hy) (λ_ _ _ z=>nomatch z)⟩
theorem WAt.oth {H H':Hp} {p C dx d:Addr} {fs:List (Str × V)} {ks:List Int} {g:Int->Nat × Nat} (h:WAt H d ks g) (hp:H p=some (.ins C dx fs)) (s:OthP p H H'):WAt H' d ks g:=by
 obtain ⟨ad,h1,h2⟩:=h
 exact ⟨ad,Xe hp s h1 (λ_ _ _ z=>nomatch z),λx hx=>Xe hp s (h2 x hx) (λ_ _ _ z=>nomatch z)⟩
noncomputable def Za5 (C:Addr):Sp:=λvs H Q _=>∃ (p dx:Addr) (te th po wo:V),vs=[.ref p,te,th,po,wo]/\H p=some (.ins C dx [])/\Q .non (upd H p (.ins C dx (Wh te th po wo)))
noncomputable def Zbx (CT CS CH:Addr):Sp:=λvs H Q _=>∃ (p r dx:Addr) (M:List (Option Nat)) (ns:List Int),vs=[.ref p,.ref r]/\H p=some (.ins CH dx [])/\Y2 H r ns/\TD M ns/\ns.length < 64 /\
 ∀ (H':Hp),OthP p H H'->(∃ be sc st un dxs th po wo ks,HallNew CT CS CH H' p M ns dx be sc st un dxs th po wo ks/\H st=none)->Q .non H'
section
variable {P:Program} {w:World} {K:PySem.W.Frag} {mg:Str->Option Value} {base:Heap} {t:Adr}
theorem Zba:FnScope ["self","tent","threads","pools","worths"] ["self","tent","threads","pools","worths"] (Zg U4):=⟨rfl,rfl,rfl,by decide +kernel,rfl,by decide +kernel,by decide +kernel⟩
theorem Um (T:Txt w K mg t):FnOk P w K mg base (CXr P w) 1 t.f_Scene_init t.d_Scene_init ["self","tent","threads","pools","worths"] (Za5 t.C_Scene):=by
 refine T.p_Scene_init.F.okR Zba (λvs H Q E h=>?_) (λcdv A outer s H vs Q E hr h=>?_)
 ·obtain ⟨p,dx,te,th,po,wo,rfl,_⟩:=h
  rfl
 ·obtain ⟨p,dx,te,th,po,wo,rfl,hp,k⟩:=h
  refine ⟨_,(Zf (Xs (pv 0) (pv 1) rfl)
   (Zf (Xs (pv 0) (pv 2) rfl)
   (Zf (Xs (pv 0) (pv 3) rfl)
   (Zh (Xs (pv 0) (pv 4) rfl))))),?_⟩
  have l1:=Y7 "tent" te []
  have l2:=Y7 "threads" th (putF "tent" te [])
  have l3:=Y7 "pools" po (putF "threads" th (putF "tent" te []))
  rw [List.length_nil] at l1
  refine ⟨_,rfl,_,rfl,p,_,dx,_,rfl,hp,T.cl_Scene,T.a_Scene_tent,by decide,?_⟩
  refine ⟨_,rfl,_,rfl,p,_,dx,_,rfl,Zc,T.cl_Scene,T.a_Scene_threads,by omega,?_⟩
  refine ⟨_,rfl,_,rfl,p,_,dx,_,rfl,Zc,T.cl_Scene,T.a_Scene_pools,by omega,?_⟩
  refine ⟨_,rfl,_,rfl,p,_,dx,_,rfl,Zc,T.cl_Scene,T.a_Scene_worths,by omega,?_⟩
  rw [Wx,Wx,Wx]
  exact k
theorem Zb5:FnScope ["self","rows"] ["self","rows"] (Zg Ke):=⟨rfl,rfl,rfl,by decide +kernel,rfl,by decide +kernel,by decide +kernel⟩
theorem Zc3 (T:Txt w K mg t):FnOk P w K mg base (CXr P w) 5 t.f_Hall_init t.d_Hall_init ["self","rows"] (Zbx t.C_Tent t.C_Scene t.C_Hall):=by
 refine T.p_Hall_init.F.okR Zb5 (λvs H Q E h=>?_) (λcdv A outer s H vs Q E hr h=>?_)
 ·obtain ⟨p,r,dx,M,ns,rfl,_⟩:=h
  rfl
 ·obtain ⟨p,r,dx,M,ns,rfl,hp,hr1,td,h64,k⟩:=h
  refine ⟨_,(Zf (Xs (pv 0) (Vp T.mk_Tent (Oe T) (hr.mono (by decide)) rfl T.gC_Tent T.p_Tent_init.b .nil Zs (Za (pv 1) Zb)) rfl)
   (Zf (Xs (pv 0) (Vp T.mk_Scene (Um T) (hr.mono (by decide)) rfl T.gC_Scene T.p_Scene_init.b .nil Zs (Za (Yr (pv 0) rfl) (Za Qz (Za Qz (Za (Zo (Fx T) (hr.mono (by decide)) rfl T.p_even_worths.g T.p_even_worths.F.kp T.p_even_worths.b .nil Zs (Za (Yr (pv 0) rfl) Zb)) Zb))))) rfl)
   (Zf (Xs (pv 0) (Xd Zb) rfl)
   (Zh (Xs (pv 0) (Xd Zb) rfl))))),?_⟩
  refine ⟨_,rfl,?_⟩
  intro x dt hx hdt hne
  have s0:Same H (upd (upd H dt (.own x)) x (.ins t.C_Tent dt [])):=Same.add (Same.new hdt) hx
  refine ⟨x,r,dt,M,ns,rfl,Zc,hr1.same s0,td,by omega,λH1 old ta=>⟨rfl,?_⟩⟩
  have s1:Same H H1:=λb u e=>old b u (Zj e hx) (s0 b u e)
  refine ⟨_,rfl,p,_,dx,_,rfl,s1 _ _ hp,T.cl_Hall,T.a_Hall_began,by decide,?_⟩
  have l1:=Y7 "began" (.ref x) []
  rw [List.length_nil] at l1
  have hp1:=s1 _ _ hp
  have nx:x≠p:=λz=>by rw [z,hp] at hx; cases hx
  have o2:OthP p H1 (upd H1 p (.ins t.C_Hall dx (putF "began" (.ref x) []))):=.upd
  have hp2:(upd H1 p (.ins t.C_Hall dx (putF "began" (.ref x) []))) p=some (.ins t.C_Hall dx (putF "began" (.ref x) [])):=Zc
  have ta2:=ta.oth hp1 nx o2
  have o02:OthP p H _:=(OthP.of s1).trans o2
  generalize upd H1 p (.ins t.C_Hall dx (putF "began" (.ref x) []))=H2 at o2 hp2 ta2 o02 ⊢
  clear o2 ta old s1 s0 hp1 hdt hne hr1
  have lk1:(putF "began" (.ref x) []).lookup ("began":Str)=some (.ref x):=by rw [Z5,if_pos rfl]
  refine ⟨_,rfl,p,_,dx,_,_,rfl,hp2,T.cl_Hall,T.a_Hall_began,lk1,?_⟩
  intro th hth po hpo
  obtain ⟨hpt,hpo'⟩:=Wt hpo
  have s3:Same H2 (upd (upd H2 th (.dK [])) po (.dK [])):=Same.add (Same.new hth) hpo'
  have ht3:(upd (upd H2 th (.dK [])) po (.dK [])) th=some (.dK []):=by rw [Ze (Ne.symm hpt),Zc]
  have hq3:(upd (upd H2 th (.dK [])) po (.dK [])) po=some (.dK []):=Zc
  generalize upd (upd H2 th (.dK [])) po (.dK [])=H3 at s3 ht3 hq3 ⊢
  refine ⟨_,rfl,p,_,dx,_,_,rfl,s3 _ _ hp2,T.cl_Hall,T.a_Hall_began,lk1,x,M,ns,rfl,ta2.same s3,td,h64,λwo H4 ks s4 hwo w4 sw=>?_⟩
  intro sc dxs hsc hdxs hne2
  have s5:Same H4 (upd (upd H4 dxs (.own sc)) sc (.ins t.C_Scene dxs [])):=Same.add (Same.new hdxs) hsc
  refine ⟨sc,dxs,_,_,_,_,rfl,Zc,rfl,?_⟩
  rw [Wx]
  have s6:Same H4 (upd (upd H4 dxs (.own sc)) sc (.ins t.C_Scene dxs (Wh (.ref x) (.ref th) (.ref po) (.ref wo)))):=Same.add (Same.new hdxs) hsc
  have hc6:(upd (upd H4 dxs (.own sc)) sc (.ins t.C_Scene dxs (Wh (.ref x) (.ref th) (.ref po) (.ref wo)))) sc=some (.ins t.C_Scene dxs (Wh (.ref x) (.ref th) (.ref po) (.ref wo))):=Zc
  generalize upd (upd H4 dxs (.own sc)) sc (.ins t.C_Scene dxs (Wh (.ref x) (.ref th) (.ref po) (.ref wo)))=H6 at s6 hc6 ⊢
  clear s5
  have s46:=s4.trans s6
  have s26:=s3.trans s46
  have hp6:=s26 _ _ hp2
  have nsc:sc≠p:=λz=>by rw [z,(s3.trans s4) _ _ hp2] at hsc; cases hsc
  refine ⟨_,rfl,p,_,dx,_,rfl,hp6,T.cl_Hall,T.a_Hall_scene,by omega,?_⟩
  have l2:=Y7 "scene" (.ref sc) (putF "began" (.ref x) [])
  have o7:OthP p H6 (upd H6 p (.ins t.C_Hall dx (putF "scene" (.ref sc) (putF "began" (.ref x) [])))):=.upd
  have hp7:(upd H6 p (.ins t.C_Hall dx (putF "scene" (.ref sc) (putF "began" (.ref x) [])))) p=some (.ins t.C_Hall dx (putF "scene" (.ref sc) (putF "began" (.ref x) []))):=Zc
  have ta7:=(ta2.same s26).oth hp6 nx o7
  have ht7:=Xe hp6 o7 (s46 _ _ ht3) (λ_ _ _ z=>nomatch z)
  have hq7:=Xe hp6 o7 (s46 _ _ hq3) (λ_ _ _ z=>nomatch z)
  have w7:=(w4.same s6).oth hp6 o7
  have hc7:=o7 _ _ nsc hc6
  have o07:OthP p H _:=(o02.trans (.of s26)).trans o7
  generalize upd H6 p (.ins t.C_Hall dx (putF "scene" (.ref sc) (putF "began" (.ref x) [])))=H7 at o7 hp7 ta7 ht7 hq7 w7 hc7 o07 ⊢
  clear o7 hp6 s26 s46 s6 hc6 s4 w4 s3 ht3 hq3 ta2 hp2 o02 hth hpo hpo' hwo hsc hdxs
  refine ⟨Nat.zero_le _,λst hst=>?_⟩
  have hst0:H st=none:=by
   cases e:H st with
   | none=>rfl
   | some u =>
    rw [o07 _ _ (λz=>by rw [z,hp7] at hst; cases hst) e] at hst
    cases hst
  have s8:Same H7 (upd H7 st (.lst [])):=Same.new hst
  have hs8:(upd H7 st (.lst [])) st=some (.lst []):=Zc
  generalize upd H7 st (.lst [])=H8 at s8 hs8 ⊢
  have hp8:=s8 _ _ hp7
  refine ⟨_,rfl,p,_,dx,_,rfl,hp8,T.cl_Hall,T.a_Hall_standing,by omega,?_⟩
  have l3:=Y7 "standing" (.ref st) (putF "scene" (.ref sc) (putF "began" (.ref x) []))
  have o9:OthP p H8 (upd H8 p (.ins t.C_Hall dx (putF "standing" (.ref st) (putF "scene" (.ref sc) (putF "began" (.ref x) []))))):=.upd
  have hp9:(upd H8 p (.ins t.C_Hall dx (putF "standing" (.ref st) (putF "scene" (.ref sc) (putF "began" (.ref x) []))))) p=some (.ins t.C_Hall dx (putF "standing" (.ref st) (putF "scene" (.ref sc) (putF "began" (.ref x) [])))):=Zc
  have ta9:=(ta7.same s8).oth hp8 nx o9
  have ht9:=Xe hp8 o9 (s8 _ _ ht7) (λ_ _ _ z=>nomatch z)
  have hq9:=Xe hp8 o9 (s8 _ _ hq7) (λ_ _ _ z=>nomatch z)
  have hs9:=Xe hp8 o9 hs8 (λ_ _ _ z=>nomatch z)
  have w9:=(w7.same s8).oth hp8 o9
  have hc9:=o9 _ _ nsc (s8 _ _ hc7)
  have o09:OthP p H _:=(o07.trans (.of s8)).trans o9
  generalize upd H8 p (.ins t.C_Hall dx (putF "standing" (.ref st) (putF "scene" (.ref sc) (putF "began" (.ref x) []))))=H9 at o9 hp9 ta9 ht9 hq9 hs9 w9 hc9 o09 ⊢
  clear o9 hp8 s8 hs8 hp7 ta7 ht7 hq7 w7 hc7 o07 hst
  refine ⟨Nat.zero_le _,λun hun=>?_⟩
  have sA:Same H9 (upd H9 un (.lst [])):=Same.new hun
  have hsA:(upd H9 un (.lst [])) un=some (.lst []):=Zc
  generalize upd H9 un (.lst [])=HA at sA hsA ⊢
  have hpA:=sA _ _ hp9
  refine ⟨_,rfl,p,_,dx,_,rfl,hpA,T.cl_Hall,T.a_Hall_undone,by omega,?_⟩
  have oB:OthP p HA (upd HA p (.ins t.C_Hall dx (Wk x sc st un))):=.upd
  refine k _ ((o09.trans (.of sA)).trans oB) ⟨x,sc,st,un,dxs,th,po,wo,ks,⟨Zc,(ta9.same sA).oth hpA nx oB,oB _ _ nsc (sA _ _ hc9),Xe hpA oB (sA _ _ ht9) (λ_ _ _ z=>nomatch z),Xe hpA oB (sA _ _ hq9) (λ_ _ _ z=>nomatch z),(w9.same sA).oth hpA oB,sw,Xe hpA oB (sA _ _ hs9) (λ_ _ _ z=>nomatch z),Xe hpA oB hsA (λ_ _ _ z=>nomatch z)⟩,hst0⟩
noncomputable def figS (i:Int):Str:=Txt.join (Str.ofString "") [(Str.ofString (toString i))]
noncomputable def Zfy:Sp:=λvs H Q _=>∃ i:Int,vs=[.int i]/\0<=i/\i < 1000000000000000000000000000000000000000000000000000000000000/\∀ H',Same H H'->Q (.str (figS i)) H'
noncomputable def mdL (x y:Str):List Bool:=x.cps.toList.map λc=>Txt.contains y ⟨#[c]⟩
noncomputable def Zfv:Sp:=λvs H Q _=>∃ x y:Str,vs=[.str x,.str y]/\x.cps.all (· < 128)=true/\x.cps.size<=900/\∀ H',Same H H'->Q (.bl ((mdL x y).all id)) H'
theorem Zp3:(10:Int) ^ 60=1000000000000000000000000000000000000000000000000000000000000:=by decide
theorem Zox:(2:Nat) ^ 200=1606938044258990275541962092341162602522202993782792835301376:=by decide
theorem Zfg {i:Int} (h0:0<=i) (h1:i < 1000000000000000000000000000000000000000000000000000000000000):(Str.ofString (toString i)).length<=60:=PyProof.Rows.toString_length_le h0 (by decide) (by rw [Zp3]; exact h1)
theorem Zkh {x:Str} {g:TG} {tt:TT} {tb:TB} {R:St->Hp->Prop} {σ:St} {H:Hp} (Pv:Nat->St->Hp->Prop) (h0:Pv 0 σ H)
  (hs:∀ (i:Nat) c σ H,x.cps[i]?=some c->Pv i σ H->g (.str ⟨#[c]⟩) σ H λσ2 H2=>tt σ2 H2 λb H3=>if b=true then tb σ2 H3 (Pv (i + 1)) else Pv (i + 1) σ2 H3) (hd:∀ σ H,Pv x.cps.size σ H->R σ H):Ws (Its x) g tt tb R σ H:=by
 refine ⟨λi m σ H=>m=x.cps.size - i/\i<=x.cps.size/\Pv i σ H,⟨x.cps.size,by simp,Nat.zero_le _,h0⟩,?_⟩
 rintro i m σ H ⟨rfl,hi,p⟩
 by_cases hlt:i < x.cps.size
 ·refine .inr ⟨hlt,Pv (i + 1),λσ' H' p'=>⟨x.cps.size - (i + 1),by omega,rfl,hlt,p'⟩,λy H' z=>?_⟩
  obtain ⟨e,c,hc,ec⟩:=z
  subst e ec
  exact hs i c σ _ hc p
 ·have e:i=x.cps.size:=by omega
  subst e
  exact .inl ⟨Nat.le_refl _,hd σ H p⟩
theorem V0:FnScope ["number","parts"] ["number"] (Zg Zae):=⟨rfl,rfl,rfl,by decide +kernel,rfl,by decide +kernel,by decide +kernel⟩
theorem Zge (T:Txt w K mg t):FnOk P w K mg base (CXr P w) 1 t.f_figures t.d_figures ["number"] Zfy:=by
 refine T.p_figures.F.okR V0 (λvs H Q E h=>?_) (λcdv A outer s H vs Q E hr h=>?_)
 ·obtain ⟨i,rfl,_⟩:=h
  rfl
 ·obtain ⟨i,rfl,h0,h1,k⟩:=h
  have hu:=Wp hr
  refine ⟨_,(Zf (Zu (i:=1) V0.nd rfl (Or.inl rfl) (Xd Zb))
   (Zf (Jf PassesOwn.never (Zk Zf6 (pv 0) (Jg (v:=.int 1000000000000000000000000000000000000000000000000000000000000) rfl T.c_PART ⟨_,rfl⟩) (Zn _)) (Zf Kq
   (Zh (Gy (i:=0) V0.nd rfl (Or.inl rfl) (Jg (v:=.int 1000000000000000000000000000000000000000000000000000000000000) rfl T.c_PART ⟨_,rfl⟩) Zdc))))
   (Zf (Xn (Xx PySem.F.plainAttrs_list PySem.F.slot_list_append PySem.F.type_list_append Xl (pv 1) (Za (Yw Zdl (by rfl) T.n_str PySem.Pv.boot_str (Za (pv 0) Zb)) Zb)))
   (Zh (Zr (Zf4 rfl T.n_reversed (by rfl) Yb (Za (pv 1) Zb))))))),?_⟩
  refine Z4 λnxC hnxC=>?_
  refine ⟨Nat.zero_le _,λp hp=>?_⟩
  refine hnxC _ _ ?_
  have s1:Same H (upd H p (.lst [])):=Same.new hp
  have h2:(upd H p (.lst [])) p=some (.lst []):=Zc
  generalize upd H p (.lst [])=H1 at s1 h2 ⊢
  try dsimp only [Zv]
  refine Zz (λσ H'=>σ=[some (.int i),some (.ref p)]/\H'=H1) (λnx hnx=>?_) ?_
  ·refine ⟨λm σ H'=>σ=[some (.int i),some (.ref p)]/\H'=H1,⟨0,rfl,rfl⟩,?_⟩
   rintro m σ H' ⟨rfl,rfl⟩
   refine ⟨_,rfl,_,_,rfl,rfl,_,rfl,?_⟩
   rw [decide_eq_false (by omega)]
   exact iteF (hnx _ _ ⟨rfl,rfl⟩)
  rintro σ H' ⟨rfl,rfl⟩
  have hlog:i.natAbs.log2 < 1920:=by
   rcases Nat.eq_zero_or_pos i.natAbs with z | z
   ·rw [z]; decide
   ·exact (Nat.log2_lt (by omega)).mpr (Nat.lt_of_lt_of_le (by rw [Zox]; omega:i.natAbs < 2 ^ 200) (Nat.pow_le_pow_right (by decide) (by decide)))
  have hlen:(Str.ofString (toString i)).length<=60:=Zfg h0 h1
  refine Z4 λnxC hnxC=>?_
  refine ⟨_,rfl,.inl ⟨rfl,_,SqL.of h2⟩,_,rfl,i,rfl,hlog,p,_,_,rfl,rfl,h2,Zx (by decide),?_⟩
  refine hnxC _ _ ?_
  refine ⟨_,rfl,_,rfl,p,[(Str.ofString (toString i))],rfl,SqL.of Zc,by decide,(by show ((Str.ofString (toString i)).length + 0) + 1<=1048576; omega),?_⟩
  exact k _ (Same.add s1 hp)
theorem Zf0:FnScope ["text","signs"] ["text","signs"] (Zg F8):=⟨rfl,rfl,rfl,by decide +kernel,rfl,by decide +kernel,by decide +kernel⟩
theorem Zf9 (T:Txt w K mg t):FnOk P w K mg base (CXr P w) 1 t.f_made_of t.d_made_of ["text","signs"] Zfv:=by
 refine T.p_made_of.F.okR Zf0 (λvs H Q E h=>?_) (λcdv A outer s H vs Q E hr h=>?_)
 ·obtain ⟨x,y,rfl,_⟩:=h
  rfl
 ·obtain ⟨x,y,rfl,hx,hz,k⟩:=h
  refine ⟨_,(Zh (Zr (Zt (Ga rfl) (by rfl) T.n_all PyProof.Rows.boot_all (Za (Y6 (ts:=["sign"]) (fv:=[("signs",1)]) ⟨rfl,by decide +kernel,by decide +kernel,Yk (by rfl),⟨⟨rfl,rfl,Or.inl rfl⟩,trivial⟩⟩ rfl (Zn4 (pv 0)) (λ_ _ _ _=>(Zq (i:=0) (show List.Nodup (["sign","signs"]:List Str) from by decide +kernel) rfl (Or.inl rfl) (Or.inr rfl))) (λ_ _ _ _=>Yu) (λ_ _ _=>rfl) (λ_ _ _ _ _ _=>Ys (Vq Zoa (pv 0) (pv 1) (by with_unfolding_all rfl)))) Zb)))),?_⟩
  refine ⟨_,rfl,x,rfl,hx,λD hD=>?_⟩
  refine Zkh (λi σ H6=>∃ v,σ=[v,some (.str y)]/\Same H H6/\H6 D=some (.lst (((mdL x y).take i).map V.bl))) ⟨none,rfl,Same.new hD,Zc⟩ ?_ ?_
  ·rintro i c σ H6 hc ⟨v,rfl,s6,h6⟩
   have hil:i < x.cps.size:=(Array.getElem?_eq_some_iff.mp hc).1
   have hm:(mdL x y)[i]?=some (Txt.contains y ⟨#[c]⟩):=by
    unfold mdL
    rw [List.getElem?_map,Array.getElem?_toList,hc]
    rfl
   dsimp only [Zv,tYes]
   rw [if_pos rfl]
   refine ⟨_,rfl,_,rfl,_,_,rfl,rfl,_,h6,by rw [List.length_map,List.length_take]; exact Zx (by omega),_,rfl,Same.add s6 hD,?_⟩
   rw [Zc,List.take_add_one,hm,List.map_append]
   rfl
  ·rintro σ H6 ⟨v,rfl,s6,h6⟩
   have hl:(mdL x y).length=x.cps.size:=by unfold mdL; rw [List.length_map,Array.length_toList]
   rw [<- hl,List.take_length] at h6
   exact ⟨D,_,rfl,SqL.of h6,k _ s6⟩
noncomputable def isN (x:Str):Bool:=decide (1<=(x.length:Int)) && decide ((x.length:Int)<=8) && (mdL x (Str.ofString "abcdefghijklmnopqrstuvwxyz")).all id
noncomputable def Zfw:Sp:=λvs H Q _=>∃ x:Str,vs=[.str x]/\x.cps.all (· < 128)=true/\x.cps.size<=900/\∀ H',Same H H'->Q (.bl (isN x)) H'
noncomputable def wV:Str ⊕ Int->V
 | .inl x=>.str x
 | .inr i=>.int i
noncomputable def wS:Str ⊕ Int->Str
 | .inl x=>x
 | .inr i=>figS i
noncomputable def wOk:Str ⊕ Int->Prop
 | .inl _=>True
 | .inr i=>0<=i/\i < 1000000000000000000000000000000000000000000000000000000000000
theorem Zg0 {B:Nat}:∀ {l:List (Str ⊕ Int)},(∀ x∈l,(wS x).length<=B)->((l.map wS).map (·.length)).sum<=B * l.length
 | [],_=>Nat.le_refl _
 | x :: l,h=>by
  have h1:=h x List.mem_cons_self
  have h2:=Zg0 (l:=l) λy hy=>h y (List.mem_cons_of_mem _ hy)
  rw [List.map_cons,List.map_cons,List.sum_cons,List.length_cons,Nat.mul_add]
  omega
theorem Zop {i:Int} (h0:0<=i) (h1:i < 1000000000000000000000000000000000000000000000000000000000000):(figS i).length<=60:=by
 have e:figS i=Str.ofString (toString i):=rfl
 rw [e]
 exact Zfg h0 h1
noncomputable def wAsc:Str ⊕ Int->Prop
 | .inl x=>Asc x
 | .inr _=>True
theorem Znb (i:Int):Asc (figS i):=Asc.join λy hy=>by rw [List.mem_singleton.mp hy]; exact Asc.num i
theorem Zna {ws:List (Str ⊕ Int)} (h:∀ x∈ws,wAsc x):Asc (Txt.join (Str.ofString " ") (ws.map wS)):=Asc.joinS (λc hc=>by have hc:c∈[32]:=hc; rw [List.mem_singleton.mp hc]; decide) λy hy=>by
 obtain ⟨x,hx,rfl⟩:=List.mem_map.mp hy
 have:=h x hx
 cases x with
 | inl z=>exact this
 | inr i=>exact Znb i
noncomputable def Zdt:Sp:=λvs H Q _=>∃ (a:Addr) (ws:List (Str ⊕ Int)),vs=[.ref a]/\H a=some (.lst (ws.map wV))/\ws.length<=900/\(∀ x∈ws,wOk x)/\((ws.map wS).map (·.length)).sum + ws.length<=1048576/\∀ H',Same H H'->Q (.str (Txt.join (Str.ofString " ") (ws.map wS))) H'
theorem Zf1:FnScope ["text"] ["text"] (Zg Zac):=⟨rfl,rfl,rfl,by decide +kernel,rfl,by decide +kernel,by decide +kernel⟩
theorem Zgc (T:Txt w K mg t):FnOk P w K mg base (CXr P w) 2 t.f_is_name t.d_is_name ["text"] Zfw:=by
 refine T.p_is_name.F.okR Zf1 (λvs H Q E h=>?_) (λcdv A outer s H vs Q E hr h=>?_)
 ·obtain ⟨x,rfl,_⟩:=h
  rfl
 ·obtain ⟨x,rfl,hx,hz,k⟩:=h
  refine ⟨_,(Zh (Zr (Zcv (Zcu Zf5 Zf5 Zd (Zt Zdm (by rfl) T.n_len PySem.boot_len (Za (pv 0) Zb)) (Jg (v:=.int 8) rfl T.c_LONGEST_NAME ⟨_,rfl⟩)) (Zct (Zo (Zf9 T) (hr.mono (by decide)) rfl T.p_made_of.g T.p_made_of.F.kp T.p_made_of.b .nil Zs (Za (pv 0) (Za (Jg (v:=.str (Str.ofString "abcdefghijklmnopqrstuvwxyz")) rfl T.c_SMALL_LETTERS ⟨_,rfl⟩) Zb))))))),?_⟩
  have hs:x.length=x.cps.size:=rfl
  refine ⟨_,rfl,x,rfl,by rw [sizeLine_eq]; omega,_,_,rfl,rfl,_,rfl,?_⟩
  unfold isN at k
  refine ite2 (λz=>?_) (λz=>?_)
  ·refine ⟨_,_,rfl,rfl,_,rfl,?_⟩
   refine ite2 (λz2=>?_) (λz2=>?_)
   ·refine ⟨_,rfl,x,_,rfl,hx,hz,λH' s'=>?_⟩
    have:=k H' s'
    rw [z,z2,Bool.true_and,Bool.true_and] at this
    exact this
   ·have:=k H (Same.refl _)
    rw [Bool.eq_false_iff.mpr z2,Bool.and_false,Bool.false_and] at this
    exact this
  ·refine ⟨_,rfl,iteF ?_⟩
   have:=k H (Same.refl _)
   rw [Bool.eq_false_iff.mpr z,Bool.false_and,Bool.false_and] at this
   exact this
theorem Zd0:FnScope ["words"] ["words"] (Zg Gn):=⟨rfl,rfl,rfl,by decide +kernel,rfl,by decide +kernel,by decide +kernel⟩
theorem Zd7 (T:Txt w K mg t):FnOk P w K mg base (CXr P w) 2 t.f_row_text t.d_row_text ["words"] Zdt:=by
 refine T.p_row_text.F.okR Zd0 (λvs H Q E h=>?_) (λcdv A outer s H vs Q E hr h=>?_)
 ·obtain ⟨a,ws,rfl,_⟩:=h
  rfl
 ·obtain ⟨a,ws,rfl,ha,hl,hw,hsum,k⟩:=h
  refine ⟨_,(Zh (Zr (Xx PySem.F.plainAttrs_str PySem.F.slot_str_join PySem.F.type_str_join Ze9 Yb (Za (Y6 (ts:=["word"]) (fv:=[]) ⟨rfl,by decide +kernel,by decide +kernel,Yk (by rfl),trivial⟩ rfl (Yp (pv 0)) (λ_ _ _ _=>(Zq (i:=0) (show List.Nodup (["word"]:List Str) from by decide +kernel) rfl (Or.inl rfl) (Or.inr rfl))) (λ_ _ _ _=>Yu) (λ_ _ _=>rfl) (λ_ _ _ _ _ _=>Ys (Qy (Qv (Zt (Zdn K) (by rfl) T.n_isinstance PyProof.Rows.boot_isinstance (Za (pv 0) (Za (Ze7 (v:=.ty "str") (by rfl) T.n_str PySem.Pv.boot_str rfl) Zb)))) (pv 0) (Zo (Zge T) (hr.mono (by decide)) rfl T.p_figures.g T.p_figures.F.kp T.p_figures.b .nil Zs (Za (pv 0) Zb))))) Zb)))),?_⟩
  refine ⟨rfl,_,rfl,a,rfl,⟨_,SqL.of ha⟩,λD hD=>?_⟩
  refine Yt (xs:=ws.map wV) (λi σ H6=>∃ v,σ=[v]/\Same H H6/\H6 D=some (.lst (((ws.take i).map wS).map V.str))) ⟨none,rfl,Same.new hD,Zc⟩ ?_ ?_ ?_
  ·rintro i σ H6 _ ⟨v,rfl,s6,_⟩
   exact SqL.of (s6 _ _ ha)
  ·rintro i y σ H6 hy ⟨v,rfl,s6,h6⟩
   rw [List.getElem?_map] at hy
   obtain ⟨x,hx,rfl⟩:=Option.map_eq_some_iff.mp hy
   have hil:i < ws.length:=(List.getElem?_eq_some_iff.mp hx).1
   have ok:=hw x (List.mem_of_getElem? hx)
   have lt:(((ws.take i).map wS).map V.str).length < sizeLine:=by rw [List.length_map,List.length_map,List.length_take]; exact Zx (by omega)
   dsimp only [Zv,tYes]
   rw [if_pos rfl]
   cases x with
   | inl y =>
    refine ⟨_,rfl,_,"str",_,true,rfl,TyOf.str y,Zko,_,rfl,iteT ?_⟩
    refine ⟨_,rfl,_,h6,lt,_,rfl,Same.add s6 hD,?_⟩
    rw [Zc,List.take_add_one,hx,List.map_append,List.map_append]
    rfl
   | inr j =>
    refine ⟨_,rfl,_,"str",_,false,rfl,TyOf.int j,(by rfl),_,rfl,iteF ?_⟩
    refine ⟨_,rfl,j,rfl,ok.1,ok.2,λH7 s7=>?_⟩
    refine ⟨_,s7 _ _ h6,lt,_,rfl,Same.add (s6.trans s7) hD,?_⟩
    rw [Zc,List.take_add_one,hx,List.map_append,List.map_append]
    rfl
  ·rintro σ H6 ⟨v,rfl,s6,h6⟩
   rw [List.length_map,List.take_length] at h6
   refine ⟨_,D,ws.map wS,rfl,rfl,SqL.of h6,by decide,?_,k _ s6⟩
   rw [List.length_map]
   exact hsum
noncomputable def dS (l:List (Str × V)):List (Key × V):=l.map λkv=>((Sum.inr kv.1:Key),kv.2)
theorem Zot (l:List (Str × V)):(dS l).length=l.length:=by unfold dS; rw [List.length_map]
noncomputable def hasS (l:List (Str × V)) (x:Str):Bool:=l.any λkv=>decide (kv.1=x)
noncomputable def Zbn:Sp:=λvs H Q _=>∃ (d:Addr) (x:Str) (v:V) (l:List (Str × V)),vs=[.ref d,.str x,v]/\H d=some (.dK (dS l))/\l.length<=900/\hasS l x=false/\∀ (e:Addr) (H':Hp),Same H H'->H e=none->H' e=some (.dK (dS (l ++ [(x,v)])))->Q (.ref e) H'
noncomputable def Fl (EN:Addr):Sp:=λvs H Q E=>∃ (a:Addr) (vs':List V),vs=[.ref a]/\H a=some (.lst vs')/\(vs'.length<=400->Q .non H)/\(400 < vs'.length->E (.ref EN) none H)
theorem Uv:FnScope ["table","name","value","copied"] ["table","name","value"] (Zg O7):=⟨rfl,rfl,rfl,by decide +kernel,rfl,by decide +kernel,by decide +kernel⟩
theorem Zcy (T:Txt w K mg t):FnOk P w K mg base (CXr P w) 1 t.f_with_item t.d_with_item ["table","name","value"] Zbn:=by
 refine T.p_with_item.F.okR Uv (λvs H Q E h=>?_) (λcdv A outer s H vs Q E hr h=>?_)
 ·obtain ⟨d,x,v,l,rfl,_⟩:=h
  rfl
 ·obtain ⟨d,x,v,l,rfl,hd,hl,hn,k⟩:=h
  have hu:=Wp hr
  refine ⟨_,(Zf (Zu (i:=3) Uv.nd rfl (Or.inl rfl) (Yw Ff (by rfl) T.n_dict PySem.Pv.boot_dict (Za (pv 0) Zb)))
   (Zf (Ze0 hu (pv 3) (pv 1) (pv 2) rfl)
   (Zh (Zr (pv 3))))),?_⟩
  refine Z4 λnxC hnxC=>?_
  refine ⟨_,rfl,d,_,rfl,.inl hd,λe he=>?_⟩
  refine hnxC _ _ ?_
  have ep:putK (dS l) (Sum.inr x) v=dS (l ++ [(x,v)]):=by
   have:((dS l).any λkv=>decide (kv.1=(Sum.inr x:Key)))=false:=by
    rw [<- hn]
    unfold dS hasS
    rw [List.any_map]
    congr 1
    funext kv
    show decide ((Sum.inr kv.1:Key)=Sum.inr x)=decide (kv.1=x)
    by_cases z:kv.1=x
    ·rw [z,decide_eq_true rfl,decide_eq_true rfl]
    ·rw [decide_eq_false z,decide_eq_false (λy=>z (by injection y))]
   unfold putK
   rw [this,if_neg (by decide)]
   unfold dS
   rw [List.map_append]
   rfl
  refine ⟨_,rfl,_,rfl,_,rfl,e,_,rfl,DPut.k (k:=Sum.inr x) Zc (by rw [Zot]; exact Zx (by omega)),?_⟩
  rw [ep]
  refine ⟨_,rfl,k e _ ?_ he Zc⟩
  exact Same.add (Same.new he) he
theorem Fp:FnScope ["word"] ["word"] (Zg Ug):=⟨rfl,rfl,rfl,by decide +kernel,rfl,by decide +kernel,by decide +kernel⟩
theorem Fw (T:Txt w K mg t):FnOk P w K mg base (CXr P w) 1 t.f_look_length t.d_look_length ["word"] (Fl t.E_TooMany):=by
 refine T.p_look_length.F.okX Fp (λvs H Q E h=>?_) (λcdv A outer s H vs Q E hr h=>?_)
 ·obtain ⟨a,vs',rfl,_⟩:=h
  rfl
 ·obtain ⟨a,vs',rfl,ha,k1,k2⟩:=h
  refine ⟨_,(Zm (Yy (Zk Ou (Zt Zl (by rfl) T.n_len PySem.boot_len (Za (pv 0) Zb)) (Jg (v:=.int 400) rfl T.c_MOST_PLACES ⟨_,rfl⟩) (Zn _)) (Zm (Xi T.x_TooMany FBV rfl T.gx_TooMany rfl (Za Yb Zb))) Xv)),?_⟩
  refine ⟨_,rfl,a,_,rfl,.inl (SqL.of ha),_,_,rfl,rfl,_,rfl,?_⟩
  by_cases c:400 < vs'.length
  ·rw [decide_eq_true (by omega)]
   exact iteT ⟨by decide,k2 c⟩
  ·rw [decide_eq_false (by omega)]
   exact iteF (k1 (by omega))
theorem Zi6 {l:List (Str × V)} {x:Str}:(valV (dS l) (Sum.inr x)).isSome=hasS l x:=by
 unfold valV hasS dS
 induction l with
 | nil=>rfl
 | cons kv l ih =>
  rw [List.map_cons,List.find?_cons,List.any_cons]
  by_cases z:kv.1=x
  ·rw [decide_eq_true z,decide_eq_true (show (Sum.inr kv.1:Key)=Sum.inr x by rw [z])]; rfl
  ·rw [decide_eq_false z,decide_eq_false (show ¬ (Sum.inr kv.1:Key)=Sum.inr x from λy=>z (by injection y)),Bool.false_or]
   exact ih
noncomputable def Kk (CS EB ET:Addr):Sp:=λvs H Q E=>∃ (sc dxs th po:Addr) (te wo:V) (x:Str) (l1 l2:List (Str × V)),vs=[.ref sc,.str x]/\H sc=some (.ins CS dxs (Wh te (.ref th) (.ref po) wo))/\H th=some (.dK (dS l1))/\H po=some (.dK (dS l2))/\x.cps.all (· < 128)=true/\x.cps.size<=900 /\
 (isN x=false->∀ H',Same H H'->E (.ref EB) none H')/\(isN x=true->(hasS l1 x || hasS l2 x)=true->∀ H',Same H H'->E (.ref ET) none H')/\(isN x=true->(hasS l1 x || hasS l2 x)=false->∀ H',Same H H'->Q .non H')
theorem Kn:FnScope ["scene","name"] ["scene","name"] (Zg Q8):=⟨rfl,rfl,rfl,by decide +kernel,rfl,by decide +kernel,by decide +kernel⟩
theorem Kx (T:Txt w K mg t):FnOk P w K mg base (CXr P w) 3 t.f_look_new_name t.d_look_new_name ["scene","name"] (Kk t.C_Scene t.E_BadName t.E_Taken):=by
 refine T.p_look_new_name.F.okX Kn (λvs H Q E h=>?_) (λcdv A outer s H vs Q E hr h=>?_)
 ·obtain ⟨sc,dxs,th,po,te,wo,x,l1,l2,rfl,_⟩:=h
  rfl
 ·obtain ⟨sc,dxs,th,po,te,wo,x,l1,l2,rfl,hsc,hth,hpo,hx,hz,kB,kT,kQ⟩:=h
  have hu:=Wp hr
  refine ⟨_,(Zp (Yy (Jy (Qv (Zo (Zgc T) (hr.mono (by decide)) rfl T.p_is_name.g T.p_is_name.F.kp T.p_is_name.b .nil Zs (Za (pv 1) Zb)))) (Zm (Xi T.x_BadName FBV rfl T.gx_BadName rfl (Za Yb Zb))) Xv)
   (Zm (Yy (PW.pt (Va (Gx (Zht hu (pv 1) (Yr (pv 0) rfl)) (by with_unfolding_all rfl)) (Qu (Gx (Zht hu (pv 1) (Yr (pv 0) rfl)) (by with_unfolding_all rfl))))) (Zm (Xi T.x_Taken FBV rfl T.gx_Taken rfl (Za Yb Zb))) Xv))),?_⟩
  refine ⟨_,rfl,x,rfl,hx,hz,λH1 s1=>⟨_,rfl,?_⟩⟩
  cases e:isN x with
  | false=>exact iteT ⟨by decide,kB e H1 s1⟩
  | true =>
   refine iteF ?_
   have hsc1:=s1 _ _ hsc
   refine ⟨_,rfl,_,rfl,sc,_,dxs,_,.ref th,rfl,hsc1,T.cl_Scene,T.a_Scene_threads,rfl,th,_,rfl,.inl ⟨_,Sum.inr x,.inl (s1 _ _ hth),rfl,rfl⟩,_,rfl,?_⟩
   rw [Zi6]
   cases e1:hasS l1 x with
   | true=>exact iteT (iteT ⟨by decide,kT e (by rw [e1]; rfl) H1 s1⟩)
   | false =>
    refine iteF ?_
    refine ⟨_,rfl,_,rfl,sc,_,dxs,_,.ref po,rfl,hsc1,T.cl_Scene,T.a_Scene_pools,rfl,po,_,rfl,.inl ⟨_,Sum.inr x,.inl (s1 _ _ hpo),rfl,rfl⟩,_,rfl,?_⟩
    rw [Zi6]
    cases e2:hasS l2 x with
    | true=>exact iteT ⟨by decide,kT e (by rw [e1,e2]; rfl) H1 s1⟩
    | false=>exact iteF (kQ e (by rw [e1,e2]; rfl) H1 s1)
theorem Zpx (be sc st un un':Addr):putF "undone" (.ref un') (Wk be sc st un)=Wk be sc st un':=by first | rfl | decide
theorem Zpy (be sc st un sc':Addr):putF "scene" (.ref sc') (Wk be sc st un)=Wk be sc' st un:=by first | rfl | decide
theorem Zix (be sc st un:Addr):(Wk be sc st un).length < 1000:=by
 have:(Wk be sc st un).length=4:=rfl
 omega
noncomputable def Za6 (CH:Addr):Sp:=λvs H Q _=>∃ (p dx be sc st un sc':Addr) (x:Str) (l:List V),vs=[.ref p,.str x,.ref sc']/\H p=some (.ins CH dx (Wk be sc st un))/\H st=some (.lst l)/\l.length<=900 /\
 ∀ (q un':Addr) (H':Hp),H q=none->H un'=none->(∀ b u,b≠p->b≠st->H b=some u->H' b=some u)->H' p=some (.ins CH dx (Wk be sc' st un'))->H' st=some (.lst (l ++ [.ref q]))->H' q=some (.tup [.str x,.ref sc])->H' un'=some (.lst [])->Q .non H'
theorem Zbb:FnScope ["self","text","scene"] ["self","text","scene"] (Zg U5):=⟨rfl,rfl,rfl,by decide +kernel,rfl,by decide +kernel,by decide +kernel⟩
theorem Zbd (T:Txt w K mg t):FnOk P w K mg base (CXr P w) 1 t.f_Hall_enter t.d_Hall_enter ["self","text","scene"] (Za6 t.C_Hall):=by
 refine T.p_Hall_enter.F.okR Zbb (λvs H Q E h=>?_) (λcdv A outer s H vs Q E hr h=>?_)
 ·obtain ⟨p,dx,be,sc,st,un,sc',x,l,rfl,_⟩:=h
  rfl
 ·obtain ⟨p,dx,be,sc,st,un,sc',x,l,rfl,hp,hst,hl,k⟩:=h
  refine ⟨_,(Zf (Xn (Xx PySem.F.plainAttrs_list PySem.F.slot_list_append PySem.F.type_list_append Xl (Yr (pv 0) rfl) (Za (X7 (Za (pv 1) (Za (Yr (pv 0) rfl) Zb))) Zb)))
   (Zf (Xs (pv 0) (Xd Zb) rfl)
   (Zh (Xs (pv 0) (pv 2) rfl)))),?_⟩
  have hps:p≠st:=λz=>by rw [z,hst] at hp; cases hp
  refine Z4 λnxC hnxC=>?_
  refine ⟨_,rfl,p,_,dx,_,.ref st,rfl,hp,T.cl_Hall,T.a_Hall_standing,rfl,.inl ⟨rfl,_,SqL.of hst⟩,_,rfl,_,rfl,p,_,dx,_,.ref sc,rfl,hp,T.cl_Hall,T.a_Hall_scene,rfl,(by show 2<=sizeLine; decide),λq hq=>?_⟩
  have s1:Same H (upd H q (.tup [V.str x,V.ref sc])):=Same.new hq
  have h1:(upd H q (.tup [V.str x,V.ref sc])) q=some (.tup [V.str x,V.ref sc]):=Zc
  refine ⟨st,_,_,rfl,rfl,s1 _ _ hst,Zx (by omega),?_⟩
  refine hnxC _ _ ?_
  generalize upd H q (.tup [V.str x,V.ref sc])=H1 at s1 h1 ⊢
  have hqs:q≠st:=λz=>by rw [z,hst] at hq; cases hq
  have hqp:q≠p:=λz=>by rw [z,hp] at hq; cases hq
  have p2:(upd H1 st (.lst (l ++ [V.ref q]))) p=some (.ins t.C_Hall dx (Wk be sc st un)):=by rw [Ze hps]; exact s1 _ _ hp
  have q2:(upd H1 st (.lst (l ++ [V.ref q]))) q=some (.tup [V.str x,V.ref sc]):=by rw [Ze hqs]; exact h1
  have t2:(upd H1 st (.lst (l ++ [V.ref q]))) st=some (.lst (l ++ [V.ref q])):=Zc
  have o2:∀ b u,b≠p->b≠st->H b=some u->(upd H1 st (.lst (l ++ [V.ref q]))) b=some u:=λb u _ h2 e=>by rw [Ze h2]; exact s1 _ _ e
  generalize upd H1 st (.lst (l ++ [V.ref q]))=H2 at p2 q2 t2 o2 ⊢
  refine Z4 λnxC hnxC=>?_
  refine ⟨Nat.zero_le _,λun' hun=>?_⟩
  have s3:Same H2 (upd H2 un' (.lst [])):=Same.new hun
  have u3:(upd H2 un' (.lst [])) un'=some (.lst []):=Zc
  have hun0:H un'=none:=by
   cases e:H un' with
   | none=>rfl
   | some u =>
    have hne1:un'≠p:=λz=>by rw [z,p2] at hun; cases hun
    have hne2:un'≠st:=λz=>by rw [z,t2] at hun; cases hun
    rw [o2 _ _ hne1 hne2 e] at hun
    cases hun
  refine ⟨_,rfl,p,_,dx,_,rfl,s3 _ _ p2,T.cl_Hall,T.a_Hall_undone,Zix _ _ _ _,?_⟩
  rw [Zpx]
  refine hnxC _ _ ?_
  have hup:un'≠p:=λz=>by rw [z,p2] at hun; cases hun
  refine ⟨_,rfl,_,rfl,p,_,dx,_,rfl,Zc,T.cl_Hall,T.a_Hall_scene,Zix _ _ _ _,?_⟩
  rw [Zpy,Wx]
  refine k q un' _ hq hun0 (λb u b1 b2 e=>?_) Zc ?_ ?_ ?_
  ·rw [Ze b1]; exact s3 _ _ (o2 b u b1 b2 e)
  ·rw [Ze (Ne.symm hps)]; exact s3 _ _ t2
  ·rw [Ze hqp]; exact s3 _ _ q2
  ·rw [Ze hup]; exact u3
noncomputable def Zlh (H:Hp) (st:Addr) (ds:List Str):Prop:=∃ qs:List Addr,H st=some (.lst (qs.map V.ref))/\qs.length=ds.length/\∀ (i:Nat) (q:Addr) (x:Str),qs[i]?=some q->ds[i]?=some x->∃ v,H q=some (.tup [.str x,v])
noncomputable def Zdz (CT CS CH EB ET EN EM:Addr):Sp:=λvs H Q E=>∃ (p dx be sc st un dxs te th po a:Addr) (wo:V) (x:Str) (l1 l2:List (Str × V)) (M:List (Option Nat)) (ns:List Int) (ws:List Int) (ds:List Str),vs=[.ref p,.str x,.ref a] /\
 H p=some (.ins CH dx (Wk be sc st un))/\H sc=some (.ins CS dxs (Wh (.ref te) (.ref th) (.ref po) wo))/\H th=some (.dK (dS l1))/\H po=some (.dK (dS l2))/\Zy CT H te M ns/\M.length=ns.length/\ns.length<=1000/\Zlh H st ds/\ds.length<=800/\l1.length<=800/\x.cps.all (· < 128)=true/\x.cps.size<=900/\H a=some (.lst (ws.map V.int))/\ws.length<=900/\(Z1 M ws=true->∀ i∈ws,0<=i/\i < 1000000) /\
 (isN x=false->∀ H',Same H H'->E (.ref EB) none H')/\(isN x=true->(hasS l1 x || hasS l2 x)=true->∀ H',Same H H'->E (.ref ET) none H') /\
 (isN x=true->(hasS l1 x || hasS l2 x)=false->Z1 M ws=false->∀ H',Same H H'->E (.ref EN) none H')/\(isN x=true->(hasS l1 x || hasS l2 x)=false->Z1 M ws=true->400 < ws.length->∀ H',Same H H'->E (.ref EM) none H') /\
 (isN x=true->(hasS l1 x || hasS l2 x)=false->Z1 M ws=true->ws.length<=400->∀ (H':Hp) (sc' dxs' th' w' un':Addr) (r:Str),Asc r->(∀ b u,b≠p->b≠st->H b=some u->H' b=some u)->H' p=some (.ins CH dx (Wk be sc' st un'))->H' sc'=some (.ins CS dxs' (Wh (.ref te) (.ref th') (.ref po) wo)) ->
  H' th'=some (.dK (dS (l1 ++ [(x,.ref w')])))->H' w'=some (.lst (ws.map V.int))->Zlh H' st (ds ++ [r])->H' un'=some (.lst [])->Q .non H')
theorem Vj:FnScope ["self","name","word","now","threads"] ["self","name","word"] (Zg Gv):=⟨rfl,rfl,rfl,by decide +kernel,rfl,by decide +kernel,by decide +kernel⟩
theorem Zed (T:Txt w K mg t):FnOk P w K mg base (CXr P w) 7 t.f_Hall_lay t.d_Hall_lay ["self","name","word"] (Zdz t.C_Tent t.C_Scene t.C_Hall t.E_BadName t.E_Taken t.E_NoThread t.E_TooMany):=by
 refine T.p_Hall_lay.F.okX Vj (λvs H Q E h=>?_) (λcdv A outer s H vs Q E hr h=>?_)
 ·obtain ⟨p,dx,be,sc,st,un,dxs,te,th,po,a,wo,x,l1,l2,M,ns,ws,ds,rfl,_⟩:=h
  rfl
 ·obtain ⟨p,dx,be,sc,st,un,dxs,te,th,po,a,wo,x,l1,l2,M,ns,ws,ds,rfl,hp,hsc,hth,hpo,ta,hMl,hns,hds,hdl,hl1,hx,hxz,ha,hwl,hrg,kB,kT,kN,kM,kQ⟩:=h
  have hu:=Wp hr
  refine ⟨_,(Zp (Ya (Zu (i:=3) Vj.nd rfl (Or.inl rfl) (Yr (pv 0) rfl)))
   (Zp (Z0 (Zw (Kx T) (hr.mono (by decide)) rfl T.p_look_new_name.g T.p_look_new_name.F.kp T.p_look_new_name.b .nil (Za (pv 3) (Za (pv 1) Zb))))
   (Zp (Z0 (Zw (Yc T) (hr.mono (by decide)) rfl T.p_look_thread.g T.p_look_thread.F.kp T.p_look_thread.b .nil (Za (Yr (pv 3) rfl) (Za (pv 2) Zb))))
   (Zp (Z0 (Zw (Fw T) (hr.mono (by decide)) rfl T.p_look_length.g T.p_look_length.F.kp T.p_look_length.b .nil (Za (pv 2) Zb)))
   (Zp (Ya (Zu (i:=4) Vj.nd rfl (Or.inl rfl) (Zo (Zcy T) (hr.mono (by decide)) rfl T.p_with_item.g T.p_with_item.F.kp T.p_with_item.b .nil Zs (Za (Yr (pv 3) rfl) (Za (pv 1) (Za (Yw Yz (by rfl) T.n_list PySem.Pv.boot_list (Za (pv 2) Zb)) Zb))))))
   (Zm (Ya (Xn (Xf (pv 0) T.cl_Hall T.p_Hall_enter.m (Zbd T) (hr.mono (by decide)) T.p_Hall_enter.b .nil Zs (Za (Zo (Zd7 T) (hr.mono (by decide)) rfl T.p_row_text.g T.p_row_text.F.kp T.p_row_text.b .nil Zs (Za (Zi Zh0 (Xd (Za Yb (Za (pv 1) Zb))) (pv 2)) Zb)) (Za (Vp T.mk_Scene (Um T) (hr.mono (by decide)) rfl T.gC_Scene T.p_Scene_init.b .nil Zs (Za (Yr (pv 3) rfl) (Za (pv 4) (Za (Yr (pv 3) rfl) (Za (Yr (pv 3) rfl) Zb))))) Zb))))))))))),?_⟩
  refine ⟨_,rfl,p,_,dx,_,.ref sc,rfl,hp,T.cl_Hall,T.a_Hall_scene,rfl,?_⟩
  refine ⟨_,rfl,_,rfl,sc,dxs,th,po,_,_,x,l1,l2,rfl,hsc,hth,hpo,hx,hxz,kB,kT,λe1 e2 H1 s1=>?_⟩
  refine ⟨_,rfl,sc,_,dxs,_,.ref te,rfl,s1 _ _ hsc,T.cl_Scene,T.a_Scene_tent,rfl,_,rfl,te,a,M,ns,ws,rfl,ta.same s1,hMl,s1 _ _ ha,by omega,λH2 s2=>⟨λe3=>?_,λe3=>kN e1 e2 e3 H2 (s1.trans s2)⟩⟩
  have s02:=s1.trans s2
  refine ⟨_,rfl,a,_,rfl,s02 _ _ ha,λe4=>?_,λe4=>kM e1 e2 e3 (by rw [List.length_map] at e4; exact e4) H2 s02⟩
  rw [List.length_map] at e4
  have hn1:hasS l1 x=false:=by
   cases z:hasS l1 x with
   | false=>rfl
   | true=>rw [z] at e2; cases e2
  have hx8:x.length<=16:=by
   unfold isN at e1
   rw [Bool.and_eq_true,Bool.and_eq_true,decide_eq_true_eq,decide_eq_true_eq] at e1
   omega
  have hrange:=hrg e3
  refine ⟨_,rfl,sc,_,dxs,_,.ref th,rfl,s02 _ _ hsc,T.cl_Scene,T.a_Scene_threads,rfl,_,rfl,_,rfl,a,_,rfl,.inl (SqL.of (s02 _ _ ha)),λw' hw'=>?_⟩
  have s3:Same H2 (upd H2 w' (.lst (ws.map V.int))):=Same.new hw'
  have w3:(upd H2 w' (.lst (ws.map V.int))) w'=some (.lst (ws.map V.int)):=Zc
  generalize upd H2 w' (.lst (ws.map V.int))=H3 at s3 w3 ⊢
  refine ⟨th,x,.ref w',l1,rfl,s3 _ _ (s02 _ _ hth),by omega,hn1,λth' H4 s4 hth' h4=>?_⟩
  have s04:=s02.trans (s3.trans s4)
  have w4:=s4 _ _ w3
  have hp4:=s04 _ _ hp
  refine ⟨_,rfl,p,dx,_,rfl,hp4,rfl,?_⟩
  refine ⟨_,rfl,(by show 2<=sizeLine; decide),λl2' hl2=>?_⟩
  have s5:Same H4 (upd H4 l2' (.lst [V.str (Str.ofString "lay"),V.str x])):=Same.new hl2
  have c5:(upd H4 l2' (.lst [V.str (Str.ofString "lay"),V.str x])) l2'=some (.lst [V.str (Str.ofString "lay"),V.str x]):=Zc
  generalize upd H4 l2' (.lst [V.str (Str.ofString "lay"),V.str x])=H5 at s5 c5 ⊢
  refine ⟨_,rfl,l2',a,_,_,rfl,rfl,c5,s5 _ _ (s04 _ _ ha),by rw [List.length_map,sizeLine_eq]; show 2 + ws.length<=_; omega,λc hc=>?_⟩
  have s6:=Same.new (o:=.lst ([V.str (Str.ofString "lay"),V.str x] ++ ws.map V.int)) hc
  refine ⟨c,[.inl (Str.ofString "lay"),.inl x] ++ ws.map .inr,rfl,by rw [Zc,List.map_append,List.map_map]; rfl,by rw [List.length_append,List.length_map]; show 2 + ws.length<=900; omega,λy hy=>?_,?_,λH7 s7=>?_⟩
  ·rcases List.mem_append.mp hy with z | z
   ·rcases List.mem_cons.mp z with rfl | z
    ·exact True.intro
    ·rw [List.mem_singleton.mp z]; exact True.intro
   ·obtain ⟨i,hi,rfl⟩:=List.mem_map.mp z
    exact ⟨(hrange i hi).1,Int.lt_trans (hrange i hi).2 (by decide)⟩
  ·have:=Zg0 (B:=60) (l:=[.inl (Str.ofString "lay"),.inl x] ++ ws.map .inr) λy hy=>by
    rcases List.mem_append.mp hy with z | z
    ·rcases List.mem_cons.mp z with rfl | z
     ·show (Str.ofString "lay").length<=60
      decide
     ·rw [List.mem_singleton.mp z]; exact Nat.le_trans hx8 (by decide)
    ·obtain ⟨i,hi,rfl⟩:=List.mem_map.mp z
     exact Zop (hrange i hi).1 (Int.lt_trans (hrange i hi).2 (by decide))
   have hl:([.inl (Str.ofString "lay"),.inl x] ++ ws.map .inr:List (Str ⊕ Int)).length=2 + ws.length:=by rw [List.length_append,List.length_map]; rfl
   rw [hl] at this ⊢
   omega
  have s47:=s5.trans (s6.trans s7)
  have s07:=s04.trans s47
  have hsc7:=s07 _ _ hsc
  have hasc:Asc (Txt.join (Str.ofString " ") (([.inl (Str.ofString "lay"),.inl x] ++ ws.map .inr:List (Str ⊕ Int)).map wS)):=Zna λy hy=>by
   rcases List.mem_append.mp hy with z | z
   ·rcases List.mem_cons.mp z with rfl | z
    ·intro c hc; revert c hc; show ∀ c∈[108,97,121],c < 128; decide
    ·rw [List.mem_singleton.mp z]; exact Asc.of hx
   ·obtain ⟨i,hi,rfl⟩:=List.mem_map.mp z; exact True.intro
  generalize Txt.join (Str.ofString " ") _=rr at hasc ⊢
  refine ⟨_,rfl,sc,_,dxs,_,.ref te,rfl,hsc7,T.cl_Scene,T.a_Scene_tent,rfl,_,rfl,_,rfl,sc,_,dxs,_,.ref po,rfl,hsc7,T.cl_Scene,T.a_Scene_pools,rfl,_,rfl,sc,_,dxs,_,wo,rfl,hsc7,T.cl_Scene,T.a_Scene_worths,rfl,?_⟩
  intro sc' dxs' hsc' hdxs' hne'
  refine ⟨sc',dxs',_,_,_,_,rfl,Zc,rfl,?_⟩
  rw [Wx]
  have s8:Same H7 (upd (upd H7 dxs' (.own sc')) sc' (.ins t.C_Scene dxs' (Wh (.ref te) (.ref th') (.ref po) wo))):=Same.add (Same.new hdxs') hsc'
  have c8:(upd (upd H7 dxs' (.own sc')) sc' (.ins t.C_Scene dxs' (Wh (.ref te) (.ref th') (.ref po) wo))) sc'=some (.ins t.C_Scene dxs' (Wh (.ref te) (.ref th') (.ref po) wo)):=Zc
  generalize upd (upd H7 dxs' (.own sc')) sc' (.ins t.C_Scene dxs' (Wh (.ref te) (.ref th') (.ref po) wo))=H8 at s8 c8 ⊢
  obtain ⟨qs,d1,d2,d3⟩:=hds
  have s08:=s07.trans s8
  have s48:=s47.trans s8
  refine ⟨p,dx,be,sc,st,un,sc',rr,qs.map V.ref,rfl,s08 _ _ hp,s08 _ _ d1,by rw [List.length_map]; omega,λq un' H9 hq hun o9 p9 st9 q9 u9=>?_⟩
  have ne:∀ {HX:Hp} {b:Addr},Same H HX->HX b=none->b≠p/\b≠st:=λ{HX b} sx hb=>⟨(λz=>by rw [z,sx _ _ hp] at hb; cases hb),(λz=>by rw [z,sx _ _ d1] at hb; cases hb)⟩
  obtain ⟨n1,n2⟩:=ne s07 hsc'
  obtain ⟨n3,n4⟩:=ne (s02.trans s3) hth'
  obtain ⟨n5,n6⟩:=ne s02 hw'
  refine kQ e1 e2 e3 e4 H9 sc' dxs' th' w' un' rr hasc (λb u b1 b2 e=>o9 b u b1 b2 (s08 b u e)) p9 (o9 _ _ n1 n2 c8) (o9 _ _ n3 n4 (s48 _ _ h4)) (o9 _ _ n5 n6 (s48 _ _ w4)) ⟨qs ++ [q],by rw [st9,List.map_append]; rfl,by rw [List.length_append,List.length_append,d2]; rfl,λi z y hz hy=>?_⟩ u9
  by_cases c:i < qs.length
  ·rw [List.getElem?_append_left c] at hz
   rw [List.getElem?_append_left (by omega)] at hy
   obtain ⟨v,hv⟩:=d3 i z y hz hy
   exact ⟨v,o9 _ _ (λe=>by rw [e,hp] at hv; cases hv) (λe=>by rw [e,d1] at hv; cases hv) (s08 _ _ hv)⟩
  ·have hi:i=qs.length:=by
    have:=(List.getElem?_eq_some_iff.mp hz).1
    rw [List.length_append,List.length_singleton] at this
    omega
   subst hi
   rw [List.getElem?_append_right (Nat.le_refl _),Nat.sub_self] at hz
   rw [List.getElem?_append_right (by omega),d2,Nat.sub_self] at hy
   cases hz
   cases hy
   exact ⟨_,q9⟩
theorem Zfd (ns:List Int):∀ n,(keys ns n).length<=n
 | 0=>Nat.le_refl _
 | n + 1=>by
  have ih:=Zfd ns n
  cases h:ns[n]? with
  | none =>
   have:keys ns (n + 1)=keys ns n:=by
    show (match ns[n]? with | some x=>if x∈keys ns n then keys ns n else keys ns n ++ [x] | none=>keys ns n)=_
    rw [h]
   rw [this]; omega
  | some x =>
   rw [W4 h]
   split
   ·omega
   ·rw [List.length_append,List.length_singleton]; omega
theorem Zd5 {M:List (Option Nat)} {ns:List Int} (td:TD M ns) {q m:Nat} (h:M[q]?=some (some m)):∃ y,ns[q]?=some y/\y∈keys ns ns.length:=by
 have hq:q < ns.length:=by rw [td.len]; exact (List.getElem?_eq_some_iff.mp h).1
 exact ⟨_,List.getElem?_eq_getElem hq,Wc.mpr ⟨q,hq,List.getElem?_eq_getElem hq⟩⟩
noncomputable def Zbt (C:Addr):Sp:=λvs H Q _=>∃ (p a b:Addr) (M:List (Option Nat)) (ns:List Int) (ws us:List Nat),vs=[.ref p,.ref a,.ref b]/\Zy C H p M ns/\M.length=ns.length/\H a=some (.lst (ws.map nV))/\H b=some (.lst (us.map nV))/\ws.length<=10000/\us.length<=10000/\Pl M ws/\Pl M us /\
 ∀ (L1 L2:List Int) (H':Hp),Same H H'->HT.IsLeast (Oy M ws) L1->HT.IsLeast (Oy M us) L2->Q (.bl (decide (L1=L2))) H'
noncomputable def X6 (t:Adr):Sp:=λvs H Q E=>∃ (p a:Addr) (M:List (Option Nat)) (ns ws:List Int),vs=[.ref p,.ref a]/\Zy t.C_Tent H p M ns/\M.length=ns.length/\H a=some (.lst (ws.map V.int))/\ws.length<=1000/\Z1 M ws=false/\∀ H',Same H H'->E (.ref t.E_NoThread) none H'
noncomputable def Zem (t:Adr):Sp:=λvs H Q E=>∃ (p a b:Addr) (M:List (Option Nat)) (ns ws:List Int),vs=[.ref p,.ref a,.ref b]/\Zy t.C_Tent H p M ns/\M.length=ns.length/\H a=some (.lst (ws.map V.int))/\ws.length<=1000/\Z1 M ws=false/\∀ H',Same H H'->E (.ref t.E_NoThread) none H'
noncomputable def Zel (t:Adr):Sp:=λvs H Q E=>∃ (p a b:Addr) (M:List (Option Nat)) (ns us:List Int) (ws:List Nat),vs=[.ref p,.ref b,.ref a]/\Zy t.C_Tent H p M ns/\M.length=ns.length/\H b=some (.lst (ws.map nV))/\ws.length<=1000/\Pl M ws/\H a=some (.lst (us.map V.int))/\us.length<=1000/\Z1 M us=false/\∀ H',Same H H'->E (.ref t.E_NoThread) none H'
noncomputable def Zej (t:Adr):Sp:=λvs H Q E=>∃ (p a:Addr) (d:V) (M:List (Option Nat)) (ns ws:List Int),vs=[.ref p,d,.ref a]/\Zy t.C_Tent H p M ns/\M.length=ns.length/\H a=some (.lst (ws.map V.int))/\ws.length<=1000/\Z1 M ws=false/\∀ H',Same H H'->E (.ref t.E_NoThread) none H'
theorem Vy:FnScope ["tent","word","crossed","place"] ["tent","word"] (Zg Zeq):=⟨rfl,rfl,rfl,by decide +kernel,rfl,by decide +kernel,by decide +kernel⟩
theorem Zj8 (T:Txt w K mg t):FnOk P w K mg base (CXr P w) 7 t.f_tally t.d_tally ["tent","word"] (Zbp t.C_Tent):=by
  refine T.p_tally.F.okX Vy (λvs H Q E h=>?_) (λcdv A outer s H vs Q E hr h=>?_)
  · obtain ⟨p,a,M,ns,ws,rfl,_⟩:=h
    rfl
  · obtain ⟨p,a,M,ns,ws,rfl,ta,td,h64,ha,hl,hP,k⟩:=h
    have hu:=Wp hr
    refine ⟨_,(Zp (Z0 (Zw (Yc T) (hr.mono (by decide)) rfl T.p_look_thread.g T.p_look_thread.F.kp T.p_look_thread.b .nil (Za (pv 0) (Za (pv 1) Zb))))
      (Zp (Ya (Zco (ts:=["seam"]) (fv:=[]) (i:=2) ⟨rfl,by decide +kernel,by decide +kernel,Yk (by rfl),trivial⟩ rfl Vy.nd rfl rfl (by rfl) (Yp (V3 (pv 0) T.cl_Tent T.p_Tent_seams.m (Ul T) (hr.mono (by decide)) T.p_Tent_seams.b .nil Zs)) (λ_ _ _ _=>(Zq (i:=0) (show List.Nodup (["seam"]:List Str) from by decide +kernel) rfl (Or.inl rfl) (Or.inr rfl))) (λ_ _ _ _=>Yu) (λ_ _ _=>rfl) (λ_ _ _ _ _ _=>Ku (pv 0) Zd)))
      (Zp (Ya (Xb PassesOwn.never rfl (Yp (pv 1)) (Zq (i:=3) Vy.nd rfl (Or.inl rfl)) (Zh (Zmf hu (pv 2) (Xf (pv 0) T.cl_Tent T.p_Tent_seam_at.m (Vd T) (hr.mono (by decide)) T.p_Tent_seam_at.b .nil Zs (Za (pv 3) Zb)) Zd Zon (by intros; rfl)))))
      (Zm (Ya (Zr (pv 2))))))),?_⟩
    refine ⟨_,rfl,_,rfl,p,a,M,ns,wI ws,rfl,ta,td.len.symm,by rw [ha,Wo],by rw [Xz]; omega,λH1 s1=>⟨λ_=>?_,λz=>absurd ((W3.mpr hP).symm.trans z) (by decide)⟩⟩
    have ta1:=ta.same s1
    obtain ⟨dx,cl,na,sp,mt,o,ff,b⟩:=id ta1
    refine ⟨_,rfl,p,dx,_,rfl,b.ins,Yq _ _ _ _,p,M,ns,rfl,ta1,h64,λl ks hl1 hpm _=>?_⟩
    have s2:Same H1 (upd H1 l (.lst (ks.map V.int))):=Same.new hl1
    have h2:(upd H1 l (.lst (ks.map V.int))) l=some (.lst (ks.map V.int)):=Zc
    generalize upd H1 l (.lst (ks.map V.int))=H2 at s2 h2 ⊢
    have hkn:ks.Nodup:=hpm.nodup_iff.mpr (Qi ns ns.length)
    have hkl:ks.length<=64:=by rw [hpm.length_eq]; have:=Zfd ns ns.length; omega
    refine ⟨l,rfl,⟨_,SqL.of h2⟩,λD hD=>?_⟩
    refine Yt (xs:=ks.map V.int) (λi σ H3=>∃ v,σ=[v]/\Same H2 H3/\H3 D=some (.dK (dI (ks.take i) λ_=>0))) ⟨none,rfl,Same.new hD,Zc⟩ ?_ ?_ ?_
    · rintro i σ H3 _ ⟨v,rfl,s3,h3⟩
      exact SqL.of (s3 _ _ h2)
    · rintro i x σ H3 hx ⟨v,rfl,s3,h3⟩
      obtain ⟨y,hy,rfl⟩:=Yf hx
      dsimp only [Zv,tYes]
      rw [if_pos rfl]
      refine ⟨_,rfl,_,Sum.inl y,rfl,h3,(by rw [Zi7,List.length_take]; exact Zx (by omega)),_,rfl,Same.add s3 hD,?_⟩
      rw [Zc,List.take_add_one,hy]
      have hny:y ∉ ks.take i:=λz=>by
        obtain ⟨j,hj,e⟩:=List.mem_iff_getElem.mp z
        rw [List.length_take] at hj
        have e1:ks[j]?=some y:=by rw [<- e,List.getElem_take,List.getElem?_eq_getElem]
        have hi:i < ks.length:=(List.getElem?_eq_some_iff.mp hy).1
        have e2:ks[j]'(by omega)=ks[i]:=by
          have:=(List.getElem?_eq_some_iff.mp e1).2
          have:=(List.getElem?_eq_some_iff.mp hy).2
          simp_all
        have:=(List.getElem_inj hkn).mp e2
        omega
      rw [Zow hny]
      show some (HO.dK (dI (ks.take i ++ [y]) λx=>if x=y then 0 else 0))=some (HO.dK (dI (ks.take i ++ [y]) λ_=>0))
      congr 2
      exact Zdj λx _=>by split <;> rfl
    rintro σ H3 ⟨v,rfl,s3,h3⟩
    rw [List.length_map,List.take_length] at h3
    try dsimp only [Zv]
    have s03:=s1.trans (s2.trans s3)
    have hD0:=s1.free (s2.free hD)
    show tSeq (tFor _ _ _) _ _ _ _
    refine Zz (λσ H'=>∃ v,σ=[some (.ref p),some (.ref a),some (.ref D),v]/\Same H H'/\H' D=some (.dK (dI ks (crS ns ws)))) (λnx hnx=>?_) ?_
    · refine ⟨_,rfl,a,rfl,⟨_,SqL.of (s03 _ _ ha)⟩,?_⟩
      have e0:dI ks (λ_=>0)=dI ks (crS ns (ws.take 0)):=rfl
      rw [e0] at h3
      refine Jn (xs:=ws.map nV) (λi σ H'=>∃ v,σ=[some (.ref p),some (.ref a),some (.ref D),v]/\Same H H'/\H' D=some (.dK (dI ks (crS ns (ws.take i))))) ⟨_,rfl,s03,h3⟩ ?_ ?_ ?_
      · rintro i σ H' _ ⟨v,rfl,s4,h4⟩
        exact SqL.of (s4 _ _ ha)
      · rintro i x σ H' hx ⟨v,rfl,s4,h4⟩
        obtain ⟨q,hq,rfl⟩:=Yf hx
        obtain ⟨m',hm'⟩:=hP.has q (List.mem_of_getElem? hq)
        obtain ⟨y,hy,hyk⟩:=Zd5 td hm'
        have hyks:=hpm.mem_iff.mpr hyk
        have ta4:=ta.same s4
        obtain ⟨dx4,cl4,na4,sp4,mt4,o4,ff4,b4⟩:=id ta4
        have hqn:q < ns.length:=(List.getElem?_eq_some_iff.mp hy).1
        dsimp only [Zv]
        refine ⟨_,rfl,_,rfl,p,dx4,_,rfl,b4.ins,Yq _ _ _ _,_,rfl,p,M,ns,q,rfl,ta4,λi' y' z1 z2=>?_,λz=>absurd (show (0:Int)<=q/\(q:Int) < ns.length by omega) z⟩
        have:i'=q:=by omega
        subst this
        rw [hy] at z2
        cases z2
        refine ⟨D,V.int (crS ns (ws.take i) y),rfl,.inl ⟨_,Sum.inl y,.inl h4,rfl,(Zou hyks).symm⟩,_,_,rfl,rfl,_,DPut.k (k:=Sum.inl y) h4 (by rw [Zi7]; exact Zx (by omega)),?_⟩
        refine ⟨_,rfl,Same.add s4 hD0,?_⟩
        rw [Zc,Zov hyks]
        congr 2
        exact Zdj λx _=>(Zk4 hq hy x).symm
      · rintro σ H' ⟨v,rfl,s4,h4⟩
        rw [List.length_map,List.take_length] at h4
        exact hnx _ _ ⟨v,rfl,s4,h4⟩
    · rintro σ H' ⟨v,rfl,s4,h4⟩
      exact ⟨_,rfl,k D ks H' s4 hD0 hpm h4⟩
theorem Kp:FnScope ["tent","one","other"] ["tent","one","other"] (Zg Zeu):=⟨rfl,rfl,rfl,by decide +kernel,rfl,by decide +kernel,by decide +kernel⟩
theorem Zkd (T:Txt w K mg t):FnOk P w K mg base (CXr P w) 9 t.f_alike t.d_alike ["tent","one","other"] (Zbt t.C_Tent):=by
 refine T.p_alike.F.okR Kp (λvs H Q E h=>?_) (λcdv A outer s H vs Q E hr h=>?_)
 ·obtain ⟨p,a,b,M,ns,ws,vs',rfl,_⟩:=h
  rfl
 ·obtain ⟨p,a,b,M,ns,ws,us,rfl,ta,hMl,ha,hb,la,lb,pa,pb,k⟩:=h
  refine ⟨_,(Zh (Zr (Vq (Zcx hr.units) (Zo (Kz T) (hr.mono (by decide)) rfl T.p_least.g T.p_least.F.kp T.p_least.b .nil Zs (Za (pv 0) (Za (pv 1) Zb))) (Zo (Kz T) (hr.mono (by decide)) rfl T.p_least.g T.p_least.F.kp T.p_least.b .nil Zs (Za (pv 0) (Za (pv 2) Zb))) (Zn _)))),?_⟩
  refine ⟨_,rfl,_,rfl,p,a,M,ns,ws,rfl,ta,hMl,ha,la,pa,λl1 L1 H1 s1 hl1 h1 m1=>?_⟩
  refine ⟨_,rfl,_,rfl,p,b,M,ns,us,rfl,ta.same s1,hMl,s1 _ _ hb,lb,pb,λl2 L2 H2 s2 hl2 h2 m2=>?_⟩
  exact ⟨l1,l2,L1,L2,rfl,rfl,SqL.of (s2 _ _ h1),SqL.of h2,k L1 L2 H2 (s1.trans s2) m1 m2⟩
theorem Od (T:Txt w K mg t):FnOk P w K mg base (CXr P w) 7 t.f_backward t.d_backward ["tent","word"] (X6 t):=by
 refine T.p_backward.F.okX O6 (λvs H Q E h=>?_) (λcdv A outer s H vs Q E hr h=>?_)
 ·obtain ⟨p,a,M,ns,ws,rfl,_⟩:=h
  rfl
 ·obtain ⟨p,a,M,ns,ws,rfl,ta,hMl,ha,hl,hP,k⟩:=h
  refine ⟨_,(Zp (Z0 (Zw (Yc T) (hr.mono (by decide)) rfl T.p_look_thread.g T.p_look_thread.F.kp T.p_look_thread.b .nil (Za (pv 0) (Za (pv 1) Zb))))
   (W0 Y4)),?_⟩
  exact ⟨_,rfl,_,rfl,p,a,M,ns,ws,rfl,ta,hMl,ha,by omega,λH1 s1=>⟨λz=>absurd (hP.symm.trans z) (by decide),λ_=>k H1 s1⟩⟩
theorem Zh3 (T:Txt w K mg t):FnOk P w K mg base (CXr P w) 7 t.f_times t.d_times ["tent","word"] (X6 t):=by
 refine T.p_times.F.okX Vx (λvs H Q E h=>?_) (λcdv A outer s H vs Q E hr h=>?_)
 ·obtain ⟨p,a,M,ns,ws,rfl,_⟩:=h
  rfl
 ·obtain ⟨p,a,M,ns,ws,rfl,ta,hMl,ha,hl,hP,k⟩:=h
  refine ⟨_,(Zp (Z0 (Zw (Yc T) (hr.mono (by decide)) rfl T.p_look_thread.g T.p_look_thread.F.kp T.p_look_thread.b .nil (Za (pv 0) (Za (pv 1) Zb))))
   (W0 Y4)),?_⟩
  exact ⟨_,rfl,_,rfl,p,a,M,ns,ws,rfl,ta,hMl,ha,by omega,λH1 s1=>⟨λz=>absurd (hP.symm.trans z) (by decide),λ_=>k H1 s1⟩⟩
theorem Kf (T:Txt w K mg t):FnOk P w K mg base (CXr P w) 7 t.f_letters t.d_letters ["tent","word"] (X6 t):=by
 refine T.p_letters.F.okX Gi (λvs H Q E h=>?_) (λcdv A outer s H vs Q E hr h=>?_)
 ·obtain ⟨p,a,M,ns,ws,rfl,_⟩:=h
  rfl
 ·obtain ⟨p,a,M,ns,ws,rfl,ta,hMl,ha,hl,hP,k⟩:=h
  refine ⟨_,(Zp (Z0 (Zw (Yc T) (hr.mono (by decide)) rfl T.p_look_thread.g T.p_look_thread.F.kp T.p_look_thread.b .nil (Za (pv 0) (Za (pv 1) Zb))))
   (W0 Y4)),?_⟩
  exact ⟨_,rfl,_,rfl,p,a,M,ns,ws,rfl,ta,hMl,ha,by omega,λH1 s1=>⟨λz=>absurd (hP.symm.trans z) (by decide),λ_=>k H1 s1⟩⟩
theorem Zh4 (T:Txt w K mg t):FnOk P w K mg base (CXr P w) 7 t.f_tally t.d_tally ["tent","word"] (X6 t):=by
 refine T.p_tally.F.okX Vy (λvs H Q E h=>?_) (λcdv A outer s H vs Q E hr h=>?_)
 ·obtain ⟨p,a,M,ns,ws,rfl,_⟩:=h
  rfl
 ·obtain ⟨p,a,M,ns,ws,rfl,ta,hMl,ha,hl,hP,k⟩:=h
  refine ⟨_,(Zp (Z0 (Zw (Yc T) (hr.mono (by decide)) rfl T.p_look_thread.g T.p_look_thread.F.kp T.p_look_thread.b .nil (Za (pv 0) (Za (pv 1) Zb))))
   (W0 Y4)),?_⟩
  exact ⟨_,rfl,_,rfl,p,a,M,ns,ws,rfl,ta,hMl,ha,by omega,λH1 s1=>⟨λz=>absurd (hP.symm.trans z) (by decide),λ_=>k H1 s1⟩⟩
theorem Zkb (T:Txt w K mg t):FnOk P w K mg base (CXr P w) 7 t.f_flow t.d_flow ["tent","word"] (X6 t):=by
 refine T.p_flow.F.okX Om (λvs H Q E h=>?_) (λcdv A outer s H vs Q E hr h=>?_)
 ·obtain ⟨p,a,M,ns,ws,rfl,_⟩:=h
  rfl
 ·obtain ⟨p,a,M,ns,ws,rfl,ta,hMl,ha,hl,hP,k⟩:=h
  refine ⟨_,(Zp (Z0 (Zw (Yc T) (hr.mono (by decide)) rfl T.p_look_thread.g T.p_look_thread.F.kp T.p_look_thread.b .nil (Za (pv 0) (Za (pv 1) Zb))))
   (W0 Y4)),?_⟩
  exact ⟨_,rfl,_,rfl,p,a,M,ns,ws,rfl,ta,hMl,ha,by omega,λH1 s1=>⟨λz=>absurd (hP.symm.trans z) (by decide),λ_=>k H1 s1⟩⟩
theorem Zh9 (T:Txt w K mg t):FnOk P w K mg base (CXr P w) 8 t.f_least t.d_least ["tent","word"] (X6 t):=by
 refine T.p_least.F.okX Vz (λvs H Q E h=>?_) (λcdv A outer s H vs Q E hr h=>?_)
 ·obtain ⟨p,a,M,ns,ws,rfl,_⟩:=h
  rfl
 ·obtain ⟨p,a,M,ns,ws,rfl,ta,hMl,ha,hl,hP,k⟩:=h
  refine ⟨_,(Zp (Je (i:=2) Vz.nd rfl (Or.inl rfl) (Zw (Od T) (hr.mono (by decide)) rfl T.p_backward.g T.p_backward.F.kp T.p_backward.b .nil (Za (pv 0) (Za (pv 1) Zb))))
   (W0 Y4)),?_⟩
  exact ⟨_,rfl,_,rfl,p,a,M,ns,ws,rfl,ta,hMl,ha,hl,hP,k⟩
noncomputable def Zek (t:Adr):Sp:=λvs H Q E=>∃ (p wd:Addr) (M:List (Option Nat)) (ns:List Int) (x:Int) (left:Bool) (a b:Nat) (ws:List Int),vs=[.ref p,.int x,.str (wayS left),.ref wd]/\Zy t.C_Tent H p M ns/\TD M ns/\x∈keys ns ns.length/\pl ns ns.length x=[a,b]/\a / 3≠b / 3/\H wd=some (.lst (ws.map V.int))/\ws.length<=1000/\Z1 M ws=false/\∀ H',Same H H'->E (.ref t.E_NoThread) none H'
noncomputable def Zhb (t:Adr):Sp:=λvs H Q E=>∃ (p m a:Addr) (M:List (Option Nat)) (ns ws:List Int),vs=[.ref p,.ref m,.ref a]/\Zy t.C_Tent H p M ns/\M.length=ns.length/\H m=some (.lst [])/\H a=some (.lst (ws.map V.int))/\ws.length<=1000/\(Z1 M ws=false->∀ H',Same H H'->E (.ref t.E_NoThread) none H')/\(Z1 M ws=true->∀ (l:Addr) (H':Hp),Same H H'->Q (.ref l) H')
theorem J3 (T:Txt w K mg t):FnOk P w K mg base (CXr P w) 8 t.f_least t.d_least ["tent","word"] (λvs H Q E=>Zbr t.C_Tent vs H Q E\/X6 t vs H Q E):=(Kz T).or (Zh9 T)
theorem Zih (T:Txt w K mg t):FnOk P w K mg base (CXr P w) 9 t.f_alike t.d_alike ["tent","one","other"] (Zem t):=by
 refine T.p_alike.F.okX Kp (λvs H Q E h=>?_) (λcdv A outer s H vs Q E hr h=>?_)
 ·obtain ⟨p,a,b,M,ns,ws,rfl,_⟩:=h
  rfl
 ·obtain ⟨p,a,b,M,ns,ws,rfl,ta,hMl,ha,hl,hP,k⟩:=h
  refine ⟨_,(Zm (Zey (Ze5 (Zw (J3 T) (hr.mono (by decide)) rfl T.p_least.g T.p_least.F.kp T.p_least.b .nil (Za (pv 0) (Za (pv 1) Zb))) (Zw (J3 T) (hr.mono (by decide)) rfl T.p_least.g T.p_least.F.kp T.p_least.b .nil (Za (pv 0) (Za (pv 2) Zb))) (Zcx hr.units) (Zn _)))),?_⟩
  exact ⟨_,rfl,_,rfl,.inr ⟨p,a,M,ns,ws,rfl,ta,hMl,ha,hl,hP,k⟩⟩
theorem Zgf (T:Txt w K mg t):FnOk P w K mg base (CXr P w) 9 t.f_alike t.d_alike ["tent","one","other"] (Zel t):=by
 refine T.p_alike.F.okX Kp (λvs H Q E h=>?_) (λcdv A outer s H vs Q E hr h=>?_)
 ·obtain ⟨p,a,b,M,ns,us,ws,rfl,_⟩:=h
  rfl
 ·obtain ⟨p,a,b,M,ns,us,ws,rfl,ta,hMl,hb,hl,hP,ha,hl2,hN,k⟩:=h
  refine ⟨_,(Zm (Zey (Ze5 (Zw (J3 T) (hr.mono (by decide)) rfl T.p_least.g T.p_least.F.kp T.p_least.b .nil (Za (pv 0) (Za (pv 1) Zb))) (Zw (J3 T) (hr.mono (by decide)) rfl T.p_least.g T.p_least.F.kp T.p_least.b .nil (Za (pv 0) (Za (pv 2) Zb))) (Zcx hr.units) (Zn _)))),?_⟩
  refine ⟨_,rfl,_,rfl,.inl ⟨p,b,M,ns,ws,rfl,ta,hMl,hb,by omega,hP,λl1 L1 H1 s1 hl1 h1 m1=>?_⟩⟩
  exact ⟨_,rfl,_,rfl,.inr ⟨p,a,M,ns,us,rfl,ta.same s1,hMl,s1 _ _ ha,hl2,hN,λH' s'=>k H' (s1.trans s')⟩⟩
theorem Zh1 (T:Txt w K mg t):FnOk P w K mg base (CXr P w) 8 t.f_worth t.d_worth ["tent","worths","word"] (Zej t):=by
 refine T.p_worth.F.okX Ww (λvs H Q E h=>?_) (λcdv A outer s H vs Q E hr h=>?_)
 ·obtain ⟨p,a,d,M,ns,ws,rfl,_⟩:=h
  rfl
 ·obtain ⟨p,a,d,M,ns,ws,rfl,ta,hMl,ha,hl,hP,k⟩:=h
  refine ⟨_,(Zp (Je (i:=3) Ww.nd rfl (Or.inl rfl) (Zw (Kf T) (hr.mono (by decide)) rfl T.p_letters.g T.p_letters.F.kp T.p_letters.b .nil (Za (pv 0) (Za (pv 2) Zb))))
   (W0 Y4)),?_⟩
  exact ⟨_,rfl,_,rfl,p,a,M,ns,ws,rfl,ta,hMl,ha,hl,hP,k⟩
theorem Zf7 (T:Txt w K mg t):FnOk P w K mg base (CXr P w) 7 t.f_pulled t.d_pulled ["tent","seam","way","word"] (Zek t):=by
 refine T.p_pulled.F.okX Xh (λvs H Q E h=>?_) (λcdv A outer s H vs Q E hr h=>?_)
 ·obtain ⟨p,wd,M,ns,x,left,a,b,ws,rfl,_⟩:=h
  rfl
 ·obtain ⟨p,wd,M,ns,x,left,a,b,ws,rfl,ta,td,hk,hpl,hab,hw,hl,hP,k⟩:=h
  refine ⟨_,(Zp (Je (i:=4) Xh.nd rfl (Or.inl rfl) (Zw (Zaj T) (hr.mono (by decide)) rfl T.p_shifts.g T.p_shifts.F.kp T.p_shifts.b .nil (Za (pv 0) (Za (pv 1) (Za (pv 2) Zb)))))
   (Zp (Z0 (Zw (Yc T) (hr.mono (by decide)) rfl T.p_look_thread.g T.p_look_thread.F.kp T.p_look_thread.b .nil (Za (pv 0) (Za (pv 3) Zb))))
   (W0 Y4))),?_⟩
  refine ⟨_,rfl,_,rfl,_,rfl,p,M,ns,x,wayS left,rfl,ta,td,Wrong.free td hk hpl hab λH1 s1 d hd0 hd=>?_⟩
  exact ⟨_,rfl,_,rfl,p,wd,M,ns,ws,rfl,ta.same s1,td.len.symm,s1 _ _ hw,by omega,λH2 s2=>⟨λz=>absurd (hP.symm.trans z) (by decide),λ_=>k H2 (s1.trans s2)⟩⟩
theorem X9:FnScope ["tent","moves","word","seam","way"] ["tent","moves","word"] (Zg Vl):=⟨rfl,rfl,rfl,by decide +kernel,rfl,by decide +kernel,by decide +kernel⟩
theorem Gz (T:Txt w K mg t):FnOk P w K mg base (CXr P w) 8 t.f_pulled_along t.d_pulled_along ["tent","moves","word"] (Zhb t):=by
 refine T.p_pulled_along.F.okX X9 (λvs H Q E h=>?_) (λcdv A outer s H vs Q E hr h=>?_)
 ·obtain ⟨p,m,a,M,ns,ws,rfl,_⟩:=h
  rfl
 ·obtain ⟨p,m,a,M,ns,ws,rfl,ta,hMl,hm,ha,hl,kN,kQ⟩:=h
  refine ⟨_,(Zp (Z0 (Zw (Yc T) (hr.mono (by decide)) rfl T.p_look_thread.g T.p_look_thread.F.kp T.p_look_thread.b .nil (Za (pv 0) (Za (pv 2) Zb))))
   (Zp (Ya (Zu (i:=2) X9.nd rfl (Or.inl rfl) (Yw Yz (by rfl) T.n_list PySem.Pv.boot_list (Za (pv 2) Zb))))
   (Zp (Ya (Xb PassesOwn.never rfl (Yp (pv 1)) (W6 rfl (Z3 (Zq (i:=3) X9.nd rfl (Or.inl rfl)) (Z3 (Zq (i:=4) X9.nd rfl (Or.inl rfl)) Xo))) (Zf Kq
   (Zh Kq))))
   (Zm (Ya (Zr (pv 2))))))),?_⟩
  refine ⟨_,rfl,_,rfl,p,a,M,ns,ws,rfl,ta,hMl,ha,by omega,λH1 s1=>⟨λz=>?_,λz=>kN z H1 s1⟩⟩
  refine ⟨_,rfl,a,_,rfl,.inl (SqL.of (s1 _ _ ha)),λl hl1=>?_⟩
  have s2:Same H1 (upd H1 l (.lst (ws.map V.int))):=Same.new hl1
  have hm2:(upd H1 l (.lst (ws.map V.int))) m=some (.lst ([].map V.ref)):=s2 _ _ (s1 _ _ hm)
  dsimp only [Zv]
  refine ⟨_,rfl,m,rfl,⟨_,SqL.of hm2⟩,?_⟩
  refine Jn (xs:=[].map V.ref) (λi σ H3=>σ=[some (.ref p),some (.ref m),some (.ref l),none,none]/\H3=upd H1 l (.lst (ws.map V.int))) ⟨rfl,rfl⟩ ?_ ?_ ?_
  ·rintro i σ H3 _ ⟨rfl,rfl⟩
   exact SqL.of hm2
  ·rintro i x σ H3 hx ⟨rfl,rfl⟩
   cases hx
  ·rintro σ H3 ⟨rfl,rfl⟩
   exact ⟨_,rfl,kQ z _ _ (s1.trans s2)⟩
theorem Zc1 (T:Txt w K mg t):FnOk P w K mg base (CXr P w) 7 t.f_backward t.d_backward ["tent","word"] (λvs H Q E=>O3 t.C_Tent vs H Q E\/X6 t vs H Q E):=(Kg T).or (Od T)
theorem Zai (T:Txt w K mg t):FnOk P w K mg base (CXr P w) 7 t.f_times t.d_times ["tent","word"] (λvs H Q E=>Zbo t.C_Tent vs H Q E\/X6 t vs H Q E):=(Zj7 T).or (Zh3 T)
theorem Zea (T:Txt w K mg t):FnOk P w K mg base (CXr P w) 7 t.f_letters t.d_letters ["tent","word"] (λvs H Q E=>Ge t.C_Tent vs H Q E\/X6 t vs H Q E):=(G0 T).or (Kf T)
theorem Zh5 (T:Txt w K mg t):FnOk P w K mg base (CXr P w) 7 t.f_tally t.d_tally ["tent","word"] (λvs H Q E=>Zbp t.C_Tent vs H Q E\/X6 t vs H Q E):=(Zj8 T).or (Zh4 T)
theorem Zkc (T:Txt w K mg t):FnOk P w K mg base (CXr P w) 7 t.f_flow t.d_flow ["tent","word"] (λvs H Q E=>Zen t.C_Tent vs H Q E\/X6 t vs H Q E):=(Zmn T).or (Zkb T)
theorem Zal (T:Txt w K mg t):FnOk P w K mg base (CXr P w) 9 t.f_alike t.d_alike ["tent","one","other"] (λvs H Q E=>Zbt t.C_Tent vs H Q E\/Zem t vs H Q E\/Zel t vs H Q E):=(Zkd T).or ((Zih T).or (Zgf T))
theorem Zh2 (T:Txt w K mg t):FnOk P w K mg base (CXr P w) 8 t.f_worth t.d_worth ["tent","worths","word"] (λvs H Q E=>Zbm t.C_Tent vs H Q E\/Zej t vs H Q E):=(Zj6 T).or (Zh1 T)
theorem Zf8 (T:Txt w K mg t):FnOk P w K mg base (CXr P w) 7 t.f_pulled t.d_pulled ["tent","seam","way","word"] (λvs H Q E=>F5 t.C_Tent vs H Q E\/Zek t vs H Q E):=(Zh7 T).or (Zf7 T)
theorem Zho {M:List (Option Nat)} {ws:List Int} (h:Z1 M ws=true):∃ us:List Nat,ws=wI us/\Pl M us:=by
 have hall:=((J0 (Ks h)).mp h).1
 have key:∀ l:List Int,(∀ p∈l,Yv M p=true)->∃ us:List Nat,l=wI us:=by
  intro l
  induction l with
  | nil=>exact λ_=>⟨[],rfl⟩
  | cons q l ih =>
   intro hq
   obtain ⟨us,hus⟩:=ih λp hp=>hq p (List.mem_cons_of_mem _ hp)
   obtain ⟨u,m,hu,_⟩:=K8 (hq q (List.mem_cons_self ..))
   exact ⟨u :: us,by rw [hu,hus]; rfl⟩
 obtain ⟨us,hus⟩:=key ws hall
 exact ⟨us,hus,W3.mp (by rw [<- hus]; exact h)⟩
theorem Zol:isN "ab"=true:=by decide +kernel
structure GoIn (t:Adr) (H:Hp) (d:Int) (p a gd wo:Addr) (M:List (Option Nat)) (ns ws:List Int) (gs:List Nat) (ks:List Int) (gw:Int->Nat × Nat) (x:Int):Prop where
 d0:0<=d/\d < 12
 ta:Zy t.C_Tent H p M ns
 td:TD M ns
 h64:ns.length < 64
 ha:H a=some (.lst (ws.map V.int))
 hl:ws.length<=100
 hg:H gd=some (.lst (gs.map nV))
 hgl:gs.length<=100
 gP:d=2\/d=3->Pl M gs
 wo:Z1 M ws=true->WAt H wo ks gw/\SwK M ns ks/\∀ y∈ks,1<=(gw y).1/\1<=(gw y).2/\(gw y).1<=100/\(gw y).2<=100
 se:d=11->∃ u v:Nat,x∈keys ns ns.length/\pl ns ns.length x=[u,v]/\u / 3≠v / 3
noncomputable def Zl2 (t:Adr):Sp:=λvs H Q E=>∃ (d:Int) (p a gd wo:Addr) (M:List (Option Nat)) (ns ws:List Int) (gs:List Nat) (ks:List Int) (gw:Int->Nat × Nat) (x:Int),vs=[.int d,.ref p,.ref a,.ref gd,.int x,.ref wo]/\GoIn t H d p a gd wo M ns ws gs ks gw x/\(Z1 M ws=true->∀ H',Same H H'->Q .non H')/\(Z1 M ws=false->∀ H',Same H H'->E (.ref t.E_NoThread) none H')
noncomputable def Zg3 (t:Adr):Sp:=λvs H Q _=>∃ (d:Int) (p a gd wo:Addr) (M:List (Option Nat)) (ns ws:List Int) (gs:List Nat) (ks:List Int) (gw:Int->Nat × Nat) (x:Int),vs=[.int d,.ref p,.ref a,.ref gd,.int x,.ref wo]/\GoIn t H d p a gd wo M ns ws gs ks gw x/\∀ H',Same H H'->Q (.str (if Z1 M ws=true then "" else "no thread")) H'
noncomputable def Zjq (t:Adr):Sp:=λvs H Q _=>∃ (p a:Addr) (M:List (Option Nat)) (ns ws:List Int),vs=[.ref p,.ref a]/\Zy t.C_Tent H p M ns/\M.length=ns.length/\H a=some (.lst (ws.map V.int))/\ws.length<=100/\∀ H',Same H H'->Q (.str (if Z1 M ws=true then "" else "no thread")) H'
theorem Zm1 {t:Adr} {H0:Hp} {h dh lr:Addr} {ns:List Int} {ts:List Addr} (r2:ns.length=3 * ts.length) (r3:∀ (k:Nat) (q:Addr),ts[k]?=some q->H0 q=some (.tup (row3 ns k))) (hlr:H0 lr=none) (hh:(upd H0 lr (.lst (ts.map V.ref))) h=none) (hdh:(upd H0 lr (.lst (ts.map V.ref))) dh=none):Y2 (upd (upd (upd H0 lr (.lst (ts.map V.ref))) dh (.own h)) h (.ins t.C_Hall dh [])) lr ns/\Same H0 (upd (upd (upd H0 lr (.lst (ts.map V.ref))) dh (.own h)) h (.ins t.C_Hall dh [])):=by
 have s1:Same H0 (upd H0 lr (.lst (ts.map V.ref))):=Same.new hlr
 have s2:Same (upd H0 lr (.lst (ts.map V.ref))) (upd (upd (upd H0 lr (.lst (ts.map V.ref))) dh (.own h)) h (.ins t.C_Hall dh [])):=Same.add (Same.new hdh) hh
 exact ⟨⟨ts,s2 _ _ Zc,r2,λk q e=>s2 _ _ (s1 _ _ (r3 k q e))⟩,s1.trans s2⟩
theorem Zl8:FnScope ["_law_door","_law_tent_here","_law_row_here","_law_good","_law_seam_here","_law_worths"] ["_law_door","_law_tent_here","_law_row_here","_law_good","_law_seam_here","_law_worths"] (Zg Zhi):=⟨rfl,rfl,rfl,by decide +kernel,rfl,by decide +kernel,by decide +kernel⟩
theorem Zmm (T:Txt w K mg t):FnOk P w K mg base (CXr P w) 10 t.f_l_go t.d_l_go ["_law_door","_law_tent_here","_law_row_here","_law_good","_law_seam_here","_law_worths"] (Zl2 t):=by
 refine T.p_l_go.F.okX Zl8 (λvs H Q E h=>?_) (λcdv A outer s H vs Q E hr h=>?_)
 ·obtain ⟨d,p,a,gd,wo,M,ns,ws,gs,ks,gw,x,rfl,_⟩:=h
  rfl
 ·obtain ⟨d,p,a,gd,wo,M,ns,ws,gs,ks,gw,x,rfl,G,kQ,kE⟩:=h
  refine ⟨_,(Zm (Yy (Zk Ye (pv 0) Zd (Zn _)) (Zm (Z0 (Zw (Zc1 T) (hr.mono (by decide)) rfl T.p_backward.g T.p_backward.F.kp T.p_backward.b .nil (Za (pv 1) (Za (pv 2) Zb))))) (Zm (Yy (Zk Ye (pv 0) Zd (Zn _)) (Zm (Z0 (Zw (J3 T) (hr.mono (by decide)) rfl T.p_least.g T.p_least.F.kp T.p_least.b .nil (Za (pv 1) (Za (pv 2) Zb))))) (Zm (Yy (Zk Ye (pv 0) Zd (Zn _)) (Zm (Z0 (Zw (Zal T) (hr.mono (by decide)) rfl T.p_alike.g T.p_alike.F.kp T.p_alike.b .nil (Za (pv 1) (Za (pv 2) (Za (pv 3) Zb)))))) (Zm (Yy (Zk Ye (pv 0) Zd (Zn _)) (Zm (Z0 (Zw (Zal T) (hr.mono (by decide)) rfl T.p_alike.g T.p_alike.F.kp T.p_alike.b .nil (Za (pv 1) (Za (pv 3) (Za (pv 2) Zb)))))) (Zm (Yy (Zk Ye (pv 0) Zd (Zn _)) (Zm (Z0 (Zw (Zai T) (hr.mono (by decide)) rfl T.p_times.g T.p_times.F.kp T.p_times.b .nil (Za (pv 1) (Za (pv 2) Zb))))) (Zm (Yy (Zk Ye (pv 0) Zd (Zn _)) (Zm (Z0 (Zw (Zea T) (hr.mono (by decide)) rfl T.p_letters.g T.p_letters.F.kp T.p_letters.b .nil (Za (pv 1) (Za (pv 2) Zb))))) (Zm (Yy (Zk Ye (pv 0) Zd (Zn _)) (Zm (Z0 (Zw (Gz T) (hr.mono (by decide)) rfl T.p_pulled_along.g T.p_pulled_along.F.kp T.p_pulled_along.b .nil (Za (pv 1) (Za (Xd Zb) (Za (pv 2) Zb)))))) (Zm (Yy (Zk Ye (pv 0) Zd (Zn _)) (Zm (Z0 (Zw (Zh5 T) (hr.mono (by decide)) rfl T.p_tally.g T.p_tally.F.kp T.p_tally.b .nil (Za (pv 1) (Za (pv 2) Zb))))) (Zm (Yy (Zk Ye (pv 0) Zd (Zn _)) (Zm (Z0 (Zw (Zkc T) (hr.mono (by decide)) rfl T.p_flow.g T.p_flow.F.kp T.p_flow.b .nil (Za (pv 1) (Za (pv 2) Zb))))) (Zm (Yy (Zk Ye (pv 0) Zd (Zn _)) (Zm (Z0 (Zw (Zh2 T) (hr.mono (by decide)) rfl T.p_worth.g T.p_worth.F.kp T.p_worth.b .nil (Za (pv 1) (Za (pv 5) (Za (pv 2) Zb)))))) (Zm (Yy (Zk Ye (pv 0) Zd (Zn _)) (Zm (Z0 (Qw (Vp T.mk_Hall (Zc3 T) (hr.mono (by decide)) rfl T.gC_Hall T.p_Hall_init.b .nil Zs (Za (V3 (pv 1) T.cl_Tent T.p_Tent_rows.m (Zc2 T) (hr.mono (by decide)) T.p_Tent_rows.b .nil Zs) Zb)) T.cl_Hall T.p_Hall_lay.m (Zed T) (hr.mono (by decide)) T.p_Hall_lay.b .nil (Za Yb (Za (pv 2) Zb))))) (Zm (Z0 (Zw (Zf8 T) (hr.mono (by decide)) rfl T.p_pulled.g T.p_pulled.F.kp T.p_pulled.b .nil (Za (pv 1) (Za (pv 4) (Za Yb (Za (pv 2) Zb))))))))))))))))))))))))))))),?_⟩
  obtain ⟨ta,td,h64,ha,hl,hg,hgl,gP,gW,gS⟩:=And.intro G.ta (And.intro G.td (And.intro G.h64 (And.intro G.ha (And.intro G.hl (And.intro G.hg (And.intro G.hgl (And.intro G.gP (And.intro G.wo G.se))))))))
  obtain ⟨dx,cl,na,sp,mt,o,ff,B⟩:=id ta
  have hMl:=td.len.symm
  have d0:=G.d0
  have hd':d=0\/d=1\/d=2\/d=3\/d=4\/d=5\/d=6\/d=7\/d=8\/d=9\/d=10\/d=11:=by omega
  have cut:∀ {R:Prop},(Z1 M ws=false->R)->(∀ us:List Nat,Z1 M ws=true->Pl M us->H a=some (.lst (us.map nV))->us.length<=100->R)->R:=λ{R} f g=>by
   cases e:Z1 M ws with
   | false=>exact f e
   | true =>
    obtain ⟨us,hus,hP⟩:=Zho e
    exact g us e hP (by rw [ha,hus,Wo]) (by rw [hus,Xz] at hl; exact hl)
  clear G
  rcases hd' with rfl | rfl | rfl | rfl | rfl | rfl | rfl | rfl | rfl | rfl | rfl | rfl
  ·refine cut (λz=>?_) (λus z hP hu hul=>?_)
   ·exact ⟨_,rfl,rfl,_,rfl,iteT (⟨_,rfl,_,rfl,.inr ⟨p,a,M,ns,ws,rfl,ta,hMl,ha,by omega,z,kE z⟩⟩)⟩
   ·exact ⟨_,rfl,rfl,_,rfl,iteT (⟨_,rfl,_,rfl,.inl ⟨p,a,M,ns,us,rfl,ta,hMl,hu,by omega,hP,λl H' s' _ _=>kQ z H' s'⟩⟩)⟩
  ·refine cut (λz=>?_) (λus z hP hu hul=>?_)
   ·exact ⟨_,rfl,rfl,_,rfl,iteF ⟨_,rfl,rfl,_,rfl,iteT (⟨_,rfl,_,rfl,.inr ⟨p,a,M,ns,ws,rfl,ta,hMl,ha,by omega,z,kE z⟩⟩)⟩⟩
   ·exact ⟨_,rfl,rfl,_,rfl,iteF ⟨_,rfl,rfl,_,rfl,iteT (⟨_,rfl,_,rfl,.inl ⟨p,a,M,ns,us,rfl,ta,hMl,hu,by omega,hP,λl L H' s' _ _ _=>kQ z H' s'⟩⟩)⟩⟩
  ·refine cut (λz=>?_) (λus z hP hu hul=>?_)
   ·exact ⟨_,rfl,rfl,_,rfl,iteF ⟨_,rfl,rfl,_,rfl,iteF ⟨_,rfl,rfl,_,rfl,iteT (⟨_,rfl,_,rfl,_,rfl,.inr (.inl ⟨p,a,gd,M,ns,ws,rfl,ta,hMl,ha,by omega,z,kE z⟩)⟩)⟩⟩⟩
   ·exact ⟨_,rfl,rfl,_,rfl,iteF ⟨_,rfl,rfl,_,rfl,iteF ⟨_,rfl,rfl,_,rfl,iteT (⟨_,rfl,_,rfl,_,rfl,.inl ⟨p,a,gd,M,ns,us,gs,rfl,ta,hMl,hu,hg,by omega,by omega,hP,gP (.inl rfl),λL1 L2 H' s' _ _=>kQ z H' s'⟩⟩)⟩⟩⟩
  ·refine cut (λz=>?_) (λus z hP hu hul=>?_)
   ·exact ⟨_,rfl,rfl,_,rfl,iteF ⟨_,rfl,rfl,_,rfl,iteF ⟨_,rfl,rfl,_,rfl,iteF ⟨_,rfl,rfl,_,rfl,iteT (⟨_,rfl,_,rfl,_,rfl,.inr (.inr ⟨p,a,gd,M,ns,ws,gs,rfl,ta,hMl,hg,by omega,gP (.inr rfl),ha,by omega,z,kE z⟩)⟩)⟩⟩⟩⟩
   ·exact ⟨_,rfl,rfl,_,rfl,iteF ⟨_,rfl,rfl,_,rfl,iteF ⟨_,rfl,rfl,_,rfl,iteF ⟨_,rfl,rfl,_,rfl,iteT (⟨_,rfl,_,rfl,_,rfl,.inl ⟨p,gd,a,M,ns,gs,us,rfl,ta,hMl,hg,hu,by omega,by omega,gP (.inr rfl),hP,λL1 L2 H' s' _ _=>kQ z H' s'⟩⟩)⟩⟩⟩⟩
  ·refine cut (λz=>?_) (λus z hP hu hul=>?_)
   ·exact ⟨_,rfl,rfl,_,rfl,iteF ⟨_,rfl,rfl,_,rfl,iteF ⟨_,rfl,rfl,_,rfl,iteF ⟨_,rfl,rfl,_,rfl,iteF ⟨_,rfl,rfl,_,rfl,iteT (⟨_,rfl,_,rfl,.inr ⟨p,a,M,ns,ws,rfl,ta,hMl,ha,by omega,z,kE z⟩⟩)⟩⟩⟩⟩⟩
   ·exact ⟨_,rfl,rfl,_,rfl,iteF ⟨_,rfl,rfl,_,rfl,iteF ⟨_,rfl,rfl,_,rfl,iteF ⟨_,rfl,rfl,_,rfl,iteF ⟨_,rfl,rfl,_,rfl,iteT (⟨_,rfl,_,rfl,.inl ⟨p,a,M,ns,ws,rfl,ta,hMl,ha,by omega,z,λH' d s' _ _ _ _=>kQ z H' s'⟩⟩)⟩⟩⟩⟩⟩
  ·refine cut (λz=>?_) (λus z hP hu hul=>?_)
   ·exact ⟨_,rfl,rfl,_,rfl,iteF ⟨_,rfl,rfl,_,rfl,iteF ⟨_,rfl,rfl,_,rfl,iteF ⟨_,rfl,rfl,_,rfl,iteF ⟨_,rfl,rfl,_,rfl,iteF ⟨_,rfl,rfl,_,rfl,iteT (⟨_,rfl,_,rfl,.inr ⟨p,a,M,ns,ws,rfl,ta,hMl,ha,by omega,z,kE z⟩⟩)⟩⟩⟩⟩⟩⟩
   ·exact ⟨_,rfl,rfl,_,rfl,iteF ⟨_,rfl,rfl,_,rfl,iteF ⟨_,rfl,rfl,_,rfl,iteF ⟨_,rfl,rfl,_,rfl,iteF ⟨_,rfl,rfl,_,rfl,iteF ⟨_,rfl,rfl,_,rfl,iteT (⟨_,rfl,_,rfl,.inl ⟨p,a,M,ns,us,rfl,ta,hMl,hu,by omega,hP,λH' s'=>kQ z H' s'⟩⟩)⟩⟩⟩⟩⟩⟩
  ·exact ⟨_,rfl,rfl,_,rfl,iteF ⟨_,rfl,rfl,_,rfl,iteF ⟨_,rfl,rfl,_,rfl,iteF ⟨_,rfl,rfl,_,rfl,iteF ⟨_,rfl,rfl,_,rfl,iteF ⟨_,rfl,rfl,_,rfl,iteF ⟨_,rfl,rfl,_,rfl,iteT (⟨_,rfl,(by show 0<=sizeLine; decide),λm hm=>⟨_,rfl,p,m,a,M,ns,ws,rfl,ta.same (Same.new hm),hMl,Zc,Same.new hm _ _ ha,by omega,λz H' s'=>kE z H' ((Same.new hm).trans s'),λz l H' s'=>kQ z H' ((Same.new hm).trans s')⟩⟩)⟩⟩⟩⟩⟩⟩⟩
  ·refine cut (λz=>?_) (λus z hP hu hul=>?_)
   ·exact ⟨_,rfl,rfl,_,rfl,iteF ⟨_,rfl,rfl,_,rfl,iteF ⟨_,rfl,rfl,_,rfl,iteF ⟨_,rfl,rfl,_,rfl,iteF ⟨_,rfl,rfl,_,rfl,iteF ⟨_,rfl,rfl,_,rfl,iteF ⟨_,rfl,rfl,_,rfl,iteF ⟨_,rfl,rfl,_,rfl,iteT (⟨_,rfl,_,rfl,.inr ⟨p,a,M,ns,ws,rfl,ta,hMl,ha,by omega,z,kE z⟩⟩)⟩⟩⟩⟩⟩⟩⟩⟩
   ·exact ⟨_,rfl,rfl,_,rfl,iteF ⟨_,rfl,rfl,_,rfl,iteF ⟨_,rfl,rfl,_,rfl,iteF ⟨_,rfl,rfl,_,rfl,iteF ⟨_,rfl,rfl,_,rfl,iteF ⟨_,rfl,rfl,_,rfl,iteF ⟨_,rfl,rfl,_,rfl,iteF ⟨_,rfl,rfl,_,rfl,iteT (⟨_,rfl,_,rfl,.inl ⟨p,a,M,ns,us,rfl,ta,td,h64,hu,by omega,hP,λl ks H' s' _ _ _=>kQ z H' s'⟩⟩)⟩⟩⟩⟩⟩⟩⟩⟩
  ·refine cut (λz=>?_) (λus z hP hu hul=>?_)
   ·exact ⟨_,rfl,rfl,_,rfl,iteF ⟨_,rfl,rfl,_,rfl,iteF ⟨_,rfl,rfl,_,rfl,iteF ⟨_,rfl,rfl,_,rfl,iteF ⟨_,rfl,rfl,_,rfl,iteF ⟨_,rfl,rfl,_,rfl,iteF ⟨_,rfl,rfl,_,rfl,iteF ⟨_,rfl,rfl,_,rfl,iteF ⟨_,rfl,rfl,_,rfl,iteT (⟨_,rfl,_,rfl,.inr ⟨p,a,M,ns,ws,rfl,ta,hMl,ha,by omega,z,kE z⟩⟩)⟩⟩⟩⟩⟩⟩⟩⟩⟩
   ·exact ⟨_,rfl,rfl,_,rfl,iteF ⟨_,rfl,rfl,_,rfl,iteF ⟨_,rfl,rfl,_,rfl,iteF ⟨_,rfl,rfl,_,rfl,iteF ⟨_,rfl,rfl,_,rfl,iteF ⟨_,rfl,rfl,_,rfl,iteF ⟨_,rfl,rfl,_,rfl,iteF ⟨_,rfl,rfl,_,rfl,iteF ⟨_,rfl,rfl,_,rfl,iteT (⟨_,rfl,_,rfl,.inl ⟨p,a,M,ns,us,rfl,ta,hMl,by omega,td.inv,hu,by omega,hP,λl H' s' _ _=>kQ z H' s'⟩⟩)⟩⟩⟩⟩⟩⟩⟩⟩⟩
  ·refine cut (λz=>?_) (λus z hP hu hul=>?_)
   ·exact ⟨_,rfl,rfl,_,rfl,iteF ⟨_,rfl,rfl,_,rfl,iteF ⟨_,rfl,rfl,_,rfl,iteF ⟨_,rfl,rfl,_,rfl,iteF ⟨_,rfl,rfl,_,rfl,iteF ⟨_,rfl,rfl,_,rfl,iteF ⟨_,rfl,rfl,_,rfl,iteF ⟨_,rfl,rfl,_,rfl,iteF ⟨_,rfl,rfl,_,rfl,iteF ⟨_,rfl,rfl,_,rfl,iteT (⟨_,rfl,_,rfl,_,rfl,.inr ⟨p,a,_,M,ns,ws,rfl,ta,hMl,ha,by omega,z,kE z⟩⟩)⟩⟩⟩⟩⟩⟩⟩⟩⟩⟩
   ·exact ⟨_,rfl,rfl,_,rfl,iteF ⟨_,rfl,rfl,_,rfl,iteF ⟨_,rfl,rfl,_,rfl,iteF ⟨_,rfl,rfl,_,rfl,iteF ⟨_,rfl,rfl,_,rfl,iteF ⟨_,rfl,rfl,_,rfl,iteF ⟨_,rfl,rfl,_,rfl,iteF ⟨_,rfl,rfl,_,rfl,iteF ⟨_,rfl,rfl,_,rfl,iteF ⟨_,rfl,rfl,_,rfl,iteT (⟨_,rfl,_,rfl,_,rfl,.inl ⟨p,wo,a,M,ns,ks,gw,us,rfl,ta,td,h64,(gW z).1,(gW z).2.1,(gW z).2.2,hu,hul,hP,λr H' s' _=>kQ z H' s'⟩⟩)⟩⟩⟩⟩⟩⟩⟩⟩⟩⟩
  ·refine ⟨_,rfl,rfl,_,rfl,iteF ⟨_,rfl,rfl,_,rfl,iteF ⟨_,rfl,rfl,_,rfl,iteF ⟨_,rfl,rfl,_,rfl,iteF ⟨_,rfl,rfl,_,rfl,iteF ⟨_,rfl,rfl,_,rfl,iteF ⟨_,rfl,rfl,_,rfl,iteF ⟨_,rfl,rfl,_,rfl,iteF ⟨_,rfl,rfl,_,rfl,iteF ⟨_,rfl,rfl,_,rfl,iteF ⟨_,rfl,rfl,_,rfl,iteT (⟨_,rfl,p,dx,_,rfl,B.ins,Yq _ _ _ _,p,M,ns,rfl,ta,λlr ts hlr ts1 ts2=>λh dh hh hdh hne=>?_⟩)⟩⟩⟩⟩⟩⟩⟩⟩⟩⟩⟩
   obtain ⟨ro,sr⟩:=Zm1 (t:=t) ts1 ts2 hlr hh hdh
   refine ⟨h,lr,dh,M,ns,rfl,Zc,ro,td,h64,λH3 old hn=>⟨rfl,?_⟩⟩
   obtain ⟨be,sc',st,un,dxs,th,po,wo',ks',hn,hst0⟩:=hn
   have hhn:H h=none:=(Wt hh).2
   have s3:Same H H3:=λb u e=>old b u (Zj e hhn) (sr b u e)
   have hst1:H st=none:=by
    cases e:H st with
    | none=>rfl
    | some u=>have z:=sr _ _ e; rw [hst0] at z; cases z
   have hnn:∀ i∈ws,Z1 M ws=true->0<=i/\i < 1000000:=λi hi z=>by
    obtain ⟨u,m,hu,hm⟩:=K8 (((J0 (Ks z)).mp z).1 i hi)
    have:=(List.getElem?_eq_some_iff.mp hm).1
    omega
   refine ⟨h,dh,_,rfl,hn.ins,rfl,_,rfl,h,dh,be,sc',st,un,dxs,be,th,po,a,.ref wo',Str.ofString "ab",[],[],M,ns,ws,[],rfl,hn.ins,hn.scn,hn.thr,hn.poo,hn.tent,hMl,by omega,⟨[],hn.sta,rfl,λi q x e=>nomatch e⟩,by decide,by decide,by decide +kernel,by decide +kernel,s3 _ _ ha,by omega,λz i hi=>hnn i hi z,λz=>absurd (Zol.symm.trans z) (by decide),λ_ z=>absurd z (by decide),λ_ _ z H' s'=>kE z H' (s3.trans s'),λ_ _ _ z=>absurd hl (by omega),λ_ _ z _ H' sc2 dxs2 th2 w2 un2 r _ o9 _ _ _ _ _ _=>kQ z H' λb u eb=>o9 b u (Zj eb hhn) (Zj eb hst1) (s3 b u eb)⟩
  ·obtain ⟨u,v,hk,hpl,huv⟩:=gS rfl
   refine cut (λz=>?_) (λus z hP hu hul=>?_)
   ·exact ⟨_,rfl,rfl,_,rfl,iteF ⟨_,rfl,rfl,_,rfl,iteF ⟨_,rfl,rfl,_,rfl,iteF ⟨_,rfl,rfl,_,rfl,iteF ⟨_,rfl,rfl,_,rfl,iteF ⟨_,rfl,rfl,_,rfl,iteF ⟨_,rfl,rfl,_,rfl,iteF ⟨_,rfl,rfl,_,rfl,iteF ⟨_,rfl,rfl,_,rfl,iteF ⟨_,rfl,rfl,_,rfl,iteF ⟨_,rfl,rfl,_,rfl,iteF (⟨_,rfl,_,rfl,_,rfl,.inr ⟨p,a,M,ns,x,false,u,v,ws,rfl,ta,td,hk,hpl,huv,ha,by omega,z,kE z⟩⟩)⟩⟩⟩⟩⟩⟩⟩⟩⟩⟩⟩
   ·exact ⟨_,rfl,rfl,_,rfl,iteF ⟨_,rfl,rfl,_,rfl,iteF ⟨_,rfl,rfl,_,rfl,iteF ⟨_,rfl,rfl,_,rfl,iteF ⟨_,rfl,rfl,_,rfl,iteF ⟨_,rfl,rfl,_,rfl,iteF ⟨_,rfl,rfl,_,rfl,iteF ⟨_,rfl,rfl,_,rfl,iteF ⟨_,rfl,rfl,_,rfl,iteF ⟨_,rfl,rfl,_,rfl,iteF ⟨_,rfl,rfl,_,rfl,iteF (⟨_,rfl,_,rfl,_,rfl,.inl ⟨p,a,M,ns,x,false,u,v,us,rfl,ta,td,hk,hpl,huv,hu,by omega,hP,λl H' s' _ _=>kQ z H' s'⟩⟩)⟩⟩⟩⟩⟩⟩⟩⟩⟩⟩⟩
theorem Uy:FnScope ["_law_door","_law_tent_here","_law_row_here","_law_good","_law_seam_here","_law_worths","_law_told_here"] ["_law_door","_law_tent_here","_law_row_here","_law_good","_law_seam_here","_law_worths"] (Zg Zcc):=⟨rfl,rfl,rfl,by decide +kernel,rfl,by decide +kernel,by decide +kernel⟩
theorem Zib (T:Txt w K mg t):FnOk P w K mg base (CXr P w) 11 t.f_l_told t.d_l_told ["_law_door","_law_tent_here","_law_row_here","_law_good","_law_seam_here","_law_worths"] (Zg3 t):=by
 refine T.p_l_told.F.okR Uy (λvs H Q E h=>?_) (λcdv A outer s H vs Q E hr h=>?_)
 ·obtain ⟨d,p,a,gd,wo,M,ns,ws,gs,ks,gw,x,rfl,_⟩:=h
  rfl
 ·obtain ⟨d,p,a,gd,wo,M,ns,ws,gs,ks,gw,x,rfl,G,k⟩:=h
  refine ⟨_,(Zf (Zu (i:=6) Uy.nd rfl (Or.inl rfl) Yb)
   (Zf (Zez (Zm (Z0 (Zw (Zmm T) (hr.mono (by decide)) rfl T.p_l_go.g T.p_l_go.F.kp T.p_l_go.b .nil (Za (pv 0) (Za (pv 1) (Za (pv 2) (Za (pv 3) (Za (pv 4) (Za (pv 5) Zb))))))))) (Zmz rfl T.gx_NoThread (λ_=>(Zh (Zu (i:=6) Uy.nd rfl (Or.inl rfl) Yb))) Ziv))
   (Zh (Zr (pv 6))))),?_⟩
  refine ⟨_,rfl,_,rfl,_,rfl,_,rfl,_,rfl,_,rfl,d,p,a,gd,wo,M,ns,ws,gs,ks,gw,x,rfl,G,λz H' s'=>⟨_,rfl,?_⟩,λz H' s'=>⟨true,T.yx_NoThread_NoThread,iteT ⟨_,rfl,?_⟩⟩⟩
  ·have k:=k H' s'
   rw [if_pos z] at k
   exact k
  ·have k:=k H' s'
   rw [if_neg (λy=>absurd (z.symm.trans y) (by decide))] at k
   exact k
theorem Qe:FnScope ["_law_tent_here","_law_row_here","_law_told_here","e"] ["_law_tent_here","_law_row_here"] (Zg Zab):=⟨rfl,rfl,rfl,by decide +kernel,rfl,by decide +kernel,by decide +kernel⟩
theorem Zgb (T:Txt w K mg t):FnOk P w K mg base (CXr P w) 8 t.f_l_based t.d_l_based ["_law_tent_here","_law_row_here"] (Zjq t):=by
 refine T.p_l_based.F.okR Qe (λvs H Q E h=>?_) (λcdv A outer s H vs Q E hr h=>?_)
 ·obtain ⟨p,a,M,ns,ws,rfl,_⟩:=h
  rfl
 ·obtain ⟨p,a,M,ns,ws,rfl,ta,hMl,ha,hl,k⟩:=h
  refine ⟨_,(Zf (Zu (i:=2) Qe.nd rfl (Or.inl rfl) Yb)
   (Zf (Zez (Zm (Z0 (Zw (Zai T) (hr.mono (by decide)) rfl T.p_times.g T.p_times.F.kp T.p_times.b .nil (Za (pv 0) (Za (pv 1) Zb))))) (Zpw (i:=3) rfl T.gx_TentError Qe.nd rfl rfl (λ_ _=>(Zh (Zu (i:=2) Qe.nd rfl (Or.inl rfl) (Qy (Qv (Zt Zdo (by rfl) T.n_isinstance PyProof.Rows.boot_isinstance (Za (pv 3) (Za (Ze7 (v:=.ty "ValueError") (by rfl) T.n_ValueError Fg rfl) Zb)))) Yb Yb)))) Ziv))
   (Zh (Zr (pv 2))))),?_⟩
  cases e:Z1 M ws with
  | true =>
   refine ⟨_,rfl,_,rfl,.inl ⟨p,a,M,ns,ws,rfl,ta,hMl,ha,by omega,e,λH' d s' _ _ _ _=>⟨_,rfl,?_⟩⟩⟩
   have k:=k H' s'
   rw [if_pos e] at k
   exact k
  | false =>
   refine ⟨_,rfl,_,rfl,.inr ⟨p,a,M,ns,ws,rfl,ta,hMl,ha,by omega,e,λH' s'=>⟨true,T.yx_NoThread_TentError,iteT λex ob ho=>?_⟩⟩⟩
   refine ⟨_,rfl,"ValueError",rfl,(by rw [ho]; exact T.kv_NoThread),?_⟩
   have k:=k H' s'
   rw [if_neg (λy=>absurd (e.symm.trans y) (by decide))] at k
   exact ⟨true,rfl,iteT ⟨_,rfl,k⟩⟩
theorem Zir {n c:Nat} (h:c < n):ixN n (c:Int)=some c:=by
 unfold ixN
 rw [if_pos (by omega),if_pos (by omega),Int.toNat_natCast]
theorem Zfh:∀ (ws:List Int) (c:Nat),(ws.map V.int).eraseIdx c=(ws.eraseIdx c).map V.int
 | [],_=>rfl
 | _ :: _,0=>rfl
 | x :: ws,c + 1=>by
  show V.int x :: (ws.map V.int).eraseIdx c=V.int x :: (ws.eraseIdx c).map V.int
  rw [Zfh ws c]
noncomputable def Zjn (K:PySem.W.Frag):Sp:=λvs H Q _=>∃ (a m wd:Addr) (sc:List Int) (M:List (Option Nat)) (gs:List Nat),vs=[.ref a,.ref m,.ref wd]/\SqL K H a (sc.map V.int)/\sc.length<=63/\H m=some (.lst (M.map mV))/\M.length<=63/\H wd=some (.lst (gs.map nV))/\gs.length<=60 /\
 ∀ (l:Addr) (ws:List Int) (H':Hp),Same H H'->H l=none->H' l=some (.lst (ws.map V.int))->ws.length<=100->Q (.ref l) H'
theorem Qq:FnScope ["_law_script","_law_mates","_law_word","_law_pick","_law_nums","_law_row_here","_law_at"] ["_law_script","_law_mates","_law_word"] (Zg Zet):=⟨rfl,rfl,rfl,by decide +kernel,rfl,by decide +kernel,by decide +kernel⟩
theorem Zka (T:Txt w K mg t):FnOk P w K mg base (CXr P w) 2 t.f_l_row t.d_l_row ["_law_script","_law_mates","_law_word"] (Zjn K):=by
  refine T.p_l_row.F.okR Qq (λvs H Q E h=>?_) (λcdv A outer s H vs Q E hr h=>?_)
  · obtain ⟨a,m,wd,sc,M,gs,rfl,_⟩:=h
    rfl
  · obtain ⟨a,m,wd,sc,M,gs,rfl,hS,hl,hm,hM,hg,hgl,k⟩:=h
    refine ⟨_,(Zf (Zu (i:=3) Qq.nd rfl (Or.inl rfl) (Zo (X5 T) (hr.mono (by decide)) rfl T.p_l_cell.g T.p_l_cell.F.kp T.p_l_cell.b .nil Zs (Za (pv 0) (Za Zd Zb))))
      (Zf (Zu (i:=4) Qq.nd rfl (Or.inl rfl) (Zo (Q0 T) (hr.mono (by decide)) rfl T.p_l_numbers.g T.p_l_numbers.F.kp T.p_l_numbers.b .nil Zs (Za (Zo (X5 T) (hr.mono (by decide)) rfl T.p_l_cell.g T.p_l_cell.F.kp T.p_l_cell.b .nil Zs (Za (pv 0) (Za Zd Zb))) (Za Zd Zb))))
      (Zf (Yj (Zk Ye (Zi Z6 (pv 3) Zd) Zd (Zn _)) (Zh (Zr (Y6 (ts:=["_law_num"]) (fv:=[("_law_mates",1)]) ⟨rfl,by decide +kernel,by decide +kernel,Yk (by rfl),⟨⟨rfl,rfl,Or.inl rfl⟩,trivial⟩⟩ rfl (Yp (Qx Vk (pv 4) Op (Qn (Zi Z6 (Zi Ym (pv 3) Zd) Zd)))) (λ_ _ _ _=>(Zq (i:=0) (show List.Nodup (["_law_num","_law_mates"]:List Str) from by decide +kernel) rfl (Or.inl rfl) (Or.inr rfl))) (λ_ _ _ _=>Yu) (λ_ _ _=>rfl) (λ_ _ _ _ _ _=>Ys (Zi J1 (Zi Z6 (pv 0) (Zi Yn (Zt (Zbf K) (by rfl) T.n_len PySem.boot_len (Za (pv 1) Zb)) Zd)) Zd))))) Z7)
      (Zf (Zu (i:=5) Qq.nd rfl (Or.inl rfl) (Yw Yz (by rfl) T.n_list PySem.Pv.boot_list (Za (pv 2) Zb)))
      (Zf (Zu (i:=6) Qq.nd rfl (Or.inl rfl) (Zi Z6 (Zi Ym (pv 3) Zd) (Zi Yn (Zt Zl (by rfl) T.n_len PySem.boot_len (Za (pv 5) Zb)) Zd)))
      (Zf (Yj (Zk Ye (Zi Z6 (Zi Ym (pv 3) Zd) Zd) Zd (Zn _)) (Zh (Xn (Xx PySem.F.plainAttrs_list PySem.F.slot_list_insert PySem.F.type_list_insert Zik (pv 5) (Za (pv 6) (Za (Zi J1 (Zi Z6 (Z9 Z8 (pv 4) Zd (λ_ _=>rfl)) (Zi Yn (Zt Zl (by rfl) T.n_len PySem.boot_len (Za (pv 1) Zb)) Zd)) Zd) Zb))))) Z7)
      (Zf (Yj (PW.pt (Jx (Zk Ye (Zi Z6 (Zi Ym (pv 3) Zd) Zd) Zd (Zn _)) (Wz (Zk Wi (pv 6) (Zt Zl (by rfl) T.n_len PySem.boot_len (Za (pv 5) Zb)) (Zn _))))) (Zh (Xn (Xx PySem.F.plainAttrs_list PySem.F.slot_list_pop PySem.F.type_list_pop K2 (pv 5) (Za (pv 6) Zb)))) Z7)
      (Zf (Yj (PW.pt (Jx (Zk Ye (Zi Z6 (Zi Ym (pv 3) Zd) Zd) Zd (Zn _)) (Wz (Zk Wi (pv 6) (Zt Zl (by rfl) T.n_len PySem.boot_len (Za (pv 5) Zb)) (Zn _))))) (Zh (Jz (Zi J1 (Zi Z6 (Z9 Z8 (pv 4) Zd (λ_ _=>rfl)) (Zi Yn (Zt Zl (by rfl) T.n_len PySem.boot_len (Za (pv 1) Zb)) Zd)) Zd) (Ob (pv 5) (pv 6) Wv))) Z7)
      (Zh (Zr (pv 5))))))))))),?_⟩
    refine Z4 λnxC hnxC=>?_
    refine ⟨_,rfl,a,sc,4,rfl,hS,hl,by decide,by decide,?_⟩
    refine hnxC _ _ ?_
    try dsimp only [Zv]
    generalize cell sc 4=pick
    refine Z4 λnxC hnxC=>?_
    refine ⟨_,rfl,a,sc,5,rfl,hS,hl,by decide,by decide,cell sc 5,8,rfl,by decide,λnm xs H1 s1 hnm h1 hxl hx=>?_⟩
    refine hnxC _ _ ?_
    try dsimp only [Zv]
    have hm1:=s1 _ _ hm
    have hg1:=s1 _ _ hg
    have hMl:((M.map mV).length:Int) + 2≠0:=by omega
    have md:∀ y:Int,0 < ((M.map mV).length:Int) + 2:=λ_=>by omega
    refine Zz (λσ H2=>σ=[some (.ref a),some (.ref m),some (.ref wd),some (.int pick),some (.ref nm),none,none]/\H1=H2) (λnx hnx=>?_) ?_
    · refine ⟨_,rfl,_,_,rfl,rfl,(by show (0:Int) < 3; decide),rfl,_,rfl,?_⟩
      refine ite2 (λ_=>?_) (λ_=>hnx _ _ ⟨rfl,rfl⟩)
      have q0:=Int.emod_nonneg (pick / 3) (show (8:Int)≠0 by decide)
      have q1:=Int.emod_lt_of_pos (pick / 3) (show (0:Int) < 8 by decide)
      obtain ⟨c,hc⟩:∃ c:Nat,pick / 3 % 8=c:=⟨_,(Int.toNat_of_nonneg q0).symm⟩
      refine ⟨_,rfl,_,rfl,_,_,rfl,rfl,⟨by decide,by decide⟩,_,_,rfl,rfl,(by show (0:Int) < 8; decide),_,rfl,nm,_,rfl,SqL.of h1,λl2 hl2=>?_⟩
      dsimp only
      rw [hc,Zi8 (by omega)]
      have hzl:(xs.take c).length<=8:=by rw [List.length_take]; omega
      generalize xs.take c=zs at hzl
      have s5:Same H1 (upd H1 l2 (.lst (zs.map V.int))):=Same.new hl2
      have h5:(upd H1 l2 (.lst (zs.map V.int))) l2=some (.lst (zs.map V.int)):=Zc
      generalize upd H1 l2 (.lst (zs.map V.int))=H5 at s5 h5
      have hm5:=s5 _ _ hm1
      refine ⟨l2,rfl,⟨_,SqL.of h5⟩,λD hD=>?_⟩
      refine Yt (xs:=zs.map V.int) (λi σ H6=>∃ (v:Option V) (us:List Int),σ=[v,some (.ref m)]/\Same H5 H6/\H6 D=some (.lst (us.map V.int))/\us.length=i) ⟨none,[],rfl,Same.new hD,Zc,rfl⟩ ?_ ?_ ?_
      · rintro i σ H6 _ ⟨v,us,rfl,sm,h6,_⟩
        exact SqL.of (sm _ _ h5)
      · rintro i y σ H6 hy ⟨v,us,rfl,sm,h6,hul⟩
        obtain ⟨z,hz,rfl⟩:=Yf hy
        have hi:i < zs.length:=(List.getElem?_eq_some_iff.mp hz).1
        dsimp only [Zv,tYes]
        rw [if_pos rfl]
        refine ⟨_,rfl,_,rfl,m,_,rfl,.inl (SqL.of (sm _ _ hm5)),_,_,rfl,rfl,_,_,rfl,rfl,md 0,_,_,rfl,rfl,_,h6,?_,_,us ++ [z % (((M.map mV).length:Int) + 2) - 1],rfl,Same.add sm hD,?_,?_⟩
        · rw [List.length_map,hul]; exact Zx (by omega)
        · rw [Zc,List.map_append]; rfl
        · rw [List.length_append,hul]; rfl
      rintro σ H6 ⟨v,us,rfl,s6,h6,hul⟩
      have s16:=s1.trans (s5.trans s6)
      refine k D us H6 s16 ((s1.trans s5).free hD) h6 ?_
      rw [hul,List.length_map]; omega
    rintro σ H2 ⟨rfl,rfl⟩
    refine Z4 λnxC hnxC=>?_
    refine ⟨_,rfl,wd,_,rfl,.inl (SqL.of hg1),λl hl0=>?_⟩
    refine hnxC _ _ ?_
    rw [Wo]
    have hgl':(wI gs).length<=60:=by rw [Xz]; exact hgl
    generalize wI gs=ws at hgl'
    have s2:Same H1 (upd H1 l (.lst (ws.map V.int))):=Same.new hl0
    have h2:(upd H1 l (.lst (ws.map V.int))) l=some (.lst (ws.map V.int)):=Zc
    generalize upd H1 l (.lst (ws.map V.int))=H2 at s2 h2
    have s02:=s1.trans s2
    have hl00:H l=none:=s1.free hl0
    have hm2:=s2 _ _ hm1
    have hn2:=s2 _ _ h1
    try dsimp only [Zv]
    refine Z4 λnxC hnxC=>?_
    refine ⟨_,rfl,_,_,rfl,rfl,⟨by decide,by decide⟩,_,rfl,l,_,rfl,.inl (SqL.of h2),_,_,rfl,rfl,_,_,rfl,rfl,(by rw [List.length_map]; omega),?_⟩
    refine hnxC _ _ ?_
    dsimp only [Zv]
    rw [List.length_map]
    have k0:=Int.emod_nonneg (pick / 12) (show ((ws.length:Int) + 1)≠0 by omega)
    have k1:=Int.emod_lt_of_pos (pick / 12) (show (0:Int) < (ws.length:Int) + 1 by omega)
    obtain ⟨c,hc⟩:∃ c:Nat,pick / 12 % ((ws.length:Int) + 1)=c:=⟨_,(Int.toNat_of_nonneg k0).symm⟩
    rw [hc] at k1 ⊢
    have hcl:c<=ws.length:=by omega
    clear k0 k1 hc
    obtain ⟨x0,hx0⟩:∃ x,xs[0]?=some x:=⟨_,List.getElem?_eq_getElem (by omega)⟩
    have at0:atI (xs.map V.int) 0=some (V.int x0):=X2 (j:=0) (by rw [List.getElem?_map,hx0]; rfl)
    have hm2':=hm
    have nml:nm≠l:=Zj h1 hl0
    refine Zz (λσ H3=>∃ us:List Int,σ=[some (.ref a),some (.ref m),some (.ref wd),some (.int pick),some (.ref nm),some (.ref l),some (.int c)]/\Same H H3/\H3 m=some (.lst (M.map mV))/\H3 nm=some (.lst (xs.map V.int))/\H3 l=some (.lst (us.map V.int))/\us.length<=61) (λnx hnx=>?_) ?_
    · refine ⟨_,rfl,_,_,rfl,rfl,⟨by decide,by decide⟩,_,_,rfl,rfl,(by show (0:Int) < 4; decide),rfl,_,rfl,?_⟩
      refine ite2 (λ_=>?_) (λ_=>hnx _ _ ⟨ws,rfl,s02,hm2,hn2,h2,by omega⟩)
      have hzl:(ws.map V.int).length < sizeLine:=by rw [List.length_map,sizeLine_eq]; omega
      refine ⟨_,rfl,.inl ⟨rfl,_,SqL.of h2⟩,_,rfl,_,rfl,nm,_,_,_,rfl,rfl,SqL.of hn2,at0,_,rfl,m,_,rfl,.inl (SqL.of hm2),_,_,rfl,rfl,_,_,rfl,rfl,md 0,_,_,rfl,rfl,l,_,c,_,rfl,rfl,h2,by rw [List.length_map]; exact hcl,hzl,?_⟩
      refine hnx _ _ ⟨ws.take c ++ (x0 % (((M.map mV).length:Int) + 2) - 1) :: ws.drop c,rfl,Same.add s02 hl00,by rw [Ze (Zj hm2' hl00)]; exact hm2,by rw [Ze nml]; exact hn2,?_,?_⟩
      · rw [Zc,List.map_append,List.map_cons,List.map_take,List.map_drop]
      · rw [List.length_append,List.length_cons,List.length_take,List.length_drop]; omega
    rintro σ H3 ⟨us,rfl,s3,hm3,hn3,h3,hul⟩
    refine Zz (λσ H4=>∃ us:List Int,σ=[some (.ref a),some (.ref m),some (.ref wd),some (.int pick),some (.ref nm),some (.ref l),some (.int c)]/\Same H H4/\H4 m=some (.lst (M.map mV))/\H4 nm=some (.lst (xs.map V.int))/\H4 l=some (.lst (us.map V.int))/\us.length<=61) (λnx hnx=>?_) ?_
    · refine ⟨_,rfl,_,_,rfl,rfl,⟨by decide,by decide⟩,_,_,rfl,rfl,(by show (0:Int) < 4; decide),rfl,_,rfl,?_⟩
      have R:=hnx _ _ ⟨us,rfl,s3,hm3,hn3,h3,hul⟩
      refine ite2 (λ_=>?_) (λ_=>iteF R)
      refine ⟨_,rfl,_,rfl,l,_,rfl,.inl (SqL.of h3),_,_,rfl,rfl,_,rfl,?_⟩
      refine ite2 (λz=>?_) (λ_=>R)
      have hc':c < us.length:=by have:=of_decide_eq_true z; rw [List.length_map] at this; omega
      refine ⟨_,rfl,.inl ⟨rfl,_,SqL.of h3⟩,_,rfl,l,_,c,c,_,rfl,rfl,h3,by omega,by omega,(F0 (Zir (by rw [List.length_map]; exact hc'))).1,(by rw [List.getElem?_map,List.getElem?_eq_getElem hc']; rfl),?_⟩
      refine hnx _ _ ⟨us.eraseIdx c,rfl,Same.add s3 hl00,by rw [Ze (Zj hm2' hl00)]; exact hm3,by rw [Ze nml]; exact hn3,by rw [Zc,Zfh],?_⟩
      have:=List.length_eraseIdx_le us c
      omega
    rintro σ H4 ⟨us,rfl,s4,hm4,hn4,h4,hul4⟩
    refine Zz (λσ H5=>∃ us:List Int,σ=[some (.ref a),some (.ref m),some (.ref wd),some (.int pick),some (.ref nm),some (.ref l),some (.int c)]/\Same H H5/\H5 l=some (.lst (us.map V.int))/\us.length<=61) (λnx hnx=>?_) ?_
    · refine ⟨_,rfl,_,_,rfl,rfl,⟨by decide,by decide⟩,_,_,rfl,rfl,(by show (0:Int) < 4; decide),rfl,_,rfl,?_⟩
      have R:=hnx _ _ ⟨us,rfl,s4,h4,hul4⟩
      refine ite2 (λ_=>?_) (λ_=>iteF R)
      refine ⟨_,rfl,_,rfl,l,_,rfl,.inl (SqL.of h4),_,_,rfl,rfl,_,rfl,?_⟩
      refine ite2 (λz=>?_) (λ_=>R)
      have hc':c < us.length:=by have:=of_decide_eq_true z; rw [List.length_map] at this; omega
      refine ⟨_,rfl,nm,_,_,_,rfl,rfl,SqL.of hn4,at0,_,rfl,m,_,rfl,.inl (SqL.of hm4),_,_,rfl,rfl,_,_,rfl,rfl,md 0,_,_,rfl,rfl,_,rfl,_,rfl,l,_,c,c,rfl,rfl,h4,Zir (by rw [List.length_map]; exact hc'),?_⟩
      exact hnx _ _ ⟨us.set c (x0 % (((M.map mV).length:Int) + 2) - 1),rfl,Same.add s4 hl00,by rw [Zc,List.map_set],by rw [List.length_set]; omega⟩
    rintro σ H5 ⟨us,rfl,s5,h5,hul5⟩
    exact ⟨_,rfl,k l us H5 s5 hl00 h5 (by omega)⟩
theorem Ze8 {A B:Prop} {s s':Str} (e:s=s') (h:B):if (!decide (V.str s=V.str s'))=true then A else B:=by
 subst e
 rw [decide_eq_true rfl]
 exact iteF h
noncomputable def dueW (M:List (Option Nat)) (ws:List Int):Str:=if Z1 M ws=true then "" else "no thread"
noncomputable def okG (g:Int->Nat × Nat) (y:Int):Prop:=1<=(g y).1/\1<=(g y).2/\(g y).1<=100/\(g y).2<=100
structure KD (K:PySem.W.Frag) (t:Adr) (H:Hp) (a m r x gd rw:Addr) (sc:List Int) (M:List (Option Nat)) (ns ws:List Int) (gs:List Nat):Prop where
 hS:SqL K H a (sc.map V.int)
 hm:H m=some (.lst (M.map mV))
 rows:Y2 H r ns
 ta:Zy t.C_Tent H x M ns
 hg:H gd=some (.lst (gs.map nV))
 hw:H rw=some (.lst (ws.map V.int))
theorem KD.same {K:PySem.W.Frag} {t:Adr} {H H':Hp} {a m r x gd rw:Addr} {sc:List Int} {M:List (Option Nat)} {ns ws:List Int} {gs:List Nat} (h:KD K t H a m r x gd rw sc M ns ws gs) (s:Same H H'):KD K t H' a m r x gd rw sc M ns ws gs :=
 ⟨s.seq h.hS,s _ _ h.hm,h.rows.same s,h.ta.same s,s _ _ h.hg,s _ _ h.hw⟩
theorem Xp:FnScope ["_law_script","_law_mates","_law_rows_here","_law_tent_here","_law_good","_law_row_here","_law_due","_law_worths","_law_p","_law_spots","_law_seam_here","_law_door"] ["_law_script"] (Zg Zla):=⟨rfl,rfl,rfl,by decide +kernel,rfl,by decide +kernel,by decide +kernel⟩
theorem ok_law (T:Txt w K mg t):FnOk P w K mg base (CXr P w) 12 t.f_law t.d_law ["_law_script"] (sp_law K):=by
 refine T.p_law.F.okR Xp (λvs H Q E h=>?_) (λcdv A outer s H vs Q E hr h=>?_)
 ·obtain ⟨a,ns,rfl,_⟩:=h
  rfl
 ·obtain ⟨a,sc,rfl,hS,hl,k⟩:=h
  have hu:=Wp hr
  refine ⟨_,(Zf (Jz (Zo (Zic T) (hr.mono (by decide)) rfl T.p_l_tent.g T.p_l_tent.F.kp T.p_l_tent.b .nil Zs (Za (pv 0) Zb)) (W6 rfl (Z3 (Zq (i:=1) Xp.nd rfl (Or.inl rfl)) (Z3 (Zq (i:=2) Xp.nd rfl (Or.inl rfl)) Xo))))
   (Zf (Zu (i:=3) Xp.nd rfl (Or.inl rfl) (Vp T.mk_Tent (Oe T) (hr.mono (by decide)) rfl T.gC_Tent T.p_Tent_init.b .nil Zs (Za (Yw Yz (by rfl) T.n_list PySem.Pv.boot_list (Za (pv 2) Zb)) Zb)))
   (Zf (Zu (i:=4) Xp.nd rfl (Or.inl rfl) (Zo (Zeb T) (hr.mono (by decide)) rfl T.p_l_thread.g T.p_l_thread.F.kp T.p_l_thread.b .nil Zs (Za (pv 0) (Za Zd (Za (pv 1) Zb)))))
   (Zf (Zu (i:=5) Xp.nd rfl (Or.inl rfl) (Zo (Zka T) (hr.mono (by decide)) rfl T.p_l_row.g T.p_l_row.F.kp T.p_l_row.b .nil Zs (Za (pv 0) (Za (pv 1) (Za (pv 4) Zb)))))
   (Zf (Zu (i:=6) Xp.nd rfl (Or.inl rfl) Yb)
   (Zf (Yj (Jy (Qv (Zo (Zga T) (hr.mono (by decide)) rfl T.p_l_plain.g T.p_l_plain.F.kp T.p_l_plain.b .nil Zs (Za (pv 1) (Za (pv 5) Zb))))) (Zh (Zu (i:=6) Xp.nd rfl (Or.inl rfl) Yb)) Z7)
   (Zf (Zu (i:=7) Xp.nd rfl (Or.inl rfl) Qz)
   (Zf (Xb PassesOwn.never rfl (Xt rfl T.n_range (Za (Zt Zl (by rfl) T.n_len PySem.boot_len (Za (pv 1) Zb)) Zb)) (Zq (i:=8) Xp.nd rfl (Or.inl rfl)) (Zh (Yj (Zk Qo (Z9 Z8 (pv 1) (pv 8) (λ_ _=>rfl)) W7 (Zn _)) (Zh (Ze0 hu (pv 7) (Z9 G4 (Z9 Z8 (pv 2) (Zi Ym (pv 8) Zd) (λ_ _=>rfl)) (Zi Z6 (pv 8) Zd) (λ_ _=>rfl)) (X7 (Za Zd (Za (Zi Yn Zd (Zi Z6 (pv 8) Zd)) Zb))) rfl)) Z7)))
   (Zf (Yj (PW.pt (Jx (Zk Ye (pv 6) Yb (Zn _)) (Wz (Zk Ye (Zi Z6 (Zo (X5 T) (hr.mono (by decide)) rfl T.p_l_cell.g T.p_l_cell.F.kp T.p_l_cell.b .nil Zs (Za (pv 0) (Za Zd Zb))) Zd) Zd (Zn _))))) (Zh (Zu (i:=7) Xp.nd rfl (Or.inl rfl) Qz)) Z7)
   (Zf (Zu (i:=9) Xp.nd rfl (Or.inl rfl) (Zo (Zig T) (hr.mono (by decide)) rfl T.p_l_free.g T.p_l_free.F.kp T.p_l_free.b .nil Zs (Za (pv 1) Zb)))
   (Zf (Zu (i:=10) Xp.nd rfl (Or.inl rfl) (Zlc Zgt Zd))
   (Zf (Yj (Zk Ou (Zt Zl (by rfl) T.n_len PySem.boot_len (Za (pv 9) Zb)) Zd (Zn _)) (Zh (Zu (i:=10) Xp.nd rfl (Or.inl rfl) (Zo (Zie T) (hr.mono (by decide)) rfl T.p_l_seam.g T.p_l_seam.F.kp T.p_l_seam.b .nil Zs (Za (pv 2) (Za (Z9 Z8 (pv 9) (Zi Z6 (Zi Ym (Zo (X5 T) (hr.mono (by decide)) rfl T.p_l_cell.g T.p_l_cell.F.kp T.p_l_cell.b .nil Zs (Za (pv 0) (Za Zd Zb))) Zd) (Zt Zl (by rfl) T.n_len PySem.boot_len (Za (pv 9) Zb))) (λ_ _=>rfl)) Zb))))) Z7)
   (Zf (Yj (Zk Os (Zo (Zgb T) (hr.mono (by decide)) rfl T.p_l_based.g T.p_l_based.F.kp T.p_l_based.b .nil Zs (Za (pv 3) (Za (Yw Yz (by rfl) T.n_list PySem.Pv.boot_list (Za (pv 5) Zb)) Zb))) (pv 6) (Zn _)) (Zh (Zr Vb)) Z7)
   (Zf (Xb PassesOwn.never rfl (Xt rfl T.n_range (Za Zd Zb)) (Zq (i:=11) Xp.nd rfl (Or.inl rfl)) (Zf (Yj (PW.pt (Va (PW.pt (Jx (Zk Zhz (pv 11) (X7 (Za Zd (Za Zd Zb))) (by with_unfolding_all rfl)) (Wz (Zk Ye (Zt Zl (by rfl) T.n_len PySem.boot_len (Za (pv 4) Zb)) Zd (Zn _))))) (Qu (PW.pt (Jx (Zk Ye (pv 11) Zd (Zn _)) (Wz (Zk Wi (pv 10) Zd (Zn _)))))))) (Zh Zd4) Z7)
   (Zh (Yj (Zk Os (Zo (Zib T) (hr.mono (by decide)) rfl T.p_l_told.g T.p_l_told.F.kp T.p_l_told.b .nil Zs (Za (pv 11) (Za (pv 3) (Za (Yw Yz (by rfl) T.n_list PySem.Pv.boot_list (Za (pv 5) Zb)) (Za (Yw Yz (by rfl) T.n_list PySem.Pv.boot_list (Za (pv 4) Zb)) (Za (pv 10) (Za (Yw Ff (by rfl) T.n_dict PySem.Pv.boot_dict (Za (pv 7) Zb)) Zb))))))) (pv 6) (Zn _)) (Zh (Zr Vb)) Z7))))
   (Zh (Zr Vb)))))))))))))))),?_⟩
  refine Z4 λnxC hnxC=>?_
  refine ⟨_,rfl,a,sc,rfl,hS,hl,λpq m r M ns H1 sm1 hp hm hr1 td h42 hm0 hr0=>?_⟩
  refine ⟨pq,_,rfl,SqT.of hp,rfl,_,_,rfl,_,_,rfl,rfl,?_⟩
  refine hnxC _ _ ?_
  have hMl:=td.len
  obtain ⟨n,n1,n40,hn⟩:=td.n
  have hS1:SqL K H1 a (sc.map V.int):=sm1.seq hS
  clear hm0 hr0 hS hp
  try dsimp only [Zv]
  obtain ⟨ts,g1,g2,g3⟩:=id hr1
  refine Zz (λσ H'=>∃ x:Addr,σ=[some (.ref a),some (.ref m),some (.ref r),some (.ref x),none,none,none,none,none,none,none,none]/\Same H1 H'/\Zy t.C_Tent H' x M ns) (λnx hnx=>?_) ?_
  ·refine ⟨_,rfl,r,_,rfl,.inl (SqL.of g1),λl hl1=>?_⟩
   intro x dx hx hdx hne
   obtain ⟨rl2,s2⟩:=Zjk (C:=t.C_Tent) g1 g2 g3 hl1 hx hdx
   refine ⟨x,l,dx,M,ns,rfl,Zc,rl2,td,by rw [td.len]; omega,λH3 old ta=>⟨rfl,?_⟩⟩
   exact hnx _ _ ⟨x,rfl,λb u e=>old b u (Zj ((Same.new hl1) b u e) hx) (s2 b u ((Same.new hl1) b u e)),ta⟩
  rintro σ H2 ⟨x,rfl,s2,ta⟩
  refine Zz (λσ H'=>∃ (gd:Addr) (gs:List Nat),σ=[some (.ref a),some (.ref m),some (.ref r),some (.ref x),some (.ref gd),none,none,none,none,none,none,none]/\Same H2 H'/\H' gd=some (.lst (gs.map nV))/\gs.length<=60/\(gs=[]\/Pl M gs)) (λnx hnx=>⟨_,rfl,_,rfl,a,m,sc,3,M,rfl,s2.seq hS1,hl,by decide,by decide,s2 _ _ hm,h42,⟨_,hn⟩,td.inv,λwd ws H' s' hwd h5 hw60 hP=>hnx _ _ ⟨wd,ws,rfl,s',h5,hw60,hP⟩⟩) ?_
  rintro σ H3 ⟨gd,gs,rfl,s3,hgd,hgl,hP⟩
  have s13:=s2.trans s3
  refine Zz (λσ H'=>∃ (rw:Addr) (ws:List Int),σ=[some (.ref a),some (.ref m),some (.ref r),some (.ref x),some (.ref gd),some (.ref rw),none,none,none,none,none,none]/\KD K t H' a m r x gd rw sc M ns ws gs/\ws.length<=100) (λnx hnx=>⟨_,rfl,_,rfl,_,rfl,a,m,gd,sc,M,gs,rfl,s13.seq hS1,hl,s13 _ _ hm,by omega,hgd,hgl,λl ws H' s' _ hl' hwl=>hnx _ _ ⟨l,ws,rfl,⟨(s13.trans s').seq hS1,(s13.trans s') _ _ hm,hr1.same (s13.trans s'),ta.same (s3.trans s'),s' _ _ hgd,hl'⟩,hwl⟩⟩) ?_
  rintro σ H4 ⟨rw,ws,rfl,kd,hwl⟩
  clear s13 s3 s2 hgd ta g1 g2 g3 hr1 hm hS1 sm1
  refine Z4 λnxC hnxC=>?_
  refine hnxC _ _ ?_
  try dsimp only [Zv]
  refine Zz (λσ H'=>σ=[some (.ref a),some (.ref m),some (.ref r),some (.ref x),some (.ref gd),some (.ref rw),some (.str (dueW M ws)),none,none,none,none,none]/\H4=H') (λnx hnx=>?_) ?_
  ·refine ⟨_,rfl,_,rfl,m,rw,M,ws,rfl,kd.hm,kd.hw,by omega,?_⟩
   refine ⟨_,rfl,?_⟩
   cases e:Z1 M ws with
   | true =>
    have hd:dueW M ws="":=by unfold dueW; rw [if_pos e]
    exact iteF (hnx _ _ ⟨by rw [hd]; rfl,rfl⟩)
   | false =>
    have hd:dueW M ws="no thread":=by unfold dueW; rw [if_neg (λy=>absurd (e.symm.trans y) (by decide))]
    exact iteT (hnx _ _ ⟨by rw [hd]; rfl,rfl⟩)
  rintro σ H5 ⟨rfl,rfl⟩
  refine Zz (λσ H'=>∃ wo:Addr,σ=[some (.ref a),some (.ref m),some (.ref r),some (.ref x),some (.ref gd),some (.ref rw),some (.str (dueW M ws)),some (.ref wo),none,none,none,none]/\H4 wo=none/\H'=upd H4 wo (.dK [])) (λnx hnx=>λd hd=>hnx _ _ ⟨d,rfl,hd,rfl⟩) ?_
  rintro σ H6 ⟨wo,rfl,hwo,rfl⟩
  have s6:Same H4 (upd H4 wo (.dK [])):=Same.new hwo
  have w6:WAt (upd H4 wo (.dK [])) wo [] (λ_=>(1,1)):=⟨λ_=>0,Zc,λx hx=>absurd hx List.not_mem_nil⟩
  generalize upd H4 wo (.dK [])=H6 at s6 w6 ⊢
  have kd6:=kd.same s6
  refine Zz (λσ H'=>∃ (v:Option V) (ks:List Int) (gw:Int->Nat × Nat),σ=[some (.ref a),some (.ref m),some (.ref r),some (.ref x),some (.ref gd),some (.ref rw),some (.str (dueW M ws)),some (.ref wo),v,none,none,none]/\Same H4 H'/\WAt H' wo ks gw/\SwK M ns ks/\∀ z,okG gw z) (λnx hnx=>?_) ?_
  ·refine ⟨_,rfl,m,_,rfl,.inl (SqL.of kd6.hm),_,rfl,by omega,by rw [List.length_map]; omega,?_⟩
   have eL:(((M.map mV).length:Nat):Int).toNat=ns.length:=by simp [hMl]
   rw [eL]
   refine W5 (n:=ns.length) (λi σ H'=>∃ (v:Option V) (ks:List Int) (gw:Int->Nat × Nat),σ=[some (.ref a),some (.ref m),some (.ref r),some (.ref x),some (.ref gd),some (.ref rw),some (.str (dueW M ws)),some (.ref wo),v,none,none,none]/\Same H4 H'/\WAt H' wo ks gw/\ks.length<=i/\ks.Nodup/\(∀ z,z∈ks ↔ ∃ p j:Nat,p < i/\M[p]?=some (some j)/\ns[p]?=some z)/\∀ z,okG gw z) ⟨none,[],λ_=>(1,1),rfl,s6,w6,Nat.le_refl _,List.nodup_nil,λz=>⟨λh=>absurd h List.not_mem_nil,λ⟨p,j,h,_⟩=>absurd h (Nat.not_lt_zero _)⟩,λz=>⟨(by show 1<=1; decide),(by show 1<=1; decide),(by show 1<=100; decide),(by show 1<=100; decide)⟩⟩ ?_ ?_
   ·rintro i σ H2 hi ⟨v,ks,gw,rfl,s2,hw2,hkl,nd,mem,okg⟩
    dsimp only [Zv]
    rw [Int.zero_add]
    obtain ⟨z,hz⟩:∃ z,ns[i]?=some z:=⟨_,List.getElem?_eq_getElem hi⟩
    obtain ⟨my,hmy⟩:∃ z,M[i]?=some z:=⟨_,List.getElem?_eq_getElem (by omega)⟩
    have kd2:=kd.same s2
    refine ⟨_,rfl,_,rfl,m,_,_,_,rfl,rfl,SqL.of kd2.hm,Y1 hmy,rfl,_,rfl,?_⟩
    have old:∀ {q:Int},(∃ p j:Nat,p < i + 1/\M[p]?=some (some j)/\ns[p]?=some q)->(∃ p j:Nat,p < i/\M[p]?=some (some j)/\ns[p]?=some q)\/∃ j,M[i]?=some (some j)/\ns[i]?=some q:=λ{q} ⟨p,j,h1,h2,h3⟩=>by
     rcases Nat.lt_or_ge p i with hh | hh
     ·exact .inl ⟨p,j,hh,h2,h3⟩
     ·have:p=i:=by omega
      subst this; exact .inr ⟨j,h2,h3⟩
    cases my with
    | none =>
     refine iteF ⟨_,ks,gw,rfl,s2,hw2,by omega,nd,λq=>?_,okg⟩
     rw [mem]
     refine ⟨λ⟨p,j,h1,h2⟩=>⟨p,j,by omega,h2⟩,λh=>(old h).resolve_right λzz9=>?_⟩
     obtain ⟨j,h2,_⟩:=zz9
     rw [hmy] at h2; cases h2
    | some j =>
     refine iteT ?_
     refine ⟨_,rfl,_,_,rfl,rfl,(by show (0:Int) < 3; decide),_,_,rfl,rfl,(by show 2<=sizeLine; decide),λq9 hq9=>⟨_,rfl,?_⟩⟩
     have sq:=Same.new (o:=.tup [V.int 1,V.int (1 + (i:Int) % 3)]) hq9
     have hq0:(upd H2 q9 (.tup [V.int 1,V.int (1 + (i:Int) % 3)])) q9=some (tp (1,1 + i % 3)):=by rw [Zc]; rfl
     have s9:=s2.trans sq
     obtain ⟨ad,w1,w2⟩:=hw2.same sq
     generalize upd H2 q9 (.tup [V.int 1,V.int (1 + (i:Int) % 3)])=H9 at sq hq0 s9 w1 w2 ⊢
     obtain ⟨ts',q,e1,e2,e3,e4⟩:=Zhk (kd.rows.same s9) hz
     refine ⟨_,rfl,_,rfl,_,_,rfl,rfl,⟨by decide,by decide⟩,r,_,_,_,rfl,rfl,SqL.of e1,(by rw [div3]; exact Y1 e2),_,rfl,_,_,rfl,rfl,(by show (0:Int) < 3; decide),q,_,_,_,rfl,rfl,SqT.of e3,(by rw [mod3]; exact X2 e4),?_⟩
     refine ⟨wo,_,rfl,DPut.k (k:=Sum.inl z) w1 (by rw [Gb]; exact Zx (by omega)),?_⟩
     have okg':∀ q,okG (putG gw z (1,1 + i % 3)) q:=λq=>by
      unfold okG putG
      by_cases c:q=z
      ·rw [if_pos c]
       exact ⟨(by show 1<=1; decide),(by show 1<=1 + i % 3; omega),(by show 1<=100; decide),(by show 1 + i % 3<=100; omega)⟩
      ·rw [if_neg c]; exact okg q
     by_cases c:z∈ks
     ·refine ⟨_,ks,_,rfl,Same.add s9 hwo,WAt.put w1 w2 hq0 c,by omega,nd,λq=>?_,okg'⟩
      rw [mem]
      refine ⟨λ⟨p,j,h1,h2⟩=>⟨p,j,by omega,h2⟩,λh=>(old h).elim id λzz9=>?_⟩
      obtain ⟨j',h2,h3⟩:=zz9
      rw [hz] at h3; cases h3
      exact (mem z).mp c
     ·refine ⟨_,ks ++ [z],_,rfl,Same.add s9 hwo,WAt.new w1 w2 hq0 c,by rw [List.length_append,List.length_singleton]; omega,List.nodup_append.mpr ⟨nd,List.nodup_cons.mpr ⟨by simp,List.nodup_nil⟩,λu hu u' hu'=>by rw [List.mem_singleton.mp hu']; exact λe'=>c (e' ▸ hu)⟩,λq=>?_,okg'⟩
      rw [List.mem_append,List.mem_singleton,mem]
      constructor
      ·rintro (⟨p,j,h1,h2⟩ | rfl)
       ·exact ⟨p,j,by omega,h2⟩
       ·exact ⟨i,j,by omega,hmy,hz⟩
      ·intro h
       refine (old h).imp id λzz9=>?_
       obtain ⟨j',h2,h3⟩:=zz9
       rw [hz] at h3; cases h3; rfl
   ·rintro σ H' ⟨v,ks,gw,rfl,s',hw',hkl,nd,mem,okg⟩
    refine hnx _ _ ⟨v,ks,gw,rfl,s',hw',⟨nd,λz=>(mem z).trans ⟨λ⟨p,j,_,h2⟩=>⟨p,j,h2⟩,λzz48=>?_⟩⟩,okg⟩
    obtain ⟨p,j,h2⟩:=zz48
    refine ⟨p,j,(List.getElem?_eq_some_iff.mp h2.2).1,h2⟩
  rintro σ H7 ⟨v,ks,gw,rfl,s7,w7,sw,okg⟩
  have kd7:=kd.same s7
  refine Zz (λσ H'=>∃ (wo:Addr) (ad:Int->Addr) (ks':List Int),σ=[some (.ref a),some (.ref m),some (.ref r),some (.ref x),some (.ref gd),some (.ref rw),some (.str (dueW M ws)),some (.ref wo),v,none,none,none]/\Same H4 H'/\H' wo=some (.dK (wD ks' ad))/\(Z1 M ws=true->ks'=ks/\∀ z∈ks,H' (ad z)=some (tp (gw z)))) (λnx hnx=>?_) ?_
  ·obtain ⟨ad,w1,w2⟩:=id w7
   have R:nx _ _:=hnx _ _ ⟨wo,ad,ks,rfl,s7,w1,λ_=>⟨rfl,w2⟩⟩
   refine ⟨_,rfl,rfl,_,rfl,?_⟩
   cases e:Z1 M ws with
   | true =>
    have hd:dueW M ws="":=by unfold dueW; rw [if_pos e]
    rw [hd] at R ⊢
    exact iteF (iteF R)
   | false =>
    have hd:dueW M ws="no thread":=by unfold dueW; rw [if_neg (λy=>absurd (e.symm.trans y) (by decide))]
    rw [hd] at R ⊢
    refine iteT ⟨_,rfl,a,sc,6,rfl,kd7.hS,hl,by decide,by decide,_,_,rfl,rfl,(by show (0:Int) < 2; decide),rfl,_,rfl,ite2 (λ_=>?_) (λ_=>R)⟩
    intro d hd0
    exact hnx _ _ ⟨d,λ_=>0,[],by rw [hd]; rfl,s7.trans (Same.new hd0),Zc,λy=>absurd (e.symm.trans y) (by decide)⟩
  rintro σ H8 ⟨wo8,ad,ks',rfl,s8,hwo8,hpw⟩
  have kd8:=kd.same s8
  refine Zz (λσ H'=>∃ fl:Addr,σ=[some (.ref a),some (.ref m),some (.ref r),some (.ref x),some (.ref gd),some (.ref rw),some (.str (dueW M ws)),some (.ref wo8),v,some (.ref fl),none,none]/\Same H8 H'/\H' fl=some (.lst ((V8 M).map nV))) (λnx hnx=>⟨_,rfl,m,M,rfl,kd8.hm,by omega,td.inv,λfl H' s' _ hfl=>hnx _ _ ⟨fl,rfl,s',hfl⟩⟩) ?_
  rintro σ H9 ⟨fl,rfl,s9,hfl⟩
  have kd9:=kd8.same s9
  refine Zz (λσ H'=>σ=[some (.ref a),some (.ref m),some (.ref r),some (.ref x),some (.ref gd),some (.ref rw),some (.str (dueW M ws)),some (.ref wo8),v,some (.ref fl),some (.int (-1)),none]/\H9=H') (λnx hnx=>⟨_,rfl,(hnx _ _ ⟨rfl,rfl⟩)⟩) ?_
  rintro σ H9' ⟨rfl,rfl⟩
  refine Zz (λσ H'=>∃ y:Int,σ=[some (.ref a),some (.ref m),some (.ref r),some (.ref x),some (.ref gd),some (.ref rw),some (.str (dueW M ws)),some (.ref wo8),v,some (.ref fl),some (.int y),none]/\Same H9 H'/\(0<=y->∃ u v:Nat,y∈keys ns ns.length/\pl ns ns.length y=[u,v]/\u / 3≠v / 3)) (λnx hnx=>?_) ?_
  ·refine ⟨_,rfl,fl,_,rfl,.inl (SqL.of hfl),_,_,rfl,rfl,_,rfl,?_⟩
   refine ite2 (λz=>?_) (λ_=>hnx _ _ ⟨-1,rfl,Same.refl _,λh=>absurd h (by decide)⟩)
   have hf0:0 < (V8 M).length:=by
    have:=of_decide_eq_true z
    rw [List.length_map] at this
    omega
   have pk:∀ (pick:Int) (zs:List Nat),0 < zs.length->∃ q,atI (zs.map nV) (pick / 2 % (((zs.map nV).length:Nat):Int))=some (nV q)/\q∈zs:=λpick zs hz=>by
    rw [List.length_map]
    have k0:=Int.emod_nonneg (pick / 2) (show (zs.length:Int)≠0 by omega)
    have k1:=Int.emod_lt_of_pos (pick / 2) (show (0:Int) < zs.length by omega)
    obtain ⟨kk,hkk⟩:∃ kk:Nat,pick / 2 % (zs.length:Int)=kk:=⟨_,(Int.toNat_of_nonneg k0).symm⟩
    have hkl:kk < zs.length:=by omega
    rw [hkk]
    exact ⟨_,Y1 (List.getElem?_eq_getElem hkl),List.getElem_mem hkl⟩
   obtain ⟨q,e0,hqf⟩:=pk (cell sc 6) (V8 M) hf0
   obtain ⟨j,hj,hqj,hc⟩:=Zkt hqf
   have hqn:q < ns.length:=by rw [td.len]; exact (List.getElem?_eq_some_iff.mp hj).1
   obtain ⟨nmq,hnm⟩:∃ z,ns[q]?=some z:=⟨_,List.getElem?_eq_getElem hqn⟩
   obtain ⟨hk,hpl⟩:=Zn1 td hj hqj hnm
   refine ⟨_,rfl,_,rfl,_,rfl,a,sc,6,rfl,kd9.hS,hl,by decide,by decide,_,_,rfl,rfl,⟨by decide,by decide⟩,_,rfl,fl,_,rfl,.inl (SqL.of hfl),_,_,rfl,rfl,(by rw [List.length_map]; omega),fl,_,_,_,rfl,rfl,SqL.of hfl,e0,r,ns,q,nmq,rfl,kd9.rows,hnm,?_⟩
   exact hnx _ _ ⟨nmq,rfl,Same.refl _,λ_=>⟨q,j,hk,hpl,hc⟩⟩
  rintro σ H10 ⟨y,rfl,s10,hy⟩
  have kd10:=kd9.same s10
  have hwo10:=s10 _ _ (s9 _ _ hwo8)
  have hpw10:Z1 M ws=true->ks'=ks/\∀ z∈ks,H10 (ad z)=some (tp (gw z)):=λz=>⟨(hpw z).1,λq hq=>s10 _ _ (s9 _ _ ((hpw z).2 q hq))⟩
  clear kd kd6 kd7 kd8 kd9 hwo8 hpw s6 w6 s7 w7 s8 s9 s10 hfl
  refine Zz (λσ H'=>σ=[some (.ref a),some (.ref m),some (.ref r),some (.ref x),some (.ref gd),some (.ref rw),some (.str (dueW M ws)),some (.ref wo8),v,some (.ref fl),some (.int y),none]/\Same H10 H') (λnx hnx=>?_) ?_
  ·refine ⟨_,rfl,_,rfl,rw,_,rfl,.inl (SqL.of kd10.hw),λl hl1=>?_⟩
   have tl:=Same.new (o:=.lst (ws.map V.int)) hl1
   exact ⟨x,l,M,ns,ws,rfl,kd10.ta.same tl,hMl.symm,Zc,hwl,λH' s'=>⟨_,rfl,rfl,_,rfl,Ze8 rfl (hnx _ _ ⟨rfl,tl.trans s'⟩)⟩⟩
  rintro σ H11 ⟨rfl,s11⟩
  refine Zz (λσ H'=>True) (λnx hnx=>?_) ?_
  ·refine ⟨_,rfl,by decide,by decide,?_⟩
   refine W5 (n:=12) (λi σ H'=>∃ v12:Option V,σ=[some (.ref a),some (.ref m),some (.ref r),some (.ref x),some (.ref gd),some (.ref rw),some (.str (dueW M ws)),some (.ref wo8),v,some (.ref fl),some (.int y),v12]/\Same H10 H') ⟨none,rfl,s11⟩ ?_ ?_
   ·rintro i σ H' hi ⟨v12,rfl,s'⟩
    dsimp only [Zv]
    rw [Int.zero_add]
    have kd':=kd10.same s'
    have stay:∀ {H2:Hp},Same H10 H2->∃ v12:Option V,([some (.ref a),some (.ref m),some (.ref r),some (.ref x),some (.ref gd),some (.ref rw),some (.str (dueW M ws)),some (.ref wo8),v,some (.ref fl),some (.int y),some (.int i)]:St)=[some (.ref a),some (.ref m),some (.ref r),some (.ref x),some (.ref gd),some (.ref rw),some (.str (dueW M ws)),some (.ref wo8),v,some (.ref fl),some (.int y),v12]/\Same H10 H2:=λh=>⟨_,rfl,h⟩
    refine Zz (λσ H2=>σ=[some (.ref a),some (.ref m),some (.ref r),some (.ref x),some (.ref gd),some (.ref rw),some (.str (dueW M ws)),some (.ref wo8),v,some (.ref fl),some (.int y),some (.int i)]/\Same H10 H2/\(i=2\/i=3->gs≠[])/\(i=11->0<=y)) (λnx2 hnx2=>?_) ?_
    ·refine ⟨_,rfl,(by show 2<=sizeLine; decide),λq hq=>?_⟩
     have tq:=s'.trans (Same.new (o:=.tup [V.int 2,V.int 3]) hq)
     have hgq:=Same.new (o:=.tup [V.int 2,V.int 3]) hq _ _ kd'.hg
     refine ⟨q,_,rfl,.inr (SqT.of Zc),rfl,rfl,_,rfl,?_⟩
     have hin:inV (V.int i) [V.int 2,V.int 3]=true ↔ i=2\/i=3:=by
      have e2:inV (V.int i) [V.int 2,V.int 3]=(decide ((i:Int)=2) || decide ((i:Int)=3)):=by
       have e3:∀ a b:Int,eqV (V.int a) (V.int b)=decide (b=a):=λa b=>by
        unfold eqV
        by_cases c:a=b
        ·subst c; simp
        ·simp [c,Ne.symm c]
       show (eqV (V.int 2) (V.int i) || (eqV (V.int 3) (V.int i) || false))=_
       rw [e3,e3,Bool.or_false]
      rw [e2,Bool.or_eq_true,decide_eq_true_eq,decide_eq_true_eq]
      omega
     refine (λ(B:(i=2\/i=3->gs≠[])->_)=>ite2 (λz=>⟨_,rfl,gd,_,rfl,.inl (SqL.of hgq),rfl,_,rfl,ite2 (λ_=>iteT (stay tq)) (λz2=>B λ_ hg=>z2 (by rw [hg]; rfl))⟩) (λz=>iteF (B λh=>absurd (hin.mpr h) z))) (λhB=>?_)
     refine ⟨_,rfl,rfl,_,rfl,ite2 (λz=>?_) (λz=>iteF (hnx2 _ _ ⟨rfl,tq,hB,λh=>?_⟩))⟩
     ·refine ⟨_,rfl,_,_,rfl,rfl,_,rfl,ite2 (λ_=>stay tq) (λz2=>hnx2 _ _ ⟨rfl,tq,hB,λ_=>?_⟩)⟩
      have h0:¬ y < 0:=λh=>z2 (decide_eq_true h)
      omega
     ·subst h
      exact absurd rfl z
    rintro σ H2 ⟨rfl,s2,c1,c2⟩
    have kd2:=kd10.same s2
    have hwo2:=s2 _ _ hwo10
    refine ⟨_,rfl,_,rfl,_,rfl,rw,_,rfl,.inl (SqL.of kd2.hw),λl1 h1=>?_⟩
    have t1:=Same.new (o:=.lst (ws.map V.int)) h1
    refine ⟨_,rfl,gd,_,rfl,.inl (SqL.of (t1 _ _ kd2.hg)),λl2 h2=>?_⟩
    have t2:=Same.new (o:=.lst (gs.map nV)) h2
    refine ⟨_,rfl,_,rfl,wo8,_,rfl,.inl (t2 _ _ (t1 _ _ hwo2)),λl3 h3=>?_⟩
    have t3:=Same.new (o:=.dK (wD ks' ad)) h3
    have tX:=t1.trans (t2.trans t3)
    refine ⟨i,x,l1,l2,l3,M,ns,ws,gs,ks,gw,y,rfl,⟨⟨by omega,by omega⟩,kd2.ta.same tX,td,by omega,(t2.trans t3) _ _ Zc,hwl,t3 _ _ Zc,by omega,λz=>hP.resolve_left (c1 (by omega)),λz=>?_,λz=>hy (c2 (by omega))⟩,λH'' s''=>⟨_,rfl,rfl,_,rfl,Ze8 rfl ⟨_,rfl,s2.trans (tX.trans s'')⟩⟩⟩
    obtain ⟨rfl,hw⟩:=hpw10 z
    exact ⟨⟨ad,Zc,λq hq=>tX _ _ (s2 _ _ (hw q hq))⟩,sw,λy _=>okg y⟩
   ·rintro σ H' _
    exact hnx _ _ trivial
  rintro σ H12 _
  exact k _
end
end KT
section
open PySem L2
theorem KT.ba6 {q:Str} {st:Stmt} {ps:List Str} (h:∀ (x:Str) (kV doc pm:Value) (an:Option Addr) (cdv ct:Value) (a b c d e f:Value),bindArgs (PySem.W.fnOf x q (Y9 st) (Y0 st) (Zg st) .none kV doc pm an cdv ct) ⟨[a,b,c,d,e,f],[]⟩=pure (ps.zip [a,b,c,d,e,f])) (hl:ps.length=6):KT.BA q st ps:=λx kV doc pm an cdv ct us e=>by
 rw [hl] at e
 match us,e with
 | [a,b,c,d,e,f],_=>exact h x kV doc pm an cdv ct a b c d e f
end
open PySem PySem.W PyProof.Rows
namespace PySem.W.Fast
def tw5819310835076430677:=0
def tw14141151373539140331:=0
def tw17270671147931403379:=0
def tw8187943879802956779:=0
def tw5769591346325774805:=0
def tw9274021374037547700:=0
def tw7691941572796124805:=0
def tw4168038143309272479:=0
def tw9382349889431278986:=0
def tw11064025939149509396:=0
def tw3383115846977455647:=0
def tw9002323148892087827:=0
def tw4029725396156319182:=0
def tw16492994023521281448:=0
def tw105073312559591740:=0
def tw11004130664626406865:=0
def tw3816950021303542744:=0
def tw16919211707168241068:=0
def tw17427909367938747378:=0
def tw9535105547966562816:=0
def tw5245972240314152110:=0
def tw17286117686025732767:=0
def tw15711710006586060447:=0
def tw16396924184155889206:=0
def tw7306039225963101396:=0
def tw12381289083846891792:=0
def tw11942955459269721982:=0
def tw431370345321537362:=0
def tw13935023462034252896:=0
def tw17484210252094266492:=0
def tw13007514344965024259:=0
def tw262113629024831615:=0
def tw7889842672871075534:=0
def tw600623637434949035:=0
def tw5369497803476353044:=0
def tw2942396380943103554:=0
def tw9358938014441710423:=0
def tw2182007894256857325:=0
def tw672948155597550103:=0
def tw7061830753804973694:=0
def tw411445628206247561:=0
def tw17978795800999706797:=0
def tw11632177671442945130:=0
def tw13377970729178017837:=0
def tw690639277229433901:=0
def tw4003905960872906138:=0
def tw2967490354556698405:=0
def tw103502413316453809:=0
def tw4401961563119017308:=0
def tw4885184509393473522:=0
def tw3448942895572987760:=0
def tw2986541613106120209:=0
def tw11997871906510054856:=0
def tw4184200270011853576:=0
def tw10555938233201915425:=0
def tw1403240688315895623:=0
def tw1845012817769903790:=0
def tw11910371465457049283:=0
def tw14089322087564090113:=0
def tw15356195380104851343:=0
def tw5422646191445289177:=0
def tw17455222979544298133:=0
def tw11149633843523830473:=0
def tw10703432690038108312:=0
def tw1304337989502938989:=0
def tw10492863255533966773:=0
def tw6332193992509432502:=0
def tw13600287273235449089:=0
def tw17615046566551581592:=0
def tw6888315546440048168:=0
def tw4862905620791200536:=0
def tw1694635598888888633:=0
def tw9816519281396310685:=0
def tw8873928044468313942:=0
def tw13743744669603788730:=0
def tw2128351859257646325:=0
def tw9545581039348242450:=0
def tw10014937850762119925:=0
def tw15547308035079335200:=0
def tw11795928006144131715:=0
def tw6505216907714799107:=0
def tw1478401189865908313:=0
def tw8272201517286704042:=0
def tw427007356453615050:=0
def tw10732022715017458952:=0
def tw9859010773814692587:=0
def tw2242054957689887987:=0
def tw13441629000077137969:=0
def tw9939753958381946791:=0
def tw17487654896616151855:=0
def tw8350507081798741615:=0
def tw13121011362182571935:=0
def tw3842897178876345914:=0
def tw10166307869538678079:=0
def tw5245528875925326072:=0
def tw4488496460443884903:=0
def tw17015718820623815170:=0
def tw10109989272615057836:=0
def tw95991353712310589:=0
def tw2642853929216567716:=0
def tw8329893891202511295:=0
def tw16186380449586817766:=0
def tw14807545022970719423:=0
def tw15047272064272382914:=0
def tw2481086577452160583:=0
def tw1197588210791505975:=0
def tw1716870656332341118:=0
def tw17017413189895873054:=0
def tw7136602228009431693:=0
def tw10847826321741567825:=0
def tw4858164781864373680:=0
def tw5745201985054419654:=0
def tw17415698917668948655:=0
def tw15837125363391126278:=0
def tw3676790694647895564:=0
def tw3566247896637577475:=0
def tw17884948504080357575:=0
def tw6883488462769554811:=0
def tw11994888399224292572:=0
def tw6793011593090935319:=0
def tw497439100255225744:=0
def tw2236157166531185046:=0
def tw14521780090080801765:=0
def tw3782080033499449093:=0
def tw17208798557797951266:=0
def tw16069106960572901996:=0
def tw555921145796166821:=0
def tw10032750385493963584:=0
def tw4245875943118697389:=0
def tw907546812147037310:=0
def tw4723555988252144535:=0
def tw18303414774494805020:=0
def tw10721254814219590122:=0
def tw751060210115139745:=0
def tw17920027385818170501:=0
def tw12158818961056363972:=0
def tw2110278952124124941:=0
def tw13889416305557021391:=0
def tw1447849313646565709:=0
def tw4354218798936540901:=0
def tw1520408609748807471:=0
def tw10695818719603350111:=0
def tw14468513900242319560:=0
def tw7887728473172618741:=0
def tw14877762230690399951:=0
def tw14325687968463334979:=0
def tw846343418680362059:=0
def tw12765527799457393236:=0
def tw6011047731230576719:=0
def tw13160480652275382040:=0
def tw5437157010849892053:=0
def tw15375445771992345473:=0
def tw6914425327565549324:=0
def tw1877111520737841591:=0
def tw6903573442593083940:=0
def tw4760171965302475872:=0
def tw6860095490417741898:=0
def tw11936522856843689914:=0
def tw518856155545023891:=0
def tw6971887210241801666:=0
def tw4107033452566611869:=0
def tw1196654163776818106:=0
def tw12424221346814323725:=0
def tw7846616424236981735:=0
def tw11860819154430935236:=0
def tw10625737357451563962:=0
def tw14167301280553967780:=0
def tw763233657807234896:=0
def tw16211789869796010059:=0
def tw13026312125079943199:=0
def tw7149610968335588905:=0
def tw2375821523835248342:=0
def tw12114193078407787050:=0
def tw13751376889449631284:=0
def tw3098449288944199658:=0
def tw4734013104579252419:=0
def tw8311701414296101437:=0
def tw4100792528702158941:=0
def tw12666894963192655233:=0
def tw13677114705897374796:=0
def tw7581621322804764389:=0
def tw1077922650509376712:=0
def tw3838944241134047643:=0
def tw4294194237077173611:=0
def tw15229190629041819508:=0
def tw16950822871771999460:=0
def tw4575083965507280985:=0
def tw16498273288955042828:=0
def tw17606329829219522010:=0
def tw10918280934447975950:=0
def tw11656219003726164340:=0
def tw15775767190705855634:=0
def tw17361905608685622683:=0
def tw7282946378618199047:=0
def tw12117172272976538893:=0
def tw1845090172885207450:=0
def tw1724431926708171333:=0
def tw12151551379893477378:=0
def tw16660288462135071939:=0
def tw6275685727256200333:=0
def tw9467216615054567405:=0
def tw5120663957572881509:=0
def tw10164829089816640025:=0
def tw4938368391573642133:=0
def tw1462270676104349966:=0
def tw16753915500637999150:=0
def tw12172744794909279935:=0
def tw9077099506421139258:=0
def tw15146374759269870794:=0
def tw414800348906117490:=0
def tw17646522208274357254:=0
def tw16411612630056879368:=0
def tw5499656900523638296:=0
def tw6802687473719405363:=0
def tw12600923583320258507:=0
def tw16708095336192333611:=0
def tw2431971605556889003:=0
def tw5339966616750453026:=0
def tw9611640460782946356:=0
def tw794860109406580661:=0
def tw6008340033174468954:=0
def tw4465811272508337098:=0
def tw8749536164135870342:=0
def tw833805097883190037:=0
def tw5809185493277403069:=0
def tw12552584054171246428:=0
def tw9307376693126138310:=0
def tw15388505347470271021:=0
def tw16706268793085909258:=0
def tw9856664053642067419:=0
def tw10428714003935723729:=0
def tw17476326854099262134:=0
def tw4229504292057420572:=0
def tw13519036740889606521:=0
def tw8738913261205080996:=0
def tw16838566614261081401:=0
def tw5442064627234873075:=0
def tw4482559302870672618:=0
def tw5435253822508563277:=0
def tw5311202877877542965:=0
def tw6222686195123620442:=0
def tw5746964481042520391:=0
def tw13986389483764440824:=0
def tw17997492680393177754:=0
def tw9476686687060481196:=0
def tw3132662328637130154:=0
def tw18354704443108627663:=0
def tw4798154890055454871:=0
def tw717459670491717076:=0
def tw11607495691734527235:=0
def tw7931560549073188203:=0
def tw2555847004444046801:=0
def tw8014621350474519946:=0
def tw11159739187803201136:=0
def tw7834305535632037765:=0
def tw5654665681139407583:=0
def tw5836443619540908056:=0
def tw12643278771723540832:=0
def tw2118865285219326556:=0
def tw14155102474729569568:=0
def tw17410872428071745067:=0
def tw16593918054742440266:=0
def tw15247191990387520944:=0
def tw12293158971401473804:=0
def tw2718683087846679418:=0
def tw14236613209765658623:=0
def tw7626565911186983084:=0
def tw6631037306759231013:=0
def tw14822773131761881:=0
def tw4684871802078172543:=0
def tw12539741758009114369:=0
def tw16183516548182719897:=0
def tw12149901358768892297:=0
def tw5656893544638060570:=0
def tw11421734861562364426:=0
def tw15239501570966994630:=0
def tw16722211665138785551:=0
def tw11017499177877369076:=0
def tw14459998006086268365:=0
def tw17643280062402951765:=0
def tw6255683815698869258:=0
def tw2594268960135618288:=0
def tw15296257007956266733:=0
def tw13570153218152807376:=0
def tw16514933826987702336:=0
def tw8293262723609418389:=0
def tw6016048759447866397:=0
def tw7407329354068563038:=0
def tw60529606803663116:=0
def tw2861979786013055834:=0
def tw8857795552160649400:=0
def tw16781049026677045455:=0
def tw17037850525469292197:=0
def tw11047150704506617575:=0
def tw11624309862787326709:=0
def tw4457795675978607188:=0
def tw3529066829849944245:=0
def tw12433619458910120683:=0
def tw6200193456239055465:=0
def tw8426503311630522940:=0
def tw6528227255884284310:=0
def tw18038603654602794791:=0
def tw16530985660791440949:=0
def tw10050139983639321982:=0
def tw313007315196544944:=0
def tw16881217992876589145:=0
def tw14625640434161758930:=0
def tw5954846210586853241:=0
def tw5715820316909265574:=0
def tw7026622868890632769:=0
def tw16118447652310608378:=0
def tw15463946861151381103:=0
def tw4660804633835224831:=0
def tw8788110400211432343:=0
def tw1677369855354559613:=0
def tw14623703216450599713:=0
def tw3347455021759350711:=0
def tw14428211920974732144:=0
def tw12049469221458691439:=0
def tw17177158920024395433:=0
def tw9014345351150167713:=0
def tw12963449772920596607:=0
def tw5275218650740726596:=0
def tw14723591402803148280:=0
def tw17527827387927079098:=0
def tw2157530472460516556:=0
def tw13923012000386342988:=0
def tw13138927137550612058:=0
def tw15260053865017035019:=0
def tw6044852135808933172:=0
def tw5738371368124952888:=0
def tw17446059660476168147:=0
def tw9827908235423895314:=0
def tw2277067361696382380:=0
def tw2043609489866919484:=0
def tw17149129864921861031:=0
def tw6608223418183923401:=0
def tw8500548423429164779:=0
def tw547916680869593691:=0
def tw113639781756811350:=0
def tw18043941263990491172:=0
def tw13450180612122254594:=0
def tw14831386938320005745:=0
def tw17119399668568717578:=0
def tw7372082297941207787:=0
def tw13496177022503050314:=0
def tw4513989677091064166:=0
def tw14340337309400782887:=0
def tw8178088897734698547:=0
def tw15913439529336264106:=0
def tw11846858758916486480:=0
def tw18156999388915328770:=0
def tw2870904120109770484:=0
def tw14921834520502018348:=0
def tw9888115478980806841:=0
def tw6437145339318505826:=0
def tw17845808593768326105:=0
def tw17555352596494458073:=0
def tw15756779232714140079:=0
def tw2038852703629458899:=0
def tw9360701427214629394:=0
def tw9113086428722107446:=0
def tw3139291211062954068:=0
def tw9796301656619292506:=0
def tw9068086629504832444:=0
def tw12451095951524996632:=0
def tw15364353827255041981:=0
def tw4275147385122261324:=0
def tw88828976715468644:=0
def tw8122291295433707441:=0
def tw10697350318520418902:=0
def tw1122612651730169875:=0
def tw1458302275483402681:=0
def tw12750409648355195026:=0
def tw791434926578010229:=0
def tw2072263613450127981:=0
def tw13146445236899879266:=0
def tw14196085543513990724:=0
def tw6939164334696805001:=0
def tw8702304843418826168:=0
def tw17552010044524175837:=0
def tw1556528735531461949:=0
def tw1648981531666574943:=0
def tw8452042626882895801:=0
def tw14406432041405702453:=0
def tw17561265933921311110:=0
def tw4662549657660777990:=0
def tw15811330933545927797:=0
def tw10884578306955897521:=0
def tw10626108464373867650:=0
def tw9508816102942962527:=0
def tw5849069517337245707:=0
def tw16600966175206094860:=0
def tw13171189803070672386:=0
def tw8737530577502797096:=0
def tw13866736861127294743:=0
def tw11625008837733489085:=0
def tw12085000761574215129:=0
def tw592684952329548374:=0
def tw544469506510889868:=0
def tw1696547211955270907:=0
def tw10157438910296921779:=0
def tw13662280512047666084:=0
def tw17121799629602905448:=0
def tw2186200479972013483:=0
def tw174024425009685688:=0
def tw17152398464036238864:=0
def tw6233360417266426602:=0
def tw3029952228950596068:=0
def tw160214931465130727:=0
def tw9502492423191157889:=0
def tw15039081033428016877:=0
def tw2681897634709360312:=0
def tw7154411912611599406:=0
def tw9645344784439389393:=0
def tw5582683776182015828:=0
def tw2457941944435371851:=0
def tw13285590537524259648:=0
def tw16996779463693182302:=0
def tw9946453808828174848:=0
def tw11256097144438802026:=0
def tw2944895594234478207:=0
def tw914743651008132160:=0
def tw9669063290568621246:=0
def tw16938192369639217399:=0
def tw15634836604496309938:=0
def tw6405196354634427111:=0
def tw17863729468853194934:=0
def tw7250790546739580320:=0
def tw5520221534658623551:=0
def tw1273191008546929198:=0
def tw2113036343704448383:=0
def tw11293240730424818883:=0
def tw1875158459984635628:=0
def tw17228314893847763284:=0
def tw1372771542780719753:=0
def tw6543124620589797443:=0
def tw11278828195076062302:=0
def tw17050294014628108076:=0
def tw5247770974980184667:=0
def tw9302869073658592189:=0
def tw3619885106746491327:=0
def tw3197867630131142463:=0
def tw4952581010313508926:=0
def tw3932334658073418486:=0
def tw9588786675936499008:=0
def tw17919863488144732305:=0
def tw16526025710416191232:=0
def tw2235536612978458932:=0
def tw1294926846369201488:=0
def tw742005645500072075:=0
def tw10926714594012955681:=0
def tw16468966598416419617:=0
def tw9205875321958415819:=0
def tw12710604935554314914:=0
def tw17138503589963291889:=0
def tw8981893268275785848:=0
def tw13126520543914445216:=0
def tw5738913082195150148:=0
def tw13483071153121462178:=0
def tw4639460626017592385:=0
def tw11581654127456991836:=0
def tw18333450019712253984:=0
def tw6276751528491688830:=0
def tw10076871175262180366:=0
def tw12311849007699689672:=0
def tw14128298478784552830:=0
def tw2246704040158661578:=0
def tw5060375076714911930:=0
def tw8126106157741062857:=0
def tw6273505874166771400:=0
def tw8816226589746838432:=0
def tw11638461559276568878:=0
def tw1138379891022562674:=0
def tw17499955632955467117:=0
def tw13442749657855019155:=0
def tw2623102075451255879:=0
def tw11274388686196853596:=0
def tw16391327644468443631:=0
def tw9753250637725859778:=0
def tw15102453693609266965:=0
def tw15087017974518264071:=0
def tw2588532679421071844:=0
def tw7087023163821144075:=0
def tw2401356165933195977:=0
def tw12338908198495906968:=0
def tw6880168114881030276:=0
def tw15939472257700548056:=0
def tw5253986657103190465:=0
def tw10177678915567890297:=0
def tw16026362579445754114:=0
def tw3713772138775289582:=0
def tw7579134759585673846:=0
def tw15020015603066391693:=0
def tw15629078035032113305:=0
def tw15260525185117999169:=0
def tw12773683364841608722:=0
def tw16063552396913245878:=0
def tw16094093500803380842:=0
def tw12305130579952452927:=0
def tw11420344091155300328:=0
def tw8590690779203895745:=0
def tw4074851223017266841:=0
def tw10446143678390777313:=0
def tw18416486517646442462:=0
def tw14810393696549443413:=0
def tw1772671241663088572:=0
def tw7479736833169743782:=0
def tw4050978994495596130:=0
def tw5081466633296198419:=0
def tw11811949242146798794:=0
def tw17979529834981175049:=0
def tw17341245951774721131:=0
def tw1681345305408076377:=0
def tw429472076954831067:=0
def tw9000022026472307250:=0
def tw8393046900961879693:=0
def tw15902778015433026672:=0
def tw12707880470093979696:=0
def tw5897779924516983122:=0
def tw12399049413008534167:=0
def tw7068249146140157789:=0
def tw5361204333151934024:=0
def tw11145477576080970185:=0
def tw7321147118001855694:=0
def tw13034101622215353473:=0
def tw2525747212922295216:=0
def tw16035423102855277872:=0
def tw4126279815206100685:=0
def tw6563983646500936618:=0
def tw13545253983702363219:=0
def tw16589305471105644022:=0
def tw3014153560824699416:=0
def tw4081829773522546785:=0
def tw14194202578242318847:=0
def tw11283238542701951434:=0
def tw12348380630981545924:=0
def tw16127182081020785626:=0
def tw16713152258957123157:=0
def tw5166693752249114431:=0
def tw17229259610786806793:=0
def tw7224103138584572105:=0
def tw3525034525213132017:=0
def tw7791168776702200201:=0
def tw1409092573152325754:=0
def tw17791925632520235920:=0
def tw1693742490904388520:=0
def tw434947744438965348:=0
def tw16688071218262271803:=0
def tw11832301941019724083:=0
def tw13157922059749706867:=0
def tw2343563150668421646:=0
def tw11943575925655058936:=0
def tw14824559800997119517:=0
def tw17656642651186414765:=0
def tw14944986918112140332:=0
def tw8337478324285981139:=0
def tw501501133482521518:=0
def tw13727575308391982215:=0
def tw2300779491465924090:=0
def tw14234416595033535033:=0
def tw10376029705677688983:=0
def tw5421140828894708302:=0
def tw18041167106834912563:=0
def tw17699997150509693672:=0
def tw6747150462787248539:=0
def tw12125106540725173095:=0
def tw10435989545212529993:=0
def tw16259007801562558866:=0
def tw11309143034684008954:=0
def tw6868865387983615629:=0
def tw5431065447621830169:=0
def tw15388467295925091218:=0
def tw12916338854605627777:=0
def tw17971730339832905193:=0
def tw2353343818159409104:=0
def tw16196570319628346000:=0
def tw7304868748664505141:=0
def tw4319261068654985969:=0
def tw10564691368090834192:=0
def tw16885438423262039849:=0
def tw352065584414551910:=0
def tw16150435384983511412:=0
def tw16509144716311898550:=0
def tw8783851104465484207:=0
def tw3305672530525883351:=0
def tw2604549566753450899:=0
def tw450539091071842913:=0
def tw38751173895204579:=0
def tw4666472472262000968:=0
def tw11955258330255626471:=0
def tw14754561034293926605:=0
def tw16653200923847294431:=0
def tw12973713045795022500:=0
def tw4306214852903367568:=0
def tw16482285595667249246:=0
def tw2526736535590289694:=0
def tw17308538258473128375:=0
def tw15318814458416491502:=0
def tw9776279029371454394:=0
def tw14996512332700589667:=0
def tw15157959546670268496:=0
def tw17812393229092076810:=0
def tw3718722610026976401:=0
def tw10979398573616020164:=0
def tw10257220738169656342:=0
def tw16715635164651732906:=0
def tw11459955362176785096:=0
def tw12169424901958726207:=0
def tw5493702668566995105:=0
def tw2186928360039612479:=0
def tw893656458834896243:=0
def tw17738377081980698797:=0
def tw3811012815178795310:=0
def tw858437853421843219:=0
def tw4903767928909841871:=0
def tw1934428492401447481:=0
def tw6335919196802654279:=0
def tw3152475648404985041:=0
def tw3279282765608620734:=0
def tw9313850007387647891:=0
def tw7899007465141487816:=0
def tw8185326163582591372:=0
def tw11662813076381088770:=0
def tw11836301200454778036:=0
def tw2970656823695547342:=0
def tw10832944368616369613:=0
def tw4501417311524621134:=0
def tw15730415573464564380:=0
def tw445252373649986867:=0
def tw8696324127573705493:=0
def tw5520372370982521622:=0
def tw16800923401128081817:=0
def tw1310166215298950654:=0
def tw5494855852226921789:=0
def tw4752886168631885291:=0
def tw11698812581877261843:=0
def tw4052644851010960085:=0
def tw9611910416040907005:=0
def tw9539040626123310497:=0
def tw17007042417464515466:=0
def tw10419151731873474583:=0
def tw11261533794237966602:=0
def tw10302275027287448383:=0
def tw14282610751809303200:=0
def tw1691776457032908148:=0
def tw3040558018166158190:=0
def tw9451783421792040784:=0
def tw2160246279368505211:=0
def tw16771173439287059415:=0
def tw18135824133891818550:=0
def tw6198604677925305316:=0
def tw10339339490079908181:=0
def tw9247927080754236840:=0
def tw14797651810773514679:=0
def tw5650262462688990614:=0
def tw13996205522285577402:=0
def tw3475485190413120865:=0
def tw7639250416565781745:=0
def tw10761178256029938680:=0
def tw18354398422410397485:=0
def tw16120124230738600256:=0
def tw3744044004114547447:=0
def tw9923906232870329263:=0
def tw653666232164245937:=0
def tw15705173089026917148:=0
def tw4874269249625764997:=0
def tw15036481999038507969:=0
def tw16188659728152420769:=0
def tw10806326490746967932:=0
def tw15931013304456078788:=0
def tw903633459417401057:=0
def tw18353870447449366785:=0
def tw10168359882203166175:=0
def tw16498826178605459150:=0
def tw11981531851540103577:=0
def tw3400929975505899977:=0
def tw6215586900525132571:=0
def tw9806139929046777559:=0
def tw14730238916635377207:=0
def tw16444377794388524759:=0
def tw705344532891112612:=0
def tw9891399358429988998:=0
def tw131691734077360407:=0
def tw9880450161877920409:=0
def tw3531286276538743756:=0
def tw16922676929543262042:=0
def tw5563988404852067017:=0
def tw7896840977008615024:=0
def tw13816305158358323828:=0
def tw799327396793129950:=0
def tw7863174822655965791:=0
def tw8869915222105343652:=0
def tw13286511687947989367:=0
def tw5073464146301392358:=0
def tw4817803909852126239:=0
def tw6966477402318673903:=0
def tw1967945587941785305:=0
def tw13374338228026797993:=0
def tw3639414017262221213:=0
def tw5140707323486390781:=0
def tw11867448247390678953:=0
def tw2881087299034612398:=0
def tw7507131504554575327:=0
def tw2871571619182768344:=0
def tw11716328729792977125:=0
def tw4806718127045542609:=0
def tw3293869174012036250:=0
def tw13143712050404438100:=0
def tw5781395453222855449:=0
def tw5634110366143984732:=0
def tw13455980241420770381:=0
def tw1653156222672403126:=0
def tw18332970035193071197:=0
def tw2114394973503146747:=0
def tw9094311305192395115:=0
def tw13145508123592607519:=0
def tw13430320700272238038:=0
def tw14930537984974308659:=0
def tw8760103225591174081:=0
def tw10413209449690302878:=0
def tw332996041953850544:=0
def tw14273226865967878586:=0
def tw15553854847776832061:=0
def tw6785124190791155208:=0
def tw8682623178169943055:=0
def tw3614608749580646934:=0
def tw12570599985227312329:=0
def tw12309704550908658645:=0
def tw5672803222507546184:=0
def tw7866024210770368486:=0
def tw2814873968509096015:=0
def tw1682373700070379344:=0
def tw8806706220931017045:=0
def tw6438069945183619703:=0
def tw2135984524737691854:=0
def tw7094508068358098980:=0
def tw10968416312749309540:=0
def tw6965668530257896139:=0
def tw8604715181177206472:=0
def tw18428461099433722854:=0
def tw17685756861710396817:=0
def tw3415175629250223616:=0
def tw6641024275859433803:=0
def tw18036036246816639834:=0
def tw328875400150363166:=0
def tw8821369652360163910:=0
def tw16101134124267297404:=0
def tw2051131322538054729:=0
def tw3212323056045731753:=0
def tw14914136780438753965:=0
def tw1476122841717687815:=0
def tw16289207385415521059:=0
def tw6967858664832171335:=0
def tw15007173060464694811:=0
def tw5649584733172769894:=0
def tw3422619308384306160:=0
def tw5182356137620560739:=0
def tw7519311013956470699:=0
def tw10966173915704657727:=0
def tw3363996720878261866:=0
def tw2108038542780828373:=0
def tw1366560937344119110:=0
def tw17228768555464530814:=0
def tw13105862598878611638:=0
def tw3669919061680589619:=0
def tw2592903071197394302:=0
def tw9229154991966634536:=0
def tw3913426254883964175:=0
def tw6727959221253550515:=0
def tw16977846025252856238:=0
def tw16248577915268713481:=0
def tw15024932231410977748:=0
def tw18005500954017742379:=0
def tw8840484375470092902:=0
def tw12631653508436303980:=0
def tw11852672619502414018:=0
def tw1197578681111468434:=0
def tw2942497970138340431:=0
def tw2809548963131545104:=0
def tw17904129126858551406:=0
def tw14849798348846501508:=0
def tw11568543039261437217:=0
def tw7223390283229037973:=0
def tw17782420422194718424:=0
def tw3487832110342442182:=0
def tw2360514212259239206:=0
def tw9264183877356305064:=0
def tw181690793683008750:=0
def tw12842208134200161324:=0
def tw7093772023369494708:=0
def tw15196451054138644422:=0
def tw7795097185934279478:=0
def tw1535203218064089650:=0
def tw17019602291810215576:=0
def tw12411915948755783208:=0
def tw6614051528658167459:=0
def tw14614783891564974177:=0
def tw9086781396771725979:=0
def tw9725472374307279446:=0
def tw17283948021453370239:=0
def tw18159674556469440631:=0
def tw12458361898043805215:=0
def tw8317317885942444819:=0
def tw18395738168994370993:=0
def tw3204191586726681945:=0
def tw1121958022233271603:=0
def tw2841010727323211945:=0
def tw11326707396830948201:=0
def tw3348878560151834942:=0
def tw81289567568955681:=0
def tw17647715151878111774:=0
def tw2571648340084751117:=0
def tw13614171187306141784:=0
def tw18236908305710487791:=0
def tw13452173838289023018:=0
def tw4972329515782074972:=0
def tw8437488186002824473:=0
def tw13958629369027299518:=0
def tw12843823068512581314:=0
def tw13771207283768524050:=0
def tw287305353320508243:=0
def tw11783487761023238949:=0
def tw4698049637517669839:=0
def tw5730852514552941065:=0
def tw5409180046261632287:=0
def tw16551550029749578477:=0
def tw4652746001064564845:=0
def tw18356879440044841874:=0
def tw7694710909913755250:=0
def tw11132383137121990740:=0
def tw17316099997514979994:=0
def tw10643015390144003871:=0
def tw16132118728327028130:=0
def tw1204583885732930335:=0
def tw635594391636790211:=0
def tw430962078793047751:=0
def tw5909445114886526878:=0
def tw7674307454044631920:=0
def tw623343786113577119:=0
def tw17925824281240599486:=0
def tw9652127331109453637:=0
def tw206406856237143512:=0
def tw8916596275259667406:=0
def tw2456441425973665630:=0
def tw9851066966035207817:=0
def tw3346167710280779149:=0
def tw10234035737910187056:=0
def tw3390498925537125313:=0
def tw732736522295396976:=0
def tw14812529724594789509:=0
def tw13985174542846945069:=0
def tw9817558072276472626:=0
def tw2871419352853731812:=0
def tw12622031599957573133:=0
def tw12064154279645270712:=0
def tw11646239337325236992:=0
def tw16928568784920313914:=0
def tw2596693438565034585:=0
def tw15586689234034424087:=0
def tw15784396041469045738:=0
def tw1006935565412100473:=0
def tw13376264972946294464:=0
def tw6938249035962240671:=0
def tw12299828548181937220:=0
def tw16029187348140732200:=0
def tw17493244212009998181:=0
def tw3512323256841754811:=0
def tw6417792776036306116:=0
def tw3928560000143396756:=0
def tw17308162173524487994:=0
def tw7507443510651492559:=0
def tw11620697909092945049:=0
def tw8892827465268144241:=0
def tw8354324962843339211:=0
def tw475675807838313575:=0
def tw17122015517728617302:=0
def tw11844274247226993842:=0
def tw15546694846735792671:=0
def tw13102646429405426282:=0
def tw4444212928541787805:=0
def tw15690951863971709100:=0
def tw7101191664309468492:=0
def tw10087575258876556028:=0
def tw1187289832410453342:=0
def tw18112326525421920297:=0
def tw1121076645966600617:=0
def tw12772895549040300686:=0
def tw16938911299023776805:=0
def tw1466380414424594616:=0
def tw9455046626763389046:=0
def tw4141890661633985814:=0
def tw7369663702564161644:=0
def tw16004597607831270683:=0
def tw14477531160083983263:=0
def tw1194663992799289223:=0
def tw1246968222554956926:=0
def tw18161304732993255925:=0
def tw14347694808843352307:=0
def tw10322518143785012311:=0
def tw14061748011527637870:=0
def tw13408044630846914162:=0
def tw1734195690584992:=0
def tw11197258652347290579:=0
def tw8779366206600585307:=0
def tw17343265937132699506:=0
def tw13435354199789559690:=0
def tw13060183301649820825:=0
def tw11750947683054685482:=0
def tw10091788828703088154:=0
def tw129197124398274387:=0
def tw2837939239405196337:=0
def tw7036906265315266368:=0
def tw11139067780959193283:=0
def tw2604746257357102578:=0
def tw12983443694583413648:=0
def tw5252165304559891185:=0
def tw17086682929128142215:=0
def tw8111618989545810820:=0
def tw10521178410504282341:=0
def tw12516137318335107326:=0
def tw1681945980021517982:=0
def tw15777180936436487774:=0
def tw5558800407845170443:=0
def tw18153353532038998604:=0
def tw13021428484591497158:=0
def tw706893327558952655:=0
def tw3020990850905011891:=0
def tw15684211271055489183:=0
def tw11171003002955155219:=0
def tw1822779302447132424:=0
end PySem.W.Fast
set_option maxRecDepth 100000 in
set_option maxHeartbeats 0 in
theorem PySem.Challenge.cw_tentloops_k21_no_thread_holds : PySem.Challenge.rw_tentloops_k21_no_thread.Holds := by
 w_on; o_law; k_head; (case hw=>w_witness2)
 k_fill
 refine L2.walk_r (l:=PySem.Challenge.rw_tentloops_k21_no_thread) (k:=12) (spl:=KT.sp_law) rfl rfl ⟨rfl,by decide,by decide⟩ (fun w h Y=>PySem.W.kIn_of Y) (fun K H a ns hl hS=>KT.sp_law_start hl hS) ?F
 case F =>
  intro w mg fa h KX G hmg
  have T:∃ t,KT.Txt w (L2.KOf KX) mg t:=by
   dsimp only [L2.KOf]
   refine' ⟨⟨_,_,_,_,_,_,_,_,_,_,_,_,_,_,_,_,_,_,_,_,_,_,_,_,_,_,_,_,_,_,_,_,_,_,_,_,_,_,_,_,_,_,_,_,_,_,_,_,_,_,_,_,_,_,_,_,_,_,_,_,_,_,_,_,_,_,_,_,_,_,_,_,_,_,_,_,_,_,_,_,_,_,_,_,_,_,_,_,_,_,_,_,_,_,_,_,_,_,_,_,_,_,_,_,_,_,_,_,_,_,_,_,_,_,_,_,_,_,_,_,_,_,_,_,_,_,_,_,_,_,_,_,_,_,_,_,_,_,_,_,_,_,_,_,_,_,_,_,_,_,_,_,_,_,_,_,_,_,_,_,_,_,_,_,_,_,_⟩,⟨mg_of KX G ?_,⟨?_,?_,?_,?_⟩,?_,?_,?_,?_,mg_of KX G ?_,⟨?_,?_,?_,?_⟩,?_,?_,?_,?_,mg_of KX G ?_,⟨?_,?_,?_,?_⟩,?_,?_,?_,?_,KT.FT.of KX G (KT.ba1 (fun _ _ _ _ _ _ _ _=>rfl) rfl) ?_ ?_ ?_ ?_,KT.FT.of KX G (KT.ba1 (fun _ _ _ _ _ _ _ _=>rfl) rfl) ?_ ?_ ?_ ?_,KT.FT.of KX G (KT.ba1 (fun _ _ _ _ _ _ _ _=>rfl) rfl) ?_ ?_ ?_ ?_,KT.FT.of KX G (KT.ba1 (fun _ _ _ _ _ _ _ _=>rfl) rfl) ?_ ?_ ?_ ?_,KT.FT.of KX G (KT.ba2 (fun _ _ _ _ _ _ _ _ _=>rfl) rfl) ?_ ?_ ?_ ?_,KT.FM.of (KT.ba2 (fun _ _ _ _ _ _ _ _ _=>rfl) rfl) ?_ ?_ ?_ ?_ ?_,KT.FM.of (KT.ba1 (fun _ _ _ _ _ _ _ _=>rfl) rfl) ?_ ?_ ?_ ?_ ?_,KT.FM.of (KT.ba1 (fun _ _ _ _ _ _ _ _=>rfl) rfl) ?_ ?_ ?_ ?_ ?_,KT.FM.of (KT.ba1 (fun _ _ _ _ _ _ _ _=>rfl) rfl) ?_ ?_ ?_ ?_ ?_,KT.FM.of (KT.ba1 (fun _ _ _ _ _ _ _ _=>rfl) rfl) ?_ ?_ ?_ ?_ ?_,KT.FM.of (KT.ba2 (fun _ _ _ _ _ _ _ _ _=>rfl) rfl) ?_ ?_ ?_ ?_ ?_,KT.FM.of (KT.ba2 (fun _ _ _ _ _ _ _ _ _=>rfl) rfl) ?_ ?_ ?_ ?_ ?_,KT.FM.of (KT.ba2 (fun _ _ _ _ _ _ _ _ _=>rfl) rfl) ?_ ?_ ?_ ?_ ?_,KT.FM.of (KT.ba2 (fun _ _ _ _ _ _ _ _ _=>rfl) rfl) ?_ ?_ ?_ ?_ ?_,KT.FM.of (KT.ba2 (fun _ _ _ _ _ _ _ _ _=>rfl) rfl) ?_ ?_ ?_ ?_ ?_,KT.FM.of (KT.ba2 (fun _ _ _ _ _ _ _ _ _=>rfl) rfl) ?_ ?_ ?_ ?_ ?_,KT.FT.of KX G (KT.ba2 (fun _ _ _ _ _ _ _ _ _=>rfl) rfl) ?_ ?_ ?_ ?_,KT.FT.of KX G (KT.ba3 (fun _ _ _ _ _ _ _ _ _ _=>rfl) rfl) ?_ ?_ ?_ ?_,KT.FT.of KX G (KT.ba2 (fun _ _ _ _ _ _ _ _ _=>rfl) rfl) ?_ ?_ ?_ ?_,KT.FT.of KX G (KT.ba2 (fun _ _ _ _ _ _ _ _ _=>rfl) rfl) ?_ ?_ ?_ ?_,KT.FT.of KX G (KT.ba2 (fun _ _ _ _ _ _ _ _ _=>rfl) rfl) ?_ ?_ ?_ ?_,KT.FT.of KX G (KT.ba2 (fun _ _ _ _ _ _ _ _ _=>rfl) rfl) ?_ ?_ ?_ ?_,KT.FT.of KX G (KT.ba1 (fun _ _ _ _ _ _ _ _=>rfl) rfl) ?_ ?_ ?_ ?_,KT.FT.of KX G (KT.ba2 (fun _ _ _ _ _ _ _ _ _=>rfl) rfl) ?_ ?_ ?_ ?_,KT.FT.of KX G (KT.ba3 (fun _ _ _ _ _ _ _ _ _ _=>rfl) rfl) ?_ ?_ ?_ ?_,KT.FT.of KX G (KT.ba2 (fun _ _ _ _ _ _ _ _ _=>rfl) rfl) ?_ ?_ ?_ ?_,KT.FT.of KX G (KT.ba3 (fun _ _ _ _ _ _ _ _ _ _=>rfl) rfl) ?_ ?_ ?_ ?_,KT.FT.of KX G (KT.ba2 (fun _ _ _ _ _ _ _ _ _=>rfl) rfl) ?_ ?_ ?_ ?_,KT.FT.of KX G (KT.ba1 (fun _ _ _ _ _ _ _ _=>rfl) rfl) ?_ ?_ ?_ ?_,KT.FT.of KX G (KT.ba2 (fun _ _ _ _ _ _ _ _ _=>rfl) rfl) ?_ ?_ ?_ ?_,KT.FT.of KX G (KT.ba2 (fun _ _ _ _ _ _ _ _ _=>rfl) rfl) ?_ ?_ ?_ ?_,KT.FT.of KX G (KT.ba3 (fun _ _ _ _ _ _ _ _ _ _=>rfl) rfl) ?_ ?_ ?_ ?_,KT.FT.of KX G (KT.ba2 (fun _ _ _ _ _ _ _ _ _=>rfl) rfl) ?_ ?_ ?_ ?_,KT.FT.of KX G (KT.ba2 (fun _ _ _ _ _ _ _ _ _=>rfl) rfl) ?_ ?_ ?_ ?_,KT.FT.of KX G (KT.ba3 (fun _ _ _ _ _ _ _ _ _ _=>rfl) rfl) ?_ ?_ ?_ ?_,KT.FT.of KX G (KT.ba4 (fun _ _ _ _ _ _ _ _ _ _ _=>rfl) rfl) ?_ ?_ ?_ ?_,KT.FT.of KX G (KT.ba3 (fun _ _ _ _ _ _ _ _ _ _=>rfl) rfl) ?_ ?_ ?_ ?_,KT.FT.of KX G (KT.ba2 (fun _ _ _ _ _ _ _ _ _=>rfl) rfl) ?_ ?_ ?_ ?_,KT.FT.of KX G (KT.ba2 (fun _ _ _ _ _ _ _ _ _=>rfl) rfl) ?_ ?_ ?_ ?_,KT.FT.of KX G (KT.ba2 (fun _ _ _ _ _ _ _ _ _=>rfl) rfl) ?_ ?_ ?_ ?_,KT.FT.of KX G (KT.ba1 (fun _ _ _ _ _ _ _ _=>rfl) rfl) ?_ ?_ ?_ ?_,KT.FT.of KX G (KT.ba1 (fun _ _ _ _ _ _ _ _=>rfl) rfl) ?_ ?_ ?_ ?_,KT.FT.of KX G (KT.ba2 (fun _ _ _ _ _ _ _ _ _=>rfl) rfl) ?_ ?_ ?_ ?_,KT.FT.of KX G (KT.ba2 (fun _ _ _ _ _ _ _ _ _=>rfl) rfl) ?_ ?_ ?_ ?_,KT.FT.of KX G (KT.ba2 (fun _ _ _ _ _ _ _ _ _=>rfl) rfl) ?_ ?_ ?_ ?_,KT.FT.of KX G (KT.ba3 (fun _ _ _ _ _ _ _ _ _ _=>rfl) rfl) ?_ ?_ ?_ ?_,KT.FT.of KX G (KT.ba2 (fun _ _ _ _ _ _ _ _ _=>rfl) rfl) ?_ ?_ ?_ ?_,KT.FT.of KX G (KT.ba1 (fun _ _ _ _ _ _ _ _=>rfl) rfl) ?_ ?_ ?_ ?_,KT.FT.of KX G (KT.ba1 (fun _ _ _ _ _ _ _ _=>rfl) rfl) ?_ ?_ ?_ ?_,KT.FT.of KX G (KT.ba1 (fun _ _ _ _ _ _ _ _=>rfl) rfl) ?_ ?_ ?_ ?_,KT.FM.of (KT.ba5 (fun _ _ _ _ _ _ _ _ _ _ _ _=>rfl) rfl) ?_ ?_ ?_ ?_ ?_,KT.FT.of KX G (KT.ba3 (fun _ _ _ _ _ _ _ _ _ _=>rfl) rfl) ?_ ?_ ?_ ?_,KT.FT.of KX G (KT.ba2 (fun _ _ _ _ _ _ _ _ _=>rfl) rfl) ?_ ?_ ?_ ?_,KT.FT.of KX G (KT.ba1 (fun _ _ _ _ _ _ _ _=>rfl) rfl) ?_ ?_ ?_ ?_,KT.FM.of (KT.ba2 (fun _ _ _ _ _ _ _ _ _=>rfl) rfl) ?_ ?_ ?_ ?_ ?_,KT.FM.of (KT.ba3 (fun _ _ _ _ _ _ _ _ _ _=>rfl) rfl) ?_ ?_ ?_ ?_ ?_,KT.FM.of (KT.ba3 (fun _ _ _ _ _ _ _ _ _ _=>rfl) rfl) ?_ ?_ ?_ ?_ ?_,KT.FT.of KX G (KT.ba2 (fun _ _ _ _ _ _ _ _ _=>rfl) rfl) ?_ ?_ ?_ ?_,KT.FT.of KX G (KT.ba2 (fun _ _ _ _ _ _ _ _ _=>rfl) rfl) ?_ ?_ ?_ ?_,KT.FT.of KX G (KT.ba3 (fun _ _ _ _ _ _ _ _ _ _=>rfl) rfl) ?_ ?_ ?_ ?_,KT.FT.of KX G (KT.ba3 (fun _ _ _ _ _ _ _ _ _ _=>rfl) rfl) ?_ ?_ ?_ ?_,KT.FT.of KX G (KT.ba1 (fun _ _ _ _ _ _ _ _=>rfl) rfl) ?_ ?_ ?_ ?_,KT.FT.of KX G (KT.ba2 (fun _ _ _ _ _ _ _ _ _=>rfl) rfl) ?_ ?_ ?_ ?_,KT.FT.of KX G (KT.ba3 (fun _ _ _ _ _ _ _ _ _ _=>rfl) rfl) ?_ ?_ ?_ ?_,KT.FT.of KX G (KT.ba2 (fun _ _ _ _ _ _ _ _ _=>rfl) rfl) ?_ ?_ ?_ ?_,KT.FT.of KX G (KT.ba1 (fun _ _ _ _ _ _ _ _=>rfl) rfl) ?_ ?_ ?_ ?_,KT.FT.of KX G (KT.ba2 (fun _ _ _ _ _ _ _ _ _=>rfl) rfl) ?_ ?_ ?_ ?_,KT.FT.of KX G (KT.ba6 (fun _ _ _ _ _ _ _ _ _ _ _ _ _=>rfl) rfl) ?_ ?_ ?_ ?_,KT.FT.of KX G (KT.ba6 (fun _ _ _ _ _ _ _ _ _ _ _ _ _=>rfl) rfl) ?_ ?_ ?_ ?_,KT.FT.of KX G (KT.ba2 (fun _ _ _ _ _ _ _ _ _=>rfl) rfl) ?_ ?_ ?_ ?_,KT.FT.of KX G (KT.ba3 (fun _ _ _ _ _ _ _ _ _ _=>rfl) rfl) ?_ ?_ ?_ ?_,KT.FT.of KX G (KT.ba1 (fun _ _ _ _ _ _ _ _=>rfl) rfl) ?_ ?_ ?_ ?_,⟨?_,?_,?_,?_⟩,⟨?_,?_,?_,?_⟩,⟨?_,?_,?_,?_⟩,mg_of KX G ?_,mg_of KX G ?_,mg_of KX G ?_,mg_of KX G ?_,mg_of KX G ?_,mg_of KX G ?_,mg_of KX G ?_,L2.kdict_mk2 ?_ ?_ ?_ (by decide) ?_,fun s u=>.of_eq rfl,mg_none_of KX G ?_,mg_none_of KX G ?_,mg_none_of KX G ?_,mg_none_of KX G ?_,mg_none_of KX G ?_,mg_none_of KX G ?_,mg_none_of KX G ?_,mg_none_of KX G ?_,mg_none_of KX G ?_,mg_none_of KX G ?_,mg_none_of KX G ?_,mg_none_of KX G ?_,mg_none_of KX G ?_,mg_none_of KX G ?_,mg_of KX G ?_,⟨?_⟩,mg_of KX G ?_,⟨?_⟩,mg_of KX G ?_,⟨?_⟩,mg_of KX G ?_,⟨?_⟩,mg_of KX G ?_,⟨?_⟩,mg_of KX G ?_,⟨?_⟩,mg_of KX G ?_,⟨?_⟩,mg_of KX G ?_,⟨?_⟩,mg_of KX G ?_,⟨?_⟩,mg_of KX G ?_,⟨?_⟩,mg_of KX G ?_,⟨?_⟩,mg_of KX G ?_,⟨?_⟩,mg_of KX G ?_,?_,?_,?_⟩⟩
   any_goals first | k_is | k_exc | rfl | kernel_rfl
  obtain ⟨t,T⟩:=T
  have e0:=hmg.symm.trans T.p_law.g
  cases e0
  refine' ⟨_,?b,fun base kb nb=>KT.ok_law T⟩
  exact T.bl
#print axioms PySem.Challenge.cw_tentloops_k21_no_thread_holds
