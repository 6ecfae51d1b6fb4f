import PyProof.Rows.All
import Wide.All
import OpenK.AllK
import Wide.FinOn
import Lean
import PyProof.EqAt
import PyProof.EqKinds
import PyProof.TupleCall
import PySem.Challenge.RW_tentloops_k11_exchange_refusals
set_option Elab.async false
set_option linter.all false
set_option maxRecDepth 100000
universe u v
theorem An(n:Nat):n<=n:=Nat.le_refl n
theorem Ao{h:PySem.Heap}{a:PySem.Addr}{o:PySem.Obj}:h.get? a=some o->a<h.objs.size:=PySem.Heap.lt_size
theorem Ap(h:PySem.Heap){o:PySem.Obj}:o.isFreed=false->(h.push o).get? h.objs.size=some o:=PySem.Heap.get?_push_size h
theorem Aq{α:Type u}{a:List α}:a.toArray.size=a.length:=List.size_toArray
theorem Ar{α:Type u}{b:α}{l:List α}{a:α}:a∈b::l->a=b\/a∈l:=List.mem_cons.mp
theorem As{a b:Nat}:a<b->a≠b:=Nat.ne_of_lt
theorem At{α:Type u}{a:α}:[a].length=1:=List.length_singleton
theorem Au{α:Type u}{l:List α}{i:Nat}{a:α}:l[i]?=some a->a∈l:=List.mem_of_getElem?
theorem Av{α:Type u}{l k:List α}{i:Nat}:i<l.length->(l++k)[i]?=l[i]?:=List.getElem?_append_left
theorem Aw{α:Type u}{l:List α}{i:Nat}:l.take (i+1)=l.take i++l[i]?.toList:=List.take_add_one
theorem Ax{α:Type u}{a b:α}:some a=some b->a=b:=Option.some.inj
theorem Ay{α:Type u}{l:List α}{i:Nat}:l.length<=i->l[i]?=none:=List.getElem?_eq_none
theorem Az(n:Nat):0<=n:=Nat.zero_le n
theorem Aa{α:Type u}{i:Nat}{a:α}{l:List α}:l[i]?=some a->∃ h:i<l.length,l[i]=a:=List.getElem?_eq_some_iff.mp
theorem Ab{α:Type u}{β:Type v}{as:List α}(f:α->β):(as.map f).length=as.length:=List.length_map f
theorem Ac{α:Type u}{l:List α}{i:Nat}(h:i<l.length):l[i]?=some l[i]:=List.getElem?_eq_getElem h
theorem Ad{α:Type u}{l:List α}{i:Nat}{a:α}:l.getD i a=l[i]?.getD a:=List.getD_eq_getElem?_getD
theorem Ae{α:Type u}{as bs:List α}:(as++bs).length=as.length+bs.length:=List.length_append
theorem Af{α:Type u}{a b:α}:a∈[b]->a=b:=List.mem_singleton.mp
theorem Ag{n m k:Nat}:n<m->m<=k->n<k:=Nat.lt_of_lt_of_le
theorem Ah{α:Type u}{β:Type v}{f:α->β}{l:List α}{i:Nat}:(l.map f)[i]?=(l[i]?).map f:=List.getElem?_map
theorem Ai{α:Type u}{i:Nat}{l:List α}:(l.take i).length=min i l.length:=List.length_take
theorem Aj{α:Type u}{β:Type v}{f:α->β}{l₁ l₂:List α}:(l₁++l₂).map f=l₁.map f++l₂.map f:=List.map_append
theorem Ak{h:PySem.Heap}{a:PySem.Addr}{o':PySem.Obj}(o:PySem.Obj)(e:h.get? a=some o'):(h.push o).get? a=some o':=PySem.Heap.get?_push_of_some o e
theorem Al{α β:Type}{M:PySem.Model}{A:PySem.Around}{E:PySem.Value->PySem.Shared->Prop}{s:PySem.Shared}{m:PySem.Sem α}{f:α->PySem.Sem β}{Q:β->PySem.Shared->Prop}(h:PySem.wpAny M A m (λa s'=>PySem.wpAny M A (f a) Q E s') E s):PySem.wpAny M A (m>>=f) Q E s:=PySem.wpAny_bind h
set_option maxHeartbeats 4000000
namespace L2
open PySem PySem.Spec PyProof.Rows
noncomputable abbrev Key:=Sum Int Str
noncomputable def Oe:Key->Value->Bool
 | .inl k,v=>Value.isInt k v
 | .inr x,v=>Value.isStrOf x v
noncomputable def keyH (w:World):Key->Int
 | .inl k=>hashInt k
 | .inr x=>hashStr w x
theorem Xn:∀ {k:Key} {v:Value},Oe k v=true->(∃ i t,k=Sum.inl i/\v=Value.int i t)\/(∃ x t,k=Sum.inr x/\v=Value.str x t)
 | .inl i,v,h=>by
  obtain ⟨t,e⟩:=Value.isInt_shape (k:=i) (v:=v) h
  exact .inl ⟨i,t,rfl,e⟩
 | .inr x,v,h=>by
  obtain ⟨t,e⟩:=Value.isStrOf_shape (x:=x) (v:=v) h
  exact .inr ⟨x,t,rfl,e⟩
theorem Zje (i:Int) (t:Tok):Oe (.inl i) (.int i t)=true:=by simp [Oe,Value.isInt]
theorem Q6 (x:Str) (t:Tok):Oe (.inr x) (.str x t)=true:=by simp [Oe,Value.isStrOf]
theorem Zop (a b:Int):decide ((Sum.inl a:Key)=Sum.inl b)=(a == b):=by
 by_cases e:a=b
 ·subst e; simp
 ·have h:¬ (Sum.inl a:Key)=Sum.inl b:=λq=>e (Sum.inl.inj q)
  rw [decide_eq_false h]
  exact (beq_eq_false_iff_ne.mpr e).symm
theorem Zom (a b:Str):decide ((Sum.inr a:Key)=Sum.inr b)=decide (a=b):=by
 by_cases e:a=b
 ·subst e; simp
 ·have h:¬ (Sum.inr a:Key)=Sum.inr b:=λq=>e (Sum.inr.inj q)
  rw [decide_eq_false h,decide_eq_false e]
theorem Zoo (a:Int) (b:Str):decide ((Sum.inl a:Key)=Sum.inr b)=false:=decide_eq_false (λq=>nomatch q)
theorem Zon (a:Str) (b:Int):decide ((Sum.inr a:Key)=Sum.inl b)=false:=decide_eq_false (λq=>nomatch q)
noncomputable def Z9 (prog:Program) (w:World):PySem.KeyKind prog w Key where
 is:=Oe
 hash:=keyH w
 inj:=λv a b ha hb=>by
  rcases Xn ha with ⟨i,t,rfl,rfl⟩ | ⟨x,t,rfl,rfl⟩
  ·rcases Xn hb with ⟨j,u,rfl,e⟩ | ⟨y,u,rfl,e⟩
   ·injection e with e1 _; rw [e1]
   ·exact nomatch e
  ·rcases Xn hb with ⟨j,u,rfl,e⟩ | ⟨y,u,rfl,e⟩
   ·exact nomatch e
   ·injection e with e1 _; rw [e1]
 byValue:=λk v h=>by
  rcases Xn h with ⟨i,t,rfl,rfl⟩ | ⟨x,t,rfl,rfl⟩ <;> rfl
 pyHash:=λhv h=>by
  rcases Xn hv with ⟨i,t,rfl,rfl⟩ | ⟨x,t,rfl,rfl⟩
  ·exact wpAny_pyHash_int h
  ·exact wpAny_pyHash_str h
 eqBool:=λhu hv h=>by
  rcases Xn hu with ⟨i,t,rfl,rfl⟩ | ⟨x,t,rfl,rfl⟩
  ·rcases Xn hv with ⟨j,u,rfl,rfl⟩ | ⟨y,u,rfl,rfl⟩
   ·rw [Zop] at h; exact wpAny_eqBool_int h
   ·rw [Zoo] at h; exact SeqAt.EqAt.int_str i t y u _ _ _ _ h
  ·rcases Xn hv with ⟨j,u,rfl,rfl⟩ | ⟨y,u,rfl,rfl⟩
   ·rw [Zon] at h; exact SeqAt.EqAt.str_int x t j u _ _ _ _ h
   ·rw [Zom] at h; exact wpAny_eqBool_str h
 «strs»:=λk x t v h=>by
  rcases Xn h with ⟨i,u,rfl,e⟩ | ⟨y,u,rfl,e⟩
  ·exact nomatch e
  ·injection e with e1 _
   subst e1
   cases v <;> rfl
theorem Zfb (prog:Program) (w:World) (i:Int) (t:Tok):(Z9 prog w).is (.inl i) (.int i t)=true:=Zje i t
theorem Zfa (prog:Program) (w:World) (x:Str) (t:Tok):(Z9 prog w).is (.inr x) (.str x t)=true:=Q6 x t
inductive V where
 | non | bl (b:Bool) | int (i:Int) | str (x:Str) | byt (b:Array UInt8) | flt (b:UInt64) | ref (a:Addr) | ty (n:String)
 deriving DecidableEq
set_option genInjectivity false
set_option genSizeOf false
noncomputable def RelV:V->Value->Prop
 | .non,u=>u=Value.none
 | .bl b,u=>u=Value.bool b
 | .int i,u=>∃ t,u=Value.int i t
 | .str x,u=>∃ t,u=Value.str x t
 | .byt b,u=>∃ t,u=Value.bytes b t
 | .flt b,u=>∃ t,u=Value.float b t
 | .ref a,u=>u=Value.ref a
 | .ty n,u=>u=Value.type n
noncomputable abbrev Vals:List V->List Value->Prop:=Paired RelV
theorem Vals.length {xs:List V} {us:List Value} (r:Vals xs us):xs.length=us.length:=Paired.length r
theorem Vals.get:∀ {xs:List V} {us:List Value} {i:Nat} {x:V},Vals xs us->xs[i]?=some x->∃ u,us[i]?=some u/\RelV x u
 | _,_,_,_,.nil,e=>by simp at e
 | _,_,0,_,.cons r _,e=>by simp at e; subst e; exact ⟨_,rfl,r⟩
 | _,_,i + 1,x,.cons _ t,e=>by
  obtain ⟨u,h1,h2⟩:=Vals.get (i:=i) (x:=x) t (by simpa using e)
  exact ⟨u,by simpa using h1,h2⟩
theorem Vals.set {x:V} {u:Value} (r:RelV x u):∀ {xs:List V} {us:List Value} (i:Nat),Vals xs us->Vals (xs.set i x) (us.set i u)
 | _,_,_,.nil=>.nil
 | _,_,0,.cons _ t=>.cons r t
 | _,_,i + 1,.cons q t=>.cons q (Vals.set r i t)
theorem Vals.append:∀ {xs ys:List V} {us ws:List Value},Vals xs us->Vals ys ws->Vals (xs ++ ys) (us ++ ws)
 | _,_,_,_,.nil,s=>s
 | _,_,_,_,.cons r t,s=>.cons r (Vals.append t s)
theorem Vals.take:∀ {xs:List V} {us:List Value} (n:Nat),Vals xs us->Vals (xs.take n) (us.take n)
 | _,_,0,_=>.nil
 | _,_,_ + 1,.nil=>.nil
 | _,_,n + 1,.cons r t=>.cons r (Vals.take n t)
theorem Vals.drop:∀ {xs:List V} {us:List Value} (n:Nat),Vals xs us->Vals (xs.drop n) (us.drop n)
 | _,_,0,r=>r
 | _,_,_ + 1,.nil=>.nil
 | _,_,n + 1,.cons _ t=>Vals.drop n t
noncomputable def RelO:Option V->Option Value->Prop
 | some v,some u=>RelV v u
 | none,none=>True
 | _,_=>False
noncomputable def KV {κ:Type}:List (κ × V)->List (κ × Value)->Prop:=Paired λ(p:κ × V) (q:κ × Value)=>p.1=q.1/\RelV p.2 q.2
noncomputable def kV:Key->V
 | .inl i=>.int i
 | .inr x=>.str x
inductive HO where
 /-- a list -/
 | lst (xs:List V)
 /-- a tuple (never changes) -/
 | tup (xs:List V)
 /-- a dict whose keys are ints and texts; one whose keys are tuples of ints and texts (the empty one is both) -/
 | dK (kvs:List (Key × V)) | dT (kvs:List (List Key × V))
 /-- a set of ints: its members,its size -/
 | set (S:Int->Bool) (n:Nat)
 /-- an instance of the class at C,its dict at dx,its attributes -/
 | ins (C dx:Addr) (fs:List (Str × V))
 /-- the dict of the instance at x -/
 | own (x:Addr)
 /-- the dict of an exception -/
 | xd (fs:List (Str × V))
 /-- a bound method,f of x -/
 | met (f x:Addr)
 /-- a range object lo,lo + 1,.. below hi -/
 | rng (lo hi:Int)
 /-- a thing that is known to the object (the script; a dict while a loop walks it): read,never written while it is so -/
 | frz (o:Obj) (u:HO)
 /-- a code object's table -/
 | tbl (ps:Array Value)
 /-- any other thing,by what is true of its one object (a def of one's own: SetO a S n:=HO.ext λh=>..) -/
 | ext (φ:Heap->Prop)
noncomputable abbrev Hp:=Addr->Option HO
noncomputable def upd (H:Hp) (a:Addr) (o:HO):Hp:=λb=>if b=a then some o else H b
theorem Zc {H:Hp} {a:Addr} {o:HO}:upd H a o a=some o:=by unfold upd; rw [if_pos rfl]
theorem Zd {H:Hp} {a b:Addr} {o:HO} (h:b≠a):upd H a o b=H b:=by unfold upd; rw [if_neg h]
theorem Zpm {H:Hp} {a b:Addr} {o u:HO} (h:H a=some o) (h':H b=some u) (d:o≠u):a≠b:=by
 intro e; subst e; rw [h] at h'; exact d (Ax h')
theorem Zi {H:Hp} {a b:Addr} {o:HO} (h:H a=some o) (h':H b=none):a≠b:=by
 intro e; subst e; rw [h] at h'; cases h'
section
variable (P:Program) (w:World)
noncomputable def Yj (H:Hp) (h:Heap) (a:Addr):HO->Prop
 | .lst xs=>xs.length<=sizeLine/\∃ (its:List Value) (n:Nat),Vals xs its/\h.get? a=some { cls:=.type "list",data:=.seq its.toArray n }
 | .tup xs=>xs.length<=sizeLine/\∃ its:List Value,Vals xs its/\IsTup h a its.toArray
 | .dK kvs=>kvs.length<=sizeLine/\(a == sysModules)=false/\∃ vs,KV kvs vs/\h.DictOf (Z9 P w) a vs
 | .dT kvs=>kvs.length<=sizeLine/\(a == sysModules)=false/\∃ xs:List (List Key × Addr × Value),
   Paired (λ(p:List Key × V) (q:List Key × Addr × Value)=>p.1=q.1/\H q.2.1=some (.tup (p.1.map kV))/\RelV p.2 q.2.2) kvs xs /\
   ∃ o es ep,h.get? a=some o/\o.ExactDict/\o.data=.dict es ep/\es.toList=xs.map (entryOfKey (tupleKind (Z9 P w)))/\(xs.map (·.1)).Nodup
 | .set S n=>h.SetOf (intKind P w) a S n
 | .ins C dx fs=>H dx=some (.own a)/\fs.length<=1000/\dx≠a/\h.get? a=some (PySem.W.instObj C dx) /\
   ∃ mA,h.Ns1 dx mA/\(∀ f,RelO (fs.lookup f) (mA f))/\PySem.Within mA (fs.map (·.1))
 | .own _=>∃ o,h.get? a=some o
 | .xd fs=>∃ mA,h.Ns1 a mA/\∀ f,RelO (fs.lookup f) (mA f)
 | .rng lo hi=>∃ t u v,h.get? a=some { cls:=.type "range",data:=.fields #[.int lo t,.int hi u,.int 1 v] }
 | .frz o u=>h.get? a=some o/\Yj H h a u
 | .tbl ps=>h.get? a=some { cls:=.none,data:=.fields ps }
 | .met f x=>h.get? a=some (PySem.W.methodObj (.ref f) (.ref x))
 | .ext φ=>φ h/\(∃ o,h.get? a=some o)/\∀ h1 h2:Heap,φ h1->(∀ o,h1.get? a=some o->h2.get? a=some o)->φ h2
noncomputable def HOk (H:Hp) (h:Heap):Prop:=∀ a o,H a=some o->Yj P w H h a o
end
section
variable {P:Program} {w:World} {H H':Hp} {h h':Heap} {a:Addr} {o:HO}
theorem Yj.lt (x:Yj P w H h a o):a < h.objs.size:=by
 cases o with
 | lst xs=>obtain ⟨_,_,_,_,e⟩:=x; exact Ao e
 | tup xs=>obtain ⟨_,_,_,p⟩:=x; exact p.lt
 | dK kvs=>obtain ⟨_,_,_,_,o,_,_,e,_⟩:=x; exact Ao e
 | dT kvs=>obtain ⟨_,_,_,_,o,_,_,e,_⟩:=x; exact Ao e
 | set S n=>obtain ⟨o,_,_,_,e,_⟩:=x; exact Ao e
 | ins C dx fs=>obtain ⟨_,_,_,e,_⟩:=x; exact Ao e
 | own y=>obtain ⟨_,e⟩:=x; exact Ao e
 | xd fs=>obtain ⟨_,⟨_,_,_,e,_⟩,_⟩:=x; exact Ao e
 | rng lo hi=>obtain ⟨_,_,_,e⟩:=x; exact Ao e
 | frz ob u=>obtain ⟨e,_⟩:=x; exact Ao e
 | tbl ps=>exact Ao (show h.get? a=some _ from x)
 | met f y=>exact Ao (show h.get? a=some _ from x)
 | ext φ=>obtain ⟨_,⟨_,e⟩,_⟩:=x; exact Ao e
theorem Paired.mapP {α β:Type} {F G:α->β->Prop}:∀ {l₁:List α} {l₂:List β},Paired F l₁ l₂->(∀ a b,F a b->G a b)->Paired G l₁ l₂
 | _,_,.nil,_=>.nil
 | _,_,.cons r t,f=>.cons (f _ _ r) (Paired.mapP t f)
theorem Yj.stay (x:Yj P w H h a o) (k:∀ b u,(b=a\/H b=some (.own a))->h.get? b=some u->h'.get? b=some u)
  (ho:∀ b,H b=some (.own a)->H' b=some (.own a)) (ht:∀ b xs,H b=some (.tup xs)->H' b=some (.tup xs)):Yj P w H' h' a o:=by
 induction o with
 | lst xs=>obtain ⟨z,its,n,r,e⟩:=x; exact ⟨z,its,n,r,k _ _ (.inl rfl) e⟩
 | tup xs=>obtain ⟨z,its,r,ob,e,c⟩:=x; exact ⟨z,its,r,ob,k _ _ (.inl rfl) e,c⟩
 | dK kvs=>obtain ⟨z,y,vs,r,ob,es,ep,e,c⟩:=x; exact ⟨z,y,vs,r,ob,es,ep,k _ _ (.inl rfl) e,c⟩
 | dT kvs =>
  obtain ⟨z,y,xs,r,ob,es,ep,e,c⟩:=x
  exact ⟨z,y,xs,Paired.mapP r λp q z=>⟨z.1,ht _ _ z.2.1,z.2.2⟩,ob,es,ep,k _ _ (.inl rfl) e,c⟩
 | set S n=>obtain ⟨ob,es,ep,t,e,c⟩:=x; exact ⟨ob,es,ep,t,k _ _ (.inl rfl) e,c⟩
 | ins C dx fs =>
  obtain ⟨d,z,ne,e,mA,⟨od,es,ep,e2,c⟩,r⟩:=x
  exact ⟨ho _ d,z,ne,k _ _ (.inl rfl) e,mA,⟨od,es,ep,k _ _ (.inr d) e2,c⟩,r⟩
 | own y=>obtain ⟨ob,e⟩:=x; exact ⟨ob,k _ _ (.inl rfl) e⟩
 | xd fs=>obtain ⟨mA,⟨od,es,ep,e,c⟩,r⟩:=x; exact ⟨mA,⟨od,es,ep,k _ _ (.inl rfl) e,c⟩,r⟩
 | rng lo hi=>obtain ⟨t,u,v,e⟩:=x; exact ⟨t,u,v,k _ _ (.inl rfl) e⟩
 | frz ob u ih=>obtain ⟨e,q⟩:=x; exact ⟨k _ _ (.inl rfl) e,ih q⟩
 | tbl ps =>
  have e:h.get? a=some { cls:=.none,data:=.fields ps }:=x
  show h'.get? a=some { cls:=.none,data:=.fields ps }
  exact k a _ (.inl rfl) e
 | met f y =>
  have e:h.get? a=some (PySem.W.methodObj (.ref f) (.ref y)):=x
  show h'.get? a=some (PySem.W.methodObj (.ref f) (.ref y))
  exact k a _ (.inl rfl) e
 | ext φ=>obtain ⟨p,⟨o,e⟩,st⟩:=x; exact ⟨st _ _ p λo q=>k _ _ (.inl rfl) q,⟨o,k _ _ (.inl rfl) e⟩,st⟩
theorem HOk.lt (x:HOk P w H h) (e:H a=some o):a < h.objs.size:=(x a o e).lt
theorem HOk.fresh (x:HOk P w H h) (e:h.objs.size<=a):H a=none:=by
 cases q:H a with
 | none=>rfl
 | some u=>exact absurd (Ag (x.lt q) e) (Nat.lt_irrefl _)
theorem HOk.kept (x:HOk P w H h) (k:∀ b u,h.get? b=some u->h'.get? b=some u):HOk P w H h':=λa o e =>
 (x a o e).stay (λb u _ q=>k b u q) (λ_ q=>q) λ_ _ q=>q
theorem HOk.laid (x:HOk P w H h) (k:∀ b u,h.get? b=some u->h'.get? b=some u) (hp:h.objs.size<=a) (new:Yj P w (upd H a o) h' a o):HOk P w (upd H a o) h':=λb u e=>by
 have hn:=x.fresh hp
 by_cases hb:b=a
 ·subst hb; rw [Zc] at e; cases e; exact new
 ·rw [Zd hb] at e
  exact (x b u e).stay (λc v _ q=>k c v q) (λc q=>by rw [Zd (Zi q hn)]; exact q) λc xs q=>by rw [Zd (Zi q hn)]; exact q
end
noncomputable def Rd (H:Hp) (a:Addr) (u:HO):Prop:=H a=some u\/∃ o,H a=some (.frz o u)
theorem Rd.ok {P:Program} {w:World} {H:Hp} {h:Heap} {a:Addr} {u:HO} (r:Rd H a u) (x:HOk P w H h):Yj P w H h a u:=by
 rcases r with r | ⟨o,r⟩
 ·exact x a u r
 ·obtain ⟨_,q⟩:=x a _ r
  exact q
noncomputable def Mut:Option HO->Prop
 | some (.lst _)=>True
 | some (.dK _)=>True
 | some (.dT _)=>True
 | some (.set _ _)=>True
 | some (.ins _ _ _)=>True
 | some (.ext _)=>True
 | _=>False
section
variable {P:Program} {w:World} {H:Hp} {h h':Heap} {x e:Addr} {o':HO}
theorem HOk.write (ok:HOk P w H h) (mu:Mut (H x)) (he:e=x\/H e=some (.own x)) (k:∀ b u,b≠e->h.get? b=some u->h'.get? b=some u) (heo:∃ u,h'.get? e=some u)
  (new:Yj P w (upd H x o') h' x o'):HOk P w (upd H x o') h':=λb u q=>by
 have nown:∀ c y,H c=some (.own y)->c≠x:=λc y r z=>by subst z; rw [r] at mu; exact mu
 have ntup:∀ c xs,H c=some (.tup xs)->c≠x:=λc xs r z=>by subst z; rw [r] at mu; exact mu
 by_cases hb:b=x
 ·subst hb; rw [Zc] at q; cases q; exact new
 ·rw [Zd hb] at q
  by_cases hbe:b=e
  ·have q':H b=some (.own x):=by
    rcases he with z | z
    ·exact absurd (hbe.trans z) hb
    ·rw [hbe]; exact z
   rw [q] at q'; cases q'
   obtain ⟨v,hv⟩:=heo
   exact ⟨v,by rw [hbe]; exact hv⟩
  ·refine (ok b u q).stay (λc v hc r=>k c v ?_ r) (λc r=>by rw [Zd (nown c b r)]; exact r) λc xs r=>by rw [Zd (ntup c xs r)]; exact r
   rcases hc with rfl | hc
   ·exact hbe
   ·rintro rfl
    rcases he with z | z
    ·exact nown c b hc z
    ·rw [hc] at z; cases z; exact hb rfl
end
structure Un (fs ex:List Addr) (H H':Hp) (h h':Heap):Prop where
 keep:∀ b o,h.get? b=some o->H b=none->b ∉ fs->b ∉ ex->h'.get? b=some o
 slot:∀ b o,h.get? b=some o->H b=none->b∈fs->b ∉ ex->∃ sl,h'.get? b=some { o with slots:=sl }
 free:∀ b o,h.get? b=some o->H b=none->b ∉ ex->H' b=none
 there:∀ b o,h.get? b=some o->b ∉ ex->∃ o',h'.get? b=some o'
 tups:∀ b xs,H b=some (.tup xs)->H' b=some (.tup xs)
 frzs:∀ b o u,H b=some (.frz o u)->H' b=some (.frz o u)
 tbls:∀ b ps,H b=some (.tbl ps)->∃ more,H' b=some (.tbl (ps ++ more))
section
variable {fs fs' ex ex':List Addr} {H H1 H2:Hp} {h h1 h2 h':Heap} {a x e:Addr} {o:HO}
theorem Un.any (u:Un fs ex H H1 h h1) {b:Addr} {ob:Obj} (q:h.get? b=some ob) (n:H b=none) (hx:b ∉ ex):∃ sl,h1.get? b=some { ob with slots:=sl }:=by
 by_cases hb:b∈fs
 ·exact u.slot b ob q n hb hx
 ·exact ⟨ob.slots,u.keep b ob q n hb hx⟩
theorem Un.kept (k:∀ b u,h.get? b=some u->h'.get? b=some u):Un fs ex H H h h' :=
 ⟨λb ob q _ _ _=>k b ob q,λb ob q _ _ _=>⟨ob.slots,k b ob q⟩,λ_ _ _ n _=>n,λb ob q _=>⟨ob,k b ob q⟩,λ_ _ q=>q,λ_ _ _ q=>q,λ_ ps q=>⟨#[],by rw [q]; simp⟩⟩
theorem Un.refl:Un fs ex H H h h:=Un.kept λ_ _ q=>q
theorem Un.laid (k:∀ b u,h.get? b=some u->h'.get? b=some u) (hp:h.objs.size<=a) (hn:H a=none):Un fs ex H (upd H a o) h h' where
 keep:=λb u q _ _ _=>k b u q
 slot:=λb u q _ _ _=>⟨u.slots,k b u q⟩
 free:=λb u q n _=>by rw [Zd (As (Ag (Ao q) hp))]; exact n
 there:=λb u q _=>⟨u,k b u q⟩
 tups:=λb xs q=>by rw [Zd (Zi q hn)]; exact q
 frzs:=λb u xs q=>by rw [Zd (Zi q hn)]; exact q
 tbls:=λb ps q=>⟨#[],by rw [Zd (Zi q hn),q]; simp⟩
theorem Un.write (mu:Mut (H x)) (he:e=x\/H e=some (.own x)) (k:∀ b u,b≠e->h.get? b=some u->h'.get? b=some u) (heo:∃ u,h'.get? e=some u):Un fs ex H (upd H x o) h h':=by
 have hx:∀ b,H b=none->b≠x:=λb n z=>by subst z; rw [n] at mu; exact mu
 have hb:∀ b,H b=none->b≠e:=λb n z=>by
  subst z
  rcases he with r | r
  ·exact hx b n r
  ·rw [n] at r; cases r
 have hm:∀ b u,H b=some u->¬ Mut (some u)->b≠x:=λb u q nm z=>by subst z; rw [q] at mu; exact nm mu
 refine ⟨λb u q n _ _=>k b u (hb b n) q,λb u q n _ _=>⟨u.slots,k b u (hb b n) q⟩,λb u q n _=>by rw [Zd (hx b n)]; exact n,λb u q _=>?_,
  λb xs q=>by rw [Zd (hm b _ q λz=>z)]; exact q,λb u xs q=>by rw [Zd (hm b _ q λz=>z)]; exact q,λb ps q=>⟨#[],by rw [Zd (hm b _ q λz=>z),q]; simp⟩⟩
 by_cases hbe:b=e
 ·subst hbe; exact heo
 ·exact ⟨u,k b u hbe q⟩
end
noncomputable def trk (h:Heap) (H:Hp):List Addr:=(List.range h.objs.size).filter λa=>(H a).isSome
noncomputable def hidT (h:Heap) (H:Hp):Heap:=PySem.W.hideAll h (trk h H)
theorem Zji (h:Heap) (H:Hp):(hidT h H).objs.size=h.objs.size:=PySem.W.hideAll_size _ _
theorem Zle {h:Heap} {H:Hp} {b:Addr} {o:Obj} (e:h.get? b=some o) (n:H b=none):(hidT h H).get? b=some o :=
 PySem.W.hideAll_get _ e λhm=>by
  have q:(H b).isSome=true:=(List.mem_filter.mp hm).2
  rw [n] at q; simp at q
theorem Zm5 {h:Heap} {H:Hp} {b:Addr} {o:Obj} (e:(hidT h H).get? b=some o):h.get? b=some o/\H b=none:=by
 have e':h.get? b=some o:=PySem.W.of_hideAll (trk h H) e
 refine ⟨e',?_⟩
 cases q:H b with
 | none=>rfl
 | some x =>
  have hm:b∈trk h H:=List.mem_filter.mpr ⟨List.mem_range.mpr (Ao e'),by simp [q]⟩
  have z:(hidT h H).get? b=none:=PySem.W.hideAll_none (trk h H) hm
  rw [z] at e; cases e
noncomputable def Znq (g h:Heap) (L:Addr):List (Addr × Obj):=(List.range h.objs.size).filterMap λa=>if a=L\/(g.get? a).isSome=true then none else (h.get? a).map λo=>(a,o)
noncomputable def rest (g h:Heap) (L d:Addr):List (Addr × Obj):=(Znq g h L).filter λp=>decide (p.1≠d)
structure Mod (K:W.Frag) (mg:Str->Option Value) (base:Heap):Prop where
 kin:K.In base
 glob:base.Ns mainGlobals mg
 blt:∃ mb,base.Ns builtinsNs mb/\∀ x:Str,x≠"__name__"->mb x=bootBuiltins x
 nolimit:base.NoLimit
structure Cx where
 prog:Program
 w:World
 K:PySem.W.Frag
 mg:Str->Option Value
 base:Heap
 A:Around
 N:List Str
 s₀:Shared
 H₀:Hp
 env:Env
 outer:List Env
 stack:List Env
 ex:List Addr
 fn:Str->Bool
 calm:Bool
 pn:List (Addr × Obj)
 xe:Value->Shared->Prop
noncomputable def frs (l:List Env):List Addr:=l.filterMap (·.frame)
noncomputable abbrev Cx.fs (X:Cx):List Addr:=frs X.outer
noncomputable def Vis (sc:Scope) (x:Str):Prop:=sc.names.lookup x=some .local\/sc.names.lookup x=some .cell\/sc.names.lookup x=some .free
noncomputable def Loc (sc:Scope) (x:Str):Prop:=sc.names.lookup x=some .local\/sc.names.lookup x=some .cell
noncomputable def Look (env:Env) (h:Heap) (m:Str->Option Value) (x:Str) (u:Value):Prop :=
 (env.kindOf x=some .local/\m x=some u)\/((env.kindOf x=some .cell\/env.kindOf x=some .free)/\∃ c,env.cells.lookup x=some c/\h.IsCell c (some u))
structure Cx.Ok (X:Cx):Prop where
 mod:Mod X.K X.mg X.base
 kind:X.env.scope.kind=.function
 glob:X.env.globals=mainGlobals
 blt:X.env.builtins=builtinsNs
 above:X.s₀.heap.objs.size<=X.env.locals
 inj:∀ x y c,X.env.cells.lookup x=some c->X.env.cells.lookup y=some c->x=y
 has:∀ x,(X.env.kindOf x=some .cell\/X.env.kindOf x=some .free)->∃ c,X.env.cells.lookup x=some c
 cab:∀ x c,X.fn x=true->X.env.cells.lookup x=some c->X.s₀.heap.objs.size<=c
 hd:X.calm=true->X.A.handled=none
 frames:X.A.frames=some X.stack
 stk:X.stack=X.outer\/(X.stack=X.env :: X.outer/\X.env.frame=some X.env.locals)
 exf:∀ b∈X.ex,b≠X.env.locals/\∀ x c,X.env.cells.lookup x=some c->c≠b
 bs:∀ b o,X.base.get? b=some o->X.s₀.heap.get? b=some o/\X.H₀ b=none
 bsz:X.base.objs.size<=X.s₀.heap.objs.size
 noex:∀ b o,X.base.get? b=some o->b ∉ X.ex
 exfs:∀ b∈X.ex,b ∉ X.fs
 funs:X.s₀.heap.FunFrames X.base X.outer
 frf:∀ b∈X.fs,X.H₀ b=none
structure Inv (X:Cx) (pins:List (Addr × Obj)) (σ:List (Option V)) (H:Hp) (s:Shared):Prop where
 ok:X.Ok
 os:s.os=X.s₀.os
 bare:AllBare s.gens
 base:Un X.fs X.ex X.H₀ H X.s₀.heap s.heap
 loc:∃ m,s.heap.Ns X.env.locals m/\∀ (i:Nat) (x:Str) (v:V),X.N[i]?=some x->σ[i]?=some (some v)->Vis X.env.scope x->∃ u,RelV v u/\Look X.env s.heap m x u
 cell:∀ x c,X.env.cells.lookup x=some c->∃ v,s.heap.IsCell c v
 free:H X.env.locals=none
 freeC:∀ x c,X.env.cells.lookup x=some c->H c=none
 pin:∀ p∈X.pn ++ pins,s.heap.get? p.1=some p.2/\H p.1=none/\p.1≠X.env.locals/\p.1 ∉ X.fs/\∀ v,p.2.data≠.cell v
 hok:HOk X.prog X.w H s.heap
 len:σ.length=X.N.length
section
variable {X:Cx} {pins:List (Addr × Obj)} {σ:List (Option V)} {H H':Hp} {s:Shared} {h':Heap}
theorem Cx.Ok.nofr (ok:X.Ok) {b:Addr} {o:Obj} (e:X.base.get? b=some o):b ∉ X.fs:=λhb=>by
 have:=(ok.funs.mem hb).1
 rw [e] at this; cases this
theorem Inv.bs (I:Inv X pins σ H s):∀ b o,X.base.get? b=some o->s.heap.get? b=some o/\H b=none:=λb o e =>
 ⟨I.base.keep b o (I.ok.bs b o e).1 (I.ok.bs b o e).2 (I.ok.nofr e) (I.ok.noex b o e),I.base.free b o (I.ok.bs b o e).1 (I.ok.bs b o e).2 (I.ok.noex b o e)⟩
theorem Inv.bk (I:Inv X pins σ H s):∀ b o,X.base.get? b=some o->s.heap.get? b=some o:=λb o e=>(I.bs b o e).1
theorem Inv.mod (I:Inv X pins σ H s):Mod X.K X.mg X.base:=I.ok.mod
theorem Inv.kIn (I:Inv X pins σ H s):X.K.In s.heap:=I.ok.mod.kin.keeps I.bk
theorem Inv.lt (I:Inv X pins σ H s):X.env.locals < s.heap.objs.size:=let ⟨_,hn,_⟩:=I.loc; hn.lt
theorem Inv.sz (I:Inv X pins σ H s):X.s₀.heap.objs.size<=s.heap.objs.size:=Nat.le_trans I.ok.above (Nat.le_of_lt I.lt)
theorem Inv.nofs (I:Inv X pins σ H s) {a:Addr} (h:s.heap.objs.size<=a):a ∉ X.fs:=λhb=>by
 obtain ⟨_,o,ho,_⟩:=I.ok.funs.mem hb
 exact absurd (Ag (Ao ho) (Nat.le_trans I.sz h)) (Nat.lt_irrefl _)
theorem Inv.cne (I:Inv X pins σ H s):∀ x c,X.env.cells.lookup x=some c->c≠X.env.locals:=λx c e z=>by
 obtain ⟨v,o,ho,hd⟩:=I.cell x c e
 obtain ⟨m,⟨o',es,ep,ho',hd',_⟩,_⟩:=I.loc
 rw [z,ho'] at ho; cases ho; rw [hd'] at hd; cases hd
theorem Inv.funs (I:Inv X pins σ H s):s.heap.FunFrames X.base X.outer:=by
 have all:∀ (l:List Env),(∀ b∈frs l,b∈X.fs)->X.s₀.heap.FunFrames X.base l->s.heap.FunFrames X.base l:=by
  intro l
  induction l with
  | nil=>intro _ _; trivial
  | cons env r ih =>
   intro hs hl
   obtain ⟨hk,⟨L,o,hf,hn,ho,hd⟩,hr⟩:=hl
   have hL:L∈X.fs:=hs L (by unfold frs; rw [List.filterMap_cons,hf]; exact List.mem_cons_self)
   obtain ⟨sl,e⟩:=I.base.slot L o ho (I.ok.frf L hL) hL λz=>I.ok.exfs L z hL
   exact ⟨hk,⟨L,_,hf,hn,e,hd⟩,ih (λb hb=>hs b (by unfold frs; rw [List.filterMap_cons,hf]; exact List.mem_cons_of_mem _ hb)) hr⟩
 exact all X.outer (λ_ hb=>hb) I.ok.funs
theorem Inv.stack (I:Inv X pins σ H s):s.heap.FunFrames X.base X.stack:=by
 rcases I.ok.stk with e | ⟨e,hf⟩
 ·rw [e]; exact I.funs
 ·rw [e]
  obtain ⟨m,hn,_⟩:=I.loc
  refine .cons (by rw [I.ok.kind]; decide) hf hn ?_ I.funs
  exact Heap.get?_none_of_le (Nat.le_trans I.ok.bsz I.ok.above)
theorem Inv.stkSub (I:Inv X pins σ H s):∀ b∈frs X.stack,b∈X.env.locals :: X.fs:=λb hb=>by
 rcases I.ok.stk with e | ⟨e,hf⟩
 ·rw [e] at hb; exact List.mem_cons_of_mem _ hb
 ·rw [e] at hb
  unfold frs at hb
  rw [List.filterMap_cons,hf] at hb
  exact hb
theorem Inv.stkFree (I:Inv X pins σ H s):∀ b∈frs X.stack,H b=none:=λb hb=>by
 rcases Ar (I.stkSub b hb) with e | hb
 ·rw [e]; exact I.free
 ·obtain ⟨_,o,ho,_⟩:=I.ok.funs.mem hb
  exact I.base.free b o ho (I.ok.frf b hb) λz=>I.ok.exfs b z hb
theorem Inv.step {g':Array GenState} {t':Nat} {d':Drawn} {ch:List Addr} (I:Inv X pins σ H s)
  (hch:∀ b∈ch,(b∈X.ex\/X.s₀.heap.objs.size<=b)/\b≠X.env.locals/\(∀ x c,X.env.cells.lookup x=some c->c≠b)/\∀ p∈X.pn ++ pins,p.1≠b)
  (keep:∀ b o,b≠X.env.locals->b ∉ X.fs->b ∉ ch->s.heap.get? b=some o->H b=none->h'.get? b=some o)
  (slot:∀ b o,b≠X.env.locals->b∈X.fs->b ∉ ch->s.heap.get? b=some o->H b=none->∃ sl,h'.get? b=some { o with slots:=sl }) (free:∀ b o,b ∉ ch->s.heap.get? b=some o->H b=none->H' b=none)
  (there:∀ b o,b ∉ ch->s.heap.get? b=some o->∃ o',h'.get? b=some o')
  (tups:∀ b xs,H b=some (.tup xs)->H' b=some (.tup xs)) (frzs:∀ b o u,H b=some (.frz o u)->H' b=some (.frz o u)) (tbls:∀ b ps,H b=some (.tbl ps)->∃ more,H' b=some (.tbl (ps ++ more)))
  (ns:∀ m,s.heap.Ns X.env.locals m->h'.Ns X.env.locals m) (hok:HOk X.prog X.w H' h') (hg:AllBare g') :
  Inv X pins σ H' { s with heap:=h',gens:=g',drawn:=d',toks:=t' }:=by
 have neL:∀ b o,X.s₀.heap.get? b=some o->b≠X.env.locals:=λb o e=>As (Ag (Ao e) I.ok.above)
 have neC:∀ b o,X.s₀.heap.get? b=some o->b ∉ X.ex->b ∉ ch:=λb o e hx hb=>by
  rcases (hch b hb).1 with z | z
  ·exact hx z
  ·exact absurd (Ag (Ao e) z) (Nat.lt_irrefl _)
 have cellK:∀ x c,X.env.cells.lookup x=some c->∀ v,s.heap.IsCell c v->h'.IsCell c v:=λx c e v ⟨o,ho,hd⟩=>by
  have nch:c ∉ ch:=λz=>(hch c z).2.2.1 x c e rfl
  by_cases hc:c∈X.fs
  ·obtain ⟨sl,q⟩:=slot c o (I.cne x c e) hc nch ho (I.freeC x c e)
   exact ⟨_,q,hd⟩
  ·exact ⟨o,keep c o (I.cne x c e) hc nch ho (I.freeC x c e),hd⟩
 refine ⟨I.ok,I.os,hg,⟨λb o e n hb hx=>?_,λb o e n hb hx=>?_,λb o e n hx=>?_,λb o e hx=>?_,λb xs e=>tups b xs (I.base.tups b xs e),λb o xs e=>frzs b o xs (I.base.frzs b o xs e),λb ps e=>?_⟩,?_,λx c e=>?_,?_,λx c e=>?_,λp hp=>?_,hok,I.len⟩
 ·exact keep b o (neL b o e) hb (neC b o e hx) (I.base.keep b o e n hb hx) (I.base.free b o e n hx)
 ·obtain ⟨sl,e1⟩:=I.base.slot b o e n hb hx
  obtain ⟨sl',e2⟩:=slot b _ (neL b o e) hb (neC b o e hx) e1 (I.base.free b o e n hx)
  exact ⟨sl',e2⟩
 ·obtain ⟨o',e1⟩:=I.base.there b o e hx
  exact free b o' (neC b o e hx) e1 (I.base.free b o e n hx)
 ·obtain ⟨o',e1⟩:=I.base.there b o e hx
  exact there b o' (neC b o e hx) e1
 ·obtain ⟨m1,e1⟩:=I.base.tbls b ps e
  obtain ⟨m2,e2⟩:=tbls b _ e1
  exact ⟨m1 ++ m2,by rw [e2,Array.append_assoc]⟩
 ·obtain ⟨m,hn,hl⟩:=I.loc
  refine ⟨m,ns m hn,λi x v e1 e2 e3=>?_⟩
  obtain ⟨u,r,l⟩:=hl i x v e1 e2 e3
  refine ⟨u,r,?_⟩
  rcases l with l | ⟨k,c,e,z⟩
  ·exact .inl l
  ·exact .inr ⟨k,c,e,cellK x c e _ z⟩
 ·obtain ⟨v,z⟩:=I.cell x c e
  exact ⟨v,cellK x c e v z⟩
 ·obtain ⟨m,⟨o,_,_,ho,_⟩,_⟩:=I.loc
  exact free _ o (λz=>(hch _ z).2.1 rfl) ho I.free
 ·obtain ⟨v,o,ho,hd⟩:=I.cell x c e
  exact free c o (λz=>(hch c z).2.2.1 x c e rfl) ho (I.freeC x c e)
 ·obtain ⟨e,n,ne,nf,d⟩:=I.pin p hp
  have nch:p.1 ∉ ch:=λz=>(hch p.1 z).2.2.2 p hp rfl
  exact ⟨keep p.1 p.2 ne nf nch e n,free p.1 p.2 nch e n,ne,nf,d⟩
theorem Inv.un {t':Nat} (I:Inv X pins σ H s) (u:Un X.fs [] H H' s.heap h') (hok:HOk X.prog X.w H' h'):Inv X pins σ H' { s with heap:=h',toks:=t' }:=by
 obtain ⟨m,⟨o,es,ep,ho,r⟩,_⟩:=id I.loc
 obtain ⟨sl,hL⟩:=u.any ho I.free (by simp)
 exact I.step (g':=s.gens) (d':=s.drawn) (ch:=[]) (λ_ z=>nomatch z) (λb o _ hb _ e n=>u.keep b o e n hb (by simp)) (λb o _ hb _ e n=>u.slot b o e n hb (by simp)) (λb o _ e n=>u.free b o e n (by simp)) (λb o _ e=>u.there b o e (by simp)) u.tups u.frzs u.tbls (λm' hm=>by
  obtain ⟨o',es',ep',ho',r'⟩:=hm
  rw [ho] at ho'; cases ho'
  exact ⟨_,es',ep',hL,r'⟩) hok I.bare
theorem Inv.call {g':Array GenState} {t':Nat} {d':Drawn} {ch:List Addr} (I:Inv X pins σ H s) (u:Un (frs X.stack) ch H H' s.heap h') (hok:HOk X.prog X.w H' h') (hg:AllBare g')
  (hch:∀ b∈ch,(b∈X.ex\/X.s₀.heap.objs.size<=b)/\b≠X.env.locals/\(∀ x c,X.env.cells.lookup x=some c->c≠b)/\∀ p∈X.pn ++ pins,p.1≠b) :
  Inv X pins σ H' { s with heap:=h',gens:=g',drawn:=d',toks:=t' }:=by
 obtain ⟨m,⟨o,es,ep,ho,r⟩,_⟩:=id I.loc
 obtain ⟨sl,hL⟩:=u.any ho I.free λz=>(hch _ z).2.1 rfl
 exact I.step (ch:=ch) hch (λb o hL hb hc e n=>u.keep b o e n (λz=>(Ar (I.stkSub b z)).elim hL hb) hc) (λb o _ _ hc e n=>u.any e n hc) (λb o hc e n=>u.free b o e n hc) (λb o hc e=>u.there b o e hc) u.tups u.frzs u.tbls (λm' hm=>by
  obtain ⟨o',es',ep',ho',r'⟩:=hm
  rw [ho] at ho'; cases ho'
  exact ⟨_,es',ep',hL,r'⟩) hok hg
theorem Inv.turned {t':Nat} {it:Addr} (I:Inv X pins σ H s) (k:∀ b o,b≠it->s.heap.get? b=some o->h'.get? b=some o) (hn:H it=none) (hL:it≠X.env.locals)
  (h1:it∈X.ex\/X.s₀.heap.objs.size<=it) (h2:∀ x c,X.env.cells.lookup x=some c->c≠it) (h3:∀ p∈X.pn ++ pins,p.1≠it):Inv X pins σ H { s with heap:=h',toks:=t' }:=by
 have nit:∀ b u,H b=some u->b≠it:=λb u e z=>by rw [z,hn] at e; cases e
 refine I.step (g':=s.gens) (d':=s.drawn) (ch:=[it]) (λb hb=>?_) (λb o _ _ hc e _=>k b o (λz=>hc (by simp [z])) e) (λb o _ _ hc e _=>⟨o.slots,k b o (λz=>hc (by simp [z])) e⟩) (λ_ _ _ _ n=>n)
  (λb o hc e=>⟨o,k b o (λz=>hc (by simp [z])) e⟩) (λ_ _ e=>e) (λ_ _ _ e=>e) (λb ps e=>⟨#[],by rw [e]; simp⟩) (λm hm=>?_) (λb u e=>?_) I.bare
 ·have e:b=it:=by simpa using hb
  subst e
  exact ⟨h1,hL,h2,h3⟩
 ·obtain ⟨o,es,ep,ho,r⟩:=hm
  exact ⟨o,es,ep,k _ o (Ne.symm hL) ho,r⟩
 ·refine (I.hok b u e).stay (λc v hc q=>k c v ?_ q) (λ_ q=>q) λ_ _ q=>q
  rcases hc with z | z
  ·rw [z]; exact nit b u e
  ·exact nit c _ z
theorem Inv.tok (I:Inv X pins σ H s) (t:Nat):Inv X pins σ H { s with toks:=t }:=I.un (h':=s.heap) (t':=t) Un.refl I.hok
theorem Inv.kept {t':Nat} (I:Inv X pins σ H s) (k:∀ b u,s.heap.get? b=some u->h'.get? b=some u):Inv X pins σ H { s with heap:=h',toks:=t' }:=I.un (Un.kept k) (I.hok.kept k)
theorem Inv.laid {a:Addr} {o:HO} {t':Nat} (I:Inv X pins σ H s) (k:∀ b u,s.heap.get? b=some u->h'.get? b=some u) (hp:s.heap.objs.size<=a) (new:Yj X.prog X.w (upd H a o) h' a o) :
  Inv X pins σ (upd H a o) { s with heap:=h',toks:=t' }:=I.un (Un.laid k hp (I.hok.fresh hp)) (I.hok.laid k hp new)
theorem Inv.write {x e:Addr} {o:HO} {t':Nat} (I:Inv X pins σ H s) (mu:Mut (H x)) (he:e=x\/H e=some (.own x)) (k:∀ b u,b≠e->s.heap.get? b=some u->h'.get? b=some u) (heo:∃ u,h'.get? e=some u)
  (new:Yj X.prog X.w (upd H x o) h' x o):Inv X pins σ (upd H x o) { s with heap:=h',toks:=t' }:=I.un (Un.write mu he k heo) (I.hok.write mu he k heo new)
theorem Inv.pins_of {pins':List (Addr × Obj)} (I:Inv X pins σ H s) (h:∀ p∈pins',s.heap.get? p.1=some p.2/\H p.1=none/\p.1≠X.env.locals/\p.1 ∉ X.fs/\∀ v,p.2.data≠.cell v):Inv X pins' σ H s :=
 ⟨I.ok,I.os,I.bare,I.base,I.loc,I.cell,I.free,I.freeC,λp hp=>(List.mem_append.mp hp).elim (λz=>I.pin p (List.mem_append_left _ z)) (h p),I.hok,I.len⟩
theorem Zd7 {N:List Str} (hN:N.Nodup) {i j:Nat} {x:Str} (a:N[i]?=some x) (b:N[j]?=some x):i=j:=by
 obtain ⟨h1,e1⟩:=Aa a
 obtain ⟨h2,e2⟩:=Aa b
 exact (List.getElem_inj hN).mp (e1.trans e2.symm)
theorem Oy {M:Model} {A:Around} {E:Value->Shared->Prop} {i:Nat} {x:Str} {v:V} {u:Value} {Q:Unit->Shared->Prop} (I:Inv X pins σ H s) (hN:X.N.Nodup) (hi:X.N[i]?=some x) (hx:Loc X.env.scope x) (r:RelV v u)
  (h:∀ s',Inv X pins (σ.set i (some v)) H s'->(∃ a,Heap.SameBut a s.heap s'.heap/\(a=X.env.locals\/X.env.cells.lookup x=some a))->Q () s') (hf:X.fn x=true\/X.env.scope.names.lookup x=some .local:=by first | exact .inl rfl | exact .inr rfl | assumption):wpAny M A (storeName X.env x u) Q E s:=by
 obtain ⟨m,hn,hl⟩:=id I.loc
 have hcls:(X.env.scope.kind == .class || (X.env.scope.kind == .module && X.env.locals != X.env.globals))=false:=by rw [I.ok.kind]; rfl
 have hiσ:i < σ.length:=by rw [I.len]; exact (Aa hi).1
 have cne:=I.cne
 have tracked:∀ {a:Addr} {h':Heap},(∃ o,s.heap.get? a=some o/\H a=none)->Heap.SameBut a s.heap h'->HOk X.prog X.w H h':=λ{a h'} ha hs b ob e=>by
  obtain ⟨_,_,hfree⟩:=ha
  refine (I.hok b ob e).stay (λc w' hc q=>(hs.2 c ?_).trans q) (λ_ q=>q) λ_ _ q=>q
  rintro rfl
  rcases hc with rfl | hc
  ·rw [hfree] at e; cases e
  ·rw [hfree] at hc; cases hc
 rcases hx with hk | hk
 ·refine wpAny_storeName_local hk hn (λh' hn' hs=>?_) hcls
  obtain ⟨oL,_,_,hoL,_⟩:=id hn
  refine h _ ⟨I.ok,I.os,I.bare,⟨λb o e n hb hx=>?_,λb o e n hb hx=>?_,I.base.free,λb o e hx=>?_,I.base.tups,I.base.frzs,I.base.tbls⟩,⟨_,hn',λj y v' e1 e2 e3=>?_⟩,λy c e=>?_,I.free,I.freeC,λp hp=>?_,tracked ⟨oL,hoL,I.free⟩ hs,by simpa using I.len⟩ ⟨_,hs,.inl rfl⟩
  ·exact (hs.2 b (As (Ag (Ao e) I.ok.above))).trans (I.base.keep b o e n hb hx)
  ·obtain ⟨sl,e1⟩:=I.base.slot b o e n hb hx
   exact ⟨sl,(hs.2 b (As (Ag (Ao e) I.ok.above))).trans e1⟩
  ·obtain ⟨o',e1⟩:=I.base.there b o e hx
   exact ⟨o',(hs.2 b (As (Ag (Ao e) I.ok.above))).trans e1⟩
  ·by_cases hj:j=i
   ·subst hj
    rw [hi] at e1; cases e1
    rw [List.getElem?_set_self hiσ] at e2
    cases e2
    exact ⟨u,r,.inl ⟨hk,by simp⟩⟩
   ·rw [List.getElem?_set_ne (Ne.symm hj)] at e2
    obtain ⟨u',r',q⟩:=hl j y v' e1 e2 e3
    refine ⟨u',r',?_⟩
    rcases q with ⟨k,e⟩ | ⟨k,c,e,z⟩
    ·refine .inl ⟨k,?_⟩
     have:y≠x:=λe=>hj (Zd7 hN e1 (e ▸ hi))
     simp [this,e]
    ·exact .inr ⟨k,c,e,z.sameBut hs (cne y c e)⟩
  ·obtain ⟨w',z⟩:=I.cell y c e
   exact ⟨w',z.sameBut hs (cne y c e)⟩
  ·obtain ⟨e,n,ne,nf,d⟩:=I.pin p hp
   exact ⟨(hs.2 p.1 ne).trans e,n,ne,nf,d⟩
 ·have hfn:X.fn x=true:=by
   rcases hf with z | z
   ·exact z
   ·rw [z] at hk; cases hk
  obtain ⟨c,hc⟩:=I.ok.has x (.inl hk)
  obtain ⟨w',z⟩:=I.cell x c hc
  refine wpAny_storeName_cell I.ok.kind hk hc z (λh' hc' hs=>?_)
  obtain ⟨oc,hoc,hocd⟩:=id z
  refine h { s with heap:=h' } ⟨I.ok,I.os,I.bare,⟨λb o e n hb hx=>?_,λb o e n hb hx=>?_,I.base.free,λb o e hx=>?_,I.base.tups,I.base.frzs,I.base.tbls⟩,⟨m,hn.sameBut hs (Ne.symm (cne x c hc)),λj y v' e1 e2 e3=>?_⟩,λy c' e=>?_,I.free,I.freeC,λp hp=>?_,tracked ⟨oc,hoc,I.freeC x c hc⟩ hs,by simpa using I.len⟩ ⟨c,hs,.inr hc⟩
  ·exact (hs.2 b (As (Ag (Ao e) (I.ok.cab x c hfn hc)))).trans (I.base.keep b o e n hb hx)
  ·obtain ⟨sl,e1⟩:=I.base.slot b o e n hb hx
   exact ⟨sl,(hs.2 b (As (Ag (Ao e) (I.ok.cab x c hfn hc)))).trans e1⟩
  ·obtain ⟨o',e1⟩:=I.base.there b o e hx
   exact ⟨o',(hs.2 b (As (Ag (Ao e) (I.ok.cab x c hfn hc)))).trans e1⟩
  ·by_cases hj:j=i
   ·subst hj
    rw [hi] at e1; cases e1
    rw [List.getElem?_set_self hiσ] at e2
    cases e2
    exact ⟨u,r,.inr ⟨.inl hk,c,hc,hc'⟩⟩
   ·rw [List.getElem?_set_ne (Ne.symm hj)] at e2
    obtain ⟨u',r',q⟩:=hl j y v' e1 e2 e3
    refine ⟨u',r',?_⟩
    rcases q with q | ⟨k,c',e,z'⟩
    ·exact .inl q
    ·refine .inr ⟨k,c',e,z'.sameBut hs ?_⟩
     rintro rfl
     exact hj (Zd7 hN e1 (I.ok.inj _ _ _ e hc ▸ hi))
  ·by_cases hcc:c'=c
   ·subst hcc; exact ⟨_,hc'⟩
   ·obtain ⟨w2,z2⟩:=I.cell y c' e
    exact ⟨w2,z2.sameBut hs hcc⟩
  ·obtain ⟨e,n,ne,nf,d⟩:=I.pin p hp
   refine ⟨(hs.2 p.1 ?_).trans e,n,ne,nf,d⟩
   intro q
   rw [q,hoc] at e
   have q':oc=p.2:=Ax e
   exact d w' (by rw [<- q']; exact hocd)
theorem Qg {M:Model} {A:Around} {E:Value->Shared->Prop} {i:Nat} {x:Str} {v:V} {u:Value} {Q:Unit->Shared->Prop} (I:Inv X pins σ H s) (hN:X.N.Nodup) (hi:X.N[i]?=some x) (hx:Loc X.env.scope x) (r:RelV v u)
  (h:∀ s',Inv X pins (σ.set i (some v)) H s'->Q () s') (hf:X.fn x=true\/X.env.scope.names.lookup x=some .local:=by first | exact .inl rfl | exact .inr rfl | assumption):wpAny M A (storeName X.env x u) Q E s :=
 Oy I hN hi hx r (λs' I' _=>h s' I') hf
theorem Inv.call' {s':Shared} {ch:List Addr} (I:Inv X pins σ H s) (ho:s'.os=s.os) (u:Un (frs X.stack) ch H H' s.heap s'.heap) (hok:HOk X.prog X.w H' s'.heap) (hg:AllBare s'.gens)
  (hch:∀ b∈ch,(b∈X.ex\/X.s₀.heap.objs.size<=b)/\b≠X.env.locals/\(∀ x c,X.env.cells.lookup x=some c->c≠b)/\∀ p∈X.pn ++ pins,p.1≠b):Inv X pins σ H' s':=by
 obtain ⟨h',g',d',t',o'⟩:=s'
 have e:o'=s.os:=ho
 subst e
 exact I.call (g':=g') (t':=t') (d':=d') u hok hg hch
end
noncomputable abbrev XK:=Value->Option Addr->Hp->Prop
noncomputable abbrev St:=List (Option V)
noncomputable abbrev VK:=V->Hp->Prop
noncomputable abbrev TE:=St->Hp->VK->Prop
noncomputable abbrev TT:=St->Hp->(Bool->Hp->Prop)->Prop
noncomputable abbrev TA:=St->Hp->(List V->Hp->Prop)->Prop
structure Ends where
 nx:St->Hp->Prop
 rt:VK
 bk:St->Hp->Prop:=λ_ _=>False
 ct:St->Hp->Prop:=λ_ _=>False
noncomputable abbrev TS:=Ends->St->Hp->Prop
noncomputable def EP (X:Cx) (pins:List (Addr × Obj)) (σ:St) (Q:VK) (u:Value) (s':Shared):Prop:=∃ v H',Inv X pins σ H' s'/\RelV v u/\Q v H'
noncomputable def TP (X:Cx) (pins:List (Addr × Obj)) (σ:St) (Q:Bool->Hp->Prop) (b:Bool) (s':Shared):Prop:=∃ H',Inv X pins σ H' s'/\Q b H'
noncomputable def AP (X:Cx) (pins:List (Addr × Obj)) (σ:St) (Q:List V->Hp->Prop) (us:List Value) (s':Shared):Prop:=∃ vs H',Inv X pins σ H' s'/\Vals vs us/\Q vs H'
noncomputable def SP (X:Cx) (pins:List (Addr × Obj)) (D:Ends) (f:Flow) (s':Shared):Prop :=
 match f with
 | .next=>∃ σ' H',Inv X pins σ' H' s'/\D.nx σ' H'
 | .brk=>∃ σ' H',Inv X pins σ' H' s'/\D.bk σ' H'
 | .cont=>∃ σ' H',Inv X pins σ' H' s'/\D.ct σ' H'
 | .ret u=>∃ v σ' H',Inv X pins σ' H' s'/\RelV v u/\D.rt v H'
noncomputable def PE (X:Cx) (e:Expr) (t:TE):Prop :=
 ∀ (pins:List (Addr × Obj)) (s:Shared) (σ:St) (H:Hp) (Q:VK),Inv X pins σ H s->t σ H Q->wpAny (model X.prog X.w) X.A (eval e X.env) (EP X pins σ Q) X.xe s
noncomputable def PT (X:Cx) (e:Expr) (t:TT):Prop :=
 ∀ (pins:List (Addr × Obj)) (s:Shared) (σ:St) (H:Hp) (Q:Bool->Hp->Prop),Inv X pins σ H s->t σ H Q->wpAny (model X.prog X.w) X.A (isTrue e X.env (eval e X.env)) (TP X pins σ Q) X.xe s
noncomputable def PW (X:Cx) (e:Expr) (t:TT):Prop :=
 ∀ (whole:Sem Value) (pins:List (Addr × Obj)) (s:Shared) (σ:St) (H:Hp) (Q:Bool->Hp->Prop),Inv X pins σ H s->t σ H Q->wpAny (model X.prog X.w) X.A (isTrue e X.env whole) (TP X pins σ Q) X.xe s
theorem PW.pt {X:Cx} {e:Expr} {t:TT} (h:PW X e t):PT X e t:=h _
noncomputable def PA (X:Cx) (es:List Expr) (t:TA):Prop :=
 ∀ (pos:Pos) (pins:List (Addr × Obj)) (s:Shared) (σ:St) (H:Hp) (Q:List V->Hp->Prop),Inv X pins σ H s->t σ H Q->wpAny (model X.prog X.w) X.A (spliced (backTo pos (starEach es X.env))) (AP X pins σ Q) X.xe s
noncomputable def PS (X:Cx) (st:Stmt) (t:TS):Prop :=
 ∀ (pins:List (Addr × Obj)) (s:Shared) (σ:St) (H:Hp) (D:Ends),Inv X pins σ H s->t D σ H->wpAny (model X.prog X.w) X.A (exec st X.env) (SP X pins D) X.xe s
noncomputable def PSs (X:Cx) (st:List Stmt) (t:TS):Prop :=
 ∀ (pins:List (Addr × Obj)) (s:Shared) (σ:St) (H:Hp) (D:Ends),Inv X pins σ H s->t D σ H->wpAny (model X.prog X.w) X.A (execs st X.env) (SP X pins D) X.xe s
theorem thn {α:Type} {t:Sem α} {Q Q':α->Shared->Prop} {M:Model} {A:Around} {E:Value->Shared->Prop} {s:Shared} (h:wpAny M A t Q E s) (hQ:∀ a s,Q a s->Q' a s):wpAny M A t Q' E s:=wpAny_mono h hQ λ_ _ x=>x
section
variable {X:Cx}
noncomputable def tVar (i:Nat):TE:=λσ H Q=>∃ v,σ[i]?=some (some v)/\Q v H
noncomputable def tC (v:V):TE:=λ_ H Q=>Q v H
theorem Zod {i:Nat} {x:Str} {pos:Pos} (hN:X.N[i]?=some x) (hv:Vis X.env.scope x) (hd:(x == ("__debug__":Str))=false:=by decide) (hcd:(x == ("__classdict__":Str))=false:=by decide):PE X (.Name x pos) (tVar i):=by
 intro pins s σ H Q I h
 obtain ⟨v,e,h⟩:=h
 obtain ⟨m,hn,hl⟩:=I.loc
 obtain ⟨u,r,l⟩:=hl i x v hN e hv
 have fin:EP X pins σ Q u s:=⟨v,H,I,r,h⟩
 rcases l with ⟨hk,hm⟩ | ⟨hk,c,hc,hcell⟩
 ·exact wpAny_Name (wpAny_loadName_local I.ok.kind hk hn hm fin) hd
 ·rcases hk with hk | hk
  ·exact wpAny_Name (wpAny_loadName_cell I.ok.kind hk hc hcell fin) hd
  ·exact wpAny_Name (wpAny_loadName_free I.ok.kind hk hc hcell fin hcd) hd
theorem Ze {i j pos}:PE X (.Constant (.int i) j pos) (tC (.int i)):=λ_ _ _ H _ I h=>wpAny_Constant_int ⟨.int i,H,I.tok _,⟨_,rfl⟩,h⟩
theorem Wd {b j pos}:PE X (.Constant (.bool b) j pos) (tC (.bl b)):=λ_ _ _ H _ I h=>Constant_bool ⟨.bl b,H,I,rfl,h⟩
theorem Jm {j pos}:PE X (.Constant .none j pos) (tC .non):=λ_ _ _ H _ I h=>Constant_none ⟨.non,H,I,rfl,h⟩
theorem Z0 {x j pos}:PE X (.Constant (.str x) j pos) (tC (.str x)):=λ_ _ _ H _ I h=>Calls.Constant_str ⟨.str x,H,I.tok _,⟨_,rfl⟩,h⟩
noncomputable def Gl (X:Cx) (x:Str):Prop:=X.env.kindOf x=some .globalImplicit
theorem Vi {E:Value->Shared->Prop} {pins:List (Addr × Obj)} {s:Shared} {σ:St} {H:Hp} {x:Str} {u:Value} {pos:Pos} {Q:Value->Shared->Prop} (I:Inv X pins σ H s) (hg:Gl X x) (hm:X.mg x=some u) (h:Q u s)
  (hd:(x == ("__debug__":Str))=false:=by decide):wpAny (model X.prog X.w) X.A (eval (.Name x pos) X.env) Q E s :=
 Calls.Name_function_global I.ok.kind hg (Calls.loadGlobal_global (by rw [I.ok.glob]; exact I.mod.glob.keeps I.bk) hm h) hd
theorem Wf {E:Value->Shared->Prop} {pins:List (Addr × Obj)} {s:Shared} {σ:St} {H:Hp} {x:Str} {u:Value} {pos:Pos} {Q:Value->Shared->Prop} (I:Inv X pins σ H s) (hg:Gl X x) (hm:X.mg x=none) (hv:bootBuiltins x=some u) (h:Q u s)
  (hn:x≠"__name__":=by decide) (hd:(x == ("__debug__":Str))=false:=by decide):wpAny (model X.prog X.w) X.A (eval (.Name x pos) X.env) Q E s:=by
 obtain ⟨mb,h1,h2⟩:=I.mod.blt
 exact Calls.Name_function_global I.ok.kind hg (Calls.loadGlobal_builtin (by rw [I.ok.glob]; exact I.mod.glob.keeps I.bk) hm (by rw [I.ok.blt]; exact h1.keeps I.bk) ((h2 x hn).trans hv) h) hd
theorem Vf {x:Str} {v:V} {u:Value} {pos:Pos} (hg:Gl X x) (hm:X.mg x=some u) (r:RelV v u) (hd:(x == ("__debug__":Str))=false:=by decide):PE X (.Name x pos) (tC v) :=
 λ_ _ _ H _ I h=>Vi I hg hm ⟨v,H,I,r,h⟩ hd
theorem Vg {x:Str} {v:V} {u:Value} {pos:Pos} (hg:Gl X x) (hm:X.mg x=none) (hv:bootBuiltins x=some u) (r:RelV v u) (hn:x≠"__name__":=by decide) (hd:(x == ("__debug__":Str))=false:=by decide):PE X (.Name x pos) (tC v) :=
 λ_ _ _ H _ I h=>Wf I hg hm hv ⟨v,H,I,r,h⟩ hn hd
variable {a b:Expr} {ta tb:TE} {pos:Pos}
noncomputable def PC (X:Cx) (op:CmpOp) (a b:Expr) (t:TE):Prop :=
 ∀ (pins:List (Addr × Obj)) (s:Shared) (σ:St) (H:Hp) (Q:VK),Inv X pins σ H s->t σ H Q ->
  wpAny (model X.prog X.w) X.A (eval a X.env) (λv s₁=>wpAny (model X.prog X.w) X.A (eval b X.env) (λu s₂=>wpAny (model X.prog X.w) X.A (compareOp op v u) (EP X pins σ Q) X.xe s₂) X.xe s₁) X.xe s
noncomputable def tB (t:TE):TT:=λσ H Q=>t σ H λx H1=>∃ c,x=.bl c/\Q c H1
theorem Zdx {op:CmpOp} {t:TE} (h:PC X op a b t) (h1:behindInMarks op b=false:=by first | exact nobehind _ (by decide) (by decide) | rfl):PT X (.Compare a [op] [b] pos) (tB t):=by
 intro pins s σ H Q I hw
 refine wpAny_isTrue_Compare1 (thn (h pins s σ H _ I hw) λv s1 h1=>thn h1 λu s2 h2=>thn h2 λc s3 zz0=>?_) h1
 obtain ⟨x,H1,I1,r1,q1⟩:=zz0
 obtain ⟨d,rfl,q⟩:=q1
 cases r1
 exact wpAny_truthy_bool ⟨H1,I1,q⟩
theorem X9 {e:Expr} {t:TE} (h:PE X e t) (he:∀ whole,isTrue e X.env whole=(do let v <- whole; standAt e.pos; holding [v] (truthy v)):=by intro _; rfl):PT X e (tB t):=by
 intro pins s σ H Q I hw
 refine isTrue_plain (thn (h pins s σ H _ I hw) λv s1 zz1=>?_) (he _)
 obtain ⟨x,H1,I1,r1,q1⟩:=zz1
 obtain ⟨d,rfl,q⟩:=q1
 cases r1
 exact wpAny_truthy_bool ⟨H1,I1,q⟩
variable {tA tB':TT} {rest:List Expr}
noncomputable def tAnd (t u:TT):TT:=λσ H Q=>t σ H λc H1=>if c=true then u σ H1 Q else Q false H1
noncomputable def tOr (t u:TT):TT:=λσ H Q=>t σ H λc H1=>if c=true then Q true H1 else u σ H1 Q
noncomputable def tNot (t:TT):TT:=λσ H Q=>t σ H λc H1=>Q (!c) H1
theorem Je (ha:PT X a tA):PW X (.BoolOp .And [a] pos) tA:=by
 intro wh pins s σ H Q I h
 refine isTrue_and (thn (ha pins s σ H Q I h) λc s1 e=>?_)
 cases c with
 | true=>exact isTrue_and_nil e
 | false=>exact e
theorem Vn (ha:PT X a tA):PW X (.BoolOp .Or [a] pos) tA:=by
 intro wh pins s σ H Q I h
 refine isTrue_or (thn (ha pins s σ H Q I h) λc s1 e=>?_)
 cases c with
 | false=>exact isTrue_or_nil e
 | true=>exact e
theorem J1 (ha:PT X a tA) (hb:PW X (.BoolOp .And (b :: rest) pos) tB'):PW X (.BoolOp .And (a :: b :: rest) pos) (tAnd tA tB'):=by
 intro wh pins s σ H Q I h
 refine isTrue_and (thn (ha pins s σ H _ I h) λc s1 zz9=>?_)
 obtain ⟨H1,I1,q1⟩:=zz9
 cases c with
 | true=>exact hb wh pins s1 σ H1 Q I1 q1
 | false=>exact ⟨H1,I1,q1⟩
theorem U7 (ha:PT X a tA) (hb:PW X (.BoolOp .Or (b :: rest) pos) tB'):PW X (.BoolOp .Or (a :: b :: rest) pos) (tOr tA tB'):=by
 intro wh pins s σ H Q I h
 refine isTrue_or (thn (ha pins s σ H _ I h) λc s1 zz9=>?_)
 obtain ⟨H1,I1,q1⟩:=zz9
 cases c with
 | true=>exact ⟨H1,I1,q1⟩
 | false=>exact hb wh pins s1 σ H1 Q I1 q1
theorem Wu (ha:PT X a tA):PT X (.UnaryOp .Not a pos) (tNot tA):=by
 intro pins s σ H Q I h
 exact isTrue_not (ha pins s σ H (λc H1=>Q (!c) H1) I h)
noncomputable def Zpe (ta tb:TE):TE:=λσ H Q=>ta σ H λx H1=>∃ c,x=.bl c/\if c=true then tb σ H1 Q else Q (.bl false) H1
noncomputable def Zo6 (ta:TE):TE:=λσ H Q=>ta σ H λx H1=>∃ c,x=.bl c/\Q (.bl (!c)) H1
theorem Zdz {op} {t:TE} (h:PE X a t):PE X (.BoolOp op [a] pos) t:=λpins s σ H Q I hw=>BoolOp_one (h pins s σ H Q I hw)
theorem Zd0 (ha:PE X a ta) (hb:PE X (.BoolOp .And (b :: rest) pos) tb):PE X (.BoolOp .And (a :: b :: rest) pos) (Zpe ta tb):=by
 intro pins s σ H Q I h
 refine BoolOp_and (thn (ha pins s σ H _ I h) λv s1 zz9=>?_)
 obtain ⟨x,H1,I1,r1,q1⟩:=zz9
 obtain ⟨c,rfl,q1⟩:=q1
 cases r1
 refine wpAny_truthy_bool ?_
 cases c with
 | true=>exact hb pins s1 σ H1 Q I1 q1
 | false=>exact ⟨.bl false,H1,I1,rfl,q1⟩
theorem Zoe (ha:PE X a ta):PE X (.UnaryOp .Not a pos) (Zo6 ta):=by
 intro pins s σ H Q I h
 refine UnaryOp_ (thn (ha pins s σ H _ I h) λv s1 zz9=>?_)
 obtain ⟨x,H1,I1,r1,q1⟩:=zz9
 obtain ⟨c,rfl,q1⟩:=q1
 cases r1
 exact not_of (wpAny_truthy_bool ⟨.bl (!c),H1,I1,rfl,q1⟩)
noncomputable def tIf (t:TT) (ta tb:TE):TE:=λσ H Q=>t σ H λc H1=>if c=true then ta σ H1 Q else tb σ H1 Q
theorem Gs {c:Expr} (hc:PT X c tA) (ha:PE X a ta) (hb:PE X b tb):PE X (.IfExp c a b pos) (tIf tA ta tb):=by
 intro pins s σ H Q I h
 refine wpAny_IfExp (thn (hc pins s σ H _ I h) λd s1 zz9=>?_)
 obtain ⟨H1,I1,q1⟩:=zz9
 cases d with
 | true=>exact ha pins s1 σ H1 Q I1 q1
 | false=>exact hb pins s1 σ H1 Q I1 q1
end
noncomputable def SqL (K:W.Frag) (H:Hp) (a:Addr) (xs:List V):Prop :=
 Rd H a (.lst xs) \/
  ∃ (o:Obj) (its:Array Value) (n:Nat),K.lookup a=some o/\o.cls=.type "list"/\o.dict=none/\o.data=.seq its n/\its.size<=sizeLine/\Vals xs its.toList
noncomputable def SqT (K:W.Frag) (H:Hp) (a:Addr) (xs:List V):Prop :=
 Rd H a (.tup xs) \/
  ∃ (o:Obj) (its:Array Value) (n:Nat),K.lookup a=some o/\o.cls=.type "tuple"/\o.data=.seq its n/\its.size<=sizeLine/\Vals xs its.toList
noncomputable def absV:Value->Option V
 | .none=>some .non
 | .bool b=>some (.bl b)
 | .int i _=>some (.int i)
 | .str x _=>some (.str x)
 | .bytes b _=>some (.byt b)
 | .float b _=>some (.flt b)
 | .ref a=>some (.ref a)
 | .type n=>some (.ty n)
 | _=>none
theorem RelV.abs {x:V} {u:Value} (r:RelV x u):absV u=some x:=by
 cases x with
 | non=>cases r; rfl
 | bl _=>cases r; rfl
 | int _=>obtain ⟨t,rfl⟩:=r; rfl
 | str _=>obtain ⟨t,rfl⟩:=r; rfl
 | byt _=>obtain ⟨t,rfl⟩:=r; rfl
 | flt _=>obtain ⟨t,rfl⟩:=r; rfl
 | ref _=>cases r; rfl
 | ty _=>cases r; rfl
theorem RelV.inj {x y:V} {u:Value} (r:RelV x u) (q:RelV y u):x=y:=Ax (r.abs.symm.trans q.abs)
theorem Vals.inj:∀ {xs ys:List V} {us:List Value},Vals xs us->Vals ys us->xs=ys
 | _,_,_,.nil,.nil=>rfl
 | _,_,_,.cons r t,.cons r' t'=>by rw [r.inj r',Vals.inj t t']
section
variable {X:Cx} {pins:List (Addr × Obj)} {σ:St} {H:Hp} {s:Shared} {a:Addr} {xs ys:List V}
theorem SqL.of {K:W.Frag} (h:H a=some (.lst xs)):SqL K H a xs:=.inl (.inl h)
theorem SqT.of {K:W.Frag} (h:H a=some (.tup xs)):SqT K H a xs:=.inl (.inl h)
theorem Inv.list (I:Inv X pins σ H s) (h:SqL X.K H a xs):∃ its:List Value,Vals xs its/\PlainL s.heap a its.toArray/\xs.length<=sizeLine:=by
 rcases h with h | ⟨o,its,n,hk,hc,hd,hs,hz,r⟩
 ·obtain ⟨z,its,n,r,e⟩:=h.ok I.hok
  exact ⟨its,r,⟨_,n,e,rfl,rfl,rfl⟩,z⟩
 ·refine ⟨its.toList,r,⟨o,n,I.kIn a o hk,hc,hd,by simpa using hs⟩,?_⟩
  have e:=r.length
  simp only [Array.length_toList] at e
  omega
theorem Inv.tuple (I:Inv X pins σ H s) (h:SqT X.K H a xs):∃ its:List Value,Vals xs its/\IsTup s.heap a its.toArray/\xs.length<=sizeLine:=by
 rcases h with h | ⟨o,its,n,hk,hc,hs,hz,r⟩
 ·obtain ⟨z,its,r,p⟩:=h.ok I.hok
  exact ⟨its,r,p,z⟩
 ·refine ⟨its.toList,r,⟨o,I.kIn a o hk,hc,n,by simpa using hs⟩,?_⟩
  have e:=r.length
  simp only [Array.length_toList] at e
  omega
theorem Inv.list_inj (I:Inv X pins σ H s) (h:SqL X.K H a xs) (h':SqL X.K H a ys):xs=ys:=by
 obtain ⟨its,r,⟨o,n,e,_,_,d⟩,_⟩:=I.list h
 obtain ⟨its',r',⟨o',n',e',_,_,d'⟩,_⟩:=I.list h'
 rw [e] at e'; cases e'
 rw [d] at d'
 injection d' with d1 _
 have:its=its':=by simpa using congrArg Array.toList d1
 subst this
 exact r.inj r'
theorem Inv.tuple_inj (I:Inv X pins σ H s) (h:SqT X.K H a xs) (h':SqT X.K H a ys):xs=ys:=by
 obtain ⟨its,r,⟨o,e,_,n,d⟩,_⟩:=I.tuple h
 obtain ⟨its',r',⟨o',e',_,n',d'⟩,_⟩:=I.tuple h'
 rw [e] at e'; cases e'
 rw [d] at d'
 injection d' with d1 _
 have:its=its':=by simpa using congrArg Array.toList d1
 subst this
 exact r.inj r'
end
noncomputable abbrev Cx.wish (X:Cx) (E:Value->Shared->Prop):Cx:={ X with xe:=E }
noncomputable abbrev Cx.nox (X:Cx):Cx:=X.wish λ_ _=>False
theorem Cx.Ok.wish {X:Cx} (ok:X.Ok) (E:Value->Shared->Prop):(X.wish E).Ok :=
 ⟨ok.mod,ok.kind,ok.glob,ok.blt,ok.above,ok.inj,ok.has,ok.cab,ok.hd,ok.frames,ok.stk,ok.exf,ok.bs,ok.bsz,ok.noex,ok.exfs,ok.funs,ok.frf⟩
theorem Cx.Ok.unwish {X:Cx} {E:Value->Shared->Prop} (ok:(X.wish E).Ok):X.Ok :=
 ⟨ok.mod,ok.kind,ok.glob,ok.blt,ok.above,ok.inj,ok.has,ok.cab,ok.hd,ok.frames,ok.stk,ok.exf,ok.bs,ok.bsz,ok.noex,ok.exfs,ok.funs,ok.frf⟩
section
variable {X:Cx} {pins:List (Addr × Obj)} {σ:St} {H:Hp} {s:Shared} {E:Value->Shared->Prop}
theorem Inv.wish (I:Inv X pins σ H s) (E:Value->Shared->Prop):Inv (X.wish E) pins σ H s:=⟨I.ok.wish E,I.os,I.bare,I.base,I.loc,I.cell,I.free,I.freeC,I.pin,I.hok,I.len⟩
theorem Inv.unwish (I:Inv (X.wish E) pins σ H s):Inv X pins σ H s:=⟨I.ok.unwish,I.os,I.bare,I.base,I.loc,I.cell,I.free,I.freeC,I.pin,I.hok,I.len⟩
theorem SP.unwish {D:Ends} {f:Flow} {s':Shared} (h:SP (X.wish E) pins D f s'):SP X pins D f s':=by
 cases f with
 | next=>obtain ⟨σ',H',I,q⟩:=h; exact ⟨σ',H',I.unwish,q⟩
 | brk=>obtain ⟨σ',H',I,q⟩:=h; exact ⟨σ',H',I.unwish,q⟩
 | cont=>obtain ⟨σ',H',I,q⟩:=h; exact ⟨σ',H',I.unwish,q⟩
 | ret u=>obtain ⟨v,σ',H',I,r,q⟩:=h; exact ⟨v,σ',H',I.unwish,r,q⟩
theorem PSs.nox {st:List Stmt} {t:TS} (h:PSs X.nox st t):PSs X st t:=λpins s σ H D I hw =>
 wpAny_mono (h pins s σ H D (I.wish _) hw) (λ_ _ q=>q.unwish) λ_ _ z=>False.elim z
end
section
variable {X:Cx} {st:Stmt} {rest:List Stmt} {t u:TS} {e:Expr} {te:TE} {pos:Pos}
noncomputable def Wp:TS:=λD σ H=>D.nx σ H
noncomputable def tSeq (t u:TS):TS:=λD σ H=>t { D with nx:=u D } σ H
theorem Z3:PSs X [] Wp:=λ_ _ σ H _ I h=>wpAny_execs_nil ⟨σ,H,I,h⟩
theorem Zf (h1:PS X st t) (h2:PSs X rest u):PSs X (st :: rest) (tSeq t u):=by
 intro pins s σ H D I h
 refine wpAny_execs_cons (thn (h1 pins s σ H { D with nx:=u D } I h) λf s1 q=>?_)
 cases f with
 | next =>
  obtain ⟨σ',H',I',q⟩:=q
  exact h2 pins s1 σ' H' D I' q
 | ret v=>exact q
 | brk=>exact q
 | cont=>exact q
theorem Zh (h1:PS X st t):PSs X [st] t:=by
 intro pins s σ H D I h
 refine wpAny_execs_cons (thn (h1 pins s σ H D I h) λf s1 q=>?_)
 cases f with
 | next=>exact wpAny_execs_nil q
 | ret v=>exact q
 | brk=>exact q
 | cont=>exact q
noncomputable def Zn4:TS:=λD σ H=>D.bk σ H
theorem Zks:PS X (.Break pos) Zn4:=λ_ _ σ H _ I h=>wpAny_Break ⟨σ,H,I,h⟩
theorem Inv.quiet {pins:List (Addr × Obj)} {σ:St} {H:Hp} {s:Shared} (I:Inv X pins σ H s):interactive X.env=false:=by simp [interactive,I.ok.kind]
noncomputable def Zls (te:TE):TS:=λD σ H=>te σ H λ_ H1=>D.nx σ H1
theorem Ys (he:PE X e te) (hs:swapsWith e none pos.line X.env=pure false:=by rfl):PS X (.Expr e pos) (Zls te):=by
 intro pins s σ H D I h
 refine wpAny_Expr_any (thn (he pins s σ H _ I h) λv s1 zz2=>?_) I.quiet hs
 obtain ⟨x,H1,I1,r1,q1⟩:=zz2
 exact ⟨σ,H1,I1,q1⟩
noncomputable def tRet (te:TE):TS:=λD σ H=>te σ H D.rt
theorem Zn (he:PE X e te):PS X (.Return (some e) pos) (tRet te):=by
 intro pins s σ H D I h
 refine wpAny_Return_some (thn (he pins s σ H _ I h) λv s1 zz3=>?_)
 obtain ⟨x,H1,I1,r1,q1⟩:=zz3
 exact ⟨x,σ,H1,I1,r1,q1⟩
noncomputable def tIfS (c:TT) (t u:TS):TS:=λD σ H=>c σ H λb H1=>if b=true then t D σ H1 else u D σ H1
theorem Z8 {c:Expr} {a b:List Stmt} {tc:TT} (hc:PT X c tc) (ha:PSs X a t) (hb:PSs X b u):PS X (.If c a b pos) (tIfS tc t u):=by
 intro pins s σ H D I h
 refine wpAny_If (thn (hc pins s σ H _ I h) λd s1 zz9=>?_)
 obtain ⟨H1,I1,q1⟩:=zz9
 cases d with
 | true=>exact ha pins s1 σ H1 D I1 q1
 | false=>exact hb pins s1 σ H1 D I1 q1
noncomputable def Zhs:TS:=λ_ _ _=>False
theorem Zkr:PS X st Zhs:=λ_ _ _ _ _ _ h=>h.elim
theorem Xh {sts:List Stmt}:PSs X sts Zhs:=λ_ _ _ _ _ _ h=>h.elim
end
noncomputable abbrev TG:=V->St->Hp->(St->Hp->Prop)->Prop
noncomputable abbrev TGs:=List V->St->Hp->(St->Hp->Prop)->Prop
noncomputable def PG (X:Cx) (target:Expr) (t:TG):Prop :=
 ∀ (pins:List (Addr × Obj)) (s:Shared) (σ:St) (H:Hp) (v:V) (u:Value) (Q:St->Hp->Prop),Inv X pins σ H s->RelV v u->t v σ H Q ->
  wpAny (model X.prog X.w) X.A (assign target X.env u) (λ_ s'=>∃ σ' H',Inv X pins σ' H' s'/\Q σ' H') X.xe s
noncomputable def PGs (X:Cx) (ts:List Expr) (t:TGs):Prop :=
 ∀ (pins:List (Addr × Obj)) (s:Shared) (σ:St) (H:Hp) (vs:List V) (us:List Value) (Q:St->Hp->Prop),Inv X pins σ H s->Vals vs us->t vs σ H Q ->
  wpAny (model X.prog X.w) X.A (assignInOrder ((assignEach ts X.env).map (·.2)) us) (λ_ s'=>∃ σ' H',Inv X pins σ' H' s'/\Q σ' H') X.xe s
noncomputable abbrev TSet:=V->V->V->Hp->(Hp->Prop)->Prop
noncomputable def PSet (X:Cx) (t:TSet):Prop :=
 ∀ (pins:List (Addr × Obj)) (s:Shared) (σ:St) (H:Hp) (o i v:V) (ov iv u:Value) (Q:Hp->Prop),Inv X pins σ H s->RelV o ov->RelV i iv->RelV v u->t o i v H Q ->
  wpAny (model X.prog X.w) X.A (setItem ov iv u) (λ_ s'=>∃ H',Inv X pins σ H' s'/\Q H') X.xe s
noncomputable abbrev TIp:=V->V->Hp->VK->Prop
noncomputable def PIp (X:Cx) (op:Operator) (t:TIp):Prop :=
 ∀ (pins:List (Addr × Obj)) (s:Shared) (σ:St) (H:Hp) (x y:V) (v u:Value) (Q:VK),Inv X pins σ H s->RelV x v->RelV y u->t x y H Q ->
  wpAny (model X.prog X.w) X.A (inplaceOp op v u) (EP X pins σ Q) X.xe s
section
variable {X:Cx} {pos:Pos}
noncomputable def Zs (i:Nat):TG:=λv σ H Q=>Q (σ.set i (some v)) H
theorem Zk {i:Nat} {x:Str} (hN:X.N.Nodup) (hi:X.N[i]?=some x) (hx:Loc X.env.scope x) (hf:X.fn x=true\/X.env.scope.names.lookup x=some .local:=by first | exact .inl rfl | exact .inr rfl | assumption):PG X (.Name x pos) (Zs i):=by
 intro pins s σ H v u Q I r h
 exact wpAny_assign_Name (Qg I hN hi hx r (λs' I'=>⟨_,H,I',h⟩) hf)
noncomputable def gNil:TGs:=λvs σ H Q=>vs=[]/\Q σ H
noncomputable def Zpy (t:TG) (u:TGs):TGs:=λvs σ H Q=>∃ v r,vs=v :: r/\t v σ H λσ' H'=>u r σ' H' Q
theorem Yy:PGs X [] gNil:=by
 intro pins s σ H vs us Q I r h
 obtain ⟨e,h⟩:=h
 subst e
 cases r
 exact assignInOrder_nil ⟨σ,H,I,h⟩
theorem Zx {e:Expr} {es:List Expr} {t:TG} {u:TGs} (h1:PG X e t) (h2:PGs X es u)
  (hs:(assignEach (e :: es) X.env).map (·.2)=assign e X.env :: (assignEach es X.env).map (·.2):=by rfl):PGs X (e :: es) (Zpy t u):=by
 intro pins s σ H vs us Q I r h
 obtain ⟨v,vr,e1,h⟩:=h
 subst e1
 cases r with
 | cons r rr =>
  rw [hs]
  refine assignInOrder_cons (thn (h1 pins s σ H _ _ _ I r h) λ_ s1 zz9=>?_)
  obtain ⟨σ1,H1,I1,q1⟩:=zz9
  exact h2 pins s1 σ1 H1 _ _ Q I1 rr q1
noncomputable def gTup (K:W.Frag) (n:Nat) (t:TGs):TG:=λv σ H Q=>∃ a xs,v=.ref a/\SqT K H a xs/\xs.length=n/\t xs σ H Q
theorem Wk {es:List Expr} {k:Nat} {t:TGs} {n:Nat} (hc:X.calm=true) (h:PGs X es t)
  (hn:(assignEach es X.env).length=n:=by rfl) (hst:(assignEach es X.env).findIdx? (·.1)=none:=by rfl):PG X (.Tuple es k pos) (gTup X.K n t):=by
 intro pins s σ H v u Q I r hw
 obtain ⟨a,xs,e1,hq,hl,hw⟩:=hw
 subst e1
 cases r
 obtain ⟨its,rv,ht,hz⟩:=I.tuple hq
 refine assign_Tuple_tuple (I.ok.hd hc) ht (by simp [hn,<- hl,rv.length]) hst λh' hx=>?_
 have I1:Inv X pins σ H { s with heap:=h' }:=I.kept (t':=s.toks) λb o e=>hx b o (As (Ao e)) e
 exact h pins _ σ H xs _ Q I1 (by simpa using rv) hw
noncomputable def gSub (to ti:TE) (t:TSet):TG:=λv σ H Q=>to σ H λo H1=>ti σ H1 λi H2=>t o i v H2 λH3=>Q σ H3
theorem J2 {o i:Expr} {to ti:TE} {t:TSet} (ho:PE X o to) (hi:PE X i ti) (hs:PSet X t)
  (ha:∀ v,assign (.Subscript o i pos) X.env v=(do
   let ov <- holding [v] (eval o X.env)
   let iv <- holding [v,ov] (eval i X.env)
   standAt pos
   holding [v,ov,iv] (setItem ov iv v)
   release [v,ov,iv] []):=by intro _; rfl):PG X (.Subscript o i pos) (gSub to ti t):=by
 intro pins s σ H v u Q I r h
 rw [ha]
 refine Al (wpAny_holding (thn (ho pins s σ H _ I h) λov s1 zz9=>?_))
 obtain ⟨x,H1,I1,r1,q1⟩:=zz9
 refine Al (wpAny_holding (thn (hi pins s1 σ H1 _ I1 q1) λiv s2 zz9=>?_))
 obtain ⟨y,H2,I2,r2,q2⟩:=zz9
 refine Al (wpAny_standAt (Al (wpAny_holding (thn (hs pins s2 σ H2 x y v ov iv u _ I2 r1 r2 r q2) λ_ s3 zz9=>?_))))
 obtain ⟨H3,I3,q3⟩:=zz9
 exact wpAny_release ⟨σ,H3,I3,q3⟩
noncomputable def tAsg (te:TE) (g:TG):TS:=λD σ H=>te σ H λx H1=>g x σ H1 D.nx
theorem Wc {tg e:Expr} {te:TE} {g:TG} (he:PE X e te) (hg:PG X tg g) (hs:swapsWithSole [tg] e pos.line X.env=pure false:=by rfl) (hw:swappedStores [tg] e X.env=pure none:=by rfl)
  (h1:(assignEach [tg] X.env).map (·.2)=[assign tg X.env]:=by rfl):PS X (.Assign [tg] e pos) (tAsg te g):=by
 intro pins s σ H D I h
 refine wpAny_Assign_stores (thn (he pins s σ H _ I h) λv s1 zz4=>?_) hs hw
 obtain ⟨x,H1,I1,r1,q1⟩:=zz4
 rw [h1]
 exact thn (hg pins s1 σ H1 x v _ I1 r1 q1) λ_ s2 q=>q
theorem Zr {i:Nat} {x:Str} {e:Expr} {te:TE} {pos':Pos} (hN:X.N.Nodup) (hi:X.N[i]?=some x) (hx:Loc X.env.scope x) (he:PE X e te) (hs:swapsWith e (some (.Name x pos')) pos.line X.env=pure false:=by rfl) (hf:X.fn x=true\/X.env.scope.names.lookup x=some .local:=by first | exact .inl rfl | exact .inr rfl | assumption) :
  PS X (.Assign [.Name x pos'] e pos) (tAsg te (Zs i)):=by
 intro pins s σ H D I h
 refine wpAny_Assign_Name (thn (he pins s σ H _ I h) λv s1 zz5=>?_) hs
 obtain ⟨y,H1,I1,r1,q1⟩:=zz5
 exact Qg I1 hN hi hx r1 (λs2 I2=>⟨_,H1,I2,q1⟩) hf
noncomputable def tPar (i j:Nat) (ta:TA):TS:=λD σ H=>ta σ H λvs H1=>∃ v w,vs=[v,w]/\D.nx ((σ.set i (some v)).set j (some w)) H1
theorem Zob {i j:Nat} {x y:Str} {a b:Expr} {ta:TA} {px py pt:Pos} {kt k2 pt2} (hc:X.calm=true) (hN:X.N.Nodup) (hi:X.N[i]?=some x) (hj:X.N[j]?=some y) (hij:i≠j)
  (hx:X.env.scope.names.lookup x=some .local) (hy:X.env.scope.names.lookup y=some .local) (ha:PA X [a,b] ta)
  (hw:swappedStores [.Tuple [.Name x px,.Name y py] kt pt] (.Tuple [a,b] k2 pt2) X.env=pure (some [x,y]))
  (hs:swapsWithSole [.Tuple [.Name x px,.Name y py] kt pt] (.Tuple [a,b] k2 pt2) pos.line X.env=pure false:=by rfl) :
  PS X (.Assign [.Tuple [.Name x px,.Name y py] kt pt] (.Tuple [a,b] k2 pt2) pos) (tPar i j ta):=by
 intro pins s σ H D I h
 rw [exec_Assign_arm]
 refine Al (wpAny_standAt ?_)
 rw [hs]
 refine Al (wpAny_pure ?_)
 rw [if_neg (by decide)]
 refine Al (Tuple_ (thn (ha _ pins s σ H _ I h) λus s1 zz9=>?_))
 obtain ⟨vs,H1,I1,r1,q1⟩:=zz9
 obtain ⟨v,w,e1,q1⟩:=q1
 subst e1
 obtain ⟨u1,u2,rfl,rv,rw'⟩:∃ u1 u2,us=[u1,u2]/\RelV v u1/\RelV w u2:=by
  cases r1 with
  | cons p q =>
   cases q with
   | cons p' q' =>
    cases q'
    exact ⟨_,_,rfl,p,p'⟩
 refine wpAny_newObj_type ?_ (by show 2<=sizeLine; decide)
 have I2:Inv X pins σ H1 { s1 with heap:=s1.heap.push { cls:=.type "tuple",data:=.seq [u1,u2].toArray } }:=I1.kept (t':=s1.toks) λb o e=>Ak _ e
 rw [hw]
 refine Al (wpAny_pure ?_)
 show wpAny (model X.prog X.w) X.A (do rule "assign.swapped-stores"; let items <- unpackItems (.ref s1.heap.objs.size) 2 none; assignInOrder [λv=>bindName X.env y v,λv=>bindName X.env x v] items.reverse; pure Flow.next) _ _ _
 refine Al (wpAny_rule (Al (unpackItems_tuple (items:=#[u1,u2]) (I.ok.hd hc) (IsTup.new s1.heap _) λh' hx'=>?_)))
 have I3:=I2.kept (h':=h') (t':=s1.toks) λb o e=>hx' b o (As (Ao e)) e
 show wpAny _ _ (assignInOrder [λv=>bindName X.env y v,λv=>bindName X.env x v] [u2,u1] >>= λ_=>pure Flow.next) _ _ _
 refine Al (assignInOrder_cons (wpAny_bindName (Qg I3 hN hj (.inl hy) rw' (λs2 I4=>?_) (.inr hy))))
 refine assignInOrder_cons (wpAny_bindName (Qg I4 hN hi (.inl hx) rv (λs3 I5=>assignInOrder_nil (wpAny_pure ?_)) (.inr hx)))
 rw [List.set_comm _ _ (Ne.symm hij)] at I5
 exact ⟨_,H1,I5,q1⟩
noncomputable def tAug (i:Nat) (te:TE) (ti:TIp):TS:=λD σ H=>∃ x,σ[i]?=some (some x)/\te σ H λy H1=>ti x y H1 λz H2=>D.nx (σ.set i (some z)) H2
theorem Zoc {i:Nat} {x:Str} {e:Expr} {te:TE} {op:Operator} {ti:TIp} {pos':Pos} (hN:X.N.Nodup) (hi:X.N[i]?=some x) (hx:Loc X.env.scope x) (he:PE X e te) (ho:PIp X op ti) (hf:X.fn x=true\/X.env.scope.names.lookup x=some .local:=by first | exact .inl rfl | exact .inr rfl | assumption) :
  PS X (.AugAssign (.Name x pos') op e pos) (tAug i te ti):=by
 intro pins s σ H D I h
 obtain ⟨v,e1,h⟩:=h
 obtain ⟨m,hn,hl⟩:=I.loc
 have vis:Vis X.env.scope x:=by rcases hx with k | k; exact .inl k; exact .inr (.inl k)
 obtain ⟨u,r,l⟩:=hl i x v hi e1 vis
 refine wpAny_AugAssign_Name ?_
 have go:wpAny (model X.prog X.w) X.A (eval e X.env) (λw s₂=>wpAny (model X.prog X.w) X.A (inplaceOp op u w) (λr s₃=>wpAny (model X.prog X.w) X.A (storeName X.env x r) (λ_=>SP X pins D .next) X.xe s₃) X.xe s₂) X.xe s:=by
  refine thn (he pins s σ H _ I h) λw s1 zz9=>?_
  obtain ⟨y,H1,I1,r1,q1⟩:=zz9
  refine thn (ho pins s1 σ H1 v y u w _ I1 r r1 q1) λz s2 zz9=>?_
  obtain ⟨zv,H2,I2,r2,q2⟩:=zz9
  exact Qg I2 hN hi hx r2 (λs3 I3=>⟨_,H2,I3,q2⟩) hf
 rcases l with ⟨hk,hm⟩ | ⟨hk,c,hc,hcell⟩
 ·exact wpAny_loadName_local I.ok.kind hk hn hm go
 ·rcases hk with hk | hk
  ·exact wpAny_loadName_cell I.ok.kind hk hc hcell go
  ·rcases hx with k | k
   ·have:X.env.scope.names.lookup x=some .free:=hk
    rw [k] at this; cases this
   ·have:X.env.scope.names.lookup x=some .free:=hk
    rw [k] at this; cases this
end
section
variable {X:Cx} {pos:Pos}
noncomputable def G8 (c:TT) (tb:TS):TS:=λD σ H=>∃ W:Nat->St->Hp->Prop,(∃ m,W m σ H)/\∀ m σ H,W m σ H ->
 c σ H λb H1=>if b=true then ∃ N:St->Hp->Prop,(∀ σ' H',N σ' H'->∃ m',m' < m/\W m' σ' H')/\tb { D with nx:=N,ct:=N,bk:=D.nx } σ H1 else D.nx σ H1
theorem Vo {c:Expr} {body:List Stmt} {tc:TT} {tb:TS} (hp:PassesOwn (model X.prog X.w) X.A X.env X.xe) (hc:PT X c tc) (hb:PSs X body tb):PS X (.While c body [] pos) (G8 tc tb):=by
 intro pins s σ H D I h
 obtain ⟨W,⟨m0,w0⟩,turn⟩:=h
 refine wpAny_While (codeAny_whileLoop (λn s'=>∃ σ' H',Inv X pins σ' H' s'/\W n σ' H') ?_ m0 ⟨σ,H,I,w0⟩)
 rintro n s1 ⟨σ1,H1,I1,w1⟩
 refine wpAny_passesOwn hp (thn (hc pins s1 σ1 H1 _ I1 (turn n σ1 H1 w1)) λb s2 zz9=>?_)
 obtain ⟨H2,I2,q2⟩:=zz9
 cases b with
 | true =>
  obtain ⟨N,hN,q2⟩:=q2
  rw [if_pos rfl]
  refine wpAny_passesOwn hp (thn (hb pins s2 σ1 H2 _ I2 q2) λf s3 q3=>?_)
  cases f with
  | next =>
   obtain ⟨σ3,H3,I3,n3⟩:=q3
   obtain ⟨m',hm,w3⟩:=hN σ3 H3 n3
   exact ⟨m',hm,σ3,H3,I3,w3⟩
  | cont =>
   obtain ⟨σ3,H3,I3,n3⟩:=q3
   obtain ⟨m',hm,w3⟩:=hN σ3 H3 n3
   exact ⟨m',hm,σ3,H3,I3,w3⟩
  | brk=>exact q3
  | ret v=>exact q3
 | false =>
  rw [if_neg Bool.false_ne_true]
  exact wpAny_execs_nil ⟨σ1,H2,I2,q2⟩
end
structure It where
 go:Nat->Hp->Prop
 yld:Nat->Hp->V->Hp->Prop
 stop:Nat->Hp->Prop
noncomputable def FpOk (X:Cx) (pins:List (Addr × Obj)) (H:Hp) (b:Addr):Prop :=
 H b=none/\b≠X.env.locals/\b ∉ X.fs/\(b∈X.ex\/X.s₀.heap.objs.size<=b)/\(∀ x c,X.env.cells.lookup x=some c->c≠b)/\∀ p∈X.pn ++ pins,p.1≠b
theorem Inv.fpOk {X:Cx} {pins:List (Addr × Obj)} {σ:St} {H H':Hp} {s:Shared} {b:Addr} (I:Inv X pins σ H s) (hb:s.heap.objs.size<=b) (hn:H' b=none):FpOk X pins H' b:=by
 refine ⟨hn,Nat.ne_of_gt (Ag I.lt hb),I.nofs hb,.inr (Nat.le_trans I.sz hb),λx c e z=>?_,λp hp z=>?_⟩
 ·obtain ⟨v,q⟩:=I.cell x c e
  exact absurd (Ag q.lt (by rw [z]; exact hb)) (Nat.lt_irrefl _)
 ·exact absurd (Ag (Ao (I.pin p hp).1) (by rw [z]; exact hb)) (Nat.lt_irrefl _)
structure Turn (P:Program) (w:World) (K:W.Frag) (tg:Expr) (J:It) (fp:List Addr) (it:Addr) (tn:Nat->Heap->Prop):Prop where
 mem:it∈fp
 obj:∀ i h,tn i h->∀ b∈fp,∃ o,h.get? b=some o/\∀ v,o.data≠.cell v
 keep:∀ i h h',tn i h->(∀ b∈fp,∀ o,h.get? b=some o->h'.get? b=some o)->tn i h'
 item:∀ (X:Cx),X.prog=P->X.w=w->X.K=K->X.calm=true->∀ (i:Nat) (pins:List (Addr × Obj)) (s:Shared) (σ:St) (H:Hp) (E:Value->Shared->Prop),Inv X pins σ H s->(∀ b∈fp,FpOk X pins H b)->tn i s.heap->J.go i H ->
  wpAny (model P w) X.A (pyNext (.ref it)) (λr s1=>∃ u,r=some u /\
   wpAny (model P w) X.A (letOwnedTupleGo tg (.ref it) u) (λ_ s2=>∃ x H',Inv X pins σ H' s2/\RelV x u/\J.yld i H x H'/\tn (i + 1) s2.heap/\∀ b∈fp,H' b=none) E s1) E s
 done:∀ (X:Cx),X.prog=P->X.w=w->X.K=K->X.calm=true->∀ (i:Nat) (pins:List (Addr × Obj)) (s:Shared) (σ:St) (H:Hp) (E:Value->Shared->Prop),Inv X pins σ H s->(∀ b∈fp,FpOk X pins H b)->tn i s.heap->J.stop i H ->
  wpAny (model P w) X.A (pyNext (.ref it)) (λr s1=>r=none/\Inv X pins σ H s1) E s
 self:∀ (A:Around) (i:Nat) (s:Shared) (Q:Value->Shared->Prop) (E:Value->Shared->Prop),tn i s.heap->Q (.ref it) s->wpAny (model P w) A (pyIter (.ref it)) Q E s
noncomputable abbrev TI:=St->Hp->(It->Hp->Prop)->Prop
noncomputable def PIE (X:Cx) (pins:List (Addr × Obj)) (σ:St) (tg:Expr) (R:It->Hp->Prop) (itv:Value) (s2:Shared):Prop :=
 ∃ (it:Addr) (fp:List Addr) (tn:Nat->Heap->Prop) (J:It) (H':Hp),itv=.ref it/\Inv X pins σ H' s2/\Turn X.prog X.w X.K tg J fp it tn/\tn 0 s2.heap/\(∀ b∈fp,FpOk X pins H' b)/\R J H'
noncomputable def PI (X:Cx) (tg iter:Expr) (wi:TI):Prop :=
 ∀ (pins:List (Addr × Obj)) (s:Shared) (σ:St) (H:Hp) (R:It->Hp->Prop),Inv X pins σ H s->wi σ H R ->
  wpAny (model X.prog X.w) X.A (eval iter X.env) (λv s1=>wpAny (model X.prog X.w) X.A (pyIter v) (PIE X pins σ tg R) X.xe s1) X.xe s
theorem F4 {M:Model} {A:Around} {E:Value->Shared->Prop} {s:Shared} {tg:Expr} {it:Addr} {u:Value} {o:Obj} {n:String} {vs:Array Value} {Q:Unit->Shared->Prop} (ho:s.heap.get? it=some o) (hc:o.cls=.type n) (hd:o.data=.fields vs)
    (hn:["enumerate","zip","dict_itemiterator","dict_reverseitemiterator","odict_iterator","itertools.zip_longest","itertools.pairwise"].contains n=false) (hQ:Q () s):wpAny M A (letOwnedTupleGo tg (.ref it) u) Q E s:=by
  unfold letOwnedTupleGo
  cases tg <;> first
    | exact wpAny_pure hQ
    | (cases u <;> first
        | exact wpAny_pure hQ
        | (refine Al (wpAny_load ho ?_)
           rw [hc,hd]
           show wpAny M A (if (["enumerate","zip","dict_itemiterator","dict_reverseitemiterator","odict_iterator","itertools.zip_longest","itertools.pairwise"].contains n && vs[0]? == some (rawInt _))=true then _ else _) Q E s
           rw [if_neg (by intro h; rw [hn,Bool.false_and] at h; cases h)]
           exact wpAny_pure hQ))
noncomputable def Itl (K:W.Frag) (a:Addr):It :=
 ⟨λi H=>∃ xs x,SqL K H a xs/\xs[i]?=some x,λi H x H'=>H'=H/\∀ xs,SqL K H a xs->xs[i]?=some x,λi H=>∃ xs,SqL K H a xs/\xs.length<=i⟩
noncomputable def Itt (K:W.Frag) (a:Addr):It :=
 ⟨λi H=>∃ xs x,SqT K H a xs/\xs[i]?=some x,λi H x H'=>H'=H/\∀ xs,SqT K H a xs->xs[i]?=some x,λi H=>∃ xs,SqT K H a xs/\xs.length<=i⟩
noncomputable def Itr (lo:Int) (n:Nat):It:=⟨λi _=>i < n,λi H x H'=>H'=H/\x=.int (lo + i),λi _=>n<=i⟩
theorem Zhq {P:Program} {w:World} {K:W.Frag} {tg:Expr} (a it:Addr):Turn P w K tg (Itl K a) [it] it (λi h=>h.IsListIter it a i) where
 mem:=by simp
 obj:=λi h st b hb=>by
  have e:b=it:=by simpa using hb
  subst e
  obtain ⟨o,e,c,d⟩:=st
  exact ⟨o,e,λv z=>by rw [d] at z; cases z⟩
 keep:=λi h h' st k=>st.at λo e=>k it (by simp) o e
 item:=by
  intro X hP hw hK hc i pins s σ H E I hf st hg
  subst hP hw hK
  obtain ⟨xs,x,hq,hx⟩:=hg
  obtain ⟨its,rv,p,hz⟩:=I.list hq
  obtain ⟨u,hu,ru⟩:=rv.get hx
  obtain ⟨f0,f1,f2,f3,f4,f5⟩:=hf it (by simp)
  refine wpAny_pyNext_list_item st p.isList (x:=u) (by simpa using hu) λh' st' sb=>?_
  have I1:Inv X pins σ H { s with heap:=h' }:=I.turned (t':=s.toks) (λb o hb e=>(sb.2 b hb).trans e) f0 f1 f3 f4 f5
  obtain ⟨o,e,c,d⟩:=id st'
  exact ⟨u,rfl,F4 (s:={ s with heap:=h' }) e c d (by decide) ⟨x,H,I1,ru,⟨rfl,λys hy=>by rw [I.list_inj hy hq]; exact hx⟩,st',λb hb=>(hf b hb).1⟩⟩
 done:=by
  intro X hP hw hK hc i pins s σ H E I hf st hg
  subst hP hw hK
  obtain ⟨xs,hq,hx⟩:=hg
  obtain ⟨its,rv,p,hz⟩:=I.list hq
  obtain ⟨f0,f1,f2,f3,f4,f5⟩:=hf it (by simp)
  have hl:=rv.length
  exact wpAny_pyNext_list_end (I.ok.hd hc) st p.isList (by simp; omega) λh' eb=>⟨rfl,I.turned (t':=s.toks) (λb o hb e=>eb b o hb e) f0 f1 f3 f4 f5⟩
 self:=λ_ _ _ _ _ st h=>wpAny_pyIter_listiter st h
theorem Zgc {P:Program} {w:World} {K:W.Frag} {tg:Expr} (a it:Addr):Turn P w K tg (Itt K a) [it] it (λi h=>h.IsTupleIter it a i) where
 mem:=by simp
 obj:=λi h st b hb=>by
  have e:b=it:=by simpa using hb
  subst e
  obtain ⟨o,e,c,d⟩:=st
  exact ⟨o,e,λv z=>by rw [d] at z; cases z⟩
 keep:=λi h h' st k=>st.at λo e=>k it (by simp) o e
 item:=by
  intro X hP hw hK hc i pins s σ H E I hf st hg
  subst hP hw hK
  obtain ⟨xs,x,hq,hx⟩:=hg
  obtain ⟨its,rv,p,hz⟩:=I.tuple hq
  obtain ⟨u,hu,ru⟩:=rv.get hx
  obtain ⟨f0,f1,f2,f3,f4,f5⟩:=hf it (by simp)
  refine wpAny_pyNext_tuple_item st (show s.heap.IsTuple a its.toArray from p) (x:=u) (by simpa using hu) λh' st' sb=>?_
  have I1:Inv X pins σ H { s with heap:=h' }:=I.turned (t':=s.toks) (λb o hb e=>(sb.2 b hb).trans e) f0 f1 f3 f4 f5
  obtain ⟨o,e,c,d⟩:=id st'
  exact ⟨u,rfl,F4 (s:={ s with heap:=h' }) e c d (by decide) ⟨x,H,I1,ru,⟨rfl,λys hy=>by rw [I.tuple_inj hy hq]; exact hx⟩,st',λb hb=>(hf b hb).1⟩⟩
 done:=by
  intro X hP hw hK hc i pins s σ H E I hf st hg
  subst hP hw hK
  obtain ⟨xs,hq,hx⟩:=hg
  obtain ⟨its,rv,p,hz⟩:=I.tuple hq
  obtain ⟨f0,f1,f2,f3,f4,f5⟩:=hf it (by simp)
  have hl:=rv.length
  exact wpAny_pyNext_tuple_end (I.ok.hd hc) st (show s.heap.IsTuple a its.toArray from p) (by simp; omega) λh' eb=>⟨rfl,I.turned (t':=s.toks) (λb o hb e=>eb b o hb e) f0 f1 f3 f4 f5⟩
 self:=λ_ _ _ _ _ st h=>wpAny_pyIter_tupleiter st h
theorem Zgd {P:Program} {w:World} {K:W.Frag} {tg:Expr} (it:Addr) (lo:Int) (n:Nat):Turn P w K tg (Itr lo n) [it] it (λi h=>IsRangeIter h it (lo + (i:Nat) * 1) ((n:Int) - (i:Nat)) 1) where
 mem:=by simp
 obj:=λi h st b hb=>by
  have e:b=it:=by simpa using hb
  subst e
  exact ⟨_,st,λv z=>by
   have z':Data.fields _=Data.cell v:=z
   cases z'⟩
 keep:=λi h h' st k=>k it (by simp) _ st
 item:=by
  intro X hP hw hK hc i pins s σ H E I hf st hg
  subst hP hw hK
  obtain ⟨f0,f1,f2,f3,f4,f5⟩:=hf it (by simp)
  have W:=Walks.range (prog:=X.prog) (w:=X.w) (I.ok.hd hc) it lo 1 n
  refine W.item i s _ _ hg st λv h' tk hv st' kk=>?_
  obtain ⟨t,rfl⟩:=hv
  have I1:Inv X pins σ H { s with heap:=h',toks:=tk }:=I.turned (λb o hb e=>kk b o (by simpa using hb) e) f0 f1 f3 f4 f5
  refine ⟨_,rfl,F4 (s:={ s with heap:=h',toks:=tk }) (n:="range_iterator") st' rfl rfl (by decide) ⟨.int (lo + i),H,I1,⟨t,?_⟩,⟨rfl,rfl⟩,st',λb hb=>(hf b hb).1⟩⟩
  rw [Int.mul_one]
 done:=by
  intro X hP hw hK hc i pins s σ H E I hf st hg
  subst hP hw hK
  obtain ⟨f0,f1,f2,f3,f4,f5⟩:=hf it (by simp)
  exact wpAny_pyNext_range_end (I.ok.hd hc) st (by have:n<=i:=hg; omega) λh' eb=>⟨rfl,I.turned (t':=s.toks) (λb o hb e=>eb b o hb e) f0 f1 f3 f4 f5⟩
 self:=λ_ _ _ _ _ st h=>wpAny_pyIter_rangeiter st h
section
variable {X:Cx} {tg:Expr}
noncomputable def Zpu (K:W.Frag) (tl:TE):TI:=λσ H R=>tl σ H λx H1=>∃ a,x=.ref a/\(∃ xs,SqL K H1 a xs)/\R (Itl K a) H1
noncomputable def iTup (K:W.Frag) (tl:TE):TI:=λσ H R=>tl σ H λx H1=>∃ a,x=.ref a/\(∃ xs,SqT K H1 a xs)/\R (Itt K a) H1
theorem Yx {l:Expr} {tl:TE} (hl:PE X l tl):PI X tg l (Zpu X.K tl):=by
 intro pins s σ H R I h
 refine thn (hl pins s σ H _ I h) λv s1 zz9=>?_
 obtain ⟨x,H1,I1,r1,q1⟩:=zz9
 obtain ⟨a,e,⟨xs,hq⟩,q⟩:=q1
 subst e
 cases r1
 obtain ⟨its,rv,p,hz⟩:=I1.list hq
 refine wpAny_pyIter_list p.isList ?_
 refine ⟨s1.heap.objs.size,[s1.heap.objs.size],_,_,H1,rfl,I1.kept (t':=s1.toks) λb o e=>Ak _ e,Zhq a _,⟨_,Ap _ rfl,rfl,rfl⟩,λb hb=>?_,q⟩
 have e:b=s1.heap.objs.size:=by simpa using hb
 subst e
 exact I1.fpOk (An _) (I1.hok.fresh (An _))
theorem Zip {l:Expr} {tl:TE} (hl:PE X l tl):PI X tg l (iTup X.K tl):=by
 intro pins s σ H R I h
 refine thn (hl pins s σ H _ I h) λv s1 zz9=>?_
 obtain ⟨x,H1,I1,r1,q1⟩:=zz9
 obtain ⟨a,e,⟨xs,hq⟩,q⟩:=q1
 subst e
 cases r1
 obtain ⟨its,rv,p,hz⟩:=I1.tuple hq
 refine wpAny_pyIter_tuple (show s1.heap.IsTuple a its.toArray from p) ?_
 refine ⟨s1.heap.objs.size,[s1.heap.objs.size],_,_,H1,rfl,I1.kept (t':=s1.toks) λb o e=>Ak _ e,Zgc a _,⟨_,Ap _ rfl,rfl,rfl⟩,λb hb=>?_,q⟩
 have e:b=s1.heap.objs.size:=by simpa using hb
 subst e
 exact I1.fpOk (An _) (I1.hok.fresh (An _))
theorem Zdw {pins:List (Addr × Obj)} {σ:St} {H:Hp} {s:Shared} {R:It->Hp->Prop} {E:Value->Shared->Prop} {lo hi:Int} {t u v:Tok} {tk:Nat} (I:Inv X pins σ H s) (h1:-(2 ^ 62)<=lo) (h2:lo < 2 ^ 62) (h3:-(2 ^ 62)<=hi) (h4:hi < 2 ^ 62)
  (q:R (Itr lo (hi - lo).toNat) H):wpAny (model X.prog X.w) X.A (pyIter (.ref s.heap.objs.size)) (PIE X pins σ tg R) E { s with heap:=s.heap.push { cls:=.type "range",data:=.fields #[.int lo t,.int hi u,.int 1 v] },toks:=tk }:=by
 refine wpAny_pyIter_range (IsRange.new ..) (small_one h1 h2 h3 h4) ?_
 have I1:Inv X pins σ H { s with heap:=s.heap.push { cls:=.type "range",data:=.fields #[.int lo t,.int hi u,.int 1 v] },toks:=tk }:=I.kept λb o e=>Ak _ e
 refine ⟨(s.heap.push { cls:=.type "range",data:=.fields #[.int lo t,.int hi u,.int 1 v] }).objs.size,[(s.heap.push { cls:=.type "range",data:=.fields #[.int lo t,.int hi u,.int 1 v] }).objs.size],_,_,H,rfl,
  I1.kept (t':=tk) λb o e=>Ak _ e,Zgd _ lo (hi - lo).toNat,?_,λb hb=>?_,q⟩
 ·have e1:lo + ((0:Nat):Int) * 1=lo:=by simp
  have e2:(((hi - lo).toNat:Nat):Int) - ((0:Nat):Int)=Builtin.Range.rangeSize lo hi 1:=by rw [rangeSize_one]; split <;> omega
  show IsRangeIter _ _ (lo + ((0:Nat):Int) * 1) ((((hi - lo).toNat:Nat):Int) - ((0:Nat):Int)) 1
  rw [e1,e2]
  exact Ap _ rfl
 ·have e:b=(s.heap.push { cls:=.type "range",data:=.fields #[.int lo t,.int hi u,.int 1 v] }).objs.size:=by simpa using hb
  subst e
  exact I1.fpOk (An _) (I1.hok.fresh (An _))
noncomputable def Zps (ta:TA):TI:=λσ H R=>ta σ H λvs H1=>∃ j:Int,vs=[.int j]/\-(2 ^ 62)<=j/\j < 2 ^ 62/\R (Itr 0 j.toNat) H1
noncomputable def Zpr (ta:TA):TI:=λσ H R=>ta σ H λvs H1=>∃ i j:Int,vs=[.int i,.int j]/\(-(2 ^ 62)<=i/\i < 2 ^ 62/\-(2 ^ 62)<=j/\j < 2 ^ 62)/\R (Itr i (j - i).toNat) H1
theorem Yu {a:Expr} {ta:TA} {p pos:Pos} (hg:Gl X "range") (hm:X.mg "range"=none) (ha:PA X [a] ta) (hs:starEach [a] X.env=[(false,eval a X.env)]:=by rfl):PI X tg (.Call (.Name "range" p) [a] [] pos) (Zps ta):=by
 intro pins s σ H R I h
 refine Call_ (Wf I hg hm boot_range (PyProof.Rows.callWith_type1 (thn (ha pos pins s σ H _ I h) λus s1 zz6=>?_) hs rfl))
 obtain ⟨vs,H1,I1,r1,q1⟩:=zz6
 obtain ⟨j,e,q1,q2,q⟩:=q1
 subst e
 cases r1 with
 | cons r rr =>
  cases rr
  obtain ⟨t,rfl⟩:=r
  exact call_range_1 (Zdw I1 (by omega) (by omega) q1 q2 (by simpa using q))
theorem Zir {a b:Expr} {ta:TA} {p pos:Pos} (hg:Gl X "range") (hm:X.mg "range"=none) (ha:PA X [a,b] ta) (hs:starEach [a,b] X.env=[(false,eval a X.env),(false,eval b X.env)]:=by rfl) (hs2:starEach [b] X.env=[(false,eval b X.env)]:=by rfl) :
  PI X tg (.Call (.Name "range" p) [a,b] [] pos) (Zpr ta):=by
 intro pins s σ H R I h
 refine Call_ (Wf I hg hm boot_range (PyProof.Rows.callWith_type1 (thn (ha pos pins s σ H _ I h) λus s1 ⟨vs,H1,I1,r1,q1⟩=>?_) (by rw [hs,hs2]) (by rw [hs2]; rfl)))
 obtain ⟨i,j,e,⟨q1,q2,q3,q4⟩,q⟩:=q1
 subst e
 cases r1 with
 | cons r rr =>
  cases rr with
  | cons r' rr =>
   cases rr
   obtain ⟨t,rfl⟩:=r
   obtain ⟨t',rfl⟩:=r'
   exact call_range_2 (Zdw I1 q1 q2 q3 q4 q)
noncomputable def tFor (wi:TI) (g:TG) (tb:TS):TS:=λD σ H=>wi σ H λJ H1=>∃ W:Nat->Nat->St->Hp->Prop,(∃ m,W 0 m σ H1)/\∀ i m σ H,W i m σ H ->
 (J.stop i H/\D.nx σ H)\/(J.go i H/\∃ N:St->Hp->Prop,(∀ σ' H',N σ' H'->∃ m',m' < m/\W (i + 1) m' σ' H')/\∀ x H',J.yld i H x H'->g x σ H' λσ2 H2=>tb { D with nx:=N,ct:=N,bk:=D.nx } σ2 H2)
noncomputable def Ut (fp:List Addr) (h:Heap):List (Addr × Obj):=fp.filterMap λb=>(h.get? b).map λo=>(b,o)
theorem Jf {fp:List Addr} {h:Heap} {b:Addr} {o:Obj} (hb:b∈fp) (e:h.get? b=some o):(b,o)∈Ut fp h:=List.mem_filterMap.mpr ⟨b,hb,by rw [e]; rfl⟩
theorem Zi6 {fp:List Addr} {h:Heap} {p:Addr × Obj} (hp:p∈Ut fp h):p.1∈fp/\h.get? p.1=some p.2:=by
 obtain ⟨b,hb,e⟩:=List.mem_filterMap.mp hp
 cases q:h.get? b with
 | none=>rw [q] at e; cases e
 | some o =>
  rw [q] at e
  have e':(b,o)=p:=Ax e
  subst e'
  exact ⟨hb,q⟩
theorem Inv.pinned {pins:List (Addr × Obj)} {σ:St} {H:Hp} {s:Shared} {fp:List Addr} (I:Inv X pins σ H s) (hf:∀ b∈fp,FpOk X pins H b) (ho:∀ b∈fp,∃ o,s.heap.get? b=some o/\∀ v,o.data≠.cell v):Inv X (pins ++ Ut fp s.heap) σ H s :=
 I.pins_of λp hp=>(List.mem_append.mp hp).elim (λz=>I.pin p (List.mem_append_right _ z)) λz=>by
  obtain ⟨hb,e⟩:=Zi6 z
  obtain ⟨f0,f1,f2,_⟩:=hf p.1 hb
  obtain ⟨o,e',d⟩:=ho p.1 hb
  rw [e] at e'; cases e'
  exact ⟨e,f0,f1,f2,d⟩
theorem Inv.unpinned {pins pl:List (Addr × Obj)} {σ:St} {H:Hp} {s:Shared} (I:Inv X (pins ++ pl) σ H s):Inv X pins σ H s:=I.pins_of λp hp=>I.pin p (List.mem_append_right _ (List.mem_append_left _ hp))
theorem Y9 {iter:Expr} {body:List Stmt} {wi:TI} {g:TG} {tb:TS} {pos:Pos} (hp:PassesOwn (model X.prog X.w) X.A X.env X.xe) (hc:X.calm=true) (hi:PI X tg iter wi) (hg:PG X tg g) (hb:PSs X body tb)
  (hs:∀ x,foldedSetIterable iter X.env x=pure x:=by intro _; rfl):PS X (.For tg iter body [] pos) (tFor wi g tb):=by
 intro pins s σ H D I h
 refine wpAny_For (thn (hi pins s σ H _ I h) λv s1 h1=>thn h1 λitv s2 h2=>?_) hs
 obtain ⟨it,fp,tn,J,H2,e,I2,T,st2,f2,W,⟨m0,w0⟩,turn⟩:=h2
 subst e
 have stat:∀ {H':Hp},(∀ b∈fp,H' b=none)->∀ b∈fp,FpOk X pins H' b:=λhn b hb=>⟨hn b hb,(f2 b hb).2⟩
 refine codeAny_forLoop_any (λn s'=>∃ i σ' H',Inv X pins σ' H' s'/\tn i s'.heap/\(∀ b∈fp,H' b=none)/\W i n σ' H') ?_ m0 ⟨0,σ,H2,I2,st2,λb hb=>(f2 b hb).1,w0⟩
 rintro n s3 ⟨i,σ3,H3,I3,st3,fr3,w3⟩
 rcases turn i n σ3 H3 w3 with ⟨stop,qn⟩ | ⟨go,N,hN,step⟩
 ·refine wpAny_passesOwn hp (thn (T.done X rfl rfl rfl hc i pins s3 σ3 H3 X.xe I3 (stat fr3) st3 stop) λr s4 ⟨hr,I4⟩=>?_)
  subst hr
  exact wpAny_execs_nil ⟨σ3,H3,I4,qn⟩
 ·refine wpAny_passesOwn hp (thn (T.item X rfl rfl rfl hc i pins s3 σ3 H3 X.xe I3 (stat fr3) st3 go) λr s4 ⟨u,hr,h4⟩=>?_)
  subst hr
  refine wpAny_passesOwn hp (thn h4 λ_ s5 zz9=>?_)
  obtain ⟨x,H5,I5,r5,y5,st5,fr5⟩:=zz9
  have I5':=I5.pinned (stat fr5) (T.obj _ _ st5)
  refine wpAny_passesOwn hp (thn (hg _ s5 σ3 H5 x u _ I5' r5 (step x H5 y5)) λ_ s6 zz9=>?_)
  obtain ⟨σ6,H6,I6,q6⟩:=zz9
  refine wpAny_passesOwn hp (thn (hb _ s6 σ6 H6 _ I6 q6) λf s7 q7=>?_)
  have again:∀ {σ7:St} {H7:Hp},Inv X (pins ++ Ut fp s5.heap) σ7 H7 s7->N σ7 H7->∃ m,m < n/\∃ i σ' H',Inv X pins σ' H' s7/\tn i s7.heap/\(∀ b∈fp,H' b=none)/\W i m σ' H':=λ{σ7 H7} I7 n7=>by
   obtain ⟨m',hm,w7⟩:=hN σ7 H7 n7
   refine ⟨m',hm,i + 1,σ7,H7,I7.unpinned,T.keep _ _ _ st5 λb hb o e=>(I7.pin (b,o) (List.mem_append_right _ (List.mem_append_right _ (Jf hb e)))).1,λb hb=>?_,w7⟩
   obtain ⟨o,e,d⟩:=T.obj _ _ st5 b hb
   exact (I7.pin (b,o) (List.mem_append_right _ (List.mem_append_right _ (Jf hb e)))).2.1
  cases f with
  | next=>obtain ⟨σ7,H7,I7,n7⟩:=q7; exact again I7 n7
  | cont=>obtain ⟨σ7,H7,I7,n7⟩:=q7; exact again I7 n7
  | brk=>obtain ⟨σ7,H7,I7,q7⟩:=q7; exact ⟨σ7,H7,I7.unpinned,q7⟩
  | ret v=>obtain ⟨x7,σ7,H7,I7,r7,q7⟩:=q7; exact ⟨x7,σ7,H7,I7.unpinned,r7,q7⟩
end
theorem G4 {K:W.Frag} {a:Addr} {xs:List V} {g:TG} {tb:TS} {D:Ends} {σ:St} {H:Hp} (Pv:Nat->St->Hp->Prop) (h0:Pv 0 σ H) (hl:∀ i σ H,i<=xs.length->Pv i σ H->SqL K H a xs)
  (hs:∀ i x σ H,xs[i]?=some x->Pv i σ H->g x σ H λσ2 H2=>tb { D with nx:=Pv (i + 1),ct:=Pv (i + 1),bk:=D.nx } σ2 H2) (hd:∀ σ H,Pv xs.length σ H->D.nx σ H) :
  ∃ W:Nat->Nat->St->Hp->Prop,(∃ m,W 0 m σ H)/\∀ i m σ H,W i m σ H ->
   ((Itl K a).stop i H/\D.nx σ H)\/((Itl K a).go i H/\∃ N:St->Hp->Prop,(∀ σ' H',N σ' H'->∃ m',m' < m/\W (i + 1) m' σ' H')/\∀ x H',(Itl K a).yld i H x H'->g x σ H' λσ2 H2=>tb { D with nx:=N,ct:=N,bk:=D.nx } σ2 H2):=by
 refine ⟨λi m σ H=>m=xs.length - i/\i<=xs.length/\Pv i σ H,⟨xs.length,by simp,Az _,h0⟩,?_⟩
 rintro i m σ H ⟨rfl,hi,p⟩
 have q:=hl i σ H hi p
 by_cases hlt:i < xs.length
 ·refine .inr ⟨⟨xs,xs[i],q,by simp [hlt]⟩,Pv (i + 1),λσ' H' p'=>⟨xs.length - (i + 1),by omega,rfl,hlt,p'⟩,λx H' y=>?_⟩
  obtain ⟨e,y⟩:=y
  subst e
  exact hs i x σ _ (y xs q) p
 ·have e:i=xs.length:=by omega
  subst e
  exact .inl ⟨⟨xs,q,An _⟩,hd σ H p⟩
theorem Xy {lo:Int} {n:Nat} {g:TG} {tb:TS} {D:Ends} {σ:St} {H:Hp} (Pv:Nat->St->Hp->Prop) (h0:Pv 0 σ H)
  (hs:∀ i σ H,i < n->Pv i σ H->g (.int (lo + i)) σ H λσ2 H2=>tb { D with nx:=Pv (i + 1),ct:=Pv (i + 1),bk:=D.nx } σ2 H2) (hd:∀ σ H,Pv n σ H->D.nx σ H) :
  ∃ W:Nat->Nat->St->Hp->Prop,(∃ m,W 0 m σ H)/\∀ i m σ H,W i m σ H ->
   ((Itr lo n).stop i H/\D.nx σ H)\/((Itr lo n).go i H/\∃ N:St->Hp->Prop,(∀ σ' H',N σ' H'->∃ m',m' < m/\W (i + 1) m' σ' H')/\∀ x H',(Itr lo n).yld i H x H'->g x σ H' λσ2 H2=>tb { D with nx:=N,ct:=N,bk:=D.nx } σ2 H2):=by
 refine ⟨λi m σ H=>m=n - i/\i<=n/\Pv i σ H,⟨n,by simp,Az _,h0⟩,?_⟩
 rintro i m σ H ⟨rfl,hi,p⟩
 by_cases hlt:i < n
 ·refine .inr ⟨hlt,Pv (i + 1),λσ' H' p'=>⟨n - (i + 1),by omega,rfl,hlt,p'⟩,λx H' y=>?_⟩
  obtain ⟨e,y⟩:=y
  subst e y
  exact hs i σ _ hlt p
 ·have e:i=n:=by omega
  subst e
  exact .inl ⟨An _,hd σ H p⟩
noncomputable abbrev R2:=V->V->Hp->VK->Prop
noncomputable def OpR (X:Cx) (f:Value->Value->Sem Value) (r:R2):Prop :=
 ∀ (pins:List (Addr × Obj)) (s:Shared) (σ:St) (H:Hp) (x y:V) (v u:Value) (Q:VK),Inv X pins σ H s->RelV x v->RelV y u->r x y H Q ->
  wpAny (model X.prog X.w) X.A (f v u) (EP X pins σ Q) X.xe s
noncomputable def UnR (X:Cx) (f:Value->Sem Value) (r:V->Hp->VK->Prop):Prop :=
 ∀ (pins:List (Addr × Obj)) (s:Shared) (σ:St) (H:Hp) (x:V) (v:Value) (Q:VK),Inv X pins σ H s->RelV x v->r x H Q ->
  wpAny (model X.prog X.w) X.A (f v) (EP X pins σ Q) X.xe s
noncomputable def Xu (X:Cx) (f:Value) (r:List V->Hp->VK->Prop):Prop :=
 ∀ (pins:List (Addr × Obj)) (s:Shared) (σ:St) (H:Hp) (xs:List V) (us:List Value) (Q:VK),Inv X pins σ H s->Vals xs us->r xs H Q ->
  wpAny (model X.prog X.w) X.A (call f us) (EP X pins σ Q) X.xe s
noncomputable def TruR (X:Cx) (r:V->Hp->(Bool->Hp->Prop)->Prop):Prop :=
 ∀ (pins:List (Addr × Obj)) (s:Shared) (σ:St) (H:Hp) (x:V) (v:Value) (Q:Bool->Hp->Prop),Inv X pins σ H s->RelV x v->r x H Q ->
  wpAny (model X.prog X.w) X.A (truthy v) (TP X pins σ Q) X.xe s
noncomputable def tOp (r:R2) (ta tb:TE):TE:=λσ H Q=>ta σ H λx H1=>tb σ H1 λy H2=>r x y H2 Q
noncomputable def tUn (r:V->Hp->VK->Prop) (ta:TE):TE:=λσ H Q=>ta σ H λx H1=>r x H1 Q
noncomputable def rI (C:Int->Int->Prop) (g:Int->Int->V):R2:=λx y H Q=>∃ i j,x=.int i/\y=.int j/\C i j/\Q (g i j) H
noncomputable def rI0 (g:Int->Int->V):R2:=λx y H Q=>∃ i j,x=.int i/\y=.int j/\Q (g i j) H
noncomputable def rU (g:Int->V):V->Hp->VK->Prop:=λx H Q=>∃ i,x=.int i/\Q (g i) H
section
variable {X:Cx} {a b c:Expr} {ta tb tc:TE} {pos:Pos}
theorem binT (ha:PE X a ta) (hb:PE X b tb) {pins:List (Addr × Obj)} {s:Shared} {σ:St} {H:Hp} {R:V->V->Hp->Prop} (I:Inv X pins σ H s)
  (h:ta σ H λx H1=>tb σ H1 λy H2=>R x y H2) {Q:Value->Shared->Prop} {f:Value->Value->Sem Value}
  (hf:∀ v u s2 x y H2,Inv X pins σ H2 s2->RelV x v->RelV y u->R x y H2->wpAny (model X.prog X.w) X.A (f v u) Q X.xe s2) :
  wpAny (model X.prog X.w) X.A (eval a X.env) (λv s₁=>wpAny (model X.prog X.w) X.A (eval b X.env) (λu s₂=>wpAny (model X.prog X.w) X.A (f v u) Q X.xe s₂) X.xe s₁) X.xe s:=by
 refine thn (ha pins s σ H _ I h) λv s1 zz9=>?_
 obtain ⟨x,H1,I1,r1,q1⟩:=zz9
 refine thn (hb pins s1 σ H1 _ I1 q1) λu s2 zz9=>?_
 obtain ⟨y,H2,I2,r2,q2⟩:=zz9
 exact hf v u s2 x y H2 I2 r1 r2 q2
theorem Zj {op:Operator} {r:R2} (ho:OpR X (binaryOp op) r) (ha:PE X a ta) (hb:PE X b tb):PE X (.BinOp a op b pos) (tOp r ta tb):=by
 intro pins s σ H Q I h
 exact wpAny_BinOp (binT ha hb I h λv u s2 x y H2 I2 rx ry q=>ho pins s2 σ H2 x y v u Q I2 rx ry q)
theorem Zpk {op:UnaryOp} {r:V->Hp->VK->Prop} (ho:UnR X (unaryOp op) r) (ha:PE X a ta):PE X (.UnaryOp op a pos) (tUn r ta):=by
 intro pins s σ H Q I h
 refine UnaryOp_ (thn (ha pins s σ H _ I h) λv s1 zz7=>?_)
 obtain ⟨x,H1,I1,r1,q1⟩:=zz7
 exact ho pins s1 σ H1 x v Q I1 r1 q1
theorem opI {f:Value->Value->Sem Value} {C:Int->Int->Prop} {g:Int->Int->Int}
  (rule:∀ (i j:Int) (t u:Tok) (s:Shared) (Q:Value->Shared->Prop) (E:Value->Shared->Prop),C i j->Q (.int (g i j) s.toks) { s with toks:=s.toks + 1 }->wpAny (model X.prog X.w) X.A (f (.int i t) (.int j u)) Q E s) :
  OpR X f (rI C λi j=>.int (g i j)):=by
 intro pins s σ H x y v u Q I rx ry h
 obtain ⟨i,j,rfl,rfl,hc,q⟩:=h
 obtain ⟨t,rfl⟩:=rx
 obtain ⟨t',rfl⟩:=ry
 exact rule i j t t' s _ _ hc ⟨.int (g i j),H,I.tok _,⟨_,rfl⟩,q⟩
theorem opI0 {f:Value->Value->Sem Value} {g:Int->Int->Int}
  (rule:∀ (i j:Int) (t u:Tok) (s:Shared) (Q:Value->Shared->Prop) (E:Value->Shared->Prop),Q (.int (g i j) s.toks) { s with toks:=s.toks + 1 }->wpAny (model X.prog X.w) X.A (f (.int i t) (.int j u)) Q E s) :
  OpR X f (rI0 λi j=>.int (g i j)):=by
 intro pins s σ H x y v u Q I rx ry h
 obtain ⟨i,j,rfl,rfl,q⟩:=h
 obtain ⟨t,rfl⟩:=rx
 obtain ⟨t',rfl⟩:=ry
 exact rule i j t t' s _ _ ⟨.int (g i j),H,I.tok _,⟨_,rfl⟩,q⟩
theorem opB0 {f:Value->Value->Sem Value} {g:Int->Int->Bool}
  (rule:∀ (i j:Int) (t u:Tok) (s:Shared) (Q:Value->Shared->Prop) (E:Value->Shared->Prop),Q (.bool (g i j)) s->wpAny (model X.prog X.w) X.A (f (.int i t) (.int j u)) Q E s) :
  OpR X f (rI0 λi j=>.bl (g i j)):=by
 intro pins s σ H x y v u Q I rx ry h
 obtain ⟨i,j,rfl,rfl,q⟩:=h
 obtain ⟨t,rfl⟩:=rx
 obtain ⟨t',rfl⟩:=ry
 exact rule i j t t' s _ _ ⟨.bl (g i j),H,I,rfl,q⟩
noncomputable def CDiv (i j:Int):Prop:=0 < j/\j < 1073741824
noncomputable def CPow (i j:Int):Prop:=0<=j/\j<=1000000/\i.natAbs < 2 ^ 64
noncomputable def CMul (i j:Int):Prop:=(-(2 ^ 64) < i/\i < 2 ^ 64)\/(-(2 ^ 64) < j/\j < 2 ^ 64)
theorem CMul.ok {i j:Int} (h:CMul i j):IntMulOk i j:=by
 rcases h with ⟨h1,h2⟩ | ⟨h1,h2⟩
 ·exact .of_left (intBits_le_64 h1 h2)
 ·exact .of_right (intBits_le_64 h1 h2)
theorem Yf:OpR X (binaryOp .Add) (rI0 λi j=>.int (i + j)):=opI0 λ_ _ _ _ _ _ _ q=>add_int q
theorem Vs:OpR X (binaryOp .Sub) (rI0 λi j=>.int (i - j)):=opI0 λ_ _ _ _ _ _ _ q=>sub_int q
theorem We:OpR X (binaryOp .Mult) (rI CMul λi j=>.int (i * j)):=opI λ_ _ _ _ _ _ _ hc q=>mul_int q hc.ok
theorem Yk:OpR X (binaryOp .FloorDiv) (rI CDiv λi j=>.int (i / j)):=opI λi j _ _ _ _ _ hc q=>by
 have h1:(0:Int) < j:=hc.1
 have h2:j < 1073741824:=hc.2
 exact floordiv_int (by omega) (by rw [Int.fdiv_eq_ediv_of_nonneg i (by omega)]; exact q) (.inl (PyProof.noPylong_small (by omega)))
theorem Z4:OpR X (binaryOp .Mod) (rI (λ_ j=>0 < j) λi j=>.int (i % j)):=opI λi j _ _ _ _ _ hc q=>by
 have h1:(0:Int) < j:=hc
 exact mod_int' (by omega) (by rw [Int.fmod_eq_emod_of_nonneg i (by omega)]; exact q)
theorem Zog:OpR X (binaryOp .Pow) (rI CPow λi j=>.int (i ^ j.toNat)):=opI λ_ _ _ _ _ _ _ hc q=>pow_int_small hc.1 hc.2.1 hc.2.2 q
theorem unI {f:Value->Sem Value} {g:Int->Int}
  (rule:∀ (i:Int) (t:Tok) (s:Shared) (Q:Value->Shared->Prop) (E:Value->Shared->Prop),Q (.int (g i) s.toks) { s with toks:=s.toks + 1 }->wpAny (model X.prog X.w) X.A (f (.int i t)) Q E s) :
  UnR X f (rU λi=>.int (g i)):=by
 intro pins s σ H x v Q I rx h
 obtain ⟨i,rfl,q⟩:=h
 obtain ⟨t,rfl⟩:=rx
 exact rule i t s _ _ ⟨.int (g i),H,I.tok _,⟨_,rfl⟩,q⟩
theorem Znt:UnR X (unaryOp .USub) (rU λi=>.int (-i)):=unI λ_ _ _ _ _ q=>neg_int q
end
noncomputable def scal:V->V->Bool
 | .non,.non=>true | .non,.int _=>true | .int _,.non=>true | .non,.bl _=>true | .bl _,.non=>true | .non,.str _=>true | .str _,.non=>true
 | .int _,.int _=>true | .bl _,.bl _=>true | .str _,.str _=>true | .byt _,.byt _=>true
 | .int _,.str _=>true | .str _,.int _=>true | .bl _,.str _=>true | .str _,.bl _=>true
 | _,_=>false
noncomputable def rEq:R2:=λx y H Q=>scal x y=true/\Q (.bl (decide (x=y))) H
noncomputable def rNe:R2:=λx y H Q=>scal x y=true/\Q (.bl (!decide (x=y))) H
theorem Zf7 {i j:Int}:decide (V.int i=V.int j)=(i == j):=by
 rw [Bool.eq_iff_iff]
 simp
theorem Zjs {i j:Bool}:decide (V.bl i=V.bl j)=(i == j):=by
 rw [Bool.eq_iff_iff]
 simp
theorem Zf6 {i j:Str}:decide (V.str i=V.str j)=(i == j):=by
 rw [Bool.eq_iff_iff]
 simp
theorem Zf8 {i j:Array UInt8}:decide (V.byt i=V.byt j)=(i.toList == j.toList):=by
 rw [Bool.eq_iff_iff]
 cases i
 cases j
 simp
section
variable {X:Cx} {a b c:Expr} {ta tb tc:TE} {pos:Pos}
theorem Yg {pins:List (Addr × Obj)} {σ:St} {H:Hp} {s:Shared} {Q:VK} {k k':Bool} (I:Inv X pins σ H s) (q:Q (.bl k) H) (e:k=k'):EP X pins σ Q (.bool k') s:=by
 subst e
 exact ⟨.bl k,H,I,rfl,q⟩
theorem Ya:OpR X (compareOp .Eq) rEq:=by
 intro pins s σ H x y v u Q I rx ry h
 obtain ⟨hs,q⟩:=h
 cases x with
 | non =>
  cases rx
  cases y with
  | non=>cases ry; exact PySem.EqNone.eq_none_none (Yg I q (by simp))
  | bl j=>cases ry; exact PySem.EqNone.eq_none_bool (Yg I q (by simp))
  | int j=>obtain ⟨t',rfl⟩:=ry; exact PySem.EqNone.eq_none_int (Yg I q (by simp))
  | str j=>obtain ⟨t',rfl⟩:=ry; exact PySem.EqNone.eq_none_str (Yg I q (by simp))
  | _=>exact absurd (show false=true from hs) Bool.false_ne_true
 | bl i =>
  cases rx
  cases y with
  | non=>cases ry; exact PySem.EqNone.eq_bool_none (Yg I q (by simp))
  | bl j=>cases ry; exact eq_bool (Yg I q Zjs)
  | str j=>obtain ⟨t',rfl⟩:=ry; exact PySem.EqMixed.eq_bool_str (Yg I q (by simp))
  | _=>exact absurd (show false=true from hs) Bool.false_ne_true
 | int i =>
  obtain ⟨t,rfl⟩:=rx
  cases y with
  | non=>cases ry; exact PySem.EqNone.eq_int_none (Yg I q (by simp))
  | int j=>obtain ⟨t',rfl⟩:=ry; exact eq_int (Yg I q Zf7)
  | str j=>obtain ⟨t',rfl⟩:=ry; exact PySem.EqMixed.eq_int_str (Yg I q (by simp))
  | _=>exact absurd (show false=true from hs) Bool.false_ne_true
 | str i =>
  obtain ⟨t,rfl⟩:=rx
  cases y with
  | non=>cases ry; exact PySem.EqNone.eq_str_none (Yg I q (by simp))
  | bl j=>cases ry; exact PySem.EqMixed.eq_str_bool (Yg I q (by simp))
  | int j=>obtain ⟨t',rfl⟩:=ry; exact PySem.EqMixed.eq_str_int (Yg I q (by simp))
  | str j=>obtain ⟨t',rfl⟩:=ry; exact eq_str (Yg I q Zf6)
  | _=>exact absurd (show false=true from hs) Bool.false_ne_true
 | byt i =>
  obtain ⟨t,rfl⟩:=rx
  cases y with
  | byt j=>obtain ⟨t',rfl⟩:=ry; exact PySem.W.eq_bytes (Yg I q Zf8)
  | _=>exact absurd (show false=true from hs) Bool.false_ne_true
 | _=>cases y <;> exact absurd (show false=true from hs) Bool.false_ne_true
theorem J4:OpR X (compareOp .NotEq) rNe:=by
 intro pins s σ H x y v u Q I rx ry h
 obtain ⟨hs,q⟩:=h
 cases x with
 | non =>
  cases rx
  cases y with
  | non=>cases ry; exact PySem.EqNone.ne_none_none (Yg I q (by simp))
  | bl j=>cases ry; exact PySem.EqNone.ne_none_bool (Yg I q (by simp))
  | int j=>obtain ⟨t',rfl⟩:=ry; exact PySem.EqNone.ne_none_int (Yg I q (by simp))
  | str j=>obtain ⟨t',rfl⟩:=ry; exact PySem.EqNone.ne_none_str (Yg I q (by simp))
  | _=>exact absurd (show false=true from hs) Bool.false_ne_true
 | bl i =>
  cases rx
  cases y with
  | non=>cases ry; exact PySem.EqNone.ne_bool_none (Yg I q (by simp))
  | bl j=>cases ry; exact ne_bool (Yg I q (congrArg not Zjs))
  | str j=>obtain ⟨t',rfl⟩:=ry; exact PySem.EqMixed.ne_bool_str (Yg I q (by simp))
  | _=>exact absurd (show false=true from hs) Bool.false_ne_true
 | int i =>
  obtain ⟨t,rfl⟩:=rx
  cases y with
  | non=>cases ry; exact PySem.EqNone.ne_int_none (Yg I q (by simp))
  | int j=>obtain ⟨t',rfl⟩:=ry; exact ne_int (Yg I q (congrArg not Zf7))
  | str j=>obtain ⟨t',rfl⟩:=ry; exact PySem.EqMixed.ne_int_str (Yg I q (by simp))
  | _=>exact absurd (show false=true from hs) Bool.false_ne_true
 | str i =>
  obtain ⟨t,rfl⟩:=rx
  cases y with
  | non=>cases ry; exact PySem.EqNone.ne_str_none (Yg I q (by simp))
  | bl j=>cases ry; exact PySem.EqMixed.ne_str_bool (Yg I q (by simp))
  | int j=>obtain ⟨t',rfl⟩:=ry; exact PySem.EqMixed.ne_str_int (Yg I q (by simp))
  | str j=>obtain ⟨t',rfl⟩:=ry; exact ne_str (Yg I q (congrArg not Zf6))
  | _=>exact absurd (show false=true from hs) Bool.false_ne_true
 | byt i =>
  obtain ⟨t,rfl⟩:=rx
  cases y with
  | byt j=>obtain ⟨t',rfl⟩:=ry; exact PySem.W.ne_bytes (Yg I q (congrArg not Zf8))
  | _=>exact absurd (show false=true from hs) Bool.false_ne_true
 | _=>cases y <;> exact absurd (show false=true from hs) Bool.false_ne_true
theorem Qz:OpR X (compareOp .Lt) (rI0 λi j=>.bl (decide (i < j))):=opB0 λ_ _ _ _ _ _ _ q=>lt_int q
theorem Zpl:OpR X (compareOp .LtE) (rI0 λi j=>.bl (decide (i<=j))):=opB0 λ_ _ _ _ _ _ _ q=>le_int q
theorem J5:OpR X (compareOp .Gt) (rI0 λi j=>.bl (decide (j < i))):=opB0 λ_ _ _ _ _ _ _ q=>gt_int q
theorem Zlx:OpR X (compareOp .GtE) (rI0 λi j=>.bl (decide (j<=i))):=opB0 λ_ _ _ _ _ _ _ q=>ge_int q
theorem Qs:OpR X (compareOp .IsNot) (λx y H Q=>y=.non/\Q (.bl (!decide (x=.non))) H):=by
 intro pins s σ H x y v u Q I rx ry h
 obtain ⟨rfl,q⟩:=h
 cases ry
 refine isnot_none_gen (Yg I q ?_)
 cases x <;> first
  | (cases rx; rfl)
  | (obtain ⟨t,rfl⟩:=rx; rfl)
theorem Zp (b:Expr) {op:CmpOp} (h:op≠.In:=by decide) (h2:op≠.NotIn:=by decide):behindInMarks op b=false:=by
 have e1:(op == CmpOp.In)=false:=by cases op <;> first | rfl | exact absurd rfl h
 have e2:(op == CmpOp.NotIn)=false:=by cases op <;> first | rfl | exact absurd rfl h2
 cases b <;> simp [behindInMarks,e1,e2]
theorem Qq {op:CmpOp} {r:R2} (ho:OpR X (compareOp op) r) (ha:PE X a ta) (hb:PE X b tb) (hm:behindInMarks op b=false):PE X (.Compare a [op] [b] pos) (tOp r ta tb):=by
 intro pins s σ H Q I h
 exact wpAny_Compare1 (binT ha hb I h λv u s2 x y H2 I2 rx ry q=>ho pins s2 σ H2 x y v u Q I2 rx ry q) hm
noncomputable def Zo3 (t:TE):TT:=λσ H Q=>t σ H λx H'=>∃ k,x=.bl k/\Q k H'
theorem Zm {op:CmpOp} {r:R2} (ho:OpR X (compareOp op) r) (ha:PE X a ta) (hb:PE X b tb) (hm:behindInMarks op b=false):PT X (.Compare a [op] [b] pos) (Zo3 (tOp r ta tb)):=by
 intro pins s σ H Q I h
 refine wpAny_isTrue_Compare1 (thn (ha pins s σ H _ I h) λv s1 ⟨x,H1,I1,r1,q1⟩=>thn (hb pins s1 σ H1 _ I1 q1) λu s2 ⟨y,H2,I2,r2,q2⟩ =>
  thn (ho pins s2 σ H2 x y v u _ I2 r1 r2 q2) λc s3 ⟨z,H3,I3,r3,k,e,q3⟩=>?_) hm
 subst e
 cases r3
 exact wpAny_truthy_bool ⟨H3,I3,q3⟩
noncomputable def Zn3 (r r':R2) (ta tb tc:TE):TE:=λσ H Q=>ta σ H λx H1=>tb σ H1 λy H2=>r x y H2 λz H3=>∃ k,z=.bl k /\
 (if k=true then tc σ H3 λw' H4=>r' y w' H4 Q else Q (.bl false) H3)
theorem Zkw {op op':CmpOp} {r r':R2} (ho:OpR X (compareOp op) r) (ho':OpR X (compareOp op') r') (ha:PE X a ta) (hb:PE X b tb) (hc:PE X c tc)
  (hm:lastMarks [op,op'] [b,c]=false:=by with_unfolding_all rfl):PE X (.Compare a [op,op'] [b,c] pos) (Zn3 r r' ta tb tc):=by
 intro pins s σ H Q I h
 refine Compare_chain (thn (ha pins s σ H _ I h) λv s1 ⟨x,H1,I1,r1,q1⟩=>chain_link (thn (hb pins s1 σ H1 _ I1 q1) λu s2 ⟨y,H2,I2,r2,q2⟩ =>
  thn (ho pins s2 σ H2 x y v u _ I2 r1 r2 q2) λd s3 ⟨z,H3,I3,r3,k,e,q3⟩=>?_)) hm
 subst e
 cases r3
 refine wpAny_truthy_bool ?_
 cases k with
 | false=>exact ite_ff ⟨.bl false,H3,I3,rfl,q3⟩
 | true=>exact ite_tt (chain_last (thn (hc pins s3 σ H3 _ I3 q3) λw' s4 ⟨z',H4,I4,r4,q4⟩=>ho' pins s4 σ H4 y z' u w' Q I4 r2 r4 q4))
noncomputable def TruV (K:W.Frag) (x:V) (H:Hp) (k:Bool):Prop :=
 match x with
 | .non=>k=false
 | .bl b=>k=b
 | .int i=>k=(i != 0)
 | .str y=>y.length<=sizeLine/\k=((y.length:Int) != 0)
 | .byt y=>y.size<=sizeLine/\k=((y.size:Int) != 0)
 | .ref p=>(∃ xs,SqL K H p xs/\k=!xs.isEmpty)\/(∃ xs,SqT K H p xs/\k=!xs.isEmpty)\/∃ kvs,H p=some (.dK kvs)/\k=!kvs.isEmpty
 | _=>False
theorem Zg7 {κ:Type} {kvs:List (κ × V)} {vs:List (κ × Value)} (r:KV kvs vs):(!vs.isEmpty)=!kvs.isEmpty:=by
 cases r <;> rfl
theorem F0 {xs:List V} {its:List Value} (r:Vals xs its):(!its.toArray.isEmpty)=!xs.isEmpty:=by
 cases r <;> simp
theorem Ki:(sizeLine:Nat) < 2 ^ 63:=by rw [sizeLine_eq]; decide
theorem Znu:TruR X (λx H Q=>∃ k,TruV X.K x H k/\Q k H):=by
 intro pins s σ H x v Q I rx h
 obtain ⟨k,e,q⟩:=h
 have hl:=Ki
 have hs:sizeLine=16777216:=sizeLine_eq
 cases x with
 | non =>
  cases rx
  have e':k=false:=e
  subst e'
  exact truthy_none ⟨H,I,q⟩
 | bl b =>
  cases rx
  have e':k=b:=e
  subst e'
  exact wpAny_truthy_bool ⟨H,I,q⟩
 | int i =>
  obtain ⟨t,rfl⟩:=rx
  have e':k=(i != 0):=e
  subst e'
  exact PySem.P.truthy_int ⟨H,I,q⟩
 | str y =>
  obtain ⟨t,rfl⟩:=rx
  obtain ⟨hy,e'⟩:y.length<=sizeLine/\k=((y.length:Int) != 0):=e
  subst e'
  exact PySem.P.truthy_str (by omega) ⟨H,I.tok _,q⟩
 | byt y =>
  obtain ⟨t,rfl⟩:=rx
  obtain ⟨hy,e'⟩:y.size<=sizeLine/\k=((y.size:Int) != 0):=e
  subst e'
  exact PySem.W.truthy_bytes (by omega) ⟨H,I.tok _,q⟩
 | ref p =>
  cases rx
  have e':(∃ xs,SqL X.K H p xs/\k=!xs.isEmpty)\/(∃ xs,SqT X.K H p xs/\k=!xs.isEmpty)\/∃ kvs,H p=some (.dK kvs)/\k=!kvs.isEmpty:=e
  rcases e' with ⟨xs,hx,e'⟩ | ⟨xs,hx,e'⟩ | ⟨kvs,hx,e'⟩
  ·subst e'
   obtain ⟨its,r,pl,hz⟩:=I.list hx
   have hlen:=r.length
   exact wpAny_truthy_list pl.isList (by simp only [Aq]; omega) ⟨H,I.tok _,by rw [F0 r]; exact q⟩
  ·subst e'
   obtain ⟨its,r,pl,hz⟩:=I.tuple hx
   have hlen:=r.length
   exact truthy_tuple pl (by simp only [Aq]; omega) ⟨H,I.tok _,by rw [F0 r]; exact q⟩
  ·subst e'
   obtain ⟨hz,hS,vs,r,m⟩:kvs.length<=sizeLine/\(p == sysModules)=false/\∃ vs,KV kvs vs/\s.heap.DictOf (Z9 X.prog X.w) p vs:=I.hok p _ hx
   have hlen:kvs.length=vs.length:=Paired.length r
   exact wpAny_truthy_dict hS m (by omega) ⟨H,I.tok _,by rw [Zg7 r]; exact q⟩
 | _=>exact (show False from e).elim
theorem U8 (ha:PE X a ta) (he:∀ whole,isTrue a X.env whole=(do let v <- whole; standAt a.pos; holding [v] (truthy v))) :
  PT X a (λσ H Q=>ta σ H λx H'=>∃ k,TruV X.K x H' k/\Q k H'):=by
 intro pins s σ H Q I h
 refine isTrue_plain (thn (ha pins s σ H _ I h) λv s1 zz8=>?_) (he _)
 obtain ⟨x,H1,I1,r1,q1⟩:=zz8
 exact Znu pins s1 σ H1 x v Q I1 r1 q1
theorem Wo {x:V} {us:List Value} (r:Vals [x] us):∃ u,us=[u]/\RelV x u:=by
 cases r with
 | cons r1 r2=>cases r2; exact ⟨_,rfl,r1⟩
theorem Zoz {x y:V} {us:List Value} (r:Vals [x,y] us):∃ u w',us=[u,w']/\RelV x u/\RelV y w':=by
 cases r with
 | cons r1 r2 =>
  cases r2 with
  | cons r3 r4=>cases r4; exact ⟨_,_,rfl,r1,r3⟩
theorem Zj2 (hc:X.calm=true):Xu X (.builtin "max") (λxs H Q=>∃ i j,xs=[.int i,.int j]/\Q (.int (if j > i then j else i)) H):=by
 intro pins s σ H xs us Q I r h
 obtain ⟨i,j,rfl,q⟩:=h
 obtain ⟨u,w',rfl,⟨t,rfl⟩,⟨t',rfl⟩⟩:=Zoz r
 refine max_two_ints (I.ok.hd hc) λh' tk k=>⟨_,H,I.kept k,?_,q⟩
 by_cases hj:j > i
 ·rw [if_pos hj,if_pos hj]; exact ⟨_,rfl⟩
 ·rw [if_neg hj,if_neg hj]; exact ⟨_,rfl⟩
theorem Zeo:Xu X (.type "str") (λxs H Q=>∃ i,xs=[.int i]/\i.natAbs.log2 < 1920/\Q (.str (toString i)) H):=by
 intro pins s σ H xs us Q I r h
 obtain ⟨i,rfl,hz,q⟩:=h
 obtain ⟨u,rfl,t,rfl⟩:=Wo r
 exact PySem.P.str_of_int hz ⟨.str _,H,I.tok _,⟨_,rfl⟩,q⟩
end
structure ObjM (h:Heap) (x dx C:Addr) (mA:Str->Option Value):Prop where
 obj:h.get? x=some (PySem.W.instObj C dx)
 ns:h.Ns1 dx mA
 ne:dx≠x
theorem Zjd {h:Heap} {dx:Addr} {mA:Str->Option Value} (n:h.Ns1 dx mA):∃ od,h.get? dx=some od/\∀ name,PySem.W.lookIn name od=some (mA name):=by
 obtain ⟨o,es,ep,ho,hd,hk,_,hm⟩:=n
 refine ⟨o,ho,λname=>?_⟩
 have e:=hm name
 unfold nsFind findBy at e
 rw [<- Array.find?_toList] at e
 unfold PySem.W.lookIn
 rw [hd]
 dsimp only
 split
 ·rename_i y q
  rw [q] at e
  exact congrArg some e
 ·rename_i q
  rw [q] at e
  have a:es.toList.any (·.refKey)=false:=by
   rw [List.any_eq_false]
   intro y hy
   obtain ⟨z,t,hkey⟩:=hk y (Array.mem_toList_iff.mp hy)
   simp [DictEntry.refKey,hkey]
  have a':¬ es.toList.any (·.refKey)=true:=by rw [a]; exact Bool.false_ne_true
  rw [if_neg a']
  exact congrArg some e
theorem ObjM.look {h:Heap} {x dx C:Addr} {mA:Str->Option Value} (I:ObjM h x dx C mA):∃ od,PySem.W.InstAt h x (PySem.W.instObj C dx) C (some od)/\∀ name,PySem.W.lookIn name od=some (mA name) :=
 let ⟨od,ho,hl⟩:=Zjd I.ns
 ⟨od,⟨I.obj,rfl,rfl,ho⟩,hl⟩
section
variable {prog:Program} {w:World} {A:Around} {E:Value->Shared->Prop} {s:Shared} {K:W.Frag} {x dx C f:Addr} {mA:Str->Option Value} {name:Str} {v:Value}
theorem Zni {expr:Bool} {Q:Value->Shared->Prop} (X:K.In s.heap) (I:ObjM s.heap x dx C mA) (hg:PySem.W.plainGet K C name=true) (hh:PySem.W.hasDictIn K C=true)
  (ha:PySem.W.findIn K (.ref C) name=some none) (hv:mA name=some v) (hv':PySem.W.handedIn v=true) (h:Q v { s with toks:=s.toks + 1 }) :
  wpAny (model prog w) A (getAttr (.ref x) name expr) Q E s:=by
 obtain ⟨od,J,hl⟩:=I.look
 exact PySem.W.get_value X J (PySem.W.plainGet_of hg).1 (PySem.W.findObj_own hh ha rfl (by rw [hl,hv])) hv' h
theorem Zlh {pl:Sem Bool} {Q:Value × List Value->Shared->Prop} (X:K.In s.heap) (I:ObjM s.heap x dx C mA) (hg:PySem.W.plainGet K C name=true)
  (hf:PySem.W.findIn K (.ref C) name=some (some (.ref f))) (ht:PySem.W.isFn K (.ref f)=true) (hv:mA name=none) (h:Q (.ref f,[.ref x]) s) :
  wpAny (model prog w) A (getMethod (.ref x) name pl) Q E s:=by
 obtain ⟨od,J,hl⟩:=I.look
 exact PySem.W.method_fn X J (PySem.W.plainGet_of hg).1 (PySem.W.plainGet_of hg).2 hf (beq_iff_eq.mp ht) (by show (PySem.W.lookIn name od).map (·.isSome)=some false; rw [hl,hv]; rfl) h
theorem Zmp {ns:List Str} {Q:Unit->Shared->Prop} (X:K.In s.heap) (I:ObjM s.heap x dx C mA)
  (hs:PySem.W.findIn K (.ref C) "__setattr__"=some (some (.builtin "object.__setattr__"))) (hp:PySem.W.plainOver K C=true) (ht:PySem.W.takerIn K C name=some none) (hh:PySem.W.hasDictIn K C=true)
  (hw:PySem.Within mA ns) (hsz:ns.length<=sizeLine)
  (h:∀ h',ObjM h' x dx C (λy=>if y=name then some v else mA y)->Heap.SameBut dx s.heap h'->Q () { s with heap:=h',toks:=s.toks + 2 }) :
  wpAny (model prog w) A (setAttr (.ref x) name v) Q E s:=by
 obtain ⟨od,J,hl⟩:=I.look
 refine PySem.W.set_plain X J hs (PySem.W.osa_open (s:={ s with toks:=s.toks + 1 }) (r:=none) X J hp ht λb=>?_)
 obtain ⟨cd,hc,hd'⟩:=PySem.W.any_some hh
 have hx:s.heap.get? x=some ⟨.ref C,some dx,.plain,#[]⟩:=I.obj
 refine Al (wpAny_pure (Al (Al (wpAny_loadPart hx (Al (PySem.W.Looks.here (s:={ s with toks:=s.toks + 1 }) (PySem.W.looks_clsIn X hc) ?_))))))
 rw [hd']
 refine wpAny_pure (a:=some dx) (Al (wpAny_pure (Al ?_)))
 refine wpAny_nsSet1 (s:={ s with toks:=s.toks + 1 }) I.ns λh' hn2 hs2=>?_
 obtain ⟨oD,esD,epD,hoD,hdD,hcD⟩:=hn2.count (PySem.Within.cons name v hw)
 refine Al (wpAny_lookBehind hoD (by rw [hdD]; exact pastItsLine_dict (Nat.le_trans hcD (by rw [List.length_cons]; omega))) ?_)
 exact wpAny_pure (h _ ⟨(hs2.2 _ (Ne.symm I.ne)).trans I.obj,hn2,I.ne⟩ hs2)
theorem Zk8 {R:Result->Shared->Prop} {vs:List Value} {kw:List (Str × Value)} (X:K.In s.heap) (hm:PySem.W.makesIn K C=true)
  (hi:PySem.W.findIn K (.ref C) "__init__"=some (some (.ref f))) (hf:PySem.W.typeIn K (.ref f)=some (.type "function"))
  (h:codeAny (model prog w) (A.under (.builtin "type.__call__" ⟨.ref C :: vs,kw⟩)) (.call (.ref f) ⟨.ref (s.heap.objs.size + 1) :: vs,kw⟩) (PySem.W.InitBack (s.heap.objs.size + 1) R)
   { s with heap:=(s.heap.push PySem.W.emptyDict).push (PySem.W.instObj C s.heap.objs.size) }) :
  codeAny (model prog w) A (.call (.ref C) ⟨vs,kw⟩) R s:=by
 obtain ⟨hh,g,d,t,os⟩:=s
 exact PySem.W.make_core (PySem.W.makes_of X hm) (PySem.W.looks_findIn X hi) (λself=>PySem.W.bind_fn X self hf) (.inl rfl) h
end
noncomputable def putF (f:Str) (v:V):List (Str × V)->List (Str × V)
 | []=>[(f,v)]
 | (g,x) :: r=>if g=f then (g,v) :: r else (g,x) :: putF f v r
theorem Z7 (f g:Str) (v:V):∀ fs:List (Str × V),(putF f v fs).lookup g=if g=f then some v else fs.lookup g
 | []=>by
  show List.lookup g [(f,v)]=_
  by_cases h:g=f
  ·have hb:(g == f)=true:=beq_iff_eq.mpr h
   simp only [List.lookup,hb,if_pos h]
  ·have hb:(g == f)=false:=beq_eq_false_iff_ne.mpr h
   simp only [List.lookup,hb,if_neg h]
 | (k,x) :: r=>by
  have ih:=Z7 f g v r
  rw [show putF f v ((k,x) :: r)=(if k=f then (k,v) :: r else (k,x) :: putF f v r) from rfl]
  by_cases hk:k=f
  ·rw [if_pos hk]
   by_cases h:g=k
   ·have hb:(g == k)=true:=beq_iff_eq.mpr h
    simp only [List.lookup,hb,if_pos (h.trans hk)]
   ·have hb:(g == k)=false:=beq_eq_false_iff_ne.mpr h
    simp only [List.lookup,hb,if_neg (λe:g=f=>h (e.trans hk.symm))]
  ·rw [if_neg hk]
   by_cases h:g=k
   ·have hb:(g == k)=true:=beq_iff_eq.mpr h
    simp only [List.lookup,hb,if_neg (λe:g=f=>hk (h.symm.trans e))]
   ·have hb:(g == k)=false:=beq_eq_false_iff_ne.mpr h
    simp only [List.lookup,hb]
    exact ih
theorem Kj (f:Str) (v:V):∀ fs:List (Str × V),f∈(putF f v fs).map (·.1)/\∀ g,g∈fs.map (·.1)->g∈(putF f v fs).map (·.1)
 | []=>⟨by simp [putF],λg h=>by simp at h⟩
 | (k,x) :: r=>by
  obtain ⟨i1,i2⟩:=Kj f v r
  rw [show putF f v ((k,x) :: r)=(if k=f then (k,v) :: r else (k,x) :: putF f v r) from rfl]
  by_cases hk:k=f
  ·rw [if_pos hk]
   subst hk
   exact ⟨by simp,λg h=>by simpa using h⟩
  ·rw [if_neg hk]
   refine ⟨?_,λg h=>?_⟩
   ·rw [List.map_cons]
    exact List.mem_cons_of_mem _ i1
   ·rw [List.map_cons] at h ⊢
    rcases Ar h with e | e
    ·exact List.mem_cons.mpr (.inl e)
    ·exact List.mem_cons_of_mem _ (i2 g e)
theorem Gi (f:Str) (v:V):∀ fs:List (Str × V),(putF f v fs).length<=fs.length + 1
 | []=>by simp [putF]
 | (k,x) :: r=>by
  have ih:=Gi f v r
  rw [show putF f v ((k,x) :: r)=(if k=f then (k,v) :: r else (k,x) :: putF f v r) from rfl]
  by_cases hk:k=f
  ·rw [if_pos hk,List.length_cons,List.length_cons]; omega
  ·rw [if_neg hk,List.length_cons,List.length_cons]; omega
theorem RelO.some_of {v:V} {o:Option Value} (r:RelO (some v) o):∃ u,o=some u/\RelV v u:=by
 cases o with
 | none=>exact (show False from r).elim
 | some u=>exact ⟨u,rfl,r⟩
theorem RelO.none_of {o:Option Value} (r:RelO none o):o=none:=by
 cases o with
 | none=>rfl
 | some u=>exact (show False from r).elim
theorem Zjk {v:V} {u:Value} (r:RelV v u):PySem.W.handedIn u=true:=by
 cases v with
 | non=>cases (show u=Value.none from r); rfl
 | bl b=>cases (show u=Value.bool b from r); rfl
 | int i=>obtain ⟨t,e⟩:=(show ∃ t,u=Value.int i t from r); cases e; rfl
 | str x=>obtain ⟨t,e⟩:=(show ∃ t,u=Value.str x t from r); cases e; rfl
 | byt b=>obtain ⟨t,e⟩:=(show ∃ t,u=Value.bytes b t from r); cases e; rfl
 | flt b=>obtain ⟨t,e⟩:=(show ∃ t,u=Value.float b t from r); cases e; rfl
 | ref a=>cases (show u=Value.ref a from r); rfl
 | ty n=>cases (show u=Value.type n from r); rfl
section
variable {P:Program} {w:World} {H H':Hp} {h h':Heap} {a C dx:Addr} {fs fs':List (Str × V)}
theorem Ks (hok:HOk P w H h) (e:H a=some (.ins C dx fs)):∃ mA,ObjM h a dx C mA/\(∀ f,RelO (fs.lookup f) (mA f))/\PySem.Within mA (fs.map (·.1))/\fs.length<=1000/\H dx=some (.own a):=by
 obtain ⟨d,z,ne,ob,mA,n,r,q⟩:=(show Yj P w H h a (.ins C dx fs) from hok a _ e)
 exact ⟨mA,⟨ob,n,ne⟩,r,q,z,d⟩
end
structure Cls (K:W.Frag) (C:Addr):Prop where
 pg:PySem.W.plainGet K C Str.empty=true
 hd:PySem.W.hasDictIn K C=true
 po:PySem.W.plainOver K C=true
 sa:PySem.W.findIn K (.ref C) "__setattr__"=some (some (.builtin "object.__setattr__"))
theorem Cls.get {K:W.Frag} {C:Addr} (c:Cls K C) (f:Str):PySem.W.plainGet K C f=true:=c.pg
noncomputable def Xk (K:W.Frag) (C:Addr) (f:Str):Prop:=PySem.W.findIn K (.ref C) f=some none
theorem Xk.taker {K:W.Frag} {C:Addr} {f:Str} (n:Xk K C f):PySem.W.takerIn K C f=some none:=by
 unfold PySem.W.takerIn
 rw [show PySem.W.findIn K (.ref C) f=some none from n]
 rfl
structure Meth (K:W.Frag) (C:Addr) (m:Str) (f:Addr):Prop where
 at_:PySem.W.findIn K (.ref C) m=some (some (.ref f))
 fn:PySem.W.isFn K (.ref f)=true
 kp:PySem.W.keepIn K (.ref f)=true
section
variable {X:Cx} {pins:List (Addr × Obj)} {σ:St} {H:Hp} {s:Shared} {a C dx:Addr} {fs:List (Str × V)} {f:Str} {v:V} {A:Around} {E:Value->Shared->Prop}
theorem Zg8 {b:Bool} {Q:Value->Shared->Prop} (I:Inv X pins σ H s) (e:H a=some (.ins C dx fs)) (c:Cls X.K C) (n:Xk X.K C f) (l:fs.lookup f=some v)
  (h:∀ u s',Inv X pins σ H s'->RelV v u->Q u s'):wpAny (model X.prog X.w) A (getAttr (.ref a) f b) Q E s:=by
 obtain ⟨mA,O,r,_,_,_⟩:=Ks I.hok e
 obtain ⟨u,hu,ru⟩:=RelO.some_of (v:=v) (o:=mA f) (by rw [<- l]; exact r f)
 exact Zni I.kIn O (c.get f) c.hd n hu (Zjk ru) (h u _ (I.tok _) ru)
theorem Of {m:Str} {g:Addr} {pl:Sem Bool} {Q:Value × List Value->Shared->Prop} (I:Inv X pins σ H s) (e:H a=some (.ins C dx fs)) (c:Cls X.K C) (k:Meth X.K C m g) (l:fs.lookup m=none)
  (h:Q (.ref g,[.ref a]) s):wpAny (model X.prog X.w) A (getMethod (.ref a) m pl) Q E s:=by
 obtain ⟨mA,O,r,_,_,_⟩:=Ks I.hok e
 have hn:mA m=none:=RelO.none_of (by rw [<- l]; exact r m)
 exact Zlh I.kIn O (c.get m) k.at_ k.fn hn h
theorem Zgp {y:V} {u:Value} {Q:Unit->Shared->Prop} (I:Inv X pins σ H s) (e:H a=some (.ins C dx fs)) (c:Cls X.K C) (n:Xk X.K C f) (hl:fs.length < 1000) (ry:RelV y u)
  (h:∀ s',Inv X pins σ (upd H a (.ins C dx (putF f y fs))) s'->Q () s'):wpAny (model X.prog X.w) A (setAttr (.ref a) f u) Q E s:=by
 obtain ⟨mA,O,r,wi,_,ho⟩:=Ks I.hok e
 have hz:(fs.map (·.1)).length<=sizeLine:=by rw [Ab,sizeLine_eq]; omega
 refine Zmp I.kIn O c.sa c.po n.taker c.hd wi hz λh' O' sb=>h _ ?_
 have hd:∃ o,h'.get? dx=some o:=let ⟨o,_,_,e',_⟩:=O'.ns; ⟨o,e'⟩
 refine I.write (x:=a) (e:=dx) (by rw [e]; exact True.intro) (.inr ho) (λb q hb z=>(sb.2 b hb).trans z) hd ?_
 refine ⟨by rw [Zd O.ne]; exact ho,?_,O.ne,O'.obj,_,O'.ns,λg=>?_,λg hg=>?_⟩
 ·have:=Gi f y fs; omega
 ·show RelO ((putF f y fs).lookup g) (if g=f then some u else mA g)
  rw [Z7]
  by_cases q:g=f
  ·rw [if_pos q,if_pos q]; exact ry
  ·rw [if_neg q,if_neg q]; exact r g
 ·by_cases q:g=f
  ·rw [q]; exact (Kj f y fs).1
  ·refine (Kj f y fs).2 g (wi g λz=>hg ?_)
   show (if g=f then some u else mA g)=none
   rw [if_neg q]; exact z
theorem Inv.made (I:Inv X pins σ H s):Inv X pins σ (upd (upd H s.heap.objs.size (.own (s.heap.objs.size + 1))) (s.heap.objs.size + 1) (.ins C s.heap.objs.size []))
  { s with heap:=(s.heap.push PySem.W.emptyDict).push (PySem.W.instObj C s.heap.objs.size) }:=by
 have e1:(s.heap.push PySem.W.emptyDict).get? s.heap.objs.size=some PySem.W.emptyDict:=Ap s.heap rfl
 have e2:((s.heap.push PySem.W.emptyDict).push (PySem.W.instObj C s.heap.objs.size)).get? (s.heap.objs.size + 1)=some (PySem.W.instObj C s.heap.objs.size):=by
  have:=Ap (s.heap.push PySem.W.emptyDict) (o:=PySem.W.instObj C s.heap.objs.size) rfl
  rwa [Heap.size_push] at this
 have e3:(s.heap.push PySem.W.emptyDict).Ns s.heap.objs.size (λ_=>none):=⟨PySem.W.emptyDict,#[],_,e1,rfl,(λe he=>absurd he (by simp)),λ_=>rfl⟩
 have I1:=I.laid (a:=s.heap.objs.size) (o:=.own (s.heap.objs.size + 1)) (h':=s.heap.push PySem.W.emptyDict) (t':=s.toks) (λb u q=>Ak _ q) (An _) ⟨_,e1⟩
 refine I1.laid (a:=s.heap.objs.size + 1) (o:=.ins C s.heap.objs.size []) (t':=s.toks) (λb u q=>Ak _ q) (Nat.le_of_eq (Heap.size_push _ _)) ?_
 have ne:s.heap.objs.size≠s.heap.objs.size + 1:=As (Nat.lt_succ_self _)
 refine ⟨by rw [Zd ne,Zc],Az _,ne,e2,λ_=>none,(Heap.Ns1.of_empty e3).at λo q=>Ak _ q,λ_=>True.intro,λy hy=>absurd rfl hy⟩
theorem Znp {prog:Program} {w:World} {env:Env} {e:Expr} {f:Str} {pos:Pos} {s:Shared} {Q:Value->Shared->Prop} (hb:attributeBase e f env (eval e env)=eval e env)
  (h:wpAny (model prog w) A (eval e env) (λo s₁=>wpAny (model prog w) A (getAttr o f true) Q E s₁) E s):wpAny (model prog w) A (eval (.Attribute e f pos) env) Q E s :=
 Attribute_any_ h (by rw [arm_eval_Attribute,hb])
end
noncomputable def tFld (K:W.Frag) (ta:TE) (f:Str):TE:=λσ H Q=>ta σ H λx H1=>∃ a C dx fs v,x=.ref a/\H1 a=some (.ins C dx fs)/\Cls K C/\Xk K C f/\fs.lookup f=some v/\Q v H1
noncomputable def sFld (K:W.Frag) (ta tv:TE) (f:Str):TS:=λD σ H=>tv σ H λy H1=>ta σ H1 λx H2=>∃ a C dx fs,x=.ref a/\H2 a=some (.ins C dx fs)/\Cls K C/\Xk K C f/\fs.length < 1000 /\
 D.nx σ (upd H2 a (.ins C dx (putF f y fs)))
section
variable {X:Cx} {o e value:Expr} {f:Str} {pos pos' tpos:Pos} {ta tv:TE}
theorem Y2 (he:PE X e ta) (hb:attributeBase e f X.env (eval e X.env)=eval e X.env):PE X (.Attribute e f pos) (tFld X.K ta f):=by
 intro pins s σ H Q I h
 refine Znp hb (thn (he pins s σ H _ I h) λu s1 zz9=>?_)
 obtain ⟨x,H1,I1,rx,a,C,dx,fs,v,ex,ea,c,n,l,q⟩:=zz9
 subst ex
 obtain rfl:u=Value.ref a:=rx
 exact Zg8 I1 ea c n l λu' s2 I2 ru=>⟨v,H1,I2,ru,q⟩
theorem Wb (ha:PE X o ta) (hv:PE X value tv) (hs:swapsWith value (some (.Attribute o f pos')) pos.line X.env=pure false):PS X (.Assign [.Attribute o f pos'] value pos) (sFld X.K ta tv f):=by
 intro pins s σ H D I h
 refine plainObj_wpAny_Assign_Attribute (thn (hv pins s σ H _ I h) λu s1 zz9=>?_) hs
 obtain ⟨y,H1,I1,ry,q⟩:=zz9
 refine thn (ha pins s1 σ H1 _ I1 q) λov s2 zz10=>?_
 obtain ⟨x,H2,I2,rx,a,C,dx,fs,ex,ea,c,n,l,q2⟩:=zz10
 subst ex
 obtain rfl:ov=Value.ref a:=rx
 exact Zgp I2 ea c n l ry λs3 I3=>⟨σ,_,I3,q2⟩
end
section
variable {X:Cx} {pins:List (Addr × Obj)} {σ:St} {H:Hp} {s:Shared} {A:Around} {E:Value->Shared->Prop} {Q:Value->Shared->Prop} {c:Value} {b:Bool}
inductive TyOf (K:W.Frag) (H:Hp):V->Value->Prop where
 | non:TyOf K H .non (.type "NoneType")
 | bl (x:Bool):TyOf K H (.bl x) (.type "bool")
 | int (i:Int):TyOf K H (.int i) (.type "int")
 | str (x:Str):TyOf K H (.str x) (.type "str")
 | flt (x:UInt64):TyOf K H (.flt x) (.type "float")
 | lst {a:Addr} {xs:List V} (e:H a=some (.lst xs)):TyOf K H (.ref a) (.type "list")
 | frz {a:Addr} {o:Obj} {xs:List V} (e:H a=some (.frz o (.lst xs))):TyOf K H (.ref a) (.type "list")
 | tup {a:Addr} {xs:List V} (e:H a=some (.tup xs)):TyOf K H (.ref a) (.type "tuple")
 | dK {a:Addr} {kvs:List (Key × V)} (e:H a=some (.dK kvs)):TyOf K H (.ref a) (.type "dict")
 | dT {a:Addr} {kvs:List (List Key × V)} (e:H a=some (.dT kvs)):TyOf K H (.ref a) (.type "dict")
 | ins {a C dx:Addr} {fs:List (Str × V)} (e:H a=some (.ins C dx fs)) (cl:Cls K C) (ha:PySem.W.findIn K (.ref C) "__class__"=some (some (.builtin "object.__class__")))
   (hn:PySem.W.specialIn K (.builtin "object.__class__") "__get__"=some (some (.builtin "getset_descriptor.__get__"))) (htk:PySem.W.takesIn K (.builtin "object.__class__")=some true)
   (hm:PySem.W.mroIn K C (.type "object")=some true):TyOf K H (.ref a) (.ref C)
theorem Zjf {x:V} {u t:Value} (I:Inv X pins σ H s) (rx:RelV x u) (ty:TyOf X.K H x t) (e:PySem.W.kitOne X.K t c=some b) (h:∀ tk,Q (.bool b) { s with toks:=tk }) :
  wpAny (model X.prog X.w) A (call (.builtin "isinstance") [u,c]) Q E s:=by
 cases ty with
 | non=>cases (show u=Value.none from rx); exact PySem.W.kia_one PySem.W.kitx_none I.kIn True.intro e (λz=>nomatch z) h
 | bl y=>cases (show u=Value.bool y from rx); exact PySem.W.kia_one PySem.W.kitx_bool I.kIn True.intro e (λz=>nomatch z) h
 | int i=>obtain ⟨t,q⟩:=(show ∃ t,u=Value.int i t from rx); cases q; exact PySem.W.kia_one PySem.W.kitx_int I.kIn True.intro e (λz=>nomatch z) h
 | str y=>obtain ⟨t,q⟩:=(show ∃ t,u=Value.str y t from rx); cases q; exact PySem.W.kia_one PySem.W.kitx_str I.kIn True.intro e (λz=>nomatch z) h
 | flt y=>obtain ⟨t,q⟩:=(show ∃ t,u=Value.float y t from rx); cases q; exact PySem.W.kia_one PySem.W.kitx_float I.kIn True.intro e (λz=>nomatch z) h
 | @lst a xs ea =>
  cases (show u=Value.ref a from rx)
  obtain ⟨_,_,n,_,h1⟩:=(show Yj X.prog X.w H s.heap a (.lst xs) from I.hok a _ ea)
  exact PySem.W.kia_one PySem.W.kitx_list I.kIn ⟨_,h1,rfl⟩ e (λz=>nomatch z) h
 | @frz a ob xs ea =>
  cases (show u=Value.ref a from rx)
  obtain ⟨_,_,_,n,_,h1⟩:=(show Yj X.prog X.w H s.heap a (.frz ob (.lst xs)) from I.hok a _ ea)
  exact PySem.W.kia_one PySem.W.kitx_list I.kIn ⟨_,h1,rfl⟩ e (λz=>nomatch z) h
 | @tup a xs ea =>
  cases (show u=Value.ref a from rx)
  obtain ⟨_,_,_,p⟩:=(show Yj X.prog X.w H s.heap a (.tup xs) from I.hok a _ ea)
  obtain ⟨o,h1,h2,_⟩:=p
  exact PySem.W.kia_one PySem.W.kitx_tuple I.kIn ⟨o,h1,h2⟩ e (λz=>nomatch z) h
 | @dK a kvs ea =>
  cases (show u=Value.ref a from rx)
  obtain ⟨_,_,vs,_,p⟩:=(show Yj X.prog X.w H s.heap a (.dK kvs) from I.hok a _ ea)
  obtain ⟨o,es,ep,h1,h2,_⟩:=p
  exact PySem.W.kia_one PySem.W.kitx_dict I.kIn ⟨o,h1,h2.1⟩ e (λz=>nomatch z) h
 | @dT a kvs ea =>
  cases (show u=Value.ref a from rx)
  obtain ⟨_,_,xs,_,o,es,ep,h1,h2,_⟩:=(show Yj X.prog X.w H s.heap a (.dT kvs) from I.hok a _ ea)
  exact PySem.W.kia_one PySem.W.kitx_dict I.kIn ⟨o,h1,h2.1⟩ e (λz=>nomatch z) h
 | @ins a C dx fs ea cl ha hn htk hm =>
  cases (show u=Value.ref a from rx)
  obtain ⟨mA,O,_⟩:=Ks I.hok ea
  obtain ⟨od,J,_⟩:=O.look
  exact PySem.W.kia_one (PySem.W.kitx_own (cl.get _) cl.hd ha hn htk hm) I.kIn J e (λz=>nomatch z) h
end
structure Room (k:Nat) (A:Around):Prop where
 hd:A.handled=none
 dp:A.depth + 3 * k + 5 < recursionLimit
 un:A.units + 16 * k + 200 < cLine
theorem Room.mono {j k:Nat} {A:Around} (r:Room k A) (h:j<=k):Room j A:=⟨r.hd,by have:=r.dp; omega,by have:=r.un; omega⟩
theorem Room.deeper {k:Nat} {A:Around} (r:Room (k + 1) A) (env:Env):Room k (A.deeper env) :=
 ⟨r.hd,by have:=r.dp; show A.depth + 1 + 3 * k + 5 < _; omega,by have:=r.un; show A.units + 3 + 16 * k + 200 < _; omega⟩
theorem Zg6 {A:Around} {C:Addr} {us:List Value} {kw:List (Str × Value)}:(A.under (.builtin "type.__call__" ⟨.ref C :: us,kw⟩)).depth=A.depth + 1:=by
 first | rfl | simp [Around.under,Code.weight,Code.isCreation,Code.isGuard,Code.isCaller,Code.frames,Code.isFrame,guardIds]
theorem Zg5 {A:Around} {C:Addr} {us:List Value} {kw:List (Str × Value)}:(A.under (.builtin "type.__call__" ⟨.ref C :: us,kw⟩)).units=A.units + 1:=by
 first | rfl | simp [Around.under,Code.cUnits,Code.frames,Code.isFrame]
theorem Room.make {k:Nat} {A:Around} (r:Room (k + 1) A) (C:Addr) (us:List Value) (kw:List (Str × Value)):Room k (A.under (.builtin "type.__call__" ⟨.ref C :: us,kw⟩)) :=
 ⟨r.hd,by have:=r.dp; rw [Zg6]; omega,by have:=r.un; rw [Zg5]; omega⟩
theorem Room.depth {k:Nat} {A:Around} (r:Room k A):A.depth < recursionLimit:=by have:=r.dp; omega
theorem Room.units {k:Nat} {A:Around} (r:Room k A):A.units + 64 < cLine:=by have:=r.un; omega
noncomputable def tNil:TA:=λ_ H Q=>Q [] H
noncomputable def Zpc (ta:TE) (tr:TA):TA:=λσ H Q=>ta σ H λx H1=>tr σ H1 λxs H2=>Q (x :: xs) H2
section
variable {X:Cx} {e:Expr} {es:List Expr} {te:TE} {t:TA} {pos:Pos}
theorem Zb:PA X [] tNil:=λ_ _ _ _ H Q I h=>Calls.spliced_nil ⟨[],H,I,.nil,h⟩
theorem Za (ha:PE X e te) (hr:PA X es t) (hs:starEach (e :: es) X.env=(false,eval e X.env) :: starEach es X.env:=by rfl):PA X (e :: es) (Zpc te t):=by
 intro pos pins s σ H Q I h
 rw [hs]
 show wpAny _ _ (spliced ((false,eval e X.env) :: backTo pos (starEach es X.env))) _ _ s
 refine Calls.spliced_cons (thn (ha pins s σ H _ I h) λu s1 zz9=>?_)
 obtain ⟨x,H1,I1,r1,q1⟩:=zz9
 refine thn (hr pos pins s1 σ H1 _ I1 q1) λus s2 zz11=>?_
 obtain ⟨xs,H2,I2,r2,q2⟩:=zz11
 exact ⟨x :: xs,H2,I2,.cons r1 r2,q2⟩
noncomputable def tTup (t:TA):TE:=λσ H Q=>t σ H λxs H1=>xs.length<=sizeLine/\∀ p,H1 p=none->Q (.ref p) (upd H1 p (.tup xs))
noncomputable def tLst (t:TA):TE:=λσ H Q=>t σ H λxs H1=>xs.length<=sizeLine/\∀ p,H1 p=none->Q (.ref p) (upd H1 p (.lst xs))
theorem Xa {x1} (h:PA X es t):PE X (.Tuple es x1 pos) (tTup t):=by
 intro pins s σ H Q I hq
 refine wpAny_Tuple_spliced (thn (h pos pins s σ H _ I hq) λus s1 zz7=>?_)
 obtain ⟨xs,H1,I1,r,z,q⟩:=zz7
 refine ⟨by rw [<- r.length]; exact z,?_⟩
 have hf:H1 s1.heap.objs.size=none:=I1.hok.fresh (An _)
 refine ⟨.ref s1.heap.objs.size,upd H1 s1.heap.objs.size (.tup xs),I1.laid (t':=s1.toks) (λb u e=>Ak _ e) (An _) ?_,rfl,q _ hf⟩
 exact ⟨z,us,r,⟨_,Ap _ rfl,rfl,_,rfl⟩⟩
theorem Yo (h:PA X es t):PE X (.List es pos) (tLst t):=by
 intro pins s σ H Q I hq
 refine wpAny_List_spliced (thn (h pos pins s σ H _ I hq) λus s1 zz7=>?_)
 obtain ⟨xs,H1,I1,r,z,q⟩:=zz7
 refine ⟨by rw [<- r.length]; exact z,?_⟩
 have hf:H1 s1.heap.objs.size=none:=I1.hok.fresh (An _)
 refine ⟨.ref s1.heap.objs.size,upd H1 s1.heap.objs.size (.lst xs),I1.laid (t':=s1.toks) (λb u e=>Ak _ e) (An _) ?_,rfl,q _ hf⟩
 exact ⟨z,us,0,r,Ap _ rfl⟩
end
noncomputable abbrev Sp:=List V->Hp->VK->XK->Prop
noncomputable abbrev CXT:=List Env->Hp->Shared->XK->Value->Shared->Prop
structure Env0 (P:Program) (w:World) (K:W.Frag) (mg:Str->Option Value) (base:Heap) (A:Around) (outer:List Env) (s:Shared) (H:Hp):Prop where
 frames:A.frames=some outer
 mod:Mod K mg base
 bs:∀ b o,base.get? b=some o->s.heap.get? b=some o/\H b=none
 bsz:base.objs.size<=s.heap.objs.size
 funs:s.heap.FunFrames base outer
 frf:∀ b∈frs outer,H b=none
 hok:HOk P w H s.heap
 bare:AllBare s.gens
noncomputable def CE (outer:List Env) (P:Program) (w:World) (H:Hp) (s:Shared) (Q:VK) (u:Value) (s':Shared):Prop :=
 ∃ v H',s'.os=s.os/\AllBare s'.gens/\Un (frs outer) [] H H' s.heap s'.heap/\HOk P w H' s'.heap/\RelV v u/\Q v H'
noncomputable def CR (CX:CXT) (outer:List Env) (P:Program) (w:World) (H:Hp) (s:Shared) (Q:VK) (E:XK) (r:Result) (s':Shared):Prop :=
 match r with
 | .ok (.ret u)=>CE outer P w H s Q u s'
 | .ok _=>False
 | .error e=>CX outer H s E e s'
structure FnOk (P:Program) (w:World) (K:W.Frag) (mg:Str->Option Value) (base:Heap) (CX:CXT) (k:Nat) (f:Addr) (fd:FuncData) (ps:List Str) (sp:Sp):Prop where
 len:∀ vs H Q E,sp vs H Q E->vs.length=ps.length
 run:∀ (A:Around) (outer:List Env) (s:Shared) (H:Hp) (args:Args) (us:List Value) (vs:List V) (Q:VK) (E:XK),Room k A->Env0 P w K mg base A outer s H->BindsTo s fd args (ps.zip us)->Vals vs us->sp vs H Q E ->
  codeAny (model P w) A (.call (.ref f) args) (CR CX outer P w H s Q E) s
theorem Env0.make {P:Program} {w:World} {K:W.Frag} {mg:Str->Option Value} {base:Heap} {A:Around} {outer:List Env} {s:Shared} {H:Hp} (e:Env0 P w K mg base A outer s H) (C:Addr) (us:List Value) (kw:List (Str × Value)) :
  Env0 P w K mg base (A.under (.builtin "type.__call__" ⟨.ref C :: us,kw⟩)) outer s H:=⟨by first | exact e.frames | (simpa [Around.under,Code.envs,Code.isFrame,pushEnvs] using e.frames),e.mod,e.bs,e.bsz,e.funs,e.frf,e.hok,e.bare⟩
section
variable {X:Cx} {pins:List (Addr × Obj)} {σ:St} {H:Hp} {s s':Shared}
theorem Inv.env0 (I:Inv X pins σ H s):Env0 X.prog X.w X.K X.mg X.base X.A X.stack s H :=
 ⟨I.ok.frames,I.ok.mod,I.bs,Nat.le_trans I.ok.bsz I.sz,I.stack,I.stkFree,I.hok,I.bare⟩
theorem Inv.after {Q:VK} {u:Value} (I:Inv X pins σ H s) (h:CE X.stack X.prog X.w H s Q u s'):EP X pins σ Q u s':=by
 obtain ⟨v,H',os,bare,un,hok,r,q⟩:=h
 obtain ⟨hh,g,d,t,os'⟩:=s'
 obtain rfl:os'=s.os:=os
 exact ⟨v,H',I.call (h':=hh) (g':=g) (d':=d) (t':=t) (ch:=[]) un hok bare (λb z=>absurd z (by simp)),r,q⟩
end
noncomputable def Zlt (sp:Sp) (dvs:List V) (E:XK) (t:TA):TE:=λσ H Q=>t σ H λvs H1=>sp (vs ++ dvs) H1 Q E
noncomputable def Zlr (C:Addr) (m:Str) (sp:Sp) (dvs:List V) (E:XK) (ta:TE) (t:TA):TE:=λσ H Q=>ta σ H λx H1=>∃ a dx fs,x=.ref a/\H1 a=some (.ins C dx fs)/\fs.lookup m=none /\
 t σ H1 λvs H2=>sp (x :: (vs ++ dvs)) H2 Q E
noncomputable def Zo7 (C:Addr) (sp:Sp) (dvs:List V) (E:XK) (t:TA):TE:=λσ H Q=>t σ H λvs H1=>∀ x dx,H1 x=none->H1 dx=none->dx≠x ->
 sp (.ref x :: (vs ++ dvs)) (upd (upd H1 dx (.own x)) x (.ins C dx [])) (λv H2=>v=.non/\Q (.ref x) H2) E
noncomputable def Wy (K:W.Frag) (fd:FuncData) (ps:List Str) (ds:List Value):Prop :=
 ∀ (s:Shared) (us:List Value),K.In s.heap->(us ++ ds).length=ps.length->BindsTo s fd ⟨us,[]⟩ (ps.zip (us ++ ds))
theorem Wy.all {K:W.Frag} {fd:FuncData} {ps:List Str} (h:∀ us:List Value,us.length=ps.length->bindArgs fd ⟨us,[]⟩=pure (ps.zip us)):Wy K fd ps []:=λs us _ hl=>by
 rw [List.append_nil] at hl ⊢
 exact .of_eq (h us hl)
noncomputable def V2 (CX:CXT) (X:Cx) (E:XK):Prop:=∀ (pins:List (Addr × Obj)) (σ:St) (H:Hp) (s:Shared) (e:Value) (s':Shared),Inv X pins σ H s->CX X.stack H s E e s'->X.xe e s'
section
variable {X:Cx} {CX:CXT} {k:Nat} {f C:Addr} {fd:FuncData} {ps:List Str} {sp:Sp} {dvs:List V} {ds:List Value} {E:XK} {x m:Str} {p pos apos:Pos} {e o:Expr} {es:List Expr} {ta:TE} {t:TA}
theorem Zdv {pins:List (Addr × Obj)} {σ:St} {H:Hp} {s:Shared} {Q:VK} {us:List Value} {vs:List V} (F:FnOk X.prog X.w X.K X.mg X.base CX k f fd ps sp) (hr:Room k X.A) (hb:Wy X.K fd ps ds) (hd:Vals dvs ds) (hx:V2 CX X E)
  (I:Inv X pins σ H s) (r:Vals vs us) (h:sp (vs ++ dvs) H Q E):wpAny (model X.prog X.w) X.A (call (.ref f) us) (EP X pins σ Q) X.xe s:=by
 have r2:Vals (vs ++ dvs) (us ++ ds):=r.append hd
 have hl:(us ++ ds).length=ps.length:=by rw [<- r2.length]; exact F.len _ _ _ _ h
 refine wpAny_call (codeAny_mono (F.run X.A X.stack s H ⟨us,[]⟩ (us ++ ds) (vs ++ dvs) Q E hr I.env0 (hb s us I.kIn hl) r2 h) λr s' hq=>?_)
 cases r with
 | error e=>exact hx pins σ H s e s' I hq
 | ok fl =>
  cases fl with
  | ret u=>exact I.after hq
  | next=>exact False.elim hq
  | brk=>exact False.elim hq
  | cont=>exact False.elim hq
theorem Zm0 (F:FnOk X.prog X.w X.K X.mg X.base CX k f fd ps sp) (hr:Room k X.A) (hg:Gl X x) (hm:X.mg x=some (.ref f)) (hk:PySem.W.keepIn X.K (.ref f)=true) (hb:Wy X.K fd ps ds) (hd:Vals dvs ds) (hx:V2 CX X E)
  (ha:PA X (e :: es) t) (hdb:(x == ("__debug__":Str))=false:=by decide) (he:starEach (e :: es) X.env=(false,eval e X.env) :: starEach es X.env:=by rfl) (hpl:(backTo pos (starEach es X.env)).any (·.1)=false:=by rfl) :
  PE X (.Call (.Name x p) (e :: es) [] pos) (Zlt sp dvs E t):=by
 intro pins s σ H Q I h
 refine wpAny_Call_Name_kw (Vi I hg hm ?_ hdb)
 refine PySem.W.callWith_K (h₀:=X.base) I.ok.mod.kin hk (thn (ha pos pins s σ H _ I h) λus s1 zz12=>?_) he hpl
 obtain ⟨vs,H1,I1,r,q⟩:=zz12
 refine ⟨I1.kIn,?_⟩
 exact Zdv F hr hb hd hx I1 r q
theorem Xz {pl:Sem Bool} (he:PE X o ta) (c:Cls X.K C) (hm:Meth X.K C m f) (F:FnOk X.prog X.w X.K X.mg X.base CX k f fd ps sp) (hr:Room k X.A) (hb:Wy X.K fd ps ds) (hd:Vals dvs ds) (hx:V2 CX X E) (ha:PA X (e :: es) t)
  (hst:starEach (e :: es) X.env=(false,eval e X.env) :: starEach es X.env:=by rfl) (hpl:(backTo pos (starEach es X.env)).any (·.1)=false:=by rfl)
  (ht:eval (.Call (.Attribute o m apos) (e :: es) [] pos) X.env=(do
   let ov <- eval o X.env
   standAt apos.atName
   let (f,first) <- holding [ov] (getMethod ov m pl)
   callWith pos f first (backTo pos (starEach (e :: es) X.env)) (backToKw pos (keywordEach [] X.env))):=by rfl) :
  PE X (.Call (.Attribute o m apos) (e :: es) [] pos) (Zlr C m sp dvs E ta t):=by
 intro pins s σ H Q I h
 refine PySem.W.methodCall_KW (pl:=pl) (thn (he pins s σ H _ I h) λu s1 zz13=>?_) ht
 obtain ⟨x,H1,I1,rx,a,dx,fs,ex,ea,l,q⟩:=zz13
 subst ex
 obtain rfl:u=Value.ref a:=rx
 refine Of I1 ea c hm l ?_
 refine PySem.W.callWith_K (first:=[.ref a]) (h₀:=X.base) I.ok.mod.kin hm.kp (thn (ha pos pins s1 σ H1 _ I1 q) λus s2 zz14=>?_) hst hpl
 obtain ⟨vs,H2,I2,r,q2⟩:=zz14
 refine ⟨I2.kIn,?_⟩
 exact Zdv (us:=.ref a :: us) (vs:=.ref a :: vs) F hr hb hd hx I2 (.cons rfl r) q2
theorem Qn {pl:Sem Bool} (he:PE X o ta) (c:Cls X.K C) (hm:Meth X.K C m f) (F:FnOk X.prog X.w X.K X.mg X.base CX k f fd ps sp) (hr:Room k X.A) (hb:Wy X.K fd ps ds) (hd:Vals dvs ds) (hx:V2 CX X E)
  (ht:eval (.Call (.Attribute o m apos) [] [] pos) X.env=(do
   let ov <- eval o X.env
   standAt apos.atName
   let (f,first) <- holding [ov] (getMethod ov m pl)
   callWith pos f first (backTo pos (starEach [] X.env)) (backToKw pos (keywordEach [] X.env))):=by rfl) :
  PE X (.Call (.Attribute o m apos) [] [] pos) (Zlr C m sp dvs E ta tNil):=by
 intro pins s σ H Q I h
 refine PySem.W.methodCall_KW (pl:=pl) (thn (he pins s σ H _ I h) λu s1 zz15=>?_) ht
 obtain ⟨x,H1,I1,rx,a,dx,fs,ex,ea,l,q⟩:=zz15
 subst ex
 obtain rfl:u=Value.ref a:=rx
 refine Of I1 ea c hm l ?_
 exact PySem.W.callWith_K0 (first:=[.ref a]) I1.kIn hm.kp (Zdv (us:=[.ref a]) (vs:=[.ref a]) F hr hb hd hx I1 (.cons rfl .nil) q)
structure Mk (K:W.Frag) (C f:Addr):Prop where
 makes:PySem.W.makesIn K C=true
 init:PySem.W.findIn K (.ref C) "__init__"=some (some (.ref f))
 fn:PySem.W.isFn K (.ref f)=true
 kp:PySem.W.keepIn K (.ref C)=true
theorem Zkn {pins:List (Addr × Obj)} {σ:St} {H:Hp} {s:Shared} {Q:VK} {us:List Value} {vs:List V} (M:Mk X.K C f) (F:FnOk X.prog X.w X.K X.mg X.base CX k f fd ps sp) (hr:Room (k + 1) X.A) (hb:Wy X.K fd ps ds) (hd:Vals dvs ds)
  (hx:V2 CX X E) (I:Inv X pins σ H s) (r:Vals vs us)
  (h:∀ x dx,H x=none->H dx=none->dx≠x->sp (.ref x :: (vs ++ dvs)) (upd (upd H dx (.own x)) x (.ins C dx [])) (λv H2=>v=.non/\Q (.ref x) H2) E) :
  wpAny (model X.prog X.w) X.A (call (.ref C) us) (EP X pins σ Q) X.xe s:=by
 have hq:=h (s.heap.objs.size + 1) s.heap.objs.size (I.hok.fresh (Nat.le_succ _)) (I.hok.fresh (An _)) (As (Nat.lt_succ_self _))
 have I2:=Inv.made (C:=C) I
 have r2:Vals (V.ref (s.heap.objs.size + 1) :: (vs ++ dvs)) (Value.ref (s.heap.objs.size + 1) :: (us ++ ds)):=.cons rfl (r.append hd)
 have hl:(Value.ref (s.heap.objs.size + 1) :: us ++ ds).length=ps.length:=by
  have e:=r2.length
  rw [F.len _ _ _ _ hq] at e
  exact e.symm
 refine wpAny_call (Zk8 (f:=f) I.kIn M.makes M.init (beq_iff_eq.mp M.fn) (codeAny_mono (F.run _ X.stack _ _ ⟨Value.ref (s.heap.objs.size + 1) :: us,[]⟩ (Value.ref (s.heap.objs.size + 1) :: (us ++ ds)) _ _ E (hr.make C us [])
  (I2.env0.make C us []) (hb _ (Value.ref (s.heap.objs.size + 1) :: us) I2.kIn hl) r2 hq) λr s' hq'=>?_))
 cases r with
 | error e=>exact hx pins σ _ _ e s' I2 hq'
 | ok fl =>
  cases fl with
  | ret u =>
   obtain ⟨v,H',I3,rv,ev,q3⟩:=I2.after hq'
   subst ev
   exact ⟨rv,⟨V.ref (s.heap.objs.size + 1),H',I3,rfl,q3⟩⟩
  | next=>exact False.elim hq'
  | brk=>exact False.elim hq'
  | cont=>exact False.elim hq'
theorem Qo (M:Mk X.K C f) (F:FnOk X.prog X.w X.K X.mg X.base CX k f fd ps sp) (hr:Room (k + 1) X.A) (hg:Gl X x) (hm:X.mg x=some (.ref C)) (hb:Wy X.K fd ps ds) (hd:Vals dvs ds) (hx:V2 CX X E)
  (ha:PA X (e :: es) t) (hdb:(x == ("__debug__":Str))=false:=by decide) (he:starEach (e :: es) X.env=(false,eval e X.env) :: starEach es X.env:=by rfl) (hpl:(backTo pos (starEach es X.env)).any (·.1)=false:=by rfl) :
  PE X (.Call (.Name x p) (e :: es) [] pos) (Zo7 C sp dvs E t):=by
 intro pins s σ H Q I h
 refine wpAny_Call_Name_kw (Vi I hg hm ?_ hdb)
 refine PySem.W.callWith_K (h₀:=X.base) I.ok.mod.kin M.kp (thn (ha pos pins s σ H _ I h) λus s1 zz16=>?_) he hpl
 obtain ⟨vs,H1,I1,r,q⟩:=zz16
 refine ⟨I1.kIn,?_⟩
 exact Zkn M F hr hb hd hx I1 r q
end
structure FnScope (N P:List Str) (sc:Scope):Prop where
 kind:sc.kind=.function
 co:sc.isCoroutine=false
 gen:sc.isGenerator=false
 nd:N.Nodup
 pre:N.take P.length=P
 par:∀ x∈P,sc.names.lookup x=some .local\/sc.names.lookup x=some .cell
 nofree:∀ y∈sc.names,y.2≠.free
theorem Am{N P:List Str}{sc:Scope}(a:sc.kind=.function:=by rfl)(b:sc.isCoroutine=false:=by rfl)(c:sc.isGenerator=false:=by rfl)(d:N.Nodup:=by decide +kernel)(e:N.take P.length=P:=by rfl)(f:∀ x∈P,sc.names.lookup x=some .local\/sc.names.lookup x=some .cell:=by decide +kernel)(g:∀ y∈sc.names,y.2≠.free:=by decide +kernel):FnScope N P sc:=⟨a,b,c,d,e,f,g⟩
theorem Zby {kindOf:Str->Option NameKind} {x:Str}:∀ {binds:List (Str × Value)} {m:Str->Option Value},(∀ v,(x,v) ∉ binds)->bindL kindOf binds m x=m x
 | [],_,_=>rfl
 | (n,v) :: r,m,h=>by
  unfold bindL
  rw [Zby λw hw=>h w (List.mem_cons_of_mem _ hw)]
  split
  ·have:x≠n:=by rintro rfl; exact h v List.mem_cons_self
   simp [this]
  ·rfl
theorem Zb0 {kindOf:Str->Option NameKind} {x:Str}:∀ {binds:List (Str × Value)} {m:Str->Option Value},(∀ v,(x,v) ∉ binds)->bindC kindOf binds m x=m x
 | [],_,_=>rfl
 | (n,v) :: r,m,h=>by
  unfold bindC
  rw [Zb0 λw hw=>h w (List.mem_cons_of_mem _ hw)]
  split
  ·rfl
  ·have:x≠n:=by rintro rfl; exact h v List.mem_cons_self
   simp [this]
theorem Zbz {kindOf:Str->Option NameKind} {x:Str} {v:Value}:∀ {P:List Str} {vs:List Value} {i:Nat} {m:Str->Option Value},P.Nodup->P[i]?=some x->vs[i]?=some v->kindOf x=some .local ->
  bindL kindOf (P.zip vs) m x=some v
 | [],_,_,_,_,h,_,_=>by simp at h
 | _ :: _,[],_,_,_,_,h,_=>by simp at h
 | p :: P,w :: vs,0,m,nd,h1,h2,hk=>by
  simp at h1 h2; subst h1; subst h2
  show bindL kindOf ((p,w) :: P.zip vs) m p=_
  unfold bindL
  rw [Zby λv hv=>(List.nodup_cons.mp nd).1 (List.of_mem_zip hv).1,if_pos hk]
  simp
 | p :: P,w :: vs,i + 1,m,nd,h1,h2,hk=>by
  show bindL kindOf ((p,w) :: P.zip vs) m x=_
  unfold bindL
  exact Zbz (i:=i) (List.nodup_cons.mp nd).2 (by simpa using h1) (by simpa using h2) hk
theorem Zb1 {kindOf:Str->Option NameKind} {x:Str} {v:Value}:∀ {P:List Str} {vs:List Value} {i:Nat} {m:Str->Option Value},P.Nodup->P[i]?=some x->vs[i]?=some v->kindOf x≠some .local ->
  bindC kindOf (P.zip vs) m x=some v
 | [],_,_,_,_,h,_,_=>by simp at h
 | _ :: _,[],_,_,_,_,h,_=>by simp at h
 | p :: P,w :: vs,0,m,nd,h1,h2,hk=>by
  simp at h1 h2; subst h1; subst h2
  show bindC kindOf ((p,w) :: P.zip vs) m p=_
  unfold bindC
  rw [Zb0 λv hv=>(List.nodup_cons.mp nd).1 (List.of_mem_zip hv).1,if_neg hk]
  simp
 | p :: P,w :: vs,i + 1,m,nd,h1,h2,hk=>by
  show bindC kindOf ((p,w) :: P.zip vs) m x=_
  unfold bindC
  exact Zb1 (i:=i) (List.nodup_cons.mp nd).2 (by simpa using h1) (by simpa using h2) hk
noncomputable def start (N:List Str) (vs:List V):St:=vs.map some ++ List.replicate (N.length - vs.length) none
noncomputable def cxOf (CX:CXT) (P:Program) (w:World) (K:W.Frag) (mg:Str->Option Value) (base:Heap) (N:List Str) (qual:Str) (scope:Scope) (f:Addr) (cd:Value) (A:Around) (outer:List Env) (s:Shared) (H:Hp) (E:XK):Cx where
 prog:=P
 w:=w
 K:=K
 mg:=mg
 base:=base
 A:=A.deeper (envOfC qual scope s.heap.objs.size f cd)
 N:=N
 s₀:=s
 H₀:=H
 env:=envOfC qual scope s.heap.objs.size f cd
 outer:=outer
 stack:=envOfC qual scope s.heap.objs.size f cd :: outer
 ex:=[]
 calm:=true
 fn:=λ_=>true
 pn:=[]
 xe:=λe s'=>wpAny (model P w) (A.deeper (envOfC qual scope s.heap.objs.size f cd)) (leaving (envOfC qual scope s.heap.objs.size f cd) e) (λ_ s''=>CX outer H s E e s'') (λe' s''=>CX outer H s E e' s'') s'
theorem Zen {sc:Scope} {n:Nat} {x:Str} (h:sc.names.lookup x=some .cell):∃ c,(cellsFrom n sc.names []).lookup x=some c:=by
 have q:=PySem.W.cellsFrom_some sc.names n [] (.inl h)
 exact Option.isSome_iff_exists.mp q
theorem Zjg {CX:CXT} {P:Program} {w:World} {K:W.Frag} {mg:Str->Option Value} {base:Heap} {N ps:List Str} {qual:Str} {scope:Scope} {f:Addr} {cd:Value} {A:Around} {outer:List Env} {s s1:Shared} {H:Hp} {E:XK} {us:List Value} {vs:List V}
  (S:FnScope N ps scope) (hd:A.handled=none) (e0:Env0 P w K mg base A outer s H) (hl:vs.length=ps.length) (r:Vals vs us)
  (x:InCallC s s.heap.objs.size (bindL (envOfC qual scope s.heap.objs.size f cd).kindOf (ps.zip us) λ_=>none) (cellsFrom (s.heap.objs.size + 1) scope.names []) (bindC (envOfC qual scope s.heap.objs.size f cd).kindOf (ps.zip us) λ_=>none) s1) :
  Inv (cxOf CX P w K mg base N qual scope f cd A outer s H E) [] (start N vs) H s1:=by
 have hpl:ps.length<=N.length:=by have:=congrArg List.length S.pre; rw [Ai] at this; omega
 obtain ⟨h1,tk,rfl,hk⟩:=x.done
 have noA:∀ b:Addr,b ∉ (cxOf CX P w K mg base N qual scope f cd A outer s H E).ex:=λb z=>absurd (show b∈([]:List Addr) from z) (by simp)
 refine ⟨⟨e0.mod,S.kind,rfl,rfl,An _,λy z c h1 h2=>?_,λy hy=>?_,λy c _ h=>?_,λ_=>hd,Around.frames_deeper e0.frames,.inr ⟨rfl,rfl⟩,λb z=>absurd z (noA b),e0.bs,e0.bsz,λb _ _=>noA b,λb z=>absurd z (noA b),e0.funs,e0.frf⟩,
  rfl,e0.bare,Un.kept hk,⟨_,x.toInCall.ns,λi y v h1 h2 h3=>?_⟩,λy c h=>⟨_,x.cell y c h⟩,e0.hok.fresh (An _),λy c h=>?_,λp hp=>absurd (show p∈([]:List (Addr × Obj)) from hp) (by simp),e0.hok.kept hk,?_⟩
 ·exact name_of_addr x.apart (PySem.mem_of_lookup h1) (PySem.mem_of_lookup h2)
 ·have hy:scope.names.lookup y=some .cell\/scope.names.lookup y=some .free:=hy
  rcases hy with hy | hy
  ·exact Zen hy
  ·exact absurd rfl (S.nofree _ (PySem.mem_of_lookup hy))
 ·exact Nat.le_of_lt (x.above y c (PySem.mem_of_lookup h))
 ·have hi:i < vs.length:=by
   unfold start at h2
   by_cases hi:i < vs.length
   ·exact hi
   ·rw [List.getElem?_append_right (by simpa using hi)] at h2
    rw [List.getElem?_replicate] at h2
    split at h2 <;> cases h2
  have ha:vs[i]?=some v:=by
   unfold start at h2
   rw [Av (by simpa using hi),Ah] at h2
   cases e:vs[i]? with
   | none=>rw [e] at h2; cases h2
   | some a=>rw [e] at h2; cases h2; rfl
  obtain ⟨u,hu,rv⟩:=r.get ha
  have hp:ps[i]?=some y:=by
   rw [<- S.pre,List.getElem?_take_of_lt (by omega)]; exact h1
  have ndP:ps.Nodup:=by rw [<- S.pre]; exact S.nd.sublist (List.take_sublist _ _)
  refine ⟨u,rv,?_⟩
  rcases S.par y (Au hp) with k | k
  ·exact .inl ⟨k,Zbz ndP hp hu k⟩
  ·obtain ⟨c,e⟩:=Zen (n:=s.heap.objs.size + 1) k
   refine .inr ⟨.inl k,c,e,?_⟩
   have q:=x.cell y c e
   rw [Zb1 ndP hp hu (by show scope.names.lookup y≠_; rw [k]; decide)] at q
   exact q
 ·exact e0.hok.fresh (Nat.le_of_lt (x.above y c (PySem.mem_of_lookup h)))
 ·unfold start
  show _=N.length
  rw [Ae,Ab,List.length_replicate]
  omega
theorem Zhb {CX:CXT} {P:Program} {w:World} {K:W.Frag} {mg:Str->Option Value} {base:Heap} {k:Nat} {f:Addr} {name qual:Str} {params:Arguments} {body:List Stmt} {scope:Scope} {dV kV doc pm cdv ct oc:Value} {an od:Option Addr}
  {osl:Array (Option Value)} {N ps:List Str} {sp:Sp} (lk:K.lookup f=some ⟨oc,od,.func (PySem.W.fnOf name qual params body scope dV kV doc pm an cdv ct),osl⟩) (hcd:PySem.W.codeIn K cdv qual=true) (S:FnScope N ps scope)
  (len:∀ vs H Q E,sp vs H Q E->vs.length=ps.length)
  (hbody:∀ (A:Around) (outer:List Env) (s:Shared) (H:Hp) (vs:List V) (Q:VK) (E:XK),Room k (A.deeper (envOfC qual scope s.heap.objs.size f cdv))->sp vs H Q E ->
   ∃ t,PSs (cxOf CX P w K mg base N qual scope f cdv A outer s H E) body t/\t { nx:=λ_ H'=>Q .non H',rt:=Q } (start N vs) H) :
  FnOk P w K mg base CX (k + 1) f (PySem.W.fnOf name qual params body scope dV kV doc pm an cdv ct) ps sp:=by
 refine ⟨len,λA outer s H args us vs Q E hr e0 hb r hsp=>?_⟩
 have hl:=len _ _ _ _ hsp
 have KX:K.In s.heap:=e0.mod.kin.keeps λb o e=>(e0.bs b o e).1
 have lim:s.heap.NoLimit:=e0.mod.nolimit.keeps λb o e=>(e0.bs b o e).1
 have hkind:∀ y∈ps.zip us,scope.names.lookup y.1=some .local\/(scope.names.lookup y.1=some .cell/\((cellsFrom (s.heap.objs.size + 1) scope.names []).lookup y.1).isSome=true):=λ⟨n,v⟩ hy=>by
  rcases S.par n (List.of_mem_zip hy).1 with q | q
  ·exact .inl q
  ·exact .inr ⟨q,PySem.W.cellsFrom_some _ _ _ (.inl q)⟩
 refine codeAny_call_function hr.depth (KX _ _ lk) rfl S.co S.gen rfl (PySem.W.codeRec_of KX hcd) (hb _ _ _ _ ?_)
 refine wpAny_newFunctionEnv_cells S.kind hkind λenv he s1 x=>?_
 subst he
 refine ⟨lim.keeps x.toInCall.keep,codeAny_func ?_⟩
 obtain ⟨t,ht,hq⟩:=hbody A outer s H vs Q E (hr.deeper _) hsp
 have I:Inv (cxOf CX P w K mg base N qual scope f cdv A outer s H E) [] (start N vs) H s1:=Zjg S hr.hd e0 hl r x
 refine wpAny_mono (ht [] s1 (start N vs) H _ I hq) (λfl s' hs=>?_) λe s' hs=>hs
 have fin:∀ {σ':St} {H':Hp} {v:V} {u:Value},Inv (cxOf CX P w K mg base N qual scope f cdv A outer s H E) [] σ' H' s'->RelV v u->Q v H'->CE outer P w H s Q u s' :=
  λ{σ' H' v u} J rv q=>⟨v,H',J.os,J.bare,J.base,J.hok,rv,q⟩
 cases fl with
 | ret u =>
  obtain ⟨v,σ',H',J,rv,q⟩:=hs
  exact fin J rv q
 | next =>
  obtain ⟨σ',H',J,q⟩:=hs
  exact fin (v:=V.non) (u:=Value.none) J rfl q
 | brk =>
  obtain ⟨_,_,_,q⟩:=hs
  exact False.elim q
 | cont =>
  obtain ⟨_,_,_,q⟩:=hs
  exact False.elim q
section
variable {X:Cx} {x:Str} {p pos:Pos} {e:Expr} {es:List Expr} {t:TA} {id T:String} {r:List V->Hp->VK->Prop}
noncomputable def tCB (r:List V->Hp->VK->Prop) (t:TA):TE:=λσ H Q=>t σ H λvs H1=>r vs H1 Q
theorem Zo (hc:Xu X (.builtin id) r) (hg:Gl X x) (hm:X.mg x=none) (hv:bootBuiltins x=some (.builtin id)) (ha:PA X (e :: es) t) (hn:x≠"__name__":=by decide) (hdb:(x == ("__debug__":Str))=false:=by decide)
  (he:starEach (e :: es) X.env=(false,eval e X.env) :: starEach es X.env:=by rfl) (hpl:(backTo pos (starEach es X.env)).any (·.1)=false:=by rfl):PE X (.Call (.Name x p) (e :: es) [] pos) (tCB r t):=by
 intro pins s σ H Q I h
 refine wpAny_Call_Name_kw (Wf I hg hm hv ?_ hn hdb)
 refine PyProof.Rows.callWith_builtin1 (thn (ha pos pins s σ H _ I h) λus s1 zz17=>?_) he hpl
 obtain ⟨vs,H1,I1,r1,q1⟩:=zz17
 exact hc pins s1 σ H1 vs us Q I1 r1 q1
theorem Yb (hc:Xu X (.type T) r) (hg:Gl X x) (hm:X.mg x=none) (hv:bootBuiltins x=some (.type T)) (ha:PA X (e :: es) t) (hn:x≠"__name__":=by decide) (hdb:(x == ("__debug__":Str))=false:=by decide)
  (he:starEach (e :: es) X.env=(false,eval e X.env) :: starEach es X.env:=by rfl) (hpl:(backTo pos (starEach es X.env)).any (·.1)=false:=by rfl):PE X (.Call (.Name x p) (e :: es) [] pos) (tCB r t):=by
 intro pins s σ H Q I h
 refine wpAny_Call_Name_kw (Wf I hg hm hv ?_ hn hdb)
 refine PyProof.Rows.callWith_type1 (thn (ha pos pins s σ H _ I h) λus s1 zz18=>?_) he hpl
 obtain ⟨vs,H1,I1,r1,q1⟩:=zz18
 exact hc pins s1 σ H1 vs us Q I1 r1 q1
end
end L2
namespace HT
open PySem PyProof.Rows
section
variable {prog:Program} {w:World} {A:Around} {E:Value->Shared->Prop} {s:Shared}
noncomputable def sIx (n d:Nat):Option Int->Nat
 | none=>d
 | some v=>if v < 0 then (v + (n:Int)).toNat else min v.toNat n
theorem sIx_none (n d:Nat):sIx n d none=d:=rfl
theorem sIx_nat (n d k:Nat):sIx n d (some (k:Int))=min k n:=by
 show (if (k:Int) < 0 then ((k:Int) + (n:Int)).toNat else min (k:Int).toNat n)=min k n
 rw [if_neg (by omega),Int.toNat_natCast]
end
end HT
namespace L2
open PySem PySem.Spec PyProof.Rows
noncomputable abbrev TO:=St->Hp->(Option Int->Hp->Prop)->Prop
noncomputable def PO (X:Cx) (e:Option Expr) (t:TO):Prop :=
 ∀ (pins:List (Addr × Obj)) (s:Shared) (σ:St) (H:Hp) (Q:Option Int->Hp->Prop),Inv X pins σ H s->t σ H Q ->
  wpAny (model X.prog X.w) X.A (evalPart e X.env) (λu s'=>∃ o H',Inv X pins σ H' s'/\IsPart u o/\Q o H') X.xe s
noncomputable def Zl7:TO:=λ_ H Q=>Q none H
noncomputable def Zo5 (t:TE):TO:=λσ H Q=>t σ H λx H1=>∃ i,x=.int i/\Q (some i) H1
theorem F3 {ns:List Int}:∀ {us:List Value},Vals (ns.map V.int) us->IntsAre us ns:=by
 induction ns with
 | nil=>intro us r; rw [List.map_nil] at r; cases r; exact .nil
 | cons n ns ih =>
  intro us r
  rw [List.map_cons] at r
  cases r with
  | cons r1 r2 =>
   obtain ⟨t,e⟩:=r1
   subst e
   exact .cons n t (ih r2)
section
variable {X:Cx} {e:Expr} {te:TE} {lo hi:Option Expr} {tl th:TO} {pos p2:Pos}
theorem Zas:PO X none Zl7:=by
 intro pins s σ H Q I h
 rw [evalPart_none]
 exact wpAny_pure ⟨none,H,I,.none,h⟩
theorem Ql (h:PE X e te):PO X (some e) (Zo5 te):=by
 intro pins s σ H Q I hw
 rw [evalPart_some]
 refine thn (h pins s σ H _ I hw) λu s1 zz9=>?_
 obtain ⟨x,H1,I1,r1,q1⟩:=zz9
 obtain ⟨i,rfl,q⟩:=q1
 obtain ⟨t,rfl⟩:=r1
 exact ⟨some i,H1,I1,.int i t,q⟩
noncomputable def SlR (X:Cx) (r:V->Option Int->Option Int->Hp->VK->Prop):Prop :=
 ∀ (pins:List (Addr × Obj)) (s:Shared) (σ:St) (H:Hp) (x:V) (v vl vu:Value) (lo hi:Option Int) (sl:Addr) (Q:VK),Inv X pins σ H s->RelV x v->s.heap.IsSliceOf sl vl vu .none->IsPart vl lo->IsPart vu hi->r x lo hi H Q ->
  ∃ T id,typeLookup (.type T) "__getitem__"=pure (some (.builtin id))/\s.TypeIs v T/\wpAny (model X.prog X.w) X.A (getItem v (.ref sl)) (EP X pins σ Q) X.xe s
noncomputable def tSl (r:V->Option Int->Option Int->Hp->VK->Prop) (te:TE) (tl th:TO):TE:=λσ H Q=>te σ H λx H1=>tl σ H1 λl H2=>th σ H2 λu H3=>r x l u H3 Q
theorem Vq {r:V->Option Int->Option Int->Hp->VK->Prop} (hr:SlR X r) (he:PE X e te) (hl:PO X lo tl) (hu:PO X hi th):PE X (.Subscript e (.Slice lo hi none p2) pos) (tSl r te tl th):=by
 intro pins s σ H Q I h
 refine Subscript_ (thn (he pins s σ H _ I h) λv s1 zz9=>?_)
 obtain ⟨x,H1,I1,r1,q1⟩:=zz9
 refine wpAny_Slice (thn (hl pins s1 σ H1 _ I1 q1) λvl s2 zz19=>?_)
 obtain ⟨l,H2,I2,pl,q2⟩:=zz19
 refine thn (hu pins s2 σ H2 _ I2 q2) λvu s3 zz9=>?_
 obtain ⟨u,H3,I3,pu,q3⟩:=zz9
 rw [evalPart_none]
 refine wpAny_pure ?_
 have I4:Inv X pins σ H3 { s3 with heap:=s3.heap.push { cls:=.type "slice",data:=.fields #[vl,vu,.none] } }:=I3.kept (t':=s3.toks) λb ob q=>Ak _ q
 obtain ⟨T,id,hT,ht,hg⟩:=hr pins { s3 with heap:=s3.heap.push { cls:=.type "slice",data:=.fields #[vl,vu,.none] } } σ H3 x v vl vu l u s3.heap.objs.size Q I4 r1 (Heap.IsSliceOf.new ..) pl pu q3
 show wpAny (model X.prog X.w) X.A (subscriptTail e (.Slice lo hi none p2) v (.ref s3.heap.objs.size)) (EP X pins σ Q) X.xe { s3 with heap:=s3.heap.push { cls:=.type "slice",data:=.fields #[vl,vu,.none] } }
 exact tail_any (ops:=[.ref s3.heap.objs.size,v]) ht hT hg (by with_unfolding_all rfl)
noncomputable def cutV (xs:List V) (lo hi:Option Int):List V:=(xs.drop (HT.sIx xs.length 0 lo)).take (HT.sIx xs.length xs.length hi - HT.sIx xs.length 0 lo)
theorem Zff (xs:List V) (lo hi:Option Int):(cutV xs lo hi).length<=xs.length:=by
 unfold cutV
 rw [Ai,List.length_drop]
 omega
end
noncomputable def ixN (n:Nat) (i:Int):Option Nat:=if 0<=i then (if i < n then some i.toNat else none) else if -(n:Int)<=i then some (i + n).toNat else none
noncomputable def atI {α:Type} (xs:List α) (i:Int):Option α:=(ixN xs.length i).bind λj=>xs[j]?
theorem Zf1 {n:Nat} {i:Int} {j:Nat} (h:ixN n i=some j):seqIndex? i n=some j/\j < n/\-(n:Int)<=i/\i < n:=by
 unfold ixN at h
 by_cases h0:0<=i
 ·rw [if_pos h0] at h
  by_cases h1:i < n
  ·rw [if_pos h1] at h
   have e:i.toNat=j:=Ax h
   exact ⟨by rw [seqIndex_of h0 h1,e],by omega,by omega,h1⟩
  ·rw [if_neg h1] at h; cases h
 ·rw [if_neg h0] at h
  by_cases h1:-(n:Int)<=i
  ·rw [if_pos h1] at h
   have e:(i + n).toNat=j:=Ax h
   exact ⟨by rw [seqIndex_neg (by omega) h1,e],by omega,h1,by omega⟩
  ·rw [if_neg h1] at h; cases h
theorem Zgb {α:Type} {xs:List α} {i:Int} {v:α} (h:atI xs i=some v):∃ j,seqIndex? i xs.length=some j/\xs[j]?=some v/\j < xs.length/\-(xs.length:Int)<=i/\i < xs.length:=by
 unfold atI at h
 cases e:ixN xs.length i with
 | none=>rw [e] at h; cases h
 | some j =>
  rw [e] at h
  obtain ⟨h1,h2,h3,h4⟩:=Zf1 e
  exact ⟨j,h1,h,h2,h3,h4⟩
theorem Xd {α:Type} {xs:List α} {j:Nat} {v:α} (h:xs[j]?=some v):atI xs (j:Int)=some v:=by
 have hj:j < xs.length:=(Aa h).1
 have e:ixN xs.length (j:Int)=some j:=by
  unfold ixN
  rw [if_pos (by omega),if_pos (by omega)]; simp
 unfold atI; rw [e]; exact h
noncomputable def Znr (b:Expr):Prop:=∀ o i,subscripted b false o i=operate [o,i] (getItem o i)
noncomputable def IxR (X:Cx) (r:R2):Prop :=
 ∀ (value slice:Expr) (pins:List (Addr × Obj)) (s:Shared) (σ:St) (H:Hp) (x y:V) (v u:Value) (Q:VK),Inv X pins σ H s->RelV x v->RelV y u->r x y H Q ->
  subscripted slice false v u=operate [v,u] (getItem v u)->wpAny (model X.prog X.w) X.A (subscriptTail value slice v u) (EP X pins σ Q) X.xe s
noncomputable def MtR (X:Cx) (id:String) (r:V->List V->Hp->VK->Prop):Prop :=
 ∀ (pins:List (Addr × Obj)) (s:Shared) (σ:St) (H:Hp) (x:V) (xs:List V) (v:Value) (us:List Value) (Q:VK),Inv X pins σ H s->RelV x v->Vals xs us->r x xs H Q ->
  wpAny (model X.prog X.w) X.A (call (.builtin id) (v :: us)) (EP X pins σ Q) X.xe s
section
variable {X:Cx} {a b:Expr} {ta tb:TE} {pos:Pos}
theorem Zu {r:R2} (hr:IxR X r) (ha:PE X a ta) (hb:PE X b tb) (hs:Znr b):PE X (.Subscript a b pos) (tOp r ta tb):=by
 intro pins s σ H Q I h
 exact Subscript_ (binT ha hb I h λv u s2 x y H2 I2 rx ry q=>hr a b pins s2 σ H2 x y v u Q I2 rx ry q (hs _ _))
noncomputable def rIxL (K:W.Frag):R2:=λx y H Q=>∃ p xs i v,x=.ref p/\y=.int i/\SqL K H p xs/\atI xs i=some v/\Q v H
noncomputable def rIxT (K:W.Frag):R2:=λx y H Q=>∃ p xs i v,x=.ref p/\y=.int i/\SqT K H p xs/\atI xs i=some v/\Q v H
theorem Zy:IxR X (rIxL X.K):=by
 intro value slice pins s σ H x y v u Q I rx ry h hs
 obtain ⟨p,xs,i,z,rfl,rfl,hq,he,q⟩:=h
 cases rx
 obtain ⟨t,rfl⟩:=ry
 obtain ⟨its,r,pl,hz⟩:=I.list hq
 obtain ⟨j,h1,h2,h3,h4,h5⟩:=Zgb he
 obtain ⟨w,ew,rw'⟩:=r.get h2
 have hl:=r.length
 have hn:=Ki
 have fin:EP X pins σ Q w s:=⟨z,H,I,rw',q⟩
 by_cases h0:0<=i
 ·have hj:i.toNat=j:=by
   rw [seqIndex_of h0 h5] at h1
   exact Ax h1
  exact item_listR pl.isList h0 (by omega) (by rw [hj]; simpa using ew) fin hs
 ·have hj:(i + (its.toArray.size:Int)).toNat=j:=by
   rw [seqIndex_neg (by omega) h4] at h1
   rw [Aq,<- hl]
   exact Ax h1
  exact subscriptTail_builtinR (x:=w) pl.isList.typeIs slot_list_getitem.lookup
   (wpAny_getItem_list_neg (Q:=λr s'=>r=w/\EP X pins σ Q r s') pl.isList (by omega) (by rw [Aq] <;> omega) (by omega) (by rw [hj]; simpa using ew) ⟨rfl,fin⟩) hs
theorem X5:IxR X (rIxT X.K):=by
 intro value slice pins s σ H x y v u Q I rx ry h hs
 obtain ⟨p,xs,i,z,rfl,rfl,hq,he,q⟩:=h
 cases rx
 obtain ⟨t,rfl⟩:=ry
 obtain ⟨its,r,pl,hz⟩:=I.tuple hq
 obtain ⟨j,h1,h2,h3,h4,h5⟩:=Zgb he
 obtain ⟨w,ew,rw'⟩:=r.get h2
 have hl:=r.length
 have hn:=Ki
 have fin:EP X pins σ Q w s:=⟨z,H,I,rw',q⟩
 exact subscriptTail_builtinR (x:=w) pl.typeIs slot_tuple_getitem.lookup
  (getItem_tuple (j:=j) (Q:=λr s'=>r=w/\EP X pins σ Q r s') pl (by omega) (by omega) (by rw [Aq,<- hl]; exact h1) (by simpa using ew) ⟨rfl,fin⟩) hs
theorem Zg4 (its:List Value) (n j:Nat) (u:Value):Obj.mapSeq (·.setIfInBounds j u) { cls:=.type "list",data:=.seq its.toArray n }={ cls:=.type "list",data:=.seq (its.set j u).toArray n }:=by
 simp [Obj.mapSeq]
theorem Inv.lst {pins:List (Addr × Obj)} {σ:St} {H:Hp} {s:Shared} {p:Addr} {xs:List V} (I:Inv X pins σ H s) (h:H p=some (.lst xs)) :
  ∃ (its:List Value) (n:Nat),Vals xs its/\s.heap.get? p=some { cls:=.type "list",data:=.seq its.toArray n }/\xs.length<=sizeLine:=by
 obtain ⟨z,its,n,r,e⟩:=I.hok p _ h
 exact ⟨its,n,r,e,z⟩
theorem Inv.lstUpd {pins:List (Addr × Obj)} {σ:St} {H:Hp} {s:Shared} {p:Addr} {xs ys:List V} {its its':List Value} {n n':Nat} {f:Obj->Obj} (I:Inv X pins σ H s) (h:H p=some (.lst xs))
  (ho:s.heap.get? p=some { cls:=.type "list",data:=.seq its.toArray n }) (hf:f { cls:=.type "list",data:=.seq its.toArray n }={ cls:=.type "list",data:=.seq its'.toArray n' }) (r:Vals ys its') (hz:ys.length<=sizeLine) (t:Nat) :
  Inv X pins σ (upd H p (.lst ys)) { s with heap:=s.heap.update p f,toks:=t }:=by
 have e:(s.heap.update p f).get? p=some { cls:=.type "list",data:=.seq its'.toArray n' }:=by
  rw [Heap.get?_update_self f ho (by rw [hf] <;> rfl),hf]
 refine I.write (x:=p) (e:=p) (by rw [h]; trivial) (.inl rfl) (λb u hb q=>(Heap.get?_update_other _ _ (Ne.symm hb)).trans q) ⟨_,e⟩ ?_
 exact ⟨hz,its',n',r,e⟩
noncomputable def Zpi:V->V->V->Hp->(Hp->Prop)->Prop:=λo i v H Q=>∃ p xs k j,o=.ref p/\i=.int k/\H p=some (.lst xs)/\ixN xs.length k=some j/\Q (upd H p (.lst (xs.set j v)))
theorem Wr:PSet X Zpi:=by
 intro pins s σ H o i v ov iv u Q I ro ri rv h
 obtain ⟨p,xs,k,j,rfl,rfl,hp,hj,q⟩:=h
 cases ro
 obtain ⟨t,rfl⟩:=ri
 obtain ⟨its,n,r,ho,hz⟩:=I.lst hp
 obtain ⟨h1,h2,h3,h4⟩:=Zf1 hj
 have hl:=r.length
 have hn:=Ki
 have I':Inv X pins σ (upd H p (.lst (xs.set j v))) { s with heap:=s.heap.update p (Obj.mapSeq (·.setIfInBounds j u)) } :=
  I.lstUpd hp ho (Zg4 its n j u) (r.set rv j) (by rw [List.length_set]; exact hz) s.toks
 by_cases h0:0<=k
 ·have hk:k.toNat=j:=by
   rw [seqIndex_of h0 h4] at h1
   exact Ax h1
  exact PySem.W.ki_setAt ho h0 (by omega) (by rw [Aq,<- hl]; exact h4) (by rw [hk]; exact ⟨_,I',q⟩)
 ·have hk:(k + (its.toArray.size:Int)).toNat=j:=by
   rw [seqIndex_neg (by omega) h3] at h1
   rw [Aq,<- hl]
   exact Ax h1
  exact PySem.W.ki_setBack ho (by omega) (by rw [Aq,<- hl]; exact h3) (by omega) (by rw [hk]; exact ⟨_,I',q⟩)
theorem Zc5 (lo hi:Option Int) (n:Nat):(sliceBounds lo hi none n).1=((HT.sIx n 0 lo:Nat):Int)/\(sliceBounds lo hi none n).2.1=((HT.sIx n n hi:Nat):Int)/\(sliceBounds lo hi none n).2.2=1:=by
 refine ⟨?_,?_,rfl⟩
 ·cases lo with
  | none=>simp [sliceBounds,HT.sIx]
  | some i =>
   simp only [sliceBounds,HT.sIx,Option.getD_none,show (1:Int) > 0 by decide,if_true]
   by_cases h:i < 0
   ·simp only [h,if_true] <;> omega
   ·simp only [h,if_false] <;> omega
 ·cases hi with
  | none=>simp [sliceBounds,HT.sIx]
  | some i =>
   simp only [sliceBounds,HT.sIx,Option.getD_none,show (1:Int) > 0 by decide,if_true]
   by_cases h:i < 0
   ·simp only [h,if_true] <;> omega
   ·simp only [h,if_false] <;> omega
theorem Zb8 (its:List Value) (lo hi:Option Int):slicePick its.toArray lo hi none=((its.drop (HT.sIx its.length 0 lo)).take (HT.sIx its.length its.length hi - HT.sIx its.length 0 lo)).toArray:=by
 obtain ⟨h1,h2,h3⟩:=Zc5 lo hi its.toArray.size
 unfold slicePick
 rw [h1,h2,h3]
 simp only [sliceRange_one,pick_run,Aq] <;> rfl
noncomputable def rSlL (K:W.Frag):V->Option Int->Option Int->Hp->VK->Prop:=λx lo hi H Q=>∃ a xs,x=.ref a/\SqL K H a xs/\∀ p,H p=none->Q (.ref p) (upd H p (.lst (cutV xs lo hi)))
theorem Ui:SlR X (rSlL X.K):=by
 intro pins s σ H x v vl vu lo hi sl Q I rx hs pl pu h
 obtain ⟨a,xs,rfl,hx,q⟩:=h
 cases rx
 obtain ⟨its,r,ht,hz⟩:=I.list hx
 have hlen:=r.length
 refine ⟨"list",_,slot_list_getitem.lookup,ht.isList.typeIs,?_⟩
 refine wpAny_getItem_list_slice ht.isList hs pl pu .none (by simp) ?_ (by rw [Aq] <;> omega)
 rw [Zb8,<- hlen]
 refine ⟨.ref s.heap.objs.size,_,I.laid (t':=s.toks) (o:=.lst (cutV xs lo hi)) (λb ob q=>Ak _ q) (An _) ?_,rfl,q _ (I.hok.fresh (An _))⟩
 exact ⟨Nat.le_trans (Zff xs lo hi) hz,_,0,(r.drop (HT.sIx xs.length 0 lo)).take (HT.sIx xs.length xs.length hi - HT.sIx xs.length 0 lo),Ap _ rfl⟩
noncomputable def Vd:V->Bool
 | .non=>true
 | .bl _=>true
 | .int _=>true
 | .str _=>true
 | _=>false
noncomputable def eqV:V->V->Bool
 | .non,.non=>true
 | .bl a,.bl b=>a == b
 | .bl a,.int b=>(if a then 1 else 0) == b
 | .int a,.bl b=>a == (if b then 1 else 0)
 | .int a,.int b=>a == b
 | .str a,.str b=>a == b
 | _,_=>false
theorem Zos {A:Around} {s:Shared} {y x:V} {u v:Value} (ry:RelV y u) (rx:RelV x v) (fy:Vd y=true) (fx:Vd x=true):SeqAt.EqAt A s u v (eqV y x):=by
 cases y with
 | non =>
  cases ry
  cases x with
  | non=>cases rx; exact SeqAt.EqAt.same _
  | bl b=>cases rx; exact SeqAt.EqAt.none_bool b
  | int b=>obtain ⟨t,rfl⟩:=rx; exact SeqAt.EqAt.none_int b t
  | str b=>obtain ⟨t,rfl⟩:=rx; exact SeqAt.EqAt.none_str b t
  | _=>exact absurd (show false=true from fx) Bool.false_ne_true
 | bl a =>
  cases ry
  cases x with
  | non=>cases rx; exact SeqAt.EqAt.bool_none a
  | bl b=>cases rx; exact SeqAt.EqAt.bool_bool a b
  | int b=>obtain ⟨t,rfl⟩:=rx; exact SeqAt.EqAt.bool_int a b t
  | str b=>obtain ⟨t,rfl⟩:=rx; exact SeqAt.EqAt.bool_str a b t
  | _=>exact absurd (show false=true from fx) Bool.false_ne_true
 | int a =>
  obtain ⟨t',rfl⟩:=ry
  cases x with
  | non=>cases rx; exact SeqAt.EqAt.int_none a t'
  | bl b=>cases rx; exact SeqAt.EqAt.int_bool a t' b
  | int b=>obtain ⟨t,rfl⟩:=rx; exact SeqAt.EqAt.int_int a t' b t
  | str b=>obtain ⟨t,rfl⟩:=rx; exact SeqAt.EqAt.int_str a t' b t
  | _=>exact absurd (show false=true from fx) Bool.false_ne_true
 | str a =>
  obtain ⟨t',rfl⟩:=ry
  cases x with
  | non=>cases rx; exact SeqAt.EqAt.str_none a t'
  | bl b=>cases rx; exact SeqAt.EqAt.str_bool a t' b
  | int b=>obtain ⟨t,rfl⟩:=rx; exact SeqAt.EqAt.str_int a t' b t
  | str b=>obtain ⟨t,rfl⟩:=rx; exact SeqAt.EqAt.str_str a t' b t
  | _=>exact absurd (show false=true from fx) Bool.false_ne_true
 | _=>exact absurd (show false=true from fy) Bool.false_ne_true
noncomputable def eqU (x:V) (u:Value):Bool:=match u with
 | .none=>eqV .non x
 | .bool b=>eqV (.bl b) x
 | .int i _=>eqV (.int i) x
 | .str z _=>eqV (.str z) x
 | _=>false
theorem Zjq {x y:V} {u:Value} (r:RelV y u) (f:Vd y=true):eqU x u=eqV y x:=by
 cases y with
 | non=>cases r; rfl
 | bl b=>cases r; rfl
 | int i=>obtain ⟨t,rfl⟩:=r; rfl
 | str z=>obtain ⟨t,rfl⟩:=r; rfl
 | _=>exact absurd (show false=true from f) Bool.false_ne_true
theorem Za1 {x:V}:∀ {xs:List V} {us:List Value},Vals xs us->xs.all Vd=true->us.any (eqU x)=xs.any λy=>eqV y x
 | _,_,.nil,_=>rfl
 | y :: xs,u :: us,.cons r t,f=>by
  rw [List.all_cons,Bool.and_eq_true] at f
  rw [List.any_cons,List.any_cons,Zjq r f.1,Za1 t f.2]
theorem G0 {A:Around} {s:Shared} {x:V} {v:Value} (rx:RelV x v) (fx:Vd x=true):∀ {xs:List V} {us:List Value},Vals xs us->xs.all Vd=true->∀ u∈us,SeqAt.EqAt A s u v (eqU x u)
 | _,_,.nil,_=>λu hu=>by cases hu
 | y :: xs,u :: us,.cons r t,f=>λu' hu=>by
  rw [List.all_cons,Bool.and_eq_true] at f
  rcases Ar hu with rfl | hu
  ·rw [Zjq r f.1]; exact Zos r rx f.1 fx
  ·exact G0 rx fx t f.2 u' hu
noncomputable def inV (x:V) (xs:List V):Bool:=xs.any λy=>eqV y x
noncomputable def rIn (K:W.Frag) (neg:Bool):R2:=λx y H Q=>∃ p xs,y=.ref p/\(SqL K H p xs\/SqT K H p xs)/\Vd x=true/\xs.all Vd=true/\Q (.bl (if neg then !inV x xs else inV x xs)) H
theorem Kf:OpR X (compareOp .NotIn) (rIn X.K true):=by
 intro pins s σ H x y v u Q I rx ry h
 obtain ⟨p,xs,rfl,hq,fx,fs,q⟩:=h
 cases ry
 rcases hq with hq | hq
 ·obtain ⟨its,r,pl,hz⟩:=I.list hq
  refine SeqAt.notIn_listAt (eqU x) pl.isList (λw hw=>G0 rx fx r fs w (by simpa using hw)) ⟨.bl _,H,I,rfl,?_⟩
  rw [show its.toArray.any (eqU x)=its.any (eqU x) by simp,Za1 r fs]
  exact q
 ·obtain ⟨its,r,pl,hz⟩:=I.tuple hq
  refine SeqAt.notIn_tupleAt (eqU x) pl (λw hw=>G0 rx fx r fs w (by simpa using hw)) ⟨.bl _,H,I,rfl,?_⟩
  rw [show its.toArray.any (eqU x)=its.any (eqU x) by simp,Za1 r fs]
  exact q
theorem Zl:Xu X (.builtin "len") (λxs H Q=>∃ p ys,xs=[.ref p]/\(SqL X.K H p ys\/SqT X.K H p ys)/\Q (.int ys.length) H):=by
 intro pins s σ H xs us Q I r h
 obtain ⟨p,ys,rfl,hq,q⟩:=h
 obtain ⟨u,rfl,rx⟩:=Wo r
 cases rx
 have hn:=Ki
 rcases hq with hq | hq
 ·obtain ⟨its,r',pl,hz⟩:=I.list hq
  have hlen:=r'.length
  exact Calls.call_len_list pl.isList (by simp only [Aq] <;> omega) ⟨.int ys.length,H,I.tok _,⟨s.toks + 1,by rw [Aq,hlen]⟩,q⟩
 ·obtain ⟨its,r',pl,hz⟩:=I.tuple hq
  have hlen:=r'.length
  exact len_tuple pl (by simp only [Aq] <;> omega) ⟨.int ys.length,H,I.tok _,⟨s.toks + 1,by rw [Aq,hlen]⟩,q⟩
theorem Yv:Xu X (.type "list") (λxs H Q=>∃ p ys,xs=[.ref p]/\(SqL X.K H p ys\/SqT X.K H p ys)/\∀ l,H l=none->Q (.ref l) (upd H l (.lst ys))):=by
 intro pins s σ H xs us Q I r h
 obtain ⟨p,ys,rfl,hq,q⟩:=h
 obtain ⟨u,rfl,rx⟩:=Wo r
 cases rx
 have fin:∀ (its:List Value),Vals ys its->ys.length<=sizeLine->∀ (h':Heap) (c':Nat),(∀ b o',s.heap.get? b=some o'->h'.get? b=some o') ->
   h'.get? s.heap.objs.size=some { cls:=.type "list",dict:=none,data:=.seq its.toArray c',slots:=#[] }->EP X pins σ Q (.ref s.heap.objs.size) { s with heap:=h' }:=λits r' hz h' c' kp e =>
  ⟨.ref s.heap.objs.size,_,I.laid (t':=s.toks) kp (An _) (show Yj X.prog X.w _ h' _ (.lst ys) from ⟨hz,its,c',r',e⟩),rfl,q _ (I.hok.fresh (An _))⟩
 rcases hq with hq | hq
 ·obtain ⟨its,r',pl,hz⟩:=I.list hq
  have hlen:=r'.length
  obtain ⟨o,ho,hc,n,hd⟩:=pl.isList
  exact call_list_seq p (.inl rfl) ho hc hd (λh' c' kp e=>fin its r' hz h' c' kp e) (by simp only [Aq] <;> omega)
 ·obtain ⟨its,r',pl,hz⟩:=I.tuple hq
  have hlen:=r'.length
  obtain ⟨o,ho,hc,n,hd⟩:=pl
  exact call_list_seq p (.inr rfl) ho hc hd (λh' c' kp e=>fin its r' hz h' c' kp e) (by simp only [Aq] <;> omega)
theorem Zck:Xu X (.type "tuple") (λxs H Q=>∃ p ys,xs=[.ref p]/\((SqL X.K H p ys/\∀ l,H l=none->Q (.ref l) (upd H l (.tup ys)))\/(SqT X.K H p ys/\Q (.ref p) H))):=by
 intro pins s σ H xs us Q I r h
 obtain ⟨p,ys,rfl,h⟩:=h
 obtain ⟨u,rfl,rx⟩:=Wo r
 cases rx
 rcases h with ⟨hq,q⟩ | ⟨hq,q⟩
 ·obtain ⟨its,r',pl,hz⟩:=I.list hq
  have hlen:=r'.length
  refine call_tuple_list pl.isList (λh' kp=>?_) (by simp only [Aq] <;> omega)
  have I1:Inv X pins σ H { s with heap:=h' }:=I.kept (t':=s.toks) kp
  have I2:Inv X pins σ (upd H h'.objs.size (.tup ys)) { s with heap:=h'.push { cls:=.type "tuple",data:=.seq its.toArray } } :=
   I1.laid (t':=s.toks) (λb o e=>Ak _ e) (An _) (show Yj X.prog X.w _ _ _ (.tup ys) from ⟨hz,its,r',IsTup.new _ _⟩)
  exact ⟨.ref h'.objs.size,_,I2,rfl,q _ (I1.hok.fresh (An _))⟩
 ·obtain ⟨its,r',pl,hz⟩:=I.tuple hq
  exact call_tuple_same pl ⟨.ref p,H,I,rfl,q⟩
noncomputable def tyV (K:W.Frag) (T:String) (x:V) (H:Hp):Prop:=match x with
 | .str _=>T="str"
 | .int _=>T="int"
 | .ref p=>(T="list"/\∃ xs,SqL K H p xs)\/(T="tuple"/\∃ o,K.lookup p=some o/\o.cls=.type "tuple"/\o.dict=none) \/
   (T="dict"/\((∃ kvs,H p=some (.dK kvs))\/∃ kvs,H p=some (.dT kvs)))\/(T="set"/\∃ S n,H p=some (.set S n))
 | _=>False
theorem Zhn {pins:List (Addr × Obj)} {σ:St} {H:Hp} {s:Shared} {T:String} {x:V} {v:Value} (I:Inv X pins σ H s) (r:RelV x v) (ty:tyV X.K T x H) :
  s.TypeIs v T/\∀ a,v=.ref a->∃ ob,s.heap.get? a=some ob/\ob.dict=none:=by
 cases x with
 | str z =>
  obtain ⟨t,rfl⟩:=r
  cases (show T="str" from ty)
  exact ⟨typeIs_str s z t,λ_ e=>nomatch e⟩
 | int i =>
  obtain ⟨t,rfl⟩:=r
  cases (show T="int" from ty)
  exact ⟨typeIs_int s i t,λ_ e=>nomatch e⟩
 | ref p =>
  cases r
  rcases ty with ⟨rfl,xs,hq⟩ | ⟨rfl,o,hk,hc,hd⟩ | ⟨rfl,hk⟩ | ⟨rfl,S,n,hk⟩
  ·obtain ⟨its,_,pl,_⟩:=I.list hq
   refine ⟨pl.isList.typeIs,λa e=>?_⟩
   cases e
   obtain ⟨o,n,e,c,hd,_⟩:=pl
   exact ⟨o,e,hd⟩
  ·refine ⟨⟨o,I.kIn p o hk,hc⟩,λa e=>?_⟩
   cases e
   exact ⟨o,I.kIn _ o hk,hd⟩
  ·have z:∃ o,s.heap.get? p=some o/\o.ExactDict:=by
    rcases hk with ⟨kvs,hk⟩ | ⟨kvs,hk⟩
    ·obtain ⟨_,_,_,_,o,_,_,e,ex,_⟩:=I.hok p _ hk
     exact ⟨o,e,ex⟩
    ·obtain ⟨_,_,_,_,o,_,_,e,ex,_⟩:=I.hok p _ hk
     exact ⟨o,e,ex⟩
   obtain ⟨o,e,ex⟩:=z
   refine ⟨⟨o,e,ex.1⟩,λa e2=>?_⟩
   cases e2
   exact ⟨o,e,ex.2.1⟩
  ·obtain ⟨o,_,_,_,e,ex,_⟩:=I.hok p _ hk
   refine ⟨⟨o,e,ex.1⟩,λa e2=>?_⟩
   cases e2
   exact ⟨o,e,ex.2.1⟩
 | _=>exact False.elim ty
noncomputable def tBM (K:W.Frag) (T:String) (r:V->List V->Hp->VK->Prop) (to:TE) (t:TA):TE:=λσ H Q=>to σ H λx H1=>tyV K T x H1/\t σ H1 λxs H2=>r x xs H2 Q
variable {o e:Expr} {es:List Expr} {to:TE} {t:TA} {name:Str} {apos cpos:Pos} {T id:String} {r:V->List V->Hp->VK->Prop}
theorem Ws (pa:PlainAttrs T) (slot:Slot T name id) (hty:typeOf (.builtin id)=pure (.type "method_descriptor")) (hm:MtR X id r) (ho:PE X o to) (ha:PA X (e :: es) t)
  (hbase:attributeBase o name X.env (eval o X.env)=eval o X.env:=by rfl)
  (hfew:((backTo cpos (starEach (e :: es) X.env)).all (λx=>!x.1) && (backToKw cpos (keywordEach [] X.env)).all (λx=>x.1.isSome)
   && decide ((e :: es).length + ([]:List Keyword).length + (if ([]:List Keyword).isEmpty then 0 else 1) < 30))=true:=by rfl)
  (hline:(apos.endLine == cpos.line)=true:=by rfl) (hs:starEach (e :: es) X.env=(false,eval e X.env) :: starEach es X.env:=by rfl) (hplain:(backTo cpos (starEach es X.env)).any (·.1)=false:=by rfl) :
  PE X (.Call (.Attribute o name apos) (e :: es) [] cpos) (tBM X.K T r to t):=by
 intro pins s σ H Q I h
 refine wpAny_Call_method_late hbase hfew hline rfl (thn (ho pins s σ H _ I h) λv s1 zz9=>?_)
 obtain ⟨x,H1,I1,r1,ty,q1⟩:=zz9
 obtain ⟨h1,h2⟩:=Zhn I1 r1 ty
 refine ⟨T,id,pa,slot,hty,h1,h2,?_⟩
 have hA:=ha cpos pins s1 σ H1 _ I1 q1
 rw [hs] at hA ⊢
 refine Calls.callWith_builtin (by show (false || (backTo cpos (starEach es X.env)).any (·.1))=false; rw [hplain] <;> rfl) (Calls.evalArgs_plain ?_)
 refine thn hA λus s2 zz20=>?_
 obtain ⟨vs,H2,I2,r2,q2⟩:=zz20
 exact hm pins s2 σ H2 x vs v us Q I2 r1 r2 q2
end
noncomputable def MtM (X:Cx) (id:String) (r:V->List V->Hp->VK->Prop):Prop :=
 ∀ (pins:List (Addr × Obj)) (s:Shared) (σ:St) (H:Hp) (x:V) (xs:List V) (v:Value) (us:List Value) (Q:VK),Inv X pins σ H s->RelV x v->Vals xs us->r x xs H Q ->
  wpAny (model X.prog X.w) X.A (call (.builtin id) (v :: us)) (EP X pins σ Q) X.xe s
theorem Vals.one {x:V} {us:List Value} (h:Vals [x] us):∃ u,us=[u]/\RelV x u:=by
  cases h with
  | cons r t=>cases t; exact ⟨_,rfl,r⟩
theorem Vals.two {x y:V} {us:List Value} (h:Vals [x,y] us):∃ u v,us=[u,v]/\RelV x u/\RelV y v:=by
  cases h with
  | cons r t =>
    obtain ⟨v,rfl,q⟩:=Vals.one t
    exact ⟨_,v,rfl,r,q⟩
theorem Vals.eraseIdx:∀ {xs:List V} {us:List Value} (i:Nat),Vals xs us->Vals (xs.eraseIdx i) (us.eraseIdx i)
 | _,_,_,.nil=>.nil
 | _,_,0,.cons _ t=>t
 | _,_,i + 1,.cons r t=>.cons r (Vals.eraseIdx i t)
theorem Vals.rep {xs:List V} {us:List Value} (h:Vals xs us):∀ k:Nat,Vals (List.replicate k xs).flatten (List.replicate k us).flatten
 | 0=>.nil
 | k + 1=>by
  rw [List.replicate_succ,List.replicate_succ,List.flatten_cons,List.flatten_cons]
  exact Vals.append h (Vals.rep h k)
theorem Zbp {α:Type}:∀ (l:List α) (i:Nat),(l.eraseIdx i).length<=l.length
 | [],_=>An _
 | _ :: _,0=>Nat.le_succ _
 | _ :: r,i + 1=>Nat.succ_le_succ (Zbp r i)
theorem Zbt (its:List Value):∀ (k:Nat) (acc:List Value),
  List.foldl (λx1 x2=>x1 ++ x2) acc.toArray (List.replicate k its.toArray)=(acc ++ (List.replicate k its).flatten).toArray
 | 0,acc=>by simp
 | k + 1,acc=>by
  have e:acc.toArray ++ its.toArray=(acc ++ its).toArray:=by simp
  have e2:(acc ++ its) ++ (List.replicate k its).flatten=acc ++ (List.replicate (k + 1) its).flatten:=by
   rw [List.replicate_succ,List.flatten_cons,List.append_assoc]
  rw [<- e2,<- Zbt its k (acc ++ its),<- e,List.replicate_succ,List.foldl_cons]
section
variable {X:Cx} {pins:List (Addr × Obj)} {σ:St} {H:Hp} {s:Shared} {l b:Addr} {xs ys zs:List V}
theorem Inv.lset {its its':List Value} {n:Nat} {f:Array Value->Array Value} {t':Nat} (I:Inv X pins σ H s) (hH:H l=some (.lst xs))
  (e:s.heap.get? l=some { cls:=.type "list",data:=.seq its.toArray n }) (hf:f its.toArray=its'.toArray) (hv:Vals ys its') (hz:ys.length<=sizeLine) :
  Inv X pins σ (upd H l (.lst ys)) { s with heap:=s.heap.update l (Obj.mapSeq f),toks:=t' }:=by
 have q:=PySem.IsL.update e f
 rw [hf] at q
 refine I.write (x:=l) (e:=l) (by rw [hH]; exact trivial) (.inl rfl) (λb' u hb hu=>(Heap.get?_update_other s.heap (Obj.mapSeq f) (Ne.symm hb)).trans hu) ⟨_,q⟩ ?_
 exact ⟨hz,its',_,hv,q⟩
theorem Inv.lnew {its:List Value} {t':Nat} (I:Inv X pins σ H s) (hv:Vals ys its) (hz:ys.length<=sizeLine) :
  Inv X pins σ (upd H s.heap.objs.size (.lst ys)) { s with heap:=s.heap.push { cls:=.type "list",data:=.seq its.toArray },toks:=t' } :=
 I.laid (λ_ _ q=>Ak _ q) (An _) ⟨hz,its,0,hv,Ap _ rfl⟩
theorem Inv.fresh (I:Inv X pins σ H s):H s.heap.objs.size=none:=I.hok.fresh (An _)
theorem Inv.lstM (I:Inv X pins σ H s) (hH:H l=some (.lst xs)):xs.length<=sizeLine/\∃ (its:List Value) (n:Nat),Vals xs its/\xs.length=its.length/\s.heap.get? l=some { cls:=.type "list",data:=.seq its.toArray n }:=by
 obtain ⟨z,its,n,r,e⟩:=I.hok l _ hH
 exact ⟨z,its,n,r,r.length,e⟩
theorem Zd6 {n:Nat} (h:n<=sizeLine):Builtin.List.listTooLong n=false:=by
 unfold Builtin.List.listTooLong
 exact decide_eq_false (by omega)
end
section
variable {X:Cx}
noncomputable def Zmu:V->List V->Hp->VK->Prop:=λx vs H Q=>∃ l xs y,x=.ref l/\vs=[y]/\H l=some (.lst xs)/\xs.length < sizeLine/\Q .non (upd H l (.lst (xs ++ [y])))
theorem Xi:MtM X "list.append" Zmu:=by
 intro pins s σ H x vs v us Q I rx rv h
 obtain ⟨l,xs,y,rfl,rfl,hH,hz,q⟩:=h
 cases rx
 obtain ⟨u,rfl,ru⟩:=rv.one
 obtain ⟨z,its,n,r,hl,e⟩:=I.lstM hH
 refine call_meets F.slot_list_append ⟨_,e,rfl⟩ F.entry_list_append (F.args_list_append_2 _ _) (PySem.list_append l its.toArray n u (by rw [Aq]; omega)) ⟨e,?_⟩
 refine ⟨.non,_,I.lset (its':=its ++ [u]) hH e (by simp) (r.append (.cons ru .nil)) ?_,rfl,q⟩
 rw [Ae,At]
 omega
noncomputable def Zmt:V->List V->Hp->VK->Prop:=λx vs H Q=>∃ l b xs zs,x=.ref l/\vs=[.ref b]/\H l=some (.lst xs)/\H b=some (.lst zs)/\xs.length + zs.length<=sizeLine/\Q .non (upd H l (.lst (xs ++ zs)))
theorem Zja:MtM X "list.extend" Zmt:=by
 intro pins s σ H x vs v us Q I rx rv h
 obtain ⟨l,b,xs,zs,rfl,rfl,hH,hB,hz,q⟩:=h
 cases rx
 obtain ⟨u,rfl,ru⟩:=rv.one
 cases ru
 obtain ⟨z,its,n,r,hl,e⟩:=I.lstM hH
 obtain ⟨z2,its2,n2,r2,hl2,e2⟩:=I.lstM hB
 have hsz:its.toArray.size + its2.toArray.size<=sizeLine:=by rw [Aq,Aq]; omega
 have hlong:¬ (!its.toArray.isEmpty && Builtin.List.listTooLong (its.toArray.size + its2.toArray.size))=true:=by
  rw [Zd6 hsz,Bool.and_false]
  exact Bool.false_ne_true
 refine call_meets F.slot_list_extend ⟨_,e,rfl⟩ F.entry_list_extend (F.args_list_extend_2 _ _)
  (AutoSeq1.list_extend_list_list_0 l its.toArray n b its2.toArray n2 hlong (by rw [Aq]; omega) (by omega)) ⟨e,e2,?_⟩
 refine ⟨.non,_,I.lset (its':=its ++ its2) hH e (by simp) (r.append r2) ?_,rfl,q⟩
 rw [Ae]
 omega
noncomputable def Zoa:V->List V->Hp->VK->Prop:=λx vs H Q=>∃ l xs i k y,x=.ref l/\vs=[.int i]/\H l=some (.lst xs)/\-(2 ^ 63)<=i/\i < 2 ^ 63/\seqIndex? i xs.length=some k/\xs[k]?=some y/\Q y (upd H l (.lst (xs.eraseIdx k)))
theorem Zd9:MtM X "list.pop" Zoa:=by
 intro pins s σ H x vs v us Q I rx rv h
 obtain ⟨l,xs,i,k,y,rfl,rfl,hH,h1,h2,hk,hy,q⟩:=h
 cases rx
 obtain ⟨u,rfl,ru⟩:=rv.one
 obtain ⟨t,rfl⟩:=ru
 obtain ⟨z,its,n,r,hl,e⟩:=I.lstM hH
 obtain ⟨w,hw,rw'⟩:=r.get hy
 refine call_meets F.slot_list_pop ⟨_,e,rfl⟩ F.entry_list_pop (F.args_list_pop_2 _ _)
  (MeetsSeq.list_pop_at l its.toArray n i t k w (fitsIndex_both h1 h2) (by rw [Aq,<- hl]; exact hk) (by rw [<- Array.getElem?_toList]; exact hw) (by rw [Aq]; omega)) ⟨e,?_⟩
 refine ⟨y,_,I.lset (its':=its.eraseIdx k) hH e ?_ (r.eraseIdx k) ?_,rw',q⟩
 ·show its.toArray.eraseIdxIfInBounds k=(its.eraseIdx k).toArray
  rw [List.eraseIdxIfInBounds_toArray]
 ·have:=Zbp xs k
  omega
noncomputable def rCat:R2:=λx y H Q=>∃ l b xs zs,x=.ref l/\y=.ref b/\H l=some (.lst xs)/\H b=some (.lst zs)/\xs.length + zs.length<=sizeLine/\∀ p,H p=none->Q (.ref p) (upd H p (.lst (xs ++ zs)))
theorem Zoh:OpR X (binaryOp .Add) rCat:=by
 intro pins s σ H x y v u Q I rx ry h
 obtain ⟨l,b,xs,zs,rfl,rfl,hH,hB,hz,q⟩:=h
 cases rx
 cases ry
 obtain ⟨z,its,n,r,hl,e⟩:=I.lstM hH
 obtain ⟨z2,its2,n2,r2,hl2,e2⟩:=I.lstM hB
 refine PySem.P.add_list e e2 ?_ (by rw [Aq,Aq]; omega)
 have ea:its.toArray ++ its2.toArray=(its ++ its2).toArray:=by simp
 rw [ea]
 exact ⟨.ref _,_,I.lnew (t':=s.toks) (r.append r2) (by rw [Ae]; omega),rfl,q _ I.fresh⟩
noncomputable def rRep:R2:=λx y H Q=>∃ l k xs,x=.ref l/\y=.int k/\H l=some (.lst xs)/\-(2 ^ 63)<=k/\k < 2 ^ 63/\xs.length * k.toNat<=sizeLine /\
 ∀ p,H p=none->Q (.ref p) (upd H p (.lst (List.replicate k.toNat xs).flatten))
theorem Zm9 {α:Type} (xs:List α) (k:Nat):(List.replicate k xs).flatten.length=k * xs.length:=by
 induction k with
 | zero=>simp
 | succ k ih=>rw [List.replicate_succ,List.flatten_cons,Ae,ih,Nat.succ_mul,Nat.add_comm]
theorem Fs:OpR X (binaryOp .Mult) rRep:=by
 intro pins s σ H x y v u Q I rx ry h
 obtain ⟨l,k,xs,rfl,rfl,hH,h1,h2,hz,q⟩:=h
 cases rx
 obtain ⟨t,rfl⟩:=ry
 obtain ⟨z,its,n,r,hl,e⟩:=I.lstM hH
 have hlen:its.toArray.size * k.toNat<=sizeLine:=by rw [Aq,<- hl]; exact hz
 have hcap:¬ its.toArray.size * k.toNat > (2 ^ 63 - 1) / 8:=by
  have:(sizeLine:Nat)<=(2 ^ 63 - 1) / 8:=by decide
  omega
 have hfit:¬ (!Builtin.List.listFitsIndex k)=true:=by
  rw [fitsIndex_both h1 h2]
  exact Bool.false_ne_true
 have hlong:¬ Builtin.List.listTooLong (its.toArray.size * k.toNat)=true:=by
  rw [Zd6 hlen]
  exact Bool.false_ne_true
 have hnew:List.foldl (λx1 x2=>x1 ++ x2) #[] (List.replicate (if its.toArray.isEmpty=true then 0 else k.toNat) its.toArray)=(List.replicate k.toNat its).flatten.toArray:=by
  have f0:∀ m:Nat,List.foldl (λx1 x2=>x1 ++ x2) #[] (List.replicate m its.toArray)=(List.replicate m its).flatten.toArray:=λm=>by
   have:=Zbt its m []
   rw [List.nil_append] at this
   exact this
  rw [f0]
  cases its with
  | nil=>simp
  | cons a r'=>rw [if_neg (by simp)]
 refine wpAny_binaryOp_repeat_ref (T:="list") (U:="int") (by decide) ⟨_,e,rfl⟩ (λs'=>typeIs_int s' k t) noFill_list_mul F.fills_int_mul F.slot_int_rmul repeat_list F.slot_int_index.lookup
  (call_meets F.slot_int_rmul (typeIs_int s k t) F.entry_int_rmul (F.args_int_rmul_2 _ _) (int___rmul___int_list k t l its.toArray n)
   ⟨e,rfl,⟨_,e,rfl⟩,call_meets F.slot_list_mul ⟨_,e,rfl⟩ F.entry_list_mul (F.args_list_mul_2 _ _) (AutoListH.list___mul___list_int_3 l its.toArray n k t hfit hcap hlong) ⟨e,?_⟩⟩)
 rw [hnew]
 exact ⟨.ref _,_,I.lnew (t':=s.toks) (r.rep k.toNat) (by rw [Zm9,Nat.mul_comm]; exact hz),rfl,q _ I.fresh⟩
end
section
variable {κ:Type} [DecidableEq κ]
noncomputable def valV (kvs:List (κ × V)) (k:κ):Option V:=(kvs.find? λkv=>decide (kv.1=k)).map (·.2)
noncomputable def putK (kvs:List (κ × V)) (k:κ) (v:V):List (κ × V) :=
 if (kvs.any λkv=>decide (kv.1=k))=true then kvs.map (λkv=>if kv.1=k then (kv.1,v) else kv) else kvs ++ [(k,v)]
theorem Gj {p:κ × V} {r:List (κ × V)} {k:κ} (e:p.1=k):valV (p :: r) k=some p.2:=by simp [valV,List.find?_cons,e]
theorem Gk {p:κ × V} {r:List (κ × V)} {k:κ} (e:¬ p.1=k):valV (p :: r) k=valV r k:=by simp [valV,List.find?_cons,e]
theorem Zcr (k:κ):∀ kvs:List (κ × V),(kvs.any λkv=>decide (kv.1=k))=(valV kvs k).isSome
 | []=>rfl
 | p :: r=>by
  rw [List.any_cons]
  by_cases e:p.1=k
  ·simp only [Gj e,decide_eq_true e,Bool.true_or,Option.isSome_some]
  ·rw [Gk e,decide_eq_false e,Bool.false_or]; exact Zcr k r
theorem Jn (kvs:List (κ × V)) (k:κ) (v:V):(putK kvs k v).length<=kvs.length + 1:=by
 unfold putK
 split
 ·rw [Ab]; omega
 ·rw [Ae,List.length_cons,List.length_nil]; omega
theorem RelO.isSome_eq {o:Option V} {u:Option Value} (r:RelO o u):o.isSome=u.isSome:=by
 cases o with
 | none=>cases u with
  | none=>rfl
  | some _=>exact (show False from r).elim
 | some _=>cases u with
  | none=>exact (show False from r).elim
  | some _=>rfl
theorem RelO.getD {o:Option V} {u:Option Value} {d:V} {d':Value} (r:RelO o u) (rd:RelV d d'):RelV (o.getD d) (u.getD d'):=by
 cases o with
 | none=>cases u with
  | none=>exact rd
  | some _=>exact (show False from r).elim
 | some _=>cases u with
  | none=>exact (show False from r).elim
  | some _=>exact r
theorem KV.val {kvs:List (κ × V)} {vs:List (κ × Value)} (r:KV kvs vs) (k:κ):RelO (valV kvs k) (valueAt vs k):=by
 unfold KV at r
 induction r with
 | nil=>exact True.intro
 | @cons p q ps qs h t ih =>
  obtain ⟨h1,h2⟩:=h
  by_cases e:p.1=k
  ·have e':q.1=k:=h1.symm.trans e
   have b:valueAt (q :: qs) k=some q.2:=by simp [valueAt,List.find?_cons,e']
   rw [Gj e,b]; exact h2
  ·have e':¬ q.1=k:=λz=>e (h1.trans z)
   have b:valueAt (q :: qs) k=valueAt qs k:=by simp [valueAt,List.find?_cons,e']
   rw [Gk e,b]; exact ih
theorem KV.any {kvs:List (κ × V)} {vs:List (κ × Value)} (r:KV kvs vs) (k:κ):(kvs.any λkv=>decide (kv.1=k))=vs.any λkv=>decide (kv.1=k):=by
 unfold KV at r
 induction r with
 | nil=>rfl
 | cons h t ih=>rw [List.any_cons,List.any_cons,ih,h.1]
theorem KV.repl {kvs:List (κ × V)} {vs:List (κ × Value)} (r:KV kvs vs) (k:κ) {y:V} {u:Value} (ry:RelV y u) :
  KV (kvs.map λkv=>if kv.1=k then (kv.1,y) else kv) (vs.map λkv=>if kv.1=k then (kv.1,u) else kv):=by
 unfold KV at r ⊢
 induction r with
 | nil=>exact .nil
 | @cons p q ps qs h t ih =>
  rw [List.map_cons,List.map_cons]
  refine .cons ?_ ih
  obtain ⟨h1,h2⟩:=h
  by_cases e:p.1=k
  ·rw [if_pos e,if_pos (h1.symm.trans e)]; exact ⟨h1,ry⟩
  ·rw [if_neg e,if_neg (λz=>e (h1.trans z))]; exact ⟨h1,h2⟩
theorem KV.put {kvs:List (κ × V)} {vs:List (κ × Value)} (r:KV kvs vs) (k:κ) {y:V} {u:Value} (ry:RelV y u):KV (putK kvs k y) (stored vs k u):=by
 unfold putK stored
 rw [r.any k]
 by_cases e:(vs.any λkv=>decide (kv.1=k))=true
 ·rw [if_pos e,if_pos e]; exact r.repl k ry
 ·rw [if_neg e,if_neg e]; exact Paired.snoc r ⟨rfl,ry⟩
theorem KV.length {kvs:List (κ × V)} {vs:List (κ × Value)} (r:KV kvs vs):kvs.length=vs.length:=Paired.length r
end
theorem Q0 {P:Program} {w:World} {k:Key} {u:Value} (r:RelV (kV k) u):(Z9 P w).is k u=true:=by
 cases k with
 | inl i=>obtain ⟨t,e⟩:=(show ∃ t,u=Value.int i t from r); subst e; exact Zfb P w i t
 | inr x=>obtain ⟨t,e⟩:=(show ∃ t,u=Value.str x t from r); subst e; exact Zfa P w x t
theorem Zbq {P:Program} {w:World}:∀ {ks:List Key} {us:List Value},Vals (ks.map kV) us->ItemsAre (Z9 P w) ks us
 | [],_,r=>by rw [List.map_nil] at r; cases r; exact .nil
 | k :: ks,_,r=>by
  rw [List.map_cons] at r
  cases r with
  | cons h t=>exact .cons (Q0 h) (Zbq t)
noncomputable abbrev KT (H:Hp):List (List Key × V)->List (List Key × Addr × Value)->Prop:=Paired λp q=>p.1=q.1/\H q.2.1=some (.tup (p.1.map kV))/\RelV p.2 q.2.2
theorem KT.val {H:Hp} {kvs:List (List Key × V)} {xs:List (List Key × Addr × Value)} (r:KT H kvs xs) (k:List Key):RelO (valV kvs k) ((atKey xs k).map (·.2)):=by
 induction r with
 | nil=>exact True.intro
 | @cons p q ps qs h t ih =>
  obtain ⟨h1,_,h2⟩:=h
  by_cases e:p.1=k
  ·have e':q.1=k:=h1.symm.trans e
   have b:atKey (q :: qs) k=some q.2:=by simp [atKey,List.find?_cons,e']
   rw [Gj e,b]; exact h2
  ·have e':¬ q.1=k:=λz=>e (h1.trans z)
   have b:atKey (q :: qs) k=atKey qs k:=by simp [atKey,List.find?_cons,e']
   rw [Gk e,b]; exact ih
theorem KT.repl {H:Hp} {kvs:List (List Key × V)} {xs:List (List Key × Addr × Value)} (r:KT H kvs xs) (k:List Key) {y:V} {u:Value} (ry:RelV y u) :
  KT H (kvs.map λkv=>if kv.1=k then (kv.1,y) else kv) (xs.map (putAt k u)):=by
 induction r with
 | nil=>exact .nil
 | @cons p q ps qs h t ih =>
  rw [List.map_cons,List.map_cons]
  refine .cons ?_ ih
  obtain ⟨h1,h2,h3⟩:=h
  unfold putAt
  by_cases e:p.1=k
  ·rw [if_pos e,if_pos (h1.symm.trans e)]; exact ⟨h1,h2,ry⟩
  ·rw [if_neg e,if_neg (λz=>e (h1.trans z))]; exact ⟨h1,h2,h3⟩
theorem KT.put {H:Hp} {kvs:List (List Key × V)} {xs:List (List Key × Addr × Value)} (r:KT H kvs xs) (k:List Key) {b:Addr} {y:V} {u:Value} (hb:H b=some (.tup (k.map kV))) (ry:RelV y u) :
  KT H (putK kvs k y) (storedH xs k b u):=by
 have e:(kvs.any λkv=>decide (kv.1=k))=(atKey xs k).isSome:=by
  rw [Zcr,(r.val k).isSome_eq,Option.isSome_map]
 unfold putK storedH
 rw [e]
 by_cases q:(atKey xs k).isSome=true
 ·rw [if_pos q,if_pos q]; exact r.repl k ry
 ·rw [if_neg q,if_neg q]; exact Paired.snoc r ⟨rfl,hb,ry⟩
theorem KT.keeps {H H':Hp} {kvs:List (List Key × V)} {xs:List (List Key × Addr × Value)} (r:KT H kvs xs) (ht:∀ b ys,H b=some (.tup ys)->H' b=some (.tup ys)):KT H' kvs xs :=
 Paired.mapP r λ_ _ z=>⟨z.1,ht _ _ z.2.1,z.2.2⟩
section
variable {P:Program} {w:World} {H:Hp} {h:Heap} {a:Addr}
theorem Zlw {u:HO} (ok:HOk P w H h) (e:Rd H a u):Yj P w H h a u:=e.ok ok
theorem Ve {kvs:List (Key × V)} (ok:HOk P w H h) (e:Rd H a (.dK kvs)):kvs.length<=sizeLine/\(a == sysModules)=false/\∃ vs,KV kvs vs/\h.DictOf (Z9 P w) a vs :=
 show Yj P w H h a (.dK kvs) from Zlw ok e
theorem Zcm {kvs:List (Key × V)} (ok:HOk P w H h) (e:H a=some (.dK kvs)):kvs.length<=sizeLine/\(a == sysModules)=false/\∃ vs,KV kvs vs/\h.DictOf (Z9 P w) a vs:=Ve ok (.inl e)
theorem Uy {ks:List Key} (ok:HOk P w H h) (e:H a=some (.tup (ks.map kV))):(tupleKind (Z9 P w)).is h ks a:=by
 obtain ⟨_,its,r,o,h1,h2,n,h3⟩:=(show Yj P w H h a (.tup (ks.map kV)) from ok a _ e)
 exact ⟨o,its.toArray,n,h1,h2,h3,by simpa using Zbq r⟩
theorem Og {kvs:List (List Key × V)} (ok:HOk P w H h) (e:Rd H a (.dT kvs)):kvs.length<=sizeLine/\(a == sysModules)=false /\
  ∃ xs,KT H kvs xs/\h.DictOfH (tupleKind (Z9 P w)) a xs:=by
 obtain ⟨z,y,xs,r,o,es,ep,h1,h2,h3,h4,h5⟩:=(show Yj P w H h a (.dT kvs) from Zlw ok e)
 refine ⟨z,y,xs,r,o,es,ep,h1,h2,h3,h4,λx hx=>?_,h5⟩
 have all:∀ {l:List (List Key × V)} {m:List (List Key × Addr × Value)},KT H l m->∀ x∈m,(tupleKind (Z9 P w)).is h x.1 x.2.1:=by
  intro l m q
  induction q with
  | nil=>intro x hx; exact nomatch hx
  | @cons p q ps qs hq t ih =>
   intro x hx
   rcases Ar hx with e | hx
   ·subst e
    exact Uy ok (by rw [<- hq.1]; exact hq.2.1)
   ·exact ih x hx
 exact all r x hx
theorem Zp0 {kvs:List (List Key × V)} (ok:HOk P w H h) (e:H a=some (.dT kvs)):kvs.length<=sizeLine/\(a == sysModules)=false /\
  ∃ xs,KT H kvs xs/\h.DictOfH (tupleKind (Z9 P w)) a xs:=Og ok (.inl e)
end
noncomputable def DGet (H:Hp) (a:Addr) (y:V) (r:Option V):Prop :=
 (∃ kvs k,Rd H a (.dK kvs)/\y=kV k/\r=valV kvs k)\/∃ kvs k b,Rd H a (.dT kvs)/\y=.ref b/\H b=some (.tup (k.map kV))/\r=valV kvs k
noncomputable def DPut (H:Hp) (a:Addr) (y v:V) (H':Hp):Prop :=
 (∃ kvs k,H a=some (.dK kvs)/\y=kV k/\kvs.length < sizeLine/\H'=upd H a (.dK (putK kvs k v))) \/
 ∃ kvs k b,H a=some (.dT kvs)/\y=.ref b/\H b=some (.tup (k.map kV))/\kvs.length < sizeLine/\H'=upd H a (.dT (putK kvs k v))
theorem DGet.k {H:Hp} {a:Addr} {kvs:List (Key × V)} {k:Key} (e:H a=some (.dK kvs)):DGet H a (kV k) (valV kvs k):=.inl ⟨kvs,k,.inl e,rfl,rfl⟩
theorem DPut.k {H:Hp} {a:Addr} {kvs:List (Key × V)} {k:Key} {v:V} (e:H a=some (.dK kvs)) (hl:kvs.length < sizeLine):DPut H a (kV k) v (upd H a (.dK (putK kvs k v))):=.inl ⟨kvs,k,e,rfl,hl,rfl⟩
section
variable {X:Cx} {pins:List (Addr × Obj)} {σ:St} {H:Hp} {s:Shared} {a:Addr} {y v:V} {u r:Value} {o:Option V} {A:Around} {E:Value->Shared->Prop}
theorem Inv.big (I:Inv X pins σ H s):sysModules < s.heap.objs.size:=by
 have h:mainGlobals < s.heap.objs.size:=(I.mod.glob.keeps I.bk).lt
 exact Nat.lt_trans (by decide) h
theorem Zju {Q:Value->Shared->Prop} (hu:A.units + 1 < cLine) (I:Inv X pins σ H s) (g:DGet H a y (some v)) (ry:RelV y u) (h:∀ w' s',Inv X pins σ H s'->RelV v w'->Q w' s') :
  wpAny (model X.prog X.w) A (getItem (.ref a) u) Q E s:=by
 rcases g with ⟨kvs,k,e,ey,l⟩ | ⟨kvs,k,b,e,ey,eb,l⟩
 ·subst ey
  obtain ⟨z,hd,vs,rel,dd⟩:=Ve I.hok e
  obtain ⟨w',hw,rw'⟩:=RelO.some_of (v:=v) (o:=valueAt vs k) (by rw [l]; exact rel.val k)
  exact wpAny_getItem_of (Q0 ry) dd.mapOf hw (h w' _ (I.tok _) rw')
 ·subst ey
  cases (show u=Value.ref b from ry)
  obtain ⟨z,hd,xs,rel,dd⟩:=Og I.hok e
  obtain ⟨w',hw,rw'⟩:=RelO.some_of (v:=v) (o:=(atKey xs k).map (·.2)) (by rw [l]; exact rel.val k)
  obtain ⟨p,hp,hp2⟩:=Option.map_eq_some_iff.mp hw
  refine wpAny_getItem_heap (tupleKind_room_in1 hu) (Uy I.hok eb) dd hp ?_
  rw [hp2]
  exact h w' _ (I.tok _) rw'
theorem d_in {Q:Value->Shared->Prop} (hu:A.units + 1 < cLine) (I:Inv X pins σ H s) (g:DGet H a y o) (ry:RelV y u) (h:∀ s',Inv X pins σ H s'->Q (.bool o.isSome) s') :
  wpAny (model X.prog X.w) A (compareOp .In u (.ref a)) Q E s:=by
 rcases g with ⟨kvs,k,e,ey,l⟩ | ⟨kvs,k,b,e,ey,eb,l⟩
 ·subst ey
  obtain ⟨z,hd,vs,rel,dd⟩:=Ve I.hok e
  refine wpAny_in_of (Q0 ry) hd dd.mapOf ?_
  rw [<- (rel.val k).isSome_eq,<- l]
  exact h _ (I.tok _)
 ·subst ey
  cases (show u=Value.ref b from ry)
  obtain ⟨z,hd,xs,rel,dd⟩:=Og I.hok e
  refine wpAny_in_heap (tupleKind_room_in1 hu) (Uy I.hok eb) hd dd ?_
  have q:=(rel.val k).isSome_eq
  rw [Option.isSome_map] at q
  rw [<- q,<- l]
  exact h _ (I.tok _)
theorem Znm {Q:Value->Shared->Prop} (hu:A.units + 1 < cLine) (I:Inv X pins σ H s) (g:DGet H a y o) (ry:RelV y u) (h:∀ s',Inv X pins σ H s'->Q (.bool (!o.isSome)) s') :
  wpAny (model X.prog X.w) A (compareOp .NotIn u (.ref a)) Q E s:=by
 rcases g with ⟨kvs,k,e,ey,l⟩ | ⟨kvs,k,b,e,ey,eb,l⟩
 ·subst ey
  obtain ⟨z,hd,vs,rel,dd⟩:=Ve I.hok e
  refine wpAny_notIn_of (Q0 ry) hd dd.mapOf ?_
  rw [<- (rel.val k).isSome_eq,<- l]
  exact h _ (I.tok _)
 ·subst ey
  cases (show u=Value.ref b from ry)
  obtain ⟨z,hd,xs,rel,dd⟩:=Og I.hok e
  refine wpAny_notIn_heap (tupleKind_room_in1 hu) (Uy I.hok eb) hd dd ?_
  have q:=(rel.val k).isSome_eq
  rw [Option.isSome_map] at q
  rw [<- q,<- l]
  exact h _ (I.tok _)
theorem U2 {h':Heap} {t':Nat} {ob:HO} (I:Inv X pins σ H s) (mu:Mut (H a)) (hs:Heap.SameBut a s.heap h') (he:∃ q,h'.get? a=some q) (new:Yj X.prog X.w (upd H a ob) h' a ob) :
  Inv X pins σ (upd H a ob) { s with heap:=h',toks:=t' } :=
 I.write (x:=a) (e:=a) mu (.inl rfl) (λb q hb z=>(hs.2 b hb).trans z) he new
theorem F7 {P:Program} {w:World} {H':Hp} {h':Heap} {kvs:List (Key × V)} {vs:List (Key × Value)} (z:kvs.length<=sizeLine) (hd:(a == sysModules)=false) (rel:KV kvs vs) (dd:h'.DictOf (Z9 P w) a vs) :
  Yj P w H' h' a (.dK kvs):=⟨z,hd,vs,rel,dd⟩
theorem Zjt {H':Hp} {Q:Unit->Shared->Prop} (hu:A.units + 1 < cLine) (I:Inv X pins σ H s) (g:DPut H a y v H') (ry:RelV y u) (rv:RelV v r) (h:∀ s',Inv X pins σ H' s'->Q () s') :
  wpAny (model X.prog X.w) A (setItem (.ref a) u r) Q E s:=by
 rcases g with ⟨kvs,k,e,ey,l,eH⟩ | ⟨kvs,k,b,e,ey,eb,l,eH⟩
 ·subst ey eH
  obtain ⟨z,hd,vs,rel,dd⟩:=Zcm I.hok e
  have hz:vs.length<=sizeLine:=by rw [<- rel.length]; exact z
  have hl:(putK kvs k v).length<=sizeLine:=by have:=Jn kvs k v; omega
  refine wpAny_setItem_pairs (hsz:=hz) (Q0 ry) dd λh' dd' hs=>h _ ?_
  have he:∃ q,h'.get? a=some q:=let ⟨q,_,_,hq,_⟩:=dd'; ⟨q,hq⟩
  exact U2 I (by rw [e]; exact True.intro) hs he (F7 hl hd (rel.put k rv) dd')
 ·subst ey eH
  cases (show u=Value.ref b from ry)
  obtain ⟨z,hd,xs,rel,dd⟩:=Zp0 I.hok e
  have hz:xs.length<=sizeLine:=by rw [<- Paired.length rel]; exact z
  have hl:(putK kvs k v).length<=sizeLine:=by have:=Jn kvs k v; omega
  refine wpAny_setItem_heap (hsz:=hz) (tupleKind_room_in1 hu) (Uy I.hok eb) dd λh' dd' hs=>h _ ?_
  obtain ⟨q,es,ep,hq,h2,h3,h4,_,h5⟩:=dd'
  refine U2 I (by rw [e]; exact True.intro) hs ⟨q,hq⟩ ⟨hl,hd,_,(rel.put k eb rv).keeps λc ys ec=>?_,q,es,ep,hq,h2,h3,h4,h5⟩
  rw [Zd (Zpm ec e (λz=>nomatch z))]
  exact ec
end
noncomputable def NoSl (i:Expr):Prop:=∀ ov iv,subscripted i false ov iv=operate [ov,iv] (getItem ov iv)
theorem Zmc {prog:Program} {w:World} {A:Around} {E:Value->Shared->Prop} {s:Shared} {env:Env} {value slice:Expr} {pos:Pos} {T id:String} {Q:Value->Shared->Prop}
  (hl:typeLookup (.type T) "__getitem__"=pure (some (.builtin id))) (hs:NoSl slice)
  (h:wpAny (model prog w) A (eval value env) (λo s₁=>wpAny (model prog w) A (eval slice env) (λi s₂=>s₂.TypeIs o T/\wpAny (model prog w) A (getItem o i) Q E s₂) E s₁) E s) :
  wpAny (model prog w) A (eval (.Subscript value slice pos) env) Q E s:=by
 refine Subscript_ (wpAny_mono h (λo s₁ h₁=>wpAny_mono h₁ (λi s₂ h₂=>?_) λ_ _ x=>x) λ_ _ x=>x)
 obtain ⟨hT,h₂⟩:=h₂
 unfold subscriptTail
 refine Al ?_
 rw [getitemInPython_of_ne hT.not_modules]
 refine Al (wpAny_specialOf hT hl ?_)
 have fin:wpAny (model prog w) A (subscripted slice false o i) (λr s₃=>wpAny (model prog w) A (letTemporaryGo value o r >>= λ_=>pure r) Q E s₃) E s₂:=by
  rw [hs o i]
  exact wpAny_operating (wpAny_mono h₂ (λr s₃ h₃=>Al (wpAny_letTemporaryGo (wpAny_pure h₃))) λ_ _ x=>x)
 first
  | exact wpAny_pure (Al fin)
  | exact Al (wpAny_pure (Al fin))
  | exact Al fin
theorem Zfe {X:Cx} {pins:List (Addr × Obj)} {σ:St} {H:Hp} {s:Shared} {a:Addr} {y:V} {o:Option V} (I:Inv X pins σ H s) (g:DGet H a y o):s.TypeIs (.ref a) "dict":=by
 rcases g with ⟨kvs,k,e,_,_⟩ | ⟨kvs,k,b,e,_,_,_⟩
 ·obtain ⟨_,_,vs,_,dd⟩:=Ve I.hok e
  exact dd.typeIs
 ·obtain ⟨_,_,xs,_,dd⟩:=Og I.hok e
  exact dd.typeIs
noncomputable def Zpb (td ty:TE):TE:=λσ H Q=>td σ H λx H1=>ty σ H1 λy H2=>∃ a v,x=.ref a/\DGet H2 a y (some v)/\Q v H2
noncomputable def tDIn (ty td:TE):TE:=λσ H Q=>ty σ H λy H1=>td σ H1 λx H2=>∃ a o,x=.ref a/\DGet H2 a y o/\Q (.bl o.isSome) H2
noncomputable def Zma (ty td:TE):TE:=λσ H Q=>ty σ H λy H1=>td σ H1 λx H2=>∃ a o,x=.ref a/\DGet H2 a y o/\Q (.bl (!o.isSome)) H2
noncomputable def Zph (td ty tv:TE):TS:=λD σ H=>tv σ H λv H1=>td σ H1 λx H2=>ty σ H2 λy H3=>∃ a H4,x=.ref a/\DPut H3 a y v H4/\D.nx σ H4
section
variable {X:Cx} {o i e value:Expr} {pos pos' tpos:Pos} {td ty tv:TE}
theorem Qp (hu:X.A.units + 1 < cLine) (ho:PE X o td) (hi:PE X i ty) (hs:NoSl i):PE X (.Subscript o i pos) (Zpb td ty):=by
 intro pins s σ H Q I h
 refine Zmc PySem.F.slot_dict_getitem.lookup hs (thn (ho pins s σ H _ I h) λu s1 zz21=>?_)
 obtain ⟨x,H1,I1,rx,q1⟩:=zz21
 refine thn (hi pins s1 σ H1 _ I1 q1) λiv s2 zz9=>?_
 obtain ⟨y,H2,I2,ry,a,v,ex,g,q2⟩:=zz9
 subst ex
 obtain rfl:u=Value.ref a:=rx
 exact ⟨Zfe I2 g,Zju hu I2 g ry λw' s3 I3 rw'=>⟨v,H2,I3,rw',q2⟩⟩
theorem Zof (hu:X.A.units + 1 < cLine) (hi:PE X i ty) (ho:PE X o td):PC X .In i o (tDIn ty td):=by
 intro pins s σ H Q I h
 refine thn (hi pins s σ H _ I h) λiv s1 zz22=>?_
 obtain ⟨y,H1,I1,ry,q1⟩:=zz22
 refine thn (ho pins s1 σ H1 _ I1 q1) λu s2 zz9=>?_
 obtain ⟨x,H2,I2,rx,a,ov,ex,g,q2⟩:=zz9
 subst ex
 obtain rfl:u=Value.ref a:=rx
 exact d_in hu I2 g ry λs3 I3=>⟨.bl ov.isSome,H2,I3,rfl,q2⟩
theorem Ziu (hu:X.A.units + 1 < cLine) (hi:PE X i ty) (ho:PE X o td):PC X .NotIn i o (Zma ty td):=by
 intro pins s σ H Q I h
 refine thn (hi pins s σ H _ I h) λiv s1 zz23=>?_
 obtain ⟨y,H1,I1,ry,q1⟩:=zz23
 refine thn (ho pins s1 σ H1 _ I1 q1) λu s2 zz9=>?_
 obtain ⟨x,H2,I2,rx,a,ov,ex,g,q2⟩:=zz9
 subst ex
 obtain rfl:u=Value.ref a:=rx
 exact Znm hu I2 g ry λs3 I3=>⟨.bl (!ov.isSome),H2,I3,rfl,q2⟩
theorem Us (hu:X.A.units + 1 < cLine) (ho:PE X o td) (hi:PE X i ty) (hv:PE X value tv) (hs:swapsWith value (some (.Subscript o i pos')) pos.line X.env=pure false) :
  PS X (.Assign [.Subscript o i pos'] value pos) (Zph td ty tv):=by
 intro pins s σ H D I h
 refine wpAny_Assign_Subscript (thn (hv pins s σ H _ I h) λr s1 zz24=>?_) hs
 obtain ⟨v,H1,I1,rv,q1⟩:=zz24
 refine thn (ho pins s1 σ H1 _ I1 q1) λu s2 zz25=>?_
 obtain ⟨x,H2,I2,rx,q2⟩:=zz25
 refine thn (hi pins s2 σ H2 _ I2 q2) λiv s3 zz26=>?_
 obtain ⟨y,H3,I3,ry,a,H4,ex,g,q3⟩:=zz26
 subst ex
 obtain rfl:u=Value.ref a:=rx
 exact Zjt hu I3 g ry rv λs4 I4=>⟨σ,H4,I4,q3⟩
end
theorem Oh {P:Program} {w:World} {H:Hp} (h:Heap) (hb:sysModules < h.objs.size):Yj P w H (h.push { cls:=.type "dict",data:=.dict #[] }) h.objs.size (.dK []) :=
 ⟨Az _,beq_eq_false_iff_ne.mpr (Ne.symm (As hb)),[],.nil,Heap.DictOf.new h⟩
noncomputable def Zn0:TE:=λ_ H Q=>∀ p,H p=none->Q (.ref p) (upd H p (.dK []))
section
variable {X:Cx} {pos:Pos}
theorem Vr:PE X (.Dict [] [] pos) Zn0:=λpins s σ H Q I h =>
 wpAny_Dict_empty ⟨.ref s.heap.objs.size,_,I.laid (a:=s.heap.objs.size) (o:=.dK []) (t':=s.toks) (λ_ _ q=>Ak _ q) (An _) (Oh s.heap I.big),rfl,h _ (I.hok.fresh (An _))⟩
end
noncomputable def Zcu:List (TE × TE)->St->Hp->(List (V × V)->Hp->Prop)->Prop
 | [],_,H,Q=>Q [] H
 | (tk,tv) :: r,σ,H,Q=>tk σ H λx H1=>tv σ H1 λy H2=>Zcu r σ H2 λps H3=>Q ((x,y) :: ps) H3
noncomputable abbrev VV:List (V × V)->List (Value × Value)->Prop:=Paired λp q=>RelV p.1 q.1/\RelV p.2 q.2
noncomputable def PPs (X:Cx) (pos:Pos) (keys:List (Option Expr)) (values:List Expr) (trs:List (TE × TE)):Prop :=
 ∀ (pins:List (Addr × Obj)) (s:Shared) (σ:St) (H:Hp) (Q:List (V × V)->Hp->Prop),Inv X pins σ H s->Zcu trs σ H Q ->
  wpAny (model X.prog X.w) X.A (evalPairs (pairTrees keys values X.env pos)) (λvs s'=>∃ ps H',Inv X pins σ H' s'/\VV ps vs/\Q ps H') X.xe s
theorem Zfu {X:Cx} {pos:Pos}:PPs X pos [] [] []:=λpins s σ H Q I h=>pairTrees_nil_walk ⟨[],H,I,.nil,h⟩
theorem W3 {X:Cx} {pos:Pos} {k v:Expr} {ks:List (Option Expr)} {vs:List Expr} {tk tv:TE} {trs:List (TE × TE)} (hk:PE X k tk) (hv:PE X v tv) (hr:PPs X pos ks vs trs) :
  PPs X pos (some k :: ks) (v :: vs) ((tk,tv) :: trs):=λpins s σ H Q I h =>
 pairTrees_cons_walk (thn (hk pins s σ H _ I h) λu s1 ⟨x,H1,I1,rx,q1⟩=>thn (hv pins s1 σ H1 _ I1 q1) λw2 s2 ⟨y,H2,I2,ry,q2⟩ =>
  thn (hr pins s2 σ H2 _ I2 q2) λws s3 ⟨ps,H3,I3,rel,q3⟩=>⟨(x,y) :: ps,H3,I3,.cons ⟨rx,ry⟩ rel,q3⟩)
noncomputable def Qc (kvs more:List (Key × V)):List (Key × V):=more.foldl (λacc kv=>putK acc kv.1 kv.2) kvs
theorem KV.merge:∀ {more:List (Key × V)} {rs:List (Key × Value)} {kvs:List (Key × V)} {vs:List (Key × Value)},KV more rs->KV kvs vs->KV (Qc kvs more) (merged vs rs):=by
 intro more rs kvs vs r
 unfold KV at r
 induction r generalizing kvs vs with
 | nil=>intro q; exact q
 | @cons p q ps qs h t ih =>
  intro r0
  have e:KV (putK kvs p.1 p.2) (stored vs q.1 q.2):=by
   have:=r0.put p.1 h.2
   rw [<- h.1]; exact this
  exact ih e
theorem Ou:∀ (more kvs:List (Key × V)),(Qc kvs more).length<=kvs.length + more.length
 | [],kvs=>by show kvs.length<=kvs.length + 0; omega
 | p :: r,kvs=>by
  have h1:=Ou r (putK kvs p.1 p.2)
  have h2:=Jn kvs p.1 p.2
  show (Qc (putK kvs p.1 p.2) r).length<=_
  rw [List.length_cons]; omega
theorem Zab {P:Program} {w:World}:∀ {kvs:List (Key × V)} {ws:List (Value × Value)},VV (kvs.map λkv=>(kV kv.1,kv.2)) ws->∃ rs,Carries (Z9 P w) ws rs/\KV kvs rs
 | [],_,r=>by rw [List.map_nil] at r; cases r; exact ⟨[],True.intro,.nil⟩
 | p :: kvs,_,r=>by
  rw [List.map_cons] at r
  cases r with
  | @cons a b as bs h t =>
   obtain ⟨rs,c,q⟩:=Zab (P:=P) (w:=w) t
   obtain ⟨b1,b2⟩:=b
   exact ⟨(p.1,b2) :: rs,⟨Q0 h.1,rfl,c⟩,.cons ⟨rfl,h.2⟩ q⟩
noncomputable def Zpa (trs:List (TE × TE)):TE:=λσ H Q=>∀ p,H p=none->Zcu trs σ (upd H p (.dK [])) λps H2=>H2 p=some (.dK [])/\∃ kvs:List (Key × V),ps=kvs.map (λkv=>(kV kv.1,kv.2))/\kvs.length<=15/\Q (.ref p) (upd H2 p (.dK (Qc [] kvs)))
theorem Zfw {X:Cx} {pos:Pos} {keys:List (Option Expr)} {values:List Expr} {trs:List (TE × TE)} (h:PPs X pos keys values trs) (hall:keys.all (·.isSome)=true) (hl:keys.length=values.length) (h0:keys≠[])
  (h15:keys.length<=15):PE X (.Dict keys values pos) (Zpa trs):=by
 intro pins s σ H Q I q
 have hn:=I.hok.fresh (An s.heap.objs.size)
 have I1:=I.laid (a:=s.heap.objs.size) (o:=.dK []) (h':=s.heap.push { cls:=.type "dict",data:=.dict #[] }) (t':=s.toks) (λ_ _ q=>Ak _ q) (An _) (Oh s.heap I.big)
 refine wpAny_Dict_walk (knd:=Z9 X.prog X.w) hall hl h0 h15 (thn (h pins _ σ _ _ I1 (q _ hn)) λws s2 zz9=>?_)
 obtain ⟨ps,H2,I2,rel,e,kvs,ep,lk,q2⟩:=zz9
 subst ep
 obtain ⟨rs,c,rk⟩:=Zab (P:=X.prog) (w:=X.w) rel
 obtain ⟨z,hd,vs0,r0,dd⟩:=Zcm I2.hok e
 cases r0
 refine ⟨rs,c,dd,λh' dd' hs=>⟨.ref s.heap.objs.size,_,?_,rfl,q2⟩⟩
 have hz:(Qc [] kvs).length<=sizeLine:=by
  have h1:=Ou kvs []
  rw [List.length_nil] at h1
  rw [sizeLine_eq]; omega
 have he:∃ q,h'.get? s.heap.objs.size=some q:=let ⟨q,_,_,hq,_⟩:=dd'; ⟨q,hq⟩
 exact U2 I2 (by rw [e]; exact True.intro) hs he (F7 hz hd (rk.merge .nil) dd')
structure M2 (X:Cx) (o:Expr) (m:Str) (apos:Pos) (e f:Expr) (cpos:Pos):Prop where
 base:attributeBase o m X.env (eval o X.env)=eval o X.env
 few:((backTo cpos (starEach [e,f] X.env)).all (λx=>!x.1) && (backToKw cpos (keywordEach [] X.env)).all (λx=>x.1.isSome)
  && decide (([e,f]:List Expr).length + ([]:List Keyword).length + (if ([]:List Keyword).isEmpty then 0 else 1) < 30))=true
 line:(apos.endLine == cpos.line)=true
 trees:backTo cpos (starEach [e,f] X.env)=[(false,eval e X.env),(false,eval f X.env)]
noncomputable def IsD (H:Hp) (a:Addr):Prop:=(∃ kvs,Rd H a (.dK kvs))\/∃ kvs,Rd H a (.dT kvs)
theorem F1 {X:Cx} {pins:List (Addr × Obj)} {σ:St} {H:Hp} {s:Shared} {a:Addr} (I:Inv X pins σ H s) (d:IsD H a) :
  s.TypeIs (.ref a) "dict"/\(∀ b,Value.ref a=.ref b->∃ ob,s.heap.get? b=some ob/\ob.dict=none)/\(a == sysModules)=false:=by
 rcases d with ⟨kvs,e⟩ | ⟨kvs,e⟩
 ·obtain ⟨_,hd,vs,_,dd⟩:=Ve I.hok e
  refine ⟨dd.typeIs,λb q=>?_,hd⟩
  cases q
  obtain ⟨ob,_,_,h1,h2,_⟩:=dd
  exact ⟨ob,h1,h2.2.1⟩
 ·obtain ⟨_,hd,xs,_,dd⟩:=Og I.hok e
  refine ⟨dd.typeIs,λb q=>?_,hd⟩
  cases q
  obtain ⟨ob,_,_,h1,h2,_⟩:=dd
  exact ⟨ob,h1,h2.2.1⟩
section
variable {X:Cx} {pins:List (Addr × Obj)} {σ:St} {H:Hp} {s:Shared} {a:Addr} {y d:V} {u r:Value} {o:Option V} {A:Around} {E:Value->Shared->Prop}
theorem Zou {Q:Value->Shared->Prop} (hu:A.units + 1 < cLine) (I:Inv X pins σ H s) (g:DGet H a y o) (ry:RelV y u) (rd:RelV d r) (h:∀ w' s',Inv X pins σ H s'->RelV (o.getD d) w'->Q w' s') :
  wpAny (model X.prog X.w) A (call (.builtin "dict.get") [.ref a,u,r]) Q E s:=by
 rcases g with ⟨kvs,k,e,ey,l⟩ | ⟨kvs,k,b,e,ey,eb,l⟩
 ·subst ey
  obtain ⟨z,hd,vs,rel,dd⟩:=Ve I.hok e
  refine call_meetsIn PySem.F.slot_dict_get dd.typeIs PySem.F.entry_dict_get (PySem.F.args_dict_get_3 _ _ _) (meets_dict_get_default (Z9 X.prog X.w) a (Q0 ry) hd r) ⟨_,dd.mapOf,h _ _ (I.tok _) ?_⟩
  rw [l]
  exact (rel.val k).getD rd
 ·subst ey
  cases (show u=Value.ref b from ry)
  obtain ⟨z,hd,xs,rel,dd⟩:=Og I.hok e
  refine call_meetsIn PySem.F.slot_dict_get dd.typeIs PySem.F.entry_dict_get (PySem.F.args_dict_get_3 _ _ _) (meetsH_dict_get_default (tupleKind (Z9 X.prog X.w)) a b hd r) ⟨tupleKind_room_in1 hu,k,xs,Uy I.hok eb,dd,h _ _ (I.tok _) ?_⟩
  rw [l]
  exact (rel.val k).getD rd
end
noncomputable def Zn1 (td ty tx:TE):TE:=λσ H Q=>td σ H λx H1=>∃ a,x=.ref a/\IsD H1 a/\ty σ H1 λy H2=>tx σ H2 λz H3=>∃ o,DGet H3 a y o/\Q (o.getD z) H3
section
variable {X:Cx} {o e f:Expr} {apos cpos:Pos} {td ty tx:TE}
theorem Oa (hu:X.A.units + 1 < cLine) (ho:PE X o td) (he:PE X e ty) (hf:PE X f tx) (m:M2 X o "get" apos e f cpos):PE X (.Call (.Attribute o "get" apos) [e,f] [] cpos) (Zn1 td ty tx):=by
 intro pins s σ H Q I h
 refine wpAny_Call_method m.base m.few m.line PySem.F.plainAttrs_dict PySem.F.slot_dict_get PySem.F.type_dict_get (thn (ho pins s σ H _ I h) λu s1 zz9=>?_)
 obtain ⟨x,H1,I1,rx,a,ex,d,q1⟩:=zz9
 subst ex
 obtain rfl:u=Value.ref a:=rx
 obtain ⟨t1,t2,_⟩:=F1 I1 d
 refine ⟨t1,t2,?_⟩
 rw [m.trees]
 refine Calls.callWith_builtin rfl (Calls.evalArgs_plain (Calls.spliced_cons (thn (he pins s1 σ H1 _ I1 q1) λiv s2 ⟨y,H2,I2,ry,q2⟩ =>
  Calls.spliced_cons (thn (hf pins s2 σ H2 _ I2 q2) λfv s3 ⟨z,H3,I3,rz,ov,g,q3⟩=>Calls.spliced_nil ?_))))
 exact Zou hu I3 g ry rz λw' s4 I4 rw'=>⟨_,H3,I4,rw',q3⟩
end
end L2
namespace Att
open PySem PySem.W PySem.Calls PyProof.Rows
theorem F2 {P:Params} {h:Heap}:∀ (ns:List Int) (vs:List Value),WellAll P h vs (ns.map WData.int)->IntsAre vs ns:=by
 intro ns
 induction ns with
 | nil =>
  intro vs w
  rw [List.map_nil] at w
  cases w
  exact .nil
 | cons n ns ih =>
  intro vs w
  rw [List.map_cons] at w
  cases w with
  | cons a b =>
   cases a
   exact .cons _ _ (ih _ b)
theorem Zib {l:OpenLaw} {n:Nat} (hn:l.most=some n) {P:Params} {h:Heap} {args:List WData} {vals:List Value}
  (hpre:l.row.toRowW.claim.pre args=true) (hwl:WellAll P h vals args) :
  ∃ a vs ns,vals=[Value.ref a]/\args=[WData.list (ns.map WData.int)]/\h.get? a=some { cls:=.type "list",data:=.seq vs.toArray }/\IntsAre vs ns/\ns.length<=n:=by
 have hsh:WShape.hasAll [] args [.list .int]=true:=(pre_splitW hpre).1
 have hc:l.pre.holds [] { args:=args }=true:=(pre_splitW hpre).2
 obtain ⟨d,r,rfl,h1,h2⟩:=hasAllW_cons hsh
 obtain rfl:=hasAllW_nil h2
 obtain ⟨xs,rfl,h3⟩:=hasW_list h1
 obtain ⟨ns,rfl⟩:=items_int h3
 have hlen:ns.length<=n:=by
  unfold OpenLaw.pre at hc
  have h4:(WTm.not (.lt (.lit (.int (n:Int))) (.len (.arg 0)))).holds [] { args:=[.list (ns.map .int)] }=true:=by
   have h4:=(holds_andW hc).1
   rw [hn] at h4
   exact h4
  have h5:=condW_of h4 (w_not (w_lt w_lit (w_len_list (w_arg rfl))))
  rw [Ab] at h5
  refine Nat.le_of_not_lt λq=>?_
  have q':(n:Int) < ((ns.length:Nat):Int):=by omega
  first
   | (rw [decide_eq_true q'] at h5; exact absurd h5 (by decide))
   | (simp at h5; omega)
 cases hwl with
 | cons w1 w2 =>
  cases w2
  cases w1 with
  | list ho hall=>exact ⟨_,_,ns,rfl,rfl,ho,F2 ns _ hall,hlen⟩
theorem Zik (l:OpenLaw) (args:List WData):l.row.toRowW.claim.post args (.bool true) args=true :=
 postW_of (r:=l.row.toRowW) (X:=(true == true))
  (show WShape.has [] (.bool true) .bool=true by first | rfl | decide | simp [WShape.has,WShape.arms,WShape.armsAll])
  (show (WTm.eq .res (.lit (.bool true))).value [] { args:=args,res:=some (.bool true),after:=args }=some (.bool (true == true)) from w_eq_bool (w_res rfl) w_lit) rfl
theorem attach_call {l:OpenLaw} {n:Nat} {q:Program} {loose:List Str} {XP:(Str->Option Value)->Heap->Prop} {YP:World->Heap->Prop} {d:DefRec}
  (hn:l.most=some n) (hdf:d.params.defaults=[])
  (call:∀ (w:World) (s₀ s₁:Shared) (mg mb:Str->Option Value) (fa:Addr) (o:Obj) (pm cd doc:Value) (a:Addr) (vs:List Value) (ns:List Int),
   Ground q loose [] XP w s₀ mg mb s₁.heap->YP w s₁.heap ->
   s₁.heap.get? fa=some o->o.data=.func (docDef d.name d.params d.body d.scope pm cd doc)->s₁.heap.CodeRec cd d.name->mg d.name=some (.ref fa) ->
   s₁.heap.get? a=some { cls:=.type "list",data:=.seq vs.toArray }->IntsAre vs ns->ns.length<=n->s₁.gens=#[] ->
   codeAny (model l.prog w) callerA (.call (.ref fa) ⟨[.ref a],[]⟩) (λr s'=>r=.ok (.ret (.bool true))/\OldK s₁.heap s'.heap/\s'.os=s₁.os/\AllBare s'.gens) s₁) :
  WalkO q loose XP YP l.row.toRowW d [] (λf vs=>PySem.call f vs):=by
 intro w s₀ s₁ mg mb G Y fa o pm cd doc dV kV ho hd hcd hD hmg hg args vals as hpre hlay hrd hwl hlo
 obtain rfl:dV=.none:=Dflts.none hD hdf
 obtain rfl:kV=.none:=Dflts.noKw hD
 obtain ⟨a,vs,ns,rfl,rfl,hobj,hints,hlen⟩:=Zib hn hpre hwl
 refine enter_call (codeAny_mono (call w s₀ s₁ mg mb fa o pm cd doc a vs ns G Y ho (fd_plain hd) hcd hmg hobj hints hlen hg) λr s' hq=>?_)
 obtain ⟨rfl,h2,h3,h4⟩:=hq
 exact ⟨.inl ⟨.bool true,.bool true,[],rfl,λ_=>rfl,.bool true,Zik l _,λ_=>⟨List.Pairwise.nil,λ_ hm=>(nomatch hm)⟩⟩,h2,h3,h4⟩
end Att
namespace L2
open PySem PySem.Spec PyProof.Rows
theorem Za2:∀ {vs:List Value} {ns:List Int},IntsAre vs ns->Vals (ns.map V.int) vs
 | _,_,.nil=>.nil
 | _,_,.cons n t h=>.cons ⟨t,rfl⟩ (Za2 h)
noncomputable def Only (H:Hp):Prop:=∀ b,H b=none\/∃ o xs,H b=some (.frz o (.lst xs))
theorem Zlb {P:Program} {w:World} {K:W.Frag} {mg mb:Str->Option Value} {CX:CXT} {k:Nat} {fa a:Addr} {fd:FuncData} {x:Str} {sp:Sp} {s₁:Shared} {vs:List Value} {ns:List Int}
  (KX:K.In s₁.heap) (hns:s₁.heap.Ns mainGlobals mg) (hb:s₁.heap.Ns builtinsNs mb) (hbb:∀ x:Str,x≠"__name__"->mb x=bootBuiltins x) (hlim:s₁.heap.NoLimit) (hg:s₁.gens=#[])
  (ha:s₁.heap.get? a=some { cls:=.type "list",data:=.seq vs.toArray }) (hi:IntsAre vs ns) (hl:ns.length<=sizeLine) (hr:Room k callerA)
  (F:∀ base:Heap,K.In base->base.Ns mainGlobals mg->FnOk P w K mg base CX k fa fd [x] sp) (hbind:∀ (s:Shared) (u:Value),BindsTo s fd ⟨[u],[]⟩ [(x,u)])
  (hsp:∀ H:Hp,Only H->SqL K H a (ns.map V.int)->sp [.ref a] H (λv _=>v=.bl true) λ_ _ _=>False)
  (hCX:∀ H e s',CX [] H s₁ (λ_ _ _=>False) e s'->False) :
  codeAny (model P w) callerA (.call (.ref fa) ⟨[.ref a],[]⟩) (λr s'=>r=.ok (.ret (.bool true))/\OldK s₁.heap s'.heap/\s'.os=s₁.os/\AllBare s'.gens) s₁:=by
 have rv:=Za2 hi
 have lenV:=hi.length
 have core:∀ H:Hp,Only H->SqL K H a (ns.map V.int)->HOk P w H s₁.heap->(∀ b,H b≠none->b=a)->(H a≠none->K.lookup a=none) ->
   codeAny (model P w) callerA (.call (.ref fa) ⟨[.ref a],[]⟩) (λr s'=>r=.ok (.ret (.bool true))/\OldK s₁.heap s'.heap/\s'.os=s₁.os/\AllBare s'.gens) s₁:=by
  intro H hO hS hok hA hK
  have base_of:∀ {b:Addr} {o:Obj},s₁.heap.get? b=some o->H b=none->(hidT s₁.heap H).get? b=some o:=λe n=>Zle e n
  have noA:∀ {b:Addr} {o:Obj} {es:Array DictEntry} {ep:Nat},s₁.heap.get? b=some o->o.data=.dict es ep->H b=none:=λ{b o es ep} e d=>by
   cases q:H b with
   | none=>rfl
   | some u =>
    have e':b=a:=hA b (by rw [q]; simp)
    subst e'
    rw [ha] at e; cases e
    have d':Data.seq vs.toArray _=Data.dict es ep:=d
    cases d'
  have nsK:∀ {b:Addr} {m:Str->Option Value},s₁.heap.Ns b m->(hidT s₁.heap H).Ns b m:=λ{b m} ⟨o,es,ep,e,d,r⟩=>⟨o,es,ep,base_of e (noA e d),d,r⟩
  have hKb:K.In (hidT s₁.heap H):=λb o e=>base_of (KX b o e) (by
   cases q:H b with
   | none=>rfl
   | some u =>
    have e':b=a:=hA b (by rw [q]; simp)
    subst e'
    rw [hK (by rw [q]; simp)] at e; cases e)
  have hM:Mod K mg (hidT s₁.heap H):=⟨hKb,nsK hns,⟨mb,nsK hb,hbb⟩,let ⟨mc,h1,h2⟩:=hlim; ⟨mc,nsK h1,h2⟩⟩
  have e0:Env0 P w K mg (hidT s₁.heap H) callerA [] s₁ H:=⟨rfl,hM,λb o e=>Zm5 e,Nat.le_of_eq (Zji _ _),trivial,λb hb=>absurd (show b∈([]:List Addr) from hb) (by simp),hok,.of_eq hg⟩
  refine codeAny_mono ((F _ hKb (nsK hns)).run callerA [] s₁ H ⟨[.ref a],[]⟩ [.ref a] [.ref a] _ _ hr e0 (hbind s₁ (.ref a)) (.cons rfl .nil) (hsp H hO hS)) λr s' h=>?_
  cases r with
  | error e=>exact (hCX H e s' h).elim
  | ok fl =>
   cases fl with
   | next=>exact False.elim h
   | brk=>exact False.elim h
   | cont=>exact False.elim h
   | ret u =>
    obtain ⟨v,H',os,bare,un,hok',r',q⟩:=h
    have q':v=.bl true:=q
    subst q'
    obtain rfl:u=Value.bool true:=r'
    refine ⟨rfl,OldK.of_keep λb o e=>?_,os,bare⟩
    cases q:H b with
    | none=>exact un.keep b o e q (by intro z; exact absurd (show b∈([]:List Addr) from z) (by simp)) (by simp)
    | some u =>
     rcases hO b with z | ⟨ob,xs,z⟩
     ·rw [q] at z; cases z
     ·have z2:=un.frzs b ob _ z
      obtain ⟨e1,_⟩:=hok b _ z
      obtain ⟨e2,_⟩:=hok' b _ z2
      rw [e] at e1; cases e1
      exact e2
 cases hk:K.lookup a with
 | some o =>
  have e:=KX a o hk
  rw [ha] at e
  cases e
  refine core (λ_=>none) (λ_=>.inl rfl) (.inr ⟨_,vs.toArray,_,hk,rfl,rfl,rfl,by rw [Aq,lenV]; exact hl,by simpa using rv⟩) (λb u z=>by have z':(none:Option HO)=some u:=z; cases z') (λb z=>absurd rfl z) λz=>absurd rfl z
 | none =>
  refine core (λb=>if b=a then some (.frz { cls:=.type "list",data:=.seq vs.toArray } (.lst (ns.map V.int))) else none) (λb=>?_) (.inl (.inr ⟨{ cls:=.type "list",data:=.seq vs.toArray },if_pos rfl⟩)) (λb u z=>?_) (λb z=>?_) λ_=>hk
  ·by_cases hb:b=a
   ·exact .inr ⟨_,_,if_pos hb⟩
   ·exact .inl (if_neg hb)
  ·by_cases hb:b=a
   ·have z':=(if_pos hb).symm.trans z
    cases z'
    subst hb
    exact ⟨ha,by rw [Ab]; exact hl,vs,_,rv,ha⟩
   ·have z':=(if_neg hb).symm.trans z
    cases z'
  ·by_cases hb:b=a
   ·exact hb
   ·exact absurd (if_neg hb) z
noncomputable abbrev KOf {K:W.Frag} {h:Heap} (_:K.In h):PySem.W.Frag:=K
theorem Zl3 {l:PySem.W.OpenLaw} {n k:Nat} {q:Program} {loose:List Str} {XP:(Str->Option Value)->Heap->Prop} {YP:World->Heap->Prop} {d:DefRec} {K:Params->PySem.W.Frag} {CX:World->CXT} {sp:World->Sp} {x:Str}
  (hn:l.most=some n) (hn2:n<=sizeLine) (hdf:d.params.defaults=[]) (hr:Room k callerA)
  (hY:∀ (w:World) (h:Heap),YP w h->(K w.params).In h)
  (F:∀ (w:World) (mg:Str->Option Value) (fa:Addr) (h:Heap),(K w.params).In h->h.Ns mainGlobals mg->mg d.name=some (.ref fa) ->
   ∃ fd:FuncData,(∀ (s:Shared) (u:Value),BindsTo s fd ⟨[u],[]⟩ [(x,u)]) /\
    ∀ base:Heap,(K w.params).In base->base.Ns mainGlobals mg->FnOk l.prog w (K w.params) mg base (CX w) k fa fd [x] (sp w))
  (hsp:∀ (w:World) (H:Hp) (a:Addr) (ns:List Int),ns.length<=n->Only H->SqL (K w.params) H a (ns.map V.int)->sp w [.ref a] H (λv _=>v=.bl true) λ_ _ _=>False)
  (hCX:∀ (w:World) (H:Hp) (s:Shared) (e:Value) (s':Shared),CX w [] H s (λ_ _ _=>False) e s'->False) :
  PySem.W.WalkO q loose XP YP l.row.toRowW d [] (λf vs=>PySem.call f vs):=by
 refine Att.attach_call hn hdf λw s₀ s₁ mg mb fa o pm cd doc a vs ns G Y ho hd hcd hmg hobj hints hlen hg=>?_
 have KX:=hY w _ Y
 obtain ⟨fd,hb,hF⟩:=F w mg fa _ KX G.T.g hmg
 exact Zlb KX G.T.g G.T.b G.T.builtins G.T.nolimit hg hobj hints (Nat.le_trans hlen hn2) hr hF hb (λH hO hS=>hsp w H a ns hlen hO hS) λH e s'=>hCX w H s₁ e s'
noncomputable def X0 (s:Stmt) (j:Nat):Stmt:=match s with
 | .ClassDef _ _ _ body _ _ _ _ _ _ _=>body.getD j (.Pass ⟨0,0,0,0⟩)
 | _=>.Pass ⟨0,0,0,0⟩
noncomputable def Xg (s:Stmt):Arguments:=match s with
 | .FunctionDef _ a _ _ _ _ _ _ _ _=>a
 | _=>{ posonlyargs:=[],args:=[],vararg:=none,kwonlyargs:=[],kw_defaults:=[],kwarg:=none,defaults:=[] }
noncomputable def Yq (s:Stmt):List Stmt:=match s with
 | .FunctionDef _ _ b _ _ _ _ _ _ _=>b
 | _=>[]
noncomputable def Zg (s:Stmt):Scope:=match s with
 | .FunctionDef _ _ _ _ _ _ sc _ _ _=>sc
 | _=>{ kind:=.function,names:=[],isGenerator:=false,isCoroutine:=false }
noncomputable abbrev E0:XK:=λ_ _ _=>False
structure Fun (K:W.Frag) (x qual:Str) (st:Stmt) (f:Addr) (fd:FuncData):Prop where
 ex:∃ (oc:Value) (od:Option Addr) (kV doc pm:Value) (an:Option Addr) (cdv ct:Value) (osl:Array (Option Value)),
  fd=PySem.W.fnOf x qual (Xg st) (Yq st) (Zg st) .none kV doc pm an cdv ct/\K.lookup f=some ⟨oc,od,.func fd,osl⟩/\PySem.W.codeIn K cdv qual=true
 kp:PySem.W.keepIn K (.ref f)=true
section
variable {P:Program} {w:World} {K:W.Frag} {mg:Str->Option Value} {base:Heap}
theorem Fun.binds {x qual:Str} {st:Stmt} {f:Addr} {fd:FuncData} {ps:List Str} (F:Fun K x qual st f fd)
  (h:∀ (kV doc pm:Value) (an:Option Addr) (cdv ct:Value) (us:List Value),us.length=ps.length->bindArgs (PySem.W.fnOf x qual (Xg st) (Yq st) (Zg st) .none kV doc pm an cdv ct) ⟨us,[]⟩=pure (ps.zip us)):Wy K fd ps []:=by
 obtain ⟨oc,od,kV,doc,pm,an,cdv,ct,osl,rfl,lk,hcd⟩:=F.ex
 exact .all (h kV doc pm an cdv ct)
theorem F5 {x qual:Str} {st:Stmt} {f:Addr} {oc:Value} {od an:Option Addr} {osl:Array (Option Value)} {kV doc pm cdv ct:Value} (l:K.lookup f=some ⟨oc,od,.func (PySem.W.fnOf x qual (Xg st) (Yq st) (Zg st) .none kV doc pm an cdv ct),osl⟩)
  (c:PySem.W.codeIn K cdv qual=true) (k:PySem.W.keepIn K (.ref f)=true):Fun K x qual st f (PySem.W.fnOf x qual (Xg st) (Yq st) (Zg st) .none kV doc pm an cdv ct):=⟨⟨oc,od,kV,doc,pm,an,cdv,ct,osl,rfl,l,c⟩,k⟩
end
theorem Ww {A:Around} {k:Nat} (hr:Room k A):A.units + 1 < cLine:=Nat.lt_of_le_of_lt (Nat.add_le_add_left (by decide:1<=64) _) hr.units
theorem Zv {n:Nat} (h:n<=1000):n < sizeLine:=Nat.lt_of_le_of_lt h (by decide)
section
variable {X:Cx}
theorem pv (i:Nat) {x:Str} {pos:Pos} (hN:X.N[i]?=some x:=by rfl) (hv:Vis X.env.scope x:=by first | exact Or.inl rfl | exact Or.inr (Or.inl rfl) | exact Or.inr (Or.inr rfl)) (hd:(x == ("__debug__":Str))=false:=by decide)
  (hcd:(x == ("__classdict__":Str))=false:=by decide):PE X (.Name x pos) (tVar i):=Zod hN hv hd hcd
end
theorem iteF {A B:Prop} (h:B):if false=true then A else B:=by
 rw [if_neg Bool.false_ne_true]
 exact h
theorem iteT {A B:Prop} (h:A):if true=true then A else B:=by
 rw [if_pos rfl]
 exact h
theorem ite2 {c A B:Prop} [Decidable c] (h1:c->A) (h2:¬ c->B):if c then A else B:=by
 by_cases h:c
 ·rw [if_pos h]
  exact h1 h
 ·rw [if_neg h]
  exact h2 h
noncomputable def Same (H H':Hp):Prop:=∀ b o,H b=some o->H' b=some o
theorem Same.refl (H:Hp):Same H H:=λ_ _ h=>h
theorem Same.trans {H H1 H2:Hp} (a:Same H H1) (b:Same H1 H2):Same H H2:=λc o h=>b c o (a c o h)
theorem Same.free {H H':Hp} (e:Same H H') {l:Addr} (h:H' l=Option.none):H l=Option.none:=by
 cases q:H l with
 | none=>rfl
 | some o =>
  rw [e l o q] at h
  cases h
theorem Same.seq {K:W.Frag} {H H':Hp} {a:Addr} {xs:List V} (e:Same H H') (h:SqL K H a xs):SqL K H' a xs:=by
 rcases h with (h | ⟨o,h⟩) | h
 ·exact .inl (.inl (e _ _ h))
 ·exact .inl (.inr ⟨o,e _ _ h⟩)
 ·exact .inr h
noncomputable def Y7 (env:Env):List (Str × NameKind)->List (Str × Addr)->List (Str × Addr)
 | [],acc=>acc
 | (n,k) :: r,acc=>if (k == NameKind.free)=true then (match env.cells.lookup n with
  | some c=>Y7 env r ((n,c) :: acc)
  | none=>Y7 env r acc) else Y7 env r acc
theorem Jp {env:Env}:∀ (ns:List (Str × NameKind)) (acc:List (Str × Addr)),(∀ x c,acc.lookup x=some c->env.cells.lookup x=some c) ->
  ∀ x c,(Y7 env ns acc).lookup x=some c->env.cells.lookup x=some c
 | [],acc,h=>h
 | (n,k) :: r,acc,h=>by
  unfold Y7
  split
  ·cases e:env.cells.lookup n with
   | none=>exact Jp r acc h
   | some c =>
    refine Jp r _ λx d hx=>?_
    rw [List.lookup_cons] at hx
    cases hb:x == n with
    | true =>
     rw [hb] at hx
     cases hx
     rw [beq_iff_eq.mp hb]
     exact e
    | false =>
     rw [hb] at hx
     exact h x d hx
  ·exact Jp r acc h
theorem Jq {env:Env}:∀ (ns:List (Str × NameKind)) (acc:List (Str × Addr)) (x:Str),(∃ c,acc.lookup x=some c)->∃ c,(Y7 env ns acc).lookup x=some c
 | [],acc,x,h=>h
 | (n,k) :: r,acc,x,h=>by
  unfold Y7
  split
  ·cases e:env.cells.lookup n with
   | none=>exact Jq r acc x h
   | some c =>
    refine Jq r _ x ?_
    rw [List.lookup_cons]
    cases hb:x == n with
    | true=>exact ⟨c,rfl⟩
    | false=>exact h
  ·exact Jq r acc x h
theorem Q3 {env:Env}:∀ (ns:List (Str × NameKind)) (acc:List (Str × Addr)) (x:Str),(x,NameKind.free)∈ns->(∃ c,env.cells.lookup x=some c)->∃ c,(Y7 env ns acc).lookup x=some c
 | [],acc,x,h,_=>by cases h
 | (n,k) :: r,acc,x,h,hc=>by
  rcases Ar h with e | h
  ·cases e
   obtain ⟨c,hc⟩:=hc
   unfold Y7
   rw [if_pos (show (NameKind.free == NameKind.free)=true by decide),hc]
   exact Jq r _ n ⟨c,by rw [List.lookup_cons,beq_self_eq_true]⟩
  ·unfold Y7
   split
   ·cases e:env.cells.lookup n with
    | none=>exact Q3 r acc x h hc
    | some c=>exact Q3 r _ x h hc
   ·exact Q3 r acc x h hc
theorem Oi {env:Env} (f:Str × NameKind->List (Str × Addr)->Sem (ForInStep (List (Str × Addr))))
  (hf:∀ name kind cs,f (name,kind) cs=if (kind == NameKind.free)=true then (do let a <- cellOf env name; pure (.yield ((name,a) :: cs))) else pure (.yield cs)) :
  ∀ (ns:List (Str × NameKind)) (acc:List (Str × Addr)),(∀ y∈ns,y.2=.free->∃ c,env.cells.lookup y.1=some c)->forIn ns acc f=pure (Y7 env ns acc)
 | [],acc,_=>by rw [List.forIn_nil]; rfl
 | (n,k) :: r,acc,h=>by
  rw [List.forIn_cons,hf]
  unfold Y7
  have hr:∀ y∈r,y.2=.free->∃ c,env.cells.lookup y.1=some c:=λy hy=>h y (List.mem_cons_of_mem _ hy)
  split
  ·rename_i hk
   obtain ⟨c,hc⟩:=h (n,k) List.mem_cons_self (by simpa using hk)
   have hc':env.cells.lookup n=some c:=hc
   have e:cellOf env n=pure c:=by unfold cellOf; rw [hc']
   rw [e,hc']
   exact Oi f hf r ((n,c) :: acc) hr
  ·exact Oi f hf r acc hr
theorem Q2 {env:Env} {scope:Scope} (h:∀ y∈scope.names,y.2=.free->∃ c,env.cells.lookup y.1=some c):closureFor scope env=pure (Y7 env scope.names []):=by
 unfold closureFor
 dsimp only
 rw [Oi (env:=env) _ (λname kind cs=>by split <;> rfl) scope.names [] h]
 rfl
theorem Qj (env:Env):∀ (names:List (Str × NameKind)) (x:Str),
  (names.map λ(n,k)=>if (k == NameKind.free && env.scope.kind == .function && env.kindOf n == some .cell) then (n,NameKind.cell) else (n,k)).lookup x =
   (names.lookup x).map λk=>if (k == NameKind.free && env.scope.kind == .function && env.kindOf x == some .cell)=true then NameKind.cell else k
 | [],_=>rfl
 | (n,k) :: r,x=>by
  have ih:=Qj env r x
  have e:(if (k == NameKind.free && env.scope.kind == .function && env.kindOf n == some .cell)=true then (n,NameKind.cell) else (n,k))=(n,if (k == NameKind.free && env.scope.kind == .function && env.kindOf n == some .cell)=true then NameKind.cell else k):=by split <;> rfl
  show List.lookup x ((if (k == NameKind.free && env.scope.kind == .function && env.kindOf n == some .cell)=true then (n,NameKind.cell) else (n,k)) :: _)=_
  rw [e,List.lookup_cons,List.lookup_cons]
  cases hx:x == n with
  | true =>
   have e2:x=n:=beq_iff_eq.mp hx
   subst e2
   rfl
  | false=>exact ih
theorem Kb {env:Env} {names:List (Str × NameKind)} {x:Str} {k:NameKind} (hc:∀ y∈names,y.2≠.cell)
  (h:(names.map λ(n,k)=>if (k == NameKind.free && env.scope.kind == .function && env.kindOf n == some .cell) then (n,NameKind.cell) else (n,k)).lookup x=some k) (hk:k=.cell\/k=.free):names.lookup x=some .free:=by
 rw [Qj] at h
 cases e:names.lookup x with
 | none=>rw [e] at h; cases h
 | some k' =>
  rw [e] at h
  have hk':k'≠.cell:=hc _ (PySem.mem_of_lookup e)
  have h':(if (k' == NameKind.free && env.scope.kind == .function && env.kindOf x == some .cell)=true then NameKind.cell else k')=k:=Ax h
  split at h'
  ·rename_i q
   simp only [Bool.and_eq_true,beq_iff_eq] at q
   rw [q.1.1]
  ·subst h'
   rcases hk with z | z
   ·exact absurd z hk'
   ·rw [z]
theorem Fq {env:Env} {names:List (Str × NameKind)} {x:Str} (h:names.lookup x=some .free) :
  (names.map λ(n,k)=>if (k == NameKind.free && env.scope.kind == .function && env.kindOf n == some .cell) then (n,NameKind.cell) else (n,k)).lookup x≠some .local:=by
 rw [Qj,h]
 intro z
 have z':(if (NameKind.free == NameKind.free && env.scope.kind == .function && env.kindOf x == some .cell)=true then NameKind.cell else NameKind.free)=.local:=Ax z
 split at z' <;> cases z'
noncomputable def Yd (X:Cx) (N':List Str) (scope:Scope) (C:Addr) (s₀:Shared) (H₀:Hp) (ex:List Addr):Cx :=
 { X with N:=N',s₀:=s₀,H₀:=H₀,env:=compEnvC scope (Y7 X.env scope.names []) C X.env,outer:=X.stack,ex:=ex,fn:=λ_=>false,pn:=[],xe:=λ_ _=>False }
noncomputable def FvOk (X:Cx) (scope:Scope):List (Str × Nat)->Prop
 | []=>True
 | (x,j) :: r=>(X.N[j]?=some x/\scope.names.lookup x=some .free/\(X.env.kindOf x=some .cell\/X.env.kindOf x=some .free))/\FvOk X scope r
theorem FvOk.mem {X:Cx} {scope:Scope}:∀ {l:List (Str × Nat)},FvOk X scope l->∀ y∈l,X.N[y.2]?=some y.1/\scope.names.lookup y.1=some .free/\(X.env.kindOf y.1=some .cell\/X.env.kindOf y.1=some .free)
 | [],_,_,h=>by cases h
 | (x,j) :: r,h,y,hy=>by
  rcases Ar hy with e | hy
  ·cases e; exact h.1
  ·exact FvOk.mem h.2 y hy
noncomputable def blkN (ts:List Str) (fv:List (Str × Nat)):List Str:=ts ++ fv.map (·.1)
noncomputable def blkS (ts:List Str) (fv:List (Str × Nat)) (σ:St):St:=ts.map (λ_=>none) ++ fv.map λy=>(σ[y.2]?).join
structure BlkOk (X:Cx) (scope:Scope) (fv:List (Str × Nat)):Prop where
 kind:scope.kind=.function
 nocell:∀ y∈scope.names,y.2≠.cell
 names:∀ y∈scope.names,y.2=.local->scope.names.lookup y.1=some .local
 free:∀ y∈scope.names,y.2=.free->X.env.kindOf y.1=some .cell\/X.env.kindOf y.1=some .free
 fvs:FvOk X scope fv
section
variable {X:Cx} {pins:List (Addr × Obj)} {σ:St} {H:Hp} {s:Shared} {scope:Scope} {ts:List Str} {fv:List (Str × Nat)}
theorem Zbx {h':Heap} {fp:List Addr} {tk:Nat} (B:BlkOk X scope fv) (I:Inv X pins σ H s) (hf:∀ b∈fp,FpOk X pins H b) (ho:∀ b∈fp,∃ o,s.heap.get? b=some o)
  (hn:h'.Ns s.heap.objs.size (λ_=>none)) (hk:∀ b o,s.heap.get? b=some o->h'.get? b=some o) :
  Inv (Yd X (blkN ts fv) scope s.heap.objs.size s H fp) [] (blkS ts fv σ) H { s with heap:=h',toks:=tk }:=by
 have has:∀ y∈scope.names,y.2=.free->∃ c,X.env.cells.lookup y.1=some c:=λy hy e=>I.ok.has y.1 (B.free y hy e)
 have snd:∀ x c,(Y7 X.env scope.names []).lookup x=some c->X.env.cells.lookup x=some c:=Jp _ _ (λx c h=>by simp at h)
 have fr:∀ x,(scope.names.lookup x=some .free)->∃ c,(Y7 X.env scope.names []).lookup x=some c:=λx hx =>
  Q3 _ _ x (PySem.mem_of_lookup hx) (has _ (PySem.mem_of_lookup hx) rfl)
 have nfs:∀ b∈fp,b ∉ frs X.stack:=λb hb z=>by
  obtain ⟨_,h1,h2,_⟩:=hf b hb
  rcases Ar (I.stkSub b z) with e | e
  ·exact h1 e
  ·exact h2 e
 have lt:∀ b∈fp,b < s.heap.objs.size:=λb hb=>let ⟨o,e⟩:=ho b hb; Ao e
 refine ⟨⟨I.ok.mod,?_,I.ok.glob,I.ok.blt,An _,λx y c h1 h2=>I.ok.inj x y c (snd x c h1) (snd y c h2),λx hx=>?_,λ_ _ h=>absurd (show false=true from h) Bool.false_ne_true,I.ok.hd,I.ok.frames,.inl rfl,λb hb=>⟨As (lt b hb),λx c e=>(hf b hb).2.2.2.2.1 x c (snd x c e)⟩,I.bs,Nat.le_trans I.ok.bsz I.sz,λb o e hb=>?_,nfs,I.stack,I.stkFree⟩,
  rfl,I.bare,Un.kept hk,⟨_,hn,λi x v h1 h2 h3=>?_⟩,λx c e=>?_,I.fresh,λx c e=>I.freeC x c (snd x c e),λp hp=>?_,I.hok.kept hk,?_⟩
 ·exact B.kind
 ·refine fr x ?_
  have hx':(relabel scope X.env).names.lookup x=some .cell\/(relabel scope X.env).names.lookup x=some .free:=hx
  rcases hx' with e | e
  ·exact Kb B.nocell e (.inl rfl)
  ·exact Kb B.nocell e (.inr rfl)
 ·rcases (hf b hb).2.2.2.1 with z | z
  ·exact I.ok.noex b o e z
  ·exact absurd (Ag (Ao e) (Nat.le_trans I.ok.bsz z)) (Nat.lt_irrefl _)
 ·have h1:(ts ++ fv.map (·.1))[i]?=some x:=h1
  have h2:(ts.map (λ_=>(none:Option V)) ++ fv.map λy=>(σ[y.2]?).join)[i]?=some (some v):=h2
  by_cases hi:i < ts.length
  ·rw [Av (by simpa using hi),Ah] at h2
   cases e:ts[i]? with
   | none=>rw [e] at h2; cases h2
   | some z=>rw [e] at h2; cases h2
  ·rw [List.getElem?_append_right (by simpa using hi),Ab,Ah] at h2
   rw [List.getElem?_append_right (by simpa using hi),Ah] at h1
   cases e:fv[i - ts.length]? with
   | none=>rw [e] at h2; cases h2
   | some y =>
    rw [e] at h1 h2
    have e1:y.1=x:=by simpa using h1
    have e2:(σ[y.2]?).join=some v:=by simpa using h2
    obtain ⟨f1,f2,f3⟩:=B.fvs.mem y (Au e)
    have e3:σ[y.2]?=some (some v):=by
     cases q:σ[y.2]? with
     | none=>rw [q] at e2; cases e2
     | some z=>rw [q] at e2; exact congrArg some e2
    obtain ⟨m,hm,hl⟩:=I.loc
    obtain ⟨u,r,l⟩:=hl y.2 y.1 v f1 e3 (by rcases f3 with z | z; exact .inr (.inl z); exact .inr (.inr z))
    rw [e1] at f2 f3 l
    refine ⟨u,r,?_⟩
    obtain ⟨c,hc⟩:=fr x f2
    have hc':=snd x c hc
    rcases l with ⟨l1,_⟩ | ⟨_,c2,l2,l3⟩
    ·rcases f3 with z | z
     ·rw [l1] at z; cases z
     ·rw [l1] at z; cases z
    ·rw [hc'] at l2
     cases l2
     have hv:Vis (relabel scope X.env) x:=h3
     rcases hv with z | z | z
     ·exfalso
      exact Fq f2 z
     ·exact .inr ⟨.inl z,c,hc,l3.keeps hk⟩
     ·exact .inr ⟨.inr z,c,hc,l3.keeps hk⟩
 ·obtain ⟨v,z⟩:=I.cell x c (snd x c e)
  exact ⟨v,z.keeps hk⟩
 ·exact absurd (show p∈([]:List (Addr × Obj)) from hp) (by simp)
 ·show (ts.map (λ_=>(none:Option V)) ++ fv.map λy=>(σ[y.2]?).join).length=(ts ++ fv.map (·.1)).length
  simp
theorem Inv.apart {C:Addr} {h':Heap} (I:Inv X pins σ H s) (hs:Heap.SameBut C s.heap h') (hC:H C=none) (h0:X.s₀.heap.objs.size<=C) (hL:C≠X.env.locals) (hc:∀ x c,X.env.cells.lookup x=some c->c≠C) (hp:∀ p∈X.pn ++ pins,p.1≠C) :
  Inv X pins σ H { s with heap:=h' } :=
 I.turned (t':=s.toks) (it:=C) (λb o hb e=>(hs.2 b hb).trans e) hC hL (.inr h0) hc hp
theorem Zf9 {s':Shared} {H':Hp} {σ':St} {C:Addr} {N':List Str} {fp:List Addr} (I:Inv X pins σ H s) (hf:∀ b∈fp,FpOk X pins H b) (hC:s.heap.objs.size<=C)
  (J:Inv (Yd X N' scope C s H fp) [] σ' H' s'):Inv X pins σ H' s'/\H' C=none/\X.s₀.heap.objs.size<=C/\C≠X.env.locals/\(∀ x c,X.env.cells.lookup x=some c->c≠C)/\(∀ p∈X.pn ++ pins,p.1≠C):=by
 refine ⟨I.call' J.os J.base J.hok J.bare λb hb=>?_,J.free,Nat.le_trans I.sz hC,Nat.ne_of_gt (Ag I.lt hC),λx c e z=>?_,λp hp z=>?_⟩
 ·obtain ⟨_,h1,_,h3,h4,h5⟩:=hf b hb
  exact ⟨h3,h1,h4,h5⟩
 ·obtain ⟨v,q⟩:=I.cell x c e
  exact absurd (Ag q.lt (by rw [z]; exact hC)) (Nat.lt_irrefl _)
 ·exact absurd (Ag (Ao (I.pin p hp).1) (by rw [z]; exact hC)) (Nat.lt_irrefl _)
end
noncomputable abbrev TB:=St->Hp->(St->Hp->Prop)->Prop
noncomputable def PTs (X:Cx) (ifs:List Expr) (t:TT):Prop :=
 ∀ (pins:List (Addr × Obj)) (s:Shared) (σ:St) (H:Hp) (Q:Bool->Hp->Prop),Inv X pins σ H s->t σ H Q ->
  wpAny (model X.prog X.w) X.A (forIn ifs true λc r=>if r=true then do let ok <- isTrue c X.env (eval c X.env); pure (ForInStep.yield ok) else pure (ForInStep.yield r)) (TP X pins σ Q) X.xe s
noncomputable def tYes:TT:=λ_ H Q=>Q true H
theorem Yp {X:Cx}:PTs X [] tYes:=λpins s σ H Q I h=>wpAny_tests_nil ⟨H,I,h⟩
theorem Jw {X:Cx} {c:Expr} {t:TT} (h:PT X c t):PTs X [c] t:=λpins s σ H Q I hq=>wpAny_tests_one (h pins s σ H Q I hq)
noncomputable def PB (X:Cx) (kont:Sem Fin) (c:Code) (t:TB):Prop :=
 ∀ (pins:List (Addr × Obj)) (s:Shared) (σ:St) (H:Hp) (N:St->Hp->Prop),Inv X pins σ H s->t σ H N ->
  wpAny (model X.prog X.w) X.A kont (λfin s'=>fin=.again c/\∃ σ' H',Inv X pins σ' H' s'/\N σ' H') X.xe s
noncomputable def Jr (J:It) (g:TG) (tt:TT) (tb:TB) (R:St->Hp->Prop) (σ:St) (H:Hp):Prop :=
 ∃ W:Nat->Nat->St->Hp->Prop,(∃ m,W 0 m σ H)/\∀ i m σ H,W i m σ H ->
  (J.stop i H/\R σ H)\/(J.go i H/\∃ N:St->Hp->Prop,(∀ σ' H',N σ' H'->∃ m',m' < m/\W (i + 1) m' σ' H') /\
   ∀ x H',J.yld i H x H'->g x σ H' λσ2 H2=>tt σ2 H2 λb H3=>if b=true then tb σ2 H3 N else N σ2 H3)
section
variable {X:Cx}
theorem Kl {e tg:Expr} {d:Nat} {acc:Value} {ifs:List Expr} {kont:Sem Fin} {J:It} {fp:List Addr} {it:Addr} {tn:Nat->Heap->Prop} {g:TG} {tt:TT} {tb:TB} {p:Pos} {pins:List (Addr × Obj)} {s:Shared} {σ:St} {H:Hp} {R:St->Hp->Prop}
  {RR:Result->Shared->Prop} (hxe:X.xe=λ_ _=>False)
  (hcq:Code.quiet (.compLoop e d (.ref it) acc X.env)=true) (hden:(model X.prog X.w).den (.compLoop e d (.ref it) acc X.env)=(compTurn e d (.ref it) acc X.env).onRaise (λx=>do noteFrame x X.env; theTreesLotGoes x))
  (hund:X.A.under (.compLoop e d (.ref it) acc X.env)=X.A)
  (heq:compTurn e d (.ref it) acc X.env=(standAt p >>= λ_=>pyNext (.ref it) >>= λr=>match r with
   | none=>pure (.done .next)
   | some v=>letOwnedTupleGo tg (.ref it) v >>= λ_=>assign tg X.env v >>= λ_ =>
    (forIn ifs true λc r=>if r=true then do let ok <- isTrue c X.env (eval c X.env); pure (ForInStep.yield ok) else pure (ForInStep.yield r)) >>= λok =>
     if ok=true then kont else again (.compLoop e d (.ref it) acc X.env)))
  (T:Turn X.prog X.w X.K tg J fp it tn) (hc:X.calm=true) (hg:PG X tg g) (ht:PTs X ifs tt) (hb:PB X kont (.compLoop e d (.ref it) acc X.env) tb)
  (hf:∀ b∈fp,FpOk X pins H b) (I:Inv X pins σ H s) (st:tn 0 s.heap) (h:Jr J g tt tb R σ H)
  (hR:∀ s' σ' H',Inv X pins σ' H' s'->R σ' H'->RR (.ok .next) s') :
  codeAny (model X.prog X.w) X.A (.compLoop e d (.ref it) acc X.env) RR s:=by
 obtain ⟨W,⟨m0,w0⟩,turn⟩:=h
 have stat:∀ {H':Hp},(∀ b∈fp,H' b=none)->∀ b∈fp,FpOk X pins H' b:=λhn b hb=>⟨hn b hb,(hf b hb).2⟩
 refine codeAny_loop hcq (λn s'=>∃ i σ' H',Inv X pins σ' H' s'/\tn i s'.heap/\(∀ b∈fp,H' b=none)/\W i n σ' H') ?_ m0 ⟨0,σ,H,I,st,λb hb=>(hf b hb).1,w0⟩
 rintro n s3 ⟨i,σ3,H3,I3,st3,fr3,w3⟩
 rw [hden,hund]
 refine wpAny_noted (wpAny_mono (E:=λ_ _=>False) ?_ (λ_ _ q=>q) λ_ _ z=>z.elim)
 rw [heq]
 have hxe':∀ {α:Type} {t:Sem α} {Q:α->Shared->Prop} {s:Shared},wpAny (model X.prog X.w) X.A t Q X.xe s->wpAny (model X.prog X.w) X.A t Q (λ_ _=>False) s:=λh=>by rw [hxe] at h; exact h
 refine Al (wpAny_standAt (Al ?_))
 rcases turn i n σ3 H3 w3 with ⟨stop,qn⟩ | ⟨go,N,hN,step⟩
 ·refine thn (T.done X rfl rfl rfl hc i pins s3 σ3 H3 _ I3 (stat fr3) st3 stop) λr s4 ⟨hr,I4⟩=>?_
  subst hr
  exact wpAny_pure (hR s4 σ3 H3 I4 qn)
 ·refine thn (T.item X rfl rfl rfl hc i pins s3 σ3 H3 _ I3 (stat fr3) st3 go) λr s4 ⟨u,hr,h4⟩=>?_
  subst hr
  refine Al (thn h4 λ_ s5 zz9=>?_)
  obtain ⟨x,H5,I5,r5,y5,st5,fr5⟩:=zz9
  have I5':=I5.pinned (stat fr5) (T.obj _ _ st5)
  refine Al (hxe' (thn (hg _ s5 σ3 H5 x u _ I5' r5 (step x H5 y5)) λ_ s6 zz9=>?_))
  obtain ⟨σ6,H6,I6,q6⟩:=zz9
  refine Al (hxe ▸ thn (ht _ s6 σ6 H6 _ I6 q6) λok s7 zz9=>?_)
  obtain ⟨H7,I7,q7⟩:=zz9
  have back:∀ {σ7:St} {H7:Hp} {s7:Shared},Inv X (pins ++ Ut fp s5.heap) σ7 H7 s7->N σ7 H7->∃ m,m < n/\∃ i σ' H',Inv X pins σ' H' s7/\tn i s7.heap/\(∀ b∈fp,H' b=none)/\W i m σ' H':=λ{σ7 H7 s7} I7 n7=>by
   obtain ⟨m',hm,w7⟩:=hN σ7 H7 n7
   refine ⟨m',hm,i + 1,σ7,H7,I7.unpinned,T.keep _ _ _ st5 λb hb o e=>(I7.pin (b,o) (List.mem_append_right _ (List.mem_append_right _ (Jf hb e)))).1,λb hb=>?_,w7⟩
   obtain ⟨o,e,d⟩:=T.obj _ _ st5 b hb
   exact (I7.pin (b,o) (List.mem_append_right _ (List.mem_append_right _ (Jf hb e)))).2.1
  cases ok with
  | false=>exact hxe ▸ wpAny_pure ⟨rfl,back I7 q7⟩
  | true =>
   refine thn (hb _ s7 σ6 H7 N I7 q7) λfin s8 zz9=>?_
   obtain ⟨hfin,σ8,H8,I8,q8⟩:=zz9
   subst hfin
   exact ⟨rfl,back I8 q8⟩
end
noncomputable def Zgg (te:TE) (D:Addr):TB:=λσ H N=>te σ H λv H1=>∃ xs,H1 D=some (.lst xs)/\xs.length < sizeLine/\N σ (upd H1 D (.lst (xs ++ [v])))
section
variable {X:Cx}
theorem Ym {elt:Expr} {te:TE} {D:Addr} {c:Code} (he:PE X elt te) :
  PB X ((eval elt X.env >>= λx=>call (.builtin "list.append") [.ref D,x] >>= λ_=>pure ()) >>= λ_=>again c) c (Zgg te D):=by
 intro pins s σ H N I h
 refine Al (Al (thn (he pins s σ H _ I h) λu s1 zz9=>?_))
 obtain ⟨v,H1,I1,r1,q1⟩:=zz9
 obtain ⟨xs,hD,hl,q⟩:=q1
 refine Al (thn (Xi pins s1 σ H1 (.ref D) [v] (.ref D) [u] (λ_ H2=>N σ H2) I1 rfl (.cons r1 .nil) ⟨D,xs,v,rfl,rfl,hD,hl,q⟩) λ_ s2 zz9=>?_)
 obtain ⟨_,H2,I2,_,q2⟩:=zz9
 exact wpAny_pure (wpAny_pure ⟨rfl,σ,H2,I2,q2⟩)
noncomputable def tGen (wi:TI) (g:TG) (tt:TT) (tb:TB):TB:=λσ H N=>wi σ H λJ H1=>Jr J g tt tb N σ H1
theorem Zhc {prog:Program} {w:World} {A:Around} {R:Result->Shared->Prop} {s:Shared} {elt:Expr} {t0 i0:Expr} {f0:List Expr} {t1 i1:Expr} {f1:List Expr} {scope:Scope} {pos:Pos} {it acc:Value} {env:Env}
  (h0:codeAny (model prog w) A (.compLoop (.ListComp elt [⟨t0,i0,f0,0⟩,⟨t1,i1,f1,0⟩] scope pos) 1 it acc env) R s)
  (h:wpAny (model prog w) A (pyIter it) (λit' s'=>codeAny (model prog w) A (.compLoop (.ListComp elt [⟨t0,i0,f0,0⟩,⟨t1,i1,f1,0⟩] scope pos) 1 it' acc env) R s')
   (notedBy (model prog w) A env λx s'=>R (.error x) s') s) :
  codeAny (model prog w) A (.compStart (.ListComp elt [⟨t0,i0,f0,0⟩,⟨t1,i1,f1,0⟩] scope pos) 1 it acc env) R s:=by
 refine codeAny_of_tree ?_
 show wpAny _ _ ((compStart (.ListComp elt [⟨t0,i0,f0,0⟩,⟨t1,i1,f1,0⟩] scope pos) 1 it acc env).onRaise (λx=>do noteFrame x env; standAt theWindowsPlace)) _ _ s
 refine wpAny_notedAt ?_
 unfold compStart
 show wpAny _ _ (ask >>= _) _ _ s
 refine Al (wpAny_askSetting (wpAny_ite ?_))
 split
 ·first
   | exact Al (wpAny_pure (wpAny_pure (And.intro rfl h0)))
   | exact wpAny_pure (And.intro rfl h0)
 ·first
   | exact Al (wpAny_rule (Al (wpAny_standAt (Al (wpAny_mono h (λit' s' h'=>wpAny_pure (And.intro rfl h')) λ_ _ x=>x)))))
   | (refine Al (wpAny_rule ?_); show wpAny _ _ (standAt i1.pos >>= _) _ _ s; exact Al (wpAny_standAt (Al (wpAny_mono h (λit' s' h'=>wpAny_pure (And.intro rfl h')) λ_ _ x=>x))))
theorem Ziv {elt t0 i0 t1 i1:Expr} {f0 f1:List Expr} {scope:Scope} {pos:Pos} {D:Addr} {c:Code} {wi:TI} {g:TG} {tt:TT} {te:TE} (hxe:X.xe=λ_ _=>False) (hc:X.calm=true)
  (hi:PI X t1 i1 wi) (hg:PG X t1 g) (ht:PTs X f1 tt) (he:PE X elt te) (hs:∀ x,foldedSetIterable i1 X.env x=pure x:=by intro _; rfl) :
  PB X (eval i1 X.env >>= λx=>standAt i1.pos >>= λ_=>foldedSetIterable i1 X.env x >>= λx=>holding [x] (pyIter x) >>= λit =>
   runOwn (.compStart (.ListComp elt [⟨t0,i0,f0,0⟩,⟨t1,i1,f1,0⟩] scope pos) 1 it (.ref D) X.env) X.env >>= λ_=>again c) c (tGen wi g tt (Zgg te D)):=by
 intro pins s σ H N I h
 refine Al (thn (hi pins s σ H _ I h) λv s1 h1=>Al (wpAny_standAt ?_))
 rw [hs]
 refine Al (wpAny_pure (Al (wpAny_holding (thn h1 λitv s2 h2=>?_))))
 obtain ⟨it,fp,tn,J,H2,e,I2,T,st2,f2,L⟩:=h2
 subst e
 have loop:∀ (A:Around),A=X.A->codeAny (model X.prog X.w) A (.compLoop (.ListComp elt [⟨t0,i0,f0,0⟩,⟨t1,i1,f1,0⟩] scope pos) 1 (.ref it) (.ref D) X.env)
   (λr s'=>match r with | .ok f=>wpAny (model X.prog X.w) X.A (again c) (λfin s'=>fin=.again c/\∃ σ' H',Inv X pins σ' H' s'/\N σ' H') X.xe s' | .error e=>cameBackBy (model X.prog X.w) X.A X.env X.xe e s') s2:=by
  rintro A rfl
  exact Kl (tg:=t1) (ifs:=f1) (R:=N) hxe rfl rfl rfl rfl T hc hg ht (Ym (c:=.compLoop (.ListComp elt [⟨t0,i0,f0,0⟩,⟨t1,i1,f1,0⟩] scope pos) 1 (.ref it) (.ref D) X.env) he) f2 I2 st2 L λs' σ' H' I' q=>wpAny_pure ⟨rfl,σ',H',I',q⟩
 refine Al (wpAny_runOwn (h:=none) ?_)
 exact Zhc (loop _ rfl) (T.self _ _ _ _ _ st2 (loop _ rfl))
end
noncomputable def Zgh (ts:List Str) (fv:List (Str × Nat)) (wi:TI) (g:TG) (tt:TT) (tb:Addr->TB):TE:=λσ H Q=>wi σ H λJ H1=>∀ D,H1 D=none ->
 Jr J g tt (tb D) (λ_ H'=>Q (.ref D) H') (blkS ts fv σ) (upd H1 D (.lst []))
section
variable {X:Cx} {ts:List Str} {fv:List (Str × Nat)} {scope:Scope} {elt t0 i0:Expr} {f0:List Expr} {rest:List Comprehension} {pos:Pos} {wi:TI} {g:TG} {tt:TT} {tb:Addr->TB} {kont:Env->Addr->Addr->Sem Fin}
theorem Zbv (B:BlkOk X scope fv) (hc:X.calm=true) (hi:PI X t0 i0 wi)
  (hg:∀ C s₀ H₀ ex,PG (Yd X (blkN ts fv) scope C s₀ H₀ ex) t0 g) (ht:∀ C s₀ H₀ ex,PTs (Yd X (blkN ts fv) scope C s₀ H₀ ex) f0 tt)
  (heq:∀ (env:Env) (it D:Addr),compTurn (.ListComp elt (⟨t0,i0,f0,0⟩ :: rest) scope pos) 0 (.ref it) (.ref D) env=(standAt i0.pos >>= λ_=>pyNext (.ref it) >>= λr=>match r with
   | none=>pure (.done .next)
   | some v=>letOwnedTupleGo t0 (.ref it) v >>= λ_=>assign t0 env v >>= λ_ =>
    (forIn f0 true λc r=>if r=true then do let ok <- isTrue c env (eval c env); pure (ForInStep.yield ok) else pure (ForInStep.yield r)) >>= λok =>
     if ok=true then kont env it D else again (.compLoop (.ListComp elt (⟨t0,i0,f0,0⟩ :: rest) scope pos) 0 (.ref it) (.ref D) env)))
  (hb:∀ C s₀ H₀ ex it D,PB (Yd X (blkN ts fv) scope C s₀ H₀ ex) (kont (Yd X (blkN ts fv) scope C s₀ H₀ ex).env it D) (.compLoop (.ListComp elt (⟨t0,i0,f0,0⟩ :: rest) scope pos) 0 (.ref it) (.ref D) (Yd X (blkN ts fv) scope C s₀ H₀ ex).env) (tb D))
  {pins:List (Addr × Obj)} {s:Shared} {σ:St} {H:Hp} {Q:VK} {RR:Value->Addr->Result->Shared->Prop} (I:Inv X pins σ H s) (h:Zgh ts fv wi g tt tb σ H Q)
  (hRR:∀ D C s' H',Inv X pins σ H' s'->H' C=none->X.s₀.heap.objs.size<=C->C≠X.env.locals->(∀ x c,X.env.cells.lookup x=some c->c≠C)->(∀ p∈X.pn ++ pins,p.1≠C)->(∃ m,s'.heap.Ns C m)->Q (.ref D) H'->RR (.ref D) C (.ok .next) s') :
  wpAny (model X.prog X.w) X.A (eval i0 X.env) (λx s₁=>wpAny (model X.prog X.w) X.A (pyIter x) (λit s₂=>wpAny (model X.prog X.w) X.A (newList []) (λacc s₃ =>
   wpAny (model X.prog X.w) X.A (newFunctionEnv scope X.env.globals (Y7 X.env scope.names []) [] X.env.qual none .none (some X.env)) (λcenv s₄ =>
    codeAny (model X.prog X.w) X.A (.compStart (.ListComp elt (⟨t0,i0,f0,0⟩ :: rest) scope pos) 0 it acc { cenv with scope:=relabel scope X.env }) (RR acc cenv.locals) s₄) X.xe s₃) X.xe s₂) X.xe s₁) X.xe s:=by
 refine thn (hi pins s σ H _ I h) λv s1 h1=>thn h1 λitv s2 h2=>?_
 obtain ⟨it,fp,tn,J,H2,e,I2,T,st2,f2,L⟩:=h2
 subst e
 have L:=L s2.heap.objs.size I2.fresh
 refine wpAny_newObj_type ?_
 have I3:Inv X pins σ (upd H2 s2.heap.objs.size (.lst [])) { s2 with heap:=s2.heap.push { cls:=.type "list",data:=.seq ([]:List Value).toArray },toks:=s2.toks }:=I2.lnew (its:=[]) (t':=s2.toks) .nil (Az _)
 have ho2:∀ b∈fp,∃ o,s2.heap.get? b=some o/\∀ v,o.data≠.cell v:=T.obj _ _ st2
 have f3:∀ b∈fp,FpOk X pins (upd H2 s2.heap.objs.size (.lst [])) b:=λb hb=>by
  obtain ⟨o,ho,_⟩:=ho2 b hb
  refine ⟨?_,(f2 b hb).2⟩
  rw [Zd (As (Ao ho))]
  exact (f2 b hb).1
 have st3:tn 0 (s2.heap.push { cls:=.type "list",data:=.seq ([]:List Value).toArray }):=T.keep _ _ _ st2 λb _ o e=>Ak _ e
 have ho3:∀ b∈fp,∃ o,(s2.heap.push { cls:=.type "list",data:=.seq ([]:List Value).toArray }).get? b=some o:=λb hb=>let ⟨o,e,_⟩:=ho2 b hb; ⟨o,Ak _ e⟩
 generalize hs3:({ s2 with heap:=s2.heap.push { cls:=.type "list",data:=.seq ([]:List Value).toArray },toks:=s2.toks }:Shared)=s3 at I3
 have eh:s2.heap.push { cls:=.type "list",data:=.seq ([]:List Value).toArray }=s3.heap:=by rw [<- hs3]
 rw [eh] at st3 ho3
 refine wpAny_newFunctionEnv B.nocell (by intro y hy; simp at hy) (λh₁ hns hsb=>?_) B.kind
 have hk:∀ b o,s3.heap.get? b=some o->h₁.get? b=some o:=λb o e=>hsb.extBut b o (As (Ao e)) (Ak _ e)
 have I4:=Zbx (ts:=ts) (tk:=s3.toks + ([]:List (Str × Value)).length) B I3 f3 ho3 hns hk
 have f4:∀ b∈fp,FpOk (Yd X (blkN ts fv) scope s3.heap.objs.size s3 (upd H2 s2.heap.objs.size (.lst [])) fp) [] (upd H2 s2.heap.objs.size (.lst [])) b:=λb hb=>by
  obtain ⟨f0,f1,f2',f3',f4',f5'⟩:=f3 b hb
  obtain ⟨o,eo⟩:=ho3 b hb
  exact ⟨f0,As (Ao eo),I4.ok.exfs b hb,.inl hb,(I4.ok.exf b hb).2,λp hp=>absurd (show p∈([]:List (Addr × Obj)) from hp) (by simp)⟩
 have st4:tn 0 h₁:=T.keep _ _ _ st3 λb _ o e=>hk b o e
 have loop:codeAny (model X.prog X.w) X.A (.compLoop (.ListComp elt (⟨t0,i0,f0,0⟩ :: rest) scope pos) 0 (.ref it) (.ref s2.heap.objs.size) (Yd X (blkN ts fv) scope s3.heap.objs.size s3 (upd H2 s2.heap.objs.size (.lst [])) fp).env)
   (RR (.ref s2.heap.objs.size) s3.heap.objs.size) { s3 with heap:=h₁,toks:=s3.toks + ([]:List (Str × Value)).length }:=by
  refine Kl (X:=Yd X (blkN ts fv) scope s3.heap.objs.size s3 (upd H2 s2.heap.objs.size (.lst [])) fp) (tg:=t0) (ifs:=f0) (R:=λ_ H'=>Q (.ref s2.heap.objs.size) H') rfl rfl rfl rfl (heq _ it s2.heap.objs.size) T hc (hg _ _ _ _) (ht _ _ _ _) (hb _ _ _ _ it s2.heap.objs.size) f4 I4 st4 L λs' σ' H' J' q=>?_
  obtain ⟨e1,e2,e3,e4,e5,e6⟩:=Zf9 I3 f3 (An _) J'
  obtain ⟨m,hm,_⟩:=J'.loc
  exact hRR _ _ s' H' e1 e2 e3 e4 e5 e6 ⟨m,hm⟩ q
 exact codeAny_compStart_list loop (T.self _ _ _ _ _ st4 loop)
theorem Y4 (B:BlkOk X scope fv) (hc:X.calm=true) (hi:PI X t0 i0 wi)
  (hg:∀ C s₀ H₀ ex,PG (Yd X (blkN ts fv) scope C s₀ H₀ ex) t0 g) (ht:∀ C s₀ H₀ ex,PTs (Yd X (blkN ts fv) scope C s₀ H₀ ex) f0 tt)
  (heq:∀ (env:Env) (it D:Addr),compTurn (.ListComp elt (⟨t0,i0,f0,0⟩ :: rest) scope pos) 0 (.ref it) (.ref D) env=(standAt i0.pos >>= λ_=>pyNext (.ref it) >>= λr=>match r with
   | none=>pure (.done .next)
   | some v=>letOwnedTupleGo t0 (.ref it) v >>= λ_=>assign t0 env v >>= λ_ =>
    (forIn f0 true λc r=>if r=true then do let ok <- isTrue c env (eval c env); pure (ForInStep.yield ok) else pure (ForInStep.yield r)) >>= λok =>
     if ok=true then kont env it D else again (.compLoop (.ListComp elt (⟨t0,i0,f0,0⟩ :: rest) scope pos) 0 (.ref it) (.ref D) env)))
  (hb:∀ C s₀ H₀ ex it D,PB (Yd X (blkN ts fv) scope C s₀ H₀ ex) (kont (Yd X (blkN ts fv) scope C s₀ H₀ ex).env it D) (.compLoop (.ListComp elt (⟨t0,i0,f0,0⟩ :: rest) scope pos) 0 (.ref it) (.ref D) (Yd X (blkN ts fv) scope C s₀ H₀ ex).env) (tb D))
  (hs:∀ x,foldedSetIterable i0 X.env x=pure x:=by intro _; rfl) :
  PE X (.ListComp elt (⟨t0,i0,f0,0⟩ :: rest) scope pos) (Zgh ts fv wi g tt tb):=by
 intro pins s σ H Q I h
 rw [eval_ListComp]
 refine wpAny_comprehension_free (use:=none) rfl hs (Q2 λy hy e=>I.ok.has y.1 (B.free y hy e)) B.kind B.names ?_
 refine Zbv (RR:=λacc C=>compPost (model X.prog X.w) X.A X.xe none (EP X pins σ Q) acc C) B hc hi hg ht heq hb I h λD C s' H' I' e2 e3 e4 e5 e6 hm q=>?_
 obtain ⟨m,hm⟩:=hm
 exact ⟨m,hm,λh' hs'=>⟨.ref D,H',I'.apart hs' e2 e3 e4 e5 e6,rfl,q⟩⟩
theorem Wg {i:Nat} {y:Str} {py spos:Pos} (B:BlkOk X scope fv) (hc:X.calm=true) (hN:X.N.Nodup) (hiy:X.N[i]?=some y) (hyl:X.env.scope.names.lookup y=some .local)
  (hsw:swapsWith (.ListComp elt (⟨t0,i0,f0,0⟩ :: rest) scope pos) (some (.Name y py)) spos.line X.env=pure true) (hi:PI X t0 i0 wi)
  (hg:∀ C s₀ H₀ ex,PG (Yd X (blkN ts fv) scope C s₀ H₀ ex) t0 g) (ht:∀ C s₀ H₀ ex,PTs (Yd X (blkN ts fv) scope C s₀ H₀ ex) f0 tt)
  (heq:∀ (env:Env) (it D:Addr),compTurn (.ListComp elt (⟨t0,i0,f0,0⟩ :: rest) scope pos) 0 (.ref it) (.ref D) env=(standAt i0.pos >>= λ_=>pyNext (.ref it) >>= λr=>match r with
   | none=>pure (.done .next)
   | some v=>letOwnedTupleGo t0 (.ref it) v >>= λ_=>assign t0 env v >>= λ_ =>
    (forIn f0 true λc r=>if r=true then do let ok <- isTrue c env (eval c env); pure (ForInStep.yield ok) else pure (ForInStep.yield r)) >>= λok =>
     if ok=true then kont env it D else again (.compLoop (.ListComp elt (⟨t0,i0,f0,0⟩ :: rest) scope pos) 0 (.ref it) (.ref D) env)))
  (hb:∀ C s₀ H₀ ex it D,PB (Yd X (blkN ts fv) scope C s₀ H₀ ex) (kont (Yd X (blkN ts fv) scope C s₀ H₀ ex).env it D) (.compLoop (.ListComp elt (⟨t0,i0,f0,0⟩ :: rest) scope pos) 0 (.ref it) (.ref D) (Yd X (blkN ts fv) scope C s₀ H₀ ex).env) (tb D))
  (hs:∀ x,foldedSetIterable i0 X.env x=pure x:=by intro _; rfl) :
  PS X (.Assign [.Name y py] (.ListComp elt (⟨t0,i0,f0,0⟩ :: rest) scope pos) spos) (tAsg (Zgh ts fv wi g tt tb) (Zs i)):=by
 intro pins s σ H D0 I h
 rw [exec_Assign_Name_used _ _ _ _ hsw]
 refine Al (wpAny_standAt (Al ?_))
 show wpAny _ X.A (do let _ <- comprehension (.ListComp elt (⟨t0,i0,f0,0⟩ :: rest) scope pos) scope X.env _ (newList []) false (eval i0 X.env) (some (assign (.Name y py) X.env))) _ _ s
 refine Al (wpAny_mono (wpAny_comprehension_free (use:=some (assign (.Name y py) X.env)) (Q:=λ_ s'=>SP X pins D0 .next s') rfl hs (Q2 λy hy e=>I.ok.has y.1 (B.free y hy e)) B.kind B.names ?_) (λ_ s' hq=>wpAny_pure (wpAny_pure hq)) λ_ _ e=>e)
 refine Zbv (Q:=λx H1=>Zs i x σ H1 D0.nx) (RR:=λacc C=>compPost (model X.prog X.w) X.A X.xe (some (assign (.Name y py) X.env)) (λ_ s'=>SP X pins D0 .next s') acc C) B hc hi hg ht heq hb I h λD C s' H' I' e2 e3 e4 e5 e6 hm q=>?_
 obtain ⟨m,hm⟩:=hm
 show wpAny _ X.A (assign (.Name y py) X.env (.ref D)) _ _ _
 refine wpAny_assign_Name (Oy I' hN hiy (.inl hyl) (show RelV (.ref D) (.ref D) from rfl) (λs'' I'' hch=>?_) (.inr hyl))
 obtain ⟨a,hsb,ha⟩:=hch
 have haC:C≠a:=by
  rcases ha with e | e
  ·rw [e]; exact e4
  ·exact λz=>e5 y a e z.symm
 exact ⟨m,hm.sameBut hsb haC,λh' hs'=>⟨_,H',I''.apart hs' e2 e3 e4 e5 e6,q⟩⟩
end
noncomputable def FlyT (e T:Addr) (cls a0:Value) (h:Heap):Prop :=
 ∃ oe vs oT ts,h.get? e=some oe/\(oe.cls=cls/\vs[0]?=some a0)/\oe.data=.fields vs/\vs[1]?=some (.ref T)/\T≠e/\h.get? T=some oT/\oT.data=.fields ts/\ts[3]?=some .none
noncomputable def CXr (P:Program) (w:World):CXT:=λouter H s E ev s' =>
 ∃ (e T:Addr) (cls a0:Value) (H':Hp),ev=.ref e/\s'.os=s.os/\AllBare s'.gens/\Un (frs outer) [] H H' s.heap s'.heap/\HOk P w H' s'.heap /\
  s.heap.get? e=none/\s.heap.get? T=none/\H' e=none/\H' T=none/\FlyT e T cls a0 s'.heap/\E cls none H'
theorem Yz {X:Cx}:V2 (CXr X.prog X.w) X E0:=λ_ _ _ _ _ _ _ h=>by
 obtain ⟨_,_,_,_,_,_,_,_,_,_,_,_,_,_,_,z⟩:=h
 exact z.elim
theorem Znn {P:Program} {w:World} {H:Hp} {s:Shared} {e:Value} {s':Shared} (h:CXr P w [] H s (λ_ _ _=>False) e s'):False:=by
 obtain ⟨_,_,_,_,_,_,_,_,_,_,_,_,_,_,_,z⟩:=h
 exact z
section
variable {P:Program} {w:World} {K:W.Frag} {mg:Str->Option Value} {base:Heap}
theorem Fun.okR {x qual:Str} {st:Stmt} {f:Addr} {fd:FuncData} {N ps:List Str} {k:Nat} {sp:Sp} (F:Fun K x qual st f fd) (S:FnScope N ps (Zg st)) (len:∀ vs H Q E,sp vs H Q E->vs.length=ps.length)
  (hbody:∀ (cdv:Value) (A:Around) (outer:List Env) (s:Shared) (H:Hp) (vs:List V) (Q:VK) (E:XK),Room k (A.deeper (envOfC qual (Zg st) s.heap.objs.size f cdv))->sp vs H Q E ->
   ∃ t,PSs (cxOf (CXr P w) P w K mg base N qual (Zg st) f cdv A outer s H E).nox (Yq st) t/\t { nx:=λ_ H'=>Q .non H',rt:=Q } (start N vs) H):FnOk P w K mg base (CXr P w) (k + 1) f fd ps sp:=by
 obtain ⟨oc,od,kV,doc,pm,an,cdv,ct,osl,rfl,lk,hcd⟩:=F.ex
 refine Zhb lk hcd S len λA outer s H vs Q E hr hsp=>?_
 obtain ⟨t,h,q⟩:=hbody cdv A outer s H vs Q E hr hsp
 exact ⟨t,h.nox,q⟩
end
section
variable {X:Cx}
theorem Wv:Xu X (.builtin "isinstance") (λxs H Q=>∃ x T t b,xs=[x,.ty T]/\TyOf X.K H x t/\PySem.W.kitOne X.K t (.type T)=some b/\Q (.bl b) H):=by
 intro pins s σ H xs us Q I r h
 obtain ⟨x,T,t,b,rfl,hty,hk,q⟩:=h
 obtain ⟨u,v,rfl,ru,rv⟩:=r.two
 obtain rfl:v=Value.type T:=rv
 exact Zjf I ru hty hk λtk=>⟨.bl b,H,I.tok _,rfl,q⟩
theorem Vw {K:W.Frag} {T:String}:PySem.W.kitOne K (.type T) (.type T)=some true:=by
 unfold PySem.W.kitOne
 rw [if_pos (by simp)]
theorem Yc {X:Cx} {scope:Scope} (h:scope.names.all (λy=>y.2 != .free || X.env.kindOf y.1 == some .cell || X.env.kindOf y.1 == some .free)=true) :
  ∀ y∈scope.names,y.2=.free->X.env.kindOf y.1=some .cell\/X.env.kindOf y.1=some .free:=λy hy e=>by
 have:=List.all_eq_true.mp h y hy
 simp [e] at this
 exact this
end
theorem walk_r {l:PySem.W.OpenLaw} {k:Nat} {q:Program} {loose:List Str} {XP:(Str->Option Value)->Heap->Prop} {YP:World->Heap->Prop} {d:DefRec} {K:Params->PySem.W.Frag} {spl:PySem.W.Frag->Sp}
  (hn:l.most=some 63) (hdf:d.params.defaults=[]) (hr:Room k callerA) (hY:∀ (w:World) (h:Heap),YP w h->(K w.params).In h)
  (hsp:∀ (K:W.Frag) (H:Hp) (a:Addr) (ns:List Int),ns.length<=63->SqL K H a (ns.map V.int)->spl K [.ref a] H (λv _=>v=.bl true) λ_ _ _=>False)
  (F:∀ (w:World) (mg:Str->Option Value) (fa:Addr) (h:Heap),(K w.params).In h->h.Ns mainGlobals mg->mg d.name=some (.ref fa) ->
   ∃ fd:FuncData,(∀ (s:Shared) (u:Value),BindsTo s fd ⟨[u],[]⟩ [("_law_script",u)]) /\
    ∀ base:Heap,(K w.params).In base->base.Ns mainGlobals mg->FnOk l.prog w (K w.params) mg base (CXr l.prog w) k fa fd ["_law_script"] (spl (K w.params))) :
  PySem.W.WalkO q loose XP YP l.row.toRowW d [] (λf vs=>PySem.call f vs) :=
 Zl3 (n:=63) (k:=k) (x:="_law_script") (CX:=λw=>CXr l.prog w) (sp:=λw=>spl (K w.params)) hn (by decide) hdf hr hY F (λw H a ns hl _ hS=>hsp _ H a ns hl hS) (λw H s e s' h=>Znn h)
noncomputable def ExT (e:Addr) (T:Option Addr) (cls a0:Value) (h:Heap):Prop:=match T with
 | some T=>FlyT e T cls a0 h
 | none=>∃ oe vs,h.get? e=some oe/\(oe.cls=cls/\vs[0]?=some a0)/\oe.data=.fields vs/\vs[1]?=some .none
structure FxOk (X:Cx) (pins:List (Addr × Obj)) (H:Hp) (b:Addr):Prop where
 nt:H b=none
 nl:b≠X.env.locals
 nf:b ∉ X.fs
 n0:X.s₀.heap.get? b=none
 nc:∀ x c,X.env.cells.lookup x=some c->c≠b
 np:∀ p∈X.pn ++ pins,p.1≠b
noncomputable def XS (fr:Bool) (X:Cx) (pins:List (Addr × Obj)) (R:Value->St->Hp->Prop) (ev:Value) (s':Shared):Prop :=
 ∃ (e:Addr) (T:Option Addr) (cls a0:Value) (σ':St) (H':Hp),ev=.ref e/\Inv X pins σ' H' s'/\ExT e T cls a0 s'.heap/\FxOk X pins H' e/\(∀ t,T=some t->FxOk X pins H' t)/\(T=none->fr=true)/\R cls σ' H'
noncomputable abbrev TSX:=Ends->(Value->St->Hp->Prop)->St->Hp->Prop
noncomputable abbrev TEX:=St->Hp->VK->XK->Prop
noncomputable def PSX (fr:Bool) (X:Cx) (st:Stmt) (t:TSX):Prop :=
 ∀ (pins:List (Addr × Obj)) (s:Shared) (σ:St) (H:Hp) (D:Ends) (R:Value->St->Hp->Prop),Inv X pins σ H s->t D R σ H->wpAny (model X.prog X.w) X.A (exec st X.env) (SP X pins D) (XS fr X pins R) s
noncomputable def PSsX (fr:Bool) (X:Cx) (st:List Stmt) (t:TSX):Prop :=
 ∀ (pins:List (Addr × Obj)) (s:Shared) (σ:St) (H:Hp) (D:Ends) (R:Value->St->Hp->Prop),Inv X pins σ H s->t D R σ H->wpAny (model X.prog X.w) X.A (execs st X.env) (SP X pins D) (XS fr X pins R) s
noncomputable def PEX (fr:Bool) (X:Cx) (e:Expr) (t:TEX):Prop :=
 ∀ (pins:List (Addr × Obj)) (s:Shared) (σ:St) (H:Hp) (Q:VK) (E:XK),Inv X pins σ H s->t σ H Q E->wpAny (model X.prog X.w) X.A (eval e X.env) (EP X pins σ Q) (XS fr X pins λcls σ' H'=>σ'=σ/\E cls none H') s
section
variable {X:Cx} {fr:Bool}
theorem Z5 {st:Stmt} {t:TS} (h:PS X st t) (hx:X.xe=(λ_ _=>False):=by rfl):PSX fr X st (λD _ σ H=>t D σ H):=λpins s σ H D R I q=>by
 have:=h pins s σ H D I q
 rw [hx] at this
 exact wpAny_mono this (λ_ _ z=>z) λ_ _ z=>z.elim
theorem Zaq {st:List Stmt} {t:TS} (h:PSs X st t) (hx:X.xe=(λ_ _=>False):=by rfl):PSsX fr X st (λD _ σ H=>t D σ H):=λpins s σ H D R I q=>by
 have:=h pins s σ H D I q
 rw [hx] at this
 exact wpAny_mono this (λ_ _ z=>z) λ_ _ z=>z.elim
noncomputable def Zgf (t u:TSX):TSX:=λD R σ H=>t { D with nx:=u D R } R σ H
theorem Zw {st:Stmt} {rest:List Stmt} {t u:TSX} (h1:PSX fr X st t) (h2:PSsX fr X rest u):PSsX fr X (st :: rest) (Zgf t u):=by
 intro pins s σ H D R I h
 refine wpAny_execs_cons (thn (h1 pins s σ H { D with nx:=u D R } R I h) λf s1 q=>?_)
 cases f with
 | next =>
  obtain ⟨σ',H',I',q⟩:=q
  exact h2 pins s1 σ' H' D R I' q
 | ret v=>exact q
 | brk=>exact q
 | cont=>exact q
theorem Zq {st:Stmt} {t:TSX} (h1:PSX fr X st t):PSsX fr X [st] t:=by
 intro pins s σ H D R I h
 refine wpAny_execs_cons (thn (h1 pins s σ H D R I h) λf s1 q=>?_)
 cases f with
 | next=>exact wpAny_execs_nil q
 | ret v=>exact q
 | brk=>exact q
 | cont=>exact q
theorem X4:PSsX fr X [] (λD _ σ H=>D.nx σ H):=λ_ _ σ H _ _ I h=>wpAny_execs_nil ⟨σ,H,I,h⟩
noncomputable def tIfX (c:TT) (t u:TSX):TSX:=λD R σ H=>c σ H λb H1=>if b=true then t D R σ H1 else u D R σ H1
theorem Y1 {c:Expr} {a b:List Stmt} {tc:TT} {t u:TSX} {pos:Pos} (hc:PT X c tc) (ha:PSsX fr X a t) (hb:PSsX fr X b u) (hx:X.xe=(λ_ _=>False):=by rfl):PSX fr X (.If c a b pos) (tIfX tc t u):=by
 intro pins s σ H D R I h
 have h0:=hc pins s σ H _ I h
 rw [hx] at h0
 refine wpAny_If (wpAny_mono h0 (λd s1 zz27=>?_) λ_ _ z=>z.elim)
 obtain ⟨H1,I1,q1⟩:=zz27
 cases d with
 | true=>exact ha pins s1 σ H1 D R I1 q1
 | false=>exact hb pins s1 σ H1 D R I1 q1
noncomputable def Zny (te:TEX):TSX:=λD R σ H=>te σ H (λ_ H1=>D.nx σ H1) λcls _ H1=>R cls σ H1
theorem Ye {e:Expr} {te:TEX} {pos:Pos} (he:PEX fr X e te) (hs:swapsWith e none pos.line X.env=pure false:=by rfl):PSX fr X (.Expr e pos) (Zny te):=by
 intro pins s σ H D R I h
 refine wpAny_Expr_any (wpAny_mono (he pins s σ H _ _ I h) (λv s1 ⟨x,H1,I1,r1,q1⟩=>⟨σ,H1,I1,q1⟩) ?_) I.quiet hs
 rintro ev s1 ⟨e,T,cls,a0,σ',H',h1,h2,h3,h4,h5,h7,rfl,h6⟩
 exact ⟨e,T,cls,a0,σ',H',h1,h2,h3,h4,h5,h7,h6⟩
noncomputable def Zo4 (i:Nat) (te:TEX):TSX:=λD R σ H=>te σ H (λx H1=>D.nx (σ.set i (some x)) H1) λcls _ H1=>R cls σ H1
theorem X6 {i:Nat} {x:Str} {e:Expr} {te:TEX} {pos pos':Pos} (hN:X.N.Nodup) (hi:X.N[i]?=some x) (hx:Loc X.env.scope x) (he:PEX fr X e te) (hs:swapsWith e (some (.Name x pos')) pos.line X.env=pure false:=by rfl)
  (hf:X.fn x=true\/X.env.scope.names.lookup x=some .local:=by first | exact .inl rfl | exact .inr rfl | assumption):PSX fr X (.Assign [.Name x pos'] e pos) (Zo4 i te):=by
 intro pins s σ H D R I h
 refine wpAny_Assign_Name (wpAny_mono (he pins s σ H _ _ I h) (λv s1 ⟨y,H1,I1,r1,q1⟩=>?_) ?_) hs
 ·exact Qg I1 hN hi hx r1 (λs2 I2=>⟨_,H1,I2,q1⟩) hf
 ·rintro ev s1 ⟨e,T,cls,a0,σ',H',h1,h2,h3,h4,h5,h7,rfl,h6⟩
  exact ⟨e,T,cls,a0,σ',H',h1,h2,h3,h4,h5,h7,h6⟩
theorem Inv.cxr {pins:List (Addr × Obj)} {σ:St} {H:Hp} {s s':Shared} {E:XK} {ev:Value} (I:Inv X pins σ H s) (hex:X.ex=[]) (h:CXr X.prog X.w X.stack H s E ev s'):XS fr X pins (λcls σ' H'=>σ'=σ/\E cls none H') ev s':=by
 obtain ⟨e,T,cls,a0,H',rfl,os,bare,un,hok,ne,nT,he,hT,fl,q⟩:=h
 have I':Inv X pins σ H' s':=I.call' os un hok bare λb hb=>absurd hb (by simp)
 have fx:∀ b,s.heap.get? b=none->H' b=none->FxOk X pins H' b:=λb hb hn=>by
  refine ⟨hn,λz=>?_,λz=>?_,?_,λx c e z=>?_,λp hp z=>?_⟩
  ·obtain ⟨m,⟨o,_,_,ho,_⟩,_⟩:=I.loc
   rw [z,ho] at hb; cases hb
  ·obtain ⟨_,o,ho,_⟩:=I.funs.mem z
   rw [ho] at hb; cases hb
  ·cases q:X.s₀.heap.get? b with
   | none=>rfl
   | some o =>
    obtain ⟨o',e'⟩:=I.base.there b o q (by rw [hex]; simp)
    rw [hb] at e'; cases e'
  ·obtain ⟨v,o,ho,_⟩:=I.cell x c e
   rw [z,hb] at ho; cases ho
  ·have:=(I.pin p hp).1
   rw [z,hb] at this; cases this
 exact ⟨e,some T,cls,a0,σ,H',rfl,I',fl,fx e ne he,λt ht=>by cases ht; exact fx T nT hT,(λz=>nomatch z),rfl,q⟩
variable {k:Nat} {f C:Addr} {fd:FuncData} {ps:List Str} {sp:Sp} {dvs:List V} {ds:List Value} {x m:Str} {p pos apos:Pos} {e o:Expr} {es:List Expr} {ta:TE} {t:TA}
theorem Zfq {pins:List (Addr × Obj)} {σ:St} {H:Hp} {s:Shared} {Q:VK} {E:XK} {us:List Value} {vs:List V} (F:FnOk X.prog X.w X.K X.mg X.base (CXr X.prog X.w) k f fd ps sp) (hr:Room k X.A) (hb:Wy X.K fd ps ds) (hd:Vals dvs ds) (hex:X.ex=[])
  (I:Inv X pins σ H s) (r:Vals vs us) (h:sp (vs ++ dvs) H Q E):wpAny (model X.prog X.w) X.A (call (.ref f) us) (EP X pins σ Q) (XS fr X pins λcls σ' H'=>σ'=σ/\E cls none H') s:=by
 have r2:Vals (vs ++ dvs) (us ++ ds):=r.append hd
 have hl:(us ++ ds).length=ps.length:=by rw [<- r2.length]; exact F.len _ _ _ _ h
 refine wpAny_call (codeAny_mono (F.run X.A X.stack s H ⟨us,[]⟩ (us ++ ds) (vs ++ dvs) Q E hr I.env0 (hb s us I.kIn hl) r2 h) λr s' hq=>?_)
 cases r with
 | error e=>exact I.cxr hex hq
 | ok fl =>
  cases fl with
  | ret u=>exact I.after hq
  | next=>exact False.elim hq
  | brk=>exact False.elim hq
  | cont=>exact False.elim hq
noncomputable def Zht (sp:Sp) (dvs:List V) (t:TA):TEX:=λσ H Q E=>t σ H λvs H1=>sp (vs ++ dvs) H1 Q E
theorem Zku (F:FnOk X.prog X.w X.K X.mg X.base (CXr X.prog X.w) k f fd ps sp) (hr:Room k X.A) (hg:Gl X x) (hm:X.mg x=some (.ref f)) (hk:PySem.W.keepIn X.K (.ref f)=true) (hb:Wy X.K fd ps ds) (hd:Vals dvs ds)
  (ha:PA X (e :: es) t) (hex:X.ex=[]:=by rfl) (hx:X.xe=(λ_ _=>False):=by rfl) (hdb:(x == ("__debug__":Str))=false:=by decide) (he:starEach (e :: es) X.env=(false,eval e X.env) :: starEach es X.env:=by rfl) (hpl:(backTo pos (starEach es X.env)).any (·.1)=false:=by rfl) :
  PEX fr X (.Call (.Name x p) (e :: es) [] pos) (Zht sp dvs t):=by
 intro pins s σ H Q E I h
 have h0:=ha pos pins s σ H _ I h
 rw [hx] at h0
 refine wpAny_Call_Name_kw (Vi I hg hm ?_ hdb)
 refine PySem.W.callWith_K (h₀:=X.base) I.ok.mod.kin hk (wpAny_mono h0 (λus s1 zz28=>?_) λ_ _ z=>z.elim) he hpl
 obtain ⟨vs,H1,I1,r,q⟩:=zz28
 refine ⟨I1.kIn,?_⟩
 exact Zfq F hr hb hd hex I1 r q
noncomputable def Znx (C:Addr) (m:Str) (sp:Sp) (dvs:List V) (ta:TE) (t:TA):TEX:=λσ H Q E=>ta σ H λx H1=>∃ a dx fs,x=.ref a/\H1 a=some (.ins C dx fs)/\fs.lookup m=none /\
 t σ H1 λvs H2=>sp (x :: (vs ++ dvs)) H2 Q E
theorem Qm {pl:Sem Bool} (he:PE X o ta) (c:Cls X.K C) (hm:Meth X.K C m f) (F:FnOk X.prog X.w X.K X.mg X.base (CXr X.prog X.w) k f fd ps sp) (hr:Room k X.A) (hb:Wy X.K fd ps ds) (hd:Vals dvs ds) (ha:PA X (e :: es) t)
  (hex:X.ex=[]:=by rfl) (hx:X.xe=(λ_ _=>False):=by rfl) (hst:starEach (e :: es) X.env=(false,eval e X.env) :: starEach es X.env:=by rfl) (hpl:(backTo pos (starEach es X.env)).any (·.1)=false:=by rfl)
  (ht:eval (.Call (.Attribute o m apos) (e :: es) [] pos) X.env=(do
   let ov <- eval o X.env
   standAt apos.atName
   let (f,first) <- holding [ov] (getMethod ov m pl)
   callWith pos f first (backTo pos (starEach (e :: es) X.env)) (backToKw pos (keywordEach [] X.env))):=by rfl) :
  PEX fr X (.Call (.Attribute o m apos) (e :: es) [] pos) (Znx C m sp dvs ta t):=by
 intro pins s σ H Q E I h
 have h0:=he pins s σ H _ I h
 rw [hx] at h0
 refine PySem.W.methodCall_KW (pl:=pl) (wpAny_mono h0 (λu s1 zz29=>?_) λ_ _ z=>z.elim) ht
 obtain ⟨x,H1,I1,rx,a,dx,fs,ex,ea,l,q⟩:=zz29
 subst ex
 obtain rfl:u=Value.ref a:=rx
 refine Of I1 ea c hm l ?_
 have h1:=ha pos pins s1 σ H1 _ I1 q
 rw [hx] at h1
 refine PySem.W.callWith_K (first:=[.ref a]) (h₀:=X.base) I.ok.mod.kin hm.kp (wpAny_mono h1 (λus s2 zz30=>?_) λ_ _ z=>z.elim) hst hpl
 obtain ⟨vs,H2,I2,r,q2⟩:=zz30
 refine ⟨I2.kIn,?_⟩
 exact Zfq (us:=.ref a :: us) (vs:=.ref a :: vs) F hr hb hd hex I2 (.cons rfl r) q2
end
theorem Yj.there {P:Program} {w:World} {H:Hp} {h:Heap} {a:Addr}:∀ {o:HO},Yj P w H h a o->∃ ob,h.get? a=some ob
 | .lst _,x=>by obtain ⟨_,_,_,_,e⟩:=x; exact ⟨_,e⟩
 | .tup _,x=>by obtain ⟨_,_,_,ob,e,_⟩:=x; exact ⟨_,e⟩
 | .dK _,x=>by obtain ⟨_,_,_,_,o,_,_,e,_⟩:=x; exact ⟨_,e⟩
 | .dT _,x=>by obtain ⟨_,_,_,_,o,_,_,e,_⟩:=x; exact ⟨_,e⟩
 | .set _ _,x=>by obtain ⟨o,_,_,_,e,_⟩:=x; exact ⟨_,e⟩
 | .ins _ _ _,x=>by obtain ⟨_,_,_,e,_⟩:=x; exact ⟨_,e⟩
 | .own _,x=>by obtain ⟨_,e⟩:=x; exact ⟨_,e⟩
 | .xd _,x=>by obtain ⟨_,⟨_,_,_,e,_⟩,_⟩:=x; exact ⟨_,e⟩
 | .rng _ _,x=>by obtain ⟨_,_,_,e⟩:=x; exact ⟨_,e⟩
 | .frz _ _,x=>by obtain ⟨e,_⟩:=x; exact ⟨_,e⟩
 | .tbl _,x=>⟨_,(show h.get? a=some _ from x)⟩
 | .met _ _,x=>⟨_,(show h.get? a=some _ from x)⟩
 | .ext _,x=>by obtain ⟨_,⟨_,e⟩,_⟩:=x; exact ⟨_,e⟩
section
variable {X:Cx} {pins:List (Addr × Obj)} {σ:St} {H:Hp} {s:Shared}
theorem Inv.untr (I:Inv X pins σ H s) {b:Addr} (hb:s.heap.get? b=none):H b=none:=by
 cases q:H b with
 | none=>rfl
 | some o =>
  obtain ⟨ob,e⟩:=(I.hok b o q).there
  rw [hb] at e; cases e
theorem Inv.fxOk (I:Inv X pins σ H s) (hex:X.ex=[]) {b:Addr} (hb:s.heap.get? b=none):FxOk X pins H b:=by
 refine ⟨I.untr hb,λz=>?_,λz=>?_,?_,λx c e z=>?_,λp hp z=>?_⟩
 ·obtain ⟨m,⟨o,_,_,ho,_⟩,_⟩:=I.loc
  rw [z,ho] at hb; cases hb
 ·obtain ⟨_,o,ho,_⟩:=I.funs.mem z
  rw [ho] at hb; cases hb
 ·cases q:X.s₀.heap.get? b with
  | none=>rfl
  | some o =>
   obtain ⟨o',e'⟩:=I.base.there b o q (by rw [hex]; simp)
   rw [hb] at e'; cases e'
 ·obtain ⟨v,o,ho,_⟩:=I.cell x c e
  rw [z,hb] at ho; cases ho
 ·have:=(I.pin p hp).1
  rw [z,hb] at this; cases this
end
structure ExcK (K:W.Frag) (C:Addr) (bmB:List Value) (newId:String):Prop where
 q:PySem.W.excIn K C bmB newId=true
theorem Znl {K:W.Frag} {h:Heap} {C:Addr} {bmB:List Value} {newId:String} (X:K.In h) (q:PySem.W.excIn K C bmB newId=true) :
  ∃ bm N nm q bs hdct sn sub ab col dd k0 k1 k2 k3 k5 mN,h.get? C=some (excClassObj nm q C N bs bm hdct sn sub ab col dd k0 k1 k2 k3 k5 newId)/\h.Ns N mN/\mN "__init__"=none/\OwnTail h bmB bm:=by
 unfold PySem.W.excIn at q
 split at q
 ·rename_i dd cd sl ho
  split at q
  ·rename_i C' bm k0 k1 k2 k3 n k5 hm hs
   simp only [Bool.and_eq_true,beq_iff_eq,Bool.not_eq_true'] at q
   obtain ⟨⟨⟨⟨⟨rfl,rfl⟩,hdel⟩,ht⟩,hok⟩,hni⟩:=q
   obtain ⟨nm,bs,mro,ns,qn,hd,sn,sub,ab,col,del⟩:=cd
   dsimp only at hm hdel hok hni
   subst hm hdel
   have hsl:sl=#[k0,k1,k2,k3,some (.builtin n),k5]:=by
    obtain ⟨l⟩:=sl
    simp only at hs
    rw [hs]
   subst hsl
   exact ⟨bm,ns,nm,qn,bs,hd,sn,sub,ab,col,dd,k0,k1,k2,k3,k5,_,X _ _ ho,.of_isNs (PySem.W.isNs_of_in X hok),PySem.W.nsMap_none_of_in X hok hni,PySem.W.tail_of_in X ht⟩
  ·cases q
 ·cases q
section
variable {X:Cx}
noncomputable def Znw (C:Addr) (t:TA):TSX:=λ_ R σ H=>t σ H λvs H1=>vs.length<=1000/\R (.ref C) σ H1
theorem Wa {C:Addr} {bmB:List Value} {B newId initId:String} {x:Str} {np cpos pos:Pos} {e:Expr} {es:List Expr} {t:TA} (K:ExcK X.K C bmB newId) (FB:ExcBaseFacts B newId initId bmB) (hg:Gl X x) (hm:X.mg x=some (.ref C)) (hc:X.calm=true) (ha:PA X (e :: es) t)
  (hex:X.ex=[]:=by rfl) (hx:X.xe=(λ_ _=>False):=by rfl) (hdb:(x == ("__debug__":Str))=false:=by decide) (he:starEach (e :: es) X.env=(false,eval e X.env) :: starEach es X.env:=by rfl) (hpl:(backTo cpos (starEach es X.env)).any (·.1)=false:=by rfl) :
  PSX true X (.Raise (some (.Call (.Name x np) (e :: es) [] cpos)) none pos) (Znw C t):=by
 intro pins s σ H D R I h
 obtain ⟨tl,N,nm,q,bs,hdct,sn,sub,ab,col,dd,k0,k1,k2,k3,k5,mN,hC,hN,hni,T⟩:=Znl I.ok.mod.kin K.q
 refine wpAny_Raise_call_subT (C:=C) (nm:=nm) (q:=q) (N:=N) (bs:=bs) (bm:=tl) (hdct:=hdct) (sn:=sn) (sub:=sub) (ab:=ab) (col:=col) (dd:=dd) (k0:=k0) (k1:=k1) (k2:=k2) (k3:=k3) (k5:=k5)
  FB (mN:=mN) (T.hasType FB.hasBase) (I.ok.hd hc) (by rw [he]; show (false || (backTo cpos (starEach es X.env)).any (·.1))=false; rw [hpl]; rfl) hni (Vi I hg hm ⟨rfl,?_⟩ hdb)
 have h0:=ha cpos pins s σ H _ I h
 rw [hx] at h0
 rw [he] at h0 ⊢
 refine Calls.evalArgs_plain (wpAny_mono h0 (λus s₂ zz31=>?_) λ_ _ z=>z.elim)
 obtain ⟨vs,H1,I1,r1,hl,q1⟩:=zz31
 have kb:=I1.bk
 refine ⟨rfl,?_,kb _ _ hC,hN.keeps kb,T.keeps kb,λh' ea hm'=>?_⟩
 ·rw [<- r1.length]
  exact Nat.le_of_lt (Zv hl)
 obtain ⟨tt,h1,h2,h3⟩:=hm'.there
 have I2:Inv X pins σ H1 { s₂ with heap:=h' }:=I1.kept (t':=s₂.toks) hm'.keeps
 have fx:=I1.fxOk hex hm'.new
 exact ⟨ea,none,.ref C,.ref tt,σ,H1,rfl,I2,⟨_,_,h1,⟨rfl,rfl⟩,rfl,rfl⟩,⟨fx.nt,fx.nl,fx.nf,fx.n0,fx.nc,fx.np⟩,(λt z=>nomatch z),(λ_=>rfl),q1⟩
theorem Un.leave {fs:List Addr} {H₀ H:Hp} {h₀ h h':Heap} (u:Un fs [] H₀ H h₀ h) (hk:∀ b o,h₀.get? b=some o->b ∉ fs->h.get? b=some o->h'.get? b=some o)
  (hs:∀ b o,b∈fs->h.get? b=some o->∃ sl,h'.get? b=some { o with slots:=sl }) (ht:∀ b o,h₀.get? b=some o->∀ o',h.get? b=some o'->∃ o'',h'.get? b=some o''):Un fs [] H₀ H h₀ h' where
 keep:=λb o e n hb hx=>hk b o e hb (u.keep b o e n hb hx)
 slot:=λb o e n hb hx=>by
  obtain ⟨sl,e1⟩:=u.slot b o e n hb hx
  obtain ⟨sl',e2⟩:=hs b _ hb e1
  exact ⟨sl',e2⟩
 free:=u.free
 there:=λb o e hx=>by
  obtain ⟨o',e1⟩:=u.there b o e hx
  exact ht b o e o' e1
 tups:=u.tups
 frzs:=u.frzs
 tbls:=u.tbls
theorem Uz {X:Cx} {pins:List (Addr × Obj)} {σ:St} {H:Hp} {s:Shared} (I:Inv X pins σ H s) (as:List Addr) (hs:∀ b∈frs X.stack,b∈as):s.heap.FunFrames (PySem.W.hideAll s.heap as) X.stack:=by
 have all:∀ (l:List Env),(∀ b∈frs l,b∈as)->s.heap.FunFrames X.base l->s.heap.FunFrames (PySem.W.hideAll s.heap as) l:=by
  intro l
  induction l with
  | nil=>intro _ _; trivial
  | cons env r ih =>
   intro hs hl
   obtain ⟨hk,⟨L,o,hf,hn,ho,hd⟩,hr⟩:=hl
   have hL:L∈as:=hs L (by unfold frs; rw [List.filterMap_cons,hf]; exact List.mem_cons_self)
   exact ⟨hk,⟨L,o,hf,PySem.W.hideAll_none as hL,ho,hd⟩,ih (λb hb=>hs b (by unfold frs; rw [List.filterMap_cons,hf]; exact List.mem_cons_of_mem _ hb)) hr⟩
 exact all X.stack hs I.stack
theorem Inv.fnd {X:Cx} {pins:List (Addr × Obj)} {σ:St} {H:Hp} {s:Shared} (I:Inv X pins σ H s) {b:Addr} (hb:b∈frs X.stack) {o:Obj} (e:s.heap.get? b=some o):∀ vs,o.data≠.fields vs:=by
 obtain ⟨_,o',e',d⟩:=I.stack.mem hb
 rw [e] at e'; cases e'
 exact d
end
theorem FxOk.none {X:Cx} {pins:List (Addr × Obj)} {H:Hp} {b:Addr} (h:FxOk X pins H b):FxOk X [] H b:=⟨h.nt,h.nl,h.nf,h.n0,h.nc,λp hp=>h.np p (by rw [List.append_nil] at hp; exact List.mem_append_left _ hp)⟩
section
variable {P:Program} {w:World} {K:W.Frag} {mg:Str->Option Value} {base:Heap}
theorem Zed {N:List Str} {qual:Str} {scope:Scope} {f:Addr} {cd:Value} {A:Around} {outer:List Env} {s s':Shared} {H:Hp} {E:XK} {ev:Value}
  {fr:Bool} (h:XS fr (cxOf (CXr P w) P w K mg base N qual scope f cd A outer s H E).nox [] (λcls _ H'=>E cls none H') ev s'):(cxOf (CXr P w) P w K mg base N qual scope f cd A outer s H E).xe ev s':=by
 obtain ⟨e,T,cls,a0,σ',H',rfl,I,hx,fe,fT,_,q⟩:=h
 show wpAny (model P w) (A.deeper (envOfC qual scope s.heap.objs.size f cd)) (leaving (envOfC qual scope s.heap.objs.size f cd) (.ref e)) (λ_ s''=>CXr P w outer H s E (.ref e) s'') (λe' s''=>CXr P w outer H s E e' s'') s'
 have hst:(cxOf (CXr P w) P w K mg base N qual scope f cd A outer s H E).nox.stack=envOfC qual scope s.heap.objs.size f cd :: outer:=rfl
 have hfr:(A.deeper (envOfC qual scope s.heap.objs.size f cd)).frames=some (envOfC qual scope s.heap.objs.size f cd :: outer):=I.ok.frames
 have n0:∀ b,b∈e :: T.toList->s.heap.get? b=none:=λb hb=>by
  rcases Ar hb with z | z
  ·rw [z]; exact fe.n0
  ·cases T with
   | none=>simp at z
   | some t =>
    have:b=t:=by simpa using z
    rw [this]; exact (fT t rfl).n0
 have nt:∀ b,b∈e :: T.toList->H' b=none:=λb hb=>by
  rcases Ar hb with z | z
  ·rw [z]; exact fe.nt
  ·cases T with
   | none=>simp at z
   | some t =>
    have:b=t:=by simpa using z
    rw [this]; exact (fT t rfl).nt
 have hB:∀ b o,b ∉ e :: T.toList->b ∉ frs (envOfC qual scope s.heap.objs.size f cd :: outer)->s'.heap.get? b=some o->(PySem.W.hideAll s'.heap ((e :: T.toList) ++ frs (envOfC qual scope s.heap.objs.size f cd :: outer))).get? b=some o:=λb o h1 h2 e1 =>
  PySem.W.hideAll_get _ e1 λz=>(List.mem_append.mp z).elim h1 h2
 have hl:s'.heap.FunFrames (PySem.W.hideAll s'.heap ((e :: T.toList) ++ frs (envOfC qual scope s.heap.objs.size f cd :: outer))) (envOfC qual scope s.heap.objs.size f cd :: outer):=Uz I _ λb hb=>List.mem_append_right _ hb
 have hkb:(PySem.W.hideAll s'.heap ((e :: T.toList) ++ frs (envOfC qual scope s.heap.objs.size f cd :: outer))).StaysIn s'.heap:=λb o e1=>PySem.W.of_hideAll _ e1
 have hen:(PySem.W.hideAll s'.heap ((e :: T.toList) ++ frs (envOfC qual scope s.heap.objs.size f cd :: outer))).get? e=none:=PySem.W.hideAll_none _ (List.mem_append_left _ List.mem_cons_self)
 have fin:∀ h',Heap.LeftW (PySem.W.hideAll s'.heap ((e :: T.toList) ++ frs (envOfC qual scope s.heap.objs.size f cd :: outer))) (envOfC qual scope s.heap.objs.size f cd :: outer) e cls a0 s'.heap h'->CXr P w outer H s E (.ref e) { s' with heap:=h' }:=λh' ⟨k1,k2,k3,k4⟩=>by
  obtain ⟨oe,vs,T',oT,ts,x1,x2,x3,x4,x5,x6,x7,x8,x9⟩:=k3
  have notfr:∀ b o,b∈frs (envOfC qual scope s.heap.objs.size f cd :: outer)->s'.heap.get? b=some o->∃ sl,h'.get? b=some { o with slots:=sl }:=λb o hb e1=>k4 b o e1 (I.fnd hb e1)
  have kept:∀ b o,b ∉ e :: T.toList->b ∉ frs (envOfC qual scope s.heap.objs.size f cd :: outer)->s'.heap.get? b=some o->h'.get? b=some o:=λb o h1 h2 e1=>k1 b o (hB b o h1 h2 e1)
  have nL:∀ b o,s.heap.get? b=some o->b ∉ frs outer->b ∉ frs (envOfC qual scope s.heap.objs.size f cd :: outer):=λb o e1 h2 z=>by
   have z':b∈s.heap.objs.size :: frs outer:=z
   rcases Ar z' with z1 | z1
   ·rw [z1] at e1; exact absurd (Ao e1) (Nat.lt_irrefl _)
   ·exact h2 z1
  have nE:∀ b o,s.heap.get? b=some o->b ∉ e :: T.toList:=λb o e1 z=>by rw [n0 b z] at e1; cases e1
  have trk:∀ b u,H' b=some u->∀ o,s'.heap.get? b=some o->h'.get? b=some o:=λb u hu o e1=>by
   refine kept b o (λz=>by rw [nt b z] at hu; cases hu) (λz=>?_) e1
   rw [I.stkFree b z] at hu; cases hu
  have hT':s.heap.get? T'=none/\H' T'=none:=by
   by_cases hz:s'.heap.get? T'=none
   ·refine ⟨?_,I.untr hz⟩
    cases q':s.heap.get? T' with
    | none=>rfl
    | some o =>
     obtain ⟨o',e'⟩:=I.base.there T' o q' (by simp [cxOf])
     rw [hz] at e'; cases e'
   ·obtain ⟨o,ho⟩:=Option.ne_none_iff_exists'.mp hz
    by_cases h1:T'∈e :: T.toList
    ·exact ⟨n0 T' h1,nt T' h1⟩
    ·by_cases h2:T'∈frs (envOfC qual scope s.heap.objs.size f cd :: outer)
     ·exfalso
      obtain ⟨sl,e'⟩:=notfr T' o h2 ho
      rw [x7] at e'
      cases e'
      exact I.fnd h2 ho ts x8
     ·rw [hB T' o h1 h2 ho] at x5; cases x5
  refine ⟨e,T',cls,a0,H',rfl,I.os,I.bare,?_,λb u hu=>?_,fe.n0,hT'.1,fe.nt,hT'.2,⟨oe,vs,oT,ts,x1,x2,x3,x4,x6,x7,x8,x9⟩,q⟩
  ·refine Un.leave I.base (λb o e1 h1 e2=>kept b o (nE b o e1) (nL b o e1 h1) e2) (λb o hb e1=>notfr b o (List.mem_cons_of_mem _ hb) e1) λb o e1 o' e2=>?_
   by_cases h2:b∈frs outer
   ·obtain ⟨sl,e'⟩:=notfr b o' (List.mem_cons_of_mem _ h2) e2
    exact ⟨_,e'⟩
   ·exact ⟨o',kept b o' (nE b o e1) (nL b o e1 h2) e2⟩
  ·refine (I.hok b u hu).stay (λc v hc e1=>?_) (λ_ z=>z) λ_ _ z=>z
   rcases hc with z | z
   ·exact trk c u (by rw [z]; exact hu) v e1
   ·exact trk c _ z v e1
 cases T with
 | none =>
  obtain ⟨oe,vs,x1,x2,x3,x4⟩:=hx
  obtain ⟨x21,x22⟩:=x2
  subst x21
  exact wpAny_leaving_firstW hfr hl rfl x1 hkb hen x3 x4 x22 fin
 | some t =>
  obtain ⟨oe,vs,oT,ts,x1,x2,x3,x4,x5,x6,x7,x8⟩:=hx
  exact wpAny_leaving_nextW hfr hl rfl ⟨oe,vs,t,oT,ts,x1,x2,x3,x4,PySem.W.hideAll_none _ (List.mem_append_left _ (by simp)),x5,x6,x7,x8⟩ hkb hen fin
theorem Fun.okX {x qual:Str} {st:Stmt} {f:Addr} {fd:FuncData} {N ps:List Str} {k:Nat} {sp:Sp} (F:Fun K x qual st f fd) (S:FnScope N ps (Zg st)) (len:∀ vs H Q E,sp vs H Q E->vs.length=ps.length)
  (hbody:∀ (cdv:Value) (A:Around) (outer:List Env) (s:Shared) (H:Hp) (vs:List V) (Q:VK) (E:XK),Room k (A.deeper (envOfC qual (Zg st) s.heap.objs.size f cdv))->sp vs H Q E ->
   ∃ t,PSsX true (cxOf (CXr P w) P w K mg base N qual (Zg st) f cdv A outer s H E).nox (Yq st) t/\t { nx:=λ_ H'=>Q .non H',rt:=Q } (λcls _ H'=>E cls none H') (start N vs) H):FnOk P w K mg base (CXr P w) (k + 1) f fd ps sp:=by
 obtain ⟨oc,od,kV,doc,pm,an,cdv,ct,osl,rfl,lk,hcd⟩:=F.ex
 refine Zhb lk hcd S len λA outer s H vs Q E hr hsp=>?_
 obtain ⟨t,h,q⟩:=hbody cdv A outer s H vs Q E hr hsp
 refine ⟨λD σ H'=>t D (λcls _ H''=>E cls none H'') σ H',λpins s' σ' H' D I hD=>?_,q⟩
 refine wpAny_mono (h pins s' σ' H' D _ (I.wish _) hD) (λ_ _ z=>z.unwish) λev s'' z=>Zed (fr:=true) ?_
 obtain ⟨e,T,cls,a0,σ2,H2,h1,h2,h3,h4,h5,h7,h6⟩:=z
 exact ⟨e,T,cls,a0,σ2,H2,h1,h2.pins_of (λp hp=>absurd hp (by simp)),h3,h4.none,λt ht=>(h5 t ht).none,h7,h6⟩
end
section
variable {X:Cx}
theorem Inv.exc {pins:List (Addr × Obj)} {σ:St} {H:Hp} {s:Shared} {e T:Addr} {h':Heap} (I:Inv X pins σ H s) (hex:X.ex=[]) (fe:FxOk X pins H e) (fT:FxOk X pins H T)
  (keep:∀ b o,b≠e->b≠T->b ∉ frs X.stack->s.heap.get? b=some o->h'.get? b=some o) (slot:∀ b o,b∈frs X.stack->s.heap.get? b=some o->∃ sl,h'.get? b=some { o with slots:=sl }):Inv X pins σ H { s with heap:=h' }:=by
 have fss:∀ b∈X.fs,b∈frs X.stack:=λb hb=>by
  rcases I.ok.stk with z | ⟨z,hf⟩
  ·rw [z]; exact hb
  ·rw [z]; unfold frs; rw [List.filterMap_cons,hf]; exact List.mem_cons_of_mem _ hb
 have data:∀ b o,b≠e->b≠T->s.heap.get? b=some o->∃ sl,h'.get? b=some { o with slots:=sl }:=λb o h1 h2 e1=>by
  by_cases hb:b∈frs X.stack
  ·exact slot b o hb e1
  ·exact ⟨o.slots,keep b o h1 h2 hb e1⟩
 have ne0:∀ b o,X.s₀.heap.get? b=some o->b≠e/\b≠T:=λb o e1=>⟨λz=>(by rw [z,fe.n0] at e1; cases e1),λz=>(by rw [z,fT.n0] at e1; cases e1)⟩
 have cellK:∀ x c,X.env.cells.lookup x=some c->∀ v,s.heap.IsCell c v->h'.IsCell c v:=λx c ec v ⟨o,ho,hd⟩=>by
  obtain ⟨sl,e1⟩:=data c o (fe.nc x c ec) (fT.nc x c ec) ho
  exact ⟨_,e1,hd⟩
 refine ⟨I.ok,I.os,I.bare,⟨λb o e0 n hb hx=>?_,λb o e0 n hb hx=>?_,I.base.free,λb o e0 hx=>?_,I.base.tups,I.base.frzs,I.base.tbls⟩,?_,λx c ec=>?_,I.free,I.freeC,λp hp=>?_,λb u hu=>?_,I.len⟩
 ·obtain ⟨n1,n2⟩:=ne0 b o e0
  refine keep b o n1 n2 (λz=>?_) (I.base.keep b o e0 n hb hx)
  rcases Ar (I.stkSub b z) with z1 | z1
  ·rw [z1] at e0; exact absurd (Ag (Ao e0) I.ok.above) (Nat.lt_irrefl _)
  ·exact hb z1
 ·obtain ⟨sl,e1⟩:=I.base.slot b o e0 n hb hx
  obtain ⟨sl',e2⟩:=slot b _ (fss b hb) e1
  exact ⟨sl',e2⟩
 ·obtain ⟨n1,n2⟩:=ne0 b o e0
  obtain ⟨o',e1⟩:=I.base.there b o e0 hx
  obtain ⟨sl,e2⟩:=data b o' n1 n2 e1
  exact ⟨_,e2⟩
 ·obtain ⟨m,hn,hl⟩:=I.loc
  refine ⟨m,?_,λi x v e1 e2 e3=>?_⟩
  ·obtain ⟨o,es,ep,ho,hd,r⟩:=hn
   obtain ⟨sl,e1⟩:=data _ o (Ne.symm fe.nl) (Ne.symm fT.nl) ho
   exact ⟨_,es,ep,e1,hd,r⟩
  ·obtain ⟨u,r,l⟩:=hl i x v e1 e2 e3
   refine ⟨u,r,?_⟩
   rcases l with l | ⟨k,c,ec,z⟩
   ·exact .inl l
   ·exact .inr ⟨k,c,ec,cellK x c ec _ z⟩
 ·obtain ⟨v,z⟩:=I.cell x c ec
  exact ⟨v,cellK x c ec v z⟩
 ·obtain ⟨e1,n,ne,nf,d⟩:=I.pin p hp
  refine ⟨keep p.1 p.2 (fe.np p hp) (fT.np p hp) (λz=>?_) e1,n,ne,nf,d⟩
  rcases Ar (I.stkSub p.1 z) with z1 | z1
  ·exact ne z1
  ·exact nf z1
 ·have trk:∀ b u,H b=some u->∀ o,s.heap.get? b=some o->h'.get? b=some o:=λb u hu o e1=>by
   refine keep b o (λz=>by rw [z,fe.nt] at hu; cases hu) (λz=>by rw [z,fT.nt] at hu; cases hu) (λz=>?_) e1
   rw [I.stkFree b z] at hu; cases hu
  refine (I.hok b u hu).stay (λc v hc e1=>?_) (λ_ z=>z) λ_ _ z=>z
  rcases hc with z | z
  ·exact trk c u (by rw [z]; exact hu) v e1
  ·exact trk c _ z v e1
noncomputable def Kt (X:Cx) (e:Addr):Cx:={ X with A:=X.A.mark (some (.ref e)),calm:=false }
theorem Inv.hnd {pins:List (Addr × Obj)} {σ:St} {H:Hp} {s:Shared} (I:Inv X pins σ H s) (e:Addr):Inv (Kt X e) pins σ H s :=
 ⟨⟨I.ok.mod,I.ok.kind,I.ok.glob,I.ok.blt,I.ok.above,I.ok.inj,I.ok.has,I.ok.cab,λh=>absurd (show false=true from h) Bool.false_ne_true,I.ok.frames,I.ok.stk,I.ok.exf,I.ok.bs,I.ok.bsz,I.ok.noex,I.ok.exfs,I.ok.funs,I.ok.frf⟩,
  I.os,I.bare,I.base,I.loc,I.cell,I.free,I.freeC,I.pin,I.hok,I.len⟩
theorem Inv.unhnd {pins:List (Addr × Obj)} {σ:St} {H:Hp} {s:Shared} {e:Addr} (I:Inv (Kt X e) pins σ H s) (ok:X.Ok):Inv X pins σ H s :=
 ⟨ok,I.os,I.bare,I.base,I.loc,I.cell,I.free,I.freeC,I.pin,I.hok,I.len⟩
theorem SP.unhnd {pins:List (Addr × Obj)} {D:Ends} {f:Flow} {s':Shared} {e:Addr} (h:SP (Kt X e) pins D f s') (ok:X.Ok):SP X pins D f s':=by
 cases f with
 | next=>obtain ⟨σ',H',I,q⟩:=h; exact ⟨σ',H',I.unhnd ok,q⟩
 | brk=>obtain ⟨σ',H',I,q⟩:=h; exact ⟨σ',H',I.unhnd ok,q⟩
 | cont=>obtain ⟨σ',H',I,q⟩:=h; exact ⟨σ',H',I.unhnd ok,q⟩
 | ret u=>obtain ⟨v,σ',H',I,r,q⟩:=h; exact ⟨v,σ',H',I.unhnd ok,r,q⟩
theorem Zoq {pins:List (Addr × Obj)} {σ:St} {H:Hp} {s:Shared} {e T:Addr} {cls a0:Value} (I:Inv X pins σ H s) (hx:FlyT e T cls a0 s.heap) :
  Heap.FlyingW (PySem.W.hideAll s.heap (e :: T :: frs X.stack)) X.stack e cls a0 s.heap:=by
 obtain ⟨oe,vs,oT,ts,x1,x2,x3,x4,x5,x6,x7,x8⟩:=hx
 exact ⟨λb o e1=>PySem.W.of_hideAll _ e1,PySem.W.hideAll_none _ (by simp),Uz I _ λb hb=>by simp [hb],oe,vs,T,oT,ts,x1,x2,x3,x4,PySem.W.hideAll_none _ (by simp),x5,x6,x7,x8⟩
theorem Inv.flown {pins:List (Addr × Obj)} {σ:St} {H:Hp} {s:Shared} {e T:Addr} {h':Heap} (I:Inv X pins σ H s) (hex:X.ex=[]) (fe:FxOk X pins H e) (fT:FxOk X pins H T)
  (hst:(PySem.W.hideAll s.heap (e :: T :: frs X.stack)).StaysIn h') (hup:s.heap.UpToSlots h'):Inv X pins σ H { s with heap:=h' }:=by
 refine I.exc hex fe fT (λb o h1 h2 h3 e1=>hst b o (PySem.W.hideAll_get _ e1 λz=>?_)) λb o hb e1=>hup b o e1 (I.fnd hb e1)
 rcases Ar z with z | z
 ·exact h1 z
 ·rcases Ar z with z | z
  ·exact h2 z
  ·exact h3 z
end
section
variable {X:Cx} {pins:List (Addr × Obj)} {σ:St} {H:Hp} {s:Shared} {A:Around} {E:Value->Shared->Prop} {a:Addr}
theorem Zot {kvs:List (Key × V)} {k:Key} {d:V} {u r:Value} {Q:Value->Shared->Prop} (I:Inv X pins σ H s) (e:H a=some (.dK kvs)) (hl:kvs.length < sizeLine) (ry:RelV (kV k) u) (rd:RelV d r)
  (h1:∀ v w' s',valV kvs k=some v->Inv X pins σ H s'->RelV v w'->Q w' s') (h2:valV kvs k=none->∀ s',Inv X pins σ (upd H a (.dK (putK kvs k d))) s'->Q r s') :
  wpAny (model X.prog X.w) A (call (.builtin "dict.setdefault") [.ref a,u,r]) Q E s:=by
 obtain ⟨z,hd,vs,rel,dd⟩:=Zcm I.hok e
 have hz:vs.length<=sizeLine:=by rw [<- rel.length]; exact z
 refine call_meetsIn PySem.F.slot_dict_setdefault dd.typeIs PySem.F.entry_dict_setdefault (PySem.F.args_dict_setdefault_3 _ _ _) (kt_meets_setdefault (Z9 X.prog X.w) a (Q0 ry) hd r) ⟨vs,dd,hz,λv hv=>?_,λhv h' dd' hs=>?_⟩
 ·have rel':=rel.val k
  rw [hv] at rel'
  cases q:valV kvs k with
  | none=>rw [q] at rel'; exact rel'.elim
  | some y=>rw [q] at rel'; exact h1 y v _ q (I.tok _) rel'
 ·have rel':=rel.val k
  rw [hv] at rel'
  cases q:valV kvs k with
  | some y=>rw [q] at rel'; exact rel'.elim
  | none =>
   have he:∃ q,h'.get? a=some q:=let ⟨q,_,_,hq,_⟩:=dd'; ⟨q,hq⟩
   have hl2:(putK kvs k d).length<=sizeLine:=by have:=Jn kvs k d; omega
   exact h2 q _ (U2 I (by rw [e]; exact True.intro) hs he (F7 hl2 hd (rel.put k rd) dd'))
end
noncomputable def Znz (td ty tx:TE):TE:=λσ H Q=>td σ H λx H1=>∃ a,x=.ref a/\IsD H1 a/\ty σ H1 λy H2=>tx σ H2 λz H3=>∃ kvs k,H3 a=some (.dK kvs)/\kvs.length < sizeLine/\y=kV k /\
 (∀ v,valV kvs k=some v->Q v H3)/\(valV kvs k=none->Q z (upd H3 a (.dK (putK kvs k z))))
section
variable {X:Cx} {o e f:Expr} {apos cpos:Pos} {td ty tx:TE}
theorem Zkv (ho:PE X o td) (he:PE X e ty) (hf:PE X f tx) (m:M2 X o "setdefault" apos e f cpos):PE X (.Call (.Attribute o "setdefault" apos) [e,f] [] cpos) (Znz td ty tx):=by
 intro pins s σ H Q I h
 refine wpAny_Call_method m.base m.few m.line PySem.F.plainAttrs_dict PySem.F.slot_dict_setdefault PySem.F.type_dict_setdefault (thn (ho pins s σ H _ I h) λu s1 zz9=>?_)
 obtain ⟨x,H1,I1,rx,a,ex,d,q1⟩:=zz9
 subst ex
 obtain rfl:u=Value.ref a:=rx
 obtain ⟨t1,t2,_⟩:=F1 I1 d
 refine ⟨t1,t2,?_⟩
 rw [m.trees]
 refine Calls.callWith_builtin rfl (Calls.evalArgs_plain (Calls.spliced_cons (thn (he pins s1 σ H1 _ I1 q1) λiv s2 ⟨y,H2,I2,ry,q2⟩ =>
  Calls.spliced_cons (thn (hf pins s2 σ H2 _ I2 q2) λfv s3 ⟨z,H3,I3,rz,kvs,k,hk,hl,ey,q3,q4⟩=>Calls.spliced_nil ?_))))
 subst ey
 exact Zot I3 hk hl ry rz (λv w' s' hv I' rw'=>⟨v,H3,I',rw',q3 v hv⟩) λhv s' I'=>⟨z,_,I',rz,q4 hv⟩
theorem Zee {P:Program} {w:World} {kvs:List (Key × V)} {vs:List (Key × Value)} {ks:List Int} (rel:KV kvs vs) (hk:kvs.map (·.1)=ks.map Sum.inl) {us:List Value} (hl:us.length=vs.length)
  (hu:∀ (j:Nat) (v:Value),us[j]?=some v->∃ k x,vs[j]?=some (k,x)/\(Z9 P w).is k v=true):IntsAre us ks:=by
 have hkl:kvs.length=ks.length:=by have:=congrArg List.length hk; simpa using this
 have hvl:kvs.length=vs.length:=rel.length
 have key:∀ (j:Nat) (v:Value),us[j]?=some v->∃ i t,ks[j]?=some i/\v=Value.int i t:=λj v hv=>by
  obtain ⟨k,x,hx,hi⟩:=hu j v hv
  have e1:(vs.map (·.1))[j]?=some k:=by rw [Ah,hx]; rfl
  have e2:vs.map (·.1)=kvs.map (·.1):=by
   clear hk hl hu hkl hvl hx hi e1
   induction rel with
   | nil=>rfl
   | cons r t ih=>rw [List.map_cons,List.map_cons,ih,r.1]
  rw [e2,hk,Ah] at e1
  cases q:ks[j]? with
  | none=>rw [q] at e1; cases e1
  | some i =>
   rw [q] at e1
   have e3:Sum.inl i=k:=Ax e1
   subst e3
   obtain ⟨t,ht⟩:=Value.isInt_shape (k:=i) (v:=v) hi
   exact ⟨i,t,rfl,ht⟩
 have gen:∀ (us:List Value) (ks:List Int),us.length=ks.length->(∀ (j:Nat) (v:Value),us[j]?=some v->∃ i t,ks[j]?=some i/\v=Value.int i t)->IntsAre us ks:=by
  intro us
  induction us with
  | nil =>
   intro ks hl _
   cases ks with
   | nil=>exact .nil
   | cons _ _=>simp at hl
  | cons u r ih =>
   intro ks hl h
   cases ks with
   | nil=>simp at hl
   | cons i ks =>
    obtain ⟨i',t,e1,e2⟩:=h 0 u rfl
    have e1':i=i':=by simpa using e1
    subst e1' e2
    exact .cons i t (ih ks (by simpa using hl) λj v hv=>h (j + 1) v (by simpa using hv))
 exact gen us ks (by omega) key
theorem Vz (hc:X.calm=true):Xu X (.builtin "sorted") (λxs H Q=>∃ (d:Addr) (kvs:List (Key × V)) (ks:List Int),xs=[.ref d]/\Rd H d (.dK kvs)/\kvs.map (·.1)=ks.map Sum.inl/\ks.length < 64 /\
  ∀ (p:Addr) (out:List Int),H p=none->out.Perm ks->out.Pairwise (·<=·)->Q (.ref p) (upd H p (.lst (out.map V.int)))):=by
 intro pins s σ H xs us Q I r h
 obtain ⟨d,kvs,ks,rfl,hd,hk,h64,q⟩:=h
 obtain ⟨u,rfl,ru⟩:=Wo r
 obtain rfl:u=Value.ref d:=ru
 obtain ⟨z,hsys,vs,rel,dd⟩:=Ve I.hok hd
 obtain ⟨ep,hat⟩:=dd.dictAt
 have hlen:vs.length=ks.length:=by have:=congrArg List.length hk; rw [Ab,Ab] at this; have:=rel.length; omega
 have hn:vs.length<=sizeLine:=by rw [sizeLine_eq]; omega
 refine Calls.call_function_entry kind_sorted plain_sorted entry_sorted (args_sorted1 _) ?_
 unfold Builtin.«sorted»
 refine Al (m:=checkCount "sorted" 1 1 _) (wpAny_pure ?_)
 refine Al (PySem.W.kdu_collect (A:=X.A.in1) (PySem.W.kdl_dict (knd:=Z9 X.prog X.w) (kvs:=vs) (ep:=ep) hsys) (I.ok.hd hc) hat hn λh' tk acc hk' hacc=>?_)
 have hl:acc.toList.length=vs.length:=by rw [Array.length_toList]; exact hacc.1
 have hI:IntsAre acc.toList ks:=Zee (P:=X.prog) (w:=X.w) rel hk hl λj v hv=>hacc.2 j v (by rw [<- Array.getElem?_toList]; exact hv)
 refine Al (wpAny_newList ?_ (by rw [hl]; exact hn))
 have I1:Inv X pins σ H { s with heap:=h',toks:=tk }:=I.kept hk'
 have hoL:(h'.push { cls:=.type "list",data:=.seq acc.toList.toArray }).get? h'.objs.size=some (seqObj "list" acc.toList.toArray 0):=Ap _ rfl
 refine Al (wpAny_holding (wpAny_call_entry slot_list_sort ⟨_,hoL,rfl⟩ entry_list_sort (list_sort_tree hoL hI (by omega) λout ns' a1 a2 a3=>⟨_,rfl,?_⟩) (args_list_sort _)))
 refine wpAny_pure ⟨_,rfl,?_⟩
 obtain ⟨e,he⟩:=sortedHeap_at (out:=out) hoL
 have kp:∀ b u,h'.get? b=some u->(sortedHeap (h'.push { cls:=.type "list",data:=.seq acc.toList.toArray }) h'.objs.size acc.toList out).get? b=some u:=λb u hb=>by
  have hlt:b < h'.objs.size:=Ao hb
  rw [sortedHeap_old (As hlt) (by rw [Heap.size_push]; exact Nat.lt_succ_of_lt hlt)]
  exact Ak _ hb
 have hv:Vals (ns'.map V.int) out.toList:=by
  clear he kp
  generalize out.toList=l at a1
  clear a2 a3
  induction a1 with
  | nil=>exact .nil
  | cons i t _ ih=>exact .cons ⟨_,rfl⟩ ih
 refine ⟨.ref h'.objs.size,upd H h'.objs.size (.lst (ns'.map V.int)),I1.laid kp (An _) ?_,rfl,q _ ns' I1.fresh a2 a3⟩
 refine ⟨?_,out.toList,e,hv,?_⟩
 ·rw [Ab,a2.length_eq,sizeLine_eq]; omega
 ·rw [he]
end
section
variable {X:Cx} {pins:List (Addr × Obj)} {σ:St} {H:Hp} {s:Shared} {a:Addr}
theorem Inv.freeze {u:HO} {ob:Obj} (I:Inv X pins σ H s) (e:H a=some u) (mu:Mut (some u)) (ho:s.heap.get? a=some ob):Inv X pins σ (upd H a (.frz ob u)) s:=by
 have nown:∀ c y,H c=some (.own y)->c≠a:=λc y r z=>by subst z; rw [r] at e; cases e; exact mu
 have ntup:∀ c xs,H c=some (.tup xs)->c≠a:=λc xs r z=>by subst z; rw [r] at e; cases e; exact mu
 have nfrz:∀ c o xs,H c=some (.frz o xs)->c≠a:=λc o xs r z=>by subst z; rw [r] at e; cases e; exact mu
 have ntbl:∀ c ps,H c=some (.tbl ps)->c≠a:=λc ps r z=>by subst z; rw [r] at e; cases e; exact mu
 have un:Un X.fs [] H (upd H a (.frz ob u)) s.heap s.heap:=⟨λ_ _ q _ _ _=>q,λ_ o q _ _ _=>⟨o.slots,q⟩,λb o q n _=>by rw [Zd (λz=>by rw [z,e] at n; cases n)]; exact n,λb o q _=>⟨o,q⟩,
  λb xs q=>by rw [Zd (ntup b xs q)]; exact q,λb o xs q=>by rw [Zd (nfrz b o xs q)]; exact q,λb ps q=>⟨#[],by rw [Zd (ntbl b ps q),q]; simp⟩⟩
 have hok:HOk X.prog X.w (upd H a (.frz ob u)) s.heap:=λb v q=>by
  have st:∀ c w',Yj X.prog X.w H s.heap c w'->Yj X.prog X.w (upd H a (.frz ob u)) s.heap c w':=λc w' x=>x.stay (λ_ _ _ q=>q) (λd r=>by rw [Zd (nown d c r)]; exact r) λd xs r=>by rw [Zd (ntup d xs r)]; exact r
  by_cases hb:b=a
  ·subst hb
   rw [Zc] at q
   cases q
   exact ⟨ho,st _ _ (I.hok _ _ e)⟩
  ·rw [Zd hb] at q
   exact st _ _ (I.hok b v q)
 exact I.un (h':=s.heap) (t':=s.toks) un hok
end
section
theorem KV.at {kvs:List (Key × V)} {vs:List (Key × Value)} (r:KV kvs vs):∀ {i:Nat} {k:Key} {v:V},kvs[i]?=some (k,v)->∃ u,vs[i]?=some (k,u)/\RelV v u:=by
 induction r with
 | nil=>intro i k v h; simp at h
 | cons r t ih =>
  intro i k v h
  cases i with
  | zero =>
   simp at h
   subst h
   exact ⟨_,by rw [List.getElem?_cons_zero]; exact congrArg some (Prod.ext r.1.symm rfl),r.2⟩
  | succ i =>
   obtain ⟨u,h1,h2⟩:=ih (by simpa using h)
   exact ⟨u,by simpa using h1,h2⟩
theorem Zpo {P:Program} {w:World} {k:Key} {u:Value} (h:(Z9 P w).is k u=true):RelV (kV k) u:=by
 cases k with
 | inl i=>obtain ⟨t,e⟩:=Value.isInt_shape (k:=i) (v:=u) h; exact ⟨t,e⟩
 | inr x=>obtain ⟨t,e⟩:=Value.isStrOf_shape (x:=x) (v:=u) h; exact ⟨t,e⟩
theorem Qw {X:Cx} {pins:List (Addr × Obj)} {σ:St} {H:Hp} {s:Shared} {d:Addr} {o:Obj} {kvs:List (Key × V)} (I:Inv X pins σ H s) (e:H d=some (.frz o (.dK kvs))) :
  ∃ vs ep,KV kvs vs/\s.heap.DictAt (Z9 X.prog X.w) d vs ep/\s.heap.get? d=some o:=by
 obtain ⟨ho,_,_,vs,rel,dd⟩:=I.hok d _ e
 obtain ⟨ep,da⟩:=dd.dictAt
 exact ⟨vs,ep,rel,da,ho⟩
noncomputable def epOf (o:Obj):Nat:=match o.data with
 | .dict _ ep=>ep
 | _=>0
theorem Kv {P:Program} {w:World} {h:Heap} {d:Addr} {o:Obj} {vs:List (Key × Value)} {ep:Nat} (da:h.DictAt (Z9 P w) d vs ep) (ho:h.get? d=some o):ep=epOf o:=by
 obtain ⟨o',es,h1,_,h2,_⟩:=da
 rw [ho] at h1
 cases h1
 unfold epOf
 rw [h2]
theorem Zhp {P:Program} {w:World} {K:W.Frag} {tg:Expr} (d it:Addr) (kvs:List (Key × V)) (o:Obj) :
  Turn P w K tg ⟨λi H=>i < kvs.length/\H d=some (.frz o (.dK kvs)),λi H x H'=>H'=H/\∃ k,kvs[i]?=some (k,x),λi H=>kvs.length<=i/\H d=some (.frz o (.dK kvs))⟩ [it] it (λi h=>h.IsValIter it d i kvs.length (epOf o)) where
 mem:=by simp
 obj:=λi h st b hb=>by
  have e:b=it:=by simpa using hb
  subst e
  obtain ⟨o,e,c,d⟩:=st
  exact ⟨o,e,λv z=>by rw [d] at z; cases z⟩
 keep:=λi h h' st k=>st.at λo e=>k it (by simp) o e
 item:=by
  intro X hP hw hK hc i pins s σ H E I hf st hg
  subst hP hw hK
  obtain ⟨hi,hq⟩:=hg
  obtain ⟨vs,ep,rel,da,ho⟩:=Qw I hq
  have hep:=Kv da ho
  subst hep
  obtain ⟨f0,f1,f2,f3,f4,f5⟩:=hf it (by simp)
  obtain ⟨⟨k,v⟩,hx⟩:∃ p,kvs[i]?=some p:=⟨_,Ac hi⟩
  obtain ⟨u,hu,ru⟩:=rel.at hx
  have hlen:vs.length=kvs.length:=rel.length.symm
  rw [<- hlen] at st
  refine wpAny_pyNext_values_item st da hu λh' st' sb=>?_
  have I1:Inv X pins σ H { s with heap:=h' }:=I.turned (t':=s.toks) (λb o hb e=>(sb.2 b hb).trans e) f0 f1 f3 f4 f5
  rw [hlen] at st'
  obtain ⟨oi,e,c,dd⟩:=id st'
  exact ⟨u,rfl,F4 (s:={ s with heap:=h' }) e c dd (by decide) ⟨v,H,I1,ru,⟨rfl,k,hx⟩,st',λb hb=>(hf b hb).1⟩⟩
 done:=by
  intro X hP hw hK hc i pins s σ H E I hf st hg
  subst hP hw hK
  obtain ⟨hi,hq⟩:=hg
  obtain ⟨vs,ep,rel,da,ho⟩:=Qw I hq
  have hep:=Kv da ho
  subst hep
  obtain ⟨f0,f1,f2,f3,f4,f5⟩:=hf it (by simp)
  have hlen:vs.length=kvs.length:=rel.length.symm
  rw [<- hlen] at st
  exact wpAny_pyNext_values_end (I.ok.hd hc) st da (by rw [Ay]; omega) λh' eb=>⟨rfl,I.turned (t':=s.toks) (λb o hb e=>eb b o hb e) f0 f1 f3 f4 f5⟩
 self:=λ_ _ _ _ _ st h=>wpAny_pyIter_valiter st h
end
section
variable {X:Cx} {tg:Expr} {l:Expr} {tl:TE}
noncomputable def Itv2 (d:Addr) (kvs:List (Key × V)) (o:Obj):It:=⟨λi H=>i < kvs.length/\H d=some (.frz o (.dK kvs)),λi H x H'=>H'=H/\∃ k,kvs[i]?=some (k,x),λi H=>kvs.length<=i/\H d=some (.frz o (.dK kvs))⟩
noncomputable def Zl2 (J:Addr->List (Key × V)->Obj->It) (tl:TE):TI:=λσ H R=>tl σ H λx H1=>∃ a kvs,x=.ref a/\((H1 a=some (.dK kvs)/\∀ o,R (J a kvs o) (upd H1 a (.frz o (.dK kvs))))\/∃ o,H1 a=some (.frz o (.dK kvs))/\R (J a kvs o) H1)
theorem Zek {pins:List (Addr × Obj)} {σ:St} {H:Hp} {s:Shared} {a:Addr} {kvs:List (Key × V)} {R:Obj->Hp->Prop} (I:Inv X pins σ H s)
  (h:(H a=some (.dK kvs)/\∀ o,R o (upd H a (.frz o (.dK kvs))))\/∃ o,H a=some (.frz o (.dK kvs))/\R o H):∃ o H',H' a=some (.frz o (.dK kvs))/\Inv X pins σ H' s/\R o H':=by
 rcases h with ⟨e,r⟩ | ⟨o,e,r⟩
 ·obtain ⟨ob,ho⟩:=(I.hok a _ e).there
  exact ⟨ob,_,Zc,I.freeze e True.intro ho,r ob⟩
 ·exact ⟨o,H,e,I,r⟩
structure M0 (X:Cx) (o:Expr) (m:Str) (apos cpos:Pos):Prop where
 base:attributeBase o m X.env (eval o X.env)=eval o X.env
 few:((backTo cpos (starEach [] X.env)).all (λx=>!x.1) && (backToKw cpos (keywordEach [] X.env)).all (λx=>x.1.isSome)
  && decide (([]:List Expr).length + ([]:List Keyword).length + (if ([]:List Keyword).isEmpty then 0 else 1) < 30))=true
 line:(apos.endLine == cpos.line)=true
theorem Zau {apos cpos:Pos} (hl:PE X l tl) (m:M0 X l "values" apos cpos):PI X tg (.Call (.Attribute l "values" apos) [] [] cpos) (Zl2 Itv2 tl):=by
 intro pins s σ H R I h
 refine wpAny_Call_method m.base m.few m.line PySem.F.plainAttrs_dict PySem.F.slot_dict_values PySem.F.type_dict_values (thn (hl pins s σ H _ I h) λv s1 zz9=>?_)
 obtain ⟨x,H1,I1,r1,q1⟩:=zz9
 obtain ⟨a,kvs,e,q⟩:=q1
 subst e
 cases r1
 obtain ⟨o,H2,e2,I2,q2⟩:=Zek (R:=λo H=>R (Itv2 a kvs o) H) I1 q
 obtain ⟨vs,ep,rel,da,ho⟩:=Qw I2 e2
 have hep:=Kv da ho
 subst hep
 obtain ⟨_,_,hsys,_⟩:=I2.hok a _ e2
 have isd:IsD H2 a:=.inl ⟨kvs,.inr ⟨o,e2⟩⟩
 obtain ⟨t1,t2,_⟩:=F1 I2 isd
 refine ⟨t1,t2,?_⟩
 refine Calls.callWith_builtin rfl (PyProof.Rows.evalArgs_empty ?_)
 refine call_meetsIn PySem.F.slot_dict_values da.dictOf.typeIs PySem.F.entry_dict_values (PySem.F.args_dict_values_1 _) (meets_dict_values (Z9 X.prog X.w) a hsys) ⟨⟨vs,da.dictOf⟩,?_⟩
 have I3:Inv X pins σ H2 { s1 with heap:=s1.heap.push { cls:=.type "dict_values",data:=.fields #[.ref a] } }:=I2.kept (t':=s1.toks) λb o e=>Ak _ e
 refine wpAny_pyIter_values ⟨_,Ap _ rfl,rfl,rfl⟩ (da.push _) ?_
 have hlen:vs.length=kvs.length:=rel.length.symm
 rw [hlen]
 refine ⟨(s1.heap.push { cls:=.type "dict_values",data:=.fields #[.ref a] }).objs.size,[(s1.heap.push { cls:=.type "dict_values",data:=.fields #[.ref a] }).objs.size],_,_,H2,rfl,I3.kept (t':=s1.toks) λb o e=>Ak _ e,Zhp a _ kvs o,⟨_,Ap _ rfl,rfl,rfl⟩,λb hb=>?_,q2⟩
 have e:b=(s1.heap.push { cls:=.type "dict_values",data:=.fields #[.ref a] }).objs.size:=by simpa using hb
 subst e
 exact I3.fpOk (An _) (I3.hok.fresh (An _))
end
section
noncomputable def Ite (K:W.Frag) (a:Addr):It :=
 ⟨λi H=>∃ xs x,SqL K H a xs/\xs[i]?=some x,λi H x H'=>∃ q y,H q=none/\x=.ref q/\(∀ xs,SqL K H a xs->xs[i]?=some y)/\H'=upd H q (.tup [.int i,y]),λi H=>∃ xs,SqL K H a xs/\xs.length<=i⟩
theorem Zhr {P:Program} {w:World} {K:W.Frag} {elts:List Expr} {x1:Nat} {pos:Pos} (a e it:Addr) (hne:e≠it):Turn P w K (.Tuple elts x1 pos) (Ite K a) [e,it] e (λi h=>(∃ old,IsEnum h e it i old)/\h.IsListIter it a i) where
 mem:=by simp
 obj:=λi h st b hb=>by
  obtain ⟨⟨old,h1⟩,o,h2,c,d⟩:=st
  rcases Ar hb with z | z
  ·subst z
   exact ⟨_,h1,λv z=>by
    have z':Data.fields _=Data.cell v:=z
    cases z'⟩
  ·have z:b=it:=by simpa using z
   subst z
   exact ⟨o,h2,λv z=>by rw [d] at z; cases z⟩
 keep:=λi h h' st k=>⟨let ⟨old,h1⟩:=st.1; ⟨old,k e (by simp) _ h1⟩,st.2.at λo q=>k it (by simp) o q⟩
 item:=by
  intro X hP hw hK hc i pins s σ H E I hf st hg
  subst hP hw hK
  obtain ⟨xs,x,hq,hx⟩:=hg
  obtain ⟨its,rv,p,hz⟩:=I.list hq
  obtain ⟨u,hu,ru⟩:=rv.get hx
  obtain ⟨f0,f1,f2,f3,f4,f5⟩:=hf e (by simp)
  obtain ⟨g0,g1,g2,g3,g4,g5⟩:=hf it (by simp)
  obtain ⟨⟨old,he⟩,hit⟩:=st
  refine wpAny_pyNext_enum_item he hit p.isList (x:=u) (by simpa using hu) hne λh' ho' hit' ht' hsz' kk=>?_
  have eo:=Ao he
  have io:it < s.heap.objs.size:=let ⟨o,q,_⟩:=hit; Ao q
  refine ⟨.ref s.heap.objs.size,rfl,wpAny_letOwnedTupleGo_enum ho' λh'' he'' sb=>?_⟩
  have keepb:∀ b o,b≠e->b≠it->s.heap.get? b=some o->h''.get? b=some o:=λb o h1 h2 q=>(sb.2 b h1).trans (kk b o h1 h2 q)
  have ht'':h''.get? s.heap.objs.size=some { cls:=.type "tuple",data:=.seq #[.int i s.toks,u] }:=(sb.2 _ (Nat.ne_of_gt eo)).trans ht'
  have hn:H s.heap.objs.size=none:=I.hok.fresh (An _)
  have I2:Inv X pins σ (upd H s.heap.objs.size (.tup [.int i,x])) { s with heap:=h'',toks:=s.toks + 1 }:=by
   refine I.step (g':=s.gens) (d':=s.drawn) (ch:=[e,it]) (λb hb=>?_) (λb o _ _ hc q _=>keepb b o (λz=>hc (by simp [z])) (λz=>hc (by simp [z])) q) (λb o _ _ hc q _=>⟨o.slots,keepb b o (λz=>hc (by simp [z])) (λz=>hc (by simp [z])) q⟩) (λb o _ q n=>by rw [Zd (As (Ao q))]; exact n)
    (λb o hc q=>⟨o,keepb b o (λz=>hc (by simp [z])) (λz=>hc (by simp [z])) q⟩) (λb ys q=>by rw [Zd (Zi q hn)]; exact q) (λb o ys q=>by rw [Zd (Zi q hn)]; exact q) (λb ps q=>⟨#[],by rw [Zd (Zi q hn),q]; simp⟩) (λm hm=>?_) (λb v q=>?_) I.bare
   ·rcases Ar hb with z | z
    ·subst z; exact ⟨f3,f1,f4,f5⟩
    ·have z:b=it:=by simpa using z
     subst z; exact ⟨g3,g1,g4,g5⟩
   ·obtain ⟨o,es,ep,ho,r⟩:=hm
    exact ⟨o,es,ep,keepb _ o (Ne.symm f1) (Ne.symm g1) ho,r⟩
   ·by_cases hb:b=s.heap.objs.size
    ·subst hb
     rw [Zc] at q
     cases q
     exact ⟨by show 2<=sizeLine; decide,[.int i s.toks,u],.cons ⟨_,rfl⟩ (.cons ru .nil),⟨_,ht'',rfl,_,rfl⟩⟩
    ·rw [Zd hb] at q
     refine (I.hok b v q).stay (λc w' hc z=>keepb c w' ?_ ?_ z) (λd z=>by rw [Zd (Zi z hn)]; exact z) λd ys z=>by rw [Zd (Zi z hn)]; exact z
     ·rintro rfl
      rcases hc with z | z
      ·rw [z,q] at f0; cases f0
      ·rw [f0] at z; cases z
     ·rintro rfl
      rcases hc with z | z
      ·rw [z,q] at g0; cases g0
      ·rw [g0] at z; cases z
  refine ⟨.ref s.heap.objs.size,_,I2,rfl,⟨_,x,hn,rfl,λys hy=>by rw [I.list_inj hy hq]; exact hx,rfl⟩,⟨⟨u,he''⟩,hit'.at λo q=>(sb.2 it (Ne.symm hne)).trans q⟩,λb hb=>?_⟩
  rcases Ar hb with z | z
  ·subst z; rw [Zd (As eo)]; exact f0
  ·have z:b=it:=by simpa using z
   subst z; rw [Zd (As io)]; exact g0
 done:=by
  intro X hP hw hK hc i pins s σ H E I hf st hg
  subst hP hw hK
  obtain ⟨xs,hq,hx⟩:=hg
  obtain ⟨its,rv,p,hz⟩:=I.list hq
  obtain ⟨g0,g1,g2,g3,g4,g5⟩:=hf it (by simp)
  obtain ⟨⟨old,he⟩,hit⟩:=st
  have hl:=rv.length
  exact wpAny_pyNext_enum_end (I.ok.hd hc) he hit p.isList (by simp; omega) λh' eb=>⟨rfl,I.turned (t':=s.toks) (λb o hb e=>eb b o hb e) g0 g1 g3 g4 g5⟩
 self:=λ_ _ _ _ _ st h=>by
  obtain ⟨⟨old,he⟩,_⟩:=st
  exact wpAny_pyIter_enum he h
variable {X:Cx}
noncomputable def Zpv (K:W.Frag) (ta:TA):TI:=λσ H R=>ta σ H λvs H1=>∃ a,vs=[.ref a]/\(∃ xs,SqL K H1 a xs)/\R (Ite K a) H1
theorem Zmy {elts:List Expr} {x1:Nat} {tpos p pos:Pos} {l:Expr} {ta:TA} (hg:Gl X "enumerate") (hm:X.mg "enumerate"=none) (ha:PA X [l] ta) (hs:starEach [l] X.env=[(false,eval l X.env)]:=by rfl):PI X (.Tuple elts x1 tpos) (.Call (.Name "enumerate" p) [l] [] pos) (Zpv X.K ta):=by
 intro pins s σ H R I h
 refine Call_ (Wf I hg hm boot_enumerate (PyProof.Rows.callWith_type1 (thn (ha pos pins s σ H _ I h) λus s1 zz32=>?_) hs rfl))
 obtain ⟨vs,H1,I1,r1,q1⟩:=zz32
 obtain ⟨a,e,⟨xs,hq⟩,q⟩:=q1
 subst e
 obtain ⟨u,rfl,ru⟩:=Wo r1
 cases ru
 obtain ⟨its,rv,pl,hz⟩:=I1.list hq
 refine call_enumerate_list pl.isList λh' he hit hsz hk=>wpAny_pyIter_enum he ?_
 have I2:Inv X pins σ H1 { s1 with heap:=h' }:=I1.kept (t':=s1.toks) hk
 refine ⟨s1.heap.objs.size + 1,[s1.heap.objs.size + 1,s1.heap.objs.size],_,_,H1,rfl,I2,Zhr a _ _ (Nat.succ_ne_self _),⟨⟨.none,he⟩,hit⟩,λb hb=>?_,q⟩
 rcases Ar hb with z | z
 ·subst z; exact I1.fpOk (Nat.le_succ _) (I1.hok.fresh (Nat.le_succ _))
 ·have z:b=s1.heap.objs.size:=by simpa using z
  subst z; exact I1.fpOk (An _) (I1.hok.fresh (An _))
theorem Zll {K:W.Frag} {a:Addr} {xs:List V} {g:TG} {tb:TS} {D:Ends} {σ:St} {H:Hp} (Pv:Nat->St->Hp->Prop) (h0:Pv 0 σ H) (hl:∀ i σ H,i<=xs.length->Pv i σ H->SqL K H a xs)
  (hs:∀ i x σ H q,xs[i]?=some x->H q=none->Pv i σ H->g (.ref q) σ (upd H q (.tup [.int i,x])) λσ2 H2=>tb { D with nx:=Pv (i + 1),ct:=Pv (i + 1),bk:=D.nx } σ2 H2) (hd:∀ σ H,Pv xs.length σ H->D.nx σ H) :
  ∃ W:Nat->Nat->St->Hp->Prop,(∃ m,W 0 m σ H)/\∀ i m σ H,W i m σ H ->
   ((Ite K a).stop i H/\D.nx σ H)\/((Ite K a).go i H/\∃ N:St->Hp->Prop,(∀ σ' H',N σ' H'->∃ m',m' < m/\W (i + 1) m' σ' H')/\∀ x H',(Ite K a).yld i H x H'->g x σ H' λσ2 H2=>tb { D with nx:=N,ct:=N,bk:=D.nx } σ2 H2):=by
 refine ⟨λi m σ H=>m=xs.length - i/\i<=xs.length/\Pv i σ H,⟨xs.length,by simp,Az _,h0⟩,?_⟩
 rintro i m σ H ⟨rfl,hi,p⟩
 have q:=hl i σ H hi p
 by_cases hlt:i < xs.length
 ·refine .inr ⟨⟨xs,xs[i],q,by simp [hlt]⟩,Pv (i + 1),λσ' H' p'=>⟨xs.length - (i + 1),by omega,rfl,hlt,p'⟩,λx H' y=>?_⟩
  obtain ⟨c,z,hn,e1,e2,e3⟩:=y
  subst e1 e3
  exact hs i z σ H c (e2 xs q) hn p
 ·have e:i=xs.length:=by omega
  subst e
  exact .inl ⟨⟨xs,q,An _⟩,hd σ H p⟩
theorem G3 {d:Addr} {kvs:List (Key × V)} {o:Obj} {g:TG} {tb:TS} {D:Ends} {σ:St} {H:Hp} (Pv:Nat->St->Hp->Prop) (h0:Pv 0 σ H) (hl:∀ i σ H,i<=kvs.length->Pv i σ H->H d=some (.frz o (.dK kvs)))
  (hs:∀ i k x σ H,kvs[i]?=some (k,x)->Pv i σ H->g x σ H λσ2 H2=>tb { D with nx:=Pv (i + 1),ct:=Pv (i + 1),bk:=D.nx } σ2 H2) (hd:∀ σ H,Pv kvs.length σ H->D.nx σ H) :
  ∃ W:Nat->Nat->St->Hp->Prop,(∃ m,W 0 m σ H)/\∀ i m σ H,W i m σ H ->
   ((Itv2 d kvs o).stop i H/\D.nx σ H)\/((Itv2 d kvs o).go i H/\∃ N:St->Hp->Prop,(∀ σ' H',N σ' H'->∃ m',m' < m/\W (i + 1) m' σ' H')/\∀ x H',(Itv2 d kvs o).yld i H x H'->g x σ H' λσ2 H2=>tb { D with nx:=N,ct:=N,bk:=D.nx } σ2 H2):=by
 refine ⟨λi m σ H=>m=kvs.length - i/\i<=kvs.length/\Pv i σ H,⟨kvs.length,by simp,Az _,h0⟩,?_⟩
 rintro i m σ H ⟨rfl,hi,p⟩
 have q:=hl i σ H hi p
 by_cases hlt:i < kvs.length
 ·refine .inr ⟨⟨hlt,q⟩,Pv (i + 1),λσ' H' p'=>⟨kvs.length - (i + 1),by omega,rfl,hlt,p'⟩,λx H' y=>?_⟩
  obtain ⟨e,k,y⟩:=y
  subst e
  exact hs i k x σ _ y p
 ·have e:i=kvs.length:=by omega
  subst e
  exact .inl ⟨⟨An _,q⟩,hd σ H p⟩
noncomputable def Zl8 (ta:TA):TE:=λσ H Q=>ta σ H λvs H1=>∃ n:Nat,vs=[.int n]/\n<=1000/\∀ p,H1 p=none->Q (.ref p) (upd H1 p (.lst ((List.range n).map λ(i:Nat)=>V.int i)))
theorem Ke {a:Expr} {ta:TA} {p1 p2 pos pos2:Pos} (hgl:Gl X "list") (hml:X.mg "list"=none) (hg:Gl X "range") (hm:X.mg "range"=none) (hc:X.calm=true) (ha:PA X [a] ta) (hs:starEach [a] X.env=[(false,eval a X.env)]:=by rfl)
  (hs2:starEach [.Call (.Name "range" p2) [a] [] pos2] X.env=[(false,eval (.Call (.Name "range" p2) [a] [] pos2) X.env)]:=by rfl):PE X (.Call (.Name "list" p1) [.Call (.Name "range" p2) [a] [] pos2] [] pos) (Zl8 ta):=by
 intro pins s σ H Q I h
 refine Call_ (Wf I hgl hml PySem.Pv.boot_list (PyProof.Rows.callWith_type1 ?_ hs2 rfl))
 rw [hs2]
 refine Calls.spliced_cons ?_
 refine Call_ (Wf I hg hm boot_range (PyProof.Rows.callWith_type1 (thn (ha pos2 pins s σ H _ I h) λus s1 zz33=>?_) hs rfl))
 obtain ⟨vs,H1,I1,r1,q1⟩:=zz33
 obtain ⟨n,e,hn,q⟩:=q1
 subst e
 obtain ⟨u,rfl,ru⟩:=Wo r1
 obtain ⟨t,rfl⟩:=ru
 refine call_range_1 (Calls.spliced_nil ?_)
 have hr:Builtin.Range.rangeSize 0 (n:Int) 1=n:=by rw [rangeSize_one]; split <;> omega
 refine call_list_range (I.ok.hd hc) (IsRange.new ..) (small_one (by omega) (by omega) (by omega) (by omega)) hr (by omega) λh' tk acc c' hk hS hacc=>?_
 have hk1:∀ b o,s1.heap.get? b=some o->h'.get? b=some o:=λb o e=>hk b o (Ak _ e)
 have hv:Vals ((List.range n).map λ(i:Nat)=>V.int i) acc.toList:=by
  have gen:∀ (l:List Value) (k:Nat),(∀ (j:Nat) (v:Value),l[j]?=some v->∃ t,v=.int ((k + j:Nat):Int) t)->Vals ((List.range' k l.length).map λ(i:Nat)=>V.int i) l:=by
   intro l
   induction l with
   | nil=>intro k _; exact .nil
   | cons v r ih =>
    intro k h
    obtain ⟨t,e⟩:=h 0 v rfl
    rw [List.length_cons,List.range'_succ,List.map_cons]
    refine .cons ⟨t,by rw [e]; rfl⟩ (ih (k + 1) λj w hw=>?_)
    obtain ⟨t',e'⟩:=h (j + 1) w (by simpa using hw)
    exact ⟨t',by rw [e']; congr 1; omega⟩
  have hl:acc.toList.length=n:=by rw [Array.length_toList]; exact hacc.1
  have:=gen acc.toList 0 λj v hj=>by
   obtain ⟨t,e⟩:=hacc.2 j v (by rw [<- Array.getElem?_toList]; exact hj)
   exact ⟨t,by rw [e]; congr 1; omega⟩
  rw [hl,<- List.range_eq_range'] at this
  exact this
 have hle:s1.heap.objs.size<=(s1.heap.push { cls:=.type "range",data:=.fields #[.int 0 s1.toks,.int (n:Int) t,.int 1 (s1.toks + 1)] }).objs.size:=by rw [Heap.size_push]; exact Nat.le_succ _
 refine ⟨.ref _,upd H1 _ (.lst ((List.range n).map λ(i:Nat)=>V.int i)),I1.laid hk1 (Nat.le_of_lt (by first | exact Nat.lt_of_le_of_lt hle (Ao hS) | (rw [Heap.size_push]; exact Nat.lt_succ_self _))) ⟨?_,acc.toList,c',hv,?_⟩,rfl,q _ (I1.hok.fresh ?_)⟩
 ·rw [Ab,List.length_range,sizeLine_eq]; omega
 ·simpa using hS
 ·rw [Heap.size_push]; exact Nat.le_succ _
end
noncomputable abbrev TJ:=Str->TE
section
variable {X:Cx}
theorem Xt (K:W.Frag) (h:X.K=K:=by rfl):IxR X (rIxL K):=h ▸ Zy
theorem Znd (K:W.Frag) (h:X.K=K:=by rfl):IxR X (rIxT K):=h ▸ X5
theorem U3 (K:W.Frag) (h:X.K=K:=by rfl):Xu X (.type "tuple") (λxs H Q=>∃ p ys,xs=[.ref p]/\((SqL K H p ys/\∀ l,H l=none->Q (.ref l) (upd H l (.tup ys)))\/(SqT K H p ys/\Q (.ref p) H))):=h ▸ Zck
variable {tg l e:Expr} {tl ta:TE} {f:Str} {pos:Pos}
theorem Zav (K:W.Frag) (hl:PE X l tl) (h:X.K=K:=by rfl):PI X tg l (iTup K tl):=h ▸ Zip hl
theorem Zfv (K:W.Frag) (he:PE X e ta) (hb:attributeBase e f X.env (eval e X.env)=eval e X.env) (h:X.K=K:=by rfl):PE X (.Attribute e f pos) (tFld K ta f):=h ▸ Y2 he hb
end
section
variable {prog:Program} {w:World} {A:Around} {E:Value->Shared->Prop}
theorem Zp1 {it l:Addr} {xs:Array Value} (ne:l≠it) (k:Nat):∀ (i:Nat) (s:Shared) (Q:List Value->Shared->Prop),s.heap.IsListIter it l i->s.heap.IsList l xs->i + k<=xs.size ->
  (∀ h',h'.IsListIter it l (i + k)->Heap.SameBut it s.heap h'->Q ((xs.toList.drop i).take k) { s with heap:=h' })->wpAny (model prog w) A (draw (.ref it) k) Q E s:=by
 induction k with
 | zero =>
  intro i s Q a b c q
  have z:=q s.heap a (Heap.SameBut.refl ..)
  rw [List.take_zero] at z
  exact wpAny_pure z
 | succ k ih =>
  intro i s Q a b c q
  have lt:i < xs.size:=by omega
  refine Al (m:=pyNext (.ref it)) (wpAny_pyNext_list_item a b (x:=xs[i]) (by simp [lt]) λg st sb=>?_)
  refine Al (wpAny_holding (ih (i + 1) _ _ st (b.extBut sb.extBut ne) (by omega) λg2 st2 sb2=>wpAny_pure ?_))
  have z:=q g2 (by rw [Nat.add_right_comm] at st2; exact st2) (sb.trans sb2)
  rwa [List.drop_eq_getElem_cons (by simpa using lt),List.take_succ_cons,Array.getElem_toList] at z
theorem Zl5 {l:Addr} {xs:Array Value} {s:Shared} {Q:List Value->Shared->Prop} (hc:A.handled=none) (b:s.heap.IsList l xs)
  (q:∀ h',Heap.ExtBut s.heap.objs.size s.heap h'->Q xs.toList { s with heap:=h' }):wpAny (model prog w) A (unpackItems (.ref l) xs.size none) Q E s:=by
 have ne:l≠s.heap.objs.size:=by obtain ⟨o,ho,_⟩:=b; exact As (Ao ho)
 unfold unpackItems notIterableAtAll
 refine Al (Al (wpAny_specialOf b.typeIs PySem.F.slot_list_iter.lookup (wpAny_pure ?_)))
 rw [if_neg (by decide)]
 refine Al (wpAny_holding (wpAny_pyIter_list b ?_))
 refine Al (wpAny_holding (Zp1 ne xs.size 0 _ _ ⟨_,Ap _ rfl,rfl,rfl⟩ (b.push _) (by omega) λg st sb=>?_))
 have e:(xs.toList.drop 0).take xs.size=xs.toList:=by rw [List.drop_zero,List.take_of_length_le]; simp
 rw [e,if_neg (by simp)]
 refine Al (wpAny_holding (wpAny_pyNext_list_end hc st ((b.push _).extBut sb.extBut ne) (by simp) λg2 eb=>?_))
 rw [if_neg (by decide)]
 exact wpAny_pure (q g2 λc o hb z=>eb c o hb (sb.extBut c o hb (Ak _ z)))
end
section
variable {X:Cx} {pos:Pos}
noncomputable def gLst (K:W.Frag) (n:Nat) (t:TGs):TG:=λv σ H Q=>∃ a xs,v=.ref a/\SqL K H a xs/\xs.length=n/\t xs σ H Q
theorem Zis {es:List Expr} {k:Nat} {t:TGs} {n:Nat} (hc:X.calm=true) (h:PGs X es t)
  (hn:(assignEach es X.env).length=n:=by rfl) (hst:(assignEach es X.env).findIdx? (·.1)=none:=by rfl):PG X (.Tuple es k pos) (gLst X.K n t):=by
 intro pins s σ H v u Q I r hw
 obtain ⟨a,xs,e1,hq,hl,hw⟩:=hw
 subst e1
 cases r
 obtain ⟨its,rv,p,hz⟩:=I.list hq
 rw [assign_Tuple]
 refine Al (wpAny_standAt ?_)
 unfold unpack
 have hn2:(assignEach es X.env).length=its.toArray.size:=by rw [hn,<- hl,rv.length]; simp
 rw [hn2,hst]
 refine Al (wpAny_holding (Zl5 (I.ok.hd hc) p.isList λh' hx=>?_))
 have I1:Inv X pins σ H { s with heap:=h' }:=I.kept (t':=s.toks) λb o e=>hx b o (As (Ao e)) e
 exact h pins _ σ H xs _ Q I1 (by simpa using rv) hw
end
noncomputable def Zaf (w:World) (K:W.Frag) (a:Addr) (kvs:List (Key × V)):Prop :=
 ∃ o es ep vs,K.lookup a=some o/\o.ExactDict/\o.data=.dict es ep/\(∀ e∈es,∃ k,Oe k e.key=true/\e.hash=keyH w k)/\(∀ P:Program,Pairs (Z9 P w) es.toList vs)/\(vs.map (·.1)).Nodup/\KV kvs vs/\(a == sysModules)=false
section
variable {X:Cx} {i o:Expr} {ty td:TE} {pos:Pos}
theorem Zaf.here {pins:List (Addr × Obj)} {σ:St} {H:Hp} {s:Shared} {a:Addr} {kvs:List (Key × V)} (h:Zaf X.w X.K a kvs) (I:Inv X pins σ H s):(a == sysModules)=false/\∃ vs,KV kvs vs/\s.heap.DictOf (Z9 X.prog X.w) a vs:=by
 obtain ⟨o,es,ep,vs,h1,h2,h3,h4,h5,h6,h7,h8⟩:=h
 exact ⟨h8,vs,h7,o,es,ep,I.kIn a o h1,h2,h3,h4,h5 X.prog,h6⟩
noncomputable def Zl9 (w:World) (K:W.Frag) (ty td:TE):TE:=λσ H Q=>ty σ H λy H1=>td σ H1 λx H2=>∃ a kvs k,x=.ref a/\Zaf w K a kvs/\y=kV k/\Q (.bl (!(valV kvs k).isSome)) H2
theorem Zit (hi:PE X i ty) (ho:PE X o td):PC X .NotIn i o (Zl9 X.w X.K ty td):=by
 intro pins s σ H Q I h
 refine thn (hi pins s σ H _ I h) λiv s1 zz34=>?_
 obtain ⟨y,H1,I1,ry,q1⟩:=zz34
 refine thn (ho pins s1 σ H1 _ I1 q1) λu s2 zz9=>?_
 obtain ⟨x,H2,I2,rx,a,kvs,k,ex,g,ey,q2⟩:=zz9
 subst ex ey
 obtain rfl:u=Value.ref a:=rx
 obtain ⟨hd,vs,rel,dd⟩:=g.here I2
 refine wpAny_notIn_of (Q0 ry) hd dd.mapOf ?_
 rw [<- (rel.val k).isSome_eq]
 exact ⟨.bl _,H2,I2.tok _,rfl,q2⟩
end
section
noncomputable def Itm2 (d:Addr) (kvs:List (Key × V)) (o:Obj):It :=
 ⟨λi H=>i < kvs.length/\H d=some (.frz o (.dK kvs)),λi H x H'=>∃ q k v,H q=none/\x=.ref q/\kvs[i]?=some (k,v)/\H'=upd H q (.tup [kV k,v]),λi H=>kvs.length<=i/\H d=some (.frz o (.dK kvs))⟩
theorem Zge {P:Program} {w:World} {K:W.Frag} {elts:List Expr} {x1:Nat} {pos:Pos} (d it:Addr) (kvs:List (Key × V)) (o:Obj) :
  Turn P w K (.Tuple elts x1 pos) (Itm2 d kvs o) [it] it (λi h=>∃ a b,IsItemIter h it d i kvs.length (epOf o) a b) where
 mem:=by simp
 obj:=λi h st b hb=>by
  have e:b=it:=by simpa using hb
  subst e
  obtain ⟨a,c,z⟩:=st
  exact ⟨_,z,λv y=>by
   have y':Data.fields _=Data.cell v:=y
   cases y'⟩
 keep:=λi h h' st k=>by
  obtain ⟨a,c,z⟩:=st
  exact ⟨a,c,k it (by simp) _ z⟩
 item:=by
  intro X hP hw hK hc i pins s σ H E I hf st hg
  subst hP hw hK
  obtain ⟨hi,hq⟩:=hg
  obtain ⟨vs,ep,rel,da,ho⟩:=Qw I hq
  have hep:=Kv da ho
  subst hep
  obtain ⟨f0,f1,f2,f3,f4,f5⟩:=hf it (by simp)
  obtain ⟨⟨k,v⟩,hx⟩:∃ p,kvs[i]?=some p:=⟨_,Ac hi⟩
  obtain ⟨u,hu,ru⟩:=rel.at hx
  have hlen:vs.length=kvs.length:=rel.length.symm
  obtain ⟨a0,b0,st⟩:=st
  rw [<- hlen] at st
  have itlt:=Ao st
  refine wpAny_pyNext_items_item st da hu λkey h' hk st' ht hsz kk=>?_
  rw [hlen] at st'
  refine ⟨.ref s.heap.objs.size,rfl,wpAny_letOwnedTupleGo_items st' λh'' st'' sb=>?_⟩
  have keepb:∀ b z,b≠it->s.heap.get? b=some z->h''.get? b=some z:=λb z hb e=>(sb.2 b hb).trans (kk b z hb e)
  have ht'':h''.get? s.heap.objs.size=some { cls:=.type "tuple",data:=.seq #[key,u] }:=(sb.2 _ (Nat.ne_of_gt itlt)).trans ht
  have hn:H s.heap.objs.size=none:=I.hok.fresh (An _)
  have I2:Inv X pins σ (upd H s.heap.objs.size (.tup [kV k,v])) { s with heap:=h'' }:=by
   refine I.step (g':=s.gens) (d':=s.drawn) (ch:=[it]) (λb hb=>?_) (λb o _ _ hc q _=>keepb b o (λz=>hc (by simp [z])) q) (λb o _ _ hc q _=>⟨o.slots,keepb b o (λz=>hc (by simp [z])) q⟩) (λb o _ q n=>by rw [Zd (As (Ao q))]; exact n)
    (λb o hc q=>⟨o,keepb b o (λz=>hc (by simp [z])) q⟩) (λb ys q=>by rw [Zd (Zi q hn)]; exact q) (λb o ys q=>by rw [Zd (Zi q hn)]; exact q) (λb ps q=>⟨#[],by rw [Zd (Zi q hn),q]; simp⟩) (λm hm=>?_) (λb v' q=>?_) I.bare
   ·have z:b=it:=by simpa using hb
    subst z; exact ⟨f3,f1,f4,f5⟩
   ·obtain ⟨o,es,ep,ho,r⟩:=hm
    exact ⟨o,es,ep,keepb _ o (Ne.symm f1) ho,r⟩
   ·by_cases hb:b=s.heap.objs.size
    ·subst hb
     rw [Zc] at q
     cases q
     exact ⟨by show 2<=sizeLine; decide,[key,u],.cons (Zpo hk) (.cons ru .nil),⟨_,ht'',rfl,_,rfl⟩⟩
    ·rw [Zd hb] at q
     refine (I.hok b v' q).stay (λc w' hc z=>keepb c w' ?_ z) (λd z=>by rw [Zd (Zi z hn)]; exact z) λd ys z=>by rw [Zd (Zi z hn)]; exact z
     rintro rfl
     rcases hc with z | z
     ·rw [z,q] at f0; cases f0
     ·rw [f0] at z; cases z
  refine ⟨.ref s.heap.objs.size,_,I2,rfl,⟨_,k,v,hn,rfl,hx,rfl⟩,⟨_,_,st''⟩,λb hb=>?_⟩
  have z:b=it:=by simpa using hb
  subst z; rw [Zd (As itlt)]; exact f0
 done:=by
  intro X hP hw hK hc i pins s σ H E I hf st hg
  subst hP hw hK
  obtain ⟨hi,hq⟩:=hg
  obtain ⟨vs,ep,rel,da,ho⟩:=Qw I hq
  have hep:=Kv da ho
  subst hep
  obtain ⟨f0,f1,f2,f3,f4,f5⟩:=hf it (by simp)
  have hlen:vs.length=kvs.length:=rel.length.symm
  obtain ⟨a0,b0,st⟩:=st
  rw [<- hlen] at st
  exact wpAny_pyNext_items_end (I.ok.hd hc) st da (by rw [Ay]; omega) λh' eb=>⟨rfl,I.turned (t':=s.toks) (λb o hb e=>eb b o hb e) f0 f1 f3 f4 f5⟩
 self:=λ_ _ _ _ _ st h=>by
  obtain ⟨a,b,st⟩:=st
  exact PySem.W.kcp_self st h
variable {X:Cx} {l:Expr} {tl:TE}
theorem Vp {elts:List Expr} {x1:Nat} {tpos apos cpos:Pos} (hl:PE X l tl) (m:M0 X l "items" apos cpos):PI X (.Tuple elts x1 tpos) (.Call (.Attribute l "items" apos) [] [] cpos) (Zl2 Itm2 tl):=by
 intro pins s σ H R I h
 refine wpAny_Call_method m.base m.few m.line PySem.F.plainAttrs_dict PySem.F.slot_dict_items PySem.F.type_dict_items (thn (hl pins s σ H _ I h) λv s1 zz9=>?_)
 obtain ⟨x,H1,I1,r1,q1⟩:=zz9
 obtain ⟨a,kvs,e,q⟩:=q1
 subst e
 cases r1
 obtain ⟨o,H2,e2,I2,q2⟩:=Zek (R:=λo H=>R (Itm2 a kvs o) H) I1 q
 obtain ⟨vs,ep,rel,da,ho⟩:=Qw I2 e2
 have hep:=Kv da ho
 subst hep
 obtain ⟨_,_,hsys,_⟩:=I2.hok a _ e2
 have isd:IsD H2 a:=.inl ⟨kvs,.inr ⟨o,e2⟩⟩
 obtain ⟨t1,t2,_⟩:=F1 I2 isd
 refine ⟨t1,t2,?_⟩
 refine Calls.callWith_builtin rfl (PyProof.Rows.evalArgs_empty ?_)
 refine call_meetsIn PySem.F.slot_dict_items da.dictOf.typeIs PySem.F.entry_dict_items (PySem.F.args_dict_items_1 _) (meets_dict_items (Z9 X.prog X.w) a hsys) ⟨⟨vs,da.dictOf⟩,?_⟩
 have I3:Inv X pins σ H2 { s1 with heap:=s1.heap.push { cls:=.type "dict_items",data:=.fields #[.ref a] } }:=I2.kept (t':=s1.toks) λb o e=>Ak _ e
 refine wpAny_pyIter_items ⟨_,Ap _ rfl,rfl,rfl⟩ (da.push _) ?_
 have hlen:vs.length=kvs.length:=rel.length.symm
 rw [hlen]
 refine ⟨(s1.heap.push { cls:=.type "dict_items",data:=.fields #[.ref a] }).objs.size,[(s1.heap.push { cls:=.type "dict_items",data:=.fields #[.ref a] }).objs.size],_,_,H2,rfl,I3.kept (t':=s1.toks) λb o e=>Ak _ e,Zge a _ kvs o,⟨_,_,Ap _ rfl⟩,λb hb=>?_,q2⟩
 have e:b=(s1.heap.push { cls:=.type "dict_items",data:=.fields #[.ref a] }).objs.size:=by simpa using hb
 subst e
 exact I3.fpOk (An _) (I3.hok.fresh (An _))
theorem Zbs {d:Addr} {kvs:List (Key × V)} {o:Obj} {g:TG} {tb:TS} {D:Ends} {σ:St} {H:Hp} (Pv:Nat->St->Hp->Prop) (h0:Pv 0 σ H) (hl:∀ i σ H,i<=kvs.length->Pv i σ H->H d=some (.frz o (.dK kvs)))
  (hs:∀ i k x σ H q,kvs[i]?=some (k,x)->H q=none->Pv i σ H->g (.ref q) σ (upd H q (.tup [kV k,x])) λσ2 H2=>tb { D with nx:=Pv (i + 1),ct:=Pv (i + 1),bk:=D.nx } σ2 H2) (hd:∀ σ H,Pv kvs.length σ H->D.nx σ H) :
  ∃ W:Nat->Nat->St->Hp->Prop,(∃ m,W 0 m σ H)/\∀ i m σ H,W i m σ H ->
   ((Itm2 d kvs o).stop i H/\D.nx σ H)\/((Itm2 d kvs o).go i H/\∃ N:St->Hp->Prop,(∀ σ' H',N σ' H'->∃ m',m' < m/\W (i + 1) m' σ' H')/\∀ x H',(Itm2 d kvs o).yld i H x H'->g x σ H' λσ2 H2=>tb { D with nx:=N,ct:=N,bk:=D.nx } σ2 H2):=by
 refine ⟨λi m σ H=>m=kvs.length - i/\i<=kvs.length/\Pv i σ H,⟨kvs.length,by simp,Az _,h0⟩,?_⟩
 rintro i m σ H ⟨rfl,hi,p⟩
 have q:=hl i σ H hi p
 by_cases hlt:i < kvs.length
 ·refine .inr ⟨⟨hlt,q⟩,Pv (i + 1),λσ' H' p'=>⟨kvs.length - (i + 1),by omega,rfl,hlt,p'⟩,λx H' y=>?_⟩
  obtain ⟨c,k,v,hn,e1,y,e2⟩:=y
  subst e1 e2
  exact hs i k v σ H c y hn p
 ·have e:i=kvs.length:=by omega
  subst e
  exact .inl ⟨⟨An _,q⟩,hd σ H p⟩
end
section
noncomputable def Itr3 (lo st:Int) (n:Nat):It:=⟨λi _=>i < n,λi H x H'=>H'=H/\x=.int (lo + i * st),λi _=>n<=i⟩
theorem Kz {P:Program} {w:World} {K:W.Frag} {tg:Expr} (it:Addr) (lo st:Int) (n:Nat):Turn P w K tg (Itr3 lo st n) [it] it (λi h=>IsRangeIter h it (lo + (i:Nat) * st) ((n:Int) - (i:Nat)) st) where
 mem:=by simp
 obj:=λi h st b hb=>by
  have e:b=it:=by simpa using hb
  subst e
  exact ⟨_,st,λv z=>by
   have z':Data.fields _=Data.cell v:=z
   cases z'⟩
 keep:=λi h h' st k=>k it (by simp) _ st
 item:=by
  intro X hP hw hK hc i pins s σ H E I hf st' hg
  subst hP hw hK
  obtain ⟨f0,f1,f2,f3,f4,f5⟩:=hf it (by simp)
  have W:=Walks.range (prog:=X.prog) (w:=X.w) (I.ok.hd hc) it lo st n
  refine W.item i s _ _ hg st' λv h' tk hv st2 kk=>?_
  obtain ⟨t,rfl⟩:=hv
  have I1:Inv X pins σ H { s with heap:=h',toks:=tk }:=I.turned (λb o hb e=>kk b o (by simpa using hb) e) f0 f1 f3 f4 f5
  exact ⟨_,rfl,F4 (s:={ s with heap:=h',toks:=tk }) (n:="range_iterator") st2 rfl rfl (by decide) ⟨.int (lo + i * st),H,I1,⟨t,rfl⟩,⟨rfl,rfl⟩,st2,λb hb=>(hf b hb).1⟩⟩
 done:=by
  intro X hP hw hK hc i pins s σ H E I hf st' hg
  subst hP hw hK
  obtain ⟨f0,f1,f2,f3,f4,f5⟩:=hf it (by simp)
  exact wpAny_pyNext_range_end (I.ok.hd hc) st' (by have:n<=i:=hg; omega) λh' eb=>⟨rfl,I.turned (t':=s.toks) (λb o hb e=>eb b o hb e) f0 f1 f3 f4 f5⟩
 self:=λ_ _ _ _ _ st h=>wpAny_pyIter_rangeiter st h
end
section
variable {X:Cx} {tg:Expr}
noncomputable def Zpq (ta:TA):TI:=λσ H R=>ta σ H λvs H1=>∃ n:Nat,vs=[.int 0,.int (3 * n:Nat),.int 3]/\n<=1000/\R (Itr3 0 3 n) H1
theorem Zij {pins:List (Addr × Obj)} {σ:St} {H:Hp} {s:Shared} {R:It->Hp->Prop} {E:Value->Shared->Prop} {n:Nat} {t u v:Tok} {tk:Nat} (I:Inv X pins σ H s) (hn:n<=1000)
  (q:R (Itr3 0 3 n) H):wpAny (model X.prog X.w) X.A (pyIter (.ref s.heap.objs.size)) (PIE X pins σ tg R) E { s with heap:=s.heap.push { cls:=.type "range",data:=.fields #[.int 0 t,.int (3 * n:Nat) u,.int 3 v] },toks:=tk }:=by
 have hr:Builtin.Range.rangeSize 0 ((3 * n:Nat):Int) 3=n:=by
  unfold Builtin.Range.rangeSize
  rw [if_pos (by decide)]
  split <;> omega
 have hsm:Builtin.Range.small 0 ((3 * n:Nat):Int) 3=true:=by
  unfold Builtin.Range.small
  rw [hr]
  have e:∀ z:Int,-(2 ^ 62)<=z->z < 2 ^ 62->Builtin.Range.rangeFitsLong z=true:=λz h1 h2=>by
   unfold Builtin.Range.rangeFitsLong
   rw [Bool.and_eq_true,decide_eq_true_eq,decide_eq_true_eq]
   omega
  have e2:=e ((3 * n:Nat):Int) (by omega) (by omega)
  have e4:=e (n:Int) (by omega) (by omega)
  have e5:=e (((3 * n:Nat):Int) + (3 - 1)) (by omega) (by omega)
  rw [e 0 (by decide) (by decide),e2,e 3 (by decide) (by decide),e4,if_pos (by decide),e5,Bool.or_true]
  rfl
 refine wpAny_pyIter_range (IsRange.new ..) hsm ?_
 have I1:Inv X pins σ H { s with heap:=s.heap.push { cls:=.type "range",data:=.fields #[.int 0 t,.int (3 * n:Nat) u,.int 3 v] },toks:=tk }:=I.kept λb o e=>Ak _ e
 refine ⟨(s.heap.push { cls:=.type "range",data:=.fields #[.int 0 t,.int (3 * n:Nat) u,.int 3 v] }).objs.size,[(s.heap.push { cls:=.type "range",data:=.fields #[.int 0 t,.int (3 * n:Nat) u,.int 3 v] }).objs.size],_,_,H,rfl,
  I1.kept (t':=tk) λb o e=>Ak _ e,Kz _ 0 3 n,?_,λb hb=>?_,q⟩
 ·show IsRangeIter _ _ ((0:Int) + ((0:Nat):Int) * 3) (((n:Nat):Int) - ((0:Nat):Int)) 3
  have e1:(0:Int) + ((0:Nat):Int) * 3=0:=by simp
  have e2:((n:Nat):Int) - ((0:Nat):Int)=Builtin.Range.rangeSize 0 ((3 * n:Nat):Int) 3:=by rw [hr]; simp
  rw [e1,e2]
  exact Ap _ rfl
 ·have e:b=(s.heap.push { cls:=.type "range",data:=.fields #[.int 0 t,.int (3 * n:Nat) u,.int 3 v] }).objs.size:=by simpa using hb
  subst e
  exact I1.fpOk (An _) (I1.hok.fresh (An _))
theorem Ziq {a b c:Expr} {ta:TA} {p pos:Pos} (hg:Gl X "range") (hm:X.mg "range"=none) (ha:PA X [a,b,c] ta) (hs:starEach [a,b,c] X.env=[(false,eval a X.env),(false,eval b X.env),(false,eval c X.env)]:=by rfl) (hs2:starEach [b,c] X.env=[(false,eval b X.env),(false,eval c X.env)]:=by rfl) :
  PI X tg (.Call (.Name "range" p) [a,b,c] [] pos) (Zpq ta):=by
 intro pins s σ H R I h
 refine Call_ (Wf I hg hm boot_range (PyProof.Rows.callWith_type1 (thn (ha pos pins s σ H _ I h) λus s1 ⟨vs,H1,I1,r1,q1⟩=>?_) (by rw [hs,hs2]) (by rw [hs2]; rfl)))
 obtain ⟨n,e,hn,q⟩:=q1
 subst e
 cases r1 with
 | cons r rr =>
  cases rr with
  | cons r' rr =>
   cases rr with
   | cons r'' rr =>
    cases rr
    obtain ⟨t,rfl⟩:=r
    obtain ⟨t',rfl⟩:=r'
    obtain ⟨t'',rfl⟩:=r''
    exact call_range_3 (by decide) (Zij I1 hn q) (.inl (PyProof.noPylong_small (by decide)))
theorem Zfc {lo st:Int} {n:Nat} {g:TG} {tt:TT} {tb:TB} {R:St->Hp->Prop} {σ:St} {H:Hp} (Pv:Nat->St->Hp->Prop) (h0:Pv 0 σ H)
  (hs:∀ (i:Nat) σ H,i < n->Pv i σ H->g (.int (lo + i * st)) σ H λσ2 H2=>tt σ2 H2 λb H3=>if b=true then tb σ2 H3 (Pv (i + 1)) else Pv (i + 1) σ2 H3) (hd:∀ σ H,Pv n σ H->R σ H):Jr (Itr3 lo st n) g tt tb R σ H:=by
 refine ⟨λi m σ H=>m=n - i/\i<=n/\Pv i σ H,⟨n,by simp,Az _,h0⟩,?_⟩
 rintro i m σ H ⟨rfl,hi,p⟩
 by_cases hlt:i < n
 ·refine .inr ⟨hlt,Pv (i + 1),λσ' H' p'=>⟨n - (i + 1),by omega,rfl,hlt,p'⟩,λx H' y=>?_⟩
  obtain ⟨e,y⟩:=y
  subst e y
  exact hs i σ _ hlt p
 ·have e:i=n:=by omega
  subst e
  exact .inl ⟨An _,hd σ H p⟩
end
section
variable {X:Cx} {fr:Bool} {pos:Pos}
noncomputable def Zpd (te:TEX) (g:TG):TSX:=λD R σ H=>te σ H (λx H1=>g x σ H1 D.nx) λcls _ H1=>R cls σ H1
theorem Zmv {tg e:Expr} {te:TEX} {g:TG} (he:PEX fr X e te) (hg:PG X tg g) (hs:swapsWithSole [tg] e pos.line X.env=pure false:=by rfl) (hw:swappedStores [tg] e X.env=pure none:=by rfl)
  (h1:(assignEach [tg] X.env).map (·.2)=[assign tg X.env]:=by rfl) (hx:X.xe=(λ_ _=>False):=by rfl):PSX fr X (.Assign [tg] e pos) (Zpd te g):=by
 intro pins s σ H D R I h
 refine wpAny_Assign_stores (wpAny_mono (he pins s σ H _ _ I h) (λv s1 ⟨x,H1,I1,r1,q1⟩=>?_) ?_) hs hw
 ·rw [h1]
  have z:=hg pins s1 σ H1 x v _ I1 r1 q1
  rw [hx] at z
  exact wpAny_mono z (λ_ _ y=>y) λ_ _ y=>y.elim
 ·rintro ev s1 ⟨e,T,cls,a0,σ',H',g1,g2,g3,g4,g5,g7,rfl,g6⟩
  exact ⟨e,T,cls,a0,σ',H',g1,g2,g3,g4,g5,g7,g6⟩
end
theorem Zkj {X:Cx} (K:W.Frag) (h:X.K=K:=by rfl):SlR X (rSlL K):=h ▸ Ui
theorem kdict_mk2 {w:World} {K:W.Frag} {a:Addr} {h1 h2:Int} {t1 t2 t3 t4:Tok} {ep:Nat} {x1 y1 x2 y2:Str}
  (l:K.lookup a=some ⟨.type "dict",none,.dict #[⟨h1,.str x1 t1,.str y1 t2⟩,⟨h2,.str x2 t3,.str y2 t4⟩] ep,#[]⟩) (e1:h1=hashStr w x1) (e2:h2=hashStr w x2) (ne:x1≠x2) (sy:(a == sysModules)=false) :
  Zaf w K a [(Sum.inr x1,.str y1),(Sum.inr x2,.str y2)]:=by
 refine ⟨_,_,_,[(Sum.inr x1,.str y1 t2),(Sum.inr x2,.str y2 t4)],l,⟨rfl,rfl,rfl⟩,rfl,λe he=>?_,λP=>?_,?_,?_,sy⟩
 ·have he:e=⟨h1,.str x1 t1,.str y1 t2⟩\/e=⟨h2,.str x2 t3,.str y2 t4⟩:=by simpa using he
  rcases he with rfl | rfl
  ·exact ⟨Sum.inr x1,Q6 x1 t1,e1⟩
  ·exact ⟨Sum.inr x2,Q6 x2 t3,e2⟩
 ·exact .cons (Q6 x1 t1) rfl (.cons (Q6 x2 t3) rfl .nil)
 ·refine List.nodup_cons.mpr ⟨?_,by simp⟩
  simp [ne]
 ·exact .cons ⟨rfl,⟨_,rfl⟩⟩ (.cons ⟨rfl,⟨_,rfl⟩⟩ .nil)
section
variable {X:Cx}
noncomputable def rNeL (K:W.Frag):R2:=λx y H Q=>∃ a b ns ms,x=.ref a/\y=.ref b/\SqL K H a (List.map V.int ns)/\SqL K H b (List.map V.int ms)/\Q (.bl (!decide (ns=ms))) H
theorem Ziy (hu:X.A.units + 64 < cLine):OpR X (compareOp .NotEq) (rNeL X.K):=by
 intro pins s σ H x y v u Q I rx ry h
 obtain ⟨a,b,ns,ms,rfl,rfl,ha,hb,q⟩:=h
 cases rx
 cases ry
 obtain ⟨ia,ra,pa,_⟩:=I.list ha
 obtain ⟨ib,rb,pb,_⟩:=I.list hb
 exact PySem.W.ne_intsK pa.isList (F3 ra) pb.isList (F3 rb) hu ⟨.bl _,H,I,rfl,q⟩
theorem Zj4 (bs:List Bool):((List.range bs.length).all λi=>bs.getD i true)=bs.all id:=by
 rw [Bool.eq_iff_iff,List.all_eq_true,List.all_eq_true]
 constructor
 ·intro h b hb
  obtain ⟨i,hi,rfl⟩:=List.mem_iff_getElem.mp hb
  have:=h i (List.mem_range.mpr hi)
  rw [Ad,Ac hi] at this
  exact this
 ·intro h i hi
  have hi:=List.mem_range.mp hi
  rw [Ad,Ac hi]
  exact h _ (List.getElem_mem hi)
theorem Zeq (hc:X.calm=true):Xu X (.builtin "all") (λxs H Q=>∃ p bs,xs=[.ref p]/\SqL X.K H p (List.map V.bl bs)/\Q (.bl (bs.all id)) H):=by
 intro pins s σ H xs us Q I r h
 obtain ⟨p,bs,rfl,hq,q⟩:=h
 obtain ⟨u,rfl,ru⟩:=Wo r
 cases ru
 obtain ⟨its,rv,pl,hz⟩:=I.list hq
 have ne:p≠s.heap.objs.size:=by obtain ⟨o,ho,_⟩:=pl.isList; exact As (Ao ho)
 refine call_all_walk (wpAny_pyIter_list pl.isList ⟨s.heap.objs.size,_,_,_,_,_,λi=>bs.getD i true,rfl,Walks.list (A:=X.A.in1) (show X.A.in1.handled=none from I.ok.hd hc) s.heap.objs.size p ne its.toArray,⟨⟨_,Ap _ rfl,rfl,rfl⟩,pl.isList.push _⟩,?_,?_⟩)
 ·intro i v s' Q' E' hv hq'
  have hv:its[i]?=some v:=by simpa using hv
  have hlen:=rv.length
  rw [Ab] at hlen
  have hi:i < bs.length:=by have:=(Aa hv).1; omega
  obtain ⟨u,hu,ru⟩:=rv.get (show (bs.map V.bl)[i]?=some (V.bl bs[i]) by rw [Ah,Ac hi]; rfl)
  rw [hv] at hu
  cases hu
  cases ru
  have e:bs.getD i true=bs[i]:=by rw [Ad,Ac hi]; rfl
  refine wpAny_truthy_bool ?_
  have hq':Q' (bs.getD i true) s':=hq'
  rw [e] at hq'
  exact hq'
 ·intro h' tk hk
  have I1:Inv X pins σ H { s with heap:=h',toks:=tk }:=I.kept λb o e=>hk b o (λz=>absurd (Ao e) (by rw [Af z]; exact Nat.lt_irrefl _)) (Ak _ e)
  have hlen:its.toArray.size=bs.length:=by have:=rv.length; rw [Ab] at this; simp; omega
  refine ⟨.bl (bs.all id),H,I1,?_,q⟩
  show Value.bool _=_
  rw [hlen,Zj4]
end
section
noncomputable def Itz (K:W.Frag) (a b:Addr):It :=
  ⟨λi H=>∃ xs ys x y,SqL K H a xs/\SqL K H b ys/\xs[i]?=some x/\ys[i]?=some y,
   λi H v H'=>∃ q x y,H q=none/\v=.ref q/\(∀ xs,SqL K H a xs->xs[i]?=some x)/\(∀ ys,SqL K H b ys->ys[i]?=some y)/\H'=upd H q (.tup [x,y]),
   λi H=>∃ xs ys,SqL K H a xs/\SqL K H b ys/\(xs.length<=i\/ys.length<=i)⟩
theorem Zj6 {P:Program} {w:World} {K:W.Frag} {elts:List Expr} {x1:Nat} {pos:Pos} (a b z TI TO i1 i2:Addr) (D:ZipApart z TI TO i1 i2 a b) :
  Turn P w K (.Tuple elts x1 pos) (Itz K a b) [z,TI,TO,i1,i2] z (λi h=>IsZip h z TI TO .none/\IsPair h TI (.ref i1) (.ref i2)/\(∃ u v,IsPair h TO u v)/\h.IsListIter i1 a i/\h.IsListIter i2 b i) where
 mem:=by simp
 obj:=λi h st c hc=>by
  obtain ⟨s1,s2,⟨u,v,s3⟩,⟨o4,e4,c4,d4⟩,o5,e5,c5,d5⟩:=st
  have hc:c=z\/c=TI\/c=TO\/c=i1\/c=i2:=by simpa using hc
  rcases hc with rfl | rfl | rfl | rfl | rfl
  ·exact ⟨_,s1,λv y=>by have y':Data.fields _=Data.cell v:=y; cases y'⟩
  ·exact ⟨_,s2,λv y=>by have y':Data.seq _ _=Data.cell v:=y; cases y'⟩
  ·exact ⟨_,s3,λv y=>by have y':Data.seq _ _=Data.cell v:=y; cases y'⟩
  ·exact ⟨o4,e4,λv y=>by rw [d4] at y; cases y⟩
  ·exact ⟨o5,e5,λv y=>by rw [d5] at y; cases y⟩
 keep:=λi h h' st k=>by
  obtain ⟨s1,s2,⟨u,v,s3⟩,s4,s5⟩:=st
  exact ⟨k z (by simp) _ s1,k TI (by simp) _ s2,⟨u,v,k TO (by simp) _ s3⟩,s4.at λo e=>k i1 (by simp) o e,s5.at λo e=>k i2 (by simp) o e⟩
 item:=by
  intro X hP hw hK hc i pins s σ H E I hf st hg
  subst hP hw hK
  obtain ⟨xs,ys,x,y,hqx,hqy,hx,hy⟩:=hg
  obtain ⟨itx,rvx,px,_⟩:=I.list hqx
  obtain ⟨ity,rvy,py,_⟩:=I.list hqy
  obtain ⟨u,hu,ru⟩:=rvx.get hx
  obtain ⟨v,hv,rv⟩:=rvy.get hy
  obtain ⟨s1,s2,⟨u0,v0,s3⟩,s4,s5⟩:=st
  refine wpAny_pyNext_zip_item D s1 s2 s3 s4 s5 px.isList py.isList (x:=u) (y:=v) (by simpa using hu) (by simpa using hv) λh' a1 a2 a3 a4 a5 a6 a7=>?_
  refine ⟨.ref s.heap.objs.size,rfl,wpAny_letOwnedTupleGo_zip a1 λh'' b1 sb=>?_⟩
  have lt:∀ c∈[z,TI,TO,i1,i2],c < s.heap.objs.size:=λc hc=>by
   obtain ⟨o,e,_⟩:∃ o,s.heap.get? c=some o/\True:=by
    have hc:c=z\/c=TI\/c=TO\/c=i1\/c=i2:=by simpa using hc
    rcases hc with rfl | rfl | rfl | rfl | rfl
    ·exact ⟨_,s1,trivial⟩
    ·exact ⟨_,s2,trivial⟩
    ·exact ⟨_,s3,trivial⟩
    ·obtain ⟨o,e,_⟩:=s4; exact ⟨o,e,trivial⟩
    ·obtain ⟨o,e,_⟩:=s5; exact ⟨o,e,trivial⟩
   exact Ao e
  have keepb:∀ c o,c≠z->c≠TO->c≠i1->c≠i2->s.heap.get? c=some o->h''.get? c=some o:=λc o n1 n2 n3 n4 e=>(sb.2 c n1).trans (a7 c o n1 n2 n3 n4 e)
  have zl:=lt z (by simp)
  have ht'':h''.get? s.heap.objs.size=some { cls:=.type "tuple",data:=.seq #[u,v] }:=(sb.2 _ (Nat.ne_of_gt zl)).trans a5
  have hn:H s.heap.objs.size=none:=I.hok.fresh (An _)
  have I2:Inv X pins σ (upd H s.heap.objs.size (.tup [x,y])) { s with heap:=h'' }:=by
   have out:∀ c,c ∉ [z,TO,i1,i2]->c≠z/\c≠TO/\c≠i1/\c≠i2:=λc hc=>by simpa using hc
   refine I.step (g':=s.gens) (d':=s.drawn) (ch:=[z,TO,i1,i2]) (λc hc=>?_) (λc o _ _ hc q _=>?_) (λc o _ _ hc q _=>⟨o.slots,?_⟩) (λc o _ q n=>by rw [Zd (As (Ao q))]; exact n)
    (λc o hc q=>⟨o,?_⟩) (λc zs q=>by rw [Zd (Zi q hn)]; exact q) (λc o zs q=>by rw [Zd (Zi q hn)]; exact q) (λc ps q=>⟨#[],by rw [Zd (Zi q hn),q]; simp⟩) (λm hm=>?_) (λc v' q=>?_) I.bare
   ·have hc:c=z\/c=TO\/c=i1\/c=i2:=by simpa using hc
    have hm:c∈[z,TI,TO,i1,i2]:=by rcases hc with rfl | rfl | rfl | rfl <;> simp
    obtain ⟨f0,f1,f2,f3,f4,f5⟩:=hf c hm
    exact ⟨f3,f1,f4,f5⟩
   ·obtain ⟨n1,n2,n3,n4⟩:=out c hc; exact keepb c o n1 n2 n3 n4 q
   ·obtain ⟨n1,n2,n3,n4⟩:=out c hc; exact keepb c o n1 n2 n3 n4 q
   ·obtain ⟨n1,n2,n3,n4⟩:=out c hc; exact keepb c o n1 n2 n3 n4 q
   ·obtain ⟨o,es,ep,ho,r⟩:=hm
    exact ⟨o,es,ep,keepb _ o (Ne.symm (hf z (by simp)).2.1) (Ne.symm (hf TO (by simp)).2.1) (Ne.symm (hf i1 (by simp)).2.1) (Ne.symm (hf i2 (by simp)).2.1) ho,r⟩
   ·by_cases hb:c=s.heap.objs.size
    ·subst hb
     rw [Zc] at q
     cases q
     exact ⟨by show 2<=sizeLine; decide,[u,v],.cons ru (.cons rv .nil),⟨_,ht'',rfl,_,rfl⟩⟩
    ·rw [Zd hb] at q
     refine (I.hok c v' q).stay (λe w' he y'=>keepb e w' ?_ ?_ ?_ ?_ y') (λd y'=>by rw [Zd (Zi y' hn)]; exact y') λd zs y'=>by rw [Zd (Zi y' hn)]; exact y'
     all_goals
      rintro rfl
      have hz0:H e=none:=(hf e (by simp)).1
      rcases he with y' | y'
      ·rw [y',q] at hz0; cases hz0
      ·rw [hz0] at y'; cases y'
  refine ⟨.ref s.heap.objs.size,_,I2,rfl,⟨_,x,y,hn,rfl,λxs' hy'=>by rw [I.list_inj hy' hqx]; exact hx,λys' hy'=>by rw [I.list_inj hy' hqy]; exact hy,rfl⟩,
   ⟨b1,(sb.2 TI D.TIz).trans (a7 TI _ D.TIz D.TITO D.TIi1 D.TIi2 s2),⟨u,v,(sb.2 TO D.TOz).trans a2⟩,a3.at λo e=>(sb.2 i1 D.i1z).trans e,a4.at λo e=>(sb.2 i2 D.i2z).trans e⟩,λc hc=>?_⟩
  rw [Zd (As (lt c hc))]
  exact (hf c hc).1
 done:=by
  intro X hP hw hK hc i pins s σ H E I hf st hg
  subst hP hw hK
  obtain ⟨xs,ys,hqx,hqy,hlen⟩:=hg
  obtain ⟨itx,rvx,px,_⟩:=I.list hqx
  obtain ⟨ity,rvy,py,_⟩:=I.list hqy
  obtain ⟨s1,s2,⟨u0,v0,s3⟩,s4,s5⟩:=st
  have l1:=rvx.length
  have l2:=rvy.length
  refine wpAny_pyNext_zip_end (I.ok.hd hc) D s1 s2 s3 s4 s5 px.isList py.isList ?_ λh' eb=>⟨rfl,?_⟩
  ·rcases hlen with z | z
   ·exact .inl (by simp; omega)
   ·exact .inr (by simp; omega)
  ·have out:∀ c,c ∉ [z,TO,i1,i2]->c≠z/\c≠TO/\c≠i1/\c≠i2:=λc hc=>by simpa using hc
   refine I.step (g':=s.gens) (d':=s.drawn) (t':=s.toks) (ch:=[z,TO,i1,i2]) (λc hc=>?_) (λc o _ _ hc q _=>?_) (λc o _ _ hc q _=>⟨o.slots,?_⟩) (λc o _ q n=>n)
    (λc o hc q=>⟨o,?_⟩) (λc zs q=>q) (λc o zs q=>q) (λc ps q=>⟨#[],by rw [q]; simp⟩) (λm hm=>?_) (λc v' q=>?_) I.bare
   ·have hc:c=z\/c=TO\/c=i1\/c=i2:=by simpa using hc
    have hm:c∈[z,TI,TO,i1,i2]:=by rcases hc with rfl | rfl | rfl | rfl <;> simp
    obtain ⟨f0,f1,f2,f3,f4,f5⟩:=hf c hm
    exact ⟨f3,f1,f4,f5⟩
   ·obtain ⟨n1,n2,n3,n4⟩:=out c hc; exact eb c o n1 n2 n3 n4 q
   ·obtain ⟨n1,n2,n3,n4⟩:=out c hc; exact eb c o n1 n2 n3 n4 q
   ·obtain ⟨n1,n2,n3,n4⟩:=out c hc; exact eb c o n1 n2 n3 n4 q
   ·obtain ⟨o,es,ep,ho,r⟩:=hm
    exact ⟨o,es,ep,eb _ o (Ne.symm (hf z (by simp)).2.1) (Ne.symm (hf TO (by simp)).2.1) (Ne.symm (hf i1 (by simp)).2.1) (Ne.symm (hf i2 (by simp)).2.1) ho,r⟩
   ·refine (I.hok c v' q).stay (λe w' he y'=>eb e w' ?_ ?_ ?_ ?_ y') (λd y'=>y') λd zs y'=>y'
    all_goals
     rintro rfl
     have hz0:H e=none:=(hf e (by simp)).1
     rcases he with y' | y'
     ·rw [y',q] at hz0; cases hz0
     ·rw [hz0] at y'; cases y'
 self:=λ_ _ _ _ _ st h=>wpAny_pyIter_zip st.1 h
theorem Zhh {N a b:Nat} (la:a < N) (lb:b < N):ZipApart (N + 4) (N + 2) (N + 3) N (N + 1) a b:=by
 constructor <;> (intro z; first | exact absurd (show (_:Nat)=_ from z) (by omega) | omega)
variable {X:Cx}
noncomputable def iZip (K:W.Frag) (ta:TA):TI:=λσ H R=>ta σ H λvs H1=>∃ a b xs ys,vs=[.ref a,.ref b]/\SqL K H1 a xs/\SqL K H1 b ys/\R (Itz K a b) H1
theorem Zio {elts:List Expr} {x1:Nat} {tpos p pos:Pos} {l m:Expr} {ta:TA} (hg:Gl X "zip") (hm:X.mg "zip"=none) (ha:PA X [l,m] ta) (hs:starEach [l,m] X.env=[(false,eval l X.env),(false,eval m X.env)]:=by rfl) (hs2:starEach [m] X.env=[(false,eval m X.env)]:=by rfl) :
  PI X (.Tuple elts x1 tpos) (.Call (.Name "zip" p) [l,m] [] pos) (iZip X.K ta):=by
 intro pins s σ H R I h
 refine Call_ (Wf I hg hm boot_zip (PyProof.Rows.callWith_type1 (thn (ha pos pins s σ H _ I h) λus s1 ⟨vs,H1,I1,r1,q1⟩=>?_) (by rw [hs,hs2]) (by rw [hs2]; rfl)))
 obtain ⟨a,b,xs,ys,e,hqx,hqy,q⟩:=q1
 subst e
 obtain ⟨u,v,rfl,ru,rv⟩:=r1.two
 cases ru
 cases rv
 obtain ⟨itx,rvx,px,_⟩:=I1.list hqx
 obtain ⟨ity,rvy,py,_⟩:=I1.list hqy
 have la:a < s1.heap.objs.size:=by obtain ⟨o,ho,_⟩:=px.isList; exact Ao ho
 have lb:b < s1.heap.objs.size:=by obtain ⟨o,ho,_⟩:=py.isList; exact Ao ho
 refine call_zip_2 px.isList py.isList λh' z1 z2 z3 z4 z5 z6 z7=>wpAny_pyIter_zip z1 ?_
 have I2:Inv X pins σ H1 { s1 with heap:=h' }:=I1.kept (t':=s1.toks) z7
 generalize hN:s1.heap.objs.size=N at *
 refine ⟨N + 4,[N + 4,N + 2,N + 3,N,N + 1],_,_,H1,rfl,I2,Zj6 a b (N + 4) (N + 2) (N + 3) N (N + 1) (Zhh la lb),⟨z1,z2,⟨_,_,z3⟩,z4,z5⟩,λc hc=>?_,q⟩
 have hc:s1.heap.objs.size<=c:=by
  have hc:c=N + 4\/c=N + 2\/c=N + 3\/c=N\/c=N + 1:=by simpa using hc
  rw [hN]
  rcases hc with rfl | rfl | rfl | rfl | rfl
  ·exact Nat.le_add_right _ _
  ·exact Nat.le_add_right _ _
  ·exact Nat.le_add_right _ _
  ·exact An _
  ·exact Nat.le_add_right _ _
 exact I1.fpOk hc (I1.hok.fresh hc)
theorem Zk9 {K:W.Frag} {a b:Addr} {xs ys:List V} {g:TG} {tt:TT} {tb:TB} {R:St->Hp->Prop} {σ:St} {H:Hp} (hlen:xs.length=ys.length) (Pv:Nat->St->Hp->Prop) (h0:Pv 0 σ H) (hl:∀ i σ H,i<=xs.length->Pv i σ H->SqL K H a xs/\SqL K H b ys)
  (hs:∀ (i:Nat) x y σ H q,xs[i]?=some x->ys[i]?=some y->H q=none->Pv i σ H->g (.ref q) σ (upd H q (.tup [x,y])) λσ2 H2=>tt σ2 H2 λb H3=>if b=true then tb σ2 H3 (Pv (i + 1)) else Pv (i + 1) σ2 H3) (hd:∀ σ H,Pv xs.length σ H->R σ H):Jr (Itz K a b) g tt tb R σ H:=by
 refine ⟨λi m σ H=>m=xs.length - i/\i<=xs.length/\Pv i σ H,⟨xs.length,by simp,Az _,h0⟩,?_⟩
 rintro i m σ H ⟨rfl,hi,p⟩
 obtain ⟨q1,q2⟩:=hl i σ H hi p
 by_cases hlt:i < xs.length
 ·have hlt2:i < ys.length:=by omega
  refine .inr ⟨⟨xs,ys,xs[i],ys[i],q1,q2,by simp [hlt],by simp [hlt2]⟩,Pv (i + 1),λσ' H' p'=>⟨xs.length - (i + 1),by omega,rfl,hlt,p'⟩,λx H' y=>?_⟩
  obtain ⟨c,u,v,hn,e1,y1,y2,e2⟩:=y
  subst e1 e2
  exact hs i u v σ H c (y1 xs q1) (y2 ys q2) hn p
 ·have e:i=xs.length:=by omega
  subst e
  exact .inl ⟨⟨xs,ys,q1,q2,.inl (An _)⟩,hd σ H p⟩
theorem Znk {K:W.Frag} {a b:Addr} {xs ys:List V} {g:TG} {tb:TS} {D:Ends} {σ:St} {H:Hp} (hlen:xs.length=ys.length) (Pv:Nat->St->Hp->Prop) (h0:Pv 0 σ H) (hl:∀ i σ H,i<=xs.length->Pv i σ H->SqL K H a xs/\SqL K H b ys)
  (hs:∀ i x y σ H q,xs[i]?=some x->ys[i]?=some y->H q=none->Pv i σ H->g (.ref q) σ (upd H q (.tup [x,y])) λσ2 H2=>tb { D with nx:=Pv (i + 1),ct:=Pv (i + 1),bk:=D.nx } σ2 H2) (hd:∀ σ H,Pv xs.length σ H->D.nx σ H) :
  ∃ W:Nat->Nat->St->Hp->Prop,(∃ m,W 0 m σ H)/\∀ i m σ H,W i m σ H ->
   ((Itz K a b).stop i H/\D.nx σ H)\/((Itz K a b).go i H/\∃ N:St->Hp->Prop,(∀ σ' H',N σ' H'->∃ m',m' < m/\W (i + 1) m' σ' H')/\∀ x H',(Itz K a b).yld i H x H'->g x σ H' λσ2 H2=>tb { D with nx:=N,ct:=N,bk:=D.nx } σ2 H2):=by
 refine ⟨λi m σ H=>m=xs.length - i/\i<=xs.length/\Pv i σ H,⟨xs.length,by simp,Az _,h0⟩,?_⟩
 rintro i m σ H ⟨rfl,hi,p⟩
 obtain ⟨q1,q2⟩:=hl i σ H hi p
 by_cases hlt:i < xs.length
 ·have hlt2:i < ys.length:=by omega
  refine .inr ⟨⟨xs,ys,xs[i],ys[i],q1,q2,by simp [hlt],by simp [hlt2]⟩,Pv (i + 1),λσ' H' p'=>⟨xs.length - (i + 1),by omega,rfl,hlt,p'⟩,λx H' y=>?_⟩
  obtain ⟨c,u,v,hn,e1,y1,y2,e2⟩:=y
  subst e1 e2
  exact hs i u v σ H c (y1 xs q1) (y2 ys q2) hn p
 ·have e:i=xs.length:=by omega
  subst e
  exact .inl ⟨⟨xs,ys,q1,q2,.inl (An _)⟩,hd σ H p⟩
end
section
variable {prog:Program} {w:World} {A:Around} {E:Value->Shared->Prop} {s:Shared}
noncomputable abbrev upIt (a n:Int):Obj:={ cls:=.type "range_iterator",data:=.fields #[rawInt (a + (n - 1) * 1),rawInt n,rawInt (-1)] }
theorem U0 {z:Int} (h1:-(2 ^ 62)<=z) (h2:z < 2 ^ 62):Builtin.Range.rangeFitsLong z=true:=by
 unfold Builtin.Range.rangeFitsLong
 rw [Bool.and_eq_true,decide_eq_true_eq,decide_eq_true_eq]
 omega
theorem Zko (r:Addr) (a b:Int) (t u v:Tok) (hs:(Builtin.Range.rangeFitsLong a && Builtin.Range.rangeFitsLong b && Builtin.Range.rangeFitsLong 1 && Builtin.Range.rangeFitsLong (-1) && Builtin.Range.rangeFitsLong (a - 1) && Builtin.Range.rangeFitsLong (Builtin.Range.rangeSize a b 1))=true) :
  Meets (Builtin.«range.__reversed__» ⟨[.ref r],[]⟩) (λ_ R s=>IsRange s.heap r a b 1 t u v/\R (.ok (.ret (.ref s.heap.objs.size))) { s with heap:=s.heap.push (upIt a (Builtin.Range.rangeSize a b 1)) }) :=
 .of_wp λprog w A R s h=>by
  obtain ⟨hp,g,d,tk,os⟩:=s
  obtain ⟨hl,h⟩:=h
  unfold Builtin.«range.__reversed__»
  refine Al (wpAny_of_eq (a:=Value.ref r) rfl ?_)
  refine Al (m:=Builtin.Range.rangeFields (.ref r)) ?_
  unfold Builtin.Range.rangeFields
  refine Al (wpAny_field hl rfl (x:=.int a t) rfl ?_)
  refine Al (wpAny_of_eq (a:=some a) rfl ?_)
  refine Al (wpAny_field hl rfl (x:=.int b u) rfl ?_)
  refine Al (wpAny_of_eq (a:=some b) rfl ?_)
  refine Al (wpAny_field hl rfl (x:=.int 1 v) rfl ?_)
  refine Al (wpAny_of_eq (a:=some 1) rfl ?_)
  refine wpAny_pure ?_
  dsimp only
  simp only [hs,Bool.not_true,Bool.false_eq_true,if_false,if_true]
  exact Al (wpAny_newObj_type (wpAny_pure ⟨_,rfl,h⟩))
theorem Zn8:isSubtype (.type "range_iterator") (.type "reversed")=pure false:=by
 rw [isSubtype_type]
 kernel_rfl
theorem Zmr {r:Addr} {a b:Int} {t u v:Tok} {Z:Value->Shared->Prop} (hr:IsRange s.heap r a b 1 t u v)
  (hs:(Builtin.Range.rangeFitsLong a && Builtin.Range.rangeFitsLong b && Builtin.Range.rangeFitsLong 1 && Builtin.Range.rangeFitsLong (-1) && Builtin.Range.rangeFitsLong (a - 1) && Builtin.Range.rangeFitsLong (Builtin.Range.rangeSize a b 1))=true)
  (q:Z (.ref s.heap.objs.size) { s with heap:=s.heap.push (upIt a (Builtin.Range.rangeSize a b 1)) }) :
  codeAny (model prog w) A (.call (.builtin "reversed.__new__") ⟨[.type "reversed",.ref r],[]⟩) (wants Z E) s:=by
 have hT:s.TypeIs (.ref r) "range":=⟨_,hr,rfl⟩
 refine codeAny_of_tree (show wpAny _ A.in1 (checkBuiltinCall "reversed.__new__" ⟨[.type "reversed",.ref r],[]⟩ >>= λ_=>again (.builtin "reversed.__new__" ⟨[.type "reversed",.ref r],[]⟩)) _ _ s from ?_)
 refine Al (wpAny_of_eq (PySem.F.newCall_reversed_1 (.ref r)) (wpAny_pure ⟨plainId_quiet PySem.F.plain_reversed_new _,codeAny_builtin PySem.F.entry_reversed_new ?_⟩))
 rw [Around.under_plainId PySem.F.plain_reversed_new _]
 unfold Builtin.«reversed.__new__»
 refine Al (wpAny_of_eq (newClass_reversed (.ref r)) ?_)
 refine Al (wpAny_of_eq (a:=()) (by first | rfl | kernel_rfl) (Al (wpAny_of_eq (a:=()) (by first | rfl | kernel_rfl) ?_)))
 refine Al (wpAny_specialOf hT PySem.F.slot_range_reversed.lookup (Al (wpAny_of_eq (PySem.F.slot_range_reversed.bind (.ref r)) ?_)))
 have ne:¬ ((Value.builtin "range.__reversed__" == Value.none)=true):=Bool.false_ne_true
 dsimp only
 first | rw [if_neg ne] | (show wpAny _ _ (if (Value.builtin "range.__reversed__" == Value.none)=true then _ else _) _ _ _; rw [if_neg ne])
 refine Al (wpAny_rule (Al (m:=runValue (.call (.builtin "range.__reversed__") ⟨[.ref r],[]⟩)) ?_))
 show wpAny _ _ (call (.builtin "range.__reversed__") [.ref r]) _ _ _
 refine call_meets PySem.F.slot_range_reversed hT PySem.F.entry_range_reversed (PySem.F.args_range_reversed_1 _) (Zko r a b t u v hs) ⟨hr,?_⟩
 first | exact wpAny_pure q | exact Al (wpAny_pure (wpAny_pure q))
theorem Zms {r:Addr} {a b:Int} {t u v:Tok} {Q:Value->Shared->Prop} (hr:IsRange s.heap r a b 1 t u v)
  (hs:(Builtin.Range.rangeFitsLong a && Builtin.Range.rangeFitsLong b && Builtin.Range.rangeFitsLong 1 && Builtin.Range.rangeFitsLong (-1) && Builtin.Range.rangeFitsLong (a - 1) && Builtin.Range.rangeFitsLong (Builtin.Range.rangeSize a b 1))=true)
  (q:Q (.ref s.heap.objs.size) { s with heap:=s.heap.push (upIt a (Builtin.Range.rangeSize a b 1)) }):wpAny (model prog w) A (call (.type "reversed") [.ref r]) Q E s:=by
 refine callType_other (U:="range_iterator") (Q₁:=λo z=>o=.ref s.heap.objs.size/\z={ s with heap:=s.heap.push (upIt a (Builtin.Range.rangeSize a b 1)) }) (by decide +kernel) PySem.F.create_reversed ⟨_,_,PySem.F.mro_reversed⟩ PySem.F.made_reversed Zn8 (PySem.F.typeCall_reversed_1 _) (Zmr hr hs ⟨rfl,rfl⟩) ?_
 rintro o z ⟨rfl,rfl⟩
 exact ⟨⟨_,Ap _ rfl,rfl⟩,q⟩
end
section
variable {X:Cx} {tg:Expr}
noncomputable def Zpt (ta:TA):TI:=λσ H R=>ta σ H λvs H1=>∃ (i:Int) (n:Nat),vs=[.int i,.int (i + n)]/\0<=i/\i + n<=100000/\R (Itr3 (i + n - 1) (-1) n) H1
theorem Zmx {a b:Expr} {ta:TA} {p1 p2 pos pos2:Pos} (hgl:Gl X "reversed") (hml:X.mg "reversed"=none) (hg:Gl X "range") (hm:X.mg "range"=none) (ha:PA X [a,b] ta) (hs:starEach [a,b] X.env=[(false,eval a X.env),(false,eval b X.env)]:=by rfl) (hsb:starEach [b] X.env=[(false,eval b X.env)]:=by rfl)
  (hs2:starEach [.Call (.Name "range" p2) [a,b] [] pos2] X.env=[(false,eval (.Call (.Name "range" p2) [a,b] [] pos2) X.env)]:=by rfl):PI X tg (.Call (.Name "reversed" p1) [.Call (.Name "range" p2) [a,b] [] pos2] [] pos) (Zpt ta):=by
 intro pins s σ H R I h
 refine Call_ (Wf I hgl hml boot_reversed (PyProof.Rows.callWith_type1 ?_ hs2 rfl))
 rw [hs2]
 refine Calls.spliced_cons ?_
 refine Call_ (Wf I hg hm boot_range (PyProof.Rows.callWith_type1 (thn (ha pos2 pins s σ H _ I h) λus s1 ⟨vs,H1,I1,r1,q1⟩=>?_) (by rw [hs,hsb]) (by rw [hsb]; rfl)))
 obtain ⟨i,n,e,h0,h1,q⟩:=q1
 subst e
 obtain ⟨u,v,rfl,ru,rv⟩:=r1.two
 obtain ⟨t,rfl⟩:=ru
 obtain ⟨t',rfl⟩:=rv
 refine call_range_2 (Calls.spliced_nil ?_)
 have hr:Builtin.Range.rangeSize i (i + n) 1=n:=by rw [rangeSize_one]; split <;> omega
 have fits:(Builtin.Range.rangeFitsLong i && Builtin.Range.rangeFitsLong (i + n) && Builtin.Range.rangeFitsLong 1 && Builtin.Range.rangeFitsLong (-1) && Builtin.Range.rangeFitsLong (i - 1) && Builtin.Range.rangeFitsLong (Builtin.Range.rangeSize i (i + n) 1))=true:=by
  rw [hr,U0 (by omega) (by omega),U0 (by omega) (by omega),U0 (by decide) (by decide),U0 (by decide) (by decide),U0 (by omega) (by omega),U0 (by omega) (by omega)]
  rfl
 refine Zms (IsRange.new ..) fits ?_
 rw [hr]
 have I2:Inv X pins σ H1 { s1 with heap:=s1.heap.push { cls:=.type "range",data:=.fields #[.int i t,.int (i + n) t',.int 1 s1.toks] },toks:=s1.toks + 1 }:=I1.kept λb o e=>Ak _ e
 have st:IsRangeIter ((s1.heap.push { cls:=.type "range",data:=.fields #[.int i t,.int (i + n) t',.int 1 s1.toks] }).push (upIt i n)) (s1.heap.push { cls:=.type "range",data:=.fields #[.int i t,.int (i + n) t',.int 1 s1.toks] }).objs.size (i + n - 1 + ((0:Nat):Int) * (-1)) ((n:Int) - ((0:Nat):Int)) (-1):=by
  have e1:i + (n:Int) - 1 + ((0:Nat):Int) * (-1)=i + ((n:Int) - 1) * 1:=by simp; omega
  have e2:(n:Int) - ((0:Nat):Int)=n:=by simp
  rw [e1,e2]
  exact Ap _ rfl
 refine wpAny_pyIter_rangeiter st ?_
 refine ⟨_,[(s1.heap.push { cls:=.type "range",data:=.fields #[.int i t,.int (i + n) t',.int 1 s1.toks] }).objs.size],_,_,H1,rfl,I2.kept (t':=s1.toks + 1) λb o e=>Ak _ e,Kz _ (i + n - 1) (-1) n,st,λb hb=>?_,q⟩
 have e:b=(s1.heap.push { cls:=.type "range",data:=.fields #[.int i t,.int (i + n) t',.int 1 s1.toks] }).objs.size:=by simpa using hb
 subst e
 exact I2.fpOk (An _) (I2.hok.fresh (An _))
theorem Zha {lo st:Int} {n:Nat} {g:TG} {tb:TS} {D:Ends} {σ:St} {H:Hp} (Pv:Nat->St->Hp->Prop) (h0:Pv 0 σ H)
  (hs:∀ (i:Nat) σ H,i < n->Pv i σ H->g (.int (lo + i * st)) σ H λσ2 H2=>tb { D with nx:=Pv (i + 1),ct:=Pv (i + 1),bk:=D.nx } σ2 H2) (hd:∀ σ H,Pv n σ H->D.nx σ H) :
  ∃ W:Nat->Nat->St->Hp->Prop,(∃ m,W 0 m σ H)/\∀ i m σ H,W i m σ H ->
   ((Itr3 lo st n).stop i H/\D.nx σ H)\/((Itr3 lo st n).go i H/\∃ N:St->Hp->Prop,(∀ σ' H',N σ' H'->∃ m',m' < m/\W (i + 1) m' σ' H')/\∀ x H',(Itr3 lo st n).yld i H x H'->g x σ H' λσ2 H2=>tb { D with nx:=N,ct:=N,bk:=D.nx } σ2 H2):=by
 refine ⟨λi m σ H=>m=n - i/\i<=n/\Pv i σ H,⟨n,by simp,Az _,h0⟩,?_⟩
 rintro i m σ H ⟨rfl,hi,p⟩
 by_cases hlt:i < n
 ·refine .inr ⟨hlt,Pv (i + 1),λσ' H' p'=>⟨n - (i + 1),by omega,rfl,hlt,p'⟩,λx H' y=>?_⟩
  obtain ⟨e,y⟩:=y
  subst e y
  exact hs i σ _ hlt p
 ·have e:i=n:=by omega
  subst e
  exact .inl ⟨An _,hd σ H p⟩
theorem Uu {pos:Pos} (K:W.Frag) {es:List Expr} {k:Nat} {t:TGs} {n:Nat} (hc:X.calm=true) (h:PGs X es t)
  (hn:(assignEach es X.env).length=n:=by rfl) (hst:(assignEach es X.env).findIdx? (·.1)=none:=by rfl) (hk:X.K=K:=by rfl):PG X (.Tuple es k pos) (gTup K n t):=hk ▸ Wk hc h hn hst
end
end L2
namespace KT
open PySem L2
noncomputable def mV:Option Nat->V
 | none=>.non
 | some j=>.int j
structure TD (M:List (Option Nat)) (ns:List Int):Prop where
 n:∃ n,1<=n/\n<=40/\M.length=3 * n
 len:ns.length=M.length
 inv:∀ (i j:Nat),M[i]?=some (some j)->M[j]?=some (some i)/\i≠j
 rng:∀ (i:Nat) x,ns[i]?=some x->0<=x/\x<=9999
 eqv:∀ (i j:Nat) x,ns[i]?=some x->ns[j]?=some x->i=j\/M[i]?=some (some j)
 eqm:∀ (i j:Nat),M[i]?=some (some j)->ns[j]?=ns[i]?
structure SewOk (N:Nat) (F:List Nat) (M:List (Option Nat)):Prop where
 len:M.length=N
 nd:F.Nodup
 free:∀ f∈F,f < N/\M[f]?=some none
 inv:∀ (i j:Nat),M[i]?=some (some j)->M[j]?=some (some i)/\i≠j
theorem SewOk.start (N:Nat):SewOk N (List.range N) (List.replicate N none):=by
 refine ⟨by simp,List.nodup_range,λf hf=>?_,λi j h=>?_⟩
 ·have h:=List.mem_range.mp hf
  exact ⟨h,by rw [List.getElem?_replicate,if_pos h]⟩
 ·rw [List.getElem?_replicate] at h
  split at h <;> cases h
theorem SewOk.skip {N:Nat} {one:Nat} {F:List Nat} {M:List (Option Nat)} (h:SewOk N (one :: F) M):SewOk N F M :=
 ⟨h.len,(List.nodup_cons.mp h.nd).2,λf hf=>h.free f (List.mem_cons_of_mem _ hf),h.inv⟩
theorem SewOk.pair {N:Nat} {one other k:Nat} {F:List Nat} {M:List (Option Nat)} (h:SewOk N (one :: F) M) (hk:F[k]?=some other):SewOk N (F.eraseIdx k) ((M.set one (some other)).set other (some one)):=by
 obtain ⟨n1,n2⟩:=List.nodup_cons.mp h.nd
 have hm:other∈F:=Au hk
 have hne:one≠other:=λz=>n1 (z ▸ hm)
 obtain ⟨h1,f1⟩:=h.free one List.mem_cons_self
 obtain ⟨h2,f2⟩:=h.free other (List.mem_cons_of_mem _ hm)
 have l1:one < M.length:=by rw [h.len]; exact h1
 have l2:other < M.length:=by rw [h.len]; exact h2
 have g1:((M.set one (some other)).set other (some one))[one]?=some (some other):=by
  rw [List.getElem?_set_ne (Ne.symm hne),List.getElem?_set_self l1]
 have g2:((M.set one (some other)).set other (some one))[other]?=some (some one):=by
  rw [List.getElem?_set_self (by rw [List.length_set]; exact l2)]
 have g3:∀ i,i≠one->i≠other->((M.set one (some other)).set other (some one))[i]?=M[i]?:=λi a b=>by
  rw [List.getElem?_set_ne (Ne.symm b),List.getElem?_set_ne (Ne.symm a)]
 refine ⟨by rw [List.length_set,List.length_set]; exact h.len,n2.sublist (List.eraseIdx_sublist F k),λf hf=>?_,λi j e=>?_⟩
 ·obtain ⟨i,hi,hik,e⟩:=List.mem_eraseIdx_iff_getElem.mp hf
  have fm:f∈F:=e ▸ List.getElem_mem hi
  obtain ⟨a,b⟩:=h.free f (List.mem_cons_of_mem _ fm)
  have c1:f≠one:=λz=>n1 (z ▸ fm)
  have c2:f≠other:=λz=>by
   obtain ⟨hk',ek⟩:=Aa hk
   exact hik ((List.getElem_inj n2).mp (e.trans (z.trans ek.symm)))
  exact ⟨a,by rw [g3 f c1 c2]; exact b⟩
 ·by_cases c1:i=one
  ·subst c1
   rw [g1] at e
   cases e
   exact ⟨g2,hne⟩
  ·by_cases c2:i=other
   ·subst c2
    rw [g2] at e
    cases e
    exact ⟨g1,Ne.symm hne⟩
   ·rw [g3 i c1 c2] at e
    obtain ⟨a,b⟩:=h.inv i j e
    have d1:j≠one:=λz=>by rw [z,f1] at a; cases a
    have d2:j≠other:=λz=>by rw [z,f2] at a; cases a
    exact ⟨by rw [g3 j d1 d2]; exact a,b⟩
noncomputable def nm (s t:Int) (i:Nat):Int:=(s + t * i) % 10000
noncomputable def rep (M:List (Option Nat)) (i:Nat):Nat:=match M[i]? with
 | some (some j)=>if j < i then j else i
 | _=>i
noncomputable def flat (M:List (Option Nat)) (s t:Int):List Int:=(List.range M.length).map λi=>nm s t (rep M i)
noncomputable def U4:List Int:=[1,3,7,9,37,1009,3333,9999]
theorem nm_d:∀ t∈U4,∀ d:Fin 42,t * ((d.val:Nat):Int) % 10000=0->d.val=0:=by decide +kernel
theorem Zok {s t:Int} (ht:t∈U4) {i j:Nat} (hi:i < 42) (hj:j < 42) (h:nm s t i=nm s t j):i=j:=by
  have key:∀ a b:Nat,b<=a->a < 42->nm s t a=nm s t b->a=b:=λa b hab ha e=>by
    have e2:=Int.emod_eq_emod_iff_emod_sub_eq_zero.mp e
    rw [Int.add_sub_add_left,<- Int.mul_sub,<- Int.natCast_sub hab] at e2
    have:=nm_d t ht ⟨a - b,Nat.lt_of_le_of_lt (Nat.sub_le _ _) ha⟩ e2
    exact Nat.le_antisymm (Nat.sub_eq_zero_iff_le.mp this) hab
  rcases Nat.le_total i j with h' | h'
  · exact (key j i h' hj h.symm).symm
  · exact key i j h' hi h
theorem Zii {M:List (Option Nat)} {i N:Nat} (h:i < N):rep M i < N:=by
 unfold rep
 split
 ·split <;> omega
 ·exact h
theorem Ka (M:List (Option Nat)) (i:Nat):rep M i=i\/(∃ j,M[i]?=some (some j)/\j < i/\rep M i=j):=by
 cases e:M[i]? with
 | none=>exact .inl (by unfold rep; rw [e])
 | some o =>
  cases o with
  | none=>exact .inl (by unfold rep; rw [e])
  | some j =>
   by_cases h:j < i
   ·exact .inr ⟨j,rfl,h,by unfold rep; rw [e]; exact if_pos h⟩
   ·exact .inl (by unfold rep; rw [e]; exact if_neg h)
theorem G5 {M:List (Option Nat)} {s t:Int} {i:Nat} {x:Int} (h:(flat M s t)[i]?=some x):i < M.length/\x=nm s t (rep M i):=by
 unfold flat at h
 rw [Ah] at h
 by_cases hi:i < M.length
 ·rw [List.getElem?_range hi] at h
  exact ⟨hi,(Ax h).symm⟩
 ·rw [Ay (by simpa using hi)] at h
  cases h
theorem Zf3 {M:List (Option Nat)} {s t:Int} {i:Nat} (hi:i < M.length):(flat M s t)[i]?=some (nm s t (rep M i)):=by
 unfold flat
 rw [Ah,List.getElem?_range hi]
 rfl
theorem Zl6 {M:List (Option Nat)} {s t:Int} {n:Nat} (h1:1<=n) (h2:n<=14) (hM:M.length=3 * n) (hinv:∀ (i j:Nat),M[i]?=some (some j)->M[j]?=some (some i)/\i≠j) (ht:t∈U4):TD M (flat M s t) where
 n:=⟨n,h1,by omega,hM⟩
 len:=by unfold flat; simp
 inv:=hinv
 rng:=λi x h=>by
  obtain ⟨_,rfl⟩:=G5 h
  unfold nm
  omega
 eqv:=λi j x hi hj=>by
  obtain ⟨li,ei⟩:=G5 hi
  obtain ⟨lj,ej⟩:=G5 hj
  have e:rep M i=rep M j:=Zok ht (by have:=Zii (M:=M) li; omega) (by have:=Zii (M:=M) lj; omega) (ei.symm.trans ej)
  rcases Ka M i with a | ⟨a,ha,la,ra⟩
  ·rcases Ka M j with b | ⟨b,hb,lb,rb⟩
   ·exact .inl (a.symm.trans (e.trans b))
   ·have:b=i:=by rw [<- rb,<- e,a]
    subst this
    exact .inr (hinv j b hb).1
  ·rcases Ka M j with b | ⟨b,hb,lb,rb⟩
   ·have:a=j:=by rw [<- ra,e,b]
    subst this
    exact .inr ha
   ·have:a=b:=by rw [<- ra,e,rb]
    subst this
    have c1:=(hinv i a ha).1
    have c2:=(hinv j a hb).1
    rw [c1] at c2
    exact .inl (by cases c2; rfl)
 eqm:=λi j h=>by
  obtain ⟨h',hne⟩:=hinv i j h
  have li:i < M.length:=(Aa h).1
  have lj:j < M.length:=(Aa h').1
  rw [Zf3 li,Zf3 lj]
  have e:rep M j=rep M i:=by
   by_cases c:j < i
   ·have a:rep M i=j:=by unfold rep; rw [h]; exact if_pos c
    have b:rep M j=j:=by unfold rep; rw [h']; exact if_neg (by omega)
    rw [a,b]
   ·have a:rep M i=i:=by unfold rep; rw [h]; exact if_neg c
    have b:rep M j=i:=by unfold rep; rw [h']; exact if_pos (by omega)
    rw [a,b]
  rw [e]
noncomputable def pl (ns:List Int) (n:Nat) (x:Int):List Nat:=(List.range n).filter λi=>decide (ns[i]?=some x)
noncomputable def keys (ns:List Int):Nat->List Int
 | 0=>[]
 | n + 1=>match ns[n]? with
  | some x=>if x∈keys ns n then keys ns n else keys ns n ++ [x]
  | none=>keys ns n
theorem Xc {ns:List Int} {n:Nat} {x:Int} {i:Nat}:i∈pl ns n x ↔ i < n/\ns[i]?=some x:=by
 unfold pl
 rw [List.mem_filter,List.mem_range]
 simp
theorem Zkt (ns:List Int) (n:Nat) (x:Int):(pl ns n x).Nodup:=(List.nodup_range).sublist List.filter_sublist
theorem Zim (ns:List Int) (n:Nat) (x:Int):(pl ns n x).Pairwise (· < ·):=(List.pairwise_lt_range).sublist List.filter_sublist
theorem Zat {ns:List Int} {n:Nat} {x:Int} (h:ns[n]?=some x):pl ns (n + 1) x=pl ns n x ++ [n]:=by
 unfold pl
 rw [List.range_succ,List.filter_append]
 congr 1
 simp [h]
theorem Gr {ns:List Int} {n:Nat} {x:Int} (h:ns[n]?≠some x):pl ns (n + 1) x=pl ns n x:=by
 unfold pl
 rw [List.range_succ,List.filter_append]
 simp [h]
theorem W9 {ns:List Int} {n:Nat} {x:Int} (h:ns[n]?=some x):keys ns (n + 1)=if x∈keys ns n then keys ns n else keys ns n ++ [x]:=by
 show (match ns[n]? with | some x=>if x∈keys ns n then keys ns n else keys ns n ++ [x] | none=>keys ns n)=_
 rw [h]
theorem Xs {ns:List Int}:∀ {n:Nat} {x:Int},x∈keys ns n ↔ ∃ i,i < n/\ns[i]?=some x
 | 0,x=>by simp [keys]
 | n + 1,x=>by
  have ih:=Xs (ns:=ns) (n:=n) (x:=x)
  have e:x∈keys ns (n + 1) ↔ x∈keys ns n\/ns[n]?=some x:=by
   cases h:ns[n]? with
   | none =>
    have:keys ns (n + 1)=keys ns n:=by
     show (match ns[n]? with | some x=>if x∈keys ns n then keys ns n else keys ns n ++ [x] | none=>keys ns n)=_
     rw [h]
    rw [this]; simp
   | some y =>
    rw [W9 h]
    split
    ·constructor
     ·exact .inl
     ·rintro (z | z)
      ·exact z
      ·cases z; assumption
    ·rw [List.mem_append,List.mem_singleton]
     constructor
     ·rintro (z | z)
      ·exact .inl z
      ·exact .inr (by rw [z])
     ·rintro (z | z)
      ·exact .inl z
      ·exact .inr (by cases z; rfl)
  rw [e,ih]
  constructor
  ·rintro (⟨i,h1,h2⟩ | h)
   ·exact ⟨i,by omega,h2⟩
   ·exact ⟨n,by omega,h⟩
  ·rintro ⟨i,h1,h2⟩
   by_cases c:i=n
   ·subst c; exact .inr h2
   ·exact .inl ⟨i,by omega,h2⟩
theorem Qd (ns:List Int):∀ n,(keys ns n).Nodup
 | 0=>List.nodup_nil
 | n + 1=>by
  have ih:=Qd ns n
  cases h:ns[n]? with
  | none =>
   have:keys ns (n + 1)=keys ns n:=by
    show (match ns[n]? with | some x=>if x∈keys ns n then keys ns n else keys ns n ++ [x] | none=>keys ns n)=_
    rw [h]
   rw [this]; exact ih
  | some y =>
   rw [W9 h]
   split
   ·exact ih
   ·rename_i c
    refine List.nodup_append.mpr ⟨ih,by simp,λa ha b hb=>?_⟩
    rw [List.mem_singleton] at hb
    subst hb
    rintro rfl
    exact c ha
theorem Vx (ns:List Int):∀ n,(keys ns n).length<=n
 | 0=>An _
 | n + 1=>by
  have ih:=Vx ns n
  cases h:ns[n]? with
  | none =>
   have:keys ns (n + 1)=keys ns n:=by
    show (match ns[n]? with | some x=>if x∈keys ns n then keys ns n else keys ns n ++ [x] | none=>keys ns n)=_
    rw [h]
   rw [this]; omega
  | some y =>
   rw [W9 h]
   split
   ·omega
   ·rw [Ae,At]; omega
theorem Zin {ns:List Int} {n:Nat} {x:Int} (h:x ∉ keys ns n):pl ns n x=[]:=by
 cases e:pl ns n x with
 | nil=>rfl
 | cons a r =>
  have:a∈pl ns n x:=by rw [e]; exact List.mem_cons_self
  obtain ⟨h1,h2⟩:=Xc.mp this
  exact absurd (Xs.mpr ⟨a,h1,h2⟩) h
theorem Zdy {M:List (Option Nat)} {ns:List Int} (td:TD M ns) (n:Nat) (x:Int):(pl ns n x).length<=2:=by
 match e:pl ns n x with
 | []=>simp
 | [_]=>simp
 | [_,_]=>simp
 | a :: b :: c :: r =>
  exfalso
  have nd:=Zkt ns n x
  rw [e] at nd
  have ha:=(Xc.mp (show a∈pl ns n x by rw [e]; simp)).2
  have hb:=(Xc.mp (show b∈pl ns n x by rw [e]; simp)).2
  have hc:=(Xc.mp (show c∈pl ns n x by rw [e]; simp)).2
  simp only [List.nodup_cons,List.mem_cons,not_or] at nd
  obtain ⟨⟨n1,n2,_⟩,⟨n3,_⟩,_⟩:=nd
  rcases td.eqv a b x ha hb with z | z
  ·exact n1 z
  ·rcases td.eqv a c x ha hc with y | y
   ·exact n2 y
   ·rw [z] at y
    cases y
    exact n3 rfl
theorem U9 {M:List (Option Nat)} {ns:List Int} (td:TD M ns) {x:Int} (hx:x∈keys ns ns.length) :
  (∃ a,pl ns ns.length x=[a]/\ns[a]?=some x/\M[a]?=some none)\/(∃ a b,a < b/\pl ns ns.length x=[a,b]/\ns[a]?=some x/\ns[b]?=some x/\M[a]?=some (some b)/\M[b]?=some (some a)):=by
 obtain ⟨i,h1,h2⟩:=Xs.mp hx
 have mi:i∈pl ns ns.length x:=Xc.mpr ⟨h1,h2⟩
 have l2:=Zdy td ns.length x
 have st:=Zim ns ns.length x
 match e:pl ns ns.length x with
 | []=>rw [e] at mi; simp at mi
 | [a] =>
  obtain ⟨ga,ha⟩:=Xc.mp (show a∈pl ns ns.length x by rw [e]; simp)
  refine .inl ⟨a,rfl,ha,?_⟩
  have la:a < M.length:=by rw [<- td.len]; exact ga
  cases q:M[a]? with
  | none=>rw [List.getElem?_eq_none_iff] at q; omega
  | some o =>
   cases o with
   | none=>rfl
   | some b =>
    exfalso
    have hb:ns[b]?=some x:=by rw [td.eqm a b q]; exact ha
    have mb:b∈pl ns ns.length x:=Xc.mpr ⟨(Aa hb).1,hb⟩
    rw [e,List.mem_singleton] at mb
    exact (td.inv a b q).2 mb.symm
 | [a,b] =>
  obtain ⟨ga,ha⟩:=Xc.mp (show a∈pl ns ns.length x by rw [e]; simp)
  obtain ⟨gb,hb⟩:=Xc.mp (show b∈pl ns ns.length x by rw [e]; simp)
  rw [e] at st
  have hab:a < b:=by simpa using st
  rcases td.eqv a b x ha hb with z | z
  ·omega
  ·exact .inr ⟨a,b,hab,rfl,ha,hb,z,(td.inv a b z).1⟩
 | a :: b :: c :: r=>rw [e] at l2; simp at l2
noncomputable def part (M:List (Option Nat)) (ns:List Int) (ks:List Int):List (Option Nat):=(List.range M.length).map λi=>match ns[i]? with
 | some x=>if x∈ks then M.getD i none else none
 | none=>none
theorem Wh (M:List (Option Nat)) (ns ks:List Int):(part M ns ks).length=M.length:=by unfold part; simp
theorem Qr {M:List (Option Nat)} {ns ks:List Int} (td:TD M ns) {i:Nat} {x:Int} (h:ns[i]?=some x):(part M ns ks)[i]?=some (if x∈ks then M.getD i none else none):=by
 have li:i < M.length:=by rw [<- td.len]; exact (Aa h).1
 unfold part
 rw [Ah,List.getElem?_range li]
 simp [h]
theorem Zky {M:List (Option Nat)} {ns:List Int} (td:TD M ns):part M ns []=List.replicate M.length none:=by
 apply List.ext_getElem?
 intro i
 by_cases li:i < M.length
 ·obtain ⟨x,hx⟩:∃ x,ns[i]?=some x:=⟨_,Ac (by rw [td.len]; exact li)⟩
  rw [Qr td hx,List.getElem?_replicate,if_pos li]
  simp
 ·rw [Ay (by rw [Wh]; omega),Ay (by simp; omega)]
theorem Zkz {M:List (Option Nat)} {ns:List Int} (td:TD M ns):part M ns (keys ns ns.length)=M:=by
 apply List.ext_getElem?
 intro i
 by_cases li:i < M.length
 ·have ln:i < ns.length:=by rw [td.len]; exact li
  obtain ⟨x,hx⟩:∃ x,ns[i]?=some x:=⟨_,Ac ln⟩
  rw [Qr td hx,if_pos (Xs.mpr ⟨i,ln,hx⟩),Ad,Ac li]
  rfl
 ·rw [Ay (by rw [Wh]; omega),Ay (by omega)]
theorem Zkx {M:List (Option Nat)} {ns ks:List Int} (td:TD M ns) {x:Int} {a:Nat} (hp:pl ns ns.length x=[a]) (hm:M[a]?=some none):part M ns (ks ++ [x])=part M ns ks:=by
 apply List.ext_getElem?
 intro i
 by_cases li:i < M.length
 ·have ln:i < ns.length:=by rw [td.len]; exact li
  obtain ⟨y,hy⟩:∃ x,ns[i]?=some x:=⟨_,Ac ln⟩
  rw [Qr td hy,Qr td hy]
  by_cases c:y=x
  ·subst c
   have:i∈pl ns ns.length y:=Xc.mpr ⟨ln,hy⟩
   rw [hp,List.mem_singleton] at this
   subst this
   have:M.getD i none=none:=by rw [Ad,hm]; rfl
   rw [this]
   simp
  ·simp [c]
 ·rw [Ay (by rw [Wh]; omega),Ay (by rw [Wh]; omega)]
theorem Ziw {M:List (Option Nat)} {ns ks:List Int} (td:TD M ns) {x:Int} {a b:Nat} (hp:pl ns ns.length x=[a,b]) (hab:a < b) (ha:M[a]?=some (some b)) (hb:M[b]?=some (some a)) :
  part M ns (ks ++ [x])=((part M ns ks).set a (some b)).set b (some a):=by
 have la:a < M.length:=(Aa ha).1
 have lb:b < M.length:=(Aa hb).1
 have na:=(Xc.mp (show a∈pl ns ns.length x by rw [hp]; simp)).2
 have nb:=(Xc.mp (show b∈pl ns ns.length x by rw [hp]; simp)).2
 apply List.ext_getElem?
 intro i
 by_cases li:i < M.length
 ·have ln:i < ns.length:=by rw [td.len]; exact li
  obtain ⟨y,hy⟩:∃ x,ns[i]?=some x:=⟨_,Ac ln⟩
  rw [Qr td hy]
  by_cases cb:i=b
  ·subst cb
   rw [nb] at hy; cases hy
   rw [List.getElem?_set_self (by rw [List.length_set,Wh]; exact lb),if_pos (by simp),Ad,hb]
   rfl
  ·rw [List.getElem?_set_ne (Ne.symm cb)]
   by_cases ca:i=a
   ·subst ca
    rw [na] at hy; cases hy
    rw [List.getElem?_set_self (by rw [Wh]; exact la),if_pos (by simp),Ad,ha]
    rfl
   ·rw [List.getElem?_set_ne (Ne.symm ca),Qr td hy]
    have:y≠x:=by
     rintro rfl
     have:i∈pl ns ns.length y:=Xc.mpr ⟨ln,hy⟩
     rw [hp] at this
     simp at this
     omega
    simp [this]
 ·rw [Ay (by rw [Wh]; omega),Ay (by rw [List.length_set,List.length_set,Wh]; omega)]
noncomputable def nV (i:Nat):V:=.int (i:Int)
theorem Ja {g:Int->V} {y:Int}:∀ {ks:List Int},valV (ks.map λx=>((Sum.inl x:Key),g x)) (Sum.inl y)=if y∈ks then some (g y) else none
 | []=>by simp [valV]
 | k :: r=>by
  have ih:=Ja (g:=g) (y:=y) (ks:=r)
  unfold valV at ih ⊢
  rw [List.map_cons,List.find?_cons]
  by_cases c:k=y
  ·subst c
   simp
  ·have:(decide ((Sum.inl k:Key)=Sum.inl y))=false:=by
    rw [decide_eq_false_iff_not]
    intro z
    cases z
    exact c rfl
   simp only [this]
   rw [ih]
   have:(y∈k :: r) ↔ y∈r:=by
    rw [List.mem_cons]
    exact ⟨λz=>z.elim (λw=>absurd w.symm c) id,.inr⟩
   simp only [this]
theorem Zap {g:Int->V} {y:Int} {v:V} {ks:List Int} (h:y ∉ ks):putK (ks.map λx=>((Sum.inl x:Key),g x)) (Sum.inl y) v=(ks.map λx=>((Sum.inl x:Key),g x)) ++ [(Sum.inl y,v)]:=by
 unfold putK
 rw [if_neg]
 intro z
 rw [List.any_eq_true] at z
 obtain ⟨kv,h1,h2⟩:=z
 obtain ⟨x,hx,rfl⟩:=List.mem_map.mp h1
 have:(Sum.inl x:Key)=Sum.inl y:=of_decide_eq_true h2
 cases this
 exact h hx
theorem Zfr {g:Int->V} {y:Int} {v:V} {ks:List Int} (h:y∈ks):putK (ks.map λx=>((Sum.inl x:Key),g x)) (Sum.inl y) v=ks.map λx=>((Sum.inl x:Key),if x=y then v else g x):=by
 unfold putK
 rw [if_pos]
 ·rw [List.map_map]
  apply List.map_congr_left
  intro x hx
  show (if (Sum.inl x:Key)=Sum.inl y then ((Sum.inl x:Key),v) else (Sum.inl x,g x))=_
  by_cases c:x=y
  ·subst c; simp
  ·rw [if_neg (λz=>by cases z; exact c rfl),if_neg c]
 ·rw [List.any_eq_true]
  exact ⟨_,List.mem_map.mpr ⟨y,h,rfl⟩,by simp⟩
theorem Yi {α:Type} {f:α->V} {l:List α} {i:Nat} {x:α} (h:l[i]?=some x):atI (l.map f) (i:Int)=some (f x):=Xd (by rw [Ah,h]; rfl)
theorem Xl {H:Hp} {p q:Addr} {o:HO} (h:upd H p o q=none):q≠p/\H q=none:=by
 by_cases c:q=p
 ·subst c; rw [Zc] at h; cases h
 ·rw [Zd c] at h; exact ⟨c,h⟩
noncomputable def after (p:Int):Int:=if p % 3=2 then p - 2 else p + 1
noncomputable def Zt (p:Int):Int:=if p % 3=0 then p + 2 else p - 1
noncomputable def Y0 (left:Bool) (a b:Nat):List Int:=if left then [after a,Zt b,after b,Zt a] else [after a,Zt a,after b,Zt b]
noncomputable def mvI (left:Bool) (a b:Nat) (z:Int):Int :=
 if z=after a then (if left then Zt b else Zt a) else if z=Zt b then (if left then after b else after a) else if z=after b then (if left then Zt a else Zt b) else if z=Zt a then (if left then after a else after b) else z
noncomputable def glV (left:Bool) (a b:Nat):List (Key × V):=(Y0 left a b).map λx=>((Sum.inl x:Key),V.int (mvI left a b x))
theorem Yw (p:Nat):after p / 3=(p:Int) / 3/\after p≠p/\0<=after p:=by unfold after; split <;> omega
theorem Yn (p:Nat):Zt p / 3=(p:Int) / 3/\Zt p≠p/\0<=Zt p:=by unfold Zt; split <;> omega
theorem Kn (p:Nat):after p≠Zt p:=by unfold after Zt; split <;> split <;> omega
theorem Qf {a b:Nat} (h:a / 3≠b / 3):after a≠Zt a/\after a≠after b/\after a≠Zt b/\Zt a≠after b/\Zt a≠Zt b/\after b≠Zt b:=by
 obtain ⟨h1,_,_⟩:=Yw a
 obtain ⟨h2,_,_⟩:=Yn a
 obtain ⟨h3,_,_⟩:=Yw b
 obtain ⟨h4,_,_⟩:=Yn b
 have e:¬ (a:Int) / 3=(b:Int) / 3:=by omega
 refine ⟨Kn a,λz=>e ?_,λz=>e ?_,λz=>e ?_,λz=>e ?_,Kn b⟩
 ·rw [<- h1,<- h3,z]
 ·rw [<- h1,<- h4,z]
 ·rw [<- h2,<- h3,z]
 ·rw [<- h2,<- h4,z]
theorem Fy:∀ (kvs acc:List (Key × V)),((acc ++ kvs).map (·.1)).Nodup->Qc acc kvs=acc ++ kvs
 | [],acc,_=>by simp [Qc]
 | kv :: r,acc,h=>by
  have h1:(acc.any λx=>decide (x.1=kv.1))=false:=by
   rw [List.any_eq_false]
   intro x hx z
   have z:x.1=kv.1:=of_decide_eq_true z
   rw [Aj,List.map_cons] at h
   have:=(List.nodup_append.mp h).2.2 x.1 (List.mem_map.mpr ⟨x,hx,rfl⟩) kv.1 List.mem_cons_self
   exact this z
  have h2:putK acc kv.1 kv.2=acc ++ [kv]:=by
   unfold putK
   rw [if_neg (by rw [h1]; decide)]
  show Qc (putK acc kv.1 kv.2) r=_
  rw [h2,Fy r (acc ++ [kv]) (by simpa using h)]
  simp
theorem Zeb {left:Bool} {a b:Nat} (h:a / 3≠b / 3):Qc [] (glV left a b)=glV left a b:=by
 obtain ⟨h1,h2,h3,h4,h5,h6⟩:=Qf h
 refine Fy (glV left a b) [] ?_
 unfold glV Y0
 rw [List.nil_append,List.map_map]
 cases left <;> simp [h1,h2,h3,h4,h5,h6,Ne.symm h1,Ne.symm h2,Ne.symm h3,Ne.symm h4,Ne.symm h5,Ne.symm h6]
theorem Zef {a b:Nat} (h:a / 3≠b / 3):glV true a b=[(Sum.inl (after a),.int (Zt b)),(Sum.inl (Zt b),.int (after b)),(Sum.inl (after b),.int (Zt a)),(Sum.inl (Zt a),.int (after a))]:=by
 obtain ⟨h1,h2,h3,h4,h5,h6⟩:=Qf h
 unfold glV Y0 mvI
 simp [h1,h2,h3,h4,h5,h6,Ne.symm h1,Ne.symm h2,Ne.symm h3,Ne.symm h4,Ne.symm h5,Ne.symm h6]
theorem Zbr {a b:Nat} (h:a / 3≠b / 3):glV false a b=[(Sum.inl (after a),.int (Zt a)),(Sum.inl (Zt a),.int (after b)),(Sum.inl (after b),.int (Zt b)),(Sum.inl (Zt b),.int (after a))]:=by
 obtain ⟨h1,h2,h3,h4,h5,h6⟩:=Qf h
 unfold glV Y0 mvI
 simp [h1,h2,h3,h4,h5,h6,Ne.symm h1,Ne.symm h2,Ne.symm h3,Ne.symm h4,Ne.symm h5,Ne.symm h6]
theorem Zhm {left:Bool} {a b:Nat} {z:Int}:(valV (glV left a b) (Sum.inl z)).getD (V.int z)=V.int (mvI left a b z):=by
 unfold glV
 rw [Ja]
 by_cases c:z∈Y0 left a b
 ·rw [if_pos c]; rfl
 ·rw [if_neg c]
  have:mvI left a b z=z:=by
   unfold mvI
   have n1:¬ z=after a:=λe=>c (by unfold Y0; split <;> simp [e])
   have n2:¬ z=Zt b:=λe=>c (by unfold Y0; split <;> simp [e])
   have n3:¬ z=after b:=λe=>c (by unfold Y0; split <;> simp [e])
   have n4:¬ z=Zt a:=λe=>c (by unfold Y0; split <;> simp [e])
   rw [if_neg n1,if_neg n2,if_neg n3,if_neg n4]
  rw [this]
  rfl
theorem Gz (left:Bool) (i j:Nat) (z:Int):mvI left i j z=z\/mvI left i j z=after i\/mvI left i j z=Zt i\/mvI left i j z=after j\/mvI left i j z=Zt j:=by
 unfold mvI
 by_cases c1:z=after i
 ·cases left <;> simp [c1]
 ·by_cases c2:z=Zt j
  ·rw [if_neg c1,if_pos c2]; cases left <;> simp
  ·by_cases c3:z=after j
   ·rw [if_neg c1,if_neg c2,if_pos c3]; cases left <;> simp
   ·by_cases c4:z=Zt i
    ·rw [if_neg c1,if_neg c2,if_neg c3,if_pos c4]; cases left <;> simp
    ·rw [if_neg c1,if_neg c2,if_neg c3,if_neg c4]; exact .inl rfl
noncomputable def mvN (left:Bool) (i j z:Nat):Nat:=(mvI left i j z).toNat
theorem Zi9 (left:Bool) (i j z:Nat):0<=mvI left i j z:=by
 have h1:=(Yw i).2.2
 have h2:=(Yn i).2.2
 have h3:=(Yw j).2.2
 have h4:=(Yn j).2.2
 rcases Gz left i j z with e | e | e | e | e <;> rw [e] <;> omega
theorem Qb (left:Bool) (i j z:Nat):((mvN left i j z:Nat):Int)=mvI left i j z:=Int.toNat_of_nonneg (Zi9 left i j z)
theorem Zfz {i j:Nat} (h:i / 3≠j / 3) (left:Bool) (z:Int):mvI (!left) i j (mvI left i j z)=z:=by
 obtain ⟨h1,h2,h3,h4,h5,h6⟩:=Qf h
 by_cases c1:z=after i
 ·subst c1; cases left <;> simp [mvI,h1,h2,h3,h4,h5,h6,Ne.symm h1,Ne.symm h2,Ne.symm h3,Ne.symm h4,Ne.symm h5,Ne.symm h6]
 ·by_cases c2:z=Zt j
  ·subst c2; cases left <;> simp [mvI,h1,h2,h3,h4,h5,h6,Ne.symm h1,Ne.symm h2,Ne.symm h3,Ne.symm h4,Ne.symm h5,Ne.symm h6]
  ·by_cases c3:z=after j
   ·subst c3; cases left <;> simp [mvI,h1,h2,h3,h4,h5,h6,Ne.symm h1,Ne.symm h2,Ne.symm h3,Ne.symm h4,Ne.symm h5,Ne.symm h6]
   ·by_cases c4:z=Zt i
    ·subst c4; cases left <;> simp [mvI,h1,h2,h3,h4,h5,h6,Ne.symm h1,Ne.symm h2,Ne.symm h3,Ne.symm h4,Ne.symm h5,Ne.symm h6]
    ·cases left <;> simp [mvI,c1,c2,c3,c4]
theorem X7 {i j:Nat} (h:i / 3≠j / 3) (left:Bool) (z:Nat):mvN (!left) i j (mvN left i j z)=z:=by
 have:=Zfz h left z
 rw [<- Qb left,<- Qb] at this
 omega
theorem Vv {i j:Nat} (h:i / 3≠j / 3) (left:Bool) (z:Nat):mvN left i j (mvN (!left) i j z)=z:=by
 have:=X7 h (!left) z
 rw [Bool.not_not] at this
 exact this
theorem Km {p:Int} {q a:Nat} (e:(q:Int)=p) (h:p / 3=(a:Int) / 3):q / 3=a / 3:=by omega
theorem Zaa {p:Int} {q i n:Nat} (e:(q:Int)=p) (h:p / 3=(i:Int) / 3) (hi:i < 3 * n):q < 3 * n:=by omega
theorem Zcn {p:Int} {i n:Nat} (h0:0<=p) (h:p / 3=(i:Int) / 3) (hi:i < 3 * n):0<=p/\p < 3 * (n:Int):=⟨h0,by omega⟩
theorem Qa {i j n:Nat} (hi:i < 3 * n) (hj:j < 3 * n) (left:Bool) {z:Nat} (hz:z < 3 * n):mvN left i j z < 3 * n:=by
 have e:=Qb left i j z
 rcases Gz left i j z with q | q | q | q | q <;> rw [q] at e
 ·exact Zaa e rfl hz
 ·exact Zaa e (Yw i).1 hi
 ·exact Zaa e (Yn i).1 hi
 ·exact Zaa e (Yw j).1 hj
 ·exact Zaa e (Yn j).1 hj
theorem Kp {i j:Nat} (h:i / 3≠j / 3) (left:Bool) {y z:Nat} (e:mvN left i j y=mvN left i j z):y=z:=by
 have:=congrArg (mvN (!left) i j) e
 rw [X7 h,X7 h] at this
 exact this
noncomputable def exN (left:Bool) (i j:Nat) (ns:List Int):List Int:=(List.range ns.length).map λz=>ns.getD (mvN (!left) i j z) 0
noncomputable def exM (left:Bool) (i j:Nat) (M:List (Option Nat)):List (Option Nat):=(List.range M.length).map λz=>(M.getD (mvN (!left) i j z) none).map (mvN left i j)
theorem Jy (left:Bool) (i j:Nat) (ns:List Int):(exN left i j ns).length=ns.length:=by unfold exN; simp
theorem Ku (left:Bool) (i j:Nat) (M:List (Option Nat)):(exM left i j M).length=M.length:=by unfold exM; simp
section
variable {M:List (Option Nat)} {ns:List Int} {i j:Nat}
theorem Jz (td:TD M ns) (hi:i < M.length) (hj:j < M.length) (h:i / 3≠j / 3) (left:Bool) {z:Nat}:z < M.length->(exN left i j ns)[z]?=ns[mvN (!left) i j z]?:=by
 intro hz
 obtain ⟨n,_,_,hn⟩:=td.n
 rw [hn] at hi hj hz
 have hz':=Qa hi hj (!left) hz
 have l1:z < ns.length:=by rw [td.len,hn]; exact hz
 have l2:mvN (!left) i j z < ns.length:=by rw [td.len,hn]; exact hz'
 unfold exN
 rw [Ah,List.getElem?_range l1]
 show some (ns.getD _ 0)=_
 rw [Ad,Ac l2]
 rfl
theorem U1 (td:TD M ns) (hi:i < M.length) (hj:j < M.length) (h:i / 3≠j / 3) (left:Bool) {z:Nat}:z < M.length->(exM left i j M)[z]?=(M[mvN (!left) i j z]?).map (Option.map (mvN left i j)):=by
 intro hz
 obtain ⟨n,_,_,hn⟩:=td.n
 have hz0:=hz
 rw [hn] at hi hj hz
 have hz':=Qa hi hj (!left) hz
 have l2:mvN (!left) i j z < M.length:=by rw [hn]; exact hz'
 unfold exM
 rw [Ah,List.getElem?_range hz0]
 show some ((M.getD _ none).map _)=_
 rw [Ad,Ac l2]
 rfl
theorem TD.ex (td:TD M ns) (hi:i < M.length) (hj:j < M.length) (h:i / 3≠j / 3) (left:Bool):TD (exM left i j M) (exN left i j ns) where
 n:=by obtain ⟨n,a,b,c⟩:=td.n; exact ⟨n,a,b,by rw [Ku]; exact c⟩
 len:=by rw [Jy,Ku]; exact td.len
 inv:=λp q e=>by
  have hp:p < M.length:=by have:=(Aa e).1; rw [Ku] at this; exact this
  rw [U1 td hi hj h left hp] at e
  cases e1:M[mvN (!left) i j p]? with
  | none=>rw [e1] at e; cases e
  | some o =>
   cases o with
   | none=>rw [e1] at e; cases e
   | some b =>
    rw [e1] at e
    have e2:mvN left i j b=q:=by have:=Ax e; exact Ax this
    obtain ⟨i1,i2⟩:=td.inv _ _ e1
    have hb:b < M.length:=(Aa i1).1
    obtain ⟨n,_,_,hn⟩:=td.n
    have hq:q < M.length:=by rw [<- e2,hn]; rw [hn] at hi hj hb; exact Qa hi hj left hb
    have eb:mvN (!left) i j q=b:=by rw [<- e2,X7 h]
    refine ⟨?_,λz=>i2 ?_⟩
    ·rw [U1 td hi hj h left hq,eb,i1]
     show some (some (mvN left i j (mvN (!left) i j p)))=_
     rw [Vv h]
    ·rw [z,eb]
 rng:=λp x e=>by
  have hp:p < M.length:=by have:=(Aa e).1; rw [Jy,td.len] at this; exact this
  rw [Jz td hi hj h left hp] at e
  exact td.rng _ x e
 eqv:=λp q x e1 e2=>by
  have hp:p < M.length:=by have:=(Aa e1).1; rw [Jy,td.len] at this; exact this
  have hq:q < M.length:=by have:=(Aa e2).1; rw [Jy,td.len] at this; exact this
  rw [Jz td hi hj h left hp] at e1
  rw [Jz td hi hj h left hq] at e2
  rcases td.eqv _ _ x e1 e2 with z | z
  ·exact .inl (Kp h (!left) z)
  ·right
   rw [U1 td hi hj h left hp,z]
   show some (some (mvN left i j (mvN (!left) i j q)))=_
   rw [Vv h]
 eqm:=λp q e=>by
  have hp:p < M.length:=by have:=(Aa e).1; rw [Ku] at this; exact this
  have e0:=e
  rw [U1 td hi hj h left hp] at e
  cases e1:M[mvN (!left) i j p]? with
  | none=>rw [e1] at e; cases e
  | some o =>
   cases o with
   | none=>rw [e1] at e; cases e
   | some b =>
    rw [e1] at e
    have e2:mvN left i j b=q:=by have:=Ax e; exact Ax this
    obtain ⟨i1,i2⟩:=td.inv _ _ e1
    have hb:b < M.length:=(Aa i1).1
    obtain ⟨n,_,_,hn⟩:=td.n
    have hq:q < M.length:=by rw [<- e2,hn]; rw [hn] at hi hj hb; exact Qa hi hj left hb
    have eb:mvN (!left) i j q=b:=by rw [<- e2,X7 h]
    rw [Jz td hi hj h left hp,Jz td hi hj h left hq,eb]
    exact td.eqm _ _ e1
end
noncomputable def nst (left:Bool) (i j:Nat) (ns:List Int) (k:Nat):List Int:=(List.range ns.length).map λz=>if ((mvN (!left) i j z:Nat):Int)∈(Y0 left i j).take k then ns.getD (mvN (!left) i j z) 0 else ns.getD z 0
theorem Zk3 (left:Bool) (i j:Nat) (ns:List Int):nst left i j ns 0=ns:=by
 apply List.ext_getElem?
 intro z
 unfold nst
 rw [Ah]
 by_cases hz:z < ns.length
 ·rw [List.getElem?_range hz,List.take_zero]
  simp [hz]
 ·rw [Ay (by simpa using hz),Ay (by omega)]
  rfl
theorem Zk6 {i j:Nat} {left:Bool} {z:Int} (h:z ∉ Y0 left i j) (l2:Bool):mvI l2 i j z=z:=by
 have n1:¬ z=after i:=λe=>h (by unfold Y0; split <;> simp [e])
 have n2:¬ z=Zt j:=λe=>h (by unfold Y0; split <;> simp [e])
 have n3:¬ z=after j:=λe=>h (by unfold Y0; split <;> simp [e])
 have n4:¬ z=Zt i:=λe=>h (by unfold Y0; split <;> simp [e])
 unfold mvI
 rw [if_neg n1,if_neg n2,if_neg n3,if_neg n4]
theorem Zeg (left:Bool) (i j:Nat):(Y0 left i j).length=4:=by unfold Y0; split <;> rfl
theorem Zm6 {i j:Nat} (h:i / 3≠j / 3) (left:Bool) (ns:List Int):nst left i j ns 4=exN left i j ns:=by
 unfold nst exN
 apply List.map_congr_left
 intro z _
 by_cases c:((mvN (!left) i j z:Nat):Int)∈(Y0 left i j).take 4
 ·rw [if_pos c]
 ·rw [if_neg c]
  rw [List.take_of_length_le (Nat.le_of_eq (Zeg left i j))] at c
  have e1:=Zk6 c left
  rw [Qb,] at e1
  have e2:=Zfz h (!left) (z:Int)
  rw [Bool.not_not] at e2
  rw [e2] at e1
  have:mvN (!left) i j z=z:=by have:=Qb (!left) i j z; omega
  rw [this]
theorem Zk4 {i j:Nat} (h:i / 3≠j / 3) {left:Bool} {ns:List Int} {k p:Nat} (hk:(Y0 left i j)[k]?=some (p:Int)) (hq:mvN left i j p < ns.length) :
  (nst left i j ns k).set (mvN left i j p) (ns.getD p 0)=nst left i j ns (k + 1):=by
 apply List.ext_getElem?
 intro z
 unfold nst
 by_cases c:z=mvN left i j p
 ·subst c
  rw [List.getElem?_set_self (by simpa using hq),Ah,List.getElem?_range hq]
  have e:mvN (!left) i j (mvN left i j p)=p:=X7 h left p
  have:((mvN (!left) i j (mvN left i j p):Nat):Int)∈(Y0 left i j).take (k + 1):=by rw [e,Aw,hk]; simp
  simp only [Option.map_some,this,if_true]
  rw [e]
 ·rw [List.getElem?_set_ne (Ne.symm c),Ah,Ah]
  by_cases d:z < ns.length
  ·rw [List.getElem?_range d]
   have ne:¬ ((mvN (!left) i j z:Nat):Int)=(p:Int):=λe=>c (by
    have e:mvN (!left) i j z=p:=by omega
    rw [<- e,Vv h])
   have:((mvN (!left) i j z:Nat):Int)∈(Y0 left i j).take (k + 1) ↔ ((mvN (!left) i j z:Nat):Int)∈(Y0 left i j).take k:=by
    rw [Aw,hk]
    simp [ne]
   simp only [Option.map_some,this]
  ·rw [Ay (by simpa using d)]
   rfl
theorem Znj {left:Bool} {i j n k:Nat} {p:Int} (hi:i < 3 * n) (hj:j < 3 * n) (hk:(Y0 left i j)[k]?=some p):0<=p/\p < 3 * (n:Int):=by
 have hm:p∈Y0 left i j:=Au hk
 obtain ⟨a1,_,a3⟩:=Yw i
 obtain ⟨b1,_,b3⟩:=Yn i
 obtain ⟨c1,_,c3⟩:=Yw j
 obtain ⟨d1,_,d3⟩:=Yn j
 have hm:p=after i\/p=Zt i\/p=after j\/p=Zt j:=by
  unfold Y0 at hm
  split at hm <;> simp at hm <;> rcases hm with e | e | e | e <;> simp [e]
 rcases hm with e | e | e | e <;> rw [e]
 ·exact Zcn a3 a1 hi
 ·exact Zcn b3 b1 hi
 ·exact Zcn c3 c1 hj
 ·exact Zcn d3 d1 hj
noncomputable def mfil {α:Type} (left:Bool) (i j n:Nat) (f:Nat->α) (d:α) (k:Nat):List α:=(List.range n).map λz=>if mvN (!left) i j z < k then f z else d
theorem Zbm {α:Type} (left:Bool) (i j n:Nat) (f:Nat->α) (d:α):mfil left i j n f d 0=List.replicate n d:=by
 unfold mfil
 apply List.ext_getElem?
 intro z
 rw [Ah,List.getElem?_replicate]
 by_cases h:z < n
 ·rw [List.getElem?_range h,if_pos h]; simp
 ·rw [Ay (by simpa using h),if_neg h]; rfl
theorem Zea {α:Type} (left:Bool) (i j n:Nat) (f:Nat->α) (d:α) (k:Nat):(mfil left i j n f d k).length=n:=by unfold mfil; simp
theorem Zbn {α:Type} {left:Bool} {i j n:Nat} {f:Nat->α} {d:α} {k:Nat} (h:i / 3≠j / 3) (hk:mvN left i j k < n):(mfil left i j n f d k).set (mvN left i j k) (f (mvN left i j k))=mfil left i j n f d (k + 1):=by
 apply List.ext_getElem?
 intro z
 unfold mfil
 by_cases c:z=mvN left i j k
 ·subst c
  rw [List.getElem?_set_self (by simpa using hk),Ah,List.getElem?_range hk]
  have e:mvN (!left) i j (mvN left i j k)=k:=X7 h left k
  simp only [Option.map_some]
  rw [e,if_pos (by omega)]
 ·rw [List.getElem?_set_ne (Ne.symm c),Ah,Ah]
  by_cases d:z < n
  ·rw [List.getElem?_range d]
   have ne:mvN (!left) i j z≠k:=λe=>c (by rw [<- e,Vv h])
   have:mvN (!left) i j z < k + 1 ↔ mvN (!left) i j z < k:=by omega
   simp only [Option.map_some,this]
  ·rw [Ay (by simpa using d)]
   rfl
theorem Zjb {α:Type} {left:Bool} {i j n:Nat} {f:Nat->α} {d:α} {k:Nat} (h:i / 3≠j / 3) (hd:f (mvN left i j k)=d):mfil left i j n f d k=mfil left i j n f d (k + 1):=by
 unfold mfil
 apply List.map_congr_left
 intro z _
 by_cases c:mvN (!left) i j z=k
 ·have:z=mvN left i j k:=by rw [<- c,Vv h]
  subst this
  rw [if_neg (by omega),if_pos (by omega),hd]
 ·have:mvN (!left) i j z < k + 1 ↔ mvN (!left) i j z < k:=by omega
  simp only [this]
theorem Zk7 {α:Type} {left:Bool} {i j m:Nat} {f:Nat->α} {d:α} (hi:i < 3 * m) (hj:j < 3 * m):mfil left i j (3 * m) f d (3 * m)=(List.range (3 * m)).map f:=by
 unfold mfil
 apply List.map_congr_left
 intro z hz
 rw [if_pos (Qa hi hj _ (List.mem_range.mp hz))]
noncomputable def side (p k:Nat):Nat:=p - p % 3 + (p + k) % 3
theorem Zmo {p k n:Nat} (h:p < 3 * n):side p k < 3 * n:=by unfold side; omega
theorem Zc7 (p k:Nat):side p k / 3=p / 3:=by unfold side; omega
noncomputable def Wl (M:List (Option Nat)) (p:Int):Bool:=decide (0<=p/\p < M.length) && (M.getD p.toNat none).isSome
noncomputable def Ji (M:List (Option Nat)) (a p:Int):Bool:=match M.getD a.toNat none with
 | some m=>decide (p / 3=(m:Int) / 3) && !decide (p=(m:Int))
 | none=>false
noncomputable def rot {α:Type} (ws:List α) (s:Nat):List α:=ws.drop s ++ ws.take s
noncomputable def J3 (M:List (Option Nat)) (ws vs:List Int):List Bool:=(ws.zip vs).map λp=>Ji M p.1 p.2
noncomputable def Jl (M:List (Option Nat)) (ws:List Int):Bool:=!ws.isEmpty && ((ws.map (Wl M)).all id && (J3 M ws (rot ws (1 % ws.length))).all id)
theorem Qi {α:Type} (ws:List α) {s:Nat} (h:s<=ws.length):(rot ws s).length=ws.length:=by
 unfold rot
 rw [Ae,List.length_drop,Ai]
 omega
theorem Zao {α:Type} {ws:List α} {s k:Nat} (hs:s < ws.length) (hk:k < ws.length):(rot ws s)[k]?=ws[(k + s) % ws.length]?:=by
 unfold rot
 by_cases c:k < ws.length - s
 ·rw [Av (by rw [List.length_drop]; exact c),List.getElem?_drop,Nat.mod_eq_of_lt (by omega),Nat.add_comm]
 ·rw [List.getElem?_append_right (by rw [List.length_drop]; omega),List.length_drop,List.getElem?_take_of_lt (by omega)]
  have:(k + s) % ws.length=k - (ws.length - s):=by
   rw [show k + s=(k - (ws.length - s)) + ws.length by omega,Nat.add_mod_right,Nat.mod_eq_of_lt (by omega)]
  rw [this]
structure Pl (M:List (Option Nat)) (ws:List Nat):Prop where
 ne:ws≠[]
 has:∀ p∈ws,∃ m,M[p]?=some (some m)
 nxt:∀ (k:Nat) (a p:Nat),ws[k]?=some a->ws[(k + 1) % ws.length]?=some p->∀ m,M[a]?=some (some m)->p / 3=m / 3/\p≠m
noncomputable abbrev wI (ws:List Nat):List Int:=ws.map λ(x:Nat)=>(x:Int)
theorem Zbu {M:List (Option Nat)} {p:Nat}:Wl M (p:Int)=true ↔ ∃ m,M[p]?=some (some m):=by
 unfold Wl
 rw [Bool.and_eq_true,decide_eq_true_eq,Int.toNat_natCast]
 constructor
 ·rintro ⟨⟨_,h1⟩,h2⟩
  have h1:p < M.length:=by omega
  rw [Ad,Ac h1] at h2
  obtain ⟨m,hm⟩:=Option.isSome_iff_exists.mp h2
  exact ⟨m,by rw [Ac h1]; exact congrArg some hm⟩
 ·rintro ⟨m,hm⟩
  have h1:p < M.length:=(Aa hm).1
  exact ⟨⟨by omega,by omega⟩,by rw [Ad,hm]; rfl⟩
theorem F6 {M:List (Option Nat)} {a p m:Nat} (h:M[a]?=some (some m)):Ji M (a:Int) (p:Int)=true ↔ p / 3=m / 3/\p≠m:=by
 unfold Ji
 rw [Int.toNat_natCast,Ad,h]
 show (decide ((p:Int) / 3=(m:Int) / 3) && !decide ((p:Int)=(m:Int)))=true ↔ _
 rw [Bool.and_eq_true,decide_eq_true_eq,Bool.not_eq_true',decide_eq_false_iff_not]
 omega
theorem Zfh {M:List (Option Nat)} {ws vs:List Int} (hl:ws.length=vs.length):(J3 M ws vs).all id=true ↔ ∀ (k:Nat) (a p:Int),ws[k]?=some a->vs[k]?=some p->Ji M a p=true:=by
 unfold J3
 rw [List.all_eq_true]
 constructor
 ·intro h k a p ha hp
  refine h (Ji M a p) (List.mem_map.mpr ⟨(a,p),?_,rfl⟩)
  exact Au (i:=k) (by rw [List.getElem?_zip_eq_some]; exact ⟨ha,hp⟩)
 ·intro h b hb
  obtain ⟨⟨a,p⟩,hm,rfl⟩:=List.mem_map.mp hb
  obtain ⟨k,hk⟩:=List.getElem?_of_mem hm
  rw [List.getElem?_zip_eq_some] at hk
  exact h k a p hk.1 hk.2
theorem Zbg {M:List (Option Nat)} {ws:List Nat}:Jl M (wI ws)=true ↔ Pl M ws:=by
 have hl:(wI ws).length=ws.length:=by simp
 unfold Jl
 rw [Bool.and_eq_true,Bool.and_eq_true,Bool.not_eq_true',hl]
 constructor
 ·rintro ⟨h0,h1,h2⟩
  have hne:ws≠[]:=by
   rintro rfl
   cases h0
  have hpos:0 < ws.length:=by cases ws with | nil=>exact absurd rfl hne | cons _ _=>simp
  have hh:∀ p∈ws,∃ m,M[p]?=some (some m):=λp hp=>by
   refine Zbu.mp (List.all_eq_true.mp h1 _ (List.mem_map.mpr ⟨(p:Int),List.mem_map.mpr ⟨p,hp,rfl⟩,rfl⟩))
  refine ⟨hne,hh,λk a p ha hp m hm=>?_⟩
  have hs:1 % ws.length < (wI ws).length:=by rw [hl]; exact Nat.mod_lt _ hpos
  have hk:k < (wI ws).length:=by rw [hl]; exact (Aa ha).1
  refine (F6 hm).mp ((Zfh (by rw [Qi _ (Nat.le_of_lt hs)])).mp h2 k a p (by rw [Ah,ha]; rfl) ?_)
  rw [Zao hs hk,hl,show (k + 1 % ws.length) % ws.length=(k + 1) % ws.length by rw [Nat.add_mod_mod],Ah,hp]
  rfl
 ·rintro ⟨h0,h1,h2⟩
  have hpos:0 < ws.length:=by cases ws with | nil=>exact absurd rfl h0 | cons _ _=>simp
  have hs:1 % ws.length < (wI ws).length:=by rw [hl]; exact Nat.mod_lt _ hpos
  refine ⟨by cases ws with | nil=>exact absurd rfl h0 | cons _ _=>rfl,?_,?_⟩
  ·rw [List.all_eq_true]
   intro b hb
   obtain ⟨p',hp',rfl⟩:=List.mem_map.mp hb
   obtain ⟨p,hp,rfl⟩:=List.mem_map.mp hp'
   exact Zbu.mpr (h1 p hp)
  ·refine (Zfh (by rw [Qi _ (Nat.le_of_lt hs)])).mpr λk a p ha hp=>?_
   have hk:k < (wI ws).length:=(Aa ha).1
   rw [Zao hs hk,hl,show (k + 1 % ws.length) % ws.length=(k + 1) % ws.length by rw [Nat.add_mod_mod]] at hp
   rw [Ah] at ha hp
   cases ea:ws[k]? with
   | none=>rw [ea] at ha; cases ha
   | some a' =>
    cases ep:ws[(k + 1) % ws.length]? with
    | none=>rw [ep] at hp; cases hp
    | some p' =>
     rw [ea] at ha; cases ha
     rw [ep] at hp; cases hp
     obtain ⟨m,hm⟩:=h1 a' (Au ea)
     exact (F6 hm).mpr (h2 k a' p' ea ep m hm)
structure Ch (M:List (Option Nat)) (row:List Nat):Prop where
 has:∀ p∈row,∃ m,M[p]?=some (some m)
 nxt:∀ (k:Nat) (a p m:Nat),row[k]?=some a->row[k + 1]?=some p->M[a]?=some (some m)->p / 3=m / 3/\p≠m
theorem Ch.one {M:List (Option Nat)} {p m:Nat} (h:M[p]?=some (some m)):Ch M [p]:=by
 refine ⟨λq hq=>?_,λk a q m' _ hq=>?_⟩
 ·rw [List.mem_singleton] at hq; subst hq; exact ⟨m,h⟩
 ·simp at hq
theorem Ch.snoc {M:List (Option Nat)} {row:List Nat} {a p m:Nat} (h:Ch M row) (hl:row.getLast?=some a) (hm:M[a]?=some (some m)) (h1:p / 3=m / 3) (h2:p≠m) (hp:∃ q,M[p]?=some (some q)):Ch M (row ++ [p]):=by
 refine ⟨λq hq=>?_,λk b q m' hb hq hm'=>?_⟩
 ·rcases List.mem_append.mp hq with z | z
  ·exact h.has q z
  ·rw [List.mem_singleton] at z; subst z; exact hp
 ·by_cases c:k + 1 < row.length
  ·rw [Av c] at hq
   rw [Av (by omega)] at hb
   exact h.nxt k b q m' hb hq hm'
  ·have hk:k + 1 < (row ++ [p]).length:=(Aa hq).1
   rw [Ae,At] at hk
   have hk:k + 1=row.length:=by omega
   rw [List.getElem?_append_right (by omega),hk] at hq
   have:q=p:=by simpa using hq.symm
   subst this
   rw [Av (by omega)] at hb
   rw [List.getLast?_eq_getElem?,show row.length - 1=k by omega,hb] at hl
   cases hl
   rw [hm] at hm'
   cases hm'
   exact ⟨h1,h2⟩
theorem Ch.cut {M:List (Option Nat)} {row:List Nat} {s e a:Nat} (h:Ch M row) (hse:s < e) (h1:row[s]?=some a) (h2:row[e]?=some a):Pl M ((row.drop s).take (e - s)):=by
 have he:e < row.length:=(Aa h2).1
 have hl:((row.drop s).take (e - s)).length=e - s:=by rw [Ai,List.length_drop]; omega
 have gt:∀ k,k < e - s->((row.drop s).take (e - s))[k]?=row[s + k]?:=λk hk=>by rw [List.getElem?_take_of_lt hk,List.getElem?_drop]
 refine ⟨λz=>by rw [z] at hl; simp at hl; omega,λp hp=>?_,λk b p hb hp m hm=>?_⟩
 ·exact h.has p (List.mem_of_mem_drop (List.mem_of_mem_take hp))
 ·rw [hl] at hp
  have hk:k < e - s:=by have:=(Aa hb).1; rw [hl] at this; exact this
  rw [gt k hk] at hb
  by_cases c:k + 1 < e - s
  ·rw [Nat.mod_eq_of_lt c,gt _ c] at hp
   exact h.nxt (s + k) b p m hb (by rw [show s + k + 1=s + (k + 1) by omega]; exact hp) hm
  ·have hk:k + 1=e - s:=by omega
   rw [hk,Nat.mod_self,gt 0 (by omega),Nat.add_zero,h1] at hp
   cases hp
   exact h.nxt (s + k) b a m hb (by rw [show s + k + 1=e by omega]; exact h2) hm
end KT
namespace L2
open PySem PySem.Spec PyProof.Rows
section
variable {X:Cx}
noncomputable def Zco (i j:Int):Prop:=0 < j/\j.natAbs.log2 < 9000
theorem Zd1:OpR X (binaryOp .FloorDiv) (rI Zco λi j=>.int (i / j)):=opI λi j _ _ _ _ _ hc q=>by
 have h1:(0:Int) < j:=hc.1
 exact floordiv_int (by omega) (by rw [Int.fdiv_eq_ediv_of_nonneg i (by omega)]; exact q) (.inl (PyProof.noPylong_of_log2 hc.2))
theorem Zfy:OpR X (binaryOp .Mult) (rI IntMulOk λi j=>.int (i * j)):=opI λ_ _ _ _ _ _ _ hc q=>mul_int q hc
theorem log2_lt {j:Int} {k:Nat} (h:j.natAbs < 2 ^ k) (hk:0 < k):j.natAbs.log2 < k:=by
 by_cases e:j.natAbs=0
 ·rw [e]; simpa using hk
 ·exact (Nat.log2_lt e).mpr h
theorem Zga {j:Int} {k:Nat} (h:j.natAbs < 2 ^ k) (hk:0 < k):Builtin.Int.intBits j<=k:=by
 unfold Builtin.Int.intBits
 have:=log2_lt h hk
 split
 ·omega
 ·omega
end
end L2
namespace HL
open PySem PyProof.Rows HT
end HL
namespace L2
open PySem PySem.Spec PyProof.Rows
end L2
namespace HT
end HT
namespace L2
open PySem PySem.Spec PyProof.Rows
section
variable {X:Cx} {pins:List (Addr × Obj)} {σ:St} {H:Hp} {s:Shared} {a:Addr} {y v:V} {u r:Value} {A:Around} {E:Value->Shared->Prop}
theorem Zp2 {kvs:List (Key × V)} {k:Key} {Q:Unit->Shared->Prop} (I:Inv X pins σ H s) (e:H a=some (.dK kvs)) (l:kvs.length < sizeLine) (ry:RelV (kV k) u) (rv:RelV v r) (h:∀ s',Inv X pins σ (upd H a (.dK (putK kvs k v))) s'->Q () s') :
  wpAny (model X.prog X.w) A (dictSet a u r) Q E s:=by
 obtain ⟨z,hd,vs,rel,dd⟩:=Zcm I.hok e
 have hz:vs.length<=sizeLine:=by rw [<- rel.length]; exact z
 have hl:(putK kvs k v).length<=sizeLine:=by have:=Jn kvs k v; omega
 refine wpAny_dictSet_pairs (hsz:=hz) (Q0 ry) dd λh' dd' hs=>h _ ?_
 have he:∃ q,h'.get? a=some q:=let ⟨q,_,_,hq,_⟩:=dd'; ⟨q,hq⟩
 exact U2 I (by rw [e]; exact True.intro) hs he (F7 hl hd (rel.put k rv) dd')
end
noncomputable def Zn2 (tk tv:TE) (D:Addr):TB:=λσ H N=>tk σ H λx H1=>tv σ H1 λv H2=>∃ kvs k,x=kV k/\H2 D=some (.dK kvs)/\kvs.length < sizeLine/\N σ (upd H2 D (.dK (putK kvs k v)))
section
variable {X:Cx}
theorem Ob {kx vx:Expr} {tk tv:TE} {D:Addr} {c:Code} {p:Pos} (hk:PE X kx tk) (hv:PE X vx tv) :
  PB X ((eval kx X.env >>= λkv=>holding [kv] (eval vx X.env) >>= λvv=>standAt p >>= λ_=>holding [kv,vv] (dictSet D kv vv)) >>= λ_=>again c) c (Zn2 tk tv D):=by
 intro pins s σ H N I h
 refine Al (Al (thn (hk pins s σ H _ I h) λu s1 zz35=>?_))
 obtain ⟨x,H1,I1,r1,q1⟩:=zz35
 refine Al (wpAny_holding (thn (hv pins s1 σ H1 _ I1 q1) λw s2 zz36=>?_))
 obtain ⟨v,H2,I2,r2,q2⟩:=zz36
 refine Al (wpAny_standAt (wpAny_holding ?_))
 obtain ⟨kvs,k,rfl,hD,hl,q⟩:=q2
 exact Zp2 I2 hD hl r1 r2 λs3 I3=>wpAny_pure ⟨rfl,σ,_,I3,q⟩
end
noncomputable def Zcv (ts:List Str) (fv:List (Str × Nat)) (wi:TI) (g:TG) (tt:TT) (tb:Addr->TB):TE:=λσ H Q=>wi σ H λJ H1=>∀ D,H1 D=none ->
 Jr J g tt (tb D) (λ_ H'=>Q (.ref D) H') (blkS ts fv σ) (upd H1 D (.dK []))
section
variable {X:Cx} {ts:List Str} {fv:List (Str × Nat)} {scope:Scope} {kx vx t0 i0:Expr} {f0:List Expr} {rest:List Comprehension} {pos:Pos} {wi:TI} {g:TG} {tt:TT} {tb:Addr->TB} {kont:Env->Addr->Addr->Sem Fin}
theorem F8 (B:BlkOk X scope fv) (hc:X.calm=true) (hi:PI X t0 i0 wi)
  (hg:∀ C s₀ H₀ ex,PG (Yd X (blkN ts fv) scope C s₀ H₀ ex) t0 g) (ht:∀ C s₀ H₀ ex,PTs (Yd X (blkN ts fv) scope C s₀ H₀ ex) f0 tt)
  (heq:∀ (env:Env) (it D:Addr),compTurn (.DictComp kx vx (⟨t0,i0,f0,0⟩ :: rest) scope pos) 0 (.ref it) (.ref D) env=(standAt i0.pos >>= λ_=>pyNext (.ref it) >>= λr=>match r with
   | none=>pure (.done .next)
   | some v=>letOwnedTupleGo t0 (.ref it) v >>= λ_=>assign t0 env v >>= λ_ =>
    (forIn f0 true λc r=>if r=true then do let ok <- isTrue c env (eval c env); pure (ForInStep.yield ok) else pure (ForInStep.yield r)) >>= λok =>
     if ok=true then kont env it D else again (.compLoop (.DictComp kx vx (⟨t0,i0,f0,0⟩ :: rest) scope pos) 0 (.ref it) (.ref D) env)))
  (hb:∀ C s₀ H₀ ex it D,PB (Yd X (blkN ts fv) scope C s₀ H₀ ex) (kont (Yd X (blkN ts fv) scope C s₀ H₀ ex).env it D) (.compLoop (.DictComp kx vx (⟨t0,i0,f0,0⟩ :: rest) scope pos) 0 (.ref it) (.ref D) (Yd X (blkN ts fv) scope C s₀ H₀ ex).env) (tb D))
  {pins:List (Addr × Obj)} {s:Shared} {σ:St} {H:Hp} {Q:VK} {RR:Value->Addr->Result->Shared->Prop} (I:Inv X pins σ H s) (h:Zcv ts fv wi g tt tb σ H Q)
  (hRR:∀ D C s' H',Inv X pins σ H' s'->H' C=none->X.s₀.heap.objs.size<=C->C≠X.env.locals->(∀ x c,X.env.cells.lookup x=some c->c≠C)->(∀ p∈X.pn ++ pins,p.1≠C)->(∃ m,s'.heap.Ns C m)->Q (.ref D) H'->RR (.ref D) C (.ok .next) s') :
  wpAny (model X.prog X.w) X.A (eval i0 X.env) (λx s₁=>wpAny (model X.prog X.w) X.A (pyIter x) (λit s₂=>wpAny (model X.prog X.w) X.A newDict (λacc s₃ =>
   wpAny (model X.prog X.w) X.A (newFunctionEnv scope X.env.globals (Y7 X.env scope.names []) [] X.env.qual none .none (some X.env)) (λcenv s₄ =>
    codeAny (model X.prog X.w) X.A (.compStart (.DictComp kx vx (⟨t0,i0,f0,0⟩ :: rest) scope pos) 0 it acc { cenv with scope:=relabel scope X.env }) (RR acc cenv.locals) s₄) X.xe s₃) X.xe s₂) X.xe s₁) X.xe s:=by
 refine thn (hi pins s σ H _ I h) λv s1 h1=>thn h1 λitv s2 h2=>?_
 obtain ⟨it,fp,tn,J,H2,e,I2,T,st2,f2,L⟩:=h2
 subst e
 have L:=L s2.heap.objs.size I2.fresh
 refine wpAny_newObj_type ?_
 have I3:Inv X pins σ (upd H2 s2.heap.objs.size (.dK [])) { s2 with heap:=s2.heap.push { cls:=.type "dict",data:=.dict #[] },toks:=s2.toks }:=I2.laid (a:=s2.heap.objs.size) (o:=.dK []) (t':=s2.toks) (λ_ _ q=>Ak _ q) (An _) (Oh s2.heap I2.big)
 have ho2:∀ b∈fp,∃ o,s2.heap.get? b=some o/\∀ v,o.data≠.cell v:=T.obj _ _ st2
 have f3:∀ b∈fp,FpOk X pins (upd H2 s2.heap.objs.size (.dK [])) b:=λb hb=>by
  obtain ⟨o,ho,_⟩:=ho2 b hb
  refine ⟨?_,(f2 b hb).2⟩
  rw [Zd (As (Ao ho))]
  exact (f2 b hb).1
 have st3:tn 0 (s2.heap.push { cls:=.type "dict",data:=.dict #[] }):=T.keep _ _ _ st2 λb _ o e=>Ak _ e
 have ho3:∀ b∈fp,∃ o,(s2.heap.push { cls:=.type "dict",data:=.dict #[] }).get? b=some o:=λb hb=>let ⟨o,e,_⟩:=ho2 b hb; ⟨o,Ak _ e⟩
 generalize hs3:({ s2 with heap:=s2.heap.push { cls:=.type "dict",data:=.dict #[] },toks:=s2.toks }:Shared)=s3 at I3
 have eh:s2.heap.push { cls:=.type "dict",data:=.dict #[] }=s3.heap:=by rw [<- hs3]
 rw [eh] at st3 ho3
 refine wpAny_newFunctionEnv B.nocell (by intro y hy; simp at hy) (λh₁ hns hsb=>?_) B.kind
 have hk:∀ b o,s3.heap.get? b=some o->h₁.get? b=some o:=λb o e=>hsb.extBut b o (As (Ao e)) (Ak _ e)
 have I4:=Zbx (ts:=ts) (tk:=s3.toks + ([]:List (Str × Value)).length) B I3 f3 ho3 hns hk
 have f4:∀ b∈fp,FpOk (Yd X (blkN ts fv) scope s3.heap.objs.size s3 (upd H2 s2.heap.objs.size (.dK [])) fp) [] (upd H2 s2.heap.objs.size (.dK [])) b:=λb hb=>by
  obtain ⟨f0,f1,f2',f3',f4',f5'⟩:=f3 b hb
  obtain ⟨o,eo⟩:=ho3 b hb
  exact ⟨f0,As (Ao eo),I4.ok.exfs b hb,.inl hb,(I4.ok.exf b hb).2,λp hp=>absurd (show p∈([]:List (Addr × Obj)) from hp) (by simp)⟩
 have st4:tn 0 h₁:=T.keep _ _ _ st3 λb _ o e=>hk b o e
 have loop:codeAny (model X.prog X.w) X.A (.compLoop (.DictComp kx vx (⟨t0,i0,f0,0⟩ :: rest) scope pos) 0 (.ref it) (.ref s2.heap.objs.size) (Yd X (blkN ts fv) scope s3.heap.objs.size s3 (upd H2 s2.heap.objs.size (.dK [])) fp).env)
   (RR (.ref s2.heap.objs.size) s3.heap.objs.size) { s3 with heap:=h₁,toks:=s3.toks + ([]:List (Str × Value)).length }:=by
  refine Kl (X:=Yd X (blkN ts fv) scope s3.heap.objs.size s3 (upd H2 s2.heap.objs.size (.dK [])) fp) (tg:=t0) (ifs:=f0) (R:=λ_ H'=>Q (.ref s2.heap.objs.size) H') rfl rfl rfl rfl (heq _ it s2.heap.objs.size) T hc (hg _ _ _ _) (ht _ _ _ _) (hb _ _ _ _ it s2.heap.objs.size) f4 I4 st4 L λs' σ' H' J' q=>?_
  obtain ⟨e1,e2,e3,e4,e5,e6⟩:=Zf9 I3 f3 (An _) J'
  obtain ⟨m,hm,_⟩:=J'.loc
  exact hRR _ _ s' H' e1 e2 e3 e4 e5 e6 ⟨m,hm⟩ q
 exact codeAny_compStart_dict loop (T.self _ _ _ _ _ st4 loop)
theorem Zbh (B:BlkOk X scope fv) (hc:X.calm=true) (hi:PI X t0 i0 wi)
  (hg:∀ C s₀ H₀ ex,PG (Yd X (blkN ts fv) scope C s₀ H₀ ex) t0 g) (ht:∀ C s₀ H₀ ex,PTs (Yd X (blkN ts fv) scope C s₀ H₀ ex) f0 tt)
  (heq:∀ (env:Env) (it D:Addr),compTurn (.DictComp kx vx (⟨t0,i0,f0,0⟩ :: rest) scope pos) 0 (.ref it) (.ref D) env=(standAt i0.pos >>= λ_=>pyNext (.ref it) >>= λr=>match r with
   | none=>pure (.done .next)
   | some v=>letOwnedTupleGo t0 (.ref it) v >>= λ_=>assign t0 env v >>= λ_ =>
    (forIn f0 true λc r=>if r=true then do let ok <- isTrue c env (eval c env); pure (ForInStep.yield ok) else pure (ForInStep.yield r)) >>= λok =>
     if ok=true then kont env it D else again (.compLoop (.DictComp kx vx (⟨t0,i0,f0,0⟩ :: rest) scope pos) 0 (.ref it) (.ref D) env)))
  (hb:∀ C s₀ H₀ ex it D,PB (Yd X (blkN ts fv) scope C s₀ H₀ ex) (kont (Yd X (blkN ts fv) scope C s₀ H₀ ex).env it D) (.compLoop (.DictComp kx vx (⟨t0,i0,f0,0⟩ :: rest) scope pos) 0 (.ref it) (.ref D) (Yd X (blkN ts fv) scope C s₀ H₀ ex).env) (tb D))
  (hs:∀ x,foldedSetIterable i0 X.env x=pure x:=by intro _; rfl) :
  PE X (.DictComp kx vx (⟨t0,i0,f0,0⟩ :: rest) scope pos) (Zcv ts fv wi g tt tb):=by
 intro pins s σ H Q I h
 show wpAny _ X.A (comprehension (.DictComp kx vx (⟨t0,i0,f0,0⟩ :: rest) scope pos) scope X.env _ newDict false (eval i0 X.env)) _ _ s
 refine wpAny_comprehension_free (use:=none) rfl hs (Q2 λy hy e=>I.ok.has y.1 (B.free y hy e)) B.kind B.names ?_
 refine F8 (RR:=λacc C=>compPost (model X.prog X.w) X.A X.xe none (EP X pins σ Q) acc C) B hc hi hg ht heq hb I h λD C s' H' I' e2 e3 e4 e5 e6 hm q=>?_
 obtain ⟨m,hm⟩:=hm
 exact ⟨m,hm,λh' hs'=>⟨.ref D,H',I'.apart hs' e2 e3 e4 e5 e6,rfl,q⟩⟩
theorem Kd {i:Nat} {y:Str} {py spos:Pos} (B:BlkOk X scope fv) (hc:X.calm=true) (hN:X.N.Nodup) (hiy:X.N[i]?=some y) (hyl:X.env.scope.names.lookup y=some .local)
  (hsw:swapsWith (.DictComp kx vx (⟨t0,i0,f0,0⟩ :: rest) scope pos) (some (.Name y py)) spos.line X.env=pure true) (hi:PI X t0 i0 wi)
  (hg:∀ C s₀ H₀ ex,PG (Yd X (blkN ts fv) scope C s₀ H₀ ex) t0 g) (ht:∀ C s₀ H₀ ex,PTs (Yd X (blkN ts fv) scope C s₀ H₀ ex) f0 tt)
  (heq:∀ (env:Env) (it D:Addr),compTurn (.DictComp kx vx (⟨t0,i0,f0,0⟩ :: rest) scope pos) 0 (.ref it) (.ref D) env=(standAt i0.pos >>= λ_=>pyNext (.ref it) >>= λr=>match r with
   | none=>pure (.done .next)
   | some v=>letOwnedTupleGo t0 (.ref it) v >>= λ_=>assign t0 env v >>= λ_ =>
    (forIn f0 true λc r=>if r=true then do let ok <- isTrue c env (eval c env); pure (ForInStep.yield ok) else pure (ForInStep.yield r)) >>= λok =>
     if ok=true then kont env it D else again (.compLoop (.DictComp kx vx (⟨t0,i0,f0,0⟩ :: rest) scope pos) 0 (.ref it) (.ref D) env)))
  (hb:∀ C s₀ H₀ ex it D,PB (Yd X (blkN ts fv) scope C s₀ H₀ ex) (kont (Yd X (blkN ts fv) scope C s₀ H₀ ex).env it D) (.compLoop (.DictComp kx vx (⟨t0,i0,f0,0⟩ :: rest) scope pos) 0 (.ref it) (.ref D) (Yd X (blkN ts fv) scope C s₀ H₀ ex).env) (tb D))
  (hs:∀ x,foldedSetIterable i0 X.env x=pure x:=by intro _; rfl) :
  PS X (.Assign [.Name y py] (.DictComp kx vx (⟨t0,i0,f0,0⟩ :: rest) scope pos) spos) (tAsg (Zcv ts fv wi g tt tb) (Zs i)):=by
 intro pins s σ H D0 I h
 rw [exec_Assign_Name_used _ _ _ _ hsw]
 refine Al (wpAny_standAt (Al ?_))
 show wpAny _ X.A (do let _ <- comprehension (.DictComp kx vx (⟨t0,i0,f0,0⟩ :: rest) scope pos) scope X.env _ newDict false (eval i0 X.env) (some (assign (.Name y py) X.env))) _ _ s
 refine Al (wpAny_mono (wpAny_comprehension_free (use:=some (assign (.Name y py) X.env)) (Q:=λ_ s'=>SP X pins D0 .next s') rfl hs (Q2 λy hy e=>I.ok.has y.1 (B.free y hy e)) B.kind B.names ?_) (λ_ s' hq=>wpAny_pure (wpAny_pure hq)) λ_ _ e=>e)
 refine F8 (Q:=λx H1=>Zs i x σ H1 D0.nx) (RR:=λacc C=>compPost (model X.prog X.w) X.A X.xe (some (assign (.Name y py) X.env)) (λ_ s'=>SP X pins D0 .next s') acc C) B hc hi hg ht heq hb I h λD C s' H' I' e2 e3 e4 e5 e6 hm q=>?_
 obtain ⟨m,hm⟩:=hm
 show wpAny _ X.A (assign (.Name y py) X.env (.ref D)) _ _ _
 refine wpAny_assign_Name (Oy I' hN hiy (.inl hyl) (show RelV (.ref D) (.ref D) from rfl) (λs'' I'' hch=>?_) (.inr hyl))
 obtain ⟨a,hsb,ha⟩:=hch
 have haC:C≠a:=by
  rcases ha with e | e
  ·rw [e]; exact e4
  ·exact λz=>e5 y a e z.symm
 exact ⟨m,hm.sameBut hsb haC,λh' hs'=>⟨_,H',I''.apart hs' e2 e3 e4 e5 e6,q⟩⟩
end
section
variable {X:Cx} {pins:List (Addr × Obj)} {σ:St} {H:Hp} {s:Shared} {a:Addr}
theorem Inv.thaw {kvs:List (Key × V)} {ob:Obj} (I:Inv X pins σ H s) (e:H a=some (.frz ob (.dK kvs))) (h0:∀ o u,X.H₀ a≠some (.frz o u)):Inv X pins σ (upd H a (.dK kvs)) s:=by
 have nown:∀ c y,H c=some (.own y)->c≠a:=λc y r z=>by subst z; rw [r] at e; cases e
 have ntup:∀ c xs,H c=some (.tup xs)->c≠a:=λc xs r z=>by subst z; rw [r] at e; cases e
 have nnon:∀ c,H c=none->c≠a:=λc r z=>by subst z; rw [r] at e; cases e
 have hok:HOk X.prog X.w (upd H a (.dK kvs)) s.heap:=λb v q=>by
  have st:∀ c w',Yj X.prog X.w H s.heap c w'->Yj X.prog X.w (upd H a (.dK kvs)) s.heap c w':=λc w' x=>x.stay (λ_ _ _ q=>q) (λd r=>by rw [Zd (nown d c r)]; exact r) λd xs r=>by rw [Zd (ntup d xs r)]; exact r
  by_cases hb:b=a
  ·subst hb
   rw [Zc] at q
   cases q
   exact st _ _ (I.hok _ _ e).2
  ·rw [Zd hb] at q
   exact st _ _ (I.hok b v q)
 refine ⟨I.ok,I.os,I.bare,⟨I.base.keep,I.base.slot,λb o q n hx=>?_,I.base.there,λb xs q=>?_,λb o u q=>?_,λb ps q=>?_⟩,I.loc,I.cell,?_,λx c q=>?_,λp hp=>?_,hok,I.len⟩
 ·have:=I.base.free b o q n hx
  rw [Zd (nnon b this)]; exact this
 ·have:=I.base.tups b xs q
  rw [Zd (ntup b xs this)]; exact this
 ·have:=I.base.frzs b o u q
  rw [Zd (λz=>by subst z; exact h0 _ _ q)]; exact this
 ·obtain ⟨more,z⟩:=I.base.tbls b ps q
  exact ⟨more,by rw [Zd (λw=>by subst w; rw [z] at e; cases e)]; exact z⟩
 ·have:=I.free
  rw [Zd (nnon _ this)]; exact this
 ·have:=I.freeC x c q
  rw [Zd (nnon _ this)]; exact this
 ·obtain ⟨q1,q2,q3⟩:=I.pin p hp
  exact ⟨q1,by rw [Zd (nnon _ q2)]; exact q2,q3⟩
end
noncomputable def Zo2 (H0:Hp) (t:TS):TS:=λD σ H=>t { D with nx:=λσ' H'=>∃ (a:Addr) (o:Obj) (kvs:List (Key × V)),H' a=some (.frz o (.dK kvs))/\(∀ o u,H0 a≠some (.frz o u))/\D.nx σ' (upd H' a (.dK kvs)) } σ H
theorem Ur {X:Cx} {st:Stmt} {t:TS} (h:PS X st t):PS X st (Zo2 X.H₀ t):=by
 intro pins s σ H D I hw
 refine wpAny_mono (h pins s σ H _ I hw) (λf s' q=>?_) λ_ _ e=>e
 cases f with
 | next =>
  obtain ⟨σ',H',I',a,o,kvs,e,h0,q⟩:=q
  exact ⟨σ',_,I'.thaw e h0,q⟩
 | ret v=>exact q
 | brk=>exact q
 | cont=>exact q
section
variable {X:Cx}
theorem G9 {ys:List Str}:∀ {us:List Value},Vals (ys.map V.str) us->StrsAre us ys:=by
 induction ys with
 | nil=>intro us r; rw [List.map_nil] at r; cases r; exact .nil
 | cons y ys ih =>
  intro us r
  rw [List.map_cons] at r
  cases r with
  | cons r1 r2 =>
   obtain ⟨t,e⟩:=r1
   subst e
   exact .cons y t (ih r2)
noncomputable def Zpj (K:W.Frag):V->List V->Hp->VK->Prop:=λo xs H Q=>∃ sep p ys,o=.str sep/\xs=[.ref p]/\SqL K H p (List.map V.str ys)/\sep.length<=16/\(ys.map (·.length)).sum + ys.length<=1048576/\Q (.str (Txt.join sep ys)) H
theorem Zm8:MtR X "str.join" (Zpj X.K):=by
 intro pins s σ H x xs v us Q I rx rs h
 obtain ⟨sep,p,ys,rfl,rfl,hq,h1,h2,q⟩:=h
 obtain ⟨t,rfl⟩:=rx
 obtain ⟨u,rfl,ru⟩:=Wo rs
 cases ru
 obtain ⟨its,rv,pl,_⟩:=I.list hq
 exact join_listW pl.isList (by simpa using G9 rv) h1 h2 λt' k=>⟨.str _,H,I.tok _,⟨_,rfl⟩,q⟩
end
end L2
namespace KT
open PySem L2
noncomputable def aftN (i:Nat):Nat:=if i % 3=2 then i - 2 else i + 1
noncomputable def nxC (M:List (Option Nat)) (c:Nat):Option Nat:=(M[aftN c]?).join
end KT
namespace L2
open PySem PySem.Spec PyProof.Rows
section
variable {X:Cx} {xl:Value->Shared->Prop} {R0:Value->St->Hp->Prop}
noncomputable def PSL (X:Cx) (xl:Value->Shared->Prop) (R0:Value->St->Hp->Prop) (st:Stmt) (t:TSX):Prop :=
 ∀ (pins:List (Addr × Obj)) (s:Shared) (σ:St) (H:Hp) (D:Ends),Inv X pins σ H s->t D R0 σ H->wpAny (model X.prog X.w) X.A (exec st X.env) (SP X pins D) xl s
noncomputable def PSsL (X:Cx) (xl:Value->Shared->Prop) (R0:Value->St->Hp->Prop) (st:List Stmt) (t:TSX):Prop :=
 ∀ (pins:List (Addr × Obj)) (s:Shared) (σ:St) (H:Hp) (D:Ends),Inv X pins σ H s->t D R0 σ H->wpAny (model X.prog X.w) X.A (execs st X.env) (SP X pins D) xl s
structure LV (X:Cx) (xl:Value->Shared->Prop) (R0:Value->St->Hp->Prop):Prop where
 lv:∀ (pins:List (Addr × Obj)) (ev:Value) (s':Shared),XS true X pins R0 ev s'->xl ev s'
 po:PassesOwn (model X.prog X.w) X.A X.env xl
theorem Wj {st:Stmt} {t:TSX} (L:LV X xl R0) (h:PSX true X st t):PSL X xl R0 st t:=λpins s σ H D I q =>
 wpAny_mono (h pins s σ H D R0 I q) (λ_ _ z=>z) λev s' z=>L.lv pins ev s' z
theorem Xw {st:Stmt} {rest:List Stmt} {t u:TSX} (h1:PSL X xl R0 st t) (h2:PSsL X xl R0 rest u):PSsL X xl R0 (st :: rest) (Zgf t u):=by
 intro pins s σ H D I h
 refine wpAny_execs_cons (thn (h1 pins s σ H { D with nx:=u D R0 } I h) λf s1 q=>?_)
 cases f with
 | next =>
  obtain ⟨σ',H',I',q⟩:=q
  exact h2 pins s1 σ' H' D I' q
 | ret v=>exact q
 | brk=>exact q
 | cont=>exact q
theorem Qk {st:Stmt} {t:TSX} (h1:PSL X xl R0 st t):PSsL X xl R0 [st] t:=by
 intro pins s σ H D I h
 refine wpAny_execs_cons (thn (h1 pins s σ H D I h) λf s1 q=>?_)
 cases f with
 | next=>exact wpAny_execs_nil q
 | ret v=>exact q
 | brk=>exact q
 | cont=>exact q
noncomputable def Zo9 (wi:TI) (g:TG) (tb:TSX):TSX:=λD R σ H=>tFor wi g (λD' σ' H'=>tb D' R σ' H') D σ H
theorem thnF {α:Type} {m:Sem α} {Q Q':α->Shared->Prop} {s:Shared} (hx:X.xe=(λ_ _=>False)) (h:wpAny (model X.prog X.w) X.A m Q X.xe s) (k:∀ a s1,Q a s1->Q' a s1):wpAny (model X.prog X.w) X.A m Q' xl s:=by
 rw [hx] at h
 exact wpAny_mono h k λ_ _ z=>z.elim
theorem Zar {tg iter:Expr} {body:List Stmt} {wi:TI} {g:TG} {tb:TSX} {pos:Pos} (L:LV X xl R0) (hc:X.calm=true) (hi:PI X tg iter wi) (hg:PG X tg g) (hb:PSsL X xl R0 body tb)
  (hx:X.xe=(λ_ _=>False):=by rfl) (hs:∀ x,foldedSetIterable iter X.env x=pure x:=by intro _; rfl):PSL X xl R0 (.For tg iter body [] pos) (Zo9 wi g tb):=by
 intro pins s σ H D I h
 have hp:=L.po
 refine wpAny_For (thnF hx (hi pins s σ H _ I h) λv s1 h1=>thnF hx h1 λitv s2 h2=>?_) hs
 obtain ⟨it,fp,tn,J,H2,e,I2,T,st2,f2,W,⟨m0,w0⟩,turn⟩:=h2
 subst e
 have stat:∀ {H':Hp},(∀ b∈fp,H' b=none)->∀ b∈fp,FpOk X pins H' b:=λhn b hb=>⟨hn b hb,(f2 b hb).2⟩
 refine codeAny_forLoop_any (λn s'=>∃ i σ' H',Inv X pins σ' H' s'/\tn i s'.heap/\(∀ b∈fp,H' b=none)/\W i n σ' H') ?_ m0 ⟨0,σ,H2,I2,st2,λb hb=>(f2 b hb).1,w0⟩
 rintro n s3 ⟨i,σ3,H3,I3,st3,fr3,w3⟩
 rcases turn i n σ3 H3 w3 with ⟨stop,qn⟩ | ⟨go,N,hN,step⟩
 ·refine wpAny_passesOwn hp (thn (T.done X rfl rfl rfl hc i pins s3 σ3 H3 xl I3 (stat fr3) st3 stop) λr s4 ⟨hr,I4⟩=>?_)
  subst hr
  exact wpAny_execs_nil ⟨σ3,H3,I4,qn⟩
 ·refine wpAny_passesOwn hp (thn (T.item X rfl rfl rfl hc i pins s3 σ3 H3 xl I3 (stat fr3) st3 go) λr s4 ⟨u,hr,h4⟩=>?_)
  subst hr
  refine wpAny_passesOwn hp (thn h4 λ_ s5 zz9=>?_)
  obtain ⟨x,H5,I5,r5,y5,st5,fr5⟩:=zz9
  have I5':=I5.pinned (stat fr5) (T.obj _ _ st5)
  refine wpAny_passesOwn hp (thnF hx (hg _ s5 σ3 H5 x u _ I5' r5 (step x H5 y5)) λ_ s6 zz9=>?_)
  obtain ⟨σ6,H6,I6,q6⟩:=zz9
  refine wpAny_passesOwn hp (thn (hb _ s6 σ6 H6 _ I6 q6) λf s7 q7=>?_)
  have again:∀ {σ7:St} {H7:Hp},Inv X (pins ++ Ut fp s5.heap) σ7 H7 s7->N σ7 H7->∃ m,m < n/\∃ i σ' H',Inv X pins σ' H' s7/\tn i s7.heap/\(∀ b∈fp,H' b=none)/\W i m σ' H':=λ{σ7 H7} I7 n7=>by
   obtain ⟨m',hm,w7⟩:=hN σ7 H7 n7
   refine ⟨m',hm,i + 1,σ7,H7,I7.unpinned,T.keep _ _ _ st5 λb hb o e=>(I7.pin (b,o) (List.mem_append_right _ (List.mem_append_right _ (Jf hb e)))).1,λb hb=>?_,w7⟩
   obtain ⟨o,e,d⟩:=T.obj _ _ st5 b hb
   exact (I7.pin (b,o) (List.mem_append_right _ (List.mem_append_right _ (Jf hb e)))).2.1
  cases f with
  | next=>obtain ⟨σ7,H7,I7,n7⟩:=q7; exact again I7 n7
  | cont=>obtain ⟨σ7,H7,I7,n7⟩:=q7; exact again I7 n7
  | brk=>obtain ⟨σ7,H7,I7,q7⟩:=q7; exact ⟨σ7,H7,I7.unpinned,q7⟩
  | ret v=>obtain ⟨x7,σ7,H7,I7,r7,q7⟩:=q7; exact ⟨x7,σ7,H7,I7.unpinned,r7,q7⟩
end
section
variable {P:Program} {w:World} {K:W.Frag} {mg:Str->Option Value} {base:Heap}
theorem Fun.okL {x qual:Str} {st:Stmt} {f:Addr} {fd:FuncData} {N ps:List Str} {k:Nat} {sp:Sp} (F:Fun K x qual st f fd) (S:FnScope N ps (Zg st)) (len:∀ vs H Q E,sp vs H Q E->vs.length=ps.length)
  (hbody:∀ (cdv:Value) (A:Around) (outer:List Env) (s:Shared) (H:Hp) (vs:List V) (Q:VK) (E:XK),Room k (A.deeper (envOfC qual (Zg st) s.heap.objs.size f cdv))->sp vs H Q E ->
   ∃ t,(∀ xl,LV (cxOf (CXr P w) P w K mg base N qual (Zg st) f cdv A outer s H E).nox xl (λcls _ H'=>E cls none H')->PSsL (cxOf (CXr P w) P w K mg base N qual (Zg st) f cdv A outer s H E).nox xl (λcls _ H'=>E cls none H') (Yq st) t)/\t { nx:=λ_ H'=>Q .non H',rt:=Q } (λcls _ H'=>E cls none H') (start N vs) H):FnOk P w K mg base (CXr P w) (k + 1) f fd ps sp:=by
 obtain ⟨oc,od,kV,doc,pm,an,cdv,ct,osl,rfl,lk,hcd⟩:=F.ex
 refine Zhb lk hcd S len λA outer s H vs Q E hr hsp=>?_
 obtain ⟨t,h,q⟩:=hbody cdv A outer s H vs Q E hr hsp
 refine ⟨λD σ H'=>t D (λcls _ H''=>E cls none H'') σ H',λpins s' σ' H' D I hD=>?_,q⟩
 refine wpAny_mono (h _ ⟨λpins ev s'' z=>Zed (fr:=true) ?_,PassesOwn.leaving⟩ pins s' σ' H' D (I.wish _) hD) (λ_ _ z=>z.unwish) λev s'' z=>z
 obtain ⟨e,T,cls,a0,σ2,H2,h1,h2,h3,h4,h5,h7,h6⟩:=z
 exact ⟨e,T,cls,a0,σ2,H2,h1,h2.pins_of (λp hp=>absurd hp (by simp)),h3,h4.none,λt ht=>(h5 t ht).none,h7,h6⟩
end
section
variable {P:Program} {w:World} {K:W.Frag} {mg:Str->Option Value} {base:Heap} {x qual:Str} {st:Stmt} {f:Addr} {fd:FuncData} {N ps:List Str} {k:Nat} {sp:Sp}
theorem Fun.aR (F:Fun K x qual st f fd) (S:FnScope N ps (Zg st))
  (hbody:∀ (cdv:Value) (A:Around) (outer:List Env) (s:Shared) (H:Hp) (vs:List V) (Q:VK) (E:XK),Room k (A.deeper (envOfC qual (Zg st) s.heap.objs.size f cdv))->sp vs H Q E ->
   ∃ t,PSs (cxOf (CXr P w) P w K mg base N qual (Zg st) f cdv A outer s H E).nox (Yq st) t/\t { nx:=λ_ H'=>Q .non H',rt:=Q } (start N vs) H)
  (len:∀ vs H Q E,sp vs H Q E->vs.length=ps.length:=by (intro vs H Q E h; (repeat obtain ⟨_,h⟩:=h); subst_vars; rfl)):FnOk P w K mg base (CXr P w) (k + 1) f fd ps sp:=F.okR S len hbody
theorem Fun.aX (F:Fun K x qual st f fd) (S:FnScope N ps (Zg st))
  (hbody:∀ (cdv:Value) (A:Around) (outer:List Env) (s:Shared) (H:Hp) (vs:List V) (Q:VK) (E:XK),Room k (A.deeper (envOfC qual (Zg st) s.heap.objs.size f cdv))->sp vs H Q E ->
   ∃ t,PSsX true (cxOf (CXr P w) P w K mg base N qual (Zg st) f cdv A outer s H E).nox (Yq st) t/\t { nx:=λ_ H'=>Q .non H',rt:=Q } (λcls _ H'=>E cls none H') (start N vs) H)
  (len:∀ vs H Q E,sp vs H Q E->vs.length=ps.length:=by (intro vs H Q E h; (repeat obtain ⟨_,h⟩:=h); subst_vars; rfl)):FnOk P w K mg base (CXr P w) (k + 1) f fd ps sp:=F.okX S len hbody
end
section
variable {X:Cx}
theorem Zce (K:W.Frag) (h:X.K=K:=by rfl):OpR X (compareOp .NotIn) (rIn K true):=h ▸ Kf
end
end L2
namespace L2
open PySem PySem.Spec PyProof.Rows PySem.SeqAt
end L2
namespace KT
open PySem L2
theorem Vy {P:Nat->Bool}:∀ (l:List Nat) (k h:Nat),(l.filter P)[k]?=some h->∃ l1 l2,l=l1 ++ h :: l2/\P h=true/\(l1.filter P).length=k
 | [],k,h,e=>by simp at e
 | x :: r,k,h,e=>by
  by_cases c:P x=true
  ·rw [List.filter_cons_of_pos c] at e
   cases k with
   | zero=>cases e; exact ⟨[],r,rfl,c,rfl⟩
   | succ k =>
    obtain ⟨l1,l2,e1,e2,e3⟩:=Vy r k h e
    exact ⟨x :: l1,l2,by rw [e1]; rfl,e2,by rw [List.filter_cons_of_pos c,List.length_cons,e3]⟩
  ·rw [List.filter_cons_of_neg c] at e
   obtain ⟨l1,l2,e1,e2,e3⟩:=Vy r k h e
   exact ⟨x :: l1,l2,by rw [e1]; rfl,e2,by rw [List.filter_cons_of_neg c,e3]⟩
theorem Zl1 (a:Nat):¬ (a:Int)=after a:=by have:=Yw a; omega
theorem Zl0 (a:Nat):¬ (a:Int)=Zt a:=by have:=Yn a; omega
theorem Fx {a b:Nat} (h:a / 3≠b / 3):¬ (a:Int)=after b:=by have:=(Yw b).1; omega
theorem Fw {a b:Nat} (h:a / 3≠b / 3):¬ (a:Int)=Zt b:=by have:=(Yn b).1; omega
theorem Zd8 {left:Bool} {a b z:Nat} (h:z / 3=a / 3\/z / 3=b / 3):mvN left a b z / 3=a / 3\/mvN left a b z / 3=b / 3:=by
 have e:=Qb left a b z
 rcases Gz left a b z with c | c | c | c | c <;> rw [c] at e
 ·rw [Km e rfl]; exact h
 ·exact .inl (Km e (Yw a).1)
 ·exact .inl (Km e (Yn a).1)
 ·exact .inr (Km e (Yw b).1)
 ·exact .inr (Km e (Yn b).1)
theorem Zi8 {left:Bool} {a b z:Nat} (h1:z / 3≠a / 3) (h2:z / 3≠b / 3):mvN left a b z=z:=by
 have:mvI left a b z=z:=by
  unfold mvI
  rw [if_neg (Fx h1),if_neg (Fw h2),if_neg (Fx h2),if_neg (Fw h1)]
 unfold mvN
 rw [this]
 exact Int.toNat_natCast z
noncomputable def Xp (a b q:Nat):Bool:=!decide (q=a) && !decide (q=b)
noncomputable def Xo (a b:Nat) (ws:List Nat):List Nat:=ws.filter (Xp a b)
noncomputable def mtN (M:List (Option Nat)) (h:Nat):Nat:=(M.getD h none).getD 0
noncomputable def Q7 (a b e f:Nat):List Nat:=if e / 3=f / 3 then [] else [a,b].filter λq=>decide (q / 3=e / 3)
noncomputable def Jk (M:List (Option Nat)) (left:Bool) (a b h f:Nat):List Nat:=mvN left a b h :: Q7 a b (mvN left a b (mtN M h)) (mvN left a b f)
noncomputable def Y3 (ks:List Nat):List (Nat × Nat):=ks.zip (rot ks (1 % ks.length))
noncomputable def Y5 (M:List (Option Nat)) (left:Bool) (a b:Nat) (ps:List (Nat × Nat)):List Nat:=(ps.map λq=>Jk M left a b q.1 q.2).flatten
theorem F9 (a b e f:Nat):(Q7 a b e f).length<=2:=by
 unfold Q7
 split
 ·exact Az _
 ·exact List.length_filter_le _ _
theorem Kc (M:List (Option Nat)) (left:Bool) (a b:Nat):∀ ps:List (Nat × Nat),(Y5 M left a b ps).length<=3 * ps.length
 | []=>An _
 | q :: r=>by
  have ih:=Kc M left a b r
  have h1:=F9 a b (mvN left a b (mtN M q.1)) (mvN left a b q.2)
  have e:Y5 M left a b (q :: r)=Jk M left a b q.1 q.2 ++ Y5 M left a b r:=rfl
  rw [e,Ae]
  unfold Jk
  rw [List.length_cons,List.length_cons]
  omega
theorem Zgt {M:List (Option Nat)} {left:Bool} {a b i h f:Nat} {ps:List (Nat × Nat)} (hq:ps[i]?=some (h,f)):Y5 M left a b (ps.take (i + 1))=Y5 M left a b (ps.take i) ++ Jk M left a b h f:=by
 unfold Y5
 rw [Aw,hq,Aj,List.flatten_append]
 simp
theorem Zix (ks:List Nat):(Y3 ks).length=ks.length:=by
 unfold Y3
 by_cases z:ks.length=0
 ·have:ks=[]:=List.length_eq_zero_iff.mp z
  subst this; rfl
 ·rw [List.length_zip,Qi _ (Nat.le_of_lt (Nat.mod_lt _ (by omega))),Nat.min_self]
theorem Zjx {a b e f:Nat} (hab:a / 3≠b / 3) (hne:e / 3≠f / 3) (he:e / 3=a / 3\/e / 3=b / 3):Q7 a b e f=[if a / 3=e / 3 then a else b]:=by
 unfold Q7
 rw [if_neg hne]
 rcases he with he | he
 ·rw [if_pos he.symm,List.filter_cons_of_pos (by simp [he]),List.filter_cons_of_neg (by simp only [decide_eq_true_eq]; omega)]
  rfl
 ·rw [if_neg (by omega),List.filter_cons_of_neg (by simp only [decide_eq_true_eq]; omega),List.filter_cons_of_pos (by simp [he])]
  rfl
theorem Zih {ws:List Nat} {j i:Nat} (hj:j < ws.length) (hi:i < ws.length):(rot ws (j + 1))[i]?=ws[(i + (j + 1)) % ws.length]?:=by
 by_cases z:j + 1 < ws.length
 ·exact Zao z hi
 ·have e:j + 1=ws.length:=by omega
  rw [e,Nat.add_mod_right,Nat.mod_eq_of_lt hi]
  unfold rot
  rw [List.drop_length,List.take_length,List.nil_append]
theorem Zfd {P:Nat->Bool} {l:List Nat} {k h:Nat} (hk:(l.filter P)[k]?=some h):∃ j,l[j]?=some h/\P h=true/\(l.filter P)[(k + 1) % (l.filter P).length]?=((rot l (j + 1)).filter P)[0]?:=by
 obtain ⟨l1,l2,e,hh,hl⟩:=Vy l k h hk
 subst e
 refine ⟨l1.length,by rw [List.getElem?_append_right (An _),Nat.sub_self]; rfl,hh,?_⟩
 have er:rot (l1 ++ h :: l2) (l1.length + 1)=l2 ++ (l1 ++ [h]):=by
  unfold rot
  have e:l1 ++ h :: l2=(l1 ++ [h]) ++ l2:=by simp
  rw [e,show l1.length + 1=(l1 ++ [h]).length by simp,List.drop_left,List.take_left]
 rw [er]
 have ef:(l1 ++ h :: l2).filter P=l1.filter P ++ h :: l2.filter P:=by rw [List.filter_append,List.filter_cons_of_pos hh]
 rw [ef,List.filter_append,List.filter_append,List.filter_cons_of_pos hh]
 cases e2:l2.filter P with
 | cons q r =>
  rw [Nat.mod_eq_of_lt (by simp; omega),List.getElem?_append_right (by omega),show k + 1 - (l1.filter P).length=1 by omega]
  rfl
 | nil =>
  rw [show (l1.filter P ++ [h]).length=k + 1 by simp [hl],Nat.mod_self]
  rfl
noncomputable def CH (R:Nat->Nat->Prop) (l:List Nat):Prop:=∀ (k u v:Nat),l[k]?=some u->l[k + 1]?=some v->R u v
theorem CH.app {R:Nat->Nat->Prop} {l r:List Nat} {x:Nat} (h1:CH R (l ++ [x])) (h2:CH R (x :: r)):CH R (l ++ x :: r):=by
 intro k u v hu hv
 by_cases z:k + 1<=l.length
 ·refine h1 k u v ?_ ?_
  ·rw [Av (by omega)] at hu ⊢; exact hu
  ·by_cases z2:k + 1 < l.length
   ·rw [Av z2] at hv ⊢; exact hv
   ·rw [List.getElem?_append_right (by omega),show k + 1 - l.length=0 by omega] at hv ⊢
    exact hv
 ·refine h2 (k - l.length) u v ?_ ?_
  ·rw [List.getElem?_append_right (by omega)] at hu; exact hu
  ·rw [List.getElem?_append_right (by omega),show k + 1 - l.length=k - l.length + 1 by omega] at hv; exact hv
noncomputable def Nx (M:List (Option Nat)) (u v:Nat):Prop:=∃ m,M[u]?=some (some m)/\v / 3=m / 3/\v≠m
theorem Pl.chain {M:List (Option Nat)} {x:Nat} {t:List Nat} (h:CH (Nx M) (x :: t ++ [x])):Pl M (x :: t):=by
 have hl:(x :: t).length=t.length + 1:=rfl
 refine ⟨List.cons_ne_nil _ _,λp hp=>?_,λk u p hu hp m hm=>?_⟩
 ·obtain ⟨k,hk,e⟩:=List.mem_iff_getElem.mp hp
  have e1:(x :: t ++ [x])[k]?=some p:=by rw [Av hk,Ac hk,e]
  have hk2:k + 1 < (x :: t ++ [x]).length:=by rw [Ae,At]; omega
  obtain ⟨m,hm,_⟩:=h k p _ e1 (Ac hk2)
  exact ⟨m,hm⟩
 ·have hk:=(Aa hu).1
  have e1:(x :: t ++ [x])[k]?=some u:=by rw [Av hk]; exact hu
  have e2:(x :: t ++ [x])[k + 1]?=some p:=by
   by_cases z:k + 1 < (x :: t).length
   ·rw [Nat.mod_eq_of_lt z] at hp
    rw [Av z]; exact hp
   ·have e:k + 1=(x :: t).length:=by omega
    rw [e,Nat.mod_self] at hp
    rw [e,List.getElem?_append_right (An _),Nat.sub_self]
    exact hp
  obtain ⟨m',hm',a1,a2⟩:=h k u p e1 e2
  rw [hm] at hm'
  cases hm'
  exact ⟨a1,a2⟩
theorem mv_a {left:Bool} {a b:Nat} (h:a / 3≠b / 3):mvN left a b a=a/\mvN left a b b=b:=by
 have h':=Ne.symm h
 have i1:mvI left a b a=a:=by
  unfold mvI
  rw [if_neg (Zl1 a),if_neg (Fw h),if_neg (Fx h),if_neg (Zl0 a)]
 have i2:mvI left a b b=b:=by
  unfold mvI
  rw [if_neg (Fx h'),if_neg (Zl0 b),if_neg (Zl1 b),if_neg (Fw h')]
 unfold mvN
 rw [i1,i2]
 exact ⟨Int.toNat_natCast a,Int.toNat_natCast b⟩
section
variable {M:List (Option Nat)} {ns:List Int} {left:Bool} {a b:Nat}
theorem Zej (td:TD M ns) (ha:a < M.length) (hb:b < M.length) (hab:a / 3≠b / 3) {y m:Nat} (hy:M[y]?=some (some m)):(exM left a b M)[mvN left a b y]?=some (some (mvN left a b m)):=by
 obtain ⟨n,_,_,hn⟩:=td.n
 have hyl:y < M.length:=(Aa hy).1
 have hz:mvN left a b y < M.length:=by rw [hn] at ha hb hyl ⊢; exact Qa ha hb left hyl
 rw [U1 td ha hb hab left hz,X7 hab,hy]
 rfl
theorem Zi7 (td:TD M ns) (hM:M[a]?=some (some b)) (hab:a / 3≠b / 3) {ws:List Nat} (hP:Pl M ws) {k h f:Nat} (hh:(Xo a b ws)[k]?=some h) (hf:(Xo a b ws)[(k + 1) % (Xo a b ws).length]?=some f) :
  ∃ m,M[h]?=some (some m)/\((f / 3=m / 3/\f≠m)\/(m / 3=a / 3/\f / 3=b / 3)\/(m / 3=b / 3/\f / 3=a / 3)):=by
 have inv:=td.inv
 have hMb:=(inv a b hM).1
 have ha:a < M.length:=(Aa hM).1
 have hb:b < M.length:=(Aa hMb).1
 obtain ⟨j,hj,hPh,nx⟩:=Zfd hh
 have hjl:=(Aa hj).1
 have hfk:Xp a b f=true:=(List.mem_filter.mp (Au hf)).2
 have kb:∀ q,Xp a b q=true->q≠a/\q≠b:=λq hq=>by
  unfold Xp at hq
  simpa using hq
 obtain ⟨hha,hhb⟩:=kb h hPh
 obtain ⟨hfa,hfb⟩:=kb f hfk
 obtain ⟨m,hm⟩:=hP.has h (Au hj)
 have emt:mtN M h=m:=by unfold mtN; rw [Ad,hm]; rfl
 have hma:m≠a:=λz=>by subst z; have:=(inv h m hm).1; rw [hM] at this; cases this; exact hhb rfl
 have hmb:m≠b:=λz=>by subst z; have:=(inv h m hm).1; rw [hMb] at this; cases this; exact hha rfl
 have nx:((rot ws (j + 1)).filter (Xp a b))[0]?=some f:=nx.symm.trans hf
 have t0:=Zih hjl (show 0 < ws.length by omega)
 rw [Nat.zero_add] at t0
 have key:(f / 3=m / 3/\f≠m)\/(m / 3=a / 3/\f / 3=b / 3)\/(m / 3=b / 3/\f / 3=a / 3):=by
  have ep:=Ac (Nat.mod_lt (j + 1) (show 0 < ws.length by omega))
  obtain ⟨n1,n2⟩:=hP.nxt j h _ hj ep m hm
  generalize ws[(j + 1) % ws.length]'(Nat.mod_lt (j + 1) (by omega))=p at ep n1 n2
  cases hr:rot ws (j + 1) with
  | nil =>
   have:=Qi ws (show j + 1<=ws.length by omega)
   rw [hr] at this
   simp at this
   omega
  | cons p' r =>
   rw [hr,ep] at t0
   have t0:some p'=some p:=t0
   cases t0
   rw [hr] at nx
   by_cases c:Xp a b p=true
   ·rw [List.filter_cons_of_pos c] at nx
    have nx:some p=some f:=nx
    cases nx
    exact .inl ⟨n1,n2⟩
   ·rw [List.filter_cons_of_neg c] at nx
    have hpc:p=a\/p=b:=by
     unfold Xp at c
     simp only [Bool.and_eq_true,Bool.not_eq_true',decide_eq_false_iff_not,not_and,Decidable.not_not] at c
     by_cases z:p=a
     ·exact .inl z
     ·exact .inr (c z)
    cases r with
    | nil=>simp at nx
    | cons q r =>
     have h2:1 < ws.length:=by
      have:=Qi ws (show j + 1<=ws.length by omega)
      rw [hr] at this
      simp only [List.length_cons] at this
      omega
     have t1:=Zih hjl h2
     rw [hr] at t1
     have t1:ws[(1 + (j + 1)) % ws.length]?=some q:=t1.symm
     have t1':ws[((j + 1) % ws.length + 1) % ws.length]?=some q:=by rw [Nat.mod_add_mod,Nat.add_comm]; exact t1
     have qk:∀ d,M[p]?=some (some d)->q / 3=d / 3/\q≠d:=λd hd=>hP.nxt _ p q ep t1' d hd
     have fin:∀ d,M[p]?=some (some d)->p / 3≠d / 3->(d=a\/d=b)->f / 3=d / 3:=λd hd hne hdab=>by
      obtain ⟨q1,q2⟩:=qk d hd
      have hqk:Xp a b q=true:=by
       unfold Xp
       have q3:q≠p:=λz=>hne (by rw [<- z,q1])
       have:q≠a/\q≠b:=by
        rcases hpc with e | e <;> rcases hdab with e' | e' <;> subst e <;> subst e' <;> first | exact ⟨q3,q2⟩ | exact ⟨q2,q3⟩ | exact absurd rfl hne
       rw [decide_eq_false this.1,decide_eq_false this.2]
       rfl
      rw [List.filter_cons_of_pos hqk] at nx
      have nx:some q=some f:=nx
      cases nx
      exact q1
     rcases hpc with e | e
     ·subst e
      exact .inr (.inl ⟨n1.symm,fin b hM hab (.inr rfl)⟩)
     ·subst e
      exact .inr (.inr ⟨n1.symm,fin a hMb (Ne.symm hab) (.inl rfl)⟩)
 exact ⟨m,hm,key⟩
theorem Zp3 (td:TD M ns) (hM:M[a]?=some (some b)) (hab:a / 3≠b / 3) {ws:List Nat} (hP:Pl M ws) {k h f:Nat} (hh:(Xo a b ws)[k]?=some h) (hf:(Xo a b ws)[(k + 1) % (Xo a b ws).length]?=some f) :
  CH (Nx (exM left a b M)) (Jk M left a b h f ++ [mvN left a b f]):=by
 have inv:=td.inv
 have hMb:=(inv a b hM).1
 have ha:a < M.length:=(Aa hM).1
 have hb:b < M.length:=(Aa hMb).1
 obtain ⟨ma,mb⟩:=@mv_a left a b hab
 have hPh:Xp a b h=true:=(List.mem_filter.mp (Au hh)).2
 have hfk:Xp a b f=true:=(List.mem_filter.mp (Au hf)).2
 have kb:∀ q,Xp a b q=true->q≠a/\q≠b:=λq hq=>by
  unfold Xp at hq
  simpa using hq
 obtain ⟨hha,hhb⟩:=kb h hPh
 obtain ⟨hfa,hfb⟩:=kb f hfk
 obtain ⟨m,hm,key⟩:=Zi7 td hM hab hP hh hf
 have emt:mtN M h=m:=by unfold mtN; rw [Ad,hm]; rfl
 have hma:m≠a:=λz=>by subst z; have:=(inv h m hm).1; rw [hM] at this; cases this; exact hhb rfl
 have hmb:m≠b:=λz=>by subst z; have:=(inv h m hm).1; rw [hMb] at this; cases this; exact hha rfl
 have x0:=Zej (left:=left) td ha hb hab hm
 have inj:=λ{y z:Nat} (e:mvN left a b y=mvN left a b z)=>Kp hab left e
 unfold Jk
 rw [emt]
 by_cases hc:mvN left a b m / 3=mvN left a b f / 3
 ·have ec:Q7 a b (mvN left a b m) (mvN left a b f)=[]:=if_pos hc
  rw [ec]
  have hfm:f≠m:=by
   rcases key with k1 | k1 | k1
   ·exact k1.2
   ·exact λz=>hab (by rw [<- k1.1,<- k1.2,z])
   ·exact λz=>hab (by rw [<- k1.1,<- k1.2,z])
  intro i u v hu hv
  have hi:i + 1 < 2:=(Aa hv).1
  have hi:i=0:=by omega
  subst hi
  cases hu
  cases hv
  exact ⟨_,x0,hc.symm,λz=>hfm (inj z)⟩
 ·have hm3:m / 3=a / 3\/m / 3=b / 3:=by
   rcases key with k1 | k1 | k1
   ·refine Classical.byContradiction λz=>hc ?_
    have c1:m / 3≠a / 3:=λy=>z (.inl y)
    have c2:m / 3≠b / 3:=λy=>z (.inr y)
    rw [Zi8 c1 c2,Zi8 (by rw [k1.1]; exact c1) (by rw [k1.1]; exact c2),k1.1]
   ·exact .inl k1.1
   ·exact .inr k1.1
  have hf3:f / 3=a / 3\/f / 3=b / 3:=by
   rcases key with k1 | k1 | k1
   ·rw [k1.1]; exact hm3
   ·exact .inr k1.2
   ·exact .inl k1.2
  have xm:=Zd8 (left:=left) hm3
  have xf:=Zd8 (left:=left) hf3
  rw [Zjx hab hc xm]
  have xa:=Zej (left:=left) td ha hb hab hM
  have xb:=Zej (left:=left) td ha hb hab hMb
  rw [ma,mb] at xa
  rw [mb,ma] at xb
  have nm_a:mvN left a b m≠a:=λz=>hma (inj (z.trans ma.symm))
  have nm_b:mvN left a b m≠b:=λz=>hmb (inj (z.trans mb.symm))
  have nf_a:mvN left a b f≠a:=λz=>hfa (inj (z.trans ma.symm))
  have nf_b:mvN left a b f≠b:=λz=>hfb (inj (z.trans mb.symm))
  by_cases y:a / 3=mvN left a b m / 3
  ·rw [if_pos y]
   intro i u v hu hv
   have hi:i + 1 < 3:=(Aa hv).1
   rcases (show i=0\/i=1 by omega) with e | e
   ·subst e; cases hu; cases hv
    exact ⟨_,x0,y,λz=>nm_a z.symm⟩
   ·subst e; cases hu; cases hv
    exact ⟨_,xa,xf.resolve_left (λz=>hc (y.symm.trans z.symm)),nf_b⟩
  ·rw [if_neg y]
   intro i u v hu hv
   have hi:i + 1 < 3:=(Aa hv).1
   rcases (show i=0\/i=1 by omega) with e | e
   ·subst e; cases hu; cases hv
    exact ⟨_,x0,(xm.resolve_left (λz=>y z.symm)).symm,λz=>nm_b z.symm⟩
   ·subst e; cases hu; cases hv
    exact ⟨_,xb,xf.resolve_right (λz=>hc ((xm.resolve_left (λw=>y w.symm)).trans z.symm)),nf_a⟩
theorem Fr {R:Nat->Nat->Prop}:∀ (r:List Nat) (h z:Nat),(∀ (k u v:Nat),(h :: r ++ [z])[k]?=some u->(h :: r ++ [z])[k + 1]?=some v->CH R (Jk M left a b u v ++ [mvN left a b v]))->CH R (Y5 M left a b ((h :: r).zip (r ++ [z])) ++ [mvN left a b z])
 | [],h,z,B=>by
  have e:Y5 M left a b ([h].zip ([] ++ [z]))=Jk M left a b h z:=by unfold Y5; simp
  rw [e]
  exact B 0 h z rfl rfl
 | f :: r,h,z,B=>by
  have ih:=Fr r f z λk u v hu hv=>B (k + 1) u v hu hv
  have e:Y5 M left a b ((h :: f :: r).zip (f :: r ++ [z]))=Jk M left a b h f ++ Y5 M left a b ((f :: r).zip (r ++ [z])):=rfl
  rw [e,List.append_assoc]
  have hd:∃ t,Y5 M left a b ((f :: r).zip (r ++ [z])) ++ [mvN left a b z]=mvN left a b f :: t:=by
   cases r with
   | nil=>exact ⟨_,rfl⟩
   | cons _ _=>exact ⟨_,rfl⟩
  obtain ⟨t,ht⟩:=hd
  rw [ht] at ih ⊢
  exact CH.app (B 0 h f rfl rfl) ih
theorem Znb (td:TD M ns) (hM:M[a]?=some (some b)) (hab:a / 3≠b / 3) {ws:List Nat} (hP:Pl M ws):Xo a b ws≠[]:=by
 intro hk
 have inv:=td.inv
 have hMb:=(inv a b hM).1
 have all:∀ q∈ws,q=a\/q=b:=λq hq=>by
  have:¬ Xp a b q=true:=λz=>by
   have hm:q∈Xo a b ws:=List.mem_filter.mpr ⟨hq,z⟩
   rw [hk] at hm
   exact absurd hm List.not_mem_nil
  unfold Xp at this
  simp only [Bool.and_eq_true,Bool.not_eq_true',decide_eq_false_iff_not,not_and,Decidable.not_not] at this
  by_cases z:q=a
  ·exact .inl z
  ·exact .inr (this z)
 have hp:0 < ws.length:=by have:=hP.ne; cases ws with | nil=>exact absurd rfl this | cons _ _=>simp
 have e0:=Ac hp
 have e1:=Ac (Nat.mod_lt (0 + 1) hp)
 have n:=hP.nxt 0 _ _ e0 e1
 have h0:=all _ (Au e0)
 have h1:=all _ (Au e1)
 generalize ws[0]=u at n h0
 generalize ws[(0 + 1) % ws.length]'(Nat.mod_lt _ hp)=v at n h1
 rcases h0 with rfl | rfl
 ·obtain ⟨n1,n2⟩:=n _ hM
  rcases h1 with rfl | rfl
  ·exact hab n1
  ·exact n2 rfl
 ·obtain ⟨n1,n2⟩:=n _ hMb
  rcases h1 with rfl | rfl
  ·exact n2 rfl
  ·exact hab n1.symm
theorem Pl.pull (td:TD M ns) (hM:M[a]?=some (some b)) (hab:a / 3≠b / 3) {ws:List Nat} (hP:Pl M ws):Pl (exM left a b M) (Y5 M left a b (Y3 (Xo a b ws))):=by
 have hne:=Znb td hM hab hP
 have B:=λk h f e1 e2=>@Zp3 M ns left a b td hM hab ws hP k h f e1 e2
 generalize Xo a b ws=ks at hne B
 cases ks with
 | nil=>exact absurd rfl hne
 | cons h r =>
  have er:rot (h :: r) (1 % (h :: r).length)=r ++ [h]:=by
   cases r with
   | nil=>rw [show 1 % [h].length=0 from Nat.mod_self 1]; rfl
   | cons q r' =>
    rw [Nat.mod_eq_of_lt (by simp)]
    rfl
  unfold Y3
  rw [er]
  have C:=Fr (M:=M) (left:=left) (a:=a) (b:=b) (R:=Nx (exM left a b M)) r h h λk u v hu hv=>by
   have hk:k < (h :: r).length:=by
    have:=(Aa hv).1
    rw [Ae,At] at this
    omega
   refine B k u v ?_ ?_
   ·rw [Av hk] at hu; exact hu
   ·by_cases z:k + 1 < (h :: r).length
    ·rw [Nat.mod_eq_of_lt z]
     rw [Av z] at hv
     exact hv
    ·have e:k + 1=(h :: r).length:=by omega
     rw [e,List.getElem?_append_right (An _),Nat.sub_self] at hv
     rw [e,Nat.mod_self]
     exact hv
  have hd:∃ t,Y5 M left a b ((h :: r).zip (r ++ [h]))=mvN left a b h :: t:=by
   cases r with
   | nil=>exact ⟨_,rfl⟩
   | cons _ _=>exact ⟨_,rfl⟩
  obtain ⟨t,ht⟩:=hd
  rw [ht] at C ⊢
  exact Pl.chain C
end
structure Mv (M:List (Option Nat)) (ns:List Int) (x:Int) (a b:Nat):Prop where
 hM:M[a]?=some (some b)
 lt:a < b
 nm:ns[a]?=some x
 ab:a / 3≠b / 3
section
variable {M M':List (Option Nat)} {ns ns':List Int} {ws ws':List Nat} {mv:List (Int × Bool)} {x:Int} {left:Bool} {a b:Nat}
theorem Mv.lts (h:Mv M ns x a b) (td:TD M ns):a < M.length/\b < M.length:=⟨(Aa h.hM).1,(Aa (td.inv a b h.hM).1).1⟩
theorem Mv.td (h:Mv M ns x a b) (td:TD M ns):TD (exM left a b M) (exN left a b ns):=td.ex (h.lts td).1 (h.lts td).2 h.ab left
end
end KT
namespace L2
open PySem PySem.Spec PyProof.Rows PySem.SeqAt
section
variable {X:Cx}
theorem Wt:Xu X (.type "dict") (λxs H Q=>∃ (d:Addr) (kvs:List (Key × V)),xs=[.ref d]/\Rd H d (.dK kvs)/\∀ p,H p=none->Q (.ref p) (upd H p (.dK kvs))):=by
 intro pins s σ H xs us Q I r h
 obtain ⟨d,kvs,rfl,hd,q⟩:=h
 obtain ⟨u,rfl,ru⟩:=Wo r
 obtain rfl:u=Value.ref d:=ru
 obtain ⟨z,hsys,vs,rel,dd⟩:=Ve I.hok hd
 have hl:vs.length<=sizeLine:=by rw [<- rel.length]; exact z
 refine kt_call_dict hsys dd hl λh' hD hsb=>?_
 have hk:∀ b u,s.heap.get? b=some u->h'.get? b=some u:=λb u e=>(hsb.2 b (As (Ao e))).trans (Ak _ e)
 refine ⟨.ref s.heap.objs.size,_,I.laid (a:=s.heap.objs.size) (o:=.dK kvs) (t':=s.toks) hk (An _) ⟨z,?_,vs,rel,hD⟩,rfl,q _ (I.hok.fresh (An _))⟩
 exact (Oh (P:=X.prog) (w:=X.w) (H:=H) s.heap I.big).2.1
theorem Zj3 (bs:List Bool):((List.range bs.length).any λi=>bs.getD i true)=bs.any id:=by
 rw [Bool.eq_iff_iff,List.any_eq_true,List.any_eq_true]
 constructor
 ·rintro ⟨i,hi,h⟩
  have hi:=List.mem_range.mp hi
  rw [Ad,Ac hi] at h
  exact ⟨_,List.getElem_mem hi,h⟩
 ·rintro ⟨b,hb,h⟩
  obtain ⟨i,hi,rfl⟩:=List.mem_iff_getElem.mp hb
  exact ⟨i,List.mem_range.mpr hi,by rw [Ad,Ac hi]; exact h⟩
theorem Zbw (hc:X.calm=true):Xu X (.builtin "any") (λxs H Q=>∃ p bs,xs=[.ref p]/\SqL X.K H p (List.map V.bl bs)/\Q (.bl (bs.any id)) H):=by
 intro pins s σ H xs us Q I r h
 obtain ⟨p,bs,rfl,hq,q⟩:=h
 obtain ⟨u,rfl,ru⟩:=Wo r
 cases ru
 obtain ⟨its,rv,pl,hz⟩:=I.list hq
 have ne:p≠s.heap.objs.size:=by obtain ⟨o,ho,_⟩:=pl.isList; exact As (Ao ho)
 refine call_any_walk (wpAny_pyIter_list pl.isList ⟨s.heap.objs.size,_,_,_,_,_,λi=>bs.getD i true,rfl,Walks.list (A:=X.A.in1) (show X.A.in1.handled=none from I.ok.hd hc) s.heap.objs.size p ne its.toArray,⟨⟨_,Ap _ rfl,rfl,rfl⟩,pl.isList.push _⟩,?_,?_⟩)
 ·intro i v s' Q' E' hv hq'
  have hv:its[i]?=some v:=by simpa using hv
  have hlen:=rv.length
  rw [Ab] at hlen
  have hi:i < bs.length:=by have:=(Aa hv).1; omega
  obtain ⟨u,hu,ru⟩:=rv.get (show (bs.map V.bl)[i]?=some (V.bl bs[i]) by rw [Ah,Ac hi]; rfl)
  rw [hv] at hu
  cases hu
  cases ru
  have e:bs.getD i true=bs[i]:=by rw [Ad,Ac hi]; rfl
  refine wpAny_truthy_bool ?_
  have hq':Q' (bs.getD i true) s':=hq'
  rw [e] at hq'
  exact hq'
 ·intro h' tk hk
  have I1:Inv X pins σ H { s with heap:=h',toks:=tk }:=I.kept λb o e=>hk b o (λz=>absurd (Ao e) (by rw [Af z]; exact Nat.lt_irrefl _)) (Ak _ e)
  have hlen:its.toArray.size=bs.length:=by have:=rv.length; rw [Ab] at this; simp; omega
  refine ⟨.bl (bs.any id),H,I1,?_,q⟩
  show Value.bool _=_
  rw [hlen,Zj3]
theorem Zfj (ns:List Int):∀ k,k<=ns.length->preSum (λi=>ns.getD i 0) k=(ns.take k).sum
 | 0,_=>by simp [preSum]
 | k + 1,h=>by
  rw [preSum,Zfj ns k (by omega),Aw,Ac (by omega),List.sum_append,Ad,Ac (by omega)]
  simp
theorem G2 {pins:List (Addr × Obj)} {σ:St} {H:Hp} {s:Shared} {ns:List Int} {its:List Value} (rv:Vals (ns.map V.int) its):∀ (i:Nat) (v:Value),its.toArray[i]?=some v->∃ t,v=.int (ns.getD i 0) t:=λi v hv=>by
 have hv:its[i]?=some v:=by simpa using hv
 have hlen:=rv.length
 rw [Ab] at hlen
 have hi:i < ns.length:=by have:=(Aa hv).1; omega
 obtain ⟨u,hu,ru⟩:=rv.get (show (ns.map V.int)[i]?=some (V.int ns[i]) by rw [Ah,Ac hi]; rfl)
 rw [hv] at hu
 cases hu
 obtain ⟨t,rfl⟩:=ru
 exact ⟨t,by rw [Ad,Ac hi]; rfl⟩
theorem Zjz (hc:X.calm=true):Xu X (.builtin "sum") (λxs H Q=>∃ (p:Addr) (ns:List Int),xs=[.ref p]/\SqL X.K H p (ns.map V.int)/\Q (.int ns.sum) H):=by
 intro pins s σ H xs us Q I r h
 obtain ⟨p,ns,rfl,hq,q⟩:=h
 obtain ⟨u,rfl,ru⟩:=Wo r
 cases ru
 obtain ⟨its,rv,pl,hz⟩:=I.list hq
 have lt:p < s.heap.objs.size:=by obtain ⟨o,ho,_⟩:=pl.isList; exact Ao ho
 have hlen:its.toArray.size=ns.length:=by have:=rv.length; rw [Ab] at this; simp; omega
 refine call_sum_walkG (wpAny_pyIter_list pl.isList ⟨s.heap.objs.size,_,_,_,_,_,λi=>ns.getD i 0,rfl,Walks.list (A:=X.A.in1) (show X.A.in1.handled=none from I.ok.hd hc) s.heap.objs.size p (As lt) its.toArray,⟨⟨_,Ap _ rfl,rfl,rfl⟩,pl.isList.push _⟩,?_,G2 (pins:=pins) (σ:=σ) (H:=H) (s:=s) rv,?_⟩)
 ·intro b hb
  show b < (s.heap.push _).objs.size
  rw [Heap.size_push]
  rcases Ar hb with rfl | hb
  ·exact Nat.lt_succ_self _
  ·rw [Af hb]; exact Nat.lt_succ_of_lt lt
 ·intro h' tk t' hk
  have I1:Inv X pins σ H { s with heap:=h',toks:=tk }:=I.kept λb o e=>hk b o (λz=>absurd (Ao e) (by rw [Af z]; exact Nat.lt_irrefl _)) (Ak _ e)
  refine ⟨.int ns.sum,H,I1,⟨t',?_⟩,q⟩
  rw [hlen,Zfj ns _ (An _),List.take_length]
theorem Zj1 (hc:X.calm=true):Xu X (.builtin "max") (λxs H Q=>∃ (p:Addr) (ns:List Int),xs=[.ref p]/\SqL X.K H p (ns.map V.int)/\0 < ns.length/\∀ m,m∈ns->(∀ a∈ns,a<=m)->Q (.int m) H):=by
 intro pins s σ H xs us Q I r h
 obtain ⟨p,ns,rfl,hq,hn,q⟩:=h
 obtain ⟨u,rfl,ru⟩:=Wo r
 cases ru
 obtain ⟨its,rv,pl,hz⟩:=I.list hq
 have lt:p < s.heap.objs.size:=by obtain ⟨o,ho,_⟩:=pl.isList; exact Ao ho
 have hlen:its.toArray.size=ns.length:=by have:=rv.length; rw [Ab] at this; simp; omega
 have W:=G2 (pins:=pins) (σ:=σ) (H:=H) (s:=s) rv
 refine call_max_walk (wpAny_pyIter_list pl.isList ⟨s.heap.objs.size,_,_,_,_,_,_,rfl,Walks.list (A:=X.A.in1) (show X.A.in1.handled=none from I.ok.hd hc) s.heap.objs.size p (As lt) its.toArray,⟨⟨_,Ap _ rfl,rfl,rfl⟩,pl.isList.push _⟩,?_,by rw [hlen]; exact hn,CmpOf.ints_gt (λi=>ns.getD i 0) W,?_⟩)
 ·intro b hb
  show b < (s.heap.push _).objs.size
  rw [Heap.size_push]
  rcases Ar hb with rfl | hb
  ·exact Nat.lt_succ_self _
  ·rw [Af hb]; exact Nat.lt_succ_of_lt lt
 ·intro v h' tk hP hk
  have I1:Inv X pins σ H { s with heap:=h',toks:=tk }:=I.kept λb o e=>hk b o (λz=>absurd (Ao e) (by rw [Af z]; exact Nat.lt_irrefl _)) (Ak _ e)
  rw [hlen] at hP
  obtain ⟨a1,a2⟩:=argBest_gt (λi=>ns.getD i 0) (ns.length - 1)
  obtain ⟨t,e⟩:=W _ _ hP
  generalize argBest (λi j=>decide (ns.getD i 0 > ns.getD j 0)) (ns.length - 1)=k at a1 a2 e
  have hk':k < ns.length:=by omega
  have ek:ns.getD k 0=ns[k]:=by rw [Ad,Ac hk']; rfl
  refine ⟨.int (ns.getD k 0),H,I1,⟨t,e⟩,q _ (by rw [ek]; exact List.getElem_mem hk') λa ha=>?_⟩
  obtain ⟨j,hj,rfl⟩:=List.mem_iff_getElem.mp ha
  have:=a2 j (by omega)
  have ej:ns.getD j 0=ns[j]:=by rw [Ad,Ac hj]; rfl
  show ns[j]<=ns.getD k 0
  rw [<- ej]; exact this
theorem Zac (K:W.Frag) (hc:X.calm=true) (h:X.K=K:=by rfl):Xu X (.builtin "sum") (λxs H Q=>∃ (p:Addr) (ns:List Int),xs=[.ref p]/\SqL K H p (ns.map V.int)/\Q (.int ns.sum) H):=h ▸ Zjz hc
theorem Zhf (K:W.Frag) (hc:X.calm=true) (h:X.K=K:=by rfl):Xu X (.builtin "max") (λxs H Q=>∃ (p:Addr) (ns:List Int),xs=[.ref p]/\SqL K H p (ns.map V.int)/\0 < ns.length/\∀ m,m∈ns->(∀ a∈ns,a<=m)->Q (.int m) H):=h ▸ Zj1 hc
end
end L2
namespace L2
open PySem PySem.Spec PyProof.Rows
noncomputable abbrev TBX:=St->Hp->(St->Hp->Prop)->XK->Prop
theorem Kk {K:W.Frag} {a:Addr} {xs:List V} {g:TG} {tb:TSX} {R:Value->St->Hp->Prop} {D:Ends} {σ:St} {H:Hp} (Pv:Nat->St->Hp->Prop) (h0:Pv 0 σ H) (hl:∀ i σ H,i<=xs.length->Pv i σ H->SqL K H a xs)
  (hs:∀ i x σ H,xs[i]?=some x->Pv i σ H->g x σ H λσ2 H2=>tb { D with nx:=Pv (i + 1),ct:=Pv (i + 1),bk:=D.nx } R σ2 H2) (hd:∀ σ H,Pv xs.length σ H->D.nx σ H) :
  ∃ W:Nat->Nat->St->Hp->Prop,(∃ m,W 0 m σ H)/\∀ i m σ H,W i m σ H ->
   ((Itl K a).stop i H/\D.nx σ H)\/((Itl K a).go i H/\∃ N:St->Hp->Prop,(∀ σ' H',N σ' H'->∃ m',m' < m/\W (i + 1) m' σ' H')/\∀ x H',(Itl K a).yld i H x H'->g x σ H' λσ2 H2=>tb { D with nx:=N,ct:=N,bk:=D.nx } R σ2 H2) :=
 G4 (tb:=λD' σ' H'=>tb D' R σ' H') Pv h0 hl hs hd
end L2
namespace HL
open PySem PyProof.Rows HT
end HL
namespace L2
open PySem PySem.Spec PyProof.Rows
end L2
namespace KT
open PySem L2
noncomputable def aN (a:Nat):Nat:=(after a).toNat
noncomputable def bN (a:Nat):Nat:=(Zt a).toNat
theorem Zae (a:Nat):after a=(aN a:Int):=(Int.toNat_of_nonneg (Yw a).2.2).symm
theorem Zad (a:Nat):Zt a=(bN a:Int):=(Int.toNat_of_nonneg (Yn a).2.2).symm
theorem V1 (a:Nat):aN a=if a % 3=2 then a - 2 else a + 1:=by
 have h:=Zae a
 unfold after at h
 split at h <;> split <;> omega
theorem V0 (a:Nat):bN a=if a % 3=0 then a + 2 else a - 1:=by
 have h:=Zad a
 unfold Zt at h
 split at h <;> split <;> omega
theorem d3_0 (q:Nat):3 * q / 3=q:=Nat.mul_div_cancel_left q (by decide)
theorem d3_1 (q:Nat):(3 * q + 1) / 3=q:=by rw [Nat.mul_add_div (by decide)]; rfl
theorem d3_2 (q:Nat):(3 * q + 2) / 3=q:=by rw [Nat.mul_add_div (by decide)]; rfl
theorem aN_0 (q:Nat):aN (3 * q)=3 * q + 1:=by rw [V1,if_neg (by rw [Nat.mul_mod_right]; decide)]
theorem aN_1 (q:Nat):aN (3 * q + 1)=3 * q + 2:=by rw [V1,if_neg (by rw [Nat.mul_add_mod]; decide)]
theorem aN_2 (q:Nat):aN (3 * q + 2)=3 * q:=by rw [V1,if_pos (by rw [Nat.mul_add_mod])]; rfl
theorem bN_0 (q:Nat):bN (3 * q)=3 * q + 2:=by rw [V0,if_pos (Nat.mul_mod_right 3 q)]
theorem bN_1 (q:Nat):bN (3 * q + 1)=3 * q:=by rw [V0,if_neg (by rw [Nat.mul_add_mod]; decide)]; rfl
theorem bN_2 (q:Nat):bN (3 * q + 2)=3 * q + 1:=by rw [V0,if_neg (by rw [Nat.mul_add_mod]; decide)]; rfl
theorem three (a:Nat):∃ q,a=3 * q\/a=3 * q + 1\/a=3 * q + 2:=⟨a / 3,by omega⟩
theorem Zc6 (a:Nat):aN a / 3=a / 3/\bN a / 3=a / 3/\aN (aN a)=bN a/\bN (aN a)=a/\aN (bN a)=a/\bN (bN a)=aN a/\aN a≠a/\bN a≠a/\aN a≠bN a:=by
 have n1:∀ q,q + 1≠q:=λq=>Nat.succ_ne_self q
 have n2:∀ q,q + 2≠q:=λq h=>Nat.ne_of_gt (Nat.lt_add_of_pos_right (n:=q) (k:=2) (by decide)) h
 obtain ⟨q,rfl | rfl | rfl⟩:=three a
 ·rw [aN_0,bN_0,aN_1,bN_1,aN_2,bN_2,d3_0,d3_1,d3_2]
  exact ⟨rfl,rfl,rfl,rfl,rfl,rfl,n1 _,n2 _,λh=>n1 _ h.symm⟩
 ·rw [aN_1,bN_1,aN_2,bN_2,aN_0,bN_0,d3_0,d3_1,d3_2]
  exact ⟨rfl,rfl,rfl,rfl,rfl,rfl,n1 _,λh=>n1 _ h.symm,n2 _⟩
 ·rw [aN_2,bN_2,aN_0,bN_0,aN_1,bN_1,d3_0,d3_1,d3_2]
  exact ⟨rfl,rfl,rfl,rfl,rfl,rfl,λh=>n2 _ h.symm,λh=>n1 _ h.symm,λh=>n1 _ h.symm⟩
theorem U5 {a n:Nat} (h:a < 3 * n):aN a < 3 * n/\bN a < 3 * n:=by
 obtain ⟨h1,h2,_⟩:=Zc6 a
 exact ⟨by omega,by omega⟩
structure PC (M:List (Option Nat)) (f:Nat->Int):Prop where
 nn:∀ p,p < M.length->0<=f p
 rim:∀ p:Nat,M[p]?=some none->f p=0
 mate:∀ p q:Nat,M[p]?=some (some q)->f q=f p
 even:∀ p,p < M.length->(f p + f (aN p) + f (bN p)) % 2=0
 tri:∀ p,p < M.length->f p<=f (aN p) + f (bN p)
noncomputable def mx (x y:Int):Int:=if y > x then y else x
noncomputable def bh (f:Nat->Int) (a b:Nat):Int:=mx (f (aN a) + f (aN b)) (f (bN a) + f (bN b)) - f a
noncomputable def fx (left:Bool) (a b:Nat) (f:Nat->Int) (z:Nat):Int:=if z=a\/z=b then bh f a b else f (mvN (!left) a b z)
section
variable {M:List (Option Nat)} {ns:List Int} {f:Nat->Int} {a b:Nat} {left:Bool}
noncomputable def Nm (ns:List Int) (f:Nat->Int) (g:Int->Int):Prop:=∀ (p:Nat) (x:Int),ns[p]?=some x->g x=f p
theorem Nm.ex {g:Int->Int} {x:Int} (h:Nm ns f g) (td:TD M ns) (hM:M[a]?=some (some b)) (hab:a / 3≠b / 3) (hx:ns[a]?=some x) (left:Bool):Nm (exN left a b ns) (fx left a b f) λy=>if y=x then bh f a b else g y:=by
 have hMb:=(td.inv a b hM).1
 have ha:a < M.length:=(Aa hM).1
 have hb:b < M.length:=(Aa hMb).1
 intro z y hz
 have hzl:z < M.length:=by have:=(Aa hz).1; rw [Jy,td.len] at this; exact this
 rw [Jz td ha hb hab left hzl] at hz
 obtain ⟨m1,m2⟩:=mv_a (left:=!left) hab
 by_cases c:z=a\/z=b
 ·have e:y=x:=by
   rcases c with rfl | rfl
   ·rw [m1,hx] at hz; cases hz; rfl
   ·rw [m2,td.eqm a z hM,hx] at hz; cases hz; rfl
  show (if y=x then bh f a b else g y)=_
  rw [if_pos e]
  unfold fx
  rw [if_pos c]
 ·have e:y≠x:=λe=>by
   subst e
   rcases td.eqv _ a y hz hx with e | e
   ·exact c (.inl (Kp hab (!left) (e.trans m1.symm)))
   ·have e:=(td.inv _ a e).1
    rw [hM] at e
    injection e with e
    injection e with e
    exact c (.inr (Kp hab (!left) (e.symm.trans m2.symm)))
  show (if y=x then bh f a b else g y)=_
  rw [if_neg e]
  unfold fx
  rw [if_neg c]
  exact h _ y hz
theorem Zna (td:TD M ns) (hM:M[a]?=some (some b)) (hab:a / 3≠b / 3) (left:Bool):(keys ns ns.length).Perm (keys (exN left a b ns) (exN left a b ns).length):=by
 have hMb:=(td.inv a b hM).1
 have ha:a < M.length:=(Aa hM).1
 have hb:b < M.length:=(Aa hMb).1
 obtain ⟨n,_,_,hn⟩:=td.n
 have hnl:=td.len
 rw [List.perm_ext_iff_of_nodup (Qd _ _) (Qd _ _)]
 intro x
 rw [Xs,Xs,Jy]
 constructor
 ·rintro ⟨i,hi,e⟩
  have hm:mvN left a b i < M.length:=by rw [hn]; exact Qa (by omega) (by omega) left (by omega)
  exact ⟨mvN left a b i,by omega,by rw [Jz td ha hb hab left hm,X7 hab]; exact e⟩
 ·rintro ⟨i,hi,e⟩
  have hi':i < M.length:=by omega
  rw [Jz td ha hb hab left hi'] at e
  exact ⟨_,by have:=(Aa e).1; exact this,e⟩
end
noncomputable def sF (f:Nat->Int):Nat->Int
 | 0=>0
 | n + 1=>sF f n + f n
section
variable {M:List (Option Nat)} {ns:List Int} {f:Nat->Int} {g:Int->Int}
noncomputable def mu (M:List (Option Nat)) (p:Nat):Nat:=match (M[p]?).join with
 | some q=>q
 | none=>p
end
end KT
namespace L2
open PySem PySem.Spec PyProof.Rows
theorem Zld {X:Cx}:PIp X .FloorDiv (λx y H Q=>∃ i j,x=.int i/\y=.int j/\Zco i j/\Q (.int (i / j)) H):=by
 intro pins s σ H x y v u Q I r1 r2 h
 obtain ⟨i,j,e1,e2,hc,q⟩:=h
 subst e1; subst e2
 obtain ⟨t,rfl⟩:=r1
 obtain ⟨t',rfl⟩:=r2
 have h1:(0:Int) < j:=hc.1
 refine ifloordiv_int (by omega) ?_ (.inl (PyProof.noPylong_of_log2 hc.2))
 rw [Int.fdiv_eq_ediv_of_nonneg i (by omega)]
 exact ⟨.int _,H,I.tok _,⟨_,rfl⟩,q⟩
end L2
namespace PySem.F
end PySem.F
namespace L2
open PySem PySem.Spec PyProof.Rows
noncomputable def dd (ks:List Int):List Int:=ks.foldl step_dedup []
theorem Od {d:Addr} {kvs:List (Key × V)} {o:Obj} {g:TG} {tt:TT} {tb:TB} {R:St->Hp->Prop} {σ:St} {H:Hp} (Pv:Nat->St->Hp->Prop) (h0:Pv 0 σ H) (hl:∀ i σ H,i<=kvs.length->Pv i σ H->H d=some (.frz o (.dK kvs)))
  (hs:∀ (i:Nat) k x σ H q,kvs[i]?=some (k,x)->H q=none->Pv i σ H->g (.ref q) σ (upd H q (.tup [kV k,x])) λσ2 H2=>tt σ2 H2 λb H3=>if b=true then tb σ2 H3 (Pv (i + 1)) else Pv (i + 1) σ2 H3) (hd:∀ σ H,Pv kvs.length σ H->R σ H):Jr (Itm2 d kvs o) g tt tb R σ H:=by
 refine ⟨λi m σ H=>m=kvs.length - i/\i<=kvs.length/\Pv i σ H,⟨kvs.length,by simp,Az _,h0⟩,?_⟩
 rintro i m σ H ⟨rfl,hi,p⟩
 have q:=hl i σ H hi p
 by_cases hlt:i < kvs.length
 ·refine .inr ⟨⟨hlt,q⟩,Pv (i + 1),λσ' H' p'=>⟨kvs.length - (i + 1),by omega,rfl,hlt,p'⟩,λx H' y=>?_⟩
  obtain ⟨c,k,v,hn,e1,y,e2⟩:=y
  subst e1 e2
  exact hs i k v σ H c y hn p
 ·have e:i=kvs.length:=by omega
  subst e
  exact .inl ⟨⟨An _,q⟩,hd σ H p⟩
noncomputable def Znv (H0:Hp) (t:TE):TE:=λσ H Q=>t σ H λv H'=>∃ (a:Addr) (o:Obj) (kvs:List (Key × V)),H' a=some (.frz o (.dK kvs))/\(∀ o u,H0 a≠some (.frz o u))/\Q v (upd H' a (.dK kvs))
theorem Zmz {X:Cx} {e:Expr} {t:TE} (h:PE X e t):PE X e (Znv X.H₀ t):=by
 intro pins s σ H Q I hw
 refine wpAny_mono (h pins s σ H _ I hw) (λv s' q=>?_) λ_ _ e=>e
 obtain ⟨x,H',I',r,a,o,kvs,e,h0,q⟩:=q
 exact ⟨x,_,I'.thaw e h0,r,q⟩
end L2
namespace KT
noncomputable def lowN (m n:Nat):Nat × Nat:=(m / Nat.gcd m n,n / Nat.gcd m n)
structure Val (v:Nat × Nat) (N D:Nat):Prop where
 p1:0 < v.1
 p2:0 < v.2
 co:Nat.gcd v.1 v.2=1
 eq:v.1 * D=v.2 * N
theorem Kq {m n:Nat} (hm:0 < m) (hn:0 < n):Val (lowN m n) m n:=by
 have g0:0 < Nat.gcd m n:=Nat.gcd_pos_of_pos_left _ hm
 have d1:=Nat.gcd_dvd_left m n
 have d2:=Nat.gcd_dvd_right m n
 refine ⟨Nat.div_pos (Nat.le_of_dvd hm d1) g0,Nat.div_pos (Nat.le_of_dvd hn d2) g0,?_,?_⟩
 ·show Nat.gcd (m / Nat.gcd m n) (n / Nat.gcd m n)=1
  rw [Nat.gcd_div d1 d2,Nat.div_self g0]
 ·show m / Nat.gcd m n * n=n / Nat.gcd m n * m
  obtain ⟨a,ha⟩:=d1
  obtain ⟨b,hb⟩:=d2
  generalize Nat.gcd m n=g at *
  subst ha hb
  rw [Nat.mul_div_cancel_left _ g0,Nat.mul_div_cancel_left _ g0]
  simp only [Nat.mul_comm,Nat.mul_left_comm]
theorem Zay (m n:Nat):(lowN m n).1<=m/\(lowN m n).2<=n:=⟨Nat.div_le_self _ _,Nat.div_le_self _ _⟩
theorem Val.to {v:Nat × Nat} {N D N' D':Nat} (h:Val v N D) (hN:0 < N) (e:N * D'=D * N'):Val v N' D':=by
 refine ⟨h.p1,h.p2,h.co,?_⟩
 refine Nat.eq_of_mul_eq_mul_right hN ?_
 calc v.1 * D' * N=v.1 * (N * D'):=by simp only [Nat.mul_comm,Nat.mul_left_comm]
  _=v.1 * (D * N'):=by rw [e]
  _=v.1 * D * N':=by rw [Nat.mul_assoc]
  _=v.2 * N * N':=by rw [h.eq]
  _=v.2 * N' * N:=by simp only [Nat.mul_comm,Nat.mul_left_comm]
noncomputable def lw2 (v f:Nat × Nat):Nat × Nat:=lowN (v.1 * f.1) (v.2 * f.2)
theorem Val.mul {v f:Nat × Nat} {N D:Nat} (h:Val v N D) (f1:0 < f.1) (f2:0 < f.2):Val (lw2 v f) (N * f.1) (D * f.2):=by
 refine (Kq (Nat.mul_pos h.p1 f1) (Nat.mul_pos h.p2 f2)).to (Nat.mul_pos h.p1 f1) ?_
 calc v.1 * f.1 * (D * f.2)=v.1 * D * (f.1 * f.2):=by simp only [Nat.mul_comm,Nat.mul_left_comm]
  _=v.2 * N * (f.1 * f.2):=by rw [h.eq]
  _=v.2 * f.2 * (N * f.1):=by simp only [Nat.mul_comm,Nat.mul_left_comm]
theorem Zg9 {v f:Nat × Nat} (co:Nat.gcd v.1 v.2=1) (f1:0 < f.1) (f2:0 < f.2):Nat.gcd (v.1 * f.1) (v.2 * f.2)<=f.1 * f.2:=by
 refine Nat.le_of_dvd (Nat.mul_pos f1 f2) ?_
 have d1:Nat.gcd (v.1 * f.1) (v.2 * f.2) ∣ v.1 * (f.1 * f.2):=by
  rw [<- Nat.mul_assoc]; exact Nat.dvd_trans (Nat.gcd_dvd_left _ _) (Nat.dvd_mul_right _ _)
 have d2:Nat.gcd (v.1 * f.1) (v.2 * f.2) ∣ v.2 * (f.1 * f.2):=by
  rw [Nat.mul_comm f.1,<- Nat.mul_assoc]; exact Nat.dvd_trans (Nat.gcd_dvd_right _ _) (Nat.dvd_mul_right _ _)
 have:=Nat.dvd_gcd d1 d2
 rw [Nat.gcd_mul_right,co,Nat.one_mul] at this
 exact this
noncomputable def frc (tu:Nat × Nat) (k:Nat):Nat × Nat:=if k % 2=0 then (tu.1 + tu.2,tu.2) else (tu.1,tu.1 + tu.2)
theorem Zf2 {tu:Nat × Nat} (h1:0 < tu.1) (h2:0 < tu.2) (k:Nat):0 < (frc tu k).1/\0 < (frc tu k).2:=by
 unfold frc
 split
 ·exact ⟨Nat.add_pos_left h1 _,h2⟩
 ·exact ⟨h1,Nat.add_pos_left h1 _⟩
theorem Zjm (tu:Nat × Nat) (k:Nat):(frc tu k).1<=tu.1 + tu.2/\(frc tu k).2<=tu.1 + tu.2:=by
 unfold frc
 split
 ·exact ⟨An _,Nat.le_add_left _ _⟩
 ·exact ⟨Nat.le_add_right _ _,An _⟩
noncomputable def putG (g:Int->Nat × Nat) (x:Int) (v:Nat × Nat):Int->Nat × Nat:=λy=>if y=x then v else g y
noncomputable def stG (ks:List Int) (xs:List Int) (tu:Nat × Nat) (g:Int->Nat × Nat):Nat->Int->Nat × Nat
 | 0=>g
 | k + 1=>if xs.getD k 0∈ks then putG (stG ks xs tu g k) (xs.getD k 0) (lw2 (stG ks xs tu g k (xs.getD k 0)) (frc tu k)) else stG ks xs tu g k
noncomputable def strG (ks:List Int) (xs:List Int) (x:Int) (g:Int->Nat × Nat):Int->Nat × Nat:=putG (stG ks xs (g x) g 4) x ((g x).2,(g x).1)
noncomputable def lowG (g:Int->Nat × Nat):Int->Nat × Nat:=λx=>lowN (g x).1 (g x).2
noncomputable def chN (e:Nat->Bool) (tu v:Nat × Nat):Nat->Nat × Nat
 | 0=>v
 | k + 1=>if e k=true then lw2 (chN e tu v k) (frc tu k) else chN e tu v k
noncomputable def nuN (e:Nat->Bool) (tu:Nat × Nat):Nat->Nat
 | 0=>1
 | k + 1=>if e k=true then nuN e tu k * (frc tu k).1 else nuN e tu k
noncomputable def deN (e:Nat->Bool) (tu:Nat × Nat):Nat->Nat
 | 0=>1
 | k + 1=>if e k=true then deN e tu k * (frc tu k).2 else deN e tu k
noncomputable def cnN (e:Nat->Bool):Nat->Nat
 | 0=>0
 | k + 1=>if e k=true then cnN e k + 1 else cnN e k
noncomputable def flg (ks xs:List Int) (y:Int) (k:Nat):Bool:=decide (xs.getD k 0=y/\y∈ks)
theorem Fa (ks xs:List Int) (tu:Nat × Nat) (g:Int->Nat × Nat) (y:Int):∀ k,stG ks xs tu g k y=chN (flg ks xs y) tu (g y) k
 | 0=>rfl
 | k + 1=>by
  have ih:=Fa ks xs tu g y k
  unfold stG chN
  by_cases c:xs.getD k 0∈ks
  ·rw [if_pos c]
   unfold putG
   by_cases z:y=xs.getD k 0
   ·rw [if_pos z,if_pos (by unfold flg; exact decide_eq_true ⟨z.symm,z ▸ c⟩),<- ih,z]
   ·rw [if_neg z,if_neg (by unfold flg; rw [decide_eq_false (λq=>z q.1.symm)]; decide)]
    exact ih
  ·rw [if_neg c,if_neg (by unfold flg; rw [decide_eq_false (show ¬ (xs.getD k 0=y/\y∈ks) from λq=>c (by rw [q.1]; exact q.2))]; decide)]
   exact ih
theorem Zem {e:Nat->Bool} {tu v:Nat × Nat} {N D:Nat} (h:Val v N D) (h1:0 < tu.1) (h2:0 < tu.2):∀ k,Val (chN e tu v k) (N * nuN e tu k) (D * deN e tu k)
 | 0=>by
  show Val v (N * 1) (D * 1)
  rw [Nat.mul_one,Nat.mul_one]
  exact h
 | k + 1=>by
  have ih:=Zem (e:=e) h h1 h2 k
  obtain ⟨f1,f2⟩:=Zf2 h1 h2 k
  unfold chN nuN deN
  split
  ·rw [<- Nat.mul_assoc,<- Nat.mul_assoc]
   exact ih.mul f1 f2
  ·exact ih
theorem Zhe {e:Nat->Bool} {tu v:Nat × Nat} {B S:Nat} (hv:v.1<=B/\v.2<=B) (hS:tu.1 + tu.2<=S) (h1:1<=S):∀ k,(chN e tu v k).1<=B * S ^ cnN e k/\(chN e tu v k).2<=B * S ^ cnN e k
 | 0=>by
  show v.1<=B * S ^ 0/\v.2<=B * S ^ 0
  rw [Nat.pow_zero,Nat.mul_one]
  exact hv
 | k + 1=>by
  obtain ⟨i1,i2⟩:=Zhe (e:=e) (tu:=tu) hv hS h1 k
  obtain ⟨f1,f2⟩:=Zjm tu k
  unfold chN cnN
  split
  ·rw [Nat.pow_succ,<- Nat.mul_assoc]
   unfold lw2
   obtain ⟨l1,l2⟩:=Zay ((chN e tu v k).1 * (frc tu k).1) ((chN e tu v k).2 * (frc tu k).2)
   exact ⟨Nat.le_trans l1 (Nat.mul_le_mul i1 (Nat.le_trans f1 hS)),Nat.le_trans l2 (Nat.mul_le_mul i2 (Nat.le_trans f2 hS))⟩
  ·exact ⟨i1,i2⟩
end KT
namespace KT
open PySem L2
section
variable {M:List (Option Nat)} {ns:List Int} {x y:Int} {a b:Nat}
noncomputable def SwN (M:List (Option Nat)) (ns:List Int) (x:Int):Prop:=∃ p j:Nat,M[p]?=some (some j)/\ns[p]?=some x
structure SwK (M:List (Option Nat)) (ns:List Int) (ks:List Int):Prop where
 nd:ks.Nodup
 mem:∀ x,x∈ks ↔ SwN M ns x
theorem SwK.perm {ks ls:List Int} (h:SwK M ns ks) (g:SwK M ns ls):ks.Perm ls:=(List.perm_ext_iff_of_nodup h.nd g.nd).mpr λx=>(h.mem x).trans (g.mem x).symm
theorem SwN.key (td:TD M ns) (h:SwN M ns x):x∈keys ns ns.length:=by
 obtain ⟨p,j,_,e⟩:=h
 exact Xs.mpr ⟨p,(Aa e).1,e⟩
noncomputable def sqX (ns:List Int) (a b:Nat):List Int:=[ns.getD (aN a) 0,ns.getD (bN a) 0,ns.getD (aN b) 0,ns.getD (bN b) 0]
noncomputable def sqP (a b:Nat):Nat->Nat
 | 0=>aN a
 | 1=>bN a
 | 2=>aN b
 | _=>bN b
theorem Zhv {k:Nat} (h:k < 4):(sqX ns a b).getD k 0=ns.getD (sqP a b k) 0:=by
 have:k=0\/k=1\/k=2\/k=3:=by omega
 rcases this with rfl | rfl | rfl | rfl <;> rfl
theorem Zhw {n k:Nat} (ha:a < 3 * n) (hb:b < 3 * n):sqP a b k < 3 * n:=by
 obtain ⟨a1,a2⟩:=U5 ha
 obtain ⟨b1,b2⟩:=U5 hb
 unfold sqP
 split <;> assumption
theorem W8 {p q a b:Nat} (hab:a / 3≠b / 3) (hp:p / 3=a / 3) (hq:q / 3=b / 3):p≠q:=λz=>hab (by rw [<- hp,<- hq,z])
theorem Zcx (hab:a / 3≠b / 3):∀ i j,i < 4->j < 4->i≠j->sqP a b i≠sqP a b j:=by
 intro i j hi hj hij
 obtain ⟨a1,a2,_,_,_,_,_,_,a3⟩:=Zc6 a
 obtain ⟨b1,b2,_,_,_,_,_,_,b3⟩:=Zc6 b
 have hba:=Ne.symm hab
 have hi':i=0\/i=1\/i=2\/i=3:=by omega
 have hj':j=0\/j=1\/j=2\/j=3:=by omega
 rcases hi' with rfl | rfl | rfl | rfl <;> rcases hj' with rfl | rfl | rfl | rfl <;> first | exact absurd rfl hij | exact a3 | exact Ne.symm a3 | exact b3 | exact Ne.symm b3 | exact W8 hab a1 b1 | exact W8 hab a1 b2 | exact W8 hab a2 b1 | exact W8 hab a2 b2 | exact W8 hba b1 a1 | exact W8 hba b1 a2 | exact W8 hba b2 a1 | exact W8 hba b2 a2
theorem Zlz {p:Nat} (td:TD M ns) (hp:p < M.length):ns[p]?=some (ns.getD p 0):=by
 have:=td.len
 rw [Ad,Ac (by omega)]
 rfl
theorem Zmd (td:TD M ns) (mv:Mv M ns x a b) (ks:List Int) (y:Int):cnN (flg ks (sqX ns a b) y) 4<=2:=by
 obtain ⟨ha,hb⟩:=mv.lts td
 obtain ⟨n,n1,n40,hn⟩:=td.n
 have lt:∀ k,sqP a b k < M.length:=λk=>by rw [hn] at ha hb ⊢; exact Zhw ha hb
 have at':∀ k,k < 4->flg ks (sqX ns a b) y k=true->ns[sqP a b k]?=some y:=λk hk h=>by
  have h:=(of_decide_eq_true h).1
  rw [Zhv hk] at h
  rw [Zlz td (lt k),h]
 have three:∀ i j k,i < 4->j < 4->k < 4->i≠j->i≠k->j≠k->flg ks (sqX ns a b) y i=true->flg ks (sqX ns a b) y j=true->flg ks (sqX ns a b) y k=true->False:=by
  intro i j k hi hj hk h1 h2 h3 e1 e2 e3
  have q1:=at' i hi e1
  have q2:=at' j hj e2
  have q3:=at' k hk e3
  rcases td.eqv _ _ y q1 q2 with z | z
  ·exact Zcx mv.ab i j hi hj h1 z
  ·rcases td.eqv _ _ y q1 q3 with z' | z'
   ·exact Zcx mv.ab i k hi hk h2 z'
   ·rw [z] at z'
    injection z' with z'
    injection z' with z'
    exact Zcx mv.ab j k hj hk h3 z'
 have t1:=three 0 1 2 (by decide) (by decide) (by decide) (by decide) (by decide) (by decide)
 have t2:=three 0 1 3 (by decide) (by decide) (by decide) (by decide) (by decide) (by decide)
 have t3:=three 0 2 3 (by decide) (by decide) (by decide) (by decide) (by decide) (by decide)
 have t4:=three 1 2 3 (by decide) (by decide) (by decide) (by decide) (by decide) (by decide)
 simp only [cnN]
 generalize flg ks (sqX ns a b) y 0=e0 at *
 generalize flg ks (sqX ns a b) y 1=e1 at *
 generalize flg ks (sqX ns a b) y 2=e2 at *
 generalize flg ks (sqX ns a b) y 3=e3 at *
 revert t1 t2 t3 t4
 cases e0 <;> cases e1 <;> cases e2 <;> cases e3 <;> simp
end
noncomputable def Bd (B:Nat) (v:Nat × Nat):Prop:=1<=v.1/\1<=v.2/\v.1 < 2 ^ B/\v.2 < 2 ^ B
theorem Bd.low {B:Nat} {g:Int->Nat × Nat} {y:Int} (h:Bd B (g y)):Bd B (lowG g y)/\Val (lowG g y) (g y).1 (g y).2:=by
 have v:=Kq h.1 h.2.1
 have l:=Zay (g y).1 (g y).2
 exact ⟨⟨v.p1,v.p2,Nat.lt_of_le_of_lt l.1 h.2.2.1,Nat.lt_of_le_of_lt l.2 h.2.2.2⟩,v⟩
section
variable {M:List (Option Nat)} {ns ks:List Int} {x y:Int} {a b B:Nat} {g:Int->Nat × Nat}
theorem Zfk:strG ks (sqX ns a b) x (lowG g) x=((lowG g x).2,(lowG g x).1):=by unfold strG putG; rw [if_pos rfl]
theorem Zcw (h:y≠x):strG ks (sqX ns a b) x (lowG g) y=chN (flg ks (sqX ns a b) y) (lowG g x) (lowG g y) 4:=by unfold strG putG; rw [if_neg h,Fa]
theorem Zn5 (hx:Bd B (g x)) (hy:Bd B (g y)):Nat.gcd (strG ks (sqX ns a b) x (lowG g) y).1 (strG ks (sqX ns a b) x (lowG g) y).2=1/\1<=(strG ks (sqX ns a b) x (lowG g) y).1/\1<=(strG ks (sqX ns a b) x (lowG g) y).2:=by
 obtain ⟨_,vx⟩:=hx.low
 by_cases c:y=x
 ·subst c
  rw [Zfk]
  exact ⟨by rw [Nat.gcd_comm]; exact vx.co,vx.p2,vx.p1⟩
 ·rw [Zcw c]
  have v:=Zem (e:=flg ks (sqX ns a b) y) hy.low.2 vx.p1 vx.p2 4
  exact ⟨v.co,v.p1,v.p2⟩
theorem Zn6 (td:TD M ns) (mv:Mv M ns x a b) (hx:Bd B (g x)) (hy:Bd B (g y)):Bd (3 * B + 2) (strG ks (sqX ns a b) x (lowG g) y):=by
 obtain ⟨_,p1,p2⟩:=Zn5 (ks:=ks) (ns:=ns) (a:=a) (b:=b) hx hy
 obtain ⟨lx,vx⟩:=hx.low
 obtain ⟨ly,vy⟩:=hy.low
 by_cases c:y=x
 ·subst c
  rw [Zfk]
  exact ⟨lx.2.1,lx.1,Ag lx.2.2.2 (Nat.pow_le_pow_right (by decide) (by omega)),Ag lx.2.2.1 (Nat.pow_le_pow_right (by decide) (by omega))⟩
 ·rw [Zcw c] at p1 p2 ⊢
  have two:=Zmd td mv ks y
  have b0:0 < 2 ^ B:=Nat.two_pow_pos B
  have sS:(lowG g x).1 + (lowG g x).2<=2 ^ (B + 1):=by
   have h1:=lx.2.2.1
   have h2:=lx.2.2.2
   rw [Nat.pow_succ]
   omega
  obtain ⟨c1,c2⟩:=Zhe (e:=flg ks (sqX ns a b) y) (tu:=lowG g x) (v:=lowG g y) (B:=2 ^ B - 1) (S:=2 ^ (B + 1)) ⟨by have:=ly.2.2.1; omega,by have:=ly.2.2.2; omega⟩ sS Nat.one_le_two_pow 4
  have top:(2 ^ B - 1) * (2 ^ (B + 1)) ^ cnN (flg ks (sqX ns a b) y) 4 < 2 ^ (3 * B + 2):=by
   have e1:(2 ^ B - 1) * (2 ^ (B + 1)) ^ cnN (flg ks (sqX ns a b) y) 4 < 2 ^ B * (2 ^ (B + 1)) ^ cnN (flg ks (sqX ns a b) y) 4:=Nat.mul_lt_mul_of_pos_right (by omega) (Nat.pow_pos (Nat.two_pow_pos _))
   refine Ag e1 ?_
   rw [<- Nat.pow_mul,<- Nat.pow_add]
   refine Nat.pow_le_pow_right (by decide) ?_
   have:(B + 1) * cnN (flg ks (sqX ns a b) y) 4<=(B + 1) * 2:=Nat.mul_le_mul_left _ two
   omega
  exact ⟨p1,p2,Nat.lt_of_le_of_lt c1 top,Nat.lt_of_le_of_lt c2 top⟩
end
end KT
namespace L2
open PySem PySem.Spec PyProof.Rows
section
variable {X:Cx}
noncomputable abbrev THs:=Value->TS
noncomputable def PHs (X:Cx) (hs:List ExceptHandler) (t:THs):Prop :=
 ∀ (pins:List (Addr × Obj)) (s:Shared) (σ:St) (H:Hp) (D:Ends) (e T:Addr) (cls a0:Value) (h':Heap),Inv X pins σ H s->FxOk X pins H e->FxOk X pins H T ->
  Heap.FlyingW (PySem.W.hideAll s.heap (e :: T :: frs X.stack)) X.stack e cls a0 h'->s.heap.UpToSlots h'->t cls D σ H->wpAny (model X.prog X.w) X.A (handleBy (.ref e) X.env hs) (SP X pins D) X.xe { s with heap:=h' }
theorem Zjh {hs:List ExceptHandler}:PHs X hs (λ_ _ _ _=>False):=λ_ _ _ _ _ _ _ _ _ _ _ _ _ _ _ z=>z.elim
theorem Jx {b₀:Stmt} {suite:List Stmt} {x:Str} {np hpos:Pos} {rest:List ExceptHandler} {ts:TS} {tr:THs} {C:Addr} (hg:Gl X x) (hm:X.mg x=some (.ref C)) (hs:∀ e,PSs (Kt X e) (b₀ :: suite) ts) (hr:PHs X rest tr)
  (hex:X.ex=[]:=by rfl) (hx:X.xe=(λ_ _=>False):=by rfl) (hdb:(x == ("__debug__":Str))=false:=by decide) :
  PHs X (.ExceptHandler (some (.Name x np)) none (b₀ :: suite) hpos :: rest) (λcls D σ H=>∃ b,PySem.W.exmOne X.K cls (.ref C)=some b/\if b=true then ts D σ H else tr cls D σ H):=by
 intro pins s σ H D e T cls a0 h' I fe fT hheld hsm q
 obtain ⟨b,hb,q⟩:=q
 have I5:Inv X pins σ H { s with heap:=h' }:=I.flown hex fe fT hheld.1 hsm
 obtain ⟨ob,hob,hobc⟩:=hheld.there
 refine wpAny_handleBy_cons (codeAny_handlers_test (Vi (X:=Kt X e) (I5.hnd e) hg hm ?_ hdb)) (by intro q; cases q)
 have LT:PySem.W.Looks (model X.prog X.w) h' (typeOf (.ref e)) cls:=by
  have:PySem.W.Looks (model X.prog X.w) h' (typeOf (.ref e)) ob.cls:=(PySem.W.Looks.ld hob).andThen .now
  rw [hobc] at this
  exact this
 refine (PySem.W.exm_one I5.kIn LT hb).here ?_
 cases b with
 | false=>exact hr pins s σ H D e T cls a0 h' I fe fT hheld hsm q
 | true =>
  refine codeAny_handlers_suite ?_
  refine lands_againW hheld λh₆ hfl₆ hsm₆=>?_
  have I6:Inv X pins σ H { s with heap:=h₆ }:=I.flown hex fe fT hfl₆.1 (hsm.trans hsm₆)
  have h6:=hs e pins _ σ H D (I6.hnd e) q
  have hxe:(Kt X e).xe=λ_ _=>False:=hx
  rw [hxe] at h6
  refine wpAny_mono h6 (λf s2 q2=>?_) λ_ _ z=>z.elim
  exact q2.unhnd I6.ok
noncomputable def Zo1 (tb:TSX) (th:THs):TS:=λD σ H=>tb D (λcls σ' H'=>th cls D σ' H') σ H
theorem Zft {body:List Stmt} {h₀:ExceptHandler} {hs:List ExceptHandler} {pos:Pos} {tb:TSX} {th:THs} (hb:PSsX false X body tb) (hh:PHs X (h₀ :: hs) th)
  (hex:X.ex=[]:=by rfl) (hstk:∃ o,X.stack=X.env :: o:=by exact ⟨_,rfl⟩) (hfr:X.env.frame=some X.env.locals:=by rfl) :
  PS X (.Try body (h₀ :: hs) [] [] pos) (Zo1 tb th):=by
 intro pins s σ H D I h
 obtain ⟨outer,hstk⟩:=hstk
 refine wpAny_Try_except (wpAny_mono (hb pins s σ H D _ I h) (λf s1 q=>?_) ?_)
 ·cases f with
  | next=>exact wpAny_execs_nil q
  | ret v=>exact q
  | brk=>exact q
  | cont=>exact q
 ·rintro ev s1 ⟨e,T,cls,a0,σ1,H1,rfl,I1,hx1,fe,fT,hT,q⟩
  obtain ⟨T,rfl⟩:∃ t,T=some t:=by
   cases T with
   | none=>exact absurd (hT rfl) Bool.false_ne_true
   | some t=>exact ⟨t,rfl⟩
  have fT:=fT T rfl
  have hf1:=Zoq I1 hx1
  have hA:X.A.frames=some (X.env :: outer):=by rw [I.ok.frames,hstk]
  have hf1':Heap.FlyingW (PySem.W.hideAll s1.heap (e :: T :: frs X.stack)) (X.env :: outer) e cls a0 s1.heap:=by
   have:=hf1
   generalize PySem.W.hideAll s1.heap (e :: T :: frs X.stack)=B at this ⊢
   rw [hstk] at this
   exact this
  refine wpAny_looks_onW hA hfr hf1' λh₄ hheld₄ hsm₄=>?_
  refine wpAny_landsW hheld₄ λh₅ hheld hsm₅'=>?_
  refine hh pins s1 σ1 H1 D e T cls a0 h₅ I1 fe fT ?_ (hsm₄.trans hsm₅') q
  generalize PySem.W.hideAll s1.heap (e :: T :: frs X.stack)=B at hheld ⊢
  rw [hstk]
  exact hheld
end
theorem FnOk.or {P:Program} {w:World} {K:W.Frag} {mg:Str->Option Value} {base:Heap} {CX:CXT} {k:Nat} {f:Addr} {fd:FuncData} {ps:List Str} {sp sp':Sp} (F:FnOk P w K mg base CX k f fd ps sp) (G:FnOk P w K mg base CX k f fd ps sp') :
  FnOk P w K mg base CX k f fd ps (λvs H Q E=>sp vs H Q E\/sp' vs H Q E) :=
 ⟨λvs H Q E q=>q.elim (F.len vs H Q E) (G.len vs H Q E),λA outer s H args us vs Q E hr he hb hv hs=>hs.elim (F.run A outer s H args us vs Q E hr he hb hv) (G.run A outer s H args us vs Q E hr he hb hv)⟩
section
variable {P:Program} {w:World} {A:Around} {E:Value->Shared->Prop} {s:Shared}
theorem Zjr (hh:A.handled=none) (it t:Addr) (hne:t≠it) (its:Array Value):Draws P w A it [it,t] its.size (λi v=>its[i]?=some v) (λi h=>IsTupIter h it t i/\IsTup h t its):=by
 refine ⟨λ_ _ st=>let ⟨o,ho,_⟩:=st.1; ⟨o,ho⟩,λ_ _ _ st k=>?_,λi s Q E hi st hQ=>?_,λs Q E st hE=>?_⟩
 ·obtain ⟨⟨o,ho,r⟩,o2,ho2,r2⟩:=st
  exact ⟨⟨o,k it (by simp) o ho,r⟩,o2,k t (by simp) o2 ho2,r2⟩
 ·obtain ⟨hit,ht⟩:=st
  obtain ⟨o,ho,hc,hd⟩:=id hit
  obtain ⟨ol,hol,_,nl,hdl⟩:=id ht
  have hx:its[i]?=some its[i]:=Array.getElem?_eq_getElem hi
  unfold Builtin.SmallTypes.nextOf
  refine Al (wpAny_callSpecial?_slot (name:=Str.ofString "__next__") hit.typeIs slot_tupleiter_next (wpAny_call_entry slot_tupleiter_next hit.typeIs entry_tupleiter_next ?_ (args_tupleiter_next _)))
  refine Al (m:=field (.ref it) 0) (wpAny_field ho hd (x:=.ref t) rfl ?_)
  show wpAny _ _ (if (Value.ref t == Value.none)=true then _ else _) _ _ s
  rw [if_neg (show ¬ ((Value.ref t == Value.none)=true) from Bool.false_ne_true)]
  refine Al (m:=field (.ref it) 1) (wpAny_field ho hd (x:=.int i 0) rfl (Al (m:=seqItems? (.ref t)) (wpAny_seqItems hol hdl ?_)))
  simp only [Int.toNat_natCast,hx]
  refine Al (wpAny_setField ho hd (by simp) (wpAny_pure ⟨its[i],rfl,wpAny_pure (hQ _ _ s.toks hx ⟨?_,(Heap.get?_update_other _ _ (Ne.symm hne)).trans hol |> λe=>⟨ol,e,‹_›,nl,hdl⟩⟩ (Heap.SameBut.update ..))⟩))
  exact ⟨_,Heap.get?_update_self _ ho (Obj.isFreed_of_fields (Obj.data_mapFields hd _)),(Obj.cls_mapFields ..).trans hc,by rw [Obj.data_mapFields hd]; simp [rawInt]⟩
 ·obtain ⟨hit,ht⟩:=st
  obtain ⟨o,ho,hc,hd⟩:=id hit
  obtain ⟨ol,hol,_,nl,hdl⟩:=id ht
  unfold Builtin.SmallTypes.nextOf
  refine Al (wpAny_callSpecial?_slot (name:=Str.ofString "__next__") hit.typeIs slot_tupleiter_next (wpAny_call_entry slot_tupleiter_next hit.typeIs entry_tupleiter_next ?_ (args_tupleiter_next _)))
  refine Al (m:=field (.ref it) 0) (wpAny_field ho hd (x:=.ref t) rfl ?_)
  show wpAny _ _ (if (Value.ref t == Value.none)=true then _ else _) _ _ s
  rw [if_neg (show ¬ ((Value.ref t == Value.none)=true) from Bool.false_ne_true)]
  refine Al (m:=field (.ref it) 1) (wpAny_field ho hd (x:=.int its.size 0) rfl (Al (m:=seqItems? (.ref t)) (wpAny_seqItems hol hdl ?_)))
  simp only [Int.toNat_natCast,Array.getElem?_eq_none (An its.size)]
  refine Al (wpAny_rule (Al (wpAny_setField ho hd (by simp) ?_)))
  refine Al (m:=newExc (.type "StopIteration") []) ?_
  simp only [newExc,newTuple]
  refine Al (wpAny_newObj_type ?_ (by size_fits))
  refine Al (m:=firstArgMember _ _) (wpAny_of_eq (a:=Value.none) (by first | rfl | (simp only [firstArgMember]; rfl)) (wpAny_newObj_type ?_ (by size_fits)))
  exact wpAny_raiseNew_none (A:=A.in1) hh (hE _ _ (((Heap.SameBut.update ..).extBut.push _).push _) ⟨_,Ap _ rfl,rfl⟩)
structure ZA (z TI TO i1 i2:Addr) (f1 f2:List Addr):Prop where
 TIz:TI≠z
 TOz:TO≠z
 i1z:i1≠z
 i2z:i2≠z
 TITO:TI≠TO
 TIi1:TI≠i1
 TIi2:TI≠i2
 TOi1:TO≠i1
 TOi2:TO≠i2
 i12:i1≠i2
 z1:z ∉ f1
 z2:z ∉ f2
 t1:TO ∉ f1
 t2:TO ∉ f2
 a1:i2 ∉ f1
 a2:i1 ∉ f2
variable {z TI TO i1 i2:Addr} {f1 f2:List Addr} {n1 n2:Nat} {P1 P2:Nat->Value->Prop} {S1 S2:Nat->Heap->Prop} {a b:Value}
theorem Zhi {k:Nat} {Q:Option Value->Shared->Prop} (D1:Draws P w A.in1 i1 f1 n1 P1 S1) (D2:Draws P w A.in1 i2 f2 n2 P2 S2) (D:ZA z TI TO i1 i2 f1 f2) (hz:IsZip s.heap z TI TO .none) (hTI:IsPair s.heap TI (.ref i1) (.ref i2)) (hTO:IsPair s.heap TO a b)
  (s1:S1 k s.heap) (s2:S2 k s.heap) (l1:k < n1) (l2:k < n2)
  (hQ:∀ x y h' tk,P1 k x->P2 k y->IsZip h' z TI TO (rawInt s.heap.objs.size)->IsPair h' TO x y->S1 (k + 1) h'->S2 (k + 1) h'->IsPair h' s.heap.objs.size x y ->
   (∀ c o,c≠z->c≠TO->c≠i1->c≠i2->s.heap.get? c=some o->h'.get? c=some o)->Q (some (.ref s.heap.objs.size)) { s with heap:=h',toks:=tk }):wpAny (model P w) A (pyNext (.ref z)) Q E s:=by
 have hT:s.TypeIs (.ref z) "zip":=⟨_,hz,rfl⟩
 unfold pyNext
 refine Al (wpAny_attempt (wpAny_callSpecial?_slot (name:=Str.ofString "__next__") hT PySem.F.slot_zip_next (wpAny_call_entry PySem.F.slot_zip_next hT PySem.F.entry_zip_next ?_ (PySem.F.args_zip_next_1 _))))
 refine Al (m:=field (.ref z) 2) (wpAny_field hz rfl (x:=.bool false) rfl ?_)
 refine Al (m:=field (.ref z) 3) (wpAny_field hz rfl (x:=.ref TI) rfl (Al (wpAny_seqItems hTI rfl ?_)))
 refine Al (m:=Builtin.SmallTypes.ownedTupleIsFree (.ref z)) ?_
 unfold Builtin.SmallTypes.ownedTupleIsFree
 refine Al (wpAny_field hz rfl (x:=.none) rfl (wpAny_pure ?_))
 simp only [if_true]
 refine Al (wpAny_rule (Al (wpAny_field hz rfl (x:=.ref TO) rfl (Al (wpAny_setField_rec hz (by simp) λg1 q1 b1=>?_)))))
 replace q1:IsZip g1 z TI TO .ellipsis:=q1
 refine Al ?_
 simp only [List.zipIdx_cons,List.zipIdx_nil,List.forIn_cons,List.forIn_nil]
 refine Al (Al (wpAny_onRaise (Al (m:=Builtin.SmallTypes.nextOf (.ref i1)) (D1.item k _ _ _ l1 (D1.frame k _ _ s1 λc hc o e=>b1.extBut c o (λq=>D.z1 (q ▸ hc)) e) λx g2 tk2 px st2 b2=>wpAny_pure ?_))))
 have r2:IsPair g2 TO a b:=b2.extBut _ _ D.TOi1 (b1.extBut _ _ D.TOz hTO)
 refine Al (wpAny_seqItems r2 rfl (Al (wpAny_updateSeq_pair r2 λg3 r3 b3=>Al (wpAny_letGo (wpAny_pure ?_)))))
 replace r3:IsPair g3 TO x b:=r3
 have st3:S2 k g3:=D2.frame k _ _ s2 λc hc o e=>b3.extBut c o (λq=>D.t2 (q ▸ hc)) (b2.extBut c o (λq=>D.a2 (q ▸ hc)) (b1.extBut c o (λq=>D.z2 (q ▸ hc)) e))
 refine Al (Al (wpAny_onRaise (Al (m:=Builtin.SmallTypes.nextOf (.ref i2)) (D2.item k _ _ _ l2 st3 λy g4 tk4 py st4 b4=>wpAny_pure ?_))))
 have r4:IsPair g4 TO x b:=b4.extBut _ _ D.TOi2 r3
 refine Al (wpAny_seqItems r4 rfl (Al (wpAny_updateSeq_pair r4 λg5 r5 b5=>Al (wpAny_letGo (wpAny_pure (wpAny_pure ?_))))))
 replace r5:IsPair g5 TO x y:=r5
 refine Al (wpAny_seqItems r5 rfl (Al (wpAny_newTuple ?_)))
 have sz:g5.objs.size=s.heap.objs.size:=by rw [b5.1,b4.1,b3.1,b2.1,b1.1]
 have q5:IsZip g5 z TI TO .ellipsis:=b5.extBut _ _ D.TOz.symm (b4.extBut _ _ D.i2z.symm (b3.extBut _ _ D.TOz.symm (b2.extBut _ _ D.i1z.symm q1)))
 have k5:∀ c o,c≠z->c≠TO->c≠i1->c≠i2->s.heap.get? c=some o->g5.get? c=some o:=λc o c1 c2 c3 c4 e=>b5.extBut _ _ c2 (b4.extBut _ _ c4 (b3.extBut _ _ c2 (b2.extBut _ _ c3 (b1.extBut _ _ c1 e))))
 have u1:S1 (k + 1) g5:=D1.frame _ _ _ st2 λc hc o e=>b5.extBut c o (λq=>D.t1 (q ▸ hc)) (b4.extBut c o (λq=>D.a1 (q ▸ hc)) (b3.extBut c o (λq=>D.t1 (q ▸ hc)) e))
 have u2:S2 (k + 1) g5:=D2.frame _ _ _ st4 λc hc o e=>b5.extBut c o (λq=>D.t2 (q ▸ hc)) e
 have zl:z < g5.objs.size:=Ao q5
 refine Al (m:=Builtin.SmallTypes.ownedTupleHandOut (.ref z) (.ref g5.objs.size)) ?_
 unfold Builtin.SmallTypes.ownedTupleHandOut
 refine Al (wpAny_setField_rec (show IsZip (g5.push { cls:=.type "tuple",data:=.seq #[x,y] }) z TI TO .ellipsis from Ak _ q5) (by simp) λg7 q7 b7=>?_)
 replace q7:IsZip g7 z TI TO (rawInt g5.objs.size):=q7
 refine wpAny_setField_rec q7 (by simp) λg8 q8 b8=>?_
 replace q8:IsZip g8 z TI TO (rawInt g5.objs.size):=q8
 have up:∀ c o,c≠z->g5.get? c=some o->g8.get? c=some o:=λc o c1 e=>b8.extBut _ _ c1 (b7.extBut _ _ c1 (Ak _ e))
 have r8:IsPair g8 g5.objs.size x y:=b8.extBut _ _ (Nat.ne_of_gt zl) (b7.extBut _ _ (Nat.ne_of_gt zl) (Ap _ rfl))
 rw [sz] at q8 r8
 refine wpAny_pure ⟨_,rfl,wpAny_pure ?_⟩
 show Q (some (.ref g5.objs.size)) _
 rw [sz]
 exact hQ x y g8 tk4 px py q8 (up _ _ D.TOz r5) (D1.frame _ _ _ u1 λc hc o e=>up c o (λq=>D.z1 (q ▸ hc)) e) (D2.frame _ _ _ u2 λc hc o e=>up c o (λq=>D.z2 (q ▸ hc)) e) r8 λc o c1 c2 c3 c4 e=>up c o c1 (k5 c o c1 c2 c3 c4 e)
theorem Zj5 {k:Nat} {Q:Option Value->Shared->Prop} (D1:Draws P w A.in1 i1 f1 n1 P1 S1) (D2:Draws P w A.in1 i2 f2 n2 P2 S2) (D:ZA z TI TO i1 i2 f1 f2) (hz:IsZip s.heap z TI TO .none) (hTI:IsPair s.heap TI (.ref i1) (.ref i2)) (hTO:IsPair s.heap TO a b)
  (s1:S1 k s.heap) (s2:S2 k s.heap) (l1:k=n1\/k < n1/\k=n2)
  (hQ:∀ h' tk,(∀ c o,c≠z->c≠TO->c≠i1->c≠i2->s.heap.get? c=some o->h'.get? c=some o)->Q none { s with heap:=h',toks:=tk }):wpAny (model P w) A (pyNext (.ref z)) Q E s:=by
 have hT:s.TypeIs (.ref z) "zip":=⟨_,hz,rfl⟩
 have fin:∀ (h':Heap) (tk:Nat) (e:Addr),(∀ c o,c≠z->c≠TO->c≠i1->c≠i2->s.heap.get? c=some o->h'.get? c=some o)->(∃ o,h'.get? e=some o/\o.cls=.type "StopIteration") ->
   wpAny (model P w) A (do if <- isInstance (.ref e) (.type "StopIteration") then pure (none:Option Value) else throw (.ref e)) Q E { s with heap:=h',toks:=tk }:=λh' tk e kp ⟨o,ho,hc⟩ =>
  Al (wpAny_isInstance (T:="StopIteration") (b:=true) ⟨o,ho,hc⟩ isSubtype_stop (wpAny_pure (hQ _ _ kp)))
 unfold pyNext
 refine Al (wpAny_attempt (wpAny_callSpecial?_slot (name:=Str.ofString "__next__") hT PySem.F.slot_zip_next (wpAny_call_entry PySem.F.slot_zip_next hT PySem.F.entry_zip_next ?_ (PySem.F.args_zip_next_1 _))))
 refine Al (m:=field (.ref z) 2) (wpAny_field hz rfl (x:=.bool false) rfl ?_)
 refine Al (m:=field (.ref z) 3) (wpAny_field hz rfl (x:=.ref TI) rfl (Al (wpAny_seqItems hTI rfl ?_)))
 refine Al (m:=Builtin.SmallTypes.ownedTupleIsFree (.ref z)) ?_
 unfold Builtin.SmallTypes.ownedTupleIsFree
 refine Al (wpAny_field hz rfl (x:=.none) rfl (wpAny_pure ?_))
 simp only [if_true]
 refine Al (wpAny_rule (Al (wpAny_field hz rfl (x:=.ref TO) rfl (Al (wpAny_setField_rec hz (by simp) λg1 q1 b1=>?_)))))
 replace q1:IsZip g1 z TI TO .ellipsis:=q1
 refine Al ?_
 simp only [List.zipIdx_cons,List.zipIdx_nil,List.forIn_cons,List.forIn_nil]
 have st1:S1 k g1:=D1.frame k _ _ s1 λc hc o e=>b1.extBut c o (λq=>D.z1 (q ▸ hc)) e
 rcases l1 with rfl | ⟨l1,rfl⟩
 ·refine Al (Al (wpAny_onRaise (Al (m:=Builtin.SmallTypes.nextOf (.ref i1)) (D1.done _ _ _ st1 λg2 e b2 ⟨oe,hoe,hce⟩=>?_))))
  have q2:IsZip g2 z TI TO .ellipsis:=b2 _ _ D.i1z.symm q1
  have ez:e≠z:=λx=>by subst x; rw [q2] at hoe; cases hoe; simp at hce
  exact wpAny_setField_rec q2 (by simp) λg3 _ b3=>fin g3 s.toks e (λc o c1 _ c3 _ x=>b3.extBut _ _ c1 (b2 _ _ c3 (b1.extBut _ _ c1 x))) ⟨oe,b3.extBut _ _ ez hoe,hce⟩
 ·refine Al (Al (wpAny_onRaise (Al (m:=Builtin.SmallTypes.nextOf (.ref i1)) (D1.item k _ _ _ l1 st1 λx g2 tk2 px st2 b2=>wpAny_pure ?_))))
  have r2:IsPair g2 TO a b:=b2.extBut _ _ D.TOi1 (b1.extBut _ _ D.TOz hTO)
  refine Al (wpAny_seqItems r2 rfl (Al (wpAny_updateSeq_pair r2 λg3 r3 b3=>Al (wpAny_letGo (wpAny_pure ?_)))))
  have st3:S2 k g3:=D2.frame k _ _ s2 λc hc o e=>b3.extBut c o (λq=>D.t2 (q ▸ hc)) (b2.extBut c o (λq=>D.a2 (q ▸ hc)) (b1.extBut c o (λq=>D.z2 (q ▸ hc)) e))
  refine Al (Al (wpAny_onRaise (Al (m:=Builtin.SmallTypes.nextOf (.ref i2)) (D2.done _ _ _ st3 λg4 e b4 zz9=>?_))))
  obtain ⟨oe,hoe,hce⟩:=zz9
  have q4:IsZip g4 z TI TO .ellipsis:=b4 _ _ D.i2z.symm (b3.extBut _ _ D.TOz.symm (b2.extBut _ _ D.i1z.symm q1))
  have ez:e≠z:=λx=>by subst x; rw [q4] at hoe; cases hoe; simp at hce
  exact wpAny_setField_rec q4 (by simp) λg5 _ b5=>fin g5 tk2 e (λc o c1 c2 c3 c4 x=>b5.extBut _ _ c1 (b4 _ _ c4 (b3.extBut _ _ c2 (b2.extBut _ _ c3 (b1.extBut _ _ c1 x))))) ⟨oe,b5.extBut _ _ ez hoe,hce⟩
end
inductive ZS where
 | l (a:Addr)
 | t (a:Addr)
 | s (x:Str)
noncomputable def ZS.ad:ZS->List Addr
 | .l a=>[a]
 | .t a=>[a]
 | .s _=>[]
noncomputable def ZS.has (K:W.Frag) (H:Hp) (S:ZS) (xs:List V):Prop:=match S with
 | .l a=>SqL K H a xs
 | .t a=>SqT K H a xs
 | .s x=>x.cps.all (· < 128)=true/\xs=x.cps.toList.map λc=>V.str ⟨#[c]⟩
noncomputable def ZS.it (S:ZS) (i:Addr) (k:Nat) (h:Heap):Prop:=match S with
 | .l a=>h.IsListIter i a k
 | .t a=>IsTupIter h i a k
 | .s x=>∃ t,h.IsStrIter i "str_ascii_iterator" x t k
noncomputable def ZS.v:ZS->V
 | .l a=>.ref a
 | .t a=>.ref a
 | .s x=>.str x
theorem ZS.it_obj {S:ZS} {i:Addr} {k:Nat} {h:Heap} (st:S.it i k h):∃ o,h.get? i=some o/\∀ v,o.data≠.cell v:=by
 cases S with
 | l a=>obtain ⟨o,e,_,d⟩:=st; exact ⟨o,e,λv z=>by rw [d] at z; cases z⟩
 | t a=>obtain ⟨o,e,_,d⟩:=st; exact ⟨o,e,λv z=>by rw [d] at z; cases z⟩
 | s x=>obtain ⟨t,o,e,_,d⟩:=st; exact ⟨o,e,λv z=>by rw [d] at z; cases z⟩
theorem ZS.it_keep {S:ZS} {i:Addr} {k:Nat} {h h':Heap} (st:S.it i k h) (kp:∀ o,h.get? i=some o->h'.get? i=some o):S.it i k h':=by
 cases S with
 | l a=>obtain ⟨o,e,r⟩:=st; exact ⟨o,kp o e,r⟩
 | t a=>obtain ⟨o,e,r⟩:=st; exact ⟨o,kp o e,r⟩
 | s x=>obtain ⟨t,o,e,r⟩:=st; exact ⟨t,o,kp o e,r⟩
theorem ZS.has_inj {X:Cx} {pins:List (Addr × Obj)} {σ:List (Option V)} {H:Hp} {s:Shared} (I:Inv X pins σ H s) {S:ZS} {xs ys:List V} (h1:S.has X.K H xs) (h2:S.has X.K H ys):xs=ys:=by
 cases S with
 | l a=>exact I.list_inj h1 h2
 | t a=>exact I.tuple_inj h1 h2
 | s x=>rw [h1.2,h2.2]
section
variable {X:Cx} {pins:List (Addr × Obj)} {σ:List (Option V)} {H:Hp} {s:Shared}
theorem ZS.draws (I:Inv X pins σ H s) {A:Around} (hh:A.handled=none) {S:ZS} {xs:List V} (h:S.has X.K H xs) {i:Addr} (hi:i ∉ S.ad) {k:Nat} (st:S.it i k s.heap) :
  ∃ (P1:Nat->Value->Prop) (St:Nat->Heap->Prop),Draws X.prog X.w A i (i :: S.ad) xs.length P1 St/\St k s.heap/\(∀ k h,St k h->S.it i k h)/\∀ (k:Nat) (v:Value) (x:V),P1 k v->xs[k]?=some x->RelV x v:=by
 cases S with
 | l a =>
  obtain ⟨its,rv,pl,_⟩:=I.list h
  have hl:xs.length=its.toArray.size:=by rw [Aq]; exact rv.length
  have hne:a≠i:=λz=>hi (by rw [z]; exact List.mem_singleton.mpr rfl)
  refine ⟨_,_,hl ▸ Draws.list hh i a hne its.toArray,⟨st,pl.isList⟩,λk h st=>st.1,λk v x hv hx=>?_⟩
  obtain ⟨u,hu,ru⟩:=rv.get hx
  have:its.toArray[k]?=some v:=hv
  rw [List.getElem?_toArray,hu] at this
  cases this
  exact ru
 | t a =>
  obtain ⟨its,rv,pl,_⟩:=I.tuple h
  have hl:xs.length=its.toArray.size:=by rw [Aq]; exact rv.length
  have hne:a≠i:=λz=>hi (by rw [z]; exact List.mem_singleton.mpr rfl)
  refine ⟨_,_,hl ▸ Zjr hh i a hne its.toArray,⟨st,pl⟩,λk h st=>st.1,λk v x hv hx=>?_⟩
  obtain ⟨u,hu,ru⟩:=rv.get hx
  have:its.toArray[k]?=some v:=hv
  rw [List.getElem?_toArray,hu] at this
  cases this
  exact ru
 | s x =>
  obtain ⟨ha,rfl⟩:=h
  obtain ⟨t,st⟩:=st
  have hl:(x.cps.toList.map λc=>V.str ⟨#[c]⟩).length=x.cps.size:=by rw [Ab,Array.length_toList]
  refine ⟨_,_,hl ▸ Draws.strAscii hh i x t,st,λk h st=>⟨t,st⟩,λk v y hv hy=>?_⟩
  obtain ⟨c,u,hc,rfl⟩:=hv
  rw [Ah,Array.getElem?_toList,hc] at hy
  cases hy
  exact ⟨u,rfl⟩
end
noncomputable def Itz2 (K:W.Frag) (S T:ZS):It :=
  ⟨λi H=>∃ xs ys x y,S.has K H xs/\T.has K H ys/\xs[i]?=some x/\ys[i]?=some y,
   λi H v H'=>∃ q x y,H q=none/\v=.ref q/\(∀ xs,S.has K H xs->xs[i]?=some x)/\(∀ ys,T.has K H ys->ys[i]?=some y)/\H'=upd H q (.tup [x,y]),
   λi H=>∃ xs ys,S.has K H xs/\T.has K H ys/\i=xs.length/\xs.length=ys.length⟩
theorem Zho {P:Program} {w:World} {K:W.Frag} {elts:List Expr} {x1:Nat} {pos:Pos} (S T:ZS) (z TI TO i1 i2:Addr) (D:ZA z TI TO i1 i2 (i1 :: S.ad) (i2 :: T.ad)) (h1:i1 ∉ S.ad) (h2:i2 ∉ T.ad) :
  Turn P w K (.Tuple elts x1 pos) (Itz2 K S T) [z,TI,TO,i1,i2] z (λi h=>IsZip h z TI TO .none/\IsPair h TI (.ref i1) (.ref i2)/\(∃ u v,IsPair h TO u v)/\S.it i1 i h/\T.it i2 i h) where
 mem:=by simp
 obj:=λi h st c hc=>by
  obtain ⟨s1,s2,⟨u,v,s3⟩,s4,s5⟩:=st
  have hc:c=z\/c=TI\/c=TO\/c=i1\/c=i2:=by simpa using hc
  rcases hc with rfl | rfl | rfl | rfl | rfl
  ·exact ⟨_,s1,λv y=>by have y':Data.fields _=Data.cell v:=y; cases y'⟩
  ·exact ⟨_,s2,λv y=>by have y':Data.seq _ _=Data.cell v:=y; cases y'⟩
  ·exact ⟨_,s3,λv y=>by have y':Data.seq _ _=Data.cell v:=y; cases y'⟩
  ·exact ZS.it_obj s4
  ·exact ZS.it_obj s5
 keep:=λi h h' st k=>by
  obtain ⟨s1,s2,⟨u,v,s3⟩,s4,s5⟩:=st
  exact ⟨k z (by simp) _ s1,k TI (by simp) _ s2,⟨u,v,k TO (by simp) _ s3⟩,ZS.it_keep s4 λo e=>k i1 (by simp) o e,ZS.it_keep s5 λo e=>k i2 (by simp) o e⟩
 item:=by
  intro X hP hw hK hc i pins s σ H E I hf st hg
  subst hP hw hK
  obtain ⟨xs,ys,x,y,hqx,hqy,hx,hy⟩:=hg
  obtain ⟨s1,s2,⟨u0,v0,s3⟩,s4,s5⟩:=st
  have hh:X.A.in1.handled=none:=I.ok.hd hc
  obtain ⟨P1,St1,D1,t1,k1,r1⟩:=ZS.draws I hh hqx h1 s4
  obtain ⟨P2,St2,D2,t2,k2,r2⟩:=ZS.draws I hh hqy h2 s5
  refine Zhi D1 D2 D s1 s2 s3 t1 t2 (Aa hx).1 (Aa hy).1 λu v h' tk pu pv a1 a2 a3 a4 a5 a7=>?_
  have ru:=r1 i u x pu hx
  have rv:=r2 i v y pv hy
  refine ⟨.ref s.heap.objs.size,rfl,wpAny_letOwnedTupleGo_zip (s:={ s with heap:=h',toks:=tk }) a1 λh'' b1 sb=>?_⟩
  replace sb:Heap.SameBut z h' h'':=sb
  have lt:∀ c∈[z,TI,TO,i1,i2],c < s.heap.objs.size:=λc hc=>by
   have hc:c=z\/c=TI\/c=TO\/c=i1\/c=i2:=by simpa using hc
   rcases hc with rfl | rfl | rfl | rfl | rfl
   ·exact Ao s1
   ·exact Ao s2
   ·exact Ao s3
   ·obtain ⟨o,e,_⟩:=ZS.it_obj s4; exact Ao e
   ·obtain ⟨o,e,_⟩:=ZS.it_obj s5; exact Ao e
  have keepb:∀ c o,c≠z->c≠TO->c≠i1->c≠i2->s.heap.get? c=some o->h''.get? c=some o:=λc o n1 n2 n3 n4 e=>(sb.2 c n1).trans (a7 c o n1 n2 n3 n4 e)
  have ht'':h''.get? s.heap.objs.size=some { cls:=.type "tuple",data:=.seq #[u,v] }:=(sb.2 _ (Nat.ne_of_gt (lt z (by simp)))).trans a5
  have hn:H s.heap.objs.size=none:=I.hok.fresh (An _)
  have I2:Inv X pins σ (upd H s.heap.objs.size (.tup [x,y])) { s with heap:=h'',toks:=tk }:=by
   have out:∀ c,c ∉ [z,TO,i1,i2]->c≠z/\c≠TO/\c≠i1/\c≠i2:=λc hc=>by simpa using hc
   refine I.step (g':=s.gens) (d':=s.drawn) (ch:=[z,TO,i1,i2]) (λc hc=>?_) (λc o _ _ hc q _=>?_) (λc o _ _ hc q _=>⟨o.slots,?_⟩) (λc o _ q n=>by rw [Zd (As (Ao q))]; exact n)
    (λc o hc q=>⟨o,?_⟩) (λc zs q=>by rw [Zd (Zi q hn)]; exact q) (λc o zs q=>by rw [Zd (Zi q hn)]; exact q) (λc ps q=>⟨#[],by rw [Zd (Zi q hn),q]; simp⟩) (λm hm=>?_) (λc v' q=>?_) I.bare
   ·have hc:c=z\/c=TO\/c=i1\/c=i2:=by simpa using hc
    have hm:c∈[z,TI,TO,i1,i2]:=by rcases hc with rfl | rfl | rfl | rfl <;> simp
    obtain ⟨f0,f1,f2,f3,f4,f5⟩:=hf c hm
    exact ⟨f3,f1,f4,f5⟩
   ·obtain ⟨n1,n2,n3,n4⟩:=out c hc; exact keepb c o n1 n2 n3 n4 q
   ·obtain ⟨n1,n2,n3,n4⟩:=out c hc; exact keepb c o n1 n2 n3 n4 q
   ·obtain ⟨n1,n2,n3,n4⟩:=out c hc; exact keepb c o n1 n2 n3 n4 q
   ·obtain ⟨o,es,ep,ho,r⟩:=hm
    exact ⟨o,es,ep,keepb _ o (Ne.symm (hf z (by simp)).2.1) (Ne.symm (hf TO (by simp)).2.1) (Ne.symm (hf i1 (by simp)).2.1) (Ne.symm (hf i2 (by simp)).2.1) ho,r⟩
   ·by_cases hb:c=s.heap.objs.size
    ·subst hb
     rw [Zc] at q
     cases q
     exact ⟨by show 2<=sizeLine; decide,[u,v],.cons ru (.cons rv .nil),⟨_,ht'',rfl,_,rfl⟩⟩
    ·rw [Zd hb] at q
     refine (I.hok c v' q).stay (λe w' he y'=>keepb e w' ?_ ?_ ?_ ?_ y') (λd y'=>by rw [Zd (Zi y' hn)]; exact y') λd zs y'=>by rw [Zd (Zi y' hn)]; exact y'
     all_goals
      rintro rfl
      have hz0:H e=none:=(hf e (by simp)).1
      rcases he with y' | y'
      ·rw [y',q] at hz0; cases hz0
      ·rw [hz0] at y'; cases y'
  refine ⟨.ref s.heap.objs.size,_,I2,rfl,⟨_,x,y,hn,rfl,λzs hz=>by rw [ZS.has_inj I hz hqx]; exact hx,λzs hz=>by rw [ZS.has_inj I hz hqy]; exact hy,rfl⟩,
   ⟨b1,(sb.2 TI D.TIz).trans (a7 TI _ D.TIz D.TITO D.TIi1 D.TIi2 s2),⟨u,v,(sb.2 TO D.TOz).trans a2⟩,ZS.it_keep (k1 _ _ a3) λo e=>(sb.2 i1 D.i1z).trans e,ZS.it_keep (k2 _ _ a4) λo e=>(sb.2 i2 D.i2z).trans e⟩,λc hc=>?_⟩
  rw [Zd (As (lt c hc))]
  exact (hf c hc).1
 done:=by
  intro X hP hw hK hc i pins s σ H E I hf st hg
  subst hP hw hK
  obtain ⟨xs,ys,hqx,hqy,e1,e2⟩:=hg
  obtain ⟨s1,s2,⟨u0,v0,s3⟩,s4,s5⟩:=st
  have hh:X.A.in1.handled=none:=I.ok.hd hc
  obtain ⟨P1,St1,D1,t1,k1,r1⟩:=ZS.draws I hh hqx h1 s4
  obtain ⟨P2,St2,D2,t2,k2,r2⟩:=ZS.draws I hh hqy h2 s5
  refine Zj5 D1 D2 D s1 s2 s3 t1 t2 (.inl e1) λh' tk eb=>⟨rfl,?_⟩
  ·have out:∀ c,c ∉ [z,TO,i1,i2]->c≠z/\c≠TO/\c≠i1/\c≠i2:=λc hc=>by simpa using hc
   refine I.step (g':=s.gens) (d':=s.drawn) (t':=tk) (ch:=[z,TO,i1,i2]) (λc hc=>?_) (λc o _ _ hc q _=>?_) (λc o _ _ hc q _=>⟨o.slots,?_⟩) (λc o _ q n=>n)
    (λc o hc q=>⟨o,?_⟩) (λc zs q=>q) (λc o zs q=>q) (λc ps q=>⟨#[],by rw [q]; simp⟩) (λm hm=>?_) (λc v' q=>?_) I.bare
   ·have hc:c=z\/c=TO\/c=i1\/c=i2:=by simpa using hc
    have hm:c∈[z,TI,TO,i1,i2]:=by rcases hc with rfl | rfl | rfl | rfl <;> simp
    obtain ⟨f0,f1,f2,f3,f4,f5⟩:=hf c hm
    exact ⟨f3,f1,f4,f5⟩
   ·obtain ⟨n1,n2,n3,n4⟩:=out c hc; exact eb c o n1 n2 n3 n4 q
   ·obtain ⟨n1,n2,n3,n4⟩:=out c hc; exact eb c o n1 n2 n3 n4 q
   ·obtain ⟨n1,n2,n3,n4⟩:=out c hc; exact eb c o n1 n2 n3 n4 q
   ·obtain ⟨o,es,ep,ho,r⟩:=hm
    exact ⟨o,es,ep,eb _ o (Ne.symm (hf z (by simp)).2.1) (Ne.symm (hf TO (by simp)).2.1) (Ne.symm (hf i1 (by simp)).2.1) (Ne.symm (hf i2 (by simp)).2.1) ho,r⟩
   ·refine (I.hok c v' q).stay (λe w' he y'=>eb e w' ?_ ?_ ?_ ?_ y') (λd y'=>y') λd zs y'=>y'
    all_goals
     rintro rfl
     have hz0:H e=none:=(hf e (by simp)).1
     rcases he with y' | y'
     ·rw [y',q] at hz0; cases hz0
     ·rw [hz0] at y'; cases y'
 self:=λ_ _ _ _ _ st h=>wpAny_pyIter_zip st.1 h
section
variable {P:Program} {w:World}
noncomputable def Zer (P:Program) (w:World) (v:Value) (o:Obj) (C:Heap->Prop):Prop:=(∀ h u,C h->C (h.push u))/\∀ (A:Around) (E:Value->Shared->Prop) (s:Shared) (Q:Value->Shared->Prop),C s.heap->Q (.ref s.heap.objs.size) { s with heap:=s.heap.push o }->wpAny (model P w) A (pyIter v) Q E s
theorem Zjy {A:Around} {E:Value->Shared->Prop} {s:Shared} {v1 v2:Value} {o1 o2:Obj} {C1 C2:Heap->Prop} {Q:Value->Shared->Prop} (I1:Zer P w v1 o1 C1) (I2:Zer P w v2 o2 C2) (c1:C1 s.heap) (c2:C2 s.heap)
  (h:∀ h',IsZip h' (s.heap.objs.size + 4) (s.heap.objs.size + 2) (s.heap.objs.size + 3) .none->IsPair h' (s.heap.objs.size + 2) (.ref s.heap.objs.size) (.ref (s.heap.objs.size + 1)) ->
   IsPair h' (s.heap.objs.size + 3) .none .none->h'.get? s.heap.objs.size=some o1->h'.get? (s.heap.objs.size + 1)=some o2->(∀ c o,s.heap.get? c=some o->h'.get? c=some o)->Q (.ref (s.heap.objs.size + 4)) { s with heap:=h' }) (f1:o1.isFreed=false) (f2:o2.isFreed=false) :
  wpAny (model P w) A (call (.type "zip") [v1,v2]) Q E s:=by
 have M:MeetsIn P w (Builtin.«zip.__new__» ⟨[.type "zip",v1,v2],[]⟩) (λ_ R s=>C1 s.heap/\C2 s.heap/\R (.ok (.ret (.ref ((((s.heap.push o1).push o2).push { cls:=.type "tuple",data:=.seq #[.ref s.heap.objs.size,.ref (s.heap.push o1).objs.size] }).push { cls:=.type "tuple",data:=.seq #[.none,.none] }).objs.size)))
   { s with heap:=((((s.heap.push o1).push o2).push { cls:=.type "tuple",data:=.seq #[.ref s.heap.objs.size,.ref (s.heap.push o1).objs.size] }).push { cls:=.type "tuple",data:=.seq #[.none,.none] }).push { cls:=.type "zip",data:=.fields #[.none,.bool false,.bool false,.ref ((s.heap.push o1).push o2).objs.size,.ref (((s.heap.push o1).push o2).push { cls:=.type "tuple",data:=.seq #[.ref s.heap.objs.size,.ref (s.heap.push o1).objs.size] }).objs.size] } }):=by
  refine .of_wp λA R s h=>?_
  obtain ⟨hp,g,d,tk,os⟩:=s
  obtain ⟨q1,q2,h⟩:=h
  have hsub:=sub_zip
  have W1:∀ (A:Around) (E:Value->Shared->Prop) (Q:Value->Shared->Prop),Q (.ref hp.objs.size) ⟨hp.push o1,g,d,tk,os⟩->wpAny (model P w) A (pyIter v1) Q E ⟨hp,g,d,tk,os⟩:=λA E Q q=>I1.2 A E _ Q q1 q
  have W2:∀ (A:Around) (E:Value->Shared->Prop) (Q:Value->Shared->Prop),Q (.ref (hp.push o1).objs.size) ⟨(hp.push o1).push o2,g,d,tk,os⟩->wpAny (model P w) A (pyIter v2) Q E ⟨hp.push o1,g,d,tk,os⟩:=λA E Q q=>I2.2 A E _ Q (I2.1 _ _ q2) q
  wp_walk using W1 _ _ _,W2 _ _ _
  exact ⟨_,rfl,h⟩
 refine callType_newIn PySem.F.called_zip (by decide) (by kernel_rfl) (by kernel_rfl) (λobj=>PySem.F.args_object_init_3 obj _ _) PySem.F.entry_zip_new M ⟨c1,c2,?_⟩
 generalize hN:s.heap.objs.size=N at *
 have z1:(s.heap.push o1).objs.size=N + 1:=by rw [Heap.size_push,hN]
 have z2:((s.heap.push o1).push o2).objs.size=N + 2:=by rw [Heap.size_push,z1]
 generalize hT1:({ cls:=.type "tuple",data:=.seq #[.ref N,.ref (s.heap.push o1).objs.size] }:Obj)=T1
 have z3:(((s.heap.push o1).push o2).push T1).objs.size=N + 3:=by rw [Heap.size_push,z2]
 generalize hT2:({ cls:=.type "tuple",data:=.seq #[.none,.none] }:Obj)=T2
 have z4:((((s.heap.push o1).push o2).push T1).push T2).objs.size=N + 4:=by rw [Heap.size_push,z3]
 have e1:(s.heap.push o1).get? N=some o1:=by rw [<- hN]; exact Ap _ f1
 have e2:((s.heap.push o1).push o2).get? (N + 1)=some o2:=by rw [<- z1]; exact Ap _ f2
 have e3:(((s.heap.push o1).push o2).push T1).get? (N + 2)=some T1:=by rw [<- z2]; exact Ap _ (by rw [<- hT1]; rfl)
 have e4:((((s.heap.push o1).push o2).push T1).push T2).get? (N + 3)=some T2:=by rw [<- z3]; exact Ap _ (by rw [<- hT2]; rfl)
 rw [z4,z3,z2]
 generalize hZ:({ cls:=.type "zip",data:=.fields #[.none,.bool false,.bool false,.ref (N + 2),.ref (N + 3)] }:Obj)=Z
 have e5:(((((s.heap.push o1).push o2).push T1).push T2).push Z).get? (N + 4)=some Z:=by rw [<- z4]; exact Ap _ (by rw [<- hZ]; rfl)
 refine ⟨⟨_,e5,by rw [<- hZ]⟩,h _ (e5.trans (by rw [<- hZ])) (by
  have:=Ak Z (Ak T2 e3)
  rw [<- hT1,z1] at this
  rw [<- hT1,z1]
  exact this) (by
  have:=Ak Z e4
  rw [<- hT2] at this ⊢
  exact this) (Ak _ (Ak _ (Ak _ (Ak _ e1)))) (Ak _ (Ak _ (Ak _ e2))) λc o x=>Ak _ (Ak _ (Ak _ (Ak _ (Ak _ x))))⟩
end
section
variable {X:Cx} {pins:List (Addr × Obj)} {σ:List (Option V)} {H:Hp} {s:Shared}
theorem ZS.iter (I:Inv X pins σ H s) {S:ZS} {xs:List V} (h:S.has X.K H xs) {v:Value} (r:RelV S.v v):∃ (o:Obj) (C:Heap->Prop),Zer X.prog X.w v o C/\C s.heap/\o.isFreed=false/\(∀ (h:Heap) (i:Addr),h.get? i=some o->S.it i 0 h)/\∀ a∈S.ad,a < s.heap.objs.size:=by
 cases S with
 | l a =>
  obtain ⟨its,rv,pl,_⟩:=I.list h
  cases r
  refine ⟨_,λh=>h.IsList a its.toArray,⟨λh u c=>c.push u,λA E s Q c q=>wpAny_pyIter_list c q⟩,pl.isList,rfl,λh i e=>⟨_,e,rfl,rfl⟩,λb hb=>?_⟩
  obtain ⟨o,ho,_⟩:=pl.isList
  rw [Af hb]
  exact Ao ho
 | t a =>
  obtain ⟨its,rv,pl,_⟩:=I.tuple h
  cases r
  refine ⟨_,λh=>IsTup h a its.toArray,⟨λh u c=>c.keeps λb o e=>Ak _ e,λA E s Q c q=>iter_tuple c q⟩,pl,rfl,λh i e=>⟨_,e,rfl,rfl⟩,λb hb=>?_⟩
  rw [Af hb]
  exact pl.lt
 | s x =>
  obtain ⟨ha,rfl⟩:=h
  obtain ⟨t,rfl⟩:=r
  exact ⟨_,λ_=>True,⟨λh u c=>trivial,λA E s Q c q=>wpAny_pyIter_ascii ha q⟩,trivial,rfl,λh i e=>⟨t,_,e,rfl,rfl⟩,λb hb=>absurd hb List.not_mem_nil⟩
theorem Zns {N:Nat} {f g:List Addr} (h1:∀ a∈f,a < N) (h2:∀ a∈g,a < N):ZA (N + 4) (N + 2) (N + 3) N (N + 1) (N :: f) ((N + 1) :: g):=by
 have nf:∀ k,N + k ∉ f:=λk z=>absurd (h1 _ z) (Nat.not_lt.mpr (Nat.le_add_right _ _))
 have ng:∀ k,N + k ∉ g:=λk z=>absurd (h2 _ z) (Nat.not_lt.mpr (Nat.le_add_right _ _))
 have e:∀ {i j:Nat},i≠j->N + i≠N + j:=λh z=>h (Nat.add_left_cancel z)
 have c1:∀ {k:Nat} {f:List Addr} {i:Addr},N + k≠i->N + k ∉ f->N + k ∉ i :: f:=λh1 h2 z=>by
  rcases Ar z with q | q
  ·exact h1 q
  ·exact h2 q
 exact ⟨e (by decide),e (by decide),e (i:=0) (by decide),e (by decide),e (by decide),e (j:=0) (by decide),e (by decide),e (j:=0) (by decide),e (by decide),e (i:=0) (by decide),c1 (e (j:=0) (by decide)) (nf 4),c1 (e (by decide)) (ng 4),c1 (e (j:=0) (by decide)) (nf 3),c1 (e (by decide)) (ng 3),c1 (e (j:=0) (by decide)) (nf 1),c1 (k:=0) (e (by decide)) (ng 0)⟩
noncomputable def Zpp (K:W.Frag) (ta:TA):TI:=λσ H R=>ta σ H λvs H1=>∃ (S T:ZS) (xs ys:List V),vs=[S.v,T.v]/\S.has K H1 xs/\T.has K H1 ys/\R (Itz2 K S T) H1
theorem Zmw {elts:List Expr} {x1:Nat} {tpos p pos:Pos} {l m:Expr} {ta:TA} (hg:Gl X "zip") (hm:X.mg "zip"=none) (ha:PA X [l,m] ta) (hs:starEach [l,m] X.env=[(false,eval l X.env),(false,eval m X.env)]:=by rfl) (hs2:starEach [m] X.env=[(false,eval m X.env)]:=by rfl) :
  PI X (.Tuple elts x1 tpos) (.Call (.Name "zip" p) [l,m] [] pos) (Zpp X.K ta):=by
 intro pins s σ H R I h
 refine Call_ (Wf I hg hm boot_zip (PyProof.Rows.callWith_type1 (thn (ha pos pins s σ H _ I h) λus s1 ⟨vs,H1,I1,r1,q1⟩=>?_) (by rw [hs,hs2]) (by rw [hs2]; rfl)))
 obtain ⟨S,T,xs,ys,e,hqx,hqy,q⟩:=q1
 subst e
 obtain ⟨u,v,rfl,ru,rv⟩:=r1.two
 obtain ⟨o1,C1,i1,c1,f1,t1,l1⟩:=ZS.iter I1 hqx ru
 obtain ⟨o2,C2,i2,c2,f2,t2,l2⟩:=ZS.iter I1 hqy rv
 refine Zjy i1 i2 c1 c2 (λh' z1 z2 z3 z4 z5 z7=>wpAny_pyIter_zip z1 ?_) f1 f2
 have I2:Inv X pins σ H1 { s1 with heap:=h' }:=I1.kept (t':=s1.toks) z7
 generalize hN:s1.heap.objs.size=N at *
 have n1:N ∉ S.ad:=λz=>Nat.lt_irrefl _ (l1 _ z)
 have n2:N + 1 ∉ T.ad:=λz=>absurd (l2 _ z) (Nat.not_lt.mpr (Nat.le_succ _))
 refine ⟨N + 4,[N + 4,N + 2,N + 3,N,N + 1],_,_,H1,rfl,I2,Zho S T (N + 4) (N + 2) (N + 3) N (N + 1) (Zns l1 l2) n1 n2,⟨z1,z2,⟨_,_,z3⟩,t1 _ _ z4,t2 _ _ z5⟩,λc hc=>?_,q⟩
 have hc:s1.heap.objs.size<=c:=by
  have hc:c=N + 4\/c=N + 2\/c=N + 3\/c=N\/c=N + 1:=by simpa using hc
  rw [hN]
  rcases hc with rfl | rfl | rfl | rfl | rfl
  ·exact Nat.le_add_right _ _
  ·exact Nat.le_add_right _ _
  ·exact Nat.le_add_right _ _
  ·exact An _
  ·exact Nat.le_add_right _ _
 exact I1.fpOk hc (I1.hok.fresh hc)
theorem Zlk {K:W.Frag} {S T:ZS} {xs ys:List V} {g:TG} {tb:TS} {D:Ends} {σ:St} {H:Hp} (hlen:xs.length=ys.length) (Pv:Nat->St->Hp->Prop) (h0:Pv 0 σ H) (hl:∀ i σ H,i<=xs.length->Pv i σ H->S.has K H xs/\T.has K H ys)
  (hs:∀ i x y σ H q,xs[i]?=some x->ys[i]?=some y->H q=none->Pv i σ H->g (.ref q) σ (upd H q (.tup [x,y])) λσ2 H2=>tb { D with nx:=Pv (i + 1),ct:=Pv (i + 1),bk:=D.nx } σ2 H2) (hd:∀ σ H,Pv xs.length σ H->D.nx σ H) :
  ∃ W:Nat->Nat->St->Hp->Prop,(∃ m,W 0 m σ H)/\∀ i m σ H,W i m σ H ->
   ((Itz2 K S T).stop i H/\D.nx σ H)\/((Itz2 K S T).go i H/\∃ N:St->Hp->Prop,(∀ σ' H',N σ' H'->∃ m',m' < m/\W (i + 1) m' σ' H')/\∀ x H',(Itz2 K S T).yld i H x H'->g x σ H' λσ2 H2=>tb { D with nx:=N,ct:=N,bk:=D.nx } σ2 H2):=by
 refine ⟨λi m σ H=>m=xs.length - i/\i<=xs.length/\Pv i σ H,⟨xs.length,by simp,Az _,h0⟩,?_⟩
 rintro i m σ H ⟨rfl,hi,p⟩
 obtain ⟨q1,q2⟩:=hl i σ H hi p
 by_cases hlt:i < xs.length
 ·have hlt2:i < ys.length:=by omega
  refine .inr ⟨⟨xs,ys,xs[i],ys[i],q1,q2,by simp [hlt],by simp [hlt2]⟩,Pv (i + 1),λσ' H' p'=>⟨xs.length - (i + 1),by omega,rfl,hlt,p'⟩,λx H' y=>?_⟩
  obtain ⟨c,u,v,hn,e1,y1,y2,e2⟩:=y
  subst e1 e2
  exact hs i u v σ H c (y1 xs q1) (y2 ys q2) hn p
 ·have e:i=xs.length:=by omega
  subst e
  exact .inl ⟨⟨xs,ys,q1,q2,rfl,hlen⟩,hd σ H p⟩
end
theorem Zk5:typeLookup (.type "list_reverseiterator") "__len__"=pure none:=by
 rw [typeLookup_type]
 rw [builtinLookup_eq_fast]
 kernel_rfl
theorem Znf:typeLookup (.type "list_reverseiterator") "__length_hint__"=pure (some (.builtin "list_reverseiterator.__length_hint__")):=by
 rw [typeLookup_type]
 rw [builtinLookup_eq_fast]
 kernel_rfl
section
variable {prog:Program} {w:World} {A:Around} {E:Value->Shared->Prop} {s:Shared}
theorem Zhd {I:Addr} {fp wr:List Addr} {G:Array GenState->Array GenState->Prop} {n:Nat} {P:Nat->Value->Prop} {St:Nat->Shared->Prop} {Q:List Value->Shared->Prop}
  (W:WalksS prog w A.in1 I fp wr G n P St) (hT:∀ i z,St i z->z.TypeIs (.ref I) "list_reverseiterator") (h0:St 0 s) (hlt:∀ b∈fp,b < s.heap.objs.size) (hI:I∈fp)
  (q:∀ z acc,Moved wr G s z->ItemsOf P acc n->Q acc.toList z) (hn:n<=sizeLine):wpAny (model prog w) A (collect (.ref I)) Q E s:=by
 have nf:s.heap.objs.size ∉ fp:=λz=>absurd (hlt _ z) (Nat.lt_irrefl _)
 have ni:s.heap.objs.size≠I:=λz=>nf (by rw [z]; exact hI)
 unfold collect
 refine Al ?_
 refine wpAny_runValue ?_
 refine codeAny_builtin F.entry_proto_collect ?_
 rw [Around.under_plainId F.plain_proto_collect _]
 refine Al (m:=newList []) ?_
 refine wpAny_newObj_type ?_
 refine wpAny_pure ?_
 refine ⟨plainId_quiet F.plain_list_iadd _,?_⟩
 refine codeAny_builtin F.entry_list_iadd ?_
 rw [Around.under_plainId F.plain_list_iadd _]
 have k:∀ b o,s.heap.get? b=some o->(s.heap.push { cls:=.type "list",data:=.seq ([]:List Value).toArray }).get? b=some o:=λb o e=>Ak _ e
 have h1:=W.frame 0 s _ s.toks h0 (An _) λb _ o e=>k b o e
 have hS:(s.heap.push { cls:=.type "list",data:=.seq ([]:List Value).toArray }).get? s.heap.objs.size=some { cls:=.type "list",data:=.seq ([]:List Value).toArray }:=Ap _ rfl
 have ns:Builtin.List.listSameRef (.ref s.heap.objs.size) (.ref I)=false:=by
  unfold Builtin.List.listSameRef
  simp [ni]
 show wpAny _ A.in1 (Builtin.List.listExtendWith (.ref s.heap.objs.size) (.ref I) (.ref s.heap.objs.size)) _ _ _
 unfold Builtin.List.listExtendWith
 refine Al ?_
 refine wpAny_typeOf (hT 0 _ h1) ?_
 rw [if_neg (by rw [ns]; decide)]
 refine Al ?_
 refine W.self 0 _ _ _ h1 ?_
 refine Al ?_
 refine wpAny_holding ?_
 unfold Builtin.List.listLengthHint
 refine Al ?_
 refine wpAny_specialOf (hT 0 _ h1) Zk5 ?_
 refine Al (m:=specialOf (.ref I) (Str.ofString "__length_hint__")) ?_
 refine wpAny_specialOf (hT 0 _ h1) Znf ?_
 generalize hid:("list_reverseiterator.__length_hint__":String)=nmId
 (fail_if_success (clear hid nmId))
 wp_delta
 rw [show splitId nmId=some ("list_reverseiterator","__length_hint__") by rw [<- hid]; decide +kernel]
 subst hid
 refine Al ?_
 refine wpAny_isInstance (b:=true) (hT 0 _ h1) (by rw [isSubtype_type]; kernel_rfl) ?_
 refine wpAny_pure ?_
 rw [if_neg (by decide)]
 refine wpAny_pure ?_
 refine ⟨plainId_quiet F.plain_extend_loop _,?_⟩
 refine codeAny_extend_loopS W hn _ nf _ n 0 _ _ _ rfl (Az _) h1 hS (ItemsOf.nil P) λz acc c hm hz ha=>?_
 show wpAny _ A (load s.heap.objs.size >>= _) _ _ z
 refine Al ?_
 refine wpAny_load hz ?_
 refine wpAny_pure ?_
 exact q z acc (Moved.drop_new (o:={ cls:=.type "list",data:=.seq ([]:List Value).toArray }) (tk:=s.toks) hm (An _)) ha
theorem Znc {I l:Addr} {its:List Value} {ys:List Str} {x:Str} {t:Tok} {Q:Value->Shared->Prop} (hh:A.handled=none) (hne:l≠I) (hit:s.heap.IsRevIter I l ((its.length:Int) - 1)) (hl:s.heap.IsList l its.toArray)
  (hi:StrsAre its ys) (hsep:x.length<=16) (hw:(ys.map (·.length)).sum + ys.length<=1048576)
  (q:∀ h' t' k,(∀ b o,b≠I->s.heap.get? b=some o->h'.get? b=some o)->Q (.str (Txt.join x ys.reverse) t') { s with heap:=h',toks:=k }):wpAny (model prog w) A (call (.builtin "str.join") [.str x t,.ref I]) Q E s:=by
 have W:=(Walks.listRev (prog:=prog) (w:=w) (A:=A.in1.in1) hh I l hne its.toArray).toS
 have hT:∀ i (z:Shared),(i<=its.toArray.size/\z.heap.IsRevIter I l ((its.toArray.size:Int) - 1 - (i:Int))/\z.heap.IsList l its.toArray)->z.TypeIs (.ref I) "list_reverseiterator":=λi z h=>h.2.1.typeIs
 have h0:0<=its.toArray.size/\s.heap.IsRevIter I l ((its.toArray.size:Int) - 1 - ((0:Nat):Int))/\s.heap.IsList l its.toArray:=⟨Az _,by simpa using hit,hl⟩
 have hly:its.length=ys.length:=hi.length
 refine wpAny_call ?_
 refine codeAny_call_builtin F.slot_str_join.plain F.entry_str_join ?_
 refine F.slot_str_join.check _ _ _ _ _ _ _ _ (typeIs_str _ _ _) (F.args_str_join_2 _ _) ?_
 rw [join_tree_other]
 refine Al ?_
 refine wpAny_typeOf (hT 0 s h0) ?_
 show wpAny _ A.in1 ((pyIter (.ref I)).tryCatch _ >>= λit=>collect it >>= λzs=>joinTail x zs) _ _ s
 refine Al ?_
 refine wpAny_tryCatch ?_
 refine W.of_in1.self 0 s _ _ h0 ?_
 refine Al ?_
 have hlt:∀ b∈[I,l],b < s.heap.objs.size:=λb hb=>by
  rcases Ar hb with z | z
  ·obtain ⟨o,e,_⟩:=hit.typeIs
   subst z
   exact Ao e
  ·rw [Af z]
   obtain ⟨o,e,_⟩:=hl
   exact Ao e
 refine Zhd W hT h0 hlt List.mem_cons_self (λz acc hm ha=>?_) (by rw [Aq,sizeLine_eq]; omega)
 have ea:acc.toList=its.reverse:=by
  refine List.ext_getElem? λj=>?_
  have hz:acc.size=its.length:=ha.1.trans Aq
  by_cases c:j < its.length
  ·have hj:j < acc.size:=by omega
   have h2:=ha.2 j _ (Array.getElem?_eq_getElem hj)
   rw [Array.getElem?_toList,Array.getElem?_eq_getElem hj,List.getElem?_reverse c,<- h2]
   simp
  ·rw [Ay (by rw [Array.length_toList]; omega),Ay (by rw [List.length_reverse]; omega)]
 obtain ⟨ps,hps⟩:=exists_strValues its.reverse λv hv=>hi.all v (List.mem_reverse.mp hv)
 have ey:ps.map (·.1)=ys.reverse:=by
  rw [<- hi.strs,<- List.map_reverse,<- hps]
  unfold strValues
  rw [List.map_map]
  rfl
 rw [ea,<- hps]
 have ok:JoinOk x (ps.map (·.1))=true:=joinOk_of_weight (by rw [ey]; simpa using hw) hsep
 unfold JoinOk at ok
 rw [Bool.not_eq_true'] at ok
 have g:Gives (joinTail x (strValues ps)) (joinMade x ps):=by
  have g0:=gives_joinTail x ps ok
  rcases ps with _ | ⟨p,_ | ⟨p',r⟩⟩
  ·exact g0
  ·exact g0
  ·exact g0
 refine g prog w A (wants Q E) z (post_join ps ⟨joinFit_length ok,λt' k=>?_⟩)
 rw [ey]
 obtain ⟨zh,zg,zd,zt,zo⟩:=z
 obtain ⟨m1,m2,m3,m4,m5⟩:=hm
 have m2:zg=s.gens:=m2
 have m3:zd=s.drawn:=m3
 have m4:zo=s.os:=m4
 subst m2 m3 m4
 exact q zh t' k λb o hb e=>m1 b o (λz=>hb (Af z)) e
end
section
variable {X:Cx}
noncomputable def Zj7 (K:W.Frag) (to:TE) (ta:TA):TE:=λσ H Q=>to σ H λx H1=>∃ sep,x=.str sep/\ta σ H1 λvs H2=>∃ a ys,vs=[.ref a]/\SqL K H2 a (List.map V.str ys)/\sep.length<=16/\(ys.map (·.length)).sum + ys.length<=1048576/\Q (.str (Txt.join sep ys.reverse)) H2
theorem Zgu {o l:Expr} {to:TE} {ta:TA} {p1 apos cpos pos1:Pos} (hg:Gl X "reversed") (hm:X.mg "reversed"=none) (hc:X.calm=true) (ho:PE X o to) (ha:PA X [l] ta)
  (hbase:attributeBase o "join" X.env (eval o X.env)=eval o X.env:=by rfl)
  (hfew:((backTo cpos (starEach [.Call (.Name "reversed" p1) [l] [] pos1] X.env)).all (λx=>!x.1) && (backToKw cpos (keywordEach [] X.env)).all (λx=>x.1.isSome)
   && decide ([Expr.Call (.Name "reversed" p1) [l] [] pos1].length + ([]:List Keyword).length + (if ([]:List Keyword).isEmpty then 0 else 1) < 30))=true:=by rfl)
  (hline:(apos.endLine == cpos.line)=true:=by rfl) (hs:starEach [.Call (.Name "reversed" p1) [l] [] pos1] X.env=[(false,eval (.Call (.Name "reversed" p1) [l] [] pos1) X.env)]:=by rfl) (hsl:starEach [l] X.env=[(false,eval l X.env)]:=by rfl) :
  PE X (.Call (.Attribute o "join" apos) [.Call (.Name "reversed" p1) [l] [] pos1] [] cpos) (Zj7 X.K to ta):=by
 intro pins s σ H Q I h
 refine wpAny_Call_method_late hbase hfew hline rfl (thn (ho pins s σ H _ I h) λv s1 zz9=>?_)
 obtain ⟨x,H1,I1,r1,q1⟩:=zz9
 obtain ⟨sep,rfl,q1⟩:=q1
 obtain ⟨h1,h2⟩:=Zhn (T:="str") I1 r1 (by first | rfl | exact trivial)
 refine ⟨"str","str.join",PySem.F.plainAttrs_str,PySem.F.slot_str_join,PySem.F.type_str_join,h1,h2,?_⟩
 obtain ⟨t,rfl⟩:=r1
 rw [hs]
 refine Calls.callWith_builtin rfl (Calls.evalArgs_plain ?_)
 refine Calls.spliced_cons ?_
 refine Call_ (Wf I1 hg hm boot_reversed (PyProof.Rows.callWith_type1 (thn (ha pos1 pins s1 σ H1 _ I1 q1) λus s2 zz37=>?_) hsl rfl))
 obtain ⟨vs,H2,I2,r2,q2⟩:=zz37
 obtain ⟨a,ys,e,hq,w1,w2,q⟩:=q2
 subst e
 obtain ⟨u,rfl,ru⟩:=Wo r2
 cases ru
 obtain ⟨its,rv,pl,_⟩:=I2.list hq
 refine call_reversed_list pl.isList ?_
 refine Calls.spliced_nil ?_
 have I3:Inv X pins σ H2 { s2 with heap:=s2.heap.push (revObj a ((its.toArray.size:Int) - 1)) }:=I2.kept (t':=s2.toks) λb o e=>Ak _ e
 have ne:a≠s2.heap.objs.size:=λz=>by
  obtain ⟨o,e,_⟩:=pl.isList
  exact As (Ao e) z
 have hl3:(s2.heap.push (revObj a ((its.toArray.size:Int) - 1))).IsList a its.toArray:=pl.isList.at λo e=>Ak _ e
 have hit:(s2.heap.push (revObj a ((its.toArray.size:Int) - 1))).IsRevIter s2.heap.objs.size a ((its.length:Int) - 1):=by
  rw [show ((its.length:Int) - 1)=((its.toArray.size:Int) - 1) by simp]
  exact ⟨_,Ap _ rfl,rfl,rfl⟩
 refine Znc (I2.ok.hd hc) ne hit hl3 (by simpa using G9 rv) w1 w2 λh' t' k hk=>?_
 refine ⟨.str _,H2,I2.kept (t':=k) λb o e=>hk b o (λz=>?_) (Ak _ e),⟨_,rfl⟩,q⟩
 exact As (Ao e) z
end
section
variable {X:Cx}
theorem Zep (K:W.Frag) (h:X.K=K:=by rfl):Xu X (.builtin "isinstance") (λxs H Q=>∃ x T t b,xs=[x,V.ty T]/\TyOf K H x t/\PySem.W.kitOne K t (.type T)=some b/\Q (V.bl b) H):=h ▸ Wv
end
section
variable {X:Cx} {fr:Bool}
theorem Zj0 (hc:X.calm=true):Xu X (.builtin "max") (λxs H Q=>∃ (p:Addr) (ns:List Int),xs=[.ref p]/\SqT X.K H p (ns.map V.int)/\0 < ns.length/\∀ m,m∈ns->(∀ a∈ns,a<=m)->Q (.int m) H):=by
 intro pins s σ H xs us Q I r h
 obtain ⟨p,ns,rfl,hq,hn,q⟩:=h
 obtain ⟨u,rfl,ru⟩:=Wo r
 cases ru
 obtain ⟨its,rv,pl,hz⟩:=I.tuple hq
 have pl:s.heap.IsTuple p its.toArray:=pl
 have lt:p < s.heap.objs.size:=by obtain ⟨o,ho,_⟩:=pl; exact Ao ho
 have hlen:its.toArray.size=ns.length:=by have:=rv.length; rw [Ab] at this; simp; omega
 have W:=G2 (pins:=pins) (σ:=σ) (H:=H) (s:=s) rv
 refine call_max_walk (wpAny_pyIter_tuple pl ⟨s.heap.objs.size,_,_,_,_,_,_,rfl,Walks.tuple (A:=X.A.in1) (show X.A.in1.handled=none from I.ok.hd hc) s.heap.objs.size p (As lt) its.toArray,⟨⟨_,Ap _ rfl,rfl,rfl⟩,pl.push _⟩,?_,by rw [hlen]; exact hn,CmpOf.ints_gt (λi=>ns.getD i 0) W,?_⟩)
 ·intro b hb
  show b < (s.heap.push _).objs.size
  rw [Heap.size_push]
  rcases Ar hb with rfl | hb
  ·exact Nat.lt_succ_self _
  ·rw [Af hb]; exact Nat.lt_succ_of_lt lt
 ·intro v h' tk hP hk
  have I1:Inv X pins σ H { s with heap:=h',toks:=tk }:=I.kept λb o e=>hk b o (λz=>absurd (Ao e) (by rw [Af z]; exact Nat.lt_irrefl _)) (Ak _ e)
  rw [hlen] at hP
  obtain ⟨a1,a2⟩:=argBest_gt (λi=>ns.getD i 0) (ns.length - 1)
  obtain ⟨t,e⟩:=W _ _ hP
  generalize argBest (λi j=>decide (ns.getD i 0 > ns.getD j 0)) (ns.length - 1)=k at a1 a2 e
  have hk':k < ns.length:=by omega
  have ek:ns.getD k 0=ns[k]:=by rw [Ad,Ac hk']; rfl
  refine ⟨.int (ns.getD k 0),H,I1,⟨t,e⟩,q _ (by rw [ek]; exact List.getElem_mem hk') λa ha=>?_⟩
  obtain ⟨j,hj,rfl⟩:=List.mem_iff_getElem.mp ha
  have:=a2 j (by omega)
  have ej:ns.getD j 0=ns[j]:=by rw [Ad,Ac hj]; rfl
  show ns[j]<=ns.getD k 0
  rw [<- ej]; exact this
end
section
variable {X:Cx} {fr:Bool}
noncomputable def Zo8 (te:TEX) (t u:TSX):TSX:=λD R σ H=>te σ H (λx H1=>∃ k,x=.bl k/\if k=true then u D R σ H1 else t D R σ H1) λcls _ H1=>R cls σ H1
theorem Zfs {e:Expr} {s1 s2:List Stmt} {te:TEX} {t u:TSX} {p1 pos:Pos} (he:PEX fr X e te) (ha:PSsX fr X s1 t) (hc:PSsX fr X s2 u) (hw:∀ whole,isTrue e X.env whole=(do let v <- whole; standAt e.pos; holding [v] (truthy v)):=by intro _; rfl) :
  PSX fr X (.If (.UnaryOp .Not e p1) s1 s2 pos) (Zo8 te t u):=by
 intro pins s σ H D R I h
 refine wpAny_If (isTrue_not (isTrue_plain (wpAny_mono (he pins s σ H _ _ I h) (λv s1 ⟨x,H1,I1,r1,q1⟩=>?_) ?_) (hw _)))
 ·obtain ⟨k,rfl,q1⟩:=q1
  cases r1
  refine wpAny_truthy_bool ?_
  cases k with
  | true=>exact hc pins s1 σ H1 D R I1 q1
  | false=>exact ha pins s1 σ H1 D R I1 q1
 ·rintro ev s1 ⟨e,T,cls,a0,σ',H',h1,h2,h3,h4,h5,h7,rfl,h6⟩
  exact ⟨e,T,cls,a0,σ',H',h1,h2,h3,h4,h5,h7,h6⟩
end
end L2
set_option genInjectivity false
set_option genSizeOf false
namespace KT
open PySem L2
noncomputable def bmV:List Value:=[.type "ValueError",.type "Exception",.type "BaseException",.type "object"]
theorem FBV:ExcBaseFacts "ValueError" "ValueError.__new__" "ValueError.__init__" bmV:=PySem.F.excBase_ValueError
theorem map_some {α:Type} {f:α->V} {l:List α} {i:Nat} {y:V} (h:(l.map f)[i]?=some y):∃ q,l[i]?=some q/\y=f q:=by
 rw [Ah] at h
 cases e:l[i]? with
 | none=>rw [e] at h; cases h
 | some q=>rw [e] at h; cases h; exact ⟨q,rfl,rfl⟩
structure FT (K:W.Frag) (mg:Str->Option Value) (x:Str) (st:Stmt) (ps:List Str) (f:Addr) (d:FuncData):Prop where
 F:Fun K x x st f d
 b:Wy K d ps []
 g:mg x=some (.ref f)
structure FM (K:W.Frag) (C:Addr) (x q:Str) (st:Stmt) (ps:List Str) (f:Addr) (d:FuncData):Prop where
 F:Fun K x q st f d
 b:Wy K d ps []
 m:Meth K C x f
section
variable {X:Cx} {fr:Bool} {j k:Nat} {f:Addr} {fd:FuncData} {ps:List Str} {sp:Sp} {x:Str} {st:Stmt} {p pos:Pos} {e:Expr} {es:List Expr} {t:TA}
theorem pcT (F:FnOk X.prog X.w X.K X.mg X.base (CXr X.prog X.w) k f fd ps sp) (hr:Room j X.A) (q:FT X.K X.mg x st ps f fd) (ha:PA X (e :: es) t) (hk:k<=j:=by decide) (hg:Gl X x:=by rfl) (hdb:(x == ("__debug__":Str))=false:=by decide) (he:starEach (e :: es) X.env=(false,eval e X.env) :: starEach es X.env:=by rfl) (hpl:(backTo pos (starEach es X.env)).any (·.1)=false:=by rfl) :
  PE X (.Call (.Name x p) (e :: es) [] pos) (Zlt sp [] E0 t):=Zm0 F (hr.mono hk) hg q.g q.F.kp q.b .nil Yz ha hdb he hpl
theorem pxT (F:FnOk X.prog X.w X.K X.mg X.base (CXr X.prog X.w) k f fd ps sp) (hr:Room j X.A) (q:FT X.K X.mg x st ps f fd) (ha:PA X (e :: es) t) (hk:k<=j:=by decide) (hg:Gl X x:=by rfl) (hex:X.ex=[]:=by rfl) (hx:X.xe=(λ_ _=>False):=by rfl) (hdb:(x == ("__debug__":Str))=false:=by decide) (he:starEach (e :: es) X.env=(false,eval e X.env) :: starEach es X.env:=by rfl) (hpl:(backTo pos (starEach es X.env)).any (·.1)=false:=by rfl) :
  PEX fr X (.Call (.Name x p) (e :: es) [] pos) (Zht sp [] t):=Zku F (hr.mono hk) hg q.g q.F.kp q.b .nil ha hex hx hdb he hpl
end
noncomputable def BA (q:Str) (st:Stmt) (ps:List Str):Prop:=∀ (x:Str) (kV doc pm:Value) (an:Option Addr) (cdv ct:Value) (us:List Value),us.length=ps.length->bindArgs (PySem.W.fnOf x q (Xg st) (Yq st) (Zg st) .none kV doc pm an cdv ct) ⟨us,[]⟩=pure (ps.zip us)
theorem Zf0 {α:Type} {us:List α} (e:us.length=2):∃ a b,us=[a,b]:=by
 obtain ⟨a,us,rfl⟩:=List.exists_cons_of_length_eq_add_one e
 obtain ⟨b,rfl⟩:=List.length_eq_one_iff.mp (Nat.succ.inj e)
 exact ⟨a,b,rfl⟩
theorem Zbo {α:Type} {us:List α} (e:us.length=3):∃ a b c,us=[a,b,c]:=by
 obtain ⟨a,us,rfl⟩:=List.exists_cons_of_length_eq_add_one e
 obtain ⟨b,c,rfl⟩:=Zf0 (Nat.succ.inj e)
 exact ⟨a,b,c,rfl⟩
theorem ba1 {q:Str} {st:Stmt} {ps:List Str} (h:∀ (x:Str) (kV doc pm:Value) (an:Option Addr) (cdv ct:Value) (a:Value),bindArgs (PySem.W.fnOf x q (Xg st) (Yq st) (Zg st) .none kV doc pm an cdv ct) ⟨[a],[]⟩=pure (ps.zip [a])) (hl:ps.length=1):BA q st ps:=λx kV doc pm an cdv ct us e=>by
 rw [hl] at e
 obtain ⟨a,rfl⟩:=List.length_eq_one_iff.mp e
 exact h x kV doc pm an cdv ct a
theorem ba2 {q:Str} {st:Stmt} {ps:List Str} (h:∀ (x:Str) (kV doc pm:Value) (an:Option Addr) (cdv ct:Value) (a b:Value),bindArgs (PySem.W.fnOf x q (Xg st) (Yq st) (Zg st) .none kV doc pm an cdv ct) ⟨[a,b],[]⟩=pure (ps.zip [a,b])) (hl:ps.length=2):BA q st ps:=λx kV doc pm an cdv ct us e=>by
 rw [hl] at e
 obtain ⟨a,b,rfl⟩:=Zf0 e
 exact h x kV doc pm an cdv ct a b
theorem ba3 {q:Str} {st:Stmt} {ps:List Str} (h:∀ (x:Str) (kV doc pm:Value) (an:Option Addr) (cdv ct:Value) (a b c:Value),bindArgs (PySem.W.fnOf x q (Xg st) (Yq st) (Zg st) .none kV doc pm an cdv ct) ⟨[a,b,c],[]⟩=pure (ps.zip [a,b,c])) (hl:ps.length=3):BA q st ps:=λx kV doc pm an cdv ct us e=>by
 rw [hl] at e
 obtain ⟨a,b,c,rfl⟩:=Zbo e
 exact h x kV doc pm an cdv ct a b c
theorem ba4 {q:Str} {st:Stmt} {ps:List Str} (h:∀ (x:Str) (kV doc pm:Value) (an:Option Addr) (cdv ct:Value) (a b c d:Value),bindArgs (PySem.W.fnOf x q (Xg st) (Yq st) (Zg st) .none kV doc pm an cdv ct) ⟨[a,b,c,d],[]⟩=pure (ps.zip [a,b,c,d])) (hl:ps.length=4):BA q st ps:=λx kV doc pm an cdv ct us e=>by
 rw [hl] at e
 obtain ⟨a,us,rfl⟩:=List.exists_cons_of_length_eq_add_one e
 obtain ⟨b,c,d,rfl⟩:=Zbo (Nat.succ.inj e)
 exact h x kV doc pm an cdv ct a b c d
theorem ba5 {q:Str} {st:Stmt} {ps:List Str} (h:∀ (x:Str) (kV doc pm:Value) (an:Option Addr) (cdv ct:Value) (a b c d e:Value),bindArgs (PySem.W.fnOf x q (Xg st) (Yq st) (Zg st) .none kV doc pm an cdv ct) ⟨[a,b,c,d,e],[]⟩=pure (ps.zip [a,b,c,d,e])) (hl:ps.length=5):BA q st ps:=λx kV doc pm an cdv ct us e=>by
 rw [hl] at e
 match us,e with
 | [a,b,c,d,e],_=>exact h x kV doc pm an cdv ct a b c d e
section
variable {K:W.Frag} {h:Heap} {mg:Str->Option Value} {C:Addr} {x q:Str} {st:Stmt} {ps:List Str} {f:Addr} {oc:Value} {od an:Option Addr} {sl:Array (Option Value)} {kV doc pm cd ct:Value}
theorem FT.of (X:K.In h) (G:h.Ns mainGlobals mg) (B:BA x st ps) (a:PySem.W.nsIn K mainGlobals x=some (some (.ref f))) (l:K.lookup f=some ⟨oc,od,.func (PySem.W.fnOf x x (Xg st) (Yq st) (Zg st) .none kV doc pm an cd ct),sl⟩)
  (c:PySem.W.codeIn K cd x=true) (k:PySem.W.keepIn K (.ref f)=true):FT K mg x st ps f (PySem.W.fnOf x x (Xg st) (Yq st) (Zg st) .none kV doc pm an cd ct):=⟨F5 l c k,(F5 l c k).binds (B x),PySem.W.mg_of X G a⟩
theorem FM.of (B:BA q st ps) (a:PySem.W.findIn K (.ref C) x=some (some (.ref f))) (i:PySem.W.isFn K (.ref f)=true) (l:K.lookup f=some ⟨oc,od,.func (PySem.W.fnOf x q (Xg st) (Yq st) (Zg st) .none kV doc pm an cd ct),sl⟩)
  (c:PySem.W.codeIn K cd q=true) (k:PySem.W.keepIn K (.ref f)=true):FM K C x q st ps f (PySem.W.fnOf x q (Xg st) (Yq st) (Zg st) .none kV doc pm an cd ct):=⟨F5 l c k,(F5 l c k).binds (B x),⟨a,i,k⟩⟩
end
noncomputable def top (i:Nat):Stmt:=PySem.Challenge.pw_tentloops_k11_exchange_refusals.main.body.getD i (.Pass ⟨0,0,0,0⟩)
noncomputable abbrev Zfp:Stmt:=top 21
noncomputable abbrev Zdu:Stmt:=top 22
noncomputable abbrev Fp:Stmt:=top 23
noncomputable abbrev Fh:Stmt:=top 24
noncomputable abbrev Fj:Stmt:=top 25
noncomputable abbrev Ge:Stmt:=X0 (top 26) 0
noncomputable abbrev Gc:Stmt:=X0 (top 26) 1
noncomputable abbrev O7:Stmt:=X0 (top 26) 3
noncomputable abbrev Vm:Stmt:=X0 (top 26) 5
noncomputable abbrev Q9:Stmt:=X0 (top 26) 6
noncomputable abbrev Up:Stmt:=X0 (top 26) 7
noncomputable abbrev Oo:Stmt:=X0 (top 26) 8
noncomputable abbrev Gd:Stmt:=X0 (top 26) 9
noncomputable abbrev Uo:Stmt:=X0 (top 26) 10
noncomputable abbrev Fk:Stmt:=top 29
noncomputable abbrev K6:Stmt:=top 30
noncomputable abbrev Zdh:Stmt:=top 31
noncomputable abbrev Zdi:Stmt:=top 32
noncomputable abbrev Zfm:Stmt:=top 33
noncomputable abbrev Ga:Stmt:=top 34
noncomputable abbrev Zdt:Stmt:=top 35
noncomputable abbrev Gb:Stmt:=top 37
noncomputable abbrev Zbe:Stmt:=top 38
noncomputable abbrev Zfl:Stmt:=top 39
noncomputable abbrev Oj:Stmt:=top 40
noncomputable abbrev Zdg:Stmt:=top 41
noncomputable abbrev Um:Stmt:=top 44
noncomputable abbrev Om:Stmt:=top 45
noncomputable abbrev V8:Stmt:=top 46
noncomputable abbrev Ub:Stmt:=top 47
noncomputable abbrev Zlu:Stmt:=top 48
noncomputable abbrev K7:Stmt:=top 50
noncomputable abbrev Q5:Stmt:=top 52
noncomputable abbrev Zdj:Stmt:=top 53
noncomputable abbrev Ul:Stmt:=top 54
noncomputable abbrev Vl:Stmt:=top 56
noncomputable abbrev Ua:Stmt:=top 57
noncomputable abbrev Fo:Stmt:=top 58
noncomputable abbrev O5:Stmt:=top 59
noncomputable abbrev On:Stmt:=top 60
noncomputable abbrev V9:Stmt:=top 61
noncomputable abbrev Za8:Stmt:=top 62
noncomputable abbrev K5:Stmt:=top 63
noncomputable abbrev Zbf:Stmt:=top 67
noncomputable abbrev Fi:Stmt:=top 68
noncomputable abbrev O8:Stmt:=X0 (top 72) 0
noncomputable abbrev Ol:Stmt:=top 73
noncomputable abbrev O6:Stmt:=top 74
noncomputable abbrev Uk:Stmt:=top 75
noncomputable abbrev Gg:Stmt:=X0 (top 76) 0
noncomputable abbrev O9:Stmt:=X0 (top 76) 1
noncomputable abbrev Gf:Stmt:=X0 (top 76) 6
noncomputable abbrev Zdr:Stmt:=top 78
noncomputable abbrev Zds:Stmt:=top 79
noncomputable abbrev Zdo:Stmt:=top 80
noncomputable abbrev Zfn:Stmt:=top 81
noncomputable abbrev Zba:Stmt:=top 82
noncomputable abbrev Fn:Stmt:=top 83
noncomputable abbrev Zbc:Stmt:=top 84
noncomputable abbrev K9:Stmt:=top 85
noncomputable abbrev Zdn:Stmt:=top 86
noncomputable abbrev Zdp:Stmt:=top 87
noncomputable abbrev Zdm:Stmt:=top 88
noncomputable abbrev Zdk:Stmt:=top 89
noncomputable abbrev Fl:Stmt:=top 90
noncomputable abbrev Za9:Stmt:=top 91
noncomputable abbrev Zdq:Stmt:=top 92
noncomputable abbrev Fm:Stmt:=top 93
noncomputable abbrev Zig:Stmt:=top 94
noncomputable abbrev Zbd:Stmt:=top 95
noncomputable abbrev K8:Stmt:=top 96
noncomputable abbrev Zbb:Stmt:=top 97
noncomputable abbrev Zdl:Stmt:=top 98
noncomputable abbrev Zfo:Stmt:=top 99
noncomputable abbrev Zlv:Stmt:=top 100
structure Adr where
 (aa al af g9 fX dR dS dU bO dc cM bc aT bP cq de bQ dW df fY fZ hG dg f6 di fo hJ cr f7 bR cu bx bz hU dj aO cN bS bf bA dX cO cv bB fq aU ft dY bq cw cP bT bU cQ dk f8 f9 gc hV fu dZ fw dl gd gf gh gj d0 fz gk d6 iw fA dm fB gm hX iL aA aM ai aV am ax cI aK d7 gn d9 gq ix fC cJ gr:Addr)
 (ic gs ee eg eu dn dq cR bg aW bV cx dr bW eA du gu gv ie dv gy dw fD ig cy gz bX cz bC bD ii dz aP cS bY bi bE eB cT cA bF fE aY fF eC cU cB cV bZ dA cW dB gA gB gC ij fG eE fH dC gD gE gF gG eF fI gH eG iy fJ dD fK gI ik iz:FuncData)
 (dH iT cX fh dJ:Tok)
structure Txt (w:World) (K:W.Frag) (mg:Str->Option Value) (t:Adr):Prop where
 dO:mg "Tent"=some (.ref t.aa)
 ac:Cls K t.aa
 a8:Xk K t.aa "cloths"
 av:Xk K t.aa "names_at"
 aF:Xk K t.aa "spots"
 cY:Xk K t.aa "mates"
 gJ:mg "Scene"=some (.ref t.al)
 aG:Cls K t.al
 br:Xk K t.al "tent"
 bG:Xk K t.al "threads"
 cC:Xk K t.al "pools"
 b6:Xk K t.al "worths"
 iH:mg "Hall"=some (.ref t.af)
 ay:Cls K t.af
 bt:Xk K t.af "began"
 aL:Xk K t.af "scene"
 bH:Xk K t.af "standing"
 cD:Xk K t.af "undone"
 fU:FT K mg "after" Zfp ["place"] t.g9 t.ic
 eI:FT K mg "before" Zdu ["place"] t.fX t.gs
 au:FT K mg "cloth_of" Fp ["place"] t.dR t.ee
 eJ:FT K mg "spots_of" Fh ["names_at"] t.dS t.eg
 eK:FT K mg "mates_of" Fj ["spots","count"] t.dU t.eu
 aI:FM K t.aa "__init__" "Tent.__init__" Ge ["self","rows"] t.bO t.dn
 ao:FM K t.aa "rows" "Tent.rows" Gc ["self"] t.dc t.dq
 aH:FM K t.aa "seams" "Tent.seams" O7 ["self"] t.cM t.cR
 aq:FM K t.aa "has_place" "Tent.has_place" Vm ["self","place"] t.bc t.bg
 ag:FM K t.aa "look_place" "Tent.look_place" Q9 ["self","place"] t.aT t.aW
 aj:FM K t.aa "seam_at" "Tent.seam_at" Up ["self","place"] t.bP t.bV
 ap:FM K t.aa "places" "Tent.places" Oo ["self","seam"] t.cq t.cx
 aw:FM K t.aa "mate" "Tent.mate" Gd ["self","place"] t.de t.dr
 ak:FM K t.aa "sort_of" "Tent.sort_of" Uo ["self","seam"] t.bQ t.bW
 eO:FT K mg "look_way" Fk ["way"] t.dW t.eA
 aD:FT K mg "look_free" K6 ["tent","seam"] t.df t.du
 b9:FT K mg "square" Zdh ["tent","seam"] t.fY t.gu
 ce:FT K mg "shifts" Zdi ["tent","seam","way"] t.fZ t.gv
 il:FT K mg "moved" Zfm ["tent","seam","way","place"] t.hG t.ie
 aE:FT K mg "exchanged" Ga ["tent","seam","way"] t.dg t.dv
 eP:FT K mg "driven" Zdt ["tent","moves"] t.f6 t.gy
 dE:FT K mg "crossable" Gb ["tent","place"] t.di t.dw
 fL:FT K mg "follows" Zbe ["tent","ahead","place"] t.fo t.fD
 im:FT K mg "plain" Zfl ["tent","word"] t.hJ t.ig
 a9:FT K mg "look_thread" Oj ["tent","word"] t.cr t.cy
 eQ:FT K mg "turned" Zdg ["word","by"] t.f7 t.gz
 cf:FT K mg "look_numbers" Um ["tent","counts"] t.bR t.bX
 ba:FT K mg "look_counts" Om ["tent","counts"] t.cu t.cz
 bI:FT K mg "number_behind" V8 ["tent","counts","seam"] t.bx t.bC
 aB:FT K mg "counts_behind" Ub ["tent","counts","seam"] t.bz t.bD
 iA:FT K mg "led" Zlu ["tent","counts","seam"] t.hU t.ii
 cg:FT K mg "led_along" K7 ["tent","moves","counts"] t.dj t.dz
 aQ:FT K mg "crossing_between" Q5 ["own","entry","leaving"] t.aO t.aP
 ci:FT K mg "pulled" Zdj ["tent","seam","way","word"] t.cN t.cS
 aS:FT K mg "pulled_along" Ul ["tent","moves","word"] t.bS t.bY
 bj:FT K mg "common_measure" Vl ["one","other"] t.bf t.bi
 bJ:FT K mg "look_fraction" Ua ["top","bottom"] t.bA t.bE
 cK:FT K mg "fraction" Fo ["top","bottom"] t.dX t.eB
 bu:FT K mg "sewn_seams" O5 ["tent"] t.cO t.cT
 cE:FT K mg "even_worths" On ["tent"] t.cv t.cA
 bK:FT K mg "lowest_worths" V9 ["tent","worths"] t.bB t.bF
 fM:FT K mg "product" Za8 ["one","other"] t.fq t.fE
 aZ:FT K mg "stretched" K5 ["tent","worths","seam"] t.aU t.aY
 fN:FT K mg "figures" Zbf ["number"] t.ft t.fF
 eS:FT K mg "row_text" Fi ["words"] t.dY t.eC
 bv:FM K t.al "__init__" "Scene.__init__" O8 ["self","tent","threads","pools","worths"] t.bq t.cU
 cF:FT K mg "look_length" Ol ["word"] t.cw t.cB
 cZ:FT K mg "look_parts" O6 ["parts"] t.cP t.cV
 cj:FT K mg "turned_scene" Uk ["scene","seam","way"] t.bT t.bZ
 dF:FM K t.af "__init__" "Hall.__init__" Gg ["self","rows"] t.bU t.dA
 bw:FM K t.af "enter" "Hall.enter" O9 ["self","text","scene"] t.cQ t.cW
 ck:FM K t.af "turn" "Hall.turn" Gf ["self","seam","way"] t.dk t.dB
 gK:FT K mg "_law_free" Zdr ["_law_mates"] t.f8 t.gA
 aJ:FT K mg "_law_cell" Zds ["_law_script","_law_at"] t.f9 t.gB
 gL:FT K mg "_law_seam" Zdo ["_law_rows_here","_law_place"] t.gc t.gC
 ip:FT K mg "_law_way" Zfn ["_law_left"] t.hV t.ij
 fO:FT K mg "_law_shift" Zba ["_law_mates","_law_rows_here","_law_goals_here"] t.fu t.fG
 eU:FT K mg "_law_around" Fn ["_law_mates","_law_place"] t.dZ t.eE
 fP:FT K mg "_law_goals" Zbc ["_law_mates","_law_place","_law_left"] t.fw t.fH
 cm:FT K mg "_law_numbers" K9 ["_law_cell_here","_law_many"] t.dl t.dC
 gM:FT K mg "_law_sewn" Zdn ["_law_nums","_law_many","_law_share"] t.gd t.gD
 gN:FT K mg "_law_rows" Zdp ["_law_mates","_law_start","_law_step"] t.gf t.gE
 gO:FT K mg "_law_tent" Zdm ["_law_script"] t.gh t.gF
 gP:FT K mg "_law_walk" Zdk ["_law_mates","_law_nums"] t.gj t.gG
 eV:FT K mg "_law_thread" Fl ["_law_script","_law_at","_law_mates"] t.d0 t.eF
 fQ:FT K mg "_law_whole" Za9 ["_law_found"] t.fz t.fI
 gQ:FT K mg "_law_list" Zdq ["_law_found","_law_due_here"] t.gk t.gH
 eW:FT K mg "_law_cloths" Fm ["_law_found","_law_due_here"] t.d6 t.eG
 iB:FT K mg "_law_go" Zig ["_law_door","_law_tent_here","_law_seam_here","_law_way_here","_law_word","_law_counts","_law_worths"] t.iw t.iy
 fR:FT K mg "_law_go_on" Zbd ["_law_door","_law_tent_here","_law_moves","_law_word","_law_counts"] t.fA t.fJ
 dG:FT K mg "_law_told_on" K8 ["_law_door","_law_tent_here","_law_moves","_law_word","_law_counts"] t.dm t.dD
 fS:FT K mg "_law_later" Zbb ["_law_script","_law_mates","_law_rows_here","_law_last","_law_word","_law_counts"] t.fB t.fK
 eX:FT K mg "_law_told" Zdl ["_law_door","_law_tent_here","_law_seam_here","_law_way_here","_law_word","_law_counts","_law_worths"] t.gm t.gI
 dP:FT K mg "_law_due" Zfo ["_law_mates","_law_rows_here","_law_seam_here","_law_way_here"] t.hX t.ik
 iM:FT K mg "law" Zlv ["_law_script"] t.iL t.iz
 dQ:Mk K t.aa t.bO
 gR:Mk K t.al t.bq
 iI:Mk K t.af t.bU
 dL:mg "GREATEST_NAME"=some (.int 9999 t.dH)
 iC:mg "PART"=some (.int 1000000000000000000000000000000000000000000000000000000000000 t.iT)
 iq:mg "WRITTEN_AT_ONCE"=some (.int 60 t.cX)
 fj:mg "MOST_PLACES"=some (.int 400 t.fh)
 dM:mg "GREATEST_PART"=some (.int 1000000000000000000000000000000000000000000000000000000000000 t.dJ)
 c7:mg "CONTRARY_WAYS"=some (.ref t.aA)
 c8:Zaf w K t.aA [(Sum.inr "left",.str "right"),(Sum.inr "right",.str "left")]
 bl:∀ (s:Shared) (u:Value),BindsTo s t.iz ⟨[u],[]⟩ [("_law_script",u)]
 iN:mg "all"=none
 iO:mg "any"=none
 iU:mg "bool"=none
 cL:mg "dict"=none
 gS:mg "enumerate"=none
 iZ:mg "int"=none
 az:mg "isinstance"=none
 ae:mg "len"=none
 aC:mg "list"=none
 iD:mg "max"=none
 ah:mg "range"=none
 eY:mg "reversed"=none
 eZ:mg "sorted"=none
 iP:mg "str"=none
 iQ:mg "sum"=none
 fV:mg "tuple"=none
 iE:mg "zip"=none
 gV:mg "NoPlace"=some (.ref t.aM)
 ir:ExcK K t.aM bmV "ValueError.__new__"
 c9:mg "NoSeam"=some (.ref t.ai)
 iF:ExcK K t.ai bmV "ValueError.__new__"
 gW:mg "Rim"=some (.ref t.aV)
 i3:ExcK K t.aV bmV "ValueError.__new__"
 db:mg "Locked"=some (.ref t.am)
 iG:ExcK K t.am bmV "ValueError.__new__"
 fc:mg "NoWay"=some (.ref t.ax)
 iJ:ExcK K t.ax bmV "ValueError.__new__"
 gT:mg "NoThread"=some (.ref t.cI)
 gX:ExcK K t.cI bmV "ValueError.__new__"
 fk:mg "NoFraction"=some (.ref t.aK)
 fW:ExcK K t.aK bmV "ValueError.__new__"
 iR:mg "NoWorths"=some (.ref t.d7)
 iV:ExcK K t.d7 bmV "ValueError.__new__"
 iX:mg "NoTent"=some (.ref t.gn)
 i4:ExcK K t.gn bmV "ValueError.__new__"
 iS:mg "NoCounts"=some (.ref t.d9)
 iW:ExcK K t.d9 bmV "ValueError.__new__"
 iY:mg "Uneven"=some (.ref t.gq)
 i5:ExcK K t.gq bmV "ValueError.__new__"
 i6:mg "Wide"=some (.ref t.ix)
 i7:ExcK K t.ix bmV "ValueError.__new__"
 gY:mg "TooMany"=some (.ref t.fC)
 iu:ExcK K t.fC bmV "ValueError.__new__"
 gU:mg "TooGreat"=some (.ref t.cJ)
 gZ:ExcK K t.cJ bmV "ValueError.__new__"
 iK:mg "TentError"=some (.ref t.gr)
 bn:PySem.W.exmOne K (.ref t.am) (.ref t.am)=some true
 fg:PySem.W.exmOne K (.ref t.aV) (.ref t.aV)=some true
 bo:PySem.W.exmOne K (.ref t.ai) (.ref t.ai)=some true
 cp:PySem.W.exmOne K (.ref t.ax) (.ref t.ax)=some true
 cG:PySem.W.exmOne K (.ref t.aV) (.ref t.am)=some false
 bp:PySem.W.exmOne K (.ref t.ai) (.ref t.am)=some false
 cH:PySem.W.exmOne K (.ref t.ai) (.ref t.aV)=some false
 bL:PySem.W.exmOne K (.ref t.ax) (.ref t.am)=some false
 c6:PySem.W.exmOne K (.ref t.ax) (.ref t.aV)=some false
 bM:PySem.W.exmOne K (.ref t.ax) (.ref t.ai)=some false
theorem Same.add {H H1:Hp} {p:Addr} {o:HO} (s:Same H H1) (hp:H p=none):Same H (upd H1 p o):=λb u e=>by rw [Zd (Zi e hp)]; exact s b u e
theorem Same.new {H:Hp} {p:Addr} {o:HO} (hp:H p=none):Same H (upd H p o):=Same.add (Same.refl H) hp
theorem Zz {t u:TS} {D:Ends} {σ:St} {H:Hp} (Post:St->Hp->Prop) (ht:∀ nx:St->Hp->Prop,(∀ σ H,Post σ H->nx σ H)->t { D with nx:=nx } σ H) (hu:∀ σ H,Post σ H->u D σ H):tSeq t u D σ H:=ht (u D) hu
theorem Z2 {t u:TS} {D:Ends} {σ:St} {H:Hp} (ht:∀ nx:St->Hp->Prop,(∀ σ H,u D σ H->nx σ H)->t { D with nx:=nx } σ H):tSeq t u D σ H:=ht (u D) λ_ _ h=>h
theorem Zec (xs:List Int) (y:Int):xs.map V.int ++ [V.int y]=(xs ++ [y]).map V.int:=by simp
theorem getI {ns:List Int} {n:Nat} (h:n < ns.length):(ns.map V.int)[n]?=some (V.int (ns.getD n 0)):=by
 rw [Ah,Ac h,Ad,Ac h]
 rfl
noncomputable def cell (ns:List Int) (n:Int):Int:=if n < ns.length then ns.getD n.toNat 0 else if ns.length=0 then 31 * n + 7 else ns.getD (n % ns.length).toNat 0 % 1000003 + 101 * n
noncomputable def Zmn (K:W.Frag):Sp:=λvs H Q _=>∃ (a:Addr) (ns:List Int) (n:Int),vs=[.ref a,.int n]/\SqL K H a (ns.map V.int)/\ns.length<=63/\0<=n/\n < 1000000/\Q (.int (cell ns n)) H
noncomputable def Zj8:Sp:=λvs H Q _=>∃ n:Int,vs=[.int n]/\Q (.bl true) H
noncomputable def Zgk:Sp:=λvs H Q _=>∃ (c:Int) (n:Nat),vs=[.int c,.int n]/\n<=60/\∀ (p:Addr) (xs:List Int) (H':Hp),Same H H'->H p=none->H' p=some (.lst (xs.map V.int))->xs.length=n->(∀ x∈xs,0<=x/\x < 1009)->Q (.ref p) H'
section
variable {P:Program} {w:World} {K:W.Frag} {mg:Str->Option Value} {base:Heap} {t:Adr}
theorem Zgr:FnScope ["_law_found"] ["_law_found"] (Zg Za9):=Am
theorem Zgx (T:Txt w K mg t):FnOk P w K mg base (CXr P w) 1 t.fz t.fI ["_law_found"] Zj8:=by
 refine T.fQ.F.aR Zgr (λ_ _ _ _ H vs Q E hr h=>?_)
 ·obtain ⟨p,rfl,k⟩:=h
  refine ⟨_,(Zh (Zn (Zd0 (Zo Wv (by rfl) T.az PyProof.Rows.boot_isinstance (Za (pv 0) (Za (Vg (v:=.ty "int") (by rfl) T.iZ PySem.Pv.boot_int rfl) Zb))) (Zdz (Zoe (Zo Wv (by rfl) T.az PyProof.Rows.boot_isinstance (Za (pv 0) (Za (Vg (v:=.ty "bool") (by rfl) T.iU PySem.Pv.boot_bool rfl) Zb)))))))),?_⟩
  refine ⟨_,rfl,_,"int",_,true,rfl,TyOf.int p,Vw,_,rfl,iteT ?_⟩
  refine ⟨_,rfl,_,"bool",_,false,rfl,TyOf.int p,(by rfl),_,rfl,k⟩
theorem Zie:FnScope ["_law_script","_law_at"] ["_law_script","_law_at"] (Zg Zds):=Am
theorem W5 (T:Txt w K mg t):FnOk P w K mg base (CXr P w) 1 t.f9 t.gB ["_law_script","_law_at"] (Zmn K):=by
 refine T.aJ.F.aR Zie (λ_ _ _ _ H vs Q E hr h=>?_)
 ·obtain ⟨a,ns,n,rfl,hS,hl,h0,h1,k⟩:=h
  refine ⟨_,(Zf (Z8 (Zm Qz (pv 1) (Zo Zl (by rfl) T.ae PySem.boot_len (Za (pv 0) Zb)) (Zp _)) (Zh (Zn (Zu Zy (pv 0) (pv 1) (λ_ _=>rfl)))) Z3)
   (Zf (Z8 (Zm Ya (Zo Zl (by rfl) T.ae PySem.boot_len (Za (pv 0) Zb)) Ze (Zp _)) (Zh (Zn (Zj Yf (Zj We Ze (pv 1)) Ze))) Z3)
   (Zh (Zn (Zj Yf (Zj Z4 (Zu Zy (pv 0) (Zj Z4 (pv 1) (Zo Zl (by rfl) T.ae PySem.boot_len (Za (pv 0) Zb))) (λ_ _=>rfl)) Ze) (Zj We Ze (pv 1))))))),?_⟩
  have el:((ns.map V.int).length:Int)=ns.length:=by simp
  refine ⟨_,rfl,_,rfl,a,_,rfl,.inl hS,_,_,rfl,rfl,_,rfl,?_⟩
  rw [el]
  refine ite2 (λh=>?_) (λh=>?_)
  ·have h:n < ns.length:=by simpa using h
   have e:cell ns n=ns.getD n.toNat 0:=if_pos h
   have en:n=(n.toNat:Int):=by omega
   have ei:atI (ns.map V.int) n=some (V.int (ns.getD n.toNat 0)):=by rw [en]; exact Xd (getI (n:=n.toNat) (by omega))
   rw [e] at k
   exact ⟨_,rfl,_,rfl,a,_,_,_,rfl,rfl,hS,ei,k⟩
  ·have h:¬ n < ns.length:=by simpa using h
   have e:cell ns n=if ns.length=0 then 31 * n + 7 else ns.getD (n % ns.length).toNat 0 % 1000003 + 101 * n:=if_neg h
   refine ⟨_,rfl,a,_,rfl,.inl hS,rfl,_,rfl,?_⟩
   rw [el]
   refine ite2 (λg=>?_) (λg=>?_)
   ·have g:ns.length=0:=by simpa using g
    refine ⟨_,rfl,_,_,rfl,rfl,.inl ⟨by decide,by decide⟩,_,_,rfl,rfl,?_⟩
    rw [if_pos g] at e
    rw [e] at k; exact k
   ·have g:¬ ns.length=0:=by simpa using g
    have gp:(0:Int) < ns.length:=by omega
    rw [if_neg g] at e
    have m0:=Int.emod_nonneg n (show (ns.length:Int)≠0 by omega)
    have m1:=Int.emod_lt_of_pos n gp
    refine ⟨_,rfl,_,rfl,_,rfl,a,_,rfl,.inl hS,_,_,rfl,rfl,(by rw [el]; exact gp),a,_,_,_,rfl,rfl,hS,(?_:atI _ _=some (V.int (ns.getD (n % ns.length).toNat 0))),_,_,rfl,rfl,(by show (0:Int) < 1000003; decide),_,rfl,_,_,rfl,rfl,.inl ⟨by decide,by decide⟩,_,_,rfl,rfl,?_⟩
    ·rw [el]
     have en:n % (ns.length:Int)=((n % (ns.length:Int)).toNat:Int):=by omega
     rw [en]
     exact Xd (getI (by omega))
    ·rw [e] at k; exact k
theorem Wi:FnScope ["_law_cell_here","_law_many","_law_row","_law_rest","_law_seed"] ["_law_cell_here","_law_many"] (Zg K9):=Am
theorem Kh (T:Txt w K mg t):FnOk P w K mg base (CXr P w) 1 t.dl t.dC ["_law_cell_here","_law_many"] Zgk:=by
 refine T.cm.F.aR Wi (λ_ _ _ _ H vs Q E hr h=>?_)
 ·obtain ⟨c,n,rfl,hn60,k⟩:=h
  refine ⟨_,(Zf (Zr (i:=2) Wi.nd rfl (Or.inl rfl) (Yo Zb))
   (Zf (Zr (i:=3) Wi.nd rfl (Or.inl rfl) (Zj Vs (pv 0) (Zj Zog Ze Ze)))
   (Zf (Vo PassesOwn.never (PW.pt (J1 (Zm J5 (pv 3) Ze (Zp _)) (Je (Zm Qz (Zo Zl (by rfl) T.ae PySem.boot_len (Za (pv 2) Zb)) (pv 1) (Zp _))))) (Zf (Ys (Ws PySem.F.plainAttrs_list PySem.F.slot_list_append PySem.F.type_list_append Xi (pv 2) (Za (Zj Z4 (pv 3) Ze) Zb)))
   (Zh (Zr (i:=3) Wi.nd rfl (Or.inl rfl) (Zj Yk (pv 3) Ze)))))
   (Zf (Zr (i:=4) Wi.nd rfl (Or.inl rfl) (Zj Z4 (pv 0) Ze))
   (Zf (Vo PassesOwn.never (Zm Qz (Zo Zl (by rfl) T.ae PySem.boot_len (Za (pv 2) Zb)) (pv 1) (Zp _)) (Zf (Zr (i:=4) Wi.nd rfl (Or.inl rfl) (Zj Z4 (Zj Yf (Zj Yf (Zj We (pv 4) Ze) Ze) (Zo Zl (by rfl) T.ae PySem.boot_len (Za (pv 2) Zb))) Ze))
   (Zh (Ys (Ws PySem.F.plainAttrs_list PySem.F.slot_list_append PySem.F.type_list_append Xi (pv 2) (Za (Zj Z4 (Zj Yk (Zj Z4 (Zj We (pv 4) Ze) Ze) Ze) Ze) Zb))))))
   (Zh (Zn (pv 2)))))))),?_⟩
  refine ⟨Az _,λr hr0=>?_⟩
  refine ⟨_,rfl,_,_,rfl,rfl,⟨by decide,by decide,by decide⟩,_,_,rfl,rfl,?_⟩
  show tSeq (G8 _ _) _ _ _ _
  refine Zz (λσ H1=>∃ (xs:List Int) (rest:Int),σ=[some (.int c),some (.int n),some (.ref r),some (.int rest),none]/\Same H H1/\H1 r=some (.lst (xs.map V.int))/\xs.length<=n/\(∀ x∈xs,0<=x/\x < 1009)) (λnx hnx=>?_) ?_
  ·refine ⟨λm σ H1=>∃ (xs:List Int) (rest:Int),m=n - xs.length/\σ=[some (.int c),some (.int n),some (.ref r),some (.int rest),none]/\Same H H1/\H1 r=some (.lst (xs.map V.int))/\xs.length<=n/\(∀ x∈xs,0<=x/\x < 1009),
    ⟨n,[],_,rfl,rfl,Same.new hr0,Zc,Az _,λx hx=>absurd hx (by simp)⟩,?_⟩
   rintro m σ H1 ⟨xs,rest,rfl,rfl,sm,h1,hl,hx⟩
   have el:((xs.map V.int).length:Int)=xs.length:=by simp
   refine ⟨_,rfl,_,_,rfl,rfl,_,rfl,?_⟩
   refine ite2 (λ_=>?_) (λ_=>?_)
   ·refine ⟨_,rfl,r,_,rfl,.inl (SqL.of h1),_,rfl,_,_,rfl,rfl,_,rfl,?_⟩
    rw [el]
    refine ite2 (λg=>?_) (λ_=>?_)
    ·have g:(xs.length:Int) < n:=by simpa using g
     refine ⟨_,λσ' H' h=>h,?_⟩
     refine ⟨_,rfl,.inl ⟨rfl,_,SqL.of h1⟩,_,rfl,_,_,rfl,rfl,(by show (0:Int) < 1009; decide),r,_,_,rfl,rfl,h1,(by rw [Ab]; exact Zv (by omega)),?_⟩
     refine ⟨_,rfl,_,_,rfl,rfl,⟨by decide,by decide⟩,?_⟩
     refine ⟨n - (xs ++ [rest % 1009]).length,?_,xs ++ [rest % 1009],_,rfl,rfl,Same.add sm hr0,?_,?_,?_⟩
     ·rw [Ae,At]; omega
     ·rw [Zc,<- Zec]
     ·rw [Ae,At]; omega
     ·intro x hm
      rcases List.mem_append.mp hm with z | z
      ·exact hx x z
      ·have:x=rest % 1009:=by simpa using z
       subst this
       omega
    ·exact hnx _ _ ⟨xs,rest,rfl,sm,h1,hl,hx⟩
   ·exact hnx _ _ ⟨xs,rest,rfl,sm,h1,hl,hx⟩
  rintro σ H1 ⟨xs,rest,rfl,sm,h1,hl,hx⟩
  refine ⟨_,rfl,_,_,rfl,rfl,(by show (0:Int) < 2147483629; decide),?_⟩
  show tSeq (G8 _ _) _ _ _ _
  refine Zz (λσ H1=>∃ (xs:List Int) (rest seed:Int),σ=[some (.int c),some (.int n),some (.ref r),some (.int rest),some (.int seed)]/\Same H H1/\H1 r=some (.lst (xs.map V.int))/\xs.length=n/\(∀ x∈xs,0<=x/\x < 1009)) (λnx hnx=>?_) ?_
  ·refine ⟨λm σ H1=>∃ (xs:List Int) (rest seed:Int),m=n - xs.length/\σ=[some (.int c),some (.int n),some (.ref r),some (.int rest),some (.int seed)]/\Same H H1/\H1 r=some (.lst (xs.map V.int))/\xs.length<=n/\(∀ x∈xs,0<=x/\x < 1009),
    ⟨n - xs.length,xs,rest,_,rfl,rfl,sm,h1,hl,hx⟩,?_⟩
   clear h1 hl hx sm xs rest
   rintro m σ H1 ⟨xs,rest,seed,rfl,rfl,sm,h1,hl,hx⟩
   have el:((xs.map V.int).length:Int)=xs.length:=by simp
   refine ⟨_,rfl,r,_,rfl,.inl (SqL.of h1),_,rfl,_,_,rfl,rfl,_,rfl,?_⟩
   rw [el]
   refine ite2 (λg=>?_) (λg=>?_)
   ·have g:(xs.length:Int) < n:=by simpa using g
    refine ⟨_,λσ' H' h=>h,?_⟩
    refine ⟨_,rfl,_,_,rfl,rfl,.inr ⟨by decide,by decide⟩,_,_,rfl,rfl,_,rfl,r,_,rfl,.inl (SqL.of h1),_,_,rfl,rfl,_,_,rfl,rfl,(by show (0:Int) < 2147483647; decide),?_⟩
    obtain ⟨y,hy⟩:∃ y,y=(seed * 48271 + 12345 + ((xs.map V.int).length:Int)) % 2147483647 * 69621 % 2147483629 / 7 % 1009:=⟨_,rfl⟩
    refine ⟨_,rfl,.inl ⟨rfl,_,SqL.of h1⟩,_,rfl,_,_,rfl,rfl,.inr ⟨by decide,by decide⟩,_,_,rfl,rfl,(by show (0:Int) < 2147483629; decide),_,_,rfl,rfl,⟨by decide,by decide⟩,_,_,rfl,rfl,(by show (0:Int) < 1009; decide),r,_,_,rfl,rfl,h1,(by rw [Ab]; exact Zv (by omega)),?_⟩
    refine ⟨n - (xs ++ [y]).length,?_,xs ++ [y],_,_,rfl,rfl,Same.add sm hr0,?_,?_,?_⟩
    ·rw [Ae,At]; omega
    ·rw [Zc,<- Zec,hy]
    ·rw [Ae,At]; omega
    ·intro x hm
     rcases List.mem_append.mp hm with z | z
     ·exact hx x z
     ·have:x=y:=by simpa using z
      rw [this,hy]
      exact ⟨Int.emod_nonneg _ (by decide),Int.emod_lt_of_pos _ (by decide)⟩
   ·have g:¬ (xs.length:Int) < n:=by simpa using g
    exact hnx _ _ ⟨xs,rest,seed,rfl,sm,h1,by omega,hx⟩
  rintro σ H1 ⟨xs,rest,seed,rfl,sm,h1,hl,hx⟩
  exact ⟨_,rfl,k r xs H1 sm hr0 h1 hl hx⟩
noncomputable def Zmg (K:W.Frag):Sp:=λvs H Q _=>∃ (a:Addr) (xs:List Int) (n:Nat) (sh:Int),vs=[.ref a,.int n,.int sh]/\H a=some (.lst (xs.map V.int))/\xs.length=60/\(∀ x∈xs,0<=x/\x < 1009)/\1<=n/\n<=14 /\
 ∀ (p:Addr) (M:List (Option Nat)) (H':Hp),Same H H'->H p=none->H' p=some (.lst (M.map mV))->M.length=3 * n->(∀ (i j:Nat),M[i]?=some (some j)->M[j]?=some (some i)/\i≠j)->Q (.ref p) H'
theorem map_set {α:Type} (f:α->V) (l:List α) (i:Nat) (x:α):(l.map f).set i (f x)=(l.set i x).map f:=by rw [List.map_set]
theorem Jh {n i:Nat} (h:i < n):ixN n (i:Int)=some i:=by
 unfold ixN
 simp
 omega
theorem Zjp {α β:Type} (f:α->β):∀ (l:List α) (i:Nat),(l.map f).eraseIdx i=(l.eraseIdx i).map f
 | [],_=>rfl
 | _ :: _,0=>rfl
 | a :: r,i + 1=>by rw [List.map_cons,List.eraseIdx_cons_succ,Zjp f r i,List.eraseIdx_cons_succ,List.map_cons]
theorem natV (F:List Nat) (i:Nat):(F.map λ(j:Nat)=>V.int j)[i]?=(F[i]?).map λ(j:Nat)=>V.int j:=Ah ..
theorem Wn:FnScope ["_law_nums","_law_many","_law_share","_law_mates","_law_free_here","_law_at","_law_one","_law_pick","_law_other"] ["_law_nums","_law_many","_law_share"] (Zg Zdn):=Am
theorem Zi1 (T:Txt w K mg t):FnOk P w K mg base (CXr P w) 1 t.gd t.gD ["_law_nums","_law_many","_law_share"] (Zmg K):=by
 refine T.gM.F.aR Wn (λ_ _ _ _ H vs Q E hr h=>?_)
 ·obtain ⟨a,xs,n,sh,rfl,ha,hl,hx,h1,h2,k⟩:=h
  refine ⟨_,(Zf (Zr (i:=3) Wn.nd rfl (Or.inl rfl) (Zj Fs (Yo (Za Jm Zb)) (Zj We Ze (pv 1))))
   (Zf (Zr (i:=4) Wn.nd rfl (Or.inl rfl) (Ke rfl T.aC rfl T.ah rfl (Za (Zj We Ze (pv 1)) Zb)))
   (Zf (Zr (i:=5) Wn.nd rfl (Or.inl rfl) Ze)
   (Zf (Vo PassesOwn.never (Zm J5 (Zo Zl (by rfl) T.ae PySem.boot_len (Za (pv 4) Zb)) Ze (Zp _)) (Zf (Zr (i:=6) Wn.nd rfl (Or.inl rfl) (Ws PySem.F.plainAttrs_list PySem.F.slot_list_pop PySem.F.type_list_pop Zd9 (pv 4) (Za Ze Zb)))
   (Zf (Zr (i:=7) Wn.nd rfl (Or.inl rfl) (Zu Zy (pv 0) (pv 5) (λ_ _=>rfl)))
   (Zf (Zr (i:=5) Wn.nd rfl (Or.inl rfl) (Zj Yf (pv 5) Ze))
   (Zh (Z8 (Zm Zlx (Zj Z4 (pv 7) Ze) (pv 2) (Zp _)) (Zf (Zr (i:=8) Wn.nd rfl (Or.inl rfl) (Ws PySem.F.plainAttrs_list PySem.F.slot_list_pop PySem.F.type_list_pop Zd9 (pv 4) (Za (Zj Z4 (Zj Yk (pv 7) Ze) (Zo Zl (by rfl) T.ae PySem.boot_len (Za (pv 4) Zb))) Zb)))
   (Zf (Wc (pv 8) (J2 (pv 3) (pv 6) Wr))
   (Zh (Wc (pv 6) (J2 (pv 3) (pv 8) Wr))))) Z3))))))
   (Zh (Zn (pv 3))))))),?_⟩
  refine ⟨(by show 1<=sizeLine; decide),λq hq=>?_⟩
  refine ⟨_,rfl,_,_,rfl,rfl,.inl ⟨by decide,by decide⟩,q,_,_,rfl,rfl,Zc,(by omega),(by omega),?_,λm hm=>?_⟩
  ·have:(3 * (n:Int)).toNat=3 * n:=by omega
   show 1 * (3 * (n:Int)).toNat<=sizeLine
   rw [this,sizeLine_eq]; omega
  have eN:(3 * (n:Int)).toNat=3 * n:=by omega
  have eM:(List.replicate (3 * (n:Int)).toNat [V.non]).flatten=(List.replicate (3 * n) (none:Option Nat)).map mV:=by
   rw [eN,List.flatten_replicate_singleton,List.map_replicate]
   rfl
  refine ⟨_,rfl,_,_,rfl,rfl,.inl ⟨by decide,by decide⟩,3 * n,(congrArg (λz=>[V.int z]) (by omega:(3 * (n:Int))=((3 * n:Nat):Int))),by omega,λf hf=>?_⟩
  have hfm:f≠m:=λz=>by rw [z,Zc] at hf; cases hf
  have hm0:H m=none:=by
   have:m≠q:=λz=>by rw [z,Zc] at hm; cases hm
   rw [Zd this] at hm; exact hm
  have hf0:H f=none:=by
   rw [Zd hfm] at hf
   have:f≠q:=λz=>by rw [z,Zc] at hf; cases hf
   rw [Zd this] at hf; exact hf
  have sm0:Same H (upd (upd (upd H q (.lst [.non])) m (.lst (List.replicate (3 * (n:Int)).toNat [V.non]).flatten)) f (.lst ((List.range (3 * n)).map λ(i:Nat)=>V.int i))):=Same.add (Same.add (Same.new hq) hm0) hf0
  show tSeq (G8 _ _) _ _ _ _
  refine Zz (λσ H1=>∃ (M:List (Option Nat)) (v4 v5 v6 v7 v8:Option V),σ=[some (.ref a),some (.int n),some (.int sh),some (.ref m),v4,v5,v6,v7,v8]/\Same H H1/\H1 m=some (.lst (M.map mV))/\M.length=3 * n/\∀ (i j:Nat),M[i]?=some (some j)->M[j]?=some (some i)/\i≠j) (λnx hnx=>?_) ?_
  ·refine ⟨λc σ H1=>∃ (F:List Nat) (M:List (Option Nat)) (at':Nat) (v6 v7 v8:Option V),c=F.length/\σ=[some (.ref a),some (.int n),some (.int sh),some (.ref m),some (.ref f),some (.int at'),v6,v7,v8]/\Same H H1/\H1 m=some (.lst (M.map mV))/\H1 f=some (.lst (F.map λ(i:Nat)=>V.int i))/\SewOk (3 * n) F M/\at' + F.length<=3 * n,
    ⟨_,List.range (3 * n),List.replicate (3 * n) none,0,none,none,none,rfl,rfl,sm0,?_,Zc,SewOk.start _,by simp⟩,?_⟩
   ·rw [Zd hfm.symm,Zc,eM]
   rintro c σ H1 ⟨F,M,at',v6,v7,v8,rfl,rfl,sm,g1,g2,hs,hat⟩
   refine ⟨_,rfl,f,_,rfl,.inl (SqL.of g2),_,_,rfl,rfl,_,rfl,?_⟩
   rw [Ab]
   refine ite2 (λg=>?_) (λg=>?_)
   ·have g:1 < F.length:=by have:=of_decide_eq_true g; omega
    obtain ⟨one,F',rfl⟩:∃ one F',F=one :: F':=by
     cases F with
     | nil=>simp at g
     | cons a b=>exact ⟨a,b,rfl⟩
    rw [List.length_cons] at g hat
    refine ⟨_,λσ' H' h=>h,?_⟩
    refine ⟨_,rfl,.inl ⟨rfl,_,SqL.of g2⟩,f,_,0,0,V.int one,rfl,rfl,g2,by decide,by decide,(by simp [seqIndex?]),rfl,?_⟩
    have e0:((one :: F').map λ(i:Nat)=>V.int i).eraseIdx 0=F'.map λ(i:Nat)=>V.int i:=rfl
    rw [e0]
    have g2':(upd H1 f (.lst (F'.map λ(i:Nat)=>V.int i))) f=some (.lst (F'.map λ(i:Nat)=>V.int i)):=Zc
    have g1':(upd H1 f (.lst (F'.map λ(i:Nat)=>V.int i))) m=some (.lst (M.map mV)):=by rw [Zd hfm.symm]; exact g1
    have sm':Same H (upd H1 f (.lst (F'.map λ(i:Nat)=>V.int i))):=Same.add sm hf0
    generalize upd H1 f (.lst (F'.map λ(i:Nat)=>V.int i))=H2 at g1' g2' sm' ⊢
    have hpick:at' < xs.length:=by omega
    refine ⟨_,rfl,_,rfl,a,_,_,_,rfl,rfl,SqL.of (sm' _ _ ha),Xd (getI hpick),?_⟩
    obtain ⟨p0,p1⟩:=hx _ (List.getElem_mem hpick)
    have ep:xs.getD at' 0=xs[at']:=by rw [Ad,Ac hpick]; rfl
    rw [ep]
    generalize xs[at']=pick at p0 p1 ⊢
    refine ⟨_,rfl,_,_,rfl,rfl,?_⟩
    refine ⟨_,rfl,_,_,rfl,rfl,(by show (0:Int) < 7; decide),_,rfl,_,_,rfl,rfl,_,rfl,?_⟩
    refine ite2 (λ_=>?_) (λ_=>?_)
    ·-- other=free.pop(..)
     have hF:(0:Int) < F'.length:=by omega
     have k0:=Int.emod_nonneg (pick / 7) (show (F'.length:Int)≠0 by omega)
     have k1:=Int.emod_lt_of_pos (pick / 7) hF
     obtain ⟨kk,hkk⟩:∃ kk:Nat,pick / 7 % (F'.length:Int)=kk:=⟨_,(Int.toNat_of_nonneg k0).symm⟩
     have hkl:kk < F'.length:=by omega
     refine ⟨_,rfl,.inl ⟨rfl,_,SqL.of g2'⟩,_,rfl,_,_,rfl,rfl,⟨by decide,by decide⟩,_,rfl,f,_,rfl,.inl (SqL.of g2'),_,_,rfl,rfl,(by rw [Ab]; exact hF),f,_,_,kk,V.int F'[kk],rfl,rfl,g2',?_,?_,?_,?_,?_⟩
     ·rw [Ab,hkk]; omega
     ·rw [Ab,hkk]; omega
     ·rw [Ab,hkk]; simp [seqIndex?]; omega
     ·rw [natV,Ac hkl]; rfl
     have e1:(F'.map λ(i:Nat)=>V.int i).eraseIdx kk=(F'.eraseIdx kk).map λ(i:Nat)=>V.int i:=by rw [Zjp]
     rw [e1]
     have hp:=hs.pair (Ac hkl)
     have l1:one < M.length:=by rw [hs.len]; exact (hs.free one List.mem_cons_self).1
     have l2:F'[kk] < M.length:=by rw [hs.len]; exact (hs.free _ (List.mem_cons_of_mem _ (List.getElem_mem hkl))).1
     have g1'':(upd H2 f (.lst ((F'.eraseIdx kk).map λ(i:Nat)=>V.int i))) m=some (.lst (M.map mV)):=by rw [Zd hfm.symm]; exact g1'
     refine ⟨_,rfl,_,rfl,_,rfl,m,_,_,one,rfl,rfl,g1'',(by rw [Ab]; exact Jh l1),?_⟩
     refine ⟨_,rfl,_,rfl,_,rfl,m,_,_,F'[kk],rfl,rfl,Zc,(by rw [List.length_set,Ab]; exact Jh l2),?_⟩
     refine ⟨(F'.eraseIdx kk).length,?_,F'.eraseIdx kk,(M.set one (some F'[kk])).set F'[kk] (some one),at' + 1,_,_,_,rfl,rfl,Same.add (Same.add (Same.add sm' hf0) hm0) hm0,?_,?_,hp,?_⟩
     ·rw [List.length_eraseIdx_of_lt hkl,List.length_cons]; omega
     ·rw [Zc]
      show some (HO.lst (((M.map mV).set one (mV (some F'[kk]))).set F'[kk] (mV (some one))))=_
      rw [map_set,map_set]
     ·rw [Zd hfm,Zd hfm,Zc]
     ·rw [List.length_eraseIdx_of_lt hkl]; omega
    ·exact ⟨F'.length,by rw [List.length_cons]; omega,F',M,at' + 1,_,_,_,rfl,rfl,sm',g1',g2',hs.skip,by omega⟩
   ·exact hnx _ _ ⟨M,_,_,_,_,_,rfl,sm,g1,hs.len,hs.inv⟩
  rintro σ H1 ⟨M,v4,v5,v6,v7,v8,rfl,sm,g1,hl',hi'⟩
  exact ⟨_,rfl,k m M H1 sm hm0 g1 hl' hi'⟩
theorem Jg {lo:Int} {n:Nat} {g:TG} {tt:TT} {tb:TB} {R:St->Hp->Prop} {σ:St} {H:Hp} (Pv:Nat->St->Hp->Prop) (h0:Pv 0 σ H)
  (hs:∀ (i:Nat) σ H,i < n->Pv i σ H->g (.int (lo + i)) σ H λσ2 H2=>tt σ2 H2 λb H3=>if b=true then tb σ2 H3 (Pv (i + 1)) else Pv (i + 1) σ2 H3) (hd:∀ σ H,Pv n σ H->R σ H):Jr (Itr lo n) g tt tb R σ H:=by
 refine ⟨λi m σ H=>m=n - i/\i<=n/\Pv i σ H,⟨n,by simp,Az _,h0⟩,?_⟩
 rintro i m σ H ⟨rfl,hi,p⟩
 by_cases hlt:i < n
 ·refine .inr ⟨hlt,Pv (i + 1),λσ' H' p'=>⟨n - (i + 1),by omega,rfl,hlt,p'⟩,λx H' y=>?_⟩
  obtain ⟨e,y⟩:=y
  subst e y
  exact hs i σ _ hlt p
 ·have e:i=n:=by omega
  subst e
  exact .inl ⟨An _,hd σ H p⟩
theorem Y6 {K:W.Frag} {a:Addr} {xs:List V} {g:TG} {tt:TT} {tb:TB} {R:St->Hp->Prop} {σ:St} {H:Hp} (Pv:Nat->St->Hp->Prop) (h0:Pv 0 σ H) (hl:∀ i σ H,i<=xs.length->Pv i σ H->SqL K H a xs)
  (hs:∀ (i:Nat) x σ H,xs[i]?=some x->Pv i σ H->g x σ H λσ2 H2=>tt σ2 H2 λb H3=>if b=true then tb σ2 H3 (Pv (i + 1)) else Pv (i + 1) σ2 H3) (hd:∀ σ H,Pv xs.length σ H->R σ H):Jr (Itl K a) g tt tb R σ H:=by
 refine ⟨λi m σ H=>m=xs.length - i/\i<=xs.length/\Pv i σ H,⟨xs.length,by simp,Az _,h0⟩,?_⟩
 rintro i m σ H ⟨rfl,hi,p⟩
 have q:=hl i σ H hi p
 by_cases hlt:i < xs.length
 ·refine .inr ⟨⟨xs,xs[i],q,by simp [hlt]⟩,Pv (i + 1),λσ' H' p'=>⟨xs.length - (i + 1),by omega,rfl,hlt,p'⟩,λx H' y=>?_⟩
  obtain ⟨e,y⟩:=y
  subst e
  exact hs i x σ _ (y xs q) p
 ·have e:i=xs.length:=by omega
  subst e
  exact .inl ⟨⟨xs,q,An _⟩,hd σ H p⟩
theorem Oc {K:W.Frag} {a:Addr} {xs:List V} {g:TG} {tt:TT} {tb:TB} {R:St->Hp->Prop} {σ:St} {H:Hp} (Pv:Nat->St->Hp->Prop) (h0:Pv 0 σ H) (hl:∀ i σ H,i<=xs.length->Pv i σ H->SqT K H a xs)
  (hs:∀ (i:Nat) x σ H,xs[i]?=some x->Pv i σ H->g x σ H λσ2 H2=>tt σ2 H2 λb H3=>if b=true then tb σ2 H3 (Pv (i + 1)) else Pv (i + 1) σ2 H3) (hd:∀ σ H,Pv xs.length σ H->R σ H):Jr (Itt K a) g tt tb R σ H:=by
 refine ⟨λi m σ H=>m=xs.length - i/\i<=xs.length/\Pv i σ H,⟨xs.length,by simp,Az _,h0⟩,?_⟩
 rintro i m σ H ⟨rfl,hi,p⟩
 have q:=hl i σ H hi p
 by_cases hlt:i < xs.length
 ·refine .inr ⟨⟨xs,xs[i],q,by simp [hlt]⟩,Pv (i + 1),λσ' H' p'=>⟨xs.length - (i + 1),by omega,rfl,hlt,p'⟩,λx H' y=>?_⟩
  obtain ⟨e,y⟩:=y
  subst e
  exact hs i x σ _ (y xs q) p
 ·have e:i=xs.length:=by omega
  subst e
  exact .inl ⟨⟨xs,q,An _⟩,hd σ H p⟩
noncomputable def row3 (ns:List Int) (k:Nat):List V:=[.int (ns.getD (3 * k) 0),.int (ns.getD (3 * k + 1) 0),.int (ns.getD (3 * k + 2) 0)]
noncomputable def Yr (H:Hp) (r:Addr) (ns:List Int):Prop:=∃ ts:List Addr,H r=some (.lst (ts.map V.ref))/\ns.length=3 * ts.length/\∀ (k:Nat) (t:Addr),ts[k]?=some t->H t=some (.tup (row3 ns k))
theorem Yr.same {H H':Hp} {r:Addr} {ns:List Int} (h:Yr H r ns) (s:Same H H'):Yr H' r ns:=by
 obtain ⟨ts,h1,h2,h3⟩:=h
 exact ⟨ts,s _ _ h1,h2,λk t e=>s _ _ (h3 k t e)⟩
noncomputable def Zmi:Sp:=λvs H Q _=>∃ (a:Addr) (M:List (Option Nat)) (n:Nat) (st sp:Int),vs=[.ref a,.int st,.int sp]/\H a=some (.lst (M.map mV))/\M.length=3 * n/\1<=n/\n<=14/\(∀ (i j:Nat),M[i]?=some (some j)->M[j]?=some (some i)/\i≠j)/\sp∈U4 /\
 ∀ (p:Addr) (H':Hp),Same H H'->H p=none->Yr H' p (flat M st sp)->Q (.ref p) H'
theorem K1 {t:Int} (h:t∈U4):-(2 ^ 64) < t/\t < 2 ^ 64:=by
 simp only [U4,List.mem_cons,List.not_mem_nil,or_false] at h
 rcases h with rfl | rfl | rfl | rfl | rfl | rfl | rfl | rfl <;> decide
theorem Zol {M:List (Option Nat)} {i:Nat} (h:i < M.length):atI (M.map mV) (0 + (i:Int))=some (mV M[i]):=by
 rw [Int.zero_add]
 exact Xd (by rw [Ah,Ac h]; rfl)
theorem V5:FnScope ["_law_mates","_law_start","_law_step","_law_flat","_law_at","_law_mate"] ["_law_mates","_law_start","_law_step"] (Zg Zdp):=Am
theorem Zi3 (T:Txt w K mg t):FnOk P w K mg base (CXr P w) 1 t.gf t.gE ["_law_mates","_law_start","_law_step"] Zmi:=by
 refine T.gN.F.aR V5 (λ_ _ _ _ H vs Q E hr h=>?_)
 ·obtain ⟨a,M,n,st,sp,rfl,ha,hM,h1,h2,hi,hsp,k⟩:=h
  refine ⟨_,(Zf (Zr (i:=3) V5.nd rfl (Or.inr rfl) (Yo Zb))
   (Zf (Y9 PassesOwn.never rfl (Yu rfl T.ah (Za (Zo Zl (by rfl) T.ae PySem.boot_len (Za (pv 0) Zb)) Zb)) (Zk (i:=4) V5.nd rfl (Or.inl rfl)) (Zf (Zr (i:=5) V5.nd rfl (Or.inl rfl) (Zu Zy (pv 0) (pv 4) (λ_ _=>rfl)))
   (Zh (Z8 (PW.pt (J1 (Zm Qs (pv 5) Jm (Zp _)) (Je (Zm Qz (pv 5) (pv 4) (Zp _))))) (Zh (Ys (Ws PySem.F.plainAttrs_list PySem.F.slot_list_append PySem.F.type_list_append Xi (pv 3) (Za (Zu Zy (pv 3) (pv 5) (λ_ _=>rfl)) Zb)))) (Zh (Ys (Ws PySem.F.plainAttrs_list PySem.F.slot_list_append PySem.F.type_list_append Xi (pv 3) (Za (Zj Z4 (Zj Yf (pv 1) (Zj We (pv 2) (pv 4))) Ze) Zb))))))))
   (Zh (Zn (Y4 (ts:=["_law_k"]) (fv:=[("_law_flat",3)]) ⟨rfl,by decide +kernel,by decide +kernel,Yc (by rfl),⟨⟨rfl,rfl,Or.inl rfl⟩,trivial⟩⟩ rfl (Yu rfl T.ah (Za (Zj Yk (Zo Zl (by rfl) T.ae PySem.boot_len (Za (pv 0) Zb)) Ze) Zb)) (λ_ _ _ _=>(Zk (i:=0) (show List.Nodup (["_law_k","_law_flat"]:List Str) from by decide +kernel) rfl (Or.inl rfl) (Or.inr rfl))) (λ_ _ _ _=>Yp) (λ_ _ _=>rfl) (λ_ _ _ _ _ _=>Ym (Xa (Za (Zu (Xt K) (pv 1) (Zj We Ze (pv 0)) (λ_ _=>rfl)) (Za (Zu (Xt K) (pv 1) (Zj Yf (Zj We Ze (pv 0)) Ze) (λ_ _=>rfl)) (Za (Zu (Xt K) (pv 1) (Zj Yf (Zj We Ze (pv 0)) Ze) (λ_ _=>rfl)) Zb)))))))))),?_⟩
  refine ⟨Az _,λf hf=>?_⟩
  have eL:(((M.map mV).length:Nat):Int).toNat=M.length:=by simp
  have ha1:(upd H f (.lst [])) a=some (.lst (M.map mV)):=by rw [Zd (Zi ha hf)]; exact ha
  dsimp only [Zs]
  show tSeq (tFor _ _ _) _ _ _ _
  refine Zz (λσ H1=>∃ (v4 v5:Option V),σ=[some (.ref a),some (.int st),some (.int sp),some (.ref f),v4,v5]/\Same H H1/\H1 f=some (.lst ((flat M st sp).map V.int))) (λnx hnx=>?_) ?_
  ·refine ⟨_,rfl,a,_,rfl,.inl (SqL.of ha1),_,rfl,by omega,by rw [Ab]; omega,?_⟩
   rw [eL]
   refine Xy (n:=M.length) (λi σ H1=>∃ (v4 v5:Option V),σ=[some (.ref a),some (.int st),some (.int sp),some (.ref f),v4,v5]/\Same H H1/\H1 f=some (.lst (((List.range i).map λi=>nm st sp (rep M i)).map V.int))) ⟨none,none,rfl,Same.new hf,Zc⟩ ?_ ?_
   ·rintro i σ H1 hlt ⟨v4,v5,rfl,sm,hfl⟩
    refine ⟨_,rfl,_,rfl,a,_,_,_,rfl,rfl,SqL.of (sm _ _ ha),Zol hlt,?_⟩
    have fin:∀ x:Int,x=nm st sp (rep M i)->(upd H1 f (.lst (((List.range i).map λi=>nm st sp (rep M i)).map V.int ++ [V.int x]))) f=some (.lst (((List.range (i + 1)).map λi=>nm st sp (rep M i)).map V.int)):=λx hx=>by
     rw [Zc,hx,List.range_succ]
     simp
    have hlen:(((List.range i).map λi=>nm st sp (rep M i)).map V.int).length < sizeLine:=by
     rw [Ab,Ab,List.length_range]; exact Zv (by omega)
    refine ⟨_,rfl,rfl,_,rfl,?_⟩
    cases e:M[i] with
    | none =>
     have er:rep M i=i:=by unfold rep; rw [Ac hlt,e]
     refine iteF ?_
     refine iteF ?_
     refine ⟨_,rfl,.inl ⟨rfl,_,SqL.of hfl⟩,_,rfl,_,rfl,_,rfl,_,_,rfl,rfl,.inl (K1 hsp),_,_,rfl,rfl,_,_,rfl,rfl,(by show (0:Int) < 10000; decide),f,_,_,rfl,rfl,hfl,hlen,?_⟩
     exact ⟨_,_,rfl,Same.add sm hf,fin _ (by rw [er]; unfold nm; rw [Int.zero_add])⟩
    | some j =>
     have hMi:M[i]?=some (some j):=by rw [Ac hlt,e]
     refine iteT ?_
     refine ⟨_,rfl,_,rfl,_,_,rfl,rfl,_,rfl,?_⟩
     refine ite2 (λg=>?_) (λg=>?_)
     ·have g:j < i:=by have:=of_decide_eq_true g; omega
      have er:rep M i=j:=by unfold rep; rw [hMi]; exact if_pos g
      have erj:rep M j=j:=by unfold rep; rw [(hi i j hMi).1]; exact if_neg (by omega)
      have ej:atI (((List.range i).map λi=>nm st sp (rep M i)).map V.int) (j:Int)=some (V.int (nm st sp (rep M i))):=by
       refine Xd ?_
       rw [Ah,Ah,List.getElem?_range g,er]
       show some (V.int (nm st sp (rep M j)))=_
       rw [erj]
      refine ⟨_,rfl,.inl ⟨rfl,_,SqL.of hfl⟩,_,rfl,_,rfl,f,_,_,_,rfl,rfl,SqL.of hfl,ej,f,_,_,rfl,rfl,hfl,hlen,?_⟩
      exact ⟨_,_,rfl,Same.add sm hf,fin _ rfl⟩
     ·have g:¬ j < i:=by
       have:¬ ((j:Int) < 0 + (i:Int)):=λz=>g (decide_eq_true z)
       omega
      have er:rep M i=i:=by unfold rep; rw [hMi]; exact if_neg g
      refine ⟨_,rfl,.inl ⟨rfl,_,SqL.of hfl⟩,_,rfl,_,rfl,_,rfl,_,_,rfl,rfl,.inl (K1 hsp),_,_,rfl,rfl,_,_,rfl,rfl,(by show (0:Int) < 10000; decide),f,_,_,rfl,rfl,hfl,hlen,?_⟩
      exact ⟨_,_,rfl,Same.add sm hf,fin _ (by rw [er]; unfold nm; rw [Int.zero_add])⟩
   ·rintro σ H1 ⟨v4,v5,rfl,sm,hfl⟩
    exact hnx _ _ ⟨v4,v5,rfl,sm,hfl⟩
  rintro σ H1 ⟨v4,v5,rfl,sm,hfl⟩
  refine ⟨_,rfl,a,_,rfl,.inl (SqL.of (sm _ _ ha)),_,_,rfl,rfl,⟨by decide,by decide⟩,_,rfl,by rw [Ab]; omega,by rw [Ab]; omega,λD hD=>?_⟩
  have eD:((((M.map mV).length:Nat):Int) / 3).toNat=n:=by rw [Ab,hM]; omega
  have hD0:H D=none:=sm.free hD
  have hfD:f≠D:=λz=>by rw [z] at hfl; rw [hD] at hfl; cases hfl
  have hlf:(flat M st sp).length=3 * n:=by unfold flat; simp [hM]
  show Jr (Itr 0 ((((M.map mV).length:Nat):Int) / 3).toNat) _ _ _ _ _ _
  rw [eD]
  refine Jg (λi σ H2=>∃ (ts:List Addr) (v:Option V),σ=[v,some (.ref f)]/\Same H H2/\H2 D=some (.lst (ts.map V.ref))/\ts.length=i/\H2 f=some (.lst ((flat M st sp).map V.int))/\∀ (k:Nat) (t:Addr),ts[k]?=some t->H2 t=some (.tup (row3 (flat M st sp) k)))
   ⟨[],none,rfl,Same.add sm hD0,Zc,rfl,by rw [Zd hfD]; exact hfl,λk t z=>by simp at z⟩ ?_ ?_
  ·rintro i σ H2 hlt ⟨ts,v,rfl,sm2,g1,hl2,g2,g3⟩
   have at':∀ (c:Nat) (z:Int),c < 3->z=3 * (0 + (i:Int)) + c->atI ((flat M st sp).map V.int) z=some (V.int ((flat M st sp).getD (3 * i + c) 0)):=λc z hc hz=>by
    have e:z=((3 * i + c:Nat):Int):=by omega
    rw [e]
    exact Xd (getI (by omega))
   dsimp only [Zs,tYes]
   rw [if_pos rfl]
   refine ⟨_,rfl,_,rfl,_,_,rfl,rfl,.inl ⟨by decide,by decide⟩,f,_,_,_,rfl,rfl,SqL.of g2,at' 0 _ (by decide) (by simp),?_⟩
   refine ⟨_,rfl,_,rfl,_,_,rfl,rfl,.inl ⟨by decide,by decide⟩,_,_,rfl,rfl,f,_,_,_,rfl,rfl,SqL.of g2,at' 1 _ (by decide) rfl,?_⟩
   refine ⟨_,rfl,_,rfl,_,_,rfl,rfl,.inl ⟨by decide,by decide⟩,_,_,rfl,rfl,f,_,_,_,rfl,rfl,SqL.of g2,at' 2 _ (by decide) rfl,?_⟩
   refine ⟨(by show 3<=sizeLine; decide),λq hq=>?_⟩
   have hqD:q≠D:=λz=>by rw [z,g1] at hq; cases hq
   have hqf:q≠f:=λz=>by rw [z,g2] at hq; cases hq
   have hq0:H q=none:=sm2.free hq
   refine ⟨_,by rw [Zd (Ne.symm hqD)]; exact g1,(by rw [Ab]; exact Zv (by omega)),ts ++ [q],_,rfl,Same.add (Same.add sm2 hq0) hD0,?_,?_,?_,?_⟩
   ·rw [Zc]; simp
   ·rw [Ae,At,hl2]
   ·rw [Zd hfD,Zd (Ne.symm hqf)]; exact g2
   ·intro k t z
    by_cases hk:k < ts.length
    ·rw [Av hk] at z
     have g:=g3 k t z
     rw [Zd (λe=>by rw [e,g1] at g; cases g),Zd (Zi g hq)]
     exact g
    ·have hk2:k=ts.length:=by
      have:=(Aa z).1
      rw [Ae,At] at this
      omega
     subst hk2
     have:t=q:=by simpa using z.symm
     subst this
     rw [Zd hqD,Zc,hl2]
     rfl
  ·rintro σ H2 ⟨ts,v,rfl,sm2,g1,hl2,g2,g3⟩
   exact k D H2 sm2 hD0 ⟨ts,g1,by rw [hlf,hl2],g3⟩
theorem at4 {i:Int} (h0:0<=i) (h1:i < 4):∃ sh:Int,atI [V.int 0,V.int 0,V.int 1,V.int 3] i=some (V.int sh):=by
 obtain rfl | rfl | rfl | rfl:i=0\/i=1\/i=2\/i=3:=by omega
 all_goals exact ⟨_,rfl⟩
theorem at8 {i:Int} (h0:0<=i) (h1:i < 8):∃ sp:Int,sp∈U4/\atI [V.int 1,V.int 3,V.int 7,V.int 9,V.int 37,V.int 1009,V.int 3333,V.int 9999] i=some (V.int sp):=by
 obtain rfl | rfl | rfl | rfl | rfl | rfl | rfl | rfl:i=0\/i=1\/i=2\/i=3\/i=4\/i=5\/i=6\/i=7:=by omega
 all_goals exact ⟨_,by decide,rfl⟩
noncomputable def Zmf (K:W.Frag):Sp:=λvs H Q _=>∃ (a:Addr) (ns:List Int),vs=[.ref a]/\SqL K H a (ns.map V.int)/\ns.length<=63 /\
 ∀ (p m r:Addr) (M:List (Option Nat)) (nms:List Int) (H':Hp),Same H H'->H' p=some (.tup [.ref m,.ref r])->H' m=some (.lst (M.map mV))->Yr H' r nms->TD M nms->M.length<=42->H m=none->H r=none->Q (.ref p) H'
theorem Wm:FnScope ["_law_script","_law_head","_law_many","_law_names","_law_share","_law_mates","_law_step"] ["_law_script"] (Zg Zdm):=Am
theorem Zi0 (T:Txt w K mg t):FnOk P w K mg base (CXr P w) 2 t.gh t.gF ["_law_script"] (Zmf K):=by
 refine T.gO.F.aR Wm (λ_ _ _ _ H vs Q E hr h=>?_)
 ·obtain ⟨a,ns,rfl,hS,hl,k⟩:=h
  refine ⟨_,(Zf (Zr (i:=1) Wm.nd rfl (Or.inl rfl) (pcT (W5 T) hr T.aJ (Za (pv 0) (Za Ze Zb))))
   (Zf (Zr (i:=2) Wm.nd rfl (Or.inl rfl) (Zj Yf Ze (Zj Z4 (pv 1) Ze)))
   (Zf (Z8 (Zm Ya (Zj Z4 (Zj Yk (pv 1) Ze) Ze) Ze (Zp _)) (Zh (Zr (i:=2) Wm.nd rfl (Or.inl rfl) (Zj Yf Ze (Zj Z4 (Zj Yk (pv 1) Ze) Ze)))) Z3)
   (Zf (Zr (i:=3) Wm.nd rfl (Or.inl rfl) (pcT (W5 T) hr T.aJ (Za (pv 0) (Za Ze Zb))))
   (Zf (Zr (i:=4) Wm.nd rfl (Or.inl rfl) (Zu X5 (Xa (Za Ze (Za Ze (Za Ze (Za Ze Zb))))) (Zj Z4 (pv 3) Ze) (λ_ _=>rfl)))
   (Zf (Zr (i:=5) Wm.nd rfl (Or.inl rfl) (pcT (Zi1 T) hr T.gM (Za (pcT (Kh T) hr T.cm (Za (pcT (W5 T) hr T.aJ (Za (pv 0) (Za Ze Zb))) (Za Ze Zb))) (Za (pv 2) (Za (pv 4) Zb)))))
   (Zf (Zr (i:=6) Wm.nd rfl (Or.inl rfl) (Zu X5 (Xa (Za Ze (Za Ze (Za Ze (Za Ze (Za Ze (Za Ze (Za Ze (Za Ze Zb))))))))) (Zj Z4 (Zj Yk (pv 3) Ze) Ze) (λ_ _=>rfl)))
   (Zh (Zn (Xa (Za (pv 5) (Za (pcT (Zi3 T) hr T.gN (Za (pv 5) (Za (Zj Z4 (Zj Yk (pv 3) Ze) Ze) (Za (pv 6) Zb)))) Zb)))))))))))),?_⟩
  refine ⟨_,rfl,a,ns,0,rfl,hS,hl,by decide,by decide,?_⟩
  generalize cell ns 0=hd
  refine ⟨_,rfl,_,_,rfl,rfl,(by show (0:Int) < 6; decide),_,_,rfl,rfl,?_⟩
  dsimp only [Zs]
  show tSeq (tIfS _ _ _) _ _ _ _
  refine Zz (λσ H1=>∃ n:Nat,1<=n/\n<=14/\σ=[some (.ref a),some (.int hd),some (.int n),none,none,none,none]/\H1=H) (λnx hnx=>?_) ?_
  ·refine ⟨_,rfl,_,_,rfl,rfl,⟨by decide,by decide⟩,_,_,rfl,rfl,(by show (0:Int) < 9; decide),rfl,_,rfl,?_⟩
   refine ite2 (λ_=>?_) (λ_=>?_)
   ·refine ⟨_,rfl,_,_,rfl,rfl,⟨by decide,by decide⟩,_,_,rfl,rfl,(by show (0:Int) < 8; decide),_,_,rfl,rfl,?_⟩
    have e:(7 + hd / 54 % 8:Int)=((7 + (hd / 54 % 8).toNat:Nat):Int):=by omega
    exact hnx _ _ ⟨7 + (hd / 54 % 8).toNat,by omega,by omega,by rw [<- e]; rfl,rfl⟩
   ·have e:(1 + hd % 6:Int)=((1 + (hd % 6).toNat:Nat):Int):=by omega
    exact hnx _ _ ⟨1 + (hd % 6).toNat,by omega,by omega,by rw [<- e]; rfl,rfl⟩
  rintro σ H1 ⟨n,n1,n2,rfl,rfl⟩
  refine ⟨_,rfl,a,ns,2,rfl,hS,hl,by decide,by decide,?_⟩
  generalize cell ns 2=nam
  refine ⟨(by show 4<=sizeLine; decide),λq hq=>?_⟩
  have m4:0<=nam % 4/\nam % 4 < 4:=by omega
  obtain ⟨sh,esh⟩:=at4 m4.1 m4.2
  refine ⟨_,rfl,_,_,rfl,rfl,(by show (0:Int) < 4; decide),q,_,_,_,rfl,rfl,SqT.of Zc,esh,?_⟩
  have s1:Same H1 (upd H1 q (.tup [V.int 0,V.int 0,V.int 1,V.int 3])):=Same.new hq
  refine ⟨_,rfl,a,ns,1,rfl,s1.seq hS,hl,by decide,by decide,?_⟩
  refine ⟨_,60,rfl,by decide,λp xs H2 s2 hp h2 h60 hx=>?_⟩
  refine ⟨_,rfl,_,rfl,p,xs,n,sh,rfl,h2,h60,hx,n1,n2,λm M H3 s3 hm hM hlen hinv=>?_⟩
  have s13:Same H1 H3:=(s1.trans s2).trans s3
  have hm0:H1 m=none:=(s1.trans s2).free hm
  refine ⟨(by show 8<=sizeLine; decide),λq2 hq2=>?_⟩
  have m8:0<=nam / 4 % 8/\nam / 4 % 8 < 8:=by omega
  obtain ⟨sp,hsp,esp⟩:=at8 m8.1 m8.2
  refine ⟨_,rfl,_,_,rfl,rfl,⟨by decide,by decide⟩,_,_,rfl,rfl,(by show (0:Int) < 8; decide),q2,_,_,_,rfl,rfl,SqT.of Zc,esp,?_⟩
  have s14:Same H1 (upd H3 q2 (.tup [V.int 1,V.int 3,V.int 7,V.int 9,V.int 37,V.int 1009,V.int 3333,V.int 9999])):=Same.add s13 (s13.free hq2)
  have hM4:(upd H3 q2 (.tup [V.int 1,V.int 3,V.int 7,V.int 9,V.int 37,V.int 1009,V.int 3333,V.int 9999])) m=some (.lst (M.map mV)):=by rw [Zd (Zi hM hq2)]; exact hM
  refine ⟨_,rfl,_,rfl,_,rfl,_,_,rfl,rfl,⟨by decide,by decide⟩,_,_,rfl,rfl,(by show (0:Int) < 10000; decide),_,rfl,m,M,n,_,sp,rfl,hM4,hlen,n1,n2,hinv,hsp,λr H5 s5 hr5 hrow=>?_⟩
  refine ⟨(by show 2<=sizeLine; decide),λp5 hp5=>?_⟩
  have s15:=s14.trans s5
  have hr0:H1 r=none:=s14.free hr5
  refine k p5 m r M _ _ (Same.add s15 (s15.free hp5)) Zc ?_ (hrow.same (Same.new hp5)) (Zl6 n1 n2 hlen hinv hsp) (by omega) hm0 hr0
  rw [Zd (Zi (s5 _ _ hM4) hp5)]
  exact s5 _ _ hM4
noncomputable def spk (ns:List Int) (n:Nat) (f:Int->Addr):List (Key × V):=(keys ns n).map λx=>((Sum.inl x:Key),V.ref (f x))
structure SpotsF (H:Hp) (ns:List Int) (n:Nat) (f:Int->Addr):Prop where
 inj:∀ x∈keys ns n,∀ y∈keys ns n,f x=f y->x=y
 at':∀ x∈keys ns n,H (f x)=some (.lst ((pl ns n x).map nV))
noncomputable def Zes:Sp:=λvs H Q _=>∃ (a:Addr) (M:List (Option Nat)) (ns:List Int),vs=[.ref a]/\H a=some (.lst (ns.map V.int))/\TD M ns/\ns.length<=120 /\
 ∀ (d:Addr) (f:Int->Addr) (H':Hp),Same H H'->H d=none->H' d=some (.dK (spk ns ns.length f))->SpotsF H' ns ns.length f->(∀ x∈keys ns ns.length,H (f x)=none)->Q (.ref d) H'
theorem Qy:FnScope ["names_at","spots","place","name"] ["names_at"] (Zg Fh):=Am
theorem Ze3 (T:Txt w K mg t):FnOk P w K mg base (CXr P w) 1 t.dS t.eg ["names_at"] Zes:=by
 refine T.eJ.F.aR Qy (λ_ _ _ _ H vs Q E hr h=>?_)
 ·obtain ⟨a,M,ns,rfl,ha,td,hl,k⟩:=h
  have hu:=Ww hr
  refine ⟨_,(Zf (Zr (i:=1) Qy.nd rfl (Or.inl rfl) Vr)
   (Zf (Y9 PassesOwn.never rfl (Zmy rfl T.gS (Za (pv 0) Zb)) (Wk rfl (Zx (Zk (i:=2) Qy.nd rfl (Or.inl rfl)) (Zx (Zk (i:=3) Qy.nd rfl (Or.inl rfl)) Yy))) (Zf (Z8 (PW.pt (U7 (Zm Qz (pv 3) Ze (Zp _)) (Vn (Zm J5 (pv 3) (Vf (v:=.int 9999) rfl T.dL ⟨_,rfl⟩) (Zp _))))) Xh Z3)
   (Zf (Ys (Ws PySem.F.plainAttrs_list PySem.F.slot_list_append PySem.F.type_list_append Xi (Zkv (pv 1) (pv 3) (Yo Zb) ⟨rfl,rfl,rfl,rfl⟩) (Za (pv 2) Zb)))
   (Zh (Z8 (Zm J5 (Zo Zl (by rfl) T.ae PySem.boot_len (Za (Qp hu (pv 1) (pv 3) (λ_ _=>rfl)) Zb)) Ze (Zp _)) Xh Z3)))))
   (Zh (Zn (pv 1))))),?_⟩
  intro d hd
  have hda:a≠d:=Zi ha hd
  dsimp only [Zs]
  show tSeq (tFor _ _ _) _ _ _ _
  refine Zz (λσ H1=>∃ (f:Int->Addr) (v2 v3:Option V),σ=[some (.ref a),some (.ref d),v2,v3]/\Same H H1/\H1 d=some (.dK (spk ns ns.length f))/\SpotsF H1 ns ns.length f/\∀ x∈keys ns ns.length,H (f x)=none) (λnx hnx=>?_) ?_
  ·refine ⟨_,rfl,a,rfl,⟨_,SqL.of (by rw [Zd hda]; exact ha)⟩,?_⟩
   have el:(ns.map V.int).length=ns.length:=by simp
   refine Zll (xs:=ns.map V.int) (λi σ H1=>∃ (f:Int->Addr) (v2 v3:Option V),σ=[some (.ref a),some (.ref d),v2,v3]/\Same H H1/\H1 d=some (.dK (spk ns i f))/\SpotsF H1 ns i f/\∀ x∈keys ns i,H (f x)=none)
    ⟨λ_=>0,none,none,rfl,Same.new hd,Zc,⟨λx hx=>by simp [keys] at hx,λx hx=>by simp [keys] at hx⟩,λx hx=>by simp [keys] at hx⟩ ?_ ?_ ?_
   ·rintro i σ H1 _ ⟨f,v2,v3,rfl,sm,_⟩
    exact SqL.of (sm _ _ ha)
   ·rintro i x0 σ H1 q hx hq ⟨f,v2,v3,rfl,sm,hd1,sf,hf0⟩
    have hi:i < ns.length:=by rw [<- el]; exact (Aa hx).1
    obtain ⟨x,hx'⟩:∃ x,ns[i]?=some x:=⟨_,Ac hi⟩
    obtain rfl:x0=V.int x:=by rw [Ah,hx'] at hx; exact (Ax hx).symm
    refine ⟨q,_,rfl,SqT.of Zc,rfl,_,_,rfl,_,_,rfl,rfl,?_⟩
    obtain ⟨x0,x1⟩:=td.rng i x hx'
    refine ⟨_,rfl,_,_,rfl,rfl,_,rfl,?_⟩
    rw [decide_eq_false (by omega:¬ x < 0)]
    refine iteF ?_
    refine ⟨_,rfl,_,_,rfl,rfl,_,rfl,?_⟩
    rw [decide_eq_false (by omega:¬ x > 9999)]
    refine iteF ?_
    have hdq:d≠q:=Zi hd1 hq
    have hd2:(upd H1 q (.tup [.int i,.int x])) d=some (.dK (spk ns i f)):=by rw [Zd hdq]; exact hd1
    dsimp only [Wp]
    show tSeq (Zls _) _ _ _ _
    refine Zz (λσ H2=>∃ (f:Int->Addr),σ=[some (.ref a),some (.ref d),some (.int i),some (.int x)]/\Same H H2/\H2 d=some (.dK (spk ns (i + 1) f))/\SpotsF H2 ns (i + 1) f/\∀ x∈keys ns (i + 1),H (f x)=none) (λnx2 hnx2=>?_) ?_
    ·refine ⟨_,rfl,d,rfl,.inl ⟨_,.inl hd2⟩,_,rfl,Az _,λl hl'=>?_⟩
     obtain ⟨hlq,hl1⟩:=Xl hl'
     have hdl:d≠l:=Zi hd1 hl1
     have hd3:(upd (upd H1 q (.tup [.int i,.int x])) l (.lst [])) d=some (.dK (spk ns i f)):=by rw [Zd hdl]; exact hd2
     have hlk:(spk ns i f).length < sizeLine:=by unfold spk; rw [Ab]; exact Zv (by have:=Vx ns i; omega)
     have hq0:H q=none:=sm.free hq
     have hl0:H l=none:=sm.free hl1
     have smq:Same H (upd (upd H1 q (.tup [.int i,.int x])) l (.lst [])):=Same.add (Same.add sm hq0) hl0
     have hp2:(pl ns i x).length < sizeLine:=Zv (by have:=Zdy td i x; omega)
     have old:∀ b u,H1 b=some u->(upd (upd H1 q (.tup [.int i,.int x])) l (.lst [])) b=some u:=λb u e=>by rw [Zd (Zi e hl1),Zd (Zi e hq)]; exact e
     refine ⟨spk ns i f,Sum.inl x,hd3,hlk,rfl,λv hv=>?_,λhv=>?_⟩
     ·-- the name stands already
      have hx2:x∈keys ns i:=by
       unfold spk at hv
       rw [Ja] at hv
       by_cases c:x∈keys ns i
       ·exact c
       ·rw [if_neg c] at hv; cases hv
      obtain rfl:v=V.ref (f x):=by
       unfold spk at hv
       rw [Ja,if_pos hx2] at hv
       exact (Ax hv).symm
      have ek:keys ns (i + 1)=keys ns i:=by rw [W9 hx',if_pos hx2]
      have hfx:=old _ _ (sf.at' x hx2)
      refine ⟨.inl ⟨rfl,_,SqL.of hfx⟩,_,rfl,f x,_,_,rfl,rfl,hfx,by rw [Ab]; exact hp2,hnx2 _ _ ⟨f,rfl,Same.add smq (hf0 x hx2),?_,⟨?_,?_⟩,?_⟩⟩
      ·have:d≠f x:=λz=>by rw [<- z,hd3] at hfx; cases hfx
       rw [Zd this,hd3]
       unfold spk
       rw [ek]
      ·rw [ek]; exact sf.inj
      ·intro y hy
       rw [ek] at hy
       by_cases c:y=x
       ·subst c
        rw [Zc,Zat hx',Aj]
        rfl
       ·have:f y≠f x:=λz=>c (sf.inj y hy x hx2 z)
        rw [Zd this,old _ _ (sf.at' y hy),Gr (by rw [hx']; intro z; cases z; exact c rfl)]
      ·rw [ek]; exact hf0
     ·-- a new name
      have hx2:x ∉ keys ns i:=by
       intro c
       unfold spk at hv
       rw [Ja,if_pos c] at hv
       cases hv
      have ek:keys ns (i + 1)=keys ns i ++ [x]:=by rw [W9 hx',if_neg hx2]
      have ep:putK (spk ns i f) (Sum.inl x) (V.ref l)=spk ns (i + 1) (λy=>if y=x then l else f y):=by
       unfold spk
       rw [Zap hx2,ek,Aj]
       congr 1
       ·apply List.map_congr_left
        intro y hy
        dsimp only
        rw [if_neg (λ(z:y=x)=>hx2 (z ▸ hy))]
       ·simp
      rw [ep]
      have hl4:(upd (upd (upd H1 q (.tup [.int i,.int x])) l (.lst [])) d (.dK (spk ns (i + 1) (λy=>if y=x then l else f y)))) l=some (.lst []):=by rw [Zd (Ne.symm hdl),Zc]
      refine ⟨.inl ⟨rfl,_,SqL.of hl4⟩,_,rfl,l,_,_,rfl,rfl,hl4,by decide,hnx2 _ _ ⟨λy=>if y=x then l else f y,rfl,Same.add (Same.add smq hd) hl0,?_,⟨?_,?_⟩,?_⟩⟩
      ·rw [Zd hdl,Zc]
      ·intro y hy z hz e
       rw [ek,List.mem_append,List.mem_singleton] at hy hz
       by_cases c1:y=x
       ·by_cases c2:z=x
        ·rw [c1,c2]
        ·have hz':=hz.resolve_right c2
         simp only [c1,c2,if_true,if_false] at e
         exact absurd (sf.at' z hz') (by rw [<- e,hl1]; intro w; cases w)
       ·have hy':=hy.resolve_right c1
        by_cases c2:z=x
        ·simp only [c1,c2,if_true,if_false] at e
         exact absurd (sf.at' y hy') (by rw [e,hl1]; intro w; cases w)
        ·have hz':=hz.resolve_right c2
         simp only [c1,c2,if_false] at e
         exact sf.inj y hy' z hz' e
      ·intro y hy
       rw [ek,List.mem_append,List.mem_singleton] at hy
       by_cases c:y=x
       ·subst c
        simp only [if_true]
        rw [Zc,Zat hx',Zin hx2]
        rfl
       ·have hy':=hy.resolve_right c
        have e1:=sf.at' y hy'
        have n1:f y≠l:=Zi e1 hl1
        have n2:f y≠d:=λz=>by rw [z,hd1] at e1; cases e1
        simp only [c,if_false]
        rw [Zd n1,Zd n2,old _ _ e1,Gr (by rw [hx']; intro z; cases z; exact c rfl)]
      ·intro y hy
       rw [ek,List.mem_append,List.mem_singleton] at hy
       by_cases c:y=x
       ·simp only [c,if_true]; exact hl0
       ·simp only [c,if_false]; exact hf0 y (hy.resolve_right c)
    rintro σ H2 ⟨f',rfl,sm2,hd4,sf2,hf2⟩
    have hx3:x∈keys ns (i + 1):=Xs.mpr ⟨i,by omega,hx'⟩
    have hg:valV (spk ns (i + 1) f') (Sum.inl x)=some (V.ref (f' x)):=by unfold spk; rw [Ja,if_pos hx3]
    refine ⟨_,rfl,_,rfl,d,_,rfl,?_,f' x,_,rfl,.inl (SqL.of (sf2.at' x hx3)),_,_,rfl,rfl,_,rfl,?_⟩
    ·exact .inl ⟨_,Sum.inl x,.inl hd4,rfl,hg.symm⟩
    have h2:=Zdy td (i + 1) x
    rw [decide_eq_false (by rw [Ab]; omega:¬ ((((pl ns (i + 1) x).map nV).length:Nat):Int) > 2)]
    refine iteF ?_
    exact ⟨f',_,_,rfl,sm2,hd4,sf2,hf2⟩
   ·rintro σ H1 ⟨f,v2,v3,rfl,sm,hd1,sf,hf0⟩
    rw [el] at hd1 sf hf0
    exact hnx _ _ ⟨f,v2,v3,rfl,sm,hd1,sf,hf0⟩
  rintro σ H1 ⟨f,v2,v3,rfl,sm,hd1,sf,hf0⟩
  exact ⟨_,rfl,k d f H1 sm hd hd1 sf hf0⟩
noncomputable def Zeu:Sp:=λvs H Q _=>∃ (d:Addr) (M:List (Option Nat)) (ns:List Int) (f:Int->Addr),vs=[.ref d,.int ns.length]/\H d=some (.dK (spk ns ns.length f))/\SpotsF H ns ns.length f/\TD M ns/\ns.length<=120 /\
 ∀ (m:Addr) (o:Obj) (H':Hp),(∀ b u,b≠d->H b=some u->H' b=some u)->H m=none->H' m=some (.lst (M.map mV))->H' d=some (.frz o (.dK (spk ns ns.length f)))->Q (.ref m) H'
theorem Uf:FnScope ["spots","count","mates","pair"] ["spots","count"] (Zg Fj):=Am
theorem Ze5 (T:Txt w K mg t):FnOk P w K mg base (CXr P w) 1 t.dU t.eu ["spots","count"] Zeu:=by
 refine T.eK.F.aR Uf (λ_ _ _ _ H vs Q E hr h=>?_)
 ·obtain ⟨d,M,ns,f,rfl,hd,sf,td,hl,k⟩:=h
  refine ⟨_,(Zf (Zr (i:=2) Uf.nd rfl (Or.inl rfl) (Zj Fs (Yo (Za Jm Zb)) (pv 1)))
   (Zf (Y9 PassesOwn.never rfl (Zau (pv 0) ⟨rfl,rfl,rfl⟩) (Zk (i:=3) Uf.nd rfl (Or.inl rfl)) (Zh (Z8 (Zm Ya (Zo Zl (by rfl) T.ae PySem.boot_len (Za (pv 3) Zb)) Ze (Zp _)) (Zf (Wc (Zu Zy (pv 3) Ze (λ_ _=>rfl)) (J2 (pv 2) (Zu Zy (pv 3) Ze (λ_ _=>rfl)) Wr))
   (Zh (Wc (Zu Zy (pv 3) Ze (λ_ _=>rfl)) (J2 (pv 2) (Zu Zy (pv 3) Ze (λ_ _=>rfl)) Wr)))) Z3)))
   (Zh (Zn (pv 2))))),?_⟩
  refine ⟨(by show 1<=sizeLine; decide),λq hq=>?_⟩
  refine ⟨_,rfl,q,_,_,rfl,rfl,Zc,by omega,by omega,?_,λm hm=>?_⟩
  ·have:((ns.length:Nat):Int).toNat=ns.length:=by omega
   show 1 * ((ns.length:Nat):Int).toNat<=sizeLine
   rw [this,sizeLine_eq]; omega
  obtain ⟨hmq,hm0⟩:=Xl hm
  have eM:(List.replicate ((ns.length:Nat):Int).toNat [V.non]).flatten=(part M ns []).map mV:=by
   have:((ns.length:Nat):Int).toNat=M.length:=by rw [<- td.len]; omega
   rw [this,List.flatten_replicate_singleton,Zky td,List.map_replicate]
   rfl
  rw [eM]
  have hdm:d≠m:=Zi hd hm0
  have hdq:d≠q:=Zi hd hq
  dsimp only [Zs]
  show tSeq (tFor _ _ _) _ _ _ _
  refine Zz (λσ H1=>∃ (o:Obj) (v:Option V),σ=[some (.ref d),some (.int ns.length),some (.ref m),v]/\(∀ b u,b≠d->H b=some u->H1 b=some u)/\H1 m=some (.lst (M.map mV))/\H1 d=some (.frz o (.dK (spk ns ns.length f)))) (λnx hnx=>?_) ?_
  ·refine ⟨_,rfl,d,_,rfl,.inl ⟨by rw [Zd hdm,Zd hdq]; exact hd,λo=>?_⟩⟩
   refine G3 (λj σ H1=>∃ (v:Option V),σ=[some (.ref d),some (.int ns.length),some (.ref m),v]/\(∀ b u,b≠d->H b=some u->H1 b=some u)/\H1 m=some (.lst ((part M ns ((keys ns ns.length).take j)).map mV))/\H1 d=some (.frz o (.dK (spk ns ns.length f))))
    ⟨none,rfl,λb u hb e=>?_,?_,Zc⟩ ?_ ?_ ?_
   ·rw [Zd hb,Zd (Zi e hm0),Zd (Zi e hq)]; exact e
   ·rw [Zd (Ne.symm hdm),Zc]
    rfl
   ·rintro j σ H1 _ ⟨v,rfl,old,h1,h2⟩
    exact h2
   ·rintro j k0 x0 σ H1 hk ⟨v,rfl,old,h1,h2⟩
    obtain ⟨x,hx,rfl⟩:∃ x,(keys ns ns.length)[j]?=some x/\x0=V.ref (f x):=by
     unfold spk at hk
     rw [Ah] at hk
     cases e:(keys ns ns.length)[j]? with
     | none=>rw [e] at hk; cases hk
     | some x=>rw [e] at hk; cases hk; exact ⟨x,rfl,rfl⟩
    have hm1:x∈keys ns ns.length:=Au hx
    have et:(keys ns ns.length).take (j + 1)=(keys ns ns.length).take j ++ [x]:=by
     rw [Aw,hx]; rfl
    have hfx:=sf.at' x hm1
    have hfd:f x≠d:=λz=>by rw [z,hd] at hfx; cases hfx
    have hf1:=old _ _ hfd hfx
    dsimp only [Zs]
    refine ⟨_,rfl,f x,_,rfl,.inl (SqL.of hf1),rfl,_,rfl,?_⟩
    rcases U9 td hm1 with ⟨a,e,ea,ma⟩ | ⟨a,b,hab,e,ea,eb,ma,mb⟩
    ·rw [e] at hf1 ⊢
     refine iteF ?_
     refine ⟨_,rfl,old,?_,h2⟩
     rw [et,Zkx td e ma]
     exact h1
    ·rw [e] at hf1 ⊢
     refine iteT ?_
     have la:a < (part M ns ((keys ns ns.length).take j)).length:=by rw [Wh]; exact (Aa ma).1
     have lb:b < (part M ns ((keys ns ns.length).take j)).length:=by rw [Wh]; exact (Aa mb).1
     have hfm:f x≠m:=Zi hfx hm0
     refine ⟨_,rfl,f x,_,_,_,rfl,rfl,SqL.of hf1,rfl,?_⟩
     refine ⟨_,rfl,_,rfl,f x,_,_,_,rfl,rfl,SqL.of hf1,rfl,m,_,_,a,rfl,rfl,h1,(by rw [Ab]; exact Jh la),?_⟩
     have hf2:(upd H1 m (.lst (((part M ns ((keys ns ns.length).take j)).map mV).set a (nV b)))) (f x)=some (.lst ([a,b].map nV)):=by rw [Zd hfm]; exact hf1
     refine ⟨_,rfl,f x,_,_,_,rfl,rfl,SqL.of hf2,rfl,?_⟩
     refine ⟨_,rfl,_,rfl,f x,_,_,_,rfl,rfl,SqL.of hf2,rfl,m,_,_,b,rfl,rfl,Zc,(by rw [List.length_set,Ab]; exact Jh lb),?_⟩
     refine ⟨_,rfl,λc u hc ec=>?_,?_,?_⟩
     ·have:c≠m:=Zi ec hm0
      rw [Zd this,Zd this]
      exact old c u hc ec
     ·rw [Zc,et,Ziw td e hab ma mb]
      show some (HO.lst ((((part M ns ((keys ns ns.length).take j)).map mV).set a (mV (some b))).set b (mV (some a))))=_
      rw [map_set,map_set]
     ·rw [Zd hdm,Zd hdm]; exact h2
   ·rintro σ H1 ⟨v,rfl,old,h1,h2⟩
    refine hnx _ _ ⟨o,v,rfl,old,?_,h2⟩
    have:(keys ns ns.length).take (spk ns ns.length f).length=keys ns ns.length:=by
     unfold spk; rw [Ab,List.take_length]
    rw [this,Zkz td] at h1
    exact h1
  rintro σ H1 ⟨o,v,rfl,old,h1,h2⟩
  exact ⟨_,rfl,k m o H1 old hm0 h1 h2⟩
noncomputable def Jb (cl na sp mt:Addr):List (Str × V):=putF "mates" (.ref mt) (putF "spots" (.ref sp) (putF "names_at" (.ref na) (putF "cloths" (.ref cl) [])))
theorem Xm (f:Str) (v:V):∀ fs:List (Str × V),(putF f v fs).length<=fs.length + 1
 | []=>by simp [putF]
 | (g,x) :: r=>by
  have:=Xm f v r
  unfold putF
  split
  ·simp
  ·simp only [List.length_cons]; omega
theorem s_cn:¬ ("cloths":Str)="names_at":=by decide
theorem s_cs:¬ ("cloths":Str)="spots":=by decide
theorem s_cm:¬ ("cloths":Str)="mates":=by decide
theorem s_ns:¬ ("names_at":Str)="spots":=by decide
theorem s_nm:¬ ("names_at":Str)="mates":=by decide
theorem s_sm:¬ ("spots":Str)="mates":=by decide
theorem Zjo (cl na sp mt:Addr):(Jb cl na sp mt).lookup ("cloths":Str)=some (.ref cl):=by
 unfold Jb; rw [Z7,if_neg s_cm,Z7,if_neg s_cs,Z7,if_neg s_cn,Z7,if_pos rfl]
theorem Zeh (cl na sp mt:Addr):(Jb cl na sp mt).lookup ("names_at":Str)=some (.ref na):=by
 unfold Jb; rw [Z7,if_neg s_nm,Z7,if_neg s_ns,Z7,if_pos rfl]
theorem G6 (cl na sp mt:Addr):(Jb cl na sp mt).lookup ("spots":Str)=some (.ref sp):=by
 unfold Jb; rw [Z7,if_neg s_sm,Z7,if_pos rfl]
theorem Zln (cl na sp mt:Addr):(Jb cl na sp mt).lookup ("mates":Str)=some (.ref mt):=by
 unfold Jb; rw [Z7,if_pos rfl]
theorem Yl (cl na sp mt:Addr) {m:Str} (h:m≠"cloths"/\m≠"names_at"/\m≠"spots"/\m≠"mates":=by decide):(Jb cl na sp mt).lookup m=none:=by
 obtain ⟨h1,h2,h3,h4⟩:=h
 unfold Jb; rw [Z7,if_neg h4,Z7,if_neg h3,Z7,if_neg h2,Z7,if_neg h1]; rfl
structure TentB (C:Addr) (H:Hp) (p:Addr) (M:List (Option Nat)) (ns:List Int) (dx cl na sp mt:Addr) (o:Obj) (f:Int->Addr):Prop where
 ins:H p=some (.ins C dx (Jb cl na sp mt))
 rows:Yr H cl ns
 names:H na=some (.lst (ns.map V.int))
 spots:H sp=some (.frz o (.dK (spk ns ns.length f)))
 mates:H mt=some (.lst (M.map mV))
 at':∀ x∈keys ns ns.length,H (f x)=some (.lst ((pl ns ns.length x).map nV))
noncomputable def Z1 (C:Addr) (H:Hp) (p:Addr) (M:List (Option Nat)) (ns:List Int):Prop:=∃ dx cl na sp mt o f,TentB C H p M ns dx cl na sp mt o f
theorem Z1.same {C:Addr} {H H':Hp} {p:Addr} {M:List (Option Nat)} {ns:List Int} (h:Z1 C H p M ns) (s:Same H H'):Z1 C H' p M ns:=by
 obtain ⟨dx,cl,na,sp,mt,o,f,b⟩:=h
 exact ⟨dx,cl,na,sp,mt,o,f,s _ _ b.ins,b.rows.same s,s _ _ b.names,s _ _ b.spots,s _ _ b.mates,λx hx=>s _ _ (b.at' x hx)⟩
theorem Zct {ns:List Int} {k n:Nat} (h:ns.length=3 * n) (hk:k < n):(ns.take (3 * k)).map V.int ++ row3 ns k=(ns.take (3 * (k + 1))).map V.int:=by
 have e:ns.take (3 * (k + 1))=ns.take (3 * k) ++ [ns.getD (3 * k) 0,ns.getD (3 * k + 1) 0,ns.getD (3 * k + 2) 0]:=by
  have l0:3 * k < ns.length:=by omega
  have l1:3 * k + 1 < ns.length:=by omega
  have l2:3 * k + 2 < ns.length:=by omega
  have g:∀ i,i < ns.length->ns[i]?=some (ns.getD i 0):=λi hi=>by rw [Ad,Ac hi]; rfl
  rw [show 3 * (k + 1)=3 * k + 1 + 1 + 1 by omega,Aw,Aw,Aw,g _ l0,g _ l1,g _ l2,List.append_assoc,List.append_assoc]
  rfl
 rw [e,Aj]
 rfl
noncomputable def Zc3 (C:Addr):Sp:=λvs H Q _=>∃ (p r dx:Addr) (M:List (Option Nat)) (ns:List Int),vs=[.ref p,.ref r]/\H p=some (.ins C dx [])/\Yr H r ns/\TD M ns/\ns.length<=120 /\
 ∀ (H':Hp),(∀ b u,b≠p->H b=some u->H' b=some u)->Z1 C H' p M ns->Q .non H'
theorem Zde:FnScope ["self","rows"] ["self","rows"] (Zg Ge):=Am
theorem J9 (T:Txt w K mg t):FnOk P w K mg base (CXr P w) 2 t.bO t.dn ["self","rows"] (Zc3 t.aa):=by
  refine T.aI.F.aR Zde (λ_ _ _ _ H vs Q E hr h=>?_)
  · obtain ⟨p,r,dx,M,ns,rfl,hp,⟨ts,hr1,hr2,hr3⟩,td,hl,k⟩:=h
    refine ⟨_,(Zf (Z8 (Wu (U8 (pv 1) (λ_=>rfl))) Xh Z3)
      (Zf (Wb (pv 0) (Y4 (ts:=["row"]) (fv:=[]) ⟨rfl,by decide +kernel,by decide +kernel,Yc (by rfl),trivial⟩ rfl (Yx (pv 1)) (λ_ _ _ _=>(Zk (i:=0) (show List.Nodup (["row"]:List Str) from by decide +kernel) rfl (Or.inl rfl) (Or.inr rfl))) (λ_ _ _ _=>Yp) (λ_ _ _=>rfl) (λ_ _ _ _ _ _=>Ym (Yb (U3 K) (by rfl) T.fV PySem.Pv.boot_tuple (Za (pv 0) Zb)))) rfl)
      (Zf (Wb (pv 0) (Y4 (ts:=["row","name"]) (fv:=[]) ⟨rfl,by decide +kernel,by decide +kernel,Yc (by rfl),trivial⟩ rfl (Yx (Y2 (pv 0) rfl)) (λ_ _ _ _=>(Zk (i:=0) (show List.Nodup (["row","name"]:List Str) from by decide +kernel) rfl (Or.inl rfl) (Or.inr rfl))) (λ_ _ _ _=>Yp) (λ_ _ _=>rfl) (λ_ _ _ _ _ _=>Ziv rfl rfl (Zav K (pv 0)) (Zk (i:=1) (show List.Nodup (["row","name"]:List Str) from by decide +kernel) rfl (Or.inl rfl) (Or.inr rfl)) Yp (pv 1))) rfl)
      (Zf (Wb (pv 0) (pcT (Ze3 T) hr T.eJ (Za (Y2 (pv 0) rfl) Zb)) rfl)
      (Zh (Wb (pv 0) (pcT (Ze5 T) hr T.eK (Za (Y2 (pv 0) rfl) (Za (Zo Zl (by rfl) T.ae PySem.boot_len (Za (Y2 (pv 0) rfl) Zb)) Zb))) rfl)))))),?_⟩
    obtain ⟨n,n1,n2,hn⟩:=td.n
    have hnn:ns.length=3 * n:=by rw [td.len,hn]
    have htn:ts.length=n:=by omega
    have hrp:r≠p:=λz=>by rw [z,hp] at hr1; cases hr1
    refine ⟨_,rfl,true,.inl ⟨_,SqL.of hr1,?_⟩,?_⟩
    · cases ts with
      | nil=>simp at htn; omega
      | cons _ _=>rfl
    refine iteF ?_
    dsimp only [Wp]
    refine ⟨_,rfl,r,rfl,⟨_,SqL.of hr1⟩,λD hD=>?_⟩
    have hDp:D≠p:=λz=>by rw [z,hp] at hD; cases hD
    refine Y6 (xs:=ts.map V.ref) (λi σ H1=>∃ (v:Option V),σ=[v]/\Same H H1/\H1 D=some (.lst ((ts.take i).map V.ref))) ⟨none,rfl,Same.new hD,Zc⟩ ?_ ?_ ?_
    · rintro i σ H1 _ ⟨v,rfl,sm,h1⟩
      exact SqL.of (sm _ _ hr1)
    · rintro i x σ H1 hx ⟨v,rfl,sm,h1⟩
      dsimp only [Zs,tYes]
      rw [if_pos rfl]
      obtain ⟨tt,ht,rfl⟩:=map_some hx
      refine ⟨_,rfl,tt,_,rfl,.inr ⟨SqT.of (sm _ _ (hr3 i tt ht)),_,h1,(by rw [Ab,Ai]; exact Zv (by omega)),_,rfl,Same.add sm hD,?_⟩⟩
      rw [Zc,Aw,ht,Aj]
      rfl
    rintro σ H1 ⟨v,rfl,sm1,h1⟩
    rw [Ab,List.take_length] at h1
    have hp1:=sm1 _ _ hp
    refine ⟨_,rfl,p,_,dx,_,rfl,hp1,T.ac,T.a8,by decide,?_⟩
    have old2:∀ b u,b≠p->H b=some u->(upd H1 p (.ins t.aa dx (putF "cloths" (.ref D) []))) b=some u:=λb u hb e=>by rw [Zd hb]; exact sm1 b u e
    have hD2:(upd H1 p (.ins t.aa dx (putF "cloths" (.ref D) []))) D=some (.lst (ts.map V.ref)):=by rw [Zd hDp]; exact h1
    have hp2:(upd H1 p (.ins t.aa dx (putF "cloths" (.ref D) []))) p=some (.ins t.aa dx (putF "cloths" (.ref D) [])):=Zc
    have ht2:∀ (k:Nat) (q:Addr),ts[k]?=some q->(upd H1 p (.ins t.aa dx (putF "cloths" (.ref D) []))) q=some (.tup (row3 ns k)):=λk q e=>by
      have e1:=hr3 k q e
      have:q≠p:=λz=>by rw [z,hp] at e1; cases e1
      exact old2 q _ this e1
    generalize upd H1 p (.ins t.aa dx (putF "cloths" (.ref D) []))=H2 at old2 hD2 hp2 ht2 ⊢
    refine ⟨_,rfl,p,_,dx,_,_,rfl,hp2,T.ac,T.a8,rfl,D,rfl,⟨_,SqL.of hD2⟩,λN hN=>?_⟩
    have hND:N≠D:=λz=>by rw [z,hD2] at hN; cases hN
    have hNp:N≠p:=λz=>by rw [z,hp2] at hN; cases hN
    refine Y6 (xs:=ts.map V.ref) (λi σ H3=>∃ (v v':Option V),σ=[v,v']/\Same H2 H3/\H3 N=some (.lst ((ns.take (3 * i)).map V.int))) ⟨none,none,rfl,Same.new hN,Zc⟩ ?_ ?_ ?_
    · rintro i σ H3 _ ⟨v,v',rfl,sm,h3⟩
      exact SqL.of (sm _ _ hD2)
    · rintro i x σ H3 hx ⟨v,v',rfl,sm,h3⟩
      dsimp only [Zs,tYes]
      rw [if_pos rfl]
      obtain ⟨tt,ht,rfl⟩:=map_some hx
      have hi:i < n:=by rw [<- htn]; exact (Aa ht).1
      refine ⟨_,rfl,tt,rfl,⟨_,SqT.of (sm _ _ (ht2 i tt ht))⟩,?_⟩
      refine Oc (xs:=row3 ns i) (λj σ H4=>∃ (v':Option V),σ=[some (.ref tt),v']/\Same H2 H4/\H4 N=some (.lst ((ns.take (3 * i)).map V.int ++ (row3 ns i).take j))) ⟨v',rfl,sm,by rw [h3,List.take_zero,List.append_nil]⟩ ?_ ?_ ?_
      · rintro j σ H4 _ ⟨v',rfl,sm,h4⟩
        exact SqT.of (sm _ _ (ht2 i tt ht))
      · rintro j x σ H4 hx ⟨v',rfl,sm,h4⟩
        dsimp only [Zs,tYes]
        rw [if_pos rfl]
        refine ⟨_,rfl,_,h4,?_,_,rfl,Same.add sm hN,?_⟩
        · rw [Ae,Ab,Ai,Ai]
          exact Zv (by have:(row3 ns i).length=3:=rfl; omega)
        · rw [Zc,Aw,hx,<- List.append_assoc]
          rfl
      · rintro σ H4 ⟨v',rfl,sm,h4⟩
        refine ⟨_,_,rfl,sm,?_⟩
        rw [h4,List.take_length,Zct hnn hi]
    rintro σ H3 ⟨v,v',rfl,sm3,h3⟩
    have eall:ns.take (3 * (ts.map V.ref).length)=ns:=by rw [Ab,htn,<- hnn,List.take_length]
    rw [eall] at h3
    have hp3:=sm3 _ _ hp2
    refine ⟨_,rfl,p,_,dx,_,rfl,hp3,T.ac,T.av,(by have h1:=Xm "cloths" (.ref D) []; simp only [List.length_nil] at h1; omega),?_⟩
    have old4:∀ b u,b≠p->H2 b=some u->(upd H3 p (.ins t.aa dx (putF "names_at" (.ref N) (putF "cloths" (.ref D) [])))) b=some u:=λb u hb e=>by rw [Zd hb]; exact sm3 b u e
    have hN4:(upd H3 p (.ins t.aa dx (putF "names_at" (.ref N) (putF "cloths" (.ref D) [])))) N=some (.lst (ns.map V.int)):=by rw [Zd hNp]; exact h3
    have hp4:(upd H3 p (.ins t.aa dx (putF "names_at" (.ref N) (putF "cloths" (.ref D) [])))) p=some (.ins t.aa dx (putF "names_at" (.ref N) (putF "cloths" (.ref D) []))):=Zc
    generalize upd H3 p (.ins t.aa dx (putF "names_at" (.ref N) (putF "cloths" (.ref D) [])))=H4 at old4 hN4 hp4 ⊢
    have lk1:(putF "names_at" (.ref N) (putF "cloths" (.ref D) [])).lookup ("names_at":Str)=some (.ref N):=by rw [Z7,if_pos rfl]
    refine ⟨_,rfl,p,_,dx,_,_,rfl,hp4,T.ac,T.av,lk1,N,M,ns,rfl,hN4,td,hl,λd f H5 sm5 hd5 hd5' sf hf0=>?_⟩
    have hp5:=sm5 _ _ hp4
    refine ⟨_,rfl,p,_,dx,_,rfl,hp5,T.ac,T.aF,(by have h1:=Xm "cloths" (.ref D) []; have h2:=Xm "names_at" (.ref N) (putF "cloths" (.ref D) []); simp only [List.length_nil] at h1; omega),?_⟩
    have hdp:d≠p:=λz=>by rw [z,hp4] at hd5; cases hd5
    have hfp:∀ x∈keys ns ns.length,f x≠p:=λx hx z=>by have:=hf0 x hx; rw [z,hp4] at this; cases this
    have old6:∀ b u,b≠p->H4 b=some u->(upd H5 p (.ins t.aa dx (putF "spots" (.ref d) (putF "names_at" (.ref N) (putF "cloths" (.ref D) []))))) b=some u:=λb u hb e=>by rw [Zd hb]; exact sm5 b u e
    have hp6:(upd H5 p (.ins t.aa dx (putF "spots" (.ref d) (putF "names_at" (.ref N) (putF "cloths" (.ref D) []))))) p=some (.ins t.aa dx (putF "spots" (.ref d) (putF "names_at" (.ref N) (putF "cloths" (.ref D) [])))):=Zc
    have hd6:(upd H5 p (.ins t.aa dx (putF "spots" (.ref d) (putF "names_at" (.ref N) (putF "cloths" (.ref D) []))))) d=some (.dK (spk ns ns.length f)):=by rw [Zd hdp]; exact hd5'
    have sf6:SpotsF (upd H5 p (.ins t.aa dx (putF "spots" (.ref d) (putF "names_at" (.ref N) (putF "cloths" (.ref D) []))))) ns ns.length f:=⟨sf.inj,λx hx=>by rw [Zd (hfp x hx)]; exact sf.at' x hx⟩
    generalize upd H5 p (.ins t.aa dx (putF "spots" (.ref d) (putF "names_at" (.ref N) (putF "cloths" (.ref D) []))))=H6 at old6 hp6 hd6 sf6 ⊢
    have lk2:(putF "spots" (.ref d) (putF "names_at" (.ref N) (putF "cloths" (.ref D) []))).lookup ("spots":Str)=some (.ref d):=by rw [Z7,if_pos rfl]
    have lk3:(putF "spots" (.ref d) (putF "names_at" (.ref N) (putF "cloths" (.ref D) []))).lookup ("names_at":Str)=some (.ref N):=by rw [Z7,if_neg s_ns,Z7,if_pos rfl]
    have hN6:=old6 _ _ hNp hN4
    have eln:(((ns.map V.int).length:Nat):Int)=(ns.length:Nat):=by rw [Ab]
    refine ⟨_,rfl,p,_,dx,_,_,rfl,hp6,T.ac,T.aF,lk2,_,rfl,p,_,dx,_,_,rfl,hp6,T.ac,T.av,lk3,N,_,rfl,.inl (SqL.of hN6),d,M,ns,f,(by rw [eln]; rfl),hd6,sf6,td,hl,λm o H7 old7 hm7 hmm hdd=>?_⟩
    have hpd:p≠d:=Ne.symm hdp
    have hp7:=old7 _ _ hpd hp6
    refine ⟨_,rfl,p,_,dx,_,rfl,hp7,T.ac,T.cY,(by have h1:=Xm "cloths" (.ref D) []; have h2:=Xm "names_at" (.ref N) (putF "cloths" (.ref D) []); have h3:=Xm "spots" (.ref d) (putF "names_at" (.ref N) (putF "cloths" (.ref D) [])); simp only [List.length_nil] at h1; omega),?_⟩
    have hmp:m≠p:=λz=>by rw [z,hp6] at hm7; cases hm7
    have dN:N≠d:=λz=>by rw [z,hd6] at hN6; cases hN6
    have old8:∀ b u,b≠p->b≠d->H6 b=some u->(upd H7 p (.ins t.aa dx (Jb D N d m))) b=some u:=λb u hb hbd e=>by rw [Zd hb]; exact old7 b u hbd e
    have old46:∀ b u,b≠p->H4 b=some u->H6 b=some u/\b≠d:=λb u hb e=>⟨old6 b u hb e,λz=>by rw [z,hd5] at e; cases e⟩
    have old28:∀ b u,b≠p->H2 b=some u->(upd H7 p (.ins t.aa dx (Jb D N d m))) b=some u:=λb u hb e=>by
      obtain ⟨e6,hbd⟩:=old46 b u hb (old4 b u hb e)
      exact old8 b u hb hbd e6
    refine k _ (λb u hb e=>old28 b u hb (old2 b u hb e)) ⟨dx,D,N,d,m,o,f,Zc,⟨ts,old28 _ _ hDp hD2,by omega,λk q e=>?_⟩,?_,?_,?_,?_⟩
    · have e1:=ht2 k q e
      exact old28 q _ (λz=>by rw [z,hp2] at e1; cases e1) e1
    · exact old8 _ _ hNp dN hN6
    · rw [Zd hdp]; exact hdd
    · rw [Zd hmp]; exact hmm
    · intro x hx
      have e1:=sf6.at' x hx
      exact old8 _ _ (hfp x hx) (λz=>by rw [z,hd6] at e1; cases e1) e1
noncomputable def Z6 (ns:List Int) (x:Int):Str:=match pl ns ns.length x with
 | [a,b]=>if a / 3=b / 3 then "locked" else "free"
 | _=>"rim"
noncomputable def Zki:Sp:=λvs H Q _=>∃ p:Int,vs=[.int p]/\Q (.int (after p)) H
noncomputable def Zh7:Sp:=λvs H Q _=>∃ p:Int,vs=[.int p]/\Q (.int (Zt p)) H
noncomputable def Zez:Sp:=λvs H Q _=>∃ p:Int,vs=[.int p]/\Q (.int (p / 3)) H
noncomputable def Zc1 (C:Addr):Sp:=λvs H Q _=>∃ (p:Addr) (M:List (Option Nat)) (ns:List Int),vs=[.ref p]/\Z1 C H p M ns /\
 ∀ (l:Addr) (ts:List Addr),H l=none->ns.length=3 * ts.length->(∀ (k:Nat) (t:Addr),ts[k]?=some t->H t=some (.tup (row3 ns k)))->Q (.ref l) (upd H l (.lst (ts.map V.ref)))
noncomputable def Zb5 (C:Addr):Sp:=λvs H Q _=>∃ (p:Addr) (M:List (Option Nat)) (ns:List Int),vs=[.ref p]/\Z1 C H p M ns/\ns.length < 64 /\
 ∀ (l:Addr) (out:List Int),H l=none->out.Perm (keys ns ns.length)->out.Pairwise (·<=·)->Q (.ref l) (upd H l (.lst (out.map V.int)))
noncomputable def Kw (C:Addr):Sp:=λvs H Q _=>∃ (p:Addr) (M:List (Option Nat)) (ns:List Int) (x:Int),vs=[.ref p,.int x]/\Z1 C H p M ns/\Q (.bl (decide (0<=x/\x < ns.length))) H
noncomputable def O0 (C EP:Addr):Sp:=λvs H Q E=>∃ (p:Addr) (M:List (Option Nat)) (ns:List Int) (x:Int),vs=[.ref p,.int x]/\Z1 C H p M ns/\(0<=x/\x < ns.length->Q .non H)/\(¬ (0<=x/\x < ns.length)->E (.ref EP) none H)
noncomputable def Fe (C EP:Addr):Sp:=λvs H Q E=>∃ (p:Addr) (M:List (Option Nat)) (ns:List Int) (x:Int),vs=[.ref p,.int x]/\Z1 C H p M ns/\(∀ (i:Nat) (y:Int),x=i->ns[i]?=some y->Q (.int y) H)/\(¬ (0<=x/\x < ns.length)->E (.ref EP) none H)
noncomputable def Zc2 (C EP:Addr):Sp:=λvs H Q E=>∃ (p:Addr) (M:List (Option Nat)) (ns:List Int) (x:Int),vs=[.ref p,.int x]/\Z1 C H p M ns/\M.length=ns.length/\(∀ (i:Nat) (y:Option Nat),x=i->M[i]?=some y->Q (mV y) H)/\(¬ (0<=x/\x < ns.length)->E (.ref EP) none H)
noncomputable def Zaj (C ES:Addr):Sp:=λvs H Q E=>∃ (p:Addr) (M:List (Option Nat)) (ns:List Int) (x:Int),vs=[.ref p,.int x]/\Z1 C H p M ns/\(x∈keys ns ns.length->∀ l,H l=none->Q (.ref l) (upd H l (.lst ((pl ns ns.length x).map nV))))/\(x ∉ keys ns ns.length->E (.ref ES) none H)
noncomputable def Fd (C ES:Addr):Sp:=λvs H Q E=>∃ (p:Addr) (M:List (Option Nat)) (ns:List Int) (x:Int),vs=[.ref p,.int x]/\Z1 C H p M ns/\TD M ns/\(x∈keys ns ns.length->∀ H',Same H H'->Q (.str (Z6 ns x)) H')/\(x ∉ keys ns ns.length->E (.ref ES) none H)
theorem Zkm:FnScope ["place"] ["place"] (Zg Zfp):=Am
theorem Zd4 (T:Txt w K mg t):FnOk P w K mg base (CXr P w) 1 t.g9 t.ic ["place"] Zki:=by
 refine T.fU.F.aR Zkm (λ_ _ _ _ H vs Q E hr h=>?_)
 ·obtain ⟨p,rfl,k⟩:=h
  refine ⟨_,(Zh (Zn (Gs (Zm Ya (Zj Z4 (pv 0) Ze) Ze (Zp _)) (Zj Vs (pv 0) Ze) (Zj Yf (pv 0) Ze)))),?_⟩
  refine ⟨_,rfl,_,_,rfl,rfl,(by show (0:Int) < 3; decide),rfl,_,rfl,?_⟩
  refine ite2 (λh=>?_) (λh=>?_)
  ·have h:p % 3=2:=by simpa using h
   refine ⟨_,rfl,_,_,rfl,rfl,?_⟩
   have e:after p=p - 2:=if_pos h
   rw [e] at k; exact k
  ·have h:¬ p % 3=2:=by simpa using h
   refine ⟨_,rfl,_,_,rfl,rfl,?_⟩
   have e:after p=p + 1:=if_neg h
   rw [e] at k; exact k
theorem Zif:FnScope ["place"] ["place"] (Zg Zdu):=Am
theorem Zbl (T:Txt w K mg t):FnOk P w K mg base (CXr P w) 1 t.fX t.gs ["place"] Zh7:=by
 refine T.eI.F.aR Zif (λ_ _ _ _ H vs Q E hr h=>?_)
 ·obtain ⟨p,rfl,k⟩:=h
  refine ⟨_,(Zh (Zn (Gs (Zm Ya (Zj Z4 (pv 0) Ze) Ze (Zp _)) (Zj Yf (pv 0) Ze) (Zj Vs (pv 0) Ze)))),?_⟩
  refine ⟨_,rfl,_,_,rfl,rfl,(by show (0:Int) < 3; decide),rfl,_,rfl,?_⟩
  refine ite2 (λh=>?_) (λh=>?_)
  ·have h:p % 3=0:=by simpa using h
   refine ⟨_,rfl,_,_,rfl,rfl,?_⟩
   have e:Zt p=p + 2:=if_pos h
   rw [e] at k; exact k
  ·have h:¬ p % 3=0:=by simpa using h
   refine ⟨_,rfl,_,_,rfl,rfl,?_⟩
   have e:Zt p=p - 1:=if_neg h
   rw [e] at k; exact k
theorem Ze2:FnScope ["place"] ["place"] (Zg Fp):=Am
theorem Xx (T:Txt w K mg t):FnOk P w K mg base (CXr P w) 1 t.dR t.ee ["place"] Zez:=by
 refine T.au.F.aR Ze2 (λ_ _ _ _ H vs Q E hr h=>?_)
 ·obtain ⟨p,rfl,k⟩:=h
  refine ⟨_,(Zh (Zn (Zj Yk (pv 0) Ze))),?_⟩
  exact ⟨_,rfl,_,_,rfl,rfl,⟨by decide,by decide⟩,k⟩
theorem Zdc:FnScope ["self"] ["self"] (Zg Gc):=Am
theorem J8 (T:Txt w K mg t):FnOk P w K mg base (CXr P w) 1 t.dc t.dq ["self"] (Zc1 t.aa):=by
 refine T.ao.F.aR Zdc (λ_ _ _ _ H vs Q E hr h=>?_)
 ·obtain ⟨p,M,ns,rfl,⟨dx,cl,na,sp,mt,o,f,b⟩,k⟩:=h
  refine ⟨_,(Zh (Zn (Yb Yv (by rfl) T.aC PySem.Pv.boot_list (Za (Y2 (pv 0) rfl) Zb)))),?_⟩
  obtain ⟨ts,h1,h2,h3⟩:=b.rows
  exact ⟨_,rfl,p,_,dx,_,_,rfl,b.ins,T.ac,T.a8,Zjo ..,cl,_,rfl,.inl (SqL.of h1),λl hl=>k l ts hl h2 h3⟩
theorem Zcb:FnScope ["self"] ["self"] (Zg O7):=Am
theorem Os (T:Txt w K mg t):FnOk P w K mg base (CXr P w) 1 t.cM t.cR ["self"] (Zb5 t.aa):=by
 refine T.aH.F.aR Zcb (λ_ _ _ _ H vs Q E hr h=>?_)
 ·obtain ⟨p,M,ns,rfl,⟨dx,cl,na,sp,mt,o,f,b⟩,h64,k⟩:=h
  refine ⟨_,(Zh (Zn (Zo (Vz rfl) (by rfl) T.eZ PyProof.Rows.boot_sorted (Za (Y2 (pv 0) rfl) Zb)))),?_⟩
  refine ⟨_,rfl,p,_,dx,_,_,rfl,b.ins,T.ac,T.aF,G6 ..,sp,_,keys ns ns.length,rfl,.inr ⟨o,b.spots⟩,?_,by have:=Vx ns ns.length; omega,k⟩
  unfold spk; rw [List.map_map]; rfl
theorem Kx:FnScope ["self","place"] ["self","place"] (Zg Vm):=Am
theorem Va (T:Txt w K mg t):FnOk P w K mg base (CXr P w) 1 t.bc t.bg ["self","place"] (Kw t.aa):=by
 refine T.aq.F.aR Kx (λ_ _ _ _ H vs Q E hr h=>?_)
 ·obtain ⟨p,M,ns,x,rfl,⟨dx,cl,na,sp,mt,o,f,b⟩,k⟩:=h
  refine ⟨_,(Zh (Zn (Zkw Zpl Qz Ze (pv 1) (Zo Zl (by rfl) T.ae PySem.boot_len (Za (Y2 (pv 0) rfl) Zb))))),?_⟩
  refine ⟨_,rfl,_,_,rfl,rfl,_,rfl,?_⟩
  refine ite2 (λh=>?_) (λh=>?_)
  ·have h:0<=x:=of_decide_eq_true h
   refine ⟨_,rfl,p,_,dx,_,_,rfl,b.ins,T.ac,T.av,Zeh ..,na,_,rfl,.inl (SqL.of b.names),_,_,rfl,rfl,?_⟩
   have:decide (x < (((ns.map V.int).length:Nat):Int))=decide (0<=x/\x < (ns.length:Int)):=by rw [Ab]; simp [h]
   show Q (V.bl (decide (x < (((ns.map V.int).length:Nat):Int)))) H
   rw [this]; exact k
  ·have h:¬ 0<=x:=λz=>h (decide_eq_true z)
   have:decide (0<=x/\x < (ns.length:Int))=false:=decide_eq_false λz=>h z.1
   rw [this] at k; exact k
theorem O3:FnScope ["self","place"] ["self","place"] (Zg Q9):=Am
theorem W7 (T:Txt w K mg t):FnOk P w K mg base (CXr P w) 2 t.aT t.aW ["self","place"] (O0 t.aa t.aM):=by
 refine T.ag.F.aX O3 (λ_ _ _ _ H vs Q E hr h=>?_)
 ·obtain ⟨p,M,ns,x,rfl,ta,k1,k2⟩:=h
  obtain ⟨dx,cl,na,sp,mt,o,f,b⟩:=id ta
  refine ⟨_,(Zq (Y1 (Wu (X9 (Xz (pv 0) T.ac T.aq.m (Va T) (hr.mono (by decide)) T.aq.b .nil Yz (Za (pv 1) Zb)))) (Zq (Wa T.ir FBV rfl T.gV rfl (Za Z0 Zb))) X4)),?_⟩
  refine ⟨_,rfl,p,dx,_,rfl,b.ins,Yl _ _ _ _,_,rfl,p,M,ns,x,rfl,ta,_,rfl,?_⟩
  by_cases c:0<=x/\x < (ns.length:Int)
  ·rw [decide_eq_true c]
   exact iteF (k1 c)
  ·rw [decide_eq_false c]
   exact iteT ⟨by decide,k2 c⟩
theorem Fg:FnScope ["self","place"] ["self","place"] (Zg Up):=Am
theorem J7 (T:Txt w K mg t):FnOk P w K mg base (CXr P w) 3 t.bP t.bV ["self","place"] (Fe t.aa t.aM):=by
 refine T.aj.F.aX Fg (λ_ _ _ _ H vs Q E hr h=>?_)
 ·obtain ⟨p,M,ns,x,rfl,ta,k1,k2⟩:=h
  obtain ⟨dx,cl,na,sp,mt,o,f,b⟩:=id ta
  refine ⟨_,(Zw (Ye (Qm (pv 0) T.ac T.ag.m (W7 T) (hr.mono (by decide)) T.ag.b .nil (Za (pv 1) Zb)))
   (Zq (Z5 (Zn (Zu Zy (Y2 (pv 0) rfl) (pv 1) (λ_ _=>rfl)))))),?_⟩
  refine ⟨_,rfl,p,dx,_,rfl,b.ins,Yl _ _ _ _,_,rfl,p,M,ns,x,rfl,ta,λc=>?_,k2⟩
  have hi:x.toNat < ns.length:=by omega
  obtain ⟨y,hy⟩:∃ y,ns[x.toNat]?=some y:=⟨_,Ac hi⟩
  have ex:x=(x.toNat:Int):=by omega
  refine ⟨_,rfl,p,_,dx,_,_,rfl,b.ins,T.ac,T.av,Zeh ..,_,rfl,na,_,_,_,rfl,rfl,SqL.of b.names,(by rw [ex]; exact Yi hy),k1 _ _ ex hy⟩
theorem Zdd:FnScope ["self","place"] ["self","place"] (Zg Gd):=Am
theorem Vu (T:Txt w K mg t):FnOk P w K mg base (CXr P w) 3 t.de t.dr ["self","place"] (Zc2 t.aa t.aM):=by
 refine T.aw.F.aX Zdd (λ_ _ _ _ H vs Q E hr h=>?_)
 ·obtain ⟨p,M,ns,x,rfl,ta,hlen,k1,k2⟩:=h
  obtain ⟨dx,cl,na,sp,mt,o,f,b⟩:=id ta
  refine ⟨_,(Zw (Ye (Qm (pv 0) T.ac T.ag.m (W7 T) (hr.mono (by decide)) T.ag.b .nil (Za (pv 1) Zb)))
   (Zq (Z5 (Zn (Zu Zy (Y2 (pv 0) rfl) (pv 1) (λ_ _=>rfl)))))),?_⟩
  refine ⟨_,rfl,p,dx,_,rfl,b.ins,Yl _ _ _ _,_,rfl,p,M,ns,x,rfl,ta,λc=>?_,k2⟩
  have hi:x.toNat < M.length:=by omega
  obtain ⟨y,hy⟩:∃ y,M[x.toNat]?=some y:=⟨_,Ac hi⟩
  have ex:x=(x.toNat:Int):=by omega
  refine ⟨_,rfl,p,_,dx,_,_,rfl,b.ins,T.ac,T.cY,Zln ..,_,rfl,mt,_,_,_,rfl,rfl,SqL.of b.mates,(by rw [ex]; exact Yi hy),k1 _ _ ex hy⟩
theorem Zan:FnScope ["self","seam"] ["self","seam"] (Zg Oo):=Am
theorem Qt (T:Txt w K mg t):FnOk P w K mg base (CXr P w) 1 t.cq t.cx ["self","seam"] (Zaj t.aa t.ai):=by
 refine T.ap.F.aX Zan (λ_ _ _ _ H vs Q E hr h=>?_)
 ·obtain ⟨p,M,ns,x,rfl,ta,k1,k2⟩:=h
  obtain ⟨dx,cl,na,sp,mt,o,f,b⟩:=id ta
  have hu:=Ww hr
  refine ⟨_,(Zw (Y1 (Zdx (Ziu hu (pv 1) (Y2 (pv 0) rfl)) (by with_unfolding_all rfl)) (Zq (Wa T.iF FBV rfl T.c9 rfl (Za Z0 Zb))) X4)
   (Zq (Z5 (Zn (Yb Yv (by rfl) T.aC PySem.Pv.boot_list (Za (Qp hu (Y2 (pv 0) rfl) (pv 1) (λ_ _=>rfl)) Zb)))))),?_⟩
  have hg:DGet H sp (.int x) (if x∈keys ns ns.length then some (V.ref (f x)) else none):=.inl ⟨_,Sum.inl x,.inr ⟨o,b.spots⟩,rfl,by unfold spk; rw [Ja]⟩
  refine ⟨_,rfl,_,rfl,p,_,dx,_,_,rfl,b.ins,T.ac,T.aF,G6 ..,sp,_,rfl,hg,_,rfl,?_⟩
  by_cases c:x∈keys ns ns.length
  ·rw [if_pos c] at hg ⊢
   refine iteF ?_
   exact ⟨_,rfl,p,_,dx,_,_,rfl,b.ins,T.ac,T.aF,G6 ..,_,rfl,sp,_,rfl,hg,f x,_,rfl,.inl (SqL.of (b.at' x c)),k1 c⟩
  ·rw [if_neg c] at hg ⊢
   exact iteT ⟨by decide,k2 c⟩
theorem V7:FnScope ["self","seam","spots"] ["self","seam"] (Zg Uo):=Am
theorem J6 (T:Txt w K mg t):FnOk P w K mg base (CXr P w) 2 t.bQ t.bW ["self","seam"] (Fd t.aa t.ai):=by
 refine T.ak.F.aX V7 (λ_ _ _ _ H vs Q E hr h=>?_)
 ·obtain ⟨p,M,ns,x,rfl,ta,td,k1,k2⟩:=h
  obtain ⟨dx,cl,na,sp,mt,o,f,b⟩:=id ta
  refine ⟨_,(Zw (X6 (i:=2) V7.nd rfl (Or.inl rfl) (Qm (pv 0) T.ac T.ap.m (Qt T) (hr.mono (by decide)) T.ap.b .nil (Za (pv 1) Zb)))
   (Zw (Z5 (Z8 (Zm Ya (Zo Zl (by rfl) T.ae PySem.boot_len (Za (pv 2) Zb)) Ze (Zp _)) (Zh (Zn Z0)) Z3))
   (Zw (Z5 (Z8 (Zm Ya (pcT (Xx T) hr T.au (Za (Zu Zy (pv 2) Ze (λ_ _=>rfl)) Zb)) (pcT (Xx T) hr T.au (Za (Zu Zy (pv 2) Ze (λ_ _=>rfl)) Zb)) (Zp _)) (Zh (Zn Z0)) Z3))
   (Zq (Z5 (Zn Z0)))))),?_⟩
  refine ⟨_,rfl,p,dx,_,rfl,b.ins,Yl _ _ _ _,_,rfl,p,M,ns,x,rfl,ta,λc l hl=>?_,k2⟩
  have k1':=k1 c _ (Same.new (o:=.lst ((pl ns ns.length x).map nV)) hl)
  refine ⟨_,rfl,l,_,rfl,.inl (SqL.of Zc),rfl,_,rfl,?_⟩
  rcases U9 td c with ⟨a,e,_⟩ | ⟨a,b',hab,e,_⟩
  ·rw [e] at k1' ⊢
   refine iteT ?_
   have:Z6 ns x="rim":=by unfold Z6; rw [e]
   rw [this] at k1'
   exact k1'
  ·rw [e] at k1' ⊢
   refine iteF ?_
   refine ⟨_,rfl,l,_,_,_,rfl,rfl,SqL.of Zc,rfl,_,rfl,_,rfl,l,_,_,_,rfl,rfl,SqL.of Zc,rfl,_,rfl,rfl,_,rfl,?_⟩
   by_cases q:a / 3=b' / 3
   ·have:Z6 ns x="locked":=by unfold Z6; rw [e]; exact if_pos q
    rw [this] at k1'
    rw [decide_eq_true (by congr 1; omega)]
    exact iteT k1'
   ·have:Z6 ns x="free":=by unfold Z6; rw [e]; exact if_neg q
    rw [this] at k1'
    rw [decide_eq_false (λz=>q (by injection z; omega))]
    exact iteF k1'
noncomputable def Zcy (C ES ER EL:Addr):Sp:=λvs H Q E=>∃ (p:Addr) (M:List (Option Nat)) (ns:List Int) (x:Int),vs=[.ref p,.int x]/\Z1 C H p M ns/\TD M ns /\
 (x∈keys ns ns.length->∀ H',Same H H'->(Z6 ns x="rim"->E (.ref ER) none H')/\(Z6 ns x="locked"->E (.ref EL) none H')/\(Z6 ns x="free"->Q .non H'))/\(x ∉ keys ns ns.length->E (.ref ES) none H)
noncomputable def sqr (a b:Nat):List V:=[.int (after a),.int (Zt a),.int (after b),.int (Zt b)]
noncomputable def Zh1 (C ES ER EL:Addr):Sp:=λvs H Q E=>∃ (p:Addr) (M:List (Option Nat)) (ns:List Int) (x:Int),vs=[.ref p,.int x]/\Z1 C H p M ns/\TD M ns /\
 (x∈keys ns ns.length->∀ H',Same H H'->(Z6 ns x="rim"->E (.ref ER) none H')/\(Z6 ns x="locked"->E (.ref EL) none H')/\(∀ a b l,pl ns ns.length x=[a,b]->a < b->M[a]?=some (some b)->a / 3≠b / 3->H l=none->H' l=some (.tup (sqr a b))->Q (.ref l) H'))/\(x ∉ keys ns ns.length->E (.ref ES) none H)
theorem Wq {M:List (Option Nat)} {ns:List Int} (td:TD M ns) {x:Int} (hx:x∈keys ns ns.length) :
  (Z6 ns x="rim"/\∃ a,pl ns ns.length x=[a]/\M[a]?=some none)\/(Z6 ns x="locked"/\∃ a b,a < b/\pl ns ns.length x=[a,b]/\M[a]?=some (some b)/\a / 3=b / 3)\/(Z6 ns x="free"/\∃ a b,a < b/\pl ns ns.length x=[a,b]/\M[a]?=some (some b)/\a / 3≠b / 3):=by
 rcases U9 td hx with ⟨a,e,_,ma⟩ | ⟨a,b,hab,e,_,_,ma,_⟩
 ·exact .inl ⟨by unfold Z6; rw [e],a,e,ma⟩
 ·by_cases c:a / 3=b / 3
  ·exact .inr (.inl ⟨by unfold Z6; rw [e]; exact if_pos c,a,b,hab,e,ma,c⟩)
  ·exact .inr (.inr ⟨by unfold Z6; rw [e]; exact if_neg c,a,b,hab,e,ma,c⟩)
theorem t_rf:¬ (("rim":Str))="free":=by decide
theorem t_lf:¬ (("locked":Str))="free":=by decide
theorem t_lr:¬ (("locked":Str))="rim":=by decide
theorem t_fr:¬ (("free":Str))="rim":=by decide
theorem t_fl:¬ (("free":Str))="locked":=by decide
theorem Ox {x y:Str} (h:¬ x=y):decide (V.str x=V.str y)=false:=decide_eq_false λz=>h (by injection z)
theorem Zhu {x:Str}:decide (V.str x=V.str x)=true:=decide_eq_true rfl
theorem O2:FnScope ["tent","seam","sort"] ["tent","seam"] (Zg K6):=Am
theorem W4 (T:Txt w K mg t):FnOk P w K mg base (CXr P w) 3 t.df t.du ["tent","seam"] (Zcy t.aa t.ai t.aV t.am):=by
 refine T.aD.F.aX O2 (λ_ _ _ _ H vs Q E hr h=>?_)
 ·obtain ⟨p,M,ns,x,rfl,ta,td,k1,k2⟩:=h
  obtain ⟨dx,cl,na,sp,mt,o,f,b⟩:=id ta
  refine ⟨_,(Zw (X6 (i:=2) O2.nd rfl (Or.inl rfl) (Qm (pv 0) T.ac T.ak.m (J6 T) (hr.mono (by decide)) T.ak.b .nil (Za (pv 1) Zb)))
   (Zw (Y1 (Zm Ya (pv 2) Z0 (Zp _)) (Zq (Wa T.i3 FBV rfl T.gW rfl (Za Z0 Zb))) X4)
   (Zq (Y1 (Zm Ya (pv 2) Z0 (Zp _)) (Zq (Wa T.iG FBV rfl T.db rfl (Za Z0 Zb))) X4)))),?_⟩
  refine ⟨_,rfl,p,dx,_,rfl,b.ins,Yl _ _ _ _,_,rfl,p,M,ns,x,rfl,ta,td,λc H' sm=>?_,k2⟩
  obtain ⟨j1,j2,j3⟩:=k1 c H' sm
  refine ⟨_,rfl,rfl,_,rfl,?_⟩
  rcases Wq td c with ⟨e,_⟩ | ⟨e,_⟩ | ⟨e,_⟩
  ·rw [e,Zhu]
   exact iteT ⟨by decide,j1 e⟩
  ·rw [e,Ox t_lr]
   refine iteF ⟨_,rfl,rfl,_,rfl,?_⟩
   rw [Zhu]
   exact iteT ⟨by decide,j2 e⟩
  ·rw [e,Ox t_fr]
   refine iteF ⟨_,rfl,rfl,_,rfl,?_⟩
   rw [Ox t_fl]
   exact iteF (j3 e)
theorem O1:FnScope ["tent","seam","lesser","greater"] ["tent","seam"] (Zg Zdh):=Am
theorem Uc (T:Txt w K mg t):FnOk P w K mg base (CXr P w) 4 t.fY t.gu ["tent","seam"] (Zh1 t.aa t.ai t.aV t.am):=by
 refine T.b9.F.aX O1 (λ_ _ _ _ H vs Q E hr h=>?_)
 ·obtain ⟨p,M,ns,x,rfl,ta,td,k1,k2⟩:=h
  refine ⟨_,(Zw (Ye (pxT (W4 T) hr T.aD (Za (pv 0) (Za (pv 1) Zb))))
   (Zw (Z5 (Wc (Xz (pv 0) T.ac T.ap.m (Qt T) (hr.mono (by decide)) T.ap.b .nil Yz (Za (pv 1) Zb)) (Zis rfl (Zx (Zk (i:=2) O1.nd rfl (Or.inl rfl)) (Zx (Zk (i:=3) O1.nd rfl (Or.inl rfl)) Yy)))))
   (Zq (Z5 (Zn (Xa (Za (pcT (Zd4 T) hr T.fU (Za (pv 2) Zb)) (Za (pcT (Zbl T) hr T.eI (Za (pv 2) Zb)) (Za (pcT (Zd4 T) hr T.fU (Za (pv 3) Zb)) (Za (pcT (Zbl T) hr T.eI (Za (pv 3) Zb)) Zb)))))))))),?_⟩
  refine ⟨_,rfl,_,rfl,p,M,ns,x,rfl,ta,td,λc H' sm=>⟨(k1 c H' sm).1,(k1 c H' sm).2.1,λe=>?_⟩,k2⟩
  obtain ⟨a,b,hab,ep,em,ne⟩:∃ a b,a < b/\pl ns ns.length x=[a,b]/\M[a]?=some (some b)/\a / 3≠b / 3:=by
   rcases Wq td c with ⟨e',_⟩ | ⟨e',_⟩ | ⟨e',q⟩
   ·exact absurd (e'.symm.trans e) t_rf
   ·exact absurd (e'.symm.trans e) t_lf
   ·exact q
  have ta':=ta.same sm
  obtain ⟨dx,cl,na,sp,mt,o,f,B⟩:=id ta'
  refine ⟨_,rfl,p,dx,_,rfl,B.ins,Yl _ _ _ _,_,rfl,p,M,ns,x,rfl,ta',λ_ l hl=>?_,λz=>absurd c z⟩
  rw [ep]
  refine ⟨l,_,rfl,SqL.of Zc,rfl,_,_,rfl,_,_,rfl,rfl,?_⟩
  refine ⟨_,rfl,_,rfl,?_⟩
  refine ⟨_,rfl,_,rfl,?_⟩
  refine ⟨_,rfl,_,rfl,?_⟩
  refine ⟨_,rfl,_,rfl,?_⟩
  refine ⟨(by show 4<=sizeLine; decide),λq hq=>?_⟩
  obtain ⟨hql,hq'⟩:=Xl hq
  exact (k1 c _ (Same.add (Same.add sm (sm.free hl)) (sm.free hq'))).2.2 a b q ep hab em ne (sm.free hq') Zc
noncomputable def Zmj:Sp:=λvs H Q _=>∃ (a b:Addr) (xs:List Int),vs=[.ref a,.ref b]/\H a=some (.lst (xs.map V.int))/\H b=some (.lst (xs.map V.int))/\xs.length<=100000/\Q (.bl true) H
noncomputable def Zmh:Sp:=λvs H Q _=>∃ (r:Addr) (ns:List Int) (i:Nat) (x:Int),vs=[.ref r,.int i]/\Yr H r ns/\ns[i]?=some x/\Q (.int x) H
noncomputable def Qe (M:List (Option Nat)) (i:Nat):Bool:=match M[i]? with
 | some (some j)=>decide (i < j) && decide (i / 3≠j / 3)
 | _=>false
noncomputable def Ue (M:List (Option Nat)) (i:Nat):Bool:=match M[i]? with
 | some (some j)=>decide (i < j)
 | _=>false
noncomputable def lowL (M:List (Option Nat)) (n:Nat):List Nat:=(List.range n).filter (Ue M)
noncomputable def Q1 (M:List (Option Nat)):List Nat:=(List.range M.length).filter (Qe M)
noncomputable def Zmm:Sp:=λvs H Q _=>∃ (m:Addr) (M:List (Option Nat)),vs=[.ref m]/\H m=some (.lst (M.map mV))/\M.length<=1000/\(∀ (i j:Nat),M[i]?=some (some j)->M[j]?=some (some i)/\i≠j) /\
 ∀ (l:Addr) (H':Hp),Same H H'->H l=none->H' l=some (.lst ((Q1 M).map nV))->Q (.ref l) H'
noncomputable def Zh8:Sp:=λvs H Q _=>∃ (m:Addr) (M:List (Option Nat)) (i j:Nat),vs=[.ref m,.int i]/\H m=some (.lst (M.map mV))/\M[i]?=some (some j) /\
 ∀ (l:Addr) (H':Hp),Same H H'->H l=none->H' l=some (.lst (sqr i j))->Q (.ref l) H'
theorem Uq {H:Hp} {r:Addr} {ns:List Int} {i:Nat} {x:Int} (h:Yr H r ns) (hx:ns[i]?=some x):∃ ts:List Addr,∃ q,H r=some (.lst (ts.map V.ref))/\ts[i / 3]?=some q/\H q=some (.tup (row3 ns (i / 3)))/\(row3 ns (i / 3))[i % 3]?=some (V.int x):=by
 obtain ⟨ts,h1,h2,h3⟩:=h
 have hi:i < ns.length:=(Aa hx).1
 have hk:i / 3 < ts.length:=by omega
 refine ⟨ts,ts[i / 3],h1,Ac hk,h3 _ _ (Ac hk),?_⟩
 have g:∀ j,ns[j]?=some x->ns.getD j 0=x:=λj hj=>by rw [Ad,hj]; rfl
 have hm:i % 3=0\/i % 3=1\/i % 3=2:=by omega
 rcases hm with m | m | m
 ·have:3 * (i / 3)=i:=by omega
  rw [m]; show some (V.int (ns.getD (3 * (i / 3)) 0))=_; rw [this,g i hx]
 ·have:3 * (i / 3) + 1=i:=by omega
  rw [m]; show some (V.int (ns.getD (3 * (i / 3) + 1) 0))=_; rw [this,g i hx]
 ·have:3 * (i / 3) + 2=i:=by omega
  rw [m]; show some (V.int (ns.getD (3 * (i / 3) + 2) 0))=_; rw [this,g i hx]
theorem div3 (i:Nat):(i:Int) / 3=((i / 3:Nat):Int):=by omega
theorem mod3 (i:Nat):(i:Int) % 3=((i % 3:Nat):Int):=by omega
theorem Zhg (i:Nat):(i:Int) - (i:Int) % 3 + ((i:Int) + 1) % 3=after i:=by unfold after; split <;> omega
theorem Zfg (i:Nat):(i:Int) - (i:Int) % 3 + ((i:Int) + 2) % 3=Zt i:=by unfold Zt; split <;> omega
noncomputable def sp_law (K:W.Frag):Sp:=λvs H Q _=>∃ (a:Addr) (ns:List Int),vs=[.ref a]/\SqL K H a (ns.map V.int)/\ns.length<=63/\∀ H',Q (.bl true) H'
theorem sp_law_start {K:W.Frag} {H:Hp} {a:Addr} {ns:List Int} (hl:ns.length<=63) (hS:SqL K H a (ns.map V.int)):sp_law K [.ref a] H (λv _=>v=.bl true) λ_ _ _=>False:=⟨a,ns,rfl,hS,hl,λ_=>rfl⟩
theorem Yr.copy {H:Hp} {r l:Addr} {ns:List Int} {ts:List Addr} (h1:H r=some (.lst (ts.map V.ref))) (h2:ns.length=3 * ts.length) (h3:∀ (k:Nat) (t:Addr),ts[k]?=some t->H t=some (.tup (row3 ns k))) (hl:H l=none):Yr (upd H l (.lst (ts.map V.ref))) l ns :=
 ⟨ts,Zc,h2,λk q e=>by rw [Zd (Zi (h3 k q e) hl)]; exact h3 k q e⟩
theorem Zli {M:List (Option Nat)} {i:Nat} (h:i∈Q1 M):∃ j,M[i]?=some (some j)/\i < j/\i / 3≠j / 3:=by
 have:=(List.mem_filter.mp h).2
 unfold Qe at this
 split at this
 ·rename_i j hj
  simp at this
  exact ⟨j,hj,this.1,this.2⟩
 ·cases this
theorem Zil {M:List (Option Nat)} {ns:List Int} (td:TD M ns) {i j:Nat} {x:Int} (hm:M[i]?=some (some j)) (hij:i < j) (hx:ns[i]?=some x):x∈keys ns ns.length/\pl ns ns.length x=[i,j]:=by
 have hi:i < ns.length:=(Aa hx).1
 have hk:x∈keys ns ns.length:=Xs.mpr ⟨i,hi,hx⟩
 have mi:i∈pl ns ns.length x:=Xc.mpr ⟨hi,hx⟩
 refine ⟨hk,?_⟩
 rcases U9 td hk with ⟨a,e,_,ma⟩ | ⟨a,b,hab,e,_,_,ma,mb⟩
 ·rw [e,List.mem_singleton] at mi
  subst mi
  rw [hm] at ma; cases ma
 ·rw [e] at mi
  rcases Ar mi with z | z
  ·subst z
   rw [hm] at ma
   cases ma
   exact e
  ·have z:i=b:=by simpa using z
   subst z
   rw [hm] at mb
   cases mb
   omega
theorem Zcs {H1:Hp} {r l x dx C:Addr} {ns:List Int} {ts:List Addr} (g1:H1 r=some (.lst (ts.map V.ref))) (g2:ns.length=3 * ts.length) (g3:∀ (k:Nat) (t:Addr),ts[k]?=some t->H1 t=some (.tup (row3 ns k)))
  (hl1:H1 l=none) (hx:upd H1 l (.lst (ts.map V.ref)) x=none) (hdx:upd H1 l (.lst (ts.map V.ref)) dx=none) :
  Yr (upd (upd (upd H1 l (.lst (ts.map V.ref))) dx (.own x)) x (.ins C dx [])) l ns/\Same (upd H1 l (.lst (ts.map V.ref))) (upd (upd (upd H1 l (.lst (ts.map V.ref))) dx (.own x)) x (.ins C dx [])):=by
 have s:Same (upd H1 l (.lst (ts.map V.ref))) (upd (upd (upd H1 l (.lst (ts.map V.ref))) dx (.own x)) x (.ins C dx [])):=Same.add (Same.new hdx) hx
 exact ⟨(Yr.copy g1 g2 g3 hl1).same s,s⟩
theorem Za4 {a b c:List Int} (h1:a.Perm c) (h2:b.Perm c) (s1:a.Pairwise (·<=·)) (s2:b.Pairwise (·<=·)):a=b :=
 (h1.trans h2.symm).eq_of_pairwise (λx y _ _ h1 h2=>Int.le_antisymm h1 h2) s1 s2
theorem Za6:FnScope ["_law_found","_law_due_here","_law_k"] ["_law_found","_law_due_here"] (Zg Zdq):=Am
theorem Zi4 (T:Txt w K mg t):FnOk P w K mg base (CXr P w) 2 t.gk t.gH ["_law_found","_law_due_here"] Zmj:=by
 refine T.gQ.F.aR Za6 (λ_ _ _ _ H vs Q E hr h=>?_)
 ·obtain ⟨a,b,xs,rfl,ha,hb,hl,k⟩:=h
  refine ⟨_,(Zf (Z8 (PW.pt (U7 (Wu (X9 (Zo Wv (by rfl) T.az PyProof.Rows.boot_isinstance (Za (pv 0) (Za (Vg (v:=.ty "list") (by rfl) T.aC PySem.Pv.boot_list rfl) Zb))))) (Vn (Zm J4 (Zo Zl (by rfl) T.ae PySem.boot_len (Za (pv 0) Zb)) (Zo Zl (by rfl) T.ae PySem.boot_len (Za (pv 1) Zb)) (Zp _))))) (Zh (Zn Wd)) Z3)
   (Zf (Y9 PassesOwn.never rfl (Yu rfl T.ah (Za (Zo Zl (by rfl) T.ae PySem.boot_len (Za (pv 1) Zb)) Zb)) (Zk (i:=2) Za6.nd rfl (Or.inl rfl)) (Zh (Z8 (PW.pt (U7 (Wu (X9 (pcT (Zgx T) hr T.fQ (Za (Zu Zy (pv 0) (pv 2) (λ_ _=>rfl)) Zb)))) (Vn (Zm J4 (Zu Zy (pv 0) (pv 2) (λ_ _=>rfl)) (Zu Zy (pv 1) (pv 2) (λ_ _=>rfl)) (Zp _))))) (Zh (Zn Wd)) Z3)))
   (Zh (Zn Wd)))),?_⟩
  refine ⟨_,rfl,_,"list",_,true,rfl,TyOf.lst ha,Vw,_,rfl,iteF ?_⟩
  refine ⟨_,rfl,a,_,rfl,.inl (SqL.of ha),_,rfl,b,_,rfl,.inl (SqL.of hb),rfl,_,rfl,?_⟩
  rw [show (!decide (V.int ((xs.map V.int).length:Nat)=V.int ((xs.map V.int).length:Nat)))=false by simp]
  refine iteF ?_
  dsimp only [Wp]
  show tSeq (tFor _ _ _) _ _ _ _
  refine Zz (λσ H1=>H1=H) (λnx hnx=>?_) ?_
  ·refine ⟨_,rfl,b,_,rfl,.inl (SqL.of hb),_,rfl,by omega,by rw [Ab]; omega,?_⟩
   have eL:(((xs.map V.int).length:Nat):Int).toNat=xs.length:=by simp
   rw [eL]
   refine Xy (n:=xs.length) (λi σ H1=>∃ v,σ=[some (.ref a),some (.ref b),v]/\H1=H) ⟨none,rfl,rfl⟩ ?_ ?_
   ·rintro i σ H1 hlt ⟨v,rfl,rfl⟩
    have ei:atI (xs.map V.int) (0 + (i:Int))=some (V.int xs[i]):=by rw [Int.zero_add]; exact Yi (Ac hlt)
    dsimp only [Zs]
    refine ⟨_,rfl,_,rfl,a,_,_,_,rfl,rfl,SqL.of ha,ei,_,rfl,_,rfl,iteF ?_⟩
    refine ⟨_,rfl,_,rfl,a,_,_,_,rfl,rfl,SqL.of ha,ei,_,rfl,_,rfl,b,_,_,_,rfl,rfl,SqL.of hb,ei,rfl,_,rfl,?_⟩
    rw [show (!decide (V.int xs[i]=V.int xs[i]))=false by simp]
    exact iteF ⟨_,rfl,rfl⟩
   ·rintro σ H1 ⟨v,rfl,rfl⟩
    exact hnx _ _ rfl
  ·rintro σ H1 rfl
   exact k
theorem Zid:FnScope ["_law_rows_here","_law_place"] ["_law_rows_here","_law_place"] (Zg Zdo):=Am
theorem Zi2 (T:Txt w K mg t):FnOk P w K mg base (CXr P w) 1 t.gc t.gC ["_law_rows_here","_law_place"] Zmh:=by
 refine T.gL.F.aR Zid (λ_ _ _ _ H vs Q E hr h=>?_)
 ·obtain ⟨r,ns,i,x,rfl,hr1,hx,k⟩:=h
  refine ⟨_,(Zh (Zn (Zu X5 (Zu Zy (pv 0) (Zj Yk (pv 1) Ze) (λ_ _=>rfl)) (Zj Z4 (pv 1) Ze) (λ_ _=>rfl)))),?_⟩
  obtain ⟨ts,q,e1,e2,e3,e4⟩:=Uq hr1 hx
  refine ⟨_,rfl,_,rfl,_,_,rfl,rfl,⟨by decide,by decide⟩,r,_,_,_,rfl,rfl,SqL.of e1,(by rw [div3]; exact Yi e2),_,rfl,_,_,rfl,rfl,(by show (0:Int) < 3; decide),q,_,_,_,rfl,rfl,SqT.of e3,(by rw [mod3]; exact Xd e4),k⟩
theorem Ug:FnScope ["_law_mates","_law_place","_law_row","_law_side"] ["_law_mates","_law_place"] (Zg Fn):=Am
theorem Ze9 (T:Txt w K mg t):FnOk P w K mg base (CXr P w) 1 t.dZ t.eE ["_law_mates","_law_place"] Zh8:=by
 refine T.eU.F.aR Ug (λ_ _ _ _ H vs Q E hr h=>?_)
 ·obtain ⟨m,M,i,j,rfl,hm,hij,k⟩:=h
  refine ⟨_,(Zf (Zr (i:=2) Ug.nd rfl (Or.inl rfl) (Yo Zb))
   (Zf (Y9 PassesOwn.never rfl (Yx (Yo (Za (pv 1) (Za (Zu Zy (pv 0) (pv 1) (λ_ _=>rfl)) Zb)))) (Zk (i:=3) Ug.nd rfl (Or.inl rfl)) (Zf (Ys (Ws PySem.F.plainAttrs_list PySem.F.slot_list_append PySem.F.type_list_append Xi (pv 2) (Za (Zj Yf (Zj Vs (pv 3) (Zj Z4 (pv 3) Ze)) (Zj Z4 (Zj Yf (pv 3) Ze) Ze)) Zb)))
   (Zh (Ys (Ws PySem.F.plainAttrs_list PySem.F.slot_list_append PySem.F.type_list_append Xi (pv 2) (Za (Zj Yf (Zj Vs (pv 3) (Zj Z4 (pv 3) Ze)) (Zj Z4 (Zj Yf (pv 3) Ze) Ze)) Zb))))))
   (Zh (Zn (pv 2))))),?_⟩
  refine ⟨Az _,λr hr0=>?_⟩
  have hmr:m≠r:=Zi hm hr0
  dsimp only [Zs]
  show tSeq (tFor _ _ _) _ _ _ _
  refine Zz (λσ H1=>∃ v,σ=[some (.ref m),some (.int i),some (.ref r),v]/\Same H H1/\H1 r=some (.lst (sqr i j))) (λnx hnx=>?_) ?_
  ·refine ⟨_,rfl,_,rfl,_,rfl,m,_,_,_,rfl,rfl,SqL.of (by rw [Zd hmr]; exact hm),Yi hij,(by show 2<=sizeLine; decide),λq hq=>?_⟩
   obtain ⟨hqr,hq0⟩:=Xl hq
   refine ⟨q,rfl,⟨_,SqL.of Zc⟩,?_⟩
   refine G4 (xs:=[V.int i,V.int j]) (λn σ H1=>∃ v,σ=[some (.ref m),some (.int i),some (.ref r),v]/\Same H H1/\H1 q=some (.lst [V.int i,V.int j])/\H1 r=some (.lst ((sqr i j).take (2 * n)))) ⟨none,rfl,Same.add (Same.new hr0) hq0,Zc,by rw [Zd (Ne.symm hqr),Zc]; rfl⟩ ?_ ?_ ?_
   ·rintro n σ H1 _ ⟨v,rfl,sm,h1,h2⟩
    exact SqL.of h1
   ·rintro n x σ H1 hx ⟨v,rfl,sm,h1,h2⟩
    have lt:∀ z:Nat,z<=4->((sqr i j).take z).length < sizeLine:=λz hz=>by rw [Ai]; exact Zv (by omega)
    dsimp only [Zs]
    obtain ⟨c,rfl⟩:∃ c:Nat,x=V.int c:=by
     match n,hx with
     | 0,hx=>exact ⟨i,(Ax hx).symm⟩
     | 1,hx=>exact ⟨j,(Ax hx).symm⟩
    refine ⟨_,rfl,.inl ⟨rfl,_,SqL.of h2⟩,_,rfl,_,rfl,_,_,rfl,rfl,(by show (0:Int) < 3; decide),_,_,rfl,rfl,_,rfl,_,_,rfl,rfl,_,_,rfl,rfl,(by show (0:Int) < 3; decide),_,_,rfl,rfl,r,_,_,rfl,rfl,h2,lt _ (by have:=(Aa hx).1; simp at this; omega),?_⟩
    refine ⟨_,rfl,.inl ⟨rfl,_,SqL.of Zc⟩,_,rfl,_,rfl,_,_,rfl,rfl,(by show (0:Int) < 3; decide),_,_,rfl,rfl,_,rfl,_,_,rfl,rfl,_,_,rfl,rfl,(by show (0:Int) < 3; decide),_,_,rfl,rfl,r,_,_,rfl,rfl,Zc,?_,?_⟩
    ·rw [Ae,Ai]; exact Zv (by simp [sqr]; omega)
    ·refine ⟨_,rfl,Same.add (Same.add sm hr0) hr0,?_,?_⟩
     ·rw [Zd hqr,Zd hqr]; exact h1
     ·rw [Zc]
      dsimp only
      rw [Zhg,Zfg]
      match n,hx with
      | 0,hx =>
       have e:i=c:=by have e:=Ax hx; injection e with e; omega
       subst e; rfl
      | 1,hx =>
       have e:j=c:=by have e:=Ax hx; injection e with e; omega
       subst e; rfl
   ·rintro σ H1 ⟨v,rfl,sm,h1,h2⟩
    exact hnx _ _ ⟨v,rfl,sm,h2⟩
  rintro σ H1 ⟨v,rfl,sm,h2⟩
  exact ⟨_,rfl,k r H1 sm hr0 h2⟩
theorem G1 (M:List (Option Nat)) (n:Nat):lowL M (n + 1)=if Ue M n=true then lowL M n ++ [n] else lowL M n:=by
 unfold lowL
 rw [List.range_succ,List.filter_append]
 by_cases c:Ue M n=true
 ·simp [c]
 ·simp [c]
theorem Zjc (M:List (Option Nat)) (n:Nat):(lowL M n).length<=n:=by
 unfold lowL
 exact Nat.le_trans (List.length_filter_le _ _) (by simp)
theorem Zlj (M:List (Option Nat)):(lowL M M.length).filter (Qe M)=Q1 M:=by
 unfold lowL Q1
 rw [List.filter_filter]
 congr 1
 funext i
 unfold Qe Ue
 cases M[i]? with
 | none=>rfl
 | some o=>cases o with
  | none=>rfl
  | some j=>by_cases c:i < j <;> simp [c]
theorem Zei {α:Type} {p:α->Bool} {l:List α} {i:Nat} {x:α} (h:l[i]?=some x):(l.take (i + 1)).filter p=if p x=true then (l.take i).filter p ++ [x] else (l.take i).filter p:=by
 rw [Aw,h,List.filter_append]
 by_cases c:p x=true
 ·simp [c]
 ·simp [c]
theorem Za7:FnScope ["_law_mates","_law_row"] ["_law_mates"] (Zg Zdr):=Am
theorem Zi5 (T:Txt w K mg t):FnOk P w K mg base (CXr P w) 1 t.f8 t.gA ["_law_mates"] Zmm:=by
  refine T.gK.F.aR Za7 (λ_ _ _ _ H vs Q E hr h=>?_)
  · obtain ⟨m,M,rfl,hm,hl,inv,k⟩:=h
    refine ⟨_,(Zf (Wg (ts:=["_law_p"]) (fv:=[("_law_mates",0)]) (i:=1) ⟨rfl,by decide +kernel,by decide +kernel,Yc (by rfl),⟨⟨rfl,rfl,Or.inl rfl⟩,trivial⟩⟩ rfl Za7.nd rfl rfl (by rfl) (Yu rfl T.ah (Za (Zo Zl (by rfl) T.ae PySem.boot_len (Za (pv 0) Zb)) Zb)) (λ_ _ _ _=>(Zk (i:=0) (show List.Nodup (["_law_p","_law_mates"]:List Str) from by decide +kernel) rfl (Or.inl rfl) (Or.inr rfl))) (λ_ _ _ _=>(Jw (PW.pt (J1 (Zm Qs (Zu (Xt K) (pv 1) (pv 0) (λ_ _=>rfl)) Jm (Zp _)) (Je (Zm Qz (pv 0) (Zu (Xt K) (pv 1) (pv 0) (λ_ _=>rfl)) (Zp _))))))) (λ_ _ _=>rfl) (λ_ _ _ _ _ _=>Ym (pv 0)))
      (Zh (Zn (Y4 (ts:=["_law_p"]) (fv:=[("_law_mates",0)]) ⟨rfl,by decide +kernel,by decide +kernel,Yc (by rfl),⟨⟨rfl,rfl,Or.inl rfl⟩,trivial⟩⟩ rfl (Yx (pv 1)) (λ_ _ _ _=>(Zk (i:=0) (show List.Nodup (["_law_p","_law_mates"]:List Str) from by decide +kernel) rfl (Or.inl rfl) (Or.inr rfl))) (λ_ _ _ _=>(Jw (Zm J4 (Zj Yk (pv 0) Ze) (Zj Yk (Zu (Xt K) (pv 1) (pv 0) (λ_ _=>rfl)) Ze) (Zp _)))) (λ_ _ _=>rfl) (λ_ _ _ _ _ _=>Ym (pv 0)))))),?_⟩
    refine ⟨_,rfl,m,_,rfl,.inl (SqL.of hm),_,rfl,by omega,by rw [Ab]; omega,λD hD=>?_⟩
    have eL:(((M.map mV).length:Nat):Int).toNat=M.length:=by simp
    rw [eL]
    refine Jg (λi σ H1=>∃ v,σ=[v,some (.ref m)]/\Same H H1/\H1 D=some (.lst ((lowL M i).map nV))) ⟨none,rfl,Same.new hD,Zc⟩ ?_ ?_
    · rintro i σ H1 hlt ⟨v,rfl,sm,h1⟩
      have e0:(0 + (i:Int))=(i:Int):=Int.zero_add _
      dsimp only [Zs]
      rw [e0]
      obtain ⟨y,hy⟩:∃ y,M[i]?=some y:=⟨_,Ac hlt⟩
      have at':=Yi (f:=mV) hy
      have lt:((lowL M i).map nV).length < sizeLine:=by rw [Ab]; exact Zv (by have:=Zjc M i; omega)
      refine ⟨_,rfl,_,rfl,m,_,_,_,rfl,rfl,SqL.of (sm _ _ hm),at',rfl,_,rfl,?_⟩
      cases y with
      | none =>
        refine iteF (iteF ⟨_,rfl,sm,?_⟩)
        rw [h1,G1,if_neg (by unfold Ue; rw [hy]; simp)]
      | some j =>
        refine iteT ⟨_,rfl,_,rfl,_,rfl,m,_,_,_,rfl,rfl,SqL.of (sm _ _ hm),at',_,_,rfl,rfl,_,rfl,?_⟩
        by_cases c:i < j
        · rw [decide_eq_true (by omega:(i:Int) < (j:Int))]
          refine iteT ⟨_,rfl,_,h1,lt,_,rfl,Same.add sm hD,?_⟩
          rw [Zc,G1,if_pos (by unfold Ue; rw [hy]; simp [c]),Aj]
          rfl
        · rw [decide_eq_false (by omega:¬ (i:Int) < (j:Int))]
          refine iteF ⟨_,rfl,sm,?_⟩
          rw [h1,G1,if_neg (by unfold Ue; rw [hy]; simp [c])]
    rintro σ H1 ⟨v,rfl,sm,h1⟩
    refine ⟨_,rfl,D,rfl,⟨_,SqL.of h1⟩,λD2 hD2=>?_⟩
    have hD20:H D2=none:=sm.free hD2
    refine Y6 (xs:=(lowL M M.length).map nV) (λi σ H2=>∃ v,σ=[v,some (.ref m)]/\Same H1 H2/\H2 D2=some (.lst ((((lowL M M.length).take i).filter (Qe M)).map nV))) ⟨none,rfl,Same.new hD2,Zc⟩ ?_ ?_ ?_
    · rintro i σ H2 _ ⟨v,rfl,sm2,h2⟩
      exact SqL.of (sm2 _ _ h1)
    · rintro i x σ H2 hx ⟨v,rfl,sm2,h2⟩
      obtain ⟨p,hp,rfl⟩:=map_some hx
      have hpm:p∈lowL M M.length:=Au hp
      obtain ⟨j,hj,hpj⟩:∃ j,M[p]?=some (some j)/\p < j:=by
        have:=(List.mem_filter.mp hpm).2
        unfold Ue at this
        split at this
        · rename_i j hj; exact ⟨j,hj,of_decide_eq_true this⟩
        · cases this
      have lt:((((lowL M M.length).take i).filter (Qe M)).map nV).length < sizeLine:=by
        rw [Ab]
        exact Zv (by
          have h1:=List.length_filter_le (Qe M) ((lowL M M.length).take i)
          have h2:=List.length_take_le i (lowL M M.length)
          have h3:=List.length_take_le' i (lowL M M.length)
          have h4:=Zjc M M.length
          omega)
      dsimp only [Zs]
      refine ⟨_,rfl,_,_,rfl,rfl,⟨by decide,by decide⟩,_,rfl,_,rfl,m,_,_,_,rfl,rfl,SqL.of (sm2 _ _ (sm _ _ hm)),Yi hj,_,_,rfl,rfl,⟨by decide,by decide⟩,rfl,_,rfl,?_⟩
      by_cases c:p / 3=j / 3
      · rw [show (!decide (V.int ((p:Int) / 3)=V.int ((j:Int) / 3)))=false by
          rw [show (p:Int) / 3=(j:Int) / 3 by omega]; simp]
        refine iteF ⟨_,rfl,sm2,?_⟩
        rw [h2,Zei hp,if_neg (by unfold Qe; rw [hj]; simp [c])]
      · rw [show (!decide (V.int ((p:Int) / 3)=V.int ((j:Int) / 3)))=true by
          rw [decide_eq_false (λz=>c (by injection z; omega))]; rfl]
        refine iteT ⟨_,rfl,_,h2,lt,_,rfl,Same.add sm2 hD2,?_⟩
        rw [Zc,Zei hp,if_pos (by unfold Qe; rw [hj]; simp [c,hpj]),Aj]
        rfl
    rintro σ H2 ⟨v,rfl,sm2,h2⟩
    rw [Ab,List.take_length,Zlj] at h2
    exact k D2 H2 (sm.trans sm2) hD20 h2
noncomputable def Zh6:Sp:=λvs H Q _=>∃ (a b:Addr) (ns:List Int),vs=[.ref a,.ref b]/\Yr H a ns/\Yr H b ns/\ns.length<=1000/\∀ H',Same H H'->Q (.bl true) H'
theorem K3:FnScope ["_law_found","_law_due_here","_law_k"] ["_law_found","_law_due_here"] (Zg Fm):=Am
theorem Ze8 (T:Txt w K mg t):FnOk P w K mg base (CXr P w) 3 t.d6 t.eG ["_law_found","_law_due_here"] Zh6:=by
 refine T.eW.F.aR K3 (λ_ _ _ _ H vs Q E hr h=>?_)
 ·obtain ⟨a,b,ns,rfl,⟨ta,a1,a2,a3⟩,⟨tb,b1,b2,b3⟩,hl,k⟩:=h
  refine ⟨_,(Zf (Z8 (PW.pt (U7 (Wu (X9 (Zo Wv (by rfl) T.az PyProof.Rows.boot_isinstance (Za (pv 0) (Za (Vg (v:=.ty "list") (by rfl) T.aC PySem.Pv.boot_list rfl) Zb))))) (Vn (Zm J4 (Zo Zl (by rfl) T.ae PySem.boot_len (Za (pv 0) Zb)) (Zo Zl (by rfl) T.ae PySem.boot_len (Za (pv 1) Zb)) (Zp _))))) (Zh (Zn Wd)) Z3)
   (Zf (Y9 PassesOwn.never rfl (Yu rfl T.ah (Za (Zo Zl (by rfl) T.ae PySem.boot_len (Za (pv 1) Zb)) Zb)) (Zk (i:=2) K3.nd rfl (Or.inl rfl)) (Zh (Z8 (PW.pt (U7 (Wu (X9 (Zo Wv (by rfl) T.az PyProof.Rows.boot_isinstance (Za (Zu Zy (pv 0) (pv 2) (λ_ _=>rfl)) (Za (Vg (v:=.ty "tuple") (by rfl) T.fV PySem.Pv.boot_tuple rfl) Zb))))) (Vn (Wu (X9 (pcT (Zi4 T) hr T.gQ (Za (Yb Yv (by rfl) T.aC PySem.Pv.boot_list (Za (Zu Zy (pv 0) (pv 2) (λ_ _=>rfl)) Zb)) (Za (Yb Yv (by rfl) T.aC PySem.Pv.boot_list (Za (Zu Zy (pv 1) (pv 2) (λ_ _=>rfl)) Zb)) Zb)))))))) (Zh (Zn Wd)) Z3)))
   (Zh (Zn Wd)))),?_⟩
  have el:ta.length=tb.length:=by omega
  refine ⟨_,rfl,_,"list",_,true,rfl,TyOf.lst a1,Vw,_,rfl,iteF ?_⟩
  refine ⟨_,rfl,a,_,rfl,.inl (SqL.of a1),_,rfl,b,_,rfl,.inl (SqL.of b1),rfl,_,rfl,?_⟩
  rw [show (!decide (V.int ((ta.map V.ref).length:Nat)=V.int ((tb.map V.ref).length:Nat)))=false by rw [Ab,Ab,el]; simp]
  refine iteF ?_
  dsimp only [Wp]
  show tSeq (tFor _ _ _) _ _ _ _
  refine Zz (λσ H1=>Same H H1) (λnx hnx=>?_) ?_
  ·refine ⟨_,rfl,b,_,rfl,.inl (SqL.of b1),_,rfl,by omega,by rw [Ab]; omega,?_⟩
   have eL:(((tb.map V.ref).length:Nat):Int).toNat=tb.length:=by simp
   rw [eL]
   refine Xy (n:=tb.length) (λi σ H1=>∃ v,σ=[some (.ref a),some (.ref b),v]/\Same H H1) ⟨none,rfl,Same.refl _⟩ ?_ ?_
   ·rintro i σ H1 hlt ⟨v,rfl,sm⟩
    have hlt':i < ta.length:=by omega
    have e1:atI (ta.map V.ref) (0 + (i:Int))=some (V.ref ta[i]):=by rw [Int.zero_add]; exact Yi (Ac hlt')
    have e2:atI (tb.map V.ref) (0 + (i:Int))=some (V.ref tb[i]):=by rw [Int.zero_add]; exact Yi (Ac hlt)
    have t1:=sm _ _ (a3 i _ (Ac hlt'))
    have t2:=sm _ _ (b3 i _ (Ac hlt))
    dsimp only [Zs]
    refine ⟨_,rfl,_,rfl,a,_,_,_,rfl,rfl,SqL.of (sm _ _ a1),e1,_,"tuple",_,true,rfl,TyOf.tup t1,Vw,_,rfl,iteF ?_⟩
    refine ⟨_,rfl,_,rfl,a,_,_,_,rfl,rfl,SqL.of (sm _ _ a1),e1,_,_,rfl,.inr (SqT.of t1),λl1 h1=>?_⟩
    have s1:=Same.new (o:=.lst (row3 ns i)) h1
    refine ⟨_,rfl,_,rfl,b,_,_,_,rfl,rfl,SqL.of (s1 _ _ (sm _ _ b1)),e2,_,_,rfl,.inr (SqT.of (s1 _ _ t2)),λl2 h2=>?_⟩
    have s2:=Same.new (o:=.lst (row3 ns i)) h2
    refine ⟨l1,l2,[ns.getD (3 * i) 0,ns.getD (3 * i + 1) 0,ns.getD (3 * i + 2) 0],rfl,s2 _ _ Zc,Zc,(by show 3<=100000; decide),_,rfl,iteF ?_⟩
    exact ⟨_,rfl,(sm.trans s1).trans s2⟩
   ·rintro σ H1 ⟨v,rfl,sm⟩
    exact hnx _ _ sm
  ·rintro σ H1 sm
   exact k _ sm
noncomputable def isL (way:Str):Bool:=decide (way="left")
noncomputable def Zev (EW:Addr):Sp:=λvs H Q E=>∃ way:Str,vs=[.str way]/\(way="left"\/way="right"->Q .non H)/\(¬ (way="left"\/way="right")->E (.ref EW) none H)
structure Wrong (EW ES ER EL:Addr) (M:List (Option Nat)) (ns:List Int) (x:Int) (way:Str) (H:Hp) (E:XK) (G:Nat->Nat->Hp->Prop):Prop where
 noway:¬ (way="left"\/way="right")->E (.ref EW) none H
 seam:way="left"\/way="right"->x ∉ keys ns ns.length->E (.ref ES) none H
 rim:way="left"\/way="right"->∀ H',Same H H'->x∈keys ns ns.length->Z6 ns x="rim"->E (.ref ER) none H'
 lock:way="left"\/way="right"->∀ H',Same H H'->x∈keys ns ns.length->Z6 ns x="locked"->E (.ref EL) none H'
 go:way="left"\/way="right"->∀ a b H',Same H H'->pl ns ns.length x=[a,b]->a < b->M[a]?=some (some b)->a / 3≠b / 3->G a b H'
noncomputable def Zh2 (C EW ES ER EL:Addr):Sp:=λvs H Q E=>∃ (p:Addr) (M:List (Option Nat)) (ns:List Int) (x:Int) (way:Str),vs=[.ref p,.int x,.str way]/\Z1 C H p M ns/\TD M ns /\
 Wrong EW ES ER EL M ns x way H E λa b H'=>∀ l,H l=none->H' l=some (.dK (glV (isL way) a b))->Q (.ref l) H'
noncomputable def Zkc (C EP EW ES ER EL:Addr):Sp:=λvs H Q E=>∃ (p:Addr) (M:List (Option Nat)) (ns:List Int) (x:Int) (way:Str) (z:Int),vs=[.ref p,.int x,.str way,.int z]/\Z1 C H p M ns/\TD M ns /\
 Wrong EW ES ER EL M ns x way H E λa b H'=>(0<=z/\z < ns.length->Q (.int (mvI (isL way) a b z)) H')/\(¬ (0<=z/\z < ns.length)->E (.ref EP) none H')
theorem Zcq (way:Str):(valV [((Sum.inr "left":Key),V.str "right"),(Sum.inr "right",V.str "left")] (Sum.inr way)).isSome=true ↔ way="left"\/way="right":=by
 unfold valV
 by_cases c1:way="left"
 ·subst c1; simp
 ·by_cases c2:way="right"
  ·subst c2
   simp [List.find?_cons]
   split <;> simp
  ·have n1:¬ (Sum.inr "left":Key)=Sum.inr way:=λz=>c1 (by injection z with z; exact z.symm)
   have n2:¬ (Sum.inr "right":Key)=Sum.inr way:=λz=>c2 (by injection z with z; exact z.symm)
   simp [List.find?_cons,n1,n2,c1,c2]
theorem Ze1:FnScope ["way"] ["way"] (Zg Fk):=Am
theorem Ze6 (T:Txt w K mg t):FnOk P w K mg base (CXr P w) 1 t.dW t.eA ["way"] (Zev t.ax):=by
 refine T.eO.F.aX Ze1 (λ_ _ _ _ H vs Q E hr h=>?_)
 ·obtain ⟨way,rfl,k1,k2⟩:=h
  refine ⟨_,(Zq (Y1 (Zdx (Zit (pv 0) (Vf (v:=.ref t.aA) rfl T.c7 rfl)) (by with_unfolding_all rfl)) (Zq (Wa T.iJ FBV rfl T.fc rfl (Za Z0 Zb))) X4)),?_⟩
  refine ⟨_,rfl,t.aA,_,Sum.inr way,rfl,T.c8,rfl,_,rfl,?_⟩
  by_cases c:way="left"\/way="right"
  ·rw [(Zcq way).mpr c]
   exact iteF (k1 c)
  ·have:(valV [((Sum.inr "left":Key),V.str "right"),(Sum.inr "right",V.str "left")] (Sum.inr way)).isSome=false:=by
    rw [Bool.eq_false_iff]; exact λz=>c ((Zcq way).mp z)
   rw [this]
   exact iteT ⟨by decide,k2 c⟩
theorem Q4:FnScope ["tent","seam","way","a","b","c","d"] ["tent","seam","way"] (Zg Zdi):=Am
theorem Ud (T:Txt w K mg t):FnOk P w K mg base (CXr P w) 5 t.fZ t.gv ["tent","seam","way"] (Zh2 t.aa t.ax t.ai t.aV t.am):=by
 refine T.ce.F.aX Q4 (λ_ _ _ _ H vs Q E hr h=>?_)
 ·obtain ⟨p,M,ns,x,way,rfl,ta,td,W⟩:=h
  refine ⟨_,(Zw (Ye (pxT (Ze6 T) hr T.eO (Za (pv 2) Zb)))
   (Zw (Zmv (pxT (Uc T) hr T.b9 (Za (pv 0) (Za (pv 1) Zb))) (Wk rfl (Zx (Zk (i:=3) Q4.nd rfl (Or.inl rfl)) (Zx (Zk (i:=4) Q4.nd rfl (Or.inl rfl)) (Zx (Zk (i:=5) Q4.nd rfl (Or.inl rfl)) (Zx (Zk (i:=6) Q4.nd rfl (Or.inl rfl)) Yy))))))
   (Zw (Z5 (Z8 (Zm Ya (pv 2) Z0 (Zp _)) (Zh (Zn (Zfw (W3 (pv 3) (pv 6) (W3 (pv 6) (pv 5) (W3 (pv 5) (pv 4) (W3 (pv 4) (pv 3) Zfu)))) rfl rfl (List.cons_ne_nil _ _) (by decide)))) Z3))
   (Zq (Z5 (Zn (Zfw (W3 (pv 3) (pv 4) (W3 (pv 4) (pv 5) (W3 (pv 5) (pv 6) (W3 (pv 6) (pv 3) Zfu)))) rfl rfl (List.cons_ne_nil _ _) (by decide)))))))),?_⟩
  refine ⟨_,rfl,way,rfl,λhw=>?_,W.noway⟩
  refine ⟨_,rfl,_,rfl,p,M,ns,x,rfl,ta,td,λc H' sm=>⟨λe=>W.rim hw H' sm c e,λe=>W.lock hw H' sm c e,λa b l e1 e2 e3 e4 e5 e6=>?_⟩,λc=>W.seam hw c⟩
  refine ⟨l,_,rfl,SqT.of e6,rfl,_,_,rfl,_,_,rfl,_,_,rfl,_,_,rfl,rfl,?_⟩
  refine ⟨_,rfl,rfl,_,rfl,?_⟩
  by_cases c:way="left"
  ·have cl:isL way=true:=decide_eq_true c
   have:=λH'' s''=>W.go hw a b H'' s'' e1 e2 e3 e4
   rw [cl] at this
   rw [decide_eq_true (show V.str way=V.str "left" by rw [c])]
   refine iteT ?_
   intro d hd
   refine ⟨_,rfl,_,rfl,_,rfl,_,rfl,_,rfl,_,rfl,_,rfl,_,rfl,Zc,glV true a b,?_,?_,?_⟩
   ·rw [Zef e4]; rfl
   ·rw [Zef e4]; show 4<=15; decide
   ·rw [Zeb e4]
    exact this _ (Same.add (Same.add sm (sm.free hd)) (sm.free hd)) d (sm.free hd) Zc
  ·have cl:isL way=false:=decide_eq_false c
   have:=λH'' s''=>W.go hw a b H'' s'' e1 e2 e3 e4
   rw [cl] at this
   rw [Ox c]
   refine iteF ?_
   intro d hd
   refine ⟨_,rfl,_,rfl,_,rfl,_,rfl,_,rfl,_,rfl,_,rfl,_,rfl,Zc,glV false a b,?_,?_,?_⟩
   ·rw [Zbr e4]; rfl
   ·rw [Zbr e4]; show 4<=15; decide
   ·rw [Zeb e4]
    exact this _ (Same.add (Same.add sm (sm.free hd)) (sm.free hd)) d (sm.free hd) Zc
theorem Zc9:FnScope ["tent","seam","way","place","goals"] ["tent","seam","way","place"] (Zg Zfm):=Am
theorem Zk1 (T:Txt w K mg t):FnOk P w K mg base (CXr P w) 6 t.hG t.ie ["tent","seam","way","place"] (Zkc t.aa t.aM t.ax t.ai t.aV t.am):=by
 refine T.il.F.aX Zc9 (λ_ _ _ _ H vs Q E hr h=>?_)
 ·obtain ⟨p,M,ns,x,way,z,rfl,ta,td,W⟩:=h
  have hu:=Ww hr
  refine ⟨_,(Zw (X6 (i:=4) Zc9.nd rfl (Or.inl rfl) (pxT (Ud T) hr T.ce (Za (pv 0) (Za (pv 1) (Za (pv 2) Zb)))))
   (Zw (Ye (Qm (pv 0) T.ac T.ag.m (W7 T) (hr.mono (by decide)) T.ag.b .nil (Za (pv 3) Zb)))
   (Zq (Z5 (Zn (Oa hu (pv 4) (pv 3) (pv 3) ⟨rfl,rfl,rfl,rfl⟩)))))),?_⟩
  refine ⟨_,rfl,_,rfl,_,rfl,p,M,ns,x,way,rfl,ta,td,⟨W.noway,W.seam,W.rim,W.lock,λhw a b H' sm e1 e2 e3 e4 l hl hd=>?_⟩⟩
  obtain ⟨g1,g2⟩:=W.go hw a b H' sm e1 e2 e3 e4
  have ta':=ta.same sm
  obtain ⟨dx,cl,na,sp,mt,o,f,B⟩:=id ta'
  refine ⟨_,rfl,p,dx,_,rfl,B.ins,Yl _ _ _ _,_,rfl,p,M,ns,z,rfl,ta',λc=>?_,g2⟩
  refine ⟨_,rfl,l,rfl,.inl ⟨_,.inl hd⟩,_,rfl,_,rfl,_,DGet.k (k:=Sum.inl z) hd,?_⟩
  rw [Zhm]
  exact g1 c
noncomputable def wayS (left:Bool):Str:=if left then "left" else "right"
theorem Zhj (left:Bool):wayS left="left"\/wayS left="right":=by cases left <;> simp [wayS]
theorem Zfi (left:Bool):isL (wayS left)=left:=by cases left <;> decide
noncomputable def Zn7:Sp:=λvs H Q _=>∃ left:Bool,vs=[.bl left]/\Q (.str (wayS left)) H
noncomputable def Zkf:Sp:=λvs H Q _=>∃ (m:Addr) (M:List (Option Nat)) (n i j:Nat) (left:Bool),vs=[.ref m,.int i,.bl left]/\H m=some (.lst (M.map mV))/\M.length=3 * n/\n<=40/\M[i]?=some (some j)/\M[j]?=some (some i)/\i / 3≠j / 3 /\
 ∀ (l:Addr) (H':Hp),Same H H'->H l=none->H' l=some (.lst (((List.range M.length).map λ(z:Nat)=>mvI left i j (z:Int)).map V.int))->Q (.ref l) H'
noncomputable def sqI (i j:Nat):List Int:=[after i,Zt i,after j,Zt j]
noncomputable def gst (left:Bool) (i j n k:Nat):List Int:=(List.range n).map λ(z:Nat)=>if (z:Int)∈(sqI i j).take k then mvI left i j (z:Int) else (z:Int)
theorem Zlf (left:Bool) (i j n:Nat):gst left i j n 0=(List.range n).map λ(z:Nat)=>(z:Int):=by unfold gst; simp
theorem Znh (left:Bool) (i j n:Nat):gst left i j n 4=(List.range n).map λ(z:Nat)=>mvI left i j (z:Int):=by
 unfold gst
 apply List.map_congr_left
 intro z _
 by_cases c:(z:Int)∈(sqI i j).take 4
 ·rw [if_pos c]
 ·rw [if_neg c]
  have n1:¬ (z:Int)=after i:=λe=>c (by unfold sqI; simp [e])
  have n2:¬ (z:Int)=Zt j:=λe=>c (by unfold sqI; simp [e])
  have n3:¬ (z:Int)=after j:=λe=>c (by unfold sqI; simp [e])
  have n4:¬ (z:Int)=Zt i:=λe=>c (by unfold sqI; simp [e])
  unfold mvI
  rw [if_neg n1,if_neg n2,if_neg n3,if_neg n4]
theorem Zlg {left:Bool} {i j n k q:Nat} (h:(sqI i j)[k]?=some (q:Int)) (hq:q < n):(gst left i j n k).set q (mvI left i j (q:Int))=gst left i j n (k + 1):=by
 apply List.ext_getElem?
 intro z
 unfold gst
 by_cases c:z=q
 ·subst c
  rw [List.getElem?_set_self (by simpa using hq),Ah,List.getElem?_range hq]
  have:(z:Int)∈(sqI i j).take (k + 1):=by rw [Aw,h]; simp
  simp only [Option.map_some,this,if_true]
 ·rw [List.getElem?_set_ne (Ne.symm c),Ah,Ah]
  by_cases d:z < n
  ·rw [List.getElem?_range d]
   have:(z:Int)∈(sqI i j).take (k + 1) ↔ (z:Int)∈(sqI i j).take k:=by
    have c':¬ (z:Int)=(q:Int):=by omega
    rw [Aw,h]
    simp [c']
   simp only [Option.map_some,this]
  ·rw [Ay (by simpa using d)]
   rfl
theorem Zpf {i j:Nat} (h:i / 3≠j / 3) (left:Bool) {k:Nat} (hk:k < 4):atI (sqr i j) ((if left then ((k:Int) + 3) % 4 else ((k:Int) + 1) % 4))=some (V.int (mvI left i j ((sqI i j).getD k 0))):=by
 obtain ⟨h1,h2,h3,h4,h5,h6⟩:=Qf h
 have hk:k=0\/k=1\/k=2\/k=3:=by omega
 rcases hk with rfl | rfl | rfl | rfl <;> cases left <;> (unfold mvI sqI; simp [h1,h2,h3,h4,h5,h6,Ne.symm h1,Ne.symm h2,Ne.symm h3,Ne.symm h4,Ne.symm h5,Ne.symm h6]; rfl)
theorem Zpg {i j n k:Nat} (hi:i < 3 * n) (hj:j < 3 * n) (hk:k < 4):∃ q:Nat,(sqI i j)[k]?=some (q:Int)/\q < 3 * n:=by
 obtain ⟨a1,_,a3⟩:=Yw i
 obtain ⟨b1,_,b3⟩:=Yn i
 obtain ⟨c1,_,c3⟩:=Yw j
 obtain ⟨d1,_,d3⟩:=Yn j
 have hk:k=0\/k=1\/k=2\/k=3:=by omega
 rcases hk with rfl | rfl | rfl | rfl
 ·exact ⟨(after i).toNat,by show some (after i)=_; rw [Int.toNat_of_nonneg a3],by omega⟩
 ·exact ⟨(Zt i).toNat,by show some (Zt i)=_; rw [Int.toNat_of_nonneg b3],by omega⟩
 ·exact ⟨(after j).toNat,by show some (after j)=_; rw [Int.toNat_of_nonneg c3],by omega⟩
 ·exact ⟨(Zt j).toNat,by show some (Zt j)=_; rw [Int.toNat_of_nonneg d3],by omega⟩
theorem Wrong.free {EW ES ER EL:Addr} {M:List (Option Nat)} {ns:List Int} {x:Int} {left:Bool} {H:Hp} {E:XK} {G:Nat->Nat->Hp->Prop} {i j:Nat} (td:TD M ns) (hk:x∈keys ns ns.length) (hp:pl ns ns.length x=[i,j]) (ne:i / 3≠j / 3) (g:∀ H',Same H H'->G i j H'):Wrong EW ES ER EL M ns x (wayS left) H E G:=by
 have es:Z6 ns x="free":=by unfold Z6; rw [hp]; exact if_neg ne
 refine ⟨λc=>absurd (Zhj left) c,λ_ c=>absurd hk c,λ_ H' _ _ e=>absurd (es.symm.trans e) t_fr,λ_ H' _ _ e=>absurd (es.symm.trans e) t_fl,λ_ a b H' s e1 _ _ _=>?_⟩
 rw [hp] at e1
 cases e1
 exact g H' s
theorem Zkl:FnScope ["_law_left"] ["_law_left"] (Zg Zfn):=Am
theorem Zk2 (T:Txt w K mg t):FnOk P w K mg base (CXr P w) 1 t.hV t.ij ["_law_left"] Zn7:=by
 refine T.ip.F.aR Zkl (λ_ _ _ _ H vs Q E hr h=>?_)
 ·obtain ⟨l,rfl,k⟩:=h
  refine ⟨_,(Zf (Z8 (X9 (pv 0)) (Zh (Zn Z0)) Z3)
   (Zh (Zn Z0))),?_⟩
  refine ⟨_,rfl,_,rfl,?_⟩
  cases l with
  | true=>exact iteT k
  | false=>exact iteF k
theorem Vc:FnScope ["_law_mates","_law_place","_law_left","_law_around_here","_law_goals_here","_law_k"] ["_law_mates","_law_place","_law_left"] (Zg Zbc):=Am
theorem Zg0 (T:Txt w K mg t):FnOk P w K mg base (CXr P w) 2 t.fw t.fH ["_law_mates","_law_place","_law_left"] Zkf:=by
 refine T.fP.F.aR Vc (λ_ _ _ _ H vs Q E hr h=>?_)
 ·obtain ⟨m,M,n,i,j,left,rfl,hm,hn,hn40,hij,hji,ne,k⟩:=h
  refine ⟨_,(Zf (Zr (i:=3) Vc.nd rfl (Or.inl rfl) (pcT (Ze9 T) hr T.eU (Za (pv 0) (Za (pv 1) Zb))))
   (Zf (Zr (i:=4) Vc.nd rfl (Or.inl rfl) (Ke rfl T.aC rfl T.ah rfl (Za (Zo Zl (by rfl) T.ae PySem.boot_len (Za (pv 0) Zb)) Zb)))
   (Zf (Y9 PassesOwn.never rfl (Yu rfl T.ah (Za Ze Zb)) (Zk (i:=5) Vc.nd rfl (Or.inl rfl)) (Zh (Z8 (X9 (pv 2)) (Zh (Wc (Zu Zy (pv 3) (Zj Z4 (Zj Yf (pv 5) Ze) Ze) (λ_ _=>rfl)) (J2 (pv 4) (Zu Zy (pv 3) (pv 5) (λ_ _=>rfl)) Wr))) (Zh (Wc (Zu Zy (pv 3) (Zj Z4 (Zj Yf (pv 5) Ze) Ze) (λ_ _=>rfl)) (J2 (pv 4) (Zu Zy (pv 3) (pv 5) (λ_ _=>rfl)) Wr))))))
   (Zh (Zn (pv 4)))))),?_⟩
  have hi:i < 3 * n:=by rw [<- hn]; exact (Aa hij).1
  have hj:j < 3 * n:=by rw [<- hn]; exact (Aa hji).1
  refine ⟨_,rfl,_,rfl,m,M,i,j,rfl,hm,hij,λar H1 s1 har h1=>?_⟩
  refine ⟨_,rfl,m,_,rfl,.inl (SqL.of (s1 _ _ hm)),M.length,by rw [Ab],by omega,λg hg=>?_⟩
  have hag:ar≠g:=Zi h1 hg
  have hg0:H g=none:=s1.free hg
  dsimp only [Zs]
  show tSeq (tFor _ _ _) _ _ _ _
  refine Zz (λσ H2=>∃ v,σ=[some (.ref m),some (.int i),some (.bl left),some (.ref ar),some (.ref g),v]/\Same H H2/\H2 g=some (.lst ((gst left i j (3 * n) 4).map V.int))) (λnx hnx=>?_) ?_
  ·refine ⟨4,rfl,by decide,by decide,?_⟩
   refine Xy (n:=4) (λc σ H2=>∃ v,σ=[some (.ref m),some (.int i),some (.bl left),some (.ref ar),some (.ref g),v]/\Same H H2/\H2 ar=some (.lst (sqr i j))/\H2 g=some (.lst ((gst left i j (3 * n) c).map V.int))) ⟨none,rfl,Same.add s1 hg0,by rw [Zd hag]; exact h1,?_⟩ ?_ ?_
   ·rw [Zc,Zlf,List.map_map,hn]
    rfl
   ·rintro c σ H2 hc ⟨v,rfl,s2,h2,h3⟩
    obtain ⟨q,eq,hq⟩:=Zpg hi hj hc
    have e1:atI (sqr i j) (0 + (c:Int))=some (V.int q):=by
     rw [Int.zero_add]
     refine Xd ?_
     show ((sqI i j).map V.int)[c]?=_
     rw [Ah,eq]; rfl
    have ed:(sqI i j).getD c 0=(q:Int):=by rw [Ad,eq]; rfl
    have hlen:q < ((gst left i j (3 * n) c).map V.int).length:=by rw [Ab]; unfold gst; simpa using hq
    have fin:∀ H3:Hp,Same H H3->H3 ar=some (.lst (sqr i j))->H3 g=some (.lst (((gst left i j (3 * n) c).map V.int).set q (V.int (mvI left i j (q:Int)))))->∃ v,[some (V.ref m),some (.int i),some (.bl left),some (.ref ar),some (.ref g),some (.int (0 + c))]=[some (.ref m),some (.int i),some (.bl left),some (.ref ar),some (.ref g),v]/\Same H H3/\H3 ar=some (.lst (sqr i j))/\H3 g=some (.lst ((gst left i j (3 * n) (c + 1)).map V.int)):=λH3 a1 a2 a3 =>
     ⟨_,rfl,a1,a2,by rw [a3,<- Zlg eq hq,List.map_set]⟩
    have m0:=Zpf ne left hc
    rw [ed] at m0
    dsimp only [Zs]
    refine ⟨_,rfl,_,rfl,?_⟩
    cases left with
    | true =>
     refine iteT ⟨_,rfl,_,rfl,_,_,rfl,rfl,_,_,rfl,rfl,(by show (0:Int) < 4; decide),ar,_,_,_,rfl,rfl,SqL.of h2,(by rw [Int.zero_add]; exact m0),?_⟩
     refine ⟨_,rfl,_,rfl,_,rfl,ar,_,_,_,rfl,rfl,SqL.of h2,e1,g,_,_,q,rfl,rfl,h3,Jh hlen,?_⟩
     exact fin _ (Same.add s2 hg0) (by rw [Zd hag]; exact h2) Zc
    | false =>
     refine iteF ⟨_,rfl,_,rfl,_,_,rfl,rfl,_,_,rfl,rfl,(by show (0:Int) < 4; decide),ar,_,_,_,rfl,rfl,SqL.of h2,(by rw [Int.zero_add]; exact m0),?_⟩
     refine ⟨_,rfl,_,rfl,_,rfl,ar,_,_,_,rfl,rfl,SqL.of h2,e1,g,_,_,q,rfl,rfl,h3,Jh hlen,?_⟩
     exact fin _ (Same.add s2 hg0) (by rw [Zd hag]; exact h2) Zc
   ·rintro σ H2 ⟨v,rfl,s2,_,h3⟩
    exact hnx _ _ ⟨v,rfl,s2,h3⟩
  rintro σ H2 ⟨v,rfl,s2,h3⟩
  refine ⟨_,rfl,k g H2 s2 hg0 ?_⟩
  rw [h3,Znh,hn]
theorem Zjn {K:W.Frag} {D N:Addr} {ns:List Int} {ts:List Addr} {n:Nat} {H2:Hp} {R:St->Hp->Prop} (hD2:H2 D=some (.lst (ts.map V.ref))) (ht2:∀ (k:Nat) (q:Addr),ts[k]?=some q->H2 q=some (.tup (row3 ns k))) (hnn:ns.length=3 * n) (htn:ts.length=n) (n2:n<=40) (hN:H2 N=none)
  (hR:∀ σ H3,Same H2 H3->H3 N=some (.lst (ns.map V.int))->R σ H3):Jr (Itl K D) (Zs 0) tYes (tGen (iTup K (tVar 0)) (Zs 1) tYes (Zgg (tVar 1) N)) R [none,none] (upd H2 N (.lst [])):=by
 refine Y6 (xs:=ts.map V.ref) (λi σ H3=>∃ (v v':Option V),σ=[v,v']/\Same H2 H3/\H3 N=some (.lst ((ns.take (3 * i)).map V.int))) ⟨none,none,rfl,Same.new hN,Zc⟩ ?_ ?_ ?_
 ·rintro i σ H3 _ ⟨v,v',rfl,sm,h3⟩
  exact SqL.of (sm _ _ hD2)
 ·rintro i x σ H3 hx ⟨v,v',rfl,sm,h3⟩
  dsimp only [Zs,tYes]
  rw [if_pos rfl]
  obtain ⟨tt,ht,rfl⟩:=map_some hx
  have hi:i < n:=by rw [<- htn]; exact (Aa ht).1
  refine ⟨_,rfl,tt,rfl,⟨_,SqT.of (sm _ _ (ht2 i tt ht))⟩,?_⟩
  refine Oc (xs:=row3 ns i) (λj σ H4=>∃ (v':Option V),σ=[some (.ref tt),v']/\Same H2 H4/\H4 N=some (.lst ((ns.take (3 * i)).map V.int ++ (row3 ns i).take j))) ⟨v',rfl,sm,by rw [h3,List.take_zero,List.append_nil]⟩ ?_ ?_ ?_
  ·rintro j σ H4 _ ⟨v',rfl,sm,h4⟩
   exact SqT.of (sm _ _ (ht2 i tt ht))
  ·rintro j x σ H4 hx ⟨v',rfl,sm,h4⟩
   dsimp only [Zs,tYes]
   rw [if_pos rfl]
   refine ⟨_,rfl,_,h4,?_,_,rfl,Same.add sm hN,?_⟩
   ·rw [Ae,Ab,Ai,Ai]
    exact Zv (by have:(row3 ns i).length=3:=rfl; omega)
   ·rw [Zc,Aw,hx,<- List.append_assoc]
    rfl
  ·rintro σ H4 ⟨v',rfl,sm,h4⟩
   refine ⟨_,_,rfl,sm,?_⟩
   rw [h4,List.take_length,Zct hnn hi]
 rintro σ H3 ⟨v,v',rfl,sm3,h3⟩
 have eall:ns.take (3 * (ts.map V.ref).length)=ns:=by rw [Ab,htn,<- hnn,List.take_length]
 rw [eall] at h3
 exact hR _ _ sm3 h3
theorem Zno {ns:List Int} {i n:Nat} (hn:ns.length=3 * n) (hi:i < n):cutV (ns.map V.int) (some (0 + (i:Int) * 3)) (some (0 + (i:Int) * 3 + 3))=row3 ns i:=by
 have e0:(0 + (i:Int) * 3)=((3 * i:Nat):Int):=by omega
 have e3:(0 + (i:Int) * 3 + 3)=((3 * i + 3:Nat):Int):=by omega
 have l0:3 * i < ns.length:=by omega
 have l1:3 * i + 1 < ns.length:=by omega
 have l2:3 * i + 2 < ns.length:=by omega
 unfold cutV
 rw [e3,e0,HT.sIx_nat,HT.sIx_nat,Ab,Nat.min_eq_left (by omega),Nat.min_eq_left (by omega),show 3 * i + 3 - 3 * i=3 by omega]
 have g:∀ k,(hk:k < ns.length)->(ns.map V.int).drop k=V.int (ns.getD k 0) :: (ns.map V.int).drop (k + 1):=λk hk=>by
  rw [List.drop_eq_getElem_cons (by rw [Ab]; exact hk),List.getElem_map,Ad,Ac hk]
  rfl
 rw [g _ l0,g _ l1,g _ l2]
 rfl
noncomputable def Zcz (C EW ES ER EL:Addr):Sp:=λvs H Q E=>∃ (p:Addr) (M:List (Option Nat)) (ns:List Int) (x:Int) (way:Str),vs=[.ref p,.int x,.str way]/\Z1 C H p M ns/\TD M ns /\
 Wrong EW ES ER EL M ns x way H E λa b H'=>∀ p',H p'=none->Z1 C H' p' (exM (isL way) a b M) (exN (isL way) a b ns)->Q (.ref p') H'
theorem W0:FnScope ["tent","seam","way","goals","names","place","goal"] ["tent","seam","way"] (Zg Ga):=Am
theorem W6 (T:Txt w K mg t):FnOk P w K mg base (CXr P w) 6 t.dg t.dv ["tent","seam","way"] (Zcz t.aa t.ax t.ai t.aV t.am):=by
  refine T.aE.F.aX W0 (λ_ _ _ _ H vs Q E hr h=>?_)
  · obtain ⟨p,M,ns,x,way,rfl,ta,td,W⟩:=h
    refine ⟨_,(Zw (X6 (i:=3) W0.nd rfl (Or.inl rfl) (pxT (Ud T) hr T.ce (Za (pv 0) (Za (pv 1) (Za (pv 2) Zb)))))
      (Zw (Z5 (Zr (i:=4) W0.nd rfl (Or.inr rfl) (Y4 (ts:=["row","name"]) (fv:=[]) ⟨rfl,by decide +kernel,by decide +kernel,Yc (by rfl),trivial⟩ rfl (Yx (Qn (pv 0) T.ac T.ao.m (J8 T) (hr.mono (by decide)) T.ao.b .nil Yz)) (λ_ _ _ _=>(Zk (i:=0) (show List.Nodup (["row","name"]:List Str) from by decide +kernel) rfl (Or.inl rfl) (Or.inr rfl))) (λ_ _ _ _=>Yp) (λ_ _ _=>rfl) (λ_ _ _ _ _ _=>Ziv rfl rfl (Zav K (pv 0)) (Zk (i:=1) (show List.Nodup (["row","name"]:List Str) from by decide +kernel) rfl (Or.inl rfl) (Or.inr rfl)) Yp (pv 1)))))
      (Zw (Z5 (Y9 PassesOwn.never rfl (Vp (pv 3) ⟨rfl,rfl,rfl⟩) (Wk rfl (Zx (Zk (i:=5) W0.nd rfl (Or.inl rfl)) (Zx (Zk (i:=6) W0.nd rfl (Or.inl rfl)) Yy))) (Zh (Wc (Xz (pv 0) T.ac T.aj.m (J7 T) (hr.mono (by decide)) T.aj.b .nil Yz (Za (pv 5) Zb)) (J2 (pv 4) (pv 6) Wr)))))
      (Zq (Z5 (Zn (Qo T.dQ (J9 T) (hr.mono (by decide)) rfl T.dO T.aI.b .nil Yz (Za (Y4 (ts:=["k"]) (fv:=[("names",4)]) ⟨rfl,by decide +kernel,by decide +kernel,Yc (by rfl),⟨⟨rfl,rfl,Or.inl rfl⟩,trivial⟩⟩ rfl (Ziq rfl T.ah (Za Ze (Za (Zo Zl (by rfl) T.ae PySem.boot_len (Za (pv 4) Zb)) (Za Ze Zb)))) (λ_ _ _ _=>(Zk (i:=0) (show List.Nodup (["k","names"]:List Str) from by decide +kernel) rfl (Or.inl rfl) (Or.inr rfl))) (λ_ _ _ _=>Yp) (λ_ _ _=>rfl) (λ_ _ _ _ _ _=>Ym (Yb (U3 K) (by rfl) T.fV PySem.Pv.boot_tuple (Za (Vq (Zkj K) (pv 1) (Ql (pv 0)) (Ql (Zj Yf (pv 0) Ze))) Zb)))) Zb)))))))),?_⟩
    refine ⟨_,rfl,_,rfl,_,rfl,p,M,ns,x,way,rfl,ta,td,⟨W.noway,W.seam,W.rim,W.lock,λhw i j H1 s1 e1 e2 e3 e4 l hl hd1=>?_⟩⟩
    have g:=λH' s'=>W.go hw i j H' s' e1 e2 e3 e4
    generalize isL way=left at g hd1
    obtain ⟨n,n1,n40,hn⟩:=td.n
    have hMl:=td.len
    have hnn:ns.length=3 * n:=by omega
    have hi:i < 3 * n:=by rw [<- hn]; exact (Aa e3).1
    have hj:j < 3 * n:=by rw [<- hn]; exact (Aa (td.inv i j e3).1).1
    have ta1:=ta.same s1
    obtain ⟨dx,cl,na,sp,mt,o,f,B⟩:=id ta1
    refine ⟨_,rfl,p,dx,_,rfl,B.ins,Yl _ _ _ _,p,M,ns,rfl,ta1,λl2 ts hl2 hlen h3=>?_⟩
    have s2:Same H1 (upd H1 l2 (.lst (ts.map V.ref))):=Same.new hl2
    refine ⟨l2,rfl,⟨_,SqL.of Zc⟩,λN hN=>?_⟩
    refine Zjn (n:=n) Zc (λk q e=>s2 _ _ (h3 k q e)) hnn (by omega) n40 hN λσ3 H3 s3 h3'=>?_
    have s13:=s2.trans s3
    have hN0:H N=none:=(s1.trans s2).free hN
    have hd3:=s13 _ _ hd1
    have hNl:N≠l:=λz=>by rw [z,hd3] at h3'; cases h3'
    clear h3 hlen
    dsimp only [Zs]
    show tSeq (tFor _ _ _) _ _ _ _
    refine Zz (λσ H4=>∃ v5 v6,σ=[some (.ref p),some (.int x),some (.str way),some (.ref l),some (.ref N),v5,v6]/\Same H H4/\H4 N=some (.lst ((exN left i j ns).map V.int))) (λnx hnx=>?_) ?_
    · refine ⟨_,rfl,l,_,rfl,.inl ⟨hd3,λo=>?_⟩⟩
      refine Zbs (λk σ H4=>∃ v5 v6,σ=[some (.ref p),some (.int x),some (.str way),some (.ref l),some (.ref N),v5,v6]/\Same H H4/\H4 l=some (.frz o (.dK (glV left i j)))/\H4 N=some (.lst ((nst left i j ns k).map V.int)))
        ⟨_,_,rfl,Same.add (s1.trans s13) hl,Zc,by rw [Zd hNl,Zk3]; exact h3'⟩ ?_ ?_ ?_
      · rintro k σ H4 _ ⟨v5,v6,rfl,s4,h4,_⟩
        exact h4
      · rintro k key v σ H4 q hk hq ⟨v5,v6,rfl,s4,h4,h5⟩
        obtain ⟨z,hz,rfl,rfl⟩:∃ z,(Y0 left i j)[k]?=some z/\key=Sum.inl z/\v=V.int (mvI left i j z):=by
          unfold glV at hk
          rw [Ah] at hk
          cases e:(Y0 left i j)[k]? with
          | none=>rw [e] at hk; cases hk
          | some z=>rw [e] at hk; cases hk; exact ⟨z,rfl,rfl,rfl⟩
        obtain ⟨z0,z1⟩:=Znj hi hj hz
        obtain ⟨c,rfl⟩:∃ c:Nat,z=c:=⟨z.toNat,by omega⟩
        have hc:c < ns.length:=by omega
        have hq':mvN left i j c < ns.length:=by rw [hnn]; exact Qa hi hj left (by omega)
        have s5:Same H4 (upd H4 q (.tup [kV (Sum.inl (c:Int)),V.int (mvI left i j c)])):=Same.new hq
        have ta4:=(ta.same s4).same s5
        obtain ⟨dx4,cl4,na4,sp4,mt4,o4,ff4,B4⟩:=id ta4
        have hNq:N≠q:=Zi h5 hq
        have hlq:l≠q:=Zi h4 hq
        refine ⟨q,_,rfl,SqT.of Zc,rfl,_,_,rfl,_,_,rfl,rfl,?_⟩
        refine ⟨_,rfl,p,dx4,_,rfl,B4.ins,Yl _ _ _ _,_,rfl,p,M,ns,c,rfl,ta4,λi' y z1 z2=>?_,λz=>absurd ⟨by omega,by omega⟩ z⟩
        obtain rfl:c=i':=by omega
        have ey:ns.getD c 0=y:=by rw [Ad,z2]; rfl
        have hlen:((nst left i j ns k).map V.int).length=ns.length:=by unfold nst; simp
        refine ⟨_,rfl,_,rfl,N,_,_,mvN left i j c,rfl,rfl,(by rw [Zd hNq]; exact h5),(by rw [hlen,<- Qb]; exact Jh hq'),?_⟩
        refine ⟨_,_,rfl,Same.add (Same.add s4 (s4.free hq)) hN0,?_,?_⟩
        · rw [Zd (Ne.symm hNl),Zd hlq]; exact h4
        · rw [Zc,<- Zk4 e4 hz hq',ey,List.map_set]
      · rintro σ H4 ⟨v5,v6,rfl,s4,h4,h5⟩
        have e:(glV left i j).length=4:=by unfold glV; rw [Ab,Zeg]
        rw [e,Zm6 e4] at h5
        exact hnx _ _ ⟨_,_,rfl,s4,h5⟩
    rintro σ H4 ⟨v5,v6,rfl,s4,h4⟩
    have tdx:TD (exM left i j M) (exN left i j ns):=td.ex (by omega) (by omega) e4 left
    have hxl:(exN left i j ns).length=3 * n:=by rw [Jy]; exact hnn
    generalize exN left i j ns=ns' at h4 tdx hxl g ⊢
    refine ⟨_,rfl,N,_,rfl,.inl (SqL.of h4),n,(by rw [Ab,hxl]),by omega,λD hD=>?_⟩
    have hND:N≠D:=Zi h4 hD
    refine Zfc (λc σ H5=>∃ v ts,σ=[v,some (.ref N)]/\Same H4 H5/\H5 D=some (.lst (ts.map V.ref))/\ts.length=c/\∀ (k:Nat) (q:Addr),ts[k]?=some q->H5 q=some (.tup (row3 ns' k)))
      ⟨none,[],rfl,Same.new hD,Zc,rfl,λk q e=>by simp at e⟩ ?_ ?_
    · rintro c σ H5 hc ⟨v,ts,rfl,s5,h5,hts,hrow⟩
      dsimp only [Zs,tYes]
      rw [if_pos rfl]
      have h45:=s5 _ _ h4
      refine ⟨_,rfl,_,rfl,_,rfl,_,rfl,_,_,rfl,rfl,_,rfl,N,_,rfl,SqL.of h45,λq hq=>?_⟩
      rw [Zno hxl hc]
      refine ⟨q,_,rfl,.inl ⟨SqL.of Zc,λq2 hq2=>?_⟩⟩
      obtain ⟨hqq,hq2'⟩:=Xl hq2
      have hDq:D≠q:=Zi h5 hq
      have hDq2:D≠q2:=Zi h5 hq2'
      have s6:Same H5 (upd (upd H5 q (.lst (row3 ns' c))) q2 (.tup (row3 ns' c))):=Same.add (Same.new hq) hq2'
      refine ⟨_,s6 _ _ h5,(by rw [Ab]; exact Zv (by omega)),_,ts ++ [q2],rfl,Same.add (s5.trans s6) hD,?_,?_,?_⟩
      · rw [Zc]; simp
      · rw [Ae,At,hts]
      · intro k q3 z
        by_cases hk:k < ts.length
        · rw [Av hk] at z
          have g3:=s6 _ _ (hrow k q3 z)
          rw [Zd (λe=>by rw [e,s6 _ _ h5] at g3; cases g3)]
          exact g3
        · have hk2:k=ts.length:=by
            have:=(Aa z).1
            rw [Ae,At] at this
            omega
          subst hk2
          have:q3=q2:=by simpa using z.symm
          subst this
          rw [Zd (Ne.symm hDq2),Zc,hts]
    rintro σ H5 ⟨v,ts,rfl,s5,h5,hts,hrow⟩
    intro y dy hy hdy hne
    have s6:Same H5 (upd (upd H5 dy (.own y)) y (.ins t.aa dy [])):=Same.add (Same.new hdy) hy
    refine ⟨y,D,dy,_,ns',rfl,Zc,⟨ts,s6 _ _ h5,by omega,λk q e=>s6 _ _ (hrow k q e)⟩,tdx,by omega,λH7 old ta7=>⟨rfl,?_⟩⟩
    have s57:Same H5 H7:=λb u e=>old b u (Zi e hy) (s6 b u e)
    have s07:=(s4.trans s5).trans s57
    exact g H7 s07 y ((s4.trans s5).free hy) ta7
noncomputable def Zka:Sp:=λvs H Q _=>∃ (m r g:Addr) (M:List (Option Nat)) (ns:List Int) (i j:Nat) (left:Bool),vs=[.ref m,.ref r,.ref g]/\H m=some (.lst (M.map mV))/\Yr H r ns/\H g=some (.lst (((List.range M.length).map λ(z:Nat)=>mvI left i j (z:Int)).map V.int))/\TD M ns/\i < M.length/\j < M.length/\i / 3≠j / 3 /\
 ∀ (p m' r':Addr) (H':Hp),Same H H'->H' p=some (.tup [.ref m',.ref r'])->H' m'=some (.lst ((exM left i j M).map mV))->Yr H' r' (exN left i j ns)->Q (.ref p) H'
theorem Vb:FnScope ["_law_mates","_law_rows_here","_law_goals_here","_law_names","_law_ties","_law_p"] ["_law_mates","_law_rows_here","_law_goals_here"] (Zg Zba):=Am
theorem Zgy (T:Txt w K mg t):FnOk P w K mg base (CXr P w) 1 t.fu t.fG ["_law_mates","_law_rows_here","_law_goals_here"] Zka:=by
 refine T.fO.F.aR Vb (λ_ _ _ _ H vs Q E hr h=>?_)
 ·obtain ⟨m,r,g,M,ns,i,j,left,rfl,hm,hrw,hg,td,hi,hj,ne,k⟩:=h
  refine ⟨_,(Zf (Zr (i:=3) Vb.nd rfl (Or.inr rfl) (Zj Fs (Yo (Za Ze Zb)) (Zo Zl (by rfl) T.ae PySem.boot_len (Za (pv 0) Zb))))
   (Zf (Zr (i:=4) Vb.nd rfl (Or.inl rfl) (Zj Fs (Yo (Za Jm Zb)) (Zo Zl (by rfl) T.ae PySem.boot_len (Za (pv 0) Zb))))
   (Zf (Y9 PassesOwn.never rfl (Yu rfl T.ah (Za (Zo Zl (by rfl) T.ae PySem.boot_len (Za (pv 0) Zb)) Zb)) (Zk (i:=5) Vb.nd rfl (Or.inl rfl)) (Zf (Wc (Zu X5 (Zu Zy (pv 1) (Zj Yk (pv 5) Ze) (λ_ _=>rfl)) (Zj Z4 (pv 5) Ze) (λ_ _=>rfl)) (J2 (pv 3) (Zu Zy (pv 2) (pv 5) (λ_ _=>rfl)) Wr))
   (Zh (Z8 (Zm Qs (Zu Zy (pv 0) (pv 5) (λ_ _=>rfl)) Jm (Zp _)) (Zh (Wc (Zu Zy (pv 2) (Zu Zy (pv 0) (pv 5) (λ_ _=>rfl)) (λ_ _=>rfl)) (J2 (pv 4) (Zu Zy (pv 2) (pv 5) (λ_ _=>rfl)) Wr))) Z3))))
   (Zh (Zn (Xa (Za (pv 4) (Za (Y4 (ts:=["_law_k"]) (fv:=[("_law_names",3)]) ⟨rfl,by decide +kernel,by decide +kernel,Yc (by rfl),⟨⟨rfl,rfl,Or.inl rfl⟩,trivial⟩⟩ rfl (Yu rfl T.ah (Za (Zo Zl (by rfl) T.ae PySem.boot_len (Za (pv 1) Zb)) Zb)) (λ_ _ _ _=>(Zk (i:=0) (show List.Nodup (["_law_k","_law_names"]:List Str) from by decide +kernel) rfl (Or.inl rfl) (Or.inr rfl))) (λ_ _ _ _=>Yp) (λ_ _ _=>rfl) (λ_ _ _ _ _ _=>Ym (Xa (Za (Zu (Xt K) (pv 1) (Zj We Ze (pv 0)) (λ_ _=>rfl)) (Za (Zu (Xt K) (pv 1) (Zj Yf (Zj We Ze (pv 0)) Ze) (λ_ _=>rfl)) (Za (Zu (Xt K) (pv 1) (Zj Yf (Zj We Ze (pv 0)) Ze) (λ_ _=>rfl)) Zb)))))) Zb)))))))),?_⟩
  obtain ⟨n,n1,n40,hn⟩:=td.n
  have hMl:=td.len
  have hi3:i < 3 * n:=by omega
  have hj3:j < 3 * n:=by omega
  have eT:(((M.map mV).length:Nat):Int).toNat=3 * n:=by rw [Ab,hn]; omega
  have rp:∀ v:V,1 * (((M.map mV).length:Nat):Int).toNat<=sizeLine:=λv=>by rw [eT,sizeLine_eq]; omega
  have gp:∀ c,c < M.length->((List.range M.length).map λ(z:Nat)=>mvI left i j (z:Int))[c]?=some ((mvN left i j c:Nat):Int):=λc hc=>by rw [Ah,List.getElem?_range hc,Qb]; rfl
  refine Z2 λnxC hnxC=>?_
  refine ⟨(by show 1<=sizeLine; decide),λq hq=>?_⟩
  have s1:Same H (upd H q (.lst [.int 0])):=Same.new hq
  refine ⟨_,rfl,m,_,rfl,.inl (SqL.of (s1 _ _ hm)),q,_,_,rfl,rfl,Zc,by omega,by rw [Ab]; omega,rp (.int 0),λN hN=>?_⟩
  have eN:(List.replicate (((M.map mV).length:Nat):Int).toNat [V.int 0]).flatten=(mfil left i j (3 * n) (λz=>ns.getD (mvN (!left) i j z) 0) 0 0).map V.int:=by
   rw [eT,List.flatten_replicate_singleton,Zbm,List.map_replicate]
  rw [eN]
  have s2:=s1.trans (Same.new (o:=.lst ((mfil left i j (3 * n) (λz=>ns.getD (mvN (!left) i j z) 0) 0 0).map V.int)) hN)
  have hN0:H N=none:=s1.free hN
  have hN2:(upd (upd H q (.lst [.int 0])) N (.lst ((mfil left i j (3 * n) (λz=>ns.getD (mvN (!left) i j z) 0) 0 0).map V.int))) N=some (.lst ((mfil left i j (3 * n) (λz=>ns.getD (mvN (!left) i j z) 0) 0 0).map V.int)):=Zc
  generalize upd (upd H q (.lst [.int 0])) N (.lst ((mfil left i j (3 * n) (λz=>ns.getD (mvN (!left) i j z) 0) 0 0).map V.int))=H2 at s2 hN2 ⊢
  refine hnxC _ _ ?_
  refine Z2 λnxC hnxC=>?_
  refine ⟨(by show 1<=sizeLine; decide),λq2 hq2=>?_⟩
  have s3:Same H2 (upd H2 q2 (.lst [.non])):=Same.new hq2
  refine ⟨_,rfl,m,_,rfl,.inl (SqL.of (s3 _ _ (s2 _ _ hm))),q2,_,_,rfl,rfl,Zc,by omega,by rw [Ab]; omega,rp .non,λTT hT=>?_⟩
  have eTT:(List.replicate (((M.map mV).length:Nat):Int).toNat [V.non]).flatten=(mfil left i j (3 * n) (λz=>(M.getD (mvN (!left) i j z) none).map (mvN left i j)) none 0).map mV:=by
   rw [eT,List.flatten_replicate_singleton,Zbm,List.map_replicate]
   rfl
  rw [eTT]
  have s4:=s3.trans (Same.new (o:=.lst ((mfil left i j (3 * n) (λz=>(M.getD (mvN (!left) i j z) none).map (mvN left i j)) none 0).map mV)) hT)
  have hT2:(upd (upd H2 q2 (.lst [.non])) TT (.lst ((mfil left i j (3 * n) (λz=>(M.getD (mvN (!left) i j z) none).map (mvN left i j)) none 0).map mV))) TT=some (.lst ((mfil left i j (3 * n) (λz=>(M.getD (mvN (!left) i j z) none).map (mvN left i j)) none 0).map mV)):=Zc
  generalize upd (upd H2 q2 (.lst [.non])) TT (.lst ((mfil left i j (3 * n) (λz=>(M.getD (mvN (!left) i j z) none).map (mvN left i j)) none 0).map mV))=H4 at s4 hT2 ⊢
  refine hnxC _ _ ?_
  have hTN:TT≠N:=λz=>by
   have:=s3.free hT
   rw [z,hN2] at this; cases this
  have hT0:H TT=none:=s2.free (s3.free hT)
  have hN4:=s4 _ _ hN2
  have s04:=s2.trans s4
  dsimp only [Zs]
  show tSeq (tFor _ _ _) _ _ _ _
  refine Zz (λσ H5=>∃ v,σ=[some (.ref m),some (.ref r),some (.ref g),some (.ref N),some (.ref TT),v]/\Same H H5/\H5 N=some (.lst ((exN left i j ns).map V.int))/\H5 TT=some (.lst ((exM left i j M).map mV))) (λnx hnx=>?_) ?_
  ·refine ⟨_,rfl,m,_,rfl,.inl (SqL.of (s04 _ _ hm)),_,rfl,by omega,by rw [Ab]; omega,?_⟩
   have eL:(((M.map mV).length:Nat):Int).toNat=M.length:=by simp
   rw [eL]
   refine Xy (n:=M.length) (λc σ H5=>∃ v,σ=[some (.ref m),some (.ref r),some (.ref g),some (.ref N),some (.ref TT),v]/\Same H H5/\H5 N=some (.lst ((mfil left i j (3 * n) (λz=>ns.getD (mvN (!left) i j z) 0) 0 c).map V.int))/\H5 TT=some (.lst ((mfil left i j (3 * n) (λz=>(M.getD (mvN (!left) i j z) none).map (mvN left i j)) none c).map mV))) ⟨none,rfl,s04,hN4,hT2⟩ ?_ ?_
   ·rintro c σ H5 hc ⟨v,rfl,s5,h5,h6⟩
    dsimp only [Zs]
    rw [Int.zero_add]
    have hcn:c < ns.length:=by omega
    obtain ⟨y,hy⟩:∃ y,ns[c]?=some y:=⟨_,Ac hcn⟩
    have ey:ns.getD c 0=y:=by rw [Ad,hy]; rfl
    obtain ⟨ts',q,e1,e2,e3,e4⟩:=Uq (hrw.same s5) hy
    have hmc:mvN left i j c < 3 * n:=Qa hi3 hj3 left (by omega)
    refine ⟨_,rfl,_,rfl,_,_,rfl,rfl,⟨by decide,by decide⟩,r,_,_,_,rfl,rfl,SqL.of e1,(by rw [div3]; exact Yi e2),_,rfl,_,_,rfl,rfl,(by show (0:Int) < 3; decide),q,_,_,_,rfl,rfl,SqT.of e3,(by rw [mod3]; exact Xd e4),?_⟩
    refine ⟨_,rfl,_,rfl,_,rfl,g,_,_,_,rfl,rfl,SqL.of (s5 _ _ hg),Yi (gp c hc),N,_,_,mvN left i j c,rfl,rfl,h5,(by rw [Ab,Zea]; exact Jh hmc),?_⟩
    have eN':((mfil left i j (3 * n) (λz=>ns.getD (mvN (!left) i j z) 0) 0 c).map V.int).set (mvN left i j c) (V.int y)=(mfil left i j (3 * n) (λz=>ns.getD (mvN (!left) i j z) 0) 0 (c + 1)).map V.int:=by
     rw [<- Zbn ne hmc,List.map_set,X7 ne,ey]
    rw [eN']
    have s6:Same H (upd H5 N (.lst ((mfil left i j (3 * n) (λz=>ns.getD (mvN (!left) i j z) 0) 0 (c + 1)).map V.int))):=Same.add s5 hN0
    have h7:(upd H5 N (.lst ((mfil left i j (3 * n) (λz=>ns.getD (mvN (!left) i j z) 0) 0 (c + 1)).map V.int))) TT=_:=(Zd hTN).trans h6
    have h8:(upd H5 N (.lst ((mfil left i j (3 * n) (λz=>ns.getD (mvN (!left) i j z) 0) 0 (c + 1)).map V.int))) N=some (.lst ((mfil left i j (3 * n) (λz=>ns.getD (mvN (!left) i j z) 0) 0 (c + 1)).map V.int)):=Zc
    generalize upd H5 N (.lst ((mfil left i j (3 * n) (λz=>ns.getD (mvN (!left) i j z) 0) 0 (c + 1)).map V.int))=H6 at s6 h7 h8 ⊢
    obtain ⟨mc,hmcE⟩:∃ mc,M[c]?=some mc:=⟨_,Ac hc⟩
    have eMc:M.getD c none=mc:=by rw [Ad,hmcE]; rfl
    refine ⟨_,rfl,_,rfl,m,_,_,_,rfl,rfl,SqL.of (s6 _ _ hm),Yi hmcE,rfl,_,rfl,?_⟩
    cases mc with
    | none =>
     refine iteF ⟨_,rfl,s6,h8,?_⟩
     rw [h7,Zjb ne (by rw [X7 ne,eMc]; rfl)]
    | some b =>
     have hb:b < M.length:=(Aa (td.inv c b hmcE).1).1
     refine iteT ⟨_,rfl,_,rfl,_,rfl,m,_,_,_,rfl,rfl,SqL.of (s6 _ _ hm),Yi hmcE,g,_,_,_,rfl,rfl,SqL.of (s6 _ _ hg),Yi (gp b hb),?_⟩
     refine ⟨_,rfl,_,rfl,_,rfl,g,_,_,_,rfl,rfl,SqL.of (s6 _ _ hg),Yi (gp c hc),TT,_,_,mvN left i j c,rfl,rfl,h7,(by rw [Ab,Zea]; exact Jh hmc),?_⟩
     refine ⟨_,rfl,Same.add s6 hT0,by rw [Zd (Ne.symm hTN)]; exact h8,?_⟩
     rw [Zc,<- Zbn ne hmc,List.map_set,X7 ne,eMc]
     rfl
   ·rintro σ H5 ⟨v,rfl,s5,h5,h6⟩
    rw [hn,Zk7 hi3 hj3] at h5 h6
    refine hnx _ _ ⟨_,rfl,s5,?_,?_⟩
    ·rw [h5]; unfold exN; rw [hMl,hn]
    ·rw [h6]; unfold exM; rw [hn]
  rintro σ H5 ⟨v,rfl,s5,h5,h6⟩
  have hxl:(exN left i j ns).length=3 * n:=by rw [Jy]; omega
  generalize exN left i j ns=F at h5 hxl k ⊢
  obtain ⟨ts0,w1,w2,w3⟩:=hrw.same s5
  have ets:ts0.length=n:=by omega
  refine ⟨_,rfl,_,rfl,r,_,rfl,.inl (SqL.of w1),_,rfl,by omega,by rw [Ab]; omega,λD hD=>?_⟩
  have eD:(((ts0.map V.ref).length:Nat):Int).toNat=n:=by rw [Ab]; omega
  rw [eD]
  have hND:N≠D:=Zi h5 hD
  have hTD:TT≠D:=Zi h6 hD
  refine Jg (λc σ H6=>∃ (ts:List Addr) (v:Option V),σ=[v,some (.ref N)]/\Same H5 H6/\H6 D=some (.lst (ts.map V.ref))/\ts.length=c/\∀ (k:Nat) (t:Addr),ts[k]?=some t->H6 t=some (.tup (row3 F k)))
   ⟨[],none,rfl,Same.new hD,Zc,rfl,λk t z=>by simp at z⟩ ?_ ?_
  ·rintro c σ H6 hlt ⟨ts,v,rfl,s6,g1,hl2,g3⟩
   have g2:=s6 _ _ h5
   have at':∀ (e:Nat) (z:Int),e < 3->z=3 * (0 + (c:Int)) + e->atI (F.map V.int) z=some (V.int (F.getD (3 * c + e) 0)):=λe z he hz=>by
    have e:z=((3 * c + e:Nat):Int):=by omega
    rw [e]
    exact Xd (getI (by omega))
   dsimp only [Zs,tYes]
   rw [if_pos rfl]
   refine ⟨_,rfl,_,rfl,_,_,rfl,rfl,.inl ⟨by decide,by decide⟩,N,_,_,_,rfl,rfl,SqL.of g2,at' 0 _ (by decide) (by simp),?_⟩
   refine ⟨_,rfl,_,rfl,_,_,rfl,rfl,.inl ⟨by decide,by decide⟩,_,_,rfl,rfl,N,_,_,_,rfl,rfl,SqL.of g2,at' 1 _ (by decide) rfl,?_⟩
   refine ⟨_,rfl,_,rfl,_,_,rfl,rfl,.inl ⟨by decide,by decide⟩,_,_,rfl,rfl,N,_,_,_,rfl,rfl,SqL.of g2,at' 2 _ (by decide) rfl,?_⟩
   refine ⟨(by show 3<=sizeLine; decide),λq hq=>?_⟩
   have hqD:q≠D:=λz=>by rw [z,g1] at hq; cases hq
   have s7:Same H6 (upd H6 q (.tup (row3 F c))):=Same.new hq
   refine ⟨_,s7 _ _ g1,(by rw [Ab]; exact Zv (by omega)),ts ++ [q],_,rfl,Same.add (s6.trans s7) hD,?_,?_,?_⟩
   ·rw [Zc]; simp
   ·rw [Ae,At,hl2]
   ·intro k t z
    by_cases hk:k < ts.length
    ·rw [Av hk] at z
     have g:=s7 _ _ (g3 k t z)
     rw [Zd (λe=>by rw [e,s7 _ _ g1] at g; cases g)]
     exact g
    ·have hk2:k=ts.length:=by
      have:=(Aa z).1
      rw [Ae,At] at this
      omega
     subst hk2
     have:t=q:=by simpa using z.symm
     subst this
     rw [Zd hqD,Zc,hl2]
     rfl
  ·rintro σ H6 ⟨ts,v,rfl,s6,g1,hl2,g3⟩
   refine ⟨(by show 2<=sizeLine; decide),λp5 hp5=>?_⟩
   have s7:=Same.new (o:=.tup [V.ref TT,V.ref D]) hp5
   refine k p5 TT D _ ((s5.trans s6).trans s7) Zc (s7 _ _ (s6 _ _ h6)) ⟨ts,s7 _ _ g1,by omega,λk t z=>s7 _ _ (g3 k t z)⟩
theorem Zla {ws:List Int}:(((ws.map V.int).length:Nat):Int)=ws.length:=by rw [Ab]
theorem Zlo (x0:Int) (xr:List Int):cutV ((x0 :: xr).map V.int) (some 1) none=xr.map V.int:=by
 unfold cutV
 have e1:HT.sIx ((x0 :: xr).map V.int).length 0 (some ((1:Nat):Int))=1:=by
  rw [HT.sIx_nat,Ab,List.length_cons]
  omega
 rw [show (some (1:Int))=some ((1:Nat):Int) from rfl,e1,HT.sIx_none,List.map_cons,List.drop_succ_cons,List.drop_zero,List.length_cons,Nat.add_sub_cancel,List.take_length]
theorem Qx {α:Type} {p:α->Bool} {l:List α} {i:Nat} {x:α} (h:l[i]?=some x):(l.take (i + 1)).filter p=if p x=true then (l.take i).filter p ++ [x] else (l.take i).filter p:=by
 rw [Aw,h,List.filter_append]
 by_cases c:p x=true
 ·simp [c]
 ·simp [c]
noncomputable def Zme:Sp:=λvs H Q _=>∃ (m a:Addr) (M:List (Option Nat)) (xs:List Int),vs=[.ref m,.ref a]/\H m=some (.lst (M.map mV))/\H a=some (.lst (xs.map V.int))/\xs≠[]/\xs.length<=60/\(∀ x∈xs,0<=x/\x < 1009)/\M.length<=42/\(∃ n,M.length=3 * n)/\(∀ (i j:Nat),M[i]?=some (some j)->M[j]?=some (some i)/\i≠j) /\
 ∀ (l:Addr) (ws:List Nat) (H':Hp),Same H H'->H l=none->H' l=some (.lst (ws.map nV))->ws.length<=60->(ws=[]\/Pl M ws)->Q (.ref l) H'
noncomputable def Zh0 (K:W.Frag):Sp:=λvs H Q _=>∃ (a m:Addr) (sc:List Int) (i:Int) (M:List (Option Nat)),vs=[.ref a,.int i,.ref m]/\SqL K H a (sc.map V.int)/\sc.length<=63/\0<=i/\i < 1000/\H m=some (.lst (M.map mV))/\M.length<=42/\(∃ n,M.length=3 * n)/\(∀ (i j:Nat),M[i]?=some (some j)->M[j]?=some (some i)/\i≠j) /\
 ∀ (l:Addr) (ws:List Nat) (H':Hp),Same H H'->H l=none->H' l=some (.lst (ws.map nV))->ws.length<=60->(ws=[]\/Pl M ws)->Q (.ref l) H'
noncomputable def hasM (M:List (Option Nat)) (i:Nat):Bool:=match M[i]? with
 | some (some _)=>true
 | _=>false
theorem Qu {M:List (Option Nat)} {i:Nat}:hasM M i=true ↔ ∃ j,M[i]?=some (some j):=by
 unfold hasM
 split
 ·rename_i j h; exact ⟨λ_=>⟨j,h⟩,λ_=>rfl⟩
 ·rename_i h; exact ⟨λz=>absurd z (by decide),λ⟨j,e⟩=>absurd e (h j)⟩
theorem X8:FnScope ["_law_mates","_law_nums","_law_spots","_law_row","_law_pick","_law_side","_law_ways","_law_start","_law_stop"] ["_law_mates","_law_nums"] (Zg Zdk):=Am
theorem Ziz (T:Txt w K mg t):FnOk P w K mg base (CXr P w) 1 t.gj t.gG ["_law_mates","_law_nums"] Zme:=by
  refine T.gP.F.aR X8 (λ_ _ _ _ H vs Q E hr h=>?_)
  · obtain ⟨m,a,M,xs,rfl,hm,ha,hx0,hx60,hx,h42,⟨n,hn⟩,inv,k⟩:=h
    refine ⟨_,(Zf (Wg (ts:=["_law_p"]) (fv:=[("_law_mates",0)]) (i:=2) ⟨rfl,by decide +kernel,by decide +kernel,Yc (by rfl),⟨⟨rfl,rfl,Or.inl rfl⟩,trivial⟩⟩ rfl X8.nd rfl rfl (by rfl) (Yu rfl T.ah (Za (Zo Zl (by rfl) T.ae PySem.boot_len (Za (pv 0) Zb)) Zb)) (λ_ _ _ _=>(Zk (i:=0) (show List.Nodup (["_law_p","_law_mates"]:List Str) from by decide +kernel) rfl (Or.inl rfl) (Or.inr rfl))) (λ_ _ _ _=>(Jw (Zm Qs (Zu (Xt K) (pv 1) (pv 0) (λ_ _=>rfl)) Jm (Zp _)))) (λ_ _ _=>rfl) (λ_ _ _ _ _ _=>Ym (pv 0)))
      (Zf (Z8 (Zm Ya (Zo Zl (by rfl) T.ae PySem.boot_len (Za (pv 2) Zb)) Ze (Zp _)) (Zh (Zn (Yo Zb))) Z3)
      (Zf (Zr (i:=3) X8.nd rfl (Or.inl rfl) (Yo (Za (Zu Zy (pv 2) (Zj Z4 (Zu Zy (pv 1) Ze (λ_ _=>rfl)) (Zo Zl (by rfl) T.ae PySem.boot_len (Za (pv 2) Zb))) (λ_ _=>rfl)) Zb)))
      (Zf (Y9 PassesOwn.never rfl (Yx (Vq Ui (pv 1) (Ql Ze) Zas)) (Zk (i:=4) X8.nd rfl (Or.inl rfl)) (Zf (Zr (i:=5) X8.nd rfl (Or.inr rfl) (Zu Zy (pv 0) (Zu Zy (pv 3) (Zpk Znt Ze) (λ_ _=>rfl)) (λ_ _=>rfl)))
      (Zf (Wg (ts:=["_law_k"]) (fv:=[("_law_side",5)]) (i:=6) ⟨rfl,by decide +kernel,by decide +kernel,Yc (by rfl),⟨⟨rfl,rfl,Or.inl rfl⟩,trivial⟩⟩ rfl X8.nd rfl rfl (by rfl) (Yu rfl T.ah (Za Ze Zb)) (λ_ _ _ _=>(Zk (i:=0) (show List.Nodup (["_law_k","_law_side"]:List Str) from by decide +kernel) rfl (Or.inl rfl) (Or.inr rfl))) (λ_ _ _ _=>Yp) (λ_ _ _=>rfl) (λ_ _ _ _ _ _=>Ym (Zj Yf (Zj Vs (pv 1) (Zj Z4 (pv 1) Ze)) (Zj Z4 (Zj Yf (Zj Yf (pv 1) Ze) (pv 0)) Ze))))
      (Zf (Wg (ts:=["_law_p"]) (fv:=[("_law_mates",0)]) (i:=6) ⟨rfl,by decide +kernel,by decide +kernel,Yc (by rfl),⟨⟨rfl,rfl,Or.inl rfl⟩,trivial⟩⟩ rfl X8.nd rfl rfl (by rfl) (Yx (pv 6)) (λ_ _ _ _=>(Zk (i:=0) (show List.Nodup (["_law_p","_law_mates"]:List Str) from by decide +kernel) rfl (Or.inl rfl) (Or.inr rfl))) (λ_ _ _ _=>(Jw (Zm Qs (Zu (Xt K) (pv 1) (pv 0) (λ_ _=>rfl)) Jm (Zp _)))) (λ_ _ _=>rfl) (λ_ _ _ _ _ _=>Ym (pv 0)))
      (Zf (Z8 (Zm Ya (Zo Zl (by rfl) T.ae PySem.boot_len (Za (pv 6) Zb)) Ze (Zp _)) (Zh Zks) Z3)
      (Zh (Ys (Ws PySem.F.plainAttrs_list PySem.F.slot_list_append PySem.F.type_list_append Xi (pv 3) (Za (Zu Zy (pv 6) (Zj Z4 (pv 4) (Zo Zl (by rfl) T.ae PySem.boot_len (Za (pv 6) Zb))) (λ_ _=>rfl)) Zb)))))))))
      (Zf (Y9 PassesOwn.never rfl (Yu rfl T.ah (Za (Zo Zl (by rfl) T.ae PySem.boot_len (Za (pv 3) Zb)) Zb)) (Zk (i:=7) X8.nd rfl (Or.inl rfl)) (Zh (Y9 PassesOwn.never rfl (Zmx rfl T.eY rfl T.ah (Za (Zj Yf (pv 7) Ze) (Za (Zo Zl (by rfl) T.ae PySem.boot_len (Za (pv 3) Zb)) Zb))) (Zk (i:=8) X8.nd rfl (Or.inl rfl)) (Zh (Z8 (Zm Ya (Zu Zy (pv 3) (pv 7) (λ_ _=>rfl)) (Zu Zy (pv 3) (pv 8) (λ_ _=>rfl)) (Zp _)) (Zh (Zn (Vq Ui (pv 3) (Ql (pv 7)) (Ql (pv 8))))) Z3)))))
      (Zh (Zn (Yo Zb)))))))),?_⟩
    refine Z2 λnxC hnxC=>?_
    refine ⟨_,rfl,m,_,rfl,.inl (SqL.of hm),_,rfl,by omega,by rw [Ab]; omega,λD hD=>?_⟩
    have eL:(((M.map mV).length:Nat):Int).toNat=M.length:=by simp
    rw [eL]
    refine Jg (λi σ H1=>∃ v,σ=[v,some (.ref m)]/\Same H H1/\H1 D=some (.lst (((List.range i).filter (hasM M)).map nV))) ⟨none,rfl,Same.new hD,Zc⟩ ?_ ?_
    · rintro i σ H1 hlt ⟨v,rfl,sm,h1⟩
      dsimp only [Zs]
      rw [Int.zero_add]
      obtain ⟨y,hy⟩:∃ y,M[i]?=some y:=⟨_,Ac hlt⟩
      have lt:(((List.range i).filter (hasM M)).map nV).length < sizeLine:=by
        rw [Ab]
        have:=List.length_filter_le (hasM M) (List.range i)
        rw [List.length_range] at this
        exact Zv (by omega)
      refine ⟨_,rfl,_,rfl,m,_,_,_,rfl,rfl,SqL.of (sm _ _ hm),Yi hy,rfl,_,rfl,?_⟩
      cases y with
      | none =>
        refine iteF ⟨_,rfl,sm,?_⟩
        rw [h1,List.range_succ,List.filter_append]
        have:hasM M i=false:=by rw [Bool.eq_false_iff]; intro z; obtain ⟨j,e⟩:=Qu.mp z; rw [hy] at e; cases e
        simp [this]
      | some j =>
        refine iteT ⟨_,rfl,_,h1,lt,_,rfl,Same.add sm hD,?_⟩
        rw [Zc,List.range_succ,List.filter_append]
        have:hasM M i=true:=Qu.mpr ⟨j,hy⟩
        simp [this]
        rfl
    rintro σ H1 ⟨v,rfl,s1,h1⟩
    refine hnxC _ _ ?_
    have hsp:∀ p∈(List.range M.length).filter (hasM M),∃ j,M[p]?=some (some j):=λp hp=>Qu.mp (List.mem_filter.mp hp).2
    generalize (List.range M.length).filter (hasM M)=sps at h1 hsp
    refine Z2 λnxC hnxC=>?_
    refine ⟨_,rfl,D,_,rfl,.inl (SqL.of h1),rfl,_,rfl,?_⟩
    refine ite2 (λc=>?_) (λc=>?_)
    · exact ⟨Az _,λl hl=>k l [] _ (Same.add s1 (s1.free hl)) (s1.free hl) Zc (Az _) (.inl rfl)⟩
    have hne:0 < sps.length:=by
      cases sps with
      | nil=>exact absurd rfl c
      | cons _ _=>simp
    dsimp only [Wp]
    refine hnxC _ _ ?_
    obtain ⟨x0,xr,rfl⟩:∃ x0 xr,xs=x0 :: xr:=by
      cases xs with
      | nil=>exact absurd rfl hx0
      | cons a b=>exact ⟨a,b,rfl⟩
    have k0:=Int.emod_nonneg x0 (show (sps.length:Int)≠0 by omega)
    have k1:=Int.emod_lt_of_pos x0 (show (0:Int) < sps.length by omega)
    obtain ⟨kk,hkk⟩:∃ kk:Nat,x0 % (sps.length:Int)=kk:=⟨_,(Int.toNat_of_nonneg k0).symm⟩
    have hkl:kk < sps.length:=by omega
    refine Z2 λnxC hnxC=>?_
    refine ⟨_,rfl,_,rfl,a,_,_,_,rfl,rfl,SqL.of (s1 _ _ ha),(show atI _ ((0:Nat):Int)=_ from Xd rfl),_,rfl,D,_,rfl,.inl (SqL.of h1),_,_,rfl,rfl,(by rw [Ab]; omega),D,_,_,_,rfl,rfl,SqL.of h1,(by rw [Ab,hkk]; exact Yi (Ac hkl)),(by show 1<=sizeLine; decide),λr hr1=>?_⟩
    refine hnxC _ _ ?_
    have hr0:H r=none:=s1.free hr1
    obtain ⟨j0,hj0⟩:=hsp _ (List.getElem_mem hkl)
    have ch0:Ch M [sps[kk]]:=Ch.one hj0
    generalize sps[kk]=p0 at ch0
    have s2:Same H (upd H1 r (.lst [nV p0])):=Same.add s1 hr0
    have h2:(upd H1 r (.lst [nV p0])) r=some (.lst ([p0].map nV)):=Zc
    generalize upd H1 r (.lst [nV p0])=H2 at s2 h2
    dsimp only [Zs]
    show tSeq (tFor _ _ _) _ _ _ _
    refine Zz (λσ H3=>∃ (row:List Nat) (v4 v5 v6:Option V),σ=[some (.ref m),some (.ref a),some (.ref D),some (.ref r),v4,v5,v6,none,none]/\Same H H3/\H3 r=some (.lst (row.map nV))/\Ch M row/\row.length<=60) (λnx hnx=>?_) ?_
    · refine ⟨_,rfl,_,rfl,a,_,rfl,SqL.of (s2 _ _ ha),λq hq=>?_⟩
      rw [Zlo]
      have hrq:r≠q:=Zi h2 hq
      have hq0:H q=none:=s2.free hq
      refine ⟨q,rfl,⟨_,SqL.of Zc⟩,?_⟩
      rw [List.length_cons] at hx60
      refine G4 (xs:=xr.map V.int) (λi σ H3=>∃ (row:List Nat) (v4 v5 v6:Option V),σ=[some (.ref m),some (.ref a),some (.ref D),some (.ref r),v4,v5,v6,none,none]/\Same H H3/\H3 q=some (.lst (xr.map V.int))/\H3 r=some (.lst (row.map nV))/\Ch M row/\row≠[]/\row.length<=i + 1)
        ⟨[p0],none,none,none,rfl,Same.add s2 hq0,Zc,by rw [Zd hrq]; exact h2,ch0,by simp,by simp⟩ ?_ ?_ ?_
      · rintro i σ H3 _ ⟨row,v4,v5,v6,rfl,s3,h3,_⟩
        exact SqL.of h3
      · rintro i x σ H3 hxi ⟨row,v4,v5,v6,rfl,s3,h3,h4,ch,rne,rlen⟩
        have hi:i < xr.length:=by have:=(Aa hxi).1; rw [Ab] at this; exact this
        obtain ⟨pick,hpk,rfl⟩:∃ pick,xr[i]?=some pick/\x=V.int pick:=by
          rw [Ah,Ac hi] at hxi
          exact ⟨_,Ac hi,(Ax hxi).symm⟩
        obtain ⟨la,hla⟩:∃ la,row.getLast?=some la:=by
          cases e:row.getLast? with
          | none=>exact absurd (List.getLast?_eq_none_iff.mp e) rne
          | some z=>exact ⟨z,rfl⟩
        have hlm:la∈row:=List.mem_of_getLast? hla
        obtain ⟨sd,hsd⟩:=ch.has la hlm
        have hsdM:sd < M.length:=(Aa (inv la sd hsd).1).1
        have elast:atI (row.map nV) (-1)=some (nV la):=by
          unfold atI ixN
          have hl:0 < row.length:=by cases row with | nil=>exact absurd rfl rne | cons _ _=>simp
          rw [if_neg (by decide),if_pos (by rw [Ab]; omega)]
          show ((row.map nV)[((-1:Int) + (row.map nV).length).toNat]?)=_
          rw [Ab,show ((-1:Int) + (row.length:Int)).toNat=row.length - 1 by omega,Ah,<- List.getLast?_eq_getElem?,hla]
          rfl
        dsimp only [Zs]
        refine Z2 λnxC hnxC=>?_
        refine ⟨_,rfl,_,rfl,_,rfl,r,_,_,_,rfl,rfl,SqL.of h4,elast,m,_,_,_,rfl,rfl,SqL.of (s3 _ _ hm),Yi hsd,?_⟩
        refine hnxC _ _ ?_
        refine Z2 λnxC hnxC=>?_
        refine ⟨2,rfl,by decide,by decide,λW hW=>?_⟩
        have hW0:H W=none:=s3.free hW
        have hWr:r≠W:=Zi h4 hW
        have hWq:q≠W:=Zi h3 hW
        refine Jg (n:=2) (λc σ H5=>∃ v,σ=[v,some (nV sd)]/\Same H3 H5/\H5 W=some (.lst (([side sd 1,side sd 2].take c).map nV))) ⟨none,rfl,Same.new hW,Zc⟩ ?_ ?_
        · rintro c σ H5 hc ⟨v,rfl,s5,h5⟩
          dsimp only [Zs,tYes]
          rw [if_pos rfl]
          refine ⟨_,rfl,_,rfl,_,_,rfl,rfl,(by show (0:Int) < 3; decide),_,_,rfl,rfl,_,rfl,_,_,rfl,rfl,_,rfl,_,_,rfl,rfl,_,_,rfl,rfl,(by show (0:Int) < 3; decide),_,_,rfl,rfl,_,h5,?_,_,rfl,Same.add s5 hW,?_⟩
          · rw [Ab,Ai]; exact Zv (by omega)
          · rw [Zc]
            have hc:c=0\/c=1:=by omega
            have e:∀ k:Nat,(sd:Int) - (sd:Int) % 3 + ((sd:Int) + 1 + (0 + (k:Int))) % 3=((side sd (k + 1):Nat):Int):=λk=>by unfold side; omega
            rcases hc with rfl | rfl
            · show some (HO.lst ([] ++ [V.int ((sd:Int) - (sd:Int) % 3 + ((sd:Int) + 1 + (0 + ((0:Nat):Int))) % 3)]))=_
              rw [e 0]; rfl
            · show some (HO.lst ([nV (side sd 1)] ++ [V.int ((sd:Int) - (sd:Int) % 3 + ((sd:Int) + 1 + (0 + ((1:Nat):Int))) % 3)]))=_
              rw [e 1]; rfl
        rintro σ H5 ⟨v,rfl,s5,h5⟩
        refine hnxC _ _ ?_
        have h5:H5 W=some (.lst ([side sd 1,side sd 2].map nV)):=h5
        have sl:∀ c,side sd c < M.length:=λc=>by rw [hn]; exact Zmo (by omega)
        refine Z2 λnxC hnxC=>?_
        refine ⟨_,rfl,W,rfl,⟨_,SqL.of h5⟩,λW2 hW2=>?_⟩
        have s35:=s3.trans s5
        refine Y6 (xs:=[side sd 1,side sd 2].map nV) (λc σ H6=>∃ v,σ=[v,some (.ref m)]/\Same H5 H6/\H6 W2=some (.lst ((([side sd 1,side sd 2].take c).filter (hasM M)).map nV))) ⟨none,rfl,Same.new hW2,Zc⟩ ?_ ?_ ?_
        · rintro c σ H6 _ ⟨v,rfl,s6,h6⟩
          exact SqL.of (s6 _ _ h5)
        · rintro c x σ H6 hxc ⟨v,rfl,s6,h6⟩
          obtain ⟨p,hp,rfl⟩:=map_some hxc
          have hpM:p < M.length:=by
            have:=Au hp
            rcases Ar this with rfl | z
            · exact sl 1
            · rw [Af z]; exact sl 2
          obtain ⟨y,hy⟩:∃ y,M[p]?=some y:=⟨_,Ac hpM⟩
          dsimp only [Zs]
          refine ⟨_,rfl,_,rfl,m,_,_,_,rfl,rfl,SqL.of (s6 _ _ (s35 _ _ hm)),Yi hy,rfl,_,rfl,?_⟩
          cases y with
          | none =>
            refine iteF ⟨_,rfl,s6,?_⟩
            have:hasM M p=false:=by rw [Bool.eq_false_iff]; intro z; obtain ⟨j,e⟩:=Qu.mp z; rw [hy] at e; cases e
            rw [h6,Qx hp,if_neg (by rw [this]; decide)]
          | some jj =>
            refine iteT ⟨_,rfl,_,h6,?_,_,rfl,Same.add s6 hW2,?_⟩
            · rw [Ab]
              have h1:=List.length_filter_le (hasM M) ([side sd 1,side sd 2].take c)
              have h2:([side sd 1,side sd 2].take c).length<=2:=by rw [Ai]; exact Nat.min_le_right _ _
              exact Zv (by omega)
            · rw [Zc,Qx hp,if_pos (Qu.mpr ⟨jj,hy⟩),Aj]
              rfl
        rintro σ H6 ⟨v,rfl,s6,h6⟩
        refine hnxC _ _ ?_
        have h6:H6 W2=some (.lst (([side sd 1,side sd 2].filter (hasM M)).map nV)):=h6
        have hws:∀ p∈[side sd 1,side sd 2].filter (hasM M),(∃ j,M[p]?=some (some j))/\p / 3=sd / 3/\p≠sd:=λp hp=>by
          obtain ⟨z1,z2⟩:=List.mem_filter.mp hp
          refine ⟨Qu.mp z2,?_,?_⟩
          · rcases Ar z1 with rfl | z
            · exact Zc7 _ _
            · rw [Af z]; exact Zc7 _ _
          · rcases Ar z1 with rfl | z
            · unfold side; omega
            · rw [Af z]; unfold side; omega
        generalize [side sd 1,side sd 2].filter (hasM M)=wys at h6 hws
        have s36:=s5.trans s6
        have h4':=s36 _ _ h4
        have h3':=s36 _ _ h3
        have s06:=s3.trans s36
        refine Z2 λnxC hnxC=>?_
        refine ⟨_,rfl,W2,_,rfl,.inl (SqL.of h6),rfl,_,rfl,?_⟩
        refine ite2 (λc=>?_) (λc=>?_)
        · exact hnx _ _ ⟨row,_,_,_,rfl,s06,h4',ch,by omega⟩
        have hwp:0 < wys.length:=by
          cases wys with
          | nil=>exact absurd rfl c
          | cons _ _=>simp
        dsimp only [Wp]
        refine hnxC _ _ ?_
        have c0:=Int.emod_nonneg pick (show (wys.length:Int)≠0 by omega)
        have c1:=Int.emod_lt_of_pos pick (show (0:Int) < wys.length by omega)
        obtain ⟨cc,hcc⟩:∃ cc:Nat,pick % (wys.length:Int)=cc:=⟨_,(Int.toNat_of_nonneg c0).symm⟩
        have hcl:cc < wys.length:=by omega
        obtain ⟨w1,w2,w3⟩:=hws _ (List.getElem_mem hcl)
        have hget:=Ac hcl
        refine ⟨_,rfl,.inl ⟨rfl,_,SqL.of h4'⟩,_,rfl,_,rfl,_,rfl,W2,_,rfl,.inl (SqL.of h6),_,_,rfl,rfl,(by rw [Ab]; omega),W2,_,_,_,rfl,rfl,SqL.of h6,(by rw [Ab,hcc]; exact Yi hget),r,_,_,rfl,rfl,h4',(by rw [Ab]; exact Zv (by omega)),?_⟩
        refine ⟨row ++ [wys[cc]],_,_,_,rfl,Same.add s06 hr0,?_,?_,ch.snoc hla hsd w2 w3 w1,by simp,by rw [Ae,At]; omega⟩
        · rw [Zd (Ne.symm hrq)]; exact h3'
        · rw [Zc,Aj]; rfl
      · rintro σ H3 ⟨row,v4,v5,v6,rfl,s3,h3,h4,ch,rne,rlen⟩
        rw [Ab] at rlen
        exact hnx _ _ ⟨row,_,_,_,rfl,s3,h4,ch,by omega⟩
    rintro σ H3 ⟨row,v4,v5,v6,rfl,s3,h3,ch,rlen⟩
    show tSeq (tFor _ _ _) _ _ _ _
    refine Zz (λσ H4=>H4=H3) (λnx hnx=>?_) ?_
    · refine ⟨_,rfl,r,_,rfl,.inl (SqL.of h3),_,rfl,by omega,by rw [Ab]; omega,?_⟩
      have eR:(((row.map nV).length:Nat):Int).toNat=row.length:=by simp
      rw [eR]
      refine Xy (n:=row.length) (λi σ H4=>∃ v7 v8,σ=[some (.ref m),some (.ref a),some (.ref D),some (.ref r),v4,v5,v6,v7,v8]/\H4=H3) ⟨_,_,rfl,rfl⟩ ?_ ?_
      · rintro i σ H4 hi ⟨v7,v8,rfl,rfl⟩
        dsimp only [Zs]
        rw [Int.zero_add]
        refine ⟨_,rfl,_,_,rfl,rfl,_,rfl,r,_,rfl,.inl (SqL.of h3),((i + 1:Nat):Int),row.length - (i + 1),?_,by omega,by omega,?_⟩
        · rw [Ab]
          show [V.int ((i:Int) + 1),V.int (row.length:Int)]=_
          rw [show ((i:Int) + 1)=((i + 1:Nat):Int) by omega,show (row.length:Int)=((i + 1:Nat):Int) + ((row.length - (i + 1):Nat):Int) by omega]
        refine Zha (n:=row.length - (i + 1)) (λc σ H5=>∃ v8,σ=[some (.ref m),some (.ref a),some (.ref D),some (.ref r),v4,v5,v6,some (.int i),v8]/\H5=H4) ⟨_,rfl,rfl⟩ ?_ ?_
        · rintro c σ H4 hc ⟨v8,rfl,rfl⟩
          obtain ⟨e,he,hie,hel⟩:∃ e:Nat,((i + 1:Nat):Int) + ((row.length - (i + 1):Nat):Int) - 1 + (c:Int) * -1=(e:Int)/\i < e/\e < row.length:=⟨row.length - 1 - c,by omega,by omega,by omega⟩
          dsimp only [Zs]
          rw [he]
          have gi:=Ac hi
          have ge:=Ac hel
          refine ⟨_,rfl,_,rfl,r,_,_,_,rfl,rfl,SqL.of h3,Yi gi,_,rfl,_,rfl,r,_,_,_,rfl,rfl,SqL.of h3,Yi ge,rfl,_,rfl,?_⟩
          refine ite2 (λz=>?_) (λz=>?_)
          · have z:nV row[i]=nV row[e]:=of_decide_eq_true z
            have z:row[i]=row[e]:=by unfold nV at z; injection z with z; omega
            refine ⟨_,rfl,_,rfl,_,rfl,_,rfl,_,rfl,r,_,rfl,SqL.of h3,λl hl=>?_⟩
            have ec:cutV (row.map nV) (some (i:Int)) (some (e:Int))=((row.drop i).take (e - i)).map nV:=by
              unfold cutV
              rw [HT.sIx_nat,HT.sIx_nat,Ab,Nat.min_eq_left (by omega),Nat.min_eq_left (by omega),List.map_take,List.map_drop]
            rw [ec]
            refine k l _ _ (Same.add s3 (s3.free hl)) (s3.free hl) Zc ?_ (.inr (ch.cut hie gi (by rw [ge,z])))
            rw [Ai,List.length_drop]; omega
          · exact ⟨_,rfl,rfl⟩
        · rintro σ H4 ⟨v8,rfl,rfl⟩
          exact ⟨_,_,rfl,rfl⟩
      · rintro σ H4 ⟨v7,v8,rfl,rfl⟩
        exact hnx _ _ rfl
    · rintro σ H4 rfl
      exact ⟨Az _,λl hl=>k l [] _ (Same.add s3 (s3.free hl)) (s3.free hl) Zc (Az _) (.inl rfl)⟩
noncomputable def V3 (ws:List Int) (by':Int):List Int:=rot ws (by' % ws.length).toNat
noncomputable def Zhx:Sp:=λvs H Q _=>∃ (a:Addr) (ws:List Int) (b:Int),vs=[.ref a,.int b]/\H a=some (.lst (ws.map V.int))/\ws.length<=100000/\∀ (l:Addr) (H':Hp),Same H H'->H l=none->H' l=some (.lst ((V3 ws b).map V.int))->Q (.ref l) H'
noncomputable def Zc0 (C:Addr):Sp:=λvs H Q _=>∃ (p:Addr) (M:List (Option Nat)) (ns:List Int) (x:Int),vs=[.ref p,.int x]/\Z1 C H p M ns/\M.length=ns.length/\Q (.bl (Wl M x)) H
noncomputable def Zgl (C:Addr):Sp:=λvs H Q _=>∃ (p:Addr) (M:List (Option Nat)) (ns:List Int) (a x:Int),vs=[.ref p,.int a,.int x]/\Z1 C H p M ns/\M.length=ns.length/\Wl M a=true/\Q (.bl (Ji M a x)) H
noncomputable def Zkb (C:Addr):Sp:=λvs H Q _=>∃ (p a:Addr) (M:List (Option Nat)) (ns ws:List Int),vs=[.ref p,.ref a]/\Z1 C H p M ns/\M.length=ns.length/\H a=some (.lst (ws.map V.int))/\ws.length<=100000/\∀ H',Same H H'->Q (.bl (Jl M ws)) H'
noncomputable def Zah (C EN:Addr):Sp:=λvs H Q E=>∃ (p a:Addr) (M:List (Option Nat)) (ns ws:List Int),vs=[.ref p,.ref a]/\Z1 C H p M ns/\M.length=ns.length/\H a=some (.lst (ws.map V.int))/\ws.length<=100000/\∀ H',Same H H'->(Jl M ws=true->Q .non H')/\(Jl M ws=false->E (.ref EN) none H')
theorem Zgo {n:Nat} (h:n<=100000):n<=sizeLine:=by rw [sizeLine_eq]; omega
theorem Zlp {ws:List Int} {s:Nat} (h:s<=ws.length):cutV (ws.map V.int) (some (s:Int)) none=(ws.drop s).map V.int:=by
 unfold cutV
 rw [HT.sIx_nat,HT.sIx_none,Ab,Nat.min_eq_left h,List.map_drop,List.take_of_length_le]
 rw [List.length_drop,Ab]
 exact An _
theorem Zox {ws:List Int} {s:Nat} (h:s<=ws.length):cutV (ws.map V.int) none (some (s:Int))=(ws.take s).map V.int:=by
 unfold cutV
 rw [HT.sIx_none,HT.sIx_nat,Ab,Nat.min_eq_left h,List.drop_zero,Nat.sub_zero,List.map_take]
theorem K2:FnScope ["_law_script","_law_at","_law_mates","_law_cell_here"] ["_law_script","_law_at","_law_mates"] (Zg Fl):=Am
theorem Ze7 (T:Txt w K mg t):FnOk P w K mg base (CXr P w) 2 t.d0 t.eF ["_law_script","_law_at","_law_mates"] (Zh0 K):=by
 refine T.eV.F.aR K2 (λ_ _ _ _ H vs Q E hr h=>?_)
 ·obtain ⟨a,m,sc,i,M,rfl,hS,hl,i0,i1,hm,h42,hn,inv,k⟩:=h
  refine ⟨_,(Zf (Zr (i:=3) K2.nd rfl (Or.inl rfl) (pcT (W5 T) hr T.aJ (Za (pv 0) (Za (pv 1) Zb))))
   (Zh (Zn (pcT (Ziz T) hr T.gP (Za (pv 2) (Za (pcT (Kh T) hr T.cm (Za (Zj Yk (pv 3) Ze) (Za (Zj Yf Ze (Zj Z4 (pv 3) Ze)) Zb))) Zb)))))),?_⟩
  refine ⟨_,rfl,_,rfl,a,sc,i,rfl,hS,hl,i0,by omega,?_⟩
  dsimp only [Zs]
  generalize cell sc i=c
  have m0:0<=c % 50:=Int.emod_nonneg _ (by decide)
  have m1:c % 50 < 50:=Int.emod_lt_of_pos _ (by decide)
  have e:(4 + c % 50:Int)=((4 + (c % 50).toNat:Nat):Int):=by omega
  refine ⟨_,rfl,_,rfl,_,_,rfl,rfl,⟨by decide,by decide⟩,_,rfl,_,_,rfl,rfl,(by show (0:Int) < 50; decide),_,_,rfl,rfl,_,4 + (c % 50).toNat,(by rw [<- e]; rfl),by omega,λp xs H1 s1 hp h1 hxl hx=>?_⟩
  refine ⟨m,p,M,xs,rfl,s1 _ _ hm,h1,λz=>by rw [z] at hxl; simp at hxl; omega,by omega,hx,h42,hn,inv,λl ws H2 s2 hl2 h2 hw hpl=>k l ws H2 (s1.trans s2) (s1.free hl2) h2 hw hpl⟩
theorem Za5:FnScope ["word","by","start"] ["word","by"] (Zg Zdg):=Am
theorem Zbi (T:Txt w K mg t):FnOk P w K mg base (CXr P w) 1 t.f7 t.gz ["word","by"] Zhx:=by
 refine T.eQ.F.aR Za5 (λ_ _ _ _ H vs Q E hr h=>?_)
 ·obtain ⟨a,ws,b,rfl,ha,hl,k⟩:=h
  refine ⟨_,(Zf (Z8 (Wu (U8 (pv 0) (λ_=>rfl))) (Zh (Zn (Yo Zb))) Z3)
   (Zf (Zr (i:=2) Za5.nd rfl (Or.inl rfl) (Zj Z4 (pv 1) (Zo Zl (by rfl) T.ae PySem.boot_len (Za (pv 0) Zb))))
   (Zh (Zn (Zj Zoh (Vq Ui (pv 0) (Ql (pv 2)) Zas) (Vq Ui (pv 0) Zas (Ql (pv 2)))))))),?_⟩
  refine Z2 λnxC hnxC=>?_
  refine ⟨_,rfl,_,.inl ⟨_,SqL.of ha,rfl⟩,?_⟩
  by_cases hne:ws=[]
  ·subst hne
   exact iteT ⟨Az _,λl hl'=>k l _ (Same.new hl') hl' (by rw [Zc]; unfold V3 rot; simp)⟩
  ·have e:(!(ws.map V.int).isEmpty)=true:=by cases ws with | nil=>exact absurd rfl hne | cons _ _=>rfl
   have hp:0 < ws.length:=by cases ws with | nil=>exact absurd rfl hne | cons _ _=>simp
   rw [e]
   refine iteF ?_
   dsimp only [Wp]
   refine hnxC _ _ ?_
   have k0:=Int.emod_nonneg b (show (ws.length:Int)≠0 by omega)
   have k1:=Int.emod_lt_of_pos b (show (0:Int) < ws.length by omega)
   obtain ⟨st,hst⟩:∃ st:Nat,b % (ws.length:Int)=st:=⟨_,(Int.toNat_of_nonneg k0).symm⟩
   have hsl:st<=ws.length:=by omega
   have et:V3 ws b=ws.drop st ++ ws.take st:=by unfold V3 rot; rw [hst,Int.toNat_natCast]
   refine ⟨_,rfl,_,rfl,a,_,rfl,.inl (SqL.of ha),_,_,rfl,rfl,(by rw [Ab]; omega),?_⟩
   dsimp only [Zs]
   rw [Zla,hst]
   refine ⟨_,rfl,_,rfl,_,rfl,a,_,rfl,SqL.of ha,λl1 h1=>?_⟩
   rw [Zlp hsl]
   have s1:Same H (upd H l1 (.lst ((ws.drop st).map V.int))):=Same.new h1
   refine ⟨_,rfl,_,rfl,_,rfl,a,_,rfl,SqL.of (s1 _ _ ha),λl2 h2=>?_⟩
   rw [Zox hsl]
   obtain ⟨hne2,h2'⟩:=Xl h2
   refine ⟨l1,l2,_,_,rfl,rfl,by rw [Zd (Ne.symm hne2),Zc],Zc,?_,λl3 h3=>?_⟩
   ·rw [Ab,Ab,List.length_drop,Ai]; exact Zgo (by omega)
   ·have s3:=Same.add (o:=.lst ((ws.take st).map V.int)) s1 h2'
    refine k l3 _ (Same.add s3 (s3.free h3)) (s3.free h3) ?_
    rw [Zc,et,Aj]
theorem Zdb:FnScope ["tent","place"] ["tent","place"] (Zg Gb):=Am
theorem Zd3 (T:Txt w K mg t):FnOk P w K mg base (CXr P w) 4 t.di t.dw ["tent","place"] (Zc0 t.aa):=by
 refine T.dE.F.aR Zdb (λ_ _ _ _ H vs Q E hr h=>?_)
 ·obtain ⟨p,M,ns,x,rfl,ta,hMl,k⟩:=h
  obtain ⟨dx,cl,na,sp,mt,o,f,b⟩:=id ta
  refine ⟨_,(Zh (Zn (Zd0 (Xz (pv 0) T.ac T.aq.m (Va T) (hr.mono (by decide)) T.aq.b .nil Yz (Za (pv 1) Zb)) (Zdz (Qq Qs (Xz (pv 0) T.ac T.aw.m (Vu T) (hr.mono (by decide)) T.aw.b .nil Yz (Za (pv 1) Zb)) Jm (Zp _)))))),?_⟩
  refine ⟨_,rfl,p,dx,_,rfl,b.ins,Yl _ _ _ _,_,rfl,p,M,ns,x,rfl,ta,_,rfl,?_⟩
  by_cases c:0<=x/\x < (ns.length:Int)
  ·rw [decide_eq_true c]
   refine iteT ⟨_,rfl,p,dx,_,rfl,b.ins,Yl _ _ _ _,_,rfl,p,M,ns,x,rfl,ta,hMl,λi y e1 e2=>?_,λz=>absurd c z⟩
   refine ⟨rfl,?_⟩
   have:Wl M x=!decide (mV y=.non):=by
    unfold Wl
    rw [e1,Int.toNat_natCast,Ad,e2,decide_eq_true (show (0:Int)<=i/\(i:Int) < M.length by omega)]
    cases y <;> rfl
   rw [this] at k
   exact k
  ·rw [decide_eq_false c]
   have:Wl M x=false:=by unfold Wl; rw [decide_eq_false (by omega)]; rfl
   rw [this] at k
   exact iteF k
theorem Ff:FnScope ["tent","ahead","place","entry"] ["tent","ahead","place"] (Zg Zbe):=Am
theorem Zg2 (T:Txt w K mg t):FnOk P w K mg base (CXr P w) 4 t.fo t.fD ["tent","ahead","place"] (Zgl t.aa):=by
 refine T.fL.F.aR Ff (λ_ _ _ _ H vs Q E hr h=>?_)
 ·obtain ⟨p,M,ns,a,x,rfl,ta,hMl,hc,k⟩:=h
  obtain ⟨dx,cl,na,sp,mt,o,f,b⟩:=id ta
  refine ⟨_,(Zf (Zr (i:=3) Ff.nd rfl (Or.inl rfl) (Xz (pv 0) T.ac T.aw.m (Vu T) (hr.mono (by decide)) T.aw.b .nil Yz (Za (pv 1) Zb)))
   (Zh (Zn (Zd0 (Qq Ya (pcT (Xx T) hr T.au (Za (pv 2) Zb)) (pcT (Xx T) hr T.au (Za (pv 3) Zb)) (Zp _)) (Zdz (Qq J4 (pv 2) (pv 3) (Zp _))))))),?_⟩
  obtain ⟨hr1,hs1⟩:=Bool.and_eq_true_iff.mp hc
  have hr1:=of_decide_eq_true hr1
  obtain ⟨m,hm⟩:=Option.isSome_iff_exists.mp hs1
  have hal:a.toNat < M.length:=by omega
  have ha:M[a.toNat]?=some (some m):=by rw [Ad,Ac hal] at hm; rw [Ac hal]; exact congrArg some hm
  have ef:Ji M a x=(decide (x / 3=(m:Int) / 3) && !decide (x=(m:Int))):=by unfold Ji; rw [hm]
  rw [ef] at k
  refine ⟨_,rfl,p,dx,_,rfl,b.ins,Yl _ _ _ _,_,rfl,p,M,ns,a,rfl,ta,hMl,λi y e1 e2=>?_,λz=>absurd (show 0<=a/\a < (ns.length:Int) by omega) z⟩
  have:i=a.toNat:=by omega
  subst this
  rw [ha] at e2
  cases e2
  refine ⟨_,rfl,_,rfl,_,rfl,_,rfl,rfl,_,rfl,?_⟩
  have dI:∀ u v:Int,decide (V.int u=V.int v)=decide (u=v):=λu v=>by
   by_cases z:u=v
   ·subst z; simp
   ·rw [decide_eq_false z,decide_eq_false (λy=>z (by injection y))]
  rw [dI]
  by_cases z:x / 3=(m:Int) / 3
  ·rw [decide_eq_true z] at k ⊢
   refine iteT ⟨_,rfl,_,rfl,rfl,?_⟩
   show Q (.bl (!decide (V.int x=V.int (m:Int)))) H
   rw [dI]
   exact k
  ·rw [decide_eq_false z] at k ⊢
   exact iteF k
theorem Zkk:FnScope ["tent","word"] ["tent","word"] (Zg Zfl):=Am
theorem Zk0 (T:Txt w K mg t):FnOk P w K mg base (CXr P w) 5 t.hJ t.ig ["tent","word"] (Zkb t.aa):=by
  refine T.im.F.aR Zkk (λ_ _ _ _ H vs Q E hr h=>?_)
  · obtain ⟨p,a,M,ns,ws,rfl,ta,hMl,ha,hl,k⟩:=h
    refine ⟨_,(Zf (Z8 (PW.pt (U7 (Wu (U8 (pv 1) (λ_=>rfl))) (Vn (Wu (X9 (Zo (Zeq rfl) (by rfl) T.iN PyProof.Rows.boot_all (Za (Y4 (ts:=["place"]) (fv:=[("tent",0)]) ⟨rfl,by decide +kernel,by decide +kernel,Yc (by rfl),⟨⟨rfl,rfl,Or.inl rfl⟩,trivial⟩⟩ rfl (Yx (pv 1)) (λ_ _ _ _=>(Zk (i:=0) (show List.Nodup (["place","tent"]:List Str) from by decide +kernel) rfl (Or.inl rfl) (Or.inr rfl))) (λ_ _ _ _=>Yp) (λ_ _ _=>rfl) (λ_ _ _ _ _ _=>Ym (pcT (Zd3 T) hr T.dE (Za (pv 1) (Za (pv 0) Zb))))) Zb))))))) (Zh (Zn Wd)) Z3)
      (Zh (Zn (Zo (Zeq rfl) (by rfl) T.iN PyProof.Rows.boot_all (Za (Y4 (ts:=["ahead","place"]) (fv:=[("tent",0)]) ⟨rfl,by decide +kernel,by decide +kernel,Yc (by rfl),⟨⟨rfl,rfl,Or.inl rfl⟩,trivial⟩⟩ rfl (Zio rfl T.iE (Za (pv 1) (Za (pcT (Zbi T) hr T.eQ (Za (pv 1) (Za Ze Zb))) Zb))) (λ_ _ _ _=>(Uu (n:=2) K rfl (Zx (Zk (i:=0) (show List.Nodup (["ahead","place","tent"]:List Str) from by decide +kernel) rfl (Or.inl rfl) (Or.inr rfl)) (Zx (Zk (i:=1) (show List.Nodup (["ahead","place","tent"]:List Str) from by decide +kernel) rfl (Or.inl rfl) (Or.inr rfl)) Yy)))) (λ_ _ _ _=>Yp) (λ_ _ _=>rfl) (λ_ _ _ _ _ _=>Ym (pcT (Zg2 T) hr T.fL (Za (pv 2) (Za (pv 0) (Za (pv 1) Zb)))))) Zb))))),?_⟩
    refine Z2 λnxC hnxC=>?_
    refine ⟨_,rfl,_,.inl ⟨_,SqL.of ha,rfl⟩,?_⟩
    by_cases hne:ws=[]
    · subst hne
      exact iteT (k _ (Same.refl _))
    · have e:(!(ws.map V.int).isEmpty)=true:=by cases ws with | nil=>exact absurd rfl hne | cons _ _=>rfl
      have e':(!ws.isEmpty)=true:=by cases ws with | nil=>exact absurd rfl hne | cons _ _=>rfl
      have hp:0 < ws.length:=by cases ws with | nil=>exact absurd rfl hne | cons _ _=>simp
      rw [e]
      refine iteF ?_
      refine ⟨_,rfl,a,rfl,⟨_,SqL.of ha⟩,λD hD=>?_⟩
      refine Y6 (xs:=ws.map V.int) (λi σ H1=>∃ v,σ=[v,some (.ref p)]/\Same H H1/\H1 D=some (.lst (((ws.take i).map (Wl M)).map V.bl))) ⟨none,rfl,Same.new hD,Zc⟩ ?_ ?_ ?_
      · rintro i σ H1 _ ⟨v,rfl,sm,h1⟩
        exact SqL.of (sm _ _ ha)
      · rintro i x σ H1 hx ⟨v,rfl,sm,h1⟩
        obtain ⟨y,hy,rfl⟩:=map_some hx
        dsimp only [Zs,tYes]
        rw [if_pos rfl]
        refine ⟨_,rfl,_,rfl,p,M,ns,y,rfl,ta.same sm,hMl,_,h1,?_,_,rfl,Same.add sm hD,?_⟩
        · rw [Ab,Ab,Ai,sizeLine_eq]; omega
        · rw [Zc,Aw,hy,Aj,Aj]; rfl
      rintro σ H1 ⟨v,rfl,s1,h1⟩
      rw [Ab,List.take_length] at h1
      refine ⟨D,_,rfl,SqL.of h1,_,rfl,?_⟩
      by_cases hc:(ws.map (Wl M)).all id=true
      · rw [hc]
        refine iteF ?_
        dsimp only [Wp]
        refine hnxC _ _ ?_
        refine ⟨_,rfl,_,rfl,a,ws,1,rfl,s1 _ _ ha,hl,λtl H2 s2 htl h2=>?_⟩
        have s02:=s1.trans s2
        have et:V3 ws 1=rot ws (1 % ws.length):=by
          unfold V3
          congr 1
        rw [et] at h2
        have hrl:(rot ws (1 % ws.length)).length=ws.length:=Qi ws (Nat.le_of_lt (Nat.mod_lt _ hp))
        have hcr:∀ y∈ws,Wl M y=true:=λy hy=>List.all_eq_true.mp hc _ (List.mem_map.mpr ⟨y,hy,rfl⟩)
        have ep:Jl M ws=(J3 M ws (rot ws (1 % ws.length))).all id:=by unfold Jl; rw [e',hc]; rfl
        have k':=λH' s'=>k H' s'
        rw [ep] at k'
        generalize rot ws (1 % ws.length)=vs at h2 hrl k'
        refine ⟨a,tl,_,_,rfl,SqL.of (s02 _ _ ha),SqL.of h2,λD2 hD2=>?_⟩
        refine Zk9 (xs:=ws.map V.int) (ys:=vs.map V.int) (by rw [Ab,Ab,hrl]) (λi σ H3=>∃ v v',σ=[v,v',some (.ref p)]/\Same H2 H3/\H3 D2=some (.lst (((J3 M ws vs).take i).map V.bl))) ⟨none,none,rfl,Same.new hD2,Zc⟩ ?_ ?_ ?_
        · rintro i σ H3 _ ⟨v,v',rfl,s3,h3⟩
          exact ⟨SqL.of (s3 _ _ (s02 _ _ ha)),SqL.of (s3 _ _ h2)⟩
        · rintro i x y σ H3 q hx hy hq ⟨v,v',rfl,s3,h3⟩
          obtain ⟨x',hx',rfl⟩:=map_some hx
          obtain ⟨y',hy',rfl⟩:=map_some hy
          have s4:Same H3 (upd H3 q (.tup [V.int x',V.int y'])):=Same.new hq
          refine ⟨q,_,rfl,SqT.of Zc,rfl,_,_,rfl,_,_,rfl,rfl,?_⟩
          dsimp only [tYes]
          rw [if_pos rfl]
          refine ⟨_,rfl,_,rfl,_,rfl,p,M,ns,x',y',rfl,((ta.same s02).same s3).same s4,hMl,hcr x' (Au hx'),_,s4 _ _ h3,?_,_,_,rfl,Same.add (s3.trans s4) hD2,?_⟩
          · rw [Ab,Ai]
            have:(J3 M ws vs).length<=ws.length:=by unfold J3; rw [Ab,List.length_zip]; omega
            rw [sizeLine_eq]; omega
          · have:(J3 M ws vs)[i]?=some (Ji M x' y'):=by
              unfold J3
              rw [Ah,List.getElem?_zip_eq_some (z:=(x',y')) |>.mpr ⟨hx',hy'⟩]
              rfl
            rw [Zc,Aw,this,Aj]
            rfl
        rintro σ H3 ⟨v,v',rfl,s3,h3⟩
        have hpl:(J3 M ws vs).length=ws.length:=by unfold J3; rw [Ab,List.length_zip]; omega
        rw [Ab,List.take_of_length_le (Nat.le_of_eq hpl)] at h3
        exact ⟨D2,_,rfl,SqL.of h3,k' _ (s02.trans s3)⟩
      · have hc:(ws.map (Wl M)).all id=false:=by rw [Bool.eq_false_iff]; exact hc
        rw [hc]
        have ep:Jl M ws=false:=by unfold Jl; rw [hc]; simp
        have:=k _ s1
        rw [ep] at this
        exact iteT this
theorem Zak:FnScope ["tent","word"] ["tent","word"] (Zg Oj):=Am
theorem Uv (T:Txt w K mg t):FnOk P w K mg base (CXr P w) 6 t.cr t.cy ["tent","word"] (Zah t.aa t.cI):=by
 refine T.a9.F.aX Zak (λ_ _ _ _ H vs Q E hr h=>?_)
 ·obtain ⟨p,a,M,ns,ws,rfl,ta,hMl,ha,hl,k⟩:=h
  refine ⟨_,(Zq (Y1 (Wu (X9 (pcT (Zk0 T) hr T.im (Za (pv 0) (Za (pv 1) Zb))))) (Zq (Wa T.gX FBV rfl T.gT rfl (Za Z0 Zb))) X4)),?_⟩
  refine ⟨_,rfl,_,rfl,p,a,M,ns,ws,rfl,ta,hMl,ha,hl,λH' s'=>⟨_,rfl,?_⟩⟩
  obtain ⟨k1,k2⟩:=k H' s'
  cases e:Jl M ws with
  | true=>exact iteF (k1 e)
  | false=>exact iteT ⟨by decide,k2 e⟩
theorem Zcl (ws:List Nat):ws.map nV=(wI ws).map V.int:=by rw [List.map_map]; rfl
theorem G7 (ws:List Nat):(wI ws).length=ws.length:=by simp
theorem Mv.two {M:List (Option Nat)} {ns:List Int} {x:Int} {a b:Nat} (h:Mv M ns x a b) (td:TD M ns):x∈keys ns ns.length/\pl ns ns.length x=[a,b]:=Zil td h.hM h.lt h.nm
theorem V6:FnScope ["tent","moves","seam","way"] ["tent","moves"] (Zg Zdt):=Am
theorem Zlm (l:List Nat):(l.map nV).all Vd=true:=by rw [List.all_eq_true]; intro v hv; obtain ⟨x,_,rfl⟩:=List.mem_map.mp hv; rfl
theorem Zf5 {x y:Nat}:eqV (nV y) (nV x)=decide (y=x):=by
 show decide ((y:Int)=(x:Int))=_
 by_cases z:y=x
 ·subst z; simp
 ·rw [decide_eq_false z,decide_eq_false (by omega)]
theorem Zne {x:Nat} {l:List Nat}:inV (nV x) (l.map nV)=decide (x∈l):=by
 unfold inV
 rw [List.any_map,Bool.eq_iff_iff,List.any_eq_true,decide_eq_true_eq]
 constructor
 ·rintro ⟨y,hy,e⟩
  have e:eqV (nV y) (nV x)=true:=e
  rw [Zf5,decide_eq_true_eq] at e
  rw [<- e]; exact hy
 ·intro h
  refine ⟨x,h,?_⟩
  show eqV (nV x) (nV x)=true
  rw [Zf5,decide_eq_true rfl]
theorem dN {a b:Nat}:decide (V.int (a:Int)=V.int (b:Int))=decide (a=b):=by
 by_cases z:a=b
 ·subst z; simp
 ·rw [decide_eq_false z,decide_eq_false (λy=>z (by injection y with y; omega))]
theorem dN3 {a b:Nat}:decide (V.int ((a:Int) / 3)=V.int ((b:Int) / 3))=decide (a / 3=b / 3):=by
 rw [div3,div3]; exact dN
theorem Zkp (ks:List Nat):(rot ks (1 % ks.length)).length=ks.length:=by
 by_cases z:ks.length=0
 ·have:ks=[]:=List.length_eq_zero_iff.mp z
  subst this; rfl
 ·exact Qi _ (Nat.le_of_lt (Nat.mod_lt _ (by omega)))
theorem Zo0 (ks:List Nat):(V3 (wI ks) 1).map V.int=(rot ks (1 % ks.length)).map nV:=by
 rw [Zcl]
 congr 1
 unfold V3
 rw [G7,show (1 % (ks.length:Int)).toNat=1 % ks.length by
  rw [show (1:Int)=((1:Nat):Int) from rfl,<- Int.natCast_emod,Int.toNat_natCast]]
 unfold rot wI
 rw [Aj,List.map_drop,List.map_take]
theorem Zag {left:Bool} {a b z:Nat}:(valV (glV left a b) (Sum.inl (z:Int))).getD (nV z)=nV (mvN left a b z):=by
 rw [show nV z=V.int (z:Int) from rfl,Zhm,<- Qb]; rfl
theorem Zl4 {left:Bool} {a b z:Nat}:(valV (glV left a b) (Sum.inl (z:Int))).getD (mV (some z))=nV (mvN left a b z):=Zag
theorem Zlc {a b q:Nat}:(!decide (q∈[a,b]))=Xp a b q:=by
 unfold Xp
 by_cases h1:q=a
 ·subst h1; simp
 ·by_cases h2:q=b
  ·subst h2; simp
  ·simp [h1,h2]
noncomputable def Zkh:Sp:=λvs H Q _=>∃ (o:Addr) (a b e f:Nat),vs=[.ref o,.int e,.int f]/\H o=some (.lst ([a,b].map nV))/\∀ (l:Addr) (H':Hp),Same H H'->H' l=some (.lst ((Q7 a b e f).map nV))->Q (.ref l) H'
noncomputable def Za3 (C:Addr):Sp:=λvs H Q _=>∃ (p wd:Addr) (M:List (Option Nat)) (ns:List Int) (x:Int) (left:Bool) (a b:Nat) (ws:List Nat),vs=[.ref p,.int x,.str (wayS left),.ref wd]/\Z1 C H p M ns/\TD M ns/\x∈keys ns ns.length/\pl ns ns.length x=[a,b]/\a / 3≠b / 3/\H wd=some (.lst (ws.map nV))/\ws.length<=1000/\Pl M ws /\
 ∀ (l:Addr) (H':Hp),Same H H'->H l=none->H' l=some (.lst ((Y5 M left a b (Y3 (Xo a b ws))).map nV))->Q (.ref l) H'
theorem Ov:FnScope ["own","entry","leaving"] ["own","entry","leaving"] (Zg Q5):=Am
theorem Ow (T:Txt w K mg t):FnOk P w K mg base (CXr P w) 2 t.aO t.aP ["own","entry","leaving"] Zkh:=by
 refine T.aQ.F.aR Ov (λ_ _ _ _ H vs Q E hr h=>?_)
 ·obtain ⟨o,a,b,e,f,rfl,ho,k⟩:=h
  refine ⟨_,(Zf (Z8 (Zm Ya (pcT (Xx T) hr T.au (Za (pv 1) Zb)) (pcT (Xx T) hr T.au (Za (pv 2) Zb)) (Zp _)) (Zh (Zn (Yo Zb))) Z3)
   (Zh (Zn (Y4 (ts:=["place"]) (fv:=[("entry",1)]) ⟨rfl,by decide +kernel,by decide +kernel,Yc (by rfl),⟨⟨rfl,rfl,Or.inl rfl⟩,trivial⟩⟩ rfl (Yx (pv 0)) (λ_ _ _ _=>(Zk (i:=0) (show List.Nodup (["place","entry"]:List Str) from by decide +kernel) rfl (Or.inl rfl) (Or.inr rfl))) (λ_ _ _ _=>(Jw (Zm Ya (pcT (Xx T) hr T.au (Za (pv 0) Zb)) (pcT (Xx T) hr T.au (Za (pv 1) Zb)) (Zp _)))) (λ_ _ _=>rfl) (λ_ _ _ _ _ _=>Ym (pv 0)))))),?_⟩
  refine ⟨_,rfl,_,rfl,_,rfl,_,rfl,rfl,_,rfl,?_⟩
  rw [dN3]
  unfold Q7 at k
  by_cases z:e / 3=f / 3
  ·rw [if_pos z] at k
   rw [decide_eq_true z]
   exact iteT ⟨Az _,λl hl=>k l _ (Same.new hl) Zc⟩
  ·rw [if_neg z] at k
   rw [decide_eq_false z]
   refine iteF ?_
   dsimp only [Wp]
   refine ⟨_,rfl,o,rfl,⟨_,SqL.of ho⟩,λD hD=>?_⟩
   refine Y6 (xs:=[a,b].map nV) (λi σ H1=>∃ v,σ=[v,some (.int e)]/\Same H H1/\H1 D=some (.lst ((([a,b].take i).filter λq=>decide (q / 3=e / 3)).map nV))) ⟨none,rfl,Same.new hD,Zc⟩ ?_ ?_ ?_
   ·rintro i σ H1 _ ⟨v,rfl,sm,h1⟩
    exact SqL.of (sm _ _ ho)
   ·rintro i y σ H1 hy ⟨v,rfl,sm,h1⟩
    obtain ⟨q,hq,rfl⟩:=map_some hy
    have hi:i < 2:=(Aa hq).1
    have lt:((([a,b].take i).filter λq=>decide (q / 3=e / 3)).map nV).length < sizeLine:=by
     rw [Ab]
     have h1:=List.length_filter_le (λq=>decide (q / 3=e / 3)) ([a,b].take i)
     rw [Ai] at h1
     exact Zv (by omega)
    dsimp only [Zs]
    refine ⟨_,rfl,_,rfl,_,rfl,_,rfl,rfl,_,rfl,?_⟩
    show if decide (V.int ((q:Int) / 3)=V.int ((e:Int) / 3))=true then _ else _
    rw [dN3]
    by_cases c:q / 3=e / 3
    ·rw [decide_eq_true c]
     refine iteT ⟨_,rfl,_,h1,lt,_,rfl,Same.add sm hD,?_⟩
     rw [Zc,Qx hq,if_pos (decide_eq_true c),Aj]; rfl
    ·rw [decide_eq_false c]
     refine iteF ⟨_,rfl,sm,?_⟩
     rw [h1,Qx hq,if_neg (by rw [decide_eq_false c]; decide)]
   rintro σ H1 ⟨v,rfl,sm,h1⟩
   exact k D H1 sm h1
theorem Xv:FnScope ["tent","seam","way","word","goals","own","kept","told","ahead","following","entry"] ["tent","seam","way","word"] (Zg Zdj):=Am
theorem Zbj (T:Txt w K mg t):FnOk P w K mg base (CXr P w) 7 t.cN t.cS ["tent","seam","way","word"] (Za3 t.aa):=by
  refine T.ci.F.aX Xv (λ_ _ _ _ H vs Q E hr h=>?_)
  · obtain ⟨p,wd,M,ns,x,left,a,b,ws,rfl,ta,td,hk,hpl,hab,hw,hwl,hP,k⟩:=h
    have hu:=Ww hr
    have hMl:M.length=ns.length:=td.len.symm
    refine ⟨_,(Zw (X6 (i:=4) Xv.nd rfl (Or.inl rfl) (pxT (Ud T) hr T.ce (Za (pv 0) (Za (pv 1) (Za (pv 2) Zb)))))
      (Zw (Ye (pxT (Uv T) hr T.a9 (Za (pv 0) (Za (pv 3) Zb))))
      (Zw (Z5 (Zr (i:=5) Xv.nd rfl (Or.inr rfl) (Xz (pv 0) T.ac T.ap.m (Qt T) (hr.mono (by decide)) T.ap.b .nil Yz (Za (pv 1) Zb))))
      (Zw (Z5 (Wg (ts:=["place"]) (fv:=[("own",5)]) (i:=6) ⟨rfl,by decide +kernel,by decide +kernel,Yc (by rfl),⟨⟨rfl,rfl,Or.inl rfl⟩,trivial⟩⟩ rfl Xv.nd rfl rfl (by rfl) (Yx (pv 3)) (λ_ _ _ _=>(Zk (i:=0) (show List.Nodup (["place","own"]:List Str) from by decide +kernel) rfl (Or.inl rfl) (Or.inr rfl))) (λ_ _ _ _=>(Jw (Zm (Zce K) (pv 0) (pv 1) (by with_unfolding_all rfl)))) (λ_ _ _=>rfl) (λ_ _ _ _ _ _=>Ym (pv 0))))
      (Zw (Z5 (Zr (i:=7) Xv.nd rfl (Or.inl rfl) (Yo Zb)))
      (Zw (Z5 (Y9 PassesOwn.never rfl (Zio rfl T.iE (Za (pv 6) (Za (pcT (Zbi T) hr T.eQ (Za (pv 6) (Za Ze Zb))) Zb))) (Wk rfl (Zx (Zk (i:=8) Xv.nd rfl (Or.inl rfl)) (Zx (Zk (i:=9) Xv.nd rfl (Or.inl rfl)) Yy))) (Zf (Zr (i:=10) Xv.nd rfl (Or.inl rfl) (Xz (pv 0) T.ac T.aw.m (Vu T) (hr.mono (by decide)) T.aw.b .nil Yz (Za (pv 8) Zb)))
      (Zf (Ys (Ws PySem.F.plainAttrs_list PySem.F.slot_list_append PySem.F.type_list_append Xi (pv 7) (Za (Oa hu (pv 4) (pv 8) (pv 8) ⟨rfl,rfl,rfl,rfl⟩) Zb)))
      (Zh (Ys (Ws PySem.F.plainAttrs_list PySem.F.slot_list_extend PySem.F.type_list_extend Zja (pv 7) (Za (pcT (Ow T) hr T.aQ (Za (pv 5) (Za (Oa hu (pv 4) (pv 10) (pv 10) ⟨rfl,rfl,rfl,rfl⟩) (Za (Oa hu (pv 4) (pv 9) (pv 9) ⟨rfl,rfl,rfl,rfl⟩) Zb)))) Zb))))))))
      (Zq (Z5 (Zn (pv 7)))))))))),?_⟩
    refine ⟨_,rfl,_,rfl,_,rfl,p,M,ns,x,wayS left,rfl,ta,td,Wrong.free td hk hpl hab λH1 s1 d hd0 hd=>?_⟩
    rw [Zfi] at hd
    refine ⟨_,rfl,_,rfl,p,wd,M,ns,wI ws,rfl,ta.same s1,hMl,by rw [s1 _ _ hw,Zcl],by rw [G7]; omega,λH2 s2=>⟨λ_=>?_,λz=>absurd ((Zbg.mpr hP).symm.trans z) (by decide)⟩⟩
    have s02:=s1.trans s2
    have hd2:=s2 _ _ hd
    have ta2:=ta.same s02
    obtain ⟨dx,cl,na,sp,mt',oo,ff,bb⟩:=id ta2
    refine ⟨_,rfl,p,dx,_,rfl,bb.ins,Yl _ _ _ _,_,rfl,p,M,ns,x,rfl,ta2,λ_ o ho=>?_,λz=>absurd hk z⟩
    rw [hpl]
    have s03:Same H (upd H2 o (.lst ([a,b].map nV))):=Same.add s02 (s02.free ho)
    have hd3:(upd H2 o (.lst ([a,b].map nV))) d=some (.dK (glV left a b)):=by rw [Zd (Zi hd2 ho)]; exact hd2
    have ho3:(upd H2 o (.lst ([a,b].map nV))) o=some (.lst ([a,b].map nV)):=Zc
    generalize upd H2 o (.lst ([a,b].map nV))=H3 at s03 hd3 ho3
    clear bb ta2 s02 hd2 s2 hd s1
    dsimp only [Zs]
    refine ⟨_,rfl,wd,rfl,⟨_,SqL.of (s03 _ _ hw)⟩,λD hD=>?_⟩
    refine Y6 (xs:=ws.map nV) (λi σ H4=>∃ v,σ=[v,some (.ref o)]/\Same H3 H4/\H4 D=some (.lst (((ws.take i).filter (Xp a b)).map nV))) ⟨none,rfl,Same.new hD,Zc⟩ ?_ ?_ ?_
    · rintro i σ H4 _ ⟨v,rfl,sm,h4⟩
      exact SqL.of (sm _ _ (s03 _ _ hw))
    · rintro i y σ H4 hy ⟨v,rfl,sm,h4⟩
      obtain ⟨q,hq,rfl⟩:=map_some hy
      have hi:i < ws.length:=(Aa hq).1
      have lt:(((ws.take i).filter (Xp a b)).map nV).length < sizeLine:=by
        rw [Ab]
        have h1:=List.length_filter_le (Xp a b) (ws.take i)
        rw [Ai] at h1
        exact Zv (by omega)
      dsimp only [Zs]
      refine ⟨_,rfl,_,rfl,o,_,rfl,.inl (SqL.of (sm _ _ ho3)),rfl,Zlm _,_,rfl,?_⟩
      show if (if true=true then !inV (nV q) ([a,b].map nV) else inV (nV q) ([a,b].map nV))=true then _ else _
      rw [if_pos rfl,Zne,Zlc]
      cases hb:Xp a b q with
      | true =>
        refine iteT ⟨_,rfl,_,h4,lt,_,rfl,Same.add sm hD,?_⟩
        rw [Zc,Qx hq,if_pos hb,Aj]; rfl
      | false =>
        refine iteF ⟨_,rfl,sm,?_⟩
        rw [h4,Qx hq,if_neg (by rw [hb]; decide)]
    rintro σ H4 ⟨v,rfl,s34,h4⟩
    rw [Ab,List.take_length] at h4
    have hkl:(Xo a b ws).length<=1000:=Nat.le_trans (List.length_filter_le _ _) hwl
    have hkm:∀ q∈Xo a b ws,q∈ws:=λq hq=>(List.mem_filter.mp hq).1
    have h4:H4 D=some (.lst ((Xo a b ws).map nV)):=h4
    generalize Xo a b ws=ks at h4 hkl hkm k
    have s04:=s03.trans s34
    have hd4:=s34 _ _ hd3
    have ho4:=s34 _ _ ho3
    dsimp only [Zs]
    refine ⟨Az _,λtl htl=>?_⟩
    have htl0:=s04.free htl
    have hot:o≠tl:=Zi ho4 htl
    have hDt:D≠tl:=Zi h4 htl
    have s05:Same H (upd H4 tl (.lst [])):=Same.add s04 htl0
    have hs45:Same H4 (upd H4 tl (.lst [])):=Same.new htl
    have h5t:(upd H4 tl (.lst [])) tl=some (.lst ((Y5 M left a b ((Y3 ks).take 0)).map nV)):=Zc
    generalize upd H4 tl (.lst [])=H5 at s05 hs45 h5t
    have hd5:=hs45 _ _ hd4
    have ho5:=hs45 _ _ ho4
    have hk5:=hs45 _ _ h4
    clear hs45 hd4 ho4 h4 s34 hd3 ho3 s03 s04 hD
    dsimp only [Zs]
    refine ⟨_,rfl,_,rfl,D,wI ks,1,rfl,by rw [hk5,Zcl],by rw [G7]; omega,λtr H6 s6 htr h6=>?_⟩
    rw [Zo0] at h6
    have hrt:tr≠tl:=λz=>by rw [z,h5t] at htr; cases htr
    have hrl:=Zkp ks
    have hpair:∀ (i h f:Nat),ks[i]?=some h->(rot ks (1 % ks.length))[i]?=some f->(Y3 ks)[i]?=some (h,f):=λi h f e1 e2=>by unfold Y3; rw [List.getElem?_zip_eq_some]; exact ⟨e1,e2⟩
    have hpl2:=Zix ks
    generalize rot ks (1 % ks.length)=vs at h6 hrl hpair
    have hd6:=s6 _ _ hd5
    have ho6:=s6 _ _ ho5
    have hk6:=s6 _ _ hk5
    refine ⟨D,tr,_,_,rfl,SqL.of hk6,SqL.of h6,?_⟩
    refine Znk (xs:=ks.map nV) (ys:=vs.map nV) (by rw [Ab,Ab,hrl]) (λi σ H7=>∃ (v8 v9 v10:Option V),σ=[some (.ref p),some (.int x),some (.str (wayS left)),some (.ref wd),some (.ref d),some (.ref o),some (.ref D),some (.ref tl),v8,v9,v10]/\Same H H7/\H7 d=some (.dK (glV left a b))/\H7 o=some (.lst ([a,b].map nV))/\H7 D=some (.lst (ks.map nV))/\H7 tr=some (.lst (vs.map nV))/\H7 tl=some (.lst ((Y5 M left a b ((Y3 ks).take i)).map nV))) ⟨none,none,none,rfl,s05.trans s6,hd6,ho6,hk6,h6,s6 _ _ h5t⟩ ?_ ?_ ?_
    · rintro i σ H7 _ ⟨v8,v9,v10,rfl,s7,hd7,ho7,hk7,hr7,ht7⟩
      exact ⟨SqL.of hk7,SqL.of hr7⟩
    · rintro i y z σ H7 q hy hz hq ⟨v8,v9,v10,rfl,s7,hd7,ho7,hk7,hr7,ht7⟩
      obtain ⟨hh,hhe,rfl⟩:=map_some hy
      obtain ⟨f,hfe,rfl⟩:=map_some hz
      have hi:i < ks.length:=(Aa hhe).1
      obtain ⟨m,hm⟩:=hP.has hh (hkm hh (Au hhe))
      have hhM:hh < M.length:=(Aa hm).1
      have emt:mtN M hh=m:=by unfold mtN; rw [Ad,hm]; rfl
      have hlen:=Kc M left a b ((Y3 ks).take i)
      rw [Ai] at hlen
      have hcl:=F9 a b (mvN left a b m) (mvN left a b f)
      have sq:Same H7 (upd H7 q (.tup [nV hh,nV f])):=Same.new hq
      have s8:=s7.trans sq
      have hq8:(upd H7 q (.tup [nV hh,nV f])) q=some (.tup [nV hh,nV f]):=Zc
      have hd8:=sq _ _ hd7
      have ho8:=sq _ _ ho7
      have hk8:=sq _ _ hk7
      have hr8:=sq _ _ hr7
      have ht8:=sq _ _ ht7
      generalize upd H7 q (.tup [nV hh,nV f])=H8 at s8 hq8 hd8 ho8 hk8 hr8 ht8
      clear sq hd7 ho7 hk7 hr7 ht7 s7 hq
      refine ⟨q,_,rfl,SqT.of hq8,rfl,_,_,rfl,_,_,rfl,rfl,?_⟩
      have ta8:=ta.same s8
      obtain ⟨dx,cl,na,sp,mt',oo,ff,bb⟩:=id ta8
      refine ⟨_,rfl,p,dx,_,rfl,bb.ins,Yl _ _ _ _,_,rfl,p,M,ns,hh,rfl,ta8,hMl,λi' y e1 e2=>?_,λz=>absurd (show (0:Int)<=hh/\(hh:Int) < ns.length by omega) z⟩
      have:i'=hh:=by omega
      subst this
      rw [hm] at e2
      cases e2
      refine ⟨_,rfl,.inl ⟨rfl,_,SqL.of ht8⟩,_,rfl,d,rfl,.inl ⟨_,.inl hd8⟩,_,rfl,_,rfl,_,DGet.k (k:=Sum.inl (i':Int)) hd8,tl,_,_,rfl,rfl,ht8,(by rw [Ab,sizeLine_eq]; omega),?_⟩
      rw [Zag]
      have s9:Same H (upd H8 tl (.lst ((Y5 M left a b ((Y3 ks).take i)).map nV ++ [nV (mvN left a b i')]))):=Same.add s8 htl0
      have ht9:(upd H8 tl (.lst ((Y5 M left a b ((Y3 ks).take i)).map nV ++ [nV (mvN left a b i')]))) tl=some (.lst ((Y5 M left a b ((Y3 ks).take i) ++ [mvN left a b i']).map nV)):=by rw [Zc,Aj]; rfl
      have hdt:d≠tl:=λz=>by rw [z,ht8] at hd8; cases hd8
      have hd9:(upd H8 tl (.lst ((Y5 M left a b ((Y3 ks).take i)).map nV ++ [nV (mvN left a b i')]))) d=some (.dK (glV left a b)):=by rw [Zd hdt]; exact hd8
      have ho9:(upd H8 tl (.lst ((Y5 M left a b ((Y3 ks).take i)).map nV ++ [nV (mvN left a b i')]))) o=some (.lst ([a,b].map nV)):=by rw [Zd hot]; exact ho8
      have hk9:(upd H8 tl (.lst ((Y5 M left a b ((Y3 ks).take i)).map nV ++ [nV (mvN left a b i')]))) D=some (.lst (ks.map nV)):=by rw [Zd hDt]; exact hk8
      have hr9:(upd H8 tl (.lst ((Y5 M left a b ((Y3 ks).take i)).map nV ++ [nV (mvN left a b i')]))) tr=some (.lst (vs.map nV)):=by rw [Zd hrt]; exact hr8
      show _
      generalize upd H8 tl (.lst ((Y5 M left a b ((Y3 ks).take i)).map nV ++ [nV (mvN left a b i')]))=H9 at s9 ht9 hd9 ho9 hk9 hr9
      refine ⟨_,rfl,.inl ⟨rfl,_,SqL.of ht9⟩,_,rfl,_,rfl,d,rfl,.inl ⟨_,.inl hd9⟩,_,rfl,_,rfl,_,DGet.k (k:=Sum.inl (m:Int)) hd9,_,rfl,d,rfl,.inl ⟨_,.inl hd9⟩,_,rfl,_,rfl,_,DGet.k (k:=Sum.inl (f:Int)) hd9,?_⟩
      rw [Zl4,Zag]
      refine ⟨o,a,b,mvN left a b m,mvN left a b f,rfl,ho9,λl HA sA hA=>?_⟩
      refine ⟨tl,l,_,_,rfl,rfl,sA _ _ ht9,hA,?_,?_⟩
      · rw [Ab,Ab,Ae,At,sizeLine_eq]; omega
      · refine ⟨_,_,_,rfl,Same.add (s9.trans sA) htl0,by rw [Zd hdt]; exact sA _ _ hd9,by rw [Zd hot]; exact sA _ _ ho9,by rw [Zd hDt]; exact sA _ _ hk9,by rw [Zd hrt]; exact sA _ _ hr9,?_⟩
        rw [Zc,Zgt (hpair i _ f hhe hfe),<- Aj]
        unfold Jk
        rw [emt,List.append_assoc]
        rfl
    · rintro σ H7 ⟨v8,v9,v10,rfl,s7,hd7,ho7,hk7,hr7,ht7⟩
      rw [Ab,List.take_of_length_le (by omega)] at ht7
      exact ⟨_,rfl,k tl H7 s7 htl0 ht7⟩
noncomputable def dI (ks:List Int) (f:Int->Int):List (Key × V):=ks.map λx=>((Sum.inl x:Key),V.int (f x))
theorem Zov {ks:List Int} {f:Int->Int} {y:Int} (h:y∈ks):valV (dI ks f) (Sum.inl y)=some (V.int (f y)):=by unfold dI; rw [Ja,if_pos h]
theorem Zjv {ks:List Int} {f:Int->Int} {y v:Int} (h:y∈ks):putK (dI ks f) (Sum.inl y) (V.int v)=dI ks λx=>if x=y then v else f x:=by
 unfold dI
 rw [Zfr h]
 apply List.map_congr_left
 intro x _
 by_cases c:x=y
 ·simp [c]
 ·simp [c]
theorem Zow {ks:List Int} {f:Int->Int} {y v:Int} (h:y ∉ ks):putK (dI ks f) (Sum.inl y) (V.int v)=dI (ks ++ [y]) λx=>if x=y then v else f x:=by
 unfold dI
 rw [Zap h,Aj]
 congr 1
 ·apply List.map_congr_left
  intro x hx
  have:x≠y:=λz=>h (z ▸ hx)
  simp [this]
 ·simp
theorem Zjw {ks:List Int} {f:Int->Int}:(dI ks f).length=ks.length:=by unfold dI; simp
theorem Zel {ks:List Int} {f g:Int->Int} (h:∀ x∈ks,f x=g x):dI ks f=dI ks g:=by
 unfold dI
 exact List.map_congr_left λx hx=>by rw [h x hx]
theorem Kr (ns:List Int):∀ n,(keys ns n).length<=n
 | 0=>An _
 | n + 1=>by
  have ih:=Kr ns n
  cases h:ns[n]? with
  | none =>
   have:keys ns (n + 1)=keys ns n:=by
    show (match ns[n]? with | some x=>if x∈keys ns n then keys ns n else keys ns n ++ [x] | none=>keys ns n)=_
    rw [h]
   rw [this]; omega
  | some x =>
   rw [W9 h]
   split
   ·omega
   ·rw [Ae,At]; omega
structure OkC (M:List (Option Nat)) (ns:List Int) (g:Int->Int):Prop where
 nn:∀ x∈keys ns ns.length,0<=g x
 rim:∀ (i:Nat) (x:Int),M[i]?=some none->ns[i]?=some x->g x=0
 even:∀ k,3 * k + 2 < ns.length->(g (ns.getD (3 * k) 0) + g (ns.getD (3 * k + 1) 0) + g (ns.getD (3 * k + 2) 0)) % 2=0
 tri:∀ k,3 * k + 2 < ns.length->g (ns.getD (3 * k) 0)<=g (ns.getD (3 * k + 1) 0) + g (ns.getD (3 * k + 2) 0)/\g (ns.getD (3 * k + 1) 0)<=g (ns.getD (3 * k) 0) + g (ns.getD (3 * k + 2) 0)/\g (ns.getD (3 * k + 2) 0)<=g (ns.getD (3 * k) 0) + g (ns.getD (3 * k + 1) 0)
noncomputable def Zp5 (H H':Hp):Prop:=∀ b u,(∀ kvs,u≠.dK kvs)->H b=some u->H' b=some u
theorem Z1.sameD {C:Addr} {H H':Hp} {p:Addr} {M:List (Option Nat)} {ns:List Int} (h:Z1 C H p M ns) (s:Zp5 H H'):Z1 C H' p M ns:=by
 obtain ⟨dx,cl,na,sp,mt,o,f,b⟩:=h
 obtain ⟨ts,r1,r2,r3⟩:=b.rows
 exact ⟨dx,cl,na,sp,mt,o,f,s _ _ (λ_ z=>nomatch z) b.ins,⟨ts,s _ _ (λ_ z=>nomatch z) r1,r2,λk t e=>s _ _ (λ_ z=>nomatch z) (r3 k t e)⟩,s _ _ (λ_ z=>nomatch z) b.names,s _ _ (λ_ z=>nomatch z) b.spots,s _ _ (λ_ z=>nomatch z) b.mates,λx hx=>s _ _ (λ_ z=>nomatch z) (b.at' x hx)⟩
noncomputable def Wx (H:Hp) (c:Addr) (ns:List Int) (g:Int->Int):Prop:=∃ ks:List Int,H c=some (.dK (dI ks g))/\ks.Perm (keys ns ns.length)
theorem Wx.same {H H':Hp} {c:Addr} {ns:List Int} {g:Int->Int} (h:Wx H c ns g) (s:Same H H'):Wx H' c ns g:=by
 obtain ⟨ks,h1,h2⟩:=h
 exact ⟨ks,s _ _ h1,h2⟩
theorem Zn9 {M:List (Option Nat)} {ns:List Int} (td:TD M ns) {x:Int} (hx:x∈keys ns ns.length) (h:Z6 ns x="rim"):∃ a:Nat,M[a]?=some none/\ns[a]?=some x:=by
 rcases Wq td hx with ⟨_,a,e,ma⟩ | ⟨e,_⟩ | ⟨e,_⟩
 ·refine ⟨a,ma,?_⟩
  have:a∈pl ns ns.length x:=by rw [e]; exact List.mem_singleton.mpr rfl
  unfold pl at this
  exact of_decide_eq_true (List.mem_filter.mp this).2
 ·rw [h] at e; exact absurd e (by decide)
 ·rw [h] at e; exact absurd e (by decide)
noncomputable def g3 (ns:List Int) (g:Int->Int) (k:Nat):List Int:=[g (ns.getD (3 * k) 0),g (ns.getD (3 * k + 1) 0),g (ns.getD (3 * k + 2) 0)]
theorem Fz {ns:List Int} {i:Nat} (h:i < ns.length):ns.getD i 0∈keys ns ns.length:=by
 have e:ns[i]?=some (ns.getD i 0):=by rw [Ad,Ac h]; rfl
 exact Xs.mpr ⟨i,h,e⟩
theorem Zpz {ns:List Int} {g:Int->Int} {i j:Nat} {x:V} (h:(row3 ns i)[j]?=some x):∃ z,(3 * i + 2 < ns.length->z∈keys ns ns.length)/\x=V.int z/\(g3 ns g i)[j]?=some (g z):=by
 match j,h with
 | 0,h=>cases h; exact ⟨_,λh=>Fz (by omega),rfl,rfl⟩
 | 1,h=>cases h; exact ⟨_,λh=>Fz (by omega),rfl,rfl⟩
 | 2,h=>cases h; exact ⟨_,λh=>Fz h,rfl,rfl⟩
 | j + 3,h=>simp [row3] at h
theorem Zjl {ns:List Int} {g:Int->Int} {k:Nat} {us:List Addr} (h:some (HO.lst (us.map V.ref))=some (HO.lst ((g3 ns g k).map V.int))):False:=by
 injection h with h
 injection h with h
 cases us with
 | nil=>cases h
 | cons a r=>injection h with h _; cases h
theorem Za0 {H:Hp} {c:Addr} {ks:List Int} {g:Int->Int} {z:Int} (h:H c=some (.dK (dI ks g))) (hz:z∈ks):DGet H c (.int z) (some (.int (g z))):=.inl ⟨_,Sum.inl z,.inl h,rfl,(Zov hz).symm⟩
theorem Zb2 (n:Nat):(List.replicate n false).any id=false:=by
 induction n with
 | zero=>rfl
 | succ n ih=>rw [List.replicate_succ,List.any_cons,ih]; rfl
structure OkN (M:List (Option Nat)) (ns:List Int) (g:Int->Int):Prop where
 nn:∀ x∈keys ns ns.length,0<=g x
 rim:∀ (i:Nat) (x:Int),M[i]?=some none->ns[i]?=some x->g x=0
noncomputable def Zew (C:Addr):Sp:=λvs H Q _=>∃ (p c:Addr) (M:List (Option Nat)) (ns:List Int) (g:Int->Int),vs=[.ref p,.ref c]/\Z1 C H p M ns/\TD M ns/\ns.length < 64/\Wx H c ns g/\OkN M ns g/\∀ H',Same H H'->Q .non H'
noncomputable def Fc (C:Addr):Sp:=λvs H Q _=>∃ (p c:Addr) (M:List (Option Nat)) (ns:List Int) (g:Int->Int),vs=[.ref p,.ref c]/\Z1 C H p M ns/\TD M ns/\ns.length < 64/\Wx H c ns g/\OkC M ns g/\∀ H',Same H H'->Q .non H'
theorem J0:FnScope ["tent","counts","seam","number"] ["tent","counts"] (Zg Um):=Am
theorem Fu (T:Txt w K mg t):FnOk P w K mg base (CXr P w) 3 t.bR t.bX ["tent","counts"] (Zew t.aa):=by
 refine T.cf.F.aR J0 (λ_ _ _ _ H vs Q E hr h=>?_)
 ·obtain ⟨p,c,M,ns,g,rfl,ta,td,h64,⟨ks,hc,hperm⟩,ok,k⟩:=h
  refine ⟨_,(Zf (Z8 (Zm (Ziy hr.units) (Zo (Vz rfl) (by rfl) T.eZ PyProof.Rows.boot_sorted (Za (pv 1) Zb)) (Qn (pv 0) T.ac T.aH.m (Os T) (hr.mono (by decide)) T.aH.b .nil Yz) (Zp _)) Xh Z3)
   (Zh (Ur (Y9 PassesOwn.never rfl (Vp (pv 1) ⟨rfl,rfl,rfl⟩) (Wk rfl (Zx (Zk (i:=2) J0.nd rfl (Or.inl rfl)) (Zx (Zk (i:=3) J0.nd rfl (Or.inl rfl)) Yy))) (Zf (Z8 (Zm Qz (pv 3) Ze (Zp _)) Xh Z3)
   (Zh (Z8 (PW.pt (J1 (Zm J5 (pv 3) Ze (Zp _)) (Je (Zm Ya (Xz (pv 0) T.ac T.ak.m (J6 T) (hr.mono (by decide)) T.ak.b .nil Yz (Za (pv 2) Zb)) Z0 (Zp _))))) Xh Z3))))))),?_⟩
  refine Z2 λnxC hnxC=>?_
  have hkl:ks.length < 64:=by have h1:=hperm.length_eq; have h2:=Kr ns ns.length; omega
  refine ⟨_,rfl,c,_,ks,rfl,.inl hc,(by unfold dI; rw [List.map_map]; rfl),hkl,λl1 out1 hl1 pm1 st1=>?_⟩
  have s1:Same H (upd H l1 (.lst (out1.map V.int))):=Same.new hl1
  have ta1:=ta.same s1
  obtain ⟨dx,cl,na,sp,mt,o,f,B⟩:=id ta1
  refine ⟨_,rfl,p,dx,_,rfl,B.ins,Yl _ _ _ _,p,M,ns,rfl,ta1,h64,λl2 out2 hl2 pm2 st2=>?_⟩
  have s2:Same (upd H l1 (.lst (out1.map V.int))) (upd (upd H l1 (.lst (out1.map V.int))) l2 (.lst (out2.map V.int))):=Same.new hl2
  refine ⟨l1,l2,out1,out2,rfl,rfl,SqL.of (s2 _ _ Zc),SqL.of Zc,_,rfl,?_⟩
  obtain rfl:=Za4 (pm1.trans hperm) pm2 st1 st2
  rw [decide_eq_true rfl]
  refine iteF ?_
  have s12:=s1.trans s2
  generalize upd (upd H l1 (.lst (out1.map V.int))) l2 (.lst (out1.map V.int))=H2 at s12 ⊢
  clear B ta1 s1 s2 pm1 st1 pm2 st2 hl1 hl2
  try dsimp only [Wp]
  refine hnxC _ _ ?_
  have hc2:=s12 _ _ hc
  have ta2:=ta.same s12
  refine ⟨_,rfl,c,_,rfl,.inl ⟨hc2,λo=>?_⟩⟩
  refine Zbs (λi σ H9=>∃ v2 v3:Option V,σ=[some (.ref p),some (.ref c),v2,v3]/\(∀ b u,b≠c->H2 b=some u->H9 b=some u)/\H9 c=some (.frz o (.dK (dI ks g)))) ⟨none,none,rfl,λb u hb e=>by rw [Zd hb]; exact e,Zc⟩ ?_ ?_ ?_
  ·rintro i σ H9 _ ⟨v2,v3,rfl,_,e⟩
   exact e
  ·rintro i k0 x0 σ H9 q hk0 hq ⟨v2,v3,rfl,s9,h9⟩
   obtain ⟨y,hy,rfl,rfl⟩:∃ y,y∈ks/\k0=Sum.inl y/\x0=V.int (g y):=by
    unfold dI at hk0
    rw [Ah] at hk0
    cases e:ks[i]? with
    | none=>rw [e] at hk0; cases hk0
    | some z=>rw [e] at hk0; cases hk0; exact ⟨z,Au e,rfl,rfl⟩
   have hy':y∈keys ns ns.length:=hperm.mem_iff.mp hy
   have sq:Same H9 (upd H9 q (.tup [kV (Sum.inl y),V.int (g y)])):=Same.new hq
   have taq:Z1 t.aa (upd H9 q (.tup [kV (Sum.inl y),V.int (g y)])) p M ns:=(ta2.sameD (λb u hu e=>s9 b u (λz=>by rw [z,hc2] at e; cases e; exact hu _ rfl) e)).same sq
   refine ⟨q,_,rfl,SqT.of Zc,rfl,_,_,rfl,_,_,rfl,rfl,?_⟩
   refine Z2 λnxC hnxC=>?_
   refine ⟨_,rfl,_,_,rfl,rfl,_,rfl,?_⟩
   rw [decide_eq_false (show ¬ g y < 0 from by have:=ok.nn y hy'; omega)]
   refine iteF ?_
   try dsimp only [Wp]
   refine hnxC _ _ ?_
   refine ⟨_,rfl,_,_,rfl,rfl,_,rfl,?_⟩
   have nx9:∀ H',Same (upd H9 q (.tup [kV (Sum.inl y),V.int (g y)])) H'->∃ v2 v3:Option V,[some (.ref p),some (.ref c),some (V.int y),some (V.int (g y))]=[some (.ref p),some (.ref c),v2,v3]/\(∀ b u,b≠c->H2 b=some u->H' b=some u)/\H' c=some (.frz o (.dK (dI ks g))):=λH' s'=>⟨_,_,rfl,λb u hb e=>s' _ _ (sq _ _ (s9 b u hb e)),s' _ _ (sq _ _ h9)⟩
   refine ite2 (λz=>?_) (λ_=>iteF (nx9 _ (Same.refl _)))
   have hg0:0 < g y:=of_decide_eq_true z
   obtain ⟨dx,cl,na,sp,mt,o',f,B⟩:=id taq
   refine ⟨_,rfl,p,dx,_,rfl,B.ins,Yl _ _ _ _,_,rfl,p,M,ns,y,rfl,taq,td,λ_ H' s'=>?_,λz=>absurd hy' z⟩
   refine ⟨rfl,_,rfl,?_⟩
   by_cases e:Z6 ns y="rim"
   ·obtain ⟨a,ma,na⟩:=Zn9 td hy' e
    have:=ok.rim a y ma na
    omega
   ·rw [Ox e]
    exact iteF (nx9 H' s')
  ·rintro σ H9 ⟨v2,v3,rfl,s9,h9⟩
   refine ⟨c,o,_,h9,λo' u z=>?_,?_⟩
   ·have z:H c=some (.frz o' u):=z
    rw [hc] at z; cases z
   ·refine k _ λb u e=>?_
    by_cases hb:b=c
    ·subst hb
     rw [Zc]
     rw [hc] at e; exact e
    ·rw [Zd hb]
     exact s9 b u hb (s12 b u e)
theorem Uj:FnScope ["tent","counts","triples"] ["tent","counts"] (Zg Om):=Am
theorem Uw (T:Txt w K mg t):FnOk P w K mg base (CXr P w) 4 t.cu t.cz ["tent","counts"] (Fc t.aa):=by
  refine T.ba.F.aR Uj (λ_ _ _ _ H vs Q E hr h=>?_)
  · obtain ⟨p,c,M,ns,g,rfl,ta,td,h64,hcnt,ok,k⟩:=h
    have hu:=Ww hr
    refine ⟨_,(Zf (Ys (pcT (Fu T) hr T.cf (Za (pv 0) (Za (pv 1) Zb))))
      (Zf (Wg (ts:=["row"]) (fv:=[("counts",1)]) (i:=2) ⟨rfl,by decide +kernel,by decide +kernel,Yc (by rfl),⟨⟨rfl,rfl,Or.inl rfl⟩,trivial⟩⟩ rfl Uj.nd rfl rfl (by rfl) (Yx (Qn (pv 0) T.ac T.ao.m (J8 T) (hr.mono (by decide)) T.ao.b .nil Yz)) (λ_ _ _ _=>(Zk (i:=0) (show List.Nodup (["row","counts"]:List Str) from by decide +kernel) rfl (Or.inl rfl) (Or.inr rfl))) (λ_ _ _ _=>Yp) (λ_ _ _=>rfl) (λ_ _ _ _ _ _=>Ym (Y4 (ts:=["seam"]) (fv:=[("counts",1)]) ⟨rfl,by decide +kernel,by decide +kernel,Yc (by rfl),⟨⟨rfl,rfl,Or.inl rfl⟩,trivial⟩⟩ rfl (Zav K (pv 0)) (λ_ _ _ _=>(Zk (i:=0) (show List.Nodup (["seam","counts"]:List Str) from by decide +kernel) rfl (Or.inl rfl) (Or.inr rfl))) (λ_ _ _ _=>Yp) (λ_ _ _=>rfl) (λ_ _ _ _ _ _=>Ym (Qp hu (pv 1) (pv 0) (λ_ _=>rfl))))))
      (Zf (Z8 (X9 (Zo (Zbw rfl) (by rfl) T.iO PyProof.Rows.boot_any (Za (Y4 (ts:=["triple"]) (fv:=[]) ⟨rfl,by decide +kernel,by decide +kernel,Yc (by rfl),trivial⟩ rfl (Yx (pv 2)) (λ_ _ _ _=>(Zk (i:=0) (show List.Nodup (["triple"]:List Str) from by decide +kernel) rfl (Or.inl rfl) (Or.inr rfl))) (λ_ _ _ _=>Yp) (λ_ _ _=>rfl) (λ_ _ _ _ _ _=>Ym (Qq Ya (Zj Z4 (Zo (Zac K rfl) (by rfl) T.iQ PyProof.Rows.boot_sum (Za (pv 0) Zb)) Ze) Ze (Zp _)))) Zb))) Xh Z3)
      (Zh (Z8 (X9 (Zo (Zbw rfl) (by rfl) T.iO PyProof.Rows.boot_any (Za (Y4 (ts:=["triple"]) (fv:=[]) ⟨rfl,by decide +kernel,by decide +kernel,Yc (by rfl),trivial⟩ rfl (Yx (pv 2)) (λ_ _ _ _=>(Zk (i:=0) (show List.Nodup (["triple"]:List Str) from by decide +kernel) rfl (Or.inl rfl) (Or.inr rfl))) (λ_ _ _ _=>Yp) (λ_ _ _=>rfl) (λ_ _ _ _ _ _=>Ym (Qq J5 (Zj We Ze (Zo (Zhf K rfl) (by rfl) T.iD PyProof.Rows.boot_max (Za (pv 0) Zb))) (Zo (Zac K rfl) (by rfl) T.iQ PyProof.Rows.boot_sum (Za (pv 0) Zb)) (Zp _)))) Zb))) Xh Z3))))),?_⟩
    refine Z2 λnxC hnxC=>?_
    refine ⟨_,rfl,_,rfl,p,c,M,ns,g,rfl,ta,td,h64,hcnt,⟨ok.nn,ok.rim⟩,λH1 s1=>?_⟩
    refine hnxC _ _ ?_
    have ta1:=ta.same s1
    have hc1:=hcnt.same s1
    obtain ⟨n,n1,n40,hn⟩:=td.n
    have hMl:=td.len
    refine Z2 λnxC hnxC=>?_
    obtain ⟨dx,cl,na,sp,mt,o,f,B⟩:=id ta1
    refine ⟨_,rfl,p,dx,_,rfl,B.ins,Yl _ _ _ _,p,M,ns,rfl,ta1,λlr ts hlr ts1 ts2=>?_⟩
    have s2:Same H1 (upd H1 lr (.lst (ts.map V.ref))):=Same.new hlr
    have h2:(upd H1 lr (.lst (ts.map V.ref))) lr=some (.lst (ts.map V.ref)):=Zc
    have h2t:∀ (k:Nat) (t:Addr),ts[k]?=some t->(upd H1 lr (.lst (ts.map V.ref))) t=some (.tup (row3 ns k)):=λk t e=>s2 _ _ (ts2 k t e)
    generalize upd H1 lr (.lst (ts.map V.ref))=H2 at s2 h2 h2t ⊢
    refine ⟨lr,rfl,⟨_,SqL.of h2⟩,λD hD=>?_⟩
    obtain ⟨ks,hc2,hperm⟩:=hc1.same s2
    clear B ts2 hlr
    have s12:=s1.trans s2
    have htn:ts.length=n:=by omega
    refine Y6 (xs:=ts.map V.ref) (λi σ H3=>∃ (v:Option V) (us:List Addr),σ=[v,some (.ref c)]/\Same H2 H3/\H3 D=some (.lst (us.map V.ref))/\us.length=i/\∀ (k:Nat) (u:Addr),us[k]?=some u->H3 u=some (.lst ((g3 ns g k).map V.int))) ⟨none,[],rfl,Same.new hD,Zc,rfl,λk u e=>by simp at e⟩ ?_ ?_ ?_
    · rintro i σ H3 _ ⟨v,us,rfl,sm,_⟩
      exact SqL.of (sm _ _ h2)
    · rintro i y σ H3 hy ⟨v,us,rfl,sm,h3,hu3,hus⟩
      obtain ⟨q,hq,rfl⟩:=map_some hy
      have hi:i < n:=by rw [<- htn]; exact (Aa hq).1
      dsimp only [Zs,tYes]
      rw [if_pos rfl]
      have hq3:=sm _ _ (h2t i q hq)
      refine ⟨_,rfl,q,rfl,⟨_,SqT.of hq3⟩,λD2 hD2=>?_⟩
      refine Oc (xs:=row3 ns i) (λj σ H4=>∃ (v':Option V),σ=[v',some (.ref c)]/\Same H3 H4/\H4 D2=some (.lst (((g3 ns g i).take j).map V.int))) ⟨none,rfl,Same.new hD2,Zc⟩ ?_ ?_ ?_
      · rintro j σ H4 _ ⟨v',rfl,sm4,h4⟩
        exact SqT.of (sm4 _ _ hq3)
      · rintro j x σ H4 hx ⟨v',rfl,sm4,h4⟩
        dsimp only [Zs,tYes]
        rw [if_pos rfl]
        obtain ⟨z,hz,rfl,hg⟩:=Zpz (g:=g) hx
        have hzk:z∈ks:=hperm.mem_iff.mpr (hz (by omega))
        refine ⟨_,rfl,_,rfl,c,_,rfl,Za0 (sm4 _ _ (sm _ _ hc2)) hzk,?_⟩
        refine ⟨_,h4,?_,_,rfl,Same.add sm4 hD2,?_⟩
        · rw [Ab,Ai]
          exact Zv (by have:(g3 ns g i).length=3:=rfl; omega)
        · rw [Zc,Aw,hg]
          simp
      · rintro σ H4 ⟨v',rfl,sm4,h4⟩
        have h4':H4 D2=some (.lst ((g3 ns g i).map V.int)):=h4
        refine ⟨_,sm4 _ _ h3,(by rw [Ab]; exact Zv (by omega)),_,us ++ [D2],rfl,Same.add (sm.trans sm4) hD,?_,?_,?_⟩
        · rw [Zc]; simp
        · rw [Ae,At,hu3]
        · intro k u z
          by_cases hk:k < us.length
          · rw [Av hk] at z
            have gg:=sm4 _ _ (hus k u z)
            rw [Zd (λe=>by rw [e,sm4 _ _ h3] at gg; exact Zjl gg)]
            exact gg
          · have hk2:k=us.length:=by
              have:=(Aa z).1
              rw [Ae,At] at this
              omega
            subst hk2
            have:u=D2:=by simpa using z.symm
            subst this
            rw [hu3,Zd (λe=>by rw [e,sm4 _ _ h3] at h4'; exact Zjl h4')]
            exact h4'
    rintro σ H3 ⟨v,us,rfl,sm,h3,hu3,hus⟩
    refine hnxC _ _ ?_
    try dsimp only [Zs]
    have hcl:∀ k,k < us.length->3 * k + 2 < ns.length:=λk hk=>by rw [hu3,Ab] at hk; omega
    have hul:us.length<=1000:=by rw [hu3,Ab]; omega
    clear h2 h2t hD
    refine Z2 λnxC hnxC=>?_
    refine ⟨_,rfl,D,rfl,⟨_,SqL.of h3⟩,λD1 hD1=>?_⟩
    refine Y6 (xs:=us.map V.ref) (λi σ H4=>∃ (v:Option V),σ=[v]/\Same H3 H4/\H4 D1=some (.lst ((List.replicate i false).map V.bl))) ⟨none,rfl,Same.new hD1,Zc⟩ ?_ ?_ ?_
    · rintro i σ H4 _ ⟨v,rfl,s4,_⟩
      exact SqL.of (s4 _ _ h3)
    · rintro i y σ H4 hy ⟨v,rfl,s4,h4⟩
      obtain ⟨u,hu0,rfl⟩:=map_some hy
      have hi:i < us.length:=(Aa hu0).1
      dsimp only [Zs,tYes]
      rw [if_pos rfl]
      refine ⟨_,rfl,u,_,rfl,SqL.of (s4 _ _ (hus i u hu0)),_,_,rfl,rfl,(by show (0:Int) < 2; decide),rfl,?_⟩
      have e:(g3 ns g i).sum % 2=0:=by
        have:=ok.even i (hcl i hi)
        simp only [g3,List.sum_cons,List.sum_nil]
        omega
      refine ⟨_,h4,(by rw [Ab,List.length_replicate]; exact Zv (by omega)),_,rfl,Same.add s4 hD1,?_⟩
      rw [Zc,List.replicate_succ',Aj]
      show some (HO.lst (_ ++ [V.bl (decide (V.int ((g3 ns g i).sum % 2)=V.int 1))]))=_
      rw [e]
      rfl
    rintro σ H4 ⟨v,rfl,s4,h4⟩
    refine ⟨D1,_,rfl,SqL.of h4,_,rfl,?_⟩
    rw [Zb2]
    refine iteF ?_
    try dsimp only [Wp]
    refine hnxC _ _ ?_
    have h34:=s4 _ _ h3
    have hus4:∀ (k:Nat) (u:Addr),us[k]?=some u->H4 u=some (.lst ((g3 ns g k).map V.int)):=λk u e=>s4 _ _ (hus k u e)
    have s14:=s12.trans (sm.trans s4)
    clear h3 hus h4 s4 hD1
    refine ⟨_,rfl,D,rfl,⟨_,SqL.of h34⟩,λD1 hD1=>?_⟩
    refine Y6 (xs:=us.map V.ref) (λi σ H5=>∃ (v:Option V),σ=[v]/\Same H4 H5/\H5 D1=some (.lst ((List.replicate i false).map V.bl))) ⟨none,rfl,Same.new hD1,Zc⟩ ?_ ?_ ?_
    · rintro i σ H5 _ ⟨v,rfl,s5,_⟩
      exact SqL.of (s5 _ _ h34)
    · rintro i y σ H5 hy ⟨v,rfl,s5,h5⟩
      obtain ⟨u,hu0,rfl⟩:=map_some hy
      have hi:i < us.length:=(Aa hu0).1
      dsimp only [Zs,tYes]
      rw [if_pos rfl]
      have hu5:=s5 _ _ (hus4 i u hu0)
      refine ⟨_,rfl,u,_,rfl,SqL.of hu5,(by show 0 < 3; decide),λm hm hmx=>?_⟩
      refine ⟨_,_,rfl,rfl,(by show CMul 2 m; exact .inl ⟨by decide,by decide⟩),_,rfl,u,_,rfl,SqL.of hu5,_,_,rfl,rfl,?_⟩
      have e:¬ (g3 ns g i).sum < 2 * m:=by
        obtain ⟨t1,t2,t3⟩:=ok.tri i (hcl i hi)
        simp only [g3,List.sum_cons,List.sum_nil]
        simp only [g3,List.mem_cons,List.not_mem_nil,or_false] at hm
        rcases hm with rfl | rfl | rfl <;> omega
      refine ⟨_,h5,(by rw [Ab,List.length_replicate]; exact Zv (by omega)),_,rfl,Same.add s5 hD1,?_⟩
      rw [Zc,List.replicate_succ',Aj]
      show some (HO.lst (_ ++ [V.bl (decide ((g3 ns g i).sum < 2 * m))]))=_
      rw [decide_eq_false e]
      rfl
    rintro σ H5 ⟨v,rfl,s5,h5⟩
    refine ⟨D1,_,rfl,SqL.of h5,_,rfl,?_⟩
    rw [Zb2]
    refine iteF ?_
    exact k _ (s14.trans s5)
theorem Qv {ns:List Int} {i:Nat} (h:i < ns.length):ns[i]?=some (ns.getD i 0):=by rw [Ad,Ac h]; rfl
theorem Zly {M:List (Option Nat)} {ns:List Int} {f:Nat->Int} {g:Int->Int} (pc:PC M f) (nm:Nm ns f g) (td:TD M ns):OkC M ns g:=by
 have hl:=td.len
 refine ⟨λx hx=>?_,λi x h1 h2=>?_,λk hk=>?_,λk hk=>?_⟩
 ·obtain ⟨i,hi,e⟩:=Xs.mp hx
  rw [nm i x e]
  exact pc.nn i (by omega)
 ·rw [nm i x h2]
  exact pc.rim i h1
 ·rw [nm _ _ (Qv (show 3 * k < ns.length by omega)),nm _ _ (Qv (show 3 * k + 1 < ns.length by omega)),nm _ _ (Qv hk)]
  have:=pc.even (3 * k) (by omega)
  rw [show aN (3 * k)=3 * k + 1 by rw [V1,if_neg (by omega)],show bN (3 * k)=3 * k + 2 by rw [V0,if_pos (by omega)]] at this
  exact this
 ·rw [nm _ _ (Qv (show 3 * k < ns.length by omega)),nm _ _ (Qv (show 3 * k + 1 < ns.length by omega)),nm _ _ (Qv hk)]
  have t1:=pc.tri (3 * k) (by omega)
  have t2:=pc.tri (3 * k + 1) (by omega)
  have t3:=pc.tri (3 * k + 2) (by omega)
  rw [show aN (3 * k)=3 * k + 1 by rw [V1,if_neg (by omega)],show bN (3 * k)=3 * k + 2 by rw [V0,if_pos (by omega)]] at t1
  rw [show aN (3 * k + 1)=3 * k + 2 by rw [V1,if_neg (by omega)],show bN (3 * k + 1)=3 * k by rw [V0,if_neg (by omega)]; omega] at t2
  rw [show aN (3 * k + 2)=3 * k by rw [V1,if_pos (by omega)]; omega,show bN (3 * k + 2)=3 * k + 1 by rw [V0,if_neg (by omega)]; omega] at t3
  exact ⟨by omega,by omega,by omega⟩
noncomputable def n4 (f:Nat->Int) (a b:Nat):List Int:=[f (aN a),f (bN a),f (aN b),f (bN b)]
theorem Zpn {f:Nat->Int} {a b n j:Nat} {x:V} (ha:a < 3 * n) (hb:b < 3 * n) (h:(sqr a b)[j]?=some x):∃ z:Nat,z < 3 * n/\x=.int z/\(n4 f a b)[j]?=some (f z):=by
 obtain ⟨a1,a2⟩:=U5 ha
 obtain ⟨b1,b2⟩:=U5 hb
 unfold sqr at h
 rw [Zae,Zad,Zae,Zad] at h
 match j,h with
 | 0,h=>cases h; exact ⟨_,a1,rfl,rfl⟩
 | 1,h=>cases h; exact ⟨_,a2,rfl,rfl⟩
 | 2,h=>cases h; exact ⟨_,b1,rfl,rfl⟩
 | 3,h=>cases h; exact ⟨_,b2,rfl,rfl⟩
 | j + 4,h=>simp at h
noncomputable def gx (g:Int->Int) (x v:Int):Int->Int:=λy=>if y=x then v else g y
noncomputable def Gm (C:Addr):Sp:=λvs H Q _=>∃ (p c:Addr) (M:List (Option Nat)) (ns:List Int) (f:Nat->Int) (g:Int->Int) (x:Int) (a b:Nat),vs=[.ref p,.ref c,.int x]/\Z1 C H p M ns/\TD M ns/\Wx H c ns g/\Nm ns f g/\Mv M ns x a b/\∀ H',Same H H'->Q (.int (bh f a b)) H'
noncomputable def Go (C:Addr):Sp:=λvs H Q _=>∃ (p c:Addr) (M:List (Option Nat)) (ns:List Int) (f:Nat->Int) (g:Int->Int) (x:Int) (a b:Nat),vs=[.ref p,.ref c,.int x]/\Z1 C H p M ns/\TD M ns/\Wx H c ns g/\Nm ns f g/\Mv M ns x a b /\
 ∀ (l:Addr) (H':Hp),Same H H'->H l=none->(∀ left,Wx H' l (exN left a b ns) (gx g x (bh f a b)))->Q (.ref l) H'
noncomputable def Zh4 (C:Addr):Sp:=λvs H Q _=>∃ (p c:Addr) (M:List (Option Nat)) (ns:List Int) (f:Nat->Int) (g:Int->Int) (x:Int) (a b:Nat),vs=[.ref p,.ref c,.int x]/\Z1 C H p M ns/\TD M ns/\ns.length < 64/\Wx H c ns g/\Nm ns f g/\PC M f/\Mv M ns x a b /\
 ∀ (l:Addr) (H':Hp),Same H H'->H l=none->(∀ left,Wx H' l (exN left a b ns) (gx g x (bh f a b)))->Q (.ref l) H'
theorem X1:FnScope ["tent","counts","seam","a","b","c","d"] ["tent","counts","seam"] (Zg V8):=Am
theorem Gv (T:Txt w K mg t):FnOk P w K mg base (CXr P w) 5 t.bx t.bC ["tent","counts","seam"] (Gm t.aa):=by
  refine T.bI.F.aR X1 (λ_ _ _ _ H vs Q E hr h=>?_)
  · obtain ⟨p,c,M,ns,f,g,x,a,b,rfl,ta,td,hcnt,nm,mv,k⟩:=h
    have hu:=Ww hr
    refine ⟨_,(Zf (Wc (Y4 (ts:=["place"]) (fv:=[("counts",1),("tent",0)]) ⟨rfl,by decide +kernel,by decide +kernel,Yc (by rfl),⟨⟨rfl,rfl,Or.inl rfl⟩,⟨rfl,rfl,Or.inl rfl⟩,trivial⟩⟩ rfl (Zip (pcT (Uc T) hr T.b9 (Za (pv 0) (Za (pv 2) Zb)))) (λ_ _ _ _=>(Zk (i:=0) (show List.Nodup (["place","counts","tent"]:List Str) from by decide +kernel) rfl (Or.inl rfl) (Or.inr rfl))) (λ_ _ _ _=>Yp) (λ_ _ _=>rfl) (λ_ _ _ _ _ _=>Ym (Qp hu (pv 1) (Xz (pv 2) T.ac T.aj.m (J7 T) (hr.mono (by decide)) T.aj.b .nil Yz (Za (pv 0) Zb)) (λ_ _=>rfl)))) (Zis rfl (Zx (Zk (i:=3) X1.nd rfl (Or.inl rfl)) (Zx (Zk (i:=4) X1.nd rfl (Or.inl rfl)) (Zx (Zk (i:=5) X1.nd rfl (Or.inl rfl)) (Zx (Zk (i:=6) X1.nd rfl (Or.inl rfl)) Yy))))))
      (Zh (Zn (Zj Vs (Zo (Zj2 rfl) (by rfl) T.iD PyProof.Rows.boot_max (Za (Zj Yf (pv 3) (pv 5)) (Za (Zj Yf (pv 4) (pv 6)) Zb))) (Qp hu (pv 1) (pv 2) (λ_ _=>rfl)))))),?_⟩
    obtain ⟨hk,hpl⟩:=mv.two td
    obtain ⟨n,n1,n40,hn⟩:=td.n
    have hl:=td.len
    obtain ⟨ha,hb⟩:=mv.lts td
    have hs:Z6 ns x="free":=by unfold Z6; rw [hpl]; exact if_neg mv.ab
    refine Z2 λnxC hnxC=>?_
    refine ⟨_,rfl,_,rfl,p,M,ns,x,rfl,ta,td,λ_ H1 s1=>⟨λe=>absurd (hs.symm.trans e) (by decide),λe=>absurd (hs.symm.trans e) (by decide),λa' b' l e1 e2 e3 e4 hl1 hH=>?_⟩,λz=>absurd hk z⟩
    rw [hpl] at e1
    injection e1 with e5 e6
    injection e6 with e6 _
    subst e5
    subst e6
    have ta1:=ta.same s1
    obtain ⟨ks,hc1,hperm⟩:=hcnt.same s1
    refine ⟨l,rfl,⟨_,SqT.of hH⟩,λD hD=>?_⟩
    refine Oc (xs:=sqr a b) (λj σ H2=>∃ (v:Option V),σ=[v,some (.ref c),some (.ref p)]/\Same H1 H2/\H2 D=some (.lst (((n4 f a b).take j).map V.int))) ⟨none,rfl,Same.new hD,Zc⟩ ?_ ?_ ?_
    · rintro j σ H2 _ ⟨v,rfl,s2,_⟩
      exact SqT.of (s2 _ _ hH)
    · rintro j y σ H2 hy ⟨v,rfl,s2,h2⟩
      dsimp only [Zs,tYes]
      rw [if_pos rfl]
      obtain ⟨z,hz,rfl,hf⟩:=Zpn (f:=f) (n:=n) (by omega) (by omega) hy
      have ta2:=ta1.same s2
      obtain ⟨dx,cl,na,sp,mt,o,ff,B⟩:=id ta2
      have hz':z < ns.length:=by omega
      have ey:=Qv hz'
      have hzk:ns.getD z 0∈ks:=hperm.mem_iff.mpr (Fz hz')
      refine ⟨_,rfl,_,rfl,p,dx,_,rfl,B.ins,Yl _ _ _ _,_,rfl,p,M,ns,z,rfl,ta2,λi y e1 e2=>?_,λq=>absurd ⟨by omega,by omega⟩ q⟩
      obtain rfl:z=i:=by omega
      rw [ey] at e2
      injection e2 with e2
      subst e2
      refine ⟨c,_,rfl,Za0 (s2 _ _ hc1) hzk,?_⟩
      refine ⟨_,h2,?_,_,rfl,Same.add s2 hD,?_⟩
      · rw [Ab,Ai]
        exact Zv (by have:(n4 f a b).length=4:=rfl; omega)
      · rw [Zc,Aw,hf,nm _ _ ey]
        simp
    rintro σ H2 ⟨v,rfl,s2,h2⟩
    have h2':H2 D=some (.lst ((n4 f a b).map V.int)):=h2
    refine ⟨D,_,rfl,SqL.of h2',rfl,_,_,rfl,_,_,rfl,_,_,rfl,_,_,rfl,rfl,?_⟩
    refine hnxC _ _ ?_
    have hxk:x∈ks:=hperm.mem_iff.mpr hk
    refine ⟨_,rfl,_,rfl,_,_,rfl,rfl,_,rfl,_,rfl,_,_,rfl,rfl,_,_,rfl,_,rfl,_,rfl,c,_,rfl,Za0 (s2 _ _ hc1) hxk,_,_,rfl,rfl,?_⟩
    rw [nm a x mv.nm]
    exact k H2 (s1.trans s2)
theorem Vk:FnScope ["tent","counts","seam","behind"] ["tent","counts","seam"] (Zg Ub):=Am
theorem Jt (T:Txt w K mg t):FnOk P w K mg base (CXr P w) 6 t.bz t.bD ["tent","counts","seam"] (Go t.aa):=by
 refine T.aB.F.aR Vk (λ_ _ _ _ H vs Q E hr h=>?_)
 ·obtain ⟨p,c,M,ns,f,g,x,a,b,rfl,ta,td,hcnt,nm,mv,k⟩:=h
  have hu:=Ww hr
  refine ⟨_,(Zf (Zr (i:=3) Vk.nd rfl (Or.inl rfl) (Yb Wt (by rfl) T.cL PySem.Pv.boot_dict (Za (pv 1) Zb)))
   (Zf (Us hu (pv 3) (pv 2) (pcT (Gv T) hr T.bI (Za (pv 0) (Za (pv 1) (Za (pv 2) Zb)))) rfl)
   (Zh (Zn (pv 3))))),?_⟩
  obtain ⟨hk,hpl⟩:=mv.two td
  obtain ⟨ks,hc,hperm⟩:=id hcnt
  refine Z2 λnxC hnxC=>?_
  refine ⟨_,rfl,c,_,rfl,.inl hc,λd hd=>?_⟩
  refine hnxC _ _ ?_
  have s1:Same H (upd H d (.dK (dI ks g))):=Same.new hd
  have h1:(upd H d (.dK (dI ks g))) d=some (.dK (dI ks g)):=Zc
  generalize upd H d (.dK (dI ks g))=H1 at s1 h1 ⊢
  try dsimp only [Zs]
  refine Z2 λnxC hnxC=>?_
  have hxk:x∈ks:=hperm.mem_iff.mpr hk
  refine ⟨_,rfl,_,rfl,_,rfl,p,c,M,ns,f,g,x,a,b,rfl,ta.same s1,td,hcnt.same s1,nm,mv,λH2 s2=>?_⟩
  have h2:=s2 _ _ h1
  refine ⟨_,rfl,_,rfl,d,_,rfl,DPut.k (k:=Sum.inl x) h2 (by rw [Zjw]; exact Zv (by have h3:=hperm.length_eq; have h4:=Kr ns ns.length; obtain ⟨n,n1,n40,hn⟩:=td.n; have:=td.len; omega)),?_⟩
  refine hnxC _ _ ?_
  refine ⟨_,rfl,k d _ (Same.add (s1.trans s2) hd) hd λleft=>⟨ks,?_,hperm.trans (Zna td mv.hM mv.ab left)⟩⟩
  rw [Zc,Zjv hxk]
  rfl
theorem Zic:FnScope ["tent","counts","seam"] ["tent","counts","seam"] (Zg Zlu):=Am
theorem Zoi (T:Txt w K mg t):FnOk P w K mg base (CXr P w) 7 t.hU t.ii ["tent","counts","seam"] (Zh4 t.aa):=by
 refine T.iA.F.aR Zic (λ_ _ _ _ H vs Q E hr h=>?_)
 ·obtain ⟨p,c,M,ns,f,g,x,a,b,rfl,ta,td,h64,hcnt,nm,pc,mv,k⟩:=h
  refine ⟨_,(Zf (Ys (pcT (W4 T) hr T.aD (Za (pv 0) (Za (pv 2) Zb))))
   (Zf (Ys (pcT (Uw T) hr T.ba (Za (pv 0) (Za (pv 1) Zb))))
   (Zh (Zn (pcT (Jt T) hr T.aB (Za (pv 0) (Za (pv 1) (Za (pv 2) Zb)))))))),?_⟩
  obtain ⟨hk,hpl⟩:=mv.two td
  have hs:Z6 ns x="free":=by unfold Z6; rw [hpl]; exact if_neg mv.ab
  refine Z2 λnxC hnxC=>?_
  refine ⟨_,rfl,_,rfl,p,M,ns,x,rfl,ta,td,λ_ H1 s1=>⟨λe=>absurd (hs.symm.trans e) (by decide),λe=>absurd (hs.symm.trans e) (by decide),λ_=>?_⟩,λz=>absurd hk z⟩
  refine hnxC _ _ ?_
  refine Z2 λnxC hnxC=>?_
  refine ⟨_,rfl,_,rfl,p,c,M,ns,g,rfl,ta.same s1,td,h64,hcnt.same s1,Zly pc nm td,λH2 s2=>?_⟩
  refine hnxC _ _ ?_
  have s12:=s1.trans s2
  refine ⟨_,rfl,_,rfl,_,rfl,p,c,M,ns,f,g,x,a,b,rfl,ta.same s12,td,hcnt.same s12,nm,mv,λl H3 s3 hl h=>k l H3 (s12.trans s3) (s12.free hl) h⟩
theorem X2:FnScope ["tent","moves","counts","seam","way","behind"] ["tent","moves","counts"] (Zg K7):=Am
noncomputable def tp (v:Nat × Nat):HO:=.tup [V.int v.1,V.int v.2]
noncomputable def wD (ks:List Int) (ad:Int->Addr):List (Key × V):=ks.map λx=>((Sum.inl x:Key),V.ref (ad x))
noncomputable def WAt (H:Hp) (d:Addr) (ks:List Int) (g:Int->Nat × Nat):Prop:=∃ ad:Int->Addr,H d=some (.dK (wD ks ad))/\∀ x∈ks,H (ad x)=some (tp (g x))
theorem WAt.same {H H':Hp} {d:Addr} {ks:List Int} {g:Int->Nat × Nat} (h:WAt H d ks g) (s:Same H H'):WAt H' d ks g:=by
 obtain ⟨ad,h1,h2⟩:=h
 exact ⟨ad,s _ _ h1,λx hx=>s _ _ (h2 x hx)⟩
theorem WAt.congr {H:Hp} {d:Addr} {ks:List Int} {g g':Int->Nat × Nat} (h:WAt H d ks g) (e:∀ x∈ks,g x=g' x):WAt H d ks g':=by
 obtain ⟨ad,h1,h2⟩:=h
 exact ⟨ad,h1,λx hx=>by rw [<- e x hx]; exact h2 x hx⟩
theorem Uh (ks:List Int) (ad:Int->Addr):(wD ks ad).length=ks.length:=by unfold wD; rw [Ab]
theorem Zhk {ks:List Int} {ad:Int->Addr} {y:Int}:valV (wD ks ad) (Sum.inl y)=if y∈ks then some (V.ref (ad y)) else none:=by unfold wD; rw [Ja]
theorem Zhl {H:Hp} {d:Addr} {ks:List Int} {ad:Int->Addr} {y:Int} (h:Rd H d (.dK (wD ks ad))) (hy:y∈ks):DGet H d (.int y) (some (V.ref (ad y))):=.inl ⟨_,Sum.inl y,h,rfl,by rw [Zhk,if_pos hy]⟩
theorem Zlq {ks:List Int} {ad:Int->Addr} {i:Nat} {k:Key} {v:V} (h:(wD ks ad)[i]?=some (k,v)):∃ y,ks[i]?=some y/\k=Sum.inl y/\v=V.ref (ad y):=by
 unfold wD at h
 rw [Ah] at h
 cases e:ks[i]? with
 | none=>rw [e] at h; cases h
 | some z=>rw [e] at h; cases h; exact ⟨z,rfl,rfl,rfl⟩
theorem WAt.put {H:Hp} {d q:Addr} {ks:List Int} {g:Int->Nat × Nat} {ad:Int->Addr} {y:Int} {v:Nat × Nat} (h1:H d=some (.dK (wD ks ad))) (h2:∀ x∈ks,H (ad x)=some (tp (g x))) (hq:H q=some (tp v)) (hy:y∈ks) :
  WAt (upd H d (.dK (putK (wD ks ad) (Sum.inl y) (V.ref q)))) d ks (putG g y v):=by
 have nd:∀ r u,H r=some (tp u)->r≠d:=λr u h z=>by rw [z,h1] at h; cases h
 refine ⟨λx=>if x=y then q else ad x,?_,λx hx=>?_⟩
 ·rw [Zc]
  unfold wD
  rw [Zfr hy]
  congr 2
  apply List.map_congr_left
  intro x _
  by_cases c:x=y
  ·simp [c]
  ·simp [c]
 ·unfold putG
  show upd H d _ (if x=y then q else ad x)=some (tp (if x=y then v else g x))
  by_cases c:x=y
  ·rw [if_pos c,if_pos c,Zd (nd _ _ hq)]; exact hq
  ·rw [if_neg c,if_neg c,Zd (nd _ _ (h2 x hx))]; exact h2 x hx
theorem WAt.new {H:Hp} {d q:Addr} {ks:List Int} {g:Int->Nat × Nat} {ad:Int->Addr} {y:Int} {v:Nat × Nat} (h1:H d=some (.dK (wD ks ad))) (h2:∀ x∈ks,H (ad x)=some (tp (g x))) (hq:H q=some (tp v)) (hy:y ∉ ks) :
  WAt (upd H d (.dK (putK (wD ks ad) (Sum.inl y) (V.ref q)))) d (ks ++ [y]) (putG g y v):=by
 have nd:∀ r u,H r=some (tp u)->r≠d:=λr u h z=>by rw [z,h1] at h; cases h
 refine ⟨λx=>if x=y then q else ad x,?_,λx hx=>?_⟩
 ·rw [Zc]
  unfold wD
  rw [Zap hy,Aj]
  congr 3
  ·apply List.map_congr_left
   intro x hx
   have:x≠y:=λz=>hy (z ▸ hx)
   simp [this]
  ·simp
 ·unfold putG
  show upd H d _ (if x=y then q else ad x)=some (tp (if x=y then v else g x))
  by_cases c:x=y
  ·rw [if_pos c,if_pos c,Zd (nd _ _ hq)]; exact hq
  ·rw [if_neg c,if_neg c]
   have hx':x∈ks:=by
    rcases List.mem_append.mp hx with z | z
    ·exact z
    ·exact absurd (Af z) c
   rw [Zd (nd _ _ (h2 x hx'))]; exact h2 x hx'
noncomputable def okD (m n:Nat):Prop:=Nat.gcd m n < 2 ^ 8900
theorem Zm4 {m n:Nat} (hm:1<=m) (h:okD m n):Zco (m:Int) (Nat.gcd m n:Nat)/\Zco (n:Int) (Nat.gcd m n:Nat):=by
 have h1:0 < Nat.gcd m n:=Nat.gcd_pos_of_pos_left _ hm
 have h3:(((Nat.gcd m n:Nat):Int)).natAbs.log2 < 9000:=by
  refine Ag (log2_lt (k:=8900) ?_ (by decide)) (by decide)
  rw [Int.natAbs_natCast]
  exact h
 exact ⟨⟨by omega,h3⟩,⟨by omega,h3⟩⟩
theorem Zoj {m n:Nat} (hm:1<=m) (h:m < 2 ^ 8900):okD m n:=Nat.lt_of_le_of_lt (Nat.le_of_dvd hm (Nat.gcd_dvd_left _ _)) h
noncomputable def Zh5:Sp:=λvs H Q _=>∃ a b:Nat,vs=[.int a,.int b]/\Q (.int (Nat.gcd a b:Nat)) H
noncomputable def Gn (EF:Addr):Sp:=λvs H Q E=>∃ a b:Int,vs=[.int a,.int b]/\(1<=a->1<=b->Q .non H)/\(a < 1\/b < 1->E (.ref EF) none H)
noncomputable def Zey (EF:Addr):Sp:=λvs H Q E=>∃ a b:Int,vs=[.int a,.int b]/\(∀ m n:Nat,a=m->b=n->1<=m->1<=n->okD m n/\∀ p,H p=none->Q (.ref p) (upd H p (tp (lowN m n))))/\(a < 1\/b < 1->E (.ref EF) none H)
noncomputable def Zb3 (C:Addr):Sp:=λvs H Q _=>∃ (p:Addr) (M:List (Option Nat)) (ns:List Int),vs=[.ref p]/\Z1 C H p M ns/\TD M ns/\ns.length < 64/\∀ (l:Addr) (H':Hp) (out:List Int),Same H H'->H l=none->H' l=some (.lst (out.map V.int))->out.Pairwise (·<=·)->SwK M ns out->Q (.ref l) H'
noncomputable def Zai (C:Addr):Sp:=λvs H Q _=>∃ (p:Addr) (M:List (Option Nat)) (ns:List Int),vs=[.ref p]/\Z1 C H p M ns/\TD M ns/\ns.length < 64/\∀ (d:Addr) (H':Hp) (ks:List Int),Same H H'->H d=none->WAt H' d ks (λ_=>(1,1))->SwK M ns ks->Q (.ref d) H'
noncomputable def Zh3 (C:Addr):Sp:=λvs H Q _=>∃ (p d:Addr) (M:List (Option Nat)) (ns ks:List Int) (g:Int->Nat × Nat),vs=[.ref p,.ref d]/\Z1 C H p M ns/\TD M ns/\ns.length < 64/\WAt H d ks g/\SwK M ns ks/\(∀ x∈ks,1<=(g x).1/\1<=(g x).2/\(g x).1 < 2 ^ 8900) /\
 ∀ (d':Addr) (H':Hp),Same H H'->H d'=none->WAt H' d' ks (lowG g)->Q (.ref d') H'
noncomputable def Zgj:Sp:=λvs H Q _=>∃ (p q:Addr) (v f:Nat × Nat),vs=[.ref p,.ref q]/\H p=some (tp v)/\H q=some (tp f)/\1<=v.1/\1<=v.2/\Nat.gcd v.1 v.2=1/\1<=f.1/\1<=f.2/\v.1 < 2 ^ 60000/\v.2 < 2 ^ 60000/\f.1 < 2 ^ 4000/\f.2 < 2 ^ 4000/\∀ r,H r=none->Q (.ref r) (upd H r (tp (lw2 v f)))
noncomputable def Oz (C:Addr):Sp:=λvs H Q _=>∃ (p d:Addr) (M:List (Option Nat)) (ns ks:List Int) (g:Int->Nat × Nat) (x:Int) (a b:Nat),vs=[.ref p,.ref d,.int x]/\Z1 C H p M ns/\TD M ns/\ns.length < 64/\WAt H d ks g/\SwK M ns ks/\(∀ y∈ks,1<=(g y).1/\1<=(g y).2/\(g y).1 < 2 ^ 8900/\(g y).2 < 2 ^ 8900)/\Mv M ns x a b/\(lowG g x).1 < 2 ^ 3999/\(lowG g x).2 < 2 ^ 3999 /\
 ∀ (d':Addr) (H':Hp),Same H H'->H d'=none->WAt H' d' ks (strG ks (sqX ns a b) x (lowG g))->Q (.ref d') H'
theorem mulN {m n:Nat} (h1:m < 2 ^ 60000) (h2:n < 2 ^ 60000):IntMulOk (m:Int) (n:Int):=PyProof.Rows.mulOk_of_bits (Zga (k:=60000) (by rw [Int.natAbs_natCast]; exact h1) (by decide)) (Zga (k:=60000) (by rw [Int.natAbs_natCast]; exact h2) (by decide)) (by decide)
theorem Zc8 {M:List (Option Nat)} {ns:List Int} (td:TD M ns) {x:Int} (hx:x∈keys ns ns.length):SwN M ns x ↔ Z6 ns x≠"rim":=by
 constructor
 ·rintro ⟨p,j,h1,h2⟩ e
  rcases Wq td hx with ⟨_,a,e1,ma⟩ | ⟨e',_⟩ | ⟨e',_⟩
  ·have hp:p∈pl ns ns.length x:=Xc.mpr ⟨(Aa h2).1,h2⟩
   rw [e1,List.mem_singleton] at hp
   rw [hp,ma] at h1
   cases h1
  ·exact t_lr (e'.symm.trans e)
  ·exact t_fr (e'.symm.trans e)
 ·intro e
  rcases Wq td hx with ⟨e',_⟩ | ⟨_,a,b,_,e1,ma,_⟩ | ⟨_,a,b,_,e1,ma,_⟩
  ·exact absurd e' e
  ·have hp:a∈pl ns ns.length x:=by rw [e1]; exact List.mem_cons_self
   exact ⟨a,b,ma,(Xc.mp hp).2⟩
  ·have hp:a∈pl ns ns.length x:=by rw [e1]; exact List.mem_cons_self
   exact ⟨a,b,ma,(Xc.mp hp).2⟩
theorem SwK.len {M:List (Option Nat)} {ns ks:List Int} (sw:SwK M ns ks) (td:TD M ns):ks.length<=ns.length:=by
 have e:ks.Perm ((keys ns ns.length).filter λx=>decide (x∈ks)):=(List.perm_ext_iff_of_nodup sw.nd ((Qd ns ns.length).filter _)).mpr λx=>by
  rw [List.mem_filter,decide_eq_true_eq]
  exact ⟨λh=>⟨((sw.mem x).mp h).key td,h⟩,λh=>h.2⟩
 have h1:=e.length_eq
 have h2:=List.length_filter_le (λx=>decide (x∈ks)) (keys ns ns.length)
 have h3:=Vx ns ns.length
 omega
noncomputable def swB (ns:List Int) (x:Int):Bool:=!decide (V.str (Z6 ns x)=V.str "rim")
theorem Zmb {ns:List Int} {x:Int}:swB ns x=true ↔ Z6 ns x≠"rim":=by
 unfold swB
 rw [Bool.not_eq_true',decide_eq_false_iff_not]
 exact ⟨λh e=>h (by rw [e]),λh e=>h (by injection e)⟩
theorem K0 {α:Type} {f:α->Bool} {l:List α} {i:Nat} {x:α} (h:l[i]?=some x):(l.take (i + 1)).filter f=if f x=true then (l.take i).filter f ++ [x] else (l.take i).filter f:=by
 rw [Aw,h,List.filter_append]
 by_cases c:f x=true
 ·simp [c]
 ·simp [c]
theorem Q8:FnScope ["one","other"] ["one","other"] (Zg Vl):=Am
theorem Ky (T:Txt w K mg t):FnOk P w K mg base (CXr P w) 1 t.bf t.bi ["one","other"] Zh5:=by
 refine T.bj.F.aR Q8 (λ_ _ _ _ H vs Q E hr h=>?_)
 ·obtain ⟨a,b,rfl,k⟩:=h
  refine ⟨_,(Zf (Vo PassesOwn.never (U8 (pv 1) (λ_=>rfl)) (Zh (Zob (i:=0) (j:=1) rfl Q8.nd rfl rfl (by decide) rfl rfl (Za (pv 1) (Za (Zj Z4 (pv 0) (pv 1)) Zb)) (by rfl))))
   (Zh (Zn (pv 0)))),?_⟩
  refine ⟨λm σ H1=>∃ a' b':Nat,b'=m/\H1=H/\σ=[some (.int a'),some (.int b')]/\Nat.gcd a' b'=Nat.gcd a b,⟨b,a,b,rfl,rfl,rfl,rfl⟩,?_⟩
  rintro m σ H1 ⟨a',b',rfl,rfl,rfl,e⟩
  refine ⟨_,rfl,_,rfl,?_⟩
  by_cases z:b'=0
  ·subst z
   refine iteF ⟨_,rfl,?_⟩
   rw [Nat.gcd_zero_right] at e
   rw [e]
   exact k
  ·have hz:((b':Int) != 0)=true:=by simp; omega
   rw [hz]
   refine iteT ⟨_,λσ' H' h=>h,?_⟩
   refine ⟨_,rfl,_,rfl,_,rfl,_,_,rfl,rfl,(by show (0:Int) < b'; omega),_,_,rfl,?_⟩
   refine ⟨a' % b',Nat.mod_lt _ (by omega),b',a' % b',rfl,rfl,?_,?_⟩
   ·rw [Int.natCast_emod]; rfl
   ·rw [<- e,Nat.gcd_comm a' b',Nat.gcd_rec b' a',Nat.gcd_comm]
theorem Gq:FnScope ["top","bottom"] ["top","bottom"] (Zg Ua):=Am
theorem Gx (T:Txt w K mg t):FnOk P w K mg base (CXr P w) 1 t.bA t.bE ["top","bottom"] (Gn t.aK):=by
 refine T.bJ.F.aX Gq (λ_ _ _ _ H vs Q E hr h=>?_)
 ·obtain ⟨a,b,rfl,k1,k2⟩:=h
  refine ⟨_,(Zq (Y1 (PW.pt (U7 (Zm Qz (pv 0) Ze (Zp _)) (Vn (Zm Qz (pv 1) Ze (Zp _))))) (Zq (Wa T.fW FBV rfl T.fk rfl (Za Z0 Zb))) X4)),?_⟩
  refine ⟨_,rfl,_,_,rfl,rfl,_,rfl,?_⟩
  refine ite2 (λc=>?_) (λc=>?_)
  ·have c:a < 1:=by simpa using c
   exact iteT ⟨by decide,k2 (.inl c)⟩
  ·have c:¬ a < 1:=by simpa using c
   refine ⟨_,rfl,_,_,rfl,rfl,_,rfl,?_⟩
   refine ite2 (λd=>?_) (λd=>?_)
   ·have d:b < 1:=by simpa using d
    exact ⟨by decide,k2 (.inr d)⟩
   ·have d:¬ b < 1:=by simpa using d
    exact k1 (by omega) (by omega)
theorem K4:FnScope ["top","bottom","measure"] ["top","bottom"] (Zg Fo):=Am
theorem Gh (T:Txt w K mg t):FnOk P w K mg base (CXr P w) 2 t.dX t.eB ["top","bottom"] (Zey t.aK):=by
 refine T.cK.F.aX K4 (λ_ _ _ _ H vs Q E hr h=>?_)
 ·obtain ⟨a,b,rfl,k1,k2⟩:=h
  refine ⟨_,(Zw (Ye (pxT (Gx T) hr T.bJ (Za (pv 0) (Za (pv 1) Zb))))
   (Zw (Z5 (Zr (i:=2) K4.nd rfl (Or.inl rfl) (pcT (Ky T) hr T.bj (Za (pv 0) (Za (pv 1) Zb)))))
   (Zq (Z5 (Zn (Xa (Za (Zj Zd1 (pv 0) (pv 2)) (Za (Zj Zd1 (pv 1) (pv 2)) Zb)))))))),?_⟩
  refine ⟨_,rfl,_,rfl,a,b,rfl,λha hb=>?_,k2⟩
  obtain ⟨m,rfl⟩:∃ m:Nat,a=m:=⟨a.toNat,by omega⟩
  obtain ⟨n,rfl⟩:∃ n:Nat,b=n:=⟨b.toNat,by omega⟩
  obtain ⟨hbg,k⟩:=k1 m n rfl rfl (by omega) (by omega)
  obtain ⟨g1,g2⟩:=Zm4 (m:=m) (n:=n) (by omega) hbg
  refine ⟨_,rfl,_,rfl,m,n,rfl,?_⟩
  dsimp only [Zs]
  refine ⟨_,rfl,_,rfl,_,_,rfl,rfl,g1,_,rfl,_,rfl,_,_,rfl,rfl,g2,(by show 2<=sizeLine; rw [sizeLine_eq]; decide),λp hp=>?_⟩
  exact k p hp
theorem Zb9:FnScope ["tent"] ["tent"] (Zg O5):=Am
theorem Op (T:Txt w K mg t):FnOk P w K mg base (CXr P w) 3 t.cO t.cT ["tent"] (Zb3 t.aa):=by
 refine T.bu.F.aR Zb9 (λ_ _ _ _ H vs Q E hr h=>?_)
 ·obtain ⟨p,M,ns,rfl,ta,td,h64,k⟩:=h
  refine ⟨_,(Zh (Zn (Y4 (ts:=["seam"]) (fv:=[("tent",0)]) ⟨rfl,by decide +kernel,by decide +kernel,Yc (by rfl),⟨⟨rfl,rfl,Or.inl rfl⟩,trivial⟩⟩ rfl (Yx (Qn (pv 0) T.ac T.aH.m (Os T) (hr.mono (by decide)) T.aH.b .nil Yz)) (λ_ _ _ _=>(Zk (i:=0) (show List.Nodup (["seam","tent"]:List Str) from by decide +kernel) rfl (Or.inl rfl) (Or.inr rfl))) (λ_ _ _ _=>(Jw (Zm J4 (Xz (pv 1) T.ac T.ak.m (J6 T) (hr.mono (by decide)) T.ak.b .nil Yz (Za (pv 0) Zb)) Z0 (Zp _)))) (λ_ _ _=>rfl) (λ_ _ _ _ _ _=>Ym (pv 0))))),?_⟩
  obtain ⟨dx,cl,na,sp,mt,o,ff,b⟩:=id ta
  refine ⟨_,rfl,p,dx,_,rfl,b.ins,Yl _ _ _ _,p,M,ns,rfl,ta,h64,λl ks hl1 hpm hst=>?_⟩
  have s1:Same H (upd H l (.lst (ks.map V.int))):=Same.new hl1
  have h1:(upd H l (.lst (ks.map V.int))) l=some (.lst (ks.map V.int)):=Zc
  generalize upd H l (.lst (ks.map V.int))=H1 at s1 h1 ⊢
  have hkl:ks.length<=64:=by rw [hpm.length_eq]; have:=Vx ns ns.length; omega
  refine ⟨l,rfl,⟨_,SqL.of h1⟩,λD hD=>?_⟩
  refine Y6 (xs:=ks.map V.int) (λi σ H3=>∃ v,σ=[v,some (.ref p)]/\Same H1 H3/\H3 D=some (.lst (((ks.take i).filter (swB ns)).map V.int))) ⟨none,rfl,Same.new hD,Zc⟩ ?_ ?_ ?_
  ·rintro i σ H3 _ ⟨v,rfl,s3,h3⟩
   exact SqL.of (s3 _ _ h1)
  ·rintro i x σ H3 hx ⟨v,rfl,s3,h3⟩
   obtain ⟨y,hy,rfl⟩:=map_some hx
   have hyk:y∈keys ns ns.length:=hpm.mem_iff.mp (Au hy)
   have ta3:=(ta.same s1).same s3
   obtain ⟨dx,cl,na,sp,mt,o,ff,b⟩:=id ta3
   dsimp only [Zs]
   refine ⟨_,rfl,p,dx,_,rfl,b.ins,Yl _ _ _ _,_,rfl,p,M,ns,y,rfl,ta3,td,λ_ H4 s4=>?_,λz=>absurd hyk z⟩
   refine ⟨rfl,_,rfl,?_⟩
   show if swB ns y=true then _ else _
   have lt:(((ks.take i).filter (swB ns)).map V.int).length < sizeLine:=by
    rw [Ab]
    have:=List.length_filter_le (swB ns) (ks.take i)
    rw [Ai] at this
    exact Zv (by omega)
   by_cases c:swB ns y=true
   ·rw [if_pos c]
    refine ⟨_,rfl,_,s4 _ _ h3,lt,_,rfl,Same.add (s3.trans s4) hD,?_⟩
    rw [Zc,K0 hy,if_pos c,Aj]
    rfl
   ·rw [if_neg c]
    refine ⟨_,rfl,s3.trans s4,?_⟩
    rw [s4 _ _ h3,K0 hy,if_neg c]
  ·rintro σ H3 ⟨v,rfl,s3,h3⟩
   rw [Ab,List.take_length] at h3
   refine k D H3 _ (s1.trans s3) (s1.free hD) h3 (hst.filter _) ⟨(hpm.nodup_iff.mpr (Qd ns ns.length)).filter _,λx=>?_⟩
   rw [List.mem_filter,hpm.mem_iff,Zmb]
   refine ⟨λzz38=>?_,λh=>⟨h.key td,(Zc8 td (h.key td)).mp h⟩⟩
   obtain ⟨h1,h2⟩:=zz38
   exact (Zc8 td h1).mpr h2
theorem Zam:FnScope ["tent"] ["tent"] (Zg On):=Am
theorem Zax (T:Txt w K mg t):FnOk P w K mg base (CXr P w) 4 t.cv t.cA ["tent"] (Zai t.aa):=by
 refine T.cE.F.aR Zam (λ_ _ _ _ H vs Q E hr h=>?_)
 ·obtain ⟨p,M,ns,rfl,ta,td,h64,k⟩:=h
  have hu:=Ww hr
  refine ⟨_,(Zh (Zn (Zbh (ts:=["seam"]) (fv:=[]) ⟨rfl,by decide +kernel,by decide +kernel,Yc (by rfl),trivial⟩ rfl (Yx (pcT (Op T) hr T.bu (Za (pv 0) Zb))) (λ_ _ _ _=>(Zk (i:=0) (show List.Nodup (["seam"]:List Str) from by decide +kernel) rfl (Or.inl rfl) (Or.inr rfl))) (λ_ _ _ _=>Yp) (λ_ _ _=>rfl) (λ_ _ _ _ _ _=>Ob (pv 0) (Xa (Za Ze (Za Ze Zb))))))),?_⟩
  refine ⟨_,rfl,p,M,ns,rfl,ta,td,h64,λl H1 ks s1 hl1 h1 _ sw=>?_⟩
  have hkl:ks.length<=64:=by
   have:=sw.len td
   omega
  refine ⟨l,rfl,⟨_,SqL.of h1⟩,λD hD=>?_⟩
  refine Y6 (xs:=ks.map V.int) (λi σ H3=>∃ v,σ=[v]/\Same H1 H3/\WAt H3 D (ks.take i) λ_=>(1,1)) ⟨none,rfl,Same.new hD,λ_=>0,Zc,λx hx=>by simp at hx⟩ ?_ ?_ ?_
  ·rintro i σ H3 _ ⟨v,rfl,s3,h3⟩
   exact SqL.of (s3 _ _ h1)
  ·rintro i x σ H3 hx ⟨v,rfl,s3,ad,h3,h4⟩
   obtain ⟨y,hy,rfl⟩:=map_some hx
   dsimp only [Zs,tYes]
   rw [if_pos rfl]
   refine ⟨_,rfl,(by show 2<=sizeLine; rw [sizeLine_eq]; decide),λq hq=>?_⟩
   have sq:Same H3 (upd H3 q (.tup [V.int 1,V.int 1])):=Same.new hq
   have hq':(upd H3 q (.tup [V.int 1,V.int 1])) q=some (tp (1,1)):=Zc
   have hny:y ∉ ks.take i:=λz=>by
    have hi:i < ks.length:=(Aa hy).1
    have nd:=sw.nd
    rw [<- List.take_append_drop i ks,List.nodup_append] at nd
    refine nd.2.2 y z y ?_ rfl
    rw [List.drop_eq_getElem_cons hi,(Aa hy).2]
    exact List.mem_cons_self
   refine ⟨_,Sum.inl y,rfl,sq _ _ h3,(by rw [Uh,Ai]; exact Zv (by omega)),_,rfl,Same.add (s3.trans sq) hD,?_⟩
   rw [Aw,hy]
   have:=WAt.new (g:=λ_=>(1,1)) (v:=(1,1)) (sq _ _ h3) (λx hx=>sq _ _ (h4 x hx)) hq' hny
   exact this.congr λx _=>by unfold putG; split <;> rfl
  ·rintro σ H3 ⟨v,rfl,s3,h3⟩
   rw [Ab,List.take_length] at h3
   exact k D H3 ks (s1.trans s3) (s1.free hD) h3 sw
theorem Gp:FnScope ["tent","worths"] ["tent","worths"] (Zg V9):=Am
theorem Gw (T:Txt w K mg t):FnOk P w K mg base (CXr P w) 4 t.bB t.bF ["tent","worths"] (Zh3 t.aa):=by
 refine T.bK.F.aR Gp (λ_ _ _ _ H vs Q E hr h=>?_)
 ·obtain ⟨p,d,M,ns,ks,g,rfl,ta,td,h64,wa,sw,ok,k⟩:=h
  have hu:=Ww hr
  refine ⟨_,(Zf (Z8 (Zm (Ziy hr.units) (Zo (Vz rfl) (by rfl) T.eZ PyProof.Rows.boot_sorted (Za (pv 1) Zb)) (pcT (Op T) hr T.bu (Za (pv 0) Zb)) (Zp _)) Xh Z3)
   (Zh (Zn (Zmz (Zbh (ts:=["seam","top","bottom"]) (fv:=[]) ⟨rfl,by decide +kernel,by decide +kernel,Yc (by rfl),trivial⟩ rfl (Vp (pv 1) ⟨rfl,rfl,rfl⟩) (λ_ _ _ _=>(Uu (n:=2) K rfl (Zx (Zk (i:=0) (show List.Nodup (["seam","top","bottom"]:List Str) from by decide +kernel) rfl (Or.inl rfl) (Or.inr rfl)) (Zx (Uu (n:=2) K rfl (Zx (Zk (i:=1) (show List.Nodup (["seam","top","bottom"]:List Str) from by decide +kernel) rfl (Or.inl rfl) (Or.inr rfl)) (Zx (Zk (i:=2) (show List.Nodup (["seam","top","bottom"]:List Str) from by decide +kernel) rfl (Or.inl rfl) (Or.inr rfl)) Yy))) Yy)))) (λ_ _ _ _=>Yp) (λ_ _ _=>rfl) (λ_ _ _ _ _ _=>Ob (pv 0) (pcT (Gh T) hr T.cK (Za (pv 1) (Za (pv 2) Zb))))))))),?_⟩
  obtain ⟨ad,hd,had⟩:=id wa
  have hkl:ks.length < 64:=by
   have:=sw.len td
   omega
  refine Z2 λnxC hnxC=>?_
  refine ⟨_,rfl,d,_,ks,rfl,.inl hd,(by unfold wD; rw [List.map_map]; rfl),hkl,λl1 out1 hl1 pm1 st1=>?_⟩
  have s1:Same H (upd H l1 (.lst (out1.map V.int))):=Same.new hl1
  have h1:(upd H l1 (.lst (out1.map V.int))) l1=some (.lst (out1.map V.int)):=Zc
  generalize upd H l1 (.lst (out1.map V.int))=H1 at s1 h1 ⊢
  refine ⟨_,rfl,p,M,ns,rfl,ta.same s1,td,h64,λl2 H2 out2 s2 hl2 h2 st2 sw2=>?_⟩
  refine ⟨l1,l2,out1,out2,rfl,rfl,SqL.of (s2 _ _ h1),SqL.of h2,_,rfl,?_⟩
  obtain rfl:=Za4 pm1 (sw2.perm sw) st1 st2
  rw [decide_eq_true rfl]
  refine iteF ?_
  try dsimp only [Wp]
  refine hnxC _ _ ?_
  have s12:=s1.trans s2
  have hd2:=s12 _ _ hd
  have had2:∀ x∈ks,H2 (ad x)=some (tp (g x)):=λx hx=>s12 _ _ (had x hx)
  clear h1 h2 st1 st2 pm1 sw2 hl2
  refine ⟨_,rfl,d,_,rfl,.inl ⟨hd2,λo=>?_⟩⟩
  intro D hD
  obtain ⟨hDd,hD2⟩:=Xl hD
  have hda:∀ x∈ks,ad x≠d:=λx hx z=>by have:=had2 x hx; rw [z,hd2] at this; cases this
  refine Od (λi σ H3=>∃ v0 v1 v2,σ=[v0,v1,v2]/\(∀ b u,b≠d->H2 b=some u->H3 b=some u)/\H3 d=some (.frz o (.dK (wD ks ad)))/\WAt H3 D (ks.take i) (lowG g)) ⟨none,none,none,rfl,λb u hb e=>by rw [Zd (Zi e hD2),Zd hb]; exact e,by rw [Zd (Ne.symm hDd),Zc],λ_=>0,Zc,λx hx=>by simp at hx⟩ ?_ ?_ ?_
  ·rintro i σ H3 _ ⟨v0,v1,v2,rfl,_,e,_⟩
   exact e
  ·rintro i k0 x0 σ H3 q hk0 hq ⟨v0,v1,v2,rfl,s3,e3,ad3,h3,h4⟩
   obtain ⟨y,hy,rfl,rfl⟩:=Zlq hk0
   have hyk:=Au hy
   obtain ⟨o1,o2,o3⟩:=ok y hyk
   have sq:Same H3 (upd H3 q (.tup [kV (Sum.inl y),V.ref (ad y)])):=Same.new hq
   have hqq:(upd H3 q (.tup [kV (Sum.inl y),V.ref (ad y)])) q=some (.tup [kV (Sum.inl y),V.ref (ad y)]):=Zc
   have hay:(upd H3 q (.tup [kV (Sum.inl y),V.ref (ad y)])) (ad y)=some (tp (g y)):=sq _ _ (s3 _ _ (hda y hyk) (had2 y hyk))
   generalize upd H3 q (.tup [kV (Sum.inl y),V.ref (ad y)])=H4 at sq hqq hay ⊢
   dsimp only [Zs]
   refine ⟨q,_,rfl,SqT.of hqq,rfl,_,_,rfl,_,_,rfl,⟨ad y,_,rfl,SqT.of hay,rfl,_,_,rfl,_,_,rfl,rfl,?_⟩⟩
   refine ⟨rfl,?_⟩
   dsimp only [Zs,tYes]
   rw [if_pos rfl]
   refine ⟨_,rfl,_,rfl,_,rfl,((g y).1:Int),((g y).2:Int),rfl,λm n em en hm hn=>?_,λz=>by omega⟩
   obtain rfl:m=(g y).1:=by omega
   obtain rfl:n=(g y).2:=by omega
   refine ⟨Zoj hm o3,λr hr=>?_⟩
   have sr:Same H4 (upd H4 r (tp (lowN (g y).1 (g y).2))):=Same.new hr
   have hny:y ∉ ks.take i:=λz=>by
    have hi:i < ks.length:=(Aa hy).1
    have nd:=sw.nd
    rw [<- List.take_append_drop i ks,List.nodup_append] at nd
    refine nd.2.2 y z y ?_ rfl
    rw [List.drop_eq_getElem_cons hi,(Aa hy).2]
    exact List.mem_cons_self
   have s34:=sq.trans sr
   refine ⟨_,Sum.inl y,rfl,s34 _ _ h3,(by rw [Uh,Ai]; exact Zv (by omega)),_,_,_,rfl,λb u hb e=>?_,?_,?_⟩
   ·rw [Zd (Zi e hD2)]; exact s34 _ _ (s3 b u hb e)
   ·rw [Zd (Ne.symm hDd)]; exact s34 _ _ e3
   ·rw [Aw,hy]
    have:=WAt.new (g:=lowG g) (v:=lowN (g y).1 (g y).2) (s34 _ _ h3) (λx hx=>s34 _ _ (h4 x hx)) (Zc (H:=H4) (a:=r)) hny
    exact this.congr λx _=>by
     unfold putG
     split
     ·rename_i z; rw [z]; rfl
     ·rfl
  ·rintro σ H3 ⟨v0,v1,v2,rfl,s3,e3,w3⟩
   rw [Uh,List.take_length] at w3
   refine ⟨d,o,_,e3,(λo' u z=>by have z:H d=some (.frz o' u):=z; rw [hd] at z; cases z),?_⟩
   have sF:Same H2 (upd H3 d (.dK (wD ks ad))):=λb u e=>by
    by_cases c:b=d
    ·subst c; rw [hd2] at e; rw [Zc]; exact e
    ·rw [Zd c]; exact s3 b u c e
   refine k D _ (s12.trans sF) (s12.free hD2) ?_
   obtain ⟨ad3,h5,h6⟩:=w3
   exact ⟨ad3,by rw [Zd hDd]; exact h5,λx hx=>by rw [Zd (λz=>by have:=h6 x hx; rw [z,e3] at this; cases this)]; exact h6 x hx⟩
theorem Zgq:FnScope ["one","other"] ["one","other"] (Zg Za8):=Am
theorem Zgw (T:Txt w K mg t):FnOk P w K mg base (CXr P w) 3 t.fq t.fE ["one","other"] Zgj:=by
 refine T.fM.F.aR Zgq (λ_ _ _ _ H vs Q E hr h=>?_)
 ·obtain ⟨p,q,v,f,rfl,hp,hq,v1,v2,co,f1,f2,l1,l2,l3,l4,k⟩:=h
  refine ⟨_,(Zh (Zn (pcT (Gh T) hr T.cK (Za (Zj Zfy (Zu X5 (pv 0) Ze (λ_ _=>rfl)) (Zu X5 (pv 1) Ze (λ_ _=>rfl))) (Za (Zj Zfy (Zu X5 (pv 0) Ze (λ_ _=>rfl)) (Zu X5 (pv 1) Ze (λ_ _=>rfl))) Zb))))),?_⟩
  have l3':f.1 < 2 ^ 60000:=Ag l3 (Nat.pow_le_pow_right (by decide) (by decide))
  have l4':f.2 < 2 ^ 60000:=Ag l4 (Nat.pow_le_pow_right (by decide) (by decide))
  refine ⟨_,rfl,p,_,_,_,rfl,rfl,SqT.of hp,rfl,_,rfl,q,_,_,_,rfl,rfl,SqT.of hq,rfl,_,_,rfl,rfl,mulN l1 l3',?_⟩
  refine ⟨_,rfl,p,_,_,_,rfl,rfl,SqT.of hp,rfl,_,rfl,q,_,_,_,rfl,rfl,SqT.of hq,rfl,_,_,rfl,rfl,mulN l2 l4',?_⟩
  refine ⟨(v.1:Int) * f.1,(v.2:Int) * f.2,rfl,λm n em en hm hn=>?_,λz=>?_⟩
  ·have em:m=v.1 * f.1:=by rw [<- Int.natCast_mul] at em; omega
   have en:n=v.2 * f.2:=by rw [<- Int.natCast_mul] at en; omega
   subst em en
   refine ⟨?_,λr hr=>k r hr⟩
   refine Nat.lt_of_le_of_lt (Zg9 (f:=f) co f1 f2) ?_
   calc f.1 * f.2 < 2 ^ 4000 * 2 ^ 4000:=Nat.mul_lt_mul'' l3 l4
    _=2 ^ 8000:=by rw [<- Nat.pow_add]
    _<=2 ^ 8900:=Nat.pow_le_pow_right (by decide) (by decide)
  ·exfalso
   have p1:=Nat.mul_pos (Ag Nat.one_pos v1) (Ag Nat.one_pos f1)
   have p2:=Nat.mul_pos (Ag Nat.one_pos v2) (Ag Nat.one_pos f2)
   rw [<- Int.natCast_mul,<- Int.natCast_mul] at z
   omega
theorem Y8:FnScope ["tent","worths","seam","behind","top","bottom","more","less","place","factor","name"] ["tent","worths","seam"] (Zg K5):=Am
theorem Kg (T:Txt w K mg t):FnOk P w K mg base (CXr P w) 5 t.aU t.aY ["tent","worths","seam"] (Oz t.aa):=by
 refine T.aZ.F.aR Y8 (λ_ _ _ _ H vs Q E hr h=>?_)
 ·obtain ⟨p,d,M,ns,ks,g,x,a,b,rfl,ta,td,h64,wa,sw,ok,mv,lt1,lt2,k⟩:=h
  have hu:=Ww hr
  refine ⟨_,(Zf (Ys (pcT (W4 T) hr T.aD (Za (pv 0) (Za (pv 2) Zb))))
   (Zf (Zr (i:=3) Y8.nd rfl (Or.inl rfl) (pcT (Gw T) hr T.bK (Za (pv 0) (Za (pv 1) Zb))))
   (Zf (Wc (Qp hu (pv 3) (pv 2) (λ_ _=>rfl)) (Wk rfl (Zx (Zk (i:=4) Y8.nd rfl (Or.inl rfl)) (Zx (Zk (i:=5) Y8.nd rfl (Or.inl rfl)) Yy))))
   (Zf (Zr (i:=6) Y8.nd rfl (Or.inl rfl) (Xa (Za (Zj Yf (pv 4) (pv 5)) (Za (pv 5) Zb))))
   (Zf (Zr (i:=7) Y8.nd rfl (Or.inl rfl) (Xa (Za (pv 4) (Za (Zj Yf (pv 4) (pv 5)) Zb))))
   (Zf (Y9 PassesOwn.never rfl (Zmw rfl T.iE (Za (pcT (Uc T) hr T.b9 (Za (pv 0) (Za (pv 2) Zb))) (Za (Yo (Za (pv 6) (Za (pv 7) (Za (pv 6) (Za (pv 7) Zb))))) Zb))) (Wk rfl (Zx (Zk (i:=8) Y8.nd rfl (Or.inl rfl)) (Zx (Zk (i:=9) Y8.nd rfl (Or.inl rfl)) Yy))) (Zf (Zr (i:=10) Y8.nd rfl (Or.inl rfl) (Xz (pv 0) T.ac T.aj.m (J7 T) (hr.mono (by decide)) T.aj.b .nil Yz (Za (pv 8) Zb)))
   (Zh (Z8 (Zdx (Zof hu (pv 10) (pv 3)) (by with_unfolding_all rfl)) (Zh (Us hu (pv 3) (pv 10) (pcT (Zgw T) hr T.fM (Za (Qp hu (pv 3) (pv 10) (λ_ _=>rfl)) (Za (pv 9) Zb))) rfl)) Z3))))
   (Zf (Us hu (pv 3) (pv 2) (Xa (Za (pv 5) (Za (pv 4) Zb))) rfl)
   (Zh (Zn (pv 3)))))))))),?_⟩
  obtain ⟨ha,hb⟩:=mv.lts td
  obtain ⟨n,n1,n40,hn⟩:=td.n
  have hMl:=td.len
  obtain ⟨hk,hpl⟩:=Zil td mv.hM mv.lt mv.nm
  have hs:Z6 ns x="free":=by unfold Z6; rw [hpl]; exact if_neg mv.ab
  have hxk:x∈ks:=(sw.mem x).mpr ⟨a,b,mv.hM,mv.nm⟩
  refine Z2 λnxC hnxC=>?_
  refine ⟨_,rfl,_,rfl,p,M,ns,x,rfl,ta,td,λ_ H1 s1=>⟨λe=>absurd (hs.symm.trans e) (by decide),λe=>absurd (hs.symm.trans e) (by decide),λ_=>?_⟩,λz=>absurd hk z⟩
  refine hnxC _ _ ?_
  refine Z2 λnxC hnxC=>?_
  refine ⟨_,rfl,_,rfl,p,d,M,ns,ks,g,rfl,ta.same s1,td,h64,wa.same s1,sw,λy hy=>⟨(ok y hy).1,(ok y hy).2.1,(ok y hy).2.2.1⟩,λd' H2 s2 hd' w2=>?_⟩
  refine hnxC _ _ ?_
  try dsimp only [Zs]
  have hd0:H d'=none:=s1.free hd'
  have s12:=s1.trans s2
  obtain ⟨ad,e1,e2⟩:=id w2
  refine Z2 λnxC hnxC=>?_
  refine ⟨_,rfl,_,rfl,d',_,rfl,Zhl (.inl e1) hxk,ad x,_,rfl,SqT.of (e2 x hxk),rfl,_,_,rfl,_,_,rfl,rfl,?_⟩
  refine hnxC _ _ ?_
  try dsimp only [Zs]
  have vx:Val (lowG g x) (g x).1 (g x).2:=Kq (ok x hxk).1 (ok x hxk).2.1
  generalize etu:lowG g x=tu at *
  refine Z2 λnxC hnxC=>?_
  refine ⟨_,rfl,_,rfl,_,_,rfl,rfl,_,rfl,(by show 2<=sizeLine; rw [sizeLine_eq]; decide),λmo hmo=>?_⟩
  refine hnxC _ _ ?_
  have s3:Same H2 (upd H2 mo (.tup [V.int ((tu.1:Int) + tu.2),V.int tu.2])):=Same.new hmo
  have h3:(upd H2 mo (.tup [V.int ((tu.1:Int) + tu.2),V.int tu.2])) mo=some (tp (tu.1 + tu.2,tu.2)):=by rw [Zc]; unfold tp; rw [Int.natCast_add]
  show tSeq _ _ _ _ (upd H2 mo (.tup [V.int ((tu.1:Int) + tu.2),V.int tu.2]))
  generalize upd H2 mo (.tup [V.int ((tu.1:Int) + tu.2),V.int tu.2])=H3 at s3 h3 ⊢
  try dsimp only [Zs]
  refine Z2 λnxC hnxC=>?_
  refine ⟨_,rfl,_,rfl,_,rfl,_,_,rfl,rfl,(by show 2<=sizeLine; rw [sizeLine_eq]; decide),λle hle=>?_⟩
  refine hnxC _ _ ?_
  have s4:Same H3 (upd H3 le (.tup [V.int tu.1,V.int ((tu.1:Int) + tu.2)])):=Same.new hle
  have h4:(upd H3 le (.tup [V.int tu.1,V.int ((tu.1:Int) + tu.2)])) le=some (tp (tu.1,tu.1 + tu.2)):=by rw [Zc]; unfold tp; rw [Int.natCast_add]
  show tSeq _ _ _ _ (upd H3 le (.tup [V.int tu.1,V.int ((tu.1:Int) + tu.2)]))
  generalize upd H3 le (.tup [V.int tu.1,V.int ((tu.1:Int) + tu.2)])=H4 at s4 h4 ⊢
  try dsimp only [Zs]
  have s24:=s3.trans s4
  have h34:=s4 _ _ h3
  have sH4:=s12.trans s24
  clear s3 h3 hmo hle
  refine Zz (λσ H'=>∃ v8 v9 v10,σ=[some (.ref p),some (.ref d),some (.int x),some (.ref d'),some (.int tu.1),some (.int tu.2),some (.ref mo),some (.ref le),v8,v9,v10]/\Same H H'/\WAt H' d' ks (stG ks (sqX ns a b) tu (lowG g) 4)) (λnx hnx=>?_) ?_
  ·refine ⟨_,rfl,_,rfl,p,M,ns,x,rfl,ta.same sH4,td,λ_ H5 s5=>⟨λe=>absurd (hs.symm.trans e) (by decide),λe=>absurd (hs.symm.trans e) (by decide),λa' b' sq e1 e2 e3 e4 e5 e6=>?_⟩,λz=>absurd hk z⟩
   rw [hpl] at e1
   cases e1
   refine ⟨_,rfl,_,rfl,_,rfl,_,rfl,(by show 4<=sizeLine; rw [sizeLine_eq]; decide),λls hls=>?_⟩
   have s6:Same H5 (upd H5 ls (.lst [V.ref mo,V.ref le,V.ref mo,V.ref le])):=Same.new hls
   have h6:(upd H5 ls (.lst [V.ref mo,V.ref le,V.ref mo,V.ref le])) ls=some (.lst [V.ref mo,V.ref le,V.ref mo,V.ref le]):=Zc
   have e7:=s6 _ _ e6
   generalize upd H5 ls (.lst [V.ref mo,V.ref le,V.ref mo,V.ref le])=H6 at s6 h6 e7 ⊢
   have s46:=s5.trans s6
   refine ⟨.t sq,.l ls,_,_,rfl,SqT.of e7,SqL.of h6,?_⟩
   refine Zlk (xs:=sqr a b) (ys:=[V.ref mo,V.ref le,V.ref mo,V.ref le]) rfl (λi σ H'=>∃ v8 v9 v10,σ=[some (.ref p),some (.ref d),some (.int x),some (.ref d'),some (.int tu.1),some (.int tu.2),some (.ref mo),some (.ref le),v8,v9,v10]/\Same H H'/\H' sq=some (.tup (sqr a b))/\H' ls=some (.lst [V.ref mo,V.ref le,V.ref mo,V.ref le])/\H' mo=some (tp (tu.1 + tu.2,tu.2))/\H' le=some (tp (tu.1,tu.1 + tu.2))/\WAt H' d' ks (stG ks (sqX ns a b) tu (lowG g) i)) ⟨_,_,_,rfl,sH4.trans s46,e7,h6,s46 _ _ h34,s46 _ _ h4,w2.same (s24.trans s46)⟩ ?_ ?_ ?_
   ·rintro i σ H' _ ⟨v8,v9,v10,rfl,_,q1,q2,_⟩
    exact ⟨SqT.of q1,SqL.of q2⟩
   ·rintro i x0 y0 σ H7 q hx0 hy0 hq ⟨v8,v9,v10,rfl,s7,q1,q2,q3,q4,w7⟩
    have hi:i < 4:=(Aa hx0).1
    obtain ⟨rfl,fa,rfl,hfa⟩:x0=V.int (sqP a b i:Nat)/\∃ fa,y0=V.ref fa/\H7 fa=some (tp (frc tu i)):=by
     have:i=0\/i=1\/i=2\/i=3:=by omega
     unfold sqr at hx0
     rw [Zae,Zad,Zae,Zad] at hx0
     rcases this with rfl | rfl | rfl | rfl
     ·cases hx0; cases hy0; exact ⟨rfl,mo,rfl,q3⟩
     ·cases hx0; cases hy0; exact ⟨rfl,le,rfl,q4⟩
     ·cases hx0; cases hy0; exact ⟨rfl,mo,rfl,q3⟩
     ·cases hx0; cases hy0; exact ⟨rfl,le,rfl,q4⟩
    have sq8:Same H7 (upd H7 q (.tup [V.int (sqP a b i:Nat),V.ref fa])):=Same.new hq
    have hq8:(upd H7 q (.tup [V.int (sqP a b i:Nat),V.ref fa])) q=some (.tup [V.int (sqP a b i:Nat),V.ref fa]):=Zc
    generalize upd H7 q (.tup [V.int (sqP a b i:Nat),V.ref fa])=H8 at sq8 hq8 ⊢
    have hpt:sqP a b i < M.length:=by rw [hn] at ha hb ⊢; exact Zhw ha hb
    have hnm:=Zlz td hpt
    rw [<- Zhv hi] at hnm
    refine ⟨q,_,rfl,SqT.of hq8,rfl,_,_,rfl,_,_,rfl,rfl,?_⟩
    have s78:=s7.trans sq8
    have ta8:=ta.same s78
    obtain ⟨dx,cl,na,sp,mt,o,ff,B⟩:=id ta8
    refine Z2 λnxC hnxC=>?_
    refine ⟨_,rfl,p,dx,_,rfl,B.ins,Yl _ _ _ _,_,rfl,p,M,ns,_,rfl,ta8,λi' y' z1 z2=>?_,λz=>absurd ⟨by omega,by omega⟩ z⟩
    obtain rfl:sqP a b i=i':=by omega
    rw [hnm] at z2
    cases z2
    refine hnxC _ _ ?_
    try dsimp only [Zs]
    obtain ⟨ad8,e8,e9⟩:=w7.same sq8
    refine ⟨_,rfl,_,rfl,d',_,rfl,.inl ⟨_,Sum.inl ((sqX ns a b).getD i 0),.inl e8,rfl,rfl⟩,_,rfl,?_⟩
    rw [Zhk]
    generalize hxy:(sqX ns a b).getD i 0=y at *
    by_cases hy:y∈ks
    ·rw [if_pos hy]
     refine iteT ?_
     have vy:Val (stG ks (sqX ns a b) tu (lowG g) i y) ((g y).1 * nuN (flg ks (sqX ns a b) y) tu i) ((g y).2 * deN (flg ks (sqX ns a b) y) tu i):=by rw [Fa]; exact Zem (Kq (ok y hy).1 (ok y hy).2.1) vx.p1 vx.p2 i
     have bd:(stG ks (sqX ns a b) tu (lowG g) i y).1 < 2 ^ 60000/\(stG ks (sqX ns a b) tu (lowG g) i y).2 < 2 ^ 60000:=by
      rw [Fa]
      have l0:=Zay (g y).1 (g y).2
      obtain ⟨c1,c2⟩:=Zhe (e:=flg ks (sqX ns a b) y) (tu:=tu) (v:=lowG g y) (B:=2 ^ 8900) (S:=2 ^ 4000) ⟨Nat.le_trans l0.1 (Nat.le_of_lt (ok y hy).2.2.1),Nat.le_trans l0.2 (Nat.le_of_lt (ok y hy).2.2.2)⟩ (by
       have:tu.1 + tu.2 < 2 ^ 3999 + 2 ^ 3999:=Nat.add_lt_add lt1 lt2
       rw [show 2 ^ 3999 + 2 ^ 3999=2 ^ 4000 by rw [<- Nat.two_mul,<- Nat.pow_succ']] at this
       exact Nat.le_of_lt this) (Nat.one_le_two_pow) i
      have cn:cnN (flg ks (sqX ns a b) y) i<=4:=by
       have:∀ (e:Nat->Bool) (j:Nat),cnN e j<=j:=λe j=>by
        induction j with
        | zero=>exact An _
        | succ j ih=>unfold cnN; split <;> omega
       have:=this (flg ks (sqX ns a b) y) i
       omega
      have top:2 ^ 8900 * (2 ^ 4000) ^ cnN (flg ks (sqX ns a b) y) i < 2 ^ 60000:=by
       rw [<- Nat.pow_mul,<- Nat.pow_add]
       exact Nat.pow_lt_pow_right (by decide) (by omega)
      exact ⟨Nat.lt_of_le_of_lt c1 top,Nat.lt_of_le_of_lt c2 top⟩
     obtain ⟨f1,f2⟩:=Zf2 vx.p1 vx.p2 i
     have fl:=Zjm tu i
     have fb:tu.1 + tu.2 < 2 ^ 4000:=by
      have:tu.1 + tu.2 < 2 ^ 3999 + 2 ^ 3999:=Nat.add_lt_add lt1 lt2
      rw [show 2 ^ 3999 + 2 ^ 3999=2 ^ 4000 by rw [<- Nat.two_mul,<- Nat.pow_succ']] at this
      exact this
     refine ⟨_,rfl,_,rfl,d',_,rfl,Zhl (.inl e8) hy,_,rfl,ad8 y,fa,_,frc tu i,rfl,e9 y hy,sq8 _ _ hfa,vy.p1,vy.p2,vy.co,f1,f2,bd.1,bd.2,Nat.lt_of_le_of_lt fl.1 fb,Nat.lt_of_le_of_lt fl.2 fb,λr hr=>?_⟩
     have sr:Same H8 (upd H8 r (tp (lw2 (stG ks (sqX ns a b) tu (lowG g) i y) (frc tu i)))):=Same.new hr
     have hr9:(upd H8 r (tp (lw2 (stG ks (sqX ns a b) tu (lowG g) i y) (frc tu i)))) r=some (tp (lw2 (stG ks (sqX ns a b) tu (lowG g) i y) (frc tu i))):=Zc
     generalize upd H8 r (tp (lw2 (stG ks (sqX ns a b) tu (lowG g) i y) (frc tu i)))=H9 at sr hr9 ⊢
     have hkl:=sw.len td
     refine ⟨_,rfl,_,rfl,d',_,rfl,DPut.k (k:=Sum.inl y) (sr _ _ e8) (by rw [Uh]; exact Zv (by omega)),?_⟩
     have ndt:∀ r u,H9 r=some (.tup u)->r≠d':=λr u h z=>by rw [z,sr _ _ e8] at h; cases h
     have ndl:ls≠d':=λz=>by have:=sr _ _ (sq8 _ _ q2); rw [z,sr _ _ e8] at this; cases this
     have s89:=sq8.trans sr
     refine ⟨_,_,_,rfl,Same.add (s7.trans s89) hd0,?_,?_,?_,?_,?_⟩
     ·rw [Zd (ndt _ _ (s89 _ _ q1))]; exact s89 _ _ q1
     ·rw [Zd ndl]; exact s89 _ _ q2
     ·rw [Zd (ndt _ _ (s89 _ _ q3))]; exact s89 _ _ q3
     ·rw [Zd (ndt _ _ (s89 _ _ q4))]; exact s89 _ _ q4
     ·have:=WAt.put (sr _ _ e8) (λx hx=>sr _ _ (e9 x hx)) hr9 hy
      have est:stG ks (sqX ns a b) tu (lowG g) (i + 1)=putG (stG ks (sqX ns a b) tu (lowG g) i) y (lw2 (stG ks (sqX ns a b) tu (lowG g) i y) (frc tu i)):=by
       conv=>lhs; unfold stG
       rw [hxy,if_pos hy]
      rw [est]
      exact this
    ·rw [if_neg hy]
     refine iteF ⟨_,_,_,rfl,s78,sq8 _ _ q1,sq8 _ _ q2,sq8 _ _ q3,sq8 _ _ q4,?_⟩
     have est:stG ks (sqX ns a b) tu (lowG g) (i + 1)=stG ks (sqX ns a b) tu (lowG g) i:=by
      conv=>lhs; unfold stG
      rw [hxy,if_neg hy]
     rw [est]
     exact w7.same sq8
   ·rintro σ H7 ⟨v8,v9,v10,rfl,s7,q1,q2,q3,q4,w7⟩
    exact hnx _ _ ⟨_,_,_,rfl,s7,w7⟩
  rintro σ H7 ⟨v8,v9,v10,rfl,s7,ad7,e7,e8⟩
  have hkl:=sw.len td
  refine Z2 λnxC hnxC=>?_
  refine ⟨_,rfl,_,rfl,(by show 2<=sizeLine; rw [sizeLine_eq]; decide),λr hr=>?_⟩
  have sr:Same H7 (upd H7 r (.tup [V.int tu.2,V.int tu.1])):=Same.new hr
  have hr9:(upd H7 r (.tup [V.int tu.2,V.int tu.1])) r=some (tp (tu.2,tu.1)):=Zc
  refine ⟨_,rfl,_,rfl,d',_,rfl,DPut.k (k:=Sum.inl x) (sr _ _ e7) (by rw [Uh]; exact Zv (by omega)),?_⟩
  refine hnxC _ _ ?_
  refine ⟨_,rfl,k d' _ (Same.add (s7.trans sr) hd0) hd0 ?_⟩
  have:=WAt.put (sr _ _ e7) (λx hx=>sr _ _ (e8 x hx)) hr9 hxk
  unfold strG
  rw [etu]
  exact this
theorem Yt {t u:TSX} {D:Ends} {R:Value->St->Hp->Prop} {σ:St} {H:Hp} (Post:St->Hp->Prop) (ht:∀ nx:St->Hp->Prop,(∀ σ H,Post σ H->nx σ H)->t { D with nx:=nx } R σ H) (hu:∀ σ H,Post σ H->u D R σ H):Zgf t u D R σ H:=ht (u D R) hu
theorem Ju {H:Hp} {p:Addr} {a b:HO}:upd (upd H p a) p b=upd H p b:=by
 funext c
 by_cases z:c=p
 ·subst z; rw [Zc,Zc]
 ·rw [Zd z,Zd z,Zd z]
noncomputable def V4 (te th po wo:V):List (Str × V):=putF "worths" wo (putF "pools" po (putF "threads" th (putF "tent" te [])))
noncomputable def Jo (be sc st un:Addr):List (Str × V):=putF "undone" (.ref un) (putF "standing" (.ref st) (putF "scene" (.ref sc) (putF "began" (.ref be) [])))
structure HallNew (CT CS CH:Addr) (H:Hp) (p:Addr) (M:List (Option Nat)) (ns:List Int) (dx be sc st un dxs th po wo:Addr) (ks:List Int):Prop where
 ins:H p=some (.ins CH dx (Jo be sc st un))
 tent:Z1 CT H be M ns
 scn:H sc=some (.ins CS dxs (V4 (.ref be) (.ref th) (.ref po) (.ref wo)))
 thr:H th=some (.dK [])
 poo:H po=some (.dK [])
 wor:WAt H wo ks λ_=>(1,1)
 sw:SwK M ns ks
 sta:H st=some (.lst [])
 und:H un=some (.lst [])
noncomputable def OthP (p:Addr) (H H':Hp):Prop:=∀ b u,b≠p->H b=some u->H' b=some u
theorem OthP.trans {p:Addr} {H H1 H':Hp} (s:OthP p H H1) (s1:OthP p H1 H'):OthP p H H':=λb u hb e=>s1 b u hb (s b u hb e)
theorem OthP.of {p:Addr} {H H':Hp} (s:Same H H'):OthP p H H':=λb u _ e=>s b u e
theorem OthP.upd {p:Addr} {H:Hp} {o:HO}:OthP p H (upd H p o):=λb u hb e=>by rw [Zd hb]; exact e
theorem Xq {H H':Hp} {p C dx:Addr} {fs:List (Str × V)} (hp:H p=some (.ins C dx fs)) (s:OthP p H H') {b:Addr} {u:HO} (e:H b=some u) (hu:∀ C dx fs,u≠.ins C dx fs):H' b=some u :=
 s b u (λz=>by rw [z,hp] at e; exact hu _ _ _ (Ax e).symm) e
theorem Yr.oth {H H':Hp} {p C dx r:Addr} {fs:List (Str × V)} {ns:List Int} (h:Yr H r ns) (hp:H p=some (.ins C dx fs)) (s:OthP p H H'):Yr H' r ns:=by
 obtain ⟨ts,h1,h2,h3⟩:=h
 exact ⟨ts,Xq hp s h1 (λ_ _ _ z=>nomatch z),h2,λk q e=>Xq hp s (h3 k q e) (λ_ _ _ z=>nomatch z)⟩
theorem Z1.oth {C0:Addr} {H H':Hp} {p C dx x:Addr} {fs:List (Str × V)} {M:List (Option Nat)} {ns:List Int} (h:Z1 C0 H x M ns) (hp:H p=some (.ins C dx fs)) (hx:x≠p) (s:OthP p H H'):Z1 C0 H' x M ns:=by
 obtain ⟨dt,cl,na,sp,mt,o,f,b⟩:=h
 exact ⟨dt,cl,na,sp,mt,o,f,s _ _ hx b.ins,b.rows.oth hp s,Xq hp s b.names (λ_ _ _ z=>nomatch z),Xq hp s b.spots (λ_ _ _ z=>nomatch z),Xq hp s b.mates (λ_ _ _ z=>nomatch z),λy hy=>Xq hp s (b.at' y hy) (λ_ _ _ z=>nomatch z)⟩
theorem WAt.oth {H H':Hp} {p C dx d:Addr} {fs:List (Str × V)} {ks:List Int} {g:Int->Nat × Nat} (h:WAt H d ks g) (hp:H p=some (.ins C dx fs)) (s:OthP p H H'):WAt H' d ks g:=by
 obtain ⟨ad,h1,h2⟩:=h
 exact ⟨ad,Xq hp s h1 (λ_ _ _ z=>nomatch z),λx hx=>Xq hp s (h2 x hx) (λ_ _ _ z=>nomatch z)⟩
noncomputable def Zb6 (C:Addr):Sp:=λvs H Q _=>∃ (p dx:Addr) (te th po wo:V),vs=[.ref p,te,th,po,wo]/\H p=some (.ins C dx [])/\Q .non (upd H p (.ins C dx (V4 te th po wo)))
noncomputable def Zc4 (CT CS CH:Addr):Sp:=λvs H Q _=>∃ (p r dx:Addr) (M:List (Option Nat)) (ns:List Int),vs=[.ref p,.ref r]/\H p=some (.ins CH dx [])/\Yr H r ns/\TD M ns/\ns.length < 64 /\
 ∀ (H':Hp),OthP p H H'->(∃ be sc st un dxs th po wo ks,HallNew CT CS CH H' p M ns dx be sc st un dxs th po wo ks/\H st=none)->Q .non H'
theorem Zcc:FnScope ["self","tent","threads","pools","worths"] ["self","tent","threads","pools","worths"] (Zg O8):=Am
theorem Ot (T:Txt w K mg t):FnOk P w K mg base (CXr P w) 1 t.bq t.cU ["self","tent","threads","pools","worths"] (Zb6 t.al):=by
 refine T.bv.F.aR Zcc (λ_ _ _ _ H vs Q E hr h=>?_)
 ·obtain ⟨p,dx,te,th,po,wo,rfl,hp,k⟩:=h
  refine ⟨_,(Zf (Wb (pv 0) (pv 1) rfl)
   (Zf (Wb (pv 0) (pv 2) rfl)
   (Zf (Wb (pv 0) (pv 3) rfl)
   (Zh (Wb (pv 0) (pv 4) rfl))))),?_⟩
  have l1:=Xm "tent" te []
  have l2:=Xm "threads" th (putF "tent" te [])
  have l3:=Xm "pools" po (putF "threads" th (putF "tent" te []))
  rw [List.length_nil] at l1
  refine ⟨_,rfl,_,rfl,p,_,dx,_,rfl,hp,T.aG,T.br,by decide,?_⟩
  refine ⟨_,rfl,_,rfl,p,_,dx,_,rfl,Zc,T.aG,T.bG,by omega,?_⟩
  refine ⟨_,rfl,_,rfl,p,_,dx,_,rfl,Zc,T.aG,T.cC,by omega,?_⟩
  refine ⟨_,rfl,_,rfl,p,_,dx,_,rfl,Zc,T.aG,T.b6,by omega,?_⟩
  rw [Ju,Ju,Ju]
  exact k
theorem Zdf:FnScope ["self","rows"] ["self","rows"] (Zg Gg):=Am
theorem Zd5 (T:Txt w K mg t):FnOk P w K mg base (CXr P w) 5 t.bU t.dA ["self","rows"] (Zc4 t.aa t.al t.af):=by
 refine T.dF.F.aR Zdf (λ_ _ _ _ H vs Q E hr h=>?_)
 ·obtain ⟨p,r,dx,M,ns,rfl,hp,hr1,td,h64,k⟩:=h
  refine ⟨_,(Zf (Wb (pv 0) (Qo T.dQ (J9 T) (hr.mono (by decide)) rfl T.dO T.aI.b .nil Yz (Za (pv 1) Zb)) rfl)
   (Zf (Wb (pv 0) (Qo T.gR (Ot T) (hr.mono (by decide)) rfl T.gJ T.bv.b .nil Yz (Za (Y2 (pv 0) rfl) (Za Vr (Za Vr (Za (pcT (Zax T) hr T.cE (Za (Y2 (pv 0) rfl) Zb)) Zb))))) rfl)
   (Zf (Wb (pv 0) (Yo Zb) rfl)
   (Zh (Wb (pv 0) (Yo Zb) rfl))))),?_⟩
  refine ⟨_,rfl,?_⟩
  intro x dt hx hdt hne
  have s0:Same H (upd (upd H dt (.own x)) x (.ins t.aa dt [])):=Same.add (Same.new hdt) hx
  refine ⟨x,r,dt,M,ns,rfl,Zc,hr1.same s0,td,by omega,λH1 old ta=>⟨rfl,?_⟩⟩
  have s1:Same H H1:=λb u e=>old b u (Zi e hx) (s0 b u e)
  refine ⟨_,rfl,p,_,dx,_,rfl,s1 _ _ hp,T.ay,T.bt,by decide,?_⟩
  have l1:=Xm "began" (.ref x) []
  rw [List.length_nil] at l1
  have hp1:=s1 _ _ hp
  have nx:x≠p:=λz=>by rw [z,hp] at hx; cases hx
  have o2:OthP p H1 (upd H1 p (.ins t.af dx (putF "began" (.ref x) []))):=.upd
  have hp2:(upd H1 p (.ins t.af dx (putF "began" (.ref x) []))) p=some (.ins t.af dx (putF "began" (.ref x) [])):=Zc
  have ta2:=ta.oth hp1 nx o2
  have o02:OthP p H _:=(OthP.of s1).trans o2
  generalize upd H1 p (.ins t.af dx (putF "began" (.ref x) []))=H2 at o2 hp2 ta2 o02 ⊢
  clear o2 ta old s1 s0 hp1 hdt hne hr1
  have lk1:(putF "began" (.ref x) []).lookup ("began":Str)=some (.ref x):=by rw [Z7,if_pos rfl]
  refine ⟨_,rfl,p,_,dx,_,_,rfl,hp2,T.ay,T.bt,lk1,?_⟩
  intro th hth po hpo
  obtain ⟨hpt,hpo'⟩:=Xl hpo
  have s3:Same H2 (upd (upd H2 th (.dK [])) po (.dK [])):=Same.add (Same.new hth) hpo'
  have ht3:(upd (upd H2 th (.dK [])) po (.dK [])) th=some (.dK []):=by rw [Zd (Ne.symm hpt),Zc]
  have hq3:(upd (upd H2 th (.dK [])) po (.dK [])) po=some (.dK []):=Zc
  generalize upd (upd H2 th (.dK [])) po (.dK [])=H3 at s3 ht3 hq3 ⊢
  refine ⟨_,rfl,p,_,dx,_,_,rfl,s3 _ _ hp2,T.ay,T.bt,lk1,x,M,ns,rfl,ta2.same s3,td,h64,λwo H4 ks s4 hwo w4 sw=>?_⟩
  intro sc dxs hsc hdxs hne2
  have s5:Same H4 (upd (upd H4 dxs (.own sc)) sc (.ins t.al dxs [])):=Same.add (Same.new hdxs) hsc
  refine ⟨sc,dxs,_,_,_,_,rfl,Zc,rfl,?_⟩
  rw [Ju]
  have s6:Same H4 (upd (upd H4 dxs (.own sc)) sc (.ins t.al dxs (V4 (.ref x) (.ref th) (.ref po) (.ref wo)))):=Same.add (Same.new hdxs) hsc
  have hc6:(upd (upd H4 dxs (.own sc)) sc (.ins t.al dxs (V4 (.ref x) (.ref th) (.ref po) (.ref wo)))) sc=some (.ins t.al dxs (V4 (.ref x) (.ref th) (.ref po) (.ref wo))):=Zc
  generalize upd (upd H4 dxs (.own sc)) sc (.ins t.al dxs (V4 (.ref x) (.ref th) (.ref po) (.ref wo)))=H6 at s6 hc6 ⊢
  clear s5
  have s46:=s4.trans s6
  have s26:=s3.trans s46
  have hp6:=s26 _ _ hp2
  have nsc:sc≠p:=λz=>by rw [z,(s3.trans s4) _ _ hp2] at hsc; cases hsc
  refine ⟨_,rfl,p,_,dx,_,rfl,hp6,T.ay,T.aL,by omega,?_⟩
  have l2:=Xm "scene" (.ref sc) (putF "began" (.ref x) [])
  have o7:OthP p H6 (upd H6 p (.ins t.af dx (putF "scene" (.ref sc) (putF "began" (.ref x) [])))):=.upd
  have hp7:(upd H6 p (.ins t.af dx (putF "scene" (.ref sc) (putF "began" (.ref x) [])))) p=some (.ins t.af dx (putF "scene" (.ref sc) (putF "began" (.ref x) []))):=Zc
  have ta7:=(ta2.same s26).oth hp6 nx o7
  have ht7:=Xq hp6 o7 (s46 _ _ ht3) (λ_ _ _ z=>nomatch z)
  have hq7:=Xq hp6 o7 (s46 _ _ hq3) (λ_ _ _ z=>nomatch z)
  have w7:=(w4.same s6).oth hp6 o7
  have hc7:=o7 _ _ nsc hc6
  have o07:OthP p H _:=(o02.trans (.of s26)).trans o7
  generalize upd H6 p (.ins t.af dx (putF "scene" (.ref sc) (putF "began" (.ref x) [])))=H7 at o7 hp7 ta7 ht7 hq7 w7 hc7 o07 ⊢
  clear o7 hp6 s26 s46 s6 hc6 s4 w4 s3 ht3 hq3 ta2 hp2 o02 hth hpo hpo' hwo hsc hdxs
  refine ⟨Az _,λst hst=>?_⟩
  have hst0:H st=none:=by
   cases e:H st with
   | none=>rfl
   | some u =>
    rw [o07 _ _ (λz=>by rw [z,hp7] at hst; cases hst) e] at hst
    cases hst
  have s8:Same H7 (upd H7 st (.lst [])):=Same.new hst
  have hs8:(upd H7 st (.lst [])) st=some (.lst []):=Zc
  generalize upd H7 st (.lst [])=H8 at s8 hs8 ⊢
  have hp8:=s8 _ _ hp7
  refine ⟨_,rfl,p,_,dx,_,rfl,hp8,T.ay,T.bH,by omega,?_⟩
  have l3:=Xm "standing" (.ref st) (putF "scene" (.ref sc) (putF "began" (.ref x) []))
  have o9:OthP p H8 (upd H8 p (.ins t.af dx (putF "standing" (.ref st) (putF "scene" (.ref sc) (putF "began" (.ref x) []))))):=.upd
  have hp9:(upd H8 p (.ins t.af dx (putF "standing" (.ref st) (putF "scene" (.ref sc) (putF "began" (.ref x) []))))) p=some (.ins t.af dx (putF "standing" (.ref st) (putF "scene" (.ref sc) (putF "began" (.ref x) [])))):=Zc
  have ta9:=(ta7.same s8).oth hp8 nx o9
  have ht9:=Xq hp8 o9 (s8 _ _ ht7) (λ_ _ _ z=>nomatch z)
  have hq9:=Xq hp8 o9 (s8 _ _ hq7) (λ_ _ _ z=>nomatch z)
  have hs9:=Xq hp8 o9 hs8 (λ_ _ _ z=>nomatch z)
  have w9:=(w7.same s8).oth hp8 o9
  have hc9:=o9 _ _ nsc (s8 _ _ hc7)
  have o09:OthP p H _:=(o07.trans (.of s8)).trans o9
  generalize upd H8 p (.ins t.af dx (putF "standing" (.ref st) (putF "scene" (.ref sc) (putF "began" (.ref x) []))))=H9 at o9 hp9 ta9 ht9 hq9 hs9 w9 hc9 o09 ⊢
  clear o9 hp8 s8 hs8 hp7 ta7 ht7 hq7 w7 hc7 o07 hst
  refine ⟨Az _,λun hun=>?_⟩
  have sA:Same H9 (upd H9 un (.lst [])):=Same.new hun
  have hsA:(upd H9 un (.lst [])) un=some (.lst []):=Zc
  generalize upd H9 un (.lst [])=HA at sA hsA ⊢
  have hpA:=sA _ _ hp9
  refine ⟨_,rfl,p,_,dx,_,rfl,hpA,T.ay,T.cD,by omega,?_⟩
  have oB:OthP p HA (upd HA p (.ins t.af dx (Jo x sc st un))):=.upd
  refine k _ ((o09.trans (.of sA)).trans oB) ⟨x,sc,st,un,dxs,th,po,wo,ks,⟨Zc,(ta9.same sA).oth hpA nx oB,oB _ _ nsc (sA _ _ hc9),Xq hpA oB (sA _ _ ht9) (λ_ _ _ z=>nomatch z),Xq hpA oB (sA _ _ hq9) (λ_ _ _ z=>nomatch z),(w9.same sA).oth hpA oB,sw,Xq hpA oB (sA _ _ hs9) (λ_ _ _ z=>nomatch z),Xq hpA oB hsA (λ_ _ _ z=>nomatch z)⟩,hst0⟩
noncomputable def figS (i:Int):Str:=Txt.join (Str.ofString "") [(Str.ofString (toString i))]
noncomputable def Zgm:Sp:=λvs H Q _=>∃ i:Int,vs=[.int i]/\0<=i/\i < 1000000000000000000000000000000000000000000000000000000000000/\∀ H',Same H H'->Q (.str (figS i)) H'
theorem Zp4:(10:Int) ^ 60=1000000000000000000000000000000000000000000000000000000000000:=by decide
theorem Zoy:(2:Nat) ^ 200=1606938044258990275541962092341162602522202993782792835301376:=by decide
theorem Zf4 {i:Int} (h0:0<=i) (h1:i < 1000000000000000000000000000000000000000000000000000000000000):(Str.ofString (toString i)).length<=60:=PyProof.Rows.toString_length_le h0 (by decide) (by rw [Zp4]; exact h1)
theorem U6:FnScope ["number","parts"] ["number"] (Zg Zbf):=Am
theorem Zg3 (T:Txt w K mg t):FnOk P w K mg base (CXr P w) 1 t.ft t.fF ["number"] Zgm:=by
 refine T.fN.F.aR U6 (λ_ _ _ _ H vs Q E hr h=>?_)
 ·obtain ⟨i,rfl,h0,h1,k⟩:=h
  have hu:=Ww hr
  refine ⟨_,(Zf (Zr (i:=1) U6.nd rfl (Or.inl rfl) (Yo Zb))
   (Zf (Vo PassesOwn.never (Zm Zlx (pv 0) (Vf (v:=.int 1000000000000000000000000000000000000000000000000000000000000) rfl T.iC ⟨_,rfl⟩) (Zp _)) (Zf Zkr
   (Zh (Zoc (i:=0) U6.nd rfl (Or.inl rfl) (Vf (v:=.int 1000000000000000000000000000000000000000000000000000000000000) rfl T.iC ⟨_,rfl⟩) Zld))))
   (Zf (Ys (Ws PySem.F.plainAttrs_list PySem.F.slot_list_append PySem.F.type_list_append Xi (pv 1) (Za (Yb Zeo (by rfl) T.iP PySem.Pv.boot_str (Za (pv 0) Zb)) Zb)))
   (Zh (Zn (Zgu rfl T.eY (by rfl) Z0 (Za (pv 1) Zb))))))),?_⟩
  refine Z2 λnxC hnxC=>?_
  refine ⟨Az _,λp hp=>?_⟩
  refine hnxC _ _ ?_
  have s1:Same H (upd H p (.lst [])):=Same.new hp
  have h2:(upd H p (.lst [])) p=some (.lst []):=Zc
  generalize upd H p (.lst [])=H1 at s1 h2 ⊢
  try dsimp only [Zs]
  refine Zz (λσ H'=>σ=[some (.int i),some (.ref p)]/\H'=H1) (λnx hnx=>?_) ?_
  ·refine ⟨λm σ H'=>σ=[some (.int i),some (.ref p)]/\H'=H1,⟨0,rfl,rfl⟩,?_⟩
   rintro m σ H' ⟨rfl,rfl⟩
   refine ⟨_,rfl,_,_,rfl,rfl,_,rfl,?_⟩
   rw [decide_eq_false (by omega)]
   exact iteF (hnx _ _ ⟨rfl,rfl⟩)
  rintro σ H' ⟨rfl,rfl⟩
  have hlog:i.natAbs.log2 < 1920:=by
   rcases Nat.eq_zero_or_pos i.natAbs with z | z
   ·rw [z]; decide
   ·exact (Nat.log2_lt (by omega)).mpr (Ag (by rw [Zoy]; omega:i.natAbs < 2 ^ 200) (Nat.pow_le_pow_right (by decide) (by decide)))
  have hlen:(Str.ofString (toString i)).length<=60:=Zf4 h0 h1
  refine Z2 λnxC hnxC=>?_
  refine ⟨_,rfl,.inl ⟨rfl,_,SqL.of h2⟩,_,rfl,i,rfl,hlog,p,_,_,rfl,rfl,h2,Zv (by decide),?_⟩
  refine hnxC _ _ ?_
  refine ⟨_,rfl,_,rfl,p,[(Str.ofString (toString i))],rfl,SqL.of Zc,by decide,(by show ((Str.ofString (toString i)).length + 0) + 1<=1048576; omega),?_⟩
  exact k _ (Same.add s1 hp)
noncomputable def wV:Str ⊕ Int->V
 | .inl x=>.str x
 | .inr i=>.int i
noncomputable def wS:Str ⊕ Int->Str
 | .inl x=>x
 | .inr i=>figS i
noncomputable def wOk:Str ⊕ Int->Prop
 | .inl _=>True
 | .inr i=>0<=i/\i < 1000000000000000000000000000000000000000000000000000000000000
theorem Zor {i:Int} (h0:0<=i) (h1:i < 1000000000000000000000000000000000000000000000000000000000000):(figS i).length<=60:=by
 have e:figS i=Str.ofString (toString i):=rfl
 rw [e]
 exact Zf4 h0 h1
noncomputable def Zet:Sp:=λvs H Q _=>∃ (a:Addr) (ws:List (Str ⊕ Int)),vs=[.ref a]/\H a=some (.lst (ws.map wV))/\ws.length<=900/\(∀ x∈ws,wOk x)/\((ws.map wS).map (·.length)).sum + ws.length<=1048576/\∀ H',Same H H'->Q (.str (Txt.join (Str.ofString " ") (ws.map wS))) H'
theorem Ze0:FnScope ["words"] ["words"] (Zg Fi):=Am
theorem Ze4 (T:Txt w K mg t):FnOk P w K mg base (CXr P w) 2 t.dY t.eC ["words"] Zet:=by
 refine T.eS.F.aR Ze0 (λ_ _ _ _ H vs Q E hr h=>?_)
 ·obtain ⟨a,ws,rfl,ha,hl,hw,hsum,k⟩:=h
  refine ⟨_,(Zh (Zn (Ws PySem.F.plainAttrs_str PySem.F.slot_str_join PySem.F.type_str_join Zm8 Z0 (Za (Y4 (ts:=["word"]) (fv:=[]) ⟨rfl,by decide +kernel,by decide +kernel,Yc (by rfl),trivial⟩ rfl (Yx (pv 0)) (λ_ _ _ _=>(Zk (i:=0) (show List.Nodup (["word"]:List Str) from by decide +kernel) rfl (Or.inl rfl) (Or.inr rfl))) (λ_ _ _ _=>Yp) (λ_ _ _=>rfl) (λ_ _ _ _ _ _=>Ym (Gs (X9 (Zo (Zep K) (by rfl) T.az PyProof.Rows.boot_isinstance (Za (pv 0) (Za (Vg (v:=.ty "str") (by rfl) T.iP PySem.Pv.boot_str rfl) Zb)))) (pv 0) (pcT (Zg3 T) hr T.fN (Za (pv 0) Zb))))) Zb)))),?_⟩
  refine ⟨rfl,_,rfl,a,rfl,⟨_,SqL.of ha⟩,λD hD=>?_⟩
  refine Y6 (xs:=ws.map wV) (λi σ H6=>∃ v,σ=[v]/\Same H H6/\H6 D=some (.lst (((ws.take i).map wS).map V.str))) ⟨none,rfl,Same.new hD,Zc⟩ ?_ ?_ ?_
  ·rintro i σ H6 _ ⟨v,rfl,s6,_⟩
   exact SqL.of (s6 _ _ ha)
  ·rintro i y σ H6 hy ⟨v,rfl,s6,h6⟩
   rw [Ah] at hy
   obtain ⟨x,hx,rfl⟩:=Option.map_eq_some_iff.mp hy
   have hil:i < ws.length:=(Aa hx).1
   have ok:=hw x (Au hx)
   have lt:(((ws.take i).map wS).map V.str).length < sizeLine:=by rw [Ab,Ab,Ai]; exact Zv (by omega)
   dsimp only [Zs,tYes]
   rw [if_pos rfl]
   cases x with
   | inl y =>
    refine ⟨_,rfl,_,"str",_,true,rfl,TyOf.str y,Vw,_,rfl,iteT ?_⟩
    refine ⟨_,rfl,_,h6,lt,_,rfl,Same.add s6 hD,?_⟩
    rw [Zc,Aw,hx,Aj,Aj]
    rfl
   | inr j =>
    refine ⟨_,rfl,_,"str",_,false,rfl,TyOf.int j,(by rfl),_,rfl,iteF ?_⟩
    refine ⟨_,rfl,j,rfl,ok.1,ok.2,λH7 s7=>?_⟩
    refine ⟨_,s7 _ _ h6,lt,_,rfl,Same.add (s6.trans s7) hD,?_⟩
    rw [Zc,Aw,hx,Aj,Aj]
    rfl
  ·rintro σ H6 ⟨v,rfl,s6,h6⟩
   rw [Ab,List.take_length] at h6
   refine ⟨_,D,ws.map wS,rfl,rfl,SqL.of h6,by decide,?_,k _ s6⟩
   rw [Ab]
   exact hsum
theorem Zpw (be sc st un un':Addr):putF "undone" (.ref un') (Jo be sc st un)=Jo be sc st un':=by first | rfl | decide
theorem Zpx (be sc st un sc':Addr):putF "scene" (.ref sc') (Jo be sc st un)=Jo be sc' st un:=by first | rfl | decide
theorem Zjj (be sc st un:Addr):(Jo be sc st un).length < 1000:=by
 have:(Jo be sc st un).length=4:=rfl
 omega
noncomputable def Zb7 (CH:Addr):Sp:=λvs H Q _=>∃ (p dx be sc st un sc':Addr) (x:Str) (l:List V),vs=[.ref p,.str x,.ref sc']/\H p=some (.ins CH dx (Jo be sc st un))/\H st=some (.lst l)/\l.length<=900 /\
 ∀ (q un':Addr) (H':Hp),H q=none->H un'=none->(∀ b u,b≠p->b≠st->H b=some u->H' b=some u)->H' p=some (.ins CH dx (Jo be sc' st un'))->H' st=some (.lst (l ++ [.ref q]))->H' q=some (.tup [.str x,.ref sc])->H' un'=some (.lst [])->Q .non H'
theorem Zcd:FnScope ["self","text","scene"] ["self","text","scene"] (Zg O9):=Am
theorem Zcj (T:Txt w K mg t):FnOk P w K mg base (CXr P w) 1 t.cQ t.cW ["self","text","scene"] (Zb7 t.af):=by
 refine T.bw.F.aR Zcd (λ_ _ _ _ H vs Q E hr h=>?_)
 ·obtain ⟨p,dx,be,sc,st,un,sc',x,l,rfl,hp,hst,hl,k⟩:=h
  refine ⟨_,(Zf (Ys (Ws PySem.F.plainAttrs_list PySem.F.slot_list_append PySem.F.type_list_append Xi (Y2 (pv 0) rfl) (Za (Xa (Za (pv 1) (Za (Y2 (pv 0) rfl) Zb))) Zb)))
   (Zf (Wb (pv 0) (Yo Zb) rfl)
   (Zh (Wb (pv 0) (pv 2) rfl)))),?_⟩
  have hps:p≠st:=λz=>by rw [z,hst] at hp; cases hp
  refine Z2 λnxC hnxC=>?_
  refine ⟨_,rfl,p,_,dx,_,.ref st,rfl,hp,T.ay,T.bH,rfl,.inl ⟨rfl,_,SqL.of hst⟩,_,rfl,_,rfl,p,_,dx,_,.ref sc,rfl,hp,T.ay,T.aL,rfl,(by show 2<=sizeLine; decide),λq hq=>?_⟩
  have s1:Same H (upd H q (.tup [V.str x,V.ref sc])):=Same.new hq
  have h1:(upd H q (.tup [V.str x,V.ref sc])) q=some (.tup [V.str x,V.ref sc]):=Zc
  refine ⟨st,_,_,rfl,rfl,s1 _ _ hst,Zv (by omega),?_⟩
  refine hnxC _ _ ?_
  generalize upd H q (.tup [V.str x,V.ref sc])=H1 at s1 h1 ⊢
  have hqs:q≠st:=λz=>by rw [z,hst] at hq; cases hq
  have hqp:q≠p:=λz=>by rw [z,hp] at hq; cases hq
  have p2:(upd H1 st (.lst (l ++ [V.ref q]))) p=some (.ins t.af dx (Jo be sc st un)):=by rw [Zd hps]; exact s1 _ _ hp
  have q2:(upd H1 st (.lst (l ++ [V.ref q]))) q=some (.tup [V.str x,V.ref sc]):=by rw [Zd hqs]; exact h1
  have t2:(upd H1 st (.lst (l ++ [V.ref q]))) st=some (.lst (l ++ [V.ref q])):=Zc
  have o2:∀ b u,b≠p->b≠st->H b=some u->(upd H1 st (.lst (l ++ [V.ref q]))) b=some u:=λb u _ h2 e=>by rw [Zd h2]; exact s1 _ _ e
  generalize upd H1 st (.lst (l ++ [V.ref q]))=H2 at p2 q2 t2 o2 ⊢
  refine Z2 λnxC hnxC=>?_
  refine ⟨Az _,λun' hun=>?_⟩
  have s3:Same H2 (upd H2 un' (.lst [])):=Same.new hun
  have u3:(upd H2 un' (.lst [])) un'=some (.lst []):=Zc
  have hun0:H un'=none:=by
   cases e:H un' with
   | none=>rfl
   | some u =>
    have hne1:un'≠p:=λz=>by rw [z,p2] at hun; cases hun
    have hne2:un'≠st:=λz=>by rw [z,t2] at hun; cases hun
    rw [o2 _ _ hne1 hne2 e] at hun
    cases hun
  refine ⟨_,rfl,p,_,dx,_,rfl,s3 _ _ p2,T.ay,T.cD,Zjj _ _ _ _,?_⟩
  rw [Zpw]
  refine hnxC _ _ ?_
  have hup:un'≠p:=λz=>by rw [z,p2] at hun; cases hun
  refine ⟨_,rfl,_,rfl,p,_,dx,_,rfl,Zc,T.ay,T.aL,Zjj _ _ _ _,?_⟩
  rw [Zpx,Ju]
  refine k q un' _ hq hun0 (λb u b1 b2 e=>?_) Zc ?_ ?_ ?_
  ·rw [Zd b1]; exact s3 _ _ (o2 b u b1 b2 e)
  ·rw [Zd (Ne.symm hps)]; exact s3 _ _ t2
  ·rw [Zd hqp]; exact s3 _ _ q2
  ·rw [Zd hup]; exact u3
inductive Tg | lo | ri | se | wa
noncomputable def Tg.cls (t:Adr):Tg->Addr
 | .lo=>t.am | .ri=>t.aV | .se=>t.ai | .wa=>t.ax
noncomputable def Tg.txt:Tg->Str
 | .lo=>"locked" | .ri=>"rim" | .se=>"no seam" | .wa=>"no way"
noncomputable def Xb (ns:List Int) (x:Int):Option Tg:=if x∈keys ns ns.length then (if Z6 ns x="rim" then some .ri else if Z6 ns x="locked" then some .lo else none) else some .se
noncomputable def Yh (ns:List Int) (x:Int) (way:Str):Option Tg:=if way="left"\/way="right" then Xb ns x else some .wa
theorem Jv {ns:List Int} {x:Int} (h:x∈keys ns ns.length) (e:Z6 ns x="rim"):Xb ns x=some .ri:=by unfold Xb; rw [if_pos h,if_pos e]
theorem Jc {ns:List Int} {x:Int} (h:x∈keys ns ns.length) (e:Z6 ns x="locked"):Xb ns x=some .lo:=by unfold Xb; rw [if_pos h,if_neg (by rw [e]; decide),if_pos e]
theorem Jd {ns:List Int} {x:Int} (h:x∈keys ns ns.length) (e:Z6 ns x="free"):Xb ns x=none:=by unfold Xb; rw [if_pos h,if_neg (by rw [e]; decide),if_neg (by rw [e]; decide)]
theorem Qh {ns:List Int} {x:Int} (h:x ∉ keys ns ns.length):Xb ns x=some .se:=by unfold Xb; rw [if_neg h]
theorem Zaz {M:List (Option Nat)} {ns:List Int} (td:TD M ns) {x:Int} {a b:Nat} (e:pl ns ns.length x=[a,b]) (h3:a / 3≠b / 3):x∈keys ns ns.length/\Z6 ns x="free":=by
 have hm:a∈pl ns ns.length x:=by rw [e]; exact List.mem_cons_self
 obtain ⟨hi,hx⟩:=Xc.mp hm
 refine ⟨Xs.mpr ⟨a,hi,hx⟩,?_⟩
 unfold Z6
 rw [e]
 exact if_neg h3
theorem Vh {M:List (Option Nat)} {ns:List Int} (td:TD M ns) {x:Int} (h:Xb ns x=none):∃ a b,Mv M ns x a b:=by
 by_cases hx:x∈keys ns ns.length
 ·rcases Wq td hx with ⟨e,_⟩ | ⟨e,_⟩ | ⟨e,a,b,hab,hp,hm,h3⟩
  ·rw [Jv hx e] at h; cases h
  ·rw [Jc hx e] at h; cases h
  ·have hm':a∈pl ns ns.length x:=by rw [hp]; exact List.mem_cons_self
   exact ⟨a,b,hm,hab,(Xc.mp hm').2,h3⟩
 ·rw [Qh hx] at h; cases h
theorem Zm7 {M:List (Option Nat)} {ns:List Int} (td:TD M ns) {x:Int} {a b:Nat} (g:Mv M ns x a b):Xb ns x=none:=by
 obtain ⟨hk,hp⟩:=g.two td
 exact Jd hk (Zaz td hp g.ab).2
theorem Js {t:Adr} {M:List (Option Nat)} {ns:List Int} {x:Int} {way:Str} {H:Hp} {E:XK} {G:Nat->Nat->Hp->Prop} (td:TD M ns) (h:∀ H' g,Same H H'->Yh ns x way=some g->E (.ref (g.cls t)) none H')
  (hg:Yh ns x way=none->∀ a b H',Same H H'->Mv M ns x a b->G a b H'):Wrong t.ax t.ai t.aV t.am M ns x way H E G:=by
 refine ⟨λz=>h H .wa (Same.refl _) (by unfold Yh; rw [if_neg z]),λz hx=>h H .se (Same.refl _) ?_,λz H' s' hx e=>h H' .ri s' ?_,λz H' s' hx e=>h H' .lo s' ?_,λz a b H' s' e hab hm h3=>hg ?_ a b H' s' ⟨hm,hab,?_,h3⟩⟩
 rotate_right
 ·have hm':a∈pl ns ns.length x:=by rw [e]; exact List.mem_cons_self
  exact (Xc.mp hm').2
 all_goals unfold Yh; rw [if_pos z]
 ·exact Qh hx
 ·exact Jv hx e
 ·exact Jc hx e
 ·obtain ⟨h1,h2⟩:=Zaz td e h3
  exact Jd h1 h2
theorem Vj {ns:List Int} {x:Int} {way:Str} (h:Yh ns x way=none):way=wayS (isL way)/\Xb ns x=none:=by
 unfold Yh at h
 by_cases c:way="left"\/way="right"
 ·rw [if_pos c] at h
  refine ⟨?_,h⟩
  rcases c with rfl | rfl <;> rfl
 ·rw [if_neg c] at h; cases h
noncomputable def Jj (H:Hp) (l:Addr) (mv:List (Int × Str)):Prop:=∃ ts:List Addr,H l=some (.lst (ts.map V.ref))/\ts.length=mv.length/\∀ (k:Nat) (t:Addr) (q:Int × Str),ts[k]?=some t->mv[k]?=some q->H t=some (.tup [.int q.1,.str q.2])
theorem Jj.same {H H':Hp} {l:Addr} {mv:List (Int × Str)} (h:Jj H l mv) (s:Same H H'):Jj H' l mv:=by
 obtain ⟨ts,h1,h2,h3⟩:=h
 exact ⟨ts,s _ _ h1,h2,λk t q e1 e2=>s _ _ (h3 k t q e1 e2)⟩
inductive RunM:List (Option Nat)->List Int->List (Int × Str)->Option Tg->Prop
 | nil {M:List (Option Nat)} {ns:List Int}:RunM M ns [] none
 | bad {M:List (Option Nat)} {ns:List Int} {x:Int} {way:Str} {g:Tg} {r:List (Int × Str)}:Yh ns x way=some g->RunM M ns ((x,way) :: r) (some g)
 | ok {M:List (Option Nat)} {ns:List Int} {x:Int} {way:Str} {a b:Nat} {r:List (Int × Str)} {o:Option Tg}:Yh ns x way=none->Mv M ns x a b->RunM (exM (isL way) a b M) (exN (isL way) a b ns) r o->RunM M ns ((x,way) :: r) o
theorem Mv.uniq {M:List (Option Nat)} {ns:List Int} {x:Int} {a b c d:Nat} (td:TD M ns) (g:Mv M ns x a b) (h:Mv M ns x c d):a=c/\b=d:=by
 have e:=(g.two td).2.symm.trans (h.two td).2
 injection e with e1 e2
 injection e2 with e2 _
 exact ⟨e1,e2⟩
noncomputable def Zgn (t:Adr):Sp:=λvs H Q E=>∃ (p l:Addr) (M:List (Option Nat)) (ns:List Int) (mv:List (Int × Str)) (o:Option Tg),vs=[.ref p,.ref l]/\Z1 t.aa H p M ns/\TD M ns/\Jj H l mv/\RunM M ns mv o/\(∀ g,o=some g->∀ H',Same H H'->E (.ref (g.cls t)) none H')/\(o=none->∀ v H',Same H H'->Q v H')
noncomputable def Zh9 (t:Adr):Sp:=λvs H Q E=>∃ (p l wd:Addr) (M:List (Option Nat)) (ns:List Int) (ws:List Nat) (mv:List (Int × Str)) (o:Option Tg),vs=[.ref p,.ref l,.ref wd]/\Z1 t.aa H p M ns/\TD M ns/\Jj H l mv/\mv.length<=2/\H wd=some (.lst (ws.map nV))/\ws.length<=100/\Pl M ws/\RunM M ns mv o/\(∀ g,o=some g->∀ H',Same H H'->E (.ref (g.cls t)) none H')/\(o=none->∀ v H',Same H H'->Q v H')
noncomputable def Zkd (t:Adr):Sp:=λvs H Q E=>∃ (p l c:Addr) (M:List (Option Nat)) (ns:List Int) (f:Nat->Int) (g:Int->Int) (mv:List (Int × Str)) (o:Option Tg),vs=[.ref p,.ref l,.ref c]/\Z1 t.aa H p M ns/\TD M ns/\ns.length < 64/\Jj H l mv/\Wx H c ns g/\Nm ns f g/\PC M f/\RunM M ns mv o/\(∀ g,o=some g->∀ H',Same H H'->E (.ref (g.cls t)) none H')/\(o=none->∀ v H',Same H H'->Q v H')
noncomputable def Fb (t:Adr):Sp:=λvs H Q E=>∃ (p wd:Addr) (M:List (Option Nat)) (ns:List Int) (x:Int) (way:Str) (g:Tg),vs=[.ref p,.int x,.str way,.ref wd]/\Z1 t.aa H p M ns/\TD M ns/\Yh ns x way=some g/\∀ H',Same H H'->E (.ref (g.cls t)) none H'
noncomputable def Ko (t:Adr):Sp:=λvs H Q E=>∃ (p:Addr) (c:V) (M:List (Option Nat)) (ns:List Int) (x:Int) (g:Tg),vs=[.ref p,c,.int x]/\Z1 t.aa H p M ns/\TD M ns/\Xb ns x=some g/\∀ H',Same H H'->E (.ref (g.cls t)) none H'
theorem Fv (T:Txt w K mg t):FnOk P w K mg base (CXr P w) 7 t.f6 t.gy ["tent","moves"] (Zgn t):=by
 refine T.eP.F.okL V6 (λvs H Q E h=>?_) (λ_ _ _ _ H vs Q E hr h=>?_)
 ·obtain ⟨p,l,M,ns,mv,o,rfl,_⟩:=h
  rfl
 ·obtain ⟨p,l,M,ns,mv,o,rfl,ta,td,hmv,hrun,kE,kQ⟩:=h
  refine ⟨_,(λ_ L=>(Xw (Zar L rfl (Yx (pv 1)) (Wk rfl (Zx (Zk (i:=2) V6.nd rfl (Or.inl rfl)) (Zx (Zk (i:=3) V6.nd rfl (Or.inl rfl)) Yy))) (Qk (Wj L (X6 (i:=0) V6.nd rfl (Or.inl rfl) (pxT (W6 T) hr T.aE (Za (pv 0) (Za (pv 2) (Za (pv 3) Zb))))))))
   (Qk (Wj L (Z5 (Zn (pv 0))))))),?_⟩
  obtain ⟨ts,h1,h2,h3⟩:=hmv
  refine ⟨_,rfl,l,rfl,⟨_,SqL.of h1⟩,?_⟩
  refine Kk (xs:=ts.map V.ref) (λi σ H1=>∃ (p':Addr) (Mi:List (Option Nat)) (ni:List Int) (v2 v3:Option V),σ=[some (.ref p'),some (.ref l),v2,v3]/\Same H H1/\Z1 t.aa H1 p' Mi ni/\TD Mi ni/\RunM Mi ni (mv.drop i) o) ⟨p,M,ns,none,none,rfl,Same.refl _,ta,td,hrun⟩ ?_ ?_ ?_
  ·rintro i σ H1 _ ⟨p',Mi,ni,v2,v3,rfl,s1,_⟩
   exact SqL.of (s1 _ _ h1)
  ·rintro i y σ H1 hy ⟨p',Mi,ni,v2,v3,rfl,s1,ta1,td1,hr1⟩
   obtain ⟨q,hq,rfl⟩:=map_some hy
   have hi:i < mv.length:=by rw [<- h2]; exact (Aa hq).1
   obtain ⟨⟨x,way⟩,hm⟩:∃ m,mv[i]?=some m:=⟨_,Ac hi⟩
   have ht:=s1 _ _ (h3 i q _ hq hm)
   have ed:mv.drop i=(x,way) :: mv.drop (i + 1):=by rw [List.drop_eq_getElem_cons hi,(Aa hm).2]
   rw [ed] at hr1
   refine ⟨q,_,rfl,SqT.of ht,rfl,_,_,rfl,_,_,rfl,rfl,?_⟩
   refine ⟨_,rfl,_,rfl,_,rfl,p',Mi,ni,x,way,rfl,ta1,td1,Js td1 (λH' g s' e=>?_) (λe a b H' s' mvv p2 _ ta2=>?_)⟩
   ·cases hr1 with
    | bad e'=>rw [e] at e'; cases e'; exact kE g rfl H' (s1.trans s')
    | ok e'=>rw [e] at e'; cases e'
   ·cases hr1 with
    | bad e'=>rw [e] at e'; cases e'
    | ok e' m1 r1 =>
     obtain ⟨rfl,rfl⟩:=mvv.uniq td1 m1
     exact ⟨p2,_,_,_,_,rfl,s1.trans s',ta2,m1.td td1,r1⟩
  ·rintro σ H1 ⟨p',Mi,ni,v2,v3,rfl,s1,ta1,td1,hr1⟩
   rw [Ab,h2,List.drop_length] at hr1
   cases hr1
   exact ⟨_,rfl,kQ rfl _ _ s1⟩
theorem Zgv (T:Txt w K mg t):FnOk P w K mg base (CXr P w) 7 t.cN t.cS ["tent","seam","way","word"] (Fb t):=by
 refine T.ci.F.aX Xv (λ_ _ _ _ H vs Q E hr h=>?_)
 ·obtain ⟨p,wd,M,ns,x,way,g,rfl,ta,td,hg,k⟩:=h
  refine ⟨_,(Zw (X6 (i:=4) Xv.nd rfl (Or.inl rfl) (pxT (Ud T) hr T.ce (Za (pv 0) (Za (pv 1) (Za (pv 2) Zb)))))
   (Zaq Xh)),?_⟩
  exact ⟨_,rfl,_,rfl,_,rfl,p,M,ns,x,way,rfl,ta,td,Js td (λH' g' s' e=>by rw [hg] at e; cases e; exact k H' s') (λe=>by rw [hg] at e; cases e)⟩
theorem Ft (T:Txt w K mg t):FnOk P w K mg base (CXr P w) 7 t.cN t.cS ["tent","seam","way","word"] (λvs H Q E=>Za3 t.aa vs H Q E\/Fb t vs H Q E):=(Zbj T).or (Zgv T)
theorem Zm1 (T:Txt w K mg t):FnOk P w K mg base (CXr P w) 7 t.hU t.ii ["tent","counts","seam"] (Ko t):=by
 refine T.iA.F.aX Zic (λ_ _ _ _ H vs Q E hr h=>?_)
 ·obtain ⟨p,c,M,ns,x,g,rfl,ta,td,hg,k⟩:=h
  refine ⟨_,(Zw (Ye (pxT (W4 T) hr T.aD (Za (pv 0) (Za (pv 2) Zb))))
   (Zaq Xh)),?_⟩
  refine ⟨_,rfl,_,rfl,p,M,ns,x,rfl,ta,td,λhx H' s'=>⟨λe=>?_,λe=>?_,λe=>?_⟩,λhx=>?_⟩
  ·rw [Jv hx e] at hg; cases hg; exact k H' s'
  ·rw [Jc hx e] at hg; cases hg; exact k H' s'
  ·rw [Jd hx e] at hg; cases hg
  ·rw [Qh hx] at hg; cases hg; exact k H (Same.refl _)
theorem Zm2 (T:Txt w K mg t):FnOk P w K mg base (CXr P w) 7 t.hU t.ii ["tent","counts","seam"] (λvs H Q E=>Zh4 t.aa vs H Q E\/Ko t vs H Q E):=(Zoi T).or (Zm1 T)
theorem Zcf (T:Txt w K mg t):FnOk P w K mg base (CXr P w) 5 t.aU t.aY ["tent","worths","seam"] (Ko t):=by
 refine T.aZ.F.aX Y8 (λ_ _ _ _ H vs Q E hr h=>?_)
 ·obtain ⟨p,c,M,ns,x,g,rfl,ta,td,hg,k⟩:=h
  refine ⟨_,(Zw (Ye (pxT (W4 T) hr T.aD (Za (pv 0) (Za (pv 2) Zb))))
   (Zaq Xh)),?_⟩
  refine ⟨_,rfl,_,rfl,p,M,ns,x,rfl,ta,td,λhx H' s'=>⟨λe=>?_,λe=>?_,λe=>?_⟩,λhx=>?_⟩
  ·rw [Jv hx e] at hg; cases hg; exact k H' s'
  ·rw [Jc hx e] at hg; cases hg; exact k H' s'
  ·rw [Jd hx e] at hg; cases hg
  ·rw [Qh hx] at hg; cases hg; exact k H (Same.refl _)
theorem Zcg (T:Txt w K mg t):FnOk P w K mg base (CXr P w) 5 t.aU t.aY ["tent","worths","seam"] (λvs H Q E=>Oz t.aa vs H Q E\/Ko t vs H Q E):=(Kg T).or (Zcf T)
theorem Oq (T:Txt w K mg t):FnOk P w K mg base (CXr P w) 7 t.dj t.dz ["tent","moves","counts"] (Zkd t):=by
 refine T.cg.F.okL X2 (λvs H Q E h=>?_) (λ_ _ _ _ H vs Q E hr h=>?_)
 ·obtain ⟨p,l,c,M,ns,f,g,mv,o,rfl,_⟩:=h
  rfl
 ·obtain ⟨p,l,c,M,ns,f,g,mv,o,rfl,ta,td,h64,hmv,hcnt,nm,pc,hrun,kE,kQ⟩:=h
  have hu:=Ww hr
  refine ⟨_,(λ_ L=>(Xw (Wj L (Z5 (Ys (pcT (Uw T) hr T.ba (Za (pv 0) (Za (pv 2) Zb))))))
   (Xw (Wj L (Z5 (Zr (i:=2) X2.nd rfl (Or.inl rfl) (Yb Wt (by rfl) T.cL PySem.Pv.boot_dict (Za (pv 2) Zb)))))
   (Xw (Zar L rfl (Yx (pv 1)) (Wk rfl (Zx (Zk (i:=3) X2.nd rfl (Or.inl rfl)) (Zx (Zk (i:=4) X2.nd rfl (Or.inl rfl)) Yy))) (Xw (Wj L (X6 (i:=5) X2.nd rfl (Or.inl rfl) (pxT (W6 T) hr T.aE (Za (pv 0) (Za (pv 3) (Za (pv 4) Zb))))))
   (Xw (Wj L (Z5 (Zr (i:=2) X2.nd rfl (Or.inl rfl) (pcT (Jt T) hr T.aB (Za (pv 0) (Za (pv 2) (Za (pv 3) Zb)))))))
   (Qk (Wj L (Z5 (Zr (i:=0) X2.nd rfl (Or.inl rfl) (pv 5))))))))
   (Qk (Wj L (Z5 (Zn (pv 2))))))))),?_⟩
  refine Yt (λσ H'=>σ=[some (.ref p),some (.ref l),some (.ref c),none,none,none]/\Same H H') (λnx hnx=>⟨_,rfl,_,rfl,p,c,M,ns,g,rfl,ta,td,h64,hcnt,Zly pc nm td,λH1 s1=>hnx _ _ ⟨rfl,s1⟩⟩) ?_
  rintro σ H1 ⟨rfl,s1⟩
  obtain ⟨ks,hc1,hperm⟩:=hcnt.same s1
  refine Yt (λσ H'=>∃ d:Addr,σ=[some (.ref p),some (.ref l),some (.ref d),none,none,none]/\Same H1 H'/\Wx H' d ns g) (λnx hnx=>⟨_,rfl,c,_,rfl,.inl hc1,λd hd=>hnx _ _ ⟨d,rfl,Same.new hd,ks,Zc,hperm⟩⟩) ?_
  rintro σ H2 ⟨d,rfl,s2,h2⟩
  have s12:=s1.trans s2
  obtain ⟨ts,h1,h2l,h3⟩:=hmv.same s12
  refine Yt (λσ H'=>o=none/\Same H H'/\∃ v0 v1 v3 v4 v5 d',σ=[v0,v1,some d',v3,v4,v5]) (λnx hnx=>?_) ?_
  ·refine ⟨_,rfl,l,rfl,⟨_,SqL.of h1⟩,?_⟩
   refine Kk (xs:=ts.map V.ref) (λi σ H3=>∃ (p' d':Addr) (Mi:List (Option Nat)) (ni:List Int) (fi:Nat->Int) (gi:Int->Int) (v3 v4 v5:Option V),σ=[some (.ref p'),some (.ref l),some (.ref d'),v3,v4,v5]/\Same H2 H3/\Z1 t.aa H3 p' Mi ni/\TD Mi ni/\Wx H3 d' ni gi/\Nm ni fi gi/\RunM Mi ni (mv.drop i) o) ⟨p,d,M,ns,f,g,none,none,none,rfl,Same.refl _,ta.same s12,td,h2,nm,hrun⟩ ?_ ?_ ?_
   ·rintro i σ H3 _ ⟨p',d',Mi,ni,fi,gi,v3,v4,v5,rfl,s3,_⟩
    exact SqL.of (s3 _ _ h1)
   ·rintro i y σ H3 hy ⟨p',d',Mi,ni,fi,gi,v3,v4,v5,rfl,s3,ta3,td3,hc3,nm3,hr3⟩
    obtain ⟨q,hq,rfl⟩:=map_some hy
    have hi:i < mv.length:=by rw [<- h2l]; exact (Aa hq).1
    obtain ⟨⟨x,way⟩,hm⟩:∃ m,mv[i]?=some m:=⟨_,Ac hi⟩
    have ht:=s3 _ _ (h3 i q _ hq hm)
    have ed:mv.drop i=(x,way) :: mv.drop (i + 1):=by rw [List.drop_eq_getElem_cons hi,(Aa hm).2]
    rw [ed] at hr3
    refine ⟨q,_,rfl,SqT.of ht,rfl,_,_,rfl,_,_,rfl,rfl,?_⟩
    refine ⟨_,rfl,_,rfl,_,rfl,p',Mi,ni,x,way,rfl,ta3,td3,Js td3 (λH' g s' e=>?_) (λe a b H4 s4 mvv p2 _ ta4=>?_)⟩
    ·cases hr3 with
     | bad e'=>rw [e] at e'; cases e'; exact kE g rfl H' (s12.trans (s3.trans s'))
     | ok e'=>rw [e] at e'; cases e'
    ·cases hr3 with
     | bad e'=>rw [e] at e'; cases e'
     | ok e' m1 r1 =>
      obtain ⟨rfl,rfl⟩:=mvv.uniq td3 m1
      refine ⟨_,rfl,_,rfl,_,rfl,p',d',Mi,ni,fi,gi,x,a,b,rfl,ta3.same s4,td3,hc3.same s4,nm3,m1,λl2 H5 s5 hl2 hc5=>?_⟩
      have s25:=s3.trans (s4.trans s5)
      exact ⟨_,rfl,p2,l2,_,_,fx (isL way) a b fi,_,_,_,_,rfl,s25,ta4.same s5,m1.td td3,hc5 (isL way),nm3.ex td3 m1.hM m1.ab m1.nm (isL way),r1⟩
   ·rintro σ H3 ⟨p',d',Mi,ni,fi,gi,v3,v4,v5,rfl,s3,ta3,td3,hc3,nm3,hr3⟩
    rw [Ab,h2l,List.drop_length] at hr3
    cases hr3
    exact hnx _ _ ⟨rfl,s12.trans s3,_,_,_,_,_,_,rfl⟩
  ·rintro σ H3 ⟨ho,s3,v0,v1,v3,v4,v5,d',rfl⟩
   exact ⟨_,rfl,kQ ho _ _ s3⟩
noncomputable def Zb4 (EG:Addr):Sp:=λvs H Q E=>∃ (q:Addr) (v:Nat × Nat),vs=[.ref q]/\H q=some (tp v)/\(v.1<=10 ^ 60->v.2<=10 ^ 60->Q .non H)/\(10 ^ 60 < v.1\/10 ^ 60 < v.2->E (.ref EG) none H)
noncomputable def Zex:Sp:=λvs H Q _=>∃ (a:Addr) (vs':List V),vs=[.ref a]/\H a=some (.lst vs')/\vs'.length<=400/\Q .non H
theorem Zkq {M:List (Option Nat)} {left:Bool} {a b:Nat} {ws:List Nat}:(Y5 M left a b (Y3 (Xo a b ws))).length<=3 * ws.length:=by
 have h1:=Kc M left a b (Y3 (Xo a b ws))
 have h2:(Y3 (Xo a b ws)).length<=(Xo a b ws).length:=by unfold Y3; rw [List.length_zip]; exact Nat.min_le_left _ _
 have h3:(Xo a b ws).length<=ws.length:=by unfold Xo; exact List.length_filter_le _ _
 omega
noncomputable def Zgi (t:Adr):Sp:=λvs H Q E=>∃ (sc dxs te th po wo:Addr) (M:List (Option Nat)) (ns ks:List Int) (x:Int) (way:Str),vs=[.ref sc,.int x,.str way]/\H sc=some (.ins t.al dxs (V4 (.ref te) (.ref th) (.ref po) (.ref wo)))/\H th=some (.dK [])/\H po=some (.dK [])/\Z1 t.aa H te M ns/\TD M ns/\ns.length < 64/\WAt H wo ks (λ_=>(1,1))/\SwK M ns ks/\(∀ g,Yh ns x way=some g->∀ H',Same H H'->E (.ref (g.cls t)) none H')/\(Yh ns x way=none->∀ (r:Addr) H',Same H H'->Q (.ref r) H')
theorem Zca:FnScope ["parts"] ["parts"] (Zg O6):=Am
theorem Zch (T:Txt w K mg t):FnOk P w K mg base (CXr P w) 1 t.cP t.cV ["parts"] (Zb4 t.cJ):=by
 refine T.cZ.F.aX Zca (λ_ _ _ _ H vs Q E hr h=>?_)
 ·obtain ⟨q,v,rfl,hq,k1,k2⟩:=h
  refine ⟨_,(Zq (Y1 (Zm J5 (Zo (Zj0 rfl) (by rfl) T.iD PyProof.Rows.boot_max (Za (pv 0) Zb)) (Vf (v:=.int 1000000000000000000000000000000000000000000000000000000000000) rfl T.dM ⟨_,rfl⟩) (Zp _)) (Zq (Wa T.gZ FBV rfl T.gU rfl (Za Z0 Zb))) X4)),?_⟩
  refine ⟨_,rfl,q,[(v.1:Int),(v.2:Int)],rfl,SqT.of hq,(by show 0 < 2; decide),λm hm hmx=>?_⟩
  refine ⟨_,_,rfl,rfl,_,rfl,?_⟩
  have big:(1000000000000000000000000000000000000000000000000000000000000:Nat)=10 ^ 60:=by decide +kernel
  rw [<- big] at k1 k2
  have h1:=hmx (v.1:Int) List.mem_cons_self
  have h2:=hmx (v.2:Int) (List.mem_cons_of_mem _ List.mem_cons_self)
  by_cases c:(1000000000000000000000000000000000000000000000000000000000000:Int) < m
  ·rw [decide_eq_true c]
   refine iteT ⟨by decide,k2 ?_⟩
   rcases Ar hm with rfl | hm
   ·exact .inl (by omega)
   ·rw [Af hm] at c; exact .inr (by omega)
  ·rw [decide_eq_false c]
   exact iteF (k1 (by omega) (by omega))
theorem Zal:FnScope ["word"] ["word"] (Zg Ol):=Am
theorem Zaw (T:Txt w K mg t):FnOk P w K mg base (CXr P w) 1 t.cw t.cB ["word"] Zex:=by
 refine T.cF.F.aX Zal (λ_ _ _ _ H vs Q E hr h=>?_)
 ·obtain ⟨a,vs',rfl,ha,hl,k1⟩:=h
  refine ⟨_,(Zq (Y1 (Zm J5 (Zo Zl (by rfl) T.ae PySem.boot_len (Za (pv 0) Zb)) (Vf (v:=.int 400) rfl T.fj ⟨_,rfl⟩) (Zp _)) (Zq (Wa T.iu FBV rfl T.gY rfl (Za Z0 Zb))) X4)),?_⟩
  refine ⟨_,rfl,a,_,rfl,.inl (SqL.of ha),_,_,rfl,rfl,_,rfl,?_⟩
  rw [decide_eq_false (by omega)]
  exact iteF k1
theorem Xr:FnScope ["tent","moves","word","seam","way"] ["tent","moves","word"] (Zg Ul):=Am
theorem Vt (T:Txt w K mg t):FnOk P w K mg base (CXr P w) 8 t.bS t.bY ["tent","moves","word"] (Zh9 t):=by
 refine T.aS.F.okL Xr (λvs H Q E h=>?_) (λ_ _ _ _ H vs Q E hr h=>?_)
 ·obtain ⟨p,l,wd,M,ns,ws,mv,o,rfl,_⟩:=h
  rfl
 ·obtain ⟨p,l,wd,M,ns,ws,mv,o,rfl,ta,td,hmv,hm2,hw,hwl,hP,hrun,kE,kQ⟩:=h
  refine ⟨_,(λ_ L=>(Xw (Wj L (Ye (pxT (Uv T) hr T.a9 (Za (pv 0) (Za (pv 2) Zb)))))
   (Xw (Wj L (Z5 (Zr (i:=2) Xr.nd rfl (Or.inl rfl) (Yb Yv (by rfl) T.aC PySem.Pv.boot_list (Za (pv 2) Zb)))))
   (Xw (Zar L rfl (Yx (pv 1)) (Wk rfl (Zx (Zk (i:=3) Xr.nd rfl (Or.inl rfl)) (Zx (Zk (i:=4) Xr.nd rfl (Or.inl rfl)) Yy))) (Xw (Wj L (X6 (i:=2) Xr.nd rfl (Or.inl rfl) (pxT (Ft T) hr T.ci (Za (pv 0) (Za (pv 3) (Za (pv 4) (Za (pv 2) Zb)))))))
   (Qk (Wj L (X6 (i:=0) Xr.nd rfl (Or.inl rfl) (pxT (W6 T) hr T.aE (Za (pv 0) (Za (pv 3) (Za (pv 4) Zb)))))))))
   (Qk (Wj L (Z5 (Zn (pv 2))))))))),?_⟩
  refine Yt (λσ H'=>σ=[some (.ref p),some (.ref l),some (.ref wd),none,none]/\Same H H') (λnx hnx=>⟨_,rfl,_,rfl,p,wd,M,ns,wI ws,rfl,ta,td.len.symm,by rw [hw,Zcl],by rw [G7]; omega,λH1 s1=>⟨λ_=>hnx _ _ ⟨rfl,s1⟩,λz=>absurd ((Zbg.mpr hP).symm.trans z) (by decide)⟩⟩) ?_
  rintro σ H1 ⟨rfl,s1⟩
  refine Yt (λσ H'=>∃ w':Addr,σ=[some (.ref p),some (.ref l),some (.ref w'),none,none]/\Same H1 H'/\H' w'=some (.lst (ws.map nV))) (λnx hnx=>⟨_,rfl,wd,_,rfl,.inl (SqL.of (s1 _ _ hw)),λw' hw'=>hnx _ _ ⟨w',rfl,Same.new hw',Zc⟩⟩) ?_
  rintro σ H2 ⟨w0,rfl,s2,hw2⟩
  have s12:=s1.trans s2
  obtain ⟨ts,h1,h2l,h3⟩:=hmv.same s12
  refine Yt (λσ H'=>o=none/\Same H H'/\∃ v0 v1 v3 v4 d',σ=[v0,v1,some d',v3,v4]) (λnx hnx=>?_) ?_
  ·refine ⟨_,rfl,l,rfl,⟨_,SqL.of h1⟩,?_⟩
   refine Kk (xs:=ts.map V.ref) (λi σ H3=>∃ (p' w':Addr) (Mi:List (Option Nat)) (ni:List Int) (wi:List Nat) (v3 v4:Option V),σ=[some (.ref p'),some (.ref l),some (.ref w'),v3,v4]/\Same H2 H3/\Z1 t.aa H3 p' Mi ni/\TD Mi ni/\H3 w'=some (.lst (wi.map nV))/\Pl Mi wi/\wi.length<=100 * 3 ^ i/\RunM Mi ni (mv.drop i) o) ⟨p,w0,M,ns,ws,none,none,rfl,Same.refl _,ta.same s12,td,hw2,hP,by omega,hrun⟩ ?_ ?_ ?_
   ·rintro i σ H3 _ ⟨p',w',Mi,ni,wi,v3,v4,rfl,s3,_⟩
    exact SqL.of (s3 _ _ h1)
   ·rintro i y σ H3 hy ⟨p',w',Mi,ni,wi,v3,v4,rfl,s3,ta3,td3,hw3,hP3,hl3,hr3⟩
    obtain ⟨q,hq,rfl⟩:=map_some hy
    have hi:i < mv.length:=by rw [<- h2l]; exact (Aa hq).1
    have h01:i=0\/i=1:=by omega
    have hl3':wi.length<=300:=by rcases h01 with rfl | rfl <;> omega
    obtain ⟨⟨x,way⟩,hm⟩:∃ m,mv[i]?=some m:=⟨_,Ac hi⟩
    have ht:=s3 _ _ (h3 i q _ hq hm)
    have ed:mv.drop i=(x,way) :: mv.drop (i + 1):=by rw [List.drop_eq_getElem_cons hi,(Aa hm).2]
    rw [ed] at hr3
    refine ⟨q,_,rfl,SqT.of ht,rfl,_,_,rfl,_,_,rfl,rfl,?_⟩
    refine ⟨_,rfl,_,rfl,_,rfl,_,rfl,?_⟩
    cases hr3 with
    | bad e'=>exact .inr ⟨p',w',Mi,ni,x,way,_,rfl,ta3,td3,e',λH' s'=>kE _ rfl H' (s12.trans (s3.trans s'))⟩
    | @ok _ _ _ _ a b _ _ e' m1 r1 =>
     obtain ⟨hk,hpl⟩:=m1.two td3
     obtain ⟨ew,_⟩:=Vj e'
     refine .inl ⟨p',w',Mi,ni,x,isL way,a,b,wi,(by show [V.ref p',V.int x,V.str way,V.ref w']=[V.ref p',V.int x,V.str (wayS (isL way)),V.ref w']; rw [<- ew]),ta3,td3,hk,hpl,m1.ab,hw3,by omega,hP3,λw2 H4 s4 _ h4=>?_⟩
     refine ⟨_,rfl,_,rfl,_,rfl,p',Mi,ni,x,way,rfl,ta3.same s4,td3,Js td3 (λH' g s' e=>by rw [e'] at e; cases e) (λ_ a' b' H5 s5 mvv p2 _ ta5=>?_)⟩
     obtain ⟨rfl,rfl⟩:=mvv.uniq td3 m1
     exact ⟨p2,w2,_,_,_,_,_,rfl,(s3.trans s4).trans s5,ta5,m1.td td3,s5 _ _ h4,hP3.pull td3 m1.hM m1.ab,Nat.le_trans Zkq (by rw [Nat.pow_succ]; omega),r1⟩
   ·rintro σ H3 ⟨p',w',Mi,ni,wi,v3,v4,rfl,s3,ta3,td3,hw3,hP3,hl3,hr3⟩
    rw [Ab,h2l,List.drop_length] at hr3
    cases hr3
    exact hnx _ _ ⟨rfl,s12.trans s3,_,_,_,_,_,rfl⟩
  ·rintro σ H3 ⟨ho,s3,v0,v1,v3,v4,d',rfl⟩
   exact ⟨_,rfl,kQ ho _ _ s3⟩
theorem Xe:FnScope ["scene","seam","way","tent","threads","word","pools","worths","parts"] ["scene","seam","way"] (Zg Uk):=Am
theorem Gu (T:Txt w K mg t):FnOk P w K mg base (CXr P w) 8 t.bT t.bZ ["scene","seam","way"] (Zgi t):=by
  refine T.cj.F.aX Xe (λ_ _ _ _ H vs Q E hr h=>?_)
  · obtain ⟨sc,dxs,te,th,po,wo,M,ns,ks,x,way,rfl,hsc,hth,hpo,ta,td,h64,hwo,hsw,kE,kQ⟩:=h
    have hu:=Ww hr
    refine ⟨_,(Zw (X6 (i:=3) Xe.nd rfl (Or.inl rfl) (pxT (W6 T) hr T.aE (Za (Y2 (pv 0) rfl) (Za (pv 1) (Za (pv 2) Zb)))))
      (Zw (Z5 (Ur (Kd (ts:=["name","word"]) (fv:=[("seam",1),("way",2),("scene",0)]) (i:=4) ⟨rfl,by decide +kernel,by decide +kernel,Yc (by rfl),⟨⟨rfl,rfl,Or.inl rfl⟩,⟨rfl,rfl,Or.inl rfl⟩,⟨rfl,rfl,Or.inl rfl⟩,trivial⟩⟩ rfl Xe.nd rfl rfl (by rfl) (Vp (Y2 (pv 0) rfl) ⟨rfl,rfl,rfl⟩) (λ_ _ _ _=>(Uu (n:=2) K rfl (Zx (Zk (i:=0) (show List.Nodup (["name","word","seam","way","scene"]:List Str) from by decide +kernel) rfl (Or.inl rfl) (Or.inr rfl)) (Zx (Zk (i:=1) (show List.Nodup (["name","word","seam","way","scene"]:List Str) from by decide +kernel) rfl (Or.inl rfl) (Or.inr rfl)) Yy)))) (λ_ _ _ _=>Yp) (λ_ _ _=>rfl) (λ_ _ _ _ _ _=>Ob (pv 0) (pcT (Zbj T) hr T.ci (Za (Zfv K (pv 4) rfl) (Za (pv 2) (Za (pv 3) (Za (pv 1) Zb)))))))))
      (Zw (Z5 (Ur (Y9 PassesOwn.never rfl (Zau (pv 4) ⟨rfl,rfl,rfl⟩) (Zk (i:=5) Xe.nd rfl (Or.inl rfl)) (Zh (Ys (pcT (Zaw T) hr T.cF (Za (pv 5) Zb)))))))
      (Zw (Z5 (Ur (Kd (ts:=["name","counts"]) (fv:=[("seam",1),("scene",0)]) (i:=6) ⟨rfl,by decide +kernel,by decide +kernel,Yc (by rfl),⟨⟨rfl,rfl,Or.inl rfl⟩,⟨rfl,rfl,Or.inl rfl⟩,trivial⟩⟩ rfl Xe.nd rfl rfl (by rfl) (Vp (Y2 (pv 0) rfl) ⟨rfl,rfl,rfl⟩) (λ_ _ _ _=>(Uu (n:=2) K rfl (Zx (Zk (i:=0) (show List.Nodup (["name","counts","seam","scene"]:List Str) from by decide +kernel) rfl (Or.inl rfl) (Or.inr rfl)) (Zx (Zk (i:=1) (show List.Nodup (["name","counts","seam","scene"]:List Str) from by decide +kernel) rfl (Or.inl rfl) (Or.inr rfl)) Yy)))) (λ_ _ _ _=>Yp) (λ_ _ _=>rfl) (λ_ _ _ _ _ _=>Ob (pv 0) (pcT (Jt T) hr T.aB (Za (Zfv K (pv 3) rfl) (Za (pv 1) (Za (pv 2) Zb))))))))
      (Zw (Z5 (Zr (i:=7) Xe.nd rfl (Or.inl rfl) (pcT (Kg T) hr T.aZ (Za (Y2 (pv 0) rfl) (Za (Y2 (pv 0) rfl) (Za (pv 1) Zb))))))
      (Zw (Z5 (Ur (Y9 PassesOwn.never rfl (Zau (pv 7) ⟨rfl,rfl,rfl⟩) (Zk (i:=8) Xe.nd rfl (Or.inl rfl)) (Zh (Ys (pcT (Zch T) hr T.cZ (Za (pv 8) Zb)))))))
      (Zq (Z5 (Zn (Qo T.gR (Ot T) (hr.mono (by decide)) rfl T.gJ T.bv.b .nil Yz (Za (pv 3) (Za (pv 4) (Za (pv 6) (Za (pv 7) Zb)))))))))))))),?_⟩
    refine Yt (λσ H'=>∃ te':Addr,σ=[some (.ref sc),some (.int x),some (.str way),some (.ref te'),none,none,none,none,none]/\Same H H'/\Yh ns x way=none) (λnx hnx=>?_) ?_
    · exact ⟨_,rfl,sc,_,dxs,_,.ref te,rfl,hsc,T.aG,T.br,rfl,_,rfl,_,rfl,te,M,ns,x,way,rfl,ta,td,Js td (λH' g s' e=>kE g e H' s') (λe a b H' s' mvv p2 _ ta2=>hnx _ _ ⟨p2,rfl,s',e⟩)⟩
    rintro σ H1 ⟨te',rfl,s1,hmove⟩
    have kQ:=kQ hmove
    obtain ⟨a,b,mvv⟩:=Vh td (Vj hmove).2
    have emp:∀ {H0:Hp} {d:Addr} {o:Obj} {b:Addr} {u:HO},H0 d=some (.dK [])->∀ {H9:Hp},(∀ b u,b≠d->H0 b=some u->H9 b=some u)->H0 b=some u->(upd H9 d (.dK [])) b=some u:=λ{H0 d o b u} hd H9 s9 e=>by
      by_cases z:b=d
      · subst z; rw [hd] at e; rw [Zc]; exact e
      · rw [Zd z]; exact s9 b u z e
    refine Yt (λσ H'=>∃ D:Addr,σ=[some (.ref sc),some (.int x),some (.str way),some (.ref te'),some (.ref D),none,none,none,none]/\Same H1 H'/\H1 D=none/\H' D=some (.dK [])) (λnx hnx=>?_) ?_
    · refine ⟨_,rfl,sc,_,dxs,_,.ref th,rfl,s1 _ _ hsc,T.aG,T.bG,rfl,th,_,rfl,.inl ⟨s1 _ _ hth,λo=>?_⟩⟩
      intro D hD
      obtain ⟨hDd,hD2⟩:=Xl hD
      refine Od (kvs:=[]) (λi σ H3=>∃ v0 v1,σ=[v0,v1,some (.int x),some (.str way),some (.ref sc)]/\(∀ b u,b≠th->H1 b=some u->H3 b=some u)/\H3 th=some (.frz o (.dK []))/\H3 D=some (.dK [])) ⟨none,none,rfl,λb u hb e=>by rw [Zd (Zi e hD2),Zd hb]; exact e,by rw [Zd (Ne.symm hDd),Zc],Zc⟩ ?_ ?_ ?_
      · rintro i σ H3 _ ⟨v0,v1,rfl,_,e,_⟩
        exact e
      · rintro i k0 x0 σ H3 q hk0 hq
        simp at hk0
      · rintro σ H3 ⟨v0,v1,rfl,s3,e3,h3⟩
        refine ⟨th,o,_,e3,(λo' u z=>by have z:H th=some (.frz o' u):=z; rw [hth] at z; cases z),?_⟩
        exact hnx _ _ ⟨D,rfl,λb u e=>emp (o:=o) (s1 _ _ hth) s3 e,hD2,by rw [Zd hDd]; exact h3⟩
    rintro σ H2 ⟨D,rfl,s2,hD,h2⟩
    refine Yt (λσ H'=>∃ v,σ=[some (.ref sc),some (.int x),some (.str way),some (.ref te'),some (.ref D),v,none,none,none]/\Same H2 H') (λnx hnx=>?_) ?_
    · refine ⟨_,rfl,D,_,rfl,.inl ⟨h2,λo=>?_⟩⟩
      refine G3 (kvs:=[]) (λi σ H3=>σ=[some (.ref sc),some (.int x),some (.str way),some (.ref te'),some (.ref D),none,none,none,none]/\(∀ b u,b≠D->H2 b=some u->H3 b=some u)/\H3 D=some (.frz o (.dK []))) ⟨rfl,λb u hb e=>by rw [Zd hb]; exact e,Zc⟩ ?_ ?_ ?_
      · rintro i σ H3 _ ⟨rfl,_,e⟩
        exact e
      · rintro i k0 x0 σ H3 hk0
        simp at hk0
      · rintro σ H3 ⟨rfl,s3,e3⟩
        have hD0:H D=none:=s1.free hD
        exact ⟨D,o,_,e3,(λo' u z=>by have z:H D=some (.frz o' u):=z; rw [hD0] at z; cases z),hnx _ _ ⟨none,rfl,λb u e=>emp (o:=o) h2 s3 e⟩⟩
    rintro σ H3 ⟨v5,rfl,s3⟩
    have s03:=s1.trans (s2.trans s3)
    refine Yt (λσ H'=>∃ D2:Addr,σ=[some (.ref sc),some (.int x),some (.str way),some (.ref te'),some (.ref D),v5,some (.ref D2),none,none]/\Same H3 H') (λnx hnx=>?_) ?_
    · refine ⟨_,rfl,sc,_,dxs,_,.ref po,rfl,s03 _ _ hsc,T.aG,T.cC,rfl,po,_,rfl,.inl ⟨s03 _ _ hpo,λo=>?_⟩⟩
      intro D2 hD
      obtain ⟨hDd,hD2⟩:=Xl hD
      refine Od (kvs:=[]) (λi σ H4=>∃ v0 v1,σ=[v0,v1,some (.int x),some (.ref sc)]/\(∀ b u,b≠po->H3 b=some u->H4 b=some u)/\H4 po=some (.frz o (.dK []))) ⟨none,none,rfl,λb u hb e=>by rw [Zd (Zi e hD2),Zd hb]; exact e,by rw [Zd (Ne.symm hDd),Zc]⟩ ?_ ?_ ?_
      · rintro i σ H4 _ ⟨v0,v1,rfl,_,e⟩
        exact e
      · rintro i k0 x0 σ H4 q hk0 hq
        simp at hk0
      · rintro σ H4 ⟨v0,v1,rfl,s4,e4⟩
        refine ⟨po,o,_,e4,(λo' u z=>by have z:H po=some (.frz o' u):=z; rw [hpo] at z; cases z),?_⟩
        exact hnx _ _ ⟨D2,rfl,λb u e=>emp (o:=o) (s03 _ _ hpo) s4 e⟩
    rintro σ H4 ⟨D2,rfl,s4⟩
    have s04:=s03.trans s4
    have one:lowG (λ_:Int=>((1:Nat),(1:Nat))) x=(1,1):=(show lowN 1 1=(1,1) by decide)
    have b89:(1:Nat) < 2 ^ 8900:=Nat.one_lt_two_pow (by decide)
    have b39:(1:Nat) < 2 ^ 3999:=Nat.one_lt_two_pow (by decide)
    have hsc4:=s04 _ _ hsc
    refine Yt (λσ H'=>∃ (d':Addr),σ=[some (.ref sc),some (.int x),some (.str way),some (.ref te'),some (.ref D),v5,some (.ref D2),some (.ref d'),none]/\Same H4 H'/\H4 d'=none/\WAt H' d' ks (strG ks (sqX ns a b) x (lowG λ_=>(1,1)))) (λnx hnx=>?_) ?_
    · refine ⟨_,rfl,sc,_,dxs,_,.ref te,rfl,hsc4,T.aG,T.br,rfl,_,rfl,sc,_,dxs,_,.ref wo,rfl,hsc4,T.aG,T.b6,rfl,_,rfl,te,wo,M,ns,ks,λ_=>(1,1),x,a,b,rfl,ta.same s04,td,h64,hwo.same s04,hsw,λy _=>⟨An _,An _,b89,b89⟩,mvv,by rw [one]; exact b39,by rw [one]; exact b39,λd' H' s' hd' hw'=>hnx _ _ ⟨d',rfl,s',hd',hw'⟩⟩
    rintro σ H5 ⟨d',rfl,s5,hd',ad,w1,w2⟩
    refine Yt (λσ H'=>∃ v,σ=[some (.ref sc),some (.int x),some (.str way),some (.ref te'),some (.ref D),v5,some (.ref D2),some (.ref d'),v]/\Same H4 H') (λnx hnx=>?_) ?_
    · refine ⟨_,rfl,d',_,rfl,.inl ⟨w1,λo=>?_⟩⟩
      have wne:∀ y∈ks,ad y≠d':=λy hy z=>by have:=w2 y hy; rw [z,w1] at this; cases this
      refine G3 (kvs:=wD ks ad) (λi σ H6=>∃ v,σ=[some (.ref sc),some (.int x),some (.str way),some (.ref te'),some (.ref D),v5,some (.ref D2),some (.ref d'),v]/\(∀ b u,b≠d'->H5 b=some u->H6 b=some u)/\H6 d'=some (.frz o (.dK (wD ks ad)))) ⟨none,rfl,λb u hb e=>by rw [Zd hb]; exact e,Zc⟩ ?_ ?_ ?_
      · rintro i σ H6 _ ⟨v,rfl,_,e⟩
        exact e
      · rintro i k0 x0 σ H6 hk0 ⟨v,rfl,s6,e6⟩
        obtain ⟨y,hy,rfl,rfl⟩:=Zlq hk0
        have hyk:=Au hy
        have hb:Bd 5 (strG ks (sqX ns a b) x (lowG λ_=>(1,1)) y):=Zn6 (B:=1) td mvv ⟨by decide,by decide,by decide,by decide⟩ ⟨by decide,by decide,by decide,by decide⟩
        refine ⟨_,rfl,ad y,_,rfl,s6 _ _ (wne y hyk) (w2 y hyk),λ_ _=>⟨_,rfl,s6,e6⟩,λz=>?_⟩
        obtain ⟨_,_,b1,b2⟩:=hb
        have big:(2:Nat) ^ 5<=10 ^ 60:=by decide +kernel
        rcases z with z | z
        · exact absurd (Ag b1 big) (Nat.lt_asymm z)
        · exact absurd (Ag b2 big) (Nat.lt_asymm z)
      · rintro σ H6 ⟨v,rfl,s6,e6⟩
        have hd0:H d'=none:=s04.free hd'
        refine ⟨d',o,_,e6,(λo' u z=>by have z:H d'=some (.frz o' u):=z; rw [hd0] at z; cases z),hnx _ _ ⟨v,rfl,λb u e=>?_⟩⟩
        rw [Zd (Zi e hd')]
        exact s6 b u (Zi e hd') (s5 b u e)
    rintro σ H6 ⟨v8,rfl,s6⟩
    refine ⟨_,rfl,_,rfl,_,rfl,_,rfl,?_⟩
    intro sc2 dx2 hsc2 hdx2 hne2
    refine ⟨sc2,dx2,_,_,_,_,rfl,Zc,rfl,?_⟩
    rw [Ju]
    exact kQ sc2 _ (s04.trans (s6.trans (Same.add (Same.new hdx2) hsc2)))
noncomputable def Oth2 (p st:Addr) (H H':Hp):Prop:=∀ b u,b≠p->b≠st->H b=some u->H' b=some u
noncomputable def Zj9 (t:Adr):Sp:=λvs H Q E=>∃ (p dx be sc st un dxs te th po wo:Addr) (M:List (Option Nat)) (ns ks:List Int) (x:Int) (way:Str),vs=[.ref p,.int x,.str way]/\H p=some (.ins t.af dx (Jo be sc st un))/\H sc=some (.ins t.al dxs (V4 (.ref te) (.ref th) (.ref po) (.ref wo)))/\H st=some (.lst [])/\H th=some (.dK [])/\H po=some (.dK [])/\Z1 t.aa H te M ns/\TD M ns/\ns.length < 64/\WAt H wo ks (λ_=>(1,1))/\SwK M ns ks/\(∀ g,Yh ns x way=some g->∀ H',Same H H'->E (.ref (g.cls t)) none H')/\(Yh ns x way=none->∀ H',Oth2 p st H H'->Q .non H')
noncomputable def oT:Option Tg->Str
 | some g=>g.txt
 | none=>""
noncomputable def dueD (ns:List Int) (x:Int) (way:Str) (d:Nat):Option Tg:=if d < 7 then Yh ns x way else Xb ns x
structure Din (t:Adr) (H:Hp) (p wd c:Addr) (M:List (Option Nat)) (ns:List Int) (ws:List Nat) (f:Nat->Int) (g:Int->Int):Prop where
 ta:Z1 t.aa H p M ns
 td:TD M ns
 h64:ns.length < 64
 hw:H wd=some (.lst (ws.map nV))
 hP:ws=[]\/Pl M ws
 hl:ws.length<=100
 cnt:Wx H c ns g
 nm:Nm ns f g
 pc:PC M f
noncomputable def okG (gw:Int->Nat × Nat) (y:Int):Prop:=1<=(gw y).1/\1<=(gw y).2/\(gw y).1 < 2 ^ 300/\(gw y).2 < 2 ^ 300
noncomputable def outD (d:Nat) (ws:List Nat):Prop:=(d=3\/d=4)/\ws=[]
noncomputable def Zml (t:Adr):Sp:=λvs H Q E=>∃ (d:Nat) (p wd c wo:Addr) (M:List (Option Nat)) (ns:List Int) (ws:List Nat) (f:Nat->Int) (g:Int->Int) (ks:List Int) (gw:Int->Nat × Nat) (x:Int) (way:Str),vs=[.int d,.ref p,.int x,.str way,.ref wd,.ref c,.ref wo]/\d<=9/\Din t H p wd c M ns ws f g/\WAt H wo ks gw/\SwK M ns ks/\(∀ y,okG gw y) /\
 (outD d ws->∀ H',Same H H'->Q (.bl false) H')/\(¬ outD d ws->(∀ g,dueD ns x way d=some g->∀ H',Same H H'->E (.ref (g.cls t)) none H')/\(dueD ns x way d=none->∀ H',Same H H'->Q (.bl true) H'))
noncomputable def Zhz (t:Adr):Sp:=λvs H Q E=>∃ (d:Nat) (p wd c wo:Addr) (M:List (Option Nat)) (ns:List Int) (ws:List Nat) (f:Nat->Int) (g:Int->Int) (ks:List Int) (gw:Int->Nat × Nat) (x:Int) (way:Str),vs=[.int d,.ref p,.int x,.str way,.ref wd,.ref c,.ref wo]/\d<=9/\Din t H p wd c M ns ws f g/\WAt H wo ks gw/\SwK M ns ks/\(∀ y,okG gw y) /\
 (outD d ws->∀ H',Same H H'->Q (.str "left out") H')/\(¬ outD d ws->∀ H',Same H H'->Q (.str (oT (dueD ns x way d))) H')
noncomputable def outO (d:Nat) (ws:List Nat):Prop:=d=1/\ws=[]
noncomputable def Zmk (t:Adr):Sp:=λvs H Q E=>∃ (d:Nat) (p l wd c:Addr) (M:List (Option Nat)) (ns:List Int) (ws:List Nat) (f:Nat->Int) (g:Int->Int) (mv:List (Int × Str)) (o:Option Tg),vs=[.int d,.ref p,.ref l,.ref wd,.ref c]/\d<=2/\Din t H p wd c M ns ws f g/\Jj H l mv/\mv.length<=2/\RunM M ns mv o /\
 (outO d ws->∀ H',Same H H'->Q (.bl false) H')/\(¬ outO d ws->(∀ g,o=some g->∀ H',Same H H'->E (.ref (g.cls t)) none H')/\(o=none->∀ H',Same H H'->Q (.bl true) H'))
noncomputable def Zhy (t:Adr):Sp:=λvs H Q E=>∃ (d:Nat) (p l wd c:Addr) (M:List (Option Nat)) (ns:List Int) (ws:List Nat) (f:Nat->Int) (g:Int->Int) (mv:List (Int × Str)) (o:Option Tg),vs=[.int d,.ref p,.ref l,.ref wd,.ref c]/\d<=2/\Din t H p wd c M ns ws f g/\Jj H l mv/\mv.length<=2/\RunM M ns mv o /\
 (outO d ws->∀ H',Same H H'->Q (.str "left out") H')/\(¬ outO d ws->∀ H',Same H H'->Q (.str (oT o)) H')
theorem Zcp {H:Hp} {q l:Addr} {x:Int} {way:Str} (hq:H q=none) (hl:(upd H q (.tup [V.int x,V.str way])) l=none):Jj (upd (upd H q (.tup [V.int x,V.str way])) l (.lst [V.ref q])) l [(x,way)]:=by
 refine ⟨[q],Zc,rfl,λk t' z e1 e2=>?_⟩
 cases k with
 | zero =>
  cases e1
  cases e2
  exact Same.new hl _ _ Zc
 | succ k=>simp at e1
theorem run1 {M:List (Option Nat)} {ns:List Int} (td:TD M ns) (x:Int) (way:Str):RunM M ns [(x,way)] (Yh ns x way):=by
 cases e:Yh ns x way with
 | some g=>exact .bad e
 | none =>
  obtain ⟨a,b,g⟩:=Vh td (Vj e).2
  exact .ok e g .nil
theorem Zng {t:Adr} {H0:Hp} {h dh lr:Addr} {ns:List Int} {ts:List Addr} (r2:ns.length=3 * ts.length) (r3:∀ (k:Nat) (q:Addr),ts[k]?=some q->H0 q=some (.tup (row3 ns k))) (hlr:H0 lr=none) (hh:(upd H0 lr (.lst (ts.map V.ref))) h=none) (hdh:(upd H0 lr (.lst (ts.map V.ref))) dh=none):Yr (upd (upd (upd H0 lr (.lst (ts.map V.ref))) dh (.own h)) h (.ins t.af dh [])) lr ns/\Same H0 (upd (upd (upd H0 lr (.lst (ts.map V.ref))) dh (.own h)) h (.ins t.af dh [])):=by
 have s1:Same H0 (upd H0 lr (.lst (ts.map V.ref))):=Same.new hlr
 have s2:Same (upd H0 lr (.lst (ts.map V.ref))) (upd (upd (upd H0 lr (.lst (ts.map V.ref))) dh (.own h)) h (.ins t.af dh [])):=Same.add (Same.new hdh) hh
 exact ⟨⟨ts,s2 _ _ Zc,r2,λk q e=>s2 _ _ (s1 _ _ (r3 k q e))⟩,s1.trans s2⟩
theorem O4:FnScope ["self","seam","way","behind"] ["self","seam","way"] (Zg Gf):=Am
theorem Zci (T:Txt w K mg t):FnOk P w K mg base (CXr P w) 9 t.dk t.dB ["self","seam","way"] (Zj9 t):=by
 refine T.ck.F.aX O4 (λ_ _ _ _ H vs Q E hr h=>?_)
 ·obtain ⟨p,dx,be,sc,st,un,dxs,te,th,po,wo,M,ns,ks,x,way,rfl,hp,hsc,hst,hth,hpo,ta,td,h64,hwo,hsw,kE,kQ⟩:=h
  refine ⟨_,(Zw (X6 (i:=3) O4.nd rfl (Or.inl rfl) (pxT (Gu T) hr T.cj (Za (Y2 (pv 0) rfl) (Za (pv 1) (Za (pv 2) Zb)))))
   (Zq (Z5 (Ys (Xz (pv 0) T.ay T.bw.m (Zcj T) (hr.mono (by decide)) T.bw.b .nil Yz (Za (pcT (Ze4 T) hr T.eS (Za (Yo (Za Z0 (Za (pv 1) (Za (pv 2) Zb)))) Zb)) (Za (pv 3) Zb))))))),?_⟩
  refine Yt (λσ H'=>∃ r:Addr,σ=[some (.ref p),some (.int x),some (.str way),some (.ref r)]/\Same H H'/\Yh ns x way=none) (λnx hnx=>⟨_,rfl,p,_,dx,_,.ref sc,rfl,hp,T.ay,T.aL,rfl,_,rfl,_,rfl,sc,dxs,te,th,po,wo,M,ns,ks,x,way,rfl,hsc,hth,hpo,ta,td,h64,hwo,hsw,kE,λe r H' s'=>hnx _ _ ⟨r,rfl,s',e⟩⟩) ?_
  rintro σ H1 ⟨r,rfl,s1,hm⟩
  obtain ⟨a,b,g⟩:=Vh td (Vj hm).2
  have rg:=td.rng a x g.nm
  have hwl:way.length<=5:=by rw [(Vj hm).1]; cases isL way <;> decide
  refine ⟨_,rfl,p,dx,_,rfl,s1 _ _ hp,rfl,?_⟩
  refine ⟨_,rfl,_,rfl,(by show 3<=sizeLine; decide),λl2' hl2=>?_⟩
  have s6:=Same.new (o:=.lst [V.str (Str.ofString "turn"),V.int x,V.str way]) hl2
  have hfl:=Zor rg.1 (Int.lt_of_le_of_lt rg.2 (by decide))
  refine ⟨l2',[.inl (Str.ofString "turn"),.inr x,.inl way],rfl,Zc,(by show 3<=900; decide),λy hy=>?_,?_,λH7 s7=>?_⟩
  ·rcases Ar hy with rfl | hy
   ·exact True.intro
   ·rcases Ar hy with rfl | hy
    ·exact ⟨rg.1,Int.lt_of_le_of_lt rg.2 (by decide)⟩
    ·rw [Af hy]; exact True.intro
  ·show ((Str.ofString "turn").length + ((figS x).length + (way.length + 0))) + 3<=1048576
   have:(Str.ofString "turn").length=4:=by decide
   omega
  generalize Txt.join (Str.ofString " ") _=rr
  have s07:=s1.trans (s6.trans s7)
  refine ⟨_,rfl,p,dx,be,sc,st,un,r,rr,[],rfl,s07 _ _ hp,s07 _ _ hst,by decide,λq un' H9 hq hun o9 p9 st9 q9 u9=>?_⟩
  exact kQ hm H9 λb u b1 b2 e=>o9 b u b1 b2 (s07 b u e)
theorem Zmq:FnScope ["_law_door","_law_tent_here","_law_seam_here","_law_way_here","_law_word","_law_counts","_law_worths"] ["_law_door","_law_tent_here","_law_seam_here","_law_way_here","_law_word","_law_counts","_law_worths"] (Zg Zig):=Am
theorem Zm3 (T:Txt w K mg t):FnOk P w K mg base (CXr P w) 10 t.iw t.iy ["_law_door","_law_tent_here","_law_seam_here","_law_way_here","_law_word","_law_counts","_law_worths"] (Zml t):=by
 refine T.iB.F.aX Zmq (λ_ _ _ _ H vs Q E hr h=>?_)
 ·obtain ⟨d,p,wd,c,wo,M,ns,ws,f,g,ks,gw,x,way,rfl,hd,⟨ta,td,h64,hw,hP,hl,cnt,nm,pc⟩,hwo,hsw,hgw,kO,kD⟩:=h
  refine ⟨_,(Zw (Y1 (Zm Ya (pv 0) Ze (Zp _)) (Zq (Ye (pxT (Zk1 T) hr T.il (Za (pv 1) (Za (pv 2) (Za (pv 3) (Za Ze Zb))))))) (Zq (Y1 (Zm Ya (pv 0) Ze (Zp _)) (Zq (Ye (pxT (W6 T) hr T.aE (Za (pv 1) (Za (pv 2) (Za (pv 3) Zb)))))) (Zq (Y1 (Zm Ya (pv 0) Ze (Zp _)) (Zq (Ye (pxT (Fv T) hr T.eP (Za (pv 1) (Za (Yo (Za (Xa (Za (pv 2) (Za (pv 3) Zb))) Zb)) Zb))))) (Zq (Y1 (PW.pt (J1 (Zm Ya (pv 0) Ze (Zp _)) (Je (Zm J5 (Zo Zl (by rfl) T.ae PySem.boot_len (Za (pv 4) Zb)) Ze (Zp _))))) (Zq (Ye (pxT (Ft T) hr T.ci (Za (pv 1) (Za (pv 2) (Za (pv 3) (Za (pv 4) Zb))))))) (Zq (Y1 (PW.pt (J1 (Zm Ya (pv 0) Ze (Zp _)) (Je (Zm J5 (Zo Zl (by rfl) T.ae PySem.boot_len (Za (pv 4) Zb)) Ze (Zp _))))) (Zq (Ye (pxT (Vt T) hr T.aS (Za (pv 1) (Za (Yo (Za (Xa (Za (pv 2) (Za (pv 3) Zb))) Zb)) (Za (pv 4) Zb)))))) (Zq (Y1 (Zm Ya (pv 0) Ze (Zp _)) (Zq (Ye (pxT (Oq T) hr T.cg (Za (pv 1) (Za (Yo (Za (Xa (Za (pv 2) (Za (pv 3) Zb))) Zb)) (Za (pv 5) Zb)))))) (Zq (Y1 (Zm Ya (pv 0) Ze (Zp _)) (Zq (Ye (Qm (Qo T.iI (Zd5 T) (hr.mono (by decide)) rfl T.iH T.dF.b .nil Yz (Za (Qn (pv 1) T.ac T.ao.m (J8 T) (hr.mono (by decide)) T.ao.b .nil Yz) Zb)) T.ay T.ck.m (Zci T) (hr.mono (by decide)) T.ck.b .nil (Za (pv 2) (Za (pv 3) Zb))))) (Zq (Y1 (Zm Ya (pv 0) Ze (Zp _)) (Zq (Ye (pxT (Uc T) hr T.b9 (Za (pv 1) (Za (pv 2) Zb))))) (Zq (Y1 (Zm Ya (pv 0) Ze (Zp _)) (Zq (Ye (pxT (Zm2 T) hr T.iA (Za (pv 1) (Za (pv 5) (Za (pv 2) Zb)))))) (Zq (Y1 (Zm Ya (pv 0) Ze (Zp _)) (Zq (Ye (pxT (Zcg T) hr T.aZ (Za (pv 1) (Za (pv 6) (Za (pv 2) Zb)))))) (Zq (Z5 (Zn Wd))))))))))))))))))))))
   (Zq (Z5 (Zn Wd)))),?_⟩
  obtain ⟨dx,cl,na,sp,mt,o,ff,B⟩:=id ta
  have hMl:=td.len
  obtain ⟨n,n1,n40,hn⟩:=td.n
  have hP':ws≠[]->Pl M ws:=λz=>hP.resolve_left z
  have hwl:ws≠[]->decide ((0:Int) < ((ws.map nV).length:Nat))=true:=λz=>decide_eq_true (by rw [Ab]; have:=List.length_pos_iff.mpr z; omega)
  refine Yt (λσ H'=>Same H H'/\¬ outD d ws/\dueD ns x way d=none) (λnx hnx=>?_) ?_
  rotate_left
  ·rintro σ H' ⟨s',ho,hdue⟩
   exact (kD ho).2 hdue H' s'
  have hd':d=0\/d=1\/d=2\/d=3\/d=4\/d=5\/d=6\/d=7\/d=8\/d=9:=by omega
  rcases hd' with rfl | rfl | rfl | rfl | rfl | rfl | rfl | rfl | rfl | rfl
  ·skip
   have no:¬ outD 0 ws:=λz=>by obtain ⟨z | z,_⟩:=z <;> cases z
   obtain ⟨kE,_⟩:=kD no
   exact ⟨_,rfl,rfl,_,rfl,iteT (⟨_,rfl,_,rfl,_,rfl,p,M,ns,x,way,0,rfl,ta,td,Js td (λH' g s' e=>kE g e H' s') (λe a b H' s' _=>⟨λ_=>hnx _ _ ⟨s',no,e⟩,λz=>absurd ⟨Int.le_refl _,by omega⟩ z⟩)⟩)⟩
  ·skip
   have no:¬ outD 1 ws:=λz=>by obtain ⟨z | z,_⟩:=z <;> cases z
   obtain ⟨kE,_⟩:=kD no
   exact ⟨_,rfl,rfl,_,rfl,iteF ⟨_,rfl,rfl,_,rfl,iteT (⟨_,rfl,_,rfl,_,rfl,p,M,ns,x,way,rfl,ta,td,Js td (λH' g s' e=>kE g e H' s') (λe a b H' s' _ p2 _ _=>hnx _ _ ⟨s',no,e⟩)⟩)⟩⟩
  ·skip
   have no:¬ outD 2 ws:=λz=>by obtain ⟨z | z,_⟩:=z <;> cases z
   obtain ⟨kE,_⟩:=kD no
   exact ⟨_,rfl,rfl,_,rfl,iteF ⟨_,rfl,rfl,_,rfl,iteF ⟨_,rfl,rfl,_,rfl,iteT (⟨_,rfl,_,rfl,_,rfl,(by show 2<=sizeLine; decide),λq hq=>⟨(by show 1<=sizeLine; decide),λl hl=>⟨p,l,M,ns,[(x,way)],Yh ns x way,rfl,(ta.same (Same.new hq)).same (Same.new hl),td,Zcp hq hl,run1 td x way,λg e H' s'=>kE g e H' ((Same.new hq).trans ((Same.new hl).trans s')),λe v H' s'=>hnx _ _ ⟨(Same.new hq).trans ((Same.new hl).trans s'),no,e⟩⟩⟩⟩)⟩⟩⟩
  ·by_cases hz:ws=[]
   ·exact ⟨_,rfl,rfl,_,rfl,iteF ⟨_,rfl,rfl,_,rfl,iteF ⟨_,rfl,rfl,_,rfl,iteF ⟨_,rfl,rfl,_,rfl,iteT ⟨_,rfl,wd,_,rfl,.inl (SqL.of hw),_,_,rfl,rfl,_,rfl,(by subst hz; exact iteF (⟨_,rfl,rfl,_,rfl,iteF ⟨_,rfl,rfl,_,rfl,iteF ⟨_,rfl,rfl,_,rfl,iteF ⟨_,rfl,rfl,_,rfl,iteF ⟨_,rfl,rfl,_,rfl,iteF ⟨_,rfl,rfl,_,rfl,iteF (kO ⟨.inl rfl,rfl⟩ H (Same.refl _))⟩⟩⟩⟩⟩⟩))⟩⟩⟩⟩⟩
   ·have no:¬ outD 3 ws:=λz=>hz z.2
    obtain ⟨kE,_⟩:=kD no
    exact ⟨_,rfl,rfl,_,rfl,iteF ⟨_,rfl,rfl,_,rfl,iteF ⟨_,rfl,rfl,_,rfl,iteF ⟨_,rfl,rfl,_,rfl,iteT ⟨_,rfl,wd,_,rfl,.inl (SqL.of hw),_,_,rfl,rfl,_,rfl,(by rw [hwl hz]; exact iteT (by cases e:Yh ns x way with | some g=>exact ⟨_,rfl,_,rfl,_,rfl,_,rfl,.inr ⟨p,wd,M,ns,x,way,g,rfl,ta,td,e,λH' s'=>kE g e H' s'⟩⟩ | none=>exact (by obtain ⟨a,b,mvv⟩:=Vh td (Vj e).2; obtain ⟨hk,hpl⟩:=mvv.two td; obtain ⟨ew,_⟩:=Vj e; exact ⟨_,rfl,_,rfl,_,rfl,_,rfl,.inl ⟨p,wd,M,ns,x,isL way,a,b,ws,(by show [V.ref p,V.int x,V.str way,V.ref wd]=[V.ref p,V.int x,V.str (wayS (isL way)),V.ref wd]; rw [<- ew]),ta,td,hk,hpl,mvv.ab,hw,by omega,hP' hz,λl H' s' _ _=>hnx _ _ ⟨s',no,e⟩⟩⟩)))⟩⟩⟩⟩⟩
  ·by_cases hz:ws=[]
   ·exact ⟨_,rfl,rfl,_,rfl,iteF ⟨_,rfl,rfl,_,rfl,iteF ⟨_,rfl,rfl,_,rfl,iteF ⟨_,rfl,rfl,_,rfl,iteF ⟨_,rfl,rfl,_,rfl,iteT ⟨_,rfl,wd,_,rfl,.inl (SqL.of hw),_,_,rfl,rfl,_,rfl,(by subst hz; exact iteF (⟨_,rfl,rfl,_,rfl,iteF ⟨_,rfl,rfl,_,rfl,iteF ⟨_,rfl,rfl,_,rfl,iteF ⟨_,rfl,rfl,_,rfl,iteF ⟨_,rfl,rfl,_,rfl,iteF (kO ⟨.inr rfl,rfl⟩ H (Same.refl _))⟩⟩⟩⟩⟩))⟩⟩⟩⟩⟩⟩
   ·have no:¬ outD 4 ws:=λz=>hz z.2
    obtain ⟨kE,_⟩:=kD no
    exact ⟨_,rfl,rfl,_,rfl,iteF ⟨_,rfl,rfl,_,rfl,iteF ⟨_,rfl,rfl,_,rfl,iteF ⟨_,rfl,rfl,_,rfl,iteF ⟨_,rfl,rfl,_,rfl,iteT ⟨_,rfl,wd,_,rfl,.inl (SqL.of hw),_,_,rfl,rfl,_,rfl,(by rw [hwl hz]; exact iteT (⟨_,rfl,_,rfl,_,rfl,(by show 2<=sizeLine; decide),λq hq=>⟨(by show 1<=sizeLine; decide),λl hl'=>⟨_,rfl,p,l,wd,M,ns,ws,[(x,way)],Yh ns x way,rfl,(ta.same (Same.new hq)).same (Same.new hl'),td,Zcp hq hl',(by show 1<=2; decide),Same.new hl' _ _ (Same.new hq _ _ hw),hl,hP' hz,run1 td x way,λg e H' s'=>kE g e H' ((Same.new hq).trans ((Same.new hl').trans s')),λe v H' s'=>hnx _ _ ⟨(Same.new hq).trans ((Same.new hl').trans s'),no,e⟩⟩⟩⟩))⟩⟩⟩⟩⟩⟩
  ·skip
   have no:¬ outD 5 ws:=λz=>by obtain ⟨z | z,_⟩:=z <;> cases z
   obtain ⟨kE,_⟩:=kD no
   exact ⟨_,rfl,rfl,_,rfl,iteF ⟨_,rfl,rfl,_,rfl,iteF ⟨_,rfl,rfl,_,rfl,iteF ⟨_,rfl,rfl,_,rfl,iteF ⟨_,rfl,rfl,_,rfl,iteF ⟨_,rfl,rfl,_,rfl,iteT (⟨_,rfl,_,rfl,_,rfl,(by show 2<=sizeLine; decide),λq hq=>⟨(by show 1<=sizeLine; decide),λl hl'=>⟨_,rfl,p,l,c,M,ns,f,g,[(x,way)],Yh ns x way,rfl,(ta.same (Same.new hq)).same (Same.new hl'),td,h64,Zcp hq hl',(cnt.same (Same.new hq)).same (Same.new hl'),nm,pc,run1 td x way,λg e H' s'=>kE g e H' ((Same.new hq).trans ((Same.new hl').trans s')),λe v H' s'=>hnx _ _ ⟨(Same.new hq).trans ((Same.new hl').trans s'),no,e⟩⟩⟩⟩)⟩⟩⟩⟩⟩⟩
  ·skip
   have no:¬ outD 6 ws:=λz=>by obtain ⟨z | z,_⟩:=z <;> cases z
   obtain ⟨kE,_⟩:=kD no
   refine ⟨_,rfl,rfl,_,rfl,iteF ⟨_,rfl,rfl,_,rfl,iteF ⟨_,rfl,rfl,_,rfl,iteF ⟨_,rfl,rfl,_,rfl,iteF ⟨_,rfl,rfl,_,rfl,iteF ⟨_,rfl,rfl,_,rfl,iteF ⟨_,rfl,rfl,_,rfl,iteT (⟨_,rfl,p,dx,_,rfl,B.ins,Yl _ _ _ _,p,M,ns,rfl,ta,λlr ts hlr ts1 ts2=>λh dh hh hdh hne=>?_⟩)⟩⟩⟩⟩⟩⟩⟩
   obtain ⟨ro,sr⟩:=Zng (t:=t) ts1 ts2 hlr hh hdh
   refine ⟨h,lr,dh,M,ns,rfl,Zc,ro,td,h64,λH3 old hn=>⟨rfl,?_⟩⟩
   obtain ⟨be,sc',st,un,dxs,th,po,wo',ks',hn,hst0⟩:=hn
   have hhn:H h=none:=(Xl hh).2
   have s3:Same H H3:=λb u e=>old b u (Zi e hhn) (sr b u e)
   have hst1:H st=none:=by
    cases e:H st with
    | none=>rfl
    | some u=>have z:=sr _ _ e; rw [hst0] at z; cases z
   refine ⟨h,dh,_,rfl,hn.ins,rfl,_,rfl,_,rfl,h,dh,be,sc',st,un,dxs,be,th,po,wo',M,ns,ks',x,way,rfl,hn.ins,hn.scn,hn.sta,hn.thr,hn.poo,hn.tent,td,h64,hn.wor,hn.sw,λg e H' s'=>kE g e H' (s3.trans s'),λe H' o'=>hnx _ _ ⟨λb u eb=>o' b u (Zi eb hhn) (Zi eb hst1) (s3 b u eb),no,e⟩⟩
  ·skip
   have no:¬ outD 7 ws:=λz=>by obtain ⟨z | z,_⟩:=z <;> cases z
   obtain ⟨kE,_⟩:=kD no
   refine ⟨_,rfl,rfl,_,rfl,iteF ⟨_,rfl,rfl,_,rfl,iteF ⟨_,rfl,rfl,_,rfl,iteF ⟨_,rfl,rfl,_,rfl,iteF ⟨_,rfl,rfl,_,rfl,iteF ⟨_,rfl,rfl,_,rfl,iteF ⟨_,rfl,rfl,_,rfl,iteF ⟨_,rfl,rfl,_,rfl,iteT (⟨_,rfl,_,rfl,p,M,ns,x,rfl,ta,td,λhx H' s'=>⟨λe=>kE _ (Jv hx e) H' s',λe=>kE _ (Jc hx e) H' s',λa b l e hab hm h3 _ _=>hnx _ _ ⟨s',no,?_⟩⟩,λhx=>kE _ (Qh hx) H (Same.refl _)⟩)⟩⟩⟩⟩⟩⟩⟩⟩
   exact Jd hx (Zaz td e h3).2
  ·skip
   have no:¬ outD 8 ws:=λz=>by obtain ⟨z | z,_⟩:=z <;> cases z
   obtain ⟨kE,_⟩:=kD no
   exact ⟨_,rfl,rfl,_,rfl,iteF ⟨_,rfl,rfl,_,rfl,iteF ⟨_,rfl,rfl,_,rfl,iteF ⟨_,rfl,rfl,_,rfl,iteF ⟨_,rfl,rfl,_,rfl,iteF ⟨_,rfl,rfl,_,rfl,iteF ⟨_,rfl,rfl,_,rfl,iteF ⟨_,rfl,rfl,_,rfl,iteF ⟨_,rfl,rfl,_,rfl,iteT (by cases e:Xb ns x with | some g'=>exact ⟨_,rfl,_,rfl,_,rfl,.inr ⟨p,_,M,ns,x,g',rfl,ta,td,e,λH' s'=>kE g' e H' s'⟩⟩ | none=>exact (by obtain ⟨a,b,mvv⟩:=Vh td e; exact ⟨_,rfl,_,rfl,_,rfl,.inl ⟨p,c,M,ns,f,g,x,a,b,rfl,ta,td,h64,cnt,nm,pc,mvv,λl H' s' _ _=>hnx _ _ ⟨s',no,e⟩⟩⟩))⟩⟩⟩⟩⟩⟩⟩⟩⟩
  ·skip
   have no:¬ outD 9 ws:=λz=>by obtain ⟨z | z,_⟩:=z <;> cases z
   obtain ⟨kE,_⟩:=kD no
   have up:∀ {n:Nat},n < 2 ^ 300->n < 2 ^ 8900/\n < 2 ^ 3999:=λh=>⟨Ag h (Nat.pow_le_pow_right (by decide) (by decide)),Ag h (Nat.pow_le_pow_right (by decide) (by decide))⟩
   exact ⟨_,rfl,rfl,_,rfl,iteF ⟨_,rfl,rfl,_,rfl,iteF ⟨_,rfl,rfl,_,rfl,iteF ⟨_,rfl,rfl,_,rfl,iteF ⟨_,rfl,rfl,_,rfl,iteF ⟨_,rfl,rfl,_,rfl,iteF ⟨_,rfl,rfl,_,rfl,iteF ⟨_,rfl,rfl,_,rfl,iteF ⟨_,rfl,rfl,_,rfl,iteF ⟨_,rfl,rfl,_,rfl,iteT (by cases e:Xb ns x with | some g'=>exact ⟨_,rfl,_,rfl,_,rfl,.inr ⟨p,_,M,ns,x,g',rfl,ta,td,e,λH' s'=>kE g' e H' s'⟩⟩ | none=>exact (by obtain ⟨a,b,mvv⟩:=Vh td e; exact ⟨_,rfl,_,rfl,_,rfl,.inl ⟨p,wo,M,ns,ks,gw,x,a,b,rfl,ta,td,h64,hwo,hsw,λy _=>⟨(hgw y).1,(hgw y).2.1,(up (hgw y).2.2.1).1,(up (hgw y).2.2.2).1⟩,mvv,(up (Bd.low (B:=300) (hgw x)).1.2.2.1).2,(up (Bd.low (B:=300) (hgw x)).1.2.2.2).2,λd' H' s' _ _=>hnx _ _ ⟨s',no,e⟩⟩⟩))⟩⟩⟩⟩⟩⟩⟩⟩⟩⟩
theorem Wz:FnScope ["_law_door","_law_tent_here","_law_seam_here","_law_way_here","_law_word","_law_counts","_law_worths","_law_told_here"] ["_law_door","_law_tent_here","_law_seam_here","_law_way_here","_law_word","_law_counts","_law_worths"] (Zg Zdl):=Am
theorem Zbk (T:Txt w K mg t):FnOk P w K mg base (CXr P w) 11 t.gm t.gI ["_law_door","_law_tent_here","_law_seam_here","_law_way_here","_law_word","_law_counts","_law_worths"] (Zhz t):=by
 refine T.eX.F.aR Wz (λ_ _ _ _ H vs Q E hr h=>?_)
 ·obtain ⟨d,p,wd,c,wo,M,ns,ws,f,g,ks,gw,x,way,rfl,hd,din,hwo,hsw,hgw,kO,kD⟩:=h
  refine ⟨_,(Zf (Zr (i:=7) Wz.nd rfl (Or.inl rfl) Z0)
   (Zf (Zft (Zq (Zfs (pxT (Zm3 T) hr T.iB (Za (pv 0) (Za (pv 1) (Za (pv 2) (Za (pv 3) (Za (pv 4) (Za (pv 5) (Za (pv 6) Zb)))))))) (Zq (Z5 (Zr (i:=7) Wz.nd rfl (Or.inl rfl) Z0))) X4)) (Jx rfl T.db (λ_=>(Zh (Zr (i:=7) Wz.nd rfl (Or.inl rfl) Z0))) (Jx rfl T.gW (λ_=>(Zh (Zr (i:=7) Wz.nd rfl (Or.inl rfl) Z0))) (Jx rfl T.c9 (λ_=>(Zh (Zr (i:=7) Wz.nd rfl (Or.inl rfl) Z0))) (Jx rfl T.fc (λ_=>(Zh (Zr (i:=7) Wz.nd rfl (Or.inl rfl) Z0))) Zjh)))))
   (Zh (Zn (pv 7))))),?_⟩
  refine ⟨_,rfl,_,rfl,_,rfl,_,rfl,_,rfl,_,rfl,_,rfl,d,p,wd,c,wo,M,ns,ws,f,g,ks,gw,x,way,rfl,hd,din,hwo,hsw,hgw,λho H' s'=>⟨false,rfl,iteF ⟨_,rfl,kO ho H' s'⟩⟩,λho=>⟨λg e H' s'=>?_,λe H' s'=>⟨true,rfl,iteT ⟨_,rfl,?_⟩⟩⟩⟩
  ·have k:=kD ho H' s'
   rw [e] at k
   cases g with
   | lo=>exact ⟨true,T.bn,iteT ⟨_,rfl,k⟩⟩
   | ri=>exact ⟨false,T.cG,iteF ⟨true,T.fg,iteT ⟨_,rfl,k⟩⟩⟩
   | se=>exact ⟨false,T.bp,iteF ⟨false,T.cH,iteF ⟨true,T.bo,iteT ⟨_,rfl,k⟩⟩⟩⟩
   | wa=>exact ⟨false,T.bL,iteF ⟨false,T.c6,iteF ⟨false,T.bM,iteF ⟨true,T.cp,iteT ⟨_,rfl,k⟩⟩⟩⟩⟩
  ·have k:=kD ho H' s'
   rw [e] at k
   exact k
theorem Zgs:FnScope ["_law_door","_law_tent_here","_law_moves","_law_word","_law_counts"] ["_law_door","_law_tent_here","_law_moves","_law_word","_law_counts"] (Zg Zbd):=Am
theorem Zg1 (T:Txt w K mg t):FnOk P w K mg base (CXr P w) 9 t.fA t.fJ ["_law_door","_law_tent_here","_law_moves","_law_word","_law_counts"] (Zmk t):=by
 refine T.fR.F.aX Zgs (λ_ _ _ _ H vs Q E hr h=>?_)
 ·obtain ⟨d,p,l,wd,c,M,ns,ws,f,g,mv,o,rfl,hd,⟨ta,td,h64,hw,hP,hl,cnt,nm,pc⟩,hmv,hm2,hrun,kO,kD⟩:=h
  refine ⟨_,(Zw (Y1 (Zm Ya (pv 0) Ze (Zp _)) (Zq (Ye (pxT (Fv T) hr T.eP (Za (pv 1) (Za (pv 2) Zb))))) (Zq (Y1 (PW.pt (J1 (Zm Ya (pv 0) Ze (Zp _)) (Je (Zm J5 (Zo Zl (by rfl) T.ae PySem.boot_len (Za (pv 3) Zb)) Ze (Zp _))))) (Zq (Ye (pxT (Vt T) hr T.aS (Za (pv 1) (Za (pv 2) (Za (pv 3) Zb)))))) (Zq (Y1 (Zm Ya (pv 0) Ze (Zp _)) (Zq (Ye (pxT (Oq T) hr T.cg (Za (pv 1) (Za (pv 2) (Za (pv 4) Zb)))))) (Zq (Z5 (Zn Wd))))))))
   (Zq (Z5 (Zn Wd)))),?_⟩
  have hP':ws≠[]->Pl M ws:=λz=>hP.resolve_left z
  have hwl:ws≠[]->decide ((0:Int) < ((ws.map nV).length:Nat))=true:=λz=>decide_eq_true (by rw [Ab]; have:=List.length_pos_iff.mpr z; omega)
  refine Yt (λσ H'=>Same H H'/\¬ outO d ws/\o=none) (λnx hnx=>?_) ?_
  rotate_left
  ·rintro σ H' ⟨s',ho,hdue⟩
   exact (kD ho).2 hdue H' s'
  have hd':d=0\/d=1\/d=2:=by omega
  rcases hd' with rfl | rfl | rfl
  ·have no:¬ outO 0 ws:=λz=>by cases z.1
   exact ⟨_,rfl,rfl,_,rfl,iteT (⟨_,rfl,_,rfl,p,l,M,ns,mv,o,rfl,ta,td,hmv,hrun,(kD no).1,λe v H' s'=>hnx _ _ ⟨s',no,e⟩⟩)⟩
  ·by_cases hz:ws=[]
   ·exact ⟨_,rfl,rfl,_,rfl,iteF ⟨_,rfl,rfl,_,rfl,iteT ⟨_,rfl,wd,_,rfl,.inl (SqL.of hw),_,_,rfl,rfl,_,rfl,(by subst hz; exact iteF ⟨_,rfl,rfl,_,rfl,iteF (kO ⟨rfl,rfl⟩ H (Same.refl _))⟩)⟩⟩⟩
   ·have no:¬ outO 1 ws:=λz=>hz z.2
    exact ⟨_,rfl,rfl,_,rfl,iteF ⟨_,rfl,rfl,_,rfl,iteT ⟨_,rfl,wd,_,rfl,.inl (SqL.of hw),_,_,rfl,rfl,_,rfl,(by rw [hwl hz]; exact iteT (⟨_,rfl,_,rfl,_,rfl,p,l,wd,M,ns,ws,mv,o,rfl,ta,td,hmv,hm2,hw,hl,hP' hz,hrun,(kD no).1,λe v H' s'=>hnx _ _ ⟨s',no,e⟩⟩))⟩⟩⟩
  ·have no:¬ outO 2 ws:=λz=>by cases z.1
   exact ⟨_,rfl,rfl,_,rfl,iteF ⟨_,rfl,rfl,_,rfl,iteF ⟨_,rfl,rfl,_,rfl,iteT (⟨_,rfl,_,rfl,_,rfl,p,l,c,M,ns,f,g,mv,o,rfl,ta,td,h64,hmv,cnt,nm,pc,hrun,(kD no).1,λe v H' s'=>hnx _ _ ⟨s',no,e⟩⟩)⟩⟩⟩
theorem X3:FnScope ["_law_door","_law_tent_here","_law_moves","_law_word","_law_counts","_law_told_here"] ["_law_door","_law_tent_here","_law_moves","_law_word","_law_counts"] (Zg K8):=Am
theorem Zd2 (T:Txt w K mg t):FnOk P w K mg base (CXr P w) 10 t.dm t.dD ["_law_door","_law_tent_here","_law_moves","_law_word","_law_counts"] (Zhy t):=by
 refine T.dG.F.aR X3 (λ_ _ _ _ H vs Q E hr h=>?_)
 ·obtain ⟨d,p,l,wd,c,M,ns,ws,f,g,mv,o,rfl,hd,din,hmv,hm2,hrun,kO,kD⟩:=h
  refine ⟨_,(Zf (Zr (i:=5) X3.nd rfl (Or.inl rfl) Z0)
   (Zf (Zft (Zq (Zfs (pxT (Zg1 T) hr T.fR (Za (pv 0) (Za (pv 1) (Za (pv 2) (Za (pv 3) (Za (pv 4) Zb)))))) (Zq (Z5 (Zr (i:=5) X3.nd rfl (Or.inl rfl) Z0))) X4)) (Jx rfl T.db (λ_=>(Zh (Zr (i:=5) X3.nd rfl (Or.inl rfl) Z0))) (Jx rfl T.gW (λ_=>(Zh (Zr (i:=5) X3.nd rfl (Or.inl rfl) Z0))) (Jx rfl T.c9 (λ_=>(Zh (Zr (i:=5) X3.nd rfl (Or.inl rfl) Z0))) (Jx rfl T.fc (λ_=>(Zh (Zr (i:=5) X3.nd rfl (Or.inl rfl) Z0))) Zjh)))))
   (Zh (Zn (pv 5))))),?_⟩
  refine ⟨_,rfl,_,rfl,_,rfl,_,rfl,_,rfl,d,p,l,wd,c,M,ns,ws,f,g,mv,o,rfl,hd,din,hmv,hm2,hrun,λho H' s'=>⟨false,rfl,iteF ⟨_,rfl,kO ho H' s'⟩⟩,λho=>⟨λg e H' s'=>?_,λe H' s'=>⟨true,rfl,iteT ⟨_,rfl,?_⟩⟩⟩⟩
  ·have k:=kD ho H' s'
   rw [e] at k
   cases g with
   | lo=>exact ⟨true,T.bn,iteT ⟨_,rfl,k⟩⟩
   | ri=>exact ⟨false,T.cG,iteF ⟨true,T.fg,iteT ⟨_,rfl,k⟩⟩⟩
   | se=>exact ⟨false,T.bp,iteF ⟨false,T.cH,iteF ⟨true,T.bo,iteT ⟨_,rfl,k⟩⟩⟩⟩
   | wa=>exact ⟨false,T.bL,iteF ⟨false,T.c6,iteF ⟨false,T.bM,iteF ⟨true,T.cp,iteT ⟨_,rfl,k⟩⟩⟩⟩⟩
  ·have k:=kD ho H' s'
   rw [e] at k
   exact k
theorem Zia {M:List (Option Nat)} {ns:List Int} (td:TD M ns) (x:Int):(Xb ns x=some .ri/\∃ a,pl ns ns.length x=[a])\/(Xb ns x=some .lo/\∃ a b,pl ns ns.length x=[a,b]/\a / 3=b / 3)\/(Xb ns x=none/\∃ a b,pl ns ns.length x=[a,b]/\a / 3≠b / 3)\/(Xb ns x=some .se/\pl ns ns.length x=[]):=by
 by_cases hx:x∈keys ns ns.length
 ·rcases Wq td hx with ⟨e,a,h1,_⟩ | ⟨e,a,b,_,h1,_,h2⟩ | ⟨e,a,b,_,h1,_,h2⟩
  ·exact .inl ⟨Jv hx e,a,h1⟩
  ·exact .inr (.inl ⟨Jc hx e,a,b,h1,h2⟩)
  ·exact .inr (.inr (.inl ⟨Jd hx e,a,b,h1,h2⟩))
 ·exact .inr (.inr (.inr ⟨Qh hx,Zin hx⟩))
theorem inV2 {x A1 A2:Str}:inV (.str x) [.str A1,.str A2]=decide (x=A1\/x=A2):=by
 show ((A1 == x) || ((A2 == x) || false))=_
 rw [Bool.or_false,Bool.eq_iff_iff,Bool.or_eq_true,beq_iff_eq,beq_iff_eq,decide_eq_true_eq]
 exact ⟨λz=>z.imp Eq.symm Eq.symm,λz=>z.imp Eq.symm Eq.symm⟩
noncomputable def Zkg:Sp:=λvs H Q _=>∃ (m r:Addr) (M:List (Option Nat)) (ns:List Int) (x:Int) (way:Str),vs=[.ref m,.ref r,.int x,.str way]/\H m=some (.lst (M.map mV))/\Yr H r ns/\TD M ns/\∀ H',Same H H'->Q (.str (oT (Yh ns x way))) H'
theorem Zda:FnScope ["_law_mates","_law_rows_here","_law_seam_here","_law_way_here","_law_spots"] ["_law_mates","_law_rows_here","_law_seam_here","_law_way_here"] (Zg Zfo):=Am
theorem Gy (T:Txt w K mg t):FnOk P w K mg base (CXr P w) 1 t.hX t.ik ["_law_mates","_law_rows_here","_law_seam_here","_law_way_here"] Zkg:=by
  refine T.dP.F.aR Zda (λ_ _ _ _ H vs Q E hr h=>?_)
  · obtain ⟨m,r,M,ns,x,way,rfl,hm,hr1,td,k⟩:=h
    refine ⟨_,(Zf (Z8 (Zm Kf (pv 3) (Xa (Za Z0 (Za Z0 Zb))) (by with_unfolding_all rfl)) (Zh (Zn Z0)) Z3)
      (Zf (Wg (ts:=["_law_p"]) (fv:=[("_law_seam_here",2),("_law_rows_here",1)]) (i:=4) ⟨rfl,by decide +kernel,by decide +kernel,Yc (by rfl),⟨⟨rfl,rfl,Or.inl rfl⟩,⟨rfl,rfl,Or.inl rfl⟩,trivial⟩⟩ rfl Zda.nd rfl rfl (by rfl) (Yu rfl T.ah (Za (Zo Zl (by rfl) T.ae PySem.boot_len (Za (pv 0) Zb)) Zb)) (λ_ _ _ _=>(Zk (i:=0) (show List.Nodup (["_law_p","_law_seam_here","_law_rows_here"]:List Str) from by decide +kernel) rfl (Or.inl rfl) (Or.inr rfl))) (λ_ _ _ _=>(Jw (Zm Ya (Zu (Znd K) (Zu (Xt K) (pv 2) (Zj Yk (pv 0) Ze) (λ_ _=>rfl)) (Zj Z4 (pv 0) Ze) (λ_ _=>rfl)) (pv 1) (Zp _)))) (λ_ _ _=>rfl) (λ_ _ _ _ _ _=>Ym (pv 0)))
      (Zf (Z8 (Zm Ya (Zo Zl (by rfl) T.ae PySem.boot_len (Za (pv 4) Zb)) Ze (Zp _)) (Zh (Zn Z0)) Z3)
      (Zf (Z8 (Zm Ya (Zo Zl (by rfl) T.ae PySem.boot_len (Za (pv 4) Zb)) Ze (Zp _)) (Zh (Zn Z0)) Z3)
      (Zf (Z8 (Zm Ya (Zj Yk (Zu Zy (pv 4) Ze (λ_ _=>rfl)) Ze) (Zj Yk (Zu Zy (pv 4) Ze (λ_ _=>rfl)) Ze) (Zp _)) (Zh (Zn Z0)) Z3)
      (Zh (Zn Z0))))))),?_⟩
    obtain ⟨n,n1,n40,hn⟩:=td.n
    have hMl:=td.len
    unfold Yh at k
    refine Zz (λσ H'=>σ=[some (.ref m),some (.ref r),some (.int x),some (.str way),none]/\Same H H'/\(way="left"\/way="right")) (λnx hnx=>?_) ?_
    · refine ⟨_,rfl,(by show 2<=sizeLine; decide),λq hq=>⟨q,_,rfl,.inr (SqT.of Zc),rfl,rfl,_,rfl,?_⟩⟩
      show if (!inV (.str way) [.str "left",.str "right"])=true then _ else _
      rw [inV2]
      by_cases c:way="left"\/way="right"
      · rw [decide_eq_true c]
        exact iteF (hnx _ _ ⟨rfl,Same.new hq,c⟩)
      · rw [decide_eq_false c]
        have:=k _ (Same.new (o:=.tup [V.str "left",V.str "right"]) hq)
        rw [if_neg c] at this
        exact iteT this
    rintro σ H0 ⟨rfl,s0,hway⟩
    rw [if_pos hway] at k
    refine Zz (λσ H'=>∃ D:Addr,σ=[some (.ref m),some (.ref r),some (.int x),some (.str way),some (.ref D)]/\Same H0 H'/\H' D=some (.lst ((pl ns ns.length x).map nV))) (λnx hnx=>?_) ?_
    · refine ⟨_,rfl,m,_,rfl,.inl (SqL.of (s0 _ _ hm)),_,rfl,by omega,by rw [Ab]; omega,λD hD=>?_⟩
      have eL:(((M.map mV).length:Nat):Int).toNat=ns.length:=by simp [hMl]
      rw [eL]
      refine Jg (λi σ H1=>∃ v,σ=[v,some (.int x),some (.ref r)]/\Same H0 H1/\H1 D=some (.lst ((pl ns i x).map nV))) ⟨none,rfl,Same.new hD,Zc⟩ ?_ ?_
      · rintro i σ H1 hlt ⟨v,rfl,sm,h1⟩
        have e0:(0 + (i:Int))=(i:Int):=Int.zero_add _
        dsimp only [Zs]
        rw [e0]
        obtain ⟨y,hy⟩:∃ y,ns[i]?=some y:=⟨_,Ac hlt⟩
        obtain ⟨ts',q,e1,e2,e3,e4⟩:=Uq ((hr1.same s0).same sm) hy
        refine ⟨_,rfl,_,rfl,_,_,rfl,rfl,⟨by decide,by decide⟩,r,_,_,_,rfl,rfl,SqL.of e1,(by rw [div3]; exact Yi e2),_,rfl,_,_,rfl,rfl,(by show (0:Int) < 3; decide),q,_,_,_,rfl,rfl,SqT.of e3,(by rw [mod3]; exact Xd e4),_,rfl,rfl,_,rfl,?_⟩
        by_cases c:y=x
        · subst c
          rw [decide_eq_true rfl]
          refine iteT ⟨_,rfl,_,h1,?_,_,rfl,Same.add sm hD,?_⟩
          · rw [Ab]
            have:=List.length_filter_le (λj=>decide (ns[j]?=some y)) (List.range i)
            rw [List.length_range] at this
            exact Zv (by show (pl ns i y).length<=1000; unfold pl; omega)
          · rw [Zc,Zat hy,Aj]
            rfl
        · rw [decide_eq_false (λz=>c (by injection z))]
          refine iteF ⟨_,rfl,sm,?_⟩
          rw [h1,Gr (by rw [hy]; intro z; cases z; exact c rfl)]
      · rintro σ H1 ⟨v,rfl,sm,h1⟩
        exact hnx _ _ ⟨D,rfl,sm,h1⟩
    rintro σ H1 ⟨D,rfl,s1,h1⟩
    have k:=k H1 (s0.trans s1)
    rcases Zia td x with ⟨e,a,hp⟩ | ⟨e,a,b,hp,hab⟩ | ⟨e,a,b,hp,hab⟩ | ⟨e,hp⟩
    all_goals rw [hp] at h1; rw [e] at k
    · refine ⟨_,rfl,D,_,rfl,.inl (SqL.of h1),rfl,_,rfl,iteF ?_⟩
      exact ⟨_,rfl,D,_,rfl,.inl (SqL.of h1),rfl,_,rfl,iteT k⟩
    · refine ⟨_,rfl,D,_,rfl,.inl (SqL.of h1),rfl,_,rfl,iteF ?_⟩
      refine ⟨_,rfl,D,_,rfl,.inl (SqL.of h1),rfl,_,rfl,iteF ?_⟩
      refine ⟨_,rfl,D,_,_,_,rfl,rfl,SqL.of h1,rfl,_,_,rfl,rfl,⟨by decide,by decide⟩,_,rfl,D,_,_,_,rfl,rfl,SqL.of h1,rfl,_,_,rfl,rfl,⟨by decide,by decide⟩,rfl,_,rfl,?_⟩
      show if decide (V.int ((a:Int) / 3)=V.int ((b:Int) / 3))=true then _ else _
      rw [decide_eq_true (by rw [div3,div3,hab])]
      exact iteT k
    · refine ⟨_,rfl,D,_,rfl,.inl (SqL.of h1),rfl,_,rfl,iteF ?_⟩
      refine ⟨_,rfl,D,_,rfl,.inl (SqL.of h1),rfl,_,rfl,iteF ?_⟩
      refine ⟨_,rfl,D,_,_,_,rfl,rfl,SqL.of h1,rfl,_,_,rfl,rfl,⟨by decide,by decide⟩,_,rfl,D,_,_,_,rfl,rfl,SqL.of h1,rfl,_,_,rfl,rfl,⟨by decide,by decide⟩,rfl,_,rfl,?_⟩
      show if decide (V.int ((a:Int) / 3)=V.int ((b:Int) / 3))=true then _ else _
      rw [decide_eq_false (λz=>hab (by injection z with z; omega))]
      exact iteF k
    · exact ⟨_,rfl,D,_,rfl,.inl (SqL.of h1),rfl,_,rfl,iteT k⟩
theorem Ux {A B:Prop} {s s':Str} (e:s=s') (h:B):if (!decide (V.str s=V.str s'))=true then A else B:=by
 subst e
 rw [decide_eq_true rfl]
 exact iteF h
theorem Zfx (M:List (Option Nat)):PC M λ_=>0:=⟨λ_ _=>Int.le_refl _,λ_ _=>rfl,λ_ _ _=>rfl,λ_ _=>rfl,λ_ _=>by decide⟩
structure KL (K:W.Frag) (H:Hp) (a m r wd c:Addr) (sc:List Int) (M:List (Option Nat)) (ns:List Int) (ws:List Nat):Prop where
 scr:SqL K H a (sc.map V.int)
 hm:H m=some (.lst (M.map mV))
 rows:Yr H r ns
 hw:H wd=some (.lst (ws.map nV))
 hc:H c=some (.dK (dI (keys ns ns.length) λ_=>0))
theorem KL.same {K:W.Frag} {H H':Hp} {a m r wd c:Addr} {sc:List Int} {M:List (Option Nat)} {ns:List Int} {ws:List Nat} (h:KL K H a m r wd c sc M ns ws) (s:Same H H'):KL K H' a m r wd c sc M ns ws:=⟨s.seq h.scr,s _ _ h.hm,h.rows.same s,s _ _ h.hw,s _ _ h.hc⟩
noncomputable def Zke (K:W.Frag):Sp:=λvs H Q _=>∃ (a m r q wd c:Addr) (sc:List Int) (M:List (Option Nat)) (ns:List Int) (ws:List Nat) (y:Int) (way:Str),vs=[.ref a,.ref m,.ref r,.ref q,.ref wd,.ref c]/\KL K H a m r wd c sc M ns ws/\sc.length<=63/\TD M ns/\M.length<=42/\H q=some (.tup [.int y,.str way])/\(ws=[]\/Pl M ws)/\ws.length<=60/\∀ H',Same H H'->Q (.bl true) H'
theorem Xf:FnScope ["_law_script","_law_mates","_law_rows_here","_law_last","_law_word","_law_counts","_law_tent_here","_law_spots","_law_pick","_law_place","_law_moves","_law_ties","_law_names","_law_due_here","_law_door","_law_told_here"] ["_law_script","_law_mates","_law_rows_here","_law_last","_law_word","_law_counts"] (Zg Zbb):=Am
theorem Zgz (T:Txt w K mg t):FnOk P w K mg base (CXr P w) 11 t.fB t.fK ["_law_script","_law_mates","_law_rows_here","_law_last","_law_word","_law_counts"] (Zke K):=by
 refine T.fS.F.aR Xf (λ_ _ _ _ H vs Q E hr h=>?_)
 ·obtain ⟨a,m,r,q,wd,c,sc,M,ns,ws,y,way,rfl,kl,hl,td,h42,hq,hP,hw60,k⟩:=h
  refine ⟨_,(Zf (Zr (i:=6) Xf.nd rfl (Or.inl rfl) (Qo T.dQ (J9 T) (hr.mono (by decide)) rfl T.dO T.aI.b .nil Yz (Za (Yb Yv (by rfl) T.aC PySem.Pv.boot_list (Za (pv 2) Zb)) Zb)))
   (Zf (Zr (i:=7) Xf.nd rfl (Or.inl rfl) (pcT (Zi5 T) hr T.gK (Za (pv 1) Zb)))
   (Zf (Z8 (Zm Ya (Zo Zl (by rfl) T.ae PySem.boot_len (Za (pv 7) Zb)) Ze (Zp _)) (Zh (Zn Wd)) Z3)
   (Zf (Zr (i:=8) Xf.nd rfl (Or.inl rfl) (pcT (W5 T) hr T.aJ (Za (pv 0) (Za Ze Zb))))
   (Zf (Zr (i:=9) Xf.nd rfl (Or.inl rfl) (Zu Zy (pv 7) (Zj Z4 (Zj Yk (pv 8) Ze) (Zo Zl (by rfl) T.ae PySem.boot_len (Za (pv 7) Zb))) (λ_ _=>rfl)))
   (Zf (Zr (i:=10) Xf.nd rfl (Or.inl rfl) (Yo (Za (Xa (Za (pcT (Zi2 T) hr T.gL (Za (pv 2) (Za (pv 9) Zb))) (Za (pcT (Zk2 T) hr T.ip (Za (Qq Ya (Zj Z4 (pv 8) Ze) Ze (Zp _)) Zb)) Zb))) (Za (pv 3) Zb))))
   (Zf (Wc (pcT (Zgy T) hr T.fO (Za (pv 1) (Za (pv 2) (Za (pcT (Zg0 T) hr T.fP (Za (pv 1) (Za (pv 9) (Za (Qq Ya (Zj Z4 (pv 8) Ze) Ze (Zp _)) Zb)))) Zb)))) (Wk rfl (Zx (Zk (i:=11) Xf.nd rfl (Or.inl rfl)) (Zx (Zk (i:=12) Xf.nd rfl (Or.inl rfl)) Yy))))
   (Zf (Zr (i:=13) Xf.nd rfl (Or.inl rfl) (pcT (Gy T) hr T.dP (Za (pv 11) (Za (pv 12) (Za (Zu X5 (pv 3) Ze (λ_ _=>rfl)) (Za (Zu X5 (pv 3) Ze (λ_ _=>rfl)) Zb))))))
   (Zf (Y9 PassesOwn.never rfl (Yu rfl T.ah (Za Ze Zb)) (Zk (i:=14) Xf.nd rfl (Or.inl rfl)) (Zf (Zr (i:=15) Xf.nd rfl (Or.inl rfl) (pcT (Zd2 T) hr T.dG (Za (pv 14) (Za (pv 6) (Za (Yb Yv (by rfl) T.aC PySem.Pv.boot_list (Za (pv 10) Zb)) (Za (Yb Yv (by rfl) T.aC PySem.Pv.boot_list (Za (pv 4) Zb)) (Za (Yb Wt (by rfl) T.cL PySem.Pv.boot_dict (Za (pv 5) Zb)) Zb)))))))
   (Zh (Z8 (PW.pt (J1 (Zm J4 (pv 15) Z0 (Zp _)) (Je (Zm J4 (pv 15) (pv 13) (Zp _))))) (Zh (Zn Wd)) Z3))))
   (Zh (Zn Wd))))))))))),?_⟩
  obtain ⟨n,n1,n40,hn⟩:=td.n
  have hMl:=td.len
  obtain ⟨ts,g1,g2,g3⟩:=id kl.rows
  refine Z2 λnxC hnxC=>?_
  refine ⟨_,rfl,r,_,rfl,.inl (SqL.of g1),λl hl1=>?_⟩
  intro x dx hx hdx hne
  obtain ⟨rl2,s2⟩:=Zcs (C:=t.aa) g1 g2 g3 hl1 hx hdx
  refine ⟨x,l,dx,M,ns,rfl,Zc,rl2,td,by rw [td.len]; omega,λH3 old ta=>⟨rfl,?_⟩⟩
  have s3:Same H H3:=λb u e=>old b u (Zi ((Same.new hl1) b u e) hx) (s2 b u ((Same.new hl1) b u e))
  refine hnxC _ _ ?_
  have kl3:=kl.same s3
  clear rl2 s2 old hne g1 g2 g3 hdx hl1 hx kl
  try dsimp only [Zs]
  refine Z2 λnxC hnxC=>?_
  refine ⟨_,rfl,m,M,rfl,kl3.hm,by omega,td.inv,λfl H5 s5 hfl h5=>?_⟩
  refine hnxC _ _ ?_
  have s05:=s3.trans s5
  have kl5:=kl3.same s5
  have ta5:=ta.same s5
  clear kl3 ta s3 s5
  refine Z2 λnxC hnxC=>?_
  refine ⟨_,rfl,fl,_,rfl,.inl (SqL.of h5),rfl,_,rfl,?_⟩
  refine ite2 (λ_=>k H5 s05) (λz=>?_)
  have hne0:(Q1 M).length≠0:=by
   intro y
   exact z (by rw [Ab,y]; rfl)
  dsimp only [Wp]
  refine hnxC _ _ ?_
  refine Z2 λnxC hnxC=>?_
  refine ⟨_,rfl,a,sc,6,rfl,kl5.scr,hl,by decide,by decide,?_⟩
  refine hnxC _ _ ?_
  try dsimp only [Zs]
  generalize cell sc 6=pick
  have k0:=Int.emod_nonneg (pick / 2) (show ((Q1 M).length:Int)≠0 by omega)
  have k1:=Int.emod_lt_of_pos (pick / 2) (show (0:Int) < (Q1 M).length by omega)
  obtain ⟨kk,hkk⟩:∃ kk:Nat,pick / 2 % ((Q1 M).length:Int)=kk:=⟨_,(Int.toNat_of_nonneg k0).symm⟩
  have hkl:kk < (Q1 M).length:=by omega
  have hget:=Ac hkl
  refine Z2 λnxC hnxC=>?_
  refine ⟨_,rfl,_,rfl,_,_,rfl,rfl,⟨by decide,by decide⟩,_,rfl,fl,_,rfl,.inl (SqL.of h5),_,_,rfl,rfl,(by rw [Ab]; omega),fl,_,_,_,rfl,rfl,SqL.of h5,(by rw [Ab,hkk]; exact Yi hget),?_⟩
  refine hnxC _ _ ?_
  obtain ⟨j,hj,hqj,hcl⟩:=Zli (List.getElem_mem hkl)
  generalize (Q1 M)[kk]=i at hj hqj hcl ⊢
  have hiM:i < M.length:=(Aa hj).1
  have hjM:j < M.length:=(Aa (td.inv i j hj).1).1
  obtain ⟨nm,hnm⟩:∃ z,ns[i]?=some z:=⟨_,Ac (by omega)⟩
  have mvv:Mv M ns nm i j:=⟨hj,hqj,hnm,hcl⟩
  refine Zz (λσ H'=>∃ (q1 lm:Addr),σ=[some (.ref a),some (.ref m),some (.ref r),some (.ref q),some (.ref wd),some (.ref c),some (.ref x),some (.ref fl),some (.int pick),some (nV i),some (.ref lm),none,none,none,none,none]/\Same H5 H'/\H' q1=some (.tup [.int nm,.str (wayS (decide (V.int (pick % 2)=V.int 0)))])/\H' lm=some (.lst [.ref q1,.ref q])) (λnx hnx=>?_) ?_
  ·refine ⟨_,rfl,_,rfl,r,ns,i,nm,rfl,kl5.rows,hnm,?_⟩
   refine ⟨_,rfl,_,_,rfl,rfl,(by show (0:Int) < 2; decide),rfl,_,rfl,(by show 2<=sizeLine; decide),λq1 hq1=>?_⟩
   refine ⟨_,rfl,(by show 2<=sizeLine; decide),λlm hlm=>hnx _ _ ⟨q1,lm,rfl,(Same.new hq1).trans (Same.new hlm),Same.new hlm _ _ Zc,Zc⟩⟩
  rintro σ H6 ⟨q1,lm,rfl,s6,hq1,hlm⟩
  generalize hleft:decide (V.int (pick % 2)=V.int 0)=left at hq1
  have kl6:=kl5.same s6
  have ta6:=ta5.same s6
  have tdx:TD (exM left i j M) (exN left i j ns):=td.ex hiM hjM hcl left
  refine Z2 λnxC hnxC=>?_
  refine ⟨_,rfl,_,rfl,_,rfl,_,rfl,_,rfl,_,_,rfl,rfl,(by show (0:Int) < 2; decide),rfl,m,M,n,i,j,left,(by rw [<- hleft]; rfl),kl6.hm,hn,n40,hj,(td.inv i j hj).1,hcl,λgl H7 s7 hgl h7=>?_⟩
  have kl7:=kl6.same s7
  refine ⟨m,r,gl,M,ns,i,j,left,rfl,kl7.hm,kl7.rows,h7,td,hiM,hjM,hcl,λp9 m9 r9 H9 s9 hp9 hm9 hr9=>?_⟩
  refine ⟨p9,_,rfl,SqT.of hp9,rfl,_,_,rfl,_,_,rfl,rfl,?_⟩
  refine hnxC _ _ ?_
  have s69:=s7.trans s9
  have kl9:=kl6.same s69
  have ta9:=ta6.same s69
  have hq9:=(s6.trans s69) _ _ (s05 _ _ hq)
  try dsimp only [Zs]
  refine Zz (λσ H'=>σ=[some (.ref a),some (.ref m),some (.ref r),some (.ref q),some (.ref wd),some (.ref c),some (.ref x),some (.ref fl),some (.int pick),some (nV i),some (.ref lm),some (.ref m9),some (.ref r9),some (.str (oT (Yh (exN left i j ns) y way))),none,none]/\Same H9 H') (λnx hnx=>?_) ?_
  ·exact ⟨_,rfl,_,rfl,_,rfl,q,_,_,V.int y,rfl,rfl,SqT.of hq9,rfl,_,rfl,q,_,_,V.str way,rfl,rfl,SqT.of hq9,rfl,m9,r9,_,_,y,way,rfl,hm9,hr9,tdx,λH' s'=>hnx _ _ ⟨rfl,s'⟩⟩
  rintro σ H10 ⟨rfl,s10⟩
  have kl10:=kl9.same s10
  have ta10:=ta9.same s10
  have run:RunM M ns [(nm,wayS left),(y,way)] (Yh (exN left i j ns) y way):=by
   refine .ok ?_ mvv ?_
   ·unfold Yh
    rw [if_pos (Zhj left)]
    exact Zm7 td mvv
   ·rw [Zfi]
    exact run1 tdx y way
  have s610:=s69.trans s10
  have hlm10:=s610 _ _ hlm
  have hq110:=s610 _ _ hq1
  have hq10:=s10 _ _ hq9
  refine Zz (λσ H'=>Same H10 H') (λnx hnx=>?_) ?_
  ·refine ⟨_,rfl,by decide,by decide,?_⟩
   refine Xy (n:=3) (λd σ H'=>∃ v14 v15:Option V,σ=[some (.ref a),some (.ref m),some (.ref r),some (.ref q),some (.ref wd),some (.ref c),some (.ref x),some (.ref fl),some (.int pick),some (nV i),some (.ref lm),some (.ref m9),some (.ref r9),some (.str (oT (Yh (exN left i j ns) y way))),v14,v15]/\Same H10 H') ⟨none,none,rfl,Same.refl _⟩ ?_ ?_
   ·rintro d σ H' hd ⟨v14,v15,rfl,s'⟩
    dsimp only [Zs]
    rw [Int.zero_add]
    have kl':=kl10.same s'
    refine Zz (λσ H2=>∃ u:Str,σ=[some (.ref a),some (.ref m),some (.ref r),some (.ref q),some (.ref wd),some (.ref c),some (.ref x),some (.ref fl),some (.int pick),some (nV i),some (.ref lm),some (.ref m9),some (.ref r9),some (.str (oT (Yh (exN left i j ns) y way))),some (.int d),some (.str u)]/\Same H10 H2/\(u="left out"\/u=oT (Yh (exN left i j ns) y way))) (λnx2 hnx2=>?_) ?_
    ·refine ⟨_,rfl,_,rfl,_,rfl,lm,_,rfl,.inl (SqL.of (s' _ _ hlm10)),λl2 hl2=>?_⟩
     have t1:=s'.trans (Same.new (o:=.lst [.ref q1,.ref q]) hl2)
     refine ⟨_,rfl,wd,_,rfl,.inl (SqL.of (kl10.same t1).hw),λw2 hw2=>?_⟩
     have t2:=t1.trans (Same.new (o:=.lst (ws.map nV)) hw2)
     refine ⟨_,rfl,c,_,rfl,.inl (kl10.same t2).hc,λc2 hc2=>?_⟩
     have t3:=t2.trans (Same.new (o:=.dK (dI (keys ns ns.length) λ_=>0)) hc2)
     have e1:=(Same.new (o:=.lst (ws.map nV)) hw2).trans (Same.new (o:=.dK (dI (keys ns ns.length) λ_=>0)) hc2)
     refine ⟨d,x,l2,w2,c2,M,ns,ws,λ_=>0,λ_=>0,[(nm,wayS left),(y,way)],_,rfl,by omega,⟨ta10.same t3,td,by omega,Same.new hc2 _ _ Zc,hP,by omega,⟨_,Zc,List.Perm.refl _⟩,λ_ _ _=>rfl,Zfx M⟩,⟨[q1,q],e1 _ _ Zc,rfl,λk t' z z1 z2=>?_⟩,(by show 2<=2; decide),run,λ_ H'' s''=>hnx2 _ _ ⟨_,rfl,t3.trans s'',.inl rfl⟩,λ_ H'' s''=>hnx2 _ _ ⟨_,rfl,t3.trans s'',.inr rfl⟩⟩
     match k,z1,z2 with
     | 0,z1,z2=>cases z1; cases z2; exact t3 _ _ hq110
     | 1,z1,z2=>cases z1; cases z2; exact t3 _ _ hq10
     | k + 2,z1,z2=>cases z1
    rintro σ H2 ⟨u,rfl,s2,hu⟩
    refine ⟨_,rfl,rfl,_,rfl,?_⟩
    rcases hu with rfl | rfl
    ·exact Ux rfl ⟨_,_,rfl,s2⟩
    ·exact ite2 (λ_=>⟨_,rfl,_,rfl,rfl,_,rfl,Ux rfl ⟨_,_,rfl,s2⟩⟩) (λ_=>⟨_,_,rfl,s2⟩)
   ·rintro σ H' ⟨v14,v15,rfl,s'⟩
    exact hnx _ _ s'
  ·rintro σ H' s'
   exact k _ (s05.trans (s6.trans (s610.trans s')))
theorem Xj:FnScope ["_law_script","_law_mates","_law_rows_here","_law_pick","_law_place","_law_seam_here","_law_way_here","_law_word","_law_counts","_law_worths","_law_p","_law_tent_here","_law_due_here","_law_door","_law_told_here"] ["_law_script"] (Zg Zlv):=Am
theorem ok_law (T:Txt w K mg t):FnOk P w K mg base (CXr P w) 12 t.iL t.iz ["_law_script"] (sp_law K):=by
 refine T.iM.F.aR Xj (λ_ _ _ _ H vs Q E hr h=>?_)
 ·obtain ⟨a,sc,rfl,hS,hl,k⟩:=h
  have hu:=Ww hr
  refine ⟨_,(Zf (Wc (pcT (Zi0 T) hr T.gO (Za (pv 0) Zb)) (Wk rfl (Zx (Zk (i:=1) Xj.nd rfl (Or.inl rfl)) (Zx (Zk (i:=2) Xj.nd rfl (Or.inl rfl)) Yy))))
   (Zf (Zr (i:=3) Xj.nd rfl (Or.inl rfl) (pcT (W5 T) hr T.aJ (Za (pv 0) (Za Ze Zb))))
   (Zf (Zr (i:=4) Xj.nd rfl (Or.inl rfl) (Zj Z4 (Zj Yk (pv 3) Ze) (Zo Zl (by rfl) T.ae PySem.boot_len (Za (pv 1) Zb))))
   (Zf (Zr (i:=5) Xj.nd rfl (Or.inl rfl) (Zu X5 (Zu Zy (pv 2) (Zj Yk (pv 4) Ze) (λ_ _=>rfl)) (Zj Z4 (pv 4) Ze) (λ_ _=>rfl)))
   (Zf (Z8 (Zm Ya (Zj Z4 (pv 3) Ze) Ze (Zp _)) (Zh (Zr (i:=5) Xj.nd rfl (Or.inl rfl) (Zj Z4 (Zj Yk (pv 3) Ze) Ze))) Z3)
   (Zf (Zr (i:=6) Xj.nd rfl (Or.inl rfl) (Zu X5 (Xa (Za Z0 (Za Z0 (Za Z0 (Za Z0 (Za Z0 (Za Z0 (Za Z0 (Za Z0 Zb))))))))) (Zj Z4 (pcT (W5 T) hr T.aJ (Za (pv 0) (Za Ze Zb))) Ze) (λ_ _=>rfl)))
   (Zf (Zr (i:=7) Xj.nd rfl (Or.inl rfl) (pcT (Ze7 T) hr T.eV (Za (pv 0) (Za Ze (Za (pv 1) Zb)))))
   (Zf (Zr (i:=8) Xj.nd rfl (Or.inl rfl) Vr)
   (Zf (Zr (i:=9) Xj.nd rfl (Or.inl rfl) Vr)
   (Zf (Y9 PassesOwn.never rfl (Yu rfl T.ah (Za (Zo Zl (by rfl) T.ae PySem.boot_len (Za (pv 1) Zb)) Zb)) (Zk (i:=10) Xj.nd rfl (Or.inl rfl)) (Zf (Us hu (pv 8) (Zu X5 (Zu Zy (pv 2) (Zj Yk (pv 10) Ze) (λ_ _=>rfl)) (Zj Z4 (pv 10) Ze) (λ_ _=>rfl)) Ze rfl)
   (Zh (Z8 (Zm Qs (Zu Zy (pv 1) (pv 10) (λ_ _=>rfl)) Jm (Zp _)) (Zh (Us hu (pv 9) (Zu X5 (Zu Zy (pv 2) (Zj Yk (pv 10) Ze) (λ_ _=>rfl)) (Zj Z4 (pv 10) Ze) (λ_ _=>rfl)) (Xa (Za (Zj Yf Ze (pv 10)) (Za Ze Zb))) rfl)) Z3))))
   (Zf (Zr (i:=11) Xj.nd rfl (Or.inl rfl) (Qo T.dQ (J9 T) (hr.mono (by decide)) rfl T.dO T.aI.b .nil Yz (Za (Yb Yv (by rfl) T.aC PySem.Pv.boot_list (Za (pv 2) Zb)) Zb)))
   (Zf (Zr (i:=12) Xj.nd rfl (Or.inl rfl) (pcT (Gy T) hr T.dP (Za (pv 1) (Za (pv 2) (Za (pv 5) (Za (pv 6) Zb))))))
   (Zf (Y9 PassesOwn.never rfl (Yu rfl T.ah (Za Ze Zb)) (Zk (i:=13) Xj.nd rfl (Or.inl rfl)) (Zf (Zr (i:=14) Xj.nd rfl (Or.inl rfl) (pcT (Zbk T) hr T.eX (Za (pv 13) (Za (pv 11) (Za (pv 5) (Za (pv 6) (Za (Yb Yv (by rfl) T.aC PySem.Pv.boot_list (Za (pv 7) Zb)) (Za (Yb Wt (by rfl) T.cL PySem.Pv.boot_dict (Za (pv 8) Zb)) (Za (Yb Wt (by rfl) T.cL PySem.Pv.boot_dict (Za (pv 9) Zb)) Zb)))))))))
   (Zh (Z8 (PW.pt (J1 (Zm J4 (pv 14) Z0 (Zp _)) (Je (Zm J4 (pv 14) (pv 12) (Zp _))))) (Zh (Zn Wd)) Z3))))
   (Zf (Zr (i:=12) Xj.nd rfl (Or.inl rfl) (pcT (Gy T) hr T.dP (Za (pv 1) (Za (pv 2) (Za (pv 5) (Za Z0 Zb))))))
   (Zf (Y9 PassesOwn.never rfl (Zir rfl T.ah (Za Ze (Za Ze Zb))) (Zk (i:=13) Xj.nd rfl (Or.inl rfl)) (Zh (Z8 (Zm J4 (pcT (Zbk T) hr T.eX (Za (pv 13) (Za (pv 11) (Za (pv 5) (Za (pv 6) (Za (Yb Yv (by rfl) T.aC PySem.Pv.boot_list (Za (pv 7) Zb)) (Za (Yb Wt (by rfl) T.cL PySem.Pv.boot_dict (Za (pv 8) Zb)) (Za (Yb Wt (by rfl) T.cL PySem.Pv.boot_dict (Za (pv 9) Zb)) Zb)))))))) (pv 12) (Zp _)) (Zh (Zn Wd)) Z3)))
   (Zf (Z8 (Wu (X9 (pcT (Zgz T) hr T.fS (Za (pv 0) (Za (pv 1) (Za (pv 2) (Za (Xa (Za (pv 5) (Za (pv 6) Zb))) (Za (pv 7) (Za (pv 8) Zb))))))))) (Zh (Zn Wd)) Z3)
   (Zh (Zn (pcT (Ze8 T) hr T.eW (Za (Qn (pv 11) T.ac T.ao.m (J8 T) (hr.mono (by decide)) T.ao.b .nil Yz) (Za (pv 2) Zb))))))))))))))))))))),?_⟩
  refine Z2 λnxC hnxC=>?_
  refine ⟨_,rfl,a,sc,rfl,hS,hl,λpq m r M ns H1 sm1 hp hm hr1 td h42 hm0 hr0=>?_⟩
  refine ⟨pq,_,rfl,SqT.of hp,rfl,_,_,rfl,_,_,rfl,rfl,?_⟩
  refine hnxC _ _ ?_
  have hMl:=td.len
  obtain ⟨n,n1,n40,hn⟩:=td.n
  have hS1:SqL K H1 a (sc.map V.int):=sm1.seq hS
  clear hm0 hr0 hS hp
  try dsimp only [Zs]
  refine Z2 λnxC hnxC=>?_
  refine ⟨_,rfl,a,sc,3,rfl,hS1,hl,by decide,by decide,?_⟩
  refine hnxC _ _ ?_
  try dsimp only [Zs]
  generalize cell sc 3=pick
  have q0:=Int.emod_nonneg (pick / 4) (show ((M.length:Nat):Int)≠0 by omega)
  have q1:=Int.emod_lt_of_pos (pick / 4) (show (0:Int) < (M.length:Nat) by omega)
  obtain ⟨pn,hpn⟩:∃ pn:Nat,pick / 4 % ((M.length:Nat):Int)=pn:=⟨_,(Int.toNat_of_nonneg q0).symm⟩
  obtain ⟨y0,hy0⟩:∃ y,ns[pn]?=some y:=⟨_,Ac (by omega)⟩
  refine Zz (λσ H'=>σ=[some (.ref a),some (.ref m),some (.ref r),some (.int pick),some (.int pn),none,none,none,none,none,none,none,none,none,none]/\H1=H') (λnx hnx=>?_) ?_
  ·refine ⟨_,rfl,_,_,rfl,rfl,⟨by decide,by decide⟩,_,rfl,m,_,rfl,.inl (SqL.of hm),_,_,rfl,rfl,(by rw [Ab]; omega),hnx _ _ ⟨?_,rfl⟩⟩
   rw [Ab]
   show [some (V.ref a),some (V.ref m),some (V.ref r),some (V.int pick),some (V.int (pick / 4 % ((M.length:Nat):Int))),none,none,none,none,none,none,none,none,none,none]=_
   rw [hpn]
  rintro σ H4 ⟨rfl,rfl⟩
  refine Zz (λσ H'=>σ=[some (.ref a),some (.ref m),some (.ref r),some (.int pick),some (.int pn),some (.int y0),none,none,none,none,none,none,none,none,none]/\H1=H') (λnx hnx=>?_) ?_
  ·obtain ⟨ts',q,e1,e2,e3,e4⟩:=Uq hr1 hy0
   exact ⟨_,rfl,_,rfl,_,_,rfl,rfl,⟨by decide,by decide⟩,r,_,_,_,rfl,rfl,SqL.of e1,(by rw [div3]; exact Yi e2),_,rfl,_,_,rfl,rfl,(by show (0:Int) < 3; decide),q,_,_,_,rfl,rfl,SqT.of e3,(by rw [mod3]; exact Xd e4),hnx _ _ ⟨rfl,rfl⟩⟩
  rintro σ H4 ⟨rfl,rfl⟩
  refine Zz (λσ H'=>∃ y:Int,σ=[some (.ref a),some (.ref m),some (.ref r),some (.int pick),some (.int pn),some (.int y),none,none,none,none,none,none,none,none,none]/\H1=H') (λnx hnx=>?_) ?_
  ·refine ⟨_,rfl,_,_,rfl,rfl,(by show (0:Int) < 4; decide),rfl,_,rfl,?_⟩
   refine ite2 (λ_=>?_) (λ_=>hnx _ _ ⟨y0,rfl,rfl⟩)
   exact ⟨_,rfl,_,_,rfl,rfl,⟨by decide,by decide⟩,_,_,rfl,rfl,(by show (0:Int) < 10000; decide),hnx _ _ ⟨_,rfl,rfl⟩⟩
  rintro σ H4 ⟨y,rfl,rfl⟩
  refine Zz (λσ H'=>∃ way:Str,σ=[some (.ref a),some (.ref m),some (.ref r),some (.int pick),some (.int pn),some (.int y),some (.str way),none,none,none,none,none,none,none,none]/\Same H1 H') (λnx hnx=>?_) ?_
  ·refine ⟨(by show 8<=sizeLine; decide),λq hq=>?_⟩
   refine ⟨_,rfl,a,sc,4,rfl,(Same.new hq).seq hS1,hl,by decide,by decide,_,_,rfl,rfl,(by show (0:Int) < 8; decide),?_⟩
   have h0:=Int.emod_nonneg (cell sc 4) (show (8:Int)≠0 by decide)
   have h3:=Int.emod_lt_of_pos (cell sc 4) (show (0:Int) < 8 by decide)
   obtain ⟨kk,hkk⟩:∃ kk:Nat,cell sc 4 % 8=kk:=⟨_,(Int.toNat_of_nonneg h0).symm⟩
   obtain ⟨wv,hwv⟩:∃ wv:Str,([V.str "left",V.str "right",V.str "left",V.str "right",V.str "Right",V.str "",V.str "other",V.str "lefts"]:List V)[kk]?=some (V.str wv):=by
    have hk8:kk < 8:=by omega
    match kk,hk8 with
    | 0,_=>exact ⟨_,rfl⟩
    | 1,_=>exact ⟨_,rfl⟩
    | 2,_=>exact ⟨_,rfl⟩
    | 3,_=>exact ⟨_,rfl⟩
    | 4,_=>exact ⟨_,rfl⟩
    | 5,_=>exact ⟨_,rfl⟩
    | 6,_=>exact ⟨_,rfl⟩
    | 7,_=>exact ⟨_,rfl⟩
   exact ⟨q,_,_,V.str wv,rfl,rfl,SqT.of Zc,(by rw [hkk]; exact Xd hwv),hnx _ _ ⟨_,rfl,Same.new hq⟩⟩
  rintro σ H5 ⟨way,rfl,s5⟩
  have hm5:=s5 _ _ hm
  have hr5:=hr1.same s5
  have hS5:=s5.seq hS1
  clear hm hr1 hS1 s5 sm1
  refine Zz (λσ H'=>∃ (wd:Addr) (ws:List Nat),σ=[some (.ref a),some (.ref m),some (.ref r),some (.int pick),some (.int pn),some (.int y),some (.str way),some (.ref wd),none,none,none,none,none,none,none]/\Same H5 H'/\H' wd=some (.lst (ws.map nV))/\ws.length<=60/\(ws=[]\/Pl M ws)) (λnx hnx=>⟨_,rfl,_,rfl,a,m,sc,5,M,rfl,hS5,hl,by decide,by decide,hm5,h42,⟨_,hn⟩,td.inv,λwd ws H' s' _ h' hw hp=>hnx _ _ ⟨wd,ws,rfl,s',h',hw,hp⟩⟩) ?_
  rintro σ H6 ⟨wd,ws,rfl,s6,hwd,hw60,hP⟩
  have hm6:=s6 _ _ hm5
  have hr6:=hr5.same s6
  have hS6:=s6.seq hS5
  clear hm5 hr5 hS5 s6
  refine Zz (λσ H'=>∃ d:Addr,σ=[some (.ref a),some (.ref m),some (.ref r),some (.int pick),some (.int pn),some (.int y),some (.str way),some (.ref wd),some (.ref d),none,none,none,none,none,none]/\H6 d=none/\H'=upd H6 d (.dK [])) (λnx hnx=>λd hd=>hnx _ _ ⟨d,rfl,hd,rfl⟩) ?_
  rintro σ H7 ⟨d,rfl,hd,rfl⟩
  refine Zz (λσ H'=>∃ e:Addr,σ=[some (.ref a),some (.ref m),some (.ref r),some (.int pick),some (.int pn),some (.int y),some (.str way),some (.ref wd),some (.ref d),some (.ref e),none,none,none,none,none]/\H6 e=none/\e≠d/\H'=upd (upd H6 d (.dK [])) e (.dK [])) (λnx hnx=>λe he=>hnx _ _ ⟨e,rfl,(Xl he).2,(Xl he).1,rfl⟩) ?_
  rintro σ H8 ⟨e,rfl,he,hed,rfl⟩
  have s8:Same H6 (upd (upd H6 d (.dK [])) e (.dK [])):=Same.add (Same.new hd) he
  have d8:(upd (upd H6 d (.dK [])) e (.dK [])) d=some (.dK []):=by rw [Zd (Ne.symm hed),Zc]
  have e8:WAt (upd (upd H6 d (.dK [])) e (.dK [])) e [] (λ_=>(1,1)):=⟨λ_=>0,Zc,λx hx=>absurd hx List.not_mem_nil⟩
  generalize upd (upd H6 d (.dK [])) e (.dK [])=H8 at s8 d8 e8 ⊢
  refine Zz (λσ H'=>∃ (v:Option V) (ks:List Int) (gw:Int->Nat × Nat),σ=[some (.ref a),some (.ref m),some (.ref r),some (.int pick),some (.int pn),some (.int y),some (.str way),some (.ref wd),some (.ref d),some (.ref e),v,none,none,none,none]/\Same H6 H'/\H' d=some (.dK (dI (keys ns ns.length) λ_=>0))/\WAt H' e ks gw/\SwK M ns ks/\∀ z,okG gw z) (λnx hnx=>?_) ?_
  ·refine ⟨_,rfl,m,_,rfl,.inl (SqL.of (s8 _ _ hm6)),_,rfl,by omega,by rw [Ab]; omega,?_⟩
   have eL:(((M.map mV).length:Nat):Int).toNat=ns.length:=by simp [hMl]
   rw [eL]
   have one:okG (λ_=>(1,1)) 0:=⟨by decide,by decide,Nat.one_lt_two_pow (by decide),Nat.one_lt_two_pow (by decide)⟩
   refine Xy (n:=ns.length) (λi σ H'=>∃ (v:Option V) (ks:List Int) (gw:Int->Nat × Nat),σ=[some (.ref a),some (.ref m),some (.ref r),some (.int pick),some (.int pn),some (.int y),some (.str way),some (.ref wd),some (.ref d),some (.ref e),v,none,none,none,none]/\Same H6 H'/\H' d=some (.dK (dI (keys ns i) λ_=>0))/\WAt H' e ks gw/\ks.length<=i/\ks.Nodup/\(∀ z,z∈ks ↔ ∃ p j:Nat,p < i/\M[p]?=some (some j)/\ns[p]?=some z)/\∀ z,okG gw z) ⟨none,[],_,rfl,s8,d8,e8,An _,List.nodup_nil,λz=>⟨λh=>absurd h List.not_mem_nil,λ⟨p,j,h,_⟩=>absurd h (Nat.not_lt_zero _)⟩,λ_=>one⟩ ?_ ?_
   ·rintro i σ H' hi ⟨v,ks,gw,rfl,s',hd',hw',hkl,nd,mem,okg⟩
    dsimp only [Zs]
    rw [Int.zero_add]
    obtain ⟨z,hz⟩:∃ z,ns[i]?=some z:=⟨_,Ac hi⟩
    obtain ⟨my,hmy⟩:∃ z,M[i]?=some z:=⟨_,Ac (by omega)⟩
    refine Zz (λσ H2=>σ=[some (.ref a),some (.ref m),some (.ref r),some (.int pick),some (.int pn),some (.int y),some (.str way),some (.ref wd),some (.ref d),some (.ref e),some (.int i),none,none,none,none]/\Same H6 H2/\H2 d=some (.dK (dI (keys ns (i + 1)) λ_=>0))/\WAt H2 e ks gw) (λnx2 hnx2=>?_) ?_
    ·obtain ⟨ts',q,e1,e2,e3,e4⟩:=Uq (hr6.same s') hz
     refine ⟨_,rfl,?_⟩
     refine ⟨_,rfl,_,rfl,_,_,rfl,rfl,⟨by decide,by decide⟩,r,_,_,_,rfl,rfl,SqL.of e1,(by rw [div3]; exact Yi e2),_,rfl,_,_,rfl,rfl,(by show (0:Int) < 3; decide),q,_,_,_,rfl,rfl,SqT.of e3,(by rw [mod3]; exact Xd e4),?_⟩
     refine ⟨d,_,rfl,DPut.k (k:=Sum.inl z) hd' (by rw [Zjw]; exact Zv (by have:=Kr ns i; omega)),?_⟩
     obtain ⟨ad,w1,w2⟩:=hw'
     refine hnx2 _ _ ⟨rfl,Same.add s' hd,?_,ad,by rw [Zd hed]; exact w1,λx hx=>by rw [Zd (λz'=>by have:=w2 x hx; rw [z',hd'] at this; cases this)]; exact w2 x hx⟩
     rw [Zc,W9 hz]
     by_cases c:z∈keys ns i
     ·rw [if_pos c,Zjv c]
      exact congrArg (λl=>some (HO.dK l)) (Zel λw _=>by split <;> rfl)
     ·rw [if_neg c,Zow c]
      exact congrArg (λl=>some (HO.dK l)) (Zel λw _=>by split <;> rfl)
    rintro σ H2 ⟨rfl,s2,hd2,hw2⟩
    refine ⟨_,rfl,_,rfl,m,_,_,_,rfl,rfl,SqL.of (s2 _ _ hm6),Yi hmy,rfl,_,rfl,?_⟩
    have old:∀ {q:Int},(∃ p j:Nat,p < i + 1/\M[p]?=some (some j)/\ns[p]?=some q)->(∃ p j:Nat,p < i/\M[p]?=some (some j)/\ns[p]?=some q)\/∃ j,M[i]?=some (some j)/\ns[i]?=some q:=λ{q} ⟨p,j,h1,h2,h3⟩=>by
     rcases Nat.lt_or_ge p i with hh | hh
     ·exact .inl ⟨p,j,hh,h2,h3⟩
     ·have:p=i:=by omega
      subst this; exact .inr ⟨j,h2,h3⟩
    cases my with
    | none =>
     refine iteF ⟨_,ks,gw,rfl,s2,hd2,hw2,by omega,nd,λq=>?_,okg⟩
     rw [mem]
     refine ⟨λ⟨p,j,h1,h2⟩=>⟨p,j,by omega,h2⟩,λh=>(old h).resolve_right λzz9=>?_⟩
     obtain ⟨j,h2,_⟩:=zz9
     rw [hmy] at h2; cases h2
    | some j =>
     refine iteT ?_
     refine ⟨_,rfl,_,_,rfl,rfl,(by show 2<=sizeLine; decide),λq9 hq9=>⟨_,rfl,?_⟩⟩
     have sq:=Same.new (o:=.tup [V.int (1 + (i:Int)),V.int 2]) hq9
     have hq0:(upd H2 q9 (.tup [V.int (1 + (i:Int)),V.int 2])) q9=some (tp (1 + i,2)):=by rw [Zc]; rfl
     have s9:=s2.trans sq
     obtain ⟨ad,w1,w2⟩:=hw2.same sq
     have hd9:=sq _ _ hd2
     generalize upd H2 q9 (.tup [V.int (1 + (i:Int)),V.int 2])=H9 at sq hq0 s9 w1 w2 hd9 ⊢
     obtain ⟨ts',q,e1,e2,e3,e4⟩:=Uq (hr6.same s9) hz
     refine ⟨_,rfl,_,rfl,_,_,rfl,rfl,⟨by decide,by decide⟩,r,_,_,_,rfl,rfl,SqL.of e1,(by rw [div3]; exact Yi e2),_,rfl,_,_,rfl,rfl,(by show (0:Int) < 3; decide),q,_,_,_,rfl,rfl,SqT.of e3,(by rw [mod3]; exact Xd e4),?_⟩
     refine ⟨e,_,rfl,DPut.k (k:=Sum.inl z) w1 (by rw [Uh]; exact Zv (by omega)),?_⟩
     have okg':∀ q,okG (putG gw z (1 + i,2)) q:=λq=>by
      unfold okG putG
      by_cases c:q=z
      ·rw [if_pos c]
       refine ⟨by show 1<=1 + i; omega,(by show 1<=2; decide),Ag (show 1 + i < 2 ^ 10 by omega) (Nat.pow_le_pow_right (by decide) (by decide)),Ag (show 2 < 2 ^ 10 by decide) (Nat.pow_le_pow_right (by decide) (by decide))⟩
      ·rw [if_neg c]; exact okg q
     have dne:(upd H9 e (.dK (putK (wD ks ad) (Sum.inl z) (V.ref q9)))) d=some (.dK (dI (keys ns (i + 1)) λ_=>0)):=by rw [Zd (Ne.symm hed)]; exact hd9
     by_cases c:z∈ks
     ·refine ⟨_,ks,_,rfl,Same.add s9 he,dne,WAt.put w1 w2 hq0 c,by omega,nd,λq=>?_,okg'⟩
      rw [mem]
      refine ⟨λ⟨p,j,h1,h2⟩=>⟨p,j,by omega,h2⟩,λh=>(old h).elim id λzz9=>?_⟩
      obtain ⟨j',h2,h3⟩:=zz9
      rw [hz] at h3; cases h3
      exact (mem z).mp c
     ·refine ⟨_,ks ++ [z],_,rfl,Same.add s9 he,dne,WAt.new w1 w2 hq0 c,by rw [Ae,At]; omega,List.nodup_append.mpr ⟨nd,List.nodup_cons.mpr ⟨by simp,List.nodup_nil⟩,λu hu u' hu'=>by rw [Af hu']; exact λe'=>c (e' ▸ hu)⟩,λq=>?_,okg'⟩
      rw [List.mem_append,List.mem_singleton,mem]
      constructor
      ·rintro (⟨p,j,h1,h2⟩ | rfl)
       ·exact ⟨p,j,by omega,h2⟩
       ·exact ⟨i,j,by omega,hmy,hz⟩
      ·intro h
       refine (old h).imp id λzz9=>?_
       obtain ⟨j',h2,h3⟩:=zz9
       rw [hz] at h3; cases h3; rfl
   ·rintro σ H' ⟨v,ks,gw,rfl,s',hd',hw',hkl,nd,mem,okg⟩
    refine hnx _ _ ⟨v,ks,gw,rfl,s',hd',hw',⟨nd,λz=>(mem z).trans ⟨λ⟨p,j,_,h2⟩=>⟨p,j,h2⟩,λzz39=>?_⟩⟩,okg⟩
    obtain ⟨p,j,h2⟩:=zz39
    refine ⟨p,j,(Aa h2.2).1,h2⟩
  rintro σ H9 ⟨v,ks,gw,rfl,s9,hd9,hw9,sw,okg⟩
  have kl9:KL K H9 a m r wd d sc M ns ws:=⟨s9.seq hS6,s9 _ _ hm6,hr6.same s9,s9 _ _ hwd,hd9⟩
  clear s8 d8 e8 hd he hd9 hS6 hm6 hr6 hwd s9
  obtain ⟨ts,g1,g2,g3⟩:=id kl9.rows
  refine Zz (λσ H'=>∃ x:Addr,σ=[some (.ref a),some (.ref m),some (.ref r),some (.int pick),some (.int pn),some (.int y),some (.str way),some (.ref wd),some (.ref d),some (.ref e),v,some (.ref x),none,none,none]/\Same H9 H'/\Z1 t.aa H' x M ns) (λnx hnx=>?_) ?_
  ·refine ⟨_,rfl,r,_,rfl,.inl (SqL.of g1),λl hl1=>?_⟩
   intro x dx hx hdx hne
   obtain ⟨rl2,s2⟩:=Zcs (C:=t.aa) g1 g2 g3 hl1 hx hdx
   refine ⟨x,l,dx,M,ns,rfl,Zc,rl2,td,by rw [td.len]; omega,λH3 old ta=>⟨rfl,?_⟩⟩
   exact hnx _ _ ⟨x,rfl,λb u e=>old b u (Zi ((Same.new hl1) b u e) hx) (s2 b u ((Same.new hl1) b u e)),ta⟩
  rintro σ H10 ⟨x,rfl,s10,ta10⟩
  have kl10:=kl9.same s10
  have hw10:=hw9.same s10
  clear kl9 hw9 g1 g2 g3 s10
  have door:∀ {H':Hp},Same H10 H'->∀ {wd' c' wo':Addr},H' wd'=none->(upd H' wd' (.lst (ws.map nV))) c'=none->(upd (upd H' wd' (.lst (ws.map nV))) c' (.dK (dI (keys ns ns.length) λ_=>0))) wo'=none->∀ {ad:Int->Addr},(∀ z∈ks,H' (ad z)=some (tp (gw z))) ->
    Same H10 (upd (upd (upd H' wd' (.lst (ws.map nV))) c' (.dK (dI (keys ns ns.length) λ_=>0))) wo' (.dK (wD ks ad)))/\Din t (upd (upd (upd H' wd' (.lst (ws.map nV))) c' (.dK (dI (keys ns ns.length) λ_=>0))) wo' (.dK (wD ks ad))) x wd' c' M ns ws (λ_=>0) (λ_=>0)/\WAt (upd (upd (upd H' wd' (.lst (ws.map nV))) c' (.dK (dI (keys ns ns.length) λ_=>0))) wo' (.dK (wD ks ad))) wo' ks gw:=λ{H'} s' {wd' c' wo'} h1 h2 h3 {ad} had=>by
   have t1:=Same.new (o:=.lst (ws.map nV)) h1
   have t2:=Same.new (o:=.dK (dI (keys ns ns.length) λ_=>0)) h2
   have t3:=Same.new (o:=.dK (wD ks ad)) h3
   have t:=s'.trans (t1.trans (t2.trans t3))
   exact ⟨t,⟨ta10.same t,td,by omega,(t2.trans t3) _ _ Zc,hP,by omega,⟨_,t3 _ _ Zc,List.Perm.refl _⟩,λ_ _ _=>rfl,Zfx M⟩,⟨ad,Zc,λz hz=>(t1.trans (t2.trans t3)) _ _ (had z hz)⟩⟩
  refine Zz (λσ H'=>σ=[some (.ref a),some (.ref m),some (.ref r),some (.int pick),some (.int pn),some (.int y),some (.str way),some (.ref wd),some (.ref d),some (.ref e),v,some (.ref x),some (.str (oT (Yh ns y way))),none,none]/\Same H10 H') (λnx hnx=>⟨_,rfl,_,rfl,_,rfl,_,rfl,m,r,M,ns,y,way,rfl,kl10.hm,kl10.rows,td,λH' s'=>hnx _ _ ⟨rfl,s'⟩⟩) ?_
  rintro σ H11 ⟨rfl,s11⟩
  refine Zz (λσ H'=>∃ v13 v14:Option V,σ=[some (.ref a),some (.ref m),some (.ref r),some (.int pick),some (.int pn),some (.int y),some (.str way),some (.ref wd),some (.ref d),some (.ref e),v,some (.ref x),some (.str (oT (Yh ns y way))),v13,v14]/\Same H10 H') (λnx hnx=>?_) ?_
  ·refine ⟨_,rfl,by decide,by decide,?_⟩
   refine Xy (n:=7) (λi σ H'=>∃ v13 v14:Option V,σ=[some (.ref a),some (.ref m),some (.ref r),some (.int pick),some (.int pn),some (.int y),some (.str way),some (.ref wd),some (.ref d),some (.ref e),v,some (.ref x),some (.str (oT (Yh ns y way))),v13,v14]/\Same H10 H') ⟨none,none,rfl,s11⟩ ?_ ?_
   ·rintro i σ H' hi ⟨v13,v14,rfl,s'⟩
    dsimp only [Zs]
    rw [Int.zero_add]
    obtain ⟨ad,w1,w2⟩:=hw10.same s'
    refine Zz (λσ H2=>∃ u:Str,σ=[some (.ref a),some (.ref m),some (.ref r),some (.int pick),some (.int pn),some (.int y),some (.str way),some (.ref wd),some (.ref d),some (.ref e),v,some (.ref x),some (.str (oT (Yh ns y way))),some (.int i),some (.str u)]/\Same H10 H2/\(u="left out"\/u=oT (Yh ns y way))) (λnx2 hnx2=>?_) ?_
    ·refine ⟨_,rfl,_,rfl,_,rfl,_,rfl,_,rfl,wd,_,rfl,.inl (SqL.of (kl10.same s').hw),λwd' h1=>?_⟩
     refine ⟨_,rfl,d,_,rfl,.inl (Same.new h1 _ _ (kl10.same s').hc),λc' h2=>?_⟩
     refine ⟨_,rfl,e,_,rfl,.inl (Same.new h2 _ _ (Same.new h1 _ _ w1)),λwo' h3=>?_⟩
     obtain ⟨tX,din,wat⟩:=door s' h1 h2 h3 w2
     exact ⟨i,x,wd',c',wo',M,ns,ws,λ_=>0,λ_=>0,ks,gw,y,way,rfl,by omega,din,wat,sw,okg,λ_ H'' s''=>hnx2 _ _ ⟨_,rfl,tX.trans s'',.inl rfl⟩,λ_ H'' s''=>hnx2 _ _ ⟨_,rfl,tX.trans s'',.inr (by unfold dueD; rw [if_pos hi])⟩⟩
    rintro σ H2 ⟨u,rfl,s2,hu⟩
    refine ⟨_,rfl,rfl,_,rfl,?_⟩
    rcases hu with rfl | rfl
    ·exact Ux rfl ⟨_,_,rfl,s2⟩
    ·exact ite2 (λ_=>⟨_,rfl,_,rfl,rfl,_,rfl,Ux rfl ⟨_,_,rfl,s2⟩⟩) (λ_=>⟨_,_,rfl,s2⟩)
   ·rintro σ H' ⟨v13,v14,rfl,s'⟩
    exact hnx _ _ ⟨_,_,rfl,s'⟩
  rintro σ H12 ⟨v13,v14,rfl,s12⟩
  have kl12:=kl10.same s12
  have hL:Yh ns y "left"=Xb ns y:=by unfold Yh; rw [if_pos (.inl rfl)]
  refine Zz (λσ H'=>σ=[some (.ref a),some (.ref m),some (.ref r),some (.int pick),some (.int pn),some (.int y),some (.str way),some (.ref wd),some (.ref d),some (.ref e),v,some (.ref x),some (.str (oT (Xb ns y))),v13,v14]/\Same H10 H') (λnx hnx=>⟨_,rfl,_,rfl,_,rfl,m,r,M,ns,y,"left",rfl,kl12.hm,kl12.rows,td,λH' s'=>hnx _ _ ⟨by rw [hL]; rfl,s12.trans s'⟩⟩) ?_
  rintro σ H13 ⟨rfl,s13⟩
  refine Zz (λσ H'=>∃ v13:Option V,σ=[some (.ref a),some (.ref m),some (.ref r),some (.int pick),some (.int pn),some (.int y),some (.str way),some (.ref wd),some (.ref d),some (.ref e),v,some (.ref x),some (.str (oT (Xb ns y))),v13,v14]/\Same H10 H') (λnx hnx=>?_) ?_
  ·refine ⟨_,_,rfl,⟨by decide,by decide,by decide,by decide⟩,?_⟩
   refine Xy (n:=3) (λi σ H'=>∃ v13:Option V,σ=[some (.ref a),some (.ref m),some (.ref r),some (.int pick),some (.int pn),some (.int y),some (.str way),some (.ref wd),some (.ref d),some (.ref e),v,some (.ref x),some (.str (oT (Xb ns y))),v13,v14]/\Same H10 H') ⟨_,rfl,s13⟩ ?_ ?_
   ·rintro i σ H' hi ⟨v13,rfl,s'⟩
    dsimp only [Zs]
    rw [show (7 + (i:Int))=((7 + i:Nat):Int) by omega]
    obtain ⟨ad,w1,w2⟩:=hw10.same s'
    refine ⟨_,rfl,_,rfl,_,rfl,_,rfl,_,rfl,wd,_,rfl,.inl (SqL.of (kl10.same s').hw),λwd' h1=>?_⟩
    refine ⟨_,rfl,d,_,rfl,.inl (Same.new h1 _ _ (kl10.same s').hc),λc' h2=>?_⟩
    refine ⟨_,rfl,e,_,rfl,.inl (Same.new h2 _ _ (Same.new h1 _ _ w1)),λwo' h3=>?_⟩
    obtain ⟨tX,din,wat⟩:=door s' h1 h2 h3 w2
    refine ⟨7 + i,x,wd',c',wo',M,ns,ws,λ_=>0,λ_=>0,ks,gw,y,way,rfl,by omega,din,wat,sw,okg,λho H'' s''=>?_,λ_ H'' s''=>⟨_,rfl,rfl,_,rfl,Ux ?_ ⟨_,rfl,tX.trans s''⟩⟩⟩
    ·obtain ⟨z | z,_⟩:=ho <;> omega
    ·unfold dueD
     rw [if_neg (by omega)]
   ·rintro σ H' ⟨v13,rfl,s'⟩
    exact hnx _ _ ⟨_,rfl,s'⟩
  rintro σ H14 ⟨v13,rfl,s14⟩
  refine Zz (λσ H'=>σ=[some (.ref a),some (.ref m),some (.ref r),some (.int pick),some (.int pn),some (.int y),some (.str way),some (.ref wd),some (.ref d),some (.ref e),v,some (.ref x),some (.str (oT (Xb ns y))),v13,v14]/\Same H10 H') (λnx hnx=>?_) ?_
  ·refine ⟨_,rfl,_,rfl,_,rfl,_,rfl,_,rfl,(by show 2<=sizeLine; decide),λq hq=>?_⟩
   have tq:=s14.trans (Same.new (o:=.tup [V.int y,V.str way]) hq)
   exact ⟨_,rfl,_,rfl,a,m,r,q,wd,d,sc,M,ns,ws,y,way,rfl,kl10.same tq,hl,td,h42,Zc,hP,hw60,λH' s'=>⟨_,rfl,iteF (hnx _ _ ⟨rfl,tq.trans s'⟩)⟩⟩
  rintro σ H15 ⟨rfl,s15⟩
  have ta15:=ta10.same s15
  obtain ⟨dx,cl,na,sp,mt,o,ff,B⟩:=id ta15
  refine ⟨_,rfl,x,dx,_,rfl,B.ins,Yl _ _ _ _,x,M,ns,rfl,ta15,λlr ts hlr ts1 ts2=>?_⟩
  have sl:=Same.new (o:=.lst (ts.map V.ref)) hlr
  exact ⟨_,rfl,lr,r,ns,rfl,⟨ts,Zc,ts1,λk q e=>sl _ _ (ts2 k q e)⟩,(kl10.same s15).rows.same sl,by omega,λH' _=>k _⟩
end
end KT
section
open PySem L2
theorem KT.ba6 {q:Str} {st:Stmt} {ps:List Str} (h:∀ (x:Str) (kV doc pm:Value) (an:Option Addr) (cdv ct:Value) (a b c d e f:Value),bindArgs (PySem.W.fnOf x q (Xg st) (Yq st) (Zg st) .none kV doc pm an cdv ct) ⟨[a,b,c,d,e,f],[]⟩=pure (ps.zip [a,b,c,d,e,f])) (hl:ps.length=6):KT.BA q st ps:=λx kV doc pm an cdv ct us e=>by
 rw [hl] at e
 match us,e with
 | [a,b,c,d,e,f],_=>exact h x kV doc pm an cdv ct a b c d e f
theorem KT.ba7 {q:Str} {st:Stmt} {ps:List Str} (h:∀ (x:Str) (kV doc pm:Value) (an:Option Addr) (cdv ct:Value) (a b c d e f g:Value),bindArgs (PySem.W.fnOf x q (Xg st) (Yq st) (Zg st) .none kV doc pm an cdv ct) ⟨[a,b,c,d,e,f,g],[]⟩=pure (ps.zip [a,b,c,d,e,f,g])) (hl:ps.length=7):KT.BA q st ps:=λx kV doc pm an cdv ct us e=>by
 rw [hl] at e
 match us,e with
 | [a,b,c,d,e,f,g],_=>exact h x kV doc pm an cdv ct a b c d e f g
end
open PySem PySem.W PyProof.Rows
namespace PySem.W.Fast
def tw6815313920448220477:=0
def tw15526658783922919439:=0
def tw3274199677887701490:=0
def tw4881330382951814493:=0
def tw10789637708711324278:=0
def tw9836260303365138104:=0
def tw11218241146426595279:=0
def tw15411120616637196402:=0
def tw7034913458657149638:=0
def tw10106377912231032687:=0
def tw2642372735758423962:=0
def tw2210001358909911361:=0
def tw13128225912675099421:=0
def tw4830746196038759361:=0
def tw99124100398708397:=0
def tw398671488868213422:=0
def tw5295700050938314033:=0
def tw7141837575949251663:=0
def tw8953864805482827056:=0
def tw5605564705277062474:=0
def tw3316678711033494533:=0
def tw16293422714467509911:=0
def tw8675447703216935983:=0
def tw8695523107470358031:=0
def tw656489287151804874:=0
def tw240122415067628586:=0
def tw4269129272906227796:=0
def tw14168114829973882535:=0
def tw17158886500623067325:=0
def tw6163065400601150912:=0
def tw3900772046298062219:=0
def tw11897040032986755042:=0
def tw15622860803336682260:=0
def tw9923204974464040363:=0
def tw16282372850323496073:=0
def tw4436055798870103296:=0
def tw10613183271050672553:=0
def tw11879694303834563264:=0
def tw12410480590400760174:=0
def tw17539911290584942802:=0
def tw4922772209868703681:=0
def tw1277364347677091546:=0
def tw12406446185240983706:=0
def tw492226250013928504:=0
def tw10663511485419515674:=0
def tw10479873173092632956:=0
def tw17476581111494789929:=0
def tw16494243252586009950:=0
def tw8097641396663950117:=0
def tw5613524150195909061:=0
def tw12748409564871777143:=0
def tw13509166836391910138:=0
def tw8774684570326592091:=0
def tw9662856723160286825:=0
def tw9674622971762710021:=0
def tw13495636363045133365:=0
def tw1637362828636399365:=0
def tw8842023697503172166:=0
def tw16452884551536597809:=0
def tw17690816195259618236:=0
def tw12773552958216436670:=0
def tw2437127999197176164:=0
def tw15263969177232143922:=0
def tw10223702431546603737:=0
def tw7339105137569263061:=0
def tw788934020039551207:=0
def tw12333057726737579268:=0
def tw14645510812919666868:=0
def tw1382217145502365692:=0
def tw12247936658245127516:=0
def tw10316953070721344172:=0
def tw10019638595749902986:=0
def tw3220009799527525701:=0
def tw10332296146031136516:=0
def tw12315420605226209269:=0
def tw4715800079901292061:=0
def tw10934928619210531292:=0
def tw6592741256048339475:=0
def tw17377764517425088358:=0
def tw8516797823463590313:=0
def tw8291679656390322603:=0
def tw10972666407328428711:=0
def tw11191645596528694601:=0
def tw4617098124195179342:=0
def tw12007634483351641294:=0
def tw3796779526145317876:=0
def tw642908008718679934:=0
def tw5024787940476562148:=0
def tw4402780191773232700:=0
def tw5521223147916466836:=0
def tw17346687630763792438:=0
def tw12054990976486147265:=0
def tw13287663952780740711:=0
def tw961480644697493135:=0
def tw12130980034156191192:=0
def tw18411091866734551236:=0
def tw8621888485792174585:=0
def tw13999048499428128840:=0
def tw4384507222203006575:=0
def tw12261360235064521594:=0
def tw13152552883623188739:=0
def tw8635754319419219436:=0
def tw576310021353532721:=0
def tw13273748550147967007:=0
def tw10617124897829350105:=0
def tw12956223897704046606:=0
def tw15996377845761917584:=0
def tw11954227736230411877:=0
def tw15662479516615921619:=0
def tw5358048810423400893:=0
def tw10768533155234888738:=0
def tw13924933296703961795:=0
def tw12511359587872059803:=0
def tw8406369449014374104:=0
def tw4576213554050530482:=0
def tw17428502450120563624:=0
def tw4699375812842248585:=0
def tw724674602317347072:=0
def tw10439811783537935605:=0
def tw4095504966303736708:=0
def tw11477464855346849743:=0
def tw13785310675997694511:=0
def tw15537012271344125422:=0
def tw14837563496087109476:=0
def tw6913779649202070512:=0
def tw3284622051626465382:=0
def tw17794178185663037411:=0
def tw8167313271147256504:=0
def tw17170088574890296773:=0
def tw14649232068379318369:=0
def tw5440875936294838471:=0
def tw2184629897927882728:=0
def tw1402808169199288317:=0
def tw8339569476139481891:=0
def tw3950790543420440664:=0
def tw1002332934164513433:=0
def tw12376293001004001850:=0
def tw6773092682433307511:=0
def tw1870235010322120138:=0
def tw3349712558360908327:=0
def tw6751264648667562345:=0
def tw13622488498117273985:=0
def tw13305890942773717488:=0
def tw14772239545618532499:=0
def tw9142223245184639300:=0
def tw16303584346514784270:=0
def tw18157896279514977267:=0
def tw14198253189477343584:=0
def tw5009855758236823377:=0
def tw3737098053072958413:=0
def tw11222286175961704227:=0
def tw3043666886627846491:=0
def tw8665829509936630837:=0
def tw4723939314985963750:=0
def tw5774301812638733596:=0
def tw14959683925138076299:=0
def tw9175106396198650542:=0
def tw7454882231395515358:=0
def tw423330460701297603:=0
def tw14929801081293839292:=0
def tw3772166281176335422:=0
def tw11485460962588599070:=0
def tw265720505161621892:=0
def tw7745432713835548065:=0
def tw464746204548236038:=0
def tw3101250315166058255:=0
def tw1605906347185873094:=0
def tw8429335426761259533:=0
def tw15258845728135845617:=0
def tw10967383815192054900:=0
def tw8829080610515080799:=0
def tw12025299637060803724:=0
def tw7674346179202754320:=0
def tw11092458632548251193:=0
def tw7166814130673010287:=0
def tw6152439130697514400:=0
def tw14899379896815534479:=0
def tw4424397053359629081:=0
def tw8504484457282393491:=0
def tw16144920734969068607:=0
def tw14058790986781077970:=0
def tw10268176965019627640:=0
def tw17082050003330955479:=0
def tw10324195443373271870:=0
def tw15329301945029874382:=0
def tw8788953053465837777:=0
def tw1502782572633669179:=0
def tw7049846949608183439:=0
def tw11858974832964131774:=0
def tw9009104305380932074:=0
def tw5706198733780479929:=0
def tw12218300501369790136:=0
def tw14953747754572262288:=0
def tw8253440043138173285:=0
def tw700938474752735365:=0
def tw13386511866530629181:=0
def tw15408668615869567223:=0
def tw17318193456551282979:=0
def tw15085196748285686992:=0
def tw5692773096126427024:=0
def tw4207929385970913435:=0
def tw14204501814239068093:=0
def tw1371285931828507866:=0
def tw6855814024821976575:=0
def tw5615271233075420641:=0
def tw12213802799376389832:=0
def tw5865312569763819299:=0
def tw15113752535879593039:=0
def tw4535236372473980049:=0
def tw8393860590809855897:=0
def tw2740155421094690486:=0
def tw935421251889755764:=0
def tw9887940297551719742:=0
def tw12964440047816241136:=0
def tw8347435453164096696:=0
def tw5367477294019410144:=0
def tw12600158034582489641:=0
def tw6830734650532108345:=0
def tw16775901290150060118:=0
def tw11318246791883388960:=0
def tw12792165239416637882:=0
def tw14371289721931603849:=0
def tw3782208236272633177:=0
def tw9687548606822729041:=0
def tw3351612141006154874:=0
def tw10694333517298880681:=0
def tw5076271156484612481:=0
def tw10450396608128402051:=0
def tw15756126598943081640:=0
def tw12196521130882751849:=0
def tw17679987286836906985:=0
def tw15551680827887581912:=0
def tw8833698332362732002:=0
def tw16310369655546933960:=0
def tw15145138293785634837:=0
def tw10784344035240283235:=0
def tw10546731169415187008:=0
def tw6802501373947610376:=0
def tw3417715906730778700:=0
def tw6903155664384056273:=0
def tw8537769385699346117:=0
def tw4878932867979677472:=0
def tw6733913548880295559:=0
def tw10206538795475529526:=0
def tw17108047174444568948:=0
def tw14843426981422211092:=0
def tw18029760431487774685:=0
def tw13155592194289708195:=0
def tw15177247958114152808:=0
def tw14796684276977849069:=0
def tw6571464443083746191:=0
def tw15528449717154414076:=0
def tw436429908141147982:=0
def tw13543445952338967934:=0
def tw16585240872242137873:=0
def tw978116011621689737:=0
def tw18387225698550997413:=0
def tw1785047021040448269:=0
def tw1317233837446776083:=0
def tw15665855740232900328:=0
def tw13438244892737602033:=0
def tw913372575094300026:=0
def tw15263346551787208259:=0
def tw10074533437947080642:=0
def tw13835515879674567557:=0
def tw16973328695584790181:=0
def tw15494645080663216668:=0
def tw6716376586779359060:=0
def tw11281865915439512786:=0
def tw7957031061076367328:=0
def tw1395940157197445927:=0
def tw15415603423160967732:=0
def tw7093972146528157827:=0
def tw11440212932995997581:=0
def tw12429648878148009201:=0
def tw12238409368816176202:=0
def tw3638703260877677751:=0
def tw16247810597918937307:=0
def tw18321018784234042926:=0
def tw14737362913584890079:=0
def tw13211791293010478699:=0
def tw13372675080882696431:=0
def tw16565723229871398234:=0
def tw12886709970753696798:=0
def tw16593372751870321175:=0
def tw18158821040394183595:=0
def tw15654370576735049078:=0
def tw2351117665369361391:=0
def tw6537999836895065019:=0
def tw18425425863455623612:=0
def tw10391529447855099865:=0
def tw2381986760262485960:=0
def tw16689175768372179041:=0
def tw12292785994441860066:=0
def tw4814865562159325364:=0
def tw4694846959763709343:=0
def tw670462988746146417:=0
def tw8022458412665988028:=0
def tw10375959377617752417:=0
def tw4943928836404542086:=0
def tw3112232916772220548:=0
def tw6813851659972449756:=0
def tw14555667616871681337:=0
def tw6671855241943322345:=0
def tw4537496943953785182:=0
def tw13031419697664769328:=0
def tw9197756888913088621:=0
def tw12640701632423140024:=0
def tw3196109948863981109:=0
def tw12632635596171746707:=0
def tw14313198518358434478:=0
def tw5240837322291284698:=0
def tw12914669091915461962:=0
def tw15682173686469412776:=0
def tw4560659234847985938:=0
def tw8475678717157771449:=0
def tw5261055346306505080:=0
def tw16825500979436297946:=0
def tw14016889824672287875:=0
def tw18218805126272297052:=0
def tw11660245912590617478:=0
def tw1735988386866825336:=0
def tw9404968626002180369:=0
def tw1419469339831107782:=0
def tw8218264350019753134:=0
def tw1117690750429241442:=0
def tw17520802512558729615:=0
def tw3401393869303819194:=0
def tw13982145869793669926:=0
def tw4710206751575977828:=0
def tw1694290031439542510:=0
def tw4552159940531076509:=0
def tw7514920323894741751:=0
def tw6541548117146876833:=0
def tw195001618078557795:=0
def tw9998765627302237480:=0
def tw638752122594347317:=0
def tw17862325601752404774:=0
def tw14922190570908359369:=0
def tw11024213615738296009:=0
def tw2039278623057771441:=0
def tw5413595354247665654:=0
def tw8690022812407870383:=0
def tw10873560728325611374:=0
def tw3944001859433753683:=0
def tw448374168866488850:=0
def tw11102149602587131901:=0
def tw18407040749119503068:=0
def tw7753553975871394242:=0
def tw10365328842963645109:=0
def tw15972620869674537211:=0
def tw7221335366659790984:=0
def tw12464587405653896762:=0
def tw6242160965780017389:=0
def tw13343646476498018095:=0
def tw469195440170830281:=0
def tw3049545594132279161:=0
def tw2981315104243748739:=0
def tw1651432972035634672:=0
def tw2948936156464773242:=0
def tw12247003253958610501:=0
def tw11119646459468469659:=0
def tw16300215808809122184:=0
def tw8816047665809484921:=0
def tw5298384863680722150:=0
def tw11499832938275657344:=0
def tw10021327775073811816:=0
def tw15881309631587444875:=0
def tw2424221187385658024:=0
def tw17853641995156497032:=0
def tw14157827831400197759:=0
def tw7109992341686662302:=0
def tw2742771197410065142:=0
def tw16054988463916635801:=0
def tw1685082546447780702:=0
def tw6538031071895048616:=0
def tw1619010083473814812:=0
def tw11662830193801524990:=0
def tw1314636879117075218:=0
def tw5844194175817314414:=0
def tw13434197222110211157:=0
def tw11896633340610833765:=0
def tw13393832661462503552:=0
def tw2463867627106141455:=0
def tw7645029528119059581:=0
def tw8070612479994010733:=0
def tw17650691845422275226:=0
def tw4318264572115548117:=0
def tw15756201193556311609:=0
def tw2446071667556201:=0
def tw10914657676019687983:=0
def tw12137123644309534975:=0
def tw1458860397006137528:=0
def tw15194673695003347211:=0
def tw15999816823304442609:=0
def tw2426795037176482696:=0
def tw1057970600218934340:=0
def tw4493658569920015997:=0
def tw9026933952663695818:=0
def tw17319251483443229313:=0
def tw3013341029484973108:=0
def tw7305894230560365123:=0
def tw5954188499253839393:=0
def tw16534825448830073482:=0
def tw13390248285093003279:=0
def tw10730512117474098799:=0
def tw3129848035817405349:=0
def tw1999933033561685563:=0
def tw8630044400647719927:=0
def tw15672809304679457466:=0
def tw6695085897153066350:=0
def tw15484255518472252903:=0
def tw10767762218796958289:=0
def tw13627220167243013302:=0
def tw12456171942569718788:=0
def tw4680452138400376116:=0
def tw7185767294113976131:=0
def tw17731033010758427492:=0
def tw17318636304505052414:=0
def tw10024058918017398883:=0
def tw647432727937036855:=0
def tw11087443854970553015:=0
def tw5630294275134466770:=0
def tw4576641373549791462:=0
def tw452416315500626454:=0
def tw4195556780196188183:=0
def tw5707954460898084350:=0
def tw5562295595231471867:=0
def tw11503200632313570211:=0
def tw12645546574051297459:=0
def tw15162637102772441720:=0
def tw15730070912611043069:=0
def tw16947493071067696544:=0
def tw12169204461435485075:=0
def tw7268540356373876025:=0
def tw12586372769605180524:=0
def tw14496241736112178511:=0
def tw3103094977634808919:=0
def tw4162789405107761474:=0
def tw16898533093309928214:=0
def tw12491718325315173755:=0
def tw12984567416977760150:=0
def tw17236511745191528101:=0
def tw16591316504327549423:=0
def tw9054389681449171023:=0
def tw13578582868192531110:=0
def tw15711900453512600042:=0
def tw16648811933641267128:=0
def tw13142094396366862033:=0
def tw11345567568849210728:=0
def tw386865796375921884:=0
def tw2291754680165784503:=0
def tw2534104841432534298:=0
def tw15181468650298039730:=0
def tw9047673129095858039:=0
def tw11718633635385507080:=0
def tw14701144281403638399:=0
def tw10168371775523461217:=0
def tw17537333954920726314:=0
def tw14622771950927587067:=0
def tw16655886375680984004:=0
def tw10845758896571326761:=0
def tw6809230440554908032:=0
def tw12489430666126402970:=0
def tw11939549109167055740:=0
def tw15871852015643576773:=0
def tw12807896291196614574:=0
def tw6539659185203074602:=0
def tw483575850709371080:=0
def tw7978535961947134035:=0
def tw2861924759695226065:=0
def tw11925873047336097903:=0
def tw12082907121027629564:=0
def tw10898017968006932377:=0
def tw3560924991943636113:=0
def tw6564365187346880959:=0
def tw12680031708273765511:=0
def tw18154622661823378959:=0
def tw4090061026194299360:=0
def tw18252970245692037902:=0
def tw11252284839005303482:=0
def tw12518148828203642090:=0
def tw2356424208131109098:=0
def tw459263908232940528:=0
def tw8456781182593977341:=0
def tw16024639719427282813:=0
def tw10998796629238202591:=0
def tw6128719578956552477:=0
def tw1705620492192929328:=0
def tw8965791655875195242:=0
def tw17325625771395244860:=0
def tw14117917174185231509:=0
def tw18335949841870336873:=0
def tw18286226252215894633:=0
def tw9326377699305308071:=0
def tw13329414485635459138:=0
def tw17559281265529447417:=0
def tw3798689757048604449:=0
def tw1815438960443985281:=0
def tw7407286921035405250:=0
def tw9024225992672248308:=0
def tw6452192876665622085:=0
def tw5332799553940652673:=0
def tw7820533510398425705:=0
def tw18374298816864279954:=0
def tw15141327805798518463:=0
def tw2042523432995530378:=0
def tw81944320537826180:=0
def tw9150685498539101329:=0
def tw3345233324913350819:=0
def tw14101231669013287401:=0
def tw12135174737727801871:=0
def tw1004626396013119765:=0
def tw15978996064430292006:=0
def tw7427109761921528188:=0
def tw100549663871745740:=0
def tw10581030178819121343:=0
def tw687509779367014165:=0
def tw17738918840106787037:=0
def tw11837756313246840691:=0
def tw5665487962538108127:=0
def tw16089468121694724368:=0
def tw2261553799265181873:=0
def tw11159274166197586183:=0
def tw5135648787519215102:=0
def tw6467884938032449226:=0
def tw6968384708787257027:=0
def tw8670916803622886838:=0
def tw3363917263721476316:=0
def tw4768351229333754718:=0
def tw7280268276407436389:=0
def tw11129143447047036546:=0
def tw2969964217430144603:=0
def tw17755797351741543444:=0
def tw3010768402118273384:=0
def tw799187210811577290:=0
def tw10042810111761411779:=0
def tw766100843160957902:=0
def tw12821698788621422644:=0
def tw15017736781126461105:=0
def tw5430451421373302222:=0
def tw11939369629387885258:=0
def tw3285470784488754700:=0
def tw11302435863781430347:=0
def tw6537348926605031360:=0
def tw14383513809725382231:=0
def tw14352161414209027082:=0
def tw12686987384193948833:=0
def tw1304688140068939662:=0
def tw6963090942740839358:=0
def tw15975077646728261831:=0
def tw5566914281311087021:=0
def tw9473433164263135264:=0
def tw4055653776756142455:=0
def tw8099795250244813267:=0
def tw447387506327670882:=0
def tw5169713624260853661:=0
def tw17208370154826575390:=0
def tw6893660301947333050:=0
def tw9758918340088034583:=0
def tw6736876304337150464:=0
def tw6598245448165217211:=0
def tw3040887764321698905:=0
def tw13036819554250414725:=0
def tw10673985619066298676:=0
def tw1779068525145375506:=0
def tw5061380373904898734:=0
def tw4156795754387325852:=0
def tw18187820137671797319:=0
def tw733078909606205022:=0
def tw10480603245965306054:=0
def tw3986735013237978509:=0
def tw6644597096210350298:=0
def tw6321453701311125381:=0
def tw16312310283385458973:=0
def tw3895905456600379370:=0
def tw11316033247587248116:=0
def tw12044076632164789697:=0
def tw12272709340556215385:=0
def tw17685972241829658155:=0
def tw16039241530259754584:=0
def tw16924825199623182651:=0
def tw11221615618699328779:=0
def tw1775174850768451684:=0
def tw4390557040022236866:=0
def tw4672691334138439487:=0
def tw7513140599368917296:=0
def tw3530487891209868602:=0
def tw10755503271729434581:=0
def tw17586441540955491637:=0
def tw16550093475244197809:=0
def tw15148290671222765662:=0
def tw8763739888832727363:=0
def tw10879417607906263347:=0
def tw8751955680555504028:=0
def tw12313764329148400331:=0
def tw10951955304359932074:=0
def tw4059290595131670285:=0
def tw16726408594932364811:=0
def tw2154305686013483125:=0
def tw8406990507773127884:=0
def tw7903048815530128455:=0
def tw16137521547187535614:=0
def tw10164163832994440349:=0
def tw16691197038691658609:=0
def tw8622781393498655549:=0
def tw14722418091277978095:=0
def tw5747391116325467793:=0
def tw4713249732800139871:=0
def tw5317454761639719060:=0
def tw8737471548161155817:=0
def tw14848531635042803423:=0
def tw6794096013394503114:=0
def tw16165964063737646141:=0
def tw17961399778359035856:=0
def tw3760518687080798546:=0
def tw18291544385592209773:=0
def tw760234534949316082:=0
def tw9474272290765283716:=0
def tw2863730838450974192:=0
def tw3703921441608739471:=0
def tw274438920117992958:=0
def tw12474914337420549248:=0
def tw6260873199708798480:=0
def tw4421420158943465242:=0
def tw8225845009858042955:=0
def tw3574075878864550427:=0
def tw7514940566906707185:=0
def tw7199630652883545974:=0
def tw1828393138888457126:=0
def tw10103252805305103874:=0
def tw12988181199013596427:=0
def tw15270183094998763864:=0
def tw1550017278663905558:=0
def tw5543918006273377188:=0
def tw11036258275850784601:=0
def tw1513749093651902158:=0
def tw12971314834344331712:=0
def tw3970205930146912507:=0
def tw17908753647648590642:=0
def tw2177541648791938650:=0
def tw13724930507333321452:=0
def tw3778106124767315160:=0
def tw18091469786650429940:=0
def tw12204692402071532098:=0
def tw14060196454564406676:=0
def tw7058906391018169186:=0
def tw4203515615820613698:=0
def tw9193226534436005607:=0
def tw6221705042056852027:=0
def tw9976882611555918240:=0
def tw379393952974694983:=0
def tw805371750939106501:=0
def tw12977283059050803246:=0
def tw2344788239829582821:=0
def tw18111099428761379527:=0
def tw15593333200126686000:=0
def tw11834063509248788398:=0
def tw13242702435206705033:=0
def tw2235042818184672187:=0
def tw4871931080803474017:=0
def tw631630950889631482:=0
def tw7955153789075256319:=0
def tw14016565787522323732:=0
def tw122219539956893402:=0
def tw1687202345442977207:=0
def tw10175192807505981813:=0
def tw7495118341811313540:=0
def tw8720973521140347655:=0
def tw7034374137556030803:=0
def tw7411790591811598511:=0
def tw10472034123130379535:=0
def tw4904153890386155280:=0
def tw8849597144198926479:=0
def tw14411002297074244758:=0
def tw10306050699383368155:=0
def tw10589801419724702507:=0
def tw12954676829672165307:=0
def tw18381104443797803597:=0
def tw956266256373406936:=0
def tw3660609756209454769:=0
def tw11560537955540306199:=0
def tw2249376821109436135:=0
def tw17069113617392048493:=0
def tw3307467788952132288:=0
def tw13406973525260454720:=0
def tw11439595448608173263:=0
def tw1445896475430662760:=0
def tw16363865464054783501:=0
def tw9873925737174096024:=0
def tw7229094863392475681:=0
def tw15404209496454991121:=0
def tw13029405678063802335:=0
def tw1178336860661338130:=0
def tw5502915401025782787:=0
def tw16454319699850383939:=0
def tw3366454628399335320:=0
def tw14799027200183796634:=0
def tw698413462771442641:=0
def tw10515850942223207622:=0
def tw6027230470201673391:=0
def tw17313286088541029722:=0
def tw16297194317865660656:=0
def tw9630661104469056500:=0
def tw2674119741699487786:=0
def tw10017939528240987177:=0
def tw5539812109050316855:=0
def tw5681754158028005303:=0
def tw3885527310348005155:=0
def tw11820560936911538886:=0
def tw12887077800842104783:=0
def tw3765031398591965602:=0
def tw7519378017020509886:=0
def tw3989674706135903165:=0
def tw5587823226368307382:=0
def tw11931201119518819110:=0
def tw17123974352570670946:=0
def tw2622447145126902653:=0
def tw11904190624338491336:=0
def tw15950062785808228148:=0
def tw10288069942287324073:=0
def tw9332006434595643631:=0
def tw165247277629336976:=0
def tw17265141752109449303:=0
def tw10086460685589972057:=0
def tw17815111899806660581:=0
def tw5677737980953359319:=0
def tw13853115560885340720:=0
def tw12873429574495286423:=0
def tw5476966584210453878:=0
def tw17694285156765632483:=0
def tw1680267477591094986:=0
def tw14981222397294003648:=0
def tw12642500452344446928:=0
def tw13594584335614891643:=0
def tw1536827671946332620:=0
def tw9630498712570187272:=0
def tw7856088547624296218:=0
def tw9990410162815151387:=0
def tw3383254804440323620:=0
def tw16214182606049675214:=0
def tw3110187761885054478:=0
def tw8482983632171820168:=0
def tw18360922558661024088:=0
def tw5903717852488753010:=0
def tw731136200375467757:=0
def tw17144102769471583459:=0
def tw17013029050944806875:=0
def tw6818621020533309327:=0
def tw2275316969257254423:=0
def tw11481685262064418379:=0
def tw2012823621842176163:=0
def tw13692241752222009311:=0
def tw5377973290921347710:=0
def tw10208220207976135456:=0
def tw4205490533024025470:=0
def tw5868369078514858699:=0
def tw9565520662381340472:=0
def tw4044973865058137283:=0
def tw5285140441622640073:=0
def tw17481662930271150861:=0
def tw10609243721993040809:=0
def tw1547487772640011492:=0
def tw17176880502085888460:=0
def tw11193287813338979868:=0
def tw16068455523688578310:=0
def tw7978643423397995556:=0
def tw15336477587144521120:=0
def tw5785782802082335950:=0
def tw5830207334181038862:=0
def tw11535389982563067156:=0
def tw8002450389849894009:=0
def tw9805410648301996641:=0
def tw5225694100951286006:=0
def tw12880049615593897114:=0
def tw7712134664444622064:=0
def tw16603880661995082335:=0
def tw16345796009249063899:=0
def tw17706165934870367146:=0
def tw12416901268459952278:=0
def tw6428977754946767394:=0
def tw7815958825563133366:=0
def tw17555502699797947642:=0
def tw17206458876145743228:=0
def tw9601052616412828229:=0
def tw15032531023678386177:=0
def tw6741336900245769147:=0
def tw724187040886019114:=0
def tw4422562536380765852:=0
def tw2666457008509298593:=0
def tw7621576796412220072:=0
def tw8046432358211036237:=0
def tw2908165254176302716:=0
def tw11367365524890573397:=0
def tw10398397578936020368:=0
def tw2821928550330742063:=0
def tw14446598348006530208:=0
def tw5389317247772523082:=0
def tw12702173542626984396:=0
def tw14868724738273212266:=0
def tw13244214831367126138:=0
def tw3779354557749998362:=0
def tw1794243345724876754:=0
def tw4714586574614647143:=0
def tw11458952937134294783:=0
def tw6234829879301210580:=0
def tw10528804105155412009:=0
def tw16640675191789961364:=0
def tw3332236824145647007:=0
def tw6448273454911515450:=0
def tw3223688139981849461:=0
def tw15006061906241953671:=0
def tw11693229567598210727:=0
def tw16356061184670070473:=0
def tw497303773195607128:=0
def tw7988578688931633485:=0
def tw11864010193050513826:=0
def tw3913893388365034660:=0
def tw3206406796949335192:=0
def tw5369795853810174614:=0
def tw5659058907396382988:=0
def tw5487831603766121235:=0
def tw3648768658793584979:=0
def tw17658746286436138033:=0
def tw11454274164353527756:=0
def tw711955015094669167:=0
def tw15053718018020817570:=0
def tw17549241558055400047:=0
def tw16127798365852651788:=0
def tw4864925882406749766:=0
def tw10429683366834907262:=0
def tw16523007753279516465:=0
def tw17905934521842249229:=0
def tw4197788349014970373:=0
def tw9772450557053337396:=0
def tw12499150122759471773:=0
def tw11958490556472825135:=0
def tw4791825127630708844:=0
def tw5291677380751196196:=0
def tw9727157398525483087:=0
def tw9475338844494887490:=0
def tw7806669627533209435:=0
def tw16139672679006654658:=0
def tw16752637432492407734:=0
def tw7620252416445755573:=0
def tw14339745243713758894:=0
def tw6129685716384791164:=0
def tw981052528122097437:=0
def tw9708691514866670681:=0
def tw8773735769836606014:=0
def tw8591626198156664295:=0
def tw16213557844878705882:=0
def tw9616382861367728844:=0
def tw13694696951667962265:=0
def tw12874264567228257588:=0
def tw13120865697119757844:=0
def tw10710463368264626126:=0
def tw17398657431455506714:=0
def tw968651959729444867:=0
def tw3640957701305611463:=0
def tw13399335454862268506:=0
def tw8424368078726630982:=0
def tw12686267876976025288:=0
def tw16411491930974696951:=0
def tw2708125426263854224:=0
def tw17306516591922800091:=0
def tw17642796074736844921:=0
def tw1671497340952971221:=0
def tw5037103121006775517:=0
def tw4390242354454409400:=0
def tw12540435799994561068:=0
def tw15664805279341281239:=0
def tw7619140069698977400:=0
def tw2899457474969398237:=0
def tw9665678746711251545:=0
def tw12278670495586172324:=0
def tw14626191910735139399:=0
def tw15042506371076498682:=0
def tw7454116414975139211:=0
def tw1410777257107496262:=0
def tw13917393016605116671:=0
def tw8010449205346474442:=0
def tw16717747462779461913:=0
def tw17780995227593952655:=0
def tw8720190514312639647:=0
def tw15165876134478154264:=0
def tw15044473792917923878:=0
def tw12811407379478329075:=0
def tw11670370093043579234:=0
def tw9068997984552328532:=0
def tw13591985023432603700:=0
def tw2555348932114950240:=0
def tw16183330232406136690:=0
def tw8203836427435110234:=0
def tw12565829033976371628:=0
def tw8766640731556380640:=0
def tw5535525940817542200:=0
def tw12971034110414324847:=0
def tw12468218360274175671:=0
def tw14905898094517177466:=0
def tw10952652230428890312:=0
def tw2170404714337156226:=0
def tw11031967957178748541:=0
def tw13129827994827885429:=0
def tw16079444649373254439:=0
def tw937998514251427819:=0
def tw15409173163005142210:=0
def tw3920963218634296092:=0
def tw12145364830468492230:=0
def tw17138800216872495079:=0
def tw1260144460410793716:=0
def tw17958556798259931885:=0
def tw732388208734600978:=0
def tw17867905649018644178:=0
def tw2481398698605776576:=0
def tw10418280688896402460:=0
def tw1005618647060046530:=0
def tw7476828431654731269:=0
def tw2222271328965370361:=0
def tw12443482568762896191:=0
def tw9154372309008991305:=0
def tw13467832009889578787:=0
def tw14206466916893335913:=0
def tw10300702877598986492:=0
def tw16975939822320803480:=0
def tw17901230919702493317:=0
def tw5867281093743370088:=0
def tw1231612196068411248:=0
def tw17842919448842565224:=0
def tw7711313410784413051:=0
def tw4638412170843556141:=0
def tw11486808503076651639:=0
def tw15770969130330596232:=0
def tw11729004227819690443:=0
def tw9200810787686575185:=0
def tw10575154704144088861:=0
def tw897854686762469559:=0
def tw7434265471387857445:=0
def tw10724247888643136413:=0
def tw15268864067361201834:=0
def tw15009246848363401466:=0
def tw14058533359436066274:=0
def tw16480231266573054725:=0
end PySem.W.Fast
set_option maxRecDepth 100000 in
set_option maxHeartbeats 0 in
theorem PySem.Challenge.cw_tentloops_k11_exchange_refusals_holds : PySem.Challenge.rw_tentloops_k11_exchange_refusals.Holds := by
 w_on; o_law; k_head; (case hw=>w_witness2)
 k_fill
 refine L2.walk_r (l:=PySem.Challenge.rw_tentloops_k11_exchange_refusals) (k:=12) (spl:=KT.sp_law) rfl rfl ⟨rfl,by decide,by decide⟩ (fun w h Y=>PySem.W.kIn_of Y) (fun K H a ns hl hS=>KT.sp_law_start hl hS) ?F
 case F =>
  intro w mg fa h KX G hmg
  have T:∃ t,KT.Txt w (L2.KOf KX) mg t:=by
   dsimp only [L2.KOf]
   refine' ⟨⟨_,_,_,_,_,_,_,_,_,_,_,_,_,_,_,_,_,_,_,_,_,_,_,_,_,_,_,_,_,_,_,_,_,_,_,_,_,_,_,_,_,_,_,_,_,_,_,_,_,_,_,_,_,_,_,_,_,_,_,_,_,_,_,_,_,_,_,_,_,_,_,_,_,_,_,_,_,_,_,_,_,_,_,_,_,_,_,_,_,_,_,_,_,_,_,_,_,_,_,_,_,_,_,_,_,_,_,_,_,_,_,_,_,_,_,_,_,_,_,_,_,_,_,_,_,_,_,_,_,_,_,_,_,_,_,_,_,_,_,_,_,_,_,_,_,_,_,_,_,_,_,_,_,_,_,_,_,_,_,_,_,_,_,_,_,_,_,_,_,_,_,_,_,_⟩,⟨mg_of KX G ?_,⟨?_,?_,?_,?_⟩,?_,?_,?_,?_,mg_of KX G ?_,⟨?_,?_,?_,?_⟩,?_,?_,?_,?_,mg_of KX G ?_,⟨?_,?_,?_,?_⟩,?_,?_,?_,?_,KT.FT.of KX G (KT.ba1 (fun _ _ _ _ _ _ _ _=>rfl) rfl) ?_ ?_ ?_ ?_,KT.FT.of KX G (KT.ba1 (fun _ _ _ _ _ _ _ _=>rfl) rfl) ?_ ?_ ?_ ?_,KT.FT.of KX G (KT.ba1 (fun _ _ _ _ _ _ _ _=>rfl) rfl) ?_ ?_ ?_ ?_,KT.FT.of KX G (KT.ba1 (fun _ _ _ _ _ _ _ _=>rfl) rfl) ?_ ?_ ?_ ?_,KT.FT.of KX G (KT.ba2 (fun _ _ _ _ _ _ _ _ _=>rfl) rfl) ?_ ?_ ?_ ?_,KT.FM.of (KT.ba2 (fun _ _ _ _ _ _ _ _ _=>rfl) rfl) ?_ ?_ ?_ ?_ ?_,KT.FM.of (KT.ba1 (fun _ _ _ _ _ _ _ _=>rfl) rfl) ?_ ?_ ?_ ?_ ?_,KT.FM.of (KT.ba1 (fun _ _ _ _ _ _ _ _=>rfl) rfl) ?_ ?_ ?_ ?_ ?_,KT.FM.of (KT.ba2 (fun _ _ _ _ _ _ _ _ _=>rfl) rfl) ?_ ?_ ?_ ?_ ?_,KT.FM.of (KT.ba2 (fun _ _ _ _ _ _ _ _ _=>rfl) rfl) ?_ ?_ ?_ ?_ ?_,KT.FM.of (KT.ba2 (fun _ _ _ _ _ _ _ _ _=>rfl) rfl) ?_ ?_ ?_ ?_ ?_,KT.FM.of (KT.ba2 (fun _ _ _ _ _ _ _ _ _=>rfl) rfl) ?_ ?_ ?_ ?_ ?_,KT.FM.of (KT.ba2 (fun _ _ _ _ _ _ _ _ _=>rfl) rfl) ?_ ?_ ?_ ?_ ?_,KT.FM.of (KT.ba2 (fun _ _ _ _ _ _ _ _ _=>rfl) rfl) ?_ ?_ ?_ ?_ ?_,KT.FT.of KX G (KT.ba1 (fun _ _ _ _ _ _ _ _=>rfl) rfl) ?_ ?_ ?_ ?_,KT.FT.of KX G (KT.ba2 (fun _ _ _ _ _ _ _ _ _=>rfl) rfl) ?_ ?_ ?_ ?_,KT.FT.of KX G (KT.ba2 (fun _ _ _ _ _ _ _ _ _=>rfl) rfl) ?_ ?_ ?_ ?_,KT.FT.of KX G (KT.ba3 (fun _ _ _ _ _ _ _ _ _ _=>rfl) rfl) ?_ ?_ ?_ ?_,KT.FT.of KX G (KT.ba4 (fun _ _ _ _ _ _ _ _ _ _ _=>rfl) rfl) ?_ ?_ ?_ ?_,KT.FT.of KX G (KT.ba3 (fun _ _ _ _ _ _ _ _ _ _=>rfl) rfl) ?_ ?_ ?_ ?_,KT.FT.of KX G (KT.ba2 (fun _ _ _ _ _ _ _ _ _=>rfl) rfl) ?_ ?_ ?_ ?_,KT.FT.of KX G (KT.ba2 (fun _ _ _ _ _ _ _ _ _=>rfl) rfl) ?_ ?_ ?_ ?_,KT.FT.of KX G (KT.ba3 (fun _ _ _ _ _ _ _ _ _ _=>rfl) rfl) ?_ ?_ ?_ ?_,KT.FT.of KX G (KT.ba2 (fun _ _ _ _ _ _ _ _ _=>rfl) rfl) ?_ ?_ ?_ ?_,KT.FT.of KX G (KT.ba2 (fun _ _ _ _ _ _ _ _ _=>rfl) rfl) ?_ ?_ ?_ ?_,KT.FT.of KX G (KT.ba2 (fun _ _ _ _ _ _ _ _ _=>rfl) rfl) ?_ ?_ ?_ ?_,KT.FT.of KX G (KT.ba2 (fun _ _ _ _ _ _ _ _ _=>rfl) rfl) ?_ ?_ ?_ ?_,KT.FT.of KX G (KT.ba2 (fun _ _ _ _ _ _ _ _ _=>rfl) rfl) ?_ ?_ ?_ ?_,KT.FT.of KX G (KT.ba3 (fun _ _ _ _ _ _ _ _ _ _=>rfl) rfl) ?_ ?_ ?_ ?_,KT.FT.of KX G (KT.ba3 (fun _ _ _ _ _ _ _ _ _ _=>rfl) rfl) ?_ ?_ ?_ ?_,KT.FT.of KX G (KT.ba3 (fun _ _ _ _ _ _ _ _ _ _=>rfl) rfl) ?_ ?_ ?_ ?_,KT.FT.of KX G (KT.ba3 (fun _ _ _ _ _ _ _ _ _ _=>rfl) rfl) ?_ ?_ ?_ ?_,KT.FT.of KX G (KT.ba3 (fun _ _ _ _ _ _ _ _ _ _=>rfl) rfl) ?_ ?_ ?_ ?_,KT.FT.of KX G (KT.ba4 (fun _ _ _ _ _ _ _ _ _ _ _=>rfl) rfl) ?_ ?_ ?_ ?_,KT.FT.of KX G (KT.ba3 (fun _ _ _ _ _ _ _ _ _ _=>rfl) rfl) ?_ ?_ ?_ ?_,KT.FT.of KX G (KT.ba2 (fun _ _ _ _ _ _ _ _ _=>rfl) rfl) ?_ ?_ ?_ ?_,KT.FT.of KX G (KT.ba2 (fun _ _ _ _ _ _ _ _ _=>rfl) rfl) ?_ ?_ ?_ ?_,KT.FT.of KX G (KT.ba2 (fun _ _ _ _ _ _ _ _ _=>rfl) rfl) ?_ ?_ ?_ ?_,KT.FT.of KX G (KT.ba1 (fun _ _ _ _ _ _ _ _=>rfl) rfl) ?_ ?_ ?_ ?_,KT.FT.of KX G (KT.ba1 (fun _ _ _ _ _ _ _ _=>rfl) rfl) ?_ ?_ ?_ ?_,KT.FT.of KX G (KT.ba2 (fun _ _ _ _ _ _ _ _ _=>rfl) rfl) ?_ ?_ ?_ ?_,KT.FT.of KX G (KT.ba2 (fun _ _ _ _ _ _ _ _ _=>rfl) rfl) ?_ ?_ ?_ ?_,KT.FT.of KX G (KT.ba3 (fun _ _ _ _ _ _ _ _ _ _=>rfl) rfl) ?_ ?_ ?_ ?_,KT.FT.of KX G (KT.ba1 (fun _ _ _ _ _ _ _ _=>rfl) rfl) ?_ ?_ ?_ ?_,KT.FT.of KX G (KT.ba1 (fun _ _ _ _ _ _ _ _=>rfl) rfl) ?_ ?_ ?_ ?_,KT.FM.of (KT.ba5 (fun _ _ _ _ _ _ _ _ _ _ _ _=>rfl) rfl) ?_ ?_ ?_ ?_ ?_,KT.FT.of KX G (KT.ba1 (fun _ _ _ _ _ _ _ _=>rfl) rfl) ?_ ?_ ?_ ?_,KT.FT.of KX G (KT.ba1 (fun _ _ _ _ _ _ _ _=>rfl) rfl) ?_ ?_ ?_ ?_,KT.FT.of KX G (KT.ba3 (fun _ _ _ _ _ _ _ _ _ _=>rfl) rfl) ?_ ?_ ?_ ?_,KT.FM.of (KT.ba2 (fun _ _ _ _ _ _ _ _ _=>rfl) rfl) ?_ ?_ ?_ ?_ ?_,KT.FM.of (KT.ba3 (fun _ _ _ _ _ _ _ _ _ _=>rfl) rfl) ?_ ?_ ?_ ?_ ?_,KT.FM.of (KT.ba3 (fun _ _ _ _ _ _ _ _ _ _=>rfl) rfl) ?_ ?_ ?_ ?_ ?_,KT.FT.of KX G (KT.ba1 (fun _ _ _ _ _ _ _ _=>rfl) rfl) ?_ ?_ ?_ ?_,KT.FT.of KX G (KT.ba2 (fun _ _ _ _ _ _ _ _ _=>rfl) rfl) ?_ ?_ ?_ ?_,KT.FT.of KX G (KT.ba2 (fun _ _ _ _ _ _ _ _ _=>rfl) rfl) ?_ ?_ ?_ ?_,KT.FT.of KX G (KT.ba1 (fun _ _ _ _ _ _ _ _=>rfl) rfl) ?_ ?_ ?_ ?_,KT.FT.of KX G (KT.ba3 (fun _ _ _ _ _ _ _ _ _ _=>rfl) rfl) ?_ ?_ ?_ ?_,KT.FT.of KX G (KT.ba2 (fun _ _ _ _ _ _ _ _ _=>rfl) rfl) ?_ ?_ ?_ ?_,KT.FT.of KX G (KT.ba3 (fun _ _ _ _ _ _ _ _ _ _=>rfl) rfl) ?_ ?_ ?_ ?_,KT.FT.of KX G (KT.ba2 (fun _ _ _ _ _ _ _ _ _=>rfl) rfl) ?_ ?_ ?_ ?_,KT.FT.of KX G (KT.ba3 (fun _ _ _ _ _ _ _ _ _ _=>rfl) rfl) ?_ ?_ ?_ ?_,KT.FT.of KX G (KT.ba3 (fun _ _ _ _ _ _ _ _ _ _=>rfl) rfl) ?_ ?_ ?_ ?_,KT.FT.of KX G (KT.ba1 (fun _ _ _ _ _ _ _ _=>rfl) rfl) ?_ ?_ ?_ ?_,KT.FT.of KX G (KT.ba2 (fun _ _ _ _ _ _ _ _ _=>rfl) rfl) ?_ ?_ ?_ ?_,KT.FT.of KX G (KT.ba3 (fun _ _ _ _ _ _ _ _ _ _=>rfl) rfl) ?_ ?_ ?_ ?_,KT.FT.of KX G (KT.ba1 (fun _ _ _ _ _ _ _ _=>rfl) rfl) ?_ ?_ ?_ ?_,KT.FT.of KX G (KT.ba2 (fun _ _ _ _ _ _ _ _ _=>rfl) rfl) ?_ ?_ ?_ ?_,KT.FT.of KX G (KT.ba2 (fun _ _ _ _ _ _ _ _ _=>rfl) rfl) ?_ ?_ ?_ ?_,KT.FT.of KX G (KT.ba7 (fun _ _ _ _ _ _ _ _ _ _ _ _ _ _=>rfl) rfl) ?_ ?_ ?_ ?_,KT.FT.of KX G (KT.ba5 (fun _ _ _ _ _ _ _ _ _ _ _ _=>rfl) rfl) ?_ ?_ ?_ ?_,KT.FT.of KX G (KT.ba5 (fun _ _ _ _ _ _ _ _ _ _ _ _=>rfl) rfl) ?_ ?_ ?_ ?_,KT.FT.of KX G (KT.ba6 (fun _ _ _ _ _ _ _ _ _ _ _ _ _=>rfl) rfl) ?_ ?_ ?_ ?_,KT.FT.of KX G (KT.ba7 (fun _ _ _ _ _ _ _ _ _ _ _ _ _ _=>rfl) rfl) ?_ ?_ ?_ ?_,KT.FT.of KX G (KT.ba4 (fun _ _ _ _ _ _ _ _ _ _ _=>rfl) rfl) ?_ ?_ ?_ ?_,KT.FT.of KX G (KT.ba1 (fun _ _ _ _ _ _ _ _=>rfl) rfl) ?_ ?_ ?_ ?_,⟨?_,?_,?_,?_⟩,⟨?_,?_,?_,?_⟩,⟨?_,?_,?_,?_⟩,mg_of KX G ?_,mg_of KX G ?_,mg_of KX G ?_,mg_of KX G ?_,mg_of KX G ?_,mg_of KX G ?_,L2.kdict_mk2 ?_ ?_ ?_ (by decide) ?_,fun s u=>.of_eq rfl,mg_none_of KX G ?_,mg_none_of KX G ?_,mg_none_of KX G ?_,mg_none_of KX G ?_,mg_none_of KX G ?_,mg_none_of KX G ?_,mg_none_of KX G ?_,mg_none_of KX G ?_,mg_none_of KX G ?_,mg_none_of KX G ?_,mg_none_of KX G ?_,mg_none_of KX G ?_,mg_none_of KX G ?_,mg_none_of KX G ?_,mg_none_of KX G ?_,mg_none_of KX G ?_,mg_none_of KX G ?_,mg_of KX G ?_,⟨?_⟩,mg_of KX G ?_,⟨?_⟩,mg_of KX G ?_,⟨?_⟩,mg_of KX G ?_,⟨?_⟩,mg_of KX G ?_,⟨?_⟩,mg_of KX G ?_,⟨?_⟩,mg_of KX G ?_,⟨?_⟩,mg_of KX G ?_,⟨?_⟩,mg_of KX G ?_,⟨?_⟩,mg_of KX G ?_,⟨?_⟩,mg_of KX G ?_,⟨?_⟩,mg_of KX G ?_,⟨?_⟩,mg_of KX G ?_,⟨?_⟩,mg_of KX G ?_,⟨?_⟩,mg_of KX G ?_,?_,?_,?_,?_,?_,?_,?_,?_,?_,?_⟩⟩
   any_goals first | k_is | k_exc | rfl | kernel_rfl
  obtain ⟨t,T⟩:=T
  have e0:=hmg.symm.trans T.iM.g
  cases e0
  refine' ⟨_,?b,fun base kb nb=>KT.ok_law T⟩
  exact T.bl
#print axioms PySem.Challenge.cw_tentloops_k11_exchange_refusals_holds
