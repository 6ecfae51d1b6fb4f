import PyProof.Rows.All
import Wide.All
import OpenK.AllK
import Wide.FinOn
import Lean
import PyProof.EqAt
import PyProof.EqKinds
import PyProof.TupleCall
import PySem.Challenge.RW_tentloops_k72_refusals_apart
set_option Elab.async false
set_option linter.all false
set_option autoImplicit true
set_option relaxedAutoImplicit true
set_option maxRecDepth 100000
universe u v
theorem Z{α:Sort v}{a:α}:a=a:=rfl
def An(n:Nat):n<=n:=Nat.le_refl n
def Ao{h:PySem.Heap}{a:PySem.Addr}{o:PySem.Obj}:h.get? a=some o->a<h.objs.size:=PySem.Heap.lt_size
def Ap(h:PySem.Heap){o:PySem.Obj}:o.isFreed=false->(h.push o).get? h.objs.size=some o:=PySem.Heap.get?_push_size h
def Aq{α:Type u}{a:List α}:a.toArray.size=a.length:=List.size_toArray
def Ar{α:Type u}{b:α}{l:List α}{a:α}:a∈b::l->a=b\/a∈l:=List.mem_cons.mp
def As{a b:Nat}:a<b->a≠b:=Nat.ne_of_lt
def At{α:Type u}{a:α}:[a].length=1:=List.length_singleton
def Au{α:Type u}{l:List α}{i:Nat}{a:α}:l[i]?=some a->a∈l:=List.mem_of_getElem?
def Av{α:Type u}{l k:List α}{i:Nat}:i<l.length->(l++k)[i]?=l[i]?:=List.getElem?_append_left
def Aw{α:Type u}{l:List α}{i:Nat}:l.take (i+1)=l.take i++l[i]?.toList:=List.take_add_one
def Ax{α:Type u}{a b:α}:some a=some b->a=b:=Option.some.inj
def Ay{α:Type u}{l:List α}{i:Nat}:l.length<=i->l[i]?=none:=List.getElem?_eq_none
def Az(n:Nat):0<=n:=Nat.zero_le n
def Aa{α:Type u}{i:Nat}{a:α}{l:List α}:l[i]?=some a->∃ h:i<l.length,l[i]=a:=List.getElem?_eq_some_iff.mp
def Ab{α:Type u}{β:Type v}{as:List α}(f:α->β):(as.map f).length=as.length:=List.length_map f
def Ac{α:Type u}{l:List α}{i:Nat}(h:i<l.length):l[i]?=some l[i]:=List.getElem?_eq_getElem h
def Ad{α:Type u}{l:List α}{i:Nat}{a:α}:l.getD i a=l[i]?.getD a:=List.getD_eq_getElem?_getD
def Ae{α:Type u}{as bs:List α}:(as++bs).length=as.length+bs.length:=List.length_append
def Af{α:Type u}{a b:α}:a∈[b]->a=b:=List.mem_singleton.mp
def Ag{n m k:Nat}:n<m->m<=k->n<k:=Nat.lt_of_lt_of_le
def Ah{α:Type u}{β:Type v}{f:α->β}{l:List α}{i:Nat}:(l.map f)[i]?=(l[i]?).map f:=List.getElem?_map
def Ai{α:Type u}{i:Nat}{l:List α}:(l.take i).length=min i l.length:=List.length_take
def Aj{α:Type u}{β:Type v}{f:α->β}{l₁ l₂:List α}:(l₁++l₂).map f=l₁.map f++l₂.map f:=List.map_append
def Ak{h:PySem.Heap}{a:PySem.Addr}{o':PySem.Obj}(o:PySem.Obj)(e:h.get? a=some o'):(h.push o).get? a=some o':=PySem.Heap.get?_push_of_some o e
def Al{α β:Type}{M:PySem.Model}{A:PySem.Around}{E:PySem.Value->PySem.Shared->Prop}{s:PySem.Shared}{m:PySem.Sem α}{f:α->PySem.Sem β}{Q:β->PySem.Shared->Prop}(h:PySem.wpAny M A m (λa s'=>PySem.wpAny M A (f a) Q E s') E s):PySem.wpAny M A (m>>=f) Q E s:=PySem.wpAny_bind h
set_option maxHeartbeats 4000000
namespace L2
open PySem PySem.Spec PyProof.Rows
abbrev Key:=Sum Int Str
def Qu:Key->Value->Bool
 | .inl k,v=>Value.isInt k v
 | .inr x,v=>Value.isStrOf x v
def keyH (w:World):Key->Int
 | .inl k=>hashInt k
 | .inr x=>hashStr w x
theorem Y0:∀ {k:Key} {v:Value},Qu k v=true->(∃ i t,k=Sum.inl i/\v=Value.int i t)\/(∃ x t,k=Sum.inr x/\v=Value.str x t)
 | .inl i,v,h=>by
  obtain ⟨t,e⟩:=Value.isInt_shape (k:=i) (v:=v) h;exact .inl ⟨i,t,Z,e⟩
 | .inr x,v,h=>by
  obtain ⟨t,e⟩:=Value.isStrOf_shape (x:=x) (v:=v) h;exact .inr ⟨x,t,Z,e⟩
def Zgb (i:Int) (t:Tok):Qu (.inl i) (.int i t)=true:=by simp [Qu,Value.isInt]
def Yk (x:Str) (t:Tok):Qu (.inr x) (.str x t)=true:=by simp [Qu,Value.isStrOf]
def Zkj (a b:Int):decide ((Sum.inl a:Key)=Sum.inl b)=(a == b):=by
 by_cases e:a=b
 ·subst e; simp
 ·have h:¬ (Sum.inl a:Key)=Sum.inl b:=λq=>e (Sum.inl.inj q)
  rw [decide_eq_false h];exact (beq_eq_false_iff_ne.mpr e).symm
def Zkg (a b:Str):decide ((Sum.inr a:Key)=Sum.inr b)=decide (a=b):=by
 by_cases e:a=b
 ·subst e; simp
 ·have h:¬ (Sum.inr a:Key)=Sum.inr b:=λq=>e (Sum.inr.inj q)
  rw [decide_eq_false h,decide_eq_false e]
def Zki (a:Int) (b:Str):decide ((Sum.inl a:Key)=Sum.inr b)=false:=decide_eq_false (λq=>nomatch q)
def Zkh (a:Str) (b:Int):decide ((Sum.inr a:Key)=Sum.inl b)=false:=decide_eq_false (λq=>nomatch q)
def Z0 (prog:Program) (w:World):PySem.KeyKind prog w Key where
 is:=Qu
 hash:=keyH w
 inj:=λv a b ha hb=>by
  rcases Y0 ha with ⟨i,t,rfl,rfl⟩ | ⟨x,t,rfl,rfl⟩
  ·rcases Y0 hb with ⟨j,u,rfl,e⟩ | ⟨y,u,rfl,e⟩
   ·injection e with e1 _; rw [e1]
   ·exact nomatch e
  ·rcases Y0 hb with ⟨j,u,rfl,e⟩ | ⟨y,u,rfl,e⟩
   ·exact nomatch e
   ·injection e with e1 _; rw [e1]
 byValue:=λk v h=>by
  rcases Y0 h with ⟨i,t,rfl,rfl⟩ | ⟨x,t,rfl,rfl⟩ <;> rfl
 pyHash:=λhv h=>by
  rcases Y0 hv with ⟨i,t,rfl,rfl⟩ | ⟨x,t,rfl,rfl⟩
  ·exact wpAny_pyHash_int h
  ·exact wpAny_pyHash_str h
 eqBool:=λhu hv h=>by
  rcases Y0 hu with ⟨i,t,rfl,rfl⟩ | ⟨x,t,rfl,rfl⟩
  ·rcases Y0 hv with ⟨j,u,rfl,rfl⟩ | ⟨y,u,rfl,rfl⟩
   ·rw [Zkj] at h; exact wpAny_eqBool_int h
   ·rw [Zki] at h; exact SeqAt.EqAt.int_str i t y u _ _ _ _ h
  ·rcases Y0 hv with ⟨j,u,rfl,rfl⟩ | ⟨y,u,rfl,rfl⟩
   ·rw [Zkh] at h; exact SeqAt.EqAt.str_int x t j u _ _ _ _ h
   ·rw [Zkg] at h; exact wpAny_eqBool_str h
 «strs»:=λk x t v h=>by
  rcases Y0 h with ⟨i,u,rfl,e⟩ | ⟨y,u,rfl,e⟩
  ·exact nomatch e
  ·injection e with e1 _
   subst e1;cases v <;> rfl
def Zcs (prog:Program) (w:World) (i:Int) (t:Tok):(Z0 prog w).is (.inl i) (.int i t)=true:=Zgb i t
def Zcr (prog:Program) (w:World) (x:Str) (t:Tok):(Z0 prog w).is (.inr x) (.str x t)=true:=Yk x t
inductive V where
 | non | bl (b:Bool) | int (i:Int) | str (x:Str) | byt (b:Array UInt8) | flt (b:UInt64) | ref (a:Addr) | ty (n:String)
 deriving DecidableEq
set_option genInjectivity false
set_option genSizeOf false
def RelV:V->Value->Prop
 | .non,u=>u=Value.none
 | .bl b,u=>u=Value.bool b
 | .int i,u=>∃ t,u=Value.int i t
 | .str x,u=>∃ t,u=Value.str x t
 | .byt b,u=>∃ t,u=Value.bytes b t
 | .flt b,u=>∃ t,u=Value.float b t
 | .ref a,u=>u=Value.ref a
 | .ty n,u=>u=Value.type n
abbrev Vals:List V->List Value->Prop:=Paired RelV
def Vals.length {xs:List V} {us:List Value} (r:Vals xs us):xs.length=us.length:=Paired.length r
theorem Vals.get:∀ {xs:List V} {us:List Value} {i:Nat} {x:V},Vals xs us->xs[i]?=some x->∃ u,us[i]?=some u/\RelV x u
 | _,_,_,_,.nil,e=>by simp at e
 | _,_,0,_,.cons r _,e=>by simp at e; subst e; exact ⟨_,Z,r⟩
 | _,_,i + 1,x,.cons _ t,e=>by
  obtain ⟨u,h1,h2⟩:=Vals.get (i:=i) (x:=x) t (by simpa using e);exact ⟨u,by simpa using h1,h2⟩
theorem Vals.set (r:RelV x u):∀ {xs:List V} {us:List Value} (i:Nat),Vals xs us->Vals (xs.set i x) (us.set i u)
 | _,_,_,.nil=>.nil
 | _,_,0,.cons _ t=>.cons r t
 | _,_,i + 1,.cons q t=>.cons q (Vals.set r i t)
theorem Vals.append:∀ {xs ys:List V} {us ws:List Value},Vals xs us->Vals ys ws->Vals (xs ++ ys) (us ++ ws)
 | _,_,_,_,.nil,s=>s
 | _,_,_,_,.cons r t,s=>.cons r (Vals.append t s)
theorem Vals.take:∀ {xs:List V} {us:List Value} (n:Nat),Vals xs us->Vals (xs.take n) (us.take n)
 | _,_,0,_=>.nil
 | _,_,_ + 1,.nil=>.nil
 | _,_,n + 1,.cons r t=>.cons r (Vals.take n t)
theorem Vals.drop:∀ {xs:List V} {us:List Value} (n:Nat),Vals xs us->Vals (xs.drop n) (us.drop n)
 | _,_,0,r=>r
 | _,_,_ + 1,.nil=>.nil
 | _,_,n + 1,.cons _ t=>Vals.drop n t
def RelO:Option V->Option Value->Prop
 | some v,some u=>RelV v u
 | none,none=>True
 | _,_=>False
def KV {κ:Type}:List (κ × V)->List (κ × Value)->Prop:=Paired λ(p:κ × V) (q:κ × Value)=>p.1=q.1/\RelV p.2 q.2
def kV:Key->V
 | .inl i=>.int i
 | .inr x=>.str x
inductive HO where
 /-- a list -/
 | lst (xs:List V)
 /-- a tuple (never changes) -/
 | tup (xs:List V)
 /-- a dict whose keys are ints and texts; one whose keys are tuples of ints and texts (the empty one is both) -/
 | dK (kvs:List (Key × V)) | dT (kvs:List (List Key × V))
 /-- a set of ints: its members,its size -/
 | set (S:Int->Bool) (n:Nat)
 /-- an instance of the class at C,its dict at dx,its attributes -/
 | ins (C dx:Addr) (fs:List (Str × V))
 /-- the dict of the instance at x -/
 | own (x:Addr)
 /-- the dict of an exception -/
 | xd (fs:List (Str × V))
 /-- a bound method,f of x -/
 | met (f x:Addr)
 /-- a range object lo,lo + 1,.. below hi -/
 | rng (lo hi:Int)
 /-- a thing that is known to the object (the script; a dict while a loop walks it): read,never written while it is so -/
 | frz (o:Obj) (u:HO)
 /-- a code object's table -/
 | tbl (ps:Array Value)
 /-- any other thing,by what is true of its one object (a def of one's own: SetO a S n:=HO.ext λh=>..) -/
 | ext (φ:Heap->Prop)
abbrev Hp:=Addr->Option HO
def upd (H:Hp) (a:Addr) (o:HO):Hp:=λb=>if b=a then some o else H b
def Zc:upd H a o a=some o:=by unfold upd; rw [if_pos rfl]
def Zf (h:b≠a):upd H a o b=H b:=by unfold upd; rw [if_neg h]
def Zlg {H:Hp} (h:H a=some o) (h':H b=some u) (d:o≠u):a≠b:=by
 intro e; subst e; rw [h] at h'; exact d (Ax h')
def Zj {H:Hp} (h:H a=some o) (h':H b=none):a≠b:=by
 intro e; subst e; rw [h] at h'; cases h'
section
variable (P:Program) (w:World)
def Ya (H:Hp) (h:Heap) (a:Addr):HO->Prop
 | .lst xs=>xs.length<=sizeLine/\∃ (its:List Value) (n:Nat),Vals xs its/\h.get? a=some { cls:=.type "list",data:=.seq its.toArray n }
 | .tup xs=>xs.length<=sizeLine/\∃ its:List Value,Vals xs its/\IsTup h a its.toArray
 | .dK kvs=>kvs.length<=sizeLine/\(a == sysModules)=false/\∃ vs,KV kvs vs/\h.DictOf (Z0 P w) a vs
 | .dT kvs=>kvs.length<=sizeLine/\(a == sysModules)=false/\∃ xs:List (List Key × Addr × Value),
   Paired (λ(p:List Key × V) (q:List Key × Addr × Value)=>p.1=q.1/\H q.2.1=some (.tup (p.1.map kV))/\RelV p.2 q.2.2) kvs xs /\
   ∃ o es ep,h.get? a=some o/\o.ExactDict/\o.data=.dict es ep/\es.toList=xs.map (entryOfKey (tupleKind (Z0 P w)))/\(xs.map (·.1)).Nodup
 | .set S n=>h.SetOf (intKind P w) a S n
 | .ins C dx fs=>H dx=some (.own a)/\fs.length<=1000/\dx≠a/\h.get? a=some (PySem.W.instObj C dx) /\
   ∃ mA,h.Ns1 dx mA/\(∀ f,RelO (fs.lookup f) (mA f))/\PySem.Within mA (fs.map (·.1))
 | .own _=>∃ o,h.get? a=some o
 | .xd fs=>∃ mA,h.Ns1 a mA/\∀ f,RelO (fs.lookup f) (mA f)
 | .rng lo hi=>∃ t u v,h.get? a=some { cls:=.type "range",data:=.fields #[.int lo t,.int hi u,.int 1 v] }
 | .frz o u=>h.get? a=some o/\Ya H h a u
 | .tbl ps=>h.get? a=some { cls:=.none,data:=.fields ps }
 | .met f x=>h.get? a=some (PySem.W.methodObj (.ref f) (.ref x))
 | .ext φ=>φ h/\(∃ o,h.get? a=some o)/\∀ h1 h2:Heap,φ h1->(∀ o,h1.get? a=some o->h2.get? a=some o)->φ h2
def HOk (H:Hp) (h:Heap):Prop:=∀ a o,H a=some o->Ya P w H h a o
end
section
variable {P:Program} {w:World} {H H':Hp} {h h':Heap} {a:Addr} {o:HO}
def Ya.lt (x:Ya P w H h a o):a < h.objs.size:=by
 cases o with
 | lst xs=>obtain ⟨_,_,_,_,e⟩:=x; exact Ao e
 | tup xs=>obtain ⟨_,_,_,p⟩:=x; exact p.lt
 | dK kvs=>obtain ⟨_,_,_,_,o,_,_,e,_⟩:=x; exact Ao e
 | dT kvs=>obtain ⟨_,_,_,_,o,_,_,e,_⟩:=x; exact Ao e
 | set S n=>obtain ⟨o,_,_,_,e,_⟩:=x; exact Ao e
 | ins C dx fs=>obtain ⟨_,_,_,e,_⟩:=x; exact Ao e
 | own y=>obtain ⟨_,e⟩:=x; exact Ao e
 | xd fs=>obtain ⟨_,⟨_,_,_,e,_⟩,_⟩:=x; exact Ao e
 | rng lo hi=>obtain ⟨_,_,_,e⟩:=x; exact Ao e
 | frz ob u=>obtain ⟨e,_⟩:=x; exact Ao e
 | tbl ps=>exact Ao (show h.get? a=some _ from x)
 | met f y=>exact Ao (show h.get? a=some _ from x)
 | ext φ=>obtain ⟨_,⟨_,e⟩,_⟩:=x; exact Ao e
theorem Paired.mapP {α β:Type} {F G:α->β->Prop}:∀ {l₁:List α} {l₂:List β},Paired F l₁ l₂->(∀ a b,F a b->G a b)->Paired G l₁ l₂
 | _,_,.nil,_=>.nil
 | _,_,.cons r t,f=>.cons (f _ _ r) (Paired.mapP t f)
def Ya.stay (x:Ya P w H h a o) (k:∀ b u,(b=a\/H b=some (.own a))->h.get? b=some u->h'.get? b=some u)
  (ho:∀ b,H b=some (.own a)->H' b=some (.own a)) (ht:∀ b xs,H b=some (.tup xs)->H' b=some (.tup xs)):Ya P w H' h' a o:=by
 induction o with
 | lst xs=>obtain ⟨z,its,n,r,e⟩:=x; exact ⟨z,its,n,r,k _ _ (.inl Z) e⟩
 | tup xs=>obtain ⟨z,its,r,ob,e,c⟩:=x; exact ⟨z,its,r,ob,k _ _ (.inl Z) e,c⟩
 | dK kvs=>obtain ⟨z,y,vs,r,ob,es,ep,e,c⟩:=x; exact ⟨z,y,vs,r,ob,es,ep,k _ _ (.inl Z) e,c⟩
 | dT kvs =>
  obtain ⟨z,y,xs,r,ob,es,ep,e,c⟩:=x;exact ⟨z,y,xs,Paired.mapP r λp q z=>⟨z.1,ht _ _ z.2.1,z.2.2⟩,ob,es,ep,k _ _ (.inl Z) e,c⟩
 | set S n=>obtain ⟨ob,es,ep,t,e,c⟩:=x; exact ⟨ob,es,ep,t,k _ _ (.inl Z) e,c⟩
 | ins C dx fs =>
  obtain ⟨d,z,ne,e,mA,⟨od,es,ep,e2,c⟩,r⟩:=x;exact ⟨ho _ d,z,ne,k _ _ (.inl Z) e,mA,⟨od,es,ep,k _ _ (.inr d) e2,c⟩,r⟩
 | own y=>obtain ⟨ob,e⟩:=x; exact ⟨ob,k _ _ (.inl Z) e⟩
 | xd fs=>obtain ⟨mA,⟨od,es,ep,e,c⟩,r⟩:=x; exact ⟨mA,⟨od,es,ep,k _ _ (.inl Z) e,c⟩,r⟩
 | rng lo hi=>obtain ⟨t,u,v,e⟩:=x; exact ⟨t,u,v,k _ _ (.inl Z) e⟩
 | frz ob u ih=>obtain ⟨e,q⟩:=x; exact ⟨k _ _ (.inl Z) e,ih q⟩
 | tbl ps =>
  have e:h.get? a=some { cls:=.none,data:=.fields ps }:=x;show h'.get? a=some { cls:=.none,data:=.fields ps };exact k a _ (.inl Z) e
 | met f y =>
  have e:h.get? a=some (PySem.W.methodObj (.ref f) (.ref y)):=x;show h'.get? a=some (PySem.W.methodObj (.ref f) (.ref y));exact k a _ (.inl Z) e
 | ext φ=>obtain ⟨p,⟨o,e⟩,st⟩:=x; exact ⟨st _ _ p λo q=>k _ _ (.inl Z) q,⟨o,k _ _ (.inl Z) e⟩,st⟩
def HOk.lt (x:HOk P w H h) (e:H a=some o):a < h.objs.size:=(x a o e).lt
def HOk.fresh (x:HOk P w H h) (e:h.objs.size<=a):H a=none:=by
 cases q:H a with
 | none=>rfl
 | some u=>exact absurd (Ag (x.lt q) e) (Nat.lt_irrefl _)
def HOk.kept (x:HOk P w H h) (k:∀ b u,h.get? b=some u->h'.get? b=some u):HOk P w H h':=λa o e =>
 (x a o e).stay (λb u _ q=>k b u q) (λ_ q=>q) λ_ _ q=>q
def HOk.laid (x:HOk P w H h) (k:∀ b u,h.get? b=some u->h'.get? b=some u) (hp:h.objs.size<=a) (new:Ya P w (upd H a o) h' a o):HOk P w (upd H a o) h':=λb u e=>by
 have hn:=x.fresh hp;by_cases hb:b=a
 ·subst hb; rw [Zc] at e; cases e; exact new
 ·rw [Zf hb] at e
  exact (x b u e).stay (λc v _ q=>k c v q) (λc q=>by rw [Zf (Zj q hn)]; exact q) λc xs q=>by rw [Zf (Zj q hn)]; exact q
end
def Rd (H:Hp) (a:Addr) (u:HO):Prop:=H a=some u\/∃ o,H a=some (.frz o u)
def Rd.ok {P:Program} {w:World} {H:Hp} {h:Heap} {a:Addr} {u:HO} (r:Rd H a u) (x:HOk P w H h):Ya P w H h a u:=by
 rcases r with r | ⟨o,r⟩
 ·exact x a u r
 ·obtain ⟨_,q⟩:=x a _ r
  exact q
def Mut:Option HO->Prop
 | some (.lst _)=>True
 | some (.dK _)=>True
 | some (.dT _)=>True
 | some (.set _ _)=>True
 | some (.ins _ _ _)=>True
 | some (.ext _)=>True
 | _=>False
section
variable {P:Program} {w:World} {H:Hp} {h h':Heap} {x e:Addr} {o':HO}
def HOk.write (ok:HOk P w H h) (mu:Mut (H x)) (he:e=x\/H e=some (.own x)) (k:∀ b u,b≠e->h.get? b=some u->h'.get? b=some u) (uh:∃ u,h'.get? e=some u)
  (new:Ya P w (upd H x o') h' x o'):HOk P w (upd H x o') h':=λb u q=>by
 have oh:∀ c y,H c=some (.own y)->c≠x:=λc y r z=>by subst z; rw [r] at mu; exact mu
 have m9:∀ c xs,H c=some (.tup xs)->c≠x:=λc xs r z=>by subst z; rw [r] at mu; exact mu
 by_cases hb:b=x
 ·subst hb; rw [Zc] at q; cases q; exact new
 ·rw [Zf hb] at q
  by_cases sd:b=e
  ·have q':H b=some (.own x):=by
    rcases he with z | z
    ·exact absurd (sd.trans z) hb
    ·rw [sd]; exact z
   rw [q] at q'; cases q';obtain ⟨v,hv⟩:=uh;exact ⟨v,by rw [sd]; exact hv⟩
  ·refine (ok b u q).stay (λc v hc r=>k c v ?_ r) (λc r=>by rw [Zf (oh c b r)]; exact r) λc xs r=>by rw [Zf (m9 c xs r)]; exact r
   rcases hc with rfl | hc
   ·exact sd
   ·rintro rfl
    rcases he with z | z
    ·exact oh c b hc z
    ·rw [hc] at z; cases z; exact hb Z
end
structure Un (fs ex:List Addr) (H H':Hp) (h h':Heap):Prop where
 keep:∀ b o,h.get? b=some o->H b=none->b ∉ fs->b ∉ ex->h'.get? b=some o
 slot:∀ b o,h.get? b=some o->H b=none->b∈fs->b ∉ ex->∃ sl,h'.get? b=some { o with slots:=sl }
 free:∀ b o,h.get? b=some o->H b=none->b ∉ ex->H' b=none
 there:∀ b o,h.get? b=some o->b ∉ ex->∃ o',h'.get? b=some o'
 tups:∀ b xs,H b=some (.tup xs)->H' b=some (.tup xs)
 frzs:∀ b o u,H b=some (.frz o u)->H' b=some (.frz o u)
 tbls:∀ b ps,H b=some (.tbl ps)->∃ more,H' b=some (.tbl (ps ++ more))
section
variable {fs fs' ex ex':List Addr} {H H1 H2:Hp} {h h1 h2 h':Heap} {a x e:Addr} {o:HO}
def Un.any (u:Un fs ex H H1 h h1) (q:h.get? b=some ob) (n:H b=none) (hx:b ∉ ex):∃ sl,h1.get? b=some { ob with slots:=sl }:=by
 by_cases hb:b∈fs
 ·exact u.slot b ob q n hb hx
 ·exact ⟨ob.slots,u.keep b ob q n hb hx⟩
def Un.kept (k:∀ b u,h.get? b=some u->h'.get? b=some u):Un fs ex H H h h' :=
 ⟨λb ob q _ _ _=>k b ob q,λb ob q _ _ _=>⟨ob.slots,k b ob q⟩,λ_ _ _ n _=>n,λb ob q _=>⟨ob,k b ob q⟩,λ_ _ q=>q,λ_ _ _ q=>q,λ_ ps q=>⟨#[],by rw [q]; simp⟩⟩
def Un.refl:Un fs ex H H h h:=Un.kept λ_ _ q=>q
def Un.laid (k:∀ b u,h.get? b=some u->h'.get? b=some u) (hp:h.objs.size<=a) (hn:H a=none):Un fs ex H (upd H a o) h h' where
 keep:=λb u q _ _ _=>k b u q
 slot:=λb u q _ _ _=>⟨u.slots,k b u q⟩
 free:=λb u q n _=>by rw [Zf (As (Ag (Ao q) hp))]; exact n
 there:=λb u q _=>⟨u,k b u q⟩
 tups:=λb xs q=>by rw [Zf (Zj q hn)]; exact q
 frzs:=λb u xs q=>by rw [Zf (Zj q hn)]; exact q
 tbls:=λb ps q=>⟨#[],by rw [Zf (Zj q hn),q]; simp⟩
def Un.write (mu:Mut (H x)) (he:e=x\/H e=some (.own x)) (k:∀ b u,b≠e->h.get? b=some u->h'.get? b=some u) (uh:∃ u,h'.get? e=some u):Un fs ex H (upd H x o) h h':=by
 have hx:∀ b,H b=none->b≠x:=λb n z=>by subst z; rw [n] at mu; exact mu
 have hb:∀ b,H b=none->b≠e:=λb n z=>by
  subst z
  rcases he with r | r
  ·exact hx b n r
  ·rw [n] at r; cases r
 have hm:∀ b u,H b=some u->¬ Mut (some u)->b≠x:=λb u q nm z=>by subst z; rw [q] at mu; exact nm mu
 refine ⟨λb u q n _ _=>k b u (hb b n) q,λb u q n _ _=>⟨u.slots,k b u (hb b n) q⟩,λb u q n _=>by rw [Zf (hx b n)]; exact n,λb u q _=>?_,
  λb xs q=>by rw [Zf (hm b _ q λz=>z)]; exact q,λb u xs q=>by rw [Zf (hm b _ q λz=>z)]; exact q,λb ps q=>⟨#[],by rw [Zf (hm b _ q λz=>z),q]; simp⟩⟩;by_cases sd:b=e
 ·subst sd; exact uh
 ·exact ⟨u,k b u sd q⟩
end
def trk (h:Heap) (H:Hp):List Addr:=(List.range h.objs.size).filter λa=>(H a).isSome
def hidT (h:Heap) (H:Hp):Heap:=PySem.W.hideAll h (trk h H)
def Zge (h:Heap) (H:Hp):(hidT h H).objs.size=h.objs.size:=PySem.W.hideAll_size _ _
def Zhu {h:Heap} (e:h.get? b=some o) (n:H b=none):(hidT h H).get? b=some o :=
 PySem.W.hideAll_get _ e λhm=>by
  have q:(H b).isSome=true:=(List.mem_filter.mp hm).2;rw [n] at q; simp at q
def Zi4 {h:Heap} (e:(hidT h H).get? b=some o):h.get? b=some o/\H b=none:=by
 have e':h.get? b=some o:=PySem.W.of_hideAll (trk h H) e;refine ⟨e',?_⟩
 cases q:H b with
 | none=>rfl
 | some x =>
  have hm:b∈trk h H:=List.mem_filter.mpr ⟨List.mem_range.mpr (Ao e'),by simp [q]⟩;have z:(hidT h H).get? b=none:=PySem.W.hideAll_none (trk h H) hm;rw [z] at e; cases e
def Zjg (g h:Heap) (L:Addr):List (Addr × Obj):=(List.range h.objs.size).filterMap λa=>if a=L\/(g.get? a).isSome=true then none else (h.get? a).map λo=>(a,o)
def rest (g h:Heap) (L d:Addr):List (Addr × Obj):=(Zjg g h L).filter λp=>decide (p.1≠d)
structure Mod (K:W.Frag) (mg:Str->Option Value) (base:Heap):Prop where
 kin:K.In base
 glob:base.Ns mainGlobals mg
 blt:∃ mb,base.Ns builtinsNs mb/\∀ x:Str,x≠"__name__"->mb x=bootBuiltins x
 nolimit:base.NoLimit
structure Cx where
 prog:Program
 w:World
 K:PySem.W.Frag
 mg:Str->Option Value
 base:Heap
 A:Around
 N:List Str
 s₀:Shared
 H₀:Hp
 env:Env
 outer:List Env
 stack:List Env
 ex:List Addr
 fn:Str->Bool
 calm:Bool
 pn:List (Addr × Obj)
 xe:Value->Shared->Prop
def frs (l:List Env):List Addr:=l.filterMap (·.frame)
abbrev Cx.fs (X:Cx):List Addr:=frs X.outer
def Vis (sc:Scope) (x:Str):Prop:=sc.names.lookup x=some .local\/sc.names.lookup x=some .cell\/sc.names.lookup x=some .free
def Loc (sc:Scope) (x:Str):Prop:=sc.names.lookup x=some .local\/sc.names.lookup x=some .cell
def Look (env:Env) (h:Heap) (m:Str->Option Value) (x:Str) (u:Value):Prop :=
 (env.kindOf x=some .local/\m x=some u)\/((env.kindOf x=some .cell\/env.kindOf x=some .free)/\∃ c,env.cells.lookup x=some c/\h.IsCell c (some u))
structure Cx.Ok (X:Cx):Prop where
 mod:Mod X.K X.mg X.base
 kind:X.env.scope.kind=.function
 glob:X.env.globals=mainGlobals
 blt:X.env.builtins=builtinsNs
 above:X.s₀.heap.objs.size<=X.env.locals
 inj:∀ x y c,X.env.cells.lookup x=some c->X.env.cells.lookup y=some c->x=y
 has:∀ x,(X.env.kindOf x=some .cell\/X.env.kindOf x=some .free)->∃ c,X.env.cells.lookup x=some c
 cab:∀ x c,X.fn x=true->X.env.cells.lookup x=some c->X.s₀.heap.objs.size<=c
 hd:X.calm=true->X.A.handled=none
 frames:X.A.frames=some X.stack
 stk:X.stack=X.outer\/(X.stack=X.env :: X.outer/\X.env.frame=some X.env.locals)
 exf:∀ b∈X.ex,b≠X.env.locals/\∀ x c,X.env.cells.lookup x=some c->c≠b
 bs:∀ b o,X.base.get? b=some o->X.s₀.heap.get? b=some o/\X.H₀ b=none
 bsz:X.base.objs.size<=X.s₀.heap.objs.size
 noex:∀ b o,X.base.get? b=some o->b ∉ X.ex
 exfs:∀ b∈X.ex,b ∉ X.fs
 funs:X.s₀.heap.FunFrames X.base X.outer
 frf:∀ b∈X.fs,X.H₀ b=none
structure Inv (X:Cx) (jy:List (Addr × Obj)) (σ:List (Option V)) (H:Hp) (s:Shared):Prop where
 ok:X.Ok
 os:s.os=X.s₀.os
 bare:AllBare s.gens
 base:Un X.fs X.ex X.H₀ H X.s₀.heap s.heap
 loc:∃ m,s.heap.Ns X.env.locals m/\∀ (i:Nat) (x:Str) (v:V),X.N[i]?=some x->σ[i]?=some (some v)->Vis X.env.scope x->∃ u,RelV v u/\Look X.env s.heap m x u
 cell:∀ x c,X.env.cells.lookup x=some c->∃ v,s.heap.IsCell c v
 free:H X.env.locals=none
 freeC:∀ x c,X.env.cells.lookup x=some c->H c=none
 pin:∀ p∈X.pn ++ jy,s.heap.get? p.1=some p.2/\H p.1=none/\p.1≠X.env.locals/\p.1 ∉ X.fs/\∀ v,p.2.data≠.cell v
 hok:HOk X.prog X.w H s.heap
 len:σ.length=X.N.length
section
variable {X:Cx} {jy:List (Addr × Obj)} {σ:List (Option V)} {H H':Hp} {s:Shared} {h':Heap}
def Cx.Ok.nofr (ok:X.Ok) (e:X.base.get? b=some o):b ∉ X.fs:=λhb=>by
 have:=(ok.funs.mem hb).1;rw [e] at this; cases this
def Inv.bs (I:Inv X jy σ H s):∀ b o,X.base.get? b=some o->s.heap.get? b=some o/\H b=none:=λb o e =>
 ⟨I.base.keep b o (I.ok.bs b o e).1 (I.ok.bs b o e).2 (I.ok.nofr e) (I.ok.noex b o e),I.base.free b o (I.ok.bs b o e).1 (I.ok.bs b o e).2 (I.ok.noex b o e)⟩
def Inv.bk (I:Inv X jy σ H s):∀ b o,X.base.get? b=some o->s.heap.get? b=some o:=λb o e=>(I.bs b o e).1
def Inv.mod (I:Inv X jy σ H s):Mod X.K X.mg X.base:=I.ok.mod
def Inv.kIn (I:Inv X jy σ H s):X.K.In s.heap:=I.ok.mod.kin.keeps I.bk
def Inv.lt (I:Inv X jy σ H s):X.env.locals < s.heap.objs.size:=let ⟨_,hn,_⟩:=I.loc; hn.lt
def Inv.sz (I:Inv X jy σ H s):X.s₀.heap.objs.size<=s.heap.objs.size:=Nat.le_trans I.ok.above (Nat.le_of_lt I.lt)
def Inv.nofs (I:Inv X jy σ H s) {a:Addr} (h:s.heap.objs.size<=a):a ∉ X.fs:=λhb=>by
 obtain ⟨_,o,ho,_⟩:=I.ok.funs.mem hb;exact absurd (Ag (Ao ho) (Nat.le_trans I.sz h)) (Nat.lt_irrefl _)
def Inv.cne (I:Inv X jy σ H s):∀ x c,X.env.cells.lookup x=some c->c≠X.env.locals:=λx c e z=>by
 obtain ⟨v,o,ho,hd⟩:=I.cell x c e;obtain ⟨m,⟨o',es,ep,o6,qr,_⟩,_⟩:=I.loc;rw [z,o6] at ho; cases ho; rw [qr] at hd; cases hd
def Inv.funs (I:Inv X jy σ H s):s.heap.FunFrames X.base X.outer:=by
 have all:∀ (l:List Env),(∀ b∈frs l,b∈X.fs)->X.s₀.heap.FunFrames X.base l->s.heap.FunFrames X.base l:=by
  intro l
  induction l with
  | nil=>intro _ _; trivial
  | cons env r ih =>
   intro hs hl;obtain ⟨hk,⟨L,o,hf,hn,ho,hd⟩,hr⟩:=hl;have hL:L∈X.fs:=hs L (by unfold frs; rw [List.filterMap_cons,hf]; exact List.mem_cons_self);obtain ⟨sl,e⟩:=I.base.slot L o ho (I.ok.frf L hL) hL λz=>I.ok.exfs L z hL;exact ⟨hk,⟨L,_,hf,hn,e,hd⟩,ih (λb hb=>hs b (by unfold frs; rw [List.filterMap_cons,hf]; exact List.mem_cons_of_mem _ hb)) hr⟩
 exact all X.outer (λ_ hb=>hb) I.ok.funs
def Inv.stack (I:Inv X jy σ H s):s.heap.FunFrames X.base X.stack:=by
 rcases I.ok.stk with e | ⟨e,hf⟩
 ·rw [e]; exact I.funs
 ·rw [e]
  obtain ⟨m,hn,_⟩:=I.loc;refine .cons (by rw [I.ok.kind]; decide) hf hn ?_ I.funs;exact Heap.get?_none_of_le (Nat.le_trans I.ok.bsz I.ok.above)
def Inv.stkSub (I:Inv X jy σ H s):∀ b∈frs X.stack,b∈X.env.locals :: X.fs:=λb hb=>by
 rcases I.ok.stk with e | ⟨e,hf⟩
 ·rw [e] at hb; exact List.mem_cons_of_mem _ hb
 ·rw [e] at hb
  unfold frs at hb;rw [List.filterMap_cons,hf] at hb;exact hb
def Inv.stkFree (I:Inv X jy σ H s):∀ b∈frs X.stack,H b=none:=λb hb=>by
 rcases Ar (I.stkSub b hb) with e | hb
 ·rw [e]; exact I.free
 ·obtain ⟨_,o,ho,_⟩:=I.ok.funs.mem hb
  exact I.base.free b o ho (I.ok.frf b hb) λz=>I.ok.exfs b z hb
def Inv.step {g':Array GenState} {t':Nat} {d':Drawn} {ch:List Addr} (I:Inv X jy σ H s)
  (ou:∀ b∈ch,(b∈X.ex\/X.s₀.heap.objs.size<=b)/\b≠X.env.locals/\(∀ x c,X.env.cells.lookup x=some c->c≠b)/\∀ p∈X.pn ++ jy,p.1≠b)
  (keep:∀ b o,b≠X.env.locals->b ∉ X.fs->b ∉ ch->s.heap.get? b=some o->H b=none->h'.get? b=some o)
  (slot:∀ b o,b≠X.env.locals->b∈X.fs->b ∉ ch->s.heap.get? b=some o->H b=none->∃ sl,h'.get? b=some { o with slots:=sl }) (free:∀ b o,b ∉ ch->s.heap.get? b=some o->H b=none->H' b=none)
  (there:∀ b o,b ∉ ch->s.heap.get? b=some o->∃ o',h'.get? b=some o')
  (tups:∀ b xs,H b=some (.tup xs)->H' b=some (.tup xs)) (frzs:∀ b o u,H b=some (.frz o u)->H' b=some (.frz o u)) (tbls:∀ b ps,H b=some (.tbl ps)->∃ more,H' b=some (.tbl (ps ++ more)))
  (ns:∀ m,s.heap.Ns X.env.locals m->h'.Ns X.env.locals m) (hok:HOk X.prog X.w H' h') (hg:AllBare g') :
  Inv X jy σ H' { s with heap:=h',gens:=g',drawn:=d',toks:=t' }:=by
 have neL:∀ b o,X.s₀.heap.get? b=some o->b≠X.env.locals:=λb o e=>As (Ag (Ao e) I.ok.above);have wp:∀ b o,X.s₀.heap.get? b=some o->b ∉ X.ex->b ∉ ch:=λb o e hx hb=>by
  rcases (ou b hb).1 with z | z
  ·exact hx z
  ·exact absurd (Ag (Ao e) z) (Nat.lt_irrefl _)
 have mo:∀ x c,X.env.cells.lookup x=some c->∀ v,s.heap.IsCell c v->h'.IsCell c v:=λx c e v ⟨o,ho,hd⟩=>by
  have uu:c ∉ ch:=λz=>(ou c z).2.2.1 x c e rfl;by_cases hc:c∈X.fs
  ·obtain ⟨sl,q⟩:=slot c o (I.cne x c e) hc uu ho (I.freeC x c e)
   exact ⟨_,q,hd⟩
  ·exact ⟨o,keep c o (I.cne x c e) hc uu ho (I.freeC x c e),hd⟩
 refine ⟨I.ok,I.os,hg,⟨λb o e n hb hx=>?_,λb o e n hb hx=>?_,λb o e n hx=>?_,λb o e hx=>?_,λb xs e=>tups b xs (I.base.tups b xs e),λb o xs e=>frzs b o xs (I.base.frzs b o xs e),λb ps e=>?_⟩,?_,λx c e=>?_,?_,λx c e=>?_,λp hp=>?_,hok,I.len⟩
 ·exact keep b o (neL b o e) hb (wp b o e hx) (I.base.keep b o e n hb hx) (I.base.free b o e n hx)
 ·obtain ⟨sl,e1⟩:=I.base.slot b o e n hb hx
  obtain ⟨uo,e2⟩:=slot b _ (neL b o e) hb (wp b o e hx) e1 (I.base.free b o e n hx);exact ⟨uo,e2⟩
 ·obtain ⟨o',e1⟩:=I.base.there b o e hx
  exact free b o' (wp b o e hx) e1 (I.base.free b o e n hx)
 ·obtain ⟨o',e1⟩:=I.base.there b o e hx
  exact there b o' (wp b o e hx) e1
 ·obtain ⟨m1,e1⟩:=I.base.tbls b ps e
  obtain ⟨m2,e2⟩:=tbls b _ e1;exact ⟨m1 ++ m2,by rw [e2,Array.append_assoc]⟩
 ·obtain ⟨m,hn,hl⟩:=I.loc
  refine ⟨m,ns m hn,λi x v e1 e2 e3=>?_⟩;obtain ⟨u,r,l⟩:=hl i x v e1 e2 e3;refine ⟨u,r,?_⟩
  rcases l with l | ⟨k,c,e,z⟩
  ·exact .inl l
  ·exact .inr ⟨k,c,e,mo x c e _ z⟩
 ·obtain ⟨v,z⟩:=I.cell x c e
  exact ⟨v,mo x c e v z⟩
 ·obtain ⟨m,⟨o,_,_,ho,_⟩,_⟩:=I.loc
  exact free _ o (λz=>(ou _ z).2.1 Z) ho I.free
 ·obtain ⟨v,o,ho,hd⟩:=I.cell x c e
  exact free c o (λz=>(ou c z).2.2.1 x c e Z) ho (I.freeC x c e)
 ·obtain ⟨e,n,ne,nf,d⟩:=I.pin p hp
  have uu:p.1 ∉ ch:=λz=>(ou p.1 z).2.2.2 p hp rfl;exact ⟨keep p.1 p.2 ne nf uu e n,free p.1 p.2 uu e n,ne,nf,d⟩
def Inv.un {t':Nat} (I:Inv X jy σ H s) (u:Un X.fs [] H H' s.heap h') (hok:HOk X.prog X.w H' h'):Inv X jy σ H' { s with heap:=h',toks:=t' }:=by
 obtain ⟨m,⟨o,es,ep,ho,r⟩,_⟩:=id I.loc;obtain ⟨sl,hL⟩:=u.any ho I.free (by simp);exact I.step (g':=s.gens) (d':=s.drawn) (ch:=[]) (λ_ z=>nomatch z) (λb o _ hb _ e n=>u.keep b o e n hb (by simp)) (λb o _ hb _ e n=>u.slot b o e n hb (by simp)) (λb o _ e n=>u.free b o e n (by simp)) (λb o _ e=>u.there b o e (by simp)) u.tups u.frzs u.tbls (λm' hm=>by
  obtain ⟨o',yw,yx,o6,r'⟩:=hm
  rw [ho] at o6; cases o6
  exact ⟨_,yw,yx,hL,r'⟩) hok I.bare
def Inv.call {t':Nat} {d':Drawn} (I:Inv X jy σ H s) (u:Un (frs X.stack) ch H H' s.heap h') (hok:HOk X.prog X.w H' h') (hg:AllBare g')
  (ou:∀ b∈ch,(b∈X.ex\/X.s₀.heap.objs.size<=b)/\b≠X.env.locals/\(∀ x c,X.env.cells.lookup x=some c->c≠b)/\∀ p∈X.pn ++ jy,p.1≠b) :
  Inv X jy σ H' { s with heap:=h',gens:=g',drawn:=d',toks:=t' }:=by
 obtain ⟨m,⟨o,es,ep,ho,r⟩,_⟩:=id I.loc;obtain ⟨sl,hL⟩:=u.any ho I.free λz=>(ou _ z).2.1 rfl;exact I.step (ch:=ch) ou (λb o hL hb hc e n=>u.keep b o e n (λz=>(Ar (I.stkSub b z)).elim hL hb) hc) (λb o _ _ hc e n=>u.any e n hc) (λb o hc e n=>u.free b o e n hc) (λb o hc e=>u.there b o e hc) u.tups u.frzs u.tbls (λm' hm=>by
  obtain ⟨o',yw,yx,o6,r'⟩:=hm
  rw [ho] at o6; cases o6
  exact ⟨_,yw,yx,hL,r'⟩) hok hg
def Inv.turned {t':Nat} (I:Inv X jy σ H s) (k:∀ b o,b≠it->s.heap.get? b=some o->h'.get? b=some o) (hn:H it=none) (hL:it≠X.env.locals)
  (h1:it∈X.ex\/X.s₀.heap.objs.size<=it) (h2:∀ x c,X.env.cells.lookup x=some c->c≠it) (h3:∀ p∈X.pn ++ jy,p.1≠it):Inv X jy σ H { s with heap:=h',toks:=t' }:=by
 have nit:∀ b u,H b=some u->b≠it:=λb u e z=>by rw [z,hn] at e; cases e
 refine I.step (g':=s.gens) (d':=s.drawn) (ch:=[it]) (λb hb=>?_) (λb o _ _ hc e _=>k b o (λz=>hc (by simp [z])) e) (λb o _ _ hc e _=>⟨o.slots,k b o (λz=>hc (by simp [z])) e⟩) (λ_ _ _ _ n=>n)
  (λb o hc e=>⟨o,k b o (λz=>hc (by simp [z])) e⟩) (λ_ _ e=>e) (λ_ _ _ e=>e) (λb ps e=>⟨#[],by rw [e]; simp⟩) (λm hm=>?_) (λb u e=>?_) I.bare
 ·have e:b=it:=by simpa using hb
  subst e;exact ⟨h1,hL,h2,h3⟩
 ·obtain ⟨o,es,ep,ho,r⟩:=hm
  exact ⟨o,es,ep,k _ o (Ne.symm hL) ho,r⟩
 ·refine (I.hok b u e).stay (λc v hc q=>k c v ?_ q) (λ_ q=>q) λ_ _ q=>q
  rcases hc with z | z
  ·rw [z]; exact nit b u e
  ·exact nit c _ z
def Inv.tok (I:Inv X jy σ H s) (t:Nat):Inv X jy σ H { s with toks:=t }:=I.un (h':=s.heap) (t':=t) Un.refl I.hok
def Inv.kept {t':Nat} (I:Inv X jy σ H s) (k:∀ b u,s.heap.get? b=some u->h'.get? b=some u):Inv X jy σ H { s with heap:=h',toks:=t' }:=I.un (Un.kept k) (I.hok.kept k)
def Inv.laid {t':Nat} (I:Inv X jy σ H s) (k:∀ b u,s.heap.get? b=some u->h'.get? b=some u) (hp:s.heap.objs.size<=a) (new:Ya X.prog X.w (upd H a o) h' a o) :
  Inv X jy σ (upd H a o) { s with heap:=h',toks:=t' }:=I.un (Un.laid k hp (I.hok.fresh hp)) (I.hok.laid k hp new)
def Inv.write {t':Nat} (I:Inv X jy σ H s) (mu:Mut (H x)) (he:e=x\/H e=some (.own x)) (k:∀ b u,b≠e->s.heap.get? b=some u->h'.get? b=some u) (uh:∃ u,h'.get? e=some u)
  (new:Ya X.prog X.w (upd H x o) h' x o):Inv X jy σ (upd H x o) { s with heap:=h',toks:=t' }:=I.un (Un.write mu he k uh) (I.hok.write mu he k uh new)
def Inv.pins_of (I:Inv X jy σ H s) (h:∀ p∈v8,s.heap.get? p.1=some p.2/\H p.1=none/\p.1≠X.env.locals/\p.1 ∉ X.fs/\∀ v,p.2.data≠.cell v):Inv X v8 σ H s :=
 ⟨I.ok,I.os,I.bare,I.base,I.loc,I.cell,I.free,I.freeC,λp hp=>(List.mem_append.mp hp).elim (λz=>I.pin p (List.mem_append_left _ z)) (h p),I.hok,I.len⟩
def Of {N:List Str} (hN:N.Nodup) {i j:Nat} (a:N[i]?=some x) (b:N[j]?=some x):i=j:=by
 obtain ⟨h1,e1⟩:=Aa a;obtain ⟨h2,e2⟩:=Aa b;exact (List.getElem_inj hN).mp (e1.trans e2.symm)
def Gp (I:Inv X jy σ H s) (hN:X.N.Nodup) (hi:X.N[i]?=some x) (hx:Loc X.env.scope x) (r:RelV v u)
  (h:∀ s',Inv X jy (σ.set i (some v)) H s'->(∃ a,Heap.SameBut a s.heap s'.heap/\(a=X.env.locals\/X.env.cells.lookup x=some a))->Q () s') (hf:X.fn x=true\/X.env.scope.names.lookup x=some .local:=by first | exact .inl rfl | exact .inr rfl | assumption):wpAny M A (storeName X.env x u) Q E s:=by
 obtain ⟨m,hn,hl⟩:=id I.loc;have ng:(X.env.scope.kind == .class || (X.env.scope.kind == .module && X.env.locals != X.env.globals))=false:=by rw [I.ok.kind]; rfl
 have hiσ:i < σ.length:=by rw [I.len]; exact (Aa hi).1
 have cne:=I.cne
 have nu:∀ {a:Addr} {h':Heap},(∃ o,s.heap.get? a=some o/\H a=none)->Heap.SameBut a s.heap h'->HOk X.prog X.w H h':=λ{a h'} ha hs b ob e=>by
  obtain ⟨_,_,rf⟩:=ha;refine (I.hok b ob e).stay (λc w' hc q=>(hs.2 c ?_).trans q) (λ_ q=>q) λ_ _ q=>q;rintro rfl
  rcases hc with rfl | hc
  ·rw [rf] at e; cases e
  ·rw [rf] at hc; cases hc
 rcases hx with hk | hk
 ·refine wpAny_storeName_local hk hn (λh' ya hs=>?_) ng
  obtain ⟨oL,_,_,u6,_⟩:=id hn;refine h _ ⟨I.ok,I.os,I.bare,⟨λb o e n hb hx=>?_,λb o e n hb hx=>?_,I.base.free,λb o e hx=>?_,I.base.tups,I.base.frzs,I.base.tbls⟩,⟨_,ya,λj y v' e1 e2 e3=>?_⟩,λy c e=>?_,I.free,I.freeC,λp hp=>?_,nu ⟨oL,u6,I.free⟩ hs,by simpa using I.len⟩ ⟨_,hs,.inl Z⟩
  ·exact (hs.2 b (As (Ag (Ao e) I.ok.above))).trans (I.base.keep b o e n hb hx)
  ·obtain ⟨sl,e1⟩:=I.base.slot b o e n hb hx
   exact ⟨sl,(hs.2 b (As (Ag (Ao e) I.ok.above))).trans e1⟩
  ·obtain ⟨o',e1⟩:=I.base.there b o e hx
   exact ⟨o',(hs.2 b (As (Ag (Ao e) I.ok.above))).trans e1⟩
  ·by_cases hj:j=i
   ·subst hj
    rw [hi] at e1; cases e1;rw [List.getElem?_set_self hiσ] at e2;cases e2;exact ⟨u,r,.inl ⟨hk,by simp⟩⟩
   ·rw [List.getElem?_set_ne (Ne.symm hj)] at e2
    obtain ⟨u',r',q⟩:=hl j y v' e1 e2 e3;refine ⟨u',r',?_⟩
    rcases q with ⟨k,e⟩ | ⟨k,c,e,z⟩
    ·refine .inl ⟨k,?_⟩
     have:y≠x:=λe=>hj (Of hN e1 (e ▸ hi));simp [this,e]
    ·exact .inr ⟨k,c,e,z.sameBut hs (cne y c e)⟩
  ·obtain ⟨w',z⟩:=I.cell y c e
   exact ⟨w',z.sameBut hs (cne y c e)⟩
  ·obtain ⟨e,n,ne,nf,d⟩:=I.pin p hp
   exact ⟨(hs.2 p.1 ne).trans e,n,ne,nf,d⟩
 ·have yg:X.fn x=true:=by
   rcases hf with z | z
   ·exact z
   ·rw [z] at hk; cases hk
  obtain ⟨c,hc⟩:=I.ok.has x (.inl hk);obtain ⟨w',z⟩:=I.cell x c hc;refine wpAny_storeName_cell I.ok.kind hk hc z (λh' r9 hs=>?_);obtain ⟨oc,hoc,hocd⟩:=id z;refine h { s with heap:=h' } ⟨I.ok,I.os,I.bare,⟨λb o e n hb hx=>?_,λb o e n hb hx=>?_,I.base.free,λb o e hx=>?_,I.base.tups,I.base.frzs,I.base.tbls⟩,⟨m,hn.sameBut hs (Ne.symm (cne x c hc)),λj y v' e1 e2 e3=>?_⟩,λy c' e=>?_,I.free,I.freeC,λp hp=>?_,nu ⟨oc,hoc,I.freeC x c hc⟩ hs,by simpa using I.len⟩ ⟨c,hs,.inr hc⟩
  ·exact (hs.2 b (As (Ag (Ao e) (I.ok.cab x c yg hc)))).trans (I.base.keep b o e n hb hx)
  ·obtain ⟨sl,e1⟩:=I.base.slot b o e n hb hx
   exact ⟨sl,(hs.2 b (As (Ag (Ao e) (I.ok.cab x c yg hc)))).trans e1⟩
  ·obtain ⟨o',e1⟩:=I.base.there b o e hx
   exact ⟨o',(hs.2 b (As (Ag (Ao e) (I.ok.cab x c yg hc)))).trans e1⟩
  ·by_cases hj:j=i
   ·subst hj
    rw [hi] at e1; cases e1;rw [List.getElem?_set_self hiσ] at e2;cases e2;exact ⟨u,r,.inr ⟨.inl hk,c,hc,r9⟩⟩
   ·rw [List.getElem?_set_ne (Ne.symm hj)] at e2
    obtain ⟨u',r',q⟩:=hl j y v' e1 e2 e3;refine ⟨u',r',?_⟩
    rcases q with q | ⟨k,c',e,z'⟩
    ·exact .inl q
    ·refine .inr ⟨k,c',e,z'.sameBut hs ?_⟩
     rintro rfl;exact hj (Of hN e1 (I.ok.inj _ _ _ e hc ▸ hi))
  ·by_cases hcc:c'=c
   ·subst hcc; exact ⟨_,r9⟩
   ·obtain ⟨w2,z2⟩:=I.cell y c' e
    exact ⟨w2,z2.sameBut hs hcc⟩
  ·obtain ⟨e,n,ne,nf,d⟩:=I.pin p hp
   refine ⟨(hs.2 p.1 ?_).trans e,n,ne,nf,d⟩;intro q;rw [q,hoc] at e;have q':oc=p.2:=Ax e;exact d w' (by rw [<- q']; exact hocd)
def Wb {M:Model} {A:Around} {E:Value->Shared->Prop} {i:Nat} {x:Str} {v:V} {u:Value} {Q:Unit->Shared->Prop} (I:Inv X jy σ H s) (hN:X.N.Nodup) (hi:X.N[i]?=some x) (hx:Loc X.env.scope x) (r:RelV v u)
  (h:∀ s',Inv X jy (σ.set i (some v)) H s'->Q () s') (hf:X.fn x=true\/X.env.scope.names.lookup x=some .local:=by first | exact .inl rfl | exact .inr rfl | assumption):wpAny M A (storeName X.env x u) Q E s :=
 Gp I hN hi hx r (λs' I' _=>h s' I') hf
def Inv.call' {s':Shared} (I:Inv X jy σ H s) (ho:s'.os=s.os) (u:Un (frs X.stack) ch H H' s.heap s'.heap) (hok:HOk X.prog X.w H' s'.heap) (hg:AllBare s'.gens)
  (ou:∀ b∈ch,(b∈X.ex\/X.s₀.heap.objs.size<=b)/\b≠X.env.locals/\(∀ x c,X.env.cells.lookup x=some c->c≠b)/\∀ p∈X.pn ++ jy,p.1≠b):Inv X jy σ H' s':=by
 obtain ⟨h',g',d',t',o'⟩:=s';have e:o'=s.os:=ho;subst e;exact I.call (g':=g') (t':=t') (d':=d') u hok hg ou
end
abbrev XK:=Value->Option Addr->Hp->Prop
abbrev St:=List (Option V)
abbrev VK:=V->Hp->Prop
abbrev TE:=St->Hp->VK->Prop
abbrev TT:=St->Hp->(Bool->Hp->Prop)->Prop
abbrev TA:=St->Hp->(List V->Hp->Prop)->Prop
structure Ends where
 nx:St->Hp->Prop
 rt:VK
 bk:St->Hp->Prop:=λ_ _=>False
 ct:St->Hp->Prop:=λ_ _=>False
abbrev TS:=Ends->St->Hp->Prop
def EP (X:Cx) (jy:List (Addr × Obj)) (σ:St) (Q:VK) (u:Value) (s':Shared):Prop:=∃ v H',Inv X jy σ H' s'/\RelV v u/\Q v H'
def TP (X:Cx) (jy:List (Addr × Obj)) (σ:St) (Q:Bool->Hp->Prop) (b:Bool) (s':Shared):Prop:=∃ H',Inv X jy σ H' s'/\Q b H'
def AP (X:Cx) (jy:List (Addr × Obj)) (σ:St) (Q:List V->Hp->Prop) (us:List Value) (s':Shared):Prop:=∃ vs H',Inv X jy σ H' s'/\Vals vs us/\Q vs H'
def SP (X:Cx) (jy:List (Addr × Obj)) (D:Ends) (f:Flow) (s':Shared):Prop :=
 match f with
 | .next=>∃ σ' H',Inv X jy σ' H' s'/\D.nx σ' H'
 | .brk=>∃ σ' H',Inv X jy σ' H' s'/\D.bk σ' H'
 | .cont=>∃ σ' H',Inv X jy σ' H' s'/\D.ct σ' H'
 | .ret u=>∃ v σ' H',Inv X jy σ' H' s'/\RelV v u/\D.rt v H'
def PE (X:Cx) (e:Expr) (t:TE):Prop :=
 ∀ (jy:List (Addr × Obj)) (s:Shared) (σ:St) (H:Hp) (Q:VK),Inv X jy σ H s->t σ H Q->wpAny (model X.prog X.w) X.A (eval e X.env) (EP X jy σ Q) X.xe s
def PT (X:Cx) (e:Expr) (t:TT):Prop :=
 ∀ (jy:List (Addr × Obj)) (s:Shared) (σ:St) (H:Hp) (Q:Bool->Hp->Prop),Inv X jy σ H s->t σ H Q->wpAny (model X.prog X.w) X.A (isTrue e X.env (eval e X.env)) (TP X jy σ Q) X.xe s
def PW (X:Cx) (e:Expr) (t:TT):Prop :=
 ∀ (lu:Sem Value) (jy:List (Addr × Obj)) (s:Shared) (σ:St) (H:Hp) (Q:Bool->Hp->Prop),Inv X jy σ H s->t σ H Q->wpAny (model X.prog X.w) X.A (isTrue e X.env lu) (TP X jy σ Q) X.xe s
def PW.pt {X:Cx} {e:Expr} {t:TT} (h:PW X e t):PT X e t:=h _
def PA (X:Cx) (es:List Expr) (t:TA):Prop :=
 ∀ (pos:Pos) (jy:List (Addr × Obj)) (s:Shared) (σ:St) (H:Hp) (Q:List V->Hp->Prop),Inv X jy σ H s->t σ H Q->wpAny (model X.prog X.w) X.A (spliced (backTo pos (starEach es X.env))) (AP X jy σ Q) X.xe s
def PS (X:Cx) (st:Stmt) (t:TS):Prop :=
 ∀ (jy:List (Addr × Obj)) (s:Shared) (σ:St) (H:Hp) (D:Ends),Inv X jy σ H s->t D σ H->wpAny (model X.prog X.w) X.A (exec st X.env) (SP X jy D) X.xe s
def PSs (X:Cx) (st:List Stmt) (t:TS):Prop :=
 ∀ (jy:List (Addr × Obj)) (s:Shared) (σ:St) (H:Hp) (D:Ends),Inv X jy σ H s->t D σ H->wpAny (model X.prog X.w) X.A (execs st X.env) (SP X jy D) X.xe s
def thn {α:Type} {t:Sem α} {Q Q':α->Shared->Prop} {M:Model} {A:Around} {E:Value->Shared->Prop} {s:Shared} (h:wpAny M A t Q E s) (hQ:∀ a s,Q a s->Q' a s):wpAny M A t Q' E s:=wpAny_mono h hQ λ_ _ x=>x
section
variable {X:Cx}
def tVar (i:Nat):TE:=λσ H Q=>∃ v,σ[i]?=some (some v)/\Q v H
def tC (v:V):TE:=λ_ H Q=>Q v H
def Zj6 (hN:X.N[i]?=some x) (hv:Vis X.env.scope x) (hd:(x == ("__debug__":Str))=false:=by decide) (mz:(x == ("__classdict__":Str))=false:=by decide):PE X (.Name x pos) (tVar i):=by
 intro jy s σ H Q I h;obtain ⟨v,e,h⟩:=h;obtain ⟨m,hn,hl⟩:=I.loc;obtain ⟨u,r,l⟩:=hl i x v hN e hv;have k7:EP X jy σ Q u s:=⟨v,H,I,r,h⟩
 rcases l with ⟨hk,hm⟩ | ⟨hk,c,hc,hcell⟩
 ·exact wpAny_Name (wpAny_loadName_local I.ok.kind hk hn hm k7) hd
 ·rcases hk with hk | hk
  ·exact wpAny_Name (wpAny_loadName_cell I.ok.kind hk hc hcell k7) hd
  ·exact wpAny_Name (wpAny_loadName_free I.ok.kind hk hc hcell k7 mz) hd
def Zd {i j pos}:PE X (.Constant (.int i) j pos) (tC (.int i)):=λ_ _ _ H _ I h=>wpAny_Constant_int ⟨.int i,H,I.tok _,⟨_,rfl⟩,h⟩
def Zic {b j pos}:PE X (.Constant (.bool b) j pos) (tC (.bl b)):=λ_ _ _ H _ I h=>Constant_bool ⟨.bl b,H,I,rfl,h⟩
def Kc {j pos}:PE X (.Constant .none j pos) (tC .non):=λ_ _ _ H _ I h=>Constant_none ⟨.non,H,I,rfl,h⟩
def Zq {x j pos}:PE X (.Constant (.str x) j pos) (tC (.str x)):=λ_ _ _ H _ I h=>Calls.Constant_str ⟨.str x,H,I.tok _,⟨_,rfl⟩,h⟩
def Gl (X:Cx) (x:Str):Prop:=X.env.kindOf x=some .globalImplicit
def Xu (I:Inv X jy σ H s) (hg:Gl X x) (hm:X.mg x=some u) (h:Q u s)
  (hd:(x == ("__debug__":Str))=false:=by decide):wpAny (model X.prog X.w) X.A (eval (.Name x pos) X.env) Q E s :=
 Calls.Name_function_global I.ok.kind hg (Calls.loadGlobal_global (by rw [I.ok.glob]; exact I.mod.glob.keeps I.bk) hm h) hd
def Jt {E:Value->Shared->Prop} {jy:List (Addr × Obj)} {s:Shared} {σ:St} {H:Hp} {x:Str} {u:Value} {pos:Pos} {Q:Value->Shared->Prop} (I:Inv X jy σ H s) (hg:Gl X x) (hm:X.mg x=none) (hv:bootBuiltins x=some u) (h:Q u s)
  (hn:x≠"__name__":=by decide) (hd:(x == ("__debug__":Str))=false:=by decide):wpAny (model X.prog X.w) X.A (eval (.Name x pos) X.env) Q E s:=by
 obtain ⟨mb,h1,h2⟩:=I.mod.blt;exact Calls.Name_function_global I.ok.kind hg (Calls.loadGlobal_builtin (by rw [I.ok.glob]; exact I.mod.glob.keeps I.bk) hm (by rw [I.ok.blt]; exact h1.keeps I.bk) ((h2 x hn).trans hv) h) hd
def Xm (hg:Gl X x) (hm:X.mg x=some u) (r:RelV v u) (hd:(x == ("__debug__":Str))=false:=by decide):PE X (.Name x pos) (tC v) :=
 λ_ _ _ H _ I h=>Xu I hg hm ⟨v,H,I,r,h⟩ hd
def Zc9 (hg:Gl X x) (hm:X.mg x=none) (hv:bootBuiltins x=some u) (r:RelV v u) (hn:x≠"__name__":=by decide) (hd:(x == ("__debug__":Str))=false:=by decide):PE X (.Name x pos) (tC v) :=
 λ_ _ _ H _ I h=>Jt I hg hm hv ⟨v,H,I,r,h⟩ hn hd
variable {a b:Expr} {ta tb:TE} {pos:Pos}
def PC (X:Cx) (op:CmpOp) (a b:Expr) (t:TE):Prop :=
 ∀ (jy:List (Addr × Obj)) (s:Shared) (σ:St) (H:Hp) (Q:VK),Inv X jy σ H s->t σ H Q ->
  wpAny (model X.prog X.w) X.A (eval a X.env) (λv s₁=>wpAny (model X.prog X.w) X.A (eval b X.env) (λu s₂=>wpAny (model X.prog X.w) X.A (compareOp op v u) (EP X jy σ Q) X.xe s₂) X.xe s₁) X.xe s
def tB (t:TE):TT:=λσ H Q=>t σ H λx H1=>∃ c,x=.bl c/\Q c H1
def Zj7 {op:CmpOp} {t:TE} (h:PC X op a b t) (h1:behindInMarks op b=false:=by first | exact nobehind _ (by decide) (by decide) | rfl):PE X (.Compare a [op] [b] pos) t:=λjy s σ H Q I hw=>wpAny_Compare1 (h jy s σ H Q I hw) h1
def Qe {op:CmpOp} {t:TE} (h:PC X op a b t) (h1:behindInMarks op b=false:=by first | exact nobehind _ (by decide) (by decide) | rfl):PT X (.Compare a [op] [b] pos) (tB t):=by
 intro jy s σ H Q I hw;refine wpAny_isTrue_Compare1 (thn (h jy s σ H _ I hw) λv s1 h1=>thn h1 λu s2 h2=>thn h2 λc s3 zz0=>?_) h1;obtain ⟨x,H1,I1,r1,q1⟩:=zz0;obtain ⟨d,rfl,q⟩:=q1;cases r1;exact wpAny_truthy_bool ⟨H1,I1,q⟩
def Xz {e:Expr} {t:TE} (h:PE X e t) (he:∀ lu,isTrue e X.env lu=(do let v <- lu; standAt e.pos; holding [v] (truthy v)):=by intro _; rfl):PT X e (tB t):=by
 intro jy s σ H Q I hw;refine isTrue_plain (thn (h jy s σ H _ I hw) λv s1 zz1=>?_) (he _);obtain ⟨x,H1,I1,r1,q1⟩:=zz1;obtain ⟨d,rfl,q⟩:=q1;cases r1;exact wpAny_truthy_bool ⟨H1,I1,q⟩
variable {tA we:TT} {rest:List Expr}
def tAnd (t u:TT):TT:=λσ H Q=>t σ H λc H1=>if c=true then u σ H1 Q else Q false H1
def tOr (t u:TT):TT:=λσ H Q=>t σ H λc H1=>if c=true then Q true H1 else u σ H1 Q
def tNot (t:TT):TT:=λσ H Q=>t σ H λc H1=>Q (!c) H1
def K9 (ha:PT X a tA):PW X (.BoolOp .And [a] pos) tA:=by
 intro wh jy s σ H Q I h;refine isTrue_and (thn (ha jy s σ H Q I h) λc s1 e=>?_)
 cases c with
 | true=>exact isTrue_and_nil e
 | false=>exact e
def O8 (ha:PT X a tA):PW X (.BoolOp .Or [a] pos) tA:=by
 intro wh jy s σ H Q I h;refine isTrue_or (thn (ha jy s σ H Q I h) λc s1 e=>?_)
 cases c with
 | false=>exact isTrue_or_nil e
 | true=>exact e
def Za4 (ha:PT X a tA) (hb:PW X (.BoolOp .And (b :: rest) pos) we):PW X (.BoolOp .And (a :: b :: rest) pos) (tAnd tA we):=by
 intro wh jy s σ H Q I h;refine isTrue_and (thn (ha jy s σ H _ I h) λc s1 j4=>?_);obtain ⟨H1,I1,q1⟩:=j4
 cases c with
 | true=>exact hb wh jy s1 σ H1 Q I1 q1
 | false=>exact ⟨H1,I1,q1⟩
def Fz (ha:PT X a tA) (hb:PW X (.BoolOp .Or (b :: rest) pos) we):PW X (.BoolOp .Or (a :: b :: rest) pos) (tOr tA we):=by
 intro wh jy s σ H Q I h;refine isTrue_or (thn (ha jy s σ H _ I h) λc s1 j4=>?_);obtain ⟨H1,I1,q1⟩:=j4
 cases c with
 | true=>exact ⟨H1,I1,q1⟩
 | false=>exact hb wh jy s1 σ H1 Q I1 q1
def X4 (ha:PT X a tA):PT X (.UnaryOp .Not a pos) (tNot tA):=by
 intro jy s σ H Q I h;exact isTrue_not (ha jy s σ H (λc H1=>Q (!c) H1) I h)
def Zk6 (ta tb:TE):TE:=λσ H Q=>ta σ H λx H1=>∃ c,x=.bl c/\if c=true then tb σ H1 Q else Q (.bl false) H1
def Kb {op} {t:TE} (h:PE X a t):PE X (.BoolOp op [a] pos) t:=λjy s σ H Q I hw=>BoolOp_one (h jy s σ H Q I hw)
def Vp (ha:PE X a ta) (hb:PE X (.BoolOp .And (b :: rest) pos) tb):PE X (.BoolOp .And (a :: b :: rest) pos) (Zk6 ta tb):=by
 intro jy s σ H Q I h;refine BoolOp_and (thn (ha jy s σ H _ I h) λv s1 j4=>?_);obtain ⟨x,H1,I1,r1,q1⟩:=j4;obtain ⟨c,rfl,q1⟩:=q1;cases r1;refine wpAny_truthy_bool ?_
 cases c with
 | true=>exact hb jy s1 σ H1 Q I1 q1
 | false=>exact ⟨.bl false,H1,I1,Z,q1⟩
def tIf (t:TT) (ta tb:TE):TE:=λσ H Q=>t σ H λc H1=>if c=true then ta σ H1 Q else tb σ H1 Q
def Oc {c:Expr} (hc:PT X c tA) (ha:PE X a ta) (hb:PE X b tb):PE X (.IfExp c a b pos) (tIf tA ta tb):=by
 intro jy s σ H Q I h;refine wpAny_IfExp (thn (hc jy s σ H _ I h) λd s1 j4=>?_);obtain ⟨H1,I1,q1⟩:=j4
 cases d with
 | true=>exact ha jy s1 σ H1 Q I1 q1
 | false=>exact hb jy s1 σ H1 Q I1 q1
end
def SqL (K:W.Frag) (H:Hp) (a:Addr) (xs:List V):Prop :=
 Rd H a (.lst xs) \/
  ∃ (o:Obj) (its:Array Value) (n:Nat),K.lookup a=some o/\o.cls=.type "list"/\o.dict=none/\o.data=.seq its n/\its.size<=sizeLine/\Vals xs its.toList
def SqT (K:W.Frag) (H:Hp) (a:Addr) (xs:List V):Prop :=
 Rd H a (.tup xs) \/
  ∃ (o:Obj) (its:Array Value) (n:Nat),K.lookup a=some o/\o.cls=.type "tuple"/\o.data=.seq its n/\its.size<=sizeLine/\Vals xs its.toList
def absV:Value->Option V
 | .none=>some .non
 | .bool b=>some (.bl b)
 | .int i _=>some (.int i)
 | .str x _=>some (.str x)
 | .bytes b _=>some (.byt b)
 | .float b _=>some (.flt b)
 | .ref a=>some (.ref a)
 | .type n=>some (.ty n)
 | _=>none
def RelV.abs (r:RelV x u):absV u=some x:=by
 cases x with
 | non=>cases r; rfl
 | bl _=>cases r; rfl
 | int _=>obtain ⟨t,rfl⟩:=r; rfl
 | str _=>obtain ⟨t,rfl⟩:=r; rfl
 | byt _=>obtain ⟨t,rfl⟩:=r; rfl
 | flt _=>obtain ⟨t,rfl⟩:=r; rfl
 | ref _=>cases r; rfl
 | ty _=>cases r; rfl
def RelV.inj (r:RelV x u) (q:RelV y u):x=y:=Ax (r.abs.symm.trans q.abs)
theorem Vals.inj:∀ {xs ys:List V} {us:List Value},Vals xs us->Vals ys us->xs=ys
 | _,_,_,.nil,.nil=>rfl
 | _,_,_,.cons r t,.cons r' t'=>by rw [r.inj r',Vals.inj t t']
section
variable {X:Cx} {jy:List (Addr × Obj)} {σ:St} {H:Hp} {s:Shared} {a:Addr} {xs ys:List V}
def SqL.of {K:W.Frag} (h:H a=some (.lst xs)):SqL K H a xs:=.inl (.inl h)
def SqT.of {K:W.Frag} (h:H a=some (.tup xs)):SqT K H a xs:=.inl (.inl h)
def Inv.list (I:Inv X jy σ H s) (h:SqL X.K H a xs):∃ its:List Value,Vals xs its/\PlainL s.heap a its.toArray/\xs.length<=sizeLine:=by
 rcases h with h | ⟨o,its,n,hk,hc,hd,hs,hz,r⟩
 ·obtain ⟨z,its,n,r,e⟩:=h.ok I.hok
  exact ⟨its,r,⟨_,n,e,Z,Z,Z⟩,z⟩
 ·refine ⟨its.toList,r,⟨o,n,I.kIn a o hk,hc,hd,by simpa using hs⟩,?_⟩
  have e:=r.length;simp only [Array.length_toList] at e;lia
def Inv.tuple (I:Inv X jy σ H s) (h:SqT X.K H a xs):∃ its:List Value,Vals xs its/\IsTup s.heap a its.toArray/\xs.length<=sizeLine:=by
 rcases h with h | ⟨o,its,n,hk,hc,hs,hz,r⟩
 ·obtain ⟨z,its,r,p⟩:=h.ok I.hok
  exact ⟨its,r,p,z⟩
 ·refine ⟨its.toList,r,⟨o,I.kIn a o hk,hc,n,by simpa using hs⟩,?_⟩
  have e:=r.length;simp only [Array.length_toList] at e;lia
def Inv.list_inj (I:Inv X jy σ H s) (h:SqL X.K H a xs) (h':SqL X.K H a ys):xs=ys:=by
 obtain ⟨its,r,⟨o,n,e,_,_,d⟩,_⟩:=I.list h;obtain ⟨its',r',⟨o',n',e',_,_,d'⟩,_⟩:=I.list h';rw [e] at e'; cases e';rw [d] at d'
 injection d' with d1 _
 have:its=its':=by simpa using congrArg Array.toList d1
 subst this;exact r.inj r'
def Inv.tuple_inj (I:Inv X jy σ H s) (h:SqT X.K H a xs) (h':SqT X.K H a ys):xs=ys:=by
 obtain ⟨its,r,⟨o,e,_,n,d⟩,_⟩:=I.tuple h;obtain ⟨its',r',⟨o',e',_,n',d'⟩,_⟩:=I.tuple h';rw [e] at e'; cases e';rw [d] at d'
 injection d' with d1 _
 have:its=its':=by simpa using congrArg Array.toList d1
 subst this;exact r.inj r'
end
abbrev Cx.wish (X:Cx) (E:Value->Shared->Prop):Cx:={ X with xe:=E }
abbrev Cx.nox (X:Cx):Cx:=X.wish λ_ _=>False
def Cx.Ok.wish {X:Cx} (ok:X.Ok) (E:Value->Shared->Prop):(X.wish E).Ok :=
 ⟨ok.mod,ok.kind,ok.glob,ok.blt,ok.above,ok.inj,ok.has,ok.cab,ok.hd,ok.frames,ok.stk,ok.exf,ok.bs,ok.bsz,ok.noex,ok.exfs,ok.funs,ok.frf⟩
def Cx.Ok.unwish {X:Cx} (ok:(X.wish E).Ok):X.Ok :=
 ⟨ok.mod,ok.kind,ok.glob,ok.blt,ok.above,ok.inj,ok.has,ok.cab,ok.hd,ok.frames,ok.stk,ok.exf,ok.bs,ok.bsz,ok.noex,ok.exfs,ok.funs,ok.frf⟩
section
variable {X:Cx} {jy:List (Addr × Obj)} {σ:St} {H:Hp} {s:Shared} {E:Value->Shared->Prop}
def Inv.wish (I:Inv X jy σ H s) (E:Value->Shared->Prop):Inv (X.wish E) jy σ H s:=⟨I.ok.wish E,I.os,I.bare,I.base,I.loc,I.cell,I.free,I.freeC,I.pin,I.hok,I.len⟩
def Inv.unwish (I:Inv (X.wish E) jy σ H s):Inv X jy σ H s:=⟨I.ok.unwish,I.os,I.bare,I.base,I.loc,I.cell,I.free,I.freeC,I.pin,I.hok,I.len⟩
def SP.unwish (h:SP (X.wish E) jy D f s'):SP X jy D f s':=by
 cases f with
 | next=>obtain ⟨σ',H',I,q⟩:=h; exact ⟨σ',H',I.unwish,q⟩
 | brk=>obtain ⟨σ',H',I,q⟩:=h; exact ⟨σ',H',I.unwish,q⟩
 | cont=>obtain ⟨σ',H',I,q⟩:=h; exact ⟨σ',H',I.unwish,q⟩
 | ret u=>obtain ⟨v,σ',H',I,r,q⟩:=h; exact ⟨v,σ',H',I.unwish,r,q⟩
def PSs.nox {st:List Stmt} {t:TS} (h:PSs X.nox st t):PSs X st t:=λjy s σ H D I hw =>
 wpAny_mono (h jy s σ H D (I.wish _) hw) (λ_ _ q=>q.unwish) λ_ _ z=>False.elim z
end
section
variable {X:Cx} {st:Stmt} {rest:List Stmt} {t u:TS} {e:Expr} {te:TE} {pos:Pos}
def Jw:TS:=λD σ H=>D.nx σ H
def tSeq (t u:TS):TS:=λD σ H=>t { D with nx:=u D } σ H
def Yq:PSs X [] Jw:=λ_ _ σ H _ I h=>wpAny_execs_nil ⟨σ,H,I,h⟩
def Zn (h1:PS X st t) (h2:PSs X rest u):PSs X (st :: rest) (tSeq t u):=by
 intro jy s σ H D I h;refine wpAny_execs_cons (thn (h1 jy s σ H { D with nx:=u D } I h) λf s1 q=>?_)
 cases f with
 | next =>
  obtain ⟨σ',H',I',q⟩:=q;exact h2 jy s1 σ' H' D I' q
 | ret v=>exact q
 | brk=>exact q
 | cont=>exact q
def Zh (h1:PS X st t):PSs X [st] t:=by
 intro jy s σ H D I h;refine wpAny_execs_cons (thn (h1 jy s σ H D I h) λf s1 q=>?_)
 cases f with
 | next=>exact wpAny_execs_nil q
 | ret v=>exact q
 | brk=>exact q
 | cont=>exact q
def Inv.quiet {jy:List (Addr × Obj)} {σ:St} {H:Hp} {s:Shared} (I:Inv X jy σ H s):interactive X.env=false:=by simp [interactive,I.ok.kind]
def Zh5 (te:TE):TS:=λD σ H=>te σ H λ_ H1=>D.nx σ H1
def Xt (he:PE X e te) (hs:swapsWith e none pos.line X.env=pure false:=by rfl):PS X (.Expr e pos) (Zh5 te):=by
 intro jy s σ H D I h;refine wpAny_Expr_any (thn (he jy s σ H _ I h) λv s1 zz2=>?_) I.quiet hs;obtain ⟨x,H1,I1,r1,q1⟩:=zz2;exact ⟨σ,H1,I1,q1⟩
def tRet (te:TE):TS:=λD σ H=>te σ H D.rt
def Zr (he:PE X e te):PS X (.Return (some e) pos) (tRet te):=by
 intro jy s σ H D I h;refine wpAny_Return_some (thn (he jy s σ H _ I h) λv s1 zz3=>?_);obtain ⟨x,H1,I1,r1,q1⟩:=zz3;exact ⟨x,σ,H1,I1,r1,q1⟩
def tIfS (c:TT) (t u:TS):TS:=λD σ H=>c σ H λb H1=>if b=true then t D σ H1 else u D σ H1
def Xd {c:Expr} {a b:List Stmt} {tc:TT} (hc:PT X c tc) (ha:PSs X a t) (hb:PSs X b u):PS X (.If c a b pos) (tIfS tc t u):=by
 intro jy s σ H D I h;refine wpAny_If (thn (hc jy s σ H _ I h) λd s1 j4=>?_);obtain ⟨H1,I1,q1⟩:=j4
 cases d with
 | true=>exact ha jy s1 σ H1 D I1 q1
 | false=>exact hb jy s1 σ H1 D I1 q1
def Ze1:TS:=λ_ _ _=>False
def Zhb:PS X st Ze1:=λ_ _ _ _ _ _ h=>h.elim
def Z2:PSs X sts Ze1:=λ_ _ _ _ _ _ h=>h.elim
end
abbrev TG:=V->St->Hp->(St->Hp->Prop)->Prop
abbrev TGs:=List V->St->Hp->(St->Hp->Prop)->Prop
def PG (X:Cx) (t6:Expr) (t:TG):Prop :=
 ∀ (jy:List (Addr × Obj)) (s:Shared) (σ:St) (H:Hp) (v:V) (u:Value) (Q:St->Hp->Prop),Inv X jy σ H s->RelV v u->t v σ H Q ->
  wpAny (model X.prog X.w) X.A (assign t6 X.env u) (λ_ s'=>∃ σ' H',Inv X jy σ' H' s'/\Q σ' H') X.xe s
def PGs (X:Cx) (ts:List Expr) (t:TGs):Prop :=
 ∀ (jy:List (Addr × Obj)) (s:Shared) (σ:St) (H:Hp) (vs:List V) (us:List Value) (Q:St->Hp->Prop),Inv X jy σ H s->Vals vs us->t vs σ H Q ->
  wpAny (model X.prog X.w) X.A (assignInOrder ((assignEach ts X.env).map (·.2)) us) (λ_ s'=>∃ σ' H',Inv X jy σ' H' s'/\Q σ' H') X.xe s
abbrev TSet:=V->V->V->Hp->(Hp->Prop)->Prop
def PSet (X:Cx) (t:TSet):Prop :=
 ∀ (jy:List (Addr × Obj)) (s:Shared) (σ:St) (H:Hp) (o i v:V) (ov iv u:Value) (Q:Hp->Prop),Inv X jy σ H s->RelV o ov->RelV i iv->RelV v u->t o i v H Q ->
  wpAny (model X.prog X.w) X.A (setItem ov iv u) (λ_ s'=>∃ H',Inv X jy σ H' s'/\Q H') X.xe s
abbrev TIp:=V->V->Hp->VK->Prop
def PIp (X:Cx) (op:Operator) (t:TIp):Prop :=
 ∀ (jy:List (Addr × Obj)) (s:Shared) (σ:St) (H:Hp) (x y:V) (v u:Value) (Q:VK),Inv X jy σ H s->RelV x v->RelV y u->t x y H Q ->
  wpAny (model X.prog X.w) X.A (inplaceOp op v u) (EP X jy σ Q) X.xe s
section
variable {X:Cx} {pos:Pos}
def Z8 (i:Nat):TG:=λv σ H Q=>Q (σ.set i (some v)) H
def Zx (hN:X.N.Nodup) (hi:X.N[i]?=some x) (hx:Loc X.env.scope x) (hf:X.fn x=true\/X.env.scope.names.lookup x=some .local:=by first | exact .inl rfl | exact .inr rfl | assumption):PG X (.Name x pos) (Z8 i):=by
 intro jy s σ H v u Q I r h;exact wpAny_assign_Name (Wb I hN hi hx r (λs' I'=>⟨_,H,I',h⟩) hf)
def gNil:TGs:=λvs σ H Q=>vs=[]/\Q σ H
def Zln (t:TG) (u:TGs):TGs:=λvs σ H Q=>∃ v r,vs=v :: r/\t v σ H λσ' H'=>u r σ' H' Q
def Qg:PGs X [] gNil:=by
 intro jy s σ H vs us Q I r h;obtain ⟨e,h⟩:=h;subst e;cases r;exact assignInOrder_nil ⟨σ,H,I,h⟩
def Xi {e:Expr} {es:List Expr} {t:TG} {u:TGs} (h1:PG X e t) (h2:PGs X es u)
  (hs:(assignEach (e :: es) X.env).map (·.2)=assign e X.env :: (assignEach es X.env).map (·.2):=by rfl):PGs X (e :: es) (Zln t u):=by
 intro jy s σ H vs us Q I r h;obtain ⟨v,vr,e1,h⟩:=h;subst e1
 cases r with
 | cons r rr =>
  rw [hs];refine assignInOrder_cons (thn (h1 jy s σ H _ _ _ I r h) λ_ s1 j4=>?_);obtain ⟨σ1,H1,I1,q1⟩:=j4;exact h2 jy s1 σ1 H1 _ _ Q I1 rr q1
def gTup (K:W.Frag) (n:Nat) (t:TGs):TG:=λv σ H Q=>∃ a xs,v=.ref a/\SqT K H a xs/\xs.length=n/\t xs σ H Q
def Zbd (hc:X.calm=true) (h:PGs X es t)
  (hn:(assignEach es X.env).length=n:=by rfl) (kn:(assignEach es X.env).findIdx? (·.1)=none:=by rfl):PG X (.Tuple es k pos) (gTup X.K n t):=by
 intro jy s σ H v u Q I r hw;obtain ⟨a,xs,e1,hq,hl,hw⟩:=hw;subst e1;cases r;obtain ⟨its,rv,ht,hz⟩:=I.tuple hq;refine assign_Tuple_tuple (I.ok.hd hc) ht (by simp [hn,<- hl,rv.length]) kn λh' hx=>?_;have I1:Inv X jy σ H { s with heap:=h' }:=I.kept (t':=s.toks) λb o e=>hx b o (As (Ao e)) e;exact h jy _ σ H xs _ Q I1 (by simpa using rv) hw
def gSub (to ti:TE) (t:TSet):TG:=λv σ H Q=>to σ H λo H1=>ti σ H1 λi H2=>t o i v H2 λH3=>Q σ H3
def Zfw {o i:Expr} {to ti:TE} {t:TSet} (ho:PE X o to) (hi:PE X i ti) (hs:PSet X t)
  (ha:∀ v,assign (.Subscript o i pos) X.env v=(do
   let ov <- holding [v] (eval o X.env)
   let iv <- holding [v,ov] (eval i X.env)
   standAt pos
   holding [v,ov,iv] (setItem ov iv v)
   release [v,ov,iv] []):=by intro _; rfl):PG X (.Subscript o i pos) (gSub to ti t):=by
 intro jy s σ H v u Q I r h;rw [ha];refine Al (wpAny_holding (thn (ho jy s σ H _ I h) λov s1 j4=>?_));obtain ⟨x,H1,I1,r1,q1⟩:=j4;refine Al (wpAny_holding (thn (hi jy s1 σ H1 _ I1 q1) λiv s2 j4=>?_));obtain ⟨y,H2,I2,r2,q2⟩:=j4;refine Al (wpAny_standAt (Al (wpAny_holding (thn (hs jy s2 σ H2 x y v ov iv u _ I2 r1 r2 r q2) λ_ s3 j4=>?_))));obtain ⟨H3,I3,q3⟩:=j4;exact wpAny_release ⟨σ,H3,I3,q3⟩
def tAsg (te:TE) (g:TG):TS:=λD σ H=>te σ H λx H1=>g x σ H1 D.nx
def Za9 {tg e:Expr} {te:TE} {g:TG} (he:PE X e te) (hg:PG X tg g) (hs:swapsWithSole [tg] e pos.line X.env=pure false:=by rfl) (hw:swappedStores [tg] e X.env=pure none:=by rfl)
  (h1:(assignEach [tg] X.env).map (·.2)=[assign tg X.env]:=by rfl):PS X (.Assign [tg] e pos) (tAsg te g):=by
 intro jy s σ H D I h;refine wpAny_Assign_stores (thn (he jy s σ H _ I h) λv s1 zz4=>?_) hs hw;obtain ⟨x,H1,I1,r1,q1⟩:=zz4;rw [h1];exact thn (hg jy s1 σ H1 x v _ I1 r1 q1) λ_ s2 q=>q
def Zk {i:Nat} {x:Str} {e:Expr} {te:TE} {lj:Pos} (hN:X.N.Nodup) (hi:X.N[i]?=some x) (hx:Loc X.env.scope x) (he:PE X e te) (hs:swapsWith e (some (.Name x lj)) pos.line X.env=pure false:=by rfl) (hf:X.fn x=true\/X.env.scope.names.lookup x=some .local:=by first | exact .inl rfl | exact .inr rfl | assumption) :
  PS X (.Assign [.Name x lj] e pos) (tAsg te (Z8 i)):=by
 intro jy s σ H D I h;refine wpAny_Assign_Name (thn (he jy s σ H _ I h) λv s1 zz5=>?_) hs;obtain ⟨y,H1,I1,r1,q1⟩:=zz5;exact Wb I1 hN hi hx r1 (λs2 I2=>⟨_,H1,I2,q1⟩) hf
def tPar (i j:Nat) (ta:TA):TS:=λD σ H=>ta σ H λvs H1=>∃ v w,vs=[v,w]/\D.nx ((σ.set i (some v)).set j (some w)) H1
def Zft {i j:Nat} {x y:Str} {a b:Expr} {ta:TA} {px py pt:Pos} {kt k2 pt2} (hc:X.calm=true) (hN:X.N.Nodup) (hi:X.N[i]?=some x) (hj:X.N[j]?=some y) (hij:i≠j)
  (hx:X.env.scope.names.lookup x=some .local) (hy:X.env.scope.names.lookup y=some .local) (ha:PA X [a,b] ta)
  (hw:swappedStores [.Tuple [.Name x px,.Name y py] kt pt] (.Tuple [a,b] k2 pt2) X.env=pure (some [x,y]))
  (hs:swapsWithSole [.Tuple [.Name x px,.Name y py] kt pt] (.Tuple [a,b] k2 pt2) pos.line X.env=pure false:=by rfl) :
  PS X (.Assign [.Tuple [.Name x px,.Name y py] kt pt] (.Tuple [a,b] k2 pt2) pos) (tPar i j ta):=by
 intro jy s σ H D I h;rw [exec_Assign_arm];refine Al (wpAny_standAt ?_);rw [hs];refine Al (wpAny_pure ?_);rw [if_neg (by decide)];refine Al (Tuple_ (thn (ha _ jy s σ H _ I h) λus s1 j4=>?_));obtain ⟨vs,H1,I1,r1,q1⟩:=j4;obtain ⟨v,w,e1,q1⟩:=q1;subst e1
 obtain ⟨u1,u2,rfl,rv,oz⟩:∃ u1 u2,us=[u1,u2]/\RelV v u1/\RelV w u2:=by
  cases r1 with
  | cons p q =>
   cases q with
   | cons p' q' =>
    cases q';exact ⟨_,_,Z,p,p'⟩
 refine wpAny_newObj_type ?_ (by show 2<=sizeLine; decide);have I2:Inv X jy σ H1 { s1 with heap:=s1.heap.push { cls:=.type "tuple",data:=.seq [u1,u2].toArray } }:=I1.kept (t':=s1.toks) λb o e=>Ak _ e;rw [hw];refine Al (wpAny_pure ?_);show wpAny (model X.prog X.w) X.A (do rule "assign.swapped-stores"; let items <- unpackItems (.ref s1.heap.objs.size) 2 none; assignInOrder [λv=>bindName X.env y v,λv=>bindName X.env x v] items.reverse; pure Flow.next) _ _ _;refine Al (wpAny_rule (Al (unpackItems_tuple (items:=#[u1,u2]) (I.ok.hd hc) (IsTup.new s1.heap _) λh' md=>?_)));have I3:=I2.kept (h':=h') (t':=s1.toks) λb o e=>md b o (As (Ao e)) e;show wpAny _ _ (assignInOrder [λv=>bindName X.env y v,λv=>bindName X.env x v] [u2,u1] >>= λ_=>pure Flow.next) _ _ _;refine Al (assignInOrder_cons (wpAny_bindName (Wb I3 hN hj (.inl hy) oz (λs2 I4=>?_) (.inr hy))));refine assignInOrder_cons (wpAny_bindName (Wb I4 hN hi (.inl hx) rv (λs3 I5=>assignInOrder_nil (wpAny_pure ?_)) (.inr hx)));rw [List.set_comm _ _ (Ne.symm hij)] at I5;exact ⟨_,H1,I5,q1⟩
def tAug (i:Nat) (te:TE) (ti:TIp):TS:=λD σ H=>∃ x,σ[i]?=some (some x)/\te σ H λy H1=>ti x y H1 λz H2=>D.nx (σ.set i (some z)) H2
def Zjw {i:Nat} {x:Str} {e:Expr} {te:TE} {op:Operator} {ti:TIp} {lj:Pos} (hN:X.N.Nodup) (hi:X.N[i]?=some x) (hx:Loc X.env.scope x) (he:PE X e te) (ho:PIp X op ti) (hf:X.fn x=true\/X.env.scope.names.lookup x=some .local:=by first | exact .inl rfl | exact .inr rfl | assumption) :
  PS X (.AugAssign (.Name x lj) op e pos) (tAug i te ti):=by
 intro jy s σ H D I h;obtain ⟨v,e1,h⟩:=h;obtain ⟨m,hn,hl⟩:=I.loc
 have vis:Vis X.env.scope x:=by rcases hx with k | k; exact .inl k; exact .inr (.inl k)
 obtain ⟨u,r,l⟩:=hl i x v hi e1 vis;refine wpAny_AugAssign_Name ?_;have go:wpAny (model X.prog X.w) X.A (eval e X.env) (λw s₂=>wpAny (model X.prog X.w) X.A (inplaceOp op u w) (λr s₃=>wpAny (model X.prog X.w) X.A (storeName X.env x r) (λ_=>SP X jy D .next) X.xe s₃) X.xe s₂) X.xe s:=by
  refine thn (he jy s σ H _ I h) λw s1 j4=>?_
  obtain ⟨y,H1,I1,r1,q1⟩:=j4
  refine thn (ho jy s1 σ H1 v y u w _ I1 r r1 q1) λz s2 j4=>?_
  obtain ⟨zv,H2,I2,r2,q2⟩:=j4
  exact Wb I2 hN hi hx r2 (λs3 I3=>⟨_,H2,I3,q2⟩) hf
 rcases l with ⟨hk,hm⟩ | ⟨hk,c,hc,hcell⟩
 ·exact wpAny_loadName_local I.ok.kind hk hn hm go
 ·rcases hk with hk | hk
  ·exact wpAny_loadName_cell I.ok.kind hk hc hcell go
  ·rcases hx with k | k
   ·have:X.env.scope.names.lookup x=some .free:=hk
    rw [k] at this; cases this
   ·have:X.env.scope.names.lookup x=some .free:=hk
    rw [k] at this; cases this
end
section
variable {X:Cx} {pos:Pos}
def Zjk (c:TT) (tb:TS):TS:=λD σ H=>∃ W:Nat->St->Hp->Prop,(∃ m,W m σ H)/\∀ m σ H,W m σ H ->
 c σ H λb H1=>if b=true then ∃ N:St->Hp->Prop,(∀ σ' H',N σ' H'->∃ m',m' < m/\W m' σ' H')/\tb { D with nx:=N,ct:=N,bk:=D.nx } σ H1 else D.nx σ H1
def Za7 {c:Expr} {body:List Stmt} {tc:TT} {tb:TS} (hp:PassesOwn (model X.prog X.w) X.A X.env X.xe) (hc:PT X c tc) (hb:PSs X body tb):PS X (.While c body [] pos) (Zjk tc tb):=by
 intro jy s σ H D I h;obtain ⟨W,⟨m0,w0⟩,ph⟩:=h;refine wpAny_While (codeAny_whileLoop (λn s'=>∃ σ' H',Inv X jy σ' H' s'/\W n σ' H') ?_ m0 ⟨σ,H,I,w0⟩);rintro n s1 ⟨σ1,H1,I1,w1⟩;refine wpAny_passesOwn hp (thn (hc jy s1 σ1 H1 _ I1 (ph n σ1 H1 w1)) λb s2 j4=>?_);obtain ⟨H2,I2,q2⟩:=j4
 cases b with
 | true =>
  obtain ⟨N,hN,q2⟩:=q2;rw [if_pos rfl];refine wpAny_passesOwn hp (thn (hb jy s2 σ1 H2 _ I2 q2) λf s3 q3=>?_)
  cases f with
  | next =>
   obtain ⟨σ3,H3,I3,n3⟩:=q3;obtain ⟨m',hm,w3⟩:=hN σ3 H3 n3;exact ⟨m',hm,σ3,H3,I3,w3⟩
  | cont =>
   obtain ⟨σ3,H3,I3,n3⟩:=q3;obtain ⟨m',hm,w3⟩:=hN σ3 H3 n3;exact ⟨m',hm,σ3,H3,I3,w3⟩
  | brk=>exact q3
  | ret v=>exact q3
 | false =>
  rw [if_neg Bool.false_ne_true];exact wpAny_execs_nil ⟨σ1,H2,I2,q2⟩
end
structure It where
 go:Nat->Hp->Prop
 yld:Nat->Hp->V->Hp->Prop
 stop:Nat->Hp->Prop
def FpOk (X:Cx) (jy:List (Addr × Obj)) (H:Hp) (b:Addr):Prop :=
 H b=none/\b≠X.env.locals/\b ∉ X.fs/\(b∈X.ex\/X.s₀.heap.objs.size<=b)/\(∀ x c,X.env.cells.lookup x=some c->c≠b)/\∀ p∈X.pn ++ jy,p.1≠b
def Inv.fpOk {X:Cx} {jy:List (Addr × Obj)} {σ:St} {H H':Hp} {s:Shared} {b:Addr} (I:Inv X jy σ H s) (hb:s.heap.objs.size<=b) (hn:H' b=none):FpOk X jy H' b:=by
 refine ⟨hn,Nat.ne_of_gt (Ag I.lt hb),I.nofs hb,.inr (Nat.le_trans I.sz hb),λx c e z=>?_,λp hp z=>?_⟩
 ·obtain ⟨v,q⟩:=I.cell x c e
  exact absurd (Ag q.lt (by rw [z]; exact hb)) (Nat.lt_irrefl _)
 ·exact absurd (Ag (Ao (I.pin p hp).1) (by rw [z]; exact hb)) (Nat.lt_irrefl _)
structure Turn (P:Program) (w:World) (K:W.Frag) (tg:Expr) (J:It) (fp:List Addr) (it:Addr) (tn:Nat->Heap->Prop):Prop where
 mem:it∈fp
 obj:∀ i h,tn i h->∀ b∈fp,∃ o,h.get? b=some o/\∀ v,o.data≠.cell v
 keep:∀ i h h',tn i h->(∀ b∈fp,∀ o,h.get? b=some o->h'.get? b=some o)->tn i h'
 item:∀ (X:Cx),X.prog=P->X.w=w->X.K=K->X.calm=true->∀ (i:Nat) (jy:List (Addr × Obj)) (s:Shared) (σ:St) (H:Hp) (E:Value->Shared->Prop),Inv X jy σ H s->(∀ b∈fp,FpOk X jy H b)->tn i s.heap->J.go i H ->
  wpAny (model P w) X.A (pyNext (.ref it)) (λr s1=>∃ u,r=some u /\
   wpAny (model P w) X.A (letOwnedTupleGo tg (.ref it) u) (λ_ s2=>∃ x H',Inv X jy σ H' s2/\RelV x u/\J.yld i H x H'/\tn (i + 1) s2.heap/\∀ b∈fp,H' b=none) E s1) E s
 done:∀ (X:Cx),X.prog=P->X.w=w->X.K=K->X.calm=true->∀ (i:Nat) (jy:List (Addr × Obj)) (s:Shared) (σ:St) (H:Hp) (E:Value->Shared->Prop),Inv X jy σ H s->(∀ b∈fp,FpOk X jy H b)->tn i s.heap->J.stop i H ->
  wpAny (model P w) X.A (pyNext (.ref it)) (λr s1=>r=none/\Inv X jy σ H s1) E s
 self:∀ (A:Around) (i:Nat) (s:Shared) (Q:Value->Shared->Prop) (E:Value->Shared->Prop),tn i s.heap->Q (.ref it) s->wpAny (model P w) A (pyIter (.ref it)) Q E s
abbrev TI:=St->Hp->(It->Hp->Prop)->Prop
def PIE (X:Cx) (jy:List (Addr × Obj)) (σ:St) (tg:Expr) (R:It->Hp->Prop) (uw:Value) (s2:Shared):Prop :=
 ∃ (it:Addr) (fp:List Addr) (tn:Nat->Heap->Prop) (J:It) (H':Hp),uw=.ref it/\Inv X jy σ H' s2/\Turn X.prog X.w X.K tg J fp it tn/\tn 0 s2.heap/\(∀ b∈fp,FpOk X jy H' b)/\R J H'
def PI (X:Cx) (tg iter:Expr) (wi:TI):Prop :=
 ∀ (jy:List (Addr × Obj)) (s:Shared) (σ:St) (H:Hp) (R:It->Hp->Prop),Inv X jy σ H s->wi σ H R ->
  wpAny (model X.prog X.w) X.A (eval iter X.env) (λv s1=>wpAny (model X.prog X.w) X.A (pyIter v) (PIE X jy σ tg R) X.xe s1) X.xe s
def F1 {s:Shared} {o:Obj} (ho:s.heap.get? it=some o) (hc:o.cls=.type n) (hd:o.data=.fields vs)
    (hn:["enumerate","zip","dict_itemiterator","dict_reverseitemiterator","odict_iterator","itertools.zip_longest","itertools.pairwise"].contains n=false) (hQ:Q () s):wpAny M A (letOwnedTupleGo tg (.ref it) u) Q E s:=by
  unfold letOwnedTupleGo
  cases tg <;> first
    | exact wpAny_pure hQ
    | (cases u <;> first
        | exact wpAny_pure hQ
        | (refine Al (wpAny_load ho ?_)
           rw [hc,hd];show wpAny M A (if (["enumerate","zip","dict_itemiterator","dict_reverseitemiterator","odict_iterator","itertools.zip_longest","itertools.pairwise"].contains n && vs[0]? == some (rawInt _))=true then _ else _) Q E s;rw [if_neg (by intro h; rw [hn,Bool.false_and] at h; cases h)]
           exact wpAny_pure hQ))
def Itl (K:W.Frag) (a:Addr):It :=
 ⟨λi H=>∃ xs x,SqL K H a xs/\xs[i]?=some x,λi H x H'=>H'=H/\∀ xs,SqL K H a xs->xs[i]?=some x,λi H=>∃ xs,SqL K H a xs/\xs.length<=i⟩
def Itt (K:W.Frag) (a:Addr):It :=
 ⟨λi H=>∃ xs x,SqT K H a xs/\xs[i]?=some x,λi H x H'=>H'=H/\∀ xs,SqT K H a xs->xs[i]?=some x,λi H=>∃ xs,SqT K H a xs/\xs.length<=i⟩
def Zez {P:Program} {w:World} {K:W.Frag} {tg:Expr} (a it:Addr):Turn P w K tg (Itl K a) [it] it (λi h=>h.IsListIter it a i) where
 mem:=by simp
 obj:=λi h st b hb=>by
  have e:b=it:=by simpa using hb
  subst e;obtain ⟨o,e,c,d⟩:=st;exact ⟨o,e,λv z=>by rw [d] at z; cases z⟩
 keep:=λi h h' st k=>st.at λo e=>k it (by simp) o e
 item:=by
  intro X hP hw hK hc i jy s σ H E I hf st hg;subst hP hw hK;obtain ⟨xs,x,hq,hx⟩:=hg;obtain ⟨its,rv,p,hz⟩:=I.list hq;obtain ⟨u,hu,ru⟩:=rv.get hx;obtain ⟨f0,f1,f2,f3,f4,f5⟩:=hf it (by simp);refine wpAny_pyNext_list_item st p.isList (x:=u) (by simpa using hu) λh' my sb=>?_;have I1:Inv X jy σ H { s with heap:=h' }:=I.turned (t':=s.toks) (λb o hb e=>(sb.2 b hb).trans e) f0 f1 f3 f4 f5;obtain ⟨o,e,c,d⟩:=id my;exact ⟨u,Z,F1 (s:={ s with heap:=h' }) e c d (by decide) ⟨x,H,I1,ru,⟨Z,λys hy=>by rw [I.list_inj hy hq]; exact hx⟩,my,λb hb=>(hf b hb).1⟩⟩
 done:=by
  intro X hP hw hK hc i jy s σ H E I hf st hg;subst hP hw hK;obtain ⟨xs,hq,hx⟩:=hg;obtain ⟨its,rv,p,hz⟩:=I.list hq;obtain ⟨f0,f1,f2,f3,f4,f5⟩:=hf it (by simp);have hl:=rv.length;exact wpAny_pyNext_list_end (I.ok.hd hc) st p.isList (by simp; lia) λh' eb=>⟨rfl,I.turned (t':=s.toks) (λb o hb e=>eb b o hb e) f0 f1 f3 f4 f5⟩
 self:=λ_ _ _ _ _ st h=>wpAny_pyIter_listiter st h
def Zdp {P:Program} {w:World} {K:W.Frag} {tg:Expr} (a it:Addr):Turn P w K tg (Itt K a) [it] it (λi h=>h.IsTupleIter it a i) where
 mem:=by simp
 obj:=λi h st b hb=>by
  have e:b=it:=by simpa using hb
  subst e;obtain ⟨o,e,c,d⟩:=st;exact ⟨o,e,λv z=>by rw [d] at z; cases z⟩
 keep:=λi h h' st k=>st.at λo e=>k it (by simp) o e
 item:=by
  intro X hP hw hK hc i jy s σ H E I hf st hg;subst hP hw hK;obtain ⟨xs,x,hq,hx⟩:=hg;obtain ⟨its,rv,p,hz⟩:=I.tuple hq;obtain ⟨u,hu,ru⟩:=rv.get hx;obtain ⟨f0,f1,f2,f3,f4,f5⟩:=hf it (by simp);refine wpAny_pyNext_tuple_item st (show s.heap.IsTuple a its.toArray from p) (x:=u) (by simpa using hu) λh' my sb=>?_;have I1:Inv X jy σ H { s with heap:=h' }:=I.turned (t':=s.toks) (λb o hb e=>(sb.2 b hb).trans e) f0 f1 f3 f4 f5;obtain ⟨o,e,c,d⟩:=id my;exact ⟨u,Z,F1 (s:={ s with heap:=h' }) e c d (by decide) ⟨x,H,I1,ru,⟨Z,λys hy=>by rw [I.tuple_inj hy hq]; exact hx⟩,my,λb hb=>(hf b hb).1⟩⟩
 done:=by
  intro X hP hw hK hc i jy s σ H E I hf st hg;subst hP hw hK;obtain ⟨xs,hq,hx⟩:=hg;obtain ⟨its,rv,p,hz⟩:=I.tuple hq;obtain ⟨f0,f1,f2,f3,f4,f5⟩:=hf it (by simp);have hl:=rv.length;exact wpAny_pyNext_tuple_end (I.ok.hd hc) st (show s.heap.IsTuple a its.toArray from p) (by simp; lia) λh' eb=>⟨rfl,I.turned (t':=s.toks) (λb o hb e=>eb b o hb e) f0 f1 f3 f4 f5⟩
 self:=λ_ _ _ _ _ st h=>wpAny_pyIter_tupleiter st h
section
variable {X:Cx} {tg:Expr}
def Zli (K:W.Frag) (tl:TE):TI:=λσ H R=>tl σ H λx H1=>∃ a,x=.ref a/\(∃ xs,SqL K H1 a xs)/\R (Itl K a) H1
def iTup (K:W.Frag) (tl:TE):TI:=λσ H R=>tl σ H λx H1=>∃ a,x=.ref a/\(∃ xs,SqT K H1 a xs)/\R (Itt K a) H1
def Yy {l:Expr} {tl:TE} (hl:PE X l tl):PI X tg l (Zli X.K tl):=by
 intro jy s σ H R I h;refine thn (hl jy s σ H _ I h) λv s1 j4=>?_;obtain ⟨x,H1,I1,r1,q1⟩:=j4;obtain ⟨a,e,⟨xs,hq⟩,q⟩:=q1;subst e;cases r1;obtain ⟨its,rv,p,hz⟩:=I1.list hq;refine wpAny_pyIter_list p.isList ?_;refine ⟨s1.heap.objs.size,[s1.heap.objs.size],_,_,H1,Z,I1.kept (t':=s1.toks) λb o e=>Ak _ e,Zez a _,⟨_,Ap _ Z,Z,Z⟩,λb hb=>?_,q⟩;have e:b=s1.heap.objs.size:=by simpa using hb
 subst e;exact I1.fpOk (An _) (I1.hok.fresh (An _))
def Zj3 {l:Expr} {tl:TE} (hl:PE X l tl):PI X tg l (iTup X.K tl):=by
 intro jy s σ H R I h;refine thn (hl jy s σ H _ I h) λv s1 j4=>?_;obtain ⟨x,H1,I1,r1,q1⟩:=j4;obtain ⟨a,e,⟨xs,hq⟩,q⟩:=q1;subst e;cases r1;obtain ⟨its,rv,p,hz⟩:=I1.tuple hq;refine wpAny_pyIter_tuple (show s1.heap.IsTuple a its.toArray from p) ?_;refine ⟨s1.heap.objs.size,[s1.heap.objs.size],_,_,H1,Z,I1.kept (t':=s1.toks) λb o e=>Ak _ e,Zdp a _,⟨_,Ap _ Z,Z,Z⟩,λb hb=>?_,q⟩;have e:b=s1.heap.objs.size:=by simpa using hb
 subst e;exact I1.fpOk (An _) (I1.hok.fresh (An _))
def tFor (wi:TI) (g:TG) (tb:TS):TS:=λD σ H=>wi σ H λJ H1=>∃ W:Nat->Nat->St->Hp->Prop,(∃ m,W 0 m σ H1)/\∀ i m σ H,W i m σ H ->
 (J.stop i H/\D.nx σ H)\/(J.go i H/\∃ N:St->Hp->Prop,(∀ σ' H',N σ' H'->∃ m',m' < m/\W (i + 1) m' σ' H')/\∀ x H',J.yld i H x H'->g x σ H' λσ2 H2=>tb { D with nx:=N,ct:=N,bk:=D.nx } σ2 H2)
def Vo (fp:List Addr) (h:Heap):List (Addr × Obj):=fp.filterMap λb=>(h.get? b).map λo=>(b,o)
def Jc {fp:List Addr} {h:Heap} {b:Addr} {o:Obj} (hb:b∈fp) (e:h.get? b=some o):(b,o)∈Vo fp h:=List.mem_filterMap.mpr ⟨b,hb,by rw [e]; rfl⟩
def Zf6 {h:Heap} {p:Addr × Obj} (hp:p∈Vo fp h):p.1∈fp/\h.get? p.1=some p.2:=by
 obtain ⟨b,hb,e⟩:=List.mem_filterMap.mp hp
 cases q:h.get? b with
 | none=>rw [q] at e; cases e
 | some o =>
  rw [q] at e;have e':(b,o)=p:=Ax e;subst e';exact ⟨hb,q⟩
def Inv.pinned {jy:List (Addr × Obj)} {σ:St} {H:Hp} {s:Shared} {fp:List Addr} (I:Inv X jy σ H s) (hf:∀ b∈fp,FpOk X jy H b) (ho:∀ b∈fp,∃ o,s.heap.get? b=some o/\∀ v,o.data≠.cell v):Inv X (jy ++ Vo fp s.heap) σ H s :=
 I.pins_of λp hp=>(List.mem_append.mp hp).elim (λz=>I.pin p (List.mem_append_right _ z)) λz=>by
  obtain ⟨hb,e⟩:=Zf6 z;obtain ⟨f0,f1,f2,_⟩:=hf p.1 hb;obtain ⟨o,e',d⟩:=ho p.1 hb;rw [e] at e'; cases e';exact ⟨e,f0,f1,f2,d⟩
def Inv.unpinned {jy pl:List (Addr × Obj)} {σ:St} {H:Hp} {s:Shared} (I:Inv X (jy ++ pl) σ H s):Inv X jy σ H s:=I.pins_of λp hp=>I.pin p (List.mem_append_right _ (List.mem_append_left _ hp))
def Za8 {iter:Expr} {body:List Stmt} {wi:TI} {g:TG} {tb:TS} {pos:Pos} (hp:PassesOwn (model X.prog X.w) X.A X.env X.xe) (hc:X.calm=true) (hi:PI X tg iter wi) (hg:PG X tg g) (hb:PSs X body tb)
  (hs:∀ x,foldedSetIterable iter X.env x=pure x:=by intro _; rfl):PS X (.For tg iter body [] pos) (tFor wi g tb):=by
 intro jy s σ H D I h;refine wpAny_For (thn (hi jy s σ H _ I h) λv s1 h1=>thn h1 λuw s2 h2=>?_) hs;obtain ⟨it,fp,tn,J,H2,e,I2,T,l6,f2,W,⟨m0,w0⟩,ph⟩:=h2;subst e;have m8:∀ {H':Hp},(∀ b∈fp,H' b=none)->∀ b∈fp,FpOk X jy H' b:=λhn b hb=>⟨hn b hb,(f2 b hb).2⟩;refine codeAny_forLoop_any (λn s'=>∃ i σ' H',Inv X jy σ' H' s'/\tn i s'.heap/\(∀ b∈fp,H' b=none)/\W i n σ' H') ?_ m0 ⟨0,σ,H2,I2,l6,λb hb=>(f2 b hb).1,w0⟩;rintro n s3 ⟨i,σ3,H3,I3,l9,vi,w3⟩
 rcases ph i n σ3 H3 w3 with ⟨stop,qn⟩ | ⟨go,N,hN,step⟩
 ·refine wpAny_passesOwn hp (thn (T.done X rfl rfl rfl hc i jy s3 σ3 H3 X.xe I3 (m8 vi) l9 stop) λr s4 ⟨hr,I4⟩=>?_)
  subst hr;exact wpAny_execs_nil ⟨σ3,H3,I4,qn⟩
 ·refine wpAny_passesOwn hp (thn (T.item X rfl rfl rfl hc i jy s3 σ3 H3 X.xe I3 (m8 vi) l9 go) λr s4 ⟨u,hr,h4⟩=>?_)
  subst hr;refine wpAny_passesOwn hp (thn h4 λ_ s5 j4=>?_);obtain ⟨x,H5,I5,r5,y5,mq,yv⟩:=j4;have yy:=I5.pinned (m8 yv) (T.obj _ _ mq);refine wpAny_passesOwn hp (thn (hg _ s5 σ3 H5 x u _ yy r5 (step x H5 y5)) λ_ s6 j4=>?_);obtain ⟨σ6,H6,I6,q6⟩:=j4;refine wpAny_passesOwn hp (thn (hb _ s6 σ6 H6 _ I6 q6) λf s7 q7=>?_);have again:∀ {σ7:St} {H7:Hp},Inv X (jy ++ Vo fp s5.heap) σ7 H7 s7->N σ7 H7->∃ m,m < n/\∃ i σ' H',Inv X jy σ' H' s7/\tn i s7.heap/\(∀ b∈fp,H' b=none)/\W i m σ' H':=λ{σ7 H7} I7 n7=>by
   obtain ⟨m',hm,w7⟩:=hN σ7 H7 n7
   refine ⟨m',hm,i + 1,σ7,H7,I7.unpinned,T.keep _ _ _ mq λb hb o e=>(I7.pin (b,o) (List.mem_append_right _ (List.mem_append_right _ (Jc hb e)))).1,λb hb=>?_,w7⟩
   obtain ⟨o,e,d⟩:=T.obj _ _ mq b hb
   exact (I7.pin (b,o) (List.mem_append_right _ (List.mem_append_right _ (Jc hb e)))).2.1
  cases f with
  | next=>obtain ⟨σ7,H7,I7,n7⟩:=q7; exact again I7 n7
  | cont=>obtain ⟨σ7,H7,I7,n7⟩:=q7; exact again I7 n7
  | brk=>obtain ⟨σ7,H7,I7,q7⟩:=q7; exact ⟨σ7,H7,I7.unpinned,q7⟩
  | ret v=>obtain ⟨x7,σ7,H7,I7,r7,q7⟩:=q7; exact ⟨x7,σ7,H7,I7.unpinned,r7,q7⟩
end
abbrev R2:=V->V->Hp->VK->Prop
def OpR (X:Cx) (f:Value->Value->Sem Value) (r:R2):Prop :=
 ∀ (jy:List (Addr × Obj)) (s:Shared) (σ:St) (H:Hp) (x y:V) (v u:Value) (Q:VK),Inv X jy σ H s->RelV x v->RelV y u->r x y H Q ->
  wpAny (model X.prog X.w) X.A (f v u) (EP X jy σ Q) X.xe s
def UnR (X:Cx) (f:Value->Sem Value) (r:V->Hp->VK->Prop):Prop :=
 ∀ (jy:List (Addr × Obj)) (s:Shared) (σ:St) (H:Hp) (x:V) (v:Value) (Q:VK),Inv X jy σ H s->RelV x v->r x H Q ->
  wpAny (model X.prog X.w) X.A (f v) (EP X jy σ Q) X.xe s
def Y7 (X:Cx) (f:Value) (r:List V->Hp->VK->Prop):Prop :=
 ∀ (jy:List (Addr × Obj)) (s:Shared) (σ:St) (H:Hp) (xs:List V) (us:List Value) (Q:VK),Inv X jy σ H s->Vals xs us->r xs H Q ->
  wpAny (model X.prog X.w) X.A (call f us) (EP X jy σ Q) X.xe s
def TruR (X:Cx) (r:V->Hp->(Bool->Hp->Prop)->Prop):Prop :=
 ∀ (jy:List (Addr × Obj)) (s:Shared) (σ:St) (H:Hp) (x:V) (v:Value) (Q:Bool->Hp->Prop),Inv X jy σ H s->RelV x v->r x H Q ->
  wpAny (model X.prog X.w) X.A (truthy v) (TP X jy σ Q) X.xe s
def tOp (r:R2) (ta tb:TE):TE:=λσ H Q=>ta σ H λx H1=>tb σ H1 λy H2=>r x y H2 Q
def tUn (r:V->Hp->VK->Prop) (ta:TE):TE:=λσ H Q=>ta σ H λx H1=>r x H1 Q
def rI (C:Int->Int->Prop) (g:Int->Int->V):R2:=λx y H Q=>∃ i j,x=.int i/\y=.int j/\C i j/\Q (g i j) H
def rI0 (g:Int->Int->V):R2:=λx y H Q=>∃ i j,x=.int i/\y=.int j/\Q (g i j) H
def rU (g:Int->V):V->Hp->VK->Prop:=λx H Q=>∃ i,x=.int i/\Q (g i) H
section
variable {X:Cx} {a b c:Expr} {ta tb tc:TE} {pos:Pos}
def binT (ha:PE X a ta) (hb:PE X b tb) {jy:List (Addr × Obj)} {s:Shared} {σ:St} {H:Hp} {R:V->V->Hp->Prop} (I:Inv X jy σ H s)
  (h:ta σ H λx H1=>tb σ H1 λy H2=>R x y H2) {Q:Value->Shared->Prop} {f:Value->Value->Sem Value}
  (hf:∀ v u s2 x y H2,Inv X jy σ H2 s2->RelV x v->RelV y u->R x y H2->wpAny (model X.prog X.w) X.A (f v u) Q X.xe s2) :
  wpAny (model X.prog X.w) X.A (eval a X.env) (λv s₁=>wpAny (model X.prog X.w) X.A (eval b X.env) (λu s₂=>wpAny (model X.prog X.w) X.A (f v u) Q X.xe s₂) X.xe s₁) X.xe s:=by
 refine thn (ha jy s σ H _ I h) λv s1 j4=>?_;obtain ⟨x,H1,I1,r1,q1⟩:=j4;refine thn (hb jy s1 σ H1 _ I1 q1) λu s2 j4=>?_;obtain ⟨y,H2,I2,r2,q2⟩:=j4;exact hf v u s2 x y H2 I2 r1 r2 q2
def Yp (ho:OpR X (binaryOp op) r) (ha:PE X a ta) (hb:PE X b tb):PE X (.BinOp a op b pos) (tOp r ta tb):=by
 intro jy s σ H Q I h;exact wpAny_BinOp (binT ha hb I h λv u s2 x y H2 I2 rx ry q=>ho jy s2 σ H2 x y v u Q I2 rx ry q)
def Ka {op:UnaryOp} {r:V->Hp->VK->Prop} (ho:UnR X (unaryOp op) r) (ha:PE X a ta):PE X (.UnaryOp op a pos) (tUn r ta):=by
 intro jy s σ H Q I h;refine UnaryOp_ (thn (ha jy s σ H _ I h) λv s1 zz6=>?_);obtain ⟨x,H1,I1,r1,q1⟩:=zz6;exact ho jy s1 σ H1 x v Q I1 r1 q1
def opI {g:Int->Int->Int}
  (rule:∀ (i j:Int) (t u:Tok) (s:Shared) (Q:Value->Shared->Prop) (E:Value->Shared->Prop),C i j->Q (.int (g i j) s.toks) { s with toks:=s.toks + 1 }->wpAny (model X.prog X.w) X.A (f (.int i t) (.int j u)) Q E s) :
  OpR X f (rI C λi j=>.int (g i j)):=by
 intro jy s σ H x y v u Q I rx ry h;obtain ⟨i,j,rfl,rfl,hc,q⟩:=h;obtain ⟨t,rfl⟩:=rx;obtain ⟨t',rfl⟩:=ry;exact rule i j t t' s _ _ hc ⟨.int (g i j),H,I.tok _,⟨_,Z⟩,q⟩
def opI0 {g:Int->Int->Int}
  (rule:∀ (i j:Int) (t u:Tok) (s:Shared) (Q:Value->Shared->Prop) (E:Value->Shared->Prop),Q (.int (g i j) s.toks) { s with toks:=s.toks + 1 }->wpAny (model X.prog X.w) X.A (f (.int i t) (.int j u)) Q E s) :
  OpR X f (rI0 λi j=>.int (g i j)):=by
 intro jy s σ H x y v u Q I rx ry h;obtain ⟨i,j,rfl,rfl,q⟩:=h;obtain ⟨t,rfl⟩:=rx;obtain ⟨t',rfl⟩:=ry;exact rule i j t t' s _ _ ⟨.int (g i j),H,I.tok _,⟨_,Z⟩,q⟩
def opB0 {g:Int->Int->Bool}
  (rule:∀ (i j:Int) (t u:Tok) (s:Shared) (Q:Value->Shared->Prop) (E:Value->Shared->Prop),Q (.bool (g i j)) s->wpAny (model X.prog X.w) X.A (f (.int i t) (.int j u)) Q E s) :
  OpR X f (rI0 λi j=>.bl (g i j)):=by
 intro jy s σ H x y v u Q I rx ry h;obtain ⟨i,j,rfl,rfl,q⟩:=h;obtain ⟨t,rfl⟩:=rx;obtain ⟨t',rfl⟩:=ry;exact rule i j t t' s _ _ ⟨.bl (g i j),H,I,Z,q⟩
def CDiv (i j:Int):Prop:=0 < j/\j < 1073741824
def CPow (i j:Int):Prop:=0<=j/\j<=1000000/\i.natAbs < 2 ^ 64
def CMul (i j:Int):Prop:=(-(2 ^ 64) < i/\i < 2 ^ 64)\/(-(2 ^ 64) < j/\j < 2 ^ 64)
def CMul.ok {i j:Int} (h:CMul i j):IntMulOk i j:=by
 rcases h with ⟨h1,h2⟩ | ⟨h1,h2⟩
 ·exact .of_left (intBits_le_64 h1 h2)
 ·exact .of_right (intBits_le_64 h1 h2)
def Kf:OpR X (binaryOp .Add) (rI0 λi j=>.int (i + j)):=opI0 λ_ _ _ _ _ _ _ q=>add_int q
def Zf0:OpR X (binaryOp .Sub) (rI0 λi j=>.int (i - j)):=opI0 λ_ _ _ _ _ _ _ q=>sub_int q
def Ke:OpR X (binaryOp .Mult) (rI CMul λi j=>.int (i * j)):=opI λ_ _ _ _ _ _ _ hc q=>mul_int q hc.ok
def Zi1:OpR X (binaryOp .FloorDiv) (rI CDiv λi j=>.int (i / j)):=opI λi j _ _ _ _ _ hc q=>by
 have h1:(0:Int) < j:=hc.1;have h2:j < 1073741824:=hc.2;exact floordiv_int (by lia) (by rw [Int.fdiv_eq_ediv_of_nonneg i (by lia)]; exact q) (.inl (PyProof.noPylong_small (by lia)))
def X5:OpR X (binaryOp .Mod) (rI (λ_ j=>0 < j) λi j=>.int (i % j)):=opI λi j _ _ _ _ _ hc q=>by
 have h1:(0:Int) < j:=hc;exact mod_int' (by lia) (by rw [Int.fmod_eq_emod_of_nonneg i (by lia)]; exact q)
def Zkb:OpR X (binaryOp .Pow) (rI CPow λi j=>.int (i ^ j.toNat)):=opI λ_ _ _ _ _ _ _ hc q=>pow_int_small hc.1 hc.2.1 hc.2.2 q
def unI {g:Int->Int}
  (rule:∀ (i:Int) (t:Tok) (s:Shared) (Q:Value->Shared->Prop) (E:Value->Shared->Prop),Q (.int (g i) s.toks) { s with toks:=s.toks + 1 }->wpAny (model X.prog X.w) X.A (f (.int i t)) Q E s) :
  UnR X f (rU λi=>.int (g i)):=by
 intro jy s σ H x v Q I rx h;obtain ⟨i,rfl,q⟩:=h;obtain ⟨t,rfl⟩:=rx;exact rule i t s _ _ ⟨.int (g i),H,I.tok _,⟨_,Z⟩,q⟩
def Q7:UnR X (unaryOp .USub) (rU λi=>.int (-i)):=unI λ_ _ _ _ _ q=>neg_int q
end
def scal:V->V->Bool
 | .non,.non=>true | .non,.int _=>true | .int _,.non=>true | .non,.bl _=>true | .bl _,.non=>true | .non,.str _=>true | .str _,.non=>true
 | .int _,.int _=>true | .bl _,.bl _=>true | .str _,.str _=>true | .byt _,.byt _=>true
 | .int _,.str _=>true | .str _,.int _=>true | .bl _,.str _=>true | .str _,.bl _=>true
 | _,_=>false
def rEq:R2:=λx y H Q=>scal x y=true/\Q (.bl (decide (x=y))) H
def rNe:R2:=λx y H Q=>scal x y=true/\Q (.bl (!decide (x=y))) H
def Zdi:decide (V.int i=V.int j)=(i == j):=by
 rw [Bool.eq_iff_iff];simp
def Zgl:decide (V.bl i=V.bl j)=(i == j):=by
 rw [Bool.eq_iff_iff];simp
def Zdh:decide (V.str i=V.str j)=(i == j):=by
 rw [Bool.eq_iff_iff];simp
def Zdj {i j:Array UInt8}:decide (V.byt i=V.byt j)=(i.toList == j.toList):=by
 rw [Bool.eq_iff_iff];cases i;cases j;simp
section
variable {X:Cx} {a b c:Expr} {ta tb tc:TE} {pos:Pos}
def Z5 (I:Inv X jy σ H s) (q:Q (.bl k) H) (e:k=k'):EP X jy σ Q (.bool k') s:=by
 subst e;exact ⟨.bl k,H,I,Z,q⟩
def Z4:OpR X (compareOp .Eq) rEq:=by
 intro jy s σ H x y v u Q I rx ry h;obtain ⟨hs,q⟩:=h
 cases x with
 | non =>
  cases rx
  cases y with
  | non=>cases ry; exact PySem.EqNone.eq_none_none (Z5 I q (by simp))
  | bl j=>cases ry; exact PySem.EqNone.eq_none_bool (Z5 I q (by simp))
  | int j=>obtain ⟨t',rfl⟩:=ry; exact PySem.EqNone.eq_none_int (Z5 I q (by simp))
  | str j=>obtain ⟨t',rfl⟩:=ry; exact PySem.EqNone.eq_none_str (Z5 I q (by simp))
  | _=>exact absurd (show false=true from hs) Bool.false_ne_true
 | bl i =>
  cases rx
  cases y with
  | non=>cases ry; exact PySem.EqNone.eq_bool_none (Z5 I q (by simp))
  | bl j=>cases ry; exact eq_bool (Z5 I q Zgl)
  | str j=>obtain ⟨t',rfl⟩:=ry; exact PySem.EqMixed.eq_bool_str (Z5 I q (by simp))
  | _=>exact absurd (show false=true from hs) Bool.false_ne_true
 | int i =>
  obtain ⟨t,rfl⟩:=rx
  cases y with
  | non=>cases ry; exact PySem.EqNone.eq_int_none (Z5 I q (by simp))
  | int j=>obtain ⟨t',rfl⟩:=ry; exact eq_int (Z5 I q Zdi)
  | str j=>obtain ⟨t',rfl⟩:=ry; exact PySem.EqMixed.eq_int_str (Z5 I q (by simp))
  | _=>exact absurd (show false=true from hs) Bool.false_ne_true
 | str i =>
  obtain ⟨t,rfl⟩:=rx
  cases y with
  | non=>cases ry; exact PySem.EqNone.eq_str_none (Z5 I q (by simp))
  | bl j=>cases ry; exact PySem.EqMixed.eq_str_bool (Z5 I q (by simp))
  | int j=>obtain ⟨t',rfl⟩:=ry; exact PySem.EqMixed.eq_str_int (Z5 I q (by simp))
  | str j=>obtain ⟨t',rfl⟩:=ry; exact eq_str (Z5 I q Zdh)
  | _=>exact absurd (show false=true from hs) Bool.false_ne_true
 | byt i =>
  obtain ⟨t,rfl⟩:=rx
  cases y with
  | byt j=>obtain ⟨t',rfl⟩:=ry; exact PySem.W.eq_bytes (Z5 I q Zdj)
  | _=>exact absurd (show false=true from hs) Bool.false_ne_true
 | _=>cases y <;> exact absurd (show false=true from hs) Bool.false_ne_true
def F0:OpR X (compareOp .NotEq) rNe:=by
 intro jy s σ H x y v u Q I rx ry h;obtain ⟨hs,q⟩:=h
 cases x with
 | non =>
  cases rx
  cases y with
  | non=>cases ry; exact PySem.EqNone.ne_none_none (Z5 I q (by simp))
  | bl j=>cases ry; exact PySem.EqNone.ne_none_bool (Z5 I q (by simp))
  | int j=>obtain ⟨t',rfl⟩:=ry; exact PySem.EqNone.ne_none_int (Z5 I q (by simp))
  | str j=>obtain ⟨t',rfl⟩:=ry; exact PySem.EqNone.ne_none_str (Z5 I q (by simp))
  | _=>exact absurd (show false=true from hs) Bool.false_ne_true
 | bl i =>
  cases rx
  cases y with
  | non=>cases ry; exact PySem.EqNone.ne_bool_none (Z5 I q (by simp))
  | bl j=>cases ry; exact ne_bool (Z5 I q (congrArg not Zgl))
  | str j=>obtain ⟨t',rfl⟩:=ry; exact PySem.EqMixed.ne_bool_str (Z5 I q (by simp))
  | _=>exact absurd (show false=true from hs) Bool.false_ne_true
 | int i =>
  obtain ⟨t,rfl⟩:=rx
  cases y with
  | non=>cases ry; exact PySem.EqNone.ne_int_none (Z5 I q (by simp))
  | int j=>obtain ⟨t',rfl⟩:=ry; exact ne_int (Z5 I q (congrArg not Zdi))
  | str j=>obtain ⟨t',rfl⟩:=ry; exact PySem.EqMixed.ne_int_str (Z5 I q (by simp))
  | _=>exact absurd (show false=true from hs) Bool.false_ne_true
 | str i =>
  obtain ⟨t,rfl⟩:=rx
  cases y with
  | non=>cases ry; exact PySem.EqNone.ne_str_none (Z5 I q (by simp))
  | bl j=>cases ry; exact PySem.EqMixed.ne_str_bool (Z5 I q (by simp))
  | int j=>obtain ⟨t',rfl⟩:=ry; exact PySem.EqMixed.ne_str_int (Z5 I q (by simp))
  | str j=>obtain ⟨t',rfl⟩:=ry; exact ne_str (Z5 I q (congrArg not Zdh))
  | _=>exact absurd (show false=true from hs) Bool.false_ne_true
 | byt i =>
  obtain ⟨t,rfl⟩:=rx
  cases y with
  | byt j=>obtain ⟨t',rfl⟩:=ry; exact PySem.W.ne_bytes (Z5 I q (congrArg not Zdj))
  | _=>exact absurd (show false=true from hs) Bool.false_ne_true
 | _=>cases y <;> exact absurd (show false=true from hs) Bool.false_ne_true
def Qq:OpR X (compareOp .Lt) (rI0 λi j=>.bl (decide (i < j))):=opB0 λ_ _ _ _ _ _ _ q=>lt_int q
def Zea:OpR X (compareOp .LtE) (rI0 λi j=>.bl (decide (i<=j))):=opB0 λ_ _ _ _ _ _ _ q=>le_int q
def Qr:OpR X (compareOp .Gt) (rI0 λi j=>.bl (decide (j < i))):=opB0 λ_ _ _ _ _ _ _ q=>gt_int q
def Zlf:OpR X (compareOp .GtE) (rI0 λi j=>.bl (decide (j<=i))):=opB0 λ_ _ _ _ _ _ _ q=>ge_int q
def Zkc:OpR X (compareOp .Is) (λx y H Q=>y=.non/\Q (.bl (decide (x=.non))) H):=by
 intro jy s σ H x y v u Q I rx ry h;obtain ⟨rfl,q⟩:=h;cases ry;refine is_none_gen (Z5 I q ?_)
 cases x <;> first
  | (cases rx; rfl)
  | (obtain ⟨t,rfl⟩:=rx; rfl)
def Zi0:OpR X (compareOp .IsNot) (λx y H Q=>y=.non/\Q (.bl (!decide (x=.non))) H):=by
 intro jy s σ H x y v u Q I rx ry h;obtain ⟨rfl,q⟩:=h;cases ry;refine isnot_none_gen (Z5 I q ?_)
 cases x <;> first
  | (cases rx; rfl)
  | (obtain ⟨t,rfl⟩:=rx; rfl)
def Zl (b:Expr) (h:op≠.In:=by decide) (h2:op≠.NotIn:=by decide):behindInMarks op b=false:=by
 have e1:(op == CmpOp.In)=false:=by cases op <;> first | rfl | exact absurd Z h
 have e2:(op == CmpOp.NotIn)=false:=by cases op <;> first | rfl | exact absurd Z h2
 cases b <;> simp [behindInMarks,e1,e2]
def Xn (ho:OpR X (compareOp op) r) (ha:PE X a ta) (hb:PE X b tb) (hm:behindInMarks op b=false):PE X (.Compare a [op] [b] pos) (tOp r ta tb):=by
 intro jy s σ H Q I h;exact wpAny_Compare1 (binT ha hb I h λv u s2 x y H2 I2 rx ry q=>ho jy s2 σ H2 x y v u Q I2 rx ry q) hm
def Zkv (t:TE):TT:=λσ H Q=>t σ H λx H'=>∃ k,x=.bl k/\Q k H'
def Zm {op:CmpOp} {r:R2} (ho:OpR X (compareOp op) r) (ha:PE X a ta) (hb:PE X b tb) (hm:behindInMarks op b=false):PT X (.Compare a [op] [b] pos) (Zkv (tOp r ta tb)):=by
 intro jy s σ H Q I h;refine wpAny_isTrue_Compare1 (thn (ha jy s σ H _ I h) λv s1 ⟨x,H1,I1,r1,q1⟩=>thn (hb jy s1 σ H1 _ I1 q1) λu s2 ⟨y,H2,I2,r2,q2⟩ =>
  thn (ho jy s2 σ H2 x y v u _ I2 r1 r2 q2) λc s3 ⟨z,H3,I3,r3,k,e,q3⟩=>?_) hm
 subst e;cases r3;exact wpAny_truthy_bool ⟨H3,I3,q3⟩
def Zjt (r r':R2) (ta tb tc:TE):TE:=λσ H Q=>ta σ H λx H1=>tb σ H1 λy H2=>r x y H2 λz H3=>∃ k,z=.bl k /\
 (if k=true then tc σ H3 λw' H4=>r' y w' H4 Q else Q (.bl false) H3)
def Zbf {op xg:CmpOp} {r r':R2} (ho:OpR X (compareOp op) r) (o6:OpR X (compareOp xg) r') (ha:PE X a ta) (hb:PE X b tb) (hc:PE X c tc)
  (hm:lastMarks [op,xg] [b,c]=false:=by with_unfolding_all rfl):PE X (.Compare a [op,xg] [b,c] pos) (Zjt r r' ta tb tc):=by
 intro jy s σ H Q I h;refine Compare_chain (thn (ha jy s σ H _ I h) λv s1 ⟨x,H1,I1,r1,q1⟩=>chain_link (thn (hb jy s1 σ H1 _ I1 q1) λu s2 ⟨y,H2,I2,r2,q2⟩ =>
  thn (ho jy s2 σ H2 x y v u _ I2 r1 r2 q2) λd s3 ⟨z,H3,I3,r3,k,e,q3⟩=>?_)) hm
 subst e;cases r3;refine wpAny_truthy_bool ?_
 cases k with
 | false=>exact ite_ff ⟨.bl false,H3,I3,Z,q3⟩
 | true=>exact ite_tt (chain_last (thn (hc jy s3 σ H3 _ I3 q3) λw' s4 ⟨z',H4,I4,r4,q4⟩=>o6 jy s4 σ H4 y z' u w' Q I4 r2 r4 q4))
def TruV (K:W.Frag) (x:V) (H:Hp) (k:Bool):Prop :=
 match x with
 | .non=>k=false
 | .bl b=>k=b
 | .int i=>k=(i != 0)
 | .str y=>y.length<=sizeLine/\k=((y.length:Int) != 0)
 | .byt y=>y.size<=sizeLine/\k=((y.size:Int) != 0)
 | .ref p=>(∃ xs,SqL K H p xs/\k=!xs.isEmpty)\/(∃ xs,SqT K H p xs/\k=!xs.isEmpty)\/∃ kvs,H p=some (.dK kvs)/\k=!kvs.isEmpty
 | _=>False
def Zeo {κ:Type} {kvs:List (κ × V)} {vs:List (κ × Value)} (r:KV kvs vs):(!vs.isEmpty)=!kvs.isEmpty:=by
 cases r <;> rfl
def Kl {xs:List V} {its:List Value} (r:Vals xs its):(!its.toArray.isEmpty)=!xs.isEmpty:=by
 cases r <;> simp
def Vw:(sizeLine:Nat) < 2 ^ 63:=by rw [sizeLine_eq]; decide
def Zjj:TruR X (λx H Q=>∃ k,TruV X.K x H k/\Q k H):=by
 intro jy s σ H x v Q I rx h;obtain ⟨k,e,q⟩:=h;have hl:=Vw;have hs:sizeLine=16777216:=sizeLine_eq
 cases x with
 | non =>
  cases rx;have e':k=false:=e;subst e';exact truthy_none ⟨H,I,q⟩
 | bl b =>
  cases rx;have e':k=b:=e;subst e';exact wpAny_truthy_bool ⟨H,I,q⟩
 | int i =>
  obtain ⟨t,rfl⟩:=rx;have e':k=(i != 0):=e;subst e';exact PySem.P.truthy_int ⟨H,I,q⟩
 | str y =>
  obtain ⟨t,rfl⟩:=rx;obtain ⟨hy,e'⟩:y.length<=sizeLine/\k=((y.length:Int) != 0):=e;subst e';exact PySem.P.truthy_str (by lia) ⟨H,I.tok _,q⟩
 | byt y =>
  obtain ⟨t,rfl⟩:=rx;obtain ⟨hy,e'⟩:y.size<=sizeLine/\k=((y.size:Int) != 0):=e;subst e';exact PySem.W.truthy_bytes (by lia) ⟨H,I.tok _,q⟩
 | ref p =>
  cases rx;have e':(∃ xs,SqL X.K H p xs/\k=!xs.isEmpty)\/(∃ xs,SqT X.K H p xs/\k=!xs.isEmpty)\/∃ kvs,H p=some (.dK kvs)/\k=!kvs.isEmpty:=e
  rcases e' with ⟨xs,hx,e'⟩ | ⟨xs,hx,e'⟩ | ⟨kvs,hx,e'⟩
  ·subst e'
   obtain ⟨its,r,pl,hz⟩:=I.list hx;have jz:=r.length;exact wpAny_truthy_list pl.isList (by simp only [Aq]; lia) ⟨H,I.tok _,by rw [Kl r]; exact q⟩
  ·subst e'
   obtain ⟨its,r,pl,hz⟩:=I.tuple hx;have jz:=r.length;exact truthy_tuple pl (by simp only [Aq]; lia) ⟨H,I.tok _,by rw [Kl r]; exact q⟩
  ·subst e'
   obtain ⟨hz,hS,vs,r,m⟩:kvs.length<=sizeLine/\(p == sysModules)=false/\∃ vs,KV kvs vs/\s.heap.DictOf (Z0 X.prog X.w) p vs:=I.hok p _ hx;have jz:kvs.length=vs.length:=Paired.length r;exact wpAny_truthy_dict hS m (by lia) ⟨H,I.tok _,by rw [Zeo r]; exact q⟩
 | _=>exact (show False from e).elim
def Wp (ha:PE X a ta) (he:∀ lu,isTrue a X.env lu=(do let v <- lu; standAt a.pos; holding [v] (truthy v))) :
  PT X a (λσ H Q=>ta σ H λx H'=>∃ k,TruV X.K x H' k/\Q k H'):=by
 intro jy s σ H Q I h;refine isTrue_plain (thn (ha jy s σ H _ I h) λv s1 uj=>?_) (he _);obtain ⟨x,H1,I1,r1,q1⟩:=uj;exact Zjj jy s1 σ H1 x v Q I1 r1 q1
def Xk (r:Vals [x] us):∃ u,us=[u]/\RelV x u:=by
 cases r with
 | cons r1 r2=>cases r2; exact ⟨_,Z,r1⟩
def Zkr (r:Vals [x,y] us):∃ u w',us=[u,w']/\RelV x u/\RelV y w':=by
 cases r with
 | cons r1 r2 =>
  cases r2 with
  | cons r3 r4=>cases r4; exact ⟨_,_,Z,r1,r3⟩
def Zbz:Y7 X (.type "str") (λxs H Q=>∃ i,xs=[.int i]/\i.natAbs.log2 < 1920/\Q (.str (toString i)) H):=by
 intro jy s σ H xs us Q I r h;obtain ⟨i,rfl,hz,q⟩:=h;obtain ⟨u,rfl,t,rfl⟩:=Xk r;exact PySem.P.str_of_int hz ⟨.str _,H,I.tok _,⟨_,Z⟩,q⟩
end
structure ObjM (h:Heap) (x dx C:Addr) (mA:Str->Option Value):Prop where
 obj:h.get? x=some (PySem.W.instObj C dx)
 ns:h.Ns1 dx mA
 ne:dx≠x
def Zf8 {h:Heap} (n:h.Ns1 dx mA):∃ od,h.get? dx=some od/\∀ name,PySem.W.lookIn name od=some (mA name):=by
 obtain ⟨o,es,ep,ho,hd,hk,_,hm⟩:=n;refine ⟨o,ho,λname=>?_⟩;have e:=hm name;unfold nsFind findBy at e;rw [<- Array.find?_toList] at e;unfold PySem.W.lookIn;rw [hd];dsimp only;split
 ·rename_i y q
  rw [q] at e;exact congrArg some e
 ·rename_i q
  rw [q] at e;have a:es.toList.any (·.refKey)=false:=by
   rw [List.any_eq_false]
   intro y hy
   obtain ⟨z,t,hkey⟩:=hk y (Array.mem_toList_iff.mp hy)
   simp [DictEntry.refKey,hkey]
  have a':¬ es.toList.any (·.refKey)=true:=by rw [a]; exact Bool.false_ne_true
  rw [if_neg a'];exact congrArg some e
def ObjM.look (I:ObjM h x dx C mA):∃ od,PySem.W.InstAt h x (PySem.W.instObj C dx) C (some od)/\∀ name,PySem.W.lookIn name od=some (mA name) :=
 let ⟨od,ho,hl⟩:=Zf8 I.ns
 ⟨od,⟨I.obj,rfl,rfl,ho⟩,hl⟩
section
variable {prog:Program} {w:World} {A:Around} {E:Value->Shared->Prop} {s:Shared} {K:W.Frag} {x dx C f:Addr} {mA:Str->Option Value} {name:Str} {v:Value}
def Zi8 (X:K.In s.heap) (I:ObjM s.heap x dx C mA) (hg:PySem.W.plainGet K C name=true) (hh:PySem.W.hasDictIn K C=true)
  (ha:PySem.W.findIn K (.ref C) name=some none) (hv:mA name=some v) (hv':PySem.W.handedIn v=true) (h:Q v { s with toks:=s.toks + 1 }) :
  wpAny (model prog w) A (getAttr (.ref x) name expr) Q E s:=by
 obtain ⟨od,J,hl⟩:=I.look;exact PySem.W.get_value X J (PySem.W.plainGet_of hg).1 (PySem.W.findObj_own hh ha Z (by rw [hl,hv])) hv' h
def Zhv (X:K.In s.heap) (I:ObjM s.heap x dx C mA) (hg:PySem.W.plainGet K C name=true)
  (hf:PySem.W.findIn K (.ref C) name=some (some (.ref f))) (ht:PySem.W.isFn K (.ref f)=true) (hv:mA name=none) (h:Q (.ref f,[.ref x]) s) :
  wpAny (model prog w) A (getMethod (.ref x) name pl) Q E s:=by
 obtain ⟨od,J,hl⟩:=I.look;exact PySem.W.method_fn X J (PySem.W.plainGet_of hg).1 (PySem.W.plainGet_of hg).2 hf (beq_iff_eq.mp ht) (by show (PySem.W.lookIn name od).map (·.isSome)=some false; rw [hl,hv]; rfl) h
def Zim {ns:List Str} (X:K.In s.heap) (I:ObjM s.heap x dx C mA)
  (hs:PySem.W.findIn K (.ref C) "__setattr__"=some (some (.builtin "object.__setattr__"))) (hp:PySem.W.plainOver K C=true) (ht:PySem.W.takerIn K C name=some none) (hh:PySem.W.hasDictIn K C=true)
  (hw:PySem.Within mA ns) (hsz:ns.length<=sizeLine)
  (h:∀ h',ObjM h' x dx C (λy=>if y=name then some v else mA y)->Heap.SameBut dx s.heap h'->Q () { s with heap:=h',toks:=s.toks + 2 }) :
  wpAny (model prog w) A (setAttr (.ref x) name v) Q E s:=by
 obtain ⟨od,J,hl⟩:=I.look;refine PySem.W.set_plain X J hs (PySem.W.osa_open (s:={ s with toks:=s.toks + 1 }) (r:=none) X J hp ht λb=>?_);obtain ⟨cd,hc,qr⟩:=PySem.W.any_some hh;have hx:s.heap.get? x=some ⟨.ref C,some dx,.plain,#[]⟩:=I.obj;refine Al (wpAny_pure (Al (Al (wpAny_loadPart hx (Al (PySem.W.Looks.here (s:={ s with toks:=s.toks + 1 }) (PySem.W.looks_clsIn X hc) ?_))))));rw [qr];refine wpAny_pure (a:=some dx) (Al (wpAny_pure (Al ?_)));refine wpAny_nsSet1 (s:={ s with toks:=s.toks + 1 }) I.ns λh' qz qj=>?_;obtain ⟨oD,esD,epD,hoD,hdD,hcD⟩:=qz.count (PySem.Within.cons name v hw);refine Al (wpAny_lookBehind hoD (by rw [hdD]; exact pastItsLine_dict (Nat.le_trans hcD (by rw [List.length_cons]; lia))) ?_);exact wpAny_pure (h _ ⟨(qj.2 _ (Ne.symm I.ne)).trans I.obj,qz,I.ne⟩ qj)
def Zbr {vs:List Value} {kw:List (Str × Value)} (X:K.In s.heap) (hm:PySem.W.makesIn K C=true)
  (hi:PySem.W.findIn K (.ref C) "__init__"=some (some (.ref f))) (hf:PySem.W.typeIn K (.ref f)=some (.type "function"))
  (h:codeAny (model prog w) (A.under (.builtin "type.__call__" ⟨.ref C :: vs,kw⟩)) (.call (.ref f) ⟨.ref (s.heap.objs.size + 1) :: vs,kw⟩) (PySem.W.InitBack (s.heap.objs.size + 1) R)
   { s with heap:=(s.heap.push PySem.W.emptyDict).push (PySem.W.instObj C s.heap.objs.size) }) :
  codeAny (model prog w) A (.call (.ref C) ⟨vs,kw⟩) R s:=by
 obtain ⟨hh,g,d,t,os⟩:=s;exact PySem.W.make_core (PySem.W.makes_of X hm) (PySem.W.looks_findIn X hi) (λself=>PySem.W.bind_fn X self hf) (.inl Z) h
end
def putF (f:Str) (v:V):List (Str × V)->List (Str × V)
 | []=>[(f,v)]
 | (g,x) :: r=>if g=f then (g,v) :: r else (g,x) :: putF f v r
theorem Zu (f g:Str) (v:V):∀ fs:List (Str × V),(putF f v fs).lookup g=if g=f then some v else fs.lookup g
 | []=>by
  show List.lookup g [(f,v)]=_;by_cases h:g=f
  ·have hb:(g == f)=true:=beq_iff_eq.mpr h
   simp only [List.lookup,hb,if_pos h]
  ·have hb:(g == f)=false:=beq_eq_false_iff_ne.mpr h
   simp only [List.lookup,hb,if_neg h]
 | (k,x) :: r=>by
  have ih:=Zu f g v r;rw [show putF f v ((k,x) :: r)=(if k=f then (k,v) :: r else (k,x) :: putF f v r) from rfl];by_cases hk:k=f
  ·rw [if_pos hk]
   by_cases h:g=k
   ·have hb:(g == k)=true:=beq_iff_eq.mpr h
    simp only [List.lookup,hb,if_pos (h.trans hk)]
   ·have hb:(g == k)=false:=beq_eq_false_iff_ne.mpr h
    simp only [List.lookup,hb,if_neg (λe:g=f=>h (e.trans hk.symm))]
  ·rw [if_neg hk]
   by_cases h:g=k
   ·have hb:(g == k)=true:=beq_iff_eq.mpr h
    simp only [List.lookup,hb,if_neg (λe:g=f=>hk (h.symm.trans e))]
   ·have hb:(g == k)=false:=beq_eq_false_iff_ne.mpr h
    simp only [List.lookup,hb];exact ih
theorem Vx (f:Str) (v:V):∀ fs:List (Str × V),f∈(putF f v fs).map (·.1)/\∀ g,g∈fs.map (·.1)->g∈(putF f v fs).map (·.1)
 | []=>⟨by simp [putF],λg h=>by simp at h⟩
 | (k,x) :: r=>by
  obtain ⟨i1,i2⟩:=Vx f v r;rw [show putF f v ((k,x) :: r)=(if k=f then (k,v) :: r else (k,x) :: putF f v r) from rfl];by_cases hk:k=f
  ·rw [if_pos hk]
   subst hk;exact ⟨by simp,λg h=>by simpa using h⟩
  ·rw [if_neg hk]
   refine ⟨?_,λg h=>?_⟩
   ·rw [List.map_cons]
    exact List.mem_cons_of_mem _ i1
   ·rw [List.map_cons] at h ⊢
    rcases Ar h with e | e
    ·exact List.mem_cons.mpr (.inl e)
    ·exact List.mem_cons_of_mem _ (i2 g e)
theorem U0 (f:Str) (v:V):∀ fs:List (Str × V),(putF f v fs).length<=fs.length + 1
 | []=>by simp [putF]
 | (k,x) :: r=>by
  have ih:=U0 f v r;rw [show putF f v ((k,x) :: r)=(if k=f then (k,v) :: r else (k,x) :: putF f v r) from rfl];by_cases hk:k=f
  ·rw [if_pos hk,List.length_cons,List.length_cons]; lia
  ·rw [if_neg hk,List.length_cons,List.length_cons]; lia
def RelO.some_of (r:RelO (some v) o):∃ u,o=some u/\RelV v u:=by
 cases o with
 | none=>exact (show False from r).elim
 | some u=>exact ⟨u,Z,r⟩
def RelO.none_of (r:RelO none o):o=none:=by
 cases o with
 | none=>rfl
 | some u=>exact (show False from r).elim
def Zgg (r:RelV v u):PySem.W.handedIn u=true:=by
 cases v with
 | non=>cases (show u=Value.none from r); rfl
 | bl b=>cases (show u=Value.bool b from r); rfl
 | int i=>obtain ⟨t,e⟩:=(show ∃ t,u=Value.int i t from r); cases e; rfl
 | str x=>obtain ⟨t,e⟩:=(show ∃ t,u=Value.str x t from r); cases e; rfl
 | byt b=>obtain ⟨t,e⟩:=(show ∃ t,u=Value.bytes b t from r); cases e; rfl
 | flt b=>obtain ⟨t,e⟩:=(show ∃ t,u=Value.float b t from r); cases e; rfl
 | ref a=>cases (show u=Value.ref a from r); rfl
 | ty n=>cases (show u=Value.type n from r); rfl
section
variable {P:Program} {w:World} {H H':Hp} {h h':Heap} {a C dx:Addr} {fs fs':List (Str × V)}
def V5 (hok:HOk P w H h) (e:H a=some (.ins C dx fs)):∃ mA,ObjM h a dx C mA/\(∀ f,RelO (fs.lookup f) (mA f))/\PySem.Within mA (fs.map (·.1))/\fs.length<=1000/\H dx=some (.own a):=by
 obtain ⟨d,z,ne,ob,mA,n,r,q⟩:=(show Ya P w H h a (.ins C dx fs) from hok a _ e);exact ⟨mA,⟨ob,n,ne⟩,r,q,z,d⟩
end
structure Cls (K:W.Frag) (C:Addr):Prop where
 pg:PySem.W.plainGet K C Str.empty=true
 hd:PySem.W.hasDictIn K C=true
 po:PySem.W.plainOver K C=true
 sa:PySem.W.findIn K (.ref C) "__setattr__"=some (some (.builtin "object.__setattr__"))
def Cls.get {K:W.Frag} {C:Addr} (c:Cls K C) (f:Str):PySem.W.plainGet K C f=true:=c.pg
def Yw (K:W.Frag) (C:Addr) (f:Str):Prop:=PySem.W.findIn K (.ref C) f=some none
def Yw.taker {K:W.Frag} {C:Addr} {f:Str} (n:Yw K C f):PySem.W.takerIn K C f=some none:=by
 unfold PySem.W.takerIn;rw [show PySem.W.findIn K (.ref C) f=some none from n];rfl
structure Meth (K:W.Frag) (C:Addr) (m:Str) (f:Addr):Prop where
 at_:PySem.W.findIn K (.ref C) m=some (some (.ref f))
 fn:PySem.W.isFn K (.ref f)=true
 kp:PySem.W.keepIn K (.ref f)=true
section
variable {X:Cx} {jy:List (Addr × Obj)} {σ:St} {H:Hp} {s:Shared} {a C dx:Addr} {fs:List (Str × V)} {f:Str} {v:V} {A:Around} {E:Value->Shared->Prop}
def Zep (I:Inv X jy σ H s) (e:H a=some (.ins C dx fs)) (c:Cls X.K C) (n:Yw X.K C f) (l:fs.lookup f=some v)
  (h:∀ u s',Inv X jy σ H s'->RelV v u->Q u s'):wpAny (model X.prog X.w) A (getAttr (.ref a) f b) Q E s:=by
 obtain ⟨mA,O,r,_,_,_⟩:=V5 I.hok e;obtain ⟨u,hu,ru⟩:=RelO.some_of (v:=v) (o:=mA f) (by rw [<- l]; exact r f);exact Zi8 I.kIn O (c.get f) c.hd n hu (Zgg ru) (h u _ (I.tok _) ru)
def Jd (I:Inv X jy σ H s) (e:H a=some (.ins C dx fs)) (c:Cls X.K C) (k:Meth X.K C m g) (l:fs.lookup m=none)
  (h:Q (.ref g,[.ref a]) s):wpAny (model X.prog X.w) A (getMethod (.ref a) m pl) Q E s:=by
 obtain ⟨mA,O,r,_,_,_⟩:=V5 I.hok e;have hn:mA m=none:=RelO.none_of (by rw [<- l]; exact r m);exact Zhv I.kIn O (c.get m) k.at_ k.fn hn h
def Zd1 (I:Inv X jy σ H s) (e:H a=some (.ins C dx fs)) (c:Cls X.K C) (n:Yw X.K C f) (hl:fs.length < 1000) (ry:RelV y u)
  (h:∀ s',Inv X jy σ (upd H a (.ins C dx (putF f y fs))) s'->Q () s'):wpAny (model X.prog X.w) A (setAttr (.ref a) f u) Q E s:=by
 obtain ⟨mA,O,r,wi,_,ho⟩:=V5 I.hok e;have hz:(fs.map (·.1)).length<=sizeLine:=by rw [Ab,sizeLine_eq]; lia
 refine Zim I.kIn O c.sa c.po n.taker c.hd wi hz λh' O' sb=>h _ ?_;have hd:∃ o,h'.get? dx=some o:=let ⟨o,_,_,e',_⟩:=O'.ns; ⟨o,e'⟩
 refine I.write (x:=a) (e:=dx) (by rw [e]; exact True.intro) (.inr ho) (λb q hb z=>(sb.2 b hb).trans z) hd ?_;refine ⟨by rw [Zf O.ne]; exact ho,?_,O.ne,O'.obj,_,O'.ns,λg=>?_,λg hg=>?_⟩
 ·have:=U0 f y fs; lia
 ·show RelO ((putF f y fs).lookup g) (if g=f then some u else mA g)
  rw [Zu];by_cases q:g=f
  ·rw [if_pos q,if_pos q]; exact ry
  ·rw [if_neg q,if_neg q]; exact r g
 ·by_cases q:g=f
  ·rw [q]; exact (Vx f y fs).1
  ·refine (Vx f y fs).2 g (wi g λz=>hg ?_)
   show (if g=f then some u else mA g)=none;rw [if_neg q]; exact z
def Inv.made (I:Inv X jy σ H s):Inv X jy σ (upd (upd H s.heap.objs.size (.own (s.heap.objs.size + 1))) (s.heap.objs.size + 1) (.ins C s.heap.objs.size []))
  { s with heap:=(s.heap.push PySem.W.emptyDict).push (PySem.W.instObj C s.heap.objs.size) }:=by
 have e1:(s.heap.push PySem.W.emptyDict).get? s.heap.objs.size=some PySem.W.emptyDict:=Ap s.heap rfl;have e2:((s.heap.push PySem.W.emptyDict).push (PySem.W.instObj C s.heap.objs.size)).get? (s.heap.objs.size + 1)=some (PySem.W.instObj C s.heap.objs.size):=by
  have:=Ap (s.heap.push PySem.W.emptyDict) (o:=PySem.W.instObj C s.heap.objs.size) rfl
  rwa [Heap.size_push] at this
 have e3:(s.heap.push PySem.W.emptyDict).Ns s.heap.objs.size (λ_=>none):=⟨PySem.W.emptyDict,#[],_,e1,rfl,(λe he=>absurd he (by simp)),λ_=>rfl⟩;have I1:=I.laid (a:=s.heap.objs.size) (o:=.own (s.heap.objs.size + 1)) (h':=s.heap.push PySem.W.emptyDict) (t':=s.toks) (λb u q=>Ak _ q) (An _) ⟨_,e1⟩;refine I1.laid (a:=s.heap.objs.size + 1) (o:=.ins C s.heap.objs.size []) (t':=s.toks) (λb u q=>Ak _ q) (Nat.le_of_eq (Heap.size_push _ _)) ?_;have ne:s.heap.objs.size≠s.heap.objs.size + 1:=As (Nat.lt_succ_self _);refine ⟨by rw [Zf ne,Zc],Az _,ne,e2,λ_=>none,(Heap.Ns1.of_empty e3).at λo q=>Ak _ q,λ_=>True.intro,λy hy=>absurd Z hy⟩
def Zjd (hb:attributeBase e f env (eval e env)=eval e env)
  (h:wpAny (model prog w) A (eval e env) (λo s₁=>wpAny (model prog w) A (getAttr o f true) Q E s₁) E s):wpAny (model prog w) A (eval (.Attribute e f pos) env) Q E s :=
 Attribute_any_ h (by rw [arm_eval_Attribute,hb])
end
def tFld (K:W.Frag) (ta:TE) (f:Str):TE:=λσ H Q=>ta σ H λx H1=>∃ a C dx fs v,x=.ref a/\H1 a=some (.ins C dx fs)/\Cls K C/\Yw K C f/\fs.lookup f=some v/\Q v H1
def sFld (K:W.Frag) (ta tv:TE) (f:Str):TS:=λD σ H=>tv σ H λy H1=>ta σ H1 λx H2=>∃ a C dx fs,x=.ref a/\H2 a=some (.ins C dx fs)/\Cls K C/\Yw K C f/\fs.length < 1000 /\
 D.nx σ (upd H2 a (.ins C dx (putF f y fs)))
section
variable {X:Cx} {o e value:Expr} {f:Str} {pos lj m7:Pos} {ta tv:TE}
def Zz (he:PE X e ta) (hb:attributeBase e f X.env (eval e X.env)=eval e X.env):PE X (.Attribute e f pos) (tFld X.K ta f):=by
 intro jy s σ H Q I h;refine Zjd hb (thn (he jy s σ H _ I h) λu s1 j4=>?_);obtain ⟨x,H1,I1,rx,a,C,dx,fs,v,ex,ea,c,n,l,q⟩:=j4;subst ex;obtain rfl:u=Value.ref a:=rx;exact Zep I1 ea c n l λu' s2 I2 ru=>⟨v,H1,I2,ru,q⟩
def Xh (ha:PE X o ta) (hv:PE X value tv) (hs:swapsWith value (some (.Attribute o f lj)) pos.line X.env=pure false):PS X (.Assign [.Attribute o f lj] value pos) (sFld X.K ta tv f):=by
 intro jy s σ H D I h;refine plainObj_wpAny_Assign_Attribute (thn (hv jy s σ H _ I h) λu s1 zz8=>?_) hs;obtain ⟨y,H1,I1,ry,q⟩:=zz8;refine thn (ha jy s1 σ H1 _ I1 q) λov s2 j4=>?_;obtain ⟨x,H2,I2,rx,a,C,dx,fs,ex,ea,c,n,l,q2⟩:=j4;subst ex;obtain rfl:ov=Value.ref a:=rx;exact Zd1 I2 ea c n l ry λs3 I3=>⟨σ,_,I3,q2⟩
end
section
variable {X:Cx} {jy:List (Addr × Obj)} {σ:St} {H:Hp} {s:Shared} {A:Around} {E:Value->Shared->Prop} {Q:Value->Shared->Prop} {c:Value} {b:Bool}
inductive TyOf (K:W.Frag) (H:Hp):V->Value->Prop where
 | non:TyOf K H .non (.type "NoneType")
 | bl (x:Bool):TyOf K H (.bl x) (.type "bool")
 | int (i:Int):TyOf K H (.int i) (.type "int")
 | str (x:Str):TyOf K H (.str x) (.type "str")
 | flt (x:UInt64):TyOf K H (.flt x) (.type "float")
 | lst {a:Addr} {xs:List V} (e:H a=some (.lst xs)):TyOf K H (.ref a) (.type "list")
 | frz {a:Addr} {o:Obj} {xs:List V} (e:H a=some (.frz o (.lst xs))):TyOf K H (.ref a) (.type "list")
 | tup {a:Addr} {xs:List V} (e:H a=some (.tup xs)):TyOf K H (.ref a) (.type "tuple")
 | dK {a:Addr} {kvs:List (Key × V)} (e:H a=some (.dK kvs)):TyOf K H (.ref a) (.type "dict")
 | dT {a:Addr} {kvs:List (List Key × V)} (e:H a=some (.dT kvs)):TyOf K H (.ref a) (.type "dict")
 | ins {a C dx:Addr} {fs:List (Str × V)} (e:H a=some (.ins C dx fs)) (cl:Cls K C) (ha:PySem.W.findIn K (.ref C) "__class__"=some (some (.builtin "object.__class__")))
   (hn:PySem.W.specialIn K (.builtin "object.__class__") "__get__"=some (some (.builtin "getset_descriptor.__get__"))) (htk:PySem.W.takesIn K (.builtin "object.__class__")=some true)
   (hm:PySem.W.mroIn K C (.type "object")=some true):TyOf K H (.ref a) (.ref C)
def Zgc (I:Inv X jy σ H s) (rx:RelV x u) (ty:TyOf X.K H x t) (e:PySem.W.kitOne X.K t c=some b) (h:∀ tk,Q (.bool b) { s with toks:=tk }) :
  wpAny (model X.prog X.w) A (call (.builtin "isinstance") [u,c]) Q E s:=by
 cases ty with
 | non=>cases (show u=Value.none from rx); exact PySem.W.kia_one PySem.W.kitx_none I.kIn True.intro e (λz=>nomatch z) h
 | bl y=>cases (show u=Value.bool y from rx); exact PySem.W.kia_one PySem.W.kitx_bool I.kIn True.intro e (λz=>nomatch z) h
 | int i=>obtain ⟨t,q⟩:=(show ∃ t,u=Value.int i t from rx); cases q; exact PySem.W.kia_one PySem.W.kitx_int I.kIn True.intro e (λz=>nomatch z) h
 | str y=>obtain ⟨t,q⟩:=(show ∃ t,u=Value.str y t from rx); cases q; exact PySem.W.kia_one PySem.W.kitx_str I.kIn True.intro e (λz=>nomatch z) h
 | flt y=>obtain ⟨t,q⟩:=(show ∃ t,u=Value.float y t from rx); cases q; exact PySem.W.kia_one PySem.W.kitx_float I.kIn True.intro e (λz=>nomatch z) h
 | @lst a xs ea =>
  cases (show u=Value.ref a from rx);obtain ⟨_,_,n,_,h1⟩:=(show Ya X.prog X.w H s.heap a (.lst xs) from I.hok a _ ea);exact PySem.W.kia_one PySem.W.kitx_list I.kIn ⟨_,h1,Z⟩ e (λz=>nomatch z) h
 | @frz a ob xs ea =>
  cases (show u=Value.ref a from rx);obtain ⟨_,_,_,n,_,h1⟩:=(show Ya X.prog X.w H s.heap a (.frz ob (.lst xs)) from I.hok a _ ea);exact PySem.W.kia_one PySem.W.kitx_list I.kIn ⟨_,h1,Z⟩ e (λz=>nomatch z) h
 | @tup a xs ea =>
  cases (show u=Value.ref a from rx);obtain ⟨_,_,_,p⟩:=(show Ya X.prog X.w H s.heap a (.tup xs) from I.hok a _ ea);obtain ⟨o,h1,h2,_⟩:=p;exact PySem.W.kia_one PySem.W.kitx_tuple I.kIn ⟨o,h1,h2⟩ e (λz=>nomatch z) h
 | @dK a kvs ea =>
  cases (show u=Value.ref a from rx);obtain ⟨_,_,vs,_,p⟩:=(show Ya X.prog X.w H s.heap a (.dK kvs) from I.hok a _ ea);obtain ⟨o,es,ep,h1,h2,_⟩:=p;exact PySem.W.kia_one PySem.W.kitx_dict I.kIn ⟨o,h1,h2.1⟩ e (λz=>nomatch z) h
 | @dT a kvs ea =>
  cases (show u=Value.ref a from rx);obtain ⟨_,_,xs,_,o,es,ep,h1,h2,_⟩:=(show Ya X.prog X.w H s.heap a (.dT kvs) from I.hok a _ ea);exact PySem.W.kia_one PySem.W.kitx_dict I.kIn ⟨o,h1,h2.1⟩ e (λz=>nomatch z) h
 | @ins a C dx fs ea cl ha hn htk hm =>
  cases (show u=Value.ref a from rx);obtain ⟨mA,O,_⟩:=V5 I.hok ea;obtain ⟨od,J,_⟩:=O.look;exact PySem.W.kia_one (PySem.W.kitx_own (cl.get _) cl.hd ha hn htk hm) I.kIn J e (λz=>nomatch z) h
end
structure Room (k:Nat) (A:Around):Prop where
 hd:A.handled=none
 dp:A.depth + 3 * k + 5 < recursionLimit
 un:A.units + 16 * k + 200 < cLine
def Room.mono (r:Room k A) (h:j<=k):Room j A:=⟨r.hd,by have:=r.dp; lia,by have:=r.un; lia⟩
def Room.deeper {A:Around} (r:Room (k + 1) A) (env:Env):Room k (A.deeper env) :=
 ⟨r.hd,by have:=r.dp; show A.depth + 1 + 3 * k + 5 < _; lia,by have:=r.un; show A.units + 3 + 16 * k + 200 < _; lia⟩
def Zel {A:Around} {us:List Value} {kw:List (Str × Value)}:(A.under (.builtin "type.__call__" ⟨.ref C :: us,kw⟩)).depth=A.depth + 1:=by
 first | rfl | simp [Around.under,Code.weight,Code.isCreation,Code.isGuard,Code.isCaller,Code.frames,Code.isFrame,guardIds]
def Zek {A:Around} {us:List Value} {kw:List (Str × Value)}:(A.under (.builtin "type.__call__" ⟨.ref C :: us,kw⟩)).units=A.units + 1:=by
 first | rfl | simp [Around.under,Code.cUnits,Code.frames,Code.isFrame]
def Room.make {A:Around} (r:Room (k + 1) A) (C:Addr) (us:List Value) (kw:List (Str × Value)):Room k (A.under (.builtin "type.__call__" ⟨.ref C :: us,kw⟩)) :=
 ⟨r.hd,by have:=r.dp; rw [Zel]; lia,by have:=r.un; rw [Zek]; lia⟩
def Room.depth {A:Around} (r:Room k A):A.depth < recursionLimit:=by have:=r.dp; lia
def Room.units {A:Around} (r:Room k A):A.units + 64 < cLine:=by have:=r.un; lia
def tNil:TA:=λ_ H Q=>Q [] H
def Zk5 (ta:TE) (tr:TA):TA:=λσ H Q=>ta σ H λx H1=>tr σ H1 λxs H2=>Q (x :: xs) H2
section
variable {X:Cx} {e:Expr} {es:List Expr} {te:TE} {t:TA} {pos:Pos}
def Zb:PA X [] tNil:=λ_ _ _ _ H Q I h=>Calls.spliced_nil ⟨[],H,I,.nil,h⟩
def Za (ha:PE X e te) (hr:PA X es t) (hs:starEach (e :: es) X.env=(false,eval e X.env) :: starEach es X.env:=by rfl):PA X (e :: es) (Zk5 te t):=by
 intro pos jy s σ H Q I h;rw [hs];show wpAny _ _ (spliced ((false,eval e X.env) :: backTo pos (starEach es X.env))) _ _ s;refine Calls.spliced_cons (thn (ha jy s σ H _ I h) λu s1 j4=>?_);obtain ⟨x,H1,I1,r1,q1⟩:=j4;refine thn (hr pos jy s1 σ H1 _ I1 q1) λus s2 zz10=>?_;obtain ⟨xs,H2,I2,r2,q2⟩:=zz10;exact ⟨x :: xs,H2,I2,.cons r1 r2,q2⟩
def tTup (t:TA):TE:=λσ H Q=>t σ H λxs H1=>xs.length<=sizeLine/\∀ p,H1 p=none->Q (.ref p) (upd H1 p (.tup xs))
def tLst (t:TA):TE:=λσ H Q=>t σ H λxs H1=>xs.length<=sizeLine/\∀ p,H1 p=none->Q (.ref p) (upd H1 p (.lst xs))
def Xr {x1} (h:PA X es t):PE X (.Tuple es x1 pos) (tTup t):=by
 intro jy s σ H Q I hq;refine wpAny_Tuple_spliced (thn (h pos jy s σ H _ I hq) λus s1 uj=>?_);obtain ⟨xs,H1,I1,r,z,q⟩:=uj;refine ⟨by rw [<- r.length]; exact z,?_⟩;have hf:H1 s1.heap.objs.size=none:=I1.hok.fresh (An _);refine ⟨.ref s1.heap.objs.size,upd H1 s1.heap.objs.size (.tup xs),I1.laid (t':=s1.toks) (λb u e=>Ak _ e) (An _) ?_,Z,q _ hf⟩;exact ⟨z,us,r,⟨_,Ap _ Z,Z,_,Z⟩⟩
def Yv (h:PA X es t):PE X (.List es pos) (tLst t):=by
 intro jy s σ H Q I hq;refine wpAny_List_spliced (thn (h pos jy s σ H _ I hq) λus s1 uj=>?_);obtain ⟨xs,H1,I1,r,z,q⟩:=uj;refine ⟨by rw [<- r.length]; exact z,?_⟩;have hf:H1 s1.heap.objs.size=none:=I1.hok.fresh (An _);refine ⟨.ref s1.heap.objs.size,upd H1 s1.heap.objs.size (.lst xs),I1.laid (t':=s1.toks) (λb u e=>Ak _ e) (An _) ?_,Z,q _ hf⟩;exact ⟨z,us,0,r,Ap _ Z⟩
end
abbrev Sp:=List V->Hp->VK->XK->Prop
abbrev CXT:=List Env->Hp->Shared->XK->Value->Shared->Prop
structure Env0 (P:Program) (w:World) (K:W.Frag) (mg:Str->Option Value) (base:Heap) (A:Around) (outer:List Env) (s:Shared) (H:Hp):Prop where
 frames:A.frames=some outer
 mod:Mod K mg base
 bs:∀ b o,base.get? b=some o->s.heap.get? b=some o/\H b=none
 bsz:base.objs.size<=s.heap.objs.size
 funs:s.heap.FunFrames base outer
 frf:∀ b∈frs outer,H b=none
 hok:HOk P w H s.heap
 bare:AllBare s.gens
def CE (outer:List Env) (P:Program) (w:World) (H:Hp) (s:Shared) (Q:VK) (u:Value) (s':Shared):Prop :=
 ∃ v H',s'.os=s.os/\AllBare s'.gens/\Un (frs outer) [] H H' s.heap s'.heap/\HOk P w H' s'.heap/\RelV v u/\Q v H'
def CR (CX:CXT) (outer:List Env) (P:Program) (w:World) (H:Hp) (s:Shared) (Q:VK) (E:XK) (r:Result) (s':Shared):Prop :=
 match r with
 | .ok (.ret u)=>CE outer P w H s Q u s'
 | .ok _=>False
 | .error e=>CX outer H s E e s'
structure FnOk (P:Program) (w:World) (K:W.Frag) (mg:Str->Option Value) (base:Heap) (CX:CXT) (k:Nat) (f:Addr) (fd:FuncData) (ps:List Str) (sp:Sp):Prop where
 len:∀ vs H Q E,sp vs H Q E->vs.length=ps.length
 run:∀ (A:Around) (outer:List Env) (s:Shared) (H:Hp) (args:Args) (us:List Value) (vs:List V) (Q:VK) (E:XK),Room k A->Env0 P w K mg base A outer s H->BindsTo s fd args (ps.zip us)->Vals vs us->sp vs H Q E ->
  codeAny (model P w) A (.call (.ref f) args) (CR CX outer P w H s Q E) s
def Env0.make {P:Program} {w:World} {K:W.Frag} {mg:Str->Option Value} {base:Heap} {A:Around} {outer:List Env} {s:Shared} {H:Hp} (e:Env0 P w K mg base A outer s H) (C:Addr) (us:List Value) (kw:List (Str × Value)) :
  Env0 P w K mg base (A.under (.builtin "type.__call__" ⟨.ref C :: us,kw⟩)) outer s H:=⟨by first | exact e.frames | (simpa [Around.under,Code.envs,Code.isFrame,pushEnvs] using e.frames),e.mod,e.bs,e.bsz,e.funs,e.frf,e.hok,e.bare⟩
section
variable {X:Cx} {jy:List (Addr × Obj)} {σ:St} {H:Hp} {s s':Shared}
def Inv.env0 (I:Inv X jy σ H s):Env0 X.prog X.w X.K X.mg X.base X.A X.stack s H :=
 ⟨I.ok.frames,I.ok.mod,I.bs,Nat.le_trans I.ok.bsz I.sz,I.stack,I.stkFree,I.hok,I.bare⟩
def Inv.after (I:Inv X jy σ H s) (h:CE X.stack X.prog X.w H s Q u s'):EP X jy σ Q u s':=by
 obtain ⟨v,H',os,bare,un,hok,r,q⟩:=h;obtain ⟨hh,g,d,t,os'⟩:=s';obtain rfl:os'=s.os:=os;exact ⟨v,H',I.call (h':=hh) (g':=g) (d':=d) (t':=t) (ch:=[]) un hok bare (λb z=>absurd z (by simp)),r,q⟩
end
def Zh6 (sp:Sp) (ke:List V) (E:XK) (t:TA):TE:=λσ H Q=>t σ H λvs H1=>sp (vs ++ ke) H1 Q E
def Zh3 (C:Addr) (m:Str) (sp:Sp) (ke:List V) (E:XK) (ta:TE) (t:TA):TE:=λσ H Q=>ta σ H λx H1=>∃ a dx fs,x=.ref a/\H1 a=some (.ins C dx fs)/\fs.lookup m=none /\
 t σ H1 λvs H2=>sp (x :: (vs ++ ke)) H2 Q E
def Zk0 (C:Addr) (sp:Sp) (ke:List V) (E:XK) (t:TA):TE:=λσ H Q=>t σ H λvs H1=>∀ x dx,H1 x=none->H1 dx=none->dx≠x ->
 sp (.ref x :: (vs ++ ke)) (upd (upd H1 dx (.own x)) x (.ins C dx [])) (λv H2=>v=.non/\Q (.ref x) H2) E
def Xe (K:W.Frag) (fd:FuncData) (ps:List Str) (ds:List Value):Prop :=
 ∀ (s:Shared) (us:List Value),K.In s.heap->(us ++ ds).length=ps.length->BindsTo s fd ⟨us,[]⟩ (ps.zip (us ++ ds))
def Xe.all {K:W.Frag} {fd:FuncData} {ps:List Str} (h:∀ us:List Value,us.length=ps.length->bindArgs fd ⟨us,[]⟩=pure (ps.zip us)):Xe K fd ps []:=λs us _ hl=>by
 rw [List.append_nil] at hl ⊢;exact .of_eq (h us hl)
def Jv (CX:CXT) (X:Cx) (E:XK):Prop:=∀ (jy:List (Addr × Obj)) (σ:St) (H:Hp) (s:Shared) (e:Value) (s':Shared),Inv X jy σ H s->CX X.stack H s E e s'->X.xe e s'
section
variable {X:Cx} {CX:CXT} {k:Nat} {f C:Addr} {fd:FuncData} {ps:List Str} {sp:Sp} {ke:List V} {ds:List Value} {E:XK} {x m:Str} {p pos j7:Pos} {e o:Expr} {es:List Expr} {ta:TE} {t:TA}
def Za2 (F:FnOk X.prog X.w X.K X.mg X.base CX k f fd ps sp) (hr:Room k X.A) (hb:Xe X.K fd ps ds) (hd:Vals ke ds) (hx:Jv CX X E)
  (I:Inv X jy σ H s) (r:Vals vs us) (h:sp (vs ++ ke) H Q E):wpAny (model X.prog X.w) X.A (call (.ref f) us) (EP X jy σ Q) X.xe s:=by
 have r2:Vals (vs ++ ke) (us ++ ds):=r.append hd;have hl:(us ++ ds).length=ps.length:=by rw [<- r2.length]; exact F.len _ _ _ _ h
 refine wpAny_call (codeAny_mono (F.run X.A X.stack s H ⟨us,[]⟩ (us ++ ds) (vs ++ ke) Q E hr I.env0 (hb s us I.kIn hl) r2 h) λr s' hq=>?_)
 cases r with
 | error e=>exact hx jy σ H s e s' I hq
 | ok fl =>
  cases fl with
  | ret u=>exact I.after hq
  | next=>exact False.elim hq
  | brk=>exact False.elim hq
  | cont=>exact False.elim hq
def Ziy (F:FnOk X.prog X.w X.K X.mg X.base CX k f fd ps sp) (hr:Room k X.A) (hg:Gl X x) (hm:X.mg x=some (.ref f)) (hk:PySem.W.keepIn X.K (.ref f)=true) (hb:Xe X.K fd ps ds) (hd:Vals ke ds) (hx:Jv CX X E)
  (ha:PA X (e :: es) t) (lg:(x == ("__debug__":Str))=false:=by decide) (he:starEach (e :: es) X.env=(false,eval e X.env) :: starEach es X.env:=by rfl) (k9:(backTo pos (starEach es X.env)).any (·.1)=false:=by rfl) :
  PE X (.Call (.Name x p) (e :: es) [] pos) (Zh6 sp ke E t):=by
 intro jy s σ H Q I h;refine wpAny_Call_Name_kw (Xu I hg hm ?_ lg);refine PySem.W.callWith_K (h₀:=X.base) I.ok.mod.kin hk (thn (ha pos jy s σ H _ I h) λus s1 zz11=>?_) he k9;obtain ⟨vs,H1,I1,r,q⟩:=zz11;refine ⟨I1.kIn,?_⟩;exact Za2 F hr hb hd hx I1 r q
def X2 {pl:Sem Bool} (he:PE X o ta) (c:Cls X.K C) (hm:Meth X.K C m f) (F:FnOk X.prog X.w X.K X.mg X.base CX k f fd ps sp) (hr:Room k X.A) (hb:Xe X.K fd ps ds) (hd:Vals ke ds) (hx:Jv CX X E) (ha:PA X (e :: es) t)
  (kn:starEach (e :: es) X.env=(false,eval e X.env) :: starEach es X.env:=by rfl) (k9:(backTo pos (starEach es X.env)).any (·.1)=false:=by rfl)
  (ht:eval (.Call (.Attribute o m j7) (e :: es) [] pos) X.env=(do
   let ov <- eval o X.env
   standAt j7.atName
   let (f,first) <- holding [ov] (getMethod ov m pl)
   callWith pos f first (backTo pos (starEach (e :: es) X.env)) (backToKw pos (keywordEach [] X.env))):=by rfl) :
  PE X (.Call (.Attribute o m j7) (e :: es) [] pos) (Zh3 C m sp ke E ta t):=by
 intro jy s σ H Q I h;refine PySem.W.methodCall_KW (pl:=pl) (thn (he jy s σ H _ I h) λu s1 zz12=>?_) ht;obtain ⟨x,H1,I1,rx,a,dx,fs,ex,ea,l,q⟩:=zz12;subst ex;obtain rfl:u=Value.ref a:=rx;refine Jd I1 ea c hm l ?_;refine PySem.W.callWith_K (first:=[.ref a]) (h₀:=X.base) I.ok.mod.kin hm.kp (thn (ha pos jy s1 σ H1 _ I1 q) λus s2 zz13=>?_) kn k9;obtain ⟨vs,H2,I2,r,q2⟩:=zz13;refine ⟨I2.kIn,?_⟩;exact Za2 (us:=.ref a :: us) (vs:=.ref a :: vs) F hr hb hd hx I2 (.cons Z r) q2
def Xb {pl:Sem Bool} (he:PE X o ta) (c:Cls X.K C) (hm:Meth X.K C m f) (F:FnOk X.prog X.w X.K X.mg X.base CX k f fd ps sp) (hr:Room k X.A) (hb:Xe X.K fd ps ds) (hd:Vals ke ds) (hx:Jv CX X E)
  (ht:eval (.Call (.Attribute o m j7) [] [] pos) X.env=(do
   let ov <- eval o X.env
   standAt j7.atName
   let (f,first) <- holding [ov] (getMethod ov m pl)
   callWith pos f first (backTo pos (starEach [] X.env)) (backToKw pos (keywordEach [] X.env))):=by rfl) :
  PE X (.Call (.Attribute o m j7) [] [] pos) (Zh3 C m sp ke E ta tNil):=by
 intro jy s σ H Q I h;refine PySem.W.methodCall_KW (pl:=pl) (thn (he jy s σ H _ I h) λu s1 zz14=>?_) ht;obtain ⟨x,H1,I1,rx,a,dx,fs,ex,ea,l,q⟩:=zz14;subst ex;obtain rfl:u=Value.ref a:=rx;refine Jd I1 ea c hm l ?_;exact PySem.W.callWith_K0 (first:=[.ref a]) I1.kIn hm.kp (Za2 (us:=[.ref a]) (vs:=[.ref a]) F hr hb hd hx I1 (.cons Z .nil) q)
structure Mk (K:W.Frag) (C f:Addr):Prop where
 makes:PySem.W.makesIn K C=true
 init:PySem.W.findIn K (.ref C) "__init__"=some (some (.ref f))
 fn:PySem.W.isFn K (.ref f)=true
 kp:PySem.W.keepIn K (.ref C)=true
def Zha (M:Mk X.K C f) (F:FnOk X.prog X.w X.K X.mg X.base CX k f fd ps sp) (hr:Room (k + 1) X.A) (hb:Xe X.K fd ps ds) (hd:Vals ke ds)
  (hx:Jv CX X E) (I:Inv X jy σ H s) (r:Vals vs us)
  (h:∀ x dx,H x=none->H dx=none->dx≠x->sp (.ref x :: (vs ++ ke)) (upd (upd H dx (.own x)) x (.ins C dx [])) (λv H2=>v=.non/\Q (.ref x) H2) E) :
  wpAny (model X.prog X.w) X.A (call (.ref C) us) (EP X jy σ Q) X.xe s:=by
 have hq:=h (s.heap.objs.size + 1) s.heap.objs.size (I.hok.fresh (Nat.le_succ _)) (I.hok.fresh (An _)) (As (Nat.lt_succ_self _));have I2:=Inv.made (C:=C) I;have r2:Vals (V.ref (s.heap.objs.size + 1) :: (vs ++ ke)) (Value.ref (s.heap.objs.size + 1) :: (us ++ ds)):=.cons rfl (r.append hd);have hl:(Value.ref (s.heap.objs.size + 1) :: us ++ ds).length=ps.length:=by
  have e:=r2.length
  rw [F.len _ _ _ _ hq] at e
  exact e.symm
 refine wpAny_call (Zbr (f:=f) I.kIn M.makes M.init (beq_iff_eq.mp M.fn) (codeAny_mono (F.run _ X.stack _ _ ⟨Value.ref (s.heap.objs.size + 1) :: us,[]⟩ (Value.ref (s.heap.objs.size + 1) :: (us ++ ds)) _ _ E (hr.make C us [])
  (I2.env0.make C us []) (hb _ (Value.ref (s.heap.objs.size + 1) :: us) I2.kIn hl) r2 hq) λr s' k8=>?_))
 cases r with
 | error e=>exact hx jy σ _ _ e s' I2 k8
 | ok fl =>
  cases fl with
  | ret u =>
   obtain ⟨v,H',I3,rv,ev,q3⟩:=I2.after k8;subst ev;exact ⟨rv,⟨V.ref (s.heap.objs.size + 1),H',I3,Z,q3⟩⟩
  | next=>exact False.elim k8
  | brk=>exact False.elim k8
  | cont=>exact False.elim k8
def We (M:Mk X.K C f) (F:FnOk X.prog X.w X.K X.mg X.base CX k f fd ps sp) (hr:Room (k + 1) X.A) (hg:Gl X x) (hm:X.mg x=some (.ref C)) (hb:Xe X.K fd ps ds) (hd:Vals ke ds) (hx:Jv CX X E)
  (ha:PA X (e :: es) t) (lg:(x == ("__debug__":Str))=false:=by decide) (he:starEach (e :: es) X.env=(false,eval e X.env) :: starEach es X.env:=by rfl) (k9:(backTo pos (starEach es X.env)).any (·.1)=false:=by rfl) :
  PE X (.Call (.Name x p) (e :: es) [] pos) (Zk0 C sp ke E t):=by
 intro jy s σ H Q I h;refine wpAny_Call_Name_kw (Xu I hg hm ?_ lg);refine PySem.W.callWith_K (h₀:=X.base) I.ok.mod.kin M.kp (thn (ha pos jy s σ H _ I h) λus s1 zz15=>?_) he k9;obtain ⟨vs,H1,I1,r,q⟩:=zz15;refine ⟨I1.kIn,?_⟩;exact Zha M F hr hb hd hx I1 r q
end
structure FnScope (N P:List Str) (sc:Scope):Prop where
 kind:sc.kind=.function
 co:sc.isCoroutine=false
 gen:sc.isGenerator=false
 nd:N.Nodup
 pre:N.take P.length=P
 par:∀ x∈P,sc.names.lookup x=some .local\/sc.names.lookup x=some .cell
 nofree:∀ y∈sc.names,y.2≠.free
def Am{N P:List Str}{sc:Scope}(a:sc.kind=.function:=by rfl)(b:sc.isCoroutine=false:=by rfl)(c:sc.isGenerator=false:=by rfl)(d:N.Nodup:=by decide +kernel)(e:N.take P.length=P:=by rfl)(f:∀ x∈P,sc.names.lookup x=some .local\/sc.names.lookup x=some .cell:=by decide +kernel)(g:∀ y∈sc.names,y.2≠.free:=by decide +kernel):FnScope N P sc:=⟨a,b,c,d,e,f,g⟩
theorem Fe {kindOf:Str->Option NameKind} {x:Str}:∀ {binds:List (Str × Value)} {m:Str->Option Value},(∀ v,(x,v) ∉ binds)->bindL kindOf binds m x=m x
 | [],_,_=>rfl
 | (n,v) :: r,m,h=>by
  unfold bindL;rw [Fe λw hw=>h w (List.mem_cons_of_mem _ hw)];split
  ·have:x≠n:=by rintro rfl; exact h v List.mem_cons_self
   simp [this]
  ·rfl
theorem Fg {kindOf:Str->Option NameKind} {x:Str}:∀ {binds:List (Str × Value)} {m:Str->Option Value},(∀ v,(x,v) ∉ binds)->bindC kindOf binds m x=m x
 | [],_,_=>rfl
 | (n,v) :: r,m,h=>by
  unfold bindC;rw [Fg λw hw=>h w (List.mem_cons_of_mem _ hw)];split
  ·rfl
  ·have:x≠n:=by rintro rfl; exact h v List.mem_cons_self
   simp [this]
theorem Ff {kindOf:Str->Option NameKind} {x:Str} {v:Value}:∀ {P:List Str} {vs:List Value} {i:Nat} {m:Str->Option Value},P.Nodup->P[i]?=some x->vs[i]?=some v->kindOf x=some .local ->
  bindL kindOf (P.zip vs) m x=some v
 | [],_,_,_,_,h,_,_=>by simp at h
 | _ :: _,[],_,_,_,_,h,_=>by simp at h
 | p :: P,w :: vs,0,m,nd,h1,h2,hk=>by
  simp at h1 h2; subst h1; subst h2;show bindL kindOf ((p,w) :: P.zip vs) m p=_;unfold bindL;rw [Fe λv hv=>(List.nodup_cons.mp nd).1 (List.of_mem_zip hv).1,if_pos hk];simp
 | p :: P,w :: vs,i + 1,m,nd,h1,h2,hk=>by
  show bindL kindOf ((p,w) :: P.zip vs) m x=_;unfold bindL;exact Ff (i:=i) (List.nodup_cons.mp nd).2 (by simpa using h1) (by simpa using h2) hk
theorem Fh {kindOf:Str->Option NameKind} {x:Str} {v:Value}:∀ {P:List Str} {vs:List Value} {i:Nat} {m:Str->Option Value},P.Nodup->P[i]?=some x->vs[i]?=some v->kindOf x≠some .local ->
  bindC kindOf (P.zip vs) m x=some v
 | [],_,_,_,_,h,_,_=>by simp at h
 | _ :: _,[],_,_,_,_,h,_=>by simp at h
 | p :: P,w :: vs,0,m,nd,h1,h2,hk=>by
  simp at h1 h2; subst h1; subst h2;show bindC kindOf ((p,w) :: P.zip vs) m p=_;unfold bindC;rw [Fg λv hv=>(List.nodup_cons.mp nd).1 (List.of_mem_zip hv).1,if_neg hk];simp
 | p :: P,w :: vs,i + 1,m,nd,h1,h2,hk=>by
  show bindC kindOf ((p,w) :: P.zip vs) m x=_;unfold bindC;exact Fh (i:=i) (List.nodup_cons.mp nd).2 (by simpa using h1) (by simpa using h2) hk
def X8 (N:List Str) (vs:List V):St:=vs.map some ++ List.replicate (N.length - vs.length) none
def cxOf (CX:CXT) (P:Program) (w:World) (K:W.Frag) (mg:Str->Option Value) (base:Heap) (N:List Str) (qual:Str) (scope:Scope) (f:Addr) (cd:Value) (A:Around) (outer:List Env) (s:Shared) (H:Hp) (E:XK):Cx where
 prog:=P
 w:=w
 K:=K
 mg:=mg
 base:=base
 A:=A.deeper (envOfC qual scope s.heap.objs.size f cd)
 N:=N
 s₀:=s
 H₀:=H
 env:=envOfC qual scope s.heap.objs.size f cd
 outer:=outer
 stack:=envOfC qual scope s.heap.objs.size f cd :: outer
 ex:=[]
 calm:=true
 fn:=λ_=>true
 pn:=[]
 xe:=λe s'=>wpAny (model P w) (A.deeper (envOfC qual scope s.heap.objs.size f cd)) (leaving (envOfC qual scope s.heap.objs.size f cd) e) (λ_ mr=>CX outer H s E e mr) (λe' mr=>CX outer H s E e' mr) s'
def Zby {sc:Scope} (h:sc.names.lookup x=some .cell):∃ c,(cellsFrom n sc.names []).lookup x=some c:=by
 have q:=PySem.W.cellsFrom_some sc.names n [] (.inl h);exact Option.isSome_iff_exists.mp q
def Zgd {CX:CXT} {P:Program} {w:World} {K:W.Frag} {mg:Str->Option Value} {base:Heap} {N ps:List Str} {qual:Str} {scope:Scope} {f:Addr} {cd:Value} {A:Around} {outer:List Env} {s s1:Shared} {H:Hp} {E:XK} {us:List Value} {vs:List V}
  (S:FnScope N ps scope) (hd:A.handled=none) (e0:Env0 P w K mg base A outer s H) (hl:vs.length=ps.length) (r:Vals vs us)
  (x:InCallC s s.heap.objs.size (bindL (envOfC qual scope s.heap.objs.size f cd).kindOf (ps.zip us) λ_=>none) (cellsFrom (s.heap.objs.size + 1) scope.names []) (bindC (envOfC qual scope s.heap.objs.size f cd).kindOf (ps.zip us) λ_=>none) s1) :
  Inv (cxOf CX P w K mg base N qual scope f cd A outer s H E) [] (X8 N vs) H s1:=by
 have k9:ps.length<=N.length:=by have:=congrArg List.length S.pre; rw [Ai] at this; lia
 obtain ⟨h1,tk,rfl,hk⟩:=x.done;have ut:∀ b:Addr,b ∉ (cxOf CX P w K mg base N qual scope f cd A outer s H E).ex:=λb z=>absurd (show b∈([]:List Addr) from z) (by simp);refine ⟨⟨e0.mod,S.kind,Z,Z,An _,λy z c h1 h2=>?_,λy hy=>?_,λy c _ h=>?_,λ_=>hd,Around.frames_deeper e0.frames,.inr ⟨Z,Z⟩,λb z=>absurd z (ut b),e0.bs,e0.bsz,λb _ _=>ut b,λb z=>absurd z (ut b),e0.funs,e0.frf⟩,
  rfl,e0.bare,Un.kept hk,⟨_,x.toInCall.ns,λi y v h1 h2 h3=>?_⟩,λy c h=>⟨_,x.cell y c h⟩,e0.hok.fresh (An _),λy c h=>?_,λp hp=>absurd (show p∈([]:List (Addr × Obj)) from hp) (by simp),e0.hok.kept hk,?_⟩
 ·exact name_of_addr x.apart (PySem.mem_of_lookup h1) (PySem.mem_of_lookup h2)
 ·have hy:scope.names.lookup y=some .cell\/scope.names.lookup y=some .free:=hy
  rcases hy with hy | hy
  ·exact Zby hy
  ·exact absurd Z (S.nofree _ (PySem.mem_of_lookup hy))
 ·exact Nat.le_of_lt (x.above y c (PySem.mem_of_lookup h))
 ·have hi:i < vs.length:=by
   unfold X8 at h2;by_cases hi:i < vs.length
   ·exact hi
   ·rw [List.getElem?_append_right (by simpa using hi)] at h2
    rw [List.getElem?_replicate] at h2;split at h2 <;> cases h2
  have ha:vs[i]?=some v:=by
   unfold X8 at h2;rw [Av (by simpa using hi),Ah] at h2
   cases e:vs[i]? with
   | none=>rw [e] at h2; cases h2
   | some a=>rw [e] at h2; cases h2; rfl
  obtain ⟨u,hu,rv⟩:=r.get ha;have hp:ps[i]?=some y:=by
   rw [<- S.pre,List.getElem?_take_of_lt (by lia)]; exact h1
  have ndP:ps.Nodup:=by rw [<- S.pre]; exact S.nd.sublist (List.take_sublist _ _)
  refine ⟨u,rv,?_⟩
  rcases S.par y (Au hp) with k | k
  ·exact .inl ⟨k,Ff ndP hp hu k⟩
  ·obtain ⟨c,e⟩:=Zby (n:=s.heap.objs.size + 1) k
   refine .inr ⟨.inl k,c,e,?_⟩;have q:=x.cell y c e;rw [Fh ndP hp hu (by show scope.names.lookup y≠_; rw [k]; decide)] at q;exact q
 ·exact e0.hok.fresh (Nat.le_of_lt (x.above y c (PySem.mem_of_lookup h)))
 ·unfold X8
  show _=N.length;rw [Ae,Ab,List.length_replicate];lia
def Zer {CX:CXT} {P:Program} {w:World} {K:W.Frag} {mg:Str->Option Value} {base:Heap} {k:Nat} {f:Addr} {name qual:Str} {params:Arguments} {body:List Stmt} {scope:Scope} {dV kV kf pm j9 ct oc:Value} {an od:Option Addr}
  {qa:Array (Option Value)} {N ps:List Str} {sp:Sp} (lk:K.lookup f=some ⟨oc,od,.func (PySem.W.fnOf name qual params body scope dV kV kf pm an j9 ct),qa⟩) (mz:PySem.W.codeIn K j9 qual=true) (S:FnScope N ps scope)
  (len:∀ vs H Q E,sp vs H Q E->vs.length=ps.length)
  (kl:∀ (A:Around) (outer:List Env) (s:Shared) (H:Hp) (vs:List V) (Q:VK) (E:XK),Room k (A.deeper (envOfC qual scope s.heap.objs.size f j9))->sp vs H Q E ->
   ∃ t,PSs (cxOf CX P w K mg base N qual scope f j9 A outer s H E) body t/\t { nx:=λ_ H'=>Q .non H',rt:=Q } (X8 N vs) H) :
  FnOk P w K mg base CX (k + 1) f (PySem.W.fnOf name qual params body scope dV kV kf pm an j9 ct) ps sp:=by
 refine ⟨len,λA outer s H args us vs Q E hr e0 hb r nj=>?_⟩;have hl:=len _ _ _ _ nj;have KX:K.In s.heap:=e0.mod.kin.keeps λb o e=>(e0.bs b o e).1;have lim:s.heap.NoLimit:=e0.mod.nolimit.keeps λb o e=>(e0.bs b o e).1;have wc:∀ y∈ps.zip us,scope.names.lookup y.1=some .local\/(scope.names.lookup y.1=some .cell/\((cellsFrom (s.heap.objs.size + 1) scope.names []).lookup y.1).isSome=true):=λ⟨n,v⟩ hy=>by
  rcases S.par n (List.of_mem_zip hy).1 with q | q
  ·exact .inl q
  ·exact .inr ⟨q,PySem.W.cellsFrom_some _ _ _ (.inl q)⟩
 refine codeAny_call_function hr.depth (KX _ _ lk) Z S.co S.gen Z (PySem.W.codeRec_of KX mz) (hb _ _ _ _ ?_);refine wpAny_newFunctionEnv_cells S.kind wc λenv he s1 x=>?_;subst he;refine ⟨lim.keeps x.toInCall.keep,codeAny_func ?_⟩;obtain ⟨t,ht,hq⟩:=kl A outer s H vs Q E (hr.deeper _) nj;have I:Inv (cxOf CX P w K mg base N qual scope f j9 A outer s H E) [] (X8 N vs) H s1:=Zgd S hr.hd e0 hl r x;refine wpAny_mono (ht [] s1 (X8 N vs) H _ I hq) (λfl s' hs=>?_) λe s' hs=>hs;have k7:∀ {σ':St} {H':Hp} {v:V} {u:Value},Inv (cxOf CX P w K mg base N qual scope f j9 A outer s H E) [] σ' H' s'->RelV v u->Q v H'->CE outer P w H s Q u s' :=
  λ{σ' H' v u} J rv q=>⟨v,H',J.os,J.bare,J.base,J.hok,rv,q⟩
 cases fl with
 | ret u =>
  obtain ⟨v,σ',H',J,rv,q⟩:=hs;exact k7 J rv q
 | next =>
  obtain ⟨σ',H',J,q⟩:=hs;exact k7 (v:=V.non) (u:=Value.none) J Z q
 | brk =>
  obtain ⟨_,_,_,q⟩:=hs;exact False.elim q
 | cont =>
  obtain ⟨_,_,_,q⟩:=hs;exact False.elim q
section
variable {X:Cx} {x:Str} {p pos:Pos} {e:Expr} {es:List Expr} {t:TA} {id T:String} {r:List V->Hp->VK->Prop}
def tCB (r:List V->Hp->VK->Prop) (t:TA):TE:=λσ H Q=>t σ H λvs H1=>r vs H1 Q
def Zs (hc:Y7 X (.builtin id) r) (hg:Gl X x) (hm:X.mg x=none) (hv:bootBuiltins x=some (.builtin id)) (ha:PA X (e :: es) t) (hn:x≠"__name__":=by decide) (lg:(x == ("__debug__":Str))=false:=by decide)
  (he:starEach (e :: es) X.env=(false,eval e X.env) :: starEach es X.env:=by rfl) (k9:(backTo pos (starEach es X.env)).any (·.1)=false:=by rfl):PE X (.Call (.Name x p) (e :: es) [] pos) (tCB r t):=by
 intro jy s σ H Q I h;refine wpAny_Call_Name_kw (Jt I hg hm hv ?_ hn lg);refine PyProof.Rows.callWith_builtin1 (thn (ha pos jy s σ H _ I h) λus s1 zz16=>?_) he k9;obtain ⟨vs,H1,I1,r1,q1⟩:=zz16;exact hc jy s1 σ H1 vs us Q I1 r1 q1
def Wf (hc:Y7 X (.type T) r) (hg:Gl X x) (hm:X.mg x=none) (hv:bootBuiltins x=some (.type T)) (ha:PA X (e :: es) t) (hn:x≠"__name__":=by decide) (lg:(x == ("__debug__":Str))=false:=by decide)
  (he:starEach (e :: es) X.env=(false,eval e X.env) :: starEach es X.env:=by rfl) (k9:(backTo pos (starEach es X.env)).any (·.1)=false:=by rfl):PE X (.Call (.Name x p) (e :: es) [] pos) (tCB r t):=by
 intro jy s σ H Q I h;refine wpAny_Call_Name_kw (Jt I hg hm hv ?_ hn lg);refine PyProof.Rows.callWith_type1 (thn (ha pos jy s σ H _ I h) λus s1 zz17=>?_) he k9;obtain ⟨vs,H1,I1,r1,q1⟩:=zz17;exact hc jy s1 σ H1 vs us Q I1 r1 q1
end
end L2
namespace HT
open PySem PyProof.Rows
section
variable {prog:Program} {w:World} {A:Around} {E:Value->Shared->Prop} {s:Shared}
def sIx (n d:Nat):Option Int->Nat
 | none=>d
 | some v=>if v < 0 then (v + (n:Int)).toNat else min v.toNat n
def sIx_none (n d:Nat):sIx n d none=d:=rfl
def sIx_nat (n d k:Nat):sIx n d (some (k:Int))=min k n:=by
 show (if (k:Int) < 0 then ((k:Int) + (n:Int)).toNat else min (k:Int).toNat n)=min k n;rw [if_neg (by lia),Int.toNat_natCast]
end
end HT
namespace L2
open PySem PySem.Spec PyProof.Rows
abbrev TO:=St->Hp->(Option Int->Hp->Prop)->Prop
def PO (X:Cx) (e:Option Expr) (t:TO):Prop :=
 ∀ (jy:List (Addr × Obj)) (s:Shared) (σ:St) (H:Hp) (Q:Option Int->Hp->Prop),Inv X jy σ H s->t σ H Q ->
  wpAny (model X.prog X.w) X.A (evalPart e X.env) (λu s'=>∃ o H',Inv X jy σ H' s'/\IsPart u o/\Q o H') X.xe s
def Zig:TO:=λ_ H Q=>Q none H
def Zkz (t:TE):TO:=λσ H Q=>t σ H λx H1=>∃ i,x=.int i/\Q (some i) H1
def Ko {ns:List Int}:∀ {us:List Value},Vals (ns.map V.int) us->IntsAre us ns:=by
 induction ns with
 | nil=>intro us r; rw [List.map_nil] at r; cases r; exact .nil
 | cons n ns ih =>
  intro us r;rw [List.map_cons] at r
  cases r with
  | cons r1 r2 =>
   obtain ⟨t,e⟩:=r1;subst e;exact .cons n t (ih r2)
section
variable {X:Cx} {e:Expr} {te:TE} {lo hi:Option Expr} {tl th:TO} {pos p2:Pos}
def Zc6:PO X none Zig:=by
 intro jy s σ H Q I h;rw [evalPart_none];exact wpAny_pure ⟨none,H,I,.none,h⟩
def Zc5 (h:PE X e te):PO X (some e) (Zkz te):=by
 intro jy s σ H Q I hw;rw [evalPart_some];refine thn (h jy s σ H _ I hw) λu s1 j4=>?_;obtain ⟨x,H1,I1,r1,q1⟩:=j4;obtain ⟨i,rfl,q⟩:=q1;obtain ⟨t,rfl⟩:=r1;exact ⟨some i,H1,I1,.int i t,q⟩
def SlR (X:Cx) (r:V->Option Int->Option Int->Hp->VK->Prop):Prop :=
 ∀ (jy:List (Addr × Obj)) (s:Shared) (σ:St) (H:Hp) (x:V) (v vl vu:Value) (lo hi:Option Int) (sl:Addr) (Q:VK),Inv X jy σ H s->RelV x v->s.heap.IsSliceOf sl vl vu .none->IsPart vl lo->IsPart vu hi->r x lo hi H Q ->
  ∃ T id,typeLookup (.type T) "__getitem__"=pure (some (.builtin id))/\s.TypeIs v T/\wpAny (model X.prog X.w) X.A (getItem v (.ref sl)) (EP X jy σ Q) X.xe s
def tSl (r:V->Option Int->Option Int->Hp->VK->Prop) (te:TE) (tl th:TO):TE:=λσ H Q=>te σ H λx H1=>tl σ H1 λl H2=>th σ H2 λu H3=>r x l u H3 Q
def Zbe (hr:SlR X r) (he:PE X e te) (hl:PO X lo tl) (hu:PO X hi th):PE X (.Subscript e (.Slice lo hi none p2) pos) (tSl r te tl th):=by
 intro jy s σ H Q I h;refine Subscript_ (thn (he jy s σ H _ I h) λv s1 j4=>?_);obtain ⟨x,H1,I1,r1,q1⟩:=j4;refine wpAny_Slice (thn (hl jy s1 σ H1 _ I1 q1) λvl s2 zz18=>?_);obtain ⟨l,H2,I2,pl,q2⟩:=zz18;refine thn (hu jy s2 σ H2 _ I2 q2) λvu s3 j4=>?_;obtain ⟨u,H3,I3,pu,q3⟩:=j4;rw [evalPart_none];refine wpAny_pure ?_;have I4:Inv X jy σ H3 { s3 with heap:=s3.heap.push { cls:=.type "slice",data:=.fields #[vl,vu,.none] } }:=I3.kept (t':=s3.toks) λb ob q=>Ak _ q;obtain ⟨T,id,hT,ht,hg⟩:=hr jy { s3 with heap:=s3.heap.push { cls:=.type "slice",data:=.fields #[vl,vu,.none] } } σ H3 x v vl vu l u s3.heap.objs.size Q I4 r1 (Heap.IsSliceOf.new ..) pl pu q3;show wpAny (model X.prog X.w) X.A (subscriptTail e (.Slice lo hi none p2) v (.ref s3.heap.objs.size)) (EP X jy σ Q) X.xe { s3 with heap:=s3.heap.push { cls:=.type "slice",data:=.fields #[vl,vu,.none] } };exact tail_any (ops:=[.ref s3.heap.objs.size,v]) ht hT hg (by with_unfolding_all rfl)
def cutV (xs:List V) (lo hi:Option Int):List V:=(xs.drop (HT.sIx xs.length 0 lo)).take (HT.sIx xs.length xs.length hi - HT.sIx xs.length 0 lo)
def Zcu (xs:List V) (lo hi:Option Int):(cutV xs lo hi).length<=xs.length:=by
 unfold cutV;rw [Ai,List.length_drop];lia
end
def ixN (n:Nat) (i:Int):Option Nat:=if 0<=i then (if i < n then some i.toNat else none) else if -(n:Int)<=i then some (i + n).toNat else none
def atI {α:Type} (xs:List α) (i:Int):Option α:=(ixN xs.length i).bind λj=>xs[j]?
def Zdc (h:ixN n i=some j):seqIndex? i n=some j/\j < n/\-(n:Int)<=i/\i < n:=by
 unfold ixN at h;by_cases h0:0<=i
 ·rw [if_pos h0] at h
  by_cases h1:i < n
  ·rw [if_pos h1] at h
   have e:i.toNat=j:=Ax h;exact ⟨by rw [seqIndex_of h0 h1,e],by lia,by lia,h1⟩
  ·rw [if_neg h1] at h; cases h
 ·rw [if_neg h0] at h
  by_cases h1:-(n:Int)<=i
  ·rw [if_pos h1] at h
   have e:(i + n).toNat=j:=Ax h;exact ⟨by rw [seqIndex_neg (by lia) h1,e],by lia,h1,by lia⟩
  ·rw [if_neg h1] at h; cases h
def Zje {α:Type} {xs:List α} {i:Int} {v:α} (h:atI xs i=some v):∃ j,seqIndex? i xs.length=some j/\xs[j]?=some v/\j < xs.length/\-(xs.length:Int)<=i/\i < xs.length:=by
 unfold atI at h
 cases e:ixN xs.length i with
 | none=>rw [e] at h; cases h
 | some j =>
  rw [e] at h;obtain ⟨h1,h2,h3,h4⟩:=Zdc e;exact ⟨j,h1,h,h2,h3,h4⟩
def Gk {α:Type} {xs:List α} {j:Nat} {v:α} (h:xs[j]?=some v):atI xs (j:Int)=some v:=by
 have hj:j < xs.length:=(Aa h).1;have e:ixN xs.length (j:Int)=some j:=by
  unfold ixN
  rw [if_pos (by lia),if_pos (by lia)]; simp
 unfold atI; rw [e]; exact h
def Zjh (b:Expr):Prop:=∀ o i,subscripted b false o i=operate [o,i] (getItem o i)
def IxR (X:Cx) (r:R2):Prop :=
 ∀ (value lf:Expr) (jy:List (Addr × Obj)) (s:Shared) (σ:St) (H:Hp) (x y:V) (v u:Value) (Q:VK),Inv X jy σ H s->RelV x v->RelV y u->r x y H Q ->
  subscripted lf false v u=operate [v,u] (getItem v u)->wpAny (model X.prog X.w) X.A (subscriptTail value lf v u) (EP X jy σ Q) X.xe s
def MtR (X:Cx) (id:String) (r:V->List V->Hp->VK->Prop):Prop :=
 ∀ (jy:List (Addr × Obj)) (s:Shared) (σ:St) (H:Hp) (x:V) (xs:List V) (v:Value) (us:List Value) (Q:VK),Inv X jy σ H s->RelV x v->Vals xs us->r x xs H Q ->
  wpAny (model X.prog X.w) X.A (call (.builtin id) (v :: us)) (EP X jy σ Q) X.xe s
section
variable {X:Cx} {a b:Expr} {ta tb:TE} {pos:Pos}
def X3 (hr:IxR X r) (ha:PE X a ta) (hb:PE X b tb) (hs:Zjh b):PE X (.Subscript a b pos) (tOp r ta tb):=by
 intro jy s σ H Q I h;exact Subscript_ (binT ha hb I h λv u s2 x y H2 I2 rx ry q=>hr a b jy s2 σ H2 x y v u Q I2 rx ry q (hs _ _))
def rIxL (K:W.Frag):R2:=λx y H Q=>∃ p xs i v,x=.ref p/\y=.int i/\SqL K H p xs/\atI xs i=some v/\Q v H
def Y9:IxR X (rIxL X.K):=by
 intro value lf jy s σ H x y v u Q I rx ry h hs;obtain ⟨p,xs,i,z,rfl,rfl,hq,he,q⟩:=h;cases rx;obtain ⟨t,rfl⟩:=ry;obtain ⟨its,r,pl,hz⟩:=I.list hq;obtain ⟨j,h1,h2,h3,h4,h5⟩:=Zje he;obtain ⟨w,ew,oz⟩:=r.get h2;have hl:=r.length;have hn:=Vw;have k7:EP X jy σ Q w s:=⟨z,H,I,oz,q⟩;by_cases h0:0<=i
 ·have hj:i.toNat=j:=by
   rw [seqIndex_of h0 h5] at h1;exact Ax h1
  exact item_listR pl.isList h0 (by lia) (by rw [hj]; simpa using ew) k7 hs
 ·have hj:(i + (its.toArray.size:Int)).toNat=j:=by
   rw [seqIndex_neg (by lia) h4] at h1;rw [Aq,<- hl];exact Ax h1
  exact subscriptTail_builtinR (x:=w) pl.isList.typeIs slot_list_getitem.lookup
   (wpAny_getItem_list_neg (Q:=λr s'=>r=w/\EP X jy σ Q r s') pl.isList (by lia) (by rw [Aq] <;> lia) (by lia) (by rw [hj]; simpa using ew) ⟨rfl,k7⟩) hs
def Zej (its:List Value) (n j:Nat) (u:Value):Obj.mapSeq (·.setIfInBounds j u) { cls:=.type "list",data:=.seq its.toArray n }={ cls:=.type "list",data:=.seq (its.set j u).toArray n }:=by
 simp [Obj.mapSeq]
def Inv.lst {s:Shared} {xs:List V} (I:Inv X jy σ H s) (h:H p=some (.lst xs)) :
  ∃ (its:List Value) (n:Nat),Vals xs its/\s.heap.get? p=some { cls:=.type "list",data:=.seq its.toArray n }/\xs.length<=sizeLine:=by
 obtain ⟨z,its,n,r,e⟩:=I.hok p _ h;exact ⟨its,n,r,e,z⟩
def Inv.lstUpd {s:Shared} {ys:List V} {its its':List Value} (I:Inv X jy σ H s) (h:H p=some (.lst xs))
  (ho:s.heap.get? p=some { cls:=.type "list",data:=.seq its.toArray n }) (hf:f { cls:=.type "list",data:=.seq its.toArray n }={ cls:=.type "list",data:=.seq its'.toArray n' }) (r:Vals ys its') (hz:ys.length<=sizeLine) (t:Nat) :
  Inv X jy σ (upd H p (.lst ys)) { s with heap:=s.heap.update p f,toks:=t }:=by
 have e:(s.heap.update p f).get? p=some { cls:=.type "list",data:=.seq its'.toArray n' }:=by
  rw [Heap.get?_update_self f ho (by rw [hf] <;> rfl),hf]
 refine I.write (x:=p) (e:=p) (by rw [h]; trivial) (.inl rfl) (λb u hb q=>(Heap.get?_update_other _ _ (Ne.symm hb)).trans q) ⟨_,e⟩ ?_;exact ⟨hz,its',n',r,e⟩
def Zld:V->V->V->Hp->(Hp->Prop)->Prop:=λo i v H Q=>∃ p xs k j,o=.ref p/\i=.int k/\H p=some (.lst xs)/\ixN xs.length k=some j/\Q (upd H p (.lst (xs.set j v)))
def Zak:PSet X Zld:=by
 intro jy s σ H o i v ov iv u Q I ro ri rv h;obtain ⟨p,xs,k,j,rfl,rfl,hp,hj,q⟩:=h;cases ro;obtain ⟨t,rfl⟩:=ri;obtain ⟨its,n,r,ho,hz⟩:=I.lst hp;obtain ⟨h1,h2,h3,h4⟩:=Zdc hj;have hl:=r.length;have hn:=Vw;have I':Inv X jy σ (upd H p (.lst (xs.set j v))) { s with heap:=s.heap.update p (Obj.mapSeq (·.setIfInBounds j u)) } :=
  I.lstUpd hp ho (Zej its n j u) (r.set rv j) (by rw [List.length_set]; exact hz) s.toks
 by_cases h0:0<=k
 ·have hk:k.toNat=j:=by
   rw [seqIndex_of h0 h4] at h1;exact Ax h1
  exact PySem.W.ki_setAt ho h0 (by lia) (by rw [Aq,<- hl]; exact h4) (by rw [hk]; exact ⟨_,I',q⟩)
 ·have hk:(k + (its.toArray.size:Int)).toNat=j:=by
   rw [seqIndex_neg (by lia) h3] at h1;rw [Aq,<- hl];exact Ax h1
  exact PySem.W.ki_setBack ho (by lia) (by rw [Aq,<- hl]; exact h3) (by lia) (by rw [hk]; exact ⟨_,I',q⟩)
def Zaj (lo hi:Option Int) (n:Nat):(sliceBounds lo hi none n).1=((HT.sIx n 0 lo:Nat):Int)/\(sliceBounds lo hi none n).2.1=((HT.sIx n n hi:Nat):Int)/\(sliceBounds lo hi none n).2.2=1:=by
 refine ⟨?_,?_,Z⟩
 ·cases lo with
  | none=>simp [sliceBounds,HT.sIx]
  | some i =>
   simp only [sliceBounds,HT.sIx,Option.getD_none,show (1:Int) > 0 by decide,if_true];by_cases h:i < 0
   ·simp only [h,if_true] <;> lia
   ·simp only [h,if_false] <;> lia
 ·cases hi with
  | none=>simp [sliceBounds,HT.sIx]
  | some i =>
   simp only [sliceBounds,HT.sIx,Option.getD_none,show (1:Int) > 0 by decide,if_true];by_cases h:i < 0
   ·simp only [h,if_true] <;> lia
   ·simp only [h,if_false] <;> lia
def Fo (its:List Value) (lo hi:Option Int):slicePick its.toArray lo hi none=((its.drop (HT.sIx its.length 0 lo)).take (HT.sIx its.length its.length hi - HT.sIx its.length 0 lo)).toArray:=by
 obtain ⟨h1,h2,h3⟩:=Zaj lo hi its.toArray.size;unfold slicePick;rw [h1,h2,h3];simp only [sliceRange_one,pick_run,Aq] <;> rfl
def rSlL (K:W.Frag):V->Option Int->Option Int->Hp->VK->Prop:=λx lo hi H Q=>∃ a xs,x=.ref a/\SqL K H a xs/\∀ p,H p=none->Q (.ref p) (upd H p (.lst (cutV xs lo hi)))
def Zcz:SlR X (rSlL X.K):=by
 intro jy s σ H x v vl vu lo hi sl Q I rx hs pl pu h;obtain ⟨a,xs,rfl,hx,q⟩:=h;cases rx;obtain ⟨its,r,ht,hz⟩:=I.list hx;have jz:=r.length;refine ⟨"list",_,slot_list_getitem.lookup,ht.isList.typeIs,?_⟩;refine wpAny_getItem_list_slice ht.isList hs pl pu .none (by simp) ?_ (by rw [Aq] <;> lia);rw [Fo,<- jz];refine ⟨.ref s.heap.objs.size,_,I.laid (t':=s.toks) (o:=.lst (cutV xs lo hi)) (λb ob q=>Ak _ q) (An _) ?_,Z,q _ (I.hok.fresh (An _))⟩;exact ⟨Nat.le_trans (Zcu xs lo hi) hz,_,0,(r.drop (HT.sIx xs.length 0 lo)).take (HT.sIx xs.length xs.length hi - HT.sIx xs.length 0 lo),Ap _ Z⟩
def J7:V->Bool
 | .non=>true
 | .bl _=>true
 | .int _=>true
 | .str _=>true
 | _=>false
def eqV:V->V->Bool
 | .non,.non=>true
 | .bl a,.bl b=>a == b
 | .bl a,.int b=>(if a then 1 else 0) == b
 | .int a,.bl b=>a == (if b then 1 else 0)
 | .int a,.int b=>a == b
 | .str a,.str b=>a == b
 | _,_=>false
def Zkl {A:Around} {s:Shared} {y x:V} {u v:Value} (ry:RelV y u) (rx:RelV x v) (fy:J7 y=true) (fx:J7 x=true):SeqAt.EqAt A s u v (eqV y x):=by
 cases y with
 | non =>
  cases ry
  cases x with
  | non=>cases rx; exact SeqAt.EqAt.same _
  | bl b=>cases rx; exact SeqAt.EqAt.none_bool b
  | int b=>obtain ⟨t,rfl⟩:=rx; exact SeqAt.EqAt.none_int b t
  | str b=>obtain ⟨t,rfl⟩:=rx; exact SeqAt.EqAt.none_str b t
  | _=>exact absurd (show false=true from fx) Bool.false_ne_true
 | bl a =>
  cases ry
  cases x with
  | non=>cases rx; exact SeqAt.EqAt.bool_none a
  | bl b=>cases rx; exact SeqAt.EqAt.bool_bool a b
  | int b=>obtain ⟨t,rfl⟩:=rx; exact SeqAt.EqAt.bool_int a b t
  | str b=>obtain ⟨t,rfl⟩:=rx; exact SeqAt.EqAt.bool_str a b t
  | _=>exact absurd (show false=true from fx) Bool.false_ne_true
 | int a =>
  obtain ⟨t',rfl⟩:=ry
  cases x with
  | non=>cases rx; exact SeqAt.EqAt.int_none a t'
  | bl b=>cases rx; exact SeqAt.EqAt.int_bool a t' b
  | int b=>obtain ⟨t,rfl⟩:=rx; exact SeqAt.EqAt.int_int a t' b t
  | str b=>obtain ⟨t,rfl⟩:=rx; exact SeqAt.EqAt.int_str a t' b t
  | _=>exact absurd (show false=true from fx) Bool.false_ne_true
 | str a =>
  obtain ⟨t',rfl⟩:=ry
  cases x with
  | non=>cases rx; exact SeqAt.EqAt.str_none a t'
  | bl b=>cases rx; exact SeqAt.EqAt.str_bool a t' b
  | int b=>obtain ⟨t,rfl⟩:=rx; exact SeqAt.EqAt.str_int a t' b t
  | str b=>obtain ⟨t,rfl⟩:=rx; exact SeqAt.EqAt.str_str a t' b t
  | _=>exact absurd (show false=true from fx) Bool.false_ne_true
 | _=>exact absurd (show false=true from fy) Bool.false_ne_true
def eqU (x:V) (u:Value):Bool:=match u with
 | .none=>eqV .non x
 | .bool b=>eqV (.bl b) x
 | .int i _=>eqV (.int i) x
 | .str z _=>eqV (.str z) x
 | _=>false
def Zgk {x y:V} {u:Value} (r:RelV y u) (f:J7 y=true):eqU x u=eqV y x:=by
 cases y with
 | non=>cases r; rfl
 | bl b=>cases r; rfl
 | int i=>obtain ⟨t,rfl⟩:=r; rfl
 | str z=>obtain ⟨t,rfl⟩:=r; rfl
 | _=>exact absurd (show false=true from f) Bool.false_ne_true
theorem Gm {x:V}:∀ {xs:List V} {us:List Value},Vals xs us->xs.all J7=true->us.any (eqU x)=xs.any λy=>eqV y x
 | _,_,.nil,_=>rfl
 | y :: xs,u :: us,.cons r t,f=>by
  rw [List.all_cons,Bool.and_eq_true] at f;rw [List.any_cons,List.any_cons,Zgk r f.1,Gm t f.2]
theorem Og {A:Around} {s:Shared} {x:V} {v:Value} (rx:RelV x v) (fx:J7 x=true):∀ {xs:List V} {us:List Value},Vals xs us->xs.all J7=true->∀ u∈us,SeqAt.EqAt A s u v (eqU x u)
 | _,_,.nil,_=>λu hu=>by cases hu
 | y :: xs,u :: us,.cons r t,f=>λu' hu=>by
  rw [List.all_cons,Bool.and_eq_true] at f
  rcases Ar hu with rfl | hu
  ·rw [Zgk r f.1]; exact Zkl r rx f.1 fx
  ·exact Og rx fx t f.2 u' hu
def inV (x:V) (xs:List V):Bool:=xs.any λy=>eqV y x
def rIn (K:W.Frag) (neg:Bool):R2:=λx y H Q=>∃ p xs,y=.ref p/\(SqL K H p xs\/SqT K H p xs)/\J7 x=true/\xs.all J7=true/\Q (.bl (if neg then !inV x xs else inV x xs)) H
def Zf1:OpR X (compareOp .In) (rIn X.K false):=by
 intro jy s σ H x y v u Q I rx ry h;obtain ⟨p,xs,rfl,hq,fx,fs,q⟩:=h;cases ry
 rcases hq with hq | hq
 ·obtain ⟨its,r,pl,hz⟩:=I.list hq
  refine SeqAt.in_listAt (eqU x) pl.isList (λw hw=>Og rx fx r fs w (by simpa using hw)) ⟨.bl _,H,I,Z,?_⟩;rw [show its.toArray.any (eqU x)=its.any (eqU x) by simp,Gm r fs];exact q
 ·obtain ⟨its,r,pl,hz⟩:=I.tuple hq
  refine SeqAt.in_tupleAt (eqU x) pl (λw hw=>Og rx fx r fs w (by simpa using hw)) ⟨.bl _,H,I,Z,?_⟩;rw [show its.toArray.any (eqU x)=its.any (eqU x) by simp,Gm r fs];exact q
def Yl:Y7 X (.builtin "len") (λxs H Q=>∃ p ys,xs=[.ref p]/\(SqL X.K H p ys\/SqT X.K H p ys)/\Q (.int ys.length) H):=by
 intro jy s σ H xs us Q I r h;obtain ⟨p,ys,rfl,hq,q⟩:=h;obtain ⟨u,rfl,rx⟩:=Xk r;cases rx;have hn:=Vw
 rcases hq with hq | hq
 ·obtain ⟨its,r',pl,hz⟩:=I.list hq
  have jz:=r'.length;exact Calls.call_len_list pl.isList (by simp only [Aq] <;> lia) ⟨.int ys.length,H,I.tok _,⟨s.toks + 1,by rw [Aq,jz]⟩,q⟩
 ·obtain ⟨its,r',pl,hz⟩:=I.tuple hq
  have jz:=r'.length;exact len_tuple pl (by simp only [Aq] <;> lia) ⟨.int ys.length,H,I.tok _,⟨s.toks + 1,by rw [Aq,jz]⟩,q⟩
def Zb0:Y7 X (.builtin "len") (λxs H Q=>∃ z,xs=[.str z]/\z.length<=sizeLine/\Q (.int z.length) H):=by
 intro jy s σ H xs us Q I r h;obtain ⟨z,rfl,hz,q⟩:=h;obtain ⟨u,rfl,t,rfl⟩:=Xk r;have hn:=Vw;exact len_str (by lia) ⟨.int z.length,H,I.tok _,⟨_,Z⟩,q⟩
def V0:Y7 X (.type "list") (λxs H Q=>∃ p ys,xs=[.ref p]/\(SqL X.K H p ys\/SqT X.K H p ys)/\∀ l,H l=none->Q (.ref l) (upd H l (.lst ys))):=by
 intro jy s σ H xs us Q I r h;obtain ⟨p,ys,rfl,hq,q⟩:=h;obtain ⟨u,rfl,rx⟩:=Xk r;cases rx;have k7:∀ (its:List Value),Vals ys its->ys.length<=sizeLine->∀ (h':Heap) (c':Nat),(∀ b o',s.heap.get? b=some o'->h'.get? b=some o') ->
   h'.get? s.heap.objs.size=some { cls:=.type "list",dict:=none,data:=.seq its.toArray c',slots:=#[] }->EP X jy σ Q (.ref s.heap.objs.size) { s with heap:=h' }:=λits r' hz h' c' kp e =>
  ⟨.ref s.heap.objs.size,_,I.laid (t':=s.toks) kp (An _) (show Ya X.prog X.w _ h' _ (.lst ys) from ⟨hz,its,c',r',e⟩),rfl,q _ (I.hok.fresh (An _))⟩
 rcases hq with hq | hq
 ·obtain ⟨its,r',pl,hz⟩:=I.list hq
  have jz:=r'.length;obtain ⟨o,ho,hc,n,hd⟩:=pl.isList;exact call_list_seq p (.inl Z) ho hc hd (λh' c' kp e=>k7 its r' hz h' c' kp e) (by simp only [Aq] <;> lia)
 ·obtain ⟨its,r',pl,hz⟩:=I.tuple hq
  have jz:=r'.length;obtain ⟨o,ho,hc,n,hd⟩:=pl;exact call_list_seq p (.inr Z) ho hc hd (λh' c' kp e=>k7 its r' hz h' c' kp e) (by simp only [Aq] <;> lia)
def Fy:Y7 X (.type "tuple") (λxs H Q=>∃ p ys,xs=[.ref p]/\((SqL X.K H p ys/\∀ l,H l=none->Q (.ref l) (upd H l (.tup ys)))\/(SqT X.K H p ys/\Q (.ref p) H))):=by
 intro jy s σ H xs us Q I r h;obtain ⟨p,ys,rfl,h⟩:=h;obtain ⟨u,rfl,rx⟩:=Xk r;cases rx
 rcases h with ⟨hq,q⟩ | ⟨hq,q⟩
 ·obtain ⟨its,r',pl,hz⟩:=I.list hq
  have jz:=r'.length;refine call_tuple_list pl.isList (λh' kp=>?_) (by simp only [Aq] <;> lia);have I1:Inv X jy σ H { s with heap:=h' }:=I.kept (t':=s.toks) kp;have I2:Inv X jy σ (upd H h'.objs.size (.tup ys)) { s with heap:=h'.push { cls:=.type "tuple",data:=.seq its.toArray } } :=
   I1.laid (t':=s.toks) (λb o e=>Ak _ e) (An _) (show Ya X.prog X.w _ _ _ (.tup ys) from ⟨hz,its,r',IsTup.new _ _⟩)
  exact ⟨.ref h'.objs.size,_,I2,Z,q _ (I1.hok.fresh (An _))⟩
 ·obtain ⟨its,r',pl,hz⟩:=I.tuple hq
  exact call_tuple_same pl ⟨.ref p,H,I,Z,q⟩
def tyV (K:W.Frag) (T:String) (x:V) (H:Hp):Prop:=match x with
 | .str _=>T="str"
 | .int _=>T="int"
 | .ref p=>(T="list"/\∃ xs,SqL K H p xs)\/(T="tuple"/\∃ o,K.lookup p=some o/\o.cls=.type "tuple"/\o.dict=none) \/
   (T="dict"/\((∃ kvs,H p=some (.dK kvs))\/∃ kvs,H p=some (.dT kvs)))\/(T="set"/\∃ S n,H p=some (.set S n))
 | _=>False
def Zex {s:Shared} (I:Inv X jy σ H s) (r:RelV x v) (ty:tyV X.K T x H) :
  s.TypeIs v T/\∀ a,v=.ref a->∃ ob,s.heap.get? a=some ob/\ob.dict=none:=by
 cases x with
 | str z =>
  obtain ⟨t,rfl⟩:=r;cases (show T="str" from ty);exact ⟨typeIs_str s z t,λ_ e=>nomatch e⟩
 | int i =>
  obtain ⟨t,rfl⟩:=r;cases (show T="int" from ty);exact ⟨typeIs_int s i t,λ_ e=>nomatch e⟩
 | ref p =>
  cases r
  rcases ty with ⟨rfl,xs,hq⟩ | ⟨rfl,o,hk,hc,hd⟩ | ⟨rfl,hk⟩ | ⟨rfl,S,n,hk⟩
  ·obtain ⟨its,_,pl,_⟩:=I.list hq
   refine ⟨pl.isList.typeIs,λa e=>?_⟩;cases e;obtain ⟨o,n,e,c,hd,_⟩:=pl;exact ⟨o,e,hd⟩
  ·refine ⟨⟨o,I.kIn p o hk,hc⟩,λa e=>?_⟩
   cases e;exact ⟨o,I.kIn _ o hk,hd⟩
  ·have z:∃ o,s.heap.get? p=some o/\o.ExactDict:=by
    rcases hk with ⟨kvs,hk⟩ | ⟨kvs,hk⟩
    ·obtain ⟨_,_,_,_,o,_,_,e,ex,_⟩:=I.hok p _ hk
     exact ⟨o,e,ex⟩
    ·obtain ⟨_,_,_,_,o,_,_,e,ex,_⟩:=I.hok p _ hk
     exact ⟨o,e,ex⟩
   obtain ⟨o,e,ex⟩:=z;refine ⟨⟨o,e,ex.1⟩,λa e2=>?_⟩;cases e2;exact ⟨o,e,ex.2.1⟩
  ·obtain ⟨o,_,_,_,e,ex,_⟩:=I.hok p _ hk
   refine ⟨⟨o,e,ex.1⟩,λa e2=>?_⟩;cases e2;exact ⟨o,e,ex.2.1⟩
 | _=>exact False.elim ty
def tBM (K:W.Frag) (T:String) (r:V->List V->Hp->VK->Prop) (to:TE) (t:TA):TE:=λσ H Q=>to σ H λx H1=>tyV K T x H1/\t σ H1 λxs H2=>r x xs H2 Q
variable {o e:Expr} {es:List Expr} {to:TE} {t:TA} {name:Str} {j7 j6:Pos} {T id:String} {r:V->List V->Hp->VK->Prop}
def Qp (pa:PlainAttrs T) (slot:Slot T name id) (uz:typeOf (.builtin id)=pure (.type "method_descriptor")) (hm:MtR X id r) (ho:PE X o to) (ha:PA X (e :: es) t)
  (p4:attributeBase o name X.env (eval o X.env)=eval o X.env:=by rfl)
  (tj:((backTo j6 (starEach (e :: es) X.env)).all (λx=>!x.1) && (backToKw j6 (keywordEach [] X.env)).all (λx=>x.1.isSome)
   && decide ((e :: es).length + ([]:List Keyword).length + (if ([]:List Keyword).isEmpty then 0 else 1) < 30))=true:=by rfl)
  (pz:(j7.endLine == j6.line)=true:=by rfl) (hs:starEach (e :: es) X.env=(false,eval e X.env) :: starEach es X.env:=by rfl) (t7:(backTo j6 (starEach es X.env)).any (·.1)=false:=by rfl) :
  PE X (.Call (.Attribute o name j7) (e :: es) [] j6) (tBM X.K T r to t):=by
 intro jy s σ H Q I h;refine wpAny_Call_method_late p4 tj pz Z (thn (ho jy s σ H _ I h) λv s1 j4=>?_);obtain ⟨x,H1,I1,r1,ty,q1⟩:=j4;obtain ⟨h1,h2⟩:=Zex I1 r1 ty;refine ⟨T,id,pa,slot,uz,h1,h2,?_⟩;have hA:=ha j6 jy s1 σ H1 _ I1 q1;rw [hs] at hA ⊢;refine Calls.callWith_builtin (by show (false || (backTo j6 (starEach es X.env)).any (·.1))=false; rw [t7] <;> rfl) (Calls.evalArgs_plain ?_);refine thn hA λus s2 zz19=>?_;obtain ⟨vs,H2,I2,r2,q2⟩:=zz19;exact hm jy s2 σ H2 x vs v us Q I2 r1 r2 q2
end
def MtM (X:Cx) (id:String) (r:V->List V->Hp->VK->Prop):Prop :=
 ∀ (jy:List (Addr × Obj)) (s:Shared) (σ:St) (H:Hp) (x:V) (xs:List V) (v:Value) (us:List Value) (Q:VK),Inv X jy σ H s->RelV x v->Vals xs us->r x xs H Q ->
  wpAny (model X.prog X.w) X.A (call (.builtin id) (v :: us)) (EP X jy σ Q) X.xe s
def Vals.one (h:Vals [x] us):∃ u,us=[u]/\RelV x u:=by
  cases h with
  | cons r t=>cases t; exact ⟨_,Z,r⟩
def Vals.two (h:Vals [x,y] us):∃ u v,us=[u,v]/\RelV x u/\RelV y v:=by
  cases h with
  | cons r t =>
    obtain ⟨v,rfl,q⟩:=Vals.one t;exact ⟨_,v,Z,r,q⟩
theorem Vals.rep (h:Vals xs us):∀ k:Nat,Vals (List.replicate k xs).flatten (List.replicate k us).flatten
 | 0=>.nil
 | k + 1=>by
  rw [List.replicate_succ,List.replicate_succ,List.flatten_cons,List.flatten_cons];exact Vals.append h (Vals.rep h k)
theorem G9 (its:List Value):∀ (k:Nat) (j5:List Value),
  List.foldl (λx1 x2=>x1 ++ x2) j5.toArray (List.replicate k its.toArray)=(j5 ++ (List.replicate k its).flatten).toArray
 | 0,j5=>by simp
 | k + 1,j5=>by
  have e:j5.toArray ++ its.toArray=(j5 ++ its).toArray:=by simp
  have e2:(j5 ++ its) ++ (List.replicate k its).flatten=j5 ++ (List.replicate (k + 1) its).flatten:=by
   rw [List.replicate_succ,List.flatten_cons,List.append_assoc]
  rw [<- e2,<- G9 its k (j5 ++ its),<- e,List.replicate_succ,List.foldl_cons]
section
variable {X:Cx} {jy:List (Addr × Obj)} {σ:St} {H:Hp} {s:Shared} {l b:Addr} {xs ys zs:List V}
def Inv.lset {its its':List Value} {t':Nat} (I:Inv X jy σ H s) (hH:H l=some (.lst xs))
  (e:s.heap.get? l=some { cls:=.type "list",data:=.seq its.toArray n }) (hf:f its.toArray=its'.toArray) (hv:Vals ys its') (hz:ys.length<=sizeLine) :
  Inv X jy σ (upd H l (.lst ys)) { s with heap:=s.heap.update l (Obj.mapSeq f),toks:=t' }:=by
 have q:=PySem.IsL.update e f;rw [hf] at q;refine I.write (x:=l) (e:=l) (by rw [hH]; exact trivial) (.inl Z) (λb' u hb hu=>(Heap.get?_update_other s.heap (Obj.mapSeq f) (Ne.symm hb)).trans hu) ⟨_,q⟩ ?_;exact ⟨hz,its',_,hv,q⟩
def Inv.lnew {its:List Value} {t':Nat} (I:Inv X jy σ H s) (hv:Vals ys its) (hz:ys.length<=sizeLine) :
  Inv X jy σ (upd H s.heap.objs.size (.lst ys)) { s with heap:=s.heap.push { cls:=.type "list",data:=.seq its.toArray },toks:=t' } :=
 I.laid (λ_ _ q=>Ak _ q) (An _) ⟨hz,its,0,hv,Ap _ rfl⟩
def Inv.fresh (I:Inv X jy σ H s):H s.heap.objs.size=none:=I.hok.fresh (An _)
def Inv.lstM (I:Inv X jy σ H s) (hH:H l=some (.lst xs)):xs.length<=sizeLine/\∃ (its:List Value) (n:Nat),Vals xs its/\xs.length=its.length/\s.heap.get? l=some { cls:=.type "list",data:=.seq its.toArray n }:=by
 obtain ⟨z,its,n,r,e⟩:=I.hok l _ hH;exact ⟨z,its,n,r,r.length,e⟩
def Zhk (h:n<=sizeLine):Builtin.List.listTooLong n=false:=by
 unfold Builtin.List.listTooLong;exact decide_eq_false (by lia)
end
section
variable {X:Cx}
def Zio:V->List V->Hp->VK->Prop:=λx vs H Q=>∃ l xs y,x=.ref l/\vs=[y]/\H l=some (.lst xs)/\xs.length < sizeLine/\Q .non (upd H l (.lst (xs ++ [y])))
def J6:MtM X "list.append" Zio:=by
 intro jy s σ H x vs v us Q I rx rv h;obtain ⟨l,xs,y,rfl,rfl,hH,hz,q⟩:=h;cases rx;obtain ⟨u,rfl,ru⟩:=rv.one;obtain ⟨z,its,n,r,hl,e⟩:=I.lstM hH;refine call_meets F.slot_list_append ⟨_,e,Z⟩ F.entry_list_append (F.args_list_append_2 _ _) (PySem.list_append l its.toArray n u (by rw [Aq]; lia)) ⟨e,?_⟩;refine ⟨.non,_,I.lset (its':=its ++ [u]) hH e (by simp) (r.append (.cons ru .nil)) ?_,Z,q⟩;rw [Ae,At];lia
def rCat:R2:=λx y H Q=>∃ l b xs zs,x=.ref l/\y=.ref b/\H l=some (.lst xs)/\H b=some (.lst zs)/\xs.length + zs.length<=sizeLine/\∀ p,H p=none->Q (.ref p) (upd H p (.lst (xs ++ zs)))
def Zke:OpR X (binaryOp .Add) rCat:=by
 intro jy s σ H x y v u Q I rx ry h;obtain ⟨l,b,xs,zs,rfl,rfl,hH,hB,hz,q⟩:=h;cases rx;cases ry;obtain ⟨z,its,n,r,hl,e⟩:=I.lstM hH;obtain ⟨z2,vq,n2,r2,mk,e2⟩:=I.lstM hB;refine PySem.P.add_list e e2 ?_ (by rw [Aq,Aq]; lia);have ea:its.toArray ++ vq.toArray=(its ++ vq).toArray:=by simp
 rw [ea];exact ⟨.ref _,_,I.lnew (t':=s.toks) (r.append r2) (by rw [Ae]; lia),rfl,q _ I.fresh⟩
def rRep:R2:=λx y H Q=>∃ l k xs,x=.ref l/\y=.int k/\H l=some (.lst xs)/\-(2 ^ 63)<=k/\k < 2 ^ 63/\xs.length * k.toNat<=sizeLine /\
 ∀ p,H p=none->Q (.ref p) (upd H p (.lst (List.replicate k.toNat xs).flatten))
def Zi5 {α:Type} (xs:List α) (k:Nat):(List.replicate k xs).flatten.length=k * xs.length:=by
 induction k with
 | zero=>simp
 | succ k ih=>rw [List.replicate_succ,List.flatten_cons,Ae,ih,Nat.succ_mul,Nat.add_comm]
def Zka:OpR X (binaryOp .Mult) rRep:=by
 intro jy s σ H x y v u Q I rx ry h;obtain ⟨l,k,xs,rfl,rfl,hH,h1,h2,hz,q⟩:=h;cases rx;obtain ⟨t,rfl⟩:=ry;obtain ⟨z,its,n,r,hl,e⟩:=I.lstM hH;have jz:its.toArray.size * k.toNat<=sizeLine:=by rw [Aq,<- hl]; exact hz
 have hcap:¬ its.toArray.size * k.toNat > (2 ^ 63 - 1) / 8:=by
  have:(sizeLine:Nat)<=(2 ^ 63 - 1) / 8:=by decide
  lia
 have hfit:¬ (!Builtin.List.listFitsIndex k)=true:=by
  rw [fitsIndex_both h1 h2];exact Bool.false_ne_true
 have wb:¬ Builtin.List.listTooLong (its.toArray.size * k.toNat)=true:=by
  rw [Zhk jz];exact Bool.false_ne_true
 have sv:List.foldl (λx1 x2=>x1 ++ x2) #[] (List.replicate (if its.toArray.isEmpty=true then 0 else k.toNat) its.toArray)=(List.replicate k.toNat its).flatten.toArray:=by
  have f0:∀ m:Nat,List.foldl (λx1 x2=>x1 ++ x2) #[] (List.replicate m its.toArray)=(List.replicate m its).flatten.toArray:=λm=>by
   have:=G9 its m [];rw [List.nil_append] at this;exact this
  rw [f0]
  cases its with
  | nil=>simp
  | cons a r'=>rw [if_neg (by simp)]
 refine wpAny_binaryOp_repeat_ref (T:="list") (U:="int") (by decide) ⟨_,e,rfl⟩ (λs'=>typeIs_int s' k t) noFill_list_mul F.fills_int_mul F.slot_int_rmul repeat_list F.slot_int_index.lookup
  (call_meets F.slot_int_rmul (typeIs_int s k t) F.entry_int_rmul (F.args_int_rmul_2 _ _) (int___rmul___int_list k t l its.toArray n)
   ⟨e,rfl,⟨_,e,rfl⟩,call_meets F.slot_list_mul ⟨_,e,rfl⟩ F.entry_list_mul (F.args_list_mul_2 _ _) (AutoListH.list___mul___list_int_3 l its.toArray n k t hfit hcap wb) ⟨e,?_⟩⟩)
 rw [sv];exact ⟨.ref _,_,I.lnew (t':=s.toks) (r.rep k.toNat) (by rw [Zi5,Nat.mul_comm]; exact hz),Z,q _ I.fresh⟩
end
section
variable {κ:Type} [DecidableEq κ]
def valV (kvs:List (κ × V)) (k:κ):Option V:=(kvs.find? λkv=>decide (kv.1=k)).map (·.2)
def putK (kvs:List (κ × V)) (k:κ) (v:V):List (κ × V) :=
 if (kvs.any λkv=>decide (kv.1=k))=true then kvs.map (λkv=>if kv.1=k then (kv.1,v) else kv) else kvs ++ [(k,v)]
def U1 {p:κ × V} {r:List (κ × V)} (e:p.1=k):valV (p :: r) k=some p.2:=by simp [valV,List.find?_cons,e]
def U2 {p:κ × V} (e:¬ p.1=k):valV (p :: r) k=valV r k:=by simp [valV,List.find?_cons,e]
theorem F5 (k:κ):∀ kvs:List (κ × V),(kvs.any λkv=>decide (kv.1=k))=(valV kvs k).isSome
 | []=>rfl
 | p :: r=>by
  rw [List.any_cons];by_cases e:p.1=k
  ·simp only [U1 e,decide_eq_true e,Bool.true_or,Option.isSome_some]
  ·rw [U2 e,decide_eq_false e,Bool.false_or]; exact F5 k r
def X7 (kvs:List (κ × V)) (k:κ) (v:V):(putK kvs k v).length<=kvs.length + 1:=by
 unfold putK;split
 ·rw [Ab]; lia
 ·rw [Ae,List.length_cons,List.length_nil]; lia
def RelO.isSome_eq {o:Option V} {u:Option Value} (r:RelO o u):o.isSome=u.isSome:=by
 cases o with
 | none=>cases u with
  | none=>rfl
  | some _=>exact (show False from r).elim
 | some _=>cases u with
  | none=>exact (show False from r).elim
  | some _=>rfl
def KV.val (r:KV kvs vs) (k:κ):RelO (valV kvs k) (valueAt vs k):=by
 unfold KV at r
 induction r with
 | nil=>exact True.intro
 | @cons p q ps qs h t ih =>
  obtain ⟨h1,h2⟩:=h;by_cases e:p.1=k
  ·have e':q.1=k:=h1.symm.trans e
   have b:valueAt (q :: qs) k=some q.2:=by simp [valueAt,List.find?_cons,e']
   rw [U1 e,b]; exact h2
  ·have e':¬ q.1=k:=λz=>e (h1.trans z)
   have b:valueAt (q :: qs) k=valueAt qs k:=by simp [valueAt,List.find?_cons,e']
   rw [U2 e,b]; exact ih
def KV.any {kvs:List (κ × V)} {vs:List (κ × Value)} (r:KV kvs vs) (k:κ):(kvs.any λkv=>decide (kv.1=k))=vs.any λkv=>decide (kv.1=k):=by
 unfold KV at r
 induction r with
 | nil=>rfl
 | cons h t ih=>rw [List.any_cons,List.any_cons,ih,h.1]
def KV.repl {kvs:List (κ × V)} {vs:List (κ × Value)} (r:KV kvs vs) (k:κ) (ry:RelV y u) :
  KV (kvs.map λkv=>if kv.1=k then (kv.1,y) else kv) (vs.map λkv=>if kv.1=k then (kv.1,u) else kv):=by
 unfold KV at r ⊢
 induction r with
 | nil=>exact .nil
 | @cons p q ps qs h t ih =>
  rw [List.map_cons,List.map_cons];refine .cons ?_ ih;obtain ⟨h1,h2⟩:=h;by_cases e:p.1=k
  ·rw [if_pos e,if_pos (h1.symm.trans e)]; exact ⟨h1,ry⟩
  ·rw [if_neg e,if_neg (λz=>e (h1.trans z))]; exact ⟨h1,h2⟩
def KV.put (r:KV kvs vs) (k:κ) (ry:RelV y u):KV (putK kvs k y) (stored vs k u):=by
 unfold putK stored;rw [r.any k];by_cases e:(vs.any λkv=>decide (kv.1=k))=true
 ·rw [if_pos e,if_pos e]; exact r.repl k ry
 ·rw [if_neg e,if_neg e]; exact Paired.snoc r ⟨Z,ry⟩
def KV.length {kvs:List (κ × V)} {vs:List (κ × Value)} (r:KV kvs vs):kvs.length=vs.length:=Paired.length r
end
def Wk (r:RelV (kV k) u):(Z0 P w).is k u=true:=by
 cases k with
 | inl i=>obtain ⟨t,e⟩:=(show ∃ t,u=Value.int i t from r); subst e; exact Zcs P w i t
 | inr x=>obtain ⟨t,e⟩:=(show ∃ t,u=Value.str x t from r); subst e; exact Zcr P w x t
theorem G7:∀ {ks:List Key} {us:List Value},Vals (ks.map kV) us->ItemsAre (Z0 P w) ks us
 | [],_,r=>by rw [List.map_nil] at r; cases r; exact .nil
 | k :: ks,_,r=>by
  rw [List.map_cons] at r
  cases r with
  | cons h t=>exact .cons (Wk h) (G7 t)
abbrev KT (H:Hp):List (List Key × V)->List (List Key × Addr × Value)->Prop:=Paired λp q=>p.1=q.1/\H q.2.1=some (.tup (p.1.map kV))/\RelV p.2 q.2.2
def KT.val (r:KT H kvs xs) (k:List Key):RelO (valV kvs k) ((atKey xs k).map (·.2)):=by
 induction r with
 | nil=>exact True.intro
 | @cons p q ps qs h t ih =>
  obtain ⟨h1,_,h2⟩:=h;by_cases e:p.1=k
  ·have e':q.1=k:=h1.symm.trans e
   have b:atKey (q :: qs) k=some q.2:=by simp [atKey,List.find?_cons,e']
   rw [U1 e,b]; exact h2
  ·have e':¬ q.1=k:=λz=>e (h1.trans z)
   have b:atKey (q :: qs) k=atKey qs k:=by simp [atKey,List.find?_cons,e']
   rw [U2 e,b]; exact ih
def KT.repl {kvs:List (List Key × V)} {xs:List (List Key × Addr × Value)} (r:KT H kvs xs) (k:List Key) (ry:RelV y u) :
  KT H (kvs.map λkv=>if kv.1=k then (kv.1,y) else kv) (xs.map (putAt k u)):=by
 induction r with
 | nil=>exact .nil
 | @cons p q ps qs h t ih =>
  rw [List.map_cons,List.map_cons];refine .cons ?_ ih;obtain ⟨h1,h2,h3⟩:=h;unfold putAt;by_cases e:p.1=k
  ·rw [if_pos e,if_pos (h1.symm.trans e)]; exact ⟨h1,h2,ry⟩
  ·rw [if_neg e,if_neg (λz=>e (h1.trans z))]; exact ⟨h1,h2,h3⟩
def KT.put (r:KT H kvs xs) (k:List Key) (hb:H b=some (.tup (k.map kV))) (ry:RelV y u) :
  KT H (putK kvs k y) (storedH xs k b u):=by
 have e:(kvs.any λkv=>decide (kv.1=k))=(atKey xs k).isSome:=by
  rw [F5,(r.val k).isSome_eq,Option.isSome_map]
 unfold putK storedH;rw [e];by_cases q:(atKey xs k).isSome=true
 ·rw [if_pos q,if_pos q]; exact r.repl k ry
 ·rw [if_neg q,if_neg q]; exact Paired.snoc r ⟨Z,hb,ry⟩
def KT.keeps (r:KT H kvs xs) (ht:∀ b ys,H b=some (.tup ys)->H' b=some (.tup ys)):KT H' kvs xs :=
 Paired.mapP r λ_ _ z=>⟨z.1,ht _ _ z.2.1,z.2.2⟩
section
variable {P:Program} {w:World} {H:Hp} {h:Heap} {a:Addr}
def Zib (ok:HOk P w H h) (e:Rd H a u):Ya P w H h a u:=e.ok ok
def Je {kvs:List (Key × V)} (ok:HOk P w H h) (e:Rd H a (.dK kvs)):kvs.length<=sizeLine/\(a == sysModules)=false/\∃ vs,KV kvs vs/\h.DictOf (Z0 P w) a vs :=
 show Ya P w H h a (.dK kvs) from Zib ok e
def F2 {kvs:List (Key × V)} (ok:HOk P w H h) (e:H a=some (.dK kvs)):kvs.length<=sizeLine/\(a == sysModules)=false/\∃ vs,KV kvs vs/\h.DictOf (Z0 P w) a vs:=Je ok (.inl e)
def Vy {ks:List Key} (ok:HOk P w H h) (e:H a=some (.tup (ks.map kV))):(tupleKind (Z0 P w)).is h ks a:=by
 obtain ⟨_,its,r,o,h1,h2,n,h3⟩:=(show Ya P w H h a (.tup (ks.map kV)) from ok a _ e);exact ⟨o,its.toArray,n,h1,h2,h3,by simpa using G7 r⟩
def V7 {kvs:List (List Key × V)} (ok:HOk P w H h) (e:Rd H a (.dT kvs)):kvs.length<=sizeLine/\(a == sysModules)=false /\
  ∃ xs,KT H kvs xs/\h.DictOfH (tupleKind (Z0 P w)) a xs:=by
 obtain ⟨z,y,xs,r,o,es,ep,h1,h2,h3,h4,h5⟩:=(show Ya P w H h a (.dT kvs) from Zib ok e);refine ⟨z,y,xs,r,o,es,ep,h1,h2,h3,h4,λx hx=>?_,h5⟩
 have all:∀ {l:List (List Key × V)} {m:List (List Key × Addr × Value)},KT H l m->∀ x∈m,(tupleKind (Z0 P w)).is h x.1 x.2.1:=by
  intro l m q
  induction q with
  | nil=>intro x hx; exact nomatch hx
  | @cons p q ps qs hq t ih =>
   intro x hx
   rcases Ar hx with e | hx
   ·subst e
    exact Vy ok (by rw [<- hq.1]; exact hq.2.1)
   ·exact ih x hx
 exact all r x hx
def Zlo {kvs:List (List Key × V)} (ok:HOk P w H h) (e:H a=some (.dT kvs)):kvs.length<=sizeLine/\(a == sysModules)=false /\
  ∃ xs,KT H kvs xs/\h.DictOfH (tupleKind (Z0 P w)) a xs:=V7 ok (.inl e)
end
def DGet (H:Hp) (a:Addr) (y:V) (r:Option V):Prop :=
 (∃ kvs k,Rd H a (.dK kvs)/\y=kV k/\r=valV kvs k)\/∃ kvs k b,Rd H a (.dT kvs)/\y=.ref b/\H b=some (.tup (k.map kV))/\r=valV kvs k
def DPut (H:Hp) (a:Addr) (y v:V) (H':Hp):Prop :=
 (∃ kvs k,H a=some (.dK kvs)/\y=kV k/\kvs.length < sizeLine/\H'=upd H a (.dK (putK kvs k v))) \/
 ∃ kvs k b,H a=some (.dT kvs)/\y=.ref b/\H b=some (.tup (k.map kV))/\kvs.length < sizeLine/\H'=upd H a (.dT (putK kvs k v))
def DPut.k {H:Hp} {a:Addr} {kvs:List (Key × V)} {k:Key} {v:V} (e:H a=some (.dK kvs)) (hl:kvs.length < sizeLine):DPut H a (kV k) v (upd H a (.dK (putK kvs k v))):=.inl ⟨kvs,k,e,rfl,hl,rfl⟩
section
variable {X:Cx} {jy:List (Addr × Obj)} {σ:St} {H:Hp} {s:Shared} {a:Addr} {y v:V} {u r:Value} {o:Option V} {A:Around} {E:Value->Shared->Prop}
def Inv.big (I:Inv X jy σ H s):sysModules < s.heap.objs.size:=by
 have h:mainGlobals < s.heap.objs.size:=(I.mod.glob.keeps I.bk).lt;exact Nat.lt_trans (by decide) h
def Zgn (hu:A.units + 1 < cLine) (I:Inv X jy σ H s) (g:DGet H a y (some v)) (ry:RelV y u) (h:∀ w' s',Inv X jy σ H s'->RelV v w'->Q w' s') :
  wpAny (model X.prog X.w) A (getItem (.ref a) u) Q E s:=by
 rcases g with ⟨kvs,k,e,ey,l⟩ | ⟨kvs,k,b,e,ey,eb,l⟩
 ·subst ey
  obtain ⟨z,hd,vs,j8,dd⟩:=Je I.hok e;obtain ⟨w',hw,oz⟩:=RelO.some_of (v:=v) (o:=valueAt vs k) (by rw [l]; exact j8.val k);exact wpAny_getItem_of (Wk ry) dd.mapOf hw (h w' _ (I.tok _) oz)
 ·subst ey
  cases (show u=Value.ref b from ry);obtain ⟨z,hd,xs,j8,dd⟩:=V7 I.hok e;obtain ⟨w',hw,oz⟩:=RelO.some_of (v:=v) (o:=(atKey xs k).map (·.2)) (by rw [l]; exact j8.val k);obtain ⟨p,hp,mv⟩:=Option.map_eq_some_iff.mp hw;refine wpAny_getItem_heap (tupleKind_room_in1 hu) (Vy I.hok eb) dd hp ?_;rw [mv];exact h w' _ (I.tok _) oz
def d_in {Q:Value->Shared->Prop} (hu:A.units + 1 < cLine) (I:Inv X jy σ H s) (g:DGet H a y o) (ry:RelV y u) (h:∀ s',Inv X jy σ H s'->Q (.bool o.isSome) s') :
  wpAny (model X.prog X.w) A (compareOp .In u (.ref a)) Q E s:=by
 rcases g with ⟨kvs,k,e,ey,l⟩ | ⟨kvs,k,b,e,ey,eb,l⟩
 ·subst ey
  obtain ⟨z,hd,vs,j8,dd⟩:=Je I.hok e;refine wpAny_in_of (Wk ry) hd dd.mapOf ?_;rw [<- (j8.val k).isSome_eq,<- l];exact h _ (I.tok _)
 ·subst ey
  cases (show u=Value.ref b from ry);obtain ⟨z,hd,xs,j8,dd⟩:=V7 I.hok e;refine wpAny_in_heap (tupleKind_room_in1 hu) (Vy I.hok eb) hd dd ?_;have q:=(j8.val k).isSome_eq;rw [Option.isSome_map] at q;rw [<- q,<- l];exact h _ (I.tok _)
def Zjb (hu:A.units + 1 < cLine) (I:Inv X jy σ H s) (g:DGet H a y o) (ry:RelV y u) (h:∀ s',Inv X jy σ H s'->Q (.bool (!o.isSome)) s') :
  wpAny (model X.prog X.w) A (compareOp .NotIn u (.ref a)) Q E s:=by
 rcases g with ⟨kvs,k,e,ey,l⟩ | ⟨kvs,k,b,e,ey,eb,l⟩
 ·subst ey
  obtain ⟨z,hd,vs,j8,dd⟩:=Je I.hok e;refine wpAny_notIn_of (Wk ry) hd dd.mapOf ?_;rw [<- (j8.val k).isSome_eq,<- l];exact h _ (I.tok _)
 ·subst ey
  cases (show u=Value.ref b from ry);obtain ⟨z,hd,xs,j8,dd⟩:=V7 I.hok e;refine wpAny_notIn_heap (tupleKind_room_in1 hu) (Vy I.hok eb) hd dd ?_;have q:=(j8.val k).isSome_eq;rw [Option.isSome_map] at q;rw [<- q,<- l];exact h _ (I.tok _)
def Ql {h':Heap} {t':Nat} (I:Inv X jy σ H s) (mu:Mut (H a)) (hs:Heap.SameBut a s.heap h') (he:∃ q,h'.get? a=some q) (new:Ya X.prog X.w (upd H a ob) h' a ob) :
  Inv X jy σ (upd H a ob) { s with heap:=h',toks:=t' } :=
 I.write (x:=a) (e:=a) mu (.inl rfl) (λb q hb z=>(hs.2 b hb).trans z) he new
def Kq {h':Heap} {kvs:List (Key × V)} (z:kvs.length<=sizeLine) (hd:(a == sysModules)=false) (j8:KV kvs vs) (dd:h'.DictOf (Z0 P w) a vs) :
  Ya P w H' h' a (.dK kvs):=⟨z,hd,vs,j8,dd⟩
def Zgm (hu:A.units + 1 < cLine) (I:Inv X jy σ H s) (g:DPut H a y v H') (ry:RelV y u) (rv:RelV v r) (h:∀ s',Inv X jy σ H' s'->Q () s') :
  wpAny (model X.prog X.w) A (setItem (.ref a) u r) Q E s:=by
 rcases g with ⟨kvs,k,e,ey,l,eH⟩ | ⟨kvs,k,b,e,ey,eb,l,eH⟩
 ·subst ey eH
  obtain ⟨z,hd,vs,j8,dd⟩:=F2 I.hok e;have hz:vs.length<=sizeLine:=by rw [<- j8.length]; exact z
  have hl:(putK kvs k v).length<=sizeLine:=by have:=X7 kvs k v; lia
  refine wpAny_setItem_pairs (hsz:=hz) (Wk ry) dd λh' nz hs=>h _ ?_;have he:∃ q,h'.get? a=some q:=let ⟨q,_,_,hq,_⟩:=nz; ⟨q,hq⟩
  exact Ql I (by rw [e]; exact True.intro) hs he (Kq hl hd (j8.put k rv) nz)
 ·subst ey eH
  cases (show u=Value.ref b from ry);obtain ⟨z,hd,xs,j8,dd⟩:=Zlo I.hok e;have hz:xs.length<=sizeLine:=by rw [<- Paired.length j8]; exact z
  have hl:(putK kvs k v).length<=sizeLine:=by have:=X7 kvs k v; lia
  refine wpAny_setItem_heap (hsz:=hz) (tupleKind_room_in1 hu) (Vy I.hok eb) dd λh' nz hs=>h _ ?_;obtain ⟨q,es,ep,hq,h2,h3,h4,_,h5⟩:=nz;refine Ql I (by rw [e]; exact True.intro) hs ⟨q,hq⟩ ⟨hl,hd,_,(j8.put k eb rv).keeps λc ys ec=>?_,q,es,ep,hq,h2,h3,h4,h5⟩;rw [Zf (Zlg ec e (λz=>nomatch z))];exact ec
end
def NoSl (i:Expr):Prop:=∀ ov iv,subscripted i false ov iv=operate [ov,iv] (getItem ov iv)
def Zcx {prog:Program} {w:World} {A:Around} {E:Value->Shared->Prop} {s:Shared} {env:Env} {value lf:Expr} {pos:Pos} {T id:String} {Q:Value->Shared->Prop}
  (hl:typeLookup (.type T) "__getitem__"=pure (some (.builtin id))) (hs:NoSl lf)
  (h:wpAny (model prog w) A (eval value env) (λo s₁=>wpAny (model prog w) A (eval lf env) (λi s₂=>s₂.TypeIs o T/\wpAny (model prog w) A (getItem o i) Q E s₂) E s₁) E s) :
  wpAny (model prog w) A (eval (.Subscript value lf pos) env) Q E s:=by
 refine Subscript_ (wpAny_mono h (λo s₁ h₁=>wpAny_mono h₁ (λi s₂ h₂=>?_) λ_ _ x=>x) λ_ _ x=>x);obtain ⟨hT,h₂⟩:=h₂;unfold subscriptTail;refine Al ?_;rw [getitemInPython_of_ne hT.not_modules];refine Al (wpAny_specialOf hT hl ?_);have k7:wpAny (model prog w) A (subscripted lf false o i) (λr s₃=>wpAny (model prog w) A (letTemporaryGo value o r >>= λ_=>pure r) Q E s₃) E s₂:=by
  rw [hs o i]
  exact wpAny_operating (wpAny_mono h₂ (λr s₃ h₃=>Al (wpAny_letTemporaryGo (wpAny_pure h₃))) λ_ _ x=>x)
 first
  | exact wpAny_pure (Al k7)
  | exact Al (wpAny_pure (Al k7))
  | exact Al k7
def Zct {s:Shared} (I:Inv X jy σ H s) (g:DGet H a y o):s.TypeIs (.ref a) "dict":=by
 rcases g with ⟨kvs,k,e,_,_⟩ | ⟨kvs,k,b,e,_,_,_⟩
 ·obtain ⟨_,_,vs,_,dd⟩:=Je I.hok e
  exact dd.typeIs
 ·obtain ⟨_,_,xs,_,dd⟩:=V7 I.hok e
  exact dd.typeIs
def Zk4 (td ty:TE):TE:=λσ H Q=>td σ H λx H1=>ty σ H1 λy H2=>∃ a v,x=.ref a/\DGet H2 a y (some v)/\Q v H2
def tDIn (ty td:TE):TE:=λσ H Q=>ty σ H λy H1=>td σ H1 λx H2=>∃ a o,x=.ref a/\DGet H2 a y o/\Q (.bl o.isSome) H2
def Zii (ty td:TE):TE:=λσ H Q=>ty σ H λy H1=>td σ H1 λx H2=>∃ a o,x=.ref a/\DGet H2 a y o/\Q (.bl (!o.isSome)) H2
def Zla (td ty tv:TE):TS:=λD σ H=>tv σ H λv H1=>td σ H1 λx H2=>ty σ H2 λy H3=>∃ a H4,x=.ref a/\DPut H3 a y v H4/\D.nx σ H4
section
variable {X:Cx} {o i e value:Expr} {pos lj m7:Pos} {td ty tv:TE}
def Jj (hu:X.A.units + 1 < cLine) (ho:PE X o td) (hi:PE X i ty) (hs:NoSl i):PE X (.Subscript o i pos) (Zk4 td ty):=by
 intro jy s σ H Q I h;refine Zcx PySem.F.slot_dict_getitem.lookup hs (thn (ho jy s σ H _ I h) λu s1 zz20=>?_);obtain ⟨x,H1,I1,rx,q1⟩:=zz20;refine thn (hi jy s1 σ H1 _ I1 q1) λiv s2 j4=>?_;obtain ⟨y,H2,I2,ry,a,v,ex,g,q2⟩:=j4;subst ex;obtain rfl:u=Value.ref a:=rx;exact ⟨Zct I2 g,Zgn hu I2 g ry λw' s3 I3 oz=>⟨v,H2,I3,oz,q2⟩⟩
def Zfy (hu:X.A.units + 1 < cLine) (hi:PE X i ty) (ho:PE X o td):PC X .In i o (tDIn ty td):=by
 intro jy s σ H Q I h;refine thn (hi jy s σ H _ I h) λiv s1 zz21=>?_;obtain ⟨y,H1,I1,ry,q1⟩:=zz21;refine thn (ho jy s1 σ H1 _ I1 q1) λu s2 j4=>?_;obtain ⟨x,H2,I2,rx,a,ov,ex,g,q2⟩:=j4;subst ex;obtain rfl:u=Value.ref a:=rx;exact d_in hu I2 g ry λs3 I3=>⟨.bl ov.isSome,H2,I3,Z,q2⟩
def Vq (hu:X.A.units + 1 < cLine) (hi:PE X i ty) (ho:PE X o td):PC X .NotIn i o (Zii ty td):=by
 intro jy s σ H Q I h;refine thn (hi jy s σ H _ I h) λiv s1 z9=>?_;obtain ⟨y,H1,I1,ry,q1⟩:=z9;refine thn (ho jy s1 σ H1 _ I1 q1) λu s2 j4=>?_;obtain ⟨x,H2,I2,rx,a,ov,ex,g,q2⟩:=j4;subst ex;obtain rfl:u=Value.ref a:=rx;exact Zjb hu I2 g ry λs3 I3=>⟨.bl (!ov.isSome),H2,I3,Z,q2⟩
def Zis (hu:X.A.units + 1 < cLine) (ho:PE X o td) (hi:PE X i ty) (hv:PE X value tv) (hs:swapsWith value (some (.Subscript o i lj)) pos.line X.env=pure false) :
  PS X (.Assign [.Subscript o i lj] value pos) (Zla td ty tv):=by
 intro jy s σ H D I h;refine wpAny_Assign_Subscript (thn (hv jy s σ H _ I h) λr s1 z8=>?_) hs;obtain ⟨v,H1,I1,rv,q1⟩:=z8;refine thn (ho jy s1 σ H1 _ I1 q1) λu s2 z0=>?_;obtain ⟨x,H2,I2,rx,q2⟩:=z0;refine thn (hi jy s2 σ H2 _ I2 q2) λiv s3 zz=>?_;obtain ⟨y,H3,I3,ry,a,H4,ex,g,q3⟩:=zz;subst ex;obtain rfl:u=Value.ref a:=rx;exact Zgm hu I3 g ry rv λs4 I4=>⟨σ,H4,I4,q3⟩
end
def Qv (h:Heap) (hb:sysModules < h.objs.size):Ya P w H (h.push { cls:=.type "dict",data:=.dict #[] }) h.objs.size (.dK []) :=
 ⟨Az _,beq_eq_false_iff_ne.mpr (Ne.symm (As hb)),[],.nil,Heap.DictOf.new h⟩
def Zjr:TE:=λ_ H Q=>∀ p,H p=none->Q (.ref p) (upd H p (.dK []))
section
variable {X:Cx} {pos:Pos}
def Jp:PE X (.Dict [] [] pos) Zjr:=λjy s σ H Q I h =>
 wpAny_Dict_empty ⟨.ref s.heap.objs.size,_,I.laid (a:=s.heap.objs.size) (o:=.dK []) (t':=s.toks) (λ_ _ q=>Ak _ q) (An _) (Qv s.heap I.big),rfl,h _ (I.hok.fresh (An _))⟩
end
def F6:List (TE × TE)->St->Hp->(List (V × V)->Hp->Prop)->Prop
 | [],_,H,Q=>Q [] H
 | (tk,tv) :: r,σ,H,Q=>tk σ H λx H1=>tv σ H1 λy H2=>F6 r σ H2 λps H3=>Q ((x,y) :: ps) H3
abbrev VV:List (V × V)->List (Value × Value)->Prop:=Paired λp q=>RelV p.1 q.1/\RelV p.2 q.2
def PPs (X:Cx) (pos:Pos) (keys:List (Option Expr)) (lx:List Expr) (qh:List (TE × TE)):Prop :=
 ∀ (jy:List (Addr × Obj)) (s:Shared) (σ:St) (H:Hp) (Q:List (V × V)->Hp->Prop),Inv X jy σ H s->F6 qh σ H Q ->
  wpAny (model X.prog X.w) X.A (evalPairs (pairTrees keys lx X.env pos)) (λvs s'=>∃ ps H',Inv X jy σ H' s'/\VV ps vs/\Q ps H') X.xe s
def Qf {X:Cx} {pos:Pos}:PPs X pos [] [] []:=λjy s σ H Q I h=>pairTrees_nil_walk ⟨[],H,I,.nil,h⟩
def Ys {X:Cx} {pos:Pos} {k v:Expr} {ks:List (Option Expr)} {vs:List Expr} {tk tv:TE} {qh:List (TE × TE)} (hk:PE X k tk) (hv:PE X v tv) (hr:PPs X pos ks vs qh) :
  PPs X pos (some k :: ks) (v :: vs) ((tk,tv) :: qh):=λjy s σ H Q I h =>
 pairTrees_cons_walk (thn (hk jy s σ H _ I h) λu s1 ⟨x,H1,I1,rx,q1⟩=>thn (hv jy s1 σ H1 _ I1 q1) λw2 s2 ⟨y,H2,I2,ry,q2⟩ =>
  thn (hr jy s2 σ H2 _ I2 q2) λws s3 ⟨ps,H3,I3,j8,q3⟩=>⟨(x,y) :: ps,H3,I3,.cons ⟨rx,ry⟩ j8,q3⟩)
def X6 (kvs more:List (Key × V)):List (Key × V):=more.foldl (λj5 kv=>putK j5 kv.1 kv.2) kvs
def KV.merge:∀ {more:List (Key × V)} {rs:List (Key × Value)} {kvs:List (Key × V)} {vs:List (Key × Value)},KV more rs->KV kvs vs->KV (X6 kvs more) (merged vs rs):=by
 intro more rs kvs vs r;unfold KV at r
 induction r generalizing kvs vs with
 | nil=>intro q; exact q
 | @cons p q ps qs h t ih =>
  intro r0;have e:KV (putK kvs p.1 p.2) (stored vs q.1 q.2):=by
   have:=r0.put p.1 h.2
   rw [<- h.1]; exact this
  exact ih e
theorem Q6:∀ (more kvs:List (Key × V)),(X6 kvs more).length<=kvs.length + more.length
 | [],kvs=>by show kvs.length<=kvs.length + 0; lia
 | p :: r,kvs=>by
  have h1:=Q6 r (putK kvs p.1 p.2);have h2:=X7 kvs p.1 p.2;show (X6 (putK kvs p.1 p.2) r).length<=_;rw [List.length_cons]; lia
theorem Ks {P:Program} {w:World}:∀ {kvs:List (Key × V)} {ws:List (Value × Value)},VV (kvs.map λkv=>(kV kv.1,kv.2)) ws->∃ rs,Carries (Z0 P w) ws rs/\KV kvs rs
 | [],_,r=>by rw [List.map_nil] at r; cases r; exact ⟨[],True.intro,.nil⟩
 | p :: kvs,_,r=>by
  rw [List.map_cons] at r
  cases r with
  | @cons a b as bs h t =>
   obtain ⟨rs,c,q⟩:=Ks (P:=P) (w:=w) t;obtain ⟨b1,b2⟩:=b;exact ⟨(p.1,b2) :: rs,⟨Wk h.1,Z,c⟩,.cons ⟨Z,h.2⟩ q⟩
def Zk3 (qh:List (TE × TE)):TE:=λσ H Q=>∀ p,H p=none->F6 qh σ (upd H p (.dK [])) λps H2=>H2 p=some (.dK [])/\∃ kvs:List (Key × V),ps=kvs.map (λkv=>(kV kv.1,kv.2))/\kvs.length<=15/\Q (.ref p) (upd H2 p (.dK (X6 [] kvs)))
def Qh {X:Cx} {pos:Pos} {keys:List (Option Expr)} {lx:List Expr} {qh:List (TE × TE)} (h:PPs X pos keys lx qh) (tz:keys.all (·.isSome)=true) (hl:keys.length=lx.length) (h0:keys≠[])
  (h15:keys.length<=15):PE X (.Dict keys lx pos) (Zk3 qh):=by
 intro jy s σ H Q I q;have hn:=I.hok.fresh (An s.heap.objs.size);have I1:=I.laid (a:=s.heap.objs.size) (o:=.dK []) (h':=s.heap.push { cls:=.type "dict",data:=.dict #[] }) (t':=s.toks) (λ_ _ q=>Ak _ q) (An _) (Qv s.heap I.big);refine wpAny_Dict_walk (knd:=Z0 X.prog X.w) tz hl h0 h15 (thn (h jy _ σ _ _ I1 (q _ hn)) λws s2 j4=>?_);obtain ⟨ps,H2,I2,j8,e,kvs,ep,lk,q2⟩:=j4;subst ep;obtain ⟨rs,c,rk⟩:=Ks (P:=X.prog) (w:=X.w) j8;obtain ⟨z,hd,vs0,r0,dd⟩:=F2 I2.hok e;cases r0;refine ⟨rs,c,dd,λh' nz hs=>⟨.ref s.heap.objs.size,_,?_,Z,q2⟩⟩;have hz:(X6 [] kvs).length<=sizeLine:=by
  have h1:=Q6 kvs []
  rw [List.length_nil] at h1
  rw [sizeLine_eq]; lia
 have he:∃ q,h'.get? s.heap.objs.size=some q:=let ⟨q,_,_,hq,_⟩:=nz; ⟨q,hq⟩
 exact Ql I2 (by rw [e]; exact True.intro) hs he (Kq hz hd (rk.merge .nil) nz)
structure M1 (X:Cx) (o:Expr) (m:Str) (j7:Pos) (e:Expr) (j6:Pos):Prop where
 base:attributeBase o m X.env (eval o X.env)=eval o X.env
 few:((backTo j6 (starEach [e] X.env)).all (λx=>!x.1) && (backToKw j6 (keywordEach [] X.env)).all (λx=>x.1.isSome)
  && decide (([e]:List Expr).length + ([]:List Keyword).length + (if ([]:List Keyword).isEmpty then 0 else 1) < 30))=true
 line:(j7.endLine == j6.line)=true
 trees:backTo j6 (starEach [e] X.env)=[(false,eval e X.env)]
structure M2 (X:Cx) (o:Expr) (m:Str) (j7:Pos) (e f:Expr) (j6:Pos):Prop where
 base:attributeBase o m X.env (eval o X.env)=eval o X.env
 few:((backTo j6 (starEach [e,f] X.env)).all (λx=>!x.1) && (backToKw j6 (keywordEach [] X.env)).all (λx=>x.1.isSome)
  && decide (([e,f]:List Expr).length + ([]:List Keyword).length + (if ([]:List Keyword).isEmpty then 0 else 1) < 30))=true
 line:(j7.endLine == j6.line)=true
 trees:backTo j6 (starEach [e,f] X.env)=[(false,eval e X.env),(false,eval f X.env)]
def IsD (H:Hp) (a:Addr):Prop:=(∃ kvs,Rd H a (.dK kvs))\/∃ kvs,Rd H a (.dT kvs)
def Km {s:Shared} (I:Inv X jy σ H s) (d:IsD H a) :
  s.TypeIs (.ref a) "dict"/\(∀ b,Value.ref a=.ref b->∃ ob,s.heap.get? b=some ob/\ob.dict=none)/\(a == sysModules)=false:=by
 rcases d with ⟨kvs,e⟩ | ⟨kvs,e⟩
 ·obtain ⟨_,hd,vs,_,dd⟩:=Je I.hok e
  refine ⟨dd.typeIs,λb q=>?_,hd⟩;cases q;obtain ⟨ob,_,_,h1,h2,_⟩:=dd;exact ⟨ob,h1,h2.2.1⟩
 ·obtain ⟨_,hd,xs,_,dd⟩:=V7 I.hok e
  refine ⟨dd.typeIs,λb q=>?_,hd⟩;cases q;obtain ⟨ob,_,_,h1,h2,_⟩:=dd;exact ⟨ob,h1,h2.2.1⟩
end L2
namespace Att
open PySem PySem.W PySem.Calls PyProof.Rows
def Kn:∀ (ns:List Int) (vs:List Value),WellAll P h vs (ns.map WData.int)->IntsAre vs ns:=by
 intro ns
 induction ns with
 | nil =>
  intro vs w;rw [List.map_nil] at w;cases w;exact .nil
 | cons n ns ih =>
  intro vs w;rw [List.map_cons] at w
  cases w with
  | cons a b =>
   cases a;exact .cons _ _ (ih _ b)
def Zff {l:OpenLaw} (hn:l.most=some n) {h:Heap}
  (qv:l.row.toRowW.claim.pre args=true) (xp:WellAll P h vk args) :
  ∃ a vs ns,vk=[Value.ref a]/\args=[WData.list (ns.map WData.int)]/\h.get? a=some { cls:=.type "list",data:=.seq vs.toArray }/\IntsAre vs ns/\ns.length<=n:=by
 have hsh:WShape.hasAll [] args [.list .int]=true:=(pre_splitW qv).1;have hc:l.pre.holds [] { args:=args }=true:=(pre_splitW qv).2;obtain ⟨d,r,rfl,h1,h2⟩:=hasAllW_cons hsh;obtain rfl:=hasAllW_nil h2;obtain ⟨xs,rfl,h3⟩:=hasW_list h1;obtain ⟨ns,rfl⟩:=items_int h3
 have jz:ns.length<=n:=by
  unfold OpenLaw.pre at hc;have h4:(WTm.not (.lt (.lit (.int (n:Int))) (.len (.arg 0)))).holds [] { args:=[.list (ns.map .int)] }=true:=by
   have h4:=(holds_andW hc).1
   rw [hn] at h4
   exact h4
  have h5:=condW_of h4 (w_not (w_lt w_lit (w_len_list (w_arg rfl))));rw [Ab] at h5;refine Nat.le_of_not_lt λq=>?_;have q':(n:Int) < ((ns.length:Nat):Int):=by lia
  first
   | (rw [decide_eq_true q'] at h5; exact absurd h5 (by decide))
   | (simp at h5; lia)
 cases xp with
 | cons w1 w2 =>
  cases w2
  cases w1 with
  | list ho tz=>exact ⟨_,_,ns,Z,Z,ho,Kn ns _ tz,jz⟩
def Zfu (l:OpenLaw) (args:List WData):l.row.toRowW.claim.post args (.bool true) args=true :=
 postW_of (r:=l.row.toRowW) (X:=(true == true))
  (show WShape.has [] (.bool true) .bool=true by first | rfl | decide | simp [WShape.has,WShape.arms,WShape.armsAll])
  (show (WTm.eq .res (.lit (.bool true))).value [] { args:=args,res:=some (.bool true),after:=args }=some (.bool (true == true)) from w_eq_bool (w_res rfl) w_lit) rfl
def attach_call {l:OpenLaw} {d:DefRec}
  (hn:l.most=some n) (ve:d.params.defaults=[])
  (call:∀ (w:World) (s₀ s₁:Shared) (mg mb:Str->Option Value) (fa:Addr) (o:Obj) (pm cd kf:Value) (a:Addr) (vs:List Value) (ns:List Int),
   Ground q nr [] XP w s₀ mg mb s₁.heap->YP w s₁.heap ->
   s₁.heap.get? fa=some o->o.data=.func (docDef d.name d.params d.body d.scope pm cd kf)->s₁.heap.CodeRec cd d.name->mg d.name=some (.ref fa) ->
   s₁.heap.get? a=some { cls:=.type "list",data:=.seq vs.toArray }->IntsAre vs ns->ns.length<=n->s₁.gens=#[] ->
   codeAny (model l.prog w) callerA (.call (.ref fa) ⟨[.ref a],[]⟩) (λr s'=>r=.ok (.ret (.bool true))/\OldK s₁.heap s'.heap/\s'.os=s₁.os/\AllBare s'.gens) s₁) :
  WalkO q nr XP YP l.row.toRowW d [] (λf vs=>PySem.call f vs):=by
 intro w s₀ s₁ mg mb G Y fa o pm cd kf dV kV ho hd mz hD yb hg args vk as qv hlay hrd xp hlo;obtain rfl:dV=.none:=Dflts.none hD ve;obtain rfl:kV=.none:=Dflts.noKw hD;obtain ⟨a,vs,ns,rfl,rfl,ss,p0,jz⟩:=Zff hn qv xp;refine enter_call (codeAny_mono (call w s₀ s₁ mg mb fa o pm cd kf a vs ns G Y ho (fd_plain hd) mz yb ss p0 jz hg) λr s' hq=>?_);obtain ⟨rfl,h2,h3,h4⟩:=hq;exact ⟨.inl ⟨.bool true,.bool true,[],Z,λ_=>rfl,.bool true,Zfu l _,λ_=>⟨List.Pairwise.nil,λ_ hm=>(nomatch hm)⟩⟩,h2,h3,h4⟩
end Att
namespace L2
open PySem PySem.Spec PyProof.Rows
theorem Go:∀ {vs:List Value} {ns:List Int},IntsAre vs ns->Vals (ns.map V.int) vs
 | _,_,.nil=>.nil
 | _,_,.cons n t h=>.cons ⟨t,rfl⟩ (Go h)
def Only (H:Hp):Prop:=∀ b,H b=none\/∃ o xs,H b=some (.frz o (.lst xs))
def Zhp {K:W.Frag} {s₁:Shared} {vs:List Value} {ns:List Int}
  (KX:K.In s₁.heap) (ql:s₁.heap.Ns mainGlobals mg) (hb:s₁.heap.Ns builtinsNs mb) (hbb:∀ x:Str,x≠"__name__"->mb x=bootBuiltins x) (hlim:s₁.heap.NoLimit) (hg:s₁.gens=#[])
  (ha:s₁.heap.get? a=some { cls:=.type "list",data:=.seq vs.toArray }) (hi:IntsAre vs ns) (hl:ns.length<=sizeLine) (hr:Room k callerA)
  (F:∀ base:Heap,K.In base->base.Ns mainGlobals mg->FnOk P w K mg base CX k fa fd [x] sp) (wd:∀ (s:Shared) (u:Value),BindsTo s fd ⟨[u],[]⟩ [(x,u)])
  (nj:∀ H:Hp,Only H->SqL K H a (ns.map V.int)->sp [.ref a] H (λv _=>v=.bl true) λ_ _ _=>False)
  (yu:∀ H e s',CX [] H s₁ (λ_ _ _=>False) e s'->False) :
  codeAny (model P w) callerA (.call (.ref fa) ⟨[.ref a],[]⟩) (λr s'=>r=.ok (.ret (.bool true))/\OldK s₁.heap s'.heap/\s'.os=s₁.os/\AllBare s'.gens) s₁:=by
 have rv:=Go hi;have lenV:=hi.length
 have v6:∀ H:Hp,Only H->SqL K H a (ns.map V.int)->HOk P w H s₁.heap->(∀ b,H b≠none->b=a)->(H a≠none->K.lookup a=none) ->
   codeAny (model P w) callerA (.call (.ref fa) ⟨[.ref a],[]⟩) (λr s'=>r=.ok (.ret (.bool true))/\OldK s₁.heap s'.heap/\s'.os=s₁.os/\AllBare s'.gens) s₁:=by
  intro H hO hS hok hA hK;have nv:∀ {b:Addr} {o:Obj},s₁.heap.get? b=some o->H b=none->(hidT s₁.heap H).get? b=some o:=λe n=>Zhu e n
  have ut:∀ {b:Addr} {o:Obj} {es:Array DictEntry} {ep:Nat},s₁.heap.get? b=some o->o.data=.dict es ep->H b=none:=λ{b o es ep} e d=>by
   cases q:H b with
   | none=>rfl
   | some u =>
    have e':b=a:=hA b (by rw [q]; simp);subst e';rw [ha] at e; cases e;have d':Data.seq vs.toArray _=Data.dict es ep:=d;cases d'
  have wn:∀ {b:Addr} {m:Str->Option Value},s₁.heap.Ns b m->(hidT s₁.heap H).Ns b m:=λ{b m} ⟨o,es,ep,e,d,r⟩=>⟨o,es,ep,nv e (ut e d),d,r⟩
  have hKb:K.In (hidT s₁.heap H):=λb o e=>nv (KX b o e) (by
   cases q:H b with
   | none=>rfl
   | some u =>
    have e':b=a:=hA b (by rw [q]; simp);subst e'
    rw [hK (by rw [q]; simp)] at e; cases e)
  have hM:Mod K mg (hidT s₁.heap H):=⟨hKb,wn ql,⟨mb,wn hb,hbb⟩,let ⟨mc,h1,h2⟩:=hlim; ⟨mc,wn h1,h2⟩⟩;have e0:Env0 P w K mg (hidT s₁.heap H) callerA [] s₁ H:=⟨rfl,hM,λb o e=>Zi4 e,Nat.le_of_eq (Zge _ _),trivial,λb hb=>absurd (show b∈([]:List Addr) from hb) (by simp),hok,.of_eq hg⟩;refine codeAny_mono ((F _ hKb (wn ql)).run callerA [] s₁ H ⟨[.ref a],[]⟩ [.ref a] [.ref a] _ _ hr e0 (wd s₁ (.ref a)) (.cons Z .nil) (nj H hO hS)) λr s' h=>?_
  cases r with
  | error e=>exact (yu H e s' h).elim
  | ok fl =>
   cases fl with
   | next=>exact False.elim h
   | brk=>exact False.elim h
   | cont=>exact False.elim h
   | ret u =>
    obtain ⟨v,H',os,bare,un,hok',r',q⟩:=h;have q':v=.bl true:=q;subst q';obtain rfl:u=Value.bool true:=r';refine ⟨Z,OldK.of_keep λb o e=>?_,os,bare⟩
    cases q:H b with
    | none=>exact un.keep b o e q (by intro z; exact absurd (show b∈([]:List Addr) from z) (by simp)) (by simp)
    | some u =>
     rcases hO b with z | ⟨ob,xs,z⟩
     ·rw [q] at z; cases z
     ·have z2:=un.frzs b ob _ z
      obtain ⟨e1,_⟩:=hok b _ z;obtain ⟨e2,_⟩:=hok' b _ z2;rw [e] at e1; cases e1;exact e2
 cases hk:K.lookup a with
 | some o =>
  have e:=KX a o hk;rw [ha] at e;cases e;refine v6 (λ_=>none) (λ_=>.inl Z) (.inr ⟨_,vs.toArray,_,hk,Z,Z,Z,by rw [Aq,lenV]; exact hl,by simpa using rv⟩) (λb u z=>by have z':(none:Option HO)=some u:=z; cases z') (λb z=>absurd rfl z) λz=>absurd rfl z
 | none =>
  refine v6 (λb=>if b=a then some (.frz { cls:=.type "list",data:=.seq vs.toArray } (.lst (ns.map V.int))) else none) (λb=>?_) (.inl (.inr ⟨{ cls:=.type "list",data:=.seq vs.toArray },if_pos rfl⟩)) (λb u z=>?_) (λb z=>?_) λ_=>hk
  ·by_cases hb:b=a
   ·exact .inr ⟨_,_,if_pos hb⟩
   ·exact .inl (if_neg hb)
  ·by_cases hb:b=a
   ·have z':=(if_pos hb).symm.trans z
    cases z';subst hb;exact ⟨ha,by rw [Ab]; exact hl,vs,_,rv,ha⟩
   ·have z':=(if_neg hb).symm.trans z
    cases z'
  ·by_cases hb:b=a
   ·exact hb
   ·exact absurd (if_neg hb) z
abbrev KOf {K:W.Frag} {h:Heap} (_:K.In h):PySem.W.Frag:=K
def Zie {l:PySem.W.OpenLaw} {d:DefRec} {K:Params->PySem.W.Frag} {CX:World->CXT} {sp:World->Sp} {x:Str}
  (hn:l.most=some n) (qz:n<=sizeLine) (ve:d.params.defaults=[]) (hr:Room k callerA)
  (hY:∀ (w:World) (h:Heap),YP w h->(K w.params).In h)
  (F:∀ (w:World) (mg:Str->Option Value) (fa:Addr) (h:Heap),(K w.params).In h->h.Ns mainGlobals mg->mg d.name=some (.ref fa) ->
   ∃ fd:FuncData,(∀ (s:Shared) (u:Value),BindsTo s fd ⟨[u],[]⟩ [(x,u)]) /\
    ∀ base:Heap,(K w.params).In base->base.Ns mainGlobals mg->FnOk l.prog w (K w.params) mg base (CX w) k fa fd [x] (sp w))
  (nj:∀ (w:World) (H:Hp) (a:Addr) (ns:List Int),ns.length<=n->Only H->SqL (K w.params) H a (ns.map V.int)->sp w [.ref a] H (λv _=>v=.bl true) λ_ _ _=>False)
  (yu:∀ (w:World) (H:Hp) (s:Shared) (e:Value) (s':Shared),CX w [] H s (λ_ _ _=>False) e s'->False) :
  PySem.W.WalkO q nr XP YP l.row.toRowW d [] (λf vs=>PySem.call f vs):=by
 refine Att.attach_call hn ve λw s₀ s₁ mg mb fa o pm cd kf a vs ns G Y ho hd mz yb ss p0 jz hg=>?_;have KX:=hY w _ Y;obtain ⟨fd,hb,hF⟩:=F w mg fa _ KX G.T.g yb;exact Zhp KX G.T.g G.T.b G.T.builtins G.T.nolimit hg ss p0 (Nat.le_trans jz qz) hr hF hb (λH hO hS=>nj w H a ns jz hO hS) λH e s'=>yu w H s₁ e s'
def Yc (s:Stmt) (j:Nat):Stmt:=match s with
 | .ClassDef _ _ _ body _ _ _ _ _ _ _=>body.getD j (.Pass ⟨0,0,0,0⟩)
 | _=>.Pass ⟨0,0,0,0⟩
def Y6 (s:Stmt):Arguments:=match s with
 | .FunctionDef _ a _ _ _ _ _ _ _ _=>a
 | _=>{ posonlyargs:=[],args:=[],vararg:=none,kwonlyargs:=[],kw_defaults:=[],kwarg:=none,defaults:=[] }
def Yn (s:Stmt):List Stmt:=match s with
 | .FunctionDef _ _ b _ _ _ _ _ _ _=>b
 | _=>[]
def Ze (s:Stmt):Scope:=match s with
 | .FunctionDef _ _ _ _ _ _ sc _ _ _=>sc
 | _=>{ kind:=.function,names:=[],isGenerator:=false,isCoroutine:=false }
abbrev E0:XK:=λ_ _ _=>False
structure Fun (K:W.Frag) (x qual:Str) (st:Stmt) (f:Addr) (fd:FuncData):Prop where
 ex:∃ (oc:Value) (od:Option Addr) (kV kf pm:Value) (an:Option Addr) (j9 ct:Value) (qa:Array (Option Value)),
  fd=PySem.W.fnOf x qual (Y6 st) (Yn st) (Ze st) .none kV kf pm an j9 ct/\K.lookup f=some ⟨oc,od,.func fd,qa⟩/\PySem.W.codeIn K j9 qual=true
 kp:PySem.W.keepIn K (.ref f)=true
section
variable {P:Program} {w:World} {K:W.Frag} {mg:Str->Option Value} {base:Heap}
def Fun.binds {x qual:Str} {st:Stmt} {f:Addr} {fd:FuncData} {ps:List Str} (F:Fun K x qual st f fd)
  (h:∀ (kV kf pm:Value) (an:Option Addr) (j9 ct:Value) (us:List Value),us.length=ps.length->bindArgs (PySem.W.fnOf x qual (Y6 st) (Yn st) (Ze st) .none kV kf pm an j9 ct) ⟨us,[]⟩=pure (ps.zip us)):Xe K fd ps []:=by
 obtain ⟨oc,od,kV,kf,pm,an,j9,ct,qa,rfl,lk,mz⟩:=F.ex;exact .all (h kV kf pm an j9 ct)
def Kp {x qual:Str} {st:Stmt} {f:Addr} {oc:Value} {od an:Option Addr} {qa:Array (Option Value)} {kV kf pm j9 ct:Value} (l:K.lookup f=some ⟨oc,od,.func (PySem.W.fnOf x qual (Y6 st) (Yn st) (Ze st) .none kV kf pm an j9 ct),qa⟩)
  (c:PySem.W.codeIn K j9 qual=true) (k:PySem.W.keepIn K (.ref f)=true):Fun K x qual st f (PySem.W.fnOf x qual (Y6 st) (Yn st) (Ze st) .none kV kf pm an j9 ct):=⟨⟨oc,od,kV,kf,pm,an,j9,ct,qa,rfl,l,c⟩,k⟩
end
def Xl {A:Around} (hr:Room k A):A.units + 1 < cLine:=Nat.lt_of_le_of_lt (Nat.add_le_add_left (by decide:1<=64) _) hr.units
def Zv {n:Nat} (h:n<=1000):n < sizeLine:=Nat.lt_of_le_of_lt h (by decide)
section
variable {X:Cx}
def pv (i:Nat) (hN:X.N[i]?=some x:=by rfl) (hv:Vis X.env.scope x:=by first | exact Or.inl rfl | exact Or.inr (Or.inl rfl) | exact Or.inr (Or.inr rfl)) (hd:(x == ("__debug__":Str))=false:=by decide)
  (mz:(x == ("__classdict__":Str))=false:=by decide):PE X (.Name x pos) (tVar i):=Zj6 hN hv hd mz
end
def iteF {A B:Prop} (h:B):if false=true then A else B:=by
 rw [if_neg Bool.false_ne_true];exact h
def iteT {A B:Prop} (h:A):if true=true then A else B:=by
 rw [if_pos rfl];exact h
def ite2 {A B:Prop} [Decidable c] (h1:c->A) (h2:¬ c->B):if c then A else B:=by
 by_cases h:c
 ·rw [if_pos h]
  exact h1 h
 ·rw [if_neg h]
  exact h2 h
def Same (H H':Hp):Prop:=∀ b o,H b=some o->H' b=some o
def Same.refl (H:Hp):Same H H:=λ_ _ h=>h
def Same.trans (a:Same H H1) (b:Same H1 H2):Same H H2:=λc o h=>b c o (a c o h)
def Same.free {H H':Hp} (e:Same H H') {l:Addr} (h:H' l=Option.none):H l=Option.none:=by
 cases q:H l with
 | none=>rfl
 | some o =>
  rw [e l o q] at h;cases h
def Yr (env:Env):List (Str × NameKind)->List (Str × Addr)->List (Str × Addr)
 | [],j5=>j5
 | (n,k) :: r,j5=>if (k == NameKind.free)=true then (match env.cells.lookup n with
  | some c=>Yr env r ((n,c) :: j5)
  | none=>Yr env r j5) else Yr env r j5
theorem X9 {env:Env}:∀ (ns:List (Str × NameKind)) (j5:List (Str × Addr)),(∀ x c,j5.lookup x=some c->env.cells.lookup x=some c) ->
  ∀ x c,(Yr env ns j5).lookup x=some c->env.cells.lookup x=some c
 | [],j5,h=>h
 | (n,k) :: r,j5,h=>by
  unfold Yr;split
  ·cases e:env.cells.lookup n with
   | none=>exact X9 r j5 h
   | some c =>
    refine X9 r _ λx d hx=>?_;rw [List.lookup_cons] at hx
    cases hb:x == n with
    | true =>
     rw [hb] at hx;cases hx;rw [beq_iff_eq.mp hb];exact e
    | false =>
     rw [hb] at hx;exact h x d hx
  ·exact X9 r j5 h
theorem Wa:∀ (ns:List (Str × NameKind)) (j5:List (Str × Addr)) (x:Str),(∃ c,j5.lookup x=some c)->∃ c,(Yr env ns j5).lookup x=some c
 | [],j5,x,h=>h
 | (n,k) :: r,j5,x,h=>by
  unfold Yr;split
  ·cases e:env.cells.lookup n with
   | none=>exact Wa r j5 x h
   | some c =>
    refine Wa r _ x ?_;rw [List.lookup_cons]
    cases hb:x == n with
    | true=>exact ⟨c,Z⟩
    | false=>exact h
  ·exact Wa r j5 x h
theorem Wx {env:Env}:∀ (ns:List (Str × NameKind)) (j5:List (Str × Addr)) (x:Str),(x,NameKind.free)∈ns->(∃ c,env.cells.lookup x=some c)->∃ c,(Yr env ns j5).lookup x=some c
 | [],j5,x,h,_=>by cases h
 | (n,k) :: r,j5,x,h,hc=>by
  rcases Ar h with e | h
  ·cases e
   obtain ⟨c,hc⟩:=hc;unfold Yr;rw [if_pos (show (NameKind.free == NameKind.free)=true by decide),hc];exact Wa r _ n ⟨c,by rw [List.lookup_cons,beq_self_eq_true]⟩
  ·unfold Yr
   split
   ·cases e:env.cells.lookup n with
    | none=>exact Wx r j5 x h hc
    | some c=>exact Wx r _ x h hc
   ·exact Wx r j5 x h hc
theorem Qw {env:Env} (f:Str × NameKind->List (Str × Addr)->Sem (ForInStep (List (Str × Addr))))
  (hf:∀ name kind cs,f (name,kind) cs=if (kind == NameKind.free)=true then (do let a <- cellOf env name; pure (.yield ((name,a) :: cs))) else pure (.yield cs)) :
  ∀ (ns:List (Str × NameKind)) (j5:List (Str × Addr)),(∀ y∈ns,y.2=.free->∃ c,env.cells.lookup y.1=some c)->forIn ns j5 f=pure (Yr env ns j5)
 | [],j5,_=>by rw [List.forIn_nil]; rfl
 | (n,k) :: r,j5,h=>by
  rw [List.forIn_cons,hf];unfold Yr;have hr:∀ y∈r,y.2=.free->∃ c,env.cells.lookup y.1=some c:=λy hy=>h y (List.mem_cons_of_mem _ hy);split
  ·rename_i hk
   obtain ⟨c,hc⟩:=h (n,k) List.mem_cons_self (by simpa using hk);have r9:env.cells.lookup n=some c:=hc;have e:cellOf env n=pure c:=by unfold cellOf; rw [r9]
   rw [e,r9];exact Qw f hf r ((n,c) :: j5) hr
  ·exact Qw f hf r j5 hr
def Qa {env:Env} {scope:Scope} (h:∀ y∈scope.names,y.2=.free->∃ c,env.cells.lookup y.1=some c):closureFor scope env=pure (Yr env scope.names []):=by
 unfold closureFor;dsimp only;rw [Qw (env:=env) _ (λname kind cs=>by split <;> rfl) scope.names [] h];rfl
theorem Wo (env:Env):∀ (names:List (Str × NameKind)) (x:Str),
  (names.map λ(n,k)=>if (k == NameKind.free && env.scope.kind == .function && env.kindOf n == some .cell) then (n,NameKind.cell) else (n,k)).lookup x =
   (names.lookup x).map λk=>if (k == NameKind.free && env.scope.kind == .function && env.kindOf x == some .cell)=true then NameKind.cell else k
 | [],_=>rfl
 | (n,k) :: r,x=>by
  have ih:=Wo env r x;have e:(if (k == NameKind.free && env.scope.kind == .function && env.kindOf n == some .cell)=true then (n,NameKind.cell) else (n,k))=(n,if (k == NameKind.free && env.scope.kind == .function && env.kindOf n == some .cell)=true then NameKind.cell else k):=by split <;> rfl
  show List.lookup x ((if (k == NameKind.free && env.scope.kind == .function && env.kindOf n == some .cell)=true then (n,NameKind.cell) else (n,k)) :: _)=_;rw [e,List.lookup_cons,List.lookup_cons]
  cases hx:x == n with
  | true =>
   have e2:x=n:=beq_iff_eq.mp hx;subst e2;rfl
  | false=>exact ih
def Vn {env:Env} {names:List (Str × NameKind)} (hc:∀ y∈names,y.2≠.cell)
  (h:(names.map λ(n,k)=>if (k == NameKind.free && env.scope.kind == .function && env.kindOf n == some .cell) then (n,NameKind.cell) else (n,k)).lookup x=some k) (hk:k=.cell\/k=.free):names.lookup x=some .free:=by
 rw [Wo] at h
 cases e:names.lookup x with
 | none=>rw [e] at h; cases h
 | some k' =>
  rw [e] at h;have qo:k'≠.cell:=hc _ (PySem.mem_of_lookup e);have h':(if (k' == NameKind.free && env.scope.kind == .function && env.kindOf x == some .cell)=true then NameKind.cell else k')=k:=Ax h;split at h'
  ·rename_i q
   simp only [Bool.and_eq_true,beq_iff_eq] at q;rw [q.1.1]
  ·subst h'
   rcases hk with z | z
   ·exact absurd z qo
   ·rw [z]
def O7 {env:Env} {names:List (Str × NameKind)} (h:names.lookup x=some .free) :
  (names.map λ(n,k)=>if (k == NameKind.free && env.scope.kind == .function && env.kindOf n == some .cell) then (n,NameKind.cell) else (n,k)).lookup x≠some .local:=by
 rw [Wo,h];intro z;have z':(if (NameKind.free == NameKind.free && env.scope.kind == .function && env.kindOf x == some .cell)=true then NameKind.cell else NameKind.free)=.local:=Ax z;split at z' <;> cases z'
def Z9 (X:Cx) (N':List Str) (scope:Scope) (C:Addr) (s₀:Shared) (H₀:Hp) (ex:List Addr):Cx :=
 { X with N:=N',s₀:=s₀,H₀:=H₀,env:=compEnvC scope (Yr X.env scope.names []) C X.env,outer:=X.stack,ex:=ex,fn:=λ_=>false,pn:=[],xe:=λ_ _=>False }
def FvOk (X:Cx) (scope:Scope):List (Str × Nat)->Prop
 | []=>True
 | (x,j) :: r=>(X.N[j]?=some x/\scope.names.lookup x=some .free/\(X.env.kindOf x=some .cell\/X.env.kindOf x=some .free))/\FvOk X scope r
theorem FvOk.mem {X:Cx} {scope:Scope}:∀ {l:List (Str × Nat)},FvOk X scope l->∀ y∈l,X.N[y.2]?=some y.1/\scope.names.lookup y.1=some .free/\(X.env.kindOf y.1=some .cell\/X.env.kindOf y.1=some .free)
 | [],_,_,h=>by cases h
 | (x,j) :: r,h,y,hy=>by
  rcases Ar hy with e | hy
  ·cases e; exact h.1
  ·exact FvOk.mem h.2 y hy
def blkN (ts:List Str) (fv:List (Str × Nat)):List Str:=ts ++ fv.map (·.1)
def blkS (ts:List Str) (fv:List (Str × Nat)) (σ:St):St:=ts.map (λ_=>none) ++ fv.map λy=>(σ[y.2]?).join
structure BlkOk (X:Cx) (scope:Scope) (fv:List (Str × Nat)):Prop where
 kind:scope.kind=.function
 nocell:∀ y∈scope.names,y.2≠.cell
 names:∀ y∈scope.names,y.2=.local->scope.names.lookup y.1=some .local
 free:∀ y∈scope.names,y.2=.free->X.env.kindOf y.1=some .cell\/X.env.kindOf y.1=some .free
 fvs:FvOk X scope fv
section
variable {X:Cx} {jy:List (Addr × Obj)} {σ:St} {H:Hp} {s:Shared} {scope:Scope} {ts:List Str} {fv:List (Str × Nat)}
def Fd {h':Heap} {tk:Nat} (B:BlkOk X scope fv) (I:Inv X jy σ H s) (hf:∀ b∈fp,FpOk X jy H b) (ho:∀ b∈fp,∃ o,s.heap.get? b=some o)
  (hn:h'.Ns s.heap.objs.size (λ_=>none)) (hk:∀ b o,s.heap.get? b=some o->h'.get? b=some o) :
  Inv (Z9 X (blkN ts fv) scope s.heap.objs.size s H fp) [] (blkS ts fv σ) H { s with heap:=h',toks:=tk }:=by
 have has:∀ y∈scope.names,y.2=.free->∃ c,X.env.cells.lookup y.1=some c:=λy hy e=>I.ok.has y.1 (B.free y hy e);have t9:∀ x c,(Yr X.env scope.names []).lookup x=some c->X.env.cells.lookup x=some c:=X9 _ _ (λx c h=>by simp at h);have fr:∀ x,(scope.names.lookup x=some .free)->∃ c,(Yr X.env scope.names []).lookup x=some c:=λx hx =>
  Wx _ _ x (PySem.mem_of_lookup hx) (has _ (PySem.mem_of_lookup hx) rfl)
 have nfs:∀ b∈fp,b ∉ frs X.stack:=λb hb z=>by
  obtain ⟨_,h1,h2,_⟩:=hf b hb
  rcases Ar (I.stkSub b z) with e | e
  ·exact h1 e
  ·exact h2 e
 have lt:∀ b∈fp,b < s.heap.objs.size:=λb hb=>let ⟨o,e⟩:=ho b hb; Ao e
 refine ⟨⟨I.ok.mod,?_,I.ok.glob,I.ok.blt,An _,λx y c h1 h2=>I.ok.inj x y c (t9 x c h1) (t9 y c h2),λx hx=>?_,λ_ _ h=>absurd (show false=true from h) Bool.false_ne_true,I.ok.hd,I.ok.frames,.inl Z,λb hb=>⟨As (lt b hb),λx c e=>(hf b hb).2.2.2.2.1 x c (t9 x c e)⟩,I.bs,Nat.le_trans I.ok.bsz I.sz,λb o e hb=>?_,nfs,I.stack,I.stkFree⟩,
  rfl,I.bare,Un.kept hk,⟨_,hn,λi x v h1 h2 h3=>?_⟩,λx c e=>?_,I.fresh,λx c e=>I.freeC x c (t9 x c e),λp hp=>?_,I.hok.kept hk,?_⟩
 ·exact B.kind
 ·refine fr x ?_
  have md:(relabel scope X.env).names.lookup x=some .cell\/(relabel scope X.env).names.lookup x=some .free:=hx
  rcases md with e | e
  ·exact Vn B.nocell e (.inl Z)
  ·exact Vn B.nocell e (.inr Z)
 ·rcases (hf b hb).2.2.2.1 with z | z
  ·exact I.ok.noex b o e z
  ·exact absurd (Ag (Ao e) (Nat.le_trans I.ok.bsz z)) (Nat.lt_irrefl _)
 ·have h1:(ts ++ fv.map (·.1))[i]?=some x:=h1
  have h2:(ts.map (λ_=>(none:Option V)) ++ fv.map λy=>(σ[y.2]?).join)[i]?=some (some v):=h2;by_cases hi:i < ts.length
  ·rw [Av (by simpa using hi),Ah] at h2
   cases e:ts[i]? with
   | none=>rw [e] at h2; cases h2
   | some z=>rw [e] at h2; cases h2
  ·rw [List.getElem?_append_right (by simpa using hi),Ab,Ah] at h2
   rw [List.getElem?_append_right (by simpa using hi),Ah] at h1
   cases e:fv[i - ts.length]? with
   | none=>rw [e] at h2; cases h2
   | some y =>
    rw [e] at h1 h2;have e1:y.1=x:=by simpa using h1
    have e2:(σ[y.2]?).join=some v:=by simpa using h2
    obtain ⟨f1,f2,f3⟩:=B.fvs.mem y (Au e)
    have e3:σ[y.2]?=some (some v):=by
     cases q:σ[y.2]? with
     | none=>rw [q] at e2; cases e2
     | some z=>rw [q] at e2; exact congrArg some e2
    obtain ⟨m,hm,hl⟩:=I.loc;obtain ⟨u,r,l⟩:=hl y.2 y.1 v f1 e3 (by rcases f3 with z | z; exact .inr (.inl z); exact .inr (.inr z));rw [e1] at f2 f3 l;refine ⟨u,r,?_⟩;obtain ⟨c,hc⟩:=fr x f2;have r9:=t9 x c hc
    rcases l with ⟨l1,_⟩ | ⟨_,c2,l2,l3⟩
    ·rcases f3 with z | z
     ·rw [l1] at z; cases z
     ·rw [l1] at z; cases z
    ·rw [r9] at l2
     cases l2;have hv:Vis (relabel scope X.env) x:=h3
     rcases hv with z | z | z
     ·exfalso
      exact O7 f2 z
     ·exact .inr ⟨.inl z,c,hc,l3.keeps hk⟩
     ·exact .inr ⟨.inr z,c,hc,l3.keeps hk⟩
 ·obtain ⟨v,z⟩:=I.cell x c (t9 x c e)
  exact ⟨v,z.keeps hk⟩
 ·exact absurd (show p∈([]:List (Addr × Obj)) from hp) (by simp)
 ·show (ts.map (λ_=>(none:Option V)) ++ fv.map λy=>(σ[y.2]?).join).length=(ts ++ fv.map (·.1)).length
  simp
def Inv.apart (I:Inv X jy σ H s) (hs:Heap.SameBut C s.heap h') (hC:H C=none) (h0:X.s₀.heap.objs.size<=C) (hL:C≠X.env.locals) (hc:∀ x c,X.env.cells.lookup x=some c->c≠C) (hp:∀ p∈X.pn ++ jy,p.1≠C) :
  Inv X jy σ H { s with heap:=h' } :=
 I.turned (t':=s.toks) (it:=C) (λb o hb e=>(hs.2 b hb).trans e) hC hL (.inr h0) hc hp
def Zdl (I:Inv X jy σ H s) (hf:∀ b∈fp,FpOk X jy H b) (hC:s.heap.objs.size<=C)
  (J:Inv (Z9 X N' scope C s H fp) [] σ' H' s'):Inv X jy σ H' s'/\H' C=none/\X.s₀.heap.objs.size<=C/\C≠X.env.locals/\(∀ x c,X.env.cells.lookup x=some c->c≠C)/\(∀ p∈X.pn ++ jy,p.1≠C):=by
 refine ⟨I.call' J.os J.base J.hok J.bare λb hb=>?_,J.free,Nat.le_trans I.sz hC,Nat.ne_of_gt (Ag I.lt hC),λx c e z=>?_,λp hp z=>?_⟩
 ·obtain ⟨_,h1,_,h3,h4,h5⟩:=hf b hb
  exact ⟨h3,h1,h4,h5⟩
 ·obtain ⟨v,q⟩:=I.cell x c e
  exact absurd (Ag q.lt (by rw [z]; exact hC)) (Nat.lt_irrefl _)
 ·exact absurd (Ag (Ao (I.pin p hp).1) (by rw [z]; exact hC)) (Nat.lt_irrefl _)
end
abbrev TB:=St->Hp->(St->Hp->Prop)->Prop
def PTs (X:Cx) (ifs:List Expr) (t:TT):Prop :=
 ∀ (jy:List (Addr × Obj)) (s:Shared) (σ:St) (H:Hp) (Q:Bool->Hp->Prop),Inv X jy σ H s->t σ H Q ->
  wpAny (model X.prog X.w) X.A (forIn ifs true λc r=>if r=true then do let ok <- isTrue c X.env (eval c X.env); pure (ForInStep.yield ok) else pure (ForInStep.yield r)) (TP X jy σ Q) X.xe s
def tYes:TT:=λ_ H Q=>Q true H
def Yh:PTs X [] tYes:=λjy s σ H Q I h=>wpAny_tests_nil ⟨H,I,h⟩
def Zc4 (h:PT X c t):PTs X [c] t:=λjy s σ H Q I hq=>wpAny_tests_one (h jy s σ H Q I hq)
def PB (X:Cx) (kr:Sem Fin) (c:Code) (t:TB):Prop :=
 ∀ (jy:List (Addr × Obj)) (s:Shared) (σ:St) (H:Hp) (N:St->Hp->Prop),Inv X jy σ H s->t σ H N ->
  wpAny (model X.prog X.w) X.A kr (λk7 s'=>k7=.again c/\∃ σ' H',Inv X jy σ' H' s'/\N σ' H') X.xe s
def Jf (J:It) (g:TG) (tt:TT) (tb:TB) (R:St->Hp->Prop) (σ:St) (H:Hp):Prop :=
 ∃ W:Nat->Nat->St->Hp->Prop,(∃ m,W 0 m σ H)/\∀ i m σ H,W i m σ H ->
  (J.stop i H/\R σ H)\/(J.go i H/\∃ N:St->Hp->Prop,(∀ σ' H',N σ' H'->∃ m',m' < m/\W (i + 1) m' σ' H') /\
   ∀ x H',J.yld i H x H'->g x σ H' λσ2 H2=>tt σ2 H2 λb H3=>if b=true then tb σ2 H3 N else N σ2 H3)
section
variable {X:Cx}
theorem Vz {s:Shared} (o1:X.xe=λ_ _=>False)
  (hcq:Code.quiet (.compLoop e d (.ref it) j5 X.env)=true) (hden:(model X.prog X.w).den (.compLoop e d (.ref it) j5 X.env)=(compTurn e d (.ref it) j5 X.env).onRaise (λx=>do noteFrame x X.env; theTreesLotGoes x))
  (hund:X.A.under (.compLoop e d (.ref it) j5 X.env)=X.A)
  (pc:compTurn e d (.ref it) j5 X.env=(standAt p >>= λ_=>pyNext (.ref it) >>= λr=>match r with
   | none=>pure (.done .next)
   | some v=>letOwnedTupleGo tg (.ref it) v >>= λ_=>assign tg X.env v >>= λ_ =>
    (forIn ifs true λc r=>if r=true then do let ok <- isTrue c X.env (eval c X.env); pure (ForInStep.yield ok) else pure (ForInStep.yield r)) >>= λok =>
     if ok=true then kr else again (.compLoop e d (.ref it) j5 X.env)))
  (T:Turn X.prog X.w X.K tg J fp it tn) (hc:X.calm=true) (hg:PG X tg g) (ht:PTs X ifs tt) (hb:PB X kr (.compLoop e d (.ref it) j5 X.env) tb)
  (hf:∀ b∈fp,FpOk X jy H b) (I:Inv X jy σ H s) (st:tn 0 s.heap) (h:Jf J g tt tb R σ H)
  (hR:∀ s' σ' H',Inv X jy σ' H' s'->R σ' H'->RR (.ok .next) s') :
  codeAny (model X.prog X.w) X.A (.compLoop e d (.ref it) j5 X.env) RR s:=by
 obtain ⟨W,⟨m0,w0⟩,ph⟩:=h;have m8:∀ {H':Hp},(∀ b∈fp,H' b=none)->∀ b∈fp,FpOk X jy H' b:=λhn b hb=>⟨hn b hb,(hf b hb).2⟩;refine codeAny_loop hcq (λn s'=>∃ i σ' H',Inv X jy σ' H' s'/\tn i s'.heap/\(∀ b∈fp,H' b=none)/\W i n σ' H') ?_ m0 ⟨0,σ,H,I,st,λb hb=>(hf b hb).1,w0⟩;rintro n s3 ⟨i,σ3,H3,I3,l9,vi,w3⟩;rw [hden,hund];refine wpAny_noted (wpAny_mono (E:=λ_ _=>False) ?_ (λ_ _ q=>q) λ_ _ z=>z.elim);rw [pc];have hxe':∀ {α:Type} {t:Sem α} {Q:α->Shared->Prop} {s:Shared},wpAny (model X.prog X.w) X.A t Q X.xe s->wpAny (model X.prog X.w) X.A t Q (λ_ _=>False) s:=λh=>by rw [o1] at h; exact h
 refine Al (wpAny_standAt (Al ?_))
 rcases ph i n σ3 H3 w3 with ⟨stop,qn⟩ | ⟨go,N,hN,step⟩
 ·refine thn (T.done X rfl rfl rfl hc i jy s3 σ3 H3 _ I3 (m8 vi) l9 stop) λr s4 ⟨hr,I4⟩=>?_
  subst hr;exact wpAny_pure (hR s4 σ3 H3 I4 qn)
 ·refine thn (T.item X rfl rfl rfl hc i jy s3 σ3 H3 _ I3 (m8 vi) l9 go) λr s4 ⟨u,hr,h4⟩=>?_
  subst hr;refine Al (thn h4 λ_ s5 j4=>?_);obtain ⟨x,H5,I5,r5,y5,mq,yv⟩:=j4;have yy:=I5.pinned (m8 yv) (T.obj _ _ mq);refine Al (hxe' (thn (hg _ s5 σ3 H5 x u _ yy r5 (step x H5 y5)) λ_ s6 j4=>?_));obtain ⟨σ6,H6,I6,q6⟩:=j4;refine Al (o1 ▸ thn (ht _ s6 σ6 H6 _ I6 q6) λok s7 j4=>?_);obtain ⟨H7,I7,q7⟩:=j4;have v7:∀ {σ7:St} {H7:Hp} {s7:Shared},Inv X (jy ++ Vo fp s5.heap) σ7 H7 s7->N σ7 H7->∃ m,m < n/\∃ i σ' H',Inv X jy σ' H' s7/\tn i s7.heap/\(∀ b∈fp,H' b=none)/\W i m σ' H':=λ{σ7 H7 s7} I7 n7=>by
   obtain ⟨m',hm,w7⟩:=hN σ7 H7 n7
   refine ⟨m',hm,i + 1,σ7,H7,I7.unpinned,T.keep _ _ _ mq λb hb o e=>(I7.pin (b,o) (List.mem_append_right _ (List.mem_append_right _ (Jc hb e)))).1,λb hb=>?_,w7⟩
   obtain ⟨o,e,d⟩:=T.obj _ _ mq b hb
   exact (I7.pin (b,o) (List.mem_append_right _ (List.mem_append_right _ (Jc hb e)))).2.1
  cases ok with
  | false=>exact o1 ▸ wpAny_pure ⟨Z,v7 I7 q7⟩
  | true =>
   refine thn (hb _ s7 σ6 H7 N I7 q7) λk7 s8 j4=>?_;obtain ⟨hfin,σ8,H8,I8,q8⟩:=j4;subst hfin;exact ⟨Z,v7 I8 q8⟩
end
def Zh4 (te:TE) (D:Addr):TB:=λσ H N=>te σ H λv H1=>∃ xs,H1 D=some (.lst xs)/\xs.length < sizeLine/\N σ (upd H1 D (.lst (xs ++ [v])))
section
variable {X:Cx}
def Ym (he:PE X lh te) :
  PB X ((eval lh X.env >>= λx=>call (.builtin "list.append") [.ref D,x] >>= λ_=>pure ()) >>= λ_=>again c) c (Zh4 te D):=by
 intro jy s σ H N I h;refine Al (Al (thn (he jy s σ H _ I h) λu s1 j4=>?_));obtain ⟨v,H1,I1,r1,q1⟩:=j4;obtain ⟨xs,hD,hl,q⟩:=q1;refine Al (thn (J6 jy s1 σ H1 (.ref D) [v] (.ref D) [u] (λ_ H2=>N σ H2) I1 Z (.cons r1 .nil) ⟨D,xs,v,Z,Z,hD,hl,q⟩) λ_ s2 j4=>?_);obtain ⟨_,H2,I2,_,q2⟩:=j4;exact wpAny_pure (wpAny_pure ⟨Z,σ,H2,I2,q2⟩)
def tGen (wi:TI) (g:TG) (tt:TT) (tb:TB):TB:=λσ H N=>wi σ H λJ H1=>Jf J g tt tb N σ H1
def Zet {t0 i0:Expr} {f0:List Expr} {t1 i1:Expr} {f1:List Expr}
  (h0:codeAny (model prog w) A (.compLoop (.ListComp lh [⟨t0,i0,f0,0⟩,⟨t1,i1,f1,0⟩] scope pos) 1 it j5 env) R s)
  (h:wpAny (model prog w) A (pyIter it) (λxj s'=>codeAny (model prog w) A (.compLoop (.ListComp lh [⟨t0,i0,f0,0⟩,⟨t1,i1,f1,0⟩] scope pos) 1 xj j5 env) R s')
   (notedBy (model prog w) A env λx s'=>R (.error x) s') s) :
  codeAny (model prog w) A (.compStart (.ListComp lh [⟨t0,i0,f0,0⟩,⟨t1,i1,f1,0⟩] scope pos) 1 it j5 env) R s:=by
 refine codeAny_of_tree ?_;show wpAny _ _ ((compStart (.ListComp lh [⟨t0,i0,f0,0⟩,⟨t1,i1,f1,0⟩] scope pos) 1 it j5 env).onRaise (λx=>do noteFrame x env; standAt theWindowsPlace)) _ _ s;refine wpAny_notedAt ?_;unfold compStart;show wpAny _ _ (ask >>= _) _ _ s;refine Al (wpAny_askSetting (wpAny_ite ?_));split
 ·first
   | exact Al (wpAny_pure (wpAny_pure (And.intro Z h0)))
   | exact wpAny_pure (And.intro Z h0)
 ·first
   | exact Al (wpAny_rule (Al (wpAny_standAt (Al (wpAny_mono h (λxj s' h'=>wpAny_pure (And.intro Z h')) λ_ _ x=>x)))))
   | (refine Al (wpAny_rule ?_); show wpAny _ _ (standAt i1.pos >>= _) _ _ s; exact Al (wpAny_standAt (Al (wpAny_mono h (λxj s' h'=>wpAny_pure (And.intro Z h')) λ_ _ x=>x))))
def Zj9 {t0 i0 i1:Expr} {f0:List Expr} (o1:X.xe=λ_ _=>False) (hc:X.calm=true)
  (hi:PI X t1 i1 wi) (hg:PG X t1 g) (ht:PTs X f1 tt) (he:PE X lh te) (hs:∀ x,foldedSetIterable i1 X.env x=pure x:=by intro _; rfl) :
  PB X (eval i1 X.env >>= λx=>standAt i1.pos >>= λ_=>foldedSetIterable i1 X.env x >>= λx=>holding [x] (pyIter x) >>= λit =>
   runOwn (.compStart (.ListComp lh [⟨t0,i0,f0,0⟩,⟨t1,i1,f1,0⟩] scope pos) 1 it (.ref D) X.env) X.env >>= λ_=>again c) c (tGen wi g tt (Zh4 te D)):=by
 intro jy s σ H N I h;refine Al (thn (hi jy s σ H _ I h) λv s1 h1=>Al (wpAny_standAt ?_));rw [hs];refine Al (wpAny_pure (Al (wpAny_holding (thn h1 λuw s2 h2=>?_))));obtain ⟨it,fp,tn,J,H2,e,I2,T,l6,f2,L⟩:=h2;subst e;have loop:∀ (A:Around),A=X.A->codeAny (model X.prog X.w) A (.compLoop (.ListComp lh [⟨t0,i0,f0,0⟩,⟨t1,i1,f1,0⟩] scope pos) 1 (.ref it) (.ref D) X.env)
   (λr s'=>match r with | .ok f=>wpAny (model X.prog X.w) X.A (again c) (λk7 s'=>k7=.again c/\∃ σ' H',Inv X jy σ' H' s'/\N σ' H') X.xe s' | .error e=>cameBackBy (model X.prog X.w) X.A X.env X.xe e s') s2:=by
  rintro A rfl
  exact Vz (tg:=t1) (ifs:=f1) (R:=N) o1 Z Z Z Z T hc hg ht (Ym (c:=.compLoop (.ListComp lh [⟨t0,i0,f0,0⟩,⟨t1,i1,f1,0⟩] scope pos) 1 (.ref it) (.ref D) X.env) he) f2 I2 l6 L λs' σ' H' I' q=>wpAny_pure ⟨Z,σ',H',I',q⟩
 refine Al (wpAny_runOwn (h:=none) ?_);exact Zet (loop _ Z) (T.self _ _ _ _ _ l6 (loop _ Z))
end
def Zds (ts:List Str) (fv:List (Str × Nat)) (wi:TI) (g:TG) (tt:TT) (tb:Addr->TB):TE:=λσ H Q=>wi σ H λJ H1=>∀ D,H1 D=none ->
 Jf J g tt (tb D) (λ_ H'=>Q (.ref D) H') (blkS ts fv σ) (upd H1 D (.lst []))
section
variable {X:Cx} {ts:List Str} {fv:List (Str × Nat)} {scope:Scope} {lh t0 i0:Expr} {f0:List Expr} {rest:List Comprehension} {pos:Pos} {wi:TI} {g:TG} {tt:TT} {tb:Addr->TB} {kr:Env->Addr->Addr->Sem Fin}
theorem Fc (B:BlkOk X scope fv) (hc:X.calm=true) (hi:PI X t0 i0 wi)
  (hg:∀ C s₀ H₀ ex,PG (Z9 X (blkN ts fv) scope C s₀ H₀ ex) t0 g) (ht:∀ C s₀ H₀ ex,PTs (Z9 X (blkN ts fv) scope C s₀ H₀ ex) f0 tt)
  (pc:∀ (env:Env) (it D:Addr),compTurn (.ListComp lh (⟨t0,i0,f0,0⟩ :: rest) scope pos) 0 (.ref it) (.ref D) env=(standAt i0.pos >>= λ_=>pyNext (.ref it) >>= λr=>match r with
   | none=>pure (.done .next)
   | some v=>letOwnedTupleGo t0 (.ref it) v >>= λ_=>assign t0 env v >>= λ_ =>
    (forIn f0 true λc r=>if r=true then do let ok <- isTrue c env (eval c env); pure (ForInStep.yield ok) else pure (ForInStep.yield r)) >>= λok =>
     if ok=true then kr env it D else again (.compLoop (.ListComp lh (⟨t0,i0,f0,0⟩ :: rest) scope pos) 0 (.ref it) (.ref D) env)))
  (hb:∀ C s₀ H₀ ex it D,PB (Z9 X (blkN ts fv) scope C s₀ H₀ ex) (kr (Z9 X (blkN ts fv) scope C s₀ H₀ ex).env it D) (.compLoop (.ListComp lh (⟨t0,i0,f0,0⟩ :: rest) scope pos) 0 (.ref it) (.ref D) (Z9 X (blkN ts fv) scope C s₀ H₀ ex).env) (tb D)) {RR:Value->Addr->Result->Shared->Prop} (I:Inv X jy σ H s) (h:Zds ts fv wi g tt tb σ H Q)
  (yp:∀ D C s' H',Inv X jy σ H' s'->H' C=none->X.s₀.heap.objs.size<=C->C≠X.env.locals->(∀ x c,X.env.cells.lookup x=some c->c≠C)->(∀ p∈X.pn ++ jy,p.1≠C)->(∃ m,s'.heap.Ns C m)->Q (.ref D) H'->RR (.ref D) C (.ok .next) s') :
  wpAny (model X.prog X.w) X.A (eval i0 X.env) (λx s₁=>wpAny (model X.prog X.w) X.A (pyIter x) (λit s₂=>wpAny (model X.prog X.w) X.A (newList []) (λj5 s₃ =>
   wpAny (model X.prog X.w) X.A (newFunctionEnv scope X.env.globals (Yr X.env scope.names []) [] X.env.qual none .none (some X.env)) (λmm s₄ =>
    codeAny (model X.prog X.w) X.A (.compStart (.ListComp lh (⟨t0,i0,f0,0⟩ :: rest) scope pos) 0 it j5 { mm with scope:=relabel scope X.env }) (RR j5 mm.locals) s₄) X.xe s₃) X.xe s₂) X.xe s₁) X.xe s:=by
 refine thn (hi jy s σ H _ I h) λv s1 h1=>thn h1 λuw s2 h2=>?_;obtain ⟨it,fp,tn,J,H2,e,I2,T,l6,f2,L⟩:=h2;subst e;have L:=L s2.heap.objs.size I2.fresh;refine wpAny_newObj_type ?_;have I3:Inv X jy σ (upd H2 s2.heap.objs.size (.lst [])) { s2 with heap:=s2.heap.push { cls:=.type "list",data:=.seq ([]:List Value).toArray },toks:=s2.toks }:=I2.lnew (its:=[]) (t':=s2.toks) .nil (Az _);have u7:∀ b∈fp,∃ o,s2.heap.get? b=some o/\∀ v,o.data≠.cell v:=T.obj _ _ l6;have f3:∀ b∈fp,FpOk X jy (upd H2 s2.heap.objs.size (.lst [])) b:=λb hb=>by
  obtain ⟨o,ho,_⟩:=u7 b hb
  refine ⟨?_,(f2 b hb).2⟩
  rw [Zf (As (Ao ho))]
  exact (f2 b hb).1
 have l9:tn 0 (s2.heap.push { cls:=.type "list",data:=.seq ([]:List Value).toArray }):=T.keep _ _ _ l6 λb _ o e=>Ak _ e;have rq:∀ b∈fp,∃ o,(s2.heap.push { cls:=.type "list",data:=.seq ([]:List Value).toArray }).get? b=some o:=λb hb=>let ⟨o,e,_⟩:=u7 b hb; ⟨o,Ak _ e⟩
 generalize hs3:({ s2 with heap:=s2.heap.push { cls:=.type "list",data:=.seq ([]:List Value).toArray },toks:=s2.toks }:Shared)=s3 at I3;have eh:s2.heap.push { cls:=.type "list",data:=.seq ([]:List Value).toArray }=s3.heap:=by rw [<- hs3]
 rw [eh] at l9 rq;refine wpAny_newFunctionEnv B.nocell (by intro y hy; simp at hy) (λh₁ ql rl=>?_) B.kind;have hk:∀ b o,s3.heap.get? b=some o->h₁.get? b=some o:=λb o e=>rl.extBut b o (As (Ao e)) (Ak _ e);have I4:=Fd (ts:=ts) (tk:=s3.toks + ([]:List (Str × Value)).length) B I3 f3 rq ql hk;have f4:∀ b∈fp,FpOk (Z9 X (blkN ts fv) scope s3.heap.objs.size s3 (upd H2 s2.heap.objs.size (.lst [])) fp) [] (upd H2 s2.heap.objs.size (.lst [])) b:=λb hb=>by
  obtain ⟨f0,f1,f2',f3',f4',f5'⟩:=f3 b hb
  obtain ⟨o,eo⟩:=rq b hb
  exact ⟨f0,As (Ao eo),I4.ok.exfs b hb,.inl hb,(I4.ok.exf b hb).2,λp hp=>absurd (show p∈([]:List (Addr × Obj)) from hp) (by simp)⟩
 have um:tn 0 h₁:=T.keep _ _ _ l9 λb _ o e=>hk b o e;have loop:codeAny (model X.prog X.w) X.A (.compLoop (.ListComp lh (⟨t0,i0,f0,0⟩ :: rest) scope pos) 0 (.ref it) (.ref s2.heap.objs.size) (Z9 X (blkN ts fv) scope s3.heap.objs.size s3 (upd H2 s2.heap.objs.size (.lst [])) fp).env)
   (RR (.ref s2.heap.objs.size) s3.heap.objs.size) { s3 with heap:=h₁,toks:=s3.toks + ([]:List (Str × Value)).length }:=by
  refine Vz (X:=Z9 X (blkN ts fv) scope s3.heap.objs.size s3 (upd H2 s2.heap.objs.size (.lst [])) fp) (tg:=t0) (ifs:=f0) (R:=λ_ H'=>Q (.ref s2.heap.objs.size) H') Z Z Z Z (pc _ it s2.heap.objs.size) T hc (hg _ _ _ _) (ht _ _ _ _) (hb _ _ _ _ it s2.heap.objs.size) f4 I4 um L λs' σ' H' J' q=>?_
  obtain ⟨e1,e2,e3,e4,e5,e6⟩:=Zdl I3 f3 (An _) J'
  obtain ⟨m,hm,_⟩:=J'.loc
  exact yp _ _ s' H' e1 e2 e3 e4 e5 e6 ⟨m,hm⟩ q
 exact codeAny_compStart_list loop (T.self _ _ _ _ _ um loop)
theorem Yo (B:BlkOk X scope fv) (hc:X.calm=true) (hi:PI X t0 i0 wi)
  (hg:∀ C s₀ H₀ ex,PG (Z9 X (blkN ts fv) scope C s₀ H₀ ex) t0 g) (ht:∀ C s₀ H₀ ex,PTs (Z9 X (blkN ts fv) scope C s₀ H₀ ex) f0 tt)
  (pc:∀ (env:Env) (it D:Addr),compTurn (.ListComp lh (⟨t0,i0,f0,0⟩ :: rest) scope pos) 0 (.ref it) (.ref D) env=(standAt i0.pos >>= λ_=>pyNext (.ref it) >>= λr=>match r with
   | none=>pure (.done .next)
   | some v=>letOwnedTupleGo t0 (.ref it) v >>= λ_=>assign t0 env v >>= λ_ =>
    (forIn f0 true λc r=>if r=true then do let ok <- isTrue c env (eval c env); pure (ForInStep.yield ok) else pure (ForInStep.yield r)) >>= λok =>
     if ok=true then kr env it D else again (.compLoop (.ListComp lh (⟨t0,i0,f0,0⟩ :: rest) scope pos) 0 (.ref it) (.ref D) env)))
  (hb:∀ C s₀ H₀ ex it D,PB (Z9 X (blkN ts fv) scope C s₀ H₀ ex) (kr (Z9 X (blkN ts fv) scope C s₀ H₀ ex).env it D) (.compLoop (.ListComp lh (⟨t0,i0,f0,0⟩ :: rest) scope pos) 0 (.ref it) (.ref D) (Z9 X (blkN ts fv) scope C s₀ H₀ ex).env) (tb D))
  (hs:∀ x,foldedSetIterable i0 X.env x=pure x:=by intro _; rfl) :
  PE X (.ListComp lh (⟨t0,i0,f0,0⟩ :: rest) scope pos) (Zds ts fv wi g tt tb):=by
 intro jy s σ H Q I h;rw [eval_ListComp];refine wpAny_comprehension_free (use:=none) Z hs (Qa λy hy e=>I.ok.has y.1 (B.free y hy e)) B.kind B.names ?_;refine Fc (RR:=λj5 C=>compPost (model X.prog X.w) X.A X.xe none (EP X jy σ Q) j5 C) B hc hi hg ht pc hb I h λD C s' H' I' e2 e3 e4 e5 e6 hm q=>?_;obtain ⟨m,hm⟩:=hm;exact ⟨m,hm,λh' u4=>⟨.ref D,H',I'.apart u4 e2 e3 e4 e5 e6,Z,q⟩⟩
theorem J9 {vm:Pos} (B:BlkOk X scope fv) (hc:X.calm=true) (hN:X.N.Nodup) (hiy:X.N[i]?=some y) (hyl:X.env.scope.names.lookup y=some .local)
  (hsw:swapsWith (.ListComp lh (⟨t0,i0,f0,0⟩ :: rest) scope pos) (some (.Name y py)) vm.line X.env=pure true) (hi:PI X t0 i0 wi)
  (hg:∀ C s₀ H₀ ex,PG (Z9 X (blkN ts fv) scope C s₀ H₀ ex) t0 g) (ht:∀ C s₀ H₀ ex,PTs (Z9 X (blkN ts fv) scope C s₀ H₀ ex) f0 tt)
  (pc:∀ (env:Env) (it D:Addr),compTurn (.ListComp lh (⟨t0,i0,f0,0⟩ :: rest) scope pos) 0 (.ref it) (.ref D) env=(standAt i0.pos >>= λ_=>pyNext (.ref it) >>= λr=>match r with
   | none=>pure (.done .next)
   | some v=>letOwnedTupleGo t0 (.ref it) v >>= λ_=>assign t0 env v >>= λ_ =>
    (forIn f0 true λc r=>if r=true then do let ok <- isTrue c env (eval c env); pure (ForInStep.yield ok) else pure (ForInStep.yield r)) >>= λok =>
     if ok=true then kr env it D else again (.compLoop (.ListComp lh (⟨t0,i0,f0,0⟩ :: rest) scope pos) 0 (.ref it) (.ref D) env)))
  (hb:∀ C s₀ H₀ ex it D,PB (Z9 X (blkN ts fv) scope C s₀ H₀ ex) (kr (Z9 X (blkN ts fv) scope C s₀ H₀ ex).env it D) (.compLoop (.ListComp lh (⟨t0,i0,f0,0⟩ :: rest) scope pos) 0 (.ref it) (.ref D) (Z9 X (blkN ts fv) scope C s₀ H₀ ex).env) (tb D))
  (hs:∀ x,foldedSetIterable i0 X.env x=pure x:=by intro _; rfl) :
  PS X (.Assign [.Name y py] (.ListComp lh (⟨t0,i0,f0,0⟩ :: rest) scope pos) vm) (tAsg (Zds ts fv wi g tt tb) (Z8 i)):=by
 intro jy s σ H D0 I h;rw [exec_Assign_Name_used _ _ _ _ hsw];refine Al (wpAny_standAt (Al ?_));show wpAny _ X.A (do let _ <- comprehension (.ListComp lh (⟨t0,i0,f0,0⟩ :: rest) scope pos) scope X.env _ (newList []) false (eval i0 X.env) (some (assign (.Name y py) X.env))) _ _ s;refine Al (wpAny_mono (wpAny_comprehension_free (use:=some (assign (.Name y py) X.env)) (Q:=λ_ s'=>SP X jy D0 .next s') Z hs (Qa λy hy e=>I.ok.has y.1 (B.free y hy e)) B.kind B.names ?_) (λ_ s' hq=>wpAny_pure (wpAny_pure hq)) λ_ _ e=>e);refine Fc (Q:=λx H1=>Z8 i x σ H1 D0.nx) (RR:=λj5 C=>compPost (model X.prog X.w) X.A X.xe (some (assign (.Name y py) X.env)) (λ_ s'=>SP X jy D0 .next s') j5 C) B hc hi hg ht pc hb I h λD C s' H' I' e2 e3 e4 e5 e6 hm q=>?_;obtain ⟨m,hm⟩:=hm;show wpAny _ X.A (assign (.Name y py) X.env (.ref D)) _ _ _;refine wpAny_assign_Name (Gp I' hN hiy (.inl hyl) (show RelV (.ref D) (.ref D) from Z) (λmr I'' ou=>?_) (.inr hyl));obtain ⟨a,rl,ha⟩:=ou;have haC:C≠a:=by
  rcases ha with e | e
  ·rw [e]; exact e4
  ·exact λz=>e5 y a e z.symm
 exact ⟨m,hm.sameBut rl haC,λh' u4=>⟨_,H',I''.apart u4 e2 e3 e4 e5 e6,q⟩⟩
end
def FlyT (e T:Addr) (cls a0:Value) (h:Heap):Prop :=
 ∃ oe vs oT ts,h.get? e=some oe/\(oe.cls=cls/\vs[0]?=some a0)/\oe.data=.fields vs/\vs[1]?=some (.ref T)/\T≠e/\h.get? T=some oT/\oT.data=.fields ts/\ts[3]?=some .none
def CXr (P:Program) (w:World):CXT:=λouter H s E ev s' =>
 ∃ (e T:Addr) (cls a0:Value) (H':Hp),ev=.ref e/\s'.os=s.os/\AllBare s'.gens/\Un (frs outer) [] H H' s.heap s'.heap/\HOk P w H' s'.heap /\
  s.heap.get? e=none/\s.heap.get? T=none/\H' e=none/\H' T=none/\FlyT e T cls a0 s'.heap/\E cls none H'
def Yg {X:Cx}:Jv (CXr X.prog X.w) X E0:=λ_ _ _ _ _ _ _ h=>by
 obtain ⟨_,_,_,_,_,_,_,_,_,_,_,_,_,_,_,z⟩:=h;exact z.elim
def Zjc (h:CXr P w [] H s (λ_ _ _=>False) e s'):False:=by
 obtain ⟨_,_,_,_,_,_,_,_,_,_,_,_,_,_,_,z⟩:=h;exact z
section
variable {P:Program} {w:World} {K:W.Frag} {mg:Str->Option Value} {base:Heap}
def Fun.okR {x qual:Str} {st:Stmt} {f:Addr} {fd:FuncData} {N ps:List Str} {k:Nat} {sp:Sp} (F:Fun K x qual st f fd) (S:FnScope N ps (Ze st)) (len:∀ vs H Q E,sp vs H Q E->vs.length=ps.length)
  (kl:∀ (j9:Value) (A:Around) (outer:List Env) (s:Shared) (H:Hp) (vs:List V) (Q:VK) (E:XK),Room k (A.deeper (envOfC qual (Ze st) s.heap.objs.size f j9))->sp vs H Q E ->
   ∃ t,PSs (cxOf (CXr P w) P w K mg base N qual (Ze st) f j9 A outer s H E).nox (Yn st) t/\t { nx:=λ_ H'=>Q .non H',rt:=Q } (X8 N vs) H):FnOk P w K mg base (CXr P w) (k + 1) f fd ps sp:=by
 obtain ⟨oc,od,kV,kf,pm,an,j9,ct,qa,rfl,lk,mz⟩:=F.ex;refine Zer lk mz S len λA outer s H vs Q E hr nj=>?_;obtain ⟨t,h,q⟩:=kl j9 A outer s H vs Q E hr nj;exact ⟨t,h.nox,q⟩
end
section
variable {X:Cx}
def Zcv:Y7 X (.builtin "isinstance") (λxs H Q=>∃ x T t b,xs=[x,.ty T]/\TyOf X.K H x t/\PySem.W.kitOne X.K t (.type T)=some b/\Q (.bl b) H):=by
 intro jy s σ H xs us Q I r h;obtain ⟨x,T,t,b,rfl,uz,hk,q⟩:=h;obtain ⟨u,v,rfl,ru,rv⟩:=r.two;obtain rfl:v=Value.type T:=rv;exact Zgc I ru uz hk λtk=>⟨.bl b,H,I.tok _,Z,q⟩
def Zhq {K:W.Frag} {T:String}:PySem.W.kitOne K (.type T) (.type T)=some true:=by
 unfold PySem.W.kitOne;rw [if_pos (by simp)]
def Yf {X:Cx} {scope:Scope} (h:scope.names.all (λy=>y.2 != .free || X.env.kindOf y.1 == some .cell || X.env.kindOf y.1 == some .free)=true) :
  ∀ y∈scope.names,y.2=.free->X.env.kindOf y.1=some .cell\/X.env.kindOf y.1=some .free:=λy hy e=>by
 have:=List.all_eq_true.mp h y hy;simp [e] at this;exact this
end
def walk_r {l:PySem.W.OpenLaw} {k:Nat} {q:Program} {nr:List Str} {XP:(Str->Option Value)->Heap->Prop} {YP:World->Heap->Prop} {d:DefRec} {K:Params->PySem.W.Frag} {spl:PySem.W.Frag->Sp}
  (hn:l.most=some 63) (ve:d.params.defaults=[]) (hr:Room k callerA) (hY:∀ (w:World) (h:Heap),YP w h->(K w.params).In h)
  (nj:∀ (K:W.Frag) (H:Hp) (a:Addr) (ns:List Int),ns.length<=63->SqL K H a (ns.map V.int)->spl K [.ref a] H (λv _=>v=.bl true) λ_ _ _=>False)
  (F:∀ (w:World) (mg:Str->Option Value) (fa:Addr) (h:Heap),(K w.params).In h->h.Ns mainGlobals mg->mg d.name=some (.ref fa) ->
   ∃ fd:FuncData,(∀ (s:Shared) (u:Value),BindsTo s fd ⟨[u],[]⟩ [("_law_script",u)]) /\
    ∀ base:Heap,(K w.params).In base->base.Ns mainGlobals mg->FnOk l.prog w (K w.params) mg base (CXr l.prog w) k fa fd ["_law_script"] (spl (K w.params))) :
  PySem.W.WalkO q nr XP YP l.row.toRowW d [] (λf vs=>PySem.call f vs) :=
 Zie (n:=63) (k:=k) (x:="_law_script") (CX:=λw=>CXr l.prog w) (sp:=λw=>spl (K w.params)) hn (by decide) ve hr hY F (λw H a ns hl _ hS=>nj _ H a ns hl hS) (λw H s e s' h=>Zjc h)
def ExT (e:Addr) (T:Option Addr) (cls a0:Value) (h:Heap):Prop:=match T with
 | some T=>FlyT e T cls a0 h
 | none=>∃ oe vs,h.get? e=some oe/\(oe.cls=cls/\vs[0]?=some a0)/\oe.data=.fields vs/\vs[1]?=some .none
structure FxOk (X:Cx) (jy:List (Addr × Obj)) (H:Hp) (b:Addr):Prop where
 nt:H b=none
 nl:b≠X.env.locals
 nf:b ∉ X.fs
 n0:X.s₀.heap.get? b=none
 nc:∀ x c,X.env.cells.lookup x=some c->c≠b
 np:∀ p∈X.pn ++ jy,p.1≠b
def XS (fr:Bool) (X:Cx) (jy:List (Addr × Obj)) (R:Value->St->Hp->Prop) (ev:Value) (s':Shared):Prop :=
 ∃ (e:Addr) (T:Option Addr) (cls a0:Value) (σ':St) (H':Hp),ev=.ref e/\Inv X jy σ' H' s'/\ExT e T cls a0 s'.heap/\FxOk X jy H' e/\(∀ t,T=some t->FxOk X jy H' t)/\(T=none->fr=true)/\R cls σ' H'
abbrev TSX:=Ends->(Value->St->Hp->Prop)->St->Hp->Prop
abbrev TEX:=St->Hp->VK->XK->Prop
def PSX (fr:Bool) (X:Cx) (st:Stmt) (t:TSX):Prop :=
 ∀ (jy:List (Addr × Obj)) (s:Shared) (σ:St) (H:Hp) (D:Ends) (R:Value->St->Hp->Prop),Inv X jy σ H s->t D R σ H->wpAny (model X.prog X.w) X.A (exec st X.env) (SP X jy D) (XS fr X jy R) s
def PSsX (fr:Bool) (X:Cx) (st:List Stmt) (t:TSX):Prop :=
 ∀ (jy:List (Addr × Obj)) (s:Shared) (σ:St) (H:Hp) (D:Ends) (R:Value->St->Hp->Prop),Inv X jy σ H s->t D R σ H->wpAny (model X.prog X.w) X.A (execs st X.env) (SP X jy D) (XS fr X jy R) s
def PEX (fr:Bool) (X:Cx) (e:Expr) (t:TEX):Prop :=
 ∀ (jy:List (Addr × Obj)) (s:Shared) (σ:St) (H:Hp) (Q:VK) (E:XK),Inv X jy σ H s->t σ H Q E->wpAny (model X.prog X.w) X.A (eval e X.env) (EP X jy σ Q) (XS fr X jy λcls σ' H'=>σ'=σ/\E cls none H') s
section
variable {X:Cx} {fr:Bool}
def Zw {st:Stmt} {t:TS} (h:PS X st t) (hx:X.xe=(λ_ _=>False):=by rfl):PSX fr X st (λD _ σ H=>t D σ H):=λjy s σ H D R I q=>by
 have:=h jy s σ H D I q;rw [hx] at this;exact wpAny_mono this (λ_ _ z=>z) λ_ _ z=>z.elim
def Y4 {st:List Stmt} {t:TS} (h:PSs X st t) (hx:X.xe=(λ_ _=>False):=by rfl):PSsX fr X st (λD _ σ H=>t D σ H):=λjy s σ H D R I q=>by
 have:=h jy s σ H D I q;rw [hx] at this;exact wpAny_mono this (λ_ _ z=>z) λ_ _ z=>z.elim
def Jo {e:Expr} {t:TE} (h:PE X e t) (hx:X.xe=(λ_ _=>False):=by rfl):PEX fr X e (λσ H Q _=>t σ H Q):=λjy s σ H Q E I q=>by
 have:=h jy s σ H Q I q;rw [hx] at this;exact wpAny_mono this (λ_ _ z=>z) λ_ _ z=>z.elim
def Zdr (t u:TSX):TSX:=λD R σ H=>t { D with nx:=u D R } R σ H
def Zi {st:Stmt} {rest:List Stmt} {t u:TSX} (h1:PSX fr X st t) (h2:PSsX fr X rest u):PSsX fr X (st :: rest) (Zdr t u):=by
 intro jy s σ H D R I h;refine wpAny_execs_cons (thn (h1 jy s σ H { D with nx:=u D R } R I h) λf s1 q=>?_)
 cases f with
 | next =>
  obtain ⟨σ',H',I',q⟩:=q;exact h2 jy s1 σ' H' D R I' q
 | ret v=>exact q
 | brk=>exact q
 | cont=>exact q
def Zg {st:Stmt} {t:TSX} (h1:PSX fr X st t):PSsX fr X [st] t:=by
 intro jy s σ H D R I h;refine wpAny_execs_cons (thn (h1 jy s σ H D R I h) λf s1 q=>?_)
 cases f with
 | next=>exact wpAny_execs_nil q
 | ret v=>exact q
 | brk=>exact q
 | cont=>exact q
def Z6:PSsX fr X [] (λD _ σ H=>D.nx σ H):=λ_ _ σ H _ _ I h=>wpAny_execs_nil ⟨σ,H,I,h⟩
def tIfX (c:TT) (t u:TSX):TSX:=λD R σ H=>c σ H λb H1=>if b=true then t D R σ H1 else u D R σ H1
def Zt (hc:PT X c tc) (ha:PSsX fr X a t) (hb:PSsX fr X b u) (hx:X.xe=(λ_ _=>False):=by rfl):PSX fr X (.If c a b pos) (tIfX tc t u):=by
 intro jy s σ H D R I h;have h0:=hc jy s σ H _ I h;rw [hx] at h0;refine wpAny_If (wpAny_mono h0 (λd s1 zy=>?_) λ_ _ z=>z.elim);obtain ⟨H1,I1,q1⟩:=zy
 cases d with
 | true=>exact ha jy s1 σ H1 D R I1 q1
 | false=>exact hb jy s1 σ H1 D R I1 q1
def Zjp (te:TEX):TSX:=λD R σ H=>te σ H (λ_ H1=>D.nx σ H1) λcls _ H1=>R cls σ H1
def Zo {pos:Pos} (he:PEX fr X e te) (hs:swapsWith e none pos.line X.env=pure false:=by rfl):PSX fr X (.Expr e pos) (Zjp te):=by
 intro jy s σ H D R I h;refine wpAny_Expr_any (wpAny_mono (he jy s σ H _ _ I h) (λv s1 ⟨x,H1,I1,r1,q1⟩=>⟨σ,H1,I1,q1⟩) ?_) I.quiet hs;rintro ev s1 ⟨e,T,cls,a0,σ',H',h1,h2,h3,h4,h5,h7,rfl,h6⟩;exact ⟨e,T,cls,a0,σ',H',h1,h2,h3,h4,h5,h7,h6⟩
def Zky (te:TEX):TSX:=λD R σ H=>te σ H D.rt λcls _ H1=>R cls σ H1
def Zip {e:Expr} {te:TEX} {pos:Pos} (he:PEX fr X e te):PSX fr X (.Return (some e) pos) (Zky te):=by
 intro jy s σ H D R I h;refine wpAny_Return_some (wpAny_mono (he jy s σ H _ _ I h) (λv s1 ⟨x,H1,I1,r1,q1⟩=>⟨x,σ,H1,I1,r1,q1⟩) ?_);rintro ev s1 ⟨e,T,cls,a0,σ',H',h1,h2,h3,h4,h5,h7,rfl,h6⟩;exact ⟨e,T,cls,a0,σ',H',h1,h2,h3,h4,h5,h7,h6⟩
def Zkx (i:Nat) (te:TEX):TSX:=λD R σ H=>te σ H (λx H1=>D.nx (σ.set i (some x)) H1) λcls _ H1=>R cls σ H1
def Ji {pos:Pos} (hN:X.N.Nodup) (hi:X.N[i]?=some x) (hx:Loc X.env.scope x) (he:PEX fr X e te) (hs:swapsWith e (some (.Name x lj)) pos.line X.env=pure false:=by rfl)
  (hf:X.fn x=true\/X.env.scope.names.lookup x=some .local:=by first | exact .inl rfl | exact .inr rfl | assumption):PSX fr X (.Assign [.Name x lj] e pos) (Zkx i te):=by
 intro jy s σ H D R I h;refine wpAny_Assign_Name (wpAny_mono (he jy s σ H _ _ I h) (λv s1 ⟨y,H1,I1,r1,q1⟩=>?_) ?_) hs
 ·exact Wb I1 hN hi hx r1 (λs2 I2=>⟨_,H1,I2,q1⟩) hf
 ·rintro ev s1 ⟨e,T,cls,a0,σ',H',h1,h2,h3,h4,h5,h7,rfl,h6⟩
  exact ⟨e,T,cls,a0,σ',H',h1,h2,h3,h4,h5,h7,h6⟩
def Inv.cxr (I:Inv X jy σ H s) (hex:X.ex=[]) (h:CXr X.prog X.w X.stack H s E ev s'):XS fr X jy (λcls σ' H'=>σ'=σ/\E cls none H') ev s':=by
 obtain ⟨e,T,cls,a0,H',rfl,os,bare,un,hok,ne,nT,he,hT,fl,q⟩:=h;have I':Inv X jy σ H' s':=I.call' os un hok bare λb hb=>absurd hb (by simp)
 have fx:∀ b,s.heap.get? b=none->H' b=none->FxOk X jy H' b:=λb hb hn=>by
  refine ⟨hn,λz=>?_,λz=>?_,?_,λx c e z=>?_,λp hp z=>?_⟩
  ·obtain ⟨m,⟨o,_,_,ho,_⟩,_⟩:=I.loc
   rw [z,ho] at hb; cases hb
  ·obtain ⟨_,o,ho,_⟩:=I.funs.mem z
   rw [ho] at hb; cases hb
  ·cases q:X.s₀.heap.get? b with
   | none=>rfl
   | some o =>
    obtain ⟨o',e'⟩:=I.base.there b o q (by rw [hex]; simp);rw [hb] at e'; cases e'
  ·obtain ⟨v,o,ho,_⟩:=I.cell x c e
   rw [z,hb] at ho; cases ho
  ·have:=(I.pin p hp).1
   rw [z,hb] at this; cases this
 exact ⟨e,some T,cls,a0,σ,H',rfl,I',fl,fx e ne he,λt ht=>by cases ht; exact fx T nT hT,(λz=>nomatch z),Z,q⟩
variable {k:Nat} {f C:Addr} {fd:FuncData} {ps:List Str} {sp:Sp} {ke:List V} {ds:List Value} {x m:Str} {p pos j7:Pos} {e o:Expr} {es:List Expr} {ta:TE} {t:TA}
def V3 (F:FnOk X.prog X.w X.K X.mg X.base (CXr X.prog X.w) k f fd ps sp) (hr:Room k X.A) (hb:Xe X.K fd ps ds) (hd:Vals ke ds) (hex:X.ex=[])
  (I:Inv X jy σ H s) (r:Vals vs us) (h:sp (vs ++ ke) H Q E):wpAny (model X.prog X.w) X.A (call (.ref f) us) (EP X jy σ Q) (XS fr X jy λcls σ' H'=>σ'=σ/\E cls none H') s:=by
 have r2:Vals (vs ++ ke) (us ++ ds):=r.append hd;have hl:(us ++ ds).length=ps.length:=by rw [<- r2.length]; exact F.len _ _ _ _ h
 refine wpAny_call (codeAny_mono (F.run X.A X.stack s H ⟨us,[]⟩ (us ++ ds) (vs ++ ke) Q E hr I.env0 (hb s us I.kIn hl) r2 h) λr s' hq=>?_)
 cases r with
 | error e=>exact I.cxr hex hq
 | ok fl =>
  cases fl with
  | ret u=>exact I.after hq
  | next=>exact False.elim hq
  | brk=>exact False.elim hq
  | cont=>exact False.elim hq
def Ze3 (sp:Sp) (ke:List V) (t:TA):TEX:=λσ H Q E=>t σ H λvs H1=>sp (vs ++ ke) H1 Q E
def Zhd (F:FnOk X.prog X.w X.K X.mg X.base (CXr X.prog X.w) k f fd ps sp) (hr:Room k X.A) (hg:Gl X x) (hm:X.mg x=some (.ref f)) (hk:PySem.W.keepIn X.K (.ref f)=true) (hb:Xe X.K fd ps ds) (hd:Vals ke ds)
  (ha:PA X (e :: es) t) (hex:X.ex=[]:=by rfl) (hx:X.xe=(λ_ _=>False):=by rfl) (lg:(x == ("__debug__":Str))=false:=by decide) (he:starEach (e :: es) X.env=(false,eval e X.env) :: starEach es X.env:=by rfl) (k9:(backTo pos (starEach es X.env)).any (·.1)=false:=by rfl) :
  PEX fr X (.Call (.Name x p) (e :: es) [] pos) (Ze3 sp ke t):=by
 intro jy s σ H Q E I h;have h0:=ha pos jy s σ H _ I h;rw [hx] at h0;refine wpAny_Call_Name_kw (Xu I hg hm ?_ lg);refine PySem.W.callWith_K (h₀:=X.base) I.ok.mod.kin hk (wpAny_mono h0 (λus s1 zx=>?_) λ_ _ z=>z.elim) he k9;obtain ⟨vs,H1,I1,r,q⟩:=zx;refine ⟨I1.kIn,?_⟩;exact V3 F hr hb hd hex I1 r q
def Zjn (C:Addr) (m:Str) (sp:Sp) (ke:List V) (ta:TE) (t:TA):TEX:=λσ H Q E=>ta σ H λx H1=>∃ a dx fs,x=.ref a/\H1 a=some (.ins C dx fs)/\fs.lookup m=none /\
 t σ H1 λvs H2=>sp (x :: (vs ++ ke)) H2 Q E
def Xa (he:PE X o ta) (c:Cls X.K C) (hm:Meth X.K C m f) (F:FnOk X.prog X.w X.K X.mg X.base (CXr X.prog X.w) k f fd ps sp) (hr:Room k X.A) (hb:Xe X.K fd ps ds) (hd:Vals ke ds) (ha:PA X (e :: es) t)
  (hex:X.ex=[]:=by rfl) (hx:X.xe=(λ_ _=>False):=by rfl) (kn:starEach (e :: es) X.env=(false,eval e X.env) :: starEach es X.env:=by rfl) (k9:(backTo pos (starEach es X.env)).any (·.1)=false:=by rfl)
  (ht:eval (.Call (.Attribute o m j7) (e :: es) [] pos) X.env=(do
   let ov <- eval o X.env
   standAt j7.atName
   let (f,first) <- holding [ov] (getMethod ov m pl)
   callWith pos f first (backTo pos (starEach (e :: es) X.env)) (backToKw pos (keywordEach [] X.env))):=by rfl) :
  PEX fr X (.Call (.Attribute o m j7) (e :: es) [] pos) (Zjn C m sp ke ta t):=by
 intro jy s σ H Q E I h;have h0:=he jy s σ H _ I h;rw [hx] at h0;refine PySem.W.methodCall_KW (pl:=pl) (wpAny_mono h0 (λu s1 zw=>?_) λ_ _ z=>z.elim) ht;obtain ⟨x,H1,I1,rx,a,dx,fs,ex,ea,l,q⟩:=zw;subst ex;obtain rfl:u=Value.ref a:=rx;refine Jd I1 ea c hm l ?_;have h1:=ha pos jy s1 σ H1 _ I1 q;rw [hx] at h1;refine PySem.W.callWith_K (first:=[.ref a]) (h₀:=X.base) I.ok.mod.kin hm.kp (wpAny_mono h1 (λus s2 zu=>?_) λ_ _ z=>z.elim) kn k9;obtain ⟨vs,H2,I2,r,q2⟩:=zu;refine ⟨I2.kIn,?_⟩;exact V3 (us:=.ref a :: us) (vs:=.ref a :: vs) F hr hb hd hex I2 (.cons Z r) q2
end
theorem Ya.there {h:Heap}:∀ {o:HO},Ya P w H h a o->∃ ob,h.get? a=some ob
 | .lst _,x=>by obtain ⟨_,_,_,_,e⟩:=x; exact ⟨_,e⟩
 | .tup _,x=>by obtain ⟨_,_,_,ob,e,_⟩:=x; exact ⟨_,e⟩
 | .dK _,x=>by obtain ⟨_,_,_,_,o,_,_,e,_⟩:=x; exact ⟨_,e⟩
 | .dT _,x=>by obtain ⟨_,_,_,_,o,_,_,e,_⟩:=x; exact ⟨_,e⟩
 | .set _ _,x=>by obtain ⟨o,_,_,_,e,_⟩:=x; exact ⟨_,e⟩
 | .ins _ _ _,x=>by obtain ⟨_,_,_,e,_⟩:=x; exact ⟨_,e⟩
 | .own _,x=>by obtain ⟨_,e⟩:=x; exact ⟨_,e⟩
 | .xd _,x=>by obtain ⟨_,⟨_,_,_,e,_⟩,_⟩:=x; exact ⟨_,e⟩
 | .rng _ _,x=>by obtain ⟨_,_,_,e⟩:=x; exact ⟨_,e⟩
 | .frz _ _,x=>by obtain ⟨e,_⟩:=x; exact ⟨_,e⟩
 | .tbl _,x=>⟨_,(show h.get? a=some _ from x)⟩
 | .met _ _,x=>⟨_,(show h.get? a=some _ from x)⟩
 | .ext _,x=>by obtain ⟨_,⟨_,e⟩,_⟩:=x; exact ⟨_,e⟩
section
variable {X:Cx} {jy:List (Addr × Obj)} {σ:St} {H:Hp} {s:Shared}
def Inv.untr (I:Inv X jy σ H s) (hb:s.heap.get? b=none):H b=none:=by
 cases q:H b with
 | none=>rfl
 | some o =>
  obtain ⟨ob,e⟩:=(I.hok b o q).there;rw [hb] at e; cases e
def Inv.fxOk (I:Inv X jy σ H s) (hex:X.ex=[]) (hb:s.heap.get? b=none):FxOk X jy H b:=by
 refine ⟨I.untr hb,λz=>?_,λz=>?_,?_,λx c e z=>?_,λp hp z=>?_⟩
 ·obtain ⟨m,⟨o,_,_,ho,_⟩,_⟩:=I.loc
  rw [z,ho] at hb; cases hb
 ·obtain ⟨_,o,ho,_⟩:=I.funs.mem z
  rw [ho] at hb; cases hb
 ·cases q:X.s₀.heap.get? b with
  | none=>rfl
  | some o =>
   obtain ⟨o',e'⟩:=I.base.there b o q (by rw [hex]; simp);rw [hb] at e'; cases e'
 ·obtain ⟨v,o,ho,_⟩:=I.cell x c e
  rw [z,hb] at ho; cases ho
 ·have:=(I.pin p hp).1
  rw [z,hb] at this; cases this
end
structure ExcK (K:W.Frag) (C:Addr) (vj:List Value) (mn:String):Prop where
 q:PySem.W.excIn K C vj mn=true
def Zi9 {K:W.Frag} {h:Heap} (X:K.In h) (q:PySem.W.excIn K C vj mn=true) :
  ∃ bm N nm q bs hdct sn sub ab col dd k0 k1 k2 k3 k5 mN,h.get? C=some (excClassObj nm q C N bs bm hdct sn sub ab col dd k0 k1 k2 k3 k5 mn)/\h.Ns N mN/\mN "__init__"=none/\OwnTail h vj bm:=by
 unfold PySem.W.excIn at q;split at q
 ·rename_i dd cd sl ho
  split at q
  ·rename_i C' bm k0 k1 k2 k3 n k5 hm hs
   simp only [Bool.and_eq_true,beq_iff_eq,Bool.not_eq_true'] at q;obtain ⟨⟨⟨⟨⟨rfl,rfl⟩,v4⟩,ht⟩,hok⟩,wv⟩:=q;obtain ⟨nm,bs,mro,ns,qn,hd,sn,sub,ab,col,del⟩:=cd;dsimp only at hm v4 hok wv;subst hm v4;have uc:sl=#[k0,k1,k2,k3,some (.builtin n),k5]:=by
    obtain ⟨l⟩:=sl
    simp only at hs
    rw [hs]
   subst uc;exact ⟨bm,ns,nm,qn,bs,hd,sn,sub,ab,col,dd,k0,k1,k2,k3,k5,_,X _ _ ho,.of_isNs (PySem.W.isNs_of_in X hok),PySem.W.nsMap_none_of_in X hok wv,PySem.W.tail_of_in X ht⟩
  ·cases q
 ·cases q
section
variable {X:Cx}
def Zjm (C:Addr) (t:TA):TSX:=λ_ R σ H=>t σ H λvs H1=>vs.length<=1000/\R (.ref C) σ H1
def Z1 (K:ExcK X.K C vj mn) (FB:ExcBaseFacts B mn initId vj) (hg:Gl X x) (hm:X.mg x=some (.ref C)) (hc:X.calm=true) (ha:PA X (e :: es) t)
  (hex:X.ex=[]:=by rfl) (hx:X.xe=(λ_ _=>False):=by rfl) (lg:(x == ("__debug__":Str))=false:=by decide) (he:starEach (e :: es) X.env=(false,eval e X.env) :: starEach es X.env:=by rfl) (k9:(backTo j6 (starEach es X.env)).any (·.1)=false:=by rfl) :
  PSX true X (.Raise (some (.Call (.Name x np) (e :: es) [] j6)) none pos) (Zjm C t):=by
 intro jy s σ H D R I h;obtain ⟨tl,N,nm,q,bs,hdct,sn,sub,ab,col,dd,k0,k1,k2,k3,k5,mN,hC,hN,wv,T⟩:=Zi9 I.ok.mod.kin K.q;refine wpAny_Raise_call_subT (C:=C) (nm:=nm) (q:=q) (N:=N) (bs:=bs) (bm:=tl) (hdct:=hdct) (sn:=sn) (sub:=sub) (ab:=ab) (col:=col) (dd:=dd) (k0:=k0) (k1:=k1) (k2:=k2) (k3:=k3) (k5:=k5)
  FB (mN:=mN) (T.hasType FB.hasBase) (I.ok.hd hc) (by rw [he]; show (false || (backTo j6 (starEach es X.env)).any (·.1))=false; rw [k9]; rfl) wv (Xu I hg hm ⟨rfl,?_⟩ lg)
 have h0:=ha j6 jy s σ H _ I h;rw [hx] at h0;rw [he] at h0 ⊢;refine Calls.evalArgs_plain (wpAny_mono h0 (λus s₂ zr=>?_) λ_ _ z=>z.elim);obtain ⟨vs,H1,I1,r1,hl,q1⟩:=zr;have kb:=I1.bk;refine ⟨Z,?_,kb _ _ hC,hN.keeps kb,T.keeps kb,λh' ea yc=>?_⟩
 ·rw [<- r1.length]
  exact Nat.le_of_lt (Zv hl)
 obtain ⟨tt,h1,h2,h3⟩:=yc.there;have I2:Inv X jy σ H1 { s₂ with heap:=h' }:=I1.kept (t':=s₂.toks) yc.keeps;have fx:=I1.fxOk hex yc.new;exact ⟨ea,none,.ref C,.ref tt,σ,H1,Z,I2,⟨_,_,h1,⟨Z,Z⟩,Z,Z⟩,⟨fx.nt,fx.nl,fx.nf,fx.n0,fx.nc,fx.np⟩,(λt z=>nomatch z),(λ_=>rfl),q1⟩
def Un.leave {h₀ h h':Heap} (u:Un fs [] H₀ H h₀ h) (hk:∀ b o,h₀.get? b=some o->b ∉ fs->h.get? b=some o->h'.get? b=some o)
  (hs:∀ b o,b∈fs->h.get? b=some o->∃ sl,h'.get? b=some { o with slots:=sl }) (ht:∀ b o,h₀.get? b=some o->∀ o',h.get? b=some o'->∃ o'',h'.get? b=some o''):Un fs [] H₀ H h₀ h' where
 keep:=λb o e n hb hx=>hk b o e hb (u.keep b o e n hb hx)
 slot:=λb o e n hb hx=>by
  obtain ⟨sl,e1⟩:=u.slot b o e n hb hx;obtain ⟨uo,e2⟩:=hs b _ hb e1;exact ⟨uo,e2⟩
 free:=u.free
 there:=λb o e hx=>by
  obtain ⟨o',e1⟩:=u.there b o e hx;exact ht b o e o' e1
 tups:=u.tups
 frzs:=u.frzs
 tbls:=u.tbls
def Wt {X:Cx} {s:Shared} (I:Inv X jy σ H s) (as:List Addr) (hs:∀ b∈frs X.stack,b∈as):s.heap.FunFrames (PySem.W.hideAll s.heap as) X.stack:=by
 have all:∀ (l:List Env),(∀ b∈frs l,b∈as)->s.heap.FunFrames X.base l->s.heap.FunFrames (PySem.W.hideAll s.heap as) l:=by
  intro l
  induction l with
  | nil=>intro _ _; trivial
  | cons env r ih =>
   intro hs hl;obtain ⟨hk,⟨L,o,hf,hn,ho,hd⟩,hr⟩:=hl;have hL:L∈as:=hs L (by unfold frs; rw [List.filterMap_cons,hf]; exact List.mem_cons_self);exact ⟨hk,⟨L,o,hf,PySem.W.hideAll_none as hL,ho,hd⟩,ih (λb hb=>hs b (by unfold frs; rw [List.filterMap_cons,hf]; exact List.mem_cons_of_mem _ hb)) hr⟩
 exact all X.stack hs I.stack
def Inv.fnd {X:Cx} {s:Shared} (I:Inv X jy σ H s) (hb:b∈frs X.stack) {o:Obj} (e:s.heap.get? b=some o):∀ vs,o.data≠.fields vs:=by
 obtain ⟨_,o',e',d⟩:=I.stack.mem hb;rw [e] at e'; cases e';exact d
end
def FxOk.none {X:Cx} {jy:List (Addr × Obj)} {H:Hp} {b:Addr} (h:FxOk X jy H b):FxOk X [] H b:=⟨h.nt,h.nl,h.nf,h.n0,h.nc,λp hp=>h.np p (by rw [List.append_nil] at hp; exact List.mem_append_left _ hp)⟩
section
variable {P:Program} {w:World} {K:W.Frag} {mg:Str->Option Value} {base:Heap}
def Zbs (h:XS fr (cxOf (CXr P w) P w K mg base N qual scope f cd A outer s H E).nox [] (λcls _ H'=>E cls none H') ev s'):(cxOf (CXr P w) P w K mg base N qual scope f cd A outer s H E).xe ev s':=by
 obtain ⟨e,T,cls,a0,σ',H',rfl,I,hx,fe,fT,_,q⟩:=h;show wpAny (model P w) (A.deeper (envOfC qual scope s.heap.objs.size f cd)) (leaving (envOfC qual scope s.heap.objs.size f cd) (.ref e)) (λ_ mr=>CXr P w outer H s E (.ref e) mr) (λe' mr=>CXr P w outer H s E e' mr) s';have kn:(cxOf (CXr P w) P w K mg base N qual scope f cd A outer s H E).nox.stack=envOfC qual scope s.heap.objs.size f cd :: outer:=rfl;have qd:(A.deeper (envOfC qual scope s.heap.objs.size f cd)).frames=some (envOfC qual scope s.heap.objs.size f cd :: outer):=I.ok.frames
 have n0:∀ b,b∈e :: T.toList->s.heap.get? b=none:=λb hb=>by
  rcases Ar hb with z | z
  ·rw [z]; exact fe.n0
  ·cases T with
   | none=>simp at z
   | some t =>
    have:b=t:=by simpa using z
    rw [this]; exact (fT t Z).n0
 have nt:∀ b,b∈e :: T.toList->H' b=none:=λb hb=>by
  rcases Ar hb with z | z
  ·rw [z]; exact fe.nt
  ·cases T with
   | none=>simp at z
   | some t =>
    have:b=t:=by simpa using z
    rw [this]; exact (fT t Z).nt
 have hB:∀ b o,b ∉ e :: T.toList->b ∉ frs (envOfC qual scope s.heap.objs.size f cd :: outer)->s'.heap.get? b=some o->(PySem.W.hideAll s'.heap ((e :: T.toList) ++ frs (envOfC qual scope s.heap.objs.size f cd :: outer))).get? b=some o:=λb o h1 h2 e1 =>
  PySem.W.hideAll_get _ e1 λz=>(List.mem_append.mp z).elim h1 h2
 have hl:s'.heap.FunFrames (PySem.W.hideAll s'.heap ((e :: T.toList) ++ frs (envOfC qual scope s.heap.objs.size f cd :: outer))) (envOfC qual scope s.heap.objs.size f cd :: outer):=Wt I _ λb hb=>List.mem_append_right _ hb;have r6:(PySem.W.hideAll s'.heap ((e :: T.toList) ++ frs (envOfC qual scope s.heap.objs.size f cd :: outer))).StaysIn s'.heap:=λb o e1=>PySem.W.of_hideAll _ e1;have ui:(PySem.W.hideAll s'.heap ((e :: T.toList) ++ frs (envOfC qual scope s.heap.objs.size f cd :: outer))).get? e=none:=PySem.W.hideAll_none _ (List.mem_append_left _ List.mem_cons_self)
 have k7:∀ h',Heap.LeftW (PySem.W.hideAll s'.heap ((e :: T.toList) ++ frs (envOfC qual scope s.heap.objs.size f cd :: outer))) (envOfC qual scope s.heap.objs.size f cd :: outer) e cls a0 s'.heap h'->CXr P w outer H s E (.ref e) { s' with heap:=h' }:=λh' ⟨k1,k2,k3,k4⟩=>by
  obtain ⟨oe,vs,T',oT,ts,x1,x2,x3,x4,x5,x6,x7,x8,x9⟩:=k3;have lw:∀ b o,b∈frs (envOfC qual scope s.heap.objs.size f cd :: outer)->s'.heap.get? b=some o->∃ sl,h'.get? b=some { o with slots:=sl }:=λb o hb e1=>k4 b o e1 (I.fnd hb e1);have kept:∀ b o,b ∉ e :: T.toList->b ∉ frs (envOfC qual scope s.heap.objs.size f cd :: outer)->s'.heap.get? b=some o->h'.get? b=some o:=λb o h1 h2 e1=>k1 b o (hB b o h1 h2 e1);have nL:∀ b o,s.heap.get? b=some o->b ∉ frs outer->b ∉ frs (envOfC qual scope s.heap.objs.size f cd :: outer):=λb o e1 h2 z=>by
   have z':b∈s.heap.objs.size :: frs outer:=z
   rcases Ar z' with z1 | z1
   ·rw [z1] at e1; exact absurd (Ao e1) (Nat.lt_irrefl _)
   ·exact h2 z1
  have nE:∀ b o,s.heap.get? b=some o->b ∉ e :: T.toList:=λb o e1 z=>by rw [n0 b z] at e1; cases e1
  have trk:∀ b u,H' b=some u->∀ o,s'.heap.get? b=some o->h'.get? b=some o:=λb u hu o e1=>by
   refine kept b o (λz=>by rw [nt b z] at hu; cases hu) (λz=>?_) e1;rw [I.stkFree b z] at hu; cases hu
  have vg:s.heap.get? T'=none/\H' T'=none:=by
   by_cases hz:s'.heap.get? T'=none
   ·refine ⟨?_,I.untr hz⟩
    cases q':s.heap.get? T' with
    | none=>rfl
    | some o =>
     obtain ⟨o',e'⟩:=I.base.there T' o q' (by simp [cxOf]);rw [hz] at e'; cases e'
   ·obtain ⟨o,ho⟩:=Option.ne_none_iff_exists'.mp hz
    by_cases h1:T'∈e :: T.toList
    ·exact ⟨n0 T' h1,nt T' h1⟩
    ·by_cases h2:T'∈frs (envOfC qual scope s.heap.objs.size f cd :: outer)
     ·exfalso
      obtain ⟨sl,e'⟩:=lw T' o h2 ho;rw [x7] at e';cases e';exact I.fnd h2 ho ts x8
     ·rw [hB T' o h1 h2 ho] at x5; cases x5
  refine ⟨e,T',cls,a0,H',Z,I.os,I.bare,?_,λb u hu=>?_,fe.n0,vg.1,fe.nt,vg.2,⟨oe,vs,oT,ts,x1,x2,x3,x4,x6,x7,x8,x9⟩,q⟩
  ·refine Un.leave I.base (λb o e1 h1 e2=>kept b o (nE b o e1) (nL b o e1 h1) e2) (λb o hb e1=>lw b o (List.mem_cons_of_mem _ hb) e1) λb o e1 o' e2=>?_
   by_cases h2:b∈frs outer
   ·obtain ⟨sl,e'⟩:=lw b o' (List.mem_cons_of_mem _ h2) e2
    exact ⟨_,e'⟩
   ·exact ⟨o',kept b o' (nE b o e1) (nL b o e1 h2) e2⟩
  ·refine (I.hok b u hu).stay (λc v hc e1=>?_) (λ_ z=>z) λ_ _ z=>z
   rcases hc with z | z
   ·exact trk c u (by rw [z]; exact hu) v e1
   ·exact trk c _ z v e1
 cases T with
 | none =>
  obtain ⟨oe,vs,x1,x2,x3,x4⟩:=hx;obtain ⟨x21,x22⟩:=x2;subst x21;exact wpAny_leaving_firstW qd hl Z x1 r6 ui x3 x4 x22 k7
 | some t =>
  obtain ⟨oe,vs,oT,ts,x1,x2,x3,x4,x5,x6,x7,x8⟩:=hx;exact wpAny_leaving_nextW qd hl Z ⟨oe,vs,t,oT,ts,x1,x2,x3,x4,PySem.W.hideAll_none _ (List.mem_append_left _ (by simp)),x5,x6,x7,x8⟩ r6 ui k7
def Fun.okX {x qual:Str} {st:Stmt} {f:Addr} {fd:FuncData} {N ps:List Str} {k:Nat} {sp:Sp} (F:Fun K x qual st f fd) (S:FnScope N ps (Ze st)) (len:∀ vs H Q E,sp vs H Q E->vs.length=ps.length)
  (kl:∀ (j9:Value) (A:Around) (outer:List Env) (s:Shared) (H:Hp) (vs:List V) (Q:VK) (E:XK),Room k (A.deeper (envOfC qual (Ze st) s.heap.objs.size f j9))->sp vs H Q E ->
   ∃ t,PSsX true (cxOf (CXr P w) P w K mg base N qual (Ze st) f j9 A outer s H E).nox (Yn st) t/\t { nx:=λ_ H'=>Q .non H',rt:=Q } (λcls _ H'=>E cls none H') (X8 N vs) H):FnOk P w K mg base (CXr P w) (k + 1) f fd ps sp:=by
 obtain ⟨oc,od,kV,kf,pm,an,j9,ct,qa,rfl,lk,mz⟩:=F.ex;refine Zer lk mz S len λA outer s H vs Q E hr nj=>?_;obtain ⟨t,h,q⟩:=kl j9 A outer s H vs Q E hr nj;refine ⟨λD σ H'=>t D (λcls _ yz=>E cls none yz) σ H',λjy s' σ' H' D I hD=>?_,q⟩;refine wpAny_mono (h jy s' σ' H' D _ (I.wish _) hD) (λ_ _ z=>z.unwish) λev mr z=>Zbs (fr:=true) ?_;obtain ⟨e,T,cls,a0,σ2,H2,h1,h2,h3,h4,h5,h7,h6⟩:=z;exact ⟨e,T,cls,a0,σ2,H2,h1,h2.pins_of (λp hp=>absurd hp (by simp)),h3,h4.none,λt ht=>(h5 t ht).none,h7,h6⟩
end
section
variable {X:Cx}
def Inv.exc {jy:List (Addr × Obj)} {σ:St} {H:Hp} {s:Shared} {e T:Addr} {h':Heap} (I:Inv X jy σ H s) (hex:X.ex=[]) (fe:FxOk X jy H e) (fT:FxOk X jy H T)
  (keep:∀ b o,b≠e->b≠T->b ∉ frs X.stack->s.heap.get? b=some o->h'.get? b=some o) (slot:∀ b o,b∈frs X.stack->s.heap.get? b=some o->∃ sl,h'.get? b=some { o with slots:=sl }):Inv X jy σ H { s with heap:=h' }:=by
 have fss:∀ b∈X.fs,b∈frs X.stack:=λb hb=>by
  rcases I.ok.stk with z | ⟨z,hf⟩
  ·rw [z]; exact hb
  ·rw [z]; unfold frs; rw [List.filterMap_cons,hf]; exact List.mem_cons_of_mem _ hb
 have data:∀ b o,b≠e->b≠T->s.heap.get? b=some o->∃ sl,h'.get? b=some { o with slots:=sl }:=λb o h1 h2 e1=>by
  by_cases hb:b∈frs X.stack
  ·exact slot b o hb e1
  ·exact ⟨o.slots,keep b o h1 h2 hb e1⟩
 have ne0:∀ b o,X.s₀.heap.get? b=some o->b≠e/\b≠T:=λb o e1=>⟨λz=>(by rw [z,fe.n0] at e1; cases e1),λz=>(by rw [z,fT.n0] at e1; cases e1)⟩;have mo:∀ x c,X.env.cells.lookup x=some c->∀ v,s.heap.IsCell c v->h'.IsCell c v:=λx c ec v ⟨o,ho,hd⟩=>by
  obtain ⟨sl,e1⟩:=data c o (fe.nc x c ec) (fT.nc x c ec) ho
  exact ⟨_,e1,hd⟩
 refine ⟨I.ok,I.os,I.bare,⟨λb o e0 n hb hx=>?_,λb o e0 n hb hx=>?_,I.base.free,λb o e0 hx=>?_,I.base.tups,I.base.frzs,I.base.tbls⟩,?_,λx c ec=>?_,I.free,I.freeC,λp hp=>?_,λb u hu=>?_,I.len⟩
 ·obtain ⟨n1,n2⟩:=ne0 b o e0
  refine keep b o n1 n2 (λz=>?_) (I.base.keep b o e0 n hb hx)
  rcases Ar (I.stkSub b z) with z1 | z1
  ·rw [z1] at e0; exact absurd (Ag (Ao e0) I.ok.above) (Nat.lt_irrefl _)
  ·exact hb z1
 ·obtain ⟨sl,e1⟩:=I.base.slot b o e0 n hb hx
  obtain ⟨uo,e2⟩:=slot b _ (fss b hb) e1;exact ⟨uo,e2⟩
 ·obtain ⟨n1,n2⟩:=ne0 b o e0
  obtain ⟨o',e1⟩:=I.base.there b o e0 hx;obtain ⟨sl,e2⟩:=data b o' n1 n2 e1;exact ⟨_,e2⟩
 ·obtain ⟨m,hn,hl⟩:=I.loc
  refine ⟨m,?_,λi x v e1 e2 e3=>?_⟩
  ·obtain ⟨o,es,ep,ho,hd,r⟩:=hn
   obtain ⟨sl,e1⟩:=data _ o (Ne.symm fe.nl) (Ne.symm fT.nl) ho;exact ⟨_,es,ep,e1,hd,r⟩
  ·obtain ⟨u,r,l⟩:=hl i x v e1 e2 e3
   refine ⟨u,r,?_⟩
   rcases l with l | ⟨k,c,ec,z⟩
   ·exact .inl l
   ·exact .inr ⟨k,c,ec,mo x c ec _ z⟩
 ·obtain ⟨v,z⟩:=I.cell x c ec
  exact ⟨v,mo x c ec v z⟩
 ·obtain ⟨e1,n,ne,nf,d⟩:=I.pin p hp
  refine ⟨keep p.1 p.2 (fe.np p hp) (fT.np p hp) (λz=>?_) e1,n,ne,nf,d⟩
  rcases Ar (I.stkSub p.1 z) with z1 | z1
  ·exact ne z1
  ·exact nf z1
 ·have trk:∀ b u,H b=some u->∀ o,s.heap.get? b=some o->h'.get? b=some o:=λb u hu o e1=>by
   refine keep b o (λz=>by rw [z,fe.nt] at hu; cases hu) (λz=>by rw [z,fT.nt] at hu; cases hu) (λz=>?_) e1;rw [I.stkFree b z] at hu; cases hu
  refine (I.hok b u hu).stay (λc v hc e1=>?_) (λ_ z=>z) λ_ _ z=>z
  rcases hc with z | z
  ·exact trk c u (by rw [z]; exact hu) v e1
  ·exact trk c _ z v e1
def Wl (X:Cx) (e:Addr):Cx:={ X with A:=X.A.mark (some (.ref e)),calm:=false }
def Inv.hnd {jy:List (Addr × Obj)} {σ:St} {H:Hp} {s:Shared} (I:Inv X jy σ H s) (e:Addr):Inv (Wl X e) jy σ H s :=
 ⟨⟨I.ok.mod,I.ok.kind,I.ok.glob,I.ok.blt,I.ok.above,I.ok.inj,I.ok.has,I.ok.cab,λh=>absurd (show false=true from h) Bool.false_ne_true,I.ok.frames,I.ok.stk,I.ok.exf,I.ok.bs,I.ok.bsz,I.ok.noex,I.ok.exfs,I.ok.funs,I.ok.frf⟩,
  I.os,I.bare,I.base,I.loc,I.cell,I.free,I.freeC,I.pin,I.hok,I.len⟩
def Inv.unhnd {jy:List (Addr × Obj)} {σ:St} {H:Hp} {s:Shared} {e:Addr} (I:Inv (Wl X e) jy σ H s) (ok:X.Ok):Inv X jy σ H s :=
 ⟨ok,I.os,I.bare,I.base,I.loc,I.cell,I.free,I.freeC,I.pin,I.hok,I.len⟩
def SP.unhnd {jy:List (Addr × Obj)} {D:Ends} {f:Flow} {s':Shared} {e:Addr} (h:SP (Wl X e) jy D f s') (ok:X.Ok):SP X jy D f s':=by
 cases f with
 | next=>obtain ⟨σ',H',I,q⟩:=h; exact ⟨σ',H',I.unhnd ok,q⟩
 | brk=>obtain ⟨σ',H',I,q⟩:=h; exact ⟨σ',H',I.unhnd ok,q⟩
 | cont=>obtain ⟨σ',H',I,q⟩:=h; exact ⟨σ',H',I.unhnd ok,q⟩
 | ret u=>obtain ⟨v,σ',H',I,r,q⟩:=h; exact ⟨v,σ',H',I.unhnd ok,r,q⟩
def Zgi {jy:List (Addr × Obj)} {σ:St} {H:Hp} {s:Shared} {e T:Addr} {cls a0:Value} (I:Inv X jy σ H s) (hx:FlyT e T cls a0 s.heap) :
  Heap.FlyingW (PySem.W.hideAll s.heap (e :: T :: frs X.stack)) X.stack e cls a0 s.heap:=by
 obtain ⟨oe,vs,oT,ts,x1,x2,x3,x4,x5,x6,x7,x8⟩:=hx;exact ⟨λb o e1=>PySem.W.of_hideAll _ e1,PySem.W.hideAll_none _ (by simp),Wt I _ λb hb=>by simp [hb],oe,vs,T,oT,ts,x1,x2,x3,x4,PySem.W.hideAll_none _ (by simp),x5,x6,x7,x8⟩
def Inv.flown {jy:List (Addr × Obj)} {σ:St} {H:Hp} {s:Shared} {e T:Addr} {h':Heap} (I:Inv X jy σ H s) (hex:X.ex=[]) (fe:FxOk X jy H e) (fT:FxOk X jy H T)
  (kn:(PySem.W.hideAll s.heap (e :: T :: frs X.stack)).StaysIn h') (xr:s.heap.UpToSlots h'):Inv X jy σ H { s with heap:=h' }:=by
 refine I.exc hex fe fT (λb o h1 h2 h3 e1=>kn b o (PySem.W.hideAll_get _ e1 λz=>?_)) λb o hb e1=>xr b o e1 (I.fnd hb e1)
 rcases Ar z with z | z
 ·exact h1 z
 ·rcases Ar z with z | z
  ·exact h2 z
  ·exact h3 z
end
section
variable {X:Cx} {jy:List (Addr × Obj)} {σ:St} {H:Hp} {s:Shared} {A:Around} {E:Value->Shared->Prop} {a:Addr}
def Zkm {kvs:List (Key × V)} (I:Inv X jy σ H s) (e:H a=some (.dK kvs)) (hl:kvs.length < sizeLine) (ry:RelV (kV k) u) (rd:RelV d r)
  (h1:∀ v w' s',valV kvs k=some v->Inv X jy σ H s'->RelV v w'->Q w' s') (h2:valV kvs k=none->∀ s',Inv X jy σ (upd H a (.dK (putK kvs k d))) s'->Q r s') :
  wpAny (model X.prog X.w) A (call (.builtin "dict.setdefault") [.ref a,u,r]) Q E s:=by
 obtain ⟨z,hd,vs,j8,dd⟩:=F2 I.hok e;have hz:vs.length<=sizeLine:=by rw [<- j8.length]; exact z
 refine call_meetsIn PySem.F.slot_dict_setdefault dd.typeIs PySem.F.entry_dict_setdefault (PySem.F.args_dict_setdefault_3 _ _ _) (kt_meets_setdefault (Z0 X.prog X.w) a (Wk ry) hd r) ⟨vs,dd,hz,λv hv=>?_,λhv h' nz hs=>?_⟩
 ·have kq:=j8.val k
  rw [hv] at kq
  cases q:valV kvs k with
  | none=>rw [q] at kq; exact kq.elim
  | some y=>rw [q] at kq; exact h1 y v _ q (I.tok _) kq
 ·have kq:=j8.val k
  rw [hv] at kq
  cases q:valV kvs k with
  | some y=>rw [q] at kq; exact kq.elim
  | none =>
   have he:∃ q,h'.get? a=some q:=let ⟨q,_,_,hq,_⟩:=nz; ⟨q,hq⟩
   have mk:(putK kvs k d).length<=sizeLine:=by have:=X7 kvs k d; lia
   exact h2 q _ (Ql I (by rw [e]; exact True.intro) hs he (Kq mk hd (j8.put k rd) nz))
end
def Zjq (td ty tx:TE):TE:=λσ H Q=>td σ H λx H1=>∃ a,x=.ref a/\IsD H1 a/\ty σ H1 λy H2=>tx σ H2 λz H3=>∃ kvs k,H3 a=some (.dK kvs)/\kvs.length < sizeLine/\y=kV k /\
 (∀ v,valV kvs k=some v->Q v H3)/\(valV kvs k=none->Q z (upd H3 a (.dK (putK kvs k z))))
section
variable {X:Cx} {o e f:Expr} {j7 j6:Pos} {td ty tx:TE}
def Zhe (ho:PE X o td) (he:PE X e ty) (hf:PE X f tx) (m:M2 X o "setdefault" j7 e f j6):PE X (.Call (.Attribute o "setdefault" j7) [e,f] [] j6) (Zjq td ty tx):=by
 intro jy s σ H Q I h;refine wpAny_Call_method m.base m.few m.line PySem.F.plainAttrs_dict PySem.F.slot_dict_setdefault PySem.F.type_dict_setdefault (thn (ho jy s σ H _ I h) λu s1 j4=>?_);obtain ⟨x,H1,I1,rx,a,ex,d,q1⟩:=j4;subst ex;obtain rfl:u=Value.ref a:=rx;obtain ⟨t1,t2,_⟩:=Km I1 d;refine ⟨t1,t2,?_⟩;rw [m.trees];refine Calls.callWith_builtin rfl (Calls.evalArgs_plain (Calls.spliced_cons (thn (he jy s1 σ H1 _ I1 q1) λiv s2 ⟨y,H2,I2,ry,q2⟩ =>
  Calls.spliced_cons (thn (hf jy s2 σ H2 _ I2 q2) λfv s3 ⟨z,H3,I3,rz,kvs,k,hk,hl,ey,q3,q4⟩=>Calls.spliced_nil ?_))))
 subst ey;exact Zkm I3 hk hl ry rz (λv w' s' hv I' oz=>⟨v,H3,I',oz,q3 v hv⟩) λhv s' I'=>⟨z,_,I',rz,q4 hv⟩
def Zbu {kvs:List (Key × V)} {vs:List (Key × Value)} {ks:List Int} (j8:KV kvs vs) (hk:kvs.map (·.1)=ks.map Sum.inl) {us:List Value} (hl:us.length=vs.length)
  (hu:∀ (j:Nat) (v:Value),us[j]?=some v->∃ k x,vs[j]?=some (k,x)/\(Z0 P w).is k v=true):IntsAre us ks:=by
 have qm:kvs.length=ks.length:=by have:=congrArg List.length hk; simpa using this
 have hvl:kvs.length=vs.length:=j8.length
 have key:∀ (j:Nat) (v:Value),us[j]?=some v->∃ i t,ks[j]?=some i/\v=Value.int i t:=λj v hv=>by
  obtain ⟨k,x,hx,hi⟩:=hu j v hv;have e1:(vs.map (·.1))[j]?=some k:=by rw [Ah,hx]; rfl
  have e2:vs.map (·.1)=kvs.map (·.1):=by
   clear hk hl hu qm hvl hx hi e1
   induction j8 with
   | nil=>rfl
   | cons r t ih=>rw [List.map_cons,List.map_cons,ih,r.1]
  rw [e2,hk,Ah] at e1
  cases q:ks[j]? with
  | none=>rw [q] at e1; cases e1
  | some i =>
   rw [q] at e1;have e3:Sum.inl i=k:=Ax e1;subst e3;obtain ⟨t,ht⟩:=Value.isInt_shape (k:=i) (v:=v) hi;exact ⟨i,t,Z,ht⟩
 have gen:∀ (us:List Value) (ks:List Int),us.length=ks.length->(∀ (j:Nat) (v:Value),us[j]?=some v->∃ i t,ks[j]?=some i/\v=Value.int i t)->IntsAre us ks:=by
  intro us
  induction us with
  | nil =>
   intro ks hl _
   cases ks with
   | nil=>exact .nil
   | cons _ _=>simp at hl
  | cons u r ih =>
   intro ks hl h
   cases ks with
   | nil=>simp at hl
   | cons i ks =>
    obtain ⟨i',t,e1,e2⟩:=h 0 u rfl;have e1':i=i':=by simpa using e1
    subst e1' e2;exact .cons i t (ih ks (by simpa using hl) λj v hv=>h (j + 1) v (by simpa using hv))
 exact gen us ks (by lia) key
def X1 (hc:X.calm=true):Y7 X (.builtin "sorted") (λxs H Q=>∃ (d:Addr) (kvs:List (Key × V)) (ks:List Int),xs=[.ref d]/\Rd H d (.dK kvs)/\kvs.map (·.1)=ks.map Sum.inl/\ks.length < 64 /\
  ∀ (p:Addr) (out:List Int),H p=none->out.Perm ks->out.Pairwise (·<=·)->Q (.ref p) (upd H p (.lst (out.map V.int)))):=by
 intro jy s σ H xs us Q I r h;obtain ⟨d,kvs,ks,rfl,hd,hk,lc,q⟩:=h;obtain ⟨u,rfl,ru⟩:=Xk r;obtain rfl:u=Value.ref d:=ru;obtain ⟨z,mf,vs,j8,dd⟩:=Je I.hok hd;obtain ⟨ep,hat⟩:=dd.dictAt;have jz:vs.length=ks.length:=by have:=congrArg List.length hk; rw [Ab,Ab] at this; have:=j8.length; lia
 have hn:vs.length<=sizeLine:=by rw [sizeLine_eq]; lia
 refine Calls.call_function_entry kind_sorted plain_sorted entry_sorted (args_sorted1 _) ?_;unfold Builtin.«sorted»;refine Al (m:=checkCount "sorted" 1 1 _) (wpAny_pure ?_);refine Al (PySem.W.kdu_collect (A:=X.A.in1) (PySem.W.kdl_dict (knd:=Z0 X.prog X.w) (kvs:=vs) (ep:=ep) mf) (I.ok.hd hc) hat hn λh' tk j5 qo v5=>?_);have hl:j5.toList.length=vs.length:=by rw [Array.length_toList]; exact v5.1
 have hI:IntsAre j5.toList ks:=Zbu (P:=X.prog) (w:=X.w) j8 hk hl λj v hv=>v5.2 j v (by rw [<- Array.getElem?_toList]; exact hv);refine Al (wpAny_newList ?_ (by rw [hl]; exact hn));have I1:Inv X jy σ H { s with heap:=h',toks:=tk }:=I.kept qo;have u6:(h'.push { cls:=.type "list",data:=.seq j5.toList.toArray }).get? h'.objs.size=some (seqObj "list" j5.toList.toArray 0):=Ap _ rfl;refine Al (wpAny_holding (wpAny_call_entry slot_list_sort ⟨_,u6,Z⟩ entry_list_sort (list_sort_tree u6 hI (by lia) λout nw a1 a2 a3=>⟨_,Z,?_⟩) (args_list_sort _)));refine wpAny_pure ⟨_,Z,?_⟩;obtain ⟨e,he⟩:=sortedHeap_at (out:=out) u6;have kp:∀ b u,h'.get? b=some u->(sortedHeap (h'.push { cls:=.type "list",data:=.seq j5.toList.toArray }) h'.objs.size j5.toList out).get? b=some u:=λb u hb=>by
  have ku:b < h'.objs.size:=Ao hb
  rw [sortedHeap_old (As ku) (by rw [Heap.size_push]; exact Nat.lt_succ_of_lt ku)]
  exact Ak _ hb
 have hv:Vals (nw.map V.int) out.toList:=by
  clear he kp;generalize out.toList=l at a1;clear a2 a3
  induction a1 with
  | nil=>exact .nil
  | cons i t _ ih=>exact .cons ⟨_,Z⟩ ih
 refine ⟨.ref h'.objs.size,upd H h'.objs.size (.lst (nw.map V.int)),I1.laid kp (An _) ?_,Z,q _ nw I1.fresh a2 a3⟩;refine ⟨?_,out.toList,e,hv,?_⟩
 ·rw [Ab,a2.length_eq,sizeLine_eq]; lia
 ·rw [he]
end
section
variable {X:Cx} {jy:List (Addr × Obj)} {σ:St} {H:Hp} {s:Shared} {a:Addr}
def Inv.freeze (I:Inv X jy σ H s) (e:H a=some u) (mu:Mut (some u)) (ho:s.heap.get? a=some ob):Inv X jy σ (upd H a (.frz ob u)) s:=by
 have oh:∀ c y,H c=some (.own y)->c≠a:=λc y r z=>by subst z; rw [r] at e; cases e; exact mu
 have m9:∀ c xs,H c=some (.tup xs)->c≠a:=λc xs r z=>by subst z; rw [r] at e; cases e; exact mu
 have nfrz:∀ c o xs,H c=some (.frz o xs)->c≠a:=λc o xs r z=>by subst z; rw [r] at e; cases e; exact mu
 have ntbl:∀ c ps,H c=some (.tbl ps)->c≠a:=λc ps r z=>by subst z; rw [r] at e; cases e; exact mu
 have un:Un X.fs [] H (upd H a (.frz ob u)) s.heap s.heap:=⟨λ_ _ q _ _ _=>q,λ_ o q _ _ _=>⟨o.slots,q⟩,λb o q n _=>by rw [Zf (λz=>by rw [z,e] at n; cases n)]; exact n,λb o q _=>⟨o,q⟩,
  λb xs q=>by rw [Zf (m9 b xs q)]; exact q,λb o xs q=>by rw [Zf (nfrz b o xs q)]; exact q,λb ps q=>⟨#[],by rw [Zf (ntbl b ps q),q]; simp⟩⟩
 have hok:HOk X.prog X.w (upd H a (.frz ob u)) s.heap:=λb v q=>by
  have st:∀ c w',Ya X.prog X.w H s.heap c w'->Ya X.prog X.w (upd H a (.frz ob u)) s.heap c w':=λc w' x=>x.stay (λ_ _ _ q=>q) (λd r=>by rw [Zf (oh d c r)]; exact r) λd xs r=>by rw [Zf (m9 d xs r)]; exact r
  by_cases hb:b=a
  ·subst hb
   rw [Zc] at q;cases q;exact ⟨ho,st _ _ (I.hok _ _ e)⟩
  ·rw [Zf hb] at q
   exact st _ _ (I.hok b v q)
 exact I.un (h':=s.heap) (t':=s.toks) un hok
end
section
def KV.at {kvs:List (Key × V)} {vs:List (Key × Value)} (r:KV kvs vs):∀ {i:Nat} {k:Key} {v:V},kvs[i]?=some (k,v)->∃ u,vs[i]?=some (k,u)/\RelV v u:=by
 induction r with
 | nil=>intro i k v h; simp at h
 | cons r t ih =>
  intro i k v h
  cases i with
  | zero =>
   simp at h;subst h;exact ⟨_,by rw [List.getElem?_cons_zero]; exact congrArg some (Prod.ext r.1.symm Z),r.2⟩
  | succ i =>
   obtain ⟨u,h1,h2⟩:=ih (by simpa using h);exact ⟨u,by simpa using h1,h2⟩
def Zlh (h:(Z0 P w).is k u=true):RelV (kV k) u:=by
 cases k with
 | inl i=>obtain ⟨t,e⟩:=Value.isInt_shape (k:=i) (v:=u) h; exact ⟨t,e⟩
 | inr x=>obtain ⟨t,e⟩:=Value.isStrOf_shape (x:=x) (v:=u) h; exact ⟨t,e⟩
def Wu {X:Cx} {s:Shared} (I:Inv X jy σ H s) (e:H d=some (.frz o (.dK kvs))) :
  ∃ vs ep,KV kvs vs/\s.heap.DictAt (Z0 X.prog X.w) d vs ep/\s.heap.get? d=some o:=by
 obtain ⟨ho,_,_,vs,j8,dd⟩:=I.hok d _ e;obtain ⟨ep,da⟩:=dd.dictAt;exact ⟨vs,ep,j8,da,ho⟩
def epOf (o:Obj):Nat:=match o.data with
 | .dict _ ep=>ep
 | _=>0
def V6 {h:Heap} (da:h.DictAt (Z0 P w) d vs ep) (ho:h.get? d=some o):ep=epOf o:=by
 obtain ⟨o',es,h1,_,h2,_⟩:=da;rw [ho] at h1;cases h1;unfold epOf;rw [h2]
def Zey {P:Program} {w:World} {K:W.Frag} {tg:Expr} (d it:Addr) (kvs:List (Key × V)) (o:Obj) :
  Turn P w K tg ⟨λi H=>i < kvs.length/\H d=some (.frz o (.dK kvs)),λi H x H'=>H'=H/\∃ k,kvs[i]?=some (k,x),λi H=>kvs.length<=i/\H d=some (.frz o (.dK kvs))⟩ [it] it (λi h=>h.IsValIter it d i kvs.length (epOf o)) where
 mem:=by simp
 obj:=λi h st b hb=>by
  have e:b=it:=by simpa using hb
  subst e;obtain ⟨o,e,c,d⟩:=st;exact ⟨o,e,λv z=>by rw [d] at z; cases z⟩
 keep:=λi h h' st k=>st.at λo e=>k it (by simp) o e
 item:=by
  intro X hP hw hK hc i jy s σ H E I hf st hg;subst hP hw hK;obtain ⟨hi,hq⟩:=hg;obtain ⟨vs,ep,j8,da,ho⟩:=Wu I hq;have pd:=V6 da ho;subst pd;obtain ⟨f0,f1,f2,f3,f4,f5⟩:=hf it (by simp);obtain ⟨⟨k,v⟩,hx⟩:∃ p,kvs[i]?=some p:=⟨_,Ac hi⟩;obtain ⟨u,hu,ru⟩:=j8.at hx;have jz:vs.length=kvs.length:=j8.length.symm;rw [<- jz] at st;refine wpAny_pyNext_values_item st da hu λh' my sb=>?_;have I1:Inv X jy σ H { s with heap:=h' }:=I.turned (t':=s.toks) (λb o hb e=>(sb.2 b hb).trans e) f0 f1 f3 f4 f5;rw [jz] at my;obtain ⟨oi,e,c,dd⟩:=id my;exact ⟨u,Z,F1 (s:={ s with heap:=h' }) e c dd (by decide) ⟨v,H,I1,ru,⟨Z,k,hx⟩,my,λb hb=>(hf b hb).1⟩⟩
 done:=by
  intro X hP hw hK hc i jy s σ H E I hf st hg;subst hP hw hK;obtain ⟨hi,hq⟩:=hg;obtain ⟨vs,ep,j8,da,ho⟩:=Wu I hq;have pd:=V6 da ho;subst pd;obtain ⟨f0,f1,f2,f3,f4,f5⟩:=hf it (by simp);have jz:vs.length=kvs.length:=j8.length.symm;rw [<- jz] at st;exact wpAny_pyNext_values_end (I.ok.hd hc) st da (by rw [Ay]; lia) λh' eb=>⟨rfl,I.turned (t':=s.toks) (λb o hb e=>eb b o hb e) f0 f1 f3 f4 f5⟩
 self:=λ_ _ _ _ _ st h=>wpAny_pyIter_valiter st h
end
section
variable {X:Cx} {tg:Expr} {l:Expr} {tl:TE}
def Itv2 (d:Addr) (kvs:List (Key × V)) (o:Obj):It:=⟨λi H=>i < kvs.length/\H d=some (.frz o (.dK kvs)),λi H x H'=>H'=H/\∃ k,kvs[i]?=some (k,x),λi H=>kvs.length<=i/\H d=some (.frz o (.dK kvs))⟩
def Zid (J:Addr->List (Key × V)->Obj->It) (tl:TE):TI:=λσ H R=>tl σ H λx H1=>∃ a kvs,x=.ref a/\((H1 a=some (.dK kvs)/\∀ o,R (J a kvs o) (upd H1 a (.frz o (.dK kvs))))\/∃ o,H1 a=some (.frz o (.dK kvs))/\R (J a kvs o) H1)
def Zbw {R:Obj->Hp->Prop} (I:Inv X jy σ H s)
  (h:(H a=some (.dK kvs)/\∀ o,R o (upd H a (.frz o (.dK kvs))))\/∃ o,H a=some (.frz o (.dK kvs))/\R o H):∃ o H',H' a=some (.frz o (.dK kvs))/\Inv X jy σ H' s/\R o H':=by
 rcases h with ⟨e,r⟩ | ⟨o,e,r⟩
 ·obtain ⟨ob,ho⟩:=(I.hok a _ e).there
  exact ⟨ob,_,Zc,I.freeze e True.intro ho,r ob⟩
 ·exact ⟨o,H,e,I,r⟩
structure M0 (X:Cx) (o:Expr) (m:Str) (j7 j6:Pos):Prop where
 base:attributeBase o m X.env (eval o X.env)=eval o X.env
 few:((backTo j6 (starEach [] X.env)).all (λx=>!x.1) && (backToKw j6 (keywordEach [] X.env)).all (λx=>x.1.isSome)
  && decide (([]:List Expr).length + ([]:List Keyword).length + (if ([]:List Keyword).isEmpty then 0 else 1) < 30))=true
 line:(j7.endLine == j6.line)=true
def Zit {j7 j6:Pos} (hl:PE X l tl) (m:M0 X l "values" j7 j6):PI X tg (.Call (.Attribute l "values" j7) [] [] j6) (Zid Itv2 tl):=by
 intro jy s σ H R I h;refine wpAny_Call_method m.base m.few m.line PySem.F.plainAttrs_dict PySem.F.slot_dict_values PySem.F.type_dict_values (thn (hl jy s σ H _ I h) λv s1 j4=>?_);obtain ⟨x,H1,I1,r1,q1⟩:=j4;obtain ⟨a,kvs,e,q⟩:=q1;subst e;cases r1;obtain ⟨o,H2,e2,I2,q2⟩:=Zbw (R:=λo H=>R (Itv2 a kvs o) H) I1 q;obtain ⟨vs,ep,j8,da,ho⟩:=Wu I2 e2;have pd:=V6 da ho;subst pd;obtain ⟨_,_,mf,_⟩:=I2.hok a _ e2;have xk:IsD H2 a:=.inl ⟨kvs,.inr ⟨o,e2⟩⟩;obtain ⟨t1,t2,_⟩:=Km I2 xk;refine ⟨t1,t2,?_⟩;refine Calls.callWith_builtin Z (PyProof.Rows.evalArgs_empty ?_);refine call_meetsIn PySem.F.slot_dict_values da.dictOf.typeIs PySem.F.entry_dict_values (PySem.F.args_dict_values_1 _) (meets_dict_values (Z0 X.prog X.w) a mf) ⟨⟨vs,da.dictOf⟩,?_⟩;have I3:Inv X jy σ H2 { s1 with heap:=s1.heap.push { cls:=.type "dict_values",data:=.fields #[.ref a] } }:=I2.kept (t':=s1.toks) λb o e=>Ak _ e;refine wpAny_pyIter_values ⟨_,Ap _ Z,Z,Z⟩ (da.push _) ?_;have jz:vs.length=kvs.length:=j8.length.symm;rw [jz];refine ⟨(s1.heap.push { cls:=.type "dict_values",data:=.fields #[.ref a] }).objs.size,[(s1.heap.push { cls:=.type "dict_values",data:=.fields #[.ref a] }).objs.size],_,_,H2,rfl,I3.kept (t':=s1.toks) λb o e=>Ak _ e,Zey a _ kvs o,⟨_,Ap _ rfl,rfl,rfl⟩,λb hb=>?_,q2⟩;have e:b=(s1.heap.push { cls:=.type "dict_values",data:=.fields #[.ref a] }).objs.size:=by simpa using hb
 subst e;exact I3.fpOk (An _) (I3.hok.fresh (An _))
end
section
def Ite (K:W.Frag) (a:Addr):It :=
 ⟨λi H=>∃ xs x,SqL K H a xs/\xs[i]?=some x,λi H x H'=>∃ q y,H q=none/\x=.ref q/\(∀ xs,SqL K H a xs->xs[i]?=some y)/\H'=upd H q (.tup [.int i,y]),λi H=>∃ xs,SqL K H a xs/\xs.length<=i⟩
def Ze0 {P:Program} {w:World} {K:W.Frag} {lq:List Expr} {x1:Nat} {pos:Pos} (a e it:Addr) (km:e≠it):Turn P w K (.Tuple lq x1 pos) (Ite K a) [e,it] e (λi h=>(∃ kj,IsEnum h e it i kj)/\h.IsListIter it a i) where
 mem:=by simp
 obj:=λi h st b hb=>by
  obtain ⟨⟨kj,h1⟩,o,h2,c,d⟩:=st
  rcases Ar hb with z | z
  ·subst z
   exact ⟨_,h1,λv z=>by
    have z':Data.fields _=Data.cell v:=z
    cases z'⟩
  ·have z:b=it:=by simpa using z
   subst z;exact ⟨o,h2,λv z=>by rw [d] at z; cases z⟩
 keep:=λi h h' st k=>⟨let ⟨kj,h1⟩:=st.1; ⟨kj,k e (by simp) _ h1⟩,st.2.at λo q=>k it (by simp) o q⟩
 item:=by
  intro X hP hw hK hc i jy s σ H E I hf st hg;subst hP hw hK;obtain ⟨xs,x,hq,hx⟩:=hg;obtain ⟨its,rv,p,hz⟩:=I.list hq;obtain ⟨u,hu,ru⟩:=rv.get hx;obtain ⟨f0,f1,f2,f3,f4,f5⟩:=hf e (by simp);obtain ⟨g0,g1,g2,g3,g4,g5⟩:=hf it (by simp);obtain ⟨⟨kj,he⟩,o8⟩:=st;refine wpAny_pyNext_enum_item he o8 p.isList (x:=u) (by simpa using hu) km λh' o6 hit' ht' hsz' kk=>?_;have eo:=Ao he;have io:it < s.heap.objs.size:=let ⟨o,q,_⟩:=o8; Ao q
  refine ⟨.ref s.heap.objs.size,Z,wpAny_letOwnedTupleGo_enum o6 λpf he'' sb=>?_⟩;have kd:∀ b o,b≠e->b≠it->s.heap.get? b=some o->pf.get? b=some o:=λb o h1 h2 q=>(sb.2 b h1).trans (kk b o h1 h2 q);have pi:pf.get? s.heap.objs.size=some { cls:=.type "tuple",data:=.seq #[.int i s.toks,u] }:=(sb.2 _ (Nat.ne_of_gt eo)).trans ht';have hn:H s.heap.objs.size=none:=I.hok.fresh (An _)
  have I2:Inv X jy σ (upd H s.heap.objs.size (.tup [.int i,x])) { s with heap:=pf,toks:=s.toks + 1 }:=by
   refine I.step (g':=s.gens) (d':=s.drawn) (ch:=[e,it]) (λb hb=>?_) (λb o _ _ hc q _=>kd b o (λz=>hc (by simp [z])) (λz=>hc (by simp [z])) q) (λb o _ _ hc q _=>⟨o.slots,kd b o (λz=>hc (by simp [z])) (λz=>hc (by simp [z])) q⟩) (λb o _ q n=>by rw [Zf (As (Ao q))]; exact n)
    (λb o hc q=>⟨o,kd b o (λz=>hc (by simp [z])) (λz=>hc (by simp [z])) q⟩) (λb ys q=>by rw [Zf (Zj q hn)]; exact q) (λb o ys q=>by rw [Zf (Zj q hn)]; exact q) (λb ps q=>⟨#[],by rw [Zf (Zj q hn),q]; simp⟩) (λm hm=>?_) (λb v q=>?_) I.bare
   ·rcases Ar hb with z | z
    ·subst z; exact ⟨f3,f1,f4,f5⟩
    ·have z:b=it:=by simpa using z
     subst z; exact ⟨g3,g1,g4,g5⟩
   ·obtain ⟨o,es,ep,ho,r⟩:=hm
    exact ⟨o,es,ep,kd _ o (Ne.symm f1) (Ne.symm g1) ho,r⟩
   ·by_cases hb:b=s.heap.objs.size
    ·subst hb
     rw [Zc] at q;cases q;exact ⟨by show 2<=sizeLine; decide,[.int i s.toks,u],.cons ⟨_,rfl⟩ (.cons ru .nil),⟨_,pi,rfl,_,rfl⟩⟩
    ·rw [Zf hb] at q
     refine (I.hok b v q).stay (λc w' hc z=>kd c w' ?_ ?_ z) (λd z=>by rw [Zf (Zj z hn)]; exact z) λd ys z=>by rw [Zf (Zj z hn)]; exact z
     ·rintro rfl
      rcases hc with z | z
      ·rw [z,q] at f0; cases f0
      ·rw [f0] at z; cases z
     ·rintro rfl
      rcases hc with z | z
      ·rw [z,q] at g0; cases g0
      ·rw [g0] at z; cases z
  refine ⟨.ref s.heap.objs.size,_,I2,Z,⟨_,x,hn,Z,λys hy=>by rw [I.list_inj hy hq]; exact hx,Z⟩,⟨⟨u,he''⟩,hit'.at λo q=>(sb.2 it (Ne.symm km)).trans q⟩,λb hb=>?_⟩
  rcases Ar hb with z | z
  ·subst z; rw [Zf (As eo)]; exact f0
  ·have z:b=it:=by simpa using z
   subst z; rw [Zf (As io)]; exact g0
 done:=by
  intro X hP hw hK hc i jy s σ H E I hf st hg;subst hP hw hK;obtain ⟨xs,hq,hx⟩:=hg;obtain ⟨its,rv,p,hz⟩:=I.list hq;obtain ⟨g0,g1,g2,g3,g4,g5⟩:=hf it (by simp);obtain ⟨⟨kj,he⟩,o8⟩:=st;have hl:=rv.length;exact wpAny_pyNext_enum_end (I.ok.hd hc) he o8 p.isList (by simp; lia) λh' eb=>⟨rfl,I.turned (t':=s.toks) (λb o hb e=>eb b o hb e) g0 g1 g3 g4 g5⟩
 self:=λ_ _ _ _ _ st h=>by
  obtain ⟨⟨kj,he⟩,_⟩:=st;exact wpAny_pyIter_enum he h
variable {X:Cx}
def Zlj (K:W.Frag) (ta:TA):TI:=λσ H R=>ta σ H λvs H1=>∃ a,vs=[.ref a]/\(∃ xs,SqL K H1 a xs)/\R (Ite K a) H1
def Ziu {lq:List Expr} {x1:Nat} {m7 p pos:Pos} {l:Expr} {ta:TA} (hg:Gl X "enumerate") (hm:X.mg "enumerate"=none) (ha:PA X [l] ta) (hs:starEach [l] X.env=[(false,eval l X.env)]:=by rfl):PI X (.Tuple lq x1 m7) (.Call (.Name "enumerate" p) [l] [] pos) (Zlj X.K ta):=by
 intro jy s σ H R I h;refine Call_ (Jt I hg hm boot_enumerate (PyProof.Rows.callWith_type1 (thn (ha pos jy s σ H _ I h) λus s1 zq=>?_) hs Z));obtain ⟨vs,H1,I1,r1,q1⟩:=zq;obtain ⟨a,e,⟨xs,hq⟩,q⟩:=q1;subst e;obtain ⟨u,rfl,ru⟩:=Xk r1;cases ru;obtain ⟨its,rv,pl,hz⟩:=I1.list hq;refine call_enumerate_list pl.isList λh' he o8 hsz hk=>wpAny_pyIter_enum he ?_;have I2:Inv X jy σ H1 { s1 with heap:=h' }:=I1.kept (t':=s1.toks) hk;refine ⟨s1.heap.objs.size + 1,[s1.heap.objs.size + 1,s1.heap.objs.size],_,_,H1,Z,I2,Ze0 a _ _ (Nat.succ_ne_self _),⟨⟨.none,he⟩,o8⟩,λb hb=>?_,q⟩
 rcases Ar hb with z | z
 ·subst z; exact I1.fpOk (Nat.le_succ _) (I1.hok.fresh (Nat.le_succ _))
 ·have z:b=s1.heap.objs.size:=by simpa using z
  subst z; exact I1.fpOk (An _) (I1.hok.fresh (An _))
def Zhx {K:W.Frag} {a:Addr} {xs:List V} {g:TG} {tb:TS} {D:Ends} {σ:St} {H:Hp} (Pv:Nat->St->Hp->Prop) (h0:Pv 0 σ H) (hl:∀ i σ H,i<=xs.length->Pv i σ H->SqL K H a xs)
  (hs:∀ i x σ H q,xs[i]?=some x->H q=none->Pv i σ H->g (.ref q) σ (upd H q (.tup [.int i,x])) λσ2 H2=>tb { D with nx:=Pv (i + 1),ct:=Pv (i + 1),bk:=D.nx } σ2 H2) (hd:∀ σ H,Pv xs.length σ H->D.nx σ H) :
  ∃ W:Nat->Nat->St->Hp->Prop,(∃ m,W 0 m σ H)/\∀ i m σ H,W i m σ H ->
   ((Ite K a).stop i H/\D.nx σ H)\/((Ite K a).go i H/\∃ N:St->Hp->Prop,(∀ σ' H',N σ' H'->∃ m',m' < m/\W (i + 1) m' σ' H')/\∀ x H',(Ite K a).yld i H x H'->g x σ H' λσ2 H2=>tb { D with nx:=N,ct:=N,bk:=D.nx } σ2 H2):=by
 refine ⟨λi m σ H=>m=xs.length - i/\i<=xs.length/\Pv i σ H,⟨xs.length,by simp,Az _,h0⟩,?_⟩;rintro i m σ H ⟨rfl,hi,p⟩;have q:=hl i σ H hi p;by_cases ku:i < xs.length
 ·refine .inr ⟨⟨xs,xs[i],q,by simp [ku]⟩,Pv (i + 1),λσ' H' p'=>⟨xs.length - (i + 1),by lia,Z,ku,p'⟩,λx H' y=>?_⟩
  obtain ⟨c,z,hn,e1,e2,e3⟩:=y;subst e1 e3;exact hs i z σ H c (e2 xs q) hn p
 ·have e:i=xs.length:=by lia
  subst e;exact .inl ⟨⟨xs,q,An _⟩,hd σ H p⟩
def Zhw {kvs:List (Key × V)} {g:TG} {tb:TS} {D:Ends} (Pv:Nat->St->Hp->Prop) (h0:Pv 0 σ H) (hl:∀ i σ H,i<=kvs.length->Pv i σ H->H d=some (.frz o (.dK kvs)))
  (hs:∀ i k x σ H,kvs[i]?=some (k,x)->Pv i σ H->g x σ H λσ2 H2=>tb { D with nx:=Pv (i + 1),ct:=Pv (i + 1),bk:=D.nx } σ2 H2) (hd:∀ σ H,Pv kvs.length σ H->D.nx σ H) :
  ∃ W:Nat->Nat->St->Hp->Prop,(∃ m,W 0 m σ H)/\∀ i m σ H,W i m σ H ->
   ((Itv2 d kvs o).stop i H/\D.nx σ H)\/((Itv2 d kvs o).go i H/\∃ N:St->Hp->Prop,(∀ σ' H',N σ' H'->∃ m',m' < m/\W (i + 1) m' σ' H')/\∀ x H',(Itv2 d kvs o).yld i H x H'->g x σ H' λσ2 H2=>tb { D with nx:=N,ct:=N,bk:=D.nx } σ2 H2):=by
 refine ⟨λi m σ H=>m=kvs.length - i/\i<=kvs.length/\Pv i σ H,⟨kvs.length,by simp,Az _,h0⟩,?_⟩;rintro i m σ H ⟨rfl,hi,p⟩;have q:=hl i σ H hi p;by_cases ku:i < kvs.length
 ·refine .inr ⟨⟨ku,q⟩,Pv (i + 1),λσ' H' p'=>⟨kvs.length - (i + 1),by lia,Z,ku,p'⟩,λx H' y=>?_⟩
  obtain ⟨e,k,y⟩:=y;subst e;exact hs i k x σ _ y p
 ·have e:i=kvs.length:=by lia
  subst e;exact .inl ⟨⟨An _,q⟩,hd σ H p⟩
end
abbrev TJ:=Str->TE
def PJ (X:Cx) (es:List Expr) (t:TJ):Prop :=
 ∀ (out:Str) (jy:List (Addr × Obj)) (s:Shared) (σ:St) (H:Hp) (Q:VK),Inv X jy σ H s->t out σ H Q->wpAny (model X.prog X.w) X.A (joinParts out (evalEach es X.env)) (EP X jy σ Q) X.xe s
section
variable {X:Cx} {es:List Expr} {t:TJ} {pos:Pos}
def jNil:TJ:=λout _ H Q=>out.length<=sizeLine/\Q (.str out) H
def Zj0:PJ X [] jNil:=λout jy s σ H Q I h=>joinParts_nil (⟨.str out,H,I.tok _,⟨_,rfl⟩,h.2⟩) h.1
def jTxt (x:Str) (t:TJ):TJ:=λout σ H Q=>(out ++ x).length<=sizeLine/\t (out ++ x) σ H Q
def Zjy {x:Str} {k:Nat} (h:PJ X es t):PJ X (.Constant (.str x) k pos :: es) (jTxt x t):=by
 intro out jy s σ H Q I hq;refine joinParts_cons (Calls.Constant_str ?_);exact ⟨hq.1,h _ jy _ σ H Q (I.tok _) hq.2⟩
def jInt (te:TE) (t:TJ):TJ:=λout σ H Q=>te σ H λv H1=>∃ i:Int,v=.int i/\i.natAbs.log2 < 1920/\(out ++ (toString i:Str)).length<=sizeLine/\t (out ++ (toString i:Str)) σ H1 Q
def Zj1 {e:Expr} {te:TE} (he:PE X e te) (h:PJ X es t):PJ X (.FormattedValue e (-1) none pos :: es) (jInt te t):=by
 intro out jy s σ H Q I hq;refine joinParts_cons (FormattedValue_plain (thn (he jy s σ H _ I hq) λu s1 j4=>?_));obtain ⟨v,H1,I1,r1,i,ev,hl,hz,q⟩:=j4;subst ev;obtain ⟨tk,rfl⟩:=r1;exact formatField_int_small hl ⟨hz,h _ jy _ σ H1 Q (I1.tok _) q⟩
def Zix {v₁ v₂:Expr} {rest:List Expr} (h:PJ X (v₁ :: v₂ :: rest) t):PE X (.JoinedStr (v₁ :: v₂ :: rest) pos) (t Str.empty):=λjy s σ H Q I hq=>JoinedStr_many (h Str.empty jy s σ H Q I hq)
end
section
variable {X:Cx}
def Gj (K:W.Frag) (h:X.K=K:=by rfl):Y7 X (.type "tuple") (λxs H Q=>∃ p ys,xs=[.ref p]/\((SqL K H p ys/\∀ l,H l=none->Q (.ref l) (upd H l (.tup ys)))\/(SqT K H p ys/\Q (.ref p) H))):=h ▸ Fy
variable {tg l e:Expr} {tl ta:TE} {f:Str} {pos:Pos}
def V4 (K:W.Frag) (hl:PE X l tl) (h:X.K=K:=by rfl):PI X tg l (iTup K tl):=h ▸ Zj3 hl
end
section
variable {prog:Program} {w:World} {A:Around} {E:Value->Shared->Prop}
def Zlp {it l:Addr} {xs:Array Value} (ne:l≠it) (k:Nat):∀ (i:Nat) (s:Shared) (Q:List Value->Shared->Prop),s.heap.IsListIter it l i->s.heap.IsList l xs->i + k<=xs.size ->
  (∀ h',h'.IsListIter it l (i + k)->Heap.SameBut it s.heap h'->Q ((xs.toList.drop i).take k) { s with heap:=h' })->wpAny (model prog w) A (draw (.ref it) k) Q E s:=by
 induction k with
 | zero =>
  intro i s Q a b c q;have z:=q s.heap a (Heap.SameBut.refl ..);rw [List.take_zero] at z;exact wpAny_pure z
 | succ k ih =>
  intro i s Q a b c q;have lt:i < xs.size:=by lia
  refine Al (m:=pyNext (.ref it)) (wpAny_pyNext_list_item a b (x:=xs[i]) (by simp [lt]) λg st sb=>?_);refine Al (wpAny_holding (ih (i + 1) _ _ st (b.extBut sb.extBut ne) (by lia) λg2 l6 sb2=>wpAny_pure ?_));have z:=q g2 (by rw [Nat.add_right_comm] at l6; exact l6) (sb.trans sb2);rwa [List.drop_eq_getElem_cons (by simpa using lt),List.take_succ_cons,Array.getElem_toList] at z
def Zif {l:Addr} {xs:Array Value} {s:Shared} {Q:List Value->Shared->Prop} (hc:A.handled=none) (b:s.heap.IsList l xs)
  (q:∀ h',Heap.ExtBut s.heap.objs.size s.heap h'->Q xs.toList { s with heap:=h' }):wpAny (model prog w) A (unpackItems (.ref l) xs.size none) Q E s:=by
 have ne:l≠s.heap.objs.size:=by obtain ⟨o,ho,_⟩:=b; exact As (Ao ho)
 unfold unpackItems notIterableAtAll;refine Al (Al (wpAny_specialOf b.typeIs PySem.F.slot_list_iter.lookup (wpAny_pure ?_)));rw [if_neg (by decide)];refine Al (wpAny_holding (wpAny_pyIter_list b ?_));refine Al (wpAny_holding (Zlp ne xs.size 0 _ _ ⟨_,Ap _ Z,Z,Z⟩ (b.push _) (by lia) λg st sb=>?_));have e:(xs.toList.drop 0).take xs.size=xs.toList:=by rw [List.drop_zero,List.take_of_length_le]; simp
 rw [e,if_neg (by simp)];refine Al (wpAny_holding (wpAny_pyNext_list_end hc st ((b.push _).extBut sb.extBut ne) (by simp) λg2 eb=>?_));rw [if_neg (by decide)];exact wpAny_pure (q g2 λc o hb z=>eb c o hb (sb.extBut c o hb (Ak _ z)))
end
section
variable {X:Cx} {pos:Pos}
def gLst (K:W.Frag) (n:Nat) (t:TGs):TG:=λv σ H Q=>∃ a xs,v=.ref a/\SqL K H a xs/\xs.length=n/\t xs σ H Q
def Zj5 {es:List Expr} {k:Nat} {t:TGs} {n:Nat} (hc:X.calm=true) (h:PGs X es t)
  (hn:(assignEach es X.env).length=n:=by rfl) (kn:(assignEach es X.env).findIdx? (·.1)=none:=by rfl):PG X (.Tuple es k pos) (gLst X.K n t):=by
 intro jy s σ H v u Q I r hw;obtain ⟨a,xs,e1,hq,hl,hw⟩:=hw;subst e1;cases r;obtain ⟨its,rv,p,hz⟩:=I.list hq;rw [assign_Tuple];refine Al (wpAny_standAt ?_);unfold unpack;have qz:(assignEach es X.env).length=its.toArray.size:=by rw [hn,<- hl,rv.length]; simp
 rw [qz,kn];refine Al (wpAny_holding (Zif (I.ok.hd hc) p.isList λh' hx=>?_));have I1:Inv X jy σ H { s with heap:=h' }:=I.kept (t':=s.toks) λb o e=>hx b o (As (Ao e)) e;exact h jy _ σ H xs _ Q I1 (by simpa using rv) hw
end
def Jg (w:World) (K:W.Frag) (a:Addr) (kvs:List (Key × V)):Prop :=
 ∃ o es ep vs,K.lookup a=some o/\o.ExactDict/\o.data=.dict es ep/\(∀ e∈es,∃ k,Qu k e.key=true/\e.hash=keyH w k)/\(∀ P:Program,Pairs (Z0 P w) es.toList vs)/\(vs.map (·.1)).Nodup/\KV kvs vs/\(a == sysModules)=false
section
variable {X:Cx} {i o:Expr} {ty td:TE} {pos:Pos}
def Jg.here {jy:List (Addr × Obj)} {σ:St} {H:Hp} {s:Shared} {a:Addr} {kvs:List (Key × V)} (h:Jg X.w X.K a kvs) (I:Inv X jy σ H s):(a == sysModules)=false/\∃ vs,KV kvs vs/\s.heap.DictOf (Z0 X.prog X.w) a vs:=by
 obtain ⟨o,es,ep,vs,h1,h2,h3,h4,h5,h6,h7,h8⟩:=h;exact ⟨h8,vs,h7,o,es,ep,I.kIn a o h1,h2,h3,h4,h5 X.prog,h6⟩
def Zih (w:World) (K:W.Frag) (ty td:TE):TE:=λσ H Q=>ty σ H λy H1=>td σ H1 λx H2=>∃ a kvs k,x=.ref a/\Jg w K a kvs/\y=kV k/\Q (.bl (!(valV kvs k).isSome)) H2
def Zfx (hi:PE X i ty) (ho:PE X o td):PC X .NotIn i o (Zih X.w X.K ty td):=by
 intro jy s σ H Q I h;refine thn (hi jy s σ H _ I h) λiv s1 zp=>?_;obtain ⟨y,H1,I1,ry,q1⟩:=zp;refine thn (ho jy s1 σ H1 _ I1 q1) λu s2 j4=>?_;obtain ⟨x,H2,I2,rx,a,kvs,k,ex,g,ey,q2⟩:=j4;subst ex ey;obtain rfl:u=Value.ref a:=rx;obtain ⟨hd,vs,j8,dd⟩:=g.here I2;refine wpAny_notIn_of (Wk ry) hd dd.mapOf ?_;rw [<- (j8.val k).isSome_eq];exact ⟨.bl _,H2,I2.tok _,Z,q2⟩
def Zk1 (w:World) (K:W.Frag) (td ty:TE):TE:=λσ H Q=>td σ H λx H1=>ty σ H1 λy H2=>∃ a kvs k v,x=.ref a/\Jg w K a kvs/\y=kV k/\valV kvs k=some v/\Q v H2
def Ziw (ho:PE X o td) (hi:PE X i ty) (hs:NoSl i):PE X (.Subscript o i pos) (Zk1 X.w X.K td ty):=by
 intro jy s σ H Q I h;refine Zcx PySem.F.slot_dict_getitem.lookup hs (thn (ho jy s σ H _ I h) λu s1 zn=>?_);obtain ⟨x,H1,I1,rx,q1⟩:=zn;refine thn (hi jy s1 σ H1 _ I1 q1) λiv s2 j4=>?_;obtain ⟨y,H2,I2,ry,a,kvs,k,v,ex,g,ey,hv,q2⟩:=j4;subst ex ey;obtain rfl:u=Value.ref a:=rx;obtain ⟨hd,vs,j8,dd⟩:=g.here I2;have kq:=j8.val k;rw [hv] at kq
 cases q:valueAt vs k with
 | none=>rw [q] at kq; exact kq.elim
 | some z =>
  rw [q] at kq;exact ⟨dd.typeIs,wpAny_getItem_of (Wk ry) dd.mapOf q ⟨v,H2,I2.tok _,kq,q2⟩⟩
end
section
def Itm2 (d:Addr) (kvs:List (Key × V)) (o:Obj):It :=
 ⟨λi H=>i < kvs.length/\H d=some (.frz o (.dK kvs)),λi H x H'=>∃ q k v,H q=none/\x=.ref q/\kvs[i]?=some (k,v)/\H'=upd H q (.tup [kV k,v]),λi H=>kvs.length<=i/\H d=some (.frz o (.dK kvs))⟩
def Zdq {P:Program} {w:World} {K:W.Frag} {lq:List Expr} {x1:Nat} {pos:Pos} (d it:Addr) (kvs:List (Key × V)) (o:Obj) :
  Turn P w K (.Tuple lq x1 pos) (Itm2 d kvs o) [it] it (λi h=>∃ a b,IsItemIter h it d i kvs.length (epOf o) a b) where
 mem:=by simp
 obj:=λi h st b hb=>by
  have e:b=it:=by simpa using hb
  subst e;obtain ⟨a,c,z⟩:=st;exact ⟨_,z,λv y=>by
   have y':Data.fields _=Data.cell v:=y
   cases y'⟩
 keep:=λi h h' st k=>by
  obtain ⟨a,c,z⟩:=st;exact ⟨a,c,k it (by simp) _ z⟩
 item:=by
  intro X hP hw hK hc i jy s σ H E I hf st hg;subst hP hw hK;obtain ⟨hi,hq⟩:=hg;obtain ⟨vs,ep,j8,da,ho⟩:=Wu I hq;have pd:=V6 da ho;subst pd;obtain ⟨f0,f1,f2,f3,f4,f5⟩:=hf it (by simp);obtain ⟨⟨k,v⟩,hx⟩:∃ p,kvs[i]?=some p:=⟨_,Ac hi⟩;obtain ⟨u,hu,ru⟩:=j8.at hx;have jz:vs.length=kvs.length:=j8.length.symm;obtain ⟨a0,b0,st⟩:=st;rw [<- jz] at st;have vt:=Ao st;refine wpAny_pyNext_items_item st da hu λkey h' hk my ht hsz kk=>?_;rw [jz] at my;refine ⟨.ref s.heap.objs.size,Z,wpAny_letOwnedTupleGo_items my λpf st'' sb=>?_⟩;have kd:∀ b z,b≠it->s.heap.get? b=some z->pf.get? b=some z:=λb z hb e=>(sb.2 b hb).trans (kk b z hb e);have pi:pf.get? s.heap.objs.size=some { cls:=.type "tuple",data:=.seq #[key,u] }:=(sb.2 _ (Nat.ne_of_gt vt)).trans ht;have hn:H s.heap.objs.size=none:=I.hok.fresh (An _)
  have I2:Inv X jy σ (upd H s.heap.objs.size (.tup [kV k,v])) { s with heap:=pf }:=by
   refine I.step (g':=s.gens) (d':=s.drawn) (ch:=[it]) (λb hb=>?_) (λb o _ _ hc q _=>kd b o (λz=>hc (by simp [z])) q) (λb o _ _ hc q _=>⟨o.slots,kd b o (λz=>hc (by simp [z])) q⟩) (λb o _ q n=>by rw [Zf (As (Ao q))]; exact n)
    (λb o hc q=>⟨o,kd b o (λz=>hc (by simp [z])) q⟩) (λb ys q=>by rw [Zf (Zj q hn)]; exact q) (λb o ys q=>by rw [Zf (Zj q hn)]; exact q) (λb ps q=>⟨#[],by rw [Zf (Zj q hn),q]; simp⟩) (λm hm=>?_) (λb v' q=>?_) I.bare
   ·have z:b=it:=by simpa using hb
    subst z; exact ⟨f3,f1,f4,f5⟩
   ·obtain ⟨o,es,ep,ho,r⟩:=hm
    exact ⟨o,es,ep,kd _ o (Ne.symm f1) ho,r⟩
   ·by_cases hb:b=s.heap.objs.size
    ·subst hb
     rw [Zc] at q;cases q;exact ⟨by show 2<=sizeLine; decide,[key,u],.cons (Zlh hk) (.cons ru .nil),⟨_,pi,rfl,_,rfl⟩⟩
    ·rw [Zf hb] at q
     refine (I.hok b v' q).stay (λc w' hc z=>kd c w' ?_ z) (λd z=>by rw [Zf (Zj z hn)]; exact z) λd ys z=>by rw [Zf (Zj z hn)]; exact z
     rintro rfl
     rcases hc with z | z
     ·rw [z,q] at f0; cases f0
     ·rw [f0] at z; cases z
  refine ⟨.ref s.heap.objs.size,_,I2,Z,⟨_,k,v,hn,Z,hx,Z⟩,⟨_,_,st''⟩,λb hb=>?_⟩;have z:b=it:=by simpa using hb
  subst z; rw [Zf (As vt)]; exact f0
 done:=by
  intro X hP hw hK hc i jy s σ H E I hf st hg;subst hP hw hK;obtain ⟨hi,hq⟩:=hg;obtain ⟨vs,ep,j8,da,ho⟩:=Wu I hq;have pd:=V6 da ho;subst pd;obtain ⟨f0,f1,f2,f3,f4,f5⟩:=hf it (by simp);have jz:vs.length=kvs.length:=j8.length.symm;obtain ⟨a0,b0,st⟩:=st;rw [<- jz] at st;exact wpAny_pyNext_items_end (I.ok.hd hc) st da (by rw [Ay]; lia) λh' eb=>⟨rfl,I.turned (t':=s.toks) (λb o hb e=>eb b o hb e) f0 f1 f3 f4 f5⟩
 self:=λ_ _ _ _ _ st h=>by
  obtain ⟨a,b,st⟩:=st;exact PySem.W.kcp_self st h
variable {X:Cx} {l:Expr} {tl:TE}
def Zbc {lq:List Expr} {x1:Nat} {m7 j7 j6:Pos} (hl:PE X l tl) (m:M0 X l "items" j7 j6):PI X (.Tuple lq x1 m7) (.Call (.Attribute l "items" j7) [] [] j6) (Zid Itm2 tl):=by
 intro jy s σ H R I h;refine wpAny_Call_method m.base m.few m.line PySem.F.plainAttrs_dict PySem.F.slot_dict_items PySem.F.type_dict_items (thn (hl jy s σ H _ I h) λv s1 j4=>?_);obtain ⟨x,H1,I1,r1,q1⟩:=j4;obtain ⟨a,kvs,e,q⟩:=q1;subst e;cases r1;obtain ⟨o,H2,e2,I2,q2⟩:=Zbw (R:=λo H=>R (Itm2 a kvs o) H) I1 q;obtain ⟨vs,ep,j8,da,ho⟩:=Wu I2 e2;have pd:=V6 da ho;subst pd;obtain ⟨_,_,mf,_⟩:=I2.hok a _ e2;have xk:IsD H2 a:=.inl ⟨kvs,.inr ⟨o,e2⟩⟩;obtain ⟨t1,t2,_⟩:=Km I2 xk;refine ⟨t1,t2,?_⟩;refine Calls.callWith_builtin Z (PyProof.Rows.evalArgs_empty ?_);refine call_meetsIn PySem.F.slot_dict_items da.dictOf.typeIs PySem.F.entry_dict_items (PySem.F.args_dict_items_1 _) (meets_dict_items (Z0 X.prog X.w) a mf) ⟨⟨vs,da.dictOf⟩,?_⟩;have I3:Inv X jy σ H2 { s1 with heap:=s1.heap.push { cls:=.type "dict_items",data:=.fields #[.ref a] } }:=I2.kept (t':=s1.toks) λb o e=>Ak _ e;refine wpAny_pyIter_items ⟨_,Ap _ Z,Z,Z⟩ (da.push _) ?_;have jz:vs.length=kvs.length:=j8.length.symm;rw [jz];refine ⟨(s1.heap.push { cls:=.type "dict_items",data:=.fields #[.ref a] }).objs.size,[(s1.heap.push { cls:=.type "dict_items",data:=.fields #[.ref a] }).objs.size],_,_,H2,rfl,I3.kept (t':=s1.toks) λb o e=>Ak _ e,Zdq a _ kvs o,⟨_,_,Ap _ rfl⟩,λb hb=>?_,q2⟩;have e:b=(s1.heap.push { cls:=.type "dict_items",data:=.fields #[.ref a] }).objs.size:=by simpa using hb
 subst e;exact I3.fpOk (An _) (I3.hok.fresh (An _))
def Zgh {kvs:List (Key × V)} {g:TG} {tb:TS} {D:Ends} (Pv:Nat->St->Hp->Prop) (h0:Pv 0 σ H) (hl:∀ i σ H,i<=kvs.length->Pv i σ H->H d=some (.frz o (.dK kvs)))
  (hs:∀ i k x σ H q,kvs[i]?=some (k,x)->H q=none->Pv i σ H->g (.ref q) σ (upd H q (.tup [kV k,x])) λσ2 H2=>tb { D with nx:=Pv (i + 1),ct:=Pv (i + 1),bk:=D.nx } σ2 H2) (hd:∀ σ H,Pv kvs.length σ H->D.nx σ H) :
  ∃ W:Nat->Nat->St->Hp->Prop,(∃ m,W 0 m σ H)/\∀ i m σ H,W i m σ H ->
   ((Itm2 d kvs o).stop i H/\D.nx σ H)\/((Itm2 d kvs o).go i H/\∃ N:St->Hp->Prop,(∀ σ' H',N σ' H'->∃ m',m' < m/\W (i + 1) m' σ' H')/\∀ x H',(Itm2 d kvs o).yld i H x H'->g x σ H' λσ2 H2=>tb { D with nx:=N,ct:=N,bk:=D.nx } σ2 H2):=by
 refine ⟨λi m σ H=>m=kvs.length - i/\i<=kvs.length/\Pv i σ H,⟨kvs.length,by simp,Az _,h0⟩,?_⟩;rintro i m σ H ⟨rfl,hi,p⟩;have q:=hl i σ H hi p;by_cases ku:i < kvs.length
 ·refine .inr ⟨⟨ku,q⟩,Pv (i + 1),λσ' H' p'=>⟨kvs.length - (i + 1),by lia,Z,ku,p'⟩,λx H' y=>?_⟩
  obtain ⟨c,k,v,hn,e1,y,e2⟩:=y;subst e1 e2;exact hs i k v σ H c y hn p
 ·have e:i=kvs.length:=by lia
  subst e;exact .inl ⟨⟨An _,q⟩,hd σ H p⟩
end
def kdict_mk2 {w:World} {K:W.Frag} {a:Addr} {h1 h2:Int} {t1 t2 t3 t4:Tok} {ep:Nat} {x1 y1 x2 y2:Str}
  (l:K.lookup a=some ⟨.type "dict",none,.dict #[⟨h1,.str x1 t1,.str y1 t2⟩,⟨h2,.str x2 t3,.str y2 t4⟩] ep,#[]⟩) (e1:h1=hashStr w x1) (e2:h2=hashStr w x2) (ne:x1≠x2) (sy:(a == sysModules)=false) :
  Jg w K a [(Sum.inr x1,.str y1),(Sum.inr x2,.str y2)]:=by
 refine ⟨_,_,_,[(Sum.inr x1,.str y1 t2),(Sum.inr x2,.str y2 t4)],l,⟨Z,Z,Z⟩,Z,λe he=>?_,λP=>?_,?_,?_,sy⟩
 ·have he:e=⟨h1,.str x1 t1,.str y1 t2⟩\/e=⟨h2,.str x2 t3,.str y2 t4⟩:=by simpa using he
  rcases he with rfl | rfl
  ·exact ⟨Sum.inr x1,Yk x1 t1,e1⟩
  ·exact ⟨Sum.inr x2,Yk x2 t3,e2⟩
 ·exact .cons (Yk x1 t1) Z (.cons (Yk x2 t3) Z .nil)
 ·refine List.nodup_cons.mpr ⟨?_,by simp⟩
  simp [ne]
 ·exact .cons ⟨Z,⟨_,Z⟩⟩ (.cons ⟨Z,⟨_,Z⟩⟩ .nil)
section
variable {X:Cx}
def rNeL (K:W.Frag):R2:=λx y H Q=>∃ a b ns ms,x=.ref a/\y=.ref b/\SqL K H a (List.map V.int ns)/\SqL K H b (List.map V.int ms)/\Q (.bl (!decide (ns=ms))) H
def Zbh (hu:X.A.units + 64 < cLine):OpR X (compareOp .NotEq) (rNeL X.K):=by
 intro jy s σ H x y v u Q I rx ry h;obtain ⟨a,b,ns,ms,rfl,rfl,ha,hb,q⟩:=h;cases rx;cases ry;obtain ⟨ia,ra,pa,_⟩:=I.list ha;obtain ⟨ib,rb,pb,_⟩:=I.list hb;exact PySem.W.ne_intsK pa.isList (Ko ra) pb.isList (Ko rb) hu ⟨.bl _,H,I,Z,q⟩
def Zgt (bs:List Bool):((List.range bs.length).all λi=>bs.getD i true)=bs.all id:=by
 rw [Bool.eq_iff_iff,List.all_eq_true,List.all_eq_true];constructor
 ·intro h b hb
  obtain ⟨i,hi,rfl⟩:=List.mem_iff_getElem.mp hb;have:=h i (List.mem_range.mpr hi);rw [Ad,Ac hi] at this;exact this
 ·intro h i hi
  have hi:=List.mem_range.mp hi;rw [Ad,Ac hi];exact h _ (List.getElem_mem hi)
def Oj (hc:X.calm=true):Y7 X (.builtin "all") (λxs H Q=>∃ p bs,xs=[.ref p]/\SqL X.K H p (List.map V.bl bs)/\Q (.bl (bs.all id)) H):=by
 intro jy s σ H xs us Q I r h;obtain ⟨p,bs,rfl,hq,q⟩:=h;obtain ⟨u,rfl,ru⟩:=Xk r;cases ru;obtain ⟨its,rv,pl,hz⟩:=I.list hq;have ne:p≠s.heap.objs.size:=by obtain ⟨o,ho,_⟩:=pl.isList; exact As (Ao ho)
 refine call_all_walk (wpAny_pyIter_list pl.isList ⟨s.heap.objs.size,_,_,_,_,_,λi=>bs.getD i true,Z,Walks.list (A:=X.A.in1) (show X.A.in1.handled=none from I.ok.hd hc) s.heap.objs.size p ne its.toArray,⟨⟨_,Ap _ Z,Z,Z⟩,pl.isList.push _⟩,?_,?_⟩)
 ·intro i v s' Q' E' hv k8
  have hv:its[i]?=some v:=by simpa using hv
  have jz:=rv.length;rw [Ab] at jz;have hi:i < bs.length:=by have:=(Aa hv).1; lia
  obtain ⟨u,hu,ru⟩:=rv.get (show (bs.map V.bl)[i]?=some (V.bl bs[i]) by rw [Ah,Ac hi]; rfl);rw [hv] at hu;cases hu;cases ru;have e:bs.getD i true=bs[i]:=by rw [Ad,Ac hi]; rfl
  refine wpAny_truthy_bool ?_;have k8:Q' (bs.getD i true) s':=k8;rw [e] at k8;exact k8
 ·intro h' tk hk
  have I1:Inv X jy σ H { s with heap:=h',toks:=tk }:=I.kept λb o e=>hk b o (λz=>absurd (Ao e) (by rw [Af z]; exact Nat.lt_irrefl _)) (Ak _ e);have jz:its.toArray.size=bs.length:=by have:=rv.length; rw [Ab] at this; simp; lia
  refine ⟨.bl (bs.all id),H,I1,?_,q⟩;show Value.bool _=_;rw [jz,Zgt]
end
section
def Itz (K:W.Frag) (a b:Addr):It :=
  ⟨λi H=>∃ xs ys x y,SqL K H a xs/\SqL K H b ys/\xs[i]?=some x/\ys[i]?=some y,
   λi H v H'=>∃ q x y,H q=none/\v=.ref q/\(∀ xs,SqL K H a xs->xs[i]?=some x)/\(∀ ys,SqL K H b ys->ys[i]?=some y)/\H'=upd H q (.tup [x,y]),
   λi H=>∃ xs ys,SqL K H a xs/\SqL K H b ys/\(xs.length<=i\/ys.length<=i)⟩
def Zgu {P:Program} {w:World} {K:W.Frag} {lq:List Expr} {x1:Nat} {pos:Pos} (a b z TI TO i1 i2:Addr) (D:ZipApart z TI TO i1 i2 a b) :
  Turn P w K (.Tuple lq x1 pos) (Itz K a b) [z,TI,TO,i1,i2] z (λi h=>IsZip h z TI TO .none/\IsPair h TI (.ref i1) (.ref i2)/\(∃ u v,IsPair h TO u v)/\h.IsListIter i1 a i/\h.IsListIter i2 b i) where
 mem:=by simp
 obj:=λi h st c hc=>by
  obtain ⟨s1,s2,⟨u,v,s3⟩,⟨o4,e4,c4,d4⟩,o5,e5,c5,d5⟩:=st;have hc:c=z\/c=TI\/c=TO\/c=i1\/c=i2:=by simpa using hc
  rcases hc with rfl | rfl | rfl | rfl | rfl
  ·exact ⟨_,s1,λv y=>by have y':Data.fields _=Data.cell v:=y; cases y'⟩
  ·exact ⟨_,s2,λv y=>by have y':Data.seq _ _=Data.cell v:=y; cases y'⟩
  ·exact ⟨_,s3,λv y=>by have y':Data.seq _ _=Data.cell v:=y; cases y'⟩
  ·exact ⟨o4,e4,λv y=>by rw [d4] at y; cases y⟩
  ·exact ⟨o5,e5,λv y=>by rw [d5] at y; cases y⟩
 keep:=λi h h' st k=>by
  obtain ⟨s1,s2,⟨u,v,s3⟩,s4,s5⟩:=st;exact ⟨k z (by simp) _ s1,k TI (by simp) _ s2,⟨u,v,k TO (by simp) _ s3⟩,s4.at λo e=>k i1 (by simp) o e,s5.at λo e=>k i2 (by simp) o e⟩
 item:=by
  intro X hP hw hK hc i jy s σ H E I hf st hg;subst hP hw hK;obtain ⟨xs,ys,x,y,ue,ud,hx,hy⟩:=hg;obtain ⟨itx,wl,px,_⟩:=I.list ue;obtain ⟨ity,wk,py,_⟩:=I.list ud;obtain ⟨u,hu,ru⟩:=wl.get hx;obtain ⟨v,hv,rv⟩:=wk.get hy;obtain ⟨s1,s2,⟨u0,v0,s3⟩,s4,s5⟩:=st;refine wpAny_pyNext_zip_item D s1 s2 s3 s4 s5 px.isList py.isList (x:=u) (y:=v) (by simpa using hu) (by simpa using hv) λh' a1 a2 a3 a4 a5 a6 a7=>?_;refine ⟨.ref s.heap.objs.size,Z,wpAny_letOwnedTupleGo_zip a1 λpf b1 sb=>?_⟩;have lt:∀ c∈[z,TI,TO,i1,i2],c < s.heap.objs.size:=λc hc=>by
   obtain ⟨o,e,_⟩:∃ o,s.heap.get? c=some o/\True:=by
    have hc:c=z\/c=TI\/c=TO\/c=i1\/c=i2:=by simpa using hc
    rcases hc with rfl | rfl | rfl | rfl | rfl
    ·exact ⟨_,s1,trivial⟩
    ·exact ⟨_,s2,trivial⟩
    ·exact ⟨_,s3,trivial⟩
    ·obtain ⟨o,e,_⟩:=s4; exact ⟨o,e,trivial⟩
    ·obtain ⟨o,e,_⟩:=s5; exact ⟨o,e,trivial⟩
   exact Ao e
  have kd:∀ c o,c≠z->c≠TO->c≠i1->c≠i2->s.heap.get? c=some o->pf.get? c=some o:=λc o n1 n2 n3 n4 e=>(sb.2 c n1).trans (a7 c o n1 n2 n3 n4 e);have zl:=lt z (by simp);have pi:pf.get? s.heap.objs.size=some { cls:=.type "tuple",data:=.seq #[u,v] }:=(sb.2 _ (Nat.ne_of_gt zl)).trans a5;have hn:H s.heap.objs.size=none:=I.hok.fresh (An _)
  have I2:Inv X jy σ (upd H s.heap.objs.size (.tup [x,y])) { s with heap:=pf }:=by
   have out:∀ c,c ∉ [z,TO,i1,i2]->c≠z/\c≠TO/\c≠i1/\c≠i2:=λc hc=>by simpa using hc
   refine I.step (g':=s.gens) (d':=s.drawn) (ch:=[z,TO,i1,i2]) (λc hc=>?_) (λc o _ _ hc q _=>?_) (λc o _ _ hc q _=>⟨o.slots,?_⟩) (λc o _ q n=>by rw [Zf (As (Ao q))]; exact n)
    (λc o hc q=>⟨o,?_⟩) (λc zs q=>by rw [Zf (Zj q hn)]; exact q) (λc o zs q=>by rw [Zf (Zj q hn)]; exact q) (λc ps q=>⟨#[],by rw [Zf (Zj q hn),q]; simp⟩) (λm hm=>?_) (λc v' q=>?_) I.bare
   ·have hc:c=z\/c=TO\/c=i1\/c=i2:=by simpa using hc
    have hm:c∈[z,TI,TO,i1,i2]:=by rcases hc with rfl | rfl | rfl | rfl <;> simp
    obtain ⟨f0,f1,f2,f3,f4,f5⟩:=hf c hm;exact ⟨f3,f1,f4,f5⟩
   ·obtain ⟨n1,n2,n3,n4⟩:=out c hc; exact kd c o n1 n2 n3 n4 q
   ·obtain ⟨n1,n2,n3,n4⟩:=out c hc; exact kd c o n1 n2 n3 n4 q
   ·obtain ⟨n1,n2,n3,n4⟩:=out c hc; exact kd c o n1 n2 n3 n4 q
   ·obtain ⟨o,es,ep,ho,r⟩:=hm
    exact ⟨o,es,ep,kd _ o (Ne.symm (hf z (by simp)).2.1) (Ne.symm (hf TO (by simp)).2.1) (Ne.symm (hf i1 (by simp)).2.1) (Ne.symm (hf i2 (by simp)).2.1) ho,r⟩
   ·by_cases hb:c=s.heap.objs.size
    ·subst hb
     rw [Zc] at q;cases q;exact ⟨by show 2<=sizeLine; decide,[u,v],.cons ru (.cons rv .nil),⟨_,pi,rfl,_,rfl⟩⟩
    ·rw [Zf hb] at q
     refine (I.hok c v' q).stay (λe w' he y'=>kd e w' ?_ ?_ ?_ ?_ y') (λd y'=>by rw [Zf (Zj y' hn)]; exact y') λd zs y'=>by rw [Zf (Zj y' hn)]; exact y'
     all_goals
      rintro rfl;have rj:H e=none:=(hf e (by simp)).1
      rcases he with y' | y'
      ·rw [y',q] at rj; cases rj
      ·rw [rj] at y'; cases y'
  refine ⟨.ref s.heap.objs.size,_,I2,Z,⟨_,x,y,hn,Z,λxs' mh=>by rw [I.list_inj mh ue]; exact hx,λys' mh=>by rw [I.list_inj mh ud]; exact hy,Z⟩,
   ⟨b1,(sb.2 TI D.TIz).trans (a7 TI _ D.TIz D.TITO D.TIi1 D.TIi2 s2),⟨u,v,(sb.2 TO D.TOz).trans a2⟩,a3.at λo e=>(sb.2 i1 D.i1z).trans e,a4.at λo e=>(sb.2 i2 D.i2z).trans e⟩,λc hc=>?_⟩;rw [Zf (As (lt c hc))];exact (hf c hc).1
 done:=by
  intro X hP hw hK hc i jy s σ H E I hf st hg;subst hP hw hK;obtain ⟨xs,ys,ue,ud,jz⟩:=hg;obtain ⟨itx,wl,px,_⟩:=I.list ue;obtain ⟨ity,wk,py,_⟩:=I.list ud;obtain ⟨s1,s2,⟨u0,v0,s3⟩,s4,s5⟩:=st;have l1:=wl.length;have l2:=wk.length;refine wpAny_pyNext_zip_end (I.ok.hd hc) D s1 s2 s3 s4 s5 px.isList py.isList ?_ λh' eb=>⟨Z,?_⟩
  ·rcases jz with z | z
   ·exact .inl (by simp; lia)
   ·exact .inr (by simp; lia)
  ·have out:∀ c,c ∉ [z,TO,i1,i2]->c≠z/\c≠TO/\c≠i1/\c≠i2:=λc hc=>by simpa using hc
   refine I.step (g':=s.gens) (d':=s.drawn) (t':=s.toks) (ch:=[z,TO,i1,i2]) (λc hc=>?_) (λc o _ _ hc q _=>?_) (λc o _ _ hc q _=>⟨o.slots,?_⟩) (λc o _ q n=>n)
    (λc o hc q=>⟨o,?_⟩) (λc zs q=>q) (λc o zs q=>q) (λc ps q=>⟨#[],by rw [q]; simp⟩) (λm hm=>?_) (λc v' q=>?_) I.bare
   ·have hc:c=z\/c=TO\/c=i1\/c=i2:=by simpa using hc
    have hm:c∈[z,TI,TO,i1,i2]:=by rcases hc with rfl | rfl | rfl | rfl <;> simp
    obtain ⟨f0,f1,f2,f3,f4,f5⟩:=hf c hm;exact ⟨f3,f1,f4,f5⟩
   ·obtain ⟨n1,n2,n3,n4⟩:=out c hc; exact eb c o n1 n2 n3 n4 q
   ·obtain ⟨n1,n2,n3,n4⟩:=out c hc; exact eb c o n1 n2 n3 n4 q
   ·obtain ⟨n1,n2,n3,n4⟩:=out c hc; exact eb c o n1 n2 n3 n4 q
   ·obtain ⟨o,es,ep,ho,r⟩:=hm
    exact ⟨o,es,ep,eb _ o (Ne.symm (hf z (by simp)).2.1) (Ne.symm (hf TO (by simp)).2.1) (Ne.symm (hf i1 (by simp)).2.1) (Ne.symm (hf i2 (by simp)).2.1) ho,r⟩
   ·refine (I.hok c v' q).stay (λe w' he y'=>eb e w' ?_ ?_ ?_ ?_ y') (λd y'=>y') λd zs y'=>y'
    all_goals
     rintro rfl;have rj:H e=none:=(hf e (by simp)).1
     rcases he with y' | y'
     ·rw [y',q] at rj; cases rj
     ·rw [rj] at y'; cases y'
 self:=λ_ _ _ _ _ st h=>wpAny_pyIter_zip st.1 h
def Zev (la:a < N) (lb:b < N):ZipApart (N + 4) (N + 2) (N + 3) N (N + 1) a b:=by
 constructor <;> (intro z; first | exact absurd (show (_:Nat)=_ from z) (by lia) | lia)
variable {X:Cx}
def iZip (K:W.Frag) (ta:TA):TI:=λσ H R=>ta σ H λvs H1=>∃ a b xs ys,vs=[.ref a,.ref b]/\SqL K H1 a xs/\SqL K H1 b ys/\R (Itz K a b) H1
def Zj2 {lq:List Expr} {x1:Nat} {m7 p pos:Pos} {l m:Expr} {ta:TA} (hg:Gl X "zip") (hm:X.mg "zip"=none) (ha:PA X [l,m] ta) (hs:starEach [l,m] X.env=[(false,eval l X.env),(false,eval m X.env)]:=by rfl) (qj:starEach [m] X.env=[(false,eval m X.env)]:=by rfl) :
  PI X (.Tuple lq x1 m7) (.Call (.Name "zip" p) [l,m] [] pos) (iZip X.K ta):=by
 intro jy s σ H R I h;refine Call_ (Jt I hg hm boot_zip (PyProof.Rows.callWith_type1 (thn (ha pos jy s σ H _ I h) λus s1 ⟨vs,H1,I1,r1,q1⟩=>?_) (by rw [hs,qj]) (by rw [qj]; rfl)));obtain ⟨a,b,xs,ys,e,ue,ud,q⟩:=q1;subst e;obtain ⟨u,v,rfl,ru,rv⟩:=r1.two;cases ru;cases rv;obtain ⟨itx,wl,px,_⟩:=I1.list ue;obtain ⟨ity,wk,py,_⟩:=I1.list ud;have la:a < s1.heap.objs.size:=by obtain ⟨o,ho,_⟩:=px.isList; exact Ao ho
 have lb:b < s1.heap.objs.size:=by obtain ⟨o,ho,_⟩:=py.isList; exact Ao ho
 refine call_zip_2 px.isList py.isList λh' z1 z2 z3 z4 z5 z6 z7=>wpAny_pyIter_zip z1 ?_;have I2:Inv X jy σ H1 { s1 with heap:=h' }:=I1.kept (t':=s1.toks) z7;generalize hN:s1.heap.objs.size=N at *;refine ⟨N + 4,[N + 4,N + 2,N + 3,N,N + 1],_,_,H1,Z,I2,Zgu a b (N + 4) (N + 2) (N + 3) N (N + 1) (Zev la lb),⟨z1,z2,⟨_,_,z3⟩,z4,z5⟩,λc hc=>?_,q⟩;have hc:s1.heap.objs.size<=c:=by
  have hc:c=N + 4\/c=N + 2\/c=N + 3\/c=N\/c=N + 1:=by simpa using hc
  rw [hN]
  rcases hc with rfl | rfl | rfl | rfl | rfl
  ·exact Nat.le_add_right _ _
  ·exact Nat.le_add_right _ _
  ·exact Nat.le_add_right _ _
  ·exact An _
  ·exact Nat.le_add_right _ _
 exact I1.fpOk hc (I1.hok.fresh hc)
def Zhm {K:W.Frag} {a b:Addr} {xs ys:List V} {g:TG} {tt:TT} {tb:TB} {R:St->Hp->Prop} {σ:St} {H:Hp} (jz:xs.length=ys.length) (Pv:Nat->St->Hp->Prop) (h0:Pv 0 σ H) (hl:∀ i σ H,i<=xs.length->Pv i σ H->SqL K H a xs/\SqL K H b ys)
  (hs:∀ (i:Nat) x y σ H q,xs[i]?=some x->ys[i]?=some y->H q=none->Pv i σ H->g (.ref q) σ (upd H q (.tup [x,y])) λσ2 H2=>tt σ2 H2 λb H3=>if b=true then tb σ2 H3 (Pv (i + 1)) else Pv (i + 1) σ2 H3) (hd:∀ σ H,Pv xs.length σ H->R σ H):Jf (Itz K a b) g tt tb R σ H:=by
 refine ⟨λi m σ H=>m=xs.length - i/\i<=xs.length/\Pv i σ H,⟨xs.length,by simp,Az _,h0⟩,?_⟩;rintro i m σ H ⟨rfl,hi,p⟩;obtain ⟨q1,q2⟩:=hl i σ H hi p;by_cases ku:i < xs.length
 ·have hlt2:i < ys.length:=by lia
  refine .inr ⟨⟨xs,ys,xs[i],ys[i],q1,q2,by simp [ku],by simp [hlt2]⟩,Pv (i + 1),λσ' H' p'=>⟨xs.length - (i + 1),by lia,Z,ku,p'⟩,λx H' y=>?_⟩;obtain ⟨c,u,v,hn,e1,y1,y2,e2⟩:=y;subst e1 e2;exact hs i u v σ H c (y1 xs q1) (y2 ys q2) hn p
 ·have e:i=xs.length:=by lia
  subst e;exact .inl ⟨⟨xs,ys,q1,q2,.inl (An _)⟩,hd σ H p⟩
end
section
variable {X:Cx} {tg:Expr}
def Zc8 (K:W.Frag) (hc:X.calm=true) (h:PGs X es t)
  (hn:(assignEach es X.env).length=n:=by rfl) (kn:(assignEach es X.env).findIdx? (·.1)=none:=by rfl) (hk:X.K=K:=by rfl):PG X (.Tuple es k pos) (gTup K n t):=hk ▸ Zbd hc h hn kn
end
end L2
namespace KT
open PySem L2
def mV:Option Nat->V
 | none=>.non
 | some j=>.int j
structure TD (M:List (Option Nat)) (ns:List Int):Prop where
 n:∃ n,1<=n/\n<=40/\M.length=3 * n
 len:ns.length=M.length
 inv:∀ (i j:Nat),M[i]?=some (some j)->M[j]?=some (some i)/\i≠j
 rng:∀ (i:Nat) x,ns[i]?=some x->0<=x/\x<=9999
 eqv:∀ (i j:Nat) x,ns[i]?=some x->ns[j]?=some x->i=j\/M[i]?=some (some j)
 eqm:∀ (i j:Nat),M[i]?=some (some j)->ns[j]?=ns[i]?
def nm (s t:Int) (i:Nat):Int:=(s + t * i) % 10000
def rep (M:List (Option Nat)) (i:Nat):Nat:=match M[i]? with
 | some (some j)=>if j < i then j else i
 | _=>i
def pl (ns:List Int) (n:Nat) (x:Int):List Nat:=(List.range n).filter λi=>decide (ns[i]?=some x)
def keys (ns:List Int):Nat->List Int
 | 0=>[]
 | n + 1=>match ns[n]? with
  | some x=>if x∈keys ns n then keys ns n else keys ns n ++ [x]
  | none=>keys ns n
def Y2 {ns:List Int} {i:Nat}:i∈pl ns n x ↔ i < n/\ns[i]?=some x:=by
 unfold pl;rw [List.mem_filter,List.mem_range];simp
def Zhc (ns:List Int) (n:Nat) (x:Int):(pl ns n x).Nodup:=(List.nodup_range).sublist List.filter_sublist
def Zfv (ns:List Int) (n:Nat) (x:Int):(pl ns n x).Pairwise (· < ·):=(List.pairwise_lt_range).sublist List.filter_sublist
def Zc7 {ns:List Int} (h:ns[n]?=some x):pl ns (n + 1) x=pl ns n x ++ [n]:=by
 unfold pl;rw [List.range_succ,List.filter_append];congr 1;simp [h]
def Zba {ns:List Int} (h:ns[n]?≠some x):pl ns (n + 1) x=pl ns n x:=by
 unfold pl;rw [List.range_succ,List.filter_append];simp [h]
def Wg {ns:List Int} (h:ns[n]?=some x):keys ns (n + 1)=if x∈keys ns n then keys ns n else keys ns n ++ [x]:=by
 show (match ns[n]? with | some x=>if x∈keys ns n then keys ns n else keys ns n ++ [x] | none=>keys ns n)=_;rw [h]
theorem Xq {ns:List Int}:∀ {n:Nat} {x:Int},x∈keys ns n ↔ ∃ i,i < n/\ns[i]?=some x
 | 0,x=>by simp [keys]
 | n + 1,x=>by
  have ih:=Xq (ns:=ns) (n:=n) (x:=x)
  have e:x∈keys ns (n + 1) ↔ x∈keys ns n\/ns[n]?=some x:=by
   cases h:ns[n]? with
   | none =>
    have:keys ns (n + 1)=keys ns n:=by
     show (match ns[n]? with | some x=>if x∈keys ns n then keys ns n else keys ns n ++ [x] | none=>keys ns n)=_;rw [h]
    rw [this]; simp
   | some y =>
    rw [Wg h];split
    ·constructor
     ·exact .inl
     ·rintro (z | z)
      ·exact z
      ·cases z; assumption
    ·rw [List.mem_append,List.mem_singleton]
     constructor
     ·rintro (z | z)
      ·exact .inl z
      ·exact .inr (by rw [z])
     ·rintro (z | z)
      ·exact .inl z
      ·exact .inr (by cases z; rfl)
  rw [e,ih];constructor
  ·rintro (⟨i,h1,h2⟩ | h)
   ·exact ⟨i,by lia,h2⟩
   ·exact ⟨n,by lia,h⟩
  ·rintro ⟨i,h1,h2⟩
   by_cases c:i=n
   ·subst c; exact .inr h2
   ·exact .inl ⟨i,by lia,h2⟩
theorem Qt (ns:List Int):∀ n,(keys ns n).Nodup
 | 0=>List.nodup_nil
 | n + 1=>by
  have ih:=Qt ns n
  cases h:ns[n]? with
  | none =>
   have:keys ns (n + 1)=keys ns n:=by
    show (match ns[n]? with | some x=>if x∈keys ns n then keys ns n else keys ns n ++ [x] | none=>keys ns n)=_;rw [h]
   rw [this]; exact ih
  | some y =>
   rw [Wg h];split
   ·exact ih
   ·rename_i c
    refine List.nodup_append.mpr ⟨ih,by simp,λa ha b hb=>?_⟩;rw [List.mem_singleton] at hb;subst hb;rintro rfl;exact c ha
theorem Ju (ns:List Int):∀ n,(keys ns n).length<=n
 | 0=>An _
 | n + 1=>by
  have ih:=Ju ns n
  cases h:ns[n]? with
  | none =>
   have:keys ns (n + 1)=keys ns n:=by
    show (match ns[n]? with | some x=>if x∈keys ns n then keys ns n else keys ns n ++ [x] | none=>keys ns n)=_;rw [h]
   rw [this]; lia
  | some y =>
   rw [Wg h];split
   ·lia
   ·rw [Ae,At]; lia
def Zjx (h:x ∉ keys ns n):pl ns n x=[]:=by
 cases e:pl ns n x with
 | nil=>rfl
 | cons a r =>
  have:a∈pl ns n x:=by rw [e]; exact List.mem_cons_self
  obtain ⟨h1,h2⟩:=Y2.mp this;exact absurd (Xq.mpr ⟨a,h1,h2⟩) h
def Zbb (td:TD M ns) (n:Nat) (x:Int):(pl ns n x).length<=2:=by
 match e:pl ns n x with
 | []=>simp
 | [_]=>simp
 | [_,_]=>simp
 | a :: b :: c :: r =>
  exfalso;have nd:=Zhc ns n x;rw [e] at nd;have ha:=(Y2.mp (show a∈pl ns n x by rw [e]; simp)).2;have hb:=(Y2.mp (show b∈pl ns n x by rw [e]; simp)).2;have hc:=(Y2.mp (show c∈pl ns n x by rw [e]; simp)).2;simp only [List.nodup_cons,List.mem_cons,not_or] at nd;obtain ⟨⟨n1,n2,_⟩,⟨n3,_⟩,_⟩:=nd
  rcases td.eqv a b x ha hb with z | z
  ·exact n1 z
  ·rcases td.eqv a c x ha hc with y | y
   ·exact n2 y
   ·rw [z] at y
    cases y;exact n3 Z
def Oa {M:List (Option Nat)} {ns:List Int} (td:TD M ns) (hx:x∈keys ns ns.length) :
  (∃ a,pl ns ns.length x=[a]/\ns[a]?=some x/\M[a]?=some none)\/(∃ a b,a < b/\pl ns ns.length x=[a,b]/\ns[a]?=some x/\ns[b]?=some x/\M[a]?=some (some b)/\M[b]?=some (some a)):=by
 obtain ⟨i,h1,h2⟩:=Xq.mp hx;have mi:i∈pl ns ns.length x:=Y2.mpr ⟨h1,h2⟩;have l2:=Zbb td ns.length x;have st:=Zfv ns ns.length x
 match e:pl ns ns.length x with
 | []=>rw [e] at mi; simp at mi
 | [a] =>
  obtain ⟨ga,ha⟩:=Y2.mp (show a∈pl ns ns.length x by rw [e]; simp);refine .inl ⟨a,Z,ha,?_⟩;have la:a < M.length:=by rw [<- td.len]; exact ga
  cases q:M[a]? with
  | none=>rw [List.getElem?_eq_none_iff] at q; lia
  | some o =>
   cases o with
   | none=>rfl
   | some b =>
    exfalso;have hb:ns[b]?=some x:=by rw [td.eqm a b q]; exact ha
    have mb:b∈pl ns ns.length x:=Y2.mpr ⟨(Aa hb).1,hb⟩;rw [e,List.mem_singleton] at mb;exact (td.inv a b q).2 mb.symm
 | [a,b] =>
  obtain ⟨ga,ha⟩:=Y2.mp (show a∈pl ns ns.length x by rw [e]; simp);obtain ⟨gb,hb⟩:=Y2.mp (show b∈pl ns ns.length x by rw [e]; simp);rw [e] at st;have ow:a < b:=by simpa using st
  rcases td.eqv a b x ha hb with z | z
  ·lia
  ·exact .inr ⟨a,b,ow,Z,ha,hb,z,(td.inv a b z).1⟩
 | a :: b :: c :: r=>rw [e] at l2; simp at l2
def part (M:List (Option Nat)) (ns:List Int) (ks:List Int):List (Option Nat):=(List.range M.length).map λi=>match ns[i]? with
 | some x=>if x∈ks then M.getD i none else none
 | none=>none
def Xj (M:List (Option Nat)) (ns ks:List Int):(part M ns ks).length=M.length:=by unfold part; simp
def Wq {M:List (Option Nat)} {ns:List Int} (td:TD M ns) (h:ns[i]?=some x):(part M ns ks)[i]?=some (if x∈ks then M.getD i none else none):=by
 have li:i < M.length:=by rw [<- td.len]; exact (Aa h).1
 unfold part;rw [Ah,List.getElem?_range li];simp [h]
def Zhg {M:List (Option Nat)} (td:TD M ns):part M ns []=List.replicate M.length none:=by
 apply List.ext_getElem?;intro i;by_cases li:i < M.length
 ·obtain ⟨x,hx⟩:∃ x,ns[i]?=some x:=⟨_,Ac (by rw [td.len]; exact li)⟩
  rw [Wq td hx,List.getElem?_replicate,if_pos li];simp
 ·rw [Ay (by rw [Xj]; lia),Ay (by simp; lia)]
def Zhh {ns:List Int} (td:TD M ns):part M ns (keys ns ns.length)=M:=by
 apply List.ext_getElem?;intro i;by_cases li:i < M.length
 ·have ln:i < ns.length:=by rw [td.len]; exact li
  obtain ⟨x,hx⟩:∃ x,ns[i]?=some x:=⟨_,Ac ln⟩;rw [Wq td hx,if_pos (Xq.mpr ⟨i,ln,hx⟩),Ad,Ac li];rfl
 ·rw [Ay (by rw [Xj]; lia),Ay (by lia)]
def Zhf {M:List (Option Nat)} {ns:List Int} (td:TD M ns) {a:Nat} (hp:pl ns ns.length x=[a]) (hm:M[a]?=some none):part M ns (ks ++ [x])=part M ns ks:=by
 apply List.ext_getElem?;intro i;by_cases li:i < M.length
 ·have ln:i < ns.length:=by rw [td.len]; exact li
  obtain ⟨y,hy⟩:∃ x,ns[i]?=some x:=⟨_,Ac ln⟩;rw [Wq td hy,Wq td hy];by_cases c:y=x
  ·subst c
   have:i∈pl ns ns.length y:=Y2.mpr ⟨ln,hy⟩;rw [hp,List.mem_singleton] at this;subst this;have:M.getD i none=none:=by rw [Ad,hm]; rfl
   rw [this];simp
  ·simp [c]
 ·rw [Ay (by rw [Xj]; lia),Ay (by rw [Xj]; lia)]
def Zfz {M:List (Option Nat)} {ns:List Int} (td:TD M ns) (hp:pl ns ns.length x=[a,b]) (ow:a < b) (ha:M[a]?=some (some b)) (hb:M[b]?=some (some a)) :
  part M ns (ks ++ [x])=((part M ns ks).set a (some b)).set b (some a):=by
 have la:a < M.length:=(Aa ha).1;have lb:b < M.length:=(Aa hb).1;have na:=(Y2.mp (show a∈pl ns ns.length x by rw [hp]; simp)).2;have nb:=(Y2.mp (show b∈pl ns ns.length x by rw [hp]; simp)).2;apply List.ext_getElem?;intro i;by_cases li:i < M.length
 ·have ln:i < ns.length:=by rw [td.len]; exact li
  obtain ⟨y,hy⟩:∃ x,ns[i]?=some x:=⟨_,Ac ln⟩;rw [Wq td hy];by_cases cb:i=b
  ·subst cb
   rw [nb] at hy; cases hy;rw [List.getElem?_set_self (by rw [List.length_set,Xj]; exact lb),if_pos (by simp),Ad,hb];rfl
  ·rw [List.getElem?_set_ne (Ne.symm cb)]
   by_cases ca:i=a
   ·subst ca
    rw [na] at hy; cases hy;rw [List.getElem?_set_self (by rw [Xj]; exact la),if_pos (by simp),Ad,ha];rfl
   ·rw [List.getElem?_set_ne (Ne.symm ca),Wq td hy]
    have:y≠x:=by
     rintro rfl;have:i∈pl ns ns.length y:=Y2.mpr ⟨ln,hy⟩;rw [hp] at this;simp at this;lia
    simp [this]
 ·rw [Ay (by rw [Xj]; lia),Ay (by rw [List.length_set,List.length_set,Xj]; lia)]
def nV (i:Nat):V:=.int (i:Int)
theorem Wn {g:Int->V}:∀ {ks:List Int},valV (ks.map λx=>((Sum.inl x:Key),g x)) (Sum.inl y)=if y∈ks then some (g y) else none
 | []=>by simp [valV]
 | k :: r=>by
  have ih:=Wn (g:=g) (y:=y) (ks:=r);unfold valV at ih ⊢;rw [List.map_cons,List.find?_cons];by_cases c:k=y
  ·subst c
   simp
  ·have:(decide ((Sum.inl k:Key)=Sum.inl y))=false:=by
    rw [decide_eq_false_iff_not];intro z;cases z;exact c Z
   simp only [this];rw [ih];have:(y∈k :: r) ↔ y∈r:=by
    rw [List.mem_cons]
    exact ⟨λz=>z.elim (λw=>absurd w.symm c) id,.inr⟩
   simp only [this]
def Zc3 {g:Int->V} {ks:List Int} (h:y ∉ ks):putK (ks.map λx=>((Sum.inl x:Key),g x)) (Sum.inl y) v=(ks.map λx=>((Sum.inl x:Key),g x)) ++ [(Sum.inl y,v)]:=by
 unfold putK;rw [if_neg];intro z;rw [List.any_eq_true] at z;obtain ⟨kv,h1,h2⟩:=z;obtain ⟨x,hx,rfl⟩:=List.mem_map.mp h1;have:(Sum.inl x:Key)=Sum.inl y:=of_decide_eq_true h2;cases this;exact h hx
def Zf7 {α:Type} {f:α->V} {l:List α} {i:Nat} {x:α} (h:l[i]?=some x):atI (l.map f) (i:Int)=some (f x):=Gk (by rw [Ah,h]; rfl)
def Xx (h:upd H p o q=none):q≠p/\H q=none:=by
 by_cases c:q=p
 ·subst c; rw [Zc] at h; cases h
 ·rw [Zf c] at h; exact ⟨c,h⟩
def after (p:Int):Int:=if p % 3=2 then p - 2 else p + 1
def Xs (p:Int):Int:=if p % 3=0 then p + 2 else p - 1
def mvI (left:Bool) (a b:Nat) (z:Int):Int :=
 if z=after a then (if left then Xs b else Xs a) else if z=Xs b then (if left then after b else after a) else if z=after b then (if left then Xs a else Xs b) else if z=Xs a then (if left then after a else after b) else z
def mvN (left:Bool) (i j z:Nat):Nat:=(mvI left i j z).toNat
def X0 (M:List (Option Nat)) (p:Int):Bool:=decide (0<=p/\p < M.length) && (M.getD p.toNat none).isSome
def Qk (M:List (Option Nat)) (a p:Int):Bool:=match M.getD a.toNat none with
 | some m=>decide (p / 3=(m:Int) / 3) && !decide (p=(m:Int))
 | none=>false
def rot {α:Type} (ws:List α) (s:Nat):List α:=ws.drop s ++ ws.take s
def Ja (M:List (Option Nat)) (ws vs:List Int):List Bool:=(ws.zip vs).map λp=>Qk M p.1 p.2
def Wz (M:List (Option Nat)) (ws:List Int):Bool:=!ws.isEmpty && ((ws.map (X0 M)).all id && (Ja M ws (rot ws (1 % ws.length))).all id)
def Zin {α:Type} (ws:List α) (h:s<=ws.length):(rot ws s).length=ws.length:=by
 unfold rot;rw [Ae,List.length_drop,Ai];lia
end KT
namespace L2
open PySem PySem.Spec PyProof.Rows
section
variable {X:Cx}
def F3 (i j:Int):Prop:=0 < j/\j.natAbs.log2 < 9000
def Zbi:OpR X (binaryOp .FloorDiv) (rI F3 λi j=>.int (i / j)):=opI λi j _ _ _ _ _ hc q=>by
 have h1:(0:Int) < j:=hc.1;exact floordiv_int (by lia) (by rw [Int.fdiv_eq_ediv_of_nonneg i (by lia)]; exact q) (.inl (PyProof.noPylong_of_log2 hc.2))
def log2_lt {j:Int} {k:Nat} (h:j.natAbs < 2 ^ k) (hk:0 < k):j.natAbs.log2 < k:=by
 by_cases e:j.natAbs=0
 ·rw [e]; simpa using hk
 ·exact (Nat.log2_lt e).mpr h
end
end L2
namespace HL
open PySem PyProof.Rows HT
end HL
namespace L2
open PySem PySem.Spec PyProof.Rows
end L2
namespace HT
end HT
namespace L2
open PySem PySem.Spec PyProof.Rows
section
variable {X:Cx} {jy:List (Addr × Obj)} {σ:St} {H:Hp} {s:Shared} {a:Addr} {y v:V} {u r:Value} {A:Around} {E:Value->Shared->Prop}
def Zlq {kvs:List (Key × V)} (I:Inv X jy σ H s) (e:H a=some (.dK kvs)) (l:kvs.length < sizeLine) (ry:RelV (kV k) u) (rv:RelV v r) (h:∀ s',Inv X jy σ (upd H a (.dK (putK kvs k v))) s'->Q () s') :
  wpAny (model X.prog X.w) A (dictSet a u r) Q E s:=by
 obtain ⟨z,hd,vs,j8,dd⟩:=F2 I.hok e;have hz:vs.length<=sizeLine:=by rw [<- j8.length]; exact z
 have hl:(putK kvs k v).length<=sizeLine:=by have:=X7 kvs k v; lia
 refine wpAny_dictSet_pairs (hsz:=hz) (Wk ry) dd λh' nz hs=>h _ ?_;have he:∃ q,h'.get? a=some q:=let ⟨q,_,_,hq,_⟩:=nz; ⟨q,hq⟩
 exact Ql I (by rw [e]; exact True.intro) hs he (Kq hl hd (j8.put k rv) nz)
end
def Zjs (tk tv:TE) (D:Addr):TB:=λσ H N=>tk σ H λx H1=>tv σ H1 λv H2=>∃ kvs k,x=kV k/\H2 D=some (.dK kvs)/\kvs.length < sizeLine/\N σ (upd H2 D (.dK (putK kvs k v)))
section
variable {X:Cx}
def Zbg (hk:PE X kx tk) (hv:PE X vx tv) :
  PB X ((eval kx X.env >>= λkv=>holding [kv] (eval vx X.env) >>= λvv=>standAt p >>= λ_=>holding [kv,vv] (dictSet D kv vv)) >>= λ_=>again c) c (Zjs tk tv D):=by
 intro jy s σ H N I h;refine Al (Al (thn (hk jy s σ H _ I h) λu s1 zm=>?_));obtain ⟨x,H1,I1,r1,q1⟩:=zm;refine Al (wpAny_holding (thn (hv jy s1 σ H1 _ I1 q1) λw s2 zk=>?_));obtain ⟨v,H2,I2,r2,q2⟩:=zk;refine Al (wpAny_standAt (wpAny_holding ?_));obtain ⟨kvs,k,rfl,hD,hl,q⟩:=q2;exact Zlq I2 hD hl r1 r2 λs3 I3=>wpAny_pure ⟨Z,σ,_,I3,q⟩
end
def Ze2 (ts:List Str) (fv:List (Str × Nat)) (wi:TI) (g:TG) (tt:TT) (tb:Addr->TB):TE:=λσ H Q=>wi σ H λJ H1=>∀ D,H1 D=none ->
 Jf J g tt (tb D) (λ_ H'=>Q (.ref D) H') (blkS ts fv σ) (upd H1 D (.dK []))
section
variable {X:Cx} {ts:List Str} {fv:List (Str × Nat)} {scope:Scope} {kx vx t0 i0:Expr} {f0:List Expr} {rest:List Comprehension} {pos:Pos} {wi:TI} {g:TG} {tt:TT} {tb:Addr->TB} {kr:Env->Addr->Addr->Sem Fin}
theorem Zes (B:BlkOk X scope fv) (hc:X.calm=true) (hi:PI X t0 i0 wi)
  (hg:∀ C s₀ H₀ ex,PG (Z9 X (blkN ts fv) scope C s₀ H₀ ex) t0 g) (ht:∀ C s₀ H₀ ex,PTs (Z9 X (blkN ts fv) scope C s₀ H₀ ex) f0 tt)
  (pc:∀ (env:Env) (it D:Addr),compTurn (.DictComp kx vx (⟨t0,i0,f0,0⟩ :: rest) scope pos) 0 (.ref it) (.ref D) env=(standAt i0.pos >>= λ_=>pyNext (.ref it) >>= λr=>match r with
   | none=>pure (.done .next)
   | some v=>letOwnedTupleGo t0 (.ref it) v >>= λ_=>assign t0 env v >>= λ_ =>
    (forIn f0 true λc r=>if r=true then do let ok <- isTrue c env (eval c env); pure (ForInStep.yield ok) else pure (ForInStep.yield r)) >>= λok =>
     if ok=true then kr env it D else again (.compLoop (.DictComp kx vx (⟨t0,i0,f0,0⟩ :: rest) scope pos) 0 (.ref it) (.ref D) env)))
  (hb:∀ C s₀ H₀ ex it D,PB (Z9 X (blkN ts fv) scope C s₀ H₀ ex) (kr (Z9 X (blkN ts fv) scope C s₀ H₀ ex).env it D) (.compLoop (.DictComp kx vx (⟨t0,i0,f0,0⟩ :: rest) scope pos) 0 (.ref it) (.ref D) (Z9 X (blkN ts fv) scope C s₀ H₀ ex).env) (tb D)) {RR:Value->Addr->Result->Shared->Prop} (I:Inv X jy σ H s) (h:Ze2 ts fv wi g tt tb σ H Q)
  (yp:∀ D C s' H',Inv X jy σ H' s'->H' C=none->X.s₀.heap.objs.size<=C->C≠X.env.locals->(∀ x c,X.env.cells.lookup x=some c->c≠C)->(∀ p∈X.pn ++ jy,p.1≠C)->(∃ m,s'.heap.Ns C m)->Q (.ref D) H'->RR (.ref D) C (.ok .next) s') :
  wpAny (model X.prog X.w) X.A (eval i0 X.env) (λx s₁=>wpAny (model X.prog X.w) X.A (pyIter x) (λit s₂=>wpAny (model X.prog X.w) X.A newDict (λj5 s₃ =>
   wpAny (model X.prog X.w) X.A (newFunctionEnv scope X.env.globals (Yr X.env scope.names []) [] X.env.qual none .none (some X.env)) (λmm s₄ =>
    codeAny (model X.prog X.w) X.A (.compStart (.DictComp kx vx (⟨t0,i0,f0,0⟩ :: rest) scope pos) 0 it j5 { mm with scope:=relabel scope X.env }) (RR j5 mm.locals) s₄) X.xe s₃) X.xe s₂) X.xe s₁) X.xe s:=by
 refine thn (hi jy s σ H _ I h) λv s1 h1=>thn h1 λuw s2 h2=>?_;obtain ⟨it,fp,tn,J,H2,e,I2,T,l6,f2,L⟩:=h2;subst e;have L:=L s2.heap.objs.size I2.fresh;refine wpAny_newObj_type ?_;have I3:Inv X jy σ (upd H2 s2.heap.objs.size (.dK [])) { s2 with heap:=s2.heap.push { cls:=.type "dict",data:=.dict #[] },toks:=s2.toks }:=I2.laid (a:=s2.heap.objs.size) (o:=.dK []) (t':=s2.toks) (λ_ _ q=>Ak _ q) (An _) (Qv s2.heap I2.big);have u7:∀ b∈fp,∃ o,s2.heap.get? b=some o/\∀ v,o.data≠.cell v:=T.obj _ _ l6;have f3:∀ b∈fp,FpOk X jy (upd H2 s2.heap.objs.size (.dK [])) b:=λb hb=>by
  obtain ⟨o,ho,_⟩:=u7 b hb
  refine ⟨?_,(f2 b hb).2⟩
  rw [Zf (As (Ao ho))]
  exact (f2 b hb).1
 have l9:tn 0 (s2.heap.push { cls:=.type "dict",data:=.dict #[] }):=T.keep _ _ _ l6 λb _ o e=>Ak _ e;have rq:∀ b∈fp,∃ o,(s2.heap.push { cls:=.type "dict",data:=.dict #[] }).get? b=some o:=λb hb=>let ⟨o,e,_⟩:=u7 b hb; ⟨o,Ak _ e⟩
 generalize hs3:({ s2 with heap:=s2.heap.push { cls:=.type "dict",data:=.dict #[] },toks:=s2.toks }:Shared)=s3 at I3;have eh:s2.heap.push { cls:=.type "dict",data:=.dict #[] }=s3.heap:=by rw [<- hs3]
 rw [eh] at l9 rq;refine wpAny_newFunctionEnv B.nocell (by intro y hy; simp at hy) (λh₁ ql rl=>?_) B.kind;have hk:∀ b o,s3.heap.get? b=some o->h₁.get? b=some o:=λb o e=>rl.extBut b o (As (Ao e)) (Ak _ e);have I4:=Fd (ts:=ts) (tk:=s3.toks + ([]:List (Str × Value)).length) B I3 f3 rq ql hk;have f4:∀ b∈fp,FpOk (Z9 X (blkN ts fv) scope s3.heap.objs.size s3 (upd H2 s2.heap.objs.size (.dK [])) fp) [] (upd H2 s2.heap.objs.size (.dK [])) b:=λb hb=>by
  obtain ⟨f0,f1,f2',f3',f4',f5'⟩:=f3 b hb
  obtain ⟨o,eo⟩:=rq b hb
  exact ⟨f0,As (Ao eo),I4.ok.exfs b hb,.inl hb,(I4.ok.exf b hb).2,λp hp=>absurd (show p∈([]:List (Addr × Obj)) from hp) (by simp)⟩
 have um:tn 0 h₁:=T.keep _ _ _ l9 λb _ o e=>hk b o e;have loop:codeAny (model X.prog X.w) X.A (.compLoop (.DictComp kx vx (⟨t0,i0,f0,0⟩ :: rest) scope pos) 0 (.ref it) (.ref s2.heap.objs.size) (Z9 X (blkN ts fv) scope s3.heap.objs.size s3 (upd H2 s2.heap.objs.size (.dK [])) fp).env)
   (RR (.ref s2.heap.objs.size) s3.heap.objs.size) { s3 with heap:=h₁,toks:=s3.toks + ([]:List (Str × Value)).length }:=by
  refine Vz (X:=Z9 X (blkN ts fv) scope s3.heap.objs.size s3 (upd H2 s2.heap.objs.size (.dK [])) fp) (tg:=t0) (ifs:=f0) (R:=λ_ H'=>Q (.ref s2.heap.objs.size) H') Z Z Z Z (pc _ it s2.heap.objs.size) T hc (hg _ _ _ _) (ht _ _ _ _) (hb _ _ _ _ it s2.heap.objs.size) f4 I4 um L λs' σ' H' J' q=>?_
  obtain ⟨e1,e2,e3,e4,e5,e6⟩:=Zdl I3 f3 (An _) J'
  obtain ⟨m,hm,_⟩:=J'.loc
  exact yp _ _ s' H' e1 e2 e3 e4 e5 e6 ⟨m,hm⟩ q
 exact codeAny_compStart_dict loop (T.self _ _ _ _ _ um loop)
theorem G2 (B:BlkOk X scope fv) (hc:X.calm=true) (hi:PI X t0 i0 wi)
  (hg:∀ C s₀ H₀ ex,PG (Z9 X (blkN ts fv) scope C s₀ H₀ ex) t0 g) (ht:∀ C s₀ H₀ ex,PTs (Z9 X (blkN ts fv) scope C s₀ H₀ ex) f0 tt)
  (pc:∀ (env:Env) (it D:Addr),compTurn (.DictComp kx vx (⟨t0,i0,f0,0⟩ :: rest) scope pos) 0 (.ref it) (.ref D) env=(standAt i0.pos >>= λ_=>pyNext (.ref it) >>= λr=>match r with
   | none=>pure (.done .next)
   | some v=>letOwnedTupleGo t0 (.ref it) v >>= λ_=>assign t0 env v >>= λ_ =>
    (forIn f0 true λc r=>if r=true then do let ok <- isTrue c env (eval c env); pure (ForInStep.yield ok) else pure (ForInStep.yield r)) >>= λok =>
     if ok=true then kr env it D else again (.compLoop (.DictComp kx vx (⟨t0,i0,f0,0⟩ :: rest) scope pos) 0 (.ref it) (.ref D) env)))
  (hb:∀ C s₀ H₀ ex it D,PB (Z9 X (blkN ts fv) scope C s₀ H₀ ex) (kr (Z9 X (blkN ts fv) scope C s₀ H₀ ex).env it D) (.compLoop (.DictComp kx vx (⟨t0,i0,f0,0⟩ :: rest) scope pos) 0 (.ref it) (.ref D) (Z9 X (blkN ts fv) scope C s₀ H₀ ex).env) (tb D))
  (hs:∀ x,foldedSetIterable i0 X.env x=pure x:=by intro _; rfl) :
  PE X (.DictComp kx vx (⟨t0,i0,f0,0⟩ :: rest) scope pos) (Ze2 ts fv wi g tt tb):=by
 intro jy s σ H Q I h;show wpAny _ X.A (comprehension (.DictComp kx vx (⟨t0,i0,f0,0⟩ :: rest) scope pos) scope X.env _ newDict false (eval i0 X.env)) _ _ s;refine wpAny_comprehension_free (use:=none) Z hs (Qa λy hy e=>I.ok.has y.1 (B.free y hy e)) B.kind B.names ?_;refine Zes (RR:=λj5 C=>compPost (model X.prog X.w) X.A X.xe none (EP X jy σ Q) j5 C) B hc hi hg ht pc hb I h λD C s' H' I' e2 e3 e4 e5 e6 hm q=>?_;obtain ⟨m,hm⟩:=hm;exact ⟨m,hm,λh' u4=>⟨.ref D,H',I'.apart u4 e2 e3 e4 e5 e6,Z,q⟩⟩
end
section
variable {X:Cx} {jy:List (Addr × Obj)} {σ:St} {H:Hp} {s:Shared} {a:Addr}
def Inv.thaw (I:Inv X jy σ H s) (e:H a=some (.frz ob (.dK kvs))) (h0:∀ o u,X.H₀ a≠some (.frz o u)):Inv X jy σ (upd H a (.dK kvs)) s:=by
 have oh:∀ c y,H c=some (.own y)->c≠a:=λc y r z=>by subst z; rw [r] at e; cases e
 have m9:∀ c xs,H c=some (.tup xs)->c≠a:=λc xs r z=>by subst z; rw [r] at e; cases e
 have qu:∀ c,H c=none->c≠a:=λc r z=>by subst z; rw [r] at e; cases e
 have hok:HOk X.prog X.w (upd H a (.dK kvs)) s.heap:=λb v q=>by
  have st:∀ c w',Ya X.prog X.w H s.heap c w'->Ya X.prog X.w (upd H a (.dK kvs)) s.heap c w':=λc w' x=>x.stay (λ_ _ _ q=>q) (λd r=>by rw [Zf (oh d c r)]; exact r) λd xs r=>by rw [Zf (m9 d xs r)]; exact r
  by_cases hb:b=a
  ·subst hb
   rw [Zc] at q;cases q;exact st _ _ (I.hok _ _ e).2
  ·rw [Zf hb] at q
   exact st _ _ (I.hok b v q)
 refine ⟨I.ok,I.os,I.bare,⟨I.base.keep,I.base.slot,λb o q n hx=>?_,I.base.there,λb xs q=>?_,λb o u q=>?_,λb ps q=>?_⟩,I.loc,I.cell,?_,λx c q=>?_,λp hp=>?_,hok,I.len⟩
 ·have:=I.base.free b o q n hx
  rw [Zf (qu b this)]; exact this
 ·have:=I.base.tups b xs q
  rw [Zf (m9 b xs this)]; exact this
 ·have:=I.base.frzs b o u q
  rw [Zf (λz=>by subst z; exact h0 _ _ q)]; exact this
 ·obtain ⟨more,z⟩:=I.base.tbls b ps q
  exact ⟨more,by rw [Zf (λw=>by subst w; rw [z] at e; cases e)]; exact z⟩
 ·have:=I.free
  rw [Zf (qu _ this)]; exact this
 ·have:=I.freeC x c q
  rw [Zf (qu _ this)]; exact this
 ·obtain ⟨q1,q2,q3⟩:=I.pin p hp
  exact ⟨q1,by rw [Zf (qu _ q2)]; exact q2,q3⟩
end
def Zku (H0:Hp) (t:TS):TS:=λD σ H=>t { D with nx:=λσ' H'=>∃ (a:Addr) (o:Obj) (kvs:List (Key × V)),H' a=some (.frz o (.dK kvs))/\(∀ o u,H0 a≠some (.frz o u))/\D.nx σ' (upd H' a (.dK kvs)) } σ H
def Zir {X:Cx} {st:Stmt} {t:TS} (h:PS X st t):PS X st (Zku X.H₀ t):=by
 intro jy s σ H D I hw;refine wpAny_mono (h jy s σ H _ I hw) (λf s' q=>?_) λ_ _ e=>e
 cases f with
 | next =>
  obtain ⟨σ',H',I',a,o,kvs,e,h0,q⟩:=q;exact ⟨σ',_,I'.thaw e h0,q⟩
 | ret v=>exact q
 | brk=>exact q
 | cont=>exact q
section
variable {X:Cx}
def Om {ys:List Str}:∀ {us:List Value},Vals (ys.map V.str) us->StrsAre us ys:=by
 induction ys with
 | nil=>intro us r; rw [List.map_nil] at r; cases r; exact .nil
 | cons y ys ih =>
  intro us r;rw [List.map_cons] at r
  cases r with
  | cons r1 r2 =>
   obtain ⟨t,e⟩:=r1;subst e;exact .cons y t (ih r2)
def Zle (K:W.Frag):V->List V->Hp->VK->Prop:=λo xs H Q=>∃ ll p ys,o=.str ll/\xs=[.ref p]/\SqL K H p (List.map V.str ys)/\ll.length<=16/\(ys.map (·.length)).sum + ys.length<=1048576/\Q (.str (Txt.join ll ys)) H
def Zda:MtR X "str.join" (Zle X.K):=by
 intro jy s σ H x xs v us Q I rx rs h;obtain ⟨ll,p,ys,rfl,rfl,hq,h1,h2,q⟩:=h;obtain ⟨t,rfl⟩:=rx;obtain ⟨u,rfl,ru⟩:=Xk rs;cases ru;obtain ⟨its,rv,pl,_⟩:=I.list hq;exact join_listW pl.isList (by simpa using Om rv) h1 h2 λt' k=>⟨.str _,H,I.tok _,⟨_,Z⟩,q⟩
end
theorem G8:∀ (l:List Str) (a:Array Nat),(l.foldl (λj5 p=>j5 ++ (Str.ofString "").cps ++ p.cps) a).toList=a.toList ++ (l.map λy=>y.cps.toList).flatten
 | [],a=>by simp
 | y :: r,a=>by
  rw [List.foldl_cons,G8 r];have:(Str.ofString "").cps=#[]:=by decide +kernel
  rw [this];simp
def Zhs (ys:List Str):(Txt.join (Str.ofString "") ys).cps.toList=(ys.map λy=>y.cps.toList).flatten:=by
 unfold Txt.join Builtin.Str.glued
 cases ys with
 | nil=>rfl
 | cons y r =>
  show ((r.foldl (λj5 p=>j5 ++ (Str.ofString "").cps ++ p.cps) y.cps)).toList=_;rw [G8];simp
end L2
namespace KT
open PySem L2
def aftN (i:Nat):Nat:=if i % 3=2 then i - 2 else i + 1
def nxC (M:List (Option Nat)) (c:Nat):Option Nat:=(M[aftN c]?).join
end KT
namespace L2
open PySem PySem.Spec PyProof.Rows
section
variable {X:Cx} {xl:Value->Shared->Prop} {R0:Value->St->Hp->Prop}
def PSL (X:Cx) (xl:Value->Shared->Prop) (R0:Value->St->Hp->Prop) (st:Stmt) (t:TSX):Prop :=
 ∀ (jy:List (Addr × Obj)) (s:Shared) (σ:St) (H:Hp) (D:Ends),Inv X jy σ H s->t D R0 σ H->wpAny (model X.prog X.w) X.A (exec st X.env) (SP X jy D) xl s
def PSsL (X:Cx) (xl:Value->Shared->Prop) (R0:Value->St->Hp->Prop) (st:List Stmt) (t:TSX):Prop :=
 ∀ (jy:List (Addr × Obj)) (s:Shared) (σ:St) (H:Hp) (D:Ends),Inv X jy σ H s->t D R0 σ H->wpAny (model X.prog X.w) X.A (execs st X.env) (SP X jy D) xl s
structure LV (X:Cx) (xl:Value->Shared->Prop) (R0:Value->St->Hp->Prop):Prop where
 lv:∀ (jy:List (Addr × Obj)) (ev:Value) (s':Shared),XS true X jy R0 ev s'->xl ev s'
 po:PassesOwn (model X.prog X.w) X.A X.env xl
def O9 {st:Stmt} {t:TSX} (L:LV X xl R0) (h:PSX true X st t):PSL X xl R0 st t:=λjy s σ H D I q =>
 wpAny_mono (h jy s σ H D R0 I q) (λ_ _ z=>z) λev s' z=>L.lv jy ev s' z
def J2 {st:Stmt} {rest:List Stmt} {t u:TSX} (h1:PSL X xl R0 st t) (h2:PSsL X xl R0 rest u):PSsL X xl R0 (st :: rest) (Zdr t u):=by
 intro jy s σ H D I h;refine wpAny_execs_cons (thn (h1 jy s σ H { D with nx:=u D R0 } I h) λf s1 q=>?_)
 cases f with
 | next =>
  obtain ⟨σ',H',I',q⟩:=q;exact h2 jy s1 σ' H' D I' q
 | ret v=>exact q
 | brk=>exact q
 | cont=>exact q
def Za5 {st:Stmt} {t:TSX} (h1:PSL X xl R0 st t):PSsL X xl R0 [st] t:=by
 intro jy s σ H D I h;refine wpAny_execs_cons (thn (h1 jy s σ H D I h) λf s1 q=>?_)
 cases f with
 | next=>exact wpAny_execs_nil q
 | ret v=>exact q
 | brk=>exact q
 | cont=>exact q
end
section
def Its (x:Str):It :=
 ⟨λi _=>i < x.cps.size,λi H v H'=>H'=H/\∃ c,x.cps[i]?=some c/\v=.str ⟨#[c]⟩,λi _=>x.cps.size<=i⟩
def Zgv {P:Program} {w:World} {K:W.Frag} {tg:Expr} (x:Str) (t:Tok) (it:Addr):Turn P w K tg (Its x) [it] it (λi h=>h.IsStrIter it "str_ascii_iterator" x t i) where
 mem:=by simp
 obj:=λi h st b hb=>by
  have e:b=it:=by simpa using hb
  subst e;obtain ⟨o,e,c,d⟩:=st;exact ⟨o,e,λv z=>by rw [d] at z; cases z⟩
 keep:=λi h h' st k=>by
  obtain ⟨o,ho,r⟩:=st;exact ⟨o,k it (by simp) o ho,r⟩
 item:=by
  intro X hP hw hK hc i jy s σ H E I hf st hg;subst hP hw hK;have hg:i < x.cps.size:=hg;obtain ⟨f0,f1,f2,f3,f4,f5⟩:=hf it (by simp);have hx:x.cps[i]?=some x.cps[i]:=by simp [hg]
  refine wpAny_pyNext_ascii_item st hx λh' my sb=>?_;have I1:Inv X jy σ H { s with heap:=h',toks:=s.toks + 1 }:=I.turned (t':=s.toks + 1) (λb o hb e=>(sb.2 b hb).trans e) f0 f1 f3 f4 f5;obtain ⟨o,e,c,d⟩:=id my;exact ⟨_,Z,F1 (s:={ s with heap:=h',toks:=s.toks + 1 }) e c d (by decide) ⟨.str ⟨#[x.cps[i]]⟩,H,I1,⟨_,Z⟩,⟨Z,_,hx,Z⟩,my,λb hb=>(hf b hb).1⟩⟩
 done:=by
  intro X hP hw hK hc i jy s σ H E I hf st hg;subst hP hw hK;have hg:x.cps.size<=i:=hg;obtain ⟨f0,f1,f2,f3,f4,f5⟩:=hf it (by simp);exact wpAny_pyNext_ascii_end (I.ok.hd hc) st (by simp [hg]) λh' eb=>⟨Z,I.turned (t':=s.toks) (λb o hb e=>eb b o hb e) f0 f1 f3 f4 f5⟩
 self:=λ_ _ _ _ _ st h=>wpAny_pyIter_striter_ascii st h
variable {X:Cx} {tg:Expr}
def iStr (tl:TE):TI:=λσ H R=>tl σ H λv H1=>∃ x,v=.str x/\x.cps.all (· < 128)=true/\R (Its x) H1
def Zj4 {l:Expr} {tl:TE} (hl:PE X l tl):PI X tg l (iStr tl):=by
 intro jy s σ H R I h;refine thn (hl jy s σ H _ I h) λv s1 j4=>?_;obtain ⟨x,H1,I1,r1,q1⟩:=j4;obtain ⟨x,e,ha,q⟩:=q1;subst e;obtain ⟨t,rfl⟩:=r1;refine wpAny_pyIter_ascii ha ?_;refine ⟨s1.heap.objs.size,[s1.heap.objs.size],_,_,H1,Z,I1.kept (t':=s1.toks) λb o e=>Ak _ e,Zgv x t _,⟨_,Ap _ Z,Z,Z⟩,λb hb=>?_,q⟩;have e:b=s1.heap.objs.size:=by simpa using hb
 subst e;exact I1.fpOk (An _) (I1.hok.fresh (An _))
end
section
variable {P:Program} {w:World} {K:W.Frag} {mg:Str->Option Value} {base:Heap} {x qual:Str} {st:Stmt} {f:Addr} {fd:FuncData} {N ps:List Str} {k:Nat} {sp:Sp}
def Fun.aR (F:Fun K x qual st f fd) (S:FnScope N ps (Ze st))
  (kl:∀ (j9:Value) (A:Around) (outer:List Env) (s:Shared) (H:Hp) (vs:List V) (Q:VK) (E:XK),Room k (A.deeper (envOfC qual (Ze st) s.heap.objs.size f j9))->sp vs H Q E ->
   ∃ t,PSs (cxOf (CXr P w) P w K mg base N qual (Ze st) f j9 A outer s H E).nox (Yn st) t/\t { nx:=λ_ H'=>Q .non H',rt:=Q } (X8 N vs) H)
  (len:∀ vs H Q E,sp vs H Q E->vs.length=ps.length:=by (intro vs H Q E h; (repeat obtain ⟨_,h⟩:=h); subst_vars; rfl)):FnOk P w K mg base (CXr P w) (k + 1) f fd ps sp:=F.okR S len kl
def Fun.aX (F:Fun K x qual st f fd) (S:FnScope N ps (Ze st))
  (kl:∀ (j9:Value) (A:Around) (outer:List Env) (s:Shared) (H:Hp) (vs:List V) (Q:VK) (E:XK),Room k (A.deeper (envOfC qual (Ze st) s.heap.objs.size f j9))->sp vs H Q E ->
   ∃ t,PSsX true (cxOf (CXr P w) P w K mg base N qual (Ze st) f j9 A outer s H E).nox (Yn st) t/\t { nx:=λ_ H'=>Q .non H',rt:=Q } (λcls _ H'=>E cls none H') (X8 N vs) H)
  (len:∀ vs H Q E,sp vs H Q E->vs.length=ps.length:=by (intro vs H Q E h; (repeat obtain ⟨_,h⟩:=h); subst_vars; rfl)):FnOk P w K mg base (CXr P w) (k + 1) f fd ps sp:=F.okX S len kl
end
end L2
namespace L2
open PySem PySem.Spec PyProof.Rows PySem.SeqAt
end L2
namespace KT
open PySem L2
def CH (R:Nat->Nat->Prop) (l:List Nat):Prop:=∀ (k u v:Nat),l[k]?=some u->l[k + 1]?=some v->R u v
end KT
namespace L2
open PySem PySem.Spec PyProof.Rows
def FlyA (e T:Addr) (cls a0 fl:Value) (h:Heap):Prop :=
 ∃ oe vs oT ts,h.get? e=some oe/\(oe.cls=cls/\vs[0]?=some a0)/\oe.data=.fields vs/\vs[1]?=some (.ref T)/\T≠e/\h.get? T=some oT/\oT.data=.fields ts/\ts[3]?=some fl
def XA (X:Cx) (jy:List (Addr × Obj)) (E:XK) (ev:Value) (s':Shared):Prop :=
 ∃ (e T:Addr) (cls a0 fl:Value) (σ':St) (H':Hp),ev=.ref e/\Inv X jy σ' H' s'/\FlyA e T cls a0 fl s'.heap/\FxOk X jy H' e/\FxOk X jy H' T/\E cls none H'
abbrev TBX:=St->Hp->(St->Hp->Prop)->XK->Prop
def V9 {M:Model} {A:Around} {E:Value->Shared->Prop} {s:Shared} {base:Heap} {env:Env} {outer:List Env} {L e:Addr} {cls a0 fl:Value} {Q:Unit->Shared->Prop}
  (qd:A.frames=some (env :: outer)) (hl:s.heap.FunFrames base (env :: outer)) (hf:env.frame=some L) (ht:s.heap.TracedAtW base e cls a0 fl) (r6:base.StaysIn s.heap) (ui:base.get? e=none)
  (h:∀ h',Heap.LeftW base (env :: outer) e cls a0 s.heap h'->Q () { s with heap:=h' }):wpAny M A (leaving env (.ref e)) Q E s:=by
 by_cases hb:(fl == rawInt L)=true
 ·have htt:=ht
  obtain ⟨oe,vs,T,oT,ts,he,hc0,hd,h1,hnT,vf,hT,qg,h3⟩:=ht;unfold leaving noteFrame;simp only [hf];refine Al (Al (wpAny_field he hd h1 ?_));rw [if_pos (show (Value.ref T != Value.none)=true from by simp)];refine Al (wpAny_field hT qg h3 ?_);rw [if_pos hb];refine wpAny_pure ?_;refine wpAny_setFlight_noneW r6 hl htt λh' k1 k2 k3 k4=>h h' ⟨k1,k2,k3,λb o z n=>⟨o.slots,k4 b o z n⟩⟩
 ·obtain ⟨oe,vs,T,oT,ts,he,⟨ng,h0⟩,hd,h1,hnT,vf,hT,qg,h3⟩:=ht
  subst ng;unfold leaving noteFrame;simp only [hf];refine Al (Al (wpAny_field he hd h1 ?_));rw [if_pos (show (Value.ref T != Value.none)=true from by simp)];refine Al (wpAny_field hT qg h3 ?_);rw [if_neg hb];refine Al (wpAny_setField hT qg (Array.getElem?_eq_some_iff.mp h3).1 ?_);have other:∀ b,b≠T->(s.heap.update T (Obj.mapFields (·.setIfInBounds 3 Value.none))).get? b=s.heap.get? b:=λb hb=>Heap.get?_update_other _ _ (Ne.symm hb);have vn:∀ b o,s.heap.get? b=some o->(∀ vs,o.data≠.fields vs)->b≠T:=λb o hb ug q=>by
   rw [q,hT] at hb; injection hb with hb; subst hb; exact ug ts qg
  exact wpAny_newEntryW qd (hl.of_keeps λb o hb ug=>⟨o,(other b (vn b o hb ug)).trans hb,Z⟩) hf ((other e (Ne.symm vf)).trans he)
   (λb o yn=>(other b λq=>by rw [q,hnT] at yn; cases yn).trans (r6 b o yn)) ui hd (Array.getElem?_eq_some_iff.mp h1).1 h0
   λh' ⟨x1,x2,x3,x4⟩=>h h' ⟨x1,x2,x3,λb o hb ug=>x4 b o ((other b (vn b o hb ug)).trans hb) ug⟩
section
variable {P:Program} {w:World} {K:W.Frag} {mg:Str->Option Value} {base:Heap}
def Zf9 {N:List Str} {qual:Str} {scope:Scope} {f:Addr} {cd:Value} {A:Around} {outer:List Env} {s s':Shared} {H:Hp} {E:XK} {ev:Value} {jy:List (Addr × Obj)}
  (h:XA (cxOf (CXr P w) P w K mg base N qual scope f cd A outer s H E).nox jy E ev s'):(cxOf (CXr P w) P w K mg base N qual scope f cd A outer s H E).xe ev s':=by
 obtain ⟨e,T,cls,a0,fl,σ',H',rfl,I,hx,fe,fT,q⟩:=h;show wpAny (model P w) (A.deeper (envOfC qual scope s.heap.objs.size f cd)) (leaving (envOfC qual scope s.heap.objs.size f cd) (.ref e)) (λ_ mr=>CXr P w outer H s E (.ref e) mr) (λe' mr=>CXr P w outer H s E e' mr) s';have qd:(A.deeper (envOfC qual scope s.heap.objs.size f cd)).frames=some (envOfC qual scope s.heap.objs.size f cd :: outer):=I.ok.frames;have n0:∀ b,b∈[e,T]->s.heap.get? b=none:=λb hb=>by
  rcases Ar hb with z | z
  ·rw [z]; exact fe.n0
  ·obtain rfl:b=T:=by simpa using z
   exact fT.n0
 have nt:∀ b,b∈[e,T]->H' b=none:=λb hb=>by
  rcases Ar hb with z | z
  ·rw [z]; exact fe.nt
  ·obtain rfl:b=T:=by simpa using z
   exact fT.nt
 have hB:∀ b o,b ∉ [e,T]->b ∉ frs (envOfC qual scope s.heap.objs.size f cd :: outer)->s'.heap.get? b=some o->(PySem.W.hideAll s'.heap ([e,T] ++ frs (envOfC qual scope s.heap.objs.size f cd :: outer))).get? b=some o:=λb o h1 h2 e1 =>
  PySem.W.hideAll_get _ e1 λz=>(List.mem_append.mp z).elim h1 h2
 have hl:s'.heap.FunFrames (PySem.W.hideAll s'.heap ([e,T] ++ frs (envOfC qual scope s.heap.objs.size f cd :: outer))) (envOfC qual scope s.heap.objs.size f cd :: outer):=Wt I _ λb hb=>List.mem_append_right _ hb;have r6:(PySem.W.hideAll s'.heap ([e,T] ++ frs (envOfC qual scope s.heap.objs.size f cd :: outer))).StaysIn s'.heap:=λb o e1=>PySem.W.of_hideAll _ e1;have ui:(PySem.W.hideAll s'.heap ([e,T] ++ frs (envOfC qual scope s.heap.objs.size f cd :: outer))).get? e=none:=PySem.W.hideAll_none _ (List.mem_append_left _ List.mem_cons_self);obtain ⟨oe,vs,oT,ts,y1,y2,y3,y4,y5,y6,y7,y8⟩:=hx;refine V9 qd hl Z ⟨oe,vs,T,oT,ts,y1,y2,y3,y4,PySem.W.hideAll_none _ (List.mem_append_left _ (by simp)),y5,y6,y7,y8⟩ r6 ui λh' j4=>?_;obtain ⟨k1,k2,k3,k4⟩:=j4;obtain ⟨oe,vs,T',oT,ts,x1,x2,x3,x4,x5,x6,x7,x8,x9⟩:=k3;have lw:∀ b o,b∈frs (envOfC qual scope s.heap.objs.size f cd :: outer)->s'.heap.get? b=some o->∃ sl,h'.get? b=some { o with slots:=sl }:=λb o hb e1=>k4 b o e1 (I.fnd hb e1);have kept:∀ b o,b ∉ [e,T]->b ∉ frs (envOfC qual scope s.heap.objs.size f cd :: outer)->s'.heap.get? b=some o->h'.get? b=some o:=λb o h1 h2 e1=>k1 b o (hB b o h1 h2 e1);have nL:∀ b o,s.heap.get? b=some o->b ∉ frs outer->b ∉ frs (envOfC qual scope s.heap.objs.size f cd :: outer):=λb o e1 h2 z=>by
  have z':b∈s.heap.objs.size :: frs outer:=z
  rcases Ar z' with z1 | z1
  ·rw [z1] at e1; exact absurd (Ao e1) (Nat.lt_irrefl _)
  ·exact h2 z1
 have nE:∀ b o,s.heap.get? b=some o->b ∉ [e,T]:=λb o e1 z=>by rw [n0 b z] at e1; cases e1
 have trk:∀ b u,H' b=some u->∀ o,s'.heap.get? b=some o->h'.get? b=some o:=λb u hu o e1=>by
  refine kept b o (λz=>by rw [nt b z] at hu; cases hu) (λz=>?_) e1;rw [I.stkFree b z] at hu; cases hu
 have vg:s.heap.get? T'=none/\H' T'=none:=by
  by_cases hz:s'.heap.get? T'=none
  ·refine ⟨?_,I.untr hz⟩
   cases q':s.heap.get? T' with
   | none=>rfl
   | some o =>
    obtain ⟨o',e'⟩:=I.base.there T' o q' (by simp [cxOf]);rw [hz] at e'; cases e'
  ·obtain ⟨o,ho⟩:=Option.ne_none_iff_exists'.mp hz
   by_cases h1:T'∈[e,T]
   ·exact ⟨n0 T' h1,nt T' h1⟩
   ·by_cases h2:T'∈frs (envOfC qual scope s.heap.objs.size f cd :: outer)
    ·exfalso
     obtain ⟨sl,e'⟩:=lw T' o h2 ho;rw [x7] at e';cases e';exact I.fnd h2 ho ts x8
    ·rw [hB T' o h1 h2 ho] at x5; cases x5
 refine ⟨e,T',cls,a0,H',Z,I.os,I.bare,?_,λb u hu=>?_,fe.n0,vg.1,fe.nt,vg.2,⟨oe,vs,oT,ts,x1,x2,x3,x4,x6,x7,x8,x9⟩,q⟩
 ·refine Un.leave I.base (λb o e1 h1 e2=>kept b o (nE b o e1) (nL b o e1 h1) e2) (λb o hb e1=>lw b o (List.mem_cons_of_mem _ hb) e1) λb o e1 o' e2=>?_
  by_cases h2:b∈frs outer
  ·obtain ⟨sl,e'⟩:=lw b o' (List.mem_cons_of_mem _ h2) e2
   exact ⟨_,e'⟩
  ·exact ⟨o',kept b o' (nE b o e1) (nL b o e1 h2) e2⟩
 ·refine (I.hok b u hu).stay (λc v hc e1=>?_) (λ_ z=>z) λ_ _ z=>z
  rcases hc with z | z
  ·exact trk c u (by rw [z]; exact hu) v e1
  ·exact trk c _ z v e1
end
inductive ZS where
 | l (a:Addr)
 | t (a:Addr)
 | s (x:Str)
def ZS.ad:ZS->List Addr
 | .l a=>[a]
 | .t a=>[a]
 | .s _=>[]
def ZS.has (K:W.Frag) (H:Hp) (S:ZS) (xs:List V):Prop:=match S with
 | .l a=>SqL K H a xs
 | .t a=>SqT K H a xs
 | .s x=>x.cps.all (· < 128)=true/\xs=x.cps.toList.map λc=>V.str ⟨#[c]⟩
def ZS.it (S:ZS) (i:Addr) (k:Nat) (h:Heap):Prop:=match S with
 | .l a=>h.IsListIter i a k
 | .t a=>IsTupIter h i a k
 | .s x=>∃ t,h.IsStrIter i "str_ascii_iterator" x t k
def ZS.v:ZS->V
 | .l a=>.ref a
 | .t a=>.ref a
 | .s x=>.str x
def Zem {d:Addr} {kvs:List (Key × V)} {o:Obj} {g:TG} {tt:TT} {tb:TB} {R:St->Hp->Prop} {σ:St} {H:Hp} (Pv:Nat->St->Hp->Prop) (h0:Pv 0 σ H) (hl:∀ i σ H,i<=kvs.length->Pv i σ H->H d=some (.frz o (.dK kvs)))
  (hs:∀ (i:Nat) k x σ H q,kvs[i]?=some (k,x)->H q=none->Pv i σ H->g (.ref q) σ (upd H q (.tup [kV k,x])) λσ2 H2=>tt σ2 H2 λb H3=>if b=true then tb σ2 H3 (Pv (i + 1)) else Pv (i + 1) σ2 H3) (hd:∀ σ H,Pv kvs.length σ H->R σ H):Jf (Itm2 d kvs o) g tt tb R σ H:=by
 refine ⟨λi m σ H=>m=kvs.length - i/\i<=kvs.length/\Pv i σ H,⟨kvs.length,by simp,Az _,h0⟩,?_⟩;rintro i m σ H ⟨rfl,hi,p⟩;have q:=hl i σ H hi p;by_cases ku:i < kvs.length
 ·refine .inr ⟨⟨ku,q⟩,Pv (i + 1),λσ' H' p'=>⟨kvs.length - (i + 1),by omega,Z,ku,p'⟩,λx H' y=>?_⟩
  obtain ⟨c,k,v,hn,e1,y,e2⟩:=y;subst e1 e2;exact hs i k v σ H c y hn p
 ·have e:i=kvs.length:=by omega
  subst e;exact .inl ⟨⟨An _,q⟩,hd σ H p⟩
def Zjl (H0:Hp) (t:TE):TE:=λσ H Q=>t σ H λv H'=>∃ (a:Addr) (o:Obj) (kvs:List (Key × V)),H' a=some (.frz o (.dK kvs))/\(∀ o u,H0 a≠some (.frz o u))/\Q v (upd H' a (.dK kvs))
def Ziv {X:Cx} (h:PE X e t):PE X e (Zjl X.H₀ t):=by
 intro jy s σ H Q I hw;refine wpAny_mono (h jy s σ H _ I hw) (λv s' q=>?_) λ_ _ e=>e;obtain ⟨x,H',I',r,a,o,kvs,e,h0,q⟩:=q;exact ⟨x,_,I'.thaw e h0,r,q⟩
section
variable {X:Cx}
abbrev THs:=Value->TS
def PHs (X:Cx) (hs:List ExceptHandler) (t:THs):Prop :=
 ∀ (jy:List (Addr × Obj)) (s:Shared) (σ:St) (H:Hp) (D:Ends) (e T:Addr) (cls a0:Value) (h':Heap),Inv X jy σ H s->FxOk X jy H e->FxOk X jy H T ->
  Heap.FlyingW (PySem.W.hideAll s.heap (e :: T :: frs X.stack)) X.stack e cls a0 h'->s.heap.UpToSlots h'->t cls D σ H->wpAny (model X.prog X.w) X.A (handleBy (.ref e) X.env hs) (SP X jy D) X.xe { s with heap:=h' }
def Zbv {hs:List ExceptHandler}:PHs X hs (λ_ _ _ _=>False):=λ_ _ _ _ _ _ _ _ _ _ _ _ _ _ _ z=>z.elim
def Yi {b₀:Stmt} {le:List Stmt} {x:Str} {np pk:Pos} {rest:List ExceptHandler} {ts:TS} {tr:THs} {C:Addr} (hg:Gl X x) (hm:X.mg x=some (.ref C)) (hs:∀ e,PSs (Wl X e) (b₀ :: le) ts) (hr:PHs X rest tr)
  (hex:X.ex=[]:=by rfl) (hx:X.xe=(λ_ _=>False):=by rfl) (lg:(x == ("__debug__":Str))=false:=by decide) :
  PHs X (.ExceptHandler (some (.Name x np)) none (b₀ :: le) pk :: rest) (λcls D σ H=>∃ b,PySem.W.exmOne X.K cls (.ref C)=some b/\if b=true then ts D σ H else tr cls D σ H):=by
 intro jy s σ H D e T cls a0 h' I fe fT j' nk q;obtain ⟨b,hb,q⟩:=q;have I5:Inv X jy σ H { s with heap:=h' }:=I.flown hex fe fT j'.1 nk;obtain ⟨ob,rp,pp⟩:=j'.there;refine wpAny_handleBy_cons (codeAny_handlers_test (Xu (X:=Wl X e) (I5.hnd e) hg hm ?_ lg)) (by intro q; cases q);have LT:PySem.W.Looks (model X.prog X.w) h' (typeOf (.ref e)) cls:=by
  have:PySem.W.Looks (model X.prog X.w) h' (typeOf (.ref e)) ob.cls:=(PySem.W.Looks.ld rp).andThen .now
  rw [pp] at this
  exact this
 refine (PySem.W.exm_one I5.kIn LT hb).here ?_
 cases b with
 | false=>exact hr jy s σ H D e T cls a0 h' I fe fT j' nk q
 | true =>
  refine codeAny_handlers_suite ?_;refine lands_againW j' λh₆ hfl₆ hsm₆=>?_;have I6:Inv X jy σ H { s with heap:=h₆ }:=I.flown hex fe fT hfl₆.1 (nk.trans hsm₆);have h6:=hs e jy _ σ H D (I6.hnd e) q;have o1:(Wl X e).xe=λ_ _=>False:=hx;rw [o1] at h6;refine wpAny_mono h6 (λf s2 q2=>?_) λ_ _ z=>z.elim;exact q2.unhnd I6.ok
def Zks (tb:TSX) (th:THs):TS:=λD σ H=>tb D (λcls σ' H'=>th cls D σ' H') σ H
def Ga {body:List Stmt} {h₀:ExceptHandler} {hs:List ExceptHandler} {pos:Pos} {tb:TSX} {th:THs} (hb:PSsX false X body tb) (hh:PHs X (h₀ :: hs) th)
  (hex:X.ex=[]:=by rfl) (lm:∃ o,X.stack=X.env :: o:=by exact ⟨_,Z⟩) (qd:X.env.frame=some X.env.locals:=by rfl) :
  PS X (.Try body (h₀ :: hs) [] [] pos) (Zks tb th):=by
 intro jy s σ H D I h;obtain ⟨outer,lm⟩:=lm;refine wpAny_Try_except (wpAny_mono (hb jy s σ H D _ I h) (λf s1 q=>?_) ?_)
 ·cases f with
  | next=>exact wpAny_execs_nil q
  | ret v=>exact q
  | brk=>exact q
  | cont=>exact q
 ·rintro ev s1 ⟨e,T,cls,a0,σ1,H1,rfl,I1,xo,fe,fT,hT,q⟩
  obtain ⟨T,rfl⟩:∃ t,T=some t:=by
   cases T with
   | none=>exact absurd (hT Z) Bool.false_ne_true
   | some t=>exact ⟨t,Z⟩
  have fT:=fT T rfl;have qe:=Zgi I1 xo;have hA:X.A.frames=some (X.env :: outer):=by rw [I.ok.frames,lm]
  have tm:Heap.FlyingW (PySem.W.hideAll s1.heap (e :: T :: frs X.stack)) (X.env :: outer) e cls a0 s1.heap:=by
   have:=qe;generalize PySem.W.hideAll s1.heap (e :: T :: frs X.stack)=B at this ⊢;rw [lm] at this;exact this
  refine wpAny_looks_onW hA qd tm λh₄ hheld₄ hsm₄=>?_;refine wpAny_landsW hheld₄ λh₅ j' hsm₅'=>?_;refine hh jy s1 σ1 H1 D e T cls a0 h₅ I1 fe fT ?_ (hsm₄.trans hsm₅') q;generalize PySem.W.hideAll s1.heap (e :: T :: frs X.stack)=B at j' ⊢;rw [lm];exact j'
end
def FnOk.or {P:Program} {w:World} {K:W.Frag} {mg:Str->Option Value} {base:Heap} {CX:CXT} {k:Nat} {f:Addr} {fd:FuncData} {ps:List Str} {sp xa:Sp} (F:FnOk P w K mg base CX k f fd ps sp) (G:FnOk P w K mg base CX k f fd ps xa) :
  FnOk P w K mg base CX k f fd ps (λvs H Q E=>sp vs H Q E\/xa vs H Q E) :=
 ⟨λvs H Q E q=>q.elim (F.len vs H Q E) (G.len vs H Q E),λA outer s H args us vs Q E hr he hb hv hs=>hs.elim (F.run A outer s H args us vs Q E hr he hb hv) (G.run A outer s H args us vs Q E hr he hb hv)⟩
abbrev TAZ:=St->Hp->(List V->Hp->Prop)->XK->Prop
def PAZ (fr:Bool) (X:Cx) (es:List Expr) (t:TAZ):Prop :=
 ∀ (pos:Pos) (jy:List (Addr × Obj)) (s:Shared) (σ:St) (H:Hp) (Q:List V->Hp->Prop) (E:XK),Inv X jy σ H s->t σ H Q E->wpAny (model X.prog X.w) X.A (spliced (backTo pos (starEach es X.env))) (AP X jy σ Q) (XS fr X jy λcls σ' H'=>σ'=σ/\E cls none H') s
section
variable {X:Cx} {fr:Bool} {k:Nat} {f:Addr} {fd:FuncData} {ps:List Str} {sp:Sp} {ke:List V} {ds:List Value} {x:Str} {p pos:Pos} {e:Expr} {es:List Expr}
def Kd {t:TA} (h:PA X es t) (hx:X.xe=(λ_ _=>False):=by rfl):PAZ fr X es (λσ H Q _=>t σ H Q):=by
 intro pos jy s σ H Q E I q;have h0:=h pos jy s σ H Q I q;rw [hx] at h0;exact wpAny_mono h0 (λ_ _ z=>z) λ_ _ z=>z.elim
def Xp {te:TEX} {t:TAZ} (ha:PEX fr X e te) (hr:PAZ fr X es t) (hs:starEach (e :: es) X.env=(false,eval e X.env) :: starEach es X.env:=by rfl):PAZ fr X (e :: es) (λσ H Q E=>te σ H (λx H1=>t σ H1 (λxs H2=>Q (x :: xs) H2) E) E):=by
 intro pos jy s σ H Q E I h;rw [hs];show wpAny _ _ (spliced ((false,eval e X.env) :: backTo pos (starEach es X.env))) _ _ s;refine Calls.spliced_cons (thn (ha jy s σ H _ E I h) λu s1 j4=>?_);obtain ⟨x,H1,I1,r1,q1⟩:=j4;refine thn (hr pos jy s1 σ H1 _ E I1 q1) λus s2 zj=>?_;obtain ⟨xs,H2,I2,r2,q2⟩:=zj;exact ⟨x :: xs,H2,I2,.cons r1 r2,q2⟩
def J3 {t:TAZ} (F:FnOk X.prog X.w X.K X.mg X.base (CXr X.prog X.w) k f fd ps sp) (hr:Room k X.A) (hg:Gl X x) (hm:X.mg x=some (.ref f)) (hk:PySem.W.keepIn X.K (.ref f)=true) (hb:Xe X.K fd ps ds) (hd:Vals ke ds)
  (ha:PAZ fr X (e :: es) t) (hex:X.ex=[]:=by rfl) (lg:(x == ("__debug__":Str))=false:=by decide) (he:starEach (e :: es) X.env=(false,eval e X.env) :: starEach es X.env:=by rfl) (k9:(backTo pos (starEach es X.env)).any (·.1)=false:=by rfl) :
  PEX fr X (.Call (.Name x p) (e :: es) [] pos) (λσ H Q E=>t σ H (λvs H1=>sp (vs ++ ke) H1 Q E) E):=by
 intro jy s σ H Q E I h;have h0:=ha pos jy s σ H _ E I h;refine wpAny_Call_Name_kw (Xu I hg hm ?_ lg);refine PySem.W.callWith_K (h₀:=X.base) I.ok.mod.kin hk (wpAny_mono h0 (λus s1 zi=>?_) λ_ _ z=>z) he k9;obtain ⟨vs,H1,I1,r,q⟩:=zi;refine ⟨I1.kIn,?_⟩;exact V3 F hr hb hd hex I1 r q
end
structure LW (X:Cx) (xl:Value->Shared->Prop) (E:XK):Prop where
 l:LV X xl (λcls _ H'=>E cls none H')
 a:∀ (jy:List (Addr × Obj)) (ev:Value) (s':Shared),XA X jy E ev s'->xl ev s'
section
variable {X:Cx} {xl:Value->Shared->Prop} {E:XK} {e:Expr} {es:List Expr} {pos:Pos}
def G1 {fr:Bool} {k:Nat} {f C:Addr} {fd:FuncData} {ps:List Str} {sp:Sp} {ds:List Value} {ke:List V} {m:Str} {j7:Pos} {o:Expr} {ta:TEX} {pl:Sem Bool} (he:PEX fr X o ta) (c:Cls X.K C) (hm:Meth X.K C m f) (F:FnOk X.prog X.w X.K X.mg X.base (CXr X.prog X.w) k f fd ps sp) (hr:Room k X.A) (hb:Xe X.K fd ps ds) (hd:Vals ke ds) (hex:X.ex=[]:=by rfl)
  (ht:eval (.Call (.Attribute o m j7) [] [] pos) X.env=(do
   let ov <- eval o X.env
   standAt j7.atName
   let (f,first) <- holding [ov] (getMethod ov m pl)
   callWith pos f first (backTo pos (starEach [] X.env)) (backToKw pos (keywordEach [] X.env))):=by rfl) :
  PEX fr X (.Call (.Attribute o m j7) [] [] pos) (λσ H Q E=>ta σ H (λx H1=>∃ a dx fs,x=.ref a/\H1 a=some (.ins C dx fs)/\fs.lookup m=none/\sp (x :: ke) H1 Q E) E):=by
 intro jy s σ H Q E I h;refine PySem.W.methodCall_KW (pl:=pl) (thn (he jy s σ H _ E I h) λu s1 zf=>?_) ht;obtain ⟨x,H1,I1,rx,a,dx,fs,ex,ea,l,q⟩:=zf;subst ex;obtain rfl:u=Value.ref a:=rx;refine Jd I1 ea c hm l ?_;exact PySem.W.callWith_K0 (first:=[.ref a]) I1.kIn hm.kp (V3 (us:=[.ref a]) (vs:=[.ref a]) F hr hb hd hex I1 (.cons Z .nil) q)
end
section
variable {P:Program} {w:World} {K:W.Frag} {mg:Str->Option Value} {base:Heap}
def Fun.okLA {x qual:Str} {st:Stmt} {f:Addr} {fd:FuncData} {N ps:List Str} {k:Nat} {sp:Sp} (F:Fun K x qual st f fd) (S:FnScope N ps (Ze st)) (len:∀ vs H Q E,sp vs H Q E->vs.length=ps.length)
  (kl:∀ (j9:Value) (A:Around) (outer:List Env) (s:Shared) (H:Hp) (vs:List V) (Q:VK) (E:XK),Room k (A.deeper (envOfC qual (Ze st) s.heap.objs.size f j9))->sp vs H Q E ->
   ∃ t,(∀ xl,LW (cxOf (CXr P w) P w K mg base N qual (Ze st) f j9 A outer s H E).nox xl E->PSsL (cxOf (CXr P w) P w K mg base N qual (Ze st) f j9 A outer s H E).nox xl (λcls _ H'=>E cls none H') (Yn st) t)/\t { nx:=λ_ H'=>Q .non H',rt:=Q } (λcls _ H'=>E cls none H') (X8 N vs) H):FnOk P w K mg base (CXr P w) (k + 1) f fd ps sp:=by
 obtain ⟨oc,od,kV,kf,pm,an,j9,ct,qa,rfl,lk,mz⟩:=F.ex;refine Zer lk mz S len λA outer s H vs Q E hr nj=>?_;obtain ⟨t,h,q⟩:=kl j9 A outer s H vs Q E hr nj;refine ⟨λD σ H'=>t D (λcls _ yz=>E cls none yz) σ H',λjy s' σ' H' D I hD=>?_,q⟩;refine wpAny_mono (h _ ⟨⟨λjy ev mr z=>Zbs (fr:=true) ?_,PassesOwn.leaving⟩,λjy ev mr z=>Zf9 z⟩ jy s' σ' H' D (I.wish _) hD) (λ_ _ z=>z.unwish) λev mr z=>z;obtain ⟨e,T,cls,a0,σ2,H2,h1,h2,h3,h4,h5,h7,h6⟩:=z;exact ⟨e,T,cls,a0,σ2,H2,h1,h2.pins_of (λp hp=>absurd hp (by simp)),h3,h4.none,λt ht=>(h5 t ht).none,h7,h6⟩
def FnOk.no {CX:CXT} {k:Nat} {f:Addr} {fd:FuncData} {ps:List Str}:FnOk P w K mg base CX k f fd ps (λ_ _ _ _=>False):=⟨λ_ _ _ _ q=>q.elim,λ_ _ _ _ _ _ _ _ _ _ _ _ _ q=>q.elim⟩
end
section
variable {X:Cx} {i o:Expr} {ty td:TE} {pos:Pos}
def tKIn (w:World) (K:W.Frag) (ty td:TE):TE:=λσ H Q=>ty σ H λy H1=>td σ H1 λx H2=>∃ a kvs k,x=.ref a/\Jg w K a kvs/\y=kV k/\Q (.bl (valV kvs k).isSome) H2
def Zj8 (hi:PE X i ty) (ho:PE X o td):PC X .In i o (tKIn X.w X.K ty td):=by
 intro jy s σ H Q I h;refine thn (hi jy s σ H _ I h) λiv s1 ze=>?_;obtain ⟨y,H1,I1,ry,q1⟩:=ze;refine thn (ho jy s1 σ H1 _ I1 q1) λu s2 j4=>?_;obtain ⟨x,H2,I2,rx,a,kvs,k,ex,g,ey,q2⟩:=j4;subst ex ey;obtain rfl:u=Value.ref a:=rx;obtain ⟨hd,vs,j8,dd⟩:=g.here I2;refine wpAny_in_of (Wk ry) hd dd.mapOf ?_;rw [<- (j8.val k).isSome_eq];exact ⟨.bl _,H2,I2.tok _,Z,q2⟩
end
def kdict_mk5 {w:World} {K:W.Frag} {a:Addr} {h1 h2 h3 h4 h5:Int} {t1 t2 t3 t4 t5:Tok} {ep:Nat} {x1 x2 x3 x4 x5:Str} {y1 y2 y3 y4 y5:Addr}
  (l:K.lookup a=some ⟨.type "dict",none,.dict #[⟨h1,.str x1 t1,.ref y1⟩,⟨h2,.str x2 t2,.ref y2⟩,⟨h3,.str x3 t3,.ref y3⟩,⟨h4,.str x4 t4,.ref y4⟩,⟨h5,.str x5 t5,.ref y5⟩] ep,#[]⟩)
  (e1:h1=hashStr w x1) (e2:h2=hashStr w x2) (e3:h3=hashStr w x3) (e4:h4=hashStr w x4) (e5:h5=hashStr w x5) (ne:([x1,x2,x3,x4,x5]:List Str).Nodup) (sy:(a == sysModules)=false) :
  Jg w K a [(Sum.inr x1,.ref y1),(Sum.inr x2,.ref y2),(Sum.inr x3,.ref y3),(Sum.inr x4,.ref y4),(Sum.inr x5,.ref y5)]:=by
 refine ⟨_,_,_,[(Sum.inr x1,.ref y1),(Sum.inr x2,.ref y2),(Sum.inr x3,.ref y3),(Sum.inr x4,.ref y4),(Sum.inr x5,.ref y5)],l,⟨Z,Z,Z⟩,Z,λe he=>?_,λP=>?_,?_,?_,sy⟩
 ·have he:e=⟨h1,.str x1 t1,.ref y1⟩\/e=⟨h2,.str x2 t2,.ref y2⟩\/e=⟨h3,.str x3 t3,.ref y3⟩\/e=⟨h4,.str x4 t4,.ref y4⟩\/e=⟨h5,.str x5 t5,.ref y5⟩:=by simpa using he
  rcases he with rfl | rfl | rfl | rfl | rfl
  ·exact ⟨Sum.inr x1,Yk x1 t1,e1⟩
  ·exact ⟨Sum.inr x2,Yk x2 t2,e2⟩
  ·exact ⟨Sum.inr x3,Yk x3 t3,e3⟩
  ·exact ⟨Sum.inr x4,Yk x4 t4,e4⟩
  ·exact ⟨Sum.inr x5,Yk x5 t5,e5⟩
 ·exact .cons (Yk x1 t1) Z (.cons (Yk x2 t2) Z (.cons (Yk x3 t3) Z (.cons (Yk x4 t4) Z (.cons (Yk x5 t5) Z .nil))))
 ·have:([x1,x2,x3,x4,x5].map (Sum.inr:Str->Key)).Nodup:=by
   rw [List.nodup_iff_pairwise_ne,List.pairwise_map];exact (List.nodup_iff_pairwise_ne.mp ne).imp λh e=>h (by injection e)
  exact this
 ·exact .cons ⟨Z,Z⟩ (.cons ⟨Z,Z⟩ (.cons ⟨Z,Z⟩ (.cons ⟨Z,Z⟩ (.cons ⟨Z,Z⟩ .nil))))
end L2
namespace L2
open PySem PySem.Spec PyProof.Rows PySem.SeqAt
section
variable {X:Cx}
def Ku:Y7 X (.type "dict") (λxs H Q=>∃ (d:Addr) (kvs:List (Key × V)),xs=[.ref d]/\Rd H d (.dK kvs)/\∀ p,H p=none->Q (.ref p) (upd H p (.dK kvs))):=by
 intro jy s σ H xs us Q I r h;obtain ⟨d,kvs,rfl,hd,q⟩:=h;obtain ⟨u,rfl,ru⟩:=Xk r;obtain rfl:u=Value.ref d:=ru;obtain ⟨z,mf,vs,j8,dd⟩:=Je I.hok hd;have hl:vs.length<=sizeLine:=by rw [<- j8.length]; exact z
 refine kt_call_dict mf dd hl λh' hD rl=>?_;have hk:∀ b u,s.heap.get? b=some u->h'.get? b=some u:=λb u e=>(rl.2 b (As (Ao e))).trans (Ak _ e);refine ⟨.ref s.heap.objs.size,_,I.laid (a:=s.heap.objs.size) (o:=.dK kvs) (t':=s.toks) hk (An _) ⟨z,?_,vs,j8,hD⟩,Z,q _ (I.hok.fresh (An _))⟩;exact (Qv (P:=X.prog) (w:=X.w) (H:=H) s.heap I.big).2.1
def Zgs (bs:List Bool):((List.range bs.length).any λi=>bs.getD i true)=bs.any id:=by
 rw [Bool.eq_iff_iff,List.any_eq_true,List.any_eq_true];constructor
 ·rintro ⟨i,hi,h⟩
  have hi:=List.mem_range.mp hi;rw [Ad,Ac hi] at h;exact ⟨_,List.getElem_mem hi,h⟩
 ·rintro ⟨b,hb,h⟩
  obtain ⟨i,hi,rfl⟩:=List.mem_iff_getElem.mp hb;exact ⟨i,List.mem_range.mpr hi,by rw [Ad,Ac hi]; exact h⟩
def W0 (hc:X.calm=true):Y7 X (.builtin "any") (λxs H Q=>∃ p bs,xs=[.ref p]/\SqL X.K H p (List.map V.bl bs)/\Q (.bl (bs.any id)) H):=by
 intro jy s σ H xs us Q I r h;obtain ⟨p,bs,rfl,hq,q⟩:=h;obtain ⟨u,rfl,ru⟩:=Xk r;cases ru;obtain ⟨its,rv,pl,hz⟩:=I.list hq;have ne:p≠s.heap.objs.size:=by obtain ⟨o,ho,_⟩:=pl.isList; exact As (Ao ho)
 refine call_any_walk (wpAny_pyIter_list pl.isList ⟨s.heap.objs.size,_,_,_,_,_,λi=>bs.getD i true,Z,Walks.list (A:=X.A.in1) (show X.A.in1.handled=none from I.ok.hd hc) s.heap.objs.size p ne its.toArray,⟨⟨_,Ap _ Z,Z,Z⟩,pl.isList.push _⟩,?_,?_⟩)
 ·intro i v s' Q' E' hv k8
  have hv:its[i]?=some v:=by simpa using hv
  have jz:=rv.length;rw [Ab] at jz;have hi:i < bs.length:=by have:=(Aa hv).1; lia
  obtain ⟨u,hu,ru⟩:=rv.get (show (bs.map V.bl)[i]?=some (V.bl bs[i]) by rw [Ah,Ac hi]; rfl);rw [hv] at hu;cases hu;cases ru;have e:bs.getD i true=bs[i]:=by rw [Ad,Ac hi]; rfl
  refine wpAny_truthy_bool ?_;have k8:Q' (bs.getD i true) s':=k8;rw [e] at k8;exact k8
 ·intro h' tk hk
  have I1:Inv X jy σ H { s with heap:=h',toks:=tk }:=I.kept λb o e=>hk b o (λz=>absurd (Ao e) (by rw [Af z]; exact Nat.lt_irrefl _)) (Ak _ e);have jz:its.toArray.size=bs.length:=by have:=rv.length; rw [Ab] at this; simp; lia
  refine ⟨.bl (bs.any id),H,I1,?_,q⟩;show Value.bool _=_;rw [jz,Zgs]
theorem Kw (ns:List Int):∀ k,k<=ns.length->preSum (λi=>ns.getD i 0) k=(ns.take k).sum
 | 0,_=>by simp [preSum]
 | k + 1,h=>by
  rw [preSum,Kw ns k (by lia),Aw,Ac (by lia),List.sum_append,Ad,Ac (by lia)];simp
def Oh {jy:List (Addr × Obj)} {σ:St} {H:Hp} {s:Shared} {ns:List Int} {its:List Value} (rv:Vals (ns.map V.int) its):∀ (i:Nat) (v:Value),its.toArray[i]?=some v->∃ t,v=.int (ns.getD i 0) t:=λi v hv=>by
 have hv:its[i]?=some v:=by simpa using hv
 have jz:=rv.length;rw [Ab] at jz;have hi:i < ns.length:=by have:=(Aa hv).1; lia
 obtain ⟨u,hu,ru⟩:=rv.get (show (ns.map V.int)[i]?=some (V.int ns[i]) by rw [Ah,Ac hi]; rfl);rw [hv] at hu;cases hu;obtain ⟨t,rfl⟩:=ru;exact ⟨t,by rw [Ad,Ac hi]; rfl⟩
def Zgo (hc:X.calm=true):Y7 X (.builtin "sum") (λxs H Q=>∃ (p:Addr) (ns:List Int),xs=[.ref p]/\SqL X.K H p (ns.map V.int)/\Q (.int ns.sum) H):=by
 intro jy s σ H xs us Q I r h;obtain ⟨p,ns,rfl,hq,q⟩:=h;obtain ⟨u,rfl,ru⟩:=Xk r;cases ru;obtain ⟨its,rv,pl,hz⟩:=I.list hq;have lt:p < s.heap.objs.size:=by obtain ⟨o,ho,_⟩:=pl.isList; exact Ao ho
 have jz:its.toArray.size=ns.length:=by have:=rv.length; rw [Ab] at this; simp; lia
 refine call_sum_walkG (wpAny_pyIter_list pl.isList ⟨s.heap.objs.size,_,_,_,_,_,λi=>ns.getD i 0,Z,Walks.list (A:=X.A.in1) (show X.A.in1.handled=none from I.ok.hd hc) s.heap.objs.size p (As lt) its.toArray,⟨⟨_,Ap _ Z,Z,Z⟩,pl.isList.push _⟩,?_,Oh (jy:=jy) (σ:=σ) (H:=H) (s:=s) rv,?_⟩)
 ·intro b hb
  show b < (s.heap.push _).objs.size;rw [Heap.size_push]
  rcases Ar hb with rfl | hb
  ·exact Nat.lt_succ_self _
  ·rw [Af hb]; exact Nat.lt_succ_of_lt lt
 ·intro h' tk t' hk
  have I1:Inv X jy σ H { s with heap:=h',toks:=tk }:=I.kept λb o e=>hk b o (λz=>absurd (Ao e) (by rw [Af z]; exact Nat.lt_irrefl _)) (Ak _ e);refine ⟨.int ns.sum,H,I1,⟨t',?_⟩,q⟩;rw [jz,Kw ns _ (An _),List.take_length]
def Zgq (hc:X.calm=true):Y7 X (.builtin "max") (λxs H Q=>∃ (p:Addr) (ns:List Int),xs=[.ref p]/\SqL X.K H p (ns.map V.int)/\0 < ns.length/\∀ m,m∈ns->(∀ a∈ns,a<=m)->Q (.int m) H):=by
 intro jy s σ H xs us Q I r h;obtain ⟨p,ns,rfl,hq,hn,q⟩:=h;obtain ⟨u,rfl,ru⟩:=Xk r;cases ru;obtain ⟨its,rv,pl,hz⟩:=I.list hq;have lt:p < s.heap.objs.size:=by obtain ⟨o,ho,_⟩:=pl.isList; exact Ao ho
 have jz:its.toArray.size=ns.length:=by have:=rv.length; rw [Ab] at this; simp; lia
 have W:=Oh (jy:=jy) (σ:=σ) (H:=H) (s:=s) rv;refine call_max_walk (wpAny_pyIter_list pl.isList ⟨s.heap.objs.size,_,_,_,_,_,_,Z,Walks.list (A:=X.A.in1) (show X.A.in1.handled=none from I.ok.hd hc) s.heap.objs.size p (As lt) its.toArray,⟨⟨_,Ap _ Z,Z,Z⟩,pl.isList.push _⟩,?_,by rw [jz]; exact hn,CmpOf.ints_gt (λi=>ns.getD i 0) W,?_⟩)
 ·intro b hb
  show b < (s.heap.push _).objs.size;rw [Heap.size_push]
  rcases Ar hb with rfl | hb
  ·exact Nat.lt_succ_self _
  ·rw [Af hb]; exact Nat.lt_succ_of_lt lt
 ·intro v h' tk hP hk
  have I1:Inv X jy σ H { s with heap:=h',toks:=tk }:=I.kept λb o e=>hk b o (λz=>absurd (Ao e) (by rw [Af z]; exact Nat.lt_irrefl _)) (Ak _ e);rw [jz] at hP;obtain ⟨a1,a2⟩:=argBest_gt (λi=>ns.getD i 0) (ns.length - 1);obtain ⟨t,e⟩:=W _ _ hP;generalize argBest (λi j=>decide (ns.getD i 0 > ns.getD j 0)) (ns.length - 1)=k at a1 a2 e;have qo:k < ns.length:=by lia
  have ek:ns.getD k 0=ns[k]:=by rw [Ad,Ac qo]; rfl
  refine ⟨.int (ns.getD k 0),H,I1,⟨t,e⟩,q _ (by rw [ek]; exact List.getElem_mem qo) λa ha=>?_⟩;obtain ⟨j,hj,rfl⟩:=List.mem_iff_getElem.mp ha;have:=a2 j (by lia);have ej:ns.getD j 0=ns[j]:=by rw [Ad,Ac hj]; rfl
  show ns[j]<=ns.getD k 0;rw [<- ej]; exact this
def Wm (K:W.Frag) (hc:X.calm=true) (h:X.K=K:=by rfl):Y7 X (.builtin "sum") (λxs H Q=>∃ (p:Addr) (ns:List Int),xs=[.ref p]/\SqL K H p (ns.map V.int)/\Q (.int ns.sum) H):=h ▸ Zgo hc
def Kt (K:W.Frag) (hc:X.calm=true) (h:X.K=K:=by rfl):Y7 X (.builtin "max") (λxs H Q=>∃ (p:Addr) (ns:List Int),xs=[.ref p]/\SqL K H p (ns.map V.int)/\0 < ns.length/\∀ m,m∈ns->(∀ a∈ns,a<=m)->Q (.int m) H):=h ▸ Zgq hc
end
end L2
namespace L2
open PySem PySem.Spec PyProof.Rows
section
variable {X:Cx} {l:Expr} {tl:TE}
theorem Zga:∀ {kvs:List (Key × V)} {vs:List (Key × Value)} {ns:List Int},KV kvs vs->kvs.map (·.2)=ns.map V.int->∀ (i:Nat) (k:Key) (v:Value),vs[i]?=some (k,v)->∃ t,v=.int (ns.getD i 0) t
 | _,_,ns,.nil,_,i,k,v,h=>by simp at h
 | _,_,ns,.cons (a:=a) (b:=b) r rs,hm,i,k,v,h=>by
  cases ns with
  | nil=>cases hm
  | cons n ns =>
   rw [List.map_cons,List.map_cons] at hm
   injection hm with h1 h2
   cases i with
   | zero =>
    have h:b=(k,v):=by simpa using h
    have r2:=r.2;rw [h1,h] at r2;obtain ⟨t,e⟩:=r2;exact ⟨t,e⟩
   | succ i =>
    obtain ⟨t,e⟩:=Zga rs h2 i k v (by simpa using h);exact ⟨t,by simpa using e⟩
def Zkw (tl:TE):TE:=λσ H Q=>tl σ H λv H1=>∃ (d:Addr) (kvs:List (Key × V)) (ns:List Int),v=.ref d/\Rd H1 d (.dK kvs)/\kvs.map (·.2)=ns.map V.int/\Q (.int ns.sum) H1
def Zd8 {j7 p:Pos} (hc:X.calm=true) (hl:PE X l tl) (m:M0 X l "values" j7 j6) (hg:Gl X "sum") (hm:X.mg "sum"=none):PE X (.Call (.Name "sum" p) [.Call (.Attribute l "values" j7) [] [] j6] [] pos) (Zkw tl):=by
 intro jy s σ H Q I h;refine wpAny_Call_Name_kw (Jt I hg hm PyProof.Rows.boot_sum ?_ (by decide) (by decide));refine PyProof.Rows.callWith_builtin1 ?_ Z Z;show wpAny _ _ (spliced ((false,eval (.Call (.Attribute l "values" j7) [] [] j6) X.env) :: [])) _ _ s;refine Calls.spliced_cons ?_;refine wpAny_Call_method m.base m.few m.line PySem.F.plainAttrs_dict PySem.F.slot_dict_values PySem.F.type_dict_values (thn (hl jy s σ H _ I h) λv s1 j4=>?_);obtain ⟨x,H1,I1,r1,q1⟩:=j4;obtain ⟨a,kvs,ns,e,hd,ql,q⟩:=q1;subst e;cases r1;obtain ⟨z,mf,vs,j8,dd⟩:=Je I1.hok hd;obtain ⟨ep,da⟩:=dd.dictAt;obtain ⟨t1,t2,_⟩:=Km I1 (.inl ⟨kvs,hd⟩);refine ⟨t1,t2,?_⟩;refine Calls.callWith_builtin Z (PyProof.Rows.evalArgs_empty ?_);refine call_meetsIn PySem.F.slot_dict_values da.dictOf.typeIs PySem.F.entry_dict_values (PySem.F.args_dict_values_1 _) (meets_dict_values (Z0 X.prog X.w) a mf) ⟨⟨vs,da.dictOf⟩,?_⟩;refine Calls.spliced_nil ?_;have lt:a < s1.heap.objs.size:=by obtain ⟨o,es,ho,_⟩:=id da; exact Ao ho
 have I3:Inv X jy σ H1 { s1 with heap:=s1.heap.push { cls:=.type "dict_values",data:=.fields #[.ref a] } }:=I1.kept (t':=s1.toks) λb o e=>Ak _ e;generalize qj:({ s1 with heap:=s1.heap.push { cls:=.type "dict_values",data:=.fields #[.ref a] } }:Shared)=s2 at I3 ⊢;have hv2:s2.heap.IsValuesView s1.heap.objs.size a:=by rw [<- qj]; exact ⟨_,Ap _ Z,Z,Z⟩
 have da2:s2.heap.DictAt (Z0 X.prog X.w) a vs ep:=by rw [<- qj]; exact da.push _
 have lt2:a < s2.heap.objs.size:=by rw [<- qj]; show a < (s1.heap.push _).objs.size; rw [Heap.size_push]; exact Nat.lt_succ_of_lt lt
 have jz:vs.length=ns.length:=by have h1:=j8.length; have h2:=congrArg List.length ql; rw [Ab,Ab] at h2; lia
 refine call_sum_walkG (wpAny_pyIter_values hv2 da2 ⟨s2.heap.objs.size,_,_,_,_,_,λi=>ns.getD i 0,rfl,Walks.dictValues (knd:=Z0 X.prog X.w) (A:=X.A.in1) (show X.A.in1.handled=none from I.ok.hd hc) s2.heap.objs.size a (As lt2) vs ep,⟨⟨_,Ap _ rfl,rfl,rfl⟩,da2.push _⟩,?_,λi v ⟨k,hv⟩=>Zga j8 ql i k v hv,?_⟩)
 ·intro b hb
  show b < (s2.heap.push _).objs.size;rw [Heap.size_push]
  rcases Ar hb with rfl | hb
  ·exact Nat.lt_succ_self _
  ·rw [Af hb]; exact Nat.lt_succ_of_lt lt2
 ·intro h' tk t' hk
  have I4:Inv X jy σ H1 { s2 with heap:=h',toks:=tk }:=I3.kept λb o e=>hk b o (λz=>absurd (Ao e) (by rw [Af z]; exact Nat.lt_irrefl _)) (Ak _ e);refine ⟨.int ns.sum,H1,I4,⟨t',?_⟩,q⟩;rw [jz,Kw ns _ (An _),List.take_length]
end
end L2
namespace PySem.F
end PySem.F
namespace L2
open PySem PySem.Spec PyProof.Rows
def dd (ks:List Int):List Int:=ks.foldl step_dedup []
def Zhl:typeLookup (.type "list_reverseiterator") "__len__"=pure none:=by
 rw [typeLookup_type];rw [builtinLookup_eq_fast]
 kernel_rfl
def Zi7:typeLookup (.type "list_reverseiterator") "__length_hint__"=pure (some (.builtin "list_reverseiterator.__length_hint__")):=by
 rw [typeLookup_type];rw [builtinLookup_eq_fast]
 kernel_rfl
section
variable {prog:Program} {w:World} {A:Around} {E:Value->Shared->Prop} {s:Shared}
def Zeu {I:Addr} {fp wr:List Addr} {G:Array GenState->Array GenState->Prop} {n:Nat} {P:Nat->Value->Prop} {St:Nat->Shared->Prop} {Q:List Value->Shared->Prop}
  (W:WalksS prog w A.in1 I fp wr G n P St) (hT:∀ i z,St i z->z.TypeIs (.ref I) "list_reverseiterator") (h0:St 0 s) (ku:∀ b∈fp,b < s.heap.objs.size) (hI:I∈fp)
  (q:∀ z j5,Moved wr G s z->ItemsOf P j5 n->Q j5.toList z) (hn:n<=sizeLine):wpAny (model prog w) A (collect (.ref I)) Q E s:=by
 have nf:s.heap.objs.size ∉ fp:=λz=>absurd (ku _ z) (Nat.lt_irrefl _);have ni:s.heap.objs.size≠I:=λz=>nf (by rw [z]; exact hI);unfold collect;refine Al ?_;refine wpAny_runValue ?_;refine codeAny_builtin F.entry_proto_collect ?_;rw [Around.under_plainId F.plain_proto_collect _];refine Al (m:=newList []) ?_;refine wpAny_newObj_type ?_;refine wpAny_pure ?_;refine ⟨plainId_quiet F.plain_list_iadd _,?_⟩;refine codeAny_builtin F.entry_list_iadd ?_;rw [Around.under_plainId F.plain_list_iadd _];have k:∀ b o,s.heap.get? b=some o->(s.heap.push { cls:=.type "list",data:=.seq ([]:List Value).toArray }).get? b=some o:=λb o e=>Ak _ e;have h1:=W.frame 0 s _ s.toks h0 (An _) λb _ o e=>k b o e;have hS:(s.heap.push { cls:=.type "list",data:=.seq ([]:List Value).toArray }).get? s.heap.objs.size=some { cls:=.type "list",data:=.seq ([]:List Value).toArray }:=Ap _ rfl;have ns:Builtin.List.listSameRef (.ref s.heap.objs.size) (.ref I)=false:=by
  unfold Builtin.List.listSameRef
  simp [ni]
 show wpAny _ A.in1 (Builtin.List.listExtendWith (.ref s.heap.objs.size) (.ref I) (.ref s.heap.objs.size)) _ _ _;unfold Builtin.List.listExtendWith;refine Al ?_;refine wpAny_typeOf (hT 0 _ h1) ?_;rw [if_neg (by rw [ns]; decide)];refine Al ?_;refine W.self 0 _ _ _ h1 ?_;refine Al ?_;refine wpAny_holding ?_;unfold Builtin.List.listLengthHint;refine Al ?_;refine wpAny_specialOf (hT 0 _ h1) Zhl ?_;refine Al (m:=specialOf (.ref I) (Str.ofString "__length_hint__")) ?_;refine wpAny_specialOf (hT 0 _ h1) Zi7 ?_;generalize hid:("list_reverseiterator.__length_hint__":String)=nmId
 (fail_if_success (clear hid nmId))
 wp_delta
 rw [show splitId nmId=some ("list_reverseiterator","__length_hint__") by rw [<- hid]; decide +kernel];subst hid;refine Al ?_;refine wpAny_isInstance (b:=true) (hT 0 _ h1) (by rw [isSubtype_type]; kernel_rfl) ?_;refine wpAny_pure ?_;rw [if_neg (by decide)];refine wpAny_pure ?_;refine ⟨plainId_quiet F.plain_extend_loop _,?_⟩;refine codeAny_extend_loopS W hn _ nf _ n 0 _ _ _ Z (Az _) h1 hS (ItemsOf.nil P) λz j5 c hm hz ha=>?_;show wpAny _ A (load s.heap.objs.size >>= _) _ _ z;refine Al ?_;refine wpAny_load hz ?_;refine wpAny_pure ?_;exact q z j5 (Moved.drop_new (o:={ cls:=.type "list",data:=.seq ([]:List Value).toArray }) (tk:=s.toks) hm (An _)) ha
def Zi6 {I l:Addr} {its:List Value} {ys:List Str} {x:Str} {t:Tok} {Q:Value->Shared->Prop} (hh:A.handled=none) (km:l≠I) (o8:s.heap.IsRevIter I l ((its.length:Int) - 1)) (hl:s.heap.IsList l its.toArray)
  (hi:StrsAre its ys) (hsep:x.length<=16) (hw:(ys.map (·.length)).sum + ys.length<=1048576)
  (q:∀ h' t' k,(∀ b o,b≠I->s.heap.get? b=some o->h'.get? b=some o)->Q (.str (Txt.join x ys.reverse) t') { s with heap:=h',toks:=k }):wpAny (model prog w) A (call (.builtin "str.join") [.str x t,.ref I]) Q E s:=by
 have W:=(Walks.listRev (prog:=prog) (w:=w) (A:=A.in1.in1) hh I l km its.toArray).toS;have hT:∀ i (z:Shared),(i<=its.toArray.size/\z.heap.IsRevIter I l ((its.toArray.size:Int) - 1 - (i:Int))/\z.heap.IsList l its.toArray)->z.TypeIs (.ref I) "list_reverseiterator":=λi z h=>h.2.1.typeIs;have h0:0<=its.toArray.size/\s.heap.IsRevIter I l ((its.toArray.size:Int) - 1 - ((0:Nat):Int))/\s.heap.IsList l its.toArray:=⟨Az _,by simpa using o8,hl⟩;have hly:its.length=ys.length:=hi.length;refine wpAny_call ?_;refine codeAny_call_builtin F.slot_str_join.plain F.entry_str_join ?_;refine F.slot_str_join.check _ _ _ _ _ _ _ _ (typeIs_str _ _ _) (F.args_str_join_2 _ _) ?_;rw [join_tree_other];refine Al ?_;refine wpAny_typeOf (hT 0 s h0) ?_;show wpAny _ A.in1 ((pyIter (.ref I)).tryCatch _ >>= λit=>collect it >>= λzs=>joinTail x zs) _ _ s;refine Al ?_;refine wpAny_tryCatch ?_;refine W.of_in1.self 0 s _ _ h0 ?_;refine Al ?_;have ku:∀ b∈[I,l],b < s.heap.objs.size:=λb hb=>by
  rcases Ar hb with z | z
  ·obtain ⟨o,e,_⟩:=o8.typeIs
   subst z
   exact Ao e
  ·rw [Af z]
   obtain ⟨o,e,_⟩:=hl
   exact Ao e
 refine Zeu W hT h0 ku List.mem_cons_self (λz j5 hm ha=>?_) (by rw [Aq,sizeLine_eq]; lia);have ea:j5.toList=its.reverse:=by
  refine List.ext_getElem? λj=>?_
  have hz:j5.size=its.length:=ha.1.trans Aq
  by_cases c:j < its.length
  ·have hj:j < j5.size:=by lia
   have h2:=ha.2 j _ (Array.getElem?_eq_getElem hj)
   rw [Array.getElem?_toList,Array.getElem?_eq_getElem hj,List.getElem?_reverse c,<- h2]
   simp
  ·rw [Ay (by rw [Array.length_toList]; lia),Ay (by rw [List.length_reverse]; lia)]
 obtain ⟨ps,u5⟩:=exists_strValues its.reverse λv hv=>hi.all v (List.mem_reverse.mp hv);have ey:ps.map (·.1)=ys.reverse:=by
  rw [<- hi.strs,<- List.map_reverse,<- u5]
  unfold strValues
  rw [List.map_map]
  rfl
 rw [ea,<- u5];have ok:JoinOk x (ps.map (·.1))=true:=joinOk_of_weight (by rw [ey]; simpa using hw) hsep;unfold JoinOk at ok;rw [Bool.not_eq_true'] at ok;have g:Gives (joinTail x (strValues ps)) (joinMade x ps):=by
  have g0:=gives_joinTail x ps ok
  rcases ps with _ | ⟨p,_ | ⟨p',r⟩⟩
  ·exact g0
  ·exact g0
  ·exact g0
 refine g prog w A (wants Q E) z (post_join ps ⟨joinFit_length ok,λt' k=>?_⟩);rw [ey];obtain ⟨zh,zg,zd,zt,zo⟩:=z;obtain ⟨m1,m2,m3,m4,m5⟩:=hm;have m2:zg=s.gens:=m2;have m3:zd=s.drawn:=m3;have m4:zo=s.os:=m4;subst m2 m3 m4;exact q zh t' k λb o hb e=>m1 b o (λz=>hb (Af z)) e
end
section
variable {X:Cx}
def Zgx (K:W.Frag) (to:TE) (ta:TA):TE:=λσ H Q=>to σ H λx H1=>∃ ll,x=.str ll/\ta σ H1 λvs H2=>∃ a ys,vs=[.ref a]/\SqL K H2 a (List.map V.str ys)/\ll.length<=16/\(ys.map (·.length)).sum + ys.length<=1048576/\Q (.str (Txt.join ll ys.reverse)) H2
def Zd9 {o l:Expr} {to:TE} {ta:TA} {p1 j7 j6 oa:Pos} (hg:Gl X "reversed") (hm:X.mg "reversed"=none) (hc:X.calm=true) (ho:PE X o to) (ha:PA X [l] ta)
  (p4:attributeBase o "join" X.env (eval o X.env)=eval o X.env:=by rfl)
  (tj:((backTo j6 (starEach [.Call (.Name "reversed" p1) [l] [] oa] X.env)).all (λx=>!x.1) && (backToKw j6 (keywordEach [] X.env)).all (λx=>x.1.isSome)
   && decide ([Expr.Call (.Name "reversed" p1) [l] [] oa].length + ([]:List Keyword).length + (if ([]:List Keyword).isEmpty then 0 else 1) < 30))=true:=by rfl)
  (pz:(j7.endLine == j6.line)=true:=by rfl) (hs:starEach [.Call (.Name "reversed" p1) [l] [] oa] X.env=[(false,eval (.Call (.Name "reversed" p1) [l] [] oa) X.env)]:=by rfl) (uc:starEach [l] X.env=[(false,eval l X.env)]:=by rfl) :
  PE X (.Call (.Attribute o "join" j7) [.Call (.Name "reversed" p1) [l] [] oa] [] j6) (Zgx X.K to ta):=by
 intro jy s σ H Q I h;refine wpAny_Call_method_late p4 tj pz Z (thn (ho jy s σ H _ I h) λv s1 j4=>?_);obtain ⟨x,H1,I1,r1,q1⟩:=j4;obtain ⟨ll,rfl,q1⟩:=q1;obtain ⟨h1,h2⟩:=Zex (T:="str") I1 r1 (by first | rfl | exact trivial);refine ⟨"str","str.join",PySem.F.plainAttrs_str,PySem.F.slot_str_join,PySem.F.type_str_join,h1,h2,?_⟩;obtain ⟨t,rfl⟩:=r1;rw [hs];refine Calls.callWith_builtin Z (Calls.evalArgs_plain ?_);refine Calls.spliced_cons ?_;refine Call_ (Jt I1 hg hm boot_reversed (PyProof.Rows.callWith_type1 (thn (ha oa jy s1 σ H1 _ I1 q1) λus s2 zc=>?_) uc Z));obtain ⟨vs,H2,I2,r2,q2⟩:=zc;obtain ⟨a,ys,e,hq,w1,w2,q⟩:=q2;subst e;obtain ⟨u,rfl,ru⟩:=Xk r2;cases ru;obtain ⟨its,rv,pl,_⟩:=I2.list hq;refine call_reversed_list pl.isList ?_;refine Calls.spliced_nil ?_;have I3:Inv X jy σ H2 { s2 with heap:=s2.heap.push (revObj a ((its.toArray.size:Int) - 1)) }:=I2.kept (t':=s2.toks) λb o e=>Ak _ e;have ne:a≠s2.heap.objs.size:=λz=>by
  obtain ⟨o,e,_⟩:=pl.isList
  exact As (Ao e) z
 have hl3:(s2.heap.push (revObj a ((its.toArray.size:Int) - 1))).IsList a its.toArray:=pl.isList.at λo e=>Ak _ e;have o8:(s2.heap.push (revObj a ((its.toArray.size:Int) - 1))).IsRevIter s2.heap.objs.size a ((its.length:Int) - 1):=by
  rw [show ((its.length:Int) - 1)=((its.toArray.size:Int) - 1) by simp]
  exact ⟨_,Ap _ Z,Z,Z⟩
 refine Zi6 (I2.ok.hd hc) ne o8 hl3 (by simpa using Om rv) w1 w2 λh' t' k hk=>?_;refine ⟨.str _,H2,I2.kept (t':=k) λb o e=>hk b o (λz=>?_) (Ak _ e),⟨_,Z⟩,q⟩;exact As (Ao e) z
end
section
variable {X:Cx}
def Zkd:OpR X (compareOp .In) (λx y H Q=>∃ a b,x=.str a/\y=.str b/\Q (.bl (Txt.contains b a)) H):=by
 intro jy s σ H x y v u Q I rx ry h;obtain ⟨a,b,rfl,rfl,q⟩:=h;obtain ⟨t,rfl⟩:=rx;obtain ⟨t',rfl⟩:=ry;exact PySem.SB.contains ⟨.bl _,H,I,Z,q⟩
def Zb1 (K:W.Frag) (h:X.K=K:=by rfl):Y7 X (.builtin "isinstance") (λxs H Q=>∃ x T t b,xs=[x,V.ty T]/\TyOf K H x t/\PySem.W.kitOne K t (.type T)=some b/\Q (V.bl b) H):=h ▸ Zcv
def jStr (te:TE) (t:TJ):TJ:=λout σ H Q=>te σ H λv H1=>∃ x:Str,v=.str x/\x.length<=sizeLine/\(out ++ x).length<=sizeLine/\t (out ++ x) σ H1 Q
def Zjz {e:Expr} {es:List Expr} {te:TE} {t:TJ} {pos:Pos} (he:PE X e te) (h:PJ X es t):PJ X (.FormattedValue e (-1) none pos :: es) (jStr te t):=by
 intro out jy s σ H Q I hq;refine joinParts_cons (FormattedValue_plain (thn (he jy s σ H _ I hq) λu s1 j4=>?_));obtain ⟨v,H1,I1,r1,x,ev,hl,hz,q⟩:=j4;subst ev;obtain ⟨tk,rfl⟩:=r1;exact formatField_str (λt' k=>⟨hz,h _ jy _ σ H1 Q (I1.tok _) q⟩) hl
end
section
variable {X:Cx}
def Asc (x:Str):Prop:=∀ c∈x.cps.toList,c < 128
def Asc.all {x:Str} (h:Asc x):x.cps.all (· < 128)=true:=by
 rw [<- Array.all_toList,List.all_eq_true];exact λc hc=>decide_eq_true (h c hc)
def Asc.app {x y:Str} (h:Asc x) (h':Asc y):Asc (x ++ y):=by
 intro c hc;have:(x ++ y).cps.toList=x.cps.toList ++ y.cps.toList:=Array.toList_append;rw [this] at hc;exact (List.mem_append.mp hc).elim (h c) (h' c)
def Asc.join {ys:List Str} (h:∀ y∈ys,Asc y):Asc (Txt.join (Str.ofString "") ys):=by
 intro c hc;rw [Zhs] at hc;obtain ⟨l,hl,hc⟩:=List.mem_flatten.mp hc;obtain ⟨y,hy,rfl⟩:=List.mem_map.mp hl;exact h y hy c hc
end
def Asc.num (i:Int):Asc (Str.ofString (toString i)):=λc hc=>by
 refine Decidable.byContradiction λh=>?_;exact int_text_free' c ⟨by lia,by lia⟩ i hc
theorem Zb3 {ll:Str} (hs:Asc ll):∀ (l:List Str) (a:Array Nat),(∀ c∈a.toList,c < 128)->(∀ y∈l,Asc y)->∀ c∈(l.foldl (λj5 p=>j5 ++ ll.cps ++ p.cps) a).toList,c < 128
 | [],a,ha,_,c,hc=>ha c hc
 | y :: l,a,ha,hl,c,hc=>by
  refine Zb3 hs l (a ++ ll.cps ++ y.cps) (λd hd=>?_) (λz hz=>hl z (List.mem_cons_of_mem _ hz)) c hc;rw [Array.toList_append,Array.toList_append] at hd
  rcases List.mem_append.mp hd with h | h
  ·rcases List.mem_append.mp h with h | h
   ·exact ha d h
   ·exact hs d h
  ·exact hl y List.mem_cons_self d h
def Asc.joinS {ll:Str} {ys:List Str} (hs:Asc ll) (h:∀ y∈ys,Asc y):Asc (Txt.join ll ys):=by
 unfold Txt.join Builtin.Str.glued
 cases ys with
 | nil=>intro c hc; have hc:c∈([]:List Nat):=hc; cases hc
 | cons y l=>exact Zb3 hs l y.cps (h y List.mem_cons_self) λz hz=>h z (List.mem_cons_of_mem _ hz)
theorem Fa {ll:Str}:∀ (l:List Str) (a:Array Nat),(l.foldl (λj5 p=>j5 ++ ll.cps ++ p.cps) a).size=a.size + (l.map (·.length)).sum + l.length * ll.length
 | [],a=>by simp
 | y :: l,a=>by
  rw [List.foldl_cons,Fa l,Array.size_append,Array.size_append,List.map_cons,List.sum_cons,List.length_cons,Nat.add_mul];show a.size + ll.length + y.length + _ + _=_;lia
def Zhr (ll:Str) (ys:List Str):(Txt.join ll ys).length<=(ys.map (·.length)).sum + ys.length * ll.length:=by
 unfold Txt.join Builtin.Str.glued
 cases ys with
 | nil=>exact Az _
 | cons y l =>
  show (l.foldl (λj5 p=>j5 ++ ll.cps ++ p.cps) y.cps).size<=_;rw [Fa,List.map_cons,List.sum_cons,List.length_cons,Nat.add_mul];show y.length + _ + _<=_;lia
theorem Zcw {B:Nat}:∀ {l:List Str},(∀ x∈l,x.length<=B)->(l.map (·.length)).sum<=B * l.length
 | [],_=>An _
 | x :: l,h=>by
  have h1:=h x List.mem_cons_self;have h2:=Zcw (l:=l) λy hy=>h y (List.mem_cons_of_mem _ hy);rw [List.map_cons,List.sum_cons,List.length_cons,Nat.mul_add];lia
def Qm (x y:Str):(x ++ y).length=x.length + y.length:=Array.size_append
end L2
namespace L2
open PySem PySem.Spec PyProof.Rows PySem.Builtin PySem.Builtin.Str
section
variable {X:Cx}
theorem Gn:∀ l:List (Str × Tok),Vals ((l.map (·.1)).map V.str) (strValues l)
 | []=>.nil
 | _ :: l=>.cons ⟨_,rfl⟩ (Gn l)
def Ze5 {x y:Str}:(Txt.split x y).length<=x.length + 2:=by
 unfold Txt.split;have e1:=StrLaws.occ_length_le x y 0 x.length (x.length + 1);split
 ·exact Nat.le_add_left 1 (x.length + 1)
 ·split
  ·exact Nat.le_add_left 1 (x.length + 1)
  ·rw [length_partsBetween]; lia
def Zjv:V->List V->Hp->VK->Prop:=λo xs H Q=>∃ x y:Str,o=.str x/\xs=[.str y]/\(y.length == 0)=false/\x.length + 2<=sizeLine/\∀ p,H p=none->Q (.ref p) (upd H p (.lst ((Txt.split x y).map V.str)))
def Zbq:MtR X "str.split" Zjv:=by
 intro jy s σ H o xs v us Q I rx rs h;obtain ⟨x,y,rfl,rfl,hy,hsz,q⟩:=h;obtain ⟨t,rfl⟩:=rx;obtain ⟨u,rfl,ru⟩:=Xk rs;obtain ⟨tu,rfl⟩:=ru;have hn:(partsBetween x (occurrences x y 0 x.length (x.length + 1)) y.length).length<=sizeLine:=by
  have e1:=StrLaws.occ_length_le x y 0 x.length (x.length + 1)
  rw [length_partsBetween]; lia
 have k7:∀ (l:List (Str × Tok)) (k:Nat),l.map (·.1)=Txt.split x y->EP X jy σ Q (.ref s.heap.objs.size) { s with heap:=s.heap.push { cls:=.type "list",data:=.seq (strValues l).toArray },toks:=k }:=λl k e=>by
  refine ⟨.ref s.heap.objs.size,upd H s.heap.objs.size (.lst ((Txt.split x y).map V.str)),I.laid (λb u hb=>Ak _ hb) (An _) ?_,Z,q _ I.fresh⟩;refine ⟨?_,strValues l,0,?_,Ap _ Z⟩
  ·rw [Ab]; exact Nat.le_trans Ze5 hsz
  ·rw [<- e]; exact Gn l
 cases h1:(decide (x.length < y.length) || decide (strKind x < strKind y))
 ·cases hf:(occurrences x y 0 x.length (x.length + 1)).isEmpty
  ·refine call_meets F.slot_str_split (typeIs_str _ _ _) F.entry_str_split (F.args_str_split_2 _ _) (meets_str_split_sep x y t tu h1 hy hf (by lia) hn) ?_
   show wants _ _ _ { s with toks:=_,heap:=s.heap.push { cls:=.type "list",data:=.seq (strsFrom s.toks (partsBetween x (occurrences x y 0 x.length (x.length + 1)) y.length)).toArray } };rw [strsFrom_eq];exact k7 (numbered s.toks _) _ ((numbered_texts _ _).trans ((if_neg (ne_true_of_eq_false h1)).trans (if_neg (ne_true_of_eq_false hf))).symm)
  ·exact call_meets F.slot_str_split (typeIs_str _ _ _) F.entry_str_split (F.args_str_split_2 _ _) (meets_str_split_not_found x y t tu h1 hy hf)
    (k7 [(x,t)] s.toks ((if_neg (ne_true_of_eq_false h1)).trans (if_pos hf)).symm)
 ·exact call_meets F.slot_str_split (typeIs_str _ _ _) F.entry_str_split (F.args_str_split_2 _ _) (meets_str_split_cannot_occur x y t tu h1)
   (k7 [(x,t)] s.toks (if_pos h1).symm)
end
end L2
namespace L2
open PySem PySem.Spec PyProof.Rows
def KTup (K:W.Frag) (a:Addr) (xs:List Str):Prop:=∀ H:Hp,SqT K H a (xs.map V.str)
def ktup_mk2 {K:W.Frag} {a:Addr} {t1 t2:Tok} {ep:Nat} {x1 x2:Str} (l:K.lookup a=some ⟨.type "tuple",none,.seq #[.str x1 t1,.str x2 t2] ep,#[]⟩):KTup K a [x1,x2] :=
 λH=>.inr ⟨_,_,_,l,rfl,rfl,(by show 2<=sizeLine; decide),.cons ⟨_,rfl⟩ (.cons ⟨_,rfl⟩ .nil)⟩
def ktup_mk3 {K:W.Frag} {a:Addr} {t1 t2 t3:Tok} {ep:Nat} {x1 x2 x3:Str} (l:K.lookup a=some ⟨.type "tuple",none,.seq #[.str x1 t1,.str x2 t2,.str x3 t3] ep,#[]⟩):KTup K a [x1,x2,x3] :=
 λH=>.inr ⟨_,_,_,l,rfl,rfl,(by show 3<=sizeLine; decide),.cons ⟨_,rfl⟩ (.cons ⟨_,rfl⟩ (.cons ⟨_,rfl⟩ .nil))⟩
end L2
namespace KT
open PySem L2
def aN (a:Nat):Nat:=(after a).toNat
def bN (a:Nat):Nat:=(Xs a).toNat
structure PC (M:List (Option Nat)) (f:Nat->Int):Prop where
 nn:∀ p,p < M.length->0<=f p
 rim:∀ p:Nat,M[p]?=some none->f p=0
 mate:∀ p q:Nat,M[p]?=some (some q)->f q=f p
 even:∀ p,p < M.length->(f p + f (aN p) + f (bN p)) % 2=0
 tri:∀ p,p < M.length->f p<=f (aN p) + f (bN p)
def mx (x y:Int):Int:=if y > x then y else x
def bh (f:Nat->Int) (a b:Nat):Int:=mx (f (aN a) + f (aN b)) (f (bN a) + f (bN b)) - f a
def fx (left:Bool) (a b:Nat) (f:Nat->Int) (z:Nat):Int:=if z=a\/z=b then bh f a b else f (mvN (!left) a b z)
def sF (f:Nat->Int):Nat->Int
 | 0=>0
 | n + 1=>sF f n + f n
def Zgy {a b:List Int} (h:a.Perm b):a.sum=b.sum:=by
 induction h with
 | nil=>rfl
 | cons x _ ih=>simp [ih]
 | swap x y l=>simp only [List.sum_cons]; lia
 | trans _ _ h1 h2=>exact h1.trans h2
section
variable {M:List (Option Nat)} {ns:List Int} {f:Nat->Int} {g:Int->Int}
def mu (M:List (Option Nat)) (p:Nat):Nat:=match (M[p]?).join with
 | some q=>q
 | none=>p
end
end KT
namespace KT
def lowN (m n:Nat):Nat × Nat:=(m / Nat.gcd m n,n / Nat.gcd m n)
def putG (g:Int->Nat × Nat) (x:Int) (v:Nat × Nat):Int->Nat × Nat:=λy=>if y=x then v else g y
end KT
namespace KT
open PySem L2
section
variable {M:List (Option Nat)} {ns:List Int} {x y:Int} {a b:Nat}
def SwN (M:List (Option Nat)) (ns:List Int) (x:Int):Prop:=∃ p j:Nat,M[p]?=some (some j)/\ns[p]?=some x
structure SwK (M:List (Option Nat)) (ns:List Int) (ks:List Int):Prop where
 nd:ks.Nodup
 mem:∀ x,x∈ks ↔ SwN M ns x
def SwN.key (td:TD M ns) (h:SwN M ns x):x∈keys ns ns.length:=by
 obtain ⟨p,j,_,e⟩:=h;exact Xq.mpr ⟨p,(Aa e).1,e⟩
end
end KT
namespace HL
open PySem PyProof.Rows HT
end HL
namespace L2
open PySem PySem.Spec PyProof.Rows
def Zht {X:Cx}:PIp X .FloorDiv (λx y H Q=>∃ i j,x=.int i/\y=.int j/\F3 i j/\Q (.int (i / j)) H):=by
 intro jy s σ H x y v u Q I r1 r2 h;obtain ⟨i,j,e1,e2,hc,q⟩:=h;subst e1; subst e2;obtain ⟨t,rfl⟩:=r1;obtain ⟨t',rfl⟩:=r2;have h1:(0:Int) < j:=hc.1;refine ifloordiv_int (by lia) ?_ (.inl (PyProof.noPylong_of_log2 hc.2));rw [Int.fdiv_eq_ediv_of_nonneg i (by lia)];exact ⟨.int _,H,I.tok _,⟨_,Z⟩,q⟩
def Zjo (C:Addr) (sp:Sp) (ke:List V) (t:TA):TEX:=λσ H Q E=>t σ H λvs H1=>∀ x dx,H1 x=none->H1 dx=none->dx≠x ->
 sp (.ref x :: (vs ++ ke)) (upd (upd H1 dx (.own x)) x (.ins C dx [])) (λv H2=>v=.non/\Q (.ref x) H2) E
section
variable {X:Cx} {fr:Bool} {k:Nat} {f C:Addr} {fd:FuncData} {ps:List Str} {sp:Sp} {ke:List V} {ds:List Value} {x:Str} {p pos:Pos} {e:Expr} {es:List Expr} {t:TA}
def Zfs {jy:List (Addr × Obj)} {σ:St} {H:Hp} {s:Shared} {E:XK} {us:List Value} {vs:List V} {Q:VK} (M:Mk X.K C f) (F:FnOk X.prog X.w X.K X.mg X.base (CXr X.prog X.w) k f fd ps sp) (hr:Room (k + 1) X.A) (hb:Xe X.K fd ps ds) (hd:Vals ke ds)
  (hex:X.ex=[]) (I:Inv X jy σ H s) (r:Vals vs us)
  (h:∀ x dx,H x=none->H dx=none->dx≠x->sp (.ref x :: (vs ++ ke)) (upd (upd H dx (.own x)) x (.ins C dx [])) (λv H2=>v=.non/\Q (.ref x) H2) E) :
  wpAny (model X.prog X.w) X.A (call (.ref C) us) (EP X jy σ Q) (XS fr X jy λcls σ' H'=>σ'=σ/\E cls none H') s:=by
 have hq:=h (s.heap.objs.size + 1) s.heap.objs.size (I.hok.fresh (Nat.le_succ _)) (I.hok.fresh (An _)) (As (Nat.lt_succ_self _));have I2:=Inv.made (C:=C) I;have r2:Vals (V.ref (s.heap.objs.size + 1) :: (vs ++ ke)) (Value.ref (s.heap.objs.size + 1) :: (us ++ ds)):=.cons rfl (r.append hd);have hl:(Value.ref (s.heap.objs.size + 1) :: us ++ ds).length=ps.length:=by
  have e:=r2.length
  rw [F.len _ _ _ _ hq] at e
  exact e.symm
 refine wpAny_call (Zbr (f:=f) I.kIn M.makes M.init (beq_iff_eq.mp M.fn) (codeAny_mono (F.run _ X.stack _ _ ⟨Value.ref (s.heap.objs.size + 1) :: us,[]⟩ (Value.ref (s.heap.objs.size + 1) :: (us ++ ds)) _ _ E (hr.make C us [])
  (I2.env0.make C us []) (hb _ (Value.ref (s.heap.objs.size + 1) :: us) I2.kIn hl) r2 hq) λr s' k8=>?_))
 cases r with
 | error e=>exact I2.cxr hex k8
 | ok fl =>
  cases fl with
  | ret u =>
   obtain ⟨v,H',I3,rv,ev,q3⟩:=I2.after k8;subst ev;exact ⟨rv,⟨V.ref (s.heap.objs.size + 1),H',I3,Z,q3⟩⟩
  | next=>exact False.elim k8
  | brk=>exact False.elim k8
  | cont=>exact False.elim k8
def Ob (M:Mk X.K C f) (F:FnOk X.prog X.w X.K X.mg X.base (CXr X.prog X.w) k f fd ps sp) (hr:Room (k + 1) X.A) (hg:Gl X x) (hm:X.mg x=some (.ref C)) (hb:Xe X.K fd ps ds) (hd:Vals ke ds)
  (ha:PA X (e :: es) t) (hex:X.ex=[]:=by rfl) (hx:X.xe=(λ_ _=>False):=by rfl) (lg:(x == ("__debug__":Str))=false:=by decide) (he:starEach (e :: es) X.env=(false,eval e X.env) :: starEach es X.env:=by rfl) (k9:(backTo pos (starEach es X.env)).any (·.1)=false:=by rfl) :
  PEX fr X (.Call (.Name x p) (e :: es) [] pos) (Zjo C sp ke t):=by
 intro jy s σ H Q E I h;have h0:=ha pos jy s σ H _ I h;rw [hx] at h0;refine wpAny_Call_Name_kw (Xu I hg hm ?_ lg);refine PySem.W.callWith_K (h₀:=X.base) I.ok.mod.kin M.kp (wpAny_mono h0 (λus s1 zb=>?_) λ_ _ z=>z.elim) he k9;obtain ⟨vs,H1,I1,r,q⟩:=zb;refine ⟨I1.kIn,?_⟩;exact Zfs M F hr hb hd hex I1 r q
end
section
variable {X:Cx} {fr:Bool}
def Zk2 (te:TEX) (r:R2) (tb:TE) (t u:TSX):TSX:=λD R σ H=>te σ H (λx H1=>tb σ H1 λy H2=>r x y H2 λz H3=>∃ k,z=.bl k/\if k=true then t D R σ H3 else u D R σ H3) λcls _ H1=>R cls σ H1
def Ziq {a b:Expr} {op:CmpOp} {s1 s2:List Stmt} {te:TEX} {tb:TE} {r:R2} {t u:TSX} {p1 pos:Pos} (he:PEX fr X a te) (hb:PE X b tb) (ho:OpR X (compareOp op) r) (hm:behindInMarks op b=false) (ha:PSsX fr X s1 t) (hc:PSsX fr X s2 u) (hx:X.xe=(λ_ _=>False):=by rfl) :
  PSX fr X (.If (.Compare a [op] [b] p1) s1 s2 pos) (Zk2 te r tb t u):=by
 intro jy s σ H D R I h;refine wpAny_If (wpAny_isTrue_Compare1 (wpAny_mono (he jy s σ H _ _ I h) (λv s1 ⟨x,H1,I1,r1,q1⟩=>?_) ?_) hm)
 ·have h1:=hb jy s1 σ H1 _ I1 q1
  rw [hx] at h1;refine wpAny_mono h1 (λy' s2 za=>?_) λ_ _ z=>z.elim;obtain ⟨y,H2,I2,r2,q2⟩:=za;have h2:=ho jy s2 σ H2 x y v y' _ I2 r1 r2 q2;rw [hx] at h2;refine wpAny_mono h2 (λc' s3 y9=>?_) λ_ _ z=>z.elim;obtain ⟨z,H3,I3,r3,q3⟩:=y9;obtain ⟨k,rfl,q3⟩:=q3;cases r3;refine wpAny_truthy_bool ?_
  cases k with
  | true=>exact ha jy s3 σ H3 D R I3 q3
  | false=>exact hc jy s3 σ H3 D R I3 q3
 ·rintro ev s1 ⟨e,T,cls,a0,σ',H',h1,h2,h3,h4,h5,h7,rfl,h6⟩
  exact ⟨e,T,cls,a0,σ',H',h1,h2,h3,h4,h5,h7,h6⟩
def Zgp (hc:X.calm=true):Y7 X (.builtin "max") (λxs H Q=>∃ (p:Addr) (ns:List Int),xs=[.ref p]/\SqT X.K H p (ns.map V.int)/\0 < ns.length/\∀ m,m∈ns->(∀ a∈ns,a<=m)->Q (.int m) H):=by
 intro jy s σ H xs us Q I r h;obtain ⟨p,ns,rfl,hq,hn,q⟩:=h;obtain ⟨u,rfl,ru⟩:=Xk r;cases ru;obtain ⟨its,rv,pl,hz⟩:=I.tuple hq;have pl:s.heap.IsTuple p its.toArray:=pl;have lt:p < s.heap.objs.size:=by obtain ⟨o,ho,_⟩:=pl; exact Ao ho
 have jz:its.toArray.size=ns.length:=by have:=rv.length; rw [Ab] at this; simp; lia
 have W:=Oh (jy:=jy) (σ:=σ) (H:=H) (s:=s) rv;refine call_max_walk (wpAny_pyIter_tuple pl ⟨s.heap.objs.size,_,_,_,_,_,_,Z,Walks.tuple (A:=X.A.in1) (show X.A.in1.handled=none from I.ok.hd hc) s.heap.objs.size p (As lt) its.toArray,⟨⟨_,Ap _ Z,Z,Z⟩,pl.push _⟩,?_,by rw [jz]; exact hn,CmpOf.ints_gt (λi=>ns.getD i 0) W,?_⟩)
 ·intro b hb
  show b < (s.heap.push _).objs.size;rw [Heap.size_push]
  rcases Ar hb with rfl | hb
  ·exact Nat.lt_succ_self _
  ·rw [Af hb]; exact Nat.lt_succ_of_lt lt
 ·intro v h' tk hP hk
  have I1:Inv X jy σ H { s with heap:=h',toks:=tk }:=I.kept λb o e=>hk b o (λz=>absurd (Ao e) (by rw [Af z]; exact Nat.lt_irrefl _)) (Ak _ e);rw [jz] at hP;obtain ⟨a1,a2⟩:=argBest_gt (λi=>ns.getD i 0) (ns.length - 1);obtain ⟨t,e⟩:=W _ _ hP;generalize argBest (λi j=>decide (ns.getD i 0 > ns.getD j 0)) (ns.length - 1)=k at a1 a2 e;have qo:k < ns.length:=by lia
  have ek:ns.getD k 0=ns[k]:=by rw [Ad,Ac qo]; rfl
  refine ⟨.int (ns.getD k 0),H,I1,⟨t,e⟩,q _ (by rw [ek]; exact List.getElem_mem qo) λa ha=>?_⟩;obtain ⟨j,hj,rfl⟩:=List.mem_iff_getElem.mp ha;have:=a2 j (by lia);have ej:ns.getD j 0=ns[j]:=by rw [Ad,Ac hj]; rfl
  show ns[j]<=ns.getD k 0;rw [<- ej]; exact this
end
section
variable {X:Cx}
def asCx (X:Cx) (e:Addr) (ob:Obj):Cx:={ Wl X e with pn:=(e,ob) :: X.pn }
variable {jy:List (Addr × Obj)} {σ:St} {H:Hp} {s:Shared}
def Inv.asE (I:Inv X jy σ H s) {e:Addr} {ob:Obj} (h:s.heap.get? e=some ob) (f:FxOk X jy H e) (d:∀ v,ob.data≠.cell v):Inv (asCx X e ob) jy σ H s :=
 ⟨⟨I.ok.mod,I.ok.kind,I.ok.glob,I.ok.blt,I.ok.above,I.ok.inj,I.ok.has,I.ok.cab,λh=>absurd (show false=true from h) Bool.false_ne_true,I.ok.frames,I.ok.stk,I.ok.exf,I.ok.bs,I.ok.bsz,I.ok.noex,I.ok.exfs,I.ok.funs,I.ok.frf⟩,
  I.os,I.bare,I.base,I.loc,I.cell,I.free,I.freeC,λp hp=>(Ar (show p∈(e,ob) :: (X.pn ++ jy) from hp)).elim (λz=>z ▸ ⟨h,f.nt,f.nl,f.nf,d⟩) (I.pin p),I.hok,I.len⟩
def Inv.unas {e:Addr} {ob:Obj} (I:Inv (asCx X e ob) jy σ H s) (ok:X.Ok):Inv X jy σ H s :=
 ⟨ok,I.os,I.bare,I.base,I.loc,I.cell,I.free,I.freeC,λp hp=>I.pin p (List.mem_cons_of_mem _ hp),I.hok,I.len⟩
def Inv.gone {M:Model} {A:Around} {E:Value->Shared->Prop} {i:Nat} {n:Str} {pos:Pos} {Q:Unit->Shared->Prop} (I:Inv X jy σ H s) (hN:X.N.Nodup) (hi:X.N[i]?=some n) (hk:X.env.scope.names.lookup n=some .local)
  (h:∀ s',Inv X jy (σ.set i none) H s'->Q () s'):wpAny M A (do bindName X.env n .none; unbindBehindTheSuite X.env n pos) Q E s:=by
 obtain ⟨m,hn,hl⟩:=id I.loc;have ng:(X.env.scope.kind == .class || (X.env.scope.kind == .module && X.env.locals != X.env.globals))=false:=by rw [I.ok.kind]; rfl
 have hiσ:i < σ.length:=by rw [I.len]; exact (Aa hi).1
 have cne:=I.cne;refine wpAny_nameGoes_keeps hk hn ng λh' v ya hs=>?_;refine h _ ⟨I.ok,I.os,I.bare,⟨λb o e n hb hx=>?_,λb o e n hb hx=>?_,I.base.free,λb o e hx=>?_,I.base.tups,I.base.frzs,I.base.tbls⟩,⟨_,ya,λj y v' e1 e2 e3=>?_⟩,λy c e=>?_,I.free,I.freeC,λp hp=>?_,λb ob e=>?_,by simpa using I.len⟩
 ·exact (hs.2 b (As (Ag (Ao e) I.ok.above))).trans (I.base.keep b o e n hb hx)
 ·obtain ⟨sl,e1⟩:=I.base.slot b o e n hb hx
  exact ⟨sl,(hs.2 b (As (Ag (Ao e) I.ok.above))).trans e1⟩
 ·obtain ⟨o',e1⟩:=I.base.there b o e hx
  exact ⟨o',(hs.2 b (As (Ag (Ao e) I.ok.above))).trans e1⟩
 ·by_cases hj:j=i
  ·subst hj
   rw [List.getElem?_set_self hiσ] at e2;cases e2
  ·rw [List.getElem?_set_ne (Ne.symm hj)] at e2
   obtain ⟨u',r',q⟩:=hl j y v' e1 e2 e3;refine ⟨u',r',?_⟩
   rcases q with ⟨k,e⟩ | ⟨k,c,e,z⟩
   ·refine .inl ⟨k,?_⟩
    have:y≠n:=λe=>hj (Of hN e1 (e ▸ hi));simp [this,e]
   ·exact .inr ⟨k,c,e,z.sameBut hs (cne y c e)⟩
 ·obtain ⟨w',z⟩:=I.cell y c e
  exact ⟨w',z.sameBut hs (cne y c e)⟩
 ·obtain ⟨e,n,ne,nf,d⟩:=I.pin p hp
  exact ⟨(hs.2 p.1 ne).trans e,n,ne,nf,d⟩
 ·refine (I.hok b ob e).stay (λc w' hc q=>(hs.2 c ?_).trans q) (λ_ q=>q) λ_ _ q=>q
  rintro rfl
  rcases hc with rfl | hc
  ·rw [I.free] at e; cases e
  ·rw [I.free] at hc; cases hc
def Zgr (i:Nat) (D:Ends):Ends:={ nx:=λσ H=>D.nx (σ.set i none) H,rt:=D.rt,bk:=λσ H=>D.bk (σ.set i none) H,ct:=λσ H=>D.ct (σ.set i none) H }
def Zlk {b₀:Stmt} {le:List Stmt} {x n:Str} {np pk:Pos} {rest:List ExceptHandler} {ts:Addr->Obj->TS} {tr:THs} {C:Addr} {i:Nat} (hg:Gl X x) (hm:X.mg x=some (.ref C)) (hN:X.N.Nodup) (hi:X.N[i]?=some n) (hk:X.env.scope.names.lookup n=some .local) (hs:∀ e ob,PSs (asCx X e ob) (b₀ :: le) (ts e ob)) (hr:PHs X rest tr)
  (hex:X.ex=[]:=by rfl) (hx:X.xe=(λ_ _=>False):=by rfl) (lg:(x == ("__debug__":Str))=false:=by decide) :
  PHs X (.ExceptHandler (some (.Name x np)) (some n) (b₀ :: le) pk :: rest) (λcls D σ H=>∃ b,PySem.W.exmOne X.K cls (.ref C)=some b/\if b=true then ∀ e ob,ob.cls=cls->ts e ob (Zgr i D) (σ.set i (some (.ref e))) H else tr cls D σ H):=by
 intro jy s σ H D e T cls a0 h' I fe fT j' nk q;obtain ⟨b,hb,q⟩:=q;have I5:Inv X jy σ H { s with heap:=h' }:=I.flown hex fe fT j'.1 nk;obtain ⟨ob,rp,pp⟩:=j'.there;refine wpAny_handleBy_cons (codeAny_handlers_test (Xu (X:=Wl X e) (I5.hnd e) hg hm ?_ lg)) (by intro q; cases q);have LT:PySem.W.Looks (model X.prog X.w) h' (typeOf (.ref e)) cls:=by
  have:PySem.W.Looks (model X.prog X.w) h' (typeOf (.ref e)) ob.cls:=(PySem.W.Looks.ld rp).andThen .now
  rw [pp] at this
  exact this
 refine (PySem.W.exm_one I5.kIn LT hb).here ?_
 cases b with
 | false=>exact hr jy s σ H D e T cls a0 h' I fe fT j' nk q
 | true =>
  refine codeAny_handlers_suite_as ?_;refine lands_againW j' λh₆ hfl₆ hsm₆=>?_;have I6:Inv X jy σ H { s with heap:=h₆ }:=I.flown hex fe fT hfl₆.1 (nk.trans hsm₆);obtain ⟨oe,ws,hoe,hoec,hoed,_⟩:=hfl₆.first;have I7:=I6.asE hoe fe (λv z=>by rw [hoed] at z; cases z);refine Wb (X:=asCx X e oe) (v:=.ref e) I7 hN hi (.inl hk) Z (λs7 I8=>?_) (.inr hk);have h6:=hs e oe jy s7 _ H (Zgr i D) I8 (q e oe hoec);have o1:(asCx X e oe).xe=λ_ _=>False:=hx;rw [o1] at h6;refine wpAny_mono h6 (λf s2 q2=>?_) λ_ _ z=>z.elim
  cases f with
  | next=>obtain ⟨σ',H',J,q⟩:=q2; exact (J.unas I6.ok).gone hN hi hk λs' J'=>⟨_,_,J',q⟩
  | brk=>obtain ⟨σ',H',J,q⟩:=q2; exact (J.unas I6.ok).gone hN hi hk λs' J'=>⟨_,_,J',q⟩
  | cont=>obtain ⟨σ',H',J,q⟩:=q2; exact (J.unas I6.ok).gone hN hi hk λs' J'=>⟨_,_,J',q⟩
  | ret u=>obtain ⟨v,σ',H',J,r,q⟩:=q2; exact (J.unas I6.ok).gone hN hi hk λs' J'=>⟨_,_,_,J',r,q⟩
def Kv:bootBuiltins "ValueError"=some (.type "ValueError"):=by decide +kernel
def Zja {K:W.Frag} {a:Addr} {t c:Value} (e:PySem.W.kitOne K t c=some true):Answers (λs=>PySem.W.Frag.In K s.heap/\∃ o,s.heap.get? a=some o/\o.cls=t) (.ref a) c true:=by
 intro dep tk prog w A R s hs;obtain ⟨h0,g,d,tt,os⟩:=s;obtain ⟨⟨X,o,ho,hc⟩,hq⟩:=hs;have LT:PySem.W.Looks (model prog w) h0 (typeOf (.ref a)) t:=by
  have:PySem.W.Looks (model prog w) h0 (typeOf (.ref a)) o.cls:=(PySem.W.Looks.ld ho).andThen .now
  rw [hc] at this
  exact this
 unfold PySem.W.kitOne at e;unfold Builtin.«isinstance.nested»;refine Al (LT.at ?_);by_cases q:(t == c)=true
 ·rw [if_pos q]
  first
   | exact Al (wpAny_rule (hq tt))
   | exact Al (wpAny_rule (wpAny_pure (hq tt)))
 ·rw [if_neg q] at e
  rw [if_neg q];obtain ⟨uz,his,hsub⟩:=PySem.W.kit_cls (M:=model prog w) X e;have LI:PySem.W.Looks (model prog w) h0 (isInstance (.ref a) c) true:=LT.andThen hsub;refine Al (uz.at ?_);rw [if_pos (by decide)]
  k_delta "plainIsInstance"
  refine Al (Al (his.at ?_));simp only [Bool.not_true,Bool.false_eq_true,if_false];refine Al (LI.at ?_)
  first
   | exact wpAny_pure (wpAny_pure (hq tt))
   | (simp only [if_true]; first | exact wpAny_pure (wpAny_pure (hq tt)) | exact wpAny_pure (hq tt) | exact Al (wpAny_pure (wpAny_pure (hq tt))))
def Zb2 {e:Addr} {ob:Obj}:Y7 (asCx X e ob) (.builtin "isinstance") (λxs H Q=>∃ T,xs=[.ref e,.ty T]/\PySem.W.kitOne X.K ob.cls (.type T)=some true/\Q (.bl true) H):=by
 intro jy s σ H xs us Q I r h;obtain ⟨T,rfl,hk,q⟩:=h;obtain ⟨u,u2,rfl,ru,ru2⟩:=Zkr r;cases ru;obtain rfl:u2=Value.type T:=ru2;have hp:=I.pin (e,ob) (List.mem_cons_self ..);exact call_isinstance (S:=λ_ R s=>(X.K.In s.heap/\∃ o,s.heap.get? e=some o/\o.cls=ob.cls)/\∀ tk,R (.ok (.ret (.bool true))) { s with toks:=tk })
  (λprog w A R s hs=>isinstance_outer (Zja hk 0 _ prog w A R s hs) (λz=>nomatch z)) ⟨⟨I.kIn,ob,hp.1,rfl⟩,λtk=>⟨.bl true,H,I.tok _,rfl,q⟩⟩
end
section
variable {X:Cx} {jy:List (Addr × Obj)} {σ:St} {H:Hp} {s:Shared}
def Ziz {e T:Addr} {cls a0 fl:Value} {E:XK} {what:String} {mm:Env} {Q:Flow->Shared->Prop} (I:Inv X jy σ H s) (hex:X.ex=[]) (hx:FlyA e T cls a0 fl s.heap) (fe:FxOk X jy H e) (fT:FxOk X jy H T) (q:E cls none H) :
  wpAny (model X.prog X.w) X.A (PySem.passOn what (.ref e) mm:Sem Flow) Q (XA X jy E) s:=by
 obtain ⟨oe,vs,oT,ts,he,⟨ng,h0⟩,hd,h1,vf,hT,qg,h3⟩:=hx;have vw:3 < ts.size:=(Array.getElem?_eq_some_iff.mp h3).1;unfold PySem.passOn;refine Al (wpAny_field he hd h1 ?_);rw [if_neg (show ¬ (Value.ref T == Value.none)=true from by simp)];refine Al ?_;unfold setFlight;refine Al (wpAny_field he hd h1 ?_);rw [if_pos (show (Value.ref T != Value.none)=true from by simp)];refine wpAny_setField hT qg vw (wpAny_throw ?_);generalize (mm.frame.elim Value.none λf=>rawInt f)=fl';have other:∀ b,b≠T->(s.heap.update T (Obj.mapFields (·.setIfInBounds 3 fl'))).get? b=s.heap.get? b:=λb hb=>Heap.get?_update_other _ _ (Ne.symm hb);refine ⟨e,T,cls,a0,fl',σ,H,Z,I.exc hex fe fT (λb o n1 n2 n3 z=>(other b n2).trans z) (λb o hb z=>⟨o.slots,?_⟩),?_,fe,fT,q⟩
 ·refine (other b λz2=>?_).trans z
  rw [z2] at hb z;exact I.fnd hb z ts (by rw [hT] at z; cases z; exact qg)
 ·exact ⟨oe,vs,_,_,(other e (Ne.symm vf)).trans he,⟨ng,h0⟩,hd,h1,vf,Heap.get?_update_self _ hT (Obj.isFreed_of_fields (Obj.data_mapFields qg _)),Obj.data_mapFields qg _,by simp [vw]⟩
end
section
variable {X:Cx} {xl:Value->Shared->Prop} {E:XK}
def PHsL (X:Cx) (xl:Value->Shared->Prop) (hs:List ExceptHandler) (t:THs):Prop :=
 ∀ (jy:List (Addr × Obj)) (s:Shared) (σ:St) (H:Hp) (D:Ends) (e T:Addr) (cls a0:Value) (h':Heap),Inv X jy σ H s->FxOk X jy H e->FxOk X jy H T ->
  Heap.FlyingW (PySem.W.hideAll s.heap (e :: T :: frs X.stack)) X.stack e cls a0 h'->s.heap.UpToSlots h'->t cls D σ H->wpAny (model X.prog X.w) X.A (handleBy (.ref e) X.env hs) (SP X jy D) xl { s with heap:=h' }
def Zde (L:LW X xl E) (hex:X.ex=[]:=by rfl):PHsL X xl [] (λcls _ _ H=>E cls none H):=by
 intro jy s σ H D e T cls a0 h' I fe fT hfl nk q;have I5:Inv X jy σ H { s with heap:=h' }:=I.flown hex fe fT hfl.1 nk;obtain ⟨_,_,_,oe,vs,T',oT,ts,x1,x2,x3,x4,x5,x6,x7,x8,x9⟩:=hfl
 have gT':FxOk X jy H T':=by
  by_cases hz:s.heap.get? T'=none
  ·exact I.fxOk hex hz
  ·obtain ⟨o,ho⟩:=Option.ne_none_iff_exists'.mp hz
   by_cases h1:T'=T
   ·rw [h1]; exact fT
   ·exfalso
    by_cases h2:T'∈frs X.stack
    ·obtain ⟨sl,e'⟩:=nk T' o ho (I.fnd h2 ho)
     rw [x7] at e';cases e';exact I.fnd h2 ho _ x8
    ·rw [PySem.W.hideAll_get _ ho (λz=>by
      rcases Ar z with z | z
      ·exact x6 z
      ·rcases Ar z with z | z
       ·exact h1 z
       ·exact h2 z)] at x5
     cases x5
 refine wpAny_handleBy_nil (wpAny_mono (Ziz (T:=T') (a0:=a0) (fl:=.none) I5 hex ⟨oe,vs,oT,ts,x1,x2,x3,x4,x6,x7,x8,x9⟩ fe gT' q) (λ_ _ z=>z) λev s' z=>L.a jy ev s' z)
def Yb {b₀:Stmt} {le:List Stmt} {x:Str} {np pk:Pos} {rest:List ExceptHandler} {ts:TS} {tr:THs} {C:Addr} (hg:Gl X x) (hm:X.mg x=some (.ref C)) (hs:∀ e,PSs (Wl X e) (b₀ :: le) ts) (hr:PHsL X xl rest tr)
  (hex:X.ex=[]:=by rfl) (hx:X.xe=(λ_ _=>False):=by rfl) (lg:(x == ("__debug__":Str))=false:=by decide) :
  PHsL X xl (.ExceptHandler (some (.Name x np)) none (b₀ :: le) pk :: rest) (λcls D σ H=>∃ b,PySem.W.exmOne X.K cls (.ref C)=some b/\if b=true then ts D σ H else tr cls D σ H):=by
 intro jy s σ H D e T cls a0 h' I fe fT j' nk q;obtain ⟨b,hb,q⟩:=q;have I5:Inv X jy σ H { s with heap:=h' }:=I.flown hex fe fT j'.1 nk;obtain ⟨ob,rp,pp⟩:=j'.there;refine wpAny_handleBy_cons (codeAny_handlers_test (Xu (X:=Wl X e) (I5.hnd e) hg hm ?_ lg)) (by intro q; cases q);have LT:PySem.W.Looks (model X.prog X.w) h' (typeOf (.ref e)) cls:=by
  have:PySem.W.Looks (model X.prog X.w) h' (typeOf (.ref e)) ob.cls:=(PySem.W.Looks.ld rp).andThen .now
  rw [pp] at this
  exact this
 refine (PySem.W.exm_one I5.kIn LT hb).here ?_
 cases b with
 | false=>exact hr jy s σ H D e T cls a0 h' I fe fT j' nk q
 | true =>
  refine codeAny_handlers_suite ?_;refine lands_againW j' λh₆ hfl₆ hsm₆=>?_;have I6:Inv X jy σ H { s with heap:=h₆ }:=I.flown hex fe fT hfl₆.1 (nk.trans hsm₆);have h6:=hs e jy _ σ H D (I6.hnd e) q;have o1:(Wl X e).xe=λ_ _=>False:=hx;rw [o1] at h6;refine wpAny_mono h6 (λf s2 q2=>?_) λ_ _ z=>z.elim;exact q2.unhnd I6.ok
def Zkt (tb:TSX) (th:THs):TSX:=λD _ σ H=>tb D (λcls σ' H'=>th cls D σ' H') σ H
def Za6 {R0:Value->St->Hp->Prop} {body:List Stmt} {h₀:ExceptHandler} {hs:List ExceptHandler} {pos:Pos} {tb:TSX} {th:THs} (hb:PSsX false X body tb) (hh:PHsL X xl (h₀ :: hs) th)
  (hex:X.ex=[]:=by rfl) (lm:∃ o,X.stack=X.env :: o:=by exact ⟨_,Z⟩) (qd:X.env.frame=some X.env.locals:=by rfl) :
  PSL X xl R0 (.Try body (h₀ :: hs) [] [] pos) (Zkt tb th):=by
 intro jy s σ H D I h;obtain ⟨outer,lm⟩:=lm;refine wpAny_Try_except (wpAny_mono (hb jy s σ H D _ I h) (λf s1 q=>?_) ?_)
 ·cases f with
  | next=>exact wpAny_execs_nil q
  | ret v=>exact q
  | brk=>exact q
  | cont=>exact q
 ·rintro ev s1 ⟨e,T,cls,a0,σ1,H1,rfl,I1,xo,fe,fT,hT,q⟩
  obtain ⟨T,rfl⟩:∃ t,T=some t:=by
   cases T with
   | none=>exact absurd (hT Z) Bool.false_ne_true
   | some t=>exact ⟨t,Z⟩
  have fT:=fT T rfl;have qe:=Zgi I1 xo;have hA:X.A.frames=some (X.env :: outer):=by rw [I.ok.frames,lm]
  have tm:Heap.FlyingW (PySem.W.hideAll s1.heap (e :: T :: frs X.stack)) (X.env :: outer) e cls a0 s1.heap:=by
   have:=qe;generalize PySem.W.hideAll s1.heap (e :: T :: frs X.stack)=B at this ⊢;rw [lm] at this;exact this
  refine wpAny_looks_onW hA qd tm λh₄ hheld₄ hsm₄=>?_;refine wpAny_landsW hheld₄ λh₅ j' hsm₅'=>?_;refine hh jy s1 σ1 H1 D e T cls a0 h₅ I1 fe fT ?_ (hsm₄.trans hsm₅') q;generalize PySem.W.hideAll s1.heap (e :: T :: frs X.stack)=B at j' ⊢;rw [lm];exact j'
end
end L2
set_option genInjectivity false
set_option genSizeOf false
namespace KT
open PySem L2
def bmV:List Value:=[.type "ValueError",.type "Exception",.type "BaseException",.type "object"]
def FBV:ExcBaseFacts "ValueError" "ValueError.__new__" "ValueError.__init__" bmV:=PySem.F.excBase_ValueError
def Yt {α:Type} {f:α->V} {l:List α} {i:Nat} {y:V} (h:(l.map f)[i]?=some y):∃ q,l[i]?=some q/\y=f q:=by
 rw [Ah] at h
 cases e:l[i]? with
 | none=>rw [e] at h; cases h
 | some q=>rw [e] at h; cases h; exact ⟨q,Z,Z⟩
structure FT (K:W.Frag) (mg:Str->Option Value) (x:Str) (st:Stmt) (ps:List Str) (f:Addr) (d:FuncData):Prop where
 F:Fun K x x st f d
 b:Xe K d ps []
 g:mg x=some (.ref f)
structure FM (K:W.Frag) (C:Addr) (x q:Str) (st:Stmt) (ps:List Str) (f:Addr) (d:FuncData):Prop where
 F:Fun K x q st f d
 b:Xe K d ps []
 m:Meth K C x f
section
variable {X:Cx} {fr:Bool} {j k:Nat} {f:Addr} {fd:FuncData} {ps:List Str} {sp:Sp} {x:Str} {st:Stmt} {p pos:Pos} {e:Expr} {es:List Expr} {t:TA}
def pcT (F:FnOk X.prog X.w X.K X.mg X.base (CXr X.prog X.w) k f fd ps sp) (hr:Room j X.A) (q:FT X.K X.mg x st ps f fd) (ha:PA X (e :: es) t) (hk:k<=j:=by decide) (hg:Gl X x:=by rfl) (lg:(x == ("__debug__":Str))=false:=by decide) (he:starEach (e :: es) X.env=(false,eval e X.env) :: starEach es X.env:=by rfl) (k9:(backTo pos (starEach es X.env)).any (·.1)=false:=by rfl) :
  PE X (.Call (.Name x p) (e :: es) [] pos) (Zh6 sp [] E0 t):=Ziy F (hr.mono hk) hg q.g q.F.kp q.b .nil Yg ha lg he k9
def pxT (F:FnOk X.prog X.w X.K X.mg X.base (CXr X.prog X.w) k f fd ps sp) (hr:Room j X.A) (q:FT X.K X.mg x st ps f fd) (ha:PA X (e :: es) t) (hk:k<=j:=by decide) (hg:Gl X x:=by rfl) (hex:X.ex=[]:=by rfl) (hx:X.xe=(λ_ _=>False):=by rfl) (lg:(x == ("__debug__":Str))=false:=by decide) (he:starEach (e :: es) X.env=(false,eval e X.env) :: starEach es X.env:=by rfl) (k9:(backTo pos (starEach es X.env)).any (·.1)=false:=by rfl) :
  PEX fr X (.Call (.Name x p) (e :: es) [] pos) (Ze3 sp [] t):=Zhd F (hr.mono hk) hg q.g q.F.kp q.b .nil ha hex hx lg he k9
end
def BA (q:Str) (st:Stmt) (ps:List Str):Prop:=∀ (x:Str) (kV kf pm:Value) (an:Option Addr) (j9 ct:Value) (us:List Value),us.length=ps.length->bindArgs (PySem.W.fnOf x q (Y6 st) (Yn st) (Ze st) .none kV kf pm an j9 ct) ⟨us,[]⟩=pure (ps.zip us)
def Zdb {α:Type} {us:List α} (e:us.length=2):∃ a b,us=[a,b]:=by
 obtain ⟨a,us,rfl⟩:=List.exists_cons_of_length_eq_add_one e;obtain ⟨b,rfl⟩:=List.length_eq_one_iff.mp (Nat.succ.inj e);exact ⟨a,b,Z⟩
def G5 {α:Type} {us:List α} (e:us.length=3):∃ a b c,us=[a,b,c]:=by
 obtain ⟨a,us,rfl⟩:=List.exists_cons_of_length_eq_add_one e;obtain ⟨b,c,rfl⟩:=Zdb (Nat.succ.inj e);exact ⟨a,b,c,Z⟩
def ba1 {ps:List Str} (h:∀ (x:Str) (kV kf pm:Value) (an:Option Addr) (j9 ct:Value) (a:Value),bindArgs (PySem.W.fnOf x q (Y6 st) (Yn st) (Ze st) .none kV kf pm an j9 ct) ⟨[a],[]⟩=pure (ps.zip [a])) (hl:ps.length=1):BA q st ps:=λx kV kf pm an j9 ct us e=>by
 rw [hl] at e;obtain ⟨a,rfl⟩:=List.length_eq_one_iff.mp e;exact h x kV kf pm an j9 ct a
def ba2 {ps:List Str} (h:∀ (x:Str) (kV kf pm:Value) (an:Option Addr) (j9 ct:Value) (a b:Value),bindArgs (PySem.W.fnOf x q (Y6 st) (Yn st) (Ze st) .none kV kf pm an j9 ct) ⟨[a,b],[]⟩=pure (ps.zip [a,b])) (hl:ps.length=2):BA q st ps:=λx kV kf pm an j9 ct us e=>by
 rw [hl] at e;obtain ⟨a,b,rfl⟩:=Zdb e;exact h x kV kf pm an j9 ct a b
def ba3 {ps:List Str} (h:∀ (x:Str) (kV kf pm:Value) (an:Option Addr) (j9 ct:Value) (a b c:Value),bindArgs (PySem.W.fnOf x q (Y6 st) (Yn st) (Ze st) .none kV kf pm an j9 ct) ⟨[a,b,c],[]⟩=pure (ps.zip [a,b,c])) (hl:ps.length=3):BA q st ps:=λx kV kf pm an j9 ct us e=>by
 rw [hl] at e;obtain ⟨a,b,c,rfl⟩:=G5 e;exact h x kV kf pm an j9 ct a b c
def ba4 {q:Str} {st:Stmt} {ps:List Str} (h:∀ (x:Str) (kV kf pm:Value) (an:Option Addr) (j9 ct:Value) (a b c d:Value),bindArgs (PySem.W.fnOf x q (Y6 st) (Yn st) (Ze st) .none kV kf pm an j9 ct) ⟨[a,b,c,d],[]⟩=pure (ps.zip [a,b,c,d])) (hl:ps.length=4):BA q st ps:=λx kV kf pm an j9 ct us e=>by
 rw [hl] at e;obtain ⟨a,us,rfl⟩:=List.exists_cons_of_length_eq_add_one e;obtain ⟨b,c,d,rfl⟩:=G5 (Nat.succ.inj e);exact h x kV kf pm an j9 ct a b c d
def ba5 {q:Str} {st:Stmt} {ps:List Str} (h:∀ (x:Str) (kV kf pm:Value) (an:Option Addr) (j9 ct:Value) (a b c d e:Value),bindArgs (PySem.W.fnOf x q (Y6 st) (Yn st) (Ze st) .none kV kf pm an j9 ct) ⟨[a,b,c,d,e],[]⟩=pure (ps.zip [a,b,c,d,e])) (hl:ps.length=5):BA q st ps:=λx kV kf pm an j9 ct us e=>by
 rw [hl] at e
 match us,e with
 | [a,b,c,d,e],_=>exact h x kV kf pm an j9 ct a b c d e
section
variable {K:W.Frag} {h:Heap} {mg:Str->Option Value} {C:Addr} {x q:Str} {st:Stmt} {ps:List Str} {f:Addr} {oc:Value} {od an:Option Addr} {sl:Array (Option Value)} {kV kf pm cd ct:Value}
def FT.of (X:K.In h) (G:h.Ns mainGlobals mg) (B:BA x st ps) (a:PySem.W.nsIn K mainGlobals x=some (some (.ref f))) (l:K.lookup f=some ⟨oc,od,.func (PySem.W.fnOf x x (Y6 st) (Yn st) (Ze st) .none kV kf pm an cd ct),sl⟩)
  (c:PySem.W.codeIn K cd x=true) (k:PySem.W.keepIn K (.ref f)=true):FT K mg x st ps f (PySem.W.fnOf x x (Y6 st) (Yn st) (Ze st) .none kV kf pm an cd ct):=⟨Kp l c k,(Kp l c k).binds (B x),PySem.W.mg_of X G a⟩
def FM.of (B:BA q st ps) (a:PySem.W.findIn K (.ref C) x=some (some (.ref f))) (i:PySem.W.isFn K (.ref f)=true) (l:K.lookup f=some ⟨oc,od,.func (PySem.W.fnOf x q (Y6 st) (Yn st) (Ze st) .none kV kf pm an cd ct),sl⟩)
  (c:PySem.W.codeIn K cd q=true) (k:PySem.W.keepIn K (.ref f)=true):FM K C x q st ps f (PySem.W.fnOf x q (Y6 st) (Yn st) (Ze st) .none kV kf pm an cd ct):=⟨Kp l c k,(Kp l c k).binds (B x),⟨a,i,k⟩⟩
end
def top (i:Nat):Stmt:=PySem.Challenge.pw_tentloops_k72_refusals_apart.main.body.getD i (.Pass ⟨0,0,0,0⟩)
abbrev Zc2:Stmt:=top 25
abbrev Za0:Stmt:=top 26
abbrev O4:Stmt:=top 27
abbrev Ox:Stmt:=top 28
abbrev Oz:Stmt:=top 29
abbrev Ut:Stmt:=Yc (top 30) 0
abbrev Ur:Stmt:=Yc (top 30) 1
abbrev Uq:Stmt:=Yc (top 30) 2
abbrev Vj:Stmt:=Yc (top 30) 3
abbrev Uc:Stmt:=Yc (top 30) 4
abbrev Jn:Stmt:=Yc (top 30) 5
abbrev W5:Stmt:=Yc (top 30) 6
abbrev K7:Stmt:=Yc (top 30) 7
abbrev Q3:Stmt:=Yc (top 30) 8
abbrev Us:Stmt:=Yc (top 30) 9
abbrev Qd:Stmt:=Yc (top 30) 10
abbrev O0:Stmt:=top 33
abbrev Ul:Stmt:=top 34
abbrev Zav:Stmt:=top 35
abbrev O3:Stmt:=top 38
abbrev Up:Stmt:=top 40
abbrev Gx:Stmt:=top 41
abbrev Zc1:Stmt:=top 42
abbrev Qx:Stmt:=top 43
abbrev Zas:Stmt:=top 45
abbrev Zc0:Stmt:=top 49
abbrev Qc:Stmt:=top 53
abbrev Qz:Stmt:=top 54
abbrev Qy:Stmt:=top 57
abbrev Zat:Stmt:=top 61
abbrev Jm:Stmt:=top 66
abbrev J1:Stmt:=top 67
abbrev O2:Stmt:=top 68
abbrev Vh:Stmt:=top 69
abbrev Q1:Stmt:=top 70
abbrev Jz:Stmt:=top 71
abbrev Uk:Stmt:=top 73
abbrev Gs:Stmt:=top 81
abbrev Gw:Stmt:=top 82
abbrev Gy:Stmt:=top 84
abbrev Oy:Stmt:=top 85
abbrev Q2:Stmt:=top 86
abbrev Vk:Stmt:=Yc (top 90) 0
abbrev Uj:Stmt:=top 91
abbrev Qb:Stmt:=top 92
abbrev J0:Stmt:=top 93
abbrev Fu:Stmt:=top 94
abbrev Vi:Stmt:=top 95
abbrev Uw:Stmt:=Yc (top 97) 0
abbrev Vm:Stmt:=Yc (top 97) 1
abbrev O6:Stmt:=Yc (top 97) 2
abbrev Uu:Stmt:=Yc (top 97) 3
abbrev Uv:Stmt:=Yc (top 97) 4
abbrev Vl:Stmt:=Yc (top 97) 5
abbrev Ux:Stmt:=Yc (top 97) 7
abbrev Za1:Stmt:=Yc (top 97) 8
abbrev U9:Stmt:=Yc (top 97) 11
abbrev K8:Stmt:=Yc (top 97) 17
abbrev Um:Stmt:=top 101
abbrev Zfn:Stmt:=top 102
abbrev Zg9:Stmt:=top 106
abbrev Zfm:Stmt:=top 107
abbrev Zfo:Stmt:=top 108
abbrev Zd7:Stmt:=top 109
abbrev Zfk:Stmt:=top 110
abbrev Gz:Stmt:=top 112
abbrev Zfr:Stmt:=top 113
abbrev Zcj:Stmt:=top 114
abbrev Zfl:Stmt:=top 115
abbrev O5:Stmt:=top 116
abbrev Zau:Stmt:=top 118
abbrev Zaw:Stmt:=top 119
abbrev Zaz:Stmt:=top 120
abbrev Gr:Stmt:=top 121
abbrev G0:Stmt:=top 122
abbrev Zay:Stmt:=top 124
abbrev Gu:Stmt:=top 125
abbrev O1:Stmt:=top 126
abbrev Zfq:Stmt:=top 127
abbrev Uo:Stmt:=top 128
abbrev Zfp:Stmt:=top 129
abbrev Q0:Stmt:=top 130
abbrev Zax:Stmt:=top 131
abbrev Gv:Stmt:=top 132
abbrev Zia:Stmt:=top 133
structure Adr where
 (aa af ae hZ gE eG eI eJ aL dA dB cP cQ bq bi eK cn dC bQ eL dD gF eN dE fK ic cp gG ie a8 al cq gH br bG eO cR cr bH dF fL fM fN eP cu bB dG bR bI fH cS bS cT eQ dH dJ cU dL gm dg eR dM iu eS dh di cH dj fO iw gI ix eT gn gq gs fP fQ gJ fR eU iL dO iM cv gK fS jg ak cf iN aS aW aM fU bt cg aH aA a9 bT au bu eV aY ba bC aZ cV ci cW aI dP:Addr)
 (ig gL eW eX eY bj dQ dR cX cY bv bn eZ cw dU bU e9 dW gM fb dX fV ii cx gN ij bb am cy gO bw bJ fc cZ cz bK dY fW fX fY fg cA c0 dZ bV bL fI c3 d0 c6 fh d6 d7 c7 d8 gt dk fi d9 iy iO iz iA g6 iB fZ iC gP iD fj gu gv gw f6 f7 gQ f8 fk iP ed iQ cB gR f9 iR:FuncData)
 (eA dl eB iE fm fo jk c9 fJ eC:Tok)
def exL (t:Adr):List Addr:=[t.bT,t.aW,t.aM,t.fU,t.bt,t.cg,t.aH,t.au,t.bu,t.eV,t.aY,t.a9,t.aA,t.ba,t.bC,t.aZ,t.cV,t.ci,t.cW,t.aI]
structure Txt (w:World) (K:W.Frag) (mg:Str->Option Value) (t:Adr):Prop where
 cj:mg "Tent"=some (.ref t.aa)
 ac:Cls K t.aa
 aK:Yw K t.aa "cloths"
 aC:Yw K t.aa "names_at"
 aD:Yw K t.aa "spots"
 db:Yw K t.aa "mates"
 fq:mg "Scene"=some (.ref t.af)
 ai:Cls K t.af
 aE:Yw K t.af "tent"
 ax:Yw K t.af "threads"
 aB:Yw K t.af "pools"
 bc:Yw K t.af "worths"
 ik:mg "Hall"=some (.ref t.ae)
 ag:Cls K t.ae
 bD:Yw K t.ae "began"
 av:Yw K t.ae "scene"
 aT:Yw K t.ae "standing"
 cC:Yw K t.ae "undone"
 gx:FT K mg "after" Zc2 ["place"] t.hZ t.ig
 ft:FT K mg "before" Za0 ["place"] t.gE t.gL
 bd:FT K mg "cloth_of" O4 ["place"] t.eG t.eW
 fu:FT K mg "spots_of" Ox ["names_at"] t.eI t.eX
 fw:FT K mg "mates_of" Oz ["spots","count"] t.eJ t.eY
 ar:FM K t.aa "__init__" "Tent.__init__" Ut ["self","rows"] t.aL t.bj
 ay:FM K t.aa "rows" "Tent.rows" Ur ["self"] t.dA t.dQ
 aO:FM K t.aa "size" "Tent.size" Uq ["self"] t.dB t.dR
 aw:FM K t.aa "seams" "Tent.seams" Vj ["self"] t.cP t.cX
 il:FM K t.aa "all_places" "Tent.all_places" Uc ["self"] t.cQ t.cY
 ap:FM K t.aa "has_place" "Tent.has_place" Jn ["self","place"] t.bq t.bv
 aF:FM K t.aa "look_place" "Tent.look_place" W5 ["self","place"] t.bi t.bn
 iS:FM K t.aa "seam_at" "Tent.seam_at" K7 ["self","place"] t.eK t.eZ
 ao:FM K t.aa "places" "Tent.places" Q3 ["self","seam"] t.cn t.cw
 az:FM K t.aa "mate" "Tent.mate" Us ["self","place"] t.dC t.dU
 ah:FM K t.aa "sort_of" "Tent.sort_of" Qd ["self","seam"] t.bQ t.bU
 fz:FT K mg "look_way" O0 ["way"] t.eL t.e9
 bW:FT K mg "look_free" Ul ["tent","seam"] t.dD t.dW
 bf:FT K mg "square" Zav ["tent","seam"] t.gF t.gM
 fA:FT K mg "contrary" O3 ["way"] t.eN t.fb
 ee:FT K mg "crossable" Up ["tent","place"] t.dE t.dX
 gc:FT K mg "follows" Gx ["tent","ahead","place"] t.fK t.fV
 im:FT K mg "plain" Zc1 ["tent","word"] t.ic t.ii
 cD:FT K mg "look_thread" Qx ["tent","word"] t.cp t.cx
 gS:FT K mg "turned" Zas ["word","by"] t.gG t.gN
 ip:FT K mg "times" Zc0 ["tent","word"] t.ie t.ij
 aq:FT K mg "look_numbers" Qc ["tent","counts"] t.a8 t.bb
 aj:FT K mg "look_counts" Qz ["tent","counts"] t.al t.am
 cE:FT K mg "look_family" Qy ["tent","counts"] t.cq t.cy
 gT:FT K mg "traced" Zat ["tent","counts"] t.gH t.gO
 bx:FT K mg "common_measure" Jm ["one","other"] t.br t.bw
 bM:FT K mg "look_fraction" J1 ["top","bottom"] t.bG t.bJ
 cI:FT K mg "fraction" O2 ["top","bottom"] t.eO t.fc
 bE:FT K mg "sewn_seams" Vh ["tent"] t.cR t.cZ
 cF:FT K mg "even_worths" Q1 ["tent"] t.cr t.cz
 bO:FT K mg "lowest_worths" Jz ["tent","worths"] t.bH t.bK
 eg:FT K mg "stretched" Uk ["tent","worths","seam"] t.dF t.dY
 gd:FT K mg "made_of" Gs ["text","signs"] t.fL t.fW
 ge:FT K mg "is_name" Gw ["text"] t.fM t.fX
 dm:FT K mg "figures" Gy ["number"] t.fN t.fY
 cJ:FT K mg "row_text" Oy ["words"] t.eP t.fg
 bo:FT K mg "counts_text" Q2 ["counts"] t.cu t.cA
 aV:FM K t.af "__init__" "Scene.__init__" Vk ["self","tent","threads","pools","worths"] t.bB t.c0
 er:FT K mg "with_item" Uj ["table","name","value"] t.dG t.dZ
 bg:FT K mg "without_item" Qb ["table","name"] t.bR t.bV
 aU:FT K mg "look_new_name" J0 ["scene","name"] t.bI t.bL
 i7:FT K mg "look_length" Fu ["word"] t.fH t.fI
 dc:FT K mg "look_parts" Vi ["parts"] t.cS t.c3
 bX:FM K t.ae "__init__" "Hall.__init__" Uw ["self","rows"] t.bS t.d0
 aG:FM K t.ae "enter" "Hall.enter" Vm ["self","text","scene"] t.cT t.c6
 cK:FM K t.ae "lay" "Hall.lay" O6 ["self","name","word"] t.eQ t.fh
 aP:FM K t.ae "pour" "Hall.pour" Uu ["self","name","counts"] t.dH t.d6
 bY:FM K t.ae "lift" "Hall.lift" Uv ["self","name"] t.dJ t.d7
 bF:FM K t.ae "weigh" "Hall.weigh" Vl ["self","seam","top","bottom"] t.cU t.c7
 aQ:FM K t.ae "back" "Hall.back" Ux ["self"] t.dL t.d8
 de:FM K t.ae "again" "Hall.again" Za1 ["self"] t.gm t.gt
 bz:FM K t.ae "tent_rows" "Hall.tent_rows" U9 ["self"] t.dg t.dk
 bZ:FM K t.ae "numbers" "Hall.numbers" K8 ["self"] t.eR t.fi
 eu:FT K mg "look_form" Um ["right"] t.dM t.d9
 iF:FT K mg "name_in" Zfn ["word"] t.iu t.iy
 js:FT K mg "lay_in" Zg9 ["words"] t.eS t.iO
 jo:FT K mg "pour_in" Zfm ["words"] t.dh t.iz
 jp:FT K mg "lift_in" Zfo ["words"] t.di t.iA
 jm:FT K mg "weigh_in" Zd7 ["words"] t.cH t.g6
 jq:FT K mg "turn_in" Zfk ["words"] t.dj t.iB
 gf:FT K mg "deed_in" Gz ["text"] t.fO t.fZ
 dn:FT K mg "do_deed" Zfr ["hall","deed"] t.iw t.iC
 gU:FT K mg "rows_text" Zcj ["rows"] t.gI t.gP
 dq:FT K mg "told_of" Zfl ["hall","word","name"] t.ix t.iD
 fB:FT K mg "answered" O5 ["hall","order"] t.eT t.fj
 ja:FT K mg "step_pairs" Zau ["one","other","place","spot"] t.gn t.gu
 jb:FT K mg "piece_laid" Zaw ["one","other","start","goal"] t.gq t.gv
 jc:FT K mg "first_laid" Zaz ["one","other","start","spare"] t.gs t.gw
 gh:FT K mg "matched" Gr ["one","other"] t.fP t.f6
 gi:FT K mg "carried" G0 ["one","other","word"] t.fQ t.f7
 gV:FT K mg "_law_cell" Zay ["_law_script","_law_at"] t.gJ t.gQ
 gj:FT K mg "_law_first" Gu ["_law_which","_law_tent"] t.fR t.f8
 fC:FT K mg "_law_second" O1 ["_law_which","_law_tent","_law_hall"] t.eU t.fk
 gy:FT K mg "_law_go" Zfq ["_law_which"] t.iL t.iP
 ez:FT K mg "_law_up_half" Uo ["_law_which"] t.dO t.ed
 iT:FT K mg "_law_up" Zfp ["_law_which"] t.iM t.iQ
 cG:FT K mg "_law_down_half" Q0 ["_law_which"] t.cv t.cB
 gW:FT K mg "_law_down" Zax ["_law_which"] t.gK t.gR
 gk:FT K mg "_law_based" Gv ["_law_which"] t.fS t.f9
 jh:FT K mg "law" Zia ["_law_script"] t.jg t.iR
 ck:Mk K t.aa t.aL
 fD:Mk K t.af t.bB
 iq:Mk K t.ae t.bS
 eD:mg "GREATEST_NAME"=some (.int 9999 t.eA)
 dr:mg "MOST_CROSSINGS"=some (.int 600 t.dl)
 eE:mg "SMALL_LETTERS"=some (.str (Str.ofString "abcdefghijklmnopqrstuvwxyz") t.eB)
 jr:mg "FIGURES"=some (.str (Str.ofString "0123456789") t.iE)
 fE:mg "LONGEST_NAME"=some (.int 8 t.fm)
 iU:mg "MOST_FIGURES"=some (.int 61 t.fo)
 iV:mg "PART"=some (.int 1000000000000000000000000000000000000000000000000000000000000 t.jk)
 ir:mg "WRITTEN_AT_ONCE"=some (.int 60 t.c9)
 i8:mg "MOST_PLACES"=some (.int 400 t.fJ)
 eF:mg "GREATEST_PART"=some (.int 1000000000000000000000000000000000000000000000000000000000000 t.eC)
 bA:mg "CONTRARY_WAYS"=some (.ref t.ak)
 aJ:Jg w K t.ak [(Sum.inr "left",.str "right"),(Sum.inr "right",.str "left")]
 g7:mg "READERS"=some (.ref t.cf)
 g8:Jg w K t.cf [(Sum.inr "lay",.ref t.eS),(Sum.inr "pour",.ref t.dh),(Sum.inr "lift",.ref t.di),(Sum.inr "weigh",.ref t.cH),(Sum.inr "turn",.ref t.dj)]
 ju:mg "WAYS"=some (.ref t.iN)
 jv:KTup K t.iN ["left","right"]
 du:mg "ASKED_BY_NAME"=some (.ref t.aS)
 iG:KTup K t.aS ["thread","least","pool"]
 bl:∀ (s:Shared) (u:Value),BindsTo s t.iR ⟨[u],[]⟩ [("_law_script",u)]
 gz:mg "ValueError"=none
 iW:mg "all"=none
 gX:mg "any"=none
 iX:mg "dict"=none
 gY:mg "enumerate"=none
 df:mg "isinstance"=none
 bP:mg "len"=none
 iY:mg "list"=none
 iZ:mg "max"=none
 jw:mg "range"=none
 g9:mg "reversed"=none
 jx:mg "set"=none
 b5:mg "sorted"=none
 ji:mg "str"=none
 gl:mg "sum"=none
 jd:mg "tuple"=none
 jt:mg "zip"=none
 cL:mg "NoPlace"=some (.ref t.aW)
 iH:ExcK K t.aW bmV "ValueError.__new__"
 dv:mg "NoSeam"=some (.ref t.aM)
 i3:ExcK K t.aM bmV "ValueError.__new__"
 gA:mg "Rim"=some (.ref t.fU)
 jj:ExcK K t.fU bmV "ValueError.__new__"
 dw:mg "Locked"=some (.ref t.bt)
 i4:ExcK K t.bt bmV "ValueError.__new__"
 fF:mg "NoWay"=some (.ref t.cg)
 je:ExcK K t.cg bmV "ValueError.__new__"
 b6:mg "NoThread"=some (.ref t.aH)
 hE:ExcK K t.aH bmV "ValueError.__new__"
 bp:mg "NoFraction"=some (.ref t.aA)
 gB:ExcK K t.aA bmV "ValueError.__new__"
 b7:mg "NoWorths"=some (.ref t.a9)
 hG:ExcK K t.a9 bmV "ValueError.__new__"
 dy:mg "NoTent"=some (.ref t.bT)
 i5:ExcK K t.bT bmV "ValueError.__new__"
 b8:mg "NoCounts"=some (.ref t.au)
 hJ:ExcK K t.au bmV "ValueError.__new__"
 cm:mg "Uneven"=some (.ref t.bu)
 gZ:ExcK K t.bu bmV "ValueError.__new__"
 gC:mg "Wide"=some (.ref t.eV)
 jn:ExcK K t.eV bmV "ValueError.__new__"
 cM:mg "TooMany"=some (.ref t.aY)
 iI:ExcK K t.aY bmV "ValueError.__new__"
 b9:mg "TooGreat"=some (.ref t.ba)
 hU:ExcK K t.ba bmV "ValueError.__new__"
 cc:mg "NotAlike"=some (.ref t.bC)
 hV:ExcK K t.bC bmV "ValueError.__new__"
 cN:mg "BadName"=some (.ref t.aZ)
 iJ:ExcK K t.aZ bmV "ValueError.__new__"
 fG:mg "Taken"=some (.ref t.cV)
 jf:ExcK K t.cV bmV "ValueError.__new__"
 cO:mg "Unknown"=some (.ref t.ci)
 iK:ExcK K t.ci bmV "ValueError.__new__"
 dz:mg "NoDeed"=some (.ref t.cW)
 i6:ExcK K t.cW bmV "ValueError.__new__"
 ce:mg "BadOrder"=some (.ref t.aI)
 hX:ExcK K t.aI bmV "ValueError.__new__"
 gD:mg "TentError"=some (.ref t.dP)
 xq:((exL t).all λa=>(exL t).all λb=>PySem.W.exmOne K (.ref a) (.ref b) == some (decide (a=b)))=true
 xb:((exL t).all λa=>PySem.W.exmOne K (.ref a) (.ref t.dP) == some true && PySem.W.kitOne K (.ref a) (.type "ValueError") == some true)=true
 xn:(exL t).Nodup
def Same.add (s:Same H H1) (hp:H p=none):Same H (upd H1 p o):=λb u e=>by rw [Zf (Zj e hp)]; exact s b u e
def Same.new {H:Hp} {p:Addr} {o:HO} (hp:H p=none):Same H (upd H p o):=Same.add (Same.refl H) hp
def Qn (pr:St->Hp->Prop) (ht:∀ nx:St->Hp->Prop,(∀ σ H,pr σ H->nx σ H)->t { D with nx:=nx } σ H) (hu:∀ σ H,pr σ H->u D σ H):tSeq t u D σ H:=ht (u D) hu
def Xf (ht:∀ nx:St->Hp->Prop,(∀ σ H,u D σ H->nx σ H)->t { D with nx:=nx } σ H):tSeq t u D σ H:=ht (u D) λ_ _ h=>h
def getI {ns:List Int} (h:n < ns.length):(ns.map V.int)[n]?=some (V.int (ns.getD n 0)):=by
 rw [Ah,Ac h,Ad,Ac h];rfl
def cell (ns:List Int) (n:Int):Int:=if n < ns.length then ns.getD n.toNat 0 else if ns.length=0 then 31 * n + 7 else ns.getD (n % ns.length).toNat 0 % 1000003 + 101 * n
def Zil (K:W.Frag):Sp:=λvs H Q _=>∃ (a:Addr) (ns:List Int) (n:Int),vs=[.ref a,.int n]/\SqL K H a (ns.map V.int)/\ns.length<=63/\0<=n/\n < 1000000/\Q (.int (cell ns n)) H
section
variable {P:Program} {w:World} {K:W.Frag} {mg:Str->Option Value} {base:Heap} {t:Adr}
def Zfi:FnScope ["_law_script","_law_at"] ["_law_script","_law_at"] (Ze Zay):=Am
def Zf5 (T:Txt w K mg t):FnOk P w K mg base (CXr P w) 1 t.gJ t.gQ ["_law_script","_law_at"] (Zil K):=by
 refine T.gV.F.aR Zfi (λ_ _ _ _ H vs Q E hr h=>?_)
 ·obtain ⟨a,ns,n,rfl,hS,hl,h0,h1,k⟩:=h
  refine ⟨_,(Zn (Xd (Zm Qq (pv 1) (Zs Yl (by rfl) T.bP PySem.boot_len (Za (pv 0) Zb)) (Zl _)) (Zh (Zr (X3 Y9 (pv 0) (pv 1) (λ_ _=>rfl)))) Yq)
   (Zn (Xd (Zm Z4 (Zs Yl (by rfl) T.bP PySem.boot_len (Za (pv 0) Zb)) Zd (Zl _)) (Zh (Zr (Yp Kf (Yp Ke Zd (pv 1)) Zd))) Yq)
   (Zh (Zr (Yp Kf (Yp X5 (X3 Y9 (pv 0) (Yp X5 (pv 1) (Zs Yl (by rfl) T.bP PySem.boot_len (Za (pv 0) Zb))) (λ_ _=>rfl)) Zd) (Yp Ke Zd (pv 1))))))),?_⟩;have el:((ns.map V.int).length:Int)=ns.length:=by simp
  refine ⟨_,Z,_,Z,a,_,Z,.inl hS,_,_,Z,Z,_,Z,?_⟩;rw [el];refine ite2 (λh=>?_) (λh=>?_)
  ·have h:n < ns.length:=by simpa using h
   have e:cell ns n=ns.getD n.toNat 0:=if_pos h;have en:n=(n.toNat:Int):=by lia
   have ei:atI (ns.map V.int) n=some (V.int (ns.getD n.toNat 0)):=by rw [en]; exact Gk (getI (n:=n.toNat) (by lia))
   rw [e] at k;exact ⟨_,Z,_,Z,a,_,_,_,Z,Z,hS,ei,k⟩
  ·have h:¬ n < ns.length:=by simpa using h
   have e:cell ns n=if ns.length=0 then 31 * n + 7 else ns.getD (n % ns.length).toNat 0 % 1000003 + 101 * n:=if_neg h
   refine ⟨_,Z,a,_,Z,.inl hS,Z,_,Z,?_⟩;rw [el];refine ite2 (λg=>?_) (λg=>?_)
   ·have g:ns.length=0:=by simpa using g
    refine ⟨_,Z,_,_,Z,Z,.inl ⟨by decide,by decide⟩,_,_,Z,Z,?_⟩;rw [if_pos g] at e;rw [e] at k; exact k
   ·have g:¬ ns.length=0:=by simpa using g
    have gp:(0:Int) < ns.length:=by lia
    rw [if_neg g] at e;have m0:=Int.emod_nonneg n (show (ns.length:Int)≠0 by lia);have m1:=Int.emod_lt_of_pos n gp;refine ⟨_,Z,_,Z,_,Z,a,_,Z,.inl hS,_,_,Z,Z,(by rw [el]; exact gp),a,_,_,_,Z,Z,hS,(?_:atI _ _=some (V.int (ns.getD (n % ns.length).toNat 0))),_,_,Z,Z,(by show (0:Int) < 1000003; decide),_,rfl,_,_,rfl,rfl,.inl ⟨by decide,by decide⟩,_,_,rfl,rfl,?_⟩
    ·rw [el]
     have en:n % (ns.length:Int)=((n % (ns.length:Int)).toNat:Int):=by lia
     rw [en];exact Gk (getI (by lia))
    ·rw [e] at k; exact k
def map_set {α:Type} (f:α->V) (l:List α) (i:Nat) (x:α):(l.map f).set i (f x)=(l.set i x).map f:=by rw [List.map_set]
def Zdd (h:i < n):ixN n (i:Int)=some i:=by
 unfold ixN;simp;lia
def Yj {xs:List V} (Pv:Nat->St->Hp->Prop) (h0:Pv 0 σ H) (hl:∀ i σ H,i<=xs.length->Pv i σ H->SqL K H a xs)
  (hs:∀ (i:Nat) x σ H,xs[i]?=some x->Pv i σ H->g x σ H λσ2 H2=>tt σ2 H2 λb H3=>if b=true then tb σ2 H3 (Pv (i + 1)) else Pv (i + 1) σ2 H3) (hd:∀ σ H,Pv xs.length σ H->R σ H):Jf (Itl K a) g tt tb R σ H:=by
 refine ⟨λi m σ H=>m=xs.length - i/\i<=xs.length/\Pv i σ H,⟨xs.length,by simp,Az _,h0⟩,?_⟩;rintro i m σ H ⟨rfl,hi,p⟩;have q:=hl i σ H hi p;by_cases ku:i < xs.length
 ·refine .inr ⟨⟨xs,xs[i],q,by simp [ku]⟩,Pv (i + 1),λσ' H' p'=>⟨xs.length - (i + 1),by lia,Z,ku,p'⟩,λx H' y=>?_⟩
  obtain ⟨e,y⟩:=y;subst e;exact hs i x σ _ (y xs q) p
 ·have e:i=xs.length:=by lia
  subst e;exact .inl ⟨⟨xs,q,An _⟩,hd σ H p⟩
def Qs {xs:List V} (Pv:Nat->St->Hp->Prop) (h0:Pv 0 σ H) (hl:∀ i σ H,i<=xs.length->Pv i σ H->SqT K H a xs)
  (hs:∀ (i:Nat) x σ H,xs[i]?=some x->Pv i σ H->g x σ H λσ2 H2=>tt σ2 H2 λb H3=>if b=true then tb σ2 H3 (Pv (i + 1)) else Pv (i + 1) σ2 H3) (hd:∀ σ H,Pv xs.length σ H->R σ H):Jf (Itt K a) g tt tb R σ H:=by
 refine ⟨λi m σ H=>m=xs.length - i/\i<=xs.length/\Pv i σ H,⟨xs.length,by simp,Az _,h0⟩,?_⟩;rintro i m σ H ⟨rfl,hi,p⟩;have q:=hl i σ H hi p;by_cases ku:i < xs.length
 ·refine .inr ⟨⟨xs,xs[i],q,by simp [ku]⟩,Pv (i + 1),λσ' H' p'=>⟨xs.length - (i + 1),by lia,Z,ku,p'⟩,λx H' y=>?_⟩
  obtain ⟨e,y⟩:=y;subst e;exact hs i x σ _ (y xs q) p
 ·have e:i=xs.length:=by lia
  subst e;exact .inl ⟨⟨xs,q,An _⟩,hd σ H p⟩
def row3 (ns:List Int) (k:Nat):List V:=[.int (ns.getD (3 * k) 0),.int (ns.getD (3 * k + 1) 0),.int (ns.getD (3 * k + 2) 0)]
def Xo (H:Hp) (r:Addr) (ns:List Int):Prop:=∃ ts:List Addr,H r=some (.lst (ts.map V.ref))/\ns.length=3 * ts.length/\∀ (k:Nat) (t:Addr),ts[k]?=some t->H t=some (.tup (row3 ns k))
def Xo.same (h:Xo H r ns) (s:Same H H'):Xo H' r ns:=by
 obtain ⟨ts,h1,h2,h3⟩:=h;exact ⟨ts,s _ _ h1,h2,λk t e=>s _ _ (h3 k t e)⟩
def spk (ns:List Int) (n:Nat) (f:Int->Addr):List (Key × V):=(keys ns n).map λx=>((Sum.inl x:Key),V.ref (f x))
structure SpotsF (H:Hp) (ns:List Int) (n:Nat) (f:Int->Addr):Prop where
 inj:∀ x∈keys ns n,∀ y∈keys ns n,f x=f y->x=y
 at':∀ x∈keys ns n,H (f x)=some (.lst ((pl ns n x).map nV))
def Zb4:Sp:=λvs H Q _=>∃ (a:Addr) (M:List (Option Nat)) (ns:List Int),vs=[.ref a]/\H a=some (.lst (ns.map V.int))/\TD M ns/\ns.length<=120 /\
 ∀ (d:Addr) (f:Int->Addr) (H':Hp),Same H H'->H d=none->H' d=some (.dK (spk ns ns.length f))->SpotsF H' ns ns.length f->(∀ x∈keys ns ns.length,H (f x)=none)->Q (.ref d) H'
def Wv:FnScope ["names_at","spots","place","name"] ["names_at"] (Ze Ox):=Am
def Zck (T:Txt w K mg t):FnOk P w K mg base (CXr P w) 1 t.eI t.eX ["names_at"] Zb4:=by
 refine T.fu.F.aR Wv (λ_ _ _ _ H vs Q E hr h=>?_)
 ·obtain ⟨a,M,ns,rfl,ha,td,hl,k⟩:=h
  have hu:=Xl hr;refine ⟨_,(Zn (Zk (i:=1) Wv.nd Z (Or.inl Z) Jp)
   (Zn (Za8 PassesOwn.never rfl (Ziu rfl T.gY (Za (pv 0) Zb)) (Zbd rfl (Xi (Zx (i:=2) Wv.nd rfl (Or.inl rfl)) (Xi (Zx (i:=3) Wv.nd rfl (Or.inl rfl)) Qg))) (Zn (Xd (PW.pt (Fz (Zm Qq (pv 3) Zd (Zl _)) (O8 (Zm Qr (pv 3) (Xm (v:=.int 9999) rfl T.eD ⟨_,rfl⟩) (Zl _))))) Z2 Yq)
   (Zn (Xt (Qp PySem.F.plainAttrs_list PySem.F.slot_list_append PySem.F.type_list_append J6 (Zhe (pv 1) (pv 3) (Yv Zb) ⟨rfl,rfl,rfl,rfl⟩) (Za (pv 2) Zb)))
   (Zh (Xd (Zm Qr (Zs Yl (by rfl) T.bP PySem.boot_len (Za (Jj hu (pv 1) (pv 3) (λ_ _=>rfl)) Zb)) Zd (Zl _)) Z2 Yq)))))
   (Zh (Zr (pv 1))))),?_⟩
  intro d hd;have hda:a≠d:=Zj ha hd;dsimp only [Z8];show tSeq (tFor _ _ _) _ _ _ _;refine Qn (λσ H1=>∃ (f:Int->Addr) (v2 v3:Option V),σ=[some (.ref a),some (.ref d),v2,v3]/\Same H H1/\H1 d=some (.dK (spk ns ns.length f))/\SpotsF H1 ns ns.length f/\∀ x∈keys ns ns.length,H (f x)=none) (λnx k6=>?_) ?_
  ·refine ⟨_,Z,a,Z,⟨_,SqL.of (by rw [Zf hda]; exact ha)⟩,?_⟩
   have el:(ns.map V.int).length=ns.length:=by simp
   refine Zhx (xs:=ns.map V.int) (λi σ H1=>∃ (f:Int->Addr) (v2 v3:Option V),σ=[some (.ref a),some (.ref d),v2,v3]/\Same H H1/\H1 d=some (.dK (spk ns i f))/\SpotsF H1 ns i f/\∀ x∈keys ns i,H (f x)=none)
    ⟨λ_=>0,none,none,rfl,Same.new hd,Zc,⟨λx hx=>by simp [keys] at hx,λx hx=>by simp [keys] at hx⟩,λx hx=>by simp [keys] at hx⟩ ?_ ?_ ?_
   ·rintro i σ H1 _ ⟨f,v2,v3,rfl,sm,_⟩
    exact SqL.of (sm _ _ ha)
   ·rintro i x0 σ H1 q hx hq ⟨f,v2,v3,rfl,sm,qq,sf,qf⟩
    have hi:i < ns.length:=by rw [<- el]; exact (Aa hx).1
    obtain ⟨x,md⟩:∃ x,ns[i]?=some x:=⟨_,Ac hi⟩;obtain rfl:x0=V.int x:=by rw [Ah,md] at hx; exact (Ax hx).symm
    refine ⟨q,_,Z,SqT.of Zc,Z,_,_,Z,_,_,Z,Z,?_⟩;obtain ⟨x0,x1⟩:=td.rng i x md;refine ⟨_,Z,_,_,Z,Z,_,Z,?_⟩;rw [decide_eq_false (by lia:¬ x < 0)];refine iteF ?_;refine ⟨_,Z,_,_,Z,Z,_,Z,?_⟩;rw [decide_eq_false (by lia:¬ x > 9999)];refine iteF ?_;have yh:d≠q:=Zj qq hq;have hd2:(upd H1 q (.tup [.int i,.int x])) d=some (.dK (spk ns i f)):=by rw [Zf yh]; exact qq
    dsimp only [Jw];show tSeq (Zh5 _) _ _ _ _;refine Qn (λσ H2=>∃ (f:Int->Addr),σ=[some (.ref a),some (.ref d),some (.int i),some (.int x)]/\Same H H2/\H2 d=some (.dK (spk ns (i + 1) f))/\SpotsF H2 ns (i + 1) f/\∀ x∈keys ns (i + 1),H (f x)=none) (λnx2 vz=>?_) ?_
    ·refine ⟨_,Z,d,Z,.inl ⟨_,.inl hd2⟩,_,Z,Az _,λl ww=>?_⟩
     obtain ⟨hlq,l7⟩:=Xx ww;have vd:d≠l:=Zj qq l7;have yk:(upd (upd H1 q (.tup [.int i,.int x])) l (.lst [])) d=some (.dK (spk ns i f)):=by rw [Zf vd]; exact hd2
     have hlk:(spk ns i f).length < sizeLine:=by unfold spk; rw [Ab]; exact Zv (by have:=Ju ns i; lia)
     have hq0:H q=none:=sm.free hq;have yd:H l=none:=sm.free l7;have smq:Same H (upd (upd H1 q (.tup [.int i,.int x])) l (.lst [])):=Same.add (Same.add sm hq0) yd;have mv:(pl ns i x).length < sizeLine:=Zv (by have:=Zbb td i x; lia);have kj:∀ b u,H1 b=some u->(upd (upd H1 q (.tup [.int i,.int x])) l (.lst [])) b=some u:=λb u e=>by rw [Zf (Zj e l7),Zf (Zj e hq)]; exact e
     refine ⟨spk ns i f,Sum.inl x,yk,hlk,Z,λv hv=>?_,λhv=>?_⟩
     ·-- the name stands already
      have qb:x∈keys ns i:=by
       unfold spk at hv;rw [Wn] at hv;by_cases c:x∈keys ns i
       ·exact c
       ·rw [if_neg c] at hv; cases hv
      obtain rfl:v=V.ref (f x):=by
       unfold spk at hv;rw [Wn,if_pos qb] at hv;exact (Ax hv).symm
      have ek:keys ns (i + 1)=keys ns i:=by rw [Wg md,if_pos qb]
      have qp:=kj _ _ (sf.at' x qb);refine ⟨.inl ⟨Z,_,SqL.of qp⟩,_,Z,f x,_,_,Z,Z,qp,by rw [Ab]; exact mv,vz _ _ ⟨f,Z,Same.add smq (qf x qb),?_,⟨?_,?_⟩,?_⟩⟩
      ·have:d≠f x:=λz=>by rw [<- z,yk] at qp; cases qp
       rw [Zf this,yk];unfold spk;rw [ek]
      ·rw [ek]; exact sf.inj
      ·intro y hy
       rw [ek] at hy;by_cases c:y=x
       ·subst c
        rw [Zc,Zc7 md,Aj];rfl
       ·have:f y≠f x:=λz=>c (sf.inj y hy x qb z)
        rw [Zf this,kj _ _ (sf.at' y hy),Zba (by rw [md]; intro z; cases z; exact c Z)]
      ·rw [ek]; exact qf
     ·-- a new name
      have qb:x ∉ keys ns i:=by
       intro c;unfold spk at hv;rw [Wn,if_pos c] at hv;cases hv
      have ek:keys ns (i + 1)=keys ns i ++ [x]:=by rw [Wg md,if_neg qb]
      have ep:putK (spk ns i f) (Sum.inl x) (V.ref l)=spk ns (i + 1) (λy=>if y=x then l else f y):=by
       unfold spk;rw [Zc3 qb,ek,Aj];congr 1
       ·apply List.map_congr_left
        intro y hy;dsimp only;rw [if_neg (λ(z:y=x)=>qb (z ▸ hy))]
       ·simp
      rw [ep];have hl4:(upd (upd (upd H1 q (.tup [.int i,.int x])) l (.lst [])) d (.dK (spk ns (i + 1) (λy=>if y=x then l else f y)))) l=some (.lst []):=by rw [Zf (Ne.symm vd),Zc]
      refine ⟨.inl ⟨Z,_,SqL.of hl4⟩,_,Z,l,_,_,Z,Z,hl4,by decide,vz _ _ ⟨λy=>if y=x then l else f y,Z,Same.add (Same.add smq hd) yd,?_,⟨?_,?_⟩,?_⟩⟩
      ·rw [Zf vd,Zc]
      ·intro y hy z hz e
       rw [ek,List.mem_append,List.mem_singleton] at hy hz;by_cases c1:y=x
       ·by_cases c2:z=x
        ·rw [c1,c2]
        ·have xm:=hz.resolve_right c2
         simp only [c1,c2,if_true,if_false] at e;exact absurd (sf.at' z xm) (by rw [<- e,l7]; intro w; cases w)
       ·have mh:=hy.resolve_right c1
        by_cases c2:z=x
        ·simp only [c1,c2,if_true,if_false] at e
         exact absurd (sf.at' y mh) (by rw [e,l7]; intro w; cases w)
        ·have xm:=hz.resolve_right c2
         simp only [c1,c2,if_false] at e;exact sf.inj y mh z xm e
      ·intro y hy
       rw [ek,List.mem_append,List.mem_singleton] at hy;by_cases c:y=x
       ·subst c
        simp only [if_true];rw [Zc,Zc7 md,Zjx qb];rfl
       ·have mh:=hy.resolve_right c
        have e1:=sf.at' y mh;have n1:f y≠l:=Zj e1 l7;have n2:f y≠d:=λz=>by rw [z,qq] at e1; cases e1
        simp only [c,if_false];rw [Zf n1,Zf n2,kj _ _ e1,Zba (by rw [md]; intro z; cases z; exact c Z)]
      ·intro y hy
       rw [ek,List.mem_append,List.mem_singleton] at hy;by_cases c:y=x
       ·simp only [c,if_true]; exact yd
       ·simp only [c,if_false]; exact qf y (hy.resolve_right c)
    rintro σ H2 ⟨f',rfl,sm2,hd4,sf2,wx⟩;have hx3:x∈keys ns (i + 1):=Xq.mpr ⟨i,by lia,md⟩;have hg:valV (spk ns (i + 1) f') (Sum.inl x)=some (V.ref (f' x)):=by unfold spk; rw [Wn,if_pos hx3]
    refine ⟨_,Z,_,Z,d,_,Z,?_,f' x,_,Z,.inl (SqL.of (sf2.at' x hx3)),_,_,Z,Z,_,Z,?_⟩
    ·exact .inl ⟨_,Sum.inl x,.inl hd4,Z,hg.symm⟩
    have h2:=Zbb td (i + 1) x;rw [decide_eq_false (by rw [Ab]; lia:¬ ((((pl ns (i + 1) x).map nV).length:Nat):Int) > 2)];refine iteF ?_;exact ⟨f',_,_,Z,sm2,hd4,sf2,wx⟩
   ·rintro σ H1 ⟨f,v2,v3,rfl,sm,qq,sf,qf⟩
    rw [el] at qq sf qf;exact k6 _ _ ⟨f,v2,v3,Z,sm,qq,sf,qf⟩
  rintro σ H1 ⟨f,v2,v3,rfl,sm,qq,sf,qf⟩;exact ⟨_,Z,k d f H1 sm hd qq sf qf⟩
def Zb6:Sp:=λvs H Q _=>∃ (d:Addr) (M:List (Option Nat)) (ns:List Int) (f:Int->Addr),vs=[.ref d,.int ns.length]/\H d=some (.dK (spk ns ns.length f))/\SpotsF H ns ns.length f/\TD M ns/\ns.length<=120 /\
 ∀ (m:Addr) (o:Obj) (H':Hp),(∀ b u,b≠d->H b=some u->H' b=some u)->H m=none->H' m=some (.lst (M.map mV))->H' d=some (.frz o (.dK (spk ns ns.length f)))->Q (.ref m) H'
def J8:FnScope ["spots","count","mates","pair"] ["spots","count"] (Ze Oz):=Am
def Zcl (T:Txt w K mg t):FnOk P w K mg base (CXr P w) 1 t.eJ t.eY ["spots","count"] Zb6:=by
 refine T.fw.F.aR J8 (λ_ _ _ _ H vs Q E hr h=>?_)
 ·obtain ⟨d,M,ns,f,rfl,hd,sf,td,hl,k⟩:=h
  refine ⟨_,(Zn (Zk (i:=2) J8.nd Z (Or.inl Z) (Yp Zka (Yv (Za Kc Zb)) (pv 1)))
   (Zn (Za8 PassesOwn.never rfl (Zit (pv 0) ⟨rfl,rfl,rfl⟩) (Zx (i:=3) J8.nd rfl (Or.inl rfl)) (Zh (Xd (Zm Z4 (Zs Yl (by rfl) T.bP PySem.boot_len (Za (pv 3) Zb)) Zd (Zl _)) (Zn (Za9 (X3 Y9 (pv 3) Zd (λ_ _=>rfl)) (Zfw (pv 2) (X3 Y9 (pv 3) Zd (λ_ _=>rfl)) Zak))
   (Zh (Za9 (X3 Y9 (pv 3) Zd (λ_ _=>rfl)) (Zfw (pv 2) (X3 Y9 (pv 3) Zd (λ_ _=>rfl)) Zak)))) Yq)))
   (Zh (Zr (pv 2))))),?_⟩;refine ⟨(by show 1<=sizeLine; decide),λq hq=>?_⟩;refine ⟨_,Z,q,_,_,Z,Z,Zc,by lia,by lia,?_,λm hm=>?_⟩
  ·have:((ns.length:Nat):Int).toNat=ns.length:=by lia
   show 1 * ((ns.length:Nat):Int).toNat<=sizeLine;rw [this,sizeLine_eq]; lia
  obtain ⟨hmq,va⟩:=Xx hm;have eM:(List.replicate ((ns.length:Nat):Int).toNat [V.non]).flatten=(part M ns []).map mV:=by
   have:((ns.length:Nat):Int).toNat=M.length:=by rw [<- td.len]; lia
   rw [this,List.flatten_replicate_singleton,Zhg td,List.map_replicate]
   rfl
  rw [eM];have wy:d≠m:=Zj hd va;have yh:d≠q:=Zj hd hq;dsimp only [Z8];show tSeq (tFor _ _ _) _ _ _ _;refine Qn (λσ H1=>∃ (o:Obj) (v:Option V),σ=[some (.ref d),some (.int ns.length),some (.ref m),v]/\(∀ b u,b≠d->H b=some u->H1 b=some u)/\H1 m=some (.lst (M.map mV))/\H1 d=some (.frz o (.dK (spk ns ns.length f)))) (λnx k6=>?_) ?_
  ·refine ⟨_,Z,d,_,Z,.inl ⟨by rw [Zf wy,Zf yh]; exact hd,λo=>?_⟩⟩
   refine Zhw (λj σ H1=>∃ (v:Option V),σ=[some (.ref d),some (.int ns.length),some (.ref m),v]/\(∀ b u,b≠d->H b=some u->H1 b=some u)/\H1 m=some (.lst ((part M ns ((keys ns ns.length).take j)).map mV))/\H1 d=some (.frz o (.dK (spk ns ns.length f))))
    ⟨none,rfl,λb u hb e=>?_,?_,Zc⟩ ?_ ?_ ?_
   ·rw [Zf hb,Zf (Zj e va),Zf (Zj e hq)]; exact e
   ·rw [Zf (Ne.symm wy),Zc]
    rfl
   ·rintro j σ H1 _ ⟨v,rfl,kj,h1,h2⟩
    exact h2
   ·rintro j k0 x0 σ H1 hk ⟨v,rfl,kj,h1,h2⟩
    obtain ⟨x,hx,rfl⟩:∃ x,(keys ns ns.length)[j]?=some x/\x0=V.ref (f x):=by
     unfold spk at hk;rw [Ah] at hk
     cases e:(keys ns ns.length)[j]? with
     | none=>rw [e] at hk; cases hk
     | some x=>rw [e] at hk; cases hk; exact ⟨x,Z,Z⟩
    have hm1:x∈keys ns ns.length:=Au hx;have et:(keys ns ns.length).take (j + 1)=(keys ns ns.length).take j ++ [x]:=by
     rw [Aw,hx]; rfl
    have qp:=sf.at' x hm1;have hfd:f x≠d:=λz=>by rw [z,hd] at qp; cases qp
    have qe:=kj _ _ hfd qp;dsimp only [Z8];refine ⟨_,Z,f x,_,Z,.inl (SqL.of qe),Z,_,Z,?_⟩
    rcases Oa td hm1 with ⟨a,e,ea,ma⟩ | ⟨a,b,ow,e,ea,eb,ma,mb⟩
    ·rw [e] at qe ⊢
     refine iteF ?_;refine ⟨_,Z,kj,?_,h2⟩;rw [et,Zhf td e ma];exact h1
    ·rw [e] at qe ⊢
     refine iteT ?_;have la:a < (part M ns ((keys ns ns.length).take j)).length:=by rw [Xj]; exact (Aa ma).1
     have lb:b < (part M ns ((keys ns ns.length).take j)).length:=by rw [Xj]; exact (Aa mb).1
     have hfm:f x≠m:=Zj qp va;refine ⟨_,Z,f x,_,_,_,Z,Z,SqL.of qe,Z,?_⟩;refine ⟨_,Z,_,Z,f x,_,_,_,Z,Z,SqL.of qe,Z,m,_,_,a,Z,Z,h1,(by rw [Ab]; exact Zdd la),?_⟩;have wx:(upd H1 m (.lst (((part M ns ((keys ns ns.length).take j)).map mV).set a (nV b)))) (f x)=some (.lst ([a,b].map nV)):=by rw [Zf hfm]; exact qe
     refine ⟨_,Z,f x,_,_,_,Z,Z,SqL.of wx,Z,?_⟩;refine ⟨_,Z,_,Z,f x,_,_,_,Z,Z,SqL.of wx,Z,m,_,_,b,Z,Z,Zc,(by rw [List.length_set,Ab]; exact Zdd lb),?_⟩;refine ⟨_,Z,λc u hc ec=>?_,?_,?_⟩
     ·have:c≠m:=Zj ec va
      rw [Zf this,Zf this];exact kj c u hc ec
     ·rw [Zc,et,Zfz td e ow ma mb]
      show some (HO.lst ((((part M ns ((keys ns ns.length).take j)).map mV).set a (mV (some b))).set b (mV (some a))))=_;rw [map_set,map_set]
     ·rw [Zf wy,Zf wy]; exact h2
   ·rintro σ H1 ⟨v,rfl,kj,h1,h2⟩
    refine k6 _ _ ⟨o,v,Z,kj,?_,h2⟩;have:(keys ns ns.length).take (spk ns ns.length f).length=keys ns ns.length:=by
     unfold spk; rw [Ab,List.take_length]
    rw [this,Zhh td] at h1;exact h1
  rintro σ H1 ⟨o,v,rfl,kj,h1,h2⟩;exact ⟨_,Z,k m o H1 kj va h1 h2⟩
def Xg (cl na sp mt:Addr):List (Str × V):=putF "mates" (.ref mt) (putF "spots" (.ref sp) (putF "names_at" (.ref na) (putF "cloths" (.ref cl) [])))
theorem Yz (f:Str) (v:V):∀ fs:List (Str × V),(putF f v fs).length<=fs.length + 1
 | []=>by simp [putF]
 | (g,x) :: r=>by
  have:=Yz f v r;unfold putF;split
  ·simp
  ·simp only [List.length_cons]; lia
def s_cn:¬ ("cloths":Str)="names_at":=by decide
def s_cs:¬ ("cloths":Str)="spots":=by decide
def s_cm:¬ ("cloths":Str)="mates":=by decide
def s_ns:¬ ("names_at":Str)="spots":=by decide
def s_nm:¬ ("names_at":Str)="mates":=by decide
def s_sm:¬ ("spots":Str)="mates":=by decide
def Fb (cl na sp mt:Addr):(Xg cl na sp mt).lookup ("cloths":Str)=some (.ref cl):=by
 unfold Xg; rw [Zu,if_neg s_cm,Zu,if_neg s_cs,Zu,if_neg s_cn,Zu,if_pos rfl]
def Zhy (cl na sp mt:Addr):(Xg cl na sp mt).lookup ("names_at":Str)=some (.ref na):=by
 unfold Xg; rw [Zu,if_neg s_nm,Zu,if_neg s_ns,Zu,if_pos rfl]
def Oi (cl na sp mt:Addr):(Xg cl na sp mt).lookup ("spots":Str)=some (.ref sp):=by
 unfold Xg; rw [Zu,if_neg s_sm,Zu,if_pos rfl]
def Zhz (cl na sp mt:Addr):(Xg cl na sp mt).lookup ("mates":Str)=some (.ref mt):=by
 unfold Xg; rw [Zu,if_pos rfl]
def Ye (cl na sp mt:Addr) {m:Str} (h:m≠"cloths"/\m≠"names_at"/\m≠"spots"/\m≠"mates":=by decide):(Xg cl na sp mt).lookup m=none:=by
 obtain ⟨h1,h2,h3,h4⟩:=h;unfold Xg; rw [Zu,if_neg h4,Zu,if_neg h3,Zu,if_neg h2,Zu,if_neg h1]; rfl
structure TentB (C:Addr) (H:Hp) (p:Addr) (M:List (Option Nat)) (ns:List Int) (dx cl na sp mt:Addr) (o:Obj) (f:Int->Addr):Prop where
 ins:H p=some (.ins C dx (Xg cl na sp mt))
 rows:Xo H cl ns
 names:H na=some (.lst (ns.map V.int))
 spots:H sp=some (.frz o (.dK (spk ns ns.length f)))
 mates:H mt=some (.lst (M.map mV))
 at':∀ x∈keys ns ns.length,H (f x)=some (.lst ((pl ns ns.length x).map nV))
def Zp (C:Addr) (H:Hp) (p:Addr) (M:List (Option Nat)) (ns:List Int):Prop:=∃ dx cl na sp mt o f,TentB C H p M ns dx cl na sp mt o f
def Zp.same (h:Zp C H p M ns) (s:Same H H'):Zp C H' p M ns:=by
 obtain ⟨dx,cl,na,sp,mt,o,f,b⟩:=h;exact ⟨dx,cl,na,sp,mt,o,f,s _ _ b.ins,b.rows.same s,s _ _ b.names,s _ _ b.spots,s _ _ b.mates,λx hx=>s _ _ (b.at' x hx)⟩
def Zgw {ns:List Int} {n:Nat} (h:ns.length=3 * n) (hk:k < n):(ns.take (3 * k)).map V.int ++ row3 ns k=(ns.take (3 * (k + 1))).map V.int:=by
 have e:ns.take (3 * (k + 1))=ns.take (3 * k) ++ [ns.getD (3 * k) 0,ns.getD (3 * k + 1) 0,ns.getD (3 * k + 2) 0]:=by
  have l0:3 * k < ns.length:=by lia
  have l1:3 * k + 1 < ns.length:=by lia
  have l2:3 * k + 2 < ns.length:=by lia
  have g:∀ i,i < ns.length->ns[i]?=some (ns.getD i 0):=λi hi=>by rw [Ad,Ac hi]; rfl
  rw [show 3 * (k + 1)=3 * k + 1 + 1 + 1 by lia,Aw,Aw,Aw,g _ l0,g _ l1,g _ l2,List.append_assoc,List.append_assoc];rfl
 rw [e,Aj];rfl
def Va (C:Addr):Sp:=λvs H Q _=>∃ (p r dx:Addr) (M:List (Option Nat)) (ns:List Int),vs=[.ref p,.ref r]/\H p=some (.ins C dx [])/\Xo H r ns/\TD M ns/\ns.length<=120 /\
 ∀ (H':Hp),(∀ b u,b≠p->H b=some u->H' b=some u)->Zp C H' p M ns->Q .non H'
def Vg:FnScope ["self","rows"] ["self","rows"] (Ze Ut):=Am
def Wj (T:Txt w K mg t):FnOk P w K mg base (CXr P w) 2 t.aL t.bj ["self","rows"] (Va t.aa):=by
  refine T.ar.F.aR Vg (λ_ _ _ _ H vs Q E hr h=>?_)
  · obtain ⟨p,r,dx,M,ns,rfl,hp,⟨ts,ny,hr2,hr3⟩,td,hl,k⟩:=h
    refine ⟨_,(Zn (Xd (X4 (Wp (pv 1) (λ_=>rfl))) Z2 Yq)
      (Zn (Xh (pv 0) (Yo (ts:=["row"]) (fv:=[]) ⟨rfl,by decide +kernel,by decide +kernel,Yf (by rfl),trivial⟩ rfl (Yy (pv 1)) (λ_ _ _ _=>(Zx (i:=0) (show List.Nodup (["row"]:List Str) from by decide +kernel) rfl (Or.inl rfl) (Or.inr rfl))) (λ_ _ _ _=>Yh) (λ_ _ _=>rfl) (λ_ _ _ _ _ _=>Ym (Wf (Gj K) (by rfl) T.jd PySem.Pv.boot_tuple (Za (pv 0) Zb)))) rfl)
      (Zn (Xh (pv 0) (Yo (ts:=["row","name"]) (fv:=[]) ⟨rfl,by decide +kernel,by decide +kernel,Yf (by rfl),trivial⟩ rfl (Yy (Zz (pv 0) rfl)) (λ_ _ _ _=>(Zx (i:=0) (show List.Nodup (["row","name"]:List Str) from by decide +kernel) rfl (Or.inl rfl) (Or.inr rfl))) (λ_ _ _ _=>Yh) (λ_ _ _=>rfl) (λ_ _ _ _ _ _=>Zj9 rfl rfl (V4 K (pv 0)) (Zx (i:=1) (show List.Nodup (["row","name"]:List Str) from by decide +kernel) rfl (Or.inl rfl) (Or.inr rfl)) Yh (pv 1))) rfl)
      (Zn (Xh (pv 0) (pcT (Zck T) hr T.fu (Za (Zz (pv 0) rfl) Zb)) rfl)
      (Zh (Xh (pv 0) (pcT (Zcl T) hr T.fw (Za (Zz (pv 0) rfl) (Za (Zs Yl (by rfl) T.bP PySem.boot_len (Za (Zz (pv 0) rfl) Zb)) Zb))) rfl)))))),?_⟩;obtain ⟨n,n1,n2,hn⟩:=td.n;have hnn:ns.length=3 * n:=by rw [td.len,hn]
    have qi:ts.length=n:=by lia
    have hrp:r≠p:=λz=>by rw [z,hp] at ny; cases ny
    refine ⟨_,Z,true,.inl ⟨_,SqL.of ny,?_⟩,?_⟩
    · cases ts with
      | nil=>simp at qi; lia
      | cons _ _=>rfl
    refine iteF ?_;dsimp only [Jw];refine ⟨_,Z,r,Z,⟨_,SqL.of ny⟩,λD hD=>?_⟩;have hDp:D≠p:=λz=>by rw [z,hp] at hD; cases hD
    refine Yj (xs:=ts.map V.ref) (λi σ H1=>∃ (v:Option V),σ=[v]/\Same H H1/\H1 D=some (.lst ((ts.take i).map V.ref))) ⟨none,Z,Same.new hD,Zc⟩ ?_ ?_ ?_
    · rintro i σ H1 _ ⟨v,rfl,sm,h1⟩
      exact SqL.of (sm _ _ ny)
    · rintro i x σ H1 hx ⟨v,rfl,sm,h1⟩
      dsimp only [Z8,tYes];rw [if_pos rfl];obtain ⟨tt,ht,rfl⟩:=Yt hx;refine ⟨_,Z,tt,_,Z,.inr ⟨SqT.of (sm _ _ (hr3 i tt ht)),_,h1,(by rw [Ab,Ai]; exact Zv (by lia)),_,Z,Same.add sm hD,?_⟩⟩;rw [Zc,Aw,ht,Aj];rfl
    rintro σ H1 ⟨v,rfl,sm1,h1⟩;rw [Ab,List.take_length] at h1;have wu:=sm1 _ _ hp;refine ⟨_,Z,p,_,dx,_,Z,wu,T.ac,T.aK,by decide,?_⟩;have si:∀ b u,b≠p->H b=some u->(upd H1 p (.ins t.aa dx (putF "cloths" (.ref D) []))) b=some u:=λb u hb e=>by rw [Zf hb]; exact sm1 b u e
    have lz:(upd H1 p (.ins t.aa dx (putF "cloths" (.ref D) []))) D=some (.lst (ts.map V.ref)):=by rw [Zf hDp]; exact h1
    have mv:(upd H1 p (.ins t.aa dx (putF "cloths" (.ref D) []))) p=some (.ins t.aa dx (putF "cloths" (.ref D) [])):=Zc
    have qc:∀ (k:Nat) (q:Addr),ts[k]?=some q->(upd H1 p (.ins t.aa dx (putF "cloths" (.ref D) []))) q=some (.tup (row3 ns k)):=λk q e=>by
      have e1:=hr3 k q e;have:q≠p:=λz=>by rw [z,hp] at e1; cases e1
      exact si q _ this e1
    generalize upd H1 p (.ins t.aa dx (putF "cloths" (.ref D) []))=H2 at si lz mv qc ⊢;refine ⟨_,Z,p,_,dx,_,_,Z,mv,T.ac,T.aK,Z,D,Z,⟨_,SqL.of lz⟩,λN hN=>?_⟩;have hND:N≠D:=λz=>by rw [z,lz] at hN; cases hN
    have yq:N≠p:=λz=>by rw [z,mv] at hN; cases hN
    refine Yj (xs:=ts.map V.ref) (λi σ H3=>∃ (v v':Option V),σ=[v,v']/\Same H2 H3/\H3 N=some (.lst ((ns.take (3 * i)).map V.int))) ⟨none,none,Z,Same.new hN,Zc⟩ ?_ ?_ ?_
    · rintro i σ H3 _ ⟨v,v',rfl,sm,h3⟩
      exact SqL.of (sm _ _ lz)
    · rintro i x σ H3 hx ⟨v,v',rfl,sm,h3⟩
      dsimp only [Z8,tYes];rw [if_pos rfl];obtain ⟨tt,ht,rfl⟩:=Yt hx;have hi:i < n:=by rw [<- qi]; exact (Aa ht).1
      refine ⟨_,Z,tt,Z,⟨_,SqT.of (sm _ _ (qc i tt ht))⟩,?_⟩;refine Qs (xs:=row3 ns i) (λj σ H4=>∃ (v':Option V),σ=[some (.ref tt),v']/\Same H2 H4/\H4 N=some (.lst ((ns.take (3 * i)).map V.int ++ (row3 ns i).take j))) ⟨v',Z,sm,by rw [h3,List.take_zero,List.append_nil]⟩ ?_ ?_ ?_
      · rintro j σ H4 _ ⟨v',rfl,sm,h4⟩
        exact SqT.of (sm _ _ (qc i tt ht))
      · rintro j x σ H4 hx ⟨v',rfl,sm,h4⟩
        dsimp only [Z8,tYes];rw [if_pos rfl];refine ⟨_,Z,_,h4,?_,_,Z,Same.add sm hN,?_⟩
        · rw [Ae,Ab,Ai,Ai]
          exact Zv (by have:(row3 ns i).length=3:=rfl; lia)
        · rw [Zc,Aw,hx,<- List.append_assoc]
          rfl
      · rintro σ H4 ⟨v',rfl,sm,h4⟩
        refine ⟨_,_,Z,sm,?_⟩;rw [h4,List.take_length,Zgw hnn hi]
    rintro σ H3 ⟨v,v',rfl,sm3,h3⟩;have eall:ns.take (3 * (ts.map V.ref).length)=ns:=by rw [Ab,qi,<- hnn,List.take_length]
    rw [eall] at h3;have hp3:=sm3 _ _ mv;refine ⟨_,rfl,p,_,dx,_,rfl,hp3,T.ac,T.aC,(by have h1:=Yz "cloths" (.ref D) []; simp only [List.length_nil] at h1; lia),?_⟩;have vp:∀ b u,b≠p->H2 b=some u->(upd H3 p (.ins t.aa dx (putF "names_at" (.ref N) (putF "cloths" (.ref D) [])))) b=some u:=λb u hb e=>by rw [Zf hb]; exact sm3 b u e
    have yr:(upd H3 p (.ins t.aa dx (putF "names_at" (.ref N) (putF "cloths" (.ref D) [])))) N=some (.lst (ns.map V.int)):=by rw [Zf yq]; exact h3
    have qk:(upd H3 p (.ins t.aa dx (putF "names_at" (.ref N) (putF "cloths" (.ref D) [])))) p=some (.ins t.aa dx (putF "names_at" (.ref N) (putF "cloths" (.ref D) []))):=Zc;generalize upd H3 p (.ins t.aa dx (putF "names_at" (.ref N) (putF "cloths" (.ref D) [])))=H4 at vp yr qk ⊢;have wq:(putF "names_at" (.ref N) (putF "cloths" (.ref D) [])).lookup ("names_at":Str)=some (.ref N):=by rw [Zu,if_pos rfl]
    refine ⟨_,Z,p,_,dx,_,_,Z,qk,T.ac,T.aC,wq,N,M,ns,Z,yr,td,hl,λd f H5 sm5 yj hd5' sf qf=>?_⟩;have hp5:=sm5 _ _ qk;refine ⟨_,rfl,p,_,dx,_,rfl,hp5,T.ac,T.aD,(by have h1:=Yz "cloths" (.ref D) []; have h2:=Yz "names_at" (.ref N) (putF "cloths" (.ref D) []); simp only [List.length_nil] at h1; lia),?_⟩;have yi:d≠p:=λz=>by rw [z,qk] at yj; cases yj
    have hfp:∀ x∈keys ns ns.length,f x≠p:=λx hx z=>by have:=qf x hx; rw [z,qk] at this; cases this
    have sh:∀ b u,b≠p->H4 b=some u->(upd H5 p (.ins t.aa dx (putF "spots" (.ref d) (putF "names_at" (.ref N) (putF "cloths" (.ref D) []))))) b=some u:=λb u hb e=>by rw [Zf hb]; exact sm5 b u e
    have ot:(upd H5 p (.ins t.aa dx (putF "spots" (.ref d) (putF "names_at" (.ref N) (putF "cloths" (.ref D) []))))) p=some (.ins t.aa dx (putF "spots" (.ref d) (putF "names_at" (.ref N) (putF "cloths" (.ref D) [])))):=Zc;have wz:(upd H5 p (.ins t.aa dx (putF "spots" (.ref d) (putF "names_at" (.ref N) (putF "cloths" (.ref D) []))))) d=some (.dK (spk ns ns.length f)):=by rw [Zf yi]; exact hd5'
    have xc:SpotsF (upd H5 p (.ins t.aa dx (putF "spots" (.ref d) (putF "names_at" (.ref N) (putF "cloths" (.ref D) []))))) ns ns.length f:=⟨sf.inj,λx hx=>by rw [Zf (hfp x hx)]; exact sf.at' x hx⟩;generalize upd H5 p (.ins t.aa dx (putF "spots" (.ref d) (putF "names_at" (.ref N) (putF "cloths" (.ref D) []))))=H6 at sh ot wz xc ⊢;have lk2:(putF "spots" (.ref d) (putF "names_at" (.ref N) (putF "cloths" (.ref D) []))).lookup ("spots":Str)=some (.ref d):=by rw [Zu,if_pos rfl]
    have lk3:(putF "spots" (.ref d) (putF "names_at" (.ref N) (putF "cloths" (.ref D) []))).lookup ("names_at":Str)=some (.ref N):=by rw [Zu,if_neg s_ns,Zu,if_pos rfl]
    have w6:=sh _ _ yq yr;have eln:(((ns.map V.int).length:Nat):Int)=(ns.length:Nat):=by rw [Ab]
    refine ⟨_,Z,p,_,dx,_,_,Z,ot,T.ac,T.aD,lk2,_,Z,p,_,dx,_,_,Z,ot,T.ac,T.aC,lk3,N,_,Z,.inl (SqL.of w6),d,M,ns,f,(by rw [eln]; rfl),wz,xc,td,hl,λm o H7 vo hm7 hmm hdd=>?_⟩;have hpd:p≠d:=Ne.symm yi;have uf:=vo _ _ hpd ot;refine ⟨_,rfl,p,_,dx,_,rfl,uf,T.ac,T.db,(by have h1:=Yz "cloths" (.ref D) []; have h2:=Yz "names_at" (.ref N) (putF "cloths" (.ref D) []); have h3:=Yz "spots" (.ref d) (putF "names_at" (.ref N) (putF "cloths" (.ref D) [])); simp only [List.length_nil] at h1; lia),?_⟩;have hmp:m≠p:=λz=>by rw [z,ot] at hm7; cases hm7
    have dN:N≠d:=λz=>by rw [z,wz] at w6; cases w6
    have sg:∀ b u,b≠p->b≠d->H6 b=some u->(upd H7 p (.ins t.aa dx (Xg D N d m))) b=some u:=λb u hb yo e=>by rw [Zf hb]; exact vo b u yo e
    have v9:∀ b u,b≠p->H4 b=some u->H6 b=some u/\b≠d:=λb u hb e=>⟨sh b u hb e,λz=>by rw [z,yj] at e; cases e⟩;have pw:∀ b u,b≠p->H2 b=some u->(upd H7 p (.ins t.aa dx (Xg D N d m))) b=some u:=λb u hb e=>by
      obtain ⟨e6,yo⟩:=v9 b u hb (vp b u hb e)
      exact sg b u hb yo e6
    refine k _ (λb u hb e=>pw b u hb (si b u hb e)) ⟨dx,D,N,d,m,o,f,Zc,⟨ts,pw _ _ hDp lz,by lia,λk q e=>?_⟩,?_,?_,?_,?_⟩
    · have e1:=qc k q e
      exact pw q _ (λz=>by rw [z,mv] at e1; cases e1) e1
    · exact sg _ _ yq dN w6
    · rw [Zf yi]; exact hdd
    · rw [Zf hmp]; exact hmm
    · intro x hx
      have e1:=xc.at' x hx;exact sg _ _ (hfp x hx) (λz=>by rw [z,wz] at e1; cases e1) e1
def Zy (ns:List Int) (x:Int):Str:=match pl ns ns.length x with
 | [a,b]=>if a / 3=b / 3 then "locked" else "free"
 | _=>"rim"
def Zg4:Sp:=λvs H Q _=>∃ p:Int,vs=[.int p]/\Q (.int (after p)) H
def Zfc:Sp:=λvs H Q _=>∃ p:Int,vs=[.int p]/\Q (.int (Xs p)) H
def Zcc:Sp:=λvs H Q _=>∃ p:Int,vs=[.int p]/\Q (.int (p / 3)) H
def Zae (C:Addr):Sp:=λvs H Q _=>∃ (p:Addr) (M:List (Option Nat)) (ns:List Int),vs=[.ref p]/\Zp C H p M ns /\
 ∀ (l:Addr) (ts:List Addr),H l=none->ns.length=3 * ts.length->(∀ (k:Nat) (t:Addr),ts[k]?=some t->H t=some (.tup (row3 ns k)))->Q (.ref l) (upd H l (.lst (ts.map V.ref)))
def Zad (C:Addr):Sp:=λvs H Q _=>∃ (p:Addr) (M:List (Option Nat)) (ns:List Int) (n:Nat),vs=[.ref p]/\Zp C H p M ns/\ns.length=3 * n/\Q (.int n) H
def Fl (C:Addr):Sp:=λvs H Q _=>∃ (p:Addr) (M:List (Option Nat)) (ns:List Int),vs=[.ref p]/\Zp C H p M ns/\ns.length < 64 /\
 ∀ (l:Addr) (out:List Int),H l=none->out.Perm (keys ns ns.length)->out.Pairwise (·<=·)->Q (.ref l) (upd H l (.lst (out.map V.int)))
def Ua (C:Addr):Sp:=λvs H Q _=>∃ (p:Addr) (M:List (Option Nat)) (ns:List Int) (x:Int),vs=[.ref p,.int x]/\Zp C H p M ns/\Q (.bl (decide (0<=x/\x < ns.length))) H
def Q9 (C EP:Addr):Sp:=λvs H Q E=>∃ (p:Addr) (M:List (Option Nat)) (ns:List Int) (x:Int),vs=[.ref p,.int x]/\Zp C H p M ns/\(0<=x/\x < ns.length->Q .non H)/\(¬ (0<=x/\x < ns.length)->E (.ref EP) none H)
def Zaf (C EP:Addr):Sp:=λvs H Q E=>∃ (p:Addr) (M:List (Option Nat)) (ns:List Int) (x:Int),vs=[.ref p,.int x]/\Zp C H p M ns/\M.length=ns.length/\(∀ (i:Nat) (y:Option Nat),x=i->M[i]?=some y->Q (mV y) H)/\(¬ (0<=x/\x < ns.length)->E (.ref EP) none H)
def K0 (C ES:Addr):Sp:=λvs H Q E=>∃ (p:Addr) (M:List (Option Nat)) (ns:List Int) (x:Int),vs=[.ref p,.int x]/\Zp C H p M ns/\(x∈keys ns ns.length->∀ l,H l=none->Q (.ref l) (upd H l (.lst ((pl ns ns.length x).map nV))))/\(x ∉ keys ns ns.length->E (.ref ES) none H)
def Oq (C ES:Addr):Sp:=λvs H Q E=>∃ (p:Addr) (M:List (Option Nat)) (ns:List Int) (x:Int),vs=[.ref p,.int x]/\Zp C H p M ns/\TD M ns/\(x∈keys ns ns.length->∀ H',Same H H'->Q (.str (Zy ns x)) H')/\(x ∉ keys ns ns.length->E (.ref ES) none H)
def Zg8:FnScope ["place"] ["place"] (Ze Zc2):=Am
def Zbn (T:Txt w K mg t):FnOk P w K mg base (CXr P w) 1 t.hZ t.ig ["place"] Zg4:=by
 refine T.gx.F.aR Zg8 (λ_ _ _ _ H vs Q E hr h=>?_)
 ·obtain ⟨p,rfl,k⟩:=h
  refine ⟨_,(Zh (Zr (Oc (Zm Z4 (Yp X5 (pv 0) Zd) Zd (Zl _)) (Yp Zf0 (pv 0) Zd) (Yp Kf (pv 0) Zd)))),?_⟩;refine ⟨_,Z,_,_,Z,Z,(by show (0:Int) < 3; decide),rfl,_,rfl,?_⟩;refine ite2 (λh=>?_) (λh=>?_)
  ·have h:p % 3=2:=by simpa using h
   refine ⟨_,Z,_,_,Z,Z,?_⟩;have e:after p=p - 2:=if_pos h;rw [e] at k; exact k
  ·have h:¬ p % 3=2:=by simpa using h
   refine ⟨_,Z,_,_,Z,Z,?_⟩;have e:after p=p + 1:=if_neg h;rw [e] at k; exact k
def Zfj:FnScope ["place"] ["place"] (Ze Za0):=Am
def G4 (T:Txt w K mg t):FnOk P w K mg base (CXr P w) 1 t.gE t.gL ["place"] Zfc:=by
 refine T.ft.F.aR Zfj (λ_ _ _ _ H vs Q E hr h=>?_)
 ·obtain ⟨p,rfl,k⟩:=h
  refine ⟨_,(Zh (Zr (Oc (Zm Z4 (Yp X5 (pv 0) Zd) Zd (Zl _)) (Yp Kf (pv 0) Zd) (Yp Zf0 (pv 0) Zd)))),?_⟩;refine ⟨_,Z,_,_,Z,Z,(by show (0:Int) < 3; decide),rfl,_,rfl,?_⟩;refine ite2 (λh=>?_) (λh=>?_)
  ·have h:p % 3=0:=by simpa using h
   refine ⟨_,Z,_,_,Z,Z,?_⟩;have e:Xs p=p + 2:=if_pos h;rw [e] at k; exact k
  ·have h:¬ p % 3=0:=by simpa using h
   refine ⟨_,Z,_,_,Z,Z,?_⟩;have e:Xs p=p - 1:=if_neg h;rw [e] at k; exact k
def Zci:FnScope ["place"] ["place"] (Ze O4):=Am
def Ww (T:Txt w K mg t):FnOk P w K mg base (CXr P w) 1 t.eG t.eW ["place"] Zcc:=by
 refine T.bd.F.aR Zci (λ_ _ _ _ H vs Q E hr h=>?_)
 ·obtain ⟨p,rfl,k⟩:=h
  refine ⟨_,(Zh (Zr (Yp Zi1 (pv 0) Zd))),?_⟩;exact ⟨_,Z,_,_,Z,Z,⟨by decide,by decide⟩,k⟩
def Zao:FnScope ["self"] ["self"] (Ze Ur):=Am
def Jr (T:Txt w K mg t):FnOk P w K mg base (CXr P w) 1 t.dA t.dQ ["self"] (Zae t.aa):=by
 refine T.ay.F.aR Zao (λ_ _ _ _ H vs Q E hr h=>?_)
 ·obtain ⟨p,M,ns,rfl,⟨dx,cl,na,sp,mt,o,f,b⟩,k⟩:=h
  refine ⟨_,(Zh (Zr (Wf V0 (by rfl) T.iY PySem.Pv.boot_list (Za (Zz (pv 0) Z) Zb)))),?_⟩;obtain ⟨ts,h1,h2,h3⟩:=b.rows;exact ⟨_,Z,p,_,dx,_,_,Z,b.ins,T.ac,T.aK,Fb ..,cl,_,Z,.inl (SqL.of h1),λl hl=>k l ts hl h2 h3⟩
def Zan:FnScope ["self"] ["self"] (Ze Uq):=Am
def Vs (T:Txt w K mg t):FnOk P w K mg base (CXr P w) 1 t.dB t.dR ["self"] (Zad t.aa):=by
 refine T.aO.F.aR Zan (λ_ _ _ _ H vs Q E hr h=>?_)
 ·obtain ⟨p,M,ns,n,rfl,⟨dx,cl,na,sp,mt,o,f,b⟩,hn,k⟩:=h
  refine ⟨_,(Zh (Zr (Zs Yl (by rfl) T.bP PySem.boot_len (Za (Zz (pv 0) Z) Zb)))),?_⟩;obtain ⟨ts,h1,h2,h3⟩:=b.rows;refine ⟨_,Z,p,_,dx,_,_,Z,b.ins,T.ac,T.aK,Fb ..,cl,_,Z,.inl (SqL.of h1),?_⟩;have:(ts.map V.ref).length=n:=by rw [Ab]; lia
  rw [this]; exact k
def Fr:FnScope ["self"] ["self"] (Ze Vj):=Am
def W2 (T:Txt w K mg t):FnOk P w K mg base (CXr P w) 1 t.cP t.cX ["self"] (Fl t.aa):=by
 refine T.aw.F.aR Fr (λ_ _ _ _ H vs Q E hr h=>?_)
 ·obtain ⟨p,M,ns,rfl,⟨dx,cl,na,sp,mt,o,f,b⟩,lc,k⟩:=h
  refine ⟨_,(Zh (Zr (Zs (X1 Z) (by rfl) T.b5 PyProof.Rows.boot_sorted (Za (Zz (pv 0) Z) Zb)))),?_⟩;refine ⟨_,rfl,p,_,dx,_,_,rfl,b.ins,T.ac,T.aD,Oi ..,sp,_,keys ns ns.length,rfl,.inr ⟨o,b.spots⟩,?_,by have:=Ju ns ns.length; lia,k⟩;unfold spk; rw [List.map_map]; rfl
def Ub:FnScope ["self","place"] ["self","place"] (Ze Jn):=Am
def W6 (T:Txt w K mg t):FnOk P w K mg base (CXr P w) 1 t.bq t.bv ["self","place"] (Ua t.aa):=by
 refine T.ap.F.aR Ub (λ_ _ _ _ H vs Q E hr h=>?_)
 ·obtain ⟨p,M,ns,x,rfl,⟨dx,cl,na,sp,mt,o,f,b⟩,k⟩:=h
  refine ⟨_,(Zh (Zr (Zbf Zea Qq Zd (pv 1) (Zs Yl (by rfl) T.bP PySem.boot_len (Za (Zz (pv 0) Z) Zb))))),?_⟩;refine ⟨_,Z,_,_,Z,Z,_,Z,?_⟩;refine ite2 (λh=>?_) (λh=>?_)
  ·have h:0<=x:=of_decide_eq_true h
   refine ⟨_,Z,p,_,dx,_,_,Z,b.ins,T.ac,T.aC,Zhy ..,na,_,Z,.inl (SqL.of b.names),_,_,Z,Z,?_⟩;have:decide (x < (((ns.map V.int).length:Nat):Int))=decide (0<=x/\x < (ns.length:Int)):=by rw [Ab]; simp [h]
   show Q (V.bl (decide (x < (((ns.map V.int).length:Nat):Int)))) H;rw [this]; exact k
  ·have h:¬ 0<=x:=λz=>h (decide_eq_true z)
   have:decide (0<=x/\x < (ns.length:Int))=false:=decide_eq_false λz=>h z.1;rw [this] at k; exact k
def Vf:FnScope ["self","place"] ["self","place"] (Ze W5):=Am
def Vt (T:Txt w K mg t):FnOk P w K mg base (CXr P w) 2 t.bi t.bn ["self","place"] (Q9 t.aa t.aW):=by
 refine T.aF.F.aX Vf (λ_ _ _ _ H vs Q E hr h=>?_)
 ·obtain ⟨p,M,ns,x,rfl,ta,k1,k2⟩:=h
  obtain ⟨dx,cl,na,sp,mt,o,f,b⟩:=id ta;refine ⟨_,(Zg (Zt (X4 (Xz (X2 (pv 0) T.ac T.ap.m (W6 T) (hr.mono (by decide)) T.ap.b .nil Yg (Za (pv 1) Zb)))) (Zg (Z1 T.iH FBV Z T.cL Z (Za Zq Zb))) Z6)),?_⟩;refine ⟨_,Z,p,dx,_,Z,b.ins,Ye _ _ _ _,_,Z,p,M,ns,x,Z,ta,_,Z,?_⟩;by_cases c:0<=x/\x < (ns.length:Int)
  ·rw [decide_eq_true c]
   exact iteF (k1 c)
  ·rw [decide_eq_false c]
   exact iteT ⟨by decide,k2 c⟩
def Zap:FnScope ["self","place"] ["self","place"] (Ze Us):=Am
def Js (T:Txt w K mg t):FnOk P w K mg base (CXr P w) 3 t.dC t.dU ["self","place"] (Zaf t.aa t.aW):=by
 refine T.az.F.aX Zap (λ_ _ _ _ H vs Q E hr h=>?_)
 ·obtain ⟨p,M,ns,x,rfl,ta,jz,k1,k2⟩:=h
  obtain ⟨dx,cl,na,sp,mt,o,f,b⟩:=id ta;refine ⟨_,(Zi (Zo (Xa (pv 0) T.ac T.aF.m (Vt T) (hr.mono (by decide)) T.aF.b .nil (Za (pv 1) Zb)))
   (Zg (Zw (Zr (X3 Y9 (Zz (pv 0) rfl) (pv 1) (λ_ _=>rfl)))))),?_⟩
  refine ⟨_,Z,p,dx,_,Z,b.ins,Ye _ _ _ _,_,Z,p,M,ns,x,Z,ta,λc=>?_,k2⟩;have hi:x.toNat < M.length:=by lia
  obtain ⟨y,hy⟩:∃ y,M[x.toNat]?=some y:=⟨_,Ac hi⟩;have ex:x=(x.toNat:Int):=by lia
  refine ⟨_,Z,p,_,dx,_,_,Z,b.ins,T.ac,T.db,Zhz ..,_,Z,mt,_,_,_,Z,Z,SqL.of b.mates,(by rw [ex]; exact Zf7 hy),k1 _ _ ex hy⟩
def K6:FnScope ["self","seam"] ["self","seam"] (Ze Q3):=Am
def Wr (T:Txt w K mg t):FnOk P w K mg base (CXr P w) 1 t.cn t.cw ["self","seam"] (K0 t.aa t.aM):=by
 refine T.ao.F.aX K6 (λ_ _ _ _ H vs Q E hr h=>?_)
 ·obtain ⟨p,M,ns,x,rfl,ta,k1,k2⟩:=h
  obtain ⟨dx,cl,na,sp,mt,o,f,b⟩:=id ta;have hu:=Xl hr;refine ⟨_,(Zi (Zt (Qe (Vq hu (pv 1) (Zz (pv 0) Z)) (by with_unfolding_all rfl)) (Zg (Z1 T.i3 FBV Z T.dv Z (Za Zq Zb))) Z6)
   (Zg (Zw (Zr (Wf V0 (by rfl) T.iY PySem.Pv.boot_list (Za (Jj hu (Zz (pv 0) rfl) (pv 1) (λ_ _=>rfl)) Zb)))))),?_⟩
  have hg:DGet H sp (.int x) (if x∈keys ns ns.length then some (V.ref (f x)) else none):=.inl ⟨_,Sum.inl x,.inr ⟨o,b.spots⟩,rfl,by unfold spk; rw [Wn]⟩;refine ⟨_,Z,_,Z,p,_,dx,_,_,Z,b.ins,T.ac,T.aD,Oi ..,sp,_,Z,hg,_,Z,?_⟩;by_cases c:x∈keys ns ns.length
  ·rw [if_pos c] at hg ⊢
   refine iteF ?_;exact ⟨_,Z,p,_,dx,_,_,Z,b.ins,T.ac,T.aD,Oi ..,_,Z,sp,_,Z,hg,f x,_,Z,.inl (SqL.of (b.at' x c)),k1 c⟩
  ·rw [if_neg c] at hg ⊢
   exact iteT ⟨by decide,k2 c⟩
def Jy:FnScope ["self","seam","spots"] ["self","seam"] (Ze Qd):=Am
def Xw (T:Txt w K mg t):FnOk P w K mg base (CXr P w) 2 t.bQ t.bU ["self","seam"] (Oq t.aa t.aM):=by
 refine T.ah.F.aX Jy (λ_ _ _ _ H vs Q E hr h=>?_)
 ·obtain ⟨p,M,ns,x,rfl,ta,td,k1,k2⟩:=h
  obtain ⟨dx,cl,na,sp,mt,o,f,b⟩:=id ta;refine ⟨_,(Zi (Ji (i:=2) Jy.nd Z (Or.inl Z) (Xa (pv 0) T.ac T.ao.m (Wr T) (hr.mono (by decide)) T.ao.b .nil (Za (pv 1) Zb)))
   (Zi (Zw (Xd (Zm Z4 (Zs Yl (by rfl) T.bP PySem.boot_len (Za (pv 2) Zb)) Zd (Zl _)) (Zh (Zr Zq)) Yq))
   (Zi (Zw (Xd (Zm Z4 (pcT (Ww T) hr T.bd (Za (X3 Y9 (pv 2) Zd (λ_ _=>rfl)) Zb)) (pcT (Ww T) hr T.bd (Za (X3 Y9 (pv 2) Zd (λ_ _=>rfl)) Zb)) (Zl _)) (Zh (Zr Zq)) Yq))
   (Zg (Zw (Zr Zq)))))),?_⟩
  refine ⟨_,Z,p,dx,_,Z,b.ins,Ye _ _ _ _,_,Z,p,M,ns,x,Z,ta,λc l hl=>?_,k2⟩;have qy:=k1 c _ (Same.new (o:=.lst ((pl ns ns.length x).map nV)) hl);refine ⟨_,Z,l,_,Z,.inl (SqL.of Zc),Z,_,Z,?_⟩
  rcases Oa td c with ⟨a,e,_⟩ | ⟨a,b',ow,e,_⟩
  ·rw [e] at qy ⊢
   refine iteT ?_;have:Zy ns x="rim":=by unfold Zy; rw [e]
   rw [this] at qy;exact qy
  ·rw [e] at qy ⊢
   refine iteF ?_;refine ⟨_,Z,l,_,_,_,Z,Z,SqL.of Zc,Z,_,Z,_,Z,l,_,_,_,Z,Z,SqL.of Zc,Z,_,Z,Z,_,Z,?_⟩;by_cases q:a / 3=b' / 3
   ·have:Zy ns x="locked":=by unfold Zy; rw [e]; exact if_pos q
    rw [this] at qy;rw [decide_eq_true (by congr 1; lia)];exact iteT qy
   ·have:Zy ns x="free":=by unfold Zy; rw [e]; exact if_neg q
    rw [this] at qy;rw [decide_eq_false (λz=>q (by injection z; lia))];exact iteF qy
def F8 (C ES ER EL:Addr):Sp:=λvs H Q E=>∃ (p:Addr) (M:List (Option Nat)) (ns:List Int) (x:Int),vs=[.ref p,.int x]/\Zp C H p M ns/\TD M ns /\
 (x∈keys ns ns.length->∀ H',Same H H'->(Zy ns x="rim"->E (.ref ER) none H')/\(Zy ns x="locked"->E (.ref EL) none H')/\(Zy ns x="free"->Q .non H'))/\(x ∉ keys ns ns.length->E (.ref ES) none H)
def sqr (a b:Nat):List V:=[.int (after a),.int (Xs a),.int (after b),.int (Xs b)]
def Ze9 (C ES ER EL:Addr):Sp:=λvs H Q E=>∃ (p:Addr) (M:List (Option Nat)) (ns:List Int) (x:Int),vs=[.ref p,.int x]/\Zp C H p M ns/\TD M ns /\
 (x∈keys ns ns.length->∀ H',Same H H'->(Zy ns x="rim"->E (.ref ER) none H')/\(Zy ns x="locked"->E (.ref EL) none H')/\(∀ a b l,pl ns ns.length x=[a,b]->a < b->M[a]?=some (some b)->a / 3≠b / 3->H l=none->H' l=some (.tup (sqr a b))->Q (.ref l) H'))/\(x ∉ keys ns ns.length->E (.ref ES) none H)
def Wh {M:List (Option Nat)} {ns:List Int} (td:TD M ns) (hx:x∈keys ns ns.length) :
  (Zy ns x="rim"/\∃ a,pl ns ns.length x=[a]/\M[a]?=some none)\/(Zy ns x="locked"/\∃ a b,a < b/\pl ns ns.length x=[a,b]/\M[a]?=some (some b)/\a / 3=b / 3)\/(Zy ns x="free"/\∃ a b,a < b/\pl ns ns.length x=[a,b]/\M[a]?=some (some b)/\a / 3≠b / 3):=by
 rcases Oa td hx with ⟨a,e,_,ma⟩ | ⟨a,b,ow,e,_,_,ma,_⟩
 ·exact .inl ⟨by unfold Zy; rw [e],a,e,ma⟩
 ·by_cases c:a / 3=b / 3
  ·exact .inr (.inl ⟨by unfold Zy; rw [e]; exact if_pos c,a,b,ow,e,ma,c⟩)
  ·exact .inr (.inr ⟨by unfold Zy; rw [e]; exact if_neg c,a,b,ow,e,ma,c⟩)
def t_rf:¬ (("rim":Str))="free":=by decide
def t_lf:¬ (("locked":Str))="free":=by decide
def t_lr:¬ (("locked":Str))="rim":=by decide
def t_fr:¬ (("free":Str))="rim":=by decide
def t_fl:¬ (("free":Str))="locked":=by decide
def Q8 (h:¬ x=y):decide (V.str x=V.str y)=false:=decide_eq_false λz=>h (by injection z)
def Ze4 {x:Str}:decide (V.str x=V.str x)=true:=decide_eq_true rfl
def Ve:FnScope ["tent","seam","sort"] ["tent","seam"] (Ze Ul):=Am
def Vr (T:Txt w K mg t):FnOk P w K mg base (CXr P w) 3 t.dD t.dW ["tent","seam"] (F8 t.aa t.aM t.fU t.bt):=by
 refine T.bW.F.aX Ve (λ_ _ _ _ H vs Q E hr h=>?_)
 ·obtain ⟨p,M,ns,x,rfl,ta,td,k1,k2⟩:=h
  obtain ⟨dx,cl,na,sp,mt,o,f,b⟩:=id ta;refine ⟨_,(Zi (Ji (i:=2) Ve.nd Z (Or.inl Z) (Xa (pv 0) T.ac T.ah.m (Xw T) (hr.mono (by decide)) T.ah.b .nil (Za (pv 1) Zb)))
   (Zi (Zt (Zm Z4 (pv 2) Zq (Zl _)) (Zg (Z1 T.jj FBV rfl T.gA rfl (Za Zq Zb))) Z6)
   (Zg (Zt (Zm Z4 (pv 2) Zq (Zl _)) (Zg (Z1 T.i4 FBV rfl T.dw rfl (Za Zq Zb))) Z6)))),?_⟩
  refine ⟨_,Z,p,dx,_,Z,b.ins,Ye _ _ _ _,_,Z,p,M,ns,x,Z,ta,td,λc H' sm=>?_,k2⟩;obtain ⟨j1,j2,j3⟩:=k1 c H' sm;refine ⟨_,Z,Z,_,Z,?_⟩
  rcases Wh td c with ⟨e,_⟩ | ⟨e,_⟩ | ⟨e,_⟩
  ·rw [e,Ze4]
   exact iteT ⟨by decide,j1 e⟩
  ·rw [e,Q8 t_lr]
   refine iteF ⟨_,Z,Z,_,Z,?_⟩;rw [Ze4];exact iteT ⟨by decide,j2 e⟩
  ·rw [e,Q8 t_fr]
   refine iteF ⟨_,Z,Z,_,Z,?_⟩;rw [Q8 t_fl];exact iteF (j3 e)
def Vd:FnScope ["tent","seam","lesser","greater"] ["tent","seam"] (Ze Zav):=Am
def G3 (T:Txt w K mg t):FnOk P w K mg base (CXr P w) 4 t.gF t.gM ["tent","seam"] (Ze9 t.aa t.aM t.fU t.bt):=by
 refine T.bf.F.aX Vd (λ_ _ _ _ H vs Q E hr h=>?_)
 ·obtain ⟨p,M,ns,x,rfl,ta,td,k1,k2⟩:=h
  refine ⟨_,(Zi (Zo (pxT (Vr T) hr T.bW (Za (pv 0) (Za (pv 1) Zb))))
   (Zi (Zw (Za9 (X2 (pv 0) T.ac T.ao.m (Wr T) (hr.mono (by decide)) T.ao.b .nil Yg (Za (pv 1) Zb)) (Zj5 rfl (Xi (Zx (i:=2) Vd.nd rfl (Or.inl rfl)) (Xi (Zx (i:=3) Vd.nd rfl (Or.inl rfl)) Qg)))))
   (Zg (Zw (Zr (Xr (Za (pcT (Zbn T) hr T.gx (Za (pv 2) Zb)) (Za (pcT (G4 T) hr T.ft (Za (pv 2) Zb)) (Za (pcT (Zbn T) hr T.gx (Za (pv 3) Zb)) (Za (pcT (G4 T) hr T.ft (Za (pv 3) Zb)) Zb)))))))))),?_⟩;refine ⟨_,Z,_,Z,p,M,ns,x,Z,ta,td,λc H' sm=>⟨(k1 c H' sm).1,(k1 c H' sm).2.1,λe=>?_⟩,k2⟩;obtain ⟨a,b,ow,ep,em,ne⟩:∃ a b,a < b/\pl ns ns.length x=[a,b]/\M[a]?=some (some b)/\a / 3≠b / 3:=by
   rcases Wh td c with ⟨e',_⟩ | ⟨e',_⟩ | ⟨e',q⟩
   ·exact absurd (e'.symm.trans e) t_rf
   ·exact absurd (e'.symm.trans e) t_lf
   ·exact q
  have ta':=ta.same sm;obtain ⟨dx,cl,na,sp,mt,o,f,B⟩:=id ta';refine ⟨_,Z,p,dx,_,Z,B.ins,Ye _ _ _ _,_,Z,p,M,ns,x,Z,ta',λ_ l hl=>?_,λz=>absurd c z⟩;rw [ep];refine ⟨l,_,Z,SqL.of Zc,Z,_,_,Z,_,_,Z,Z,?_⟩;refine ⟨_,Z,_,Z,?_⟩;refine ⟨_,Z,_,Z,?_⟩;refine ⟨_,Z,_,Z,?_⟩;refine ⟨_,Z,_,Z,?_⟩;refine ⟨(by show 4<=sizeLine; decide),λq hq=>?_⟩;obtain ⟨hql,k8⟩:=Xx hq;exact (k1 c _ (Same.add (Same.add sm (sm.free hl)) (sm.free k8))).2.2 a b q ep ow em ne (sm.free k8) Zc
def sp_law (K:W.Frag):Sp:=λvs H Q _=>∃ (a:Addr) (ns:List Int),vs=[.ref a]/\SqL K H a (ns.map V.int)/\ns.length<=63/\∀ H',Q (.bl true) H'
def sp_law_start {ns:List Int} (hl:ns.length<=63) (hS:SqL K H a (ns.map V.int)):sp_law K [.ref a] H (λv _=>v=.bl true) λ_ _ _=>False:=⟨a,ns,rfl,hS,hl,λ_=>rfl⟩
def Zfd {a b:List Int} (h1:a.Perm c) (h2:b.Perm c) (s1:a.Pairwise (·<=·)) (s2:b.Pairwise (·<=·)):a=b :=
 (h1.trans h2.symm).eq_of_pairwise (λx y _ _ h1 h2=>Int.le_antisymm h1 h2) s1 s2
def Zho {ws:List Int}:(((ws.map V.int).length:Nat):Int)=ws.length:=by rw [Ab]
def V2 (ws:List Int) (by':Int):List Int:=rot ws (by' % ws.length).toNat
def Ze7:Sp:=λvs H Q _=>∃ (a:Addr) (ws:List Int) (b:Int),vs=[.ref a,.int b]/\H a=some (.lst (ws.map V.int))/\ws.length<=100000/\∀ (l:Addr) (H':Hp),Same H H'->H l=none->H' l=some (.lst ((V2 ws b).map V.int))->Q (.ref l) H'
def Zac (C:Addr):Sp:=λvs H Q _=>∃ (p:Addr) (M:List (Option Nat)) (ns:List Int) (x:Int),vs=[.ref p,.int x]/\Zp C H p M ns/\M.length=ns.length/\Q (.bl (X0 M x)) H
def Zdx (C:Addr):Sp:=λvs H Q _=>∃ (p:Addr) (M:List (Option Nat)) (ns:List Int) (a x:Int),vs=[.ref p,.int a,.int x]/\Zp C H p M ns/\M.length=ns.length/\X0 M a=true/\Q (.bl (Qk M a x)) H
def Zgz (C:Addr):Sp:=λvs H Q _=>∃ (p a:Addr) (M:List (Option Nat)) (ns ws:List Int),vs=[.ref p,.ref a]/\Zp C H p M ns/\M.length=ns.length/\H a=some (.lst (ws.map V.int))/\ws.length<=100000/\∀ H',Same H H'->Q (.bl (Wz M ws)) H'
def Kx (C EN:Addr):Sp:=λvs H Q E=>∃ (p a:Addr) (M:List (Option Nat)) (ns ws:List Int),vs=[.ref p,.ref a]/\Zp C H p M ns/\M.length=ns.length/\H a=some (.lst (ws.map V.int))/\ws.length<=100000/\∀ H',Same H H'->(Wz M ws=true->Q .non H')/\(Wz M ws=false->E (.ref EN) none H')
def Zd0 {n:Nat} (h:n<=100000):n<=sizeLine:=by rw [sizeLine_eq]; lia
def Zh0 {ws:List Int} (h:s<=ws.length):cutV (ws.map V.int) (some (s:Int)) none=(ws.drop s).map V.int:=by
 unfold cutV;rw [HT.sIx_nat,HT.sIx_none,Ab,Nat.min_eq_left h,List.map_drop,List.take_of_length_le];rw [List.length_drop,Ab];exact An _
def Zkp {ws:List Int} (h:s<=ws.length):cutV (ws.map V.int) none (some (s:Int))=(ws.take s).map V.int:=by
 unfold cutV;rw [HT.sIx_none,HT.sIx_nat,Ab,Nat.min_eq_left h,List.drop_zero,Nat.sub_zero,List.map_take]
def Gq:FnScope ["word","by","start"] ["word","by"] (Ze Zas):=Am
def Zf2 (T:Txt w K mg t):FnOk P w K mg base (CXr P w) 1 t.gG t.gN ["word","by"] Ze7:=by
 refine T.gS.F.aR Gq (λ_ _ _ _ H vs Q E hr h=>?_)
 ·obtain ⟨a,ws,b,rfl,ha,hl,k⟩:=h
  refine ⟨_,(Zn (Xd (X4 (Wp (pv 0) (λ_=>rfl))) (Zh (Zr (Yv Zb))) Yq)
   (Zn (Zk (i:=2) Gq.nd rfl (Or.inl rfl) (Yp X5 (pv 1) (Zs Yl (by rfl) T.bP PySem.boot_len (Za (pv 0) Zb))))
   (Zh (Zr (Yp Zke (Zbe Zcz (pv 0) (Zc5 (pv 2)) Zc6) (Zbe Zcz (pv 0) Zc6 (Zc5 (pv 2)))))))),?_⟩;refine Xf λnxC kg=>?_;refine ⟨_,Z,_,.inl ⟨_,SqL.of ha,Z⟩,?_⟩;by_cases km:ws=[]
  ·subst km
   exact iteT ⟨Az _,λl ww=>k l _ (Same.new ww) ww (by rw [Zc]; unfold V2 rot; simp)⟩
  ·have e:(!(ws.map V.int).isEmpty)=true:=by cases ws with | nil=>exact absurd rfl km | cons _ _=>rfl
   have hp:0 < ws.length:=by cases ws with | nil=>exact absurd rfl km | cons _ _=>simp
   rw [e];refine iteF ?_;dsimp only [Jw];refine kg _ _ ?_;have k0:=Int.emod_nonneg b (show (ws.length:Int)≠0 by lia);have k1:=Int.emod_lt_of_pos b (show (0:Int) < ws.length by lia);obtain ⟨st,kn⟩:∃ st:Nat,b % (ws.length:Int)=st:=⟨_,(Int.toNat_of_nonneg k0).symm⟩;have uc:st<=ws.length:=by lia
   have et:V2 ws b=ws.drop st ++ ws.take st:=by unfold V2 rot; rw [kn,Int.toNat_natCast]
   refine ⟨_,Z,_,Z,a,_,Z,.inl (SqL.of ha),_,_,Z,Z,(by rw [Ab]; lia),?_⟩;dsimp only [Z8];rw [Zho,kn];refine ⟨_,Z,_,Z,_,Z,a,_,Z,SqL.of ha,λl1 h1=>?_⟩;rw [Zh0 uc];have s1:Same H (upd H l1 (.lst ((ws.drop st).map V.int))):=Same.new h1;refine ⟨_,Z,_,Z,_,Z,a,_,Z,SqL.of (s1 _ _ ha),λl2 h2=>?_⟩;rw [Zkp uc];obtain ⟨qw,h2'⟩:=Xx h2;refine ⟨l1,l2,_,_,Z,Z,by rw [Zf (Ne.symm qw),Zc],Zc,?_,λl3 h3=>?_⟩
   ·rw [Ab,Ab,List.length_drop,Ai]; exact Zd0 (by lia)
   ·have s3:=Same.add (o:=.lst ((ws.take st).map V.int)) s1 h2'
    refine k l3 _ (Same.add s3 (s3.free h3)) (s3.free h3) ?_;rw [Zc,et,Aj]
def Zam:FnScope ["tent","place"] ["tent","place"] (Ze Up):=Am
def Zbm (T:Txt w K mg t):FnOk P w K mg base (CXr P w) 4 t.dE t.dX ["tent","place"] (Zac t.aa):=by
 refine T.ee.F.aR Zam (λ_ _ _ _ H vs Q E hr h=>?_)
 ·obtain ⟨p,M,ns,x,rfl,ta,nq,k⟩:=h
  obtain ⟨dx,cl,na,sp,mt,o,f,b⟩:=id ta;refine ⟨_,(Zh (Zr (Vp (X2 (pv 0) T.ac T.ap.m (W6 T) (hr.mono (by decide)) T.ap.b .nil Yg (Za (pv 1) Zb)) (Kb (Xn Zi0 (X2 (pv 0) T.ac T.az.m (Js T) (hr.mono (by decide)) T.az.b .nil Yg (Za (pv 1) Zb)) Kc (Zl _)))))),?_⟩;refine ⟨_,Z,p,dx,_,Z,b.ins,Ye _ _ _ _,_,Z,p,M,ns,x,Z,ta,_,Z,?_⟩;by_cases c:0<=x/\x < (ns.length:Int)
  ·rw [decide_eq_true c]
   refine iteT ⟨_,Z,p,dx,_,Z,b.ins,Ye _ _ _ _,_,Z,p,M,ns,x,Z,ta,nq,λi y e1 e2=>?_,λz=>absurd c z⟩;refine ⟨Z,?_⟩
   have:X0 M x=!decide (mV y=.non):=by
    unfold X0;rw [e1,Int.toNat_natCast,Ad,e2,decide_eq_true (show (0:Int)<=i/\(i:Int) < M.length by lia)];cases y <;> rfl
   rw [this] at k;exact k
  ·rw [decide_eq_false c]
   have:X0 M x=false:=by unfold X0; rw [decide_eq_false (by lia)]; rfl
   rw [this] at k;exact iteF k
def Ou:FnScope ["tent","ahead","place","entry"] ["tent","ahead","place"] (Ze Gx):=Am
def Zeg (T:Txt w K mg t):FnOk P w K mg base (CXr P w) 4 t.fK t.fV ["tent","ahead","place"] (Zdx t.aa):=by
 refine T.gc.F.aR Ou (λ_ _ _ _ H vs Q E hr h=>?_)
 ·obtain ⟨p,M,ns,a,x,rfl,ta,nq,hc,k⟩:=h
  obtain ⟨dx,cl,na,sp,mt,o,f,b⟩:=id ta;refine ⟨_,(Zn (Zk (i:=3) Ou.nd Z (Or.inl Z) (X2 (pv 0) T.ac T.az.m (Js T) (hr.mono (by decide)) T.az.b .nil Yg (Za (pv 1) Zb)))
   (Zh (Zr (Vp (Xn Z4 (pcT (Ww T) hr T.bd (Za (pv 2) Zb)) (pcT (Ww T) hr T.bd (Za (pv 3) Zb)) (Zl _)) (Kb (Xn F0 (pv 2) (pv 3) (Zl _))))))),?_⟩
  obtain ⟨ny,hs1⟩:=Bool.and_eq_true_iff.mp hc;have ny:=of_decide_eq_true ny;obtain ⟨m,hm⟩:=Option.isSome_iff_exists.mp hs1;have hal:a.toNat < M.length:=by lia
  have ha:M[a.toNat]?=some (some m):=by rw [Ad,Ac hal] at hm; rw [Ac hal]; exact congrArg some hm
  have ef:Qk M a x=(decide (x / 3=(m:Int) / 3) && !decide (x=(m:Int))):=by unfold Qk; rw [hm]
  rw [ef] at k;refine ⟨_,Z,p,dx,_,Z,b.ins,Ye _ _ _ _,_,Z,p,M,ns,a,Z,ta,nq,λi y e1 e2=>?_,λz=>absurd (show 0<=a/\a < (ns.length:Int) by lia) z⟩;have:i=a.toNat:=by lia
  subst this;rw [ha] at e2;cases e2;refine ⟨_,Z,_,Z,_,Z,_,Z,Z,_,Z,?_⟩;have dI:∀ u v:Int,decide (V.int u=V.int v)=decide (u=v):=λu v=>by
   by_cases z:u=v
   ·subst z; simp
   ·rw [decide_eq_false z,decide_eq_false (λy=>z (by injection y))]
  rw [dI];by_cases z:x / 3=(m:Int) / 3
  ·rw [decide_eq_true z] at k ⊢
   refine iteT ⟨_,Z,_,Z,Z,?_⟩;show Q (.bl (!decide (V.int x=V.int (m:Int)))) H;rw [dI];exact k
  ·rw [decide_eq_false z] at k ⊢
   exact iteF k
def Zg7:FnScope ["tent","word"] ["tent","word"] (Ze Zc1):=Am
def Zhj (T:Txt w K mg t):FnOk P w K mg base (CXr P w) 5 t.ic t.ii ["tent","word"] (Zgz t.aa):=by
  refine T.im.F.aR Zg7 (λ_ _ _ _ H vs Q E hr h=>?_)
  · obtain ⟨p,a,M,ns,ws,rfl,ta,nq,ha,hl,k⟩:=h
    refine ⟨_,(Zn (Xd (PW.pt (Fz (X4 (Wp (pv 1) (λ_=>rfl))) (O8 (X4 (Xz (Zs (Oj Z) (by rfl) T.iW PyProof.Rows.boot_all (Za (Yo (ts:=["place"]) (fv:=[("tent",0)]) ⟨rfl,by decide +kernel,by decide +kernel,Yf (by rfl),⟨⟨rfl,rfl,Or.inl rfl⟩,trivial⟩⟩ rfl (Yy (pv 1)) (λ_ _ _ _=>(Zx (i:=0) (show List.Nodup (["place","tent"]:List Str) from by decide +kernel) rfl (Or.inl rfl) (Or.inr rfl))) (λ_ _ _ _=>Yh) (λ_ _ _=>rfl) (λ_ _ _ _ _ _=>Ym (pcT (Zbm T) hr T.ee (Za (pv 1) (Za (pv 0) Zb))))) Zb))))))) (Zh (Zr Zic)) Yq)
      (Zh (Zr (Zs (Oj rfl) (by rfl) T.iW PyProof.Rows.boot_all (Za (Yo (ts:=["ahead","place"]) (fv:=[("tent",0)]) ⟨rfl,by decide +kernel,by decide +kernel,Yf (by rfl),⟨⟨rfl,rfl,Or.inl rfl⟩,trivial⟩⟩ rfl (Zj2 rfl T.jt (Za (pv 1) (Za (pcT (Zf2 T) hr T.gS (Za (pv 1) (Za Zd Zb))) Zb))) (λ_ _ _ _=>(Zc8 (n:=2) K rfl (Xi (Zx (i:=0) (show List.Nodup (["ahead","place","tent"]:List Str) from by decide +kernel) rfl (Or.inl rfl) (Or.inr rfl)) (Xi (Zx (i:=1) (show List.Nodup (["ahead","place","tent"]:List Str) from by decide +kernel) rfl (Or.inl rfl) (Or.inr rfl)) Qg)))) (λ_ _ _ _=>Yh) (λ_ _ _=>rfl) (λ_ _ _ _ _ _=>Ym (pcT (Zeg T) hr T.gc (Za (pv 2) (Za (pv 0) (Za (pv 1) Zb)))))) Zb))))),?_⟩;refine Xf λnxC kg=>?_;refine ⟨_,Z,_,.inl ⟨_,SqL.of ha,Z⟩,?_⟩;by_cases km:ws=[]
    · subst km
      exact iteT (k _ (Same.refl _))
    · have e:(!(ws.map V.int).isEmpty)=true:=by cases ws with | nil=>exact absurd rfl km | cons _ _=>rfl
      have e':(!ws.isEmpty)=true:=by cases ws with | nil=>exact absurd rfl km | cons _ _=>rfl
      have hp:0 < ws.length:=by cases ws with | nil=>exact absurd rfl km | cons _ _=>simp
      rw [e];refine iteF ?_;refine ⟨_,Z,a,Z,⟨_,SqL.of ha⟩,λD hD=>?_⟩;refine Yj (xs:=ws.map V.int) (λi σ H1=>∃ v,σ=[v,some (.ref p)]/\Same H H1/\H1 D=some (.lst (((ws.take i).map (X0 M)).map V.bl))) ⟨none,Z,Same.new hD,Zc⟩ ?_ ?_ ?_
      · rintro i σ H1 _ ⟨v,rfl,sm,h1⟩
        exact SqL.of (sm _ _ ha)
      · rintro i x σ H1 hx ⟨v,rfl,sm,h1⟩
        obtain ⟨y,hy,rfl⟩:=Yt hx;dsimp only [Z8,tYes];rw [if_pos rfl];refine ⟨_,Z,_,Z,p,M,ns,y,Z,ta.same sm,nq,_,h1,?_,_,Z,Same.add sm hD,?_⟩
        · rw [Ab,Ab,Ai,sizeLine_eq]; lia
        · rw [Zc,Aw,hy,Aj,Aj]; rfl
      rintro σ H1 ⟨v,rfl,s1,h1⟩;rw [Ab,List.take_length] at h1;refine ⟨D,_,Z,SqL.of h1,_,Z,?_⟩;by_cases hc:(ws.map (X0 M)).all id=true
      · rw [hc]
        refine iteF ?_;dsimp only [Jw];refine kg _ _ ?_;refine ⟨_,Z,_,Z,a,ws,1,Z,s1 _ _ ha,hl,λtl H2 s2 htl h2=>?_⟩;have p7:=s1.trans s2;have et:V2 ws 1=rot ws (1 % ws.length):=by
          unfold V2
          congr 1
        rw [et] at h2;have hrl:(rot ws (1 % ws.length)).length=ws.length:=Zin ws (Nat.le_of_lt (Nat.mod_lt _ hp));have hcr:∀ y∈ws,X0 M y=true:=λy hy=>List.all_eq_true.mp hc _ (List.mem_map.mpr ⟨y,hy,rfl⟩);have ep:Wz M ws=(Ja M ws (rot ws (1 % ws.length))).all id:=by unfold Wz; rw [e',hc]; rfl
        have k':=λH' s'=>k H' s';rw [ep] at k';generalize rot ws (1 % ws.length)=vs at h2 hrl k';refine ⟨a,tl,_,_,Z,SqL.of (p7 _ _ ha),SqL.of h2,λD2 lz=>?_⟩;refine Zhm (xs:=ws.map V.int) (ys:=vs.map V.int) (by rw [Ab,Ab,hrl]) (λi σ H3=>∃ v v',σ=[v,v',some (.ref p)]/\Same H2 H3/\H3 D2=some (.lst (((Ja M ws vs).take i).map V.bl))) ⟨none,none,Z,Same.new lz,Zc⟩ ?_ ?_ ?_
        · rintro i σ H3 _ ⟨v,v',rfl,s3,h3⟩
          exact ⟨SqL.of (s3 _ _ (p7 _ _ ha)),SqL.of (s3 _ _ h2)⟩
        · rintro i x y σ H3 q hx hy hq ⟨v,v',rfl,s3,h3⟩
          obtain ⟨x',md,rfl⟩:=Yt hx;obtain ⟨y',mh,rfl⟩:=Yt hy;have s4:Same H3 (upd H3 q (.tup [V.int x',V.int y'])):=Same.new hq;refine ⟨q,_,Z,SqT.of Zc,Z,_,_,Z,_,_,Z,Z,?_⟩;dsimp only [tYes];rw [if_pos rfl];refine ⟨_,Z,_,Z,_,Z,p,M,ns,x',y',Z,((ta.same p7).same s3).same s4,nq,hcr x' (Au md),_,s4 _ _ h3,?_,_,_,Z,Same.add (s3.trans s4) lz,?_⟩
          · rw [Ab,Ai]
            have:(Ja M ws vs).length<=ws.length:=by unfold Ja; rw [Ab,List.length_zip]; lia
            rw [sizeLine_eq]; lia
          · have:(Ja M ws vs)[i]?=some (Qk M x' y'):=by
              unfold Ja;rw [Ah,List.getElem?_zip_eq_some (z:=(x',y')) |>.mpr ⟨md,mh⟩];rfl
            rw [Zc,Aw,this,Aj];rfl
        rintro σ H3 ⟨v,v',rfl,s3,h3⟩;have k9:(Ja M ws vs).length=ws.length:=by unfold Ja; rw [Ab,List.length_zip]; lia
        rw [Ab,List.take_of_length_le (Nat.le_of_eq k9)] at h3;exact ⟨D2,_,Z,SqL.of h3,k' _ (p7.trans s3)⟩
      · have hc:(ws.map (X0 M)).all id=false:=by rw [Bool.eq_false_iff]; exact hc
        rw [hc];have ep:Wz M ws=false:=by unfold Wz; rw [hc]; simp
        have:=k _ s1;rw [ep] at this;exact iteT this
def K1:FnScope ["tent","word"] ["tent","word"] (Ze Qx):=Am
def Gb (T:Txt w K mg t):FnOk P w K mg base (CXr P w) 6 t.cp t.cx ["tent","word"] (Kx t.aa t.aH):=by
 refine T.cD.F.aX K1 (λ_ _ _ _ H vs Q E hr h=>?_)
 ·obtain ⟨p,a,M,ns,ws,rfl,ta,nq,ha,hl,k⟩:=h
  refine ⟨_,(Zg (Zt (X4 (Xz (pcT (Zhj T) hr T.im (Za (pv 0) (Za (pv 1) Zb))))) (Zg (Z1 T.hE FBV Z T.b6 Z (Za Zq Zb))) Z6)),?_⟩;refine ⟨_,Z,_,Z,p,a,M,ns,ws,Z,ta,nq,ha,hl,λH' s'=>⟨_,Z,?_⟩⟩;obtain ⟨k1,k2⟩:=k H' s'
  cases e:Wz M ws with
  | true=>exact iteF (k1 e)
  | false=>exact iteT ⟨by decide,k2 e⟩
def dI (ks:List Int) (f:Int->Int):List (Key × V):=ks.map λx=>((Sum.inl x:Key),V.int (f x))
def Zko (h:y∈ks):valV (dI ks f) (Sum.inl y)=some (V.int (f y)):=by unfold dI; rw [Wn,if_pos h]
theorem Gh (ns:List Int):∀ n,(keys ns n).length<=n
 | 0=>An _
 | n + 1=>by
  have ih:=Gh ns n
  cases h:ns[n]? with
  | none =>
   have:keys ns (n + 1)=keys ns n:=by
    show (match ns[n]? with | some x=>if x∈keys ns n then keys ns n else keys ns n ++ [x] | none=>keys ns n)=_;rw [h]
   rw [this]; lia
  | some x =>
   rw [Wg h];split
   ·lia
   ·rw [Ae,At]; lia
structure OkC (M:List (Option Nat)) (ns:List Int) (g:Int->Int):Prop where
 nn:∀ x∈keys ns ns.length,0<=g x
 rim:∀ (i:Nat) (x:Int),M[i]?=some none->ns[i]?=some x->g x=0
 even:∀ k,3 * k + 2 < ns.length->(g (ns.getD (3 * k) 0) + g (ns.getD (3 * k + 1) 0) + g (ns.getD (3 * k + 2) 0)) % 2=0
 tri:∀ k,3 * k + 2 < ns.length->g (ns.getD (3 * k) 0)<=g (ns.getD (3 * k + 1) 0) + g (ns.getD (3 * k + 2) 0)/\g (ns.getD (3 * k + 1) 0)<=g (ns.getD (3 * k) 0) + g (ns.getD (3 * k + 2) 0)/\g (ns.getD (3 * k + 2) 0)<=g (ns.getD (3 * k) 0) + g (ns.getD (3 * k + 1) 0)
def Zlt (H H':Hp):Prop:=∀ b u,(∀ kvs,u≠.dK kvs)->H b=some u->H' b=some u
def Zp.sameD (h:Zp C H p M ns) (s:Zlt H H'):Zp C H' p M ns:=by
 obtain ⟨dx,cl,na,sp,mt,o,f,b⟩:=h;obtain ⟨ts,r1,r2,r3⟩:=b.rows;exact ⟨dx,cl,na,sp,mt,o,f,s _ _ (λ_ z=>nomatch z) b.ins,⟨ts,s _ _ (λ_ z=>nomatch z) r1,r2,λk t e=>s _ _ (λ_ z=>nomatch z) (r3 k t e)⟩,s _ _ (λ_ z=>nomatch z) b.names,s _ _ (λ_ z=>nomatch z) b.spots,s _ _ (λ_ z=>nomatch z) b.mates,λx hx=>s _ _ (λ_ z=>nomatch z) (b.at' x hx)⟩
def Wy (H:Hp) (c:Addr) (ns:List Int) (g:Int->Int):Prop:=∃ ks:List Int,H c=some (.dK (dI ks g))/\ks.Perm (keys ns ns.length)
def Wy.same (h:Wy H c ns g) (s:Same H H'):Wy H' c ns g:=by
 obtain ⟨ks,h1,h2⟩:=h;exact ⟨ks,s _ _ h1,h2⟩
def Zju {M:List (Option Nat)} {ns:List Int} (td:TD M ns) (hx:x∈keys ns ns.length) (h:Zy ns x="rim"):∃ a:Nat,M[a]?=some none/\ns[a]?=some x:=by
 rcases Wh td hx with ⟨_,a,e,ma⟩ | ⟨e,_⟩ | ⟨e,_⟩
 ·refine ⟨a,ma,?_⟩
  have:a∈pl ns ns.length x:=by rw [e]; exact List.mem_singleton.mpr Z
  unfold pl at this;exact of_decide_eq_true (List.mem_filter.mp this).2
 ·rw [h] at e; exact absurd e (by decide)
 ·rw [h] at e; exact absurd e (by decide)
def g3 (ns:List Int) (g:Int->Int) (k:Nat):List Int:=[g (ns.getD (3 * k) 0),g (ns.getD (3 * k + 1) 0),g (ns.getD (3 * k + 2) 0)]
def Zbt {ns:List Int} (h:i < ns.length):ns.getD i 0∈keys ns ns.length:=by
 have e:ns[i]?=some (ns.getD i 0):=by rw [Ad,Ac h]; rfl
 exact Xq.mpr ⟨i,h,e⟩
def Zeq {ns:List Int} {j:Nat} (h:(row3 ns i)[j]?=some x):∃ z,(3 * i + 2 < ns.length->z∈keys ns ns.length)/\x=V.int z/\(g3 ns g i)[j]?=some (g z):=by
 match j,h with
 | 0,h=>cases h; exact ⟨_,λh=>Zbt (by lia),Z,Z⟩
 | 1,h=>cases h; exact ⟨_,λh=>Zbt (by lia),Z,Z⟩
 | 2,h=>cases h; exact ⟨_,λh=>Zbt h,Z,Z⟩
 | j + 3,h=>simp [row3] at h
def Qj {us:List Addr} (h:some (HO.lst (us.map V.ref))=some (HO.lst ((g3 ns g k).map V.int))):False:=by
 injection h with h
 injection h with h
 cases us with
 | nil=>cases h
 | cons a r=>injection h with h _; cases h
def V8 (h:H c=some (.dK (dI ks g))) (hz:z∈ks):DGet H c (.int z) (some (.int (g z))):=.inl ⟨_,Sum.inl z,.inl h,rfl,(Zko hz).symm⟩
def V1 (n:Nat):(List.replicate n false).any id=false:=by
 induction n with
 | zero=>rfl
 | succ n ih=>rw [List.replicate_succ,List.any_cons,ih]; rfl
structure OkN (M:List (Option Nat)) (ns:List Int) (g:Int->Int):Prop where
 nn:∀ x∈keys ns ns.length,0<=g x
 rim:∀ (i:Nat) (x:Int),M[i]?=some none->ns[i]?=some x->g x=0
def Zb9 (C:Addr):Sp:=λvs H Q _=>∃ (p c:Addr) (M:List (Option Nat)) (ns:List Int) (g:Int->Int),vs=[.ref p,.ref c]/\Zp C H p M ns/\TD M ns/\ns.length < 64/\Wy H c ns g/\OkN M ns g/\∀ H',Same H H'->Q .non H'
def Jx (C:Addr):Sp:=λvs H Q _=>∃ (p c:Addr) (M:List (Option Nat)) (ns:List Int) (g:Int->Int),vs=[.ref p,.ref c]/\Zp C H p M ns/\TD M ns/\ns.length < 64/\Wy H c ns g/\OkC M ns g/\∀ H',Same H H'->Q .non H'
def Xv:FnScope ["tent","counts","seam","number"] ["tent","counts"] (Ze Qc):=Am
def Wi (T:Txt w K mg t):FnOk P w K mg base (CXr P w) 3 t.a8 t.bb ["tent","counts"] (Zb9 t.aa):=by
 refine T.aq.F.aR Xv (λ_ _ _ _ H vs Q E hr h=>?_)
 ·obtain ⟨p,c,M,ns,g,rfl,ta,td,lc,⟨ks,hc,kh⟩,ok,k⟩:=h
  refine ⟨_,(Zn (Xd (Zm (Zbh hr.units) (Zs (X1 Z) (by rfl) T.b5 PyProof.Rows.boot_sorted (Za (pv 1) Zb)) (Xb (pv 0) T.ac T.aw.m (W2 T) (hr.mono (by decide)) T.aw.b .nil Yg) (Zl _)) Z2 Yq)
   (Zh (Zir (Za8 PassesOwn.never rfl (Zbc (pv 1) ⟨rfl,rfl,rfl⟩) (Zbd rfl (Xi (Zx (i:=2) Xv.nd rfl (Or.inl rfl)) (Xi (Zx (i:=3) Xv.nd rfl (Or.inl rfl)) Qg))) (Zn (Xd (Zm Qq (pv 3) Zd (Zl _)) Z2 Yq)
   (Zh (Xd (PW.pt (Za4 (Zm Qr (pv 3) Zd (Zl _)) (K9 (Zm Z4 (X2 (pv 0) T.ac T.ah.m (Xw T) (hr.mono (by decide)) T.ah.b .nil Yg (Za (pv 2) Zb)) Zq (Zl _))))) Z2 Yq))))))),?_⟩;refine Xf λnxC kg=>?_;have qm:ks.length < 64:=by have h1:=kh.length_eq; have h2:=Gh ns ns.length; lia
  refine ⟨_,Z,c,_,ks,Z,.inl hc,(by unfold dI; rw [List.map_map]; rfl),qm,λl1 ka l7 p8 p6=>?_⟩;have s1:Same H (upd H l1 (.lst (ka.map V.int))):=Same.new l7;have mw:=ta.same s1;obtain ⟨dx,cl,na,sp,mt,o,f,B⟩:=id mw;refine ⟨_,Z,p,dx,_,Z,B.ins,Ye _ _ _ _,p,M,ns,Z,mw,lc,λl2 og mk ur l6=>?_⟩;have s2:Same (upd H l1 (.lst (ka.map V.int))) (upd (upd H l1 (.lst (ka.map V.int))) l2 (.lst (og.map V.int))):=Same.new mk;refine ⟨l1,l2,ka,og,Z,Z,SqL.of (s2 _ _ Zc),SqL.of Zc,_,Z,?_⟩;obtain rfl:=Zfd (p8.trans kh) ur p6 l6;rw [decide_eq_true rfl];refine iteF ?_;have ua:=s1.trans s2;generalize upd (upd H l1 (.lst (ka.map V.int))) l2 (.lst (ka.map V.int))=H2 at ua ⊢;clear B mw s1 s2 p8 p6 ur l6 l7 mk
  try dsimp only [Jw]
  refine kg _ _ ?_;have re:=ua _ _ hc;have t8:=ta.same ua;refine ⟨_,Z,c,_,Z,.inl ⟨re,λo=>?_⟩⟩;refine Zgh (λi σ H9=>∃ v2 v3:Option V,σ=[some (.ref p),some (.ref c),v2,v3]/\(∀ b u,b≠c->H2 b=some u->H9 b=some u)/\H9 c=some (.frz o (.dK (dI ks g)))) ⟨none,none,Z,λb u hb e=>by rw [Zf hb]; exact e,Zc⟩ ?_ ?_ ?_
  ·rintro i σ H9 _ ⟨v2,v3,rfl,_,e⟩
   exact e
  ·rintro i k0 x0 σ H9 q rc hq ⟨v2,v3,rfl,s9,h9⟩
   obtain ⟨y,hy,rfl,rfl⟩:∃ y,y∈ks/\k0=Sum.inl y/\x0=V.int (g y):=by
    unfold dI at rc;rw [Ah] at rc
    cases e:ks[i]? with
    | none=>rw [e] at rc; cases rc
    | some z=>rw [e] at rc; cases rc; exact ⟨z,Au e,Z,Z⟩
   have mh:y∈keys ns ns.length:=kh.mem_iff.mp hy;have sq:Same H9 (upd H9 q (.tup [kV (Sum.inl y),V.int (g y)])):=Same.new hq;have taq:Zp t.aa (upd H9 q (.tup [kV (Sum.inl y),V.int (g y)])) p M ns:=(t8.sameD (λb u hu e=>s9 b u (λz=>by rw [z,re] at e; cases e; exact hu _ Z) e)).same sq;refine ⟨q,_,Z,SqT.of Zc,Z,_,_,Z,_,_,Z,Z,?_⟩;refine Xf λnxC kg=>?_;refine ⟨_,Z,_,_,Z,Z,_,Z,?_⟩;rw [decide_eq_false (show ¬ g y < 0 from by have:=ok.nn y mh; lia)];refine iteF ?_
   try dsimp only [Jw]
   refine kg _ _ ?_;refine ⟨_,Z,_,_,Z,Z,_,Z,?_⟩;have nx9:∀ H',Same (upd H9 q (.tup [kV (Sum.inl y),V.int (g y)])) H'->∃ v2 v3:Option V,[some (.ref p),some (.ref c),some (V.int y),some (V.int (g y))]=[some (.ref p),some (.ref c),v2,v3]/\(∀ b u,b≠c->H2 b=some u->H' b=some u)/\H' c=some (.frz o (.dK (dI ks g))):=λH' s'=>⟨_,_,rfl,λb u hb e=>s' _ _ (sq _ _ (s9 b u hb e)),s' _ _ (sq _ _ h9)⟩;refine ite2 (λz=>?_) (λ_=>iteF (nx9 _ (Same.refl _)));have hg0:0 < g y:=of_decide_eq_true z;obtain ⟨dx,cl,na,sp,mt,o',f,B⟩:=id taq;refine ⟨_,Z,p,dx,_,Z,B.ins,Ye _ _ _ _,_,Z,p,M,ns,y,Z,taq,td,λ_ H' s'=>?_,λz=>absurd mh z⟩;refine ⟨Z,_,Z,?_⟩;by_cases e:Zy ns y="rim"
   ·obtain ⟨a,ma,na⟩:=Zju td mh e
    have:=ok.rim a y ma na;lia
   ·rw [Q8 e]
    exact iteF (nx9 H' s')
  ·rintro σ H9 ⟨v2,v3,rfl,s9,h9⟩
   refine ⟨c,o,_,h9,λo' u z=>?_,?_⟩
   ·have z:H c=some (.frz o' u):=z
    rw [hc] at z; cases z
   ·refine k _ λb u e=>?_
    by_cases hb:b=c
    ·subst hb
     rw [Zc];rw [hc] at e; exact e
    ·rw [Zf hb]
     exact s9 b u hb (ua b u e)
def Yx:FnScope ["tent","counts","triples"] ["tent","counts"] (Ze Qz):=Am
def Qi (T:Txt w K mg t):FnOk P w K mg base (CXr P w) 4 t.al t.am ["tent","counts"] (Jx t.aa):=by
  refine T.aj.F.aR Yx (λ_ _ _ _ H vs Q E hr h=>?_)
  · obtain ⟨p,c,M,ns,g,rfl,ta,td,lc,lp,ok,k⟩:=h
    have hu:=Xl hr;refine ⟨_,(Zn (Xt (pcT (Wi T) hr T.aq (Za (pv 0) (Za (pv 1) Zb))))
      (Zn (J9 (ts:=["row"]) (fv:=[("counts",1)]) (i:=2) ⟨rfl,by decide +kernel,by decide +kernel,Yf (by rfl),⟨⟨rfl,rfl,Or.inl rfl⟩,trivial⟩⟩ rfl Yx.nd rfl rfl (by rfl) (Yy (Xb (pv 0) T.ac T.ay.m (Jr T) (hr.mono (by decide)) T.ay.b .nil Yg)) (λ_ _ _ _=>(Zx (i:=0) (show List.Nodup (["row","counts"]:List Str) from by decide +kernel) rfl (Or.inl rfl) (Or.inr rfl))) (λ_ _ _ _=>Yh) (λ_ _ _=>rfl) (λ_ _ _ _ _ _=>Ym (Yo (ts:=["seam"]) (fv:=[("counts",1)]) ⟨rfl,by decide +kernel,by decide +kernel,Yf (by rfl),⟨⟨rfl,rfl,Or.inl rfl⟩,trivial⟩⟩ rfl (V4 K (pv 0)) (λ_ _ _ _=>(Zx (i:=0) (show List.Nodup (["seam","counts"]:List Str) from by decide +kernel) rfl (Or.inl rfl) (Or.inr rfl))) (λ_ _ _ _=>Yh) (λ_ _ _=>rfl) (λ_ _ _ _ _ _=>Ym (Jj hu (pv 1) (pv 0) (λ_ _=>rfl))))))
      (Zn (Xd (Xz (Zs (W0 rfl) (by rfl) T.gX PyProof.Rows.boot_any (Za (Yo (ts:=["triple"]) (fv:=[]) ⟨rfl,by decide +kernel,by decide +kernel,Yf (by rfl),trivial⟩ rfl (Yy (pv 2)) (λ_ _ _ _=>(Zx (i:=0) (show List.Nodup (["triple"]:List Str) from by decide +kernel) rfl (Or.inl rfl) (Or.inr rfl))) (λ_ _ _ _=>Yh) (λ_ _ _=>rfl) (λ_ _ _ _ _ _=>Ym (Xn Z4 (Yp X5 (Zs (Wm K rfl) (by rfl) T.gl PyProof.Rows.boot_sum (Za (pv 0) Zb)) Zd) Zd (Zl _)))) Zb))) Z2 Yq)
      (Zh (Xd (Xz (Zs (W0 rfl) (by rfl) T.gX PyProof.Rows.boot_any (Za (Yo (ts:=["triple"]) (fv:=[]) ⟨rfl,by decide +kernel,by decide +kernel,Yf (by rfl),trivial⟩ rfl (Yy (pv 2)) (λ_ _ _ _=>(Zx (i:=0) (show List.Nodup (["triple"]:List Str) from by decide +kernel) rfl (Or.inl rfl) (Or.inr rfl))) (λ_ _ _ _=>Yh) (λ_ _ _=>rfl) (λ_ _ _ _ _ _=>Ym (Xn Qr (Yp Ke Zd (Zs (Kt K rfl) (by rfl) T.iZ PyProof.Rows.boot_max (Za (pv 0) Zb))) (Zs (Wm K rfl) (by rfl) T.gl PyProof.Rows.boot_sum (Za (pv 0) Zb)) (Zl _)))) Zb))) Z2 Yq))))),?_⟩
    refine Xf λnxC kg=>?_;refine ⟨_,Z,_,Z,p,c,M,ns,g,Z,ta,td,lc,lp,⟨ok.nn,ok.rim⟩,λH1 s1=>?_⟩;refine kg _ _ ?_;have mw:=ta.same s1;have r8:=lp.same s1;obtain ⟨n,n1,n40,hn⟩:=td.n;have nq:=td.len;refine Xf λnxC kg=>?_;obtain ⟨dx,cl,na,sp,mt,o,f,B⟩:=id mw;refine ⟨_,Z,p,dx,_,Z,B.ins,Ye _ _ _ _,p,M,ns,Z,mw,λlr ts q0 ts1 qx=>?_⟩;have s2:Same H1 (upd H1 lr (.lst (ts.map V.ref))):=Same.new q0;have h2:(upd H1 lr (.lst (ts.map V.ref))) lr=some (.lst (ts.map V.ref)):=Zc;have qt:∀ (k:Nat) (t:Addr),ts[k]?=some t->(upd H1 lr (.lst (ts.map V.ref))) t=some (.tup (row3 ns k)):=λk t e=>s2 _ _ (qx k t e);generalize upd H1 lr (.lst (ts.map V.ref))=H2 at s2 h2 qt ⊢;refine ⟨lr,Z,⟨_,SqL.of h2⟩,λD hD=>?_⟩;obtain ⟨ks,re,kh⟩:=r8.same s2;clear B qx q0;have ua:=s1.trans s2;have qi:ts.length=n:=by lia
    refine Yj (xs:=ts.map V.ref) (λi σ H3=>∃ (v:Option V) (us:List Addr),σ=[v,some (.ref c)]/\Same H2 H3/\H3 D=some (.lst (us.map V.ref))/\us.length=i/\∀ (k:Nat) (u:Addr),us[k]?=some u->H3 u=some (.lst ((g3 ns g k).map V.int))) ⟨none,[],Z,Same.new hD,Zc,Z,λk u e=>by simp at e⟩ ?_ ?_ ?_
    · rintro i σ H3 _ ⟨v,us,rfl,sm,_⟩
      exact SqL.of (sm _ _ h2)
    · rintro i y σ H3 hy ⟨v,us,rfl,sm,h3,ml,mj⟩
      obtain ⟨q,hq,rfl⟩:=Yt hy;have hi:i < n:=by rw [<- qi]; exact (Aa hq).1
      dsimp only [Z8,tYes];rw [if_pos rfl];have oo:=sm _ _ (qt i q hq);refine ⟨_,Z,q,Z,⟨_,SqT.of oo⟩,λD2 lz=>?_⟩;refine Qs (xs:=row3 ns i) (λj σ H4=>∃ (v':Option V),σ=[v',some (.ref c)]/\Same H3 H4/\H4 D2=some (.lst (((g3 ns g i).take j).map V.int))) ⟨none,Z,Same.new lz,Zc⟩ ?_ ?_ ?_
      · rintro j σ H4 _ ⟨v',rfl,ko,h4⟩
        exact SqT.of (ko _ _ oo)
      · rintro j x σ H4 hx ⟨v',rfl,ko,h4⟩
        dsimp only [Z8,tYes];rw [if_pos rfl];obtain ⟨z,hz,rfl,hg⟩:=Zeq (g:=g) hx;have ux:z∈ks:=kh.mem_iff.mpr (hz (by lia));refine ⟨_,Z,_,Z,c,_,Z,V8 (ko _ _ (sm _ _ re)) ux,?_⟩;refine ⟨_,h4,?_,_,Z,Same.add ko lz,?_⟩
        · rw [Ab,Ai]
          exact Zv (by have:(g3 ns g i).length=3:=rfl; lia)
        · rw [Zc,Aw,hg]
          simp
      · rintro σ H4 ⟨v',rfl,ko,h4⟩
        have pe:H4 D2=some (.lst ((g3 ns g i).map V.int)):=h4;refine ⟨_,ko _ _ h3,(by rw [Ab]; exact Zv (by lia)),_,us ++ [D2],Z,Same.add (sm.trans ko) hD,?_,?_,?_⟩
        · rw [Zc]; simp
        · rw [Ae,At,ml]
        · intro k u z
          by_cases hk:k < us.length
          · rw [Av hk] at z
            have gg:=ko _ _ (mj k u z);rw [Zf (λe=>by rw [e,ko _ _ h3] at gg; exact Qj gg)];exact gg
          · have vb:k=us.length:=by
              have:=(Aa z).1;rw [Ae,At] at this;lia
            subst vb;have:u=D2:=by simpa using z.symm
            subst this;rw [ml,Zf (λe=>by rw [e,ko _ _ h3] at pe; exact Qj pe)];exact pe
    rintro σ H3 ⟨v,us,rfl,sm,h3,ml,mj⟩;refine kg _ _ ?_
    try dsimp only [Z8]
    have w5:∀ k,k < us.length->3 * k + 2 < ns.length:=λk hk=>by rw [ml,Ab] at hk; lia
    have hul:us.length<=1000:=by rw [ml,Ab]; lia
    clear h2 qt hD;refine Xf λnxC kg=>?_;refine ⟨_,Z,D,Z,⟨_,SqL.of h3⟩,λD1 m6=>?_⟩;refine Yj (xs:=us.map V.ref) (λi σ H4=>∃ (v:Option V),σ=[v]/\Same H3 H4/\H4 D1=some (.lst ((List.replicate i false).map V.bl))) ⟨none,Z,Same.new m6,Zc⟩ ?_ ?_ ?_
    · rintro i σ H4 _ ⟨v,rfl,s4,_⟩
      exact SqL.of (s4 _ _ h3)
    · rintro i y σ H4 hy ⟨v,rfl,s4,h4⟩
      obtain ⟨u,nh,rfl⟩:=Yt hy;have hi:i < us.length:=(Aa nh).1;dsimp only [Z8,tYes];rw [if_pos rfl];refine ⟨_,Z,u,_,Z,SqL.of (s4 _ _ (mj i u nh)),_,_,Z,Z,(by show (0:Int) < 2; decide),rfl,?_⟩;have e:(g3 ns g i).sum % 2=0:=by
        have:=ok.even i (w5 i hi)
        simp only [g3,List.sum_cons,List.sum_nil]
        lia
      refine ⟨_,h4,(by rw [Ab,List.length_replicate]; exact Zv (by lia)),_,Z,Same.add s4 m6,?_⟩;rw [Zc,List.replicate_succ',Aj];show some (HO.lst (_ ++ [V.bl (decide (V.int ((g3 ns g i).sum % 2)=V.int 1))]))=_;rw [e];rfl
    rintro σ H4 ⟨v,rfl,s4,h4⟩;refine ⟨D1,_,Z,SqL.of h4,_,Z,?_⟩;rw [V1];refine iteF ?_
    try dsimp only [Jw]
    refine kg _ _ ?_;have vh:=s4 _ _ h3;have sj:∀ (k:Nat) (u:Addr),us[k]?=some u->H4 u=some (.lst ((g3 ns g k).map V.int)):=λk u e=>s4 _ _ (mj k u e);have s14:=ua.trans (sm.trans s4);clear h3 mj h4 s4 m6;refine ⟨_,Z,D,Z,⟨_,SqL.of vh⟩,λD1 m6=>?_⟩;refine Yj (xs:=us.map V.ref) (λi σ H5=>∃ (v:Option V),σ=[v]/\Same H4 H5/\H5 D1=some (.lst ((List.replicate i false).map V.bl))) ⟨none,Z,Same.new m6,Zc⟩ ?_ ?_ ?_
    · rintro i σ H5 _ ⟨v,rfl,s5,_⟩
      exact SqL.of (s5 _ _ vh)
    · rintro i y σ H5 hy ⟨v,rfl,s5,h5⟩
      obtain ⟨u,nh,rfl⟩:=Yt hy;have hi:i < us.length:=(Aa nh).1;dsimp only [Z8,tYes];rw [if_pos rfl];have uy:=s5 _ _ (sj i u nh);refine ⟨_,Z,u,_,Z,SqL.of uy,(by show 0 < 3; decide),λm hm u8=>?_⟩;refine ⟨_,_,Z,Z,(by show CMul 2 m; exact .inl ⟨by decide,by decide⟩),_,Z,u,_,Z,SqL.of uy,_,_,Z,Z,?_⟩;have e:¬ (g3 ns g i).sum < 2 * m:=by
        obtain ⟨t1,t2,t3⟩:=ok.tri i (w5 i hi)
        simp only [g3,List.sum_cons,List.sum_nil]
        simp only [g3,List.mem_cons,List.not_mem_nil,or_false] at hm
        rcases hm with rfl | rfl | rfl <;> lia
      refine ⟨_,h5,(by rw [Ab,List.length_replicate]; exact Zv (by lia)),_,Z,Same.add s5 m6,?_⟩;rw [Zc,List.replicate_succ',Aj];show some (HO.lst (_ ++ [V.bl (decide ((g3 ns g i).sum < 2 * m))]))=_;rw [decide_eq_false e];rfl
    rintro σ H5 ⟨v,rfl,s5,h5⟩;refine ⟨D1,_,Z,SqL.of h5,_,Z,?_⟩;rw [V1];refine iteF ?_;exact k _ (s14.trans s5)
def W7 (C EN:Addr):Sp:=λvs H Q E=>∃ (p c:Addr) (M:List (Option Nat)) (ns:List Int) (kvs:List (Key × V)) (ks:List Int),vs=[.ref p,.ref c]/\Zp C H p M ns/\ns.length < 64/\H c=some (.dK kvs)/\kvs.map (·.1)=ks.map Sum.inl/\ks.length < 64/\¬ ks.Perm (keys ns ns.length)/\∀ H',Same H H'->E (.ref EN) none H'
def Od (T:Txt w K mg t):FnOk P w K mg base (CXr P w) 3 t.a8 t.bb ["tent","counts"] (W7 t.aa t.au):=by
 refine T.aq.F.aX Xv (λ_ _ _ _ H vs Q E hr h=>?_)
 ·obtain ⟨p,c,M,ns,kvs,ks,rfl,ta,lc,hc,hk,qm,np,k⟩:=h
  refine ⟨_,(Zi (Zt (Zm (Zbh hr.units) (Zs (X1 Z) (by rfl) T.b5 PyProof.Rows.boot_sorted (Za (pv 1) Zb)) (Xb (pv 0) T.ac T.aw.m (W2 T) (hr.mono (by decide)) T.aw.b .nil Yg) (Zl _)) (Zg (Z1 T.hJ FBV Z T.b8 Z (Za Zq Zb))) Z6)
   (Y4 Z2)),?_⟩;refine ⟨_,Z,c,_,ks,Z,.inl hc,hk,qm,λl1 ka l7 p8 p6=>?_⟩;have s1:Same H (upd H l1 (.lst (ka.map V.int))):=Same.new l7;have mw:=ta.same s1;obtain ⟨dx,cl,na,sp,mt,o,f,B⟩:=id mw;refine ⟨_,Z,p,dx,_,Z,B.ins,Ye _ _ _ _,p,M,ns,Z,mw,lc,λl2 og mk ur l6=>?_⟩;have s2:Same (upd H l1 (.lst (ka.map V.int))) (upd (upd H l1 (.lst (ka.map V.int))) l2 (.lst (og.map V.int))):=Same.new mk;refine ⟨l1,l2,ka,og,Z,Z,SqL.of (s2 _ _ Zc),SqL.of Zc,_,Z,?_⟩;have km:¬ ka=og:=λe=>np (by rw [<- e] at ur; exact p8.symm.trans ur);rw [decide_eq_false km];exact iteT ⟨by decide,k _ (s1.trans s2)⟩
def J5 (T:Txt w K mg t):FnOk P w K mg base (CXr P w) 4 t.al t.am ["tent","counts"] (W7 t.aa t.au):=by
 refine T.aj.F.aX Yx (λ_ _ _ _ H vs Q E hr h=>?_)
 ·obtain ⟨p,c,M,ns,kvs,ks,rfl,h⟩:=h
  refine ⟨_,(Zi (Zo (pxT (Od T) hr T.aq (Za (pv 0) (Za (pv 1) Zb))))
   (Y4 Z2)),?_⟩;exact ⟨_,Z,_,Z,p,c,M,ns,kvs,ks,Z,h⟩
def Kj (T:Txt w K mg t):FnOk P w K mg base (CXr P w) 4 t.al t.am ["tent","counts"] (λvs H Q E=>Jx t.aa vs H Q E\/W7 t.aa t.au vs H Q E):=(Qi T).or (J5 T)
def tp (v:Nat × Nat):HO:=.tup [V.int v.1,V.int v.2]
def wD (ks:List Int) (ad:Int->Addr):List (Key × V):=ks.map λx=>((Sum.inl x:Key),V.ref (ad x))
def WAt (H:Hp) (d:Addr) (ks:List Int) (g:Int->Nat × Nat):Prop:=∃ ad:Int->Addr,H d=some (.dK (wD ks ad))/\∀ x∈ks,H (ad x)=some (tp (g x))
def WAt.same {H H':Hp} {d:Addr} {ks:List Int} {g:Int->Nat × Nat} (h:WAt H d ks g) (s:Same H H'):WAt H' d ks g:=by
 obtain ⟨ad,h1,h2⟩:=h;exact ⟨ad,s _ _ h1,λx hx=>s _ _ (h2 x hx)⟩
def WAt.congr {H:Hp} {d:Addr} {ks:List Int} {g g':Int->Nat × Nat} (h:WAt H d ks g) (e:∀ x∈ks,g x=g' x):WAt H d ks g':=by
 obtain ⟨ad,h1,h2⟩:=h;exact ⟨ad,h1,λx hx=>by rw [<- e x hx]; exact h2 x hx⟩
def Zji (ks:List Int) (ad:Int->Addr):(wD ks ad).length=ks.length:=by unfold wD; rw [Ab]
def WAt.new {H:Hp} {d q:Addr} {ks:List Int} {g:Int->Nat × Nat} {ad:Int->Addr} {y:Int} {v:Nat × Nat} (h1:H d=some (.dK (wD ks ad))) (h2:∀ x∈ks,H (ad x)=some (tp (g x))) (hq:H q=some (tp v)) (hy:y ∉ ks) :
  WAt (upd H d (.dK (putK (wD ks ad) (Sum.inl y) (V.ref q)))) d (ks ++ [y]) (putG g y v):=by
 have nd:∀ r u,H r=some (tp u)->r≠d:=λr u h z=>by rw [z,h1] at h; cases h
 refine ⟨λx=>if x=y then q else ad x,?_,λx hx=>?_⟩
 ·rw [Zc]
  unfold wD;rw [Zc3 hy,Aj];congr 3
  ·apply List.map_congr_left
   intro x hx;have:x≠y:=λz=>hy (z ▸ hx);simp [this]
  ·simp
 ·unfold putG
  show upd H d _ (if x=y then q else ad x)=some (tp (if x=y then v else g x));by_cases c:x=y
  ·rw [if_pos c,if_pos c,Zf (nd _ _ hq)]; exact hq
  ·rw [if_neg c,if_neg c]
   have md:x∈ks:=by
    rcases List.mem_append.mp hx with z | z
    ·exact z
    ·exact absurd (Af z) c
   rw [Zf (nd _ _ (h2 x md))]; exact h2 x md
def Fj (C:Addr):Sp:=λvs H Q _=>∃ (p:Addr) (M:List (Option Nat)) (ns:List Int),vs=[.ref p]/\Zp C H p M ns/\TD M ns/\ns.length < 64/\∀ (l:Addr) (H':Hp) (out:List Int),Same H H'->H l=none->H' l=some (.lst (out.map V.int))->out.Pairwise (·<=·)->SwK M ns out->Q (.ref l) H'
def Ky (C:Addr):Sp:=λvs H Q _=>∃ (p:Addr) (M:List (Option Nat)) (ns:List Int),vs=[.ref p]/\Zp C H p M ns/\TD M ns/\ns.length < 64/\∀ (d:Addr) (H':Hp) (ks:List Int),Same H H'->H d=none->WAt H' d ks (λ_=>(1,1))->SwK M ns ks->Q (.ref d) H'
def U5 {M:List (Option Nat)} {ns:List Int} (td:TD M ns) {x:Int} (hx:x∈keys ns ns.length):SwN M ns x ↔ Zy ns x≠"rim":=by
 constructor
 ·rintro ⟨p,j,h1,h2⟩ e
  rcases Wh td hx with ⟨_,a,e1,ma⟩ | ⟨e',_⟩ | ⟨e',_⟩
  ·have hp:p∈pl ns ns.length x:=Y2.mpr ⟨(Aa h2).1,h2⟩
   rw [e1,List.mem_singleton] at hp;rw [hp,ma] at h1;cases h1
  ·exact t_lr (e'.symm.trans e)
  ·exact t_fr (e'.symm.trans e)
 ·intro e
  rcases Wh td hx with ⟨e',_⟩ | ⟨_,a,b,_,e1,ma,_⟩ | ⟨_,a,b,_,e1,ma,_⟩
  ·exact absurd e' e
  ·have hp:a∈pl ns ns.length x:=by rw [e1]; exact List.mem_cons_self
   exact ⟨a,b,ma,(Y2.mp hp).2⟩
  ·have hp:a∈pl ns ns.length x:=by rw [e1]; exact List.mem_cons_self
   exact ⟨a,b,ma,(Y2.mp hp).2⟩
def SwK.len {M:List (Option Nat)} {ns ks:List Int} (sw:SwK M ns ks) (td:TD M ns):ks.length<=ns.length:=by
 have e:ks.Perm ((keys ns ns.length).filter λx=>decide (x∈ks)):=(List.perm_ext_iff_of_nodup sw.nd ((Qt ns ns.length).filter _)).mpr λx=>by
  rw [List.mem_filter,decide_eq_true_eq];exact ⟨λh=>⟨((sw.mem x).mp h).key td,h⟩,λh=>h.2⟩
 have h1:=e.length_eq;have h2:=List.length_filter_le (λx=>decide (x∈ks)) (keys ns ns.length);have h3:=Ju ns ns.length;lia
def swB (ns:List Int) (x:Int):Bool:=!decide (V.str (Zy ns x)=V.str "rim")
def Zij {ns:List Int} {x:Int}:swB ns x=true ↔ Zy ns x≠"rim":=by
 unfold swB;rw [Bool.not_eq_true',decide_eq_false_iff_not];exact ⟨λh e=>h (by rw [e]),λh e=>h (by injection e)⟩
def Uf {α:Type} {f:α->Bool} {l:List α} {i:Nat} {x:α} (h:l[i]?=some x):(l.take (i + 1)).filter f=if f x=true then (l.take i).filter f ++ [x] else (l.take i).filter f:=by
 rw [Aw,h,List.filter_append];by_cases c:f x=true
 ·simp [c]
 ·simp [c]
def Fp:FnScope ["tent"] ["tent"] (Ze Vh):=Am
def Q4 (T:Txt w K mg t):FnOk P w K mg base (CXr P w) 3 t.cR t.cZ ["tent"] (Fj t.aa):=by
 refine T.bE.F.aR Fp (λ_ _ _ _ H vs Q E hr h=>?_)
 ·obtain ⟨p,M,ns,rfl,ta,td,lc,k⟩:=h
  refine ⟨_,(Zh (Zr (Yo (ts:=["seam"]) (fv:=[("tent",0)]) ⟨rfl,by decide +kernel,by decide +kernel,Yf (by rfl),⟨⟨rfl,rfl,Or.inl rfl⟩,trivial⟩⟩ rfl (Yy (Xb (pv 0) T.ac T.aw.m (W2 T) (hr.mono (by decide)) T.aw.b .nil Yg)) (λ_ _ _ _=>(Zx (i:=0) (show List.Nodup (["seam","tent"]:List Str) from by decide +kernel) rfl (Or.inl rfl) (Or.inr rfl))) (λ_ _ _ _=>(Zc4 (Zm F0 (X2 (pv 1) T.ac T.ah.m (Xw T) (hr.mono (by decide)) T.ah.b .nil Yg (Za (pv 0) Zb)) Zq (Zl _)))) (λ_ _ _=>rfl) (λ_ _ _ _ _ _=>Ym (pv 0))))),?_⟩;obtain ⟨dx,cl,na,sp,mt,o,ff,b⟩:=id ta;refine ⟨_,Z,p,dx,_,Z,b.ins,Ye _ _ _ _,p,M,ns,Z,ta,lc,λl ks l7 wt kn=>?_⟩;have s1:Same H (upd H l (.lst (ks.map V.int))):=Same.new l7;have h1:(upd H l (.lst (ks.map V.int))) l=some (.lst (ks.map V.int)):=Zc;generalize upd H l (.lst (ks.map V.int))=H1 at s1 h1 ⊢;have qm:ks.length<=64:=by rw [wt.length_eq]; have:=Ju ns ns.length; lia
  refine ⟨l,Z,⟨_,SqL.of h1⟩,λD hD=>?_⟩;refine Yj (xs:=ks.map V.int) (λi σ H3=>∃ v,σ=[v,some (.ref p)]/\Same H1 H3/\H3 D=some (.lst (((ks.take i).filter (swB ns)).map V.int))) ⟨none,Z,Same.new hD,Zc⟩ ?_ ?_ ?_
  ·rintro i σ H3 _ ⟨v,rfl,s3,h3⟩
   exact SqL.of (s3 _ _ h1)
  ·rintro i x σ H3 hx ⟨v,rfl,s3,h3⟩
   obtain ⟨y,hy,rfl⟩:=Yt hx;have hyk:y∈keys ns ns.length:=wt.mem_iff.mp (Au hy);have p5:=(ta.same s1).same s3;obtain ⟨dx,cl,na,sp,mt,o,ff,b⟩:=id p5;dsimp only [Z8];refine ⟨_,Z,p,dx,_,Z,b.ins,Ye _ _ _ _,_,Z,p,M,ns,y,Z,p5,td,λ_ H4 s4=>?_,λz=>absurd hyk z⟩;refine ⟨Z,_,Z,?_⟩;show if swB ns y=true then _ else _
   have lt:(((ks.take i).filter (swB ns)).map V.int).length < sizeLine:=by
    rw [Ab];have:=List.length_filter_le (swB ns) (ks.take i);rw [Ai] at this;exact Zv (by lia)
   by_cases c:swB ns y=true
   ·rw [if_pos c]
    refine ⟨_,Z,_,s4 _ _ h3,lt,_,Z,Same.add (s3.trans s4) hD,?_⟩;rw [Zc,Uf hy,if_pos c,Aj];rfl
   ·rw [if_neg c]
    refine ⟨_,Z,s3.trans s4,?_⟩;rw [s4 _ _ h3,Uf hy,if_neg c]
  ·rintro σ H3 ⟨v,rfl,s3,h3⟩
   rw [Ab,List.take_length] at h3;refine k D H3 _ (s1.trans s3) (s1.free hD) h3 (kn.filter _) ⟨(wt.nodup_iff.mpr (Qt ns ns.length)).filter _,λx=>?_⟩;rw [List.mem_filter,wt.mem_iff,Zij];refine ⟨λy0=>?_,λh=>⟨h.key td,(U5 td (h.key td)).mp h⟩⟩;obtain ⟨h1,h2⟩:=y0;exact (U5 td h1).mpr h2
def K4:FnScope ["tent"] ["tent"] (Ze Q1):=Am
def Ge (T:Txt w K mg t):FnOk P w K mg base (CXr P w) 4 t.cr t.cz ["tent"] (Ky t.aa):=by
 refine T.cF.F.aR K4 (λ_ _ _ _ H vs Q E hr h=>?_)
 ·obtain ⟨p,M,ns,rfl,ta,td,lc,k⟩:=h
  have hu:=Xl hr;refine ⟨_,(Zh (Zr (G2 (ts:=["seam"]) (fv:=[]) ⟨rfl,by decide +kernel,by decide +kernel,Yf (by rfl),trivial⟩ rfl (Yy (pcT (Q4 T) hr T.bE (Za (pv 0) Zb))) (λ_ _ _ _=>(Zx (i:=0) (show List.Nodup (["seam"]:List Str) from by decide +kernel) rfl (Or.inl rfl) (Or.inr rfl))) (λ_ _ _ _=>Yh) (λ_ _ _=>rfl) (λ_ _ _ _ _ _=>Zbg (pv 0) (Xr (Za Zd (Za Zd Zb))))))),?_⟩;refine ⟨_,Z,p,M,ns,Z,ta,td,lc,λl H1 ks s1 l7 h1 _ sw=>?_⟩;have qm:ks.length<=64:=by
   have:=sw.len td
   lia
  refine ⟨l,Z,⟨_,SqL.of h1⟩,λD hD=>?_⟩;refine Yj (xs:=ks.map V.int) (λi σ H3=>∃ v,σ=[v]/\Same H1 H3/\WAt H3 D (ks.take i) λ_=>(1,1)) ⟨none,Z,Same.new hD,λ_=>0,Zc,λx hx=>by simp at hx⟩ ?_ ?_ ?_
  ·rintro i σ H3 _ ⟨v,rfl,s3,h3⟩
   exact SqL.of (s3 _ _ h1)
  ·rintro i x σ H3 hx ⟨v,rfl,s3,ad,h3,h4⟩
   obtain ⟨y,hy,rfl⟩:=Yt hx;dsimp only [Z8,tYes];rw [if_pos rfl];refine ⟨_,Z,(by show 2<=sizeLine; rw [sizeLine_eq]; decide),λq hq=>?_⟩;have sq:Same H3 (upd H3 q (.tup [V.int 1,V.int 1])):=Same.new hq;have k8:(upd H3 q (.tup [V.int 1,V.int 1])) q=some (tp (1,1)):=Zc;have hny:y ∉ ks.take i:=λz=>by
    have hi:i < ks.length:=(Aa hy).1
    have nd:=sw.nd
    rw [<- List.take_append_drop i ks,List.nodup_append] at nd
    refine nd.2.2 y z y ?_ Z
    rw [List.drop_eq_getElem_cons hi,(Aa hy).2]
    exact List.mem_cons_self
   refine ⟨_,Sum.inl y,Z,sq _ _ h3,(by rw [Zji,Ai]; exact Zv (by lia)),_,Z,Same.add (s3.trans sq) hD,?_⟩;rw [Aw,hy];have:=WAt.new (g:=λ_=>(1,1)) (v:=(1,1)) (sq _ _ h3) (λx hx=>sq _ _ (h4 x hx)) k8 hny;exact this.congr λx _=>by unfold putG; split <;> rfl
  ·rintro σ H3 ⟨v,rfl,s3,h3⟩
   rw [Ab,List.take_length] at h3;exact k D H3 ks (s1.trans s3) (s1.free hD) h3 sw
def Y1 {t u:TSX} {D:Ends} {R:Value->St->Hp->Prop} {σ:St} {H:Hp} (pr:St->Hp->Prop) (ht:∀ nx:St->Hp->Prop,(∀ σ H,pr σ H->nx σ H)->t { D with nx:=nx } R σ H) (hu:∀ σ H,pr σ H->u D R σ H):Zdr t u D R σ H:=ht (u D R) hu
def Op (C EU:Addr):Sp:=λvs H Q E=>∃ (p c:Addr) (M:List (Option Nat)) (ns:List Int) (g:Int->Int),vs=[.ref p,.ref c]/\Zp C H p M ns/\TD M ns/\ns.length < 64/\Wy H c ns g/\OkN M ns g/\(∃ k,3 * k + 2 < ns.length/\(g3 ns g k).sum % 2=1)/\∀ H',Same H H'->E (.ref EU) none H'
def Ki (T:Txt w K mg t):FnOk P w K mg base (CXr P w) 4 t.al t.am ["tent","counts"] (Op t.aa t.bu):=by
  refine T.aj.F.aX Yx (λ_ _ _ _ H vs Q E hr h=>?_)
  · obtain ⟨p,c,M,ns,g,rfl,ta,td,lc,lp,ok,⟨kO,hkO,hOdd⟩,k⟩:=h
    have hu:=Xl hr;refine ⟨_,(Zi (Zw (Xt (pcT (Wi T) hr T.aq (Za (pv 0) (Za (pv 1) Zb)))))
      (Zi (Zw (J9 (ts:=["row"]) (fv:=[("counts",1)]) (i:=2) ⟨rfl,by decide +kernel,by decide +kernel,Yf (by rfl),⟨⟨rfl,rfl,Or.inl rfl⟩,trivial⟩⟩ rfl Yx.nd rfl rfl (by rfl) (Yy (Xb (pv 0) T.ac T.ay.m (Jr T) (hr.mono (by decide)) T.ay.b .nil Yg)) (λ_ _ _ _=>(Zx (i:=0) (show List.Nodup (["row","counts"]:List Str) from by decide +kernel) rfl (Or.inl rfl) (Or.inr rfl))) (λ_ _ _ _=>Yh) (λ_ _ _=>rfl) (λ_ _ _ _ _ _=>Ym (Yo (ts:=["seam"]) (fv:=[("counts",1)]) ⟨rfl,by decide +kernel,by decide +kernel,Yf (by rfl),⟨⟨rfl,rfl,Or.inl rfl⟩,trivial⟩⟩ rfl (V4 K (pv 0)) (λ_ _ _ _=>(Zx (i:=0) (show List.Nodup (["seam","counts"]:List Str) from by decide +kernel) rfl (Or.inl rfl) (Or.inr rfl))) (λ_ _ _ _=>Yh) (λ_ _ _=>rfl) (λ_ _ _ _ _ _=>Ym (Jj hu (pv 1) (pv 0) (λ_ _=>rfl)))))))
      (Zi (Zt (Xz (Zs (W0 rfl) (by rfl) T.gX PyProof.Rows.boot_any (Za (Yo (ts:=["triple"]) (fv:=[]) ⟨rfl,by decide +kernel,by decide +kernel,Yf (by rfl),trivial⟩ rfl (Yy (pv 2)) (λ_ _ _ _=>(Zx (i:=0) (show List.Nodup (["triple"]:List Str) from by decide +kernel) rfl (Or.inl rfl) (Or.inr rfl))) (λ_ _ _ _=>Yh) (λ_ _ _=>rfl) (λ_ _ _ _ _ _=>Ym (Xn Z4 (Yp X5 (Zs (Wm K rfl) (by rfl) T.gl PyProof.Rows.boot_sum (Za (pv 0) Zb)) Zd) Zd (Zl _)))) Zb))) (Zg (Z1 T.gZ FBV rfl T.cm rfl (Za Zq Zb))) Z6)
      (Y4 Z2)))),?_⟩
    refine Y1 (λσ H'=>σ=[some (.ref p),some (.ref c),none]/\Same H H') (λnx k6=>⟨_,Z,_,Z,p,c,M,ns,g,Z,ta,td,lc,lp,ok,λH1 s1=>k6 _ _ ⟨Z,s1⟩⟩) ?_;rintro σ H1 ⟨rfl,s1⟩;have mw:=ta.same s1;have r8:=lp.same s1;obtain ⟨n,n1,n40,hn⟩:=td.n;have nq:=td.len;refine Y1 (λσ H'=>∃ (D:Addr) (us:List Addr),σ=[some (.ref p),some (.ref c),some (.ref D)]/\Same H1 H'/\H' D=some (.lst (us.map V.ref))/\us.length=n/\∀ (k:Nat) (u:Addr),us[k]?=some u->H' u=some (.lst ((g3 ns g k).map V.int))) (λnx k6=>?_) ?_
    · obtain ⟨dx,cl,na,sp,mt,o,f,B⟩:=id mw
      refine ⟨_,Z,p,dx,_,Z,B.ins,Ye _ _ _ _,p,M,ns,Z,mw,λlr ts q0 ts1 qx=>?_⟩;have s2:Same H1 (upd H1 lr (.lst (ts.map V.ref))):=Same.new q0;have h2:(upd H1 lr (.lst (ts.map V.ref))) lr=some (.lst (ts.map V.ref)):=Zc;have qt:∀ (k:Nat) (t:Addr),ts[k]?=some t->(upd H1 lr (.lst (ts.map V.ref))) t=some (.tup (row3 ns k)):=λk t e=>s2 _ _ (qx k t e);generalize upd H1 lr (.lst (ts.map V.ref))=H2 at s2 h2 qt ⊢;refine ⟨lr,Z,⟨_,SqL.of h2⟩,λD hD=>?_⟩;obtain ⟨ks,re,kh⟩:=r8.same s2;clear B qx q0;have qi:ts.length=n:=by lia
      refine Yj (xs:=ts.map V.ref) (λi σ H3=>∃ (v:Option V) (us:List Addr),σ=[v,some (.ref c)]/\Same H2 H3/\H3 D=some (.lst (us.map V.ref))/\us.length=i/\∀ (k:Nat) (u:Addr),us[k]?=some u->H3 u=some (.lst ((g3 ns g k).map V.int))) ⟨none,[],Z,Same.new hD,Zc,Z,λk u e=>by simp at e⟩ ?_ ?_ ?_
      · rintro i σ H3 _ ⟨v,us,rfl,sm,_⟩
        exact SqL.of (sm _ _ h2)
      · rintro i y σ H3 hy ⟨v,us,rfl,sm,h3,ml,mj⟩
        obtain ⟨q,hq,rfl⟩:=Yt hy;have hi:i < n:=by rw [<- qi]; exact (Aa hq).1
        dsimp only [Z8,tYes];rw [if_pos rfl];have oo:=sm _ _ (qt i q hq);refine ⟨_,Z,q,Z,⟨_,SqT.of oo⟩,λD2 lz=>?_⟩;refine Qs (xs:=row3 ns i) (λj σ H4=>∃ (v':Option V),σ=[v',some (.ref c)]/\Same H3 H4/\H4 D2=some (.lst (((g3 ns g i).take j).map V.int))) ⟨none,Z,Same.new lz,Zc⟩ ?_ ?_ ?_
        · rintro j σ H4 _ ⟨v',rfl,ko,h4⟩
          exact SqT.of (ko _ _ oo)
        · rintro j x σ H4 hx ⟨v',rfl,ko,h4⟩
          dsimp only [Z8,tYes];rw [if_pos rfl];obtain ⟨z,hz,rfl,hg⟩:=Zeq (g:=g) hx;have ux:z∈ks:=kh.mem_iff.mpr (hz (by lia));refine ⟨_,Z,_,Z,c,_,Z,V8 (ko _ _ (sm _ _ re)) ux,?_⟩;refine ⟨_,h4,?_,_,Z,Same.add ko lz,?_⟩
          · rw [Ab,Ai]
            exact Zv (by have:(g3 ns g i).length=3:=rfl; lia)
          · rw [Zc,Aw,hg]
            simp
        · rintro σ H4 ⟨v',rfl,ko,h4⟩
          have pe:H4 D2=some (.lst ((g3 ns g i).map V.int)):=h4;refine ⟨_,ko _ _ h3,(by rw [Ab]; exact Zv (by lia)),_,us ++ [D2],Z,Same.add (sm.trans ko) hD,?_,?_,?_⟩
          · rw [Zc]; simp
          · rw [Ae,At,ml]
          · intro k u z
            by_cases hk:k < us.length
            · rw [Av hk] at z
              have gg:=ko _ _ (mj k u z);rw [Zf (λe=>by rw [e,ko _ _ h3] at gg; exact Qj gg)];exact gg
            · have vb:k=us.length:=by
                have:=(Aa z).1;rw [Ae,At] at this;lia
              subst vb;have:u=D2:=by simpa using z.symm
              subst this;rw [ml,Zf (λe=>by rw [e,ko _ _ h3] at pe; exact Qj pe)];exact pe
      rintro σ H3 ⟨v,us,rfl,sm,h3,ml,mj⟩;rw [Ab] at ml;exact k6 _ _ ⟨D,us,Z,s2.trans sm,h3,by lia,mj⟩
    rintro σ H3 ⟨D,us,rfl,sm,h3,ml,mj⟩;refine ⟨_,Z,D,Z,⟨_,SqL.of h3⟩,λD1 m6=>?_⟩;refine Yj (xs:=us.map V.ref) (λi σ H4=>∃ (v:Option V),σ=[v]/\Same H3 H4/\H4 D1=some (.lst (((List.range i).map λk=>decide (V.int ((g3 ns g k).sum % 2)=V.int 1)).map V.bl))) ⟨none,Z,Same.new m6,Zc⟩ ?_ ?_ ?_
    · rintro i σ H4 _ ⟨v,rfl,s4,_⟩
      exact SqL.of (s4 _ _ h3)
    · rintro i y σ H4 hy ⟨v,rfl,s4,h4⟩
      obtain ⟨u,nh,rfl⟩:=Yt hy;have hi:i < us.length:=(Aa nh).1;dsimp only [Z8,tYes];rw [if_pos rfl];refine ⟨_,Z,u,_,Z,SqL.of (s4 _ _ (mj i u nh)),_,_,Z,Z,(by show (0:Int) < 2; decide),rfl,?_⟩;refine ⟨_,h4,(by rw [Ab,Ab,List.length_range]; exact Zv (by lia)),_,Z,Same.add s4 m6,?_⟩;rw [Zc,List.range_succ,Aj,Aj];rfl
    rintro σ H4 ⟨v,rfl,s4,h4⟩;rw [Ab] at h4;refine ⟨D1,_,Z,SqL.of h4,_,Z,?_⟩;have:((List.range us.length).map λk=>decide (V.int ((g3 ns g k).sum % 2)=V.int 1)).any id=true:=by
      rw [List.any_map,List.any_eq_true]
      refine ⟨kO,List.mem_range.mpr (by lia),?_⟩
      show decide (V.int ((g3 ns g kO).sum % 2)=V.int 1)=true
      rw [hOdd]
      exact decide_eq_true Z
    rw [this];exact iteT ⟨by decide,k _ (s1.trans (sm.trans s4))⟩
def Zb8 (EW:Addr):Sp:=λvs H Q E=>∃ ky:Str,vs=[.str ky]/\(ky="left"\/ky="right"->Q .non H)/\(¬ (ky="left"\/ky="right")->E (.ref EW) none H)
def F4 (ky:Str):(valV [((Sum.inr "left":Key),V.str "right"),(Sum.inr "right",V.str "left")] (Sum.inr ky)).isSome=true ↔ ky="left"\/ky="right":=by
 unfold valV;by_cases c1:ky="left"
 ·subst c1; simp
 ·by_cases c2:ky="right"
  ·subst c2
   simp [List.find?_cons];split <;> simp
  ·have n1:¬ (Sum.inr "left":Key)=Sum.inr ky:=λz=>c1 (by injection z with z; exact z.symm)
   have n2:¬ (Sum.inr "right":Key)=Sum.inr ky:=λz=>c2 (by injection z with z; exact z.symm);simp [List.find?_cons,n1,n2,c1,c2]
def Zcf:FnScope ["way"] ["way"] (Ze O0):=Am
def Zcm (T:Txt w K mg t):FnOk P w K mg base (CXr P w) 1 t.eL t.e9 ["way"] (Zb8 t.cg):=by
 refine T.fz.F.aX Zcf (λ_ _ _ _ H vs Q E hr h=>?_)
 ·obtain ⟨ky,rfl,k1,k2⟩:=h
  refine ⟨_,(Zg (Zt (Qe (Zfx (pv 0) (Xm (v:=.ref t.ak) Z T.bA Z)) (by with_unfolding_all rfl)) (Zg (Z1 T.je FBV Z T.fF Z (Za Zq Zb))) Z6)),?_⟩;refine ⟨_,Z,t.ak,_,Sum.inr ky,Z,T.aJ,Z,_,Z,?_⟩;by_cases c:ky="left"\/ky="right"
  ·rw [(F4 ky).mpr c]
   exact iteF (k1 c)
  ·have:(valV [((Sum.inr "left":Key),V.str "right"),(Sum.inr "right",V.str "left")] (Sum.inr ky)).isSome=false:=by
    rw [Bool.eq_false_iff]; exact λz=>c ((F4 ky).mp z)
   rw [this];exact iteT ⟨by decide,k2 c⟩
def figS (i:Int):Str:=Txt.join (Str.ofString "") [(Str.ofString (toString i))]
def Zdy:Sp:=λvs H Q _=>∃ i:Int,vs=[.int i]/\0<=i/\i < 1000000000000000000000000000000000000000000000000000000000000/\∀ H',Same H H'->Q (.str (figS i)) H'
def mdL (x y:Str):List Bool:=x.cps.toList.map λc=>Txt.contains y ⟨#[c]⟩
def Zdu:Sp:=λvs H Q _=>∃ x y:Str,vs=[.str x,.str y]/\x.cps.all (· < 128)=true/\x.cps.size<=900/\∀ H',Same H H'->Q (.bl ((mdL x y).all id)) H'
def Zls:(10:Int) ^ 60=1000000000000000000000000000000000000000000000000000000000000:=by decide
def Zkq:(2:Nat) ^ 200=1606938044258990275541962092341162602522202993782792835301376:=by decide
def Zdf {i:Int} (h0:0<=i) (h1:i < 1000000000000000000000000000000000000000000000000000000000000):(Str.ofString (toString i)).length<=60:=PyProof.Rows.toString_length_le h0 (by decide) (by rw [Zls]; exact h1)
def Zhn {x:Str} {g:TG} {tt:TT} {tb:TB} {R:St->Hp->Prop} {σ:St} {H:Hp} (Pv:Nat->St->Hp->Prop) (h0:Pv 0 σ H)
  (hs:∀ (i:Nat) c σ H,x.cps[i]?=some c->Pv i σ H->g (.str ⟨#[c]⟩) σ H λσ2 H2=>tt σ2 H2 λb H3=>if b=true then tb σ2 H3 (Pv (i + 1)) else Pv (i + 1) σ2 H3) (hd:∀ σ H,Pv x.cps.size σ H->R σ H):Jf (Its x) g tt tb R σ H:=by
 refine ⟨λi m σ H=>m=x.cps.size - i/\i<=x.cps.size/\Pv i σ H,⟨x.cps.size,by simp,Az _,h0⟩,?_⟩;rintro i m σ H ⟨rfl,hi,p⟩;by_cases ku:i < x.cps.size
 ·refine .inr ⟨ku,Pv (i + 1),λσ' H' p'=>⟨x.cps.size - (i + 1),by lia,Z,ku,p'⟩,λy H' z=>?_⟩
  obtain ⟨e,c,hc,ec⟩:=z;subst e ec;exact hs i c σ _ hc p
 ·have e:i=x.cps.size:=by lia
  subst e;exact .inl ⟨An _,hd σ H p⟩
def Qo:FnScope ["number","parts"] ["number"] (Ze Gy):=Am
def Kk (T:Txt w K mg t):FnOk P w K mg base (CXr P w) 1 t.fN t.fY ["number"] Zdy:=by
 refine T.dm.F.aR Qo (λ_ _ _ _ H vs Q E hr h=>?_)
 ·obtain ⟨i,rfl,h0,h1,k⟩:=h
  have hu:=Xl hr;refine ⟨_,(Zn (Zk (i:=1) Qo.nd Z (Or.inl Z) (Yv Zb))
   (Zn (Za7 PassesOwn.never (Zm Zlf (pv 0) (Xm (v:=.int 1000000000000000000000000000000000000000000000000000000000000) rfl T.iV ⟨_,rfl⟩) (Zl _)) (Zn Zhb
   (Zh (Zjw (i:=0) Qo.nd rfl (Or.inl rfl) (Xm (v:=.int 1000000000000000000000000000000000000000000000000000000000000) rfl T.iV ⟨_,rfl⟩) Zht))))
   (Zn (Xt (Qp PySem.F.plainAttrs_list PySem.F.slot_list_append PySem.F.type_list_append J6 (pv 1) (Za (Wf Zbz (by rfl) T.ji PySem.Pv.boot_str (Za (pv 0) Zb)) Zb)))
   (Zh (Zr (Zd9 rfl T.g9 (by rfl) Zq (Za (pv 1) Zb))))))),?_⟩
  refine Xf λnxC kg=>?_;refine ⟨Az _,λp hp=>?_⟩;refine kg _ _ ?_;have s1:Same H (upd H p (.lst [])):=Same.new hp;have h2:(upd H p (.lst [])) p=some (.lst []):=Zc;generalize upd H p (.lst [])=H1 at s1 h2 ⊢
  try dsimp only [Z8]
  refine Qn (λσ H'=>σ=[some (.int i),some (.ref p)]/\H'=H1) (λnx k6=>?_) ?_
  ·refine ⟨λm σ H'=>σ=[some (.int i),some (.ref p)]/\H'=H1,⟨0,Z,Z⟩,?_⟩
   rintro m σ H' ⟨rfl,rfl⟩;refine ⟨_,Z,_,_,Z,Z,_,Z,?_⟩;rw [decide_eq_false (by lia)];exact iteF (k6 _ _ ⟨Z,Z⟩)
  rintro σ H' ⟨rfl,rfl⟩;have tf:i.natAbs.log2 < 1920:=by
   rcases Nat.eq_zero_or_pos i.natAbs with z | z
   ·rw [z]; decide
   ·exact (Nat.log2_lt (by lia)).mpr (Ag (by rw [Zkq]; lia:i.natAbs < 2 ^ 200) (Nat.pow_le_pow_right (by decide) (by decide)))
  have jz:(Str.ofString (toString i)).length<=60:=Zdf h0 h1;refine Xf λnxC kg=>?_;refine ⟨_,Z,.inl ⟨Z,_,SqL.of h2⟩,_,Z,i,Z,tf,p,_,_,Z,Z,h2,Zv (by decide),?_⟩;refine kg _ _ ?_;refine ⟨_,Z,_,Z,p,[(Str.ofString (toString i))],Z,SqL.of Zc,by decide,(by show ((Str.ofString (toString i)).length + 0) + 1<=1048576; lia),?_⟩;exact k _ (Same.add s1 hp)
def Zd4:FnScope ["text","signs"] ["text","signs"] (Ze Gs):=Am
def Zec (T:Txt w K mg t):FnOk P w K mg base (CXr P w) 1 t.fL t.fW ["text","signs"] Zdu:=by
 refine T.gd.F.aR Zd4 (λ_ _ _ _ H vs Q E hr h=>?_)
 ·obtain ⟨x,y,rfl,hx,hz,k⟩:=h
  refine ⟨_,(Zh (Zr (Zs (Oj Z) (by rfl) T.iW PyProof.Rows.boot_all (Za (Yo (ts:=["sign"]) (fv:=[("signs",1)]) ⟨rfl,by decide +kernel,by decide +kernel,Yf (by rfl),⟨⟨rfl,rfl,Or.inl rfl⟩,trivial⟩⟩ rfl (Zj4 (pv 0)) (λ_ _ _ _=>(Zx (i:=0) (show List.Nodup (["sign","signs"]:List Str) from by decide +kernel) rfl (Or.inl rfl) (Or.inr rfl))) (λ_ _ _ _=>Yh) (λ_ _ _=>rfl) (λ_ _ _ _ _ _=>Ym (Xn Zkd (pv 0) (pv 1) (by with_unfolding_all rfl)))) Zb)))),?_⟩;refine ⟨_,Z,x,Z,hx,λD hD=>?_⟩;refine Zhn (λi σ H6=>∃ v,σ=[v,some (.str y)]/\Same H H6/\H6 D=some (.lst (((mdL x y).take i).map V.bl))) ⟨none,Z,Same.new hD,Zc⟩ ?_ ?_
  ·rintro i c σ H6 hc ⟨v,rfl,s6,h6⟩
   have yf:i < x.cps.size:=(Array.getElem?_eq_some_iff.mp hc).1;have hm:(mdL x y)[i]?=some (Txt.contains y ⟨#[c]⟩):=by
    unfold mdL
    rw [Ah,Array.getElem?_toList,hc]
    rfl
   dsimp only [Z8,tYes];rw [if_pos rfl];refine ⟨_,Z,_,Z,_,_,Z,Z,_,h6,by rw [Ab,Ai]; exact Zv (by lia),_,Z,Same.add s6 hD,?_⟩;rw [Zc,Aw,hm,Aj];rfl
  ·rintro σ H6 ⟨v,rfl,s6,h6⟩
   have hl:(mdL x y).length=x.cps.size:=by unfold mdL; rw [Ab,Array.length_toList]
   rw [<- hl,List.take_length] at h6;exact ⟨D,_,Z,SqL.of h6,k _ s6⟩
def isN (x:Str):Bool:=decide (1<=(x.length:Int)) && decide ((x.length:Int)<=8) && (mdL x (Str.ofString "abcdefghijklmnopqrstuvwxyz")).all id
def Zdw:Sp:=λvs H Q _=>∃ x:Str,vs=[.str x]/\x.cps.all (· < 128)=true/\x.cps.size<=900/\∀ H',Same H H'->Q (.bl (isN x)) H'
def wV:Str ⊕ Int->V
 | .inl x=>.str x
 | .inr i=>.int i
def wS:Str ⊕ Int->Str
 | .inl x=>x
 | .inr i=>figS i
def wOk:Str ⊕ Int->Prop
 | .inl _=>True
 | .inr i=>0<=i/\i < 1000000000000000000000000000000000000000000000000000000000000
def Zgj {i:Int} (h0:0<=i) (h1:i < 1000000000000000000000000000000000000000000000000000000000000):(figS i).length<=60:=by
 have e:figS i=Str.ofString (toString i):=rfl;rw [e];exact Zdf h0 h1
def wAsc:Str ⊕ Int->Prop
 | .inl x=>Asc x
 | .inr _=>True
def Zdn (i:Int):Asc (figS i):=Asc.join λy hy=>by rw [Af hy]; exact Asc.num i
def Zdm {ws:List (Str ⊕ Int)} (h:∀ x∈ws,wAsc x):Asc (Txt.join (Str.ofString " ") (ws.map wS)):=Asc.joinS (λc hc=>by have hc:c∈[32]:=hc; rw [Af hc]; decide) λy hy=>by
 obtain ⟨x,hx,rfl⟩:=List.mem_map.mp hy;have:=h x hx
 cases x with
 | inl z=>exact this
 | inr i=>exact Zdn i
def Zb5:Sp:=λvs H Q _=>∃ (a:Addr) (ws:List (Str ⊕ Int)),vs=[.ref a]/\H a=some (.lst (ws.map wV))/\ws.length<=900/\(∀ x∈ws,wOk x)/\((ws.map wS).map (·.length)).sum + ws.length<=1048576/\∀ H',Same H H'->Q (.str (Txt.join (Str.ofString " ") (ws.map wS))) H'
def Zd6:FnScope ["text"] ["text"] (Ze Gw):=Am
def Zef (T:Txt w K mg t):FnOk P w K mg base (CXr P w) 2 t.fM t.fX ["text"] Zdw:=by
 refine T.ge.F.aR Zd6 (λ_ _ _ _ H vs Q E hr h=>?_)
 ·obtain ⟨x,rfl,hx,hz,k⟩:=h
  refine ⟨_,(Zh (Zr (Vp (Zbf Zea Zea Zd (Zs Zb0 (by rfl) T.bP PySem.boot_len (Za (pv 0) Zb)) (Xm (v:=.int 8) Z T.fE ⟨_,Z⟩)) (Kb (pcT (Zec T) hr T.gd (Za (pv 0) (Za (Xm (v:=.str (Str.ofString "abcdefghijklmnopqrstuvwxyz")) rfl T.eE ⟨_,rfl⟩) Zb))))))),?_⟩;have hs:x.length=x.cps.size:=rfl;refine ⟨_,Z,x,Z,by rw [sizeLine_eq]; lia,_,_,rfl,rfl,_,rfl,?_⟩;unfold isN at k;refine ite2 (λz=>?_) (λz=>?_)
  ·refine ⟨_,_,Z,Z,_,Z,?_⟩
   refine ite2 (λz2=>?_) (λz2=>?_)
   ·refine ⟨_,Z,x,_,Z,hx,hz,λH' s'=>?_⟩
    have:=k H' s';rw [z,z2,Bool.true_and,Bool.true_and] at this;exact this
   ·have:=k H (Same.refl _)
    rw [Bool.eq_false_iff.mpr z2,Bool.and_false,Bool.false_and] at this;exact this
  ·refine ⟨_,Z,iteF ?_⟩
   have:=k H (Same.refl _);rw [Bool.eq_false_iff.mpr z,Bool.false_and,Bool.false_and] at this;exact this
def Zce:FnScope ["words"] ["words"] (Ze Oy):=Am
def Uy (T:Txt w K mg t):FnOk P w K mg base (CXr P w) 2 t.eP t.fg ["words"] Zb5:=by
 refine T.cJ.F.aR Zce (λ_ _ _ _ H vs Q E hr h=>?_)
 ·obtain ⟨a,ws,rfl,ha,hl,hw,sr,k⟩:=h
  refine ⟨_,(Zh (Zr (Qp PySem.F.plainAttrs_str PySem.F.slot_str_join PySem.F.type_str_join Zda Zq (Za (Yo (ts:=["word"]) (fv:=[]) ⟨rfl,by decide +kernel,by decide +kernel,Yf (by rfl),trivial⟩ rfl (Yy (pv 0)) (λ_ _ _ _=>(Zx (i:=0) (show List.Nodup (["word"]:List Str) from by decide +kernel) rfl (Or.inl rfl) (Or.inr rfl))) (λ_ _ _ _=>Yh) (λ_ _ _=>rfl) (λ_ _ _ _ _ _=>Ym (Oc (Xz (Zs (Zb1 K) (by rfl) T.df PyProof.Rows.boot_isinstance (Za (pv 0) (Za (Zc9 (v:=.ty "str") (by rfl) T.ji PySem.Pv.boot_str rfl) Zb)))) (pv 0) (pcT (Kk T) hr T.dm (Za (pv 0) Zb))))) Zb)))),?_⟩;refine ⟨Z,_,Z,a,Z,⟨_,SqL.of ha⟩,λD hD=>?_⟩;refine Yj (xs:=ws.map wV) (λi σ H6=>∃ v,σ=[v]/\Same H H6/\H6 D=some (.lst (((ws.take i).map wS).map V.str))) ⟨none,Z,Same.new hD,Zc⟩ ?_ ?_ ?_
  ·rintro i σ H6 _ ⟨v,rfl,s6,_⟩
   exact SqL.of (s6 _ _ ha)
  ·rintro i y σ H6 hy ⟨v,rfl,s6,h6⟩
   rw [Ah] at hy;obtain ⟨x,hx,rfl⟩:=Option.map_eq_some_iff.mp hy;have yf:i < ws.length:=(Aa hx).1;have ok:=hw x (Au hx);have lt:(((ws.take i).map wS).map V.str).length < sizeLine:=by rw [Ab,Ab,Ai]; exact Zv (by lia)
   dsimp only [Z8,tYes];rw [if_pos rfl]
   cases x with
   | inl y =>
    refine ⟨_,Z,_,"str",_,true,rfl,TyOf.str y,Zhq,_,rfl,iteT ?_⟩;refine ⟨_,Z,_,h6,lt,_,Z,Same.add s6 hD,?_⟩;rw [Zc,Aw,hx,Aj,Aj];rfl
   | inr j =>
    refine ⟨_,Z,_,"str",_,false,rfl,TyOf.int j,(by rfl),_,rfl,iteF ?_⟩;refine ⟨_,Z,j,Z,ok.1,ok.2,λH7 s7=>?_⟩;refine ⟨_,s7 _ _ h6,lt,_,Z,Same.add (s6.trans s7) hD,?_⟩;rw [Zc,Aw,hx,Aj,Aj];rfl
  ·rintro σ H6 ⟨v,rfl,s6,h6⟩
   rw [Ab,List.take_length] at h6;refine ⟨_,D,ws.map wS,Z,Z,SqL.of h6,by decide,?_,k _ s6⟩;rw [Ab];exact sr
def dS (l:List (Str × V)):List (Key × V):=l.map λkv=>((Sum.inr kv.1:Key),kv.2)
def Zbx (l:List (Str × V)):(dS l).length=l.length:=by unfold dS; rw [Ab]
def hasS (l:List (Str × V)) (x:Str):Bool:=l.any λkv=>decide (kv.1=x)
def F7:Sp:=λvs H Q _=>∃ (d:Addr) (x:Str) (v:V) (l:List (Str × V)),vs=[.ref d,.str x,v]/\H d=some (.dK (dS l))/\l.length<=900/\hasS l x=false/\∀ (e:Addr) (H':Hp),Same H H'->H e=none->H' e=some (.dK (dS (l ++ [(x,v)])))->Q (.ref e) H'
def Vb:FnScope ["table","name","value","copied"] ["table","name","value"] (Ze Uj):=Am
def Zbj (T:Txt w K mg t):FnOk P w K mg base (CXr P w) 1 t.dG t.dZ ["table","name","value"] F7:=by
 refine T.er.F.aR Vb (λ_ _ _ _ H vs Q E hr h=>?_)
 ·obtain ⟨d,x,v,l,rfl,hd,hl,hn,k⟩:=h
  have hu:=Xl hr;refine ⟨_,(Zn (Zk (i:=3) Vb.nd Z (Or.inl Z) (Wf Ku (by rfl) T.iX PySem.Pv.boot_dict (Za (pv 0) Zb)))
   (Zn (Zis hu (pv 3) (pv 1) (pv 2) rfl)
   (Zh (Zr (pv 3))))),?_⟩
  refine Xf λnxC kg=>?_;refine ⟨_,Z,d,_,Z,.inl hd,λe he=>?_⟩;refine kg _ _ ?_;have ep:putK (dS l) (Sum.inr x) v=dS (l ++ [(x,v)]):=by
   have:((dS l).any λkv=>decide (kv.1=(Sum.inr x:Key)))=false:=by
    rw [<- hn]
    unfold dS hasS
    rw [List.any_map]
    congr 1
    funext kv
    show decide ((Sum.inr kv.1:Key)=Sum.inr x)=decide (kv.1=x)
    by_cases z:kv.1=x
    ·rw [z,decide_eq_true rfl,decide_eq_true rfl]
    ·rw [decide_eq_false z,decide_eq_false (λy=>z (by injection y))]
   unfold putK
   rw [this,if_neg (by decide)]
   unfold dS
   rw [Aj]
   rfl
  refine ⟨_,Z,_,Z,_,Z,e,_,Z,DPut.k (k:=Sum.inr x) Zc (by rw [Zbx]; exact Zv (by lia)),?_⟩;rw [ep];refine ⟨_,Z,k e _ ?_ he Zc⟩;exact Same.add (Same.new he) he
def Xy {H:Hp} {p:Addr} {a b:HO}:upd (upd H p a) p b=upd H p b:=by
 funext c;by_cases z:c=p
 ·subst z; rw [Zc,Zc]
 ·rw [Zf z,Zf z,Zf z]
def Xc (te th po wo:V):List (Str × V):=putF "worths" wo (putF "pools" po (putF "threads" th (putF "tent" te [])))
def Y5 (be sc st un:Addr):List (Str × V):=putF "undone" (.ref un) (putF "standing" (.ref st) (putF "scene" (.ref sc) (putF "began" (.ref be) [])))
structure HallNew (CT CS CH:Addr) (H:Hp) (p:Addr) (M:List (Option Nat)) (ns:List Int) (dx be sc st un kc th po wo:Addr) (ks:List Int):Prop where
 ins:H p=some (.ins CH dx (Y5 be sc st un))
 tent:Zp CT H be M ns
 scn:H sc=some (.ins CS kc (Xc (.ref be) (.ref th) (.ref po) (.ref wo)))
 thr:H th=some (.dK [])
 poo:H po=some (.dK [])
 wor:WAt H wo ks λ_=>(1,1)
 sw:SwK M ns ks
 sta:H st=some (.lst [])
 und:H un=some (.lst [])
def OthP (p:Addr) (H H':Hp):Prop:=∀ b u,b≠p->H b=some u->H' b=some u
def OthP.trans {p:Addr} {H H1 H':Hp} (s:OthP p H H1) (s1:OthP p H1 H'):OthP p H H':=λb u hb e=>s1 b u hb (s b u hb e)
def OthP.of {p:Addr} {H H':Hp} (s:Same H H'):OthP p H H':=λb u _ e=>s b u e
def OthP.upd {p:Addr} {H:Hp} {o:HO}:OthP p H (upd H p o):=λb u hb e=>by rw [Zf hb]; exact e
def Y3 {H H':Hp} {p C dx:Addr} {fs:List (Str × V)} (hp:H p=some (.ins C dx fs)) (s:OthP p H H') {b:Addr} {u:HO} (e:H b=some u) (hu:∀ C dx fs,u≠.ins C dx fs):H' b=some u :=
 s b u (λz=>by rw [z,hp] at e; exact hu _ _ _ (Ax e).symm) e
def Xo.oth {H H':Hp} {p C dx r:Addr} {fs:List (Str × V)} {ns:List Int} (h:Xo H r ns) (hp:H p=some (.ins C dx fs)) (s:OthP p H H'):Xo H' r ns:=by
 obtain ⟨ts,h1,h2,h3⟩:=h;exact ⟨ts,Y3 hp s h1 (λ_ _ _ z=>nomatch z),h2,λk q e=>Y3 hp s (h3 k q e) (λ_ _ _ z=>nomatch z)⟩
def Zp.oth {C0:Addr} {H H':Hp} {p C dx x:Addr} {fs:List (Str × V)} {M:List (Option Nat)} {ns:List Int} (h:Zp C0 H x M ns) (hp:H p=some (.ins C dx fs)) (hx:x≠p) (s:OthP p H H'):Zp C0 H' x M ns:=by
 obtain ⟨dt,cl,na,sp,mt,o,f,b⟩:=h;exact ⟨dt,cl,na,sp,mt,o,f,s _ _ hx b.ins,b.rows.oth hp s,Y3 hp s b.names (λ_ _ _ z=>nomatch z),Y3 hp s b.spots (λ_ _ _ z=>nomatch z),Y3 hp s b.mates (λ_ _ _ z=>nomatch z),λy hy=>Y3 hp s (b.at' y hy) (λ_ _ _ z=>nomatch z)⟩
def WAt.oth {H H':Hp} {p C dx d:Addr} {fs:List (Str × V)} {ks:List Int} {g:Int->Nat × Nat} (h:WAt H d ks g) (hp:H p=some (.ins C dx fs)) (s:OthP p H H'):WAt H' d ks g:=by
 obtain ⟨ad,h1,h2⟩:=h;exact ⟨ad,Y3 hp s h1 (λ_ _ _ z=>nomatch z),λx hx=>Y3 hp s (h2 x hx) (λ_ _ _ z=>nomatch z)⟩
def Fm (C:Addr):Sp:=λvs H Q _=>∃ (p dx:Addr) (te th po wo:V),vs=[.ref p,te,th,po,wo]/\H p=some (.ins C dx [])/\Q .non (upd H p (.ins C dx (Xc te th po wo)))
def Zai (CT CS CH:Addr):Sp:=λvs H Q _=>∃ (p r dx:Addr) (M:List (Option Nat)) (ns:List Int),vs=[.ref p,.ref r]/\H p=some (.ins CH dx [])/\Xo H r ns/\TD M ns/\ns.length < 64 /\
 ∀ (H':Hp),OthP p H H'->(∃ be sc st un kc th po wo ks,HallNew CT CS CH H' p M ns dx be sc st un kc th po wo ks/\H st=none/\H un=none/\st≠un)->Q .non H'
def Fs:FnScope ["self","tent","threads","pools","worths"] ["self","tent","threads","pools","worths"] (Ze Vk):=Am
def W3 (T:Txt w K mg t):FnOk P w K mg base (CXr P w) 1 t.bB t.c0 ["self","tent","threads","pools","worths"] (Fm t.af):=by
 refine T.aV.F.aR Fs (λ_ _ _ _ H vs Q E hr h=>?_)
 ·obtain ⟨p,dx,te,th,po,wo,rfl,hp,k⟩:=h
  refine ⟨_,(Zn (Xh (pv 0) (pv 1) Z)
   (Zn (Xh (pv 0) (pv 2) rfl)
   (Zn (Xh (pv 0) (pv 3) rfl)
   (Zh (Xh (pv 0) (pv 4) rfl))))),?_⟩;have l1:=Yz "tent" te [];have l2:=Yz "threads" th (putF "tent" te []);have l3:=Yz "pools" po (putF "threads" th (putF "tent" te []));rw [List.length_nil] at l1;refine ⟨_,Z,_,Z,p,_,dx,_,Z,hp,T.ai,T.aE,by decide,?_⟩;refine ⟨_,Z,_,Z,p,_,dx,_,Z,Zc,T.ai,T.ax,by lia,?_⟩;refine ⟨_,Z,_,Z,p,_,dx,_,Z,Zc,T.ai,T.aB,by lia,?_⟩;refine ⟨_,Z,_,Z,p,_,dx,_,Z,Zc,T.ai,T.bc,by lia,?_⟩;rw [Xy,Xy,Xy];exact k
def Zaq:FnScope ["self","rows"] ["self","rows"] (Ze Uw):=Am
def Vv (T:Txt w K mg t):FnOk P w K mg base (CXr P w) 5 t.bS t.d0 ["self","rows"] (Zai t.aa t.af t.ae):=by
 refine T.bX.F.aR Zaq (λ_ _ _ _ H vs Q E hr h=>?_)
 ·obtain ⟨p,r,dx,M,ns,rfl,hp,ny,td,lc,k⟩:=h
  refine ⟨_,(Zn (Xh (pv 0) (We T.ck (Wj T) (hr.mono (by decide)) Z T.cj T.ar.b .nil Yg (Za (pv 1) Zb)) Z)
   (Zn (Xh (pv 0) (We T.fD (W3 T) (hr.mono (by decide)) rfl T.fq T.aV.b .nil Yg (Za (Zz (pv 0) rfl) (Za Jp (Za Jp (Za (pcT (Ge T) hr T.cF (Za (Zz (pv 0) rfl) Zb)) Zb))))) rfl)
   (Zn (Xh (pv 0) (Yv Zb) rfl)
   (Zh (Xh (pv 0) (Yv Zb) rfl))))),?_⟩;refine ⟨_,Z,?_⟩;intro x dt hx hdt km;have s0:Same H (upd (upd H dt (.own x)) x (.ins t.aa dt [])):=Same.add (Same.new hdt) hx;refine ⟨x,r,dt,M,ns,Z,Zc,ny.same s0,td,by lia,λH1 kj ta=>⟨Z,?_⟩⟩;have s1:Same H H1:=λb u e=>kj b u (Zj e hx) (s0 b u e);refine ⟨_,Z,p,_,dx,_,Z,s1 _ _ hp,T.ag,T.bD,by decide,?_⟩;have l1:=Yz "began" (.ref x) [];rw [List.length_nil] at l1;have wu:=s1 _ _ hp;have nx:x≠p:=λz=>by rw [z,hp] at hx; cases hx
  have o2:OthP p H1 (upd H1 p (.ins t.ae dx (putF "began" (.ref x) []))):=.upd;have mv:(upd H1 p (.ins t.ae dx (putF "began" (.ref x) []))) p=some (.ins t.ae dx (putF "began" (.ref x) [])):=Zc;have t8:=ta.oth wu nx o2;have xh:OthP p H _:=(OthP.of s1).trans o2;generalize upd H1 p (.ins t.ae dx (putF "began" (.ref x) []))=H2 at o2 mv t8 xh ⊢;clear o2 ta kj s1 s0 wu hdt km ny;have wq:(putF "began" (.ref x) []).lookup ("began":Str)=some (.ref x):=by rw [Zu,if_pos rfl]
  refine ⟨_,Z,p,_,dx,_,_,Z,mv,T.ag,T.bD,wq,?_⟩;intro th on po oq;obtain ⟨hpt,ol⟩:=Xx oq;have s3:Same H2 (upd (upd H2 th (.dK [])) po (.dK [])):=Same.add (Same.new on) ol;have xu:(upd (upd H2 th (.dK [])) po (.dK [])) th=some (.dK []):=by rw [Zf (Ne.symm hpt),Zc]
  have oo:(upd (upd H2 th (.dK [])) po (.dK [])) po=some (.dK []):=Zc;generalize upd (upd H2 th (.dK [])) po (.dK [])=H3 at s3 xu oo ⊢;refine ⟨_,Z,p,_,dx,_,_,Z,s3 _ _ mv,T.ag,T.bD,wq,x,M,ns,Z,t8.same s3,td,lc,λwo H4 ks s4 hwo w4 sw=>?_⟩;intro sc kc ly tq qw;have s5:Same H4 (upd (upd H4 kc (.own sc)) sc (.ins t.af kc [])):=Same.add (Same.new tq) ly;refine ⟨sc,kc,_,_,_,_,Z,Zc,Z,?_⟩;rw [Xy];have s6:Same H4 (upd (upd H4 kc (.own sc)) sc (.ins t.af kc (Xc (.ref x) (.ref th) (.ref po) (.ref wo)))):=Same.add (Same.new tq) ly;have ym:(upd (upd H4 kc (.own sc)) sc (.ins t.af kc (Xc (.ref x) (.ref th) (.ref po) (.ref wo)))) sc=some (.ins t.af kc (Xc (.ref x) (.ref th) (.ref po) (.ref wo))):=Zc;generalize upd (upd H4 kc (.own sc)) sc (.ins t.af kc (Xc (.ref x) (.ref th) (.ref po) (.ref wo)))=H6 at s6 ym ⊢;clear s5;have wg:=s4.trans s6;have wj:=s3.trans wg;have ot:=wj _ _ mv;have xi:sc≠p:=λz=>by rw [z,(s3.trans s4) _ _ mv] at ly; cases ly
  refine ⟨_,Z,p,_,dx,_,Z,ot,T.ag,T.av,by lia,?_⟩;have l2:=Yz "scene" (.ref sc) (putF "began" (.ref x) []);have o7:OthP p H6 (upd H6 p (.ins t.ae dx (putF "scene" (.ref sc) (putF "began" (.ref x) [])))):=.upd;have uf:(upd H6 p (.ins t.ae dx (putF "scene" (.ref sc) (putF "began" (.ref x) [])))) p=some (.ins t.ae dx (putF "scene" (.ref sc) (putF "began" (.ref x) []))):=Zc;have w8:=(t8.same wj).oth ot nx o7;have xt:=Y3 ot o7 (wg _ _ xu) (λ_ _ _ z=>nomatch z);have xy:=Y3 ot o7 (wg _ _ oo) (λ_ _ _ z=>nomatch z);have w7:=(w4.same s6).oth ot o7;have yl:=o7 _ _ xi ym;have wm:OthP p H _:=(xh.trans (.of wj)).trans o7;generalize upd H6 p (.ins t.ae dx (putF "scene" (.ref sc) (putF "began" (.ref x) [])))=H7 at o7 uf w8 xt xy w7 yl wm ⊢;clear o7 ot wj wg s6 ym s4 w4 s3 xu oo t8 mv xh on oq ol hwo ly tq;refine ⟨Az _,λst kn=>?_⟩
  have hst0:H st=none:=by
   cases e:H st with
   | none=>rfl
   | some u =>
    rw [wm _ _ (λz=>by rw [z,uf] at kn; cases kn) e] at kn;cases kn
  have s8:Same H7 (upd H7 st (.lst [])):=Same.new kn;have xw:(upd H7 st (.lst [])) st=some (.lst []):=Zc;generalize upd H7 st (.lst [])=H8 at s8 xw ⊢;have rn:=s8 _ _ uf;refine ⟨_,Z,p,_,dx,_,Z,rn,T.ag,T.aT,by lia,?_⟩;have l3:=Yz "standing" (.ref st) (putF "scene" (.ref sc) (putF "began" (.ref x) []));have o9:OthP p H8 (upd H8 p (.ins t.ae dx (putF "standing" (.ref st) (putF "scene" (.ref sc) (putF "began" (.ref x) []))))):=.upd;have xz:(upd H8 p (.ins t.ae dx (putF "standing" (.ref st) (putF "scene" (.ref sc) (putF "began" (.ref x) []))))) p=some (.ins t.ae dx (putF "standing" (.ref st) (putF "scene" (.ref sc) (putF "began" (.ref x) [])))):=Zc;have ta9:=(w8.same s8).oth rn nx o9;have ht9:=Y3 rn o9 (s8 _ _ xt) (λ_ _ _ z=>nomatch z);have hq9:=Y3 rn o9 (s8 _ _ xy) (λ_ _ _ z=>nomatch z);have xv:=Y3 rn o9 xw (λ_ _ _ z=>nomatch z);have w9:=(w7.same s8).oth rn o9;have hc9:=o9 _ _ xi (s8 _ _ yl);have om:OthP p H _:=(wm.trans (.of s8)).trans o9;generalize upd H8 p (.ins t.ae dx (putF "standing" (.ref st) (putF "scene" (.ref sc) (putF "began" (.ref x) []))))=H9 at o9 xz ta9 ht9 hq9 xv w9 hc9 om ⊢;clear o9 rn s8 xw uf w8 xt xy w7 yl wm kn;refine ⟨Az _,λun me=>?_⟩
  have sk:H un=none:=by
   cases e:H un with
   | none=>rfl
   | some u =>
    rw [om _ _ (λz=>by rw [z,xz] at me; cases me) e] at me;cases me
  have hsu:st≠un:=λz=>by rw [<- z,xv] at me; cases me
  have sA:Same H9 (upd H9 un (.lst [])):=Same.new me;have hsA:(upd H9 un (.lst [])) un=some (.lst []):=Zc;generalize upd H9 un (.lst [])=HA at sA hsA ⊢;have rm:=sA _ _ xz;refine ⟨_,Z,p,_,dx,_,Z,rm,T.ag,T.cC,by lia,?_⟩;have oB:OthP p HA (upd HA p (.ins t.ae dx (Y5 x sc st un))):=.upd;refine k _ ((om.trans (.of sA)).trans oB) ⟨x,sc,st,un,kc,th,po,wo,ks,⟨Zc,(ta9.same sA).oth rm nx oB,oB _ _ xi (sA _ _ hc9),Y3 rm oB (sA _ _ ht9) (λ_ _ _ z=>nomatch z),Y3 rm oB (sA _ _ hq9) (λ_ _ _ z=>nomatch z),(w9.same sA).oth rm oB,sw,Y3 rm oB (sA _ _ xv) (λ_ _ _ z=>nomatch z),Y3 rm oB hsA (λ_ _ _ z=>nomatch z)⟩,hst0,sk,hsu⟩
def Kr {l:List (Str × V)} {x:Str}:(valV (dS l) (Sum.inr x)).isSome=hasS l x:=by
 unfold valV hasS dS
 induction l with
 | nil=>rfl
 | cons kv l ih =>
  rw [List.map_cons,List.find?_cons,List.any_cons];by_cases z:kv.1=x
  ·rw [decide_eq_true z,decide_eq_true (show (Sum.inr kv.1:Key)=Sum.inr x by rw [z])]; rfl
  ·rw [decide_eq_false z,decide_eq_false (show ¬ (Sum.inr kv.1:Key)=Sum.inr x from λy=>z (by injection y)),Bool.false_or]
   exact ih
def U3 (CS EB ET:Addr):Sp:=λvs H Q E=>∃ (sc kc th po:Addr) (te wo:V) (x:Str) (l1 l2:List (Str × V)),vs=[.ref sc,.str x]/\H sc=some (.ins CS kc (Xc te (.ref th) (.ref po) wo))/\H th=some (.dK (dS l1))/\H po=some (.dK (dS l2))/\x.cps.all (· < 128)=true/\x.cps.size<=900 /\
 (isN x=false->∀ H',Same H H'->E (.ref EB) none H')/\(isN x=true->(hasS l1 x || hasS l2 x)=true->∀ H',Same H H'->E (.ref ET) none H')/\(isN x=true->(hasS l1 x || hasS l2 x)=false->∀ H',Same H H'->Q .non H')
def On:Sp:=λvs H Q _=>∃ (d:Addr) (x:Str) (l:List (Str × V)),vs=[.ref d,.str x]/\H d=some (.dK (dS l))/\l.length<=900/\(l.map (·.1)).Nodup/\∀ (e:Addr) (H':Hp),Same H H'->H e=none->H' e=some (.dK (dS (l.filter λkv=>decide (kv.1≠x))))->Q (.ref e) H'
def Zlr {l:List (Str × V)} {i:Nat} {k:Key} {v:V} (h:(dS l)[i]?=some (k,v)):∃ kv,l[i]?=some kv/\k=Sum.inr kv.1/\v=kv.2:=by
 unfold dS at h;rw [Ah] at h;obtain ⟨kv,h1,h2⟩:=Option.map_eq_some_iff.mp h;cases h2;exact ⟨kv,h1,Z,Z⟩
def Zkn {l:List (Str × V)} {x:Str} {v:V} (hn:x ∉ l.map (·.1)):putK (dS l) (Sum.inr x) v=dS (l ++ [(x,v)]):=by
 have:((dS l).any λkv=>decide (kv.1=(Sum.inr x:Key)))=false:=by
  rw [List.any_eq_false];intro kv hk z;unfold dS at hk;obtain ⟨y,hy,rfl⟩:=List.mem_map.mp hk;have e:=of_decide_eq_true z
  injection e with e
  exact hn (List.mem_map.mpr ⟨y,hy,e⟩)
 unfold putK;rw [this,if_neg (by decide)];unfold dS;rw [Aj];rfl
def U7:FnScope ["scene","name"] ["scene","name"] (Ze J0):=Am
def Jq (T:Txt w K mg t):FnOk P w K mg base (CXr P w) 3 t.bI t.bL ["scene","name"] (U3 t.af t.aZ t.cV):=by
 refine T.aU.F.aX U7 (λ_ _ _ _ H vs Q E hr h=>?_)
 ·obtain ⟨sc,kc,th,po,te,wo,x,l1,l2,rfl,ly,on,oq,hx,hz,kB,kT,kQ⟩:=h
  have hu:=Xl hr;refine ⟨_,(Zi (Zt (X4 (Xz (pcT (Zef T) hr T.ge (Za (pv 1) Zb)))) (Zg (Z1 T.iJ FBV Z T.cN Z (Za Zq Zb))) Z6)
   (Zg (Zt (PW.pt (Fz (Qe (Zfy hu (pv 1) (Zz (pv 0) rfl)) (by with_unfolding_all rfl)) (O8 (Qe (Zfy hu (pv 1) (Zz (pv 0) rfl)) (by with_unfolding_all rfl))))) (Zg (Z1 T.jf FBV rfl T.fG rfl (Za Zq Zb))) Z6))),?_⟩
  refine ⟨_,Z,x,Z,hx,hz,λH1 s1=>⟨_,Z,?_⟩⟩
  cases e:isN x with
  | false=>exact iteT ⟨by decide,kB e H1 s1⟩
  | true =>
   refine iteF ?_;have vy:=s1 _ _ ly;refine ⟨_,Z,_,Z,sc,_,kc,_,.ref th,Z,vy,T.ai,T.ax,Z,th,_,Z,.inl ⟨_,Sum.inr x,.inl (s1 _ _ on),Z,Z⟩,_,Z,?_⟩;rw [Kr]
   cases e1:hasS l1 x with
   | true=>exact iteT (iteT ⟨by decide,kT e (by rw [e1]; rfl) H1 s1⟩)
   | false =>
    refine iteF ?_;refine ⟨_,Z,_,Z,sc,_,kc,_,.ref po,Z,vy,T.ai,T.aB,Z,po,_,Z,.inl ⟨_,Sum.inr x,.inl (s1 _ _ oq),Z,Z⟩,_,Z,?_⟩;rw [Kr]
    cases e2:hasS l2 x with
    | true=>exact iteT ⟨by decide,kT e (by rw [e1,e2]; rfl) H1 s1⟩
    | false=>exact iteF (kQ e (by rw [e1,e2]; rfl) H1 s1)
def Ot:FnScope ["table","name"] ["table","name"] (Ze Qb):=Am
def J4 (T:Txt w K mg t):FnOk P w K mg base (CXr P w) 1 t.bR t.bV ["table","name"] On:=by
 refine T.bg.F.aR Ot (λ_ _ _ _ H vs Q E hr h=>?_)
 ·obtain ⟨d,x,l,rfl,hd,hl,nd,k⟩:=h
  have hu:=Xl hr;refine ⟨_,(Zh (Zr (Ziv (G2 (ts:=["key","value"]) (fv:=[("name",1)]) ⟨rfl,by decide +kernel,by decide +kernel,Yf (by rfl),⟨⟨rfl,rfl,Or.inl rfl⟩,trivial⟩⟩ rfl (Zbc (pv 0) ⟨rfl,rfl,rfl⟩) (λ_ _ _ _=>(Zc8 (n:=2) K rfl (Xi (Zx (i:=0) (show List.Nodup (["key","value","name"]:List Str) from by decide +kernel) rfl (Or.inl rfl) (Or.inr rfl)) (Xi (Zx (i:=1) (show List.Nodup (["key","value","name"]:List Str) from by decide +kernel) rfl (Or.inl rfl) (Or.inr rfl)) Qg)))) (λ_ _ _ _=>(Zc4 (Zm F0 (pv 0) (pv 2) (Zl _)))) (λ_ _ _=>rfl) (λ_ _ _ _ _ _=>Zbg (pv 0) (pv 1)))))),?_⟩;refine ⟨_,Z,d,_,Z,.inl ⟨hd,λo=>?_⟩⟩;intro D hD;obtain ⟨yt,lz⟩:=Xx hD;have hll:=Zbx l;refine Zem (kvs:=dS l) (λi σ H3=>∃ v0 v1,σ=[v0,v1,some (.str x)]/\(∀ b u,b≠d->H b=some u->H3 b=some u)/\H3 d=some (.frz o (.dK (dS l)))/\H3 D=some (.dK (dS ((l.take i).filter λkv=>decide (kv.1≠x))))) ⟨none,none,Z,λb u hb e=>by rw [Zf (Zj e lz),Zf hb]; exact e,by rw [Zf (Ne.symm yt),Zc],Zc⟩ ?_ ?_ ?_
  ·rintro i σ H3 _ ⟨v0,v1,rfl,_,e,_⟩
   exact e
  ·rintro i k0 x0 σ H3 q rc hq ⟨v0,v1,rfl,s3,e3,h3⟩
   obtain ⟨kv,ye,rfl,rfl⟩:=Zlr rc;have yf:i < l.length:=(Aa ye).1;have sq:Same H3 (upd H3 q (.tup [kV (Sum.inr kv.1),kv.2])):=Same.new hq;have hqq:(upd H3 q (.tup [kV (Sum.inr kv.1),kv.2])) q=some (.tup [kV (Sum.inr kv.1),kv.2]):=Zc;generalize upd H3 q (.tup [kV (Sum.inr kv.1),kv.2])=H4 at sq hqq ⊢;have s4:∀ b u,b≠d->H b=some u->H4 b=some u:=λb u hb e=>sq _ _ (s3 b u hb e);have etk:l.take (i + 1)=l.take i ++ [kv]:=by rw [Aw,ye]; rfl
   dsimp only [Z8];refine ⟨q,_,Z,SqT.of hqq,Z,_,_,Z,_,_,Z,Z,?_⟩;refine ⟨_,Z,_,Z,Z,_,Z,?_⟩;show if (!decide (V.str kv.1=V.str x))=true then _ else _
   by_cases c:kv.1=x
   ·rw [c,decide_eq_true rfl]
    refine iteF ⟨_,_,Z,s4,sq _ _ e3,?_⟩;rw [sq _ _ h3,etk,List.filter_append];simp [c]
   ·rw [decide_eq_false (λz=>c (by injection z))]
    have sv:kv.1 ∉ ((l.take i).filter λkv=>decide (kv.1≠x)).map (·.1):=λz=>by
     obtain ⟨y,hy,e⟩:=List.mem_map.mp z;have hy:=(List.mem_filter.mp hy).1;rw [<- List.take_append_drop i l,Aj,List.nodup_append] at nd;refine nd.2.2 y.1 (List.mem_map.mpr ⟨y,hy,Z⟩) kv.1 ?_ e;rw [List.drop_eq_getElem_cons yf,(Aa ye).2];exact List.mem_cons_self
    refine iteT ⟨_,Z,_,Z,_,Sum.inr kv.1,Z,sq _ _ h3,?_,_,_,Z,λb u hb e=>?_,?_,?_⟩
    ·rw [Zbx]
     have:=List.length_filter_le (λkv:Str × V=>decide (kv.1≠x)) (l.take i);rw [Ai] at this;exact Zv (by lia)
    ·rw [Zf (Zj e lz)]; exact s4 b u hb e
    ·rw [Zf (Ne.symm yt)]; exact sq _ _ e3
    ·rw [Zc,Zkn sv,etk,List.filter_append]
     have:[kv].filter (λkv:Str × V=>decide (kv.1≠x))=[kv]:=by simp [c]
     rw [this]
  ·rintro σ H3 ⟨v0,v1,rfl,s3,e3,h3⟩
   rw [hll,List.take_length] at h3;refine ⟨d,o,_,e3,(λo' u z=>by have z:H d=some (.frz o' u):=z; rw [hd] at z; cases z),?_⟩;have sF:Same H (upd H3 d (.dK (dS l))):=λb u e=>by
    by_cases c:b=d
    ·subst c; rw [hd] at e; rw [Zc]; exact e
    ·rw [Zf c]; exact s3 b u c e
   exact k D _ sF lz (by rw [Zf yt]; exact h3)
def okD (m n:Nat):Prop:=Nat.gcd m n < 2 ^ 8900
def Zi3 {m n:Nat} (hm:1<=m) (h:okD m n):F3 (m:Int) (Nat.gcd m n:Nat)/\F3 (n:Int) (Nat.gcd m n:Nat):=by
 have h1:0 < Nat.gcd m n:=Nat.gcd_pos_of_pos_left _ hm;have h3:(((Nat.gcd m n:Nat):Int)).natAbs.log2 < 9000:=by
  refine Ag (log2_lt (k:=8900) ?_ (by decide)) (by decide)
  rw [Int.natAbs_natCast]
  exact h
 exact ⟨⟨by lia,h3⟩,⟨by lia,h3⟩⟩
def Zkf {m n:Nat} (hm:1<=m) (h:m < 2 ^ 8900):okD m n:=Nat.lt_of_le_of_lt (Nat.le_of_dvd hm (Nat.gcd_dvd_left _ _)) h
def Zfb:Sp:=λvs H Q _=>∃ a b:Nat,vs=[.int a,.int b]/\Q (.int (Nat.gcd a b:Nat)) H
def U4 (EF:Addr):Sp:=λvs H Q E=>∃ a b:Int,vs=[.int a,.int b]/\(1<=a->1<=b->Q .non H)/\(a < 1\/b < 1->E (.ref EF) none H)
def Zca (EF:Addr):Sp:=λvs H Q E=>∃ a b:Int,vs=[.int a,.int b]/\(∀ m n:Nat,a=m->b=n->1<=m->1<=n->okD m n/\∀ p,H p=none->Q (.ref p) (upd H p (tp (lowN m n))))/\(a < 1\/b < 1->E (.ref EF) none H)
def W4:FnScope ["one","other"] ["one","other"] (Ze Jm):=Am
def Ue (T:Txt w K mg t):FnOk P w K mg base (CXr P w) 1 t.br t.bw ["one","other"] Zfb:=by
 refine T.bx.F.aR W4 (λ_ _ _ _ H vs Q E hr h=>?_)
 ·obtain ⟨a,b,rfl,k⟩:=h
  refine ⟨_,(Zn (Za7 PassesOwn.never (Wp (pv 1) (λ_=>rfl)) (Zh (Zft (i:=0) (j:=1) Z W4.nd Z Z (by decide) Z Z (Za (pv 1) (Za (Yp X5 (pv 0) (pv 1)) Zb)) (by rfl))))
   (Zh (Zr (pv 0)))),?_⟩;refine ⟨λm σ H1=>∃ a' b':Nat,b'=m/\H1=H/\σ=[some (.int a'),some (.int b')]/\Nat.gcd a' b'=Nat.gcd a b,⟨b,a,b,Z,Z,Z,Z⟩,?_⟩;rintro m σ H1 ⟨a',b',rfl,rfl,rfl,e⟩;refine ⟨_,Z,_,Z,?_⟩;by_cases z:b'=0
  ·subst z
   refine iteF ⟨_,Z,?_⟩;rw [Nat.gcd_zero_right] at e;rw [e];exact k
  ·have hz:((b':Int) != 0)=true:=by simp; lia
   rw [hz];refine iteT ⟨_,λσ' H' h=>h,?_⟩;refine ⟨_,Z,_,Z,_,Z,_,_,Z,Z,(by show (0:Int) < b'; lia),_,_,rfl,?_⟩;refine ⟨a' % b',Nat.mod_lt _ (by lia),b',a' % b',Z,Z,?_,?_⟩
   ·rw [Int.natCast_emod]; rfl
   ·rw [<- e,Nat.gcd_comm a' b',Nat.gcd_rec b' a',Nat.gcd_comm]
def U8:FnScope ["top","bottom"] ["top","bottom"] (Ze J1):=Am
def Oe (T:Txt w K mg t):FnOk P w K mg base (CXr P w) 1 t.bG t.bJ ["top","bottom"] (U4 t.aA):=by
 refine T.bM.F.aX U8 (λ_ _ _ _ H vs Q E hr h=>?_)
 ·obtain ⟨a,b,rfl,k1,k2⟩:=h
  refine ⟨_,(Zg (Zt (PW.pt (Fz (Zm Qq (pv 0) Zd (Zl _)) (O8 (Zm Qq (pv 1) Zd (Zl _))))) (Zg (Z1 T.gB FBV Z T.bp Z (Za Zq Zb))) Z6)),?_⟩;refine ⟨_,Z,_,_,Z,Z,_,Z,?_⟩;refine ite2 (λc=>?_) (λc=>?_)
  ·have c:a < 1:=by simpa using c
   exact iteT ⟨by decide,k2 (.inl c)⟩
  ·have c:¬ a < 1:=by simpa using c
   refine ⟨_,Z,_,_,Z,Z,_,Z,?_⟩;refine ite2 (λd=>?_) (λd=>?_)
   ·have d:b < 1:=by simpa using d
    exact ⟨by decide,k2 (.inr d)⟩
   ·have d:¬ b < 1:=by simpa using d
    exact k1 (by lia) (by lia)
def Ug:FnScope ["top","bottom","measure"] ["top","bottom"] (Ze O2):=Am
def Uz (T:Txt w K mg t):FnOk P w K mg base (CXr P w) 2 t.eO t.fc ["top","bottom"] (Zca t.aA):=by
 refine T.cI.F.aX Ug (λ_ _ _ _ H vs Q E hr h=>?_)
 ·obtain ⟨a,b,rfl,k1,k2⟩:=h
  refine ⟨_,(Zi (Zo (pxT (Oe T) hr T.bM (Za (pv 0) (Za (pv 1) Zb))))
   (Zi (Zw (Zk (i:=2) Ug.nd rfl (Or.inl rfl) (pcT (Ue T) hr T.bx (Za (pv 0) (Za (pv 1) Zb)))))
   (Zg (Zw (Zr (Xr (Za (Yp Zbi (pv 0) (pv 2)) (Za (Yp Zbi (pv 1) (pv 2)) Zb)))))))),?_⟩;refine ⟨_,Z,_,Z,a,b,Z,λha hb=>?_,k2⟩;obtain ⟨m,rfl⟩:∃ m:Nat,a=m:=⟨a.toNat,by lia⟩;obtain ⟨n,rfl⟩:∃ n:Nat,b=n:=⟨b.toNat,by lia⟩;obtain ⟨hbg,k⟩:=k1 m n rfl rfl (by lia) (by lia);obtain ⟨g1,g2⟩:=Zi3 (m:=m) (n:=n) (by lia) hbg;refine ⟨_,Z,_,Z,m,n,Z,?_⟩;dsimp only [Z8];refine ⟨_,Z,_,Z,_,_,Z,Z,g1,_,Z,_,Z,_,_,Z,Z,g2,(by show 2<=sizeLine; rw [sizeLine_eq]; decide),λp hp=>?_⟩;exact k p hp
inductive Tg | pl | th | co | un | wo | fr | ma | gr | lo | ri | se | wa
def Tg.cls (t:Adr):Tg->Addr
 | .pl=>t.aW | .th=>t.aH | .co=>t.au | .un=>t.bu | .wo=>t.a9 | .fr=>t.aA | .ma=>t.aY | .gr=>t.ba | .lo=>t.bt | .ri=>t.fU | .se=>t.aM | .wa=>t.cg
def W8 (ns:List Int) (x:Int):Option Tg:=if x∈keys ns ns.length then (if Zy ns x="rim" then some .ri else if Zy ns x="locked" then some .lo else none) else some .se
def Zfe {ns:List Int} {x:Int} (h:x∈keys ns ns.length) (e:Zy ns x="rim"):W8 ns x=some .ri:=by unfold W8; rw [if_pos h,if_pos e]
def Zd2 {ns:List Int} {x:Int} (h:x∈keys ns ns.length) (e:Zy ns x="locked"):W8 ns x=some .lo:=by unfold W8; rw [if_pos h,if_neg (by rw [e]; decide),if_pos e]
def Os {ns:List Int} {x:Int} (h:x∈keys ns ns.length) (e:Zy ns x="free"):W8 ns x=none:=by unfold W8; rw [if_pos h,if_neg (by rw [e]; decide),if_neg (by rw [e]; decide)]
def Zg5 {ns:List Int} {x:Int} (h:x ∉ keys ns ns.length):W8 ns x=some .se:=by unfold W8; rw [if_neg h]
def Zdv (t:Adr):Sp:=λvs H Q E=>∃ (p c:Addr) (M:List (Option Nat)) (ns:List Int) (x:Int),vs=[.ref p,.ref c]/\Zp t.aa H p M ns/\TD M ns/\ns.length < 64/\H c=some (.dK [])/\x∈keys ns ns.length/\Zy ns x≠"rim"/\∀ H',Same H H'->E (.ref t.a9) none H'
def Fi (t:Adr):Sp:=λvs H Q E=>∃ (p c:Addr) (M:List (Option Nat)) (ns:List Int) (x:Int),vs=[.ref p,.ref c,.int x]/\Zp t.aa H p M ns/\TD M ns/\ns.length < 64/\H c=some (.dK [])/\∀ H',Same H H'->E (.ref (((W8 ns x).getD .wo).cls t)) none H'
def Ol (ns:List Int) (x:Int) (low:Bool):Tg:=if x∈keys ns ns.length then (if Zy ns x="rim" then .ri else if low=true then .fr else .gr) else .se
def Fk (EG:Addr):Sp:=λvs H Q E=>∃ (q:Addr) (v:Nat × Nat),vs=[.ref q]/\H q=some (tp v)/\(v.1<=10 ^ 60->v.2<=10 ^ 60->Q .non H)/\(10 ^ 60 < v.1\/10 ^ 60 < v.2->E (.ref EG) none H)
def Ze6 (t:Adr):Sp:=λvs H Q E=>∃ (p dx be sc st un kc te:Addr) (th po wo:V) (M:List (Option Nat)) (ns:List Int) (x a b:Int),vs=[.ref p,.int x,.int a,.int b]/\H p=some (.ins t.ae dx (Y5 be sc st un))/\H sc=some (.ins t.af kc (Xc (.ref te) th po wo))/\Zp t.aa H te M ns/\TD M ns/\(a < 1\/b < 1\/(a=10 ^ 61/\b=1)) /\
 ∀ H',Same H H'->E (.ref ((Ol ns x (decide (a < 1\/b < 1))).cls t)) none H'
def U6:FnScope ["tent","worths"] ["tent","worths"] (Ze Jz):=Am
def Ud (T:Txt w K mg t):FnOk P w K mg base (CXr P w) 4 t.bH t.bK ["tent","worths"] (Zdv t):=by
 refine T.bO.F.aX U6 (λ_ _ _ _ H vs Q E hr h=>?_)
 ·obtain ⟨p,c,M,ns,x,rfl,ta,td,lc,hc,hx,hs,k⟩:=h
  refine ⟨_,(Zi (Zt (Zm (Zbh hr.units) (Zs (X1 Z) (by rfl) T.b5 PyProof.Rows.boot_sorted (Za (pv 1) Zb)) (pcT (Q4 T) hr T.bE (Za (pv 0) Zb)) (Zl _)) (Zg (Z1 T.hG FBV Z T.b7 Z (Za Zq Zb))) Z6)
   (Y4 Z2)),?_⟩;refine ⟨_,Z,c,_,[],Z,.inl hc,Z,by decide,λl1 ka l7 p8 p6=>?_⟩;have s1:Same H (upd H l1 (.lst (ka.map V.int))):=Same.new l7;refine ⟨_,Z,p,M,ns,Z,ta.same s1,td,lc,λl2 H2 out s2 mk h2 _ sw=>?_⟩;refine ⟨l1,l2,ka,out,Z,Z,SqL.of (s2 _ _ Zc),SqL.of h2,_,Z,?_⟩;have e0:=List.perm_nil.mp p8
  have km:¬ ka=out:=λz=>by
   have:x∈out:=(sw.mem x).mpr ((U5 td hx).mpr hs);rw [<- z,e0] at this;cases this
  rw [decide_eq_false km];exact iteT ⟨by decide,k _ (s1.trans s2)⟩
def Vc:FnScope ["tent","worths","seam","behind","top","bottom","more","less","place","factor","name"] ["tent","worths","seam"] (Ze Uk):=Am
def Fv (T:Txt w K mg t):FnOk P w K mg base (CXr P w) 5 t.dF t.dY ["tent","worths","seam"] (Fi t):=by
 refine T.eg.F.aX Vc (λ_ _ _ _ H vs Q E hr h=>?_)
 ·obtain ⟨p,c,M,ns,x,rfl,ta,td,lc,hc,k⟩:=h
  refine ⟨_,(Zi (Zo (pxT (Vr T) hr T.bW (Za (pv 0) (Za (pv 2) Zb))))
   (Zi (Ji (i:=3) Vc.nd rfl (Or.inl rfl) (pxT (Ud T) hr T.bO (Za (pv 0) (Za (pv 1) Zb))))
   (Y4 Z2))),?_⟩;refine ⟨_,Z,_,Z,p,M,ns,x,Z,ta,td,λhx H' s'=>⟨λe=>?_,λe=>?_,λe=>?_⟩,λhx=>?_⟩
  ·have:=k H' s'; rw [Zfe hx e] at this; exact this
  ·have:=k H' s'; rw [Zd2 hx e] at this; exact this
  ·refine ⟨_,Z,_,Z,p,c,M,ns,x,Z,ta.same s',td,lc,s' _ _ hc,hx,by rw [e]; decide,λH2 s2=>?_⟩
   have:=k H2 (s'.trans s2); rw [Os hx e] at this; exact this
  ·have:=k H (Same.refl _); rw [Zg5 hx] at this; exact this
def Ui:FnScope ["self","name","word","now","threads"] ["self","name","word"] (Ze O6):=Am
def Fq:FnScope ["parts"] ["parts"] (Ze Vi):=Am
def Fw (T:Txt w K mg t):FnOk P w K mg base (CXr P w) 1 t.cS t.c3 ["parts"] (Fk t.ba):=by
 refine T.dc.F.aX Fq (λ_ _ _ _ H vs Q E hr h=>?_)
 ·obtain ⟨q,v,rfl,hq,k1,k2⟩:=h
  refine ⟨_,(Zg (Zt (Zm Qr (Zs (Zgp Z) (by rfl) T.iZ PyProof.Rows.boot_max (Za (pv 0) Zb)) (Xm (v:=.int 1000000000000000000000000000000000000000000000000000000000000) Z T.eF ⟨_,Z⟩) (Zl _)) (Zg (Z1 T.hU FBV Z T.b9 Z (Za Zq Zb))) Z6)),?_⟩;refine ⟨_,Z,q,[(v.1:Int),(v.2:Int)],Z,SqT.of hq,(by show 0 < 2; decide),λm hm u8=>?_⟩;refine ⟨_,_,Z,Z,_,Z,?_⟩;have big:(1000000000000000000000000000000000000000000000000000000000000:Nat)=10 ^ 60:=by decide +kernel
  rw [<- big] at k1 k2;have h1:=u8 (v.1:Int) List.mem_cons_self;have h2:=u8 (v.2:Int) (List.mem_cons_of_mem _ List.mem_cons_self);by_cases c:(1000000000000000000000000000000000000000000000000000000000000:Int) < m
  ·rw [decide_eq_true c]
   refine iteT ⟨by decide,k2 ?_⟩
   rcases Ar hm with rfl | hm
   ·exact .inl (by lia)
   ·rw [Af hm] at c; exact .inr (by lia)
  ·rw [decide_eq_false c]
   exact iteF (k1 (by lia) (by lia))
def W1:FnScope ["self","seam","top","bottom","now","parts","worths","text"] ["self","seam","top","bottom"] (Ze Vl):=Am
def Gg (T:Txt w K mg t):FnOk P w K mg base (CXr P w) 3 t.cU t.c7 ["self","seam","top","bottom"] (Ze6 t):=by
 refine T.bF.F.aX W1 (λ_ _ _ _ H vs Q E hr h=>?_)
 ·obtain ⟨p,dx,be,sc,st,un,kc,te,th,po,wo,M,ns,x,a,b,rfl,hp,ly,ta,td,ow,k⟩:=h
  refine ⟨_,(Zi (Zw (Zk (i:=4) W1.nd Z (Or.inl Z) (Zz (pv 0) Z)))
   (Zi (Ziq (Xa (Zz (pv 4) rfl) T.ac T.ah.m (Xw T) (hr.mono (by decide)) T.ah.b .nil (Za (pv 1) Zb)) Zq Z4 (Zl _) (Zg (Z1 T.jj FBV rfl T.gA rfl (Za Zq Zb))) Z6)
   (Zi (Ji (i:=5) W1.nd rfl (Or.inl rfl) (pxT (Uz T) hr T.cI (Za (pv 2) (Za (pv 3) Zb))))
   (Zi (Zo (pxT (Fw T) hr T.dc (Za (pv 5) Zb)))
   (Y4 Z2))))),?_⟩;unfold Ol at k;refine ⟨_,Z,p,_,dx,_,.ref sc,Z,hp,T.ag,T.av,Z,?_⟩;obtain ⟨dt,cl,na,sp,mt,o,f,B⟩:=id ta;refine ⟨_,Z,sc,_,kc,_,.ref te,Z,ly,T.ai,T.aE,Z,te,dt,_,Z,B.ins,Ye _ _ _ _,_,Z,te,M,ns,x,Z,ta,td,λhx H' s'=>?_,λhx=>?_⟩
  ·refine ⟨Z,_,Z,?_⟩
   by_cases e:Zy ns x="rim"
   ·rw [e,decide_eq_true rfl]
    refine iteT ⟨by decide,?_⟩;have:=k H' s';rw [if_pos hx,if_pos e] at this;exact this
   ·rw [Q8 e]
    refine iteF ?_;rw [if_pos hx,if_neg e] at k;refine ⟨_,Z,_,Z,a,b,Z,λm n ea eb h1 h2=>?_,λhz=>?_⟩
    ·subst ea eb
     have b61:((10 ^ 61:Nat):Int)=10 ^ 61:=by decide +kernel
     have hab':m=10 ^ 61/\n=1:=by
      rcases ow with z | z | ⟨z1,z2⟩
      ·lia
      ·lia
      ·exact ⟨by lia,by lia⟩
     obtain ⟨rfl,rfl⟩:=hab';have hlo:lowN (10 ^ 61) 1=(10 ^ 61,1):=by unfold lowN; rw [Nat.gcd_one_right,Nat.div_one,Nat.div_one]
     refine ⟨Zkf (by decide +kernel) (by decide +kernel),λq hq=>?_⟩;rw [hlo];refine ⟨_,Z,q,(10 ^ 61,1),Z,Zc,λz=>absurd z (by decide +kernel),λ_=>?_⟩;have:=k _ (s'.trans (Same.new (o:=tp (10 ^ 61,1)) hq));rw [if_neg (by rw [decide_eq_true_eq]; lia)] at this;exact this
    ·have:=k H' s'
     rw [if_pos (decide_eq_true hz)] at this;exact this
  ·have:=k H (Same.refl _)
   rw [if_neg hx] at this;exact this
def Zll (be sc st un l4:Addr):putF "undone" (.ref l4) (Y5 be sc st un)=Y5 be sc st l4:=by first | rfl | decide
def Zlm (be sc st un kz:Addr):putF "scene" (.ref kz) (Y5 be sc st un)=Y5 be kz st un:=by first | rfl | decide
def Zgf (be sc st un:Addr):(Y5 be sc st un).length < 1000:=by
 have:(Y5 be sc st un).length=4:=rfl;lia
def Fn (CH:Addr):Sp:=λvs H Q _=>∃ (p dx be sc st un kz:Addr) (x:Str) (l:List V),vs=[.ref p,.str x,.ref kz]/\H p=some (.ins CH dx (Y5 be sc st un))/\H st=some (.lst l)/\l.length<=900 /\
 ∀ (q l4:Addr) (H':Hp),H q=none->H l4=none->(∀ b u,b≠p->b≠st->H b=some u->H' b=some u)->H' p=some (.ins CH dx (Y5 be kz st l4))->H' st=some (.lst (l ++ [.ref q]))->H' q=some (.tup [.str x,.ref sc])->H' l4=some (.lst [])->Q .non H'
def Ft:FnScope ["self","text","scene"] ["self","text","scene"] (Ze Vm):=Am
def Q5 (T:Txt w K mg t):FnOk P w K mg base (CXr P w) 1 t.cT t.c6 ["self","text","scene"] (Fn t.ae):=by
 refine T.aG.F.aR Ft (λ_ _ _ _ H vs Q E hr h=>?_)
 ·obtain ⟨p,dx,be,sc,st,un,kz,x,l,rfl,hp,kn,hl,k⟩:=h
  refine ⟨_,(Zn (Xt (Qp PySem.F.plainAttrs_list PySem.F.slot_list_append PySem.F.type_list_append J6 (Zz (pv 0) Z) (Za (Xr (Za (pv 1) (Za (Zz (pv 0) Z) Zb))) Zb)))
   (Zn (Xh (pv 0) (Yv Zb) rfl)
   (Zh (Xh (pv 0) (pv 2) rfl)))),?_⟩;have u5:p≠st:=λz=>by rw [z,kn] at hp; cases hp
  refine Xf λnxC kg=>?_;refine ⟨_,Z,p,_,dx,_,.ref st,Z,hp,T.ag,T.aT,Z,.inl ⟨Z,_,SqL.of kn⟩,_,Z,_,Z,p,_,dx,_,.ref sc,Z,hp,T.ag,T.av,Z,(by show 2<=sizeLine; decide),λq hq=>?_⟩;have s1:Same H (upd H q (.tup [V.str x,V.ref sc])):=Same.new hq;have h1:(upd H q (.tup [V.str x,V.ref sc])) q=some (.tup [V.str x,V.ref sc]):=Zc;refine ⟨st,_,_,Z,Z,s1 _ _ kn,Zv (by lia),?_⟩;refine kg _ _ ?_;generalize upd H q (.tup [V.str x,V.ref sc])=H1 at s1 h1 ⊢;have hqs:q≠st:=λz=>by rw [z,kn] at hq; cases hq
  have hqp:q≠p:=λz=>by rw [z,hp] at hq; cases hq
  have p2:(upd H1 st (.lst (l ++ [V.ref q]))) p=some (.ins t.ae dx (Y5 be sc st un)):=by rw [Zf u5]; exact s1 _ _ hp
  have q2:(upd H1 st (.lst (l ++ [V.ref q]))) q=some (.tup [V.str x,V.ref sc]):=by rw [Zf hqs]; exact h1
  have t2:(upd H1 st (.lst (l ++ [V.ref q]))) st=some (.lst (l ++ [V.ref q])):=Zc;have o2:∀ b u,b≠p->b≠st->H b=some u->(upd H1 st (.lst (l ++ [V.ref q]))) b=some u:=λb u _ h2 e=>by rw [Zf h2]; exact s1 _ _ e
  generalize upd H1 st (.lst (l ++ [V.ref q]))=H2 at p2 q2 t2 o2 ⊢;refine Xf λnxC kg=>?_;refine ⟨Az _,λl4 me=>?_⟩;have s3:Same H2 (upd H2 l4 (.lst [])):=Same.new me;have u3:(upd H2 l4 (.lst [])) l4=some (.lst []):=Zc
  have sk:H l4=none:=by
   cases e:H l4 with
   | none=>rfl
   | some u =>
    have hne1:l4≠p:=λz=>by rw [z,p2] at me; cases me
    have qw:l4≠st:=λz=>by rw [z,t2] at me; cases me
    rw [o2 _ _ hne1 qw e] at me;cases me
  refine ⟨_,Z,p,_,dx,_,Z,s3 _ _ p2,T.ag,T.cC,Zgf _ _ _ _,?_⟩;rw [Zll];refine kg _ _ ?_;have xr:l4≠p:=λz=>by rw [z,p2] at me; cases me
  refine ⟨_,Z,_,Z,p,_,dx,_,Z,Zc,T.ag,T.av,Zgf _ _ _ _,?_⟩;rw [Zlm,Xy];refine k q l4 _ hq sk (λb u b1 b2 e=>?_) Zc ?_ ?_ ?_
  ·rw [Zf b1]; exact s3 _ _ (o2 b u b1 b2 e)
  ·rw [Zf (Ne.symm u5)]; exact s3 _ _ t2
  ·rw [Zf hqp]; exact s3 _ _ q2
  ·rw [Zf xr]; exact u3
def Jh (H:Hp) (st:Addr) (ds:List Str):Prop:=∃ qs:List Addr,H st=some (.lst (qs.map V.ref))/\qs.length=ds.length/\∀ (i:Nat) (q:Addr) (x:Str),qs[i]?=some q->ds[i]?=some x->∃ v,H q=some (.tup [.str x,v])
def Oth2 (p st:Addr) (H H':Hp):Prop:=∀ b u,b≠p->b≠st->H b=some u->H' b=some u
def Jh.same {H H':Hp} {st:Addr} {ds:List Str} (h:Jh H st ds) (s:Same H H'):Jh H' st ds:=by
 obtain ⟨qs,h1,h2,h3⟩:=h;exact ⟨qs,s _ _ h1,h2,λi q x a b=>(h3 i q x a b).imp λv e=>s _ _ e⟩
def HS (CT CS CH:Addr) (H:Hp) (p st:Addr) (M:List (Option Nat)) (ns:List Int) (l1 l2 ds:List Str):Prop:=∃ (dx be sc un kc te th po:Addr) (wo:V) (L1 L2:List (Str × V)),H p=some (.ins CH dx (Y5 be sc st un))/\H sc=some (.ins CS kc (Xc (.ref te) (.ref th) (.ref po) wo))/\H th=some (.dK (dS L1))/\H po=some (.dK (dS L2)) /\
 Zp CT H te M ns/\Jh H st ds/\L1.map (·.1)=l1/\L2.map (·.1)=l2
def HS.same {CT CS CH:Addr} {H H':Hp} {p st:Addr} {M:List (Option Nat)} {ns:List Int} {l1 l2 ds:List Str} (h:HS CT CS CH H p st M ns l1 l2 ds) (s:Same H H'):HS CT CS CH H' p st M ns l1 l2 ds:=by
 obtain ⟨dx,be,sc,un,kc,te,th,po,wo,L1,L2,h1,h2,h3,h4,h5,h6,h7⟩:=h;exact ⟨dx,be,sc,un,kc,te,th,po,wo,L1,L2,s _ _ h1,s _ _ h2,s _ _ h3,s _ _ h4,h5.same s,h6.same s,h7⟩
def Wd {L:List (Str × V)} {x:Str}:hasS L x=decide (x∈L.map (·.1)):=by
 unfold hasS
 induction L with
 | nil=>rfl
 | cons kv L ih =>
  rw [List.any_cons,ih,List.map_cons];by_cases c:kv.1=x
  ·rw [decide_eq_true c,Bool.true_or]
   exact (decide_eq_true (by rw [<- c]; exact List.mem_cons_self)).symm
  ·rw [decide_eq_false c,Bool.false_or]
   congr 1;rw [List.mem_cons,eq_iff_iff];exact ⟨.inr,λh=>h.elim (λe=>absurd e.symm c) id⟩
def Zkk {be sc st un cl na sp mt:Addr}:Y5 be sc st un≠Xg cl na sp mt:=λe=>by
 have e1:(Y5 be sc st un).map (·.1)=(Xg cl na sp mt).map (·.1):=by rw [e]
 have e2:(Y5 be sc st un).map (·.1)=(Y5 0 0 0 0).map (·.1):=rfl;have e3:(Xg cl na sp mt).map (·.1)=(Xg 0 0 0 0).map (·.1):=rfl;rw [e2,e3] at e1;exact absurd e1 (by decide)
theorem Za3 {α:Type} {g:α->V} (hg:∀ a r,g a≠.ref r):∀ {xs:List α} {ys:List Addr},xs≠[]->xs.map g≠ys.map V.ref
 | [],_,h,_=>h rfl
 | x :: xs,[],_,e=>by cases e
 | x :: xs,y :: ys,_,e=>by injection e with e _; exact hg _ _ e
def Zp.oth2 {C CH:Addr} {H H':Hp} {p st dx be sc un x:Addr} {ds:List Str} {M:List (Option Nat)} {ns:List Int} (h:Zp C H x M ns) (km:ns≠[]) (nq:M.length=ns.length) (hp:H p=some (.ins CH dx (Y5 be sc st un))) (hd:Jh H st ds) (s:Oth2 p st H H'):Zp C H' x M ns:=by
 obtain ⟨dt,cl,na,sp,mt,o,f,B⟩:=h;obtain ⟨qs,d1,d2,d3⟩:=hd;have np:∀ {b u},H b=some u->(∀ C d f,u≠.ins C d f)->b≠p:=λ{b u} e hu z=>by rw [z,hp] at e; exact hu _ _ _ (Ax e).symm
 have ls:∀ b xs,H b=some (.lst xs)->(∀ ys:List Addr,xs≠ys.map V.ref)->H' b=some (.lst xs):=λb xs e hy=>s b _ (np e (λ_ _ _ z=>nomatch z)) (λz=>by rw [z,d1] at e; injection e with e; injection e with e; exact hy _ e.symm) e;have hx:x≠p:=λz=>by
  have:=B.ins
  rw [z,hp] at this
  injection this with e
  injection e with _ _ e
  exact Zkk e
 have xs':x≠st:=λz=>by have:=B.ins; rw [z,d1] at this; cases this
 obtain ⟨ts,r1,r2,r3⟩:=B.rows
 have w5:cl≠st:=λz=>by
  rw [z,d1] at r1
  injection r1 with e
  injection e with e
  cases ts with
  | nil=>rw [List.length_nil] at r2; exact km (List.eq_nil_of_length_eq_zero r2)
  | cons a ts =>
   cases qs with
   | nil=>cases e
   | cons q qs =>
    injection e with e _
    injection e with e
    subst e
    cases ds with
    | nil=>cases d2
    | cons y ds =>
     obtain ⟨v,hv⟩:=d3 0 q y rfl rfl;rw [r3 0 q rfl] at hv
     injection hv with hv
     injection hv with hv
     have:=congrArg List.length hv;exact absurd this (by show 3≠2; decide)
 refine ⟨dt,cl,na,sp,mt,o,f,s _ _ hx xs' B.ins,⟨ts,s _ _ (np r1 (λ_ _ _ z=>nomatch z)) w5 r1,r2,λk t e=>?_⟩,ls _ _ B.names λys=>Za3 (g:=V.int) (λ_ _ z=>nomatch z) km,?_,ls _ _ B.mates λys=>Za3 (λa r z=>by cases a <;> cases z) (λz=>by rw [z] at nq; exact km (List.eq_nil_of_length_eq_zero nq.symm)),λy hy=>ls _ _ (B.at' y hy) λys=>Za3 (g:=nV) (λ_ _ z=>nomatch z) λz=>?_⟩
 ·have h1:=r3 k t e
  exact s _ _ (np h1 (λ_ _ _ z=>nomatch z)) (λz=>by rw [z,d1] at h1; cases h1) h1
 ·have h1:=B.spots
  exact s _ _ (np h1 (λ_ _ _ z=>nomatch z)) (λz=>by rw [z,d1] at h1; cases h1) h1
 ·obtain ⟨i,hi,hx⟩:=Xq.mp hy
  have:=Y2.mpr ⟨hi,hx⟩;rw [z] at this;cases this
def cntS (g:Int->Int) (x:Int):Str:=(Str.empty ++ (toString x:Str)) ++ (Str.ofString ":") ++ figS (g x)
def Kz:Sp:=λvs H Q _=>∃ (c:Addr) (ks:List Int) (g:Int->Int),vs=[.ref c]/\H c=some (.dK (dI ks g))/\ks.length < 64/\(∀ x∈ks,0<=x/\x<=9999/\0<=g x/\g x < 1000000000000000000000000000000000000000000000000000000000000)/\∀ (H':Hp) (r:Str),Same H H'->Asc r->r.length<=5000->Q (.str r) H'
def Zdk {g:Int->Int} {x:Int} (h:0<=x/\x<=9999/\0<=g x/\g x < 1000000000000000000000000000000000000000000000000000000000000):(cntS g x).length<=71:=by
 unfold cntS;rw [Qm,Qm,Qm];have h1:=Zgj h.2.2.1 h.2.2.2;have h2:(toString x:Str).length<=10:=PySem.W.KT.len_num h.1 (by lia);have h3:Str.empty.length=0:=rfl;have h4:(Str.ofString ":").length=1:=by decide
 lia
def Zjf (g:Int->Int) (x:Int):Asc (cntS g x):=by
 unfold cntS;refine (Asc.app (Asc.app (λc hc=>?_) (Asc.num x)) (λc hc=>?_)).app (Zdn _)
 ·have hc:c∈([]:List Nat):=hc; cases hc
 ·revert c hc; show ∀ c∈[58],c < 128; decide
def K5:FnScope ["counts"] ["counts"] (Ze Q2):=Am
def Gf (T:Txt w K mg t):FnOk P w K mg base (CXr P w) 2 t.cu t.cA ["counts"] Kz:=by
 refine T.bo.F.aR K5 (λ_ _ _ _ H vs Q E hr h=>?_)
 ·obtain ⟨c,ks,g,rfl,hc,hl,hk,k⟩:=h
  have hu:=Xl hr;refine ⟨_,(Zh (Zr (Qp PySem.F.plainAttrs_str PySem.F.slot_str_join PySem.F.type_str_join Zda Zq (Za (Yo (ts:=["seam"]) (fv:=[("counts",0)]) ⟨rfl,by decide +kernel,by decide +kernel,Yf (by rfl),⟨⟨rfl,rfl,Or.inl rfl⟩,trivial⟩⟩ rfl (Yy (Zs (X1 rfl) (by rfl) T.b5 PyProof.Rows.boot_sorted (Za (pv 0) Zb))) (λ_ _ _ _=>(Zx (i:=0) (show List.Nodup (["seam","counts"]:List Str) from by decide +kernel) rfl (Or.inl rfl) (Or.inr rfl))) (λ_ _ _ _=>Yh) (λ_ _ _=>rfl) (λ_ _ _ _ _ _=>Ym (Zix (Zj1 (pv 0) (Zjy (Zjz (pcT (Kk T) hr T.dm (Za (Jj hu (pv 1) (pv 0) (λ_ _=>rfl)) Zb)) Zj0)))))) Zb)))),?_⟩;refine ⟨Z,_,Z,c,_,ks,Z,.inl hc,(by unfold dI; rw [List.map_map]; rfl),hl,λl1 ka l7 p8 p6=>?_⟩;have s1:Same H (upd H l1 (.lst (ka.map V.int))):=Same.new l7;have h1:(upd H l1 (.lst (ka.map V.int))) l1=some (.lst (ka.map V.int)):=Zc;generalize upd H l1 (.lst (ka.map V.int))=H1 at s1 h1 ⊢;have hol:ka.length < 64:=by rw [p8.length_eq]; exact hl
  refine ⟨l1,Z,⟨_,SqL.of h1⟩,λD hD=>?_⟩;refine Yj (xs:=ka.map V.int) (λi σ H6=>∃ v,σ=[v,some (.ref c)]/\Same H1 H6/\H6 D=some (.lst (((ka.take i).map (cntS g)).map V.str))) ⟨none,Z,Same.new hD,Zc⟩ ?_ ?_ ?_
  ·rintro i σ H6 _ ⟨v,rfl,s6,_⟩
   exact SqL.of (s6 _ _ h1)
  ·rintro i y σ H6 hy ⟨v,rfl,s6,h6⟩
   rw [Ah] at hy;obtain ⟨x,hx,rfl⟩:=Option.map_eq_some_iff.mp hy;have hxk:x∈ks:=p8.mem_iff.mp (Au hx);have ok:=hk x hxk;have hx10:(toString x:Str).length<=10:=PySem.W.KT.len_num ok.1 (by lia);dsimp only [Z8,tYes];rw [if_pos rfl];have tf:x.natAbs.log2 < 1920:=by
    rcases Nat.eq_zero_or_pos x.natAbs with z | z
    ·rw [z]; decide
    ·exact (Nat.log2_lt (by lia)).mpr (Ag (by lia:x.natAbs < 2 ^ 20) (Nat.pow_le_pow_right (by decide) (by decide)))
   have cl:=Zdk ok;have e58:(Str.ofString ":").length=1:=by decide
   have l1':(Str.empty ++ (toString x:Str)).length<=10:=by rw [Qm]; have e:Str.empty.length=0:=rfl; lia
   have uv:((Str.empty ++ (toString x:Str)) ++ (Str.ofString ":")).length<=11:=by rw [Qm]; lia
   refine ⟨_,Z,x,Z,tf,by rw [sizeLine_eq]; lia,by rw [sizeLine_eq]; exact Nat.le_trans uv (by decide),?_⟩;refine ⟨_,Z,_,Z,c,_,Z,V8 (s6 _ _ (s1 _ _ hc)) hxk,g x,Z,ok.2.2.1,ok.2.2.2,λH7 s7=>?_⟩;have fl:=Zgj ok.2.2.1 ok.2.2.2;refine ⟨_,Z,by rw [sizeLine_eq]; lia,(show (cntS g x).length<=sizeLine by rw [sizeLine_eq]; lia),(show (cntS g x).length<=sizeLine by rw [sizeLine_eq]; lia),?_⟩;refine ⟨_,s7 _ _ h6,by rw [Ab,Ab,Ai]; exact Zv (by lia),_,Z,Same.add (s6.trans s7) hD,?_⟩;rw [Zc,Aw,hx,Aj,Aj];rfl
  ·rintro σ H6 ⟨v,rfl,s6,h6⟩
   rw [Ab,List.take_length] at h6;have sm:=Zcw (B:=71) (l:=ka.map (cntS g)) λy hy=>by
    obtain ⟨x,hx,rfl⟩:=List.mem_map.mp hy
    exact Zdk (hk x (p8.mem_iff.mp hx))
   have jl:=Zhr (Str.ofString " ") (ka.map (cntS g));have e1:(Str.ofString " ").length=1:=by decide
   rw [Ab] at sm jl;rw [e1] at jl;refine ⟨_,D,ka.map (cntS g),Z,Z,SqL.of h6,by decide,by rw [Ab]; lia,k _ _ (s1.trans s6) (Asc.joinS (λc hc=>by have hc:c∈[32]:=hc; rw [Af hc]; decide) λy hy=>?_) (by lia)⟩;obtain ⟨x,hx,rfl⟩:=List.mem_map.mp hy;exact Zjf g x
def Zlu (H:Hp) (c:Addr) (M:List (Option Nat)) (ns:List Int) (g:Int->Int):Prop:=Wy H c ns g/\OkC M ns g/\∀ x∈keys ns ns.length,g x < 1000000000000000000000000000000000000000000000000000000000000
def BadC (H:Hp) (c:Addr) (ns:List Int):Prop:=∃ (kvs:List (Key × V)) (ks:List Int),H c=some (.dK kvs)/\kvs.map (·.1)=ks.map Sum.inl/\ks.length < 64/\¬ ks.Perm (keys ns ns.length)
def Jh.more {H H':Hp} {p st q CH dx:Addr} {fs:List (Str × V)} {ds:List Str} {qs:List Addr} {r:Str} {v:V} (hp:H p=some (.ins CH dx fs)) (d1:H st=some (.lst (qs.map V.ref))) (d2:qs.length=ds.length) (d3:∀ (i:Nat) (q:Addr) (x:Str),qs[i]?=some q->ds[i]?=some x->∃ v,H q=some (.tup [.str x,v])) (o:Oth2 p st H H') (ul:H' st=some (.lst (qs.map V.ref ++ [.ref q]))) (q9:H' q=some (.tup [.str r,v])):Jh H' st (ds ++ [r]):=by
 refine ⟨qs ++ [q],by rw [ul,Aj]; rfl,by rw [Ae,Ae,d2]; rfl,λi z y hz hy=>?_⟩;by_cases c:i < qs.length
 ·rw [Av c] at hz
  rw [Av (by lia)] at hy;obtain ⟨v,hv⟩:=d3 i z y hz hy;exact ⟨v,o _ _ (λe=>by rw [e,hp] at hv; cases hv) (λe=>by rw [e,d1] at hv; cases hv) hv⟩
 ·have hi:i=qs.length:=by
   have:=(Aa hz).1;rw [Ae,At] at this;lia
  subst hi;rw [List.getElem?_append_right (An _),Nat.sub_self] at hz;rw [List.getElem?_append_right (by lia),d2,Nat.sub_self] at hy;cases hz;cases hy;exact ⟨_,q9⟩
def Zag (CT CS CH EB ET EN:Addr):Sp:=λvs H Q E=>∃ (p st c:Addr) (M:List (Option Nat)) (ns:List Int) (l1 l2 ds:List Str) (x:Str),vs=[.ref p,.str x,.ref c]/\HS CT CS CH H p st M ns l1 l2 ds/\TD M ns/\ns.length < 64/\ds.length<=800/\l2.length<=800/\Asc x/\x.length<=900 /\
 (isN x=false->∀ H',Same H H'->E (.ref EB) none H')/\(isN x=true->x∈l1\/x∈l2->∀ H',Same H H'->E (.ref ET) none H') /\
 (isN x=true->x ∉ l1->x ∉ l2->(BadC H c ns/\∀ H',Same H H'->E (.ref EN) none H')\/(∃ g,Zlu H c M ns g/\∀ (H':Hp) (r:Str),Asc r->Oth2 p st H H'->HS CT CS CH H' p st M ns l1 (l2 ++ [x]) (ds ++ [r])->Q .non H'))
def Zah (CT CS CH EU:Addr):Sp:=λvs H Q E=>∃ (p st:Addr) (M:List (Option Nat)) (ns:List Int) (l1 l2 ds:List Str) (x:Str),vs=[.ref p,.str x]/\HS CT CS CH H p st M ns l1 l2 ds/\TD M ns/\ds.length<=800/\l1.length<=800/\l2.length<=800/\l1.Nodup/\l2.Nodup/\Asc x/\x.length<=900 /\
 (x ∉ l1->x ∉ l2->∀ H',Same H H'->E (.ref EU) none H')/\(x∈l1\/x∈l2->∀ (H':Hp) (r:Str),Asc r->Oth2 p st H H'->HS CT CS CH H' p st M ns (l1.filter λy=>decide (y≠x)) (l2.filter λy=>decide (y≠x)) (ds ++ [r])->Q .non H')
def G6 {L:List (Str × V)} {x:Str}:(L.filter λkv=>decide (kv.1≠x)).map (·.1)=(L.map (·.1)).filter λy=>decide (y≠x):=by rw [List.filter_map]; rfl
def Zh2 {M:List (Option Nat)} {ns:List Int} (td:TD M ns):ns≠[]:=λz=>by
 obtain ⟨n,h1,_,h2⟩:=td.n;have:=td.len;rw [z,List.length_nil] at this;lia
def Jk:FnScope ["self","name","counts","now","pools"] ["self","name","counts"] (Ze Uu):=Am
def Vu (T:Txt w K mg t):FnOk P w K mg base (CXr P w) 5 t.dH t.d6 ["self","name","counts"] (Zag t.aa t.af t.ae t.aZ t.cV t.au):=by
 refine T.aP.F.aX Jk (λ_ _ _ _ H vs Q E hr h=>?_)
 ·obtain ⟨p,st,c,M,ns,l1,l2,ds,x,rfl,⟨dx,be,sc,un,kc,te,th,po,wo,L1,L2,hp,ly,on,oq,ta,vc,rfl,rfl⟩,td,lc,vd,mk,hx,hxz,kB,kT,kQ⟩:=h
  have hu:=Xl hr;refine ⟨_,(Zi (Zw (Zk (i:=3) Jk.nd Z (Or.inl Z) (Zz (pv 0) Z)))
   (Zi (Zo (pxT (Jq T) hr T.aU (Za (pv 3) (Za (pv 1) Zb))))
   (Zi (Zo (pxT (Kj T) hr T.aj (Za (Zz (pv 3) rfl) (Za (pv 2) Zb))))
   (Zi (Zw (Zk (i:=4) Jk.nd rfl (Or.inl rfl) (pcT (Zbj T) hr T.er (Za (Zz (pv 3) rfl) (Za (pv 1) (Za (Wf Ku (by rfl) T.iX PySem.Pv.boot_dict (Za (pv 2) Zb)) Zb))))))
   (Zg (Zw (Xt (X2 (pv 0) T.ag T.aG.m (Q5 T) (hr.mono (by decide)) T.aG.b .nil Yg (Za (pcT (Uy T) hr T.cJ (Za (Yv (Za Zq (Za (pv 1) (Za (pcT (Gf T) hr T.bo (Za (pv 2) Zb)) Zb)))) Zb)) (Za (We T.fD (W3 T) (hr.mono (by decide)) rfl T.fq T.aV.b .nil Yg (Za (Zz (pv 3) rfl) (Za (Zz (pv 3) rfl) (Za (pv 4) (Za (Zz (pv 3) rfl) Zb))))) Zb)))))))))),?_⟩
  refine ⟨_,Z,p,_,dx,_,.ref sc,Z,hp,T.ag,T.av,Z,?_⟩;refine ⟨_,Z,_,Z,sc,kc,th,po,_,_,x,L1,L2,Z,ly,on,oq,hx.all,hxz,kB,λe1 e2=>kT e1 (by rw [Wd,Wd,Bool.or_eq_true,decide_eq_true_eq,decide_eq_true_eq] at e2; exact e2),λe1 e2 H1 s1=>?_⟩;rw [Wd,Wd,Bool.or_eq_false_iff,decide_eq_false_iff_not,decide_eq_false_iff_not] at e2;refine ⟨_,Z,sc,_,kc,_,.ref te,Z,s1 _ _ ly,T.ai,T.aE,Z,_,Z,?_⟩
  rcases kQ e1 e2.1 e2.2 with ⟨⟨kvs,ks,b1,b2,b3,b4⟩,kE⟩ | ⟨g,⟨⟨ks,hc,kh⟩,okc,gb⟩,kG⟩
  ·exact .inr ⟨te,c,M,ns,kvs,ks,Z,ta.same s1,lc,s1 _ _ b1,b2,b3,b4,λH' s'=>kE H' (s1.trans s')⟩
  refine .inl ⟨te,c,M,ns,g,Z,ta.same s1,td,lc,⟨ks,s1 _ _ hc,kh⟩,okc,λH2 s2=>?_⟩;have p7:=s1.trans s2;have qz:hasS L2 x=false:=by rw [Wd]; exact decide_eq_false e2.2
  have hx8:x.length<=8:=by
   unfold isN at e1;rw [Bool.and_eq_true,Bool.and_eq_true,decide_eq_true_eq,decide_eq_true_eq] at e1;lia
  refine ⟨_,Z,sc,_,kc,_,.ref po,Z,p7 _ _ ly,T.ai,T.aB,Z,_,Z,_,Z,c,_,Z,.inl (p7 _ _ hc),λw' hw'=>?_⟩;have s3:Same H2 (upd H2 w' (.dK (dI ks g))):=Same.new hw';generalize upd H2 w' (.dK (dI ks g))=H3 at s3 ⊢;rw [Ab] at mk;refine ⟨po,x,.ref w',L2,Z,s3 _ _ (p7 _ _ oq),by lia,qz,λo0 H4 s4 ol h4=>?_⟩;have ub:=p7.trans (s3.trans s4);have qk:=ub _ _ hp;refine ⟨_,Z,p,dx,_,Z,qk,Z,?_⟩;have hkk:∀ y∈ks,0<=y/\y<=9999/\0<=g y/\g y < 1000000000000000000000000000000000000000000000000000000000000:=λy hy=>by
   have mh:=kh.mem_iff.mp hy
   obtain ⟨i,_,hi⟩:=Xq.mp mh
   exact ⟨(td.rng i y hi).1,(td.rng i y hi).2,okc.nn y mh,gb y mh⟩
  have qm:ks.length < 64:=by have h1:=kh.length_eq; have h2:=Gh ns ns.length; lia
  refine ⟨_,Z,_,Z,c,ks,g,Z,ub _ _ hc,qm,hkk,λH5 r5 s5 a5 l5=>?_⟩;refine ⟨(by show 3<=sizeLine; decide),λuv mk=>?_⟩;have s6:=Same.new (o:=.lst [V.str (Str.ofString "pour"),V.str x,V.str r5]) mk;refine ⟨uv,[.inl (Str.ofString "pour"),.inl x,.inl r5],rfl,Zc,(by show 3<=900; decide),λy hy=>?_,?_,λH7 s7=>?_⟩
  ·rcases Ar hy with rfl | hy
   ·exact True.intro
   ·rcases Ar hy with rfl | hy
    ·exact True.intro
    ·rw [Af hy]; exact True.intro
  ·show ((Str.ofString "pour").length + (x.length + (r5.length + 0))) + 3<=1048576
   have:(Str.ofString "pour").length=4:=by decide
   lia
  have uq:=s5.trans (s6.trans s7);have rh:=ub.trans uq;have oj:=rh _ _ ly;have pq:Asc (Txt.join (Str.ofString " ") (([.inl (Str.ofString "pour"),.inl x,.inl r5]:List (Str ⊕ Int)).map wS)):=Zdm λy hy=>by
   rcases Ar hy with rfl | hy
   ·intro c hc; revert c hc; show ∀ c∈[112,111,117,114],c < 128; decide
   ·rcases Ar hy with rfl | hy
    ·exact hx
    ·rw [Af hy]; exact a5
  generalize Txt.join (Str.ofString " ") _=rr at pq ⊢;refine ⟨_,Z,sc,_,kc,_,.ref te,Z,oj,T.ai,T.aE,Z,_,Z,sc,_,kc,_,.ref th,Z,oj,T.ai,T.ax,Z,_,Z,_,Z,sc,_,kc,_,wo,Z,oj,T.ai,T.bc,Z,?_⟩;intro kz ki pj p3 hne';refine ⟨kz,ki,_,_,_,_,Z,Zc,Z,?_⟩;rw [Xy];have s8:Same H7 (upd (upd H7 ki (.own kz)) kz (.ins t.af ki (Xc (.ref te) (.ref th) (.ref o0) wo))):=Same.add (Same.new p3) pj;have c8:(upd (upd H7 ki (.own kz)) kz (.ins t.af ki (Xc (.ref te) (.ref th) (.ref o0) wo))) kz=some (.ins t.af ki (Xc (.ref te) (.ref th) (.ref o0) wo)):=Zc;generalize upd (upd H7 ki (.own kz)) kz (.ins t.af ki (Xc (.ref te) (.ref th) (.ref o0) wo))=H8 at s8 c8 ⊢;have tw:=vc;obtain ⟨qs,d1,d2,d3⟩:=vc;have rg:=rh.trans s8;have wf:=uq.trans s8;refine ⟨p,dx,be,sc,st,un,kz,rr,qs.map V.ref,Z,rg _ _ hp,rg _ _ d1,by rw [Ab]; lia,λq l4 H9 hq me o9 p9 ul q9 u9=>?_⟩;have om:Oth2 p st H H9:=λb u b1 b2 e=>o9 b u b1 b2 (rg b u e);have ne:∀ {HX:Hp} {b:Addr},Same H HX->HX b=none->b≠p/\b≠st:=λ{HX b} sx hb=>⟨(λz=>by rw [z,sx _ _ hp] at hb; cases hb),(λz=>by rw [z,sx _ _ d1] at hb; cases hb)⟩;obtain ⟨n1,n2⟩:=ne rh pj;obtain ⟨n3,n4⟩:=ne (p7.trans s3) ol;have kp:∀ {b kvs},H b=some (.dK kvs)->H9 b=some (.dK kvs):=λ{b kvs} e=>om _ _ (λz=>by rw [z,hp] at e; cases e) (λz=>by rw [z,d1] at e; cases e) e;exact kG H9 rr pq om ⟨dx,be,kz,l4,ki,te,th,o0,wo,L1,L2 ++ [(x,.ref w')],p9,o9 _ _ n1 n2 c8,kp on,o9 _ _ n3 n4 (wf _ _ h4),ta.oth2 (Zh2 td) td.len.symm hp tw om,Jh.more hp d1 d2 d3 om ul q9,Z,by rw [Aj]; rfl⟩
def Jl:FnScope ["self","name","now","threads","pools"] ["self","name"] (Ze Uv):=Am
def Zbo (T:Txt w K mg t):FnOk P w K mg base (CXr P w) 3 t.dJ t.d7 ["self","name"] (Zah t.aa t.af t.ae t.ci):=by
 refine T.bY.F.aX Jl (λ_ _ _ _ H vs Q E hr h=>?_)
 ·obtain ⟨p,st,M,ns,l1,l2,ds,x,rfl,⟨dx,be,sc,un,kc,te,th,po,wo,L1,L2,hp,ly,on,oq,ta,vc,rfl,rfl⟩,td,vd,l7,mk,nd1,nd2,hx,hxz,kU,kQ⟩:=h
  have hu:=Xl hr;refine ⟨_,(Zi (Zw (Zk (i:=2) Jl.nd Z (Or.inl Z) (Zz (pv 0) Z)))
   (Zi (Zt (PW.pt (Za4 (Qe (Vq hu (pv 1) (Zz (pv 2) rfl)) (by with_unfolding_all rfl)) (K9 (Qe (Vq hu (pv 1) (Zz (pv 2) rfl)) (by with_unfolding_all rfl))))) (Zg (Z1 T.iK FBV rfl T.cO rfl (Za Zq Zb))) Z6)
   (Zi (Zw (Zft (i:=3) (j:=4) rfl Jl.nd rfl rfl (by decide) rfl rfl (Za (pcT (J4 T) hr T.bg (Za (Zz (pv 2) rfl) (Za (pv 1) Zb))) (Za (pcT (J4 T) hr T.bg (Za (Zz (pv 2) rfl) (Za (pv 1) Zb))) Zb)) (by rfl)))
   (Zg (Zw (Xt (X2 (pv 0) T.ag T.aG.m (Q5 T) (hr.mono (by decide)) T.aG.b .nil Yg (Za (pcT (Uy T) hr T.cJ (Za (Yv (Za Zq (Za (pv 1) Zb))) Zb)) (Za (We T.fD (W3 T) (hr.mono (by decide)) rfl T.fq T.aV.b .nil Yg (Za (Zz (pv 2) rfl) (Za (pv 3) (Za (pv 4) (Za (Zz (pv 2) rfl) Zb))))) Zb))))))))),?_⟩
  refine Y1 (λσ H'=>σ=[some (.ref p),some (.str x),some (.ref sc),none,none]/\H=H') (λnx k6=>⟨_,Z,p,_,dx,_,.ref sc,Z,hp,T.ag,T.av,Z,k6 _ _ ⟨Z,Z⟩⟩) ?_;rintro σ H' ⟨rfl,rfl⟩;refine Y1 (λσ H'=>σ=[some (.ref p),some (.str x),some (.ref sc),none,none]/\H=H'/\(x∈L1.map (·.1)\/x∈L2.map (·.1))) (λnx k6=>?_) ?_
  ·refine ⟨_,Z,_,Z,sc,_,kc,_,.ref th,Z,ly,T.ai,T.ax,Z,th,_,Z,.inl ⟨_,Sum.inr x,.inl on,Z,Z⟩,_,Z,?_⟩
   rw [Kr,Wd];by_cases c1:x∈L1.map (·.1)
   ·rw [decide_eq_true c1]
    exact iteF (k6 _ _ ⟨Z,Z,.inl c1⟩)
   ·rw [decide_eq_false c1]
    refine iteT ⟨_,Z,_,Z,sc,_,kc,_,.ref po,Z,ly,T.ai,T.aB,Z,po,_,Z,.inl ⟨_,Sum.inr x,.inl oq,Z,Z⟩,_,Z,?_⟩;rw [Kr,Wd];by_cases c2:x∈L2.map (·.1)
    ·rw [decide_eq_true c2]
     exact iteF (k6 _ _ ⟨Z,Z,.inr c2⟩)
    ·rw [decide_eq_false c2]
     exact iteT ⟨by decide,kU c1 c2 H (Same.refl _)⟩
  rintro σ H' ⟨rfl,rfl,hin⟩;rw [Ab] at l7 mk;refine ⟨_,Z,sc,_,kc,_,.ref th,Z,ly,T.ai,T.ax,Z,_,Z,th,x,L1,Z,on,by lia,nd1,λuk H1 s1 hth' h1=>?_⟩;refine ⟨_,Z,sc,_,kc,_,.ref po,Z,s1 _ _ ly,T.ai,T.aB,Z,_,Z,po,x,L2,Z,s1 _ _ oq,by lia,nd2,λo0 H4 s4 ol h4=>?_⟩;have ub:=s1.trans s4;have qk:=ub _ _ hp;refine ⟨_,_,Z,_,Z,p,dx,_,Z,qk,Z,?_⟩;refine ⟨_,Z,(by show 2<=sizeLine; decide),λuv mk=>?_⟩;have s6:=Same.new (o:=.lst [V.str (Str.ofString "lift"),V.str x]) mk;refine ⟨uv,[.inl (Str.ofString "lift"),.inl x],rfl,Zc,(by show 2<=900; decide),λy hy=>?_,?_,λH7 s7=>?_⟩
  ·rcases Ar hy with rfl | hy
   ·exact True.intro
   ·rw [Af hy]; exact True.intro
  ·show ((Str.ofString "lift").length + (x.length + 0)) + 2<=1048576
   have:(Str.ofString "lift").length=4:=by decide
   lia
  have uq:=s6.trans s7;have rh:=ub.trans uq;have oj:=rh _ _ ly;have pq:Asc (Txt.join (Str.ofString " ") (([.inl (Str.ofString "lift"),.inl x]:List (Str ⊕ Int)).map wS)):=Zdm λy hy=>by
   rcases Ar hy with rfl | hy
   ·intro c hc; revert c hc; show ∀ c∈[108,105,102,116],c < 128; decide
   ·rw [Af hy]; exact hx
  generalize Txt.join (Str.ofString " ") _=rr at pq ⊢;refine ⟨_,Z,sc,_,kc,_,.ref te,Z,oj,T.ai,T.aE,Z,_,Z,_,Z,_,Z,sc,_,kc,_,wo,Z,oj,T.ai,T.bc,Z,?_⟩;intro kz ki pj p3 hne';refine ⟨kz,ki,_,_,_,_,Z,Zc,Z,?_⟩;rw [Xy];have s8:Same H7 (upd (upd H7 ki (.own kz)) kz (.ins t.af ki (Xc (.ref te) (.ref uk) (.ref o0) wo))):=Same.add (Same.new p3) pj;have c8:(upd (upd H7 ki (.own kz)) kz (.ins t.af ki (Xc (.ref te) (.ref uk) (.ref o0) wo))) kz=some (.ins t.af ki (Xc (.ref te) (.ref uk) (.ref o0) wo)):=Zc;generalize upd (upd H7 ki (.own kz)) kz (.ins t.af ki (Xc (.ref te) (.ref uk) (.ref o0) wo))=H8 at s8 c8 ⊢;have tw:=vc;obtain ⟨qs,d1,d2,d3⟩:=vc;have rg:=rh.trans s8;have wf:=uq.trans s8;refine ⟨p,dx,be,sc,st,un,kz,rr,qs.map V.ref,Z,rg _ _ hp,rg _ _ d1,by rw [Ab]; lia,λq l4 H9 hq me o9 p9 ul q9 u9=>?_⟩;have om:Oth2 p st H H9:=λb u b1 b2 e=>o9 b u b1 b2 (rg b u e);have ne:∀ {HX:Hp} {b:Addr},Same H HX->HX b=none->b≠p/\b≠st:=λ{HX b} sx hb=>⟨(λz=>by rw [z,sx _ _ hp] at hb; cases hb),(λz=>by rw [z,sx _ _ d1] at hb; cases hb)⟩;obtain ⟨n1,n2⟩:=ne rh pj;obtain ⟨n3,n4⟩:=ne (Same.refl _) hth';obtain ⟨n5,n6⟩:=ne s1 ol;exact kQ hin H9 rr pq om ⟨dx,be,kz,l4,ki,te,uk,o0,wo,_,_,p9,o9 _ _ n1 n2 c8,o9 _ _ n3 n4 ((s4.trans wf) _ _ h1),o9 _ _ n5 n6 (wf _ _ h4),ta.oth2 (Zh2 td) td.len.symm hp tw om,Jh.more hp d1 d2 d3 om ul q9,G6,G6⟩
def Oo (C EW:Addr):Sp:=λvs H Q E=>∃ (p c:Addr) (M:List (Option Nat)) (ns:List Int) (g:Int->Int),vs=[.ref p,.ref c]/\Zp C H p M ns/\TD M ns/\ns.length < 64/\Wy H c ns g/\OkN M ns g/\(∀ k,3 * k + 2 < ns.length->(g3 ns g k).sum % 2=0/\∃ y∈g3 ns g k,(g3 ns g k).sum < 2 * y)/\∀ H',Same H H'->E (.ref EW) none H'
def Zcy (C EM:Addr):Sp:=λvs H Q E=>∃ (p c:Addr) (M:List (Option Nat)) (ns:List Int) (g:Int->Int),vs=[.ref p,.ref c]/\Zp C H p M ns/\TD M ns/\ns.length < 64/\Wy H c ns g/\OkC M ns g/\600 < ((keys ns ns.length).map g).sum/\∀ H',Same H H'->E (.ref EM) none H'
def Ze8 (C EN:Addr):Sp:=λvs H Q E=>∃ (p a:Addr) (M:List (Option Nat)) (ns:List Int),vs=[.ref p,.ref a]/\Zp C H p M ns/\M.length=ns.length/\H a=some (.lst [])/\∀ H',Same H H'->E (.ref EN) none H'
def Zb7 (C:Addr):Sp:=λvs H Q _=>∃ (p q:Addr) (M M':List (Option Nat)) (ns nw:List Int) (n n':Nat),vs=[.ref p,.ref q]/\Zp C H p M ns/\Zp C H q M' nw/\ns.length=3 * n/\nw.length=3 * n'/\n≠n'/\Q .non H
def Zcd (C EA:Addr):Sp:=λvs H Q E=>∃ (p q:Addr) (v:V) (M M':List (Option Nat)) (ns nw:List Int) (n n':Nat),vs=[.ref p,.ref q,v]/\Zp C H p M ns/\Zp C H q M' nw/\ns.length=3 * n/\nw.length=3 * n'/\n≠n'/\E (.ref EA) none H
def Zaa (C EN:Addr):Sp:=λvs H Q E=>∃ p r:Addr,vs=[.ref p,.ref r]/\H r=some (.lst [])/\E (.ref EN) none H
def Zg3 (CH ED:Addr):Sp:=λvs H Q E=>∃ (p dx be sc st un:Addr),vs=[.ref p]/\H p=some (.ins CH dx (Y5 be sc st un))/\H st=some (.lst [])/\E (.ref ED) none H
def Zik (CS CH EB:Addr):Sp:=λvs H Q E=>∃ (p dx be sc st un kc th po:Addr) (te wo v:V) (x:Str) (l1 l2:List (Str × V)),vs=[.ref p,.str x,v]/\H p=some (.ins CH dx (Y5 be sc st un))/\H sc=some (.ins CS kc (Xc te (.ref th) (.ref po) wo))/\H th=some (.dK (dS l1))/\H po=some (.dK (dS l2))/\x.cps.all (· < 128)=true/\x.cps.size<=900/\isN x=false/\∀ H',Same H H'->E (.ref EB) none H'
def F9 (EB:Addr):Sp:=λvs H Q E=>∃ b:Bool,vs=[.bl b]/\(b=true->Q .non H)/\(b=false->E (.ref EB) none H)
def Zg1 (EB:Addr):Sp:=λvs H Q E=>vs=[.str (Str.ofString "")]/\∀ H',Same H H'->E (.ref EB) none H'
def Zdz (EB:Addr):Sp:=λvs H Q E=>∃ p:Addr,vs=[.ref p,.str (Str.ofString "")]/\∀ H',Same H H'->E (.ref EB) none H'
def rdK (t:Adr):List (Key × V):=[(Sum.inr "lay",.ref t.eS),(Sum.inr "pour",.ref t.dh),(Sum.inr "lift",.ref t.di),(Sum.inr "weigh",.ref t.cH),(Sum.inr "turn",.ref t.dj)]
def rd_0 (t:Adr):valV (rdK t) (Sum.inr (Str.ofString ""))=none:=rfl
def Zh7:Txt.split (Str.ofString "") (Str.ofString " ")=[Str.ofString ""]:=by decide +kernel
def Zh1 {l:List Bool} (h:true∈l):l.any id=true:=List.any_eq_true.mpr ⟨true,h,rfl⟩
def Jb (T:Txt w K mg t) {f:Addr} {fd:FuncData} {ps:List Str}:FnOk P w K mg base (CXr P w) 0 f fd ps (λ_ _ _ _=>False):=FnOk.no
def Fx (T:Txt w K mg t):FnOk P w K mg base (CXr P w) 2 t.aL t.bj ["self","rows"] (Zaa t.aa t.bT):=by
 refine T.ar.F.aX Vg (λ_ _ _ _ H vs Q E hr h=>?_)
 ·obtain ⟨p,r,rfl,ny,k⟩:=h
  refine ⟨_,(Zi (Zt (X4 (Wp (pv 1) (λ_=>rfl))) (Zg (Z1 T.i5 FBV Z T.dy Z (Za Zq Zb))) Z6)
   (Y4 Z2)),?_⟩;refine ⟨_,Z,false,.inl ⟨_,SqL.of ny,Z⟩,?_⟩;exact iteT ⟨by decide,k⟩
def Ws (T:Txt w K mg t):FnOk P w K mg base (CXr P w) 2 t.aL t.bj ["self","rows"] (λvs H Q E=>Va t.aa vs H Q E\/Zaa t.aa t.bT vs H Q E):=(Wj T).or (Fx T)
def Kh (T:Txt w K mg t):FnOk P w K mg base (CXr P w) 4 t.al t.am ["tent","counts"] (Oo t.aa t.eV):=by
  refine T.aj.F.aX Yx (λ_ _ _ _ H vs Q E hr h=>?_)
  · obtain ⟨p,c,M,ns,g,rfl,ta,td,lc,lp,ok,hW,k⟩:=h
    have hu:=Xl hr;refine ⟨_,(Zi (Zw (Xt (pcT (Wi T) hr T.aq (Za (pv 0) (Za (pv 1) Zb)))))
      (Zi (Zw (J9 (ts:=["row"]) (fv:=[("counts",1)]) (i:=2) ⟨rfl,by decide +kernel,by decide +kernel,Yf (by rfl),⟨⟨rfl,rfl,Or.inl rfl⟩,trivial⟩⟩ rfl Yx.nd rfl rfl (by rfl) (Yy (Xb (pv 0) T.ac T.ay.m (Jr T) (hr.mono (by decide)) T.ay.b .nil Yg)) (λ_ _ _ _=>(Zx (i:=0) (show List.Nodup (["row","counts"]:List Str) from by decide +kernel) rfl (Or.inl rfl) (Or.inr rfl))) (λ_ _ _ _=>Yh) (λ_ _ _=>rfl) (λ_ _ _ _ _ _=>Ym (Yo (ts:=["seam"]) (fv:=[("counts",1)]) ⟨rfl,by decide +kernel,by decide +kernel,Yf (by rfl),⟨⟨rfl,rfl,Or.inl rfl⟩,trivial⟩⟩ rfl (V4 K (pv 0)) (λ_ _ _ _=>(Zx (i:=0) (show List.Nodup (["seam","counts"]:List Str) from by decide +kernel) rfl (Or.inl rfl) (Or.inr rfl))) (λ_ _ _ _=>Yh) (λ_ _ _=>rfl) (λ_ _ _ _ _ _=>Ym (Jj hu (pv 1) (pv 0) (λ_ _=>rfl)))))))
      (Zi (Zt (Xz (Zs (W0 rfl) (by rfl) T.gX PyProof.Rows.boot_any (Za (Yo (ts:=["triple"]) (fv:=[]) ⟨rfl,by decide +kernel,by decide +kernel,Yf (by rfl),trivial⟩ rfl (Yy (pv 2)) (λ_ _ _ _=>(Zx (i:=0) (show List.Nodup (["triple"]:List Str) from by decide +kernel) rfl (Or.inl rfl) (Or.inr rfl))) (λ_ _ _ _=>Yh) (λ_ _ _=>rfl) (λ_ _ _ _ _ _=>Ym (Xn Z4 (Yp X5 (Zs (Wm K rfl) (by rfl) T.gl PyProof.Rows.boot_sum (Za (pv 0) Zb)) Zd) Zd (Zl _)))) Zb))) (Zg (Z1 T.gZ FBV rfl T.cm rfl (Za Zq Zb))) Z6)
      (Zg (Zt (Xz (Zs (W0 rfl) (by rfl) T.gX PyProof.Rows.boot_any (Za (Yo (ts:=["triple"]) (fv:=[]) ⟨rfl,by decide +kernel,by decide +kernel,Yf (by rfl),trivial⟩ rfl (Yy (pv 2)) (λ_ _ _ _=>(Zx (i:=0) (show List.Nodup (["triple"]:List Str) from by decide +kernel) rfl (Or.inl rfl) (Or.inr rfl))) (λ_ _ _ _=>Yh) (λ_ _ _=>rfl) (λ_ _ _ _ _ _=>Ym (Xn Qr (Yp Ke Zd (Zs (Kt K rfl) (by rfl) T.iZ PyProof.Rows.boot_max (Za (pv 0) Zb))) (Zs (Wm K rfl) (by rfl) T.gl PyProof.Rows.boot_sum (Za (pv 0) Zb)) (Zl _)))) Zb))) (Zg (Z1 T.jn FBV rfl T.gC rfl (Za Zq Zb))) Z6))))),?_⟩
    refine Y1 (λσ H'=>σ=[some (.ref p),some (.ref c),none]/\Same H H') (λnx k6=>⟨_,Z,_,Z,p,c,M,ns,g,Z,ta,td,lc,lp,ok,λH1 s1=>k6 _ _ ⟨Z,s1⟩⟩) ?_;rintro σ H1 ⟨rfl,s1⟩;have mw:=ta.same s1;have r8:=lp.same s1;obtain ⟨n,n1,n40,hn⟩:=td.n;have nq:=td.len;refine Y1 (λσ H'=>∃ (D:Addr) (us:List Addr),σ=[some (.ref p),some (.ref c),some (.ref D)]/\Same H1 H'/\H' D=some (.lst (us.map V.ref))/\us.length=n/\∀ (k:Nat) (u:Addr),us[k]?=some u->H' u=some (.lst ((g3 ns g k).map V.int))) (λnx k6=>?_) ?_
    · obtain ⟨dx,cl,na,sp,mt,o,f,B⟩:=id mw
      refine ⟨_,Z,p,dx,_,Z,B.ins,Ye _ _ _ _,p,M,ns,Z,mw,λlr ts q0 ts1 qx=>?_⟩;have s2:Same H1 (upd H1 lr (.lst (ts.map V.ref))):=Same.new q0;have h2:(upd H1 lr (.lst (ts.map V.ref))) lr=some (.lst (ts.map V.ref)):=Zc;have qt:∀ (k:Nat) (t:Addr),ts[k]?=some t->(upd H1 lr (.lst (ts.map V.ref))) t=some (.tup (row3 ns k)):=λk t e=>s2 _ _ (qx k t e);generalize upd H1 lr (.lst (ts.map V.ref))=H2 at s2 h2 qt ⊢;refine ⟨lr,Z,⟨_,SqL.of h2⟩,λD hD=>?_⟩;obtain ⟨ks,re,kh⟩:=r8.same s2;clear B qx q0;have qi:ts.length=n:=by lia
      refine Yj (xs:=ts.map V.ref) (λi σ H3=>∃ (v:Option V) (us:List Addr),σ=[v,some (.ref c)]/\Same H2 H3/\H3 D=some (.lst (us.map V.ref))/\us.length=i/\∀ (k:Nat) (u:Addr),us[k]?=some u->H3 u=some (.lst ((g3 ns g k).map V.int))) ⟨none,[],Z,Same.new hD,Zc,Z,λk u e=>by simp at e⟩ ?_ ?_ ?_
      · rintro i σ H3 _ ⟨v,us,rfl,sm,_⟩
        exact SqL.of (sm _ _ h2)
      · rintro i y σ H3 hy ⟨v,us,rfl,sm,h3,ml,mj⟩
        obtain ⟨q,hq,rfl⟩:=Yt hy;have hi:i < n:=by rw [<- qi]; exact (Aa hq).1
        dsimp only [Z8,tYes];rw [if_pos rfl];have oo:=sm _ _ (qt i q hq);refine ⟨_,Z,q,Z,⟨_,SqT.of oo⟩,λD2 lz=>?_⟩;refine Qs (xs:=row3 ns i) (λj σ H4=>∃ (v':Option V),σ=[v',some (.ref c)]/\Same H3 H4/\H4 D2=some (.lst (((g3 ns g i).take j).map V.int))) ⟨none,Z,Same.new lz,Zc⟩ ?_ ?_ ?_
        · rintro j σ H4 _ ⟨v',rfl,ko,h4⟩
          exact SqT.of (ko _ _ oo)
        · rintro j x σ H4 hx ⟨v',rfl,ko,h4⟩
          dsimp only [Z8,tYes];rw [if_pos rfl];obtain ⟨z,hz,rfl,hg⟩:=Zeq (g:=g) hx;have ux:z∈ks:=kh.mem_iff.mpr (hz (by lia));refine ⟨_,Z,_,Z,c,_,Z,V8 (ko _ _ (sm _ _ re)) ux,?_⟩;refine ⟨_,h4,?_,_,Z,Same.add ko lz,?_⟩
          · rw [Ab,Ai]
            exact Zv (by have:(g3 ns g i).length=3:=rfl; lia)
          · rw [Zc,Aw,hg]
            simp
        · rintro σ H4 ⟨v',rfl,ko,h4⟩
          have pe:H4 D2=some (.lst ((g3 ns g i).map V.int)):=h4;refine ⟨_,ko _ _ h3,(by rw [Ab]; exact Zv (by lia)),_,us ++ [D2],Z,Same.add (sm.trans ko) hD,?_,?_,?_⟩
          · rw [Zc]; simp
          · rw [Ae,At,ml]
          · intro k u z
            by_cases hk:k < us.length
            · rw [Av hk] at z
              have gg:=ko _ _ (mj k u z);rw [Zf (λe=>by rw [e,ko _ _ h3] at gg; exact Qj gg)];exact gg
            · have vb:k=us.length:=by
                have:=(Aa z).1;rw [Ae,At] at this;lia
              subst vb;have:u=D2:=by simpa using z.symm
              subst this;rw [ml,Zf (λe=>by rw [e,ko _ _ h3] at pe; exact Qj pe)];exact pe
      rintro σ H3 ⟨v,us,rfl,sm,h3,ml,mj⟩;rw [Ab] at ml;exact k6 _ _ ⟨D,us,Z,s2.trans sm,h3,by lia,mj⟩
    rintro σ H3 ⟨D,us,rfl,sm,h3,ml,mj⟩;refine Y1 (λσ H'=>σ=[some (.ref p),some (.ref c),some (.ref D)]/\Same H3 H') (λnx k6=>?_) ?_
    · refine ⟨_,Z,D,Z,⟨_,SqL.of h3⟩,λD1 m6=>?_⟩
      refine Yj (xs:=us.map V.ref) (λi σ H4=>∃ (v:Option V),σ=[v]/\Same H3 H4/\H4 D1=some (.lst ((List.replicate i false).map V.bl))) ⟨none,Z,Same.new m6,Zc⟩ ?_ ?_ ?_
      · rintro i σ H4 _ ⟨v,rfl,s4,_⟩
        exact SqL.of (s4 _ _ h3)
      · rintro i y σ H4 hy ⟨v,rfl,s4,h4⟩
        obtain ⟨u,nh,rfl⟩:=Yt hy;have hi:i < us.length:=(Aa nh).1;dsimp only [Z8,tYes];rw [if_pos rfl];refine ⟨_,Z,u,_,Z,SqL.of (s4 _ _ (mj i u nh)),_,_,Z,Z,(by show (0:Int) < 2; decide),rfl,?_⟩;refine ⟨_,h4,(by rw [Ab,List.length_replicate]; exact Zv (by lia)),_,Z,Same.add s4 m6,?_⟩;rw [Zc,List.replicate_succ',Aj];show some (HO.lst (_ ++ [V.bl (decide (V.int ((g3 ns g i).sum % 2)=V.int 1))]))=_;rw [(hW i (by lia)).1];rfl
      rintro σ H4 ⟨v,rfl,s4,h4⟩;refine ⟨D1,_,Z,SqL.of h4,_,Z,?_⟩;rw [V1];exact iteF (k6 _ _ ⟨Z,s4⟩)
    rintro σ H4 ⟨rfl,s4⟩;have vh:=s4 _ _ h3;have sj:∀ (k:Nat) (u:Addr),us[k]?=some u->H4 u=some (.lst ((g3 ns g k).map V.int)):=λk u e=>s4 _ _ (mj k u e);refine ⟨_,Z,D,Z,⟨_,SqL.of vh⟩,λD1 m6=>?_⟩;refine Yj (xs:=us.map V.ref) (λi σ H5=>∃ (v:Option V),σ=[v]/\Same H4 H5/\H5 D1=some (.lst ((List.replicate i true).map V.bl))) ⟨none,Z,Same.new m6,Zc⟩ ?_ ?_ ?_
    · rintro i σ H5 _ ⟨v,rfl,s5,_⟩
      exact SqL.of (s5 _ _ vh)
    · rintro i y σ H5 hy ⟨v,rfl,s5,h5⟩
      obtain ⟨u,nh,rfl⟩:=Yt hy;have hi:i < us.length:=(Aa nh).1;dsimp only [Z8,tYes];rw [if_pos rfl];have uy:=s5 _ _ (sj i u nh);refine ⟨_,Z,u,_,Z,SqL.of uy,(by show 0 < 3; decide),λm hm u8=>?_⟩;refine ⟨_,_,Z,Z,(by show CMul 2 m; exact .inl ⟨by decide,by decide⟩),_,Z,u,_,Z,SqL.of uy,_,_,Z,Z,?_⟩;have e:(g3 ns g i).sum < 2 * m:=by
        obtain ⟨_,y,hy,hl⟩:=hW i (by lia)
        have:=u8 y hy
        lia
      refine ⟨_,h5,(by rw [Ab,List.length_replicate]; exact Zv (by lia)),_,Z,Same.add s5 m6,?_⟩;rw [Zc,List.replicate_succ',Aj];show some (HO.lst (_ ++ [V.bl (decide ((g3 ns g i).sum < 2 * m))]))=_;rw [decide_eq_true e];rfl
    rintro σ H5 ⟨v,rfl,s5,h5⟩;refine ⟨D1,_,Z,SqL.of h5,_,Z,?_⟩;rw [Zh1 (List.mem_replicate.mpr ⟨by rw [Ab]; lia,rfl⟩)];exact iteT ⟨by decide,k _ (s1.trans (sm.trans (s4.trans s5)))⟩
def Wc (T:Txt w K mg t):FnOk P w K mg base (CXr P w) 4 t.al t.am ["tent","counts"] (λvs H Q E=>W7 t.aa t.au vs H Q E\/Op t.aa t.bu vs H Q E\/Oo t.aa t.eV vs H Q E):=(J5 T).or ((Ki T).or (Kh T))
def K2:FnScope ["tent","counts"] ["tent","counts"] (Ze Qy):=Am
def Kg (T:Txt w K mg t):FnOk P w K mg base (CXr P w) 5 t.cq t.cy ["tent","counts"] (Zcy t.aa t.aY):=by
 refine T.cE.F.aX K2 (λ_ _ _ _ H vs Q E hr h=>?_)
 ·obtain ⟨p,c,M,ns,g,rfl,ta,td,lc,lp,ok,sr,k⟩:=h
  refine ⟨_,(Zi (Zw (Xt (pcT (Qi T) hr T.aj (Za (pv 0) (Za (pv 1) Zb)))))
   (Zg (Zt (Zm Qr (Zd8 rfl (pv 1) ⟨rfl,rfl,rfl⟩ (by rfl) T.gl) (Xm (v:=.int 600) rfl T.dr ⟨_,rfl⟩) (Zl _)) (Zg (Z1 T.iI FBV rfl T.cM rfl (Za Zq Zb))) Z6))),?_⟩;refine Y1 (λσ H'=>σ=[some (.ref p),some (.ref c)]/\Same H H') (λnx k6=>⟨_,Z,_,Z,p,c,M,ns,g,Z,ta,td,lc,lp,ok,λH1 s1=>k6 _ _ ⟨Z,s1⟩⟩) ?_;rintro σ H1 ⟨rfl,s1⟩;obtain ⟨ks,r8,kh⟩:=lp.same s1;refine ⟨_,Z,c,_,ks.map g,Z,.inl r8,(by unfold dI; rw [List.map_map,List.map_map]; rfl),_,_,rfl,rfl,_,rfl,?_⟩;have e:(600:Int) < (ks.map g).sum:=by rw [Zgy (kh.map g)]; exact sr
  show if decide ((600:Int) < (ks.map g).sum)=true then _ else _
  rw [decide_eq_true e];exact iteT ⟨by decide,k _ s1⟩
def Zfg:FnScope ["tent","counts","numbers","seen","family","start","way","at"] ["tent","counts"] (Ze Zat):=Am
def Zf3 (T:Txt w K mg t):FnOk P w K mg base (CXr P w) 9 t.gH t.gO ["tent","counts"] (Zcy t.aa t.aY):=by
 refine T.gT.F.aX Zfg (λ_ _ _ _ H vs Q E hr h=>?_)
 ·obtain ⟨p,c,rfl⟩:∃ p c,vs=[.ref p,.ref c]:=by obtain ⟨p,c,M,ns,g,rfl,_⟩:=h; exact ⟨p,c,Z⟩
  exact ⟨_,(Zi (Zo (pxT (Kg T) hr T.cE (Za (pv 0) (Za (pv 1) Zb))))
   (Y4 Z2)),⟨_,rfl,_,rfl,h⟩⟩
def Zg6:FnScope ["tent","word","size"] ["tent","word"] (Ze Zc0):=Am
def Zhi (T:Txt w K mg t):FnOk P w K mg base (CXr P w) 7 t.ie t.ij ["tent","word"] (Ze8 t.aa t.aH):=by
 refine T.ip.F.aX Zg6 (λ_ _ _ _ H vs Q E hr h=>?_)
 ·obtain ⟨p,a,M,ns,rfl,ta,hM,ha,k⟩:=h
  refine ⟨_,(Zi (Zo (pxT (Gb T) hr T.cD (Za (pv 0) (Za (pv 1) Zb))))
   (Y4 Z2)),?_⟩;exact ⟨_,rfl,_,rfl,p,a,M,ns,[],rfl,ta,hM,ha,Az _,λH' s'=>⟨λe=>(by cases e),λ_=>k H' s'⟩⟩
def Zd3:FnScope ["one","other","laid","spare","start","goals","spots"] ["one","other"] (Ze Gr):=Am
def Zeb (T:Txt w K mg t):FnOk P w K mg base (CXr P w) 7 t.fP t.f6 ["one","other"] (Zb7 t.aa):=by
 refine T.gh.F.aX Zd3 (λ_ _ _ _ H vs Q E hr h=>?_)
 ·obtain ⟨p,q,M,M',ns,nw,n,n',rfl,ta,tb,e1,e2,km,k⟩:=h
  refine ⟨_,(Zi (Zw (Xd (Zm F0 (Xb (pv 0) T.ac T.aO.m (Vs T) (hr.mono (by decide)) T.aO.b .nil Yg) (Xb (pv 1) T.ac T.aO.m (Vs T) (hr.mono (by decide)) T.aO.b .nil Yg) (Zl _)) (Zh (Zr Kc)) Yq))
   (Y4 Z2)),?_⟩;obtain ⟨dx,cl,na,sp,mt,o,f,B⟩:=id ta;obtain ⟨ox,cl',na',xa,mt',o',f',B'⟩:=id tb;refine ⟨_,Z,p,dx,_,Z,B.ins,Ye _ _ _ _,p,M,ns,n,Z,ta,e1,_,Z,q,ox,_,Z,B'.ins,Ye _ _ _ _,q,M',nw,n',Z,tb,e2,Z,_,Z,?_⟩;rw [decide_eq_false (λz=>km (by injection z with z; lia))];exact iteT k
def Ow:FnScope ["one","other","word","goals","place"] ["one","other","word"] (Ze G0):=Am
def Zei (T:Txt w K mg t):FnOk P w K mg base (CXr P w) 8 t.fQ t.f7 ["one","other","word"] (Zcd t.aa t.bC):=by
 refine T.gi.F.aX Ow (λ_ _ _ _ H vs Q E hr h=>?_)
 ·obtain ⟨p,q,v,M,M',ns,nw,n,n',rfl,ta,tb,e1,e2,km,k⟩:=h
  refine ⟨_,(Zi (Zw (Zk (i:=3) Ow.nd Z (Or.inr Z) (pcT (Zeb T) hr T.gh (Za (pv 0) (Za (pv 1) Zb)))))
   (Zi (Zt (Zm Zkc (pv 3) Kc (Zl _)) (Zg (Z1 T.hV FBV rfl T.cc rfl (Za Zq Zb))) Z6)
   (Y4 Z2))),?_⟩;refine ⟨_,Z,_,Z,p,q,M,M',ns,nw,n,n',Z,ta,tb,e1,e2,km,?_⟩;exact ⟨_,Z,Z,_,Z,iteT ⟨by decide,k⟩⟩
def Zar:FnScope ["self","text","earlier"] ["self"] (Ze Ux):=Am
def Zbp (T:Txt w K mg t):FnOk P w K mg base (CXr P w) 1 t.dL t.d8 ["self"] (Zg3 t.ae t.cW):=by
 refine T.aQ.F.aX Zar (λ_ _ _ _ H vs Q E hr h=>?_)
 ·obtain ⟨p,dx,be,sc,st,un,rfl,hp,kn,k⟩:=h
  refine ⟨_,(Zi (Zt (X4 (Wp (Zz (pv 0) Z) (λ_=>rfl))) (Zg (Z1 T.i6 FBV Z T.dz Z (Za Zq Zb))) Z6)
   (Y4 Z2)),?_⟩;refine ⟨_,Z,p,_,dx,_,.ref st,Z,hp,T.ag,T.aT,Z,false,.inl ⟨_,SqL.of kn,Z⟩,?_⟩;exact iteT ⟨by decide,k⟩
def Zcq (T:Txt w K mg t):FnOk P w K mg base (CXr P w) 7 t.eQ t.fh ["self","name","word"] (Zik t.af t.ae t.aZ):=by
 refine T.cK.F.aX Ui (λ_ _ _ _ H vs Q E hr h=>?_)
 ·obtain ⟨p,dx,be,sc,st,un,kc,th,po,te,wo,v,x,l1,l2,rfl,hp,ly,on,oq,hx,hz,hn,k⟩:=h
  refine ⟨_,(Zi (Zw (Zk (i:=3) Ui.nd Z (Or.inl Z) (Zz (pv 0) Z)))
   (Zi (Zo (pxT (Jq T) hr T.aU (Za (pv 3) (Za (pv 1) Zb))))
   (Y4 Z2))),?_⟩;refine ⟨_,Z,p,_,dx,_,.ref sc,Z,hp,T.ag,T.av,Z,?_⟩;exact ⟨_,Z,_,Z,sc,kc,th,po,_,_,x,l1,l2,Z,ly,on,oq,hx,hz,λ_=>k,λe=>absurd e (by rw [hn]; decide),λe=>absurd e (by rw [hn]; decide)⟩
def Zal:FnScope ["right"] ["right"] (Ze Um):=Am
def Zbk (T:Txt w K mg t):FnOk P w K mg base (CXr P w) 1 t.dM t.d9 ["right"] (F9 t.aI):=by
 refine T.eu.F.aX Zal (λ_ _ _ _ H vs Q E hr h=>?_)
 ·obtain ⟨b,rfl,h1,h2⟩:=h
  refine ⟨_,(Zg (Zt (X4 (Xz (pv 0))) (Zg (Z1 T.hX FBV Z T.ce Z (Za Zq Zb))) Z6)),?_⟩
  cases b with
  | true=>exact ⟨_,Z,_,Z,iteF (h1 Z)⟩
  | false=>exact ⟨_,Z,_,Z,iteT ⟨by decide,h2 Z⟩⟩
def Ov:FnScope ["text","words","reader"] ["text"] (Ze Gz):=Am
def Zeh (T:Txt w K mg t):FnOk P w K mg base (CXr P w) 5 t.fO t.fZ ["text"] (Zg1 t.aI):=by
 refine T.gf.F.aX Ov (λ_ _ _ _ H vs Q E hr h=>?_)
 ·obtain ⟨rfl,k⟩:=h
  refine ⟨_,(Zi (Zw (Zk (i:=1) Ov.nd Z (Or.inl Z) (Qp PySem.F.plainAttrs_str PySem.F.slot_str_split PySem.F.type_str_split Zbq (pv 0) (Za Zq Zb))))
   (Zi (Zo (pxT (Zbk T) hr T.eu (Za (Zj7 (Zj8 (X3 Y9 (pv 1) Zd (λ_ _=>rfl)) (Xm (v:=.ref t.cf) rfl T.g7 rfl)) (by with_unfolding_all rfl)) Zb)))
   (Y4 Z2))),?_⟩;refine ⟨_,Z,Z,Str.ofString "",Str.ofString " ",rfl,rfl,rfl,(by decide),λl hl=>?_⟩;rw [Zh7];have s1:Same H (upd H l (.lst ([Str.ofString ""].map V.str))):=Same.new hl;refine ⟨_,Z,l,_,_,_,Z,Z,SqL.of Zc,(show atI (List.map V.str [Str.ofString ""]) ((0:Nat):Int)=some (V.str (Str.ofString "")) from Zf7 (i:=0) rfl),t.cf,_,Sum.inr (Str.ofString ""),rfl,T.g8,rfl,_,rfl,λe=>?_,λ_=>k _ s1⟩;have e:(valV (rdK t) (Sum.inr (Str.ofString ""))).isSome=true:=e;rw [rd_0] at e;cases e
def Uh:FnScope ["hall","order","words"] ["hall","order"] (Ze O5):=Am
def Zcp (T:Txt w K mg t):FnOk P w K mg base (CXr P w) 11 t.eT t.fj ["hall","order"] (Zdz t.aI):=by
 refine T.fB.F.aX Uh (λ_ _ _ _ H vs Q E hr h=>?_)
 ·obtain ⟨p,rfl,k⟩:=h
  refine ⟨_,(Zi (Zw (Zk (i:=2) Uh.nd Z (Or.inl Z) (Qp PySem.F.plainAttrs_str PySem.F.slot_str_split PySem.F.type_str_split Zbq (pv 1) (Za Zq Zb))))
   (Zi (Zw (Xd (Zm Z4 (pv 1) Zq (Zl _)) (Zh (Zr (pcT (Jb T) hr T.gU (Za (Xb (pv 0) T.ag T.bz.m (Jb T) (hr.mono (by decide)) T.bz.b .nil Yg) Zb)))) Yq))
   (Zi (Zw (Xd (Zm Z4 (pv 1) Zq (Zl _)) (Zh (Zr (pcT (Jb T) hr T.bo (Za (Xb (pv 0) T.ag T.bZ.m (Jb T) (hr.mono (by decide)) T.bZ.b .nil Yg) Zb)))) Yq))
   (Zi (Zt (PW.pt (Za4 (Zm Z4 (Zs Yl (by rfl) T.bP PySem.boot_len (Za (pv 2) Zb)) Zd (Zl _)) (K9 (Zm Zf1 (X3 Y9 (pv 2) Zd (λ_ _=>rfl)) (Xm (v:=.ref t.aS) rfl T.du rfl) (by with_unfolding_all rfl))))) (Zg (Zip (J3 (Jb T) (hr.mono (by decide)) rfl T.dq.g T.dq.F.kp T.dq.b .nil (Xp (Jo (pv 0)) (Xp (Jo (X3 Y9 (pv 2) Zd (λ_ _=>rfl))) (Xp (pxT (Jb T) hr T.iF (Za (X3 Y9 (pv 2) Zd (λ_ _=>rfl)) Zb)) (Kd Zb))))))) Z6)
   (Zi (Zt (Zm Z4 (pv 1) Zq (Zl _)) (Zg (Zo (G1 (Jo (pv 0)) T.ag T.aQ.m (Jb T) (hr.mono (by decide)) T.aQ.b .nil))) (Zg (Zt (Zm Z4 (pv 1) Zq (Zl _)) (Zg (Zw (Xt (Xb (pv 0) T.ag T.de.m (Jb T) (hr.mono (by decide)) T.de.b .nil Yg)))) (Zg (Zo (J3 (Jb T) (hr.mono (by decide)) rfl T.dn.g T.dn.F.kp T.dn.b .nil (Xp (Jo (pv 0)) (Xp (pxT (Zeh T) hr T.gf (Za (pv 1) Zb)) (Kd Zb)))))))))
   (Zg (Zw (Zr Zq)))))))),?_⟩;refine ⟨_,Z,Z,Str.ofString "",Str.ofString " ",rfl,rfl,rfl,(by decide),λl hl=>?_⟩;rw [Zh7];have s1:Same H (upd H l (.lst ([Str.ofString ""].map V.str))):=Same.new hl;have h1:(upd H l (.lst ([Str.ofString ""].map V.str))) l=some (.lst ([Str.ofString ""].map V.str)):=Zc;generalize upd H l (.lst ([Str.ofString ""].map V.str))=H1 at s1 h1 ⊢;refine ⟨_,Z,Z,false,Z,iteF ?_⟩;refine ⟨_,Z,Z,false,Z,iteF ?_⟩;refine ⟨_,Z,l,_,Z,.inl (SqL.of h1),Z,false,Z,iteF (iteF ?_)⟩;refine ⟨_,Z,Z,false,Z,iteF ⟨_,Z,Z,false,Z,iteF ?_⟩⟩;exact ⟨_,Z,_,Z,Z,λH' s'=>k _ (s1.trans s')⟩
def Zcb (EW:Addr):Sp:=λvs H Q E=>∃ ky:Str,vs=[.str ky]/\(ky="left"->Q (.str "right") H)/\(ky="right"->Q (.str "left") H)/\(¬ (ky="left"\/ky="right")->E (.ref EW) none H)
def Zew:valV [((Sum.inr "left":Key),V.str "right"),(Sum.inr "right",V.str "left")] (Sum.inr "left")=some (.str "right"):=by
 unfold valV;simp
def Zdo:valV [((Sum.inr "left":Key),V.str "right"),(Sum.inr "right",V.str "left")] (Sum.inr "right")=some (.str "left"):=by
 unfold valV
 have:¬ (Sum.inr ("left":Str):Key)=Sum.inr ("right":Str):=λz=>by injection z with z; exact absurd z (by decide)
 simp [List.find?_cons,this]
def Zch:FnScope ["way"] ["way"] (Ze O3):=Am
def Zco (T:Txt w K mg t):FnOk P w K mg base (CXr P w) 2 t.eN t.fb ["way"] (Zcb t.cg):=by
 refine T.fA.F.aX Zch (λ_ _ _ _ H vs Q E hr h=>?_)
 ·obtain ⟨ky,rfl,k1,k2,k3⟩:=h
  refine ⟨_,(Zi (Zo (pxT (Zcm T) hr T.fz (Za (pv 0) Zb)))
   (Zg (Zw (Zr (Ziw (Xm (v:=.ref t.ak) rfl T.bA rfl) (pv 0) (λ_ _=>rfl)))))),?_⟩;refine ⟨_,Z,ky,Z,λhw=>?_,k3⟩
  rcases hw with rfl | rfl
  ·exact ⟨_,Z,t.ak,_,Sum.inr "left",_,rfl,T.aJ,rfl,Zew,k1 rfl⟩
  ·exact ⟨_,Z,t.ak,_,Sum.inr "right",_,rfl,T.aJ,rfl,Zdo,k2 rfl⟩
def tdB (M:List (Option Nat)) (ns:List Int):Bool:=decide (ns.length=M.length) && (List.range M.length).all λi=>decide (0<=ns.getD i 0/\ns.getD i 0<=9999) && (match M.getD i none with
 | none=>true
 | some j=>decide (M[j]?=some (some i)/\i≠j/\ns[j]?=ns[i]?)) && (List.range M.length).all λj=>decide (ns[i]?=ns[j]?->i=j\/M[i]?=some (some j))
def td_b {M:List (Option Nat)} {ns:List Int} {n:Nat} (h1:1<=n) (h2:n<=40) (hn:M.length=3 * n) (h:tdB M ns=true):TD M ns:=by
 unfold tdB at h;rw [Bool.and_eq_true,decide_eq_true_eq,List.all_eq_true] at h;obtain ⟨hl,h⟩:=h;have one:∀ i,i < M.length->(0<=ns.getD i 0/\ns.getD i 0<=9999)/\(∀ j,M[i]?=some (some j)->M[j]?=some (some i)/\i≠j/\ns[j]?=ns[i]?)/\∀ j,j < M.length->ns[i]?=ns[j]?->i=j\/M[i]?=some (some j):=λi hi=>by
  have:=h i (List.mem_range.mpr hi)
  rw [Bool.and_eq_true,Bool.and_eq_true,decide_eq_true_eq,List.all_eq_true] at this
  obtain ⟨⟨a1,a2⟩,a3⟩:=this
  refine ⟨a1,λj e=>?_,λj hj=>of_decide_eq_true (a3 j (List.mem_range.mpr hj))⟩
  rw [Ad,e] at a2
  exact of_decide_eq_true a2
 have at':∀ {i:Nat} {x:Int},ns[i]?=some x->i < M.length/\ns.getD i 0=x:=λ{i x} e=>⟨by rw [<- hl]; exact (Aa e).1,by rw [Ad,e]; rfl⟩;have mt:∀ {i:Nat} {y:Option Nat},M[i]?=some y->i < M.length:=λ{i y} e=>(Aa e).1;refine ⟨⟨n,h1,h2,hn⟩,hl,λi j e=>?_,λi x e=>?_,λi j x e e'=>?_,λi j e=>?_⟩
 ·obtain ⟨z1,z2,_⟩:=(one i (mt e)).2.1 j e
  exact ⟨z1,z2⟩
 ·obtain ⟨z1,z2⟩:=at' e
  have:=(one i z1).1;rw [z2] at this;exact this
 ·exact (one i (at' e).1).2.2 j (at' e').1 (by rw [e,e'])
 ·exact ((one i (mt e)).2.1 j e).2.2
def M2:List (Option Nat):=[some 3,some 4,some 5,some 0,some 1,some 2]
def n2:List Int:=[1,2,3,1,2,3]
def M1:List (Option Nat):=[none,none,none]
def n1:List Int:=[1,2,3]
def M3:List (Option Nat):=[some 1,some 0,none]
def n3:List Int:=[1,1,2]
def td2:TD M2 n2:=td_b (n:=2) (by decide) (by decide) rfl (by decide +kernel)
def td1:TD M1 n1:=td_b (n:=1) (by decide) (by decide) rfl (by decide +kernel)
def td3:TD M3 n3:=td_b (n:=1) (by decide) (by decide) rfl (by decide +kernel)
def Zen:keys n2 n2.length=[1,2,3]:=by decide +kernel
def key1:(1:Int)∈keys n1 n1.length:=by decide +kernel
def key3:(1:Int)∈keys n3 n3.length:=by decide +kernel
def key2:(1:Int)∈keys n2 n2.length:=by decide +kernel
def Zh9:Zy n2 1="free":=by decide +kernel
def Zk9:Zy n1 1="rim":=by decide +kernel
def Zk8:Zy n3 1="locked":=by decide +kernel
def gg (a b c:Int) (x:Int):Int:=if x=1 then a else if x=2 then b else c
def cnt3 {H:Hp} {c:Addr} {a b d:Int} (h:H c=some (.dK [(Sum.inl 1,V.int a),(Sum.inl 2,V.int b),(Sum.inl 3,V.int d)])):Wy H c n2 (gg a b d):=⟨[1,2,3],h,by rw [Zen]⟩
def rim2 {i:Nat} (h:M2[i]?=some none):False:=by
 have hi:i < 6:=(Aa h).1;have:∀ i:Fin 6,M2[i.val]?≠some none:=by decide
 exact this ⟨i,hi⟩ h
def okn2 {a b c:Int} (ha:0<=a) (hb:0<=b) (hc:0<=c):OkN M2 n2 (gg a b c):=⟨λx hx=>by unfold gg; split; exact ha; split; exact hb; exact hc,λi x h _=>(rim2 h).elim⟩
def g3_2 {a b c:Int} {k:Nat} (h:3 * k + 2 < n2.length):g3 n2 (gg a b c) k=[a,b,c]:=by
 have hk:k=0\/k=1:=by
  have:n2.length=6:=rfl;lia
 rcases hk with rfl | rfl <;> rfl
def okc2 {a b c:Int} (ha:0<=a) (hb:0<=b) (hc:0<=c) (he:(a + b + c) % 2=0) (h1:a<=b + c) (h2:b<=a + c) (h3:c<=a + b):OkC M2 n2 (gg a b c):=by
 have o:=okn2 ha hb hc;have e:∀ k,3 * k + 2 < n2.length->gg a b c (n2.getD (3 * k) 0)=a/\gg a b c (n2.getD (3 * k + 1) 0)=b/\gg a b c (n2.getD (3 * k + 2) 0)=c:=λk hk=>by
  have z:=g3_2 (a:=a) (b:=b) (c:=c) hk
  unfold g3 at z
  injection z with z1 z
  injection z with z2 z
  injection z with z3 z
  exact ⟨z1,z2,z3⟩
 refine ⟨o.nn,o.rim,λk hk=>?_,λk hk=>?_⟩
 ·obtain ⟨z1,z2,z3⟩:=e k hk
  rw [z1,z2,z3]; exact he
 ·obtain ⟨z1,z2,z3⟩:=e k hk
  rw [z1,z2,z3]; exact ⟨h1,h2,h3⟩
def exA (t:Adr) (i:Int):Addr:=(exL t).getD i.toNat 0
def ifk {i k:Int} {A B:Prop} (h1:i=k->A) (h2:i≠k->B):if decide (V.int i=V.int k)=true then A else B:=by
 by_cases e:i=k
 ·rw [decide_eq_true (congrArg V.int e)]; exact h1 e
 ·rw [decide_eq_false (λz=>e (by injection z))]; exact h2 e
def Zlc {H:Hp} {t1 l:Addr} {a b c:Int} (h1:H t1=some (.tup [V.int a,V.int b,V.int c])) (hl:H l=some (.lst [V.ref t1])):Xo H l [a,b,c]:=⟨[t1],hl,rfl,λk t' e=>by
 cases k with
 | zero=>cases e; exact h1
 | succ k=>cases e⟩
def Zlb {H:Hp} {t1 t2 l:Addr} {a b c d e f:Int} (h1:H t1=some (.tup [V.int a,V.int b,V.int c])) (h2:H t2=some (.tup [V.int d,V.int e,V.int f])) (hl:H l=some (.lst [V.ref t1,V.ref t2])):Xo H l [a,b,c,d,e,f]:=⟨[t1,t2],hl,rfl,λk t' e=>by
 cases k with
 | zero=>cases e; exact h1
 | succ k =>
  cases k with
  | zero=>cases e; exact h2
  | succ k=>cases e⟩
def mk1 {H:Hp} {t1 l x dx C:Addr} {a b c:Int} (ht:H t1=none) (hl:upd H t1 (.tup [V.int a,V.int b,V.int c]) l=none) (hx:upd (upd H t1 (.tup [V.int a,V.int b,V.int c])) l (.lst [V.ref t1]) x=none) (l8:upd (upd H t1 (.tup [V.int a,V.int b,V.int c])) l (.lst [V.ref t1]) dx=none) :
  Xo (upd (upd (upd (upd H t1 (.tup [V.int a,V.int b,V.int c])) l (.lst [V.ref t1])) dx (.own x)) x (.ins C dx [])) l [a,b,c]/\∀ H3:Hp,(∀ b' u,b'≠x->(upd (upd (upd (upd H t1 (.tup [V.int a,V.int b,V.int c])) l (.lst [V.ref t1])) dx (.own x)) x (.ins C dx [])) b'=some u->H3 b'=some u)->Same H H3:=by
 have p6:=Same.new (o:=.tup [V.int a,V.int b,V.int c]) ht;have l9:=Same.new (o:=.lst [V.ref t1]) hl;have mq:=Same.add (o:=.ins C dx []) (Same.new (o:=.own x) l8) hx;exact ⟨Zlc (mq _ _ (l9 _ _ Zc)) (mq _ _ Zc),λH3 kj b' u e=>kj b' u (Zj ((p6.trans l9) b' u e) hx) ((p6.trans (l9.trans mq)) b' u e)⟩
def mk2 {H:Hp} {t1 t2 l x dx C:Addr} {a b c d e f:Int} (ht:H t1=none) (qc:upd H t1 (.tup [V.int a,V.int b,V.int c]) t2=none) (hl:upd (upd H t1 (.tup [V.int a,V.int b,V.int c])) t2 (.tup [V.int d,V.int e,V.int f]) l=none) (hx:upd (upd (upd H t1 (.tup [V.int a,V.int b,V.int c])) t2 (.tup [V.int d,V.int e,V.int f])) l (.lst [V.ref t1,V.ref t2]) x=none) (l8:upd (upd (upd H t1 (.tup [V.int a,V.int b,V.int c])) t2 (.tup [V.int d,V.int e,V.int f])) l (.lst [V.ref t1,V.ref t2]) dx=none) :
  Xo (upd (upd (upd (upd (upd H t1 (.tup [V.int a,V.int b,V.int c])) t2 (.tup [V.int d,V.int e,V.int f])) l (.lst [V.ref t1,V.ref t2])) dx (.own x)) x (.ins C dx [])) l [a,b,c,d,e,f]/\Same H (upd (upd (upd H t1 (.tup [V.int a,V.int b,V.int c])) t2 (.tup [V.int d,V.int e,V.int f])) l (.lst [V.ref t1,V.ref t2]))/\Same (upd (upd (upd H t1 (.tup [V.int a,V.int b,V.int c])) t2 (.tup [V.int d,V.int e,V.int f])) l (.lst [V.ref t1,V.ref t2])) (upd (upd (upd (upd (upd H t1 (.tup [V.int a,V.int b,V.int c])) t2 (.tup [V.int d,V.int e,V.int f])) l (.lst [V.ref t1,V.ref t2])) dx (.own x)) x (.ins C dx [])):=by
 have p6:=Same.new (o:=.tup [V.int a,V.int b,V.int c]) ht;have l6:=Same.new (o:=.tup [V.int d,V.int e,V.int f]) qc;have l9:=Same.new (o:=.lst [V.ref t1,V.ref t2]) hl;have mq:=Same.add (o:=.ins C dx []) (Same.new (o:=.own x) l8) hx;exact ⟨Zlb (mq _ _ (l9 _ _ (l6 _ _ Zc))) (mq _ _ (l9 _ _ Zc)) (mq _ _ Zc),p6.trans (l6.trans l9),mq⟩
def Zg0 (t:Adr):Sp:=λvs H Q E=>∃ (p:Addr) (i:Int),vs=[.int i,.ref p]/\0<=i/\i < 10/\Zp t.aa H p M2 n2/\∀ H',Same H H'->E (.ref (exA t i)) none H'
def Zfa (t:Adr):Sp:=λvs H Q E=>∃ (p h st:Addr) (i:Int) (ds:List Str),vs=[.int i,.ref p,.ref h]/\10<=i/\i < 20/\Zp t.aa H p M2 n2/\HS t.aa t.af t.ae H h st M2 n2 [] [Str.ofString "a"] ds/\ds.length<=10/\∀ H',Same H H'->E (.ref (exA t i)) none H'
def Zk7 (t:Adr):Sp:=λvs H Q E=>∃ i:Int,vs=[.int i]/\0<=i/\i < 20/\∀ H',Same H H'->E (.ref (exA t i)) none H'
def Zd5:FnScope ["_law_which","_law_tent"] ["_law_which","_law_tent"] (Ze Gu):=Am
def Zed (T:Txt w K mg t):FnOk P w K mg base (CXr P w) 8 t.fR t.f8 ["_law_which","_law_tent"] (Zg0 t):=by
 refine T.gj.F.aX Zd5 (λ_ _ _ _ H vs Q E hr h=>?_)
 ·obtain ⟨p,i,rfl,i0,i9,ta,k⟩:=h
  have hu:=Xl hr;refine ⟨_,(Zg (Zt (Zm Z4 (pv 0) Zd (Zl _)) (Zg (Zo (Ob T.ck (Ws T) (hr.mono (by decide)) Z T.cj T.ar.b .nil (Za (Yv Zb) Zb)))) (Zg (Zt (Zm Z4 (pv 0) Zd (Zl _)) (Zg (Zo (Xa (pv 1) T.ac T.az.m (Js T) (hr.mono (by decide)) T.az.b .nil (Za Zd Zb)))) (Zg (Zt (Zm Z4 (pv 0) Zd (Zl _)) (Zg (Zo (Xa (pv 1) T.ac T.ao.m (Wr T) (hr.mono (by decide)) T.ao.b .nil (Za Zd Zb)))) (Zg (Zt (Zm Z4 (pv 0) Zd (Zl _)) (Zg (Zo (J3 (G3 T) (hr.mono (by decide)) Z T.bf.g T.bf.F.kp T.bf.b .nil (Xp (Ob T.ck (Ws T) (hr.mono (by decide)) Z T.cj T.ar.b .nil (Za (Yv (Za (Xr (Za Zd (Za Zd (Za Zd Zb)))) Zb)) Zb)) (Xp (Jo Zd) (Kd Zb)))))) (Zg (Zt (Zm Z4 (pv 0) Zd (Zl _)) (Zg (Zo (J3 (G3 T) (hr.mono (by decide)) Z T.bf.g T.bf.F.kp T.bf.b .nil (Xp (Ob T.ck (Ws T) (hr.mono (by decide)) Z T.cj T.ar.b .nil (Za (Yv (Za (Xr (Za Zd (Za Zd (Za Zd Zb)))) Zb)) Zb)) (Xp (Jo Zd) (Kd Zb)))))) (Zg (Zt (Zm Z4 (pv 0) Zd (Zl _)) (Zg (Zo (pxT (Zco T) hr T.fA (Za Zq Zb)))) (Zg (Zt (Zm Z4 (pv 0) Zd (Zl _)) (Zg (Zo (pxT (Zhi T) hr T.ip (Za (pv 1) (Za (Yv Zb) Zb))))) (Zg (Zt (Zm Z4 (pv 0) Zd (Zl _)) (Zg (Zo (pxT (Wc T) hr T.aj (Za (pv 1) (Za Jp Zb))))) (Zg (Zt (Zm Z4 (pv 0) Zd (Zl _)) (Zg (Zo (pxT (Wc T) hr T.aj (Za (pv 1) (Za (Qh (Ys Zd Zd (Ys Zd Zd (Ys Zd Zd Qf))) Z Z (List.cons_ne_nil _ _) (by decide)) Zb))))) (Zg (Zo (pxT (Wc T) hr T.aj (Za (pv 1) (Za (Qh (Ys Zd Zd (Ys Zd Zd (Ys Zd Zd Qf))) Z Z (List.cons_ne_nil _ _) (by decide)) Zb))))))))))))))))))))))),?_⟩;obtain ⟨dx,cl,na,sp,mt,o,f,B⟩:=id ta;refine ⟨_,Z,Z,_,Z,ifk (λe=>?_) (λe0=>?_)⟩
  ·subst e
   refine ⟨Az _,λl hl=>?_⟩;intro x ox hx l8 km;exact .inr ⟨x,l,Z,(by rw [Zf (λz=>by rw [z] at hx; rw [Zc] at hx; cases hx),Zf (λz=>by rw [z] at l8; rw [Zc] at l8; cases l8)]; exact Zc),k _ (Same.add (Same.add (Same.new hl) (Xx l8).2) (Xx hx).2)⟩
  refine ⟨_,Z,Z,_,Z,ifk (λe=>?_) (λe1=>?_)⟩
  ·subst e
   exact ⟨_,Z,p,dx,_,Z,B.ins,Ye _ _ _ _,p,M2,n2,99,Z,ta,Z,λi y e h=>absurd (Aa h).1 (by show ¬ i < 6; lia),λ_=>k H (Same.refl _)⟩
  refine ⟨_,Z,Z,_,Z,ifk (λe=>?_) (λe2=>?_)⟩
  ·subst e
   exact ⟨_,Z,p,dx,_,Z,B.ins,Ye _ _ _ _,p,M2,n2,77,Z,ta,λz=>absurd z (by decide +kernel),λ_=>k H (Same.refl _)⟩
  refine ⟨_,Z,Z,_,Z,ifk (λe=>?_) (λe3=>?_)⟩
  ·subst e
   refine ⟨Nat.le_of_lt_succ (by decide),λt1 o3=>⟨(Nat.le_of_lt_succ (by decide):1<=sizeLine),λl hl=>?_⟩⟩;intro x ox hx l8 km;obtain ⟨oy,s1⟩:=mk1 (C:=t.aa) o3 hl hx l8;refine .inl ⟨x,l,ox,M1,n1,Z,Zc,oy,td1,by decide,λH3 kj p5=>⟨Z,x,M1,n1,1,Z,p5,td1,λ_ H' s'=>⟨λ_=>k H' ((s1 H3 kj).trans s'),λe=>absurd (Zk9.symm.trans e) (by decide),λa b l' e=>?_⟩,λz=>absurd key1 z⟩⟩;rw [show pl n1 n1.length 1=[0] by decide +kernel] at e;cases e
  refine ⟨_,Z,Z,_,Z,ifk (λe=>?_) (λe4=>?_)⟩
  ·subst e
   refine ⟨Nat.le_of_lt_succ (by decide),λt1 o3=>⟨(Nat.le_of_lt_succ (by decide):1<=sizeLine),λl hl=>?_⟩⟩;intro x ox hx l8 km;obtain ⟨oy,s1⟩:=mk1 (C:=t.aa) o3 hl hx l8;refine .inl ⟨x,l,ox,M3,n3,Z,Zc,oy,td3,by decide,λH3 kj p5=>⟨Z,x,M3,n3,1,Z,p5,td3,λ_ H' s'=>⟨λe=>absurd (Zk8.symm.trans e) (by decide),λ_=>k H' ((s1 H3 kj).trans s'),λa b l' e _ _ h=>?_⟩,λz=>absurd key3 z⟩⟩;rw [show pl n3 n3.length 1=[0,1] by decide +kernel] at e
   injection e with e1 e2
   injection e2 with e2
   subst e1 e2;exact absurd Z h
  refine ⟨_,Z,Z,_,Z,ifk (λe=>?_) (λe5=>?_)⟩
  ·subst e
   exact ⟨Str.ofString "up",rfl,λz=>absurd z (by decide),λz=>absurd z (by decide),λ_=>k H (Same.refl _)⟩
  refine ⟨_,Z,Z,_,Z,ifk (λe=>?_) (λe6=>?_)⟩
  ·subst e
   refine ⟨_,Z,Az _,λl hl=>?_⟩;have s1:Same H (upd H l (.lst [])):=Same.new hl;exact ⟨p,l,M2,n2,Z,ta.same s1,Z,Zc,λH' s'=>k _ (s1.trans s')⟩
  refine ⟨_,Z,Z,_,Z,ifk (λe=>?_) (λe7=>?_)⟩
  ·subst e
   refine ⟨_,Z,λd hd=>?_⟩;have s1:Same H (upd H d (.dK [])):=Same.new hd;exact .inl ⟨p,d,M2,n2,[],[],Z,ta.same s1,by decide,Zc,Z,by decide,λz=>by rw [Zen] at z; exact absurd z.length_eq (by decide),λH' s'=>k _ (s1.trans s')⟩
  refine ⟨_,Z,Z,_,Z,ifk (λe=>?_) (λe8=>?_)⟩
  ·subst e
   refine ⟨_,Z,λd hd=>?_⟩;refine ⟨Zc,[(Sum.inl 1,V.int 1),(Sum.inl 2,V.int 0),(Sum.inl 3,V.int 0)],Z,(by decide:3<=15),?_⟩;have s1:Same H (upd (upd H d (.dK [])) d (.dK (X6 [] [(Sum.inl 1,V.int 1),(Sum.inl 2,V.int 0),(Sum.inl 3,V.int 0)]))):=Same.add (Same.new hd) hd;exact .inr (.inl ⟨p,d,M2,n2,gg 1 0 0,Z,ta.same s1,td2,by decide,cnt3 Zc,okn2 (by decide) (by decide) (by decide),⟨0,by decide,by rw [g3_2 (by decide)]; decide⟩,λH' s'=>k _ (s1.trans s')⟩)
  ·have e:i=9:=by lia
   subst e;refine ⟨_,Z,λd hd=>?_⟩;refine ⟨Zc,[(Sum.inl 1,V.int 2),(Sum.inl 2,V.int 0),(Sum.inl 3,V.int 0)],Z,(by decide:3<=15),?_⟩;have s1:Same H (upd (upd H d (.dK [])) d (.dK (X6 [] [(Sum.inl 1,V.int 2),(Sum.inl 2,V.int 0),(Sum.inl 3,V.int 0)]))):=Same.add (Same.new hd) hd;exact .inr (.inr ⟨p,d,M2,n2,gg 2 0 0,Z,ta.same s1,td2,by decide,cnt3 Zc,okn2 (by decide) (by decide) (by decide),λk' hk=>by rw [g3_2 hk]; decide,λH' s'=>k _ (s1.trans s')⟩)
def Zcg:FnScope ["_law_which","_law_tent","_law_hall"] ["_law_which","_law_tent","_law_hall"] (Ze O1):=Am
def Zcn (T:Txt w K mg t):FnOk P w K mg base (CXr P w) 12 t.eU t.fk ["_law_which","_law_tent","_law_hall"] (Zfa t):=by
 refine T.fC.F.aX Zcg (λ_ _ _ _ H vs Q E hr h=>?_)
 ·obtain ⟨p,h,st,i,ds,rfl,i0,i9,ta,hs,hd,k⟩:=h
  have hu:=Xl hr;obtain ⟨hx,be,sc,un,kc,te,th,po,wo,L1,L2,q1,q2,q3,q4,q5,q6,q7⟩:=id hs;refine ⟨_,(Zg (Zt (Zm Z4 (pv 0) Zd (Zl _)) (Zg (Zo (pxT (Zf3 T) hr T.gT (Za (pv 1) (Za (Qh (Ys Zd Zd (Ys Zd Zd (Ys Zd Zd Qf))) Z Z (List.cons_ne_nil _ _) (by decide)) Zb))))) (Zg (Zt (Zm Z4 (pv 0) Zd (Zl _)) (Zg (Zo (pxT (Fv T) hr T.eg (Za (pv 1) (Za Jp (Za Zd Zb)))))) (Zg (Zt (Zm Z4 (pv 0) Zd (Zl _)) (Zg (Zo (pxT (Uz T) hr T.cI (Za Zd (Za Zd Zb))))) (Zg (Zt (Zm Z4 (pv 0) Zd (Zl _)) (Zg (Zo (Xa (pv 2) T.ag T.bF.m (Gg T) (hr.mono (by decide)) T.bF.b .nil (Za Zd (Za (Yp Zkb Zd Zd) (Za Zd Zb)))))) (Zg (Zt (Zm Z4 (pv 0) Zd (Zl _)) (Zg (Zo (pxT (Zei T) hr T.gi (Za (pv 1) (Za (We T.ck (Wj T) (hr.mono (by decide)) Z T.cj T.ar.b .nil Yg (Za (Yv (Za (Xr (Za Zd (Za Zd (Za Zd Zb)))) Zb)) Zb)) (Za (Yv Zb) Zb)))))) (Zg (Zt (Zm Z4 (pv 0) Zd (Zl _)) (Zg (Zo (Xa (pv 2) T.ag T.cK.m (Zcq T) (hr.mono (by decide)) T.cK.b .nil (Za Zq (Za (Yv (Za Zd Zb)) Zb))))) (Zg (Zt (Zm Z4 (pv 0) Zd (Zl _)) (Zg (Zo (Xa (pv 2) T.ag T.aP.m (Vu T) (hr.mono (by decide)) T.aP.b .nil (Za Zq (Za (Qh (Ys Zd Zd (Ys Zd Zd (Ys Zd Zd Qf))) Z Z (List.cons_ne_nil _ _) (by decide)) Zb))))) (Zg (Zt (Zm Z4 (pv 0) Zd (Zl _)) (Zg (Zo (Xa (pv 2) T.ag T.bY.m (Zbo T) (hr.mono (by decide)) T.bY.b .nil (Za Zq Zb)))) (Zg (Zt (Zm Z4 (pv 0) Zd (Zl _)) (Zg (Zo (G1 (Jo (We T.iq (Vv T) (hr.mono (by decide)) Z T.ik T.bX.b .nil Yg (Za (Yv (Za (Xr (Za Zd (Za Zd (Za Zd Zb)))) Zb)) Zb))) T.ag T.aQ.m (Zbp T) (hr.mono (by decide)) T.aQ.b .nil))) (Zg (Zo (pxT (Zcp T) hr T.fB (Za (pv 2) (Za Zq Zb))))))))))))))))))))))),?_⟩;refine ⟨_,Z,Z,_,Z,ifk (λe=>?_) (λe0=>?_)⟩
  ·subst e
   refine ⟨_,Z,λd hd=>?_⟩;refine ⟨Zc,[(Sum.inl 1,V.int 400),(Sum.inl 2,V.int 400),(Sum.inl 3,V.int 0)],Z,(by decide:3<=15),?_⟩;have s1:Same H (upd (upd H d (.dK [])) d (.dK (X6 [] [(Sum.inl 1,V.int 400),(Sum.inl 2,V.int 400),(Sum.inl 3,V.int 0)]))):=Same.add (Same.new hd) hd;exact ⟨p,d,M2,n2,gg 400 400 0,Z,ta.same s1,td2,by decide,cnt3 Zc,okc2 (by decide) (by decide) (by decide) (by decide) (by decide) (by decide) (by decide),by rw [Zen]; decide,λH' s'=>k _ (s1.trans s')⟩
  refine ⟨_,Z,Z,_,Z,ifk (λe=>?_) (λe1=>?_)⟩
  ·subst e
   refine ⟨_,Z,λd hd=>?_⟩;have s1:Same H (upd H d (.dK [])):=Same.new hd;refine ⟨p,d,M2,n2,1,Z,ta.same s1,td2,by decide,Zc,λH' s'=>?_⟩;rw [Os key2 Zh9];exact k _ (s1.trans s')
  refine ⟨_,Z,Z,_,Z,ifk (λe=>?_) (λe2=>?_)⟩
  ·subst e
   exact ⟨0,1,Z,λm n ea _ h1=>absurd h1 (by lia),λ_=>k H (Same.refl _)⟩
  refine ⟨_,Z,Z,_,Z,ifk (λe=>?_) (λe3=>?_)⟩
  ·subst e
   refine ⟨_,Z,h,hx,_,Z,q1,Z,_,_,Z,Z,(by unfold CPow; decide),?_⟩;refine ⟨h,hx,be,sc,st,un,kc,te,_,_,wo,M2,n2,1,10 ^ 61,1,Z,q1,q2,q5,td2,.inr (.inr ⟨Z,Z⟩),λH' s'=>?_⟩;have:Ol n2 1 (decide ((10:Int) ^ 61 < 1\/(1:Int) < 1))=.gr:=by
    unfold Ol
    rw [if_pos key2,if_neg (by rw [Zh9]; decide),if_neg (by decide +kernel)]
   rw [this];exact k _ s'
  refine ⟨_,Z,Z,_,Z,ifk (λe=>?_) (λe4=>?_)⟩
  ·subst e
   refine ⟨_,Z,Nat.le_of_lt_succ (by decide),λt1 o3=>⟨(Nat.le_of_lt_succ (by decide):1<=sizeLine),λl hl=>?_⟩⟩;intro x ox hx l8 km;obtain ⟨oy,s1⟩:=mk1 (C:=t.aa) o3 hl hx l8;refine ⟨x,l,ox,M1,n1,Z,Zc,oy,td1,by decide,λH3 kj p5=>⟨Z,Az _,λl2 mk=>?_⟩⟩;have s2:Same H3 (upd H3 l2 (.lst [])):=Same.new mk;have s3:=(s1 H3 kj).trans s2;exact ⟨p,x,_,M2,M1,n2,n1,2,1,Z,ta.same s3,p5.same s2,Z,Z,by decide,k _ s3⟩
  refine ⟨_,Z,Z,_,Z,ifk (λe=>?_) (λe5=>?_)⟩
  ·subst e
   refine ⟨_,Z,h,hx,_,Z,q1,Z,(Nat.le_of_lt_succ (by decide):1<=sizeLine),λl hl=>?_⟩;have s1:Same H (upd H l (.lst [V.int 0])):=Same.new hl;exact ⟨h,hx,be,sc,st,un,kc,th,po,_,_,_,Str.ofString "",L1,L2,rfl,s1 _ _ q1,s1 _ _ q2,s1 _ _ q3,s1 _ _ q4,by decide +kernel,by decide,by decide +kernel,λH' s'=>k _ (s1.trans s')⟩
  refine ⟨_,Z,Z,_,Z,ifk (λe=>?_) (λe6=>?_)⟩
  ·subst e
   refine ⟨_,Z,h,hx,_,Z,q1,Z,λd qr=>?_⟩;refine ⟨Zc,[(Sum.inl 1,V.int 0),(Sum.inl 2,V.int 0),(Sum.inl 3,V.int 0)],Z,(by decide:3<=15),?_⟩;have s1:Same H (upd (upd H d (.dK [])) d (.dK (X6 [] [(Sum.inl 1,V.int 0),(Sum.inl 2,V.int 0),(Sum.inl 3,V.int 0)]))):=Same.add (Same.new qr) qr;exact ⟨h,st,d,M2,n2,[],[Str.ofString "a"],ds,Str.ofString "a",rfl,hs.same s1,td2,by decide,by lia,by decide,(by unfold Asc; decide),by decide,λe=>absurd e (by decide +kernel),λ_ _ H' s'=>k _ (s1.trans s'),λ_ _ e=>absurd List.mem_cons_self e⟩
  refine ⟨_,Z,Z,_,Z,ifk (λe=>?_) (λe7=>?_)⟩
  ·subst e
   refine ⟨_,Z,h,hx,_,Z,q1,Z,?_⟩;exact ⟨h,st,M2,n2,[],[Str.ofString "a"],ds,Str.ofString "b",rfl,hs,td2,by lia,by decide,by decide,List.nodup_nil,by simp,(by unfold Asc; decide),by decide,λ_ _ H' s'=>k _ s',λe=>absurd e (by decide)⟩
  refine ⟨_,Z,Z,_,Z,ifk (λe=>?_) (λe8=>?_)⟩
  ·subst e
   refine ⟨Nat.le_of_lt_succ (by decide),λt1 o3=>⟨(Nat.le_of_lt_succ (by decide):1<=sizeLine),λl hl=>?_⟩⟩;intro x ox hx l8 km;obtain ⟨oy,s1⟩:=mk1 (C:=t.ae) o3 hl hx l8;refine ⟨x,l,ox,M1,n1,Z,Zc,oy,td1,by decide,λH3 kj hn=>⟨Z,?_⟩⟩;obtain ⟨be,xf,st,un,kc,th,po,wo,ks,hn,m1,m2,su⟩:=hn;exact ⟨x,ox,_,Z,hn.ins,Z,x,ox,be,xf,st,un,Z,hn.ins,hn.sta,k _ (s1 H3 kj)⟩
  ·have e:i=19:=by lia
   subst e;exact ⟨_,Z,h,Z,λH' s'=>k _ s'⟩
def K3:FnScope ["_law_which","_law_tent","_law_hall"] ["_law_which"] (Ze Zfq):=Am
def Gc (T:Txt w K mg t):FnOk P w K mg base (CXr P w) 13 t.iL t.iP ["_law_which"] (Zk7 t):=by
 refine T.gy.F.aX K3 (λ_ _ _ _ H vs Q E hr h=>?_)
 ·obtain ⟨i,rfl,i0,i9,k⟩:=h
  have hu:=Xl hr;refine ⟨_,(Zi (Zw (Zk (i:=1) K3.nd Z (Or.inl Z) (We T.ck (Wj T) (hr.mono (by decide)) Z T.cj T.ar.b .nil Yg (Za (Yv (Za (Xr (Za Zd (Za Zd (Za Zd Zb)))) (Za (Xr (Za Zd (Za Zd (Za Zd Zb)))) Zb))) Zb))))
   (Zi (Zw (Zk (i:=2) K3.nd rfl (Or.inl rfl) (We T.iq (Vv T) (hr.mono (by decide)) rfl T.ik T.bX.b .nil Yg (Za (Yv (Za (Xr (Za Zd (Za Zd (Za Zd Zb)))) (Za (Xr (Za Zd (Za Zd (Za Zd Zb)))) Zb))) Zb))))
   (Zi (Zo (Xa (pv 2) T.ag T.aP.m (Vu T) (hr.mono (by decide)) T.aP.b .nil (Za Zq (Za (Qh (Ys Zd Zd (Ys Zd Zd (Ys Zd Zd Qf))) rfl rfl (List.cons_ne_nil _ _) (by decide)) Zb))))
   (Zi (Zt (Zm Qq (pv 0) Zd (Zl _)) (Zg (Zo (pxT (Zed T) hr T.gj (Za (pv 0) (Za (pv 1) Zb))))) (Zg (Zo (pxT (Zcn T) hr T.fC (Za (pv 0) (Za (pv 1) (Za (pv 2) Zb)))))))
   (Zg (Zw (Zr (Ka Q7 Zd)))))))),?_⟩
  refine Y1 (λσ H'=>∃ p:Addr,σ=[some (.int i),some (.ref p),none]/\Same H H'/\Zp t.aa H' p M2 n2) (λnx k6=>?_) ?_
  ·refine ⟨Nat.le_of_lt_succ (by decide),λt1 o3=>⟨Nat.le_of_lt_succ (by decide),λt2 qc=>⟨(Nat.le_of_lt_succ (by decide):2<=sizeLine),λl hl=>?_⟩⟩⟩
   intro x dx hx l8 km;obtain ⟨oy,s1,s2⟩:=mk2 (C:=t.aa) o3 qc hl hx l8;refine ⟨x,l,dx,M2,n2,Z,Zc,oy,td2,by decide,λH3 kj p5=>⟨Z,?_⟩⟩;exact k6 _ _ ⟨x,Z,λb u e=>kj b u (Zj (s1 b u e) hx) ((s1.trans s2) b u e),p5⟩
  rintro σ H1 ⟨p,rfl,s1,ta⟩;refine Y1 (λσ H'=>∃ h st:Addr,σ=[some (.int i),some (.ref p),some (.ref h)]/\Same H1 H'/\H1 h=none/\H1 st=none/\HS t.aa t.af t.ae H' h st M2 n2 [] [] []) (λnx k6=>?_) ?_
  ·refine ⟨Nat.le_of_lt_succ (by decide),λt1 o3=>⟨Nat.le_of_lt_succ (by decide),λt2 qc=>⟨(Nat.le_of_lt_succ (by decide):2<=sizeLine),λl hl=>?_⟩⟩⟩
   intro x dx hx l8 km;obtain ⟨oy,s2,s3⟩:=mk2 (C:=t.ae) o3 qc hl hx l8;refine ⟨x,l,dx,M2,n2,Z,Zc,oy,td2,by decide,λH3 kj hn=>⟨Z,?_⟩⟩;obtain ⟨be,xf,st,un,kc,th,po,wo,ks,hn,m1,m2,su⟩:=hn;exact k6 _ _ ⟨x,st,rfl,λb u e=>kj b u (Zj (s2 b u e) hx) ((s2.trans s3) b u e),s2.free hx,(s2.trans s3).free m1,dx,be,xf,un,kc,be,th,po,_,[],[],hn.ins,hn.scn,hn.thr,hn.poo,hn.tent,⟨[],hn.sta,rfl,λi q x e=>by cases e⟩,rfl,rfl⟩
  rintro σ H2 ⟨h,st,rfl,s2,hh,kn,hs⟩;obtain ⟨hx,be,sc,un,kc,te,th,po,wo,L1,L2,q1,q2,q3,q4,q5,q6,q7⟩:=id hs;refine Y1 (λσ H'=>∃ r:Str,σ=[some (.int i),some (.ref p),some (.ref h)]/\Same H1 H'/\HS t.aa t.af t.ae H' h st M2 n2 [] [Str.ofString "a"] [r]) (λnx k6=>?_) ?_
  ·refine ⟨_,Z,h,hx,_,Z,q1,Z,λd qr=>?_⟩
   refine ⟨Zc,[(Sum.inl 1,V.int 2),(Sum.inl 2,V.int 2),(Sum.inl 3,V.int 0)],Z,(by decide:3<=15),?_⟩;have s3:Same H2 (upd (upd H2 d (.dK [])) d (.dK (X6 [] [(Sum.inl 1,V.int 2),(Sum.inl 2,V.int 2),(Sum.inl 3,V.int 0)]))):=Same.add (Same.new qr) qr;refine ⟨h,st,d,M2,n2,[],[],[],Str.ofString "a",rfl,hs.same s3,td2,by decide,by decide,by decide,(by unfold Asc; decide),by decide,λe=>absurd e (by decide +kernel),λ_ e=>absurd e (by decide),λ_ _ _=>.inr ⟨gg 2 2 0,⟨cnt3 Zc,okc2 (by decide) (by decide) (by decide) (by decide) (by decide) (by decide) (by decide),λx hx=>?_⟩,λH4 r _ o4 xx=>?_⟩⟩
   ·unfold gg
    split
    ·decide
    ·split <;> decide
   ·exact k6 _ _ ⟨r,Z,λb u e=>o4 b u (λz=>by rw [z,hh] at e; cases e) (λz=>by rw [z,kn] at e; cases e) ((s2.trans s3) b u e),xx⟩
  rintro σ H4 ⟨r,rfl,s4,xx⟩;have ta4:=ta.same s4;refine ⟨_,Z,_,_,Z,Z,_,Z,?_⟩;refine ite2 (λe=>?_) (λe=>?_)
  ·exact ⟨_,Z,_,Z,p,i,Z,i0,of_decide_eq_true e,ta4,λH' s'=>k _ (s1.trans (s4.trans s'))⟩
  ·have e:¬ i < 10:=λz=>e (decide_eq_true z)
   exact ⟨_,Z,_,Z,_,Z,p,h,st,i,[r],Z,by lia,i9,ta4,xx,(by show 1<=10; decide),λH' s'=>k _ (s1.trans (s4.trans s'))⟩
def Zdt (t:Adr):Sp:=λvs H Q E=>∃ i:Int,vs=[.int i]/\0<=i/\i < 20/\(i < 10->∀ H',Same H H'->Q (.int i) H')/\(10<=i->∀ H',Same H H'->E (.ref (exA t i)) none H')
def Zab (t:Adr):Sp:=λvs H Q E=>∃ i:Int,vs=[.int i]/\0<=i/\i < 20/\(10<=i->∀ H',Same H H'->Q (.int i) H')/\(i < 10->∀ H',Same H H'->E (.ref (exA t i)) none H')
def Zh8:Sp:=λvs H Q E=>∃ i:Int,vs=[.int i]/\0<=i/\i < 20/\∀ H',Same H H'->Q (.int i) H'
def Zg2:Sp:=λvs H Q E=>∃ i:Int,vs=[.int i]/\0<=i/\i < 20/\∀ H',Same H H'->Q (.bl true) H'
def Zdg (t:Adr):(exL t).length=20:=rfl
def Gi {t:Adr} {i:Int} (h0:0<=i) (h1:i < 20):exA t i∈exL t/\(exL t)[i.toNat]?=some (exA t i):=by
 have hl:i.toNat < (exL t).length:=by rw [Zdg]; lia
 unfold exA;rw [Ad,Ac hl];exact ⟨List.getElem_mem hl,Z⟩
def Txt.ex (T:Txt w K mg t) {i j:Int} (h0:0<=i) (h1:i < 20) (j0:0<=j:=by decide) (j1:j < 20:=by decide):PySem.W.exmOne K (.ref (exA t i)) (.ref (exA t j))=some (decide (i=j)):=by
 obtain ⟨m1,e1⟩:=Gi (t:=t) h0 h1;obtain ⟨m2,e2⟩:=Gi (t:=t) j0 j1;have h:=eq_of_beq (List.all_eq_true.mp (List.all_eq_true.mp T.xq _ m1) _ m2);rw [h];congr 1;rw [decide_eq_decide];refine ⟨λe=>?_,λe=>by rw [e]⟩;rw [e] at e1;have:=(List.getElem?_inj (show i.toNat < (exL t).length by rw [Zdg]; lia) T.xn).mp (e1.trans e2.symm);lia
def Z3 {i j:Int} {c C:Value} {A B:Prop} (h:PySem.W.exmOne K c C=some (decide (i=j))) (hA:i=j->A) (hB:i≠j->B):∃ b,PySem.W.exmOne K c C=some b/\if b=true then A else B:=by
 refine ⟨_,h,?_⟩;by_cases e:i=j
 ·rw [decide_eq_true e]; exact hA e
 ·rw [decide_eq_false e]; exact hB e
def Yd:FnScope ["_law_which","_law_told"] ["_law_which"] (Ze Uo):=Am
def Zbl (T:Txt w K mg t):FnOk P w K mg base (CXr P w) 14 t.dO t.ed ["_law_which"] (Zdt t):=by
 refine T.ez.F.okLA Yd (λvs H Q E h=>?_) (λ_ _ _ _ H vs Q E hr h=>?_)
 ·obtain ⟨i,rfl,_⟩:=h
  rfl
 ·obtain ⟨i,rfl,i0,i9,k1,k2⟩:=h
  refine ⟨_,(λ_ L=>(J2 (O9 L.l (Zw (Zk (i:=1) Yd.nd Z (Or.inl Z) (Ka Q7 Zd))))
   (J2 (Za6 (Zg (Zo (pxT (Gc T) hr T.gy (Za (pv 0) Zb)))) (Yb rfl T.dy (λ_=>(Zh (Zk (i:=1) Yd.nd rfl (Or.inl rfl) Zd))) (Yb rfl T.cL (λ_=>(Zh (Zk (i:=1) Yd.nd rfl (Or.inl rfl) Zd))) (Yb rfl T.dv (λ_=>(Zh (Zk (i:=1) Yd.nd rfl (Or.inl rfl) Zd))) (Yb rfl T.gA (λ_=>(Zh (Zk (i:=1) Yd.nd rfl (Or.inl rfl) Zd))) (Yb rfl T.dw (λ_=>(Zh (Zk (i:=1) Yd.nd rfl (Or.inl rfl) Zd))) (Yb rfl T.fF (λ_=>(Zh (Zk (i:=1) Yd.nd rfl (Or.inl rfl) Zd))) (Yb rfl T.b6 (λ_=>(Zh (Zk (i:=1) Yd.nd rfl (Or.inl rfl) Zd))) (Yb rfl T.b8 (λ_=>(Zh (Zk (i:=1) Yd.nd rfl (Or.inl rfl) Zd))) (Yb rfl T.cm (λ_=>(Zh (Zk (i:=1) Yd.nd rfl (Or.inl rfl) Zd))) (Yb rfl T.gC (λ_=>(Zh (Zk (i:=1) Yd.nd rfl (Or.inl rfl) Zd))) (Zde L))))))))))))
   (Za5 (O9 L.l (Zw (Zr (pv 1)))))))),?_⟩;refine ⟨_,Z,?_⟩;refine ⟨_,Z,i,Z,i0,i9,λH' s'=>?_⟩;refine Z3 (T.ex i0 i9 (j:=0)) (λe=>?_) (λn0=>Z3 (T.ex i0 i9 (j:=1)) (λe=>?_) (λn1=>Z3 (T.ex i0 i9 (j:=2)) (λe=>?_) (λn2=>Z3 (T.ex i0 i9 (j:=3)) (λe=>?_) (λn3=>Z3 (T.ex i0 i9 (j:=4)) (λe=>?_) (λn4=>Z3 (T.ex i0 i9 (j:=5)) (λe=>?_) (λn5=>Z3 (T.ex i0 i9 (j:=6)) (λe=>?_) (λn6=>Z3 (T.ex i0 i9 (j:=7)) (λe=>?_) (λn7=>Z3 (T.ex i0 i9 (j:=8)) (λe=>?_) (λn8=>Z3 (T.ex i0 i9 (j:=9)) (λe=>?_) (λn9=>k2 (by lia) H' s'))))))))))
  all_goals subst e; exact ⟨_,Z,k1 (by decide) H' s'⟩
def Z7:FnScope ["_law_which","_law_told"] ["_law_which"] (Ze Q0):=Am
def Gd (T:Txt w K mg t):FnOk P w K mg base (CXr P w) 14 t.cv t.cB ["_law_which"] (Zab t):=by
 refine T.cG.F.okLA Z7 (λvs H Q E h=>?_) (λ_ _ _ _ H vs Q E hr h=>?_)
 ·obtain ⟨i,rfl,_⟩:=h
  rfl
 ·obtain ⟨i,rfl,i0,i9,k1,k2⟩:=h
  refine ⟨_,(λ_ L=>(J2 (O9 L.l (Zw (Zk (i:=1) Z7.nd Z (Or.inl Z) (Ka Q7 Zd))))
   (J2 (Za6 (Zg (Zo (pxT (Gc T) hr T.gy (Za (pv 0) Zb)))) (Yb rfl T.ce (λ_=>(Zh (Zk (i:=1) Z7.nd rfl (Or.inl rfl) Zd))) (Yb rfl T.dz (λ_=>(Zh (Zk (i:=1) Z7.nd rfl (Or.inl rfl) Zd))) (Yb rfl T.cO (λ_=>(Zh (Zk (i:=1) Z7.nd rfl (Or.inl rfl) Zd))) (Yb rfl T.fG (λ_=>(Zh (Zk (i:=1) Z7.nd rfl (Or.inl rfl) Zd))) (Yb rfl T.cN (λ_=>(Zh (Zk (i:=1) Z7.nd rfl (Or.inl rfl) Zd))) (Yb rfl T.cc (λ_=>(Zh (Zk (i:=1) Z7.nd rfl (Or.inl rfl) Zd))) (Yb rfl T.b9 (λ_=>(Zh (Zk (i:=1) Z7.nd rfl (Or.inl rfl) Zd))) (Yb rfl T.bp (λ_=>(Zh (Zk (i:=1) Z7.nd rfl (Or.inl rfl) Zd))) (Yb rfl T.b7 (λ_=>(Zh (Zk (i:=1) Z7.nd rfl (Or.inl rfl) Zd))) (Yb rfl T.cM (λ_=>(Zh (Zk (i:=1) Z7.nd rfl (Or.inl rfl) Zd))) (Zde L))))))))))))
   (Za5 (O9 L.l (Zw (Zr (pv 1)))))))),?_⟩;refine ⟨_,Z,?_⟩;refine ⟨_,Z,i,Z,i0,i9,λH' s'=>?_⟩;refine Z3 (T.ex i0 i9 (j:=19)) (λe=>?_) (λn0=>Z3 (T.ex i0 i9 (j:=18)) (λe=>?_) (λn1=>Z3 (T.ex i0 i9 (j:=17)) (λe=>?_) (λn2=>Z3 (T.ex i0 i9 (j:=16)) (λe=>?_) (λn3=>Z3 (T.ex i0 i9 (j:=15)) (λe=>?_) (λn4=>Z3 (T.ex i0 i9 (j:=14)) (λe=>?_) (λn5=>Z3 (T.ex i0 i9 (j:=13)) (λe=>?_) (λn6=>Z3 (T.ex i0 i9 (j:=12)) (λe=>?_) (λn7=>Z3 (T.ex i0 i9 (j:=11)) (λe=>?_) (λn8=>Z3 (T.ex i0 i9 (j:=10)) (λe=>?_) (λn9=>k2 (by lia) H' s'))))))))))
  all_goals subst e; exact ⟨_,Z,k1 (by decide) H' s'⟩
def Y8:FnScope ["_law_which","_law_told"] ["_law_which"] (Ze Zfp):=Am
def Zi2 (T:Txt w K mg t):FnOk P w K mg base (CXr P w) 15 t.iM t.iQ ["_law_which"] Zh8:=by
 refine T.iT.F.aR Y8 (λ_ _ _ _ H vs Q E hr h=>?_)
 ·obtain ⟨i,rfl,i0,i9,k⟩:=h
  refine ⟨_,(Zn (Zk (i:=1) Y8.nd Z (Or.inl Z) (Ka Q7 Zd))
   (Zn (Ga (Zg (Ji (i:=1) Y8.nd rfl (Or.inl rfl) (pxT (Zbl T) hr T.ez (Za (pv 0) Zb)))) (Yi rfl T.cM (λ_=>(Zh (Zk (i:=1) Y8.nd rfl (Or.inl rfl) Zd))) (Yi rfl T.b7 (λ_=>(Zh (Zk (i:=1) Y8.nd rfl (Or.inl rfl) Zd))) (Yi rfl T.bp (λ_=>(Zh (Zk (i:=1) Y8.nd rfl (Or.inl rfl) Zd))) (Yi rfl T.b9 (λ_=>(Zh (Zk (i:=1) Y8.nd rfl (Or.inl rfl) Zd))) (Yi rfl T.cc (λ_=>(Zh (Zk (i:=1) Y8.nd rfl (Or.inl rfl) Zd))) (Yi rfl T.cN (λ_=>(Zh (Zk (i:=1) Y8.nd rfl (Or.inl rfl) Zd))) (Yi rfl T.fG (λ_=>(Zh (Zk (i:=1) Y8.nd rfl (Or.inl rfl) Zd))) (Yi rfl T.cO (λ_=>(Zh (Zk (i:=1) Y8.nd rfl (Or.inl rfl) Zd))) (Yi rfl T.dz (λ_=>(Zh (Zk (i:=1) Y8.nd rfl (Or.inl rfl) Zd))) (Yi rfl T.ce (λ_=>(Zh (Zk (i:=1) Y8.nd rfl (Or.inl rfl) Zd))) Zbv)))))))))))
   (Zh (Zr (pv 1))))),?_⟩;refine ⟨_,Z,?_⟩;refine ⟨_,Z,i,Z,i0,i9,λc H' s'=>⟨_,Z,k H' s'⟩,λc H' s'=>?_⟩;refine Z3 (T.ex i0 i9 (j:=10)) (λe=>?_) (λn0=>Z3 (T.ex i0 i9 (j:=11)) (λe=>?_) (λn1=>Z3 (T.ex i0 i9 (j:=12)) (λe=>?_) (λn2=>Z3 (T.ex i0 i9 (j:=13)) (λe=>?_) (λn3=>Z3 (T.ex i0 i9 (j:=14)) (λe=>?_) (λn4=>Z3 (T.ex i0 i9 (j:=15)) (λe=>?_) (λn5=>Z3 (T.ex i0 i9 (j:=16)) (λe=>?_) (λn6=>Z3 (T.ex i0 i9 (j:=17)) (λe=>?_) (λn7=>Z3 (T.ex i0 i9 (j:=18)) (λe=>?_) (λn8=>Z3 (T.ex i0 i9 (j:=19)) (λe=>?_) (λn9=>absurd i9 (by lia)))))))))))
  all_goals subst e; exact ⟨_,Z,k H' s'⟩
def Yu:FnScope ["_law_which","_law_told"] ["_law_which"] (Ze Zax):=Am
def Zf4 (T:Txt w K mg t):FnOk P w K mg base (CXr P w) 15 t.gK t.gR ["_law_which"] Zh8:=by
 refine T.gW.F.aR Yu (λ_ _ _ _ H vs Q E hr h=>?_)
 ·obtain ⟨i,rfl,i0,i9,k⟩:=h
  refine ⟨_,(Zn (Zk (i:=1) Yu.nd Z (Or.inl Z) (Ka Q7 Zd))
   (Zn (Ga (Zg (Ji (i:=1) Yu.nd rfl (Or.inl rfl) (pxT (Gd T) hr T.cG (Za (pv 0) Zb)))) (Yi rfl T.gC (λ_=>(Zh (Zk (i:=1) Yu.nd rfl (Or.inl rfl) Zd))) (Yi rfl T.cm (λ_=>(Zh (Zk (i:=1) Yu.nd rfl (Or.inl rfl) Zd))) (Yi rfl T.b8 (λ_=>(Zh (Zk (i:=1) Yu.nd rfl (Or.inl rfl) Zd))) (Yi rfl T.b6 (λ_=>(Zh (Zk (i:=1) Yu.nd rfl (Or.inl rfl) Zd))) (Yi rfl T.fF (λ_=>(Zh (Zk (i:=1) Yu.nd rfl (Or.inl rfl) Zd))) (Yi rfl T.dw (λ_=>(Zh (Zk (i:=1) Yu.nd rfl (Or.inl rfl) Zd))) (Yi rfl T.gA (λ_=>(Zh (Zk (i:=1) Yu.nd rfl (Or.inl rfl) Zd))) (Yi rfl T.dv (λ_=>(Zh (Zk (i:=1) Yu.nd rfl (Or.inl rfl) Zd))) (Yi rfl T.cL (λ_=>(Zh (Zk (i:=1) Yu.nd rfl (Or.inl rfl) Zd))) (Yi rfl T.dy (λ_=>(Zh (Zk (i:=1) Yu.nd rfl (Or.inl rfl) Zd))) Zbv)))))))))))
   (Zh (Zr (pv 1))))),?_⟩;refine ⟨_,Z,?_⟩;refine ⟨_,Z,i,Z,i0,i9,λc H' s'=>⟨_,Z,k H' s'⟩,λc H' s'=>?_⟩;refine Z3 (T.ex i0 i9 (j:=9)) (λe=>?_) (λn0=>Z3 (T.ex i0 i9 (j:=8)) (λe=>?_) (λn1=>Z3 (T.ex i0 i9 (j:=7)) (λe=>?_) (λn2=>Z3 (T.ex i0 i9 (j:=6)) (λe=>?_) (λn3=>Z3 (T.ex i0 i9 (j:=5)) (λe=>?_) (λn4=>Z3 (T.ex i0 i9 (j:=4)) (λe=>?_) (λn5=>Z3 (T.ex i0 i9 (j:=3)) (λe=>?_) (λn6=>Z3 (T.ex i0 i9 (j:=2)) (λe=>?_) (λn7=>Z3 (T.ex i0 i9 (j:=1)) (λe=>?_) (λn8=>Z3 (T.ex i0 i9 (j:=0)) (λe=>?_) (λn9=>absurd i0 (by lia)))))))))))
  all_goals subst e; exact ⟨_,Z,k H' s'⟩
def W9:FnScope ["_law_which","_law_told","e"] ["_law_which"] (Ze Gv):=Am
def Zee (T:Txt w K mg t):FnOk P w K mg base (CXr P w) 14 t.fS t.f9 ["_law_which"] Zg2:=by
 refine T.gk.F.aR W9 (λ_ _ _ _ H vs Q E hr h=>?_)
 ·obtain ⟨i,rfl,i0,i9,k⟩:=h
  refine ⟨_,(Zn (Zk (i:=1) W9.nd Z (Or.inl Z) Zic)
   (Zn (Ga (Zg (Zo (pxT (Gc T) hr T.gy (Za (pv 0) Zb)))) (Zlk (i:=2) rfl T.gD W9.nd rfl rfl (λ_ _=>(Zh (Zk (i:=1) W9.nd rfl (Or.inl rfl) (Zs Zb2 (by rfl) T.df PyProof.Rows.boot_isinstance (Za (pv 2) (Za (Zc9 (v:=.ty "ValueError") (by rfl) T.gz Kv rfl) Zb)))))) Zbv))
   (Zh (Zr (pv 1))))),?_⟩;have hb:=List.all_eq_true.mp T.xb _ (Gi (t:=t) i0 i9).1;rw [Bool.and_eq_true] at hb;refine ⟨_,Z,i,Z,i0,i9,λH' s'=>⟨true,eq_of_beq hb.1,iteT λe ob rp=>?_⟩⟩;exact ⟨_,Z,"ValueError",rfl,(by rw [rp]; exact eq_of_beq hb.2),⟨_,Z,k H' s'⟩⟩
def Zfh:FnScope ["_law_script","_law_which"] ["_law_script"] (Ze Zia):=Am
def ok_law (T:Txt w K mg t):FnOk P w K mg base (CXr P w) 16 t.jg t.iR ["_law_script"] (sp_law K):=by
 refine T.jh.F.aR Zfh (λ_ _ _ _ H vs Q E hr h=>?_)
 ·obtain ⟨a,sc,rfl,hS,hl,k⟩:=h
  refine ⟨_,(Zn (Zk (i:=1) Zfh.nd Z (Or.inl Z) (Yp X5 (pcT (Zf5 T) hr T.gV (Za (pv 0) (Za Zd Zb))) Zd))
   (Zh (Zr (Vp (Xn Z4 (pcT (Zi2 T) hr T.iT (Za (pv 1) Zb)) (pv 1) (Zl _)) (Vp (Xn Z4 (pcT (Zf4 T) hr T.gW (Za (pv 1) Zb)) (pv 1) (Zl _)) (Kb (pcT (Zee T) hr T.gk (Za (pv 1) Zb)))))))),?_⟩;refine ⟨_,Z,a,sc,0,Z,hS,hl,by decide,by decide,_,_,Z,Z,(by show (0:Int) < 20; decide),?_⟩
  try dsimp only [Z8]
  have k0:=Int.emod_nonneg (cell sc 0) (show (20:Int)≠0 by decide);have k1:=Int.emod_lt_of_pos (cell sc 0) (show (0:Int) < 20 by decide);generalize cell sc 0 % 20=i at k0 k1 ⊢;refine ⟨_,Z,i,Z,k0,k1,λH1 s1=>⟨_,Z,Z,?_⟩⟩;rw [decide_eq_true rfl];refine ⟨_,Z,iteT ⟨_,Z,i,Z,k0,k1,λH2 s2=>⟨_,Z,Z,?_⟩⟩⟩;rw [decide_eq_true rfl];exact ⟨_,Z,iteT ⟨_,Z,i,Z,k0,k1,λH3 s3=>k _⟩⟩
end
end KT
open PySem PySem.W PyProof.Rows
namespace PySem.W.Fast
def tw2616354709049551909:=0
def tw11752608204190075271:=0
def tw15301748541900955351:=0
def tw15166693913957328545:=0
def tw14171160517231813615:=0
def tw15388440720341066911:=0
def tw11945540004326766302:=0
def tw4544182785332271429:=0
def tw4510205576520080678:=0
def tw16565957164377197:=0
def tw12659822745804027740:=0
def tw4282694240526826636:=0
def tw9946358929720722122:=0
def tw15087876932988342749:=0
def tw14015278050930410774:=0
def tw4184310238745783605:=0
def tw9570628970729208389:=0
def tw3646962828878271010:=0
def tw5223267155068224262:=0
def tw8138883346805989733:=0
def tw5588710935186466608:=0
def tw13011551937128211316:=0
def tw1807705675125431680:=0
def tw12500900700665488146:=0
def tw7356210500692407150:=0
def tw14225253511752851594:=0
def tw9965794404748774117:=0
def tw13395909985502403466:=0
def tw4052414402111729491:=0
def tw2884312272388255067:=0
def tw1947033484992874913:=0
def tw14332386329300258632:=0
def tw6871118520401160186:=0
def tw10818804847770172885:=0
def tw7888399693344662163:=0
def tw3586446073332848865:=0
def tw603434197827907488:=0
def tw5146020154007440317:=0
def tw9065098969835112455:=0
def tw15669736527844327205:=0
def tw14294479333138398037:=0
def tw3844122491936423423:=0
def tw536215638836443055:=0
def tw11844976440582932579:=0
def tw15777211491759888988:=0
def tw3075371106574890344:=0
def tw11728688876421892894:=0
def tw1891113957977623371:=0
def tw8399999421653562981:=0
def tw7312174446030612940:=0
def tw11773281912364195089:=0
def tw4338944521761775640:=0
def tw15092529136634956432:=0
def tw8949863087058056540:=0
def tw4050482539744797251:=0
def tw4205285564295023512:=0
def tw6744198238391512784:=0
def tw7840216458153240455:=0
def tw13242783644346217276:=0
def tw13890510206256996779:=0
def tw6833539981692689152:=0
def tw955102176770470487:=0
def tw11119189324455135818:=0
def tw49160682418826481:=0
def tw12089664678595641132:=0
def tw5315355522825495409:=0
def tw15078028313099188460:=0
def tw1479317317923811270:=0
def tw6904719912521698805:=0
def tw1394897818363797449:=0
def tw3100160018231131506:=0
def tw1015084678338739549:=0
def tw1976855348180416921:=0
def tw12092624359038672051:=0
def tw13832985989048511669:=0
def tw6130832839343512230:=0
def tw216768806536808699:=0
def tw13744814813638377058:=0
def tw10038051468855880012:=0
def tw5081753753824414019:=0
def tw8093296130923296522:=0
def tw10467176040102552316:=0
def tw15367162799400570504:=0
def tw8237817384397689819:=0
def tw2065964425169256573:=0
def tw3094325286043946705:=0
def tw9097958470342494329:=0
def tw5623690888636508833:=0
def tw1060365598120279815:=0
def tw6598320845734916411:=0
def tw9192841590388328107:=0
def tw11294749939139683471:=0
def tw5606200437233788714:=0
def tw5289242896216289533:=0
def tw5518452600880843842:=0
def tw15586870008745026618:=0
def tw15865795110058135976:=0
def tw14709556101180567819:=0
def tw5492471133653249605:=0
def tw17548662110382323909:=0
def tw10179363773729306229:=0
def tw7514532542613352790:=0
def tw3843480703338685733:=0
def tw9381754732278926104:=0
def tw11661746889840520399:=0
def tw4384502012451568469:=0
def tw2081095398248752590:=0
def tw17055943777306916215:=0
def tw5263570444230450701:=0
def tw11279808439605379253:=0
def tw9683745579978287508:=0
def tw16112653350275341298:=0
def tw17679987623406750107:=0
def tw2747900158852724080:=0
def tw17460880841198181981:=0
def tw7034355025073677030:=0
def tw8973306454299319338:=0
def tw207735804545175726:=0
def tw5750020294293456337:=0
def tw12789214435168532495:=0
def tw12882980157004056336:=0
def tw1005598852155204530:=0
def tw12794022570563119829:=0
def tw10108098382690183572:=0
def tw3402446949928576351:=0
def tw4281692596460514615:=0
def tw3586182660997687860:=0
def tw7403468188196648655:=0
def tw5696728122379725402:=0
def tw3022591804093088235:=0
def tw4370474973177035078:=0
def tw9178245805951958552:=0
def tw12811665652382459176:=0
def tw1906962713297832173:=0
def tw2536595417654234837:=0
def tw4546887861836582172:=0
def tw4420534111685881376:=0
def tw13559717102399935205:=0
def tw18265023863643569359:=0
def tw9345825251363945080:=0
def tw11105744392567259489:=0
def tw14179015967371816296:=0
def tw12204205338358041111:=0
def tw2961054628020381788:=0
def tw4862505877772803405:=0
def tw13950659080738156697:=0
def tw8573497046435665725:=0
def tw6635430820009932533:=0
def tw13037484924294804939:=0
def tw5497309279582900925:=0
def tw17839705986477685333:=0
def tw8251418028420515646:=0
def tw1720562365988266064:=0
def tw5835828612412001774:=0
def tw18034760996633278398:=0
def tw11314590542367843387:=0
def tw5166844435161037535:=0
def tw10793823930496786561:=0
def tw6508490593022077204:=0
def tw12103672213404509726:=0
def tw7874627715960365826:=0
def tw827627576518140045:=0
def tw346375921526112667:=0
def tw2720217146597281252:=0
def tw9613043844609484792:=0
def tw8362228866417208303:=0
def tw4362669940471571489:=0
def tw14354185270757677869:=0
def tw10794620579234916071:=0
def tw14740407295633637517:=0
def tw9158011490011807652:=0
def tw1062010061760697595:=0
def tw7389773571812584731:=0
def tw1981423927066257503:=0
def tw8028212079459231737:=0
def tw17581644513357289568:=0
def tw3869536105763886248:=0
def tw13134403732392704911:=0
def tw1531866949667006281:=0
def tw15226648716225217645:=0
def tw12603118683270650430:=0
def tw9461434878113835055:=0
def tw15491901901744550250:=0
def tw10761287517835195111:=0
def tw8619836784587215760:=0
def tw5400181131545652216:=0
def tw17711551466270038742:=0
def tw10440900986034595072:=0
def tw18333815466555333145:=0
def tw10343438459441579923:=0
def tw12054866013611097741:=0
def tw11013016769644484583:=0
def tw16446193353778801379:=0
def tw16624886967367846464:=0
def tw16362660486869814228:=0
def tw15361563084083090677:=0
def tw12753588898452922906:=0
def tw686414316489947605:=0
def tw12237040759610238651:=0
def tw18267710583773425265:=0
def tw8197693478172456060:=0
def tw7229023368389924137:=0
def tw5286920737353481314:=0
def tw12350020680957280468:=0
def tw7294443379199083426:=0
def tw16860694166552097407:=0
def tw15372813746240360260:=0
def tw54379059082639158:=0
def tw430179338529774870:=0
def tw6808768930231047180:=0
def tw13038486725204490764:=0
def tw8718310283259643346:=0
def tw6925952951965544710:=0
def tw7402134388780393838:=0
def tw15833808288333733372:=0
def tw3778020622735344267:=0
def tw15528092489425764110:=0
def tw11201328734308321940:=0
def tw4591171474279532021:=0
def tw7444656058885368583:=0
def tw17326782851978908221:=0
def tw13023164733035916736:=0
def tw13846794549480066754:=0
def tw18130070185640485757:=0
def tw16541855474086997737:=0
def tw15019296647565433215:=0
def tw3797367032984352196:=0
def tw15256777499571231362:=0
def tw12320007382538159421:=0
def tw2547100062389436583:=0
def tw4208696515851586146:=0
def tw16377949973444459952:=0
def tw15336726012731994334:=0
def tw85698656011809016:=0
def tw8456252572857024760:=0
def tw10373710519640066828:=0
def tw3861756840368695136:=0
def tw1170017011413821611:=0
def tw16868919326241505543:=0
def tw17047681243274304291:=0
def tw17559005349781038072:=0
def tw5151356951330119211:=0
def tw11660069119545283053:=0
def tw8905351315921897015:=0
def tw7392876925913690685:=0
def tw4438956921138215637:=0
def tw17219944483084652928:=0
def tw13153904740759407881:=0
def tw9804000837234523450:=0
def tw7986508440058232362:=0
def tw3577952332162262432:=0
def tw13575426171128658275:=0
def tw4196674480579704101:=0
def tw14798690929530522342:=0
def tw6744616537705157310:=0
def tw7050092100499763829:=0
def tw4939196107168854314:=0
def tw3586560484020677741:=0
def tw14485784999843198453:=0
def tw10960688759652759681:=0
def tw14698751192852310269:=0
def tw5808596814702509232:=0
def tw1728894235234181965:=0
def tw7819311145296980687:=0
def tw5410770585160497012:=0
def tw12233791684910271039:=0
def tw13041630451361317617:=0
def tw5705408842948431224:=0
def tw3759450065922700219:=0
def tw6871467347106296863:=0
def tw510320927148264732:=0
def tw12895549755819584239:=0
def tw10151496765415494341:=0
def tw9691013427142815438:=0
def tw9591475543117448968:=0
def tw1853702367056670238:=0
def tw10306689773292615714:=0
def tw1821590962186782881:=0
def tw11874512951298785879:=0
def tw16857607306149361502:=0
def tw11267803071888850234:=0
def tw5372335829288836081:=0
def tw4826342513565233782:=0
def tw12258799217467121477:=0
def tw6185734785350433403:=0
def tw2695895911732529979:=0
def tw4432902314657396175:=0
def tw11219206635697502611:=0
def tw15307316800396046928:=0
def tw932503331373431966:=0
def tw6220233726000319633:=0
def tw14065076955968481367:=0
def tw14490820965478541047:=0
def tw13469586978816259242:=0
def tw2842086274169028460:=0
def tw1867204888185376988:=0
def tw3277339357906907596:=0
def tw12298445205121932517:=0
def tw16645464872517082825:=0
def tw10571303435180643847:=0
def tw17792818278899029698:=0
def tw2678962970261035847:=0
def tw12859009244847719234:=0
def tw2143618167491976373:=0
def tw15032011531294278255:=0
def tw15221016080511303487:=0
def tw5416958723423224268:=0
def tw10866953803987253744:=0
def tw474071585070049341:=0
def tw10399125150149285601:=0
def tw3524427212219908206:=0
def tw13533433631159060646:=0
def tw7052814933935845983:=0
def tw10039569636227131504:=0
def tw1011339849520582371:=0
def tw188941452695074828:=0
def tw14249812256959035068:=0
def tw8392333093889141220:=0
def tw5499491555717321707:=0
def tw11798431242687356442:=0
def tw8721694355687416223:=0
def tw13226122009917516278:=0
def tw4716419009629652408:=0
def tw12933158629308400813:=0
def tw12694986846920315836:=0
def tw6116573817594937998:=0
def tw17889986995520094578:=0
def tw9104122334651764380:=0
def tw9886856091178501538:=0
def tw5311779917392503416:=0
def tw15688636214609078904:=0
def tw13468983411279034997:=0
def tw4860637387426383592:=0
def tw13620301088871712449:=0
def tw9556952143928731718:=0
def tw17760775977802089957:=0
def tw1311515422451815567:=0
def tw16896793282962010754:=0
def tw11413974856785738588:=0
def tw8643859586796676972:=0
def tw6657779594084014722:=0
def tw3473400718367788648:=0
def tw13814723860399842749:=0
def tw11163986204543089105:=0
def tw6024860240716227081:=0
def tw2695705070541535642:=0
def tw2746851389890453534:=0
def tw12560878261409122430:=0
def tw3995999305929931216:=0
def tw14835053346307355969:=0
def tw7231539409359695868:=0
def tw10406067265972935084:=0
def tw3073337087849545475:=0
def tw14211041080464205298:=0
def tw5520873159610319660:=0
def tw160389928928229574:=0
def tw12679139568739269865:=0
def tw18107428076480875544:=0
def tw13571648171599987175:=0
def tw5501985146843795380:=0
def tw12854065157312551786:=0
def tw9929292945148937297:=0
def tw2836243225857643147:=0
def tw8909590664702064018:=0
def tw13614502327475568635:=0
def tw8009628168416725431:=0
def tw11591584037648975500:=0
def tw3349326649044262120:=0
def tw14978598217648227963:=0
def tw11649221349211419930:=0
def tw10611718033590038010:=0
def tw9446097826542411443:=0
def tw8428632957341711698:=0
def tw7015732647451979578:=0
def tw666461168489539965:=0
def tw6265748671510936186:=0
def tw6220637813380243183:=0
def tw477056945776410208:=0
def tw4647090129330865119:=0
def tw4294628906796849538:=0
def tw3394852211032493564:=0
def tw2998434403582001048:=0
def tw17564391894334900586:=0
def tw17174231718219666549:=0
def tw13368376342782652153:=0
def tw12552640058937952804:=0
def tw10444028623671143380:=0
def tw10281515297535073912:=0
def tw10151462744640199852:=0
def tw8430244507080146192:=0
def tw18431215621622355407:=0
def tw4821738795717097994:=0
def tw2006065193216259943:=0
def tw15223365918841676885:=0
def tw1053848155530809295:=0
def tw4333691963767871929:=0
def tw8451488026193716459:=0
def tw13602460220240780778:=0
def tw691150075309820873:=0
def tw1698737436777187763:=0
def tw11311327330400017612:=0
def tw9604774832890562538:=0
def tw4387297300354662821:=0
def tw1737423180907871244:=0
def tw1349318417043679382:=0
def tw12950670439202452549:=0
def tw892749519949818595:=0
def tw5019254023061290669:=0
def tw3975327975194540375:=0
def tw5765302110732257316:=0
def tw18025259160072152614:=0
def tw9893670233613534640:=0
def tw5321517045109681741:=0
def tw10405094014878071022:=0
def tw10361710826623791558:=0
def tw10237458012767158791:=0
def tw17862412838192741933:=0
def tw10694056197732216417:=0
def tw2568258023912707846:=0
def tw3753019042937134877:=0
def tw17941336456625816743:=0
def tw3339208992729496726:=0
def tw7389561364780049820:=0
def tw9042874585635442076:=0
def tw5568386416589173123:=0
def tw2440408054855593524:=0
def tw165418081454501716:=0
def tw16015378257992259763:=0
def tw1556836562411540477:=0
def tw6945413897743543002:=0
def tw13489652263621740566:=0
def tw9006147669714370709:=0
def tw478656207298110000:=0
def tw2580650553165724727:=0
def tw8350649842588190528:=0
def tw7582955604021158814:=0
def tw15875058341140291853:=0
def tw1676155651466590875:=0
def tw10837590188229981923:=0
def tw13268307872077843114:=0
def tw1118605454516106205:=0
def tw7047198610544948410:=0
def tw13815627090462944408:=0
def tw13480981378584532091:=0
def tw6069823220922556379:=0
def tw16019644912808004974:=0
def tw801838240880782067:=0
def tw13231440896532490049:=0
def tw15493286712450279258:=0
def tw13746386523574185693:=0
def tw2660738923668499229:=0
def tw10081357369410995288:=0
def tw15303548831957577679:=0
def tw10443957865129805773:=0
def tw6869434990184416348:=0
def tw14990007162655340712:=0
def tw13291676634152992514:=0
def tw5401191074251983619:=0
def tw4195521941141822936:=0
def tw2163344939237587992:=0
def tw18430771180162210444:=0
def tw174836186856752862:=0
def tw9393564183148197837:=0
def tw14909165318322750491:=0
def tw16611952630827650049:=0
def tw12385288268356705226:=0
def tw10781614198631821033:=0
def tw9361412748402022766:=0
def tw7213659899704885338:=0
def tw16425271838276529171:=0
def tw4257545619854951366:=0
def tw3913120707056776007:=0
def tw11864997128443357581:=0
def tw9353014226329634774:=0
def tw6132723182732844355:=0
def tw7219890899781471328:=0
def tw6898697625448506588:=0
def tw4846569622771728449:=0
def tw2771555470785214360:=0
def tw11971028219338696940:=0
def tw12553551559222378512:=0
def tw8695335959947689130:=0
def tw11029008850112529441:=0
def tw14816130936586747178:=0
def tw8426866429217122936:=0
def tw7252943636942807650:=0
def tw13855841631042273262:=0
def tw4123318475322077471:=0
def tw2675128035174785662:=0
def tw17419903442839257408:=0
def tw12904511686769553831:=0
def tw1438156147692940008:=0
def tw5118189362308899897:=0
def tw16442695458930259346:=0
def tw12794057259278761339:=0
def tw1539210766108558281:=0
def tw6718425902135511616:=0
def tw14201524253374069942:=0
def tw12225871154234114260:=0
def tw14575221050283067519:=0
end PySem.W.Fast
set_option maxRecDepth 100000 in
set_option maxHeartbeats 0 in
theorem PySem.Challenge.cw_tentloops_k72_refusals_apart_holds : PySem.Challenge.rw_tentloops_k72_refusals_apart.Holds := by
 w_on; o_law; k_head; (case hw=>w_witness2)
 k_fill
 refine L2.walk_r (l:=PySem.Challenge.rw_tentloops_k72_refusals_apart) (k:=16) (spl:=KT.sp_law) rfl rfl ⟨rfl,by decide,by decide⟩ (fun w h Y=>PySem.W.kIn_of Y) (fun K H a ns hl hS=>KT.sp_law_start hl hS) ?F
 case F =>
  intro w mg fa h KX G hmg
  have T:∃ t,KT.Txt w (L2.KOf KX) mg t:=by
   dsimp only [L2.KOf]
   refine' ⟨⟨_,_,_,_,_,_,_,_,_,_,_,_,_,_,_,_,_,_,_,_,_,_,_,_,_,_,_,_,_,_,_,_,_,_,_,_,_,_,_,_,_,_,_,_,_,_,_,_,_,_,_,_,_,_,_,_,_,_,_,_,_,_,_,_,_,_,_,_,_,_,_,_,_,_,_,_,_,_,_,_,_,_,_,_,_,_,_,_,_,_,_,_,_,_,_,_,_,_,_,_,_,_,_,_,_,_,_,_,_,_,_,_,_,_,_,_,_,_,_,_,_,_,_,_,_,_,_,_,_,_,_,_,_,_,_,_,_,_,_,_,_,_,_,_,_,_,_,_,_,_,_,_,_,_,_,_,_,_,_,_,_,_,_,_,_,_,_,_,_,_,_,_,_,_,_,_,_,_,_,_,_,_,_,_,_,_,_,_,_,_,_,_,_,_,_,_,_,_,_,_,_,_,_,_,_,_,_,_⟩,⟨mg_of KX G ?_,⟨?_,?_,?_,?_⟩,?_,?_,?_,?_,mg_of KX G ?_,⟨?_,?_,?_,?_⟩,?_,?_,?_,?_,mg_of KX G ?_,⟨?_,?_,?_,?_⟩,?_,?_,?_,?_,KT.FT.of KX G (KT.ba1 (fun _ _ _ _ _ _ _ _=>rfl) rfl) ?_ ?_ ?_ ?_,KT.FT.of KX G (KT.ba1 (fun _ _ _ _ _ _ _ _=>rfl) rfl) ?_ ?_ ?_ ?_,KT.FT.of KX G (KT.ba1 (fun _ _ _ _ _ _ _ _=>rfl) rfl) ?_ ?_ ?_ ?_,KT.FT.of KX G (KT.ba1 (fun _ _ _ _ _ _ _ _=>rfl) rfl) ?_ ?_ ?_ ?_,KT.FT.of KX G (KT.ba2 (fun _ _ _ _ _ _ _ _ _=>rfl) rfl) ?_ ?_ ?_ ?_,KT.FM.of (KT.ba2 (fun _ _ _ _ _ _ _ _ _=>rfl) rfl) ?_ ?_ ?_ ?_ ?_,KT.FM.of (KT.ba1 (fun _ _ _ _ _ _ _ _=>rfl) rfl) ?_ ?_ ?_ ?_ ?_,KT.FM.of (KT.ba1 (fun _ _ _ _ _ _ _ _=>rfl) rfl) ?_ ?_ ?_ ?_ ?_,KT.FM.of (KT.ba1 (fun _ _ _ _ _ _ _ _=>rfl) rfl) ?_ ?_ ?_ ?_ ?_,KT.FM.of (KT.ba1 (fun _ _ _ _ _ _ _ _=>rfl) rfl) ?_ ?_ ?_ ?_ ?_,KT.FM.of (KT.ba2 (fun _ _ _ _ _ _ _ _ _=>rfl) rfl) ?_ ?_ ?_ ?_ ?_,KT.FM.of (KT.ba2 (fun _ _ _ _ _ _ _ _ _=>rfl) rfl) ?_ ?_ ?_ ?_ ?_,KT.FM.of (KT.ba2 (fun _ _ _ _ _ _ _ _ _=>rfl) rfl) ?_ ?_ ?_ ?_ ?_,KT.FM.of (KT.ba2 (fun _ _ _ _ _ _ _ _ _=>rfl) rfl) ?_ ?_ ?_ ?_ ?_,KT.FM.of (KT.ba2 (fun _ _ _ _ _ _ _ _ _=>rfl) rfl) ?_ ?_ ?_ ?_ ?_,KT.FM.of (KT.ba2 (fun _ _ _ _ _ _ _ _ _=>rfl) rfl) ?_ ?_ ?_ ?_ ?_,KT.FT.of KX G (KT.ba1 (fun _ _ _ _ _ _ _ _=>rfl) rfl) ?_ ?_ ?_ ?_,KT.FT.of KX G (KT.ba2 (fun _ _ _ _ _ _ _ _ _=>rfl) rfl) ?_ ?_ ?_ ?_,KT.FT.of KX G (KT.ba2 (fun _ _ _ _ _ _ _ _ _=>rfl) rfl) ?_ ?_ ?_ ?_,KT.FT.of KX G (KT.ba1 (fun _ _ _ _ _ _ _ _=>rfl) rfl) ?_ ?_ ?_ ?_,KT.FT.of KX G (KT.ba2 (fun _ _ _ _ _ _ _ _ _=>rfl) rfl) ?_ ?_ ?_ ?_,KT.FT.of KX G (KT.ba3 (fun _ _ _ _ _ _ _ _ _ _=>rfl) rfl) ?_ ?_ ?_ ?_,KT.FT.of KX G (KT.ba2 (fun _ _ _ _ _ _ _ _ _=>rfl) rfl) ?_ ?_ ?_ ?_,KT.FT.of KX G (KT.ba2 (fun _ _ _ _ _ _ _ _ _=>rfl) rfl) ?_ ?_ ?_ ?_,KT.FT.of KX G (KT.ba2 (fun _ _ _ _ _ _ _ _ _=>rfl) rfl) ?_ ?_ ?_ ?_,KT.FT.of KX G (KT.ba2 (fun _ _ _ _ _ _ _ _ _=>rfl) rfl) ?_ ?_ ?_ ?_,KT.FT.of KX G (KT.ba2 (fun _ _ _ _ _ _ _ _ _=>rfl) rfl) ?_ ?_ ?_ ?_,KT.FT.of KX G (KT.ba2 (fun _ _ _ _ _ _ _ _ _=>rfl) rfl) ?_ ?_ ?_ ?_,KT.FT.of KX G (KT.ba2 (fun _ _ _ _ _ _ _ _ _=>rfl) rfl) ?_ ?_ ?_ ?_,KT.FT.of KX G (KT.ba2 (fun _ _ _ _ _ _ _ _ _=>rfl) rfl) ?_ ?_ ?_ ?_,KT.FT.of KX G (KT.ba2 (fun _ _ _ _ _ _ _ _ _=>rfl) rfl) ?_ ?_ ?_ ?_,KT.FT.of KX G (KT.ba2 (fun _ _ _ _ _ _ _ _ _=>rfl) rfl) ?_ ?_ ?_ ?_,KT.FT.of KX G (KT.ba2 (fun _ _ _ _ _ _ _ _ _=>rfl) rfl) ?_ ?_ ?_ ?_,KT.FT.of KX G (KT.ba1 (fun _ _ _ _ _ _ _ _=>rfl) rfl) ?_ ?_ ?_ ?_,KT.FT.of KX G (KT.ba1 (fun _ _ _ _ _ _ _ _=>rfl) rfl) ?_ ?_ ?_ ?_,KT.FT.of KX G (KT.ba2 (fun _ _ _ _ _ _ _ _ _=>rfl) rfl) ?_ ?_ ?_ ?_,KT.FT.of KX G (KT.ba3 (fun _ _ _ _ _ _ _ _ _ _=>rfl) rfl) ?_ ?_ ?_ ?_,KT.FT.of KX G (KT.ba2 (fun _ _ _ _ _ _ _ _ _=>rfl) rfl) ?_ ?_ ?_ ?_,KT.FT.of KX G (KT.ba1 (fun _ _ _ _ _ _ _ _=>rfl) rfl) ?_ ?_ ?_ ?_,KT.FT.of KX G (KT.ba1 (fun _ _ _ _ _ _ _ _=>rfl) rfl) ?_ ?_ ?_ ?_,KT.FT.of KX G (KT.ba1 (fun _ _ _ _ _ _ _ _=>rfl) rfl) ?_ ?_ ?_ ?_,KT.FT.of KX G (KT.ba1 (fun _ _ _ _ _ _ _ _=>rfl) rfl) ?_ ?_ ?_ ?_,KT.FM.of (KT.ba5 (fun _ _ _ _ _ _ _ _ _ _ _ _=>rfl) rfl) ?_ ?_ ?_ ?_ ?_,KT.FT.of KX G (KT.ba3 (fun _ _ _ _ _ _ _ _ _ _=>rfl) rfl) ?_ ?_ ?_ ?_,KT.FT.of KX G (KT.ba2 (fun _ _ _ _ _ _ _ _ _=>rfl) rfl) ?_ ?_ ?_ ?_,KT.FT.of KX G (KT.ba2 (fun _ _ _ _ _ _ _ _ _=>rfl) rfl) ?_ ?_ ?_ ?_,KT.FT.of KX G (KT.ba1 (fun _ _ _ _ _ _ _ _=>rfl) rfl) ?_ ?_ ?_ ?_,KT.FT.of KX G (KT.ba1 (fun _ _ _ _ _ _ _ _=>rfl) rfl) ?_ ?_ ?_ ?_,KT.FM.of (KT.ba2 (fun _ _ _ _ _ _ _ _ _=>rfl) rfl) ?_ ?_ ?_ ?_ ?_,KT.FM.of (KT.ba3 (fun _ _ _ _ _ _ _ _ _ _=>rfl) rfl) ?_ ?_ ?_ ?_ ?_,KT.FM.of (KT.ba3 (fun _ _ _ _ _ _ _ _ _ _=>rfl) rfl) ?_ ?_ ?_ ?_ ?_,KT.FM.of (KT.ba3 (fun _ _ _ _ _ _ _ _ _ _=>rfl) rfl) ?_ ?_ ?_ ?_ ?_,KT.FM.of (KT.ba2 (fun _ _ _ _ _ _ _ _ _=>rfl) rfl) ?_ ?_ ?_ ?_ ?_,KT.FM.of (KT.ba4 (fun _ _ _ _ _ _ _ _ _ _ _=>rfl) rfl) ?_ ?_ ?_ ?_ ?_,KT.FM.of (KT.ba1 (fun _ _ _ _ _ _ _ _=>rfl) rfl) ?_ ?_ ?_ ?_ ?_,KT.FM.of (KT.ba1 (fun _ _ _ _ _ _ _ _=>rfl) rfl) ?_ ?_ ?_ ?_ ?_,KT.FM.of (KT.ba1 (fun _ _ _ _ _ _ _ _=>rfl) rfl) ?_ ?_ ?_ ?_ ?_,KT.FM.of (KT.ba1 (fun _ _ _ _ _ _ _ _=>rfl) rfl) ?_ ?_ ?_ ?_ ?_,KT.FT.of KX G (KT.ba1 (fun _ _ _ _ _ _ _ _=>rfl) rfl) ?_ ?_ ?_ ?_,KT.FT.of KX G (KT.ba1 (fun _ _ _ _ _ _ _ _=>rfl) rfl) ?_ ?_ ?_ ?_,KT.FT.of KX G (KT.ba1 (fun _ _ _ _ _ _ _ _=>rfl) rfl) ?_ ?_ ?_ ?_,KT.FT.of KX G (KT.ba1 (fun _ _ _ _ _ _ _ _=>rfl) rfl) ?_ ?_ ?_ ?_,KT.FT.of KX G (KT.ba1 (fun _ _ _ _ _ _ _ _=>rfl) rfl) ?_ ?_ ?_ ?_,KT.FT.of KX G (KT.ba1 (fun _ _ _ _ _ _ _ _=>rfl) rfl) ?_ ?_ ?_ ?_,KT.FT.of KX G (KT.ba1 (fun _ _ _ _ _ _ _ _=>rfl) rfl) ?_ ?_ ?_ ?_,KT.FT.of KX G (KT.ba1 (fun _ _ _ _ _ _ _ _=>rfl) rfl) ?_ ?_ ?_ ?_,KT.FT.of KX G (KT.ba2 (fun _ _ _ _ _ _ _ _ _=>rfl) rfl) ?_ ?_ ?_ ?_,KT.FT.of KX G (KT.ba1 (fun _ _ _ _ _ _ _ _=>rfl) rfl) ?_ ?_ ?_ ?_,KT.FT.of KX G (KT.ba3 (fun _ _ _ _ _ _ _ _ _ _=>rfl) rfl) ?_ ?_ ?_ ?_,KT.FT.of KX G (KT.ba2 (fun _ _ _ _ _ _ _ _ _=>rfl) rfl) ?_ ?_ ?_ ?_,KT.FT.of KX G (KT.ba4 (fun _ _ _ _ _ _ _ _ _ _ _=>rfl) rfl) ?_ ?_ ?_ ?_,KT.FT.of KX G (KT.ba4 (fun _ _ _ _ _ _ _ _ _ _ _=>rfl) rfl) ?_ ?_ ?_ ?_,KT.FT.of KX G (KT.ba4 (fun _ _ _ _ _ _ _ _ _ _ _=>rfl) rfl) ?_ ?_ ?_ ?_,KT.FT.of KX G (KT.ba2 (fun _ _ _ _ _ _ _ _ _=>rfl) rfl) ?_ ?_ ?_ ?_,KT.FT.of KX G (KT.ba3 (fun _ _ _ _ _ _ _ _ _ _=>rfl) rfl) ?_ ?_ ?_ ?_,KT.FT.of KX G (KT.ba2 (fun _ _ _ _ _ _ _ _ _=>rfl) rfl) ?_ ?_ ?_ ?_,KT.FT.of KX G (KT.ba2 (fun _ _ _ _ _ _ _ _ _=>rfl) rfl) ?_ ?_ ?_ ?_,KT.FT.of KX G (KT.ba3 (fun _ _ _ _ _ _ _ _ _ _=>rfl) rfl) ?_ ?_ ?_ ?_,KT.FT.of KX G (KT.ba1 (fun _ _ _ _ _ _ _ _=>rfl) rfl) ?_ ?_ ?_ ?_,KT.FT.of KX G (KT.ba1 (fun _ _ _ _ _ _ _ _=>rfl) rfl) ?_ ?_ ?_ ?_,KT.FT.of KX G (KT.ba1 (fun _ _ _ _ _ _ _ _=>rfl) rfl) ?_ ?_ ?_ ?_,KT.FT.of KX G (KT.ba1 (fun _ _ _ _ _ _ _ _=>rfl) rfl) ?_ ?_ ?_ ?_,KT.FT.of KX G (KT.ba1 (fun _ _ _ _ _ _ _ _=>rfl) rfl) ?_ ?_ ?_ ?_,KT.FT.of KX G (KT.ba1 (fun _ _ _ _ _ _ _ _=>rfl) rfl) ?_ ?_ ?_ ?_,KT.FT.of KX G (KT.ba1 (fun _ _ _ _ _ _ _ _=>rfl) rfl) ?_ ?_ ?_ ?_,⟨?_,?_,?_,?_⟩,⟨?_,?_,?_,?_⟩,⟨?_,?_,?_,?_⟩,mg_of KX G ?_,mg_of KX G ?_,mg_of KX G ?_,mg_of KX G ?_,mg_of KX G ?_,mg_of KX G ?_,mg_of KX G ?_,mg_of KX G ?_,mg_of KX G ?_,mg_of KX G ?_,mg_of KX G ?_,L2.kdict_mk2 ?_ ?_ ?_ (by decide) ?_,mg_of KX G ?_,L2.kdict_mk5 ?_ ?_ ?_ ?_ ?_ ?_ (by decide) ?_,mg_of KX G ?_,L2.ktup_mk2 ?_,mg_of KX G ?_,L2.ktup_mk3 ?_,fun s u=>.of_eq rfl,mg_none_of KX G ?_,mg_none_of KX G ?_,mg_none_of KX G ?_,mg_none_of KX G ?_,mg_none_of KX G ?_,mg_none_of KX G ?_,mg_none_of KX G ?_,mg_none_of KX G ?_,mg_none_of KX G ?_,mg_none_of KX G ?_,mg_none_of KX G ?_,mg_none_of KX G ?_,mg_none_of KX G ?_,mg_none_of KX G ?_,mg_none_of KX G ?_,mg_none_of KX G ?_,mg_none_of KX G ?_,mg_of KX G ?_,⟨?_⟩,mg_of KX G ?_,⟨?_⟩,mg_of KX G ?_,⟨?_⟩,mg_of KX G ?_,⟨?_⟩,mg_of KX G ?_,⟨?_⟩,mg_of KX G ?_,⟨?_⟩,mg_of KX G ?_,⟨?_⟩,mg_of KX G ?_,⟨?_⟩,mg_of KX G ?_,⟨?_⟩,mg_of KX G ?_,⟨?_⟩,mg_of KX G ?_,⟨?_⟩,mg_of KX G ?_,⟨?_⟩,mg_of KX G ?_,⟨?_⟩,mg_of KX G ?_,⟨?_⟩,mg_of KX G ?_,⟨?_⟩,mg_of KX G ?_,⟨?_⟩,mg_of KX G ?_,⟨?_⟩,mg_of KX G ?_,⟨?_⟩,mg_of KX G ?_,⟨?_⟩,mg_of KX G ?_,⟨?_⟩,mg_of KX G ?_,?_,?_,?_⟩⟩
   any_goals first | k_is | k_exc | rfl | kernel_rfl | decide +kernel
  obtain ⟨t,T⟩:=T
  have e0:=hmg.symm.trans T.jh.g
  cases e0
  refine' ⟨_,?b,fun base kb nb=>KT.ok_law T⟩
  exact T.bl
#print axioms PySem.Challenge.cw_tentloops_k72_refusals_apart_holds
