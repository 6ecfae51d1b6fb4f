import PyProof.Rows.All
import Wide.All
import OpenK.AllK
import Wide.FinOn
import Lean
import PyProof.EqAt
import PyProof.EqKinds
import PyProof.TupleCall
import PySem.Challenge.RW_tentloops_k34_whole_numbers_tell_threads
set_option Elab.async false
set_option linter.all false
set_option autoImplicit true
set_option relaxedAutoImplicit true
set_option maxRecDepth 100000
open List hiding contains iter modify
open Nat
universe u v
set_option hygiene false
set_option compiler.extract_closed false
local macro_rules|`((a:))=>`(model X.prog X.w)|`((b:))=>`(λ_ _ _ _ H vs Q E hr h=>?_)|`((c:))=>`(Z7 X (blkN ts fv) scope C s₀ H₀ ex)|`((d:))=>`(model prog w)|`((e:))=>`(Or.inl rfl)|`((f:))=>`(putF "names_at" (.ref N) (putF "cloths" (.ref D) []))|`((g:))=>`(.ListComp iw (⟨t0,i0,f0,0⟩ :: rest) scope pos)|`((h:))=>`(keys ns ns.length)|`((i:))=>`(λ_ _=>rfl)|`((j:))=>`(tupleKeyHash knd kx)
abbrev Lq:=List (Option Nat)
theorem Y{α:Sort v}{a:α}:a=a:=rfl
def An(n:Nat):n<=n:=Nat.le_refl n
def Ao{h:PySem.Heap}{a:PySem.Addr}{o:PySem.Obj}:h.get? a=some o->a<h.objs.size:=PySem.Heap.lt_size
def Ap(h:PySem.Heap){o:PySem.Obj}:o.isFreed=false->(h.push o).get? h.objs.size=some o:=PySem.Heap.get?_push_size h
def Aq{α:Type u}{a:List α}:a.toArray.size=a.length:=size_toArray
def Ar{α:Type u}{b:α}{l:List α}{a:α}:a∈b::l->a=b\/a∈l:=mem_cons.mp
def As{a b:Nat}:a<b->a≠b:=ne_of_lt
def At{α:Type u}{a:α}:[a].length=1:=length_singleton
def Au{α:Type u}{l:List α}{i:Nat}{a:α}:l[i]?=some a->a∈l:=mem_of_getElem?
def Av{α:Type u}{l k:List α}{i:Nat}:i<l.length->(l++k)[i]?=l[i]?:=getElem?_append_left
def Aw{α:Type u}{l:List α}{i:Nat}:l.take (i+1)=l.take i++l[i]?.toList:=take_add_one
def Ax{α:Type u}{a b:α}:some a=some b->a=b:=Option.some.inj
def Ay{α:Type u}{l:List α}{i:Nat}:l.length<=i->l[i]?=none:=getElem?_eq_none
def Az(n:Nat):0<=n:=zero_le n
def Aa{α:Type u}{i:Nat}{a:α}{l:List α}:l[i]?=some a->∃ h:i<l.length,l[i]=a:=List.getElem?_eq_some_iff.mp
def Ab{α:Type u}{β:Type v}{as:List α}(f:α->β):(as.map f).length=as.length:=length_map f
def Ac{α:Type u}{l:List α}{i:Nat}(h:i<l.length):l[i]?=some l[i]:=getElem?_eq_getElem h
def Ad{α:Type u}{l:List α}{i:Nat}{a:α}:l.getD i a=l[i]?.getD a:=getD_eq_getElem?_getD
def Ae{α:Type u}{as bs:List α}:(as++bs).length=as.length+bs.length:=length_append
def Af{α:Type u}{a b:α}:a∈[b]->a=b:=mem_singleton.mp
def Ag{n m k:Nat}:n<m->m<=k->n<k:=Nat.lt_of_lt_of_le
def Ah{α:Type u}{β:Type v}{f:α->β}{l:List α}{i:Nat}:(l.map f)[i]?=(l[i]?).map f:=getElem?_map
def Ai{α:Type u}{i:Nat}{l:List α}:(l.take i).length=min i l.length:=length_take
def Aj{α:Type u}{β:Type v}{f:α->β}{l₁ l₂:List α}:(l₁++l₂).map f=l₁.map f++l₂.map f:=map_append
def Ak{h:PySem.Heap}{a:PySem.Addr}{o':PySem.Obj}(o:PySem.Obj)(e:h.get? a=some o'):(h.push o).get? a=some o':=PySem.Heap.get?_push_of_some o e
def Al{α β:Type}{M:PySem.Model}{A:PySem.Around}{E:PySem.Value->PySem.Shared->Prop}{s:PySem.Shared}{m:PySem.Sem α}{f:α->PySem.Sem β}{Q:β->PySem.Shared->Prop}(h:PySem.wpAny M A m (λa s'=>PySem.wpAny M A (f a) Q E s') E s):PySem.wpAny M A (m>>=f) Q E s:=PySem.wpAny_bind h
set_option maxHeartbeats 4000000
namespace L2
open PySem PySem.Spec PyProof.Rows
abbrev Key:=Sum Int Str
def Oa:Key->Value->Bool
 | .inl k,v=>Value.isInt k v
 | .inr x,v=>Value.isStrOf x v
def keyH (w:World):Key->Int
 | .inl k=>hashInt k
 | .inr x=>hashStr w x
theorem Y1:∀ {k:Key} {v:Value},Oa k v=true->(∃ i t,k=Sum.inl i/\v=Value.int i t)\/(∃ x t,k=Sum.inr x/\v=Value.str x t)
 | .inl i,v,h=>by
  obtain ⟨t,e⟩:=Value.isInt_shape (k:=i) (v:=v) h;exact .inl ⟨i,t,Y,e⟩
 | .inr x,v,h=>by
  obtain ⟨t,e⟩:=Value.isStrOf_shape (x:=x) (v:=v) h;exact .inr ⟨x,t,Y,e⟩
def Zhy (i:Int) (t:Tok):Oa (.inl i) (.int i t)=true:=by simp [Oa,Value.isInt]
def Zhx (x:Str) (t:Tok):Oa (.inr x) (.str x t)=true:=by simp [Oa,Value.isStrOf]
def Zn3 (a b:Int):decide ((Sum.inl a:Key)=Sum.inl b)=(a == b):=by
 by_cases e:a=b
 ·subst e; simp
 ·have h:¬ (Sum.inl a:Key)=Sum.inl b:=λq=>e (Sum.inl.inj q)
  rw [decide_eq_false h];exact (beq_eq_false_iff_ne.mpr e).symm
def Zn0 (a b:Str):decide ((Sum.inr a:Key)=Sum.inr b)=decide (a=b):=by
 by_cases e:a=b
 ·subst e; simp
 ·have h:¬ (Sum.inr a:Key)=Sum.inr b:=λq=>e (Sum.inr.inj q)
  rw [decide_eq_false h,decide_eq_false e]
def Zn2 (a:Int) (b:Str):decide ((Sum.inl a:Key)=Sum.inr b)=false:=decide_eq_false (λq=>nomatch q)
def Zn1 (a:Str) (b:Int):decide ((Sum.inr a:Key)=Sum.inl b)=false:=decide_eq_false (λq=>nomatch q)
def Z4 (prog:Program) (w:World):PySem.KeyKind prog w Key where
 is:=Oa
 hash:=keyH w
 inj:=λv a b ha hb=>by
  rcases Y1 ha with ⟨i,t,rfl,rfl⟩ | ⟨x,t,rfl,rfl⟩
  ·rcases Y1 hb with ⟨j,u,rfl,e⟩ | ⟨y,u,rfl,e⟩
   ·injection e with e1 _; rw [e1]
   ·exact nomatch e
  ·rcases Y1 hb with ⟨j,u,rfl,e⟩ | ⟨y,u,rfl,e⟩
   ·exact nomatch e
   ·injection e with e1 _; rw [e1]
 byValue:=λk v h=>by
  rcases Y1 h with ⟨i,t,rfl,rfl⟩ | ⟨x,t,rfl,rfl⟩ <;> rfl
 pyHash:=λhv h=>by
  rcases Y1 hv with ⟨i,t,rfl,rfl⟩ | ⟨x,t,rfl,rfl⟩
  ·exact wpAny_pyHash_int h
  ·exact wpAny_pyHash_str h
 eqBool:=λhu hv h=>by
  rcases Y1 hu with ⟨i,t,rfl,rfl⟩ | ⟨x,t,rfl,rfl⟩
  ·rcases Y1 hv with ⟨j,u,rfl,rfl⟩ | ⟨y,u,rfl,rfl⟩
   ·rw [Zn3] at h; exact wpAny_eqBool_int h
   ·rw [Zn2] at h; exact SeqAt.EqAt.int_str i t y u _ _ _ _ h
  ·rcases Y1 hv with ⟨j,u,rfl,rfl⟩ | ⟨y,u,rfl,rfl⟩
   ·rw [Zn1] at h; exact SeqAt.EqAt.str_int x t j u _ _ _ _ h
   ·rw [Zn0] at h; exact wpAny_eqBool_str h
 «strs»:=λk x t v h=>by
  rcases Y1 h with ⟨i,u,rfl,e⟩ | ⟨y,u,rfl,e⟩
  ·exact nomatch e
  ·injection e with e1 _
   subst e1;cases v <;> rfl
def Zde (prog:Program) (w:World) (i:Int) (t:Tok):(Z4 prog w).is (.inl i) (.int i t)=true:=Zhy i t
def Zdd (prog:Program) (w:World) (x:Str) (t:Tok):(Z4 prog w).is (.inr x) (.str x t)=true:=Zhx x t
inductive V where
 | non | bl (b:Bool) | int (i:Int) | str (x:Str) | byt (b:Array UInt8) | flt (b:UInt64) | ref (a:Addr) | ty (n:String)
 deriving DecidableEq
set_option genInjectivity false
set_option genSizeOf false
def RelV:V->Value->Prop
 | .non,u=>u=Value.none
 | .bl b,u=>u=Value.bool b
 | .int i,u=>∃ t,u=Value.int i t
 | .str x,u=>∃ t,u=Value.str x t
 | .byt b,u=>∃ t,u=Value.bytes b t
 | .flt b,u=>∃ t,u=Value.float b t
 | .ref a,u=>u=Value.ref a
 | .ty n,u=>u=Value.type n
abbrev Vals:List V->List Value->Prop:=Paired RelV
def Vals.length {xs:List V} {us:List Value} (r:Vals xs us):xs.length=us.length:=Paired.length r
theorem Vals.get:∀ {xs:List V} {us:List Value} {i:Nat} {x:V},Vals xs us->xs[i]?=some x->∃ u,us[i]?=some u/\RelV x u
 | _,_,_,_,.nil,e=>by simp at e
 | _,_,0,_,.cons r _,e=>by simp at e; subst e; exact ⟨_,Y,r⟩
 | _,_,i + 1,x,.cons _ t,e=>by
  obtain ⟨u,h1,h2⟩:=Vals.get (i:=i) (x:=x) t (by simpa using e);exact ⟨u,by simpa using h1,h2⟩
theorem Vals.set (r:RelV x u):∀ {xs:List V} {us:List Value} (i:Nat),Vals xs us->Vals (xs.set i x) (us.set i u)
 | _,_,_,.nil=>.nil
 | _,_,0,.cons _ t=>.cons r t
 | _,_,i + 1,.cons q t=>.cons q (Vals.set r i t)
theorem Vals.append:∀ {xs ys:List V} {us ws:List Value},Vals xs us->Vals ys ws->Vals (xs ++ ys) (us ++ ws)
 | _,_,_,_,.nil,s=>s
 | _,_,_,_,.cons r t,s=>.cons r (Vals.append t s)
theorem Vals.take:∀ {xs:List V} {us:List Value} (n:Nat),Vals xs us->Vals (xs.take n) (us.take n)
 | _,_,0,_=>.nil
 | _,_,_ + 1,.nil=>.nil
 | _,_,n + 1,.cons r t=>.cons r (Vals.take n t)
theorem Vals.drop:∀ {xs:List V} {us:List Value} (n:Nat),Vals xs us->Vals (xs.drop n) (us.drop n)
 | _,_,0,r=>r
 | _,_,_ + 1,.nil=>.nil
 | _,_,n + 1,.cons _ t=>Vals.drop n t
def RelO:Option V->Option Value->Prop
 | some v,some u=>RelV v u
 | none,none=>True
 | _,_=>False
def KV {κ:Type}:List (κ × V)->List (κ × Value)->Prop:=Paired λ(p:κ × V) (q:κ × Value)=>p.1=q.1/\RelV p.2 q.2
def kV:Key->V
 | .inl i=>.int i
 | .inr x=>.str x
inductive HO where
 /-- a list -/
 | lst (xs:List V)
 /-- a tuple (never changes) -/
 | tup (xs:List V)
 /-- a dict whose keys are ints and texts; one whose keys are tuples of ints and texts (the empty one is both) -/
 | dK (kvs:List (Key × V)) | dT (kvs:List (List Key × V))
 /-- a set of ints: its members,its size -/
 | set (S:Int->Bool) (n:Nat)
 /-- an instance of the class at C,its dict at dx,its attributes -/
 | ins (C dx:Addr) (fs:List (Str × V))
 /-- the dict of the instance at x -/
 | own (x:Addr)
 /-- the dict of an exception -/
 | xd (fs:List (Str × V))
 /-- a bound method,f of x -/
 | met (f x:Addr)
 /-- a range object lo,lo + 1,.. below hi -/
 | rng (lo hi:Int)
 /-- a thing that is known to the object (the script; a dict while a loop walks it): read,never written while it is so -/
 | frz (o:Obj) (u:HO)
 /-- a code object's table -/
 | tbl (ps:Array Value)
 /-- any other thing,by what is true of its one object (a def of one's own: SetO a S n:=HO.ext λh=>..) -/
 | ext (φ:Heap->Prop)
abbrev Hp:=Addr->Option HO
def upd (H:Hp) (a:Addr) (o:HO):Hp:=λb=>if b=a then some o else H b
def Zc:upd H a o a=some o:=by unfold upd; rw [if_pos rfl]
def Ze (h:b≠a):upd H a o b=H b:=by unfold upd; rw [if_neg h]
def Zoy {H:Hp} (h:H a=some o) (h':H b=some u) (d:o≠u):a≠b:=by
 intro e; subst e; rw [h] at h'; exact d (Ax h')
def Zl {H:Hp} (h:H a=some o) (h':H b=none):a≠b:=by
 intro e; subst e; rw [h] at h'; cases h'
section
variable (P:Program) (w:World)
def Z3 (H:Hp) (h:Heap) (a:Addr):HO->Prop
 | .lst xs=>xs.length<=sizeLine/\∃ (its:List Value) (n:Nat),Vals xs its/\h.get? a=some { cls:=.type "list",data:=.seq its.toArray n }
 | .tup xs=>xs.length<=sizeLine/\∃ its:List Value,Vals xs its/\IsTup h a its.toArray
 | .dK kvs=>kvs.length<=sizeLine/\(a == sysModules)=false/\∃ vs,KV kvs vs/\h.DictOf (Z4 P w) a vs
 | .dT kvs=>kvs.length<=sizeLine/\(a == sysModules)=false/\∃ xs:List (List Key × Addr × Value),
   Paired (λ(p:List Key × V) (q:List Key × Addr × Value)=>p.1=q.1/\H q.2.1=some (.tup (p.1.map kV))/\RelV p.2 q.2.2) kvs xs /\
   ∃ o es ep,h.get? a=some o/\o.ExactDict/\o.data=.dict es ep/\es.toList=xs.map (entryOfKey (tupleKind (Z4 P w)))/\(xs.map (·.1)).Nodup
 | .set S n=>h.SetOf (intKind P w) a S n
 | .ins C dx fs=>H dx=some (.own a)/\fs.length<=1000/\dx≠a/\h.get? a=some (PySem.W.instObj C dx) /\
   ∃ mA,h.Ns1 dx mA/\(∀ f,RelO (fs.lookup f) (mA f))/\PySem.Within mA (fs.map (·.1))
 | .own _=>∃ o,h.get? a=some o
 | .xd fs=>∃ mA,h.Ns1 a mA/\∀ f,RelO (fs.lookup f) (mA f)
 | .rng lo hi=>∃ t u v,h.get? a=some { cls:=.type "range",data:=.fields #[.int lo t,.int hi u,.int 1 v] }
 | .frz o u=>h.get? a=some o/\Z3 H h a u
 | .tbl ps=>h.get? a=some { cls:=.none,data:=.fields ps }
 | .met f x=>h.get? a=some (PySem.W.methodObj (.ref f) (.ref x))
 | .ext φ=>φ h/\(∃ o,h.get? a=some o)/\∀ h1 h2:Heap,φ h1->(∀ o,h1.get? a=some o->h2.get? a=some o)->φ h2
def HOk (H:Hp) (h:Heap):Prop:=∀ a o,H a=some o->Z3 P w H h a o
end
section
variable {P:Program} {w:World} {H H':Hp} {h h':Heap} {a:Addr} {o:HO}
def Z3.lt (x:Z3 P w H h a o):a < h.objs.size:=by
 cases o with
 | lst xs=>obtain ⟨_,_,_,_,e⟩:=x; exact Ao e
 | tup xs=>obtain ⟨_,_,_,p⟩:=x; exact p.lt
 | dK kvs=>obtain ⟨_,_,_,_,o,_,_,e,_⟩:=x; exact Ao e
 | dT kvs=>obtain ⟨_,_,_,_,o,_,_,e,_⟩:=x; exact Ao e
 | set S n=>obtain ⟨o,_,_,_,e,_⟩:=x; exact Ao e
 | ins C dx fs=>obtain ⟨_,_,_,e,_⟩:=x; exact Ao e
 | own y=>obtain ⟨_,e⟩:=x; exact Ao e
 | xd fs=>obtain ⟨_,⟨_,_,_,e,_⟩,_⟩:=x; exact Ao e
 | rng lo hi=>obtain ⟨_,_,_,e⟩:=x; exact Ao e
 | frz ob u=>obtain ⟨e,_⟩:=x; exact Ao e
 | tbl ps=>exact Ao (show h.get? a=some _ from x)
 | met f y=>exact Ao (show h.get? a=some _ from x)
 | ext φ=>obtain ⟨_,⟨_,e⟩,_⟩:=x; exact Ao e
theorem Paired.mapP {α β:Type} {F G:α->β->Prop}:∀ {l₁:List α} {l₂:List β},Paired F l₁ l₂->(∀ a b,F a b->G a b)->Paired G l₁ l₂
 | _,_,.nil,_=>.nil
 | _,_,.cons r t,f=>.cons (f _ _ r) (Paired.mapP t f)
def Z3.stay (x:Z3 P w H h a o) (k:∀ b u,(b=a\/H b=some (.own a))->h.get? b=some u->h'.get? b=some u)
  (ho:∀ b,H b=some (.own a)->H' b=some (.own a)) (ht:∀ b xs,H b=some (.tup xs)->H' b=some (.tup xs)):Z3 P w H' h' a o:=by
 induction o with
 | lst xs=>obtain ⟨z,its,n,r,e⟩:=x; exact ⟨z,its,n,r,k _ _ (.inl Y) e⟩
 | tup xs=>obtain ⟨z,its,r,ob,e,c⟩:=x; exact ⟨z,its,r,ob,k _ _ (.inl Y) e,c⟩
 | dK kvs=>obtain ⟨z,y,vs,r,ob,es,ep,e,c⟩:=x; exact ⟨z,y,vs,r,ob,es,ep,k _ _ (.inl Y) e,c⟩
 | dT kvs =>
  obtain ⟨z,y,xs,r,ob,es,ep,e,c⟩:=x;exact ⟨z,y,xs,Paired.mapP r λp q z=>⟨z.1,ht _ _ z.2.1,z.2.2⟩,ob,es,ep,k _ _ (.inl Y) e,c⟩
 | set S n=>obtain ⟨ob,es,ep,t,e,c⟩:=x; exact ⟨ob,es,ep,t,k _ _ (.inl Y) e,c⟩
 | ins C dx fs =>
  obtain ⟨d,z,ne,e,mA,⟨od,es,ep,e2,c⟩,r⟩:=x;exact ⟨ho _ d,z,ne,k _ _ (.inl Y) e,mA,⟨od,es,ep,k _ _ (.inr d) e2,c⟩,r⟩
 | own y=>obtain ⟨ob,e⟩:=x; exact ⟨ob,k _ _ (.inl Y) e⟩
 | xd fs=>obtain ⟨mA,⟨od,es,ep,e,c⟩,r⟩:=x; exact ⟨mA,⟨od,es,ep,k _ _ (.inl Y) e,c⟩,r⟩
 | rng lo hi=>obtain ⟨t,u,v,e⟩:=x; exact ⟨t,u,v,k _ _ (.inl Y) e⟩
 | frz ob u ih=>obtain ⟨e,q⟩:=x; exact ⟨k _ _ (.inl Y) e,ih q⟩
 | tbl ps =>
  have e:h.get? a=some { cls:=.none,data:=.fields ps }:=x;show h'.get? a=some { cls:=.none,data:=.fields ps };exact k a _ (.inl Y) e
 | met f y =>
  have e:h.get? a=some (PySem.W.methodObj (.ref f) (.ref y)):=x;show h'.get? a=some (PySem.W.methodObj (.ref f) (.ref y));exact k a _ (.inl Y) e
 | ext φ=>obtain ⟨p,⟨o,e⟩,st⟩:=x; exact ⟨st _ _ p λo q=>k _ _ (.inl Y) q,⟨o,k _ _ (.inl Y) e⟩,st⟩
def HOk.lt (x:HOk P w H h) (e:H a=some o):a < h.objs.size:=(x a o e).lt
def HOk.fresh (x:HOk P w H h) (e:h.objs.size<=a):H a=none:=by
 cases q:H a with
 | none=>rfl
 | some u=>exact absurd (Ag (x.lt q) e) (Nat.lt_irrefl _)
def HOk.kept (x:HOk P w H h) (k:∀ b u,h.get? b=some u->h'.get? b=some u):HOk P w H h':=λa o e =>
 (x a o e).stay (λb u _ q=>k b u q) (λ_ q=>q) λ_ _ q=>q
def HOk.laid (x:HOk P w H h) (k:∀ b u,h.get? b=some u->h'.get? b=some u) (hp:h.objs.size<=a) (new:Z3 P w (upd H a o) h' a o):HOk P w (upd H a o) h':=λb u e=>by
 have hn:=x.fresh hp;by_cases hb:b=a
 ·subst hb; rw [Zc] at e; cases e; exact new
 ·rw [Ze hb] at e
  exact (x b u e).stay (λc v _ q=>k c v q) (λc q=>by rw [Ze (Zl q hn)]; exact q) λc xs q=>by rw [Ze (Zl q hn)]; exact q
end
def Rd (H:Hp) (a:Addr) (u:HO):Prop:=H a=some u\/∃ o,H a=some (.frz o u)
def Rd.ok {P:Program} {w:World} {H:Hp} {h:Heap} {a:Addr} {u:HO} (r:Rd H a u) (x:HOk P w H h):Z3 P w H h a u:=by
 rcases r with r | ⟨o,r⟩
 ·exact x a u r
 ·obtain ⟨_,q⟩:=x a _ r
  exact q
def Mut:Option HO->Prop
 | some (.lst _)=>True
 | some (.dK _)=>True
 | some (.dT _)=>True
 | some (.set _ _)=>True
 | some (.ins _ _ _)=>True
 | some (.ext _)=>True
 | _=>False
section
variable {P:Program} {w:World} {H:Hp} {h h':Heap} {x e:Addr} {o':HO}
def HOk.write (ok:HOk P w H h) (mu:Mut (H x)) (he:e=x\/H e=some (.own x)) (k:∀ b u,b≠e->h.get? b=some u->h'.get? b=some u) (ur:∃ u,h'.get? e=some u)
  (new:Z3 P w (upd H x o') h' x o'):HOk P w (upd H x o') h':=λb u q=>by
 have lu:∀ c y,H c=some (.own y)->c≠x:=λc y r z=>by subst z; rw [r] at mu; exact mu
 have kh:∀ c xs,H c=some (.tup xs)->c≠x:=λc xs r z=>by subst z; rw [r] at mu; exact mu
 by_cases hb:b=x
 ·subst hb; rw [Zc] at q; cases q; exact new
 ·rw [Ze hb] at q
  by_cases ss:b=e
  ·have q':H b=some (.own x):=by
    rcases he with z | z
    ·exact absurd (ss.trans z) hb
    ·rw [ss]; exact z
   rw [q] at q'; cases q';obtain ⟨v,hv⟩:=ur;exact ⟨v,by rw [ss]; exact hv⟩
  ·refine (ok b u q).stay (λc v hc r=>k c v ?_ r) (λc r=>by rw [Ze (lu c b r)]; exact r) λc xs r=>by rw [Ze (kh c xs r)]; exact r
   rcases hc with rfl | hc
   ·exact ss
   ·rintro rfl
    rcases he with z | z
    ·exact lu c b hc z
    ·rw [hc] at z; cases z; exact hb Y
end
structure Un (fs ex:List Addr) (H H':Hp) (h h':Heap):Prop where
 keep:∀ b o,h.get? b=some o->H b=none->b ∉ fs->b ∉ ex->h'.get? b=some o
 slot:∀ b o,h.get? b=some o->H b=none->b∈fs->b ∉ ex->∃ sl,h'.get? b=some { o with slots:=sl }
 free:∀ b o,h.get? b=some o->H b=none->b ∉ ex->H' b=none
 there:∀ b o,h.get? b=some o->b ∉ ex->∃ o',h'.get? b=some o'
 tups:∀ b xs,H b=some (.tup xs)->H' b=some (.tup xs)
 frzs:∀ b o u,H b=some (.frz o u)->H' b=some (.frz o u)
 tbls:∀ b ps,H b=some (.tbl ps)->∃ more,H' b=some (.tbl (ps ++ more))
section
variable {fs fs' ex ex':List Addr} {H H1 H2:Hp} {h h1 h2 h':Heap} {a x e:Addr} {o:HO}
def Un.any (u:Un fs ex H H1 h h1) (q:h.get? b=some ob) (n:H b=none) (hx:b ∉ ex):∃ sl,h1.get? b=some { ob with slots:=sl }:=by
 by_cases hb:b∈fs
 ·exact u.slot b ob q n hb hx
 ·exact ⟨ob.slots,u.keep b ob q n hb hx⟩
def Un.kept (k:∀ b u,h.get? b=some u->h'.get? b=some u):Un fs ex H H h h' :=
 ⟨λb ob q _ _ _=>k b ob q,λb ob q _ _ _=>⟨ob.slots,k b ob q⟩,λ_ _ _ n _=>n,λb ob q _=>⟨ob,k b ob q⟩,λ_ _ q=>q,λ_ _ _ q=>q,λ_ ps q=>⟨#[],by rw [q]; simp⟩⟩
def Un.refl:Un fs ex H H h h:=Un.kept λ_ _ q=>q
def Un.laid (k:∀ b u,h.get? b=some u->h'.get? b=some u) (hp:h.objs.size<=a) (hn:H a=none):Un fs ex H (upd H a o) h h' where
 keep:=λb u q _ _ _=>k b u q
 slot:=λb u q _ _ _=>⟨u.slots,k b u q⟩
 free:=λb u q n _=>by rw [Ze (As (Ag (Ao q) hp))]; exact n
 there:=λb u q _=>⟨u,k b u q⟩
 tups:=λb xs q=>by rw [Ze (Zl q hn)]; exact q
 frzs:=λb u xs q=>by rw [Ze (Zl q hn)]; exact q
 tbls:=λb ps q=>⟨#[],by rw [Ze (Zl q hn),q]; simp⟩
def Un.write (mu:Mut (H x)) (he:e=x\/H e=some (.own x)) (k:∀ b u,b≠e->h.get? b=some u->h'.get? b=some u) (ur:∃ u,h'.get? e=some u):Un fs ex H (upd H x o) h h':=by
 have hx:∀ b,H b=none->b≠x:=λb n z=>by subst z; rw [n] at mu; exact mu
 have hb:∀ b,H b=none->b≠e:=λb n z=>by
  subst z
  rcases he with r | r
  ·exact hx b n r
  ·rw [n] at r; cases r
 have hm:∀ b u,H b=some u->¬ Mut (some u)->b≠x:=λb u q nm z=>by subst z; rw [q] at mu; exact nm mu
 refine ⟨λb u q n _ _=>k b u (hb b n) q,λb u q n _ _=>⟨u.slots,k b u (hb b n) q⟩,λb u q n _=>by rw [Ze (hx b n)]; exact n,λb u q _=>?_,
  λb xs q=>by rw [Ze (hm b _ q λz=>z)]; exact q,λb u xs q=>by rw [Ze (hm b _ q λz=>z)]; exact q,λb ps q=>⟨#[],by rw [Ze (hm b _ q λz=>z),q]; simp⟩⟩;by_cases ss:b=e
 ·subst ss; exact ur
 ·exact ⟨u,k b u ss q⟩
end
def trk (h:Heap) (H:Hp):List Addr:=(List.range h.objs.size).filter λa=>(H a).isSome
def hidT (h:Heap) (H:Hp):Heap:=PySem.W.hideAll h (trk h H)
def Zh1 (h:Heap) (H:Hp):(hidT h H).objs.size=h.objs.size:=PySem.W.hideAll_size _ _
def Zj2 {h:Heap} (e:h.get? b=some o) (n:H b=none):(hidT h H).get? b=some o :=
 PySem.W.hideAll_get _ e λhm=>by
  have q:(H b).isSome=true:=(mem_filter.mp hm).2;rw [n] at q; simp at q
def Zl0 {h:Heap} (e:(hidT h H).get? b=some o):h.get? b=some o/\H b=none:=by
 have e':h.get? b=some o:=PySem.W.of_hideAll (trk h H) e;refine ⟨e',?_⟩
 cases q:H b with
 | none=>rfl
 | some x =>
  have hm:b∈trk h H:=mem_filter.mpr ⟨mem_range.mpr (Ao e'),by simp [q]⟩;have z:(hidT h H).get? b=none:=PySem.W.hideAll_none (trk h H) hm;rw [z] at e; cases e
def Zmq (g h:Heap) (L:Addr):List (Addr × Obj):=(List.range h.objs.size).filterMap λa=>if a=L\/(g.get? a).isSome=true then none else (h.get? a).map λo=>(a,o)
def rest (g h:Heap) (L d:Addr):List (Addr × Obj):=(Zmq g h L).filter λp=>decide (p.1≠d)
structure Mod (K:W.Frag) (mg:Str->Option Value) (base:Heap):Prop where
 kin:K.In base
 glob:base.Ns mainGlobals mg
 blt:∃ mb,base.Ns builtinsNs mb/\∀ x:Str,x≠"__name__"->mb x=bootBuiltins x
 nolimit:base.NoLimit
structure Cx where
 prog:Program
 w:World
 K:PySem.W.Frag
 mg:Str->Option Value
 base:Heap
 A:Around
 N:List Str
 s₀:Shared
 H₀:Hp
 env:Env
 outer:List Env
 stack:List Env
 ex:List Addr
 fn:Str->Bool
 calm:Bool
 pn:List (Addr × Obj)
 xe:Value->Shared->Prop
def frs (l:List Env):List Addr:=l.filterMap (·.frame)
abbrev Cx.fs (X:Cx):List Addr:=frs X.outer
def Vis (sc:Scope) (x:Str):Prop:=sc.names.lookup x=some .local\/sc.names.lookup x=some .cell\/sc.names.lookup x=some .free
def Loc (sc:Scope) (x:Str):Prop:=sc.names.lookup x=some .local\/sc.names.lookup x=some .cell
def Look (env:Env) (h:Heap) (m:Str->Option Value) (x:Str) (u:Value):Prop :=
 (env.kindOf x=some .local/\m x=some u)\/((env.kindOf x=some .cell\/env.kindOf x=some .free)/\∃ c,env.cells.lookup x=some c/\h.IsCell c (some u))
structure Cx.Ok (X:Cx):Prop where
 mod:Mod X.K X.mg X.base
 kind:X.env.scope.kind=.function
 glob:X.env.globals=mainGlobals
 blt:X.env.builtins=builtinsNs
 above:X.s₀.heap.objs.size<=X.env.locals
 inj:∀ x y c,X.env.cells.lookup x=some c->X.env.cells.lookup y=some c->x=y
 has:∀ x,(X.env.kindOf x=some .cell\/X.env.kindOf x=some .free)->∃ c,X.env.cells.lookup x=some c
 cab:∀ x c,X.fn x=true->X.env.cells.lookup x=some c->X.s₀.heap.objs.size<=c
 hd:X.calm=true->X.A.handled=none
 frames:X.A.frames=some X.stack
 stk:X.stack=X.outer\/(X.stack=X.env :: X.outer/\X.env.frame=some X.env.locals)
 exf:∀ b∈X.ex,b≠X.env.locals/\∀ x c,X.env.cells.lookup x=some c->c≠b
 bs:∀ b o,X.base.get? b=some o->X.s₀.heap.get? b=some o/\X.H₀ b=none
 bsz:X.base.objs.size<=X.s₀.heap.objs.size
 noex:∀ b o,X.base.get? b=some o->b ∉ X.ex
 exfs:∀ b∈X.ex,b ∉ X.fs
 funs:X.s₀.heap.FunFrames X.base X.outer
 frf:∀ b∈X.fs,X.H₀ b=none
structure Inv (X:Cx) (fo:List (Addr × Obj)) (σ:List (Option V)) (H:Hp) (s:Shared):Prop where
 ok:X.Ok
 os:s.os=X.s₀.os
 bare:AllBare s.gens
 base:Un X.fs X.ex X.H₀ H X.s₀.heap s.heap
 loc:∃ m,s.heap.Ns X.env.locals m/\∀ (i:Nat) (x:Str) (v:V),X.N[i]?=some x->σ[i]?=some (some v)->Vis X.env.scope x->∃ u,RelV v u/\Look X.env s.heap m x u
 cell:∀ x c,X.env.cells.lookup x=some c->∃ v,s.heap.IsCell c v
 free:H X.env.locals=none
 freeC:∀ x c,X.env.cells.lookup x=some c->H c=none
 pin:∀ p∈X.pn ++ fo,s.heap.get? p.1=some p.2/\H p.1=none/\p.1≠X.env.locals/\p.1 ∉ X.fs/\∀ v,p.2.data≠.cell v
 hok:HOk X.prog X.w H s.heap
 len:σ.length=X.N.length
section
variable {X:Cx} {fo:List (Addr × Obj)} {σ:List (Option V)} {H H':Hp} {s:Shared} {h':Heap}
def Cx.Ok.nofr (ok:X.Ok) (e:X.base.get? b=some o):b ∉ X.fs:=λhb=>by
 have:=(ok.funs.mem hb).1;rw [e] at this; cases this
def Inv.bs (I:Inv X fo σ H s):∀ b o,X.base.get? b=some o->s.heap.get? b=some o/\H b=none:=λb o e =>
 ⟨I.base.keep b o (I.ok.bs b o e).1 (I.ok.bs b o e).2 (I.ok.nofr e) (I.ok.noex b o e),I.base.free b o (I.ok.bs b o e).1 (I.ok.bs b o e).2 (I.ok.noex b o e)⟩
def Inv.bk (I:Inv X fo σ H s):∀ b o,X.base.get? b=some o->s.heap.get? b=some o:=λb o e=>(I.bs b o e).1
def Inv.mod (I:Inv X fo σ H s):Mod X.K X.mg X.base:=I.ok.mod
def Inv.kIn (I:Inv X fo σ H s):X.K.In s.heap:=I.ok.mod.kin.keeps I.bk
def Inv.lt (I:Inv X fo σ H s):X.env.locals < s.heap.objs.size:=let ⟨_,hn,_⟩:=I.loc; hn.lt
def Inv.sz (I:Inv X fo σ H s):X.s₀.heap.objs.size<=s.heap.objs.size:=Nat.le_trans I.ok.above (Nat.le_of_lt I.lt)
def Inv.nofs (I:Inv X fo σ H s) {a:Addr} (h:s.heap.objs.size<=a):a ∉ X.fs:=λhb=>by
 obtain ⟨_,o,ho,_⟩:=I.ok.funs.mem hb;exact absurd (Ag (Ao ho) (Nat.le_trans I.sz h)) (Nat.lt_irrefl _)
def Inv.cne (I:Inv X fo σ H s):∀ x c,X.env.cells.lookup x=some c->c≠X.env.locals:=λx c e z=>by
 obtain ⟨v,o,ho,hd⟩:=I.cell x c e;obtain ⟨m,⟨o',es,ep,mf,hd',_⟩,_⟩:=I.loc;rw [z,mf] at ho; cases ho; rw [hd'] at hd; cases hd
def Inv.funs (I:Inv X fo σ H s):s.heap.FunFrames X.base X.outer:=by
 have all:∀ (l:List Env),(∀ b∈frs l,b∈X.fs)->X.s₀.heap.FunFrames X.base l->s.heap.FunFrames X.base l:=by
  intro l
  induction l with
  | nil=>intro _ _; trivial
  | cons env r ih =>
   intro hs hl;obtain ⟨hk,⟨L,o,hf,hn,ho,hd⟩,hr⟩:=hl;have hL:L∈X.fs:=hs L (by unfold frs; rw [filterMap_cons,hf]; exact mem_cons_self);obtain ⟨sl,e⟩:=I.base.slot L o ho (I.ok.frf L hL) hL λz=>I.ok.exfs L z hL;exact ⟨hk,⟨L,_,hf,hn,e,hd⟩,ih (λb hb=>hs b (by unfold frs; rw [filterMap_cons,hf]; exact mem_cons_of_mem _ hb)) hr⟩
 exact all X.outer (λ_ hb=>hb) I.ok.funs
def Inv.stack (I:Inv X fo σ H s):s.heap.FunFrames X.base X.stack:=by
 rcases I.ok.stk with e | ⟨e,hf⟩
 ·rw [e]; exact I.funs
 ·rw [e]
  obtain ⟨m,hn,_⟩:=I.loc;refine .cons (by rw [I.ok.kind]; decide) hf hn ?_ I.funs;exact Heap.get?_none_of_le (Nat.le_trans I.ok.bsz I.ok.above)
def Inv.stkSub (I:Inv X fo σ H s):∀ b∈frs X.stack,b∈X.env.locals :: X.fs:=λb hb=>by
 rcases I.ok.stk with e | ⟨e,hf⟩
 ·rw [e] at hb; exact mem_cons_of_mem _ hb
 ·rw [e] at hb
  unfold frs at hb;rw [filterMap_cons,hf] at hb;exact hb
def Inv.stkFree (I:Inv X fo σ H s):∀ b∈frs X.stack,H b=none:=λb hb=>by
 rcases Ar (I.stkSub b hb) with e | hb
 ·rw [e]; exact I.free
 ·obtain ⟨_,o,ho,_⟩:=I.ok.funs.mem hb
  exact I.base.free b o ho (I.ok.frf b hb) λz=>I.ok.exfs b z hb
def Inv.step {g':Array GenState} {t':Nat} {d':Drawn} {ch:List Addr} (I:Inv X fo σ H s)
  (jy:∀ b∈ch,(b∈X.ex\/X.s₀.heap.objs.size<=b)/\b≠X.env.locals/\(∀ x c,X.env.cells.lookup x=some c->c≠b)/\∀ p∈X.pn ++ fo,p.1≠b)
  (keep:∀ b o,b≠X.env.locals->b ∉ X.fs->b ∉ ch->s.heap.get? b=some o->H b=none->h'.get? b=some o)
  (slot:∀ b o,b≠X.env.locals->b∈X.fs->b ∉ ch->s.heap.get? b=some o->H b=none->∃ sl,h'.get? b=some { o with slots:=sl }) (free:∀ b o,b ∉ ch->s.heap.get? b=some o->H b=none->H' b=none)
  (there:∀ b o,b ∉ ch->s.heap.get? b=some o->∃ o',h'.get? b=some o')
  (tups:∀ b xs,H b=some (.tup xs)->H' b=some (.tup xs)) (frzs:∀ b o u,H b=some (.frz o u)->H' b=some (.frz o u)) (tbls:∀ b ps,H b=some (.tbl ps)->∃ more,H' b=some (.tbl (ps ++ more)))
  (ns:∀ m,s.heap.Ns X.env.locals m->h'.Ns X.env.locals m) (hok:HOk X.prog X.w H' h') (hg:AllBare g') :
  Inv X fo σ H' { s with heap:=h',gens:=g',drawn:=d',toks:=t' }:=by
 have neL:∀ b o,X.s₀.heap.get? b=some o->b≠X.env.locals:=λb o e=>As (Ag (Ao e) I.ok.above);have za:∀ b o,X.s₀.heap.get? b=some o->b ∉ X.ex->b ∉ ch:=λb o e hx hb=>by
  rcases (jy b hb).1 with z | z
  ·exact hx z
  ·exact absurd (Ag (Ao e) z) (Nat.lt_irrefl _)
 have q9:∀ x c,X.env.cells.lookup x=some c->∀ v,s.heap.IsCell c v->h'.IsCell c v:=λx c e v ⟨o,ho,hd⟩=>by
  have vo:c ∉ ch:=λz=>(jy c z).2.2.1 x c e rfl;by_cases hc:c∈X.fs
  ·obtain ⟨sl,q⟩:=slot c o (I.cne x c e) hc vo ho (I.freeC x c e)
   exact ⟨_,q,hd⟩
  ·exact ⟨o,keep c o (I.cne x c e) hc vo ho (I.freeC x c e),hd⟩
 refine ⟨I.ok,I.os,hg,⟨λb o e n hb hx=>?_,λb o e n hb hx=>?_,λb o e n hx=>?_,λb o e hx=>?_,λb xs e=>tups b xs (I.base.tups b xs e),λb o xs e=>frzs b o xs (I.base.frzs b o xs e),λb ps e=>?_⟩,?_,λx c e=>?_,?_,λx c e=>?_,λp hp=>?_,hok,I.len⟩
 ·exact keep b o (neL b o e) hb (za b o e hx) (I.base.keep b o e n hb hx) (I.base.free b o e n hx)
 ·obtain ⟨sl,e1⟩:=I.base.slot b o e n hb hx
  obtain ⟨sl',e2⟩:=slot b _ (neL b o e) hb (za b o e hx) e1 (I.base.free b o e n hx);exact ⟨sl',e2⟩
 ·obtain ⟨o',e1⟩:=I.base.there b o e hx
  exact free b o' (za b o e hx) e1 (I.base.free b o e n hx)
 ·obtain ⟨o',e1⟩:=I.base.there b o e hx
  exact there b o' (za b o e hx) e1
 ·obtain ⟨m1,e1⟩:=I.base.tbls b ps e
  obtain ⟨m2,e2⟩:=tbls b _ e1;exact ⟨m1 ++ m2,by rw [e2,Array.append_assoc]⟩
 ·obtain ⟨m,hn,hl⟩:=I.loc
  refine ⟨m,ns m hn,λi x v e1 e2 e3=>?_⟩;obtain ⟨u,r,l⟩:=hl i x v e1 e2 e3;refine ⟨u,r,?_⟩
  rcases l with l | ⟨k,c,e,z⟩
  ·exact .inl l
  ·exact .inr ⟨k,c,e,q9 x c e _ z⟩
 ·obtain ⟨v,z⟩:=I.cell x c e
  exact ⟨v,q9 x c e v z⟩
 ·obtain ⟨m,⟨o,_,_,ho,_⟩,_⟩:=I.loc
  exact free _ o (λz=>(jy _ z).2.1 Y) ho I.free
 ·obtain ⟨v,o,ho,hd⟩:=I.cell x c e
  exact free c o (λz=>(jy c z).2.2.1 x c e Y) ho (I.freeC x c e)
 ·obtain ⟨e,n,ne,nf,d⟩:=I.pin p hp
  have vo:p.1 ∉ ch:=λz=>(jy p.1 z).2.2.2 p hp rfl;exact ⟨keep p.1 p.2 ne nf vo e n,free p.1 p.2 vo e n,ne,nf,d⟩
def Inv.un {t':Nat} (I:Inv X fo σ H s) (u:Un X.fs [] H H' s.heap h') (hok:HOk X.prog X.w H' h'):Inv X fo σ H' { s with heap:=h',toks:=t' }:=by
 obtain ⟨m,⟨o,es,ep,ho,r⟩,_⟩:=id I.loc;obtain ⟨sl,hL⟩:=u.any ho I.free (by simp);exact I.step (g':=s.gens) (d':=s.drawn) (ch:=[]) (λ_ z=>nomatch z) (λb o _ hb _ e n=>u.keep b o e n hb (by simp)) (λb o _ hb _ e n=>u.slot b o e n hb (by simp)) (λb o _ e n=>u.free b o e n (by simp)) (λb o _ e=>u.there b o e (by simp)) u.tups u.frzs u.tbls (λm' hm=>by
  obtain ⟨o',xb,sx,mf,r'⟩:=hm
  rw [ho] at mf; cases mf
  exact ⟨_,xb,sx,hL,r'⟩) hok I.bare
def Inv.call {t':Nat} {d':Drawn} (I:Inv X fo σ H s) (u:Un (frs X.stack) ch H H' s.heap h') (hok:HOk X.prog X.w H' h') (hg:AllBare g')
  (jy:∀ b∈ch,(b∈X.ex\/X.s₀.heap.objs.size<=b)/\b≠X.env.locals/\(∀ x c,X.env.cells.lookup x=some c->c≠b)/\∀ p∈X.pn ++ fo,p.1≠b) :
  Inv X fo σ H' { s with heap:=h',gens:=g',drawn:=d',toks:=t' }:=by
 obtain ⟨m,⟨o,es,ep,ho,r⟩,_⟩:=id I.loc;obtain ⟨sl,hL⟩:=u.any ho I.free λz=>(jy _ z).2.1 rfl;exact I.step (ch:=ch) jy (λb o hL hb hc e n=>u.keep b o e n (λz=>(Ar (I.stkSub b z)).elim hL hb) hc) (λb o _ _ hc e n=>u.any e n hc) (λb o hc e n=>u.free b o e n hc) (λb o hc e=>u.there b o e hc) u.tups u.frzs u.tbls (λm' hm=>by
  obtain ⟨o',xb,sx,mf,r'⟩:=hm
  rw [ho] at mf; cases mf
  exact ⟨_,xb,sx,hL,r'⟩) hok hg
def Inv.turned {t':Nat} (I:Inv X fo σ H s) (k:∀ b o,b≠it->s.heap.get? b=some o->h'.get? b=some o) (hn:H it=none) (hL:it≠X.env.locals)
  (h1:it∈X.ex\/X.s₀.heap.objs.size<=it) (h2:∀ x c,X.env.cells.lookup x=some c->c≠it) (h3:∀ p∈X.pn ++ fo,p.1≠it):Inv X fo σ H { s with heap:=h',toks:=t' }:=by
 have nit:∀ b u,H b=some u->b≠it:=λb u e z=>by rw [z,hn] at e; cases e
 refine I.step (g':=s.gens) (d':=s.drawn) (ch:=[it]) (λb hb=>?_) (λb o _ _ hc e _=>k b o (λz=>hc (by simp [z])) e) (λb o _ _ hc e _=>⟨o.slots,k b o (λz=>hc (by simp [z])) e⟩) (λ_ _ _ _ n=>n)
  (λb o hc e=>⟨o,k b o (λz=>hc (by simp [z])) e⟩) (λ_ _ e=>e) (λ_ _ _ e=>e) (λb ps e=>⟨#[],by rw [e]; simp⟩) (λm hm=>?_) (λb u e=>?_) I.bare
 ·have e:b=it:=by simpa using hb
  subst e;exact ⟨h1,hL,h2,h3⟩
 ·obtain ⟨o,es,ep,ho,r⟩:=hm
  exact ⟨o,es,ep,k _ o (Ne.symm hL) ho,r⟩
 ·refine (I.hok b u e).stay (λc v hc q=>k c v ?_ q) (λ_ q=>q) λ_ _ q=>q
  rcases hc with z | z
  ·rw [z]; exact nit b u e
  ·exact nit c _ z
def Inv.tok (I:Inv X fo σ H s) (t:Nat):Inv X fo σ H { s with toks:=t }:=I.un (h':=s.heap) (t':=t) Un.refl I.hok
def Inv.kept {t':Nat} (I:Inv X fo σ H s) (k:∀ b u,s.heap.get? b=some u->h'.get? b=some u):Inv X fo σ H { s with heap:=h',toks:=t' }:=I.un (Un.kept k) (I.hok.kept k)
def Inv.laid {t':Nat} (I:Inv X fo σ H s) (k:∀ b u,s.heap.get? b=some u->h'.get? b=some u) (hp:s.heap.objs.size<=a) (new:Z3 X.prog X.w (upd H a o) h' a o) :
  Inv X fo σ (upd H a o) { s with heap:=h',toks:=t' }:=I.un (Un.laid k hp (I.hok.fresh hp)) (I.hok.laid k hp new)
def Inv.write {t':Nat} (I:Inv X fo σ H s) (mu:Mut (H x)) (he:e=x\/H e=some (.own x)) (k:∀ b u,b≠e->s.heap.get? b=some u->h'.get? b=some u) (ur:∃ u,h'.get? e=some u)
  (new:Z3 X.prog X.w (upd H x o) h' x o):Inv X fo σ (upd H x o) { s with heap:=h',toks:=t' }:=I.un (Un.write mu he k ur) (I.hok.write mu he k ur new)
def Inv.pins_of (I:Inv X fo σ H s) (h:∀ p∈yg,s.heap.get? p.1=some p.2/\H p.1=none/\p.1≠X.env.locals/\p.1 ∉ X.fs/\∀ v,p.2.data≠.cell v):Inv X yg σ H s :=
 ⟨I.ok,I.os,I.bare,I.base,I.loc,I.cell,I.free,I.freeC,λp hp=>(mem_append.mp hp).elim (λz=>I.pin p (mem_append_left _ z)) (h p),I.hok,I.len⟩
def Zb5 {N:List Str} (hN:N.Nodup) {i j:Nat} (a:N[i]?=some x) (b:N[j]?=some x):i=j:=by
 obtain ⟨h1,e1⟩:=Aa a;obtain ⟨h2,e2⟩:=Aa b;exact (getElem_inj hN).mp (e1.trans e2.symm)
def Ue (I:Inv X fo σ H s) (hN:X.N.Nodup) (hi:X.N[i]?=some x) (hx:Loc X.env.scope x) (r:RelV v u)
  (h:∀ s',Inv X fo (σ.set i (some v)) H s'->(∃ a,Heap.SameBut a s.heap s'.heap/\(a=X.env.locals\/X.env.cells.lookup x=some a))->Q () s') (hf:X.fn x=true\/X.env.scope.names.lookup x=some .local:=by first | exact .inl rfl | exact .inr rfl | assumption):wpAny M A (storeName X.env x u) Q E s:=by
 obtain ⟨m,hn,hl⟩:=id I.loc;have hcls:(X.env.scope.kind == .class || (X.env.scope.kind == .module && X.env.locals != X.env.globals))=false:=by rw [I.ok.kind]; rfl
 have hiσ:i < σ.length:=by rw [I.len]; exact (Aa hi).1
 have cne:=I.cne
 have k9:∀ {a:Addr} {h':Heap},(∃ o,s.heap.get? a=some o/\H a=none)->Heap.SameBut a s.heap h'->HOk X.prog X.w H h':=λ{a h'} ha hs b ob e=>by
  obtain ⟨_,_,qx⟩:=ha;refine (I.hok b ob e).stay (λc w' hc q=>(hs.2 c ?_).trans q) (λ_ q=>q) λ_ _ q=>q;rintro rfl
  rcases hc with rfl | hc
  ·rw [qx] at e; cases e
  ·rw [qx] at hc; cases hc
 rcases hx with hk | hk
 ·refine wpAny_storeName_local hk hn (λh' hn' hs=>?_) hcls
  obtain ⟨oL,_,_,pd,_⟩:=id hn;refine h _ ⟨I.ok,I.os,I.bare,⟨λb o e n hb hx=>?_,λb o e n hb hx=>?_,I.base.free,λb o e hx=>?_,I.base.tups,I.base.frzs,I.base.tbls⟩,⟨_,hn',λj y v' e1 e2 e3=>?_⟩,λy c e=>?_,I.free,I.freeC,λp hp=>?_,k9 ⟨oL,pd,I.free⟩ hs,by simpa using I.len⟩ ⟨_,hs,.inl Y⟩
  ·exact (hs.2 b (As (Ag (Ao e) I.ok.above))).trans (I.base.keep b o e n hb hx)
  ·obtain ⟨sl,e1⟩:=I.base.slot b o e n hb hx
   exact ⟨sl,(hs.2 b (As (Ag (Ao e) I.ok.above))).trans e1⟩
  ·obtain ⟨o',e1⟩:=I.base.there b o e hx
   exact ⟨o',(hs.2 b (As (Ag (Ao e) I.ok.above))).trans e1⟩
  ·by_cases hj:j=i
   ·subst hj
    rw [hi] at e1; cases e1;rw [getElem?_set_self hiσ] at e2;cases e2;exact ⟨u,r,.inl ⟨hk,by simp⟩⟩
   ·rw [getElem?_set_ne (Ne.symm hj)] at e2
    obtain ⟨u',r',q⟩:=hl j y v' e1 e2 e3;refine ⟨u',r',?_⟩
    rcases q with ⟨k,e⟩ | ⟨k,c,e,z⟩
    ·refine .inl ⟨k,?_⟩
     have:y≠x:=λe=>hj (Zb5 hN e1 (e ▸ hi));simp [this,e]
    ·exact .inr ⟨k,c,e,z.sameBut hs (cne y c e)⟩
  ·obtain ⟨w',z⟩:=I.cell y c e
   exact ⟨w',z.sameBut hs (cne y c e)⟩
  ·obtain ⟨e,n,ne,nf,d⟩:=I.pin p hp
   exact ⟨(hs.2 p.1 ne).trans e,n,ne,nf,d⟩
 ·have hfn:X.fn x=true:=by
   rcases hf with z | z
   ·exact z
   ·rw [z] at hk; cases hk
  obtain ⟨c,hc⟩:=I.ok.has x (.inl hk);obtain ⟨w',z⟩:=I.cell x c hc;refine wpAny_storeName_cell I.ok.kind hk hc z (λh' jo hs=>?_);obtain ⟨oc,hoc,hocd⟩:=id z;refine h { s with heap:=h' } ⟨I.ok,I.os,I.bare,⟨λb o e n hb hx=>?_,λb o e n hb hx=>?_,I.base.free,λb o e hx=>?_,I.base.tups,I.base.frzs,I.base.tbls⟩,⟨m,hn.sameBut hs (Ne.symm (cne x c hc)),λj y v' e1 e2 e3=>?_⟩,λy c' e=>?_,I.free,I.freeC,λp hp=>?_,k9 ⟨oc,hoc,I.freeC x c hc⟩ hs,by simpa using I.len⟩ ⟨c,hs,.inr hc⟩
  ·exact (hs.2 b (As (Ag (Ao e) (I.ok.cab x c hfn hc)))).trans (I.base.keep b o e n hb hx)
  ·obtain ⟨sl,e1⟩:=I.base.slot b o e n hb hx
   exact ⟨sl,(hs.2 b (As (Ag (Ao e) (I.ok.cab x c hfn hc)))).trans e1⟩
  ·obtain ⟨o',e1⟩:=I.base.there b o e hx
   exact ⟨o',(hs.2 b (As (Ag (Ao e) (I.ok.cab x c hfn hc)))).trans e1⟩
  ·by_cases hj:j=i
   ·subst hj
    rw [hi] at e1; cases e1;rw [getElem?_set_self hiσ] at e2;cases e2;exact ⟨u,r,.inr ⟨.inl hk,c,hc,jo⟩⟩
   ·rw [getElem?_set_ne (Ne.symm hj)] at e2
    obtain ⟨u',r',q⟩:=hl j y v' e1 e2 e3;refine ⟨u',r',?_⟩
    rcases q with q | ⟨k,c',e,z'⟩
    ·exact .inl q
    ·refine .inr ⟨k,c',e,z'.sameBut hs ?_⟩
     rintro rfl;exact hj (Zb5 hN e1 (I.ok.inj _ _ _ e hc ▸ hi))
  ·by_cases z8:c'=c
   ·subst z8; exact ⟨_,jo⟩
   ·obtain ⟨w2,z2⟩:=I.cell y c' e
    exact ⟨w2,z2.sameBut hs z8⟩
  ·obtain ⟨e,n,ne,nf,d⟩:=I.pin p hp
   refine ⟨(hs.2 p.1 ?_).trans e,n,ne,nf,d⟩;intro q;rw [q,hoc] at e;have q':oc=p.2:=Ax e;exact d w' (by rw [<- q']; exact hocd)
def Jc {M:Model} {A:Around} {E:Value->Shared->Prop} {i:Nat} {x:Str} {v:V} {u:Value} {Q:Unit->Shared->Prop} (I:Inv X fo σ H s) (hN:X.N.Nodup) (hi:X.N[i]?=some x) (hx:Loc X.env.scope x) (r:RelV v u)
  (h:∀ s',Inv X fo (σ.set i (some v)) H s'->Q () s') (hf:X.fn x=true\/X.env.scope.names.lookup x=some .local:=by first | exact .inl rfl | exact .inr rfl | assumption):wpAny M A (storeName X.env x u) Q E s :=
 Ue I hN hi hx r (λs' I' _=>h s' I') hf
def Inv.call' {s':Shared} (I:Inv X fo σ H s) (ho:s'.os=s.os) (u:Un (frs X.stack) ch H H' s.heap s'.heap) (hok:HOk X.prog X.w H' s'.heap) (hg:AllBare s'.gens)
  (jy:∀ b∈ch,(b∈X.ex\/X.s₀.heap.objs.size<=b)/\b≠X.env.locals/\(∀ x c,X.env.cells.lookup x=some c->c≠b)/\∀ p∈X.pn ++ fo,p.1≠b):Inv X fo σ H' s':=by
 obtain ⟨h',g',d',t',o'⟩:=s';have e:o'=s.os:=ho;subst e;exact I.call (g':=g') (t':=t') (d':=d') u hok hg jy
end
abbrev XK:=Value->Option Addr->Hp->Prop
abbrev St:=List (Option V)
abbrev VK:=V->Hp->Prop
abbrev TE:=St->Hp->VK->Prop
abbrev TT:=St->Hp->(Bool->Hp->Prop)->Prop
abbrev TA:=St->Hp->(List V->Hp->Prop)->Prop
structure Ends where
 nx:St->Hp->Prop
 rt:VK
 bk:St->Hp->Prop:=λ_ _=>False
 ct:St->Hp->Prop:=λ_ _=>False
abbrev TS:=Ends->St->Hp->Prop
def EP (X:Cx) (fo:List (Addr × Obj)) (σ:St) (Q:VK) (u:Value) (s':Shared):Prop:=∃ v H',Inv X fo σ H' s'/\RelV v u/\Q v H'
def TP (X:Cx) (fo:List (Addr × Obj)) (σ:St) (Q:Bool->Hp->Prop) (b:Bool) (s':Shared):Prop:=∃ H',Inv X fo σ H' s'/\Q b H'
def AP (X:Cx) (fo:List (Addr × Obj)) (σ:St) (Q:List V->Hp->Prop) (us:List Value) (s':Shared):Prop:=∃ vs H',Inv X fo σ H' s'/\Vals vs us/\Q vs H'
def SP (X:Cx) (fo:List (Addr × Obj)) (D:Ends) (f:Flow) (s':Shared):Prop :=
 match f with
 | .next=>∃ σ' H',Inv X fo σ' H' s'/\D.nx σ' H'
 | .brk=>∃ σ' H',Inv X fo σ' H' s'/\D.bk σ' H'
 | .cont=>∃ σ' H',Inv X fo σ' H' s'/\D.ct σ' H'
 | .ret u=>∃ v σ' H',Inv X fo σ' H' s'/\RelV v u/\D.rt v H'
def PE (X:Cx) (e:Expr) (t:TE):Prop :=
 ∀ fo s σ H (Q:VK),Inv X fo σ H s->t σ H Q->wpAny (a:) X.A (eval e X.env) (EP X fo σ Q) X.xe s
def PT (X:Cx) (e:Expr) (t:TT):Prop :=
 ∀ fo s σ H (Q:Bool->Hp->Prop),Inv X fo σ H s->t σ H Q->wpAny (a:) X.A (isTrue e X.env (eval e X.env)) (TP X fo σ Q) X.xe s
def PW (X:Cx) (e:Expr) (t:TT):Prop :=
 ∀ (jf:Sem Value) (fo:List (Addr × Obj)) (s:Shared) (σ:St) (H:Hp) (Q:Bool->Hp->Prop),Inv X fo σ H s->t σ H Q->wpAny (a:) X.A (isTrue e X.env jf) (TP X fo σ Q) X.xe s
def PW.pt {X:Cx} {e:Expr} {t:TT} (h:PW X e t):PT X e t:=h _
def PA (X:Cx) (es:List Expr) (t:TA):Prop :=
 ∀ (pos:Pos) (fo:List (Addr × Obj)) (s:Shared) (σ:St) (H:Hp) (Q:List V->Hp->Prop),Inv X fo σ H s->t σ H Q->wpAny (a:) X.A (spliced (backTo pos (starEach es X.env))) (AP X fo σ Q) X.xe s
def PS (X:Cx) (st:Stmt) (t:TS):Prop :=
 ∀ fo s σ H (D:Ends),Inv X fo σ H s->t D σ H->wpAny (a:) X.A (exec st X.env) (SP X fo D) X.xe s
def PSs (X:Cx) (st:List Stmt) (t:TS):Prop :=
 ∀ fo s σ H (D:Ends),Inv X fo σ H s->t D σ H->wpAny (a:) X.A (execs st X.env) (SP X fo D) X.xe s
def thn {α:Type} {t:Sem α} {Q Q':α->Shared->Prop} {M:Model} {A:Around} {E:Value->Shared->Prop} {s:Shared} (h:wpAny M A t Q E s) (hQ:∀ a s,Q a s->Q' a s):wpAny M A t Q' E s:=wpAny_mono h hQ λ_ _ x=>x
section
variable {X:Cx}
def tVar (i:Nat):TE:=λσ H Q=>∃ v,σ[i]?=some (some v)/\Q v H
def tC (v:V):TE:=λ_ H Q=>Q v H
def Zno (hN:X.N[i]?=some x) (hv:Vis X.env.scope x) (hd:(x == ("__debug__":Str))=false:=by decide) (lh:(x == ("__classdict__":Str))=false:=by decide):PE X (.Name x pos) (tVar i):=by
 intro fo s σ H Q I h;obtain ⟨v,e,h⟩:=h;obtain ⟨m,hn,hl⟩:=I.loc;obtain ⟨u,r,l⟩:=hl i x v hN e hv;have fin:EP X fo σ Q u s:=⟨v,H,I,r,h⟩
 rcases l with ⟨hk,hm⟩ | ⟨hk,c,hc,hcell⟩
 ·exact wpAny_Name (wpAny_loadName_local I.ok.kind hk hn hm fin) hd
 ·rcases hk with hk | hk
  ·exact wpAny_Name (wpAny_loadName_cell I.ok.kind hk hc hcell fin) hd
  ·exact wpAny_Name (wpAny_loadName_free I.ok.kind hk hc hcell fin lh) hd
def Zf {i j pos}:PE X (.Constant (.int i) j pos) (tC (.int i)):=λ_ _ _ H _ I h=>wpAny_Constant_int ⟨.int i,H,I.tok _,⟨_,rfl⟩,h⟩
def Yr {b j pos}:PE X (.Constant (.bool b) j pos) (tC (.bl b)):=λ_ _ _ H _ I h=>Constant_bool ⟨.bl b,H,I,rfl,h⟩
def W7 {j pos}:PE X (.Constant .none j pos) (tC .non):=λ_ _ _ H _ I h=>Constant_none ⟨.non,H,I,rfl,h⟩
def Qp {x j pos}:PE X (.Constant (.str x) j pos) (tC (.str x)):=λ_ _ _ H _ I h=>Calls.Constant_str ⟨.str x,H,I.tok _,⟨_,rfl⟩,h⟩
def Gl (X:Cx) (x:Str):Prop:=X.env.kindOf x=some .globalImplicit
def Vh (I:Inv X fo σ H s) (hg:Gl X x) (hm:X.mg x=some u) (h:Q u s)
  (hd:(x == ("__debug__":Str))=false:=by decide):wpAny (a:) X.A (eval (.Name x pos) X.env) Q E s :=
 Calls.Name_function_global I.ok.kind hg (Calls.loadGlobal_global (by rw [I.ok.glob]; exact I.mod.glob.keeps I.bk) hm h) hd
def Xb {E:Value->Shared->Prop} {fo:List (Addr × Obj)} {s:Shared} {σ:St} {H:Hp} {x:Str} {u:Value} {pos:Pos} {Q:Value->Shared->Prop} (I:Inv X fo σ H s) (hg:Gl X x) (hm:X.mg x=none) (hv:bootBuiltins x=some u) (h:Q u s)
  (hn:x≠"__name__":=by decide) (hd:(x == ("__debug__":Str))=false:=by decide):wpAny (a:) X.A (eval (.Name x pos) X.env) Q E s:=by
 obtain ⟨mb,h1,h2⟩:=I.mod.blt;exact Calls.Name_function_global I.ok.kind hg (Calls.loadGlobal_builtin (by rw [I.ok.glob]; exact I.mod.glob.keeps I.bk) hm (by rw [I.ok.blt]; exact h1.keeps I.bk) ((h2 x hn).trans hv) h) hd
def Zd7 (hg:Gl X x) (hm:X.mg x=some u) (r:RelV v u) (hd:(x == ("__debug__":Str))=false:=by decide):PE X (.Name x pos) (tC v) :=
 λ_ _ _ H _ I h=>Vh I hg hm ⟨v,H,I,r,h⟩ hd
def Ve (hg:Gl X x) (hm:X.mg x=none) (hv:bootBuiltins x=some u) (r:RelV v u) (hn:x≠"__name__":=by decide) (hd:(x == ("__debug__":Str))=false:=by decide):PE X (.Name x pos) (tC v) :=
 λ_ _ _ H _ I h=>Xb I hg hm hv ⟨v,H,I,r,h⟩ hn hd
variable {a b:Expr} {ta tb:TE} {pos:Pos}
def PC (X:Cx) (op:CmpOp) (a b:Expr) (t:TE):Prop :=
 ∀ fo s σ H (Q:VK),Inv X fo σ H s->t σ H Q ->
  wpAny (a:) X.A (eval a X.env) (λv s₁=>wpAny (a:) X.A (eval b X.env) (λu s₂=>wpAny (a:) X.A (compareOp op v u) (EP X fo σ Q) X.xe s₂) X.xe s₁) X.xe s
def tB (t:TE):TT:=λσ H Q=>t σ H λx H1=>∃ c,x=.bl c/\Q c H1
def Zg9 {op:CmpOp} {t:TE} (h:PC X op a b t) (h1:behindInMarks op b=false:=by first | exact nobehind _ (by decide) (by decide) | rfl):PT X (.Compare a [op] [b] pos) (tB t):=by
 intro fo s σ H Q I hw;refine wpAny_isTrue_Compare1 (thn (h fo s σ H _ I hw) λv s1 h1=>thn h1 λu s2 h2=>thn h2 λc s3 zz0=>?_) h1;obtain ⟨x,H1,I1,r1,q1⟩:=zz0;obtain ⟨d,rfl,q⟩:=q1;cases r1;exact wpAny_truthy_bool ⟨H1,I1,q⟩
def Y6 {e:Expr} {t:TE} (h:PE X e t) (he:∀ jf,isTrue e X.env jf=(do let v <- jf; standAt e.pos; holding [v] (truthy v)):=by intro _; rfl):PT X e (tB t):=by
 intro fo s σ H Q I hw;refine isTrue_plain (thn (h fo s σ H _ I hw) λv s1 zz1=>?_) (he _);obtain ⟨x,H1,I1,r1,q1⟩:=zz1;obtain ⟨d,rfl,q⟩:=q1;cases r1;exact wpAny_truthy_bool ⟨H1,I1,q⟩
variable {tA yr:TT} {rest:List Expr}
def tAnd (t u:TT):TT:=λσ H Q=>t σ H λc H1=>if c=true then u σ H1 Q else Q false H1
def tOr (t u:TT):TT:=λσ H Q=>t σ H λc H1=>if c=true then Q true H1 else u σ H1 Q
def tNot (t:TT):TT:=λσ H Q=>t σ H λc H1=>Q (!c) H1
def U5 (ha:PT X a tA):PW X (.BoolOp .And [a] pos) tA:=by
 intro wh fo s σ H Q I h;refine isTrue_and (thn (ha fo s σ H Q I h) λc s1 e=>?_)
 cases c with
 | true=>exact isTrue_and_nil e
 | false=>exact e
def X7 (ha:PT X a tA):PW X (.BoolOp .Or [a] pos) tA:=by
 intro wh fo s σ H Q I h;refine isTrue_or (thn (ha fo s σ H Q I h) λc s1 e=>?_)
 cases c with
 | false=>exact isTrue_or_nil e
 | true=>exact e
def Kt (ha:PT X a tA) (hb:PW X (.BoolOp .And (b :: rest) pos) yr):PW X (.BoolOp .And (a :: b :: rest) pos) (tAnd tA yr):=by
 intro wh fo s σ H Q I h;refine isTrue_and (thn (ha fo s σ H _ I h) λc s1 gc=>?_);obtain ⟨H1,I1,q1⟩:=gc
 cases c with
 | true=>exact hb wh fo s1 σ H1 Q I1 q1
 | false=>exact ⟨H1,I1,q1⟩
def Wj (ha:PT X a tA) (hb:PW X (.BoolOp .Or (b :: rest) pos) yr):PW X (.BoolOp .Or (a :: b :: rest) pos) (tOr tA yr):=by
 intro wh fo s σ H Q I h;refine isTrue_or (thn (ha fo s σ H _ I h) λc s1 gc=>?_);obtain ⟨H1,I1,q1⟩:=gc
 cases c with
 | true=>exact ⟨H1,I1,q1⟩
 | false=>exact hb wh fo s1 σ H1 Q I1 q1
def Y7 (ha:PT X a tA):PT X (.UnaryOp .Not a pos) (tNot tA):=by
 intro fo s σ H Q I h;exact isTrue_not (ha fo s σ H (λc H1=>Q (!c) H1) I h)
def Zoo (ta tb:TE):TE:=λσ H Q=>ta σ H λx H1=>∃ c,x=.bl c/\if c=true then tb σ H1 Q else Q (.bl false) H1
def Zoi (ta:TE):TE:=λσ H Q=>ta σ H λx H1=>∃ c,x=.bl c/\Q (.bl (!c)) H1
def Zbt {op} {t:TE} (h:PE X a t):PE X (.BoolOp op [a] pos) t:=λfo s σ H Q I hw=>BoolOp_one (h fo s σ H Q I hw)
def Zbw (ha:PE X a ta) (hb:PE X (.BoolOp .And (b :: rest) pos) tb):PE X (.BoolOp .And (a :: b :: rest) pos) (Zoo ta tb):=by
 intro fo s σ H Q I h;refine BoolOp_and (thn (ha fo s σ H _ I h) λv s1 gc=>?_);obtain ⟨x,H1,I1,r1,q1⟩:=gc;obtain ⟨c,rfl,q1⟩:=q1;cases r1;refine wpAny_truthy_bool ?_
 cases c with
 | true=>exact hb fo s1 σ H1 Q I1 q1
 | false=>exact ⟨.bl false,H1,I1,Y,q1⟩
def Znp (ha:PE X a ta):PE X (.UnaryOp .Not a pos) (Zoi ta):=by
 intro fo s σ H Q I h;refine UnaryOp_ (thn (ha fo s σ H _ I h) λv s1 gc=>?_);obtain ⟨x,H1,I1,r1,q1⟩:=gc;obtain ⟨c,rfl,q1⟩:=q1;cases r1;exact not_of (wpAny_truthy_bool ⟨.bl (!c),H1,I1,Y,q1⟩)
def tIf (t:TT) (ta tb:TE):TE:=λσ H Q=>t σ H λc H1=>if c=true then ta σ H1 Q else tb σ H1 Q
def Zbu {c:Expr} (hc:PT X c tA) (ha:PE X a ta) (hb:PE X b tb):PE X (.IfExp c a b pos) (tIf tA ta tb):=by
 intro fo s σ H Q I h;refine wpAny_IfExp (thn (hc fo s σ H _ I h) λd s1 gc=>?_);obtain ⟨H1,I1,q1⟩:=gc
 cases d with
 | true=>exact ha fo s1 σ H1 Q I1 q1
 | false=>exact hb fo s1 σ H1 Q I1 q1
end
def SqL (K:W.Frag) (H:Hp) (a:Addr) (xs:List V):Prop :=
 Rd H a (.lst xs) \/
  ∃ (o:Obj) (its:Array Value) (n:Nat),K.lookup a=some o/\o.cls=.type "list"/\o.dict=none/\o.data=.seq its n/\its.size<=sizeLine/\Vals xs its.toList
def SqT (K:W.Frag) (H:Hp) (a:Addr) (xs:List V):Prop :=
 Rd H a (.tup xs) \/
  ∃ (o:Obj) (its:Array Value) (n:Nat),K.lookup a=some o/\o.cls=.type "tuple"/\o.data=.seq its n/\its.size<=sizeLine/\Vals xs its.toList
def absV:Value->Option V
 | .none=>some .non
 | .bool b=>some (.bl b)
 | .int i _=>some (.int i)
 | .str x _=>some (.str x)
 | .bytes b _=>some (.byt b)
 | .float b _=>some (.flt b)
 | .ref a=>some (.ref a)
 | .type n=>some (.ty n)
 | _=>none
def RelV.abs (r:RelV x u):absV u=some x:=by
 cases x with
 | non=>cases r; rfl
 | bl _=>cases r; rfl
 | int _=>obtain ⟨t,rfl⟩:=r; rfl
 | str _=>obtain ⟨t,rfl⟩:=r; rfl
 | byt _=>obtain ⟨t,rfl⟩:=r; rfl
 | flt _=>obtain ⟨t,rfl⟩:=r; rfl
 | ref _=>cases r; rfl
 | ty _=>cases r; rfl
def RelV.inj (r:RelV x u) (q:RelV y u):x=y:=Ax (r.abs.symm.trans q.abs)
theorem Vals.inj:∀ {xs ys:List V} {us:List Value},Vals xs us->Vals ys us->xs=ys
 | _,_,_,.nil,.nil=>rfl
 | _,_,_,.cons r t,.cons r' t'=>by rw [r.inj r',Vals.inj t t']
section
variable {X:Cx} {fo:List (Addr × Obj)} {σ:St} {H:Hp} {s:Shared} {a:Addr} {xs ys:List V}
def SqL.of {K:W.Frag} (h:H a=some (.lst xs)):SqL K H a xs:=.inl (.inl h)
def SqT.of {K:W.Frag} (h:H a=some (.tup xs)):SqT K H a xs:=.inl (.inl h)
def Inv.list (I:Inv X fo σ H s) (h:SqL X.K H a xs):∃ its:List Value,Vals xs its/\PlainL s.heap a its.toArray/\xs.length<=sizeLine:=by
 rcases h with h | ⟨o,its,n,hk,hc,hd,hs,hz,r⟩
 ·obtain ⟨z,its,n,r,e⟩:=h.ok I.hok
  exact ⟨its,r,⟨_,n,e,Y,Y,Y⟩,z⟩
 ·refine ⟨its.toList,r,⟨o,n,I.kIn a o hk,hc,hd,by simpa using hs⟩,?_⟩
  have e:=r.length;simp only [Array.length_toList] at e;lia
def Inv.tuple (I:Inv X fo σ H s) (h:SqT X.K H a xs):∃ its:List Value,Vals xs its/\IsTup s.heap a its.toArray/\xs.length<=sizeLine:=by
 rcases h with h | ⟨o,its,n,hk,hc,hs,hz,r⟩
 ·obtain ⟨z,its,r,p⟩:=h.ok I.hok
  exact ⟨its,r,p,z⟩
 ·refine ⟨its.toList,r,⟨o,I.kIn a o hk,hc,n,by simpa using hs⟩,?_⟩
  have e:=r.length;simp only [Array.length_toList] at e;lia
def Inv.list_inj (I:Inv X fo σ H s) (h:SqL X.K H a xs) (h':SqL X.K H a ys):xs=ys:=by
 obtain ⟨its,r,⟨o,n,e,_,_,d⟩,_⟩:=I.list h;obtain ⟨its',r',⟨o',n',e',_,_,d'⟩,_⟩:=I.list h';rw [e] at e'; cases e';rw [d] at d'
 injection d' with d1 _
 have:its=its':=by simpa using congrArg Array.toList d1
 subst this;exact r.inj r'
def Inv.tuple_inj (I:Inv X fo σ H s) (h:SqT X.K H a xs) (h':SqT X.K H a ys):xs=ys:=by
 obtain ⟨its,r,⟨o,e,_,n,d⟩,_⟩:=I.tuple h;obtain ⟨its',r',⟨o',e',_,n',d'⟩,_⟩:=I.tuple h';rw [e] at e'; cases e';rw [d] at d'
 injection d' with d1 _
 have:its=its':=by simpa using congrArg Array.toList d1
 subst this;exact r.inj r'
end
abbrev Cx.wish (X:Cx) (E:Value->Shared->Prop):Cx:={ X with xe:=E }
abbrev Cx.nox (X:Cx):Cx:=X.wish λ_ _=>False
def Cx.Ok.wish {X:Cx} (ok:X.Ok) (E:Value->Shared->Prop):(X.wish E).Ok :=
 ⟨ok.mod,ok.kind,ok.glob,ok.blt,ok.above,ok.inj,ok.has,ok.cab,ok.hd,ok.frames,ok.stk,ok.exf,ok.bs,ok.bsz,ok.noex,ok.exfs,ok.funs,ok.frf⟩
def Cx.Ok.unwish {X:Cx} (ok:(X.wish E).Ok):X.Ok :=
 ⟨ok.mod,ok.kind,ok.glob,ok.blt,ok.above,ok.inj,ok.has,ok.cab,ok.hd,ok.frames,ok.stk,ok.exf,ok.bs,ok.bsz,ok.noex,ok.exfs,ok.funs,ok.frf⟩
section
variable {X:Cx} {fo:List (Addr × Obj)} {σ:St} {H:Hp} {s:Shared} {E:Value->Shared->Prop}
def Inv.wish (I:Inv X fo σ H s) (E:Value->Shared->Prop):Inv (X.wish E) fo σ H s:=⟨I.ok.wish E,I.os,I.bare,I.base,I.loc,I.cell,I.free,I.freeC,I.pin,I.hok,I.len⟩
def Inv.unwish (I:Inv (X.wish E) fo σ H s):Inv X fo σ H s:=⟨I.ok.unwish,I.os,I.bare,I.base,I.loc,I.cell,I.free,I.freeC,I.pin,I.hok,I.len⟩
def SP.unwish (h:SP (X.wish E) fo D f s'):SP X fo D f s':=by
 cases f with
 | next=>obtain ⟨σ',H',I,q⟩:=h; exact ⟨σ',H',I.unwish,q⟩
 | brk=>obtain ⟨σ',H',I,q⟩:=h; exact ⟨σ',H',I.unwish,q⟩
 | cont=>obtain ⟨σ',H',I,q⟩:=h; exact ⟨σ',H',I.unwish,q⟩
 | ret u=>obtain ⟨v,σ',H',I,r,q⟩:=h; exact ⟨v,σ',H',I.unwish,r,q⟩
def PSs.nox {st:List Stmt} {t:TS} (h:PSs X.nox st t):PSs X st t:=λfo s σ H D I hw =>
 wpAny_mono (h fo s σ H D (I.wish _) hw) (λ_ _ q=>q.unwish) λ_ _ z=>False.elim z
end
section
variable {X:Cx} {st:Stmt} {rest:List Stmt} {t u:TS} {e:Expr} {te:TE} {pos:Pos}
def Y8:TS:=λD σ H=>D.nx σ H
def tSeq (t u:TS):TS:=λD σ H=>t { D with nx:=u D } σ H
def Zv:PSs X [] Y8:=λ_ _ σ H _ I h=>wpAny_execs_nil ⟨σ,H,I,h⟩
def Zd (h1:PS X st t) (h2:PSs X rest u):PSs X (st :: rest) (tSeq t u):=by
 intro fo s σ H D I h;refine wpAny_execs_cons (thn (h1 fo s σ H { D with nx:=u D } I h) λf s1 q=>?_)
 cases f with
 | next =>
  obtain ⟨σ',H',I',q⟩:=q;exact h2 fo s1 σ' H' D I' q
 | ret v=>exact q
 | brk=>exact q
 | cont=>exact q
def Zg (h1:PS X st t):PSs X [st] t:=by
 intro fo s σ H D I h;refine wpAny_execs_cons (thn (h1 fo s σ H D I h) λf s1 q=>?_)
 cases f with
 | next=>exact wpAny_execs_nil q
 | ret v=>exact q
 | brk=>exact q
 | cont=>exact q
def Zm7:TS:=λD σ H=>D.bk σ H
def Zja:PS X (.Break pos) Zm7:=λ_ _ σ H _ I h=>wpAny_Break ⟨σ,H,I,h⟩
def Inv.quiet {fo:List (Addr × Obj)} {σ:St} {H:Hp} {s:Shared} (I:Inv X fo σ H s):interactive X.env=false:=by simp [interactive,I.ok.kind]
def Zkl (te:TE):TS:=λD σ H=>te σ H λ_ H1=>D.nx σ H1
def Y9 (he:PE X e te) (hs:swapsWith e none pos.line X.env=pure false:=by rfl):PS X (.Expr e pos) (Zkl te):=by
 intro fo s σ H D I h;refine wpAny_Expr_any (thn (he fo s σ H _ I h) λv s1 zz2=>?_) I.quiet hs;obtain ⟨x,H1,I1,r1,q1⟩:=zz2;exact ⟨σ,H1,I1,q1⟩
def tRet (te:TE):TS:=λD σ H=>te σ H D.rt
def Zn (he:PE X e te):PS X (.Return (some e) pos) (tRet te):=by
 intro fo s σ H D I h;refine wpAny_Return_some (thn (he fo s σ H _ I h) λv s1 zz3=>?_);obtain ⟨x,H1,I1,r1,q1⟩:=zz3;exact ⟨x,σ,H1,I1,r1,q1⟩
def tIfS (c:TT) (t u:TS):TS:=λD σ H=>c σ H λb H1=>if b=true then t D σ H1 else u D σ H1
def Zy {c:Expr} {a b:List Stmt} {tc:TT} (hc:PT X c tc) (ha:PSs X a t) (hb:PSs X b u):PS X (.If c a b pos) (tIfS tc t u):=by
 intro fo s σ H D I h;refine wpAny_If (thn (hc fo s σ H _ I h) λd s1 gc=>?_);obtain ⟨H1,I1,q1⟩:=gc
 cases d with
 | true=>exact ha fo s1 σ H1 D I1 q1
 | false=>exact hb fo s1 σ H1 D I1 q1
def Zm0:TS:=λ_ _ _=>False
def Xi:PSs X sts Zm0:=λ_ _ _ _ _ _ h=>h.elim
end
abbrev TG:=V->St->Hp->(St->Hp->Prop)->Prop
abbrev TGs:=List V->St->Hp->(St->Hp->Prop)->Prop
def PG (X:Cx) (t5:Expr) (t:TG):Prop :=
 ∀ fo s σ H (v:V) (u:Value) (Q:St->Hp->Prop),Inv X fo σ H s->RelV v u->t v σ H Q ->
  wpAny (a:) X.A (assign t5 X.env u) (λ_ s'=>∃ σ' H',Inv X fo σ' H' s'/\Q σ' H') X.xe s
def PGs (X:Cx) (ts:List Expr) (t:TGs):Prop :=
 ∀ fo s σ H (vs:List V) (us:List Value) (Q:St->Hp->Prop),Inv X fo σ H s->Vals vs us->t vs σ H Q ->
  wpAny (a:) X.A (assignInOrder ((assignEach ts X.env).map (·.2)) us) (λ_ s'=>∃ σ' H',Inv X fo σ' H' s'/\Q σ' H') X.xe s
abbrev TSet:=V->V->V->Hp->(Hp->Prop)->Prop
def PSet (X:Cx) (t:TSet):Prop :=
 ∀ fo s σ H (o i v:V) (ov iv u:Value) (Q:Hp->Prop),Inv X fo σ H s->RelV o ov->RelV i iv->RelV v u->t o i v H Q ->
  wpAny (a:) X.A (setItem ov iv u) (λ_ s'=>∃ H',Inv X fo σ H' s'/\Q H') X.xe s
abbrev TIp:=V->V->Hp->VK->Prop
def PIp (X:Cx) (op:Operator) (t:TIp):Prop :=
 ∀ fo s σ H (x y:V) (v u:Value) (Q:VK),Inv X fo σ H s->RelV x v->RelV y u->t x y H Q ->
  wpAny (a:) X.A (inplaceOp op v u) (EP X fo σ Q) X.xe s
section
variable {X:Cx} {pos:Pos}
def Zm (i:Nat):TG:=λv σ H Q=>Q (σ.set i (some v)) H
def Zp (hN:X.N.Nodup) (hi:X.N[i]?=some x) (hx:Loc X.env.scope x) (hf:X.fn x=true\/X.env.scope.names.lookup x=some .local:=by first | exact .inl rfl | exact .inr rfl | assumption):PG X (.Name x pos) (Zm i):=by
 intro fo s σ H v u Q I r h;exact wpAny_assign_Name (Jc I hN hi hx r (λs' I'=>⟨_,H,I',h⟩) hf)
def gNil:TGs:=λvs σ H Q=>vs=[]/\Q σ H
def Zo7 (t:TG) (u:TGs):TGs:=λvs σ H Q=>∃ v r,vs=v :: r/\t v σ H λσ' H'=>u r σ' H' Q
def Ji:PGs X [] gNil:=by
 intro fo s σ H vs us Q I r h;obtain ⟨e,h⟩:=h;subst e;cases r;exact assignInOrder_nil ⟨σ,H,I,h⟩
def Yq {e:Expr} {es:List Expr} {t:TG} {u:TGs} (h1:PG X e t) (h2:PGs X es u)
  (hs:(assignEach (e :: es) X.env).map (·.2)=assign e X.env :: (assignEach es X.env).map (·.2):=by rfl):PGs X (e :: es) (Zo7 t u):=by
 intro fo s σ H vs us Q I r h;obtain ⟨v,vr,e1,h⟩:=h;subst e1
 cases r with
 | cons r rr =>
  rw [hs];refine assignInOrder_cons (thn (h1 fo s σ H _ _ _ I r h) λ_ s1 gc=>?_);obtain ⟨σ1,H1,I1,q1⟩:=gc;exact h2 fo s1 σ1 H1 _ _ Q I1 rr q1
def gTup (K:W.Frag) (n:Nat) (t:TGs):TG:=λv σ H Q=>∃ a xs,v=.ref a/\SqT K H a xs/\xs.length=n/\t xs σ H Q
def Vc (hc:X.calm=true) (h:PGs X es t)
  (hn:(assignEach es X.env).length=n:=by rfl) (lg:(assignEach es X.env).findIdx? (·.1)=none:=by rfl):PG X (.Tuple es k pos) (gTup X.K n t):=by
 intro fo s σ H v u Q I r hw;obtain ⟨a,xs,e1,hq,hl,hw⟩:=hw;subst e1;cases r;obtain ⟨its,rv,ht,hz⟩:=I.tuple hq;refine assign_Tuple_tuple (I.ok.hd hc) ht (by simp [hn,<- hl,rv.length]) lg λh' hx=>?_;have I1:Inv X fo σ H { s with heap:=h' }:=I.kept (t':=s.toks) λb o e=>hx b o (As (Ao e)) e;exact h fo _ σ H xs _ Q I1 (by simpa using rv) hw
def gSub (to ti:TE) (t:TSet):TG:=λv σ H Q=>to σ H λo H1=>ti σ H1 λi H2=>t o i v H2 λH3=>Q σ H3
def Jz {o i:Expr} {to ti:TE} {t:TSet} (ho:PE X o to) (hi:PE X i ti) (hs:PSet X t)
  (ha:∀ v,assign (.Subscript o i pos) X.env v=(do
   let ov <- holding [v] (eval o X.env)
   let iv <- holding [v,ov] (eval i X.env)
   standAt pos
   holding [v,ov,iv] (setItem ov iv v)
   release [v,ov,iv] []):=by intro _; rfl):PG X (.Subscript o i pos) (gSub to ti t):=by
 intro fo s σ H v u Q I r h;rw [ha];refine Al (wpAny_holding (thn (ho fo s σ H _ I h) λov s1 gc=>?_));obtain ⟨x,H1,I1,r1,q1⟩:=gc;refine Al (wpAny_holding (thn (hi fo s1 σ H1 _ I1 q1) λiv s2 gc=>?_));obtain ⟨y,H2,I2,r2,q2⟩:=gc;refine Al (wpAny_standAt (Al (wpAny_holding (thn (hs fo s2 σ H2 x y v ov iv u _ I2 r1 r2 r q2) λ_ s3 gc=>?_))));obtain ⟨H3,I3,q3⟩:=gc;exact wpAny_release ⟨σ,H3,I3,q3⟩
def tAsg (te:TE) (g:TG):TS:=λD σ H=>te σ H λx H1=>g x σ H1 D.nx
def Wg {tg e:Expr} {te:TE} {g:TG} (he:PE X e te) (hg:PG X tg g) (hs:swapsWithSole [tg] e pos.line X.env=pure false:=by rfl) (hw:swappedStores [tg] e X.env=pure none:=by rfl)
  (h1:(assignEach [tg] X.env).map (·.2)=[assign tg X.env]:=by rfl):PS X (.Assign [tg] e pos) (tAsg te g):=by
 intro fo s σ H D I h;refine wpAny_Assign_stores (thn (he fo s σ H _ I h) λv s1 zz4=>?_) hs hw;obtain ⟨x,H1,I1,r1,q1⟩:=zz4;rw [h1];exact thn (hg fo s1 σ H1 x v _ I1 r1 q1) λ_ s2 q=>q
def Zs {i:Nat} {x:Str} {e:Expr} {te:TE} {iz:Pos} (hN:X.N.Nodup) (hi:X.N[i]?=some x) (hx:Loc X.env.scope x) (he:PE X e te) (hs:swapsWith e (some (.Name x iz)) pos.line X.env=pure false:=by rfl) (hf:X.fn x=true\/X.env.scope.names.lookup x=some .local:=by first | exact .inl rfl | exact .inr rfl | assumption) :
  PS X (.Assign [.Name x iz] e pos) (tAsg te (Zm i)):=by
 intro fo s σ H D I h;refine wpAny_Assign_Name (thn (he fo s σ H _ I h) λv s1 zz5=>?_) hs;obtain ⟨y,H1,I1,r1,q1⟩:=zz5;exact Jc I1 hN hi hx r1 (λs2 I2=>⟨_,H1,I2,q1⟩) hf
def tPar (i j:Nat) (ta:TA):TS:=λD σ H=>ta σ H λvs H1=>∃ v w,vs=[v,w]/\D.nx ((σ.set i (some v)).set j (some w)) H1
def Zni {i j:Nat} {x y:Str} {a b:Expr} {ta:TA} {px py pt:Pos} {kt k2 pt2} (hc:X.calm=true) (hN:X.N.Nodup) (hi:X.N[i]?=some x) (hj:X.N[j]?=some y) (ka:i≠j)
  (hx:X.env.scope.names.lookup x=some .local) (hy:X.env.scope.names.lookup y=some .local) (ha:PA X [a,b] ta)
  (hw:swappedStores [.Tuple [.Name x px,.Name y py] kt pt] (.Tuple [a,b] k2 pt2) X.env=pure (some [x,y]))
  (hs:swapsWithSole [.Tuple [.Name x px,.Name y py] kt pt] (.Tuple [a,b] k2 pt2) pos.line X.env=pure false:=by rfl) :
  PS X (.Assign [.Tuple [.Name x px,.Name y py] kt pt] (.Tuple [a,b] k2 pt2) pos) (tPar i j ta):=by
 intro fo s σ H D I h;rw [exec_Assign_arm];refine Al (wpAny_standAt ?_);rw [hs];refine Al (wpAny_pure ?_);rw [if_neg (by decide)];refine Al (Tuple_ (thn (ha _ fo s σ H _ I h) λus s1 gc=>?_));obtain ⟨vs,H1,I1,r1,q1⟩:=gc;obtain ⟨v,w,e1,q1⟩:=q1;subst e1
 obtain ⟨u1,u2,rfl,rv,jp⟩:∃ u1 u2,us=[u1,u2]/\RelV v u1/\RelV w u2:=by
  cases r1 with
  | cons p q =>
   cases q with
   | cons p' q' =>
    cases q';exact ⟨_,_,Y,p,p'⟩
 refine wpAny_newObj_type ?_ (by show 2<=sizeLine; decide);have I2:Inv X fo σ H1 { s1 with heap:=s1.heap.push { cls:=.type "tuple",data:=.seq [u1,u2].toArray } }:=I1.kept (t':=s1.toks) λb o e=>Ak _ e;rw [hw];refine Al (wpAny_pure ?_);show wpAny (a:) X.A (do rule "assign.swapped-stores"; let items <- unpackItems (.ref s1.heap.objs.size) 2 none; assignInOrder [λv=>bindName X.env y v,λv=>bindName X.env x v] items.reverse; pure Flow.next) _ _ _;refine Al (wpAny_rule (Al (unpackItems_tuple (items:=#[u1,u2]) (I.ok.hd hc) (IsTup.new s1.heap _) λh' jt=>?_)));have I3:=I2.kept (h':=h') (t':=s1.toks) λb o e=>jt b o (As (Ao e)) e;show wpAny _ _ (assignInOrder [λv=>bindName X.env y v,λv=>bindName X.env x v] [u2,u1] >>= λ_=>pure Flow.next) _ _ _;refine Al (assignInOrder_cons (wpAny_bindName (Jc I3 hN hj (.inl hy) jp (λs2 I4=>?_) (.inr hy))));refine assignInOrder_cons (wpAny_bindName (Jc I4 hN hi (.inl hx) rv (λs3 I5=>assignInOrder_nil (wpAny_pure ?_)) (.inr hx)));rw [set_comm _ _ (Ne.symm ka)] at I5;exact ⟨_,H1,I5,q1⟩
def tAug (i:Nat) (te:TE) (ti:TIp):TS:=λD σ H=>∃ x,σ[i]?=some (some x)/\te σ H λy H1=>ti x y H1 λz H2=>D.nx (σ.set i (some z)) H2
def Znj {i:Nat} {x:Str} {e:Expr} {te:TE} {op:Operator} {ti:TIp} {iz:Pos} (hN:X.N.Nodup) (hi:X.N[i]?=some x) (hx:Loc X.env.scope x) (he:PE X e te) (ho:PIp X op ti) (hf:X.fn x=true\/X.env.scope.names.lookup x=some .local:=by first | exact .inl rfl | exact .inr rfl | assumption) :
  PS X (.AugAssign (.Name x iz) op e pos) (tAug i te ti):=by
 intro fo s σ H D I h;obtain ⟨v,e1,h⟩:=h;obtain ⟨m,hn,hl⟩:=I.loc
 have vis:Vis X.env.scope x:=by rcases hx with k | k; exact .inl k; exact .inr (.inl k)
 obtain ⟨u,r,l⟩:=hl i x v hi e1 vis;refine wpAny_AugAssign_Name ?_;have go:wpAny (a:) X.A (eval e X.env) (λw s₂=>wpAny (a:) X.A (inplaceOp op u w) (λr s₃=>wpAny (a:) X.A (storeName X.env x r) (λ_=>SP X fo D .next) X.xe s₃) X.xe s₂) X.xe s:=by
  refine thn (he fo s σ H _ I h) λw s1 gc=>?_
  obtain ⟨y,H1,I1,r1,q1⟩:=gc
  refine thn (ho fo s1 σ H1 v y u w _ I1 r r1 q1) λz s2 gc=>?_
  obtain ⟨zv,H2,I2,r2,q2⟩:=gc
  exact Jc I2 hN hi hx r2 (λs3 I3=>⟨_,H2,I3,q2⟩) hf
 rcases l with ⟨hk,hm⟩ | ⟨hk,c,hc,hcell⟩
 ·exact wpAny_loadName_local I.ok.kind hk hn hm go
 ·rcases hk with hk | hk
  ·exact wpAny_loadName_cell I.ok.kind hk hc hcell go
  ·rcases hx with k | k
   ·have:X.env.scope.names.lookup x=some .free:=hk
    rw [k] at this; cases this
   ·have:X.env.scope.names.lookup x=some .free:=hk
    rw [k] at this; cases this
def Zon (to ti te:TE) (pz:V->V->Hp->VK->Prop) (yp:TIp) (pq:TSet):TS:=λD σ H=>to σ H λo H1=>ti σ H1 λi H2=>pz o i H2 λx H3=>te σ H3 λy H4=>yp x y H4 λz H5=>pq o i z H5 λH6=>D.nx σ H6
def PGet (X:Cx) (t:V->V->Hp->VK->Prop):Prop :=
 ∀ fo s σ H (o i:V) (ov iv:Value) (Q:VK),Inv X fo σ H s->RelV o ov->RelV i iv->t o i H Q ->
  wpAny (a:) X.A (getItem ov iv) (EP X fo σ Q) X.xe s
def Zd3 {o i e:Expr} {to ti te:TE} {pz:V->V->Hp->VK->Prop} {yp:TIp} {pq:TSet} {op:Operator} {ji:Pos} (ho:PE X o to) (hi:PE X i ti) (hg:PGet X pz) (he:PE X e te) (hp:PIp X op yp) (hs:PSet X pq)
  (ha:∀ ov iv new,augStore i ov iv new=(do holding [new,ov,iv] (setItem ov iv new); release [new,ov,iv] []; pure .next):=by intros; rfl):PS X (.AugAssign (.Subscript o i ji) op e pos) (Zon to ti te pz yp pq):=by
 intro fo s σ H D I h;refine wpAny_AugAssign_SubscriptAny (thn (ho fo s σ H _ I h) λov s1 zz6=>?_) ha;obtain ⟨x1,H1,I1,r1,q1⟩:=zz6;refine thn (hi fo s1 σ H1 _ I1 q1) λiv s2 gc=>?_;obtain ⟨x2,H2,I2,r2,q2⟩:=gc;refine thn (hg fo s2 σ H2 x1 x2 ov iv _ I2 r1 r2 q2) λold s3 gc=>?_;obtain ⟨x3,H3,I3,r3,q3⟩:=gc;refine thn (he fo s3 σ H3 _ I3 q3) λv s4 gc=>?_;obtain ⟨x4,H4,I4,r4,q4⟩:=gc;refine thn (hp fo s4 σ H4 x3 x4 old v _ I4 r3 r4 q4) λnew s5 gc=>?_;obtain ⟨x5,H5,I5,r5,q5⟩:=gc;refine thn (hs fo s5 σ H5 x1 x2 x5 ov iv new _ I5 r1 r2 r5 q5) λ_ s6 uz=>?_;obtain ⟨H6,I6,q6⟩:=uz;exact ⟨σ,H6,I6,q6⟩
def ipI (f:Int->Int->Int):TIp:=λx y H Q=>∃ i j,x=.int i/\y=.int j/\Q (.int (f i j)) H
def Zce:PIp X .Add (ipI λi j=>i + j):=by
 intro fo s σ H x y v u Q I r1 r2 h;obtain ⟨i,j,e1,e2,q⟩:=h;subst e1; subst e2;obtain ⟨t,rfl⟩:=r1;obtain ⟨t',rfl⟩:=r2;exact iadd_int ⟨.int _,H,I.tok _,⟨_,Y⟩,q⟩
def Qm (c:TT) (tb:TS):TS:=λD σ H=>∃ W:Nat->St->Hp->Prop,(∃ m,W m σ H)/\∀ m σ H,W m σ H ->
 c σ H λb H1=>if b=true then ∃ N:St->Hp->Prop,(∀ σ' H',N σ' H'->∃ m',m' < m/\W m' σ' H')/\tb { D with nx:=N,ct:=N,bk:=D.nx } σ H1 else D.nx σ H1
def Jh {c:Expr} {body:List Stmt} {tc:TT} {tb:TS} (hp:PassesOwn (a:) X.A X.env X.xe) (hc:PT X c tc) (hb:PSs X body tb):PS X (.While c body [] pos) (Qm tc tb):=by
 intro fo s σ H D I h;obtain ⟨W,⟨m0,w0⟩,turn⟩:=h;refine wpAny_While (codeAny_whileLoop (λn s'=>∃ σ' H',Inv X fo σ' H' s'/\W n σ' H') ?_ m0 ⟨σ,H,I,w0⟩);rintro n s1 ⟨σ1,H1,I1,w1⟩;refine wpAny_passesOwn hp (thn (hc fo s1 σ1 H1 _ I1 (turn n σ1 H1 w1)) λb s2 gc=>?_);obtain ⟨H2,I2,q2⟩:=gc
 cases b with
 | true =>
  obtain ⟨N,hN,q2⟩:=q2;rw [if_pos rfl];refine wpAny_passesOwn hp (thn (hb fo s2 σ1 H2 _ I2 q2) λf s3 q3=>?_)
  cases f with
  | next =>
   obtain ⟨σ3,H3,I3,n3⟩:=q3;obtain ⟨m',hm,w3⟩:=hN σ3 H3 n3;exact ⟨m',hm,σ3,H3,I3,w3⟩
  | cont =>
   obtain ⟨σ3,H3,I3,n3⟩:=q3;obtain ⟨m',hm,w3⟩:=hN σ3 H3 n3;exact ⟨m',hm,σ3,H3,I3,w3⟩
  | brk=>exact q3
  | ret v=>exact q3
 | false =>
  rw [if_neg Bool.false_ne_true];exact wpAny_execs_nil ⟨σ1,H2,I2,q2⟩
end
structure It where
 go:Nat->Hp->Prop
 yld:Nat->Hp->V->Hp->Prop
 stop:Nat->Hp->Prop
def FpOk (X:Cx) (fo:List (Addr × Obj)) (H:Hp) (b:Addr):Prop :=
 H b=none/\b≠X.env.locals/\b ∉ X.fs/\(b∈X.ex\/X.s₀.heap.objs.size<=b)/\(∀ x c,X.env.cells.lookup x=some c->c≠b)/\∀ p∈X.pn ++ fo,p.1≠b
def Inv.fpOk {X:Cx} {fo:List (Addr × Obj)} {σ:St} {H H':Hp} {s:Shared} {b:Addr} (I:Inv X fo σ H s) (hb:s.heap.objs.size<=b) (hn:H' b=none):FpOk X fo H' b:=by
 refine ⟨hn,Nat.ne_of_gt (Ag I.lt hb),I.nofs hb,.inr (Nat.le_trans I.sz hb),λx c e z=>?_,λp hp z=>?_⟩
 ·obtain ⟨v,q⟩:=I.cell x c e
  exact absurd (Ag q.lt (by rw [z]; exact hb)) (Nat.lt_irrefl _)
 ·exact absurd (Ag (Ao (I.pin p hp).1) (by rw [z]; exact hb)) (Nat.lt_irrefl _)
structure Turn (P:Program) (w:World) (K:W.Frag) (tg:Expr) (J:It) (fp:List Addr) (it:Addr) (tn:Nat->Heap->Prop):Prop where
 mem:it∈fp
 obj:∀ i h,tn i h->∀ b∈fp,∃ o,h.get? b=some o/\∀ v,o.data≠.cell v
 keep:∀ i h h',tn i h->(∀ b∈fp,∀ o,h.get? b=some o->h'.get? b=some o)->tn i h'
 item:∀ (X:Cx),X.prog=P->X.w=w->X.K=K->X.calm=true->∀ (i:Nat) (fo:List (Addr × Obj)) (s:Shared) (σ:St) (H:Hp) (E:Value->Shared->Prop),Inv X fo σ H s->(∀ b∈fp,FpOk X fo H b)->tn i s.heap->J.go i H ->
  wpAny (model P w) X.A (pyNext (.ref it)) (λr s1=>∃ u,r=some u /\
   wpAny (model P w) X.A (letOwnedTupleGo tg (.ref it) u) (λ_ s2=>∃ x H',Inv X fo σ H' s2/\RelV x u/\J.yld i H x H'/\tn (i + 1) s2.heap/\∀ b∈fp,H' b=none) E s1) E s
 done:∀ (X:Cx),X.prog=P->X.w=w->X.K=K->X.calm=true->∀ (i:Nat) (fo:List (Addr × Obj)) (s:Shared) (σ:St) (H:Hp) (E:Value->Shared->Prop),Inv X fo σ H s->(∀ b∈fp,FpOk X fo H b)->tn i s.heap->J.stop i H ->
  wpAny (model P w) X.A (pyNext (.ref it)) (λr s1=>r=none/\Inv X fo σ H s1) E s
 self:∀ (A:Around) (i:Nat) (s:Shared) (Q:Value->Shared->Prop) (E:Value->Shared->Prop),tn i s.heap->Q (.ref it) s->wpAny (model P w) A (pyIter (.ref it)) Q E s
abbrev TI:=St->Hp->(It->Hp->Prop)->Prop
def PIE (X:Cx) (fo:List (Addr × Obj)) (σ:St) (tg:Expr) (R:It->Hp->Prop) (vq:Value) (s2:Shared):Prop :=
 ∃ (it:Addr) (fp:List Addr) (tn:Nat->Heap->Prop) (J:It) (H':Hp),vq=.ref it/\Inv X fo σ H' s2/\Turn X.prog X.w X.K tg J fp it tn/\tn 0 s2.heap/\(∀ b∈fp,FpOk X fo H' b)/\R J H'
def PI (X:Cx) (tg iter:Expr) (wi:TI):Prop :=
 ∀ fo s σ H (R:It->Hp->Prop),Inv X fo σ H s->wi σ H R ->
  wpAny (a:) X.A (eval iter X.env) (λv s1=>wpAny (a:) X.A (pyIter v) (PIE X fo σ tg R) X.xe s1) X.xe s
def Vz {s:Shared} {o:Obj} (ho:s.heap.get? it=some o) (hc:o.cls=.type n) (hd:o.data=.fields vs)
    (hn:["enumerate","zip","dict_itemiterator","dict_reverseitemiterator","odict_iterator","itertools.zip_longest","itertools.pairwise"].contains n=false) (hQ:Q () s):wpAny M A (letOwnedTupleGo tg (.ref it) u) Q E s:=by
  unfold letOwnedTupleGo
  cases tg <;> first
    | exact wpAny_pure hQ
    | (cases u <;> first
        | exact wpAny_pure hQ
        | (refine Al (wpAny_load ho ?_)
           rw [hc,hd];show wpAny M A (if (["enumerate","zip","dict_itemiterator","dict_reverseitemiterator","odict_iterator","itertools.zip_longest","itertools.pairwise"].contains n && vs[0]? == some (rawInt _))=true then _ else _) Q E s;rw [if_neg (by intro h; rw [hn,Bool.false_and] at h; cases h)]
           exact wpAny_pure hQ))
def Itl (K:W.Frag) (a:Addr):It :=
 ⟨λi H=>∃ xs x,SqL K H a xs/\xs[i]?=some x,λi H x H'=>H'=H/\∀ xs,SqL K H a xs->xs[i]?=some x,λi H=>∃ xs,SqL K H a xs/\xs.length<=i⟩
def Itt (K:W.Frag) (a:Addr):It :=
 ⟨λi H=>∃ xs x,SqT K H a xs/\xs[i]?=some x,λi H x H'=>H'=H/\∀ xs,SqT K H a xs->xs[i]?=some x,λi H=>∃ xs,SqT K H a xs/\xs.length<=i⟩
def Itr (lo:Int) (n:Nat):It:=⟨λi _=>i < n,λi H x H'=>H'=H/\x=.int (lo + i),λi _=>n<=i⟩
def Zgk {P:Program} {w:World} {K:W.Frag} {tg:Expr} (a it:Addr):Turn P w K tg (Itl K a) [it] it (λi h=>h.IsListIter it a i) where
 mem:=by simp
 obj:=λi h st b hb=>by
  have e:b=it:=by simpa using hb
  subst e;obtain ⟨o,e,c,d⟩:=st;exact ⟨o,e,λv z=>by rw [d] at z; cases z⟩
 keep:=λi h h' st k=>st.at λo e=>k it (by simp) o e
 item:=by
  intro X hP hw hK hc i fo s σ H E I hf st hg;subst hP hw hK;obtain ⟨xs,x,hq,hx⟩:=hg;obtain ⟨its,rv,p,hz⟩:=I.list hq;obtain ⟨u,hu,ru⟩:=rv.get hx;obtain ⟨f0,f1,f2,f3,f4,f5⟩:=hf it (by simp);refine wpAny_pyNext_list_item st p.isList (x:=u) (by simpa using hu) λh' ft sb=>?_;have I1:Inv X fo σ H { s with heap:=h' }:=I.turned (t':=s.toks) (λb o hb e=>(sb.2 b hb).trans e) f0 f1 f3 f4 f5;obtain ⟨o,e,c,d⟩:=id ft;exact ⟨u,Y,Vz (s:={ s with heap:=h' }) e c d (by decide) ⟨x,H,I1,ru,⟨Y,λys hy=>by rw [I.list_inj hy hq]; exact hx⟩,ft,λb hb=>(hf b hb).1⟩⟩
 done:=by
  intro X hP hw hK hc i fo s σ H E I hf st hg;subst hP hw hK;obtain ⟨xs,hq,hx⟩:=hg;obtain ⟨its,rv,p,hz⟩:=I.list hq;obtain ⟨f0,f1,f2,f3,f4,f5⟩:=hf it (by simp);have hl:=rv.length;exact wpAny_pyNext_list_end (I.ok.hd hc) st p.isList (by simp; lia) λh' eb=>⟨rfl,I.turned (t':=s.toks) (λb o hb e=>eb b o hb e) f0 f1 f3 f4 f5⟩
 self:=λ_ _ _ _ _ st h=>wpAny_pyIter_listiter st h
def Zez {P:Program} {w:World} {K:W.Frag} {tg:Expr} (a it:Addr):Turn P w K tg (Itt K a) [it] it (λi h=>h.IsTupleIter it a i) where
 mem:=by simp
 obj:=λi h st b hb=>by
  have e:b=it:=by simpa using hb
  subst e;obtain ⟨o,e,c,d⟩:=st;exact ⟨o,e,λv z=>by rw [d] at z; cases z⟩
 keep:=λi h h' st k=>st.at λo e=>k it (by simp) o e
 item:=by
  intro X hP hw hK hc i fo s σ H E I hf st hg;subst hP hw hK;obtain ⟨xs,x,hq,hx⟩:=hg;obtain ⟨its,rv,p,hz⟩:=I.tuple hq;obtain ⟨u,hu,ru⟩:=rv.get hx;obtain ⟨f0,f1,f2,f3,f4,f5⟩:=hf it (by simp);refine wpAny_pyNext_tuple_item st (show s.heap.IsTuple a its.toArray from p) (x:=u) (by simpa using hu) λh' ft sb=>?_;have I1:Inv X fo σ H { s with heap:=h' }:=I.turned (t':=s.toks) (λb o hb e=>(sb.2 b hb).trans e) f0 f1 f3 f4 f5;obtain ⟨o,e,c,d⟩:=id ft;exact ⟨u,Y,Vz (s:={ s with heap:=h' }) e c d (by decide) ⟨x,H,I1,ru,⟨Y,λys hy=>by rw [I.tuple_inj hy hq]; exact hx⟩,ft,λb hb=>(hf b hb).1⟩⟩
 done:=by
  intro X hP hw hK hc i fo s σ H E I hf st hg;subst hP hw hK;obtain ⟨xs,hq,hx⟩:=hg;obtain ⟨its,rv,p,hz⟩:=I.tuple hq;obtain ⟨f0,f1,f2,f3,f4,f5⟩:=hf it (by simp);have hl:=rv.length;exact wpAny_pyNext_tuple_end (I.ok.hd hc) st (show s.heap.IsTuple a its.toArray from p) (by simp; lia) λh' eb=>⟨rfl,I.turned (t':=s.toks) (λb o hb e=>eb b o hb e) f0 f1 f3 f4 f5⟩
 self:=λ_ _ _ _ _ st h=>wpAny_pyIter_tupleiter st h
def Ze0 {P:Program} {w:World} {K:W.Frag} {tg:Expr} (it:Addr) (lo:Int) (n:Nat):Turn P w K tg (Itr lo n) [it] it (λi h=>IsRangeIter h it (lo + (i:Nat) * 1) ((n:Int) - (i:Nat)) 1) where
 mem:=by simp
 obj:=λi h st b hb=>by
  have e:b=it:=by simpa using hb
  subst e;exact ⟨_,st,λv z=>by
   have z':Data.fields _=Data.cell v:=z
   cases z'⟩
 keep:=λi h h' st k=>k it (by simp) _ st
 item:=by
  intro X hP hw hK hc i fo s σ H E I hf st hg;subst hP hw hK;obtain ⟨f0,f1,f2,f3,f4,f5⟩:=hf it (by simp);have W:=Walks.range (prog:=X.prog) (w:=X.w) (I.ok.hd hc) it lo 1 n;refine W.item i s _ _ hg st λv h' tk hv ft kk=>?_;obtain ⟨t,rfl⟩:=hv;have I1:Inv X fo σ H { s with heap:=h',toks:=tk }:=I.turned (λb o hb e=>kk b o (by simpa using hb) e) f0 f1 f3 f4 f5;refine ⟨_,Y,Vz (s:={ s with heap:=h',toks:=tk }) (n:="range_iterator") ft rfl rfl (by decide) ⟨.int (lo + i),H,I1,⟨t,?_⟩,⟨rfl,rfl⟩,ft,λb hb=>(hf b hb).1⟩⟩;rw [Int.mul_one]
 done:=by
  intro X hP hw hK hc i fo s σ H E I hf st hg;subst hP hw hK;obtain ⟨f0,f1,f2,f3,f4,f5⟩:=hf it (by simp);exact wpAny_pyNext_range_end (I.ok.hd hc) st (by have:n<=i:=hg; lia) λh' eb=>⟨rfl,I.turned (t':=s.toks) (λb o hb e=>eb b o hb e) f0 f1 f3 f4 f5⟩
 self:=λ_ _ _ _ _ st h=>wpAny_pyIter_rangeiter st h
section
variable {X:Cx} {tg:Expr}
def Zo4 (K:W.Frag) (tl:TE):TI:=λσ H R=>tl σ H λx H1=>∃ a,x=.ref a/\(∃ xs,SqL K H1 a xs)/\R (Itl K a) H1
def iTup (K:W.Frag) (tl:TE):TI:=λσ H R=>tl σ H λx H1=>∃ a,x=.ref a/\(∃ xs,SqT K H1 a xs)/\R (Itt K a) H1
def Ya {l:Expr} {tl:TE} (hl:PE X l tl):PI X tg l (Zo4 X.K tl):=by
 intro fo s σ H R I h;refine thn (hl fo s σ H _ I h) λv s1 gc=>?_;obtain ⟨x,H1,I1,r1,q1⟩:=gc;obtain ⟨a,e,⟨xs,hq⟩,q⟩:=q1;subst e;cases r1;obtain ⟨its,rv,p,hz⟩:=I1.list hq;refine wpAny_pyIter_list p.isList ?_;refine ⟨s1.heap.objs.size,[s1.heap.objs.size],_,_,H1,Y,I1.kept (t':=s1.toks) λb o e=>Ak _ e,Zgk a _,⟨_,Ap _ Y,Y,Y⟩,λb hb=>?_,q⟩;have e:b=s1.heap.objs.size:=by simpa using hb
 subst e;exact I1.fpOk (An _) (I1.hok.fresh (An _))
def Znm {l:Expr} {tl:TE} (hl:PE X l tl):PI X tg l (iTup X.K tl):=by
 intro fo s σ H R I h;refine thn (hl fo s σ H _ I h) λv s1 gc=>?_;obtain ⟨x,H1,I1,r1,q1⟩:=gc;obtain ⟨a,e,⟨xs,hq⟩,q⟩:=q1;subst e;cases r1;obtain ⟨its,rv,p,hz⟩:=I1.tuple hq;refine wpAny_pyIter_tuple (show s1.heap.IsTuple a its.toArray from p) ?_;refine ⟨s1.heap.objs.size,[s1.heap.objs.size],_,_,H1,Y,I1.kept (t':=s1.toks) λb o e=>Ak _ e,Zez a _,⟨_,Ap _ Y,Y,Y⟩,λb hb=>?_,q⟩;have e:b=s1.heap.objs.size:=by simpa using hb
 subst e;exact I1.fpOk (An _) (I1.hok.fresh (An _))
def Zbk {fo:List (Addr × Obj)} {σ:St} {H:Hp} {s:Shared} {R:It->Hp->Prop} {E:Value->Shared->Prop} {lo hi:Int} {t u v:Tok} {tk:Nat} (I:Inv X fo σ H s) (h1:-(2 ^ 62)<=lo) (h2:lo < 2 ^ 62) (h3:-(2 ^ 62)<=hi) (h4:hi < 2 ^ 62)
  (q:R (Itr lo (hi - lo).toNat) H):wpAny (a:) X.A (pyIter (.ref s.heap.objs.size)) (PIE X fo σ tg R) E { s with heap:=s.heap.push { cls:=.type "range",data:=.fields #[.int lo t,.int hi u,.int 1 v] },toks:=tk }:=by
 refine wpAny_pyIter_range (IsRange.new ..) (small_one h1 h2 h3 h4) ?_;have I1:Inv X fo σ H { s with heap:=s.heap.push { cls:=.type "range",data:=.fields #[.int lo t,.int hi u,.int 1 v] },toks:=tk }:=I.kept λb o e=>Ak _ e;refine ⟨(s.heap.push { cls:=.type "range",data:=.fields #[.int lo t,.int hi u,.int 1 v] }).objs.size,[(s.heap.push { cls:=.type "range",data:=.fields #[.int lo t,.int hi u,.int 1 v] }).objs.size],_,_,H,rfl,
  I1.kept (t':=tk) λb o e=>Ak _ e,Ze0 _ lo (hi - lo).toNat,?_,λb hb=>?_,q⟩
 ·have e1:lo + ((0:Nat):Int) * 1=lo:=by simp
  have e2:(((hi - lo).toNat:Nat):Int) - ((0:Nat):Int)=Builtin.Range.rangeSize lo hi 1:=by rw [rangeSize_one]; split <;> lia
  show IsRangeIter _ _ (lo + ((0:Nat):Int) * 1) ((((hi - lo).toNat:Nat):Int) - ((0:Nat):Int)) 1;rw [e1,e2];exact Ap _ Y
 ·have e:b=(s.heap.push { cls:=.type "range",data:=.fields #[.int lo t,.int hi u,.int 1 v] }).objs.size:=by simpa using hb
  subst e;exact I1.fpOk (An _) (I1.hok.fresh (An _))
def Zo2 (ta:TA):TI:=λσ H R=>ta σ H λvs H1=>∃ j:Int,vs=[.int j]/\-(2 ^ 62)<=j/\j < 2 ^ 62/\R (Itr 0 j.toNat) H1
def Zo1 (ta:TA):TI:=λσ H R=>ta σ H λvs H1=>∃ i j:Int,vs=[.int i,.int j]/\(-(2 ^ 62)<=i/\i < 2 ^ 62/\-(2 ^ 62)<=j/\j < 2 ^ 62)/\R (Itr i (j - i).toNat) H1
def Yu {a:Expr} {ta:TA} {p pos:Pos} (hg:Gl X "range") (hm:X.mg "range"=none) (ha:PA X [a] ta) (hs:starEach [a] X.env=[(false,eval a X.env)]:=by rfl):PI X tg (.Call (.Name "range" p) [a] [] pos) (Zo2 ta):=by
 intro fo s σ H R I h;refine Call_ (Xb I hg hm boot_range (PyProof.Rows.callWith_type1 (thn (ha pos fo s σ H _ I h) λus s1 zz8=>?_) hs Y));obtain ⟨vs,H1,I1,r1,q1⟩:=zz8;obtain ⟨j,e,q1,q2,q⟩:=q1;subst e
 cases r1 with
 | cons r rr =>
  cases rr;obtain ⟨t,rfl⟩:=r;exact call_range_1 (Zbk I1 (by lia) (by lia) q1 q2 (by simpa using q))
def Zhd {a b:Expr} {ta:TA} {p pos:Pos} (hg:Gl X "range") (hm:X.mg "range"=none) (ha:PA X [a,b] ta) (hs:starEach [a,b] X.env=[(false,eval a X.env),(false,eval b X.env)]:=by rfl) (ju:starEach [b] X.env=[(false,eval b X.env)]:=by rfl) :
  PI X tg (.Call (.Name "range" p) [a,b] [] pos) (Zo1 ta):=by
 intro fo s σ H R I h;refine Call_ (Xb I hg hm boot_range (PyProof.Rows.callWith_type1 (thn (ha pos fo s σ H _ I h) λus s1 ⟨vs,H1,I1,r1,q1⟩=>?_) (by rw [hs,ju]) (by rw [ju]; rfl)));obtain ⟨i,j,e,⟨q1,q2,q3,q4⟩,q⟩:=q1;subst e
 cases r1 with
 | cons r rr =>
  cases rr with
  | cons r' rr =>
   cases rr;obtain ⟨t,rfl⟩:=r;obtain ⟨t',rfl⟩:=r';exact call_range_2 (Zbk I1 q1 q2 q3 q4 q)
def tFor (wi:TI) (g:TG) (tb:TS):TS:=λD σ H=>wi σ H λJ H1=>∃ W:Nat->Nat->St->Hp->Prop,(∃ m,W 0 m σ H1)/\∀ i m σ H,W i m σ H ->
 (J.stop i H/\D.nx σ H)\/(J.go i H/\∃ N:St->Hp->Prop,(∀ σ' H',N σ' H'->∃ m',m' < m/\W (i + 1) m' σ' H')/\∀ x H',J.yld i H x H'->g x σ H' λσ2 H2=>tb { D with nx:=N,ct:=N,bk:=D.nx } σ2 H2)
def Ur (fp:List Addr) (h:Heap):List (Addr × Obj):=fp.filterMap λb=>(h.get? b).map λo=>(b,o)
def Qc {fp:List Addr} {h:Heap} {b:Addr} {o:Obj} (hb:b∈fp) (e:h.get? b=some o):(b,o)∈Ur fp h:=mem_filterMap.mpr ⟨b,hb,by rw [e]; rfl⟩
def Zho {h:Heap} {p:Addr × Obj} (hp:p∈Ur fp h):p.1∈fp/\h.get? p.1=some p.2:=by
 obtain ⟨b,hb,e⟩:=mem_filterMap.mp hp
 cases q:h.get? b with
 | none=>rw [q] at e; cases e
 | some o =>
  rw [q] at e;have e':(b,o)=p:=Ax e;subst e';exact ⟨hb,q⟩
def Inv.pinned {fo:List (Addr × Obj)} {σ:St} {H:Hp} {s:Shared} {fp:List Addr} (I:Inv X fo σ H s) (hf:∀ b∈fp,FpOk X fo H b) (ho:∀ b∈fp,∃ o,s.heap.get? b=some o/\∀ v,o.data≠.cell v):Inv X (fo ++ Ur fp s.heap) σ H s :=
 I.pins_of λp hp=>(mem_append.mp hp).elim (λz=>I.pin p (mem_append_right _ z)) λz=>by
  obtain ⟨hb,e⟩:=Zho z;obtain ⟨f0,f1,f2,_⟩:=hf p.1 hb;obtain ⟨o,e',d⟩:=ho p.1 hb;rw [e] at e'; cases e';exact ⟨e,f0,f1,f2,d⟩
def Inv.unpinned {fo pl:List (Addr × Obj)} {σ:St} {H:Hp} {s:Shared} (I:Inv X (fo ++ pl) σ H s):Inv X fo σ H s:=I.pins_of λp hp=>I.pin p (mem_append_right _ (mem_append_left _ hp))
def Ye {iter:Expr} {body:List Stmt} {wi:TI} {g:TG} {tb:TS} {pos:Pos} (hp:PassesOwn (a:) X.A X.env X.xe) (hc:X.calm=true) (hi:PI X tg iter wi) (hg:PG X tg g) (hb:PSs X body tb)
  (hs:∀ x,foldedSetIterable iter X.env x=pure x:=by intro _; rfl):PS X (.For tg iter body [] pos) (tFor wi g tb):=by
 intro fo s σ H D I h;refine wpAny_For (thn (hi fo s σ H _ I h) λv s1 h1=>thn h1 λvq s2 h2=>?_) hs;obtain ⟨it,fp,tn,J,H2,e,I2,T,fy,f2,W,⟨m0,w0⟩,turn⟩:=h2;subst e;have kf:∀ {H':Hp},(∀ b∈fp,H' b=none)->∀ b∈fp,FpOk X fo H' b:=λhn b hb=>⟨hn b hb,(f2 b hb).2⟩;refine codeAny_forLoop_any (λn s'=>∃ i σ' H',Inv X fo σ' H' s'/\tn i s'.heap/\(∀ b∈fp,H' b=none)/\W i n σ' H') ?_ m0 ⟨0,σ,H2,I2,fy,λb hb=>(f2 b hb).1,w0⟩;rintro n s3 ⟨i,σ3,H3,I3,gv,xa,w3⟩
 rcases turn i n σ3 H3 w3 with ⟨stop,qn⟩ | ⟨go,N,hN,step⟩
 ·refine wpAny_passesOwn hp (thn (T.done X rfl rfl rfl hc i fo s3 σ3 H3 X.xe I3 (kf xa) gv stop) λr s4 ⟨hr,I4⟩=>?_)
  subst hr;exact wpAny_execs_nil ⟨σ3,H3,I4,qn⟩
 ·refine wpAny_passesOwn hp (thn (T.item X rfl rfl rfl hc i fo s3 σ3 H3 X.xe I3 (kf xa) gv go) λr s4 ⟨u,hr,h4⟩=>?_)
  subst hr;refine wpAny_passesOwn hp (thn h4 λ_ s5 gc=>?_);obtain ⟨x,H5,I5,r5,y5,ot,fr5⟩:=gc;have I5':=I5.pinned (kf fr5) (T.obj _ _ ot);refine wpAny_passesOwn hp (thn (hg _ s5 σ3 H5 x u _ I5' r5 (step x H5 y5)) λ_ s6 gc=>?_);obtain ⟨σ6,H6,I6,q6⟩:=gc;refine wpAny_passesOwn hp (thn (hb _ s6 σ6 H6 _ I6 q6) λf s7 q7=>?_);have again:∀ {σ7:St} {H7:Hp},Inv X (fo ++ Ur fp s5.heap) σ7 H7 s7->N σ7 H7->∃ m,m < n/\∃ i σ' H',Inv X fo σ' H' s7/\tn i s7.heap/\(∀ b∈fp,H' b=none)/\W i m σ' H':=λ{σ7 H7} I7 n7=>by
   obtain ⟨m',hm,w7⟩:=hN σ7 H7 n7
   refine ⟨m',hm,i + 1,σ7,H7,I7.unpinned,T.keep _ _ _ ot λb hb o e=>(I7.pin (b,o) (mem_append_right _ (mem_append_right _ (Qc hb e)))).1,λb hb=>?_,w7⟩
   obtain ⟨o,e,d⟩:=T.obj _ _ ot b hb
   exact (I7.pin (b,o) (mem_append_right _ (mem_append_right _ (Qc hb e)))).2.1
  cases f with
  | next=>obtain ⟨σ7,H7,I7,n7⟩:=q7; exact again I7 n7
  | cont=>obtain ⟨σ7,H7,I7,n7⟩:=q7; exact again I7 n7
  | brk=>obtain ⟨σ7,H7,I7,q7⟩:=q7; exact ⟨σ7,H7,I7.unpinned,q7⟩
  | ret v=>obtain ⟨x7,σ7,H7,I7,r7,q7⟩:=q7; exact ⟨x7,σ7,H7,I7.unpinned,r7,q7⟩
end
def W1 {K:W.Frag} {a:Addr} {xs:List V} {g:TG} {tb:TS} {D:Ends} {σ:St} {H:Hp} (Pv:Nat->St->Hp->Prop) (h0:Pv 0 σ H) (hl:∀ i σ H,i<=xs.length->Pv i σ H->SqL K H a xs)
  (hs:∀ i x σ H,xs[i]?=some x->Pv i σ H->g x σ H λσ2 H2=>tb { D with nx:=Pv (i + 1),ct:=Pv (i + 1),bk:=D.nx } σ2 H2) (hd:∀ σ H,Pv xs.length σ H->D.nx σ H) :
  ∃ W:Nat->Nat->St->Hp->Prop,(∃ m,W 0 m σ H)/\∀ i m σ H,W i m σ H ->
   ((Itl K a).stop i H/\D.nx σ H)\/((Itl K a).go i H/\∃ N:St->Hp->Prop,(∀ σ' H',N σ' H'->∃ m',m' < m/\W (i + 1) m' σ' H')/\∀ x H',(Itl K a).yld i H x H'->g x σ H' λσ2 H2=>tb { D with nx:=N,ct:=N,bk:=D.nx } σ2 H2):=by
 refine ⟨λi m σ H=>m=xs.length - i/\i<=xs.length/\Pv i σ H,⟨xs.length,by simp,Az _,h0⟩,?_⟩;rintro i m σ H ⟨rfl,hi,p⟩;have q:=hl i σ H hi p;by_cases gj:i < xs.length
 ·refine .inr ⟨⟨xs,xs[i],q,by simp [gj]⟩,Pv (i + 1),λσ' H' p'=>⟨xs.length - (i + 1),by lia,Y,gj,p'⟩,λx H' y=>?_⟩
  obtain ⟨e,y⟩:=y;subst e;exact hs i x σ _ (y xs q) p
 ·have e:i=xs.length:=by lia
  subst e;exact .inl ⟨⟨xs,q,An _⟩,hd σ H p⟩
def Xn {lo:Int} {n:Nat} {g:TG} {tb:TS} {D:Ends} {σ:St} {H:Hp} (Pv:Nat->St->Hp->Prop) (h0:Pv 0 σ H)
  (hs:∀ i σ H,i < n->Pv i σ H->g (.int (lo + i)) σ H λσ2 H2=>tb { D with nx:=Pv (i + 1),ct:=Pv (i + 1),bk:=D.nx } σ2 H2) (hd:∀ σ H,Pv n σ H->D.nx σ H) :
  ∃ W:Nat->Nat->St->Hp->Prop,(∃ m,W 0 m σ H)/\∀ i m σ H,W i m σ H ->
   ((Itr lo n).stop i H/\D.nx σ H)\/((Itr lo n).go i H/\∃ N:St->Hp->Prop,(∀ σ' H',N σ' H'->∃ m',m' < m/\W (i + 1) m' σ' H')/\∀ x H',(Itr lo n).yld i H x H'->g x σ H' λσ2 H2=>tb { D with nx:=N,ct:=N,bk:=D.nx } σ2 H2):=by
 refine ⟨λi m σ H=>m=n - i/\i<=n/\Pv i σ H,⟨n,by simp,Az _,h0⟩,?_⟩;rintro i m σ H ⟨rfl,hi,p⟩;by_cases gj:i < n
 ·refine .inr ⟨gj,Pv (i + 1),λσ' H' p'=>⟨n - (i + 1),by lia,Y,gj,p'⟩,λx H' y=>?_⟩
  obtain ⟨e,y⟩:=y;subst e y;exact hs i σ _ gj p
 ·have e:i=n:=by lia
  subst e;exact .inl ⟨An _,hd σ H p⟩
abbrev R2:=V->V->Hp->VK->Prop
def OpR (X:Cx) (f:Value->Value->Sem Value) (r:R2):Prop :=
 ∀ fo s σ H (x y:V) (v u:Value) (Q:VK),Inv X fo σ H s->RelV x v->RelV y u->r x y H Q ->
  wpAny (a:) X.A (f v u) (EP X fo σ Q) X.xe s
def UnR (X:Cx) (f:Value->Sem Value) (r:V->Hp->VK->Prop):Prop :=
 ∀ fo s σ H (x:V) (v:Value) (Q:VK),Inv X fo σ H s->RelV x v->r x H Q ->
  wpAny (a:) X.A (f v) (EP X fo σ Q) X.xe s
def Yv (X:Cx) (f:Value) (r:List V->Hp->VK->Prop):Prop :=
 ∀ fo s σ H (xs:List V) (us:List Value) (Q:VK),Inv X fo σ H s->Vals xs us->r xs H Q ->
  wpAny (a:) X.A (call f us) (EP X fo σ Q) X.xe s
def TruR (X:Cx) (r:V->Hp->(Bool->Hp->Prop)->Prop):Prop :=
 ∀ fo s σ H (x:V) (v:Value) (Q:Bool->Hp->Prop),Inv X fo σ H s->RelV x v->r x H Q ->
  wpAny (a:) X.A (truthy v) (TP X fo σ Q) X.xe s
def tOp (r:R2) (ta tb:TE):TE:=λσ H Q=>ta σ H λx H1=>tb σ H1 λy H2=>r x y H2 Q
def tUn (r:V->Hp->VK->Prop) (ta:TE):TE:=λσ H Q=>ta σ H λx H1=>r x H1 Q
def rI (C:Int->Int->Prop) (g:Int->Int->V):R2:=λx y H Q=>∃ i j,x=.int i/\y=.int j/\C i j/\Q (g i j) H
def rI0 (g:Int->Int->V):R2:=λx y H Q=>∃ i j,x=.int i/\y=.int j/\Q (g i j) H
def rU (g:Int->V):V->Hp->VK->Prop:=λx H Q=>∃ i,x=.int i/\Q (g i) H
section
variable {X:Cx} {a b c:Expr} {ta tb tc:TE} {pos:Pos}
def binT (ha:PE X a ta) (hb:PE X b tb) {fo:List (Addr × Obj)} {s:Shared} {σ:St} {H:Hp} {R:V->V->Hp->Prop} (I:Inv X fo σ H s)
  (h:ta σ H λx H1=>tb σ H1 λy H2=>R x y H2) {Q:Value->Shared->Prop} {f:Value->Value->Sem Value}
  (hf:∀ v u s2 x y H2,Inv X fo σ H2 s2->RelV x v->RelV y u->R x y H2->wpAny (a:) X.A (f v u) Q X.xe s2) :
  wpAny (a:) X.A (eval a X.env) (λv s₁=>wpAny (a:) X.A (eval b X.env) (λu s₂=>wpAny (a:) X.A (f v u) Q X.xe s₂) X.xe s₁) X.xe s:=by
 refine thn (ha fo s σ H _ I h) λv s1 gc=>?_;obtain ⟨x,H1,I1,r1,q1⟩:=gc;refine thn (hb fo s1 σ H1 _ I1 q1) λu s2 gc=>?_;obtain ⟨y,H2,I2,r2,q2⟩:=gc;exact hf v u s2 x y H2 I2 r1 r2 q2
def Zi (ho:OpR X (binaryOp op) r) (ha:PE X a ta) (hb:PE X b tb):PE X (.BinOp a op b pos) (tOp r ta tb):=by
 intro fo s σ H Q I h;exact wpAny_BinOp (binT ha hb I h λv u s2 x y H2 I2 rx ry q=>ho fo s2 σ H2 x y v u Q I2 rx ry q)
def Zov {op:UnaryOp} {r:V->Hp->VK->Prop} (ho:UnR X (unaryOp op) r) (ha:PE X a ta):PE X (.UnaryOp op a pos) (tUn r ta):=by
 intro fo s σ H Q I h;refine UnaryOp_ (thn (ha fo s σ H _ I h) λv s1 gc=>?_);obtain ⟨x,H1,I1,r1,q1⟩:=gc;exact ho fo s1 σ H1 x v Q I1 r1 q1
def opI {g:Int->Int->Int}
  (rule:∀ (i j:Int) (t u:Tok) (s:Shared) (Q:Value->Shared->Prop) (E:Value->Shared->Prop),C i j->Q (.int (g i j) s.toks) { s with toks:=s.toks + 1 }->wpAny (a:) X.A (f (.int i t) (.int j u)) Q E s) :
  OpR X f (rI C λi j=>.int (g i j)):=by
 intro fo s σ H x y v u Q I rx ry h;obtain ⟨i,j,rfl,rfl,hc,q⟩:=h;obtain ⟨t,rfl⟩:=rx;obtain ⟨t',rfl⟩:=ry;exact rule i j t t' s _ _ hc ⟨.int (g i j),H,I.tok _,⟨_,Y⟩,q⟩
def opI0 {g:Int->Int->Int}
  (rule:∀ (i j:Int) (t u:Tok) (s:Shared) (Q:Value->Shared->Prop) (E:Value->Shared->Prop),Q (.int (g i j) s.toks) { s with toks:=s.toks + 1 }->wpAny (a:) X.A (f (.int i t) (.int j u)) Q E s) :
  OpR X f (rI0 λi j=>.int (g i j)):=by
 intro fo s σ H x y v u Q I rx ry h;obtain ⟨i,j,rfl,rfl,q⟩:=h;obtain ⟨t,rfl⟩:=rx;obtain ⟨t',rfl⟩:=ry;exact rule i j t t' s _ _ ⟨.int (g i j),H,I.tok _,⟨_,Y⟩,q⟩
def opB0 {g:Int->Int->Bool}
  (rule:∀ (i j:Int) (t u:Tok) (s:Shared) (Q:Value->Shared->Prop) (E:Value->Shared->Prop),Q (.bool (g i j)) s->wpAny (a:) X.A (f (.int i t) (.int j u)) Q E s) :
  OpR X f (rI0 λi j=>.bl (g i j)):=by
 intro fo s σ H x y v u Q I rx ry h;obtain ⟨i,j,rfl,rfl,q⟩:=h;obtain ⟨t,rfl⟩:=rx;obtain ⟨t',rfl⟩:=ry;exact rule i j t t' s _ _ ⟨.bl (g i j),H,I,Y,q⟩
def CDiv (i j:Int):Prop:=0 < j/\j < 1073741824
def CPow (i j:Int):Prop:=0<=j/\j<=1000000/\i.natAbs < 2 ^ 64
def CMul (i j:Int):Prop:=(-(2 ^ 64) < i/\i < 2 ^ 64)\/(-(2 ^ 64) < j/\j < 2 ^ 64)
def CMul.ok {i j:Int} (h:CMul i j):IntMulOk i j:=by
 rcases h with ⟨h1,h2⟩ | ⟨h1,h2⟩
 ·exact .of_left (intBits_le_64 h1 h2)
 ·exact .of_right (intBits_le_64 h1 h2)
def Z8:OpR X (binaryOp .Add) (rI0 λi j=>.int (i + j)):=opI0 λ_ _ _ _ _ _ _ q=>add_int q
def Xk:OpR X (binaryOp .Sub) (rI0 λi j=>.int (i - j)):=opI0 λ_ _ _ _ _ _ _ q=>sub_int q
def X9:OpR X (binaryOp .Mult) (rI CMul λi j=>.int (i * j)):=opI λ_ _ _ _ _ _ _ hc q=>mul_int q hc.ok
def Ys:OpR X (binaryOp .FloorDiv) (rI CDiv λi j=>.int (i / j)):=opI λi j _ _ _ _ _ hc q=>by
 have h1:(0:Int) < j:=hc.1;have h2:j < 1073741824:=hc.2;exact floordiv_int (by lia) (by rw [Int.fdiv_eq_ediv_of_nonneg i (by lia)]; exact q) (.inl (PyProof.noPylong_small (by lia)))
def Zz:OpR X (binaryOp .Mod) (rI (λ_ j=>0 < j) λi j=>.int (i % j)):=opI λi j _ _ _ _ _ hc q=>by
 have h1:(0:Int) < j:=hc;exact mod_int' (by lia) (by rw [Int.fmod_eq_emod_of_nonneg i (by lia)]; exact q)
def Znq:OpR X (binaryOp .Pow) (rI CPow λi j=>.int (i ^ j.toNat)):=opI λ_ _ _ _ _ _ _ hc q=>pow_int_small hc.1 hc.2.1 hc.2.2 q
def unI {g:Int->Int}
  (rule:∀ (i:Int) (t:Tok) (s:Shared) (Q:Value->Shared->Prop) (E:Value->Shared->Prop),Q (.int (g i) s.toks) { s with toks:=s.toks + 1 }->wpAny (a:) X.A (f (.int i t)) Q E s) :
  UnR X f (rU λi=>.int (g i)):=by
 intro fo s σ H x v Q I rx h;obtain ⟨i,rfl,q⟩:=h;obtain ⟨t,rfl⟩:=rx;exact rule i t s _ _ ⟨.int (g i),H,I.tok _,⟨_,Y⟩,q⟩
def Zmt:UnR X (unaryOp .USub) (rU λi=>.int (-i)):=unI λ_ _ _ _ _ q=>neg_int q
def scal:V->V->Bool
 | .non,.non=>true | .non,.int _=>true | .int _,.non=>true | .non,.bl _=>true | .bl _,.non=>true | .non,.str _=>true | .str _,.non=>true
 | .int _,.int _=>true | .bl _,.bl _=>true | .str _,.str _=>true | .byt _,.byt _=>true
 | .int _,.str _=>true | .str _,.int _=>true | .bl _,.str _=>true | .str _,.bl _=>true
 | _,_=>false
def rEq:R2:=λx y H Q=>scal x y=true/\Q (.bl (decide (x=y))) H
def rNe:R2:=λx y H Q=>scal x y=true/\Q (.bl (!decide (x=y))) H
def Zeq:decide (V.int i=V.int j)=(i == j):=by
 rw [Bool.eq_iff_iff];simp
def Zh9:decide (V.bl i=V.bl j)=(i == j):=by
 rw [Bool.eq_iff_iff];simp
def Zep:decide (V.str i=V.str j)=(i == j):=by
 rw [Bool.eq_iff_iff];simp
def Zer {i j:Array UInt8}:decide (V.byt i=V.byt j)=(i.toList == j.toList):=by
 rw [Bool.eq_iff_iff];cases i;cases j;simp
def Z1 (I:Inv X fo σ H s) (q:Q (.bl k) H) (e:k=k'):EP X fo σ Q (.bool k') s:=by
 subst e;exact ⟨.bl k,H,I,Y,q⟩
def Xc:OpR X (compareOp .Eq) rEq:=by
 intro fo s σ H x y v u Q I rx ry h;obtain ⟨hs,q⟩:=h
 cases x with
 | non =>
  cases rx
  cases y with
  | non=>cases ry; exact PySem.EqNone.eq_none_none (Z1 I q (by simp))
  | bl j=>cases ry; exact PySem.EqNone.eq_none_bool (Z1 I q (by simp))
  | int j=>obtain ⟨t',rfl⟩:=ry; exact PySem.EqNone.eq_none_int (Z1 I q (by simp))
  | str j=>obtain ⟨t',rfl⟩:=ry; exact PySem.EqNone.eq_none_str (Z1 I q (by simp))
  | _=>exact absurd (show false=true from hs) Bool.false_ne_true
 | bl i =>
  cases rx
  cases y with
  | non=>cases ry; exact PySem.EqNone.eq_bool_none (Z1 I q (by simp))
  | bl j=>cases ry; exact eq_bool (Z1 I q Zh9)
  | str j=>obtain ⟨t',rfl⟩:=ry; exact PySem.EqMixed.eq_bool_str (Z1 I q (by simp))
  | _=>exact absurd (show false=true from hs) Bool.false_ne_true
 | int i =>
  obtain ⟨t,rfl⟩:=rx
  cases y with
  | non=>cases ry; exact PySem.EqNone.eq_int_none (Z1 I q (by simp))
  | int j=>obtain ⟨t',rfl⟩:=ry; exact eq_int (Z1 I q Zeq)
  | str j=>obtain ⟨t',rfl⟩:=ry; exact PySem.EqMixed.eq_int_str (Z1 I q (by simp))
  | _=>exact absurd (show false=true from hs) Bool.false_ne_true
 | str i =>
  obtain ⟨t,rfl⟩:=rx
  cases y with
  | non=>cases ry; exact PySem.EqNone.eq_str_none (Z1 I q (by simp))
  | bl j=>cases ry; exact PySem.EqMixed.eq_str_bool (Z1 I q (by simp))
  | int j=>obtain ⟨t',rfl⟩:=ry; exact PySem.EqMixed.eq_str_int (Z1 I q (by simp))
  | str j=>obtain ⟨t',rfl⟩:=ry; exact eq_str (Z1 I q Zep)
  | _=>exact absurd (show false=true from hs) Bool.false_ne_true
 | byt i =>
  obtain ⟨t,rfl⟩:=rx
  cases y with
  | byt j=>obtain ⟨t',rfl⟩:=ry; exact PySem.W.eq_bytes (Z1 I q Zer)
  | _=>exact absurd (show false=true from hs) Bool.false_ne_true
 | _=>cases y <;> exact absurd (show false=true from hs) Bool.false_ne_true
def Qy:OpR X (compareOp .NotEq) rNe:=by
 intro fo s σ H x y v u Q I rx ry h;obtain ⟨hs,q⟩:=h
 cases x with
 | non =>
  cases rx
  cases y with
  | non=>cases ry; exact PySem.EqNone.ne_none_none (Z1 I q (by simp))
  | bl j=>cases ry; exact PySem.EqNone.ne_none_bool (Z1 I q (by simp))
  | int j=>obtain ⟨t',rfl⟩:=ry; exact PySem.EqNone.ne_none_int (Z1 I q (by simp))
  | str j=>obtain ⟨t',rfl⟩:=ry; exact PySem.EqNone.ne_none_str (Z1 I q (by simp))
  | _=>exact absurd (show false=true from hs) Bool.false_ne_true
 | bl i =>
  cases rx
  cases y with
  | non=>cases ry; exact PySem.EqNone.ne_bool_none (Z1 I q (by simp))
  | bl j=>cases ry; exact ne_bool (Z1 I q (congrArg not Zh9))
  | str j=>obtain ⟨t',rfl⟩:=ry; exact PySem.EqMixed.ne_bool_str (Z1 I q (by simp))
  | _=>exact absurd (show false=true from hs) Bool.false_ne_true
 | int i =>
  obtain ⟨t,rfl⟩:=rx
  cases y with
  | non=>cases ry; exact PySem.EqNone.ne_int_none (Z1 I q (by simp))
  | int j=>obtain ⟨t',rfl⟩:=ry; exact ne_int (Z1 I q (congrArg not Zeq))
  | str j=>obtain ⟨t',rfl⟩:=ry; exact PySem.EqMixed.ne_int_str (Z1 I q (by simp))
  | _=>exact absurd (show false=true from hs) Bool.false_ne_true
 | str i =>
  obtain ⟨t,rfl⟩:=rx
  cases y with
  | non=>cases ry; exact PySem.EqNone.ne_str_none (Z1 I q (by simp))
  | bl j=>cases ry; exact PySem.EqMixed.ne_str_bool (Z1 I q (by simp))
  | int j=>obtain ⟨t',rfl⟩:=ry; exact PySem.EqMixed.ne_str_int (Z1 I q (by simp))
  | str j=>obtain ⟨t',rfl⟩:=ry; exact ne_str (Z1 I q (congrArg not Zep))
  | _=>exact absurd (show false=true from hs) Bool.false_ne_true
 | byt i =>
  obtain ⟨t,rfl⟩:=rx
  cases y with
  | byt j=>obtain ⟨t',rfl⟩:=ry; exact PySem.W.ne_bytes (Z1 I q (congrArg not Zer))
  | _=>exact absurd (show false=true from hs) Bool.false_ne_true
 | _=>cases y <;> exact absurd (show false=true from hs) Bool.false_ne_true
def Jv:OpR X (compareOp .Lt) (rI0 λi j=>.bl (decide (i < j))):=opB0 λ_ _ _ _ _ _ _ q=>lt_int q
def Zow:OpR X (compareOp .LtE) (rI0 λi j=>.bl (decide (i<=j))):=opB0 λ_ _ _ _ _ _ _ q=>le_int q
def Qa:OpR X (compareOp .Gt) (rI0 λi j=>.bl (decide (j < i))):=opB0 λ_ _ _ _ _ _ _ q=>gt_int q
def Zkq:OpR X (compareOp .GtE) (rI0 λi j=>.bl (decide (j<=i))):=opB0 λ_ _ _ _ _ _ _ q=>ge_int q
def Zns:OpR X (compareOp .Is) (λx y H Q=>y=.non/\Q (.bl (decide (x=.non))) H):=by
 intro fo s σ H x y v u Q I rx ry h;obtain ⟨rfl,q⟩:=h;cases ry;refine is_none_gen (Z1 I q ?_)
 cases x <;> first
  | (cases rx; rfl)
  | (obtain ⟨t,rfl⟩:=rx; rfl)
def Qi:OpR X (compareOp .IsNot) (λx y H Q=>y=.non/\Q (.bl (!decide (x=.non))) H):=by
 intro fo s σ H x y v u Q I rx ry h;obtain ⟨rfl,q⟩:=h;cases ry;refine isnot_none_gen (Z1 I q ?_)
 cases x <;> first
  | (cases rx; rfl)
  | (obtain ⟨t,rfl⟩:=rx; rfl)
def Zt (b:Expr) (h:op≠.In:=by decide) (h2:op≠.NotIn:=by decide):behindInMarks op b=false:=by
 have e1:(op == CmpOp.In)=false:=by cases op <;> first | rfl | exact absurd Y h
 have e2:(op == CmpOp.NotIn)=false:=by cases op <;> first | rfl | exact absurd Y h2
 cases b <;> simp [behindInMarks,e1,e2]
def Vd (ho:OpR X (compareOp op) r) (ha:PE X a ta) (hb:PE X b tb) (hm:behindInMarks op b=false):PE X (.Compare a [op] [b] pos) (tOp r ta tb):=by
 intro fo s σ H Q I h;exact wpAny_Compare1 (binT ha hb I h λv u s2 x y H2 I2 rx ry q=>ho fo s2 σ H2 x y v u Q I2 rx ry q) hm
def Zod (t:TE):TT:=λσ H Q=>t σ H λx H'=>∃ k,x=.bl k/\Q k H'
def Zq {op:CmpOp} {r:R2} (ho:OpR X (compareOp op) r) (ha:PE X a ta) (hb:PE X b tb) (hm:behindInMarks op b=false):PT X (.Compare a [op] [b] pos) (Zod (tOp r ta tb)):=by
 intro fo s σ H Q I h;refine wpAny_isTrue_Compare1 (thn (ha fo s σ H _ I h) λv s1 ⟨x,H1,I1,r1,q1⟩=>thn (hb fo s1 σ H1 _ I1 q1) λu s2 ⟨y,H2,I2,r2,q2⟩ =>
  thn (ho fo s2 σ H2 x y v u _ I2 r1 r2 q2) λc s3 ⟨z,H3,I3,r3,k,e,q3⟩=>?_) hm
 subst e;cases r3;exact wpAny_truthy_bool ⟨H3,I3,q3⟩
def Zm6 (r r':R2) (ta tb tc:TE):TE:=λσ H Q=>ta σ H λx H1=>tb σ H1 λy H2=>r x y H2 λz H3=>∃ k,z=.bl k /\
 (if k=true then tc σ H3 λw' H4=>r' y w' H4 Q else Q (.bl false) H3)
def Zjg {op op':CmpOp} {r r':R2} (ho:OpR X (compareOp op) r) (mf:OpR X (compareOp op') r') (ha:PE X a ta) (hb:PE X b tb) (hc:PE X c tc)
  (hm:lastMarks [op,op'] [b,c]=false:=by with_unfolding_all rfl):PE X (.Compare a [op,op'] [b,c] pos) (Zm6 r r' ta tb tc):=by
 intro fo s σ H Q I h;refine Compare_chain (thn (ha fo s σ H _ I h) λv s1 ⟨x,H1,I1,r1,q1⟩=>chain_link (thn (hb fo s1 σ H1 _ I1 q1) λu s2 ⟨y,H2,I2,r2,q2⟩ =>
  thn (ho fo s2 σ H2 x y v u _ I2 r1 r2 q2) λd s3 ⟨z,H3,I3,r3,k,e,q3⟩=>?_)) hm
 subst e;cases r3;refine wpAny_truthy_bool ?_
 cases k with
 | false=>exact ite_ff ⟨.bl false,H3,I3,Y,q3⟩
 | true=>exact ite_tt (chain_last (thn (hc fo s3 σ H3 _ I3 q3) λw' s4 ⟨z',H4,I4,r4,q4⟩=>mf fo s4 σ H4 y z' u w' Q I4 r2 r4 q4))
def TruV (K:W.Frag) (x:V) (H:Hp) (k:Bool):Prop :=
 match x with
 | .non=>k=false
 | .bl b=>k=b
 | .int i=>k=(i != 0)
 | .str y=>y.length<=sizeLine/\k=((y.length:Int) != 0)
 | .byt y=>y.size<=sizeLine/\k=((y.size:Int) != 0)
 | .ref p=>(∃ xs,SqL K H p xs/\k=!xs.isEmpty)\/(∃ xs,SqT K H p xs/\k=!xs.isEmpty)\/∃ kvs,H p=some (.dK kvs)/\k=!kvs.isEmpty
 | _=>False
def Zfy {κ:Type} {kvs:List (κ × V)} {vs:List (κ × Value)} (r:KV kvs vs):(!vs.isEmpty)=!kvs.isEmpty:=by
 cases r <;> rfl
def K7 {xs:List V} {its:List Value} (r:Vals xs its):(!its.toArray.isEmpty)=!xs.isEmpty:=by
 cases r <;> simp
def Vg:(sizeLine:Nat) < 2 ^ 63:=by rw [sizeLine_eq]; decide
def Zmw:TruR X (λx H Q=>∃ k,TruV X.K x H k/\Q k H):=by
 intro fo s σ H x v Q I rx h;obtain ⟨k,e,q⟩:=h;have hl:=Vg;have hs:sizeLine=16777216:=sizeLine_eq
 cases x with
 | non =>
  cases rx;have e':k=false:=e;subst e';exact truthy_none ⟨H,I,q⟩
 | bl b =>
  cases rx;have e':k=b:=e;subst e';exact wpAny_truthy_bool ⟨H,I,q⟩
 | int i =>
  obtain ⟨t,rfl⟩:=rx;have e':k=(i != 0):=e;subst e';exact PySem.P.truthy_int ⟨H,I,q⟩
 | str y =>
  obtain ⟨t,rfl⟩:=rx;obtain ⟨hy,e'⟩:y.length<=sizeLine/\k=((y.length:Int) != 0):=e;subst e';exact PySem.P.truthy_str (by lia) ⟨H,I.tok _,q⟩
 | byt y =>
  obtain ⟨t,rfl⟩:=rx;obtain ⟨hy,e'⟩:y.size<=sizeLine/\k=((y.size:Int) != 0):=e;subst e';exact PySem.W.truthy_bytes (by lia) ⟨H,I.tok _,q⟩
 | ref p =>
  cases rx;have e':(∃ xs,SqL X.K H p xs/\k=!xs.isEmpty)\/(∃ xs,SqT X.K H p xs/\k=!xs.isEmpty)\/∃ kvs,H p=some (.dK kvs)/\k=!kvs.isEmpty:=e
  rcases e' with ⟨xs,hx,e'⟩ | ⟨xs,hx,e'⟩ | ⟨kvs,hx,e'⟩
  ·subst e'
   obtain ⟨its,r,pl,hz⟩:=I.list hx;have fw:=r.length;exact wpAny_truthy_list pl.isList (by simp only [Aq]; lia) ⟨H,I.tok _,by rw [K7 r]; exact q⟩
  ·subst e'
   obtain ⟨its,r,pl,hz⟩:=I.tuple hx;have fw:=r.length;exact truthy_tuple pl (by simp only [Aq]; lia) ⟨H,I.tok _,by rw [K7 r]; exact q⟩
  ·subst e'
   obtain ⟨hz,hS,vs,r,m⟩:kvs.length<=sizeLine/\(p == sysModules)=false/\∃ vs,KV kvs vs/\s.heap.DictOf (Z4 X.prog X.w) p vs:=I.hok p _ hx;have fw:kvs.length=vs.length:=Paired.length r;exact wpAny_truthy_dict hS m (by lia) ⟨H,I.tok _,by rw [Zfy r]; exact q⟩
 | _=>exact (show False from e).elim
def O0 (ha:PE X a ta) (he:∀ jf,isTrue a X.env jf=(do let v <- jf; standAt a.pos; holding [v] (truthy v))) :
  PT X a (λσ H Q=>ta σ H λx H'=>∃ k,TruV X.K x H' k/\Q k H'):=by
 intro fo s σ H Q I h;refine isTrue_plain (thn (ha fo s σ H _ I h) λv s1 zz10=>?_) (he _);obtain ⟨x,H1,I1,r1,q1⟩:=zz10;exact Zmw fo s1 σ H1 x v Q I1 r1 q1
def Xr (r:Vals [x] us):∃ u,us=[u]/\RelV x u:=by
 cases r with
 | cons r1 r2=>cases r2; exact ⟨_,Y,r1⟩
def Zob (r:Vals [x,y] us):∃ u w',us=[u,w']/\RelV x u/\RelV y w':=by
 cases r with
 | cons r1 r2 =>
  cases r2 with
  | cons r3 r4=>cases r4; exact ⟨_,_,Y,r1,r3⟩
end
structure ObjM (h:Heap) (x dx C:Addr) (mA:Str->Option Value):Prop where
 obj:h.get? x=some (PySem.W.instObj C dx)
 ns:h.Ns1 dx mA
 ne:dx≠x
def Zht {h:Heap} (n:h.Ns1 dx mA):∃ od,h.get? dx=some od/\∀ name,PySem.W.lookIn name od=some (mA name):=by
 obtain ⟨o,es,ep,ho,hd,hk,_,hm⟩:=n;refine ⟨o,ho,λname=>?_⟩;have e:=hm name;unfold nsFind findBy at e;rw [<- Array.find?_toList] at e;unfold PySem.W.lookIn;rw [hd];dsimp only;split
 ·rename_i y q
  rw [q] at e;exact congrArg some e
 ·rename_i q
  rw [q] at e;have a:es.toList.any (·.refKey)=false:=by
   rw [any_eq_false]
   intro y hy
   obtain ⟨z,t,kj⟩:=hk y (Array.mem_toList_iff.mp hy)
   simp [DictEntry.refKey,kj]
  have a':¬ es.toList.any (·.refKey)=true:=by rw [a]; exact Bool.false_ne_true
  rw [if_neg a'];exact congrArg some e
def ObjM.look (I:ObjM h x dx C mA):∃ od,PySem.W.InstAt h x (PySem.W.instObj C dx) C (some od)/\∀ name,PySem.W.lookIn name od=some (mA name) :=
 let ⟨od,ho,hl⟩:=Zht I.ns
 ⟨od,⟨I.obj,rfl,rfl,ho⟩,hl⟩
section
variable {prog:Program} {w:World} {A:Around} {E:Value->Shared->Prop} {s:Shared} {K:W.Frag} {x dx C f:Addr} {mA:Str->Option Value} {name:Str} {v:Value}
def Zmc (X:K.In s.heap) (I:ObjM s.heap x dx C mA) (hg:PySem.W.plainGet K C name=true) (hh:PySem.W.hasDictIn K C=true)
  (ha:PySem.W.findIn K (.ref C) name=some none) (hv:mA name=some v) (ze:PySem.W.handedIn v=true) (h:Q v { s with toks:=s.toks + 1 }) :
  wpAny (d:) A (getAttr (.ref x) name expr) Q E s:=by
 obtain ⟨od,J,hl⟩:=I.look;exact PySem.W.get_value X J (PySem.W.plainGet_of hg).1 (PySem.W.findObj_own hh ha Y (by rw [hl,hv])) ze h
def Zj5 (X:K.In s.heap) (I:ObjM s.heap x dx C mA) (hg:PySem.W.plainGet K C name=true)
  (hf:PySem.W.findIn K (.ref C) name=some (some (.ref f))) (ht:PySem.W.isFn K (.ref f)=true) (hv:mA name=none) (h:Q (.ref f,[.ref x]) s) :
  wpAny (d:) A (getMethod (.ref x) name pl) Q E s:=by
 obtain ⟨od,J,hl⟩:=I.look;exact PySem.W.method_fn X J (PySem.W.plainGet_of hg).1 (PySem.W.plainGet_of hg).2 hf (beq_iff_eq.mp ht) (by show (PySem.W.lookIn name od).map (·.isSome)=some false; rw [hl,hv]; rfl) h
def Zlg {ns:List Str} (X:K.In s.heap) (I:ObjM s.heap x dx C mA)
  (hs:PySem.W.findIn K (.ref C) "__setattr__"=some (some (.builtin "object.__setattr__"))) (hp:PySem.W.plainOver K C=true) (ht:PySem.W.takerIn K C name=some none) (hh:PySem.W.hasDictIn K C=true)
  (hw:PySem.Within mA ns) (hsz:ns.length<=sizeLine)
  (h:∀ h',ObjM h' x dx C (λy=>if y=name then some v else mA y)->Heap.SameBut dx s.heap h'->Q () { s with heap:=h',toks:=s.toks + 2 }) :
  wpAny (d:) A (setAttr (.ref x) name v) Q E s:=by
 obtain ⟨od,J,hl⟩:=I.look;refine PySem.W.set_plain X J hs (PySem.W.osa_open (s:={ s with toks:=s.toks + 1 }) (r:=none) X J hp ht λb=>?_);obtain ⟨cd,hc,hd'⟩:=PySem.W.any_some hh;have hx:s.heap.get? x=some ⟨.ref C,some dx,.plain,#[]⟩:=I.obj;refine Al (wpAny_pure (Al (Al (wpAny_loadPart hx (Al (PySem.W.Looks.here (s:={ s with toks:=s.toks + 1 }) (PySem.W.looks_clsIn X hc) ?_))))));rw [hd'];refine wpAny_pure (a:=some dx) (Al (wpAny_pure (Al ?_)));refine wpAny_nsSet1 (s:={ s with toks:=s.toks + 1 }) I.ns λh' zp ju=>?_;obtain ⟨oD,esD,epD,hoD,hdD,hcD⟩:=zp.count (PySem.Within.cons name v hw);refine Al (wpAny_lookBehind hoD (by rw [hdD]; exact pastItsLine_dict (Nat.le_trans hcD (by rw [length_cons]; lia))) ?_);exact wpAny_pure (h _ ⟨(ju.2 _ (Ne.symm I.ne)).trans I.obj,zp,I.ne⟩ ju)
def Zjt {vs:List Value} {kw:List (Str × Value)} (X:K.In s.heap) (hm:PySem.W.makesIn K C=true)
  (hi:PySem.W.findIn K (.ref C) "__init__"=some (some (.ref f))) (hf:PySem.W.typeIn K (.ref f)=some (.type "function"))
  (h:codeAny (d:) (A.under (.builtin "type.__call__" ⟨.ref C :: vs,kw⟩)) (.call (.ref f) ⟨.ref (s.heap.objs.size + 1) :: vs,kw⟩) (PySem.W.InitBack (s.heap.objs.size + 1) R)
   { s with heap:=(s.heap.push PySem.W.emptyDict).push (PySem.W.instObj C s.heap.objs.size) }) :
  codeAny (d:) A (.call (.ref C) ⟨vs,kw⟩) R s:=by
 obtain ⟨hh,g,d,t,os⟩:=s;exact PySem.W.make_core (PySem.W.makes_of X hm) (PySem.W.looks_findIn X hi) (λself=>PySem.W.bind_fn X self hf) (.inl Y) h
end
def putF (f:Str) (v:V):List (Str × V)->List (Str × V)
 | []=>[(f,v)]
 | (g,x) :: r=>if g=f then (g,v) :: r else (g,x) :: putF f v r
theorem Zw (f g:Str) (v:V):∀ fs:List (Str × V),(putF f v fs).lookup g=if g=f then some v else fs.lookup g
 | []=>by
  show List.lookup g [(f,v)]=_;by_cases h:g=f
  ·have hb:(g == f)=true:=beq_iff_eq.mpr h
   simp only [List.lookup,hb,if_pos h]
  ·have hb:(g == f)=false:=beq_eq_false_iff_ne.mpr h
   simp only [List.lookup,hb,if_neg h]
 | (k,x) :: r=>by
  have ih:=Zw f g v r;rw [show putF f v ((k,x) :: r)=(if k=f then (k,v) :: r else (k,x) :: putF f v r) from rfl];by_cases hk:k=f
  ·rw [if_pos hk]
   by_cases h:g=k
   ·have hb:(g == k)=true:=beq_iff_eq.mpr h
    simp only [List.lookup,hb,if_pos (h.trans hk)]
   ·have hb:(g == k)=false:=beq_eq_false_iff_ne.mpr h
    simp only [List.lookup,hb,if_neg (λe:g=f=>h (e.trans hk.symm))]
  ·rw [if_neg hk]
   by_cases h:g=k
   ·have hb:(g == k)=true:=beq_iff_eq.mpr h
    simp only [List.lookup,hb,if_neg (λe:g=f=>hk (h.symm.trans e))]
   ·have hb:(g == k)=false:=beq_eq_false_iff_ne.mpr h
    simp only [List.lookup,hb];exact ih
theorem Uw (f:Str) (v:V):∀ fs:List (Str × V),f∈(putF f v fs).map (·.1)/\∀ g,g∈fs.map (·.1)->g∈(putF f v fs).map (·.1)
 | []=>⟨by simp [putF],λg h=>by simp at h⟩
 | (k,x) :: r=>by
  obtain ⟨i1,i2⟩:=Uw f v r;rw [show putF f v ((k,x) :: r)=(if k=f then (k,v) :: r else (k,x) :: putF f v r) from rfl];by_cases hk:k=f
  ·rw [if_pos hk]
   subst hk;exact ⟨by simp,λg h=>by simpa using h⟩
  ·rw [if_neg hk]
   refine ⟨?_,λg h=>?_⟩
   ·rw [map_cons]
    exact mem_cons_of_mem _ i1
   ·rw [map_cons] at h ⊢
    rcases Ar h with e | e
    ·exact mem_cons.mpr (.inl e)
    ·exact mem_cons_of_mem _ (i2 g e)
theorem Ou (f:Str) (v:V):∀ fs:List (Str × V),(putF f v fs).length<=fs.length + 1
 | []=>by simp [putF]
 | (k,x) :: r=>by
  have ih:=Ou f v r;rw [show putF f v ((k,x) :: r)=(if k=f then (k,v) :: r else (k,x) :: putF f v r) from rfl];by_cases hk:k=f
  ·rw [if_pos hk,length_cons,length_cons]; lia
  ·rw [if_neg hk,length_cons,length_cons]; lia
def RelO.some_of (r:RelO (some v) o):∃ u,o=some u/\RelV v u:=by
 cases o with
 | none=>exact (show False from r).elim
 | some u=>exact ⟨u,Y,r⟩
def RelO.none_of (r:RelO none o):o=none:=by
 cases o with
 | none=>rfl
 | some u=>exact (show False from r).elim
def Zh2 (r:RelV v u):PySem.W.handedIn u=true:=by
 cases v with
 | non=>cases (show u=Value.none from r); rfl
 | bl b=>cases (show u=Value.bool b from r); rfl
 | int i=>obtain ⟨t,e⟩:=(show ∃ t,u=Value.int i t from r); cases e; rfl
 | str x=>obtain ⟨t,e⟩:=(show ∃ t,u=Value.str x t from r); cases e; rfl
 | byt b=>obtain ⟨t,e⟩:=(show ∃ t,u=Value.bytes b t from r); cases e; rfl
 | flt b=>obtain ⟨t,e⟩:=(show ∃ t,u=Value.float b t from r); cases e; rfl
 | ref a=>cases (show u=Value.ref a from r); rfl
 | ty n=>cases (show u=Value.type n from r); rfl
section
variable {P:Program} {w:World} {H H':Hp} {h h':Heap} {a C dx:Addr} {fs fs':List (Str × V)}
def Oe (hok:HOk P w H h) (e:H a=some (.ins C dx fs)):∃ mA,ObjM h a dx C mA/\(∀ f,RelO (fs.lookup f) (mA f))/\PySem.Within mA (fs.map (·.1))/\fs.length<=1000/\H dx=some (.own a):=by
 obtain ⟨d,z,ne,ob,mA,n,r,q⟩:=(show Z3 P w H h a (.ins C dx fs) from hok a _ e);exact ⟨mA,⟨ob,n,ne⟩,r,q,z,d⟩
end
structure Cls (K:W.Frag) (C:Addr):Prop where
 pg:PySem.W.plainGet K C Str.empty=true
 hd:PySem.W.hasDictIn K C=true
 po:PySem.W.plainOver K C=true
 sa:PySem.W.findIn K (.ref C) "__setattr__"=some (some (.builtin "object.__setattr__"))
def Cls.get {K:W.Frag} {C:Addr} (c:Cls K C) (f:Str):PySem.W.plainGet K C f=true:=c.pg
def Ws (K:W.Frag) (C:Addr) (f:Str):Prop:=PySem.W.findIn K (.ref C) f=some none
def Ws.taker {K:W.Frag} {C:Addr} {f:Str} (n:Ws K C f):PySem.W.takerIn K C f=some none:=by
 unfold PySem.W.takerIn;rw [show PySem.W.findIn K (.ref C) f=some none from n];rfl
structure Meth (K:W.Frag) (C:Addr) (m:Str) (f:Addr):Prop where
 at_:PySem.W.findIn K (.ref C) m=some (some (.ref f))
 fn:PySem.W.isFn K (.ref f)=true
 kp:PySem.W.keepIn K (.ref f)=true
section
variable {X:Cx} {fo:List (Addr × Obj)} {σ:St} {H:Hp} {s:Shared} {a C dx:Addr} {fs:List (Str × V)} {f:Str} {v:V} {A:Around} {E:Value->Shared->Prop}
def Zf4 (I:Inv X fo σ H s) (e:H a=some (.ins C dx fs)) (c:Cls X.K C) (n:Ws X.K C f) (l:fs.lookup f=some v)
  (h:∀ u s',Inv X fo σ H s'->RelV v u->Q u s'):wpAny (a:) A (getAttr (.ref a) f b) Q E s:=by
 obtain ⟨mA,O,r,_,_,_⟩:=Oe I.hok e;obtain ⟨u,hu,ru⟩:=RelO.some_of (v:=v) (o:=mA f) (by rw [<- l]; exact r f);exact Zmc I.kIn O (c.get f) c.hd n hu (Zh2 ru) (h u _ (I.tok _) ru)
def V0 (I:Inv X fo σ H s) (e:H a=some (.ins C dx fs)) (c:Cls X.K C) (k:Meth X.K C m g) (l:fs.lookup m=none)
  (h:Q (.ref g,[.ref a]) s):wpAny (a:) A (getMethod (.ref a) m pl) Q E s:=by
 obtain ⟨mA,O,r,_,_,_⟩:=Oe I.hok e;have hn:mA m=none:=RelO.none_of (by rw [<- l]; exact r m);exact Zj5 I.kIn O (c.get m) k.at_ k.fn hn h
def Zfa (I:Inv X fo σ H s) (e:H a=some (.ins C dx fs)) (c:Cls X.K C) (n:Ws X.K C f) (hl:fs.length < 1000) (ry:RelV y u)
  (h:∀ s',Inv X fo σ (upd H a (.ins C dx (putF f y fs))) s'->Q () s'):wpAny (a:) A (setAttr (.ref a) f u) Q E s:=by
 obtain ⟨mA,O,r,wi,_,ho⟩:=Oe I.hok e;have hz:(fs.map (·.1)).length<=sizeLine:=by rw [Ab,sizeLine_eq]; lia
 refine Zlg I.kIn O c.sa c.po n.taker c.hd wi hz λh' O' sb=>h _ ?_;have hd:∃ o,h'.get? dx=some o:=let ⟨o,_,_,e',_⟩:=O'.ns; ⟨o,e'⟩
 refine I.write (x:=a) (e:=dx) (by rw [e]; exact True.intro) (.inr ho) (λb q hb z=>(sb.2 b hb).trans z) hd ?_;refine ⟨by rw [Ze O.ne]; exact ho,?_,O.ne,O'.obj,_,O'.ns,λg=>?_,λg hg=>?_⟩
 ·have:=Ou f y fs; lia
 ·show RelO ((putF f y fs).lookup g) (if g=f then some u else mA g)
  rw [Zw];by_cases q:g=f
  ·rw [if_pos q,if_pos q]; exact ry
  ·rw [if_neg q,if_neg q]; exact r g
 ·by_cases q:g=f
  ·rw [q]; exact (Uw f y fs).1
  ·refine (Uw f y fs).2 g (wi g λz=>hg ?_)
   show (if g=f then some u else mA g)=none;rw [if_neg q]; exact z
def Inv.made (I:Inv X fo σ H s):Inv X fo σ (upd (upd H s.heap.objs.size (.own (s.heap.objs.size + 1))) (s.heap.objs.size + 1) (.ins C s.heap.objs.size []))
  { s with heap:=(s.heap.push PySem.W.emptyDict).push (PySem.W.instObj C s.heap.objs.size) }:=by
 have e1:(s.heap.push PySem.W.emptyDict).get? s.heap.objs.size=some PySem.W.emptyDict:=Ap s.heap rfl;have e2:((s.heap.push PySem.W.emptyDict).push (PySem.W.instObj C s.heap.objs.size)).get? (s.heap.objs.size + 1)=some (PySem.W.instObj C s.heap.objs.size):=by
  have:=Ap (s.heap.push PySem.W.emptyDict) (o:=PySem.W.instObj C s.heap.objs.size) rfl
  rwa [Heap.size_push] at this
 have e3:(s.heap.push PySem.W.emptyDict).Ns s.heap.objs.size (λ_=>none):=⟨PySem.W.emptyDict,#[],_,e1,rfl,(λe he=>absurd he (by simp)),λ_=>rfl⟩;have I1:=I.laid (a:=s.heap.objs.size) (o:=.own (s.heap.objs.size + 1)) (h':=s.heap.push PySem.W.emptyDict) (t':=s.toks) (λb u q=>Ak _ q) (An _) ⟨_,e1⟩;refine I1.laid (a:=s.heap.objs.size + 1) (o:=.ins C s.heap.objs.size []) (t':=s.toks) (λb u q=>Ak _ q) (Nat.le_of_eq (Heap.size_push _ _)) ?_;have ne:s.heap.objs.size≠s.heap.objs.size + 1:=As (lt_succ_self _);refine ⟨by rw [Ze ne,Zc],Az _,ne,e2,λ_=>none,(Heap.Ns1.of_empty e3).at λo q=>Ak _ q,λ_=>True.intro,λy hy=>absurd Y hy⟩
def Zmo (hb:attributeBase e f env (eval e env)=eval e env)
  (h:wpAny (d:) A (eval e env) (λo s₁=>wpAny (d:) A (getAttr o f true) Q E s₁) E s):wpAny (d:) A (eval (.Attribute e f pos) env) Q E s :=
 Attribute_any_ h (by rw [arm_eval_Attribute,hb])
end
def tFld (K:W.Frag) (ta:TE) (f:Str):TE:=λσ H Q=>ta σ H λx H1=>∃ a C dx fs v,x=.ref a/\H1 a=some (.ins C dx fs)/\Cls K C/\Ws K C f/\fs.lookup f=some v/\Q v H1
def sFld (K:W.Frag) (ta tv:TE) (f:Str):TS:=λD σ H=>tv σ H λy H1=>ta σ H1 λx H2=>∃ a C dx fs,x=.ref a/\H2 a=some (.ins C dx fs)/\Cls K C/\Ws K C f/\fs.length < 1000 /\
 D.nx σ (upd H2 a (.ins C dx (putF f y fs)))
def InOp (X:Cx) (op:Operator) (rd:V->V->Hp->VK->Prop):Prop :=
 ∀ fo s σ H (x y:V) (u v:Value) (Q:VK),Inv X fo σ H s->RelV x u->RelV y v->rd x y H Q->wpAny (a:) X.A (inplaceOp op u v) (EP X fo σ Q) X.xe s
section
variable {X:Cx} {o e value:Expr} {f:Str} {pos iz ji:Pos} {ta tv:TE}
def X8 (he:PE X e ta) (hb:attributeBase e f X.env (eval e X.env)=eval e X.env):PE X (.Attribute e f pos) (tFld X.K ta f):=by
 intro fo s σ H Q I h;refine Zmo hb (thn (he fo s σ H _ I h) λu s1 gc=>?_);obtain ⟨x,H1,I1,rx,a,C,dx,fs,v,ex,ea,c,n,l,q⟩:=gc;subst ex;obtain rfl:u=Value.ref a:=rx;exact Zf4 I1 ea c n l λu' s2 I2 ru=>⟨v,H1,I2,ru,q⟩
def Ku (ha:PE X o ta) (hv:PE X value tv) (hs:swapsWith value (some (.Attribute o f iz)) pos.line X.env=pure false):PS X (.Assign [.Attribute o f iz] value pos) (sFld X.K ta tv f):=by
 intro fo s σ H D I h;refine plainObj_wpAny_Assign_Attribute (thn (hv fo s σ H _ I h) λu s1 zz11=>?_) hs;obtain ⟨y,H1,I1,ry,q⟩:=zz11;refine thn (ha fo s1 σ H1 _ I1 q) λov s2 zz12=>?_;obtain ⟨x,H2,I2,rx,a,C,dx,fs,ex,ea,c,n,l,q2⟩:=zz12;subst ex;obtain rfl:ov=Value.ref a:=rx;exact Zfa I2 ea c n l ry λs3 I3=>⟨σ,_,I3,q2⟩
def rAdd:V->V->Hp->VK->Prop:=λx y H Q=>∃ i j,x=.int i/\y=.int j/\Q (.int (i + j)) H
def Zn5:InOp X .Add rAdd:=by
 rintro fo s σ H x y u v Q I rx ry ⟨i,j,rfl,rfl,q⟩;obtain ⟨t,rfl⟩:=(show ∃ t,u=Value.int i t from rx);obtain ⟨t',rfl⟩:=(show ∃ t',v=Value.int j t' from ry);exact PyProof.Rows.iadd_int ⟨.int (i + j),H,I.tok _,⟨_,Y⟩,q⟩
end
section
variable {X:Cx} {fo:List (Addr × Obj)} {σ:St} {H:Hp} {s:Shared} {A:Around} {E:Value->Shared->Prop} {Q:Value->Shared->Prop} {c:Value} {b:Bool}
inductive TyOf (K:W.Frag) (H:Hp):V->Value->Prop where
 | non:TyOf K H .non (.type "NoneType")
 | bl (x:Bool):TyOf K H (.bl x) (.type "bool")
 | int (i:Int):TyOf K H (.int i) (.type "int")
 | str (x:Str):TyOf K H (.str x) (.type "str")
 | flt (x:UInt64):TyOf K H (.flt x) (.type "float")
 | lst {a:Addr} {xs:List V} (e:H a=some (.lst xs)):TyOf K H (.ref a) (.type "list")
 | frz {a:Addr} {o:Obj} {xs:List V} (e:H a=some (.frz o (.lst xs))):TyOf K H (.ref a) (.type "list")
 | tup {a:Addr} {xs:List V} (e:H a=some (.tup xs)):TyOf K H (.ref a) (.type "tuple")
 | dK {a:Addr} {kvs:List (Key × V)} (e:H a=some (.dK kvs)):TyOf K H (.ref a) (.type "dict")
 | dT {a:Addr} {kvs:List (List Key × V)} (e:H a=some (.dT kvs)):TyOf K H (.ref a) (.type "dict")
 | ins {a C dx:Addr} {fs:List (Str × V)} (e:H a=some (.ins C dx fs)) (cl:Cls K C) (ha:PySem.W.findIn K (.ref C) "__class__"=some (some (.builtin "object.__class__")))
   (hn:PySem.W.specialIn K (.builtin "object.__class__") "__get__"=some (some (.builtin "getset_descriptor.__get__"))) (htk:PySem.W.takesIn K (.builtin "object.__class__")=some true)
   (hm:PySem.W.mroIn K C (.type "object")=some true):TyOf K H (.ref a) (.ref C)
def Zhz (I:Inv X fo σ H s) (rx:RelV x u) (ty:TyOf X.K H x t) (e:PySem.W.kitOne X.K t c=some b) (h:∀ tk,Q (.bool b) { s with toks:=tk }) :
  wpAny (a:) A (call (.builtin "isinstance") [u,c]) Q E s:=by
 cases ty with
 | non=>cases (show u=Value.none from rx); exact PySem.W.kia_one PySem.W.kitx_none I.kIn True.intro e (λz=>nomatch z) h
 | bl y=>cases (show u=Value.bool y from rx); exact PySem.W.kia_one PySem.W.kitx_bool I.kIn True.intro e (λz=>nomatch z) h
 | int i=>obtain ⟨t,q⟩:=(show ∃ t,u=Value.int i t from rx); cases q; exact PySem.W.kia_one PySem.W.kitx_int I.kIn True.intro e (λz=>nomatch z) h
 | str y=>obtain ⟨t,q⟩:=(show ∃ t,u=Value.str y t from rx); cases q; exact PySem.W.kia_one PySem.W.kitx_str I.kIn True.intro e (λz=>nomatch z) h
 | flt y=>obtain ⟨t,q⟩:=(show ∃ t,u=Value.float y t from rx); cases q; exact PySem.W.kia_one PySem.W.kitx_float I.kIn True.intro e (λz=>nomatch z) h
 | @lst a xs ea =>
  cases (show u=Value.ref a from rx);obtain ⟨_,_,n,_,h1⟩:=(show Z3 X.prog X.w H s.heap a (.lst xs) from I.hok a _ ea);exact PySem.W.kia_one PySem.W.kitx_list I.kIn ⟨_,h1,Y⟩ e (λz=>nomatch z) h
 | @frz a ob xs ea =>
  cases (show u=Value.ref a from rx);obtain ⟨_,_,_,n,_,h1⟩:=(show Z3 X.prog X.w H s.heap a (.frz ob (.lst xs)) from I.hok a _ ea);exact PySem.W.kia_one PySem.W.kitx_list I.kIn ⟨_,h1,Y⟩ e (λz=>nomatch z) h
 | @tup a xs ea =>
  cases (show u=Value.ref a from rx);obtain ⟨_,_,_,p⟩:=(show Z3 X.prog X.w H s.heap a (.tup xs) from I.hok a _ ea);obtain ⟨o,h1,h2,_⟩:=p;exact PySem.W.kia_one PySem.W.kitx_tuple I.kIn ⟨o,h1,h2⟩ e (λz=>nomatch z) h
 | @dK a kvs ea =>
  cases (show u=Value.ref a from rx);obtain ⟨_,_,vs,_,p⟩:=(show Z3 X.prog X.w H s.heap a (.dK kvs) from I.hok a _ ea);obtain ⟨o,es,ep,h1,h2,_⟩:=p;exact PySem.W.kia_one PySem.W.kitx_dict I.kIn ⟨o,h1,h2.1⟩ e (λz=>nomatch z) h
 | @dT a kvs ea =>
  cases (show u=Value.ref a from rx);obtain ⟨_,_,xs,_,o,es,ep,h1,h2,_⟩:=(show Z3 X.prog X.w H s.heap a (.dT kvs) from I.hok a _ ea);exact PySem.W.kia_one PySem.W.kitx_dict I.kIn ⟨o,h1,h2.1⟩ e (λz=>nomatch z) h
 | @ins a C dx fs ea cl ha hn htk hm =>
  cases (show u=Value.ref a from rx);obtain ⟨mA,O,_⟩:=Oe I.hok ea;obtain ⟨od,J,_⟩:=O.look;exact PySem.W.kia_one (PySem.W.kitx_own (cl.get _) cl.hd ha hn htk hm) I.kIn J e (λz=>nomatch z) h
end
structure Room (k:Nat) (A:Around):Prop where
 hd:A.handled=none
 dp:A.depth + 3 * k + 5 < recursionLimit
 un:A.units + 16 * k + 200 < cLine
def Room.mono (r:Room k A) (h:j<=k):Room j A:=⟨r.hd,by have:=r.dp; lia,by have:=r.un; lia⟩
def Room.deeper {A:Around} (r:Room (k + 1) A) (env:Env):Room k (A.deeper env) :=
 ⟨r.hd,by have:=r.dp; show A.depth + 1 + 3 * k + 5 < _; lia,by have:=r.un; show A.units + 3 + 16 * k + 200 < _; lia⟩
def Zfq {A:Around} {us:List Value} {kw:List (Str × Value)}:(A.under (.builtin "type.__call__" ⟨.ref C :: us,kw⟩)).depth=A.depth + 1:=by
 first | rfl | simp [Around.under,Code.weight,Code.isCreation,Code.isGuard,Code.isCaller,Code.frames,Code.isFrame,guardIds]
def Zfp {A:Around} {us:List Value} {kw:List (Str × Value)}:(A.under (.builtin "type.__call__" ⟨.ref C :: us,kw⟩)).units=A.units + 1:=by
 first | rfl | simp [Around.under,Code.cUnits,Code.frames,Code.isFrame]
def Room.make {A:Around} (r:Room (k + 1) A) (C:Addr) (us:List Value) (kw:List (Str × Value)):Room k (A.under (.builtin "type.__call__" ⟨.ref C :: us,kw⟩)) :=
 ⟨r.hd,by have:=r.dp; rw [Zfq]; lia,by have:=r.un; rw [Zfp]; lia⟩
def Room.depth {A:Around} (r:Room k A):A.depth < recursionLimit:=by have:=r.dp; lia
def Room.units {A:Around} (r:Room k A):A.units + 64 < cLine:=by have:=r.un; lia
def tNil:TA:=λ_ H Q=>Q [] H
def Zom (ta:TE) (tr:TA):TA:=λσ H Q=>ta σ H λx H1=>tr σ H1 λxs H2=>Q (x :: xs) H2
section
variable {X:Cx} {e:Expr} {es:List Expr} {te:TE} {t:TA} {pos:Pos}
def Zb:PA X [] tNil:=λ_ _ _ _ H Q I h=>Calls.spliced_nil ⟨[],H,I,.nil,h⟩
def Za (ha:PE X e te) (hr:PA X es t) (hs:starEach (e :: es) X.env=(false,eval e X.env) :: starEach es X.env:=by rfl):PA X (e :: es) (Zom te t):=by
 intro pos fo s σ H Q I h;rw [hs];show wpAny _ _ (spliced ((false,eval e X.env) :: backTo pos (starEach es X.env))) _ _ s;refine Calls.spliced_cons (thn (ha fo s σ H _ I h) λu s1 gc=>?_);obtain ⟨x,H1,I1,r1,q1⟩:=gc;refine thn (hr pos fo s1 σ H1 _ I1 q1) λus s2 zz13=>?_;obtain ⟨xs,H2,I2,r2,q2⟩:=zz13;exact ⟨x :: xs,H2,I2,.cons r1 r2,q2⟩
def tTup (t:TA):TE:=λσ H Q=>t σ H λxs H1=>xs.length<=sizeLine/\∀ p,H1 p=none->Q (.ref p) (upd H1 p (.tup xs))
def tLst (t:TA):TE:=λσ H Q=>t σ H λxs H1=>xs.length<=sizeLine/\∀ p,H1 p=none->Q (.ref p) (upd H1 p (.lst xs))
def Wp {x1} (h:PA X es t):PE X (.Tuple es x1 pos) (tTup t):=by
 intro fo s σ H Q I hq;refine wpAny_Tuple_spliced (thn (h pos fo s σ H _ I hq) λus s1 uz=>?_);obtain ⟨xs,H1,I1,r,z,q⟩:=uz;refine ⟨by rw [<- r.length]; exact z,?_⟩;have hf:H1 s1.heap.objs.size=none:=I1.hok.fresh (An _);refine ⟨.ref s1.heap.objs.size,upd H1 s1.heap.objs.size (.tup xs),I1.laid (t':=s1.toks) (λb u e=>Ak _ e) (An _) ?_,Y,q _ hf⟩;exact ⟨z,us,r,⟨_,Ap _ Y,Y,_,Y⟩⟩
def Xj (h:PA X es t):PE X (.List es pos) (tLst t):=by
 intro fo s σ H Q I hq;refine wpAny_List_spliced (thn (h pos fo s σ H _ I hq) λus s1 uz=>?_);obtain ⟨xs,H1,I1,r,z,q⟩:=uz;refine ⟨by rw [<- r.length]; exact z,?_⟩;have hf:H1 s1.heap.objs.size=none:=I1.hok.fresh (An _);refine ⟨.ref s1.heap.objs.size,upd H1 s1.heap.objs.size (.lst xs),I1.laid (t':=s1.toks) (λb u e=>Ak _ e) (An _) ?_,Y,q _ hf⟩;exact ⟨z,us,0,r,Ap _ Y⟩
end
abbrev Sp:=List V->Hp->VK->XK->Prop
abbrev CXT:=List Env->Hp->Shared->XK->Value->Shared->Prop
structure Env0 (P:Program) (w:World) (K:W.Frag) (mg:Str->Option Value) (base:Heap) (A:Around) (outer:List Env) (s:Shared) (H:Hp):Prop where
 frames:A.frames=some outer
 mod:Mod K mg base
 bs:∀ b o,base.get? b=some o->s.heap.get? b=some o/\H b=none
 bsz:base.objs.size<=s.heap.objs.size
 funs:s.heap.FunFrames base outer
 frf:∀ b∈frs outer,H b=none
 hok:HOk P w H s.heap
 bare:AllBare s.gens
def CE (outer:List Env) (P:Program) (w:World) (H:Hp) (s:Shared) (Q:VK) (u:Value) (s':Shared):Prop :=
 ∃ v H',s'.os=s.os/\AllBare s'.gens/\Un (frs outer) [] H H' s.heap s'.heap/\HOk P w H' s'.heap/\RelV v u/\Q v H'
def CR (CX:CXT) (outer:List Env) (P:Program) (w:World) (H:Hp) (s:Shared) (Q:VK) (E:XK) (r:Result) (s':Shared):Prop :=
 match r with
 | .ok (.ret u)=>CE outer P w H s Q u s'
 | .ok _=>False
 | .error e=>CX outer H s E e s'
structure FnOk (P:Program) (w:World) (K:W.Frag) (mg:Str->Option Value) (base:Heap) (CX:CXT) (k:Nat) (f:Addr) (fd:FuncData) (ps:List Str) (sp:Sp):Prop where
 len:∀ vs H Q E,sp vs H Q E->vs.length=ps.length
 run:∀ (A:Around) (outer:List Env) (s:Shared) (H:Hp) (args:Args) (us:List Value) (vs:List V) (Q:VK) (E:XK),Room k A->Env0 P w K mg base A outer s H->BindsTo s fd args (ps.zip us)->Vals vs us->sp vs H Q E ->
  codeAny (model P w) A (.call (.ref f) args) (CR CX outer P w H s Q E) s
def Env0.make {P:Program} {w:World} {K:W.Frag} {mg:Str->Option Value} {base:Heap} {A:Around} {outer:List Env} {s:Shared} {H:Hp} (e:Env0 P w K mg base A outer s H) (C:Addr) (us:List Value) (kw:List (Str × Value)) :
  Env0 P w K mg base (A.under (.builtin "type.__call__" ⟨.ref C :: us,kw⟩)) outer s H:=⟨by first | exact e.frames | (simpa [Around.under,Code.envs,Code.isFrame,pushEnvs] using e.frames),e.mod,e.bs,e.bsz,e.funs,e.frf,e.hok,e.bare⟩
section
variable {X:Cx} {fo:List (Addr × Obj)} {σ:St} {H:Hp} {s s':Shared}
def Inv.env0 (I:Inv X fo σ H s):Env0 X.prog X.w X.K X.mg X.base X.A X.stack s H :=
 ⟨I.ok.frames,I.ok.mod,I.bs,Nat.le_trans I.ok.bsz I.sz,I.stack,I.stkFree,I.hok,I.bare⟩
def Inv.after (I:Inv X fo σ H s) (h:CE X.stack X.prog X.w H s Q u s'):EP X fo σ Q u s':=by
 obtain ⟨v,H',os,bare,un,hok,r,q⟩:=h;obtain ⟨hh,g,d,t,lz⟩:=s';obtain rfl:lz=s.os:=os;exact ⟨v,H',I.call (h':=hh) (g':=g) (d':=d) (t':=t) (ch:=[]) un hok bare (λb z=>absurd z (by simp)),r,q⟩
end
def Zkm (sp:Sp) (ic:List V) (E:XK) (t:TA):TE:=λσ H Q=>t σ H λvs H1=>sp (vs ++ ic) H1 Q E
def Zkj (C:Addr) (m:Str) (sp:Sp) (ic:List V) (E:XK) (ta:TE) (t:TA):TE:=λσ H Q=>ta σ H λx H1=>∃ a dx fs,x=.ref a/\H1 a=some (.ins C dx fs)/\fs.lookup m=none /\
 t σ H1 λvs H2=>sp (x :: (vs ++ ic)) H2 Q E
def Zok (C:Addr) (sp:Sp) (ic:List V) (E:XK) (t:TA):TE:=λσ H Q=>t σ H λvs H1=>∀ x dx,H1 x=none->H1 dx=none->dx≠x ->
 sp (.ref x :: (vs ++ ic)) (upd (upd H1 dx (.own x)) x (.ins C dx [])) (λv H2=>v=.non/\Q (.ref x) H2) E
def We (K:W.Frag) (fd:FuncData) (ps:List Str) (ds:List Value):Prop :=
 ∀ (s:Shared) (us:List Value),K.In s.heap->(us ++ ds).length=ps.length->BindsTo s fd ⟨us,[]⟩ (ps.zip (us ++ ds))
def We.all {K:W.Frag} {fd:FuncData} {ps:List Str} (h:∀ us:List Value,us.length=ps.length->bindArgs fd ⟨us,[]⟩=pure (ps.zip us)):We K fd ps []:=λs us _ hl=>by
 rw [append_nil] at hl ⊢;exact .of_eq (h us hl)
def Qv (CX:CXT) (X:Cx) (E:XK):Prop:=∀ (fo:List (Addr × Obj)) (σ:St) (H:Hp) (s:Shared) (e:Value) (s':Shared),Inv X fo σ H s->CX X.stack H s E e s'->X.xe e s'
section
variable {X:Cx} {CX:CXT} {k:Nat} {f C:Addr} {fd:FuncData} {ps:List Str} {sp:Sp} {ic:List V} {ds:List Value} {E:XK} {x m:Str} {p pos gk:Pos} {e o:Expr} {es:List Expr} {ta:TE} {t:TA}
def Zbh (F:FnOk X.prog X.w X.K X.mg X.base CX k f fd ps sp) (hr:Room k X.A) (hb:We X.K fd ps ds) (hd:Vals ic ds) (hx:Qv CX X E)
  (I:Inv X fo σ H s) (r:Vals vs us) (h:sp (vs ++ ic) H Q E):wpAny (a:) X.A (call (.ref f) us) (EP X fo σ Q) X.xe s:=by
 have r2:Vals (vs ++ ic) (us ++ ds):=r.append hd;have hl:(us ++ ds).length=ps.length:=by rw [<- r2.length]; exact F.len _ _ _ _ h
 refine wpAny_call (codeAny_mono (F.run X.A X.stack s H ⟨us,[]⟩ (us ++ ds) (vs ++ ic) Q E hr I.env0 (hb s us I.kIn hl) r2 h) λr s' hq=>?_)
 cases r with
 | error e=>exact hx fo σ H s e s' I hq
 | ok fl =>
  cases fl with
  | ret u=>exact I.after hq
  | next=>exact False.elim hq
  | brk=>exact False.elim hq
  | cont=>exact False.elim hq
def Zlz (F:FnOk X.prog X.w X.K X.mg X.base CX k f fd ps sp) (hr:Room k X.A) (hg:Gl X x) (hm:X.mg x=some (.ref f)) (hk:PySem.W.keepIn X.K (.ref f)=true) (hb:We X.K fd ps ds) (hd:Vals ic ds) (hx:Qv CX X E)
  (ha:PA X (e :: es) t) (jx:(x == ("__debug__":Str))=false:=by decide) (he:starEach (e :: es) X.env=(false,eval e X.env) :: starEach es X.env:=by rfl) (g8:(backTo pos (starEach es X.env)).any (·.1)=false:=by rfl) :
  PE X (.Call (.Name x p) (e :: es) [] pos) (Zkm sp ic E t):=by
 intro fo s σ H Q I h;refine wpAny_Call_Name_kw (Vh I hg hm ?_ jx);refine PySem.W.callWith_K (h₀:=X.base) I.ok.mod.kin hk (thn (ha pos fo s σ H _ I h) λus s1 zz14=>?_) he g8;obtain ⟨vs,H1,I1,r,q⟩:=zz14;refine ⟨I1.kIn,?_⟩;exact Zbh F hr hb hd hx I1 r q
def Wk {pl:Sem Bool} (he:PE X o ta) (c:Cls X.K C) (hm:Meth X.K C m f) (F:FnOk X.prog X.w X.K X.mg X.base CX k f fd ps sp) (hr:Room k X.A) (hb:We X.K fd ps ds) (hd:Vals ic ds) (hx:Qv CX X E) (ha:PA X (e :: es) t)
  (lg:starEach (e :: es) X.env=(false,eval e X.env) :: starEach es X.env:=by rfl) (g8:(backTo pos (starEach es X.env)).any (·.1)=false:=by rfl)
  (ht:eval (.Call (.Attribute o m gk) (e :: es) [] pos) X.env=(do
   let ov <- eval o X.env
   standAt gk.atName
   let (f,first) <- holding [ov] (getMethod ov m pl)
   callWith pos f first (backTo pos (starEach (e :: es) X.env)) (backToKw pos (keywordEach [] X.env))):=by rfl) :
  PE X (.Call (.Attribute o m gk) (e :: es) [] pos) (Zkj C m sp ic E ta t):=by
 intro fo s σ H Q I h;refine PySem.W.methodCall_KW (pl:=pl) (thn (he fo s σ H _ I h) λu s1 zz15=>?_) ht;obtain ⟨x,H1,I1,rx,a,dx,fs,ex,ea,l,q⟩:=zz15;subst ex;obtain rfl:u=Value.ref a:=rx;refine V0 I1 ea c hm l ?_;refine PySem.W.callWith_K (first:=[.ref a]) (h₀:=X.base) I.ok.mod.kin hm.kp (thn (ha pos fo s1 σ H1 _ I1 q) λus s2 zz16=>?_) lg g8;obtain ⟨vs,H2,I2,r,q2⟩:=zz16;refine ⟨I2.kIn,?_⟩;exact Zbh (us:=.ref a :: us) (vs:=.ref a :: vs) F hr hb hd hx I2 (.cons Y r) q2
def Qq {pl:Sem Bool} (he:PE X o ta) (c:Cls X.K C) (hm:Meth X.K C m f) (F:FnOk X.prog X.w X.K X.mg X.base CX k f fd ps sp) (hr:Room k X.A) (hb:We X.K fd ps ds) (hd:Vals ic ds) (hx:Qv CX X E)
  (ht:eval (.Call (.Attribute o m gk) [] [] pos) X.env=(do
   let ov <- eval o X.env
   standAt gk.atName
   let (f,first) <- holding [ov] (getMethod ov m pl)
   callWith pos f first (backTo pos (starEach [] X.env)) (backToKw pos (keywordEach [] X.env))):=by rfl) :
  PE X (.Call (.Attribute o m gk) [] [] pos) (Zkj C m sp ic E ta tNil):=by
 intro fo s σ H Q I h;refine PySem.W.methodCall_KW (pl:=pl) (thn (he fo s σ H _ I h) λu s1 zz17=>?_) ht;obtain ⟨x,H1,I1,rx,a,dx,fs,ex,ea,l,q⟩:=zz17;subst ex;obtain rfl:u=Value.ref a:=rx;refine V0 I1 ea c hm l ?_;exact PySem.W.callWith_K0 (first:=[.ref a]) I1.kIn hm.kp (Zbh (us:=[.ref a]) (vs:=[.ref a]) F hr hb hd hx I1 (.cons Y .nil) q)
structure Mk (K:W.Frag) (C f:Addr):Prop where
 makes:PySem.W.makesIn K C=true
 init:PySem.W.findIn K (.ref C) "__init__"=some (some (.ref f))
 fn:PySem.W.isFn K (.ref f)=true
 kp:PySem.W.keepIn K (.ref C)=true
def Zi5 (M:Mk X.K C f) (F:FnOk X.prog X.w X.K X.mg X.base CX k f fd ps sp) (hr:Room (k + 1) X.A) (hb:We X.K fd ps ds) (hd:Vals ic ds)
  (hx:Qv CX X E) (I:Inv X fo σ H s) (r:Vals vs us)
  (h:∀ x dx,H x=none->H dx=none->dx≠x->sp (.ref x :: (vs ++ ic)) (upd (upd H dx (.own x)) x (.ins C dx [])) (λv H2=>v=.non/\Q (.ref x) H2) E) :
  wpAny (a:) X.A (call (.ref C) us) (EP X fo σ Q) X.xe s:=by
 have hq:=h (s.heap.objs.size + 1) s.heap.objs.size (I.hok.fresh (le_succ _)) (I.hok.fresh (An _)) (As (lt_succ_self _));have I2:=Inv.made (C:=C) I;have r2:Vals (V.ref (s.heap.objs.size + 1) :: (vs ++ ic)) (Value.ref (s.heap.objs.size + 1) :: (us ++ ds)):=.cons rfl (r.append hd);have hl:(Value.ref (s.heap.objs.size + 1) :: us ++ ds).length=ps.length:=by
  have e:=r2.length
  rw [F.len _ _ _ _ hq] at e
  exact e.symm
 refine wpAny_call (Zjt (f:=f) I.kIn M.makes M.init (beq_iff_eq.mp M.fn) (codeAny_mono (F.run _ X.stack _ _ ⟨Value.ref (s.heap.objs.size + 1) :: us,[]⟩ (Value.ref (s.heap.objs.size + 1) :: (us ++ ds)) _ _ E (hr.make C us [])
  (I2.env0.make C us []) (hb _ (Value.ref (s.heap.objs.size + 1) :: us) I2.kIn hl) r2 hq) λr s' iu=>?_))
 cases r with
 | error e=>exact hx fo σ _ _ e s' I2 iu
 | ok fl =>
  cases fl with
  | ret u =>
   obtain ⟨v,H',I3,rv,ev,q3⟩:=I2.after iu;subst ev;exact ⟨rv,⟨V.ref (s.heap.objs.size + 1),H',I3,Y,q3⟩⟩
  | next=>exact False.elim iu
  | brk=>exact False.elim iu
  | cont=>exact False.elim iu
def Zly (M:Mk X.K C f) (F:FnOk X.prog X.w X.K X.mg X.base CX k f fd ps sp) (hr:Room (k + 1) X.A) (hg:Gl X x) (hm:X.mg x=some (.ref C)) (hb:We X.K fd ps ds) (hd:Vals ic ds) (hx:Qv CX X E)
  (ha:PA X (e :: es) t) (jx:(x == ("__debug__":Str))=false:=by decide) (he:starEach (e :: es) X.env=(false,eval e X.env) :: starEach es X.env:=by rfl) (g8:(backTo pos (starEach es X.env)).any (·.1)=false:=by rfl) :
  PE X (.Call (.Name x p) (e :: es) [] pos) (Zok C sp ic E t):=by
 intro fo s σ H Q I h;refine wpAny_Call_Name_kw (Vh I hg hm ?_ jx);refine PySem.W.callWith_K (h₀:=X.base) I.ok.mod.kin M.kp (thn (ha pos fo s σ H _ I h) λus s1 zz18=>?_) he g8;obtain ⟨vs,H1,I1,r,q⟩:=zz18;refine ⟨I1.kIn,?_⟩;exact Zi5 M F hr hb hd hx I1 r q
end
structure FnScope (N P:List Str) (sc:Scope):Prop where
 kind:sc.kind=.function
 co:sc.isCoroutine=false
 gen:sc.isGenerator=false
 nd:N.Nodup
 pre:N.take P.length=P
 par:∀ x∈P,sc.names.lookup x=some .local\/sc.names.lookup x=some .cell
 nofree:∀ y∈sc.names,y.2≠.free
def Am{N P:List Str}{sc:Scope}(a:sc.kind=.function:=by rfl)(b:sc.isCoroutine=false:=by rfl)(c:sc.isGenerator=false:=by rfl)(d:N.Nodup:=by decide +kernel)(e:N.take P.length=P:=by rfl)(f:∀ x∈P,sc.names.lookup x=some .local\/sc.names.lookup x=some .cell:=by decide +kernel)(g:∀ y∈sc.names,y.2≠.free:=by decide +kernel):FnScope N P sc:=⟨a,b,c,d,e,f,g⟩
theorem F3 {kindOf:Str->Option NameKind} {x:Str}:∀ {binds:List (Str × Value)} {m:Str->Option Value},(∀ v,(x,v) ∉ binds)->bindL kindOf binds m x=m x
 | [],_,_=>rfl
 | (n,v) :: r,m,h=>by
  unfold bindL;rw [F3 λw hw=>h w (mem_cons_of_mem _ hw)];split
  ·have:x≠n:=by rintro rfl; exact h v mem_cons_self
   simp [this]
  ·rfl
theorem F5 {kindOf:Str->Option NameKind} {x:Str}:∀ {binds:List (Str × Value)} {m:Str->Option Value},(∀ v,(x,v) ∉ binds)->bindC kindOf binds m x=m x
 | [],_,_=>rfl
 | (n,v) :: r,m,h=>by
  unfold bindC;rw [F5 λw hw=>h w (mem_cons_of_mem _ hw)];split
  ·rfl
  ·have:x≠n:=by rintro rfl; exact h v mem_cons_self
   simp [this]
theorem F4 {kindOf:Str->Option NameKind} {x:Str} {v:Value}:∀ {P:List Str} {vs:List Value} {i:Nat} {m:Str->Option Value},P.Nodup->P[i]?=some x->vs[i]?=some v->kindOf x=some .local ->
  bindL kindOf (P.zip vs) m x=some v
 | [],_,_,_,_,h,_,_=>by simp at h
 | _ :: _,[],_,_,_,_,h,_=>by simp at h
 | p :: P,w :: vs,0,m,nd,h1,h2,hk=>by
  simp at h1 h2; subst h1; subst h2;show bindL kindOf ((p,w) :: P.zip vs) m p=_;unfold bindL;rw [F3 λv hv=>(nodup_cons.mp nd).1 (of_mem_zip hv).1,if_pos hk];simp
 | p :: P,w :: vs,i + 1,m,nd,h1,h2,hk=>by
  show bindL kindOf ((p,w) :: P.zip vs) m x=_;unfold bindL;exact F4 (i:=i) (nodup_cons.mp nd).2 (by simpa using h1) (by simpa using h2) hk
theorem F6 {kindOf:Str->Option NameKind} {x:Str} {v:Value}:∀ {P:List Str} {vs:List Value} {i:Nat} {m:Str->Option Value},P.Nodup->P[i]?=some x->vs[i]?=some v->kindOf x≠some .local ->
  bindC kindOf (P.zip vs) m x=some v
 | [],_,_,_,_,h,_,_=>by simp at h
 | _ :: _,[],_,_,_,_,h,_=>by simp at h
 | p :: P,w :: vs,0,m,nd,h1,h2,hk=>by
  simp at h1 h2; subst h1; subst h2;show bindC kindOf ((p,w) :: P.zip vs) m p=_;unfold bindC;rw [F5 λv hv=>(nodup_cons.mp nd).1 (of_mem_zip hv).1,if_neg hk];simp
 | p :: P,w :: vs,i + 1,m,nd,h1,h2,hk=>by
  show bindC kindOf ((p,w) :: P.zip vs) m x=_;unfold bindC;exact F6 (i:=i) (nodup_cons.mp nd).2 (by simpa using h1) (by simpa using h2) hk
def start (N:List Str) (vs:List V):St:=vs.map some ++ List.replicate (N.length - vs.length) none
def cxOf (CX:CXT) (P:Program) (w:World) (K:W.Frag) (mg:Str->Option Value) (base:Heap) (N:List Str) (qual:Str) (scope:Scope) (f:Addr) (cd:Value) (A:Around) (outer:List Env) (s:Shared) (H:Hp) (E:XK):Cx where
 prog:=P
 w:=w
 K:=K
 mg:=mg
 base:=base
 A:=A.deeper (envOfC qual scope s.heap.objs.size f cd)
 N:=N
 s₀:=s
 H₀:=H
 env:=envOfC qual scope s.heap.objs.size f cd
 outer:=outer
 stack:=envOfC qual scope s.heap.objs.size f cd :: outer
 ex:=[]
 calm:=true
 fn:=λ_=>true
 pn:=[]
 xe:=λe s'=>wpAny (model P w) (A.deeper (envOfC qual scope s.heap.objs.size f cd)) (leaving (envOfC qual scope s.heap.objs.size f cd) e) (λ_ nz=>CX outer H s E e nz) (λe' nz=>CX outer H s E e' nz) s'
def Zct {sc:Scope} (h:sc.names.lookup x=some .cell):∃ c,(cellsFrom n sc.names []).lookup x=some c:=by
 have q:=PySem.W.cellsFrom_some sc.names n [] (.inl h);exact Option.isSome_iff_exists.mp q
def Zh0 {CX:CXT} {P:Program} {w:World} {K:W.Frag} {mg:Str->Option Value} {base:Heap} {N ps:List Str} {qual:Str} {scope:Scope} {f:Addr} {cd:Value} {A:Around} {outer:List Env} {s s1:Shared} {H:Hp} {E:XK} {us:List Value} {vs:List V}
  (S:FnScope N ps scope) (hd:A.handled=none) (e0:Env0 P w K mg base A outer s H) (hl:vs.length=ps.length) (r:Vals vs us)
  (x:InCallC s s.heap.objs.size (bindL (envOfC qual scope s.heap.objs.size f cd).kindOf (ps.zip us) λ_=>none) (cellsFrom (s.heap.objs.size + 1) scope.names []) (bindC (envOfC qual scope s.heap.objs.size f cd).kindOf (ps.zip us) λ_=>none) s1) :
  Inv (cxOf CX P w K mg base N qual scope f cd A outer s H E) [] (start N vs) H s1:=by
 have g8:ps.length<=N.length:=by have:=congrArg List.length S.pre; rw [Ai] at this; lia
 obtain ⟨h1,tk,rfl,hk⟩:=x.done;have vn:∀ b:Addr,b ∉ (cxOf CX P w K mg base N qual scope f cd A outer s H E).ex:=λb z=>absurd (show b∈([]:List Addr) from z) (by simp);refine ⟨⟨e0.mod,S.kind,Y,Y,An _,λy z c h1 h2=>?_,λy hy=>?_,λy c _ h=>?_,λ_=>hd,Around.frames_deeper e0.frames,.inr ⟨Y,Y⟩,λb z=>absurd z (vn b),e0.bs,e0.bsz,λb _ _=>vn b,λb z=>absurd z (vn b),e0.funs,e0.frf⟩,
  rfl,e0.bare,Un.kept hk,⟨_,x.toInCall.ns,λi y v h1 h2 h3=>?_⟩,λy c h=>⟨_,x.cell y c h⟩,e0.hok.fresh (An _),λy c h=>?_,λp hp=>absurd (show p∈([]:List (Addr × Obj)) from hp) (by simp),e0.hok.kept hk,?_⟩
 ·exact name_of_addr x.apart (PySem.mem_of_lookup h1) (PySem.mem_of_lookup h2)
 ·have hy:scope.names.lookup y=some .cell\/scope.names.lookup y=some .free:=hy
  rcases hy with hy | hy
  ·exact Zct hy
  ·exact absurd Y (S.nofree _ (PySem.mem_of_lookup hy))
 ·exact Nat.le_of_lt (x.above y c (PySem.mem_of_lookup h))
 ·have hi:i < vs.length:=by
   unfold start at h2;by_cases hi:i < vs.length
   ·exact hi
   ·rw [getElem?_append_right (by simpa using hi)] at h2
    rw [getElem?_replicate] at h2;split at h2 <;> cases h2
  have ha:vs[i]?=some v:=by
   unfold start at h2;rw [Av (by simpa using hi),Ah] at h2
   cases e:vs[i]? with
   | none=>rw [e] at h2; cases h2
   | some a=>rw [e] at h2; cases h2; rfl
  obtain ⟨u,hu,rv⟩:=r.get ha;have hp:ps[i]?=some y:=by
   rw [<- S.pre,getElem?_take_of_lt (by lia)]; exact h1
  have ndP:ps.Nodup:=by rw [<- S.pre]; exact S.nd.sublist (take_sublist _ _)
  refine ⟨u,rv,?_⟩
  rcases S.par y (Au hp) with k | k
  ·exact .inl ⟨k,F4 ndP hp hu k⟩
  ·obtain ⟨c,e⟩:=Zct (n:=s.heap.objs.size + 1) k
   refine .inr ⟨.inl k,c,e,?_⟩;have q:=x.cell y c e;rw [F6 ndP hp hu (by show scope.names.lookup y≠_; rw [k]; decide)] at q;exact q
 ·exact e0.hok.fresh (Nat.le_of_lt (x.above y c (PySem.mem_of_lookup h)))
 ·unfold start
  show _=N.length;rw [Ae,Ab,length_replicate];lia
def Zkw {CX:CXT} {P:Program} {w:World} {K:W.Frag} {mg:Str->Option Value} {base:Heap} {k:Nat} {f:Addr} {name qual:Str} {params:Arguments} {body:List Stmt} {scope:Scope} {dV kV g6 pm gx ct oc:Value} {an od:Option Addr}
  {o7:Array (Option Value)} {N ps:List Str} {sp:Sp} (lk:K.lookup f=some ⟨oc,od,.func (PySem.W.fnOf name qual params body scope dV kV g6 pm an gx ct),o7⟩) (lh:PySem.W.codeIn K gx qual=true) (S:FnScope N ps scope)
  (len:∀ vs H Q E,sp vs H Q E->vs.length=ps.length)
  (il:∀ (A:Around) (outer:List Env) (s:Shared) (H:Hp) (vs:List V) (Q:VK) (E:XK),Room k (A.deeper (envOfC qual scope s.heap.objs.size f gx))->sp vs H Q E ->
   ∃ t,PSs (cxOf CX P w K mg base N qual scope f gx A outer s H E) body t/\t { nx:=λ_ H'=>Q .non H',rt:=Q } (start N vs) H) :
  FnOk P w K mg base CX (k + 1) f (PySem.W.fnOf name qual params body scope dV kV g6 pm an gx ct) ps sp:=by
 refine ⟨len,λA outer s H args us vs Q E hr e0 hb r jh=>?_⟩;have hl:=len _ _ _ _ jh;have KX:K.In s.heap:=e0.mod.kin.keeps λb o e=>(e0.bs b o e).1;have lim:s.heap.NoLimit:=e0.mod.nolimit.keeps λb o e=>(e0.bs b o e).1;have yk:∀ y∈ps.zip us,scope.names.lookup y.1=some .local\/(scope.names.lookup y.1=some .cell/\((cellsFrom (s.heap.objs.size + 1) scope.names []).lookup y.1).isSome=true):=λ⟨n,v⟩ hy=>by
  rcases S.par n (of_mem_zip hy).1 with q | q
  ·exact .inl q
  ·exact .inr ⟨q,PySem.W.cellsFrom_some _ _ _ (.inl q)⟩
 refine codeAny_call_function hr.depth (KX _ _ lk) Y S.co S.gen Y (PySem.W.codeRec_of KX lh) (hb _ _ _ _ ?_);refine wpAny_newFunctionEnv_cells S.kind yk λenv he s1 x=>?_;subst he;refine ⟨lim.keeps x.toInCall.keep,codeAny_func ?_⟩;obtain ⟨t,ht,hq⟩:=il A outer s H vs Q E (hr.deeper _) jh;have I:Inv (cxOf CX P w K mg base N qual scope f gx A outer s H E) [] (start N vs) H s1:=Zh0 S hr.hd e0 hl r x;refine wpAny_mono (ht [] s1 (start N vs) H _ I hq) (λfl s' hs=>?_) λe s' hs=>hs;have fin:∀ {σ':St} {H':Hp} {v:V} {u:Value},Inv (cxOf CX P w K mg base N qual scope f gx A outer s H E) [] σ' H' s'->RelV v u->Q v H'->CE outer P w H s Q u s' :=
  λ{σ' H' v u} J rv q=>⟨v,H',J.os,J.bare,J.base,J.hok,rv,q⟩
 cases fl with
 | ret u =>
  obtain ⟨v,σ',H',J,rv,q⟩:=hs;exact fin J rv q
 | next =>
  obtain ⟨σ',H',J,q⟩:=hs;exact fin (v:=V.non) (u:=Value.none) J Y q
 | brk =>
  obtain ⟨_,_,_,q⟩:=hs;exact False.elim q
 | cont =>
  obtain ⟨_,_,_,q⟩:=hs;exact False.elim q
section
variable {X:Cx} {x:Str} {p pos:Pos} {e:Expr} {es:List Expr} {t:TA} {id T:String} {r:List V->Hp->VK->Prop}
def tCB (r:List V->Hp->VK->Prop) (t:TA):TE:=λσ H Q=>t σ H λvs H1=>r vs H1 Q
def Zk (hc:Yv X (.builtin id) r) (hg:Gl X x) (hm:X.mg x=none) (hv:bootBuiltins x=some (.builtin id)) (ha:PA X (e :: es) t) (hn:x≠"__name__":=by decide) (jx:(x == ("__debug__":Str))=false:=by decide)
  (he:starEach (e :: es) X.env=(false,eval e X.env) :: starEach es X.env:=by rfl) (g8:(backTo pos (starEach es X.env)).any (·.1)=false:=by rfl):PE X (.Call (.Name x p) (e :: es) [] pos) (tCB r t):=by
 intro fo s σ H Q I h;refine wpAny_Call_Name_kw (Xb I hg hm hv ?_ hn jx);refine PyProof.Rows.callWith_builtin1 (thn (ha pos fo s σ H _ I h) λus s1 zz19=>?_) he g8;obtain ⟨vs,H1,I1,r1,q1⟩:=zz19;exact hc fo s1 σ H1 vs us Q I1 r1 q1
def Yl (hc:Yv X (.type T) r) (hg:Gl X x) (hm:X.mg x=none) (hv:bootBuiltins x=some (.type T)) (ha:PA X (e :: es) t) (hn:x≠"__name__":=by decide) (jx:(x == ("__debug__":Str))=false:=by decide)
  (he:starEach (e :: es) X.env=(false,eval e X.env) :: starEach es X.env:=by rfl) (g8:(backTo pos (starEach es X.env)).any (·.1)=false:=by rfl):PE X (.Call (.Name x p) (e :: es) [] pos) (tCB r t):=by
 intro fo s σ H Q I h;refine wpAny_Call_Name_kw (Xb I hg hm hv ?_ hn jx);refine PyProof.Rows.callWith_type1 (thn (ha pos fo s σ H _ I h) λus s1 zz20=>?_) he g8;obtain ⟨vs,H1,I1,r1,q1⟩:=zz20;exact hc fo s1 σ H1 vs us Q I1 r1 q1
def Zfg (hc:Yv X (.type T) r) (hg:Gl X x) (hm:X.mg x=none) (hv:bootBuiltins x=some (.type T)) (hn:x≠"__name__":=by decide) (jx:(x == ("__debug__":Str))=false:=by decide) :
  PE X (.Call (.Name x p) [] [] pos) (tCB r tNil):=by
 intro fo s σ H Q I h;refine wpAny_Call_Name_kw (Xb I hg hm hv ?_ hn jx);exact PyProof.Rows.callWith_type0 (hc fo s σ H [] [] Q I .nil h)
end
end L2
namespace HT
open PySem PyProof.Rows
def lexLt:List Int->List Int->Bool
 | [],[]=>false
 | [],_ :: _=>true
 | _ :: _,[]=>false
 | x :: xs,y :: ys=>if x=y then lexLt xs ys else decide (x < y)
def Qe (x y:Int) (xs ys:List Int):lexLt (x :: xs) (y :: ys)=if x=y then lexLt xs ys else decide (x < y):=rfl
def Ub:lexLt [] []=false:=rfl
def Jo (y:Int) (ys:List Int):lexLt [] (y :: ys)=true:=rfl
def Wm (x:Int) (xs:List Int):lexLt (x :: xs) []=false:=rfl
def Zkb (A:Around) (s:Shared) (a:Int) (t:Tok) (c:Int) (u:Tok):∃ e,SeqAt.EqAt A s (.int a t) (.int c u) e/\(e=true ↔ a=c) :=
 ⟨(a == c),SeqAt.EqAt.int_int a t c u,by simp⟩
def Zi8 (A:Around) (s:Shared) (a:Int) (t:Tok) (c:Int) (u:Tok) (prog:Program) (w:World) (E:Value->Shared->Prop) (Q:Value->Shared->Prop) (h:Q (.bool (decide (a < c))) s) :
  wpAny (d:) A (richCompare .Lt (.int a t) (.int c u)) Q E s :=
 (PyProof.Rows.lt_int h:wpAny (d:) A (compareOp .Lt (.int a t) (.int c u)) Q E s)
section
variable {prog:Program} {w:World} {A:Around} {E:Value->Shared->Prop} {s:Shared}
def sIx (n d:Nat):Option Int->Nat
 | none=>d
 | some v=>if v < 0 then (v + (n:Int)).toNat else min v.toNat n
def sIx_none (n d:Nat):sIx n d none=d:=rfl
def sIx_nat (n d k:Nat):sIx n d (some (k:Int))=min k n:=by
 show (if (k:Int) < 0 then ((k:Int) + (n:Int)).toNat else min (k:Int).toNat n)=min k n;rw [if_neg (by lia),Int.toNat_natCast]
end
end HT
namespace L2
open PySem PySem.Spec PyProof.Rows
abbrev TO:=St->Hp->(Option Int->Hp->Prop)->Prop
def PO (X:Cx) (e:Option Expr) (t:TO):Prop :=
 ∀ fo s σ H (Q:Option Int->Hp->Prop),Inv X fo σ H s->t σ H Q ->
  wpAny (a:) X.A (evalPart e X.env) (λu s'=>∃ o H',Inv X fo σ H' s'/\IsPart u o/\Q o H') X.xe s
def Zk3:TO:=λ_ H Q=>Q none H
def Zoh (t:TE):TO:=λσ H Q=>t σ H λx H1=>∃ i,x=.int i/\Q (some i) H1
def Qf {ns:List Int}:∀ {us:List Value},Vals (ns.map V.int) us->IntsAre us ns:=by
 induction ns with
 | nil=>intro us r; rw [map_nil] at r; cases r; exact .nil
 | cons n ns ih =>
  intro us r;rw [map_cons] at r
  cases r with
  | cons r1 r2 =>
   obtain ⟨t,e⟩:=r1;subst e;exact .cons n t (ih r2)
section
variable {X:Cx} {e:Expr} {te:TE} {lo hi:Option Expr} {tl th:TO} {pos p2:Pos}
def Gw:PO X none Zk3:=by
 intro fo s σ H Q I h;rw [evalPart_none];exact wpAny_pure ⟨none,H,I,.none,h⟩
def Vb (h:PE X e te):PO X (some e) (Zoh te):=by
 intro fo s σ H Q I hw;rw [evalPart_some];refine thn (h fo s σ H _ I hw) λu s1 gc=>?_;obtain ⟨x,H1,I1,r1,q1⟩:=gc;obtain ⟨i,rfl,q⟩:=q1;obtain ⟨t,rfl⟩:=r1;exact ⟨some i,H1,I1,.int i t,q⟩
def SlR (X:Cx) (r:V->Option Int->Option Int->Hp->VK->Prop):Prop :=
 ∀ fo s σ H (x:V) (v vl vu:Value) (lo hi:Option Int) (sl:Addr) (Q:VK),Inv X fo σ H s->RelV x v->s.heap.IsSliceOf sl vl vu .none->IsPart vl lo->IsPart vu hi->r x lo hi H Q ->
  ∃ T id,typeLookup (.type T) "__getitem__"=pure (some (.builtin id))/\s.TypeIs v T/\wpAny (a:) X.A (getItem v (.ref sl)) (EP X fo σ Q) X.xe s
def tSl (r:V->Option Int->Option Int->Hp->VK->Prop) (te:TE) (tl th:TO):TE:=λσ H Q=>te σ H λx H1=>tl σ H1 λl H2=>th σ H2 λu H3=>r x l u H3 Q
def Vt (hr:SlR X r) (he:PE X e te) (hl:PO X lo tl) (hu:PO X hi th):PE X (.Subscript e (.Slice lo hi none p2) pos) (tSl r te tl th):=by
 intro fo s σ H Q I h;refine Subscript_ (thn (he fo s σ H _ I h) λv s1 gc=>?_);obtain ⟨x,H1,I1,r1,q1⟩:=gc;refine wpAny_Slice (thn (hl fo s1 σ H1 _ I1 q1) λvl s2 zz21=>?_);obtain ⟨l,H2,I2,pl,q2⟩:=zz21;refine thn (hu fo s2 σ H2 _ I2 q2) λvu s3 gc=>?_;obtain ⟨u,H3,I3,pu,q3⟩:=gc;rw [evalPart_none];refine wpAny_pure ?_;have I4:Inv X fo σ H3 { s3 with heap:=s3.heap.push { cls:=.type "slice",data:=.fields #[vl,vu,.none] } }:=I3.kept (t':=s3.toks) λb ob q=>Ak _ q;obtain ⟨T,id,hT,ht,hg⟩:=hr fo { s3 with heap:=s3.heap.push { cls:=.type "slice",data:=.fields #[vl,vu,.none] } } σ H3 x v vl vu l u s3.heap.objs.size Q I4 r1 (Heap.IsSliceOf.new ..) pl pu q3;show wpAny (a:) X.A (subscriptTail e (.Slice lo hi none p2) v (.ref s3.heap.objs.size)) (EP X fo σ Q) X.xe { s3 with heap:=s3.heap.push { cls:=.type "slice",data:=.fields #[vl,vu,.none] } };exact tail_any (ops:=[.ref s3.heap.objs.size,v]) ht hT hg (by with_unfolding_all rfl)
def cutV (xs:List V) (lo hi:Option Int):List V:=(xs.drop (HT.sIx xs.length 0 lo)).take (HT.sIx xs.length xs.length hi - HT.sIx xs.length 0 lo)
def Zdj (xs:List V) (lo hi:Option Int):(cutV xs lo hi).length<=xs.length:=by
 unfold cutV;rw [Ai,length_drop];lia
end
def ixN (n:Nat) (i:Int):Option Nat:=if 0<=i then (if i < n then some i.toNat else none) else if -(n:Int)<=i then some (i + n).toNat else none
def atI {α:Type} (xs:List α) (i:Int):Option α:=(ixN xs.length i).bind λj=>xs[j]?
def Zee (h:ixN n i=some j):seqIndex? i n=some j/\j < n/\-(n:Int)<=i/\i < n:=by
 unfold ixN at h;by_cases h0:0<=i
 ·rw [if_pos h0] at h
  by_cases h1:i < n
  ·rw [if_pos h1] at h
   have e:i.toNat=j:=Ax h;exact ⟨by rw [seqIndex_of h0 h1,e],by lia,by lia,h1⟩
  ·rw [if_neg h1] at h; cases h
 ·rw [if_neg h0] at h
  by_cases h1:-(n:Int)<=i
  ·rw [if_pos h1] at h
   have e:(i + n).toNat=j:=Ax h;exact ⟨by rw [seqIndex_neg (by lia) h1,e],by lia,h1,by lia⟩
  ·rw [if_neg h1] at h; cases h
def Zew {α:Type} {xs:List α} {i:Int} {v:α} (h:atI xs i=some v):∃ j,seqIndex? i xs.length=some j/\xs[j]?=some v/\j < xs.length/\-(xs.length:Int)<=i/\i < xs.length:=by
 unfold atI at h
 cases e:ixN xs.length i with
 | none=>rw [e] at h; cases h
 | some j =>
  rw [e] at h;obtain ⟨h1,h2,h3,h4⟩:=Zee e;exact ⟨j,h1,h,h2,h3,h4⟩
def Yz {α:Type} {xs:List α} {j:Nat} {v:α} (h:xs[j]?=some v):atI xs (j:Int)=some v:=by
 have hj:j < xs.length:=(Aa h).1;have e:ixN xs.length (j:Int)=some j:=by
  unfold ixN
  rw [if_pos (by lia),if_pos (by lia)]; simp
 unfold atI; rw [e]; exact h
def Zmr (b:Expr):Prop:=∀ o i,subscripted b false o i=operate [o,i] (getItem o i)
def IxR (X:Cx) (r:R2):Prop :=
 ∀ (value ik:Expr) (fo:List (Addr × Obj)) (s:Shared) (σ:St) (H:Hp) (x y:V) (v u:Value) (Q:VK),Inv X fo σ H s->RelV x v->RelV y u->r x y H Q ->
  subscripted ik false v u=operate [v,u] (getItem v u)->wpAny (a:) X.A (subscriptTail value ik v u) (EP X fo σ Q) X.xe s
def MtR (X:Cx) (id:String) (r:V->List V->Hp->VK->Prop):Prop :=
 ∀ fo s σ H (x:V) (xs:List V) (v:Value) (us:List Value) (Q:VK),Inv X fo σ H s->RelV x v->Vals xs us->r x xs H Q ->
  wpAny (a:) X.A (call (.builtin id) (v :: us)) (EP X fo σ Q) X.xe s
section
variable {X:Cx} {a b:Expr} {ta tb:TE} {pos:Pos}
def Zu (hr:IxR X r) (ha:PE X a ta) (hb:PE X b tb) (hs:Zmr b):PE X (.Subscript a b pos) (tOp r ta tb):=by
 intro fo s σ H Q I h;exact Subscript_ (binT ha hb I h λv u s2 x y H2 I2 rx ry q=>hr a b fo s2 σ H2 x y v u Q I2 rx ry q (hs _ _))
def rIxL (K:W.Frag):R2:=λx y H Q=>∃ p xs i v,x=.ref p/\y=.int i/\SqL K H p xs/\atI xs i=some v/\Q v H
def rIxT (K:W.Frag):R2:=λx y H Q=>∃ p xs i v,x=.ref p/\y=.int i/\SqT K H p xs/\atI xs i=some v/\Q v H
def Zr:IxR X (rIxL X.K):=by
 intro value ik fo s σ H x y v u Q I rx ry h hs;obtain ⟨p,xs,i,z,rfl,rfl,hq,he,q⟩:=h;cases rx;obtain ⟨t,rfl⟩:=ry;obtain ⟨its,r,pl,hz⟩:=I.list hq;obtain ⟨j,h1,h2,h3,h4,h5⟩:=Zew he;obtain ⟨w,ew,jp⟩:=r.get h2;have hl:=r.length;have hn:=Vg;have fin:EP X fo σ Q w s:=⟨z,H,I,jp,q⟩;by_cases h0:0<=i
 ·have hj:i.toNat=j:=by
   rw [seqIndex_of h0 h5] at h1;exact Ax h1
  exact item_listR pl.isList h0 (by lia) (by rw [hj]; simpa using ew) fin hs
 ·have hj:(i + (its.toArray.size:Int)).toNat=j:=by
   rw [seqIndex_neg (by lia) h4] at h1;rw [Aq,<- hl];exact Ax h1
  exact subscriptTail_builtinR (x:=w) pl.isList.typeIs slot_list_getitem.lookup
   (wpAny_getItem_list_neg (Q:=λr s'=>r=w/\EP X fo σ Q r s') pl.isList (by lia) (by rw [Aq] <;> lia) (by lia) (by rw [hj]; simpa using ew) ⟨rfl,fin⟩) hs
def Ux:IxR X (rIxT X.K):=by
 intro value ik fo s σ H x y v u Q I rx ry h hs;obtain ⟨p,xs,i,z,rfl,rfl,hq,he,q⟩:=h;cases rx;obtain ⟨t,rfl⟩:=ry;obtain ⟨its,r,pl,hz⟩:=I.tuple hq;obtain ⟨j,h1,h2,h3,h4,h5⟩:=Zew he;obtain ⟨w,ew,jp⟩:=r.get h2;have hl:=r.length;have hn:=Vg;have fin:EP X fo σ Q w s:=⟨z,H,I,jp,q⟩;exact subscriptTail_builtinR (x:=w) pl.typeIs slot_tuple_getitem.lookup
  (getItem_tuple (j:=j) (Q:=λr s'=>r=w/\EP X fo σ Q r s') pl (by lia) (by lia) (by rw [Aq,<- hl]; exact h1) (by simpa using ew) ⟨Y,fin⟩) hs
def Zfo (its:List Value) (n j:Nat) (u:Value):Obj.mapSeq (·.setIfInBounds j u) { cls:=.type "list",data:=.seq its.toArray n }={ cls:=.type "list",data:=.seq (its.set j u).toArray n }:=by
 simp [Obj.mapSeq]
def Inv.lst {s:Shared} {xs:List V} (I:Inv X fo σ H s) (h:H p=some (.lst xs)) :
  ∃ (its:List Value) (n:Nat),Vals xs its/\s.heap.get? p=some { cls:=.type "list",data:=.seq its.toArray n }/\xs.length<=sizeLine:=by
 obtain ⟨z,its,n,r,e⟩:=I.hok p _ h;exact ⟨its,n,r,e,z⟩
def Inv.lstUpd {s:Shared} {ys:List V} {its its':List Value} (I:Inv X fo σ H s) (h:H p=some (.lst xs))
  (ho:s.heap.get? p=some { cls:=.type "list",data:=.seq its.toArray n }) (hf:f { cls:=.type "list",data:=.seq its.toArray n }={ cls:=.type "list",data:=.seq its'.toArray n' }) (r:Vals ys its') (hz:ys.length<=sizeLine) (t:Nat) :
  Inv X fo σ (upd H p (.lst ys)) { s with heap:=s.heap.update p f,toks:=t }:=by
 have e:(s.heap.update p f).get? p=some { cls:=.type "list",data:=.seq its'.toArray n' }:=by
  rw [Heap.get?_update_self f ho (by rw [hf] <;> rfl),hf]
 refine I.write (x:=p) (e:=p) (by rw [h]; trivial) (.inl rfl) (λb u hb q=>(Heap.get?_update_other _ _ (Ne.symm hb)).trans q) ⟨_,e⟩ ?_;exact ⟨hz,its',n',r,e⟩
def Zot:V->V->V->Hp->(Hp->Prop)->Prop:=λo i v H Q=>∃ p xs k j,o=.ref p/\i=.int k/\H p=some (.lst xs)/\ixN xs.length k=some j/\Q (upd H p (.lst (xs.set j v)))
def Xp:PSet X Zot:=by
 intro fo s σ H o i v ov iv u Q I ro ri rv h;obtain ⟨p,xs,k,j,rfl,rfl,hp,hj,q⟩:=h;cases ro;obtain ⟨t,rfl⟩:=ri;obtain ⟨its,n,r,ho,hz⟩:=I.lst hp;obtain ⟨h1,h2,h3,h4⟩:=Zee hj;have hl:=r.length;have hn:=Vg;have I':Inv X fo σ (upd H p (.lst (xs.set j v))) { s with heap:=s.heap.update p (Obj.mapSeq (·.setIfInBounds j u)) } :=
  I.lstUpd hp ho (Zfo its n j u) (r.set rv j) (by rw [length_set]; exact hz) s.toks
 by_cases h0:0<=k
 ·have hk:k.toNat=j:=by
   rw [seqIndex_of h0 h4] at h1;exact Ax h1
  exact PySem.W.ki_setAt ho h0 (by lia) (by rw [Aq,<- hl]; exact h4) (by rw [hk]; exact ⟨_,I',q⟩)
 ·have hk:(k + (its.toArray.size:Int)).toNat=j:=by
   rw [seqIndex_neg (by lia) h3] at h1;rw [Aq,<- hl];exact Ax h1
  exact PySem.W.ki_setBack ho (by lia) (by rw [Aq,<- hl]; exact h3) (by lia) (by rw [hk]; exact ⟨_,I',q⟩)
def Zax (lo hi:Option Int) (n:Nat):(sliceBounds lo hi none n).1=((HT.sIx n 0 lo:Nat):Int)/\(sliceBounds lo hi none n).2.1=((HT.sIx n n hi:Nat):Int)/\(sliceBounds lo hi none n).2.2=1:=by
 refine ⟨?_,?_,Y⟩
 ·cases lo with
  | none=>simp [sliceBounds,HT.sIx]
  | some i =>
   simp only [sliceBounds,HT.sIx,Option.getD_none,show (1:Int) > 0 by decide,if_true];by_cases h:i < 0
   ·simp only [h,if_true] <;> lia
   ·simp only [h,if_false] <;> lia
 ·cases hi with
  | none=>simp [sliceBounds,HT.sIx]
  | some i =>
   simp only [sliceBounds,HT.sIx,Option.getD_none,show (1:Int) > 0 by decide,if_true];by_cases h:i < 0
   ·simp only [h,if_true] <;> lia
   ·simp only [h,if_false] <;> lia
def Zad (its:List Value) (lo hi:Option Int):slicePick its.toArray lo hi none=((its.drop (HT.sIx its.length 0 lo)).take (HT.sIx its.length its.length hi - HT.sIx its.length 0 lo)).toArray:=by
 obtain ⟨h1,h2,h3⟩:=Zax lo hi its.toArray.size;unfold slicePick;rw [h1,h2,h3];simp only [sliceRange_one,pick_run,Aq] <;> rfl
def rSlL (K:W.Frag):V->Option Int->Option Int->Hp->VK->Prop:=λx lo hi H Q=>∃ a xs,x=.ref a/\SqL K H a xs/\∀ p,H p=none->Q (.ref p) (upd H p (.lst (cutV xs lo hi)))
def U4:SlR X (rSlL X.K):=by
 intro fo s σ H x v vl vu lo hi sl Q I rx hs pl pu h;obtain ⟨a,xs,rfl,hx,q⟩:=h;cases rx;obtain ⟨its,r,ht,hz⟩:=I.list hx;have fw:=r.length;refine ⟨"list",_,slot_list_getitem.lookup,ht.isList.typeIs,?_⟩;refine wpAny_getItem_list_slice ht.isList hs pl pu .none (by simp) ?_ (by rw [Aq] <;> lia);rw [Zad,<- fw];refine ⟨.ref s.heap.objs.size,_,I.laid (t':=s.toks) (o:=.lst (cutV xs lo hi)) (λb ob q=>Ak _ q) (An _) ?_,Y,q _ (I.hok.fresh (An _))⟩;exact ⟨Nat.le_trans (Zdj xs lo hi) hz,_,0,(r.drop (HT.sIx xs.length 0 lo)).take (HT.sIx xs.length xs.length hi - HT.sIx xs.length 0 lo),Ap _ Y⟩
def Zj:Yv X (.builtin "len") (λxs H Q=>∃ p ys,xs=[.ref p]/\(SqL X.K H p ys\/SqT X.K H p ys)/\Q (.int ys.length) H):=by
 intro fo s σ H xs us Q I r h;obtain ⟨p,ys,rfl,hq,q⟩:=h;obtain ⟨u,rfl,rx⟩:=Xr r;cases rx;have hn:=Vg
 rcases hq with hq | hq
 ·obtain ⟨its,r',pl,hz⟩:=I.list hq
  have fw:=r'.length;exact Calls.call_len_list pl.isList (by simp only [Aq] <;> lia) ⟨.int ys.length,H,I.tok _,⟨s.toks + 1,by rw [Aq,fw]⟩,q⟩
 ·obtain ⟨its,r',pl,hz⟩:=I.tuple hq
  have fw:=r'.length;exact len_tuple pl (by simp only [Aq] <;> lia) ⟨.int ys.length,H,I.tok _,⟨s.toks + 1,by rw [Aq,fw]⟩,q⟩
def Yi:Yv X (.type "list") (λxs H Q=>∃ p ys,xs=[.ref p]/\(SqL X.K H p ys\/SqT X.K H p ys)/\∀ l,H l=none->Q (.ref l) (upd H l (.lst ys))):=by
 intro fo s σ H xs us Q I r h;obtain ⟨p,ys,rfl,hq,q⟩:=h;obtain ⟨u,rfl,rx⟩:=Xr r;cases rx;have fin:∀ (its:List Value),Vals ys its->ys.length<=sizeLine->∀ (h':Heap) (c':Nat),(∀ b o',s.heap.get? b=some o'->h'.get? b=some o') ->
   h'.get? s.heap.objs.size=some { cls:=.type "list",dict:=none,data:=.seq its.toArray c',slots:=#[] }->EP X fo σ Q (.ref s.heap.objs.size) { s with heap:=h' }:=λits r' hz h' c' kp e =>
  ⟨.ref s.heap.objs.size,_,I.laid (t':=s.toks) kp (An _) (show Z3 X.prog X.w _ h' _ (.lst ys) from ⟨hz,its,c',r',e⟩),rfl,q _ (I.hok.fresh (An _))⟩
 rcases hq with hq | hq
 ·obtain ⟨its,r',pl,hz⟩:=I.list hq
  have fw:=r'.length;obtain ⟨o,ho,hc,n,hd⟩:=pl.isList;exact call_list_seq p (.inl Y) ho hc hd (λh' c' kp e=>fin its r' hz h' c' kp e) (by simp only [Aq] <;> lia)
 ·obtain ⟨its,r',pl,hz⟩:=I.tuple hq
  have fw:=r'.length;obtain ⟨o,ho,hc,n,hd⟩:=pl;exact call_list_seq p (.inr Y) ho hc hd (λh' c' kp e=>fin its r' hz h' c' kp e) (by simp only [Aq] <;> lia)
def Zah:Yv X (.type "tuple") (λxs H Q=>∃ p ys,xs=[.ref p]/\((SqL X.K H p ys/\∀ l,H l=none->Q (.ref l) (upd H l (.tup ys)))\/(SqT X.K H p ys/\Q (.ref p) H))):=by
 intro fo s σ H xs us Q I r h;obtain ⟨p,ys,rfl,h⟩:=h;obtain ⟨u,rfl,rx⟩:=Xr r;cases rx
 rcases h with ⟨hq,q⟩ | ⟨hq,q⟩
 ·obtain ⟨its,r',pl,hz⟩:=I.list hq
  have fw:=r'.length;refine call_tuple_list pl.isList (λh' kp=>?_) (by simp only [Aq] <;> lia);have I1:Inv X fo σ H { s with heap:=h' }:=I.kept (t':=s.toks) kp;have I2:Inv X fo σ (upd H h'.objs.size (.tup ys)) { s with heap:=h'.push { cls:=.type "tuple",data:=.seq its.toArray } } :=
   I1.laid (t':=s.toks) (λb o e=>Ak _ e) (An _) (show Z3 X.prog X.w _ _ _ (.tup ys) from ⟨hz,its,r',IsTup.new _ _⟩)
  exact ⟨.ref h'.objs.size,_,I2,Y,q _ (I1.hok.fresh (An _))⟩
 ·obtain ⟨its,r',pl,hz⟩:=I.tuple hq
  exact call_tuple_same pl ⟨.ref p,H,I,Y,q⟩
def tyV (K:W.Frag) (T:String) (x:V) (H:Hp):Prop:=match x with
 | .str _=>T="str"
 | .int _=>T="int"
 | .ref p=>(T="list"/\∃ xs,SqL K H p xs)\/(T="tuple"/\∃ o,K.lookup p=some o/\o.cls=.type "tuple"/\o.dict=none) \/
   (T="dict"/\((∃ kvs,H p=some (.dK kvs))\/∃ kvs,H p=some (.dT kvs)))\/(T="set"/\∃ S n,H p=some (.set S n))
 | _=>False
def Zmu {s:Shared} (I:Inv X fo σ H s) (r:RelV x v) (ty:tyV X.K T x H) :
  s.TypeIs v T/\∀ a,v=.ref a->∃ ob,s.heap.get? a=some ob/\ob.dict=none:=by
 cases x with
 | str z =>
  obtain ⟨t,rfl⟩:=r;cases (show T="str" from ty);exact ⟨typeIs_str s z t,λ_ e=>nomatch e⟩
 | int i =>
  obtain ⟨t,rfl⟩:=r;cases (show T="int" from ty);exact ⟨typeIs_int s i t,λ_ e=>nomatch e⟩
 | ref p =>
  cases r
  rcases ty with ⟨rfl,xs,hq⟩ | ⟨rfl,o,hk,hc,hd⟩ | ⟨rfl,hk⟩ | ⟨rfl,S,n,hk⟩
  ·obtain ⟨its,_,pl,_⟩:=I.list hq
   refine ⟨pl.isList.typeIs,λa e=>?_⟩;cases e;obtain ⟨o,n,e,c,hd,_⟩:=pl;exact ⟨o,e,hd⟩
  ·refine ⟨⟨o,I.kIn p o hk,hc⟩,λa e=>?_⟩
   cases e;exact ⟨o,I.kIn _ o hk,hd⟩
  ·have z:∃ o,s.heap.get? p=some o/\o.ExactDict:=by
    rcases hk with ⟨kvs,hk⟩ | ⟨kvs,hk⟩
    ·obtain ⟨_,_,_,_,o,_,_,e,ex,_⟩:=I.hok p _ hk
     exact ⟨o,e,ex⟩
    ·obtain ⟨_,_,_,_,o,_,_,e,ex,_⟩:=I.hok p _ hk
     exact ⟨o,e,ex⟩
   obtain ⟨o,e,ex⟩:=z;refine ⟨⟨o,e,ex.1⟩,λa e2=>?_⟩;cases e2;exact ⟨o,e,ex.2.1⟩
  ·obtain ⟨o,_,_,_,e,ex,_⟩:=I.hok p _ hk
   refine ⟨⟨o,e,ex.1⟩,λa e2=>?_⟩;cases e2;exact ⟨o,e,ex.2.1⟩
 | _=>exact False.elim ty
def tBM (K:W.Frag) (T:String) (r:V->List V->Hp->VK->Prop) (to:TE) (t:TA):TE:=λσ H Q=>to σ H λx H1=>tyV K T x H1/\t σ H1 λxs H2=>r x xs H2 Q
variable {o e:Expr} {es:List Expr} {to:TE} {t:TA} {name:Str} {gk gh:Pos} {T id:String} {r:V->List V->Hp->VK->Prop}
def Ju (pa:PlainAttrs T) (slot:Slot T name id) (hty:typeOf (.builtin id)=pure (.type "method_descriptor")) (hm:MtR X id r) (ho:PE X o to) (ha:PA X (e :: es) t)
  (nw:attributeBase o name X.env (eval o X.env)=eval o X.env:=by rfl)
  (tw:((backTo gh (starEach (e :: es) X.env)).all (λx=>!x.1) && (backToKw gh (keywordEach [] X.env)).all (λx=>x.1.isSome)
   && decide ((e :: es).length + ([]:List Keyword).length + (if ([]:List Keyword).isEmpty then 0 else 1) < 30))=true:=by rfl)
  (nr:(gk.endLine == gh.line)=true:=by rfl) (hs:starEach (e :: es) X.env=(false,eval e X.env) :: starEach es X.env:=by rfl) (t6:(backTo gh (starEach es X.env)).any (·.1)=false:=by rfl) :
  PE X (.Call (.Attribute o name gk) (e :: es) [] gh) (tBM X.K T r to t):=by
 intro fo s σ H Q I h;refine wpAny_Call_method_late nw tw nr Y (thn (ho fo s σ H _ I h) λv s1 gc=>?_);obtain ⟨x,H1,I1,r1,ty,q1⟩:=gc;obtain ⟨h1,h2⟩:=Zmu I1 r1 ty;refine ⟨T,id,pa,slot,hty,h1,h2,?_⟩;have hA:=ha gh fo s1 σ H1 _ I1 q1;rw [hs] at hA ⊢;refine Calls.callWith_builtin (by show (false || (backTo gh (starEach es X.env)).any (·.1))=false; rw [t6] <;> rfl) (Calls.evalArgs_plain ?_);refine thn hA λus s2 zz22=>?_;obtain ⟨vs,H2,I2,r2,q2⟩:=zz22;exact hm fo s2 σ H2 x vs v us Q I2 r1 r2 q2
end
def MtM (X:Cx) (id:String) (r:V->List V->Hp->VK->Prop):Prop :=
 ∀ fo s σ H (x:V) (xs:List V) (v:Value) (us:List Value) (Q:VK),Inv X fo σ H s->RelV x v->Vals xs us->r x xs H Q ->
  wpAny (a:) X.A (call (.builtin id) (v :: us)) (EP X fo σ Q) X.xe s
def Vals.one (h:Vals [x] us):∃ u,us=[u]/\RelV x u:=by
  cases h with
  | cons r t=>cases t; exact ⟨_,Y,r⟩
def Vals.two (h:Vals [x,y] us):∃ u v,us=[u,v]/\RelV x u/\RelV y v:=by
  cases h with
  | cons r t =>
    obtain ⟨v,rfl,q⟩:=Vals.one t;exact ⟨_,v,Y,r,q⟩
theorem Vals.eraseIdx:∀ {xs:List V} {us:List Value} (i:Nat),Vals xs us->Vals (xs.eraseIdx i) (us.eraseIdx i)
 | _,_,_,.nil=>.nil
 | _,_,0,.cons _ t=>t
 | _,_,i + 1,.cons r t=>.cons r (Vals.eraseIdx i t)
theorem Vals.rep (h:Vals xs us):∀ k:Nat,Vals (List.replicate k xs).flatten (List.replicate k us).flatten
 | 0=>.nil
 | k + 1=>by
  rw [replicate_succ,replicate_succ,flatten_cons,flatten_cons];exact Vals.append h (Vals.rep h k)
theorem Fr {α:Type}:∀ (l:List α) (i:Nat),(l.eraseIdx i).length<=l.length
 | [],_=>An _
 | _ :: _,0=>le_succ _
 | _ :: r,i + 1=>succ_le_succ (Fr r i)
theorem Fu (its:List Value):∀ (k:Nat) (gf:List Value),
  List.foldl (λx1 x2=>x1 ++ x2) gf.toArray (List.replicate k its.toArray)=(gf ++ (List.replicate k its).flatten).toArray
 | 0,gf=>by simp
 | k + 1,gf=>by
  have e:gf.toArray ++ its.toArray=(gf ++ its).toArray:=by simp
  have e2:(gf ++ its) ++ (List.replicate k its).flatten=gf ++ (List.replicate (k + 1) its).flatten:=by
   rw [replicate_succ,flatten_cons,append_assoc]
  rw [<- e2,<- Fu its k (gf ++ its),<- e,replicate_succ,foldl_cons]
section
variable {X:Cx} {fo:List (Addr × Obj)} {σ:St} {H:Hp} {s:Shared} {l b:Addr} {xs ys zs:List V}
def Inv.lset {its its':List Value} {t':Nat} (I:Inv X fo σ H s) (hH:H l=some (.lst xs))
  (e:s.heap.get? l=some { cls:=.type "list",data:=.seq its.toArray n }) (hf:f its.toArray=its'.toArray) (hv:Vals ys its') (hz:ys.length<=sizeLine) :
  Inv X fo σ (upd H l (.lst ys)) { s with heap:=s.heap.update l (Obj.mapSeq f),toks:=t' }:=by
 have q:=PySem.IsL.update e f;rw [hf] at q;refine I.write (x:=l) (e:=l) (by rw [hH]; exact trivial) (.inl Y) (λb' u hb hu=>(Heap.get?_update_other s.heap (Obj.mapSeq f) (Ne.symm hb)).trans hu) ⟨_,q⟩ ?_;exact ⟨hz,its',_,hv,q⟩
def Inv.lnew {its:List Value} {t':Nat} (I:Inv X fo σ H s) (hv:Vals ys its) (hz:ys.length<=sizeLine) :
  Inv X fo σ (upd H s.heap.objs.size (.lst ys)) { s with heap:=s.heap.push { cls:=.type "list",data:=.seq its.toArray },toks:=t' } :=
 I.laid (λ_ _ q=>Ak _ q) (An _) ⟨hz,its,0,hv,Ap _ rfl⟩
def Inv.fresh (I:Inv X fo σ H s):H s.heap.objs.size=none:=I.hok.fresh (An _)
def Inv.lstM (I:Inv X fo σ H s) (hH:H l=some (.lst xs)):xs.length<=sizeLine/\∃ (its:List Value) (n:Nat),Vals xs its/\xs.length=its.length/\s.heap.get? l=some { cls:=.type "list",data:=.seq its.toArray n }:=by
 obtain ⟨z,its,n,r,e⟩:=I.hok l _ hH;exact ⟨z,its,n,r,r.length,e⟩
def Zjo (h:n<=sizeLine):Builtin.List.listTooLong n=false:=by
 unfold Builtin.List.listTooLong;exact decide_eq_false (by lia)
end
section
variable {X:Cx}
def Zlo:V->List V->Hp->VK->Prop:=λx vs H Q=>∃ l xs y,x=.ref l/\vs=[y]/\H l=some (.lst xs)/\xs.length < sizeLine/\Q .non (upd H l (.lst (xs ++ [y])))
def Xl:MtM X "list.append" Zlo:=by
 intro fo s σ H x vs v us Q I rx rv h;obtain ⟨l,xs,y,rfl,rfl,hH,hz,q⟩:=h;cases rx;obtain ⟨u,rfl,ru⟩:=rv.one;obtain ⟨z,its,n,r,hl,e⟩:=I.lstM hH;refine call_meets F.slot_list_append ⟨_,e,Y⟩ F.entry_list_append (F.args_list_append_2 _ _) (PySem.list_append l its.toArray n u (by rw [Aq]; lia)) ⟨e,?_⟩;refine ⟨.non,_,I.lset (its':=its ++ [u]) hH e (by simp) (r.append (.cons ru .nil)) ?_,Y,q⟩;rw [Ae,At];lia
def Znh:V->List V->Hp->VK->Prop:=λx vs H Q=>∃ l xs i k y,x=.ref l/\vs=[.int i]/\H l=some (.lst xs)/\-(2 ^ 63)<=i/\i < 2 ^ 63/\seqIndex? i xs.length=some k/\xs[k]?=some y/\Q y (upd H l (.lst (xs.eraseIdx k)))
def Zb6:MtM X "list.pop" Znh:=by
 intro fo s σ H x vs v us Q I rx rv h;obtain ⟨l,xs,i,k,y,rfl,rfl,hH,h1,h2,hk,hy,q⟩:=h;cases rx;obtain ⟨u,rfl,ru⟩:=rv.one;obtain ⟨t,rfl⟩:=ru;obtain ⟨z,its,n,r,hl,e⟩:=I.lstM hH;obtain ⟨w,hw,jp⟩:=r.get hy;refine call_meets F.slot_list_pop ⟨_,e,Y⟩ F.entry_list_pop (F.args_list_pop_2 _ _)
  (MeetsSeq.list_pop_at l its.toArray n i t k w (fitsIndex_both h1 h2) (by rw [Aq,<- hl]; exact hk) (by rw [<- Array.getElem?_toList]; exact hw) (by rw [Aq]; lia)) ⟨e,?_⟩
 refine ⟨y,_,I.lset (its':=its.eraseIdx k) hH e ?_ (r.eraseIdx k) ?_,jp,q⟩
 ·show its.toArray.eraseIdxIfInBounds k=(its.eraseIdx k).toArray
  rw [eraseIdxIfInBounds_toArray]
 ·have:=Fr xs k
  lia
def rCat:R2:=λx y H Q=>∃ l b xs zs,x=.ref l/\y=.ref b/\H l=some (.lst xs)/\H b=some (.lst zs)/\xs.length + zs.length<=sizeLine/\∀ p,H p=none->Q (.ref p) (upd H p (.lst (xs ++ zs)))
def Znt:OpR X (binaryOp .Add) rCat:=by
 intro fo s σ H x y v u Q I rx ry h;obtain ⟨l,b,xs,zs,rfl,rfl,hH,hB,hz,q⟩:=h;cases rx;cases ry;obtain ⟨z,its,n,r,hl,e⟩:=I.lstM hH;obtain ⟨z2,xm,n2,r2,ij,e2⟩:=I.lstM hB;refine PySem.P.add_list e e2 ?_ (by rw [Aq,Aq]; lia);have ea:its.toArray ++ xm.toArray=(its ++ xm).toArray:=by simp
 rw [ea];exact ⟨.ref _,_,I.lnew (t':=s.toks) (r.append r2) (by rw [Ae]; lia),rfl,q _ I.fresh⟩
def rRep:R2:=λx y H Q=>∃ l k xs,x=.ref l/\y=.int k/\H l=some (.lst xs)/\-(2 ^ 63)<=k/\k < 2 ^ 63/\xs.length * k.toNat<=sizeLine /\
 ∀ p,H p=none->Q (.ref p) (upd H p (.lst (List.replicate k.toNat xs).flatten))
def Zl9 {α:Type} (xs:List α) (k:Nat):(List.replicate k xs).flatten.length=k * xs.length:=by
 induction k with
 | zero=>simp
 | succ k ih=>rw [replicate_succ,flatten_cons,Ae,ih,succ_mul,Nat.add_comm]
def Kw:OpR X (binaryOp .Mult) rRep:=by
 intro fo s σ H x y v u Q I rx ry h;obtain ⟨l,k,xs,rfl,rfl,hH,h1,h2,hz,q⟩:=h;cases rx;obtain ⟨t,rfl⟩:=ry;obtain ⟨z,its,n,r,hl,e⟩:=I.lstM hH;have fw:its.toArray.size * k.toNat<=sizeLine:=by rw [Aq,<- hl]; exact hz
 have hcap:¬ its.toArray.size * k.toNat > (2 ^ 63 - 1) / 8:=by
  have:(sizeLine:Nat)<=(2 ^ 63 - 1) / 8:=by decide
  lia
 have hfit:¬ (!Builtin.List.listFitsIndex k)=true:=by
  rw [fitsIndex_both h1 h2];exact Bool.false_ne_true
 have yj:¬ Builtin.List.listTooLong (its.toArray.size * k.toNat)=true:=by
  rw [Zjo fw];exact Bool.false_ne_true
 have m7:List.foldl (λx1 x2=>x1 ++ x2) #[] (List.replicate (if its.toArray.isEmpty=true then 0 else k.toNat) its.toArray)=(List.replicate k.toNat its).flatten.toArray:=by
  have f0:∀ m:Nat,List.foldl (λx1 x2=>x1 ++ x2) #[] (List.replicate m its.toArray)=(List.replicate m its).flatten.toArray:=λm=>by
   have:=Fu its m [];rw [nil_append] at this;exact this
  rw [f0]
  cases its with
  | nil=>simp
  | cons a r'=>rw [if_neg (by simp)]
 refine wpAny_binaryOp_repeat_ref (T:="list") (U:="int") (by decide) ⟨_,e,rfl⟩ (λs'=>typeIs_int s' k t) noFill_list_mul F.fills_int_mul F.slot_int_rmul repeat_list F.slot_int_index.lookup
  (call_meets F.slot_int_rmul (typeIs_int s k t) F.entry_int_rmul (F.args_int_rmul_2 _ _) (int___rmul___int_list k t l its.toArray n)
   ⟨e,rfl,⟨_,e,rfl⟩,call_meets F.slot_list_mul ⟨_,e,rfl⟩ F.entry_list_mul (F.args_list_mul_2 _ _) (AutoListH.list___mul___list_int_3 l its.toArray n k t hfit hcap yj) ⟨e,?_⟩⟩)
 rw [m7];exact ⟨.ref _,_,I.lnew (t':=s.toks) (r.rep k.toNat) (by rw [Zl9,Nat.mul_comm]; exact hz),Y,q _ I.fresh⟩
end
section
variable {κ:Type} [DecidableEq κ]
def valV (kvs:List (κ × V)) (k:κ):Option V:=(kvs.find? λkv=>decide (kv.1=k)).map (·.2)
def putK (kvs:List (κ × V)) (k:κ) (v:V):List (κ × V) :=
 if (kvs.any λkv=>decide (kv.1=k))=true then kvs.map (λkv=>if kv.1=k then (kv.1,v) else kv) else kvs ++ [(k,v)]
def Ow {p:κ × V} {r:List (κ × V)} (e:p.1=k):valV (p :: r) k=some p.2:=by simp [valV,find?_cons,e]
def Ox {p:κ × V} (e:¬ p.1=k):valV (p :: r) k=valV r k:=by simp [valV,find?_cons,e]
theorem Zap (k:κ):∀ kvs:List (κ × V),(kvs.any λkv=>decide (kv.1=k))=(valV kvs k).isSome
 | []=>rfl
 | p :: r=>by
  rw [any_cons];by_cases e:p.1=k
  ·simp only [Ow e,decide_eq_true e,Bool.true_or,Option.isSome_some]
  ·rw [Ox e,decide_eq_false e,Bool.false_or]; exact Zap k r
def Jx (kvs:List (κ × V)) (k:κ) (v:V):(putK kvs k v).length<=kvs.length + 1:=by
 unfold putK;split
 ·rw [Ab]; lia
 ·rw [Ae,length_cons,length_nil]; lia
def RelO.isSome_eq {o:Option V} {u:Option Value} (r:RelO o u):o.isSome=u.isSome:=by
 cases o with
 | none=>cases u with
  | none=>rfl
  | some _=>exact (show False from r).elim
 | some _=>cases u with
  | none=>exact (show False from r).elim
  | some _=>rfl
def KV.val (r:KV kvs vs) (k:κ):RelO (valV kvs k) (valueAt vs k):=by
 unfold KV at r
 induction r with
 | nil=>exact True.intro
 | @cons p q ps qs h t ih =>
  obtain ⟨h1,h2⟩:=h;by_cases e:p.1=k
  ·have e':q.1=k:=h1.symm.trans e
   have b:valueAt (q :: qs) k=some q.2:=by simp [valueAt,find?_cons,e']
   rw [Ow e,b]; exact h2
  ·have e':¬ q.1=k:=λz=>e (h1.trans z)
   have b:valueAt (q :: qs) k=valueAt qs k:=by simp [valueAt,find?_cons,e']
   rw [Ox e,b]; exact ih
def KV.any {kvs:List (κ × V)} {vs:List (κ × Value)} (r:KV kvs vs) (k:κ):(kvs.any λkv=>decide (kv.1=k))=vs.any λkv=>decide (kv.1=k):=by
 unfold KV at r
 induction r with
 | nil=>rfl
 | cons h t ih=>rw [any_cons,any_cons,ih,h.1]
def KV.repl {kvs:List (κ × V)} {vs:List (κ × Value)} (r:KV kvs vs) (k:κ) (ry:RelV y u) :
  KV (kvs.map λkv=>if kv.1=k then (kv.1,y) else kv) (vs.map λkv=>if kv.1=k then (kv.1,u) else kv):=by
 unfold KV at r ⊢
 induction r with
 | nil=>exact .nil
 | @cons p q ps qs h t ih =>
  rw [map_cons,map_cons];refine .cons ?_ ih;obtain ⟨h1,h2⟩:=h;by_cases e:p.1=k
  ·rw [if_pos e,if_pos (h1.symm.trans e)]; exact ⟨h1,ry⟩
  ·rw [if_neg e,if_neg (λz=>e (h1.trans z))]; exact ⟨h1,h2⟩
def KV.put (r:KV kvs vs) (k:κ) (ry:RelV y u):KV (putK kvs k y) (stored vs k u):=by
 unfold putK stored;rw [r.any k];by_cases e:(vs.any λkv=>decide (kv.1=k))=true
 ·rw [if_pos e,if_pos e]; exact r.repl k ry
 ·rw [if_neg e,if_neg e]; exact Paired.snoc r ⟨Y,ry⟩
def KV.length {kvs:List (κ × V)} {vs:List (κ × Value)} (r:KV kvs vs):kvs.length=vs.length:=Paired.length r
end
def Oc (r:RelV (kV k) u):(Z4 P w).is k u=true:=by
 cases k with
 | inl i=>obtain ⟨t,e⟩:=(show ∃ t,u=Value.int i t from r); subst e; exact Zde P w i t
 | inr x=>obtain ⟨t,e⟩:=(show ∃ t,u=Value.str x t from r); subst e; exact Zdd P w x t
theorem Ft:∀ {ks:List Key} {us:List Value},Vals (ks.map kV) us->ItemsAre (Z4 P w) ks us
 | [],_,r=>by rw [map_nil] at r; cases r; exact .nil
 | k :: ks,_,r=>by
  rw [map_cons] at r
  cases r with
  | cons h t=>exact .cons (Oc h) (Ft t)
abbrev KT (H:Hp):List (List Key × V)->List (List Key × Addr × Value)->Prop:=Paired λp q=>p.1=q.1/\H q.2.1=some (.tup (p.1.map kV))/\RelV p.2 q.2.2
def KT.val (r:KT H kvs xs) (k:List Key):RelO (valV kvs k) ((atKey xs k).map (·.2)):=by
 induction r with
 | nil=>exact True.intro
 | @cons p q ps qs h t ih =>
  obtain ⟨h1,_,h2⟩:=h;by_cases e:p.1=k
  ·have e':q.1=k:=h1.symm.trans e
   have b:atKey (q :: qs) k=some q.2:=by simp [atKey,find?_cons,e']
   rw [Ow e,b]; exact h2
  ·have e':¬ q.1=k:=λz=>e (h1.trans z)
   have b:atKey (q :: qs) k=atKey qs k:=by simp [atKey,find?_cons,e']
   rw [Ox e,b]; exact ih
def KT.repl {kvs:List (List Key × V)} {xs:List (List Key × Addr × Value)} (r:KT H kvs xs) (k:List Key) (ry:RelV y u) :
  KT H (kvs.map λkv=>if kv.1=k then (kv.1,y) else kv) (xs.map (putAt k u)):=by
 induction r with
 | nil=>exact .nil
 | @cons p q ps qs h t ih =>
  rw [map_cons,map_cons];refine .cons ?_ ih;obtain ⟨h1,h2,h3⟩:=h;unfold putAt;by_cases e:p.1=k
  ·rw [if_pos e,if_pos (h1.symm.trans e)]; exact ⟨h1,h2,ry⟩
  ·rw [if_neg e,if_neg (λz=>e (h1.trans z))]; exact ⟨h1,h2,h3⟩
def KT.put (r:KT H kvs xs) (k:List Key) (hb:H b=some (.tup (k.map kV))) (ry:RelV y u) :
  KT H (putK kvs k y) (storedH xs k b u):=by
 have e:(kvs.any λkv=>decide (kv.1=k))=(atKey xs k).isSome:=by
  rw [Zap,(r.val k).isSome_eq,Option.isSome_map]
 unfold putK storedH;rw [e];by_cases q:(atKey xs k).isSome=true
 ·rw [if_pos q,if_pos q]; exact r.repl k ry
 ·rw [if_neg q,if_neg q]; exact Paired.snoc r ⟨Y,hb,ry⟩
def KT.keeps (r:KT H kvs xs) (ht:∀ b ys,H b=some (.tup ys)->H' b=some (.tup ys)):KT H' kvs xs :=
 Paired.mapP r λ_ _ z=>⟨z.1,ht _ _ z.2.1,z.2.2⟩
section
variable {P:Program} {w:World} {H:Hp} {h:Heap} {a:Addr}
def Zkp (ok:HOk P w H h) (e:Rd H a u):Z3 P w H h a u:=e.ok ok
def Qh {kvs:List (Key × V)} (ok:HOk P w H h) (e:Rd H a (.dK kvs)):kvs.length<=sizeLine/\(a == sysModules)=false/\∃ vs,KV kvs vs/\h.DictOf (Z4 P w) a vs :=
 show Z3 P w H h a (.dK kvs) from Zkp ok e
def Zf7 {kvs:List (Key × V)} (ok:HOk P w H h) (e:H a=some (.dK kvs)):kvs.length<=sizeLine/\(a == sysModules)=false/\∃ vs,KV kvs vs/\h.DictOf (Z4 P w) a vs:=Qh ok (.inl e)
def K2 {ks:List Key} (ok:HOk P w H h) (e:H a=some (.tup (ks.map kV))):(tupleKind (Z4 P w)).is h ks a:=by
 obtain ⟨_,its,r,o,h1,h2,n,h3⟩:=(show Z3 P w H h a (.tup (ks.map kV)) from ok a _ e);exact ⟨o,its.toArray,n,h1,h2,h3,by simpa using Ft r⟩
def Gc {kvs:List (List Key × V)} (ok:HOk P w H h) (e:Rd H a (.dT kvs)):kvs.length<=sizeLine/\(a == sysModules)=false /\
  ∃ xs,KT H kvs xs/\h.DictOfH (tupleKind (Z4 P w)) a xs:=by
 obtain ⟨z,y,xs,r,o,es,ep,h1,h2,h3,h4,h5⟩:=(show Z3 P w H h a (.dT kvs) from Zkp ok e);refine ⟨z,y,xs,r,o,es,ep,h1,h2,h3,h4,λx hx=>?_,h5⟩
 have all:∀ {l:List (List Key × V)} {m:List (List Key × Addr × Value)},KT H l m->∀ x∈m,(tupleKind (Z4 P w)).is h x.1 x.2.1:=by
  intro l m q
  induction q with
  | nil=>intro x hx; exact nomatch hx
  | @cons p q ps qs hq t ih =>
   intro x hx
   rcases Ar hx with e | hx
   ·subst e
    exact K2 ok (by rw [<- hq.1]; exact hq.2.1)
   ·exact ih x hx
 exact all r x hx
def Zpa {kvs:List (List Key × V)} (ok:HOk P w H h) (e:H a=some (.dT kvs)):kvs.length<=sizeLine/\(a == sysModules)=false /\
  ∃ xs,KT H kvs xs/\h.DictOfH (tupleKind (Z4 P w)) a xs:=Gc ok (.inl e)
end
def DGet (H:Hp) (a:Addr) (y:V) (r:Option V):Prop :=
 (∃ kvs k,Rd H a (.dK kvs)/\y=kV k/\r=valV kvs k)\/∃ kvs k b,Rd H a (.dT kvs)/\y=.ref b/\H b=some (.tup (k.map kV))/\r=valV kvs k
def DPut (H:Hp) (a:Addr) (y v:V) (H':Hp):Prop :=
 (∃ kvs k,H a=some (.dK kvs)/\y=kV k/\kvs.length < sizeLine/\H'=upd H a (.dK (putK kvs k v))) \/
 ∃ kvs k b,H a=some (.dT kvs)/\y=.ref b/\H b=some (.tup (k.map kV))/\kvs.length < sizeLine/\H'=upd H a (.dT (putK kvs k v))
def DPut.k {H:Hp} {a:Addr} {kvs:List (Key × V)} {k:Key} {v:V} (e:H a=some (.dK kvs)) (hl:kvs.length < sizeLine):DPut H a (kV k) v (upd H a (.dK (putK kvs k v))):=.inl ⟨kvs,k,e,rfl,hl,rfl⟩
section
variable {X:Cx} {fo:List (Addr × Obj)} {σ:St} {H:Hp} {s:Shared} {a:Addr} {y v:V} {u r:Value} {o:Option V} {A:Around} {E:Value->Shared->Prop}
def Inv.big (I:Inv X fo σ H s):sysModules < s.heap.objs.size:=by
 have h:mainGlobals < s.heap.objs.size:=(I.mod.glob.keeps I.bk).lt;exact Nat.lt_trans (by decide) h
def Fw (hu:A.units + 1 < cLine) (I:Inv X fo σ H s) (g:DGet H a y (some v)) (ry:RelV y u) (h:∀ w' s',Inv X fo σ H s'->RelV v w'->Q w' s') :
  wpAny (a:) A (getItem (.ref a) u) Q E s:=by
 rcases g with ⟨kvs,k,e,ey,l⟩ | ⟨kvs,k,b,e,ey,eb,l⟩
 ·subst ey
  obtain ⟨z,hd,vs,gm,dd⟩:=Qh I.hok e;obtain ⟨w',hw,jp⟩:=RelO.some_of (v:=v) (o:=valueAt vs k) (by rw [l]; exact gm.val k);exact wpAny_getItem_of (Oc ry) dd.mapOf hw (h w' _ (I.tok _) jp)
 ·subst ey
  cases (show u=Value.ref b from ry);obtain ⟨z,hd,xs,gm,dd⟩:=Gc I.hok e;obtain ⟨w',hw,jp⟩:=RelO.some_of (v:=v) (o:=(atKey xs k).map (·.2)) (by rw [l]; exact gm.val k);obtain ⟨p,hp,me⟩:=Option.map_eq_some_iff.mp hw;refine wpAny_getItem_heap (tupleKind_room_in1 hu) (K2 I.hok eb) dd hp ?_;rw [me];exact h w' _ (I.tok _) jp
def Zmg (hu:A.units + 1 < cLine) (I:Inv X fo σ H s) (g:DGet H a y o) (ry:RelV y u) (h:∀ s',Inv X fo σ H s'->Q (.bool (!o.isSome)) s') :
  wpAny (a:) A (compareOp .NotIn u (.ref a)) Q E s:=by
 rcases g with ⟨kvs,k,e,ey,l⟩ | ⟨kvs,k,b,e,ey,eb,l⟩
 ·subst ey
  obtain ⟨z,hd,vs,gm,dd⟩:=Qh I.hok e;refine wpAny_notIn_of (Oc ry) hd dd.mapOf ?_;rw [<- (gm.val k).isSome_eq,<- l];exact h _ (I.tok _)
 ·subst ey
  cases (show u=Value.ref b from ry);obtain ⟨z,hd,xs,gm,dd⟩:=Gc I.hok e;refine wpAny_notIn_heap (tupleKind_room_in1 hu) (K2 I.hok eb) hd dd ?_;have q:=(gm.val k).isSome_eq;rw [Option.isSome_map] at q;rw [<- q,<- l];exact h _ (I.tok _)
def Og {h':Heap} {t':Nat} (I:Inv X fo σ H s) (mu:Mut (H a)) (hs:Heap.SameBut a s.heap h') (he:∃ q,h'.get? a=some q) (new:Z3 X.prog X.w (upd H a ob) h' a ob) :
  Inv X fo σ (upd H a ob) { s with heap:=h',toks:=t' } :=
 I.write (x:=a) (e:=a) mu (.inl rfl) (λb q hb z=>(hs.2 b hb).trans z) he new
def Zcl {h':Heap} {kvs:List (Key × V)} (z:kvs.length<=sizeLine) (hd:(a == sysModules)=false) (gm:KV kvs vs) (dd:h'.DictOf (Z4 P w) a vs) :
  Z3 P w H' h' a (.dK kvs):=⟨z,hd,vs,gm,dd⟩
def Fv (hu:A.units + 1 < cLine) (I:Inv X fo σ H s) (g:DPut H a y v H') (ry:RelV y u) (rv:RelV v r) (h:∀ s',Inv X fo σ H' s'->Q () s') :
  wpAny (a:) A (setItem (.ref a) u r) Q E s:=by
 rcases g with ⟨kvs,k,e,ey,l,eH⟩ | ⟨kvs,k,b,e,ey,eb,l,eH⟩
 ·subst ey eH
  obtain ⟨z,hd,vs,gm,dd⟩:=Zf7 I.hok e;have hz:vs.length<=sizeLine:=by rw [<- gm.length]; exact z
  have hl:(putK kvs k v).length<=sizeLine:=by have:=Jx kvs k v; lia
  refine wpAny_setItem_pairs (hsz:=hz) (Oc ry) dd λh' oq hs=>h _ ?_;have he:∃ q,h'.get? a=some q:=let ⟨q,_,_,hq,_⟩:=oq; ⟨q,hq⟩
  exact Og I (by rw [e]; exact True.intro) hs he (Zcl hl hd (gm.put k rv) oq)
 ·subst ey eH
  cases (show u=Value.ref b from ry);obtain ⟨z,hd,xs,gm,dd⟩:=Zpa I.hok e;have hz:xs.length<=sizeLine:=by rw [<- Paired.length gm]; exact z
  have hl:(putK kvs k v).length<=sizeLine:=by have:=Jx kvs k v; lia
  refine wpAny_setItem_heap (hsz:=hz) (tupleKind_room_in1 hu) (K2 I.hok eb) dd λh' oq hs=>h _ ?_;obtain ⟨q,es,ep,hq,h2,h3,h4,_,h5⟩:=oq;refine Og I (by rw [e]; exact True.intro) hs ⟨q,hq⟩ ⟨hl,hd,_,(gm.put k eb rv).keeps λc ys ec=>?_,q,es,ep,hq,h2,h3,h4,h5⟩;rw [Ze (Zoy ec e (λz=>nomatch z))];exact ec
end
section
variable {X:Cx} {fo:List (Addr × Obj)} {σ:St} {H:Hp} {s:Shared} {a:Addr} {kvs:List (Key × V)} {k:Key} {u:Value} {A:Around} {E:Value->Shared->Prop}
def Zpc (I:Inv X fo σ H s) (e:Rd H a (.dK kvs)) (h:∀ t s',Inv X fo σ H s'->Q (.int kvs.length t) s'):wpAny (a:) A (call (.builtin "len") [.ref a]) Q E s:=by
 obtain ⟨z,hd,vs,gm,dd⟩:=Qh I.hok e;refine call_len_dict hd dd (by rw [<- gm.length]; rw [sizeLine_eq] at z; lia) ?_;rw [<- gm.length];exact h _ _ (I.tok _)
end
def NoSl (i:Expr):Prop:=∀ ov iv,subscripted i false ov iv=operate [ov,iv] (getItem ov iv)
def Zk6 {prog:Program} {w:World} {A:Around} {E:Value->Shared->Prop} {s:Shared} {env:Env} {value ik:Expr} {pos:Pos} {T id:String} {Q:Value->Shared->Prop}
  (hl:typeLookup (.type T) "__getitem__"=pure (some (.builtin id))) (hs:NoSl ik)
  (h:wpAny (d:) A (eval value env) (λo s₁=>wpAny (d:) A (eval ik env) (λi s₂=>s₂.TypeIs o T/\wpAny (d:) A (getItem o i) Q E s₂) E s₁) E s) :
  wpAny (d:) A (eval (.Subscript value ik pos) env) Q E s:=by
 refine Subscript_ (wpAny_mono h (λo s₁ h₁=>wpAny_mono h₁ (λi s₂ h₂=>?_) λ_ _ x=>x) λ_ _ x=>x);obtain ⟨hT,h₂⟩:=h₂;unfold subscriptTail;refine Al ?_;rw [getitemInPython_of_ne hT.not_modules];refine Al (wpAny_specialOf hT hl ?_);have fin:wpAny (d:) A (subscripted ik false o i) (λr s₃=>wpAny (d:) A (letTemporaryGo value o r >>= λ_=>pure r) Q E s₃) E s₂:=by
  rw [hs o i]
  exact wpAny_operating (wpAny_mono h₂ (λr s₃ h₃=>Al (wpAny_letTemporaryGo (wpAny_pure h₃))) λ_ _ x=>x)
 first
  | exact wpAny_pure (Al fin)
  | exact Al (wpAny_pure (Al fin))
  | exact Al fin
def Zdi {s:Shared} (I:Inv X fo σ H s) (g:DGet H a y o):s.TypeIs (.ref a) "dict":=by
 rcases g with ⟨kvs,k,e,_,_⟩ | ⟨kvs,k,b,e,_,_,_⟩
 ·obtain ⟨_,_,vs,_,dd⟩:=Qh I.hok e
  exact dd.typeIs
 ·obtain ⟨_,_,xs,_,dd⟩:=Gc I.hok e
  exact dd.typeIs
def Zol (td ty:TE):TE:=λσ H Q=>td σ H λx H1=>ty σ H1 λy H2=>∃ a v,x=.ref a/\DGet H2 a y (some v)/\Q v H2
def Zk5 (ty td:TE):TE:=λσ H Q=>ty σ H λy H1=>td σ H1 λx H2=>∃ a o,x=.ref a/\DGet H2 a y o/\Q (.bl (!o.isSome)) H2
def Zoq (td ty tv:TE):TS:=λD σ H=>tv σ H λv H1=>td σ H1 λx H2=>ty σ H2 λy H3=>∃ a H4,x=.ref a/\DPut H3 a y v H4/\D.nx σ H4
def Zor (td ty tv:TE) (rd:V->V->Hp->VK->Prop):TS:=λD σ H=>td σ H λx H1=>ty σ H1 λy H2=>∃ a v,x=.ref a/\DGet H2 a y (some v) /\
 tv σ H2 λy2 H3=>rd v y2 H3 λz H4=>∃ H5,DPut H4 a y z H5/\D.nx σ H5
section
variable {X:Cx} {o i e value:Expr} {pos iz ji:Pos} {td ty tv:TE}
def Wb (hu:X.A.units + 1 < cLine) (ho:PE X o td) (hi:PE X i ty) (hs:NoSl i):PE X (.Subscript o i pos) (Zol td ty):=by
 intro fo s σ H Q I h;refine Zk6 PySem.F.slot_dict_getitem.lookup hs (thn (ho fo s σ H _ I h) λu s1 zz23=>?_);obtain ⟨x,H1,I1,rx,q1⟩:=zz23;refine thn (hi fo s1 σ H1 _ I1 q1) λiv s2 gc=>?_;obtain ⟨y,H2,I2,ry,a,v,ex,g,q2⟩:=gc;subst ex;obtain rfl:u=Value.ref a:=rx;exact ⟨Zdi I2 g,Fw hu I2 g ry λw' s3 I3 jp=>⟨v,H2,I3,jp,q2⟩⟩
def Fm (hu:X.A.units + 1 < cLine) (hi:PE X i ty) (ho:PE X o td):PC X .NotIn i o (Zk5 ty td):=by
 intro fo s σ H Q I h;refine thn (hi fo s σ H _ I h) λiv s1 zz24=>?_;obtain ⟨y,H1,I1,ry,q1⟩:=zz24;refine thn (ho fo s1 σ H1 _ I1 q1) λu s2 gc=>?_;obtain ⟨x,H2,I2,rx,a,ov,ex,g,q2⟩:=gc;subst ex;obtain rfl:u=Value.ref a:=rx;exact Zmg hu I2 g ry λs3 I3=>⟨.bl (!ov.isSome),H2,I3,Y,q2⟩
def Zd2 (hu:X.A.units + 1 < cLine) (ho:PE X o td) (hi:PE X i ty) (hv:PE X value tv) (hs:swapsWith value (some (.Subscript o i iz)) pos.line X.env=pure false) :
  PS X (.Assign [.Subscript o i iz] value pos) (Zoq td ty tv):=by
 intro fo s σ H D I h;refine wpAny_Assign_Subscript (thn (hv fo s σ H _ I h) λr s1 zz25=>?_) hs;obtain ⟨v,H1,I1,rv,q1⟩:=zz25;refine thn (ho fo s1 σ H1 _ I1 q1) λu s2 zz26=>?_;obtain ⟨x,H2,I2,rx,q2⟩:=zz26;refine thn (hi fo s2 σ H2 _ I2 q2) λiv s3 zz27=>?_;obtain ⟨y,H3,I3,ry,a,H4,ex,g,q3⟩:=zz27;subst ex;obtain rfl:u=Value.ref a:=rx;exact Fv hu I3 g ry rv λs4 I4=>⟨σ,H4,I4,q3⟩
def Zls (hu:X.A.units + 1 < cLine) (ho:PE X o td) (hi:PE X i ty) (hv:PE X value tv) (hop:InOp X op rd)
  (ha:∀ ov iv new,augStore i ov iv new=(do holding [new,ov,iv] (setItem ov iv new); release [new,ov,iv] []; pure .next)):PS X (.AugAssign (.Subscript o i ji) op value pos) (Zor td ty tv rd):=by
 intro fo s σ H D I h;refine wpAny_AugAssign_SubscriptAny (thn (ho fo s σ H _ I h) λu s1 zz28=>?_) ha;obtain ⟨x,H1,I1,rx,q1⟩:=zz28;refine thn (hi fo s1 σ H1 _ I1 q1) λiv s2 zz29=>?_;obtain ⟨y,H2,I2,ry,a,v,ex,g,q2⟩:=zz29;subst ex;obtain rfl:u=Value.ref a:=rx;refine Fw hu I2 g ry λw' s3 I3 jp=>thn (hv fo s3 σ H2 _ I3 q2) λw2 s4 zz30=>?_;obtain ⟨y2,H3,I4,ry2,q3⟩:=zz30;refine thn (hop fo s4 σ H3 v y2 w' w2 _ I4 jp ry2 q3) λw3 s5 gc=>?_;obtain ⟨z,H4,I5,rz,H5,g5,q4⟩:=gc;exact Fv hu I5 g5 ry rz λs6 I6=>⟨σ,H5,I6,q4⟩
end
def O9 (h:Heap) (hb:sysModules < h.objs.size):Z3 P w H (h.push { cls:=.type "dict",data:=.dict #[] }) h.objs.size (.dK []) :=
 ⟨Az _,beq_eq_false_iff_ne.mpr (Ne.symm (As hb)),[],.nil,Heap.DictOf.new h⟩
def Zm4:TE:=λ_ H Q=>∀ p,H p=none->Q (.ref p) (upd H p (.dK []))
section
variable {X:Cx} {pos:Pos}
def Zbv:PE X (.Dict [] [] pos) Zm4:=λfo s σ H Q I h =>
 wpAny_Dict_empty ⟨.ref s.heap.objs.size,_,I.laid (a:=s.heap.objs.size) (o:=.dK []) (t':=s.toks) (λ_ _ q=>Ak _ q) (An _) (O9 s.heap I.big),rfl,h _ (I.hok.fresh (An _))⟩
end
structure M2 (X:Cx) (o:Expr) (m:Str) (gk:Pos) (e f:Expr) (gh:Pos):Prop where
 base:attributeBase o m X.env (eval o X.env)=eval o X.env
 few:((backTo gh (starEach [e,f] X.env)).all (λx=>!x.1) && (backToKw gh (keywordEach [] X.env)).all (λx=>x.1.isSome)
  && decide (([e,f]:List Expr).length + ([]:List Keyword).length + (if ([]:List Keyword).isEmpty then 0 else 1) < 30))=true
 line:(gk.endLine == gh.line)=true
 trees:backTo gh (starEach [e,f] X.env)=[(false,eval e X.env),(false,eval f X.env)]
def IsD (H:Hp) (a:Addr):Prop:=(∃ kvs,Rd H a (.dK kvs))\/∃ kvs,Rd H a (.dT kvs)
def K8 {s:Shared} (I:Inv X fo σ H s) (d:IsD H a) :
  s.TypeIs (.ref a) "dict"/\(∀ b,Value.ref a=.ref b->∃ ob,s.heap.get? b=some ob/\ob.dict=none)/\(a == sysModules)=false:=by
 rcases d with ⟨kvs,e⟩ | ⟨kvs,e⟩
 ·obtain ⟨_,hd,vs,_,dd⟩:=Qh I.hok e
  refine ⟨dd.typeIs,λb q=>?_,hd⟩;cases q;obtain ⟨ob,_,_,h1,h2,_⟩:=dd;exact ⟨ob,h1,h2.2.1⟩
 ·obtain ⟨_,hd,xs,_,dd⟩:=Gc I.hok e
  refine ⟨dd.typeIs,λb q=>?_,hd⟩;cases q;obtain ⟨ob,_,_,h1,h2,_⟩:=dd;exact ⟨ob,h1,h2.2.1⟩
end L2
namespace Att
open PySem PySem.W PySem.Calls PyProof.Rows
def K9:∀ (ns:List Int) (vs:List Value),WellAll P h vs (ns.map WData.int)->IntsAre vs ns:=by
 intro ns
 induction ns with
 | nil =>
  intro vs w;rw [map_nil] at w;cases w;exact .nil
 | cons n ns ih =>
  intro vs w;rw [map_cons] at w
  cases w with
  | cons a b =>
   cases a;exact .cons _ _ (ih _ b)
def Zgx {l:OpenLaw} (hn:l.most=some n) {h:Heap}
  (p9:l.row.toRowW.claim.pre args=true) (l9:WellAll P h xg args) :
  ∃ a vs ns,xg=[Value.ref a]/\args=[WData.list (ns.map WData.int)]/\h.get? a=some { cls:=.type "list",data:=.seq vs.toArray }/\IntsAre vs ns/\ns.length<=n:=by
 have wg:WShape.hasAll [] args [.list .int]=true:=(pre_splitW p9).1;have hc:l.pre.holds [] { args:=args }=true:=(pre_splitW p9).2;obtain ⟨d,r,rfl,h1,h2⟩:=hasAllW_cons wg;obtain rfl:=hasAllW_nil h2;obtain ⟨xs,rfl,h3⟩:=hasW_list h1;obtain ⟨ns,rfl⟩:=items_int h3
 have fw:ns.length<=n:=by
  unfold OpenLaw.pre at hc;have h4:(WTm.not (.lt (.lit (.int (n:Int))) (.len (.arg 0)))).holds [] { args:=[.list (ns.map .int)] }=true:=by
   have h4:=(holds_andW hc).1
   rw [hn] at h4
   exact h4
  have h5:=condW_of h4 (w_not (w_lt w_lit (w_len_list (w_arg rfl))));rw [Ab] at h5;refine Nat.le_of_not_lt λq=>?_;have q':(n:Int) < ((ns.length:Nat):Int):=by lia
  first
   | (rw [decide_eq_true q'] at h5; exact absurd h5 (by decide))
   | (simp at h5; lia)
 cases l9 with
 | cons w1 w2 =>
  cases w2
  cases w1 with
  | list ho ig=>exact ⟨_,_,ns,Y,Y,ho,K9 ns _ ig,fw⟩
def Zhb (l:OpenLaw) (args:List WData):l.row.toRowW.claim.post args (.bool true) args=true :=
 postW_of (r:=l.row.toRowW) (X:=(true == true))
  (show WShape.has [] (.bool true) .bool=true by first | rfl | decide | simp [WShape.has,WShape.arms,WShape.armsAll])
  (show (WTm.eq .res (.lit (.bool true))).value [] { args:=args,res:=some (.bool true),after:=args }=some (.bool (true == true)) from w_eq_bool (w_res rfl) w_lit) rfl
def attach_call {l:OpenLaw} {d:DefRec}
  (hn:l.most=some n) (ww:d.params.defaults=[])
  (call:∀ (w:World) (s₀ s₁:Shared) (mg mb:Str->Option Value) (fa:Addr) (o:Obj) (pm cd g6:Value) (a:Addr) (vs:List Value) (ns:List Int),
   Ground q k8 [] XP w s₀ mg mb s₁.heap->YP w s₁.heap ->
   s₁.heap.get? fa=some o->o.data=.func (docDef d.name d.params d.body d.scope pm cd g6)->s₁.heap.CodeRec cd d.name->mg d.name=some (.ref fa) ->
   s₁.heap.get? a=some { cls:=.type "list",data:=.seq vs.toArray }->IntsAre vs ns->ns.length<=n->s₁.gens=#[] ->
   codeAny (model l.prog w) callerA (.call (.ref fa) ⟨[.ref a],[]⟩) (λr s'=>r=.ok (.ret (.bool true))/\OldK s₁.heap s'.heap/\s'.os=s₁.os/\AllBare s'.gens) s₁) :
  WalkO q k8 XP YP l.row.toRowW d [] (λf vs=>PySem.call f vs):=by
 intro w s₀ s₁ mg mb G Qzj fa o pm cd g6 dV kV ho hd lh hD hmg hg args xg as p9 hlay hrd l9 r9;obtain rfl:dV=.none:=Dflts.none hD ww;obtain rfl:kV=.none:=Dflts.noKw hD;obtain ⟨a,vs,ns,rfl,rfl,tp,nv,fw⟩:=Zgx hn p9 l9;refine enter_call (codeAny_mono (call w s₀ s₁ mg mb fa o pm cd g6 a vs ns G Qzj ho (fd_plain hd) lh hmg tp nv fw hg) λr s' hq=>?_);obtain ⟨rfl,h2,h3,h4⟩:=hq;exact ⟨.inl ⟨.bool true,.bool true,[],Y,λ_=>rfl,.bool true,Zhb l _,λ_=>⟨List.Pairwise.nil,λ_ hm=>(nomatch hm)⟩⟩,h2,h3,h4⟩
end Att
namespace L2
open PySem PySem.Spec PyProof.Rows
theorem G9:∀ {vs:List Value} {ns:List Int},IntsAre vs ns->Vals (ns.map V.int) vs
 | _,_,.nil=>.nil
 | _,_,.cons n t h=>.cons ⟨t,rfl⟩ (G9 h)
def Only (H:Hp):Prop:=∀ b,H b=none\/∃ o xs,H b=some (.frz o (.lst xs))
def Zj0 {K:W.Frag} {s₁:Shared} {vs:List Value} {ns:List Int}
  (KX:K.In s₁.heap) (pe:s₁.heap.Ns mainGlobals mg) (hb:s₁.heap.Ns builtinsNs mb) (hbb:∀ x:Str,x≠"__name__"->mb x=bootBuiltins x) (hlim:s₁.heap.NoLimit) (hg:s₁.gens=#[])
  (ha:s₁.heap.get? a=some { cls:=.type "list",data:=.seq vs.toArray }) (hi:IntsAre vs ns) (hl:ns.length<=sizeLine) (hr:Room k callerA)
  (F:∀ base:Heap,K.In base->base.Ns mainGlobals mg->FnOk P w K mg base CX k fa fd [x] sp) (ym:∀ (s:Shared) (u:Value),BindsTo s fd ⟨[u],[]⟩ [(x,u)])
  (jh:∀ H:Hp,Only H->SqL K H a (ns.map V.int)->sp [.ref a] H (λv _=>v=.bl true) λ_ _ _=>False)
  (hCX:∀ H e s',CX [] H s₁ (λ_ _ _=>False) e s'->False) :
  codeAny (model P w) callerA (.call (.ref fa) ⟨[.ref a],[]⟩) (λr s'=>r=.ok (.ret (.bool true))/\OldK s₁.heap s'.heap/\s'.os=s₁.os/\AllBare s'.gens) s₁:=by
 have rv:=G9 hi;have lenV:=hi.length
 have yd:∀ H:Hp,Only H->SqL K H a (ns.map V.int)->HOk P w H s₁.heap->(∀ b,H b≠none->b=a)->(H a≠none->K.lookup a=none) ->
   codeAny (model P w) callerA (.call (.ref fa) ⟨[.ref a],[]⟩) (λr s'=>r=.ok (.ret (.bool true))/\OldK s₁.heap s'.heap/\s'.os=s₁.os/\AllBare s'.gens) s₁:=by
  intro H hO hS hok hA hK;have lf:∀ {b:Addr} {o:Obj},s₁.heap.get? b=some o->H b=none->(hidT s₁.heap H).get? b=some o:=λe n=>Zj2 e n
  have vn:∀ {b:Addr} {o:Obj} {es:Array DictEntry} {ep:Nat},s₁.heap.get? b=some o->o.data=.dict es ep->H b=none:=λ{b o es ep} e d=>by
   cases q:H b with
   | none=>rfl
   | some u =>
    have e':b=a:=hA b (by rw [q]; simp);subst e';rw [ha] at e; cases e;have d':Data.seq vs.toArray _=Data.dict es ep:=d;cases d'
  have y9:∀ {b:Addr} {m:Str->Option Value},s₁.heap.Ns b m->(hidT s₁.heap H).Ns b m:=λ{b m} ⟨o,es,ep,e,d,r⟩=>⟨o,es,ep,lf e (vn e d),d,r⟩
  have hKb:K.In (hidT s₁.heap H):=λb o e=>lf (KX b o e) (by
   cases q:H b with
   | none=>rfl
   | some u =>
    have e':b=a:=hA b (by rw [q]; simp);subst e'
    rw [hK (by rw [q]; simp)] at e; cases e)
  have hM:Mod K mg (hidT s₁.heap H):=⟨hKb,y9 pe,⟨mb,y9 hb,hbb⟩,let ⟨mc,h1,h2⟩:=hlim; ⟨mc,y9 h1,h2⟩⟩;have e0:Env0 P w K mg (hidT s₁.heap H) callerA [] s₁ H:=⟨rfl,hM,λb o e=>Zl0 e,Nat.le_of_eq (Zh1 _ _),trivial,λb hb=>absurd (show b∈([]:List Addr) from hb) (by simp),hok,.of_eq hg⟩;refine codeAny_mono ((F _ hKb (y9 pe)).run callerA [] s₁ H ⟨[.ref a],[]⟩ [.ref a] [.ref a] _ _ hr e0 (ym s₁ (.ref a)) (.cons Y .nil) (jh H hO hS)) λr s' h=>?_
  cases r with
  | error e=>exact (hCX H e s' h).elim
  | ok fl =>
   cases fl with
   | next=>exact False.elim h
   | brk=>exact False.elim h
   | cont=>exact False.elim h
   | ret u =>
    obtain ⟨v,H',os,bare,un,hok',r',q⟩:=h;have q':v=.bl true:=q;subst q';obtain rfl:u=Value.bool true:=r';refine ⟨Y,OldK.of_keep λb o e=>?_,os,bare⟩
    cases q:H b with
    | none=>exact un.keep b o e q (by intro z; exact absurd (show b∈([]:List Addr) from z) (by simp)) (by simp)
    | some u =>
     rcases hO b with z | ⟨ob,xs,z⟩
     ·rw [q] at z; cases z
     ·have z2:=un.frzs b ob _ z
      obtain ⟨e1,_⟩:=hok b _ z;obtain ⟨e2,_⟩:=hok' b _ z2;rw [e] at e1; cases e1;exact e2
 cases hk:K.lookup a with
 | some o =>
  have e:=KX a o hk;rw [ha] at e;cases e;refine yd (λ_=>none) (λ_=>.inl Y) (.inr ⟨_,vs.toArray,_,hk,Y,Y,Y,by rw [Aq,lenV]; exact hl,by simpa using rv⟩) (λb u z=>by have z':(none:Option HO)=some u:=z; cases z') (λb z=>absurd rfl z) λz=>absurd rfl z
 | none =>
  refine yd (λb=>if b=a then some (.frz { cls:=.type "list",data:=.seq vs.toArray } (.lst (ns.map V.int))) else none) (λb=>?_) (.inl (.inr ⟨{ cls:=.type "list",data:=.seq vs.toArray },if_pos rfl⟩)) (λb u z=>?_) (λb z=>?_) λ_=>hk
  ·by_cases hb:b=a
   ·exact .inr ⟨_,_,if_pos hb⟩
   ·exact .inl (if_neg hb)
  ·by_cases hb:b=a
   ·have z':=(if_pos hb).symm.trans z
    cases z';subst hb;exact ⟨ha,by rw [Ab]; exact hl,vs,_,rv,ha⟩
   ·have z':=(if_neg hb).symm.trans z
    cases z'
  ·by_cases hb:b=a
   ·exact hb
   ·exact absurd (if_neg hb) z
abbrev KOf {K:W.Frag} {h:Heap} (_:K.In h):PySem.W.Frag:=K
def Zkz {l:PySem.W.OpenLaw} {d:DefRec} {K:Params->PySem.W.Frag} {CX:World->CXT} {sp:World->Sp} {x:Str}
  (hn:l.most=some n) (zp:n<=sizeLine) (ww:d.params.defaults=[]) (hr:Room k callerA)
  (hY:∀ (w:World) (h:Heap),YP w h->(K w.params).In h)
  (F:∀ (w:World) (mg:Str->Option Value) (fa:Addr) (h:Heap),(K w.params).In h->h.Ns mainGlobals mg->mg d.name=some (.ref fa) ->
   ∃ fd:FuncData,(∀ (s:Shared) (u:Value),BindsTo s fd ⟨[u],[]⟩ [(x,u)]) /\
    ∀ base:Heap,(K w.params).In base->base.Ns mainGlobals mg->FnOk l.prog w (K w.params) mg base (CX w) k fa fd [x] (sp w))
  (jh:∀ (w:World) (H:Hp) (a:Addr) (ns:List Int),ns.length<=n->Only H->SqL (K w.params) H a (ns.map V.int)->sp w [.ref a] H (λv _=>v=.bl true) λ_ _ _=>False)
  (hCX:∀ (w:World) (H:Hp) (s:Shared) (e:Value) (s':Shared),CX w [] H s (λ_ _ _=>False) e s'->False) :
  PySem.W.WalkO q k8 XP YP l.row.toRowW d [] (λf vs=>PySem.call f vs):=by
 refine Att.attach_call hn ww λw s₀ s₁ mg mb fa o pm cd g6 a vs ns G Qzj ho hd lh hmg tp nv fw hg=>?_;have KX:=hY w _ Qzj;obtain ⟨fd,hb,hF⟩:=F w mg fa _ KX G.T.g hmg;exact Zj0 KX G.T.g G.T.b G.T.builtins G.T.nolimit hg tp nv (Nat.le_trans fw zp) hr hF hb (λH hO hS=>jh w H a ns fw hO hS) λH e s'=>hCX w H s₁ e s'
def Xy (s:Stmt) (j:Nat):Stmt:=match s with
 | .ClassDef _ _ _ body _ _ _ _ _ _ _=>body.getD j (.Pass ⟨0,0,0,0⟩)
 | _=>.Pass ⟨0,0,0,0⟩
def Xe (s:Stmt):Arguments:=match s with
 | .FunctionDef _ a _ _ _ _ _ _ _ _=>a
 | _=>{ posonlyargs:=[],args:=[],vararg:=none,kwonlyargs:=[],kw_defaults:=[],kwarg:=none,defaults:=[] }
def Yt (s:Stmt):List Stmt:=match s with
 | .FunctionDef _ _ b _ _ _ _ _ _ _=>b
 | _=>[]
def Zh (s:Stmt):Scope:=match s with
 | .FunctionDef _ _ _ _ _ _ sc _ _ _=>sc
 | _=>{ kind:=.function,names:=[],isGenerator:=false,isCoroutine:=false }
abbrev E0:XK:=λ_ _ _=>False
structure Fun (K:W.Frag) (x qual:Str) (st:Stmt) (f:Addr) (fd:FuncData):Prop where
 ex:∃ (oc:Value) (od:Option Addr) (kV g6 pm:Value) (an:Option Addr) (gx ct:Value) (o7:Array (Option Value)),
  fd=PySem.W.fnOf x qual (Xe st) (Yt st) (Zh st) .none kV g6 pm an gx ct/\K.lookup f=some ⟨oc,od,.func fd,o7⟩/\PySem.W.codeIn K gx qual=true
 kp:PySem.W.keepIn K (.ref f)=true
section
variable {P:Program} {w:World} {K:W.Frag} {mg:Str->Option Value} {base:Heap}
def Fun.binds {x qual:Str} {st:Stmt} {f:Addr} {fd:FuncData} {ps:List Str} (F:Fun K x qual st f fd)
  (h:∀ (kV g6 pm:Value) (an:Option Addr) (gx ct:Value) (us:List Value),us.length=ps.length->bindArgs (PySem.W.fnOf x qual (Xe st) (Yt st) (Zh st) .none kV g6 pm an gx ct) ⟨us,[]⟩=pure (ps.zip us)):We K fd ps []:=by
 obtain ⟨oc,od,kV,g6,pm,an,gx,ct,o7,rfl,lk,lh⟩:=F.ex;exact .all (h kV g6 pm an gx ct)
def Ga {x qual:Str} {st:Stmt} {f:Addr} {oc:Value} {od an:Option Addr} {o7:Array (Option Value)} {kV g6 pm gx ct:Value} (l:K.lookup f=some ⟨oc,od,.func (PySem.W.fnOf x qual (Xe st) (Yt st) (Zh st) .none kV g6 pm an gx ct),o7⟩)
  (c:PySem.W.codeIn K gx qual=true) (k:PySem.W.keepIn K (.ref f)=true):Fun K x qual st f (PySem.W.fnOf x qual (Xe st) (Yt st) (Zh st) .none kV g6 pm an gx ct):=⟨⟨oc,od,kV,g6,pm,an,gx,ct,o7,rfl,l,c⟩,k⟩
end
def Q1 {A:Around} (hr:Room k A):A.units + 1 < cLine:=Nat.lt_of_le_of_lt (Nat.add_le_add_left (by decide:1<=64) _) hr.units
def Zx {n:Nat} (h:n<=1000):n < sizeLine:=Nat.lt_of_le_of_lt h (by decide)
section
variable {X:Cx}
def pv (i:Nat) (hN:X.N[i]?=some x:=by rfl) (hv:Vis X.env.scope x:=by first | exact Or.inl rfl | exact Or.inr (e:) | exact Or.inr (Or.inr rfl)) (hd:(x == ("__debug__":Str))=false:=by decide)
  (lh:(x == ("__classdict__":Str))=false:=by decide):PE X (.Name x pos) (tVar i):=Zno hN hv hd lh
def iteF {A B:Prop} (h:B):if false=true then A else B:=by
 rw [if_neg Bool.false_ne_true];exact h
def iteT {A B:Prop} (h:A):if true=true then A else B:=by
 rw [if_pos rfl];exact h
def ite2 {A B:Prop} [Decidable c] (h1:c->A) (h2:¬ c->B):if c then A else B:=by
 by_cases h:c
 ·rw [if_pos h]
  exact h1 h
 ·rw [if_neg h]
  exact h2 h
def Same (H H':Hp):Prop:=∀ b o,H b=some o->H' b=some o
def Same.refl (H:Hp):Same H H:=λ_ _ h=>h
def Same.trans (a:Same H H1) (b:Same H1 H2):Same H H2:=λc o h=>b c o (a c o h)
def Same.free {H H':Hp} (e:Same H H') {l:Addr} (h:H' l=Option.none):H l=Option.none:=by
 cases q:H l with
 | none=>rfl
 | some o =>
  rw [e l o q] at h;cases h
def Same.seq {K:W.Frag} {H H':Hp} {a:Addr} {xs:List V} (e:Same H H') (h:SqL K H a xs):SqL K H' a xs:=by
 rcases h with (h | ⟨o,h⟩) | h
 ·exact .inl (.inl (e _ _ h))
 ·exact .inl (.inr ⟨o,e _ _ h⟩)
 ·exact .inr h
def F0:Yv X (.builtin "len") (λxs H Q=>∃ a kvs,xs=[V.ref a]/\H a=some (.dK kvs)/\Q (.int kvs.length) H):=by
 intro fo s σ H xs us Q I r h;obtain ⟨a,kvs,rfl,ha,q⟩:=h;obtain ⟨u,rfl,ru⟩:=Xr r;cases ru;exact Zpc I (.inl ha) λt s' I'=>⟨.int kvs.length,H,I',⟨t,Y⟩,q⟩
end
def Yh (env:Env):List (Str × NameKind)->List (Str × Addr)->List (Str × Addr)
 | [],gf=>gf
 | (n,k) :: r,gf=>if (k == NameKind.free)=true then (match env.cells.lookup n with
  | some c=>Yh env r ((n,c) :: gf)
  | none=>Yh env r gf) else Yh env r gf
theorem Ww {env:Env}:∀ (ns:List (Str × NameKind)) (gf:List (Str × Addr)),(∀ x c,gf.lookup x=some c->env.cells.lookup x=some c) ->
  ∀ x c,(Yh env ns gf).lookup x=some c->env.cells.lookup x=some c
 | [],gf,h=>h
 | (n,k) :: r,gf,h=>by
  unfold Yh;split
  ·cases e:env.cells.lookup n with
   | none=>exact Ww r gf h
   | some c =>
    refine Ww r _ λx d hx=>?_;rw [lookup_cons] at hx
    cases hb:x == n with
    | true =>
     rw [hb] at hx;cases hx;rw [beq_iff_eq.mp hb];exact e
    | false =>
     rw [hb] at hx;exact h x d hx
  ·exact Ww r gf h
theorem Wx:∀ (ns:List (Str × NameKind)) (gf:List (Str × Addr)) (x:Str),(∃ c,gf.lookup x=some c)->∃ c,(Yh env ns gf).lookup x=some c
 | [],gf,x,h=>h
 | (n,k) :: r,gf,x,h=>by
  unfold Yh;split
  ·cases e:env.cells.lookup n with
   | none=>exact Wx r gf x h
   | some c =>
    refine Wx r _ x ?_;rw [lookup_cons]
    cases hb:x == n with
    | true=>exact ⟨c,Y⟩
    | false=>exact h
  ·exact Wx r gf x h
theorem Jy {env:Env}:∀ (ns:List (Str × NameKind)) (gf:List (Str × Addr)) (x:Str),(x,NameKind.free)∈ns->(∃ c,env.cells.lookup x=some c)->∃ c,(Yh env ns gf).lookup x=some c
 | [],gf,x,h,_=>by cases h
 | (n,k) :: r,gf,x,h,hc=>by
  rcases Ar h with e | h
  ·cases e
   obtain ⟨c,hc⟩:=hc;unfold Yh;rw [if_pos (show (NameKind.free == NameKind.free)=true by decide),hc];exact Wx r _ n ⟨c,by rw [lookup_cons,beq_self_eq_true]⟩
  ·unfold Yh
   split
   ·cases e:env.cells.lookup n with
    | none=>exact Jy r gf x h hc
    | some c=>exact Jy r _ x h hc
   ·exact Jy r gf x h hc
theorem V2 {env:Env} (f:Str × NameKind->List (Str × Addr)->Sem (ForInStep (List (Str × Addr))))
  (hf:∀ name kind cs,f (name,kind) cs=if (kind == NameKind.free)=true then (do let a <- cellOf env name; pure (.yield ((name,a) :: cs))) else pure (.yield cs)) :
  ∀ (ns:List (Str × NameKind)) (gf:List (Str × Addr)),(∀ y∈ns,y.2=.free->∃ c,env.cells.lookup y.1=some c)->forIn ns gf f=pure (Yh env ns gf)
 | [],gf,_=>by rw [forIn_nil]; rfl
 | (n,k) :: r,gf,h=>by
  rw [forIn_cons,hf];unfold Yh;have hr:∀ y∈r,y.2=.free->∃ c,env.cells.lookup y.1=some c:=λy hy=>h y (mem_cons_of_mem _ hy);split
  ·rename_i hk
   obtain ⟨c,hc⟩:=h (n,k) mem_cons_self (by simpa using hk);have jo:env.cells.lookup n=some c:=hc;have e:cellOf env n=pure c:=by unfold cellOf; rw [jo]
   rw [e,jo];exact V2 f hf r ((n,c) :: gf) hr
  ·exact V2 f hf r gf hr
def Q4 {env:Env} {scope:Scope} (h:∀ y∈scope.names,y.2=.free->∃ c,env.cells.lookup y.1=some c):closureFor scope env=pure (Yh env scope.names []):=by
 unfold closureFor;dsimp only;rw [V2 (env:=env) _ (λname kind cs=>by split <;> rfl) scope.names [] h];rfl
theorem Jf (env:Env):∀ (names:List (Str × NameKind)) (x:Str),
  (names.map λ(n,k)=>if (k == NameKind.free && env.scope.kind == .function && env.kindOf n == some .cell) then (n,NameKind.cell) else (n,k)).lookup x =
   (names.lookup x).map λk=>if (k == NameKind.free && env.scope.kind == .function && env.kindOf x == some .cell)=true then NameKind.cell else k
 | [],_=>rfl
 | (n,k) :: r,x=>by
  have ih:=Jf env r x;have e:(if (k == NameKind.free && env.scope.kind == .function && env.kindOf n == some .cell)=true then (n,NameKind.cell) else (n,k))=(n,if (k == NameKind.free && env.scope.kind == .function && env.kindOf n == some .cell)=true then NameKind.cell else k):=by split <;> rfl
  show List.lookup x ((if (k == NameKind.free && env.scope.kind == .function && env.kindOf n == some .cell)=true then (n,NameKind.cell) else (n,k)) :: _)=_;rw [e,lookup_cons,lookup_cons]
  cases hx:x == n with
  | true =>
   have e2:x=n:=beq_iff_eq.mp hx;subst e2;rfl
  | false=>exact ih
def Uo {env:Env} {names:List (Str × NameKind)} (hc:∀ y∈names,y.2≠.cell)
  (h:(names.map λ(n,k)=>if (k == NameKind.free && env.scope.kind == .function && env.kindOf n == some .cell) then (n,NameKind.cell) else (n,k)).lookup x=some k) (hk:k=.cell\/k=.free):names.lookup x=some .free:=by
 rw [Jf] at h
 cases e:names.lookup x with
 | none=>rw [e] at h; cases h
 | some k' =>
  rw [e] at h;have i9:k'≠.cell:=hc _ (PySem.mem_of_lookup e);have h':(if (k' == NameKind.free && env.scope.kind == .function && env.kindOf x == some .cell)=true then NameKind.cell else k')=k:=Ax h;split at h'
  ·rename_i q
   simp only [Bool.and_eq_true,beq_iff_eq] at q;rw [q.1.1]
  ·subst h'
   rcases hk with z | z
   ·exact absurd z i9
   ·rw [z]
def Ks {env:Env} {names:List (Str × NameKind)} (h:names.lookup x=some .free) :
  (names.map λ(n,k)=>if (k == NameKind.free && env.scope.kind == .function && env.kindOf n == some .cell) then (n,NameKind.cell) else (n,k)).lookup x≠some .local:=by
 rw [Jf,h];intro z;have z':(if (NameKind.free == NameKind.free && env.scope.kind == .function && env.kindOf x == some .cell)=true then NameKind.cell else NameKind.free)=.local:=Ax z;split at z' <;> cases z'
def Z7 (X:Cx) (N':List Str) (scope:Scope) (C:Addr) (s₀:Shared) (H₀:Hp) (ex:List Addr):Cx :=
 { X with N:=N',s₀:=s₀,H₀:=H₀,env:=compEnvC scope (Yh X.env scope.names []) C X.env,outer:=X.stack,ex:=ex,fn:=λ_=>false,pn:=[],xe:=λ_ _=>False }
def FvOk (X:Cx) (scope:Scope):List (Str × Nat)->Prop
 | []=>True
 | (x,j) :: r=>(X.N[j]?=some x/\scope.names.lookup x=some .free/\(X.env.kindOf x=some .cell\/X.env.kindOf x=some .free))/\FvOk X scope r
theorem FvOk.mem {X:Cx} {scope:Scope}:∀ {l:List (Str × Nat)},FvOk X scope l->∀ y∈l,X.N[y.2]?=some y.1/\scope.names.lookup y.1=some .free/\(X.env.kindOf y.1=some .cell\/X.env.kindOf y.1=some .free)
 | [],_,_,h=>by cases h
 | (x,j) :: r,h,y,hy=>by
  rcases Ar hy with e | hy
  ·cases e; exact h.1
  ·exact FvOk.mem h.2 y hy
def blkN (ts:List Str) (fv:List (Str × Nat)):List Str:=ts ++ fv.map (·.1)
def blkS (ts:List Str) (fv:List (Str × Nat)) (σ:St):St:=ts.map (λ_=>none) ++ fv.map λy=>(σ[y.2]?).join
structure BlkOk (X:Cx) (scope:Scope) (fv:List (Str × Nat)):Prop where
 kind:scope.kind=.function
 nocell:∀ y∈scope.names,y.2≠.cell
 names:∀ y∈scope.names,y.2=.local->scope.names.lookup y.1=some .local
 free:∀ y∈scope.names,y.2=.free->X.env.kindOf y.1=some .cell\/X.env.kindOf y.1=some .free
 fvs:FvOk X scope fv
section
variable {X:Cx} {fo:List (Addr × Obj)} {σ:St} {H:Hp} {s:Shared} {scope:Scope} {ts:List Str} {fv:List (Str × Nat)}
def F2 {h':Heap} {tk:Nat} (B:BlkOk X scope fv) (I:Inv X fo σ H s) (hf:∀ b∈fp,FpOk X fo H b) (ho:∀ b∈fp,∃ o,s.heap.get? b=some o)
  (hn:h'.Ns s.heap.objs.size (λ_=>none)) (hk:∀ b o,s.heap.get? b=some o->h'.get? b=some o) :
  Inv (Z7 X (blkN ts fv) scope s.heap.objs.size s H fp) [] (blkS ts fv σ) H { s with heap:=h',toks:=tk }:=by
 have has:∀ y∈scope.names,y.2=.free->∃ c,X.env.cells.lookup y.1=some c:=λy hy e=>I.ok.has y.1 (B.free y hy e);have snd:∀ x c,(Yh X.env scope.names []).lookup x=some c->X.env.cells.lookup x=some c:=Ww _ _ (λx c h=>by simp at h);have fr:∀ x,(scope.names.lookup x=some .free)->∃ c,(Yh X.env scope.names []).lookup x=some c:=λx hx =>
  Jy _ _ x (PySem.mem_of_lookup hx) (has _ (PySem.mem_of_lookup hx) rfl)
 have nfs:∀ b∈fp,b ∉ frs X.stack:=λb hb z=>by
  obtain ⟨_,h1,h2,_⟩:=hf b hb
  rcases Ar (I.stkSub b z) with e | e
  ·exact h1 e
  ·exact h2 e
 have lt:∀ b∈fp,b < s.heap.objs.size:=λb hb=>let ⟨o,e⟩:=ho b hb; Ao e
 refine ⟨⟨I.ok.mod,?_,I.ok.glob,I.ok.blt,An _,λx y c h1 h2=>I.ok.inj x y c (snd x c h1) (snd y c h2),λx hx=>?_,λ_ _ h=>absurd (show false=true from h) Bool.false_ne_true,I.ok.hd,I.ok.frames,.inl Y,λb hb=>⟨As (lt b hb),λx c e=>(hf b hb).2.2.2.2.1 x c (snd x c e)⟩,I.bs,Nat.le_trans I.ok.bsz I.sz,λb o e hb=>?_,nfs,I.stack,I.stkFree⟩,
  rfl,I.bare,Un.kept hk,⟨_,hn,λi x v h1 h2 h3=>?_⟩,λx c e=>?_,I.fresh,λx c e=>I.freeC x c (snd x c e),λp hp=>?_,I.hok.kept hk,?_⟩
 ·exact B.kind
 ·refine fr x ?_
  have jt:(relabel scope X.env).names.lookup x=some .cell\/(relabel scope X.env).names.lookup x=some .free:=hx
  rcases jt with e | e
  ·exact Uo B.nocell e (.inl Y)
  ·exact Uo B.nocell e (.inr Y)
 ·rcases (hf b hb).2.2.2.1 with z | z
  ·exact I.ok.noex b o e z
  ·exact absurd (Ag (Ao e) (Nat.le_trans I.ok.bsz z)) (Nat.lt_irrefl _)
 ·have h1:(ts ++ fv.map (·.1))[i]?=some x:=h1
  have h2:(ts.map (λ_=>(none:Option V)) ++ fv.map λy=>(σ[y.2]?).join)[i]?=some (some v):=h2;by_cases hi:i < ts.length
  ·rw [Av (by simpa using hi),Ah] at h2
   cases e:ts[i]? with
   | none=>rw [e] at h2; cases h2
   | some z=>rw [e] at h2; cases h2
  ·rw [getElem?_append_right (by simpa using hi),Ab,Ah] at h2
   rw [getElem?_append_right (by simpa using hi),Ah] at h1
   cases e:fv[i - ts.length]? with
   | none=>rw [e] at h2; cases h2
   | some y =>
    rw [e] at h1 h2;have e1:y.1=x:=by simpa using h1
    have e2:(σ[y.2]?).join=some v:=by simpa using h2
    obtain ⟨f1,f2,f3⟩:=B.fvs.mem y (Au e)
    have e3:σ[y.2]?=some (some v):=by
     cases q:σ[y.2]? with
     | none=>rw [q] at e2; cases e2
     | some z=>rw [q] at e2; exact congrArg some e2
    obtain ⟨m,hm,hl⟩:=I.loc;obtain ⟨u,r,l⟩:=hl y.2 y.1 v f1 e3 (by rcases f3 with z | z; exact .inr (.inl z); exact .inr (.inr z));rw [e1] at f2 f3 l;refine ⟨u,r,?_⟩;obtain ⟨c,hc⟩:=fr x f2;have jo:=snd x c hc
    rcases l with ⟨l1,_⟩ | ⟨_,c2,l2,l3⟩
    ·rcases f3 with z | z
     ·rw [l1] at z; cases z
     ·rw [l1] at z; cases z
    ·rw [jo] at l2
     cases l2;have hv:Vis (relabel scope X.env) x:=h3
     rcases hv with z | z | z
     ·exfalso
      exact Ks f2 z
     ·exact .inr ⟨.inl z,c,hc,l3.keeps hk⟩
     ·exact .inr ⟨.inr z,c,hc,l3.keeps hk⟩
 ·obtain ⟨v,z⟩:=I.cell x c (snd x c e)
  exact ⟨v,z.keeps hk⟩
 ·exact absurd (show p∈([]:List (Addr × Obj)) from hp) (by simp)
 ·show (ts.map (λ_=>(none:Option V)) ++ fv.map λy=>(σ[y.2]?).join).length=(ts ++ fv.map (·.1)).length
  simp
def Inv.apart (I:Inv X fo σ H s) (hs:Heap.SameBut C s.heap h') (hC:H C=none) (h0:X.s₀.heap.objs.size<=C) (hL:C≠X.env.locals) (hc:∀ x c,X.env.cells.lookup x=some c->c≠C) (hp:∀ p∈X.pn ++ fo,p.1≠C) :
  Inv X fo σ H { s with heap:=h' } :=
 I.turned (t':=s.toks) (it:=C) (λb o hb e=>(hs.2 b hb).trans e) hC hL (.inr h0) hc hp
def Zev (I:Inv X fo σ H s) (hf:∀ b∈fp,FpOk X fo H b) (hC:s.heap.objs.size<=C)
  (J:Inv (Z7 X N' scope C s H fp) [] σ' H' s'):Inv X fo σ H' s'/\H' C=none/\X.s₀.heap.objs.size<=C/\C≠X.env.locals/\(∀ x c,X.env.cells.lookup x=some c->c≠C)/\(∀ p∈X.pn ++ fo,p.1≠C):=by
 refine ⟨I.call' J.os J.base J.hok J.bare λb hb=>?_,J.free,Nat.le_trans I.sz hC,Nat.ne_of_gt (Ag I.lt hC),λx c e z=>?_,λp hp z=>?_⟩
 ·obtain ⟨_,h1,_,h3,h4,h5⟩:=hf b hb
  exact ⟨h3,h1,h4,h5⟩
 ·obtain ⟨v,q⟩:=I.cell x c e
  exact absurd (Ag q.lt (by rw [z]; exact hC)) (Nat.lt_irrefl _)
 ·exact absurd (Ag (Ao (I.pin p hp).1) (by rw [z]; exact hC)) (Nat.lt_irrefl _)
end
abbrev TB:=St->Hp->(St->Hp->Prop)->Prop
def PTs (X:Cx) (ifs:List Expr) (t:TT):Prop :=
 ∀ fo s σ H (Q:Bool->Hp->Prop),Inv X fo σ H s->t σ H Q ->
  wpAny (a:) X.A (forIn ifs true λc r=>if r=true then do let ok <- isTrue c X.env (eval c X.env); pure (ForInStep.yield ok) else pure (ForInStep.yield r)) (TP X fo σ Q) X.xe s
def tYes:TT:=λ_ H Q=>Q true H
def Yb:PTs X [] tYes:=λfo s σ H Q I h=>wpAny_tests_nil ⟨H,I,h⟩
def Gu (h:PT X c t):PTs X [c] t:=λfo s σ H Q I hq=>wpAny_tests_one (h fo s σ H Q I hq)
def PB (X:Cx) (ii:Sem Fin) (c:Code) (t:TB):Prop :=
 ∀ fo s σ H (N:St->Hp->Prop),Inv X fo σ H s->t σ H N ->
  wpAny (a:) X.A ii (λfin s'=>fin=.again c/\∃ σ' H',Inv X fo σ' H' s'/\N σ' H') X.xe s
def Wy (J:It) (g:TG) (tt:TT) (tb:TB) (R:St->Hp->Prop) (σ:St) (H:Hp):Prop :=
 ∃ W:Nat->Nat->St->Hp->Prop,(∃ m,W 0 m σ H)/\∀ i m σ H,W i m σ H ->
  (J.stop i H/\R σ H)\/(J.go i H/\∃ N:St->Hp->Prop,(∀ σ' H',N σ' H'->∃ m',m' < m/\W (i + 1) m' σ' H') /\
   ∀ x H',J.yld i H x H'->g x σ H' λσ2 H2=>tt σ2 H2 λb H3=>if b=true then tb σ2 H3 N else N σ2 H3)
section
variable {X:Cx}
theorem Uz {s:Shared} (wa:X.xe=λ_ _=>False)
  (hcq:Code.quiet (.compLoop e d (.ref it) gf X.env)=true) (hden:(a:).den (.compLoop e d (.ref it) gf X.env)=(compTurn e d (.ref it) gf X.env).onRaise (λx=>do noteFrame x X.env; theTreesLotGoes x))
  (hund:X.A.under (.compLoop e d (.ref it) gf X.env)=X.A)
  (jm:compTurn e d (.ref it) gf X.env=(standAt p >>= λ_=>pyNext (.ref it) >>= λr=>match r with
   | none=>pure (.done .next)
   | some v=>letOwnedTupleGo tg (.ref it) v >>= λ_=>assign tg X.env v >>= λ_ =>
    (forIn ifs true λc r=>if r=true then do let ok <- isTrue c X.env (eval c X.env); pure (ForInStep.yield ok) else pure (ForInStep.yield r)) >>= λok =>
     if ok=true then ii else again (.compLoop e d (.ref it) gf X.env)))
  (T:Turn X.prog X.w X.K tg J fp it tn) (hc:X.calm=true) (hg:PG X tg g) (ht:PTs X ifs tt) (hb:PB X ii (.compLoop e d (.ref it) gf X.env) tb)
  (hf:∀ b∈fp,FpOk X fo H b) (I:Inv X fo σ H s) (st:tn 0 s.heap) (h:Wy J g tt tb R σ H)
  (hR:∀ s' σ' H',Inv X fo σ' H' s'->R σ' H'->RR (.ok .next) s') :
  codeAny (a:) X.A (.compLoop e d (.ref it) gf X.env) RR s:=by
 obtain ⟨W,⟨m0,w0⟩,turn⟩:=h;have kf:∀ {H':Hp},(∀ b∈fp,H' b=none)->∀ b∈fp,FpOk X fo H' b:=λhn b hb=>⟨hn b hb,(hf b hb).2⟩;refine codeAny_loop hcq (λn s'=>∃ i σ' H',Inv X fo σ' H' s'/\tn i s'.heap/\(∀ b∈fp,H' b=none)/\W i n σ' H') ?_ m0 ⟨0,σ,H,I,st,λb hb=>(hf b hb).1,w0⟩;rintro n s3 ⟨i,σ3,H3,I3,gv,xa,w3⟩;rw [hden,hund];refine wpAny_noted (wpAny_mono (E:=λ_ _=>False) ?_ (λ_ _ q=>q) λ_ _ z=>z.elim);rw [jm];have hxe':∀ {α:Type} {t:Sem α} {Q:α->Shared->Prop} {s:Shared},wpAny (a:) X.A t Q X.xe s->wpAny (a:) X.A t Q (λ_ _=>False) s:=λh=>by rw [wa] at h; exact h
 refine Al (wpAny_standAt (Al ?_))
 rcases turn i n σ3 H3 w3 with ⟨stop,qn⟩ | ⟨go,N,hN,step⟩
 ·refine thn (T.done X rfl rfl rfl hc i fo s3 σ3 H3 _ I3 (kf xa) gv stop) λr s4 ⟨hr,I4⟩=>?_
  subst hr;exact wpAny_pure (hR s4 σ3 H3 I4 qn)
 ·refine thn (T.item X rfl rfl rfl hc i fo s3 σ3 H3 _ I3 (kf xa) gv go) λr s4 ⟨u,hr,h4⟩=>?_
  subst hr;refine Al (thn h4 λ_ s5 gc=>?_);obtain ⟨x,H5,I5,r5,y5,ot,fr5⟩:=gc;have I5':=I5.pinned (kf fr5) (T.obj _ _ ot);refine Al (hxe' (thn (hg _ s5 σ3 H5 x u _ I5' r5 (step x H5 y5)) λ_ s6 gc=>?_));obtain ⟨σ6,H6,I6,q6⟩:=gc;refine Al (wa ▸ thn (ht _ s6 σ6 H6 _ I6 q6) λok s7 gc=>?_);obtain ⟨H7,I7,q7⟩:=gc;have back:∀ {σ7:St} {H7:Hp} {s7:Shared},Inv X (fo ++ Ur fp s5.heap) σ7 H7 s7->N σ7 H7->∃ m,m < n/\∃ i σ' H',Inv X fo σ' H' s7/\tn i s7.heap/\(∀ b∈fp,H' b=none)/\W i m σ' H':=λ{σ7 H7 s7} I7 n7=>by
   obtain ⟨m',hm,w7⟩:=hN σ7 H7 n7
   refine ⟨m',hm,i + 1,σ7,H7,I7.unpinned,T.keep _ _ _ ot λb hb o e=>(I7.pin (b,o) (mem_append_right _ (mem_append_right _ (Qc hb e)))).1,λb hb=>?_,w7⟩
   obtain ⟨o,e,d⟩:=T.obj _ _ ot b hb
   exact (I7.pin (b,o) (mem_append_right _ (mem_append_right _ (Qc hb e)))).2.1
  cases ok with
  | false=>exact wa ▸ wpAny_pure ⟨Y,back I7 q7⟩
  | true =>
   refine thn (hb _ s7 σ6 H7 N I7 q7) λfin s8 gc=>?_;obtain ⟨hfin,σ8,H8,I8,q8⟩:=gc;subst hfin;exact ⟨Y,back I8 q8⟩
def Zkk (te:TE) (D:Addr):TB:=λσ H N=>te σ H λv H1=>∃ xs,H1 D=some (.lst xs)/\xs.length < sizeLine/\N σ (upd H1 D (.lst (xs ++ [v])))
def Yg (he:PE X iw te) :
  PB X ((eval iw X.env >>= λx=>call (.builtin "list.append") [.ref D,x] >>= λ_=>pure ()) >>= λ_=>again c) c (Zkk te D):=by
 intro fo s σ H N I h;refine Al (Al (thn (he fo s σ H _ I h) λu s1 gc=>?_));obtain ⟨v,H1,I1,r1,q1⟩:=gc;obtain ⟨xs,hD,hl,q⟩:=q1;refine Al (thn (Xl fo s1 σ H1 (.ref D) [v] (.ref D) [u] (λ_ H2=>N σ H2) I1 Y (.cons r1 .nil) ⟨D,xs,v,Y,Y,hD,hl,q⟩) λ_ s2 gc=>?_);obtain ⟨_,H2,I2,_,q2⟩:=gc;exact wpAny_pure (wpAny_pure ⟨Y,σ,H2,I2,q2⟩)
def tGen (wi:TI) (g:TG) (tt:TT) (tb:TB):TB:=λσ H N=>wi σ H λJ H1=>Wy J g tt tb N σ H1
def Zf9 {t0 i0:Expr} {f0:List Expr} {t1 i1:Expr} {f1:List Expr}
  (h0:codeAny (d:) A (.compLoop (.ListComp iw [⟨t0,i0,f0,0⟩,⟨t1,i1,f1,0⟩] scope pos) 1 it gf env) R s)
  (h:wpAny (d:) A (pyIter it) (λit' s'=>codeAny (d:) A (.compLoop (.ListComp iw [⟨t0,i0,f0,0⟩,⟨t1,i1,f1,0⟩] scope pos) 1 it' gf env) R s')
   (notedBy (d:) A env λx s'=>R (.error x) s') s) :
  codeAny (d:) A (.compStart (.ListComp iw [⟨t0,i0,f0,0⟩,⟨t1,i1,f1,0⟩] scope pos) 1 it gf env) R s:=by
 refine codeAny_of_tree ?_;show wpAny _ _ ((compStart (.ListComp iw [⟨t0,i0,f0,0⟩,⟨t1,i1,f1,0⟩] scope pos) 1 it gf env).onRaise (λx=>do noteFrame x env; standAt theWindowsPlace)) _ _ s;refine wpAny_notedAt ?_;unfold compStart;show wpAny _ _ (ask >>= _) _ _ s;refine Al (wpAny_askSetting (wpAny_ite ?_));split
 ·first
   | exact Al (wpAny_pure (wpAny_pure (And.intro Y h0)))
   | exact wpAny_pure (And.intro Y h0)
 ·first
   | exact Al (wpAny_rule (Al (wpAny_standAt (Al (wpAny_mono h (λit' s' h'=>wpAny_pure (And.intro Y h')) λ_ _ x=>x)))))
   | (refine Al (wpAny_rule ?_); show wpAny _ _ (standAt i1.pos >>= _) _ _ s; exact Al (wpAny_standAt (Al (wpAny_mono h (λit' s' h'=>wpAny_pure (And.intro Y h')) λ_ _ x=>x))))
def Zhf {t0 i0 i1:Expr} {f0:List Expr} (wa:X.xe=λ_ _=>False) (hc:X.calm=true)
  (hi:PI X t1 i1 wi) (hg:PG X t1 g) (ht:PTs X f1 tt) (he:PE X iw te) (hs:∀ x,foldedSetIterable i1 X.env x=pure x:=by intro _; rfl) :
  PB X (eval i1 X.env >>= λx=>standAt i1.pos >>= λ_=>foldedSetIterable i1 X.env x >>= λx=>holding [x] (pyIter x) >>= λit =>
   runOwn (.compStart (.ListComp iw [⟨t0,i0,f0,0⟩,⟨t1,i1,f1,0⟩] scope pos) 1 it (.ref D) X.env) X.env >>= λ_=>again c) c (tGen wi g tt (Zkk te D)):=by
 intro fo s σ H N I h;refine Al (thn (hi fo s σ H _ I h) λv s1 h1=>Al (wpAny_standAt ?_));rw [hs];refine Al (wpAny_pure (Al (wpAny_holding (thn h1 λvq s2 h2=>?_))));obtain ⟨it,fp,tn,J,H2,e,I2,T,fy,f2,L⟩:=h2;subst e;have loop:∀ (A:Around),A=X.A->codeAny (a:) A (.compLoop (.ListComp iw [⟨t0,i0,f0,0⟩,⟨t1,i1,f1,0⟩] scope pos) 1 (.ref it) (.ref D) X.env)
   (λr s'=>match r with | .ok f=>wpAny (a:) X.A (again c) (λfin s'=>fin=.again c/\∃ σ' H',Inv X fo σ' H' s'/\N σ' H') X.xe s' | .error e=>cameBackBy (a:) X.A X.env X.xe e s') s2:=by
  rintro A rfl
  exact Uz (tg:=t1) (ifs:=f1) (R:=N) wa Y Y Y Y T hc hg ht (Yg (c:=.compLoop (.ListComp iw [⟨t0,i0,f0,0⟩,⟨t1,i1,f1,0⟩] scope pos) 1 (.ref it) (.ref D) X.env) he) f2 I2 fy L λs' σ' H' I' q=>wpAny_pure ⟨Y,σ',H',I',q⟩
 refine Al (wpAny_runOwn (h:=none) ?_);exact Zf9 (loop _ Y) (T.self _ _ _ _ _ fy (loop _ Y))
end
def Ze2 (ts:List Str) (fv:List (Str × Nat)) (wi:TI) (g:TG) (tt:TT) (tb:Addr->TB):TE:=λσ H Q=>wi σ H λJ H1=>∀ D,H1 D=none ->
 Wy J g tt (tb D) (λ_ H'=>Q (.ref D) H') (blkS ts fv σ) (upd H1 D (.lst []))
section
variable {X:Cx} {ts:List Str} {fv:List (Str × Nat)} {scope:Scope} {iw t0 i0:Expr} {f0:List Expr} {rest:List Comprehension} {pos:Pos} {wi:TI} {g:TG} {tt:TT} {tb:Addr->TB} {ii:Env->Addr->Addr->Sem Fin}
theorem Fy (B:BlkOk X scope fv) (hc:X.calm=true) (hi:PI X t0 i0 wi)
  (hg:∀ C s₀ H₀ ex,PG (c:) t0 g) (ht:∀ C s₀ H₀ ex,PTs (c:) f0 tt)
  (jm:∀ (env:Env) (it D:Addr),compTurn (g:) 0 (.ref it) (.ref D) env=(standAt i0.pos >>= λ_=>pyNext (.ref it) >>= λr=>match r with
   | none=>pure (.done .next)
   | some v=>letOwnedTupleGo t0 (.ref it) v >>= λ_=>assign t0 env v >>= λ_ =>
    (forIn f0 true λc r=>if r=true then do let ok <- isTrue c env (eval c env); pure (ForInStep.yield ok) else pure (ForInStep.yield r)) >>= λok =>
     if ok=true then ii env it D else again (.compLoop (g:) 0 (.ref it) (.ref D) env)))
  (hb:∀ C s₀ H₀ ex it D,PB (c:) (ii (c:).env it D) (.compLoop (g:) 0 (.ref it) (.ref D) (c:).env) (tb D)) {RR:Value->Addr->Result->Shared->Prop} (I:Inv X fo σ H s) (h:Ze2 ts fv wi g tt tb σ H Q)
  (hRR:∀ D C s' H',Inv X fo σ H' s'->H' C=none->X.s₀.heap.objs.size<=C->C≠X.env.locals->(∀ x c,X.env.cells.lookup x=some c->c≠C)->(∀ p∈X.pn ++ fo,p.1≠C)->(∃ m,s'.heap.Ns C m)->Q (.ref D) H'->RR (.ref D) C (.ok .next) s') :
  wpAny (a:) X.A (eval i0 X.env) (λx s₁=>wpAny (a:) X.A (pyIter x) (λit s₂=>wpAny (a:) X.A (newList []) (λgf s₃ =>
   wpAny (a:) X.A (newFunctionEnv scope X.env.globals (Yh X.env scope.names []) [] X.env.qual none .none (some X.env)) (λni s₄ =>
    codeAny (a:) X.A (.compStart (g:) 0 it gf { ni with scope:=relabel scope X.env }) (RR gf ni.locals) s₄) X.xe s₃) X.xe s₂) X.xe s₁) X.xe s:=by
 refine thn (hi fo s σ H _ I h) λv s1 h1=>thn h1 λvq s2 h2=>?_;obtain ⟨it,fp,tn,J,H2,e,I2,T,fy,f2,L⟩:=h2;subst e;have L:=L s2.heap.objs.size I2.fresh;refine wpAny_newObj_type ?_;have I3:Inv X fo σ (upd H2 s2.heap.objs.size (.lst [])) { s2 with heap:=s2.heap.push { cls:=.type "list",data:=.seq ([]:List Value).toArray },toks:=s2.toks }:=I2.lnew (its:=[]) (t':=s2.toks) .nil (Az _);have og:∀ b∈fp,∃ o,s2.heap.get? b=some o/\∀ v,o.data≠.cell v:=T.obj _ _ fy;have f3:∀ b∈fp,FpOk X fo (upd H2 s2.heap.objs.size (.lst [])) b:=λb hb=>by
  obtain ⟨o,ho,_⟩:=og b hb
  refine ⟨?_,(f2 b hb).2⟩
  rw [Ze (As (Ao ho))]
  exact (f2 b hb).1
 have gv:tn 0 (s2.heap.push { cls:=.type "list",data:=.seq ([]:List Value).toArray }):=T.keep _ _ _ fy λb _ o e=>Ak _ e;have r6:∀ b∈fp,∃ o,(s2.heap.push { cls:=.type "list",data:=.seq ([]:List Value).toArray }).get? b=some o:=λb hb=>let ⟨o,e,_⟩:=og b hb; ⟨o,Ak _ e⟩
 generalize hs3:({ s2 with heap:=s2.heap.push { cls:=.type "list",data:=.seq ([]:List Value).toArray },toks:=s2.toks }:Shared)=s3 at I3;have eh:s2.heap.push { cls:=.type "list",data:=.seq ([]:List Value).toArray }=s3.heap:=by rw [<- hs3]
 rw [eh] at gv r6;refine wpAny_newFunctionEnv B.nocell (by intro y hy; simp at hy) (λh₁ pe l6=>?_) B.kind;have hk:∀ b o,s3.heap.get? b=some o->h₁.get? b=some o:=λb o e=>l6.extBut b o (As (Ao e)) (Ak _ e);have I4:=F2 (ts:=ts) (tk:=s3.toks + ([]:List (Str × Value)).length) B I3 f3 r6 pe hk;have f4:∀ b∈fp,FpOk (Z7 X (blkN ts fv) scope s3.heap.objs.size s3 (upd H2 s2.heap.objs.size (.lst [])) fp) [] (upd H2 s2.heap.objs.size (.lst [])) b:=λb hb=>by
  obtain ⟨f0,f1,f2',f3',f4',f5'⟩:=f3 b hb
  obtain ⟨o,eo⟩:=r6 b hb
  exact ⟨f0,As (Ao eo),I4.ok.exfs b hb,.inl hb,(I4.ok.exf b hb).2,λp hp=>absurd (show p∈([]:List (Addr × Obj)) from hp) (by simp)⟩
 have km:tn 0 h₁:=T.keep _ _ _ gv λb _ o e=>hk b o e;have loop:codeAny (a:) X.A (.compLoop (g:) 0 (.ref it) (.ref s2.heap.objs.size) (Z7 X (blkN ts fv) scope s3.heap.objs.size s3 (upd H2 s2.heap.objs.size (.lst [])) fp).env)
   (RR (.ref s2.heap.objs.size) s3.heap.objs.size) { s3 with heap:=h₁,toks:=s3.toks + ([]:List (Str × Value)).length }:=by
  refine Uz (X:=Z7 X (blkN ts fv) scope s3.heap.objs.size s3 (upd H2 s2.heap.objs.size (.lst [])) fp) (tg:=t0) (ifs:=f0) (R:=λ_ H'=>Q (.ref s2.heap.objs.size) H') Y Y Y Y (jm _ it s2.heap.objs.size) T hc (hg _ _ _ _) (ht _ _ _ _) (hb _ _ _ _ it s2.heap.objs.size) f4 I4 km L λs' σ' H' J' q=>?_
  obtain ⟨e1,e2,e3,e4,e5,e6⟩:=Zev I3 f3 (An _) J'
  obtain ⟨m,hm,_⟩:=J'.loc
  exact hRR _ _ s' H' e1 e2 e3 e4 e5 e6 ⟨m,hm⟩ q
 exact codeAny_compStart_list loop (T.self _ _ _ _ _ km loop)
theorem Yk (B:BlkOk X scope fv) (hc:X.calm=true) (hi:PI X t0 i0 wi)
  (hg:∀ C s₀ H₀ ex,PG (c:) t0 g) (ht:∀ C s₀ H₀ ex,PTs (c:) f0 tt)
  (jm:∀ (env:Env) (it D:Addr),compTurn (g:) 0 (.ref it) (.ref D) env=(standAt i0.pos >>= λ_=>pyNext (.ref it) >>= λr=>match r with
   | none=>pure (.done .next)
   | some v=>letOwnedTupleGo t0 (.ref it) v >>= λ_=>assign t0 env v >>= λ_ =>
    (forIn f0 true λc r=>if r=true then do let ok <- isTrue c env (eval c env); pure (ForInStep.yield ok) else pure (ForInStep.yield r)) >>= λok =>
     if ok=true then ii env it D else again (.compLoop (g:) 0 (.ref it) (.ref D) env)))
  (hb:∀ C s₀ H₀ ex it D,PB (c:) (ii (c:).env it D) (.compLoop (g:) 0 (.ref it) (.ref D) (c:).env) (tb D))
  (hs:∀ x,foldedSetIterable i0 X.env x=pure x:=by intro _; rfl) :
  PE X (g:) (Ze2 ts fv wi g tt tb):=by
 intro fo s σ H Q I h;rw [eval_ListComp];refine wpAny_comprehension_free (use:=none) Y hs (Q4 λy hy e=>I.ok.has y.1 (B.free y hy e)) B.kind B.names ?_;refine Fy (RR:=λgf C=>compPost (a:) X.A X.xe none (EP X fo σ Q) gf C) B hc hi hg ht jm hb I h λD C s' H' I' e2 e3 e4 e5 e6 hm q=>?_;obtain ⟨m,hm⟩:=hm;exact ⟨m,hm,λh' g7=>⟨.ref D,H',I'.apart g7 e2 e3 e4 e5 e6,Y,q⟩⟩
theorem Jt {m5:Pos} (B:BlkOk X scope fv) (hc:X.calm=true) (hN:X.N.Nodup) (wv:X.N[i]?=some y) (vz:X.env.scope.names.lookup y=some .local)
  (hsw:swapsWith (g:) (some (.Name y py)) m5.line X.env=pure true) (hi:PI X t0 i0 wi)
  (hg:∀ C s₀ H₀ ex,PG (c:) t0 g) (ht:∀ C s₀ H₀ ex,PTs (c:) f0 tt)
  (jm:∀ (env:Env) (it D:Addr),compTurn (g:) 0 (.ref it) (.ref D) env=(standAt i0.pos >>= λ_=>pyNext (.ref it) >>= λr=>match r with
   | none=>pure (.done .next)
   | some v=>letOwnedTupleGo t0 (.ref it) v >>= λ_=>assign t0 env v >>= λ_ =>
    (forIn f0 true λc r=>if r=true then do let ok <- isTrue c env (eval c env); pure (ForInStep.yield ok) else pure (ForInStep.yield r)) >>= λok =>
     if ok=true then ii env it D else again (.compLoop (g:) 0 (.ref it) (.ref D) env)))
  (hb:∀ C s₀ H₀ ex it D,PB (c:) (ii (c:).env it D) (.compLoop (g:) 0 (.ref it) (.ref D) (c:).env) (tb D))
  (hs:∀ x,foldedSetIterable i0 X.env x=pure x:=by intro _; rfl) :
  PS X (.Assign [.Name y py] (g:) m5) (tAsg (Ze2 ts fv wi g tt tb) (Zm i)):=by
 intro fo s σ H D0 I h;rw [exec_Assign_Name_used _ _ _ _ hsw];refine Al (wpAny_standAt (Al ?_));show wpAny _ X.A (do let _ <- comprehension (g:) scope X.env _ (newList []) false (eval i0 X.env) (some (assign (.Name y py) X.env))) _ _ s;refine Al (wpAny_mono (wpAny_comprehension_free (use:=some (assign (.Name y py) X.env)) (Q:=λ_ s'=>SP X fo D0 .next s') Y hs (Q4 λy hy e=>I.ok.has y.1 (B.free y hy e)) B.kind B.names ?_) (λ_ s' hq=>wpAny_pure (wpAny_pure hq)) λ_ _ e=>e);refine Fy (Q:=λx H1=>Zm i x σ H1 D0.nx) (RR:=λgf C=>compPost (a:) X.A X.xe (some (assign (.Name y py) X.env)) (λ_ s'=>SP X fo D0 .next s') gf C) B hc hi hg ht jm hb I h λD C s' H' I' e2 e3 e4 e5 e6 hm q=>?_;obtain ⟨m,hm⟩:=hm;show wpAny _ X.A (assign (.Name y py) X.env (.ref D)) _ _ _;refine wpAny_assign_Name (Ue I' hN wv (.inl vz) (show RelV (.ref D) (.ref D) from Y) (λnz I'' jy=>?_) (.inr vz));obtain ⟨a,l6,ha⟩:=jy;have haC:C≠a:=by
  rcases ha with e | e
  ·rw [e]; exact e4
  ·exact λz=>e5 y a e z.symm
 exact ⟨m,hm.sameBut l6 haC,λh' g7=>⟨_,H',I''.apart g7 e2 e3 e4 e5 e6,q⟩⟩
end
def FlyT (e T:Addr) (cls a0:Value) (h:Heap):Prop :=
 ∃ oe vs oT ts,h.get? e=some oe/\(oe.cls=cls/\vs[0]?=some a0)/\oe.data=.fields vs/\vs[1]?=some (.ref T)/\T≠e/\h.get? T=some oT/\oT.data=.fields ts/\ts[3]?=some .none
def CXr (P:Program) (w:World):CXT:=λouter H s E ev s' =>
 ∃ (e T:Addr) (cls a0:Value) (H':Hp),ev=.ref e/\s'.os=s.os/\AllBare s'.gens/\Un (frs outer) [] H H' s.heap s'.heap/\HOk P w H' s'.heap /\
  s.heap.get? e=none/\s.heap.get? T=none/\H' e=none/\H' T=none/\FlyT e T cls a0 s'.heap/\E cls none H'
def Xs {X:Cx}:Qv (CXr X.prog X.w) X E0:=λ_ _ _ _ _ _ _ h=>by
 obtain ⟨_,_,_,_,_,_,_,_,_,_,_,_,_,_,_,z⟩:=h;exact z.elim
def Zmh (h:CXr P w [] H s (λ_ _ _=>False) e s'):False:=by
 obtain ⟨_,_,_,_,_,_,_,_,_,_,_,_,_,_,_,z⟩:=h;exact z
section
variable {P:Program} {w:World} {K:W.Frag} {mg:Str->Option Value} {base:Heap}
def Fun.okR {x qual:Str} {st:Stmt} {f:Addr} {fd:FuncData} {N ps:List Str} {k:Nat} {sp:Sp} (F:Fun K x qual st f fd) (S:FnScope N ps (Zh st)) (len:∀ vs H Q E,sp vs H Q E->vs.length=ps.length)
  (il:∀ (gx:Value) (A:Around) (outer:List Env) (s:Shared) (H:Hp) (vs:List V) (Q:VK) (E:XK),Room k (A.deeper (envOfC qual (Zh st) s.heap.objs.size f gx))->sp vs H Q E ->
   ∃ t,PSs (cxOf (CXr P w) P w K mg base N qual (Zh st) f gx A outer s H E).nox (Yt st) t/\t { nx:=λ_ H'=>Q .non H',rt:=Q } (start N vs) H):FnOk P w K mg base (CXr P w) (k + 1) f fd ps sp:=by
 obtain ⟨oc,od,kV,g6,pm,an,gx,ct,o7,rfl,lk,lh⟩:=F.ex;refine Zkw lk lh S len λA outer s H vs Q E hr jh=>?_;obtain ⟨t,h,q⟩:=il gx A outer s H vs Q E hr jh;exact ⟨t,h.nox,q⟩
end
section
variable {X:Cx}
def Wq:Yv X (.builtin "isinstance") (λxs H Q=>∃ x T t b,xs=[x,.ty T]/\TyOf X.K H x t/\PySem.W.kitOne X.K t (.type T)=some b/\Q (.bl b) H):=by
 intro fo s σ H xs us Q I r h;obtain ⟨x,T,t,b,rfl,hty,hk,q⟩:=h;obtain ⟨u,v,rfl,ru,rv⟩:=r.two;obtain rfl:v=Value.type T:=rv;exact Zhz I ru hty hk λtk=>⟨.bl b,H,I.tok _,Y,q⟩
def Vx {K:W.Frag} {T:String}:PySem.W.kitOne K (.type T) (.type T)=some true:=by
 unfold PySem.W.kitOne;rw [if_pos (by simp)]
def Zml {X:Cx} {scope:Scope} (h:scope.names.all (λy=>y.2 != .free || X.env.kindOf y.1 == some .cell || X.env.kindOf y.1 == some .free)=true) :
  ∀ y∈scope.names,y.2=.free->X.env.kindOf y.1=some .cell\/X.env.kindOf y.1=some .free:=λy hy e=>by
 have:=all_eq_true.mp h y hy;simp [e] at this;exact this
def bkO {X:Cx} {scope:Scope} {fv:List (Str × Nat)} (e:FvOk X scope fv) (a:scope.kind=.function:=by rfl) (b:∀ y∈scope.names,y.2≠.cell:=by decide +kernel) (c:∀ y∈scope.names,y.2=.local->scope.names.lookup y.1=some .local:=by decide +kernel) (d:∀ y∈scope.names,y.2=.free->X.env.kindOf y.1=some .cell\/X.env.kindOf y.1=some .free:=by exact Zml (by rfl)):BlkOk X scope fv:=⟨a,b,c,d,e⟩
end
def walk_r {l:PySem.W.OpenLaw} {k:Nat} {q:Program} {k8:List Str} {XP:(Str->Option Value)->Heap->Prop} {YP:World->Heap->Prop} {d:DefRec} {K:Params->PySem.W.Frag} {spl:PySem.W.Frag->Sp}
  (hn:l.most=some 63) (ww:d.params.defaults=[]) (hr:Room k callerA) (hY:∀ (w:World) (h:Heap),YP w h->(K w.params).In h)
  (jh:∀ (K:W.Frag) (H:Hp) (a:Addr) (ns:List Int),ns.length<=63->SqL K H a (ns.map V.int)->spl K [.ref a] H (λv _=>v=.bl true) λ_ _ _=>False)
  (F:∀ (w:World) (mg:Str->Option Value) (fa:Addr) (h:Heap),(K w.params).In h->h.Ns mainGlobals mg->mg d.name=some (.ref fa) ->
   ∃ fd:FuncData,(∀ (s:Shared) (u:Value),BindsTo s fd ⟨[u],[]⟩ [("_law_script",u)]) /\
    ∀ base:Heap,(K w.params).In base->base.Ns mainGlobals mg->FnOk l.prog w (K w.params) mg base (CXr l.prog w) k fa fd ["_law_script"] (spl (K w.params))) :
  PySem.W.WalkO q k8 XP YP l.row.toRowW d [] (λf vs=>PySem.call f vs) :=
 Zkz (n:=63) (k:=k) (x:="_law_script") (CX:=λw=>CXr l.prog w) (sp:=λw=>spl (K w.params)) hn (by decide) ww hr hY F (λw H a ns hl _ hS=>jh _ H a ns hl hS) (λw H s e s' h=>Zmh h)
def ExT (e:Addr) (T:Option Addr) (cls a0:Value) (h:Heap):Prop:=match T with
 | some T=>FlyT e T cls a0 h
 | none=>∃ oe vs,h.get? e=some oe/\(oe.cls=cls/\vs[0]?=some a0)/\oe.data=.fields vs/\vs[1]?=some .none
structure FxOk (X:Cx) (fo:List (Addr × Obj)) (H:Hp) (b:Addr):Prop where
 nt:H b=none
 nl:b≠X.env.locals
 nf:b ∉ X.fs
 n0:X.s₀.heap.get? b=none
 nc:∀ x c,X.env.cells.lookup x=some c->c≠b
 np:∀ p∈X.pn ++ fo,p.1≠b
def XS (fr:Bool) (X:Cx) (fo:List (Addr × Obj)) (R:Value->St->Hp->Prop) (ev:Value) (s':Shared):Prop :=
 ∃ (e:Addr) (T:Option Addr) (cls a0:Value) (σ':St) (H':Hp),ev=.ref e/\Inv X fo σ' H' s'/\ExT e T cls a0 s'.heap/\FxOk X fo H' e/\(∀ t,T=some t->FxOk X fo H' t)/\(T=none->fr=true)/\R cls σ' H'
abbrev TSX:=Ends->(Value->St->Hp->Prop)->St->Hp->Prop
abbrev TEX:=St->Hp->VK->XK->Prop
def PSX (fr:Bool) (X:Cx) (st:Stmt) (t:TSX):Prop :=
 ∀ fo s σ H (D:Ends) (R:Value->St->Hp->Prop),Inv X fo σ H s->t D R σ H->wpAny (a:) X.A (exec st X.env) (SP X fo D) (XS fr X fo R) s
def PSsX (fr:Bool) (X:Cx) (st:List Stmt) (t:TSX):Prop :=
 ∀ fo s σ H (D:Ends) (R:Value->St->Hp->Prop),Inv X fo σ H s->t D R σ H->wpAny (a:) X.A (execs st X.env) (SP X fo D) (XS fr X fo R) s
def PEX (fr:Bool) (X:Cx) (e:Expr) (t:TEX):Prop :=
 ∀ fo s σ H (Q:VK) (E:XK),Inv X fo σ H s->t σ H Q E->wpAny (a:) X.A (eval e X.env) (EP X fo σ Q) (XS fr X fo λcls σ' H'=>σ'=σ/\E cls none H') s
section
variable {X:Cx} {fr:Bool}
def Xh {st:Stmt} {t:TS} (h:PS X st t) (hx:X.xe=(λ_ _=>False):=by rfl):PSX fr X st (λD _ σ H=>t D σ H):=λfo s σ H D R I q=>by
 have:=h fo s σ H D I q;rw [hx] at this;exact wpAny_mono this (λ_ _ z=>z) λ_ _ z=>z.elim
def Zog (t u:TSX):TSX:=λD R σ H=>t { D with nx:=u D R } R σ H
def Yf {st:Stmt} {rest:List Stmt} {t u:TSX} (h1:PSX fr X st t) (h2:PSsX fr X rest u):PSsX fr X (st :: rest) (Zog t u):=by
 intro fo s σ H D R I h;refine wpAny_execs_cons (thn (h1 fo s σ H { D with nx:=u D R } R I h) λf s1 q=>?_)
 cases f with
 | next =>
  obtain ⟨σ',H',I',q⟩:=q;exact h2 fo s1 σ' H' D R I' q
 | ret v=>exact q
 | brk=>exact q
 | cont=>exact q
def Yw {st:Stmt} {t:TSX} (h1:PSX fr X st t):PSsX fr X [st] t:=by
 intro fo s σ H D R I h;refine wpAny_execs_cons (thn (h1 fo s σ H D R I h) λf s1 q=>?_)
 cases f with
 | next=>exact wpAny_execs_nil q
 | ret v=>exact q
 | brk=>exact q
 | cont=>exact q
def O1:PSsX fr X [] (λD _ σ H=>D.nx σ H):=λ_ _ σ H _ _ I h=>wpAny_execs_nil ⟨σ,H,I,h⟩
def tIfX (c:TT) (t u:TSX):TSX:=λD R σ H=>c σ H λb H1=>if b=true then t D R σ H1 else u D R σ H1
def Zbn (hc:PT X c tc) (ha:PSsX fr X a t) (hb:PSsX fr X b u) (hx:X.xe=(λ_ _=>False):=by rfl):PSX fr X (.If c a b pos) (tIfX tc t u):=by
 intro fo s σ H D R I h;have h0:=hc fo s σ H _ I h;rw [hx] at h0;refine wpAny_If (wpAny_mono h0 (λd s1 zz31=>?_) λ_ _ z=>z.elim);obtain ⟨H1,I1,q1⟩:=zz31
 cases d with
 | true=>exact ha fo s1 σ H1 D R I1 q1
 | false=>exact hb fo s1 σ H1 D R I1 q1
def Zm2 (te:TEX):TSX:=λD R σ H=>te σ H (λ_ H1=>D.nx σ H1) λcls _ H1=>R cls σ H1
def Qo {pos:Pos} (he:PEX fr X e te) (hs:swapsWith e none pos.line X.env=pure false:=by rfl):PSX fr X (.Expr e pos) (Zm2 te):=by
 intro fo s σ H D R I h;refine wpAny_Expr_any (wpAny_mono (he fo s σ H _ _ I h) (λv s1 ⟨x,H1,I1,r1,q1⟩=>⟨σ,H1,I1,q1⟩) ?_) I.quiet hs;rintro ev s1 ⟨e,T,cls,a0,σ',H',h1,h2,h3,h4,h5,h7,rfl,h6⟩;exact ⟨e,T,cls,a0,σ',H',h1,h2,h3,h4,h5,h7,h6⟩
def Zof (i:Nat) (te:TEX):TSX:=λD R σ H=>te σ H (λx H1=>D.nx (σ.set i (some x)) H1) λcls _ H1=>R cls σ H1
def Zd1 {pos:Pos} (hN:X.N.Nodup) (hi:X.N[i]?=some x) (hx:Loc X.env.scope x) (he:PEX fr X e te) (hs:swapsWith e (some (.Name x iz)) pos.line X.env=pure false:=by rfl)
  (hf:X.fn x=true\/X.env.scope.names.lookup x=some .local:=by first | exact .inl rfl | exact .inr rfl | assumption):PSX fr X (.Assign [.Name x iz] e pos) (Zof i te):=by
 intro fo s σ H D R I h;refine wpAny_Assign_Name (wpAny_mono (he fo s σ H _ _ I h) (λv s1 ⟨y,H1,I1,r1,q1⟩=>?_) ?_) hs
 ·exact Jc I1 hN hi hx r1 (λs2 I2=>⟨_,H1,I2,q1⟩) hf
 ·rintro ev s1 ⟨e,T,cls,a0,σ',H',h1,h2,h3,h4,h5,h7,rfl,h6⟩
  exact ⟨e,T,cls,a0,σ',H',h1,h2,h3,h4,h5,h7,h6⟩
def Inv.cxr (I:Inv X fo σ H s) (hex:X.ex=[]) (h:CXr X.prog X.w X.stack H s E ev s'):XS fr X fo (λcls σ' H'=>σ'=σ/\E cls none H') ev s':=by
 obtain ⟨e,T,cls,a0,H',rfl,os,bare,un,hok,ne,nT,he,hT,fl,q⟩:=h;have I':Inv X fo σ H' s':=I.call' os un hok bare λb hb=>absurd hb (by simp)
 have fx:∀ b,s.heap.get? b=none->H' b=none->FxOk X fo H' b:=λb hb hn=>by
  refine ⟨hn,λz=>?_,λz=>?_,?_,λx c e z=>?_,λp hp z=>?_⟩
  ·obtain ⟨m,⟨o,_,_,ho,_⟩,_⟩:=I.loc
   rw [z,ho] at hb; cases hb
  ·obtain ⟨_,o,ho,_⟩:=I.funs.mem z
   rw [ho] at hb; cases hb
  ·cases q:X.s₀.heap.get? b with
   | none=>rfl
   | some o =>
    obtain ⟨o',e'⟩:=I.base.there b o q (by rw [hex]; simp);rw [hb] at e'; cases e'
  ·obtain ⟨v,o,ho,_⟩:=I.cell x c e
   rw [z,hb] at ho; cases ho
  ·have:=(I.pin p hp).1
   rw [z,hb] at this; cases this
 exact ⟨e,some T,cls,a0,σ,H',rfl,I',fl,fx e ne he,λt ht=>by cases ht; exact fx T nT hT,(λz=>nomatch z),Y,q⟩
variable {k:Nat} {f C:Addr} {fd:FuncData} {ps:List Str} {sp:Sp} {ic:List V} {ds:List Value} {x m:Str} {p pos gk:Pos} {e o:Expr} {es:List Expr} {ta:TE} {t:TA}
def Zdw (F:FnOk X.prog X.w X.K X.mg X.base (CXr X.prog X.w) k f fd ps sp) (hr:Room k X.A) (hb:We X.K fd ps ds) (hd:Vals ic ds) (hex:X.ex=[])
  (I:Inv X fo σ H s) (r:Vals vs us) (h:sp (vs ++ ic) H Q E):wpAny (a:) X.A (call (.ref f) us) (EP X fo σ Q) (XS fr X fo λcls σ' H'=>σ'=σ/\E cls none H') s:=by
 have r2:Vals (vs ++ ic) (us ++ ds):=r.append hd;have hl:(us ++ ds).length=ps.length:=by rw [<- r2.length]; exact F.len _ _ _ _ h
 refine wpAny_call (codeAny_mono (F.run X.A X.stack s H ⟨us,[]⟩ (us ++ ds) (vs ++ ic) Q E hr I.env0 (hb s us I.kIn hl) r2 h) λr s' hq=>?_)
 cases r with
 | error e=>exact I.cxr hex hq
 | ok fl =>
  cases fl with
  | ret u=>exact I.after hq
  | next=>exact False.elim hq
  | brk=>exact False.elim hq
  | cont=>exact False.elim hq
def Zgo (sp:Sp) (ic:List V) (t:TA):TEX:=λσ H Q E=>t σ H λvs H1=>sp (vs ++ ic) H1 Q E
def Zje (F:FnOk X.prog X.w X.K X.mg X.base (CXr X.prog X.w) k f fd ps sp) (hr:Room k X.A) (hg:Gl X x) (hm:X.mg x=some (.ref f)) (hk:PySem.W.keepIn X.K (.ref f)=true) (hb:We X.K fd ps ds) (hd:Vals ic ds)
  (ha:PA X (e :: es) t) (hex:X.ex=[]:=by rfl) (hx:X.xe=(λ_ _=>False):=by rfl) (jx:(x == ("__debug__":Str))=false:=by decide) (he:starEach (e :: es) X.env=(false,eval e X.env) :: starEach es X.env:=by rfl) (g8:(backTo pos (starEach es X.env)).any (·.1)=false:=by rfl) :
  PEX fr X (.Call (.Name x p) (e :: es) [] pos) (Zgo sp ic t):=by
 intro fo s σ H Q E I h;have h0:=ha pos fo s σ H _ I h;rw [hx] at h0;refine wpAny_Call_Name_kw (Vh I hg hm ?_ jx);refine PySem.W.callWith_K (h₀:=X.base) I.ok.mod.kin hk (wpAny_mono h0 (λus s1 zz32=>?_) λ_ _ z=>z.elim) he g8;obtain ⟨vs,H1,I1,r,q⟩:=zz32;refine ⟨I1.kIn,?_⟩;exact Zdw F hr hb hd hex I1 r q
def Zm1 (C:Addr) (m:Str) (sp:Sp) (ic:List V) (ta:TE) (t:TA):TEX:=λσ H Q E=>ta σ H λx H1=>∃ a dx fs,x=.ref a/\H1 a=some (.ins C dx fs)/\fs.lookup m=none /\
 t σ H1 λvs H2=>sp (x :: (vs ++ ic)) H2 Q E
def O3 (he:PE X o ta) (c:Cls X.K C) (hm:Meth X.K C m f) (F:FnOk X.prog X.w X.K X.mg X.base (CXr X.prog X.w) k f fd ps sp) (hr:Room k X.A) (hb:We X.K fd ps ds) (hd:Vals ic ds) (ha:PA X (e :: es) t)
  (hex:X.ex=[]:=by rfl) (hx:X.xe=(λ_ _=>False):=by rfl) (lg:starEach (e :: es) X.env=(false,eval e X.env) :: starEach es X.env:=by rfl) (g8:(backTo pos (starEach es X.env)).any (·.1)=false:=by rfl)
  (ht:eval (.Call (.Attribute o m gk) (e :: es) [] pos) X.env=(do
   let ov <- eval o X.env
   standAt gk.atName
   let (f,first) <- holding [ov] (getMethod ov m pl)
   callWith pos f first (backTo pos (starEach (e :: es) X.env)) (backToKw pos (keywordEach [] X.env))):=by rfl) :
  PEX fr X (.Call (.Attribute o m gk) (e :: es) [] pos) (Zm1 C m sp ic ta t):=by
 intro fo s σ H Q E I h;have h0:=he fo s σ H _ I h;rw [hx] at h0;refine PySem.W.methodCall_KW (pl:=pl) (wpAny_mono h0 (λu s1 zz33=>?_) λ_ _ z=>z.elim) ht;obtain ⟨x,H1,I1,rx,a,dx,fs,ex,ea,l,q⟩:=zz33;subst ex;obtain rfl:u=Value.ref a:=rx;refine V0 I1 ea c hm l ?_;have h1:=ha pos fo s1 σ H1 _ I1 q;rw [hx] at h1;refine PySem.W.callWith_K (first:=[.ref a]) (h₀:=X.base) I.ok.mod.kin hm.kp (wpAny_mono h1 (λus s2 zz34=>?_) λ_ _ z=>z.elim) lg g8;obtain ⟨vs,H2,I2,r,q2⟩:=zz34;refine ⟨I2.kIn,?_⟩;exact Zdw (us:=.ref a :: us) (vs:=.ref a :: vs) F hr hb hd hex I2 (.cons Y r) q2
end
theorem Z3.there {h:Heap}:∀ {o:HO},Z3 P w H h a o->∃ ob,h.get? a=some ob
 | .lst _,x=>by obtain ⟨_,_,_,_,e⟩:=x; exact ⟨_,e⟩
 | .tup _,x=>by obtain ⟨_,_,_,ob,e,_⟩:=x; exact ⟨_,e⟩
 | .dK _,x=>by obtain ⟨_,_,_,_,o,_,_,e,_⟩:=x; exact ⟨_,e⟩
 | .dT _,x=>by obtain ⟨_,_,_,_,o,_,_,e,_⟩:=x; exact ⟨_,e⟩
 | .set _ _,x=>by obtain ⟨o,_,_,_,e,_⟩:=x; exact ⟨_,e⟩
 | .ins _ _ _,x=>by obtain ⟨_,_,_,e,_⟩:=x; exact ⟨_,e⟩
 | .own _,x=>by obtain ⟨_,e⟩:=x; exact ⟨_,e⟩
 | .xd _,x=>by obtain ⟨_,⟨_,_,_,e,_⟩,_⟩:=x; exact ⟨_,e⟩
 | .rng _ _,x=>by obtain ⟨_,_,_,e⟩:=x; exact ⟨_,e⟩
 | .frz _ _,x=>by obtain ⟨e,_⟩:=x; exact ⟨_,e⟩
 | .tbl _,x=>⟨_,(show h.get? a=some _ from x)⟩
 | .met _ _,x=>⟨_,(show h.get? a=some _ from x)⟩
 | .ext _,x=>by obtain ⟨_,⟨_,e⟩,_⟩:=x; exact ⟨_,e⟩
section
variable {X:Cx} {fo:List (Addr × Obj)} {σ:St} {H:Hp} {s:Shared}
def Inv.untr (I:Inv X fo σ H s) (hb:s.heap.get? b=none):H b=none:=by
 cases q:H b with
 | none=>rfl
 | some o =>
  obtain ⟨ob,e⟩:=(I.hok b o q).there;rw [hb] at e; cases e
def Inv.fxOk (I:Inv X fo σ H s) (hex:X.ex=[]) (hb:s.heap.get? b=none):FxOk X fo H b:=by
 refine ⟨I.untr hb,λz=>?_,λz=>?_,?_,λx c e z=>?_,λp hp z=>?_⟩
 ·obtain ⟨m,⟨o,_,_,ho,_⟩,_⟩:=I.loc
  rw [z,ho] at hb; cases hb
 ·obtain ⟨_,o,ho,_⟩:=I.funs.mem z
  rw [ho] at hb; cases hb
 ·cases q:X.s₀.heap.get? b with
  | none=>rfl
  | some o =>
   obtain ⟨o',e'⟩:=I.base.there b o q (by rw [hex]; simp);rw [hb] at e'; cases e'
 ·obtain ⟨v,o,ho,_⟩:=I.cell x c e
  rw [z,hb] at ho; cases ho
 ·have:=(I.pin p hp).1
  rw [z,hb] at this; cases this
end
structure ExcK (K:W.Frag) (C:Addr) (xf:List Value) (j7:String):Prop where
 q:PySem.W.excIn K C xf j7=true
def Zmf {K:W.Frag} {h:Heap} (X:K.In h) (q:PySem.W.excIn K C xf j7=true) :
  ∃ bm N nm q bs hdct sn sub ab col dd k0 k1 k2 k3 k5 mN,h.get? C=some (excClassObj nm q C N bs bm hdct sn sub ab col dd k0 k1 k2 k3 k5 j7)/\h.Ns N mN/\mN "__init__"=none/\OwnTail h xf bm:=by
 unfold PySem.W.excIn at q;split at q
 ·rename_i dd cd sl ho
  split at q
  ·rename_i C' bm k0 k1 k2 k3 n k5 hm hs
   simp only [Bool.and_eq_true,beq_iff_eq,Bool.not_eq_true'] at q;obtain ⟨⟨⟨⟨⟨rfl,rfl⟩,xy⟩,ht⟩,hok⟩,zm⟩:=q;obtain ⟨nm,bs,mro,ns,qn,hd,sn,sub,ab,col,del⟩:=cd;dsimp only at hm xy hok zm;subst hm xy;have zg:sl=#[k0,k1,k2,k3,some (.builtin n),k5]:=by
    obtain ⟨l⟩:=sl
    simp only at hs
    rw [hs]
   subst zg;exact ⟨bm,ns,nm,qn,bs,hd,sn,sub,ab,col,dd,k0,k1,k2,k3,k5,_,X _ _ ho,.of_isNs (PySem.W.isNs_of_in X hok),PySem.W.nsMap_none_of_in X hok zm,PySem.W.tail_of_in X ht⟩
  ·cases q
 ·cases q
section
variable {X:Cx}
def Zmz (C:Addr) (t:TA):TSX:=λ_ R σ H=>t σ H λvs H1=>vs.length<=1000/\R (.ref C) σ H1
def Up (K:ExcK X.K C xf j7) (FB:ExcBaseFacts B j7 initId xf) (hg:Gl X x) (hm:X.mg x=some (.ref C)) (hc:X.calm=true) (ha:PA X (e :: es) t)
  (hex:X.ex=[]:=by rfl) (hx:X.xe=(λ_ _=>False):=by rfl) (jx:(x == ("__debug__":Str))=false:=by decide) (he:starEach (e :: es) X.env=(false,eval e X.env) :: starEach es X.env:=by rfl) (g8:(backTo gh (starEach es X.env)).any (·.1)=false:=by rfl) :
  PSX true X (.Raise (some (.Call (.Name x np) (e :: es) [] gh)) none pos) (Zmz C t):=by
 intro fo s σ H D R I h;obtain ⟨tl,N,nm,q,bs,hdct,sn,sub,ab,col,dd,k0,k1,k2,k3,k5,mN,hC,hN,zm,T⟩:=Zmf I.ok.mod.kin K.q;refine wpAny_Raise_call_subT (C:=C) (nm:=nm) (q:=q) (N:=N) (bs:=bs) (bm:=tl) (hdct:=hdct) (sn:=sn) (sub:=sub) (ab:=ab) (col:=col) (dd:=dd) (k0:=k0) (k1:=k1) (k2:=k2) (k3:=k3) (k5:=k5)
  FB (mN:=mN) (T.hasType FB.hasBase) (I.ok.hd hc) (by rw [he]; show (false || (backTo gh (starEach es X.env)).any (·.1))=false; rw [g8]; rfl) zm (Vh I hg hm ⟨rfl,?_⟩ jx)
 have h0:=ha gh fo s σ H _ I h;rw [hx] at h0;rw [he] at h0 ⊢;refine Calls.evalArgs_plain (wpAny_mono h0 (λus s₂ zz35=>?_) λ_ _ z=>z.elim);obtain ⟨vs,H1,I1,r1,hl,q1⟩:=zz35;have kb:=I1.bk;refine ⟨Y,?_,kb _ _ hC,hN.keeps kb,T.keeps kb,λh' ea ph=>?_⟩
 ·rw [<- r1.length]
  exact Nat.le_of_lt (Zx hl)
 obtain ⟨tt,h1,h2,h3⟩:=ph.there;have I2:Inv X fo σ H1 { s₂ with heap:=h' }:=I1.kept (t':=s₂.toks) ph.keeps;have fx:=I1.fxOk hex ph.new;exact ⟨ea,none,.ref C,.ref tt,σ,H1,Y,I2,⟨_,_,h1,⟨Y,Y⟩,Y,Y⟩,⟨fx.nt,fx.nl,fx.nf,fx.n0,fx.nc,fx.np⟩,(λt z=>nomatch z),(λ_=>rfl),q1⟩
def Un.leave {h₀ h h':Heap} (u:Un fs [] H₀ H h₀ h) (hk:∀ b o,h₀.get? b=some o->b ∉ fs->h.get? b=some o->h'.get? b=some o)
  (hs:∀ b o,b∈fs->h.get? b=some o->∃ sl,h'.get? b=some { o with slots:=sl }) (ht:∀ b o,h₀.get? b=some o->∀ o',h.get? b=some o'->∃ o'',h'.get? b=some o''):Un fs [] H₀ H h₀ h' where
 keep:=λb o e n hb hx=>hk b o e hb (u.keep b o e n hb hx)
 slot:=λb o e n hb hx=>by
  obtain ⟨sl,e1⟩:=u.slot b o e n hb hx;obtain ⟨sl',e2⟩:=hs b _ hb e1;exact ⟨sl',e2⟩
 free:=u.free
 there:=λb o e hx=>by
  obtain ⟨o',e1⟩:=u.there b o e hx;exact ht b o e o' e1
 tups:=u.tups
 frzs:=u.frzs
 tbls:=u.tbls
def G6 {X:Cx} {s:Shared} (I:Inv X fo σ H s) (as:List Addr) (hs:∀ b∈frs X.stack,b∈as):s.heap.FunFrames (PySem.W.hideAll s.heap as) X.stack:=by
 have all:∀ (l:List Env),(∀ b∈frs l,b∈as)->s.heap.FunFrames X.base l->s.heap.FunFrames (PySem.W.hideAll s.heap as) l:=by
  intro l
  induction l with
  | nil=>intro _ _; trivial
  | cons env r ih =>
   intro hs hl;obtain ⟨hk,⟨L,o,hf,hn,ho,hd⟩,hr⟩:=hl;have hL:L∈as:=hs L (by unfold frs; rw [filterMap_cons,hf]; exact mem_cons_self);exact ⟨hk,⟨L,o,hf,PySem.W.hideAll_none as hL,ho,hd⟩,ih (λb hb=>hs b (by unfold frs; rw [filterMap_cons,hf]; exact mem_cons_of_mem _ hb)) hr⟩
 exact all X.stack hs I.stack
def Inv.fnd {X:Cx} {s:Shared} (I:Inv X fo σ H s) (hb:b∈frs X.stack) {o:Obj} (e:s.heap.get? b=some o):∀ vs,o.data≠.fields vs:=by
 obtain ⟨_,o',e',d⟩:=I.stack.mem hb;rw [e] at e'; cases e';exact d
end
def FxOk.none {X:Cx} {fo:List (Addr × Obj)} {H:Hp} {b:Addr} (h:FxOk X fo H b):FxOk X [] H b:=⟨h.nt,h.nl,h.nf,h.n0,h.nc,λp hp=>h.np p (by rw [append_nil] at hp; exact mem_append_left _ hp)⟩
section
variable {P:Program} {w:World} {K:W.Frag} {mg:Str->Option Value} {base:Heap}
def Zjy (h:XS fr (cxOf (CXr P w) P w K mg base N qual scope f cd A outer s H E).nox [] (λcls _ H'=>E cls none H') ev s'):(cxOf (CXr P w) P w K mg base N qual scope f cd A outer s H E).xe ev s':=by
 obtain ⟨e,T,cls,a0,σ',H',rfl,I,hx,fe,fT,_,q⟩:=h;show wpAny (model P w) (A.deeper (envOfC qual scope s.heap.objs.size f cd)) (leaving (envOfC qual scope s.heap.objs.size f cd) (.ref e)) (λ_ nz=>CXr P w outer H s E (.ref e) nz) (λe' nz=>CXr P w outer H s E e' nz) s';have lg:(cxOf (CXr P w) P w K mg base N qual scope f cd A outer s H E).nox.stack=envOfC qual scope s.heap.objs.size f cd :: outer:=rfl;have zt:(A.deeper (envOfC qual scope s.heap.objs.size f cd)).frames=some (envOfC qual scope s.heap.objs.size f cd :: outer):=I.ok.frames
 have n0:∀ b,b∈e :: T.toList->s.heap.get? b=none:=λb hb=>by
  rcases Ar hb with z | z
  ·rw [z]; exact fe.n0
  ·cases T with
   | none=>simp at z
   | some t =>
    have:b=t:=by simpa using z
    rw [this]; exact (fT t Y).n0
 have nt:∀ b,b∈e :: T.toList->H' b=none:=λb hb=>by
  rcases Ar hb with z | z
  ·rw [z]; exact fe.nt
  ·cases T with
   | none=>simp at z
   | some t =>
    have:b=t:=by simpa using z
    rw [this]; exact (fT t Y).nt
 have hB:∀ b o,b ∉ e :: T.toList->b ∉ frs (envOfC qual scope s.heap.objs.size f cd :: outer)->s'.heap.get? b=some o->(PySem.W.hideAll s'.heap ((e :: T.toList) ++ frs (envOfC qual scope s.heap.objs.size f cd :: outer))).get? b=some o:=λb o h1 h2 e1 =>
  PySem.W.hideAll_get _ e1 λz=>(mem_append.mp z).elim h1 h2
 have hl:s'.heap.FunFrames (PySem.W.hideAll s'.heap ((e :: T.toList) ++ frs (envOfC qual scope s.heap.objs.size f cd :: outer))) (envOfC qual scope s.heap.objs.size f cd :: outer):=G6 I _ λb hb=>mem_append_right _ hb;have hkb:(PySem.W.hideAll s'.heap ((e :: T.toList) ++ frs (envOfC qual scope s.heap.objs.size f cd :: outer))).StaysIn s'.heap:=λb o e1=>PySem.W.of_hideAll _ e1;have hen:(PySem.W.hideAll s'.heap ((e :: T.toList) ++ frs (envOfC qual scope s.heap.objs.size f cd :: outer))).get? e=none:=PySem.W.hideAll_none _ (mem_append_left _ mem_cons_self)
 have fin:∀ h',Heap.LeftW (PySem.W.hideAll s'.heap ((e :: T.toList) ++ frs (envOfC qual scope s.heap.objs.size f cd :: outer))) (envOfC qual scope s.heap.objs.size f cd :: outer) e cls a0 s'.heap h'->CXr P w outer H s E (.ref e) { s' with heap:=h' }:=λh' ⟨k1,k2,k3,k4⟩=>by
  obtain ⟨oe,vs,T',oT,ts,x1,x2,x3,x4,x5,x6,x7,x8,x9⟩:=k3;have nk:∀ b o,b∈frs (envOfC qual scope s.heap.objs.size f cd :: outer)->s'.heap.get? b=some o->∃ sl,h'.get? b=some { o with slots:=sl }:=λb o hb e1=>k4 b o e1 (I.fnd hb e1);have kept:∀ b o,b ∉ e :: T.toList->b ∉ frs (envOfC qual scope s.heap.objs.size f cd :: outer)->s'.heap.get? b=some o->h'.get? b=some o:=λb o h1 h2 e1=>k1 b o (hB b o h1 h2 e1);have nL:∀ b o,s.heap.get? b=some o->b ∉ frs outer->b ∉ frs (envOfC qual scope s.heap.objs.size f cd :: outer):=λb o e1 h2 z=>by
   have z':b∈s.heap.objs.size :: frs outer:=z
   rcases Ar z' with z1 | z1
   ·rw [z1] at e1; exact absurd (Ao e1) (Nat.lt_irrefl _)
   ·exact h2 z1
  have nE:∀ b o,s.heap.get? b=some o->b ∉ e :: T.toList:=λb o e1 z=>by rw [n0 b z] at e1; cases e1
  have trk:∀ b u,H' b=some u->∀ o,s'.heap.get? b=some o->h'.get? b=some o:=λb u hu o e1=>by
   refine kept b o (λz=>by rw [nt b z] at hu; cases hu) (λz=>?_) e1;rw [I.stkFree b z] at hu; cases hu
  have hT':s.heap.get? T'=none/\H' T'=none:=by
   by_cases hz:s'.heap.get? T'=none
   ·refine ⟨?_,I.untr hz⟩
    cases q':s.heap.get? T' with
    | none=>rfl
    | some o =>
     obtain ⟨o',e'⟩:=I.base.there T' o q' (by simp [cxOf]);rw [hz] at e'; cases e'
   ·obtain ⟨o,ho⟩:=Option.ne_none_iff_exists'.mp hz
    by_cases h1:T'∈e :: T.toList
    ·exact ⟨n0 T' h1,nt T' h1⟩
    ·by_cases h2:T'∈frs (envOfC qual scope s.heap.objs.size f cd :: outer)
     ·exfalso
      obtain ⟨sl,e'⟩:=nk T' o h2 ho;rw [x7] at e';cases e';exact I.fnd h2 ho ts x8
     ·rw [hB T' o h1 h2 ho] at x5; cases x5
  refine ⟨e,T',cls,a0,H',Y,I.os,I.bare,?_,λb u hu=>?_,fe.n0,hT'.1,fe.nt,hT'.2,⟨oe,vs,oT,ts,x1,x2,x3,x4,x6,x7,x8,x9⟩,q⟩
  ·refine Un.leave I.base (λb o e1 h1 e2=>kept b o (nE b o e1) (nL b o e1 h1) e2) (λb o hb e1=>nk b o (mem_cons_of_mem _ hb) e1) λb o e1 o' e2=>?_
   by_cases h2:b∈frs outer
   ·obtain ⟨sl,e'⟩:=nk b o' (mem_cons_of_mem _ h2) e2
    exact ⟨_,e'⟩
   ·exact ⟨o',kept b o' (nE b o e1) (nL b o e1 h2) e2⟩
  ·refine (I.hok b u hu).stay (λc v hc e1=>?_) (λ_ z=>z) λ_ _ z=>z
   rcases hc with z | z
   ·exact trk c u (by rw [z]; exact hu) v e1
   ·exact trk c _ z v e1
 cases T with
 | none =>
  obtain ⟨oe,vs,x1,x2,x3,x4⟩:=hx;obtain ⟨x21,x22⟩:=x2;subst x21;exact wpAny_leaving_firstW zt hl Y x1 hkb hen x3 x4 x22 fin
 | some t =>
  obtain ⟨oe,vs,oT,ts,x1,x2,x3,x4,x5,x6,x7,x8⟩:=hx;exact wpAny_leaving_nextW zt hl Y ⟨oe,vs,t,oT,ts,x1,x2,x3,x4,PySem.W.hideAll_none _ (mem_append_left _ (by simp)),x5,x6,x7,x8⟩ hkb hen fin
def Fun.okX {x qual:Str} {st:Stmt} {f:Addr} {fd:FuncData} {N ps:List Str} {k:Nat} {sp:Sp} (F:Fun K x qual st f fd) (S:FnScope N ps (Zh st)) (len:∀ vs H Q E,sp vs H Q E->vs.length=ps.length)
  (il:∀ (gx:Value) (A:Around) (outer:List Env) (s:Shared) (H:Hp) (vs:List V) (Q:VK) (E:XK),Room k (A.deeper (envOfC qual (Zh st) s.heap.objs.size f gx))->sp vs H Q E ->
   ∃ t,PSsX true (cxOf (CXr P w) P w K mg base N qual (Zh st) f gx A outer s H E).nox (Yt st) t/\t { nx:=λ_ H'=>Q .non H',rt:=Q } (λcls _ H'=>E cls none H') (start N vs) H):FnOk P w K mg base (CXr P w) (k + 1) f fd ps sp:=by
 obtain ⟨oc,od,kV,g6,pm,an,gx,ct,o7,rfl,lk,lh⟩:=F.ex;refine Zkw lk lh S len λA outer s H vs Q E hr jh=>?_;obtain ⟨t,h,q⟩:=il gx A outer s H vs Q E hr jh;refine ⟨λD σ H'=>t D (λcls _ H''=>E cls none H'') σ H',λfo s' σ' H' D I hD=>?_,q⟩;refine wpAny_mono (h fo s' σ' H' D _ (I.wish _) hD) (λ_ _ z=>z.unwish) λev nz z=>Zjy (fr:=true) ?_;obtain ⟨e,T,cls,a0,σ2,H2,h1,h2,h3,h4,h5,h7,h6⟩:=z;exact ⟨e,T,cls,a0,σ2,H2,h1,h2.pins_of (λp hp=>absurd hp (by simp)),h3,h4.none,λt ht=>(h5 t ht).none,h7,h6⟩
end
section
variable {X:Cx} {fo:List (Addr × Obj)} {σ:St} {H:Hp} {s:Shared} {A:Around} {E:Value->Shared->Prop} {a:Addr}
def Zn9 {kvs:List (Key × V)} (I:Inv X fo σ H s) (e:H a=some (.dK kvs)) (hl:kvs.length < sizeLine) (ry:RelV (kV k) u) (rd:RelV d r)
  (h1:∀ v w' s',valV kvs k=some v->Inv X fo σ H s'->RelV v w'->Q w' s') (h2:valV kvs k=none->∀ s',Inv X fo σ (upd H a (.dK (putK kvs k d))) s'->Q r s') :
  wpAny (a:) A (call (.builtin "dict.setdefault") [.ref a,u,r]) Q E s:=by
 obtain ⟨z,hd,vs,gm,dd⟩:=Zf7 I.hok e;have hz:vs.length<=sizeLine:=by rw [<- gm.length]; exact z
 refine call_meetsIn PySem.F.slot_dict_setdefault dd.typeIs PySem.F.entry_dict_setdefault (PySem.F.args_dict_setdefault_3 _ _ _) (kt_meets_setdefault (Z4 X.prog X.w) a (Oc ry) hd r) ⟨vs,dd,hz,λv hv=>?_,λhv h' oq hs=>?_⟩
 ·have jr:=gm.val k
  rw [hv] at jr
  cases q:valV kvs k with
  | none=>rw [q] at jr; exact jr.elim
  | some y=>rw [q] at jr; exact h1 y v _ q (I.tok _) jr
 ·have jr:=gm.val k
  rw [hv] at jr
  cases q:valV kvs k with
  | some y=>rw [q] at jr; exact jr.elim
  | none =>
   have he:∃ q,h'.get? a=some q:=let ⟨q,_,_,hq,_⟩:=oq; ⟨q,hq⟩
   have ij:(putK kvs k d).length<=sizeLine:=by have:=Jx kvs k d; lia
   exact h2 q _ (Og I (by rw [e]; exact True.intro) hs he (Zcl ij hd (gm.put k rd) oq))
end
def Zm3 (td ty tx:TE):TE:=λσ H Q=>td σ H λx H1=>∃ a,x=.ref a/\IsD H1 a/\ty σ H1 λy H2=>tx σ H2 λz H3=>∃ kvs k,H3 a=some (.dK kvs)/\kvs.length < sizeLine/\y=kV k /\
 (∀ v,valV kvs k=some v->Q v H3)/\(valV kvs k=none->Q z (upd H3 a (.dK (putK kvs k z))))
section
variable {X:Cx} {o e f:Expr} {gk gh:Pos} {td ty tx:TE}
def Zjf (ho:PE X o td) (he:PE X e ty) (hf:PE X f tx) (m:M2 X o "setdefault" gk e f gh):PE X (.Call (.Attribute o "setdefault" gk) [e,f] [] gh) (Zm3 td ty tx):=by
 intro fo s σ H Q I h;refine wpAny_Call_method m.base m.few m.line PySem.F.plainAttrs_dict PySem.F.slot_dict_setdefault PySem.F.type_dict_setdefault (thn (ho fo s σ H _ I h) λu s1 gc=>?_);obtain ⟨x,H1,I1,rx,a,ex,d,q1⟩:=gc;subst ex;obtain rfl:u=Value.ref a:=rx;obtain ⟨t1,t2,_⟩:=K8 I1 d;refine ⟨t1,t2,?_⟩;rw [m.trees];refine Calls.callWith_builtin rfl (Calls.evalArgs_plain (Calls.spliced_cons (thn (he fo s1 σ H1 _ I1 q1) λiv s2 ⟨y,H2,I2,ry,q2⟩ =>
  Calls.spliced_cons (thn (hf fo s2 σ H2 _ I2 q2) λfv s3 ⟨z,H3,I3,rz,kvs,k,hk,hl,ey,q3,q4⟩=>Calls.spliced_nil ?_))))
 subst ey;exact Zn9 I3 hk hl ry rz (λv w' s' hv I' jp=>⟨v,H3,I',jp,q3 v hv⟩) λhv s' I'=>⟨z,_,I',rz,q4 hv⟩
def Zcf {kvs:List (Key × V)} {vs:List (Key × Value)} {ks:List Int} (gm:KV kvs vs) (hk:kvs.map (·.1)=ks.map Sum.inl) {us:List Value} (hl:us.length=vs.length)
  (hu:∀ (j:Nat) (v:Value),us[j]?=some v->∃ k x,vs[j]?=some (k,x)/\(Z4 P w).is k v=true):IntsAre us ks:=by
 have jv:kvs.length=ks.length:=by have:=congrArg List.length hk; simpa using this
 have hvl:kvs.length=vs.length:=gm.length
 have key:∀ (j:Nat) (v:Value),us[j]?=some v->∃ i t,ks[j]?=some i/\v=Value.int i t:=λj v hv=>by
  obtain ⟨k,x,hx,hi⟩:=hu j v hv;have e1:(vs.map (·.1))[j]?=some k:=by rw [Ah,hx]; rfl
  have e2:vs.map (·.1)=kvs.map (·.1):=by
   clear hk hl hu jv hvl hx hi e1
   induction gm with
   | nil=>rfl
   | cons r t ih=>rw [map_cons,map_cons,ih,r.1]
  rw [e2,hk,Ah] at e1
  cases q:ks[j]? with
  | none=>rw [q] at e1; cases e1
  | some i =>
   rw [q] at e1;have e3:Sum.inl i=k:=Ax e1;subst e3;obtain ⟨t,ht⟩:=Value.isInt_shape (k:=i) (v:=v) hi;exact ⟨i,t,Y,ht⟩
 have gen:∀ (us:List Value) (ks:List Int),us.length=ks.length->(∀ (j:Nat) (v:Value),us[j]?=some v->∃ i t,ks[j]?=some i/\v=Value.int i t)->IntsAre us ks:=by
  intro us
  induction us with
  | nil =>
   intro ks hl _
   cases ks with
   | nil=>exact .nil
   | cons _ _=>simp at hl
  | cons u r ih =>
   intro ks hl h
   cases ks with
   | nil=>simp at hl
   | cons i ks =>
    obtain ⟨i',t,e1,e2⟩:=h 0 u rfl;have e1':i=i':=by simpa using e1
    subst e1' e2;exact .cons i t (ih ks (by simpa using hl) λj v hv=>h (j + 1) v (by simpa using hv))
 exact gen us ks (by lia) key
def U0 (hc:X.calm=true):Yv X (.builtin "sorted") (λxs H Q=>∃ (d:Addr) (kvs:List (Key × V)) (ks:List Int),xs=[.ref d]/\Rd H d (.dK kvs)/\kvs.map (·.1)=ks.map Sum.inl/\ks.length < 64 /\
  ∀ (p:Addr) (out:List Int),H p=none->out.Perm ks->out.Pairwise (·<=·)->Q (.ref p) (upd H p (.lst (out.map V.int)))):=by
 intro fo s σ H xs us Q I r h;obtain ⟨d,kvs,ks,rfl,hd,hk,mq,q⟩:=h;obtain ⟨u,rfl,ru⟩:=Xr r;obtain rfl:u=Value.ref d:=ru;obtain ⟨z,jc,vs,gm,dd⟩:=Qh I.hok hd;obtain ⟨ep,om⟩:=dd.dictAt;have fw:vs.length=ks.length:=by have:=congrArg List.length hk; rw [Ab,Ab] at this; have:=gm.length; lia
 have hn:vs.length<=sizeLine:=by rw [sizeLine_eq]; lia
 refine Calls.call_function_entry kind_sorted plain_sorted entry_sorted (args_sorted1 _) ?_;unfold Builtin.«sorted»;refine Al (m:=checkCount "sorted" 1 1 _) (wpAny_pure ?_);refine Al (PySem.W.kdu_collect (A:=X.A.in1) (PySem.W.kdl_dict (knd:=Z4 X.prog X.w) (kvs:=vs) (ep:=ep) jc) (I.ok.hd hc) om hn λh' tk gf i9 nh=>?_);have hl:gf.toList.length=vs.length:=by rw [Array.length_toList]; exact nh.1
 have hI:IntsAre gf.toList ks:=Zcf (P:=X.prog) (w:=X.w) gm hk hl λj v hv=>nh.2 j v (by rw [<- Array.getElem?_toList]; exact hv);refine Al (wpAny_newList ?_ (by rw [hl]; exact hn));have I1:Inv X fo σ H { s with heap:=h',toks:=tk }:=I.kept i9;have pd:(h'.push { cls:=.type "list",data:=.seq gf.toList.toArray }).get? h'.objs.size=some (seqObj "list" gf.toList.toArray 0):=Ap _ rfl;refine Al (wpAny_holding (wpAny_call_entry slot_list_sort ⟨_,pd,Y⟩ entry_list_sort (list_sort_tree pd hI (by lia) λout ns' a1 a2 a3=>⟨_,Y,?_⟩) (args_list_sort _)));refine wpAny_pure ⟨_,Y,?_⟩;obtain ⟨e,he⟩:=sortedHeap_at (out:=out) pd;have kp:∀ b u,h'.get? b=some u->(sortedHeap (h'.push { cls:=.type "list",data:=.seq gf.toList.toArray }) h'.objs.size gf.toList out).get? b=some u:=λb u hb=>by
  have gj:b < h'.objs.size:=Ao hb
  rw [sortedHeap_old (As gj) (by rw [Heap.size_push]; exact lt_succ_of_lt gj)]
  exact Ak _ hb
 have hv:Vals (ns'.map V.int) out.toList:=by
  clear he kp;generalize out.toList=l at a1;clear a2 a3
  induction a1 with
  | nil=>exact .nil
  | cons i t _ ih=>exact .cons ⟨_,Y⟩ ih
 refine ⟨.ref h'.objs.size,upd H h'.objs.size (.lst (ns'.map V.int)),I1.laid kp (An _) ?_,Y,q _ ns' I1.fresh a2 a3⟩;refine ⟨?_,out.toList,e,hv,?_⟩
 ·rw [Ab,a2.length_eq,sizeLine_eq]; lia
 ·rw [he]
end
section
variable {X:Cx} {fo:List (Addr × Obj)} {σ:St} {H:Hp} {s:Shared} {a:Addr}
def Inv.freeze (I:Inv X fo σ H s) (e:H a=some u) (mu:Mut (some u)) (ho:s.heap.get? a=some ob):Inv X fo σ (upd H a (.frz ob u)) s:=by
 have lu:∀ c y,H c=some (.own y)->c≠a:=λc y r z=>by subst z; rw [r] at e; cases e; exact mu
 have kh:∀ c xs,H c=some (.tup xs)->c≠a:=λc xs r z=>by subst z; rw [r] at e; cases e; exact mu
 have nfrz:∀ c o xs,H c=some (.frz o xs)->c≠a:=λc o xs r z=>by subst z; rw [r] at e; cases e; exact mu
 have ntbl:∀ c ps,H c=some (.tbl ps)->c≠a:=λc ps r z=>by subst z; rw [r] at e; cases e; exact mu
 have un:Un X.fs [] H (upd H a (.frz ob u)) s.heap s.heap:=⟨λ_ _ q _ _ _=>q,λ_ o q _ _ _=>⟨o.slots,q⟩,λb o q n _=>by rw [Ze (λz=>by rw [z,e] at n; cases n)]; exact n,λb o q _=>⟨o,q⟩,
  λb xs q=>by rw [Ze (kh b xs q)]; exact q,λb o xs q=>by rw [Ze (nfrz b o xs q)]; exact q,λb ps q=>⟨#[],by rw [Ze (ntbl b ps q),q]; simp⟩⟩
 have hok:HOk X.prog X.w (upd H a (.frz ob u)) s.heap:=λb v q=>by
  have st:∀ c w',Z3 X.prog X.w H s.heap c w'->Z3 X.prog X.w (upd H a (.frz ob u)) s.heap c w':=λc w' x=>x.stay (λ_ _ _ q=>q) (λd r=>by rw [Ze (lu d c r)]; exact r) λd xs r=>by rw [Ze (kh d xs r)]; exact r
  by_cases hb:b=a
  ·subst hb
   rw [Zc] at q;cases q;exact ⟨ho,st _ _ (I.hok _ _ e)⟩
  ·rw [Ze hb] at q
   exact st _ _ (I.hok b v q)
 exact I.un (h':=s.heap) (t':=s.toks) un hok
end
section
def KV.at {kvs:List (Key × V)} {vs:List (Key × Value)} (r:KV kvs vs):∀ {i:Nat} {k:Key} {v:V},kvs[i]?=some (k,v)->∃ u,vs[i]?=some (k,u)/\RelV v u:=by
 induction r with
 | nil=>intro i k v h; simp at h
 | cons r t ih =>
  intro i k v h
  cases i with
  | zero =>
   simp at h;subst h;exact ⟨_,by rw [getElem?_cons_zero]; exact congrArg some (Prod.ext r.1.symm Y),r.2⟩
  | succ i =>
   obtain ⟨u,h1,h2⟩:=ih (by simpa using h);exact ⟨u,by simpa using h1,h2⟩
def Zku (h:(Z4 P w).is k u=true):RelV (kV k) u:=by
 cases k with
 | inl i=>obtain ⟨t,e⟩:=Value.isInt_shape (k:=i) (v:=u) h; exact ⟨t,e⟩
 | inr x=>obtain ⟨t,e⟩:=Value.isStrOf_shape (x:=x) (v:=u) h; exact ⟨t,e⟩
def X3 {X:Cx} {s:Shared} (I:Inv X fo σ H s) (e:H d=some (.frz o (.dK kvs))) :
  ∃ vs ep,KV kvs vs/\s.heap.DictAt (Z4 X.prog X.w) d vs ep/\s.heap.get? d=some o:=by
 obtain ⟨ho,_,_,vs,gm,dd⟩:=I.hok d _ e;obtain ⟨ep,da⟩:=dd.dictAt;exact ⟨vs,ep,gm,da,ho⟩
def epOf (o:Obj):Nat:=match o.data with
 | .dict _ ep=>ep
 | _=>0
def Qg {h:Heap} (da:h.DictAt (Z4 P w) d vs ep) (ho:h.get? d=some o):ep=epOf o:=by
 obtain ⟨o',es,h1,_,h2,_⟩:=da;rw [ho] at h1;cases h1;unfold epOf;rw [h2]
def Zgl {P:Program} {w:World} {K:W.Frag} {tg:Expr} (d it:Addr) (kvs:List (Key × V)) (o:Obj) :
  Turn P w K tg ⟨λi H=>i < kvs.length/\H d=some (.frz o (.dK kvs)),λi H x H'=>H'=H/\∃ k v,kvs[i]?=some (k,v)/\x=kV k,λi H=>kvs.length<=i/\H d=some (.frz o (.dK kvs))⟩ [it] it (λi h=>h.IsKeyIter it d i kvs.length (epOf o)) where
 mem:=by simp
 obj:=λi h st b hb=>by
  have e:b=it:=by simpa using hb
  subst e;obtain ⟨o,e,c,d⟩:=st;exact ⟨o,e,λv z=>by rw [d] at z; cases z⟩
 keep:=λi h h' st k=>st.at λo e=>k it (by simp) o e
 item:=by
  intro X hP hw hK hc i fo s σ H E I hf st hg;subst hP hw hK;obtain ⟨hi,hq⟩:=hg;obtain ⟨vs,ep,gm,da,ho⟩:=X3 I hq;have jw:=Qg da ho;subst jw;obtain ⟨f0,f1,f2,f3,f4,f5⟩:=hf it (by simp);obtain ⟨⟨k,v⟩,hx⟩:∃ p,kvs[i]?=some p:=⟨_,Ac hi⟩;obtain ⟨u,hu,ru⟩:=gm.at hx;have fw:vs.length=kvs.length:=gm.length.symm;rw [<- fw] at st;refine wpAny_pyNext_dict_item st da hu λkey h' hk ft sb=>?_;have I1:Inv X fo σ H { s with heap:=h' }:=I.turned (t':=s.toks) (λb o hb e=>(sb.2 b hb).trans e) f0 f1 f3 f4 f5;rw [fw] at ft;obtain ⟨oi,e,c,dd⟩:=id ft;exact ⟨key,Y,Vz (s:={ s with heap:=h' }) e c dd (by decide) ⟨kV k,H,I1,Zku hk,⟨Y,k,v,hx,Y⟩,ft,λb hb=>(hf b hb).1⟩⟩
 done:=by
  intro X hP hw hK hc i fo s σ H E I hf st hg;subst hP hw hK;obtain ⟨hi,hq⟩:=hg;obtain ⟨vs,ep,gm,da,ho⟩:=X3 I hq;have jw:=Qg da ho;subst jw;obtain ⟨f0,f1,f2,f3,f4,f5⟩:=hf it (by simp);have fw:vs.length=kvs.length:=gm.length.symm;rw [<- fw] at st;exact wpAny_pyNext_dict_end (I.ok.hd hc) st da (by rw [Ay]; lia) λh' eb=>⟨rfl,I.turned (t':=s.toks) (λb o hb e=>eb b o hb e) f0 f1 f3 f4 f5⟩
 self:=λ_ _ _ _ _ st h=>wpAny_pyIter_keyiter st h
def Zgj {P:Program} {w:World} {K:W.Frag} {tg:Expr} (d it:Addr) (kvs:List (Key × V)) (o:Obj) :
  Turn P w K tg ⟨λi H=>i < kvs.length/\H d=some (.frz o (.dK kvs)),λi H x H'=>H'=H/\∃ k,kvs[i]?=some (k,x),λi H=>kvs.length<=i/\H d=some (.frz o (.dK kvs))⟩ [it] it (λi h=>h.IsValIter it d i kvs.length (epOf o)) where
 mem:=by simp
 obj:=λi h st b hb=>by
  have e:b=it:=by simpa using hb
  subst e;obtain ⟨o,e,c,d⟩:=st;exact ⟨o,e,λv z=>by rw [d] at z; cases z⟩
 keep:=λi h h' st k=>st.at λo e=>k it (by simp) o e
 item:=by
  intro X hP hw hK hc i fo s σ H E I hf st hg;subst hP hw hK;obtain ⟨hi,hq⟩:=hg;obtain ⟨vs,ep,gm,da,ho⟩:=X3 I hq;have jw:=Qg da ho;subst jw;obtain ⟨f0,f1,f2,f3,f4,f5⟩:=hf it (by simp);obtain ⟨⟨k,v⟩,hx⟩:∃ p,kvs[i]?=some p:=⟨_,Ac hi⟩;obtain ⟨u,hu,ru⟩:=gm.at hx;have fw:vs.length=kvs.length:=gm.length.symm;rw [<- fw] at st;refine wpAny_pyNext_values_item st da hu λh' ft sb=>?_;have I1:Inv X fo σ H { s with heap:=h' }:=I.turned (t':=s.toks) (λb o hb e=>(sb.2 b hb).trans e) f0 f1 f3 f4 f5;rw [fw] at ft;obtain ⟨oi,e,c,dd⟩:=id ft;exact ⟨u,Y,Vz (s:={ s with heap:=h' }) e c dd (by decide) ⟨v,H,I1,ru,⟨Y,k,hx⟩,ft,λb hb=>(hf b hb).1⟩⟩
 done:=by
  intro X hP hw hK hc i fo s σ H E I hf st hg;subst hP hw hK;obtain ⟨hi,hq⟩:=hg;obtain ⟨vs,ep,gm,da,ho⟩:=X3 I hq;have jw:=Qg da ho;subst jw;obtain ⟨f0,f1,f2,f3,f4,f5⟩:=hf it (by simp);have fw:vs.length=kvs.length:=gm.length.symm;rw [<- fw] at st;exact wpAny_pyNext_values_end (I.ok.hd hc) st da (by rw [Ay]; lia) λh' eb=>⟨rfl,I.turned (t':=s.toks) (λb o hb e=>eb b o hb e) f0 f1 f3 f4 f5⟩
 self:=λ_ _ _ _ _ st h=>wpAny_pyIter_valiter st h
end
section
variable {X:Cx} {tg:Expr} {l:Expr} {tl:TE}
def Itk2 (d:Addr) (kvs:List (Key × V)) (o:Obj):It:=⟨λi H=>i < kvs.length/\H d=some (.frz o (.dK kvs)),λi H x H'=>H'=H/\∃ k v,kvs[i]?=some (k,v)/\x=kV k,λi H=>kvs.length<=i/\H d=some (.frz o (.dK kvs))⟩
def Itv2 (d:Addr) (kvs:List (Key × V)) (o:Obj):It:=⟨λi H=>i < kvs.length/\H d=some (.frz o (.dK kvs)),λi H x H'=>H'=H/\∃ k,kvs[i]?=some (k,x),λi H=>kvs.length<=i/\H d=some (.frz o (.dK kvs))⟩
def Zf0 (J:Addr->List (Key × V)->Obj->It) (tl:TE):TI:=λσ H R=>tl σ H λx H1=>∃ a kvs,x=.ref a/\((H1 a=some (.dK kvs)/\∀ o,R (J a kvs o) (upd H1 a (.frz o (.dK kvs))))\/∃ o,H1 a=some (.frz o (.dK kvs))/\R (J a kvs o) H1)
def Ka {R:Obj->Hp->Prop} (I:Inv X fo σ H s)
  (h:(H a=some (.dK kvs)/\∀ o,R o (upd H a (.frz o (.dK kvs))))\/∃ o,H a=some (.frz o (.dK kvs))/\R o H):∃ o H',H' a=some (.frz o (.dK kvs))/\Inv X fo σ H' s/\R o H':=by
 rcases h with ⟨e,r⟩ | ⟨o,e,r⟩
 ·obtain ⟨ob,ho⟩:=(I.hok a _ e).there
  exact ⟨ob,_,Zc,I.freeze e True.intro ho,r ob⟩
 ·exact ⟨o,H,e,I,r⟩
def Gx (hl:PE X l tl):PI X tg l (Zf0 Itk2 tl):=by
 intro fo s σ H R I h;refine thn (hl fo s σ H _ I h) λv s1 gc=>?_;obtain ⟨x,H1,I1,r1,q1⟩:=gc;obtain ⟨a,kvs,e,q⟩:=q1;subst e;cases r1;obtain ⟨o,H2,e2,I2,q2⟩:=Ka (R:=λo H=>R (Itk2 a kvs o) H) I1 q;obtain ⟨vs,ep,gm,da,ho⟩:=X3 I2 e2;have jw:=Qg da ho;subst jw;obtain ⟨_,_,jc,_⟩:=I2.hok a _ e2;refine wpAny_pyIter_dict jc da ?_;have fw:vs.length=kvs.length:=gm.length.symm;rw [fw];refine ⟨s1.heap.objs.size,[s1.heap.objs.size],_,_,H2,Y,I2.kept (t':=s1.toks) λb o e=>Ak _ e,Zgl a _ kvs o,⟨_,Ap _ Y,Y,Y⟩,λb hb=>?_,q2⟩;have e:b=s1.heap.objs.size:=by simpa using hb
 subst e;exact I2.fpOk (An _) (I2.hok.fresh (An _))
structure M0 (X:Cx) (o:Expr) (m:Str) (gk gh:Pos):Prop where
 base:attributeBase o m X.env (eval o X.env)=eval o X.env
 few:((backTo gh (starEach [] X.env)).all (λx=>!x.1) && (backToKw gh (keywordEach [] X.env)).all (λx=>x.1.isSome)
  && decide (([]:List Expr).length + ([]:List Keyword).length + (if ([]:List Keyword).isEmpty then 0 else 1) < 30))=true
 line:(gk.endLine == gh.line)=true
def Zlt {gk gh:Pos} (hl:PE X l tl) (m:M0 X l "values" gk gh):PI X tg (.Call (.Attribute l "values" gk) [] [] gh) (Zf0 Itv2 tl):=by
 intro fo s σ H R I h;refine wpAny_Call_method m.base m.few m.line PySem.F.plainAttrs_dict PySem.F.slot_dict_values PySem.F.type_dict_values (thn (hl fo s σ H _ I h) λv s1 gc=>?_);obtain ⟨x,H1,I1,r1,q1⟩:=gc;obtain ⟨a,kvs,e,q⟩:=q1;subst e;cases r1;obtain ⟨o,H2,e2,I2,q2⟩:=Ka (R:=λo H=>R (Itv2 a kvs o) H) I1 q;obtain ⟨vs,ep,gm,da,ho⟩:=X3 I2 e2;have jw:=Qg da ho;subst jw;obtain ⟨_,_,jc,_⟩:=I2.hok a _ e2;have isd:IsD H2 a:=.inl ⟨kvs,.inr ⟨o,e2⟩⟩;obtain ⟨t1,t2,_⟩:=K8 I2 isd;refine ⟨t1,t2,?_⟩;refine Calls.callWith_builtin Y (PyProof.Rows.evalArgs_empty ?_);refine call_meetsIn PySem.F.slot_dict_values da.dictOf.typeIs PySem.F.entry_dict_values (PySem.F.args_dict_values_1 _) (meets_dict_values (Z4 X.prog X.w) a jc) ⟨⟨vs,da.dictOf⟩,?_⟩;have I3:Inv X fo σ H2 { s1 with heap:=s1.heap.push { cls:=.type "dict_values",data:=.fields #[.ref a] } }:=I2.kept (t':=s1.toks) λb o e=>Ak _ e;refine wpAny_pyIter_values ⟨_,Ap _ Y,Y,Y⟩ (da.push _) ?_;have fw:vs.length=kvs.length:=gm.length.symm;rw [fw];refine ⟨(s1.heap.push { cls:=.type "dict_values",data:=.fields #[.ref a] }).objs.size,[(s1.heap.push { cls:=.type "dict_values",data:=.fields #[.ref a] }).objs.size],_,_,H2,rfl,I3.kept (t':=s1.toks) λb o e=>Ak _ e,Zgj a _ kvs o,⟨_,Ap _ rfl,rfl,rfl⟩,λb hb=>?_,q2⟩;have e:b=(s1.heap.push { cls:=.type "dict_values",data:=.fields #[.ref a] }).objs.size:=by simpa using hb
 subst e;exact I3.fpOk (An _) (I3.hok.fresh (An _))
end
section
def Ite (K:W.Frag) (a:Addr):It :=
 ⟨λi H=>∃ xs x,SqL K H a xs/\xs[i]?=some x,λi H x H'=>∃ q y,H q=none/\x=.ref q/\(∀ xs,SqL K H a xs->xs[i]?=some y)/\H'=upd H q (.tup [.int i,y]),λi H=>∃ xs,SqL K H a xs/\xs.length<=i⟩
def Zgm {P:Program} {w:World} {K:W.Frag} {je:List Expr} {x1:Nat} {pos:Pos} (a e it:Addr) (g9:e≠it):Turn P w K (.Tuple je x1 pos) (Ite K a) [e,it] e (λi h=>(∃ old,IsEnum h e it i old)/\h.IsListIter it a i) where
 mem:=by simp
 obj:=λi h st b hb=>by
  obtain ⟨⟨old,h1⟩,o,h2,c,d⟩:=st
  rcases Ar hb with z | z
  ·subst z
   exact ⟨_,h1,λv z=>by
    have z':Data.fields _=Data.cell v:=z
    cases z'⟩
  ·have z:b=it:=by simpa using z
   subst z;exact ⟨o,h2,λv z=>by rw [d] at z; cases z⟩
 keep:=λi h h' st k=>⟨let ⟨old,h1⟩:=st.1; ⟨old,k e (by simp) _ h1⟩,st.2.at λo q=>k it (by simp) o q⟩
 item:=by
  intro X hP hw hK hc i fo s σ H E I hf st hg;subst hP hw hK;obtain ⟨xs,x,hq,hx⟩:=hg;obtain ⟨its,rv,p,hz⟩:=I.list hq;obtain ⟨u,hu,ru⟩:=rv.get hx;obtain ⟨f0,f1,f2,f3,f4,f5⟩:=hf e (by simp);obtain ⟨g0,g1,g2,g3,g4,g5⟩:=hf it (by simp);obtain ⟨⟨old,he⟩,ul⟩:=st;refine wpAny_pyNext_enum_item he ul p.isList (x:=u) (by simpa using hu) g9 λh' mf hit' ht' hsz' kk=>?_;have eo:=Ao he;have io:it < s.heap.objs.size:=let ⟨o,q,_⟩:=ul; Ao q
  refine ⟨.ref s.heap.objs.size,Y,wpAny_letOwnedTupleGo_enum mf λmw he'' sb=>?_⟩;have gu:∀ b o,b≠e->b≠it->s.heap.get? b=some o->mw.get? b=some o:=λb o h1 h2 q=>(sb.2 b h1).trans (kk b o h1 h2 q);have m6:mw.get? s.heap.objs.size=some { cls:=.type "tuple",data:=.seq #[.int i s.toks,u] }:=(sb.2 _ (Nat.ne_of_gt eo)).trans ht';have hn:H s.heap.objs.size=none:=I.hok.fresh (An _)
  have I2:Inv X fo σ (upd H s.heap.objs.size (.tup [.int i,x])) { s with heap:=mw,toks:=s.toks + 1 }:=by
   refine I.step (g':=s.gens) (d':=s.drawn) (ch:=[e,it]) (λb hb=>?_) (λb o _ _ hc q _=>gu b o (λz=>hc (by simp [z])) (λz=>hc (by simp [z])) q) (λb o _ _ hc q _=>⟨o.slots,gu b o (λz=>hc (by simp [z])) (λz=>hc (by simp [z])) q⟩) (λb o _ q n=>by rw [Ze (As (Ao q))]; exact n)
    (λb o hc q=>⟨o,gu b o (λz=>hc (by simp [z])) (λz=>hc (by simp [z])) q⟩) (λb ys q=>by rw [Ze (Zl q hn)]; exact q) (λb o ys q=>by rw [Ze (Zl q hn)]; exact q) (λb ps q=>⟨#[],by rw [Ze (Zl q hn),q]; simp⟩) (λm hm=>?_) (λb v q=>?_) I.bare
   ·rcases Ar hb with z | z
    ·subst z; exact ⟨f3,f1,f4,f5⟩
    ·have z:b=it:=by simpa using z
     subst z; exact ⟨g3,g1,g4,g5⟩
   ·obtain ⟨o,es,ep,ho,r⟩:=hm
    exact ⟨o,es,ep,gu _ o (Ne.symm f1) (Ne.symm g1) ho,r⟩
   ·by_cases hb:b=s.heap.objs.size
    ·subst hb
     rw [Zc] at q;cases q;exact ⟨by show 2<=sizeLine; decide,[.int i s.toks,u],.cons ⟨_,rfl⟩ (.cons ru .nil),⟨_,m6,rfl,_,rfl⟩⟩
    ·rw [Ze hb] at q
     refine (I.hok b v q).stay (λc w' hc z=>gu c w' ?_ ?_ z) (λd z=>by rw [Ze (Zl z hn)]; exact z) λd ys z=>by rw [Ze (Zl z hn)]; exact z
     ·rintro rfl
      rcases hc with z | z
      ·rw [z,q] at f0; cases f0
      ·rw [f0] at z; cases z
     ·rintro rfl
      rcases hc with z | z
      ·rw [z,q] at g0; cases g0
      ·rw [g0] at z; cases z
  refine ⟨.ref s.heap.objs.size,_,I2,Y,⟨_,x,hn,Y,λys hy=>by rw [I.list_inj hy hq]; exact hx,Y⟩,⟨⟨u,he''⟩,hit'.at λo q=>(sb.2 it (Ne.symm g9)).trans q⟩,λb hb=>?_⟩
  rcases Ar hb with z | z
  ·subst z; rw [Ze (As eo)]; exact f0
  ·have z:b=it:=by simpa using z
   subst z; rw [Ze (As io)]; exact g0
 done:=by
  intro X hP hw hK hc i fo s σ H E I hf st hg;subst hP hw hK;obtain ⟨xs,hq,hx⟩:=hg;obtain ⟨its,rv,p,hz⟩:=I.list hq;obtain ⟨g0,g1,g2,g3,g4,g5⟩:=hf it (by simp);obtain ⟨⟨old,he⟩,ul⟩:=st;have hl:=rv.length;exact wpAny_pyNext_enum_end (I.ok.hd hc) he ul p.isList (by simp; lia) λh' eb=>⟨rfl,I.turned (t':=s.toks) (λb o hb e=>eb b o hb e) g0 g1 g3 g4 g5⟩
 self:=λ_ _ _ _ _ st h=>by
  obtain ⟨⟨old,he⟩,_⟩:=st;exact wpAny_pyIter_enum he h
variable {X:Cx}
def Zo5 (K:W.Frag) (ta:TA):TI:=λσ H R=>ta σ H λvs H1=>∃ a,vs=[.ref a]/\(∃ xs,SqL K H1 a xs)/\R (Ite K a) H1
def Zlv {je:List Expr} {x1:Nat} {ji p pos:Pos} {l:Expr} {ta:TA} (hg:Gl X "enumerate") (hm:X.mg "enumerate"=none) (ha:PA X [l] ta) (hs:starEach [l] X.env=[(false,eval l X.env)]:=by rfl):PI X (.Tuple je x1 ji) (.Call (.Name "enumerate" p) [l] [] pos) (Zo5 X.K ta):=by
 intro fo s σ H R I h;refine Call_ (Xb I hg hm boot_enumerate (PyProof.Rows.callWith_type1 (thn (ha pos fo s σ H _ I h) λus s1 zz36=>?_) hs Y));obtain ⟨vs,H1,I1,r1,q1⟩:=zz36;obtain ⟨a,e,⟨xs,hq⟩,q⟩:=q1;subst e;obtain ⟨u,rfl,ru⟩:=Xr r1;cases ru;obtain ⟨its,rv,pl,hz⟩:=I1.list hq;refine call_enumerate_list pl.isList λh' he ul hsz hk=>wpAny_pyIter_enum he ?_;have I2:Inv X fo σ H1 { s1 with heap:=h' }:=I1.kept (t':=s1.toks) hk;refine ⟨s1.heap.objs.size + 1,[s1.heap.objs.size + 1,s1.heap.objs.size],_,_,H1,Y,I2,Zgm a _ _ (succ_ne_self _),⟨⟨.none,he⟩,ul⟩,λb hb=>?_,q⟩
 rcases Ar hb with z | z
 ·subst z; exact I1.fpOk (le_succ _) (I1.hok.fresh (le_succ _))
 ·have z:b=s1.heap.objs.size:=by simpa using z
  subst z; exact I1.fpOk (An _) (I1.hok.fresh (An _))
def Zj7 {K:W.Frag} {a:Addr} {xs:List V} {g:TG} {tb:TS} {D:Ends} {σ:St} {H:Hp} (Pv:Nat->St->Hp->Prop) (h0:Pv 0 σ H) (hl:∀ i σ H,i<=xs.length->Pv i σ H->SqL K H a xs)
  (hs:∀ i x σ H q,xs[i]?=some x->H q=none->Pv i σ H->g (.ref q) σ (upd H q (.tup [.int i,x])) λσ2 H2=>tb { D with nx:=Pv (i + 1),ct:=Pv (i + 1),bk:=D.nx } σ2 H2) (hd:∀ σ H,Pv xs.length σ H->D.nx σ H) :
  ∃ W:Nat->Nat->St->Hp->Prop,(∃ m,W 0 m σ H)/\∀ i m σ H,W i m σ H ->
   ((Ite K a).stop i H/\D.nx σ H)\/((Ite K a).go i H/\∃ N:St->Hp->Prop,(∀ σ' H',N σ' H'->∃ m',m' < m/\W (i + 1) m' σ' H')/\∀ x H',(Ite K a).yld i H x H'->g x σ H' λσ2 H2=>tb { D with nx:=N,ct:=N,bk:=D.nx } σ2 H2):=by
 refine ⟨λi m σ H=>m=xs.length - i/\i<=xs.length/\Pv i σ H,⟨xs.length,by simp,Az _,h0⟩,?_⟩;rintro i m σ H ⟨rfl,hi,p⟩;have q:=hl i σ H hi p;by_cases gj:i < xs.length
 ·refine .inr ⟨⟨xs,xs[i],q,by simp [gj]⟩,Pv (i + 1),λσ' H' p'=>⟨xs.length - (i + 1),by lia,Y,gj,p'⟩,λx H' y=>?_⟩
  obtain ⟨c,z,hn,e1,e2,e3⟩:=y;subst e1 e3;exact hs i z σ H c (e2 xs q) hn p
 ·have e:i=xs.length:=by lia
  subst e;exact .inl ⟨⟨xs,q,An _⟩,hd σ H p⟩
def Zj6 {kvs:List (Key × V)} {g:TG} {tb:TS} {D:Ends} (Pv:Nat->St->Hp->Prop) (h0:Pv 0 σ H) (hl:∀ i σ H,i<=kvs.length->Pv i σ H->H d=some (.frz o (.dK kvs)))
  (hs:∀ i k x σ H,kvs[i]?=some (k,x)->Pv i σ H->g x σ H λσ2 H2=>tb { D with nx:=Pv (i + 1),ct:=Pv (i + 1),bk:=D.nx } σ2 H2) (hd:∀ σ H,Pv kvs.length σ H->D.nx σ H) :
  ∃ W:Nat->Nat->St->Hp->Prop,(∃ m,W 0 m σ H)/\∀ i m σ H,W i m σ H ->
   ((Itv2 d kvs o).stop i H/\D.nx σ H)\/((Itv2 d kvs o).go i H/\∃ N:St->Hp->Prop,(∀ σ' H',N σ' H'->∃ m',m' < m/\W (i + 1) m' σ' H')/\∀ x H',(Itv2 d kvs o).yld i H x H'->g x σ H' λσ2 H2=>tb { D with nx:=N,ct:=N,bk:=D.nx } σ2 H2):=by
 refine ⟨λi m σ H=>m=kvs.length - i/\i<=kvs.length/\Pv i σ H,⟨kvs.length,by simp,Az _,h0⟩,?_⟩;rintro i m σ H ⟨rfl,hi,p⟩;have q:=hl i σ H hi p;by_cases gj:i < kvs.length
 ·refine .inr ⟨⟨gj,q⟩,Pv (i + 1),λσ' H' p'=>⟨kvs.length - (i + 1),by lia,Y,gj,p'⟩,λx H' y=>?_⟩
  obtain ⟨e,k,y⟩:=y;subst e;exact hs i k x σ _ y p
 ·have e:i=kvs.length:=by lia
  subst e;exact .inl ⟨⟨An _,q⟩,hd σ H p⟩
def Zci {kvs:List (Key × V)} {g:TG} {tb:TS} {D:Ends} (Pv:Nat->St->Hp->Prop) (h0:Pv 0 σ H) (hl:∀ i σ H,i<=kvs.length->Pv i σ H->H d=some (.frz o (.dK kvs)))
  (hs:∀ i k x σ H,kvs[i]?=some (k,x)->Pv i σ H->g (kV k) σ H λσ2 H2=>tb { D with nx:=Pv (i + 1),ct:=Pv (i + 1),bk:=D.nx } σ2 H2) (hd:∀ σ H,Pv kvs.length σ H->D.nx σ H) :
  ∃ W:Nat->Nat->St->Hp->Prop,(∃ m,W 0 m σ H)/\∀ i m σ H,W i m σ H ->
   ((Itk2 d kvs o).stop i H/\D.nx σ H)\/((Itk2 d kvs o).go i H/\∃ N:St->Hp->Prop,(∀ σ' H',N σ' H'->∃ m',m' < m/\W (i + 1) m' σ' H')/\∀ x H',(Itk2 d kvs o).yld i H x H'->g x σ H' λσ2 H2=>tb { D with nx:=N,ct:=N,bk:=D.nx } σ2 H2):=by
 refine ⟨λi m σ H=>m=kvs.length - i/\i<=kvs.length/\Pv i σ H,⟨kvs.length,by simp,Az _,h0⟩,?_⟩;rintro i m σ H ⟨rfl,hi,p⟩;have q:=hl i σ H hi p;by_cases gj:i < kvs.length
 ·refine .inr ⟨⟨gj,q⟩,Pv (i + 1),λσ' H' p'=>⟨kvs.length - (i + 1),by lia,Y,gj,p'⟩,λx H' y=>?_⟩
  obtain ⟨e,k,v,y,ex⟩:=y;subst e ex;exact hs i k v σ _ y p
 ·have e:i=kvs.length:=by lia
  subst e;exact .inl ⟨⟨An _,q⟩,hd σ H p⟩
def Zk4 (ta:TA):TE:=λσ H Q=>ta σ H λvs H1=>∃ n:Nat,vs=[.int n]/\n<=1000/\∀ p,H1 p=none->Q (.ref p) (upd H1 p (.lst ((List.range n).map λ(i:Nat)=>V.int i)))
def Us {p1 p2:Pos} (sk:Gl X "list") (hml:X.mg "list"=none) (hg:Gl X "range") (hm:X.mg "range"=none) (hc:X.calm=true) (ha:PA X [a] ta) (hs:starEach [a] X.env=[(false,eval a X.env)]:=by rfl)
  (ju:starEach [.Call (.Name "range" p2) [a] [] jz] X.env=[(false,eval (.Call (.Name "range" p2) [a] [] jz) X.env)]:=by rfl):PE X (.Call (.Name "list" p1) [.Call (.Name "range" p2) [a] [] jz] [] pos) (Zk4 ta):=by
 intro fo s σ H Q I h;refine Call_ (Xb I sk hml PySem.Pv.boot_list (PyProof.Rows.callWith_type1 ?_ ju Y));rw [ju];refine Calls.spliced_cons ?_;refine Call_ (Xb I hg hm boot_range (PyProof.Rows.callWith_type1 (thn (ha jz fo s σ H _ I h) λus s1 zz37=>?_) hs Y));obtain ⟨vs,H1,I1,r1,q1⟩:=zz37;obtain ⟨n,e,hn,q⟩:=q1;subst e;obtain ⟨u,rfl,ru⟩:=Xr r1;obtain ⟨t,rfl⟩:=ru;refine call_range_1 (Calls.spliced_nil ?_);have hr:Builtin.Range.rangeSize 0 (n:Int) 1=n:=by rw [rangeSize_one]; split <;> lia
 refine call_list_range (I.ok.hd hc) (IsRange.new ..) (small_one (by lia) (by lia) (by lia) (by lia)) hr (by lia) λh' tk gf c' hk hS nh=>?_;have qq:∀ b o,s1.heap.get? b=some o->h'.get? b=some o:=λb o e=>hk b o (Ak _ e)
 have hv:Vals ((List.range n).map λ(i:Nat)=>V.int i) gf.toList:=by
  have gen:∀ (l:List Value) (k:Nat),(∀ (j:Nat) (v:Value),l[j]?=some v->∃ t,v=.int ((k + j:Nat):Int) t)->Vals ((List.range' k l.length).map λ(i:Nat)=>V.int i) l:=by
   intro l
   induction l with
   | nil=>intro k _; exact .nil
   | cons v r ih =>
    intro k h;obtain ⟨t,e⟩:=h 0 v rfl;rw [length_cons,range'_succ,map_cons];refine .cons ⟨t,by rw [e]; rfl⟩ (ih (k + 1) λj w hw=>?_);obtain ⟨t',e'⟩:=h (j + 1) w (by simpa using hw);exact ⟨t',by rw [e']; congr 1; lia⟩
  have hl:gf.toList.length=n:=by rw [Array.length_toList]; exact nh.1
  have:=gen gf.toList 0 λj v hj=>by
   obtain ⟨t,e⟩:=nh.2 j v (by rw [<- Array.getElem?_toList]; exact hj);exact ⟨t,by rw [e]; congr 1; lia⟩
  rw [hl,<- range_eq_range'] at this;exact this
 have l7:s1.heap.objs.size<=(s1.heap.push { cls:=.type "range",data:=.fields #[.int 0 s1.toks,.int (n:Int) t,.int 1 (s1.toks + 1)] }).objs.size:=by rw [Heap.size_push]; exact le_succ _
 refine ⟨.ref _,upd H1 _ (.lst ((List.range n).map λ(i:Nat)=>V.int i)),I1.laid qq (Nat.le_of_lt (by first | exact Nat.lt_of_le_of_lt l7 (Ao hS) | (rw [Heap.size_push]; exact lt_succ_self _))) ⟨?_,gf.toList,c',hv,?_⟩,Y,q _ (I1.hok.fresh ?_)⟩
 ·rw [Ab,length_range,sizeLine_eq]; lia
 ·simpa using hS
 ·rw [Heap.size_push]; exact le_succ _
end
abbrev TJ:=Str->TE
section
variable {X:Cx}
def W0 (K:W.Frag) (h:X.K=K:=by rfl):IxR X (rIxL K):=h ▸ Zr
def Zaj (K:W.Frag) (h:X.K=K:=by rfl):Yv X (.type "list") (λxs H Q=>∃ p ys,xs=[.ref p]/\(SqL K H p ys\/SqT K H p ys)/\∀ l,H l=none->Q (.ref l) (upd H l (.lst ys))):=h ▸ Yi
def G8 (K:W.Frag) (h:X.K=K:=by rfl):Yv X (.type "tuple") (λxs H Q=>∃ p ys,xs=[.ref p]/\((SqL K H p ys/\∀ l,H l=none->Q (.ref l) (upd H l (.tup ys)))\/(SqT K H p ys/\Q (.ref p) H))):=h ▸ Zah
variable {tg l e:Expr} {tl ta:TE} {f:Str} {pos:Pos}
def Zd5 (K:W.Frag) (hl:PE X l tl) (h:X.K=K:=by rfl):PI X tg l (iTup K tl):=h ▸ Znm hl
end
section
def Itm2 (d:Addr) (kvs:List (Key × V)) (o:Obj):It :=
 ⟨λi H=>i < kvs.length/\H d=some (.frz o (.dK kvs)),λi H x H'=>∃ q k v,H q=none/\x=.ref q/\kvs[i]?=some (k,v)/\H'=upd H q (.tup [kV k,v]),λi H=>kvs.length<=i/\H d=some (.frz o (.dK kvs))⟩
def Ze1 {P:Program} {w:World} {K:W.Frag} {je:List Expr} {x1:Nat} {pos:Pos} (d it:Addr) (kvs:List (Key × V)) (o:Obj) :
  Turn P w K (.Tuple je x1 pos) (Itm2 d kvs o) [it] it (λi h=>∃ a b,IsItemIter h it d i kvs.length (epOf o) a b) where
 mem:=by simp
 obj:=λi h st b hb=>by
  have e:b=it:=by simpa using hb
  subst e;obtain ⟨a,c,z⟩:=st;exact ⟨_,z,λv y=>by
   have y':Data.fields _=Data.cell v:=y
   cases y'⟩
 keep:=λi h h' st k=>by
  obtain ⟨a,c,z⟩:=st;exact ⟨a,c,k it (by simp) _ z⟩
 item:=by
  intro X hP hw hK hc i fo s σ H E I hf st hg;subst hP hw hK;obtain ⟨hi,hq⟩:=hg;obtain ⟨vs,ep,gm,da,ho⟩:=X3 I hq;have jw:=Qg da ho;subst jw;obtain ⟨f0,f1,f2,f3,f4,f5⟩:=hf it (by simp);obtain ⟨⟨k,v⟩,hx⟩:∃ p,kvs[i]?=some p:=⟨_,Ac hi⟩;obtain ⟨u,hu,ru⟩:=gm.at hx;have fw:vs.length=kvs.length:=gm.length.symm;obtain ⟨a0,b0,st⟩:=st;rw [<- fw] at st;have xn:=Ao st;refine wpAny_pyNext_items_item st da hu λkey h' hk ft ht hsz kk=>?_;rw [fw] at ft;refine ⟨.ref s.heap.objs.size,Y,wpAny_letOwnedTupleGo_items ft λmw st'' sb=>?_⟩;have gu:∀ b z,b≠it->s.heap.get? b=some z->mw.get? b=some z:=λb z hb e=>(sb.2 b hb).trans (kk b z hb e);have m6:mw.get? s.heap.objs.size=some { cls:=.type "tuple",data:=.seq #[key,u] }:=(sb.2 _ (Nat.ne_of_gt xn)).trans ht;have hn:H s.heap.objs.size=none:=I.hok.fresh (An _)
  have I2:Inv X fo σ (upd H s.heap.objs.size (.tup [kV k,v])) { s with heap:=mw }:=by
   refine I.step (g':=s.gens) (d':=s.drawn) (ch:=[it]) (λb hb=>?_) (λb o _ _ hc q _=>gu b o (λz=>hc (by simp [z])) q) (λb o _ _ hc q _=>⟨o.slots,gu b o (λz=>hc (by simp [z])) q⟩) (λb o _ q n=>by rw [Ze (As (Ao q))]; exact n)
    (λb o hc q=>⟨o,gu b o (λz=>hc (by simp [z])) q⟩) (λb ys q=>by rw [Ze (Zl q hn)]; exact q) (λb o ys q=>by rw [Ze (Zl q hn)]; exact q) (λb ps q=>⟨#[],by rw [Ze (Zl q hn),q]; simp⟩) (λm hm=>?_) (λb v' q=>?_) I.bare
   ·have z:b=it:=by simpa using hb
    subst z; exact ⟨f3,f1,f4,f5⟩
   ·obtain ⟨o,es,ep,ho,r⟩:=hm
    exact ⟨o,es,ep,gu _ o (Ne.symm f1) ho,r⟩
   ·by_cases hb:b=s.heap.objs.size
    ·subst hb
     rw [Zc] at q;cases q;exact ⟨by show 2<=sizeLine; decide,[key,u],.cons (Zku hk) (.cons ru .nil),⟨_,m6,rfl,_,rfl⟩⟩
    ·rw [Ze hb] at q
     refine (I.hok b v' q).stay (λc w' hc z=>gu c w' ?_ z) (λd z=>by rw [Ze (Zl z hn)]; exact z) λd ys z=>by rw [Ze (Zl z hn)]; exact z
     rintro rfl
     rcases hc with z | z
     ·rw [z,q] at f0; cases f0
     ·rw [f0] at z; cases z
  refine ⟨.ref s.heap.objs.size,_,I2,Y,⟨_,k,v,hn,Y,hx,Y⟩,⟨_,_,st''⟩,λb hb=>?_⟩;have z:b=it:=by simpa using hb
  subst z; rw [Ze (As xn)]; exact f0
 done:=by
  intro X hP hw hK hc i fo s σ H E I hf st hg;subst hP hw hK;obtain ⟨hi,hq⟩:=hg;obtain ⟨vs,ep,gm,da,ho⟩:=X3 I hq;have jw:=Qg da ho;subst jw;obtain ⟨f0,f1,f2,f3,f4,f5⟩:=hf it (by simp);have fw:vs.length=kvs.length:=gm.length.symm;obtain ⟨a0,b0,st⟩:=st;rw [<- fw] at st;exact wpAny_pyNext_items_end (I.ok.hd hc) st da (by rw [Ay]; lia) λh' eb=>⟨rfl,I.turned (t':=s.toks) (λb o hb e=>eb b o hb e) f0 f1 f3 f4 f5⟩
 self:=λ_ _ _ _ _ st h=>by
  obtain ⟨a,b,st⟩:=st;exact PySem.W.kcp_self st h
variable {X:Cx} {l:Expr} {tl:TE}
def Zjd {je:List Expr} {x1:Nat} {ji gk gh:Pos} (hl:PE X l tl) (m:M0 X l "items" gk gh):PI X (.Tuple je x1 ji) (.Call (.Attribute l "items" gk) [] [] gh) (Zf0 Itm2 tl):=by
 intro fo s σ H R I h;refine wpAny_Call_method m.base m.few m.line PySem.F.plainAttrs_dict PySem.F.slot_dict_items PySem.F.type_dict_items (thn (hl fo s σ H _ I h) λv s1 gc=>?_);obtain ⟨x,H1,I1,r1,q1⟩:=gc;obtain ⟨a,kvs,e,q⟩:=q1;subst e;cases r1;obtain ⟨o,H2,e2,I2,q2⟩:=Ka (R:=λo H=>R (Itm2 a kvs o) H) I1 q;obtain ⟨vs,ep,gm,da,ho⟩:=X3 I2 e2;have jw:=Qg da ho;subst jw;obtain ⟨_,_,jc,_⟩:=I2.hok a _ e2;have isd:IsD H2 a:=.inl ⟨kvs,.inr ⟨o,e2⟩⟩;obtain ⟨t1,t2,_⟩:=K8 I2 isd;refine ⟨t1,t2,?_⟩;refine Calls.callWith_builtin Y (PyProof.Rows.evalArgs_empty ?_);refine call_meetsIn PySem.F.slot_dict_items da.dictOf.typeIs PySem.F.entry_dict_items (PySem.F.args_dict_items_1 _) (meets_dict_items (Z4 X.prog X.w) a jc) ⟨⟨vs,da.dictOf⟩,?_⟩;have I3:Inv X fo σ H2 { s1 with heap:=s1.heap.push { cls:=.type "dict_items",data:=.fields #[.ref a] } }:=I2.kept (t':=s1.toks) λb o e=>Ak _ e;refine wpAny_pyIter_items ⟨_,Ap _ Y,Y,Y⟩ (da.push _) ?_;have fw:vs.length=kvs.length:=gm.length.symm;rw [fw];refine ⟨(s1.heap.push { cls:=.type "dict_items",data:=.fields #[.ref a] }).objs.size,[(s1.heap.push { cls:=.type "dict_items",data:=.fields #[.ref a] }).objs.size],_,_,H2,rfl,I3.kept (t':=s1.toks) λb o e=>Ak _ e,Ze1 a _ kvs o,⟨_,_,Ap _ rfl⟩,λb hb=>?_,q2⟩;have e:b=(s1.heap.push { cls:=.type "dict_items",data:=.fields #[.ref a] }).objs.size:=by simpa using hb
 subst e;exact I3.fpOk (An _) (I3.hok.fresh (An _))
def Zh5 {kvs:List (Key × V)} {g:TG} {tb:TS} {D:Ends} (Pv:Nat->St->Hp->Prop) (h0:Pv 0 σ H) (hl:∀ i σ H,i<=kvs.length->Pv i σ H->H d=some (.frz o (.dK kvs)))
  (hs:∀ i k x σ H q,kvs[i]?=some (k,x)->H q=none->Pv i σ H->g (.ref q) σ (upd H q (.tup [kV k,x])) λσ2 H2=>tb { D with nx:=Pv (i + 1),ct:=Pv (i + 1),bk:=D.nx } σ2 H2) (hd:∀ σ H,Pv kvs.length σ H->D.nx σ H) :
  ∃ W:Nat->Nat->St->Hp->Prop,(∃ m,W 0 m σ H)/\∀ i m σ H,W i m σ H ->
   ((Itm2 d kvs o).stop i H/\D.nx σ H)\/((Itm2 d kvs o).go i H/\∃ N:St->Hp->Prop,(∀ σ' H',N σ' H'->∃ m',m' < m/\W (i + 1) m' σ' H')/\∀ x H',(Itm2 d kvs o).yld i H x H'->g x σ H' λσ2 H2=>tb { D with nx:=N,ct:=N,bk:=D.nx } σ2 H2):=by
 refine ⟨λi m σ H=>m=kvs.length - i/\i<=kvs.length/\Pv i σ H,⟨kvs.length,by simp,Az _,h0⟩,?_⟩;rintro i m σ H ⟨rfl,hi,p⟩;have q:=hl i σ H hi p;by_cases gj:i < kvs.length
 ·refine .inr ⟨⟨gj,q⟩,Pv (i + 1),λσ' H' p'=>⟨kvs.length - (i + 1),by lia,Y,gj,p'⟩,λx H' y=>?_⟩
  obtain ⟨c,k,v,hn,e1,y,e2⟩:=y;subst e1 e2;exact hs i k v σ H c y hn p
 ·have e:i=kvs.length:=by lia
  subst e;exact .inl ⟨⟨An _,q⟩,hd σ H p⟩
end
section
def Itr3 (lo st:Int) (n:Nat):It:=⟨λi _=>i < n,λi H x H'=>H'=H/\x=.int (lo + i * st),λi _=>n<=i⟩
def Zcx {P:Program} {w:World} {K:W.Frag} {tg:Expr} (it:Addr) (lo st:Int) (n:Nat):Turn P w K tg (Itr3 lo st n) [it] it (λi h=>IsRangeIter h it (lo + (i:Nat) * st) ((n:Int) - (i:Nat)) st) where
 mem:=by simp
 obj:=λi h st b hb=>by
  have e:b=it:=by simpa using hb
  subst e;exact ⟨_,st,λv z=>by
   have z':Data.fields _=Data.cell v:=z
   cases z'⟩
 keep:=λi h h' st k=>k it (by simp) _ st
 item:=by
  intro X hP hw hK hc i fo s σ H E I hf ft hg;subst hP hw hK;obtain ⟨f0,f1,f2,f3,f4,f5⟩:=hf it (by simp);have W:=Walks.range (prog:=X.prog) (w:=X.w) (I.ok.hd hc) it lo st n;refine W.item i s _ _ hg ft λv h' tk hv fy kk=>?_;obtain ⟨t,rfl⟩:=hv;have I1:Inv X fo σ H { s with heap:=h',toks:=tk }:=I.turned (λb o hb e=>kk b o (by simpa using hb) e) f0 f1 f3 f4 f5;exact ⟨_,Y,Vz (s:={ s with heap:=h',toks:=tk }) (n:="range_iterator") fy rfl rfl (by decide) ⟨.int (lo + i * st),H,I1,⟨t,rfl⟩,⟨rfl,rfl⟩,fy,λb hb=>(hf b hb).1⟩⟩
 done:=by
  intro X hP hw hK hc i fo s σ H E I hf ft hg;subst hP hw hK;obtain ⟨f0,f1,f2,f3,f4,f5⟩:=hf it (by simp);exact wpAny_pyNext_range_end (I.ok.hd hc) ft (by have:n<=i:=hg; lia) λh' eb=>⟨rfl,I.turned (t':=s.toks) (λb o hb e=>eb b o hb e) f0 f1 f3 f4 f5⟩
 self:=λ_ _ _ _ _ st h=>wpAny_pyIter_rangeiter st h
end
section
variable {X:Cx}
def rNeL (K:W.Frag):R2:=λx y H Q=>∃ a b ns ms,x=.ref a/\y=.ref b/\SqL K H a (List.map V.int ns)/\SqL K H b (List.map V.int ms)/\Q (.bl (!decide (ns=ms))) H
def Zhh (hu:X.A.units + 64 < cLine):OpR X (compareOp .NotEq) (rNeL X.K):=by
 intro fo s σ H x y v u Q I rx ry h;obtain ⟨a,b,ns,ms,rfl,rfl,ha,hb,q⟩:=h;cases rx;cases ry;obtain ⟨ia,ra,pa,_⟩:=I.list ha;obtain ⟨ib,rb,pb,_⟩:=I.list hb;exact PySem.W.ne_intsK pa.isList (Qf ra) pb.isList (Qf rb) hu ⟨.bl _,H,I,Y,q⟩
def Zik (bs:List Bool):((List.range bs.length).all λi=>bs.getD i true)=bs.all id:=by
 rw [Bool.eq_iff_iff,all_eq_true,all_eq_true];constructor
 ·intro h b hb
  obtain ⟨i,hi,rfl⟩:=mem_iff_getElem.mp hb;have:=h i (mem_range.mpr hi);rw [Ad,Ac hi] at this;exact this
 ·intro h i hi
  have hi:=mem_range.mp hi;rw [Ad,Ac hi];exact h _ (getElem_mem hi)
def Zcu (hc:X.calm=true):Yv X (.builtin "all") (λxs H Q=>∃ p bs,xs=[.ref p]/\SqL X.K H p (List.map V.bl bs)/\Q (.bl (bs.all id)) H):=by
 intro fo s σ H xs us Q I r h;obtain ⟨p,bs,rfl,hq,q⟩:=h;obtain ⟨u,rfl,ru⟩:=Xr r;cases ru;obtain ⟨its,rv,pl,hz⟩:=I.list hq;have ne:p≠s.heap.objs.size:=by obtain ⟨o,ho,_⟩:=pl.isList; exact As (Ao ho)
 refine call_all_walk (wpAny_pyIter_list pl.isList ⟨s.heap.objs.size,_,_,_,_,_,λi=>bs.getD i true,Y,Walks.list (A:=X.A.in1) (show X.A.in1.handled=none from I.ok.hd hc) s.heap.objs.size p ne its.toArray,⟨⟨_,Ap _ Y,Y,Y⟩,pl.isList.push _⟩,?_,?_⟩)
 ·intro i v s' Q' E' hv iu
  have hv:its[i]?=some v:=by simpa using hv
  have fw:=rv.length;rw [Ab] at fw;have hi:i < bs.length:=by have:=(Aa hv).1; lia
  obtain ⟨u,hu,ru⟩:=rv.get (show (bs.map V.bl)[i]?=some (V.bl bs[i]) by rw [Ah,Ac hi]; rfl);rw [hv] at hu;cases hu;cases ru;have e:bs.getD i true=bs[i]:=by rw [Ad,Ac hi]; rfl
  refine wpAny_truthy_bool ?_;have iu:Q' (bs.getD i true) s':=iu;rw [e] at iu;exact iu
 ·intro h' tk hk
  have I1:Inv X fo σ H { s with heap:=h',toks:=tk }:=I.kept λb o e=>hk b o (λz=>absurd (Ao e) (by rw [Af z]; exact Nat.lt_irrefl _)) (Ak _ e);have fw:its.toArray.size=bs.length:=by have:=rv.length; rw [Ab] at this; simp; lia
  refine ⟨.bl (bs.all id),H,I1,?_,q⟩;show Value.bool _=_;rw [fw,Zik]
end
section
def Zgg (K:W.Frag) (a:Addr) (n:Nat):It :=
 ⟨λi H=>i < n/\∃ xs,SqL K H a xs/\xs.length=n,λi H x H'=>H'=H/\∀ xs,SqL K H a xs->xs[n - 1 - i]?=some x,λi H=>n<=i/\∃ xs,SqL K H a xs/\xs.length=n⟩
def Zir {P:Program} {w:World} {K:W.Frag} {tg:Expr} (a it:Addr) (n:Nat):Turn P w K tg (Zgg K a n) [it] it (λi h=>i<=n/\h.IsRevIter it a ((n:Int) - 1 - i)) where
 mem:=by simp
 obj:=λi h st b hb=>by
  have e:b=it:=by simpa using hb
  subst e;obtain ⟨_,o,e,c,d⟩:=st;exact ⟨o,e,λv z=>by rw [d] at z; cases z⟩
 keep:=λi h h' st k=>⟨st.1,st.2.at λo e=>k it (by simp) o e⟩
 item:=by
  intro X hP hw hK hc i fo s σ H E I hf st hg;subst hP hw hK;obtain ⟨hi,xs,hq,hl⟩:=hg;obtain ⟨its,rv,p,hz⟩:=I.list hq;obtain ⟨f0,f1,f2,f3,f4,f5⟩:=hf it (by simp);have gj:n - 1 - i < xs.length:=by lia
  obtain ⟨u,hu,ru⟩:=rv.get (Ac gj);have e1:(n:Int) - 1 - i=((n - 1 - i:Nat):Int):=by lia
  have fy:=st.2;rw [e1] at fy;refine wpAny_pyNext_rev_item fy p.isList (x:=u) (by simpa using hu) λh' ft sb=>?_;have I1:Inv X fo σ H { s with heap:=h' }:=I.turned (t':=s.toks) (λb o hb e=>(sb.2 b hb).trans e) f0 f1 f3 f4 f5;have e2:((n - 1 - i:Nat):Int) - 1=(n:Int) - 1 - ((i + 1:Nat):Int):=by lia
  rw [e2] at ft;obtain ⟨o,e,c,d⟩:=id ft;exact ⟨u,Y,Vz (s:={ s with heap:=h' }) e c d (by decide) ⟨xs[n - 1 - i],H,I1,ru,⟨Y,λys hy=>by rw [I.list_inj hy hq]; exact Ac gj⟩,⟨hi,ft⟩,λb hb=>(hf b hb).1⟩⟩
 done:=by
  intro X hP hw hK hc i fo s σ H E I hf st hg;subst hP hw hK;obtain ⟨hi,xs,hq,hl⟩:=hg;obtain ⟨f0,f1,f2,f3,f4,f5⟩:=hf it (by simp);have fy:=st.2;rw [show (n:Int) - 1 - i=-1 by have:=st.1; lia] at fy;exact wpAny_pyNext_rev_end (I.ok.hd hc) fy λh' eb=>⟨Y,I.turned (t':=s.toks) (λb o hb e=>eb b o hb e) f0 f1 f3 f4 f5⟩
 self:=λ_ _ _ _ _ st h=>wpAny_pyIter_revIter st.2 h
variable {X:Cx} {tg:Expr}
def iRev (K:W.Frag) (ta:TA):TI:=λσ H R=>ta σ H λvs H1=>∃ a xs,vs=[.ref a]/\SqL K H1 a xs/\R (Zgg K a xs.length) H1
def Znn {l:Expr} {ta:TA} {p pos:Pos} (hg:Gl X "reversed") (hm:X.mg "reversed"=none) (ha:PA X [l] ta) (hs:starEach [l] X.env=[(false,eval l X.env)]:=by rfl):PI X tg (.Call (.Name "reversed" p) [l] [] pos) (iRev X.K ta):=by
 intro fo s σ H R I h;refine Call_ (Xb I hg hm boot_reversed (PyProof.Rows.callWith_type1 (thn (ha pos fo s σ H _ I h) λus s1 zz38=>?_) hs Y));obtain ⟨vs,H1,I1,r1,q1⟩:=zz38;obtain ⟨a,xs,e,hq,q⟩:=q1;subst e;obtain ⟨u,rfl,ru⟩:=Xr r1;cases ru;obtain ⟨its,rv,pl,hz⟩:=I1.list hq;refine call_reversed_list pl.isList ?_;have I2:Inv X fo σ H1 { s1 with heap:=s1.heap.push (revObj a ((its.toArray.size:Int) - 1)) }:=I1.kept (t':=s1.toks) λb o e=>Ak _ e;have hn:its.toArray.size=xs.length:=by have:=rv.length; simp; lia
 rw [hn] at I2 ⊢;have st:(s1.heap.push (revObj a ((xs.length:Int) - 1))).IsRevIter s1.heap.objs.size a ((xs.length:Int) - 1 - ((0:Nat):Int)):=by
  rw [show (xs.length:Int) - 1 - ((0:Nat):Int)=(xs.length:Int) - 1 by simp]
  exact ⟨_,Ap _ Y,Y,Y⟩
 refine wpAny_pyIter_revIter st ?_;refine ⟨s1.heap.objs.size,[s1.heap.objs.size],_,_,H1,Y,I2,Zir a _ xs.length,⟨Az _,st⟩,λb hb=>?_,q⟩;have e:b=s1.heap.objs.size:=by simpa using hb
 subst e;exact I1.fpOk (An _) (I1.hok.fresh (An _))
def Zjv {K:W.Frag} {a:Addr} {xs:List V} {g:TG} {tt:TT} {tb:TB} {R:St->Hp->Prop} {σ:St} {H:Hp} (Pv:Nat->St->Hp->Prop) (h0:Pv 0 σ H) (hl:∀ i σ H,i<=xs.length->Pv i σ H->SqL K H a xs)
  (hs:∀ (i:Nat) x σ H,xs.reverse[i]?=some x->Pv i σ H->g x σ H λσ2 H2=>tt σ2 H2 λb H3=>if b=true then tb σ2 H3 (Pv (i + 1)) else Pv (i + 1) σ2 H3) (hd:∀ σ H,Pv xs.length σ H->R σ H):Wy (Zgg K a xs.length) g tt tb R σ H:=by
 refine ⟨λi m σ H=>m=xs.length - i/\i<=xs.length/\Pv i σ H,⟨xs.length,by simp,Az _,h0⟩,?_⟩;rintro i m σ H ⟨rfl,hi,p⟩;have q:=hl i σ H hi p;by_cases gj:i < xs.length
 ·refine .inr ⟨⟨gj,xs,q,Y⟩,Pv (i + 1),λσ' H' p'=>⟨xs.length - (i + 1),by lia,Y,gj,p'⟩,λx H' y=>?_⟩
  obtain ⟨e,y⟩:=y;subst e;exact hs i x σ _ (by rw [getElem?_reverse gj]; exact y xs q) p
 ·have e:i=xs.length:=by lia
  subst e;exact .inl ⟨⟨An _,xs,q,Y⟩,hd σ H p⟩
end
section
def Itz (K:W.Frag) (a b:Addr):It :=
  ⟨λi H=>∃ xs ys x y,SqL K H a xs/\SqL K H b ys/\xs[i]?=some x/\ys[i]?=some y,
   λi H v H'=>∃ q x y,H q=none/\v=.ref q/\(∀ xs,SqL K H a xs->xs[i]?=some x)/\(∀ ys,SqL K H b ys->ys[i]?=some y)/\H'=upd H q (.tup [x,y]),
   λi H=>∃ xs ys,SqL K H a xs/\SqL K H b ys/\(xs.length<=i\/ys.length<=i)⟩
def Zip {P:Program} {w:World} {K:W.Frag} {je:List Expr} {x1:Nat} {pos:Pos} (a b z TI TO i1 i2:Addr) (D:ZipApart z TI TO i1 i2 a b) :
  Turn P w K (.Tuple je x1 pos) (Itz K a b) [z,TI,TO,i1,i2] z (λi h=>IsZip h z TI TO .none/\IsPair h TI (.ref i1) (.ref i2)/\(∃ u v,IsPair h TO u v)/\h.IsListIter i1 a i/\h.IsListIter i2 b i) where
 mem:=by simp
 obj:=λi h st c hc=>by
  obtain ⟨s1,s2,⟨u,v,s3⟩,⟨o4,e4,c4,d4⟩,o5,e5,c5,d5⟩:=st;have hc:c=z\/c=TI\/c=TO\/c=i1\/c=i2:=by simpa using hc
  rcases hc with rfl | rfl | rfl | rfl | rfl
  ·exact ⟨_,s1,λv y=>by have y':Data.fields _=Data.cell v:=y; cases y'⟩
  ·exact ⟨_,s2,λv y=>by have y':Data.seq _ _=Data.cell v:=y; cases y'⟩
  ·exact ⟨_,s3,λv y=>by have y':Data.seq _ _=Data.cell v:=y; cases y'⟩
  ·exact ⟨o4,e4,λv y=>by rw [d4] at y; cases y⟩
  ·exact ⟨o5,e5,λv y=>by rw [d5] at y; cases y⟩
 keep:=λi h h' st k=>by
  obtain ⟨s1,s2,⟨u,v,s3⟩,s4,s5⟩:=st;exact ⟨k z (by simp) _ s1,k TI (by simp) _ s2,⟨u,v,k TO (by simp) _ s3⟩,s4.at λo e=>k i1 (by simp) o e,s5.at λo e=>k i2 (by simp) o e⟩
 item:=by
  intro X hP hw hK hc i fo s σ H E I hf st hg;subst hP hw hK;obtain ⟨xs,ys,x,y,uj,ui,hx,hy⟩:=hg;obtain ⟨itx,yz,px,_⟩:=I.list uj;obtain ⟨ity,yy,py,_⟩:=I.list ui;obtain ⟨u,hu,ru⟩:=yz.get hx;obtain ⟨v,hv,rv⟩:=yy.get hy;obtain ⟨s1,s2,⟨u0,v0,s3⟩,s4,s5⟩:=st;refine wpAny_pyNext_zip_item D s1 s2 s3 s4 s5 px.isList py.isList (x:=u) (y:=v) (by simpa using hu) (by simpa using hv) λh' a1 a2 a3 a4 a5 a6 a7=>?_;refine ⟨.ref s.heap.objs.size,Y,wpAny_letOwnedTupleGo_zip a1 λmw b1 sb=>?_⟩;have lt:∀ c∈[z,TI,TO,i1,i2],c < s.heap.objs.size:=λc hc=>by
   obtain ⟨o,e,_⟩:∃ o,s.heap.get? c=some o/\True:=by
    have hc:c=z\/c=TI\/c=TO\/c=i1\/c=i2:=by simpa using hc
    rcases hc with rfl | rfl | rfl | rfl | rfl
    ·exact ⟨_,s1,trivial⟩
    ·exact ⟨_,s2,trivial⟩
    ·exact ⟨_,s3,trivial⟩
    ·obtain ⟨o,e,_⟩:=s4; exact ⟨o,e,trivial⟩
    ·obtain ⟨o,e,_⟩:=s5; exact ⟨o,e,trivial⟩
   exact Ao e
  have gu:∀ c o,c≠z->c≠TO->c≠i1->c≠i2->s.heap.get? c=some o->mw.get? c=some o:=λc o n1 n2 n3 n4 e=>(sb.2 c n1).trans (a7 c o n1 n2 n3 n4 e);have zl:=lt z (by simp);have m6:mw.get? s.heap.objs.size=some { cls:=.type "tuple",data:=.seq #[u,v] }:=(sb.2 _ (Nat.ne_of_gt zl)).trans a5;have hn:H s.heap.objs.size=none:=I.hok.fresh (An _)
  have I2:Inv X fo σ (upd H s.heap.objs.size (.tup [x,y])) { s with heap:=mw }:=by
   have out:∀ c,c ∉ [z,TO,i1,i2]->c≠z/\c≠TO/\c≠i1/\c≠i2:=λc hc=>by simpa using hc
   refine I.step (g':=s.gens) (d':=s.drawn) (ch:=[z,TO,i1,i2]) (λc hc=>?_) (λc o _ _ hc q _=>?_) (λc o _ _ hc q _=>⟨o.slots,?_⟩) (λc o _ q n=>by rw [Ze (As (Ao q))]; exact n)
    (λc o hc q=>⟨o,?_⟩) (λc zs q=>by rw [Ze (Zl q hn)]; exact q) (λc o zs q=>by rw [Ze (Zl q hn)]; exact q) (λc ps q=>⟨#[],by rw [Ze (Zl q hn),q]; simp⟩) (λm hm=>?_) (λc v' q=>?_) I.bare
   ·have hc:c=z\/c=TO\/c=i1\/c=i2:=by simpa using hc
    have hm:c∈[z,TI,TO,i1,i2]:=by rcases hc with rfl | rfl | rfl | rfl <;> simp
    obtain ⟨f0,f1,f2,f3,f4,f5⟩:=hf c hm;exact ⟨f3,f1,f4,f5⟩
   ·obtain ⟨n1,n2,n3,n4⟩:=out c hc; exact gu c o n1 n2 n3 n4 q
   ·obtain ⟨n1,n2,n3,n4⟩:=out c hc; exact gu c o n1 n2 n3 n4 q
   ·obtain ⟨n1,n2,n3,n4⟩:=out c hc; exact gu c o n1 n2 n3 n4 q
   ·obtain ⟨o,es,ep,ho,r⟩:=hm
    exact ⟨o,es,ep,gu _ o (Ne.symm (hf z (by simp)).2.1) (Ne.symm (hf TO (by simp)).2.1) (Ne.symm (hf i1 (by simp)).2.1) (Ne.symm (hf i2 (by simp)).2.1) ho,r⟩
   ·by_cases hb:c=s.heap.objs.size
    ·subst hb
     rw [Zc] at q;cases q;exact ⟨by show 2<=sizeLine; decide,[u,v],.cons ru (.cons rv .nil),⟨_,m6,rfl,_,rfl⟩⟩
    ·rw [Ze hb] at q
     refine (I.hok c v' q).stay (λe w' he y'=>gu e w' ?_ ?_ ?_ ?_ y') (λd y'=>by rw [Ze (Zl y' hn)]; exact y') λd zs y'=>by rw [Ze (Zl y' hn)]; exact y'
     all_goals
      rintro rfl;have rj:H e=none:=(hf e (by simp)).1
      rcases he with y' | y'
      ·rw [y',q] at rj; cases rj
      ·rw [rj] at y'; cases y'
  refine ⟨.ref s.heap.objs.size,_,I2,Y,⟨_,x,y,hn,Y,λu3 jq=>by rw [I.list_inj jq uj]; exact hx,λys' jq=>by rw [I.list_inj jq ui]; exact hy,Y⟩,
   ⟨b1,(sb.2 TI D.TIz).trans (a7 TI _ D.TIz D.TITO D.TIi1 D.TIi2 s2),⟨u,v,(sb.2 TO D.TOz).trans a2⟩,a3.at λo e=>(sb.2 i1 D.i1z).trans e,a4.at λo e=>(sb.2 i2 D.i2z).trans e⟩,λc hc=>?_⟩;rw [Ze (As (lt c hc))];exact (hf c hc).1
 done:=by
  intro X hP hw hK hc i fo s σ H E I hf st hg;subst hP hw hK;obtain ⟨xs,ys,uj,ui,fw⟩:=hg;obtain ⟨itx,yz,px,_⟩:=I.list uj;obtain ⟨ity,yy,py,_⟩:=I.list ui;obtain ⟨s1,s2,⟨u0,v0,s3⟩,s4,s5⟩:=st;have l1:=yz.length;have l2:=yy.length;refine wpAny_pyNext_zip_end (I.ok.hd hc) D s1 s2 s3 s4 s5 px.isList py.isList ?_ λh' eb=>⟨Y,?_⟩
  ·rcases fw with z | z
   ·exact .inl (by simp; lia)
   ·exact .inr (by simp; lia)
  ·have out:∀ c,c ∉ [z,TO,i1,i2]->c≠z/\c≠TO/\c≠i1/\c≠i2:=λc hc=>by simpa using hc
   refine I.step (g':=s.gens) (d':=s.drawn) (t':=s.toks) (ch:=[z,TO,i1,i2]) (λc hc=>?_) (λc o _ _ hc q _=>?_) (λc o _ _ hc q _=>⟨o.slots,?_⟩) (λc o _ q n=>n)
    (λc o hc q=>⟨o,?_⟩) (λc zs q=>q) (λc o zs q=>q) (λc ps q=>⟨#[],by rw [q]; simp⟩) (λm hm=>?_) (λc v' q=>?_) I.bare
   ·have hc:c=z\/c=TO\/c=i1\/c=i2:=by simpa using hc
    have hm:c∈[z,TI,TO,i1,i2]:=by rcases hc with rfl | rfl | rfl | rfl <;> simp
    obtain ⟨f0,f1,f2,f3,f4,f5⟩:=hf c hm;exact ⟨f3,f1,f4,f5⟩
   ·obtain ⟨n1,n2,n3,n4⟩:=out c hc; exact eb c o n1 n2 n3 n4 q
   ·obtain ⟨n1,n2,n3,n4⟩:=out c hc; exact eb c o n1 n2 n3 n4 q
   ·obtain ⟨n1,n2,n3,n4⟩:=out c hc; exact eb c o n1 n2 n3 n4 q
   ·obtain ⟨o,es,ep,ho,r⟩:=hm
    exact ⟨o,es,ep,eb _ o (Ne.symm (hf z (by simp)).2.1) (Ne.symm (hf TO (by simp)).2.1) (Ne.symm (hf i1 (by simp)).2.1) (Ne.symm (hf i2 (by simp)).2.1) ho,r⟩
   ·refine (I.hok c v' q).stay (λe w' he y'=>eb e w' ?_ ?_ ?_ ?_ y') (λd y'=>y') λd zs y'=>y'
    all_goals
     rintro rfl;have rj:H e=none:=(hf e (by simp)).1
     rcases he with y' | y'
     ·rw [y',q] at rj; cases rj
     ·rw [rj] at y'; cases y'
 self:=λ_ _ _ _ _ st h=>wpAny_pyIter_zip st.1 h
def Zgh (la:a < N) (lb:b < N):ZipApart (N + 4) (N + 2) (N + 3) N (N + 1) a b:=by
 constructor <;> (intro z; first | exact absurd (show (_:Nat)=_ from z) (by lia) | lia)
variable {X:Cx}
def iZip (K:W.Frag) (ta:TA):TI:=λσ H R=>ta σ H λvs H1=>∃ a b xs ys,vs=[.ref a,.ref b]/\SqL K H1 a xs/\SqL K H1 b ys/\R (Itz K a b) H1
def Znl {je:List Expr} {x1:Nat} {ji p pos:Pos} {l m:Expr} {ta:TA} (hg:Gl X "zip") (hm:X.mg "zip"=none) (ha:PA X [l,m] ta) (hs:starEach [l,m] X.env=[(false,eval l X.env),(false,eval m X.env)]:=by rfl) (ju:starEach [m] X.env=[(false,eval m X.env)]:=by rfl) :
  PI X (.Tuple je x1 ji) (.Call (.Name "zip" p) [l,m] [] pos) (iZip X.K ta):=by
 intro fo s σ H R I h;refine Call_ (Xb I hg hm boot_zip (PyProof.Rows.callWith_type1 (thn (ha pos fo s σ H _ I h) λus s1 ⟨vs,H1,I1,r1,q1⟩=>?_) (by rw [hs,ju]) (by rw [ju]; rfl)));obtain ⟨a,b,xs,ys,e,uj,ui,q⟩:=q1;subst e;obtain ⟨u,v,rfl,ru,rv⟩:=r1.two;cases ru;cases rv;obtain ⟨itx,yz,px,_⟩:=I1.list uj;obtain ⟨ity,yy,py,_⟩:=I1.list ui;have la:a < s1.heap.objs.size:=by obtain ⟨o,ho,_⟩:=px.isList; exact Ao ho
 have lb:b < s1.heap.objs.size:=by obtain ⟨o,ho,_⟩:=py.isList; exact Ao ho
 refine call_zip_2 px.isList py.isList λh' z1 z2 z3 z4 z5 z6 z7=>wpAny_pyIter_zip z1 ?_;have I2:Inv X fo σ H1 { s1 with heap:=h' }:=I1.kept (t':=s1.toks) z7;generalize hN:s1.heap.objs.size=N at *;refine ⟨N + 4,[N + 4,N + 2,N + 3,N,N + 1],_,_,H1,Y,I2,Zip a b (N + 4) (N + 2) (N + 3) N (N + 1) (Zgh la lb),⟨z1,z2,⟨_,_,z3⟩,z4,z5⟩,λc hc=>?_,q⟩;have hc:s1.heap.objs.size<=c:=by
  have hc:c=N + 4\/c=N + 2\/c=N + 3\/c=N\/c=N + 1:=by simpa using hc
  rw [hN]
  rcases hc with rfl | rfl | rfl | rfl | rfl
  ·exact le_add_right _ _
  ·exact le_add_right _ _
  ·exact le_add_right _ _
  ·exact An _
  ·exact le_add_right _ _
 exact I1.fpOk hc (I1.hok.fresh hc)
def Zju {K:W.Frag} {a b:Addr} {xs ys:List V} {g:TG} {tt:TT} {tb:TB} {R:St->Hp->Prop} {σ:St} {H:Hp} (fw:xs.length=ys.length) (Pv:Nat->St->Hp->Prop) (h0:Pv 0 σ H) (hl:∀ i σ H,i<=xs.length->Pv i σ H->SqL K H a xs/\SqL K H b ys)
  (hs:∀ (i:Nat) x y σ H q,xs[i]?=some x->ys[i]?=some y->H q=none->Pv i σ H->g (.ref q) σ (upd H q (.tup [x,y])) λσ2 H2=>tt σ2 H2 λb H3=>if b=true then tb σ2 H3 (Pv (i + 1)) else Pv (i + 1) σ2 H3) (hd:∀ σ H,Pv xs.length σ H->R σ H):Wy (Itz K a b) g tt tb R σ H:=by
 refine ⟨λi m σ H=>m=xs.length - i/\i<=xs.length/\Pv i σ H,⟨xs.length,by simp,Az _,h0⟩,?_⟩;rintro i m σ H ⟨rfl,hi,p⟩;obtain ⟨q1,q2⟩:=hl i σ H hi p;by_cases gj:i < xs.length
 ·have hlt2:i < ys.length:=by lia
  refine .inr ⟨⟨xs,ys,xs[i],ys[i],q1,q2,by simp [gj],by simp [hlt2]⟩,Pv (i + 1),λσ' H' p'=>⟨xs.length - (i + 1),by lia,Y,gj,p'⟩,λx H' y=>?_⟩;obtain ⟨c,u,v,hn,e1,y1,y2,e2⟩:=y;subst e1 e2;exact hs i u v σ H c (y1 xs q1) (y2 ys q2) hn p
 ·have e:i=xs.length:=by lia
  subst e;exact .inl ⟨⟨xs,ys,q1,q2,.inl (An _)⟩,hd σ H p⟩
end
section
variable {prog:Program} {w:World} {A:Around} {E:Value->Shared->Prop} {s:Shared}
abbrev upIt (a n:Int):Obj:={ cls:=.type "range_iterator",data:=.fields #[rawInt (a + (n - 1) * 1),rawInt n,rawInt (-1)] }
def Vk (h1:-(2 ^ 62)<=z) (h2:z < 2 ^ 62):Builtin.Range.rangeFitsLong z=true:=by
 unfold Builtin.Range.rangeFitsLong;rw [Bool.and_eq_true,decide_eq_true_eq,decide_eq_true_eq];lia
def Zi6 (r:Addr) (a b:Int) (t u v:Tok) (hs:(Builtin.Range.rangeFitsLong a && Builtin.Range.rangeFitsLong b && Builtin.Range.rangeFitsLong 1 && Builtin.Range.rangeFitsLong (-1) && Builtin.Range.rangeFitsLong (a - 1) && Builtin.Range.rangeFitsLong (Builtin.Range.rangeSize a b 1))=true) :
  Meets (Builtin.«range.__reversed__» ⟨[.ref r],[]⟩) (λ_ R s=>IsRange s.heap r a b 1 t u v/\R (.ok (.ret (.ref s.heap.objs.size))) { s with heap:=s.heap.push (upIt a (Builtin.Range.rangeSize a b 1)) }) :=
 .of_wp λprog w A R s h=>by
  obtain ⟨hp,g,d,tk,os⟩:=s;obtain ⟨hl,h⟩:=h;unfold Builtin.«range.__reversed__»;refine Al (wpAny_of_eq (a:=Value.ref r) Y ?_);refine Al (m:=Builtin.Range.rangeFields (.ref r)) ?_;unfold Builtin.Range.rangeFields;refine Al (wpAny_field hl Y (x:=.int a t) Y ?_);refine Al (wpAny_of_eq (a:=some a) Y ?_);refine Al (wpAny_field hl Y (x:=.int b u) Y ?_);refine Al (wpAny_of_eq (a:=some b) Y ?_);refine Al (wpAny_field hl Y (x:=.int 1 v) Y ?_);refine Al (wpAny_of_eq (a:=some 1) Y ?_);refine wpAny_pure ?_;dsimp only;simp only [hs,Bool.not_true,Bool.false_eq_true,if_false,if_true];exact Al (wpAny_newObj_type (wpAny_pure ⟨_,Y,h⟩))
def Znb:isSubtype (.type "range_iterator") (.type "reversed")=pure false:=by
 rw [isSubtype_type]
 kernel_rfl
def Zlj {t:Tok} (hr:IsRange s.heap r a b 1 t u v)
  (hs:(Builtin.Range.rangeFitsLong a && Builtin.Range.rangeFitsLong b && Builtin.Range.rangeFitsLong 1 && Builtin.Range.rangeFitsLong (-1) && Builtin.Range.rangeFitsLong (a - 1) && Builtin.Range.rangeFitsLong (Builtin.Range.rangeSize a b 1))=true)
  (q:Z (.ref s.heap.objs.size) { s with heap:=s.heap.push (upIt a (Builtin.Range.rangeSize a b 1)) }) :
  codeAny (d:) A (.call (.builtin "reversed.__new__") ⟨[.type "reversed",.ref r],[]⟩) (wants Z E) s:=by
 have hT:s.TypeIs (.ref r) "range":=⟨_,hr,rfl⟩;refine codeAny_of_tree (show wpAny _ A.in1 (checkBuiltinCall "reversed.__new__" ⟨[.type "reversed",.ref r],[]⟩ >>= λ_=>again (.builtin "reversed.__new__" ⟨[.type "reversed",.ref r],[]⟩)) _ _ s from ?_);refine Al (wpAny_of_eq (PySem.F.newCall_reversed_1 (.ref r)) (wpAny_pure ⟨plainId_quiet PySem.F.plain_reversed_new _,codeAny_builtin PySem.F.entry_reversed_new ?_⟩));rw [Around.under_plainId PySem.F.plain_reversed_new _];unfold Builtin.«reversed.__new__»;refine Al (wpAny_of_eq (newClass_reversed (.ref r)) ?_);refine Al (wpAny_of_eq (a:=()) (by first | rfl | kernel_rfl) (Al (wpAny_of_eq (a:=()) (by first | rfl | kernel_rfl) ?_)));refine Al (wpAny_specialOf hT PySem.F.slot_range_reversed.lookup (Al (wpAny_of_eq (PySem.F.slot_range_reversed.bind (.ref r)) ?_)));have ne:¬ ((Value.builtin "range.__reversed__" == Value.none)=true):=Bool.false_ne_true;dsimp only
 first | rw [if_neg ne] | (show wpAny _ _ (if (Value.builtin "range.__reversed__" == Value.none)=true then _ else _) _ _ _; rw [if_neg ne])
 refine Al (wpAny_rule (Al (m:=runValue (.call (.builtin "range.__reversed__") ⟨[.ref r],[]⟩)) ?_));show wpAny _ _ (call (.builtin "range.__reversed__") [.ref r]) _ _ _;refine call_meets PySem.F.slot_range_reversed hT PySem.F.entry_range_reversed (PySem.F.args_range_reversed_1 _) (Zi6 r a b t u v hs) ⟨hr,?_⟩
 first | exact wpAny_pure q | exact Al (wpAny_pure (wpAny_pure q))
def Zlk {t:Tok} (hr:IsRange s.heap r a b 1 t u v)
  (hs:(Builtin.Range.rangeFitsLong a && Builtin.Range.rangeFitsLong b && Builtin.Range.rangeFitsLong 1 && Builtin.Range.rangeFitsLong (-1) && Builtin.Range.rangeFitsLong (a - 1) && Builtin.Range.rangeFitsLong (Builtin.Range.rangeSize a b 1))=true)
  (q:Q (.ref s.heap.objs.size) { s with heap:=s.heap.push (upIt a (Builtin.Range.rangeSize a b 1)) }):wpAny (d:) A (call (.type "reversed") [.ref r]) Q E s:=by
 refine callType_other (U:="range_iterator") (Q₁:=λo z=>o=.ref s.heap.objs.size/\z={ s with heap:=s.heap.push (upIt a (Builtin.Range.rangeSize a b 1)) }) (by decide +kernel) PySem.F.create_reversed ⟨_,_,PySem.F.mro_reversed⟩ PySem.F.made_reversed Znb (PySem.F.typeCall_reversed_1 _) (Zlj hr hs ⟨rfl,rfl⟩) ?_;rintro o z ⟨rfl,rfl⟩;exact ⟨⟨_,Ap _ Y,Y⟩,q⟩
end
section
variable {X:Cx} {tg:Expr}
def Zo3 (ta:TA):TI:=λσ H R=>ta σ H λvs H1=>∃ (i:Int) (n:Nat),vs=[.int i,.int (i + n)]/\0<=i/\i + n<=100000/\R (Itr3 (i + n - 1) (-1) n) H1
def Zlu {a b:Expr} {ta:TA} {p1 p2 pos jz:Pos} (sk:Gl X "reversed") (hml:X.mg "reversed"=none) (hg:Gl X "range") (hm:X.mg "range"=none) (ha:PA X [a,b] ta) (hs:starEach [a,b] X.env=[(false,eval a X.env),(false,eval b X.env)]:=by rfl) (l6:starEach [b] X.env=[(false,eval b X.env)]:=by rfl)
  (ju:starEach [.Call (.Name "range" p2) [a,b] [] jz] X.env=[(false,eval (.Call (.Name "range" p2) [a,b] [] jz) X.env)]:=by rfl):PI X tg (.Call (.Name "reversed" p1) [.Call (.Name "range" p2) [a,b] [] jz] [] pos) (Zo3 ta):=by
 intro fo s σ H R I h;refine Call_ (Xb I sk hml boot_reversed (PyProof.Rows.callWith_type1 ?_ ju Y));rw [ju];refine Calls.spliced_cons ?_;refine Call_ (Xb I hg hm boot_range (PyProof.Rows.callWith_type1 (thn (ha jz fo s σ H _ I h) λus s1 ⟨vs,H1,I1,r1,q1⟩=>?_) (by rw [hs,l6]) (by rw [l6]; rfl)));obtain ⟨i,n,e,h0,h1,q⟩:=q1;subst e;obtain ⟨u,v,rfl,ru,rv⟩:=r1.two;obtain ⟨t,rfl⟩:=ru;obtain ⟨t',rfl⟩:=rv;refine call_range_2 (Calls.spliced_nil ?_);have hr:Builtin.Range.rangeSize i (i + n) 1=n:=by rw [rangeSize_one]; split <;> lia
 have fits:(Builtin.Range.rangeFitsLong i && Builtin.Range.rangeFitsLong (i + n) && Builtin.Range.rangeFitsLong 1 && Builtin.Range.rangeFitsLong (-1) && Builtin.Range.rangeFitsLong (i - 1) && Builtin.Range.rangeFitsLong (Builtin.Range.rangeSize i (i + n) 1))=true:=by
  rw [hr,Vk (by lia) (by lia),Vk (by lia) (by lia),Vk (by decide) (by decide),Vk (by decide) (by decide),Vk (by lia) (by lia),Vk (by lia) (by lia)];rfl
 refine Zlk (IsRange.new ..) fits ?_;rw [hr];have I2:Inv X fo σ H1 { s1 with heap:=s1.heap.push { cls:=.type "range",data:=.fields #[.int i t,.int (i + n) t',.int 1 s1.toks] },toks:=s1.toks + 1 }:=I1.kept λb o e=>Ak _ e;have st:IsRangeIter ((s1.heap.push { cls:=.type "range",data:=.fields #[.int i t,.int (i + n) t',.int 1 s1.toks] }).push (upIt i n)) (s1.heap.push { cls:=.type "range",data:=.fields #[.int i t,.int (i + n) t',.int 1 s1.toks] }).objs.size (i + n - 1 + ((0:Nat):Int) * (-1)) ((n:Int) - ((0:Nat):Int)) (-1):=by
  have e1:i + (n:Int) - 1 + ((0:Nat):Int) * (-1)=i + ((n:Int) - 1) * 1:=by simp; lia
  have e2:(n:Int) - ((0:Nat):Int)=n:=by simp
  rw [e1,e2]
  exact Ap _ Y
 refine wpAny_pyIter_rangeiter st ?_;refine ⟨_,[(s1.heap.push { cls:=.type "range",data:=.fields #[.int i t,.int (i + n) t',.int 1 s1.toks] }).objs.size],_,_,H1,rfl,I2.kept (t':=s1.toks + 1) λb o e=>Ak _ e,Zcx _ (i + n - 1) (-1) n,st,λb hb=>?_,q⟩;have e:b=(s1.heap.push { cls:=.type "range",data:=.fields #[.int i t,.int (i + n) t',.int 1 s1.toks] }).objs.size:=by simpa using hb
 subst e;exact I2.fpOk (An _) (I2.hok.fresh (An _))
def Zf6 {lo st:Int} {n:Nat} {g:TG} {tb:TS} {D:Ends} {σ:St} {H:Hp} (Pv:Nat->St->Hp->Prop) (h0:Pv 0 σ H)
  (hs:∀ (i:Nat) σ H,i < n->Pv i σ H->g (.int (lo + i * st)) σ H λσ2 H2=>tb { D with nx:=Pv (i + 1),ct:=Pv (i + 1),bk:=D.nx } σ2 H2) (hd:∀ σ H,Pv n σ H->D.nx σ H) :
  ∃ W:Nat->Nat->St->Hp->Prop,(∃ m,W 0 m σ H)/\∀ i m σ H,W i m σ H ->
   ((Itr3 lo st n).stop i H/\D.nx σ H)\/((Itr3 lo st n).go i H/\∃ N:St->Hp->Prop,(∀ σ' H',N σ' H'->∃ m',m' < m/\W (i + 1) m' σ' H')/\∀ x H',(Itr3 lo st n).yld i H x H'->g x σ H' λσ2 H2=>tb { D with nx:=N,ct:=N,bk:=D.nx } σ2 H2):=by
 refine ⟨λi m σ H=>m=n - i/\i<=n/\Pv i σ H,⟨n,by simp,Az _,h0⟩,?_⟩;rintro i m σ H ⟨rfl,hi,p⟩;by_cases gj:i < n
 ·refine .inr ⟨gj,Pv (i + 1),λσ' H' p'=>⟨n - (i + 1),by lia,Y,gj,p'⟩,λx H' y=>?_⟩
  obtain ⟨e,y⟩:=y;subst e y;exact hs i σ _ gj p
 ·have e:i=n:=by lia
  subst e;exact .inl ⟨An _,hd σ H p⟩
def Zd6 (K:W.Frag) (hc:X.calm=true) (h:PGs X es t)
  (hn:(assignEach es X.env).length=n:=by rfl) (lg:(assignEach es X.env).findIdx? (·.1)=none:=by rfl) (hk:X.K=K:=by rfl):PG X (.Tuple es k pos) (gTup K n t):=hk ▸ Vc hc h hn lg
end
end L2
namespace KT
open PySem L2
def mV:Option Nat->V
 | none=>.non
 | some j=>.int j
structure TD (M:Lq) (ns:List Int):Prop where
 n:∃ n,1<=n/\n<=40/\M.length=3 * n
 len:ns.length=M.length
 inv:∀ (i j:Nat),M[i]?=some (some j)->M[j]?=some (some i)/\i≠j
 rng:∀ (i:Nat) x,ns[i]?=some x->0<=x/\x<=9999
 eqv:∀ (i j:Nat) x,ns[i]?=some x->ns[j]?=some x->i=j\/M[i]?=some (some j)
 eqm:∀ (i j:Nat),M[i]?=some (some j)->ns[j]?=ns[i]?
structure SewOk (N:Nat) (F:List Nat) (M:Lq):Prop where
 len:M.length=N
 nd:F.Nodup
 free:∀ f∈F,f < N/\M[f]?=some none
 inv:∀ (i j:Nat),M[i]?=some (some j)->M[j]?=some (some i)/\i≠j
def SewOk.start (N:Nat):SewOk N (List.range N) (List.replicate N none):=by
 refine ⟨by simp,nodup_range,λf hf=>?_,λi j h=>?_⟩
 ·have h:=mem_range.mp hf
  exact ⟨h,by rw [getElem?_replicate,if_pos h]⟩
 ·rw [getElem?_replicate] at h
  split at h <;> cases h
def SewOk.skip {one:Nat} (h:SewOk N (one :: F) M):SewOk N F M :=
 ⟨h.len,(nodup_cons.mp h.nd).2,λf hf=>h.free f (mem_cons_of_mem _ hf),h.inv⟩
def SewOk.pair {F:List Nat} {M:Lq} (h:SewOk N (one :: F) M) (hk:F[k]?=some other):SewOk N (F.eraseIdx k) ((M.set one (some other)).set other (some one)):=by
 obtain ⟨n1,n2⟩:=nodup_cons.mp h.nd;have hm:other∈F:=Au hk;have g9:one≠other:=λz=>n1 (z ▸ hm);obtain ⟨h1,f1⟩:=h.free one mem_cons_self;obtain ⟨h2,f2⟩:=h.free other (mem_cons_of_mem _ hm);have l1:one < M.length:=by rw [h.len]; exact h1
 have l2:other < M.length:=by rw [h.len]; exact h2
 have g1:((M.set one (some other)).set other (some one))[one]?=some (some other):=by
  rw [getElem?_set_ne (Ne.symm g9),getElem?_set_self l1]
 have g2:((M.set one (some other)).set other (some one))[other]?=some (some one):=by
  rw [getElem?_set_self (by rw [length_set]; exact l2)]
 have g3:∀ i,i≠one->i≠other->((M.set one (some other)).set other (some one))[i]?=M[i]?:=λi a b=>by
  rw [getElem?_set_ne (Ne.symm b),getElem?_set_ne (Ne.symm a)]
 refine ⟨by rw [length_set,length_set]; exact h.len,n2.sublist (eraseIdx_sublist F k),λf hf=>?_,λi j e=>?_⟩
 ·obtain ⟨i,hi,hik,e⟩:=mem_eraseIdx_iff_getElem.mp hf
  have fm:f∈F:=e ▸ getElem_mem hi;obtain ⟨a,b⟩:=h.free f (mem_cons_of_mem _ fm);have c1:f≠one:=λz=>n1 (z ▸ fm);have c2:f≠other:=λz=>by
   obtain ⟨i9,ek⟩:=Aa hk
   exact hik ((getElem_inj n2).mp (e.trans (z.trans ek.symm)))
  exact ⟨a,by rw [g3 f c1 c2]; exact b⟩
 ·by_cases c1:i=one
  ·subst c1
   rw [g1] at e;cases e;exact ⟨g2,g9⟩
  ·by_cases c2:i=other
   ·subst c2
    rw [g2] at e;cases e;exact ⟨g1,Ne.symm g9⟩
   ·rw [g3 i c1 c2] at e
    obtain ⟨a,b⟩:=h.inv i j e;have d1:j≠one:=λz=>by rw [z,f1] at a; cases a
    have d2:j≠other:=λz=>by rw [z,f2] at a; cases a
    exact ⟨by rw [g3 j d1 d2]; exact a,b⟩
def nm (s t:Int) (i:Nat):Int:=(s + t * i) % 10000
def rep (M:Lq) (i:Nat):Nat:=match M[i]? with
 | some (some j)=>if j < i then j else i
 | _=>i
def flat (M:Lq) (s t:Int):List Int:=(List.range M.length).map λi=>nm s t (rep M i)
def Vo:List Int:=[1,3,7,9,37,1009,3333,9999]
def nm_d:∀ t∈Vo,∀ d:Fin 42,t * ((d.val:Nat):Int) % 10000=0->d.val=0:=by decide +kernel
def Znv (ht:t∈Vo) (hi:i < 42) (hj:j < 42) (h:nm s t i=nm s t j):i=j:=by
  have key:∀ a b:Nat,b<=a->a < 42->nm s t a=nm s t b->a=b:=λa b im ha e=>by
    have e2:=Int.emod_eq_emod_iff_emod_sub_eq_zero.mp e;rw [Int.add_sub_add_left,<- Int.mul_sub,<- Int.natCast_sub im] at e2;have:=nm_d t ht ⟨a - b,Nat.lt_of_le_of_lt (sub_le _ _) ha⟩ e2;exact Nat.le_antisymm (Nat.sub_eq_zero_iff_le.mp this) im
  rcases Nat.le_total i j with h' | h'
  · exact (key j i h' hj h.symm).symm
  · exact key i j h' hi h
def Zg7 {N:Nat} (h:i < N):rep M i < N:=by
 unfold rep;split
 ·split <;> omega
 ·exact h
def Um (M:Lq) (i:Nat):rep M i=i\/(∃ j,M[i]?=some (some j)/\j < i/\rep M i=j):=by
 cases e:M[i]? with
 | none=>exact .inl (by unfold rep; rw [e])
 | some o =>
  cases o with
  | none=>exact .inl (by unfold rep; rw [e])
  | some j =>
   by_cases h:j < i
   ·exact .inr ⟨j,Y,h,by unfold rep; rw [e]; exact if_pos h⟩
   ·exact .inl (by unfold rep; rw [e]; exact if_neg h)
def O6 {M:Lq} (h:(flat M s t)[i]?=some x):i < M.length/\x=nm s t (rep M i):=by
 unfold flat at h;rw [Ah] at h;by_cases hi:i < M.length
 ·rw [getElem?_range hi] at h
  exact ⟨hi,(Ax h).symm⟩
 ·rw [Ay (by simpa using hi)] at h
  cases h
def Zen {M:Lq} (hi:i < M.length):(flat M s t)[i]?=some (nm s t (rep M i)):=by
 unfold flat;rw [Ah,getElem?_range hi];rfl
def Zk2 {M:Lq} {n:Nat} (h1:1<=n) (h2:n<=14) (hM:M.length=3 * n) (j3:∀ (i j:Nat),M[i]?=some (some j)->M[j]?=some (some i)/\i≠j) (ht:t∈Vo):TD M (flat M s t) where
 n:=⟨n,h1,by omega,hM⟩
 len:=by unfold flat; simp
 inv:=j3
 rng:=λi x h=>by
  obtain ⟨_,rfl⟩:=O6 h;unfold nm;omega
 eqv:=λi j x hi hj=>by
  obtain ⟨li,ei⟩:=O6 hi;obtain ⟨lj,ej⟩:=O6 hj;have e:rep M i=rep M j:=Znv ht (by have:=Zg7 (M:=M) li; omega) (by have:=Zg7 (M:=M) lj; omega) (ei.symm.trans ej)
  rcases Um M i with a | ⟨a,ha,la,ra⟩
  ·rcases Um M j with b | ⟨b,hb,lb,rb⟩
   ·exact .inl (a.symm.trans (e.trans b))
   ·have:b=i:=by rw [<- rb,<- e,a]
    subst this;exact .inr (j3 j b hb).1
  ·rcases Um M j with b | ⟨b,hb,lb,rb⟩
   ·have:a=j:=by rw [<- ra,e,b]
    subst this;exact .inr ha
   ·have:a=b:=by rw [<- ra,e,rb]
    subst this;have c1:=(j3 i a ha).1;have c2:=(j3 j a hb).1;rw [c1] at c2;exact .inl (by cases c2; rfl)
 eqm:=λi j h=>by
  obtain ⟨h',g9⟩:=j3 i j h;have li:i < M.length:=(Aa h).1;have lj:j < M.length:=(Aa h').1;rw [Zen li,Zen lj];have e:rep M j=rep M i:=by
   by_cases c:j < i
   ·have a:rep M i=j:=by unfold rep; rw [h]; exact if_pos c
    have b:rep M j=j:=by unfold rep; rw [h']; exact if_neg (by omega)
    rw [a,b]
   ·have a:rep M i=i:=by unfold rep; rw [h]; exact if_neg c
    have b:rep M j=i:=by unfold rep; rw [h']; exact if_pos (by omega)
    rw [a,b]
  rw [e]
def pl (ns:List Int) (n:Nat) (x:Int):List Nat:=(List.range n).filter λi=>decide (ns[i]?=some x)
def keys (ns:List Int):Nat->List Int
 | 0=>[]
 | n + 1=>match ns[n]? with
  | some x=>if x∈keys ns n then keys ns n else keys ns n ++ [x]
  | none=>keys ns n
def Xx {ns:List Int} {i:Nat}:i∈pl ns n x ↔ i < n/\ns[i]?=some x:=by
 unfold pl;rw [mem_filter,mem_range];simp
def Zjc (ns:List Int) (n:Nat) (x:Int):(pl ns n x).Nodup:=(nodup_range).sublist filter_sublist
def Zhc (ns:List Int) (n:Nat) (x:Int):(pl ns n x).Pairwise (· < ·):=(pairwise_lt_range).sublist filter_sublist
def Zd4 {ns:List Int} (h:ns[n]?=some x):pl ns (n + 1) x=pl ns n x ++ [n]:=by
 unfold pl;rw [range_succ,filter_append];congr 1;simp [h]
def Zbq {ns:List Int} (h:ns[n]?≠some x):pl ns (n + 1) x=pl ns n x:=by
 unfold pl;rw [range_succ,filter_append];simp [h]
def Xm {ns:List Int} (h:ns[n]?=some x):keys ns (n + 1)=if x∈keys ns n then keys ns n else keys ns n ++ [x]:=by
 show (match ns[n]? with | some x=>if x∈keys ns n then keys ns n else keys ns n ++ [x] | none=>keys ns n)=_;rw [h]
theorem Yy {ns:List Int}:∀ {n:Nat} {x:Int},x∈keys ns n ↔ ∃ i,i < n/\ns[i]?=some x
 | 0,x=>by simp [keys]
 | n + 1,x=>by
  have ih:=Yy (ns:=ns) (n:=n) (x:=x)
  have e:x∈keys ns (n + 1) ↔ x∈keys ns n\/ns[n]?=some x:=by
   cases h:ns[n]? with
   | none =>
    have:keys ns (n + 1)=keys ns n:=by
     show (match ns[n]? with | some x=>if x∈keys ns n then keys ns n else keys ns n ++ [x] | none=>keys ns n)=_;rw [h]
    rw [this]; simp
   | some y =>
    rw [Xm h];split
    ·constructor
     ·exact .inl
     ·rintro (z | z)
      ·exact z
      ·cases z; assumption
    ·rw [mem_append,mem_singleton]
     constructor
     ·rintro (z | z)
      ·exact .inl z
      ·exact .inr (by rw [z])
     ·rintro (z | z)
      ·exact .inl z
      ·exact .inr (by cases z; rfl)
  rw [e,ih];constructor
  ·rintro (⟨i,h1,h2⟩ | h)
   ·exact ⟨i,by lia,h2⟩
   ·exact ⟨n,by lia,h⟩
  ·rintro ⟨i,h1,h2⟩
   by_cases c:i=n
   ·subst c; exact .inr h2
   ·exact .inl ⟨i,by lia,h2⟩
theorem Vy (ns:List Int):∀ n,(keys ns n).Nodup
 | 0=>nodup_nil
 | n + 1=>by
  have ih:=Vy ns n
  cases h:ns[n]? with
  | none =>
   have:keys ns (n + 1)=keys ns n:=by
    show (match ns[n]? with | some x=>if x∈keys ns n then keys ns n else keys ns n ++ [x] | none=>keys ns n)=_;rw [h]
   rw [this]; exact ih
  | some y =>
   rw [Xm h];split
   ·exact ih
   ·rename_i c
    refine nodup_append.mpr ⟨ih,by simp,λa ha b hb=>?_⟩;rw [mem_singleton] at hb;subst hb;rintro rfl;exact c ha
theorem O4 (ns:List Int):∀ n,(keys ns n).length<=n
 | 0=>An _
 | n + 1=>by
  have ih:=O4 ns n
  cases h:ns[n]? with
  | none =>
   have:keys ns (n + 1)=keys ns n:=by
    show (match ns[n]? with | some x=>if x∈keys ns n then keys ns n else keys ns n ++ [x] | none=>keys ns n)=_;rw [h]
   rw [this]; lia
  | some y =>
   rw [Xm h];split
   ·lia
   ·rw [Ae,At]; lia
def Znk (h:x ∉ keys ns n):pl ns n x=[]:=by
 cases e:pl ns n x with
 | nil=>rfl
 | cons a r =>
  have:a∈pl ns n x:=by rw [e]; exact mem_cons_self
  obtain ⟨h1,h2⟩:=Xx.mp this;exact absurd (Yy.mpr ⟨a,h1,h2⟩) h
def Zbr (td:TD M ns) (n:Nat) (x:Int):(pl ns n x).length<=2:=by
 match e:pl ns n x with
 | []=>simp
 | [_]=>simp
 | [_,_]=>simp
 | a :: b :: c :: r =>
  exfalso;have nd:=Zjc ns n x;rw [e] at nd;have ha:=(Xx.mp (show a∈pl ns n x by rw [e]; simp)).2;have hb:=(Xx.mp (show b∈pl ns n x by rw [e]; simp)).2;have hc:=(Xx.mp (show c∈pl ns n x by rw [e]; simp)).2;simp only [nodup_cons,mem_cons,not_or] at nd;obtain ⟨⟨n1,n2,_⟩,⟨n3,_⟩,_⟩:=nd
  rcases td.eqv a b x ha hb with z | z
  ·exact n1 z
  ·rcases td.eqv a c x ha hc with y | y
   ·exact n2 y
   ·rw [z] at y
    cases y;exact n3 Y
def O2 {M:Lq} {ns:List Int} (td:TD M ns) (hx:x∈keys ns ns.length) :
  (∃ a,pl ns ns.length x=[a]/\ns[a]?=some x/\M[a]?=some none)\/(∃ a b,a < b/\pl ns ns.length x=[a,b]/\ns[a]?=some x/\ns[b]?=some x/\M[a]?=some (some b)/\M[b]?=some (some a)):=by
 obtain ⟨i,h1,h2⟩:=Yy.mp hx;have mi:i∈pl ns ns.length x:=Xx.mpr ⟨h1,h2⟩;have l2:=Zbr td ns.length x;have st:=Zhc ns ns.length x
 match e:pl ns ns.length x with
 | []=>rw [e] at mi; simp at mi
 | [a] =>
  obtain ⟨ga,ha⟩:=Xx.mp (show a∈pl ns ns.length x by rw [e]; simp);refine .inl ⟨a,Y,ha,?_⟩;have la:a < M.length:=by rw [<- td.len]; exact ga
  cases q:M[a]? with
  | none=>rw [List.getElem?_eq_none_iff] at q; lia
  | some o =>
   cases o with
   | none=>rfl
   | some b =>
    exfalso;have hb:ns[b]?=some x:=by rw [td.eqm a b q]; exact ha
    have mb:b∈pl ns ns.length x:=Xx.mpr ⟨(Aa hb).1,hb⟩;rw [e,mem_singleton] at mb;exact (td.inv a b q).2 mb.symm
 | [a,b] =>
  obtain ⟨ga,ha⟩:=Xx.mp (show a∈pl ns ns.length x by rw [e]; simp);obtain ⟨gb,hb⟩:=Xx.mp (show b∈pl ns ns.length x by rw [e]; simp);rw [e] at st;have im:a < b:=by simpa using st
  rcases td.eqv a b x ha hb with z | z
  ·lia
  ·exact .inr ⟨a,b,im,Y,ha,hb,z,(td.inv a b z).1⟩
 | a :: b :: c :: r=>rw [e] at l2; simp at l2
def part (M:Lq) (ns:List Int) (ks:List Int):Lq:=(List.range M.length).map λi=>match ns[i]? with
 | some x=>if x∈ks then M.getD i none else none
 | none=>none
def Xq (M:Lq) (ns ks:List Int):(part M ns ks).length=M.length:=by unfold part; simp
def Jj {M:Lq} {ns:List Int} (td:TD M ns) (h:ns[i]?=some x):(part M ns ks)[i]?=some (if x∈ks then M.getD i none else none):=by
 have li:i < M.length:=by rw [<- td.len]; exact (Aa h).1
 unfold part;rw [Ah,getElem?_range li];simp [h]
def Zjj {M:Lq} (td:TD M ns):part M ns []=List.replicate M.length none:=by
 apply ext_getElem?;intro i;by_cases li:i < M.length
 ·obtain ⟨x,hx⟩:∃ x,ns[i]?=some x:=⟨_,Ac (by rw [td.len]; exact li)⟩
  rw [Jj td hx,getElem?_replicate,if_pos li];simp
 ·rw [Ay (by rw [Xq]; lia),Ay (by simp; lia)]
def Zjk {ns:List Int} (td:TD M ns):part M ns (h:)=M:=by
 apply ext_getElem?;intro i;by_cases li:i < M.length
 ·have ln:i < ns.length:=by rw [td.len]; exact li
  obtain ⟨x,hx⟩:∃ x,ns[i]?=some x:=⟨_,Ac ln⟩;rw [Jj td hx,if_pos (Yy.mpr ⟨i,ln,hx⟩),Ad,Ac li];rfl
 ·rw [Ay (by rw [Xq]; lia),Ay (by lia)]
def Zji {M:Lq} {ns:List Int} (td:TD M ns) {a:Nat} (hp:pl ns ns.length x=[a]) (hm:M[a]?=some none):part M ns (ks ++ [x])=part M ns ks:=by
 apply ext_getElem?;intro i;by_cases li:i < M.length
 ·have ln:i < ns.length:=by rw [td.len]; exact li
  obtain ⟨y,hy⟩:∃ x,ns[i]?=some x:=⟨_,Ac ln⟩;rw [Jj td hy,Jj td hy];by_cases c:y=x
  ·subst c
   have:i∈pl ns ns.length y:=Xx.mpr ⟨ln,hy⟩;rw [hp,mem_singleton] at this;subst this;have:M.getD i none=none:=by rw [Ad,hm]; rfl
   rw [this];simp
  ·simp [c]
 ·rw [Ay (by rw [Xq]; lia),Ay (by rw [Xq]; lia)]
def Zhg {M:Lq} {ns:List Int} (td:TD M ns) (hp:pl ns ns.length x=[a,b]) (im:a < b) (ha:M[a]?=some (some b)) (hb:M[b]?=some (some a)) :
  part M ns (ks ++ [x])=((part M ns ks).set a (some b)).set b (some a):=by
 have la:a < M.length:=(Aa ha).1;have lb:b < M.length:=(Aa hb).1;have na:=(Xx.mp (show a∈pl ns ns.length x by rw [hp]; simp)).2;have nb:=(Xx.mp (show b∈pl ns ns.length x by rw [hp]; simp)).2;apply ext_getElem?;intro i;by_cases li:i < M.length
 ·have ln:i < ns.length:=by rw [td.len]; exact li
  obtain ⟨y,hy⟩:∃ x,ns[i]?=some x:=⟨_,Ac ln⟩;rw [Jj td hy];by_cases cb:i=b
  ·subst cb
   rw [nb] at hy; cases hy;rw [getElem?_set_self (by rw [length_set,Xq]; exact lb),if_pos (by simp),Ad,hb];rfl
  ·rw [getElem?_set_ne (Ne.symm cb)]
   by_cases ca:i=a
   ·subst ca
    rw [na] at hy; cases hy;rw [getElem?_set_self (by rw [Xq]; exact la),if_pos (by simp),Ad,ha];rfl
   ·rw [getElem?_set_ne (Ne.symm ca),Jj td hy]
    have:y≠x:=by
     rintro rfl;have:i∈pl ns ns.length y:=Xx.mpr ⟨ln,hy⟩;rw [hp] at this;simp at this;lia
    simp [this]
 ·rw [Ay (by rw [Xq]; lia),Ay (by rw [length_set,length_set,Xq]; lia)]
def nV (i:Nat):V:=.int (i:Int)
theorem Jb {g:Int->V}:∀ {ks:List Int},valV (ks.map λx=>((Sum.inl x:Key),g x)) (Sum.inl y)=if y∈ks then some (g y) else none
 | []=>by simp [valV]
 | k :: r=>by
  have ih:=Jb (g:=g) (y:=y) (ks:=r);unfold valV at ih ⊢;rw [map_cons,find?_cons];by_cases c:k=y
  ·subst c
   simp
  ·have:(decide ((Sum.inl k:Key)=Sum.inl y))=false:=by
    rw [decide_eq_false_iff_not];intro z;cases z;exact c Y
   simp only [this];rw [ih];have:(y∈k :: r) ↔ y∈r:=by
    rw [mem_cons]
    exact ⟨λz=>z.elim (λw=>absurd w.symm c) id,.inr⟩
   simp only [this]
def Zdz {g:Int->V} {ks:List Int} (h:y ∉ ks):putK (ks.map λx=>((Sum.inl x:Key),g x)) (Sum.inl y) v=(ks.map λx=>((Sum.inl x:Key),g x)) ++ [(Sum.inl y,v)]:=by
 unfold putK;rw [if_neg];intro z;rw [any_eq_true] at z;obtain ⟨kv,h1,h2⟩:=z;obtain ⟨x,hx,rfl⟩:=mem_map.mp h1;have:(Sum.inl x:Key)=Sum.inl y:=of_decide_eq_true h2;cases this;exact h hx
def Zlp {g:Int->V} {ks:List Int} (h:y∈ks):putK (ks.map λx=>((Sum.inl x:Key),g x)) (Sum.inl y) v=ks.map λx=>((Sum.inl x:Key),if x=y then v else g x):=by
 unfold putK;rw [if_pos]
 ·rw [map_map]
  apply map_congr_left;intro x hx;show (if (Sum.inl x:Key)=Sum.inl y then ((Sum.inl x:Key),v) else (Sum.inl x,g x))=_;by_cases c:x=y
  ·subst c; simp
  ·rw [if_neg (λz=>by cases z; exact c Y),if_neg c]
 ·rw [any_eq_true]
  exact ⟨_,mem_map.mpr ⟨y,h,Y⟩,by simp⟩
def Z6 {α:Type} {f:α->V} {l:List α} {i:Nat} {x:α} (h:l[i]?=some x):atI (l.map f) (i:Int)=some (f x):=Yz (by rw [Ah,h]; rfl)
def Ql (h:upd H p o q=none):q≠p/\H q=none:=by
 by_cases c:q=p
 ·subst c; rw [Zc] at h; cases h
 ·rw [Ze c] at h; exact ⟨c,h⟩
def after (p:Int):Int:=if p % 3=2 then p - 2 else p + 1
def before (p:Int):Int:=if p % 3=0 then p + 2 else p - 1
def mvI (left:Bool) (a b:Nat) (z:Int):Int :=
 if z=after a then (if left then before b else before a) else if z=before b then (if left then after b else after a) else if z=after b then (if left then before a else before b) else if z=before a then (if left then after a else after b) else z
def Zil (p:Nat):after p / 3=(p:Int) / 3/\after p≠p/\0<=after p:=by unfold after; split <;> lia
def Zgc (p:Nat):before p / 3=(p:Int) / 3/\before p≠p/\0<=before p:=by unfold before; split <;> lia
def mvN (left:Bool) (i j z:Nat):Nat:=(mvI left i j z).toNat
def side (p k:Nat):Nat:=p - p % 3 + (p + k) % 3
def Zlf {n:Nat} (h:p < 3 * n):side p k < 3 * n:=by unfold side; omega
def Zay (p k:Nat):side p k / 3=p / 3:=by unfold side; omega
def Xz (M:Lq) (p:Int):Bool:=decide (0<=p/\p < M.length) && (M.getD p.toNat none).isSome
def Wn (M:Lq) (a p:Int):Bool:=match M.getD a.toNat none with
 | some m=>decide (p / 3=(m:Int) / 3) && !decide (p=(m:Int))
 | none=>false
def rot {α:Type} (ws:List α) (s:Nat):List α:=ws.drop s ++ ws.take s
def W8 (M:Lq) (ws vs:List Int):List Bool:=(ws.zip vs).map λp=>Wn M p.1 p.2
def Xw (M:Lq) (ws:List Int):Bool:=!ws.isEmpty && ((ws.map (Xz M)).all id && (W8 M ws (rot ws (1 % ws.length))).all id)
def Y3 {α:Type} (ws:List α) (h:s<=ws.length):(rot ws s).length=ws.length:=by
 unfold rot;rw [Ae,length_drop,Ai];lia
def Zbi {α:Type} (ws:List α):rot ws 0=ws:=by unfold rot; simp
def Y4 {α:Type} {ws:List α} {k:Nat} (hs:s < ws.length) (hk:k < ws.length):(rot ws s)[k]?=ws[(k + s) % ws.length]?:=by
 unfold rot;by_cases c:k < ws.length - s
 ·rw [Av (by rw [length_drop]; exact c),getElem?_drop,mod_eq_of_lt (by lia),Nat.add_comm]
 ·rw [getElem?_append_right (by rw [length_drop]; lia),length_drop,getElem?_take_of_lt (by lia)]
  have:(k + s) % ws.length=k - (ws.length - s):=by
   rw [show k + s=(k - (ws.length - s)) + ws.length by lia,add_mod_right,mod_eq_of_lt (by lia)]
  rw [this]
structure Pl (M:Lq) (ws:List Nat):Prop where
 ne:ws≠[]
 has:∀ p∈ws,∃ m,M[p]?=some (some m)
 nxt:∀ (k:Nat) (a p:Nat),ws[k]?=some a->ws[(k + 1) % ws.length]?=some p->∀ m,M[a]?=some (some m)->p / 3=m / 3/\p≠m
abbrev wI (ws:List Nat):List Int:=ws.map λ(x:Nat)=>(x:Int)
def Fx {M:Lq} {p:Nat}:Xz M (p:Int)=true ↔ ∃ m,M[p]?=some (some m):=by
 unfold Xz;rw [Bool.and_eq_true,decide_eq_true_eq,Int.toNat_natCast];constructor
 ·rintro ⟨⟨_,h1⟩,h2⟩
  have h1:p < M.length:=by lia
  rw [Ad,Ac h1] at h2;obtain ⟨m,hm⟩:=Option.isSome_iff_exists.mp h2;exact ⟨m,by rw [Ac h1]; exact congrArg some hm⟩
 ·rintro ⟨m,hm⟩
  have h1:p < M.length:=(Aa hm).1;exact ⟨⟨by lia,by lia⟩,by rw [Ad,hm]; rfl⟩
def Gb {M:Lq} {a p:Nat} (h:M[a]?=some (some m)):Wn M (a:Int) (p:Int)=true ↔ p / 3=m / 3/\p≠m:=by
 unfold Wn;rw [Int.toNat_natCast,Ad,h];show (decide ((p:Int) / 3=(m:Int) / 3) && !decide ((p:Int)=(m:Int)))=true ↔ _;rw [Bool.and_eq_true,decide_eq_true_eq,Bool.not_eq_true',decide_eq_false_iff_not];lia
def Zdn {ws vs:List Int} (hl:ws.length=vs.length):(W8 M ws vs).all id=true ↔ ∀ (k:Nat) (a p:Int),ws[k]?=some a->vs[k]?=some p->Wn M a p=true:=by
 unfold W8;rw [all_eq_true];constructor
 ·intro h k a p ha hp
  refine h (Wn M a p) (mem_map.mpr ⟨(a,p),?_,Y⟩);exact Au (i:=k) (by rw [getElem?_zip_eq_some]; exact ⟨ha,hp⟩)
 ·intro h b hb
  obtain ⟨⟨a,p⟩,hm,rfl⟩:=mem_map.mp hb;obtain ⟨k,hk⟩:=getElem?_of_mem hm;rw [getElem?_zip_eq_some] at hk;exact h k a p hk.1 hk.2
def Uq:Xw M (wI ws)=true ↔ Pl M ws:=by
 have hl:(wI ws).length=ws.length:=by simp
 unfold Xw;rw [Bool.and_eq_true,Bool.and_eq_true,Bool.not_eq_true',hl];constructor
 ·rintro ⟨h0,h1,h2⟩
  have g9:ws≠[]:=by
   rintro rfl;cases h0
  have qa:0 < ws.length:=by cases ws with | nil=>exact absurd rfl g9 | cons _ _=>simp
  have hh:∀ p∈ws,∃ m,M[p]?=some (some m):=λp hp=>by
   refine Fx.mp (all_eq_true.mp h1 _ (mem_map.mpr ⟨(p:Int),mem_map.mpr ⟨p,hp,Y⟩,Y⟩))
  refine ⟨g9,hh,λk a p ha hp m hm=>?_⟩;have hs:1 % ws.length < (wI ws).length:=by rw [hl]; exact mod_lt _ qa
  have hk:k < (wI ws).length:=by rw [hl]; exact (Aa ha).1
  refine (Gb hm).mp ((Zdn (by rw [Y3 _ (Nat.le_of_lt hs)])).mp h2 k a p (by rw [Ah,ha]; rfl) ?_);rw [Y4 hs hk,hl,show (k + 1 % ws.length) % ws.length=(k + 1) % ws.length by rw [add_mod_mod],Ah,hp];rfl
 ·rintro ⟨h0,h1,h2⟩
  have qa:0 < ws.length:=by cases ws with | nil=>exact absurd rfl h0 | cons _ _=>simp
  have hs:1 % ws.length < (wI ws).length:=by rw [hl]; exact mod_lt _ qa
  refine ⟨by cases ws with | nil=>exact absurd rfl h0 | cons _ _=>rfl,?_,?_⟩
  ·rw [all_eq_true]
   intro b hb;obtain ⟨p',n9,rfl⟩:=mem_map.mp hb;obtain ⟨p,hp,rfl⟩:=mem_map.mp n9;exact Fx.mpr (h1 p hp)
  ·refine (Zdn (by rw [Y3 _ (Nat.le_of_lt hs)])).mpr λk a p ha hp=>?_
   have hk:k < (wI ws).length:=(Aa ha).1;rw [Y4 hs hk,hl,show (k + 1 % ws.length) % ws.length=(k + 1) % ws.length by rw [add_mod_mod]] at hp;rw [Ah] at ha hp
   cases ea:ws[k]? with
   | none=>rw [ea] at ha; cases ha
   | some a' =>
    cases ep:ws[(k + 1) % ws.length]? with
    | none=>rw [ep] at hp; cases hp
    | some p' =>
     rw [ea] at ha; cases ha;rw [ep] at hp; cases hp;obtain ⟨m,hm⟩:=h1 a' (Au ea);exact (Gb hm).mpr (h2 k a' p' ea ep m hm)
structure Ch (M:Lq) (row:List Nat):Prop where
 has:∀ p∈row,∃ m,M[p]?=some (some m)
 nxt:∀ (k:Nat) (a p m:Nat),row[k]?=some a->row[k + 1]?=some p->M[a]?=some (some m)->p / 3=m / 3/\p≠m
def Ch.one {M:Lq} {p:Nat} (h:M[p]?=some (some m)):Ch M [p]:=by
 refine ⟨λq hq=>?_,λk a q m' _ hq=>?_⟩
 ·rw [mem_singleton] at hq; subst hq; exact ⟨m,h⟩
 ·simp at hq
def Ch.snoc {M:Lq} {row:List Nat} {p:Nat} (h:Ch M row) (hl:row.getLast?=some a) (hm:M[a]?=some (some m)) (h1:p / 3=m / 3) (h2:p≠m) (hp:∃ q,M[p]?=some (some q)):Ch M (row ++ [p]):=by
 refine ⟨λq hq=>?_,λk b q m' hb hq ph=>?_⟩
 ·rcases mem_append.mp hq with z | z
  ·exact h.has q z
  ·rw [mem_singleton] at z; subst z; exact hp
 ·by_cases c:k + 1 < row.length
  ·rw [Av c] at hq
   rw [Av (by lia)] at hb;exact h.nxt k b q m' hb hq ph
  ·have hk:k + 1 < (row ++ [p]).length:=(Aa hq).1
   rw [Ae,At] at hk;have hk:k + 1=row.length:=by lia
   rw [getElem?_append_right (by lia),hk] at hq;have:q=p:=by simpa using hq.symm
   subst this;rw [Av (by lia)] at hb;rw [getLast?_eq_getElem?,show row.length - 1=k by lia,hb] at hl;cases hl;rw [hm] at ph;cases ph;exact ⟨h1,h2⟩
def Ch.cut {row:List Nat} {e:Nat} (h:Ch M row) (hse:s < e) (h1:row[s]?=some a) (h2:row[e]?=some a):Pl M ((row.drop s).take (e - s)):=by
 have he:e < row.length:=(Aa h2).1;have hl:((row.drop s).take (e - s)).length=e - s:=by rw [Ai,length_drop]; lia
 have gt:∀ k,k < e - s->((row.drop s).take (e - s))[k]?=row[s + k]?:=λk hk=>by rw [getElem?_take_of_lt hk,getElem?_drop]
 refine ⟨λz=>by rw [z] at hl; simp at hl; lia,λp hp=>?_,λk b p hb hp m hm=>?_⟩
 ·exact h.has p (mem_of_mem_drop (mem_of_mem_take hp))
 ·rw [hl] at hp
  have hk:k < e - s:=by have:=(Aa hb).1; rw [hl] at this; exact this
  rw [gt k hk] at hb;by_cases c:k + 1 < e - s
  ·rw [mod_eq_of_lt c,gt _ c] at hp
   exact h.nxt (s + k) b p m hb (by rw [show s + k + 1=s + (k + 1) by lia]; exact hp) hm
  ·have hk:k + 1=e - s:=by lia
   rw [hk,mod_self,gt 0 (by lia),Nat.add_zero,h1] at hp;cases hp;exact h.nxt (s + k) b a m hb (by rw [show s + k + 1=e by lia]; exact h2) hm
section
variable {α:Type}
def Zll {ws:List α} (hs:s < ws.length):rot ws s=ws ↔ ∀ k,k < ws.length->ws[(k + s) % ws.length]?=ws[k]?:=by
 constructor
 ·intro h k hk
  rw [<- Y4 hs hk,h]
 ·intro h
  apply ext_getElem?;intro k;by_cases hk:k < ws.length
  ·rw [Y4 hs hk,h k hk]
  ·rw [Ay (by rw [Y3 ws (Nat.le_of_lt hs)]; lia),Ay (by lia)]
end
end KT
namespace L2
open PySem PySem.Spec PyProof.Rows
end L2
namespace HL
open PySem PyProof.Rows HT
section
open PySem.SeqAt
open PySem.AutoSeq1 (wpAny_loadPart')
open PySem.MeetsSeq PySem.MeetsSeq2 PySem.MeetsSeq3
def Zef {us:List Value} {ns:List Int} (h:IntsAre us ns):∀ {i:Nat},i < us.length->∃ t,us[i]?=some (.int (ns.getD i 0) t):=by
 induction h with
 | nil=>intro i hi; simp at hi
 | cons n t h ih =>
  intro i hi
  cases i with
  | zero=>exact ⟨t,Y⟩
  | succ i=>obtain ⟨t',e⟩:=ih (i:=i) (by simpa using hi); exact ⟨t',e⟩
def Zl8 {a b:List Int} (h:a.length<=i\/b.length<=i):lexLt (a.drop i) (b.drop i)=decide (a.length - i < b.length - i):=by
 by_cases ha:a.length<=i
 ·rw [drop_eq_nil_of_le ha]
  by_cases hb:b.length<=i
  ·rw [drop_eq_nil_of_le hb,Ub]; exact (decide_eq_false (by omega)).symm
  ·cases e:b.drop i with
   | nil=>exact absurd (drop_eq_nil_iff.mp e) hb
   | cons c t=>rw [Jo]; exact (decide_eq_true (by omega)).symm
 ·have hb:b.length<=i:=by omega
  rw [drop_eq_nil_of_le hb]
  cases e:a.drop i with
  | nil=>exact absurd (drop_eq_nil_iff.mp e) ha
  | cons c t=>rw [Wm]; exact (decide_eq_false (by omega)).symm
def Zeo {a:List Int} (h:i < a.length):a.drop i=a.getD i 0 :: a.drop (i + 1):=by
 rw [drop_eq_getElem_cons h,Ad,Ac h]; rfl
def Zl5 (l b:Addr) (xs ys:Array Value) (n n2:Nat) (dd qu:Option Addr) (sl qf:Array (Option Value)) (ns ms:List Int) (hi:IntsAre xs.toList ns) (hj:IntsAre ys.toList ms) (k:Nat) :
  ∀ i:Nat,i<=xs.size->i<=ys.size->min xs.size ys.size - i=k->Meets (Builtin.«list.__eq__.loop» ⟨[.ref l,.ref b,rawInt i,rawInt 0],[]⟩)
   (λ_ R s=>s.heap.get? l=some { cls:=.type "list",dict:=dd,data:=.seq xs n,slots:=sl }/\s.heap.get? b=some { cls:=.type "list",dict:=qu,data:=.seq ys n2,slots:=qf }/\R (.ok (.ret (.bool (lexLt (ns.drop i) (ms.drop i))))) s):=by
 have z1:xs.size=ns.length:=by rw [<- hi.length]; simp
 have z2:ys.size=ms.length:=by rw [<- hj.length]; simp
 induction k with
 | zero =>
  intro i b1 b2 hk prog w A R s h;obtain ⟨hp,g,d,tk,os⟩:=s;obtain ⟨hl,hb,h⟩:=h;rw [Zl8 (by omega)] at h;have hv:(decide (ns.length - i < ms.length - i))=decide (xs.size < ys.size):=by
   apply decide_eq_decide.mpr
   omega
  rw [hv] at h
  wp_walk using wpAny_loadPart' hl,wpAny_loadPart' hb
  by_cases c:i < xs.size
  ·have e1:xs[((i:Nat):Int).toNat]?=some xs[i]:=by simp [c]
   have e2:ys[((i:Nat):Int).toNat]?=none:=by simp; omega
   rw [e1,e2]
   wp_walk using wpAny_loadPart' hl,wpAny_loadPart' hb
   exact h
  ·have e1:xs[((i:Nat):Int).toNat]?=none:=by simp; omega
   rw [e1]
   wp_walk using wpAny_loadPart' hl,wpAny_loadPart' hb
   exact h
 | succ k ih =>
  intro i b1 b2 hk prog w A R s h;obtain ⟨hp,g,d,tk,os⟩:=s;obtain ⟨hl,hb,h⟩:=h;have c1:i < xs.size:=by omega
  have c2:i < ys.size:=by omega
  obtain ⟨t1,q1⟩:=Zef hi (i:=i) (by simpa using c1);obtain ⟨t2,q2⟩:=Zef hj (i:=i) (by simpa using c2);have e1:xs[((i:Nat):Int).toNat]?=some (.int (ns.getD i 0) t1):=by simpa using q1
  have e2:ys[((i:Nat):Int).toNat]?=some (.int (ms.getD i 0) t2):=by simpa using q2
  have hc:((i:Int) + 1)=((i + 1:Nat):Int):=by push_cast; rfl
  rw [Zeo (a:=ns) (i:=i) (by omega),Zeo (a:=ms) (i:=i) (by omega),Qe] at h
  wp_walk using wpAny_loadPart' hl,wpAny_loadPart' hb
  rw [e1,e2];obtain ⟨ev,he,xw⟩:=Zkb A.in1 ⟨hp,g,d,tk,os⟩ (ns.getD i 0) t1 (ms.getD i 0) t2;refine Al (he prog w _ _ ?_)
  cases ev with
  | true =>
   rw [if_pos (xw.mp rfl)] at h
   wp_walk
   rw [hc];refine ⟨plainId_quiet plain_eq_loop _,codeAny_builtin entry_eq_loop ?_⟩;rw [Around.under_plainId plain_eq_loop _];exact ih (i + 1) (by omega) (by omega) (by omega) prog w A R _ ⟨hl,hb,h⟩
  | false =>
   rw [if_neg (λq=>absurd (xw.mpr q) Bool.false_ne_true)] at h
   wp_walk using wpAny_loadPart' hl,wpAny_loadPart' hb
   rw [e1,e2];have hri:=Zi8 A.in1 ⟨hp,g,d,tk,os⟩ (ns.getD i 0) t1 (ms.getD i 0) t2 prog w
   wp_walk using hri
   exact h
def list_lt (l b:Addr) (xs ys:Array Value) (n n2:Nat) (dd qu:Option Addr) (sl qf:Array (Option Value)) (ns ms:List Int) (hi:IntsAre xs.toList ns) (hj:IntsAre ys.toList ms) :
  Meets (Builtin.«list.__lt__» ⟨[.ref l,.ref b],[]⟩)
   (λ_ R s=>s.heap.get? l=some { cls:=.type "list",dict:=dd,data:=.seq xs n,slots:=sl }/\s.heap.get? b=some { cls:=.type "list",dict:=qu,data:=.seq ys n2,slots:=qf }/\R (.ok (.ret (.bool (lexLt ns ms)))) s):=by
 intro prog w A R s h;obtain ⟨hp,g,d,tk,os⟩:=s;obtain ⟨hl,hb,h⟩:=h;have f3:=AutoSeq1.sub_list_list
 wp_walk using wpAny_loadPart' hl,wpAny_loadPart' hb
 refine ⟨plainId_quiet plain_eq_loop _,codeAny_builtin entry_eq_loop ?_⟩;rw [Around.under_plainId plain_eq_loop _];exact Zl5 l b xs ys n n2 dd qu sl qf ns ms hi hj _ 0 (Az _) (Az _) Y prog w A R _ ⟨hl,hb,h⟩
end
section
variable {prog:Program} {w:World} {A:Around} {E:Value->Shared->Prop} {s:Shared}
def lt_lists {xs ys:Array Value} (hl:s.heap.IsList l xs) (hb:s.heap.IsList b ys) (hi:IntsAre xs.toList ns) (hj:IntsAre ys.toList ms)
  (hu:A.units < cLine) (h:Q (.bool (lexLt ns ms)) s):wpAny (d:) A (richCompare .Lt (.ref l) (.ref b)) Q E s:=by
 obtain ⟨⟨cls,dd,data,sl⟩,ho,hc,n,hd⟩:=id hl;obtain ⟨⟨cls2,qu,data2,qf⟩,og,ke,n2,jn⟩:=id hb;simp only at hc hd ke jn;subst hc hd ke jn;exact richCompare_meets_room (op:=.Lt) ⟨_,ho,Y⟩ ⟨_,og,Y⟩ PySem.F.slot_list_lt PySem.F.entry_list_lt (PySem.F.args_list_lt_2 _ _) (list_lt l b xs ys n n2 dd qu sl qf ns ms hi hj)
  ⟨ho,og,show Value.bool (lexLt ns ms)≠Value.notImplemented/\Q (.bool (lexLt ns ms)) s from ⟨(λx=>nomatch x),h⟩⟩ hu
end
section
variable {prog:Program} {w:World} {A:Around} {R:Result->Shared->Prop} {I:Addr} {fp wr:List Addr} {n:Nat} {P:Nat->Value->Prop} {St:Nat->Heap->Prop}
def Ob {g:Heap} (b:Addr) (o:Obj) (bB:b≠B) (e:g.get? b=some o):(g.update B f).get? b=some o:=(Heap.get?_update_other _ _ (Ne.symm bB)).trans e
def CmpIn (prog:Program) (w:World) (A:Around) (J:Heap->Prop) (P:Nat->Value->Prop) (bt:Nat->Nat->Bool):Prop :=
 ∀ i j vi vj (s:Shared) (Q:Value->Shared->Prop) (E:Value->Shared->Prop),J s.heap->P i vi->P j vj->Q (.bool (bt i j)) s->wpAny (d:) A (richCompare .Lt vi vj) Q E s
def Znw (V:Walks prog w A.in1 I fp wr n P St) (bt:Nat->Nat->Bool) (cmp:CmpIn prog w A.in1 J P bt) (B:Addr) (nB:B ∉ fp) (stay:∀ h h':Heap,J h->(∀ b o,b ∉ wr->b≠B->h.get? b=some o->h'.get? b=some o)->J h') :
  ∀ (k j:Nat) (s:Shared) (u:Value) (c:Nat),n - (j + 1)=k->j + 1<=n->St (j + 1) s.heap->J s.heap->P (argBest bt j) u->s.heap.get? B=some { cls:=.type "list",dict:=none,data:=.seq #[u,u] c,slots:=#[] } ->
  (∀ v h' tk,P (argBest bt (n - 1)) v->(∀ b o,b ∉ wr->b≠B->s.heap.get? b=some o->h'.get? b=some o)->R (.ok (.ret v)) { s with heap:=h',toks:=tk }) ->
  codeAny (d:) A (.builtin "min.loop" ⟨[.ref I,.none,.ref B],[]⟩) R s:=by
 have nW:B ∉ wr:=λz=>nB (V.sub _ z);have nm:(toString "min" ++ toString ".loop":String)="min.loop":=by decide
 intro k
 induction k with
 | zero =>
  intro j s u c ek lj st hJ pu hB out;have last:j + 1=n:=by omega
  refine codeAny_builtin F.entry_min_loop ?_; rw [Around.under_plainId F.plain_min_loop _];show wpAny _ A.in1 (seqItems? (.ref B) >>= _) _ _ s;refine Al (wpAny_seqItems hB Y ?_); show wpAny _ A.in1 (tryCatch (pyNext (.ref I)) _ >>= _) _ _ s;refine Al (wpAny_tryCatch (V.done s _ _ (last ▸ st) λg tk kp=>?_));have k7:=kp B _ nW hB;show wpAny _ A.in1 (updateSeq B (λ_=>#[]) >>= _) _ _ _;refine Al (wpAny_updateSeq k7 Y (Al (wpAny_letGo (wpAny_pure ?_))));exact out u _ tk (by rw [<- last]; exact pu) λb o bw bB e=>(Heap.get?_update_other _ _ (Ne.symm bB)).trans (kp b o bw e)
 | succ k ih =>
  intro j s u c ek lj st hJ pu hB out;have more:j + 1 < n:=by omega
  refine codeAny_builtin F.entry_min_loop ?_; rw [Around.under_plainId F.plain_min_loop _];show wpAny _ A.in1 (seqItems? (.ref B) >>= _) _ _ s;refine Al (wpAny_seqItems hB Y ?_); show wpAny _ A.in1 (tryCatch (pyNext (.ref I)) _ >>= _) _ _ s;refine Al (wpAny_tryCatch (V.item (j + 1) s _ _ more st λv g tk pv fy kp=>?_));have k7:=kp B _ nW hB;have sv:J g:=stay _ _ hJ λb o bw _ e=>kp b o bw e;show wpAny _ A.in1 (tryCatch (holding [v,v] (richCompare .Lt v u >>= _)) _ >>= _) _ _ _;refine Al (wpAny_tryCatch (wpAny_holding (Al (cmp (j + 1) (argBest bt j) v u _ _ _ sv pv pu ?_))));refine Al (wpAny_holding (wpAny_truthy_bool ?_)); refine Al (wpAny_letGo (wpAny_pure ?_))
  cases less:bt (j + 1) (argBest bt j) with
  | true =>
   simp only [if_true];refine Al (wpAny_updateSeq k7 Y (Al (wpAny_letGo ?_))); rw [nm];refine wpAny_pure ⟨plainId_quiet F.plain_min_loop _,ih (j + 1) _ v _ (by omega) more (V.frame _ _ _ fy λb bf o e=>Ob b o (λz=>nB (z ▸ bf)) e) (stay _ _ sv λb o _ bB e=>Ob b o bB e) (by simp only [argBest,less,if_true]; exact pv) (Heap.get?_update_self _ k7 Y) λv' g' u5 vh vp=>?_⟩;exact out v' g' u5 vh λb o bw bB e=>vp b o bw bB (Ob b o bB (kp b o bw e))
  | false =>
   simp only [Bool.false_eq_true,if_false];refine Al (wpAny_letGo ?_); rw [nm];refine wpAny_pure ⟨plainId_quiet F.plain_min_loop _,ih (j + 1) _ u c (by omega) more fy sv (by simp only [argBest,less,Bool.false_eq_true,if_false]; exact pu) k7 λv' g' u5 vh vp=>?_⟩;exact out v' g' u5 vh λb o bw bB e=>vp b o bw bB (kp b o bw e)
def Zhp (V:Walks prog w A.in1 I fp wr n P St) (bt:Nat->Nat->Bool) (cmp:CmpIn prog w A.in1 J P bt) (B:Addr) (nB:B ∉ fp) (stay:∀ h h':Heap,J h->(∀ b o,b ∉ wr->b≠B->h.get? b=some o->h'.get? b=some o)->J h') (hn:0 < n) {s:Shared} (st:St 0 s.heap) (hJ:J s.heap)
  (hB:s.heap.get? B=some { cls:=.type "list",dict:=none,data:=.seq #[] c,slots:=#[] })
  (out:∀ v h' tk,P (argBest bt (n - 1)) v->(∀ b o,b ∉ wr->b≠B->s.heap.get? b=some o->h'.get? b=some o)->R (.ok (.ret v)) { s with heap:=h',toks:=tk }) :
  codeAny (d:) A (.builtin "min.loop" ⟨[.ref I,.none,.ref B],[]⟩) R s:=by
 have nW:B ∉ wr:=λz=>nB (V.sub _ z);have nm:(toString "min" ++ toString ".loop":String)="min.loop":=by decide
 refine codeAny_builtin F.entry_min_loop ?_; rw [Around.under_plainId F.plain_min_loop _];show wpAny _ A.in1 (seqItems? (.ref B) >>= _) _ _ s;refine Al (wpAny_seqItems hB Y ?_); show wpAny _ A.in1 (tryCatch (pyNext (.ref I)) _ >>= _) _ _ s;refine Al (wpAny_tryCatch (V.item 0 s _ _ hn st λv g tk pv fy kp=>?_));have k7:=kp B _ nW hB;have sv:J g:=stay _ _ hJ λb o bw _ e=>kp b o bw e;show wpAny _ A.in1 (updateSeq B (λ_=>#[v,v]) >>= _) _ _ _;refine Al (wpAny_updateSeq k7 Y ?_); rw [nm];refine wpAny_pure ⟨plainId_quiet F.plain_min_loop _,Znw V bt cmp B nB stay _ 0 _ v _ Y hn (V.frame _ _ _ fy λb bf o e=>Ob b o (λz=>nB (z ▸ bf)) e) (stay _ _ sv λb o _ bB e=>Ob b o bB e) pv (Heap.get?_update_self _ k7 Y) λv' g' u5 vh vp=>?_⟩;exact out v' g' u5 vh λb o bw bB e=>vp b o bw bB (Ob b o bB (kp b o bw e))
end
section
variable {prog:Program} {w:World} {A:Around} {E:Value->Shared->Prop} {s:Shared}
def min_pair {a:Value} (h:wpAny (d:) A.in1 (pyIter (.ref s.heap.objs.size)) (λit s₂=>∃ I fp wr n P St bt J,it=.ref I/\Walks prog w A.in1 I fp wr n P St/\St 0 s₂.heap/\(∀ b∈fp,b < s₂.heap.objs.size)/\0 < n/\CmpIn prog w A.in1 J P bt /\
   J s₂.heap/\(∀ h h':Heap,J h->(∀ b o,b ∉ wr->b≠s₂.heap.objs.size->h.get? b=some o->h'.get? b=some o)->J h') /\
   ∀ v h' tk,P (argBest bt (n - 1)) v->(∀ b o,b ∉ wr->s₂.heap.get? b=some o->h'.get? b=some o)->Q v { s₂ with heap:=h',toks:=tk }) E
   { s with heap:=s.heap.push { cls:=.type "tuple",data:=.seq #[a,b] } }):wpAny (d:) A (call (.builtin "min") [a,b]) Q E s:=by
 have nm:(toString "min" ++ toString ".loop":String)="min.loop":=by decide
 refine call_function_tree F.kind_min F.plain_min F.entry_min (F.args_min2 _ _) ?_;show wpAny _ A.in1 (Builtin.Builtins.bindParams "min" ["key","default"] 0 ⟨[],[]⟩ >>= _) _ _ s;have yi:Builtin.Builtins.bindParams "min" ["key","default"] 0 ⟨[],[]⟩=pure [none,none]:=rfl;refine Al (wpAny_of_eq yi ?_); show wpAny _ A.in1 (newTuple [a,b] >>= _) _ _ s;refine Al (wpAny_newObj_type (Al (wpAny_mono h (λit s₂ q=>?_) λ_ _ z=>z)));obtain ⟨I,fp,wr,n,P,St,bt,J,rfl,V,st,lo,hn,cmp,hJ,stay,out⟩:=q;refine Al (wpAny_newObj_type ?_);have nB:s₂.heap.objs.size ∉ fp:=λz=>Nat.lt_irrefl _ (lo _ z);have sv:=stay _ _ hJ λb o _ _ e=>Ak { cls:=.type "list",data:=.seq #[] } e;rw [nm];refine wpAny_pure ⟨plainId_quiet F.plain_min_loop _,Zhp V bt cmp s₂.heap.objs.size nB stay hn (V.frame _ _ _ st λb _ o e=>Ak _ e) sv (Ap _ Y) λv g tk pv kp=>?_⟩;exact out v g tk pv λb o bw e=>kp b o bw (As (Ao e)) (Ak _ e)
end
end HL
namespace L2
open PySem PySem.Spec PyProof.Rows
section
variable {X:Cx}
def LsAt (as:List Addr) (js:Nat->List Int) (h:Heap):Prop:=∀ i a,as[i]?=some a->∃ its:List Value,h.IsList a its.toArray/\IntsAre its (js i)
def LsAt.cmp {A:Around} {as:List Addr} (hu:A.units < cLine) :
  HL.CmpIn P w A (LsAt as js) (λi v=>∃ a,as[i]?=some a/\v=.ref a) λi j=>HT.lexLt (js i) (js j):=by
 rintro i j vi vj s Q E hJ ⟨a,ea,rfl⟩ ⟨b,eb,rfl⟩ q;obtain ⟨ia,la,na⟩:=hJ i a ea;obtain ⟨ib,lb,nb⟩:=hJ j b eb;exact HL.lt_lists la lb (by simpa using na) (by simpa using nb) hu q
def LsAt.stay {as:List Addr} {h h':Heap} {no:Addr->Prop} (hJ:LsAt as js h) (pf:∀ (i:Nat) (a:Addr),as[i]?=some a->¬ no a) (k:∀ b o,¬ no b->h.get? b=some o->h'.get? b=some o):LsAt as js h':=by
 intro i a e;obtain ⟨its,⟨o,ho,hc⟩,n⟩:=hJ i a e;exact ⟨its,⟨o,k a o (pf i a e) ho,hc⟩,n⟩
def LsAt.of {s:Shared} {as:List Addr} (I:Inv X fo σ H s) (h:∀ i a,as[i]?=some a->SqL X.K H a ((js i).map V.int)):LsAt as js s.heap:=by
 intro i a e;obtain ⟨its,r,p,_⟩:=I.list (h i a e);exact ⟨its,p.isList,Qf r⟩
def LsAt.lt {as:List Addr} {h:Heap} (hJ:LsAt as js h) {i:Nat} (e:as[i]?=some a):a < h.objs.size:=by
 obtain ⟨_,⟨o,ho,_⟩,_⟩:=hJ i a e;exact Ao ho
def Ge (hc:X.calm=true) (hu:X.A.units + 64 < cLine):Yv X (.builtin "min") (λxs H Q=>∃ (a b:Addr) (ns ms:List Int),xs=[.ref a,.ref b]/\SqL X.K H a (ns.map V.int)/\SqL X.K H b (ms.map V.int) /\
  Q (.ref (if HT.lexLt ms ns=true then b else a)) H):=by
 intro fo s σ H xs us Q I r h;obtain ⟨a,b,ns,ms,rfl,ha,hb,q⟩:=h;obtain ⟨u,v,rfl,ru,rv⟩:=Zob r;cases ru;cases rv
 let as:List Addr:=[a,b]
 let js:Nat->List Int:=λi=>if i=0 then ns else ms
 have hJ:LsAt as js s.heap:=LsAt.of I λi c e=>by
  match i,e with
  | 0,e=>cases e; exact ha
  | 1,e=>cases e; exact hb
  | n + 2,e=>cases e
 have hT:(s.heap.push { cls:=.type "tuple",data:=.seq #[.ref a,.ref b] }).IsTuple s.heap.objs.size #[.ref a,.ref b]:=⟨_,Ap _ rfl,rfl,0,rfl⟩;have hsz:(s.heap.push { cls:=.type "tuple",data:=.seq #[.ref a,.ref b] }).objs.size=s.heap.objs.size + 1:=Heap.size_push ..;have W:=Walks.tuple (prog:=X.prog) (w:=X.w) (A:=X.A.in1) (show X.A.in1.handled=none from I.ok.hd hc) (s.heap.push { cls:=.type "tuple",data:=.seq #[.ref a,.ref b] }).objs.size s.heap.objs.size (by rw [hsz]; exact As (lt_succ_self _)) #[.ref a,.ref b]
 have om:∀ (i:Nat) (v:Value),(#[Value.ref a,Value.ref b]:Array Value)[i]?=some v->∃ c,as[i]?=some c/\v=.ref c:=λi v e=>by
  match i,e with
  | 0,e=>cases e; exact ⟨a,Y,Y⟩
  | 1,e=>cases e; exact ⟨b,Y,Y⟩
  | n + 2,e=>simp at e
 refine HL.min_pair (wpAny_pyIter_tuple hT ⟨_,[_,s.heap.objs.size],[_],_,λi v=>∃ c,as[i]?=some c/\v=.ref c,_,λi j=>HT.lexLt (js i) (js j),LsAt as js,Y,
  ⟨W.sub,W.frame,λi s' Q' E' hi st hQ=>W.item i s' Q' E' hi st λv h' tk e ft k=>hQ v h' tk (om i v e) ft k,W.done,W.self⟩,⟨⟨_,Ap _ rfl,rfl,rfl⟩,hT.push _⟩,?_,succ_pos 1,LsAt.cmp (by show X.A.units + 1 < cLine; lia),?_,?_,?_⟩)
 ·intro c jo
  show c < ((s.heap.push _).push _).objs.size;rw [Heap.size_push,hsz]
  rcases Ar jo with rfl | jo
  ·rw [hsz]; exact lt_succ_self _
  ·have:=Af jo
   subst this;exact lt_succ_of_lt (lt_succ_self _)
 ·exact hJ.stay (no:=λ_=>False) (λ_ _ _=>id) λc o _ e=>Ak _ (Ak _ e)
 ·intro h h' j k
  refine j.stay (no:=λc=>c∈[(s.heap.push { cls:=.type "tuple",data:=.seq #[.ref a,.ref b] }).objs.size]\/c=((s.heap.push { cls:=.type "tuple",data:=.seq #[.ref a,.ref b] }).push { cls:=.type "tuple_iterator",data:=.fields #[.ref s.heap.objs.size,.int 0 0] }).objs.size) (λi c e=>?_) (λc o n e=>k c o (λz=>n (.inl z)) (λz=>n (.inr z)) e);have l:=hJ.lt e;rw [mem_singleton,Heap.size_push,Heap.size_push,Heap.size_push];exact λz=>z.elim (λz=>As (lt_succ_of_lt l) z) λz=>As (lt_succ_of_lt (lt_succ_of_lt l)) z
 ·rintro v h' tk ⟨c,ec,rfl⟩ hk
  have I1:Inv X fo σ H { s with heap:=h',toks:=tk }:=I.kept λd o e=>hk d o (λz=>by
   have l:=Ao e
   rw [Af z,hsz] at l
   exact absurd l (Nat.not_lt_of_le (le_succ _))) (Ak _ (Ak _ e))
  have e1:c=if HT.lexLt ms ns=true then b else a:=by
   have xc:as[argBest (λi j=>HT.lexLt (js i) (js j)) 1]?=some c:=ec;have eb:argBest (λi j=>HT.lexLt (js i) (js j)) 1=if HT.lexLt ms ns=true then 1 else 0:=rfl
   rw [eb] at xc;by_cases z:HT.lexLt ms ns=true
   ·rw [if_pos z] at xc ⊢; cases xc; rfl
   ·rw [if_neg z] at xc ⊢; cases xc; rfl
  rw [e1];exact ⟨.ref _,H,I1,Y,q⟩
end
end L2
namespace HT
theorem lex_irr:∀ a:List Int,lexLt a a=false
 | []=>rfl
 | x :: a=>by rw [Qe,if_pos rfl]; exact lex_irr a
theorem Uu:∀ a b:List Int,lexLt a b=false->lexLt b a=false->a=b
 | [],[],_,_=>rfl
 | [],_ :: _,h,_=>by rw [Jo] at h; cases h
 | _ :: _,[],_,h=>by rw [Jo] at h; cases h
 | x :: a,y :: b,h1,h2=>by
  rw [Qe] at h1 h2;by_cases e:x=y
  ·subst e
   rw [if_pos rfl] at h1 h2;rw [Uu a b h1 h2]
  ·rw [if_neg e] at h1
   rw [if_neg (λz=>e z.symm)] at h2;have:=of_decide_eq_false h1;have:=of_decide_eq_false h2;lia
theorem lex_trans:∀ a b c:List Int,lexLt a b=true->lexLt b c=true->lexLt a c=true
 | [],[],_,h,_=>by rw [Ub] at h; cases h
 | [],_ :: _,[],_,h=>by rw [Wm] at h; cases h
 | [],_ :: _,_ :: _,_,_=>rfl
 | _ :: _,[],_,h,_=>by rw [Wm] at h; cases h
 | _ :: _,_ :: _,[],_,h=>by rw [Wm] at h; cases h
 | x :: a,y :: b,z :: c,h1,h2=>by
  rw [Qe] at h1 h2 ⊢;by_cases e1:x=y
  ·subst e1
   rw [if_pos rfl] at h1;by_cases e2:x=z
   ·subst e2
    rw [if_pos rfl] at h2 ⊢;exact lex_trans a b c h1 h2
   ·rw [if_neg e2] at h2 ⊢; exact h2
  ·rw [if_neg e1] at h1
   have g1:=of_decide_eq_true h1;by_cases e2:y=z
   ·subst e2
    rw [if_neg e1]; exact h1
   ·rw [if_neg e2] at h2
    have g2:=of_decide_eq_true h2;rw [if_neg (by lia)];exact decide_eq_true (by lia)
def lex_le (h1:lexLt b a=false) (h2:lexLt c b=false):lexLt c a=false:=by
 cases e:lexLt c a with
 | false=>rfl
 | true =>
  cases f:lexLt b c with
  | true=>rw [lex_trans b c a f e] at h1; cases h1
  | false =>
   have:=Uu b c f h2;subst this;rw [e] at h1;cases h1
def IsLeast (S:List Int->Prop) (a:List Int):Prop:=S a/\∀ b,S b->lexLt b a=false
def IsLeast.eq (h1:IsLeast S a) (h2:IsLeast T b) (hST:∀ x,S x ↔ T x):a=b :=
 Uu a b (h2.2 a ((hST a).mp h1.1)) (h1.2 b ((hST b).mpr h2.1))
end HT
namespace L2
open PySem PySem.Spec PyProof.Rows
section
variable {X:Cx} {fo:List (Addr × Obj)} {σ:St} {H:Hp} {s:Shared} {a:Addr} {y v:V} {u r:Value} {A:Around} {E:Value->Shared->Prop}
def Zpb {kvs:List (Key × V)} (I:Inv X fo σ H s) (e:H a=some (.dK kvs)) (l:kvs.length < sizeLine) (ry:RelV (kV k) u) (rv:RelV v r) (h:∀ s',Inv X fo σ (upd H a (.dK (putK kvs k v))) s'->Q () s') :
  wpAny (a:) A (dictSet a u r) Q E s:=by
 obtain ⟨z,hd,vs,gm,dd⟩:=Zf7 I.hok e;have hz:vs.length<=sizeLine:=by rw [<- gm.length]; exact z
 have hl:(putK kvs k v).length<=sizeLine:=by have:=Jx kvs k v; lia
 refine wpAny_dictSet_pairs (hsz:=hz) (Oc ry) dd λh' oq hs=>h _ ?_;have he:∃ q,h'.get? a=some q:=let ⟨q,_,_,hq,_⟩:=oq; ⟨q,hq⟩
 exact Og I (by rw [e]; exact True.intro) hs he (Zcl hl hd (gm.put k rv) oq)
end
def Zm5 (tk tv:TE) (D:Addr):TB:=λσ H N=>tk σ H λx H1=>tv σ H1 λv H2=>∃ kvs k,x=kV k/\H2 D=some (.dK kvs)/\kvs.length < sizeLine/\N σ (upd H2 D (.dK (putK kvs k v)))
section
variable {X:Cx}
def Zjh (hk:PE X kx tk) (hv:PE X vx tv) :
  PB X ((eval kx X.env >>= λkv=>holding [kv] (eval vx X.env) >>= λvv=>standAt p >>= λ_=>holding [kv,vv] (dictSet D kv vv)) >>= λ_=>again c) c (Zm5 tk tv D):=by
 intro fo s σ H N I h;refine Al (Al (thn (hk fo s σ H _ I h) λu s1 zz39=>?_));obtain ⟨x,H1,I1,r1,q1⟩:=zz39;refine Al (wpAny_holding (thn (hv fo s1 σ H1 _ I1 q1) λw s2 zz40=>?_));obtain ⟨v,H2,I2,r2,q2⟩:=zz40;refine Al (wpAny_standAt (wpAny_holding ?_));obtain ⟨kvs,k,rfl,hD,hl,q⟩:=q2;exact Zpb I2 hD hl r1 r2 λs3 I3=>wpAny_pure ⟨Y,σ,_,I3,q⟩
end
def Zgn (ts:List Str) (fv:List (Str × Nat)) (wi:TI) (g:TG) (tt:TT) (tb:Addr->TB):TE:=λσ H Q=>wi σ H λJ H1=>∀ D,H1 D=none ->
 Wy J g tt (tb D) (λ_ H'=>Q (.ref D) H') (blkS ts fv σ) (upd H1 D (.dK []))
section
variable {X:Cx} {ts:List Str} {fv:List (Str × Nat)} {scope:Scope} {kx vx t0 i0:Expr} {f0:List Expr} {rest:List Comprehension} {pos:Pos} {wi:TI} {g:TG} {tt:TT} {tb:Addr->TB} {ii:Env->Addr->Addr->Sem Fin}
theorem Zf8 (B:BlkOk X scope fv) (hc:X.calm=true) (hi:PI X t0 i0 wi)
  (hg:∀ C s₀ H₀ ex,PG (c:) t0 g) (ht:∀ C s₀ H₀ ex,PTs (c:) f0 tt)
  (jm:∀ (env:Env) (it D:Addr),compTurn (.DictComp kx vx (⟨t0,i0,f0,0⟩ :: rest) scope pos) 0 (.ref it) (.ref D) env=(standAt i0.pos >>= λ_=>pyNext (.ref it) >>= λr=>match r with
   | none=>pure (.done .next)
   | some v=>letOwnedTupleGo t0 (.ref it) v >>= λ_=>assign t0 env v >>= λ_ =>
    (forIn f0 true λc r=>if r=true then do let ok <- isTrue c env (eval c env); pure (ForInStep.yield ok) else pure (ForInStep.yield r)) >>= λok =>
     if ok=true then ii env it D else again (.compLoop (.DictComp kx vx (⟨t0,i0,f0,0⟩ :: rest) scope pos) 0 (.ref it) (.ref D) env)))
  (hb:∀ C s₀ H₀ ex it D,PB (c:) (ii (c:).env it D) (.compLoop (.DictComp kx vx (⟨t0,i0,f0,0⟩ :: rest) scope pos) 0 (.ref it) (.ref D) (c:).env) (tb D)) {RR:Value->Addr->Result->Shared->Prop} (I:Inv X fo σ H s) (h:Zgn ts fv wi g tt tb σ H Q)
  (hRR:∀ D C s' H',Inv X fo σ H' s'->H' C=none->X.s₀.heap.objs.size<=C->C≠X.env.locals->(∀ x c,X.env.cells.lookup x=some c->c≠C)->(∀ p∈X.pn ++ fo,p.1≠C)->(∃ m,s'.heap.Ns C m)->Q (.ref D) H'->RR (.ref D) C (.ok .next) s') :
  wpAny (a:) X.A (eval i0 X.env) (λx s₁=>wpAny (a:) X.A (pyIter x) (λit s₂=>wpAny (a:) X.A newDict (λgf s₃ =>
   wpAny (a:) X.A (newFunctionEnv scope X.env.globals (Yh X.env scope.names []) [] X.env.qual none .none (some X.env)) (λni s₄ =>
    codeAny (a:) X.A (.compStart (.DictComp kx vx (⟨t0,i0,f0,0⟩ :: rest) scope pos) 0 it gf { ni with scope:=relabel scope X.env }) (RR gf ni.locals) s₄) X.xe s₃) X.xe s₂) X.xe s₁) X.xe s:=by
 refine thn (hi fo s σ H _ I h) λv s1 h1=>thn h1 λvq s2 h2=>?_;obtain ⟨it,fp,tn,J,H2,e,I2,T,fy,f2,L⟩:=h2;subst e;have L:=L s2.heap.objs.size I2.fresh;refine wpAny_newObj_type ?_;have I3:Inv X fo σ (upd H2 s2.heap.objs.size (.dK [])) { s2 with heap:=s2.heap.push { cls:=.type "dict",data:=.dict #[] },toks:=s2.toks }:=I2.laid (a:=s2.heap.objs.size) (o:=.dK []) (t':=s2.toks) (λ_ _ q=>Ak _ q) (An _) (O9 s2.heap I2.big);have og:∀ b∈fp,∃ o,s2.heap.get? b=some o/\∀ v,o.data≠.cell v:=T.obj _ _ fy;have f3:∀ b∈fp,FpOk X fo (upd H2 s2.heap.objs.size (.dK [])) b:=λb hb=>by
  obtain ⟨o,ho,_⟩:=og b hb
  refine ⟨?_,(f2 b hb).2⟩
  rw [Ze (As (Ao ho))]
  exact (f2 b hb).1
 have gv:tn 0 (s2.heap.push { cls:=.type "dict",data:=.dict #[] }):=T.keep _ _ _ fy λb _ o e=>Ak _ e;have r6:∀ b∈fp,∃ o,(s2.heap.push { cls:=.type "dict",data:=.dict #[] }).get? b=some o:=λb hb=>let ⟨o,e,_⟩:=og b hb; ⟨o,Ak _ e⟩
 generalize hs3:({ s2 with heap:=s2.heap.push { cls:=.type "dict",data:=.dict #[] },toks:=s2.toks }:Shared)=s3 at I3;have eh:s2.heap.push { cls:=.type "dict",data:=.dict #[] }=s3.heap:=by rw [<- hs3]
 rw [eh] at gv r6;refine wpAny_newFunctionEnv B.nocell (by intro y hy; simp at hy) (λh₁ pe l6=>?_) B.kind;have hk:∀ b o,s3.heap.get? b=some o->h₁.get? b=some o:=λb o e=>l6.extBut b o (As (Ao e)) (Ak _ e);have I4:=F2 (ts:=ts) (tk:=s3.toks + ([]:List (Str × Value)).length) B I3 f3 r6 pe hk;have f4:∀ b∈fp,FpOk (Z7 X (blkN ts fv) scope s3.heap.objs.size s3 (upd H2 s2.heap.objs.size (.dK [])) fp) [] (upd H2 s2.heap.objs.size (.dK [])) b:=λb hb=>by
  obtain ⟨f0,f1,f2',f3',f4',f5'⟩:=f3 b hb
  obtain ⟨o,eo⟩:=r6 b hb
  exact ⟨f0,As (Ao eo),I4.ok.exfs b hb,.inl hb,(I4.ok.exf b hb).2,λp hp=>absurd (show p∈([]:List (Addr × Obj)) from hp) (by simp)⟩
 have km:tn 0 h₁:=T.keep _ _ _ gv λb _ o e=>hk b o e;have loop:codeAny (a:) X.A (.compLoop (.DictComp kx vx (⟨t0,i0,f0,0⟩ :: rest) scope pos) 0 (.ref it) (.ref s2.heap.objs.size) (Z7 X (blkN ts fv) scope s3.heap.objs.size s3 (upd H2 s2.heap.objs.size (.dK [])) fp).env)
   (RR (.ref s2.heap.objs.size) s3.heap.objs.size) { s3 with heap:=h₁,toks:=s3.toks + ([]:List (Str × Value)).length }:=by
  refine Uz (X:=Z7 X (blkN ts fv) scope s3.heap.objs.size s3 (upd H2 s2.heap.objs.size (.dK [])) fp) (tg:=t0) (ifs:=f0) (R:=λ_ H'=>Q (.ref s2.heap.objs.size) H') Y Y Y Y (jm _ it s2.heap.objs.size) T hc (hg _ _ _ _) (ht _ _ _ _) (hb _ _ _ _ it s2.heap.objs.size) f4 I4 km L λs' σ' H' J' q=>?_
  obtain ⟨e1,e2,e3,e4,e5,e6⟩:=Zev I3 f3 (An _) J'
  obtain ⟨m,hm,_⟩:=J'.loc
  exact hRR _ _ s' H' e1 e2 e3 e4 e5 e6 ⟨m,hm⟩ q
 exact codeAny_compStart_dict loop (T.self _ _ _ _ _ km loop)
theorem Zbo {m5:Pos} (B:BlkOk X scope fv) (hc:X.calm=true) (hN:X.N.Nodup) (wv:X.N[i]?=some y) (vz:X.env.scope.names.lookup y=some .local)
  (hsw:swapsWith (.DictComp kx vx (⟨t0,i0,f0,0⟩ :: rest) scope pos) (some (.Name y py)) m5.line X.env=pure true) (hi:PI X t0 i0 wi)
  (hg:∀ C s₀ H₀ ex,PG (c:) t0 g) (ht:∀ C s₀ H₀ ex,PTs (c:) f0 tt)
  (jm:∀ (env:Env) (it D:Addr),compTurn (.DictComp kx vx (⟨t0,i0,f0,0⟩ :: rest) scope pos) 0 (.ref it) (.ref D) env=(standAt i0.pos >>= λ_=>pyNext (.ref it) >>= λr=>match r with
   | none=>pure (.done .next)
   | some v=>letOwnedTupleGo t0 (.ref it) v >>= λ_=>assign t0 env v >>= λ_ =>
    (forIn f0 true λc r=>if r=true then do let ok <- isTrue c env (eval c env); pure (ForInStep.yield ok) else pure (ForInStep.yield r)) >>= λok =>
     if ok=true then ii env it D else again (.compLoop (.DictComp kx vx (⟨t0,i0,f0,0⟩ :: rest) scope pos) 0 (.ref it) (.ref D) env)))
  (hb:∀ C s₀ H₀ ex it D,PB (c:) (ii (c:).env it D) (.compLoop (.DictComp kx vx (⟨t0,i0,f0,0⟩ :: rest) scope pos) 0 (.ref it) (.ref D) (c:).env) (tb D))
  (hs:∀ x,foldedSetIterable i0 X.env x=pure x:=by intro _; rfl) :
  PS X (.Assign [.Name y py] (.DictComp kx vx (⟨t0,i0,f0,0⟩ :: rest) scope pos) m5) (tAsg (Zgn ts fv wi g tt tb) (Zm i)):=by
 intro fo s σ H D0 I h;rw [exec_Assign_Name_used _ _ _ _ hsw];refine Al (wpAny_standAt (Al ?_));show wpAny _ X.A (do let _ <- comprehension (.DictComp kx vx (⟨t0,i0,f0,0⟩ :: rest) scope pos) scope X.env _ newDict false (eval i0 X.env) (some (assign (.Name y py) X.env))) _ _ s;refine Al (wpAny_mono (wpAny_comprehension_free (use:=some (assign (.Name y py) X.env)) (Q:=λ_ s'=>SP X fo D0 .next s') Y hs (Q4 λy hy e=>I.ok.has y.1 (B.free y hy e)) B.kind B.names ?_) (λ_ s' hq=>wpAny_pure (wpAny_pure hq)) λ_ _ e=>e);refine Zf8 (Q:=λx H1=>Zm i x σ H1 D0.nx) (RR:=λgf C=>compPost (a:) X.A X.xe (some (assign (.Name y py) X.env)) (λ_ s'=>SP X fo D0 .next s') gf C) B hc hi hg ht jm hb I h λD C s' H' I' e2 e3 e4 e5 e6 hm q=>?_;obtain ⟨m,hm⟩:=hm;show wpAny _ X.A (assign (.Name y py) X.env (.ref D)) _ _ _;refine wpAny_assign_Name (Ue I' hN wv (.inl vz) (show RelV (.ref D) (.ref D) from Y) (λnz I'' jy=>?_) (.inr vz));obtain ⟨a,l6,ha⟩:=jy;have haC:C≠a:=by
  rcases ha with e | e
  ·rw [e]; exact e4
  ·exact λz=>e5 y a e z.symm
 exact ⟨m,hm.sameBut l6 haC,λh' g7=>⟨_,H',I''.apart g7 e2 e3 e4 e5 e6,q⟩⟩
end
section
variable {X:Cx}
def Zou (K:W.Frag):V->V->Hp->VK->Prop:=λo i H Q=>∃ p xs,∃ (k:Nat) (v:V),o=.ref p/\i=.int k/\SqL K H p xs/\xs[k]?=some v/\Q v H
def Zch:PGet X (Zou X.K):=by
 intro fo s σ H o i ov iv Q I ro ri h;obtain ⟨p,xs,k,v,rfl,rfl,hq,he,q⟩:=h;cases ro;obtain ⟨t,rfl⟩:=ri;obtain ⟨its,r,pl,hz⟩:=I.list hq;obtain ⟨w,ew,jp⟩:=r.get he;have hl:=r.length;have hk:k < its.length:=(Aa ew).1;have hn:=Vg;exact wpAny_getItem_list pl.isList (by lia) (by lia) (by simpa using ew) ⟨v,H,I,jp,q⟩
end
section
variable {X:Cx} {fo:List (Addr × Obj)} {σ:St} {H:Hp} {s:Shared} {a:Addr}
def Inv.thaw (I:Inv X fo σ H s) (e:H a=some (.frz ob (.dK kvs))) (h0:∀ o u,X.H₀ a≠some (.frz o u)):Inv X fo σ (upd H a (.dK kvs)) s:=by
 have lu:∀ c y,H c=some (.own y)->c≠a:=λc y r z=>by subst z; rw [r] at e; cases e
 have kh:∀ c xs,H c=some (.tup xs)->c≠a:=λc xs r z=>by subst z; rw [r] at e; cases e
 have p7:∀ c,H c=none->c≠a:=λc r z=>by subst z; rw [r] at e; cases e
 have hok:HOk X.prog X.w (upd H a (.dK kvs)) s.heap:=λb v q=>by
  have st:∀ c w',Z3 X.prog X.w H s.heap c w'->Z3 X.prog X.w (upd H a (.dK kvs)) s.heap c w':=λc w' x=>x.stay (λ_ _ _ q=>q) (λd r=>by rw [Ze (lu d c r)]; exact r) λd xs r=>by rw [Ze (kh d xs r)]; exact r
  by_cases hb:b=a
  ·subst hb
   rw [Zc] at q;cases q;exact st _ _ (I.hok _ _ e).2
  ·rw [Ze hb] at q
   exact st _ _ (I.hok b v q)
 refine ⟨I.ok,I.os,I.bare,⟨I.base.keep,I.base.slot,λb o q n hx=>?_,I.base.there,λb xs q=>?_,λb o u q=>?_,λb ps q=>?_⟩,I.loc,I.cell,?_,λx c q=>?_,λp hp=>?_,hok,I.len⟩
 ·have:=I.base.free b o q n hx
  rw [Ze (p7 b this)]; exact this
 ·have:=I.base.tups b xs q
  rw [Ze (kh b xs this)]; exact this
 ·have:=I.base.frzs b o u q
  rw [Ze (λz=>by subst z; exact h0 _ _ q)]; exact this
 ·obtain ⟨more,z⟩:=I.base.tbls b ps q
  exact ⟨more,by rw [Ze (λw=>by subst w; rw [z] at e; cases e)]; exact z⟩
 ·have:=I.free
  rw [Ze (p7 _ this)]; exact this
 ·have:=I.freeC x c q
  rw [Ze (p7 _ this)]; exact this
 ·obtain ⟨q1,q2,q3⟩:=I.pin p hp
  exact ⟨q1,by rw [Ze (p7 _ q2)]; exact q2,q3⟩
end
def Zoc (H0:Hp) (t:TS):TS:=λD σ H=>t { D with nx:=λσ' H'=>∃ (a:Addr) (o:Obj) (kvs:List (Key × V)),H' a=some (.frz o (.dK kvs))/\(∀ o u,H0 a≠some (.frz o u))/\D.nx σ' (upd H' a (.dK kvs)) } σ H
def Gv {X:Cx} {st:Stmt} {t:TS} (h:PS X st t):PS X st (Zoc X.H₀ t):=by
 intro fo s σ H D I hw;refine wpAny_mono (h fo s σ H _ I hw) (λf s' q=>?_) λ_ _ e=>e
 cases f with
 | next =>
  obtain ⟨σ',H',I',a,o,kvs,e,h0,q⟩:=q;exact ⟨σ',_,I'.thaw e h0,q⟩
 | ret v=>exact q
 | brk=>exact q
 | cont=>exact q
end L2
namespace KT
open PySem L2
def aftN (i:Nat):Nat:=if i % 3=2 then i - 2 else i + 1
def nxC (M:Lq) (c:Nat):Option Nat:=(M[aftN c]?).join
abbrev InvM (M:Lq):Prop:=∀ (i j:Nat),M[i]?=some (some j)->M[j]?=some (some i)/\i≠j
structure Fan (M:Lq) (c:Nat) (cs:List Nat):Prop where
 head:cs[0]?=some c
 chain:∀ (i a b:Nat),cs[i]?=some a->cs[i + 1]?=some b->nxC M a=some b
 nodup:cs.Nodup
 lt:∀ a∈cs,a < M.length
structure FanEnd (M:Lq) (c:Nat) (cs:List Nat) (cl:Bool):Prop extends Fan M c cs where
 last:∃ l,cs[cs.length - 1]?=some l/\nxC M l=if cl=true then some c else none
end KT
namespace L2
open PySem PySem.Spec PyProof.Rows
section
variable {P:Program} {w:World} {K:W.Frag} {mg:Str->Option Value} {base:Heap} {x qual:Str} {st:Stmt} {f:Addr} {fd:FuncData} {N ps:List Str} {k:Nat} {sp:Sp}
def Fun.aR (F:Fun K x qual st f fd) (S:FnScope N ps (Zh st))
  (il:∀ (gx:Value) (A:Around) (outer:List Env) (s:Shared) (H:Hp) (vs:List V) (Q:VK) (E:XK),Room k (A.deeper (envOfC qual (Zh st) s.heap.objs.size f gx))->sp vs H Q E ->
   ∃ t,PSs (cxOf (CXr P w) P w K mg base N qual (Zh st) f gx A outer s H E).nox (Yt st) t/\t { nx:=λ_ H'=>Q .non H',rt:=Q } (start N vs) H)
  (len:∀ vs H Q E,sp vs H Q E->vs.length=ps.length:=by (intro vs H Q E h; (repeat obtain ⟨_,h⟩:=h); subst_vars; rfl)):FnOk P w K mg base (CXr P w) (k + 1) f fd ps sp:=F.okR S len il
def Fun.aX (F:Fun K x qual st f fd) (S:FnScope N ps (Zh st))
  (il:∀ (gx:Value) (A:Around) (outer:List Env) (s:Shared) (H:Hp) (vs:List V) (Q:VK) (E:XK),Room k (A.deeper (envOfC qual (Zh st) s.heap.objs.size f gx))->sp vs H Q E ->
   ∃ t,PSsX true (cxOf (CXr P w) P w K mg base N qual (Zh st) f gx A outer s H E).nox (Yt st) t/\t { nx:=λ_ H'=>Q .non H',rt:=Q } (λcls _ H'=>E cls none H') (start N vs) H)
  (len:∀ vs H Q E,sp vs H Q E->vs.length=ps.length:=by (intro vs H Q E h; (repeat obtain ⟨_,h⟩:=h); subst_vars; rfl)):FnOk P w K mg base (CXr P w) (k + 1) f fd ps sp:=F.okX S len il
end
end L2
namespace L2
open PySem PySem.Spec PyProof.Rows PySem.SeqAt
mutual
inductive DV (K:W.Frag) (H:Hp):V->PyData->Prop
 | non:DV K H .non .none
 | bl (b:Bool):DV K H (.bl b) (.bool b)
 | int (i:Int):DV K H (.int i) (.int i)
 | str (x:Str):DV K H (.str x) (.str x)
 | lst {a:Addr} {xs:List V} {ds:List PyData}:SqL K H a xs->DVs K H xs ds->DV K H (.ref a) (.list ds)
 | tup {a:Addr} {xs:List V} {ds:List PyData}:SqT K H a xs->DVs K H xs ds->DV K H (.ref a) (.tuple ds)
inductive DVs (K:W.Frag) (H:Hp):List V->List PyData->Prop
 | nil:DVs K H [] []
 | cons {x:V} {xs:List V} {d:PyData} {ds:List PyData}:DV K H x d->DVs K H xs ds->DVs K H (x :: xs) (d :: ds)
end
section
variable {X:Cx} {fo:List (Addr × Obj)} {σ:St} {H:Hp} {s:Shared}
mutual
theorem DV.reads (I:Inv X fo σ H s):∀ {x:V} {d:PyData} {u:Value},DV X.K H x d->RelV x u->∃ as,Reads s.heap u d as
 | _,_,_,.non,r=>by cases r; exact ⟨_,.none⟩
 | _,_,_,.bl b,r=>by cases r; exact ⟨_,.bool b⟩
 | _,_,_,.int i,r=>by obtain ⟨t,rfl⟩:=r; exact ⟨_,.int i t⟩
 | _,_,_,.str x,r=>by obtain ⟨t,rfl⟩:=r; exact ⟨_,.str x t⟩
 | _,_,_,.lst h hs,r=>by
  cases r;obtain ⟨its,rv,pl,_⟩:=I.list h;obtain ⟨as,ra⟩:=DVs.reads I hs rv;obtain ⟨o,ho,hc,n,hd⟩:=pl.isList;exact ⟨_,.list ho hc hd (by simpa using ra)⟩
 | _,_,_,.tup h hs,r=>by
  cases r;obtain ⟨its,rv,pt,_⟩:=I.tuple h;obtain ⟨as,ra⟩:=DVs.reads I hs rv;obtain ⟨o,ho,hc,n,hd⟩:=pt;exact ⟨_,.tuple ho hc hd (by simpa using ra)⟩
theorem DVs.reads (I:Inv X fo σ H s):∀ {xs:List V} {ds:List PyData} {us:List Value},DVs X.K H xs ds->Vals xs us->∃ as,ReadsAll s.heap us ds as
 | _,_,_,.nil,r=>by cases r; exact ⟨_,.nil⟩
 | _,_,_,.cons h hs,r=>by
  cases r with
  | cons r1 r2 =>
   obtain ⟨as,ra⟩:=DV.reads I h r1;obtain ⟨bs,rb⟩:=DVs.reads I hs r2;exact ⟨_,.cons ra rb⟩
end
end
section
variable {X:Cx}
def rNeD (K:W.Frag):R2:=λx y H Q=>∃ d e,DV K H x d/\DV K H y e/\shaped d=true/\shaped e=true/\noMix d e=true/\Q (.bl (!same d e)) H
def Znr (hu:X.A.units + 64 < cLine):OpR X (compareOp .NotEq) (rNeD X.K):=by
 intro fo s σ H x y v u Q I rx ry h;obtain ⟨d,e,hx,hy,sd,se,hm,q⟩:=h;obtain ⟨_,r1⟩:=hx.reads I rx;obtain ⟨_,r2⟩:=hy.reads I ry;exact ne_dataH_same r1 r2 sd se hu hm ⟨.bl _,H,I,Y,q⟩
end
theorem DVs.ints {K:W.Frag} {H:Hp}:∀ ns:List Int,DVs K H (ns.map V.int) (ns.map PyData.int)
 | []=>.nil
 | n :: r=>.cons (.int n) (DVs.ints r)
end L2
namespace KT
open PySem L2
structure Orb (R:Nat->Nat->Prop) (p:Nat) (os:List Nat):Prop where
 head:os[0]?=some p
 chain:∀ (i a b:Nat),os[i]?=some a->os[i + 1]?=some b->R a b
 nodup:os.Nodup
structure OrbEnd (R:Nat->Nat->Prop) (p:Nat) (os:List Nat):Prop extends Orb R p os where
 last:∃ l,os[os.length - 1]?=some l/\R l p
section
variable {R:Nat->Nat->Prop}
def Orb.pos {p:Nat} {os:List Nat} (h:Orb R p os):0 < os.length:=(Aa h.head).1
def Orb.one (p:Nat):Orb R p [p]:=⟨rfl,λi a b _ h2=>by simp at h2,by simp⟩
def Orb.new (inj:∀ a b x,R a x->R b x->a=b) {p l f:Nat} {os:List Nat} (h:Orb R p os) (hl:os[os.length - 1]?=some l) (hf:R l f) (hc:f≠p):f ∉ os:=by
 intro hm;obtain ⟨i,hi,e⟩:=mem_iff_getElem.mp hm;have e':os[i]?=some f:=by rw [Ac hi,e]
 cases i with
 | zero=>rw [h.head] at e'; cases e'; exact hc Y
 | succ i =>
  have ja:i < os.length:=by lia
  have ea:=Ac ja;have e2:=inj _ _ _ (h.chain i _ f ea e') hf;have e3:os[i]=os[os.length - 1]:=by
   have:=(Aa hl).2
   rw [e2,this]
  have:=(getElem_inj h.nodup).mp e3;lia
def Orb.snoc {os:List Nat} (h:Orb R p os) (hl:os[os.length - 1]?=some l) (hf:R l f) (hn:f ∉ os):Orb R p (os ++ [f]):=by
 have hp:=h.pos;refine ⟨by rw [Av hp]; exact h.head,λi a b ha hb=>?_,?_⟩
 ·by_cases z:i + 1 < os.length
  ·rw [Av z] at hb
   rw [Av (by lia)] at ha;exact h.chain i a b ha hb
  ·have hi:=(Aa hb).1
   rw [Ae,At] at hi;have hi:i=os.length - 1:=by lia
   subst hi;rw [Av (by lia),hl] at ha;cases ha;rw [getElem?_append_right (by lia),show os.length - 1 + 1 - os.length=0 by lia] at hb;cases hb;exact hf
 ·rw [nodup_append]
  refine ⟨h.nodup,by simp,λa ha b hb e=>?_⟩;rw [mem_singleton] at hb;subst hb e;exact hn ha
def OrbEnd.same (fn:∀ a x y,R a x->R a y->x=y) {p:Nat} {os lz:List Nat} (h:OrbEnd R p os) (h':OrbEnd R p lz):os=lz:=by
 have step:∀ {os lz:List Nat},OrbEnd R p os->OrbEnd R p lz->∀ (i x:Nat),os[i]?=some x->lz[i]?=some x:=λ{os lz} h h' i=>by
  induction i with
  | zero=>intro x hx; rw [h.head] at hx; rw [h'.head]; exact hx
  | succ i ih =>
   intro x hx;have hi:i < os.length:=by have:=(Aa hx).1; lia
   have ea:=Ac hi;have eb:=ih _ ea;have e1:=h.chain i _ x ea hx
   cases e:lz[i + 1]? with
   | some y=>rw [fn _ _ _ e1 (h'.chain i _ y eb e)]
   | none =>
    exfalso;have l1:lz.length<=i + 1:=List.getElem?_eq_none_iff.mp e;have l2:=(Aa eb).1;obtain ⟨l,hl,hn⟩:=h'.last;rw [show lz.length - 1=i by lia,eb] at hl;cases hl;have ex:=fn _ _ _ e1 hn;subst ex;have e3:os[0]'(by lia)=os[i + 1]'((Aa hx).1):=by
     have q1:=(Aa h.head).2
     have q2:=(Aa hx).2
     rw [q1,q2]
    have:=(getElem_inj h.nodup).mp e3;lia
 apply ext_getElem?;intro i
 cases e1:os[i]? with
 | some x=>exact (step h h' i x e1).symm
 | none =>
  cases e2:lz[i]? with
  | none=>rfl
  | some y=>rw [step h' h i y e2] at e1; cases e1
def OrbEnd.before (inj:∀ a b x,R a x->R b x->a=b) {p a b:Nat} {os:List Nat} (h:OrbEnd R p os) (hb:b∈os) (im:R a b):a∈os:=by
 obtain ⟨i,hi,e⟩:=mem_iff_getElem.mp hb;have e':os[i]?=some b:=by rw [Ac hi,e]
 cases i with
 | zero =>
  rw [h.head] at e';cases e';obtain ⟨l,hl,hn⟩:=h.last;rw [inj _ _ _ im hn];exact Au hl
 | succ i =>
  have ea:=Ac (show i < os.length by lia);rw [inj _ _ _ im (h.chain i _ b ea e')];exact Au ea
end
def mtN (M:Lq) (h:Nat):Nat:=(M.getD h none).getD 0
def Zne {ws:List Nat} {j i:Nat} (hj:j < ws.length) (hi:i < ws.length):(rot ws (j + 1))[i]?=ws[(i + (j + 1)) % ws.length]?:=by
 by_cases z:j + 1 < ws.length
 ·exact Y4 z hi
 ·have e:j + 1=ws.length:=by lia
  rw [e,add_mod_right,mod_eq_of_lt hi];unfold rot;rw [drop_length,take_length,nil_append]
end KT
namespace L2
open PySem PySem.Spec PyProof.Rows PySem.SeqAt
section
variable {X:Cx}
def Gf:Yv X (.type "dict") (λxs H Q=>∃ (d:Addr) (kvs:List (Key × V)),xs=[.ref d]/\Rd H d (.dK kvs)/\∀ p,H p=none->Q (.ref p) (upd H p (.dK kvs))):=by
 intro fo s σ H xs us Q I r h;obtain ⟨d,kvs,rfl,hd,q⟩:=h;obtain ⟨u,rfl,ru⟩:=Xr r;obtain rfl:u=Value.ref d:=ru;obtain ⟨z,jc,vs,gm,dd⟩:=Qh I.hok hd;have hl:vs.length<=sizeLine:=by rw [<- gm.length]; exact z
 refine kt_call_dict jc dd hl λh' hD l6=>?_;have hk:∀ b u,s.heap.get? b=some u->h'.get? b=some u:=λb u e=>(l6.2 b (As (Ao e))).trans (Ak _ e);refine ⟨.ref s.heap.objs.size,_,I.laid (a:=s.heap.objs.size) (o:=.dK kvs) (t':=s.toks) hk (An _) ⟨z,?_,vs,gm,hD⟩,Y,q _ (I.hok.fresh (An _))⟩;exact (O9 (P:=X.prog) (w:=X.w) (H:=H) s.heap I.big).2.1
def Zij (bs:List Bool):((List.range bs.length).any λi=>bs.getD i true)=bs.any id:=by
 rw [Bool.eq_iff_iff,any_eq_true,any_eq_true];constructor
 ·rintro ⟨i,hi,h⟩
  have hi:=mem_range.mp hi;rw [Ad,Ac hi] at h;exact ⟨_,getElem_mem hi,h⟩
 ·rintro ⟨b,hb,h⟩
  obtain ⟨i,hi,rfl⟩:=mem_iff_getElem.mp hb;exact ⟨i,mem_range.mpr hi,by rw [Ad,Ac hi]; exact h⟩
def F1 (hc:X.calm=true):Yv X (.builtin "any") (λxs H Q=>∃ p bs,xs=[.ref p]/\SqL X.K H p (List.map V.bl bs)/\Q (.bl (bs.any id)) H):=by
 intro fo s σ H xs us Q I r h;obtain ⟨p,bs,rfl,hq,q⟩:=h;obtain ⟨u,rfl,ru⟩:=Xr r;cases ru;obtain ⟨its,rv,pl,hz⟩:=I.list hq;have ne:p≠s.heap.objs.size:=by obtain ⟨o,ho,_⟩:=pl.isList; exact As (Ao ho)
 refine call_any_walk (wpAny_pyIter_list pl.isList ⟨s.heap.objs.size,_,_,_,_,_,λi=>bs.getD i true,Y,Walks.list (A:=X.A.in1) (show X.A.in1.handled=none from I.ok.hd hc) s.heap.objs.size p ne its.toArray,⟨⟨_,Ap _ Y,Y,Y⟩,pl.isList.push _⟩,?_,?_⟩)
 ·intro i v s' Q' E' hv iu
  have hv:its[i]?=some v:=by simpa using hv
  have fw:=rv.length;rw [Ab] at fw;have hi:i < bs.length:=by have:=(Aa hv).1; lia
  obtain ⟨u,hu,ru⟩:=rv.get (show (bs.map V.bl)[i]?=some (V.bl bs[i]) by rw [Ah,Ac hi]; rfl);rw [hv] at hu;cases hu;cases ru;have e:bs.getD i true=bs[i]:=by rw [Ad,Ac hi]; rfl
  refine wpAny_truthy_bool ?_;have iu:Q' (bs.getD i true) s':=iu;rw [e] at iu;exact iu
 ·intro h' tk hk
  have I1:Inv X fo σ H { s with heap:=h',toks:=tk }:=I.kept λb o e=>hk b o (λz=>absurd (Ao e) (by rw [Af z]; exact Nat.lt_irrefl _)) (Ak _ e);have fw:its.toArray.size=bs.length:=by have:=rv.length; rw [Ab] at this; simp; lia
  refine ⟨.bl (bs.any id),H,I1,?_,q⟩;show Value.bool _=_;rw [fw,Zij]
theorem Gi (ns:List Int):∀ k,k<=ns.length->preSum (λi=>ns.getD i 0) k=(ns.take k).sum
 | 0,_=>by simp [preSum]
 | k + 1,h=>by
  rw [preSum,Gi ns k (by lia),Aw,Ac (by lia),sum_append,Ad,Ac (by lia)];simp
def O5 {fo:List (Addr × Obj)} {σ:St} {H:Hp} {s:Shared} {ns:List Int} {its:List Value} (rv:Vals (ns.map V.int) its):∀ (i:Nat) (v:Value),its.toArray[i]?=some v->∃ t,v=.int (ns.getD i 0) t:=λi v hv=>by
 have hv:its[i]?=some v:=by simpa using hv
 have fw:=rv.length;rw [Ab] at fw;have hi:i < ns.length:=by have:=(Aa hv).1; lia
 obtain ⟨u,hu,ru⟩:=rv.get (show (ns.map V.int)[i]?=some (V.int ns[i]) by rw [Ah,Ac hi]; rfl);rw [hv] at hu;cases hu;obtain ⟨t,rfl⟩:=ru;exact ⟨t,by rw [Ad,Ac hi]; rfl⟩
def Zid (hc:X.calm=true):Yv X (.builtin "sum") (λxs H Q=>∃ (p:Addr) (ns:List Int),xs=[.ref p]/\SqL X.K H p (ns.map V.int)/\Q (.int ns.sum) H):=by
 intro fo s σ H xs us Q I r h;obtain ⟨p,ns,rfl,hq,q⟩:=h;obtain ⟨u,rfl,ru⟩:=Xr r;cases ru;obtain ⟨its,rv,pl,hz⟩:=I.list hq;have lt:p < s.heap.objs.size:=by obtain ⟨o,ho,_⟩:=pl.isList; exact Ao ho
 have fw:its.toArray.size=ns.length:=by have:=rv.length; rw [Ab] at this; simp; lia
 refine call_sum_walkG (wpAny_pyIter_list pl.isList ⟨s.heap.objs.size,_,_,_,_,_,λi=>ns.getD i 0,Y,Walks.list (A:=X.A.in1) (show X.A.in1.handled=none from I.ok.hd hc) s.heap.objs.size p (As lt) its.toArray,⟨⟨_,Ap _ Y,Y,Y⟩,pl.isList.push _⟩,?_,O5 (fo:=fo) (σ:=σ) (H:=H) (s:=s) rv,?_⟩)
 ·intro b hb
  show b < (s.heap.push _).objs.size;rw [Heap.size_push]
  rcases Ar hb with rfl | hb
  ·exact lt_succ_self _
  ·rw [Af hb]; exact lt_succ_of_lt lt
 ·intro h' tk t' hk
  have I1:Inv X fo σ H { s with heap:=h',toks:=tk }:=I.kept λb o e=>hk b o (λz=>absurd (Ao e) (by rw [Af z]; exact Nat.lt_irrefl _)) (Ak _ e);refine ⟨.int ns.sum,H,I1,⟨t',?_⟩,q⟩;rw [fw,Gi ns _ (An _),take_length]
def Zie (hc:X.calm=true):Yv X (.builtin "max") (λxs H Q=>∃ (p:Addr) (ns:List Int),xs=[.ref p]/\SqL X.K H p (ns.map V.int)/\0 < ns.length/\∀ m,m∈ns->(∀ a∈ns,a<=m)->Q (.int m) H):=by
 intro fo s σ H xs us Q I r h;obtain ⟨p,ns,rfl,hq,hn,q⟩:=h;obtain ⟨u,rfl,ru⟩:=Xr r;cases ru;obtain ⟨its,rv,pl,hz⟩:=I.list hq;have lt:p < s.heap.objs.size:=by obtain ⟨o,ho,_⟩:=pl.isList; exact Ao ho
 have fw:its.toArray.size=ns.length:=by have:=rv.length; rw [Ab] at this; simp; lia
 have W:=O5 (fo:=fo) (σ:=σ) (H:=H) (s:=s) rv;refine call_max_walk (wpAny_pyIter_list pl.isList ⟨s.heap.objs.size,_,_,_,_,_,_,Y,Walks.list (A:=X.A.in1) (show X.A.in1.handled=none from I.ok.hd hc) s.heap.objs.size p (As lt) its.toArray,⟨⟨_,Ap _ Y,Y,Y⟩,pl.isList.push _⟩,?_,by rw [fw]; exact hn,CmpOf.ints_gt (λi=>ns.getD i 0) W,?_⟩)
 ·intro b hb
  show b < (s.heap.push _).objs.size;rw [Heap.size_push]
  rcases Ar hb with rfl | hb
  ·exact lt_succ_self _
  ·rw [Af hb]; exact lt_succ_of_lt lt
 ·intro v h' tk hP hk
  have I1:Inv X fo σ H { s with heap:=h',toks:=tk }:=I.kept λb o e=>hk b o (λz=>absurd (Ao e) (by rw [Af z]; exact Nat.lt_irrefl _)) (Ak _ e);rw [fw] at hP;obtain ⟨a1,a2⟩:=argBest_gt (λi=>ns.getD i 0) (ns.length - 1);obtain ⟨t,e⟩:=W _ _ hP;generalize argBest (λi j=>decide (ns.getD i 0 > ns.getD j 0)) (ns.length - 1)=k at a1 a2 e;have i9:k < ns.length:=by lia
  have ek:ns.getD k 0=ns[k]:=by rw [Ad,Ac i9]; rfl
  refine ⟨.int (ns.getD k 0),H,I1,⟨t,e⟩,q _ (by rw [ek]; exact getElem_mem i9) λa ha=>?_⟩;obtain ⟨j,hj,rfl⟩:=mem_iff_getElem.mp ha;have:=a2 j (by lia);have ej:ns.getD j 0=ns[j]:=by rw [Ad,Ac hj]; rfl
  show ns[j]<=ns.getD k 0;rw [<- ej]; exact this
def Gd (K:W.Frag) (hc:X.calm=true) (h:X.K=K:=by rfl):Yv X (.builtin "sum") (λxs H Q=>∃ (p:Addr) (ns:List Int),xs=[.ref p]/\SqL K H p (ns.map V.int)/\Q (.int ns.sum) H):=h ▸ Zid hc
def Zgb (K:W.Frag) (hc:X.calm=true) (h:X.K=K:=by rfl):Yv X (.builtin "max") (λxs H Q=>∃ (p:Addr) (ns:List Int),xs=[.ref p]/\SqL K H p (ns.map V.int)/\0 < ns.length/\∀ m,m∈ns->(∀ a∈ns,a<=m)->Q (.int m) H):=h ▸ Zie hc
end
end L2
namespace L2
open PySem PySem.Spec PyProof.Rows
section
variable {X:Cx} {l:Expr} {tl:TE}
theorem Zhv:∀ {kvs:List (Key × V)} {vs:List (Key × Value)} {ns:List Int},KV kvs vs->kvs.map (·.2)=ns.map V.int->∀ (i:Nat) (k:Key) (v:Value),vs[i]?=some (k,v)->∃ t,v=.int (ns.getD i 0) t
 | _,_,ns,.nil,_,i,k,v,h=>by simp at h
 | _,_,ns,.cons (a:=a) (b:=b) r rs,hm,i,k,v,h=>by
  cases ns with
  | nil=>cases hm
  | cons n ns =>
   rw [map_cons,map_cons] at hm
   injection hm with h1 h2
   cases i with
   | zero =>
    have h:b=(k,v):=by simpa using h
    have r2:=r.2;rw [h1,h] at r2;obtain ⟨t,e⟩:=r2;exact ⟨t,e⟩
   | succ i =>
    obtain ⟨t,e⟩:=Zhv rs h2 i k v (by simpa using h);exact ⟨t,by simpa using e⟩
def Zoe (tl:TE):TE:=λσ H Q=>tl σ H λv H1=>∃ (d:Addr) (kvs:List (Key × V)) (ns:List Int),v=.ref d/\Rd H1 d (.dK kvs)/\kvs.map (·.2)=ns.map V.int/\Q (.int ns.sum) H1
def Zff {gk p:Pos} (hc:X.calm=true) (hl:PE X l tl) (m:M0 X l "values" gk gh) (hg:Gl X "sum") (hm:X.mg "sum"=none):PE X (.Call (.Name "sum" p) [.Call (.Attribute l "values" gk) [] [] gh] [] pos) (Zoe tl):=by
 intro fo s σ H Q I h;refine wpAny_Call_Name_kw (Xb I hg hm PyProof.Rows.boot_sum ?_ (by decide) (by decide));refine PyProof.Rows.callWith_builtin1 ?_ Y Y;show wpAny _ _ (spliced ((false,eval (.Call (.Attribute l "values" gk) [] [] gh) X.env) :: [])) _ _ s;refine Calls.spliced_cons ?_;refine wpAny_Call_method m.base m.few m.line PySem.F.plainAttrs_dict PySem.F.slot_dict_values PySem.F.type_dict_values (thn (hl fo s σ H _ I h) λv s1 gc=>?_);obtain ⟨x,H1,I1,r1,q1⟩:=gc;obtain ⟨a,kvs,ns,e,hd,pe,q⟩:=q1;subst e;cases r1;obtain ⟨z,jc,vs,gm,dd⟩:=Qh I1.hok hd;obtain ⟨ep,da⟩:=dd.dictAt;obtain ⟨t1,t2,_⟩:=K8 I1 (.inl ⟨kvs,hd⟩);refine ⟨t1,t2,?_⟩;refine Calls.callWith_builtin Y (PyProof.Rows.evalArgs_empty ?_);refine call_meetsIn PySem.F.slot_dict_values da.dictOf.typeIs PySem.F.entry_dict_values (PySem.F.args_dict_values_1 _) (meets_dict_values (Z4 X.prog X.w) a jc) ⟨⟨vs,da.dictOf⟩,?_⟩;refine Calls.spliced_nil ?_;have lt:a < s1.heap.objs.size:=by obtain ⟨o,es,ho,_⟩:=id da; exact Ao ho
 have I3:Inv X fo σ H1 { s1 with heap:=s1.heap.push { cls:=.type "dict_values",data:=.fields #[.ref a] } }:=I1.kept (t':=s1.toks) λb o e=>Ak _ e;generalize ju:({ s1 with heap:=s1.heap.push { cls:=.type "dict_values",data:=.fields #[.ref a] } }:Shared)=s2 at I3 ⊢;have hv2:s2.heap.IsValuesView s1.heap.objs.size a:=by rw [<- ju]; exact ⟨_,Ap _ Y,Y,Y⟩
 have da2:s2.heap.DictAt (Z4 X.prog X.w) a vs ep:=by rw [<- ju]; exact da.push _
 have ql:a < s2.heap.objs.size:=by rw [<- ju]; show a < (s1.heap.push _).objs.size; rw [Heap.size_push]; exact lt_succ_of_lt lt
 have fw:vs.length=ns.length:=by have h1:=gm.length; have h2:=congrArg List.length pe; rw [Ab,Ab] at h2; lia
 refine call_sum_walkG (wpAny_pyIter_values hv2 da2 ⟨s2.heap.objs.size,_,_,_,_,_,λi=>ns.getD i 0,rfl,Walks.dictValues (knd:=Z4 X.prog X.w) (A:=X.A.in1) (show X.A.in1.handled=none from I.ok.hd hc) s2.heap.objs.size a (As ql) vs ep,⟨⟨_,Ap _ rfl,rfl,rfl⟩,da2.push _⟩,?_,λi v ⟨k,hv⟩=>Zhv gm pe i k v hv,?_⟩)
 ·intro b hb
  show b < (s2.heap.push _).objs.size;rw [Heap.size_push]
  rcases Ar hb with rfl | hb
  ·exact lt_succ_self _
  ·rw [Af hb]; exact lt_succ_of_lt ql
 ·intro h' tk t' hk
  have I4:Inv X fo σ H1 { s2 with heap:=h',toks:=tk }:=I3.kept λb o e=>hk b o (λz=>absurd (Ao e) (by rw [Af z]; exact Nat.lt_irrefl _)) (Ak _ e);refine ⟨.int ns.sum,H1,I4,⟨t',?_⟩,q⟩;rw [fw,Gi ns _ (An _),take_length]
end
def Zif:Yv X (.builtin "abs") (λxs H Q=>∃ i:Int,xs=[.int i]/\Q (.int (i.natAbs:Int)) H):=by
 intro fo s σ H xs us Q I r h;obtain ⟨i,rfl,q⟩:=h;obtain ⟨u,rfl,t,rfl⟩:=Xr r;refine call_abs_int λu tk=>⟨.int _,H,I.tok _,⟨_,Y⟩,?_⟩;have e:(if i < 0 then -i else i)=(i.natAbs:Int):=by split <;> omega
 rw [e];exact q
def U7:(toString "max" ++ toString ".loop":String)="max.loop":=by decide
section
variable {P:Program} {w:World} {A:Around} {R:Result->Shared->Prop} {it S:Addr} {fp wr:List Addr} {n:Nat} {ok:Nat->Value->Prop} {St:Nat->Heap->Prop} {bt:Nat->Nat->Bool} {kw:List (Str × Value)}
def Gh (wr:List Addr) (S:Addr) (ok:Nat->Value->Prop) (bt:Nat->Nat->Bool) (n:Nat) (R:Result->Shared->Prop) (s:Shared):Prop :=
 ∀ v h tk,ok (argBest bt (n - 1)) v->(∀ b o,b ∉ wr->b≠S->s.heap.get? b=some o->h.get? b=some o)->R (.ok (.ret v)) { s with heap:=h,toks:=tk }
def Gh.on {s:Shared} {h1:Heap} {t1:Nat} (z:Gh wr S ok bt n R s) (k:∀ b o,b ∉ wr->b≠S->s.heap.get? b=some o->h1.get? b=some o):Gh wr S ok bt n R { s with heap:=h1,toks:=t1 } :=
 λv h tk hv hk=>z v h tk hv λb o p q e=>hk b o p q (k b o p q e)
def Zl2 (W:Walks P w A.in1 it fp wr n ok St) (hc:CmpOf P w A.in1 .Gt ok bt) (hS:S ∉ fp):∀ (k j:Nat) (s:Shared) (u:Value) (c:Nat),n - (j + 1)=k->j + 1<=n->St (j + 1) s.heap->ok (argBest bt j) u ->
  s.heap.get? S=some ⟨.type "list",none,.seq #[u,u] c,#[]⟩->Gh wr S ok bt n R s->codeAny (model P w) A (.builtin "max.loop" ⟨[.ref it,.none,.ref S],kw⟩) R s:=by
 have nS:S ∉ wr:=λz=>hS (W.sub _ z);intro k
 induction k with
 | zero =>
  intro j s u c e1 e2 st hu g R0;obtain rfl:n=j + 1:=by omega
  refine codeAny_builtin F.entry_max_loop ?_;rw [Around.under_plainId F.plain_max_loop _];refine Al (wpAny_seqItems g Y (Al (wpAny_tryCatch (W.done s _ _ st λh tk hk=>?_))));refine Al (wpAny_updateSeq (hk S _ nS g) Y (Al (wpAny_letGo (wpAny_pure ?_))));exact R0 u _ tk hu λb o p q e=>(Heap.get?_update_other _ _ (Ne.symm q)).trans (hk b o p e)
 | succ k ih =>
  intro j s u c e1 e2 st hu g R0;refine codeAny_builtin F.entry_max_loop ?_;rw [Around.under_plainId F.plain_max_loop _];refine Al (wpAny_seqItems g Y (Al (wpAny_tryCatch (W.item (j + 1) s _ _ (by omega) st λv h tk hv ft hk=>?_))));have g':=hk S _ nS g;refine Al (wpAny_pure ?_);refine Al (wpAny_tryCatch (wpAny_holding (Al (hc (j + 1) (argBest bt j) v u _ _ _ hv hu ?_))));refine Al (wpAny_holding (wpAny_truthy_bool (Al (wpAny_letGo (wpAny_pure ?_)))));by_cases y:bt (j + 1) (argBest bt j)=true
  ·rw [if_pos y]
   refine Al (wpAny_updateSeq g' Y (Al (wpAny_letGo ?_)));rw [U7];refine wpAny_pure ⟨plainId_quiet F.plain_max_loop _,ih (j + 1) _ v _ (by omega) (by omega) (W.frame _ _ _ ft λb hb o e=>?_) (by unfold argBest; rw [if_pos y]; exact hv) (Heap.get?_update_self _ g' Y) (R0.on λb o p q e=>?_)⟩
   ·exact (Heap.get?_update_other _ _ (λz:S=b=>hS (z ▸ hb))).trans e
   ·exact (Heap.get?_update_other _ _ (Ne.symm q)).trans (hk b o p e)
  ·rw [if_neg y]
   refine Al (wpAny_letGo ?_);rw [U7];exact wpAny_pure ⟨plainId_quiet F.plain_max_loop _,ih (j + 1) _ u c (by omega) (by omega) ft (by unfold argBest; rw [if_neg y]; exact hu) g' (R0.on λb o p q e=>hk b o p e)⟩
def Zjp (W:Walks P w A.in1 it fp wr n ok St) (hc:CmpOf P w A.in1 .Gt ok bt) (hS:S ∉ fp) (hn:0 < n) {s:Shared} (st:St 0 s.heap) (g:s.heap.get? S=some ⟨.type "list",none,.seq #[] c,#[]⟩) (R0:Gh wr S ok bt n R s) :
  codeAny (model P w) A (.builtin "max.loop" ⟨[.ref it,.none,.ref S],kw⟩) R s:=by
 have nS:S ∉ wr:=λz=>hS (W.sub _ z);refine codeAny_builtin F.entry_max_loop ?_;rw [Around.under_plainId F.plain_max_loop _];refine Al (wpAny_seqItems g Y (Al (wpAny_tryCatch (W.item 0 s _ _ hn st λv h tk hv ft hk=>?_))));have g':=hk S _ nS g;refine Al (wpAny_pure ?_);refine Al (wpAny_updateSeq g' Y ?_);rw [U7];refine wpAny_pure ⟨plainId_quiet F.plain_max_loop _,Zl2 W hc hS _ 0 _ v _ Y hn (W.frame _ _ _ ft λb hb o e=>?_) hv (Heap.get?_update_self _ g' Y) (R0.on λb o p q e=>?_)⟩
 ·exact (Heap.get?_update_other _ _ (λz:S=b=>hS (z ▸ hb))).trans e
 ·exact (Heap.get?_update_other _ _ (Ne.symm q)).trans (hk b o p e)
end
def Zl3 (d:Value):Builtin.Builtins.bindParams "max" ["key","default"] 0 ⟨[],[("default",d)]⟩=pure [none,some d]:=by kernel_rfl
def Zii (a d:Value):argsOk "max" ⟨[a],[("default",d)]⟩:=by unfold argsOk; kernel_rfl
section
variable {X:Cx} {fo:List (Addr × Obj)} {σ:St} {H:Hp} {s:Shared}
def Zjs {d:Value} {A:Around}
  (h:wpAny (a:) A.in1 (pyIter x) (λiv s2=>∃ it fp wr n ok St bt,iv=.ref it/\Walks X.prog X.w A.in1 it fp wr n ok St/\St 0 s2.heap/\(∀ b∈fp,b < s2.heap.objs.size)/\0 < n/\CmpOf X.prog X.w A.in1 .Gt ok bt /\
   ∀ v h' tk,ok (argBest bt (n - 1)) v->(∀ b o,b ∉ wr->s2.heap.get? b=some o->h'.get? b=some o)->Q v { s2 with heap:=h',toks:=tk }) E s) :
  wpAny (a:) A (call (.builtin "max") [x] [("default",d)]) Q E s:=by
 refine kmk_tree F.kind_max F.plain_max F.entry_max (Zii _ _) ?_;show wpAny _ _ (Builtin.Builtins.bindParams _ _ _ ⟨[],[("default",d)]⟩ >>= _) _ _ s;refine Al (wpAny_of_eq (show Builtin.Builtins.bindParams "max" ["key","default"] 0 ⟨[],[("default",d)]⟩=pure [none,some d] from Zl3 d) (Al (wpAny_pure ?_)));refine Al (wpAny_mono h (λiv s2 z=>?_) λ_ _ e=>e);obtain ⟨it,fp,wr,n,ok,St,bt,rfl,W,st,zu,hn,hc,hQ⟩:=z;refine Al (wpAny_newObj_type ?_);rw [U7];refine wpAny_pure ⟨plainId_quiet F.plain_max_loop _,Zjp W hc (λz=>Nat.lt_irrefl _ (zu _ z)) hn (W.frame _ _ _ st λb _ o e=>Ak _ e) (Ap _ Y) λv h' tk hv hk=>?_⟩;exact hQ v h' tk hv λb o p e=>hk b o p (As (Ao e)) (Ak _ e)
def Zoj (ta td:TE) (K:W.Frag):TE:=λσ H Q=>ta σ H λx H1=>td σ H1 λd H2=>∃ (p:Addr) (ns:List Int),x=.ref p/\SqL K H2 p (ns.map V.int)/\0 < ns.length/\∀ m,m∈ns->(∀ a∈ns,a<=m)->Q (.int m) H2
def Zjr {A:Around} {d:Value} {ns:List Int} (hh:A.in1.handled=none) (I:Inv X fo σ H s) (hq:SqL X.K H p (ns.map V.int)) (hn:0 < ns.length)
  (q:∀ m t s',m∈ns->(∀ a∈ns,a<=m)->Inv X fo σ H s'->Q (.int m t) s'):wpAny (a:) A (call (.builtin "max") [.ref p] [("default",d)]) Q E s:=by
 obtain ⟨its,rv,pl,hz⟩:=I.list hq;have lt:p < s.heap.objs.size:=by obtain ⟨o,ho,_⟩:=pl.isList; exact Ao ho
 have fw:its.toArray.size=ns.length:=by have:=rv.length; rw [Ab] at this; simp; omega
 have W:=O5 (fo:=fo) (σ:=σ) (H:=H) (s:=s) rv;refine Zjs (wpAny_pyIter_list pl.isList ⟨s.heap.objs.size,_,_,_,_,_,_,Y,Walks.list hh s.heap.objs.size p (As lt) its.toArray,⟨⟨_,Ap _ Y,Y,Y⟩,pl.isList.push _⟩,?_,by rw [fw]; exact hn,CmpOf.ints_gt (λi=>ns.getD i 0) W,?_⟩)
 ·intro b hb
  show b < (s.heap.push _).objs.size;rw [Heap.size_push]
  rcases Ar hb with rfl | hb
  ·exact lt_succ_self _
  ·rw [Af hb]; exact lt_succ_of_lt lt
 ·intro v h' tk hP hk
  have I1:Inv X fo σ H { s with heap:=h',toks:=tk }:=I.kept λb o e=>hk b o (λz=>absurd (Ao e) (by rw [Af z]; exact Nat.lt_irrefl _)) (Ak _ e);rw [fw] at hP;obtain ⟨a1,a2⟩:=argBest_gt (λi=>ns.getD i 0) (ns.length - 1);obtain ⟨t,rfl⟩:=W _ _ hP;generalize argBest (λi j=>decide (ns.getD i 0 > ns.getD j 0)) (ns.length - 1)=k at a1 a2;have i9:k < ns.length:=by omega
  have ek:ns.getD k 0=ns[k]:=by rw [Ad,Ac i9]; rfl
  refine q _ t _ (by rw [ek]; exact getElem_mem i9) (λa ha=>?_) I1;obtain ⟨j,hj,rfl⟩:=mem_iff_getElem.mp ha;have:=a2 j (by omega);have ej:ns.getD j 0=ns[j]:=by rw [Ad,Ac hj]; rfl
  show ns[j]<=ns.getD k 0;rw [<- ej]; exact this
def Zlx {p kp:Pos} (hc:X.calm=true) (hg:Gl X "max") (hm:X.mg "max"=none) (hv:bootBuiltins "max"=some (.builtin "max")) (ha:PE X e ta) (hd:PE X d td)
  (he:backTo pos (starEach [e] X.env)=[(false,eval e X.env)]:=by rfl) (h0:backTo pos (starEach ([]:List Expr) X.env)=[]:=by rfl) (g8:(backTo pos (starEach [e] X.env)).any (·.1)=false:=by rfl)
  (qq:(backToKw pos (keywordEach [⟨some "default",d,kp⟩] X.env)).all (·.1.isSome)=true:=by rfl) (wu:(backToKw pos (keywordEach [⟨some "default",d,kp⟩] X.env)).any (·.1.isNone)=false:=by rfl)
  (hk3:(backToKw pos (keywordEach [⟨some "default",d,kp⟩] X.env)).filterMap (·.1)=[Str.ofString "default"]:=by rfl):PE X (.Call (.Name "max" p) [e] [⟨some "default",d,kp⟩] pos) (Zoj ta td X.K):=by
 intro fo s σ H Q I h;refine wpAny_Call_Name_kw (Xb I hg hm hv ?_ (by decide) (by decide));refine callWith_kw ?_ (by rw [he,h0]) g8 qq wu;rw [he];refine Calls.spliced_cons (thn (ha fo s σ H _ I h) λu s1 zz41=>?_);obtain ⟨x,H1,I1,r1,q1⟩:=zz41;refine Calls.spliced_nil ?_;refine kws_cons (thn (hd fo s1 σ H1 _ I1 q1) λv s2 zz42=>?_);obtain ⟨y,H2,I2,r2,p',ns,ex,hq,hn,q2⟩:=zz42;refine kws_nil ?_;subst ex;cases r1;rw [hk3];exact Zjr (show X.A.in1.handled=none from I.ok.hd hc) I2 hq hn λm t s' h1 h2 I'=>⟨.int m,H2,I',⟨t,Y⟩,q2 m h1 h2⟩
end
inductive ZS where
 | l (a:Addr)
 | t (a:Addr)
 | s (x:Str)
def ZS.has (K:W.Frag) (H:Hp) (S:ZS) (xs:List V):Prop:=match S with
 | .l a=>SqL K H a xs
 | .t a=>SqT K H a xs
 | .s x=>x.cps.all (· < 128)=true/\xs=x.cps.toList.map λc=>V.str ⟨#[c]⟩
def ZS.it (S:ZS) (i:Addr) (k:Nat) (h:Heap):Prop:=match S with
 | .l a=>h.IsListIter i a k
 | .t a=>IsTupIter h i a k
 | .s x=>∃ t,h.IsStrIter i "str_ascii_iterator" x t k
def ZS.v:ZS->V
 | .l a=>.ref a
 | .t a=>.ref a
 | .s x=>.str x
def Zmy (H0:Hp) (t:TE):TE:=λσ H Q=>t σ H λv H'=>∃ (a:Addr) (o:Obj) (kvs:List (Key × V)),H' a=some (.frz o (.dK kvs))/\(∀ o u,H0 a≠some (.frz o u))/\Q v (upd H' a (.dK kvs))
def Zlw {X:Cx} (h:PE X e t):PE X e (Zmy X.H₀ t):=by
 intro fo s σ H Q I hw;refine wpAny_mono (h fo s σ H _ I hw) (λv s' q=>?_) λ_ _ e=>e;obtain ⟨x,H',I',r,a,o,kvs,e,h0,q⟩:=q;exact ⟨x,_,I'.thaw e h0,r,q⟩
end L2
namespace KT
open PySem L2
def aN (a:Nat):Nat:=(after a).toNat
def bN (a:Nat):Nat:=(before a).toNat
def Zgf (a:Nat):after a=(aN a:Int):=(Int.toNat_of_nonneg (Zil a).2.2).symm
def Zgd (a:Nat):before a=(bN a:Int):=(Int.toNat_of_nonneg (Zgc a).2.2).symm
def J5 (a:Nat):aN a=if a % 3=2 then a - 2 else a + 1:=by
 have h:=Zgf a;unfold after at h;split at h <;> split <;> lia
def J4 (a:Nat):bN a=if a % 3=0 then a + 2 else a - 1:=by
 have h:=Zgd a;unfold before at h;split at h <;> split <;> lia
def d3_0 (q:Nat):3 * q / 3=q:=Nat.mul_div_cancel_left q (by decide)
def d3_1 (q:Nat):(3 * q + 1) / 3=q:=by rw [mul_add_div (by decide)]; rfl
def d3_2 (q:Nat):(3 * q + 2) / 3=q:=by rw [mul_add_div (by decide)]; rfl
def aN_0 (q:Nat):aN (3 * q)=3 * q + 1:=by rw [J5,if_neg (by rw [mul_mod_right]; decide)]
def aN_1 (q:Nat):aN (3 * q + 1)=3 * q + 2:=by rw [J5,if_neg (by rw [mul_add_mod]; decide)]
def aN_2 (q:Nat):aN (3 * q + 2)=3 * q:=by rw [J5,if_pos (by rw [mul_add_mod])]; rfl
def bN_0 (q:Nat):bN (3 * q)=3 * q + 2:=by rw [J4,if_pos (mul_mod_right 3 q)]
def bN_1 (q:Nat):bN (3 * q + 1)=3 * q:=by rw [J4,if_neg (by rw [mul_add_mod]; decide)]; rfl
def bN_2 (q:Nat):bN (3 * q + 2)=3 * q + 1:=by rw [J4,if_neg (by rw [mul_add_mod]; decide)]; rfl
def three (a:Nat):∃ q,a=3 * q\/a=3 * q + 1\/a=3 * q + 2:=⟨a / 3,by lia⟩
def X5 (a:Nat):aN a / 3=a / 3/\bN a / 3=a / 3/\aN (aN a)=bN a/\bN (aN a)=a/\aN (bN a)=a/\bN (bN a)=aN a/\aN a≠a/\bN a≠a/\aN a≠bN a:=by
 have n1:∀ q,q + 1≠q:=λq=>succ_ne_self q;have n2:∀ q,q + 2≠q:=λq h=>Nat.ne_of_gt (Nat.lt_add_of_pos_right (n:=q) (k:=2) (by decide)) h;obtain ⟨q,rfl | rfl | rfl⟩:=three a
 ·rw [aN_0,bN_0,aN_1,bN_1,aN_2,bN_2,d3_0,d3_1,d3_2]
  exact ⟨Y,Y,Y,Y,Y,Y,n1 _,n2 _,λh=>n1 _ h.symm⟩
 ·rw [aN_1,bN_1,aN_2,bN_2,aN_0,bN_0,d3_0,d3_1,d3_2]
  exact ⟨Y,Y,Y,Y,Y,Y,n1 _,λh=>n1 _ h.symm,n2 _⟩
 ·rw [aN_2,bN_2,aN_0,bN_0,aN_1,bN_1,d3_0,d3_1,d3_2]
  exact ⟨Y,Y,Y,Y,Y,Y,λh=>n2 _ h.symm,λh=>n1 _ h.symm,λh=>n1 _ h.symm⟩
def Zdk (a z:Nat) (h:z / 3=a / 3):z=a\/z=aN a\/z=bN a:=by
 have h1:=J5 a;have h2:=J4 a;split at h1 <;> split at h2 <;> lia
def Zaz {n:Nat} (h:a < 3 * n):aN a < 3 * n/\bN a < 3 * n:=by
 obtain ⟨h1,h2,_⟩:=X5 a;exact ⟨by lia,by lia⟩
structure PC (M:Lq) (f:Nat->Int):Prop where
 nn:∀ p,p < M.length->0<=f p
 rim:∀ p:Nat,M[p]?=some none->f p=0
 mate:∀ p q:Nat,M[p]?=some (some q)->f q=f p
 even:∀ p,p < M.length->(f p + f (aN p) + f (bN p)) % 2=0
 tri:∀ p,p < M.length->f p<=f (aN p) + f (bN p)
def mx (x y:Int):Int:=if y > x then y else x
def bh (f:Nat->Int) (a b:Nat):Int:=mx (f (aN a) + f (aN b)) (f (bN a) + f (bN b)) - f a
def fx (left:Bool) (a b:Nat) (f:Nat->Int) (z:Nat):Int:=if z=a\/z=b then bh f a b else f (mvN (!left) a b z)
section
variable {M:Lq} {ns:List Int} {f:Nat->Int} {a b:Nat} {left:Bool}
def Nm (ns:List Int) (f:Nat->Int) (g:Int->Int):Prop:=∀ (p:Nat) (x:Int),ns[p]?=some x->g x=f p
end
structure PreC (M:Lq) (f:Nat->Int):Prop where
 nn:∀ p,p < M.length->0<=f p
 rim:∀ p:Nat,M[p]?=some none->f p=0
 mate:∀ p q:Nat,M[p]?=some (some q)->f q=f p
 even:∀ p,p < M.length->(f p + f (aN p) + f (bN p)) % 2=0
def sF (f:Nat->Int):Nat->Int
 | 0=>0
 | n + 1=>sF f n + f n
theorem Zak:∀ {n:Nat},(∀ z,z < n->f z<=g z)->sF f n<=sF g n
 | 0,_=>Int.le_refl _
 | n + 1,h=>Int.add_le_add (Zak λz hz=>h z (by lia)) (h n (by lia))
theorem Zko:∀ {n:Nat},(∀ z,z < n->f z<=g z)->p < n->f p < g p->sF f n < sF g n
 | 0,_,hp,_=>absurd hp (by lia)
 | n + 1,h,hp,hl=>by
  show sF f n + f n < sF g n + g n;by_cases c:p=n
  ·subst c
   have:=Zak (n:=p) λz hz=>h z (by lia);lia
  ·have:=Zko (n:=n) (p:=p) (λz hz=>h z (by lia)) (by lia) hl
   have:=h n (by lia);lia
theorem Zfc:∀ {n:Nat},(∀ z,z < n->0<=f z)->0<=sF f n
 | 0,_=>Int.le_refl _
 | n + 1,h=>Int.add_nonneg (Zfc λz hz=>h z (by lia)) (h n (by lia))
def lw (f:Nat->Int) (p:Nat) (q:Option Nat) (v:Int):Nat->Int:=λz=>if z=p\/q=some z then v else f z
section
variable {M:Lq} {f:Nat->Int} {p:Nat}
def Zl4 (v:Int):lw f p none v=λz=>if z=p then v else f z:=by
 funext z;unfold lw;by_cases c:z=p
 ·rw [if_pos (.inl c),if_pos c]
 ·rw [if_neg (by rintro (h | h); exact c h; cases h),if_neg c]
def Jn (q:Nat) (v:Int):lw f p (some q) v=λz=>if z=q then v else if z=p then v else f z:=by
 funext z;unfold lw;by_cases c:z=p
 ·rw [if_pos (.inl c)]
  by_cases d:z=q
  ·rw [if_pos d]
  ·rw [if_neg d,if_pos c]
 ·by_cases d:z=q
  ·rw [if_pos (.inr (by rw [d])),if_pos d]
  ·rw [if_neg (by rintro (h | h); exact c h; cases h; exact d Y),if_neg d,if_neg c]
def PreC.lw (pc:PreC M f) (h3:∃ n,M.length=3 * n) (inv:InvM M) (hq:M[p]?=some q) (hl:f (aN p) + f (bN p) < f p) :
  PreC M (lw f p q (f (aN p) + f (bN p)))/\(∀ z,lw f p q (f (aN p) + f (bN p)) z<=f z\/z ≥ M.length)/\lw f p q (f (aN p) + f (bN p)) p < f p:=by
 have hp:p < M.length:=(Aa hq).1;obtain ⟨n,hn⟩:=h3;obtain ⟨l1,l2⟩:=Zaz (show p < 3 * n by lia);have n1:=pc.nn (aN p) (by lia);have n2:=pc.nn (bN p) (by lia);have ev:=pc.even p hp
 obtain ⟨y,rfl⟩:∃ y,q=some y:=by
  cases q with
  | none=>have:=pc.rim p hq; lia
  | some y=>exact ⟨y,Y⟩
 have hy:=(inv p y hq).1;have em:=pc.mate p y hq;have par:∀ z,(KT.lw f p (some y) (f (aN p) + f (bN p)) z - f z) % 2=0:=λz=>by
  rw [Jn]
  dsimp only
  by_cases c:z=y
  ·rw [if_pos c,c]; lia
  ·rw [if_neg c]
   by_cases d:z=p
   ·rw [if_pos d,d]; lia
   ·rw [if_neg d]; lia
 refine ⟨⟨λz hz=>?_,λz hz=>?_,λz w hz=>?_,λz hz=>?_⟩,λz=>?_,?_⟩
 ·rw [Jn]
  dsimp only;split
  ·lia
  ·split
   ·lia
   ·exact pc.nn z hz
 ·rw [Jn]
  dsimp only;rw [if_neg (λe=>by rw [e,hy] at hz; cases hz),if_neg (λe=>by rw [e,hq] at hz; cases hz)];exact pc.rim z hz
 ·rw [Jn]
  dsimp only;have hw:=(inv z w hz).1;by_cases c:z=y
  ·subst c
   rw [hy] at hz;cases hz;rw [if_pos rfl,if_pos rfl];split <;> rfl
  ·rw [if_neg c]
   by_cases d:z=p
   ·subst d
    rw [hq] at hz;cases hz;rw [if_pos rfl,if_pos rfl]
   ·rw [if_neg d]
    have c2:w≠y:=λe=>by rw [e,hy] at hw; cases hw; exact d Y
    have d2:w≠p:=λe=>by rw [e,hq] at hw; cases hw; exact c Y
    rw [if_neg c2,if_neg d2];exact pc.mate z w hz
 ·have:=pc.even z hz
  have p1:=par z;have p2:=par (aN z);have p3:=par (bN z);lia
 ·left
  rw [Jn];dsimp only;split
  ·rename_i c; rw [c]; lia
  ·split
   ·rename_i c; rw [c]; lia
   ·exact Int.le_refl _
 ·rw [Jn]
  dsimp only;split
  ·exact hl
  ·rw [if_pos rfl]; exact hl
def PreC.all (pc:PreC M f) (h:∀ p,p < M.length->f p<=f (aN p) + f (bN p)):PC M f:=⟨pc.nn,pc.rim,pc.mate,pc.even,h⟩
end
def Ja {M:Lq} (h:M[q]?=some (some m)):mtN M q=m:=by unfold mtN; rw [Ad,h]; rfl
def crN (M:Lq) (ws:List Nat) (p:Nat):Nat:=ws.countP λq=>decide (q=p\/mtN M q=p)
def ind3 (z q:Nat):(if q=z then 1 else 0) + (if q=aN z then 1 else 0) + (if q=bN z then 1 else 0)=if q / 3=z / 3 then 1 else 0:=by
 obtain ⟨a1,a2,_,_,_,_,a7,a8,a9⟩:=X5 z;by_cases c:q / 3=z / 3
 ·rw [if_pos c]
  rcases Zdk z q c with rfl | rfl | rfl
  ·rw [if_pos rfl,if_neg (Ne.symm a7),if_neg (Ne.symm a8)]
  ·rw [if_neg a7,if_pos rfl,if_neg a9]
  ·rw [if_neg a8,if_neg (Ne.symm a9),if_pos rfl]
 ·rw [if_neg c,if_neg (λe=>c (by rw [e])),if_neg (λe=>c (by rw [e]; exact a1)),if_neg (λe=>c (by rw [e]; exact a2))]
def Zfz {q m s:Nat} (h:q≠m):(if decide (q=s\/m=s)=true then 1 else 0)=(if q=s then 1 else 0) + if m=s then 1 else 0:=by
 by_cases c:q=s
 ·subst c
  rw [if_pos (decide_eq_true (.inl rfl)),if_pos rfl,if_neg (Ne.symm h)]
 ·by_cases d:m=s
  ·rw [if_pos (decide_eq_true (.inr d)),if_neg c,if_pos d]
  ·rw [if_neg (λe=>by rcases of_decide_eq_true e with e | e; exact c e; exact d e),if_neg c,if_neg d]
theorem Zib {M:Lq} (inv:InvM M) (z:Nat):∀ ws:List Nat,(∀ p∈ws,∃ m,M[p]?=some (some m)) ->
  crN M ws z + crN M ws (aN z) + crN M ws (bN z)=(ws.countP λq=>decide (q / 3=z / 3)) + ws.countP λq=>decide (mtN M q / 3=z / 3)
 | [],_=>rfl
 | q :: r,h=>by
  have ih:=Zib inv z r λp hp=>h p (mem_cons_of_mem _ hp);obtain ⟨m,hm⟩:=h q mem_cons_self;have ne:=(inv q m hm).2;unfold crN at ih ⊢;simp only [countP_cons,Ja hm];rw [Zfz ne,Zfz ne,Zfz ne];have i1:=ind3 z q;have i2:=ind3 z m;have e:∀ c:Prop,[Decidable c]->(if decide c=true then 1 else 0)=if c then 1 else 0:=λc _=>by by_cases h:c <;> simp [h]
  rw [e,e];lia
def Zmi (inv:InvM M) (h:ws=[]\/Pl M ws) (z:Nat):(crN M ws z + crN M ws (aN z) + crN M ws (bN z)) % 2=0:=by
 rcases h with rfl | hP
 ·rfl
 ·rw [Zib inv z ws hP.has]
  have hl:0 < ws.length:=length_pos_iff.mpr hP.ne;have e:(ws.map λq=>mtN M q / 3)=(rot ws 1).map λq=>q / 3:=by
   apply ext_getElem?
   intro i
   rw [Ah,Ah]
   by_cases hi:i < ws.length
   ·obtain ⟨m,hm⟩:=hP.has ws[i] (getElem_mem hi)
    have hn:(i + 1) % ws.length < ws.length:=mod_lt _ hl
    have:=(hP.nxt i ws[i] ws[(i + 1) % ws.length] (Ac hi) (Ac hn) m hm).1
    rw [Zne (j:=0) hl hi,Ac hi,Ac hn]
    show some (mtN M ws[i] / 3)=some (ws[(i + 1) % ws.length] / 3)
    rw [Ja hm,this]
   ·rw [Ay (by lia),Ay (by rw [Y3 _ (by lia)]; lia)]
    rfl
  have p:(rot ws 1).Perm ws:=by
   unfold rot;refine perm_append_comm.trans ?_;rw [take_append_drop]
  have c1:(ws.countP λq=>decide (mtN M q / 3=z / 3))=(ws.map λq=>mtN M q / 3).countP λx=>decide (x=z / 3):=by rw [countP_map]; rfl
  have c2:(ws.countP λq=>decide (q / 3=z / 3))=((rot ws 1).map λq=>q / 3).countP λx=>decide (x=z / 3):=by rw [countP_map,p.countP_eq]; rfl
  rw [c1,e,<- c2];lia
def fam (M:Lq) (ws:List Nat) (h:Nat->Int) (p:Nat):Int:=match (M[p]?).join with
 | some y=>2 * h (min p y) + (crN M ws p % 2:Nat)
 | none=>0
def Zco {M:Lq} (inv:InvM M) (has:∀ p∈ws,∃ m,M[p]?=some (some m)) (h:M[p]?=some (some y)):crN M ws y=crN M ws p:=by
 unfold crN;apply countP_congr;intro q hq;obtain ⟨m,hm⟩:=has q hq;have hy:=(inv p y h).1;rw [Ja hm,decide_eq_true_eq,decide_eq_true_eq];constructor
 ·rintro (rfl | rfl)
  ·right; rw [hy] at hm; cases hm; rfl
  ·left
   have:=(inv q m hm).1;rw [hy] at this; cases this; rfl
 ·rintro (rfl | rfl)
  ·right; rw [h] at hm; cases hm; rfl
  ·left
   have:=(inv q m hm).1;rw [h] at this; cases this; rfl
def Zmj {M:Lq} (inv:InvM M) (has:∀ p∈ws,∃ m,M[p]?=some (some m)) (h:(M[p]?).join=none):crN M ws p=0:=by
 unfold crN;rw [countP_eq_zero];intro q hq e;obtain ⟨m,hm⟩:=has q hq;rw [Ja hm] at e
 rcases of_decide_eq_true e with rfl | rfl
 ·rw [hm] at h; cases h
 ·rw [(inv q m hm).1] at h; cases h
def Zme (inv:InvM M) (hw:ws=[]\/Pl M ws) (hn:∀ p,0<=h p):PreC M (fam M ws h):=by
 have has:∀ p∈ws,∃ m,M[p]?=some (some m):=by
  rcases hw with rfl | hP
  ·exact λp hp=>absurd hp not_mem_nil
  ·exact hP.has
 have par:∀ z,(fam M ws h z - (crN M ws z:Int)) % 2=0:=λz=>by
  unfold fam
  cases e:(M[z]?).join with
  | none=>dsimp only; rw [Zmj inv has e]; rfl
  | some y=>dsimp only; lia
 refine ⟨λp _=>?_,λp hp=>?_,λp q hp=>?_,λp _=>?_⟩
 ·unfold fam
  cases (M[p]?).join with
  | none=>exact Int.le_refl _
  | some y=>dsimp only; have:=hn (min p y); lia
 ·unfold fam; rw [hp]; rfl
 ·have hq:=(inv p q hp).1
  unfold fam;rw [hp,hq];show 2 * h (min q p) + (crN M ws q % 2:Nat)=2 * h (min p q) + (crN M ws p % 2:Nat);rw [Zco inv has hp,Nat.min_comm]
 ·have c:=Zmi inv hw p
  have p1:=par p;have p2:=par (aN p);have p3:=par (bN p);lia
def Nm.of {ns:List Int} (td:TD M ns) (pc:PC M f) (h:∀ x∈keys ns ns.length,∃ p,ns[p]?=some x/\g x=f p):Nm ns f g:=by
 intro p x hp;obtain ⟨q,hq,e⟩:=h x (Yy.mpr ⟨p,(Aa hp).1,hp⟩);rw [e]
 rcases td.eqv q p x hq hp with z | z
 ·rw [z]
 ·exact (pc.mate q p z).symm
theorem Gs (f:Nat->Int):∀ n,sF f n=((List.range n).map f).sum
 | 0=>rfl
 | n + 1=>by rw [range_succ,Aj,sum_append,<- Gs f n]; simp [sF]
def Zas {a b:List Int} (h:a.Perm b):a.sum=b.sum:=by
 induction h with
 | nil=>rfl
 | cons x _ ih=>simp [ih]
 | swap x y l=>simp only [sum_cons]; lia
 | trans _ _ h1 h2=>exact h1.trans h2
def Zli {μ ν:Nat->Nat} (h1:∀ z,z < n->μ z < n) (h3:∀ z,z < n->ν z < n) (h4:∀ z,z < n->μ (ν z)=z) (h5:∀ z,z < n->ν (μ z)=z):sF (λz=>f (μ z)) n=sF f n:=by
 rw [Gs,Gs];have p:((List.range n).map μ).Perm (List.range n):=by
  have nd:((List.range n).map μ).Nodup:=by
   rw [List.Nodup,pairwise_map]
   refine List.Pairwise.imp_of_mem (λ{a b} ha hb im e=>?_) nodup_range
   have:=congrArg ν e
   rw [h5 a (mem_range.mp ha),h5 b (mem_range.mp hb)] at this
   exact im this
  rw [perm_ext_iff_of_nodup nd nodup_range]
  intro x
  constructor
  ·intro hx
   obtain ⟨z,hz,rfl⟩:=mem_map.mp hx
   exact mem_range.mpr (h1 z (mem_range.mp hz))
  ·intro hx
   have hx:=mem_range.mp hx
   exact mem_map.mpr ⟨ν x,mem_range.mpr (h3 x hx),h4 x hx⟩
 have:=Zas (p.map f);rw [map_map] at this;exact this
theorem Zg0 (f g:Nat->Int):∀ n,sF (λz=>f z + g z) n=sF f n + sF g n
 | 0=>rfl
 | n + 1=>by
  show sF (λz=>f z + g z) n + (f n + g n)=(sF f n + f n) + (sF g n + g n);rw [Zg0 f g n]; lia
theorem Zbf:∀ {n},(∀ z,z < n->f z=g z)->sF f n=sF g n
 | 0,_=>rfl
 | n + 1,h=>by
  show sF f n + f n=sF g n + g n;rw [Zbf λz hz=>h z (by lia),h n (by lia)]
theorem Zbg {k:Int}:∀ {n:Nat},(∀ z,z < n->f z<=k)->sF f n<=n * k
 | 0,_=>by simp [sF]
 | n + 1,h=>by
  have:=Zbg (n:=n) λz hz=>h z (by lia);have:=h n (by lia);show sF f n + f n<=((n + 1:Nat):Int) * k;rw [Int.natCast_add,Int.add_mul];simp;lia
section
variable {M:Lq} {ns:List Int} {f:Nat->Int} {g:Int->Int}
def fst1 (M:Lq) (f:Nat->Int) (p:Nat):Int:=match (M[p]?).join with
 | some q=>if q < p then 0 else f p
 | none=>f p
def mu (M:Lq) (p:Nat):Nat:=match (M[p]?).join with
 | some q=>q
 | none=>p
theorem Zcc (td:TD M ns) (nm:Nm ns f g):∀ n,n<=ns.length->((keys ns n).map g).sum=sF (fst1 M f) n
 | 0,_=>rfl
 | n + 1,h=>by
  have ih:=Zcc td nm n (by lia);obtain ⟨x,hx⟩:∃ x,ns[n]?=some x:=⟨_,Ac (by lia)⟩;rw [Xm hx];show _=sF (fst1 M f) n + fst1 M f n;have hl:=td.len;by_cases c:x∈keys ns n
  ·rw [if_pos c,ih]
   obtain ⟨i,hi,e⟩:=Yy.mp c;have:fst1 M f n=0:=by
    unfold fst1
    rcases td.eqv n i x hx e with z | z
    ·lia
    ·rw [z]; exact if_pos hi
   lia
  ·rw [if_neg c,Aj,sum_append,ih]
   have:fst1 M f n=g x:=by
    rw [nm n x hx];unfold fst1
    cases e:M[n]? with
    | none=>rfl
    | some o=>cases o with
     | none=>rfl
     | some q =>
      refine if_neg λhq=>c (Yy.mpr ⟨q,hq,?_⟩);rw [td.eqm n q e]; exact hx
   simp [this]
def Zfk (h:M[p]?=some (some q)):mu M p=q:=by unfold mu; rw [h]; rfl
def Zhw (td:TD M ns) (nm:Nm ns f g) (pc:PC M f):2 * ((h:).map g).sum=sF f ns.length:=by
 rw [Zcc td nm _ (An _)];have hl:=td.len;have inv:=td.inv
 have e:sF f ns.length=sF (λz=>fst1 M f z + fst1 M f (mu M z)) ns.length:=Zbf λz hz=>by
  cases e:M[z]? with
  | none=>rw [List.getElem?_eq_none_iff] at e; lia
  | some o=>cases o with
   | none =>
    have h0:=pc.rim z e;have h1:mu M z=z:=by unfold mu; rw [e]; rfl
    have h2:fst1 M f z=f z:=by unfold fst1; rw [e]; rfl
    rw [h1,h2,h0]; rfl
   | some q =>
    obtain ⟨hq,ne⟩:=inv z q e;have h1:=Zfk e;have h2:fst1 M f z=if q < z then 0 else f z:=by unfold fst1; rw [e]; rfl
    have h3:fst1 M f q=if z < q then 0 else f q:=by unfold fst1; rw [hq]; rfl
    have h4:=pc.mate z q e;rw [h1,h2,h3];by_cases c:q < z
    ·rw [if_pos c,if_neg (by lia),h4]; lia
    ·rw [if_neg c,if_pos (by lia)]; lia
 have lt:∀ z,z < ns.length->mu M z < ns.length:=by
  intro z hz;unfold mu
  cases e:M[z]? with
  | none=>exact hz
  | some o=>cases o with
   | none=>exact hz
   | some q=>have:=(Aa (inv z q e).1).1; show q < _; lia
 have back:∀ u,u < ns.length->mu M (mu M u)=u:=λu hu=>by
  cases e:M[u]? with
  | none=>rw [List.getElem?_eq_none_iff] at e; lia
  | some o=>cases o with
   | none =>
    have h1:mu M u=u:=by unfold mu; rw [e]; rfl
    rw [h1,h1]
   | some q=>rw [Zfk e,Zfk (inv u q e).1]
 rw [e,Zg0,Zli (f:=fst1 M f) (μ:=mu M) (ν:=mu M) lt lt back back];lia
end
section
variable {M:Lq}
open Classical in
noncomputable def fanF (M:Lq) (c:Nat):List Nat × Bool:=if h:∃ q:List Nat × Bool,FanEnd M c q.1 q.2 then h.choose else ([],false)
noncomputable def fanL (M:Lq) (c:Nat):List Nat:=(fanF M c).1
def mn (l:List Nat):Nat:=l.min?.getD 0
noncomputable def key (M:Lq) (c:Nat):Int:=(mn (fanL M c):Nat)
end
def it (f:Nat->Nat):Nat->Nat->Nat
 | 0,x=>x
 | k + 1,x=>f (it f k x)
theorem Vj (f:Nat->Nat) (j x:Nat):∀ k,it f (k + j) x=it f k (it f j x)
 | 0=>by rw [Nat.zero_add]; rfl
 | k + 1=>by rw [Nat.add_right_comm]; show f _=f _; rw [Vj f j x k]
def orb (D:Nat->Prop) (f:Nat->Nat) (x y:Nat):Prop:=D x/\∃ k,it f k x=y
section
variable {M:Lq} {P:List Nat} {n:Nat}
def mtQ (M:Lq) (p:Nat):Nat:=(M.getD p none).getD 0
def Qt (h:M[x]?=some (some y)):mtQ M x=y:=by unfold mtQ; rw [Ad,h]; rfl
end
def nN (f:Nat->Int) (p:Nat):Nat:=(f p).toNat
def sgP (M:Lq) (f:Nat->Int) (c:Nat):Nat:=1000 * mtQ M (c / 1000) + (nN f (c / 1000) - 1 - c % 1000)
def tuP (f:Nat->Int) (c:Nat):Nat:=if ((c % 1000:Nat):Int) < (f (bN (c / 1000)) + f (c / 1000) - f (aN (c / 1000))) / 2 then 1000 * bN (c / 1000) + (nN f (bN (c / 1000)) - 1 - c % 1000) else 1000 * aN (c / 1000) + (nN f (c / 1000) - 1 - c % 1000)
def nxP (M:Lq) (f:Nat->Int) (c:Nat):Nat:=tuP f (sgP M f c)
def VpP (M:Lq) (f:Nat->Int) (c:Nat):Prop:=c / 1000 < M.length/\c % 1000 < nN f (c / 1000)
structure Fam (M:Lq) (f:Nat->Int) (n:Nat):Prop where
 pc:PC M f
 inv:InvM M
 hn:M.length=3 * n
 le:∀ p,p < M.length->f p<=900
def Xo {p s:Nat} (h:s < 1000):(1000 * p + s) / 1000=p/\(1000 * p + s) % 1000=s:=by omega
section
variable {M:Lq} {f:Nat->Int} {n:Nat}
def Fam.nf (h:Fam M f n) (hp:p < M.length):((nN f p:Nat):Int)=f p/\nN f p<=900:=by
 have h1:=h.pc.nn p hp;have h2:=h.le p hp;unfold nN;omega
def Fam.sg (h:Fam M f n) (v:VpP M f c):∃ q,M[c / 1000]?=some (some q)/\sgP M f c=1000 * q + (nN f (c / 1000) - 1 - c % 1000)/\VpP M f (sgP M f c)/\sgP M f (sgP M f c)=c/\(sgP M f c) / 1000=q/\q≠c / 1000:=by
 obtain ⟨v1,v2⟩:=v;obtain ⟨f1,f2⟩:=h.nf v1;obtain ⟨o,ho⟩:∃ o,M[c / 1000]?=some o:=⟨_,Ac v1⟩
 cases o with
 | none=>have:=h.pc.rim _ ho; omega
 | some q =>
  obtain ⟨i1,i2⟩:=h.inv _ _ ho;have hq:q < M.length:=(Aa i1).1;have e:sgP M f c=1000 * q + (nN f (c / 1000) - 1 - c % 1000):=by unfold sgP; rw [Qt ho]
  have eN:nN f q=nN f (c / 1000):=by unfold nN; rw [h.pc.mate _ _ ho]
  have d:=Xo (p:=q) (s:=nN f (c / 1000) - 1 - c % 1000) (by omega);refine ⟨q,ho,e,?_,?_,by rw [e]; exact d.1,λz=>i2 z.symm⟩
  ·unfold VpP
   rw [e,d.1,d.2,eN];exact ⟨hq,by omega⟩
  ·rw [e]
   unfold sgP;rw [d.1,d.2,Qt i1,eN];omega
def Fam.sg_ne (h:Fam M f n) (v:VpP M f c):sgP M f c≠c:=λz=>by
 obtain ⟨q,_,_,_,_,h5,h6⟩:=h.sg v;rw [z] at h5;exact h6 h5.symm
def Fam.tu (h:Fam M f n) (v:VpP M f c):VpP M f (tuP f c)/\tuP f (tuP f c)=c/\(tuP f c) / 1000 / 3=c / 1000 / 3/\(tuP f c) / 1000≠c / 1000:=by
 obtain ⟨v1,v2⟩:=v;generalize hp:c / 1000=p at *;generalize hs:c % 1000=e at *;have ec:c=1000 * p + e:=by omega
 obtain ⟨d1,d2,d3,d4,d5,d6,d7,d8,d9⟩:=X5 p;have ha:aN p < M.length:=by have:=h.hn; omega
 have hb:bN p < M.length:=by have:=h.hn; omega
 obtain ⟨f1,f2⟩:=h.nf v1;obtain ⟨f3,f4⟩:=h.nf ha;obtain ⟨f5,f6⟩:=h.nf hb;have ev:=h.pc.even p v1;have t1:=h.pc.tri p v1;have t2:=h.pc.tri _ ha;have t3:=h.pc.tri _ hb;rw [d3,d4] at t2;rw [d5,d6] at t3;by_cases c1:(e:Int) < (f (bN p) + f p - f (aN p)) / 2
 ·have e1:tuP f c=1000 * bN p + (nN f (bN p) - 1 - e):=by unfold tuP; rw [hp,hs,if_pos c1]
  have dd:=Xo (p:=bN p) (s:=nN f (bN p) - 1 - e) (by omega);refine ⟨?_,?_,?_,?_⟩
  ·unfold VpP; rw [e1,dd.1,dd.2]; exact ⟨hb,by omega⟩
  ·rw [e1]
   unfold tuP;rw [dd.1,dd.2,d5,d6,if_neg (by omega)];omega
  ·rw [e1,dd.1]; exact d2
  ·rw [e1,dd.1]; exact d8
 ·have e1:tuP f c=1000 * aN p + (nN f p - 1 - e):=by unfold tuP; rw [hp,hs,if_neg c1]
  have dd:=Xo (p:=aN p) (s:=nN f p - 1 - e) (by omega);refine ⟨?_,?_,?_,?_⟩
  ·unfold VpP; rw [e1,dd.1,dd.2]; exact ⟨ha,by omega⟩
  ·rw [e1]
   unfold tuP;rw [dd.1,dd.2,d3,d4,if_pos (by omega)];omega
  ·rw [e1,dd.1]; exact d1
  ·rw [e1,dd.1]; exact d7
def Fam.tu_ne (h:Fam M f n) (v:VpP M f c):tuP f c≠c:=λz=>(h.tu v).2.2.2 (by rw [z])
def Fam.nx (h:Fam M f n) {c:Nat} (v:VpP M f c):VpP M f (nxP M f c):=(h.tu (h.sg v).choose_spec.2.2.1).1
def Fam.sgV (h:Fam M f n) (v:VpP M f c):VpP M f (sgP M f c):=(h.sg v).choose_spec.2.2.1
def Fam.sgsg (h:Fam M f n) (v:VpP M f c):sgP M f (sgP M f c)=c:=(h.sg v).choose_spec.2.2.2.1
def Fam.nx_inj (h:Fam M f n) (v:VpP M f c) (v':VpP M f d) (e:nxP M f c=nxP M f d):c=d:=by
 have e1:=congrArg (tuP f) e;unfold nxP at e1;rw [(h.tu (h.sgV v)).2.1,(h.tu (h.sgV v')).2.1] at e1;have e2:=congrArg (sgP M f) e1;rwa [h.sgsg v,h.sgsg v'] at e2
theorem Fam.itV (h:Fam M f n) (v:VpP M f c):∀ k,VpP M f (it (nxP M f) k c)
 | 0=>v
 | k + 1=>h.nx (h.itV v k)
theorem Fam.it_inj (h:Fam M f n):∀ (k:Nat) {c d:Nat},VpP M f c->VpP M f d->it (nxP M f) k c=it (nxP M f) k d->c=d
 | 0,_,_,_,_,e=>e
 | k + 1,_,_,v,v',e=>h.it_inj k v v' (h.nx_inj (h.itV v k) (h.itV v' k) e)
theorem Zcd (g:Nat->Nat) (x:Nat):∀ k,it g (k + 1) x=it g k (g x)
 | 0=>rfl
 | k + 1=>congrArg g (Zcd g x k)
theorem Fam.turn (h:Fam M f n) {z:Nat} (v:VpP M f z):∀ k,it (nxP M f) k (sgP M f (it (nxP M f) k z))=sgP M f z
 | 0=>rfl
 | k + 1=>by
  rw [Zcd];have w:=h.itV v k;have e:nxP M f (sgP M f (it (nxP M f) (k + 1) z))=sgP M f (it (nxP M f) k z):=by
   show tuP f (sgP M f (sgP M f (nxP M f (it (nxP M f) k z))))=_
   rw [h.sgsg (h.nx w)]
   exact (h.tu (h.sgV w)).2.1
  rw [e];exact h.turn v k
def Fam.apart (h:Fam M f n) (v:VpP M f z) (m:Nat):sgP M f z≠it (nxP M f) m z:=λe=>by
 obtain ⟨i,hi | hi⟩:∃ i,m=i + i\/m=i + 1 + i:=⟨m / 2,by omega⟩
 ·subst hi
  have w:=h.itV v i;rw [Vj,<- h.turn v i] at e;exact h.sg_ne w (h.it_inj i (h.sgV w) w e)
 ·subst hi
  have w:=h.itV v i;have e2:it (nxP M f) (i + 1 + i) z=it (nxP M f) i (nxP M f (it (nxP M f) i z)):=by
   rw [Vj,Zcd]
  rw [e2,<- h.turn v i] at e;have:=h.it_inj i (h.sgV w) (h.nx w) e;exact h.tu_ne (h.sgV w) this.symm
def RnP (M:Lq) (f:Nat->Int) (c d:Nat):Prop:=VpP M f c/\nxP M f c=d
def Fam.rinj (h:Fam M f n):∀ a b x,RnP M f a x->RnP M f b x->a=b:=λa b x h1 h2=>h.nx_inj h1.1 h2.1 (h1.2.trans h2.2.symm)
def rfn:∀ a x y,RnP M f a x->RnP M f a y->x=y:=λa x y h1 h2=>h1.2.symm.trans h2.2
theorem Wl {os:List Nat} (o:Orb (RnP M f) c os):∀ i x,os[i]?=some x->x=it (nxP M f) i c
 | 0,x,hx=>by rw [o.head] at hx; cases hx; rfl
 | i + 1,x,hx=>by
  have hi:i < os.length:=by have:=(Aa hx).1; omega
  have e:=Ac hi;have r:=o.chain i _ x e hx;rw [<- r.2,Wl o i _ e];rfl
def Fam.orbV (h:Fam M f n) {c:Nat} (v:VpP M f c) {os:List Nat} (o:Orb (RnP M f) c os):∀ x∈os,VpP M f x:=λx hx=>by
 obtain ⟨i,hi,e⟩:=mem_iff_getElem.mp hx;rw [Wl o i x (by rw [Ac hi,e])];exact h.itV v i
def ptsL (f:Nat->Int):Nat->List Nat
 | 0=>[]
 | p + 1=>ptsL f p ++ (List.range (nN f p)).map λs=>1000 * p + s
theorem Zbl (l7:∀ p,nN f p<=900\/True):∀ {m c:Nat},(∀ p,p < m->nN f p<=900)->(c∈ptsL f m ↔ c / 1000 < m/\c % 1000 < nN f (c / 1000))
 | 0,c,_=>by simp [ptsL]
 | m + 1,c,hl=>by
  unfold ptsL;rw [mem_append,Zbl l7 (λp hp=>hl p (by omega)),mem_map];have:=hl m (lt_succ_self _);constructor
  ·rintro (⟨h1,h2⟩ | ⟨s,hs,rfl⟩)
   ·exact ⟨by omega,h2⟩
   ·have:=mem_range.mp hs
    have d:=Xo (p:=m) (s:=s) (by omega);rw [d.1,d.2];exact ⟨by omega,this⟩
  ·rintro ⟨h1,h2⟩
   by_cases z:c / 1000=m
   ·exact .inr ⟨c % 1000,mem_range.mpr (by rw [<- z]; exact h2),by omega⟩
   ·exact .inl ⟨by omega,h2⟩
def Fam.pts_mem (h:Fam M f n):c∈ptsL f M.length ↔ VpP M f c:=Zbl (λ_=>.inr trivial) λp hp=>(h.nf hp).2
theorem Va (f:Nat->Int):∀ m,(∀ p,p < m->0<=f p)->((ptsL f m).length:Int)=sF f m
 | 0,_=>rfl
 | m + 1,hl=>by
  unfold ptsL;rw [Ae,Ab,length_range];have:=Va f m λp hp=>hl p (by omega);have h0:=hl m (lt_succ_self _);show ((_ + nN f m:Nat):Int)=sF f (m + 1);unfold nN sF;omega
theorem Qs:∀ (l k:List Nat),l.Nodup->(∀ x∈l,x∈k)->l.length<=k.length
 | [],_,_,_=>Az _
 | x :: l,k,nd,h=>by
  obtain ⟨n1,n2⟩:=nodup_cons.mp nd;have hx:=h x mem_cons_self;have:=Qs l (k.erase x) n2 λy hy=>(mem_erase_of_ne (λz=>n1 (by rw [<- z]; exact hy))).mpr (h y (mem_cons_of_mem _ hy));rw [length_erase_of_mem hx] at this;have:=length_pos_of_mem hx;rw [length_cons];omega
def Fam.few (h:Fam M f n) (hs:sF f M.length<=1200) {l:List Nat} (nd:l.Nodup) (hv:∀ c∈l,VpP M f c):l.length<=1200:=by
 have h1:=Qs l (ptsL f M.length) nd λc hc=>h.pts_mem.mpr (hv c hc);have h2:=Va f M.length h.pc.nn;omega
theorem Fam.orb_go (h:Fam M f n) (hs:sF f M.length<=1200):∀ (k c:Nat) (os:List Nat),VpP M f c->Orb (RnP M f) c os->1200 - os.length<=k->∃ ds,OrbEnd (RnP M f) c ds
 | k,c,os,v,o,hk=>by
  have qa:=o.pos;obtain ⟨l,hl⟩:∃ l,os[os.length - 1]?=some l:=⟨_,Ac (by omega)⟩;have vl:=h.orbV v o l (Au hl);have r:RnP M f l (nxP M f l):=⟨vl,rfl⟩;by_cases e:nxP M f l=c
  ·exact ⟨os,o,l,hl,e ▸ r⟩
  ·have o2:=o.snoc hl r (o.new h.rinj hl r e)
   have:=h.few hs o2.nodup (h.orbV v o2);rw [Ae,At] at this
   cases k with
   | zero=>omega
   | succ k=>exact h.orb_go hs k c _ v o2 (by rw [Ae,At]; omega)
def Fam.orb_ex (h:Fam M f n) (hs:sF f M.length<=1200) (v:VpP M f c):∃ os,OrbEnd (RnP M f) c os:=h.orb_go hs _ c [c] v (Orb.one c) (An _)
open Classical in
noncomputable def f7 (M:Lq) (f:Nat->Int) (c:Nat):List Nat:=if h:∃ os,OrbEnd (RnP M f) c os then h.choose else []
def Jk {c:Nat} {os:List Nat} (o:OrbEnd (RnP M f) c os):f7 M f c=os:=by
 have hx:∃ os,OrbEnd (RnP M f) c os:=⟨os,o⟩;unfold f7;rw [dif_pos hx];exact OrbEnd.same rfn hx.choose_spec o
def Fam.orb (h:Fam M f n) (hs:sF f M.length<=1200) (v:VpP M f c):OrbEnd (RnP M f) c (f7 M f c):=by
 obtain ⟨os,o⟩:=h.orb_ex hs v;rw [Jk o];exact o
def inS (M:Lq) (f:Nat->Int) (D:List Nat) (c:Nat):Prop:=∃ d∈D,c∈f7 M f d\/sgP M f c∈f7 M f d
def Zbx {c a b:Nat} {os:List Nat} (o:OrbEnd (RnP M f) c os) (ha:a∈os) (r:RnP M f a b):b∈os:=by
 obtain ⟨i,hi,e⟩:=mem_iff_getElem.mp ha;have e':os[i]?=some a:=by rw [Ac hi,e]
 by_cases z:i + 1 < os.length
 ·have e2:=Ac z
  rw [rfn _ _ _ r (o.chain i a _ e' e2)];exact getElem_mem z
 ·obtain ⟨l,hl,rl⟩:=o.last
  rw [show os.length - 1=i by omega,e'] at hl;cases hl;rw [rfn _ _ _ r rl];exact Au o.head
def Fam.back (h:Fam M f n) (hs:sF f M.length<=1200) (hD:∀ d∈D,VpP M f d) (v:VpP M f c) (hi:inS M f D (nxP M f c)):inS M f D c:=by
 obtain ⟨d,hd,z | z⟩:=hi
 ·exact ⟨d,hd,.inl ((h.orb hs (hD d hd)).before h.rinj z ⟨v,Y⟩)⟩
 ·refine ⟨d,hd,.inr ?_⟩
  have e:nxP M f (sgP M f (nxP M f c))=sgP M f c:=by
   have:=h.turn v 1;exact this
  have:=Zbx (h.orb hs (hD d hd)) z ⟨h.sgV (h.nx v),rfl⟩;rwa [e] at this
noncomputable def gT (M:Lq) (f:Nat->Int):List Nat->List Nat->List Nat
 | [],D=>D
 | c :: r,D=>gT M f r (@ite _ (inS M f D c) (Classical.propDecidable _) D (D ++ [c]))
theorem G5 (c:Nat):∀ (l D:List Nat),gT M f (l ++ [c]) D=@ite _ (inS M f (gT M f l D) c) (Classical.propDecidable _) (gT M f l D) (gT M f l D ++ [c])
 | [],D=>rfl
 | x :: l,D=>G5 c l _
def Zn6 (h:inS M f (gT M f l []) c):gT M f (l ++ [c]) []=gT M f l []:=by rw [G5,if_pos h]
def Zo6 (h:¬ inS M f (gT M f l []) c):gT M f (l ++ [c]) []=gT M f l [] ++ [c]:=by rw [G5,if_neg h]
noncomputable def wdP (M:Lq) (f:Nat->Int) (c:Nat):List Nat:=(f7 M f c).map (· / 1000)
def Fam.plain (h:Fam M f n) (v:VpP M f c) {os:List Nat} (o:OrbEnd (RnP M f) c os):Pl M (os.map (· / 1000)):=by
 have hp:=o.pos;refine ⟨λz=>?_,λp uk=>?_,λk a p ha n9 m hm=>?_⟩
 ·rw [map_eq_nil_iff] at z; rw [z] at hp; simp at hp
 ·obtain ⟨x,hx,rfl⟩:=mem_map.mp uk
  obtain ⟨q,e,_⟩:=h.sg (h.orbV v o.toOrb x hx);exact ⟨q,e⟩
 ·rw [Ab,Ah] at n9
  rw [Ah] at ha;obtain ⟨x,ex,rfl⟩:=Option.map_eq_some_iff.mp ha;obtain ⟨y,ey,rfl⟩:=Option.map_eq_some_iff.mp n9;have vx:=h.orbV v o.toOrb x (Au ex)
  have r:RnP M f x y:=by
   have hk:=(Aa ex).1;by_cases z:k + 1 < os.length
   ·rw [mod_eq_of_lt z] at ey
    exact o.chain k x y ex ey
   ·rw [show k + 1=os.length by omega,mod_self,o.head] at ey
    cases ey;obtain ⟨l,hl,rl⟩:=o.last;rw [show os.length - 1=k by omega,ex] at hl;cases hl;exact rl
  obtain ⟨q,e1,_,v2,_,e5,_⟩:=h.sg vx;rw [hm] at e1;cases e1;obtain ⟨_,_,t3,t4⟩:=h.tu v2;rw [e5] at t3 t4;rw [<- r.2];exact ⟨t3,t4⟩
end
end KT
namespace L2
open PySem PySem.SetTable
def s5:Nat->Nat
 | 0=>0
 | n + 1=>5 * s5 n + 1
theorem Kr:∀ n,4 * s5 n + 1=5 ^ n
 | 0=>rfl
 | n + 1=>by rw [Nat.pow_succ,<- Kr n]; show 4 * (5 * s5 n + 1) + 1=_; lia
def Zm9 (n:Nat):s5 (2 * n)=s5 n * (5 ^ n + 1):=by
 have h1:=Kr (2 * n);have h2:=Kr n;have e:5 ^ (2 * n)=5 ^ n * 5 ^ n:=by rw [Nat.two_mul,Nat.pow_add]
 have:4 * s5 (2 * n)=4 * (s5 n * (5 ^ n + 1)):=by
  have a1:4 * s5 (2 * n) + 1=5 ^ n * 5 ^ n:=by rw [h1,e]
  have a2:4 * (s5 n * (5 ^ n + 1)) + 1=5 ^ n * 5 ^ n:=by
   rw [<- h2];generalize s5 n=x;rw [Nat.add_assoc (4 * x) 1 1];simp only [Nat.mul_add,Nat.add_mul,Nat.mul_one,Nat.one_mul];have:4 * x * (4 * x)=4 * (x * (4 * x)):=Nat.mul_assoc _ _ _;lia
  lia
 lia
theorem Zg1:∀ n,s5 n % 2=n % 2
 | 0=>rfl
 | n + 1=>by have:=Zg1 n; show (5 * s5 n + 1) % 2=_; lia
theorem Uy:∀ n,5 ^ n % 4=1
 | 0=>rfl
 | n + 1=>by have:=Uy n; rw [Nat.pow_succ]; lia
def G1 {k x y:Nat} (hy:y % 2=1) (h:2 ^ k ∣ x * y):2 ^ k ∣ x:=by
 have c:Nat.Coprime (2 ^ k) y:=by
  apply Nat.Coprime.pow_left;rw [coprime_iff_gcd_eq_one,gcd_rec,hy];rfl
 exact c.dvd_of_dvd_mul_right h
theorem Zg2:∀ (k n:Nat),2 ^ k ∣ s5 n->2 ^ k ∣ n
 | 0,n,_=>by rw [Nat.pow_zero]; exact Nat.one_dvd n
 | k + 1,n,h=>by
  have h2:2 ∣ s5 n:=Nat.dvd_trans ⟨2 ^ k,by rw [Nat.pow_succ,Nat.mul_comm]⟩ h;have ho:=Zg1 n;obtain ⟨m,rfl⟩:∃ m,n=2 * m:=⟨n / 2,by lia⟩;rw [Zm9] at h;have f:=Uy m;obtain ⟨q,hq⟩:∃ q,5 ^ m + 1=2 * q:=⟨(5 ^ m + 1) / 2,by lia⟩;have zi:q % 2=1:=by lia
  rw [hq,Nat.pow_succ,<- Nat.mul_assoc,Nat.mul_right_comm,Nat.mul_comm _ 2,Nat.mul_comm (s5 m * q) 2] at h;have h:=Nat.dvd_of_mul_dvd_mul_left (by decide) h;rw [Nat.pow_succ,Nat.mul_comm];exact Nat.mul_dvd_mul_left 2 (Zg2 k m (G1 zi h))
def lq (N:Nat):Nat->Nat->Nat
 | 0,x=>x
 | n + 1,x=>(lq N n x * 5 + 1) % N
theorem Zb9 (N x:Nat):∀ n,lq N n x % N=(5 ^ n * x + s5 n) % N
 | 0=>by show x % N=(1 * x + 0) % N; simp
 | n + 1=>by
  have ih:=Zb9 N x n;show (lq N n x * 5 + 1) % N % N=(5 ^ (n + 1) * x + (5 * s5 n + 1)) % N;rw [mod_mod,Nat.pow_succ,add_mod,mul_mod,ih,<- mul_mod,<- add_mod];congr 1;rw [Nat.add_mul,Nat.mul_right_comm,Nat.mul_comm (s5 n) 5];lia
theorem Zg3 (m:Nat):∀ n,s5 (n + m)=5 ^ n * s5 m + s5 n
 | 0=>by simp [s5]
 | n + 1=>by
  rw [Nat.add_right_comm];show 5 * s5 (n + m) + 1=5 ^ (n + 1) * s5 m + (5 * s5 n + 1);rw [Zg3 m n,Nat.pow_succ,Nat.mul_add,<- Nat.mul_assoc,Nat.mul_comm 5 (5 ^ n)];lia
def Zny {k:Nat} (ka:i < j) (hj:j < 2 ^ k):lq (2 ^ k) i x % 2 ^ k≠lq (2 ^ k) j x % 2 ^ k:=λe=>by
 rw [Zb9,Zb9] at e;obtain ⟨d,rfl⟩:∃ d,j=i + d:=⟨j - i,by lia⟩;have e1:5 ^ (i + d) * x + s5 (i + d)=(5 ^ i * x + s5 i) + 5 ^ i * (s5 d * (4 * x + 1)):=by
  rw [Zg3,Nat.pow_add,<- Kr d]
  generalize 5 ^ i=u
  generalize s5 d=v
  simp only [Nat.mul_add,Nat.add_mul,Nat.mul_one,Nat.one_mul]
  have:u * (4 * v) * x=u * (v * (4 * x)):=by
   rw [Nat.mul_assoc,Nat.mul_comm 4 v,Nat.mul_assoc v 4 x]
  lia
 have dv:2 ^ k ∣ 5 ^ i * (s5 d * (4 * x + 1)):=by
  have:(5 ^ i * x + s5 i) % 2 ^ k=((5 ^ i * x + s5 i) + 5 ^ i * (s5 d * (4 * x + 1))) % 2 ^ k:=by rw [<- e1]; exact e
  have:=sub_mod_eq_zero_of_mod_eq this.symm;rw [Nat.add_sub_cancel_left] at this;exact dvd_of_mod_eq_zero this
 have o1:5 ^ i % 2=1:=by have:=Uy i; lia
 rw [Nat.mul_comm] at dv;have dv:=G1 o1 dv;have dv:=G1 (show (4 * x + 1) % 2=1 by lia) dv;have:=le_of_dvd (by lia) (Zg2 k d dv);lia
theorem G3:∀ (n:Nat) (l:List Nat),l.Nodup->(∀ a∈l,a < n)->l.length<=n
 | 0,l,_,h=>by
  cases l with
  | nil=>exact An _
  | cons a r=>exact absurd (h a mem_cons_self) (not_lt_zero _)
 | n + 1,l,hd,h=>by
  have ih:=G3 n (l.erase n) (hd.erase n) λa ha=>by
   have:=(List.Nodup.mem_erase_iff hd).mp ha;have:=h a this.2;lia
  by_cases z:n∈l
  ·have:=length_erase_of_mem z
   lia
  ·rw [erase_of_not_mem z] at ih
   lia
def Znz {k y:Nat} (hy:y < 2 ^ k):∃ n,n < 2 ^ k/\lq (2 ^ k) n x % 2 ^ k=y:=by
 refine Classical.byContradiction λno=>?_;have pos:0 < 2 ^ k:=Nat.two_pow_pos k;have nd:(y :: (List.range (2 ^ k)).map λn=>lq (2 ^ k) n x % 2 ^ k).Nodup:=by
  refine nodup_cons.mpr ⟨λz=>?_,?_⟩
  ·obtain ⟨n,hn,e⟩:=mem_map.mp z
   exact no ⟨n,mem_range.mp hn,e⟩
  ·refine pairwise_map.mpr (List.Pairwise.imp_of_mem (λ{a b} ha hb h=>Zny h (mem_range.mp hb)) pairwise_lt_range)
 have:=G3 (2 ^ k) _ nd λa ha=>by
  rcases Ar ha with rfl | ha
  ·exact hy
  ·obtain ⟨n,_,rfl⟩:=mem_map.mp ha
   exact mod_lt _ pos
 rw [length_cons,Ab,length_range] at this;lia
def lp (m:Nat) (h:Int):Nat->Nat × Nat
 | 0=>(bits h % (m + 1),bits h)
 | n + 1=>leap m (lp m h n).1 (lp m h n).2
theorem Zfr (m:Nat) (h:Int):∀ n,(lp m h n).1<=m
 | 0=>le_of_lt_succ (mod_lt _ (succ_pos m))
 | n + 1=>le_of_lt_succ (mod_lt _ (succ_pos m))
def Zmm (h:Int):bits h < 2 ^ 64:=by
 unfold bits;have h1:=Int.emod_nonneg h (show (2 ^ 64:Int)≠0 by decide);have h2:=Int.emod_lt_of_pos h (show (0:Int) < 2 ^ 64 by decide);lia
theorem Zhr (m:Nat) (h:Int):∀ n,(lp m h n).2 * 32 ^ n<=bits h
 | 0=>by show bits h * 1<=_; lia
 | n + 1=>by
  have ih:=Zhr m h n;show (lp m h n).2 / 32 * 32 ^ (n + 1)<=bits h;have:(lp m h n).2 / 32 * 32<=(lp m h n).2:=div_mul_le_self _ _
  calc (lp m h n).2 / 32 * 32 ^ (n + 1)=((lp m h n).2 / 32 * 32) * 32 ^ n:=by rw [Nat.pow_succ,Nat.mul_assoc,Nat.mul_comm 32]
   _<=(lp m h n).2 * 32 ^ n:=mul_le_mul_right _ this
   _<=bits h:=ih
def Zl6 (m:Nat) (h:Int) (n:Nat):(lp m h (13 + n)).2=0:=by
 have h1:=Zhr m h 13;have h2:=Zmm h;have h3:(lp m h 13).2=0:=by
  rcases eq_zero_or_pos (lp m h 13).2 with z | z
  ·exact z
  ·have:1 * 32 ^ 13<=(lp m h 13).2 * 32 ^ 13:=mul_le_mul_right _ z
   have e:(32:Nat) ^ 13=36893488147419103232:=by decide +kernel
   have e2:(2:Nat) ^ 64=18446744073709551616:=by decide +kernel
   lia
 induction n with
 | zero=>exact h3
 | succ n ih=>show (lp m h (13 + n)).2 / 32=0; rw [ih]
theorem Zks (m:Nat) (h:Int):∀ n,(lp m h (13 + n)).1=lq (m + 1) n (lp m h 13).1
 | 0=>rfl
 | n + 1=>by
  show ((lp m h (13 + n)).1 * 5 + 1 + (lp m h (13 + n)).2 / 32) % (m + 1)=(lq (m + 1) n (lp m h 13).1 * 5 + 1) % (m + 1);rw [Zl6,Zks m h n]
def Zhs {k:Nat} (hm:m + 1=2 ^ k) (h:Int) {y:Nat} (hy:y<=m):∃ n,n<=m + 13/\(lp m h n).1=y:=by
 obtain ⟨n,h1,h2⟩:=Znz (k:=k) (x:=(lp m h 13).1) (y:=y) (by lia);refine ⟨13 + n,by lia,?_⟩;have e:=Zks m h n;have hl:=Zfr m h (13 + n);rw [hm] at e;rw [<- h2,<- e,mod_eq_of_lt (by lia)]
def advM (m:Nat) (p:Probe):Probe :=
 if p.more > 0 then { p with j:=p.j + 1,more:=p.more - 1 } else
 { p with j:=(leap m p.i p.perturb).1,more:=runEnd m (leap m p.i p.perturb).1 - (leap m p.i p.perturb).1,i:=(leap m p.i p.perturb).1,perturb:=(leap m p.i p.perturb).2 }
def Zim (t:SetTable) (p:Probe):t.advance p=advM t.mask p:=by unfold advance advM; split <;> rfl
def stM (m:Nat) (h:Int):Probe:={ j:=bits h % (m + 1),more:=runEnd m (bits h % (m + 1)) - bits h % (m + 1),i:=bits h % (m + 1),perturb:=bits h,dummy:=none }
def pth (m:Nat) (h:Int):Nat->Probe
 | 0=>stM m h
 | n + 1=>advM m (pth m h n)
def runL (m i:Nat):Nat:=runEnd m i - i
def Zna (m i:Nat):runL m i<=9:=by unfold runL runEnd; split <;> lia
def Zg4 (h:i<=m):i + runL m i<=m:=by unfold runL runEnd; split <;> lia
def ix (m:Nat) (h:Int):Nat->Nat
 | 0=>0
 | n + 1=>ix m h n + runL m (lp m h n).1 + 1
theorem Zkv (m:Nat) (h:Int):∀ n,ix m h n<=10 * n
 | 0=>An _
 | n + 1=>by have:=Zkv m h n; have:=Zna m (lp m h n).1; show ix m h n + _ + 1<=_; lia
theorem Jg (m:Nat) (h:Int):∀ n r,r<=runL m (lp m h n).1->pth m h (ix m h n + r)={ j:=(lp m h n).1 + r,more:=runL m (lp m h n).1 - r,i:=(lp m h n).1,perturb:=(lp m h n).2,dummy:=none }
 | 0,0,_=>rfl
 | n + 1,0,_=>by
  have e:=Jg m h n (runL m (lp m h n).1) (An _);show pth m h (ix m h n + runL m (lp m h n).1 + 1)=_;show advM m (pth m h (ix m h n + runL m (lp m h n).1))=_;rw [e];unfold advM;rw [if_neg (by show ¬ runL m (lp m h n).1 - runL m (lp m h n).1 > 0; lia)];rfl
 | n,r + 1,hr=>by
  have e:=Jg m h n r (by lia);show advM m (pth m h (ix m h n + r))=_;rw [e];unfold advM;rw [if_pos (by show runL m (lp m h n).1 - r > 0; lia)];show Probe.mk _ _ _ _ _=_;congr 1
theorem Zbm (m:Nat) (h:Int):∀ n,∃ L r,n=ix m h L + r/\r<=runL m (lp m h L).1
 | 0=>⟨0,0,rfl,Az _⟩
 | n + 1=>by
  obtain ⟨L,r,rfl,hr⟩:=Zbm m h n;by_cases z:r < runL m (lp m h L).1
  ·exact ⟨L,r + 1,Y,z⟩
  ·exact ⟨L + 1,0,by show _=ix m h L + runL m (lp m h L).1 + 1 + 0; lia,Az _⟩
def Zal (m:Nat) (h:Int) (n:Nat):(pth m h n).j<=m/\(pth m h n).dummy=none:=by
 obtain ⟨L,r,rfl,hr⟩:=Zbm m h n;rw [Jg m h L r hr];exact ⟨by have:=Zg4 (Zfr m h L); show (lp m h L).1 + r<=m; lia,rfl⟩
def Zao {k:Nat} (hm:m + 1=2 ^ k) (h:Int) {O:Nat->Prop} (hy:y<=m) (ho:¬ O y):∃ N,N < 10 * turns m/\¬ O (pth m h N).j/\∀ n,n < N->O (pth m h n).j:=by
 obtain ⟨L,h1,h2⟩:=Zhs hm h hy;have e:=Jg m h L 0 (Az _);have f:¬ O (pth m h (ix m h L)).j:=by rw [show ix m h L=ix m h L + 0 from rfl,e]; show ¬ O ((lp m h L).1 + 0); rw [h2]; exact ho
 have:∀ a,¬ O (pth m h a).j->∃ N,N<=a/\¬ O (pth m h N).j/\∀ n,n < N->O (pth m h n).j:=λa=>by
  induction a using Nat.strongRecOn with
  | ind a ih =>
   intro ha;by_cases c:∃ b,b < a/\¬ O (pth m h b).j
   ·obtain ⟨b,b1,b2⟩:=c
    obtain ⟨N,n1,n2⟩:=ih b b1 b2;exact ⟨N,by lia,n2⟩
   ·exact ⟨a,An _,ha,λn hn=>Classical.byContradiction λz=>c ⟨n,hn,z⟩⟩
 obtain ⟨N,n1,n2⟩:=this _ f;refine ⟨N,?_,n2⟩;have:=Zkv m h L;unfold turns;lia
theorem U1 {ps:List Nat} (hp:ps.Pairwise (· < ·)) (j:Nat):∀ (gl lo hi:Nat),hi - lo<=gl->lo<=hi->hi<=ps.length->(∀ i x,i < lo->ps[i]?=some x->x < j)->(∀ i x,hi<=i->ps[i]?=some x->j<=x) ->
  below.go ps.toArray j gl lo hi<=ps.length/\(∀ i x,i < below.go ps.toArray j gl lo hi->ps[i]?=some x->x < j)/\(∀ i x,below.go ps.toArray j gl lo hi<=i->ps[i]?=some x->j<=x)
 | 0,lo,hi,hf,hl,hh,h1,h2=>by
  have:lo=hi:=by lia
  subst this;exact ⟨hh,h1,h2⟩
 | gl + 1,lo,hi,hf,hl,hh,h1,h2=>by
  unfold below.go;by_cases c:lo < hi
  ·rw [if_pos c]
   have hm:(lo + hi) / 2 < ps.length:=by lia
   have eg:ps.toArray.getD ((lo + hi) / 2) j=ps[(lo + hi) / 2]:=by rw [Array.getD_eq_getD_getElem?,getElem?_toArray,Ac hm]; rfl
   simp only [eg]
   have mono:∀ (a b x y:Nat),a<=b->ps[a]?=some x->ps[b]?=some y->x<=y:=λa b x y im ha hb=>by
    rcases Nat.eq_or_lt_of_le im with z | z
    ·subst z; rw [ha] at hb; cases hb; exact An _
    ·obtain ⟨a1,a2⟩:=Aa ha
     obtain ⟨b1,b2⟩:=Aa hb;have:=pairwise_iff_getElem.mp hp a b a1 b1 z;lia
   by_cases c2:ps[(lo + hi) / 2] < j
   ·rw [if_pos c2]
    refine U1 hp j gl _ _ (by lia) (by lia) hh (λi x ja hx=>?_) h2;have:=mono i ((lo + hi) / 2) x _ (by lia) hx (Ac hm);lia
   ·rw [if_neg c2]
    refine U1 hp j gl _ _ (by lia) (by lia) (by lia) h1 (λi x ja hx=>?_);have:=mono ((lo + hi) / 2) i _ x ja (Ac hm) hx;lia
  ·rw [if_neg c]
   have:lo=hi:=by lia
   subst this;exact ⟨hh,h1,h2⟩
def Zcv {ps:List Nat} (hp:ps.Pairwise (· < ·)) (j:Nat):below ps.toArray j<=ps.length/\(∀ i x,i < below ps.toArray j->ps[i]?=some x->x < j)/\(∀ i x,below ps.toArray j<=i->ps[i]?=some x->j<=x):=by
 unfold below;rw [Aq];exact U1 hp j _ _ _ (by lia) (Az _) (An _) (λi x h=>absurd h (not_lt_zero _)) λi x h hx=>by
  have:=(Aa hx).1
  lia
def Zej (j:Nat):has #[] j=false:=by unfold has; simp
def Fb {t:SetTable} {ps:List Nat} (hp:ps.Pairwise (· < ·)) (e:t.place=ps.toArray) (h:ps[i]?=some j):t.slot j=.live i:=by
 obtain ⟨b1,b2,b3⟩:=Zcv hp j;have hi:=(Aa h).1;have hb:below ps.toArray j=i:=by
  rcases Nat.lt_trichotomy (below ps.toArray j) i with z | z | z
  ·have hx:=Ac (show below ps.toArray j < ps.length by lia)
   have:=b3 _ _ (An _) hx
   obtain ⟨a1,a2⟩:=Aa h
   have:=pairwise_iff_getElem.mp hp _ i (by lia) a1 z
   lia
  ·exact z
  ·have:=b2 i j z h
   lia
 unfold slot;rw [e];simp only [hb,getElem?_toArray,h,beq_self_eq_true,if_true]
def Ze9 {t:SetTable} {ps:List Nat} (hp:ps.Pairwise (· < ·)) (e:t.place=ps.toArray) (d:t.dummies=#[]) (h:j ∉ ps):t.slot j=.empty:=by
 unfold slot;rw [e,d,Zej];have:(ps.toArray[below ps.toArray j]? == some j)=false:=by
  rw [beq_eq_false_iff_ne]
  intro z
  rw [getElem?_toArray] at z
  exact h (Au z)
 simp only [this,Bool.false_eq_true,if_false]
theorem Zbp {t:SetTable} {ps:List Nat} (hp:ps.Pairwise (· < ·)) (e:t.place=ps.toArray) (d:t.dummies=#[]) (hN:(pth t.mask h N).j ∉ ps) (hl:∀ n,n < N->(pth t.mask h n).j∈ps) :
  ∀ (gl n:Nat),n<=N->N - n < gl ->
   probe.go t hashAt h gl (pth t.mask h n)=some (.empty (pth t.mask h N).j none)/\(∀ n',n<=n'->n' < N->∀ i,ps[i]?=some (pth t.mask h n').j->hashAt i≠h) \/
   ∃ n' i,n<=n'/\n' < N/\ps[i]?=some (pth t.mask h n').j/\hashAt i=h/\probe.go t hashAt h gl (pth t.mask h n)=some (.candidate (pth t.mask h n').j i (pth t.mask h (n' + 1)))/\∀ uh,n<=uh->uh < n'->∀ i,ps[i]?=some (pth t.mask h uh).j->hashAt i≠h
 | 0,n,_,h0=>absurd h0 (not_lt_zero _)
 | gl + 1,n,hn,hf=>by
  unfold probe.go
  rcases Nat.eq_or_lt_of_le hn with z | z
  ·subst z
   rw [Ze9 hp e d hN];left;refine ⟨?_,λn' h1 h2=>by lia⟩;show some (Met.empty _ _)=_;rw [(Zal t.mask h n).2]
  ·obtain ⟨i,hi⟩:=mem_iff_getElem?.mp (hl n z)
   rw [Fb hp e hi];have uq:∀ i',ps[i']?=some (pth t.mask h n).j->i'=i:=λi' ja=>by
    obtain ⟨a1,a2⟩:=Aa hi
    obtain ⟨b1,b2⟩:=Aa ja
    have nd:ps.Nodup:=hp.imp λh=>As h
    exact (getElem_inj nd).mp (b2.trans a2.symm)
   by_cases c:hashAt i=h
   ·right
    refine ⟨n,i,An _,z,hi,c,?_,λuh h1 h2=>by lia⟩;show (if (hashAt i == h)=true then _ else _)=_;rw [if_pos (by simpa using c),Zim];rfl
   ·have step:(if (hashAt i == h)=true then some (Met.candidate (pth t.mask h n).j i (t.advance (pth t.mask h n))) else probe.go t hashAt h gl (t.advance (pth t.mask h n)))=probe.go t hashAt h gl (pth t.mask h (n + 1)):=by
     rw [if_neg (by simpa using c),Zim];rfl
    have ih:=Zbp hp e d (hashAt:=hashAt) hN hl gl (n + 1) z (by lia);show ((if (hashAt i == h)=true then _ else _)=_/\_)\/_
    rcases ih with ⟨i1,i2⟩ | ⟨n',i',i1,i2,i3,i4,i5,i6⟩
    ·left
     refine ⟨step.trans i1,λn' h1 h2 i' ja=>?_⟩
     rcases Nat.eq_or_lt_of_le h1 with q | q
     ·subst q; rw [uq i' ja]; exact c
     ·exact i2 n' q h2 i' ja
    ·right
     refine ⟨n',i',by lia,i2,i3,i4,step.trans i5,λuh h1 h2 i2' xx=>?_⟩
     rcases Nat.eq_or_lt_of_le h1 with q | q
     ·subst q; rw [uq i2' xx]; exact c
     ·exact i6 uh q h2 i2' xx
theorem Zem {fz:Array (Option Nat)} (hs:fz.size=m + 1) (h:Int):∀ (gl L:Nat) (N:Nat),(∃ L' r,L<=L'/\L' < L + gl/\r<=runL m (lp m h L').1/\N=ix m h L' + r)->fz[(pth m h N).j]?=some none->(∀ n,n < N->fz[(pth m h n).j]?≠some none) ->
  layClean.free m fz gl (lp m h L).1 (lp m h L).2=some (pth m h N).j
 | 0,L,N,⟨L',r,h1,h2,_⟩,_,_=>by lia
 | gl + 1,L,N,⟨L',r,h1,h2,h3,h4⟩,hN,hl=>by
  unfold layClean.free;have l7:=Zfr m h L;have hrun:=Zg4 l7;have er:runEnd m (lp m h L).1 + 1 - (lp m h L).1=runL m (lp m h L).1 + 1:=by unfold runL runEnd; split <;> lia
  rw [er]
  have at':∀ k,k<=runL m (lp m h L).1->((fz.getD ((lp m h L).1 + k) (some 0)).isNone=true ↔ fz[(pth m h (ix m h L + k)).j]?=some none):=λk hk=>by
   rw [Jg m h L k hk];show _ ↔ fz[(lp m h L).1 + k]?=some none;have mj:(lp m h L).1 + k < fz.size:=by lia
   rw [Array.getD_eq_getD_getElem?,Array.getElem?_eq_getElem mj];cases fz[(lp m h L).1 + k] <;> simp
  rcases Nat.eq_or_lt_of_le h1 with z | z
  ·subst z
   have hf:(List.range (runL m (lp m h L).1 + 1)).find? (λk=>(fz.getD ((lp m h L).1 + k) (some 0)).isNone)=some r:=by
    rw [find?_range_eq_some];refine ⟨(at' r h3).mpr (by rw [<- h4]; exact hN),mem_range.mpr (by lia),λj hj=>?_⟩;have:=mt (at' j (by lia)).mp (hl (ix m h L + j) (by lia));rw [Bool.not_eq_true'];exact Bool.eq_false_iff.mpr this
   rw [hf];show some _=some _;rw [h4,Jg m h L r h3]
  ·have hf:(List.range (runL m (lp m h L).1 + 1)).find? (λk=>(fz.getD ((lp m h L).1 + k) (some 0)).isNone)=none:=by
    rw [find?_eq_none];intro k hk;have hk:=mem_range.mp hk
    have mono:∀ a b,a < b->ix m h a + runL m (lp m h a).1 < ix m h b:=λa b im=>by
     induction b with
     | zero=>lia
     | succ b ih =>
      show _ < ix m h b + runL m (lp m h b).1 + 1
      rcases Nat.lt_or_ge a b with q | q
      ·have:=ih q; lia
      ·have:a=b:=by lia
       subst this; lia
    have:=mono L L' z;exact mt (at' k (by lia)).mp (hl (ix m h L + k) (by lia))
   rw [hf];exact Zem hs h gl (L + 1) N ⟨L',r,z,by lia,h3,h4⟩ hN hl
structure Good (m:Nat) (f8:List (Nat × Int × Value)):Prop where
 pw:(f8.map (·.1)).Pairwise (· < ·)
 le:∀ e∈f8,e.1<=m
 rch:∀ e∈f8,∃ n,(pth m e.2.1 n).j=e.1/\∀ n',n' < n->(pth m e.2.1 n').j∈f8.map (·.1)
def Good.nil (m:Nat):Good m []:=⟨List.Pairwise.nil,(λe h=>by cases h),(λe h=>by cases h)⟩
def Uc {α:Type} (l:List α) (p:Nat) (x:α):insertAt l.toArray p x=(l.take p ++ x :: l.drop p).toArray:=by
 unfold insertAt;apply Array.ext';simp [take_of_length_le]
def Good.put {f8:List (Nat × Int × Value)} (g:Good m f8) {x:Value} (hN:(pth m h N).j ∉ f8.map (·.1)) (hl:∀ n,n < N->(pth m h n).j∈f8.map (·.1)) (hp:p=below (f8.map (·.1)).toArray (pth m h N).j) :
  Good m (f8.take p ++ ((pth m h N).j,h,x) :: f8.drop p):=by
 obtain ⟨b1,b2,b3⟩:=Zcv g.pw (pth m h N).j;rw [<- hp] at b1 b2 b3;rw [Ab] at b1;have hj:=(Zal m h N).1;generalize ej:(pth m h N).j=j at *;have mem:∀ y,y∈(f8.take p ++ (j,h,x) :: f8.drop p).map (·.1) ↔ y∈f8.map (·.1)\/y=j:=λy=>by
  have e:f8.map (·.1)=(f8.take p).map (·.1) ++ (f8.drop p).map (·.1):=by rw [<- Aj,take_append_drop]
  rw [e,Aj,map_cons,mem_append,mem_cons,mem_append]
  constructor
  ·rintro (z | z | z)
   ·exact .inl (.inl z)
   ·exact .inr z
   ·exact .inl (.inr z)
  ·rintro ((z | z) | z)
   ·exact .inl z
   ·exact .inr (.inr z)
   ·exact .inr (.inl z)
 have xl:∀ e,e∈f8.take p ++ (j,h,x) :: f8.drop p->e∈f8\/e=(j,h,x):=λe he=>by
  rcases mem_append.mp he with z | z
  ·exact .inl (mem_of_mem_take z)
  ·rcases Ar z with z | z
   ·exact .inr z
   ·exact .inl (mem_of_mem_drop z)
 refine ⟨?_,λe he=>?_,λe he=>?_⟩
 ·have e:(f8.take p ++ (j,h,x) :: f8.drop p).map (·.1)=(f8.map (·.1)).take p ++ j :: (f8.map (·.1)).drop p:=by rw [Aj,map_cons,map_take,map_drop]
  rw [e];have gj:∀ y∈(f8.map (·.1)).take p,y < j:=λy hy=>by
   obtain ⟨i,hi,rfl⟩:=mem_iff_getElem.mp hy
   rw [Ai] at hi
   rw [getElem_take]
   exact b2 i _ (by lia) (Ac _)
  have hgt:∀ y∈(f8.map (·.1)).drop p,j < y:=λy hy=>by
   obtain ⟨i,hi,rfl⟩:=mem_iff_getElem.mp hy;rw [length_drop] at hi;rw [getElem_drop];have h1:=b3 (p + i) _ (le_add_right _ _) (Ac (by lia));have h2:(f8.map (·.1))[p + i]≠j:=λz=>hN (z ▸ getElem_mem _);lia
  have pw:=g.pw;rw [<- take_append_drop p (f8.map (·.1)),pairwise_append] at pw;rw [pairwise_append,pairwise_cons];refine ⟨pw.1,⟨hgt,pw.2.1⟩,λa ha b hb=>?_⟩
  rcases Ar hb with z | z
  ·rw [z]; exact gj a ha
  ·exact pw.2.2 a ha b z
 ·rcases xl e he with z | z
  ·exact g.le e z
  ·rw [z]; exact hj
 ·rcases xl e he with z | z
  ·obtain ⟨n,n1,n2⟩:=g.rch e z
   exact ⟨n,n1,λn' h'=>(mem _).mpr (.inl (n2 n' h'))⟩
  ·subst z
   exact ⟨N,ej,λn' h'=>(mem _).mpr (.inl (hl n' h'))⟩
structure LC (m:Nat) (hs:List Int) (fz:Array (Option Nat)):Prop where
 sz:fz.size=m + 1
 lt:∀ (j i:Nat),fz[j]?=some (some i)->∃ h,hs[i]?=some h/\∃ n,(pth m h n).j=j/\∀ n',n' < n->fz[(pth m h n').j]?≠some none
 un:∀ (j j' i:Nat),fz[j]?=some (some i)->fz[j']?=some (some i)->j=j'
 al:∀ i,i < hs.length->∃ j:Nat,fz[j]?=some (some i)
def LC.free {m:Nat} {hs:List Int} {fz:Array (Option Nat)} (c:LC m hs fz) (hl:hs.length<=m):∃ y:Nat,y<=m/\fz[y]?=some none:=by
 refine Classical.byContradiction λno=>?_
 have all:∀ j:Nat,j<=m->∃ i,fz[j]?=some (some i):=λj hj=>by
  have mj:j < fz.size:=by rw [c.sz]; lia
  cases e:fz[j]? with
  | none=>rw [Array.getElem?_eq_getElem mj] at e; cases e
  | some o =>
   cases o with
   | none=>exact absurd ⟨j,hj,e⟩ no
   | some i=>exact ⟨i,Y⟩
 have nd:((List.range (m + 1)).map λj=>((fz[j]?).join).getD 0).Nodup:=by
  refine pairwise_map.mpr (List.Pairwise.imp_of_mem (λ{a b} ha hb h e=>?_) pairwise_lt_range);obtain ⟨i,hi⟩:=all a (le_of_lt_succ (mem_range.mp ha));obtain ⟨i',ja⟩:=all b (le_of_lt_succ (mem_range.mp hb));rw [hi,ja] at e;have e:i=i':=e;subst e;have:=c.un a b i hi ja;lia
 have:=G3 hs.length _ nd λx hx=>by
  obtain ⟨j,hj,rfl⟩:=mem_map.mp hx;obtain ⟨i,hi⟩:=all j (le_of_lt_succ (mem_range.mp hj));rw [hi];obtain ⟨h,h1,_⟩:=c.lt j i hi;exact (Aa h1).1
 rw [Ab,length_range] at this;lia
def LC.step {m k:Nat} (hm:m + 1=2 ^ k) {hs:List Int} {fz:Array (Option Nat)} (c:LC m hs fz) (hl:hs.length<=m) (h:Int):∃ j,layClean.free m fz (turns m) (bits h % (m + 1)) (bits h)=some j/\LC m (hs ++ [h]) (fz.setIfInBounds j (some hs.length)):=by
 obtain ⟨y,y1,y2⟩:=c.free hl;obtain ⟨N,n1,n2,n3⟩:=Zao hm h (O:=λj=>fz[j]?≠some none) y1 (λz=>z y2);have n2:fz[(pth m h N).j]?=some none:=Classical.byContradiction n2
 have hN:∃ L' r,0<=L'/\L' < 0 + turns m/\r<=runL m (lp m h L').1/\N=ix m h L' + r:=by
  obtain ⟨L,r,e,hr⟩:=Zbm m h N;refine ⟨L,r,Az _,?_,hr,e⟩;obtain ⟨L1,l1,l2⟩:=Zhs hm h y1;have q:N<=ix m h L1:=by
   rcases Nat.lt_or_ge (ix m h L1) N with z | z
   ·have:=n3 _ z
    have e:=Jg m h L1 0 (Az _)
    rw [show ix m h L1=ix m h L1 + 0 from rfl,e] at this
    have this:fz[(lp m h L1).1 + 0]?≠some none:=this
    rw [l2] at this
    exact absurd y2 this
   ·exact z
  have mono:∀ a b,a<=b->ix m h a<=ix m h b:=λa b im=>by
   induction b with
   | zero=>rw [le_zero.mp im]; exact An _
   | succ b ih =>
    rcases Nat.eq_or_lt_of_le im with z | z
    ·rw [z]; exact An _
    ·have:=ih (by lia)
     show _<=ix m h b + _ + 1;lia
  unfold turns
  rcases Nat.lt_or_ge L1 L with z | z
  ·have h1:=mono (L1 + 1) L z
   have h2:ix m h (L1 + 1)=ix m h L1 + runL m (lp m h L1).1 + 1:=rfl;lia
  ·lia
 refine ⟨(pth m h N).j,Zem c.sz h (turns m) 0 N hN n2 n3,?_⟩;have hj:=(Zal m h N).1;have mj:(pth m h N).j < fz.size:=by rw [c.sz]; lia
 have gs:∀ z:Nat,(fz.setIfInBounds (pth m h N).j (some hs.length))[z]?=if (pth m h N).j=z then some (some hs.length) else fz[z]?:=λz=>by
  rw [Array.getElem?_setIfInBounds];by_cases e:(pth m h N).j=z
  ·rw [if_pos e,if_pos e,if_pos mj]
  ·rw [if_neg e,if_neg e]
 have keep:∀ z:Nat,fz[z]?≠some none->(fz.setIfInBounds (pth m h N).j (some hs.length))[z]?≠some none:=λz hz=>by
  rw [gs];split
  ·exact λq=>by cases q
  ·exact hz
 refine ⟨by rw [Array.size_setIfInBounds]; exact c.sz,λj i e=>?_,λj j' i e e'=>?_,λi hi=>?_⟩
 ·rw [gs] at e
  split at e
  ·rename_i z
   cases e;exact ⟨h,by rw [getElem?_append_right (An _),Nat.sub_self]; rfl,N,z,λn' h'=>keep _ (n3 n' h')⟩
  ·obtain ⟨h',h1,n,h2,h3⟩:=c.lt j i e
   exact ⟨h',by rw [Av (Aa h1).1]; exact h1,n,h2,λn' q=>keep _ (h3 n' q)⟩
 ·rw [gs] at e e'
  have no:∀ z:Nat,fz[z]?≠some (some hs.length):=λz q=>by
   obtain ⟨h',h1,_⟩:=c.lt z _ q;have:=(Aa h1).1;lia
  split at e <;> split at e'
  ·rename_i z1 z2; exact z1.symm.trans z2
  ·cases e; exact absurd e' (no _)
  ·cases e'; exact absurd e (no _)
  ·exact c.un j j' i e e'
 ·rw [Ae,At] at hi
  rcases Nat.lt_or_ge i hs.length with z | z
  ·obtain ⟨j,oh⟩:=c.al i z
   refine ⟨j,?_⟩;rw [gs,if_neg (λq=>by rw [<- q,n2] at oh; cases oh)];exact oh
  ·refine ⟨(pth m h N).j,?_⟩
   rw [gs,if_pos rfl,show i=hs.length by lia]
def LC.nil (m:Nat):LC m [] (Array.replicate (m + 1) none):=by
 have e:∀ j i:Nat,(Array.replicate (m + 1) (none:Option Nat))[j]?≠some (some i):=λj i=>by
  rw [Array.getElem?_replicate];split <;> exact λz=>by cases z
 exact ⟨by simp,λj i z=>absurd z (e j i),λj j' i z=>absurd z (e j i),λi hi=>absurd hi (not_lt_zero _)⟩
theorem Zcq (hm:m + 1=2 ^ k):∀ (n:Nat) (hs:List Int),hs.length=n->n<=m + 1->∃ fz,(hs.foldl (init:=some (Array.replicate (m + 1) none,0)) λ(gf:Option (Array (Option Nat) × Nat)) h=>do
  let (fz,k) <- gf
  let j <- layClean.free m fz (turns m) (bits h % (m + 1)) (bits h)
  pure (fz.setIfInBounds j (some k),k + 1))=some (fz,n)/\LC m hs fz
 | 0,hs,e,_=>by
  rw [length_eq_zero_iff.mp e];exact ⟨_,Y,LC.nil m⟩
 | n + 1,hs,e,hn=>by
  obtain ⟨qs,h,rfl⟩:∃ qs h,hs=qs ++ [h]:=⟨hs.dropLast,hs.getLast (λz=>by rw [z] at e; cases e),(dropLast_concat_getLast _).symm⟩;rw [Ae,At] at e;obtain ⟨ow,o1,o2⟩:=Zcq hm n qs (by lia) (by lia);obtain ⟨j,j1,j2⟩:=o2.step hm (by lia) h;refine ⟨_,?_,j2⟩;rw [foldl_append,o1];show (do let j <- layClean.free m ow (turns m) (bits h % (m + 1)) (bits h); pure (ow.setIfInBounds j (some n),n + 1))=_;rw [j1,show qs.length=n by lia];rfl
def Zma {k:Nat} (hm:m + 1=2 ^ k) {es:List (Int × Value)} (hl:es.length<=m) (finger moves:Nat) (led plain:Bool) :
  ∃ f8:List (Nat × Int × Value),Good m f8/\(f8.map (·.2)).Perm es/\∃ j6:Array Nat,laid m finger moves led plain ((es.map (·.1)).toArray)=some ({ mask:=m,place:=(f8.map (·.1)).toArray,dummies:=#[],finger,led,moves,plain },j6)/\j6.filterMap (es.toArray[·]?)=(f8.map (·.2)).toArray:=by
 obtain ⟨ow,o1,o2⟩:=Zcq hm es.length (es.map (·.1)) (by rw [Ab]) (by lia);have lc:layClean m ((es.map (·.1)).toArray)=some ow:=by
  unfold layClean
  rw [foldl_toArray,o1]
  rfl
 have gd:∀ j:Nat,(ow.getD j none)=(ow[j]?).join:=λj=>by
  rw [Array.getD_eq_getD_getElem?]
  cases ow[j]? with
  | none=>rfl
  | some o=>rfl
 have lv:∀ (j i:Nat),(ow[j]?).join=some i ↔ ow[j]?=some (some i):=λj i=>by
  cases ow[j]? with
  | none=>simp
  | some o=>simp
 let live:=(List.range (m + 1)).filterMap λj=>(ow.getD j none).map (j,·)
 have lm:∀ q:Nat × Nat,q∈live ↔ ow[q.1]?=some (some q.2):=λ⟨j,i⟩=>by
  show (j,i)∈(List.range (m + 1)).filterMap _ ↔ _;rw [mem_filterMap];constructor
  ·rintro ⟨j',_,e⟩
   rw [gd] at e;obtain ⟨i',e1,e2⟩:=Option.map_eq_some_iff.mp e;cases e2;exact (lv _ _).mp e1
  ·intro e
   refine ⟨j,mem_range.mpr ?_,?_⟩
   ·have:=(Array.getElem?_eq_some_iff.mp e).1
    rw [o2.sz] at this;exact this
   ·rw [gd,(lv j i).mpr e]; rfl
 have pw:(live.map (·.1)).Pairwise (· < ·):=by
  rw [pairwise_map];refine pairwise_filterMap.mpr (pairwise_lt_range.imp λ{a b} im x hx y hy=>?_);obtain ⟨_,_,rfl⟩:=Option.map_eq_some_iff.mp hx;obtain ⟨_,_,rfl⟩:=Option.map_eq_some_iff.mp hy;exact im
 have p2:(live.map (·.2)).Perm (List.range es.length):=by
  refine (perm_ext_iff_of_nodup ?_ nodup_range).mpr λi=>?_
  ·have pw':live.Pairwise λa b=>a.1 < b.1:=pairwise_map.mp pw
   refine pairwise_map.mpr (List.Pairwise.imp_of_mem (λ{a b} ha hb h e=>?_) pw');have h1:=(lm a).mp ha;have h2:=(lm b).mp hb;rw [<- e] at h2;have:=o2.un _ _ _ h1 h2;lia
  ·rw [mem_map,mem_range]
   constructor
   ·rintro ⟨q,hq,rfl⟩
    obtain ⟨h,h1,_⟩:=o2.lt _ _ ((lm q).mp hq);have:=(Aa h1).1;rwa [Ab] at this
   ·intro hi
    obtain ⟨j,hj⟩:=o2.al i (by rw [Ab]; exact hi);exact ⟨(j,i),(lm (j,i)).mpr hj,Y⟩
 have hil:∀ q∈live,q.2 < es.length:=λq hq=>mem_range.mp (p2.mem_iff.mp (mem_map.mpr ⟨q,hq,rfl⟩));refine ⟨live.map λq=>(q.1,es.getD q.2 (0,.none)),⟨?_,λe he=>?_,λe he=>?_⟩,?_,(live.map (·.2)).toArray,?_,?_⟩
 ·rw [map_map]; exact pw
 ·obtain ⟨q,hq,rfl⟩:=mem_map.mp he
  have:=(Array.getElem?_eq_some_iff.mp ((lm q).mp hq)).1;rw [o2.sz] at this;exact le_of_lt_succ this
 ·obtain ⟨q,hq,rfl⟩:=mem_map.mp he
  obtain ⟨h,h1,n,n1,n2⟩:=o2.lt _ _ ((lm q).mp hq);have eh:(es.getD q.2 (0,.none)).1=h:=by
   rw [Ah] at h1
   rw [Ad]
   obtain ⟨z,z1,z2⟩:=Option.map_eq_some_iff.mp h1
   rw [z1]; exact z2
  refine ⟨n,by show (pth m (es.getD q.2 (0,.none)).1 n).j=q.1; rw [eh]; exact n1,λn' h'=>?_⟩;show (pth m (es.getD q.2 (0,.none)).1 n').j∈_;rw [eh,map_map];have g9:=n2 n' h';have mj:(pth m h n').j < ow.size:=by rw [o2.sz]; have:=(Zal m h n').1; lia
  cases e:ow[(pth m h n').j]? with
  | none=>rw [Array.getElem?_eq_getElem mj] at e; cases e
  | some o =>
   cases o with
   | none=>exact absurd e g9
   | some i=>exact mem_map.mpr ⟨(_,i),(lm (_,i)).mpr e,Y⟩
 ·rw [map_map]
  have:live.map ((·.2) ∘ λq:Nat × Nat=>(q.1,es.getD q.2 (0,.none)))=(live.map (·.2)).map λi=>es.getD i (0,.none):=by rw [map_map]; rfl
  rw [this];refine (p2.map _).trans (List.Perm.of_eq ?_);apply ext_getElem?;intro i;rw [Ah];by_cases hi:i < es.length
  ·rw [getElem?_range hi,Ac hi]
   show some (es.getD i _)=_;rw [Ad,Ac hi];rfl
  ·rw [Ay (by rw [length_range]; lia),Ay (by lia)]
   rfl
 ·unfold laid
  rw [lc];show some (_,_)=_;rw [map_map];rfl
 ·rw [filterMap_toArray,map_map]
  congr 1
  have:∀ l:List (Nat × Nat),(∀ q∈l,q.2 < es.length)->(l.map (·.2)).filterMap (es.toArray[·]?)=l.map ((·.2) ∘ λq:Nat × Nat=>(q.1,es.getD q.2 (0,.none))):=λl=>by
   induction l with
   | nil=>intro _; rfl
   | cons q l ih =>
    intro hq;have h1:=hq q mem_cons_self;rw [map_cons,filterMap_cons,getElem?_toArray,Ac h1,ih λz hz=>hq z (mem_cons_of_mem _ hz)];show es[q.2] :: _=es.getD q.2 _ :: _;rw [Ad,Ac h1];rfl
  exact this live hil
structure STab (h:Heap) (a:Addr) (o:Obj) (ep:Nat) (t:SetTable) (f8:List (Nat × Int × Value)):Prop where
 ho:h.get? a=some o
 ex:o.ExactSet
 hd:o.data=.set (f8.map (·.2)).toArray ep t
 pl:t.place=(f8.map (·.1)).toArray
 dm:t.dummies=#[]
 gd:Good t.mask f8
 pw:∃ k,t.mask + 1=2 ^ k
 b1:t.mask<=8191
 b2:7<=t.mask
 rm:f8.length * 5 < t.mask * 3
section
variable {prog:Program} {w:World} {K:Type} [DecidableEq K] {knd:KeyKind prog w K} {A:Around} {E:Value->Shared->Prop} {s:Shared} {a:Addr}
def TK (knd:KeyKind prog w K) (h:Heap) (e:Int × Value) (k:List K):Prop:=e.1=tupleKeyHash knd k/\∃ b,e.2=.ref b/\IsTupleKey knd h k b
def STab.fits {t:SetTable} {f8:List (Nat × Int × Value)} (x:STab h a o ep t f8):t.fits (f8.map (·.2)).toArray.size=true:=by
 have:=x.rm;have:=x.b2;simp only [SetTable.fits,Bool.and_eq_true,beq_iff_eq,decide_eq_true_eq,SetTable.fill,x.pl,x.dm,Aq,Ab,Array.size_empty,length_nil,Nat.add_zero];exact ⟨trivial,by lia⟩
def Zcr {n:Nat} (hk:IsTupleKey knd s.heap ks c) (h:Q false s):wpAny (d:) A (ofAClassStatement (n + 1) (.ref c)) Q E s:=by
 have hT:=hk.typeIs;obtain ⟨o,items,m,ho,hc,hd,hi⟩:=hk;unfold ofAClassStatement;refine Al (wpAny_typeOf hT ?_);dsimp only;rw [if_pos (by decide)];refine Al (wpAny_pure ?_);simp only [Bool.not_true,Bool.false_eq_true,if_false];refine Al (wpAny_seqItems ho hd ?_);refine Al ?_;show wpAny _ _ (forIn items _ _) _ _ s;rw [<- Array.forIn_toList];refine wpAny_forIn_list _ (λrest r s'=>r.1=none/\s'=s/\∀ v∈rest,carriedByValue v=true) _ ?_ ?_ _ _ ⟨Y,Y,hi.byValue⟩
 ·rintro v rest r s' ⟨hr,rfl,ig⟩
  have hv:=ig v mem_cons_self
  have e:ofAClassStatement n v=pure false:=by
   cases v with
   | ref a=>simp [carriedByValue] at hv
   | _=>cases n <;> rfl
  rw [e];refine Al (wpAny_pure ?_);simp only [Bool.false_eq_true,if_false];exact wpAny_pure ⟨Y,Y,λu hu'=>ig u (mem_cons_of_mem _ hu')⟩
 ·rintro ⟨r1,r2⟩ s' ⟨hr,rfl,_⟩
  simp only at hr;subst hr;exact wpAny_pure h
def Zlh {kx:List K} {c:Addr} (hx:IsTupleKey knd s.heap kx c) {stored:List Value} (hs:∀ v∈stored,∃ k b,v=.ref b/\IsTupleKey knd s.heap k b) {Q:Bool->Shared->Prop} (h:Q false s):wpAny (d:) A (searchCouldBeSeen (.ref c) stored) Q E s:=by
 unfold searchCouldBeSeen;refine Al ?_;refine wpAny_forIn_list _ (λrest r s'=>r.1=none/\s'=s/\∀ v∈rest,∃ k b,v=.ref b/\IsTupleKey knd s.heap k b) _ ?_ ?_ _ _ ⟨Y,Y,hs⟩
 ·rintro v rest r s' ⟨hr,rfl,ig⟩
  obtain ⟨k,b,rfl,hb⟩:=ig v mem_cons_self;dsimp only;split
  ·exact wpAny_pure ⟨Y,Y,λu hu=>ig u (mem_cons_of_mem _ hu)⟩
  ·refine Al (wpAny_eqIsQuiet_tuple hx ?_)
   simp only [Bool.not_true,Bool.false_eq_true,if_false];refine Al (wpAny_eqIsQuiet_tuple hb ?_);simp only [Bool.not_true,Bool.false_eq_true,if_false];refine Al (Zcr hx ?_);simp only [Bool.false_eq_true,if_false];refine Al (Zcr hb ?_);simp only [Bool.false_eq_true,if_false];exact wpAny_pure ⟨Y,Y,λu hu=>ig u (mem_cons_of_mem _ hu)⟩
 ·rintro ⟨r1,r2⟩ s' ⟨hr,rfl,_⟩
  simp only at hr;subst hr;exact wpAny_pure h
def Zmx {f8:List (Nat × Int × Value)} {i:Nat} (h:(f8.map (·.1))[i]?=some j):∃ e,f8[i]?=some e/\e.1=j/\(f8.map (·.2)).toArray[i]?=some e.2:=by
 rw [Ah] at h;obtain ⟨e,e1,e2⟩:=Option.map_eq_some_iff.mp h;exact ⟨e,e1,e2,by rw [getElem?_toArray,Ah,e1]; rfl⟩
theorem Ud {o:Obj} {ep:Nat} {t:SetTable} {f8:List (Nat × Int × Value)} {kx:List K} {c:Addr} {iq:Bool} (hu:A.units < cLine) (x:STab s.heap a o ep t f8) (hk:∀ e∈f8,∃ k,TK knd s.heap e.2 k) (hx:IsTupleKey knd s.heap kx c) {N:Nat}
  (hN:(pth t.mask (j:) N).j ∉ f8.map (·.1)) (hl:∀ n,n < N->(pth t.mask (j:) n).j∈f8.map (·.1)) (hN2:N < 10 * turns t.mask) {Q:SetFound->Shared->Prop}
  (q1:(∀ e∈f8,¬ TK knd s.heap e.2 kx)->Q (.free (pth t.mask (j:) N).j false) s) (q2:(∃ e∈f8,TK knd s.heap e.2 kx)->∀ i:Option Nat,(iq=false->i.isSome=true)->Q (.there i) s) :
  ∀ (gl n:Nat) (st:Option Probe),n<=N->N - n < gl->st.getD (t.probeStart (j:))=pth t.mask (j:) n ->
   (∀ n',n' < n->∀ e∈f8,e.1=(pth t.mask (j:) n').j->¬ TK knd s.heap e.2 kx)->wpAny (d:) A (setSearchFrom a (.ref c) (j:) iq gl st) Q E s
 | 0,n,_,_,h0,_,_=>absurd h0 (not_lt_zero _)
 | gl + 1,n,st,hn,hf,lg,pf=>by
  unfold setSearchFrom;refine Al (wpAny_setState_of x.ho x.hd x.fits ?_);dsimp only
  have odd:t.gaveWay=false:=by
   obtain ⟨k,i9⟩:=x.pw;have:=x.b2;unfold SetTable.gaveWay;rw [beq_eq_false_iff_ne]
   cases k with
   | zero=>lia
   | succ k=>rw [Nat.pow_succ] at i9; lia
  rw [odd];simp only [Bool.false_eq_true,if_false];rw [lg];have way:∀ e∈f8,TK knd s.heap e.2 kx->∃ n0,n<=n0/\n0 < N/\(pth t.mask (j:) n0).j=e.1:=λe he o9=>by
   obtain ⟨n0,r1,r2⟩:=x.gd.rch e he
   rw [o9.1] at r1 r2
   refine ⟨n0,?_,?_,r1⟩
   ·rcases Nat.lt_or_ge n0 n with z | z
    ·exact absurd o9 (pf n0 z e he r1.symm)
    ·exact z
   ·rcases Nat.lt_or_ge n0 N with z | z
    ·exact z
    ·rcases Nat.eq_or_lt_of_le z with z | z
     ·subst z
      exact absurd (by rw [r1]; exact mem_map.mpr ⟨e,he,Y⟩) hN
     ·exact absurd (r2 N z) hN
  have nd:(f8.map (·.1)).Nodup:=x.gd.pw.imp λh=>As h;have one:∀ e∈f8,∀ e'∈f8,e.1=e'.1->e=e':=λe he e' oj z=>by
   obtain ⟨i,hi,rfl⟩:=mem_iff_getElem.mp he
   obtain ⟨i',ja,rfl⟩:=mem_iff_getElem.mp oj
   have:=(getElem_inj nd (h₀:=by rw [Ab]; exact hi) (h₁:=by rw [Ab]; exact ja)).mp (by rw [getElem_map,getElem_map]; exact z)
   subst this
   rfl
  have pg:=Zbp x.gd.pw x.pl x.dm (hashAt:=λi=>(((f8.map (·.2)).toArray[i]?).map (·.1)).getD 0) hN hl (10 * turns t.mask) n hn (by lia);generalize zj:t.probe _ (tupleKeyHash knd kx) (pth t.mask (tupleKeyHash knd kx) n)=pr;have zj:t.probe (λi=>(((f8.map (·.2)).toArray[i]?).map (·.1)).getD 0) (j:) (pth t.mask (j:) n)=pr:=zj
  rcases pg with ⟨p1,p2⟩ | ⟨n',i,i1,i2,i3,i4,i5,i6⟩
  ·have e:t.probe (λi=>(((f8.map (·.2)).toArray[i]?).map (·.1)).getD 0) (j:) (pth t.mask (j:) n)=some (.empty (pth t.mask (j:) N).j none):=p1
   rw [zj] at e;subst e;dsimp only;refine wpAny_pure (q1 λe' oj o9=>?_);obtain ⟨n0,a1,a2,a3⟩:=way e' oj o9;obtain ⟨i,hi,rfl⟩:=mem_iff_getElem.mp oj;refine p2 n0 a1 a2 i (by rw [Ah,Ac hi]; exact congrArg some a3.symm) ?_;show (((f8.map (·.2)).toArray[i]?).map (·.1)).getD 0=_;rw [getElem?_toArray,Ah,Ac hi];exact o9.1
  ·have e:t.probe (λi=>(((f8.map (·.2)).toArray[i]?).map (·.1)).getD 0) (j:) (pth t.mask (j:) n)=some (.candidate (pth t.mask (j:) n').j i (pth t.mask (j:) (n' + 1))):=i5
   rw [zj] at e;subst e;dsimp only;obtain ⟨ent,e1,e2,e3⟩:=Zmx i3;have hem:ent∈f8:=Au e1;obtain ⟨ky,ky1,b,ky2,ky3⟩:=hk ent hem;have qw:t.slot (pth t.mask (j:) n').j=.live i:=Fb x.gd.pw x.pl i3
   have after:wpAny (d:) A (do
     let some (_,y):=(f8.map (·.2)).toArray[i]? | unsupported "internal:set-entry"
     let equal <- holding [y] (eqBool y (.ref c))
     let (xb,_,t') <- setState a
     if iq && equal then return .there none
     let some same:=t'.sameMemory t.moves t.mask | unsupported "set.changed-during-lookup:is-the-new-block-at-the-old-address"
     let still <- match (if same then t'.slot (pth t.mask (j:) n').j else .empty) with
      | .live i'=>match xb[i']? with
       | some (_,y')=>do pure (if <- isSame y' y then some i' else none)
       | none=>pure none
      | _=>pure none
     match still with
     | none=>rule "set.search.anew"; setSearchFrom a (.ref c) (j:) iq gl none
     | some i'=>if equal then return .there (some i') else setSearchFrom a (.ref c) (j:) iq gl (some (pth t.mask (j:) (n' + 1)))) Q E s:=by
    rw [e3];obtain ⟨ej,eh,ev⟩:=ent;have ky2:ev=.ref b:=ky2;subst ky2;dsimp only;refine Al (wpAny_holding (wpAny_eqBool_tuple hu ky3 hx ?_));refine Al (wpAny_setState_of x.ho x.hd x.fits ?_);dsimp only;by_cases jm:ky=kx
    ·subst jm
     have hex:∃ e∈f8,TK knd s.heap e.2 ky:=⟨_,hem,ky1,b,rfl,ky3⟩;rw [decide_eq_true rfl]
     cases iq with
     | true=>exact wpAny_pure (q2 hex none (λz=>by cases z))
     | false =>
      simp only [Bool.false_and,Bool.false_eq_true,if_false];have sm:t.sameMemory t.moves t.mask=some true:=by unfold sameMemory; rw [if_pos (by simp)]
      rw [sm];dsimp only;rw [if_pos rfl,qw];dsimp only;rw [e3];dsimp only;refine Al (wpAny_isSame_ref_self ?_);refine Al (wpAny_pure ?_);simp only [if_true];exact wpAny_pure (q2 hex (some i) λ_=>rfl)
    ·rw [decide_eq_false jm]
     simp only [Bool.and_false,Bool.false_eq_true,if_false];have sm:t.sameMemory t.moves t.mask=some true:=by unfold sameMemory; rw [if_pos (by simp)]
     rw [sm];dsimp only;rw [if_pos rfl,qw];dsimp only;rw [e3];dsimp only;refine Al (wpAny_isSame_ref_self ?_);refine Al (wpAny_pure ?_);simp only [if_true];refine Ud hu x hk hx hN hl hN2 q1 q2 gl (n' + 1) _ i2 (by lia) Y λn2 h2 e' oj oh o9=>?_
     rcases Nat.lt_or_ge n2 n with z | z
     ·exact pf n2 z e' oj oh o9
     ·rcases Nat.lt_or_ge n2 n' with z2 | z2
      ·obtain ⟨i',ja,rfl⟩:=mem_iff_getElem.mp oj
       refine i6 n2 z z2 i' (by rw [Ah,Ac ja]; exact congrArg some oh) ?_;show (((f8.map (·.2)).toArray[i']?).map (·.1)).getD 0=_;rw [getElem?_toArray,Ah,Ac ja];exact o9.1
      ·have:n2=n':=by lia
       subst this;have:=one _ hem e' oj (e2.trans oh.symm);subst this;obtain ⟨_,b',mm,i9⟩:=o9;have:b=b':=by injection mm
       subst this;exact jm (ky3.inj i9)
   by_cases xv:t.led=true
   ·rw [xv]
    simp only [Bool.not_true,Bool.false_eq_true,if_false];exact after
   ·rw [Bool.eq_false_iff.mpr xv]
    simp only [Bool.not_false,if_true];refine Al (Zlh hx (λv hv=>?_) ?_)
    ·obtain ⟨e',oj,rfl⟩:=mem_map.mp hv
     have:=Array.mem_filter.mp (Array.mem_toList_iff.mp oj);have:=Array.mem_toList_iff.mpr this.1;obtain ⟨e2',he2',rfl⟩:=mem_map.mp (by simpa using this:e'∈f8.map (·.2));obtain ⟨k',_,b',mm,i9⟩:=hk e2' he2';exact ⟨k',b',mm,i9⟩
    ·simp only [Bool.false_eq_true,if_false]
     exact after
theorem Zdq:∀ (l k:List Nat),l.Nodup->(∀ x∈l,x∈k)->l.length<=k.length
 | [],_,_,_=>Az _
 | x :: l,k,nd,h=>by
  obtain ⟨n1,n2⟩:=nodup_cons.mp nd;have hx:=h x mem_cons_self;have:=Zdq l (k.erase x) n2 λy hy=>(mem_erase_of_ne (λz=>n1 (by rw [<- z]; exact hy))).mpr (h y (mem_cons_of_mem _ hy));rw [length_erase_of_mem hx] at this;have:=length_pos_of_mem hx;rw [length_cons];lia
def STab.way {t:SetTable} {f8:List (Nat × Int × Value)} (x:STab h a o ep t f8) (hh:Int):∃ N,N < 10 * turns t.mask/\(pth t.mask hh N).j ∉ f8.map (·.1)/\∀ n,n < N->(pth t.mask hh n).j∈f8.map (·.1):=by
 obtain ⟨k,hk⟩:=x.pw;have:∃ y,y<=t.mask/\y ∉ f8.map (·.1):=by
  refine Classical.byContradiction λno=>?_
  have sub:∀ y∈List.range (t.mask + 1),y∈f8.map (·.1):=λy hy=>Classical.byContradiction λz=>no ⟨y,le_of_lt_succ (mem_range.mp hy),z⟩
  have:=Zdq _ _ nodup_range sub
  rw [length_range,Ab] at this
  have:=x.rm
  lia
 obtain ⟨y,y1,y2⟩:=this;obtain ⟨N,n1,n2,n3⟩:=Zao hk hh (O:=λj=>j∈f8.map (·.1)) y1 y2;exact ⟨N,n1,n2,n3⟩
def Zel {t:SetTable} (h:t.mask<=8191) {N:Nat} (hN:N < 10 * turns t.mask):N - 0 < 100000:=by unfold turns at hN; lia
def Zd8:byScan (.ref c) es=false:=rfl
def Zk1 (hu:A.units < cLine) (x:STab s.heap a o ep t f8) (hk:∀ e∈f8,∃ k,TK knd s.heap e.2 k) (hx:IsTupleKey knd s.heap kx c)
  (q1:(∀ e∈f8,¬ TK knd s.heap e.2 kx)->Q none s) (q2:(∃ e∈f8,TK knd s.heap e.2 kx)->∀ i,Q (some i) s):wpAny (d:) A (setFind a (.ref c) (j:)) Q E s:=by
 unfold setFind setFindIn;refine Al (wpAny_setState_of x.ho x.hd x.fits ?_);dsimp only;rw [Zd8];simp only [Bool.false_eq_true,if_false];obtain ⟨N,n1,n2,n3⟩:=x.way (j:);unfold setSearch;refine Al (Ud (knd:=knd) hu x hk hx n2 n3 n1 (λh=>?_) (λh i hi=>?_) 100000 0 none (Az _) (Zel x.b1 n1) Y (λn' z=>absurd z (not_lt_zero _)))
 ·exact wpAny_pure (q1 h)
 ·cases i with
  | none=>have:=hi rfl; cases this
  | some i=>exact wpAny_pure (q2 h i)
theorem Zcw (hn:n < 8192):∀ (gl k:Nat),k<=13->3<=k->13 - k < gl->∃ k',3<=k'/\k'<=13/\sizeAbove.go n gl (2 ^ k)=2 ^ k'/\n < 2 ^ k'
 | 0,k,_,_,h=>absurd h (not_lt_zero _)
 | gl + 1,k,h1,h2,h3=>by
  unfold sizeAbove.go;by_cases c:2 ^ k<=n
  ·rw [if_pos c]
   have:k < 13:=by
    rcases Nat.lt_or_ge k 13 with z | z
    ·exact z
    ·have:k=13:=by lia
     subst this;have:(2:Nat) ^ 13=8192:=by decide
     lia
   rw [<- Nat.pow_succ];exact Zcw hn gl (k + 1) this (by lia) (by lia)
  ·rw [if_neg c]
   exact ⟨k,h2,h1,Y,by lia⟩
def Zkh (hn:n < 8192):∃ k,3<=k/\k<=13/\sizeAbove n=2 ^ k/\n < 2 ^ k:=Zcw hn 64 3 (by decide) (by decide) (by decide)
def Zdl (hv:∀ k v n,knd.is k v=true->hashByValue n v=pure true) (hk:IsTupleKey knd s.heap ks c) (h:Q true s):wpAny (d:) A (hashByValue (n + 1) (.ref c)) Q E s:=by
 have hT:=hk.typeIs;obtain ⟨o,items,m,ho,hc,hd,hi⟩:=hk;unfold hashByValue;refine Al (wpAny_specialOf hT F.slot_tuple_hash.lookup ?_);dsimp only;show wpAny _ _ (seqItems? (.ref c) >>= _) _ _ s;refine Al (wpAny_seqItems ho hd ?_);refine Al ?_;show wpAny _ _ (forIn items _ _) _ _ s;rw [<- Array.forIn_toList];refine wpAny_forIn_list _ (λrest r s'=>r.1=none/\s'=s/\∃ ks,ItemsAre knd ks rest) _ ?_ ?_ _ _ ⟨Y,Y,ks,hi⟩
 ·rintro v rest r s' ⟨hr,rfl,ks,ig⟩
  cases ig with
  | cons h1 h2 =>
   rw [hv _ _ n h1];refine Al (wpAny_pure ?_);simp only [Bool.not_true,Bool.false_eq_true,if_false];exact wpAny_pure ⟨Y,Y,_,h2⟩
 ·rintro ⟨r1,r2⟩ s' ⟨hr,rfl,_⟩
  simp only at hr;subst hr;exact wpAny_pure h
def Zmv {f8:List (Nat × Int × Value)} (hu:A.units < cLine) (hv:∀ k v n,knd.is k v=true->hashByValue n v=pure true) (x:STab s.heap a o ep t f8) (hk:∀ e∈f8,∃ k,TK knd s.heap e.2 k) (hx:IsTupleKey knd s.heap kx c) (hroom:f8.length + 1<=2000)
  (q1:(∃ e∈f8,TK knd s.heap e.2 kx)->Q false s)
  (q2:(∀ e∈f8,¬ TK knd s.heap e.2 kx)->∀ h' o' sx t' p4,Heap.SameBut a s.heap h'->STab h' a o' sx t' p4->(p4.map (·.2)).Perm (f8.map (·.2) ++ [(tupleKeyHash knd kx,.ref c)])->Q true { s with heap:=h' }) :
  wpAny (d:) A (setAddHashed a (.ref c) (j:)) Q E s:=by
 unfold setAddHashed setAddHashedIn;refine wpAny_holding (Al (wpAny_setState_of x.ho x.hd x.fits ?_));dsimp only;rw [Zd8];simp only [Bool.false_eq_true,if_false];obtain ⟨N,n1,n2,n3⟩:=x.way (j:);unfold setSearch;refine Al (Ud (knd:=knd) hu x hk hx n2 n3 n1 (λh=>?_) (λh i hi=>?_) 100000 0 none (Az _) (Zel x.b1 n1) Y (λn' z=>absurd z (not_lt_zero _)))
 rotate_left
 ·exact wpAny_pure (q1 h)
 have q2:=q2 h;dsimp only;refine Al (wpAny_setState_of x.ho x.hd x.fits ?_);dsimp only;generalize hp:below (f8.map (·.1)).toArray (pth t.mask (tupleKeyHash knd kx) N).j=p;have g':=x.gd.put (x:=.ref c) n2 n3 hp.symm;have hput:t.put (pth t.mask (j:) N).j=({ t with place:=((f8.take p ++ ((pth t.mask (j:) N).j,tupleKeyHash knd kx,Value.ref c) :: f8.drop p).map (·.1)).toArray,dummies:=#[] },p):=by
  unfold SetTable.put
  rw [x.pl,x.dm,Zej,hp]
  dsimp only
  rw [Uc]
  simp only [Bool.false_eq_true,if_false,Aj,map_cons,map_take,map_drop]
 rw [hput];dsimp only;have hins:insertAt (f8.map (·.2)).toArray p (tupleKeyHash knd kx,Value.ref c)=((f8.take p ++ ((pth t.mask (j:) N).j,tupleKeyHash knd kx,Value.ref c) :: f8.drop p).map (·.2)).toArray:=by
  rw [Uc]
  simp only [Aj,map_cons,map_take,map_drop]
 rw [hins];have gz:((f8.take p ++ ((pth t.mask (j:) N).j,tupleKeyHash knd kx,Value.ref c) :: f8.drop p).map (·.2)).Perm (f8.map (·.2) ++ [(tupleKeyHash knd kx,Value.ref c)]):=by
  rw [Aj,map_cons]
  refine perm_middle.trans ((perm_append_singleton _ _).symm.trans ?_ |>.trans (List.Perm.refl _))
  rw [<- Aj,take_append_drop]
 have fw:(f8.take p ++ ((pth t.mask (j:) N).j,tupleKeyHash knd kx,Value.ref c) :: f8.drop p).length=f8.length + 1:=by
  have:=gz.length_eq;simp only [Ab,Ae,length_cons,length_nil] at this ⊢;lia
 generalize f8.take p ++ ((pth t.mask (tupleKeyHash knd kx) N).j,tupleKeyHash knd kx,Value.ref c) :: f8.drop p=tab1 at g' gz fw;have rest:∀ t1:SetTable,t1.mask=t.mask->t1.place=(tab1.map (·.1)).toArray->t1.dummies=#[]->wpAny (d:) A (do
   storeSet a (tab1.map (·.2)).toArray t1
   if (!false && t1.tooFull)=true then do
    setRelay a (grown ((f8.map (·.2)).toArray.size + 1))
    pure true
   else pure true) Q E s:=λt1 e1 e2 e3=>by
  have hz:(tab1.map (·.2)).toArray.size<=sizeLine:=by rw [Aq,Ab,fw,sizeLine_eq]; lia
  refine Al (wpAny_storeSet_of x.ho x.hd ?_ hz)
  have r8:(s.heap.update a (Obj.putSet (tab1.map (·.2)).toArray t1)).get? a=some { o with data:=.set (tab1.map (·.2)).toArray (ep + 1) t1 }:=by
   have:=Heap.get?_update_self (Obj.putSet (tab1.map (·.2)).toArray t1) x.ho (by rw [putSet_of _ t1 x.hd]; rfl)
   rw [putSet_of _ t1 x.hd] at this; exact this
  have sb1:=Heap.SameBut.update s.heap a (Obj.putSet (tab1.map (·.2)).toArray t1)
  have qz:t1.fill=f8.length + 1:=by unfold SetTable.fill; rw [e2,e3,Aq,Ab,fw]; rfl
  have xb1:=x.b1
  have xb2:=x.b2
  by_cases qc:t1.tooFull=true
  ·rw [qc]
   simp only [Bool.not_false,Bool.and_self,if_true]
   refine Al ?_
   unfold setRelay
   have qt:t1.fits (tab1.map (·.2)).toArray.size=true:=by
    have:=x.rm
    simp only [SetTable.fits,Bool.and_eq_true,beq_iff_eq,decide_eq_true_eq,qz,e1,e2,Aq,Ab]
    exact ⟨trivial,by lia⟩
   refine Al (wpAny_setState_of r8 Y qt ?_)
   dsimp only
   have t7:grown ((f8.map (·.2)).toArray.size + 1)=(f8.length + 1) * 4:=by
    unfold grown
    rw [Aq,Ab,if_neg (by lia)]
   rw [t7]
   obtain ⟨k,k1,k2,k3,k4⟩:=Zkh (n:=(f8.length + 1) * 4) (by lia)
   have hk13:2 ^ k<=2 ^ 13:=Nat.pow_le_pow_right (by decide) k2
   have hk3:2 ^ 3<=2 ^ k:=Nat.pow_le_pow_right (by decide) k1
   have c13:(2:Nat) ^ 13=8192:=by decide
   have c3:(2:Nat) ^ 3=8:=by decide
   rw [if_neg (by rw [k3,sizeLine_eq]; lia)]
   obtain ⟨jb,l1,l2,j6,l3,l4⟩:=Zma (m:=2 ^ k - 1) (k:=k) (by lia) (es:=tab1.map (·.2)) (by rw [Ab,fw]; lia) t1.finger (t1.movedTo (2 ^ k - 1)) t1.led t1.plain
   have hrel:t1.relaid ((tab1.map (·.2)).toArray.map (·.1)) ((f8.length + 1) * 4)=some ({ mask:=2 ^ k - 1,place:=(jb.map (·.1)).toArray,dummies:=#[],finger:=t1.finger,led:=t1.led,moves:=t1.movedTo (2 ^ k - 1),plain:=t1.plain },j6):=by
    unfold relaid
    rw [k3,map_toArray,l3]
   rw [hrel]
   have ij:jb.length=f8.length + 1:=by have:=l2.length_eq; rw [Ab,Ab,fw] at this; exact this
   refine Al ?_
   show wpAny _ _ (if ((j6.filterMap ((tab1.map (·.2)).toArray[·]?)).size != (tab1.map (·.2)).toArray.size)=true then _ else _) _ _ _
   rw [l4]
   have hsz:((jb.map (·.2)).toArray.size != (tab1.map (·.2)).toArray.size)=false:=by
    rw [Aq,Aq,Ab,Ab,ij,fw]; simp
   rw [hsz]
   simp only [Bool.false_eq_true,if_false]
   refine wpAny_pure ?_
   dsimp only
   have vw:(jb.map (·.2)).toArray.size<=sizeLine:=by rw [Aq,Ab,ij,sizeLine_eq]; lia
   refine wpAny_storeSet_of r8 Y ?_ vw
   refine wpAny_pure (q2 _ { o with data:=.set (jb.map (·.2)).toArray (ep + 1 + 1) { mask:=2 ^ k - 1,place:=(jb.map (·.1)).toArray,dummies:=#[],finger:=t1.finger,led:=t1.led,moves:=t1.movedTo (2 ^ k - 1),plain:=t1.plain } } (ep + 1 + 1) { mask:=2 ^ k - 1,place:=(jb.map (·.1)).toArray,dummies:=#[],finger:=t1.finger,led:=t1.led,moves:=t1.movedTo (2 ^ k - 1),plain:=t1.plain } jb (sb1.trans (Heap.SameBut.update _ a _)) ⟨?_,x.ex,Y,Y,Y,l1,⟨k,by show 2 ^ k - 1 + 1=_; lia⟩,by show 2 ^ k - 1<=8191; lia,by show 7<=2 ^ k - 1; lia,by show jb.length * 5 < (2 ^ k - 1) * 3; lia⟩ (l2.trans gz))
   have:=Heap.get?_update_self (Obj.putSet (jb.map (·.2)).toArray { mask:=2 ^ k - 1,place:=(jb.map (·.1)).toArray,dummies:=#[],finger:=t1.finger,led:=t1.led,moves:=t1.movedTo (2 ^ k - 1),plain:=t1.plain }) r8 (by rw [putSet_of _ _ rfl]; rfl)
   rw [putSet_of _ _ rfl] at this
   exact this
  ·rw [Bool.eq_false_iff.mpr qc]
   simp only [Bool.not_false,Bool.and_false,Bool.false_eq_true,if_false]
   refine wpAny_pure (q2 _ _ _ t1 tab1 sb1 ⟨r8,x.ex,Y,e2,e3,e1 ▸ g',e1 ▸ x.pw,e1 ▸ x.b1,e1 ▸ x.b2,?_⟩ gz)
   unfold SetTable.tooFull at qc
   rw [decide_eq_true_iff,qz] at qc
   rw [fw]
   lia
 split
 ·refine Al (Zdl hv hx ?_)
  exact rest _ Y Y Y
 ·refine Al (wpAny_pure ?_)
  exact rest _ Y Y Y
end
end L2
namespace L2
open PySem PySem.Spec PyProof.Rows
end L2
namespace PySem.F
end PySem.F
namespace L2
open PySem PySem.Spec PyProof.Rows
def dd (ks:List Int):List Int:=ks.foldl step_dedup []
end L2
namespace L2
open PySem PySem.Spec PyProof.Rows PySem.W
end L2
namespace L2
open PySem PySem.Spec PyProof.Rows PySem.W PySem.SetTable
def TSO (P:Program) (w:World) (a:Addr) (xs:List (List Int × Addr)) (h:Heap):Prop:=∃ o ep t f8,STab h a o ep t f8/\(f8.map (·.2)).Perm (xs.map λq=>(tupleKeyHash (intKind P w) q.1,Value.ref q.2))
def Y0 (P:Program) (w:World) (a:Addr) (xs:List (List Int × Addr)):HO:=.ext (TSO P w a xs)
def Xd (H:Hp) (xs:List (List Int × Addr)):Prop:=∀ q∈xs,H q.2=some (.tup (q.1.map V.int))
def Xd.same (h:Xd H xs) (s:Same H H'):Xd H' xs:=λq hq=>s _ _ (h q hq)
def Xd.snoc {k:List Int} (h:Xd H xs) (hb:H b=some (.tup (k.map V.int))):Xd H (xs ++ [(k,b)]):=λq hq=>by
 rcases mem_append.mp hq with z | z
 ·exact h q z
 ·rw [Af z]; exact hb
section
variable {X:Cx}
def Zdp (x:TSO X.prog X.w a xs h):Z3 X.prog X.w H h a (Y0 X.prog X.w a xs):=by
 refine ⟨x,?_,λh1 h2 w1 k=>?_⟩
 ·obtain ⟨o,_,_,_,tt,_⟩:=x
  exact ⟨o,tt.ho⟩
 ·obtain ⟨o,ep,t,f8,tt,pm⟩:=w1
  exact ⟨o,ep,t,f8,⟨k _ tt.ho,tt.ex,tt.hd,tt.pl,tt.dm,tt.gd,tt.pw,tt.b1,tt.b2,tt.rm⟩,pm⟩
theorem K6:∀ {k:List Int} {its:List Value},Vals (k.map V.int) its->ItemsAre (intKind X.prog X.w) k its
 | [],its,h=>by cases h; exact .nil
 | i :: k,its,h=>by
  cases h with
  | cons r t =>
   obtain ⟨tk,rfl⟩:=r;exact .cons (intKind_is _ _ _ _) (K6 t)
def Vi {s:Shared} (I:Inv X fo σ H s) {k:List Int} (h:H b=some (.tup (k.map V.int))):IsTupleKey (intKind X.prog X.w) s.heap k b:=by
 obtain ⟨its,rv,⟨o,ho,hc,m,hd⟩,_⟩:=I.tuple (SqT.of h);exact ⟨o,_,m,ho,hc,hd,by simpa using K6 rv⟩
def Zar {s:Shared} (I:Inv X fo σ H s) {xs:List (List Int × Addr)} {f8:List (Nat × Int × Value)} (hk:Xd H xs) (pm:(f8.map (·.2)).Perm (xs.map λq=>(tupleKeyHash (intKind X.prog X.w) q.1,Value.ref q.2))):∀ e∈f8,∃ k,TK (intKind X.prog X.w) s.heap e.2 k:=λe he=>by
 obtain ⟨q,hq,e2⟩:=mem_map.mp (pm.mem_iff.mp (mem_map.mpr ⟨e,he,rfl⟩));exact ⟨q.1,by rw [<- e2],q.2,by rw [<- e2],Vi I (hk q hq)⟩
def Kd {s:Shared} (I:Inv X fo σ H s) {xs:List (List Int × Addr)} {f8:List (Nat × Int × Value)} (hk:Xd H xs) (pm:(f8.map (·.2)).Perm (xs.map λq=>(tupleKeyHash (intKind X.prog X.w) q.1,Value.ref q.2))) {k:List Int}:(∃ e∈f8,TK (intKind X.prog X.w) s.heap e.2 k) ↔ k∈xs.map (·.1):=by
 constructor
 ·rintro ⟨e,he,_,b,e1,e2⟩
  obtain ⟨q,hq,e3⟩:=mem_map.mp (pm.mem_iff.mp (mem_map.mpr ⟨e,he,rfl⟩));have:q.2=b:=by rw [<- e3] at e1; injection e1
  have h1:=Vi I (hk q hq);rw [this] at h1;exact mem_map.mpr ⟨q,hq,h1.inj e2⟩
 ·intro h
  obtain ⟨q,hq,rfl⟩:=mem_map.mp h;obtain ⟨e,he,e2⟩:=mem_map.mp (pm.mem_iff.mpr (mem_map.mpr ⟨q,hq,rfl⟩));exact ⟨e,he,by rw [e2],q.2,by rw [e2],Vi I (hk q hq)⟩
def Zga:Yv X (.type "set") (λxs H Q=>xs=[]/\∀ p,H p=none->Q (.ref p) (upd H p (Y0 X.prog X.w p []))):=by
 intro fo s σ H xs us Q I r h;obtain ⟨rfl,q⟩:=h;cases r;refine call_set_0 λled=>?_;refine ⟨.ref s.heap.objs.size,_,I.laid (t':=s.toks) (λb o e=>Ak _ e) (An _) (Zdp ?_),Y,q _ (I.hok.fresh (An _))⟩;exact ⟨_,0,.fresh 0 0 led,[],⟨Ap _ Y,⟨Y,Y,Y⟩,Y,Y,Y,Good.nil _,⟨3,Y⟩,by show 7<=8191; decide,by show 7<=7; decide,by show 0 * 5 < 7 * 3; decide⟩,List.Perm.refl _⟩
def STab.typeIs {s:Shared} (x:STab s.heap a o ep t f8):s.TypeIs (.ref a) "set":=⟨o,x.ho,x.ex.1⟩
def Zby (hu:X.A.units + 64 < cLine):OpR X (compareOp .NotIn) (λx y H Q=>∃ b k p xs,x=.ref b/\y=.ref p/\H b=some (.tup (k.map V.int))/\H p=some (Y0 X.prog X.w p xs)/\Xd H xs/\Q (.bl (!decide (k∈xs.map (·.1)))) H):=by
 intro fo s σ H x y v u Q I rx ry h;obtain ⟨b,k,p,xs,rfl,rfl,hb,hp,hk,q⟩:=h;cases rx;cases ry;obtain ⟨⟨o,ep,t,f8,tt,pm⟩,_⟩:Z3 X.prog X.w H s.heap p (Y0 X.prog X.w p xs):=I.hok p _ hp;have kj:=Vi I hb;show wpAny _ _ (do return Value.bool (!(<- contains (.ref p) (.ref b)))) _ _ s;refine Al ?_;unfold contains
 try with_reducible refine wpAny_holding ?_
 refine Al (wpAny_specialOf tt.typeIs F.slot_set_contains.lookup ?_);show wpAny _ _ (if (some (Value.builtin "set.__contains__") == some Value.none)=true then _ else _) _ _ s;rw [if_neg (by rw [beq_builtin_none]; exact Bool.false_ne_true)];refine Al (wpAny_callSpecialUnlessNone?_slot (name:=Str.ofString "__contains__") tt.typeIs F.slot_set_contains
  (wpAny_call_entry F.slot_set_contains tt.typeIs entry_set_contains ?_ (F.args_set_contains_2 _ _)))
 unfold Builtin.«frozenset.__contains__» Builtin.Frozenset.oneOther;simp only [isEmpty_nil,bind_assoc];unfold Builtin.Frozenset.addrOf Builtin.Frozenset.withSetAsKey setContains;refine Al (wpAny_pure ?_)
 try dsimp only
 refine Al (wpAny_pure ?_)
 try dsimp only
 refine Al (wpAny_tryCatch ?_);refine wpAny_holding ?_;refine Al (wpAny_pyHash_tuple (by show X.A.units + _ < _; lia) kj ?_);refine Al (Zk1 (knd:=intKind X.prog X.w) (s:={ s with toks:=s.toks + (k.length + 1) }) (by show X.A.units + _ < _; lia) tt (Zar I hk pm) kj (λh=>?_) (λh i=>?_))
 ·refine wpAny_pure ?_
  show wpAny _ _ (ret (Value.bool _)) _ _ _;refine wpAny_pure ⟨_,Y,wpAny_truthy_bool (wpAny_pure ⟨.bl _,H,I.tok _,Y,?_⟩)⟩;have:¬ k∈xs.map (·.1):=λz=>by obtain ⟨e,he,h'⟩:=(Kd I hk pm).mpr z; exact h e he h'
  rw [decide_eq_false this] at q;exact q
 ·refine wpAny_pure ?_
  show wpAny _ _ (ret (Value.bool _)) _ _ _;refine wpAny_pure ⟨_,Y,wpAny_truthy_bool (wpAny_pure ⟨.bl _,H,I.tok _,Y,?_⟩)⟩;rw [decide_eq_true ((Kd I hk pm).mp h)] at q;exact q
def Kv {gk gh:Pos} (hu:X.A.units + 64 < cLine) (ho:PE X o to) (ha:PA X [e] t)
  (nw:attributeBase o "add" X.env (eval o X.env)=eval o X.env:=by rfl)
  (tw:((backTo gh (starEach [e] X.env)).all (λx=>!x.1) && (backToKw gh (keywordEach [] X.env)).all (λx=>x.1.isSome)
   && decide ([e].length + ([]:List Keyword).length + (if ([]:List Keyword).isEmpty then 0 else 1) < 30))=true:=by rfl)
  (nr:(gk.endLine == gh.line)=true:=by rfl) (hs:starEach [e] X.env=(false,eval e X.env) :: starEach [] X.env:=by rfl) :
  PE X (.Call (.Attribute o "add" gk) [e] [] gh) (λσ H Q=>to σ H λx H1=>∃ p xs0,x=.ref p/\H1 p=some (Y0 X.prog X.w p xs0)/\t σ H1 λvs H2=>∃ b k xs,vs=[.ref b]/\H2 b=some (.tup (k.map V.int))/\H2 p=some (Y0 X.prog X.w p xs)/\Xd H2 xs/\xs.length + 1<=2000/\(k∈xs.map (·.1)->Q .non H2)/\(k ∉ xs.map (·.1)->Q .non (upd H2 p (Y0 X.prog X.w p (xs ++ [(k,b)]))))):=by
 intro fo s σ H Q I h;refine wpAny_Call_method_late nw tw nr Y (thn (ho fo s σ H _ I h) λv s1 gc=>?_);obtain ⟨x,H1,I1,r1,p,xs0,ex,hp0,q1⟩:=gc;subst ex;cases r1;obtain ⟨⟨o0,ep0,t0,tab0,yo,_⟩,_⟩:Z3 X.prog X.w H1 s1.heap p (Y0 X.prog X.w p xs0):=I1.hok p _ hp0;refine ⟨"set",_,PySem.F.plainAttrs_set,PySem.F.slot_set_add,PySem.F.type_set_add,⟨o0,yo.ho,yo.ex.1⟩,λa z=>by cases z; exact ⟨o0,yo.ho,yo.ex.2.1⟩,?_⟩;have hA:=ha gh fo s1 σ H1 _ I1 q1;rw [hs] at hA ⊢;refine Calls.callWith_builtin Y (Calls.evalArgs_plain ?_);refine thn hA λus s2 gc=>?_;obtain ⟨vs,H2,I2,r2,b,k,xs,ev,hb,hp,hk,hl,qy,qn⟩:=gc;subst ev;obtain ⟨u,rfl,ru⟩:=Xr r2;cases ru;obtain ⟨⟨o,ep,t,f8,tt,pm⟩,_⟩:Z3 X.prog X.w H2 s2.heap p (Y0 X.prog X.w p xs):=I2.hok p _ hp;have kj:=Vi I2 hb;have fw:f8.length=xs.length:=by have:=pm.length_eq; rw [Ab,Ab] at this; exact this
 refine wpAny_call_entry PySem.F.slot_set_add tt.typeIs PySem.F.entry_set_add ?_ (PySem.F.args_set_add_2 _ _);unfold Builtin.«set.add» Builtin.Frozenset.oneOther;simp only [isEmpty_nil,bind_assoc];unfold Builtin.Frozenset.addrOf setAdd;refine Al (wpAny_pure ?_)
 try dsimp only
 refine Al ?_;refine wpAny_holding ?_;refine Al (wpAny_pyHash_tuple (by show X.A.units + _ < _; lia) kj ?_);refine Zmv (knd:=intKind X.prog X.w) (s:={ s2 with toks:=s2.toks + (k.length + 1) }) (by show X.A.units + _ < _; lia) (λk v n hv=>?_) tt (Zar I2 hk pm) kj (by lia) (λh=>?_) (λh h' o' sx t' p4 sb tt' pm'=>?_)
 ·have:v.isInt k=true:=by simpa [intKind] using hv
  cases v <;> simp [Value.isInt] at this;cases n <;> rfl
 ·show wpAny _ _ (ret Value.none) _ _ _
  exact wpAny_pure ⟨_,Y,.non,_,I2.tok _,Y,qy ((Kd I2 hk pm).mp h)⟩
 ·show wpAny _ _ (ret Value.none) _ _ _
  refine wpAny_pure ⟨_,Y,?_⟩;have hn:k ∉ xs.map (·.1):=λz=>by obtain ⟨e,he,h'⟩:=(Kd I2 hk pm).mpr z; exact h e he h'
  refine ⟨.non,_,I2.write (t':=s2.toks + (k.length + 1)) (x:=p) (e:=p) (by rw [hp]; exact trivial) (.inl Y) (λb' u hb hu=>(sb.2 b' hb).trans hu) ⟨_,tt'.ho⟩ (Zdp ⟨o',sx,t',p4,tt',?_⟩),Y,qn hn⟩;refine pm'.trans ?_;rw [Aj];exact pm.append (List.Perm.refl _)
end
end L2
namespace L2
open PySem PyProof.Rows
def CmpK (prog:Program) (w:World) (A:Around) (E:Value->Shared->Prop) (s:Shared) (κ:SortKind) (ok:Keyed->Prop) (key:Keyed->Nat):Prop :=
 ∀ x y,ok x->ok y->∀ (st:SortSt) (Q:Option Bool->SortSt->Prop),kindOf st=κ->Q (some (decide (key x < key y))) st->wpS (d:) A E s (lt' x y) Q st
structure Sg (st ft:SortSt):Prop where
 kind:kindOf ft=kindOf st
 arr:arrOf ft=arrOf st
 pend:pendingOf ft=pendingOf st
 fail:failedOf ft=failedOf st
def Sg.refl (st:SortSt):Sg st st:=⟨rfl,rfl,rfl,rfl⟩
def Sg.trans (h:Sg a b) (g:Sg b c):Sg a c:=⟨g.kind.trans h.kind,g.arr.trans h.arr,g.pend.trans h.pend,g.fail.trans h.fail⟩
noncomputable def Wd:Bool->Keyed->Array Keyed->Nat->Nat->Nat->StateT SortSt Sem (Option Nat):=sortPriv% PySem.Builtin.gallop
noncomputable def Vv:Array Keyed->Array Keyed->StateT SortSt Sem (Array Keyed):=sortPriv% PySem.Builtin.mergeLo
noncomputable def Vw:Array Keyed->Array Keyed->StateT SortSt Sem (Array Keyed):=sortPriv% PySem.Builtin.mergeHi
noncomputable def Yj:Nat->StateT SortSt Sem Unit:=sortPriv% PySem.Builtin.setMinGallop
noncomputable def Wo (left:Bool) (key:Keyed) (arr:Array Keyed) (base i:Nat):StateT SortSt Sem (Option Bool):=do
 let x <- elem' arr (base + i)
 if left then lt' x key else return (<- lt' key x).map (!·)
def Zf5 (left:Bool) (key:Keyed) (arr:Array Keyed) (base n hint:Nat):Wd left key arr base n hint=(do
 let mut lastofs:=0
 let mut ofs:=1
 let mut lo:=0
 let mut hi:=0
 let some right <- Wo left key arr base hint | return none
 if right then
  let maxofs:=n - hint
  for _ in [0:n] do
   if ofs ≥ maxofs then break
   let some more <- Wo left key arr base (hint + ofs) | return none
   if !more then break
   lastofs:=ofs
   ofs:=2 * ofs + 1
  lo:=hint + lastofs + 1
  hi:=hint + min ofs maxofs
 else
  let maxofs:=hint + 1
  for _ in [0:n] do
   if ofs ≥ maxofs then break
   let some found <- Wo left key arr base (hint - ofs) | return none
   if found then break
   lastofs:=ofs
   ofs:=2 * ofs + 1
  lo:=hint + 1 - min ofs maxofs
  hi:=hint - lastofs
 for _ in [0:n] do
  if lo ≥ hi then break
  let m:=lo + (hi - lo) / 2
  let some more <- Wo left key arr base m | return none
  if more then lo:=m + 1 else hi:=m
 return some hi):=rfl
section
variable {prog:Program} {w:World} {A:Around} {E:Value->Shared->Prop} {s:Shared} {κ:SortKind} {ok:Keyed->Prop} {key:Keyed->Nat}
def Zek {left:Bool} {kx:Keyed} {arr:Array Keyed} {base n lo hi:Nat} {st:SortSt} {B:Nat->Bool} (hb:∀ i,i < n->∀ Q:Option Bool->SortSt->Prop,Q (some (B i)) st->wpS (d:) A E s (Wo left kx arr base i) Q st)
  (mono:∀ i j,i<=j->j < n->B j=true->B i=true) (h1:lo<=hi) (h2:hi<=n) (h3:∀ i,i < lo->B i=true) (h4:∀ i,hi<=i->i < n->B i=false) {Q:Option Nat->SortSt->Prop} (q:∀ r,r<=n->(∀ i,i < r->B i=true)->(∀ i,r<=i->i < n->B i=false)->Q (some r) st) :
  wpS (d:) A E s (do
   let mut lo:=lo
   let mut hi:=hi
   for _ in [0:n] do
    if lo ≥ hi then break
    let m:=lo + (hi - lo) / 2
    let some more <- Wo left kx arr base m | return none
    if more then lo:=m + 1 else hi:=m
   return some hi) Q st:=by
 dsimp only;refine wpS_bind (wpS_mono (wpS_forRange (I:=λx c ft=>ft=st/\∃ lo hi,c=(none,lo,hi)/\lo<=hi/\hi<=n/\hi - lo<=n - x/\(∀ i,i < lo->B i=true)/\∀ i,hi<=i->i < n->B i=false) (Q:=λc ft=>ft=st/\∃ lo hi,c=(none,lo,hi)/\lo=hi/\hi<=n/\(∀ i,i < lo->B i=true)/\∀ i,hi<=i->i < n->B i=false) ?step ?fin ?init) ?post)
 case init=>exact ⟨Y,lo,hi,Y,h1,h2,by omega,h3,h4⟩
 case fin =>
  rintro c ft ⟨rfl,lo,hi,rfl,a1,a2,a3,a4,a5⟩;exact ⟨Y,lo,hi,Y,by omega,a2,a4,a5⟩
 case step =>
  rintro x c ft _ hx ⟨rfl,lo,hi,rfl,a1,a2,a3,a4,a5⟩;dsimp only;by_cases kc:lo ≥ hi
  ·rw [if_pos kc]
   exact wpS_pure ⟨Y,lo,hi,Y,by omega,a2,a4,a5⟩
  ·rw [if_neg kc]
   refine wpS_bind (hb _ (by omega) _ ?_);dsimp only
   cases hB:B (lo + (hi - lo) / 2) with
   | true =>
    simp only [if_true];refine wpS_pure ⟨Y,_,hi,Y,by omega,a2,by omega,λi ja=>mono i _ (by omega) (by omega) hB,a5⟩
   | false =>
    simp only [Bool.false_eq_true,if_false];refine wpS_pure ⟨Y,lo,_,Y,by omega,by omega,by omega,a4,λi h1 h2=>?_⟩
    cases hBi:B i with
    | false=>rfl
    | true=>rw [mono _ i h1 h2 hBi] at hB; cases hB
 case post =>
  rintro c ft ⟨rfl,lo,hi,rfl,rfl,a2,a4,a5⟩;exact wpS_pure (q lo a2 a4 a5)
def Zh3 {left:Bool} {kx:Keyed} {arr:Array Keyed} {base n hint:Nat} {st:SortSt} {B:Nat->Bool} (hb:∀ i,i < n->∀ Q:Option Bool->SortSt->Prop,Q (some (B i)) st->wpS (d:) A E s (Wo left kx arr base i) Q st)
  (mono:∀ i j,i<=j->j < n->B j=true->B i=true) (hh:hint < n) {Q:Option Nat->SortSt->Prop} (q:∀ r,r<=n->(∀ i,i < r->B i=true)->(∀ i,r<=i->i < n->B i=false)->Q (some r) st) :
  wpS (d:) A E s (Wd left kx arr base n hint) Q st:=by
 rw [Zf5];dsimp only;refine wpS_bind (hb hint hh _ ?_);dsimp only
 cases hB:B hint with
 | true =>
  simp only [if_true];refine wpS_bind (wpS_mono (wpS_forRange (I:=λx c ft=>ft=st/\∃ la of,c=(none,la,of)/\la < of/\x + 1<=of/\hint + la < n/\B (hint + la)=true) (Q:=λc ft=>ft=st/\∃ la of,c=(none,la,of)/\la < of/\hint + la < n/\B (hint + la)=true/\(n - hint<=of\/B (hint + of)=false)) ?step ?fin ?init) ?post)
  case init=>exact ⟨Y,0,1,Y,by omega,by omega,by omega,hB⟩
  case fin =>
   rintro c ft ⟨rfl,la,of,rfl,a1,a2,a3,a4⟩;exact ⟨Y,la,of,Y,a1,a3,a4,.inl (by omega)⟩
  case step =>
   rintro x c ft _ hx ⟨rfl,la,of,rfl,a1,a2,a3,a4⟩;dsimp only;by_cases kc:of ≥ n - hint
   ·rw [if_pos kc]
    exact wpS_pure ⟨Y,la,of,Y,a1,a3,a4,.inl kc⟩
   ·rw [if_neg kc]
    refine wpS_bind (hb _ (by omega) _ ?_);dsimp only
    cases k7:B (hint + of) with
    | true =>
     simp only [Bool.not_true,Bool.false_eq_true,if_false];exact wpS_pure ⟨Y,of,2 * of + 1,Y,by omega,by omega,by omega,k7⟩
    | false =>
     simp only [Bool.not_false,if_true];exact wpS_pure ⟨Y,la,of,Y,a1,a3,a4,.inr k7⟩
  case post =>
   rintro c ft ⟨rfl,la,of,rfl,a1,a3,a4,a5⟩;dsimp only;refine Zek hb mono (by omega) (by omega) (λi hi=>mono i (hint + la) (by omega) a3 a4) (λi h1 h2=>?_) q
   rcases a5 with z | z
   ·omega
   ·cases hBi:B i with
    | false=>rfl
    | true=>rw [mono (hint + of) i (by omega) h2 hBi] at z; cases z
 | false =>
  simp only [Bool.false_eq_true,if_false];refine wpS_bind (wpS_mono (wpS_forRange (I:=λx c ft=>ft=st/\∃ la of,c=(none,la,of)/\la < of/\x + 1<=of/\la<=hint/\B (hint - la)=false) (Q:=λc ft=>ft=st/\∃ la of,c=(none,la,of)/\la < of/\la<=hint/\B (hint - la)=false/\(hint + 1<=of\/B (hint - of)=true)) ?step ?fin ?init) ?post)
  case init=>exact ⟨Y,0,1,Y,by omega,by omega,by omega,hB⟩
  case fin =>
   rintro c ft ⟨rfl,la,of,rfl,a1,a2,a3,a4⟩;exact ⟨Y,la,of,Y,a1,a3,a4,.inl (by omega)⟩
  case step =>
   rintro x c ft _ hx ⟨rfl,la,of,rfl,a1,a2,a3,a4⟩;dsimp only;by_cases kc:of ≥ hint + 1
   ·rw [if_pos kc]
    exact wpS_pure ⟨Y,la,of,Y,a1,a3,a4,.inl kc⟩
   ·rw [if_neg kc]
    refine wpS_bind (hb _ (by omega) _ ?_);dsimp only
    cases k7:B (hint - of) with
    | true =>
     simp only [if_true];exact wpS_pure ⟨Y,la,of,Y,a1,a3,a4,.inr k7⟩
    | false =>
     simp only [Bool.false_eq_true,if_false];exact wpS_pure ⟨Y,of,2 * of + 1,Y,by omega,by omega,by omega,k7⟩
  case post =>
   rintro c ft ⟨rfl,la,of,rfl,a1,a3,a4,a5⟩;dsimp only;refine Zek hb mono (by omega) (by omega) (λi hi=>?_) (λi h1 h2=>?_) q
   ·rcases a5 with z | z
    ·omega
    ·exact mono i (hint - of) (by omega) (by omega) z
   ·cases hBi:B i with
    | false=>rfl
    | true=>rw [mono (hint - la) i (by omega) h2 hBi] at a4; cases a4
end
section
variable {key:Keyed->Nat}
abbrev UpK (key:Keyed->Nat) (l:List Keyed):Prop:=l.Pairwise λx y=>key x<=key y
structure MIk (key:Keyed->Nat) (la lb o:List Keyed) (ia ib:Nat):Prop where
 pm:o.Perm (la.take ia ++ lb.take ib)
 so:UpK key o
 ba:∀ p∈o,∀ q∈la.drop ia,key p<=key q
 bb:∀ p∈o,∀ q∈lb.drop ib,key p<=key q
def MIk.swap (h:MIk key la lb o ia ib):MIk key lb la o ib ia:=⟨h.pm.trans perm_append_comm,h.so,h.bb,h.ba⟩
def MIk.run {la lb:List Keyed} (h:MIk key la lb o ia ib) (sa:UpK key la) (k:Nat) (hs:∀ p∈(la.drop ia).take k,∀ q∈lb.drop ib,key p<=key q):MIk key la lb (o ++ (la.drop ia).take k) (ia + k) ib:=by
 have sd:UpK key (la.drop ia):=sa.sublist (drop_sublist _ _);have e:(la.drop ia).drop k=la.drop (ia + k):=by rw [drop_drop]
 have yu:=sd;unfold UpK at yu;rw [<- take_append_drop k (la.drop ia),pairwise_append,e] at yu;refine ⟨?_,?_,λp hp q hq=>?_,λp hp q hq=>?_⟩
 ·rw [take_add]
  refine (h.pm.append_right _).trans ?_;rw [append_assoc,append_assoc];exact List.Perm.append_left _ perm_append_comm
 ·refine pairwise_append.mpr ⟨h.so,yu.1,λp hp q hq=>h.ba p hp q (mem_of_mem_take hq)⟩
 ·rcases mem_append.mp hp with z | z
  ·exact h.ba p z q (by rw [<- e] at hq; exact mem_of_mem_drop hq)
  ·exact yu.2.2 p z q hq
 ·rcases mem_append.mp hp with z | z
  ·exact h.bb p z q hq
  ·exact hs p z q hq
def MIk.fin {la lb:List Keyed} (h:MIk key la lb o ia ib) (sa:UpK key la) (hb:lb.length<=ib):(o ++ la.drop ia ++ lb.drop ib).Perm (la ++ lb)/\UpK key (o ++ la.drop ia ++ lb.drop ib):=by
 have pm:=h.pm;rw [take_of_length_le hb] at pm;rw [drop_of_length_le hb,append_nil];refine ⟨?_,pairwise_append.mpr ⟨h.so,sa.sublist (drop_sublist _ _),h.ba⟩⟩;refine (pm.append_right _).trans ?_
 conv=>rhs; rw [<- take_append_drop ia la]
 rw [append_assoc,append_assoc];exact List.Perm.append_left _ perm_append_comm
def MIk.last {la lb:List Keyed} (h:MIk key la lb o ia ib) (sa:UpK key la) (sb:UpK key lb) (ho:∀ p∈lb,∀ q∈la.drop ia,key p<=key q):(o ++ lb.drop ib ++ la.drop ia).Perm (la ++ lb)/\UpK key (o ++ lb.drop ib ++ la.drop ia):=by
 refine ⟨?_,?_⟩
 ·rw [append_assoc]
  refine (h.pm.append_right _).trans ?_
  conv=>rhs; rw [<- take_append_drop ia la,<- take_append_drop ib lb]
  rw [append_assoc,append_assoc];refine List.Perm.append_left _ ?_;rw [<- append_assoc];refine perm_append_comm
 ·refine pairwise_append.mpr ⟨pairwise_append.mpr ⟨h.so,sb.sublist (drop_sublist _ _),h.bb⟩,sa.sublist (drop_sublist _ _),λp hp q hq=>?_⟩
  rcases mem_append.mp hp with z | z
  ·exact h.ba p z q hq
  ·exact ho p (mem_of_mem_drop z) q hq
def Zex {l:List Keyed} (h:UpK key l) (hx:l[i]?=some x):∀ q∈l.drop i,key x<=key q:=λq hq=>by
 obtain ⟨j,hj,rfl⟩:=mem_iff_getElem.mp hq;rw [length_drop] at hj;rw [getElem_drop];obtain ⟨a1,a2⟩:=Aa hx
 rcases eq_zero_or_pos j with z | z
 ·subst z; rw [<- a2]; exact An _
 ·have:=pairwise_iff_getElem.mp h i (i + j) a1 (by lia) (by lia)
  rw [a2] at this;exact this
def MIk.one {la lb:List Keyed} (h:MIk key la lb o ia ib) (sa:UpK key la) (hx:la[ia]?=some x) (hs:∀ q∈lb.drop ib,key x<=key q):MIk key la lb (o ++ [x]) (ia + 1) ib:=by
 have e:(la.drop ia).take 1=[x]:=by
  obtain ⟨a1,a2⟩:=Aa hx;rw [drop_eq_getElem_cons a1,a2]; rfl
 have:=h.run sa 1 (by rw [e]; intro p hp; rw [Af hp]; exact hs);rw [e] at this;exact this
def Zdo {l:List Keyed} (h:UpK key l) {i j:Nat} (ka:i<=j) (hx:l[i]?=some x) (hy:l[j]?=some y):key x<=key y:=by
 obtain ⟨b1,b2⟩:=Aa hy;refine Zex h hx y ?_;rw [mem_iff_getElem];exact ⟨j - i,by rw [length_drop]; lia,by rw [getElem_drop]; simp only [show i + (j - i)=j by lia]; exact b2⟩
end
def LoL (a b:Array Keyed) (out:Array Keyed) (ia ib:Nat):Array Keyed:=out ++ a.extract ia a.size ++ b.extract ib b.size
def LoLa (a b:Array Keyed) (out:Array Keyed) (ia ib:Nat):Array Keyed:=out ++ b.extract ib b.size ++ a.extract ia a.size
section
variable {prog:Program} {w:World} {A:Around} {E:Value->Shared->Prop} {s:Shared} {κ:SortKind} {ok:Keyed->Prop} {key:Keyed->Nat}
def Z5 {arr:Array Keyed} {i:Nat} {x:Keyed} {st:SortSt} {Q:Keyed->SortSt->Prop} (h:arr[i]?=some x) (q:Q x st):wpS (d:) A E s (elem' arr i) Q st:=by
 rw [elem'_eq,h];exact wpS_pure q
def U3 {g:Nat} {st:SortSt} {Q:Unit->SortSt->Prop} (q:∀ ft,Sg st ft->Q () ft):wpS (d:) A E s (Yj g) Q st:=by
 show wpS _ _ _ _ (modify λst=>SortSt.mk' (kindOf st) (arrOf st) (pendingOf st) g (failedOf st)) _ _;exact wpS_modify (q _ ⟨Y,Y,Y,Y⟩)
def galR (hc:CmpK prog w A E s κ ok key) {kx:Keyed} {arr:Array Keyed} {base n hint:Nat} {st:SortSt} (hk:kindOf st=κ) (hx:ok kx) (ho:∀ p∈arr.toList,ok p) (hn:base + n<=arr.size) (so:∀ i j x y,base<=i->i<=j->j < base + n->arr[i]?=some x->arr[j]?=some y->key x<=key y) (hh:hint < n) {Q:Option Nat->SortSt->Prop}
  (q:∀ r,r<=n->(∀ i x,i < r->arr[base + i]?=some x->key x<=key kx)->(∀ i x,r<=i->i < n->arr[base + i]?=some x->key kx < key x)->Q (some r) st):wpS (d:) A E s (Wd false kx arr base n hint) Q st:=by
 have at':∀ i,i < n->∃ x,arr[base + i]?=some x/\ok x:=λi hi=>⟨arr[base + i]'(by lia),Array.getElem?_eq_getElem _,ho _ (by simp)⟩;refine Zh3 (B:=λi=>!decide (key kx < ((arr[base + i]?).map key).getD 0)) (λi hi Q q=>?_) (λi j ka hj h=>?_) hh λr h1 h2 h3=>q r h1 (λi x hi hx=>?_) λi x h4 h5 hx=>?_
 ·obtain ⟨x,e,ox⟩:=at' i hi
  unfold Wo;refine wpS_bind (Z5 e ?_);simp only [Bool.false_eq_true,if_false];refine wpS_bind (hc kx x hx ox st _ hk ?_);refine wpS_pure ?_;rw [e] at q;exact q
 ·obtain ⟨x,e,_⟩:=at' i (by lia)
  obtain ⟨y,e',_⟩:=at' j hj;have:=so _ _ x y (le_add_right _ _) (by lia) (by lia) e e';rw [e'] at h;rw [e];simp only [Option.map_some,Option.getD_some,Bool.not_eq_true',decide_eq_false_iff_not] at h ⊢;lia
 ·have:=h2 i hi
  rw [hx] at this;simp only [Option.map_some,Option.getD_some,Bool.not_eq_true',decide_eq_false_iff_not] at this;lia
 ·have:=h3 i h4 h5
  rw [hx] at this;simp only [Option.map_some,Option.getD_some,Bool.not_eq_false',decide_eq_true_iff] at this;exact this
def galL (hc:CmpK prog w A E s κ ok key) {kx:Keyed} {arr:Array Keyed} {base n hint:Nat} {st:SortSt} (hk:kindOf st=κ) (hx:ok kx) (ho:∀ p∈arr.toList,ok p) (hn:base + n<=arr.size) (so:∀ i j x y,base<=i->i<=j->j < base + n->arr[i]?=some x->arr[j]?=some y->key x<=key y) (hh:hint < n) {Q:Option Nat->SortSt->Prop}
  (q:∀ r,r<=n->(∀ i x,i < r->arr[base + i]?=some x->key x < key kx)->(∀ i x,r<=i->i < n->arr[base + i]?=some x->key kx<=key x)->Q (some r) st):wpS (d:) A E s (Wd true kx arr base n hint) Q st:=by
 have at':∀ i,i < n->∃ x,arr[base + i]?=some x/\ok x:=λi hi=>⟨arr[base + i]'(by lia),Array.getElem?_eq_getElem _,ho _ (by simp)⟩;refine Zh3 (B:=λi=>decide (((arr[base + i]?).map key).getD 0 < key kx)) (λi hi Q q=>?_) (λi j ka hj h=>?_) hh λr h1 h2 h3=>q r h1 (λi x hi hx=>?_) λi x h4 h5 hx=>?_
 ·obtain ⟨x,e,ox⟩:=at' i hi
  unfold Wo;refine wpS_bind (Z5 e ?_);simp only [if_true];refine hc x kx ox hx st _ hk ?_;rw [e] at q;exact q
 ·obtain ⟨x,e,_⟩:=at' i (by lia)
  obtain ⟨y,e',_⟩:=at' j hj;have:=so _ _ x y (le_add_right _ _) (by lia) (by lia) e e';rw [e'] at h;rw [e];simp only [Option.map_some,Option.getD_some,decide_eq_true_iff] at h ⊢;lia
 ·have:=h2 i hi
  rw [hx] at this;simp only [Option.map_some,Option.getD_some,decide_eq_true_iff] at this;lia
 ·have:=h3 i h4 h5
  rw [hx] at this;simp only [Option.map_some,Option.getD_some,decide_eq_false_iff_not] at this;lia
def Zea (a b out:Array Keyed) (ia ib:Nat):(LoL a b out ia ib).toList=out.toList ++ a.toList.drop ia ++ b.toList.drop ib:=by unfold LoL; simp [take_of_length_le]
def Zjq (a b out:Array Keyed) (ia ib:Nat):(LoLa a b out ia ib).toList=out.toList ++ b.toList.drop ib ++ a.toList.drop ia:=by unfold LoLa; simp [take_of_length_le]
def FinM (key:Keyed->Nat) (a b r:Array Keyed):Prop:=r.toList.Perm (a.toList ++ b.toList)/\UpK key r.toList
structure MPk (ok:Keyed->Prop) (key:Keyed->Nat) (a b:Array Keyed):Prop where
 oa:∀ p∈a.toList,ok p
 ob:∀ p∈b.toList,ok p
 sa:UpK key a.toList
 sb:UpK key b.toList
 pa:0 < a.size
 pb:0 < b.size
 h1:∀ x,b[0]?=some x->∀ q∈a.toList,key x<=key q
 h2:∀ x,a[a.size - 1]?=some x->∀ p∈b.toList,key p<=key x
section
variable {a b:Array Keyed} {out:Array Keyed} {ia ib:Nat}
def MPk.done (h:MPk ok key a b) (m:MIk key a.toList b.toList out.toList ia ib) (e:b.size<=ib):FinM key a b (LoL a b out ia ib):=by
 unfold FinM;rw [Zea];exact m.fin h.sa (by simpa using e)
def MPk.done' (h:MPk ok key a b) (m:MIk key a.toList b.toList out.toList ia ib) (e:a.size<=ia):FinM key a b (LoL a b out ia ib):=by
 have g:=m.swap.fin h.sb (by simpa using e);have ed:a.toList.drop ia=[]:=drop_of_length_le (by simpa using e);unfold FinM;rw [Zea,ed,append_nil];rw [ed,append_nil] at g;exact ⟨g.1.trans perm_append_comm,g.2⟩
def MPk.last (h:MPk ok key a b) (m:MIk key a.toList b.toList out.toList ia ib) (e:ia + 1=a.size):FinM key a b (LoLa a b out ia ib):=by
 unfold FinM;rw [Zjq];refine m.last h.sa h.sb λp hp q hq=>?_;have hl:ia < a.toList.length:=by simp; lia
 rw [drop_eq_getElem_cons hl,drop_of_length_le (by simp; lia)] at hq;rw [Af hq];exact h.h2 _ (by rw [show a.size - 1=ia by lia,Array.getElem?_eq_getElem (by lia)]; simp) p hp
def X4 {xs:Array Keyed} {i:Nat} (h:xs[i]?=some x):xs.toList[i]?=some x:=by simpa using h
def MPk.pushA (h:MPk ok key a b) (m:MIk key a.toList b.toList out.toList ia ib) (hx:a[ia]?=some x) (hs:∀ q∈b.toList.drop ib,key x<=key q):MIk key a.toList b.toList (out.push x).toList (ia + 1) ib:=by
 rw [Array.toList_push];exact m.one h.sa (X4 hx) hs
def MPk.pushB (h:MPk ok key a b) (m:MIk key a.toList b.toList out.toList ia ib) (hx:b[ib]?=some x) (hs:∀ q∈a.toList.drop ia,key x<=key q):MIk key a.toList b.toList (out.push x).toList ia (ib + 1):=by
 rw [Array.toList_push];exact (m.swap.one h.sb (X4 hx) hs).swap
def Zck (xs:Array Keyed) (i k:Nat):(xs.extract i (i + k)).toList=(xs.toList.drop i).take k:=by
 rw [Array.toList_extract,extract_eq_drop_take,Nat.add_sub_cancel_left]
def MPk.runA (h:MPk ok key a b) (m:MIk key a.toList b.toList out.toList ia ib) {k:Nat} (hy:b[ib]?=some y) (hs:∀ i x,i < k->a[ia + i]?=some x->key x<=key y):MIk key a.toList b.toList (out ++ a.extract ia (ia + k)).toList (ia + k) ib:=by
 rw [Array.toList_append,Zck];refine m.run h.sa k λp hp q hq=>?_;obtain ⟨i,hi,rfl⟩:=mem_iff_getElem.mp hp;rw [Ai,length_drop] at hi;have h1:=hs i (((a.toList.drop ia).take k)[i]'(by rw [Ai,length_drop]; lia)) (by lia) (by
  have e:((a.toList.drop ia).take k)[i]?=some _:=Ac (by rw [Ai,length_drop]; lia)
  rw [getElem?_take,if_pos (by lia),getElem?_drop] at e
  simpa using e)
 exact Nat.le_trans h1 (Zex h.sb (X4 hy) q hq)
def MPk.runB (h:MPk ok key a b) (m:MIk key a.toList b.toList out.toList ia ib) {k:Nat} (hy:a[ia]?=some y) (hs:∀ i x,i < k->b[ib + i]?=some x->key x < key y):MIk key a.toList b.toList (out ++ b.extract ib (ib + k)).toList ia (ib + k):=by
 rw [Array.toList_append,Zck];refine (m.swap.run h.sb k λp hp q hq=>?_).swap;obtain ⟨i,hi,rfl⟩:=mem_iff_getElem.mp hp;rw [Ai,length_drop] at hi;have h1:=hs i (((b.toList.drop ib).take k)[i]'(by rw [Ai,length_drop]; lia)) (by lia) (by
  have e:((b.toList.drop ib).take k)[i]?=some _:=Ac (by rw [Ai,length_drop]; lia)
  rw [getElem?_take,if_pos (by lia),getElem?_drop] at e
  simpa using e)
 exact Nat.le_trans (Nat.le_of_lt h1) (Zex h.sa (X4 hy) q hq)
def Gg {xs:Array Keyed} (hs:∀ j x,i<=j->xs[j]?=some x->key y<=key x):∀ q∈xs.toList.drop i,key y<=key q:=λq hq=>by
 obtain ⟨j,hj,rfl⟩:=mem_iff_getElem.mp hq;rw [length_drop] at hj;refine hs (i + j) _ (le_add_right _ _) ?_;have e:(xs.toList.drop i)[j]?=some _:=Ac (by rw [length_drop]; exact hj);rw [getElem?_drop] at e;simpa using e
def Wr {xs:Array Keyed} (h:UpK key xs.toList) {i j:Nat} (ka:i<=j) (hx:xs[i]?=some x) (hy:xs[j]?=some y):key x<=key y:=Zdo h ka (X4 hx) (X4 hy)
end
abbrev LoSt:=Option (Array Keyed) × Array Keyed × Nat × Nat × Nat × Nat × Nat
noncomputable def loT2 (a b out:Array Keyed) (ia ib g ac k1:Nat):StateT SortSt Sem (ForInStep LoSt):=do
 let y <- elem' a ia
 if (ia + 1 + 1 == a.size)=true then pure (ForInStep.done (some (LoLa a b (out.push y) (ia + 1) ib),out.push y,ia + 1,ib,g,ac,k1))
 else if (decide (ac < 7) && decide (k1 < 7))=true then pure (ForInStep.done (none,out.push y,ia + 1,ib,g,ac,k1))
 else pure (ForInStep.yield (none,out.push y,ia + 1,ib,g,ac,k1))
noncomputable def loT1 (a b out:Array Keyed) (ia ib g ac bc:Nat):StateT SortSt Sem (ForInStep LoSt):=do
 let y <- elem' b ib
 if (ib + 1 == b.size)=true then pure (ForInStep.done (some (LoL a b (out.push y) ia (ib + 1)),out.push y,ia,ib + 1,g,ac,bc))
 else do
  let z <- elem' a ia
  let r <- Wd true z b (ib + 1) (b.size - (ib + 1)) 0
  match r with
  | some k1 =>
   if k1 > 0 then
    if (ib + 1 + k1 == b.size)=true then pure (ForInStep.done (some (LoL a b (out.push y ++ b.extract (ib + 1) (ib + 1 + k1)) ia (ib + 1 + k1)),out.push y ++ b.extract (ib + 1) (ib + 1 + k1),ia,ib + 1 + k1,g,ac,k1))
    else loT2 a b (out.push y ++ b.extract (ib + 1) (ib + 1 + k1)) ia (ib + 1 + k1) g ac k1
   else loT2 a b (out.push y) ia (ib + 1) g ac k1
  | _=>pure (ForInStep.done (some (LoL a b (out.push y) ia (ib + 1)),out.push y,ia,ib + 1,g,ac,bc))
noncomputable def loT0 (a b out:Array Keyed) (ia ib g ac bc:Nat):StateT SortSt Sem (ForInStep LoSt):=do
 let y <- elem' b ib
 let r <- Wd false y a ia (a.size - ia) 0
 match r with
 | some k =>
  if k > 0 then
   if (ia + k + 1 == a.size)=true then pure (ForInStep.done (some (LoLa a b (out ++ a.extract ia (ia + k)) (ia + k) ib),out ++ a.extract ia (ia + k),ia + k,ib,g,k,bc))
   else if (ia + k == a.size)=true then pure (ForInStep.done (some (LoL a b (out ++ a.extract ia (ia + k)) (ia + k) ib),out ++ a.extract ia (ia + k),ia + k,ib,g,k,bc))
   else loT1 a b (out ++ a.extract ia (ia + k)) (ia + k) ib g k bc
  else loT1 a b out ia ib g k bc
 | _=>pure (ForInStep.done (some (LoL a b out ia ib),out,ia,ib,g,ac,bc))
abbrev LoS1:=Option (Array Keyed) × Array Keyed × Nat × Nat × Nat × Nat
abbrev LoS0:=Option (Array Keyed) × Array Keyed × Nat × Nat × Nat
noncomputable def Zfu (a b:Array Keyed) (mg:Nat) (out:Array Keyed) (ia ib ac bc:Nat):StateT SortSt Sem (ForInStep LoS1):=do
 let x <- elem' b ib
 let y <- elem' a ia
 let r <- lt' x y
 match r with
 | some bw =>
  if bw=true then do
   let z <- elem' b ib
   if (ib + 1 == b.size)=true then pure (ForInStep.done (some (LoL a b (out.push z) ia (ib + 1)),out.push z,ia,ib + 1,0,bc + 1))
   else if bc + 1 ≥ mg then pure (ForInStep.done (none,out.push z,ia,ib + 1,0,bc + 1))
   else pure (ForInStep.yield (none,out.push z,ia,ib + 1,0,bc + 1))
  else do
   let z <- elem' a ia
   if (ia + 1 + 1 == a.size)=true then pure (ForInStep.done (some (LoLa a b (out.push z) (ia + 1) ib),out.push z,ia + 1,ib,ac + 1,0))
   else if ac + 1 ≥ mg then pure (ForInStep.done (none,out.push z,ia + 1,ib,ac + 1,0))
   else pure (ForInStep.yield (none,out.push z,ia + 1,ib,ac + 1,0))
 | _=>pure (ForInStep.done (some (LoL a b out ia ib),out,ia,ib,ac,bc))
noncomputable def Zfv (a b out:Array Keyed) (ia ib g ac bc:Nat):StateT SortSt Sem (ForInStep LoSt):=if g > 1 then (do Yj (g - 1); loT0 a b out ia ib (g - 1) ac bc) else do Yj g; loT0 a b out ia ib g ac bc
noncomputable def U9 (a b out:Array Keyed) (ia ib mg:Nat):StateT SortSt Sem (ForInStep LoS0):=do
 let c <- forIn [:a.size + b.size] ((none,out,ia,ib,0,0):LoS1) λ_ c=>Zfu a b mg c.2.1 c.2.2.1 c.2.2.2.1 c.2.2.2.2.1 c.2.2.2.2.2
 match c.1 with
 | some r=>pure (ForInStep.done (some r,c.2.1,c.2.2.1,c.2.2.2.1,mg))
 | none=>do
  rule "list.sort.gallop"
  let d <- forIn [:a.size + b.size] ((none,c.2.1,c.2.2.1,c.2.2.2.1,mg + 1,c.2.2.2.2.1,c.2.2.2.2.2):LoSt) λ_ d=>Zfv a b d.2.1 d.2.2.1 d.2.2.2.1 d.2.2.2.2.1 d.2.2.2.2.2.1 d.2.2.2.2.2.2
  match d.1 with
  | some r=>pure (ForInStep.done (some r,d.2.1,d.2.2.1,d.2.2.2.1,d.2.2.2.2.1))
  | none=>do
   Yj (d.2.2.2.2.1 + 1)
   pure (ForInStep.yield (none,d.2.1,d.2.2.1,d.2.2.2.1,d.2.2.2.2.1 + 1))
theorem Zdf (a b:Array Keyed):Vv a b=(do
 rule "list.sort.merge-lo"
 let z <- elem' b 0
 if (1 == b.size)=true then pure (LoL a b #[z] 0 1)
 else if (0 + 1 == a.size)=true then pure (LoLa a b #[z] 0 1)
 else do
  let st <- get
  let c <- forIn [:a.size + b.size] ((none,#[z],0,1,gallopOf st):LoS0) λ_ c=>U9 a b c.2.1 c.2.2.1 c.2.2.2.1 c.2.2.2.2
  match c.1 with
  | some r=>pure r
  | none=>unsupported "internal:list.sort.merge-bound"):=by
 unfold Vv;refine congrArg (bind _) (funext λ_=>?_);refine congrArg (bind _) (funext λz=>?_);refine congrArg (ite _ _) ?_;refine congrArg (ite _ _) ?_;refine congrArg (bind _) (funext λst=>?_);refine congr (congrArg bind ?_) ?_
 ·refine congrArg (forIn _ _) (funext λ_=>funext λc=>?_)
  unfold U9;refine congr (congrArg bind ?_) ?_
  ·refine congrArg (forIn _ _) (funext λ_=>funext λc=>?_)
   rfl
  ·refine funext λc=>?_
   obtain ⟨r,rest⟩:=c
   cases r with
   | some r=>rfl
   | none =>
    refine congrArg (bind _) (funext λ_=>?_);refine congr (congrArg bind ?_) ?_
    ·refine congrArg (forIn _ _) (funext λ_=>funext λc=>?_)
     rfl
    ·funext d
     obtain ⟨r,rest⟩:=d
     cases r with
     | some r=>rfl
     | none=>rfl
 ·funext c
  obtain ⟨r,rest⟩:=c
  cases r with
  | some r=>rfl
  | none=>rfl
def LoO (key:Keyed->Nat) (a b:Array Keyed) (S:Nat) (r:ForInStep LoS1):Prop :=
 (∃ R c,r=.done (some R,c)/\FinM key a b R)\/∃ out ia ib ac bc,(r=.done (none,out,ia,ib,ac,bc)\/r=.yield (none,out,ia,ib,ac,bc))/\MIk key a.toList b.toList out.toList ia ib/\ia + 1 < a.size/\ib < b.size/\S<=ia + ib
def LoQ (key:Keyed->Nat) (a b:Array Keyed) (S:Nat) (r:ForInStep LoS0):Prop :=
 (∃ R c,r=.done (some R,c)/\FinM key a b R)\/∃ out ia ib g,r=.yield (none,out,ia,ib,g)/\MIk key a.toList b.toList out.toList ia ib/\ia + 1 < a.size/\ib < b.size/\S<=ia + ib
def LoI (key:Keyed->Nat) (a b:Array Keyed) (S:Nat) (c:LoS1):Prop:=c.1=none/\MIk key a.toList b.toList c.2.1.toList c.2.2.1 c.2.2.2.1/\c.2.2.1 + 1 < a.size/\c.2.2.2.1 < b.size/\S<=c.2.2.1 + c.2.2.2.1
def LoJ (key:Keyed->Nat) (a b:Array Keyed) (S:Nat) (c:LoSt):Prop:=c.1=none/\MIk key a.toList b.toList c.2.1.toList c.2.2.1 c.2.2.2.1/\c.2.2.1 + 1 < a.size/\c.2.2.2.1 < b.size/\S<=c.2.2.1 + c.2.2.2.1
def LoR (key:Keyed->Nat) (a b:Array Keyed) (S:Nat) (r:ForInStep LoSt):Prop :=
 (∃ R c,r=.done (some R,c)/\FinM key a b R)\/∃ out ia ib g ac bc,(r=.done (none,out,ia,ib,g,ac,bc)\/r=.yield (none,out,ia,ib,g,ac,bc))/\MIk key a.toList b.toList out.toList ia ib/\ia + 1 < a.size/\ib < b.size/\S<=ia + ib
def Yo {xs:Array Keyed} {i:Nat} (hi:i < xs.size):∃ x,xs[i]?=some x/\x∈xs.toList:=⟨xs[i],Array.getElem?_eq_getElem hi,by simp⟩
def Zeb {a b:Array Keyed} (h:MPk ok key a b) {out:Array Keyed} {ia ib g ac k1 S:Nat} (mi:MIk key a.toList b.toList out.toList ia ib) (z1:ia + 1 < a.size) (z2:ib < b.size) (z3:S<=ia + ib) {y:Keyed} (hy:a[ia]?=some y) (hs:∀ q∈b.toList.drop ib,key y<=key q) {st:SortSt}:wpS (d:) A E s (loT2 a b out ia ib g ac k1) (λr ft=>ft=st/\LoR key a b S r) st:=by
 unfold loT2;refine wpS_bind (Z5 hy ?_);have m2:=h.pushA mi hy hs;by_cases c:(ia + 1 + 1 == a.size)=true
 ·rw [if_pos c]
  exact wpS_pure ⟨Y,.inl ⟨_,_,Y,h.last m2 (by simpa using c)⟩⟩
 ·rw [if_neg c]
  have c:ia + 1 + 1≠a.size:=by simpa using c
  split
  ·exact wpS_pure ⟨Y,.inr ⟨_,_,_,_,_,_,.inl Y,m2,by lia,z2,by lia⟩⟩
  ·exact wpS_pure ⟨Y,.inr ⟨_,_,_,_,_,_,.inr Y,m2,by lia,z2,by lia⟩⟩
def Zec (hc:CmpK prog w A E s κ ok key) {a b:Array Keyed} (h:MPk ok key a b) {out:Array Keyed} {ia ib g ac bc S:Nat} (mi:MIk key a.toList b.toList out.toList ia ib) (z1:ia + 1 < a.size) (z2:ib < b.size) (z3:S<=ia + ib) {y:Keyed} (hy:b[ib]?=some y) (hs:∀ q∈a.toList.drop ia,key y<=key q) {st:SortSt} (hk:kindOf st=κ):wpS (d:) A E s (loT1 a b out ia ib g ac bc) (λr ft=>ft=st/\LoR key a b (S + 1) r) st:=by
 unfold loT1;refine wpS_bind (Z5 hy ?_);have m2:=h.pushB mi hy hs;by_cases c:(ib + 1 == b.size)=true
 ·rw [if_pos c]
  have c:ib + 1=b.size:=by simpa using c
  exact wpS_pure ⟨Y,.inl ⟨_,_,Y,h.done m2 (by lia)⟩⟩
 rw [if_neg c];have c:ib + 1≠b.size:=by simpa using c
 obtain ⟨z,ez,mz⟩:=Yo (show ia < a.size by lia);refine wpS_bind (Z5 ez ?_);refine wpS_bind (galL hc hk (h.oa z mz) h.ob (by lia) (λi j x y _ ka _ ex ey=>Wr h.sb ka ex ey) (by lia) λk1 k2 k3 k4=>?_);dsimp only;have ab:∀ q∈b.toList.drop (ib + 1 + k1),key z<=key q:=Gg λj x hj ex=>by
  obtain ⟨hx,_⟩:=Array.getElem?_eq_some_iff.mp ex
  exact k4 (j - (ib + 1)) x (by lia) (by lia) (by rw [show ib + 1 + (j - (ib + 1))=j by lia]; exact ex)
 by_cases ck:k1 > 0
 ·rw [if_pos ck]
  have m3:=h.runB m2 ez k3;by_cases c2:(ib + 1 + k1 == b.size)=true
  ·rw [if_pos c2]
   have c2:ib + 1 + k1=b.size:=by simpa using c2
   exact wpS_pure ⟨Y,.inl ⟨_,_,Y,h.done m3 (by lia)⟩⟩
  ·rw [if_neg c2]
   have c2:ib + 1 + k1≠b.size:=by simpa using c2
   exact Zeb h m3 z1 (by lia) (by lia) ez ab
 ·rw [if_neg ck]
  have:k1=0:=by lia
  subst this;exact Zeb h m2 z1 (by lia) (by lia) ez ab
def Zl7 (hc:CmpK prog w A E s κ ok key) {a b:Array Keyed} (h:MPk ok key a b) {out:Array Keyed} {ia ib g ac bc S:Nat} (mi:MIk key a.toList b.toList out.toList ia ib) (z1:ia + 1 < a.size) (z2:ib < b.size) (z3:S<=ia + ib) {st:SortSt} (hk:kindOf st=κ):wpS (d:) A E s (loT0 a b out ia ib g ac bc) (λr ft=>ft=st/\LoR key a b (S + 1) r) st:=by
 unfold loT0;obtain ⟨y,ey,my⟩:=Yo z2;refine wpS_bind (Z5 ey ?_);refine wpS_bind (galR hc hk (h.ob y my) h.oa (by lia) (λi j x y _ ka _ ex ey=>Wr h.sa ka ex ey) (by lia) λk k2 k3 k4=>?_);dsimp only;have ab:∀ q∈a.toList.drop (ia + k),key y<=key q:=Gg λj x hj ex=>by
  obtain ⟨hx,_⟩:=Array.getElem?_eq_some_iff.mp ex
  exact Nat.le_of_lt (k4 (j - ia) x (by lia) (by lia) (by rw [show ia + (j - ia)=j by lia]; exact ex))
 by_cases ck:k > 0
 ·rw [if_pos ck]
  have m2:=h.runA mi ey k3;by_cases c:(ia + k + 1 == a.size)=true
  ·rw [if_pos c]
   exact wpS_pure ⟨Y,.inl ⟨_,_,Y,h.last m2 (by simpa using c)⟩⟩
  rw [if_neg c];have c:ia + k + 1≠a.size:=by simpa using c
  by_cases c2:(ia + k == a.size)=true
  ·rw [if_pos c2]
   have c2:ia + k=a.size:=by simpa using c2
   exact wpS_pure ⟨Y,.inl ⟨_,_,Y,h.done' m2 (by lia)⟩⟩
  ·rw [if_neg c2]
   have c2:ia + k≠a.size:=by simpa using c2
   exact Zec hc h m2 (by lia) z2 (by lia) ey ab hk
 ·rw [if_neg ck]
  have:k=0:=by lia
  subst this;exact Zec hc h mi z1 z2 z3 ey ab hk
def Zjw (hc:CmpK prog w A E s κ ok key) {a b:Array Keyed} (h:MPk ok key a b) {out:Array Keyed} {mg ia ib ac bc:Nat} (m2:MIk key a.toList b.toList out.toList ia ib) (y1:ia + 1 < a.size) (y2:ib < b.size) {st:SortSt} (hk:kindOf st=κ):wpS (d:) A E s (Zfu a b mg out ia ib ac bc) (λr ft=>ft=st/\LoO key a b (ia + ib + 1) r) st:=by
 unfold Zfu;obtain ⟨vb,eb,mb⟩:=Yo y2;obtain ⟨va,ea,ma⟩:=Yo (show ia < a.size by lia);refine wpS_bind (Z5 eb ?_);refine wpS_bind (Z5 ea ?_);refine wpS_bind (hc vb va (h.ob _ mb) (h.oa _ ma) _ _ hk ?_);dsimp only;by_cases lt:key vb < key va
 ·rw [decide_eq_true lt,if_pos rfl]
  refine wpS_bind (Z5 eb ?_);have m3:=h.pushB m2 eb (Gg λj x hj ex=>Nat.le_trans (Nat.le_of_lt lt) (Wr h.sa hj ea ex));by_cases c:(ib + 1 == b.size)=true
  ·rw [if_pos c]
   have c:ib + 1=b.size:=by simpa using c
   exact wpS_pure ⟨Y,.inl ⟨_,_,Y,h.done m3 (by lia)⟩⟩
  ·rw [if_neg c]
   have c:ib + 1≠b.size:=by simpa using c
   split
   ·exact wpS_pure ⟨Y,.inr ⟨_,_,_,_,_,.inl Y,m3,y1,by lia,by lia⟩⟩
   ·exact wpS_pure ⟨Y,.inr ⟨_,_,_,_,_,.inr Y,m3,y1,by lia,by lia⟩⟩
 ·rw [decide_eq_false lt,if_neg (by decide)]
  refine wpS_bind (Z5 ea ?_);have m3:=h.pushA m2 ea (Gg λj x hj ex=>Nat.le_trans (Nat.le_of_not_lt lt) (Wr h.sb hj eb ex));by_cases c:(ia + 1 + 1 == a.size)=true
  ·rw [if_pos c]
   exact wpS_pure ⟨Y,.inl ⟨_,_,Y,h.last m3 (by simpa using c)⟩⟩
  ·rw [if_neg c]
   have c:ia + 1 + 1≠a.size:=by simpa using c
   split
   ·exact wpS_pure ⟨Y,.inr ⟨_,_,_,_,_,.inl Y,m3,by lia,y2,by lia⟩⟩
   ·exact wpS_pure ⟨Y,.inr ⟨_,_,_,_,_,.inr Y,m3,by lia,y2,by lia⟩⟩
def Zjx (hc:CmpK prog w A E s κ ok key) {a b:Array Keyed} (h:MPk ok key a b) {out:Array Keyed} {ia ib g ac bc:Nat} (m3:MIk key a.toList b.toList out.toList ia ib) (x1:ia + 1 < a.size) (x2:ib < b.size) {st:SortSt} (hk:kindOf st=κ):wpS (d:) A E s (Zfv a b out ia ib g ac bc) (λr ft=>Sg st ft/\LoR key a b (ia + ib + 1) r) st:=by
 have go:∀ g',wpS (d:) A E s (do Yj g'; loT0 a b out ia ib g' ac bc) (λr ft=>Sg st ft/\LoR key a b (ia + ib + 1) r) st:=λg'=>by
  refine wpS_bind (U3 λkm g4=>?_);refine wpS_mono (Zl7 hc h m3 x1 x2 (An _) (g4.kind.trans hk)) λr ot gc=>?_;obtain ⟨e5,f5⟩:=gc;subst e5;exact ⟨g4,f5⟩
 unfold Zfv;split
 ·exact go _
 ·exact go _
def Zft (hc:CmpK prog w A E s κ ok key) {a b:Array Keyed} (h:MPk ok key a b) {out:Array Keyed} {ia ib mg:Nat} (mi:MIk key a.toList b.toList out.toList ia ib) (z1:ia + 1 < a.size) (z2:ib < b.size) {st:SortSt} (hk:kindOf st=κ):wpS (d:) A E s (U9 a b out ia ib mg) (λr ft=>Sg st ft/\LoQ key a b (ia + ib + 1) r) st:=by
 unfold U9;refine wpS_bind (wpS_mono (wpS_forRange (I:=λy c fy=>fy=st/\LoI key a b (ia + ib + y) c) (Q:=λc fy=>fy=st/\((∃ r,c.1=some r/\FinM key a b r)\/LoI key a b (ia + ib + 1) c)) ?istep ?ifin ?iinit) ?ipost)
 case iinit=>exact ⟨Y,Y,mi,z1,z2,An _⟩
 case ifin =>
  rintro c fy ⟨_,_,_,z1,z2,z3⟩;lia
 case istep =>
  rintro y c fy _ hy ⟨rfl,e,m2,y1,y2,y3⟩;refine wpS_mono (Zjw hc h m2 y1 y2 hk) ?_;rintro r gv ⟨rfl,⟨R,c',rfl,f⟩ | ⟨o4,i4,j4,a4,b4,rfl | rfl,m4,w1,w2,w3⟩⟩
  ·exact ⟨Y,.inl ⟨R,Y,f⟩⟩
  ·exact ⟨Y,.inr ⟨Y,m4,w1,w2,by show _<=i4 + j4; lia⟩⟩
  ·exact ⟨Y,Y,m4,w1,w2,by show _<=i4 + j4; lia⟩
 case ipost =>
  rintro c fy ⟨rfl,⟨r,e,f⟩ | ⟨e,m2,y1,y2,y3⟩⟩
  ·rw [e]
   exact wpS_pure ⟨Sg.refl _,.inl ⟨r,_,Y,f⟩⟩
  rw [e];refine wpS_bind (wpS_lift (wpAny_rule ⟨Y,?_⟩));generalize c.2.1=p6 at m2 ⊢;generalize c.2.2.1=ia2 at m2 y1 y3 ⊢;generalize c.2.2.2.1=ib2 at m2 y2 y3 ⊢;refine wpS_bind (wpS_mono (wpS_forRange (I:=λy c gv=>Sg fy gv/\LoJ key a b (ia2 + ib2 + y) c) (Q:=λc gv=>Sg fy gv/\((∃ r,c.1=some r/\FinM key a b r)\/LoJ key a b (ia2 + ib2) c)) ?jstep ?jfin ?jinit) ?jpost)
  case jinit=>exact ⟨Sg.refl _,Y,m2,y1,y2,An _⟩
  case jfin =>
   rintro c gv ⟨_,_,_,x1,x2,x3⟩;lia
  case jstep =>
   rintro y c gv _ hy ⟨g1,e1,m3,x1,x2,x3⟩;refine wpS_mono (Zjx hc h m3 x1 x2 (g1.kind.trans hk)) ?_;rintro r km ⟨gs,⟨R,c',rfl,f⟩ | ⟨o4,i4,j4,g4,a4,b4,rfl | rfl,m4,w1,w2,w3⟩⟩
   ·exact ⟨g1.trans gs,.inl ⟨R,Y,f⟩⟩
   ·exact ⟨g1.trans gs,.inr ⟨Y,m4,w1,w2,by show _<=i4 + j4; lia⟩⟩
   ·exact ⟨g1.trans gs,Y,m4,w1,w2,by show _<=i4 + j4; lia⟩
  case jpost =>
   rintro c gv ⟨g1,⟨r,e1,f⟩ | ⟨e1,m3,x1,x2,x3⟩⟩
   ·rw [e1]
    exact wpS_pure ⟨g1,.inl ⟨r,_,Y,f⟩⟩
   rw [e1];refine wpS_bind (U3 λkm g4=>?_);exact wpS_pure ⟨g1.trans g4,.inr ⟨_,_,_,_,Y,m3,x1,x2,by lia⟩⟩
def Zfl (hc:CmpK prog w A E s κ ok key) {a b:Array Keyed} (h:MPk ok key a b) {st:SortSt} (hk:kindOf st=κ) {Q:Array Keyed->SortSt->Prop} (q:∀ r ft,Sg st ft->FinM key a b r->Q r ft):wpS (d:) A E s (Vv a b) Q st:=by
 have pa:=h.pa;have pb:=h.pb;rw [Zdf];refine wpS_bind (wpS_lift (wpAny_rule ⟨Y,?_⟩));obtain ⟨b0,e0,m0⟩:=Yo pb;refine wpS_bind (Z5 e0 ?_);have rg:MIk key a.toList b.toList #[b0].toList 0 1:=by
  have z:MIk key a.toList b.toList (#[]:Array Keyed).toList 0 0:=⟨by simp,List.Pairwise.nil,(λp hp=>by simp at hp),(λp hp=>by simp at hp)⟩
  exact h.pushB z e0 (by rw [drop_zero]; exact h.h1 b0 e0)
 by_cases c1:(1 == b.size)=true
 ·rw [if_pos c1]
  exact wpS_pure (q _ _ (Sg.refl _) (h.done rg (by simp at c1; lia)))
 rw [if_neg c1];by_cases c2:(0 + 1 == a.size)=true
 ·rw [if_pos c2]
  exact wpS_pure (q _ _ (Sg.refl _) (h.last rg (by simp at c2; lia)))
 rw [if_neg c2];have hb1:1 < b.size:=by simp at c1; lia
 have ha1:0 + 1 < a.size:=by simp at c2; lia
 refine wpS_bind (wpS_get ?_);refine wpS_bind (wpS_mono (wpS_forRange (I:=λx c ft=>Sg st ft/\c.1=none/\MIk key a.toList b.toList c.2.1.toList c.2.2.1 c.2.2.2.1/\c.2.2.1 + 1 < a.size/\c.2.2.2.1 < b.size/\1 + x<=c.2.2.1 + c.2.2.2.1) (Q:=λc ft=>Sg st ft/\∃ r,c.1=some r/\FinM key a b r) ?step ?fin ?init) ?post)
 case init=>exact ⟨Sg.refl _,Y,rg,ha1,hb1,An _⟩
 case fin =>
  rintro c ft ⟨_,_,_,z1,z2,z3⟩;lia
 case post =>
  rintro c ft ⟨g,r,e,f⟩;rw [e];exact wpS_pure (q r ft g f)
 case step =>
  rintro x c ft _ hx ⟨g0,e,mi,z1,z2,z3⟩;refine wpS_mono (Zft hc h mi z1 z2 (g0.kind.trans hk)) ?_;rintro r km ⟨gs,⟨R,c',rfl,f⟩ | ⟨o4,i4,j4,g4,rfl,m4,w1,w2,w3⟩⟩
  ·exact ⟨g0.trans gs,R,Y,f⟩
  ·exact ⟨g0.trans gs,Y,m4,w1,w2,by show _<=i4 + j4; lia⟩
end
section
variable {key:Keyed->Nat}
structure MHk (key:Keyed->Nat) (la lb o:List Keyed) (na nb:Nat):Prop where
 pm:o.Perm (la.drop na ++ lb.drop nb)
 so:o.Pairwise λx y=>key y<=key x
 ba:∀ p∈o,∀ q∈la.take na,key q<=key p
 bb:∀ p∈o,∀ q∈lb.take nb,key q<=key p
def MHk.swap (h:MHk key la lb o na nb):MHk key lb la o nb na:=⟨h.pm.trans perm_append_comm,h.so,h.bb,h.ba⟩
def MHk.run {la lb:List Keyed} (h:MHk key la lb o na nb) (sa:UpK key la) (m:Nat) (hm:m<=na) (hs:∀ p∈(la.take na).drop m,∀ q∈lb.take nb,key q<=key p):MHk key la lb (o ++ ((la.take na).drop m).reverse) m nb:=by
 have st:UpK key (la.take na):=sa.sublist (take_sublist _ _);have e:(la.take na).take m=la.take m:=by rw [take_take,Nat.min_eq_left hm]
 have fy:=st;unfold UpK at fy;rw [<- take_append_drop m (la.take na),pairwise_append,e] at fy;refine ⟨?_,?_,λp hp q hq=>?_,λp hp q hq=>?_⟩
 ·have ed:la.drop m=(la.take na).drop m ++ la.drop na:=by
   rw [drop_take,show la.drop na=(la.drop m).drop (na - m) by rw [drop_drop]; congr 1; lia,take_append_drop]
  rw [ed,append_assoc];refine (List.Perm.append h.pm (reverse_perm _)).trans ?_;refine perm_append_comm.trans ?_;exact List.Perm.refl _
 ·refine pairwise_append.mpr ⟨h.so,pairwise_reverse.mpr fy.2.1,λp hp q hq=>h.ba p hp q (mem_of_mem_drop (mem_reverse.mp hq))⟩
 ·rcases mem_append.mp hp with z | z
  ·exact h.ba p z q (by rw [<- e] at hq; exact mem_of_mem_take hq)
  ·exact fy.2.2 q hq p (mem_reverse.mp z)
 ·rcases mem_append.mp hp with z | z
  ·exact h.bb p z q hq
  ·exact hs p (mem_reverse.mp z) q hq
def MHk.fin {la lb o:List Keyed} (h:MHk key la lb o na nb) (sa:UpK key la) (hb:nb=0):(la.take na ++ lb.take nb ++ o.reverse).Perm (la ++ lb)/\UpK key (la.take na ++ lb.take nb ++ o.reverse):=by
 subst hb;have pm:=h.pm;rw [drop_zero] at pm;rw [take_zero,append_nil];refine ⟨?_,pairwise_append.mpr ⟨sa.sublist (take_sublist _ _),pairwise_reverse.mpr h.so,λp hp q hq=>h.ba q (mem_reverse.mp hq) p hp⟩⟩;refine (List.Perm.append_left _ ((reverse_perm _).trans pm)).trans ?_;rw [<- append_assoc,take_append_drop]
def MHk.first {la lb o:List Keyed} {na nb:Nat} (h:MHk key la lb o na nb) (sa:UpK key la) (sb:UpK key lb) (ho:∀ p∈lb.take nb,∀ q∈la,key p<=key q):(lb.take nb ++ la.take na ++ o.reverse).Perm (la ++ lb)/\UpK key (lb.take nb ++ la.take na ++ o.reverse):=by
 refine ⟨?_,?_⟩
 ·refine (List.Perm.append_left _ ((reverse_perm _).trans h.pm)).trans ?_
  rw [append_assoc,<- append_assoc (la.take na),take_append_drop];refine perm_append_comm.trans ?_;rw [append_assoc];refine List.Perm.append_left _ (perm_append_comm.trans ?_);rw [take_append_drop]
 ·refine pairwise_append.mpr ⟨pairwise_append.mpr ⟨sb.sublist (take_sublist _ _),sa.sublist (take_sublist _ _),λp hp q hq=>ho p hp q (mem_of_mem_take hq)⟩,pairwise_reverse.mpr h.so,λp hp q hq=>?_⟩
  rcases mem_append.mp hp with z | z
  ·exact h.bb q (mem_reverse.mp hq) p z
  ·exact h.ba q (mem_reverse.mp hq) p z
def MHk.one {la lb:List Keyed} (h:MHk key la lb o (na + 1) nb) (sa:UpK key la) (hx:la[na]?=some x) (hs:∀ q∈lb.take nb,key q<=key x):MHk key la lb (o ++ [x]) na nb:=by
 have e:(la.take (na + 1)).drop na=[x]:=by
  obtain ⟨a1,a2⟩:=Aa hx;rw [drop_take,Nat.add_sub_cancel_left,drop_eq_getElem_cons a1,a2]; rfl
 have:=h.run sa na (le_succ _) (by rw [e]; intro p hp; rw [Af hp]; exact hs);rw [e] at this;exact this
end
def HiL (a b:Array Keyed) (out:Array Keyed) (na nb:Nat):Array Keyed:=a.extract 0 na ++ b.extract 0 nb ++ out.reverse
def HiLb (a b:Array Keyed) (out:Array Keyed) (na nb:Nat):Array Keyed:=b.extract 0 nb ++ a.extract 0 na ++ out.reverse
section
variable {prog:Program} {w:World} {A:Around} {E:Value->Shared->Prop} {s:Shared} {κ:SortKind} {ok:Keyed->Prop} {key:Keyed->Nat}
def Zeg (a b out:Array Keyed) (na nb:Nat):(HiL a b out na nb).toList=a.toList.take na ++ b.toList.take nb ++ out.toList.reverse:=by unfold HiL; simp
def Zj1 (a b out:Array Keyed) (na nb:Nat):(HiLb a b out na nb).toList=b.toList.take nb ++ a.toList.take na ++ out.toList.reverse:=by unfold HiLb; simp
section
variable {a b:Array Keyed} {out:Array Keyed} {na nb:Nat}
def MPk.hdone (h:MPk ok key a b) (m:MHk key a.toList b.toList out.toList na nb) (e:nb=0):FinM key a b (HiL a b out na nb):=by
 unfold FinM;rw [Zeg];exact m.fin h.sa e
def MPk.hdone' (h:MPk ok key a b) (m:MHk key a.toList b.toList out.toList na nb) (e:na=0):FinM key a b (HiL a b out na nb):=by
 have g:=m.swap.fin h.sb e;unfold FinM;rw [Zeg];subst e;rw [take_zero,nil_append];rw [take_zero,append_nil] at g;exact ⟨g.1.trans perm_append_comm,g.2⟩
def MPk.hfirst (h:MPk ok key a b) (m:MHk key a.toList b.toList out.toList na nb) (e:nb=1):FinM key a b (HiLb a b out na nb):=by
 subst e;unfold FinM;rw [Zj1];refine m.first h.sa h.sb λp hp q hq=>?_;obtain ⟨x,ex,mx⟩:=Yo h.pb
 have e1:b.toList.take 1=[x]:=by
  have:=X4 ex
  cases hb:b.toList with
  | nil=>rw [hb] at this; cases this
  | cons y l=>rw [hb] at this; cases this; rfl
 rw [e1] at hp;rw [Af hp];exact h.h1 x ex q hq
def MPk.hpushA (h:MPk ok key a b) (m:MHk key a.toList b.toList out.toList (na + 1) nb) (hx:a[na]?=some x) (hs:∀ q∈b.toList.take nb,key q<=key x):MHk key a.toList b.toList (out.push x).toList na nb:=by
 rw [Array.toList_push];exact m.one h.sa (X4 hx) hs
def MPk.hpushB (h:MPk ok key a b) (m:MHk key a.toList b.toList out.toList na (nb + 1)) (hx:b[nb]?=some x) (hs:∀ q∈a.toList.take na,key q<=key x):MHk key a.toList b.toList (out.push x).toList na nb:=by
 rw [Array.toList_push];exact (m.swap.one h.sb (X4 hx) hs).swap
def Vn {xs:Array Keyed} (hs:∀ j x,j < i->xs[j]?=some x->key x<=key y):∀ q∈xs.toList.take i,key q<=key y:=λq hq=>by
 obtain ⟨j,hj,rfl⟩:=mem_iff_getElem.mp hq;have e:(xs.toList.take i)[j]?=some _:=Ac hj;rw [Ai] at hj;rw [getElem?_take,if_pos (by lia)] at e;exact hs j _ (by lia) (by simpa using e)
def Zbj (xs:Array Keyed) (m n:Nat):((xs.extract m n).reverse).toList=((xs.toList.take n).drop m).reverse:=by
 rw [Array.toList_reverse,Array.toList_extract,extract_eq_drop_take,drop_take]
def MPk.hrunA (h:MPk ok key a b) (m:MHk key a.toList b.toList out.toList na nb) (hk:k<=na) (hs:∀ i x,k<=i->i < na->a[i]?=some x->∀ q∈b.toList.take nb,key q<=key x):MHk key a.toList b.toList (out ++ (a.extract k na).reverse).toList k nb:=by
 rw [Array.toList_append,Zbj];refine m.run h.sa k hk λp hp=>?_;obtain ⟨i,hi,rfl⟩:=mem_iff_getElem.mp hp;have e:((a.toList.take na).drop k)[i]?=some _:=Ac hi;rw [length_drop,Ai] at hi;rw [getElem?_drop,getElem?_take,if_pos (by lia)] at e;exact hs (k + i) _ (by lia) (by lia) (by simpa using e)
def MPk.hrunB (h:MPk ok key a b) (m:MHk key a.toList b.toList out.toList na nb) (hk:k<=nb) (hs:∀ i x,k<=i->i < nb->b[i]?=some x->∀ q∈a.toList.take na,key q<=key x):MHk key a.toList b.toList (out ++ (b.extract k nb).reverse).toList na k:=by
 rw [Array.toList_append,Zbj];refine (m.swap.run h.sb k hk λp hp=>?_).swap;obtain ⟨i,hi,rfl⟩:=mem_iff_getElem.mp hp;have e:((b.toList.take nb).drop k)[i]?=some _:=Ac hi;rw [length_drop,Ai] at hi;rw [getElem?_drop,getElem?_take,if_pos (by lia)] at e;exact hs (k + i) _ (by lia) (by lia) (by simpa using e)
end
abbrev HiSt:=Option (Array Keyed) × Nat × Nat × Array Keyed × Nat × Nat × Nat
noncomputable def hiT2 (a b out:Array Keyed) (na nb g ac k1:Nat):StateT SortSt Sem (ForInStep HiSt):=do
 let y <- elem' a (na - 1)
 if (na - 1 == 0)=true then pure (ForInStep.done (some (HiL a b (out.push y) (na - 1) nb),na - 1,nb,out.push y,g,ac,k1))
 else if (decide (ac < 7) && decide (k1 < 7))=true then pure (ForInStep.done (none,na - 1,nb,out.push y,g,ac,k1))
 else pure (ForInStep.yield (none,na - 1,nb,out.push y,g,ac,k1))
noncomputable def hiT1 (a b out:Array Keyed) (na nb g ac bc:Nat):StateT SortSt Sem (ForInStep HiSt):=do
 let y <- elem' b (nb - 1)
 if (nb - 1 == 1)=true then pure (ForInStep.done (some (HiLb a b (out.push y) na (nb - 1)),na,nb - 1,out.push y,g,ac,bc))
 else do
  let z <- elem' a (na - 1)
  let r <- Wd true z b 0 (nb - 1) (nb - 1 - 1)
  match r with
  | some at_ =>
   if nb - 1 - at_ > 0 then
    if (at_ == 1)=true then pure (ForInStep.done (some (HiLb a b (out.push y ++ (b.extract at_ (nb - 1)).reverse) na at_),na,at_,out.push y ++ (b.extract at_ (nb - 1)).reverse,g,ac,nb - 1 - at_))
    else if (at_ == 0)=true then pure (ForInStep.done (some (HiL a b (out.push y ++ (b.extract at_ (nb - 1)).reverse) na at_),na,at_,out.push y ++ (b.extract at_ (nb - 1)).reverse,g,ac,nb - 1 - at_))
    else hiT2 a b (out.push y ++ (b.extract at_ (nb - 1)).reverse) na at_ g ac (nb - 1 - at_)
   else hiT2 a b (out.push y) na (nb - 1) g ac (nb - 1 - at_)
  | _=>pure (ForInStep.done (some (HiL a b (out.push y) na (nb - 1)),na,nb - 1,out.push y,g,ac,bc))
noncomputable def hiT0 (a b out:Array Keyed) (na nb g ac bc:Nat):StateT SortSt Sem (ForInStep HiSt):=do
 let y <- elem' b (nb - 1)
 let r <- Wd false y a 0 na (na - 1)
 match r with
 | some at_ =>
  if na - at_ > 0 then
   if (at_ == 0)=true then pure (ForInStep.done (some (HiL a b (out ++ (a.extract at_ na).reverse) at_ nb),at_,nb,out ++ (a.extract at_ na).reverse,g,na - at_,bc))
   else hiT1 a b (out ++ (a.extract at_ na).reverse) at_ nb g (na - at_) bc
  else hiT1 a b out na nb g (na - at_) bc
 | _=>pure (ForInStep.done (some (HiL a b out na nb),na,nb,out,g,ac,bc))
def HiR (key:Keyed->Nat) (a b:Array Keyed) (S:Nat) (r:ForInStep HiSt):Prop :=
 (∃ R c,r=.done (some R,c)/\FinM key a b R)\/∃ out na nb g ac bc,(r=.done (none,na,nb,out,g,ac,bc)\/r=.yield (none,na,nb,out,g,ac,bc))/\MHk key a.toList b.toList out.toList na nb/\1<=na/\2<=nb/\na + nb<=S/\na<=a.size/\nb<=b.size
def Zeh {a b:Array Keyed} (h:MPk ok key a b) {out:Array Keyed} {na nb g ac k1 S:Nat} (mi:MHk key a.toList b.toList out.toList na nb) (z0:na<=a.size) (t9:nb<=b.size) (z1:1<=na) (z2:2<=nb) (z3:na + nb<=S) {y:Keyed} (hy:a[na - 1]?=some y) (hs:∀ q∈b.toList.take nb,key q<=key y) {st:SortSt}:wpS (d:) A E s (hiT2 a b out na nb g ac k1) (λr ft=>ft=st/\HiR key a b S r) st:=by
 unfold hiT2;refine wpS_bind (Z5 hy ?_);have m2:=h.hpushA (na:=na - 1) (by rw [Nat.sub_add_cancel z1]; exact mi) hy hs;by_cases c:(na - 1 == 0)=true
 ·rw [if_pos c]
  exact wpS_pure ⟨Y,.inl ⟨_,_,Y,h.hdone' m2 (by simpa using c)⟩⟩
 ·rw [if_neg c]
  have c:na - 1≠0:=by simpa using c
  split
  ·exact wpS_pure ⟨Y,.inr ⟨_,_,_,_,_,_,.inl Y,m2,by lia,z2,by lia,by lia,t9⟩⟩
  ·exact wpS_pure ⟨Y,.inr ⟨_,_,_,_,_,_,.inr Y,m2,by lia,z2,by lia,by lia,t9⟩⟩
def Zei (hc:CmpK prog w A E s κ ok key) {a b:Array Keyed} (h:MPk ok key a b) {out:Array Keyed} {na nb g ac bc S:Nat} (mi:MHk key a.toList b.toList out.toList na nb) (z0:na<=a.size) (t9:nb<=b.size) (z1:1<=na) (z2:2<=nb) (z3:na + nb<=S + 1) {y:Keyed} (hy:b[nb - 1]?=some y) (hs:∀ q∈a.toList.take na,key q<=key y) {st:SortSt} (hk:kindOf st=κ):wpS (d:) A E s (hiT1 a b out na nb g ac bc) (λr ft=>ft=st/\HiR key a b S r) st:=by
 unfold hiT1;refine wpS_bind (Z5 hy ?_);have m2:=h.hpushB (nb:=nb - 1) (by rw [Nat.sub_add_cancel (by lia)]; exact mi) hy hs;by_cases c:(nb - 1 == 1)=true
 ·rw [if_pos c]
  exact wpS_pure ⟨Y,.inl ⟨_,_,Y,h.hfirst m2 (by simpa using c)⟩⟩
 rw [if_neg c];have c:nb - 1≠1:=by simpa using c
 obtain ⟨z,ez,mz⟩:=Yo (show na - 1 < a.size by lia);refine wpS_bind (Z5 ez ?_);refine wpS_bind (galL hc hk (h.oa z mz) h.ob (by lia) (λi j x y _ ka _ ex ey=>Wr h.sb ka ex ey) (by lia) λk1 k2 k3 k4=>?_);dsimp only;have bl:∀ q∈b.toList.take k1,key q<=key z:=Vn λj x hj ex=>Nat.le_of_lt (k3 j x hj (by rw [Nat.zero_add]; exact ex));have al:∀ q∈a.toList.take na,key q<=key z:=Vn λj x hj ex=>Wr h.sa (by lia) ex ez;by_cases ck:nb - 1 - k1 > 0
 ·rw [if_pos ck]
  have m3:=h.hrunB m2 k2 λi x h1 h2 ex q hq=>Nat.le_trans (al q hq) (k4 i x h1 h2 (by rw [Nat.zero_add]; exact ex));by_cases c1:(k1 == 1)=true
  ·rw [if_pos c1]
   exact wpS_pure ⟨Y,.inl ⟨_,_,Y,h.hfirst m3 (by simpa using c1)⟩⟩
  rw [if_neg c1];have c1:k1≠1:=by simpa using c1
  by_cases c2:(k1 == 0)=true
  ·rw [if_pos c2]
   exact wpS_pure ⟨Y,.inl ⟨_,_,Y,h.hdone m3 (by simpa using c2)⟩⟩
  ·rw [if_neg c2]
   have c2:k1≠0:=by simpa using c2
   exact Zeh h m3 z0 (by lia) z1 (by lia) (by lia) ez bl
 ·rw [if_neg ck]
  have:k1=nb - 1:=by lia
  subst this;exact Zeh h m2 z0 (by lia) z1 (by lia) (by lia) ez bl
def Zmb (hc:CmpK prog w A E s κ ok key) {a b:Array Keyed} (h:MPk ok key a b) {out:Array Keyed} {na nb g ac bc S:Nat} (mi:MHk key a.toList b.toList out.toList na nb) (z0:na<=a.size) (t9:nb<=b.size) (z1:1<=na) (z2:2<=nb) (z3:na + nb<=S + 1) {st:SortSt} (hk:kindOf st=κ):wpS (d:) A E s (hiT0 a b out na nb g ac bc) (λr ft=>ft=st/\HiR key a b S r) st:=by
 unfold hiT0;obtain ⟨y,ey,my⟩:=Yo (show nb - 1 < b.size by lia);refine wpS_bind (Z5 ey ?_);refine wpS_bind (galR hc hk (h.ob y my) h.oa (by lia) (λi j x y _ ka _ ex ey=>Wr h.sa ka ex ey) (by lia) λk k2 k3 k4=>?_);dsimp only;have bl:∀ q∈a.toList.take k,key q<=key y:=Vn λj x hj ex=>k3 j x hj (by rw [Nat.zero_add]; exact ex);have yl:∀ q∈b.toList.take nb,key q<=key y:=Vn λj x hj ex=>Wr h.sb (by lia) ex ey;by_cases ck:na - k > 0
 ·rw [if_pos ck]
  have m2:=h.hrunA mi k2 λi x h1 h2 ex q hq=>Nat.le_trans (yl q hq) (Nat.le_of_lt (k4 i x h1 h2 (by rw [Nat.zero_add]; exact ex)));by_cases c:(k == 0)=true
  ·rw [if_pos c]
   exact wpS_pure ⟨Y,.inl ⟨_,_,Y,h.hdone' m2 (by simpa using c)⟩⟩
  ·rw [if_neg c]
   have c:k≠0:=by simpa using c
   exact Zei hc h m2 (by lia) t9 (by lia) z2 (by lia) ey bl hk
 ·rw [if_neg ck]
  have:k=na:=by lia
  subst this;exact Zei hc h mi z0 t9 z1 z2 z3 ey bl hk
end
abbrev HiS1:=Option (Array Keyed) × Nat × Nat × Array Keyed × Nat × Nat
abbrev HiS0:=Option (Array Keyed) × Nat × Nat × Array Keyed × Nat
noncomputable def Zf2 (a b:Array Keyed) (mg:Nat) (na nb:Nat) (out:Array Keyed) (ac bc:Nat):StateT SortSt Sem (ForInStep HiS1):=do
 let x <- elem' b (nb - 1)
 let y <- elem' a (na - 1)
 let r <- lt' x y
 match r with
 | some aw =>
  if aw=true then do
   let z <- elem' a (na - 1)
   if (na - 1 == 0)=true then pure (ForInStep.done (some (HiL a b (out.push z) (na - 1) nb),na - 1,nb,out.push z,ac + 1,0))
   else if ac + 1 ≥ mg then pure (ForInStep.done (none,na - 1,nb,out.push z,ac + 1,0))
   else pure (ForInStep.yield (none,na - 1,nb,out.push z,ac + 1,0))
  else do
   let z <- elem' b (nb - 1)
   if (nb - 1 == 1)=true then pure (ForInStep.done (some (HiLb a b (out.push z) na (nb - 1)),na,nb - 1,out.push z,0,bc + 1))
   else if bc + 1 ≥ mg then pure (ForInStep.done (none,na,nb - 1,out.push z,0,bc + 1))
   else pure (ForInStep.yield (none,na,nb - 1,out.push z,0,bc + 1))
 | _=>pure (ForInStep.done (some (HiL a b out na nb),na,nb,out,ac,bc))
noncomputable def Zf3 (a b out:Array Keyed) (na nb g ac bc:Nat):StateT SortSt Sem (ForInStep HiSt):=if g > 1 then (do Yj (g - 1); hiT0 a b out na nb (g - 1) ac bc) else do Yj g; hiT0 a b out na nb g ac bc
noncomputable def Of (a b:Array Keyed) (na nb:Nat) (out:Array Keyed) (mg:Nat):StateT SortSt Sem (ForInStep HiS0):=do
 let c <- forIn [:a.size + b.size] ((none,na,nb,out,0,0):HiS1) λ_ c=>Zf2 a b mg c.2.1 c.2.2.1 c.2.2.2.1 c.2.2.2.2.1 c.2.2.2.2.2
 match c.1 with
 | some r=>pure (ForInStep.done (some r,c.2.1,c.2.2.1,c.2.2.2.1,mg))
 | none=>do
  rule "list.sort.gallop"
  let d <- forIn [:a.size + b.size] ((none,c.2.1,c.2.2.1,c.2.2.2.1,mg + 1,c.2.2.2.2.1,c.2.2.2.2.2):HiSt) λ_ d=>Zf3 a b d.2.2.2.1 d.2.1 d.2.2.1 d.2.2.2.2.1 d.2.2.2.2.2.1 d.2.2.2.2.2.2
  match d.1 with
  | some r=>pure (ForInStep.done (some r,d.2.1,d.2.2.1,d.2.2.2.1,d.2.2.2.2.1))
  | none=>do
   Yj (d.2.2.2.2.1 + 1)
   pure (ForInStep.yield (none,d.2.1,d.2.2.1,d.2.2.2.1,d.2.2.2.2.1 + 1))
theorem Zdg (a b:Array Keyed):Vw a b=(do
 rule "list.sort.merge-hi"
 let z <- elem' a (a.size - 1)
 if (a.size - 1 == 0)=true then pure (HiL a b #[z] (a.size - 1) b.size)
 else if (b.size == 1)=true then pure (HiLb a b #[z] (a.size - 1) b.size)
 else do
  let st <- get
  let c <- forIn [:a.size + b.size] ((none,a.size - 1,b.size,#[z],gallopOf st):HiS0) λ_ c=>Of a b c.2.1 c.2.2.1 c.2.2.2.1 c.2.2.2.2
  match c.1 with
  | some r=>pure r
  | none=>unsupported "internal:list.sort.merge-bound"):=by
 unfold Vw;refine congrArg (bind _) (funext λ_=>?_);refine congrArg (bind _) (funext λz=>?_);refine congrArg (ite _ _) ?_;refine congrArg (ite _ _) ?_;refine congrArg (bind _) (funext λst=>?_);refine congr (congrArg bind ?_) ?_
 ·refine congrArg (forIn _ _) (funext λ_=>funext λc=>?_)
  unfold Of;refine congr (congrArg bind ?_) ?_
  ·refine congrArg (forIn _ _) (funext λ_=>funext λc=>?_)
   rfl
  ·refine funext λc=>?_
   obtain ⟨r,rest⟩:=c
   cases r with
   | some r=>rfl
   | none =>
    refine congrArg (bind _) (funext λ_=>?_);refine congr (congrArg bind ?_) ?_
    ·refine congrArg (forIn _ _) (funext λ_=>funext λc=>?_)
     rfl
    ·funext d
     obtain ⟨r,rest⟩:=d
     cases r with
     | some r=>rfl
     | none=>rfl
 ·funext c
  obtain ⟨r,rest⟩:=c
  cases r with
  | some r=>rfl
  | none=>rfl
def HiOk (key:Keyed->Nat) (a b:Array Keyed) (S na nb:Nat) (out:Array Keyed):Prop:=MHk key a.toList b.toList out.toList na nb/\1<=na/\2<=nb/\na<=a.size/\nb<=b.size/\na + nb<=S
def HiO (key:Keyed->Nat) (a b:Array Keyed) (S:Nat) (r:ForInStep HiS1):Prop :=
 (∃ R c,r=.done (some R,c)/\FinM key a b R)\/∃ na nb out ac bc,(r=.done (none,na,nb,out,ac,bc)\/r=.yield (none,na,nb,out,ac,bc))/\HiOk key a b S na nb out
def HiQ (key:Keyed->Nat) (a b:Array Keyed) (S:Nat) (r:ForInStep HiS0):Prop :=
 (∃ R c,r=.done (some R,c)/\FinM key a b R)\/∃ na nb out g,r=.yield (none,na,nb,out,g)/\HiOk key a b S na nb out
section
variable {prog:Program} {w:World} {A:Around} {E:Value->Shared->Prop} {s:Shared} {κ:SortKind} {ok:Keyed->Prop} {key:Keyed->Nat}
def Zj3 (hc:CmpK prog w A E s κ ok key) {a b:Array Keyed} (h:MPk ok key a b) {out:Array Keyed} {mg na nb ac bc S:Nat} (m:HiOk key a b (S + 1) na nb out) {st:SortSt} (hk:kindOf st=κ):wpS (d:) A E s (Zf2 a b mg na nb out ac bc) (λr ft=>ft=st/\HiO key a b S r) st:=by
 obtain ⟨m2,y1,y2,y3,y4,y5⟩:=m;unfold Zf2;obtain ⟨vb,eb,mb⟩:=Yo (show nb - 1 < b.size by lia);obtain ⟨va,ea,ma⟩:=Yo (show na - 1 < a.size by lia);refine wpS_bind (Z5 eb ?_);refine wpS_bind (Z5 ea ?_);refine wpS_bind (hc vb va (h.ob _ mb) (h.oa _ ma) _ _ hk ?_);dsimp only;by_cases lt:key vb < key va
 ·rw [decide_eq_true lt,if_pos rfl]
  refine wpS_bind (Z5 ea ?_);have m3:=h.hpushA (na:=na - 1) (by rw [Nat.sub_add_cancel y1]; exact m2) ea (Vn λj x hj ex=>Nat.le_trans (Wr h.sb (by lia) ex eb) (Nat.le_of_lt lt));by_cases c:(na - 1 == 0)=true
  ·rw [if_pos c]
   exact wpS_pure ⟨Y,.inl ⟨_,_,Y,h.hdone' m3 (by simpa using c)⟩⟩
  ·rw [if_neg c]
   have c:na - 1≠0:=by simpa using c
   split
   ·exact wpS_pure ⟨Y,.inr ⟨_,_,_,_,_,.inl Y,m3,by lia,y2,by lia,y4,by lia⟩⟩
   ·exact wpS_pure ⟨Y,.inr ⟨_,_,_,_,_,.inr Y,m3,by lia,y2,by lia,y4,by lia⟩⟩
 ·rw [decide_eq_false lt,if_neg (by decide)]
  refine wpS_bind (Z5 eb ?_);have m3:=h.hpushB (nb:=nb - 1) (by rw [Nat.sub_add_cancel (by lia)]; exact m2) eb (Vn λj x hj ex=>Nat.le_trans (Wr h.sa (by lia) ex ea) (Nat.le_of_not_lt lt));by_cases c:(nb - 1 == 1)=true
  ·rw [if_pos c]
   exact wpS_pure ⟨Y,.inl ⟨_,_,Y,h.hfirst m3 (by simpa using c)⟩⟩
  ·rw [if_neg c]
   have c:nb - 1≠1:=by simpa using c
   split
   ·exact wpS_pure ⟨Y,.inr ⟨_,_,_,_,_,.inl Y,m3,y1,by lia,y3,by lia,by lia⟩⟩
   ·exact wpS_pure ⟨Y,.inr ⟨_,_,_,_,_,.inr Y,m3,y1,by lia,y3,by lia,by lia⟩⟩
def Zj4 (hc:CmpK prog w A E s κ ok key) {a b:Array Keyed} (h:MPk ok key a b) {out:Array Keyed} {na nb g ac bc S:Nat} (m:HiOk key a b (S + 1) na nb out) {st:SortSt} (hk:kindOf st=κ):wpS (d:) A E s (Zf3 a b out na nb g ac bc) (λr ft=>Sg st ft/\HiR key a b S r) st:=by
 obtain ⟨m3,x1,x2,x4,x5,x3⟩:=m;have go:∀ g',wpS (d:) A E s (do Yj g'; hiT0 a b out na nb g' ac bc) (λr ft=>Sg st ft/\HiR key a b S r) st:=λg'=>by
  refine wpS_bind (U3 λkm g4=>?_)
  refine wpS_mono (Zmb (S:=S) hc h m3 x4 x5 x1 x2 (by lia) (g4.kind.trans hk)) λr ot gc=>?_
  obtain ⟨e5,f5⟩:=gc
  subst e5
  exact ⟨g4,f5⟩
 unfold Zf3;split
 ·exact go _
 ·exact go _
def Zf1 (hc:CmpK prog w A E s κ ok key) {a b:Array Keyed} (h:MPk ok key a b) {out:Array Keyed} {na nb mg S:Nat} (m:HiOk key a b (S + 1) na nb out) {st:SortSt} (hk:kindOf st=κ):wpS (d:) A E s (Of a b na nb out mg) (λr ft=>Sg st ft/\HiQ key a b S r) st:=by
 obtain ⟨m0,z1,z2,z3,z4,z5⟩:=m;obtain ⟨T,hT⟩:∃ T,na + nb=T + 1:=⟨na + nb - 1,by lia⟩;have m:HiOk key a b (T + 1) na nb out:=⟨m0,z1,z2,z3,z4,by lia⟩;have hTS:T<=S:=by lia
 have hTt:T < a.size + b.size:=by lia
 clear m0 z1 z2 z3 z4 z5 hT;unfold Of;refine wpS_bind (wpS_mono (wpS_forRange (I:=λy c fy=>fy=st/\c.1=none/\HiOk key a b (T + 1 - y) c.2.1 c.2.2.1 c.2.2.2.1) (Q:=λc fy=>fy=st/\((∃ r,c.1=some r/\FinM key a b r)\/c.1=none/\HiOk key a b T c.2.1 c.2.2.1 c.2.2.2.1)) ?istep ?ifin ?iinit) ?ipost)
 case iinit=>exact ⟨Y,Y,m⟩
 case ifin =>
  rintro c fy ⟨_,_,_,y1,y2,y3,y4,y5⟩;lia
 case istep =>
  rintro y c fy _ hy ⟨rfl,e,m2⟩;have m2':HiOk key a b (T - y + 1) c.2.1 c.2.2.1 c.2.2.2.1:=by
   obtain ⟨q0,q1,q2,q3,q4,q5⟩:=m2
   exact ⟨q0,q1,q2,q3,q4,by lia⟩
  refine wpS_mono (Zj3 hc h m2' hk) ?_;rintro r gv ⟨rfl,⟨R,c',rfl,f⟩ | ⟨i4,j4,o4,a4,b4,rfl | rfl,m4,w1,w2,w3,w4,w5⟩⟩
  ·exact ⟨Y,.inl ⟨R,Y,f⟩⟩
  ·exact ⟨Y,.inr ⟨Y,m4,w1,w2,w3,w4,by show i4 + j4<=_; lia⟩⟩
  ·exact ⟨Y,Y,m4,w1,w2,w3,w4,by show i4 + j4<=_; lia⟩
 case ipost =>
  rintro c fy ⟨rfl,⟨r,e,f⟩ | ⟨e,m2⟩⟩
  ·rw [e]
   exact wpS_pure ⟨Sg.refl _,.inl ⟨r,_,Y,f⟩⟩
  rw [e];refine wpS_bind (wpS_lift (wpAny_rule ⟨Y,?_⟩));generalize c.2.1=na2 at m2 ⊢;generalize c.2.2.1=nb2 at m2 ⊢;generalize c.2.2.2.1=p6 at m2 ⊢;refine wpS_bind (wpS_mono (wpS_forRange (I:=λy c gv=>Sg fy gv/\c.1=none/\HiOk key a b (T - y) c.2.1 c.2.2.1 c.2.2.2.1) (Q:=λc gv=>Sg fy gv/\((∃ r,c.1=some r/\FinM key a b r)\/c.1=none/\HiOk key a b T c.2.1 c.2.2.1 c.2.2.2.1)) ?jstep ?jfin ?jinit) ?jpost)
  case jinit=>exact ⟨Sg.refl _,Y,m2⟩
  case jfin =>
   rintro c gv ⟨_,_,_,y1,y2,y3,y4,y5⟩;lia
  case jstep =>
   rintro y c gv _ hy ⟨g1,e1,m3⟩;have m3':HiOk key a b (T - y - 1 + 1) c.2.1 c.2.2.1 c.2.2.2.1:=by
    obtain ⟨q0,q1,q2,q3,q4,q5⟩:=m3
    exact ⟨q0,q1,q2,q3,q4,by lia⟩
   refine wpS_mono (Zj4 hc h m3' (g1.kind.trans hk)) ?_;rintro r km ⟨gs,⟨R,c',rfl,f⟩ | ⟨o4,i4,j4,g4,a4,b4,rfl | rfl,m4,w1,w2,w3,w4,w5⟩⟩
   ·exact ⟨g1.trans gs,.inl ⟨R,Y,f⟩⟩
   ·exact ⟨g1.trans gs,.inr ⟨Y,m4,w1,w2,w4,w5,by show i4 + j4<=_; lia⟩⟩
   ·exact ⟨g1.trans gs,Y,m4,w1,w2,w4,w5,by show i4 + j4<=_; lia⟩
  case jpost =>
   rintro c gv ⟨g1,⟨r,e1,f⟩ | ⟨e1,m3⟩⟩
   ·rw [e1]
    exact wpS_pure ⟨g1,.inl ⟨r,_,Y,f⟩⟩
   rw [e1];refine wpS_bind (U3 λkm g4=>?_);obtain ⟨q0,q1,q2,q3,q4,q5⟩:=m3;exact wpS_pure ⟨g1.trans g4,.inr ⟨_,_,_,_,Y,q0,q1,q2,q3,q4,by lia⟩⟩
def Zfm (hc:CmpK prog w A E s κ ok key) {a b:Array Keyed} (h:MPk ok key a b) {st:SortSt} (hk:kindOf st=κ) {Q:Array Keyed->SortSt->Prop} (q:∀ r ft,Sg st ft->FinM key a b r->Q r ft):wpS (d:) A E s (Vw a b) Q st:=by
 have pa:=h.pa;have pb:=h.pb;rw [Zdg];refine wpS_bind (wpS_lift (wpAny_rule ⟨Y,?_⟩));obtain ⟨a0,e0,m0⟩:=Yo (show a.size - 1 < a.size by lia);refine wpS_bind (Z5 e0 ?_);have rg:MHk key a.toList b.toList #[a0].toList (a.size - 1) b.size:=by
  have z:MHk key a.toList b.toList (#[]:Array Keyed).toList (a.size - 1 + 1) b.size:=⟨by rw [Nat.sub_add_cancel pa]; simp,List.Pairwise.nil,(λp hp=>by simp at hp),(λp hp=>by simp at hp)⟩
  exact h.hpushA z e0 λq hq=>h.h2 a0 e0 q (mem_of_mem_take hq)
 by_cases c1:(a.size - 1 == 0)=true
 ·rw [if_pos c1]
  exact wpS_pure (q _ _ (Sg.refl _) (h.hdone' rg (by simpa using c1)))
 rw [if_neg c1];by_cases c2:(b.size == 1)=true
 ·rw [if_pos c2]
  exact wpS_pure (q _ _ (Sg.refl _) (h.hfirst rg (by simpa using c2)))
 rw [if_neg c2];have ha1:a.size - 1≠0:=by simpa using c1
 have hb1:b.size≠1:=by simpa using c2
 refine wpS_bind (wpS_get ?_);refine wpS_bind (wpS_mono (wpS_forRange (I:=λx c ft=>Sg st ft/\c.1=none/\HiOk key a b (a.size + b.size - 1 - x) c.2.1 c.2.2.1 c.2.2.2.1) (Q:=λc ft=>Sg st ft/\∃ r,c.1=some r/\FinM key a b r) ?step ?fin ?init) ?post)
 case init =>
  have i0:HiOk key a b (a.size + b.size - 1 - 0) (a.size - 1) b.size #[a0]:=⟨rg,by lia,by lia,by lia,by lia,by lia⟩;exact ⟨Sg.refl _,Y,i0⟩
 case fin =>
  rintro c ft ⟨_,_,_,z1,z2,z3,z4,z5⟩;lia
 case post =>
  rintro c ft ⟨g,r,e,f⟩;rw [e];exact wpS_pure (q r ft g f)
 case step =>
  rintro x c ft _ hx ⟨g0,e,mi⟩;have mi':HiOk key a b (a.size + b.size - 1 - x - 1 + 1) c.2.1 c.2.2.1 c.2.2.2.1:=by
   obtain ⟨q0,q1,q2,q3,q4,q5⟩:=mi
   exact ⟨q0,q1,q2,q3,q4,by lia⟩
  refine wpS_mono (Zf1 hc h mi' (g0.kind.trans hk)) ?_;rintro r km ⟨gs,⟨R,c',rfl,f⟩ | ⟨i4,j4,o4,g4,rfl,m4,w1,w2,w3,w4,w5⟩⟩
  ·exact ⟨g0.trans gs,R,Y,f⟩
  ·exact ⟨g0.trans gs,Y,m4,w1,w2,w3,w4,by show i4 + j4<=_; lia⟩
end
def kn (key:Keyed->Nat) (xs:Array Keyed) (i:Nat):Nat:=((xs[i]?).map key).getD 0
def Yx {xs ys:Array Keyed} (h:xs[i]?=ys[j]?):kn key xs i=kn key ys j:=by unfold kn; rw [h]
def Y5 {xs:Array Keyed} (h:xs[i]?=some x):kn key xs i=key x:=by unfold kn; rw [h]; rfl
def SRk (key:Keyed->Nat) (xs:Array Keyed) (lo hi:Nat):Prop:=∀ i j,lo<=i->i<=j->j < hi->kn key xs i<=kn key xs j
def DRk (key:Keyed->Nat) (xs:Array Keyed) (lo hi:Nat):Prop:=∀ i j,lo<=i->i<=j->j < hi->kn key xs j<=kn key xs i
structure ChgS (lo:Nat) (st ft:SortSt):Prop where
 kind:kindOf ft=kindOf st
 pend:pendingOf ft=pendingOf st
 fail:failedOf ft=failedOf st
 perm:(arrOf ft).Perm (arrOf st)
 low:∀ z:Nat,z < lo->(arrOf ft)[z]?=(arrOf st)[z]?
def ChgS.refl (lo:Nat) (st:SortSt):ChgS lo st st:=⟨rfl,rfl,rfl,Array.Perm.refl _,λ_ _=>rfl⟩
def ChgS.trans {lo:Nat} {a b c:SortSt} (h:ChgS lo a b) (g:ChgS lo b c):ChgS lo a c:=⟨g.kind.trans h.kind,g.pend.trans h.pend,g.fail.trans h.fail,g.perm.trans h.perm,λz hz=>(g.low z hz).trans (h.low z hz)⟩
def ChgS.size {lo:Nat} {a b:SortSt} (h:ChgS lo a b):(arrOf b).size=(arrOf a).size:=h.perm.size_eq
def ChgS.set {lo:Nat} {a b:SortSt} (h:ChgS lo a b) {xs:Array Keyed} (p:xs.Perm (arrOf b)) (hl:∀ z:Nat,z < lo->xs[z]?=(arrOf b)[z]?):ChgS lo a (setArr b xs):=h.trans ⟨rfl,rfl,rfl,p,hl⟩
def Zb7 {xs ys:Array Keyed} (h:xs.Perm ys) {x:Keyed} (hx:x∈xs.toList):x∈ys.toList:=(Array.perm_iff_toList_perm.mp h).mem_iff.mp hx
section
variable {prog:Program} {w:World} {A:Around} {E:Value->Shared->Prop} {s:Shared} {κ:SortKind} {ok:Keyed->Prop} {key:Keyed->Nat}
def Zky (hc:CmpK prog w A E s κ ok key) {st:SortSt} {i j:Nat} (hk:kindOf st=κ) (ho:∀ p∈(arrOf st).toList,ok p) (hi:i < (arrOf st).size) (hj:j < (arrOf st).size) {Q:Option Bool->SortSt->Prop} (q:Q (some (decide (kn key (arrOf st) i < kn key (arrOf st) j))) st):wpS (d:) A E s (ltAt' i j) Q st:=by
 obtain ⟨x,ex,mx⟩:=Yo hi;obtain ⟨y,ey,my⟩:=Yo hj;rw [Y5 ex,Y5 ey] at q;rw [ltAt'_eq];refine wpS_bind (wpS_get ?_);refine wpS_bind (Z5 ex ?_);refine wpS_bind (Z5 ey ?_);exact hc x y (ho x mx) (ho y my) st _ hk q
def Kc {st:SortSt} {i j:Nat} {Q:Unit->SortSt->Prop} (q:Q () (setArr st (mirror (arrOf st) i j ((j - i) / 2)))):wpS (d:) A E s (reverseSlice' i j) Q st:=by
 rw [reverseSlice'_eq];exact wpS_modify q
def Uv {xs:Array Keyed} (hj:j<=xs.size) (k:Nat):kn key (mirror xs i j ((j - i) / 2)) k=if i<=k/\k < j then kn key xs (i + j - 1 - k) else kn key xs k:=by
 have e:=getElem?_mirror_all (i:=i) hj k;by_cases h1:i<=k/\k < j
 ·rw [if_pos h1] at e ⊢; exact Yx e
 ·rw [if_neg h1] at e ⊢; exact Yx e
def Wh {xs:Array Keyed} (hj:j<=xs.size) (jm:∀ k,i<=k->k < j->kn key xs k=kn key xs (j - 1)) (k:Nat):kn key (mirror xs i j ((j - i) / 2)) k=kn key xs k:=by
 rw [Uv hj];split
 ·rw [jm _ (by lia) (by lia),jm k (by lia) (by lia)]
 ·rfl
def Qb {xs:Array Keyed} {lo:Nat} (hj:j<=xs.size) (hl:lo<=i):∀ z:Nat,z < lo->(mirror xs i j ((j - i) / 2))[z]?=xs[z]?:=λz hz=>by
 rw [getElem?_mirror_all hj,if_neg (by lia)]
structure CRun (prog:Program) (w:World) (A:Around) (E:Value->Shared->Prop) (s:Shared) (κ:SortKind) (ok:Keyed->Prop) (key:Keyed->Nat) (st:SortSt) (lo f9:Nat):Prop where
 hc:CmpK prog w A E s κ ok key
 hk:kindOf st=κ
 ho:∀ p∈(arrOf st).toList,ok p
 hn:lo + f9<=(arrOf st).size
section
variable {st:SortSt} {lo f9:Nat}
def CRun.lt (h:CRun prog w A E s κ ok key st lo f9) (c:ChgS lo st ft) (hi:i < lo + f9) (hj:j < lo + f9) (q:Q (some (decide (kn key (arrOf ft) i < kn key (arrOf ft) j))) ft):wpS (d:) A E s (ltAt' i j) Q ft :=
 Zky h.hc (c.kind.trans h.hk) (λp hp=>h.ho p (Zb7 c.perm hp)) (by rw [c.size]; have:=h.hn; lia) (by rw [c.size]; have:=h.hn; lia) q
theorem CRun.asc (h:CRun prog w A E s κ ok key st lo f9) (c:ChgS lo st ft) {a:Nat} (ha:1<=a) (han:a<=f9) (hs:SRk key (arrOf ft) lo (lo + a))
  (q:∀ n,a<=n->n<=f9->SRk key (arrOf ft) lo (lo + n)->(n=f9\/kn key (arrOf ft) (lo + n) < kn key (arrOf ft) (lo + n - 1))->Q (none,n) ft) :
  wpS (d:) A E s (forIn [a:f9] ((none,a):Option (Option Nat) × Nat) λ_ __s=>do
   let __x <- ltAt' (lo + __s.snd) (lo + __s.snd - 1)
   match __x with
   | some smaller=>if smaller=true then pure (ForInStep.done (none,__s.snd)) else pure (ForInStep.yield (none,__s.snd + 1))
   | _=>pure (ForInStep.done (some none,__s.snd))) Q ft:=by
 refine wpS_forRange (I:=λx c fy=>fy=ft/\c=(none,x)/\SRk key (arrOf ft) lo (lo + x)) ?step ?fin ⟨Y,Y,hs⟩
 case fin =>
  rintro c fy ⟨rfl,rfl,g7⟩;rw [show max a f9=f9 by lia] at g7 ⊢;exact q f9 han (An _) g7 (.inl Y)
 case step =>
  rintro x c2 fy hax hxn ⟨rfl,rfl,g7⟩;dsimp only;refine wpS_bind (h.lt c (by lia) (by lia) ?_);dsimp only;by_cases lt:kn key (arrOf fy) (lo + x) < kn key (arrOf fy) (lo + x - 1)
  ·rw [decide_eq_true lt,if_pos rfl]
   exact wpS_pure (q x hax (by lia) g7 (.inr lt))
  ·rw [decide_eq_false lt,if_neg (by decide)]
   refine wpS_pure ⟨Y,Y,λi j h1 h2 h3=>?_⟩
   rcases Nat.lt_or_ge j (lo + x) with z | z
   ·exact g7 i j h1 h2 z
   ·have hj:j=lo + x:=by lia
    subst hj
    rcases Nat.lt_or_ge i (lo + x) with z2 | z2
    ·have:=g7 i (lo + x - 1) h1 (by lia) (by lia)
     lia
    ·have:i=lo + x:=by lia
     rw [this]; exact An _
def cr3 (lo n f9:Nat):StateT SortSt Sem (Option Nat):=do
 reverseSlice' lo (lo + n)
 let __s <- forIn [n:f9] ((none,n):Option (Option Nat) × Nat) λ_ __s=>do
   let __x <- ltAt' (lo + __s.snd) (lo + __s.snd - 1)
   match __x with
   | some smaller=>if smaller=true then pure (ForInStep.done (none,__s.snd)) else pure (ForInStep.yield (none,__s.snd + 1))
   | _=>pure (ForInStep.done (some none,__s.snd))
 match __s.fst with
 | some r=>pure r
 | none=>pure (some __s.snd)
def CRun.t3 (h:CRun prog w A E s κ ok key st lo f9) (c:ChgS lo st ft) (h1:1<=n) (hn:n<=f9) (hs:DRk key (arrOf ft) lo (lo + n)) (q:∀ m fy,ChgS lo st fy->1<=m->m<=f9->SRk key (arrOf fy) lo (lo + m)->Q (some m) fy):wpS (d:) A E s (cr3 lo n f9) Q ft:=by
 unfold cr3;have hsz:lo + n<=(arrOf ft).size:=by rw [c.size]; have:=h.hn; lia
 refine wpS_bind (Kc ?_);have c2:ChgS lo st (setArr ft (mirror (arrOf ft) lo (lo + n) ((lo + n - lo) / 2))):=c.set (mirror_perm _ _ _ _) (Qb hsz (An _));refine wpS_bind (h.asc c2 h1 hn ?_ λm m1 m2 ms _=>wpS_pure (q m _ c2 (by lia) m2 ms));intro i j i1 i2 i3;show kn key (mirror (arrOf ft) lo (lo + n) ((lo + n - lo) / 2)) i<=kn key (mirror (arrOf ft) lo (lo + n) ((lo + n - lo) / 2)) j;rw [Uv hsz,Uv hsz,if_pos (by lia),if_pos (by lia)];exact hs _ _ (by lia) (by lia) (by lia)
def cr2 (lo n f9:Nat):StateT SortSt Sem (Option Nat):=do
 liftM (rule "list.sort.descending-run")
 let __s <- forIn [n + 1:f9] ((none,n + 1,0):Option (Option Nat) × Nat × Nat) λ_ __s=>do
  let __x <- ltAt' (lo + __s.snd.fst) (lo + __s.snd.fst - 1)
  match __x with
  | some smaller =>
   if smaller=true then
    if __s.snd.snd > 0 then do
     reverseSlice' (lo + __s.snd.fst - (__s.snd.snd + 1)) (lo + __s.snd.fst)
     pure (ForInStep.yield (none,__s.snd.fst + 1,0))
    else pure (ForInStep.yield (none,__s.snd.fst + 1,0))
   else do
    let __x <- ltAt' (lo + __s.snd.fst - 1) (lo + __s.snd.fst)
    match __x with
    | some larger =>
     if larger=true then pure (ForInStep.done (none,__s.snd.fst,__s.snd.snd))
     else pure (ForInStep.yield (none,__s.snd.fst + 1,__s.snd.snd + 1))
    | _=>pure (ForInStep.done (some none,__s.snd.fst,__s.snd.snd))
  | _=>pure (ForInStep.done (some none,__s.snd.fst,__s.snd.snd))
 match __s.fst with
 | some r=>pure r
 | none =>
  if __s.snd.snd > 0 then do
   reverseSlice' (lo + __s.snd.fst - (__s.snd.snd + 1)) (lo + __s.snd.fst)
   cr3 lo __s.snd.fst f9
  else cr3 lo __s.snd.fst f9
def CRun.t2 (h:CRun prog w A E s κ ok key st lo f9) {ft:SortSt} (c:ChgS lo st ft) {n:Nat} (hn:n + 1<=f9) (hs:DRk key (arrOf ft) lo (lo + (n + 1))) {Q:Option Nat->SortSt->Prop} (q:∀ m fy,ChgS lo st fy->1<=m->m<=f9->SRk key (arrOf fy) lo (lo + m)->Q (some m) fy):wpS (d:) A E s (cr2 lo n f9) Q ft:=by
 unfold cr2;refine wpS_bind (wpS_lift (wpAny_rule ⟨Y,?_⟩));have hsz:=h.hn;refine wpS_bind (wpS_mono (wpS_forRange (I:=λx c2 fy=>∃ i7,c2=(none,x,i7)/\ChgS lo st fy/\DRk key (arrOf fy) lo (lo + x)/\i7 + 1<=x/\∀ i,lo + x - (i7 + 1)<=i->i < lo + x->kn key (arrOf fy) i=kn key (arrOf fy) (lo + x - 1))
  (Q:=λc2 fy=>∃ x i7,c2=(none,x,i7)/\1<=x/\x<=f9/\ChgS lo st fy/\DRk key (arrOf fy) lo (lo + x)/\i7 + 1<=x/\∀ i,lo + x - (i7 + 1)<=i->i < lo + x->kn key (arrOf fy) i=kn key (arrOf fy) (lo + x - 1)) ?step ?fin ?init) ?post)
 case init=>exact ⟨0,Y,c,hs,by lia,λi h1 h2=>by congr 1; lia⟩
 case fin =>
  rintro c2 fy ⟨i7,rfl,c',g7,hq,he⟩;rw [show max (n + 1) f9=f9 by lia] at g7 hq he ⊢;exact ⟨f9,i7,Y,by lia,An _,c',g7,hq,he⟩
 case step =>
  rintro x c2 fy hax hxn ⟨i7,rfl,c',g7,hq,he⟩;dsimp only;have hz:lo + x<=(arrOf fy).size:=by rw [c'.size]; lia
  refine wpS_bind (h.lt c' (by lia) (by lia) ?_);dsimp only;by_cases lt:kn key (arrOf fy) (lo + x) < kn key (arrOf fy) (lo + x - 1)
  ·rw [decide_eq_true lt,if_pos rfl]
   have qv:∀ xs:Array Keyed,(∀ k,kn key xs k=kn key (arrOf fy) k)->DRk key xs lo (lo + (x + 1)):=λxs hk i j h1 h2 h3=>by
    rw [hk,hk]
    rcases Nat.lt_or_ge j (lo + x) with z | z
    ·exact g7 i j h1 h2 z
    ·have:j=lo + x:=by lia
     subst this
     rcases Nat.lt_or_ge i (lo + x) with z2 | z2
     ·have:=g7 i (lo + x - 1) h1 (by lia) (by lia)
      lia
     ·have:i=lo + x:=by lia
      rw [this]; exact An _
   by_cases m9:i7 > 0
   ·rw [if_pos m9]
    refine wpS_bind (Kc (wpS_pure ⟨0,Y,c'.set (mirror_perm _ _ _ _) (Qb hz (by lia)),qv _ (Wh hz he),by lia,λi h1 h2=>by congr 1; lia⟩))
   ·rw [if_neg m9]
    exact wpS_pure ⟨0,Y,c',qv _ (λ_=>rfl),by lia,λi h1 h2=>by congr 1; lia⟩
  ·rw [decide_eq_false lt,if_neg (by decide)]
   refine wpS_bind (h.lt c' (by lia) (by lia) ?_);dsimp only;by_cases ql:kn key (arrOf fy) (lo + x - 1) < kn key (arrOf fy) (lo + x)
   ·rw [decide_eq_true ql,if_pos rfl]
    exact wpS_pure ⟨x,i7,Y,by lia,by lia,c',g7,hq,he⟩
   ·rw [decide_eq_false ql,if_neg (by decide)]
    have jm:kn key (arrOf fy) (lo + x)=kn key (arrOf fy) (lo + x - 1):=by lia
    refine wpS_pure ⟨i7 + 1,Y,c',λi j h1 h2 h3=>?_,by lia,λi h1 h2=>?_⟩
    ·rcases Nat.lt_or_ge j (lo + x) with z | z
     ·exact g7 i j h1 h2 z
     ·have:j=lo + x:=by lia
      subst this
      rcases Nat.lt_or_ge i (lo + x) with z2 | z2
      ·have:=g7 i (lo + x - 1) h1 (by lia) (by lia)
       lia
      ·have:i=lo + x:=by lia
       rw [this]; exact An _
    ·rw [show lo + (x + 1) - 1=lo + x by lia]
     rcases Nat.lt_or_ge i (lo + x) with z2 | z2
     ·rw [jm]; exact he i (by lia) z2
     ·have:i=lo + x:=by lia
      rw [this]
 case post =>
  rintro c2 fy ⟨x,i7,rfl,x1,x2,c',g7,hq,he⟩;dsimp only;have hz:lo + x<=(arrOf fy).size:=by rw [c'.size]; lia
  by_cases m9:i7 > 0
  ·rw [if_pos m9]
   refine wpS_bind (Kc (h.t3 (c'.set (mirror_perm _ _ _ _) (Qb hz (by lia))) x1 x2 ?_ q));intro i j h1 h2 h3;show kn key (mirror (arrOf fy) _ _ _) j<=kn key (mirror (arrOf fy) _ _ _) i;rw [Wh hz he,Wh hz he];exact g7 i j h1 h2 h3
  ·rw [if_neg m9]
   exact h.t3 c' x1 x2 g7 q
def Zkx (lo n f9:Nat):(do
  rule "list.sort.descending-run"
  let mut n:=n + 1
  let mut i7:=0
  for _ in [n:f9] do
   let some smaller <- ltAt' (lo + n) (lo + n - 1) | return none
   if smaller then
    if i7 > 0 then reverseSlice' (lo + n - (i7 + 1)) (lo + n)
    i7:=0
   else
    let some larger <- ltAt' (lo + n - 1) (lo + n) | return none
    if larger then break
    i7:=i7 + 1
   n:=n + 1
  if i7 > 0 then reverseSlice' (lo + n - (i7 + 1)) (lo + n)
  reverseSlice' lo (lo + n)
  for _ in [n:f9] do
   let some smaller <- ltAt' (lo + n) (lo + n - 1) | return none
   if smaller then break
   n:=n + 1
  return some n:StateT SortSt Sem (Option Nat))=cr2 lo n f9:=by
 unfold cr2;refine bind_congr λ_u=>?_;refine bind_congr λs2=>?_;obtain ⟨r2,n2,q2⟩:=s2
 cases r2 with
 | some r2=>rfl
 | none =>
  dsimp only;unfold cr3;split
  ·refine bind_congr λ_v=>?_
   refine bind_congr λ_w=>?_;refine bind_congr λs3=>?_;obtain ⟨r3,n3⟩:=s3;cases r3 <;> rfl
  ·refine bind_congr λ_w=>?_
   refine bind_congr λs3=>?_;obtain ⟨r3,n3⟩:=s3;cases r3 <;> rfl
def CRun.count (h:CRun prog w A E s κ ok key st lo f9) (h1:1<=f9) (q:∀ m fy,ChgS lo st fy->1<=m->m<=f9->SRk key (arrOf fy) lo (lo + m)->Q (some m) fy):wpS (d:) A E s (countRun' lo f9) Q st:=by
 rw [countRun'_eq];dsimp only;have hsz:=h.hn;have c0:=ChgS.refl lo st;refine wpS_bind (h.asc c0 (An 1) h1 (λi j i1 i2 i3=>by have e:i=j:=(by lia); rw [e]; exact An _) λn n1 n2 ns hor=>?_);dsimp only;by_cases c1:(n == f9)=true
 ·rw [if_pos c1]
  exact wpS_pure (q n st c0 n1 n2 ns)
 rw [if_neg c1];have c1:n≠f9:=by simpa using c1
 have lt:=hor.resolve_left c1;have hz:lo + n<=(arrOf st).size:=by lia
 by_cases c2:n > 1
 ·rw [if_pos c2]
  refine wpS_bind (h.lt c0 (by lia) (by lia) ?_);dsimp only;by_cases ql:kn key (arrOf st) lo < kn key (arrOf st) (lo + n - 1)
  ·rw [decide_eq_true ql,if_pos rfl]
   exact wpS_pure (q n st c0 n1 n2 ns)
  ·rw [decide_eq_false ql,if_neg (by decide)]
   have all:∀ k,lo<=k->k < lo + n->kn key (arrOf st) k=kn key (arrOf st) (lo + n - 1):=λk k1 k2=>by
    have:=ns lo k (An _) k1 k2;have:=ns k (lo + n - 1) k1 (by lia) (by lia);lia
   refine wpS_bind (Kc ?_);refine Eq.mpr (congrArg (λm=>wpS (d:) A E s m Q _) (Zkx lo n f9)) ?_;refine h.t2 (c0.set (mirror_perm _ _ _ _) (Qb hz (An _))) (by lia) (λi j i1 i2 i3=>?_) q;show kn key (mirror (arrOf st) _ _ _) j<=kn key (mirror (arrOf st) _ _ _) i;rw [Wh hz all,Wh hz all]
   rcases Nat.lt_or_ge j (lo + n) with z | z
   ·rw [all i i1 (by lia),all j (by lia) z]; exact An _
   ·have:j=lo + n:=by lia
    subst this
    rcases Nat.lt_or_ge i (lo + n) with z2 | z2
    ·rw [all i i1 z2]; lia
    ·have:i=lo + n:=by lia
     rw [this]; exact An _
 ·rw [if_neg c2]
  have:n=1:=by lia
  subst this;refine Eq.mpr (congrArg (λm=>wpS (d:) A E s m Q _) (Zkx lo 1 f9)) ?_;refine h.t2 c0 (by lia) (λi j i1 i2 i3=>?_) q
  rcases Nat.eq_or_lt_of_le i2 with z | z
  ·rw [z]; exact An _
  ·have e1:i=lo + 1 - 1:=by lia
   have e2:j=lo + 1:=by lia
   rw [e1,e2]; lia
end
end
section
variable {prog:Program} {w:World} {A:Around} {E:Value->Shared->Prop} {s:Shared} {κ:SortKind} {ok:Keyed->Prop} {key:Keyed->Nat}
def Fs {xs:Array Keyed} (hs:src < xs.size) (hd:d<=src) (k:Nat):kn key (bubble xs src d) k=if k=src - d then kn key xs src else if src - d < k/\k<=src then kn key xs (k - 1) else kn key xs k:=by
 have e:=getElem?_bubble hs d hd k;by_cases h1:k=src - d
 ·rw [if_pos h1] at e ⊢; exact Yx e
 ·rw [if_neg h1] at e ⊢
  by_cases h2:src - d < k/\k<=src
  ·rw [if_pos h2] at e ⊢; exact Yx e
  ·rw [if_neg h2] at e ⊢; exact Yx e
def CRun.bin {st:SortSt} {lo f9:Nat} (h:CRun prog w A E s κ ok key st lo f9) {rc:SortSt} (c1:ChgS lo st rc) {ok':Nat} (hok:ok'<=f9) (h0:1<=f9) (hs:SRk key (arrOf rc) lo (lo + ok')) {Q:Bool->SortSt->Prop} (q:∀ fy,ChgS lo st fy->SRk key (arrOf fy) lo (lo + f9)->Q true fy):wpS (d:) A E s (binarySort' lo f9 ok') Q rc:=by
 rw [binarySort'_eq];have hsz:=h.hn;refine wpS_bind (wpS_mono (wpS_forRange (I:=λk c ft=>c=(none,())/\ChgS lo st ft/\SRk key (arrOf ft) lo (lo + min k f9)) (Q:=λc ft=>c=(none,())/\ChgS lo st ft/\SRk key (arrOf ft) lo (lo + f9)) ?step ?fin ?init) ?post)
 case post =>
  rintro c ft ⟨rfl,c',g7⟩;exact wpS_pure (q ft c' g7)
 case init =>
  refine ⟨Y,c1,λi j i1 i2 i3=>?_⟩;by_cases z:j < lo + ok'
  ·exact hs i j i1 i2 z
  ·have:i=j:=by lia
   rw [this]; exact An _
 case fin =>
  rintro c ft ⟨jo,c',g7⟩;refine ⟨jo,c',?_⟩;rwa [show min (max (max ok' 1) f9) f9=f9 by lia] at g7
 case step =>
  rintro k c ft hak hkn ⟨rfl,c',g7⟩;rw [show min k f9=k by lia] at g7;have hz:lo + k < (arrOf ft).size:=by rw [c'.size]; lia
  refine wpS_bind (wpS_mono (wpS_forRange (I:=λx c fy=>fy=ft/\∃ l r,c=(none,l,r)/\l<=r/\r<=k/\r - l<=k - x /\
    (∀ i,i < l->kn key (arrOf ft) (lo + i)<=kn key (arrOf ft) (lo + k))/\(∀ i,r<=i->i < k->kn key (arrOf ft) (lo + k) < kn key (arrOf ft) (lo + i)))
   (Q:=λc fy=>fy=ft/\∃ l r,c=(none,l,r)/\l<=k /\
    (∀ i,i < l->kn key (arrOf ft) (lo + i)<=kn key (arrOf ft) (lo + k))/\(∀ i,l<=i->i < k->kn key (arrOf ft) (lo + k) < kn key (arrOf ft) (lo + i))) ?istep ?ifin ?iinit) ?ipost)
  case iinit=>exact ⟨Y,0,k,Y,by lia,by lia,by lia,λi hi=>by lia,λi h1 h2=>by lia⟩
  case ifin =>
   rintro c fy ⟨rfl,l,r,rfl,zq,hrk,hm,r9,um⟩;have:l=r:=by lia
   subst this;exact ⟨Y,l,l,Y,hrk,r9,um⟩
  case istep =>
   rintro x c fy _ hxk ⟨rfl,l,r,rfl,zq,hrk,hm,r9,um⟩;dsimp only;by_cases kc:l ≥ r
   ·rw [if_pos kc]
    have:l=r:=by lia
    subst this;exact wpS_pure ⟨Y,l,l,Y,hrk,r9,um⟩
   ·rw [if_neg kc]
    refine wpS_bind (h.lt c' (by lia) (by lia) ?_);dsimp only;by_cases lt:kn key (arrOf fy) (lo + k) < kn key (arrOf fy) (lo + (l + r) / 2)
    ·rw [decide_eq_true lt,if_pos rfl]
     refine wpS_pure ⟨Y,l,(l + r) / 2,Y,by lia,by lia,by lia,r9,λi h1 h2=>?_⟩;have:=g7 (lo + (l + r) / 2) (lo + i) (by lia) (by lia) (by lia);lia
    ·rw [decide_eq_false lt,if_neg (by decide)]
     refine wpS_pure ⟨Y,(l + r) / 2 + 1,r,Y,by lia,by lia,by lia,λi h1=>?_,um⟩;have:=g7 (lo + i) (lo + (l + r) / 2) (by lia) (by lia) (by lia);lia
  case ipost =>
   rintro c fy ⟨rfl,l,r,rfl,hlk,r9,um⟩;show wpS _ _ _ _ (do moveDown' (lo + k) (lo + l); pure (ForInStep.yield (none,()))) _ _;rw [moveDown'_eq];have ed:lo + k - (lo + k - (lo + l))=lo + l:=by lia
   refine wpS_bind (wpS_modify (wpS_pure ⟨Y,c'.set (bubble_perm _ _ _) (λz rk=>?_),?_⟩))
   ·rw [getElem?_bubble hz _ (by lia),ed,if_neg (by lia),if_neg (by lia)]
   ·rw [show min (k + 1) f9=k + 1 by lia]
    intro i j i1 i2 i3;show kn key (bubble (arrOf fy) (lo + k) (lo + k - (lo + l))) i<=kn key (bubble (arrOf fy) (lo + k) (lo + k - (lo + l))) j;rw [Fs hz (by lia),Fs hz (by lia),ed];have L:∀ i,lo<=i->i < lo + l->kn key (arrOf fy) i<=kn key (arrOf fy) (lo + k):=λi a1 a2=>by have:=r9 (i - lo) (by lia); rwa [show lo + (i - lo)=i by lia] at this
    have R:∀ i,lo + l<=i->i < lo + k->kn key (arrOf fy) (lo + k) < kn key (arrOf fy) i:=λi a1 a2=>by have:=um (i - lo) (by lia) (by lia); rwa [show lo + (i - lo)=i by lia] at this
    repeat' split
    all_goals first
     | (exfalso; lia)
     | exact An _
     | exact L _ (by lia) (by lia)
     | exact Nat.le_of_lt (R _ (by lia) (by lia))
     | exact g7 _ _ (by lia) (by lia) (by lia)
theorem Zki (sa:Nat):∀ (M:List Keyed) (k:Nat) (arr:Array Keyed),sa + k + M.length<=arr.size->((M.zipIdx k).foldl (λa (x:Keyed × Nat)=>a.setIfInBounds (sa + x.2) x.1) arr).size=arr.size/\∀ z:Nat,((M.zipIdx k).foldl (λa (x:Keyed × Nat)=>a.setIfInBounds (sa + x.2) x.1) arr)[z]?=if sa + k<=z/\z < sa + k + M.length then M[z - (sa + k)]? else arr[z]?
 | [],k,arr,_=>⟨rfl,λz=>by rw [if_neg (λz=>by have h1:=z.1; have h2:=z.2; rw [length_nil] at h2; lia)]; rfl⟩
 | x :: M,k,arr,h=>by
  rw [length_cons] at h;rw [zipIdx_cons,foldl_cons];obtain ⟨i1,i2⟩:=Zki sa M (k + 1) (arr.setIfInBounds (sa + k) x) (by rw [Array.size_setIfInBounds]; lia);refine ⟨i1.trans Array.size_setIfInBounds,λz=>(i2 z).trans ?_⟩;rw [Array.getElem?_setIfInBounds,length_cons];by_cases c1:sa + (k + 1)<=z/\z < sa + (k + 1) + M.length
  ·rw [if_pos c1,if_pos (by lia),show z - (sa + k)=z - (sa + (k + 1)) + 1 by lia]
   rfl
  ·rw [if_neg c1]
   by_cases c2:sa + k=z
   ·rw [if_pos c2,if_pos (by lia),if_pos (by lia),show z - (sa + k)=0 by lia]
    rfl
   ·rw [if_neg c2,if_neg (by lia)]
def Zdh (i:Nat):mergeAt' i=(do
 let s <- get
 let (some (sa,na,power),some (sb,nb,_)):=((pendingOf s)[i]?,(pendingOf s)[i + 1]?) | unsupported "internal:list.sort.pending"
 set (setPending s (((pendingOf s).setIfInBounds i (sa,na + nb,power)).eraseIdxIfInBounds (i + 1)))
 let some k <- Wd false (<- elem' (arrOf s) sb) (arrOf s) sa na 0 | return false
 let (sa,na):=(sa + k,na - k)
 if na == 0 then return true
 let some nb <- Wd true (<- elem' (arrOf s) (sa + na - 1)) (arrOf s) sb nb (nb - 1) | return false
 if nb == 0 then return true
 let x:=(arrOf s).extract sa sb
 let y:=(arrOf s).extract sb (sb + nb)
 let merged <- if na<=nb then Vv x y else Vw x y
 modify λs=>setArr s (merged.toList.zipIdx.foldl (λa (p,j)=>a.setIfInBounds (sa + j) p) (arrOf s))
 return (failedOf (<- get)).isNone):=rfl
def Zin {x st:SortSt} {Q:PUnit->SortSt->Prop} (h:Q ⟨⟩ x):wpS (d:) A E s (set x:StateT SortSt Sem PUnit) Q st:=by
 unfold wpS; rw [StateT.run_set]; exact wpAny_pure ⟨Y,h⟩
def Vl (xs:Array Keyed) (i j:Nat) (hj:j<=xs.size) (z:Nat):(xs.extract i j)[z]?=if z < j - i then xs[i + z]? else none:=by
 rw [Array.getElem?_extract,Nat.min_eq_left hj]
def U8 {xs:Array Keyed} (hj:j<=xs.size) (h:p∈(xs.extract i j).toList):∃ z,i<=z/\z < j/\xs[z]?=some p:=by
 obtain ⟨z,hz,e⟩:=mem_iff_getElem.mp h;have e2:(xs.extract i j)[z]?=some p:=by rw [<- Array.getElem?_toList,Ac hz,e]
 rw [Vl xs i j hj] at e2;split at e2
 ·rename_i c; exact ⟨i + z,by lia,by lia,e2⟩
 ·cases e2
def Zaq {xs:Array Keyed} (hj:j<=xs.size) (h:SRk key xs i j):UpK key (xs.extract i j).toList:=by
 unfold UpK;rw [pairwise_iff_getElem];intro a b ha hb im
 have g:∀ z (hz:z < (xs.extract i j).toList.length),z < j - i/\xs[i + z]?=some (xs.extract i j).toList[z]:=λz hz=>by
  have e2:(xs.extract i j)[z]?=some (xs.extract i j).toList[z]:=by rw [<- Array.getElem?_toList,Ac hz]
  rw [Vl xs i j hj] at e2;split at e2
  ·rename_i c; exact ⟨c,e2⟩
  ·cases e2
 obtain ⟨a1,a2⟩:=g a ha;obtain ⟨b1,b2⟩:=g b hb;have:=h (i + a) (i + b) (by lia) (by lia) (by lia);rwa [Y5 a2,Y5 b2] at this
def Zhq {arr:Array Keyed} {m nb:Nat} (h1:sa<=s1) (h2:s1<=sb) (h3:m<=nb) (hz:sb + nb<=arr.size) (sA:SRk key arr sa sb) (sB:SRk key arr sb (sb + nb))
  (lo:∀ i j,sa<=i->i < s1->sb<=j->j < sb + nb->kn key arr i<=kn key arr j) (hi:∀ i j,sa<=i->i < sb->sb + m<=j->j < sb + nb->kn key arr i<=kn key arr j)
  {M:List Keyed} (pm:M.Perm ((arr.extract s1 sb).toList ++ (arr.extract sb (sb + m)).toList)) (up:UpK key M) :
  (M.zipIdx.foldl (λa (x:Keyed × Nat)=>a.setIfInBounds (s1 + x.2) x.1) arr).Perm arr/\(∀ z:Nat,z < sa\/sb + nb<=z->(M.zipIdx.foldl (λa (x:Keyed × Nat)=>a.setIfInBounds (s1 + x.2) x.1) arr)[z]?=arr[z]?)/\SRk key (M.zipIdx.foldl (λa (x:Keyed × Nat)=>a.setIfInBounds (s1 + x.2) x.1) arr) sa (sb + nb):=by
 have lM:M.length=sb + m - s1:=by
  have:=pm.length_eq;have l1:(arr.extract s1 sb).toList.length=sb - s1:=by rw [Array.length_toList,Array.size_extract]; lia
  have l2:(arr.extract sb (sb + m)).toList.length=m:=by rw [Array.length_toList,Array.size_extract]; lia
  rw [Ae,l1,l2] at this;lia
 have tl:∀ (xs:Array Keyed) (z:Nat),xs.toList[z]?=xs[z]?:=λxs z=>Array.getElem?_toList;obtain ⟨w1,w2⟩:=Zki s1 M 0 arr (by lia);generalize M.zipIdx.foldl (λa (x:Keyed × Nat)=>a.setIfInBounds (s1 + x.2) x.1) arr=arr' at w1 w2;simp only [Nat.add_zero] at w2;have zc:∀ i,s1<=i->i < sb + m->∃ p,M[i - s1]?=some p/\arr'[i]?=some p/\((∃ z,s1<=z/\z < sb/\arr[z]?=some p)\/∃ z,sb<=z/\z < sb + m/\arr[z]?=some p):=λi i1 i2=>by
  have hl:i - s1 < M.length:=by lia
  refine ⟨M[i - s1],Ac hl,by rw [w2,if_pos (by lia)]; exact Ac hl,?_⟩
  rcases mem_append.mp (pm.mem_iff.mp (getElem_mem hl)) with z | z
  ·exact .inl (U8 (by lia) z)
  ·exact .inr (U8 (by lia) z)
 have out:∀ i:Nat,i < s1\/sb + m<=i->arr'[i]?=arr[i]?:=λi hi=>by rw [w2,if_neg (by lia)]
 refine ⟨?_,λz rk=>out z (by lia),λi j i1 i2 i3=>?_⟩
 ·refine Array.perm_iff_toList_perm.mpr ?_
  have e1:arr'.toList=arr.toList.take s1 ++ M ++ arr.toList.drop (sb + m):=by
   apply ext_getElem?;intro z;rw [Array.getElem?_toList,w2];by_cases c1:z < s1
   ·rw [if_neg (by lia),Av (by rw [Ae,Ai,Array.length_toList]; lia),Av (by rw [Ai,Array.length_toList]; lia),getElem?_take,if_pos c1,Array.getElem?_toList]
   ·by_cases c2:z < sb + m
    ·rw [if_pos (by lia),Av (by rw [Ae,Ai,Array.length_toList]; lia),getElem?_append_right (by rw [Ai,Array.length_toList]; lia)]
     congr 1;rw [Ai,Array.length_toList]; lia
    ·rw [if_neg (by lia),getElem?_append_right (by rw [Ae,Ai,Array.length_toList]; lia),getElem?_drop,Array.getElem?_toList]
     congr 1;rw [Ae,Ai,Array.length_toList]; lia
  have e2:arr.toList=arr.toList.take s1 ++ ((arr.extract s1 sb).toList ++ (arr.extract sb (sb + m)).toList) ++ arr.toList.drop (sb + m):=by
   apply ext_getElem?;intro z;have lx:((arr.extract s1 sb).toList ++ (arr.extract sb (sb + m)).toList).length=sb + m - s1:=by rw [<- pm.length_eq,lM]
   by_cases c1:z < s1
   ·rw [Av (by rw [Ae,Ai,Array.length_toList,lx]; lia),Av (by rw [Ai,Array.length_toList]; lia),getElem?_take,if_pos c1]
   ·by_cases c2:z < sb + m
    ·rw [Av (by rw [Ae,Ai,Array.length_toList,lx]; lia),getElem?_append_right (by rw [Ai,Array.length_toList]; lia),Ai,Array.length_toList,Nat.min_eq_left (by lia)]
     have ls:(arr.extract s1 sb).toList.length=sb - s1:=by rw [Array.length_toList,Array.size_extract]; lia
     by_cases c3:z < sb
     ·rw [Av (by lia),tl (arr.extract s1 sb),Vl _ _ _ (by lia),if_pos (by lia),tl arr]
      congr 1; lia
     ·rw [getElem?_append_right (by lia),ls,tl (arr.extract sb (sb + m)),Vl _ _ _ (by lia),if_pos (by lia),tl arr]
      congr 1; lia
    ·rw [getElem?_append_right (by rw [Ae,Ai,Array.length_toList,lx]; lia),getElem?_drop]
     congr 1;rw [Ae,Ai,Array.length_toList,lx]; lia
  rw [e1]
  conv=>rhs; rw [e2]
  exact List.Perm.append_right _ (List.Perm.append_left _ pm)
 ·by_cases a1:i < s1
  ·rw [Yx (out i (.inl a1))]
   by_cases b1:j < s1
   ·rw [Yx (out j (.inl b1))]; exact sA i j i1 i2 (by lia)
   ·by_cases b2:j < sb + m
    ·obtain ⟨p,_,p2,⟨z,z1,z2,z3⟩ | ⟨z,z1,z2,z3⟩⟩:=zc j (by lia) b2
     ·rw [Y5 p2,<- Y5 (key:=key) z3]; exact sA i z i1 (by lia) z2
     ·rw [Y5 p2,<- Y5 (key:=key) z3]; exact lo i z i1 a1 z1 (by lia)
    ·rw [Yx (out j (.inr (by lia)))]; exact lo i j i1 a1 (by lia) i3
  ·by_cases a2:i < sb + m
   ·by_cases b2:j < sb + m
    ·obtain ⟨p,p1,p2,_⟩:=zc i (by lia) a2
     obtain ⟨p',p1',p2',_⟩:=zc j (by lia) b2;rw [Y5 p2,Y5 p2'];exact Zdo up (by lia) p1 p1'
    ·rw [Yx (out j (.inr (by lia)))]
     obtain ⟨p,_,p2,⟨z,z1,z2,z3⟩ | ⟨z,z1,z2,z3⟩⟩:=zc i (by lia) a2
     ·rw [Y5 p2,<- Y5 (key:=key) z3]; exact hi z j (by lia) z2 (by lia) i3
     ·rw [Y5 p2,<- Y5 (key:=key) z3]; exact sB z j z1 (by lia) i3
   ·rw [Yx (out i (.inr (by lia))),Yx (out j (.inr (by lia)))]
    exact sB i j (by lia) i2 i3
def Zfn (hc:CmpK prog w A E s κ ok key) {st:SortSt} {i sa na pw sb nb pb:Nat} (hk:kindOf st=κ) (ho:∀ p∈(arrOf st).toList,ok p) (hf:failedOf st=none) (hp:(pendingOf st)[i]?=some (sa,na,pw)) (n9:(pendingOf st)[i + 1]?=some (sb,nb,pb)) (e:sb=sa + na) (n1:1<=na) (n2:1<=nb) (hz:sb + nb<=(arrOf st).size) (sA:SRk key (arrOf st) sa sb) (sB:SRk key (arrOf st) sb (sb + nb)) {Q:Bool->SortSt->Prop}
  (q:∀ ft,kindOf ft=kindOf st->failedOf ft=none->pendingOf ft=((pendingOf st).setIfInBounds i (sa,na + nb,pw)).eraseIdxIfInBounds (i + 1)->(arrOf ft).Perm (arrOf st)->(∀ z:Nat,z < sa\/sb + nb<=z->(arrOf ft)[z]?=(arrOf st)[z]?)->SRk key (arrOf ft) sa (sb + nb)->Q true ft):wpS (d:) A E s (mergeAt' i) Q st:=by
 rw [Zdh];refine wpS_bind (wpS_get ?_);rw [hp,n9];dsimp only;refine wpS_bind (Zin ?_);have qq:kindOf (setPending st (((pendingOf st).setIfInBounds i (sa,na + nb,pw)).eraseIdxIfInBounds (i + 1)))=κ:=hk;obtain ⟨v,ev,mv⟩:=Yo (show sb < (arrOf st).size by lia);refine wpS_bind (Z5 ev ?_);have so:∀ a b,a<=b->b<=(arrOf st).size->SRk key (arrOf st) a b->∀ i j x y,a<=i->i<=j->j < b->(arrOf st)[i]?=some x->(arrOf st)[j]?=some y->key x<=key y:=λa b _ _ hs i j x y i1 i2 i3 ex ey=>by
  have:=hs i j i1 i2 i3
  rwa [Y5 ex,Y5 ey] at this
 refine wpS_bind (galR (hint:=0) hc (κ:=κ) qq (ho v mv) ho (by lia) (so sa (sa + na) (by lia) (by lia) (e ▸ sA)) (by lia) λk k2 k3 k4=>?_);dsimp only;have K3:∀ i j,sa<=i->i < sa + k->sb<=j->j < sb + nb->kn key (arrOf st) i<=kn key (arrOf st) j:=λi j i1 i2 j1 j2=>by
  obtain ⟨x,ex,_⟩:=Yo (show i < (arrOf st).size by lia)
  have h1:=k3 (i - sa) x (by lia) (by rw [show sa + (i - sa)=i by lia]; exact ex)
  have h2:=sB sb j (An _) j1 j2
  rw [Y5 ev] at h2
  rw [Y5 ex]
  lia
 by_cases c1:(na - k == 0)=true
 ·rw [if_pos c1]
  have c1:na - k=0:=by simpa using c1
  refine wpS_pure (q _ Y hf Y (Array.Perm.refl _) (i:) λi j i1 i2 i3=>?_);by_cases a1:j < sb
  ·exact sA i j i1 i2 a1
  ·by_cases a2:i < sb
   ·exact K3 i j i1 (by lia) (by lia) i3
   ·exact sB i j (by lia) i2 i3
 rw [if_neg c1];have c1:na - k≠0:=by simpa using c1
 obtain ⟨u,eu,mu⟩:=Yo (show sa + k + (na - k) - 1 < (arrOf st).size by lia);refine wpS_bind (Z5 eu ?_);refine wpS_bind (galL (hint:=nb - 1) hc (κ:=κ) qq (ho u mu) ho (by lia) (so sb (sb + nb) (by lia) (by lia) sB) (by lia) λm m2 m3 m4=>?_);dsimp only;have eu':(arrOf st)[sb - 1]?=some u:=by rw [show sb - 1=sa + k + (na - k) - 1 by lia]; exact eu
 have K4:∀ i j,sa<=i->i < sb->sb + m<=j->j < sb + nb->kn key (arrOf st) i<=kn key (arrOf st) j:=λi j i1 i2 j1 j2=>by
  obtain ⟨y,ey,_⟩:=Yo (show j < (arrOf st).size by lia);have h1:=m4 (j - sb) y (by lia) (by lia) (by rw [show sb + (j - sb)=j by lia]; exact ey);have h2:=sA i (sb - 1) i1 (by lia) (by lia);rw [Y5 eu'] at h2;rw [Y5 ey];lia
 by_cases c2:(m == 0)=true
 ·rw [if_pos c2]
  have c2:m=0:=by simpa using c2
  refine wpS_pure (q _ Y hf Y (Array.Perm.refl _) (i:) λi j i1 i2 i3=>?_);by_cases a1:j < sb
  ·exact sA i j i1 i2 a1
  ·by_cases a2:i < sb
   ·exact K4 i j i1 a2 (by lia) i3
   ·exact sB i j (by lia) i2 i3
 rw [if_neg c2];have c2:m≠0:=by simpa using c2
 have mp:MPk ok key ((arrOf st).extract (sa + k) sb) ((arrOf st).extract sb (sb + m)):=by
  have hx:∀ {p},p∈((arrOf st).extract (sa + k) sb).toList->∃ z,sa + k<=z/\z < sb/\(arrOf st)[z]?=some p:=λh=>U8 (by lia) h;have hy:∀ {p},p∈((arrOf st).extract sb (sb + m)).toList->∃ z,sb<=z/\z < sb + m/\(arrOf st)[z]?=some p:=λh=>U8 (by lia) h;have mem:∀ {z:Nat} {p:Keyed},(arrOf st)[z]?=some p->p∈(arrOf st).toList:=λh=>by obtain ⟨h1,rfl⟩:=Array.getElem?_eq_some_iff.mp h; simp
  refine ⟨λp hp=>?_,λp hp=>?_,Zaq (by lia) λi j i1 i2 i3=>sA i j (by lia) i2 i3,Zaq (by lia) λi j i1 i2 i3=>sB i j i1 i2 (by lia),?_,?_,λx ex p hp=>?_,λx ex p hp=>?_⟩
  ·obtain ⟨z,_,_,h⟩:=hx hp; exact ho p (mem h)
  ·obtain ⟨z,_,_,h⟩:=hy hp; exact ho p (mem h)
  ·rw [Array.size_extract]; lia
  ·rw [Array.size_extract]; lia
  ·rw [Vl _ _ _ (by lia),if_pos (by lia),Nat.add_zero,ev] at ex
   cases ex;obtain ⟨z,z1,z2,z3⟩:=hx hp;exact Nat.le_of_lt (k4 (z - sa) p (by lia) (by lia) (by rw [show sa + (z - sa)=z by lia]; exact z3))
  ·rw [Array.size_extract,Vl _ _ _ (by lia),if_pos (by lia),show sa + k + (min sb (arrOf st).size - (sa + k) - 1)=sb - 1 by lia,eu'] at ex
   cases ex;obtain ⟨z,z1,z2,z3⟩:=hy hp;exact Nat.le_of_lt (m3 (z - sb) p (by lia) (by rw [show sb + (z - sb)=z by lia]; exact z3))
 have xh:∀ (r:Array Keyed) (fy:SortSt),Sg (setPending st (((pendingOf st).setIfInBounds i (sa,na + nb,pw)).eraseIdxIfInBounds (i + 1))) fy->FinM key ((arrOf st).extract (sa + k) sb) ((arrOf st).extract sb (sb + m)) r->wpS (d:) A E s (do
   modify λs=>setArr s (r.toList.zipIdx.foldl (λa (p,j)=>a.setIfInBounds (sa + k + j) p) (arrOf s))
   return (failedOf (<- get)).isNone) Q fy:=λr fy g f=>by
  refine wpS_bind (wpS_modify ?_);refine wpS_bind (wpS_get ?_);have ea:arrOf fy=arrOf st:=g.arr;obtain ⟨f1,f2,f3⟩:=Zhq (sa:=sa) (by lia) (by lia) m2 hz sA sB K3 K4 f.1 f.2;have hff:failedOf fy=none:=g.fail.trans hf;refine wpS_pure ?_;show Q (failedOf fy).isNone _;rw [hff];refine q _ g.kind hff g.pend ?_ ?_ ?_
  ·show (r.toList.zipIdx.foldl _ (arrOf fy)).Perm _
   rw [ea]; exact f1
  ·intro z rk
   show (r.toList.zipIdx.foldl _ (arrOf fy))[z]?=_;rw [ea]; exact f2 z rk
  ·show SRk key (r.toList.zipIdx.foldl _ (arrOf fy)) _ _
   rw [ea]; exact f3
 split
 ·exact wpS_bind (Zfl hc mp qq xh)
 ·exact wpS_bind (Zfm hc mp qq xh)
end
def Ch5:Nat->List (Nat × Nat)->Nat->Prop
 | a,[],b=>a=b
 | a,(x,n) :: r,b=>x=a/\1<=n/\Ch5 (a + n) r b
theorem Oh:∀ {qs:List (Nat × Nat)} {a b:Nat},Ch5 a qs b->a + qs.length<=b
 | [],a,b,h=>by have:a=b:=h; simp; lia
 | (x,n) :: r,a,b,h=>by
  obtain ⟨_,h2,h3⟩:=h;have:=Oh h3;rw [length_cons]; lia
theorem G7:∀ {qs:List (Nat × Nat)} {a b:Nat},Ch5 a qs b->∀ q∈qs,a<=q.1/\q.1 + q.2<=b
 | [],a,b,_,q,hq=>by cases hq
 | (x,n) :: r,a,b,h,q,hq=>by
  obtain ⟨h1,h2,h3⟩:=h;have:=Oh h3
  rcases Ar hq with rfl | hq
  ·exact ⟨by show a<=x; lia,by show x + n<=b; lia⟩
  ·have:=G7 h3 q hq
   lia
theorem Zcs:∀ {qs:List (Nat × Nat)} {a b n:Nat},Ch5 a qs b->1<=n->Ch5 a (qs ++ [(b,n)]) (b + n)
 | [],a,b,n,h,hn=>by have:a=b:=h; subst this; exact ⟨Y,hn,Y⟩
 | (x,m) :: r,a,b,n,h,hn=>⟨h.1,h.2.1,Zcs h.2.2 hn⟩
theorem Fz:∀ {qs:List (Nat × Nat)} {a b i sa na sb nb:Nat},Ch5 a qs b->qs[i]?=some (sa,na)->qs[i + 1]?=some (sb,nb)->sb=sa + na/\1<=na/\1<=nb/\a<=sa/\sb + nb<=b/\Ch5 a ((qs.set i (sa,na + nb)).eraseIdx (i + 1)) b/\∀ q∈(qs.set i (sa,na + nb)).eraseIdx (i + 1),q=(sa,na + nb)\/(q∈qs/\(q.1 + q.2<=sa\/sb + nb<=q.1))
 | [],a,b,i,sa,na,sb,nb,_,h1,_=>by simp at h1
 | (x,n) :: r,a,b,0,sa,na,sb,nb,h,h1,h2=>by
  obtain ⟨c1,c2,c3⟩:=h;cases h1
  cases r with
  | nil=>simp at h2
  | cons q r =>
   cases h2;obtain ⟨d1,d2,d3⟩:=c3;have:=Oh d3;refine ⟨by lia,c2,d2,by lia,by lia,⟨c1,by lia,?_⟩,λq hq=>?_⟩
   ·show Ch5 (a + (n + nb)) r b
    rw [<- Nat.add_assoc]; exact d3
   ·have hq:q∈(x,n + nb) :: r:=hq
    rcases Ar hq with z | z
    ·exact .inl z
    ·have:=G7 d3 q z
     exact .inr ⟨mem_cons_of_mem _ (mem_cons_of_mem _ z),.inr (by lia)⟩
 | (x,n) :: r,a,b,i + 1,sa,na,sb,nb,h,h1,h2=>by
  obtain ⟨c1,c2,c3⟩:=h;obtain ⟨e1,e2,e3,e4,e5,e6,e7⟩:=Fz c3 h1 h2;refine ⟨e1,e2,e3,by lia,e5,⟨c1,c2,e6⟩,λq hq=>?_⟩;have hq:q∈(x,n) :: (r.set i (sa,na + nb)).eraseIdx (i + 1):=hq
  rcases Ar hq with z | z
  ·subst z
   exact .inr ⟨mem_cons_self,.inl (by show x + n<=sa; lia)⟩
  ·rcases e7 q z with y | ⟨y1,y2⟩
   ·exact .inl y
   ·exact .inr ⟨mem_cons_of_mem _ y1,y2⟩
def pr2 (q:Nat × Nat × Nat):Nat × Nat:=(q.1,q.2.1)
structure SInv (κ:SortKind) (ok:Keyed->Prop) (key:Keyed->Nat) (a₀:Array Keyed) (st:SortSt) (qs:List (Nat × Nat)) (lo:Nat):Prop where
 kind:kindOf st=κ
 fail:failedOf st=none
 perm:(arrOf st).Perm a₀
 pend:(pendingOf st).toList.map pr2=qs
 ch:Ch5 0 qs lo
 runs:∀ q∈qs,SRk key (arrOf st) q.1 (q.1 + q.2)
 le:lo<=a₀.size
 oks:∀ p∈a₀.toList,ok p
section
variable {prog:Program} {w:World} {A:Around} {E:Value->Shared->Prop} {s:Shared} {κ:SortKind} {ok:Keyed->Prop} {key:Keyed->Nat} {a₀:Array Keyed}
def SInv.ok' {st:SortSt} {qs:List (Nat × Nat)} {lo:Nat} (h:SInv κ ok key a₀ st qs lo):∀ p∈(arrOf st).toList,ok p:=λp hp=>h.oks p (Zb7 h.perm hp)
def SInv.sz {st:SortSt} {qs:List (Nat × Nat)} {lo:Nat} (h:SInv κ ok key a₀ st qs lo):(arrOf st).size=a₀.size:=h.perm.size_eq
def Gj {xs ys:Array Keyed} {lo hi:Nat} (h:SRk key xs lo hi) (e:∀ z:Nat,lo<=z->z < hi->ys[z]?=xs[z]?):SRk key ys lo hi:=λi j i1 i2 i3=>by
 rw [Yx (e i i1 (by lia)),Yx (e j (by lia) i3)];exact h i j i1 i2 i3
theorem Fp {α β:Type} (f:α->β):∀ (l:List α) (i:Nat),(l.eraseIdx i).map f=(l.map f).eraseIdx i
 | [],_=>rfl
 | _ :: _,0=>rfl
 | x :: l,i + 1=>by show f x :: (l.eraseIdx i).map f=f x :: (l.map f).eraseIdx i; rw [Fp f l i]
def Zhe (p:Array (Nat × Nat × Nat)) (i:Nat) (x:Nat × Nat × Nat):((p.setIfInBounds i x).eraseIdxIfInBounds (i + 1)).toList=(p.toList.set i x).eraseIdx (i + 1):=by simp
def SInv.merge (hc:CmpK prog w A E s κ ok key) {st:SortSt} {qs:List (Nat × Nat)} {lo i:Nat} (h:SInv κ ok key a₀ st qs lo) (hi:i + 1 < qs.length) {Q:Bool->SortSt->Prop} (q:∀ ft o6,SInv κ ok key a₀ ft o6 lo->o6.length + 1=qs.length->(∀ z:Nat,lo<=z->(arrOf ft)[z]?=(arrOf st)[z]?)->Q true ft):wpS (d:) A E s (mergeAt' i) Q st:=by
 have hl:(pendingOf st).size=qs.length:=by rw [<- h.pend,Ab,Array.length_toList]
 obtain ⟨⟨sa,na,pw⟩,e1⟩:∃ x,(pendingOf st)[i]?=some x:=⟨_,Array.getElem?_eq_getElem (by lia)⟩;obtain ⟨⟨sb,nb,pb⟩,e2⟩:∃ x,(pendingOf st)[i + 1]?=some x:=⟨_,Array.getElem?_eq_getElem (by lia)⟩;have f:∀ (j:Nat) x,(pendingOf st)[j]?=some x->qs[j]?=some (pr2 x):=λj x e=>by rw [<- h.pend,Ah,Array.getElem?_toList,e]; rfl
 have f1:qs[i]?=some (sa,na):=f _ _ e1;have f2:qs[i + 1]?=some (sb,nb):=f _ _ e2;obtain ⟨d1,d2,d3,d4,d5,d6,d7⟩:=Fz h.ch f1 f2;have le:=h.le;have sz:=h.sz;have rA:SRk key (arrOf st) sa (sa + na):=h.runs _ (Au f1);have rB:SRk key (arrOf st) sb (sb + nb):=h.runs _ (Au f2);refine Zfn hc h.kind h.ok' h.fail e1 e2 d1 d2 d3 (by lia) (d1 ▸ rA) rB λft k1 k2 k3 k4 k5 k6=>?_;refine q ft ((qs.set i (sa,na + nb)).eraseIdx (i + 1)) ⟨k1.trans h.kind,k2,k4.trans h.perm,?_,d6,λq' hq=>?_,h.le,h.oks⟩ ?_ ?_
 ·rw [k3,Zhe,Fp,List.map_set,h.pend]
  rfl
 ·rcases d7 q' hq with z | ⟨z1,z2⟩
  ·subst z
   have:SRk key (arrOf ft) sa (sa + (na + nb)):=by rw [show sa + (na + nb)=sb + nb by lia]; exact k6
   exact this
  ·exact Gj (h.runs q' z1) λz' y1 y2=>k5 z' (by lia)
 ·rw [length_eraseIdx,length_set,if_pos hi]
  lia
 ·exact λz hz=>k5 z (by lia)
noncomputable def Zlq (k lo n:Nat):StateT SortSt Sem (ForInStep (Option Unit × Nat)):=do
 match (pendingOf (<- get)).back? with
 | some (s1,n1,_) =>
  let c <- forIn [:k] ((none,()):Option Unit × Unit) λ_ _=>do
   let p:=pendingOf (<- get)
   match (if p.size > 1 then p[p.size - 2]? else none) with
   | some (_,_,older) =>
    if older<=power' k (2 * s1 + n1) (2 * s1 + n1 + n1 + n) k then pure (.done (none,()))
    else if !(<- mergeAt' (p.size - 2)) then pure (.done (some (),())) else pure (.yield (none,()))
   | _=>pure (.done (none,()))
  Break.runK.match_1 (λ_=>_) c.1 (λr=>pure (.done (some r,lo))) λ_=>do
   modify λs=>setPending s ((pendingOf s).modify ((pendingOf s).size - 1) λx=>(x.1,x.2.1,power' k (2 * s1 + n1) (2 * s1 + n1 + n1 + n) k))
   modify λs=>setPending s ((pendingOf s).push (lo,n,0))
   pure (.yield (none,lo + n))
 | _ =>
  modify λs=>setPending s ((pendingOf s).push (lo,n,0))
  pure (.yield (none,lo + n))
def Zd0 (hc:CmpK prog w A E s κ ok key) {a₀:Array Keyed} {ft fy:SortSt} {lo m:Nat} {qs:List (Nat × Nat)} (S:SInv κ ok key a₀ ft qs lo) (c2:ChgS lo ft fy) (m1:1<=m) (m2:m<=a₀.size - lo) (r2:SRk key (arrOf fy) lo (lo + m)) {Q:ForInStep (Option Unit × Nat)->SortSt->Prop} (q:∀ t qs,SInv κ ok key a₀ t qs (lo + m)->Q (.yield (none,lo + m)) t):wpS (d:) A E s (Zlq a₀.size lo m) Q fy:=by
 have sz:=S.sz;have push:∀ (n:Nat) (gv:SortSt) (qs:List (Nat × Nat)),1<=n->n<=a₀.size - lo->SInv κ ok key a₀ gv qs lo->SRk key (arrOf gv) lo (lo + n)->SInv κ ok key a₀ (setPending gv ((pendingOf gv).push (lo,n,0))) (qs ++ [(lo,n)]) (lo + n):=λn gv qs m1 m2 S3 r3=>⟨S3.kind,S3.fail,S3.perm,by
   show ((pendingOf gv).push (lo,n,0)).toList.map pr2=_
   rw [Array.toList_push,Aj,S3.pend]; rfl,Zcs S3.ch m1,λq hq=>by
   rcases mem_append.mp hq with z | z
   ·exact S3.runs q z
   ·rw [Af z]; exact r3,by lia,S3.oks⟩
 have S2:SInv κ ok key a₀ fy qs lo:=⟨c2.kind.trans S.kind,c2.fail.trans S.fail,c2.perm.trans S.perm,by rw [c2.pend]; exact S.pend,S.ch,λq hq=>Gj (S.runs q hq) λz z1 z2=>c2.low z (by have:=G7 S.ch q hq; lia),S.le,S.oks⟩;refine wpS_bind (wpS_get ?_)
 cases hb:(pendingOf fy).back? with
 | none=>exact wpS_bind (wpS_modify (wpS_pure (q _ _ (push m fy qs m1 m2 S2 r2))))
 | some t =>
  obtain ⟨s1,n1',p1⟩:=t;dsimp only;refine wpS_bind (wpS_mono (wpS_forRange (I:=λx c gv=>c=(none,())/\∃ qs,SInv κ ok key a₀ gv qs lo/\SRk key (arrOf gv) lo (lo + m)) (Q:=λc gv=>c=(none,())/\∃ qs,SInv κ ok key a₀ gv qs lo/\SRk key (arrOf gv) lo (lo + m)) ?_ (λ_ _ hh=>hh) ⟨Y,qs,S2,r2⟩) ?_)
  ·rintro y c gv _ hy ⟨rfl,vg,S3,r3⟩
   refine wpS_bind (wpS_get ?_);have hl:(pendingOf gv).size=vg.length:=by rw [<- S3.pend,Ab,Array.length_toList]
   split
   ·rename_i older hm
    split
    ·exact wpS_pure ⟨Y,vg,S3,r3⟩
    ·have h1:(pendingOf gv).size > 1:=by
      rcases Nat.lt_or_ge 1 (pendingOf gv).size with z | z
      ·exact z
      ·rw [if_neg (by lia)] at hm; cases hm
     refine wpS_bind (S3.merge hc (by lia) λkm qs4 S4 l4 k4=>?_);rw [if_neg (by decide)];exact wpS_pure ⟨Y,qs4,S4,Gj r3 λz z1 z2=>k4 z z1⟩
   ·exact wpS_pure ⟨Y,vg,S3,r3⟩
  ·rintro c gv ⟨rfl,vg,S3,r3⟩
   dsimp only;refine wpS_bind (wpS_modify ?_);refine wpS_bind (wpS_modify (wpS_pure (q _ _ (push m _ vg m1 m2 ⟨S3.kind,S3.fail,S3.perm,?_,S3.ch,S3.runs,S3.le,S3.oks⟩ r3))));show ((pendingOf gv).modify ((pendingOf gv).size - 1) _).toList.map pr2=_;rw [<- S3.pend];apply ext_getElem?;intro z;rw [Ah,Ah,Array.getElem?_toList,Array.getElem?_toList,Array.getElem?_modify];split
   ·rw [Option.map_map]; rfl
   ·rfl
def Zle (hc:CmpK prog w A E s κ ok key) {st:SortSt} (hk:kindOf st=κ) (hf:failedOf st=none) (hp:pendingOf st=#[]) (ho:∀ p∈(arrOf st).toList,ok p) (h2:2<=(arrOf st).size) {Q:Unit->SortSt->Prop}
  (q:∀ ft,(arrOf ft).Perm (arrOf st)->failedOf ft=none->UpK key (arrOf ft).toList->Q () ft):wpS (d:) A E s sortRuns' Q st:=by
 have S0:SInv κ ok key (arrOf st) st [] 0:=⟨hk,hf,Array.Perm.refl _,by rw [hp]; rfl,rfl,(λq hq=>by cases hq),Az _,ho⟩;generalize ha:arrOf st=a₀ at *;rw [sortRuns'_eq];refine wpS_bind (wpS_get ?_);dsimp only;rw [ha];generalize minRun' a₀.size a₀.size 0=mr;refine wpS_bind (wpS_mono (wpS_forRange (I:=λx c ft=>∃ lo qs,c=(none,lo)/\SInv κ ok key a₀ ft qs lo/\(lo=a₀.size\/x<=lo)) (Q:=λc ft=>c=(none,a₀.size)/\∃ qs,SInv κ ok key a₀ ft qs a₀.size) ?step ?fin ?init) ?post)
 case init=>exact ⟨0,[],Y,S0,.inr (An _)⟩
 case fin =>
  rintro c ft ⟨lo,qs,rfl,S,z⟩;have:=S.le;have:lo=a₀.size:=by lia
  subst this;exact ⟨Y,qs,S⟩
 case step =>
  rintro x c ft _ hx ⟨lo,qs,rfl,S,z⟩;dsimp only;by_cases c0:lo ≥ a₀.size
  ·rw [if_pos c0]
   have:=S.le;have:lo=a₀.size:=by lia
   subst this;exact wpS_pure ⟨Y,qs,S⟩
  rw [if_neg c0];have sz:=S.sz;have cr:CRun prog w A E s κ ok key ft lo (a₀.size - lo):=⟨hc,S.kind,S.ok',by lia⟩;refine wpS_bind (cr.count (by lia) λn rc c1 n1 n2 r1=>?_);dsimp only;by_cases cm:n < mr
  ·rw [if_pos cm]
   refine wpS_bind (wpS_lift (wpAny_rule ⟨Y,?_⟩));have cr2:CRun prog w A E s κ ok key ft lo (min (a₀.size - lo) mr):=⟨hc,S.kind,S.ok',by lia⟩;refine wpS_bind (cr2.bin c1 (by lia) (by lia) r1 λfy c2 r2=>?_);rw [if_neg (by decide)];exact Zd0 hc S c2 (by lia) (by lia) r2 λt q S=>⟨_,q,Y,S,.inr (by lia)⟩
  ·rw [if_neg cm]
   exact Zd0 hc S c1 n1 n2 r1 λt q S=>⟨_,q,Y,S,.inr (by lia)⟩
 case post =>
  rintro c ft ⟨rfl,qs,S⟩;dsimp only;refine wpS_bind (wpS_mono (wpS_forRange (I:=λx c fy=>c=(none,())/\∃ qs,SInv κ ok key a₀ fy qs a₀.size/\(qs.length<=1\/qs.length + x<=a₀.size)) (Q:=λc fy=>c=(none,())/\∃ qs,SInv κ ok key a₀ fy qs a₀.size/\qs.length<=1) ?step2 ?fin2 ?init2) ?post2)
  case init2=>exact ⟨rfl,qs,S,.inr (by have:=Oh S.ch; lia)⟩
  case fin2 =>
   rintro c fy ⟨rfl,qs,S,z⟩;exact ⟨Y,qs,S,by lia⟩
  case step2 =>
   rintro x c fy _ hx ⟨rfl,qs,S,z⟩;refine wpS_bind (wpS_get ?_);have hl:(pendingOf fy).size=qs.length:=by rw [<- S.pend,Ab,Array.length_toList]
   try dsimp only
   by_cases c1:(pendingOf fy).size<=1
   ·rw [if_pos c1]
    exact wpS_pure ⟨Y,qs,S,by lia⟩
   rw [if_neg c1];have mg:∀ i,i + 1 < qs.length->wpS (d:) A E s (do
     let __do_lift <- mergeAt' i
     if (!__do_lift)=true then pure (ForInStep.done (some (),())) else pure (ForInStep.yield (none,()))) (λr gv=>r=ForInStep.yield (none,())/\∃ o6,SInv κ ok key a₀ gv o6 a₀.size/\o6.length + 1=qs.length) fy:=λi hi=>by
    refine wpS_bind (S.merge hc hi λgv o6 S3 l3 _=>?_)
    rw [if_neg (by decide)]
    exact wpS_pure ⟨Y,o6,S3,l3⟩
   refine wpS_mono (mg _ ?_) ?_
   ·(repeat' split) <;> lia
   ·rintro r gv ⟨rfl,o6,S3,l3⟩
    exact ⟨Y,o6,S3,by lia⟩
  case post2 =>
   rintro c fy ⟨rfl,qs,S,z⟩;refine wpS_pure (q fy S.perm S.fail ?_)
   have:SRk key (arrOf fy) 0 a₀.size:=by
    have jy:=S.ch;have hr:=S.runs
    cases qs with
    | nil=>have:0=a₀.size:=jy; lia
    | cons q' r =>
     cases r with
     | nil =>
      obtain ⟨x,n⟩:=q';obtain ⟨e1,_,e2⟩:=jy;have e2:0 + n=a₀.size:=e2;have:=hr (x,n) mem_cons_self;subst e1;rw [Nat.zero_add] at e2;subst e2;have this:SRk key (arrOf fy) 0 (0 + a₀.size):=this;rwa [Nat.zero_add] at this
     | cons _ _=>simp at z
   have u:=Zaq (i:=0) (j:=(arrOf fy).size) (An _) (by rw [S.sz]; exact this);rwa [Array.extract_size] at u
end
end L2
namespace L2
open PySem PySem.Spec PyProof.Rows PySem.W
def Zln {ts:List Addr}:∀ {its:List Value},Vals (ts.map V.ref) its->its=ts.map Value.ref:=by
 induction ts with
 | nil=>intro its h; cases h; rfl
 | cons t r ih =>
  intro its h
  cases h with
  | cons a b =>
   obtain rfl:=(show _=Value.ref t from a);rw [ih b];rfl
def rkL (ls:List (List Int)) (l:List Int):Nat:=(ls.filter λx=>HT.lexLt x l).length
def Zfe (h:HT.lexLt l' l=false):rkL ls l<=rkL ls l':=by
 unfold rkL
 induction ls with
 | nil=>exact An _
 | cons x r ih =>
  have imp:HT.lexLt x l=true->HT.lexLt x l'=true:=λz=>by
   cases e:HT.lexLt x l' with
   | true=>rfl
   | false=>rw [HT.lex_le h e] at z; cases z
  rw [filter_cons,filter_cons]
  cases e1:HT.lexLt x l with
  | true=>rw [imp e1]; simp only [if_true,length_cons]; lia
  | false =>
   simp only [Bool.false_eq_true,if_false];split
   ·rw [length_cons]; lia
   ·exact ih
def Zos (hm:l∈ls) (h:HT.lexLt l l'=true):rkL ls l < rkL ls l':=by
 have hn:HT.lexLt l' l=false:=by
  cases e:HT.lexLt l' l with
  | false=>rfl
  | true=>have:=HT.lex_trans _ _ _ h e; rw [HT.lex_irr] at this; cases this
 obtain ⟨A,B,rfl⟩:=append_of_mem hm;have a1:=Zfe (ls:=A) hn;have b1:=Zfe (ls:=B) hn;unfold rkL at a1 b1 ⊢;rw [filter_append,filter_append,Ae,Ae,filter_cons,filter_cons,HT.lex_irr,h];simp only [Bool.false_eq_true,if_false,if_true,length_cons];lia
def Zg5 (hm:l∈ls):decide (rkL ls l < rkL ls l')=HT.lexLt l l':=by
 cases e:HT.lexLt l l' with
 | true=>exact decide_eq_true (Zos hm e)
 | false=>have:=Zfe (ls:=ls) e; exact decide_eq_false (by lia)
section
variable {prog:Program} {w:World} {A:Around} {E:Value->Shared->Prop} {s:Shared}
def LsC (as:List Addr) (c:Addr->List Int) (h:Heap):Prop:=∀ a∈as,∃ its:List Value,h.IsList a its.toArray/\IntsAre its (c a)
def Znu {xs ys:Array Value} (hl:s.heap.IsList l xs) (hb:s.heap.IsList b ys) (hi:IntsAre xs.toList ns) (hj:IntsAre ys.toList ms) (hu:A.units < cLine) (h:Q (HT.lexLt ns ms) s):wpAny (d:) A (oneLt' true (.ref l) (.ref b)) Q E s:=by
 obtain ⟨⟨cls,dd,data,sl⟩,ho,hc,n,hd⟩:=id hl;obtain ⟨⟨cls2,qu,data2,qf⟩,og,ke,n2,jn⟩:=id hb;simp only at hc hd ke jn;subst hc hd ke jn;rw [oneLt'_eq];simp only [if_true];refine Al (wpAny_cRoomFor hu ?_);refine Al (wpAny_callSpecialIfBound?_slot ⟨_,ho,Y⟩ PySem.F.slot_list_lt (call_meets PySem.F.slot_list_lt ⟨_,ho,Y⟩ PySem.F.entry_list_lt (PySem.F.args_list_lt_2 _ _) (_root_.HL.list_lt l b xs ys n n2 dd qu sl qf ns ms hi hj) ⟨ho,og,?_⟩));exact wpAny_truthy_bool h
def Zfx {as:List Addr} (hJ:LsC as c s.heap) (hn:0 < as.length) (h:Q oneType' s):wpAny (d:) A (keyKind' (as.map Value.ref).toArray) Q E s:=by
 rw [keyKind'_eq,mapM_toArray];have ty:∀ a∈as,s.TypeIs (.ref a) "list":=λa ha=>by
  obtain ⟨its,⟨o,ho,hc,_⟩,_⟩:=hJ a ha
  exact ⟨o,ho,hc⟩
 have t8:∀ (l:List Addr),(∀ a∈l,a∈as)->∀ {Q:List (Option Value)->Shared->Prop},Q (l.map λ_=>none) s->wpAny (d:) A ((l.map Value.ref).mapM firstOfTuple') Q E s:=λl=>by
  induction l with
  | nil=>intro _ Q h; exact wpAny_pure h
  | cons a l ih =>
   intro hl Q h;rw [map_cons,mapM_cons];refine Al ?_;show wpAny _ _ (do if (<- typeOf (.ref a)) != .type "tuple" then return none else return (<- Builtin.List.listItems (.ref a))[0]?) _ _ _;refine Al (wpAny_typeOf (ty a (hl a mem_cons_self)) ?_);rw [if_pos (by decide)];refine wpAny_pure ?_;exact Al (ih (λb hb=>hl b (mem_cons_of_mem _ hb)) (wpAny_pure h))
 have yf:∀ (l:List Addr),(∀ a∈l,a∈as)->∀ {Q:List Value->Shared->Prop},Q (l.map λ_=>Value.type "list") s->wpAny (d:) A ((l.map Value.ref).mapM typeOf) Q E s:=λl=>by
  induction l with
  | nil=>intro _ Q h; exact wpAny_pure h
  | cons a l ih =>
   intro hl Q h;rw [map_cons,mapM_cons];refine Al (wpAny_typeOf (ty a (hl a mem_cons_self)) ?_);exact Al (ih (λb hb=>hl b (mem_cons_of_mem _ hb)) (wpAny_pure h))
 cases as with
 | nil=>simp at hn
 | cons a0 r =>
  refine Al ?_;refine wpAny_map ?_;refine t8 (a0 :: r) (λa h=>h) ?_;rw [if_neg (by simp),if_neg (by simp)];rw [oneTypeOnly'_eq,mapM_toArray];refine Al (Al (wpAny_map (yf (a0 :: r) (λa h=>h) ?_)));have ig:((List.map (λ_=>Value.type "list") (a0 :: r)).toArray.all λx=>x == Value.type "list")=true:=by
   simp only [all_toArray,all_map,all_eq_true]
   intro _ _
   rfl
  have h0:(List.map (λ_=>Value.type "list") (a0 :: r)).toArray[0]?=some (Value.type "list"):=by simp
  rw [h0];simp only [ig,if_true];exact wpAny_pure (wpAny_pure h)
def LsC.stay {h h':Heap} {p:Addr} (hJ:LsC as c h) (pf:∀ a∈as,a≠p) (k:∀ b o,b≠p->h.get? b=some o->h'.get? b=some o):LsC as c h':=λa ha=>by
 obtain ⟨its,⟨o,ho,hc⟩,n⟩:=hJ a ha;exact ⟨its,⟨o,k a o (pf a ha) ho,hc⟩,n⟩
def adrK (p:Keyed):Addr:=match p.1 with | .ref b=>b | _=>0
theorem Zan:∀ (as:List Addr),(as.map Value.ref).zip (as.map Value.ref)=as.map λb=>(Value.ref b,Value.ref b)
 | []=>rfl
 | a :: r=>by rw [map_cons,zip_cons_cons,Zan r]; rfl
def Zic {as:List Addr} (hu:A.units < cLine) (hJ:LsC as c s.heap):CmpK prog w A E s oneType' (λp=>∃ b∈as,p=(Value.ref b,Value.ref b)) (λp=>rkL (as.map c) (c (adrK p))):=by
 rintro x y ⟨b1,m1,rfl⟩ ⟨b2,m2,rfl⟩ st Q hk q;have q:Q (some (decide (rkL (as.map c) (c b1) < rkL (as.map c) (c b2)))) st:=q;rw [Zg5 (mem_map.mpr ⟨b1,m1,rfl⟩)] at q;obtain ⟨i1,l1,n1⟩:=hJ b1 m1;obtain ⟨i2,l2,n2⟩:=hJ b2 m2;rw [lt'_eq];refine wpS_bind (wpS_get ?_);rw [hk,keyLt'_oneType];refine wpS_bind (wpS_lift (wpAny_attempt (Znu l1 l2 (by simpa using n1) (by simpa using n2) hu ⟨Y,?_⟩)));exact wpS_pure q
def Zag {as:List Addr} (hu:A.units < cLine) (ho:s.heap.get? a=some (seqObj "list" (as.map Value.ref).toArray n)) (hz:as.length<=1000) (hJ:LsC as c s.heap) (hna:∀ b∈as,b≠a)
  (h:∀ bs:List Addr,bs.Perm as->bs.Pairwise (λx y=>HT.lexLt (c y) (c x)=false)->P (.done (.ret .none)) { s with heap:=sortedHeap s.heap a (as.map Value.ref) (bs.map Value.ref).toArray }) :
  wpAny (d:) A (Builtin.«list.sort» ⟨[.ref a],[]⟩) P E s:=by
 rw [list_sort_plain];have ha:a < s.heap.objs.size:=Ao ho;have hl:(as.map Value.ref).length=as.length:=Ab _;refine Al (listItems_at ho Y ?_);refine Al (listUpdate_at ho Y ?_ (hsz:=by rw [Aq,hl,sizeLine_eq]; lia));obtain ⟨e1,r8⟩:∃ e1,(s.heap.update a (Obj.mapSeq λ_=>#[])).get? a=some (seqObj "list" #[] e1):=⟨_,get?_update_seq ho (λ_=>#[])⟩;refine Al (seqEpoch_at r8 Y ?_);refine Al (wpAny_newTuple ?_ (by rw [hl,sizeLine_eq]; lia));refine Al (wpAny_newList ?_);refine wpAny_holding ?_;generalize hvs:as.map Value.ref=vs at *;have wq:(((s.heap.update a (Obj.mapSeq λ_=>#[])).push (seqObj "tuple" vs.toArray 0)).push (seqObj "list" #[] 0)).get? a=some (seqObj "list" #[] e1):=by
  rw [Heap.get?_push_ne _ _ _ (by rw [size_push',Heap.size_update]; exact As (lt_succ_of_lt ha)),Heap.get?_push_ne _ _ _ (by rw [Heap.size_update]; exact As ha)]
  exact r8
 have hk6:∀ b o,b≠a->s.heap.get? b=some o->(((s.heap.update a (Obj.mapSeq λ_=>#[])).push (seqObj "tuple" vs.toArray 0)).push (seqObj "list" #[] 0)).get? b=some o:=λb o hb e =>
  Ak _ (Ak _ ((Heap.get?_update_other _ _ (Ne.symm hb)).trans e))
 have wg:∀ out,sortedHeap s.heap a vs out=(((s.heap.update a (Obj.mapSeq λ_=>#[])).push (seqObj "tuple" vs.toArray 0)).push (seqObj "list" #[] 0)).update a (Obj.mapSeq λ_=>out):=λ_=>rfl;show wpAny (d:) A _ P E { s with heap:=((s.heap.update a (Obj.mapSeq λ_=>#[])).push (seqObj "tuple" vs.toArray 0)).push (seqObj "list" #[] 0) };generalize ((s.heap.update a (Obj.mapSeq λ_=>#[])).push (seqObj "tuple" vs.toArray 0)).push (seqObj "list" #[] 0)=h6 at wq hk6 wg ⊢;dsimp only;have hsz:vs.toArray.size=vs.length:=by simp
 by_cases h2:vs.toArray.size < 2
 ·rw [if_pos h2,if_pos h2]
  refine Al (wpAny_pure ?_);rw [StateT.run_pure];refine Al (wpAny_pure ?_);dsimp only;refine Al (seqEpoch_at wq Y ?_);refine Al (listUpdate_at wq Y ?_ (hsz2:=by rw [Array.size_map]; show (pairsOf vs).size<=_; rw [pairsOf_size,sizeLine_eq]; lia));simp only [bne_self_eq_false,Bool.false_eq_true,if_false]
  have fin:=h as (List.Perm.refl _) (by
   cases as with
   | nil=>exact List.Pairwise.nil
   | cons x r =>
    cases r with
    | nil=>exact pairwise_singleton _ _
    | cons y r=>simp at hl; lia)
  refine wpAny_pure ?_;have e:vs.toArray=(arrOf (SortSt.mk' general' (vs.toArray.zip vs.toArray) #[] 7 none)).map (·.2):=by
   show _=(vs.toArray.zip vs.toArray).map (·.2)
   apply Array.ext'
   simp [map_snd_zip]
  rw [hvs,e,wg] at fin;exact fin
 ·rw [if_neg h2,if_neg h2]
  have h2':2<=vs.length:=by lia
  have hJ6:=hJ.stay hna hk6;have kd:=λQ h=>Zfx (prog:=prog) (w:=w) (A:=A) (E:=E) (s:={ s with heap:=h6 }) hJ6 (by lia) (Q:=Q) h;rw [hvs] at kd;refine Al (kd _ ?_);have vw:vs.toArray.zip vs.toArray=(as.map λb=>(Value.ref b,Value.ref b)).toArray:=by
   apply Array.ext'
   rw [Array.toList_zip,<- hvs,Zan]
  have W:=Zle (st:=SortSt.mk' oneType' (vs.toArray.zip vs.toArray) #[] 7 none) (Zic (prog:=prog) (w:=w) (A:=A) (E:=E) (s:={ s with heap:=h6 }) hu hJ6) rfl rfl rfl (λp hp=>by
    have hp:p∈(vs.toArray.zip vs.toArray).toList:=hp;rw [vw] at hp;obtain ⟨b,hb,rfl⟩:=mem_map.mp hp
    exact ⟨b,hb,Y⟩) (by show 2<=(vs.toArray.zip vs.toArray).size; rw [vw,Aq,Ab]; lia)
   (Q:=λ_ ft=>(arrOf ft).Perm (vs.toArray.zip vs.toArray)/\failedOf ft=none/\UpK (λp=>rkL (as.map c) (c (adrK p))) (arrOf ft).toList) λft a1 a2 a3=>⟨a1,a2,a3⟩
  refine Al (wpAny_mono W ?_ λ_ _ e=>e);rintro ⟨⟨⟩,ft⟩ s' ⟨rfl,pm,hf,up⟩;dsimp only at pm hf up ⊢;refine Al (seqEpoch_at wq Y ?_);have pl:(arrOf ft).toList.Perm (as.map λb=>(Value.ref b,Value.ref b)):=by
   have:=Array.perm_iff_toList_perm.mp pm
   rw [vw] at this
   exact this
  have sh:∀ p∈(arrOf ft).toList,p=(Value.ref (adrK p),Value.ref (adrK p)):=λp hp=>by
   obtain ⟨b,_,rfl⟩:=mem_map.mp (pl.mem_iff.mp hp);rfl
  have eo:(arrOf ft).map (·.2)=(((arrOf ft).toList.map adrK).map Value.ref).toArray:=by
   apply Array.ext';rw [Array.toList_map,map_map];exact map_congr_left λp hp=>by rw [sh p hp]; rfl
  have pb:((arrOf ft).toList.map adrK).Perm as:=by
   have:=pl.map adrK;rw [map_map] at this;have e:as.map (adrK ∘ λb=>(Value.ref b,Value.ref b))=as:=by
    have:(adrK ∘ λb=>(Value.ref b,Value.ref b))=id:=rfl
    rw [this,map_id]
   rwa [e] at this
  refine Al (listUpdate_at wq Y ?_ (hsz2:=by rw [eo,Aq,Ab,pb.length_eq,sizeLine_eq]; lia));rw [hf];simp only [bne_self_eq_false,Bool.false_eq_true,if_false];refine wpAny_pure ?_;rw [eo];have fin:=h _ pb (pairwise_map.mpr (List.Pairwise.imp_of_mem (λ{x y} hx hy hxy=>?_) up))
  ·rw [wg] at fin
   exact fin
  ·have hxy:rkL (as.map c) (c (adrK x))<=rkL (as.map c) (c (adrK y)):=hxy
   have jq:adrK y∈as:=pb.mem_iff.mp (mem_map.mpr ⟨y,hy,rfl⟩);rw [<- Zg5 (ls:=as.map c) (mem_map.mpr ⟨_,jq,rfl⟩)];exact decide_eq_false (by lia)
end
section
variable {X:Cx}
def Zai (hu:X.A.units + 64 < cLine):Yv X (.builtin "sorted") (λxs H Q=>∃ (p:Addr) (as:List Addr) (c:Addr->List Int),xs=[.ref p]/\SqL X.K H p (as.map V.ref)/\(∀ a∈as,SqL X.K H a ((c a).map V.int))/\as.length<=1000 /\
  ∀ (q:Addr) (bs:List Addr),H q=none->bs.Perm as->bs.Pairwise (λx y=>HT.lexLt (c y) (c x)=false)->Q (.ref q) (upd H q (.lst (bs.map V.ref)))):=by
 intro fo s σ H xs us Q I r h;obtain ⟨p,as,c,rfl,hp,hc,hz,q⟩:=h;obtain ⟨u,rfl,ru⟩:=Xr r;obtain rfl:u=Value.ref p:=ru;obtain ⟨its,rv,pl,_⟩:=I.list hp;have hits:=Zln rv;subst hits;have hl:(as.map Value.ref).length=as.length:=Ab _;have hJ:LsC as c s.heap:=λa ha=>by
  obtain ⟨its,r,p,_⟩:=I.list (hc a ha)
  exact ⟨its,p.isList,Qf r⟩
 refine Calls.call_function_entry kind_sorted plain_sorted entry_sorted (args_sorted1 _) ?_;unfold Builtin.«sorted»;refine Al (m:=checkCount "sorted" 1 1 _) (wpAny_pure ?_);refine Al (collect_list pl.isList ?_ (by rw [hl,sizeLine_eq]; lia));have i9:∀ b o,s.heap.get? b=some o->((s.heap.push (seqObj "list" #[] 0)).update s.heap.objs.size (Obj.mapSeq λx=>x ++ (as.map Value.ref).toArray)).get? b=some o:=λb o e =>
  (Heap.get?_update_other _ _ (Nat.ne_of_gt (Ao e))).trans (Ak _ e)
 generalize (s.heap.push (seqObj "list" #[] 0)).update s.heap.objs.size (Obj.mapSeq λx=>x ++ (as.map Value.ref).toArray)=h' at i9;refine Al (wpAny_newList ?_ (by rw [hl,sizeLine_eq]; lia));have I1:Inv X fo σ H { s with heap:=h' }:=I.kept (t':=s.toks) i9;have pd:(h'.push { cls:=.type "list",data:=.seq (as.map Value.ref).toArray }).get? h'.objs.size=some (seqObj "list" (as.map Value.ref).toArray 0):=Ap _ rfl;have hJ1:LsC as c (h'.push { cls:=.type "list",data:=.seq (as.map Value.ref).toArray }):=λa ha=>by
  obtain ⟨its,⟨o,ho,kz⟩,n⟩:=hJ a ha
  exact ⟨its,⟨o,Ak _ (i9 a o ho),kz⟩,n⟩
 have hna:∀ b∈as,b≠h'.objs.size:=λb hb=>by
  obtain ⟨its,⟨o,ho,_⟩,_⟩:=hJ b hb;exact As (Ao (i9 b o ho))
 refine Al (wpAny_holding (wpAny_call_entry slot_list_sort ⟨_,pd,Y⟩ entry_list_sort (Zag (by show X.A.in1.in1.units < cLine; have e:X.A.in1.in1.units<=X.A.units + 64:=(by unfold Around.in1; first | (dsimp only; lia) | (simp only; lia)); lia) pd hz hJ1 hna λbs zk me=>⟨_,rfl,?_⟩) (args_list_sort _)));refine wpAny_pure ⟨_,Y,?_⟩;obtain ⟨e,he⟩:=sortedHeap_at (out:=(bs.map Value.ref).toArray) pd;have kp:∀ b u,h'.get? b=some u->(sortedHeap (h'.push { cls:=.type "list",data:=.seq (as.map Value.ref).toArray }) h'.objs.size (as.map Value.ref) (bs.map Value.ref).toArray).get? b=some u:=λb u hb=>by
  have gj:b < h'.objs.size:=Ao hb
  rw [sortedHeap_old (As gj) (by rw [Heap.size_push]; exact lt_succ_of_lt gj)]
  exact Ak _ hb
 have hv:∀ l:List Addr,Vals (l.map V.ref) (l.map Value.ref):=λl=>by
  induction l with
  | nil=>exact .nil
  | cons b l ih=>exact .cons Y ih
 refine ⟨.ref h'.objs.size,upd H h'.objs.size (.lst (bs.map V.ref)),I1.laid kp (An _) ?_,Y,q _ bs I1.fresh zk me⟩;refine ⟨?_,bs.map Value.ref,e,hv bs,?_⟩
 ·rw [Ab,zk.length_eq,sizeLine_eq]; lia
 ·exact he
end
end L2
namespace KT
open PySem L2
def kP (c:Nat):List Int:=[((c / 1000:Nat):Int),((c % 1000:Nat):Int)]
def Zn4 (h:kP c=kP d):c=d:=by
 unfold kP at h
 injection h with h1 h2
 injection h2 with h2 _
 lia
theorem Zd9 {α:Type} [DecidableEq α]:∀ (l k:List α),l.Nodup->(∀ x∈l,x∈k)->l.length<=k.length
 | [],_,_,_=>Az _
 | x :: l,k,nd,h=>by
  obtain ⟨n1,n2⟩:=nodup_cons.mp nd;have hx:=h x mem_cons_self;have:=Zd9 l (k.erase x) n2 λy hy=>(mem_erase_of_ne (λz=>n1 (by rw [<- z]; exact hy))).mpr (h y (mem_cons_of_mem _ hy));rw [length_erase_of_mem hx] at this;have:=length_pos_of_mem hx;rw [length_cons];lia
section
variable {M:Lq} {f:Nat->Int} {n:Nat}
def eP (M:Lq) (f:Nat->Int) (D:List Nat):List Nat:=D.flatMap λd=>[d,sgP M f d]
structure PrD (M:Lq) (f:Nat->Int) (D:List Nat):Prop where
 nd:(eP M f D).Nodup
 ok:∀ d∈D,VpP M f d
def PrD.nil:PrD M f []:=⟨by simp [eP],λd hd=>absurd hd not_mem_nil⟩
def Fam.self (h:Fam M f n) (hs:sF f M.length<=1200) (v:VpP M f d):d∈f7 M f d:=Au (h.orb hs v).head
def Fam.prS (h:Fam M f n) (hs:sF f M.length<=1200) (hD:PrD M f D) (v:VpP M f c) (hn:¬ inS M f D c):PrD M f (D ++ [c]):=by
 refine ⟨?_,λd hd=>?_⟩
 ·unfold eP
  rw [flatMap_append,nodup_append];refine ⟨hD.nd,?_,λa ha b hb z=>?_⟩
  ·rw [flatMap_singleton]
   simp [(h.sg_ne v).symm]
  ·rw [flatMap_singleton] at hb
   subst z;obtain ⟨d,hd,hm⟩:=mem_flatMap.mp ha;have vd:=hD.ok d hd;have self:=h.self hs vd;simp only [mem_cons,not_mem_nil,or_false] at hm hb;apply hn
   rcases hm with rfl | rfl
   ·rcases hb with rfl | e
    ·exact ⟨_,hd,.inl self⟩
    ·exact ⟨_,hd,.inr (by rw [<- e]; exact self)⟩
   ·rcases hb with e | e
    ·exact ⟨_,hd,.inr (by rw [<- e,h.sgsg vd]; exact self)⟩
    ·refine ⟨_,hd,.inl ?_⟩
     have:=congrArg (sgP M f) e;rw [h.sgsg vd,h.sgsg v] at this;rw [<- this];exact self
 ·rcases mem_append.mp hd with z | z
  ·exact hD.ok d z
  ·rw [Af z]; exact v
def Zn8 (D:List Nat):(eP M f D).length=2 * D.length:=by
 induction D with
 | nil=>rfl
 | cons d D ih =>
  unfold eP at ih ⊢;rw [flatMap_cons,Ae,ih];simp only [length_cons,length_nil];lia
def Fam.prL (h:Fam M f n) (hs:sF f M.length<=1200) {D:List Nat} (hD:PrD M f D):D.length<=600:=by
 have:=h.few hs hD.nd λc hc=>by
  obtain ⟨d,hd,hm⟩:=mem_flatMap.mp hc;simp only [mem_cons,not_mem_nil,or_false] at hm
  rcases hm with rfl | rfl
  ·exact hD.ok _ hd
  ·exact h.sgV (hD.ok _ hd)
 rw [Zn8] at this;lia
def Fam.sg_key (h:Fam M f n) (v:VpP M f c) (hq:M[c / 1000]?=some (some q)):[((q:Nat):Int),f (c / 1000) - 1 - ((c % 1000:Nat):Int)]=kP (sgP M f c):=by
 obtain ⟨q',e1,e2,v2,_,e5,_⟩:=h.sg v;rw [hq] at e1;cases e1;obtain ⟨v1,v3⟩:=id v;obtain ⟨f1,f2⟩:=h.nf v1;have d:=Xo (p:=q) (s:=nN f (c / 1000) - 1 - c % 1000) (by lia);unfold kP;rw [e2,d.1,d.2];congr 2;lia
def Fam.tu_key (h:Fam M f n) (v:VpP M f c):(if ((c % 1000:Nat):Int) < (f (bN (c / 1000)) + f (c / 1000) - f (aN (c / 1000))) / 2 then [((bN (c / 1000):Nat):Int),f (bN (c / 1000)) - 1 - ((c % 1000:Nat):Int)] else [((aN (c / 1000):Nat):Int),f (c / 1000) - 1 - ((c % 1000:Nat):Int)])=kP (tuP f c):=by
 obtain ⟨v1,v2⟩:=v;generalize hp:c / 1000=p at *;generalize hs:c % 1000=e at *;obtain ⟨d1,d2,d3,d4,d5,d6,d7,d8,d9⟩:=X5 p;have ha:aN p < M.length:=by have:=h.hn; lia
 have hb:bN p < M.length:=by have:=h.hn; lia
 obtain ⟨f1,f2⟩:=h.nf v1;obtain ⟨f3,f4⟩:=h.nf ha;obtain ⟨f5,f6⟩:=h.nf hb;have ev:=h.pc.even p v1;have t1:=h.pc.tri p v1;by_cases c1:(e:Int) < (f (bN p) + f p - f (aN p)) / 2
 ·have e1:tuP f c=1000 * bN p + (nN f (bN p) - 1 - e):=by unfold tuP; rw [hp,hs,if_pos c1]
  have dd:=Xo (p:=bN p) (s:=nN f (bN p) - 1 - e) (by lia);unfold kP;rw [if_pos c1,e1,dd.1,dd.2];congr 2;lia
 ·have e1:tuP f c=1000 * aN p + (nN f p - 1 - e):=by unfold tuP; rw [hp,hs,if_neg c1]
  have dd:=Xo (p:=aN p) (s:=nN f p - 1 - e) (by lia);unfold kP;rw [if_neg c1,e1,dd.1,dd.2];congr 2;lia
def Fam.sides (h:Fam M f n) (hp:p < M.length):aN p < M.length/\bN p < M.length:=by
 obtain ⟨d1,d2,_⟩:=X5 p;have:=h.hn;lia
def Wt (M:Lq) (f:Nat->Int) (D os:List Nat) (c:Nat):Prop:=inS M f D c\/c∈os\/sgP M f c∈os
structure SeenK (M:Lq) (f:Nat->Int) (S:Nat->Prop) (ks:List (List Int)):Prop where
 nd:ks.Nodup
 sub:∀ k∈ks,∃ c,VpP M f c/\k=kP c
 mem:∀ c,VpP M f c->(kP c∈ks ↔ S c)
def Fam.seen_len (h:Fam M f n) (hs:sF f M.length<=1200) {ks:List (List Int)} (hk:SeenK M f S ks):ks.length<=1200:=by
 have h1:=Zd9 ks ((ptsL f M.length).map kP) hk.nd λk hm=>by
  obtain ⟨c,v,rfl⟩:=hk.sub k hm;exact mem_map_of_mem (h.pts_mem.mpr v)
 have h2:=Va f M.length h.pc.nn;rw [Ab] at h1;lia
def SeenK.cong (hk:SeenK M f S ks) (e:∀ c,VpP M f c->(S c ↔ S' c)):SeenK M f S' ks:=⟨hk.nd,hk.sub,λc v=>(hk.mem c v).trans (e c v)⟩
def SeenK.old {S:Nat->Prop} {ks:List (List Int)} {d:Nat} (hk:SeenK M f S ks) (hm:kP d∈ks):SeenK M f (λc=>S c\/c=d) ks:=⟨hk.nd,hk.sub,λc v=>by
 rw [hk.mem c v];constructor
 ·exact .inl
 ·rintro (z | rfl)
  ·exact z
  ·exact (hk.mem c v).mp hm⟩
def SeenK.snoc (hk:SeenK M f S ks) (vd:VpP M f d) (hm:kP d ∉ ks):SeenK M f (λc=>S c\/c=d) (ks ++ [kP d]):=by
 refine ⟨?_,λk i9=>?_,λc v=>?_⟩
 ·rw [nodup_append]
  refine ⟨hk.nd,by simp,λa ha b hb z=>?_⟩;rw [Af hb] at z;rw [z] at ha;exact hm ha
 ·rcases mem_append.mp i9 with z | z
  ·exact hk.sub k z
  ·exact ⟨d,vd,Af z⟩
 ·rw [mem_append,hk.mem c v,mem_singleton]
  constructor
  ·rintro (z | z)
   ·exact .inl z
   ·exact .inr (Zn4 z)
  ·rintro (z | rfl)
   ·exact .inl z
   ·exact .inr Y
def SeenK.nil:SeenK M f (λc=>Wt M f [] [] c) []:=⟨by simp,λk hk=>absurd hk not_mem_nil,λc _=>by
 constructor
 ·intro z; exact absurd z not_mem_nil
 ·rintro (⟨d,hd,_⟩ | z | z)
  ·exact absurd hd not_mem_nil
  ·exact absurd z not_mem_nil
  ·exact absurd z not_mem_nil⟩
def Fam.seen_two (h:Fam M f n) {D os:List Nat} {d:Nat} (vd:VpP M f d) {ks:List (List Int)} (hk:SeenK M f (λc=>(Wt M f D os c\/c=d)\/c=sgP M f d) ks):SeenK M f (Wt M f D (os ++ [d])) ks:=hk.cong λc v=>by
 have e:sgP M f c=d ↔ c=sgP M f d:=by
  constructor
  ·intro z; rw [<- z,h.sgsg v]
  ·intro z; rw [z,h.sgsg vd]
 unfold Wt;simp only [mem_append,mem_singleton,e];constructor
 ·rintro (((z | z | z) | z) | z)
  ·exact .inl z
  ·exact .inr (.inl (.inl z))
  ·exact .inr (.inr (.inl z))
  ·exact .inr (.inl (.inr z))
  ·exact .inr (.inr (.inr z))
 ·rintro (z | (z | z) | z | z)
  ·exact .inl (.inl (.inl z))
  ·exact .inl (.inl (.inr (.inl z)))
  ·exact .inl (.inr z)
  ·exact .inl (.inl (.inr (.inr z)))
  ·exact .inr z
def Zi2 {D os:List Nat} {d:Nat} {ks:List (List Int)} (o:OrbEnd (RnP M f) d os) (hk:SeenK M f (Wt M f D os) ks):SeenK M f (Wt M f (D ++ [d]) []) ks:=hk.cong λc v=>by
 unfold Wt inS;have e:=Jk o;constructor
 ·rintro (⟨x,hx,z⟩ | z)
  ·exact .inl ⟨x,mem_append_left _ hx,z⟩
  ·exact .inl ⟨d,mem_append_right _ mem_cons_self,by rw [e]; exact z⟩
 ·rintro (⟨x,hx,z⟩ | z | z)
  ·rcases mem_append.mp hx with y | y
   ·exact .inl ⟨x,y,z⟩
   ·rw [Af y,e] at z; exact .inr z
  ·exact absurd z not_mem_nil
  ·exact absurd z not_mem_nil
def Zop:Wt M f D [] c ↔ inS M f D c:=by
 unfold Wt;simp
def Off (a b:Addr) (H H':Hp):Prop:=∀ x o,x≠a->x≠b->H x=some o->H' x=some o
def Off.refl:Off a b H H:=λ_ _ _ _ h=>h
def Off.trans (s:Off a b H H1) (s':Off a b H1 H2):Off a b H H2:=λx o h1 h2 h=>s' x o h1 h2 (s x o h1 h2 h)
def Off.of (s:Same H H1):Off a b H H1:=λx o _ _ h=>s x o h
def Off.a {a b:Addr} {H H1:Hp} {o:HO} (s:Off a b H H1):Off a b H (upd H1 a o):=λx u h1 h2 h=>by rw [Ze h1]; exact s x u h1 h2 h
def Off.b {a b:Addr} {H H1:Hp} {o:HO} (s:Off a b H H1):Off a b H (upd H1 b o):=λx u h1 h2 h=>by rw [Ze h2]; exact s x u h1 h2 h
def Off.same {a b:Addr} {H0 H H':Hp} (s:Off a b H H') (s0:Same H0 H) (ha:H0 a=none) (hb:H0 b=none):Same H0 H':=λx u e=>s x u (λz=>by rw [z,ha] at e; cases e) (λz=>by rw [z,hb] at e; cases e) (s0 x u e)
def Fam.mono (h:Fam M f n) (v:VpP M f x) (v':VpP M f x') (e:x / 1000=x' / 1000) (e2:nxP M f x / 1000=nxP M f x' / 1000) (lt:x % 1000 < x' % 1000):nxP M f x % 1000 < nxP M f x' % 1000:=by
 obtain ⟨q,m1,g1,w1,_,d1,_⟩:=h.sg v;obtain ⟨q',m2,g2,w2,_,d2,_⟩:=h.sg v';rw [<- e,m1] at m2;cases m2;obtain ⟨v1,v2⟩:=id v;obtain ⟨v1',v2'⟩:=id v';rw [<- e] at v2' g2;obtain ⟨f1,f2⟩:=h.nf v1;have hq:q < M.length:=by rw [<- d1]; exact w1.1
 have t1:=h.tu_key w1;have t2:=h.tu_key w2;have r1:=Xo (p:=q) (s:=nN f (x / 1000) - 1 - x % 1000) (by lia);have r2:=Xo (p:=q) (s:=nN f (x / 1000) - 1 - x' % 1000) (by lia);rw [<- g1] at r1;rw [<- g2] at r2;rw [r1.1,r1.2] at t1;rw [r2.1,r2.2] at t2;obtain ⟨_,_,_,_,_,_,_,_,ab⟩:=X5 q;have k1:kP (tuP f (sgP M f x))=[((nxP M f x / 1000:Nat):Int),((nxP M f x % 1000:Nat):Int)]:=rfl;have k2:kP (tuP f (sgP M f x'))=[((nxP M f x' / 1000:Nat):Int),((nxP M f x' % 1000:Nat):Int)]:=rfl;rw [k1] at t1;rw [k2] at t2;by_cases c1:((nN f (x / 1000) - 1 - x % 1000:Nat):Int) < (f (bN q) + f q - f (aN q)) / 2
 ·rw [if_pos c1] at t1
  injection t1 with a1 a2
  injection a2 with a2 _
  by_cases c2:((nN f (x / 1000) - 1 - x' % 1000:Nat):Int) < (f (bN q) + f q - f (aN q)) / 2
  ·rw [if_pos c2] at t2
   injection t2 with b1 b2
   injection b2 with b2 _
   lia
  ·rw [if_neg c2] at t2
   injection t2 with b1 b2
   lia
 ·rw [if_neg c1] at t1
  injection t1 with a1 a2
  injection a2 with a2 _
  by_cases c2:((nN f (x / 1000) - 1 - x' % 1000:Nat):Int) < (f (bN q) + f q - f (aN q)) / 2
  ·rw [if_pos c2] at t2
   injection t2 with b1 b2
   lia
  ·rw [if_neg c2] at t2
   injection t2 with b1 b2
   injection b2 with b2 _
   lia
def Fam.it_end (h:Fam M f n) {os:List Nat} (o:OrbEnd (RnP M f) c os):it (nxP M f) os.length c=c:=by
 obtain ⟨l,hl,r⟩:=o.last;have hp:=o.pos;have:=Wl o.toOrb _ _ hl;rw [show os.length=(os.length - 1) + 1 by lia];show nxP M f (it (nxP M f) (os.length - 1) c)=c;rw [<- this];exact r.2
theorem Qk (h:it g N c=c):∀ k,it g (k + N) c=it g k c
 | 0=>by rw [Nat.zero_add]; exact h
 | k + 1=>by
  rw [show k + 1 + N=(k + N) + 1 by lia];show g (it g (k + N) c)=g (it g k c);rw [Qk h k]
theorem Od (h:it g N c=c):∀ m k,it g (k + m * N) c=it g k c
 | 0,k=>by rw [Nat.zero_mul]; rfl
 | m + 1,k=>by
  rw [show k + (m + 1) * N=(k + m * N) + N by rw [succ_mul]; lia,Qk h,Od h m k]
def Fam.once (h:Fam M f n) (v:VpP M f c) {os:List Nat} (o:OrbEnd (RnP M f) c os) {e:Nat} (h1:1<=e) (h2:e < os.length) (hp:∀ k,it (nxP M f) (k + e) c / 1000=it (nxP M f) k c / 1000):False:=by
 have jd:=h.it_end o
 have up:∀ (a b:Nat),(∀ k,it (nxP M f) (k + a) c / 1000=it (nxP M f) (k + b) c / 1000)->it (nxP M f) a c % 1000 < it (nxP M f) b c % 1000->∀ k,it (nxP M f) (k + a) c % 1000 < it (nxP M f) (k + b) c % 1000:=λa b im h0 k=>by
  induction k with
  | zero=>rw [Nat.zero_add,Nat.zero_add]; exact h0
  | succ k ih =>
   have e1:=im k;have e2:=im (k + 1);rw [show k + 1 + a=(k + a) + 1 by lia,show k + 1 + b=(k + b) + 1 by lia] at e2 ⊢;exact h.mono (h.itV v _) (h.itV v _) e1 e2 ih
 have hN:it (nxP M f) (os.length * e) c=c:=by
  have:=Od jd e 0;rwa [Nat.zero_add,Nat.mul_comm,show it (nxP M f) 0 c=c from rfl] at this
 have ne:it (nxP M f) e c≠c:=λz=>by
  have g1:os[e]?=some (os[e]):=Ac h2;have g0:=o.head;have:=Wl o.toOrb e _ g1;rw [z] at this;have hp0:=o.pos;have g0':os[0]=c:=(Aa g0).2;have:=(getElem_inj o.nodup).mp (this.trans g0'.symm);lia
 have g8:=hp 0;rw [Nat.zero_add] at g8;have e0:it (nxP M f) 0 c=c:=rfl;rw [e0] at g8
 rcases Nat.lt_trichotomy (it (nxP M f) e c % 1000) (c % 1000) with z | z | z
 ·have u:=up e 0 (λk=>by rw [Nat.add_zero]; exact hp k) (by rw [e0]; exact z)
  have go:∀ m,it (nxP M f) (m * e) c % 1000 + m<=c % 1000:=λm=>by
   induction m with
   | zero=>rw [Nat.zero_mul,e0]; exact An _
   | succ m ih =>
    have:=u (m * e);rw [Nat.add_zero] at this;rw [succ_mul];lia
  have:=go os.length;rw [hN] at this;have:=o.pos;lia
 ·exact ne (by lia)
 ·have u:=up 0 e (λk=>by rw [Nat.add_zero]; exact (hp k).symm) (by rw [e0]; exact z)
  have go:∀ m,c % 1000 + m<=it (nxP M f) (m * e) c % 1000:=λm=>by
   induction m with
   | zero=>rw [Nat.zero_mul,e0]; exact An _
   | succ m ih =>
    have:=u (m * e);rw [Nat.add_zero] at this;rw [succ_mul];lia
  have:=go os.length;rw [hN] at this;have:=o.pos;lia
theorem Fam.inS_it (h:Fam M f n) (hs:sF f M.length<=1200) (hD:∀ d∈D,VpP M f d) (v:VpP M f c):∀ k,inS M f D (it (nxP M f) k c)->inS M f D c
 | 0,z=>z
 | k + 1,z=>h.inS_it hs hD v k (h.back hs hD (h.itV v k) z)
def Fam.inS_sg (h:Fam M f n) (v:VpP M f x):inS M f D (sgP M f x) ↔ inS M f D x:=by
 unfold inS;rw [h.sgsg v];constructor
 ·rintro ⟨d,hd,z | z⟩
  ·exact ⟨d,hd,.inr z⟩
  ·exact ⟨d,hd,.inl z⟩
 ·rintro ⟨d,hd,z | z⟩
  ·exact ⟨d,hd,.inr z⟩
  ·exact ⟨d,hd,.inl z⟩
noncomputable def allP (M:Lq) (f:Nat->Int) (D:List Nat):List Nat:=D.flatMap λd=>f7 M f d ++ (f7 M f d).map (sgP M f)
def Fam.allV (h:Fam M f n) (hs:sF f M.length<=1200) (hD:∀ d∈D,VpP M f d) (hx:x∈allP M f D):VpP M f x:=by
 obtain ⟨d,hd,hm⟩:=mem_flatMap.mp hx;have o:=h.orb hs (hD d hd)
 rcases mem_append.mp hm with z | z
 ·exact h.orbV (hD d hd) o.toOrb x z
 ·obtain ⟨y,hy,rfl⟩:=mem_map.mp z
  exact h.sgV (h.orbV (hD d hd) o.toOrb y hy)
def Fam.all_mem (h:Fam M f n) (hs:sF f M.length<=1200) (hD:∀ d∈D,VpP M f d) (v:VpP M f x):x∈allP M f D ↔ inS M f D x:=by
 unfold allP inS;rw [mem_flatMap];constructor
 ·rintro ⟨d,hd,hm⟩
  refine ⟨d,hd,?_⟩
  rcases mem_append.mp hm with z | z
  ·exact .inl z
  ·obtain ⟨y,hy,rfl⟩:=mem_map.mp z
   have:=h.orbV (hD d hd) (h.orb hs (hD d hd)).toOrb y hy;exact .inr (by rw [h.sgsg this]; exact hy)
 ·rintro ⟨d,hd,z | z⟩
  ·exact ⟨d,hd,mem_append_left _ z⟩
  ·exact ⟨d,hd,mem_append_right _ (mem_map.mpr ⟨_,z,h.sgsg v⟩)⟩
theorem J2:∀ {l:List Nat},l.Nodup->(∀ a∈l,∀ b∈l,g a=g b->a=b)->(l.map g).Nodup
 | [],_,_=>nodup_nil
 | a :: l,nd,hi=>by
  obtain ⟨n1,n2⟩:=nodup_cons.mp nd;rw [map_cons,nodup_cons];refine ⟨λhm=>?_,J2 n2 λx hx y hy=>hi x (mem_cons_of_mem _ hx) y (mem_cons_of_mem _ hy)⟩;obtain ⟨b,hb,e⟩:=mem_map.mp hm;have:=hi b (mem_cons_of_mem _ hb) a mem_cons_self e;exact n1 (by rw [<- this]; exact hb)
def Fam.one_nd (h:Fam M f n) (hs:sF f M.length<=1200) (v:VpP M f c):(f7 M f c ++ (f7 M f c).map (sgP M f)).Nodup:=by
 have o:=h.orb hs v;have hV:=h.orbV v o.toOrb;rw [nodup_append];refine ⟨o.nodup,J2 o.nodup λa ha b hb e=>?_,λa ha b hb z=>?_⟩
 ·have:=congrArg (sgP M f) e
  rwa [h.sgsg (hV a ha),h.sgsg (hV b hb)] at this
 ·obtain ⟨y,hy,rfl⟩:=mem_map.mp hb
  obtain ⟨i,hi,ei⟩:=mem_iff_getElem.mp ha;obtain ⟨j,hj,ej⟩:=mem_iff_getElem.mp hy;have ea:=Wl o.toOrb i a (by rw [Ac hi,ei]);have ey:=Wl o.toOrb j y (by rw [Ac hj,ej]);have vy:=hV y hy;have jd:=h.it_end o;have e1:a=it (nxP M f) (i + (f7 M f c).length - j) y:=by
   rw [ey,<- Vj,show i + (f7 M f c).length - j + j=i + (f7 M f c).length by lia,Qk jd]
   exact ea
  exact h.apart vy _ (z.symm.trans e1)
theorem Fam.all_nd (h:Fam M f n) (hs:sF f M.length<=1200):∀ (l D:List Nat),(∀ d∈D,VpP M f d)->(allP M f D).Nodup->(∀ c∈l,VpP M f c)->(allP M f (gT M f l D)).Nodup/\(∀ d∈gT M f l D,VpP M f d)/\(∀ x,inS M f D x->inS M f (gT M f l D) x)/\∀ x∈l,inS M f (gT M f l D) x
 | [],D,hD,nd,_=>⟨nd,hD,λ_ z=>z,λx hx=>absurd hx not_mem_nil⟩
 | c :: l,D,hD,nd,hv=>by
  have vc:=hv c mem_cons_self;have ze:=λx hx=>hv x (mem_cons_of_mem _ hx);unfold gT;by_cases z:inS M f D c
  ·rw [if_pos z]
   obtain ⟨a1,a2,a3,a4⟩:=h.all_nd hs l D hD nd ze;refine ⟨a1,a2,a3,λx hx=>?_⟩
   rcases Ar hx with rfl | y
   ·exact a3 _ z
   ·exact a4 x y
  ·rw [if_neg z]
   have hD':∀ d∈D ++ [c],VpP M f d:=λd hd=>by
    rcases mem_append.mp hd with y | y
    ·exact hD d y
    ·rw [Af y]; exact vc
   have nd':(allP M f (D ++ [c])).Nodup:=by
    unfold allP;rw [flatMap_append,nodup_append,flatMap_singleton];refine ⟨nd,h.one_nd hs vc,λa ha b hb e=>?_⟩;subst e;have va:=h.allV hs hD ha;have ia:=(h.all_mem hs hD va).mp ha;have o:=h.orb hs vc;apply z;have key:∀ y∈f7 M f c,inS M f D y->inS M f D c:=λy hy iy=>by
     obtain ⟨i,hi,ei⟩:=mem_iff_getElem.mp hy
     have:=Wl o.toOrb i y (by rw [Ac hi,ei])
     rw [this] at iy
     exact h.inS_it hs hD vc i iy
    rcases mem_append.mp hb with y | y
    ·exact key a y ia
    ·obtain ⟨y',jq,e'⟩:=mem_map.mp y
     have vy:=h.orbV vc o.toOrb y' jq;rw [<- e'] at ia;exact key y' jq ((h.inS_sg vy).mp ia)
   obtain ⟨a1,a2,a3,a4⟩:=h.all_nd hs l (D ++ [c]) hD' nd' ze;have mono:∀ x,inS M f D x->inS M f (D ++ [c]) x:=λx ⟨d,hd,y⟩=>⟨d,mem_append_left _ hd,y⟩;refine ⟨a1,a2,λx hx=>a3 x (mono x hx),λx hx=>?_⟩
   rcases Ar hx with rfl | y
   ·exact a3 _ ⟨x,mem_append_right _ mem_cons_self,.inl (h.self hs vc)⟩
   ·exact a4 x y
theorem W4:∀ {l:List Nat},l.Nodup->(l.filter p).Nodup
 | [],_=>nodup_nil
 | a :: l,nd=>by
  obtain ⟨n1,n2⟩:=nodup_cons.mp nd;rw [filter_cons];by_cases c:p a=true
  ·rw [if_pos c,nodup_cons]
   exact ⟨λhm=>n1 (mem_filter.mp hm).1,W4 n2⟩
  ·rw [if_neg c]; exact W4 n2
def Znf (p:Nat):∀ k,((List.range k).map λs=>1000 * p + s).Nodup:=λk=>J2 nodup_range λa _ b _ e=>by lia
def Fam.all_at (h:Fam M f n) (hs:sF f M.length<=1200) (hp:p < M.length):(allP M f (gT M f (ptsL f M.length) [])).countP (λx=>decide (x / 1000=p))=nN f p:=by
 obtain ⟨a1,a2,_,a4⟩:=h.all_nd hs (ptsL f M.length) [] (λd hd=>absurd hd not_mem_nil) nodup_nil λc hc=>h.pts_mem.mp hc;obtain ⟨f1,f2⟩:=h.nf hp;rw [countP_eq_length_filter];have l1:((List.range (nN f p)).map λs=>1000 * p + s).length=nN f p:=by rw [Ab,length_range]
 apply Nat.le_antisymm
 ·rw [<- l1]
  refine Qs _ _ (W4 a1) λx hx=>?_;obtain ⟨h1,h2⟩:=mem_filter.mp hx;have v:=h.allV hs a2 h1;have e:=of_decide_eq_true h2;obtain ⟨v1,v2⟩:=v;rw [e] at v2;exact mem_map.mpr ⟨x % 1000,mem_range.mpr v2,by lia⟩
 ·rw [<- l1]
  refine Qs _ _ (Znf p _) λx hx=>?_;obtain ⟨s,g7,rfl⟩:=mem_map.mp hx;have g7:=mem_range.mp g7;have d:=Xo (p:=p) (s:=s) (by lia);have v:VpP M f (1000 * p + s):=by unfold VpP; rw [d.1,d.2]; exact ⟨hp,g7⟩
  exact mem_filter.mpr ⟨(h.all_mem hs a2 v).mpr (a4 _ (h.pts_mem.mpr v)),decide_eq_true d.1⟩
def Fam.one_at (h:Fam M f n) (v:VpP M f c) {os:List Nat} (hV:∀ x∈os,VpP M f x) (p:Nat):(os ++ os.map (sgP M f)).countP (λx=>decide (x / 1000=p))=crN M (os.map (· / 1000)) p:=by
 unfold crN;rw [countP_append,countP_map,countP_map]
 induction os with
 | nil=>rfl
 | cons x os ih =>
  have ih:=ih λy hy=>hV y (mem_cons_of_mem _ hy);obtain ⟨q,m1,_,_,_,d1,d2⟩:=h.sg (hV x mem_cons_self);rw [countP_cons,countP_cons,countP_cons,<- ih];have e:mtN M (x / 1000)=q:=Ja m1;simp only [Function.comp_apply,e,d1,decide_eq_true_eq];by_cases c1:x / 1000=p
  ·have c2:¬ q=p:=λz=>d2 (z.trans c1.symm)
   simp only [c1,c2,if_true,if_false,true_or];lia
  ·by_cases c2:q=p
   ·simp only [c1,c2,if_true,if_false,or_true]
    lia
   ·simp only [c1,c2,if_false,or_false]
    lia
theorem Ov:∀ D:List Nat,(D.flatMap g).countP p=(D.map λd=>(g d).countP p).sum
 | []=>rfl
 | d :: D=>by rw [flatMap_cons,countP_append,map_cons,sum_cons,Ov D]
def Fam.cross (h:Fam M f n) (hs:sF f M.length<=1200) (hp:p < M.length):(((gT M f (ptsL f M.length) []).map λd=>crN M (wdP M f d) p).sum:Nat)=nN f p:=by
 obtain ⟨a1,a2,_,a4⟩:=h.all_nd hs (ptsL f M.length) [] (λd hd=>absurd hd not_mem_nil) nodup_nil λc hc=>h.pts_mem.mp hc;rw [<- h.all_at hs hp];unfold allP;rw [Ov];congr 1;apply map_congr_left;intro d hd;unfold wdP;exact (h.one_at (a2 d hd) (h.orbV (a2 d hd) (h.orb hs (a2 d hd)).toOrb) p).symm
theorem G2:∀ {l k:List Nat},l.Nodup->k.Nodup->(∀ x,x∈l ↔ x∈k)->l.Perm k
 | [],k,_,_,h=>by
  cases k with
  | nil=>exact .refl _
  | cons a k=>exact absurd ((h a).mpr mem_cons_self) not_mem_nil
 | a :: l,k,n1,n2,h=>by
  obtain ⟨m1,m2⟩:=nodup_cons.mp n1;have ha:=(h a).mp mem_cons_self;refine (List.Perm.cons a (G2 m2 (n2.erase a) λx=>?_)).trans (perm_cons_erase ha).symm;rw [n2.mem_erase_iff];constructor
  ·intro hx
   exact ⟨λz=>m1 (by rw [<- z]; exact hx),(h x).mp (mem_cons_of_mem _ hx)⟩
  ·rintro ⟨z,hx⟩
   rcases Ar ((h x).mpr hx) with y | y
   ·exact absurd y z
   ·exact y
def V1 {A:List Nat} [DecidablePred p] [DecidablePred q] (h:∀ x∈A,p x ↔ q x):A.countP (λx=>decide (p x))=A.countP (λx=>decide (q x)):=countP_congr λx hx=>by rw [decide_eq_true_eq,decide_eq_true_eq]; exact h x hx
def Vm {A:List Nat} [DecidablePred p] [DecidablePred q] [DecidablePred r] (h:∀ x∈A,p x ↔ q x\/r x) (hd:∀ x∈A,q x->¬ r x):A.countP (λx=>decide (p x))=A.countP (λx=>decide (q x)) + A.countP (λx=>decide (r x)):=by
 induction A with
 | nil=>rfl
 | cons a A ih =>
  have ih:=ih (λx hx=>h x (mem_cons_of_mem _ hx)) (λx hx=>hd x (mem_cons_of_mem _ hx));rw [countP_cons,countP_cons,countP_cons,ih];have h1:=h a mem_cons_self;have h2:=hd a mem_cons_self;simp only [decide_eq_true_eq];by_cases c1:q a
  ·have c2:=h2 c1
   simp only [h1.mpr (.inl c1),c1,c2,if_true,if_false];lia
  ·by_cases c2:r a
   ·simp only [h1.mpr (.inr c2),c1,c2,if_true,if_false]
    lia
   ·have c3:¬ p a:=λz=>by rcases h1.mp z with y | y; exact c1 y; exact c2 y
    simp only [c1,c2,c3,if_false];lia
structure Sb (M:Lq) (f:Nat->Int) (A:List Nat):Prop where
 nd:A.Nodup
 ok:∀ x∈A,VpP M f x
 sg:∀ x∈A,sgP M f x∈A
 tu:∀ x∈A,tuP f x∈A
variable {A:List Nat}
def Fam.by_sg (h:Fam M f n) (s:Sb M f A) (p:Nat->Prop) [DecidablePred p]:A.countP (λx=>decide (p (sgP M f x)))=A.countP (λx=>decide (p x)):=by
 have pm:(A.map (sgP M f)).Perm A:=G2 (J2 s.nd λa ha b hb e=>by
   have:=congrArg (sgP M f) e
   rwa [h.sgsg (s.ok a ha),h.sgsg (s.ok b hb)] at this) s.nd λx=>by
  constructor
  ·intro hx
   obtain ⟨y,hy,rfl⟩:=mem_map.mp hx;exact s.sg y hy
  ·intro hx
   exact mem_map.mpr ⟨sgP M f x,s.sg x hx,h.sgsg (s.ok x hx)⟩
 have:=pm.countP_eq (λx=>decide (p x));rw [countP_map] at this;exact this
def Fam.by_tu (h:Fam M f n) (s:Sb M f A) (p:Nat->Prop) [DecidablePred p]:A.countP (λx=>decide (p (tuP f x)))=A.countP (λx=>decide (p x)):=by
 have pm:(A.map (tuP f)).Perm A:=G2 (J2 s.nd λa ha b hb e=>by
   have:=congrArg (tuP f) e
   rwa [(h.tu (s.ok a ha)).2.1,(h.tu (s.ok b hb)).2.1] at this) s.nd λx=>by
  constructor
  ·intro hx
   obtain ⟨y,hy,rfl⟩:=mem_map.mp hx;exact s.tu y hy
  ·intro hx
   exact mem_map.mpr ⟨tuP f x,s.tu x hx,(h.tu (s.ok x hx)).2.1⟩
 have:=pm.countP_eq (λx=>decide (p x));rw [countP_map] at this;exact this
def fA (A:List Nat) (p:Nat):Nat:=A.countP λx=>decide (x / 1000=p)
def tbP (f:Nat->Int) (p:Nat):Int:=(f (bN p) + f p - f (aN p)) / 2
def kA (f:Nat->Int) (A:List Nat) (p:Nat):Nat:=A.countP λx=>decide (x / 1000=p/\((x % 1000:Nat):Int) < tbP f p)
def rkA (A:List Nat) (x:Nat):Nat:=A.countP λy=>decide (y / 1000=x / 1000/\y % 1000 < x % 1000)
def Zfd {A:List Nat} (nd:A.Nodup) (hx:x∈A):fA A (x / 1000)=rkA A x + 1 + A.countP λy=>decide (y / 1000=x / 1000/\x % 1000 < y % 1000):=by
 have e1:A.countP (λy=>decide (y=x))=1:=by
  rw [countP_eq_length_filter];apply Nat.le_antisymm
  ·refine Qs _ [x] (W4 nd) λy hy=>?_
   rw [of_decide_eq_true (mem_filter.mp hy).2];exact mem_cons_self
  ·exact length_pos_of_mem (mem_filter.mpr ⟨hx,decide_eq_true Y⟩)
 unfold fA rkA;rw [Vm (q:=λy=>y / 1000=x / 1000/\y % 1000 < x % 1000) (r:=λy=>y=x\/(y / 1000=x / 1000/\x % 1000 < y % 1000)) (λy _=>by lia) (λy _=>by lia),Vm (p:=λy=>y=x\/(y / 1000=x / 1000/\x % 1000 < y % 1000)) (q:=λy=>y=x) (r:=λy=>y / 1000=x / 1000/\x % 1000 < y % 1000) (λy _=>Iff.rfl) (λy _=>by lia),e1];lia
end
section
variable {M:Lq} {f:Nat->Int} {n:Nat} {A:List Nat}
def bkP (f:Nat->Int) (x:Nat):Prop:=((x % 1000:Nat):Int) < tbP f (x / 1000)
instance (f:Nat->Int) (x:Nat):Decidable (bkP f x):=by unfold bkP; exact inferInstance
def Fam.tie (h:Fam M f n) (v:VpP M f x):(bkP f x->tuP f x / 1000=bN (x / 1000)/\((tuP f x % 1000:Nat):Int)=f (bN (x / 1000)) - 1 - ((x % 1000:Nat):Int)/\¬ bkP f (tuP f x))/\(¬ bkP f x->tuP f x / 1000=aN (x / 1000)/\((tuP f x % 1000:Nat):Int)=f (x / 1000) - 1 - ((x % 1000:Nat):Int)/\bkP f (tuP f x)):=by
 have tk:=h.tu_key v;have kk:kP (tuP f x)=[((tuP f x / 1000:Nat):Int),((tuP f x % 1000:Nat):Int)]:=rfl;rw [kk] at tk;obtain ⟨v1,v2⟩:=id v;obtain ⟨d1,d2,d3,d4,d5,d6,d7,d8,d9⟩:=X5 (x / 1000);have ev:=h.pc.even _ v1;refine ⟨λb=>?_,λb=>?_⟩
 ·have b':((x % 1000:Nat):Int) < (f (bN (x / 1000)) + f (x / 1000) - f (aN (x / 1000))) / 2:=b
  rw [if_pos b'] at tk
  injection tk with a1 a2
  injection a2 with a2 _
  have e1:tuP f x / 1000=bN (x / 1000):=by lia
  refine ⟨e1,a2.symm,λc=>?_⟩;have c':((tuP f x % 1000:Nat):Int) < (f (bN (tuP f x / 1000)) + f (tuP f x / 1000) - f (aN (tuP f x / 1000))) / 2:=c;rw [e1,d5,d6] at c';lia
 ·have b':¬ ((x % 1000:Nat):Int) < (f (bN (x / 1000)) + f (x / 1000) - f (aN (x / 1000))) / 2:=b
  rw [if_neg b'] at tk
  injection tk with a1 a2
  injection a2 with a2 _
  have e1:tuP f x / 1000=aN (x / 1000):=by lia
  refine ⟨e1,a2.symm,?_⟩;show ((tuP f x % 1000:Nat):Int) < (f (bN (tuP f x / 1000)) + f (tuP f x / 1000) - f (aN (tuP f x / 1000))) / 2;rw [e1,d3,d4];lia
def Fam.two (h:Fam M f n) (s:Sb M f A) (p:Nat):fA A p=kA f A p + kA f A (aN p):=by
 obtain ⟨d1,d2,d3,d4,d5,d6,d7,d8,d9⟩:=X5 p;have e:=h.by_tu s (λy=>y / 1000=aN p/\((y % 1000:Nat):Int) < tbP f (aN p));unfold fA;rw [Vm (q:=λx=>x / 1000=p/\((x % 1000:Nat):Int) < tbP f p) (r:=λx=>x / 1000=p/\¬ ((x % 1000:Nat):Int) < tbP f p) (λx _=>by lia) (λx _=>by lia)];unfold kA;rw [<- e];congr 1;refine V1 λx hx=>?_;have v:=s.ok x hx;obtain ⟨t1,t2⟩:=h.tie v;have v':=(h.tu v).1;obtain ⟨t3,t4⟩:=h.tie v';rw [(h.tu v).2.1] at t3 t4;constructor
 ·rintro ⟨e1,e2⟩
  have nb:¬ bkP f x:=by unfold bkP; rw [e1]; exact e2
  obtain ⟨g1,g2,g3⟩:=t2 nb;rw [e1] at g1;refine ⟨g1,?_⟩;unfold bkP at g3;rwa [g1] at g3
 ·rintro ⟨e1,e2⟩
  have b:bkP f (tuP f x):=by unfold bkP; rw [e1]; exact e2
  obtain ⟨g1,g2,g3⟩:=t3 b;rw [e1,d4] at g1;refine ⟨g1,?_⟩;unfold bkP at g3;rwa [g1] at g3
def fI (A:List Nat) (p:Nat):Int:=((fA A p:Nat):Int)
def Zam (h:Fam M f n) (s:Sb M f A) (p:Nat):fA A p<=nN f p:=by
 unfold fA;rw [countP_eq_length_filter];have l1:((List.range (nN f p)).map λs=>1000 * p + s).length=nN f p:=by rw [Ab,length_range]
 rw [<- l1];refine Qs _ _ (W4 s.nd) λx hx=>?_;obtain ⟨h1,h2⟩:=mem_filter.mp hx;obtain ⟨v1,v2⟩:=s.ok x h1;have e:=of_decide_eq_true h2;rw [e] at v2;exact mem_map.mpr ⟨x % 1000,mem_range.mpr v2,by lia⟩
def Fam.sub (h:Fam M f n) (s:Sb M f A):Fam M (fI A) n:=by
 refine ⟨⟨λp _=>Int.natCast_nonneg _,λp hp=>?_,λp q hp=>?_,λp hp=>?_,λp hp=>?_⟩,h.inv,h.hn,λp hp=>?_⟩
 ·have:=Zam h s p
  have e:=h.pc.rim p hp;unfold fI nN at *;lia
 ·unfold fI
  congr 1;unfold fA;have e:=h.by_sg s (λy=>y / 1000=q);rw [<- e];refine V1 λx hx=>?_;obtain ⟨q',m1,_,w1,_,d1,_⟩:=h.sg (s.ok x hx);rw [d1];constructor
  ·rintro rfl
   have i1:=(h.inv _ _ m1).1;rw [(h.inv _ _ hp).1] at i1;cases i1;rfl
  ·intro z
   rw [z,hp] at m1;cases m1;rfl
 ·obtain ⟨d1,d2,d3,d4,d5,d6,d7,d8,d9⟩:=X5 p
  have t1:=h.two s p;have t2:=h.two s (aN p);have t3:=h.two s (bN p);rw [d3] at t2;rw [d5] at t3;unfold fI;lia
 ·obtain ⟨d1,d2,d3,d4,d5,d6,d7,d8,d9⟩:=X5 p
  have t1:=h.two s p;have t2:=h.two s (aN p);have t3:=h.two s (bN p);rw [d3] at t2;rw [d5] at t3;unfold fI;lia
 ·have:=Zam h s p
  have:=(h.nf hp).2;unfold fI;lia
def Fam.tb_sub (h:Fam M f n) (s:Sb M f A) (p:Nat):tbP (fI A) p=((kA f A p:Nat):Int):=by
 obtain ⟨d1,d2,d3,d4,d5,d6,d7,d8,d9⟩:=X5 p;have t1:=h.two s p;have t2:=h.two s (aN p);have t3:=h.two s (bN p);rw [d3] at t2;rw [d5] at t3;unfold tbP fI;lia
def rhP (A:List Nat) (x:Nat):Nat:=1000 * (x / 1000) + rkA A x
def K1 (p:Nat):nN (fI A) p=fA A p:=by unfold nN fI; lia
def Fam.rh (h:Fam M f n) (s:Sb M f A) (hx:x∈A):rhP A x / 1000=x / 1000/\rhP A x % 1000=rkA A x/\rkA A x < fA A (x / 1000):=by
 have h1:=Zfd s.nd hx;have h2:=Zam h s (x / 1000);have h3:=(h.nf (s.ok x hx).1).2;have d:=Xo (p:=x / 1000) (s:=rkA A x) (by lia);exact ⟨d.1,d.2,by lia⟩
def Fam.rhV (h:Fam M f n) (s:Sb M f A) (hx:x∈A):VpP M (fI A) (rhP A x):=by
 obtain ⟨h1,h2,h3⟩:=h.rh s hx;unfold VpP;rw [h1,h2,K1];exact ⟨(s.ok x hx).1,h3⟩
def Fam.rk_sg (h:Fam M f n) (s:Sb M f A) (hx:x∈A):rkA A (sgP M f x) + rkA A x + 1=fA A (x / 1000):=by
 have up:=Zfd s.nd hx;have v:=s.ok x hx;obtain ⟨q,m1,g1,w1,_,d1,_⟩:=h.sg v;have e:=h.by_sg s (λy=>y / 1000=q/\y % 1000 < sgP M f x % 1000)
 have e2:rkA A (sgP M f x)=A.countP λy=>decide (y / 1000=x / 1000/\x % 1000 < y % 1000):=by
  unfold rkA;rw [d1,<- e];refine V1 λy hy=>?_;have vy:=s.ok y hy;obtain ⟨q',m2,g2,w2,_,d2,_⟩:=h.sg vy;obtain ⟨x1,x2⟩:=id v;obtain ⟨y1,y2⟩:=id vy;have f1:=(h.nf x1).2;have f2:=(h.nf y1).2;have r1:=Xo (p:=q) (s:=nN f (x / 1000) - 1 - x % 1000) (by lia);have r2:=Xo (p:=q') (s:=nN f (y / 1000) - 1 - y % 1000) (by lia);rw [<- g1] at r1;rw [<- g2] at r2;rw [r1.2,r2.2,d2];constructor
  ·rintro ⟨rfl,z⟩
   have i1:=(h.inv _ _ m1).1;rw [(h.inv _ _ m2).1] at i1
   have e3:y / 1000=x / 1000:=by injection i1 with i1; injection i1
   rw [e3] at z y2;exact ⟨e3,by lia⟩
  ·rintro ⟨e3,z⟩
   rw [e3,m1] at m2;cases m2;rw [e3] at y2 ⊢;exact ⟨Y,by lia⟩
 lia
def Fam.rk_bk (h:Fam M f n) (s:Sb M f A) (hx:x∈A):bkP f x ↔ rkA A x < kA f A (x / 1000):=by
 unfold bkP;constructor
 ·intro b
  have e:=Vm (A:=A) (p:=λy=>y / 1000=x / 1000/\((y % 1000:Nat):Int) < tbP f (x / 1000)) (q:=λy=>y / 1000=x / 1000/\y % 1000 < x % 1000) (r:=λy=>y / 1000=x / 1000/\x % 1000<=y % 1000/\((y % 1000:Nat):Int) < tbP f (x / 1000)) (λy _=>by
   constructor
   ·rintro ⟨z1,z2⟩
    by_cases c:y % 1000 < x % 1000
    ·exact .inl ⟨z1,c⟩
    ·exact .inr ⟨z1,by lia,z2⟩
   ·rintro (⟨z1,z2⟩ | ⟨z1,z2,z3⟩)
    ·exact ⟨z1,by lia⟩
    ·exact ⟨z1,z3⟩) (λy _ z1 z2=>by lia);have pos:0 < A.countP λy=>decide (y / 1000=x / 1000/\x % 1000<=y % 1000/\((y % 1000:Nat):Int) < tbP f (x / 1000)):=countP_pos_iff.mpr ⟨x,hx,decide_eq_true ⟨rfl,An _,b⟩⟩;unfold rkA kA;lia
 ·intro lt
  by_cases b:((x % 1000:Nat):Int) < tbP f (x / 1000)
  ·exact b
  ·exfalso
   have:kA f A (x / 1000)<=rkA A x:=by
    unfold rkA kA;refine countP_mono_left λy hy z=>?_;rw [decide_eq_true_eq] at z ⊢;exact ⟨z.1,by have:=z.2; lia⟩
   lia
def Fam.rk_fw (h:Fam M f n) (s:Sb M f A) (hx:x∈A) (nb:¬ bkP f x):rkA A (tuP f x) + rkA A x + 1=fA A (x / 1000):=by
 have up:=Zfd s.nd hx;have v:=s.ok x hx;obtain ⟨t1,t2,t3⟩:=(h.tie v).2 nb;obtain ⟨d1,d2,d3,d4,d5,d6,d7,d8,d9⟩:=X5 (x / 1000);have e:=h.by_tu s (λy=>y / 1000=aN (x / 1000)/\y % 1000 < tuP f x % 1000);have e2:rkA A (tuP f x)=A.countP λy=>decide (y / 1000=x / 1000/\x % 1000 < y % 1000):=by
  unfold rkA
  rw [t1,<- e]
  refine V1 λy hy=>?_
  have vy:=s.ok y hy
  obtain ⟨y1,y2⟩:=h.tie vy
  have vt:=(h.tu vy).1
  obtain ⟨z1,z2⟩:=h.tie vt
  rw [(h.tu vy).2.1] at z1 z2
  constructor
  ·rintro ⟨e1,lt⟩
   have b:bkP f (tuP f y):=by
    unfold bkP at t3 ⊢
    rw [e1]
    rw [t1] at t3
    lia
   obtain ⟨g1,g2,g3⟩:=z1 b
   rw [e1,d4] at g1 g2
   exact ⟨g1,by lia⟩
  ·rintro ⟨e1,lt⟩
   have nb':¬ bkP f y:=by
    unfold bkP at nb ⊢
    rw [e1]
    lia
   obtain ⟨g1,g2,g3⟩:=y2 nb'
   rw [e1] at g1 g2
   exact ⟨g1,by lia⟩
 lia
def Fam.rk_tu (h:Fam M f n) (s:Sb M f A) (hx:x∈A) (b:bkP f x):rkA A (tuP f x) + rkA A x + 1=fA A (bN (x / 1000)):=by
 have v:=s.ok x hx;obtain ⟨t1,t2,t3⟩:=(h.tie v).1 b;have:=h.rk_fw s (s.tu x hx) t3;rw [(h.tu v).2.1,t1] at this;lia
def Fam.rh_sg (h:Fam M f n) (s:Sb M f A) (hx:x∈A):sgP M (fI A) (rhP A x)=rhP A (sgP M f x):=by
 obtain ⟨h1,h2,h3⟩:=h.rh s hx;have e:=h.rk_sg s hx;obtain ⟨q,m1,g1,w1,_,d1,_⟩:=h.sg (s.ok x hx);unfold sgP;rw [h1,h2,K1,Qt m1];have e2:rhP A (sgP M f x)=1000 * q + rkA A (sgP M f x):=by unfold rhP; rw [d1]
 unfold sgP at e2 e;rw [Qt m1] at e2 e;rw [e2];lia
def Fam.rh_tu (h:Fam M f n) (s:Sb M f A) (hx:x∈A):tuP (fI A) (rhP A x)=rhP A (tuP f x):=by
 obtain ⟨h1,h2,h3⟩:=h.rh s hx;have tb:=h.tb_sub s (x / 1000);have bk:=h.rk_bk s hx;obtain ⟨t1,t2⟩:=h.tie (s.ok x hx);have e1:tuP (fI A) (rhP A x)=if ((rkA A x:Nat):Int) < tbP (fI A) (x / 1000) then 1000 * bN (x / 1000) + (fA A (bN (x / 1000)) - 1 - rkA A x) else 1000 * aN (x / 1000) + (fA A (x / 1000) - 1 - rkA A x):=by
  unfold tuP tbP
  rw [h1,h2,K1,K1]
 rw [e1,tb];by_cases b:bkP f x
 ·have e:=h.rk_tu s hx b
  have c:=bk.mp b;rw [if_pos (by lia)];unfold rhP;rw [(t1 b).1];lia
 ·have e:=h.rk_fw s hx b
  have c:¬ rkA A x < kA f A (x / 1000):=λz=>b (bk.mpr z);rw [if_neg (by lia)];unfold rhP;rw [(t2 b).1];lia
def Fam.rh_nx (h:Fam M f n) (s:Sb M f A) (hx:x∈A):nxP M (fI A) (rhP A x)=rhP A (nxP M f x):=by
 unfold nxP;rw [h.rh_sg s hx,h.rh_tu s (s.sg x hx)]
def Zdy (hx:x∈A) (e:x / 1000=y / 1000) (lt:x % 1000 < y % 1000):rkA A x < rkA A y:=by
 have e1:=Vm (A:=A) (p:=λz=>z / 1000=y / 1000/\z % 1000 < y % 1000) (q:=λz=>z / 1000=x / 1000/\z % 1000 < x % 1000) (r:=λz=>z / 1000=y / 1000/\x % 1000<=z % 1000/\z % 1000 < y % 1000) (λz _=>by lia) (λz _=>by lia);have pos:0 < A.countP λz=>decide (z / 1000=y / 1000/\x % 1000<=z % 1000/\z % 1000 < y % 1000):=countP_pos_iff.mpr ⟨x,hx,decide_eq_true ⟨e,An _,lt⟩⟩;unfold rkA;lia
def Fam.rh_inj (h:Fam M f n) (s:Sb M f A) (hx:x∈A) (hy:y∈A) (e:rhP A x=rhP A y):x=y:=by
 obtain ⟨a1,a2,_⟩:=h.rh s hx;obtain ⟨b1,b2,_⟩:=h.rh s hy;rw [e] at a1 a2;have e1:x / 1000=y / 1000:=by lia
 rcases Nat.lt_trichotomy (x % 1000) (y % 1000) with z | z | z
 ·have:=Zdy hx e1 z; lia
 ·lia
 ·have:=Zdy hy e1.symm z; lia
def Zl1 {l k:List Nat} (nd:l.Nodup) (sub:∀ x∈l,x∈k) (hl:k.length<=l.length) {z:Nat} (hz:z∈k):z∈l:=by
 by_cases c:z∈l
 ·exact c
 ·have:=Qs (z :: l) k (nodup_cons.mpr ⟨c,nd⟩) λx hx=>by
   rcases Ar hx with rfl | y
   ·exact hz
   ·exact sub x y
  rw [length_cons] at this;lia
def Fam.rh_onto (h:Fam M f n) (s:Sb M f A) (v:VpP M (fI A) z):∃ x∈A,rhP A x=z:=by
 obtain ⟨v1,v2⟩:=v;rw [K1] at v2;have l1:((List.range (fA A (z / 1000))).map λs=>1000 * (z / 1000) + s).length=fA A (z / 1000):=by rw [Ab,length_range]
 have hm:z∈(A.filter λx=>decide (x / 1000=z / 1000)).map (rhP A):=by
  refine Zl1 (k:=(List.range (fA A (z / 1000))).map λs=>1000 * (z / 1000) + s) (J2 (W4 s.nd) λa ha b hb e=>h.rh_inj s (mem_filter.mp ha).1 (mem_filter.mp hb).1 e) (λx hx=>?_) ?_ (mem_map.mpr ⟨z % 1000,mem_range.mpr v2,by lia⟩)
  ·obtain ⟨y,hy,rfl⟩:=mem_map.mp hx
   obtain ⟨y1,y2⟩:=mem_filter.mp hy;have y2:=of_decide_eq_true y2;obtain ⟨a1,a2,a3⟩:=h.rh s y1;rw [y2] at a3;exact mem_map.mpr ⟨rkA A y,mem_range.mpr a3,by unfold rhP; rw [y2]⟩
  ·rw [l1,Ab,<- countP_eq_length_filter]
   exact An _
 obtain ⟨x,hx,e⟩:=mem_map.mp hm;exact ⟨x,(mem_filter.mp hx).1,e⟩
def Fam.rh_orb (h:Fam M f n) (s:Sb M f A) {os:List Nat} (o:OrbEnd (RnP M f) c os) (hA:∀ x∈os,x∈A):OrbEnd (RnP M (fI A)) (rhP A c) (os.map (rhP A)):=by
 have step:∀ {a b:Nat},a∈os->RnP M f a b->RnP M (fI A) (rhP A a) (rhP A b):=λ{a b} ha r=>⟨h.rhV s (hA a ha),by rw [h.rh_nx s (hA a ha),r.2]⟩;refine ⟨⟨by rw [Ah,o.head]; rfl,λi a b ha hb=>?_,J2 o.nodup λa ha b hb e=>h.rh_inj s (hA a ha) (hA b hb) e⟩,?_⟩
 ·rw [Ah] at ha hb
  obtain ⟨x,ex,rfl⟩:=Option.map_eq_some_iff.mp ha;obtain ⟨y,ey,rfl⟩:=Option.map_eq_some_iff.mp hb;exact step (Au ex) (o.chain i x y ex ey)
 ·obtain ⟨l,hl,r⟩:=o.last
  exact ⟨rhP A l,by rw [Ab,Ah,hl]; rfl,step (Au hl) r⟩
theorem Fam.orb_it (h:Fam M f n) (hs:sF f M.length<=1200) (v:VpP M f c):∀ k,it (nxP M f) k c∈f7 M f c
 | 0=>h.self hs v
 | k + 1=>Zbx (h.orb hs v) (h.orb_it hs v k) ⟨h.itV v k,rfl⟩
def Fam.on_it (h:Fam M f n) (hs:sF f M.length<=1200) {x:Nat} (v:VpP M f c) (hx:x∈f7 M f c):∃ i,i < (f7 M f c).length/\x=it (nxP M f) i c:=by
 obtain ⟨i,hi,ei⟩:=mem_iff_getElem.mp hx;exact ⟨i,hi,Wl (h.orb hs v).toOrb i x (by rw [Ac hi,ei])⟩
noncomputable def jg (M:Lq) (f:Nat->Int) (d:Nat):List Nat:=f7 M f d ++ (f7 M f d).map (sgP M f)
def Fam.onSb (h:Fam M f n) (hs:sF f M.length<=1200) (v:VpP M f d):Sb M f (jg M f d):=by
 have o:=h.orb hs v;have hV:=h.orbV v o.toOrb;refine ⟨h.one_nd hs v,λx hx=>?_,λx hx=>?_,λx hx=>?_⟩
 ·rcases mem_append.mp hx with z | z
  ·exact hV x z
  ·obtain ⟨y,hy,rfl⟩:=mem_map.mp z
   exact h.sgV (hV y hy)
 ·rcases mem_append.mp hx with z | z
  ·exact mem_append_right _ (mem_map_of_mem z)
  ·obtain ⟨y,hy,rfl⟩:=mem_map.mp z
   rw [h.sgsg (hV y hy)];exact mem_append_left _ hy
 ·rcases mem_append.mp hx with z | z
  ·obtain ⟨i,hi,e⟩:=h.on_it hs v z
   have hp:=o.pos;have jd:=h.it_end o;have e2:x=nxP M f (it (nxP M f) (i + ((f7 M f d).length - 1)) d):=by
    have:=Qk jd i
    rw [show i + (f7 M f d).length=(i + ((f7 M f d).length - 1)) + 1 by lia] at this
    rw [e,<- this]
    rfl
   have hy:=h.orb_it hs v (i + ((f7 M f d).length - 1));have vy:=hV _ hy;refine mem_append_right _ (mem_map.mpr ⟨_,hy,?_⟩);rw [e2];unfold nxP;exact (h.tu (h.sgV vy)).2.1.symm
  ·obtain ⟨y,hy,rfl⟩:=mem_map.mp z
   exact mem_append_left _ (Zbx o hy ⟨hV y hy,Y⟩)
def Fam.on_all (h:Fam M f n) (hs:sF f M.length<=1200) (v:VpP M f d) (h0:x0∈jg M f d) (hx:x∈jg M f d):x∈f7 M f x0\/sgP M f x∈f7 M f x0:=by
 have o:=h.orb hs v;have hV:=h.orbV v o.toOrb;have jd:=h.it_end o;have s:=h.onSb hs v;have v0:=s.ok x0 h0;have key:∀ y∈f7 M f d,y∈f7 M f x0\/sgP M f y∈f7 M f x0:=λy hy=>by
  obtain ⟨i,hi,ey⟩:=h.on_it hs v hy
  rcases mem_append.mp h0 with z | z
  ·obtain ⟨j,hj,e0⟩:=h.on_it hs v z
   left
   have:y=it (nxP M f) (i + (f7 M f d).length - j) x0:=by
    rw [e0,<- Vj,show i + (f7 M f d).length - j + j=i + (f7 M f d).length by lia,Qk jd]
    exact ey
   rw [this]
   exact h.orb_it hs v0 _
  ·obtain ⟨y0,hy0,rfl⟩:=mem_map.mp z
   obtain ⟨j,hj,e0⟩:=h.on_it hs v hy0
   right
   have e1:it (nxP M f) (j + (f7 M f d).length - i) y=y0:=by
    rw [ey,<- Vj,show j + (f7 M f d).length - i + i=j + (f7 M f d).length by lia,Qk jd]
    exact e0.symm
   have:=h.turn (hV y hy) (j + (f7 M f d).length - i)
   rw [e1] at this
   rw [<- this]
   exact h.orb_it hs v0 _
 rcases mem_append.mp hx with z | z
 ·exact key x z
 ·obtain ⟨y,hy,rfl⟩:=mem_map.mp z
  rw [h.sgsg (hV y hy)];exact (key y hy).symm
end
section
variable {M:Lq} {f:Nat->Int} {n:Nat}
def OrbEnd.cyc {os:List Nat} (o:OrbEnd R c os) {i:Nat} (hi:os[i]?=some a) (hb:os[(i + 1) % os.length]?=some b):R a b:=by
 have h1:=(Aa hi).1;by_cases z:i + 1 < os.length
 ·rw [mod_eq_of_lt z] at hb
  exact o.chain i a b hi hb
 ·rw [show i + 1=os.length by lia,mod_self,o.head] at hb
  cases hb;obtain ⟨l,hl,r⟩:=o.last;rw [show os.length - 1=i by lia,hi] at hl;cases hl;exact r
def Znd {os:List Nat} (nd:os.Nodup) (j:Nat):(rot os j).Nodup:=by
 unfold rot;have:(os.drop j ++ os.take j).Perm os:=perm_append_comm.trans (by rw [take_append_drop]);exact this.nodup_iff.mpr nd
def OrbEnd.rot {os:List Nat} (o:OrbEnd R c os) (hj:os[j]?=some x):OrbEnd R x (KT.rot os j):=by
 have h1:=(Aa hj).1;have hl:=Y3 os (s:=j) (by lia);refine ⟨⟨by rw [Y4 h1 (by lia),Nat.zero_add,mod_eq_of_lt h1]; exact hj,λi a b ha hb=>?_,Znd o.nodup j⟩,?_⟩
 ·have i2:=(Aa hb).1
  rw [hl] at i2;rw [Y4 h1 (by lia)] at ha hb;refine o.cyc ha ?_;rw [<- hb];congr 1;rw [show i + 1 + j=(i + j) + 1 by lia,mod_add_mod]
 ·obtain ⟨l,nu⟩:∃ l,(KT.rot os j)[(KT.rot os j).length - 1]?=some l:=⟨_,Ac (by lia)⟩
  refine ⟨l,nu,?_⟩;rw [hl,Y4 h1 (by lia)] at nu;refine o.cyc nu ?_;rw [mod_add_mod,show os.length - 1 + j + 1=j + os.length by lia,add_mod_right,mod_eq_of_lt h1];exact hj
def Fam.back1 (h:Fam M f n) (r:RnP M f a b):RnP M f (sgP M f b) (sgP M f a):=by
 have e:=h.turn r.1 1;have e2:it (nxP M f) 1 a=b:=r.2;rw [e2] at e;exact ⟨by rw [<- r.2]; exact h.sgV (h.nx r.1),e⟩
def Fam.orb_back (h:Fam M f n) (v:VpP M f c) {os:List Nat} (o:OrbEnd (RnP M f) c os) (hl:os[os.length - 1]?=some l):OrbEnd (RnP M f) (sgP M f l) (os.reverse.map (sgP M f)):=by
 have hp:=o.pos;have hV:=h.orbV v o.toOrb;have rv:∀ {i x:Nat},(os.reverse.map (sgP M f))[i]?=some x->i < os.length/\∃ y,os[os.length - 1 - i]?=some y/\x=sgP M f y:=λ{i x} e=>by
  rw [Ah] at e
  obtain ⟨y,ey,rfl⟩:=Option.map_eq_some_iff.mp e
  have hi:=(Aa ey).1
  rw [length_reverse] at hi
  rw [getElem?_reverse hi] at ey
  exact ⟨hi,y,ey,Y⟩
 refine ⟨⟨?_,λi a b ha hb=>?_,?_⟩,?_⟩
 ·rw [Ah,getElem?_reverse hp,Nat.sub_zero,hl]
  rfl
 ·obtain ⟨i1,y,ey,rfl⟩:=rv ha
  obtain ⟨i2,z,ez,rfl⟩:=rv hb;refine h.back1 (o.chain (os.length - 1 - (i + 1)) z y ez ?_);rw [show os.length - 1 - (i + 1) + 1=os.length - 1 - i by lia];exact ey
 ·refine J2 ((reverse_perm os).nodup_iff.mpr o.nodup) λa ha b hb e=>?_
  have:=congrArg (sgP M f) e;rwa [h.sgsg (hV a (mem_reverse.mp ha)),h.sgsg (hV b (mem_reverse.mp hb))] at this
 ·refine ⟨sgP M f c,?_,?_⟩
  ·rw [Ab,length_reverse,Ah,getElem?_reverse (by lia),show os.length - 1 - (os.length - 1)=0 by lia,o.head]
   rfl
  ·obtain ⟨l',jl,r⟩:=o.last
   rw [hl] at jl;cases jl;exact h.back1 r
def Zmd (h:∀ c∈l,inS M f D c):gT M f l D=D:=by
 induction l with
 | nil=>rfl
 | cons a l ih =>
  unfold gT;rw [if_pos (h a mem_cons_self)];exact ih λc hc=>h c (mem_cons_of_mem _ hc)
def bkW (M:Lq) (ws:List Nat):List Nat:=ws.reverse.map (mtQ M)
def Fam.alone (h:Fam M f n) (hs:sF f M.length<=1200) (v:VpP M f d):∃ z0,gT M (fI (jg M f d)) (ptsL (fI (jg M f d)) M.length) []=[z0]/\∃ j,j<=(wdP M f d).length/\(wdP M (fI (jg M f d)) z0=rot (wdP M f d) j\/wdP M (fI (jg M f d)) z0=bkW M (rot (wdP M f d) j)):=by
 have s:=h.onSb hs v;have fs:=h.sub s;have o:=h.orb hs v;have hd:d∈jg M f d:=mem_append_left _ (h.self hs v);have hp:=fs.pts_mem.mpr (h.rhV s hd);have ig:∀ z∈ptsL (fI (jg M f d)) M.length,VpP M (fI (jg M f d)) z:=λz hz=>fs.pts_mem.mp hz;generalize ptsL (fI (jg M f d)) M.length=pts at hp ig
 cases pts with
 | nil=>exact absurd hp not_mem_nil
 | cons z0 r =>
  obtain ⟨x0,h0,e0⟩:=h.rh_onto s (ig z0 mem_cons_self);have v0:=s.ok x0 h0;have o0:=h.orb hs v0
  have xq:∀ x∈f7 M f x0,x∈jg M f d:=λx hx=>by
   obtain ⟨i,_,e⟩:=h.on_it hs v0 hx;rw [e]
   have:∀ k,it (nxP M f) k x0∈jg M f d:=λk=>by
    induction k with
    | zero=>exact h0
    | succ k ih=>exact s.tu _ (s.sg _ ih)
   exact this i
  have oz:=h.rh_orb s o0 xq;rw [e0] at oz;have ez:=Jk oz;refine ⟨z0,?_,?_⟩
  ·have n0:¬ inS M (fI (jg M f d)) [] z0:=λ⟨x,hx,_⟩=>absurd hx not_mem_nil
   unfold gT;rw [if_neg n0,nil_append];refine Zmd λz hz=>?_;obtain ⟨x,hx,e⟩:=h.rh_onto s (ig z (mem_cons_of_mem _ hz));refine ⟨z0,mem_cons_self,?_⟩;rw [ez,<- e,h.rh_sg s hx]
   rcases h.on_all hs v h0 hx with y | y
   ·exact .inl (mem_map_of_mem y)
   ·exact .inr (mem_map_of_mem y)
  ·have ew:wdP M (fI (jg M f d)) z0=(f7 M f x0).map (· / 1000):=by
    unfold wdP;rw [ez,map_map];apply map_congr_left;intro x hx;exact (h.rh s (xq x hx)).1
   have ml:∀ (os:List Nat) (j:Nat),(rot os j).map (· / 1000)=rot (os.map (· / 1000)) j:=λos j=>by unfold rot; rw [Aj,map_drop,map_take]
   have wl:(wdP M f d).length=(f7 M f d).length:=by unfold wdP; rw [Ab]
   rw [ew]
   rcases mem_append.mp h0 with z | z
   ·obtain ⟨j,hj,ej⟩:=mem_iff_getElem.mp z
    have e1:=Jk (o.rot (x:=x0) (by rw [Ac hj,ej]));exact ⟨j,by lia,.inl (by rw [e1,ml]; rfl)⟩
   ·obtain ⟨y0,hy0,ey⟩:=mem_map.mp z
    obtain ⟨j,hj,ej⟩:=mem_iff_getElem.mp hy0;have hp:=o.pos;obtain ⟨x1,hx1⟩:∃ x1,(f7 M f d)[(j + 1) % (f7 M f d).length]?=some x1:=⟨_,Ac (mod_lt _ hp)⟩;have o1:=o.rot hx1;have v1:=h.orbV v o.toOrb x1 (Au hx1);have gj:=mod_lt (j + 1) hp;have i8:=Y3 (f7 M f d) (s:=(j + 1) % (f7 M f d).length) (by lia);have last:(rot (f7 M f d) ((j + 1) % (f7 M f d).length))[(rot (f7 M f d) ((j + 1) % (f7 M f d).length)).length - 1]?=some y0:=by
     rw [i8,Y4 gj (by lia),add_mod_mod,show (f7 M f d).length - 1 + (j + 1)=j + (f7 M f d).length by lia,add_mod_right,mod_eq_of_lt hj,Ac hj,ej]
    have e1:=Jk (h.orb_back v1 o1 last);rw [ey] at e1;refine ⟨(j + 1) % (f7 M f d).length,by lia,.inr ?_⟩;have hV1:=h.orbV v1 o1.toOrb;rw [e1,map_map];unfold bkW wdP;rw [<- ml,<- map_reverse,map_map];apply map_congr_left;intro x hx;obtain ⟨q,m1,_,_,_,d1,_⟩:=h.sg (hV1 x (mem_reverse.mp hx));show sgP M f x / 1000=mtQ M (x / 1000);rw [d1,Qt m1]
def Fam.once_rot (h:Fam M f n) (v:VpP M f c) {os:List Nat} (o:OrbEnd (RnP M f) c os) (hb:b < os.length) (h1:1<=e) (h2:e < os.length):rot (rot (os.map (· / 1000)) b) e≠rot (os.map (· / 1000)) b:=λz=>by
 have hp:=o.pos;have jd:=h.it_end o;have l0:(os.map (· / 1000)).length=os.length:=Ab _;have l1:=Y3 (os.map (· / 1000)) (s:=b) (by lia);have per:=(Zll (by lia)).mp z;rw [l1,l0] at per;have pl:∀ i,(os.map (· / 1000))[i % os.length]?=some (it (nxP M f) i c / 1000):=λi=>by
  have hi:=mod_lt i hp
  rw [Ah,Ac hi,Option.map_some]
  have e1:=Wl o.toOrb (i % os.length) _ (Ac hi)
  have e2:=Od jd (i / os.length) (i % os.length)
  rw [show i % os.length + i / os.length * os.length=i by rw [Nat.mul_comm]; exact mod_add_div i os.length] at e2
  rw [e1,e2]
 refine h.once v o h1 h2 λk=>?_;have hk:=per ((k + (os.length - b)) % os.length) (mod_lt _ hp);rw [Y4 (by lia) (by rw [l0]; exact mod_lt _ hp),Y4 (by lia) (by rw [l0]; exact mod_lt _ hp),l0,pl,pl] at hk
 injection hk with hk
 have a1:((k + (os.length - b)) % os.length + e) % os.length + b=((k + (os.length - b)) % os.length + e) % os.length + b:=rfl;have y6:∀ i,it (nxP M f) i c=it (nxP M f) (i % os.length) c:=λi=>by
  have e2:=Od jd (i / os.length) (i % os.length)
  rwa [show i % os.length + i / os.length * os.length=i by rw [Nat.mul_comm]; exact mod_add_div i os.length] at e2
 have m1:(((k + (os.length - b)) % os.length + e) % os.length + b) % os.length=(k + e) % os.length:=by
  rw [mod_add_mod,Nat.add_assoc,mod_add_mod,show k + (os.length - b) + (e + b)=k + e + os.length by lia,add_mod_right]
 have m2:((k + (os.length - b)) % os.length + b) % os.length=k % os.length:=by
  rw [mod_add_mod,show k + (os.length - b) + b=k + os.length by lia,add_mod_right]
 rw [y6,m1,<- y6,y6 ((k + (os.length - b)) % os.length + b),m2,<- y6] at hk;exact hk
def Fam.mapback (h:Fam M f n) {os:List Nat} (hV:∀ x∈os,VpP M f x):(os.reverse.map (sgP M f)).map (· / 1000)=bkW M (os.map (· / 1000)):=by
 unfold bkW;rw [map_map,<- map_reverse,map_map];apply map_congr_left;intro x hx;obtain ⟨q,m1,_,_,_,d1,_⟩:=h.sg (hV x (mem_reverse.mp hx));show sgP M f x / 1000=mtQ M (x / 1000);rw [d1,Qt m1]
def Zet (ws:List Nat) (b p:Nat):crN M (rot ws b) p=crN M ws p:=by
 unfold crN rot;have:(ws.drop b ++ ws.take b).Perm ws:=perm_append_comm.trans (by rw [take_append_drop]);exact this.countP_eq _
def Zkg (inv:InvM M) (hm:∀ q∈ws,∃ m,M[q]?=some (some m)) (p:Nat):crN M (bkW M ws) p=crN M ws p:=by
 unfold crN bkW;rw [countP_map,(reverse_perm ws).countP_eq];refine countP_congr λq hq=>?_;obtain ⟨m,e⟩:=hm q hq;have i1:=(inv q m e).1;rw [Function.comp_apply,Qt e,decide_eq_true_eq,decide_eq_true_eq,Ja e,Ja i1];exact Or.comm
def Zo9 (h:Fam M f n) (hs:sF f M.length<=1200) (v:VpP M f d) (p:Nat):fI (jg M f d) p=((crN M (wdP M f d) p:Nat):Int):=by
 unfold fI fA jg wdP;rw [h.one_at v (h.orbV v (h.orb hs v).toOrb) p]
end
end KT
set_option genInjectivity false
set_option genSizeOf false
namespace KT
open PySem L2
def bmV:List Value:=[.type "ValueError",.type "Exception",.type "BaseException",.type "object"]
def FBV:ExcBaseFacts "ValueError" "ValueError.__new__" "ValueError.__init__" bmV:=PySem.F.excBase_ValueError
def map_some {α:Type} {f:α->V} {l:List α} {i:Nat} {y:V} (h:(l.map f)[i]?=some y):∃ q,l[i]?=some q/\y=f q:=by
 rw [Ah] at h
 cases e:l[i]? with
 | none=>rw [e] at h; cases h
 | some q=>rw [e] at h; cases h; exact ⟨q,Y,Y⟩
structure FT (K:W.Frag) (mg:Str->Option Value) (x:Str) (st:Stmt) (ps:List Str) (f:Addr) (d:FuncData):Prop where
 F:Fun K x x st f d
 b:We K d ps []
 g:mg x=some (.ref f)
structure FM (K:W.Frag) (C:Addr) (x q:Str) (st:Stmt) (ps:List Str) (f:Addr) (d:FuncData):Prop where
 F:Fun K x q st f d
 b:We K d ps []
 m:Meth K C x f
section
variable {X:Cx} {fr:Bool} {j k:Nat} {f:Addr} {fd:FuncData} {ps:List Str} {sp:Sp} {x:Str} {st:Stmt} {p pos:Pos} {e:Expr} {es:List Expr} {t:TA}
def pcT (F:FnOk X.prog X.w X.K X.mg X.base (CXr X.prog X.w) k f fd ps sp) (hr:Room j X.A) (q:FT X.K X.mg x st ps f fd) (ha:PA X (e :: es) t) (hk:k<=j:=by decide) (hg:Gl X x:=by rfl) (jx:(x == ("__debug__":Str))=false:=by decide) (he:starEach (e :: es) X.env=(false,eval e X.env) :: starEach es X.env:=by rfl) (g8:(backTo pos (starEach es X.env)).any (·.1)=false:=by rfl) :
  PE X (.Call (.Name x p) (e :: es) [] pos) (Zkm sp [] E0 t):=Zlz F (hr.mono hk) hg q.g q.F.kp q.b .nil Xs ha jx he g8
def pxT (F:FnOk X.prog X.w X.K X.mg X.base (CXr X.prog X.w) k f fd ps sp) (hr:Room j X.A) (q:FT X.K X.mg x st ps f fd) (ha:PA X (e :: es) t) (hk:k<=j:=by decide) (hg:Gl X x:=by rfl) (hex:X.ex=[]:=by rfl) (hx:X.xe=(λ_ _=>False):=by rfl) (jx:(x == ("__debug__":Str))=false:=by decide) (he:starEach (e :: es) X.env=(false,eval e X.env) :: starEach es X.env:=by rfl) (g8:(backTo pos (starEach es X.env)).any (·.1)=false:=by rfl) :
  PEX fr X (.Call (.Name x p) (e :: es) [] pos) (Zgo sp [] t):=Zje F (hr.mono hk) hg q.g q.F.kp q.b .nil ha hex hx jx he g8
end
def BA (q:Str) (st:Stmt) (ps:List Str):Prop:=∀ (x:Str) (kV g6 pm:Value) (an:Option Addr) (gx ct:Value) (us:List Value),us.length=ps.length->bindArgs (PySem.W.fnOf x q (Xe st) (Yt st) (Zh st) .none kV g6 pm an gx ct) ⟨us,[]⟩=pure (ps.zip us)
def Zed {α:Type} {us:List α} (e:us.length=2):∃ a b,us=[a,b]:=by
 obtain ⟨a,us,rfl⟩:=exists_cons_of_length_eq_add_one e;obtain ⟨b,rfl⟩:=length_eq_one_iff.mp (Nat.succ.inj e);exact ⟨a,b,Y⟩
def Zhu {α:Type} {us:List α} (e:us.length=3):∃ a b c,us=[a,b,c]:=by
 obtain ⟨a,us,rfl⟩:=exists_cons_of_length_eq_add_one e;obtain ⟨b,c,rfl⟩:=Zed (Nat.succ.inj e);exact ⟨a,b,c,Y⟩
def ba1 {ps:List Str} (h:∀ (x:Str) (kV g6 pm:Value) (an:Option Addr) (gx ct:Value) (a:Value),bindArgs (PySem.W.fnOf x q (Xe st) (Yt st) (Zh st) .none kV g6 pm an gx ct) ⟨[a],[]⟩=pure (ps.zip [a]):=by intros; rfl) (hl:ps.length=1:=by rfl):BA q st ps:=λx kV g6 pm an gx ct us e=>by
 rw [hl] at e;obtain ⟨a,rfl⟩:=length_eq_one_iff.mp e;exact h x kV g6 pm an gx ct a
def ba2 {ps:List Str} (h:∀ (x:Str) (kV g6 pm:Value) (an:Option Addr) (gx ct:Value) (a b:Value),bindArgs (PySem.W.fnOf x q (Xe st) (Yt st) (Zh st) .none kV g6 pm an gx ct) ⟨[a,b],[]⟩=pure (ps.zip [a,b]):=by intros; rfl) (hl:ps.length=2:=by rfl):BA q st ps:=λx kV g6 pm an gx ct us e=>by
 rw [hl] at e;obtain ⟨a,b,rfl⟩:=Zed e;exact h x kV g6 pm an gx ct a b
def ba3 {ps:List Str} (h:∀ (x:Str) (kV g6 pm:Value) (an:Option Addr) (gx ct:Value) (a b c:Value),bindArgs (PySem.W.fnOf x q (Xe st) (Yt st) (Zh st) .none kV g6 pm an gx ct) ⟨[a,b,c],[]⟩=pure (ps.zip [a,b,c]):=by intros; rfl) (hl:ps.length=3:=by rfl):BA q st ps:=λx kV g6 pm an gx ct us e=>by
 rw [hl] at e;obtain ⟨a,b,c,rfl⟩:=Zhu e;exact h x kV g6 pm an gx ct a b c
section
variable {K:W.Frag} {h:Heap} {mg:Str->Option Value} {C:Addr} {x q:Str} {st:Stmt} {ps:List Str} {f:Addr} {oc:Value} {od an:Option Addr} {sl:Array (Option Value)} {kV g6 pm cd ct:Value}
def FT.of (X:K.In h) (G:h.Ns mainGlobals mg) (B:BA x st ps) (a:PySem.W.nsIn K mainGlobals x=some (some (.ref f))) (l:K.lookup f=some ⟨oc,od,.func (PySem.W.fnOf x x (Xe st) (Yt st) (Zh st) .none kV g6 pm an cd ct),sl⟩)
  (c:PySem.W.codeIn K cd x=true) (k:PySem.W.keepIn K (.ref f)=true):FT K mg x st ps f (PySem.W.fnOf x x (Xe st) (Yt st) (Zh st) .none kV g6 pm an cd ct):=⟨Ga l c k,(Ga l c k).binds (B x),PySem.W.mg_of X G a⟩
def FM.of (B:BA q st ps) (a:PySem.W.findIn K (.ref C) x=some (some (.ref f))) (i:PySem.W.isFn K (.ref f)=true) (l:K.lookup f=some ⟨oc,od,.func (PySem.W.fnOf x q (Xe st) (Yt st) (Zh st) .none kV g6 pm an cd ct),sl⟩)
  (c:PySem.W.codeIn K cd q=true) (k:PySem.W.keepIn K (.ref f)=true):FM K C x q st ps f (PySem.W.fnOf x q (Xe st) (Yt st) (Zh st) .none kV g6 pm an cd ct):=⟨Ga l c k,(Ga l c k).binds (B x),⟨a,i,k⟩⟩
end
def top (i:Nat):Stmt:=PySem.Challenge.pw_tentloops_k34_whole_numbers_tell_threads.main.body.getD i (.Pass ⟨0,0,0,0⟩)
abbrev Zdv:Stmt:=top 12
abbrev Zbe:Stmt:=top 13
abbrev Kp:Stmt:=top 14
abbrev Kl:Stmt:=top 15
abbrev Km:Stmt:=top 16
abbrev Ot:Stmt:=Xy (top 17) 0
abbrev Oq:Stmt:=Xy (top 17) 1
abbrev Zc5:Stmt:=Xy (top 17) 2
abbrev Uk:Stmt:=Xy (top 17) 3
abbrev J7:Stmt:=Xy (top 17) 4
abbrev Qn:Stmt:=Xy (top 17) 5
abbrev J6:Stmt:=Xy (top 17) 6
abbrev Q9:Stmt:=Xy (top 17) 7
abbrev V8:Stmt:=Xy (top 17) 8
abbrev Os:Stmt:=Xy (top 17) 9
abbrev Q8:Stmt:=Xy (top 17) 10
abbrev Op:Stmt:=top 19
abbrev Fk:Stmt:=top 20
abbrev Zdt:Stmt:=top 21
abbrev V4:Stmt:=top 22
abbrev Kq:Stmt:=top 23
abbrev Za5:Stmt:=top 24
abbrev Ui:Stmt:=top 25
abbrev Zdu:Stmt:=top 26
abbrev Zdr:Stmt:=top 27
abbrev Zds:Stmt:=top 30
abbrev Q6:Stmt:=top 31
abbrev V6:Stmt:=top 32
abbrev V5:Stmt:=top 33
abbrev V7:Stmt:=top 34
abbrev Q7:Stmt:=top 35
abbrev Uj:Stmt:=top 36
abbrev Za6:Stmt:=top 37
abbrev Zbd:Stmt:=top 39
abbrev On:Stmt:=top 40
abbrev Za9:Stmt:=top 41
abbrev Zba:Stmt:=top 42
abbrev Za8:Stmt:=top 43
abbrev Fi:Stmt:=top 44
abbrev Oo:Stmt:=top 45
abbrev Ko:Stmt:=top 46
abbrev Za7:Stmt:=top 47
abbrev Kn:Stmt:=top 48
abbrev Ff:Stmt:=top 49
abbrev Zbb:Stmt:=top 50
abbrev Fj:Stmt:=top 51
abbrev Fh:Stmt:=top 52
abbrev Zbc:Stmt:=top 53
abbrev Fg:Stmt:=top 54
abbrev Zkn:Stmt:=top 55
structure Adr where
 (aa dP c6 cg ci cj aM bQ c7 bA aB aI aC aO be bR aP bS cJ dQ bg cn c8 bC dR dS dU aQ bi bj bn aS bD c9 db bT dc de df cK bU cp dg cq cL dh cM cN di cO eV aJ bE bz:Addr)
 (dW dj cu cv cw bV bW dk bF aD aK aE aT bo bX aU bY cP dX bp cx dl bG dY dZ ee aV bq br bu aW bH dq dr bZ dt du dw cQ b6 cy dy cz cR dz cS cT dA cU eJ:FuncData)
 (ce bL:Tok)
structure Txt (w:World) (K:W.Frag) (mg:Str->Option Value) (t:Adr):Prop where
 eQ:mg "Tent"=some (.ref t.aa)
 ad:Cls K t.aa
 aG:Ws K t.aa "cloths"
 af:Ws K t.aa "names_at"
 ao:Ws K t.aa "spots"
 bI:Ws K t.aa "mates"
 cY:FT K mg "after" Zdv ["place"] t.dP t.dW
 cA:FT K mg "before" Zbe ["place"] t.c6 t.dj
 ax:FT K mg "cloth_of" Kp ["place"] t.cg t.cu
 cB:FT K mg "spots_of" Kl ["names_at"] t.ci t.cv
 cC:FT K mg "mates_of" Km ["spots","count"] t.cj t.cw
 b7:FM K t.aa "__init__" "Tent.__init__" Ot ["self","rows"] t.aM t.bV
 aY:FM K t.aa "rows" "Tent.rows" Oq ["self"] t.bQ t.bW
 eW:FM K t.aa "size" "Tent.size" Zc5 ["self"] t.c7 t.dk
 ap:FM K t.aa "seams" "Tent.seams" Uk ["self"] t.bA t.bF
 ag:FM K t.aa "all_places" "Tent.all_places" J7 ["self"] t.aB t.aD
 ak:FM K t.aa "has_place" "Tent.has_place" Qn ["self","place"] t.aI t.aK
 ah:FM K t.aa "look_place" "Tent.look_place" J6 ["self","place"] t.aC t.aE
 am:FM K t.aa "seam_at" "Tent.seam_at" Q9 ["self","place"] t.aO t.aT
 aH:FM K t.aa "places" "Tent.places" V8 ["self","seam"] t.be t.bo
 ai:FM K t.aa "mate" "Tent.mate" Os ["self","place"] t.bR t.bX
 ay:FM K t.aa "sort_of" "Tent.sort_of" Q8 ["self","seam"] t.aP t.aU
 b8:FT K mg "crossable" Op ["tent","place"] t.bS t.bY
 cV:FT K mg "follows" Fk ["tent","ahead","place"] t.cJ t.cP
 eC:FT K mg "plain" Zdt ["tent","word"] t.dQ t.dX
 au:FT K mg "look_thread" V4 ["tent","word"] t.bg t.bp
 cD:FT K mg "backward" Kq ["tent","word"] t.cn t.cx
 bJ:FT K mg "turned" Za5 ["word","by"] t.c8 t.dl
 aL:FT K mg "least_turn" Ui ["word"] t.bC t.bG
 eE:FT K mg "least" Zdu ["tent","word"] t.dR t.dY
 eF:FT K mg "times" Zdr ["tent","word"] t.dS t.dZ
 cZ:FT K mg "tally" Zds ["tent","word"] t.dU t.ee
 aZ:FT K mg "look_numbers" Q6 ["tent","counts"] t.aQ t.aV
 bv:FT K mg "look_counts" V6 ["tent","counts"] t.bi t.bq
 bx:FT K mg "look_family" V5 ["tent","counts"] t.bj t.br
 av:FT K mg "across_seam" V7 ["tent","numbers","at"] t.bn t.bu
 az:FT K mg "across_cloth" Q7 ["numbers","at"] t.aS t.aW
 bK:FT K mg "gone_round" Uj ["tent","numbers","start"] t.bD t.bH
 cE:FT K mg "traced" Za6 ["tent","counts"] t.c9 t.dq
 aA:FT K mg "_law_cell" Zbd ["_law_script","_law_at"] t.db t.dr
 aF:FT K mg "_law_numbers" On ["_law_cell_here","_law_many"] t.bT t.bZ
 dB:FT K mg "_law_sewn" Za9 ["_law_nums","_law_many","_law_share"] t.dc t.dt
 dC:FT K mg "_law_rows" Zba ["_law_mates","_law_start","_law_step"] t.de t.du
 dD:FT K mg "_law_tent" Za8 ["_law_script"] t.df t.dw
 bM:FT K mg "_law_named" Fi ["_law_rows_here","_law_counts"] t.cK t.cQ
 b9:FT K mg "_law_lowered" Oo ["_law_mates","_law_counts"] t.bU t.b6
 cF:FT K mg "_law_family" Ko ["_law_nums","_law_mates","_law_word"] t.cp t.cy
 dE:FT K mg "_law_walk" Za7 ["_law_mates","_law_nums"] t.dg t.dy
 cG:FT K mg "_law_thread" Kn ["_law_script","_law_at","_law_mates"] t.cq t.cz
 bd:FT K mg "_law_whole" Ff ["_law_found"] t.cL t.cR
 dF:FT K mg "_law_list" Zbb ["_law_found","_law_due"] t.dh t.dz
 bO:FT K mg "_law_lists" Fj ["_law_found","_law_due"] t.cM t.cS
 cW:FT K mg "_law_plain" Fh ["_law_mates","_law_word"] t.cN t.cT
 dG:FT K mg "_law_dict" Zbc ["_law_found","_law_due"] t.di t.dA
 cX:FT K mg "_law_tally" Fg ["_law_mates","_law_word"] t.cO t.cU
 eX:FT K mg "law" Zkn ["_law_script"] t.eV t.eJ
 eS:Mk K t.aa t.aM
 cf:mg "GREATEST_NAME"=some (.int 9999 t.ce)
 bP:mg "MOST_CROSSINGS"=some (.int 600 t.bL)
 bl:∀ (s:Shared) (u:Value),BindsTo s t.eJ ⟨[u],[]⟩ [("_law_script",u)]
 fh:mg "abs"=none
 eY:mg "all"=none
 eZ:mg "any"=none
 fg:mg "bool"=none
 dL:mg "dict"=none
 dH:mg "enumerate"=none
 fi:mg "int"=none
 aq:mg "isinstance"=none
 ae:mg "len"=none
 ar:mg "list"=none
 fb:mg "max"=none
 fc:mg "min"=none
 aj:mg "range"=none
 cH:mg "reversed"=none
 fj:mg "set"=none
 cI:mg "sorted"=none
 eK:mg "sum"=none
 eU:mg "tuple"=none
 fk:mg "zip"=none
 dM:mg "NoPlace"=some (.ref t.aJ)
 eG:ExcK K t.aJ bmV "ValueError.__new__"
 eI:mg "NoSeam"=some (.ref t.bE)
 eO:ExcK K t.bE bmV "ValueError.__new__"
 dJ:mg "NoThread"=some (.ref t.bz)
 dO:ExcK K t.bz bmV "ValueError.__new__"
def Same.add (s:Same H H1) (hp:H p=none):Same H (upd H1 p o):=λb u e=>by rw [Ze (Zl e hp)]; exact s b u e
def Same.new {H:Hp} {p:Addr} {o:HO} (hp:H p=none):Same H (upd H p o):=Same.add (Same.refl H) hp
def Z0 (ye:St->Hp->Prop) (ht:∀ nx:St->Hp->Prop,(∀ σ H,ye σ H->nx σ H)->t { D with nx:=nx } σ H) (hu:∀ σ H,ye σ H->u D σ H):tSeq t u D σ H:=ht (u D) hu
def Zo (ht:∀ nx:St->Hp->Prop,(∀ σ H,u D σ H->nx σ H)->t { D with nx:=nx } σ H):tSeq t u D σ H:=ht (u D) λ_ _ h=>h
def Zb8 (xs:List Int) (y:Int):xs.map V.int ++ [V.int y]=(xs ++ [y]).map V.int:=by simp
def getI {ns:List Int} (h:n < ns.length):(ns.map V.int)[n]?=some (V.int (ns.getD n 0)):=by
 rw [Ah,Ac h,Ad,Ac h];rfl
def cell (ns:List Int) (n:Int):Int:=if n < ns.length then ns.getD n.toNat 0 else if ns.length=0 then 31 * n + 7 else ns.getD (n % ns.length).toNat 0 % 1000003 + 101 * n
def Zld (K:W.Frag):Sp:=λvs H Q _=>∃ (a:Addr) (ns:List Int) (n:Int),vs=[.ref a,.int n]/\SqL K H a (ns.map V.int)/\ns.length<=63/\0<=n/\n < 1000000/\Q (.int (cell ns n)) H
def Ziv:Sp:=λvs H Q _=>∃ n:Int,vs=[.int n]/\Q (.bl true) H
def Ze3:Sp:=λvs H Q _=>∃ (c:Int) (n:Nat),vs=[.int c,.int n]/\n<=60/\∀ (p:Addr) (xs:List Int) (H':Hp),Same H H'->H p=none->H' p=some (.lst (xs.map V.int))->xs.length=n->(∀ x∈xs,0<=x/\x < 1009)->Q (.ref p) H'
section
variable {P:Program} {w:World} {K:W.Frag} {mg:Str->Option Value} {base:Heap} {t:Adr}
def Zfb:FnScope ["_law_found"] ["_law_found"] (Zh Ff):=Am
def Vu (T:Txt w K mg t):FnOk P w K mg base (CXr P w) 1 t.cL t.cR ["_law_found"] Ziv:=by
 refine T.bd.F.aR Zfb (b:)
 ·obtain ⟨p,rfl,k⟩:=h
  refine ⟨_,(Zg (Zn (Zbw (Zk Wq (by rfl) T.aq PyProof.Rows.boot_isinstance (Za (pv 0) (Za (Ve (v:=.ty "int") (by rfl) T.fi PySem.Pv.boot_int rfl) Zb))) (Zbt (Znp (Zk Wq (by rfl) T.aq PyProof.Rows.boot_isinstance (Za (pv 0) (Za (Ve (v:=.ty "bool") (by rfl) T.fg PySem.Pv.boot_bool rfl) Zb)))))))),?_⟩;refine ⟨_,Y,_,"int",_,true,rfl,TyOf.int p,Vx,_,rfl,iteT ?_⟩;refine ⟨_,Y,_,"bool",_,false,rfl,TyOf.int p,(by rfl),_,rfl,k⟩
def Zgy:FnScope ["_law_script","_law_at"] ["_law_script","_law_at"] (Zh Zbd):=Am
def W3 (T:Txt w K mg t):FnOk P w K mg base (CXr P w) 1 t.db t.dr ["_law_script","_law_at"] (Zld K):=by
 refine T.aA.F.aR Zgy (b:)
 ·obtain ⟨a,ns,n,rfl,hS,hl,h0,h1,k⟩:=h
  refine ⟨_,(Zd (Zy (Zq Jv (pv 1) (Zk Zj (by rfl) T.ae PySem.boot_len (Za (pv 0) Zb)) (Zt _)) (Zg (Zn (Zu Zr (pv 0) (pv 1) (i:)))) Zv)
   (Zd (Zy (Zq Xc (Zk Zj (by rfl) T.ae PySem.boot_len (Za (pv 0) Zb)) Zf (Zt _)) (Zg (Zn (Zi Z8 (Zi X9 Zf (pv 1)) Zf))) Zv)
   (Zg (Zn (Zi Z8 (Zi Zz (Zu Zr (pv 0) (Zi Zz (pv 1) (Zk Zj (by rfl) T.ae PySem.boot_len (Za (pv 0) Zb))) (i:)) Zf) (Zi X9 Zf (pv 1))))))),?_⟩;have el:((ns.map V.int).length:Int)=ns.length:=by simp
  refine ⟨_,Y,_,Y,a,_,Y,.inl hS,_,_,Y,Y,_,Y,?_⟩;rw [el];refine ite2 (λh=>?_) (λh=>?_)
  ·have h:n < ns.length:=by simpa using h
   have e:cell ns n=ns.getD n.toNat 0:=if_pos h;have en:n=(n.toNat:Int):=by lia
   have ei:atI (ns.map V.int) n=some (V.int (ns.getD n.toNat 0)):=by rw [en]; exact Yz (getI (n:=n.toNat) (by lia))
   rw [e] at k;exact ⟨_,Y,_,Y,a,_,_,_,Y,Y,hS,ei,k⟩
  ·have h:¬ n < ns.length:=by simpa using h
   have e:cell ns n=if ns.length=0 then 31 * n + 7 else ns.getD (n % ns.length).toNat 0 % 1000003 + 101 * n:=if_neg h
   refine ⟨_,Y,a,_,Y,.inl hS,Y,_,Y,?_⟩;rw [el];refine ite2 (λg=>?_) (λg=>?_)
   ·have g:ns.length=0:=by simpa using g
    refine ⟨_,Y,_,_,Y,Y,.inl ⟨by decide,by decide⟩,_,_,Y,Y,?_⟩;rw [if_pos g] at e;rw [e] at k; exact k
   ·have g:¬ ns.length=0:=by simpa using g
    have gp:(0:Int) < ns.length:=by lia
    rw [if_neg g] at e;have m0:=Int.emod_nonneg n (show (ns.length:Int)≠0 by lia);have m1:=Int.emod_lt_of_pos n gp;refine ⟨_,Y,_,Y,_,Y,a,_,Y,.inl hS,_,_,Y,Y,(by rw [el]; exact gp),a,_,_,_,Y,Y,hS,(?_:atI _ _=some (V.int (ns.getD (n % ns.length).toNat 0))),_,_,Y,Y,(by show (0:Int) < 1000003; decide),_,rfl,_,_,rfl,rfl,.inl ⟨by decide,by decide⟩,_,_,rfl,rfl,?_⟩
    ·rw [el]
     have en:n % (ns.length:Int)=((n % (ns.length:Int)).toNat:Int):=by lia
     rw [en];exact Yz (getI (by lia))
    ·rw [e] at k; exact k
def Xu:FnScope ["_law_cell_here","_law_many","_law_row","_law_rest","_law_seed"] ["_law_cell_here","_law_many"] (Zh On):=Am
def Qr (T:Txt w K mg t):FnOk P w K mg base (CXr P w) 1 t.bT t.bZ ["_law_cell_here","_law_many"] Ze3:=by
 refine T.aF.F.aR Xu (b:)
 ·obtain ⟨c,n,rfl,hn60,k⟩:=h
  refine ⟨_,(Zd (Zs (i:=2) Xu.nd Y (Or.inl Y) (Xj Zb))
   (Zd (Zs (i:=3) Xu.nd rfl (e:) (Zi Xk (pv 0) (Zi Znq Zf Zf)))
   (Zd (Jh PassesOwn.never (PW.pt (Kt (Zq Qa (pv 3) Zf (Zt _)) (U5 (Zq Jv (Zk Zj (by rfl) T.ae PySem.boot_len (Za (pv 2) Zb)) (pv 1) (Zt _))))) (Zd (Y9 (Ju PySem.F.plainAttrs_list PySem.F.slot_list_append PySem.F.type_list_append Xl (pv 2) (Za (Zi Zz (pv 3) Zf) Zb)))
   (Zg (Zs (i:=3) Xu.nd rfl (e:) (Zi Ys (pv 3) Zf)))))
   (Zd (Zs (i:=4) Xu.nd rfl (e:) (Zi Zz (pv 0) Zf))
   (Zd (Jh PassesOwn.never (Zq Jv (Zk Zj (by rfl) T.ae PySem.boot_len (Za (pv 2) Zb)) (pv 1) (Zt _)) (Zd (Zs (i:=4) Xu.nd rfl (e:) (Zi Zz (Zi Z8 (Zi Z8 (Zi X9 (pv 4) Zf) Zf) (Zk Zj (by rfl) T.ae PySem.boot_len (Za (pv 2) Zb))) Zf))
   (Zg (Y9 (Ju PySem.F.plainAttrs_list PySem.F.slot_list_append PySem.F.type_list_append Xl (pv 2) (Za (Zi Zz (Zi Ys (Zi Zz (Zi X9 (pv 4) Zf) Zf) Zf) Zf) Zb))))))
   (Zg (Zn (pv 2)))))))),?_⟩;refine ⟨Az _,λr md=>?_⟩;refine ⟨_,Y,_,_,Y,Y,⟨by decide,by decide,by decide⟩,_,_,Y,Y,?_⟩;show tSeq (Qm _ _) _ _ _ _;refine Z0 (λσ H1=>∃ (xs:List Int) (rest:Int),σ=[some (.int c),some (.int n),some (.ref r),some (.int rest),none]/\Same H H1/\H1 r=some (.lst (xs.map V.int))/\xs.length<=n/\(∀ x∈xs,0<=x/\x < 1009)) (λnx gw=>?_) ?_
  ·refine ⟨λm σ H1=>∃ (xs:List Int) (rest:Int),m=n - xs.length/\σ=[some (.int c),some (.int n),some (.ref r),some (.int rest),none]/\Same H H1/\H1 r=some (.lst (xs.map V.int))/\xs.length<=n/\(∀ x∈xs,0<=x/\x < 1009),
    ⟨n,[],_,rfl,rfl,Same.new md,Zc,Az _,λx hx=>absurd hx (by simp)⟩,?_⟩
   rintro m σ H1 ⟨xs,rest,rfl,rfl,sm,h1,hl,hx⟩;have el:((xs.map V.int).length:Int)=xs.length:=by simp
   refine ⟨_,Y,_,_,Y,Y,_,Y,?_⟩;refine ite2 (λ_=>?_) (λ_=>?_)
   ·refine ⟨_,Y,r,_,Y,.inl (SqL.of h1),_,Y,_,_,Y,Y,_,Y,?_⟩
    rw [el];refine ite2 (λg=>?_) (λ_=>?_)
    ·have g:(xs.length:Int) < n:=by simpa using g
     refine ⟨_,λσ' H' h=>h,?_⟩;refine ⟨_,Y,.inl ⟨Y,_,SqL.of h1⟩,_,Y,_,_,Y,Y,(by show (0:Int) < 1009; decide),r,_,_,rfl,rfl,h1,(by rw [Ab]; exact Zx (by lia)),?_⟩;refine ⟨_,Y,_,_,Y,Y,⟨by decide,by decide⟩,?_⟩;refine ⟨n - (xs ++ [rest % 1009]).length,?_,xs ++ [rest % 1009],_,Y,Y,Same.add sm md,?_,?_,?_⟩
     ·rw [Ae,At]; lia
     ·rw [Zc,<- Zb8]
     ·rw [Ae,At]; lia
     ·intro x hm
      rcases mem_append.mp hm with z | z
      ·exact hx x z
      ·have:x=rest % 1009:=by simpa using z
       subst this;lia
    ·exact gw _ _ ⟨xs,rest,Y,sm,h1,hl,hx⟩
   ·exact gw _ _ ⟨xs,rest,Y,sm,h1,hl,hx⟩
  rintro σ H1 ⟨xs,rest,rfl,sm,h1,hl,hx⟩;refine ⟨_,Y,_,_,Y,Y,(by show (0:Int) < 2147483629; decide),?_⟩;show tSeq (Qm _ _) _ _ _ _;refine Z0 (λσ H1=>∃ (xs:List Int) (rest kg:Int),σ=[some (.int c),some (.int n),some (.ref r),some (.int rest),some (.int kg)]/\Same H H1/\H1 r=some (.lst (xs.map V.int))/\xs.length=n/\(∀ x∈xs,0<=x/\x < 1009)) (λnx gw=>?_) ?_
  ·refine ⟨λm σ H1=>∃ (xs:List Int) (rest kg:Int),m=n - xs.length/\σ=[some (.int c),some (.int n),some (.ref r),some (.int rest),some (.int kg)]/\Same H H1/\H1 r=some (.lst (xs.map V.int))/\xs.length<=n/\(∀ x∈xs,0<=x/\x < 1009),
    ⟨n - xs.length,xs,rest,_,rfl,rfl,sm,h1,hl,hx⟩,?_⟩
   clear h1 hl hx sm xs rest;rintro m σ H1 ⟨xs,rest,kg,rfl,rfl,sm,h1,hl,hx⟩;have el:((xs.map V.int).length:Int)=xs.length:=by simp
   refine ⟨_,Y,r,_,Y,.inl (SqL.of h1),_,Y,_,_,Y,Y,_,Y,?_⟩;rw [el];refine ite2 (λg=>?_) (λg=>?_)
   ·have g:(xs.length:Int) < n:=by simpa using g
    refine ⟨_,λσ' H' h=>h,?_⟩;refine ⟨_,Y,_,_,Y,Y,.inr ⟨by decide,by decide⟩,_,_,Y,Y,_,Y,r,_,Y,.inl (SqL.of h1),_,_,Y,Y,_,_,Y,Y,(by show (0:Int) < 2147483647; decide),?_⟩;obtain ⟨y,hy⟩:∃ y,y=(kg * 48271 + 12345 + ((xs.map V.int).length:Int)) % 2147483647 * 69621 % 2147483629 / 7 % 1009:=⟨_,rfl⟩;refine ⟨_,Y,.inl ⟨Y,_,SqL.of h1⟩,_,Y,_,_,Y,Y,.inr ⟨by decide,by decide⟩,_,_,Y,Y,(by show (0:Int) < 2147483629; decide),_,_,rfl,rfl,⟨by decide,by decide⟩,_,_,rfl,rfl,(by show (0:Int) < 1009; decide),r,_,_,rfl,rfl,h1,(by rw [Ab]; exact Zx (by lia)),?_⟩;refine ⟨n - (xs ++ [y]).length,?_,xs ++ [y],_,_,Y,Y,Same.add sm md,?_,?_,?_⟩
    ·rw [Ae,At]; lia
    ·rw [Zc,<- Zb8,hy]
    ·rw [Ae,At]; lia
    ·intro x hm
     rcases mem_append.mp hm with z | z
     ·exact hx x z
     ·have:x=y:=by simpa using z
      rw [this,hy];exact ⟨Int.emod_nonneg _ (by decide),Int.emod_lt_of_pos _ (by decide)⟩
   ·have g:¬ (xs.length:Int) < n:=by simpa using g
    exact gw _ _ ⟨xs,rest,kg,Y,sm,h1,by lia,hx⟩
  rintro σ H1 ⟨xs,rest,kg,rfl,sm,h1,hl,hx⟩;exact ⟨_,Y,k r xs H1 sm md h1 hl hx⟩
def Zla (K:W.Frag):Sp:=λvs H Q _=>∃ (a:Addr) (xs:List Int) (n:Nat) (sh:Int),vs=[.ref a,.int n,.int sh]/\H a=some (.lst (xs.map V.int))/\xs.length=60/\(∀ x∈xs,0<=x/\x < 1009)/\1<=n/\n<=14 /\
 ∀ (p:Addr) (M:Lq) (H':Hp),Same H H'->H p=none->H' p=some (.lst (M.map mV))->M.length=3 * n->(∀ (i j:Nat),M[i]?=some (some j)->M[j]?=some (some i)/\i≠j)->Q (.ref p) H'
def map_set {α:Type} (f:α->V) (l:List α) (i:Nat) (x:α):(l.map f).set i (f x)=(l.set i x).map f:=by rw [List.map_set]
def Wc (h:i < n):ixN n (i:Int)=some i:=by
 unfold ixN;simp;lia
theorem Zh8 {α β:Type} (f:α->β):∀ (l:List α) (i:Nat),(l.map f).eraseIdx i=(l.eraseIdx i).map f
 | [],_=>rfl
 | _ :: _,0=>rfl
 | a :: r,i + 1=>by rw [map_cons,eraseIdx_cons_succ,Zh8 f r i,eraseIdx_cons_succ,map_cons]
def natV (F:List Nat) (i:Nat):(F.map λ(j:Nat)=>V.int j)[i]?=(F[i]?).map λ(j:Nat)=>V.int j:=Ah ..
def X2:FnScope ["_law_nums","_law_many","_law_share","_law_mates","_law_free","_law_at","_law_one","_law_pick","_law_other"] ["_law_nums","_law_many","_law_share"] (Zh Za9):=Am
def Zhk (T:Txt w K mg t):FnOk P w K mg base (CXr P w) 1 t.dc t.dt ["_law_nums","_law_many","_law_share"] (Zla K):=by
 refine T.dB.F.aR X2 (b:)
 ·obtain ⟨a,xs,n,sh,rfl,ha,hl,hx,h1,h2,k⟩:=h
  refine ⟨_,(Zd (Zs (i:=3) X2.nd Y (Or.inl Y) (Zi Kw (Xj (Za W7 Zb)) (Zi X9 Zf (pv 1))))
   (Zd (Zs (i:=4) X2.nd rfl (e:) (Us rfl T.ar rfl T.aj rfl (Za (Zi X9 Zf (pv 1)) Zb)))
   (Zd (Zs (i:=5) X2.nd rfl (e:) Zf)
   (Zd (Jh PassesOwn.never (Zq Qa (Zk Zj (by rfl) T.ae PySem.boot_len (Za (pv 4) Zb)) Zf (Zt _)) (Zd (Zs (i:=6) X2.nd rfl (e:) (Ju PySem.F.plainAttrs_list PySem.F.slot_list_pop PySem.F.type_list_pop Zb6 (pv 4) (Za Zf Zb)))
   (Zd (Zs (i:=7) X2.nd rfl (e:) (Zu Zr (pv 0) (pv 5) (i:)))
   (Zd (Zs (i:=5) X2.nd rfl (e:) (Zi Z8 (pv 5) Zf))
   (Zg (Zy (Zq Zkq (Zi Zz (pv 7) Zf) (pv 2) (Zt _)) (Zd (Zs (i:=8) X2.nd rfl (e:) (Ju PySem.F.plainAttrs_list PySem.F.slot_list_pop PySem.F.type_list_pop Zb6 (pv 4) (Za (Zi Zz (Zi Ys (pv 7) Zf) (Zk Zj (by rfl) T.ae PySem.boot_len (Za (pv 4) Zb))) Zb)))
   (Zd (Wg (pv 8) (Jz (pv 3) (pv 6) Xp))
   (Zg (Wg (pv 6) (Jz (pv 3) (pv 8) Xp))))) Zv))))))
   (Zg (Zn (pv 3))))))),?_⟩;refine ⟨(by show 1<=sizeLine; decide),λq hq=>?_⟩;refine ⟨_,Y,_,_,Y,Y,.inl ⟨by decide,by decide⟩,q,_,_,Y,Y,Zc,(by lia),(by lia),?_,λm hm=>?_⟩
  ·have:(3 * (n:Int)).toNat=3 * n:=by lia
   show 1 * (3 * (n:Int)).toNat<=sizeLine;rw [this,sizeLine_eq]; lia
  have eN:(3 * (n:Int)).toNat=3 * n:=by lia
  have eM:(List.replicate (3 * (n:Int)).toNat [V.non]).flatten=(List.replicate (3 * n) (none:Option Nat)).map mV:=by
   rw [eN,flatten_replicate_singleton,map_replicate];rfl
  refine ⟨_,Y,_,_,Y,Y,.inl ⟨by decide,by decide⟩,3 * n,(congrArg (λz=>[V.int z]) (by lia:(3 * (n:Int))=((3 * n:Nat):Int))),by lia,λf hf=>?_⟩;have qr:f≠m:=λz=>by rw [z,Zc] at hf; cases hf
  have kq:H m=none:=by
   have:m≠q:=λz=>by rw [z,Zc] at hm; cases hm
   rw [Ze this] at hm; exact hm
  have ku:H f=none:=by
   rw [Ze qr] at hf;have:f≠q:=λz=>by rw [z,Zc] at hf; cases hf
   rw [Ze this] at hf; exact hf
  have sm0:Same H (upd (upd (upd H q (.lst [.non])) m (.lst (List.replicate (3 * (n:Int)).toNat [V.non]).flatten)) f (.lst ((List.range (3 * n)).map λ(i:Nat)=>V.int i))):=Same.add (Same.add (Same.new hq) kq) ku;show tSeq (Qm _ _) _ _ _ _;refine Z0 (λσ H1=>∃ (M:Lq) (v4 v5 v6 v7 v8:Option V),σ=[some (.ref a),some (.int n),some (.int sh),some (.ref m),v4,v5,v6,v7,v8]/\Same H H1/\H1 m=some (.lst (M.map mV))/\M.length=3 * n/\∀ (i j:Nat),M[i]?=some (some j)->M[j]?=some (some i)/\i≠j) (λnx gw=>?_) ?_
  ·refine ⟨λc σ H1=>∃ (F:List Nat) (M:Lq) (at':Nat) (v6 v7 v8:Option V),c=F.length/\σ=[some (.ref a),some (.int n),some (.int sh),some (.ref m),some (.ref f),some (.int at'),v6,v7,v8]/\Same H H1/\H1 m=some (.lst (M.map mV))/\H1 f=some (.lst (F.map λ(i:Nat)=>V.int i))/\SewOk (3 * n) F M/\at' + F.length<=3 * n,
    ⟨_,List.range (3 * n),List.replicate (3 * n) none,0,none,none,none,rfl,rfl,sm0,?_,Zc,SewOk.start _,by simp⟩,?_⟩
   ·rw [Ze qr.symm,Zc,eM]
   rintro c σ H1 ⟨F,M,at',v6,v7,v8,rfl,rfl,sm,g1,g2,hs,om⟩;refine ⟨_,Y,f,_,Y,.inl (SqL.of g2),_,_,Y,Y,_,Y,?_⟩;rw [Ab];refine ite2 (λg=>?_) (λg=>?_)
   ·have g:1 < F.length:=by have:=of_decide_eq_true g; lia
    obtain ⟨one,F',rfl⟩:∃ one F',F=one :: F':=by
     cases F with
     | nil=>simp at g
     | cons a b=>exact ⟨a,b,Y⟩
    rw [length_cons] at g om;refine ⟨_,λσ' H' h=>h,?_⟩;refine ⟨_,Y,.inl ⟨Y,_,SqL.of g2⟩,f,_,0,0,V.int one,Y,Y,g2,by decide,by decide,(by simp [seqIndex?]),Y,?_⟩;have e0:((one :: F').map λ(i:Nat)=>V.int i).eraseIdx 0=F'.map λ(i:Nat)=>V.int i:=rfl;rw [e0];have w9:(upd H1 f (.lst (F'.map λ(i:Nat)=>V.int i))) f=some (.lst (F'.map λ(i:Nat)=>V.int i)):=Zc;have g1':(upd H1 f (.lst (F'.map λ(i:Nat)=>V.int i))) m=some (.lst (M.map mV)):=by rw [Ze qr.symm]; exact g1
    have yt:Same H (upd H1 f (.lst (F'.map λ(i:Nat)=>V.int i))):=Same.add sm ku;generalize upd H1 f (.lst (F'.map λ(i:Nat)=>V.int i))=H2 at g1' w9 yt ⊢;have nq:at' < xs.length:=by lia
    refine ⟨_,Y,_,Y,a,_,_,_,Y,Y,SqL.of (yt _ _ ha),Yz (getI nq),?_⟩;obtain ⟨p0,p1⟩:=hx _ (getElem_mem nq);have ep:xs.getD at' 0=xs[at']:=by rw [Ad,Ac nq]; rfl
    rw [ep];generalize xs[at']=jk at p0 p1 ⊢;refine ⟨_,Y,_,_,Y,Y,?_⟩;refine ⟨_,Y,_,_,Y,Y,(by show (0:Int) < 7; decide),_,rfl,_,_,rfl,rfl,_,rfl,?_⟩;refine ite2 (λ_=>?_) (λ_=>?_)
    ·-- other=free.pop(..)
     have hF:(0:Int) < F'.length:=by lia
     have k0:=Int.emod_nonneg (jk / 7) (show (F'.length:Int)≠0 by lia);have k1:=Int.emod_lt_of_pos (jk / 7) hF;obtain ⟨kk,si⟩:∃ kk:Nat,jk / 7 % (F'.length:Int)=kk:=⟨_,(Int.toNat_of_nonneg k0).symm⟩;have jv:kk < F'.length:=by lia
     refine ⟨_,Y,.inl ⟨Y,_,SqL.of w9⟩,_,Y,_,_,Y,Y,⟨by decide,by decide⟩,_,Y,f,_,Y,.inl (SqL.of w9),_,_,Y,Y,(by rw [Ab]; exact hF),f,_,_,kk,V.int F'[kk],Y,Y,w9,?_,?_,?_,?_,?_⟩
     ·rw [Ab,si]; lia
     ·rw [Ab,si]; lia
     ·rw [Ab,si]; simp [seqIndex?]; lia
     ·rw [natV,Ac jv]; rfl
     have e1:(F'.map λ(i:Nat)=>V.int i).eraseIdx kk=(F'.eraseIdx kk).map λ(i:Nat)=>V.int i:=by rw [Zh8]
     rw [e1];have hp:=hs.pair (Ac jv);have l1:one < M.length:=by rw [hs.len]; exact (hs.free one mem_cons_self).1
     have l2:F'[kk] < M.length:=by rw [hs.len]; exact (hs.free _ (mem_cons_of_mem _ (getElem_mem jv))).1
     have g1'':(upd H2 f (.lst ((F'.eraseIdx kk).map λ(i:Nat)=>V.int i))) m=some (.lst (M.map mV)):=by rw [Ze qr.symm]; exact g1'
     refine ⟨_,Y,_,Y,_,Y,m,_,_,one,Y,Y,g1'',(by rw [Ab]; exact Wc l1),?_⟩;refine ⟨_,Y,_,Y,_,Y,m,_,_,F'[kk],Y,Y,Zc,(by rw [length_set,Ab]; exact Wc l2),?_⟩;refine ⟨(F'.eraseIdx kk).length,?_,F'.eraseIdx kk,(M.set one (some F'[kk])).set F'[kk] (some one),at' + 1,_,_,_,Y,Y,Same.add (Same.add (Same.add yt ku) kq) kq,?_,?_,hp,?_⟩
     ·rw [length_eraseIdx_of_lt jv,length_cons]; lia
     ·rw [Zc]
      show some (HO.lst (((M.map mV).set one (mV (some F'[kk]))).set F'[kk] (mV (some one))))=_;rw [map_set,map_set]
     ·rw [Ze qr,Ze qr,Zc]
     ·rw [length_eraseIdx_of_lt jv]; lia
    ·exact ⟨F'.length,by rw [length_cons]; lia,F',M,at' + 1,_,_,_,rfl,rfl,yt,g1',w9,hs.skip,by lia⟩
   ·exact gw _ _ ⟨M,_,_,_,_,_,Y,sm,g1,hs.len,hs.inv⟩
  rintro σ H1 ⟨M,v4,v5,v6,v7,v8,rfl,sm,g1,jl,ja⟩;exact ⟨_,Y,k m M H1 sm kq g1 jl ja⟩
def Qd (Pv:Nat->St->Hp->Prop) (h0:Pv 0 σ H)
  (hs:∀ (i:Nat) σ H,i < n->Pv i σ H->g (.int (lo + i)) σ H λσ2 H2=>tt σ2 H2 λb H3=>if b=true then tb σ2 H3 (Pv (i + 1)) else Pv (i + 1) σ2 H3) (hd:∀ σ H,Pv n σ H->R σ H):Wy (Itr lo n) g tt tb R σ H:=by
 refine ⟨λi m σ H=>m=n - i/\i<=n/\Pv i σ H,⟨n,by simp,Az _,h0⟩,?_⟩;rintro i m σ H ⟨rfl,hi,p⟩;by_cases gj:i < n
 ·refine .inr ⟨gj,Pv (i + 1),λσ' H' p'=>⟨n - (i + 1),by lia,Y,gj,p'⟩,λx H' y=>?_⟩
  obtain ⟨e,y⟩:=y;subst e y;exact hs i σ _ gj p
 ·have e:i=n:=by lia
  subst e;exact .inl ⟨An _,hd σ H p⟩
def Ym {xs:List V} (Pv:Nat->St->Hp->Prop) (h0:Pv 0 σ H) (hl:∀ i σ H,i<=xs.length->Pv i σ H->SqL K H a xs)
  (hs:∀ (i:Nat) x σ H,xs[i]?=some x->Pv i σ H->g x σ H λσ2 H2=>tt σ2 H2 λb H3=>if b=true then tb σ2 H3 (Pv (i + 1)) else Pv (i + 1) σ2 H3) (hd:∀ σ H,Pv xs.length σ H->R σ H):Wy (Itl K a) g tt tb R σ H:=by
 refine ⟨λi m σ H=>m=xs.length - i/\i<=xs.length/\Pv i σ H,⟨xs.length,by simp,Az _,h0⟩,?_⟩;rintro i m σ H ⟨rfl,hi,p⟩;have q:=hl i σ H hi p;by_cases gj:i < xs.length
 ·refine .inr ⟨⟨xs,xs[i],q,by simp [gj]⟩,Pv (i + 1),λσ' H' p'=>⟨xs.length - (i + 1),by lia,Y,gj,p'⟩,λx H' y=>?_⟩
  obtain ⟨e,y⟩:=y;subst e;exact hs i x σ _ (y xs q) p
 ·have e:i=xs.length:=by lia
  subst e;exact .inl ⟨⟨xs,q,An _⟩,hd σ H p⟩
def Zca {xs:List V} (Pv:Nat->St->Hp->Prop) (h0:Pv 0 σ H) (hl:∀ i σ H,i<=xs.length->Pv i σ H->SqT K H a xs)
  (hs:∀ (i:Nat) x σ H,xs[i]?=some x->Pv i σ H->g x σ H λσ2 H2=>tt σ2 H2 λb H3=>if b=true then tb σ2 H3 (Pv (i + 1)) else Pv (i + 1) σ2 H3) (hd:∀ σ H,Pv xs.length σ H->R σ H):Wy (Itt K a) g tt tb R σ H:=by
 refine ⟨λi m σ H=>m=xs.length - i/\i<=xs.length/\Pv i σ H,⟨xs.length,by simp,Az _,h0⟩,?_⟩;rintro i m σ H ⟨rfl,hi,p⟩;have q:=hl i σ H hi p;by_cases gj:i < xs.length
 ·refine .inr ⟨⟨xs,xs[i],q,by simp [gj]⟩,Pv (i + 1),λσ' H' p'=>⟨xs.length - (i + 1),by lia,Y,gj,p'⟩,λx H' y=>?_⟩
  obtain ⟨e,y⟩:=y;subst e;exact hs i x σ _ (y xs q) p
 ·have e:i=xs.length:=by lia
  subst e;exact .inl ⟨⟨xs,q,An _⟩,hd σ H p⟩
def row3 (ns:List Int) (k:Nat):List V:=[.int (ns.getD (3 * k) 0),.int (ns.getD (3 * k + 1) 0),.int (ns.getD (3 * k + 2) 0)]
def X0 (H:Hp) (r:Addr) (ns:List Int):Prop:=∃ ts:List Addr,H r=some (.lst (ts.map V.ref))/\ns.length=3 * ts.length/\∀ (k:Nat) (t:Addr),ts[k]?=some t->H t=some (.tup (row3 ns k))
def X0.same (h:X0 H r ns) (s:Same H H'):X0 H' r ns:=by
 obtain ⟨ts,h1,h2,h3⟩:=h;exact ⟨ts,s _ _ h1,h2,λk t e=>s _ _ (h3 k t e)⟩
def Zlb:Sp:=λvs H Q _=>∃ (a:Addr) (M:Lq) (n:Nat) (st sp:Int),vs=[.ref a,.int st,.int sp]/\H a=some (.lst (M.map mV))/\M.length=3 * n/\1<=n/\n<=14/\(∀ (i j:Nat),M[i]?=some (some j)->M[j]?=some (some i)/\i≠j)/\sp∈Vo /\
 ∀ (p:Addr) (H':Hp),Same H H'->H p=none->X0 H' p (flat M st sp)->Q (.ref p) H'
def Ol {t:Int} (h:t∈Vo):-(2 ^ 64) < t/\t < 2 ^ 64:=by
 simp only [Vo,mem_cons,not_mem_nil,or_false] at h
 rcases h with rfl | rfl | rfl | rfl | rfl | rfl | rfl | rfl <;> decide
def Znx {M:Lq} {i:Nat} (h:i < M.length):atI (M.map mV) (0 + (i:Int))=some (mV M[i]):=by
 rw [Int.zero_add];exact Yz (by rw [Ah,Ac h]; rfl)
def Qw:FnScope ["_law_mates","_law_start","_law_step","_law_flat","_law_at","_law_mate"] ["_law_mates","_law_start","_law_step"] (Zh Zba):=Am
def Zhl (T:Txt w K mg t):FnOk P w K mg base (CXr P w) 1 t.de t.du ["_law_mates","_law_start","_law_step"] Zlb:=by
 refine T.dC.F.aR Qw (b:)
 ·obtain ⟨a,M,n,st,sp,rfl,ha,hM,h1,h2,hi,jh,k⟩:=h
  refine ⟨_,(Zd (Zs (i:=3) Qw.nd Y (Or.inr Y) (Xj Zb))
   (Zd (Ye PassesOwn.never rfl (Yu rfl T.aj (Za (Zk Zj (by rfl) T.ae PySem.boot_len (Za (pv 0) Zb)) Zb)) (Zp (i:=4) Qw.nd rfl (e:)) (Zd (Zs (i:=5) Qw.nd rfl (e:) (Zu Zr (pv 0) (pv 4) (i:)))
   (Zg (Zy (PW.pt (Kt (Zq Qi (pv 5) W7 (Zt _)) (U5 (Zq Jv (pv 5) (pv 4) (Zt _))))) (Zg (Y9 (Ju PySem.F.plainAttrs_list PySem.F.slot_list_append PySem.F.type_list_append Xl (pv 3) (Za (Zu Zr (pv 3) (pv 5) (i:)) Zb)))) (Zg (Y9 (Ju PySem.F.plainAttrs_list PySem.F.slot_list_append PySem.F.type_list_append Xl (pv 3) (Za (Zi Zz (Zi Z8 (pv 1) (Zi X9 (pv 2) (pv 4))) Zf) Zb))))))))
   (Zg (Zn (Yk (ts:=["_law_k"]) (fv:=[("_law_flat",3)]) (bkO ⟨⟨rfl,rfl,Or.inl rfl⟩,trivial⟩) rfl (Yu rfl T.aj (Za (Zi Ys (Zk Zj (by rfl) T.ae PySem.boot_len (Za (pv 0) Zb)) Zf) Zb)) (λ_ _ _ _=>(Zp (i:=0) (show List.Nodup (["_law_k","_law_flat"]:List Str) from by decide +kernel) rfl (e:) (Or.inr rfl))) (λ_ _ _ _=>Yb) (λ_ _ _=>rfl) (λ_ _ _ _ _ _=>Yg (Wp (Za (Zu (W0 K) (pv 1) (Zi X9 Zf (pv 0)) (i:)) (Za (Zu (W0 K) (pv 1) (Zi Z8 (Zi X9 Zf (pv 0)) Zf) (i:)) (Za (Zu (W0 K) (pv 1) (Zi Z8 (Zi X9 Zf (pv 0)) Zf) (i:)) Zb)))))))))),?_⟩;refine ⟨Az _,λf hf=>?_⟩;have eL:(((M.map mV).length:Nat):Int).toNat=M.length:=by simp
  have ha1:(upd H f (.lst [])) a=some (.lst (M.map mV)):=by rw [Ze (Zl ha hf)]; exact ha
  dsimp only [Zm];show tSeq (tFor _ _ _) _ _ _ _;refine Z0 (λσ H1=>∃ (v4 v5:Option V),σ=[some (.ref a),some (.int st),some (.int sp),some (.ref f),v4,v5]/\Same H H1/\H1 f=some (.lst ((flat M st sp).map V.int))) (λnx gw=>?_) ?_
  ·refine ⟨_,Y,a,_,Y,.inl (SqL.of ha1),_,Y,by lia,by rw [Ab]; lia,?_⟩
   rw [eL];refine Xn (n:=M.length) (λi σ H1=>∃ (v4 v5:Option V),σ=[some (.ref a),some (.int st),some (.int sp),some (.ref f),v4,v5]/\Same H H1/\H1 f=some (.lst (((List.range i).map λi=>nm st sp (rep M i)).map V.int))) ⟨none,none,Y,Same.new hf,Zc⟩ ?_ ?_
   ·rintro i σ H1 gj ⟨v4,v5,rfl,sm,kr⟩
    refine ⟨_,Y,_,Y,a,_,_,_,Y,Y,SqL.of (sm _ _ ha),Znx gj,?_⟩;have fin:∀ x:Int,x=nm st sp (rep M i)->(upd H1 f (.lst (((List.range i).map λi=>nm st sp (rep M i)).map V.int ++ [V.int x]))) f=some (.lst (((List.range (i + 1)).map λi=>nm st sp (rep M i)).map V.int)):=λx hx=>by
     rw [Zc,hx,range_succ]
     simp
    have fw:(((List.range i).map λi=>nm st sp (rep M i)).map V.int).length < sizeLine:=by
     rw [Ab,Ab,length_range]; exact Zx (by lia)
    refine ⟨_,Y,Y,_,Y,?_⟩
    cases e:M[i] with
    | none =>
     have er:rep M i=i:=by unfold rep; rw [Ac gj,e]
     refine iteF ?_;refine iteF ?_;refine ⟨_,Y,.inl ⟨Y,_,SqL.of kr⟩,_,Y,_,Y,_,Y,_,_,Y,Y,.inl (Ol jh),_,_,Y,Y,_,_,Y,Y,(by show (0:Int) < 10000; decide),f,_,_,rfl,rfl,kr,fw,?_⟩;exact ⟨_,_,Y,Same.add sm hf,fin _ (by rw [er]; unfold nm; rw [Int.zero_add])⟩
    | some j =>
     have hMi:M[i]?=some (some j):=by rw [Ac gj,e]
     refine iteT ?_;refine ⟨_,Y,_,Y,_,_,Y,Y,_,Y,?_⟩;refine ite2 (λg=>?_) (λg=>?_)
     ·have g:j < i:=by have:=of_decide_eq_true g; lia
      have er:rep M i=j:=by unfold rep; rw [hMi]; exact if_pos g
      have erj:rep M j=j:=by unfold rep; rw [(hi i j hMi).1]; exact if_neg (by lia)
      have ej:atI (((List.range i).map λi=>nm st sp (rep M i)).map V.int) (j:Int)=some (V.int (nm st sp (rep M i))):=by
       refine Yz ?_;rw [Ah,Ah,getElem?_range g,er];show some (V.int (nm st sp (rep M j)))=_;rw [erj]
      refine ⟨_,Y,.inl ⟨Y,_,SqL.of kr⟩,_,Y,_,Y,f,_,_,_,Y,Y,SqL.of kr,ej,f,_,_,Y,Y,kr,fw,?_⟩;exact ⟨_,_,Y,Same.add sm hf,fin _ Y⟩
     ·have g:¬ j < i:=by
       have:¬ ((j:Int) < 0 + (i:Int)):=λz=>g (decide_eq_true z);lia
      have er:rep M i=i:=by unfold rep; rw [hMi]; exact if_neg g
      refine ⟨_,Y,.inl ⟨Y,_,SqL.of kr⟩,_,Y,_,Y,_,Y,_,_,Y,Y,.inl (Ol jh),_,_,Y,Y,_,_,Y,Y,(by show (0:Int) < 10000; decide),f,_,_,rfl,rfl,kr,fw,?_⟩;exact ⟨_,_,Y,Same.add sm hf,fin _ (by rw [er]; unfold nm; rw [Int.zero_add])⟩
   ·rintro σ H1 ⟨v4,v5,rfl,sm,kr⟩
    exact gw _ _ ⟨v4,v5,Y,sm,kr⟩
  rintro σ H1 ⟨v4,v5,rfl,sm,kr⟩;refine ⟨_,Y,a,_,Y,.inl (SqL.of (sm _ _ ha)),_,_,Y,Y,⟨by decide,by decide⟩,_,Y,by rw [Ab]; lia,by rw [Ab]; lia,λD hD=>?_⟩;have eD:((((M.map mV).length:Nat):Int) / 3).toNat=n:=by rw [Ab,hM]; lia
  have uy:H D=none:=sm.free hD;have hfD:f≠D:=λz=>by rw [z] at kr; rw [hD] at kr; cases kr
  have hlf:(flat M st sp).length=3 * n:=by unfold flat; simp [hM]
  show Wy (Itr 0 ((((M.map mV).length:Nat):Int) / 3).toNat) _ _ _ _ _ _;rw [eD];refine Qd (λi σ H2=>∃ (ts:List Addr) (v:Option V),σ=[v,some (.ref f)]/\Same H H2/\H2 D=some (.lst (ts.map V.ref))/\ts.length=i/\H2 f=some (.lst ((flat M st sp).map V.int))/\∀ (k:Nat) (t:Addr),ts[k]?=some t->H2 t=some (.tup (row3 (flat M st sp) k)))
   ⟨[],none,rfl,Same.add sm uy,Zc,rfl,by rw [Ze hfD]; exact kr,λk t z=>by simp at z⟩ ?_ ?_
  ·rintro i σ H2 gj ⟨ts,v,rfl,ua,g1,ij,g2,g3⟩
   have at':∀ (c:Nat) (z:Int),c < 3->z=3 * (0 + (i:Int)) + c->atI ((flat M st sp).map V.int) z=some (V.int ((flat M st sp).getD (3 * i + c) 0)):=λc z hc hz=>by
    have e:z=((3 * i + c:Nat):Int):=by lia
    rw [e];exact Yz (getI (by lia))
   dsimp only [Zm,tYes];rw [if_pos rfl];refine ⟨_,Y,_,Y,_,_,Y,Y,.inl ⟨by decide,by decide⟩,f,_,_,_,Y,Y,SqL.of g2,at' 0 _ (by decide) (by simp),?_⟩;refine ⟨_,Y,_,Y,_,_,Y,Y,.inl ⟨by decide,by decide⟩,_,_,Y,Y,f,_,_,_,Y,Y,SqL.of g2,at' 1 _ (by decide) Y,?_⟩;refine ⟨_,Y,_,Y,_,_,Y,Y,.inl ⟨by decide,by decide⟩,_,_,Y,Y,f,_,_,_,Y,Y,SqL.of g2,at' 2 _ (by decide) Y,?_⟩;refine ⟨(by show 3<=sizeLine; decide),λq hq=>?_⟩;have hqD:q≠D:=λz=>by rw [z,g1] at hq; cases hq
   have hqf:q≠f:=λz=>by rw [z,g2] at hq; cases hq
   have wm:H q=none:=ua.free hq;refine ⟨_,by rw [Ze (Ne.symm hqD)]; exact g1,(by rw [Ab]; exact Zx (by lia)),ts ++ [q],_,Y,Same.add (Same.add ua wm) uy,?_,?_,?_,?_⟩
   ·rw [Zc]; simp
   ·rw [Ae,At,ij]
   ·rw [Ze hfD,Ze (Ne.symm hqf)]; exact g2
   ·intro k t z
    by_cases hk:k < ts.length
    ·rw [Av hk] at z
     have g:=g3 k t z;rw [Ze (λe=>by rw [e,g1] at g; cases g),Ze (Zl g hq)];exact g
    ·have wu:k=ts.length:=by
      have:=(Aa z).1;rw [Ae,At] at this;lia
     subst wu;have:t=q:=by simpa using z.symm
     subst this;rw [Ze hqD,Zc,ij];rfl
  ·rintro σ H2 ⟨ts,v,rfl,ua,g1,ij,g2,g3⟩
   exact k D H2 ua uy ⟨ts,g1,by rw [hlf,ij],g3⟩
def at4 (h0:0<=i) (h1:i < 4):∃ sh:Int,atI [V.int 0,V.int 0,V.int 1,V.int 3] i=some (V.int sh):=by
 obtain rfl | rfl | rfl | rfl:i=0\/i=1\/i=2\/i=3:=by lia
 all_goals exact ⟨_,Y⟩
def at8 (h0:0<=i) (h1:i < 8):∃ sp:Int,sp∈Vo/\atI [V.int 1,V.int 3,V.int 7,V.int 9,V.int 37,V.int 1009,V.int 3333,V.int 9999] i=some (V.int sp):=by
 obtain rfl | rfl | rfl | rfl | rfl | rfl | rfl | rfl:i=0\/i=1\/i=2\/i=3\/i=4\/i=5\/i=6\/i=7:=by lia
 all_goals exact ⟨_,by decide,Y⟩
def Zk9 (K:W.Frag):Sp:=λvs H Q _=>∃ (a:Addr) (ns:List Int),vs=[.ref a]/\SqL K H a (ns.map V.int)/\ns.length<=63 /\
 ∀ (p m r:Addr) (M:Lq) (nms:List Int) (H':Hp),Same H H'->H' p=some (.tup [.ref m,.ref r])->H' m=some (.lst (M.map mV))->X0 H' r nms->TD M nms->M.length<=42->H m=none->H r=none->Q (.ref p) H'
def X1:FnScope ["_law_script","_law_head","_law_many","_law_names","_law_share","_law_mates","_law_step"] ["_law_script"] (Zh Za8):=Am
def Zhj (T:Txt w K mg t):FnOk P w K mg base (CXr P w) 2 t.df t.dw ["_law_script"] (Zk9 K):=by
 refine T.dD.F.aR X1 (b:)
 ·obtain ⟨a,ns,rfl,hS,hl,k⟩:=h
  refine ⟨_,(Zd (Zs (i:=1) X1.nd Y (Or.inl Y) (pcT (W3 T) hr T.aA (Za (pv 0) (Za Zf Zb))))
   (Zd (Zs (i:=2) X1.nd rfl (e:) (Zi Z8 Zf (Zi Zz (pv 1) Zf)))
   (Zd (Zy (Zq Xc (Zi Zz (Zi Ys (pv 1) Zf) Zf) Zf (Zt _)) (Zg (Zs (i:=2) X1.nd rfl (e:) (Zi Z8 Zf (Zi Zz (Zi Ys (pv 1) Zf) Zf)))) Zv)
   (Zd (Zs (i:=3) X1.nd rfl (e:) (pcT (W3 T) hr T.aA (Za (pv 0) (Za Zf Zb))))
   (Zd (Zs (i:=4) X1.nd rfl (e:) (Zu Ux (Wp (Za Zf (Za Zf (Za Zf (Za Zf Zb))))) (Zi Zz (pv 3) Zf) (i:)))
   (Zd (Zs (i:=5) X1.nd rfl (e:) (pcT (Zhk T) hr T.dB (Za (pcT (Qr T) hr T.aF (Za (pcT (W3 T) hr T.aA (Za (pv 0) (Za Zf Zb))) (Za Zf Zb))) (Za (pv 2) (Za (pv 4) Zb)))))
   (Zd (Zs (i:=6) X1.nd rfl (e:) (Zu Ux (Wp (Za Zf (Za Zf (Za Zf (Za Zf (Za Zf (Za Zf (Za Zf (Za Zf Zb))))))))) (Zi Zz (Zi Ys (pv 3) Zf) Zf) (i:)))
   (Zg (Zn (Wp (Za (pv 5) (Za (pcT (Zhl T) hr T.dC (Za (pv 5) (Za (Zi Zz (Zi Ys (pv 3) Zf) Zf) (Za (pv 6) Zb)))) Zb)))))))))))),?_⟩;refine ⟨_,Y,a,ns,0,Y,hS,hl,by decide,by decide,?_⟩;generalize cell ns 0=hd;refine ⟨_,Y,_,_,Y,Y,(by show (0:Int) < 6; decide),_,_,rfl,rfl,?_⟩;dsimp only [Zm];show tSeq (tIfS _ _ _) _ _ _ _;refine Z0 (λσ H1=>∃ n:Nat,1<=n/\n<=14/\σ=[some (.ref a),some (.int hd),some (.int n),none,none,none,none]/\H1=H) (λnx gw=>?_) ?_
  ·refine ⟨_,Y,_,_,Y,Y,⟨by decide,by decide⟩,_,_,Y,Y,(by show (0:Int) < 9; decide),rfl,_,rfl,?_⟩
   refine ite2 (λ_=>?_) (λ_=>?_)
   ·refine ⟨_,Y,_,_,Y,Y,⟨by decide,by decide⟩,_,_,Y,Y,(by show (0:Int) < 8; decide),_,_,rfl,rfl,?_⟩
    have e:(7 + hd / 54 % 8:Int)=((7 + (hd / 54 % 8).toNat:Nat):Int):=by lia
    exact gw _ _ ⟨7 + (hd / 54 % 8).toNat,by lia,by lia,by rw [<- e]; rfl,rfl⟩
   ·have e:(1 + hd % 6:Int)=((1 + (hd % 6).toNat:Nat):Int):=by lia
    exact gw _ _ ⟨1 + (hd % 6).toNat,by lia,by lia,by rw [<- e]; rfl,rfl⟩
  rintro σ H1 ⟨n,n1,n2,rfl,rfl⟩;refine ⟨_,Y,a,ns,2,Y,hS,hl,by decide,by decide,?_⟩;generalize cell ns 2=nam;refine ⟨(by show 4<=sizeLine; decide),λq hq=>?_⟩;have m4:0<=nam % 4/\nam % 4 < 4:=by lia
  obtain ⟨sh,esh⟩:=at4 m4.1 m4.2;refine ⟨_,Y,_,_,Y,Y,(by show (0:Int) < 4; decide),q,_,_,_,rfl,rfl,SqT.of Zc,esh,?_⟩;have s1:Same H1 (upd H1 q (.tup [V.int 0,V.int 0,V.int 1,V.int 3])):=Same.new hq;refine ⟨_,Y,a,ns,1,Y,s1.seq hS,hl,by decide,by decide,?_⟩;refine ⟨_,60,Y,by decide,λp xs H2 s2 hp h2 h60 hx=>?_⟩;refine ⟨_,Y,_,Y,p,xs,n,sh,Y,h2,h60,hx,n1,n2,λm M H3 s3 hm hM fw j3=>?_⟩;have yx:Same H1 H3:=(s1.trans s2).trans s3;have kq:H1 m=none:=(s1.trans s2).free hm;refine ⟨(by show 8<=sizeLine; decide),λq2 wk=>?_⟩;have m8:0<=nam / 4 % 8/\nam / 4 % 8 < 8:=by lia
  obtain ⟨sp,jh,esp⟩:=at8 m8.1 m8.2;refine ⟨_,Y,_,_,Y,Y,⟨by decide,by decide⟩,_,_,Y,Y,(by show (0:Int) < 8; decide),q2,_,_,_,rfl,rfl,SqT.of Zc,esp,?_⟩;have yw:Same H1 (upd H3 q2 (.tup [V.int 1,V.int 3,V.int 7,V.int 9,V.int 37,V.int 1009,V.int 3333,V.int 9999])):=Same.add yx (yx.free wk);have hM4:(upd H3 q2 (.tup [V.int 1,V.int 3,V.int 7,V.int 9,V.int 37,V.int 1009,V.int 3333,V.int 9999])) m=some (.lst (M.map mV)):=by rw [Ze (Zl hM wk)]; exact hM
  refine ⟨_,Y,_,Y,_,Y,_,_,Y,Y,⟨by decide,by decide⟩,_,_,Y,Y,(by show (0:Int) < 10000; decide),_,rfl,m,M,n,_,sp,rfl,hM4,fw,n1,n2,j3,jh,λr H5 s5 hr5 hrow=>?_⟩;refine ⟨(by show 2<=sizeLine; decide),λp5 wo=>?_⟩;have s15:=yw.trans s5;have md:H1 r=none:=yw.free hr5;refine k p5 m r M _ _ (Same.add s15 (s15.free wo)) Zc ?_ (hrow.same (Same.new wo)) (Zk2 n1 n2 fw j3 jh) (by lia) kq md;rw [Ze (Zl (s5 _ _ hM4) wo)];exact s5 _ _ hM4
def spk (ns:List Int) (n:Nat) (f:Int->Addr):List (Key × V):=(keys ns n).map λx=>((Sum.inl x:Key),V.ref (f x))
structure SpotsF (H:Hp) (ns:List Int) (n:Nat) (f:Int->Addr):Prop where
 inj:∀ x∈keys ns n,∀ y∈keys ns n,f x=f y->x=y
 at':∀ x∈keys ns n,H (f x)=some (.lst ((pl ns n x).map nV))
def Zcy:Sp:=λvs H Q _=>∃ (a:Addr) (M:Lq) (ns:List Int),vs=[.ref a]/\H a=some (.lst (ns.map V.int))/\TD M ns/\ns.length<=120 /\
 ∀ (d:Addr) (f:Int->Addr) (H':Hp),Same H H'->H d=none->H' d=some (.dK (spk ns ns.length f))->SpotsF H' ns ns.length f->(∀ x∈keys ns ns.length,H (f x)=none)->Q (.ref d) H'
def Js:FnScope ["names_at","spots","place","name"] ["names_at"] (Zh Kl):=Am
def Zc8 (T:Txt w K mg t):FnOk P w K mg base (CXr P w) 1 t.ci t.cv ["names_at"] Zcy:=by
 refine T.cB.F.aR Js (b:)
 ·obtain ⟨a,M,ns,rfl,ha,td,hl,k⟩:=h
  have hu:=Q1 hr;refine ⟨_,(Zd (Zs (i:=1) Js.nd Y (Or.inl Y) Zbv)
   (Zd (Ye PassesOwn.never rfl (Zlv rfl T.dH (Za (pv 0) Zb)) (Vc rfl (Yq (Zp (i:=2) Js.nd rfl (e:)) (Yq (Zp (i:=3) Js.nd rfl (e:)) Ji))) (Zd (Zy (PW.pt (Wj (Zq Jv (pv 3) Zf (Zt _)) (X7 (Zq Qa (pv 3) (Zd7 (v:=.int 9999) rfl T.cf ⟨_,rfl⟩) (Zt _))))) Xi Zv)
   (Zd (Y9 (Ju PySem.F.plainAttrs_list PySem.F.slot_list_append PySem.F.type_list_append Xl (Zjf (pv 1) (pv 3) (Xj Zb) ⟨rfl,rfl,rfl,rfl⟩) (Za (pv 2) Zb)))
   (Zg (Zy (Zq Qa (Zk Zj (by rfl) T.ae PySem.boot_len (Za (Wb hu (pv 1) (pv 3) (i:)) Zb)) Zf (Zt _)) Xi Zv)))))
   (Zg (Zn (pv 1))))),?_⟩
  intro d hd;have hda:a≠d:=Zl ha hd;dsimp only [Zm];show tSeq (tFor _ _ _) _ _ _ _;refine Z0 (λσ H1=>∃ (f:Int->Addr) (v2 v3:Option V),σ=[some (.ref a),some (.ref d),v2,v3]/\Same H H1/\H1 d=some (.dK (spk ns ns.length f))/\SpotsF H1 ns ns.length f/\∀ x∈keys ns ns.length,H (f x)=none) (λnx gw=>?_) ?_
  ·refine ⟨_,Y,a,Y,⟨_,SqL.of (by rw [Ze hda]; exact ha)⟩,?_⟩
   have el:(ns.map V.int).length=ns.length:=by simp
   refine Zj7 (xs:=ns.map V.int) (λi σ H1=>∃ (f:Int->Addr) (v2 v3:Option V),σ=[some (.ref a),some (.ref d),v2,v3]/\Same H H1/\H1 d=some (.dK (spk ns i f))/\SpotsF H1 ns i f/\∀ x∈keys ns i,H (f x)=none)
    ⟨λ_=>0,none,none,rfl,Same.new hd,Zc,⟨λx hx=>by simp [keys] at hx,λx hx=>by simp [keys] at hx⟩,λx hx=>by simp [keys] at hx⟩ ?_ ?_ ?_
   ·rintro i σ H1 _ ⟨f,v2,v3,rfl,sm,_⟩
    exact SqL.of (sm _ _ ha)
   ·rintro i x0 σ H1 q hx hq ⟨f,v2,v3,rfl,sm,l8,sf,ku⟩
    have hi:i < ns.length:=by rw [<- el]; exact (Aa hx).1
    obtain ⟨x,jt⟩:∃ x,ns[i]?=some x:=⟨_,Ac hi⟩;obtain rfl:x0=V.int x:=by rw [Ah,jt] at hx; exact (Ax hx).symm
    refine ⟨q,_,Y,SqT.of Zc,Y,_,_,Y,_,_,Y,Y,?_⟩;obtain ⟨x0,x1⟩:=td.rng i x jt;refine ⟨_,Y,_,_,Y,Y,_,Y,?_⟩;rw [decide_eq_false (by lia:¬ x < 0)];refine iteF ?_;refine ⟨_,Y,_,_,Y,Y,_,Y,?_⟩;rw [decide_eq_false (by lia:¬ x > 9999)];refine iteF ?_;have hdq:d≠q:=Zl l8 hq;have jn:(upd H1 q (.tup [.int i,.int x])) d=some (.dK (spk ns i f)):=by rw [Ze hdq]; exact l8
    dsimp only [Y8];show tSeq (Zkl _) _ _ _ _;refine Z0 (λσ H2=>∃ (f:Int->Addr),σ=[some (.ref a),some (.ref d),some (.int i),some (.int x)]/\Same H H2/\H2 d=some (.dK (spk ns (i + 1) f))/\SpotsF H2 ns (i + 1) f/\∀ x∈keys ns (i + 1),H (f x)=none) (λnx2 xt=>?_) ?_
    ·refine ⟨_,Y,d,Y,.inl ⟨_,.inl jn⟩,_,Y,Az _,λl jl=>?_⟩
     obtain ⟨hlq,i8⟩:=Ql jl;have hdl:d≠l:=Zl l8 i8;have hd3:(upd (upd H1 q (.tup [.int i,.int x])) l (.lst [])) d=some (.dK (spk ns i f)):=by rw [Ze hdl]; exact jn
     have hlk:(spk ns i f).length < sizeLine:=by unfold spk; rw [Ab]; exact Zx (by have:=O4 ns i; lia)
     have wm:H q=none:=sm.free hq;have qp:H l=none:=sm.free i8;have smq:Same H (upd (upd H1 q (.tup [.int i,.int x])) l (.lst [])):=Same.add (Same.add sm wm) qp;have me:(pl ns i x).length < sizeLine:=Zx (by have:=Zbr td i x; lia);have old:∀ b u,H1 b=some u->(upd (upd H1 q (.tup [.int i,.int x])) l (.lst [])) b=some u:=λb u e=>by rw [Ze (Zl e i8),Ze (Zl e hq)]; exact e
     refine ⟨spk ns i f,Sum.inl x,hd3,hlk,Y,λv hv=>?_,λhv=>?_⟩
     ·-- the name stands already
      have n8:x∈keys ns i:=by
       unfold spk at hv;rw [Jb] at hv;by_cases c:x∈keys ns i
       ·exact c
       ·rw [if_neg c] at hv; cases hv
      obtain rfl:v=V.ref (f x):=by
       unfold spk at hv;rw [Jb,if_pos n8] at hv;exact (Ax hv).symm
      have ek:keys ns (i + 1)=keys ns i:=by rw [Xm jt,if_pos n8]
      have pj:=old _ _ (sf.at' x n8);refine ⟨.inl ⟨Y,_,SqL.of pj⟩,_,Y,f x,_,_,Y,Y,pj,by rw [Ab]; exact me,xt _ _ ⟨f,Y,Same.add smq (ku x n8),?_,⟨?_,?_⟩,?_⟩⟩
      ·have:d≠f x:=λz=>by rw [<- z,hd3] at pj; cases pj
       rw [Ze this,hd3];unfold spk;rw [ek]
      ·rw [ek]; exact sf.inj
      ·intro y hy
       rw [ek] at hy;by_cases c:y=x
       ·subst c
        rw [Zc,Zd4 jt,Aj];rfl
       ·have:f y≠f x:=λz=>c (sf.inj y hy x n8 z)
        rw [Ze this,old _ _ (sf.at' y hy),Zbq (by rw [jt]; intro z; cases z; exact c Y)]
      ·rw [ek]; exact ku
     ·-- a new name
      have n8:x ∉ keys ns i:=by
       intro c;unfold spk at hv;rw [Jb,if_pos c] at hv;cases hv
      have ek:keys ns (i + 1)=keys ns i ++ [x]:=by rw [Xm jt,if_neg n8]
      have ep:putK (spk ns i f) (Sum.inl x) (V.ref l)=spk ns (i + 1) (λy=>if y=x then l else f y):=by
       unfold spk;rw [Zdz n8,ek,Aj];congr 1
       ·apply map_congr_left
        intro y hy;dsimp only;rw [if_neg (λ(z:y=x)=>n8 (z ▸ hy))]
       ·simp
      rw [ep];have zr:(upd (upd (upd H1 q (.tup [.int i,.int x])) l (.lst [])) d (.dK (spk ns (i + 1) (λy=>if y=x then l else f y)))) l=some (.lst []):=by rw [Ze (Ne.symm hdl),Zc]
      refine ⟨.inl ⟨Y,_,SqL.of zr⟩,_,Y,l,_,_,Y,Y,zr,by decide,xt _ _ ⟨λy=>if y=x then l else f y,Y,Same.add (Same.add smq hd) qp,?_,⟨?_,?_⟩,?_⟩⟩
      ·rw [Ze hdl,Zc]
      ·intro y hy z hz e
       rw [ek,mem_append,mem_singleton] at hy hz;by_cases c1:y=x
       ·by_cases c2:z=x
        ·rw [c1,c2]
        ·have rk:=hz.resolve_right c2
         simp only [c1,c2,if_true,if_false] at e;exact absurd (sf.at' z rk) (by rw [<- e,i8]; intro w; cases w)
       ·have jq:=hy.resolve_right c1
        by_cases c2:z=x
        ·simp only [c1,c2,if_true,if_false] at e
         exact absurd (sf.at' y jq) (by rw [e,i8]; intro w; cases w)
        ·have rk:=hz.resolve_right c2
         simp only [c1,c2,if_false] at e;exact sf.inj y jq z rk e
      ·intro y hy
       rw [ek,mem_append,mem_singleton] at hy;by_cases c:y=x
       ·subst c
        simp only [if_true];rw [Zc,Zd4 jt,Znk n8];rfl
       ·have jq:=hy.resolve_right c
        have e1:=sf.at' y jq;have n1:f y≠l:=Zl e1 i8;have n2:f y≠d:=λz=>by rw [z,l8] at e1; cases e1
        simp only [c,if_false];rw [Ze n1,Ze n2,old _ _ e1,Zbq (by rw [jt]; intro z; cases z; exact c Y)]
      ·intro y hy
       rw [ek,mem_append,mem_singleton] at hy;by_cases c:y=x
       ·simp only [c,if_true]; exact qp
       ·simp only [c,if_false]; exact ku y (hy.resolve_right c)
    rintro σ H2 ⟨f',rfl,ua,hd4,sf2,zw⟩;have hx3:x∈keys ns (i + 1):=Yy.mpr ⟨i,by lia,jt⟩;have hg:valV (spk ns (i + 1) f') (Sum.inl x)=some (V.ref (f' x)):=by unfold spk; rw [Jb,if_pos hx3]
    refine ⟨_,Y,_,Y,d,_,Y,?_,f' x,_,Y,.inl (SqL.of (sf2.at' x hx3)),_,_,Y,Y,_,Y,?_⟩
    ·exact .inl ⟨_,Sum.inl x,.inl hd4,Y,hg.symm⟩
    have h2:=Zbr td (i + 1) x;rw [decide_eq_false (by rw [Ab]; lia:¬ ((((pl ns (i + 1) x).map nV).length:Nat):Int) > 2)];refine iteF ?_;exact ⟨f',_,_,Y,ua,hd4,sf2,zw⟩
   ·rintro σ H1 ⟨f,v2,v3,rfl,sm,l8,sf,ku⟩
    rw [el] at l8 sf ku;exact gw _ _ ⟨f,v2,v3,Y,sm,l8,sf,ku⟩
  rintro σ H1 ⟨f,v2,v3,rfl,sm,l8,sf,ku⟩;exact ⟨_,Y,k d f H1 sm hd l8 sf ku⟩
def Zcz:Sp:=λvs H Q _=>∃ (d:Addr) (M:Lq) (ns:List Int) (f:Int->Addr),vs=[.ref d,.int ns.length]/\H d=some (.dK (spk ns ns.length f))/\SpotsF H ns ns.length f/\TD M ns/\ns.length<=120 /\
 ∀ (m:Addr) (o:Obj) (H':Hp),(∀ b u,b≠d->H b=some u->H' b=some u)->H m=none->H' m=some (.lst (M.map mV))->H' d=some (.frz o (.dK (spk ns ns.length f)))->Q (.ref m) H'
def Q3:FnScope ["spots","count","mates","pair"] ["spots","count"] (Zh Km):=Am
def Zc9 (T:Txt w K mg t):FnOk P w K mg base (CXr P w) 1 t.cj t.cw ["spots","count"] Zcz:=by
 refine T.cC.F.aR Q3 (b:)
 ·obtain ⟨d,M,ns,f,rfl,hd,sf,td,hl,k⟩:=h
  refine ⟨_,(Zd (Zs (i:=2) Q3.nd Y (Or.inl Y) (Zi Kw (Xj (Za W7 Zb)) (pv 1)))
   (Zd (Ye PassesOwn.never rfl (Zlt (pv 0) ⟨rfl,rfl,rfl⟩) (Zp (i:=3) Q3.nd rfl (e:)) (Zg (Zy (Zq Xc (Zk Zj (by rfl) T.ae PySem.boot_len (Za (pv 3) Zb)) Zf (Zt _)) (Zd (Wg (Zu Zr (pv 3) Zf (i:)) (Jz (pv 2) (Zu Zr (pv 3) Zf (i:)) Xp))
   (Zg (Wg (Zu Zr (pv 3) Zf (i:)) (Jz (pv 2) (Zu Zr (pv 3) Zf (i:)) Xp)))) Zv)))
   (Zg (Zn (pv 2))))),?_⟩;refine ⟨(by show 1<=sizeLine; decide),λq hq=>?_⟩;refine ⟨_,Y,q,_,_,Y,Y,Zc,by lia,by lia,?_,λm hm=>?_⟩
  ·have:((ns.length:Nat):Int).toNat=ns.length:=by lia
   show 1 * ((ns.length:Nat):Int).toNat<=sizeLine;rw [this,sizeLine_eq]; lia
  obtain ⟨hmq,kq⟩:=Ql hm;have eM:(List.replicate ((ns.length:Nat):Int).toNat [V.non]).flatten=(part M ns []).map mV:=by
   have:((ns.length:Nat):Int).toNat=M.length:=by rw [<- td.len]; lia
   rw [this,flatten_replicate_singleton,Zjj td,map_replicate]
   rfl
  rw [eM];have zy:d≠m:=Zl hd kq;have hdq:d≠q:=Zl hd hq;dsimp only [Zm];show tSeq (tFor _ _ _) _ _ _ _;refine Z0 (λσ H1=>∃ (o:Obj) (v:Option V),σ=[some (.ref d),some (.int ns.length),some (.ref m),v]/\(∀ b u,b≠d->H b=some u->H1 b=some u)/\H1 m=some (.lst (M.map mV))/\H1 d=some (.frz o (.dK (spk ns ns.length f)))) (λnx gw=>?_) ?_
  ·refine ⟨_,Y,d,_,Y,.inl ⟨by rw [Ze zy,Ze hdq]; exact hd,λo=>?_⟩⟩
   refine Zj6 (λj σ H1=>∃ (v:Option V),σ=[some (.ref d),some (.int ns.length),some (.ref m),v]/\(∀ b u,b≠d->H b=some u->H1 b=some u)/\H1 m=some (.lst ((part M ns ((h:).take j)).map mV))/\H1 d=some (.frz o (.dK (spk ns ns.length f))))
    ⟨none,rfl,λb u hb e=>?_,?_,Zc⟩ ?_ ?_ ?_
   ·rw [Ze hb,Ze (Zl e kq),Ze (Zl e hq)]; exact e
   ·rw [Ze (Ne.symm zy),Zc]
    rfl
   ·rintro j σ H1 _ ⟨v,rfl,old,h1,h2⟩
    exact h2
   ·rintro j k0 x0 σ H1 hk ⟨v,rfl,old,h1,h2⟩
    obtain ⟨x,hx,rfl⟩:∃ x,(keys ns ns.length)[j]?=some x/\x0=V.ref (f x):=by
     unfold spk at hk;rw [Ah] at hk
     cases e:(keys ns ns.length)[j]? with
     | none=>rw [e] at hk; cases hk
     | some x=>rw [e] at hk; cases hk; exact ⟨x,Y,Y⟩
    have hm1:x∈keys ns ns.length:=Au hx;have et:(h:).take (j + 1)=(h:).take j ++ [x]:=by
     rw [Aw,hx]; rfl
    have pj:=sf.at' x hm1;have hfd:f x≠d:=λz=>by rw [z,hd] at pj; cases pj
    have qt:=old _ _ hfd pj;dsimp only [Zm];refine ⟨_,Y,f x,_,Y,.inl (SqL.of qt),Y,_,Y,?_⟩
    rcases O2 td hm1 with ⟨a,e,ea,ma⟩ | ⟨a,b,im,e,ea,eb,ma,mb⟩
    ·rw [e] at qt ⊢
     refine iteF ?_;refine ⟨_,Y,old,?_,h2⟩;rw [et,Zji td e ma];exact h1
    ·rw [e] at qt ⊢
     refine iteT ?_;have la:a < (part M ns ((h:).take j)).length:=by rw [Xq]; exact (Aa ma).1
     have lb:b < (part M ns ((h:).take j)).length:=by rw [Xq]; exact (Aa mb).1
     have qr:f x≠m:=Zl pj kq;refine ⟨_,Y,f x,_,_,_,Y,Y,SqL.of qt,Y,?_⟩;refine ⟨_,Y,_,Y,f x,_,_,_,Y,Y,SqL.of qt,Y,m,_,_,a,Y,Y,h1,(by rw [Ab]; exact Wc la),?_⟩;have zw:(upd H1 m (.lst (((part M ns ((h:).take j)).map mV).set a (nV b)))) (f x)=some (.lst ([a,b].map nV)):=by rw [Ze qr]; exact qt
     refine ⟨_,Y,f x,_,_,_,Y,Y,SqL.of zw,Y,?_⟩;refine ⟨_,Y,_,Y,f x,_,_,_,Y,Y,SqL.of zw,Y,m,_,_,b,Y,Y,Zc,(by rw [length_set,Ab]; exact Wc lb),?_⟩;refine ⟨_,Y,λc u hc ec=>?_,?_,?_⟩
     ·have:c≠m:=Zl ec kq
      rw [Ze this,Ze this];exact old c u hc ec
     ·rw [Zc,et,Zhg td e im ma mb]
      show some (HO.lst ((((part M ns ((h:).take j)).map mV).set a (mV (some b))).set b (mV (some a))))=_;rw [map_set,map_set]
     ·rw [Ze zy,Ze zy]; exact h2
   ·rintro σ H1 ⟨v,rfl,old,h1,h2⟩
    refine gw _ _ ⟨o,v,Y,old,?_,h2⟩;have:(h:).take (spk ns ns.length f).length=keys ns ns.length:=by
     unfold spk; rw [Ab,take_length]
    rw [this,Zjk td] at h1;exact h1
  rintro σ H1 ⟨o,v,rfl,old,h1,h2⟩;exact ⟨_,Y,k m o H1 old kq h1 h2⟩
def Wi (cl na sp mt:Addr):List (Str × V):=putF "mates" (.ref mt) (putF "spots" (.ref sp) (putF "names_at" (.ref na) (putF "cloths" (.ref cl) [])))
theorem Wz (f:Str) (v:V):∀ fs:List (Str × V),(putF f v fs).length<=fs.length + 1
 | []=>by simp [putF]
 | (g,x) :: r=>by
  have:=Wz f v r;unfold putF;split
  ·simp
  ·simp only [length_cons]; lia
def s_cn:¬ ("cloths":Str)="names_at":=by decide
def s_cs:¬ ("cloths":Str)="spots":=by decide
def s_cm:¬ ("cloths":Str)="mates":=by decide
def s_ns:¬ ("names_at":Str)="spots":=by decide
def s_nm:¬ ("names_at":Str)="mates":=by decide
def s_sm:¬ ("spots":Str)="mates":=by decide
def Zh6 (cl na sp mt:Addr):(Wi cl na sp mt).lookup ("cloths":Str)=some (.ref cl):=by
 unfold Wi; rw [Zw,if_neg s_cm,Zw,if_neg s_cs,Zw,if_neg s_cn,Zw,if_pos rfl]
def O8 (cl na sp mt:Addr):(Wi cl na sp mt).lookup ("names_at":Str)=some (.ref na):=by
 unfold Wi; rw [Zw,if_neg s_nm,Zw,if_neg s_ns,Zw,if_pos rfl]
def O7 (cl na sp mt:Addr):(Wi cl na sp mt).lookup ("spots":Str)=some (.ref sp):=by
 unfold Wi; rw [Zw,if_neg s_sm,Zw,if_pos rfl]
def Zj8 (cl na sp mt:Addr):(Wi cl na sp mt).lookup ("mates":Str)=some (.ref mt):=by
 unfold Wi; rw [Zw,if_pos rfl]
def Yn (cl na sp mt:Addr) {m:Str} (h:m≠"cloths"/\m≠"names_at"/\m≠"spots"/\m≠"mates":=by decide):(Wi cl na sp mt).lookup m=none:=by
 obtain ⟨h1,h2,h3,h4⟩:=h;unfold Wi; rw [Zw,if_neg h4,Zw,if_neg h3,Zw,if_neg h2,Zw,if_neg h1]; rfl
structure TentB (C:Addr) (H:Hp) (p:Addr) (M:Lq) (ns:List Int) (dx cl na sp mt:Addr) (o:Obj) (f:Int->Addr):Prop where
 ins:H p=some (.ins C dx (Wi cl na sp mt))
 rows:X0 H cl ns
 names:H na=some (.lst (ns.map V.int))
 spots:H sp=some (.frz o (.dK (spk ns ns.length f)))
 mates:H mt=some (.lst (M.map mV))
 at':∀ x∈keys ns ns.length,H (f x)=some (.lst ((pl ns ns.length x).map nV))
def Z2 (C:Addr) (H:Hp) (p:Addr) (M:Lq) (ns:List Int):Prop:=∃ dx cl na sp mt o f,TentB C H p M ns dx cl na sp mt o f
def Z2.same (h:Z2 C H p M ns) (s:Same H H'):Z2 C H' p M ns:=by
 obtain ⟨dx,cl,na,sp,mt,o,f,b⟩:=h;exact ⟨dx,cl,na,sp,mt,o,f,s _ _ b.ins,b.rows.same s,s _ _ b.names,s _ _ b.spots,s _ _ b.mates,λx hx=>s _ _ (b.at' x hx)⟩
def Ziu {ns:List Int} {n:Nat} (h:ns.length=3 * n) (hk:k < n):(ns.take (3 * k)).map V.int ++ row3 ns k=(ns.take (3 * (k + 1))).map V.int:=by
 have e:ns.take (3 * (k + 1))=ns.take (3 * k) ++ [ns.getD (3 * k) 0,ns.getD (3 * k + 1) 0,ns.getD (3 * k + 2) 0]:=by
  have l0:3 * k < ns.length:=by lia
  have l1:3 * k + 1 < ns.length:=by lia
  have l2:3 * k + 2 < ns.length:=by lia
  have g:∀ i,i < ns.length->ns[i]?=some (ns.getD i 0):=λi hi=>by rw [Ad,Ac hi]; rfl
  rw [show 3 * (k + 1)=3 * k + 1 + 1 + 1 by lia,Aw,Aw,Aw,g _ l0,g _ l1,g _ l2,append_assoc,append_assoc];rfl
 rw [e,Aj];rfl
def Zaw (C:Addr):Sp:=λvs H Q _=>∃ (p r dx:Addr) (M:Lq) (ns:List Int),vs=[.ref p,.ref r]/\H p=some (.ins C dx [])/\X0 H r ns/\TD M ns/\ns.length<=120 /\
 ∀ (H':Hp),(∀ b u,b≠p->H b=some u->H' b=some u)->Z2 C H' p M ns->Q .non H'
def Za4:FnScope ["self","rows"] ["self","rows"] (Zh Ot):=Am
def Zb4 (T:Txt w K mg t):FnOk P w K mg base (CXr P w) 2 t.aM t.bV ["self","rows"] (Zaw t.aa):=by
  refine T.b7.F.aR Za4 (b:)
  · obtain ⟨p,r,dx,M,ns,rfl,hp,⟨ts,j8,hr2,wj⟩,td,hl,k⟩:=h
    refine ⟨_,(Zd (Zy (Y7 (O0 (pv 1) (λ_=>rfl))) Xi Zv)
      (Zd (Ku (pv 0) (Yk (ts:=["row"]) (fv:=[]) (bkO trivial) rfl (Ya (pv 1)) (λ_ _ _ _=>(Zp (i:=0) (show List.Nodup (["row"]:List Str) from by decide +kernel) rfl (e:) (Or.inr rfl))) (λ_ _ _ _=>Yb) (λ_ _ _=>rfl) (λ_ _ _ _ _ _=>Yg (Yl (G8 K) (by rfl) T.eU PySem.Pv.boot_tuple (Za (pv 0) Zb)))) rfl)
      (Zd (Ku (pv 0) (Yk (ts:=["row","name"]) (fv:=[]) (bkO trivial) rfl (Ya (X8 (pv 0) rfl)) (λ_ _ _ _=>(Zp (i:=0) (show List.Nodup (["row","name"]:List Str) from by decide +kernel) rfl (e:) (Or.inr rfl))) (λ_ _ _ _=>Yb) (λ_ _ _=>rfl) (λ_ _ _ _ _ _=>Zhf rfl rfl (Zd5 K (pv 0)) (Zp (i:=1) (show List.Nodup (["row","name"]:List Str) from by decide +kernel) rfl (e:) (Or.inr rfl)) Yb (pv 1))) rfl)
      (Zd (Ku (pv 0) (pcT (Zc8 T) hr T.cB (Za (X8 (pv 0) rfl) Zb)) rfl)
      (Zg (Ku (pv 0) (pcT (Zc9 T) hr T.cC (Za (X8 (pv 0) rfl) (Za (Zk Zj (by rfl) T.ae PySem.boot_len (Za (X8 (pv 0) rfl) Zb)) Zb))) rfl)))))),?_⟩;obtain ⟨n,n1,n2,hn⟩:=td.n;have hnn:ns.length=3 * n:=by rw [td.len,hn]
    have wf:ts.length=n:=by lia
    have hrp:r≠p:=λz=>by rw [z,hp] at j8; cases j8
    refine ⟨_,Y,true,.inl ⟨_,SqL.of j8,?_⟩,?_⟩
    · cases ts with
      | nil=>simp at wf; lia
      | cons _ _=>rfl
    refine iteF ?_;dsimp only [Y8];refine ⟨_,Y,r,Y,⟨_,SqL.of j8⟩,λD hD=>?_⟩;have hDp:D≠p:=λz=>by rw [z,hp] at hD; cases hD
    refine Ym (xs:=ts.map V.ref) (λi σ H1=>∃ (v:Option V),σ=[v]/\Same H H1/\H1 D=some (.lst ((ts.take i).map V.ref))) ⟨none,Y,Same.new hD,Zc⟩ ?_ ?_ ?_
    · rintro i σ H1 _ ⟨v,rfl,sm,h1⟩
      exact SqL.of (sm _ _ j8)
    · rintro i x σ H1 hx ⟨v,rfl,sm,h1⟩
      dsimp only [Zm,tYes];rw [if_pos rfl];obtain ⟨tt,ht,rfl⟩:=map_some hx;refine ⟨_,Y,tt,_,Y,.inr ⟨SqT.of (sm _ _ (wj i tt ht)),_,h1,(by rw [Ab,Ai]; exact Zx (by lia)),_,Y,Same.add sm hD,?_⟩⟩;rw [Zc,Aw,ht,Aj];rfl
    rintro σ H1 ⟨v,rfl,u8,h1⟩;rw [Ab,take_length] at h1;have zk:=u8 _ _ hp;refine ⟨_,Y,p,_,dx,_,Y,zk,T.ad,T.aG,by decide,?_⟩;have tm:∀ b u,b≠p->H b=some u->(upd H1 p (.ins t.aa dx (putF "cloths" (.ref D) []))) b=some u:=λb u hb e=>by rw [Ze hb]; exact u8 b u e
    have mo:(upd H1 p (.ins t.aa dx (putF "cloths" (.ref D) []))) D=some (.lst (ts.map V.ref)):=by rw [Ze hDp]; exact h1
    have me:(upd H1 p (.ins t.aa dx (putF "cloths" (.ref D) []))) p=some (.ins t.aa dx (putF "cloths" (.ref D) [])):=Zc
    have zf:∀ (k:Nat) (q:Addr),ts[k]?=some q->(upd H1 p (.ins t.aa dx (putF "cloths" (.ref D) []))) q=some (.tup (row3 ns k)):=λk q e=>by
      have e1:=wj k q e;have:q≠p:=λz=>by rw [z,hp] at e1; cases e1
      exact tm q _ this e1
    generalize upd H1 p (.ins t.aa dx (putF "cloths" (.ref D) []))=H2 at tm mo me zf ⊢;refine ⟨_,Y,p,_,dx,_,_,Y,me,T.ad,T.aG,Y,D,Y,⟨_,SqL.of mo⟩,λN hN=>?_⟩;have hND:N≠D:=λz=>by rw [z,mo] at hN; cases hN
    have hNp:N≠p:=λz=>by rw [z,me] at hN; cases hN
    refine Ym (xs:=ts.map V.ref) (λi σ H3=>∃ (v v':Option V),σ=[v,v']/\Same H2 H3/\H3 N=some (.lst ((ns.take (3 * i)).map V.int))) ⟨none,none,Y,Same.new hN,Zc⟩ ?_ ?_ ?_
    · rintro i σ H3 _ ⟨v,v',rfl,sm,h3⟩
      exact SqL.of (sm _ _ mo)
    · rintro i x σ H3 hx ⟨v,v',rfl,sm,h3⟩
      dsimp only [Zm,tYes];rw [if_pos rfl];obtain ⟨tt,ht,rfl⟩:=map_some hx;have hi:i < n:=by rw [<- wf]; exact (Aa ht).1
      refine ⟨_,Y,tt,Y,⟨_,SqT.of (sm _ _ (zf i tt ht))⟩,?_⟩;refine Zca (xs:=row3 ns i) (λj σ H4=>∃ (v':Option V),σ=[some (.ref tt),v']/\Same H2 H4/\H4 N=some (.lst ((ns.take (3 * i)).map V.int ++ (row3 ns i).take j))) ⟨v',Y,sm,by rw [h3,take_zero,append_nil]⟩ ?_ ?_ ?_
      · rintro j σ H4 _ ⟨v',rfl,sm,h4⟩
        exact SqT.of (sm _ _ (zf i tt ht))
      · rintro j x σ H4 hx ⟨v',rfl,sm,h4⟩
        dsimp only [Zm,tYes];rw [if_pos rfl];refine ⟨_,Y,_,h4,?_,_,Y,Same.add sm hN,?_⟩
        · rw [Ae,Ab,Ai,Ai]
          exact Zx (by have:(row3 ns i).length=3:=rfl; lia)
        · rw [Zc,Aw,hx,<- append_assoc]
          rfl
      · rintro σ H4 ⟨v',rfl,sm,h4⟩
        refine ⟨_,_,Y,sm,?_⟩;rw [h4,take_length,Ziu hnn hi]
    rintro σ H3 ⟨v,v',rfl,sm3,h3⟩;have eall:ns.take (3 * (ts.map V.ref).length)=ns:=by rw [Ab,wf,<- hnn,take_length]
    rw [eall] at h3;have hp3:=sm3 _ _ me;refine ⟨_,rfl,p,_,dx,_,rfl,hp3,T.ad,T.af,(by have h1:=Wz "cloths" (.ref D) []; simp only [length_nil] at h1; lia),?_⟩;have xk:∀ b u,b≠p->H2 b=some u->(upd H3 p (.ins t.aa dx (f:))) b=some u:=λb u hb e=>by rw [Ze hb]; exact sm3 b u e
    have uw:(upd H3 p (.ins t.aa dx (f:))) N=some (.lst (ns.map V.int)):=by rw [Ze hNp]; exact h3
    have wp:(upd H3 p (.ins t.aa dx (f:))) p=some (.ins t.aa dx (f:)):=Zc;generalize upd H3 p (.ins t.aa dx (putF "names_at" (.ref N) (putF "cloths" (.ref D) [])))=H4 at xk uw wp ⊢;have lk1:(f:).lookup ("names_at":Str)=some (.ref N):=by rw [Zw,if_pos rfl]
    refine ⟨_,Y,p,_,dx,_,_,Y,wp,T.ad,T.af,lk1,N,M,ns,Y,uw,td,hl,λd f H5 sm5 hd5 hd5' sf ku=>?_⟩;have wo:=sm5 _ _ wp;refine ⟨_,rfl,p,_,dx,_,rfl,wo,T.ad,T.ao,(by have h1:=Wz "cloths" (.ref D) []; have h2:=Wz "names_at" (.ref N) (putF "cloths" (.ref D) []); simp only [length_nil] at h1; lia),?_⟩;have hdp:d≠p:=λz=>by rw [z,wp] at hd5; cases hd5
    have zu:∀ x∈keys ns ns.length,f x≠p:=λx hx z=>by have:=ku x hx; rw [z,wp] at this; cases this
    have tj:∀ b u,b≠p->H4 b=some u->(upd H5 p (.ins t.aa dx (putF "spots" (.ref d) (f:)))) b=some u:=λb u hb e=>by rw [Ze hb]; exact sm5 b u e
    have wn:(upd H5 p (.ins t.aa dx (putF "spots" (.ref d) (f:)))) p=some (.ins t.aa dx (putF "spots" (.ref d) (f:))):=Zc;have zz:(upd H5 p (.ins t.aa dx (putF "spots" (.ref d) (f:)))) d=some (.dK (spk ns ns.length f)):=by rw [Ze hdp]; exact hd5'
    have sf6:SpotsF (upd H5 p (.ins t.aa dx (putF "spots" (.ref d) (f:)))) ns ns.length f:=⟨sf.inj,λx hx=>by rw [Ze (zu x hx)]; exact sf.at' x hx⟩;generalize upd H5 p (.ins t.aa dx (putF "spots" (.ref d) (putF "names_at" (.ref N) (putF "cloths" (.ref D) []))))=H6 at tj wn zz sf6 ⊢;have lk2:(putF "spots" (.ref d) (f:)).lookup ("spots":Str)=some (.ref d):=by rw [Zw,if_pos rfl]
    have lk3:(putF "spots" (.ref d) (f:)).lookup ("names_at":Str)=some (.ref N):=by rw [Zw,if_neg s_ns,Zw,if_pos rfl]
    have hN6:=tj _ _ hNp uw;have eln:(((ns.map V.int).length:Nat):Int)=(ns.length:Nat):=by rw [Ab]
    refine ⟨_,Y,p,_,dx,_,_,Y,wn,T.ad,T.ao,lk2,_,Y,p,_,dx,_,_,Y,wn,T.ad,T.af,lk3,N,_,Y,.inl (SqL.of hN6),d,M,ns,f,(by rw [eln]; rfl),zz,sf6,td,hl,λm o H7 xj hm7 hmm hdd=>?_⟩;have hpd:p≠d:=Ne.symm hdp;have hp7:=xj _ _ hpd wn;refine ⟨_,rfl,p,_,dx,_,rfl,hp7,T.ad,T.bI,(by have h1:=Wz "cloths" (.ref D) []; have h2:=Wz "names_at" (.ref N) (putF "cloths" (.ref D) []); have h3:=Wz "spots" (.ref d) (f:); simp only [length_nil] at h1; lia),?_⟩;have hmp:m≠p:=λz=>by rw [z,wn] at hm7; cases hm7
    have dN:N≠d:=λz=>by rw [z,zz] at hN6; cases hN6
    have tf:∀ b u,b≠p->b≠d->H6 b=some u->(upd H7 p (.ins t.aa dx (Wi D N d m))) b=some u:=λb u hb hbd e=>by rw [Ze hb]; exact xj b u hbd e
    have yh:∀ b u,b≠p->H4 b=some u->H6 b=some u/\b≠d:=λb u hb e=>⟨tj b u hb e,λz=>by rw [z,hd5] at e; cases e⟩;have nj:∀ b u,b≠p->H2 b=some u->(upd H7 p (.ins t.aa dx (Wi D N d m))) b=some u:=λb u hb e=>by
      obtain ⟨e6,hbd⟩:=yh b u hb (xk b u hb e)
      exact tf b u hb hbd e6
    refine k _ (λb u hb e=>nj b u hb (tm b u hb e)) ⟨dx,D,N,d,m,o,f,Zc,⟨ts,nj _ _ hDp mo,by lia,λk q e=>?_⟩,?_,?_,?_,?_⟩
    · have e1:=zf k q e
      exact nj q _ (λz=>by rw [z,me] at e1; cases e1) e1
    · exact tf _ _ hNp dN hN6
    · rw [Ze hdp]; exact hdd
    · rw [Ze hmp]; exact hmm
    · intro x hx
      have e1:=sf6.at' x hx;exact tf _ _ (zu x hx) (λz=>by rw [z,zz] at e1; cases e1) e1
def Xa (ns:List Int) (x:Int):Str:=match pl ns ns.length x with
 | [a,b]=>if a / 3=b / 3 then "locked" else "free"
 | _=>"rim"
def Zi1:Sp:=λvs H Q _=>∃ p:Int,vs=[.int p]/\Q (.int (after p)) H
def Zgv:Sp:=λvs H Q _=>∃ p:Int,vs=[.int p]/\Q (.int (before p)) H
def Zc1:Sp:=λvs H Q _=>∃ p:Int,vs=[.int p]/\Q (.int (p / 3)) H
def Zau (C:Addr):Sp:=λvs H Q _=>∃ (p:Addr) (M:Lq) (ns:List Int),vs=[.ref p]/\Z2 C H p M ns /\
 ∀ (l:Addr) (ts:List Addr),H l=none->ns.length=3 * ts.length->(∀ (k:Nat) (t:Addr),ts[k]?=some t->H t=some (.tup (row3 ns k)))->Q (.ref l) (upd H l (.lst (ts.map V.ref)))
def Zac (C:Addr):Sp:=λvs H Q _=>∃ (p:Addr) (M:Lq) (ns:List Int),vs=[.ref p]/\Z2 C H p M ns/\ns.length < 64 /\
 ∀ (l:Addr) (out:List Int),H l=none->out.Perm (h:)->out.Pairwise (·<=·)->Q (.ref l) (upd H l (.lst (out.map V.int)))
def Oi (C:Addr):Sp:=λvs H Q _=>∃ (p:Addr) (M:Lq) (ns:List Int) (x:Int),vs=[.ref p,.int x]/\Z2 C H p M ns/\Q (.bl (decide (0<=x/\x < ns.length))) H
def Uf (C EP:Addr):Sp:=λvs H Q E=>∃ (p:Addr) (M:Lq) (ns:List Int) (x:Int),vs=[.ref p,.int x]/\Z2 C H p M ns/\(0<=x/\x < ns.length->Q .non H)/\(¬ (0<=x/\x < ns.length)->E (.ref EP) none H)
def Kh (C EP:Addr):Sp:=λvs H Q E=>∃ (p:Addr) (M:Lq) (ns:List Int) (x:Int),vs=[.ref p,.int x]/\Z2 C H p M ns/\(∀ (i:Nat) (y:Int),x=i->ns[i]?=some y->Q (.int y) H)/\(¬ (0<=x/\x < ns.length)->E (.ref EP) none H)
def Zav (C EP:Addr):Sp:=λvs H Q E=>∃ (p:Addr) (M:Lq) (ns:List Int) (x:Int),vs=[.ref p,.int x]/\Z2 C H p M ns/\M.length=ns.length/\(∀ (i:Nat) (y:Option Nat),x=i->M[i]?=some y->Q (mV y) H)/\(¬ (0<=x/\x < ns.length)->E (.ref EP) none H)
def Go (C ES:Addr):Sp:=λvs H Q E=>∃ (p:Addr) (M:Lq) (ns:List Int) (x:Int),vs=[.ref p,.int x]/\Z2 C H p M ns/\(x∈keys ns ns.length->∀ l,H l=none->Q (.ref l) (upd H l (.lst ((pl ns ns.length x).map nV))))/\(x ∉ keys ns ns.length->E (.ref ES) none H)
def Kg (C ES:Addr):Sp:=λvs H Q E=>∃ (p:Addr) (M:Lq) (ns:List Int) (x:Int),vs=[.ref p,.int x]/\Z2 C H p M ns/\TD M ns/\(x∈keys ns ns.length->∀ H',Same H H'->Q (.str (Xa ns x)) H')/\(x ∉ keys ns ns.length->E (.ref ES) none H)
def Zi4:FnScope ["place"] ["place"] (Zh Zdv):=Am
def Zb2 (T:Txt w K mg t):FnOk P w K mg base (CXr P w) 1 t.dP t.dW ["place"] Zi1:=by
 refine T.cY.F.aR Zi4 (b:)
 ·obtain ⟨p,rfl,k⟩:=h
  refine ⟨_,(Zg (Zn (Zbu (Zq Xc (Zi Zz (pv 0) Zf) Zf (Zt _)) (Zi Xk (pv 0) Zf) (Zi Z8 (pv 0) Zf)))),?_⟩;refine ⟨_,Y,_,_,Y,Y,(by show (0:Int) < 3; decide),rfl,_,rfl,?_⟩;refine ite2 (λh=>?_) (λh=>?_)
  ·have h:p % 3=2:=by simpa using h
   refine ⟨_,Y,_,_,Y,Y,?_⟩;have e:after p=p - 2:=if_pos h;rw [e] at k; exact k
  ·have h:¬ p % 3=2:=by simpa using h
   refine ⟨_,Y,_,_,Y,Y,?_⟩;have e:after p=p + 1:=if_neg h;rw [e] at k; exact k
def Zgz:FnScope ["place"] ["place"] (Zh Zbe):=Am
def Fo (T:Txt w K mg t):FnOk P w K mg base (CXr P w) 1 t.c6 t.dj ["place"] Zgv:=by
 refine T.cA.F.aR Zgz (b:)
 ·obtain ⟨p,rfl,k⟩:=h
  refine ⟨_,(Zg (Zn (Zbu (Zq Xc (Zi Zz (pv 0) Zf) Zf (Zt _)) (Zi Z8 (pv 0) Zf) (Zi Xk (pv 0) Zf)))),?_⟩;refine ⟨_,Y,_,_,Y,Y,(by show (0:Int) < 3; decide),rfl,_,rfl,?_⟩;refine ite2 (λh=>?_) (λh=>?_)
  ·have h:p % 3=0:=by simpa using h
   refine ⟨_,Y,_,_,Y,Y,?_⟩;have e:before p=p + 2:=if_pos h;rw [e] at k; exact k
  ·have h:¬ p % 3=0:=by simpa using h
   refine ⟨_,Y,_,_,Y,Y,?_⟩;have e:before p=p - 1:=if_neg h;rw [e] at k; exact k
def Zc3:FnScope ["place"] ["place"] (Zh Kp):=Am
def Jw (T:Txt w K mg t):FnOk P w K mg base (CXr P w) 1 t.cg t.cu ["place"] Zc1:=by
 refine T.ax.F.aR Zc3 (b:)
 ·obtain ⟨p,rfl,k⟩:=h
  refine ⟨_,(Zg (Zn (Zi Ys (pv 0) Zf))),?_⟩;exact ⟨_,Y,_,_,Y,Y,⟨by decide,by decide⟩,k⟩
def Za2:FnScope ["self"] ["self"] (Zh Oq):=Am
def Zb3 (T:Txt w K mg t):FnOk P w K mg base (CXr P w) 1 t.bQ t.bW ["self"] (Zau t.aa):=by
 refine T.aY.F.aR Za2 (b:)
 ·obtain ⟨p,M,ns,rfl,⟨dx,cl,na,sp,mt,o,f,b⟩,k⟩:=h
  refine ⟨_,(Zg (Zn (Yl Yi (by rfl) T.ar PySem.Pv.boot_list (Za (X8 (pv 0) Y) Zb)))),?_⟩;obtain ⟨ts,h1,h2,h3⟩:=b.rows;exact ⟨_,Y,p,_,dx,_,_,Y,b.ins,T.ad,T.aG,Zh6 ..,cl,_,Y,.inl (SqL.of h1),λl hl=>k l ts hl h2 h3⟩
def Zae:FnScope ["self"] ["self"] (Zh Uk):=Am
def Ua (T:Txt w K mg t):FnOk P w K mg base (CXr P w) 1 t.bA t.bF ["self"] (Zac t.aa):=by
 refine T.ap.F.aR Zae (b:)
 ·obtain ⟨p,M,ns,rfl,⟨dx,cl,na,sp,mt,o,f,b⟩,mq,k⟩:=h
  refine ⟨_,(Zg (Zn (Zk (U0 Y) (by rfl) T.cI PyProof.Rows.boot_sorted (Za (X8 (pv 0) Y) Zb)))),?_⟩;refine ⟨_,rfl,p,_,dx,_,_,rfl,b.ins,T.ad,T.ao,O7 ..,sp,_,keys ns ns.length,rfl,.inr ⟨o,b.spots⟩,?_,by have:=O4 ns ns.length; lia,k⟩;unfold spk; rw [map_map]; rfl
def Oj:FnScope ["self","place"] ["self","place"] (Zh Qn):=Am
def J8 (T:Txt w K mg t):FnOk P w K mg base (CXr P w) 1 t.aI t.aK ["self","place"] (Oi t.aa):=by
 refine T.ak.F.aR Oj (b:)
 ·obtain ⟨p,M,ns,x,rfl,⟨dx,cl,na,sp,mt,o,f,b⟩,k⟩:=h
  refine ⟨_,(Zg (Zn (Zjg Zow Jv Zf (pv 1) (Zk Zj (by rfl) T.ae PySem.boot_len (Za (X8 (pv 0) Y) Zb))))),?_⟩;refine ⟨_,Y,_,_,Y,Y,_,Y,?_⟩;refine ite2 (λh=>?_) (λh=>?_)
  ·have h:0<=x:=of_decide_eq_true h
   refine ⟨_,Y,p,_,dx,_,_,Y,b.ins,T.ad,T.af,O8 ..,na,_,Y,.inl (SqL.of b.names),_,_,Y,Y,?_⟩;have:decide (x < (((ns.map V.int).length:Nat):Int))=decide (0<=x/\x < (ns.length:Int)):=by rw [Ab]; simp [h]
   show Q (V.bl (decide (x < (((ns.map V.int).length:Nat):Int)))) H;rw [this]; exact k
  ·have h:¬ 0<=x:=λz=>h (decide_eq_true z)
   have:decide (0<=x/\x < (ns.length:Int))=false:=decide_eq_false λz=>h z.1;rw [this] at k; exact k
def Ug:FnScope ["self","place"] ["self","place"] (Zh J6):=Am
def J0 (T:Txt w K mg t):FnOk P w K mg base (CXr P w) 2 t.aC t.aE ["self","place"] (Uf t.aa t.aJ):=by
 refine T.ah.F.aX Ug (b:)
 ·obtain ⟨p,M,ns,x,rfl,ta,k1,k2⟩:=h
  obtain ⟨dx,cl,na,sp,mt,o,f,b⟩:=id ta;refine ⟨_,(Yw (Zbn (Y7 (Y6 (Wk (pv 0) T.ad T.ak.m (J8 T) (hr.mono (by decide)) T.ak.b .nil Xs (Za (pv 1) Zb)))) (Yw (Up T.eG FBV Y T.dM Y (Za Qp Zb))) O1)),?_⟩;refine ⟨_,Y,p,dx,_,Y,b.ins,Yn _ _ _ _,_,Y,p,M,ns,x,Y,ta,_,Y,?_⟩;by_cases c:0<=x/\x < (ns.length:Int)
  ·rw [decide_eq_true c]
   exact iteF (k1 c)
  ·rw [decide_eq_false c]
   exact iteT ⟨by decide,k2 c⟩
def Kk:FnScope ["self","place"] ["self","place"] (Zh Q9):=Am
def Q0 (T:Txt w K mg t):FnOk P w K mg base (CXr P w) 3 t.aO t.aT ["self","place"] (Kh t.aa t.aJ):=by
 refine T.am.F.aX Kk (b:)
 ·obtain ⟨p,M,ns,x,rfl,ta,k1,k2⟩:=h
  obtain ⟨dx,cl,na,sp,mt,o,f,b⟩:=id ta;refine ⟨_,(Yf (Qo (O3 (pv 0) T.ad T.ah.m (J0 T) (hr.mono (by decide)) T.ah.b .nil (Za (pv 1) Zb)))
   (Yw (Xh (Zn (Zu Zr (X8 (pv 0) rfl) (pv 1) (i:)))))),?_⟩
  refine ⟨_,Y,p,dx,_,Y,b.ins,Yn _ _ _ _,_,Y,p,M,ns,x,Y,ta,λc=>?_,k2⟩;have hi:x.toNat < ns.length:=by lia
  obtain ⟨y,hy⟩:∃ y,ns[x.toNat]?=some y:=⟨_,Ac hi⟩;have ex:x=(x.toNat:Int):=by lia
  refine ⟨_,Y,p,_,dx,_,_,Y,b.ins,T.ad,T.af,O8 ..,_,Y,na,_,_,_,Y,Y,SqL.of b.names,(by rw [ex]; exact Z6 hy),k1 _ _ ex hy⟩
def Za3:FnScope ["self","place"] ["self","place"] (Zh Os):=Am
def W9 (T:Txt w K mg t):FnOk P w K mg base (CXr P w) 3 t.bR t.bX ["self","place"] (Zav t.aa t.aJ):=by
 refine T.ai.F.aX Za3 (b:)
 ·obtain ⟨p,M,ns,x,rfl,ta,fw,k1,k2⟩:=h
  obtain ⟨dx,cl,na,sp,mt,o,f,b⟩:=id ta;refine ⟨_,(Yf (Qo (O3 (pv 0) T.ad T.ah.m (J0 T) (hr.mono (by decide)) T.ah.b .nil (Za (pv 1) Zb)))
   (Yw (Xh (Zn (Zu Zr (X8 (pv 0) rfl) (pv 1) (i:)))))),?_⟩
  refine ⟨_,Y,p,dx,_,Y,b.ins,Yn _ _ _ _,_,Y,p,M,ns,x,Y,ta,λc=>?_,k2⟩;have hi:x.toNat < M.length:=by lia
  obtain ⟨y,hy⟩:∃ y,M[x.toNat]?=some y:=⟨_,Ac hi⟩;have ex:x=(x.toNat:Int):=by lia
  refine ⟨_,Y,p,_,dx,_,_,Y,b.ins,T.ad,T.bI,Zj8 ..,_,Y,mt,_,_,_,Y,Y,SqL.of b.mates,(by rw [ex]; exact Z6 hy),k1 _ _ ex hy⟩
def Gr:FnScope ["self","seam"] ["self","seam"] (Zh V8):=Am
def G0 (T:Txt w K mg t):FnOk P w K mg base (CXr P w) 1 t.be t.bo ["self","seam"] (Go t.aa t.bE):=by
 refine T.aH.F.aX Gr (b:)
 ·obtain ⟨p,M,ns,x,rfl,ta,k1,k2⟩:=h
  obtain ⟨dx,cl,na,sp,mt,o,f,b⟩:=id ta;have hu:=Q1 hr;refine ⟨_,(Yf (Zbn (Zg9 (Fm hu (pv 1) (X8 (pv 0) Y)) (by with_unfolding_all rfl)) (Yw (Up T.eO FBV Y T.eI Y (Za Qp Zb))) O1)
   (Yw (Xh (Zn (Yl Yi (by rfl) T.ar PySem.Pv.boot_list (Za (Wb hu (X8 (pv 0) rfl) (pv 1) (i:)) Zb)))))),?_⟩
  have hg:DGet H sp (.int x) (if x∈keys ns ns.length then some (V.ref (f x)) else none):=.inl ⟨_,Sum.inl x,.inr ⟨o,b.spots⟩,rfl,by unfold spk; rw [Jb]⟩;refine ⟨_,Y,_,Y,p,_,dx,_,_,Y,b.ins,T.ad,T.ao,O7 ..,sp,_,Y,hg,_,Y,?_⟩;by_cases c:x∈keys ns ns.length
  ·rw [if_pos c] at hg ⊢
   refine iteF ?_;exact ⟨_,Y,p,_,dx,_,_,Y,b.ins,T.ad,T.ao,O7 ..,_,Y,sp,_,Y,hg,f x,_,Y,.inl (SqL.of (b.at' x c)),k1 c⟩
  ·rw [if_neg c] at hg ⊢
   exact iteT ⟨by decide,k2 c⟩
def Qx:FnScope ["self","seam","spots"] ["self","seam"] (Zh Q8):=Am
def K0 (T:Txt w K mg t):FnOk P w K mg base (CXr P w) 2 t.aP t.aU ["self","seam"] (Kg t.aa t.bE):=by
 refine T.ay.F.aX Qx (b:)
 ·obtain ⟨p,M,ns,x,rfl,ta,td,k1,k2⟩:=h
  obtain ⟨dx,cl,na,sp,mt,o,f,b⟩:=id ta;refine ⟨_,(Yf (Zd1 (i:=2) Qx.nd Y (Or.inl Y) (O3 (pv 0) T.ad T.aH.m (G0 T) (hr.mono (by decide)) T.aH.b .nil (Za (pv 1) Zb)))
   (Yf (Xh (Zy (Zq Xc (Zk Zj (by rfl) T.ae PySem.boot_len (Za (pv 2) Zb)) Zf (Zt _)) (Zg (Zn Qp)) Zv))
   (Yf (Xh (Zy (Zq Xc (pcT (Jw T) hr T.ax (Za (Zu Zr (pv 2) Zf (i:)) Zb)) (pcT (Jw T) hr T.ax (Za (Zu Zr (pv 2) Zf (i:)) Zb)) (Zt _)) (Zg (Zn Qp)) Zv))
   (Yw (Xh (Zn Qp)))))),?_⟩
  refine ⟨_,Y,p,dx,_,Y,b.ins,Yn _ _ _ _,_,Y,p,M,ns,x,Y,ta,λc l hl=>?_,k2⟩;have qm:=k1 c _ (Same.new (o:=.lst ((pl ns ns.length x).map nV)) hl);refine ⟨_,Y,l,_,Y,.inl (SqL.of Zc),Y,_,Y,?_⟩
  rcases O2 td c with ⟨a,e,_⟩ | ⟨a,b',im,e,_⟩
  ·rw [e] at qm ⊢
   refine iteT ?_;have:Xa ns x="rim":=by unfold Xa; rw [e]
   rw [this] at qm;exact qm
  ·rw [e] at qm ⊢
   refine iteF ?_;refine ⟨_,Y,l,_,_,_,Y,Y,SqL.of Zc,Y,_,Y,_,Y,l,_,_,_,Y,Y,SqL.of Zc,Y,_,Y,Y,_,Y,?_⟩;by_cases q:a / 3=b' / 3
   ·have:Xa ns x="locked":=by unfold Xa; rw [e]; exact if_pos q
    rw [this] at qm;rw [decide_eq_true (by congr 1; lia)];exact iteT qm
   ·have:Xa ns x="free":=by unfold Xa; rw [e]; exact if_neg q
    rw [this] at qm;rw [decide_eq_false (λz=>q (by injection z; lia))];exact iteF qm
def Ze8 {M:Lq} {ns:List Int} (td:TD M ns) (hx:x∈keys ns ns.length) :
  (Xa ns x="rim"/\∃ a,pl ns ns.length x=[a]/\M[a]?=some none)\/(Xa ns x="locked"/\∃ a b,a < b/\pl ns ns.length x=[a,b]/\M[a]?=some (some b)/\a / 3=b / 3)\/(Xa ns x="free"/\∃ a b,a < b/\pl ns ns.length x=[a,b]/\M[a]?=some (some b)/\a / 3≠b / 3):=by
 rcases O2 td hx with ⟨a,e,_,ma⟩ | ⟨a,b,im,e,_,_,ma,_⟩
 ·exact .inl ⟨by unfold Xa; rw [e],a,e,ma⟩
 ·by_cases c:a / 3=b / 3
  ·exact .inr (.inl ⟨by unfold Xa; rw [e]; exact if_pos c,a,b,im,e,ma,c⟩)
  ·exact .inr (.inr ⟨by unfold Xa; rw [e]; exact if_neg c,a,b,im,e,ma,c⟩)
def Zm8 (h:¬ x=y):decide (V.str x=V.str y)=false:=decide_eq_false λz=>h (by injection z)
def Zlc:Sp:=λvs H Q _=>∃ (a b:Addr) (xs:List Int),vs=[.ref a,.ref b]/\H a=some (.lst (xs.map V.int))/\H b=some (.lst (xs.map V.int))/\xs.length<=100000/\Q (.bl true) H
def Znc {ns:List Int} {i:Nat} (h:X0 H r ns) (hx:ns[i]?=some x):∃ ts:List Addr,∃ q,H r=some (.lst (ts.map V.ref))/\ts[i / 3]?=some q/\H q=some (.tup (row3 ns (i / 3)))/\(row3 ns (i / 3))[i % 3]?=some (V.int x):=by
 obtain ⟨ts,h1,h2,h3⟩:=h;have hi:i < ns.length:=(Aa hx).1;have hk:i / 3 < ts.length:=by lia
 refine ⟨ts,ts[i / 3],h1,Ac hk,h3 _ _ (Ac hk),?_⟩;have g:∀ j,ns[j]?=some x->ns.getD j 0=x:=λj hj=>by rw [Ad,hj]; rfl
 have hm:i % 3=0\/i % 3=1\/i % 3=2:=by lia
 rcases hm with m | m | m
 ·have:3 * (i / 3)=i:=by lia
  rw [m]; show some (V.int (ns.getD (3 * (i / 3)) 0))=_; rw [this,g i hx]
 ·have:3 * (i / 3) + 1=i:=by lia
  rw [m]; show some (V.int (ns.getD (3 * (i / 3) + 1) 0))=_; rw [this,g i hx]
 ·have:3 * (i / 3) + 2=i:=by lia
  rw [m]; show some (V.int (ns.getD (3 * (i / 3) + 2) 0))=_; rw [this,g i hx]
def div3 (i:Nat):(i:Int) / 3=((i / 3:Nat):Int):=by lia
def mod3 (i:Nat):(i:Int) % 3=((i % 3:Nat):Int):=by lia
def Zge (i:Nat):(i:Int) - (i:Int) % 3 + ((i:Int) + 1) % 3=after i:=by unfold after; split <;> lia
def Zdm (i:Nat):(i:Int) - (i:Int) % 3 + ((i:Int) + 2) % 3=before i:=by unfold before; split <;> lia
def sp_law (K:W.Frag):Sp:=λvs H Q _=>∃ (a:Addr) (ns:List Int),vs=[.ref a]/\SqL K H a (ns.map V.int)/\ns.length<=63/\∀ H',Q (.bl true) H'
def sp_law_start {ns:List Int} (hl:ns.length<=63) (hS:SqL K H a (ns.map V.int)):sp_law K [.ref a] H (λv _=>v=.bl true) λ_ _ _=>False:=⟨a,ns,rfl,hS,hl,λ_=>rfl⟩
def X0.copy {ns:List Int} {ts:List Addr} (h1:H r=some (.lst (ts.map V.ref))) (h2:ns.length=3 * ts.length) (h3:∀ (k:Nat) (t:Addr),ts[k]?=some t->H t=some (.tup (row3 ns k))) (hl:H l=none):X0 (upd H l (.lst (ts.map V.ref))) l ns :=
 ⟨ts,Zc,h2,λk q e=>by rw [Ze (Zl (h3 k q e) hl)]; exact h3 k q e⟩
def Zit {ns:List Int} {ts:List Addr} (g1:H1 r=some (.lst (ts.map V.ref))) (g2:ns.length=3 * ts.length) (g3:∀ (k:Nat) (t:Addr),ts[k]?=some t->H1 t=some (.tup (row3 ns k)))
  (i8:H1 l=none) (hx:upd H1 l (.lst (ts.map V.ref)) x=none) (zx:upd H1 l (.lst (ts.map V.ref)) dx=none) :
  X0 (upd (upd (upd H1 l (.lst (ts.map V.ref))) dx (.own x)) x (.ins C dx [])) l ns/\Same (upd H1 l (.lst (ts.map V.ref))) (upd (upd (upd H1 l (.lst (ts.map V.ref))) dx (.own x)) x (.ins C dx [])):=by
 have s:Same (upd H1 l (.lst (ts.map V.ref))) (upd (upd (upd H1 l (.lst (ts.map V.ref))) dx (.own x)) x (.ins C dx [])):=Same.add (Same.new zx) hx;exact ⟨(X0.copy g1 g2 g3 i8).same s,s⟩
def Zgw {a b:List Int} (h1:a.Perm c) (h2:b.Perm c) (s1:a.Pairwise (·<=·)) (s2:b.Pairwise (·<=·)):a=b :=
 (h1.trans h2.symm).eq_of_pairwise (λx y _ _ h1 h2=>Int.le_antisymm h1 h2) s1 s2
def Fd:FnScope ["_law_found","_law_due","_law_k"] ["_law_found","_law_due"] (Zh Zbb):=Am
def Zhm (T:Txt w K mg t):FnOk P w K mg base (CXr P w) 2 t.dh t.dz ["_law_found","_law_due"] Zlc:=by
 refine T.dF.F.aR Fd (b:)
 ·obtain ⟨a,b,xs,rfl,ha,hb,hl,k⟩:=h
  refine ⟨_,(Zd (Zy (PW.pt (Wj (Y7 (Y6 (Zk Wq (by rfl) T.aq PyProof.Rows.boot_isinstance (Za (pv 0) (Za (Ve (v:=.ty "list") (by rfl) T.ar PySem.Pv.boot_list rfl) Zb))))) (X7 (Zq Qy (Zk Zj (by rfl) T.ae PySem.boot_len (Za (pv 0) Zb)) (Zk Zj (by rfl) T.ae PySem.boot_len (Za (pv 1) Zb)) (Zt _))))) (Zg (Zn Yr)) Zv)
   (Zd (Ye PassesOwn.never rfl (Yu rfl T.aj (Za (Zk Zj (by rfl) T.ae PySem.boot_len (Za (pv 1) Zb)) Zb)) (Zp (i:=2) Fd.nd rfl (e:)) (Zg (Zy (PW.pt (Wj (Y7 (Y6 (pcT (Vu T) hr T.bd (Za (Zu Zr (pv 0) (pv 2) (i:)) Zb)))) (X7 (Zq Qy (Zu Zr (pv 0) (pv 2) (i:)) (Zu Zr (pv 1) (pv 2) (i:)) (Zt _))))) (Zg (Zn Yr)) Zv)))
   (Zg (Zn Yr)))),?_⟩;refine ⟨_,Y,_,"list",_,true,rfl,TyOf.lst ha,Vx,_,rfl,iteF ?_⟩;refine ⟨_,Y,a,_,Y,.inl (SqL.of ha),_,Y,b,_,Y,.inl (SqL.of hb),Y,_,Y,?_⟩;rw [show (!decide (V.int ((xs.map V.int).length:Nat)=V.int ((xs.map V.int).length:Nat)))=false by simp];refine iteF ?_;dsimp only [Y8];show tSeq (tFor _ _ _) _ _ _ _;refine Z0 (λσ H1=>H1=H) (λnx gw=>?_) ?_
  ·refine ⟨_,Y,b,_,Y,.inl (SqL.of hb),_,Y,by lia,by rw [Ab]; lia,?_⟩
   have eL:(((xs.map V.int).length:Nat):Int).toNat=xs.length:=by simp
   rw [eL];refine Xn (n:=xs.length) (λi σ H1=>∃ v,σ=[some (.ref a),some (.ref b),v]/\H1=H) ⟨none,Y,Y⟩ ?_ ?_
   ·rintro i σ H1 gj ⟨v,rfl,rfl⟩
    have ei:atI (xs.map V.int) (0 + (i:Int))=some (V.int xs[i]):=by rw [Int.zero_add]; exact Z6 (Ac gj)
    dsimp only [Zm];refine ⟨_,Y,_,Y,a,_,_,_,Y,Y,SqL.of ha,ei,_,Y,_,Y,iteF ?_⟩;refine ⟨_,Y,_,Y,a,_,_,_,Y,Y,SqL.of ha,ei,_,Y,_,Y,b,_,_,_,Y,Y,SqL.of hb,ei,Y,_,Y,?_⟩;rw [show (!decide (V.int xs[i]=V.int xs[i]))=false by simp];exact iteF ⟨_,Y,Y⟩
   ·rintro σ H1 ⟨v,rfl,rfl⟩
    exact gw _ _ Y
  ·rintro σ H1 rfl
   exact k
def Zcb {ws:List Int}:(((ws.map V.int).length:Nat):Int)=ws.length:=by rw [Ab]
def Zkc (x0:Int) (xr:List Int):cutV ((x0 :: xr).map V.int) (some 1) none=xr.map V.int:=by
 unfold cutV;have e1:HT.sIx ((x0 :: xr).map V.int).length 0 (some ((1:Nat):Int))=1:=by
  rw [HT.sIx_nat,Ab,length_cons]
  lia
 rw [show (some (1:Int))=some ((1:Nat):Int) from rfl,e1,HT.sIx_none,map_cons,drop_succ_cons,drop_zero,length_cons,Nat.add_sub_cancel,take_length]
def Zcj {α:Type} {p:α->Bool} {l:List α} {i:Nat} {x:α} (h:l[i]?=some x):(l.take (i + 1)).filter p=if p x=true then (l.take i).filter p ++ [x] else (l.take i).filter p:=by
 rw [Aw,h,filter_append];by_cases c:p x=true
 ·simp [c]
 ·simp [c]
def Zk8:Sp:=λvs H Q _=>∃ (m a:Addr) (M:Lq) (xs:List Int),vs=[.ref m,.ref a]/\H m=some (.lst (M.map mV))/\H a=some (.lst (xs.map V.int))/\xs≠[]/\xs.length<=60/\(∀ x∈xs,0<=x/\x < 1009)/\M.length<=42/\(∃ n,M.length=3 * n)/\(∀ (i j:Nat),M[i]?=some (some j)->M[j]?=some (some i)/\i≠j) /\
 ∀ (l:Addr) (ws:List Nat) (H':Hp),Same H H'->H l=none->H' l=some (.lst (ws.map nV))->ws.length<=60->(ws=[]\/Pl M ws)->Q (.ref l) H'
def Zgr (K:W.Frag):Sp:=λvs H Q _=>∃ (a m:Addr) (sc:List Int) (i:Int) (M:Lq),vs=[.ref a,.int i,.ref m]/\SqL K H a (sc.map V.int)/\sc.length<=63/\0<=i/\i < 1000/\H m=some (.lst (M.map mV))/\M.length<=42/\(∃ n,M.length=3 * n)/\(∀ (i j:Nat),M[i]?=some (some j)->M[j]?=some (some i)/\i≠j) /\
 ∀ (l:Addr) (ws:List Nat) (H':Hp),Same H H'->H l=none->H' l=some (.lst (ws.map nV))->ws.length<=60->(ws=[]\/Pl M ws)->Q (.ref l) H'
def hasM (M:Lq) (i:Nat):Bool:=match M[i]? with
 | some (some _)=>true
 | _=>false
def Jp {M:Lq}:hasM M i=true ↔ ∃ j,M[i]?=some (some j):=by
 unfold hasM;split
 ·rename_i j h; exact ⟨λ_=>⟨j,h⟩,λ_=>rfl⟩
 ·rename_i h; exact ⟨λz=>absurd z (by decide),λ⟨j,e⟩=>absurd e (h j)⟩
def Xf:FnScope ["_law_mates","_law_nums","_law_spots","_law_row","_law_pick","_law_side","_law_ways","_law_start","_law_stop"] ["_law_mates","_law_nums"] (Zh Za7):=Am
def Zhi (T:Txt w K mg t):FnOk P w K mg base (CXr P w) 1 t.dg t.dy ["_law_mates","_law_nums"] Zk8:=by
  refine T.dE.F.aR Xf (b:)
  · obtain ⟨m,a,M,xs,rfl,hm,ha,hx0,hx60,hx,w8,⟨n,hn⟩,inv,k⟩:=h
    refine ⟨_,(Zd (Jt (ts:=["_law_p"]) (fv:=[("_law_mates",0)]) (i:=2) (bkO ⟨⟨rfl,rfl,Or.inl rfl⟩,trivial⟩) rfl Xf.nd rfl rfl (by rfl) (Yu rfl T.aj (Za (Zk Zj (by rfl) T.ae PySem.boot_len (Za (pv 0) Zb)) Zb)) (λ_ _ _ _=>(Zp (i:=0) (show List.Nodup (["_law_p","_law_mates"]:List Str) from by decide +kernel) rfl (e:) (Or.inr rfl))) (λ_ _ _ _=>(Gu (Zq Qi (Zu (W0 K) (pv 1) (pv 0) (i:)) W7 (Zt _)))) (λ_ _ _=>rfl) (λ_ _ _ _ _ _=>Yg (pv 0)))
      (Zd (Zy (Zq Xc (Zk Zj (by rfl) T.ae PySem.boot_len (Za (pv 2) Zb)) Zf (Zt _)) (Zg (Zn (Xj Zb))) Zv)
      (Zd (Zs (i:=3) Xf.nd rfl (e:) (Xj (Za (Zu Zr (pv 2) (Zi Zz (Zu Zr (pv 1) Zf (i:)) (Zk Zj (by rfl) T.ae PySem.boot_len (Za (pv 2) Zb))) (i:)) Zb)))
      (Zd (Ye PassesOwn.never rfl (Ya (Vt U4 (pv 1) (Vb Zf) Gw)) (Zp (i:=4) Xf.nd rfl (e:)) (Zd (Zs (i:=5) Xf.nd rfl (Or.inr rfl) (Zu Zr (pv 0) (Zu Zr (pv 3) (Zov Zmt Zf) (i:)) (i:)))
      (Zd (Jt (ts:=["_law_k"]) (fv:=[("_law_side",5)]) (i:=6) (bkO ⟨⟨rfl,rfl,Or.inl rfl⟩,trivial⟩) rfl Xf.nd rfl rfl (by rfl) (Yu rfl T.aj (Za Zf Zb)) (λ_ _ _ _=>(Zp (i:=0) (show List.Nodup (["_law_k","_law_side"]:List Str) from by decide +kernel) rfl (e:) (Or.inr rfl))) (λ_ _ _ _=>Yb) (λ_ _ _=>rfl) (λ_ _ _ _ _ _=>Yg (Zi Z8 (Zi Xk (pv 1) (Zi Zz (pv 1) Zf)) (Zi Zz (Zi Z8 (Zi Z8 (pv 1) Zf) (pv 0)) Zf))))
      (Zd (Jt (ts:=["_law_p"]) (fv:=[("_law_mates",0)]) (i:=6) (bkO ⟨⟨rfl,rfl,Or.inl rfl⟩,trivial⟩) rfl Xf.nd rfl rfl (by rfl) (Ya (pv 6)) (λ_ _ _ _=>(Zp (i:=0) (show List.Nodup (["_law_p","_law_mates"]:List Str) from by decide +kernel) rfl (e:) (Or.inr rfl))) (λ_ _ _ _=>(Gu (Zq Qi (Zu (W0 K) (pv 1) (pv 0) (i:)) W7 (Zt _)))) (λ_ _ _=>rfl) (λ_ _ _ _ _ _=>Yg (pv 0)))
      (Zd (Zy (Zq Xc (Zk Zj (by rfl) T.ae PySem.boot_len (Za (pv 6) Zb)) Zf (Zt _)) (Zg Zja) Zv)
      (Zg (Y9 (Ju PySem.F.plainAttrs_list PySem.F.slot_list_append PySem.F.type_list_append Xl (pv 3) (Za (Zu Zr (pv 6) (Zi Zz (pv 4) (Zk Zj (by rfl) T.ae PySem.boot_len (Za (pv 6) Zb))) (i:)) Zb)))))))))
      (Zd (Ye PassesOwn.never rfl (Yu rfl T.aj (Za (Zk Zj (by rfl) T.ae PySem.boot_len (Za (pv 3) Zb)) Zb)) (Zp (i:=7) Xf.nd rfl (e:)) (Zg (Ye PassesOwn.never rfl (Zlu rfl T.cH rfl T.aj (Za (Zi Z8 (pv 7) Zf) (Za (Zk Zj (by rfl) T.ae PySem.boot_len (Za (pv 3) Zb)) Zb))) (Zp (i:=8) Xf.nd rfl (e:)) (Zg (Zy (Zq Xc (Zu Zr (pv 3) (pv 7) (i:)) (Zu Zr (pv 3) (pv 8) (i:)) (Zt _)) (Zg (Zn (Vt U4 (pv 3) (Vb (pv 7)) (Vb (pv 8))))) Zv)))))
      (Zg (Zn (Xj Zb)))))))),?_⟩;refine Zo λnxC fq=>?_;refine ⟨_,Y,m,_,Y,.inl (SqL.of hm),_,Y,by lia,by rw [Ab]; lia,λD hD=>?_⟩;have eL:(((M.map mV).length:Nat):Int).toNat=M.length:=by simp
    rw [eL];refine Qd (λi σ H1=>∃ v,σ=[v,some (.ref m)]/\Same H H1/\H1 D=some (.lst (((List.range i).filter (hasM M)).map nV))) ⟨none,Y,Same.new hD,Zc⟩ ?_ ?_
    · rintro i σ H1 gj ⟨v,rfl,sm,h1⟩
      dsimp only [Zm];rw [Int.zero_add];obtain ⟨y,hy⟩:∃ y,M[i]?=some y:=⟨_,Ac gj⟩;have lt:(((List.range i).filter (hasM M)).map nV).length < sizeLine:=by
        rw [Ab]
        have:=length_filter_le (hasM M) (List.range i)
        rw [length_range] at this
        exact Zx (by lia)
      refine ⟨_,Y,_,Y,m,_,_,_,Y,Y,SqL.of (sm _ _ hm),Z6 hy,Y,_,Y,?_⟩
      cases y with
      | none =>
        refine iteF ⟨_,Y,sm,?_⟩;rw [h1,range_succ,filter_append];have:hasM M i=false:=by rw [Bool.eq_false_iff]; intro z; obtain ⟨j,e⟩:=Jp.mp z; rw [hy] at e; cases e
        simp [this]
      | some j =>
        refine iteT ⟨_,Y,_,h1,lt,_,Y,Same.add sm hD,?_⟩;rw [Zc,range_succ,filter_append];have:hasM M i=true:=Jp.mpr ⟨j,hy⟩;simp [this];rfl
    rintro σ H1 ⟨v,rfl,s1,h1⟩;refine fq _ _ ?_;have jh:∀ p∈(List.range M.length).filter (hasM M),∃ j,M[p]?=some (some j):=λp hp=>Jp.mp (mem_filter.mp hp).2;generalize (List.range M.length).filter (hasM M)=sps at h1 jh;refine Zo λnxC fq=>?_;refine ⟨_,Y,D,_,Y,.inl (SqL.of h1),Y,_,Y,?_⟩;refine ite2 (λc=>?_) (λc=>?_)
    · exact ⟨Az _,λl hl=>k l [] _ (Same.add s1 (s1.free hl)) (s1.free hl) Zc (Az _) (.inl Y)⟩
    have g9:0 < sps.length:=by
      cases sps with
      | nil=>exact absurd Y c
      | cons _ _=>simp
    dsimp only [Y8];refine fq _ _ ?_
    obtain ⟨x0,xr,rfl⟩:∃ x0 xr,xs=x0 :: xr:=by
      cases xs with
      | nil=>exact absurd Y hx0
      | cons a b=>exact ⟨a,b,Y⟩
    have k0:=Int.emod_nonneg x0 (show (sps.length:Int)≠0 by lia);have k1:=Int.emod_lt_of_pos x0 (show (0:Int) < sps.length by lia);obtain ⟨kk,si⟩:∃ kk:Nat,x0 % (sps.length:Int)=kk:=⟨_,(Int.toNat_of_nonneg k0).symm⟩;have jv:kk < sps.length:=by lia
    refine Zo λnxC fq=>?_;refine ⟨_,Y,_,Y,a,_,_,_,Y,Y,SqL.of (s1 _ _ ha),(show atI _ ((0:Nat):Int)=_ from Yz Y),_,Y,D,_,Y,.inl (SqL.of h1),_,_,Y,Y,(by rw [Ab]; lia),D,_,_,_,rfl,rfl,SqL.of h1,(by rw [Ab,si]; exact Z6 (Ac jv)),(by show 1<=sizeLine; decide),λr j8=>?_⟩;refine fq _ _ ?_;have md:H r=none:=s1.free j8;obtain ⟨j0,hj0⟩:=jh _ (getElem_mem jv);have ch0:Ch M [sps[kk]]:=Ch.one hj0;generalize sps[kk]=p0 at ch0;have s2:Same H (upd H1 r (.lst [nV p0])):=Same.add s1 md;have h2:(upd H1 r (.lst [nV p0])) r=some (.lst ([p0].map nV)):=Zc;generalize upd H1 r (.lst [nV p0])=H2 at s2 h2;dsimp only [Zm];show tSeq (tFor _ _ _) _ _ _ _;refine Z0 (λσ H3=>∃ (row:List Nat) (v4 v5 v6:Option V),σ=[some (.ref m),some (.ref a),some (.ref D),some (.ref r),v4,v5,v6,none,none]/\Same H H3/\H3 r=some (.lst (row.map nV))/\Ch M row/\row.length<=60) (λnx gw=>?_) ?_
    · refine ⟨_,Y,_,Y,a,_,Y,SqL.of (s2 _ _ ha),λq hq=>?_⟩
      rw [Zkc];have hrq:r≠q:=Zl h2 hq;have wm:H q=none:=s2.free hq;refine ⟨q,Y,⟨_,SqL.of Zc⟩,?_⟩;rw [length_cons] at hx60;refine W1 (xs:=xr.map V.int) (λi σ H3=>∃ (row:List Nat) (v4 v5 v6:Option V),σ=[some (.ref m),some (.ref a),some (.ref D),some (.ref r),v4,v5,v6,none,none]/\Same H H3/\H3 q=some (.lst (xr.map V.int))/\H3 r=some (.lst (row.map nV))/\Ch M row/\row≠[]/\row.length<=i + 1)
        ⟨[p0],none,none,none,rfl,Same.add s2 wm,Zc,by rw [Ze hrq]; exact h2,ch0,by simp,by simp⟩ ?_ ?_ ?_
      · rintro i σ H3 _ ⟨row,v4,v5,v6,rfl,s3,h3,_⟩
        exact SqL.of h3
      · rintro i x σ H3 hxi ⟨row,v4,v5,v6,rfl,s3,h3,h4,ch,rne,sy⟩
        have hi:i < xr.length:=by have:=(Aa hxi).1; rw [Ab] at this; exact this
        obtain ⟨jk,hpk,rfl⟩:∃ jk,xr[i]?=some jk/\x=V.int jk:=by
          rw [Ah,Ac hi] at hxi;exact ⟨_,Ac hi,(Ax hxi).symm⟩
        obtain ⟨la,qo⟩:∃ la,row.getLast?=some la:=by
          cases e:row.getLast? with
          | none=>exact absurd (getLast?_eq_none_iff.mp e) rne
          | some z=>exact ⟨z,Y⟩
        have hlm:la∈row:=mem_of_getLast? qo;obtain ⟨sd,rq⟩:=ch.has la hlm;have hsdM:sd < M.length:=(Aa (inv la sd rq).1).1
        have yn:atI (row.map nV) (-1)=some (nV la):=by
          unfold atI ixN
          have hl:0 < row.length:=by cases row with | nil=>exact absurd rfl rne | cons _ _=>simp
          rw [if_neg (by decide),if_pos (by rw [Ab]; lia)];show ((row.map nV)[((-1:Int) + (row.map nV).length).toNat]?)=_;rw [Ab,show ((-1:Int) + (row.length:Int)).toNat=row.length - 1 by lia,Ah,<- getLast?_eq_getElem?,qo];rfl
        dsimp only [Zm];refine Zo λnxC fq=>?_;refine ⟨_,Y,_,Y,_,Y,r,_,_,_,Y,Y,SqL.of h4,yn,m,_,_,_,Y,Y,SqL.of (s3 _ _ hm),Z6 rq,?_⟩;refine fq _ _ ?_;refine Zo λnxC fq=>?_;refine ⟨2,Y,by decide,by decide,λW hW=>?_⟩;have hW0:H W=none:=s3.free hW;have hWr:r≠W:=Zl h4 hW;have hWq:q≠W:=Zl h3 hW;refine Qd (n:=2) (λc σ H5=>∃ v,σ=[v,some (nV sd)]/\Same H3 H5/\H5 W=some (.lst (([side sd 1,side sd 2].take c).map nV))) ⟨none,Y,Same.new hW,Zc⟩ ?_ ?_
        · rintro c σ H5 hc ⟨v,rfl,s5,h5⟩
          dsimp only [Zm,tYes];rw [if_pos rfl];refine ⟨_,Y,_,Y,_,_,Y,Y,(by show (0:Int) < 3; decide),_,_,rfl,rfl,_,rfl,_,_,rfl,rfl,_,rfl,_,_,rfl,rfl,_,_,rfl,rfl,(by show (0:Int) < 3; decide),_,_,rfl,rfl,_,h5,?_,_,rfl,Same.add s5 hW,?_⟩
          · rw [Ab,Ai]; exact Zx (by lia)
          · rw [Zc]
            have hc:c=0\/c=1:=by lia
            have e:∀ k:Nat,(sd:Int) - (sd:Int) % 3 + ((sd:Int) + 1 + (0 + (k:Int))) % 3=((side sd (k + 1):Nat):Int):=λk=>by unfold side; omega
            rcases hc with rfl | rfl
            · show some (HO.lst ([] ++ [V.int ((sd:Int) - (sd:Int) % 3 + ((sd:Int) + 1 + (0 + ((0:Nat):Int))) % 3)]))=_
              rw [e 0]; rfl
            · show some (HO.lst ([nV (side sd 1)] ++ [V.int ((sd:Int) - (sd:Int) % 3 + ((sd:Int) + 1 + (0 + ((1:Nat):Int))) % 3)]))=_
              rw [e 1]; rfl
        rintro σ H5 ⟨v,rfl,s5,h5⟩;refine fq _ _ ?_;have h5:H5 W=some (.lst ([side sd 1,side sd 2].map nV)):=h5;have sl:∀ c,side sd c < M.length:=λc=>by rw [hn]; exact Zlf (by lia)
        refine Zo λnxC fq=>?_;refine ⟨_,Y,W,Y,⟨_,SqL.of h5⟩,λW2 hW2=>?_⟩;have s35:=s3.trans s5;refine Ym (xs:=[side sd 1,side sd 2].map nV) (λc σ H6=>∃ v,σ=[v,some (.ref m)]/\Same H5 H6/\H6 W2=some (.lst ((([side sd 1,side sd 2].take c).filter (hasM M)).map nV))) ⟨none,Y,Same.new hW2,Zc⟩ ?_ ?_ ?_
        · rintro c σ H6 _ ⟨v,rfl,s6,h6⟩
          exact SqL.of (s6 _ _ h5)
        · rintro c x σ H6 hxc ⟨v,rfl,s6,h6⟩
          obtain ⟨p,hp,rfl⟩:=map_some hxc;have hpM:p < M.length:=by
            have:=Au hp
            rcases Ar this with rfl | z
            · exact sl 1
            · rw [Af z]; exact sl 2
          obtain ⟨y,hy⟩:∃ y,M[p]?=some y:=⟨_,Ac hpM⟩;dsimp only [Zm];refine ⟨_,Y,_,Y,m,_,_,_,Y,Y,SqL.of (s6 _ _ (s35 _ _ hm)),Z6 hy,Y,_,Y,?_⟩
          cases y with
          | none =>
            refine iteF ⟨_,Y,s6,?_⟩;have:hasM M p=false:=by rw [Bool.eq_false_iff]; intro z; obtain ⟨j,e⟩:=Jp.mp z; rw [hy] at e; cases e
            rw [h6,Zcj hp,if_neg (by rw [this]; decide)]
          | some jj =>
            refine iteT ⟨_,Y,_,h6,?_,_,Y,Same.add s6 hW2,?_⟩
            · rw [Ab]
              have h1:=length_filter_le (hasM M) ([side sd 1,side sd 2].take c);have h2:([side sd 1,side sd 2].take c).length<=2:=by rw [Ai]; exact Nat.min_le_right _ _
              exact Zx (by lia)
            · rw [Zc,Zcj hp,if_pos (Jp.mpr ⟨jj,hy⟩),Aj]
              rfl
        rintro σ H6 ⟨v,rfl,s6,h6⟩;refine fq _ _ ?_;have h6:H6 W2=some (.lst (([side sd 1,side sd 2].filter (hasM M)).map nV)):=h6;have hws:∀ p∈[side sd 1,side sd 2].filter (hasM M),(∃ j,M[p]?=some (some j))/\p / 3=sd / 3/\p≠sd:=λp hp=>by
          obtain ⟨z1,z2⟩:=mem_filter.mp hp
          refine ⟨Jp.mp z2,?_,?_⟩
          · rcases Ar z1 with rfl | z
            · exact Zay _ _
            · rw [Af z]; exact Zay _ _
          · rcases Ar z1 with rfl | z
            · unfold side; omega
            · rw [Af z]; unfold side; omega
        generalize [side sd 1,side sd 2].filter (hasM M)=wys at h6 hws;have oy:=s5.trans s6;have sw:=oy _ _ h4;have pp:=oy _ _ h3;have ve:=s3.trans oy;refine Zo λnxC fq=>?_;refine ⟨_,Y,W2,_,Y,.inl (SqL.of h6),Y,_,Y,?_⟩;refine ite2 (λc=>?_) (λc=>?_)
        · exact gw _ _ ⟨row,_,_,_,Y,ve,sw,ch,by lia⟩
        have rp:0 < wys.length:=by
          cases wys with
          | nil=>exact absurd Y c
          | cons _ _=>simp
        dsimp only [Y8];refine fq _ _ ?_;have c0:=Int.emod_nonneg jk (show (wys.length:Int)≠0 by lia);have c1:=Int.emod_lt_of_pos jk (show (0:Int) < wys.length by lia);obtain ⟨cc,z8⟩:∃ cc:Nat,jk % (wys.length:Int)=cc:=⟨_,(Int.toNat_of_nonneg c0).symm⟩;have kz:cc < wys.length:=by lia
        obtain ⟨w1,w2,w3⟩:=hws _ (getElem_mem kz);have hget:=Ac kz;refine ⟨_,Y,.inl ⟨Y,_,SqL.of sw⟩,_,Y,_,Y,_,Y,W2,_,Y,.inl (SqL.of h6),_,_,Y,Y,(by rw [Ab]; lia),W2,_,_,_,rfl,rfl,SqL.of h6,(by rw [Ab,z8]; exact Z6 hget),r,_,_,Y,Y,sw,(by rw [Ab]; exact Zx (by lia)),?_⟩;refine ⟨row ++ [wys[cc]],_,_,_,Y,Same.add ve md,?_,?_,ch.snoc qo rq w2 w3 w1,by simp,by rw [Ae,At]; lia⟩
        · rw [Ze (Ne.symm hrq)]; exact pp
        · rw [Zc,Aj]; rfl
      · rintro σ H3 ⟨row,v4,v5,v6,rfl,s3,h3,h4,ch,rne,sy⟩
        rw [Ab] at sy;exact gw _ _ ⟨row,_,_,_,Y,s3,h4,ch,by lia⟩
    rintro σ H3 ⟨row,v4,v5,v6,rfl,s3,h3,ch,sy⟩;show tSeq (tFor _ _ _) _ _ _ _;refine Z0 (λσ H4=>H4=H3) (λnx gw=>?_) ?_
    · refine ⟨_,Y,r,_,Y,.inl (SqL.of h3),_,Y,by lia,by rw [Ab]; lia,?_⟩
      have eR:(((row.map nV).length:Nat):Int).toNat=row.length:=by simp
      rw [eR];refine Xn (n:=row.length) (λi σ H4=>∃ v7 v8,σ=[some (.ref m),some (.ref a),some (.ref D),some (.ref r),v4,v5,v6,v7,v8]/\H4=H3) ⟨_,_,Y,Y⟩ ?_ ?_
      · rintro i σ H4 hi ⟨v7,v8,rfl,rfl⟩
        dsimp only [Zm];rw [Int.zero_add];refine ⟨_,Y,_,_,Y,Y,_,Y,r,_,Y,.inl (SqL.of h3),((i + 1:Nat):Int),row.length - (i + 1),?_,by lia,by lia,?_⟩
        · rw [Ab]
          show [V.int ((i:Int) + 1),V.int (row.length:Int)]=_;rw [show ((i:Int) + 1)=((i + 1:Nat):Int) by lia,show (row.length:Int)=((i + 1:Nat):Int) + ((row.length - (i + 1):Nat):Int) by lia]
        refine Zf6 (n:=row.length - (i + 1)) (λc σ H5=>∃ v8,σ=[some (.ref m),some (.ref a),some (.ref D),some (.ref r),v4,v5,v6,some (.int i),v8]/\H5=H4) ⟨_,Y,Y⟩ ?_ ?_
        · rintro c σ H4 hc ⟨v8,rfl,rfl⟩
          obtain ⟨e,he,hie,hel⟩:∃ e:Nat,((i + 1:Nat):Int) + ((row.length - (i + 1):Nat):Int) - 1 + (c:Int) * -1=(e:Int)/\i < e/\e < row.length:=⟨row.length - 1 - c,by lia,by lia,by lia⟩;dsimp only [Zm];rw [he];have gi:=Ac hi;have ge:=Ac hel;refine ⟨_,Y,_,Y,r,_,_,_,Y,Y,SqL.of h3,Z6 gi,_,Y,_,Y,r,_,_,_,Y,Y,SqL.of h3,Z6 ge,Y,_,Y,?_⟩;refine ite2 (λz=>?_) (λz=>?_)
          · have z:nV row[i]=nV row[e]:=of_decide_eq_true z
            have z:row[i]=row[e]:=by unfold nV at z; injection z with z; lia
            refine ⟨_,Y,_,Y,_,Y,_,Y,_,Y,r,_,Y,SqL.of h3,λl hl=>?_⟩;have ec:cutV (row.map nV) (some (i:Int)) (some (e:Int))=((row.drop i).take (e - i)).map nV:=by
              unfold cutV
              rw [HT.sIx_nat,HT.sIx_nat,Ab,Nat.min_eq_left (by lia),Nat.min_eq_left (by lia),map_take,map_drop]
            rw [ec];refine k l _ _ (Same.add s3 (s3.free hl)) (s3.free hl) Zc ?_ (.inr (ch.cut hie gi (by rw [ge,z])));rw [Ai,length_drop]; lia
          · exact ⟨_,Y,Y⟩
        · rintro σ H4 ⟨v8,rfl,rfl⟩
          exact ⟨_,_,Y,Y⟩
      · rintro σ H4 ⟨v7,v8,rfl,rfl⟩
        exact gw _ _ Y
    · rintro σ H4 rfl
      exact ⟨Az _,λl hl=>k l [] _ (Same.add s3 (s3.free hl)) (s3.free hl) Zc (Az _) (.inl Y)⟩
def Jr (ws:List Int) (by':Int):List Int:=rot ws (by' % ws.length).toNat
def Zgp:Sp:=λvs H Q _=>∃ (a:Addr) (ws:List Int) (b:Int),vs=[.ref a,.int b]/\H a=some (.lst (ws.map V.int))/\ws.length<=100000/\∀ (l:Addr) (H':Hp),Same H H'->H l=none->H' l=some (.lst ((Jr ws b).map V.int))->Q (.ref l) H'
def Zat (C:Addr):Sp:=λvs H Q _=>∃ (p:Addr) (M:Lq) (ns:List Int) (x:Int),vs=[.ref p,.int x]/\Z2 C H p M ns/\M.length=ns.length/\Q (.bl (Xz M x)) H
def Ze7 (C:Addr):Sp:=λvs H Q _=>∃ (p:Addr) (M:Lq) (ns:List Int) (a x:Int),vs=[.ref p,.int a,.int x]/\Z2 C H p M ns/\M.length=ns.length/\Xz M a=true/\Q (.bl (Wn M a x)) H
def Ziy (C:Addr):Sp:=λvs H Q _=>∃ (p a:Addr) (M:Lq) (ns ws:List Int),vs=[.ref p,.ref a]/\Z2 C H p M ns/\M.length=ns.length/\H a=some (.lst (ws.map V.int))/\ws.length<=100000/\∀ H',Same H H'->Q (.bl (Xw M ws)) H'
def Gk (C EN:Addr):Sp:=λvs H Q E=>∃ (p a:Addr) (M:Lq) (ns ws:List Int),vs=[.ref p,.ref a]/\Z2 C H p M ns/\M.length=ns.length/\H a=some (.lst (ws.map V.int))/\ws.length<=100000/\∀ H',Same H H'->(Xw M ws=true->Q .non H')/\(Xw M ws=false->E (.ref EN) none H')
def Vp {n:Nat} (h:n<=100000):n<=sizeLine:=by rw [sizeLine_eq]; lia
def Zkd {ws:List Int} (h:s<=ws.length):cutV (ws.map V.int) (some (s:Int)) none=(ws.drop s).map V.int:=by
 unfold cutV;rw [HT.sIx_nat,HT.sIx_none,Ab,Nat.min_eq_left h,map_drop,take_of_length_le];rw [length_drop,Ab];exact An _
def Zoa {ws:List Int} (h:s<=ws.length):cutV (ws.map V.int) none (some (s:Int))=(ws.take s).map V.int:=by
 unfold cutV;rw [HT.sIx_none,HT.sIx_nat,Ab,Nat.min_eq_left h,drop_zero,Nat.sub_zero,map_take]
def Om:FnScope ["_law_script","_law_at","_law_mates","_law_cell_here"] ["_law_script","_law_at","_law_mates"] (Zh Kn):=Am
def Zda (T:Txt w K mg t):FnOk P w K mg base (CXr P w) 2 t.cq t.cz ["_law_script","_law_at","_law_mates"] (Zgr K):=by
 refine T.cG.F.aR Om (b:)
 ·obtain ⟨a,m,sc,i,M,rfl,hS,hl,i0,i1,hm,w8,hn,inv,k⟩:=h
  refine ⟨_,(Zd (Zs (i:=3) Om.nd Y (Or.inl Y) (pcT (W3 T) hr T.aA (Za (pv 0) (Za (pv 1) Zb))))
   (Zg (Zn (pcT (Zhi T) hr T.dE (Za (pv 2) (Za (pcT (Qr T) hr T.aF (Za (Zi Ys (pv 3) Zf) (Za (Zi Z8 Zf (Zi Zz (pv 3) Zf)) Zb))) Zb)))))),?_⟩;refine ⟨_,Y,_,Y,a,sc,i,Y,hS,hl,i0,by lia,?_⟩;dsimp only [Zm];generalize cell sc i=c;have m0:0<=c % 50:=Int.emod_nonneg _ (by decide);have m1:c % 50 < 50:=Int.emod_lt_of_pos _ (by decide);have e:(4 + c % 50:Int)=((4 + (c % 50).toNat:Nat):Int):=by lia
  refine ⟨_,Y,_,Y,_,_,Y,Y,⟨by decide,by decide⟩,_,Y,_,_,Y,Y,(by show (0:Int) < 50; decide),_,_,rfl,rfl,_,4 + (c % 50).toNat,(by rw [<- e]; rfl),by lia,λp xs H1 s1 hp h1 rn hx=>?_⟩;refine ⟨m,p,M,xs,Y,s1 _ _ hm,h1,λz=>by rw [z] at rn; simp at rn; lia,by lia,hx,w8,hn,inv,λl ws H2 s2 ij h2 hw g8=>k l ws H2 (s1.trans s2) (s1.free ij) h2 hw g8⟩
def Fc:FnScope ["word","by","start"] ["word","by"] (Zh Za5):=Am
def Ut (T:Txt w K mg t):FnOk P w K mg base (CXr P w) 1 t.c8 t.dl ["word","by"] Zgp:=by
 refine T.bJ.F.aR Fc (b:)
 ·obtain ⟨a,ws,b,rfl,ha,hl,k⟩:=h
  refine ⟨_,(Zd (Zy (Y7 (O0 (pv 0) (λ_=>rfl))) (Zg (Zn (Xj Zb))) Zv)
   (Zd (Zs (i:=2) Fc.nd rfl (e:) (Zi Zz (pv 1) (Zk Zj (by rfl) T.ae PySem.boot_len (Za (pv 0) Zb))))
   (Zg (Zn (Zi Znt (Vt U4 (pv 0) (Vb (pv 2)) Gw) (Vt U4 (pv 0) Gw (Vb (pv 2)))))))),?_⟩;refine Zo λnxC fq=>?_;refine ⟨_,Y,_,.inl ⟨_,SqL.of ha,Y⟩,?_⟩;by_cases g9:ws=[]
  ·subst g9
   exact iteT ⟨Az _,λl jl=>k l _ (Same.new jl) jl (by rw [Zc]; unfold Jr rot; simp)⟩
  ·have e:(!(ws.map V.int).isEmpty)=true:=by cases ws with | nil=>exact absurd rfl g9 | cons _ _=>rfl
   have hp:0 < ws.length:=by cases ws with | nil=>exact absurd rfl g9 | cons _ _=>simp
   rw [e];refine iteF ?_;dsimp only [Y8];refine fq _ _ ?_;have k0:=Int.emod_nonneg b (show (ws.length:Int)≠0 by lia);have k1:=Int.emod_lt_of_pos b (show (0:Int) < ws.length by lia);obtain ⟨st,lg⟩:∃ st:Nat,b % (ws.length:Int)=st:=⟨_,(Int.toNat_of_nonneg k0).symm⟩;have zg:st<=ws.length:=by lia
   have et:Jr ws b=ws.drop st ++ ws.take st:=by unfold Jr rot; rw [lg,Int.toNat_natCast]
   refine ⟨_,Y,_,Y,a,_,Y,.inl (SqL.of ha),_,_,Y,Y,(by rw [Ab]; lia),?_⟩;dsimp only [Zm];rw [Zcb,lg];refine ⟨_,Y,_,Y,_,Y,a,_,Y,SqL.of ha,λl1 h1=>?_⟩;rw [Zkd zg];have s1:Same H (upd H l1 (.lst ((ws.drop st).map V.int))):=Same.new h1;refine ⟨_,Y,_,Y,_,Y,a,_,Y,SqL.of (s1 _ _ ha),λl2 h2=>?_⟩;rw [Zoa zg];obtain ⟨hne2,h2'⟩:=Ql h2;refine ⟨l1,l2,_,_,Y,Y,by rw [Ze (Ne.symm hne2),Zc],Zc,?_,λl3 h3=>?_⟩
   ·rw [Ab,Ab,length_drop,Ai]; exact Vp (by lia)
   ·have s3:=Same.add (o:=.lst ((ws.take st).map V.int)) s1 h2'
    refine k l3 _ (Same.add s3 (s3.free h3)) (s3.free h3) ?_;rw [Zc,et,Aj]
def Za1:FnScope ["tent","place"] ["tent","place"] (Zh Op):=Am
def Zb1 (T:Txt w K mg t):FnOk P w K mg base (CXr P w) 4 t.bS t.bY ["tent","place"] (Zat t.aa):=by
 refine T.b8.F.aR Za1 (b:)
 ·obtain ⟨p,M,ns,x,rfl,ta,ie,k⟩:=h
  obtain ⟨dx,cl,na,sp,mt,o,f,b⟩:=id ta;refine ⟨_,(Zg (Zn (Zbw (Wk (pv 0) T.ad T.ak.m (J8 T) (hr.mono (by decide)) T.ak.b .nil Xs (Za (pv 1) Zb)) (Zbt (Vd Qi (Wk (pv 0) T.ad T.ai.m (W9 T) (hr.mono (by decide)) T.ai.b .nil Xs (Za (pv 1) Zb)) W7 (Zt _)))))),?_⟩;refine ⟨_,Y,p,dx,_,Y,b.ins,Yn _ _ _ _,_,Y,p,M,ns,x,Y,ta,_,Y,?_⟩;by_cases c:0<=x/\x < (ns.length:Int)
  ·rw [decide_eq_true c]
   refine iteT ⟨_,Y,p,dx,_,Y,b.ins,Yn _ _ _ _,_,Y,p,M,ns,x,Y,ta,ie,λi y e1 e2=>?_,λz=>absurd c z⟩;refine ⟨Y,?_⟩
   have:Xz M x=!decide (mV y=.non):=by
    unfold Xz;rw [e1,Int.toNat_natCast,Ad,e2,decide_eq_true (show (0:Int)<=i/\(i:Int) < M.length by lia)];cases y <;> rfl
   rw [this] at k;exact k
  ·rw [decide_eq_false c]
   have:Xz M x=false:=by unfold Xz; rw [decide_eq_false (by lia)]; rfl
   rw [this] at k;exact iteF k
def Kj:FnScope ["tent","ahead","place","entry"] ["tent","ahead","place"] (Zh Fk):=Am
def Zfj (T:Txt w K mg t):FnOk P w K mg base (CXr P w) 4 t.cJ t.cP ["tent","ahead","place"] (Ze7 t.aa):=by
 refine T.cV.F.aR Kj (b:)
 ·obtain ⟨p,M,ns,a,x,rfl,ta,ie,hc,k⟩:=h
  obtain ⟨dx,cl,na,sp,mt,o,f,b⟩:=id ta;refine ⟨_,(Zd (Zs (i:=3) Kj.nd Y (Or.inl Y) (Wk (pv 0) T.ad T.ai.m (W9 T) (hr.mono (by decide)) T.ai.b .nil Xs (Za (pv 1) Zb)))
   (Zg (Zn (Zbw (Vd Xc (pcT (Jw T) hr T.ax (Za (pv 2) Zb)) (pcT (Jw T) hr T.ax (Za (pv 3) Zb)) (Zt _)) (Zbt (Vd Qy (pv 2) (pv 3) (Zt _))))))),?_⟩
  obtain ⟨j8,hs1⟩:=Bool.and_eq_true_iff.mp hc;have j8:=of_decide_eq_true j8;obtain ⟨m,hm⟩:=Option.isSome_iff_exists.mp hs1;have wx:a.toNat < M.length:=by lia
  have ha:M[a.toNat]?=some (some m):=by rw [Ad,Ac wx] at hm; rw [Ac wx]; exact congrArg some hm
  have ef:Wn M a x=(decide (x / 3=(m:Int) / 3) && !decide (x=(m:Int))):=by unfold Wn; rw [hm]
  rw [ef] at k;refine ⟨_,Y,p,dx,_,Y,b.ins,Yn _ _ _ _,_,Y,p,M,ns,a,Y,ta,ie,λi y e1 e2=>?_,λz=>absurd (show 0<=a/\a < (ns.length:Int) by lia) z⟩;have:i=a.toNat:=by lia
  subst this;rw [ha] at e2;cases e2;refine ⟨_,Y,_,Y,_,Y,_,Y,Y,_,Y,?_⟩;have dI:∀ u v:Int,decide (V.int u=V.int v)=decide (u=v):=λu v=>by
   by_cases z:u=v
   ·subst z; simp
   ·rw [decide_eq_false z,decide_eq_false (λy=>z (by injection y))]
  rw [dI];by_cases z:x / 3=(m:Int) / 3
  ·rw [decide_eq_true z] at k ⊢
   refine iteT ⟨_,Y,_,Y,Y,?_⟩;show Q (.bl (!decide (V.int x=V.int (m:Int)))) H;rw [dI];exact k
  ·rw [decide_eq_false z] at k ⊢
   exact iteF k
def Zi3:FnScope ["tent","word"] ["tent","word"] (Zh Zdt):=Am
def Zjm (T:Txt w K mg t):FnOk P w K mg base (CXr P w) 5 t.dQ t.dX ["tent","word"] (Ziy t.aa):=by
  refine T.eC.F.aR Zi3 (b:)
  · obtain ⟨p,a,M,ns,ws,rfl,ta,ie,ha,hl,k⟩:=h
    refine ⟨_,(Zd (Zy (PW.pt (Wj (Y7 (O0 (pv 1) (λ_=>rfl))) (X7 (Y7 (Y6 (Zk (Zcu Y) (by rfl) T.eY PyProof.Rows.boot_all (Za (Yk (ts:=["place"]) (fv:=[("tent",0)]) (bkO ⟨⟨rfl,rfl,Or.inl rfl⟩,trivial⟩) rfl (Ya (pv 1)) (λ_ _ _ _=>(Zp (i:=0) (show List.Nodup (["place","tent"]:List Str) from by decide +kernel) rfl (e:) (Or.inr rfl))) (λ_ _ _ _=>Yb) (λ_ _ _=>rfl) (λ_ _ _ _ _ _=>Yg (pcT (Zb1 T) hr T.b8 (Za (pv 1) (Za (pv 0) Zb))))) Zb))))))) (Zg (Zn Yr)) Zv)
      (Zg (Zn (Zk (Zcu rfl) (by rfl) T.eY PyProof.Rows.boot_all (Za (Yk (ts:=["ahead","place"]) (fv:=[("tent",0)]) (bkO ⟨⟨rfl,rfl,Or.inl rfl⟩,trivial⟩) rfl (Znl rfl T.fk (Za (pv 1) (Za (pcT (Ut T) hr T.bJ (Za (pv 1) (Za Zf Zb))) Zb))) (λ_ _ _ _=>(Zd6 (n:=2) K rfl (Yq (Zp (i:=0) (show List.Nodup (["ahead","place","tent"]:List Str) from by decide +kernel) rfl (e:) (Or.inr rfl)) (Yq (Zp (i:=1) (show List.Nodup (["ahead","place","tent"]:List Str) from by decide +kernel) rfl (e:) (Or.inr rfl)) Ji)))) (λ_ _ _ _=>Yb) (λ_ _ _=>rfl) (λ_ _ _ _ _ _=>Yg (pcT (Zfj T) hr T.cV (Za (pv 2) (Za (pv 0) (Za (pv 1) Zb)))))) Zb))))),?_⟩;refine Zo λnxC fq=>?_;refine ⟨_,Y,_,.inl ⟨_,SqL.of ha,Y⟩,?_⟩;by_cases g9:ws=[]
    · subst g9
      exact iteT (k _ (Same.refl _))
    · have e:(!(ws.map V.int).isEmpty)=true:=by cases ws with | nil=>exact absurd rfl g9 | cons _ _=>rfl
      have e':(!ws.isEmpty)=true:=by cases ws with | nil=>exact absurd rfl g9 | cons _ _=>rfl
      have hp:0 < ws.length:=by cases ws with | nil=>exact absurd rfl g9 | cons _ _=>simp
      rw [e];refine iteF ?_;refine ⟨_,Y,a,Y,⟨_,SqL.of ha⟩,λD hD=>?_⟩;refine Ym (xs:=ws.map V.int) (λi σ H1=>∃ v,σ=[v,some (.ref p)]/\Same H H1/\H1 D=some (.lst (((ws.take i).map (Xz M)).map V.bl))) ⟨none,Y,Same.new hD,Zc⟩ ?_ ?_ ?_
      · rintro i σ H1 _ ⟨v,rfl,sm,h1⟩
        exact SqL.of (sm _ _ ha)
      · rintro i x σ H1 hx ⟨v,rfl,sm,h1⟩
        obtain ⟨y,hy,rfl⟩:=map_some hx;dsimp only [Zm,tYes];rw [if_pos rfl];refine ⟨_,Y,_,Y,p,M,ns,y,Y,ta.same sm,ie,_,h1,?_,_,Y,Same.add sm hD,?_⟩
        · rw [Ab,Ab,Ai,sizeLine_eq]; lia
        · rw [Zc,Aw,hy,Aj,Aj]; rfl
      rintro σ H1 ⟨v,rfl,s1,h1⟩;rw [Ab,take_length] at h1;refine ⟨D,_,Y,SqL.of h1,_,Y,?_⟩;by_cases hc:(ws.map (Xz M)).all id=true
      · rw [hc]
        refine iteF ?_;dsimp only [Y8];refine fq _ _ ?_;refine ⟨_,Y,_,Y,a,ws,1,Y,s1 _ _ ha,hl,λtl H2 s2 htl h2=>?_⟩;have o3:=s1.trans s2;have et:Jr ws 1=rot ws (1 % ws.length):=by
          unfold Jr
          congr 1
        rw [et] at h2;have hrl:(rot ws (1 % ws.length)).length=ws.length:=Y3 ws (Nat.le_of_lt (mod_lt _ hp));have hcr:∀ y∈ws,Xz M y=true:=λy hy=>all_eq_true.mp hc _ (mem_map.mpr ⟨y,hy,rfl⟩);have ep:Xw M ws=(W8 M ws (rot ws (1 % ws.length))).all id:=by unfold Xw; rw [e',hc]; rfl
        have k':=λH' s'=>k H' s';rw [ep] at k';generalize rot ws (1 % ws.length)=vs at h2 hrl k';refine ⟨a,tl,_,_,Y,SqL.of (o3 _ _ ha),SqL.of h2,λD2 mo=>?_⟩;refine Zju (xs:=ws.map V.int) (ys:=vs.map V.int) (by rw [Ab,Ab,hrl]) (λi σ H3=>∃ v v',σ=[v,v',some (.ref p)]/\Same H2 H3/\H3 D2=some (.lst (((W8 M ws vs).take i).map V.bl))) ⟨none,none,Y,Same.new mo,Zc⟩ ?_ ?_ ?_
        · rintro i σ H3 _ ⟨v,v',rfl,s3,h3⟩
          exact ⟨SqL.of (s3 _ _ (o3 _ _ ha)),SqL.of (s3 _ _ h2)⟩
        · rintro i x y σ H3 q hx hy hq ⟨v,v',rfl,s3,h3⟩
          obtain ⟨x',jt,rfl⟩:=map_some hx;obtain ⟨y',jq,rfl⟩:=map_some hy;have s4:Same H3 (upd H3 q (.tup [V.int x',V.int y'])):=Same.new hq;refine ⟨q,_,Y,SqT.of Zc,Y,_,_,Y,_,_,Y,Y,?_⟩;dsimp only [tYes];rw [if_pos rfl];refine ⟨_,Y,_,Y,_,Y,p,M,ns,x',y',Y,((ta.same o3).same s3).same s4,ie,hcr x' (Au jt),_,s4 _ _ h3,?_,_,_,Y,Same.add (s3.trans s4) mo,?_⟩
          · rw [Ab,Ai]
            have:(W8 M ws vs).length<=ws.length:=by unfold W8; rw [Ab,length_zip]; lia
            rw [sizeLine_eq]; lia
          · have:(W8 M ws vs)[i]?=some (Wn M x' y'):=by
              unfold W8;rw [Ah,getElem?_zip_eq_some (z:=(x',y')) |>.mpr ⟨jt,jq⟩];rfl
            rw [Zc,Aw,this,Aj];rfl
        rintro σ H3 ⟨v,v',rfl,s3,h3⟩;have g8:(W8 M ws vs).length=ws.length:=by unfold W8; rw [Ab,length_zip]; lia
        rw [Ab,take_of_length_le (Nat.le_of_eq g8)] at h3;exact ⟨D2,_,Y,SqL.of h3,k' _ (o3.trans s3)⟩
      · have hc:(ws.map (Xz M)).all id=false:=by rw [Bool.eq_false_iff]; exact hc
        rw [hc];have ep:Xw M ws=false:=by unfold Xw; rw [hc]; simp
        have:=k _ s1;rw [ep] at this;exact iteT this
def Gp:FnScope ["tent","word"] ["tent","word"] (Zh V4):=Am
def Jl (T:Txt w K mg t):FnOk P w K mg base (CXr P w) 6 t.bg t.bp ["tent","word"] (Gk t.aa t.bz):=by
 refine T.au.F.aX Gp (b:)
 ·obtain ⟨p,a,M,ns,ws,rfl,ta,ie,ha,hl,k⟩:=h
  refine ⟨_,(Yw (Zbn (Y7 (Y6 (pcT (Zjm T) hr T.eC (Za (pv 0) (Za (pv 1) Zb))))) (Yw (Up T.dO FBV Y T.dJ Y (Za Qp Zb))) O1)),?_⟩;refine ⟨_,Y,_,Y,p,a,M,ns,ws,Y,ta,ie,ha,hl,λH' s'=>⟨_,Y,?_⟩⟩;obtain ⟨k1,k2⟩:=k H' s'
  cases e:Xw M ws with
  | true=>exact iteF (k1 e)
  | false=>exact iteT ⟨by decide,k2 e⟩
def U6 (ws:List Nat):ws.map nV=(wI ws).map V.int:=by rw [map_map]; rfl
def W5 (ws:List Nat):(wI ws).length=ws.length:=by simp
def Yc (M:Lq) (ws:List Nat):List Nat:=ws.reverse.map λp=>(M.getD p none).getD 0
def Z9 (M:Lq) (ws:List Nat):(Yc M ws).length=ws.length:=by unfold Yc; simp
def U2 {M:Lq} {ws:List Nat} {i:Nat} (h:ws.reverse[i]?=some p) (hm:M[p]?=some (some m)):(Yc M ws)[i]?=some m:=by
 unfold Yc;rw [Ah,h];show some ((M.getD p none).getD 0)=some m;rw [Ad,hm];rfl
def Zmp {ws:List Nat} {i:Nat} (hi:i < ws.length):∃ pi,pi < ws.length/\(pi + 1) % ws.length=i/\∀ a,ws[pi]?=some a->atI (ws.map nV) (0 + (i:Int) - 1)=some (nV a):=by
 cases i with
 | zero =>
  refine ⟨ws.length - 1,by lia,by rw [Nat.sub_add_cancel hi,mod_self],λa ha=>?_⟩;show atI (ws.map nV) (-1)=_;unfold atI ixN;rw [if_neg (by decide),if_pos (by rw [Ab]; lia)];show ((ws.map nV)[((-1:Int) + (ws.map nV).length).toNat]?)=_;rw [Ab,show ((-1:Int) + (ws.length:Int)).toNat=ws.length - 1 by lia,Ah,ha];rfl
 | succ j =>
  refine ⟨j,by lia,mod_eq_of_lt hi,λa ha=>?_⟩;rw [show (0 + ((j + 1:Nat):Int) - 1)=(j:Int) by lia];exact Z6 ha
def Zc2 (C:Addr):Sp:=λvs H Q _=>∃ (p a:Addr) (M:Lq) (ns:List Int) (ws:List Nat),vs=[.ref p,.ref a]/\Z2 C H p M ns/\M.length=ns.length/\H a=some (.lst (ws.map nV))/\ws.length<=10000/\Pl M ws/\∀ (l:Addr) (H':Hp),Same H H'->H l=none->H' l=some (.lst ((Yc M ws).map nV))->Q (.ref l) H'
def Ze6:Sp:=λvs H Q _=>∃ (m a:Addr) (M:Lq) (ws:List Nat),vs=[.ref m,.ref a]/\H m=some (.lst (M.map mV))/\H a=some (.lst (ws.map nV))/\ws.length<=1000/\Pl M ws/\Q (.bl true) H
def Zc4:FnScope ["tent","word"] ["tent","word"] (Zh Kq):=Am
def Zdc (T:Txt w K mg t):FnOk P w K mg base (CXr P w) 7 t.cn t.cx ["tent","word"] (Zc2 t.aa):=by
 refine T.cD.F.aX Zc4 (b:)
 ·obtain ⟨p,a,M,ns,ws,rfl,ta,ie,ha,hl,hP,k⟩:=h
  refine ⟨_,(Yf (Qo (pxT (Jl T) hr T.au (Za (pv 0) (Za (pv 1) Zb))))
   (Yw (Xh (Zn (Yk (ts:=["place"]) (fv:=[("tent",0)]) (bkO ⟨⟨rfl,rfl,Or.inl rfl⟩,trivial⟩) rfl (Znn rfl T.cH (Za (pv 1) Zb)) (λ_ _ _ _=>(Zp (i:=0) (show List.Nodup (["place","tent"]:List Str) from by decide +kernel) rfl (e:) (Or.inr rfl))) (λ_ _ _ _=>Yb) (λ_ _ _=>rfl) (λ_ _ _ _ _ _=>Yg (Wk (pv 1) T.ad T.ai.m (W9 T) (hr.mono (by decide)) T.ai.b .nil Xs (Za (pv 0) Zb)))))))),?_⟩;refine ⟨_,Y,_,Y,p,a,M,ns,wI ws,Y,ta,ie,by rw [ha,U6],by rw [W5]; lia,λH1 s1=>⟨λ_=>?_,λz=>absurd ((Uq.mpr hP).symm.trans z) (by decide)⟩⟩;refine ⟨_,Y,a,_,Y,SqL.of (s1 _ _ ha),λD hD=>?_⟩;refine Zjv (xs:=ws.map nV) (λi σ H2=>∃ v,σ=[v,some (.ref p)]/\Same H1 H2/\H2 D=some (.lst (((Yc M ws).take i).map nV))) ⟨none,Y,Same.new hD,Zc⟩ ?_ ?_ ?_
  ·rintro i σ H2 _ ⟨v,rfl,sm,h2⟩
   exact SqL.of (sm _ _ (s1 _ _ ha))
  ·rintro i x σ H2 hx ⟨v,rfl,sm,h2⟩
   obtain ⟨q,hq,rfl⟩:∃ q,ws.reverse[i]?=some q/\x=nV q:=by
    rw [<- map_reverse,Ah] at hx
    cases e:ws.reverse[i]? with
    | none=>rw [e] at hx; cases hx
    | some y=>rw [e] at hx; cases hx; exact ⟨y,Y,Y⟩
   obtain ⟨mt,mh⟩:=hP.has q (mem_reverse.mp (Au hq));have qe:=(ta.same s1).same sm;obtain ⟨dx,cl,na,sp,mt',o,f,b⟩:=id qe;have zh:q < M.length:=(Aa mh).1;dsimp only [Zm,tYes];rw [if_pos rfl];refine ⟨_,Y,p,dx,_,Y,b.ins,Yn _ _ _ _,_,Y,p,M,ns,q,Y,qe,ie,λi' y e1 e2=>?_,λz=>absurd (show (0:Int)<=q/\(q:Int) < ns.length by lia) z⟩;have:i'=q:=by lia
   subst this;rw [mh] at e2;cases e2;refine ⟨_,h2,?_,_,Y,Same.add sm hD,?_⟩
   ·rw [Ab,Ai,Z9]; exact Vp (by lia)
   ·rw [Zc,Aw,U2 hq mh,Aj]; rfl
  ·rintro σ H2 ⟨v,rfl,sm,h2⟩
   rw [Ab,take_of_length_le (by rw [Z9]; exact An _)] at h2;exact k D H2 (s1.trans sm) (s1.free hD) h2
def J9:FnScope ["_law_mates","_law_word","_law_p","_law_k","_law_side"] ["_law_mates","_law_word"] (Zh Fh):=Am
def Zfi (T:Txt w K mg t):FnOk P w K mg base (CXr P w) 1 t.cN t.cT ["_law_mates","_law_word"] Ze6:=by
 refine T.cW.F.aR J9 (b:)
 ·obtain ⟨m,a,M,ws,rfl,hm,ha,hl,hP,k⟩:=h
  refine ⟨_,(Zd (Zy (Zq Xc (Zk Zj (by rfl) T.ae PySem.boot_len (Za (pv 1) Zb)) Zf (Zt _)) (Zg (Zn Yr)) Zv)
   (Zd (Ye PassesOwn.never rfl (Ya (pv 1)) (Zp (i:=2) J9.nd rfl (e:)) (Zg (Zy (PW.pt (Wj (Zq Jv (pv 2) Zf (Zt _)) (Wj (Zq Zkq (pv 2) (Zk Zj (by rfl) T.ae PySem.boot_len (Za (pv 0) Zb)) (Zt _)) (X7 (Zq Zns (Zu Zr (pv 0) (pv 2) (i:)) W7 (Zt _)))))) (Zg (Zn Yr)) Zv)))
   (Zd (Ye PassesOwn.never rfl (Yu rfl T.aj (Za (Zk Zj (by rfl) T.ae PySem.boot_len (Za (pv 1) Zb)) Zb)) (Zp (i:=3) J9.nd rfl (e:)) (Zd (Zs (i:=4) J9.nd rfl (e:) (Zu Zr (pv 0) (Zu Zr (pv 1) (Zi Xk (pv 3) Zf) (i:)) (i:)))
   (Zg (Zy (PW.pt (Wj (Zq Qy (Zi Ys (pv 4) Zf) (Zi Ys (Zu Zr (pv 1) (pv 3) (i:)) Zf) (Zt _)) (X7 (Zq Xc (pv 4) (Zu Zr (pv 1) (pv 3) (i:)) (Zt _))))) (Zg (Zn Yr)) Zv))))
   (Zg (Zn Yr))))),?_⟩
  have hw0:0 < ws.length:=by have:=hP.ne; cases ws with | nil=>exact absurd rfl this | cons _ _=>simp
  refine Zo λnxC fq=>?_;refine ⟨_,Y,a,_,Y,.inl (SqL.of ha),Y,_,Y,?_⟩;refine ite2 (λz=>absurd (of_decide_eq_true z) (λy=>?_)) (λz=>?_)
  ·injection y with y
   rw [Ab] at y;lia
  dsimp only [Y8];refine fq _ _ ?_;refine Z0 (λσ H4=>∃ v2,σ=[some (.ref m),some (.ref a),v2,none,none]/\H4=H) (λnx gw=>?_) ?_
  ·refine ⟨_,Y,a,Y,⟨_,SqL.of ha⟩,?_⟩
   refine W1 (xs:=ws.map nV) (λi σ H4=>∃ v2,σ=[some (.ref m),some (.ref a),v2,none,none]/\H4=H) ⟨_,Y,Y⟩ ?_ ?_ ?_
   ·rintro i σ H4 _ ⟨v2,rfl,rfl⟩
    exact SqL.of ha
   ·rintro i x σ H4 hx ⟨v2,rfl,rfl⟩
    obtain ⟨q,hq,rfl⟩:=map_some hx;obtain ⟨mt,mh⟩:=hP.has q (Au hq);have zh:q < M.length:=(Aa mh).1;dsimp only [Zm];refine ⟨_,Y,_,_,Y,Y,_,Y,?_⟩;refine ite2 (λz=>absurd (of_decide_eq_true z) (by lia)) (λ_=>?_);refine ⟨_,Y,_,Y,m,_,Y,.inl (SqL.of hm),_,_,Y,Y,_,Y,?_⟩;refine ite2 (λz=>absurd (of_decide_eq_true z) (by rw [Ab]; lia)) (λ_=>?_);refine ⟨_,Y,_,Y,m,_,_,_,Y,Y,SqL.of hm,Z6 mh,Y,_,Y,?_⟩;exact iteF ⟨_,Y,Y⟩
   ·rintro σ H4 h
    exact gw _ _ h
  ·rintro σ H4 ⟨v2,rfl,rfl⟩
   refine Z0 (λσ H5=>H5=H4) (λnx gw=>?_) ?_
   ·refine ⟨_,Y,a,_,Y,.inl (SqL.of ha),_,Y,by lia,by rw [Ab]; lia,?_⟩
    have eL:(((ws.map nV).length:Nat):Int).toNat=ws.length:=by simp
    rw [eL];refine Xn (n:=ws.length) (λi σ H5=>∃ v3 v4,σ=[some (.ref m),some (.ref a),v2,v3,v4]/\H5=H4) ⟨_,_,Y,Y⟩ ?_ ?_
    ·rintro i σ H5 hi ⟨v3,v4,rfl,rfl⟩
     obtain ⟨pi,hpi,hpn,om⟩:=Zmp hi;have hq:=Ac hi;have n9:=Ac hpi;obtain ⟨sd,rq⟩:=hP.has _ (Au n9);obtain ⟨f1,f2⟩:=hP.nxt pi _ _ n9 (by rw [hpn]; exact hq) sd rq;have hix:atI (ws.map nV) (0 + (i:Int))=some (nV ws[i]):=by rw [Int.zero_add]; exact Z6 hq
     have om:=om _ n9;generalize ws[i]=q at hix f1 f2;generalize ws[pi]=pv at om rq;dsimp only [Zm];refine Zo λnxC fq=>?_;refine ⟨_,Y,_,Y,_,Y,_,_,Y,Y,a,_,_,_,Y,Y,SqL.of ha,om,m,_,_,_,Y,Y,SqL.of hm,Z6 rq,?_⟩;refine fq _ _ ?_;refine ⟨_,Y,_,_,Y,Y,⟨by decide,by decide⟩,_,Y,_,Y,a,_,_,_,Y,Y,SqL.of ha,hix,_,_,Y,Y,⟨by decide,by decide⟩,Y,_,Y,?_⟩;rw [show (!decide ((λi j=>V.int (i / j)) (sd:Int) 3=(λi j=>V.int (i / j)) (q:Int) 3))=false from by
      rw [Bool.not_eq_false']
      exact decide_eq_true (show V.int _=V.int _ by congr 1; lia)]
     refine iteF ⟨_,Y,_,Y,_,Y,a,_,_,_,Y,Y,SqL.of ha,hix,Y,_,Y,?_⟩;rw [show decide (mV (some sd)=nV q)=false from decide_eq_false (λy=>f2 (by injection y with y; lia))];exact iteF ⟨_,_,Y,Y⟩
    ·rintro σ H5 ⟨v3,v4,rfl,rfl⟩
     exact gw _ _ Y
   ·rintro σ H5 rfl
    exact k
def Zis (ws:List Int) (d:Nat):Jr ws (d:Int)=rot ws (d % ws.length):=by
 unfold Jr;congr 1
def Zjb {ws:List Int} (h:Xw M ws=true):0 < ws.length:=by
 cases ws with
 | nil=>exact absurd h (by unfold Xw; simp)
 | cons _ _=>simp
def Zi7 (ws:List Int):rot ws (ws.length % ws.length)=ws:=by
 rw [mod_self]; unfold rot; simp
def Ziw (C:Addr):Sp:=λvs H Q _=>∃ (p a:Addr) (M:Lq) (ns ws:List Int),vs=[.ref p,.ref a]/\Z2 C H p M ns/\M.length=ns.length/\H a=some (.lst (ws.map V.int))/\ws.length<=100000/\Xw M ws=true/\∀ (H':Hp) (d:Nat),Same H H'->1<=d->d<=ws.length->rot ws (d % ws.length)=ws->(∀ e,1<=e->e < d->rot ws (e % ws.length)≠ws)->Q (.int ((ws.length / d:Nat):Int)) H'
def Oy:FnScope ["tent","word","size"] ["tent","word"] (Zh Zdr):=Am
def Zjl (T:Txt w K mg t):FnOk P w K mg base (CXr P w) 7 t.dS t.dZ ["tent","word"] (Ziw t.aa):=by
 refine T.eF.F.aX Oy (b:)
 ·obtain ⟨p,a,M,ns,ws,rfl,ta,ie,ha,hl,g8,k⟩:=h
  refine ⟨_,(Yf (Qo (pxT (Jl T) hr T.au (Za (pv 0) (Za (pv 1) Zb))))
   (Yf (Xh (Zs (i:=2) Oy.nd rfl (e:) Zf))
   (Yf (Xh (Jh PassesOwn.never (Zq (Zhh hr.units) (pcT (Ut T) hr T.bJ (Za (pv 1) (Za (pv 2) Zb))) (pv 1) (Zt _)) (Zg (Znj (i:=2) Oy.nd rfl (e:) Zf Zce))))
   (Yw (Xh (Zn (Zi Ys (Zk Zj (by rfl) T.ae PySem.boot_len (Za (pv 1) Zb)) (pv 2)))))))),?_⟩;have hp:=Zjb g8;refine ⟨_,Y,_,Y,p,a,M,ns,ws,Y,ta,ie,ha,hl,λH1 s1=>⟨λ_=>?_,λz=>absurd (g8.symm.trans z) (by decide)⟩⟩;show tSeq (Qm _ _) _ _ _ _;refine Z0 (λσ H2=>∃ d:Nat,σ=[some (.ref p),some (.ref a),some (.int d)]/\Same H H2/\1<=d/\d<=ws.length/\rot ws (d % ws.length)=ws/\(∀ e,1<=e->e < d->rot ws (e % ws.length)≠ws)) (λnx gw=>?_) ?_
  ·refine ⟨λm σ H2=>∃ d:Nat,m=ws.length - d/\σ=[some (.ref p),some (.ref a),some (.int d)]/\Same H H2/\1<=d/\d<=ws.length/\(∀ e,1<=e->e < d->rot ws (e % ws.length)≠ws),⟨_,1,Y,Y,s1,An _,hp,λe e1 e2=>by lia⟩,?_⟩
   rintro m σ H2 ⟨d,rfl,rfl,s2,d1,d2,qb⟩;refine ⟨_,Y,_,Y,a,ws,d,Y,s2 _ _ ha,hl,λtl H3 s3 htl h3=>?_⟩;rw [Zis] at h3;refine ⟨_,Y,tl,a,_,ws,Y,Y,SqL.of h3,SqL.of ((s2.trans s3) _ _ ha),_,Y,?_⟩;by_cases c:rot ws (d % ws.length)=ws
   ·rw [decide_eq_true c]
    exact iteF (gw _ _ ⟨d,Y,s2.trans s3,d1,d2,c,qb⟩)
   ·rw [decide_eq_false c]
    have:d≠ws.length:=λz=>c (by rw [z]; exact Zi7 ws);refine iteT ⟨_,λσ' H' h=>h,?_⟩;refine ⟨_,Y,_,_,Y,Y,ws.length - (d + 1),by lia,d + 1,Y,Y,s2.trans s3,by lia,by lia,λe e1 e2=>?_⟩;by_cases z:e=d
    ·rw [z]; exact c
    ·exact qb e e1 (by lia)
  ·rintro σ H2 ⟨d,rfl,s2,d1,d2,hd,qb⟩
   refine ⟨_,Y,a,_,Y,.inl (SqL.of (s2 _ _ ha)),_,Y,_,_,Y,Y,⟨by lia,by lia⟩,?_⟩;have:=k H2 d s2 d1 d2 hd qb;rw [Zcb];exact this
def Zg6 {ws:List Nat} {k:Nat} (hk:k < ws.length):ws.reverse[k]?=ws[ws.length - 1 - k]?:=getElem?_reverse hk
def Zig {M:Lq} (inv:∀ (i j:Nat),M[i]?=some (some j)->M[j]?=some (some i)/\i≠j) (hP:Pl M ws):Yc M (Yc M ws)=ws:=by
 apply ext_getElem?;intro i;by_cases hi:i < ws.length
 ·have hu:=Ac hi
  obtain ⟨m,hm⟩:=hP.has _ (Au hu);have h1:(Yc M ws)[ws.length - 1 - i]?=some m:=U2 (by rw [Zg6 (by lia),show ws.length - 1 - (ws.length - 1 - i)=i by lia]; exact hu) hm;rw [hu];refine U2 ?_ (inv _ _ hm).1;rw [Zg6 (by rw [Z9]; exact hi),Z9];exact h1
 ·rw [Ay (by rw [Z9,Z9]; lia),Ay (by lia)]
def Zms (ws:List Nat) (b:Nat):rot (wI ws) b=wI (rot ws b):=by
 unfold rot wI; rw [Aj,map_drop,map_take]
def Zdx {α:Type} {ws:List α} (hs:s < ws.length) (hb:b < ws.length):rot (rot ws s) b=rot ws ((s + b) % ws.length):=by
 have hn:0 < ws.length:=by lia
 have hl:=Y3 ws (Nat.le_of_lt hs);apply ext_getElem?;intro k;by_cases hk:k < ws.length
 ·rw [Y4 (by rw [hl]; exact hb) (by rw [hl]; exact hk),hl,Y4 hs (mod_lt _ hn),Y4 (mod_lt _ hn) hk]
  congr 1;rw [mod_add_mod,add_mod_mod];congr 1;lia
 ·rw [Ay (by rw [Y3 _ (by rw [hl]; lia),hl]; lia),Ay (by rw [Y3 _ (Nat.le_of_lt (mod_lt _ hn))]; lia)]
def Zlm {α:Type} (ws:List α):rot ws ws.length=ws:=by unfold rot; simp
def F7 (M:Lq) (xs ys:List Nat):Yc M (xs ++ ys)=Yc M ys ++ Yc M xs:=by unfold Yc; rw [reverse_append,Aj]
def Zih {ws:List Nat} (hs:s<=ws.length):Yc M (rot ws s)=rot (Yc M ws) (ws.length - s):=by
 have e:Yc M ws=Yc M (ws.drop s) ++ Yc M (ws.take s):=by rw [<- F7,take_append_drop]
 have l:(Yc M (ws.drop s)).length=ws.length - s:=by rw [Z9,length_drop]
 unfold rot;rw [F7,e,drop_left' l,take_left' l]
def Yd (M:Lq) (ws:List Nat) (x:List Int):Prop:=∃ b,b < ws.length/\(x=wI (rot ws b)\/x=wI (rot (Yc M ws) b))
def Zey {M:Lq} (inv:∀ (i j:Nat),M[i]?=some (some j)->M[j]?=some (some i)/\i≠j) (hP:Pl M ws) (x:List Int):Yd M (Yc M ws) x ↔ Yd M ws x:=by
 unfold Yd;rw [Zig inv hP,Z9];refine ⟨λzz43=>?_,λ⟨b,h,c⟩=>⟨b,h,c.symm⟩⟩;obtain ⟨b,h,c⟩:=zz43;exact ⟨b,h,c.symm⟩
def Zcg {ws:List Nat} (hs:s<=ws.length) (hn:0 < ws.length):(∀ b,b < ws.length->∃ c,c < ws.length/\rot (rot ws s) b=rot ws c)/\∀ c,c < ws.length->∃ b,b < ws.length/\rot ws c=rot (rot ws s) b:=by
 by_cases z:s=ws.length
 ·subst z
  rw [Zlm];exact ⟨λb h=>⟨b,h,Y⟩,λb h=>⟨b,h,Y⟩⟩
 have hs:s < ws.length:=by lia
 refine ⟨λb h=>⟨_,mod_lt _ hn,Zdx hs h⟩,λc h=>?_⟩;refine ⟨(c + (ws.length - s)) % ws.length,mod_lt _ hn,?_⟩;rw [Zdx hs (mod_lt _ hn),add_mod_mod,show s + (c + (ws.length - s))=c + ws.length by lia,add_mod_right,mod_eq_of_lt h]
def Fa {ws:List Nat} (hs:s<=ws.length) (hn:0 < ws.length) (x:List Int):Yd M (rot ws s) x ↔ Yd M ws x:=by
 unfold Yd;rw [Y3 ws hs,Zih hs];obtain ⟨f1,f2⟩:=Zcg hs hn;obtain ⟨g1,g2⟩:=Zcg (ws:=Yc M ws) (s:=ws.length - s) (by rw [Z9]; lia) (by rw [Z9]; lia);rw [Z9] at g1 g2;constructor
 ·rintro ⟨b,h,rfl | rfl⟩
  ·obtain ⟨c,hc,e⟩:=f1 b h
   exact ⟨c,hc,.inl (by rw [e])⟩
  ·obtain ⟨c,hc,e⟩:=g1 b h
   exact ⟨c,hc,.inr (by rw [e])⟩
 ·rintro ⟨b,h,rfl | rfl⟩
  ·obtain ⟨c,hc,e⟩:=f2 b h
   exact ⟨c,hc,.inl (by rw [e])⟩
  ·obtain ⟨c,hc,e⟩:=g2 b h
   exact ⟨c,hc,.inr (by rw [e])⟩
def Ziq (ws:List Nat) (h:b < ws.length):Jr (wI ws) (b:Int)=wI (rot ws b):=by
 unfold Jr;rw [W5,show ((b:Int) % (ws.length:Int)).toNat=b by rw [<- Int.natCast_emod,mod_eq_of_lt h,Int.toNat_natCast],Zms]
def Zfw {p q:Addr} (h:HT.IsLeast S a):HT.IsLeast (λx=>S x\/x=b) (if HT.lexLt b a=true then b else a):=by
 by_cases z:HT.lexLt b a=true
 ·rw [if_pos z]
  refine ⟨.inr Y,λc hc=>?_⟩
  rcases hc with hc | rfl
  ·cases e:HT.lexLt c b with
   | false=>rfl
   | true=>rw [<- HT.lex_trans c b a e z]; exact (h.2 c hc)
  ·exact HT.lex_irr _
 ·rw [if_neg z]
  refine ⟨.inl h.1,λc hc=>?_⟩
  rcases hc with hc | rfl
  ·exact h.2 c hc
  ·simpa using z
def F9:Sp:=λvs H Q _=>∃ (a:Addr) (ws:List Nat),vs=[.ref a]/\H a=some (.lst (ws.map nV))/\0 < ws.length/\ws.length<=10000/\∀ (l:Addr) (L:List Int) (H':Hp),Same H H'->H l=none->H' l=some (.lst (L.map V.int))->HT.IsLeast (λx=>∃ b,b < ws.length/\x=wI (rot ws b)) L->Q (.ref l) H'
def Zi0 (C:Addr):Sp:=λvs H Q _=>∃ (p a:Addr) (M:Lq) (ns:List Int) (ws:List Nat),vs=[.ref p,.ref a]/\Z2 C H p M ns/\M.length=ns.length/\H a=some (.lst (ws.map nV))/\ws.length<=10000/\Pl M ws/\∀ (l:Addr) (L:List Int) (H':Hp),Same H H'->H l=none->H' l=some (.lst (L.map V.int))->HT.IsLeast (Yd M ws) L->Q (.ref l) H'
def Zjz (h:HT.IsLeast S a) (g:HT.IsLeast T b):HT.IsLeast (λx=>S x\/T x) (if HT.lexLt b a=true then b else a):=by
 by_cases z:HT.lexLt b a=true
 ·rw [if_pos z]
  refine ⟨.inr g.1,λc hc=>?_⟩
  rcases hc with hc | hc
  ·cases e:HT.lexLt c b with
   | false=>rfl
   | true=>rw [<- HT.lex_trans c b a e z]; exact (h.2 c hc)
  ·exact g.2 c hc
 ·have z:HT.lexLt b a=false:=by simpa using z
  rw [if_neg (by rw [z]; decide)];refine ⟨.inl h.1,λc hc=>?_⟩
  rcases hc with hc | hc
  ·exact h.2 c hc
  ·exact HT.lex_le z (g.2 c hc)
def IsLeast.iff (h:HT.IsLeast S a) (e:∀ x,S x ↔ T x):HT.IsLeast T a:=⟨(e a).mp h.1,λb hb=>h.2 b ((e b).mpr hb)⟩
def Zbs {H:Hp} {a b:List Int} {c:Bool} (h1:H p=some (.lst (a.map V.int))) (h2:H q=some (.lst (b.map V.int))):H (if c=true then q else p)=some (.lst ((if c=true then b else a).map V.int)):=by
 cases c <;> assumption
def Fl {H:Hp} {c:Bool} (h1:H p=none) (h2:H q=none):H (if c=true then q else p)=none:=by
 cases c <;> assumption
def Zio (M:Lq) (ws:List Nat) (x:List Int):((∃ b,b < ws.length/\x=wI (rot ws b))\/∃ b,b < (Yc M ws).length/\x=wI (rot (Yc M ws) b)) ↔ Yd M ws x:=by
 rw [Z9];constructor
 ·rintro (⟨b,h,e⟩ | ⟨b,h,e⟩)
  ·exact ⟨b,h,.inl e⟩
  ·exact ⟨b,h,.inr e⟩
 ·rintro ⟨b,h,e | e⟩
  ·exact .inl ⟨b,h,e⟩
  ·exact .inr ⟨b,h,e⟩
def Zkr {ws:List Nat}:ws.map nV=(wI ws).map V.int:=U6 ws
def Wu:FnScope ["word","best","by"] ["word"] (Zh Ui):=Am
def V9 (T:Txt w K mg t):FnOk P w K mg base (CXr P w) 2 t.bC t.bG ["word"] F9:=by
 refine T.aL.F.aR Wu (b:)
 ·obtain ⟨a,ws,rfl,ha,h0,hl,k⟩:=h
  refine ⟨_,(Zd (Zs (i:=1) Wu.nd Y (Or.inl Y) (Yl Yi (by rfl) T.ar PySem.Pv.boot_list (Za (pv 0) Zb)))
   (Zd (Ye PassesOwn.never rfl (Zhd rfl T.aj (Za Zf (Za (Zk Zj (by rfl) T.ae PySem.boot_len (Za (pv 0) Zb)) Zb))) (Zp (i:=2) Wu.nd rfl (e:)) (Zg (Zs (i:=1) Wu.nd rfl (e:) (Zk (Ge rfl hr.units) (by rfl) T.fc PyProof.Rows.boot_min (Za (pv 1) (Za (pcT (Ut T) hr T.bJ (Za (pv 0) (Za (pv 2) Zb))) Zb))))))
   (Zg (Zn (pv 1))))),?_⟩;refine Zo λnxC fq=>?_;refine ⟨_,Y,a,_,Y,.inl (SqL.of ha),λl i8=>?_⟩;refine fq _ _ ?_;dsimp only [Zm];have s1:Same H (upd H l (.lst (ws.map nV))):=Same.new i8;have h1:(upd H l (.lst (ws.map nV))) l=some (.lst ((wI ws).map V.int)):=by rw [Zc,Zkr]
  generalize upd H l (.lst (ws.map nV))=H1 at s1 h1 ⊢;show tSeq (tFor _ _ _) _ _ _ _;refine Z0 (λσ H2=>∃ (p:Addr) (L:List Int) (v:Option V),σ=[some (.ref a),some (.ref p),v]/\Same H H2/\H p=none/\H2 p=some (.lst (L.map V.int))/\HT.IsLeast (λx=>∃ b,b < ws.length/\x=wI (rot ws b)) L) (λnx gw=>?_) ?_
  ·refine ⟨_,Y,a,_,Y,.inl (SqL.of (s1 _ _ ha)),_,_,Y,⟨by decide,by decide,by rw [Ab]; lia,by rw [Ab]; lia⟩,?_⟩
   rw [Ab];refine Xn (n:=((ws.length:Int) - 1).toNat) (λi σ H2=>∃ (p:Addr) (L:List Int) (v:Option V),σ=[some (.ref a),some (.ref p),v]/\Same H H2/\H p=none/\H2 p=some (.lst (L.map V.int))/\HT.IsLeast (λx=>∃ b,b < 1 + i/\x=wI (rot ws b)) L)
    ⟨l,wI ws,none,rfl,s1,i8,h1,⟨0,by lia,by rw [Zbi]⟩,λc ⟨b,hb,e⟩=>?_⟩ ?_ ?_
   ·have:b=0:=by lia
    subst this;rw [e,Zbi];exact HT.lex_irr _
   ·rintro i σ H2 hi ⟨p,L,v,rfl,s2,hp,h2,m2⟩
    dsimp only [Zm];rw [show ((1:Int) + (i:Int))=((1 + i:Nat):Int) by lia];have hb:1 + i < ws.length:=by lia
    refine ⟨_,Y,_,Y,_,Y,a,wI ws,_,Y,by rw [s2 _ _ ha,Zkr],by rw [W5]; lia,λq H3 s3 hq h3=>?_⟩;rw [Ziq ws hb] at h3;refine ⟨p,q,L,_,Y,SqL.of (s3 _ _ h2),SqL.of h3,?_⟩;refine ⟨_,_,_,Y,s2.trans s3,Fl hp (s2.free hq),Zbs (s3 _ _ h2) h3,?_⟩;refine IsLeast.iff (Zfw (p:=p) (q:=q) m2) λx=>?_;constructor
    ·rintro (⟨b,g,e⟩ | rfl)
     ·exact ⟨b,by lia,e⟩
     ·exact ⟨1 + i,by lia,Y⟩
    ·rintro ⟨b,g,e⟩
     by_cases z:b=1 + i
     ·subst z; exact .inr e
     ·exact .inl ⟨b,by lia,e⟩
   ·rintro σ H2 ⟨p,L,v,rfl,s2,hp,h2,m2⟩
    refine gw _ _ ⟨p,L,v,Y,s2,hp,h2,IsLeast.iff m2 λx=>?_⟩;refine ⟨λzz44=>?_,λ⟨b,g,e⟩=>⟨b,by lia,e⟩⟩;obtain ⟨b,g,e⟩:=zz44;exact ⟨b,by lia,e⟩
  ·rintro σ H2 ⟨p,L,v,rfl,s2,hp,h2,m2⟩
   exact ⟨_,Y,k p L H2 s2 hp h2 m2⟩
def Za0:FnScope ["tent","word","back"] ["tent","word"] (Zh Zdu):=Am
def Zjn (T:Txt w K mg t):FnOk P w K mg base (CXr P w) 8 t.dR t.dY ["tent","word"] (Zi0 t.aa):=by
 refine T.eE.F.aX Za0 (b:)
 ·obtain ⟨p,a,M,ns,ws,rfl,ta,ie,ha,hl,hP,k⟩:=h
  have hw0:0 < ws.length:=by have:=hP.ne; cases ws with | nil=>exact absurd rfl this | cons _ _=>simp
  refine ⟨_,(Yf (Zd1 (i:=2) Za0.nd Y (Or.inl Y) (pxT (Zdc T) hr T.cD (Za (pv 0) (Za (pv 1) Zb))))
   (Yw (Xh (Zn (Zk (Ge rfl hr.units) (by rfl) T.fc PyProof.Rows.boot_min (Za (pcT (V9 T) hr T.aL (Za (pv 1) Zb)) (Za (pcT (V9 T) hr T.aL (Za (pv 2) Zb)) Zb))))))),?_⟩;refine ⟨_,Y,_,Y,p,a,M,ns,ws,Y,ta,ie,ha,hl,hP,λb H1 s1 hb h1=>?_⟩;refine ⟨_,Y,a,ws,Y,s1 _ _ ha,hw0,hl,λl2 L2 H2 s2 ij h2 m2=>?_⟩;refine ⟨_,Y,b,Yc M ws,Y,s2 _ _ h1,by rw [Z9]; exact hw0,by rw [Z9]; exact hl,λl3 L3 H3 s3 hl3 h3 m3=>?_⟩;refine ⟨l2,l3,L2,L3,Y,SqL.of (s3 _ _ h2),SqL.of h3,?_⟩;have yx:=s1.trans (s2.trans s3);exact k _ _ H3 yx (Fl (s1.free ij) (s1.free (s2.free hl3))) (Zbs (s3 _ _ h2) h3) (IsLeast.iff (Zjz m2 m3) (Zio M ws))
def dI (ks:List Int) (f:Int->Int):List (Key × V):=ks.map λx=>((Sum.inl x:Key),V.int (f x))
def Qu (h:y∈ks):valV (dI ks f) (Sum.inl y)=some (V.int (f y)):=by unfold dI; rw [Jb,if_pos h]
def Zcm (h:y∈ks):putK (dI ks f) (Sum.inl y) (V.int v)=dI ks λx=>if x=y then v else f x:=by
 unfold dI;rw [Zlp h];apply map_congr_left;intro x _;by_cases c:x=y
 ·simp [c]
 ·simp [c]
def Zia (h:y ∉ ks):putK (dI ks f) (Sum.inl y) (V.int v)=dI (ks ++ [y]) λx=>if x=y then v else f x:=by
 unfold dI;rw [Zdz h,Aj];congr 1
 ·apply map_congr_left
  intro x hx;have:x≠y:=λz=>h (z ▸ hx);simp [this]
 ·simp
def J3 {ks:List Int}:(dI ks f).length=ks.length:=by unfold dI; simp
def Zcn (h:∀ x∈ks,f x=g x):dI ks f=dI ks g:=by
 unfold dI;exact map_congr_left λx hx=>by rw [h x hx]
def crS (ns:List Int) (ws:List Nat) (x:Int):Int:=((ws.countP λq=>decide (ns[q]?=some x):Nat):Int)
def crP (M:Lq) (ws:List Nat) (p:Nat):Int:=((ws.countP λq=>decide (q=p\/M[q]?=some (some p)):Nat):Int)
def Kb {ns:List Int} (td:TD M ns) (hp:ns[p]?=some x) (ws:List Nat):crS ns ws x=crP M ws p:=by
 unfold crS crP;congr 1;apply countP_congr;intro q _;rw [decide_eq_true_eq,decide_eq_true_eq];constructor
 ·intro h
  rcases td.eqv q p x h hp with e | e
  ·exact .inl e
  ·exact .inr e
 ·rintro (rfl | e)
  ·exact hp
  ·rw [<- td.eqm q p e]; exact hp
def Zcp {α:Type} {f:α->Bool} {l:List α} {i:Nat} {x:α} (h:l[i]?=some x):(l.take (i + 1)).countP f=(l.take i).countP f + if f x=true then 1 else 0:=by
 rw [Aw,h,countP_append];simp [countP_cons]
def Zke {ns:List Int} {ws:List Nat} {i q:Nat} {y:Int} (h:ws[i]?=some q) (hy:ns[q]?=some y) (x:Int):crS ns (ws.take (i + 1)) x=if x=y then crS ns (ws.take i) y + 1 else crS ns (ws.take i) x:=by
 unfold crS;rw [Zcp h];by_cases c:x=y
 ·subst c
  rw [if_pos rfl,if_pos (decide_eq_true hy)];lia
 ·rw [if_neg c,if_neg (λz=>c (by have:=of_decide_eq_true z; rw [hy] at this; cases this; rfl))]
  lia
def Zkf {M:Lq} {ws:List Nat} {i q m:Nat} (h:ws[i]?=some q) (hm:M[q]?=some (some m)) (ne:q≠m) (p:Nat):crP M (ws.take (i + 1)) p=if p=m then crP M (ws.take i) m + 1 else if p=q then crP M (ws.take i) q + 1 else crP M (ws.take i) p:=by
 unfold crP;rw [Zcp h];by_cases c:p=m
 ·subst c
  rw [if_pos rfl,if_pos (decide_eq_true (.inr hm))];lia
 ·rw [if_neg c]
  by_cases d:p=q
  ·subst d
   rw [if_pos rfl,if_pos (decide_eq_true (.inl rfl))];lia
  ·rw [if_neg d,if_neg]
   ·lia
   ·intro z
    rcases of_decide_eq_true z with e | e
    ·exact d e.symm
    ·rw [hm] at e; cases e; exact c Y
def rowI (n:Nat) (f:Nat->Int):List V:=(List.range n).map λp=>V.int (f p)
def Yp (n:Nat) (f:Nat->Int):(rowI n f).length=n:=by unfold rowI; simp
def Xv (h:p < n):(rowI n f)[p]?=some (V.int (f p)):=by unfold rowI; rw [Ah,getElem?_range h]; rfl
def Je:(rowI n f).set p (V.int v)=rowI n λq=>if q=p then v else f q:=by
 apply ext_getElem?;intro i;by_cases hi:i < n
 ·rw [Xv hi,getElem?_set,Yp]
  by_cases c:p=i
  ·subst c; simp [hi]
  ·rw [if_neg c,Xv hi,if_neg (λz=>c z.symm)]
 ·rw [Ay (by rw [length_set,Yp]; lia),Ay (by rw [Yp]; lia)]
def Vs (h:∀ p,f p=g p):rowI n f=rowI n g:=by unfold rowI; exact map_congr_left λp _=>by rw [h p]
def Zix (C:Addr):Sp:=λvs H Q _=>∃ (p a:Addr) (M:Lq) (ns:List Int) (ws:List Nat),vs=[.ref p,.ref a]/\Z2 C H p M ns/\TD M ns/\ns.length < 64/\H a=some (.lst (ws.map nV))/\ws.length<=10000/\Pl M ws /\
 ∀ (l:Addr) (ks:List Int) (H':Hp),Same H H'->H l=none->ks.Perm (h:)->H' l=some (.dK (dI ks (crS ns ws)))->Q (.ref l) H'
def Ze5:Sp:=λvs H Q _=>∃ (m a:Addr) (M:Lq) (ws:List Nat),vs=[.ref m,.ref a]/\H m=some (.lst (M.map mV))/\M.length<=1000/\(∀ (i j:Nat),M[i]?=some (some j)->M[j]?=some (some i)/\i≠j)/\H a=some (.lst (ws.map nV))/\Pl M ws /\
 ∀ (l:Addr) (H':Hp),Same H H'->H l=none->H' l=some (.lst (rowI M.length (crP M ws)))->Q (.ref l) H'
def Ziz:Sp:=λvs H Q _=>∃ (r c:Addr) (ns:List Int) (f:Nat->Int),vs=[.ref r,.ref c]/\X0 H r ns/\ns.length<=1000/\H c=some (.lst (rowI ns.length f)) /\
 ∀ (l:Addr) (g:Int->Int) (H':Hp),Same H H'->H l=none->H' l=some (.dK (dI (h:) g))->(∀ x∈keys ns ns.length,∃ p,ns[p]?=some x/\g x=f p)->Q (.ref l) H'
def Zgt:Sp:=λvs H Q _=>∃ (p q:Addr) (ks zb:List Int) (f g:Int->Int),vs=[.ref p,.ref q]/\H p=some (.dK (dI ks f))/\H q=some (.dK (dI zb g))/\p≠q/\ks.Perm zb/\(∀ x∈ks,f x=g x)/\Q (.bl true) H
def Zk0 (h:H a=some o):upd (upd H a u) a o=H:=by
 funext b;by_cases c:b=a
 ·subst c; rw [Zc,h]
 ·rw [Ze c,Ze c]
def Fe:FnScope ["_law_found","_law_due","_law_seam"] ["_law_found","_law_due"] (Zh Zbc):=Am
def Zhn (T:Txt w K mg t):FnOk P w K mg base (CXr P w) 2 t.di t.dA ["_law_found","_law_due"] Zgt:=by
 refine T.dG.F.aR Fe (b:)
 ·obtain ⟨p,q,ks,zb,f,g,rfl,hp,hq,hpq,hk,hf,k⟩:=h
  have hu:=Q1 hr;refine ⟨_,(Zd (Zy (PW.pt (Wj (Y7 (Y6 (Zk Wq (by rfl) T.aq PyProof.Rows.boot_isinstance (Za (pv 0) (Za (Ve (v:=.ty "dict") (by rfl) T.dL PySem.Pv.boot_dict rfl) Zb))))) (X7 (Zq Qy (Zk F0 (by rfl) T.ae PySem.boot_len (Za (pv 0) Zb)) (Zk F0 (by rfl) T.ae PySem.boot_len (Za (pv 1) Zb)) (Zt _))))) (Zg (Zn Yr)) Zv)
   (Zd (Gv (Ye PassesOwn.never rfl (Gx (pv 0)) (Zp (i:=2) Fe.nd rfl (e:)) (Zd (Zy (PW.pt (Wj (Y7 (Y6 (pcT (Vu T) hr T.bd (Za (pv 2) Zb)))) (X7 (Zg9 (Fm hu (pv 2) (pv 1)) (by with_unfolding_all rfl))))) (Zg (Zn Yr)) Zv)
   (Zg (Zy (PW.pt (Wj (Y7 (Y6 (pcT (Vu T) hr T.bd (Za (Wb hu (pv 0) (pv 2) (i:)) Zb)))) (X7 (Zq Qy (Wb hu (pv 0) (pv 2) (i:)) (Wb hu (pv 1) (pv 2) (i:)) (Zt _))))) (Zg (Zn Yr)) Zv)))))
   (Zg (Zn Yr)))),?_⟩
  refine Zo λnxC fq=>?_;refine ⟨_,Y,_,"dict",_,true,rfl,TyOf.dK hp,Vx,_,rfl,iteF ?_⟩;refine ⟨_,Y,p,_,Y,hp,_,Y,q,_,Y,hq,Y,_,Y,?_⟩;rw [J3,J3,hk.length_eq,decide_eq_true rfl];refine iteF ?_;refine fq _ _ ?_;refine Z0 (λσ H'=>H'=H) (λnx gw=>?_) ?_
  ·refine ⟨_,Y,p,_,Y,.inl ⟨hp,λo=>?_⟩⟩
   have iu:(upd H p (.frz o (.dK (dI ks f)))) q=some (.dK (dI zb g)):=by rw [Ze (Ne.symm hpq)]; exact hq
   refine Zci (λi σ H9=>∃ v,σ=[some (.ref p),some (.ref q),v]/\H9=upd H p (.frz o (.dK (dI ks f)))) ⟨_,Y,Y⟩ ?_ ?_ ?_
   ·rintro i σ H9 _ ⟨v,rfl,rfl⟩
    exact Zc
   ·rintro i k0 x0 σ H9 ip ⟨v,rfl,rfl⟩
    obtain ⟨y,hy,rfl⟩:∃ y,y∈ks/\k0=Sum.inl y:=by
     unfold dI at ip;rw [Ah] at ip
     cases e:ks[i]? with
     | none=>rw [e] at ip; cases ip
     | some z=>rw [e] at ip; cases ip; exact ⟨z,Au e,Y⟩
    have d1:DGet (upd H p (.frz o (.dK (dI ks f)))) p (.int y) (some (V.int (f y))):=.inl ⟨_,Sum.inl y,.inr ⟨o,Zc⟩,rfl,(Qu hy).symm⟩;have d2:DGet (upd H p (.frz o (.dK (dI ks f)))) q (.int y) (some (V.int (g y))):=.inl ⟨_,Sum.inl y,.inl iu,rfl,(Qu (hk.mem_iff.mp hy)).symm⟩;dsimp only [Zm,kV];refine Zo λnxC fq=>?_;refine ⟨_,Y,y,Y,_,Y,iteF ?_⟩;refine ⟨_,Y,_,Y,q,_,Y,d2,_,Y,iteF ?_⟩;refine fq _ _ ?_;refine ⟨_,Y,_,Y,p,_,Y,d1,_,Y,_,Y,iteF ?_⟩;refine ⟨_,Y,_,Y,p,_,Y,d1,_,Y,_,Y,q,_,Y,d2,Y,_,Y,?_⟩;rw [hf y hy,decide_eq_true rfl];exact iteF ⟨_,Y,Y⟩
   ·rintro σ H9 ⟨v,rfl,rfl⟩
    refine ⟨p,o,_,Zc,λo' u z=>?_,?_⟩
    ·have z:H p=some (.frz o' u):=z
     rw [hp] at z; cases z
    ·rw [Zk0 hp]; exact gw _ _ Y
  ·rintro σ H' rfl
   exact k
def Vq:FnScope ["_law_mates","_law_word","_law_counts","_law_p"] ["_law_mates","_law_word"] (Zh Fg):=Am
def Zfh (T:Txt w K mg t):FnOk P w K mg base (CXr P w) 1 t.cO t.cU ["_law_mates","_law_word"] Ze5:=by
 refine T.cX.F.aR Vq (b:)
 ·obtain ⟨m,a,M,ws,rfl,hm,hl,inv,ha,hP,k⟩:=h
  refine ⟨_,(Zd (Zs (i:=2) Vq.nd Y (Or.inl Y) (Zi Kw (Xj (Za Zf Zb)) (Zk Zj (by rfl) T.ae PySem.boot_len (Za (pv 0) Zb))))
   (Zd (Ye PassesOwn.never rfl (Ya (pv 1)) (Zp (i:=3) Vq.nd rfl (e:)) (Zd (Zd3 (pv 2) (pv 3) Zch Zf Zce Xp)
   (Zg (Zd3 (pv 2) (Zu Zr (pv 0) (pv 3) (i:)) Zch Zf Zce Xp))))
   (Zg (Zn (pv 2))))),?_⟩;refine Zo λnxC fq=>?_;refine ⟨(by show 1<=sizeLine; decide),λz hz=>?_⟩;have sz:Same H (upd H z (.lst [.int 0])):=Same.new hz;refine ⟨_,Y,m,_,Y,.inl (SqL.of (sz _ _ hm)),z,_,_,Y,Y,Zc,by lia,by rw [Ab]; lia,?_,λc hc=>?_⟩
  ·show 1 * _<=_
   rw [Ab,Int.toNat_natCast,Nat.one_mul];exact Vp (by lia)
  refine fq _ _ ?_;dsimp only [Zm];have e0:(List.replicate ((((M.map mV).length:Nat):Int)).toNat [V.int 0]).flatten=rowI M.length (crP M (ws.take 0)):=by
   rw [Ab,Int.toNat_natCast,flatten_replicate_singleton]
   unfold rowI crP
   apply ext_getElem?
   intro i
   rw [Ah,getElem?_replicate]
   by_cases hi:i < M.length
   ·rw [if_pos hi,getElem?_range hi]; rfl
   ·rw [if_neg hi,Ay (by rw [length_range]; lia)]; rfl
  rw [e0];have sc1:=Same.add (o:=.lst (rowI M.length (crP M (ws.take 0)))) sz (sz.free hc);have hc0:=sz.free hc;have h1:(upd (upd H z (.lst [.int 0])) c (.lst (rowI M.length (crP M (ws.take 0))))) c=some (.lst (rowI M.length (crP M (ws.take 0)))):=Zc;generalize upd (upd H z (.lst [.int 0])) c (.lst (rowI M.length (crP M (ws.take 0))))=H1 at sc1 h1 ⊢;refine Z0 (λσ H'=>σ.getD 2 none=some (.ref c)/\Same H H'/\H' c=some (.lst (rowI M.length (crP M ws)))) (λnx gw=>?_) ?_
  ·refine ⟨_,Y,a,Y,⟨_,SqL.of (sc1 _ _ ha)⟩,?_⟩
   refine W1 (xs:=ws.map nV) (λi σ H2=>∃ v,σ=[some (.ref m),some (.ref a),some (.ref c),v]/\Same H H2/\H2 c=some (.lst (rowI M.length (crP M (ws.take i))))) ⟨_,Y,sc1,h1⟩ ?_ ?_ ?_
   ·rintro i σ H2 _ ⟨v,rfl,s2,h2⟩
    exact SqL.of (s2 _ _ ha)
   ·rintro i x σ H2 hx ⟨v,rfl,s2,h2⟩
    obtain ⟨q,hq,rfl⟩:=map_some hx;obtain ⟨mt,mh⟩:=hP.has q (Au hq);obtain ⟨hmb,g9⟩:=inv q mt mh;have zh:q < M.length:=(Aa mh).1;have htM:mt < M.length:=(Aa hmb).1;dsimp only [Zm];refine Zo λnxC fq=>?_;refine ⟨_,Y,_,Y,c,_,q,_,Y,Y,SqL.of h2,Xv zh,_,_,Y,Y,c,_,_,q,Y,Y,h2,(by rw [Yp]; exact Wc zh),?_⟩;refine fq _ _ ?_;rw [Je];have s3:=Same.add (o:=.lst (rowI M.length λp=>if p=q then crP M (ws.take i) q + 1 else crP M (ws.take i) p)) s2 hc0;have h3:(upd H2 c (.lst (rowI M.length λp=>if p=q then crP M (ws.take i) q + 1 else crP M (ws.take i) p))) c=some (.lst (rowI M.length λp=>if p=q then crP M (ws.take i) q + 1 else crP M (ws.take i) p)):=Zc;generalize upd H2 c (.lst (rowI M.length λp=>if p=q then crP M (ws.take i) q + 1 else crP M (ws.take i) p))=H3 at s3 h3 ⊢;refine ⟨_,Y,_,Y,_,Y,m,_,_,_,Y,Y,SqL.of (s3 _ _ hm),Z6 mh,c,_,mt,_,Y,Y,SqL.of h3,Xv htM,_,_,Y,Y,c,_,_,mt,Y,Y,h3,(by rw [Yp]; exact Wc htM),?_⟩;refine ⟨_,Y,Same.add s3 hc0,?_⟩;rw [Zc,Je];congr 2;refine Vs λp=>?_;rw [Zkf hq mh g9 p,if_neg (Ne.symm g9)]
   ·rintro σ H2 ⟨v,rfl,s2,h2⟩
    rw [Ab,take_length] at h2;exact gw _ _ ⟨Y,s2,h2⟩
  ·rintro σ H2 ⟨e,s2,h2⟩
   have e2:∃ u,σ[2]?=some (some u)/\u=V.ref c:=by
    cases z:σ[2]? with
    | none=>rw [Ad,z] at e; cases e
    | some y=>rw [Ad,z] at e; cases e; exact ⟨_,Y,Y⟩
   obtain ⟨u,e3,rfl⟩:=e2;exact ⟨_,e3,k c H2 s2 hc0 h2⟩
theorem Qj (ns:List Int):∀ n,(keys ns n).length<=n
 | 0=>An _
 | n + 1=>by
  have ih:=Qj ns n
  cases h:ns[n]? with
  | none =>
   have:keys ns (n + 1)=keys ns n:=by
    show (match ns[n]? with | some x=>if x∈keys ns n then keys ns n else keys ns n ++ [x] | none=>keys ns n)=_;rw [h]
   rw [this]; lia
  | some x =>
   rw [Xm h];split
   ·lia
   ·rw [Ae,At]; lia
def Zc7 {M:Lq} {ns:List Int} (td:TD M ns) {q:Nat} (h:M[q]?=some (some m)):∃ y,ns[q]?=some y/\y∈keys ns ns.length:=by
 have hq:q < ns.length:=by rw [td.len]; exact (Aa h).1
 exact ⟨_,Ac hq,Yy.mpr ⟨q,hq,Ac hq⟩⟩
def Vr:FnScope ["_law_rows_here","_law_counts","_law_due","_law_p"] ["_law_rows_here","_law_counts"] (Zh Fi):=Am
def Ky (T:Txt w K mg t):FnOk P w K mg base (CXr P w) 1 t.cK t.cQ ["_law_rows_here","_law_counts"] Ziz:=by
 refine T.bM.F.aR Vr (b:)
 ·obtain ⟨r,c,ns,f,rfl,j8,hl,hc,k⟩:=h
  have hu:=Q1 hr;refine ⟨_,(Zd (Zs (i:=2) Vr.nd Y (Or.inl Y) Zbv)
   (Zd (Ye PassesOwn.never rfl (Yu rfl T.aj (Za (Zk Zj (by rfl) T.ae PySem.boot_len (Za (pv 1) Zb)) Zb)) (Zp (i:=3) Vr.nd rfl (e:)) (Zg (Zd2 hu (pv 2) (Zu Ux (Zu Zr (pv 0) (Zi Ys (pv 3) Zf) (i:)) (Zi Zz (pv 3) Zf) (i:)) (Zu Zr (pv 1) (pv 3) (i:)) rfl)))
   (Zg (Zn (pv 2))))),?_⟩
  intro d hd;have s1:Same H (upd H d (.dK [])):=Same.new hd;dsimp only [Zm];show tSeq (tFor _ _ _) _ _ _ _;refine Z0 (λσ H'=>∃ (g:Int->Int) (v:Option V),σ=[some (.ref r),some (.ref c),some (.ref d),v]/\Same H H'/\H' d=some (.dK (dI (h:) g))/\∀ x∈keys ns ns.length,∃ p,ns[p]?=some x/\g x=f p) (λnx gw=>?_) ?_
  ·refine ⟨_,Y,c,_,Y,.inl (SqL.of (s1 _ _ hc)),_,Y,by rw [Yp]; lia,by rw [Yp]; lia,?_⟩
   have eL:((((rowI ns.length f).length:Nat):Int)).toNat=ns.length:=by rw [Yp,Int.toNat_natCast]
   rw [eL];refine Xn (n:=ns.length) (λi σ H'=>∃ (g:Int->Int) (v:Option V),σ=[some (.ref r),some (.ref c),some (.ref d),v]/\Same H H'/\H' d=some (.dK (dI (keys ns i) g))/\∀ x∈keys ns i,∃ p,ns[p]?=some x/\g x=f p) ⟨λ_=>0,_,Y,s1,Zc,λx hx=>by simp [keys] at hx⟩ ?_ ?_
   ·rintro i σ H' hi ⟨g,v,rfl,s2,jn,hg⟩
    dsimp only [Zm];rw [Int.zero_add];obtain ⟨y,hy⟩:∃ y,ns[i]?=some y:=⟨_,Ac hi⟩;obtain ⟨ts',q,e1,e2,e3,e4⟩:=Znc (j8.same s2) hy;have ke:=s2 _ _ hc;refine ⟨_,Y,_,Y,c,_,_,_,Y,Y,SqL.of ke,Yz (Xv hi),_,Y,?_⟩;refine ⟨_,Y,_,Y,_,_,Y,Y,⟨by decide,by decide⟩,r,_,_,_,Y,Y,SqL.of e1,(by rw [div3]; exact Z6 e2),_,Y,_,_,Y,Y,(by show (0:Int) < 3; decide),q,_,_,_,rfl,rfl,SqT.of e3,(by rw [mod3]; exact Yz e4),?_⟩;refine ⟨d,_,Y,DPut.k (k:=Sum.inl y) jn (by rw [J3]; exact Zx (by have:=Qj ns i; lia)),?_⟩;refine ⟨λx=>if x=y then f i else g x,_,Y,Same.add s2 hd,?_,?_⟩
    ·rw [Zc,Xm hy]
     by_cases z:y∈keys ns i
     ·rw [if_pos z,Zcm z]
     ·rw [if_neg z,Zia z]
    ·intro x hx
     by_cases z:x=y
     ·subst z
      exact ⟨i,hy,if_pos Y⟩
     ·have:x∈keys ns i:=by
       rw [Xm hy] at hx;split at hx
       ·exact hx
       ·rcases mem_append.mp hx with q' | q'
        ·exact q'
        ·exact absurd (Af q') z
      obtain ⟨p,h1,h2⟩:=hg x this;exact ⟨p,h1,by show (if x=y then f i else g x)=f p; rw [if_neg z]; exact h2⟩
   ·rintro σ H' ⟨g,v,rfl,s2,jn,hg⟩
    exact gw _ _ ⟨g,v,Y,s2,jn,hg⟩
  ·rintro σ H' ⟨g,v,rfl,s2,jn,hg⟩
   exact ⟨_,Y,k d g H' s2 hd jn hg⟩
def Oz:FnScope ["tent","word","crossed","place"] ["tent","word"] (Zh Zds):=Am
def Zbz (T:Txt w K mg t):FnOk P w K mg base (CXr P w) 7 t.dU t.ee ["tent","word"] (Zix t.aa):=by
  refine T.cZ.F.aX Oz (b:)
  · obtain ⟨p,a,M,ns,ws,rfl,ta,td,mq,ha,hl,hP,k⟩:=h
    have hu:=Q1 hr;refine ⟨_,(Yf (Qo (pxT (Jl T) hr T.au (Za (pv 0) (Za (pv 1) Zb))))
      (Yf (Xh (Zbo (ts:=["seam"]) (fv:=[]) (i:=2) (bkO trivial) rfl Oz.nd rfl rfl (by rfl) (Ya (Qq (pv 0) T.ad T.ap.m (Ua T) (hr.mono (by decide)) T.ap.b .nil Xs)) (λ_ _ _ _=>(Zp (i:=0) (show List.Nodup (["seam"]:List Str) from by decide +kernel) rfl (e:) (Or.inr rfl))) (λ_ _ _ _=>Yb) (λ_ _ _=>rfl) (λ_ _ _ _ _ _=>Zjh (pv 0) Zf)))
      (Yf (Xh (Ye PassesOwn.never rfl (Ya (pv 1)) (Zp (i:=3) Oz.nd rfl (e:)) (Zg (Zls hu (pv 2) (Wk (pv 0) T.ad T.am.m (Q0 T) (hr.mono (by decide)) T.am.b .nil Xs (Za (pv 3) Zb)) Zf Zn5 (by intros; rfl)))))
      (Yw (Xh (Zn (pv 2))))))),?_⟩
    refine ⟨_,Y,_,Y,p,a,M,ns,wI ws,Y,ta,td.len.symm,by rw [ha,U6],by rw [W5]; lia,λH1 s1=>⟨λ_=>?_,λz=>absurd ((Uq.mpr hP).symm.trans z) (by decide)⟩⟩;have kl:=ta.same s1;obtain ⟨dx,cl,na,sp,mt,o,ff,b⟩:=id kl;refine ⟨_,Y,p,dx,_,Y,b.ins,Yn _ _ _ _,p,M,ns,Y,kl,mq,λl ks i8 uk _=>?_⟩;have s2:Same H1 (upd H1 l (.lst (ks.map V.int))):=Same.new i8;have h2:(upd H1 l (.lst (ks.map V.int))) l=some (.lst (ks.map V.int)):=Zc;generalize upd H1 l (.lst (ks.map V.int))=H2 at s2 h2 ⊢;have hkn:ks.Nodup:=uk.nodup_iff.mpr (Vy ns ns.length);have jv:ks.length<=64:=by rw [uk.length_eq]; have:=Qj ns ns.length; lia
    refine ⟨l,Y,⟨_,SqL.of h2⟩,λD hD=>?_⟩;refine Ym (xs:=ks.map V.int) (λi σ H3=>∃ v,σ=[v]/\Same H2 H3/\H3 D=some (.dK (dI (ks.take i) λ_=>0))) ⟨none,Y,Same.new hD,Zc⟩ ?_ ?_ ?_
    · rintro i σ H3 _ ⟨v,rfl,s3,h3⟩
      exact SqL.of (s3 _ _ h2)
    · rintro i x σ H3 hx ⟨v,rfl,s3,h3⟩
      obtain ⟨y,hy,rfl⟩:=map_some hx;dsimp only [Zm,tYes];rw [if_pos rfl];refine ⟨_,Y,_,Sum.inl y,Y,h3,(by rw [J3,Ai]; exact Zx (by lia)),_,Y,Same.add s3 hD,?_⟩;rw [Zc,Aw,hy];have hny:y ∉ ks.take i:=λz=>by
        obtain ⟨j,hj,e⟩:=mem_iff_getElem.mp z
        rw [Ai] at hj
        have e1:ks[j]?=some y:=by rw [<- e,getElem_take,Ac]
        have hi:i < ks.length:=(Aa hy).1
        have e2:ks[j]'(by lia)=ks[i]:=by
          have:=(Aa e1).2
          have:=(Aa hy).2
          simp_all
        have:=(getElem_inj hkn).mp e2
        lia
      rw [Zia hny];show some (HO.dK (dI (ks.take i ++ [y]) λx=>if x=y then 0 else 0))=some (HO.dK (dI (ks.take i ++ [y]) λ_=>0));congr 2;exact Zcn λx _=>by split <;> rfl
    rintro σ H3 ⟨v,rfl,s3,h3⟩;rw [Ab,take_length] at h3
    try dsimp only [Zm]
    have s03:=s1.trans (s2.trans s3);have uy:=s1.free (s2.free hD);show tSeq (tFor _ _ _) _ _ _ _;refine Z0 (λσ H'=>∃ v,σ=[some (.ref p),some (.ref a),some (.ref D),v]/\Same H H'/\H' D=some (.dK (dI ks (crS ns ws)))) (λnx gw=>?_) ?_
    · refine ⟨_,Y,a,Y,⟨_,SqL.of (s03 _ _ ha)⟩,?_⟩
      have e0:dI ks (λ_=>0)=dI ks (crS ns (ws.take 0)):=rfl;rw [e0] at h3;refine W1 (xs:=ws.map nV) (λi σ H'=>∃ v,σ=[some (.ref p),some (.ref a),some (.ref D),v]/\Same H H'/\H' D=some (.dK (dI ks (crS ns (ws.take i))))) ⟨_,Y,s03,h3⟩ ?_ ?_ ?_
      · rintro i σ H' _ ⟨v,rfl,s4,h4⟩
        exact SqL.of (s4 _ _ ha)
      · rintro i x σ H' hx ⟨v,rfl,s4,h4⟩
        obtain ⟨q,hq,rfl⟩:=map_some hx;obtain ⟨m',ph⟩:=hP.has q (Au hq);obtain ⟨y,hy,o8⟩:=Zc7 td ph;have xo:=uk.mem_iff.mpr o8;have u6:=ta.same s4;obtain ⟨dx4,cl4,na4,sp4,mt4,o4,ff4,b4⟩:=id u6;have hqn:q < ns.length:=(Aa hy).1;dsimp only [Zm];refine ⟨_,Y,_,Y,p,dx4,_,Y,b4.ins,Yn _ _ _ _,_,Y,p,M,ns,q,Y,u6,λi' y' z1 z2=>?_,λz=>absurd (show (0:Int)<=q/\(q:Int) < ns.length by lia) z⟩;have:i'=q:=by lia
        subst this;rw [hy] at z2;cases z2;refine ⟨D,V.int (crS ns (ws.take i) y),Y,.inl ⟨_,Sum.inl y,.inl h4,Y,(Qu xo).symm⟩,_,_,Y,Y,_,DPut.k (k:=Sum.inl y) h4 (by rw [J3]; exact Zx (by lia)),?_⟩;refine ⟨_,Y,Same.add s4 uy,?_⟩;rw [Zc,Zcm xo];congr 2;exact Zcn λx _=>(Zke hq hy x).symm
      · rintro σ H' ⟨v,rfl,s4,h4⟩
        rw [Ab,take_length] at h4;exact gw _ _ ⟨v,Y,s4,h4⟩
    · rintro σ H' ⟨v,rfl,s4,h4⟩
      exact ⟨_,Y,k D ks H' s4 uy uk h4⟩
structure OkC (M:Lq) (ns:List Int) (g:Int->Int):Prop where
 nn:∀ x∈keys ns ns.length,0<=g x
 rim:∀ (i:Nat) (x:Int),M[i]?=some none->ns[i]?=some x->g x=0
 even:∀ k,3 * k + 2 < ns.length->(g (ns.getD (3 * k) 0) + g (ns.getD (3 * k + 1) 0) + g (ns.getD (3 * k + 2) 0)) % 2=0
 tri:∀ k,3 * k + 2 < ns.length->g (ns.getD (3 * k) 0)<=g (ns.getD (3 * k + 1) 0) + g (ns.getD (3 * k + 2) 0)/\g (ns.getD (3 * k + 1) 0)<=g (ns.getD (3 * k) 0) + g (ns.getD (3 * k + 2) 0)/\g (ns.getD (3 * k + 2) 0)<=g (ns.getD (3 * k) 0) + g (ns.getD (3 * k + 1) 0)
def Zpd (H H':Hp):Prop:=∀ b u,(∀ kvs,u≠.dK kvs)->H b=some u->H' b=some u
def Z2.sameD (h:Z2 C H p M ns) (s:Zpd H H'):Z2 C H' p M ns:=by
 obtain ⟨dx,cl,na,sp,mt,o,f,b⟩:=h;obtain ⟨ts,r1,r2,r3⟩:=b.rows;exact ⟨dx,cl,na,sp,mt,o,f,s _ _ (λ_ z=>nomatch z) b.ins,⟨ts,s _ _ (λ_ z=>nomatch z) r1,r2,λk t e=>s _ _ (λ_ z=>nomatch z) (r3 k t e)⟩,s _ _ (λ_ z=>nomatch z) b.names,s _ _ (λ_ z=>nomatch z) b.spots,s _ _ (λ_ z=>nomatch z) b.mates,λx hx=>s _ _ (λ_ z=>nomatch z) (b.at' x hx)⟩
def V3 (H:Hp) (c:Addr) (ns:List Int) (g:Int->Int):Prop:=∃ ks:List Int,H c=some (.dK (dI ks g))/\ks.Perm (h:)
def V3.same (h:V3 H c ns g) (s:Same H H'):V3 H' c ns g:=by
 obtain ⟨ks,h1,h2⟩:=h;exact ⟨ks,s _ _ h1,h2⟩
def Zng {M:Lq} {ns:List Int} (td:TD M ns) (hx:x∈keys ns ns.length) (h:Xa ns x="rim"):∃ a:Nat,M[a]?=some none/\ns[a]?=some x:=by
 rcases Ze8 td hx with ⟨_,a,e,ma⟩ | ⟨e,_⟩ | ⟨e,_⟩
 ·refine ⟨a,ma,?_⟩
  have:a∈pl ns ns.length x:=by rw [e]; exact mem_singleton.mpr Y
  unfold pl at this;exact of_decide_eq_true (mem_filter.mp this).2
 ·rw [h] at e; exact absurd e (by decide)
 ·rw [h] at e; exact absurd e (by decide)
def g3 (ns:List Int) (g:Int->Int) (k:Nat):List Int:=[g (ns.getD (3 * k) 0),g (ns.getD (3 * k + 1) 0),g (ns.getD (3 * k + 2) 0)]
def K5 {ns:List Int} (h:i < ns.length):ns.getD i 0∈keys ns ns.length:=by
 have e:ns[i]?=some (ns.getD i 0):=by rw [Ad,Ac h]; rfl
 exact Yy.mpr ⟨i,h,e⟩
def Zo8 {ns:List Int} {j:Nat} (h:(row3 ns i)[j]?=some x):∃ z,(3 * i + 2 < ns.length->z∈keys ns ns.length)/\x=V.int z/\(g3 ns g i)[j]?=some (g z):=by
 match j,h with
 | 0,h=>cases h; exact ⟨_,λh=>K5 (by lia),Y,Y⟩
 | 1,h=>cases h; exact ⟨_,λh=>K5 (by lia),Y,Y⟩
 | 2,h=>cases h; exact ⟨_,λh=>K5 h,Y,Y⟩
 | j + 3,h=>simp [row3] at h
def Zh4 {us:List Addr} (h:some (HO.lst (us.map V.ref))=some (HO.lst ((g3 ns g k).map V.int))):False:=by
 injection h with h
 injection h with h
 cases us with
 | nil=>cases h
 | cons a r=>injection h with h _; cases h
def Zeu (h:H c=some (.dK (dI ks g))) (hz:z∈ks):DGet H c (.int z) (some (.int (g z))):=.inl ⟨_,Sum.inl z,.inl h,rfl,(Qu hz).symm⟩
def F8 (n:Nat):(List.replicate n false).any id=false:=by
 induction n with
 | zero=>rfl
 | succ n ih=>rw [replicate_succ,any_cons,ih]; rfl
structure OkN (M:Lq) (ns:List Int) (g:Int->Int):Prop where
 nn:∀ x∈keys ns ns.length,0<=g x
 rim:∀ (i:Nat) (x:Int),M[i]?=some none->ns[i]?=some x->g x=0
def Zc0 (C:Addr):Sp:=λvs H Q _=>∃ (p c:Addr) (M:Lq) (ns:List Int) (g:Int->Int),vs=[.ref p,.ref c]/\Z2 C H p M ns/\TD M ns/\ns.length < 64/\V3 H c ns g/\OkN M ns g/\∀ H',Same H H'->Q .non H'
def Ke (C:Addr):Sp:=λvs H Q _=>∃ (p c:Addr) (M:Lq) (ns:List Int) (g:Int->Int),vs=[.ref p,.ref c]/\Z2 C H p M ns/\TD M ns/\ns.length < 64/\V3 H c ns g/\OkC M ns g/\∀ H',Same H H'->Q .non H'
def W6:FnScope ["tent","counts","seam","number"] ["tent","counts"] (Zh Q6):=Am
def Kx (T:Txt w K mg t):FnOk P w K mg base (CXr P w) 3 t.aQ t.aV ["tent","counts"] (Zc0 t.aa):=by
 refine T.aZ.F.aR W6 (b:)
 ·obtain ⟨p,c,M,ns,g,rfl,ta,td,mq,⟨ks,hc,gz⟩,ok,k⟩:=h
  refine ⟨_,(Zd (Zy (Zq (Zhh hr.units) (Zk (U0 Y) (by rfl) T.cI PyProof.Rows.boot_sorted (Za (pv 1) Zb)) (Qq (pv 0) T.ad T.ap.m (Ua T) (hr.mono (by decide)) T.ap.b .nil Xs) (Zt _)) Xi Zv)
   (Zg (Gv (Ye PassesOwn.never rfl (Zjd (pv 1) ⟨rfl,rfl,rfl⟩) (Vc rfl (Yq (Zp (i:=2) W6.nd rfl (e:)) (Yq (Zp (i:=3) W6.nd rfl (e:)) Ji))) (Zd (Zy (Zq Jv (pv 3) Zf (Zt _)) Xi Zv)
   (Zg (Zy (PW.pt (Kt (Zq Qa (pv 3) Zf (Zt _)) (U5 (Zq Xc (Wk (pv 0) T.ad T.ay.m (K0 T) (hr.mono (by decide)) T.ay.b .nil Xs (Za (pv 2) Zb)) Qp (Zt _))))) Xi Zv))))))),?_⟩;refine Zo λnxC fq=>?_;have jv:ks.length < 64:=by have h1:=gz.length_eq; have h2:=Qj ns ns.length; lia
  refine ⟨_,Y,c,_,ks,Y,.inl hc,(by unfold dI; rw [map_map]; rfl),jv,λl1 ll i8 pm1 rc=>?_⟩;have s1:Same H (upd H l1 (.lst (ll.map V.int))):=Same.new i8;have kl:=ta.same s1;obtain ⟨dx,cl,na,sp,mt,o,f,B⟩:=id kl;refine ⟨_,Y,p,dx,_,Y,B.ins,Yn _ _ _ _,p,M,ns,Y,kl,mq,λl2 p6 ij qj fy=>?_⟩;have s2:Same (upd H l1 (.lst (ll.map V.int))) (upd (upd H l1 (.lst (ll.map V.int))) l2 (.lst (p6.map V.int))):=Same.new ij;refine ⟨l1,l2,ll,p6,Y,Y,SqL.of (s2 _ _ Zc),SqL.of Zc,_,Y,?_⟩;obtain rfl:=Zgw (pm1.trans gz) qj rc fy;rw [decide_eq_true rfl];refine iteF ?_;have uf:=s1.trans s2;generalize upd (upd H l1 (.lst (ll.map V.int))) l2 (.lst (ll.map V.int))=H2 at uf ⊢;clear B kl s1 s2 pm1 rc qj fy i8 ij
  try dsimp only [Y8]
  refine fq _ _ ?_;have ke:=uf _ _ hc;have qe:=ta.same uf;refine ⟨_,Y,c,_,Y,.inl ⟨ke,λo=>?_⟩⟩;refine Zh5 (λi σ H9=>∃ v2 v3:Option V,σ=[some (.ref p),some (.ref c),v2,v3]/\(∀ b u,b≠c->H2 b=some u->H9 b=some u)/\H9 c=some (.frz o (.dK (dI ks g)))) ⟨none,none,Y,λb u hb e=>by rw [Ze hb]; exact e,Zc⟩ ?_ ?_ ?_
  ·rintro i σ H9 _ ⟨v2,v3,rfl,_,e⟩
   exact e
  ·rintro i k0 x0 σ H9 q ip hq ⟨v2,v3,rfl,s9,h9⟩
   obtain ⟨y,hy,rfl,rfl⟩:∃ y,y∈ks/\k0=Sum.inl y/\x0=V.int (g y):=by
    unfold dI at ip;rw [Ah] at ip
    cases e:ks[i]? with
    | none=>rw [e] at ip; cases ip
    | some z=>rw [e] at ip; cases ip; exact ⟨z,Au e,Y,Y⟩
   have jq:y∈keys ns ns.length:=gz.mem_iff.mp hy;have sq:Same H9 (upd H9 q (.tup [kV (Sum.inl y),V.int (g y)])):=Same.new hq;have taq:Z2 t.aa (upd H9 q (.tup [kV (Sum.inl y),V.int (g y)])) p M ns:=(qe.sameD (λb u hu e=>s9 b u (λz=>by rw [z,ke] at e; cases e; exact hu _ Y) e)).same sq;refine ⟨q,_,Y,SqT.of Zc,Y,_,_,Y,_,_,Y,Y,?_⟩;refine Zo λnxC fq=>?_;refine ⟨_,Y,_,_,Y,Y,_,Y,?_⟩;rw [decide_eq_false (show ¬ g y < 0 from by have:=ok.nn y jq; lia)];refine iteF ?_
   try dsimp only [Y8]
   refine fq _ _ ?_;refine ⟨_,Y,_,_,Y,Y,_,Y,?_⟩;have nx9:∀ H',Same (upd H9 q (.tup [kV (Sum.inl y),V.int (g y)])) H'->∃ v2 v3:Option V,[some (.ref p),some (.ref c),some (V.int y),some (V.int (g y))]=[some (.ref p),some (.ref c),v2,v3]/\(∀ b u,b≠c->H2 b=some u->H' b=some u)/\H' c=some (.frz o (.dK (dI ks g))):=λH' s'=>⟨_,_,rfl,λb u hb e=>s' _ _ (sq _ _ (s9 b u hb e)),s' _ _ (sq _ _ h9)⟩;refine ite2 (λz=>?_) (λ_=>iteF (nx9 _ (Same.refl _)));have hg0:0 < g y:=of_decide_eq_true z;obtain ⟨dx,cl,na,sp,mt,o',f,B⟩:=id taq;refine ⟨_,Y,p,dx,_,Y,B.ins,Yn _ _ _ _,_,Y,p,M,ns,y,Y,taq,td,λ_ H' s'=>?_,λz=>absurd jq z⟩;refine ⟨Y,_,Y,?_⟩;by_cases e:Xa ns y="rim"
   ·obtain ⟨a,ma,na⟩:=Zng td jq e
    have:=ok.rim a y ma na;lia
   ·rw [Zm8 e]
    exact iteF (nx9 H' s')
  ·rintro σ H9 ⟨v2,v3,rfl,s9,h9⟩
   refine ⟨c,o,_,h9,λo' u z=>?_,?_⟩
   ·have z:H c=some (.frz o' u):=z
    rw [hc] at z; cases z
   ·refine k _ λb u e=>?_
    by_cases hb:b=c
    ·subst hb
     rw [Zc];rw [hc] at e; exact e
    ·rw [Ze hb]
     exact s9 b u hb (uf b u e)
def Q5:FnScope ["tent","counts","triples"] ["tent","counts"] (Zh V6):=Am
def Gz (T:Txt w K mg t):FnOk P w K mg base (CXr P w) 4 t.bi t.bq ["tent","counts"] (Ke t.aa):=by
  refine T.bv.F.aR Q5 (b:)
  · obtain ⟨p,c,M,ns,g,rfl,ta,td,mq,j5,ok,k⟩:=h
    have hu:=Q1 hr;refine ⟨_,(Zd (Y9 (pcT (Kx T) hr T.aZ (Za (pv 0) (Za (pv 1) Zb))))
      (Zd (Jt (ts:=["row"]) (fv:=[("counts",1)]) (i:=2) (bkO ⟨⟨rfl,rfl,Or.inl rfl⟩,trivial⟩) rfl Q5.nd rfl rfl (by rfl) (Ya (Qq (pv 0) T.ad T.aY.m (Zb3 T) (hr.mono (by decide)) T.aY.b .nil Xs)) (λ_ _ _ _=>(Zp (i:=0) (show List.Nodup (["row","counts"]:List Str) from by decide +kernel) rfl (e:) (Or.inr rfl))) (λ_ _ _ _=>Yb) (λ_ _ _=>rfl) (λ_ _ _ _ _ _=>Yg (Yk (ts:=["seam"]) (fv:=[("counts",1)]) (bkO ⟨⟨rfl,rfl,Or.inl rfl⟩,trivial⟩) rfl (Zd5 K (pv 0)) (λ_ _ _ _=>(Zp (i:=0) (show List.Nodup (["seam","counts"]:List Str) from by decide +kernel) rfl (e:) (Or.inr rfl))) (λ_ _ _ _=>Yb) (λ_ _ _=>rfl) (λ_ _ _ _ _ _=>Yg (Wb hu (pv 1) (pv 0) (i:))))))
      (Zd (Zy (Y6 (Zk (F1 rfl) (by rfl) T.eZ PyProof.Rows.boot_any (Za (Yk (ts:=["triple"]) (fv:=[]) (bkO trivial) rfl (Ya (pv 2)) (λ_ _ _ _=>(Zp (i:=0) (show List.Nodup (["triple"]:List Str) from by decide +kernel) rfl (e:) (Or.inr rfl))) (λ_ _ _ _=>Yb) (λ_ _ _=>rfl) (λ_ _ _ _ _ _=>Yg (Vd Xc (Zi Zz (Zk (Gd K rfl) (by rfl) T.eK PyProof.Rows.boot_sum (Za (pv 0) Zb)) Zf) Zf (Zt _)))) Zb))) Xi Zv)
      (Zg (Zy (Y6 (Zk (F1 rfl) (by rfl) T.eZ PyProof.Rows.boot_any (Za (Yk (ts:=["triple"]) (fv:=[]) (bkO trivial) rfl (Ya (pv 2)) (λ_ _ _ _=>(Zp (i:=0) (show List.Nodup (["triple"]:List Str) from by decide +kernel) rfl (e:) (Or.inr rfl))) (λ_ _ _ _=>Yb) (λ_ _ _=>rfl) (λ_ _ _ _ _ _=>Yg (Vd Qa (Zi X9 Zf (Zk (Zgb K rfl) (by rfl) T.fb PyProof.Rows.boot_max (Za (pv 0) Zb))) (Zk (Gd K rfl) (by rfl) T.eK PyProof.Rows.boot_sum (Za (pv 0) Zb)) (Zt _)))) Zb))) Xi Zv))))),?_⟩
    refine Zo λnxC fq=>?_;refine ⟨_,Y,_,Y,p,c,M,ns,g,Y,ta,td,mq,j5,⟨ok.nn,ok.rim⟩,λH1 s1=>?_⟩;refine fq _ _ ?_;have kl:=ta.same s1;have uu:=j5.same s1;obtain ⟨n,n1,n40,hn⟩:=td.n;have ie:=td.len;refine Zo λnxC fq=>?_;obtain ⟨dx,cl,na,sp,mt,o,f,B⟩:=id kl;refine ⟨_,Y,p,dx,_,Y,B.ins,Yn _ _ _ _,p,M,ns,Y,kl,λlr ts zq ts1 ts2=>?_⟩;have s2:Same H1 (upd H1 lr (.lst (ts.map V.ref))):=Same.new zq;have h2:(upd H1 lr (.lst (ts.map V.ref))) lr=some (.lst (ts.map V.ref)):=Zc;have h2t:∀ (k:Nat) (t:Addr),ts[k]?=some t->(upd H1 lr (.lst (ts.map V.ref))) t=some (.tup (row3 ns k)):=λk t e=>s2 _ _ (ts2 k t e);generalize upd H1 lr (.lst (ts.map V.ref))=H2 at s2 h2 h2t ⊢;refine ⟨lr,Y,⟨_,SqL.of h2⟩,λD hD=>?_⟩;obtain ⟨ks,ke,gz⟩:=uu.same s2;clear B ts2 zq;have uf:=s1.trans s2;have wf:ts.length=n:=by lia
    refine Ym (xs:=ts.map V.ref) (λi σ H3=>∃ (v:Option V) (us:List Addr),σ=[v,some (.ref c)]/\Same H2 H3/\H3 D=some (.lst (us.map V.ref))/\us.length=i/\∀ (k:Nat) (u:Addr),us[k]?=some u->H3 u=some (.lst ((g3 ns g k).map V.int))) ⟨none,[],Y,Same.new hD,Zc,Y,λk u e=>by simp at e⟩ ?_ ?_ ?_
    · rintro i σ H3 _ ⟨v,us,rfl,sm,_⟩
      exact SqL.of (sm _ _ h2)
    · rintro i y σ H3 hy ⟨v,us,rfl,sm,h3,wc,wb⟩
      obtain ⟨q,hq,rfl⟩:=map_some hy;have hi:i < n:=by rw [<- wf]; exact (Aa hq).1
      dsimp only [Zm,tYes];rw [if_pos rfl];have hq3:=sm _ _ (h2t i q hq);refine ⟨_,Y,q,Y,⟨_,SqT.of hq3⟩,λD2 mo=>?_⟩;refine Zca (xs:=row3 ns i) (λj σ H4=>∃ (v':Option V),σ=[v',some (.ref c)]/\Same H3 H4/\H4 D2=some (.lst (((g3 ns g i).take j).map V.int))) ⟨none,Y,Same.new mo,Zc⟩ ?_ ?_ ?_
      · rintro j σ H4 _ ⟨v',rfl,ny,h4⟩
        exact SqT.of (ny _ _ hq3)
      · rintro j x σ H4 hx ⟨v',rfl,ny,h4⟩
        dsimp only [Zm,tYes];rw [if_pos rfl];obtain ⟨z,hz,rfl,hg⟩:=Zo8 (g:=g) hx;have hzk:z∈ks:=gz.mem_iff.mpr (hz (by lia));refine ⟨_,Y,_,Y,c,_,Y,Zeu (ny _ _ (sm _ _ ke)) hzk,?_⟩;refine ⟨_,h4,?_,_,Y,Same.add ny mo,?_⟩
        · rw [Ab,Ai]
          exact Zx (by have:(g3 ns g i).length=3:=rfl; lia)
        · rw [Zc,Aw,hg]
          simp
      · rintro σ H4 ⟨v',rfl,ny,h4⟩
        have sw:H4 D2=some (.lst ((g3 ns g i).map V.int)):=h4;refine ⟨_,ny _ _ h3,(by rw [Ab]; exact Zx (by lia)),_,us ++ [D2],Y,Same.add (sm.trans ny) hD,?_,?_,?_⟩
        · rw [Zc]; simp
        · rw [Ae,At,wc]
        · intro k u z
          by_cases hk:k < us.length
          · rw [Av hk] at z
            have gg:=ny _ _ (wb k u z);rw [Ze (λe=>by rw [e,ny _ _ h3] at gg; exact Zh4 gg)];exact gg
          · have wu:k=us.length:=by
              have:=(Aa z).1;rw [Ae,At] at this;lia
            subst wu;have:u=D2:=by simpa using z.symm
            subst this;rw [wc,Ze (λe=>by rw [e,ny _ _ h3] at sw; exact Zh4 sw)];exact sw
    rintro σ H3 ⟨v,us,rfl,sm,h3,wc,wb⟩;refine fq _ _ ?_
    try dsimp only [Zm]
    have kz:∀ k,k < us.length->3 * k + 2 < ns.length:=λk hk=>by rw [wc,Ab] at hk; lia
    have hul:us.length<=1000:=by rw [wc,Ab]; lia
    clear h2 h2t hD;refine Zo λnxC fq=>?_;refine ⟨_,Y,D,Y,⟨_,SqL.of h3⟩,λD1 ux=>?_⟩;refine Ym (xs:=us.map V.ref) (λi σ H4=>∃ (v:Option V),σ=[v]/\Same H3 H4/\H4 D1=some (.lst ((List.replicate i false).map V.bl))) ⟨none,Y,Same.new ux,Zc⟩ ?_ ?_ ?_
    · rintro i σ H4 _ ⟨v,rfl,s4,_⟩
      exact SqL.of (s4 _ _ h3)
    · rintro i y σ H4 hy ⟨v,rfl,s4,h4⟩
      obtain ⟨u,we,rfl⟩:=map_some hy;have hi:i < us.length:=(Aa we).1;dsimp only [Zm,tYes];rw [if_pos rfl];refine ⟨_,Y,u,_,Y,SqL.of (s4 _ _ (wb i u we)),_,_,Y,Y,(by show (0:Int) < 2; decide),rfl,?_⟩;have e:(g3 ns g i).sum % 2=0:=by
        have:=ok.even i (kz i hi)
        simp only [g3,sum_cons,sum_nil]
        lia
      refine ⟨_,h4,(by rw [Ab,length_replicate]; exact Zx (by lia)),_,Y,Same.add s4 ux,?_⟩;rw [Zc,replicate_succ',Aj];show some (HO.lst (_ ++ [V.bl (decide (V.int ((g3 ns g i).sum % 2)=V.int 1))]))=_;rw [e];rfl
    rintro σ H4 ⟨v,rfl,s4,h4⟩;refine ⟨D1,_,Y,SqL.of h4,_,Y,?_⟩;rw [F8];refine iteF ?_
    try dsimp only [Y8]
    refine fq _ _ ?_;have h34:=s4 _ _ h3;have hus4:∀ (k:Nat) (u:Addr),us[k]?=some u->H4 u=some (.lst ((g3 ns g k).map V.int)):=λk u e=>s4 _ _ (wb k u e);have yw:=uf.trans (sm.trans s4);clear h3 wb h4 s4 ux;refine ⟨_,Y,D,Y,⟨_,SqL.of h34⟩,λD1 ux=>?_⟩;refine Ym (xs:=us.map V.ref) (λi σ H5=>∃ (v:Option V),σ=[v]/\Same H4 H5/\H5 D1=some (.lst ((List.replicate i false).map V.bl))) ⟨none,Y,Same.new ux,Zc⟩ ?_ ?_ ?_
    · rintro i σ H5 _ ⟨v,rfl,s5,_⟩
      exact SqL.of (s5 _ _ h34)
    · rintro i y σ H5 hy ⟨v,rfl,s5,h5⟩
      obtain ⟨u,we,rfl⟩:=map_some hy;have hi:i < us.length:=(Aa we).1;dsimp only [Zm,tYes];rw [if_pos rfl];have hu5:=s5 _ _ (hus4 i u we);refine ⟨_,Y,u,_,Y,SqL.of hu5,(by show 0 < 3; decide),λm hm hmx=>?_⟩;refine ⟨_,_,Y,Y,(by show CMul 2 m; exact .inl ⟨by decide,by decide⟩),_,Y,u,_,Y,SqL.of hu5,_,_,Y,Y,?_⟩;have e:¬ (g3 ns g i).sum < 2 * m:=by
        obtain ⟨t1,t2,t3⟩:=ok.tri i (kz i hi)
        simp only [g3,sum_cons,sum_nil]
        simp only [g3,mem_cons,not_mem_nil,or_false] at hm
        rcases hm with rfl | rfl | rfl <;> lia
      refine ⟨_,h5,(by rw [Ab,length_replicate]; exact Zx (by lia)),_,Y,Same.add s5 ux,?_⟩;rw [Zc,replicate_succ',Aj];show some (HO.lst (_ ++ [V.bl (decide ((g3 ns g i).sum < 2 * m))]))=_;rw [decide_eq_false e];rfl
    rintro σ H5 ⟨v,rfl,s5,h5⟩;refine ⟨D1,_,Y,SqL.of h5,_,Y,?_⟩;rw [F8];refine iteF ?_;exact k _ (yw.trans s5)
def Ze4:Sp:=λvs H Q _=>∃ (m c:Addr) (M:Lq) (f0:Nat->Int),vs=[.ref m,.ref c]/\H m=some (.lst (M.map mV))/\H c=some (.lst (rowI M.length f0))/\(∃ n,M.length=3 * n)/\M.length<=120/\InvM M/\PreC M f0 /\
 ∀ (l:Addr) (f:Nat->Int) (H':Hp),Same H H'->H l=none->H' l=some (.lst (rowI M.length f))->PC M f->(∀ p,p < M.length->f p<=f0 p)->Q (.ref l) H'
def Y2:FnScope ["_law_mates","_law_counts","_law_changed","_law_p","_law_base","_law_rest"] ["_law_mates","_law_counts"] (Zh Oo):=Am
def Zb0 (T:Txt w K mg t):FnOk P w K mg base (CXr P w) 1 t.bU t.b6 ["_law_mates","_law_counts"] Ze4:=by
 refine T.b9.F.aR Y2 (b:)
 ·obtain ⟨m,c,M,f0,rfl,hm,hc,h3,hl,inv,pc0,k⟩:=h
  refine ⟨_,(Zd (Zs (i:=1) Y2.nd Y (Or.inl Y) (Yl Yi (by rfl) T.ar PySem.Pv.boot_list (Za (pv 1) Zb)))
   (Zd (Zs (i:=2) Y2.nd rfl (e:) Yr)
   (Zd (Jh PassesOwn.never (Y6 (pv 2)) (Zd (Zs (i:=2) Y2.nd rfl (e:) Yr)
   (Zg (Ye PassesOwn.never rfl (Yu rfl T.aj (Za (Zk Zj (by rfl) T.ae PySem.boot_len (Za (pv 0) Zb)) Zb)) (Zp (i:=3) Y2.nd rfl (e:)) (Zd (Zs (i:=4) Y2.nd rfl (e:) (Zi Xk (pv 3) (Zi Zz (pv 3) Zf)))
   (Zd (Zs (i:=5) Y2.nd rfl (e:) (Zi Z8 (Zu Zr (pv 1) (Zi Z8 (pv 4) (Zi Zz (Zi Z8 (pv 3) Zf) Zf)) (i:)) (Zu Zr (pv 1) (Zi Z8 (pv 4) (Zi Zz (Zi Z8 (pv 3) Zf) Zf)) (i:))))
   (Zg (Zy (Zq Qa (Zu Zr (pv 1) (pv 3) (i:)) (pv 5) (Zt _)) (Zd (Wg (pv 5) (Jz (pv 1) (pv 3) Xp))
   (Zd (Zy (Zq Qi (Zu Zr (pv 0) (pv 3) (i:)) W7 (Zt _)) (Zg (Wg (pv 5) (Jz (pv 1) (Zu Zr (pv 0) (pv 3) (i:)) Xp))) Zv)
   (Zg (Zs (i:=2) Y2.nd rfl (e:) Yr)))) Zv))))))))
   (Zg (Zn (pv 1)))))),?_⟩;refine Zo λnxC fq=>?_;refine ⟨_,Y,c,_,Y,.inl (SqL.of hc),λl qp=>?_⟩;refine fq _ _ ?_;have s1:Same H (upd H l (.lst (rowI M.length f0))):=Same.new qp;have h1:(upd H l (.lst (rowI M.length f0))) l=some (.lst (rowI M.length f0)):=Zc;generalize upd H l (.lst (rowI M.length f0))=H1 at s1 h1 ⊢
  try dsimp only [Zm]
  refine Zo λnxC fq=>?_;refine fq _ _ ?_
  try dsimp only [Zm]
  obtain ⟨n,hn⟩:=id h3;show tSeq (Qm _ _) _ _ _ _;refine Z0 (λσ H'=>∃ (f:Nat->Int) (v2 v3 v4 v5:Option V),σ=[some (.ref m),some (.ref l),v2,v3,v4,v5]/\Same H H'/\H' l=some (.lst (rowI M.length f))/\PC M f/\∀ p,p < M.length->f p<=f0 p) (λnx gw=>?_) ?_
  ·refine ⟨fun μ σ H2=>∃ (f:Nat->Int) (b:Bool) (v3 v4 v5:Option V),μ=2 * (sF f M.length).toNat + (if b then 1 else 0)/\σ=[some (.ref m),some (.ref l),some (.bl b),v3,v4,v5]/\Same H H2/\H2 l=some (.lst (rowI M.length f))/\PreC M f/\(∀ p,p < M.length->f p<=f0 p)/\(b=false->∀ p,p < M.length->f p<=f (aN p) + f (bN p)),⟨_,f0,true,_,_,_,Y,Y,s1,h1,pc0,λp _=>Int.le_refl _,by simp⟩,?_⟩
   rintro μ σ H2 ⟨f,b,v3,v4,v5,rfl,rfl,s2,h2,pc,l7,xp⟩;refine ⟨_,Y,b,Y,?_⟩
   cases b with
   | false=>exact iteF (gw _ _ ⟨f,_,_,_,_,Y,s2,h2,pc.all (xp Y),l7⟩)
   | true =>
    refine iteT ⟨_,λσ' H' h=>h,?_⟩;refine Zo λnxC fq=>?_;refine fq _ _ ?_
    try dsimp only [Zm]
    clear xp;have hm2:=s2 _ _ hm;refine ⟨_,Y,m,_,Y,.inl (SqL.of hm2),_,Y,by lia,by rw [Ab]; lia,?_⟩;have eL:(((M.map mV).length:Nat):Int).toNat=M.length:=by simp
    rw [eL];refine Xn (n:=M.length) (λi σ H3=>∃ (g:Nat->Int) (b:Bool) (v3 v4 v5:Option V),σ=[some (.ref m),some (.ref l),some (.bl b),v3,v4,v5]/\Same H H3/\H3 l=some (.lst (rowI M.length g))/\PreC M g/\(∀ p,p < M.length->g p<=f p)/\(b=true->sF g M.length < sF f M.length)/\(b=false->g=f/\∀ p,p < i->f p<=f (aN p) + f (bN p))) ⟨f,false,_,_,_,Y,s2,h2,pc,λp _=>Int.le_refl _,by simp,λ_=>⟨Y,λp hp=>absurd hp (by lia)⟩⟩ ?_ ?_
    ·rintro i σ H3 hi ⟨g,b,v3,v4,v5,rfl,s3,pp,pg,uo,hbt,sr⟩
     dsimp only [Zm];rw [Int.zero_add];obtain ⟨l1,l2⟩:=Zaz (show i < 3 * n by lia);refine Zo λnxC fq=>?_;refine ⟨_,Y,_,Y,_,_,Y,Y,(by show (0:Int) < 3; decide),_,_,rfl,rfl,?_⟩;refine fq _ _ ?_
     try dsimp only [Zm]
     refine Zo λnxC fq=>?_;refine ⟨_,Y,_,Y,_,Y,_,_,Y,Y,_,_,Y,Y,(by show (0:Int) < 3; decide),_,_,rfl,rfl,l,_,_,_,rfl,rfl,SqL.of pp,(by rw [Zge,Zgf]; exact Yz (Xv (show aN i < M.length by lia))),?_⟩;refine ⟨_,Y,_,Y,_,Y,_,_,Y,Y,_,_,Y,Y,(by show (0:Int) < 3; decide),_,_,rfl,rfl,l,_,_,_,rfl,rfl,SqL.of pp,(by rw [Zdm,Zgd]; exact Yz (Xv (show bN i < M.length by lia))),_,_,Y,Y,?_⟩;refine fq _ _ ?_
     try dsimp only [Zm]
     refine ⟨_,Y,_,Y,l,_,_,_,Y,Y,SqL.of pp,Yz (Xv hi),_,Y,_,_,Y,Y,_,Y,?_⟩;refine ite2 (λz=>?_) (λz=>?_)
     ·have gj:g (aN i) + g (bN i) < g i:=of_decide_eq_true z
      obtain ⟨mc,ko⟩:∃ mc,M[i]?=some mc:=⟨_,Ac hi⟩;obtain ⟨pg',le',lt'⟩:=pg.lw h3 inv ko gj
      have le2:∀ z,z < M.length->lw g i mc (g (aN i) + g (bN i)) z<=g z:=λz hz=>by rcases le' z with e | e; exact e; lia
      have slt:sF (lw g i mc (g (aN i) + g (bN i))) M.length < sF f M.length:=by
       have a1:=Zko le2 hi lt';have a2:=Zak uo;lia
      refine Zo λnxC fq=>?_;refine ⟨_,Y,_,Y,_,Y,l,_,_,i,Y,Y,pp,(by rw [Yp]; exact Wc hi),?_⟩;refine fq _ _ ?_;rw [Je];have s4:Same H (upd H3 l (.lst (rowI M.length λq=>if q=i then g (aN i) + g (bN i) else g q))):=Same.add s3 qp;have h4:(upd H3 l (.lst (rowI M.length λq=>if q=i then g (aN i) + g (bN i) else g q))) l=some (.lst (rowI M.length λq=>if q=i then g (aN i) + g (bN i) else g q)):=Zc;generalize upd H3 l (.lst (rowI M.length λq=>if q=i then g (aN i) + g (bN i) else g q))=H4 at s4 h4 ⊢;refine Zo λnxC fq=>?_;refine ⟨_,Y,_,Y,m,_,_,_,Y,Y,SqL.of (s4 _ _ hm),Z6 ko,Y,_,Y,?_⟩
      cases mc with
      | none =>
       refine iteF ?_
       try dsimp only [Y8]
       refine fq _ _ ?_;rw [<- Zl4] at h4;exact ⟨_,true,_,_,_,Y,s4,h4,pg',λz hz=>Int.le_trans (le2 z hz) (uo z hz),λ_=>slt,by simp⟩
      | some y =>
       have hy:y < M.length:=(Aa (inv i y ko).1).1;refine iteT ?_;refine ⟨_,Y,_,Y,_,Y,_,Y,m,_,_,_,Y,Y,SqL.of (s4 _ _ hm),Z6 ko,l,_,_,y,Y,Y,h4,(by rw [Yp]; exact Wc hy),?_⟩;refine fq _ _ ?_;rw [Je,<- Jn (f:=g)];exact ⟨_,true,_,_,_,Y,Same.add s4 qp,Zc,pg',λz hz=>Int.le_trans (le2 z hz) (uo z hz),λ_=>slt,by simp⟩
     ·have kc:g i<=g (aN i) + g (bN i):=by
       have:¬ g (aN i) + g (bN i) < g i:=λy=>z (decide_eq_true y);lia
      refine ⟨g,b,_,_,_,Y,s3,pp,pg,uo,hbt,λe=>⟨(sr e).1,λp hp=>?_⟩⟩;by_cases c:p=i
      ·subst c
       rw [<- (sr e).1];exact kc
      ·exact (sr e).2 p (by lia)
    ·rintro σ H3 ⟨g,b,v3,v4,v5,rfl,s3,pp,pg,uo,hbt,sr⟩
     refine ⟨_,?_,g,b,_,_,_,Y,Y,s3,pp,pg,λp hp=>Int.le_trans (uo p hp) (l7 p hp),λe p hp=>?_⟩
     ·have n1:=Zfc (n:=M.length) pg.nn
      have n2:=Zfc (n:=M.length) pc.nn
      cases b with
      | true=>have:=hbt rfl; simp only [if_true]; lia
      | false=>rw [(sr rfl).1]; simp
     ·rw [(sr e).1]
      exact (sr e).2 p hp
  ·rintro σ H2 ⟨f,v2,v3,v4,v5,rfl,s2,h2,pc,l7⟩
   exact ⟨_,Y,k l f H2 s2 qp h2 pc l7⟩
def Zc6 (h:∀ p,p < n->f p=g p):rowI n f=rowI n g:=by
 unfold rowI;exact map_congr_left λp hp=>by rw [h p (mem_range.mp hp)]
def Zmn (c:Int):∃ b:Int,atI [V.int 0,V.int 2,V.int 3,V.int 5] (c % 4)=some (.int b)/\0<=b/\b<=5:=by
 have h0:=Int.emod_nonneg c (show (4:Int)≠0 by decide);have h1:=Int.emod_lt_of_pos c (show (0:Int) < 4 by decide);have:c % 4=0\/c % 4=1\/c % 4=2\/c % 4=3:=by lia
 rcases this with e | e | e | e <;> rw [e] <;> exact ⟨_,Y,by decide,by decide⟩
def Zk7 (c:Int):∃ b:Int,atI [V.int 4,V.int 4,V.int 4,V.int 9] (c % 4)=some (.int b)/\0 < b/\b<=9:=by
 have h0:=Int.emod_nonneg c (show (4:Int)≠0 by decide);have h1:=Int.emod_lt_of_pos c (show (0:Int) < 4 by decide);have:c % 4=0\/c % 4=1\/c % 4=2\/c % 4=3:=by lia
 rcases this with e | e | e | e <;> rw [e] <;> exact ⟨_,Y,by decide,by decide⟩
def Zmk {M:Lq} (inv:InvM M) {ws:List Nat} (hw:ws=[]\/Pl M ws) (h:M[p]?=some (some y)):crN M ws p=(ws.filter λq=>decide (q=p\/q=y)).length:=by
 rw [<- countP_eq_length_filter];unfold crN;apply countP_congr;intro q hq
 rcases hw with rfl | hP
 ·exact absurd hq not_mem_nil
 obtain ⟨m,hm⟩:=hP.has q hq;rw [Ja hm,decide_eq_true_eq,decide_eq_true_eq];constructor
 ·rintro (e | e)
  ·exact .inl e
  ·subst e
   have:=(inv q m hm).1;rw [h] at this; cases this; exact .inr Y
 ·rintro (e | e)
  ·exact .inl e
  ·subst e
   rw [(inv p q h).1] at hm; cases hm; exact .inr Y
def famI (M:Lq) (ws:List Nat) (h:Nat->Int) (i p:Nat):Int:=match (M[p]?).join with
 | some y=>if min p y < i then 2 * h (min p y) + (crN M ws p % 2:Nat) else 0
 | none=>0
def Zh7 {M:Lq} (inv:InvM M) (hs:∀ y,M[i]?=some (some y)->¬ i < y) (z:Nat):famI M ws h (i + 1) z=famI M ws h i z:=by
 unfold famI
 cases e:M[z]? with
 | none=>rfl
 | some o=>cases o with
  | none=>rfl
  | some y =>
   show (if min z y < i + 1 then _ else _)=if min z y < i then _ else _
   have hy:=inv z y e;by_cases c:min z y=i
   ·exfalso
    by_cases d:z<=y
    ·rw [Nat.min_eq_left d] at c
     subst c;have:=hs y e;lia
    ·rw [Nat.min_eq_right (by lia)] at c
     subst c;have:=hs z hy.1;lia
   ·by_cases d:min z y < i
    ·rw [if_pos (by lia),if_pos d]
    ·rw [if_neg (by lia),if_neg d]
def Zj9 {M:Lq} (inv:InvM M) (hw:ws=[]\/Pl M ws) (hm:M[i]?=some (some y)) (hi:i < y) (z:Nat) :
  famI M ws h (i + 1) z=if z=y then 2 * h i + (crN M ws i % 2:Nat) else if z=i then 2 * h i + (crN M ws i % 2:Nat) else famI M ws h i z:=by
 have has:∀ p∈ws,∃ m,M[p]?=some (some m):=by
  rcases hw with rfl | hP
  ·exact λp hp=>absurd hp not_mem_nil
  ·exact hP.has
 have hy:=(inv i y hm).1;by_cases c:z=y
 ·subst c
  rw [if_pos rfl];unfold famI;rw [hy];show (if min z i < i + 1 then 2 * h (min z i) + (crN M ws z % 2:Nat) else 0)=_;rw [Nat.min_eq_right (by lia),if_pos (by lia),Zco inv has hm]
 ·rw [if_neg c]
  by_cases d:z=i
  ·subst d
   rw [if_pos rfl];unfold famI;rw [hm];show (if min z y < z + 1 then 2 * h (min z y) + (crN M ws z % 2:Nat) else 0)=_;rw [Nat.min_eq_left (by lia),if_pos (by lia)]
  ·rw [if_neg d]
   unfold famI
   cases e:M[z]? with
   | none=>rfl
   | some o=>cases o with
    | none=>rfl
    | some u =>
     show (if min z u < i + 1 then _ else _)=if min z u < i then _ else _
     have hu:=(inv z u e).1
     have n1:min z u≠i:=λf=>by
      by_cases k:z<=u
      ·rw [Nat.min_eq_left k] at f; exact d f
      ·rw [Nat.min_eq_right (by lia)] at f
       subst f;rw [hm] at hu; cases hu; exact c Y
     by_cases k:min z u < i
     ·rw [if_pos (by lia),if_pos k]
     ·rw [if_neg (by lia),if_neg k]
def Zka {M:Lq} (hp:p < M.length):famI M ws h M.length p=fam M ws h p:=by
 unfold famI fam
 cases (M[p]?).join with
 | none=>rfl
 | some y=>exact if_pos (by lia)
def Zn7 (hh:∀ p,h p<=13) (p:Nat):fam M ws h p<=27:=by
 unfold fam
 cases (M[p]?).join with
 | none=>show (0:Int)<=27; decide
 | some y=>dsimp only; have:=hh (min p y); lia
def Zgu:Sp:=λvs H Q _=>∃ (a m wd:Addr) (M:Lq) (xs:List Int) (ws:List Nat),vs=[.ref a,.ref m,.ref wd]/\H a=some (.lst (xs.map V.int))/\60<=xs.length/\(∀ x∈xs,0<=x/\x < 1009)/\H m=some (.lst (M.map mV))/\(∃ n,M.length=3 * n)/\M.length<=42/\InvM M/\H wd=some (.lst (ws.map nV))/\ws.length<=60/\(ws=[]\/Pl M ws) /\
 ∀ (l:Addr) (f:Nat->Int) (H':Hp),Same H H'->H l=none->H' l=some (.lst (rowI M.length f))->PC M f->(∀ p,p < M.length->f p<=27)->Q (.ref l) H'
def Wa:FnScope ["_law_nums","_law_mates","_law_word","_law_base","_law_span","_law_counts","_law_p","_law_odd"] ["_law_nums","_law_mates","_law_word"] (Zh Ko):=Am
def Zdb (T:Txt w K mg t):FnOk P w K mg base (CXr P w) 2 t.cp t.cy ["_law_nums","_law_mates","_law_word"] Zgu:=by
  refine T.cF.F.aR Wa (b:)
  · obtain ⟨a,m,wd,M,xs,ws,rfl,ha,hxs,hx,hm,h3,hl,inv,zd,l9,hw,k⟩:=h
    refine ⟨_,(Zd (Zs (i:=3) Wa.nd Y (Or.inl Y) (Zu Ux (Wp (Za Zf (Za Zf (Za Zf (Za Zf Zb))))) (Zi Zz (Zu Zr (pv 0) Zf (i:)) Zf) (i:)))
      (Zd (Zs (i:=4) Wa.nd rfl (e:) (Zu Ux (Wp (Za Zf (Za Zf (Za Zf (Za Zf Zb))))) (Zi Zz (Zi Ys (Zu Zr (pv 0) Zf (i:)) Zf) Zf) (i:)))
      (Zd (Zs (i:=5) Wa.nd rfl (e:) (Zi Kw (Xj (Za Zf Zb)) (Zk Zj (by rfl) T.ae PySem.boot_len (Za (pv 1) Zb))))
      (Zd (Ye PassesOwn.never rfl (Yu rfl T.aj (Za (Zk Zj (by rfl) T.ae PySem.boot_len (Za (pv 1) Zb)) Zb)) (Zp (i:=6) Wa.nd rfl (Or.inr rfl)) (Zg (Zy (PW.pt (Kt (Zq Qi (Zu Zr (pv 1) (pv 6) (i:)) W7 (Zt _)) (U5 (Zq Jv (pv 6) (Zu Zr (pv 1) (pv 6) (i:)) (Zt _))))) (Zd (Zs (i:=7) Wa.nd rfl (e:) (Zi Zz (Zk Zj (by rfl) T.ae PySem.boot_len (Za (Yk (ts:=["_law_q"]) (fv:=[("_law_p",6),("_law_mates",1)]) (bkO ⟨⟨rfl,rfl,Or.inl rfl⟩,⟨rfl,rfl,Or.inl rfl⟩,trivial⟩) rfl (Ya (pv 2)) (λ_ _ _ _=>(Zp (i:=0) (show List.Nodup (["_law_q","_law_p","_law_mates"]:List Str) from by decide +kernel) rfl (e:) (Or.inr rfl))) (λ_ _ _ _=>(Gu (PW.pt (Wj (Zq Xc (pv 0) (pv 1) (Zt _)) (X7 (Zq Xc (pv 0) (Zu (W0 K) (pv 2) (pv 1) (i:)) (Zt _))))))) (λ_ _ _=>rfl) (λ_ _ _ _ _ _=>Yg (pv 0))) Zb)) Zf))
      (Zd (Wg (Zi Z8 (Zi X9 Zf (Zi Z8 (pv 3) (Zi Zz (Zu Zr (pv 0) (Zi Z8 (pv 6) Zf) (i:)) (pv 4)))) (pv 7)) (Jz (pv 5) (pv 6) Xp))
      (Zg (Wg (Zu Zr (pv 5) (pv 6) (i:)) (Jz (pv 5) (Zu Zr (pv 1) (pv 6) (i:)) Xp))))) Zv)))
      (Zg (Zn (pcT (Zb0 T) hr T.b9 (Za (pv 1) (Za (pv 5) Zb))))))))),?_⟩;obtain ⟨x0,ex0⟩:∃ x0,xs[0]?=some x0:=⟨_,Ac (by lia)⟩;obtain ⟨bs,ebs,b0,b5⟩:=Zmn x0;obtain ⟨sp,esp,sp0,sp9⟩:=Zk7 (x0 / 4);refine Zo λnxC fq=>?_;refine ⟨(by show 4<=sizeLine; decide),λtq htq=>?_⟩;have s1:Same H (upd H tq (.tup [V.int 0,V.int 2,V.int 3,V.int 5])):=Same.new htq;refine ⟨_,Y,a,_,_,_,Y,Y,SqL.of (s1 _ _ ha),(show atI (xs.map V.int) 0=some (V.int x0) from Z6 (i:=0) ex0),_,_,Y,Y,(by show (0:Int) < 4; decide),tq,_,_,_,rfl,rfl,SqT.of Zc,ebs,?_⟩;refine fq _ _ ?_;generalize upd H tq (.tup [V.int 0,V.int 2,V.int 3,V.int 5])=H1 at s1 ⊢
    try dsimp only [Zm]
    refine Zo λnxC fq=>?_;refine ⟨(by show 4<=sizeLine; decide),λtr htr=>?_⟩;have s2:Same H1 (upd H1 tr (.tup [V.int 4,V.int 4,V.int 4,V.int 9])):=Same.new htr;refine ⟨_,Y,a,_,_,_,Y,Y,SqL.of (s2 _ _ (s1 _ _ ha)),(show atI (xs.map V.int) 0=some (V.int x0) from Z6 (i:=0) ex0),_,_,Y,Y,⟨by decide,by decide⟩,_,_,Y,Y,(by show (0:Int) < 4; decide),tr,_,_,_,rfl,rfl,SqT.of Zc,esp,?_⟩;refine fq _ _ ?_;generalize upd H1 tr (.tup [V.int 4,V.int 4,V.int 4,V.int 9])=H2 at s2 ⊢
    try dsimp only [Zm]
    have o3:=s1.trans s2;clear s1 s2 htq htr ebs esp;have eT:(((M.map mV).length:Nat):Int).toNat=M.length:=by simp
    refine Zo λnxC fq=>?_;refine ⟨(by show 1<=sizeLine; decide),λq hq=>?_⟩;have s3:Same H2 (upd H2 q (.lst [.int 0])):=Same.new hq;refine ⟨_,Y,m,_,Y,.inl (SqL.of (s3 _ _ (o3 _ _ hm))),q,_,_,Y,Y,Zc,by lia,by rw [Ab]; lia,(by rw [eT,sizeLine_eq]; show 1 * M.length<=_; lia),λN hN=>?_⟩
    have eN:(List.replicate (((M.map mV).length:Nat):Int).toNat [V.int 0]).flatten=rowI M.length (famI M ws (λp=>bs + xs.getD (p + 1) 0 % sp) 0):=by
      rw [eT,flatten_replicate_singleton];apply ext_getElem?;intro j;by_cases hj:j < M.length
      · rw [Xv hj,getElem?_replicate,if_pos hj]
        congr 2;unfold famI
        cases (M[j]?).join with
        | none=>rfl
        | some y=>exact (if_neg (by lia)).symm
      · rw [Ay (by rw [length_replicate]; lia),Ay (by rw [Yp]; lia)]
    rw [eN];have s4:=(o3.trans s3).trans (Same.new (o:=.lst (rowI M.length (famI M ws (λp=>bs + xs.getD (p + 1) 0 % sp) 0))) hN);have hN0:H N=none:=(o3.trans s3).free hN;have uw:(upd (upd H2 q (.lst [.int 0])) N (.lst (rowI M.length (famI M ws (λp=>bs + xs.getD (p + 1) 0 % sp) 0)))) N=some (.lst (rowI M.length (famI M ws (λp=>bs + xs.getD (p + 1) 0 % sp) 0))):=Zc;generalize upd (upd H2 q (.lst [.int 0])) N (.lst (rowI M.length (famI M ws (λp=>bs + xs.getD (p + 1) 0 % sp) 0)))=H4 at s4 uw ⊢;refine fq _ _ ?_
    try dsimp only [Zm]
    clear o3 s3 eN hq hN;show tSeq (tFor _ _ _) _ _ _ _;refine Z0 (λσ H5=>∃ (v6 v7:Option V),σ=[some (.ref a),some (.ref m),some (.ref wd),some (.int bs),some (.int sp),some (.ref N),v6,v7]/\Same H H5/\H5 N=some (.lst (rowI M.length (fam M ws (λp=>bs + xs.getD (p + 1) 0 % sp))))) (λnx gw=>?_) ?_
    · refine ⟨_,Y,m,_,Y,.inl (SqL.of (s4 _ _ hm)),_,Y,by lia,by rw [Ab]; lia,?_⟩
      rw [eT];refine Xn (n:=M.length) (λi σ H5=>∃ (v6 v7:Option V),σ=[some (.ref a),some (.ref m),some (.ref wd),some (.int bs),some (.int sp),some (.ref N),v6,v7]/\Same H H5/\H5 N=some (.lst (rowI M.length (famI M ws (λp=>bs + xs.getD (p + 1) 0 % sp) i)))) ⟨none,none,Y,s4,uw⟩ ?_ ?_
      · rintro i σ H5 hi ⟨v6,v7,rfl,s5,h5⟩
        dsimp only [Zm];rw [Int.zero_add];obtain ⟨mc,ko⟩:∃ mc,M[i]?=some mc:=⟨_,Ac hi⟩;refine ⟨_,Y,_,Y,m,_,_,_,Y,Y,SqL.of (s5 _ _ hm),Z6 ko,Y,_,Y,?_⟩;have skip:(∀ y,M[i]?=some (some y)->¬ i < y)->H5 N=some (.lst (rowI M.length (famI M ws (λp=>bs + xs.getD (p + 1) 0 % sp) (i + 1)))):=λhs=>by
          rw [h5,Vs λz=>(Zh7 inv hs z).symm]
        cases mc with
        | none=>exact iteF (iteF ⟨_,_,Y,s5,skip λy e=>by rw [ko] at e; cases e⟩)
        | some y =>
          have hy:y < M.length:=(Aa (inv i y ko).1).1;refine iteT ?_;refine ⟨_,Y,_,Y,_,Y,m,_,_,_,Y,Y,SqL.of (s5 _ _ hm),Z6 ko,_,_,Y,Y,_,Y,?_⟩;refine ite2 (λz=>?_) (λz=>⟨_,_,Y,s5,skip λy' e=>by rw [ko] at e; cases e; exact λq=>z (decide_eq_true (show ((i:Nat):Int) < y by lia))⟩);have wv:i < y:=by have:((i:Nat):Int) < y:=of_decide_eq_true z; lia
          clear z skip;refine Zo λnxC fq=>?_;refine ⟨_,Y,wd,Y,⟨_,SqL.of (s5 _ _ zd)⟩,λD hD=>?_⟩;refine Ym (xs:=ws.map nV) (λj σ H6=>∃ (v:Option V),σ=[v,some (.int i),some (.ref m)]/\Same H5 H6/\H6 D=some (.lst (((ws.take j).filter λq=>decide (q=i\/q=y)).map nV))) ⟨none,Y,Same.new hD,Zc⟩ ?_ ?_ ?_
          · rintro j σ H6 _ ⟨v,rfl,s6,_⟩
            exact SqL.of (s6 _ _ (s5 _ _ zd))
          · rintro j x σ H6 jt ⟨v,rfl,s6,h6⟩
            obtain ⟨q,hq,rfl⟩:=map_some jt;have hj:j < ws.length:=(Aa hq).1;dsimp only [Zm];have yes:(q=i\/q=y)->∃ u3,H6 D=some (.lst u3)/\u3.length < sizeLine/\∃ (v:Option V),[some (nV q),some (V.int i),some (V.ref m)]=[v,some (.int i),some (.ref m)]/\Same H5 (upd H6 D (.lst (u3 ++ [nV q])))/\(upd H6 D (.lst (u3 ++ [nV q]))) D=some (.lst (((ws.take (j + 1)).filter λq=>decide (q=i\/q=y)).map nV)):=λe=>by
              refine ⟨_,h6,?_,_,Y,Same.add s6 hD,?_⟩
              · rw [Ab]
                have:=length_filter_le (λq=>decide (q=i\/q=y)) (ws.take j)
                rw [Ai] at this
                exact Zx (by lia)
              · rw [Zc,Aw,hq,filter_append,Aj]
                simp [e]
            have no:¬ (q=i\/q=y)->∃ (v:Option V),[some (nV q),some (V.int i),some (V.ref m)]=[v,some (.int i),some (.ref m)]/\Same H5 H6/\H6 D=some (.lst (((ws.take (j + 1)).filter λq=>decide (q=i\/q=y)).map nV)):=λe=>by
              refine ⟨_,Y,s6,?_⟩;rw [h6,Aw,hq,filter_append];simp [e]
            have ev:∀ u:Nat,(nV q=V.int (u:Int)) ↔ q=u:=λu=>by
              constructor
              · intro e; have:((q:Nat):Int)=u:=by injection e
                lia
              · intro e; subst e; rfl
            refine ⟨_,Y,_,Y,Y,_,Y,?_⟩;refine ite2 (λz=>iteT ⟨_,Y,yes (.inl ((ev i).mp (of_decide_eq_true z)))⟩) (λz1=>?_);refine ⟨_,Y,_,Y,_,Y,m,_,_,_,Y,Y,SqL.of (s6 _ _ (s5 _ _ hm)),Z6 ko,Y,_,Y,?_⟩;refine ite2 (λz=>⟨_,Y,yes (.inr ((ev y).mp (of_decide_eq_true z)))⟩) (λz2=>no ?_);rintro (e | e)
            · exact z1 (decide_eq_true ((ev i).mpr e))
            · exact z2 (decide_eq_true ((ev y).mpr e))
          rintro σ H6 ⟨v,rfl,s6,h6⟩;rw [Ab,take_length] at h6;refine ⟨D,_,Y,.inl (SqL.of h6),_,_,Y,Y,(by show (0:Int) < 2; decide),?_⟩;refine fq _ _ ?_
          try dsimp only [Zm]
          have ve:=s5.trans s6;have h56:=s6 _ _ h5;rw [Ab,<- Zmk inv hw ko];obtain ⟨xi,exi⟩:∃ xi,xs[i + 1]?=some xi:=⟨_,Ac (by lia)⟩;have exd:xs.getD (i + 1) 0=xi:=by rw [Ad,exi]; rfl
          refine Zo λnxC fq=>?_;refine ⟨_,Y,_,Y,_,Y,_,_,Y,Y,a,_,_,_,Y,Y,SqL.of (ve _ _ ha),(show atI (xs.map V.int) ((i:Int) + 1)=some (V.int xi) from Z6 (i:=i + 1) exi),_,Y,_,_,Y,Y,sp0,_,_,Y,Y,_,_,Y,Y,.inl ⟨by decide,by decide⟩,_,Y,_,_,Y,Y,?_⟩;refine ⟨_,Y,_,Y,N,_,_,i,Y,Y,h56,(by rw [Yp]; exact Wc hi),?_⟩;refine fq _ _ ?_;have ev2:(crN M ws i:Int) % 2=((crN M ws i % 2:Nat):Int):=by lia
          have eH:(rowI M.length (famI M ws (λp=>bs + xs.getD (p + 1) 0 % sp) i)).set i (V.int (2 * (bs + xi % sp) + (crN M ws i:Int) % 2))=rowI M.length λz=>if z=i then 2 * (bs + xi % sp) + (crN M ws i % 2:Nat) else famI M ws (λp=>bs + xs.getD (p + 1) 0 % sp) i z:=by rw [ev2,Je]
          show tAsg _ _ _ _ (upd H6 N (.lst ((rowI M.length (famI M ws (λp=>bs + xs.getD (p + 1) 0 % sp) i)).set i (V.int (2 * (bs + xi % sp) + (crN M ws i:Int) % 2)))));rw [eH];have s7:Same H (upd H6 N (.lst (rowI M.length λz=>if z=i then 2 * (bs + xi % sp) + (crN M ws i % 2:Nat) else famI M ws (λp=>bs + xs.getD (p + 1) 0 % sp) i z))):=Same.add ve hN0;have h7:(upd H6 N (.lst (rowI M.length λz=>if z=i then 2 * (bs + xi % sp) + (crN M ws i % 2:Nat) else famI M ws (λp=>bs + xs.getD (p + 1) 0 % sp) i z))) N=some (.lst (rowI M.length λz=>if z=i then 2 * (bs + xi % sp) + (crN M ws i % 2:Nat) else famI M ws (λp=>bs + xs.getD (p + 1) 0 % sp) i z)):=Zc;generalize upd H6 N (.lst (rowI M.length λz=>if z=i then 2 * (bs + xi % sp) + (crN M ws i % 2:Nat) else famI M ws (λp=>bs + xs.getD (p + 1) 0 % sp) i z))=H7 at s7 h7 ⊢;refine ⟨_,Y,_,Y,N,_,_,_,Y,Y,SqL.of h7,Yz (Xv hi),?_⟩;refine ⟨_,Y,_,Y,_,Y,m,_,_,_,Y,Y,SqL.of (s7 _ _ hm),Z6 ko,N,_,_,y,Y,Y,h7,(by rw [Yp]; exact Wc hy),?_⟩;refine ⟨_,_,Y,Same.add s7 hN0,?_⟩;rw [Zc,Je,if_pos rfl];congr 2;refine Vs λz=>?_;rw [Zj9 inv hw ko wv z,exd]
      · rintro σ H5 ⟨v6,v7,rfl,s5,h5⟩
        exact gw _ _ ⟨_,_,Y,s5,by rw [h5,Zc6 λp hp=>Zka hp]⟩
    · rintro σ H5 ⟨v6,v7,rfl,s5,h5⟩
      refine ⟨_,Y,_,Y,m,N,M,_,Y,s5 _ _ hm,h5,h3,by lia,inv,Zme inv hw (λp=>?_),λl f H6 s6 hl6 h6 pc le=>k l f H6 (s5.trans s6) (s5.free hl6) h6 pc λp hp=>Int.le_trans (le p hp) (Zn7 (λp=>?_) p)⟩
      · have:=Int.emod_nonneg (xs.getD (p + 1) 0) (show sp≠0 by lia)
        show 0<=bs + xs.getD (p + 1) 0 % sp;lia
      · have:=Int.emod_lt_of_pos (xs.getD (p + 1) 0) sp0
        show bs + xs.getD (p + 1) 0 % sp<=13;lia
def Jq {ns:List Int} (h:i < ns.length):ns[i]?=some (ns.getD i 0):=by rw [Ad,Ac h]; rfl
def Zox (pc:PC M f) (nm:Nm ns f g) (td:TD M ns):OkC M ns g:=by
 have hl:=td.len;refine ⟨λx hx=>?_,λi x h1 h2=>?_,λk hk=>?_,λk hk=>?_⟩
 ·obtain ⟨i,hi,e⟩:=Yy.mp hx
  rw [nm i x e];exact pc.nn i (by lia)
 ·rw [nm i x h2]
  exact pc.rim i h1
 ·rw [nm _ _ (Jq (show 3 * k < ns.length by lia)),nm _ _ (Jq (show 3 * k + 1 < ns.length by lia)),nm _ _ (Jq hk)]
  have:=pc.even (3 * k) (by lia);rw [show aN (3 * k)=3 * k + 1 by rw [J5,if_neg (by lia)],show bN (3 * k)=3 * k + 2 by rw [J4,if_pos (by lia)]] at this;exact this
 ·rw [nm _ _ (Jq (show 3 * k < ns.length by lia)),nm _ _ (Jq (show 3 * k + 1 < ns.length by lia)),nm _ _ (Jq hk)]
  have t1:=pc.tri (3 * k) (by lia);have t2:=pc.tri (3 * k + 1) (by lia);have t3:=pc.tri (3 * k + 2) (by lia);rw [show aN (3 * k)=3 * k + 1 by rw [J5,if_neg (by lia)],show bN (3 * k)=3 * k + 2 by rw [J4,if_pos (by lia)]] at t1;rw [show aN (3 * k + 1)=3 * k + 2 by rw [J5,if_neg (by lia)],show bN (3 * k + 1)=3 * k by rw [J4,if_neg (by lia)]; lia] at t2;rw [show aN (3 * k + 2)=3 * k by rw [J5,if_pos (by lia)]; lia,show bN (3 * k + 2)=3 * k + 1 by rw [J4,if_neg (by lia)]; lia] at t3;exact ⟨by lia,by lia,by lia⟩
def ptD (c:Nat):PyData:=.tuple ((kP c).map PyData.int)
def Zha (c:Nat):PySem.SeqAt.shaped (ptD c)=true:=by unfold ptD kP; simp [PySem.SeqAt.shaped,PyData.canLay0,PyData.canLayAll0,PyData.depth,PyData.depthAll]
def Zlr (c d:Nat):PySem.SeqAt.noMix (ptD c) (ptD d)=true:=by unfold ptD kP; simp [PySem.SeqAt.noMix,PySem.SeqAt.noMixAll]
def Zi9 (c d:Nat):Spec.same (ptD c) (ptD d)=decide (c=d):=by
 unfold ptD kP;simp only [map_cons,map_nil,Spec.same,Spec.sameAll,Bool.and_true];by_cases z:c=d
 ·subst z; simp
 ·rw [decide_eq_false z]
  have:¬ (c / 1000=d / 1000/\c % 1000=d % 1000):=by lia
  simp;lia
def Xt (H:Hp) (bs:List Addr) (os:List Nat):Prop:=bs.length=os.length/\∀ (i:Nat) (b:Addr) (c:Nat),bs[i]?=some b->os[i]?=some c->H b=some (.tup ((kP c).map V.int))
def Xt.same {H H':Hp} {bs:List Addr} {os:List Nat} (h:Xt H bs os) (s:Same H H'):Xt H' bs os:=⟨h.1,λi b c hb hc=>s _ _ (h.2 i b c hb hc)⟩
def Xt.snoc {H:Hp} {bs:List Addr} {os:List Nat} {b:Addr} {c:Nat} (h:Xt H bs os) (hb:H b=some (.tup ((kP c).map V.int))):Xt H (bs ++ [b]) (os ++ [c]):=by
 obtain ⟨h1,h2⟩:=h;refine ⟨by simp [h1],λi b' c' e1 e2=>?_⟩;by_cases z:i < bs.length
 ·rw [Av z] at e1
  rw [Av (by lia)] at e2;exact h2 i b' c' e1 e2
 ·rw [getElem?_append_right (by lia)] at e1
  rw [getElem?_append_right (by lia),<- h1] at e2;obtain ⟨k,hk⟩:∃ k,i - bs.length=k:=⟨_,rfl⟩;rw [hk] at e1 e2
  cases k with
  | zero=>cases e1; cases e2; exact hb
  | succ k=>simp at e1
def Gm (C:Addr):Sp:=λvs H Q _=>∃ (p c:Addr) (M:Lq) (ns:List Int) (f:Nat->Int) (g:Int->Int),vs=[.ref p,.ref c]/\Z2 C H p M ns/\TD M ns/\ns.length < 64/\V3 H c ns g/\Nm ns f g/\PC M f/\sF f ns.length<=1200/\∀ H',Same H H'->Q .non H'
def Zab (C:Addr):Sp:=λvs H Q _=>∃ (p:Addr) (M:Lq) (ns:List Int),vs=[.ref p]/\Z2 C H p M ns/\ns.length<=1000/\∀ l,H l=none->Q (.ref l) (upd H l (.lst ((List.range ns.length).map nV)))
def Gn (C:Addr):Sp:=λvs H Q _=>∃ (p nb b:Addr) (M:Lq) (ns:List Int) (f:Nat->Int) (n c:Nat),vs=[.ref p,.ref nb,.ref b]/\Z2 C H p M ns/\M.length=ns.length/\Fam M f n/\H nb=some (.lst (rowI M.length f))/\VpP M f c/\H b=some (.tup ((kP c).map V.int)) /\
 ∀ (q:Addr) (H':Hp),Same H H'->H q=none->H' q=some (.tup ((kP (sgP M f c)).map V.int))->Q (.ref q) H'
def Kf:Sp:=λvs H Q _=>∃ (nb b:Addr) (M:Lq) (f:Nat->Int) (n c:Nat),vs=[.ref nb,.ref b]/\Fam M f n/\H nb=some (.lst (rowI M.length f))/\VpP M f c/\H b=some (.tup ((kP c).map V.int)) /\
 ∀ (q:Addr) (H':Hp),Same H H'->H q=none->H' q=some (.tup ((kP (tuP f c)).map V.int))->Q (.ref q) H'
def Zaa (C:Addr):Sp:=λvs H Q _=>∃ (p nb b:Addr) (M:Lq) (ns:List Int) (f:Nat->Int) (n c:Nat),vs=[.ref p,.ref nb,.ref b]/\Z2 C H p M ns/\M.length=ns.length/\Fam M f n/\sF f M.length<=1200/\H nb=some (.lst (rowI M.length f))/\VpP M f c/\H b=some (.tup ((kP c).map V.int)) /\
 ∀ (l:Addr) (bs:List Addr) (os:List Nat) (H':Hp),Same H H'->H l=none->H' l=some (.lst (bs.map V.ref))->Xt H' bs os->OrbEnd (RnP M f) c os->Q (.ref l) H'
def Ul (h:p < n):atI (rowI n f) (p:Int)=some (V.int (f p)):=Yz (Xv h)
def Gq:FnScope ["tent","counts"] ["tent","counts"] (Zh V5):=Am
def Gy (T:Txt w K mg t):FnOk P w K mg base (CXr P w) 5 t.bj t.br ["tent","counts"] (Gm t.aa):=by
 refine T.bx.F.aR Gq (b:)
 ·obtain ⟨p,c,M,ns,f,g,rfl,ta,td,mq,j5,nm,pc,ki,k⟩:=h
  refine ⟨_,(Zd (Y9 (pcT (Gz T) hr T.bv (Za (pv 0) (Za (pv 1) Zb))))
   (Zg (Zy (Zq Qa (Zff rfl (pv 1) ⟨rfl,rfl,rfl⟩ (by rfl) T.eK) (Zd7 (v:=.int 600) rfl T.bP ⟨_,rfl⟩) (Zt _)) Xi Zv))),?_⟩;refine Zo λnxC fq=>?_;refine ⟨_,Y,_,Y,p,c,M,ns,g,Y,ta,td,mq,j5,Zox pc nm td,λH1 s1=>?_⟩;refine fq _ _ ?_;obtain ⟨ks,uu,gz⟩:=j5.same s1;refine ⟨_,Y,c,_,ks.map g,Y,.inl uu,(by unfold dI; rw [map_map,map_map]; rfl),_,_,rfl,rfl,_,rfl,?_⟩;have e:¬ (600:Int) < (ks.map g).sum:=by
   have h1:=Zas (gz.map g)
   have h2:=Zhw td nm pc
   lia
  show if decide ((600:Int) < (ks.map g).sum)=true then _ else _
  rw [decide_eq_false e];exact iteF (k _ s1)
def Uh:FnScope ["self"] ["self"] (Zh J7):=Am
def J1 (T:Txt w K mg t):FnOk P w K mg base (CXr P w) 1 t.aB t.aD ["self"] (Zab t.aa):=by
 refine T.ag.F.aR Uh (b:)
 ·obtain ⟨p,M,ns,rfl,⟨dx,cl,na,sp,mt,o,f,b⟩,hl,k⟩:=h
  refine ⟨_,(Zg (Zn (Us Y T.ar Y T.aj Y (Za (Zk Zj (by rfl) T.ae PySem.boot_len (Za (X8 (pv 0) Y) Zb)) Zb)))),?_⟩;exact ⟨_,Y,p,_,dx,_,_,Y,b.ins,T.ad,T.af,O8 ..,na,_,Y,.inl (SqL.of b.names),ns.length,by rw [Ab],hl,λl jl=>k l jl⟩
def Jd:FnScope ["tent","numbers","at","place","spot"] ["tent","numbers","at"] (Zh V7):=Am
def Jm (T:Txt w K mg t):FnOk P w K mg base (CXr P w) 4 t.bn t.bu ["tent","numbers","at"] (Gn t.aa):=by
 refine T.av.F.aR Jd (b:)
 ·obtain ⟨p,nb,b,M,ns,f,n,c,rfl,ta,ie,fm,j9,vc,hb,k⟩:=h
  obtain ⟨dx,cl,na,sp,mt,o,f',bb⟩:=id ta;refine ⟨_,(Zd (Wg (pv 2) (Vc Y (Yq (Zp (i:=3) Jd.nd Y (Or.inl Y)) (Yq (Zp (i:=4) Jd.nd Y (Or.inl Y)) Ji))))
   (Zg (Zn (Wp (Za (Wk (pv 0) T.ad T.ai.m (W9 T) (hr.mono (by decide)) T.ai.b .nil Xs (Za (pv 3) Zb)) (Za (Zi Xk (Zi Xk (Zu Zr (pv 1) (pv 3) (i:)) Zf) (pv 4)) Zb)))))),?_⟩
  refine ⟨_,Y,b,_,Y,SqT.of hb,Y,_,_,Y,_,_,Y,Y,?_⟩;dsimp only [Zm];obtain ⟨q,e1,_⟩:=fm.sg vc;have hp:c / 1000 < M.length:=vc.1;refine ⟨_,Y,p,dx,_,Y,bb.ins,Yn _ _ _ _,_,Y,p,M,ns,_,Y,ta,ie,λi y e2 e3=>?_,λz=>absurd (show (0:Int)<=((c / 1000:Nat):Int)/\((c / 1000:Nat):Int) < (ns.length:Int) by lia) z⟩;have:i=c / 1000:=by lia
  subst this;rw [e1] at e3;cases e3;refine ⟨_,Y,_,Y,nb,_,_,_,Y,Y,SqL.of j9,Ul hp,_,_,Y,Y,_,Y,_,_,Y,Y,(by show 2<=sizeLine; decide),λq' iu=>?_⟩;refine k q' _ (Same.new iu) iu ?_;rw [Zc,<- fm.sg_key vc e1];rfl
def Xg:FnScope ["numbers","at","place","spot","own","prior","tied_back"] ["numbers","at"] (Zh Q7):=Am
def Qz (T:Txt w K mg t):FnOk P w K mg base (CXr P w) 2 t.aS t.aW ["numbers","at"] Kf:=by
 refine T.az.F.aR Xg (b:)
 ·obtain ⟨nb,b,M,f,n,c,rfl,fm,j9,vc,hb,k⟩:=h
  refine ⟨_,(Zd (Wg (pv 1) (Vc Y (Yq (Zp (i:=2) Xg.nd Y (Or.inl Y)) (Yq (Zp (i:=3) Xg.nd Y (Or.inl Y)) Ji))))
   (Zd (Zni (i:=4) (j:=5) rfl Xg.nd rfl rfl (by decide) rfl rfl (Za (Zu Zr (pv 0) (pv 2) (i:)) (Za (Zu Zr (pv 0) (pcT (Fo T) hr T.cA (Za (pv 2) Zb)) (i:)) Zb)) (by rfl))
   (Zd (Zs (i:=6) Xg.nd rfl (e:) (Zi Ys (Zi Xk (Zi Z8 (pv 5) (pv 4)) (Zu Zr (pv 0) (pcT (Zb2 T) hr T.cY (Za (pv 2) Zb)) (i:))) Zf))
   (Zd (Zy (Zq Jv (pv 3) (pv 6) (Zt _)) (Zg (Zn (Wp (Za (pcT (Fo T) hr T.cA (Za (pv 2) Zb)) (Za (Zi Xk (Zi Xk (pv 5) Zf) (pv 3)) Zb))))) Zv)
   (Zg (Zn (Wp (Za (pcT (Zb2 T) hr T.cY (Za (pv 2) Zb)) (Za (Zi Xk (Zi Xk (pv 4) Zf) (pv 3)) Zb))))))))),?_⟩;have hp:c / 1000 < M.length:=vc.1;obtain ⟨sa,sb⟩:=fm.sides hp;have tk:=fm.tu_key vc;have eB:=Zgd (c / 1000);have eA:=Zgf (c / 1000);refine ⟨_,Y,b,_,Y,SqT.of hb,Y,_,_,Y,_,_,Y,Y,?_⟩
  try dsimp only [Zm]
  refine Zo λnxC fq=>?_;refine ⟨_,Y,_,Y,nb,_,_,_,Y,Y,SqL.of j9,Ul hp,_,Y,_,Y,((c / 1000:Nat):Int),Y,nb,_,_,_,Y,Y,SqL.of j9,(by rw [eB]; exact Ul sb),_,_,Y,?_⟩;refine fq _ _ ?_
  try dsimp only [Zm]
  refine Zo λnxC fq=>?_;refine ⟨_,Y,_,Y,_,_,Y,Y,_,Y,_,Y,((c / 1000:Nat):Int),Y,nb,_,_,_,Y,Y,SqL.of j9,(by rw [eA]; exact Ul sa),_,_,Y,Y,_,_,Y,Y,⟨by decide,by decide⟩,?_⟩;refine fq _ _ ?_
  try dsimp only [Zm]
  refine ⟨_,Y,_,Y,_,_,Y,Y,_,Y,?_⟩;refine ite2 (λz=>?_) (λz=>?_)
  ·rw [if_pos (of_decide_eq_true z)] at tk
   refine ⟨_,Y,((c / 1000:Nat):Int),Y,_,Y,_,_,Y,Y,_,Y,_,_,Y,Y,(by show 2<=sizeLine; decide),λq' iu=>?_⟩;refine k q' _ (Same.new iu) iu ?_;rw [Zc,<- tk,eB];rfl
  ·rw [if_neg (λy=>z (decide_eq_true y))] at tk
   refine ⟨_,Y,((c / 1000:Nat):Int),Y,_,Y,_,_,Y,Y,_,Y,_,_,Y,Y,(by show 2<=sizeLine; decide),λq' iu=>?_⟩;refine k q' _ (Same.new iu) iu ?_;rw [Zc,<- tk,eA];rfl
def Wv:FnScope ["tent","numbers","start","way","at"] ["tent","numbers","start"] (Zh Uj):=Am
def Zaf (T:Txt w K mg t):FnOk P w K mg base (CXr P w) 5 t.bD t.bH ["tent","numbers","start"] (Zaa t.aa):=by
 refine T.bK.F.aR Wv (b:)
 ·obtain ⟨p,nb,b,M,ns,f,n,c,rfl,ta,ie,fm,ir,j9,vc,hb,k⟩:=h
  refine ⟨_,(Zd (Zs (i:=3) Wv.nd Y (Or.inl Y) (Xj (Za (pv 2) Zb)))
   (Zd (Zs (i:=4) Wv.nd rfl (e:) (pcT (Qz T) hr T.az (Za (pv 1) (Za (pcT (Jm T) hr T.av (Za (pv 0) (Za (pv 1) (Za (pv 2) Zb)))) Zb))))
   (Zd (Jh PassesOwn.never (Zq (Znr hr.units) (pv 4) (pv 2) (Zt _)) (Zd (Y9 (Ju PySem.F.plainAttrs_list PySem.F.slot_list_append PySem.F.type_list_append Xl (pv 3) (Za (pv 4) Zb)))
   (Zg (Zs (i:=4) Wv.nd rfl (e:) (pcT (Qz T) hr T.az (Za (pv 1) (Za (pcT (Jm T) hr T.av (Za (pv 0) (Za (pv 1) (Za (pv 4) Zb)))) Zb)))))))
   (Zg (Zn (pv 3)))))),?_⟩;refine ⟨_,Y,(by show 1<=sizeLine; rw [sizeLine_eq]; decide),λl hl=>?_⟩;have s0:Same H (upd H l (.lst [V.ref b])):=Same.new hl;have h0:(upd H l (.lst [V.ref b])) l=some (.lst ([b].map V.ref)):=Zc;generalize upd H l (.lst [V.ref b])=H0 at s0 h0
  try dsimp only [Zm]
  refine ⟨_,Y,_,Y,_,Y,_,Y,p,nb,b,M,ns,f,n,c,Y,ta.same s0,ie,fm,s0 _ _ j9,vc,s0 _ _ hb,λq1 H1 s1 zi h1=>?_⟩;refine ⟨nb,q1,M,f,n,sgP M f c,Y,fm,s1 _ _ (s0 _ _ j9),fm.sgV vc,h1,λq2 H2 s2 wk h2=>?_⟩
  have p0:Xt H2 [b] [c]:=⟨rfl,λi b' c' e1 e2=>by
   cases i with
   | zero=>cases e1; cases e2; exact s2 _ _ (s1 _ _ (s0 _ _ hb))
   | succ i=>simp at e1⟩
  show tSeq (Qm _ _) _ _ _ _;refine ⟨λm σ H3=>∃ (bs:List Addr) (os:List Nat) (la x:Nat) (q:Addr),m=1200 - os.length/\σ=[some (.ref p),some (.ref nb),some (.ref b),some (.ref l),some (.ref q)]/\Same H H3/\H3 l=some (.lst (bs.map V.ref))/\Xt H3 bs os/\Orb (RnP M f) c os/\os[os.length - 1]?=some la/\RnP M f la x/\H3 q=some (.tup ((kP x).map V.int)),⟨_,[b],[c],c,nxP M f c,q2,Y,Y,s0.trans (s1.trans s2),s2 _ _ (s1 _ _ h0),p0,Orb.one c,Y,⟨vc,Y⟩,h2⟩,?_⟩;clear p0 h2 wk s2 h1 zi s1 h0 s0;clear q1 q2 H0 H1 H2;rintro m σ H3 ⟨bs,os,la,x,q,rfl,rfl,s3,h3,pt,o,qo,r,hq⟩;refine ⟨_,Y,_,Y,?_⟩;refine ⟨ptD x,ptD c,.tup (SqT.of hq) (DVs.ints _),.tup (SqT.of (s3 _ _ hb)) (DVs.ints _),Zha x,Zha c,Zlr x c,_,Y,?_⟩;rw [Zi9];by_cases z:x=c
  ·rw [decide_eq_true z]
   subst z;exact iteF ⟨_,Y,k l bs os H3 s3 hl h3 pt ⟨o,la,qo,r⟩⟩
  ·rw [decide_eq_false z]
   have o':=o.snoc qo r (o.new fm.rinj qo r z);have fw:=fm.few ir o'.nodup (fm.orbV vc o');rw [Ae,At] at fw;have vx:VpP M f x:=fm.orbV vc o' x (mem_append_right _ mem_cons_self);have hbl:=pt.1;refine iteT ⟨_,λσ' H' h=>h,?_⟩;refine ⟨_,Y,.inl ⟨Y,_,SqL.of h3⟩,_,Y,l,_,_,Y,Y,h3,(by rw [Ab,sizeLine_eq]; lia),?_⟩;have g9:∀ {b':Addr} {k':Nat},H3 b'=some (.tup ((kP k').map V.int))->b'≠l:=λe z=>by rw [z,h3] at e; cases e
   have s4:Same H (upd H3 l (.lst (bs.map V.ref ++ [V.ref q]))):=Same.add s3 hl;have h4:(upd H3 l (.lst (bs.map V.ref ++ [V.ref q]))) l=some (.lst ((bs ++ [q]).map V.ref)):=by rw [Zc,Aj]; rfl
   have hq4:(upd H3 l (.lst (bs.map V.ref ++ [V.ref q]))) q=some (.tup ((kP x).map V.int)):=by rw [Ze (g9 hq)]; exact hq
   have pt4:Xt (upd H3 l (.lst (bs.map V.ref ++ [V.ref q]))) bs os:=⟨pt.1,λi b' c' e1 e2=>by rw [Ze (g9 (pt.2 i b' c' e1 e2))]; exact pt.2 i b' c' e1 e2⟩;show _;generalize upd H3 l (.lst (bs.map V.ref ++ [V.ref q]))=H4 at s4 h4 hq4 pt4
   try dsimp only [Zm]
   refine ⟨_,Y,_,Y,_,Y,_,Y,p,nb,q,M,ns,f,n,x,Y,ta.same s4,ie,fm,s4 _ _ j9,vx,hq4,λq1 H5 s5 zi h5=>?_⟩;refine ⟨nb,q1,M,f,n,sgP M f x,Y,fm,s5 _ _ (s4 _ _ j9),fm.sgV vx,h5,λq2 H6 s6 wk h6=>?_⟩;refine ⟨1200 - (os ++ [x]).length,by rw [Ae,At]; lia,bs ++ [q],os ++ [x],x,nxP M f x,q2,rfl,rfl,s4.trans (s5.trans s6),s6 _ _ (s5 _ _ h4),(pt4.snoc hq4).same (s5.trans s6),o',?_,⟨vx,rfl⟩,h6⟩;rw [Ae,At,Nat.add_sub_cancel,getElem?_append_right (An _),Nat.sub_self];rfl
def RwI (H:Hp) (as:List Addr) (gs:List (List Int)):Prop:=as.length=gs.length/\∀ (i:Nat) (a:Addr) (g:List Int),as[i]?=some a->gs[i]?=some g->H a=some (.lst (g.map V.int))
def RwI.same (h:RwI H as gs) (s:Same H H'):RwI H' as gs:=⟨h.1,λi b c hb hc=>s _ _ (h.2 i b c hb hc)⟩
def RwI.off (h:RwI H as gs) (s:Off x y H H') (n:∀ a∈as,a≠x/\a≠y):RwI H' as gs:=⟨h.1,λi b c hb hc=>s _ _ (n b (Au hb)).1 (n b (Au hb)).2 (h.2 i b c hb hc)⟩
def RwI.snoc {H:Hp} {bs:List Addr} {os:List (List Int)} {b:Addr} {c:List Int} (h:RwI H bs os) (hb:H b=some (.lst (c.map V.int))):RwI H (bs ++ [b]) (os ++ [c]):=by
 obtain ⟨h1,h2⟩:=h;refine ⟨by simp [h1],λi b' c' e1 e2=>?_⟩;by_cases z:i < bs.length
 ·rw [Av z] at e1
  rw [Av (by lia)] at e2;exact h2 i b' c' e1 e2
 ·rw [getElem?_append_right (by lia)] at e1
  rw [getElem?_append_right (by lia),<- h1] at e2;obtain ⟨k,hk⟩:∃ k,i - bs.length=k:=⟨_,rfl⟩;rw [hk] at e1 e2
  cases k with
  | zero=>cases e1; cases e2; exact hb
  | succ k=>simp at e1
def unV:V->Int
 | .int i=>i
 | _=>0
def rdI (H:Hp) (a:Addr):List Int:=match H a with
 | some (.lst xs)=>xs.map unV
 | _=>[]
def Zg8 {g:List Int} (h:H a=some (.lst (g.map V.int))):rdI H a=g:=by
 unfold rdI;rw [h];show (g.map V.int).map unV=g;rw [map_map];exact (map_congr_left λ_ _=>rfl).trans (map_id g)
def RwI.read {as:List Addr} (h:RwI H as gs):(∀ a∈as,H a=some (.lst ((rdI H a).map V.int)))/\gs=as.map (rdI H):=by
 obtain ⟨h1,h2⟩:=h;refine ⟨λa ha=>?_,?_⟩
 ·obtain ⟨i,hi,e⟩:=mem_iff_getElem.mp ha
  have:=h2 i a _ (by rw [Ac hi,e]) (Ac (by lia));rw [Zg8 this];exact this
 ·apply ext_getElem (by rw [Ab,h1])
  intro i a1 a2;rw [getElem_map];exact (Zg8 (h2 i _ _ (Ac (by lia)) (Ac a1))).symm
def RwI.of {as:List Addr} (h:∀ a∈as,H a=some (.lst ((rdI H a).map V.int))):RwI H as (as.map (rdI H)):=by
 refine ⟨by rw [Ab],λi a g e1 e2=>?_⟩;rw [Ah,e1] at e2;cases e2;exact h a (Au e1)
open Classical in
noncomputable def lstW (M:Lq) (ws:List Nat):List Int:=if h:∃ L,HT.IsLeast (Yd M ws) L then h.choose else []
def G4 (h:HT.IsLeast (Yd M ws) L):lstW M ws=L:=by
 have hx:∃ L,HT.IsLeast (Yd M ws) L:=⟨L,h⟩;unfold lstW;rw [dif_pos hx];exact hx.choose_spec.eq h λ_=>Iff.rfl
noncomputable def wL (M:Lq) (f:Nat->Int) (c:Nat):List Int:=lstW M (wdP M f c)
noncomputable def thrs (M:Lq) (f:Nat->Int):List (List Int):=(gT M f (ptsL f M.length) []).map (wL M f)
def Zpe (H H':Hp) (l:Addr) (M:Lq) (f:Nat->Int):Prop:=∃ (bs:List Addr) (gs:List (List Int)),H l=none/\H' l=some (.lst (bs.map V.ref))/\RwI H' bs gs/\gs.Pairwise (λx y=>HT.lexLt y x=false)/\gs.Perm (thrs M f)/\(∀ b∈bs,H b=none)/\l ∉ bs/\bs.length<=1000
def Zgq (C:Addr):Sp:=λvs H Q _=>∃ (p c:Addr) (M:Lq) (ns:List Int) (f:Nat->Int) (g:Int->Int),vs=[.ref p,.ref c]/\Z2 C H p M ns/\TD M ns/\ns.length < 64/\V3 H c ns g/\Nm ns f g/\PC M f/\sF f ns.length<=1200/\(∀ p,p < M.length->f p<=900) /\
 ∀ (l:Addr) (H':Hp),Same H H'->Zpe H H' l M f->Q (.ref l) H'
def Zkt (h:Xd H xs) (hS:H S=some (Y0 P w S ys)):Xd (upd H S o) xs:=λq hq=>by
 rw [Ze (λz=>by have:=h q hq; rw [z,hS] at this; unfold Y0 at this; cases this)];exact h q hq
def Zoz (h:Xd H xs) (hF:H F=some (.lst l)):Xd (upd H F o) xs:=λq hq=>by
 rw [Ze (λz=>by have:=h q hq; rw [z,hF] at this; cases this)];exact h q hq
def Xt.updF {H:Hp} {F:Addr} {bs:List Addr} {os:List Nat} {l:List V} {o:HO} (h:Xt H bs os) (hF:H F=some (.lst l)):Xt (upd H F o) bs os:=⟨h.1,λi b c hb hc=>by
 rw [Ze (λz=>by have:=h.2 i b c hb hc; rw [z,hF] at this; cases this)]
 exact h.2 i b c hb hc⟩
def Zo0 {i j:Nat} (h:j < 1000):kP (1000 * i + j)=[((i:Nat):Int),((j:Nat):Int)]:=by
 have d:=Xo (p:=i) (s:=j) h;unfold kP;rw [d.1,d.2]
def Wf:FnScope ["tent","counts","numbers","seen","family","start","way","at"] ["tent","counts"] (Zh Za6):=Am
def Fn (T:Txt w K mg t):FnOk P w K mg base (CXr P w) 9 t.c9 t.dq ["tent","counts"] (Zgq t.aa):=by
  refine T.cE.F.aR Wf (λ_ _ _ s H vs Q E hr h=>?_)
  · obtain ⟨p,c,M,ns,f,g,rfl,ta,td,mq,j5,nm,pc,ki,l7,k⟩:=h
    have hu:=Q1 hr;refine ⟨_,(Zd (Y9 (pcT (Gy T) hr T.bx (Za (pv 0) (Za (pv 1) Zb))))
      (Zd (Zs (i:=2) Wf.nd rfl (Or.inr rfl) (Yk (ts:=["place"]) (fv:=[("counts",1),("tent",0)]) (bkO ⟨⟨rfl,rfl,Or.inl rfl⟩,⟨rfl,rfl,Or.inl rfl⟩,trivial⟩) rfl (Ya (Qq (pv 0) T.ad T.ag.m (J1 T) (hr.mono (by decide)) T.ag.b .nil Xs)) (λ_ _ _ _=>(Zp (i:=0) (show List.Nodup (["place","counts","tent"]:List Str) from by decide +kernel) rfl (e:) (Or.inr rfl))) (λ_ _ _ _=>Yb) (λ_ _ _=>rfl) (λ_ _ _ _ _ _=>Yg (Wb hu (pv 1) (Wk (pv 2) T.ad T.am.m (Q0 T) (hr.mono (by decide)) T.am.b .nil Xs (Za (pv 0) Zb)) (i:)))))
      (Zd (Zs (i:=3) Wf.nd rfl (e:) (Zfg Zga (by rfl) T.fj PySem.Pv.boot_set))
      (Zd (Zs (i:=4) Wf.nd rfl (e:) (Xj Zb))
      (Zd (Ye PassesOwn.never rfl (Ya (Yk (ts:=["place","spot"]) (fv:=[("numbers",2)]) (bkO ⟨⟨rfl,rfl,Or.inl rfl⟩,trivial⟩) rfl (Ya (Qq (pv 0) T.ad T.ag.m (J1 T) (hr.mono (by decide)) T.ag.b .nil Xs)) (λ_ _ _ _=>(Zp (i:=0) (show List.Nodup (["place","spot","numbers"]:List Str) from by decide +kernel) rfl (e:) (Or.inr rfl))) (λ_ _ _ _=>Yb) (λ_ _ _=>rfl) (λ_ _ _ _ _ _=>Zhf rfl rfl (Yu rfl T.aj (Za (Zu (W0 K) (pv 2) (pv 0) (i:)) Zb)) (Zp (i:=1) (show List.Nodup (["place","spot","numbers"]:List Str) from by decide +kernel) rfl (e:) (Or.inr rfl)) Yb (Wp (Za (pv 0) (Za (pv 1) Zb)))))) (Zp (i:=5) Wf.nd rfl (e:)) (Zg (Zy (Zq (Zby hr.units) (pv 5) (pv 3) (by with_unfolding_all rfl)) (Zd (Zs (i:=6) Wf.nd rfl (e:) (pcT (Zaf T) hr T.bK (Za (pv 0) (Za (pv 2) (Za (pv 5) Zb)))))
      (Zd (Y9 (Ju PySem.F.plainAttrs_list PySem.F.slot_list_append PySem.F.type_list_append Xl (pv 4) (Za (pcT (Zjn T) hr T.eE (Za (pv 0) (Za (Yk (ts:=["place","spot"]) (fv:=[]) (bkO trivial) rfl (Ya (pv 6)) (λ_ _ _ _=>(Zd6 (n:=2) K rfl (Yq (Zp (i:=0) (show List.Nodup (["place","spot"]:List Str) from by decide +kernel) rfl (e:) (Or.inr rfl)) (Yq (Zp (i:=1) (show List.Nodup (["place","spot"]:List Str) from by decide +kernel) rfl (e:) (Or.inr rfl)) Ji)))) (λ_ _ _ _=>Yb) (λ_ _ _=>rfl) (λ_ _ _ _ _ _=>Yg (pv 0))) Zb))) Zb)))
      (Zg (Ye PassesOwn.never rfl (Ya (pv 6)) (Zp (i:=7) Wf.nd rfl (e:)) (Zd (Y9 (Kv hr.units (pv 3) (Za (pv 7) Zb)))
      (Zg (Y9 (Kv hr.units (pv 3) (Za (pcT (Jm T) hr T.av (Za (pv 0) (Za (pv 2) (Za (pv 7) Zb)))) Zb))))))))) Zv)))
      (Zg (Zn (Zk (Zai hr.units) (by rfl) T.cI PyProof.Rows.boot_sorted (Za (pv 4) Zb))))))))),?_⟩
    have ie:M.length=ns.length:=td.len.symm;obtain ⟨n,n1,n40,hn⟩:=td.n;have fm:Fam M f n:=⟨pc,td.inv,hn,l7⟩;have ir:sF f M.length<=1200:=by rw [ie]; exact ki
    refine Zo λnxC fq=>?_;refine ⟨_,Y,_,Y,p,c,M,ns,f,g,Y,ta,td,mq,j5,nm,pc,ki,λH1 s1=>?_⟩;refine fq _ _ ?_
    try dsimp only [Zm]
    have kl:=ta.same s1;obtain ⟨ks,uu,gz⟩:=j5.same s1;refine Zo λnxC fq=>?_;obtain ⟨dx,cl,na,sp,mt',o,f',b⟩:=id kl;refine ⟨_,Y,p,dx,_,Y,b.ins,Yn _ _ _ _,p,M,ns,Y,kl,by lia,λl hl=>?_⟩;have s2:Same H1 (upd H1 l (.lst ((List.range ns.length).map nV))):=Same.new hl;have h2:(upd H1 l (.lst ((List.range ns.length).map nV))) l=some (.lst ((List.range ns.length).map nV)):=Zc;generalize upd H1 l (.lst ((List.range ns.length).map nV))=H2 at s2 h2;clear b;refine ⟨l,Y,⟨_,SqL.of h2⟩,λnb j9=>?_⟩;have qe:=kl.same s2;have ke:=s2 _ _ uu;refine Ym (xs:=(List.range ns.length).map nV) (λi σ H3=>∃ v,σ=[v,some (.ref c),some (.ref p)]/\Same H2 H3/\H3 nb=some (.lst (rowI i f))) ⟨none,Y,Same.new j9,by rw [Zc]; rfl⟩ ?_ ?_ ?_
    · rintro i σ H3 _ ⟨v,rfl,s3,h3⟩
      exact SqL.of (s3 _ _ h2)
    · rintro i x σ H3 hx ⟨v,rfl,s3,h3⟩
      obtain ⟨hi,rfl⟩:i < ns.length/\x=nV i:=by
        rw [Ah] at hx;by_cases z:i < ns.length
        · rw [getElem?_range z] at hx; cases hx; exact ⟨z,Y⟩
        · rw [Ay (by rw [length_range]; lia)] at hx; cases hx
      dsimp only [Zm,tYes];rw [if_pos rfl];have u7:=qe.same s3;obtain ⟨dx,cl,na,sp,mt',o,f',b⟩:=id u7;have ey:=Jq hi;have hzk:ns.getD i 0∈ks:=gz.mem_iff.mpr (K5 hi);refine ⟨_,Y,_,Y,p,dx,_,Y,b.ins,Yn _ _ _ _,_,Y,p,M,ns,i,Y,u7,λi' y e1 e2=>?_,λq=>absurd ⟨by lia,by lia⟩ q⟩;obtain rfl:i=i':=by lia
      rw [ey] at e2
      injection e2 with e2
      subst e2;refine ⟨c,_,Y,Zeu (s3 _ _ ke) hzk,?_⟩;refine ⟨_,h3,?_,_,Y,Same.add s3 j9,?_⟩
      · rw [Yp]; exact Zx (by lia)
      · rw [Zc,nm _ _ ey]
        unfold rowI;rw [range_succ,Aj];rfl
    rintro σ H3 ⟨v,rfl,s3,h3⟩;rw [Ab,length_range,<- ie] at h3;refine fq _ _ ?_
    try dsimp only [Zm]
    have u7:=qe.same s3;have ou:=s1.trans (s2.trans s3);have hnbH:H nb=none:=s1.free (s2.free j9);clear s1 s2 s3 kl qe uu ke h2 hl j9;refine Zo λnxC fq=>?_;refine ⟨Y,λS hS=>?_⟩;refine fq _ _ ?_;refine Zo λnxC fq=>?_;refine ⟨Az _,λF hF=>?_⟩;obtain ⟨hFS,hF0⟩:=Ql hF;refine (λ(G:∀ H4:Hp,Same H3 H4->H4 S=some (Y0 P w S [])->H4 F=some (.lst (([]:List Addr).map V.ref))->nxC _ H4)=>G _ (Same.add (Same.new hS) hF0) (by rw [Ze (Ne.symm hFS),Zc]; rfl) Zc) ?_;intro H4 s4 hS4 hF4;have hSH:H S=none:=ou.free hS;have hFH:H F=none:=ou.free hF0;refine fq _ _ ?_;clear hF
    try dsimp only [Zm]
    have u9:=ou.trans s4;have u6:=u7.same s4;have h4:=s4 _ _ h3;have zn:nb≠S:=λz=>by rw [z,hS] at h3; cases h3
    have zo:nb≠F:=λz=>by rw [z,hF0] at h3; cases h3
    clear s4 u7 h3 ou;show tSeq (tFor _ _ _) _ _ _ _;refine Z0 (λσ HX=>∃ (xs:List (List Int × Addr)) (as:List Addr) (v5 v6 v7:Option V),σ=[some (.ref p),some (.ref c),some (.ref nb),some (.ref S),some (.ref F),v5,v6,v7]/\Same H HX/\HX F=some (.lst (as.map V.ref))/\RwI HX as (thrs M f)/\(∀ a∈as,H a=none)/\as.length<=1000) (λnx gw=>?_) ?_
    · -- the starts
      obtain ⟨dx,cl,na,sp,mt',o,f',b⟩:=id u6;refine ⟨_,Y,p,dx,_,Y,b.ins,Yn _ _ _ _,p,M,ns,Y,u6,by lia,λl hl=>?_⟩;have s5:Same H4 (upd H4 l (.lst ((List.range ns.length).map nV))):=Same.new hl;have h5:(upd H4 l (.lst ((List.range ns.length).map nV))) l=some (.lst ((List.range ns.length).map nV)):=Zc;generalize upd H4 l (.lst ((List.range ns.length).map nV))=H5 at s5 h5;clear b;refine ⟨l,Y,⟨_,SqL.of h5⟩,λZ hZ=>?_⟩;have hn5:=s5 _ _ h4;refine Ym (xs:=(List.range ns.length).map nV) (λi σ H6=>∃ (zs:List Addr) (v v':Option V),σ=[v,v',some (.ref nb)]/\Same H5 H6/\H6 Z=some (.lst (zs.map V.ref))/\Xt H6 zs (ptsL f i)) ⟨[],none,none,Y,Same.new hZ,by rw [Zc]; rfl,rfl,λi b c e=>by simp at e⟩ ?_ ?_ ?_
      · rintro i σ H6 _ ⟨zs,v,v',rfl,s6,_⟩
        exact SqL.of (s6 _ _ h5)
      · rintro i x σ H6 hx ⟨zs,v,v',rfl,s6,h6,ug⟩
        obtain ⟨hi,rfl⟩:i < ns.length/\x=nV i:=by
          rw [Ah] at hx;by_cases z:i < ns.length
          · rw [getElem?_range z] at hx; cases hx; exact ⟨z,Y⟩
          · rw [Ay (by rw [length_range]; lia)] at hx; cases hx
        dsimp only [Zm,tYes];rw [if_pos rfl];have ja:i < M.length:=by lia
        obtain ⟨f1,f2⟩:=fm.nf ja
        have g8:((ptsL f i).length:Int)<=1200:=by
          have h1:=Va f i λq hq=>pc.nn q (by lia);have h2:=Va f M.length pc.nn
          have h3:(ptsL f i).length<=(ptsL f M.length).length:=by
            have:∀ d i,(ptsL f i).length<=(ptsL f (i + d)).length:=λd i=>by
              induction d with
              | zero=>exact An _
              | succ d ih=>show _<=(ptsL f (i + d) ++ _).length; rw [Ae]; lia
            have:=this (M.length - i) i;rwa [show i + (M.length - i)=M.length by lia] at this
          lia
        refine ⟨_,Y,_,Y,nb,_,_,_,Y,Y,SqL.of (s6 _ _ hn5),Ul ja,_,Y,by lia,by lia,?_⟩;show Wy (Itr 0 (nN f i)) _ _ _ _ _ _;refine Qd (λj σ H7=>∃ (zs:List Addr) (v':Option V),σ=[some (nV i),v',some (.ref nb)]/\Same H5 H7/\H7 Z=some (.lst (zs.map V.ref))/\Xt H7 zs (ptsL f i ++ (List.range j).map λs=>1000 * i + s)) ⟨zs,v',Y,s6,h6,by rw [range_zero,map_nil,append_nil]; exact ug⟩ ?_ ?_
        · rintro j σ H7 hj ⟨zs,v',rfl,s7,h7,y8⟩
          dsimp only [Zm,tYes];rw [if_pos rfl,Int.zero_add];have hzl:=y8.1;rw [Ae,Ab,length_range] at hzl;refine ⟨_,Y,_,Y,(by show 2<=sizeLine; decide),λq hq=>?_⟩;have s8:Same H7 (upd H7 q (.tup [nV i,V.int j])):=Same.new hq;have e8:(upd H7 q (.tup [nV i,V.int j])) q=some (.tup ((kP (1000 * i + j)).map V.int)):=by rw [Zc,Zo0 (by lia)]; rfl
          show ∃ xs,(upd H7 q (.tup [nV i,V.int j])) Z=some (.lst xs)/\_;generalize upd H7 q (.tup [nV i,V.int j])=H8 at s8 e8 ⊢;refine ⟨_,s8 _ _ h7,by rw [Ab,sizeLine_eq]; lia,zs ++ [q],_,rfl,Same.add (s7.trans s8) hZ,by rw [Zc,Aj]; rfl,?_⟩;have hqZ:q≠Z:=λz=>by rw [z,h7] at hq; cases hq
          have p8:=(y8.same s8).snoc e8;rw [range_succ,Aj,<- append_assoc];refine ⟨p8.1,λi' b' c' e1 e2=>?_⟩;have:=p8.2 i' b' c' e1 e2;rw [Ze (λz=>by rw [z,s8 _ _ h7] at this; cases this)];exact this
        · rintro σ H7 ⟨zs,v',rfl,s7,h7,y8⟩
          exact ⟨zs,_,_,Y,s7,h7,y8⟩
      rintro σ H6 ⟨zs,v,v',rfl,s6,h6,ug⟩;rw [Ab,length_range,<- ie] at ug;have qh:=s5.trans s6;have hZS:Z≠S:=λz=>by rw [z] at hZ; rw [s5.free hZ] at hS4; cases hS4
      have hZF:Z≠F:=λz=>by rw [z] at hZ; rw [s5.free hZ] at hF4; cases hF4
      refine ⟨Z,Y,⟨_,SqL.of h6⟩,?_⟩;have e0:gT M f ((ptsL f M.length).take 0) []=[]:=rfl
      have neS:∀ {a:Addr} {x:HO},H6 a=some x->(∀ xs,x≠Y0 P w S xs)->a≠S:=λe h z=>by rw [z,qh _ _ hS4] at e; injection e with e; exact h _ e.symm
      have tS:∀ (a:Addr) (k:List V) (xs:List (List Int × Addr)),(HO.tup k)≠Y0 P w a xs:=λa k xs z=>by unfold Y0 at z; cases z
      have lS:∀ (a:Addr) (k:List V) (xs:List (List Int × Addr)),(HO.lst k)≠Y0 P w a xs:=λa k xs z=>by unfold Y0 at z; cases z
      refine W1 (xs:=zs.map V.ref) (λi σ H7=>∃ (xs:List (List Int × Addr)) (as:List Addr) (v5 v6 v7:Option V),σ=[some (.ref p),some (.ref c),some (.ref nb),some (.ref S),some (.ref F),v5,v6,v7]/\Off S F H6 H7/\H7 S=some (Y0 P w S xs)/\Xd H7 xs/\SeenK M f (Wt M f (gT M f ((ptsL f M.length).take i) []) []) (xs.map (·.1))/\H7 F=some (.lst (as.map V.ref))/\RwI H7 as ((gT M f ((ptsL f M.length).take i) []).map (wL M f))/\(∀ a∈as,H a=none/\a≠S/\a≠F)/\PrD M f (gT M f ((ptsL f M.length).take i) [])) ⟨[],[],none,none,none,Y,Off.refl,qh _ _ hS4,λq hq=>absurd hq not_mem_nil,SeenK.nil,qh _ _ hF4,⟨Y,λi a g e=>by simp at e⟩,λa ha=>absurd ha not_mem_nil,PrD.nil⟩ ?_ ?_ ?_
      · rintro i σ H7 _ ⟨xs,as,v5,v6,v7,rfl,n6,_⟩
        exact SqL.of (n6 _ _ hZS hZF h6)
      · rintro i x σ H7 hx ⟨xs,as,v5,v6,v7,rfl,n6,su,w6,uc,oo,n5,fr7,rf⟩
        obtain ⟨b,hb,rfl⟩:=map_some hx;have hil:i < (ptsL f M.length).length:=by rw [<- ug.1]; exact (Aa hb).1
        obtain ⟨d,hd⟩:∃ d,(ptsL f M.length)[i]?=some d:=⟨_,Ac hil⟩;have vd:VpP M f d:=fm.pts_mem.mp (Au hd);have hb6:=ug.2 i b d hb hd;have hbS:b≠S:=neS hb6 (tS _ _);have hbF:b≠F:=λz=>by rw [z,qh _ _ hF4] at hb6; cases hb6
        have hb7:=n6 _ _ hbS hbF hb6;have et:(ptsL f M.length).take (i + 1)=(ptsL f M.length).take i ++ [d]:=by rw [Aw,hd]; rfl
        rw [et];generalize (ptsL f M.length).take i=L at uc n5 rf ⊢;have gy:=@Zn6 M f L d;have gn:=@Zo6 M f L d;generalize gT M f L []=D at uc n5 rf gy gn;dsimp only [Zm];have mem:=(uc.mem d vd).trans Zop;refine ⟨_,Y,_,Y,b,kP d,S,xs,Y,Y,hb7,su,w6,_,Y,?_⟩;by_cases hm:kP d∈xs.map (·.1)
        · rw [decide_eq_true hm]
          refine iteF ?_;rw [gy (mem.mp hm)];exact ⟨xs,as,_,_,_,Y,n6,su,w6,uc,oo,n5,fr7,rf⟩
        · rw [decide_eq_false hm]
          have pf:¬ inS M f D d:=λz=>hm (mem.mpr z);rw [gn pf];have pr8:=fm.prS ir rf vd pf;have hDl:=fm.prL ir pr8;refine iteT ?_;have yv:Same H H7:=n6.same (u9.trans qh) hSH hFH;refine Zo λnxC fq=>?_;refine ⟨_,Y,_,Y,_,Y,p,nb,b,M,ns,f,n,d,Y,ta.same yv,ie,fm,ir,n6 _ _ zn zo (qh _ _ h4),vd,hb7,λW ws os H8 s8 hW h8 y7 o=>?_⟩;refine fq _ _ ?_
          try dsimp only [Zm]
          have hWS:W≠S:=λz=>by rw [z,su] at hW; cases hW
          have hWF:W≠F:=λz=>by rw [z,oo] at hW; cases hW
          have hos:=fm.few ir o.nodup (fm.orbV vd o.toOrb);have l9:=y7.1;refine Zo λnxC fq=>?_;refine ⟨_,Y,.inl ⟨Y,_,SqL.of (s8 _ _ oo)⟩,_,Y,_,Y,W,Y,⟨_,SqL.of h8⟩,λB hB=>?_⟩;refine Ym (xs:=ws.map V.ref) (λj σ H9=>∃ (v v':Option V),σ=[v,v']/\Same H8 H9/\H9 B=some (.lst (((os.take j).map (· / 1000)).map nV))) ⟨none,none,Y,Same.new hB,by rw [Zc]; rfl⟩ ?_ ?_ ?_
          · rintro j σ H9 _ ⟨v,v',rfl,s9,_⟩
            exact SqL.of (s9 _ _ h8)
          · rintro j x σ H9 hx ⟨v,v',rfl,s9,h9⟩
            obtain ⟨b',mm,rfl⟩:=map_some hx;have hj:j < os.length:=by rw [<- l9]; exact (Aa mm).1
            obtain ⟨c',jo⟩:∃ c',os[j]?=some c':=⟨_,Ac hj⟩;dsimp only [Zm,tYes];refine ⟨_,_,Y,SqT.of (s9 _ _ (y7.2 j b' c' mm jo)),Y,_,_,Y,_,_,Y,Y,?_⟩
            try rw [if_pos rfl]
            refine ⟨_,Y,_,h9,by rw [Ab,Ab,Ai,sizeLine_eq]; lia,_,_,rfl,Same.add s9 hB,?_⟩;rw [Zc,Aw,jo,Aj,Aj];rfl
          rintro σ H9 ⟨v,v',rfl,s9,h9⟩;rw [Ab,l9,take_length] at h9;have ue:=s8.trans s9;refine ⟨p,B,M,ns,os.map (· / 1000),Y,ta.same (yv.trans ue),ie,h9,by rw [Ab]; lia,fm.plain vd o,λl2 L2 HA sA ij hL2 isL=>?_⟩;have qg:=ue.trans sA;have qo:as.length<=600:=by rw [n5.1,Ab]; rw [Ae,At] at hDl; lia
          refine ⟨F,_,_,Y,Y,qg _ _ oo,(by rw [Ab,sizeLine_eq]; lia),?_⟩;have hl2S:l2≠S:=λz=>by rw [z,ue _ _ su] at ij; cases ij
          have hl2F:l2≠F:=λz=>by rw [z,ue _ _ oo] at ij; cases ij
          have hl2H:H l2=none:=yv.free (ue.free ij);have ew:wL M f d=L2:=by unfold wL wdP; rw [Jk o]; exact G4 isL
          have fr8:∀ a∈as ++ [l2],H a=none/\a≠S/\a≠F:=λa ha=>by
            rcases mem_append.mp ha with z | z
            · exact fr7 a z
            · rw [Af z]; exact ⟨hl2H,hl2S,hl2F⟩
          refine (λ(G:∀ HB:Hp,Off S F H7 HB->HB S=some (Y0 P w S xs)->HB F=some (.lst ((as ++ [l2]).map V.ref))->Xd HB xs->RwI HB (as ++ [l2]) ((D ++ [d]).map (wL M f))->HB W=some (.lst (ws.map V.ref))->Xt HB ws os->nxC _ HB)=>G _ (Off.of qg).b (by rw [Ze (Ne.symm hFS)]; exact qg _ _ su) (by rw [Zc,Aj]; rfl) (Zoz (w6.same qg) (qg _ _ oo)) ?_ (by rw [Ze hWF]; exact (s9.trans sA) _ _ h8) ((y7.same (s9.trans sA)).updF (qg _ _ oo))) ?_
          · rw [Aj]
            refine ((n5.same qg).snoc ?_).off (Off.b Off.refl) λa ha=>(fr8 a ha).2;rw [ew];exact hL2
          intro HB ofB wy hFB hKB qi hWB ptB;refine fq _ _ ?_
          try dsimp only [Zm]
          clear hL2 isL qg ij sA h9 s9 hB ue s8 h8 y7 hW n5 oo su w6;refine ⟨_,Y,W,Y,⟨_,SqL.of hWB⟩,?_⟩;refine W1 (xs:=ws.map V.ref) (λj σ HC=>∃ (xs:List (List Int × Addr)) (v7:Option V),σ=[some (.ref p),some (.ref c),some (.ref nb),some (.ref S),some (.ref F),some (.ref b),some (.ref W),v7]/\Off S F HB HC/\HC S=some (Y0 P w S xs)/\Xd HC xs/\SeenK M f (Wt M f D (os.take j)) (xs.map (·.1))/\HC F=some (.lst ((as ++ [l2]).map V.ref))) ⟨xs,_,Y,Off.refl,wy,hKB,by rw [take_zero]; exact uc,hFB⟩ ?_ ?_ ?_
          · rintro j σ HC _ ⟨xs,v7,rfl,qk,_⟩
            exact SqL.of (qk _ _ hWS hWF hWB)
          · rintro j x σ HC hx ⟨xs,v7,rfl,qk,uv,wz,ub,hFC⟩
            obtain ⟨b',mm,rfl⟩:=map_some hx;have hj:j < os.length:=by rw [<- l9]; exact (Aa mm).1
            obtain ⟨c',jo⟩:∃ c',os[j]?=some c':=⟨_,Ac hj⟩;have u4:VpP M f c':=fm.orbV vd o.toOrb c' (Au jo);have ol:=ptB.2 j b' c' mm jo
            have yb:b'≠S:=λz=>by rw [z,wy] at ol; injection ol with ol; exact tS _ _ _ ol.symm
            have yc:b'≠F:=λz=>by rw [z,hFB] at ol; cases ol
            have hbC:=qk _ _ yb yc ol;have rn:=fm.seen_len ir ub;rw [Ab] at rn;dsimp only [Zm];refine Z0 (λσ HD=>∃ (xs:List (List Int × Addr)),σ=[some (.ref p),some (.ref c),some (.ref nb),some (.ref S),some (.ref F),some (.ref b),some (.ref W),some (.ref b')]/\Off S F HB HD/\HD S=some (Y0 P w S xs)/\Xd HD xs/\SeenK M f (λx=>Wt M f D (os.take j) x\/x=c') (xs.map (·.1))/\HD F=some (.lst ((as ++ [l2]).map V.ref))) (λnx gw=>?_) ?_
            · refine ⟨_,Y,S,xs,Y,uv,_,Y,b',kP c',xs,Y,hbC,uv,wz,by lia,λmj=>gw _ _ ⟨xs,Y,qk,uv,wz,ub.old mj,hFC⟩,λm7=>gw _ _ ⟨xs ++ [(kP c',b')],Y,qk.a,Zc,Zkt (wz.snoc hbC) uv,?_,by rw [Ze hFS]; exact hFC⟩⟩
              rw [Aj];exact ub.snoc u4 m7
            rintro σ HD ⟨xs,rfl,vk,hSD,hKD,skD,hFD⟩;have hbD:=vk _ _ yb yc ol;have sHD:Same H HD:=(ofB.trans vk).same yv hSH hFH;have rn:=fm.seen_len ir skD;rw [Ab] at rn;have e9:os.take (j + 1)=os.take j ++ [c']:=by rw [Aw,jo]; rfl
            rw [e9];refine ⟨_,Y,S,xs,Y,hSD,_,Y,_,Y,_,Y,p,nb,b',M,ns,f,n,c',Y,ta.same sHD,ie,fm,vk _ _ zn zo (ofB _ _ zn zo (n6 _ _ zn zo (qh _ _ h4))),u4,hbD,λq HE sE hq hqE=>?_⟩;refine ⟨q,kP (sgP M f c'),xs,Y,hqE,sE _ _ hSD,hKD.same sE,by lia,λmj=>?_,λm7=>?_⟩
            · exact ⟨xs,_,Y,vk.trans (Off.of sE),sE _ _ hSD,hKD.same sE,fm.seen_two u4 (skD.old mj),sE _ _ hFD⟩
            · refine ⟨xs ++ [(kP (sgP M f c'),q)],_,Y,(vk.trans (Off.of sE)).a,Zc,Zkt ((hKD.same sE).snoc hqE) (sE _ _ hSD),?_,by rw [Ze hFS]; exact sE _ _ hFD⟩
              rw [Aj];exact fm.seen_two u4 (skD.snoc (fm.sgV u4) m7)
          · rintro σ HC ⟨xs,v7,rfl,qk,uv,wz,ub,hFC⟩
            rw [Ab,l9,take_length] at ub;exact ⟨xs,as ++ [l2],_,_,_,Y,n6.trans (ofB.trans qk),uv,wz,Zi2 o ub,hFC,qi.off qk λa ha=>(fr8 a ha).2,fr8,pr8⟩
      · rintro σ H7 ⟨xs,as,v5,v6,v7,rfl,n6,su,w6,uc,oo,n5,fr7,rf⟩
        rw [Ab,ug.1,take_length] at n5 rf;have hDl:=fm.prL ir rf;refine gw _ _ ⟨xs,as,_,_,_,Y,n6.same (u9.trans qh) hSH hFH,oo,n5,λa ha=>(fr7 a ha).1,?_⟩;rw [n5.1,Ab];lia
    · rintro σ HX ⟨xs,as,v5,v6,v7,rfl,sX,hFX,rwX,zt,wx⟩
      obtain ⟨r1,r2⟩:=rwX.read;refine ⟨_,Y,F,as,rdI HX,Y,SqL.of hFX,λa ha=>SqL.of (r1 a ha),wx,λq bs hq pm pw=>?_⟩;have hbq:∀ b∈bs,b≠q:=λb hb z=>by have:=r1 b (pm.mem_iff.mp hb); rw [z,hq] at this; cases this
      refine k q _ (Same.add sX (sX.free hq)) ⟨bs,bs.map (rdI HX),sX.free hq,Zc,?_,?_,?_,λb hb=>zt b (pm.mem_iff.mp hb),λz=>hbq q z Y,by rw [pm.length_eq]; exact wx⟩
      · have:=RwI.of (H:=HX) (as:=bs) λb hb=>r1 b (pm.mem_iff.mp hb)
        exact ⟨this.1,λi a g e1 e2=>by rw [Ze (hbq a (Au e1))]; exact this.2 i a g e1 e2⟩
      · rw [pairwise_map]; exact pw
      · rw [r2]; exact pm.map _
theorem Fq:∀ (l:List (List Int)),l≠[]->∃ a∈l,∀ b∈l,HT.lexLt b a=false
 | [],h=>absurd rfl h
 | [a],_=>⟨a,mem_cons_self,λb hb=>by rw [Af hb]; exact HT.lex_irr a⟩
 | a :: c :: l,_=>by
  obtain ⟨m,hm,hl⟩:=Fq (c :: l) (cons_ne_nil _ _);by_cases z:HT.lexLt a m=true
  ·refine ⟨a,mem_cons_self,λb hb=>?_⟩
   rcases Ar hb with rfl | y
   ·exact HT.lex_irr _
   ·by_cases w:HT.lexLt b a=true
    ·have:=HT.lex_trans b a m w z
     rw [hl b y] at this;cases this
    ·exact Bool.eq_false_iff.mpr w
  ·refine ⟨m,mem_cons_of_mem _ hm,λb hb=>?_⟩
   rcases Ar hb with rfl | y
   ·exact Bool.eq_false_iff.mpr z
   ·exact hl b y
def Q2 {ws:List Nat} (h:0 < ws.length):HT.IsLeast (Yd M ws) (lstW M ws):=by
 have hx:∃ L,HT.IsLeast (Yd M ws) L:=by
  obtain ⟨a,ha,hl⟩:=Fq ((List.range ws.length).map (λb=>wI (rot ws b)) ++ (List.range ws.length).map (λb=>wI (rot (Yc M ws) b))) (λz=>by have:=congrArg List.length z; simp at this; rw [this] at h; simp at h);have mem:∀ x,x∈(List.range ws.length).map (λb=>wI (rot ws b)) ++ (List.range ws.length).map (λb=>wI (rot (Yc M ws) b)) ↔ Yd M ws x:=λx=>by
   unfold Yd
   rw [mem_append,mem_map,mem_map]
   constructor
   ·rintro (⟨b,hb,rfl⟩ | ⟨b,hb,rfl⟩)
    ·exact ⟨b,mem_range.mp hb,.inl Y⟩
    ·exact ⟨b,mem_range.mp hb,.inr Y⟩
   ·rintro ⟨b,hb,rfl | rfl⟩
    ·exact .inl ⟨b,mem_range.mpr hb,Y⟩
    ·exact .inr ⟨b,mem_range.mpr hb,Y⟩
  exact ⟨a,(mem a).mp ha,λb hb=>hl b ((mem b).mpr hb)⟩
 obtain ⟨L,hL⟩:=hx;rw [G4 hL];exact hL
section
variable {M:Lq} {f:Nat->Int} {n:Nat}
def Fam.thr (h:Fam M f n) (hs:sF f M.length<=1200) (v:VpP M f d) (t:Yd M (wdP M f d) x):∃ (c:Nat) (os:List Nat),VpP M f c/\OrbEnd (RnP M f) c os/\x=wI (os.map (· / 1000))/\∀ p,crN M (os.map (· / 1000)) p=crN M (wdP M f d) p:=by
 have o:=h.orb hs v;have hV:=h.orbV v o.toOrb;have hp:=o.pos;obtain ⟨b,hb,e⟩:=t;have ml:∀ (os:List Nat) (j:Nat),(rot os j).map (· / 1000)=rot (os.map (· / 1000)) j:=λos j=>by unfold rot; rw [Aj,map_drop,map_take]
 have wl:(wdP M f d).length=(f7 M f d).length:=by unfold wdP; rw [Ab]
 rw [wl] at hb
 rcases e with e | e
 ·have hj:(f7 M f d)[b]?=some (f7 M f d)[b]:=Ac hb
  refine ⟨_,_,hV _ (Au hj),o.rot hj,by rw [e,ml]; rfl,λp=>?_⟩;rw [ml,Zet];rfl
 ·obtain ⟨l,hl⟩:∃ l,(f7 M f d)[(f7 M f d).length - 1]?=some l:=⟨_,Ac (by lia)⟩
  have o2:=h.orb_back v o hl;have v2:=h.sgV (hV l (Au hl));have hV2:=h.orbV v2 o2.toOrb;have hb2:b < ((f7 M f d).reverse.map (sgP M f)).length:=by rw [Ab,length_reverse]; exact hb
  have hj:((f7 M f d).reverse.map (sgP M f))[b]?=some ((f7 M f d).reverse.map (sgP M f))[b]:=Ac hb2;have mb:=h.mapback hV;refine ⟨_,_,hV2 _ (Au hj),o2.rot hj,by rw [e,ml,mb]; rfl,λp=>?_⟩;rw [ml,Zet,mb];exact Zkg h.inv (λq hq=>by obtain ⟨y,hy,rfl⟩:=mem_map.mp hq; obtain ⟨q',m1,_⟩:=h.sg (hV y hy); exact ⟨q',m1⟩) p
def Fam.wL_thr (h:Fam M f n) (hs:sF f M.length<=1200) (v:VpP M f d):∃ ws:List Nat,wL M f d=wI ws/\Pl M ws/\ws.length<=600/\(∀ p,crN M ws p=crN M (wdP M f d) p)/\(∀ e,1<=e->e < ws.length->rot ws e≠ws):=by
 have o:=h.orb hs v;have hw:0 < (wdP M f d).length:=by unfold wdP; rw [Ab]; exact o.pos
 obtain ⟨c,os,vc,oc,e,cr⟩:=h.thr hs v (Q2 hw).1;refine ⟨_,e,h.plain vc oc,?_,cr,λe' h1 h2 z=>?_⟩
 ·have e1:=Jk oc
  have:=h.few hs (h.one_nd hs vc) (λx hx=>(h.onSb hs vc).ok x hx);rw [e1,Ae,Ab] at this;rw [Ab];lia
 rw [Ab] at h2;have:=h.once_rot vc oc (b:=0) oc.pos h1 h2;have r0:rot (os.map (· / 1000)) 0=os.map (· / 1000):=by unfold rot; simp
 rw [r0] at this;exact this z
def Fam.tells (h:Fam M f n) (hs:sF f M.length<=1200) (v:VpP M f d):thrs M (fI (jg M f d))=[wL M f d]:=by
 obtain ⟨z0,e,j,hj,hw⟩:=h.alone hs v;have o:=h.orb hs v;have hP:=h.plain v o;have rp:0 < (wdP M f d).length:=by unfold wdP; rw [Ab]; exact o.pos
 unfold thrs;rw [e,map_cons,map_nil];congr 1;unfold wL;have key:∀ ws,(∀ x,Yd M ws x ↔ Yd M (wdP M f d) x)->lstW M ws=lstW M (wdP M f d):=λws hx=>by
  refine G4 ⟨(hx _).mpr (Q2 rp).1,λb hb=>(Q2 rp).2 b ((hx b).mp hb)⟩
 rcases hw with hw | hw
 ·rw [hw]
  exact key _ λx=>Fa hj rp x
 ·rw [hw]
  refine key _ λx=>?_;have hr:Pl M (rot (wdP M f d) j):=by
   by_cases z:j=(wdP M f d).length
   ·have:rot (wdP M f d) j=wdP M f d:=by unfold rot; rw [z]; simp
    rw [this]; exact hP
   ·have oh:j < (f7 M f d).length:=by unfold wdP at hj z; rw [Ab] at hj z; lia
    have o2:=o.rot (Ac oh)
    have:=h.plain (h.orbV v o.toOrb _ (getElem_mem oh)) o2
    rw [show (rot (f7 M f d) j).map (· / 1000)=rot ((f7 M f d).map (· / 1000)) j by unfold rot; rw [Aj,map_drop,map_take]] at this
    exact this
  exact (Zey h.inv hr x).trans (Fa hj rp x)
end
def Zfs {kvs:List (Key × V)} (Pv:Nat->St->Hp->Prop) (h0:Pv 0 σ H) (hl:∀ i σ H,i<=kvs.length->Pv i σ H->H d=some (.frz o (.dK kvs)))
  (hs:∀ (i:Nat) k x σ H,kvs[i]?=some (k,x)->Pv i σ H->g (kV k) σ H λσ2 H2=>tt σ2 H2 λb H3=>if b=true then tb σ2 H3 (Pv (i + 1)) else Pv (i + 1) σ2 H3) (hd:∀ σ H,Pv kvs.length σ H->R σ H):Wy (Itk2 d kvs o) g tt tb R σ H:=by
 refine ⟨λi m σ H=>m=kvs.length - i/\i<=kvs.length/\Pv i σ H,⟨kvs.length,by simp,Az _,h0⟩,?_⟩;rintro i m σ H ⟨rfl,hi,p⟩;have q:=hl i σ H hi p;by_cases gj:i < kvs.length
 ·refine .inr ⟨⟨gj,q⟩,Pv (i + 1),λσ' H' p'=>⟨kvs.length - (i + 1),by lia,Y,gj,p'⟩,λx H' y=>?_⟩
  obtain ⟨e,k,v,y,ex⟩:=y;subst e ex;exact hs i k v σ _ y p
 ·have e:i=kvs.length:=by lia
  subst e;exact .inl ⟨⟨An _,q⟩,hd σ H p⟩
def nat1 (g:List Int):List Nat:=g.map Int.toNat
def Vf (ws:List Nat):nat1 (wI ws)=ws:=by
 unfold nat1 wI;rw [map_map];exact (map_congr_left λ_ _=>rfl).trans (map_id ws)
def Zes (hP:Pl M ws) (p:Nat):crP M ws p=((crN M ws p:Nat):Int):=by
 unfold crP crN;congr 1;refine countP_congr λq hq=>?_;obtain ⟨m,e⟩:=hP.has q hq;rw [decide_eq_true_eq,decide_eq_true_eq,Ja e,e];constructor
 ·rintro (z | z)
  ·exact .inl z
  ·cases z; exact .inr Y
 ·rintro (z | z)
  ·exact .inl z
  ·rw [z]; exact .inr Y
def Fam.told {M:Lq} (h:Fam M f n) (hs:sF f M.length<=1200) {gs:List (List Int)} (pm:gs.Perm (thrs M f)) {g:List Int} (hg:g∈gs):∃ d,VpP M f d/\g=wL M f d:=by
 have:=pm.mem_iff.mp hg;unfold thrs at this;obtain ⟨d,hd,rfl⟩:=mem_map.mp this;obtain ⟨_,a2,_⟩:=h.all_nd hs (ptsL f M.length) [] (λd hd=>absurd hd not_mem_nil) nodup_nil λc hc=>h.pts_mem.mp hc;exact ⟨d,a2 d hd,Y⟩
def Fam.summed {M:Lq} (h:Fam M f n) (hs:sF f M.length<=1200) {gs:List (List Int)} (pm:gs.Perm (thrs M f)) (hp:p < M.length):(gs.map λg=>((crN M (nat1 g) p:Nat):Int)).sum=f p:=by
 have e1:(gs.map λg=>crN M (nat1 g) p).sum=nN f p:=by
  rw [(pm.map _).sum_nat,<- h.cross hs hp];unfold thrs;rw [map_map];congr 1;apply map_congr_left;intro d hd;obtain ⟨_,a2,_⟩:=h.all_nd hs (ptsL f M.length) [] (λd hd=>absurd hd not_mem_nil) nodup_nil λc hc=>h.pts_mem.mp hc;obtain ⟨ws,e,_,_,cr,_⟩:=h.wL_thr hs (a2 d hd);show crN M (nat1 (wL M f d)) p=_;rw [e,Vf,cr]
 have e2:∀ l:List (List Int),(l.map λg=>((crN M (nat1 g) p:Nat):Int)).sum=(((l.map λg=>crN M (nat1 g) p).sum:Nat):Int):=λl=>by
  induction l with
  | nil=>rfl
  | cons a l ih=>rw [map_cons,sum_cons,ih,map_cons,sum_cons]; lia
 rw [e2,e1];exact (h.nf hp).1
def Zgi {M:Lq} (fm:Fam M f n) (ir:sF f M.length<=1200) (vd:VpP M f d):(wL M f d).length<=1200:=by
 have o:=fm.orb ir vd;have h1:=fm.few ir o.nodup (fm.orbV vd o.toOrb);unfold wL lstW;by_cases hx:∃ L,HT.IsLeast (Yd M (wdP M f d)) L
 ·rw [dif_pos hx]
  obtain ⟨b,hb,e⟩:=hx.choose_spec.1;have hw:(wdP M f d).length<=1200:=by unfold wdP; rw [Ab]; exact h1
  rcases e with e | e
  ·rw [e,W5,Y3 _ (by lia)]; exact hw
  ·rw [e,W5,Y3 _ (by rw [Z9]; lia),Z9]; exact hw
 ·rw [dif_neg hx]
  exact Az _
def Zgs:Sp:=λvs H Q _=>∃ (a b:Addr) (ta tb:List Addr) (gs:List (List Int)),vs=[.ref a,.ref b]/\H a=some (.lst (ta.map V.ref))/\H b=some (.lst (tb.map V.ref))/\RwI H ta gs/\RwI H tb gs/\gs.length<=1000/\(∀ g∈gs,g.length<=1200)/\Q (.bl true) H
def Ki:FnScope ["_law_found","_law_due","_law_k"] ["_law_found","_law_due"] (Zh Fj):=Am
def Kz (T:Txt w K mg t):FnOk P w K mg base (CXr P w) 3 t.cM t.cS ["_law_found","_law_due"] Zgs:=by
 refine T.bO.F.aR Ki (b:)
 ·obtain ⟨a,b,ta,tb,gs,rfl,a1,b1,⟨a2,a3⟩,⟨b2,b3⟩,hl,sk,k⟩:=h
  refine ⟨_,(Zd (Zy (PW.pt (Wj (Y7 (Y6 (Zk Wq (by rfl) T.aq PyProof.Rows.boot_isinstance (Za (pv 0) (Za (Ve (v:=.ty "list") (by rfl) T.ar PySem.Pv.boot_list rfl) Zb))))) (X7 (Zq Qy (Zk Zj (by rfl) T.ae PySem.boot_len (Za (pv 0) Zb)) (Zk Zj (by rfl) T.ae PySem.boot_len (Za (pv 1) Zb)) (Zt _))))) (Zg (Zn Yr)) Zv)
   (Zd (Ye PassesOwn.never rfl (Yu rfl T.aj (Za (Zk Zj (by rfl) T.ae PySem.boot_len (Za (pv 1) Zb)) Zb)) (Zp (i:=2) Ki.nd rfl (e:)) (Zg (Zy (Y7 (Y6 (pcT (Zhm T) hr T.dF (Za (Zu Zr (pv 0) (pv 2) (i:)) (Za (Zu Zr (pv 1) (pv 2) (i:)) Zb))))) (Zg (Zn Yr)) Zv)))
   (Zg (Zn Yr)))),?_⟩;have el:ta.length=tb.length:=by lia
  refine ⟨_,Y,_,"list",_,true,rfl,TyOf.lst a1,Vx,_,rfl,iteF ?_⟩;refine ⟨_,Y,a,_,Y,.inl (SqL.of a1),_,Y,b,_,Y,.inl (SqL.of b1),Y,_,Y,?_⟩;rw [show (!decide (V.int ((ta.map V.ref).length:Nat)=V.int ((tb.map V.ref).length:Nat)))=false by rw [Ab,Ab,el]; simp];refine iteF ?_;dsimp only [Y8];show tSeq (tFor _ _ _) _ _ _ _;refine Z0 (λσ H1=>H1=H) (λnx gw=>?_) ?_
  ·refine ⟨_,Y,b,_,Y,.inl (SqL.of b1),_,Y,by lia,by rw [Ab]; lia,?_⟩
   have eL:(((tb.map V.ref).length:Nat):Int).toNat=tb.length:=by simp
   rw [eL];refine Xn (n:=tb.length) (λi σ H1=>∃ v,σ=[some (.ref a),some (.ref b),v]/\H1=H) ⟨none,Y,Y⟩ ?_ ?_
   ·rintro i σ H1 gj ⟨v,rfl,rfl⟩
    have xu:i < ta.length:=by lia
    have hg:i < gs.length:=by lia
    have e1:atI (ta.map V.ref) (0 + (i:Int))=some (V.ref ta[i]):=by rw [Int.zero_add]; exact Z6 (Ac xu)
    have e2:atI (tb.map V.ref) (0 + (i:Int))=some (V.ref tb[i]):=by rw [Int.zero_add]; exact Z6 (Ac gj)
    have t1:=a3 i _ _ (Ac xu) (Ac hg);have t2:=b3 i _ _ (Ac gj) (Ac hg);have h3:=sk _ (getElem_mem hg);dsimp only [Zm];refine ⟨_,Y,_,Y,a,_,_,_,Y,Y,SqL.of a1,e1,_,Y,_,Y,b,_,_,_,Y,Y,SqL.of b1,e2,_,_,gs[i],Y,t1,t2,by lia,_,Y,iteF ?_⟩;exact ⟨_,Y,Y⟩
   ·rintro σ H1 ⟨v,rfl,rfl⟩
    exact gw _ _ Y
  ·rintro σ H1 rfl
   exact k
def X6:FnScope ["_law_script","_law_mates","_law_rows_here","_law_tent_here","_law_nums","_law_counts","_law_threads","_law_rest","_law_word","_law_crossed","_law_seam","_law_one"] ["_law_script"] (Zh Zkn):=Am
def ok_law (T:Txt w K mg t):FnOk P w K mg base (CXr P w) 10 t.eV t.eJ ["_law_script"] (sp_law K):=by
  refine T.eX.F.aR X6 (b:)
  · obtain ⟨a,sc,rfl,hS,hl,k⟩:=h
    have hu:=Q1 hr;refine ⟨_,(Zd (Wg (pcT (Zhj T) hr T.dD (Za (pv 0) Zb)) (Vc Y (Yq (Zp (i:=1) X6.nd Y (Or.inl Y)) (Yq (Zp (i:=2) X6.nd Y (Or.inl Y)) Ji))))
      (Zd (Zs (i:=3) X6.nd rfl (e:) (Zly T.eS (Zb4 T) (hr.mono (by decide)) rfl T.eQ T.b7.b .nil Xs (Za (Yl Yi (by rfl) T.ar PySem.Pv.boot_list (Za (pv 2) Zb)) Zb)))
      (Zd (Zs (i:=4) X6.nd rfl (e:) (pcT (Qr T) hr T.aF (Za (pcT (W3 T) hr T.aA (Za (pv 0) (Za Zf Zb))) (Za Zf Zb))))
      (Zd (Zs (i:=5) X6.nd rfl (e:) (pcT (Ky T) hr T.bM (Za (pv 2) (Za (pcT (Zdb T) hr T.cF (Za (pv 4) (Za (pv 1) (Za (pcT (Zda T) hr T.cG (Za (pv 0) (Za Zf (Za (pv 1) Zb)))) Zb)))) Zb))))
      (Zd (Zs (i:=6) X6.nd rfl (e:) (pcT (Fn T) hr T.cE (Za (pv 3) (Za (Yl Gf (by rfl) T.dL PySem.Pv.boot_dict (Za (pv 5) Zb)) Zb))))
      (Zd (Zy (Y7 (Y6 (pcT (Kz T) hr T.bO (Za (pv 6) (Za (Yk (ts:=["_law_word"]) (fv:=[]) (bkO trivial) rfl (Ya (pv 6)) (λ_ _ _ _=>(Zp (i:=0) (show List.Nodup (["_law_word"]:List Str) from by decide +kernel) rfl (e:) (Or.inr rfl))) (λ_ _ _ _=>Yb) (λ_ _ _=>rfl) (λ_ _ _ _ _ _=>Yg (Yl (Zaj K) (by rfl) T.ar PySem.Pv.boot_list (Za (pv 0) Zb)))) Zb))))) (Zg (Zn Yr)) Zv)
      (Zd (Zs (i:=7) X6.nd rfl (Or.inr rfl) (Yl Gf (by rfl) T.dL PySem.Pv.boot_dict (Za (pv 5) Zb)))
      (Zd (Ye PassesOwn.never rfl (Ya (pv 6)) (Zp (i:=8) X6.nd rfl (e:)) (Zd (Zy (PW.pt (Wj (Y7 (Y6 (pcT (Zfi T) hr T.cW (Za (pv 1) (Za (pv 8) Zb))))) (X7 (Zq Qy (pcT (Zjl T) hr T.eF (Za (pv 3) (Za (Yl Yi (by rfl) T.ar PySem.Pv.boot_list (Za (pv 8) Zb)) Zb))) Zf (Zt _))))) (Zg (Zn Yr)) Zv)
      (Zd (Zs (i:=9) X6.nd rfl (e:) (pcT (Zbz T) hr T.cZ (Za (pv 3) (Za (Yl Yi (by rfl) T.ar PySem.Pv.boot_list (Za (pv 8) Zb)) Zb))))
      (Zd (Zy (Y7 (Y6 (pcT (Zhn T) hr T.dG (Za (pv 9) (Za (pcT (Ky T) hr T.bM (Za (pv 2) (Za (pcT (Zfh T) hr T.cX (Za (pv 1) (Za (pv 8) Zb))) Zb))) Zb))))) (Zg (Zn Yr)) Zv)
      (Zg (Gv (Ye PassesOwn.never rfl (Gx (pv 5)) (Zp (i:=10) X6.nd rfl (e:)) (Zg (Zd2 hu (pv 7) (pv 10) (Zi Xk (Wb hu (pv 7) (pv 10) (i:)) (Wb hu (pv 9) (pv 10) (i:))) rfl)))))))))
      (Zd (Zy (Zq Qa (Zlx rfl (by rfl) T.fb PyProof.Rows.boot_max (Zlw (Yk (ts:=["_law_seam"]) (fv:=[("_law_rest",7)]) (bkO ⟨⟨rfl,rfl,Or.inl rfl⟩,trivial⟩) rfl (Gx (pv 7)) (λ_ _ _ _=>(Zp (i:=0) (show List.Nodup (["_law_seam","_law_rest"]:List Str) from by decide +kernel) rfl (e:) (Or.inr rfl))) (λ_ _ _ _=>Yb) (λ_ _ _=>rfl) (λ_ _ _ _ _ _=>Yg (Zk Zif (by rfl) T.fh PyProof.Rows.boot_abs (Za (Wb hu (pv 1) (pv 0) (i:)) Zb))))) Zf) Zf (Zt _)) (Zg (Zn Yr)) Zv)
      (Zd (Zy (Zq Xc (Zk Zj (by rfl) T.ae PySem.boot_len (Za (pv 6) Zb)) Zf (Zt _)) (Zg (Zn Yr)) Zv)
      (Zd (Zs (i:=11) X6.nd rfl (e:) (Zu Zr (pv 6) (Zi Zz (pcT (W3 T) hr T.aA (Za (pv 0) (Za Zf Zb))) (Zk Zj (by rfl) T.ae PySem.boot_len (Za (pv 6) Zb))) (i:)))
      (Zg (Zn (pcT (Kz T) hr T.bO (Za (pcT (Fn T) hr T.cE (Za (pv 3) (Za (pcT (Zbz T) hr T.cZ (Za (pv 3) (Za (Yl Yi (by rfl) T.ar PySem.Pv.boot_list (Za (pv 11) Zb)) Zb))) Zb))) (Za (Xj (Za (Yl Yi (by rfl) T.ar PySem.Pv.boot_list (Za (pv 11) Zb)) Zb)) Zb)))))))))))))))),?_⟩
    refine Zo λnxC fq=>?_;refine ⟨_,Y,a,sc,Y,hS,hl,λp m r M ns H1 u8 hp hm j8 td w8 kq md=>?_⟩;refine ⟨p,_,Y,SqT.of hp,Y,_,_,Y,_,_,Y,Y,?_⟩;refine fq _ _ ?_;obtain ⟨ts,g1,g2,g3⟩:=id j8;refine Zo λnxC fq=>?_;refine ⟨_,Y,r,_,Y,.inl (SqL.of g1),λl i8=>?_⟩;intro x dx hx zx g9;obtain ⟨rl2,s2⟩:=Zit (C:=t.aa) g1 g2 g3 i8 hx zx;refine ⟨x,l,dx,M,ns,Y,Zc,rl2,td,by rw [td.len]; lia,λH3 old ta=>⟨rfl,?_⟩⟩;have s3:Same H1 H3:=λb u e=>old b u (Zl ((Same.new i8) b u e) hx) (s2 b u ((Same.new i8) b u e));refine fq _ _ ?_;have wj:=j8.same s3;have hm3:=s3 _ _ hm;have ou:=u8.trans s3;have ie:M.length=ns.length:=td.len.symm;clear old rl2 s2 g1 g2 g3 j8 kq md hp hm s3 u8 hx zx g9 i8;obtain ⟨n,n1,n40,hn⟩:=td.n;have inv:InvM M:=td.inv
    try dsimp only [Zm]
    refine Zo λnxC fq=>?_;refine ⟨_,Y,a,sc,4,Y,ou.seq hS,hl,by decide,by decide,_,60,Y,by decide,λnm xs H4 s4 hnm h4 rn hxs=>?_⟩;refine fq _ _ ?_
    try dsimp only [Zm]
    have u9:=ou.trans s4;have hm4:=s4 _ _ hm3;refine Zo λnxC fq=>?_;refine ⟨_,Y,_,Y,_,Y,_,Y,_,Y,a,m,sc,3,M,Y,u9.seq hS,hl,by decide,by decide,hm4,w8,⟨_,hn⟩,inv,λwd ws H5 s5 zd h5 hw60 g8=>?_⟩;refine ⟨nm,m,wd,M,xs,ws,Y,s5 _ _ h4,by lia,hxs,s5 _ _ hm4,⟨_,hn⟩,w8,inv,h5,hw60,g8,λc f H6 s6 hc h6 pc le=>?_⟩;have oy:=s4.trans (s5.trans s6);have hm6:=oy _ _ hm3;have hr6:=wj.same oy;have ta6:=ta.same oy;have hS6:=ou.trans oy;clear oy s4 s5 s6 hm3 wj ta ou u9 hm4 h4 h5 zd g8 hc hnm hxs;refine ⟨r,c,ns,f,Y,hr6,by lia,(by rw [<- ie]; exact h6),λd0 g0 H8 s8 hd0 h8 hg0=>?_⟩;refine fq _ _ ?_
    try dsimp only [Zm]
    have nm0:Nm ns f g0:=Nm.of td pc hg0;clear hg0;have ki:sF f ns.length<=1200:=by
      have:=Zbg (n:=ns.length) (k:=27) (f:=f) λz hz=>le z (by lia)
      lia
    have ir:sF f M.length<=1200:=by rw [ie]; exact ki
    have le9:∀ p,p < M.length->f p<=900:=λz hz=>by have:=le z (by lia); lia
    have fm:Fam M f n:=⟨pc,inv,hn,le9⟩;have hd0H:H d0=none:=hS6.free hd0;have hm8:=s8 _ _ hm6;have hr8:=hr6.same s8;have ta8:=ta6.same s8;have hS8:=hS6.trans s8;clear s8 hm6 hr6 ta6 h6 hd0 hS6;refine Zo λnxC fq=>?_;refine ⟨_,Y,_,Y,d0,_,Y,.inl h8,λd1 l8=>?_⟩;have s9:Same H8 (upd H8 d1 (.dK (dI (h:) g0))):=Same.new l8;refine ⟨x,d1,M,ns,f,g0,Y,ta8.same s9,td,by lia,⟨_,Zc,.refl _⟩,nm0,pc,ki,le9,λl2 HA sA fa2=>?_⟩;refine fq _ _ ?_
    try dsimp only [Zm]
    obtain ⟨bs,gs,_,ij,re,pw2,qj,_,_,bl2⟩:=fa2;have ud:=s9.trans sA;have sk:gs.length<=1000:=by rw [<- re.1]; exact bl2
    have gall:∀ g∈gs,g.length<=1200:=λg hg=>by
      obtain ⟨d,vd,rfl⟩:=fm.told ir qj hg;exact Zgi fm ir vd
    have hmA:=ud _ _ hm8;have hrA:=hr8.same ud;have taA:=ta8.same ud;have hSA:=hS8.trans ud;have hdA:=ud _ _ h8;clear ud sA s9 hm8 hr8 ta8 hS8 h8 l8;refine Zo λnxC fq=>?_;refine ⟨_,Y,_,Y,l2,Y,⟨_,SqL.of ij⟩,λD hD=>?_⟩;refine Ym (xs:=bs.map V.ref) (λi σ HB=>∃ (cs:List Addr) (v:Option V),σ=[v]/\Same HA HB/\HB D=some (.lst (cs.map V.ref))/\RwI HB cs (gs.take i)/\∀ b∈cs,b≠D) ⟨[],none,Y,Same.new hD,Zc,⟨Y,λi a g e=>by simp at e⟩,λb hb=>absurd hb not_mem_nil⟩ ?_ ?_ ?_
    · rintro i σ HB _ ⟨cs,v,rfl,sB,_⟩
      exact SqL.of (sB _ _ ij)
    · rintro i y σ HB hy ⟨cs,v,rfl,sB,hB,qi,g9⟩
      obtain ⟨b,hb,rfl⟩:=map_some hy;have hi:i < gs.length:=by rw [<- re.1]; exact (Aa hb).1
      have hg:=Ac hi;have ol:=sB _ _ (re.2 i b _ hb hg);dsimp only [Zm,tYes];rw [if_pos rfl];have kz:=qi.1;rw [Ai] at kz;refine ⟨_,Y,b,_,Y,.inl (SqL.of ol),λl hl=>?_⟩;have s1:Same HB (upd HB l (.lst (gs[i].map V.int))):=Same.new hl;have hlD:l≠D:=λz=>by rw [z,hB] at hl; cases hl
      refine ⟨_,s1 _ _ hB,by rw [Ab,sizeLine_eq]; lia,cs ++ [l],_,rfl,Same.add (sB.trans s1) hD,by rw [Zc,Aj]; rfl,?_,λb' mm=>?_⟩
      · have:=(qi.same s1).snoc (b:=l) (c:=gs[i]) Zc
        rw [Aw,hg];refine ⟨this.1,λi' a g e1 e2=>?_⟩;have hr:=this.2 i' a g e1 e2;rw [Ze (λz=>?_)]
        · exact hr
        · rcases mem_append.mp (Au e1) with y | y
          · exact g9 a y z
          · exact hlD ((Af y).symm.trans z)
      · rcases mem_append.mp mm with y | y
        · exact g9 b' y
        · rw [Af y]; exact hlD
    rintro σ HB ⟨cs,v,rfl,sB,hB,qi,_⟩;rw [Ab,re.1,take_length] at qi;refine ⟨l2,D,bs,cs,gs,Y,sB _ _ ij,hB,re.same sB,qi,sk,gall,_,Y,iteF ?_⟩
    try dsimp only [Y8]
    refine fq _ _ ?_;have hmB:=sB _ _ hmA;have hrB:=hrA.same sB;have yq:=taA.same sB;have wy:=hSA.trans sB;have ut:=sB _ _ hdA;have hlB:=sB _ _ ij;have vf:=re.same sB;clear hmA hrA taA hSA hdA ij re hB qi sB hD;refine Zo λnxC fq=>?_;refine ⟨_,Y,d0,_,Y,.inl ut,λd2 jn=>?_⟩;refine (λ(G:∀ HC:Hp,Same HB HC->HC d2=some (.dK (dI (h:) g0))->nxC _ HC)=>G _ (Same.new jn) Zc) ?_;intro HC sC hC;refine fq _ _ ?_
    try dsimp only [Zm]
    have tz:d0≠d2:=λz=>by rw [z,jn] at ut; cases ut
    show tSeq (tFor _ _ _) _ _ _ _;refine Z0 (λσ HX=>∃ (gr:Int->Int) (v8 v9 ly qd:Option V),σ=[some (.ref a),some (.ref m),some (.ref r),some (.ref x),some (.ref nm),some (.ref d0),some (.ref l2),some (.ref d2),v8,v9,ly,qd]/\Same HB HX/\HX d2=some (.dK (dI (h:) gr))/\∀ y∈keys ns ns.length,gr y=0) (λnx gw=>?_) ?_
    · refine ⟨_,Y,l2,Y,⟨_,SqL.of (sC _ _ hlB)⟩,?_⟩
      refine W1 (xs:=bs.map V.ref) (λi σ HX=>∃ (gr:Int->Int) (v8 v9 ly qd:Option V),σ=[some (.ref a),some (.ref m),some (.ref r),some (.ref x),some (.ref nm),some (.ref d0),some (.ref l2),some (.ref d2),v8,v9,ly,qd]/\Same HB HX/\HX d2=some (.dK (dI (h:) gr))/\∀ y∈keys ns ns.length,gr y=g0 y - ((gs.take i).map λg=>crS ns (nat1 g) y).sum) ⟨g0,none,none,none,none,Y,sC,hC,λy _=>by rw [take_zero]; show g0 y=g0 y - 0; lia⟩ ?_ ?_ ?_
      · rintro i σ HX _ ⟨gr,v8,v9,ly,qd,rfl,sX,_⟩
        exact SqL.of (sX _ _ hlB)
      · rintro i y σ HX hy ⟨gr,v8,v9,ly,qd,rfl,sX,hX,sj⟩
        obtain ⟨b,hb,rfl⟩:=map_some hy;have hi:i < gs.length:=by rw [<- vf.1]; exact (Aa hb).1
        have hg:=Ac hi;have z9:=sX _ _ (vf.2 i b _ hb hg);obtain ⟨d,vd,ed⟩:=fm.told ir qj (getElem_mem hi);obtain ⟨ws,ew,hP,l9,cr,once⟩:=fm.wL_thr ir vd;rw [ed,ew] at z9;have eg:nat1 gs[i]=ws:=by rw [ed,ew,Vf]
        have hgr':∀ y∈keys ns ns.length,g0 y - ((gs.take (i + 1)).map λg=>crS ns (nat1 g) y).sum=gr y - crS ns ws y:=λy hy=>by
          rw [sj y hy,Aw,hg,Aj,sum_append];show _ - (_ + (crS ns (nat1 gs[i]) y + 0))=_;rw [eg];lia
        have rp:0 < ws.length:=by have:=hP.ne; cases ws with | nil=>exact absurd rfl this | cons _ _=>simp
        have ya:HX b=some (.lst (ws.map nV)):=by rw [U6]; exact z9
        dsimp only [Zm];refine Zo λnxC fq=>?_;refine ⟨_,Y,_,Y,m,b,M,ws,Y,sX _ _ hmB,ya,by lia,hP,_,Y,iteF ?_⟩;refine ⟨_,Y,_,Y,b,_,Y,.inl (SqL.of z9),λl hl=>?_⟩;refine ⟨x,l,M,ns,wI ws,Y,yq.same (sX.trans (Same.new hl)),ie,Zc,by rw [W5]; lia,Uq.mpr hP,λHY dd sY d1 d2' d3 d4=>?_⟩;rw [W5] at d2' d3;have edd:dd=ws.length:=by
          by_cases z:dd=ws.length
          · exact z
          · exfalso
            rw [mod_eq_of_lt (by lia)] at d3
            refine once dd d1 (by lia) ?_
            have:=congrArg nat1 d3
            rw [Vf] at this
            have e2:nat1 (rot (wI ws) dd)=rot ws dd:=by
              have:rot (wI ws) dd=wI (rot ws dd):=by unfold rot wI; rw [Aj,map_drop,map_take]
              rw [this,Vf]
            rwa [e2] at this
        rw [edd,W5,Nat.div_self rp];refine ⟨Y,_,Y,iteF ?_⟩
        try dsimp only [Y8]
        refine fq _ _ ?_;have sHY:=sX.trans ((Same.new hl).trans sY);have sXY:=(Same.new hl).trans sY;have hdX:HX d2=_:=hX;have hY2:=sXY _ _ hX;have hbY:=sXY _ _ z9;have hbY':=sXY _ _ ya;clear sY d3 d4 edd d1 d2';refine Zo λnxC fq=>?_;refine ⟨_,Y,_,Y,b,_,Y,.inl (SqL.of hbY),λl' jl=>?_⟩;refine ⟨x,l',M,ns,ws,Y,yq.same (sHY.trans (Same.new jl)),td,by lia,(by rw [Zc,U6]),by lia,hP,λcl ks HZ sZ ng wt kz=>?_⟩;refine fq _ _ ?_
        try dsimp only [Zm]
        have sYZ:=(Same.new jl).trans sZ;have sHZ:=sHY.trans sYZ;have hZ2:=sYZ _ _ hY2;have hbZ:=sYZ _ _ hbY';refine Zo λnxC fq=>?_;refine ⟨_,Y,_,Y,_,Y,_,Y,m,b,M,ws,Y,sHZ _ _ hmB,by lia,inv,hbZ,hP,λlt HT sT hlt0 gj=>?_⟩;refine ⟨r,lt,ns,crP M ws,Y,hrB.same (sHZ.trans sT),by lia,(by rw [<- ie]; exact gj),λdn gn HN sN hdn hN hgn=>?_⟩;have sZN:=sT.trans sN;have xz:=sZN _ _ kz;have g9:cl≠dn:=λz=>by rw [<- z,sT _ _ kz] at hdn; cases hdn
        refine ⟨cl,dn,ks,_,crS ns ws,gn,Y,xz,hN,g9,wt,λy hy=>?_,_,Y,iteF ?_⟩
        · obtain ⟨p,e1,e2⟩:=hgn y (wt.mem_iff.mp hy)
          rw [e2,Kb td e1]
        try dsimp only [Y8]
        refine fq _ _ ?_;have sHN:=sHZ.trans sZN;have hN2:=sZN _ _ hZ2;have hd0N:=sHN _ _ ut;refine ⟨_,Y,d0,_,Y,.inl ⟨hd0N,λo=>?_⟩⟩;refine Zci (λi σ H9=>∃ (gq:Int->Int) (ly:Option V),σ=[some (.ref a),some (.ref m),some (.ref r),some (.ref x),some (.ref nm),some (.ref d0),some (.ref l2),some (.ref d2),some (.ref b),some (.ref cl),ly,qd]/\Off d0 d2 HN H9/\H9 d0=some (.frz o (.dK (dI (h:) g0)))/\H9 d2=some (.dK (dI (h:) gq))/\∀ y∈keys ns ns.length,gq y=if y∈(h:).take i then gr y - crS ns ws y else gr y) ⟨gr,_,Y,Off.a Off.refl,Zc,by rw [Ze (Ne.symm tz)]; exact hN2,λy hy=>by simp⟩ ?_ ?_ ?_
        · rintro i' σ H9 _ ⟨gq,ly,rfl,vm,h0,_⟩
          exact h0
        · rintro i' k0 x0 σ H9 ip ⟨gq,ly,rfl,vm,h0,h2,hq⟩
          obtain ⟨y,hy,rfl⟩:∃ y,(keys ns ns.length)[i']?=some y/\k0=Sum.inl y:=by
            unfold dI at ip;rw [Ah] at ip
            cases e:(keys ns ns.length)[i']? with
            | none=>rw [e] at ip; cases ip
            | some z=>rw [e] at ip; cases ip; exact ⟨z,Y,Y⟩
          have o8:=Au hy;have hcl9:H9 cl=some (.dK (dI ks (crS ns ws))):=vm _ _ (λz=>by rw [z,(sHY.trans (Same.new jl)) _ _ ut] at ng; cases ng) (λz=>by rw [z,(Same.new jl) _ _ hY2] at ng; cases ng) xz;have g1:DGet H9 d2 (.int y) (some (V.int (gq y))):=.inl ⟨_,Sum.inl y,.inl h2,rfl,(Qu o8).symm⟩;have g2:DGet H9 cl (.int y) (some (V.int (crS ns ws y))):=.inl ⟨_,Sum.inl y,.inl hcl9,rfl,(Qu (wt.mem_iff.mpr o8)).symm⟩;dsimp only [Zm,kV];refine ⟨_,Y,_,Y,d2,_,Y,g1,_,Y,_,Y,cl,_,Y,g2,_,_,Y,Y,_,Y,_,Y,d2,_,Y,DPut.k (k:=Sum.inl y) h2 (by rw [J3]; have:=Qj ns ns.length; exact Zx (by lia)),?_⟩;refine ⟨λz=>if z=y then gq y - crS ns ws y else gq z,_,Y,vm.b,by rw [Ze tz]; exact h0,by rw [Zc]; exact congrArg (λq=>some (HO.dK q)) (Zcm o8),λz hz=>?_⟩;have hny:y ∉ (h:).take i':=λhm=>by
            obtain ⟨j,hj,e⟩:=mem_iff_getElem.mp hm
            rw [Ai] at hj
            rw [getElem_take] at e
            have e2:=(Aa hy).2
            have:=(getElem_inj (Vy ns ns.length)).mp (e.trans e2.symm)
            lia
          have et:∀ z,z∈(h:).take (i' + 1) ↔ z∈(h:).take i'\/z=y:=λz=>by rw [Aw,hy,mem_append]; simp
          show (if z=y then gq y - crS ns ws y else gq z)=_;by_cases c:z=y
          · rw [if_pos c,if_pos ((et z).mpr (.inr c)),hq y o8,if_neg hny,c]
          · rw [if_neg c,hq z hz]
            by_cases c2:z∈(keys ns ns.length).take i'
            · rw [if_pos c2,if_pos ((et z).mpr (.inl c2))]
            · rw [if_neg c2,if_neg (λy'=>by rcases (et z).mp y' with q | q; exact c2 q; exact c q)]
        · rintro σ H9 ⟨gq,ly,rfl,vm,h0,h2,hq⟩
          refine ⟨d0,o,_,h0,λo' u z=>?_,?_⟩
          · have z:H d0=some (.frz o' u):=z
            rw [hd0H] at z; cases z
          · refine ⟨gq,_,_,_,_,Y,λq u e=>?_,by rw [Ze (Ne.symm tz)]; exact h2,λy hy=>?_⟩
            · by_cases c:q=d0
              · rw [c,Zc]; rw [c,ut] at e; exact e
              · rw [Ze c]
                exact vm q u c (λz=>by rw [z,jn] at e; cases e) (sHN q u e)
            · rw [hgr' y hy,hq y hy,J3,take_length,if_pos hy]
      · rintro σ HX ⟨gr,v8,v9,ly,qd,rfl,sX,hX,sj⟩
        rw [Ab,vf.1,take_length] at sj;refine gw _ _ ⟨gr,_,_,_,_,Y,sX,hX,λy hy=>?_⟩;obtain ⟨p,hp,e⟩:=Yy.mp hy;rw [sj y hy,nm0 p y e];have:=fm.summed ir qj (p:=p) (by lia);have e2:(gs.map λg=>crS ns (nat1 g) y).sum=(gs.map λg=>((crN M (nat1 g) p:Nat):Int)).sum:=by
          congr 1
          apply map_congr_left
          intro g hg
          obtain ⟨d,vd,rfl⟩:=fm.told ir qj hg
          obtain ⟨ws,ew,hP,_⟩:=fm.wL_thr ir vd
          rw [ew,Vf,Kb td e,Zes hP]
        rw [e2,this];lia
    rintro σ HX ⟨gr,v8,v9,ly,qd,rfl,sX,hX,sj⟩
    try dsimp only [Zm]
    have hkp:0 < (h:).length:=by
      obtain ⟨y,hy⟩:∃ y,ns[0]?=some y:=⟨_,Ac (by lia)⟩;exact length_pos_of_mem (Yy.mpr ⟨0,by lia,hy⟩)
    have jv:=Qj ns ns.length;refine Zo λnxC fq=>?_;refine ⟨_,Y,d2,_,Y,.inl ⟨hX,λo=>?_⟩⟩;intro D hD;obtain ⟨hDd,hD3⟩:=Ql hD;refine Zfs (kvs:=dI (h:) gr) (λi σ H4=>∃ v,σ=[v,some (.ref d2)]/\(∀ b u,b≠d2->HX b=some u->H4 b=some u)/\H4 d2=some (.frz o (.dK (dI (h:) gr)))/\H4 D=some (.lst ((List.replicate i (0:Int)).map V.int))) ⟨none,Y,λb u hb e=>by rw [Ze (Zl e hD3),Ze hb]; exact e,by rw [Ze (Ne.symm hDd),Zc],Zc⟩ ?_ ?_ ?_
    · rintro i σ H4 _ ⟨v,rfl,_,e,_⟩
      exact e
    · rintro i k0 x0 σ H4 ip ⟨v,rfl,s4,e4,l4⟩
      obtain ⟨y,hy,rfl⟩:∃ y,(keys ns ns.length)[i]?=some y/\k0=Sum.inl y:=by
        unfold dI at ip;rw [Ah] at ip
        cases e:(keys ns ns.length)[i]? with
        | none=>rw [e] at ip; cases ip
        | some z=>rw [e] at ip; cases ip; exact ⟨z,Y,Y⟩
      have o8:=Au hy;have hi:i < (h:).length:=(Aa hy).1;dsimp only [Zm,tYes,kV];rw [if_pos rfl];refine ⟨_,Y,_,Y,d2,V.int (gr y),Y,.inl ⟨_,Sum.inl y,.inr ⟨o,e4⟩,Y,(Qu o8).symm⟩,_,Y,_,l4,by rw [Ab,length_replicate]; exact Zx (by lia),_,Y,λb u hb e=>?_,?_,?_⟩
      · rw [Ze (Zl e hD3)]; exact s4 b u hb e
      · rw [Ze (Ne.symm hDd)]; exact e4
      · rw [Zc,sj y o8,replicate_succ',Aj]; rfl
    rintro σ H4 ⟨v,rfl,s4,e4,l4⟩;rw [J3] at l4;refine ⟨d2,o,_,e4,(λo' u z=>by have z:H d2=some (.frz o' u):=z; rw [wy.free jn] at z; cases z),?_⟩
    have s5:Same HB (upd H4 d2 (.dK (dI (h:) gr))):=λb u e=>by
      have hb:b≠d2:=λz=>by rw [z,jn] at e; cases e
      rw [Ze hb]; exact s4 b u hb (sX b u e)
    have l5:(upd H4 d2 (.dK (dI (h:) gr))) D=some (.lst ((List.replicate (h:).length (0:Int)).map V.int)):=by rw [Ze hDd]; exact l4
    generalize upd H4 d2 (.dK (dI (keys ns ns.length) gr))=H5 at s5 l5 ⊢;refine ⟨D,_,Y,SqL.of l5,by rw [length_replicate]; exact hkp,λmx hm _=>?_⟩;obtain rfl:=eq_of_mem_replicate hm;refine ⟨_,_,Y,Y,false,Y,iteF ?_⟩
    try dsimp only [Y8]
    refine fq _ _ ?_
    try dsimp only [Zm]
    clear l5 e4 l4 s4 hD hDd hD3 hm hX sj hC sC sX;refine Zo λnxC fq=>?_;have hl5:=s5 _ _ hlB;refine ⟨_,Y,l2,_,Y,.inl (SqL.of hl5),Y,_,Y,?_⟩;refine ite2 (λ_=>k _) (λc=>?_)
    have hbl:0 < bs.length:=by
      cases bs with
      | nil=>exact absurd Y c
      | cons _ _=>simp
    dsimp only [Y8];refine fq _ _ ?_;clear c;refine Zo λnxC fq=>?_;have hS5:=(wy.trans s5).seq hS;have pk:∀ z:Int,∃ (i:Nat) (b:Addr),bs[i]?=some b/\atI (bs.map V.ref) (z % (((bs.map V.ref).length:Nat):Int))=some (V.ref b):=λz=>by
      rw [Ab]
      have k0:=Int.emod_nonneg z (show (bs.length:Int)≠0 by lia)
      have k1:=Int.emod_lt_of_pos z (show (0:Int) < bs.length by lia)
      obtain ⟨kk,si⟩:∃ kk:Nat,z % (bs.length:Int)=kk:=⟨_,(Int.toNat_of_nonneg k0).symm⟩
      have jv:kk < bs.length:=by lia
      rw [si]
      exact ⟨kk,_,Ac jv,Z6 (Ac jv)⟩
    obtain ⟨i,b,hb,e0⟩:=pk (cell sc 5);refine ⟨_,Y,_,Y,a,sc,5,Y,hS5,hl,by decide,by decide,_,Y,l2,_,Y,.inl (SqL.of hl5),_,_,Y,Y,(by rw [Ab]; lia),l2,_,_,_,rfl,rfl,SqL.of hl5,e0,?_⟩;refine fq _ _ ?_
    try dsimp only [Zm]
    clear pk e0;have hi:i < gs.length:=by rw [<- vf.1]; exact (Aa hb).1
    have hb5:=s5 _ _ (vf.2 i b _ hb (Ac hi));obtain ⟨d,vd,ed⟩:=fm.told ir qj (getElem_mem hi);obtain ⟨ws,ew,hP,l9,cr,_⟩:=fm.wL_thr ir vd;rw [ed] at hb5;have sb:=fm.onSb ir vd;have fm1:=fm.sub sb;have nm1:Nm ns (fI (jg M f d)) (crS ns ws):=λp y e=>by rw [Kb td e,Zes hP,cr,Zo9 fm ir vd]
    have sum1:sF (fI (jg M f d)) ns.length<=1200:=by
      refine Int.le_trans (Zak λz hz=>?_) ki;have h1:=Zam fm sb z;have h2:=(fm.nf (p:=z) (by lia)).1;unfold fI;lia
    refine ⟨_,Y,_,Y,_,Y,b,_,Y,.inl (SqL.of hb5),λl' jl=>?_⟩;refine ⟨x,l',M,ns,ws,Y,yq.same (s5.trans (Same.new jl)),td,by lia,(by rw [Zc,U6,ew]),by lia,hP,λcl ks HZ sZ ng wt kz=>?_⟩;have sBZ:=s5.trans ((Same.new jl).trans sZ);have hbZ:=((Same.new jl).trans sZ) _ _ hb5;refine ⟨x,cl,M,ns,fI (jg M f d),crS ns ws,Y,yq.same sBZ,td,by lia,⟨ks,kz,wt⟩,nm1,fm1.pc,sum1,fm1.le,λl3 HW sW fa3=>?_⟩;obtain ⟨bs3,gs3,_,hl3,rwW,_,pm3,_,_,_⟩:=fa3;rw [fm.tells ir vd] at pm3;obtain rfl:=perm_singleton.mp pm3;refine ⟨_,Y,b,_,Y,.inl (SqL.of (sW _ _ hbZ)),λl4 zr=>⟨by rw [sizeLine_eq]; exact (by decide:(1:Nat)<=16777216),λl5 hl5'=>?_⟩⟩;have s7:=Same.new (o:=.lst ((wL M f d).map V.int)) zr;have s8:=Same.new (o:=.lst [V.ref l4]) hl5';refine ⟨l3,l5,bs3,[l4],[wL M f d],Y,s8 _ _ (s7 _ _ hl3),Zc,(rwW.same s7).same s8,⟨Y,λi' a' g' e1 e2=>?_⟩,(by decide:(1:Nat)<=1000),λg hg=>?_,k _⟩
    · cases i' with
      | zero=>cases e1; cases e2; exact s8 _ _ Zc
      | succ i'=>cases e1
    · rw [Af hg]
      exact Zgi fm ir vd
end
end KT
open PySem PySem.W PyProof.Rows
namespace PySem.W.Fast
def tw9196448888106356935:=0
def tw3027182243193848852:=0
def tw6251490014018574893:=0
def tw17521238479561156515:=0
def tw2300035349317431449:=0
def tw12609700311477945483:=0
def tw2470665921240460320:=0
def tw4057974274053329980:=0
def tw13248744584737864519:=0
def tw18428906940210507410:=0
def tw13779642213890674793:=0
def tw5052887538318296285:=0
def tw15652502188078501822:=0
def tw14380509472081946468:=0
def tw6072371232988404891:=0
def tw9992893013495145685:=0
def tw17131117885155552433:=0
def tw17701476049185278026:=0
def tw12784776741081974655:=0
def tw11779290885899071130:=0
def tw3091732579798218665:=0
def tw14716784962536173985:=0
def tw18270288420135571160:=0
def tw10339204451592410876:=0
def tw1474371384616711239:=0
def tw7306233248298779482:=0
def tw7224652919882754255:=0
def tw3735174044213815763:=0
def tw12045360100358480793:=0
def tw1692819140110902668:=0
def tw15785215004550238317:=0
def tw11581402644454110105:=0
def tw10225758169222633030:=0
def tw15331477424393814783:=0
def tw11844198752549688194:=0
def tw15121213904773283403:=0
def tw8427195928819507088:=0
def tw17986422759165912853:=0
def tw13015416029785174000:=0
def tw749098596681579908:=0
def tw17856986898886266987:=0
def tw13706182407033231332:=0
def tw10909890628227516078:=0
def tw17906499841019004727:=0
def tw17186945034735701999:=0
def tw15957986442288419508:=0
def tw8183835721527192868:=0
def tw8199004925462276717:=0
def tw17778320991434665287:=0
def tw11974782565182332686:=0
def tw15517861789149558849:=0
def tw11408603148600029840:=0
def tw17296403301395083177:=0
def tw13785862358397771519:=0
def tw15066235796226423905:=0
def tw6282593701353165000:=0
def tw1708129025906076950:=0
def tw17294370042795697574:=0
def tw14791348267069718688:=0
def tw17856310877025618977:=0
def tw8336390445935195302:=0
def tw18195006256049878688:=0
def tw12784177197715125390:=0
def tw8862168439530484038:=0
def tw6253302268924320178:=0
def tw14019688171444504881:=0
def tw1084763120234309591:=0
def tw12602180008323695265:=0
def tw3480595931627775994:=0
def tw13196529437251498161:=0
def tw7563441202857365828:=0
def tw11874972030509603105:=0
def tw2140283365655233166:=0
def tw11197135545727638987:=0
def tw7680842534018781849:=0
def tw3277840407681301525:=0
def tw16888797200086878791:=0
def tw14252357344857822712:=0
def tw16782367653973931118:=0
def tw423220409846520017:=0
def tw8459092071180642987:=0
def tw12517760606074220940:=0
def tw9274692374303802073:=0
def tw5559990093589810319:=0
def tw2455414426581835936:=0
def tw14073852431065028219:=0
def tw3673434534005052567:=0
def tw5022375964519566841:=0
def tw8209206732122785339:=0
def tw433544765501384959:=0
def tw13467953635856153024:=0
def tw12650893164388523015:=0
def tw14544632869053676907:=0
def tw128977237487628559:=0
def tw8173799561906178035:=0
def tw16369411003819731997:=0
def tw3639921052462944638:=0
def tw17525564307469399456:=0
def tw14184208647263608208:=0
def tw6199073678793920714:=0
def tw9485613142863087227:=0
def tw5998291533994672758:=0
def tw8227671172662469869:=0
def tw13228425608226375179:=0
def tw4666639654735556400:=0
def tw16709063121943900586:=0
def tw9916692385982827687:=0
def tw2047075257120718672:=0
def tw9691071719058810198:=0
def tw14148497492443259625:=0
def tw15327815146848500261:=0
def tw12136475322512118827:=0
def tw14714696691641736842:=0
def tw14938272369166599957:=0
def tw3024258911344582372:=0
def tw5816330641149804286:=0
def tw13422833306116555603:=0
def tw7955523363138710441:=0
def tw9809771916659184277:=0
def tw15390364432123173673:=0
def tw2915725119799742739:=0
def tw14603664742691361652:=0
def tw18444677032447361071:=0
def tw1640974631670316423:=0
def tw4291370169132397672:=0
def tw8120009258504788777:=0
def tw13932934787772166921:=0
def tw2785133536882578218:=0
def tw9865825018925499976:=0
def tw14382873551187978641:=0
def tw921276817871487920:=0
def tw6079270866158035520:=0
def tw16441153394489103203:=0
def tw9598029387955535356:=0
def tw141249096365611306:=0
def tw12075225146726840531:=0
def tw14478550663289030596:=0
def tw4923406639381971618:=0
def tw16638810654238655628:=0
def tw11802176917178294827:=0
def tw13346290787919441880:=0
def tw14664500917960150913:=0
def tw3322007549547410085:=0
def tw14515350564431416800:=0
def tw16741723493827999046:=0
def tw7123862907780845749:=0
def tw9960866365731028879:=0
def tw8526336045197671726:=0
def tw8342962610215049750:=0
def tw6474212148067244111:=0
def tw18280593256862025384:=0
def tw13678382248086533380:=0
def tw1278611043278406120:=0
def tw12674163627392748809:=0
def tw14970279834885481471:=0
def tw5696566104070378847:=0
def tw13403707943622626881:=0
def tw14498966602468942115:=0
def tw5108204074463466127:=0
def tw5696342283311294218:=0
def tw13920778725275188605:=0
def tw14194208698375538043:=0
def tw12584191570761741069:=0
def tw13499094235948496457:=0
def tw13760895836418735625:=0
def tw1494034163521550504:=0
def tw10448223955186693881:=0
def tw10331008010954343762:=0
def tw17826970270154519524:=0
def tw17753206903812589477:=0
def tw3063488317425830975:=0
def tw5088814365878858905:=0
def tw6227452179852542425:=0
def tw4729832585378245574:=0
def tw15148493904020117197:=0
def tw18425567925351706709:=0
def tw3005789521331690371:=0
def tw17995079674411568456:=0
def tw5724022873820833544:=0
def tw3680397320576259410:=0
def tw9792001012352956227:=0
def tw13642994876174366662:=0
def tw15925915122172954409:=0
def tw15480620416527136752:=0
def tw10953265485524694760:=0
def tw12735227746451662933:=0
def tw939385450793787768:=0
def tw17358423275528965858:=0
def tw1262275033655329606:=0
def tw12242541834173555977:=0
def tw16056788481119515466:=0
def tw12654462124571366457:=0
def tw17805816851475792110:=0
def tw16126666903829768526:=0
def tw8782749285520830355:=0
def tw10424927939337240527:=0
def tw11795188327717117531:=0
def tw8704776100559052563:=0
def tw7301917719777988329:=0
def tw16590590590434804457:=0
def tw17668468792701457335:=0
def tw16020231783556031460:=0
def tw3813713949010214650:=0
def tw18332409275678922577:=0
def tw13847690396353680468:=0
def tw4060248204682261799:=0
def tw1030073345100661397:=0
def tw2851359724230778374:=0
def tw5776420679179804618:=0
def tw15726765489408572337:=0
def tw15095578157259548467:=0
def tw13714185270654060319:=0
def tw12999427366797966448:=0
def tw102246468452546535:=0
def tw11894124900315676148:=0
def tw4690641288716982236:=0
def tw2806513386961929076:=0
def tw14931051483507840350:=0
def tw12203326815517736837:=0
def tw13385722527103999883:=0
def tw3578472507601176790:=0
def tw11223741519816019288:=0
def tw11043852995630161743:=0
def tw15089854271652669087:=0
def tw1295726526449173013:=0
def tw14653521128224126224:=0
def tw303518330701031901:=0
def tw13780731969580090753:=0
def tw11705550628130624311:=0
def tw12524552829199773194:=0
def tw5444306749188194222:=0
def tw11317664373048154591:=0
def tw15312224080961705304:=0
def tw3313437538143349568:=0
def tw1615302271406362921:=0
def tw13349576489777298802:=0
def tw12220324311694724843:=0
def tw6890908622444897003:=0
def tw1546188290344673380:=0
def tw5013795978271287650:=0
def tw3435067628287599195:=0
def tw15969999239997119541:=0
def tw6057655521035605420:=0
def tw16778133988139822785:=0
def tw6434482431055909512:=0
def tw1975755594349055808:=0
def tw14946443785613047852:=0
def tw7763915099054506884:=0
def tw461751969336230165:=0
def tw1473961944636132383:=0
def tw9045070141109313372:=0
def tw11318609969550169978:=0
def tw14282430183676643798:=0
def tw1256948829240472729:=0
def tw4711340817448340642:=0
def tw2032828606550636159:=0
def tw11968366376771939326:=0
def tw1836726329048053096:=0
def tw14635957007889339826:=0
def tw13476356337355548519:=0
def tw16312944380446807649:=0
def tw11854914696514302014:=0
def tw5609798880172633804:=0
def tw8317749337508549773:=0
def tw1330934791936591919:=0
def tw12324723632207680079:=0
def tw16793636372536584516:=0
def tw11352656175283654230:=0
def tw2612837769743232908:=0
def tw8438660504763612129:=0
def tw7690421096996707238:=0
def tw4262913021120162962:=0
def tw3406505477652989559:=0
def tw2915965358950376297:=0
def tw17786902082543988090:=0
def tw16185568853247649404:=0
def tw14498970979685467677:=0
def tw11559331881894623672:=0
def tw5465560774579696279:=0
def tw9313593287812064224:=0
def tw3607450346938250057:=0
def tw2106445131516270989:=0
def tw15303368279562255454:=0
def tw117263867711305993:=0
def tw8068410089494316372:=0
def tw6095439429190072792:=0
def tw16740138255504373664:=0
def tw15853579745442139491:=0
def tw14251560696589871824:=0
def tw14589064703611931875:=0
def tw16477636726091845140:=0
def tw7748941431511242270:=0
def tw3236648249806645236:=0
def tw8309735952158170238:=0
def tw17018044540840895463:=0
def tw16357858493807531829:=0
def tw6750562549242290351:=0
def tw6532852045315232523:=0
def tw6387052612458799982:=0
def tw16743438792696752131:=0
end PySem.W.Fast
set_option maxRecDepth 100000 in
set_option maxHeartbeats 0 in
theorem PySem.Challenge.cw_tentloops_k34_whole_numbers_tell_threads_holds : PySem.Challenge.rw_tentloops_k34_whole_numbers_tell_threads.Holds := by
 w_on; o_law; k_head; (case hw=>w_witness2)
 k_fill
 refine L2.walk_r (l:=PySem.Challenge.rw_tentloops_k34_whole_numbers_tell_threads) (k:=10) (spl:=KT.sp_law) rfl rfl ⟨rfl,by decide,by decide⟩ (fun w h Y=>PySem.W.kIn_of Y) (fun K H a ns hl hS=>KT.sp_law_start hl hS) ?F
 case F =>
  intro w mg fa h KX G hmg
  have T:∃ t,KT.Txt w (L2.KOf KX) mg t:=by
   dsimp only [L2.KOf]
   refine' ⟨⟨_,_,_,_,_,_,_,_,_,_,_,_,_,_,_,_,_,_,_,_,_,_,_,_,_,_,_,_,_,_,_,_,_,_,_,_,_,_,_,_,_,_,_,_,_,_,_,_,_,_,_,_,_,_,_,_,_,_,_,_,_,_,_,_,_,_,_,_,_,_,_,_,_,_,_,_,_,_,_,_,_,_,_,_,_,_,_,_,_,_,_,_,_,_,_,_,_,_,_,_,_,_,_,_,_,_⟩,⟨mg_of KX G ?_,⟨?_,?_,?_,?_⟩,?_,?_,?_,?_,KT.FT.of KX G KT.ba1 ?_ ?_ ?_ ?_,KT.FT.of KX G KT.ba1 ?_ ?_ ?_ ?_,KT.FT.of KX G KT.ba1 ?_ ?_ ?_ ?_,KT.FT.of KX G KT.ba1 ?_ ?_ ?_ ?_,KT.FT.of KX G KT.ba2 ?_ ?_ ?_ ?_,KT.FM.of KT.ba2 ?_ ?_ ?_ ?_ ?_,KT.FM.of KT.ba1 ?_ ?_ ?_ ?_ ?_,KT.FM.of KT.ba1 ?_ ?_ ?_ ?_ ?_,KT.FM.of KT.ba1 ?_ ?_ ?_ ?_ ?_,KT.FM.of KT.ba1 ?_ ?_ ?_ ?_ ?_,KT.FM.of KT.ba2 ?_ ?_ ?_ ?_ ?_,KT.FM.of KT.ba2 ?_ ?_ ?_ ?_ ?_,KT.FM.of KT.ba2 ?_ ?_ ?_ ?_ ?_,KT.FM.of KT.ba2 ?_ ?_ ?_ ?_ ?_,KT.FM.of KT.ba2 ?_ ?_ ?_ ?_ ?_,KT.FM.of KT.ba2 ?_ ?_ ?_ ?_ ?_,KT.FT.of KX G KT.ba2 ?_ ?_ ?_ ?_,KT.FT.of KX G KT.ba3 ?_ ?_ ?_ ?_,KT.FT.of KX G KT.ba2 ?_ ?_ ?_ ?_,KT.FT.of KX G KT.ba2 ?_ ?_ ?_ ?_,KT.FT.of KX G KT.ba2 ?_ ?_ ?_ ?_,KT.FT.of KX G KT.ba2 ?_ ?_ ?_ ?_,KT.FT.of KX G KT.ba1 ?_ ?_ ?_ ?_,KT.FT.of KX G KT.ba2 ?_ ?_ ?_ ?_,KT.FT.of KX G KT.ba2 ?_ ?_ ?_ ?_,KT.FT.of KX G KT.ba2 ?_ ?_ ?_ ?_,KT.FT.of KX G KT.ba2 ?_ ?_ ?_ ?_,KT.FT.of KX G KT.ba2 ?_ ?_ ?_ ?_,KT.FT.of KX G KT.ba2 ?_ ?_ ?_ ?_,KT.FT.of KX G KT.ba3 ?_ ?_ ?_ ?_,KT.FT.of KX G KT.ba2 ?_ ?_ ?_ ?_,KT.FT.of KX G KT.ba3 ?_ ?_ ?_ ?_,KT.FT.of KX G KT.ba2 ?_ ?_ ?_ ?_,KT.FT.of KX G KT.ba2 ?_ ?_ ?_ ?_,KT.FT.of KX G KT.ba2 ?_ ?_ ?_ ?_,KT.FT.of KX G KT.ba3 ?_ ?_ ?_ ?_,KT.FT.of KX G KT.ba3 ?_ ?_ ?_ ?_,KT.FT.of KX G KT.ba1 ?_ ?_ ?_ ?_,KT.FT.of KX G KT.ba2 ?_ ?_ ?_ ?_,KT.FT.of KX G KT.ba2 ?_ ?_ ?_ ?_,KT.FT.of KX G KT.ba3 ?_ ?_ ?_ ?_,KT.FT.of KX G KT.ba2 ?_ ?_ ?_ ?_,KT.FT.of KX G KT.ba3 ?_ ?_ ?_ ?_,KT.FT.of KX G KT.ba1 ?_ ?_ ?_ ?_,KT.FT.of KX G KT.ba2 ?_ ?_ ?_ ?_,KT.FT.of KX G KT.ba2 ?_ ?_ ?_ ?_,KT.FT.of KX G KT.ba2 ?_ ?_ ?_ ?_,KT.FT.of KX G KT.ba2 ?_ ?_ ?_ ?_,KT.FT.of KX G KT.ba2 ?_ ?_ ?_ ?_,KT.FT.of KX G KT.ba1 ?_ ?_ ?_ ?_,⟨?_,?_,?_,?_⟩,mg_of KX G ?_,mg_of KX G ?_,fun s u=>.of_eq rfl,mg_none_of KX G ?_,mg_none_of KX G ?_,mg_none_of KX G ?_,mg_none_of KX G ?_,mg_none_of KX G ?_,mg_none_of KX G ?_,mg_none_of KX G ?_,mg_none_of KX G ?_,mg_none_of KX G ?_,mg_none_of KX G ?_,mg_none_of KX G ?_,mg_none_of KX G ?_,mg_none_of KX G ?_,mg_none_of KX G ?_,mg_none_of KX G ?_,mg_none_of KX G ?_,mg_none_of KX G ?_,mg_none_of KX G ?_,mg_none_of KX G ?_,mg_of KX G ?_,⟨?_⟩,mg_of KX G ?_,⟨?_⟩,mg_of KX G ?_,⟨?_⟩⟩⟩
   any_goals first | k_is | k_exc | rfl | kernel_rfl
  obtain ⟨t,T⟩:=T
  have e0:=hmg.symm.trans T.eX.g
  cases e0
  refine' ⟨_,?b,fun base kb nb=>KT.ok_law T⟩
  exact T.bl
#print axioms PySem.Challenge.cw_tentloops_k34_whole_numbers_tell_threads_holds
