import PyProof.Rows.All
import Wide.All
import OpenK.AllK
import Wide.FinOn
import Lean
import PyProof.EqAt
import PyProof.EqKinds
import PyProof.TupleCall
import PySem.Challenge.RW_tentloops_k67_orders_refused
set_option Elab.async false
set_option linter.all false
set_option autoImplicit true
set_option relaxedAutoImplicit true
set_option maxRecDepth 100000
universe u v
theorem Z{α:Sort v}{a:α}:a=a:=rfl
def Ao(n:Nat):n<=n:=Nat.le_refl n
def Ap{h:PySem.Heap}{a:PySem.Addr}{o:PySem.Obj}:h.get? a=some o->a<h.objs.size:=PySem.Heap.lt_size
def Aq(h:PySem.Heap){o:PySem.Obj}:o.isFreed=false->(h.push o).get? h.objs.size=some o:=PySem.Heap.get?_push_size h
def Ar{α:Type u}{a:List α}:a.toArray.size=a.length:=List.size_toArray
def As{α:Type u}{b:α}{l:List α}{a:α}:a∈b::l->a=b\/a∈l:=List.mem_cons.mp
def At{a b:Nat}:a<b->a≠b:=Nat.ne_of_lt
def Au{α:Type u}{a:α}:[a].length=1:=List.length_singleton
def Av{α:Type u}{l:List α}{i:Nat}{a:α}:l[i]?=some a->a∈l:=List.mem_of_getElem?
def Aw{α:Type u}{l k:List α}{i:Nat}:i<l.length->(l++k)[i]?=l[i]?:=List.getElem?_append_left
def Ax{α:Type u}{l:List α}{i:Nat}:l.take (i+1)=l.take i++l[i]?.toList:=List.take_add_one
def Ay{α:Type u}{a b:α}:some a=some b->a=b:=Option.some.inj
def Az{α:Type u}{l:List α}{i:Nat}:l.length<=i->l[i]?=none:=List.getElem?_eq_none
def A0(n:Nat):0<=n:=Nat.zero_le n
def Aa{α:Type u}{i:Nat}{a:α}{l:List α}:l[i]?=some a->∃ h:i<l.length,l[i]=a:=List.getElem?_eq_some_iff.mp
def Ac{α:Type u}{β:Type v}{as:List α}(f:α->β):(as.map f).length=as.length:=List.length_map f
def Ad{α:Type u}{l:List α}{i:Nat}(h:i<l.length):l[i]?=some l[i]:=List.getElem?_eq_getElem h
def Ae{α:Type u}{l:List α}{i:Nat}{a:α}:l.getD i a=l[i]?.getD a:=List.getD_eq_getElem?_getD
def Af{α:Type u}{as bs:List α}:(as++bs).length=as.length+bs.length:=List.length_append
def Ag{α:Type u}{a b:α}:a∈[b]->a=b:=List.mem_singleton.mp
def Ah{n m k:Nat}:n<m->m<=k->n<k:=Nat.lt_of_lt_of_le
def Ai{α:Type u}{β:Type v}{f:α->β}{l:List α}{i:Nat}:(l.map f)[i]?=(l[i]?).map f:=List.getElem?_map
def Aj{α:Type u}{i:Nat}{l:List α}:(l.take i).length=min i l.length:=List.length_take
def Ak{α:Type u}{β:Type v}{f:α->β}{l₁ l₂:List α}:(l₁++l₂).map f=l₁.map f++l₂.map f:=List.map_append
def Al{h:PySem.Heap}{a:PySem.Addr}{o':PySem.Obj}(o:PySem.Obj)(e:h.get? a=some o'):(h.push o).get? a=some o':=PySem.Heap.get?_push_of_some o e
def Am{α β:Type}{M:PySem.Model}{A:PySem.Around}{E:PySem.Value->PySem.Shared->Prop}{s:PySem.Shared}{m:PySem.Sem α}{f:α->PySem.Sem β}{Q:β->PySem.Shared->Prop}(h:PySem.wpAny M A m (λa s'=>PySem.wpAny M A (f a) Q E s') E s):PySem.wpAny M A (m>>=f) Q E s:=PySem.wpAny_bind h
set_option maxHeartbeats 4000000
namespace L2
open PySem PySem.Spec PyProof.Rows
abbrev Key:=Sum Int Str
def V2:Key->Value->Bool
 | .inl k,v=>Value.isInt k v
 | .inr x,v=>Value.isStrOf x v
def keyH (w:World):Key->Int
 | .inl k=>hashInt k
 | .inr x=>hashStr w x
theorem Xh:∀ {k:Key} {v:Value},V2 k v=true->(∃ i t,k=Sum.inl i/\v=Value.int i t)\/(∃ x t,k=Sum.inr x/\v=Value.str x t)
 | .inl i,v,h=>by
  obtain ⟨t,e⟩:=Value.isInt_shape (k:=i) (v:=v) h;exact .inl ⟨i,t,Z,e⟩
 | .inr x,v,h=>by
  obtain ⟨t,e⟩:=Value.isStrOf_shape (x:=x) (v:=v) h;exact .inr ⟨x,t,Z,e⟩
def Zif (i:Int) (t:Tok):V2 (.inl i) (.int i t)=true:=by simp [V2,Value.isInt]
def Yq (x:Str) (t:Tok):V2 (.inr x) (.str x t)=true:=by simp [V2,Value.isStrOf]
def Znw (a b:Int):decide ((Sum.inl a:Key)=Sum.inl b)=(a == b):=by
 by_cases e:a=b
 ·subst e; simp
 ·have h:¬ (Sum.inl a:Key)=Sum.inl b:=λq=>e (Sum.inl.inj q)
  rw [decide_eq_false h];exact (beq_eq_false_iff_ne.mpr e).symm
def Znt (a b:Str):decide ((Sum.inr a:Key)=Sum.inr b)=decide (a=b):=by
 by_cases e:a=b
 ·subst e; simp
 ·have h:¬ (Sum.inr a:Key)=Sum.inr b:=λq=>e (Sum.inr.inj q)
  rw [decide_eq_false h,decide_eq_false e]
def Znv (a:Int) (b:Str):decide ((Sum.inl a:Key)=Sum.inr b)=false:=decide_eq_false (λq=>nomatch q)
def Znu (a:Str) (b:Int):decide ((Sum.inr a:Key)=Sum.inl b)=false:=decide_eq_false (λq=>nomatch q)
def Yj (prog:Program) (w:World):PySem.KeyKind prog w Key where
 is:=V2
 hash:=keyH w
 inj:=λv a b ha hb=>by
  rcases Xh ha with ⟨i,t,rfl,rfl⟩ | ⟨x,t,rfl,rfl⟩
  ·rcases Xh hb with ⟨j,u,rfl,e⟩ | ⟨y,u,rfl,e⟩
   ·injection e with e1 _; rw [e1]
   ·exact nomatch e
  ·rcases Xh hb with ⟨j,u,rfl,e⟩ | ⟨y,u,rfl,e⟩
   ·exact nomatch e
   ·injection e with e1 _; rw [e1]
 byValue:=λk v h=>by
  rcases Xh h with ⟨i,t,rfl,rfl⟩ | ⟨x,t,rfl,rfl⟩ <;> rfl
 pyHash:=λhv h=>by
  rcases Xh hv with ⟨i,t,rfl,rfl⟩ | ⟨x,t,rfl,rfl⟩
  ·exact wpAny_pyHash_int h
  ·exact wpAny_pyHash_str h
 eqBool:=λhu hv h=>by
  rcases Xh hu with ⟨i,t,rfl,rfl⟩ | ⟨x,t,rfl,rfl⟩
  ·rcases Xh hv with ⟨j,u,rfl,rfl⟩ | ⟨y,u,rfl,rfl⟩
   ·rw [Znw] at h; exact wpAny_eqBool_int h
   ·rw [Znv] at h; exact SeqAt.EqAt.int_str i t y u _ _ _ _ h
  ·rcases Xh hv with ⟨j,u,rfl,rfl⟩ | ⟨y,u,rfl,rfl⟩
   ·rw [Znu] at h; exact SeqAt.EqAt.str_int x t j u _ _ _ _ h
   ·rw [Znt] at h; exact wpAny_eqBool_str h
 «strs»:=λk x t v h=>by
  rcases Xh h with ⟨i,u,rfl,e⟩ | ⟨y,u,rfl,e⟩
  ·exact nomatch e
  ·injection e with e1 _
   subst e1;cases v <;> rfl
def Zep (prog:Program) (w:World) (i:Int) (t:Tok):(Yj prog w).is (.inl i) (.int i t)=true:=Zif i t
def Zeo (prog:Program) (w:World) (x:Str) (t:Tok):(Yj prog w).is (.inr x) (.str x t)=true:=Yq x t
inductive V where
 | non | bl (b:Bool) | int (i:Int) | str (x:Str) | byt (b:Array UInt8) | flt (b:UInt64) | ref (a:Addr) | ty (n:String)
 deriving DecidableEq
set_option genInjectivity false
set_option genSizeOf false
def RelV:V->Value->Prop
 | .non,u=>u=Value.none
 | .bl b,u=>u=Value.bool b
 | .int i,u=>∃ t,u=Value.int i t
 | .str x,u=>∃ t,u=Value.str x t
 | .byt b,u=>∃ t,u=Value.bytes b t
 | .flt b,u=>∃ t,u=Value.float b t
 | .ref a,u=>u=Value.ref a
 | .ty n,u=>u=Value.type n
abbrev Vals:List V->List Value->Prop:=Paired RelV
def Vals.length {xs:List V} {us:List Value} (r:Vals xs us):xs.length=us.length:=Paired.length r
theorem Vals.get:∀ {xs:List V} {us:List Value} {i:Nat} {x:V},Vals xs us->xs[i]?=some x->∃ u,us[i]?=some u/\RelV x u
 | _,_,_,_,.nil,e=>by simp at e
 | _,_,0,_,.cons r _,e=>by simp at e; subst e; exact ⟨_,Z,r⟩
 | _,_,i + 1,x,.cons _ t,e=>by
  obtain ⟨u,h1,h2⟩:=Vals.get (i:=i) (x:=x) t (by simpa using e);exact ⟨u,by simpa using h1,h2⟩
theorem Vals.set (r:RelV x u):∀ {xs:List V} {us:List Value} (i:Nat),Vals xs us->Vals (xs.set i x) (us.set i u)
 | _,_,_,.nil=>.nil
 | _,_,0,.cons _ t=>.cons r t
 | _,_,i + 1,.cons q t=>.cons q (Vals.set r i t)
theorem Vals.append:∀ {xs ys:List V} {us ws:List Value},Vals xs us->Vals ys ws->Vals (xs ++ ys) (us ++ ws)
 | _,_,_,_,.nil,s=>s
 | _,_,_,_,.cons r t,s=>.cons r (Vals.append t s)
theorem Vals.take:∀ {xs:List V} {us:List Value} (n:Nat),Vals xs us->Vals (xs.take n) (us.take n)
 | _,_,0,_=>.nil
 | _,_,_ + 1,.nil=>.nil
 | _,_,n + 1,.cons r t=>.cons r (Vals.take n t)
theorem Vals.drop:∀ {xs:List V} {us:List Value} (n:Nat),Vals xs us->Vals (xs.drop n) (us.drop n)
 | _,_,0,r=>r
 | _,_,_ + 1,.nil=>.nil
 | _,_,n + 1,.cons _ t=>Vals.drop n t
def RelO:Option V->Option Value->Prop
 | some v,some u=>RelV v u
 | none,none=>True
 | _,_=>False
def KV {κ:Type}:List (κ × V)->List (κ × Value)->Prop:=Paired λ(p:κ × V) (q:κ × Value)=>p.1=q.1/\RelV p.2 q.2
def kV:Key->V
 | .inl i=>.int i
 | .inr x=>.str x
inductive HO where
 /-- a list -/
 | lst (xs:List V)
 /-- a tuple (never changes) -/
 | tup (xs:List V)
 /-- a dict whose keys are ints and texts; one whose keys are tuples of ints and texts (the empty one is both) -/
 | dK (kvs:List (Key × V)) | dT (kvs:List (List Key × V))
 /-- a set of ints: its members,its size -/
 | set (S:Int->Bool) (n:Nat)
 /-- an instance of the class at C,its dict at dx,its attributes -/
 | ins (C dx:Addr) (fs:List (Str × V))
 /-- the dict of the instance at x -/
 | own (x:Addr)
 /-- the dict of an exception -/
 | xd (fs:List (Str × V))
 /-- a bound method,f of x -/
 | met (f x:Addr)
 /-- a range object lo,lo + 1,.. below hi -/
 | rng (lo hi:Int)
 /-- a thing that is known to the object (the script; a dict while a loop walks it): read,never written while it is so -/
 | frz (o:Obj) (u:HO)
 /-- a code object's table -/
 | tbl (ps:Array Value)
 /-- any other thing,by what is true of its one object (a def of one's own: SetO a S n:=HO.ext λh=>..) -/
 | ext (φ:Heap->Prop)
abbrev Hp:=Addr->Option HO
def upd (H:Hp) (a:Addr) (o:HO):Hp:=λb=>if b=a then some o else H b
def Zc:upd H a o a=some o:=by unfold upd; rw [if_pos rfl]
def Zh (h:b≠a):upd H a o b=H b:=by unfold upd; rw [if_neg h]
def Zow {H:Hp} (h:H a=some o) (h':H b=some u) (d:o≠u):a≠b:=by
 intro e; subst e; rw [h] at h'; exact d (Ay h')
def Zr {H:Hp} (h:H a=some o) (h':H b=none):a≠b:=by
 intro e; subst e; rw [h] at h'; cases h'
section
variable (P:Program) (w:World)
def Yi (H:Hp) (h:Heap) (a:Addr):HO->Prop
 | .lst xs=>xs.length<=sizeLine/\∃ (its:List Value) (n:Nat),Vals xs its/\h.get? a=some { cls:=.type "list",data:=.seq its.toArray n }
 | .tup xs=>xs.length<=sizeLine/\∃ its:List Value,Vals xs its/\IsTup h a its.toArray
 | .dK kvs=>kvs.length<=sizeLine/\(a == sysModules)=false/\∃ vs,KV kvs vs/\h.DictOf (Yj P w) a vs
 | .dT kvs=>kvs.length<=sizeLine/\(a == sysModules)=false/\∃ xs:List (List Key × Addr × Value),
   Paired (λ(p:List Key × V) (q:List Key × Addr × Value)=>p.1=q.1/\H q.2.1=some (.tup (p.1.map kV))/\RelV p.2 q.2.2) kvs xs /\
   ∃ o es ep,h.get? a=some o/\o.ExactDict/\o.data=.dict es ep/\es.toList=xs.map (entryOfKey (tupleKind (Yj P w)))/\(xs.map (·.1)).Nodup
 | .set S n=>h.SetOf (intKind P w) a S n
 | .ins C dx fs=>H dx=some (.own a)/\fs.length<=1000/\dx≠a/\h.get? a=some (PySem.W.instObj C dx) /\
   ∃ mA,h.Ns1 dx mA/\(∀ f,RelO (fs.lookup f) (mA f))/\PySem.Within mA (fs.map (·.1))
 | .own _=>∃ o,h.get? a=some o
 | .xd fs=>∃ mA,h.Ns1 a mA/\∀ f,RelO (fs.lookup f) (mA f)
 | .rng lo hi=>∃ t u v,h.get? a=some { cls:=.type "range",data:=.fields #[.int lo t,.int hi u,.int 1 v] }
 | .frz o u=>h.get? a=some o/\Yi H h a u
 | .tbl ps=>h.get? a=some { cls:=.none,data:=.fields ps }
 | .met f x=>h.get? a=some (PySem.W.methodObj (.ref f) (.ref x))
 | .ext φ=>φ h/\(∃ o,h.get? a=some o)/\∀ h1 h2:Heap,φ h1->(∀ o,h1.get? a=some o->h2.get? a=some o)->φ h2
def HOk (H:Hp) (h:Heap):Prop:=∀ a o,H a=some o->Yi P w H h a o
end
section
variable {P:Program} {w:World} {H H':Hp} {h h':Heap} {a:Addr} {o:HO}
def Yi.lt (x:Yi P w H h a o):a < h.objs.size:=by
 cases o with
 | lst xs=>obtain ⟨_,_,_,_,e⟩:=x; exact Ap e
 | tup xs=>obtain ⟨_,_,_,p⟩:=x; exact p.lt
 | dK kvs=>obtain ⟨_,_,_,_,o,_,_,e,_⟩:=x; exact Ap e
 | dT kvs=>obtain ⟨_,_,_,_,o,_,_,e,_⟩:=x; exact Ap e
 | set S n=>obtain ⟨o,_,_,_,e,_⟩:=x; exact Ap e
 | ins C dx fs=>obtain ⟨_,_,_,e,_⟩:=x; exact Ap e
 | own y=>obtain ⟨_,e⟩:=x; exact Ap e
 | xd fs=>obtain ⟨_,⟨_,_,_,e,_⟩,_⟩:=x; exact Ap e
 | rng lo hi=>obtain ⟨_,_,_,e⟩:=x; exact Ap e
 | frz ob u=>obtain ⟨e,_⟩:=x; exact Ap e
 | tbl ps=>exact Ap (show h.get? a=some _ from x)
 | met f y=>exact Ap (show h.get? a=some _ from x)
 | ext φ=>obtain ⟨_,⟨_,e⟩,_⟩:=x; exact Ap e
theorem Paired.mapP {α β:Type} {F G:α->β->Prop}:∀ {l₁:List α} {l₂:List β},Paired F l₁ l₂->(∀ a b,F a b->G a b)->Paired G l₁ l₂
 | _,_,.nil,_=>.nil
 | _,_,.cons r t,f=>.cons (f _ _ r) (Paired.mapP t f)
def Yi.stay (x:Yi P w H h a o) (k:∀ b u,(b=a\/H b=some (.own a))->h.get? b=some u->h'.get? b=some u)
  (ho:∀ b,H b=some (.own a)->H' b=some (.own a)) (ht:∀ b xs,H b=some (.tup xs)->H' b=some (.tup xs)):Yi P w H' h' a o:=by
 induction o with
 | lst xs=>obtain ⟨z,its,n,r,e⟩:=x; exact ⟨z,its,n,r,k _ _ (.inl Z) e⟩
 | tup xs=>obtain ⟨z,its,r,ob,e,c⟩:=x; exact ⟨z,its,r,ob,k _ _ (.inl Z) e,c⟩
 | dK kvs=>obtain ⟨z,y,vs,r,ob,es,ep,e,c⟩:=x; exact ⟨z,y,vs,r,ob,es,ep,k _ _ (.inl Z) e,c⟩
 | dT kvs =>
  obtain ⟨z,y,xs,r,ob,es,ep,e,c⟩:=x;exact ⟨z,y,xs,Paired.mapP r λp q z=>⟨z.1,ht _ _ z.2.1,z.2.2⟩,ob,es,ep,k _ _ (.inl Z) e,c⟩
 | set S n=>obtain ⟨ob,es,ep,t,e,c⟩:=x; exact ⟨ob,es,ep,t,k _ _ (.inl Z) e,c⟩
 | ins C dx fs =>
  obtain ⟨d,z,ne,e,mA,⟨od,es,ep,e2,c⟩,r⟩:=x;exact ⟨ho _ d,z,ne,k _ _ (.inl Z) e,mA,⟨od,es,ep,k _ _ (.inr d) e2,c⟩,r⟩
 | own y=>obtain ⟨ob,e⟩:=x; exact ⟨ob,k _ _ (.inl Z) e⟩
 | xd fs=>obtain ⟨mA,⟨od,es,ep,e,c⟩,r⟩:=x; exact ⟨mA,⟨od,es,ep,k _ _ (.inl Z) e,c⟩,r⟩
 | rng lo hi=>obtain ⟨t,u,v,e⟩:=x; exact ⟨t,u,v,k _ _ (.inl Z) e⟩
 | frz ob u ih=>obtain ⟨e,q⟩:=x; exact ⟨k _ _ (.inl Z) e,ih q⟩
 | tbl ps =>
  have e:h.get? a=some { cls:=.none,data:=.fields ps }:=x;show h'.get? a=some { cls:=.none,data:=.fields ps };exact k a _ (.inl Z) e
 | met f y =>
  have e:h.get? a=some (PySem.W.methodObj (.ref f) (.ref y)):=x;show h'.get? a=some (PySem.W.methodObj (.ref f) (.ref y));exact k a _ (.inl Z) e
 | ext φ=>obtain ⟨p,⟨o,e⟩,st⟩:=x; exact ⟨st _ _ p λo q=>k _ _ (.inl Z) q,⟨o,k _ _ (.inl Z) e⟩,st⟩
def HOk.lt (x:HOk P w H h) (e:H a=some o):a < h.objs.size:=(x a o e).lt
def HOk.fresh (x:HOk P w H h) (e:h.objs.size<=a):H a=none:=by
 cases q:H a with
 | none=>rfl
 | some u=>exact absurd (Ah (x.lt q) e) (Nat.lt_irrefl _)
def HOk.kept (x:HOk P w H h) (k:∀ b u,h.get? b=some u->h'.get? b=some u):HOk P w H h':=λa o e =>
 (x a o e).stay (λb u _ q=>k b u q) (λ_ q=>q) λ_ _ q=>q
def HOk.laid (x:HOk P w H h) (k:∀ b u,h.get? b=some u->h'.get? b=some u) (hp:h.objs.size<=a) (new:Yi P w (upd H a o) h' a o):HOk P w (upd H a o) h':=λb u e=>by
 have hn:=x.fresh hp;by_cases hb:b=a
 ·subst hb; rw [Zc] at e; cases e; exact new
 ·rw [Zh hb] at e
  exact (x b u e).stay (λc v _ q=>k c v q) (λc q=>by rw [Zh (Zr q hn)]; exact q) λc xs q=>by rw [Zh (Zr q hn)]; exact q
end
def Rd (H:Hp) (a:Addr) (u:HO):Prop:=H a=some u\/∃ o,H a=some (.frz o u)
def Rd.ok {P:Program} {w:World} {H:Hp} {h:Heap} {a:Addr} {u:HO} (r:Rd H a u) (x:HOk P w H h):Yi P w H h a u:=by
 rcases r with r | ⟨o,r⟩
 ·exact x a u r
 ·obtain ⟨_,q⟩:=x a _ r
  exact q
def Mut:Option HO->Prop
 | some (.lst _)=>True
 | some (.dK _)=>True
 | some (.dT _)=>True
 | some (.set _ _)=>True
 | some (.ins _ _ _)=>True
 | some (.ext _)=>True
 | _=>False
section
variable {P:Program} {w:World} {H:Hp} {h h':Heap} {x e:Addr} {o':HO}
def HOk.write (ok:HOk P w H h) (mu:Mut (H x)) (he:e=x\/H e=some (.own x)) (k:∀ b u,b≠e->h.get? b=some u->h'.get? b=some u) (uv:∃ u,h'.get? e=some u)
  (new:Yi P w (upd H x o') h' x o'):HOk P w (upd H x o') h':=λb u q=>by
 have qe:∀ c y,H c=some (.own y)->c≠x:=λc y r z=>by subst z; rw [r] at mu; exact mu
 have qd:∀ c xs,H c=some (.tup xs)->c≠x:=λc xs r z=>by subst z; rw [r] at mu; exact mu
 by_cases hb:b=x
 ·subst hb; rw [Zc] at q; cases q; exact new
 ·rw [Zh hb] at q
  by_cases r8:b=e
  ·have q':H b=some (.own x):=by
    rcases he with z | z
    ·exact absurd (r8.trans z) hb
    ·rw [r8]; exact z
   rw [q] at q'; cases q';obtain ⟨v,hv⟩:=uv;exact ⟨v,by rw [r8]; exact hv⟩
  ·refine (ok b u q).stay (λc v hc r=>k c v ?_ r) (λc r=>by rw [Zh (qe c b r)]; exact r) λc xs r=>by rw [Zh (qd c xs r)]; exact r
   rcases hc with rfl | hc
   ·exact r8
   ·rintro rfl
    rcases he with z | z
    ·exact qe c b hc z
    ·rw [hc] at z; cases z; exact hb Z
end
structure Un (fs ex:List Addr) (H H':Hp) (h h':Heap):Prop where
 keep:∀ b o,h.get? b=some o->H b=none->b ∉ fs->b ∉ ex->h'.get? b=some o
 slot:∀ b o,h.get? b=some o->H b=none->b∈fs->b ∉ ex->∃ sl,h'.get? b=some { o with slots:=sl }
 free:∀ b o,h.get? b=some o->H b=none->b ∉ ex->H' b=none
 there:∀ b o,h.get? b=some o->b ∉ ex->∃ o',h'.get? b=some o'
 tups:∀ b xs,H b=some (.tup xs)->H' b=some (.tup xs)
 frzs:∀ b o u,H b=some (.frz o u)->H' b=some (.frz o u)
 tbls:∀ b ps,H b=some (.tbl ps)->∃ more,H' b=some (.tbl (ps ++ more))
section
variable {fs fs' ex ex':List Addr} {H H1 H2:Hp} {h h1 h2 h':Heap} {a x e:Addr} {o:HO}
def Un.any (u:Un fs ex H H1 h h1) (q:h.get? b=some ob) (n:H b=none) (hx:b ∉ ex):∃ sl,h1.get? b=some { ob with slots:=sl }:=by
 by_cases hb:b∈fs
 ·exact u.slot b ob q n hb hx
 ·exact ⟨ob.slots,u.keep b ob q n hb hx⟩
def Un.kept (k:∀ b u,h.get? b=some u->h'.get? b=some u):Un fs ex H H h h' :=
 ⟨λb ob q _ _ _=>k b ob q,λb ob q _ _ _=>⟨ob.slots,k b ob q⟩,λ_ _ _ n _=>n,λb ob q _=>⟨ob,k b ob q⟩,λ_ _ q=>q,λ_ _ _ q=>q,λ_ ps q=>⟨#[],by rw [q]; simp⟩⟩
def Un.refl:Un fs ex H H h h:=Un.kept λ_ _ q=>q
def Un.laid (k:∀ b u,h.get? b=some u->h'.get? b=some u) (hp:h.objs.size<=a) (hn:H a=none):Un fs ex H (upd H a o) h h' where
 keep:=λb u q _ _ _=>k b u q
 slot:=λb u q _ _ _=>⟨u.slots,k b u q⟩
 free:=λb u q n _=>by rw [Zh (At (Ah (Ap q) hp))]; exact n
 there:=λb u q _=>⟨u,k b u q⟩
 tups:=λb xs q=>by rw [Zh (Zr q hn)]; exact q
 frzs:=λb u xs q=>by rw [Zh (Zr q hn)]; exact q
 tbls:=λb ps q=>⟨#[],by rw [Zh (Zr q hn),q]; simp⟩
def Un.write (mu:Mut (H x)) (he:e=x\/H e=some (.own x)) (k:∀ b u,b≠e->h.get? b=some u->h'.get? b=some u) (uv:∃ u,h'.get? e=some u):Un fs ex H (upd H x o) h h':=by
 have hx:∀ b,H b=none->b≠x:=λb n z=>by subst z; rw [n] at mu; exact mu
 have hb:∀ b,H b=none->b≠e:=λb n z=>by
  subst z
  rcases he with r | r
  ·exact hx b n r
  ·rw [n] at r; cases r
 have hm:∀ b u,H b=some u->¬ Mut (some u)->b≠x:=λb u q nm z=>by subst z; rw [q] at mu; exact nm mu
 refine ⟨λb u q n _ _=>k b u (hb b n) q,λb u q n _ _=>⟨u.slots,k b u (hb b n) q⟩,λb u q n _=>by rw [Zh (hx b n)]; exact n,λb u q _=>?_,
  λb xs q=>by rw [Zh (hm b _ q λz=>z)]; exact q,λb u xs q=>by rw [Zh (hm b _ q λz=>z)]; exact q,λb ps q=>⟨#[],by rw [Zh (hm b _ q λz=>z),q]; simp⟩⟩;by_cases r8:b=e
 ·subst r8; exact uv
 ·exact ⟨u,k b u r8 q⟩
end
def trk (h:Heap) (H:Hp):List Addr:=(List.range h.objs.size).filter λa=>(H a).isSome
def hidT (h:Heap) (H:Hp):Heap:=PySem.W.hideAll h (trk h H)
def Zim (h:Heap) (H:Hp):(hidT h H).objs.size=h.objs.size:=PySem.W.hideAll_size _ _
def Zki {h:Heap} (e:h.get? b=some o) (n:H b=none):(hidT h H).get? b=some o :=
 PySem.W.hideAll_get _ e λhm=>by
  have q:(H b).isSome=true:=(List.mem_filter.mp hm).2;rw [n] at q; simp at q
def Zl9 {h:Heap} (e:(hidT h H).get? b=some o):h.get? b=some o/\H b=none:=by
 have e':h.get? b=some o:=PySem.W.of_hideAll (trk h H) e;refine ⟨e',?_⟩
 cases q:H b with
 | none=>rfl
 | some x =>
  have hm:b∈trk h H:=List.mem_filter.mpr ⟨List.mem_range.mpr (Ap e'),by simp [q]⟩;have z:(hidT h H).get? b=none:=PySem.W.hideAll_none (trk h H) hm;rw [z] at e; cases e
def Zmr (g h:Heap) (L:Addr):List (Addr × Obj):=(List.range h.objs.size).filterMap λa=>if a=L\/(g.get? a).isSome=true then none else (h.get? a).map λo=>(a,o)
def rest (g h:Heap) (L d:Addr):List (Addr × Obj):=(Zmr g h L).filter λp=>decide (p.1≠d)
structure Mod (K:W.Frag) (mg:Str->Option Value) (base:Heap):Prop where
 kin:K.In base
 glob:base.Ns mainGlobals mg
 blt:∃ mb,base.Ns builtinsNs mb/\∀ x:Str,x≠"__name__"->mb x=bootBuiltins x
 nolimit:base.NoLimit
structure Cx where
 prog:Program
 w:World
 K:PySem.W.Frag
 mg:Str->Option Value
 base:Heap
 A:Around
 N:List Str
 s₀:Shared
 H₀:Hp
 env:Env
 outer:List Env
 stack:List Env
 ex:List Addr
 fn:Str->Bool
 calm:Bool
 pn:List (Addr × Obj)
 xe:Value->Shared->Prop
def frs (l:List Env):List Addr:=l.filterMap (·.frame)
abbrev Cx.fs (X:Cx):List Addr:=frs X.outer
def Vis (sc:Scope) (x:Str):Prop:=sc.names.lookup x=some .local\/sc.names.lookup x=some .cell\/sc.names.lookup x=some .free
def Loc (sc:Scope) (x:Str):Prop:=sc.names.lookup x=some .local\/sc.names.lookup x=some .cell
def Look (env:Env) (h:Heap) (m:Str->Option Value) (x:Str) (u:Value):Prop :=
 (env.kindOf x=some .local/\m x=some u)\/((env.kindOf x=some .cell\/env.kindOf x=some .free)/\∃ c,env.cells.lookup x=some c/\h.IsCell c (some u))
structure Cx.Ok (X:Cx):Prop where
 mod:Mod X.K X.mg X.base
 kind:X.env.scope.kind=.function
 glob:X.env.globals=mainGlobals
 blt:X.env.builtins=builtinsNs
 above:X.s₀.heap.objs.size<=X.env.locals
 inj:∀ x y c,X.env.cells.lookup x=some c->X.env.cells.lookup y=some c->x=y
 has:∀ x,(X.env.kindOf x=some .cell\/X.env.kindOf x=some .free)->∃ c,X.env.cells.lookup x=some c
 cab:∀ x c,X.fn x=true->X.env.cells.lookup x=some c->X.s₀.heap.objs.size<=c
 hd:X.calm=true->X.A.handled=none
 frames:X.A.frames=some X.stack
 stk:X.stack=X.outer\/(X.stack=X.env :: X.outer/\X.env.frame=some X.env.locals)
 exf:∀ b∈X.ex,b≠X.env.locals/\∀ x c,X.env.cells.lookup x=some c->c≠b
 bs:∀ b o,X.base.get? b=some o->X.s₀.heap.get? b=some o/\X.H₀ b=none
 bsz:X.base.objs.size<=X.s₀.heap.objs.size
 noex:∀ b o,X.base.get? b=some o->b ∉ X.ex
 exfs:∀ b∈X.ex,b ∉ X.fs
 funs:X.s₀.heap.FunFrames X.base X.outer
 frf:∀ b∈X.fs,X.H₀ b=none
structure Inv (X:Cx) (i7:List (Addr × Obj)) (σ:List (Option V)) (H:Hp) (s:Shared):Prop where
 ok:X.Ok
 os:s.os=X.s₀.os
 bare:AllBare s.gens
 base:Un X.fs X.ex X.H₀ H X.s₀.heap s.heap
 loc:∃ m,s.heap.Ns X.env.locals m/\∀ (i:Nat) (x:Str) (v:V),X.N[i]?=some x->σ[i]?=some (some v)->Vis X.env.scope x->∃ u,RelV v u/\Look X.env s.heap m x u
 cell:∀ x c,X.env.cells.lookup x=some c->∃ v,s.heap.IsCell c v
 free:H X.env.locals=none
 freeC:∀ x c,X.env.cells.lookup x=some c->H c=none
 pin:∀ p∈X.pn ++ i7,s.heap.get? p.1=some p.2/\H p.1=none/\p.1≠X.env.locals/\p.1 ∉ X.fs/\∀ v,p.2.data≠.cell v
 hok:HOk X.prog X.w H s.heap
 len:σ.length=X.N.length
section
variable {X:Cx} {i7:List (Addr × Obj)} {σ:List (Option V)} {H H':Hp} {s:Shared} {h':Heap}
def Cx.Ok.nofr (ok:X.Ok) (e:X.base.get? b=some o):b ∉ X.fs:=λhb=>by
 have:=(ok.funs.mem hb).1;rw [e] at this; cases this
def Inv.bs (I:Inv X i7 σ H s):∀ b o,X.base.get? b=some o->s.heap.get? b=some o/\H b=none:=λb o e =>
 ⟨I.base.keep b o (I.ok.bs b o e).1 (I.ok.bs b o e).2 (I.ok.nofr e) (I.ok.noex b o e),I.base.free b o (I.ok.bs b o e).1 (I.ok.bs b o e).2 (I.ok.noex b o e)⟩
def Inv.bk (I:Inv X i7 σ H s):∀ b o,X.base.get? b=some o->s.heap.get? b=some o:=λb o e=>(I.bs b o e).1
def Inv.mod (I:Inv X i7 σ H s):Mod X.K X.mg X.base:=I.ok.mod
def Inv.kIn (I:Inv X i7 σ H s):X.K.In s.heap:=I.ok.mod.kin.keeps I.bk
def Inv.lt (I:Inv X i7 σ H s):X.env.locals < s.heap.objs.size:=let ⟨_,hn,_⟩:=I.loc; hn.lt
def Inv.sz (I:Inv X i7 σ H s):X.s₀.heap.objs.size<=s.heap.objs.size:=Nat.le_trans I.ok.above (Nat.le_of_lt I.lt)
def Inv.nofs (I:Inv X i7 σ H s) {a:Addr} (h:s.heap.objs.size<=a):a ∉ X.fs:=λhb=>by
 obtain ⟨_,o,ho,_⟩:=I.ok.funs.mem hb;exact absurd (Ah (Ap ho) (Nat.le_trans I.sz h)) (Nat.lt_irrefl _)
def Inv.cne (I:Inv X i7 σ H s):∀ x c,X.env.cells.lookup x=some c->c≠X.env.locals:=λx c e z=>by
 obtain ⟨v,o,ho,hd⟩:=I.cell x c e;obtain ⟨m,⟨o',es,ep,mw,hd',_⟩,_⟩:=I.loc;rw [z,mw] at ho; cases ho; rw [hd'] at hd; cases hd
def Inv.funs (I:Inv X i7 σ H s):s.heap.FunFrames X.base X.outer:=by
 have all:∀ (l:List Env),(∀ b∈frs l,b∈X.fs)->X.s₀.heap.FunFrames X.base l->s.heap.FunFrames X.base l:=by
  intro l
  induction l with
  | nil=>intro _ _; trivial
  | cons env r ih =>
   intro hs hl;obtain ⟨hk,⟨L,o,hf,hn,ho,hd⟩,hr⟩:=hl;have hL:L∈X.fs:=hs L (by unfold frs; rw [List.filterMap_cons,hf]; exact List.mem_cons_self);obtain ⟨sl,e⟩:=I.base.slot L o ho (I.ok.frf L hL) hL λz=>I.ok.exfs L z hL;exact ⟨hk,⟨L,_,hf,hn,e,hd⟩,ih (λb hb=>hs b (by unfold frs; rw [List.filterMap_cons,hf]; exact List.mem_cons_of_mem _ hb)) hr⟩
 exact all X.outer (λ_ hb=>hb) I.ok.funs
def Inv.stack (I:Inv X i7 σ H s):s.heap.FunFrames X.base X.stack:=by
 rcases I.ok.stk with e | ⟨e,hf⟩
 ·rw [e]; exact I.funs
 ·rw [e]
  obtain ⟨m,hn,_⟩:=I.loc;refine .cons (by rw [I.ok.kind]; decide) hf hn ?_ I.funs;exact Heap.get?_none_of_le (Nat.le_trans I.ok.bsz I.ok.above)
def Inv.stkSub (I:Inv X i7 σ H s):∀ b∈frs X.stack,b∈X.env.locals :: X.fs:=λb hb=>by
 rcases I.ok.stk with e | ⟨e,hf⟩
 ·rw [e] at hb; exact List.mem_cons_of_mem _ hb
 ·rw [e] at hb
  unfold frs at hb;rw [List.filterMap_cons,hf] at hb;exact hb
def Inv.stkFree (I:Inv X i7 σ H s):∀ b∈frs X.stack,H b=none:=λb hb=>by
 rcases As (I.stkSub b hb) with e | hb
 ·rw [e]; exact I.free
 ·obtain ⟨_,o,ho,_⟩:=I.ok.funs.mem hb
  exact I.base.free b o ho (I.ok.frf b hb) λz=>I.ok.exfs b z hb
def Inv.step {g':Array GenState} {t':Nat} {d':Drawn} {ch:List Addr} (I:Inv X i7 σ H s)
  (lw:∀ b∈ch,(b∈X.ex\/X.s₀.heap.objs.size<=b)/\b≠X.env.locals/\(∀ x c,X.env.cells.lookup x=some c->c≠b)/\∀ p∈X.pn ++ i7,p.1≠b)
  (keep:∀ b o,b≠X.env.locals->b ∉ X.fs->b ∉ ch->s.heap.get? b=some o->H b=none->h'.get? b=some o)
  (slot:∀ b o,b≠X.env.locals->b∈X.fs->b ∉ ch->s.heap.get? b=some o->H b=none->∃ sl,h'.get? b=some { o with slots:=sl }) (free:∀ b o,b ∉ ch->s.heap.get? b=some o->H b=none->H' b=none)
  (there:∀ b o,b ∉ ch->s.heap.get? b=some o->∃ o',h'.get? b=some o')
  (tups:∀ b xs,H b=some (.tup xs)->H' b=some (.tup xs)) (frzs:∀ b o u,H b=some (.frz o u)->H' b=some (.frz o u)) (tbls:∀ b ps,H b=some (.tbl ps)->∃ more,H' b=some (.tbl (ps ++ more)))
  (ns:∀ m,s.heap.Ns X.env.locals m->h'.Ns X.env.locals m) (hok:HOk X.prog X.w H' h') (hg:AllBare g') :
  Inv X i7 σ H' { s with heap:=h',gens:=g',drawn:=d',toks:=t' }:=by
 have neL:∀ b o,X.s₀.heap.get? b=some o->b≠X.env.locals:=λb o e=>At (Ah (Ap e) I.ok.above);have xh:∀ b o,X.s₀.heap.get? b=some o->b ∉ X.ex->b ∉ ch:=λb o e hx hb=>by
  rcases (lw b hb).1 with z | z
  ·exact hx z
  ·exact absurd (Ah (Ap e) z) (Nat.lt_irrefl _)
 have lh:∀ x c,X.env.cells.lookup x=some c->∀ v,s.heap.IsCell c v->h'.IsCell c v:=λx c e v ⟨o,ho,hd⟩=>by
  have va:c ∉ ch:=λz=>(lw c z).2.2.1 x c e rfl;by_cases hc:c∈X.fs
  ·obtain ⟨sl,q⟩:=slot c o (I.cne x c e) hc va ho (I.freeC x c e)
   exact ⟨_,q,hd⟩
  ·exact ⟨o,keep c o (I.cne x c e) hc va ho (I.freeC x c e),hd⟩
 refine ⟨I.ok,I.os,hg,⟨λb o e n hb hx=>?_,λb o e n hb hx=>?_,λb o e n hx=>?_,λb o e hx=>?_,λb xs e=>tups b xs (I.base.tups b xs e),λb o xs e=>frzs b o xs (I.base.frzs b o xs e),λb ps e=>?_⟩,?_,λx c e=>?_,?_,λx c e=>?_,λp hp=>?_,hok,I.len⟩
 ·exact keep b o (neL b o e) hb (xh b o e hx) (I.base.keep b o e n hb hx) (I.base.free b o e n hx)
 ·obtain ⟨sl,e1⟩:=I.base.slot b o e n hb hx
  obtain ⟨sl',e2⟩:=slot b _ (neL b o e) hb (xh b o e hx) e1 (I.base.free b o e n hx);exact ⟨sl',e2⟩
 ·obtain ⟨o',e1⟩:=I.base.there b o e hx
  exact free b o' (xh b o e hx) e1 (I.base.free b o e n hx)
 ·obtain ⟨o',e1⟩:=I.base.there b o e hx
  exact there b o' (xh b o e hx) e1
 ·obtain ⟨m1,e1⟩:=I.base.tbls b ps e
  obtain ⟨m2,e2⟩:=tbls b _ e1;exact ⟨m1 ++ m2,by rw [e2,Array.append_assoc]⟩
 ·obtain ⟨m,hn,hl⟩:=I.loc
  refine ⟨m,ns m hn,λi x v e1 e2 e3=>?_⟩;obtain ⟨u,r,l⟩:=hl i x v e1 e2 e3;refine ⟨u,r,?_⟩
  rcases l with l | ⟨k,c,e,z⟩
  ·exact .inl l
  ·exact .inr ⟨k,c,e,lh x c e _ z⟩
 ·obtain ⟨v,z⟩:=I.cell x c e
  exact ⟨v,lh x c e v z⟩
 ·obtain ⟨m,⟨o,_,_,ho,_⟩,_⟩:=I.loc
  exact free _ o (λz=>(lw _ z).2.1 Z) ho I.free
 ·obtain ⟨v,o,ho,hd⟩:=I.cell x c e
  exact free c o (λz=>(lw c z).2.2.1 x c e Z) ho (I.freeC x c e)
 ·obtain ⟨e,n,ne,nf,d⟩:=I.pin p hp
  have va:p.1 ∉ ch:=λz=>(lw p.1 z).2.2.2 p hp rfl;exact ⟨keep p.1 p.2 ne nf va e n,free p.1 p.2 va e n,ne,nf,d⟩
def Inv.un {t':Nat} (I:Inv X i7 σ H s) (u:Un X.fs [] H H' s.heap h') (hok:HOk X.prog X.w H' h'):Inv X i7 σ H' { s with heap:=h',toks:=t' }:=by
 obtain ⟨m,⟨o,es,ep,ho,r⟩,_⟩:=id I.loc;obtain ⟨sl,hL⟩:=u.any ho I.free (by simp);exact I.step (g':=s.gens) (d':=s.drawn) (ch:=[]) (λ_ z=>nomatch z) (λb o _ hb _ e n=>u.keep b o e n hb (by simp)) (λb o _ hb _ e n=>u.slot b o e n hb (by simp)) (λb o _ e n=>u.free b o e n (by simp)) (λb o _ e=>u.there b o e (by simp)) u.tups u.frzs u.tbls (λm' hm=>by
  obtain ⟨o',sk,uy,mw,r'⟩:=hm
  rw [ho] at mw; cases mw
  exact ⟨_,sk,uy,hL,r'⟩) hok I.bare
def Inv.call {t':Nat} {d':Drawn} (I:Inv X i7 σ H s) (u:Un (frs X.stack) ch H H' s.heap h') (hok:HOk X.prog X.w H' h') (hg:AllBare g')
  (lw:∀ b∈ch,(b∈X.ex\/X.s₀.heap.objs.size<=b)/\b≠X.env.locals/\(∀ x c,X.env.cells.lookup x=some c->c≠b)/\∀ p∈X.pn ++ i7,p.1≠b) :
  Inv X i7 σ H' { s with heap:=h',gens:=g',drawn:=d',toks:=t' }:=by
 obtain ⟨m,⟨o,es,ep,ho,r⟩,_⟩:=id I.loc;obtain ⟨sl,hL⟩:=u.any ho I.free λz=>(lw _ z).2.1 rfl;exact I.step (ch:=ch) lw (λb o hL hb hc e n=>u.keep b o e n (λz=>(As (I.stkSub b z)).elim hL hb) hc) (λb o _ _ hc e n=>u.any e n hc) (λb o hc e n=>u.free b o e n hc) (λb o hc e=>u.there b o e hc) u.tups u.frzs u.tbls (λm' hm=>by
  obtain ⟨o',sk,uy,mw,r'⟩:=hm
  rw [ho] at mw; cases mw
  exact ⟨_,sk,uy,hL,r'⟩) hok hg
def Inv.turned {t':Nat} (I:Inv X i7 σ H s) (k:∀ b o,b≠it->s.heap.get? b=some o->h'.get? b=some o) (hn:H it=none) (hL:it≠X.env.locals)
  (h1:it∈X.ex\/X.s₀.heap.objs.size<=it) (h2:∀ x c,X.env.cells.lookup x=some c->c≠it) (h3:∀ p∈X.pn ++ i7,p.1≠it):Inv X i7 σ H { s with heap:=h',toks:=t' }:=by
 have nit:∀ b u,H b=some u->b≠it:=λb u e z=>by rw [z,hn] at e; cases e
 refine I.step (g':=s.gens) (d':=s.drawn) (ch:=[it]) (λb hb=>?_) (λb o _ _ hc e _=>k b o (λz=>hc (by simp [z])) e) (λb o _ _ hc e _=>⟨o.slots,k b o (λz=>hc (by simp [z])) e⟩) (λ_ _ _ _ n=>n)
  (λb o hc e=>⟨o,k b o (λz=>hc (by simp [z])) e⟩) (λ_ _ e=>e) (λ_ _ _ e=>e) (λb ps e=>⟨#[],by rw [e]; simp⟩) (λm hm=>?_) (λb u e=>?_) I.bare
 ·have e:b=it:=by simpa using hb
  subst e;exact ⟨h1,hL,h2,h3⟩
 ·obtain ⟨o,es,ep,ho,r⟩:=hm
  exact ⟨o,es,ep,k _ o (Ne.symm hL) ho,r⟩
 ·refine (I.hok b u e).stay (λc v hc q=>k c v ?_ q) (λ_ q=>q) λ_ _ q=>q
  rcases hc with z | z
  ·rw [z]; exact nit b u e
  ·exact nit c _ z
def Inv.tok (I:Inv X i7 σ H s) (t:Nat):Inv X i7 σ H { s with toks:=t }:=I.un (h':=s.heap) (t':=t) Un.refl I.hok
def Inv.kept {t':Nat} (I:Inv X i7 σ H s) (k:∀ b u,s.heap.get? b=some u->h'.get? b=some u):Inv X i7 σ H { s with heap:=h',toks:=t' }:=I.un (Un.kept k) (I.hok.kept k)
def Inv.laid {t':Nat} (I:Inv X i7 σ H s) (k:∀ b u,s.heap.get? b=some u->h'.get? b=some u) (hp:s.heap.objs.size<=a) (new:Yi X.prog X.w (upd H a o) h' a o) :
  Inv X i7 σ (upd H a o) { s with heap:=h',toks:=t' }:=I.un (Un.laid k hp (I.hok.fresh hp)) (I.hok.laid k hp new)
def Inv.write {t':Nat} (I:Inv X i7 σ H s) (mu:Mut (H x)) (he:e=x\/H e=some (.own x)) (k:∀ b u,b≠e->s.heap.get? b=some u->h'.get? b=some u) (uv:∃ u,h'.get? e=some u)
  (new:Yi X.prog X.w (upd H x o) h' x o):Inv X i7 σ (upd H x o) { s with heap:=h',toks:=t' }:=I.un (Un.write mu he k uv) (I.hok.write mu he k uv new)
def Inv.pins_of (I:Inv X i7 σ H s) (h:∀ p∈pins',s.heap.get? p.1=some p.2/\H p.1=none/\p.1≠X.env.locals/\p.1 ∉ X.fs/\∀ v,p.2.data≠.cell v):Inv X pins' σ H s :=
 ⟨I.ok,I.os,I.bare,I.base,I.loc,I.cell,I.free,I.freeC,λp hp=>(List.mem_append.mp hp).elim (λz=>I.pin p (List.mem_append_left _ z)) (h p),I.hok,I.len⟩
def Zdc {N:List Str} (hN:N.Nodup) {i j:Nat} (a:N[i]?=some x) (b:N[j]?=some x):i=j:=by
 obtain ⟨h1,e1⟩:=Aa a;obtain ⟨h2,e2⟩:=Aa b;exact (List.getElem_inj hN).mp (e1.trans e2.symm)
def Uh (I:Inv X i7 σ H s) (hN:X.N.Nodup) (hi:X.N[i]?=some x) (hx:Loc X.env.scope x) (r:RelV v u)
  (h:∀ s',Inv X i7 (σ.set i (some v)) H s'->(∃ a,Heap.SameBut a s.heap s'.heap/\(a=X.env.locals\/X.env.cells.lookup x=some a))->Q () s') (hf:X.fn x=true\/X.env.scope.names.lookup x=some .local:=by first | exact .inl rfl | exact .inr rfl | assumption):wpAny M A (storeName X.env x u) Q E s:=by
 obtain ⟨m,hn,hl⟩:=id I.loc;have on:(X.env.scope.kind == .class || (X.env.scope.kind == .module && X.env.locals != X.env.globals))=false:=by rw [I.ok.kind]; rfl
 have hiσ:i < σ.length:=by rw [I.len]; exact (Aa hi).1
 have cne:=I.cne
 have ml:∀ {a:Addr} {h':Heap},(∃ o,s.heap.get? a=some o/\H a=none)->Heap.SameBut a s.heap h'->HOk X.prog X.w H h':=λ{a h'} ha hs b ob e=>by
  obtain ⟨_,_,qw⟩:=ha;refine (I.hok b ob e).stay (λc w' hc q=>(hs.2 c ?_).trans q) (λ_ q=>q) λ_ _ q=>q;rintro rfl
  rcases hc with rfl | hc
  ·rw [qw] at e; cases e
  ·rw [qw] at hc; cases hc
 rcases hx with hk | hk
 ·refine wpAny_storeName_local hk hn (λh' hn' hs=>?_) on
  obtain ⟨oL,_,_,qa,_⟩:=id hn;refine h _ ⟨I.ok,I.os,I.bare,⟨λb o e n hb hx=>?_,λb o e n hb hx=>?_,I.base.free,λb o e hx=>?_,I.base.tups,I.base.frzs,I.base.tbls⟩,⟨_,hn',λj y v' e1 e2 e3=>?_⟩,λy c e=>?_,I.free,I.freeC,λp hp=>?_,ml ⟨oL,qa,I.free⟩ hs,by simpa using I.len⟩ ⟨_,hs,.inl Z⟩
  ·exact (hs.2 b (At (Ah (Ap e) I.ok.above))).trans (I.base.keep b o e n hb hx)
  ·obtain ⟨sl,e1⟩:=I.base.slot b o e n hb hx
   exact ⟨sl,(hs.2 b (At (Ah (Ap e) I.ok.above))).trans e1⟩
  ·obtain ⟨o',e1⟩:=I.base.there b o e hx
   exact ⟨o',(hs.2 b (At (Ah (Ap e) I.ok.above))).trans e1⟩
  ·by_cases hj:j=i
   ·subst hj
    rw [hi] at e1; cases e1;rw [List.getElem?_set_self hiσ] at e2;cases e2;exact ⟨u,r,.inl ⟨hk,by simp⟩⟩
   ·rw [List.getElem?_set_ne (Ne.symm hj)] at e2
    obtain ⟨u',r',q⟩:=hl j y v' e1 e2 e3;refine ⟨u',r',?_⟩
    rcases q with ⟨k,e⟩ | ⟨k,c,e,z⟩
    ·refine .inl ⟨k,?_⟩
     have:y≠x:=λe=>hj (Zdc hN e1 (e ▸ hi));simp [this,e]
    ·exact .inr ⟨k,c,e,z.sameBut hs (cne y c e)⟩
  ·obtain ⟨w',z⟩:=I.cell y c e
   exact ⟨w',z.sameBut hs (cne y c e)⟩
  ·obtain ⟨e,n,ne,nf,d⟩:=I.pin p hp
   exact ⟨(hs.2 p.1 ne).trans e,n,ne,nf,d⟩
 ·have zy:X.fn x=true:=by
   rcases hf with z | z
   ·exact z
   ·rw [z] at hk; cases hk
  obtain ⟨c,hc⟩:=I.ok.has x (.inl hk);obtain ⟨w',z⟩:=I.cell x c hc;refine wpAny_storeName_cell I.ok.kind hk hc z (λh' pq hs=>?_);obtain ⟨oc,hoc,hocd⟩:=id z;refine h { s with heap:=h' } ⟨I.ok,I.os,I.bare,⟨λb o e n hb hx=>?_,λb o e n hb hx=>?_,I.base.free,λb o e hx=>?_,I.base.tups,I.base.frzs,I.base.tbls⟩,⟨m,hn.sameBut hs (Ne.symm (cne x c hc)),λj y v' e1 e2 e3=>?_⟩,λy c' e=>?_,I.free,I.freeC,λp hp=>?_,ml ⟨oc,hoc,I.freeC x c hc⟩ hs,by simpa using I.len⟩ ⟨c,hs,.inr hc⟩
  ·exact (hs.2 b (At (Ah (Ap e) (I.ok.cab x c zy hc)))).trans (I.base.keep b o e n hb hx)
  ·obtain ⟨sl,e1⟩:=I.base.slot b o e n hb hx
   exact ⟨sl,(hs.2 b (At (Ah (Ap e) (I.ok.cab x c zy hc)))).trans e1⟩
  ·obtain ⟨o',e1⟩:=I.base.there b o e hx
   exact ⟨o',(hs.2 b (At (Ah (Ap e) (I.ok.cab x c zy hc)))).trans e1⟩
  ·by_cases hj:j=i
   ·subst hj
    rw [hi] at e1; cases e1;rw [List.getElem?_set_self hiσ] at e2;cases e2;exact ⟨u,r,.inr ⟨.inl hk,c,hc,pq⟩⟩
   ·rw [List.getElem?_set_ne (Ne.symm hj)] at e2
    obtain ⟨u',r',q⟩:=hl j y v' e1 e2 e3;refine ⟨u',r',?_⟩
    rcases q with q | ⟨k,c',e,z'⟩
    ·exact .inl q
    ·refine .inr ⟨k,c',e,z'.sameBut hs ?_⟩
     rintro rfl;exact hj (Zdc hN e1 (I.ok.inj _ _ _ e hc ▸ hi))
  ·by_cases xz:c'=c
   ·subst xz; exact ⟨_,pq⟩
   ·obtain ⟨w2,z2⟩:=I.cell y c' e
    exact ⟨w2,z2.sameBut hs xz⟩
  ·obtain ⟨e,n,ne,nf,d⟩:=I.pin p hp
   refine ⟨(hs.2 p.1 ?_).trans e,n,ne,nf,d⟩;intro q;rw [q,hoc] at e;have q':oc=p.2:=Ay e;exact d w' (by rw [<- q']; exact hocd)
def Jb {M:Model} {A:Around} {E:Value->Shared->Prop} {i:Nat} {x:Str} {v:V} {u:Value} {Q:Unit->Shared->Prop} (I:Inv X i7 σ H s) (hN:X.N.Nodup) (hi:X.N[i]?=some x) (hx:Loc X.env.scope x) (r:RelV v u)
  (h:∀ s',Inv X i7 (σ.set i (some v)) H s'->Q () s') (hf:X.fn x=true\/X.env.scope.names.lookup x=some .local:=by first | exact .inl rfl | exact .inr rfl | assumption):wpAny M A (storeName X.env x u) Q E s :=
 Uh I hN hi hx r (λs' I' _=>h s' I') hf
def Inv.call' {s':Shared} (I:Inv X i7 σ H s) (ho:s'.os=s.os) (u:Un (frs X.stack) ch H H' s.heap s'.heap) (hok:HOk X.prog X.w H' s'.heap) (hg:AllBare s'.gens)
  (lw:∀ b∈ch,(b∈X.ex\/X.s₀.heap.objs.size<=b)/\b≠X.env.locals/\(∀ x c,X.env.cells.lookup x=some c->c≠b)/\∀ p∈X.pn ++ i7,p.1≠b):Inv X i7 σ H' s':=by
 obtain ⟨h',g',d',t',o'⟩:=s';have e:o'=s.os:=ho;subst e;exact I.call (g':=g') (t':=t') (d':=d') u hok hg lw
end
abbrev XK:=Value->Option Addr->Hp->Prop
abbrev St:=List (Option V)
abbrev VK:=V->Hp->Prop
abbrev TE:=St->Hp->VK->Prop
abbrev TT:=St->Hp->(Bool->Hp->Prop)->Prop
abbrev TA:=St->Hp->(List V->Hp->Prop)->Prop
structure Ends where
 nx:St->Hp->Prop
 rt:VK
 bk:St->Hp->Prop:=λ_ _=>False
 ct:St->Hp->Prop:=λ_ _=>False
abbrev TS:=Ends->St->Hp->Prop
def EP (X:Cx) (i7:List (Addr × Obj)) (σ:St) (Q:VK) (u:Value) (s':Shared):Prop:=∃ v H',Inv X i7 σ H' s'/\RelV v u/\Q v H'
def TP (X:Cx) (i7:List (Addr × Obj)) (σ:St) (Q:Bool->Hp->Prop) (b:Bool) (s':Shared):Prop:=∃ H',Inv X i7 σ H' s'/\Q b H'
def AP (X:Cx) (i7:List (Addr × Obj)) (σ:St) (Q:List V->Hp->Prop) (us:List Value) (s':Shared):Prop:=∃ vs H',Inv X i7 σ H' s'/\Vals vs us/\Q vs H'
def SP (X:Cx) (i7:List (Addr × Obj)) (D:Ends) (f:Flow) (s':Shared):Prop :=
 match f with
 | .next=>∃ σ' H',Inv X i7 σ' H' s'/\D.nx σ' H'
 | .brk=>∃ σ' H',Inv X i7 σ' H' s'/\D.bk σ' H'
 | .cont=>∃ σ' H',Inv X i7 σ' H' s'/\D.ct σ' H'
 | .ret u=>∃ v σ' H',Inv X i7 σ' H' s'/\RelV v u/\D.rt v H'
def PE (X:Cx) (e:Expr) (t:TE):Prop :=
 ∀ (i7:List (Addr × Obj)) (s:Shared) (σ:St) (H:Hp) (Q:VK),Inv X i7 σ H s->t σ H Q->wpAny (model X.prog X.w) X.A (eval e X.env) (EP X i7 σ Q) X.xe s
def PT (X:Cx) (e:Expr) (t:TT):Prop :=
 ∀ (i7:List (Addr × Obj)) (s:Shared) (σ:St) (H:Hp) (Q:Bool->Hp->Prop),Inv X i7 σ H s->t σ H Q->wpAny (model X.prog X.w) X.A (isTrue e X.env (eval e X.env)) (TP X i7 σ Q) X.xe s
def PW (X:Cx) (e:Expr) (t:TT):Prop :=
 ∀ (kc:Sem Value) (i7:List (Addr × Obj)) (s:Shared) (σ:St) (H:Hp) (Q:Bool->Hp->Prop),Inv X i7 σ H s->t σ H Q->wpAny (model X.prog X.w) X.A (isTrue e X.env kc) (TP X i7 σ Q) X.xe s
def PW.pt {X:Cx} {e:Expr} {t:TT} (h:PW X e t):PT X e t:=h _
def PA (X:Cx) (es:List Expr) (t:TA):Prop :=
 ∀ (pos:Pos) (i7:List (Addr × Obj)) (s:Shared) (σ:St) (H:Hp) (Q:List V->Hp->Prop),Inv X i7 σ H s->t σ H Q->wpAny (model X.prog X.w) X.A (spliced (backTo pos (starEach es X.env))) (AP X i7 σ Q) X.xe s
def PS (X:Cx) (st:Stmt) (t:TS):Prop :=
 ∀ (i7:List (Addr × Obj)) (s:Shared) (σ:St) (H:Hp) (D:Ends),Inv X i7 σ H s->t D σ H->wpAny (model X.prog X.w) X.A (exec st X.env) (SP X i7 D) X.xe s
def PSs (X:Cx) (st:List Stmt) (t:TS):Prop :=
 ∀ (i7:List (Addr × Obj)) (s:Shared) (σ:St) (H:Hp) (D:Ends),Inv X i7 σ H s->t D σ H->wpAny (model X.prog X.w) X.A (execs st X.env) (SP X i7 D) X.xe s
def thn {α:Type} {t:Sem α} {Q Q':α->Shared->Prop} {M:Model} {A:Around} {E:Value->Shared->Prop} {s:Shared} (h:wpAny M A t Q E s) (hQ:∀ a s,Q a s->Q' a s):wpAny M A t Q' E s:=wpAny_mono h hQ λ_ _ x=>x
section
variable {X:Cx}
def tVar (i:Nat):TE:=λσ H Q=>∃ v,σ[i]?=some (some v)/\Q v H
def tC (v:V):TE:=λ_ H Q=>Q v H
def Zhv (hN:X.N[i]?=some x) (hv:Vis X.env.scope x) (hd:(x == ("__debug__":Str))=false:=by decide) (k6:(x == ("__classdict__":Str))=false:=by decide):PE X (.Name x pos) (tVar i):=by
 intro i7 s σ H Q I h;obtain ⟨v,e,h⟩:=h;obtain ⟨m,hn,hl⟩:=I.loc;obtain ⟨u,r,l⟩:=hl i x v hN e hv;have ji:EP X i7 σ Q u s:=⟨v,H,I,r,h⟩
 rcases l with ⟨hk,hm⟩ | ⟨hk,c,hc,hcell⟩
 ·exact wpAny_Name (wpAny_loadName_local I.ok.kind hk hn hm ji) hd
 ·rcases hk with hk | hk
  ·exact wpAny_Name (wpAny_loadName_cell I.ok.kind hk hc hcell ji) hd
  ·exact wpAny_Name (wpAny_loadName_free I.ok.kind hk hc hcell ji k6) hd
def Zd {i j pos}:PE X (.Constant (.int i) j pos) (tC (.int i)):=λ_ _ _ H _ I h=>wpAny_Constant_int ⟨.int i,H,I.tok _,⟨_,rfl⟩,h⟩
def Gi {b j pos}:PE X (.Constant (.bool b) j pos) (tC (.bl b)):=λ_ _ _ H _ I h=>Constant_bool ⟨.bl b,H,I,rfl,h⟩
def Vl {j pos}:PE X (.Constant .none j pos) (tC .non):=λ_ _ _ H _ I h=>Constant_none ⟨.non,H,I,rfl,h⟩
def Zl {x j pos}:PE X (.Constant (.str x) j pos) (tC (.str x)):=λ_ _ _ H _ I h=>Calls.Constant_str ⟨.str x,H,I.tok _,⟨_,rfl⟩,h⟩
def Gl (X:Cx) (x:Str):Prop:=X.env.kindOf x=some .globalImplicit
def W5 (I:Inv X i7 σ H s) (hg:Gl X x) (hm:X.mg x=some u) (h:Q u s)
  (hd:(x == ("__debug__":Str))=false:=by decide):wpAny (model X.prog X.w) X.A (eval (.Name x pos) X.env) Q E s :=
 Calls.Name_function_global I.ok.kind hg (Calls.loadGlobal_global (by rw [I.ok.glob]; exact I.mod.glob.keeps I.bk) hm h) hd
def Wp {E:Value->Shared->Prop} {i7:List (Addr × Obj)} {s:Shared} {σ:St} {H:Hp} {x:Str} {u:Value} {pos:Pos} {Q:Value->Shared->Prop} (I:Inv X i7 σ H s) (hg:Gl X x) (hm:X.mg x=none) (hv:bootBuiltins x=some u) (h:Q u s)
  (hn:x≠"__name__":=by decide) (hd:(x == ("__debug__":Str))=false:=by decide):wpAny (model X.prog X.w) X.A (eval (.Name x pos) X.env) Q E s:=by
 obtain ⟨mb,h1,h2⟩:=I.mod.blt;exact Calls.Name_function_global I.ok.kind hg (Calls.loadGlobal_builtin (by rw [I.ok.glob]; exact I.mod.glob.keeps I.bk) hm (by rw [I.ok.blt]; exact h1.keeps I.bk) ((h2 x hn).trans hv) h) hd
def Yg (hg:Gl X x) (hm:X.mg x=some u) (r:RelV v u) (hd:(x == ("__debug__":Str))=false:=by decide):PE X (.Name x pos) (tC v) :=
 λ_ _ _ H _ I h=>W5 I hg hm ⟨v,H,I,r,h⟩ hd
def Zl5 (hg:Gl X x) (hm:X.mg x=none) (hv:bootBuiltins x=some u) (r:RelV v u) (hn:x≠"__name__":=by decide) (hd:(x == ("__debug__":Str))=false:=by decide):PE X (.Name x pos) (tC v) :=
 λ_ _ _ H _ I h=>Wp I hg hm hv ⟨v,H,I,r,h⟩ hn hd
variable {a b:Expr} {ta tb:TE} {pos:Pos}
def PC (X:Cx) (op:CmpOp) (a b:Expr) (t:TE):Prop :=
 ∀ (i7:List (Addr × Obj)) (s:Shared) (σ:St) (H:Hp) (Q:VK),Inv X i7 σ H s->t σ H Q ->
  wpAny (model X.prog X.w) X.A (eval a X.env) (λv s₁=>wpAny (model X.prog X.w) X.A (eval b X.env) (λu s₂=>wpAny (model X.prog X.w) X.A (compareOp op v u) (EP X i7 σ Q) X.xe s₂) X.xe s₁) X.xe s
def tB (t:TE):TT:=λσ H Q=>t σ H λx H1=>∃ c,x=.bl c/\Q c H1
def Qq {op:CmpOp} {t:TE} (h:PC X op a b t) (h1:behindInMarks op b=false:=by first | exact nobehind _ (by decide) (by decide) | rfl):PE X (.Compare a [op] [b] pos) t:=λi7 s σ H Q I hw=>wpAny_Compare1 (h i7 s σ H Q I hw) h1
def Zcu {op:CmpOp} {t:TE} (h:PC X op a b t) (h1:behindInMarks op b=false:=by first | exact nobehind _ (by decide) (by decide) | rfl):PT X (.Compare a [op] [b] pos) (tB t):=by
 intro i7 s σ H Q I hw;refine wpAny_isTrue_Compare1 (thn (h i7 s σ H _ I hw) λv s1 h1=>thn h1 λu s2 h2=>thn h2 λc s3 zz0=>?_) h1;obtain ⟨x,H1,I1,r1,q1⟩:=zz0;obtain ⟨d,rfl,q⟩:=q1;cases r1;exact wpAny_truthy_bool ⟨H1,I1,q⟩
def Jt {e:Expr} {t:TE} (h:PE X e t) (he:∀ kc,isTrue e X.env kc=(do let v <- kc; standAt e.pos; holding [v] (truthy v)):=by intro _; rfl):PT X e (tB t):=by
 intro i7 s σ H Q I hw;refine isTrue_plain (thn (h i7 s σ H _ I hw) λv s1 zz1=>?_) (he _);obtain ⟨x,H1,I1,r1,q1⟩:=zz1;obtain ⟨d,rfl,q⟩:=q1;cases r1;exact wpAny_truthy_bool ⟨H1,I1,q⟩
variable {tA wz:TT} {rest:List Expr}
def tAnd (t u:TT):TT:=λσ H Q=>t σ H λc H1=>if c=true then u σ H1 Q else Q false H1
def tOr (t u:TT):TT:=λσ H Q=>t σ H λc H1=>if c=true then Q true H1 else u σ H1 Q
def tNot (t:TT):TT:=λσ H Q=>t σ H λc H1=>Q (!c) H1
def Oe (ha:PT X a tA):PW X (.BoolOp .And [a] pos) tA:=by
 intro wh i7 s σ H Q I h;refine isTrue_and (thn (ha i7 s σ H Q I h) λc s1 e=>?_)
 cases c with
 | true=>exact isTrue_and_nil e
 | false=>exact e
def Qn (ha:PT X a tA):PW X (.BoolOp .Or [a] pos) tA:=by
 intro wh i7 s σ H Q I h;refine isTrue_or (thn (ha i7 s σ H Q I h) λc s1 e=>?_)
 cases c with
 | false=>exact isTrue_or_nil e
 | true=>exact e
def Gf (ha:PT X a tA) (hb:PW X (.BoolOp .And (b :: rest) pos) wz):PW X (.BoolOp .And (a :: b :: rest) pos) (tAnd tA wz):=by
 intro wh i7 s σ H Q I h;refine isTrue_and (thn (ha i7 s σ H _ I h) λc s1 ja=>?_);obtain ⟨H1,I1,q1⟩:=ja
 cases c with
 | true=>exact hb wh i7 s1 σ H1 Q I1 q1
 | false=>exact ⟨H1,I1,q1⟩
def Q5 (ha:PT X a tA) (hb:PW X (.BoolOp .Or (b :: rest) pos) wz):PW X (.BoolOp .Or (a :: b :: rest) pos) (tOr tA wz):=by
 intro wh i7 s σ H Q I h;refine isTrue_or (thn (ha i7 s σ H _ I h) λc s1 ja=>?_);obtain ⟨H1,I1,q1⟩:=ja
 cases c with
 | true=>exact ⟨H1,I1,q1⟩
 | false=>exact hb wh i7 s1 σ H1 Q I1 q1
def Wt (ha:PT X a tA):PT X (.UnaryOp .Not a pos) (tNot tA):=by
 intro i7 s σ H Q I h;exact isTrue_not (ha i7 s σ H (λc H1=>Q (!c) H1) I h)
def Zom (ta tb:TE):TE:=λσ H Q=>ta σ H λx H1=>∃ c,x=.bl c/\if c=true then tb σ H1 Q else Q (.bl false) H1
def tOrV (ta tb:TE):TE:=λσ H Q=>ta σ H λx H1=>∃ c,x=.bl c/\if c=true then Q (.bl true) H1 else tb σ H1 Q
def Zoe (ta:TE):TE:=λσ H Q=>ta σ H λx H1=>∃ c,x=.bl c/\Q (.bl (!c)) H1
def Vk {op} {t:TE} (h:PE X a t):PE X (.BoolOp op [a] pos) t:=λi7 s σ H Q I hw=>BoolOp_one (h i7 s σ H Q I hw)
def Ux (ha:PE X a ta) (hb:PE X (.BoolOp .And (b :: rest) pos) tb):PE X (.BoolOp .And (a :: b :: rest) pos) (Zom ta tb):=by
 intro i7 s σ H Q I h;refine BoolOp_and (thn (ha i7 s σ H _ I h) λv s1 ja=>?_);obtain ⟨x,H1,I1,r1,q1⟩:=ja;obtain ⟨c,rfl,q1⟩:=q1;cases r1;refine wpAny_truthy_bool ?_
 cases c with
 | true=>exact hb i7 s1 σ H1 Q I1 q1
 | false=>exact ⟨.bl false,H1,I1,Z,q1⟩
def Zou (ha:PE X a ta) (hb:PE X (.BoolOp .Or (b :: rest) pos) tb):PE X (.BoolOp .Or (a :: b :: rest) pos) (tOrV ta tb):=by
 intro i7 s σ H Q I h;refine BoolOp_or (thn (ha i7 s σ H _ I h) λv s1 ja=>?_);obtain ⟨x,H1,I1,r1,q1⟩:=ja;obtain ⟨c,rfl,q1⟩:=q1;cases r1;refine wpAny_truthy_bool ?_
 cases c with
 | false=>exact hb i7 s1 σ H1 Q I1 q1
 | true=>exact ⟨.bl true,H1,I1,Z,q1⟩
def Zng (ha:PE X a ta):PE X (.UnaryOp .Not a pos) (Zoe ta):=by
 intro i7 s σ H Q I h;refine UnaryOp_ (thn (ha i7 s σ H _ I h) λv s1 ja=>?_);obtain ⟨x,H1,I1,r1,q1⟩:=ja;obtain ⟨c,rfl,q1⟩:=q1;cases r1;exact not_of (wpAny_truthy_bool ⟨.bl (!c),H1,I1,Z,q1⟩)
def tIf (t:TT) (ta tb:TE):TE:=λσ H Q=>t σ H λc H1=>if c=true then ta σ H1 Q else tb σ H1 Q
def Zjs {c:Expr} (hc:PT X c tA) (ha:PE X a ta) (hb:PE X b tb):PE X (.IfExp c a b pos) (tIf tA ta tb):=by
 intro i7 s σ H Q I h;refine wpAny_IfExp (thn (hc i7 s σ H _ I h) λd s1 ja=>?_);obtain ⟨H1,I1,q1⟩:=ja
 cases d with
 | true=>exact ha i7 s1 σ H1 Q I1 q1
 | false=>exact hb i7 s1 σ H1 Q I1 q1
end
def SqL (K:W.Frag) (H:Hp) (a:Addr) (xs:List V):Prop :=
 Rd H a (.lst xs) \/
  ∃ (o:Obj) (its:Array Value) (n:Nat),K.lookup a=some o/\o.cls=.type "list"/\o.dict=none/\o.data=.seq its n/\its.size<=sizeLine/\Vals xs its.toList
def SqT (K:W.Frag) (H:Hp) (a:Addr) (xs:List V):Prop :=
 Rd H a (.tup xs) \/
  ∃ (o:Obj) (its:Array Value) (n:Nat),K.lookup a=some o/\o.cls=.type "tuple"/\o.data=.seq its n/\its.size<=sizeLine/\Vals xs its.toList
def absV:Value->Option V
 | .none=>some .non
 | .bool b=>some (.bl b)
 | .int i _=>some (.int i)
 | .str x _=>some (.str x)
 | .bytes b _=>some (.byt b)
 | .float b _=>some (.flt b)
 | .ref a=>some (.ref a)
 | .type n=>some (.ty n)
 | _=>none
def RelV.abs (r:RelV x u):absV u=some x:=by
 cases x with
 | non=>cases r; rfl
 | bl _=>cases r; rfl
 | int _=>obtain ⟨t,rfl⟩:=r; rfl
 | str _=>obtain ⟨t,rfl⟩:=r; rfl
 | byt _=>obtain ⟨t,rfl⟩:=r; rfl
 | flt _=>obtain ⟨t,rfl⟩:=r; rfl
 | ref _=>cases r; rfl
 | ty _=>cases r; rfl
def RelV.inj (r:RelV x u) (q:RelV y u):x=y:=Ay (r.abs.symm.trans q.abs)
theorem Vals.inj:∀ {xs ys:List V} {us:List Value},Vals xs us->Vals ys us->xs=ys
 | _,_,_,.nil,.nil=>rfl
 | _,_,_,.cons r t,.cons r' t'=>by rw [r.inj r',Vals.inj t t']
section
variable {X:Cx} {i7:List (Addr × Obj)} {σ:St} {H:Hp} {s:Shared} {a:Addr} {xs ys:List V}
def SqL.of {K:W.Frag} (h:H a=some (.lst xs)):SqL K H a xs:=.inl (.inl h)
def SqT.of {K:W.Frag} (h:H a=some (.tup xs)):SqT K H a xs:=.inl (.inl h)
def Inv.list (I:Inv X i7 σ H s) (h:SqL X.K H a xs):∃ its:List Value,Vals xs its/\PlainL s.heap a its.toArray/\xs.length<=sizeLine:=by
 rcases h with h | ⟨o,its,n,hk,hc,hd,hs,hz,r⟩
 ·obtain ⟨z,its,n,r,e⟩:=h.ok I.hok
  exact ⟨its,r,⟨_,n,e,Z,Z,Z⟩,z⟩
 ·refine ⟨its.toList,r,⟨o,n,I.kIn a o hk,hc,hd,by simpa using hs⟩,?_⟩
  have e:=r.length;simp only [Array.length_toList] at e;lia
def Inv.tuple (I:Inv X i7 σ H s) (h:SqT X.K H a xs):∃ its:List Value,Vals xs its/\IsTup s.heap a its.toArray/\xs.length<=sizeLine:=by
 rcases h with h | ⟨o,its,n,hk,hc,hs,hz,r⟩
 ·obtain ⟨z,its,r,p⟩:=h.ok I.hok
  exact ⟨its,r,p,z⟩
 ·refine ⟨its.toList,r,⟨o,I.kIn a o hk,hc,n,by simpa using hs⟩,?_⟩
  have e:=r.length;simp only [Array.length_toList] at e;lia
def Inv.list_inj (I:Inv X i7 σ H s) (h:SqL X.K H a xs) (h':SqL X.K H a ys):xs=ys:=by
 obtain ⟨its,r,⟨o,n,e,_,_,d⟩,_⟩:=I.list h;obtain ⟨its',r',⟨o',n',e',_,_,d'⟩,_⟩:=I.list h';rw [e] at e'; cases e';rw [d] at d'
 injection d' with d1 _
 have:its=its':=by simpa using congrArg Array.toList d1
 subst this;exact r.inj r'
def Inv.tuple_inj (I:Inv X i7 σ H s) (h:SqT X.K H a xs) (h':SqT X.K H a ys):xs=ys:=by
 obtain ⟨its,r,⟨o,e,_,n,d⟩,_⟩:=I.tuple h;obtain ⟨its',r',⟨o',e',_,n',d'⟩,_⟩:=I.tuple h';rw [e] at e'; cases e';rw [d] at d'
 injection d' with d1 _
 have:its=its':=by simpa using congrArg Array.toList d1
 subst this;exact r.inj r'
end
abbrev Cx.wish (X:Cx) (E:Value->Shared->Prop):Cx:={ X with xe:=E }
abbrev Cx.nox (X:Cx):Cx:=X.wish λ_ _=>False
def Cx.Ok.wish {X:Cx} (ok:X.Ok) (E:Value->Shared->Prop):(X.wish E).Ok :=
 ⟨ok.mod,ok.kind,ok.glob,ok.blt,ok.above,ok.inj,ok.has,ok.cab,ok.hd,ok.frames,ok.stk,ok.exf,ok.bs,ok.bsz,ok.noex,ok.exfs,ok.funs,ok.frf⟩
def Cx.Ok.unwish {X:Cx} (ok:(X.wish E).Ok):X.Ok :=
 ⟨ok.mod,ok.kind,ok.glob,ok.blt,ok.above,ok.inj,ok.has,ok.cab,ok.hd,ok.frames,ok.stk,ok.exf,ok.bs,ok.bsz,ok.noex,ok.exfs,ok.funs,ok.frf⟩
section
variable {X:Cx} {i7:List (Addr × Obj)} {σ:St} {H:Hp} {s:Shared} {E:Value->Shared->Prop}
def Inv.wish (I:Inv X i7 σ H s) (E:Value->Shared->Prop):Inv (X.wish E) i7 σ H s:=⟨I.ok.wish E,I.os,I.bare,I.base,I.loc,I.cell,I.free,I.freeC,I.pin,I.hok,I.len⟩
def Inv.unwish (I:Inv (X.wish E) i7 σ H s):Inv X i7 σ H s:=⟨I.ok.unwish,I.os,I.bare,I.base,I.loc,I.cell,I.free,I.freeC,I.pin,I.hok,I.len⟩
def SP.unwish (h:SP (X.wish E) i7 D f s'):SP X i7 D f s':=by
 cases f with
 | next=>obtain ⟨σ',H',I,q⟩:=h; exact ⟨σ',H',I.unwish,q⟩
 | brk=>obtain ⟨σ',H',I,q⟩:=h; exact ⟨σ',H',I.unwish,q⟩
 | cont=>obtain ⟨σ',H',I,q⟩:=h; exact ⟨σ',H',I.unwish,q⟩
 | ret u=>obtain ⟨v,σ',H',I,r,q⟩:=h; exact ⟨v,σ',H',I.unwish,r,q⟩
def PSs.nox {st:List Stmt} {t:TS} (h:PSs X.nox st t):PSs X st t:=λi7 s σ H D I hw =>
 wpAny_mono (h i7 s σ H D (I.wish _) hw) (λ_ _ q=>q.unwish) λ_ _ z=>False.elim z
end
section
variable {X:Cx} {st:Stmt} {rest:List Stmt} {t u:TS} {e:Expr} {te:TE} {pos:Pos}
def Vp:TS:=λD σ H=>D.nx σ H
def tSeq (t u:TS):TS:=λD σ H=>t { D with nx:=u D } σ H
def Yc:PSs X [] Vp:=λ_ _ σ H _ I h=>wpAny_execs_nil ⟨σ,H,I,h⟩
def Ze (h1:PS X st t) (h2:PSs X rest u):PSs X (st :: rest) (tSeq t u):=by
 intro i7 s σ H D I h;refine wpAny_execs_cons (thn (h1 i7 s σ H { D with nx:=u D } I h) λf s1 q=>?_)
 cases f with
 | next =>
  obtain ⟨σ',H',I',q⟩:=q;exact h2 i7 s1 σ' H' D I' q
 | ret v=>exact q
 | brk=>exact q
 | cont=>exact q
def Zi (h1:PS X st t):PSs X [st] t:=by
 intro i7 s σ H D I h;refine wpAny_execs_cons (thn (h1 i7 s σ H D I h) λf s1 q=>?_)
 cases f with
 | next=>exact wpAny_execs_nil q
 | ret v=>exact q
 | brk=>exact q
 | cont=>exact q
def Zm5:TS:=λD σ H=>D.bk σ H
def Zjo:PS X (.Break pos) Zm5:=λ_ _ σ H _ I h=>wpAny_Break ⟨σ,H,I,h⟩
def Inv.quiet {i7:List (Addr × Obj)} {σ:St} {H:Hp} {s:Shared} (I:Inv X i7 σ H s):interactive X.env=false:=by simp [interactive,I.ok.kind]
def Zkz (te:TE):TS:=λD σ H=>te σ H λ_ H1=>D.nx σ H1
def Yw (he:PE X e te) (hs:swapsWith e none pos.line X.env=pure false:=by rfl):PS X (.Expr e pos) (Zkz te):=by
 intro i7 s σ H D I h;refine wpAny_Expr_any (thn (he i7 s σ H _ I h) λv s1 zz2=>?_) I.quiet hs;obtain ⟨x,H1,I1,r1,q1⟩:=zz2;exact ⟨σ,H1,I1,q1⟩
def tRet (te:TE):TS:=λD σ H=>te σ H D.rt
def Zw (he:PE X e te):PS X (.Return (some e) pos) (tRet te):=by
 intro i7 s σ H D I h;refine wpAny_Return_some (thn (he i7 s σ H _ I h) λv s1 zz3=>?_);obtain ⟨x,H1,I1,r1,q1⟩:=zz3;exact ⟨x,σ,H1,I1,r1,q1⟩
def tIfS (c:TT) (t u:TS):TS:=λD σ H=>c σ H λb H1=>if b=true then t D σ H1 else u D σ H1
def Ym {c:Expr} {a b:List Stmt} {tc:TT} (hc:PT X c tc) (ha:PSs X a t) (hb:PSs X b u):PS X (.If c a b pos) (tIfS tc t u):=by
 intro i7 s σ H D I h;refine wpAny_If (thn (hc i7 s σ H _ I h) λd s1 ja=>?_);obtain ⟨H1,I1,q1⟩:=ja
 cases d with
 | true=>exact ha i7 s1 σ H1 D I1 q1
 | false=>exact hb i7 s1 σ H1 D I1 q1
def Zg3:TS:=λ_ _ _=>False
def Zjn:PS X st Zg3:=λ_ _ _ _ _ _ h=>h.elim
def X0:PSs X sts Zg3:=λ_ _ _ _ _ _ h=>h.elim
end
abbrev TG:=V->St->Hp->(St->Hp->Prop)->Prop
abbrev TGs:=List V->St->Hp->(St->Hp->Prop)->Prop
def PG (X:Cx) (ue:Expr) (t:TG):Prop :=
 ∀ (i7:List (Addr × Obj)) (s:Shared) (σ:St) (H:Hp) (v:V) (u:Value) (Q:St->Hp->Prop),Inv X i7 σ H s->RelV v u->t v σ H Q ->
  wpAny (model X.prog X.w) X.A (assign ue X.env u) (λ_ s'=>∃ σ' H',Inv X i7 σ' H' s'/\Q σ' H') X.xe s
def PGs (X:Cx) (ts:List Expr) (t:TGs):Prop :=
 ∀ (i7:List (Addr × Obj)) (s:Shared) (σ:St) (H:Hp) (vs:List V) (us:List Value) (Q:St->Hp->Prop),Inv X i7 σ H s->Vals vs us->t vs σ H Q ->
  wpAny (model X.prog X.w) X.A (assignInOrder ((assignEach ts X.env).map (·.2)) us) (λ_ s'=>∃ σ' H',Inv X i7 σ' H' s'/\Q σ' H') X.xe s
abbrev TSet:=V->V->V->Hp->(Hp->Prop)->Prop
def PSet (X:Cx) (t:TSet):Prop :=
 ∀ (i7:List (Addr × Obj)) (s:Shared) (σ:St) (H:Hp) (o i v:V) (ov iv u:Value) (Q:Hp->Prop),Inv X i7 σ H s->RelV o ov->RelV i iv->RelV v u->t o i v H Q ->
  wpAny (model X.prog X.w) X.A (setItem ov iv u) (λ_ s'=>∃ H',Inv X i7 σ H' s'/\Q H') X.xe s
abbrev TIp:=V->V->Hp->VK->Prop
def PIp (X:Cx) (op:Operator) (t:TIp):Prop :=
 ∀ (i7:List (Addr × Obj)) (s:Shared) (σ:St) (H:Hp) (x y:V) (v u:Value) (Q:VK),Inv X i7 σ H s->RelV x v->RelV y u->t x y H Q ->
  wpAny (model X.prog X.w) X.A (inplaceOp op v u) (EP X i7 σ Q) X.xe s
section
variable {X:Cx} {pos:Pos}
def Z2 (i:Nat):TG:=λv σ H Q=>Q (σ.set i (some v)) H
def Z0 (hN:X.N.Nodup) (hi:X.N[i]?=some x) (hx:Loc X.env.scope x) (hf:X.fn x=true\/X.env.scope.names.lookup x=some .local:=by first | exact .inl rfl | exact .inr rfl | assumption):PG X (.Name x pos) (Z2 i):=by
 intro i7 s σ H v u Q I r h;exact wpAny_assign_Name (Jb I hN hi hx r (λs' I'=>⟨_,H,I',h⟩) hf)
def gNil:TGs:=λvs σ H Q=>vs=[]/\Q σ H
def Zo6 (t:TG) (u:TGs):TGs:=λvs σ H Q=>∃ v r,vs=v :: r/\t v σ H λσ' H'=>u r σ' H' Q
def Qd:PGs X [] gNil:=by
 intro i7 s σ H vs us Q I r h;obtain ⟨e,h⟩:=h;subst e;cases r;exact assignInOrder_nil ⟨σ,H,I,h⟩
def Xo {e:Expr} {es:List Expr} {t:TG} {u:TGs} (h1:PG X e t) (h2:PGs X es u)
  (hs:(assignEach (e :: es) X.env).map (·.2)=assign e X.env :: (assignEach es X.env).map (·.2):=by rfl):PGs X (e :: es) (Zo6 t u):=by
 intro i7 s σ H vs us Q I r h;obtain ⟨v,vr,e1,h⟩:=h;subst e1
 cases r with
 | cons r rr =>
  rw [hs];refine assignInOrder_cons (thn (h1 i7 s σ H _ _ _ I r h) λ_ s1 ja=>?_);obtain ⟨σ1,H1,I1,q1⟩:=ja;exact h2 i7 s1 σ1 H1 _ _ Q I1 rr q1
def gTup (K:W.Frag) (n:Nat) (t:TGs):TG:=λv σ H Q=>∃ a xs,v=.ref a/\SqT K H a xs/\xs.length=n/\t xs σ H Q
def Gg (hc:X.calm=true) (h:PGs X es t)
  (hn:(assignEach es X.env).length=n:=by rfl) (j5:(assignEach es X.env).findIdx? (·.1)=none:=by rfl):PG X (.Tuple es k pos) (gTup X.K n t):=by
 intro i7 s σ H v u Q I r hw;obtain ⟨a,xs,e1,hq,hl,hw⟩:=hw;subst e1;cases r;obtain ⟨its,rv,ht,hz⟩:=I.tuple hq;refine assign_Tuple_tuple (I.ok.hd hc) ht (by simp [hn,<- hl,rv.length]) j5 λh' hx=>?_;have I1:Inv X i7 σ H { s with heap:=h' }:=I.kept (t':=s.toks) λb o e=>hx b o (At (Ap e)) e;exact h i7 _ σ H xs _ Q I1 (by simpa using rv) hw
def gSub (to ti:TE) (t:TSet):TG:=λv σ H Q=>to σ H λo H1=>ti σ H1 λi H2=>t o i v H2 λH3=>Q σ H3
def Gh {o i:Expr} {to ti:TE} {t:TSet} (ho:PE X o to) (hi:PE X i ti) (hs:PSet X t)
  (ha:∀ v,assign (.Subscript o i pos) X.env v=(do
   let ov <- holding [v] (eval o X.env)
   let iv <- holding [v,ov] (eval i X.env)
   standAt pos
   holding [v,ov,iv] (setItem ov iv v)
   release [v,ov,iv] []):=by intro _; rfl):PG X (.Subscript o i pos) (gSub to ti t):=by
 intro i7 s σ H v u Q I r h;rw [ha];refine Am (wpAny_holding (thn (ho i7 s σ H _ I h) λov s1 ja=>?_));obtain ⟨x,H1,I1,r1,q1⟩:=ja;refine Am (wpAny_holding (thn (hi i7 s1 σ H1 _ I1 q1) λiv s2 ja=>?_));obtain ⟨y,H2,I2,r2,q2⟩:=ja;refine Am (wpAny_standAt (Am (wpAny_holding (thn (hs i7 s2 σ H2 x y v ov iv u _ I2 r1 r2 r q2) λ_ s3 ja=>?_))));obtain ⟨H3,I3,q3⟩:=ja;exact wpAny_release ⟨σ,H3,I3,q3⟩
def tAsg (te:TE) (g:TG):TS:=λD σ H=>te σ H λx H1=>g x σ H1 D.nx
def Uw {tg e:Expr} {te:TE} {g:TG} (he:PE X e te) (hg:PG X tg g) (hs:swapsWithSole [tg] e pos.line X.env=pure false:=by rfl) (hw:swappedStores [tg] e X.env=pure none:=by rfl)
  (h1:(assignEach [tg] X.env).map (·.2)=[assign tg X.env]:=by rfl):PS X (.Assign [tg] e pos) (tAsg te g):=by
 intro i7 s σ H D I h;refine wpAny_Assign_stores (thn (he i7 s σ H _ I h) λv s1 zz4=>?_) hs hw;obtain ⟨x,H1,I1,r1,q1⟩:=zz4;rw [h1];exact thn (hg i7 s1 σ H1 x v _ I1 r1 q1) λ_ s2 q=>q
def Zj {i:Nat} {x:Str} {e:Expr} {te:TE} {j8:Pos} (hN:X.N.Nodup) (hi:X.N[i]?=some x) (hx:Loc X.env.scope x) (he:PE X e te) (hs:swapsWith e (some (.Name x j8)) pos.line X.env=pure false:=by rfl) (hf:X.fn x=true\/X.env.scope.names.lookup x=some .local:=by first | exact .inl rfl | exact .inr rfl | assumption) :
  PS X (.Assign [.Name x j8] e pos) (tAsg te (Z2 i)):=by
 intro i7 s σ H D I h;refine wpAny_Assign_Name (thn (he i7 s σ H _ I h) λv s1 zz5=>?_) hs;obtain ⟨y,H1,I1,r1,q1⟩:=zz5;exact Jb I1 hN hi hx r1 (λs2 I2=>⟨_,H1,I2,q1⟩) hf
def tPar (i j:Nat) (ta:TA):TS:=λD σ H=>ta σ H λvs H1=>∃ v w,vs=[v,w]/\D.nx ((σ.set i (some v)).set j (some w)) H1
def Znc {i j:Nat} {x y:Str} {a b:Expr} {ta:TA} {px py pt:Pos} {kt k2 pt2} (hc:X.calm=true) (hN:X.N.Nodup) (hi:X.N[i]?=some x) (hj:X.N[j]?=some y) (hij:i≠j)
  (hx:X.env.scope.names.lookup x=some .local) (hy:X.env.scope.names.lookup y=some .local) (ha:PA X [a,b] ta)
  (hw:swappedStores [.Tuple [.Name x px,.Name y py] kt pt] (.Tuple [a,b] k2 pt2) X.env=pure (some [x,y]))
  (hs:swapsWithSole [.Tuple [.Name x px,.Name y py] kt pt] (.Tuple [a,b] k2 pt2) pos.line X.env=pure false:=by rfl) :
  PS X (.Assign [.Tuple [.Name x px,.Name y py] kt pt] (.Tuple [a,b] k2 pt2) pos) (tPar i j ta):=by
 intro i7 s σ H D I h;rw [exec_Assign_arm];refine Am (wpAny_standAt ?_);rw [hs];refine Am (wpAny_pure ?_);rw [if_neg (by decide)];refine Am (Tuple_ (thn (ha _ i7 s σ H _ I h) λus s1 ja=>?_));obtain ⟨vs,H1,I1,r1,q1⟩:=ja;obtain ⟨v,w,e1,q1⟩:=q1;subst e1
 obtain ⟨u1,u2,rfl,rv,lx⟩:∃ u1 u2,us=[u1,u2]/\RelV v u1/\RelV w u2:=by
  cases r1 with
  | cons p q =>
   cases q with
   | cons p' q' =>
    cases q';exact ⟨_,_,Z,p,p'⟩
 refine wpAny_newObj_type ?_ (by show 2<=sizeLine; decide);have I2:Inv X i7 σ H1 { s1 with heap:=s1.heap.push { cls:=.type "tuple",data:=.seq [u1,u2].toArray } }:=I1.kept (t':=s1.toks) λb o e=>Al _ e;rw [hw];refine Am (wpAny_pure ?_);show wpAny (model X.prog X.w) X.A (do rule "assign.swapped-stores"; let items <- unpackItems (.ref s1.heap.objs.size) 2 none; assignInOrder [λv=>bindName X.env y v,λv=>bindName X.env x v] items.reverse; pure Flow.next) _ _ _;refine Am (wpAny_rule (Am (unpackItems_tuple (items:=#[u1,u2]) (I.ok.hd hc) (IsTup.new s1.heap _) λh' kj=>?_)));have I3:=I2.kept (h':=h') (t':=s1.toks) λb o e=>kj b o (At (Ap e)) e;show wpAny _ _ (assignInOrder [λv=>bindName X.env y v,λv=>bindName X.env x v] [u2,u1] >>= λ_=>pure Flow.next) _ _ _;refine Am (assignInOrder_cons (wpAny_bindName (Jb I3 hN hj (.inl hy) lx (λs2 I4=>?_) (.inr hy))));refine assignInOrder_cons (wpAny_bindName (Jb I4 hN hi (.inl hx) rv (λs3 I5=>assignInOrder_nil (wpAny_pure ?_)) (.inr hx)));rw [List.set_comm _ _ (Ne.symm hij)] at I5;exact ⟨_,H1,I5,q1⟩
def tAug (i:Nat) (te:TE) (ti:TIp):TS:=λD σ H=>∃ x,σ[i]?=some (some x)/\te σ H λy H1=>ti x y H1 λz H2=>D.nx (σ.set i (some z)) H2
def Zhp {i:Nat} {x:Str} {e:Expr} {te:TE} {op:Operator} {ti:TIp} {j8:Pos} (hN:X.N.Nodup) (hi:X.N[i]?=some x) (hx:Loc X.env.scope x) (he:PE X e te) (ho:PIp X op ti) (hf:X.fn x=true\/X.env.scope.names.lookup x=some .local:=by first | exact .inl rfl | exact .inr rfl | assumption) :
  PS X (.AugAssign (.Name x j8) op e pos) (tAug i te ti):=by
 intro i7 s σ H D I h;obtain ⟨v,e1,h⟩:=h;obtain ⟨m,hn,hl⟩:=I.loc
 have vis:Vis X.env.scope x:=by rcases hx with k | k; exact .inl k; exact .inr (.inl k)
 obtain ⟨u,r,l⟩:=hl i x v hi e1 vis;refine wpAny_AugAssign_Name ?_;have go:wpAny (model X.prog X.w) X.A (eval e X.env) (λw s₂=>wpAny (model X.prog X.w) X.A (inplaceOp op u w) (λr s₃=>wpAny (model X.prog X.w) X.A (storeName X.env x r) (λ_=>SP X i7 D .next) X.xe s₃) X.xe s₂) X.xe s:=by
  refine thn (he i7 s σ H _ I h) λw s1 ja=>?_
  obtain ⟨y,H1,I1,r1,q1⟩:=ja
  refine thn (ho i7 s1 σ H1 v y u w _ I1 r r1 q1) λz s2 ja=>?_
  obtain ⟨zv,H2,I2,r2,q2⟩:=ja
  exact Jb I2 hN hi hx r2 (λs3 I3=>⟨_,H2,I3,q2⟩) hf
 rcases l with ⟨hk,hm⟩ | ⟨hk,c,hc,hcell⟩
 ·exact wpAny_loadName_local I.ok.kind hk hn hm go
 ·rcases hk with hk | hk
  ·exact wpAny_loadName_cell I.ok.kind hk hc hcell go
  ·rcases hx with k | k
   ·have:X.env.scope.names.lookup x=some .free:=hk
    rw [k] at this; cases this
   ·have:X.env.scope.names.lookup x=some .free:=hk
    rw [k] at this; cases this
def ipI (f:Int->Int->Int):TIp:=λx y H Q=>∃ i j,x=.int i/\y=.int j/\Q (.int (f i j)) H
def Zny:PIp X .Add (ipI λi j=>i + j):=by
 intro i7 s σ H x y v u Q I r1 r2 h;obtain ⟨i,j,e1,e2,q⟩:=h;subst e1; subst e2;obtain ⟨t,rfl⟩:=r1;obtain ⟨t',rfl⟩:=r2;exact iadd_int ⟨.int _,H,I.tok _,⟨_,Z⟩,q⟩
end
section
variable {X:Cx} {pos:Pos}
def Kx (c:TT) (tb:TS):TS:=λD σ H=>∃ W:Nat->St->Hp->Prop,(∃ m,W m σ H)/\∀ m σ H,W m σ H ->
 c σ H λb H1=>if b=true then ∃ N:St->Hp->Prop,(∀ σ' H',N σ' H'->∃ m',m' < m/\W m' σ' H')/\tb { D with nx:=N,ct:=N,bk:=D.nx } σ H1 else D.nx σ H1
def Jf {c:Expr} {body:List Stmt} {tc:TT} {tb:TS} (hp:PassesOwn (model X.prog X.w) X.A X.env X.xe) (hc:PT X c tc) (hb:PSs X body tb):PS X (.While c body [] pos) (Kx tc tb):=by
 intro i7 s σ H D I h;obtain ⟨W,⟨m0,w0⟩,ko⟩:=h;refine wpAny_While (codeAny_whileLoop (λn s'=>∃ σ' H',Inv X i7 σ' H' s'/\W n σ' H') ?_ m0 ⟨σ,H,I,w0⟩);rintro n s1 ⟨σ1,H1,I1,w1⟩;refine wpAny_passesOwn hp (thn (hc i7 s1 σ1 H1 _ I1 (ko n σ1 H1 w1)) λb s2 ja=>?_);obtain ⟨H2,I2,q2⟩:=ja
 cases b with
 | true =>
  obtain ⟨N,hN,q2⟩:=q2;rw [if_pos rfl];refine wpAny_passesOwn hp (thn (hb i7 s2 σ1 H2 _ I2 q2) λf s3 q3=>?_)
  cases f with
  | next =>
   obtain ⟨σ3,H3,I3,n3⟩:=q3;obtain ⟨m',hm,w3⟩:=hN σ3 H3 n3;exact ⟨m',hm,σ3,H3,I3,w3⟩
  | cont =>
   obtain ⟨σ3,H3,I3,n3⟩:=q3;obtain ⟨m',hm,w3⟩:=hN σ3 H3 n3;exact ⟨m',hm,σ3,H3,I3,w3⟩
  | brk=>exact q3
  | ret v=>exact q3
 | false =>
  rw [if_neg Bool.false_ne_true];exact wpAny_execs_nil ⟨σ1,H2,I2,q2⟩
end
structure It where
 go:Nat->Hp->Prop
 yld:Nat->Hp->V->Hp->Prop
 stop:Nat->Hp->Prop
def FpOk (X:Cx) (i7:List (Addr × Obj)) (H:Hp) (b:Addr):Prop :=
 H b=none/\b≠X.env.locals/\b ∉ X.fs/\(b∈X.ex\/X.s₀.heap.objs.size<=b)/\(∀ x c,X.env.cells.lookup x=some c->c≠b)/\∀ p∈X.pn ++ i7,p.1≠b
def Inv.fpOk {X:Cx} {i7:List (Addr × Obj)} {σ:St} {H H':Hp} {s:Shared} {b:Addr} (I:Inv X i7 σ H s) (hb:s.heap.objs.size<=b) (hn:H' b=none):FpOk X i7 H' b:=by
 refine ⟨hn,Nat.ne_of_gt (Ah I.lt hb),I.nofs hb,.inr (Nat.le_trans I.sz hb),λx c e z=>?_,λp hp z=>?_⟩
 ·obtain ⟨v,q⟩:=I.cell x c e
  exact absurd (Ah q.lt (by rw [z]; exact hb)) (Nat.lt_irrefl _)
 ·exact absurd (Ah (Ap (I.pin p hp).1) (by rw [z]; exact hb)) (Nat.lt_irrefl _)
structure Turn (P:Program) (w:World) (K:W.Frag) (tg:Expr) (J:It) (fp:List Addr) (it:Addr) (tn:Nat->Heap->Prop):Prop where
 mem:it∈fp
 obj:∀ i h,tn i h->∀ b∈fp,∃ o,h.get? b=some o/\∀ v,o.data≠.cell v
 keep:∀ i h h',tn i h->(∀ b∈fp,∀ o,h.get? b=some o->h'.get? b=some o)->tn i h'
 item:∀ (X:Cx),X.prog=P->X.w=w->X.K=K->X.calm=true->∀ (i:Nat) (i7:List (Addr × Obj)) (s:Shared) (σ:St) (H:Hp) (E:Value->Shared->Prop),Inv X i7 σ H s->(∀ b∈fp,FpOk X i7 H b)->tn i s.heap->J.go i H ->
  wpAny (model P w) X.A (pyNext (.ref it)) (λr s1=>∃ u,r=some u /\
   wpAny (model P w) X.A (letOwnedTupleGo tg (.ref it) u) (λ_ s2=>∃ x H',Inv X i7 σ H' s2/\RelV x u/\J.yld i H x H'/\tn (i + 1) s2.heap/\∀ b∈fp,H' b=none) E s1) E s
 done:∀ (X:Cx),X.prog=P->X.w=w->X.K=K->X.calm=true->∀ (i:Nat) (i7:List (Addr × Obj)) (s:Shared) (σ:St) (H:Hp) (E:Value->Shared->Prop),Inv X i7 σ H s->(∀ b∈fp,FpOk X i7 H b)->tn i s.heap->J.stop i H ->
  wpAny (model P w) X.A (pyNext (.ref it)) (λr s1=>r=none/\Inv X i7 σ H s1) E s
 self:∀ (A:Around) (i:Nat) (s:Shared) (Q:Value->Shared->Prop) (E:Value->Shared->Prop),tn i s.heap->Q (.ref it) s->wpAny (model P w) A (pyIter (.ref it)) Q E s
abbrev TI:=St->Hp->(It->Hp->Prop)->Prop
def PIE (X:Cx) (i7:List (Addr × Obj)) (σ:St) (tg:Expr) (R:It->Hp->Prop) (qk:Value) (s2:Shared):Prop :=
 ∃ (it:Addr) (fp:List Addr) (tn:Nat->Heap->Prop) (J:It) (H':Hp),qk=.ref it/\Inv X i7 σ H' s2/\Turn X.prog X.w X.K tg J fp it tn/\tn 0 s2.heap/\(∀ b∈fp,FpOk X i7 H' b)/\R J H'
def PI (X:Cx) (tg iter:Expr) (wi:TI):Prop :=
 ∀ (i7:List (Addr × Obj)) (s:Shared) (σ:St) (H:Hp) (R:It->Hp->Prop),Inv X i7 σ H s->wi σ H R ->
  wpAny (model X.prog X.w) X.A (eval iter X.env) (λv s1=>wpAny (model X.prog X.w) X.A (pyIter v) (PIE X i7 σ tg R) X.xe s1) X.xe s
def Ol {s:Shared} {o:Obj} (ho:s.heap.get? it=some o) (hc:o.cls=.type n) (hd:o.data=.fields vs)
    (hn:["enumerate","zip","dict_itemiterator","dict_reverseitemiterator","odict_iterator","itertools.zip_longest","itertools.pairwise"].contains n=false) (hQ:Q () s):wpAny M A (letOwnedTupleGo tg (.ref it) u) Q E s:=by
  unfold letOwnedTupleGo
  cases tg <;> first
    | exact wpAny_pure hQ
    | (cases u <;> first
        | exact wpAny_pure hQ
        | (refine Am (wpAny_load ho ?_)
           rw [hc,hd];show wpAny M A (if (["enumerate","zip","dict_itemiterator","dict_reverseitemiterator","odict_iterator","itertools.zip_longest","itertools.pairwise"].contains n && vs[0]? == some (rawInt _))=true then _ else _) Q E s;rw [if_neg (by intro h; rw [hn,Bool.false_and] at h; cases h)]
           exact wpAny_pure hQ))
def Itl (K:W.Frag) (a:Addr):It :=
 ⟨λi H=>∃ xs x,SqL K H a xs/\xs[i]?=some x,λi H x H'=>H'=H/\∀ xs,SqL K H a xs->xs[i]?=some x,λi H=>∃ xs,SqL K H a xs/\xs.length<=i⟩
def Itt (K:W.Frag) (a:Addr):It :=
 ⟨λi H=>∃ xs x,SqT K H a xs/\xs[i]?=some x,λi H x H'=>H'=H/\∀ xs,SqT K H a xs->xs[i]?=some x,λi H=>∃ xs,SqT K H a xs/\xs.length<=i⟩
def Itr (lo:Int) (n:Nat):It:=⟨λi _=>i < n,λi H x H'=>H'=H/\x=.int (lo + i),λi _=>n<=i⟩
def Zg1 {P:Program} {w:World} {K:W.Frag} {tg:Expr} (a it:Addr):Turn P w K tg (Itl K a) [it] it (λi h=>h.IsListIter it a i) where
 mem:=by simp
 obj:=λi h st b hb=>by
  have e:b=it:=by simpa using hb
  subst e;obtain ⟨o,e,c,d⟩:=st;exact ⟨o,e,λv z=>by rw [d] at z; cases z⟩
 keep:=λi h h' st k=>st.at λo e=>k it (by simp) o e
 item:=by
  intro X hP hw hK hc i i7 s σ H E I hf st hg;subst hP hw hK;obtain ⟨xs,x,hq,hx⟩:=hg;obtain ⟨its,rv,p,hz⟩:=I.list hq;obtain ⟨u,hu,ru⟩:=rv.get hx;obtain ⟨f0,f1,f2,f3,f4,f5⟩:=hf it (by simp);refine wpAny_pyNext_list_item st p.isList (x:=u) (by simpa using hu) λh' kh sb=>?_;have I1:Inv X i7 σ H { s with heap:=h' }:=I.turned (t':=s.toks) (λb o hb e=>(sb.2 b hb).trans e) f0 f1 f3 f4 f5;obtain ⟨o,e,c,d⟩:=id kh;exact ⟨u,Z,Ol (s:={ s with heap:=h' }) e c d (by decide) ⟨x,H,I1,ru,⟨Z,λys hy=>by rw [I.list_inj hy hq]; exact hx⟩,kh,λb hb=>(hf b hb).1⟩⟩
 done:=by
  intro X hP hw hK hc i i7 s σ H E I hf st hg;subst hP hw hK;obtain ⟨xs,hq,hx⟩:=hg;obtain ⟨its,rv,p,hz⟩:=I.list hq;obtain ⟨f0,f1,f2,f3,f4,f5⟩:=hf it (by simp);have hl:=rv.length;exact wpAny_pyNext_list_end (I.ok.hd hc) st p.isList (by simp; lia) λh' eb=>⟨rfl,I.turned (t':=s.toks) (λb o hb e=>eb b o hb e) f0 f1 f3 f4 f5⟩
 self:=λ_ _ _ _ _ st h=>wpAny_pyIter_listiter st h
def Zfn {P:Program} {w:World} {K:W.Frag} {tg:Expr} (a it:Addr):Turn P w K tg (Itt K a) [it] it (λi h=>h.IsTupleIter it a i) where
 mem:=by simp
 obj:=λi h st b hb=>by
  have e:b=it:=by simpa using hb
  subst e;obtain ⟨o,e,c,d⟩:=st;exact ⟨o,e,λv z=>by rw [d] at z; cases z⟩
 keep:=λi h h' st k=>st.at λo e=>k it (by simp) o e
 item:=by
  intro X hP hw hK hc i i7 s σ H E I hf st hg;subst hP hw hK;obtain ⟨xs,x,hq,hx⟩:=hg;obtain ⟨its,rv,p,hz⟩:=I.tuple hq;obtain ⟨u,hu,ru⟩:=rv.get hx;obtain ⟨f0,f1,f2,f3,f4,f5⟩:=hf it (by simp);refine wpAny_pyNext_tuple_item st (show s.heap.IsTuple a its.toArray from p) (x:=u) (by simpa using hu) λh' kh sb=>?_;have I1:Inv X i7 σ H { s with heap:=h' }:=I.turned (t':=s.toks) (λb o hb e=>(sb.2 b hb).trans e) f0 f1 f3 f4 f5;obtain ⟨o,e,c,d⟩:=id kh;exact ⟨u,Z,Ol (s:={ s with heap:=h' }) e c d (by decide) ⟨x,H,I1,ru,⟨Z,λys hy=>by rw [I.tuple_inj hy hq]; exact hx⟩,kh,λb hb=>(hf b hb).1⟩⟩
 done:=by
  intro X hP hw hK hc i i7 s σ H E I hf st hg;subst hP hw hK;obtain ⟨xs,hq,hx⟩:=hg;obtain ⟨its,rv,p,hz⟩:=I.tuple hq;obtain ⟨f0,f1,f2,f3,f4,f5⟩:=hf it (by simp);have hl:=rv.length;exact wpAny_pyNext_tuple_end (I.ok.hd hc) st (show s.heap.IsTuple a its.toArray from p) (by simp; lia) λh' eb=>⟨rfl,I.turned (t':=s.toks) (λb o hb e=>eb b o hb e) f0 f1 f3 f4 f5⟩
 self:=λ_ _ _ _ _ st h=>wpAny_pyIter_tupleiter st h
def Zfo {P:Program} {w:World} {K:W.Frag} {tg:Expr} (it:Addr) (lo:Int) (n:Nat):Turn P w K tg (Itr lo n) [it] it (λi h=>IsRangeIter h it (lo + (i:Nat) * 1) ((n:Int) - (i:Nat)) 1) where
 mem:=by simp
 obj:=λi h st b hb=>by
  have e:b=it:=by simpa using hb
  subst e;exact ⟨_,st,λv z=>by
   have z':Data.fields _=Data.cell v:=z
   cases z'⟩
 keep:=λi h h' st k=>k it (by simp) _ st
 item:=by
  intro X hP hw hK hc i i7 s σ H E I hf st hg;subst hP hw hK;obtain ⟨f0,f1,f2,f3,f4,f5⟩:=hf it (by simp);have W:=Walks.range (prog:=X.prog) (w:=X.w) (I.ok.hd hc) it lo 1 n;refine W.item i s _ _ hg st λv h' tk hv kh kk=>?_;obtain ⟨t,rfl⟩:=hv;have I1:Inv X i7 σ H { s with heap:=h',toks:=tk }:=I.turned (λb o hb e=>kk b o (by simpa using hb) e) f0 f1 f3 f4 f5;refine ⟨_,Z,Ol (s:={ s with heap:=h',toks:=tk }) (n:="range_iterator") kh rfl rfl (by decide) ⟨.int (lo + i),H,I1,⟨t,?_⟩,⟨rfl,rfl⟩,kh,λb hb=>(hf b hb).1⟩⟩;rw [Int.mul_one]
 done:=by
  intro X hP hw hK hc i i7 s σ H E I hf st hg;subst hP hw hK;obtain ⟨f0,f1,f2,f3,f4,f5⟩:=hf it (by simp);exact wpAny_pyNext_range_end (I.ok.hd hc) st (by have:n<=i:=hg; lia) λh' eb=>⟨rfl,I.turned (t':=s.toks) (λb o hb e=>eb b o hb e) f0 f1 f3 f4 f5⟩
 self:=λ_ _ _ _ _ st h=>wpAny_pyIter_rangeiter st h
section
variable {X:Cx} {tg:Expr}
def Zo0 (K:W.Frag) (tl:TE):TI:=λσ H R=>tl σ H λx H1=>∃ a,x=.ref a/\(∃ xs,SqL K H1 a xs)/\R (Itl K a) H1
def iTup (K:W.Frag) (tl:TE):TI:=λσ H R=>tl σ H λx H1=>∃ a,x=.ref a/\(∃ xs,SqT K H1 a xs)/\R (Itt K a) H1
def Xf {l:Expr} {tl:TE} (hl:PE X l tl):PI X tg l (Zo0 X.K tl):=by
 intro i7 s σ H R I h;refine thn (hl i7 s σ H _ I h) λv s1 ja=>?_;obtain ⟨x,H1,I1,r1,q1⟩:=ja;obtain ⟨a,e,⟨xs,hq⟩,q⟩:=q1;subst e;cases r1;obtain ⟨its,rv,p,hz⟩:=I1.list hq;refine wpAny_pyIter_list p.isList ?_;refine ⟨s1.heap.objs.size,[s1.heap.objs.size],_,_,H1,Z,I1.kept (t':=s1.toks) λb o e=>Al _ e,Zg1 a _,⟨_,Aq _ Z,Z,Z⟩,λb hb=>?_,q⟩;have e:b=s1.heap.objs.size:=by simpa using hb
 subst e;exact I1.fpOk (Ao _) (I1.hok.fresh (Ao _))
def Zhu {l:Expr} {tl:TE} (hl:PE X l tl):PI X tg l (iTup X.K tl):=by
 intro i7 s σ H R I h;refine thn (hl i7 s σ H _ I h) λv s1 ja=>?_;obtain ⟨x,H1,I1,r1,q1⟩:=ja;obtain ⟨a,e,⟨xs,hq⟩,q⟩:=q1;subst e;cases r1;obtain ⟨its,rv,p,hz⟩:=I1.tuple hq;refine wpAny_pyIter_tuple (show s1.heap.IsTuple a its.toArray from p) ?_;refine ⟨s1.heap.objs.size,[s1.heap.objs.size],_,_,H1,Z,I1.kept (t':=s1.toks) λb o e=>Al _ e,Zfn a _,⟨_,Aq _ Z,Z,Z⟩,λb hb=>?_,q⟩;have e:b=s1.heap.objs.size:=by simpa using hb
 subst e;exact I1.fpOk (Ao _) (I1.hok.fresh (Ao _))
def Zjl {i7:List (Addr × Obj)} {σ:St} {H:Hp} {s:Shared} {R:It->Hp->Prop} {E:Value->Shared->Prop} {lo hi:Int} {t u v:Tok} {tk:Nat} (I:Inv X i7 σ H s) (h1:-(2 ^ 62)<=lo) (h2:lo < 2 ^ 62) (h3:-(2 ^ 62)<=hi) (h4:hi < 2 ^ 62)
  (q:R (Itr lo (hi - lo).toNat) H):wpAny (model X.prog X.w) X.A (pyIter (.ref s.heap.objs.size)) (PIE X i7 σ tg R) E { s with heap:=s.heap.push { cls:=.type "range",data:=.fields #[.int lo t,.int hi u,.int 1 v] },toks:=tk }:=by
 refine wpAny_pyIter_range (IsRange.new ..) (small_one h1 h2 h3 h4) ?_;have I1:Inv X i7 σ H { s with heap:=s.heap.push { cls:=.type "range",data:=.fields #[.int lo t,.int hi u,.int 1 v] },toks:=tk }:=I.kept λb o e=>Al _ e;refine ⟨(s.heap.push { cls:=.type "range",data:=.fields #[.int lo t,.int hi u,.int 1 v] }).objs.size,[(s.heap.push { cls:=.type "range",data:=.fields #[.int lo t,.int hi u,.int 1 v] }).objs.size],_,_,H,rfl,
  I1.kept (t':=tk) λb o e=>Al _ e,Zfo _ lo (hi - lo).toNat,?_,λb hb=>?_,q⟩
 ·have e1:lo + ((0:Nat):Int) * 1=lo:=by simp
  have e2:(((hi - lo).toNat:Nat):Int) - ((0:Nat):Int)=Builtin.Range.rangeSize lo hi 1:=by rw [rangeSize_one]; split <;> lia
  show IsRangeIter _ _ (lo + ((0:Nat):Int) * 1) ((((hi - lo).toNat:Nat):Int) - ((0:Nat):Int)) 1;rw [e1,e2];exact Aq _ Z
 ·have e:b=(s.heap.push { cls:=.type "range",data:=.fields #[.int lo t,.int hi u,.int 1 v] }).objs.size:=by simpa using hb
  subst e;exact I1.fpOk (Ao _) (I1.hok.fresh (Ao _))
def Zoy (ta:TA):TI:=λσ H R=>ta σ H λvs H1=>∃ j:Int,vs=[.int j]/\-(2 ^ 62)<=j/\j < 2 ^ 62/\R (Itr 0 j.toNat) H1
def Jx {a:Expr} {ta:TA} {p pos:Pos} (hg:Gl X "range") (hm:X.mg "range"=none) (ha:PA X [a] ta) (hs:starEach [a] X.env=[(false,eval a X.env)]:=by rfl):PI X tg (.Call (.Name "range" p) [a] [] pos) (Zoy ta):=by
 intro i7 s σ H R I h;refine Call_ (Wp I hg hm boot_range (PyProof.Rows.callWith_type1 (thn (ha pos i7 s σ H _ I h) λus s1 zz6=>?_) hs Z));obtain ⟨vs,H1,I1,r1,q1⟩:=zz6;obtain ⟨j,e,q1,q2,q⟩:=q1;subst e
 cases r1 with
 | cons r rr =>
  cases rr;obtain ⟨t,rfl⟩:=r;exact call_range_1 (Zjl I1 (by lia) (by lia) q1 q2 (by simpa using q))
def tFor (wi:TI) (g:TG) (tb:TS):TS:=λD σ H=>wi σ H λJ H1=>∃ W:Nat->Nat->St->Hp->Prop,(∃ m,W 0 m σ H1)/\∀ i m σ H,W i m σ H ->
 (J.stop i H/\D.nx σ H)\/(J.go i H/\∃ N:St->Hp->Prop,(∀ σ' H',N σ' H'->∃ m',m' < m/\W (i + 1) m' σ' H')/\∀ x H',J.yld i H x H'->g x σ H' λσ2 H2=>tb { D with nx:=N,ct:=N,bk:=D.nx } σ2 H2)
def Jw (fp:List Addr) (h:Heap):List (Addr × Obj):=fp.filterMap λb=>(h.get? b).map λo=>(b,o)
def Xp {fp:List Addr} {h:Heap} {b:Addr} {o:Obj} (hb:b∈fp) (e:h.get? b=some o):(b,o)∈Jw fp h:=List.mem_filterMap.mpr ⟨b,hb,by rw [e]; rfl⟩
def Zh9 {h:Heap} {p:Addr × Obj} (hp:p∈Jw fp h):p.1∈fp/\h.get? p.1=some p.2:=by
 obtain ⟨b,hb,e⟩:=List.mem_filterMap.mp hp
 cases q:h.get? b with
 | none=>rw [q] at e; cases e
 | some o =>
  rw [q] at e;have e':(b,o)=p:=Ay e;subst e';exact ⟨hb,q⟩
def Inv.pinned {i7:List (Addr × Obj)} {σ:St} {H:Hp} {s:Shared} {fp:List Addr} (I:Inv X i7 σ H s) (hf:∀ b∈fp,FpOk X i7 H b) (ho:∀ b∈fp,∃ o,s.heap.get? b=some o/\∀ v,o.data≠.cell v):Inv X (i7 ++ Jw fp s.heap) σ H s :=
 I.pins_of λp hp=>(List.mem_append.mp hp).elim (λz=>I.pin p (List.mem_append_right _ z)) λz=>by
  obtain ⟨hb,e⟩:=Zh9 z;obtain ⟨f0,f1,f2,_⟩:=hf p.1 hb;obtain ⟨o,e',d⟩:=ho p.1 hb;rw [e] at e'; cases e';exact ⟨e,f0,f1,f2,d⟩
def Inv.unpinned {i7 pl:List (Addr × Obj)} {σ:St} {H:Hp} {s:Shared} (I:Inv X (i7 ++ pl) σ H s):Inv X i7 σ H s:=I.pins_of λp hp=>I.pin p (List.mem_append_right _ (List.mem_append_left _ hp))
def Qp {iter:Expr} {body:List Stmt} {wi:TI} {g:TG} {tb:TS} {pos:Pos} (hp:PassesOwn (model X.prog X.w) X.A X.env X.xe) (hc:X.calm=true) (hi:PI X tg iter wi) (hg:PG X tg g) (hb:PSs X body tb)
  (hs:∀ x,foldedSetIterable iter X.env x=pure x:=by intro _; rfl):PS X (.For tg iter body [] pos) (tFor wi g tb):=by
 intro i7 s σ H D I h;refine wpAny_For (thn (hi i7 s σ H _ I h) λv s1 h1=>thn h1 λqk s2 h2=>?_) hs;obtain ⟨it,fp,tn,J,H2,e,I2,T,j',f2,W,⟨m0,w0⟩,ko⟩:=h2;subst e;have jz:∀ {H':Hp},(∀ b∈fp,H' b=none)->∀ b∈fp,FpOk X i7 H' b:=λhn b hb=>⟨hn b hb,(f2 b hb).2⟩;refine codeAny_forLoop_any (λn s'=>∃ i σ' H',Inv X i7 σ' H' s'/\tn i s'.heap/\(∀ b∈fp,H' b=none)/\W i n σ' H') ?_ m0 ⟨0,σ,H2,I2,j',λb hb=>(f2 b hb).1,w0⟩;rintro n s3 ⟨i,σ3,H3,I3,j9,oa,w3⟩
 rcases ko i n σ3 H3 w3 with ⟨stop,qn⟩ | ⟨go,N,hN,step⟩
 ·refine wpAny_passesOwn hp (thn (T.done X rfl rfl rfl hc i i7 s3 σ3 H3 X.xe I3 (jz oa) j9 stop) λr s4 ⟨hr,I4⟩=>?_)
  subst hr;exact wpAny_execs_nil ⟨σ3,H3,I4,qn⟩
 ·refine wpAny_passesOwn hp (thn (T.item X rfl rfl rfl hc i i7 s3 σ3 H3 X.xe I3 (jz oa) j9 go) λr s4 ⟨u,hr,h4⟩=>?_)
  subst hr;refine wpAny_passesOwn hp (thn h4 λ_ s5 ja=>?_);obtain ⟨x,H5,I5,r5,y5,lm,sj⟩:=ja;have sr:=I5.pinned (jz sj) (T.obj _ _ lm);refine wpAny_passesOwn hp (thn (hg _ s5 σ3 H5 x u _ sr r5 (step x H5 y5)) λ_ s6 ja=>?_);obtain ⟨σ6,H6,I6,q6⟩:=ja;refine wpAny_passesOwn hp (thn (hb _ s6 σ6 H6 _ I6 q6) λf s7 q7=>?_);have again:∀ {σ7:St} {H7:Hp},Inv X (i7 ++ Jw fp s5.heap) σ7 H7 s7->N σ7 H7->∃ m,m < n/\∃ i σ' H',Inv X i7 σ' H' s7/\tn i s7.heap/\(∀ b∈fp,H' b=none)/\W i m σ' H':=λ{σ7 H7} I7 n7=>by
   obtain ⟨m',hm,w7⟩:=hN σ7 H7 n7
   refine ⟨m',hm,i + 1,σ7,H7,I7.unpinned,T.keep _ _ _ lm λb hb o e=>(I7.pin (b,o) (List.mem_append_right _ (List.mem_append_right _ (Xp hb e)))).1,λb hb=>?_,w7⟩
   obtain ⟨o,e,d⟩:=T.obj _ _ lm b hb
   exact (I7.pin (b,o) (List.mem_append_right _ (List.mem_append_right _ (Xp hb e)))).2.1
  cases f with
  | next=>obtain ⟨σ7,H7,I7,n7⟩:=q7; exact again I7 n7
  | cont=>obtain ⟨σ7,H7,I7,n7⟩:=q7; exact again I7 n7
  | brk=>obtain ⟨σ7,H7,I7,q7⟩:=q7; exact ⟨σ7,H7,I7.unpinned,q7⟩
  | ret v=>obtain ⟨x7,σ7,H7,I7,r7,q7⟩:=q7; exact ⟨x7,σ7,H7,I7.unpinned,r7,q7⟩
end
def Zkl {K:W.Frag} {a:Addr} {xs:List V} {g:TG} {tb:TS} {D:Ends} {σ:St} {H:Hp} (Pv:Nat->St->Hp->Prop) (h0:Pv 0 σ H) (hl:∀ i σ H,i<=xs.length->Pv i σ H->SqL K H a xs)
  (hs:∀ i x σ H,xs[i]?=some x->Pv i σ H->g x σ H λσ2 H2=>tb { D with nx:=Pv (i + 1),ct:=Pv (i + 1),bk:=D.nx } σ2 H2) (hd:∀ σ H,Pv xs.length σ H->D.nx σ H) :
  ∃ W:Nat->Nat->St->Hp->Prop,(∃ m,W 0 m σ H)/\∀ i m σ H,W i m σ H ->
   ((Itl K a).stop i H/\D.nx σ H)\/((Itl K a).go i H/\∃ N:St->Hp->Prop,(∀ σ' H',N σ' H'->∃ m',m' < m/\W (i + 1) m' σ' H')/\∀ x H',(Itl K a).yld i H x H'->g x σ H' λσ2 H2=>tb { D with nx:=N,ct:=N,bk:=D.nx } σ2 H2):=by
 refine ⟨λi m σ H=>m=xs.length - i/\i<=xs.length/\Pv i σ H,⟨xs.length,by simp,A0 _,h0⟩,?_⟩;rintro i m σ H ⟨rfl,hi,p⟩;have q:=hl i σ H hi p;by_cases jh:i < xs.length
 ·refine .inr ⟨⟨xs,xs[i],q,by simp [jh]⟩,Pv (i + 1),λσ' H' p'=>⟨xs.length - (i + 1),by lia,Z,jh,p'⟩,λx H' y=>?_⟩
  obtain ⟨e,y⟩:=y;subst e;exact hs i x σ _ (y xs q) p
 ·have e:i=xs.length:=by lia
  subst e;exact .inl ⟨⟨xs,q,Ao _⟩,hd σ H p⟩
def Zmi {K:W.Frag} {a:Addr} {xs:List V} {g:TG} {tb:TS} {D:Ends} {σ:St} {H:Hp} (Pv:Nat->St->Hp->Prop) (h0:Pv 0 σ H) (hl:∀ i σ H,i<=xs.length->Pv i σ H->SqT K H a xs)
  (hs:∀ i x σ H,xs[i]?=some x->Pv i σ H->g x σ H λσ2 H2=>tb { D with nx:=Pv (i + 1),ct:=Pv (i + 1),bk:=D.nx } σ2 H2) (hd:∀ σ H,Pv xs.length σ H->D.nx σ H) :
  ∃ W:Nat->Nat->St->Hp->Prop,(∃ m,W 0 m σ H)/\∀ i m σ H,W i m σ H ->
   ((Itt K a).stop i H/\D.nx σ H)\/((Itt K a).go i H/\∃ N:St->Hp->Prop,(∀ σ' H',N σ' H'->∃ m',m' < m/\W (i + 1) m' σ' H')/\∀ x H',(Itt K a).yld i H x H'->g x σ H' λσ2 H2=>tb { D with nx:=N,ct:=N,bk:=D.nx } σ2 H2):=by
 refine ⟨λi m σ H=>m=xs.length - i/\i<=xs.length/\Pv i σ H,⟨xs.length,by simp,A0 _,h0⟩,?_⟩;rintro i m σ H ⟨rfl,hi,p⟩;have q:=hl i σ H hi p;by_cases jh:i < xs.length
 ·refine .inr ⟨⟨xs,xs[i],q,by simp [jh]⟩,Pv (i + 1),λσ' H' p'=>⟨xs.length - (i + 1),by lia,Z,jh,p'⟩,λx H' y=>?_⟩
  obtain ⟨e,y⟩:=y;subst e;exact hs i x σ _ (y xs q) p
 ·have e:i=xs.length:=by lia
  subst e;exact .inl ⟨⟨xs,q,Ao _⟩,hd σ H p⟩
def Zai {lo:Int} {n:Nat} {g:TG} {tb:TS} {D:Ends} {σ:St} {H:Hp} (Pv:Nat->St->Hp->Prop) (h0:Pv 0 σ H)
  (hs:∀ i σ H,i < n->Pv i σ H->g (.int (lo + i)) σ H λσ2 H2=>tb { D with nx:=Pv (i + 1),ct:=Pv (i + 1),bk:=D.nx } σ2 H2) (hd:∀ σ H,Pv n σ H->D.nx σ H) :
  ∃ W:Nat->Nat->St->Hp->Prop,(∃ m,W 0 m σ H)/\∀ i m σ H,W i m σ H ->
   ((Itr lo n).stop i H/\D.nx σ H)\/((Itr lo n).go i H/\∃ N:St->Hp->Prop,(∀ σ' H',N σ' H'->∃ m',m' < m/\W (i + 1) m' σ' H')/\∀ x H',(Itr lo n).yld i H x H'->g x σ H' λσ2 H2=>tb { D with nx:=N,ct:=N,bk:=D.nx } σ2 H2):=by
 refine ⟨λi m σ H=>m=n - i/\i<=n/\Pv i σ H,⟨n,by simp,A0 _,h0⟩,?_⟩;rintro i m σ H ⟨rfl,hi,p⟩;by_cases jh:i < n
 ·refine .inr ⟨jh,Pv (i + 1),λσ' H' p'=>⟨n - (i + 1),by lia,Z,jh,p'⟩,λx H' y=>?_⟩
  obtain ⟨e,y⟩:=y;subst e y;exact hs i σ _ jh p
 ·have e:i=n:=by lia
  subst e;exact .inl ⟨Ao _,hd σ H p⟩
abbrev R2:=V->V->Hp->VK->Prop
def OpR (X:Cx) (f:Value->Value->Sem Value) (r:R2):Prop :=
 ∀ (i7:List (Addr × Obj)) (s:Shared) (σ:St) (H:Hp) (x y:V) (v u:Value) (Q:VK),Inv X i7 σ H s->RelV x v->RelV y u->r x y H Q ->
  wpAny (model X.prog X.w) X.A (f v u) (EP X i7 σ Q) X.xe s
def UnR (X:Cx) (f:Value->Sem Value) (r:V->Hp->VK->Prop):Prop :=
 ∀ (i7:List (Addr × Obj)) (s:Shared) (σ:St) (H:Hp) (x:V) (v:Value) (Q:VK),Inv X i7 σ H s->RelV x v->r x H Q ->
  wpAny (model X.prog X.w) X.A (f v) (EP X i7 σ Q) X.xe s
def X3 (X:Cx) (f:Value) (r:List V->Hp->VK->Prop):Prop :=
 ∀ (i7:List (Addr × Obj)) (s:Shared) (σ:St) (H:Hp) (xs:List V) (us:List Value) (Q:VK),Inv X i7 σ H s->Vals xs us->r xs H Q ->
  wpAny (model X.prog X.w) X.A (call f us) (EP X i7 σ Q) X.xe s
def TruR (X:Cx) (r:V->Hp->(Bool->Hp->Prop)->Prop):Prop :=
 ∀ (i7:List (Addr × Obj)) (s:Shared) (σ:St) (H:Hp) (x:V) (v:Value) (Q:Bool->Hp->Prop),Inv X i7 σ H s->RelV x v->r x H Q ->
  wpAny (model X.prog X.w) X.A (truthy v) (TP X i7 σ Q) X.xe s
def tOp (r:R2) (ta tb:TE):TE:=λσ H Q=>ta σ H λx H1=>tb σ H1 λy H2=>r x y H2 Q
def tUn (r:V->Hp->VK->Prop) (ta:TE):TE:=λσ H Q=>ta σ H λx H1=>r x H1 Q
def rI (C:Int->Int->Prop) (g:Int->Int->V):R2:=λx y H Q=>∃ i j,x=.int i/\y=.int j/\C i j/\Q (g i j) H
def rI0 (g:Int->Int->V):R2:=λx y H Q=>∃ i j,x=.int i/\y=.int j/\Q (g i j) H
def rU (g:Int->V):V->Hp->VK->Prop:=λx H Q=>∃ i,x=.int i/\Q (g i) H
section
variable {X:Cx} {a b c:Expr} {ta tb tc:TE} {pos:Pos}
def binT (ha:PE X a ta) (hb:PE X b tb) {i7:List (Addr × Obj)} {s:Shared} {σ:St} {H:Hp} {R:V->V->Hp->Prop} (I:Inv X i7 σ H s)
  (h:ta σ H λx H1=>tb σ H1 λy H2=>R x y H2) {Q:Value->Shared->Prop} {f:Value->Value->Sem Value}
  (hf:∀ v u s2 x y H2,Inv X i7 σ H2 s2->RelV x v->RelV y u->R x y H2->wpAny (model X.prog X.w) X.A (f v u) Q X.xe s2) :
  wpAny (model X.prog X.w) X.A (eval a X.env) (λv s₁=>wpAny (model X.prog X.w) X.A (eval b X.env) (λu s₂=>wpAny (model X.prog X.w) X.A (f v u) Q X.xe s₂) X.xe s₁) X.xe s:=by
 refine thn (ha i7 s σ H _ I h) λv s1 ja=>?_;obtain ⟨x,H1,I1,r1,q1⟩:=ja;refine thn (hb i7 s1 σ H1 _ I1 q1) λu s2 ja=>?_;obtain ⟨y,H2,I2,r2,q2⟩:=ja;exact hf v u s2 x y H2 I2 r1 r2 q2
def Zk (ho:OpR X (binaryOp op) r) (ha:PE X a ta) (hb:PE X b tb):PE X (.BinOp a op b pos) (tOp r ta tb):=by
 intro i7 s σ H Q I h;exact wpAny_BinOp (binT ha hb I h λv u s2 x y H2 I2 rx ry q=>ho i7 s2 σ H2 x y v u Q I2 rx ry q)
def Zot {op:UnaryOp} {r:V->Hp->VK->Prop} (ho:UnR X (unaryOp op) r) (ha:PE X a ta):PE X (.UnaryOp op a pos) (tUn r ta):=by
 intro i7 s σ H Q I h;refine UnaryOp_ (thn (ha i7 s σ H _ I h) λv s1 qx=>?_);obtain ⟨x,H1,I1,r1,q1⟩:=qx;exact ho i7 s1 σ H1 x v Q I1 r1 q1
def opI {g:Int->Int->Int}
  (rule:∀ (i j:Int) (t u:Tok) (s:Shared) (Q:Value->Shared->Prop) (E:Value->Shared->Prop),C i j->Q (.int (g i j) s.toks) { s with toks:=s.toks + 1 }->wpAny (model X.prog X.w) X.A (f (.int i t) (.int j u)) Q E s) :
  OpR X f (rI C λi j=>.int (g i j)):=by
 intro i7 s σ H x y v u Q I rx ry h;obtain ⟨i,j,rfl,rfl,hc,q⟩:=h;obtain ⟨t,rfl⟩:=rx;obtain ⟨t',rfl⟩:=ry;exact rule i j t t' s _ _ hc ⟨.int (g i j),H,I.tok _,⟨_,Z⟩,q⟩
def opI0 {g:Int->Int->Int}
  (rule:∀ (i j:Int) (t u:Tok) (s:Shared) (Q:Value->Shared->Prop) (E:Value->Shared->Prop),Q (.int (g i j) s.toks) { s with toks:=s.toks + 1 }->wpAny (model X.prog X.w) X.A (f (.int i t) (.int j u)) Q E s) :
  OpR X f (rI0 λi j=>.int (g i j)):=by
 intro i7 s σ H x y v u Q I rx ry h;obtain ⟨i,j,rfl,rfl,q⟩:=h;obtain ⟨t,rfl⟩:=rx;obtain ⟨t',rfl⟩:=ry;exact rule i j t t' s _ _ ⟨.int (g i j),H,I.tok _,⟨_,Z⟩,q⟩
def opB0 {g:Int->Int->Bool}
  (rule:∀ (i j:Int) (t u:Tok) (s:Shared) (Q:Value->Shared->Prop) (E:Value->Shared->Prop),Q (.bool (g i j)) s->wpAny (model X.prog X.w) X.A (f (.int i t) (.int j u)) Q E s) :
  OpR X f (rI0 λi j=>.bl (g i j)):=by
 intro i7 s σ H x y v u Q I rx ry h;obtain ⟨i,j,rfl,rfl,q⟩:=h;obtain ⟨t,rfl⟩:=rx;obtain ⟨t',rfl⟩:=ry;exact rule i j t t' s _ _ ⟨.bl (g i j),H,I,Z,q⟩
def CDiv (i j:Int):Prop:=0 < j/\j < 1073741824
def CPow (i j:Int):Prop:=0<=j/\j<=1000000/\i.natAbs < 2 ^ 64
def CMul (i j:Int):Prop:=(-(2 ^ 64) < i/\i < 2 ^ 64)\/(-(2 ^ 64) < j/\j < 2 ^ 64)
def CMul.ok {i j:Int} (h:CMul i j):IntMulOk i j:=by
 rcases h with ⟨h1,h2⟩ | ⟨h1,h2⟩
 ·exact .of_left (intBits_le_64 h1 h2)
 ·exact .of_right (intBits_le_64 h1 h2)
def Yo:OpR X (binaryOp .Add) (rI0 λi j=>.int (i + j)):=opI0 λ_ _ _ _ _ _ _ q=>add_int q
def Zh1:OpR X (binaryOp .Sub) (rI0 λi j=>.int (i - j)):=opI0 λ_ _ _ _ _ _ _ q=>sub_int q
def Wv:OpR X (binaryOp .Mult) (rI CMul λi j=>.int (i * j)):=opI λ_ _ _ _ _ _ _ hc q=>mul_int q hc.ok
def Wa:OpR X (binaryOp .FloorDiv) (rI CDiv λi j=>.int (i / j)):=opI λi j _ _ _ _ _ hc q=>by
 have h1:(0:Int) < j:=hc.1;have h2:j < 1073741824:=hc.2;exact floordiv_int (by lia) (by rw [Int.fdiv_eq_ediv_of_nonneg i (by lia)]; exact q) (.inl (PyProof.noPylong_small (by lia)))
def Yh:OpR X (binaryOp .Mod) (rI (λ_ j=>0 < j) λi j=>.int (i % j)):=opI λi j _ _ _ _ _ hc q=>by
 have h1:(0:Int) < j:=hc;exact mod_int' (by lia) (by rw [Int.fmod_eq_emod_of_nonneg i (by lia)]; exact q)
def Znk:OpR X (binaryOp .Pow) (rI CPow λi j=>.int (i ^ j.toNat)):=opI λ_ _ _ _ _ _ _ hc q=>pow_int_small hc.1 hc.2.1 hc.2.2 q
def unI {g:Int->Int}
  (rule:∀ (i:Int) (t:Tok) (s:Shared) (Q:Value->Shared->Prop) (E:Value->Shared->Prop),Q (.int (g i) s.toks) { s with toks:=s.toks + 1 }->wpAny (model X.prog X.w) X.A (f (.int i t)) Q E s) :
  UnR X f (rU λi=>.int (g i)):=by
 intro i7 s σ H x v Q I rx h;obtain ⟨i,rfl,q⟩:=h;obtain ⟨t,rfl⟩:=rx;exact rule i t s _ _ ⟨.int (g i),H,I.tok _,⟨_,Z⟩,q⟩
def Zmv:UnR X (unaryOp .USub) (rU λi=>.int (-i)):=unI λ_ _ _ _ _ q=>neg_int q
end
def scal:V->V->Bool
 | .non,.non=>true | .non,.int _=>true | .int _,.non=>true | .non,.bl _=>true | .bl _,.non=>true | .non,.str _=>true | .str _,.non=>true
 | .int _,.int _=>true | .bl _,.bl _=>true | .str _,.str _=>true | .byt _,.byt _=>true
 | .int _,.str _=>true | .str _,.int _=>true | .bl _,.str _=>true | .str _,.bl _=>true
 | _,_=>false
def rEq:R2:=λx y H Q=>scal x y=true/\Q (.bl (decide (x=y))) H
def rNe:R2:=λx y H Q=>scal x y=true/\Q (.bl (!decide (x=y))) H
def Zfi:decide (V.int i=V.int j)=(i == j):=by
 rw [Bool.eq_iff_iff];simp
def Ziu:decide (V.bl i=V.bl j)=(i == j):=by
 rw [Bool.eq_iff_iff];simp
def Zfh:decide (V.str i=V.str j)=(i == j):=by
 rw [Bool.eq_iff_iff];simp
def Zfj {i j:Array UInt8}:decide (V.byt i=V.byt j)=(i.toList == j.toList):=by
 rw [Bool.eq_iff_iff];cases i;cases j;simp
section
variable {X:Cx} {a b c:Expr} {ta tb tc:TE} {pos:Pos}
def Yf (I:Inv X i7 σ H s) (q:Q (.bl k) H) (e:k=k'):EP X i7 σ Q (.bool k') s:=by
 subst e;exact ⟨.bl k,H,I,Z,q⟩
def Y7:OpR X (compareOp .Eq) rEq:=by
 intro i7 s σ H x y v u Q I rx ry h;obtain ⟨hs,q⟩:=h
 cases x with
 | non =>
  cases rx
  cases y with
  | non=>cases ry; exact PySem.EqNone.eq_none_none (Yf I q (by simp))
  | bl j=>cases ry; exact PySem.EqNone.eq_none_bool (Yf I q (by simp))
  | int j=>obtain ⟨t',rfl⟩:=ry; exact PySem.EqNone.eq_none_int (Yf I q (by simp))
  | str j=>obtain ⟨t',rfl⟩:=ry; exact PySem.EqNone.eq_none_str (Yf I q (by simp))
  | _=>exact absurd (show false=true from hs) Bool.false_ne_true
 | bl i =>
  cases rx
  cases y with
  | non=>cases ry; exact PySem.EqNone.eq_bool_none (Yf I q (by simp))
  | bl j=>cases ry; exact eq_bool (Yf I q Ziu)
  | str j=>obtain ⟨t',rfl⟩:=ry; exact PySem.EqMixed.eq_bool_str (Yf I q (by simp))
  | _=>exact absurd (show false=true from hs) Bool.false_ne_true
 | int i =>
  obtain ⟨t,rfl⟩:=rx
  cases y with
  | non=>cases ry; exact PySem.EqNone.eq_int_none (Yf I q (by simp))
  | int j=>obtain ⟨t',rfl⟩:=ry; exact eq_int (Yf I q Zfi)
  | str j=>obtain ⟨t',rfl⟩:=ry; exact PySem.EqMixed.eq_int_str (Yf I q (by simp))
  | _=>exact absurd (show false=true from hs) Bool.false_ne_true
 | str i =>
  obtain ⟨t,rfl⟩:=rx
  cases y with
  | non=>cases ry; exact PySem.EqNone.eq_str_none (Yf I q (by simp))
  | bl j=>cases ry; exact PySem.EqMixed.eq_str_bool (Yf I q (by simp))
  | int j=>obtain ⟨t',rfl⟩:=ry; exact PySem.EqMixed.eq_str_int (Yf I q (by simp))
  | str j=>obtain ⟨t',rfl⟩:=ry; exact eq_str (Yf I q Zfh)
  | _=>exact absurd (show false=true from hs) Bool.false_ne_true
 | byt i =>
  obtain ⟨t,rfl⟩:=rx
  cases y with
  | byt j=>obtain ⟨t',rfl⟩:=ry; exact PySem.W.eq_bytes (Yf I q Zfj)
  | _=>exact absurd (show false=true from hs) Bool.false_ne_true
 | _=>cases y <;> exact absurd (show false=true from hs) Bool.false_ne_true
def Gj:OpR X (compareOp .NotEq) rNe:=by
 intro i7 s σ H x y v u Q I rx ry h;obtain ⟨hs,q⟩:=h
 cases x with
 | non =>
  cases rx
  cases y with
  | non=>cases ry; exact PySem.EqNone.ne_none_none (Yf I q (by simp))
  | bl j=>cases ry; exact PySem.EqNone.ne_none_bool (Yf I q (by simp))
  | int j=>obtain ⟨t',rfl⟩:=ry; exact PySem.EqNone.ne_none_int (Yf I q (by simp))
  | str j=>obtain ⟨t',rfl⟩:=ry; exact PySem.EqNone.ne_none_str (Yf I q (by simp))
  | _=>exact absurd (show false=true from hs) Bool.false_ne_true
 | bl i =>
  cases rx
  cases y with
  | non=>cases ry; exact PySem.EqNone.ne_bool_none (Yf I q (by simp))
  | bl j=>cases ry; exact ne_bool (Yf I q (congrArg not Ziu))
  | str j=>obtain ⟨t',rfl⟩:=ry; exact PySem.EqMixed.ne_bool_str (Yf I q (by simp))
  | _=>exact absurd (show false=true from hs) Bool.false_ne_true
 | int i =>
  obtain ⟨t,rfl⟩:=rx
  cases y with
  | non=>cases ry; exact PySem.EqNone.ne_int_none (Yf I q (by simp))
  | int j=>obtain ⟨t',rfl⟩:=ry; exact ne_int (Yf I q (congrArg not Zfi))
  | str j=>obtain ⟨t',rfl⟩:=ry; exact PySem.EqMixed.ne_int_str (Yf I q (by simp))
  | _=>exact absurd (show false=true from hs) Bool.false_ne_true
 | str i =>
  obtain ⟨t,rfl⟩:=rx
  cases y with
  | non=>cases ry; exact PySem.EqNone.ne_str_none (Yf I q (by simp))
  | bl j=>cases ry; exact PySem.EqMixed.ne_str_bool (Yf I q (by simp))
  | int j=>obtain ⟨t',rfl⟩:=ry; exact PySem.EqMixed.ne_str_int (Yf I q (by simp))
  | str j=>obtain ⟨t',rfl⟩:=ry; exact ne_str (Yf I q (congrArg not Zfh))
  | _=>exact absurd (show false=true from hs) Bool.false_ne_true
 | byt i =>
  obtain ⟨t,rfl⟩:=rx
  cases y with
  | byt j=>obtain ⟨t',rfl⟩:=ry; exact PySem.W.ne_bytes (Yf I q (congrArg not Zfj))
  | _=>exact absurd (show false=true from hs) Bool.false_ne_true
 | _=>cases y <;> exact absurd (show false=true from hs) Bool.false_ne_true
def J7:OpR X (compareOp .Lt) (rI0 λi j=>.bl (decide (i < j))):=opB0 λ_ _ _ _ _ _ _ q=>lt_int q
def Gk:OpR X (compareOp .LtE) (rI0 λi j=>.bl (decide (i<=j))):=opB0 λ_ _ _ _ _ _ _ q=>le_int q
def Q6:OpR X (compareOp .Gt) (rI0 λi j=>.bl (decide (j < i))):=opB0 λ_ _ _ _ _ _ _ q=>gt_int q
def Zbk:OpR X (compareOp .GtE) (rI0 λi j=>.bl (decide (j<=i))):=opB0 λ_ _ _ _ _ _ _ q=>ge_int q
def Of:OpR X (compareOp .IsNot) (λx y H Q=>y=.non/\Q (.bl (!decide (x=.non))) H):=by
 intro i7 s σ H x y v u Q I rx ry h;obtain ⟨rfl,q⟩:=h;cases ry;refine isnot_none_gen (Yf I q ?_)
 cases x <;> first
  | (cases rx; rfl)
  | (obtain ⟨t,rfl⟩:=rx; rfl)
def Zx (b:Expr) (h:op≠.In:=by decide) (h2:op≠.NotIn:=by decide):behindInMarks op b=false:=by
 have e1:(op == CmpOp.In)=false:=by cases op <;> first | rfl | exact absurd Z h
 have e2:(op == CmpOp.NotIn)=false:=by cases op <;> first | rfl | exact absurd Z h2
 cases b <;> simp [behindInMarks,e1,e2]
def Y2 (ho:OpR X (compareOp op) r) (ha:PE X a ta) (hb:PE X b tb) (hm:behindInMarks op b=false):PE X (.Compare a [op] [b] pos) (tOp r ta tb):=by
 intro i7 s σ H Q I h;exact wpAny_Compare1 (binT ha hb I h λv u s2 x y H2 I2 rx ry q=>ho i7 s2 σ H2 x y v u Q I2 rx ry q) hm
def Zkv (t:TE):TT:=λσ H Q=>t σ H λx H'=>∃ k,x=.bl k/\Q k H'
def Zy {op:CmpOp} {r:R2} (ho:OpR X (compareOp op) r) (ha:PE X a ta) (hb:PE X b tb) (hm:behindInMarks op b=false):PT X (.Compare a [op] [b] pos) (Zkv (tOp r ta tb)):=by
 intro i7 s σ H Q I h;refine wpAny_isTrue_Compare1 (thn (ha i7 s σ H _ I h) λv s1 ⟨x,H1,I1,r1,q1⟩=>thn (hb i7 s1 σ H1 _ I1 q1) λu s2 ⟨y,H2,I2,r2,q2⟩ =>
  thn (ho i7 s2 σ H2 x y v u _ I2 r1 r2 q2) λc s3 ⟨z,H3,I3,r3,k,e,q3⟩=>?_) hm
 subst e;cases r3;exact wpAny_truthy_bool ⟨H3,I3,q3⟩
def Zg6 (r r':R2) (ta tb tc:TE):TE:=λσ H Q=>ta σ H λx H1=>tb σ H1 λy H2=>r x y H2 λz H3=>∃ k,z=.bl k /\
 (if k=true then tc σ H3 λw' H4=>r' y w' H4 Q else Q (.bl false) H3)
def Zc0 {op rc:CmpOp} {r r':R2} (ho:OpR X (compareOp op) r) (mw:OpR X (compareOp rc) r') (ha:PE X a ta) (hb:PE X b tb) (hc:PE X c tc)
  (hm:lastMarks [op,rc] [b,c]=false:=by with_unfolding_all rfl):PE X (.Compare a [op,rc] [b,c] pos) (Zg6 r r' ta tb tc):=by
 intro i7 s σ H Q I h;refine Compare_chain (thn (ha i7 s σ H _ I h) λv s1 ⟨x,H1,I1,r1,q1⟩=>chain_link (thn (hb i7 s1 σ H1 _ I1 q1) λu s2 ⟨y,H2,I2,r2,q2⟩ =>
  thn (ho i7 s2 σ H2 x y v u _ I2 r1 r2 q2) λd s3 ⟨z,H3,I3,r3,k,e,q3⟩=>?_)) hm
 subst e;cases r3;refine wpAny_truthy_bool ?_
 cases k with
 | false=>exact ite_ff ⟨.bl false,H3,I3,Z,q3⟩
 | true=>exact ite_tt (chain_last (thn (hc i7 s3 σ H3 _ I3 q3) λw' s4 ⟨z',H4,I4,r4,q4⟩=>mw i7 s4 σ H4 y z' u w' Q I4 r2 r4 q4))
def Zjm {op rc:CmpOp} {r r':R2} (ho:OpR X (compareOp op) r) (mw:OpR X (compareOp rc) r') (ha:PE X a ta) (hb:PE X b tb) (hc:PE X c tc)
  (hm:lastMarks [op,rc] [b,c]=false:=by with_unfolding_all rfl):PT X (.Compare a [op,rc] [b,c] pos) (Zkv (Zg6 r r' ta tb tc)):=by
 intro i7 s σ H Q I h;refine isTrue_chain (thn (ha i7 s σ H _ I h) λv s1 ⟨x,H1,I1,r1,q1⟩=>test_link (thn (hb i7 s1 σ H1 _ I1 q1) λu s2 ⟨y,H2,I2,r2,q2⟩ =>
  thn (ho i7 s2 σ H2 x y v u _ I2 r1 r2 q2) λd s3 ⟨z,H3,I3,r3,k,e,q3⟩=>?_)) hm
 subst e;cases r3;refine wpAny_truthy_bool ?_
 cases k with
 | false =>
  obtain ⟨k',e',q'⟩:=q3;cases e';exact ite_ff ⟨H3,I3,q'⟩
 | true =>
  refine ite_tt (test_last (thn (hc i7 s3 σ H3 _ I3 q3) λw' s4 zz8=>?_));obtain ⟨z',H4,I4,r4,q4⟩:=zz8;refine thn (mw i7 s4 σ H4 y z' u w' _ I4 r2 r4 q4) λd' s5 ja=>?_;obtain ⟨z2,H5,I5,r5,k2,e2,q5⟩:=ja;subst e2;cases r5;exact wpAny_truthy_bool ⟨H5,I5,q5⟩
def TruV (K:W.Frag) (x:V) (H:Hp) (k:Bool):Prop :=
 match x with
 | .non=>k=false
 | .bl b=>k=b
 | .int i=>k=(i != 0)
 | .str y=>y.length<=sizeLine/\k=((y.length:Int) != 0)
 | .byt y=>y.size<=sizeLine/\k=((y.size:Int) != 0)
 | .ref p=>(∃ xs,SqL K H p xs/\k=!xs.isEmpty)\/(∃ xs,SqT K H p xs/\k=!xs.isEmpty)\/∃ kvs,H p=some (.dK kvs)/\k=!kvs.isEmpty
 | _=>False
def Zgk {κ:Type} {kvs:List (κ × V)} {vs:List (κ × Value)} (r:KV kvs vs):(!vs.isEmpty)=!kvs.isEmpty:=by
 cases r <;> rfl
def Gu {xs:List V} {its:List Value} (r:Vals xs its):(!its.toArray.isEmpty)=!xs.isEmpty:=by
 cases r <;> simp
def Vm:(sizeLine:Nat) < 2 ^ 63:=by rw [sizeLine_eq]; decide
def Zmx:TruR X (λx H Q=>∃ k,TruV X.K x H k/\Q k H):=by
 intro i7 s σ H x v Q I rx h;obtain ⟨k,e,q⟩:=h;have hl:=Vm;have hs:sizeLine=16777216:=sizeLine_eq
 cases x with
 | non =>
  cases rx;have e':k=false:=e;subst e';exact truthy_none ⟨H,I,q⟩
 | bl b =>
  cases rx;have e':k=b:=e;subst e';exact wpAny_truthy_bool ⟨H,I,q⟩
 | int i =>
  obtain ⟨t,rfl⟩:=rx;have e':k=(i != 0):=e;subst e';exact PySem.P.truthy_int ⟨H,I,q⟩
 | str y =>
  obtain ⟨t,rfl⟩:=rx;obtain ⟨hy,e'⟩:y.length<=sizeLine/\k=((y.length:Int) != 0):=e;subst e';exact PySem.P.truthy_str (by lia) ⟨H,I.tok _,q⟩
 | byt y =>
  obtain ⟨t,rfl⟩:=rx;obtain ⟨hy,e'⟩:y.size<=sizeLine/\k=((y.size:Int) != 0):=e;subst e';exact PySem.W.truthy_bytes (by lia) ⟨H,I.tok _,q⟩
 | ref p =>
  cases rx;have e':(∃ xs,SqL X.K H p xs/\k=!xs.isEmpty)\/(∃ xs,SqT X.K H p xs/\k=!xs.isEmpty)\/∃ kvs,H p=some (.dK kvs)/\k=!kvs.isEmpty:=e
  rcases e' with ⟨xs,hx,e'⟩ | ⟨xs,hx,e'⟩ | ⟨kvs,hx,e'⟩
  ·subst e'
   obtain ⟨its,r,pl,hz⟩:=I.list hx;have jb:=r.length;exact wpAny_truthy_list pl.isList (by simp only [Ar]; lia) ⟨H,I.tok _,by rw [Gu r]; exact q⟩
  ·subst e'
   obtain ⟨its,r,pl,hz⟩:=I.tuple hx;have jb:=r.length;exact truthy_tuple pl (by simp only [Ar]; lia) ⟨H,I.tok _,by rw [Gu r]; exact q⟩
  ·subst e'
   obtain ⟨hz,hS,vs,r,m⟩:kvs.length<=sizeLine/\(p == sysModules)=false/\∃ vs,KV kvs vs/\s.heap.DictOf (Yj X.prog X.w) p vs:=I.hok p _ hx;have jb:kvs.length=vs.length:=Paired.length r;exact wpAny_truthy_dict hS m (by lia) ⟨H,I.tok _,by rw [Zgk r]; exact q⟩
 | _=>exact (show False from e).elim
def Vu (ha:PE X a ta) (he:∀ kc,isTrue a X.env kc=(do let v <- kc; standAt a.pos; holding [v] (truthy v))) :
  PT X a (λσ H Q=>ta σ H λx H'=>∃ k,TruV X.K x H' k/\Q k H'):=by
 intro i7 s σ H Q I h;refine isTrue_plain (thn (ha i7 s σ H _ I h) λv s1 ja=>?_) (he _);obtain ⟨x,H1,I1,r1,q1⟩:=ja;exact Zmx i7 s1 σ H1 x v Q I1 r1 q1
def W9:OpR X (binaryOp .Add) (λx y H Q=>∃ i j,x=.str i/\y=.str j/\i.length + j.length<=sizeLine/\Q (.str (i ++ j)) H):=by
 intro i7 s σ H x y v u Q I rx ry h;obtain ⟨i,j,rfl,rfl,hz,q⟩:=h;obtain ⟨t,rfl⟩:=rx;obtain ⟨t',rfl⟩:=ry;exact add_str (λt' tk=>⟨.str (i ++ j),H,I.tok _,⟨_,Z⟩,q⟩) hz
def Xv (r:Vals [x] us):∃ u,us=[u]/\RelV x u:=by
 cases r with
 | cons r1 r2=>cases r2; exact ⟨_,Z,r1⟩
def Zdn:X3 X (.type "str") (λxs H Q=>∃ i,xs=[.int i]/\i.natAbs.log2 < 1920/\Q (.str (toString i)) H):=by
 intro i7 s σ H xs us Q I r h;obtain ⟨i,rfl,hz,q⟩:=h;obtain ⟨u,rfl,t,rfl⟩:=Xv r;exact PySem.P.str_of_int hz ⟨.str _,H,I.tok _,⟨_,Z⟩,q⟩
end
structure ObjM (h:Heap) (x dx C:Addr) (mA:Str->Option Value):Prop where
 obj:h.get? x=some (PySem.W.instObj C dx)
 ns:h.Ns1 dx mA
 ne:dx≠x
def Zic {h:Heap} (n:h.Ns1 dx mA):∃ od,h.get? dx=some od/\∀ name,PySem.W.lookIn name od=some (mA name):=by
 obtain ⟨o,es,ep,ho,hd,hk,_,hm⟩:=n;refine ⟨o,ho,λname=>?_⟩;have e:=hm name;unfold nsFind findBy at e;rw [<- Array.find?_toList] at e;unfold PySem.W.lookIn;rw [hd];dsimp only;split
 ·rename_i y q
  rw [q] at e;exact congrArg some e
 ·rename_i q
  rw [q] at e;have a:es.toList.any (·.refKey)=false:=by
   rw [List.any_eq_false]
   intro y hy
   obtain ⟨z,t,hkey⟩:=hk y (Array.mem_toList_iff.mp hy)
   simp [DictEntry.refKey,hkey]
  have a':¬ es.toList.any (·.refKey)=true:=by rw [a]; exact Bool.false_ne_true
  rw [if_neg a'];exact congrArg some e
def ObjM.look (I:ObjM h x dx C mA):∃ od,PySem.W.InstAt h x (PySem.W.instObj C dx) C (some od)/\∀ name,PySem.W.lookIn name od=some (mA name) :=
 let ⟨od,ho,hl⟩:=Zic I.ns
 ⟨od,⟨I.obj,rfl,rfl,ho⟩,hl⟩
section
variable {prog:Program} {w:World} {A:Around} {E:Value->Shared->Prop} {s:Shared} {K:W.Frag} {x dx C f:Addr} {mA:Str->Option Value} {name:Str} {v:Value}
def Zmh (X:K.In s.heap) (I:ObjM s.heap x dx C mA) (hg:PySem.W.plainGet K C name=true) (hh:PySem.W.hasDictIn K C=true)
  (ha:PySem.W.findIn K (.ref C) name=some none) (hv:mA name=some v) (hv':PySem.W.handedIn v=true) (h:Q v { s with toks:=s.toks + 1 }) :
  wpAny (model prog w) A (getAttr (.ref x) name expr) Q E s:=by
 obtain ⟨od,J,hl⟩:=I.look;exact PySem.W.get_value X J (PySem.W.plainGet_of hg).1 (PySem.W.findObj_own hh ha Z (by rw [hl,hv])) hv' h
def Zkj (X:K.In s.heap) (I:ObjM s.heap x dx C mA) (hg:PySem.W.plainGet K C name=true)
  (hf:PySem.W.findIn K (.ref C) name=some (some (.ref f))) (ht:PySem.W.isFn K (.ref f)=true) (hv:mA name=none) (h:Q (.ref f,[.ref x]) s) :
  wpAny (model prog w) A (getMethod (.ref x) name pl) Q E s:=by
 obtain ⟨od,J,hl⟩:=I.look;exact PySem.W.method_fn X J (PySem.W.plainGet_of hg).1 (PySem.W.plainGet_of hg).2 hf (beq_iff_eq.mp ht) (by show (PySem.W.lookIn name od).map (·.isSome)=some false; rw [hl,hv]; rfl) h
def Zlo {ns:List Str} (X:K.In s.heap) (I:ObjM s.heap x dx C mA)
  (hs:PySem.W.findIn K (.ref C) "__setattr__"=some (some (.builtin "object.__setattr__"))) (hp:PySem.W.plainOver K C=true) (ht:PySem.W.takerIn K C name=some none) (hh:PySem.W.hasDictIn K C=true)
  (hw:PySem.Within mA ns) (hsz:ns.length<=sizeLine)
  (h:∀ h',ObjM h' x dx C (λy=>if y=name then some v else mA y)->Heap.SameBut dx s.heap h'->Q () { s with heap:=h',toks:=s.toks + 2 }) :
  wpAny (model prog w) A (setAttr (.ref x) name v) Q E s:=by
 obtain ⟨od,J,hl⟩:=I.look;refine PySem.W.set_plain X J hs (PySem.W.osa_open (s:={ s with toks:=s.toks + 1 }) (r:=none) X J hp ht λb=>?_);obtain ⟨cd,hc,hd'⟩:=PySem.W.any_some hh;have hx:s.heap.get? x=some ⟨.ref C,some dx,.plain,#[]⟩:=I.obj;refine Am (wpAny_pure (Am (Am (wpAny_loadPart hx (Am (PySem.W.Looks.here (s:={ s with toks:=s.toks + 1 }) (PySem.W.looks_clsIn X hc) ?_))))));rw [hd'];refine wpAny_pure (a:=some dx) (Am (wpAny_pure (Am ?_)));refine wpAny_nsSet1 (s:={ s with toks:=s.toks + 1 }) I.ns λh' xt n5=>?_;obtain ⟨oD,esD,epD,hoD,hdD,hcD⟩:=xt.count (PySem.Within.cons name v hw);refine Am (wpAny_lookBehind hoD (by rw [hdD]; exact pastItsLine_dict (Nat.le_trans hcD (by rw [List.length_cons]; lia))) ?_);exact wpAny_pure (h _ ⟨(n5.2 _ (Ne.symm I.ne)).trans I.obj,xt,I.ne⟩ n5)
def Zj6 {vs:List Value} {kw:List (Str × Value)} (X:K.In s.heap) (hm:PySem.W.makesIn K C=true)
  (hi:PySem.W.findIn K (.ref C) "__init__"=some (some (.ref f))) (hf:PySem.W.typeIn K (.ref f)=some (.type "function"))
  (h:codeAny (model prog w) (A.under (.builtin "type.__call__" ⟨.ref C :: vs,kw⟩)) (.call (.ref f) ⟨.ref (s.heap.objs.size + 1) :: vs,kw⟩) (PySem.W.InitBack (s.heap.objs.size + 1) R)
   { s with heap:=(s.heap.push PySem.W.emptyDict).push (PySem.W.instObj C s.heap.objs.size) }) :
  codeAny (model prog w) A (.call (.ref C) ⟨vs,kw⟩) R s:=by
 obtain ⟨hh,g,d,t,os⟩:=s;exact PySem.W.make_core (PySem.W.makes_of X hm) (PySem.W.looks_findIn X hi) (λself=>PySem.W.bind_fn X self hf) (.inl Z) h
end
def putF (f:Str) (v:V):List (Str × V)->List (Str × V)
 | []=>[(f,v)]
 | (g,x) :: r=>if g=f then (g,v) :: r else (g,x) :: putF f v r
theorem Z1 (f g:Str) (v:V):∀ fs:List (Str × V),(putF f v fs).lookup g=if g=f then some v else fs.lookup g
 | []=>by
  show List.lookup g [(f,v)]=_;by_cases h:g=f
  ·have hb:(g == f)=true:=beq_iff_eq.mpr h
   simp only [List.lookup,hb,if_pos h]
  ·have hb:(g == f)=false:=beq_eq_false_iff_ne.mpr h
   simp only [List.lookup,hb,if_neg h]
 | (k,x) :: r=>by
  have ih:=Z1 f g v r;rw [show putF f v ((k,x) :: r)=(if k=f then (k,v) :: r else (k,x) :: putF f v r) from rfl];by_cases hk:k=f
  ·rw [if_pos hk]
   by_cases h:g=k
   ·have hb:(g == k)=true:=beq_iff_eq.mpr h
    simp only [List.lookup,hb,if_pos (h.trans hk)]
   ·have hb:(g == k)=false:=beq_eq_false_iff_ne.mpr h
    simp only [List.lookup,hb,if_neg (λe:g=f=>h (e.trans hk.symm))]
  ·rw [if_neg hk]
   by_cases h:g=k
   ·have hb:(g == k)=true:=beq_iff_eq.mpr h
    simp only [List.lookup,hb,if_neg (λe:g=f=>hk (h.symm.trans e))]
   ·have hb:(g == k)=false:=beq_eq_false_iff_ne.mpr h
    simp only [List.lookup,hb];exact ih
theorem U5 (f:Str) (v:V):∀ fs:List (Str × V),f∈(putF f v fs).map (·.1)/\∀ g,g∈fs.map (·.1)->g∈(putF f v fs).map (·.1)
 | []=>⟨by simp [putF],λg h=>by simp at h⟩
 | (k,x) :: r=>by
  obtain ⟨i1,i2⟩:=U5 f v r;rw [show putF f v ((k,x) :: r)=(if k=f then (k,v) :: r else (k,x) :: putF f v r) from rfl];by_cases hk:k=f
  ·rw [if_pos hk]
   subst hk;exact ⟨by simp,λg h=>by simpa using h⟩
  ·rw [if_neg hk]
   refine ⟨?_,λg h=>?_⟩
   ·rw [List.map_cons]
    exact List.mem_cons_of_mem _ i1
   ·rw [List.map_cons] at h ⊢
    rcases As h with e | e
    ·exact List.mem_cons.mpr (.inl e)
    ·exact List.mem_cons_of_mem _ (i2 g e)
theorem Kf (f:Str) (v:V):∀ fs:List (Str × V),(putF f v fs).length<=fs.length + 1
 | []=>by simp [putF]
 | (k,x) :: r=>by
  have ih:=Kf f v r;rw [show putF f v ((k,x) :: r)=(if k=f then (k,v) :: r else (k,x) :: putF f v r) from rfl];by_cases hk:k=f
  ·rw [if_pos hk,List.length_cons,List.length_cons]; lia
  ·rw [if_neg hk,List.length_cons,List.length_cons]; lia
def RelO.some_of (r:RelO (some v) o):∃ u,o=some u/\RelV v u:=by
 cases o with
 | none=>exact (show False from r).elim
 | some u=>exact ⟨u,Z,r⟩
def RelO.none_of (r:RelO none o):o=none:=by
 cases o with
 | none=>rfl
 | some u=>exact (show False from r).elim
def Zio (r:RelV v u):PySem.W.handedIn u=true:=by
 cases v with
 | non=>cases (show u=Value.none from r); rfl
 | bl b=>cases (show u=Value.bool b from r); rfl
 | int i=>obtain ⟨t,e⟩:=(show ∃ t,u=Value.int i t from r); cases e; rfl
 | str x=>obtain ⟨t,e⟩:=(show ∃ t,u=Value.str x t from r); cases e; rfl
 | byt b=>obtain ⟨t,e⟩:=(show ∃ t,u=Value.bytes b t from r); cases e; rfl
 | flt b=>obtain ⟨t,e⟩:=(show ∃ t,u=Value.float b t from r); cases e; rfl
 | ref a=>cases (show u=Value.ref a from r); rfl
 | ty n=>cases (show u=Value.type n from r); rfl
section
variable {P:Program} {w:World} {H H':Hp} {h h':Heap} {a C dx:Addr} {fs fs':List (Str × V)}
def Oi (hok:HOk P w H h) (e:H a=some (.ins C dx fs)):∃ mA,ObjM h a dx C mA/\(∀ f,RelO (fs.lookup f) (mA f))/\PySem.Within mA (fs.map (·.1))/\fs.length<=1000/\H dx=some (.own a):=by
 obtain ⟨d,z,ne,ob,mA,n,r,q⟩:=(show Yi P w H h a (.ins C dx fs) from hok a _ e);exact ⟨mA,⟨ob,n,ne⟩,r,q,z,d⟩
end
structure Cls (K:W.Frag) (C:Addr):Prop where
 pg:PySem.W.plainGet K C Str.empty=true
 hd:PySem.W.hasDictIn K C=true
 po:PySem.W.plainOver K C=true
 sa:PySem.W.findIn K (.ref C) "__setattr__"=some (some (.builtin "object.__setattr__"))
def Cls.get {K:W.Frag} {C:Addr} (c:Cls K C) (f:Str):PySem.W.plainGet K C f=true:=c.pg
def Xb (K:W.Frag) (C:Addr) (f:Str):Prop:=PySem.W.findIn K (.ref C) f=some none
def Xb.taker {K:W.Frag} {C:Addr} {f:Str} (n:Xb K C f):PySem.W.takerIn K C f=some none:=by
 unfold PySem.W.takerIn;rw [show PySem.W.findIn K (.ref C) f=some none from n];rfl
structure Meth (K:W.Frag) (C:Addr) (m:Str) (f:Addr):Prop where
 at_:PySem.W.findIn K (.ref C) m=some (some (.ref f))
 fn:PySem.W.isFn K (.ref f)=true
 kp:PySem.W.keepIn K (.ref f)=true
section
variable {X:Cx} {i7:List (Addr × Obj)} {σ:St} {H:Hp} {s:Shared} {a C dx:Addr} {fs:List (Str × V)} {f:Str} {v:V} {A:Around} {E:Value->Shared->Prop}
def Zgl (I:Inv X i7 σ H s) (e:H a=some (.ins C dx fs)) (c:Cls X.K C) (n:Xb X.K C f) (l:fs.lookup f=some v)
  (h:∀ u s',Inv X i7 σ H s'->RelV v u->Q u s'):wpAny (model X.prog X.w) A (getAttr (.ref a) f b) Q E s:=by
 obtain ⟨mA,O,r,_,_,_⟩:=Oi I.hok e;obtain ⟨u,hu,ru⟩:=RelO.some_of (v:=v) (o:=mA f) (by rw [<- l]; exact r f);exact Zmh I.kIn O (c.get f) c.hd n hu (Zio ru) (h u _ (I.tok _) ru)
def V5 (I:Inv X i7 σ H s) (e:H a=some (.ins C dx fs)) (c:Cls X.K C) (k:Meth X.K C m g) (l:fs.lookup m=none)
  (h:Q (.ref g,[.ref a]) s):wpAny (model X.prog X.w) A (getMethod (.ref a) m pl) Q E s:=by
 obtain ⟨mA,O,r,_,_,_⟩:=Oi I.hok e;have hn:mA m=none:=RelO.none_of (by rw [<- l]; exact r m);exact Zkj I.kIn O (c.get m) k.at_ k.fn hn h
def Zf0 (I:Inv X i7 σ H s) (e:H a=some (.ins C dx fs)) (c:Cls X.K C) (n:Xb X.K C f) (hl:fs.length < 1000) (ry:RelV y u)
  (h:∀ s',Inv X i7 σ (upd H a (.ins C dx (putF f y fs))) s'->Q () s'):wpAny (model X.prog X.w) A (setAttr (.ref a) f u) Q E s:=by
 obtain ⟨mA,O,r,wi,_,ho⟩:=Oi I.hok e;have hz:(fs.map (·.1)).length<=sizeLine:=by rw [Ac,sizeLine_eq]; lia
 refine Zlo I.kIn O c.sa c.po n.taker c.hd wi hz λh' O' sb=>h _ ?_;have hd:∃ o,h'.get? dx=some o:=let ⟨o,_,_,e',_⟩:=O'.ns; ⟨o,e'⟩
 refine I.write (x:=a) (e:=dx) (by rw [e]; exact True.intro) (.inr ho) (λb q hb z=>(sb.2 b hb).trans z) hd ?_;refine ⟨by rw [Zh O.ne]; exact ho,?_,O.ne,O'.obj,_,O'.ns,λg=>?_,λg hg=>?_⟩
 ·have:=Kf f y fs; lia
 ·show RelO ((putF f y fs).lookup g) (if g=f then some u else mA g)
  rw [Z1];by_cases q:g=f
  ·rw [if_pos q,if_pos q]; exact ry
  ·rw [if_neg q,if_neg q]; exact r g
 ·by_cases q:g=f
  ·rw [q]; exact (U5 f y fs).1
  ·refine (U5 f y fs).2 g (wi g λz=>hg ?_)
   show (if g=f then some u else mA g)=none;rw [if_neg q]; exact z
def Inv.made (I:Inv X i7 σ H s):Inv X i7 σ (upd (upd H s.heap.objs.size (.own (s.heap.objs.size + 1))) (s.heap.objs.size + 1) (.ins C s.heap.objs.size []))
  { s with heap:=(s.heap.push PySem.W.emptyDict).push (PySem.W.instObj C s.heap.objs.size) }:=by
 have e1:(s.heap.push PySem.W.emptyDict).get? s.heap.objs.size=some PySem.W.emptyDict:=Aq s.heap rfl;have e2:((s.heap.push PySem.W.emptyDict).push (PySem.W.instObj C s.heap.objs.size)).get? (s.heap.objs.size + 1)=some (PySem.W.instObj C s.heap.objs.size):=by
  have:=Aq (s.heap.push PySem.W.emptyDict) (o:=PySem.W.instObj C s.heap.objs.size) rfl
  rwa [Heap.size_push] at this
 have e3:(s.heap.push PySem.W.emptyDict).Ns s.heap.objs.size (λ_=>none):=⟨PySem.W.emptyDict,#[],_,e1,rfl,(λe he=>absurd he (by simp)),λ_=>rfl⟩;have I1:=I.laid (a:=s.heap.objs.size) (o:=.own (s.heap.objs.size + 1)) (h':=s.heap.push PySem.W.emptyDict) (t':=s.toks) (λb u q=>Al _ q) (Ao _) ⟨_,e1⟩;refine I1.laid (a:=s.heap.objs.size + 1) (o:=.ins C s.heap.objs.size []) (t':=s.toks) (λb u q=>Al _ q) (Nat.le_of_eq (Heap.size_push _ _)) ?_;have ne:s.heap.objs.size≠s.heap.objs.size + 1:=At (Nat.lt_succ_self _);refine ⟨by rw [Zh ne,Zc],A0 _,ne,e2,λ_=>none,(Heap.Ns1.of_empty e3).at λo q=>Al _ q,λ_=>True.intro,λy hy=>absurd Z hy⟩
def Zmm (hb:attributeBase e f env (eval e env)=eval e env)
  (h:wpAny (model prog w) A (eval e env) (λo s₁=>wpAny (model prog w) A (getAttr o f true) Q E s₁) E s):wpAny (model prog w) A (eval (.Attribute e f pos) env) Q E s :=
 Attribute_any_ h (by rw [arm_eval_Attribute,hb])
end
def tFld (K:W.Frag) (ta:TE) (f:Str):TE:=λσ H Q=>ta σ H λx H1=>∃ a C dx fs v,x=.ref a/\H1 a=some (.ins C dx fs)/\Cls K C/\Xb K C f/\fs.lookup f=some v/\Q v H1
def sFld (K:W.Frag) (ta tv:TE) (f:Str):TS:=λD σ H=>tv σ H λy H1=>ta σ H1 λx H2=>∃ a C dx fs,x=.ref a/\H2 a=some (.ins C dx fs)/\Cls K C/\Xb K C f/\fs.length < 1000 /\
 D.nx σ (upd H2 a (.ins C dx (putF f y fs)))
section
variable {X:Cx} {o e value:Expr} {f:Str} {pos j8 og:Pos} {ta tv:TE}
def Ye (he:PE X e ta) (hb:attributeBase e f X.env (eval e X.env)=eval e X.env):PE X (.Attribute e f pos) (tFld X.K ta f):=by
 intro i7 s σ H Q I h;refine Zmm hb (thn (he i7 s σ H _ I h) λu s1 ja=>?_);obtain ⟨x,H1,I1,rx,a,C,dx,fs,v,ex,ea,c,n,l,q⟩:=ja;subst ex;obtain rfl:u=Value.ref a:=rx;exact Zgl I1 ea c n l λu' s2 I2 ru=>⟨v,H1,I2,ru,q⟩
def X1 (ha:PE X o ta) (hv:PE X value tv) (hs:swapsWith value (some (.Attribute o f j8)) pos.line X.env=pure false):PS X (.Assign [.Attribute o f j8] value pos) (sFld X.K ta tv f):=by
 intro i7 s σ H D I h;refine plainObj_wpAny_Assign_Attribute (thn (hv i7 s σ H _ I h) λu s1 zz10=>?_) hs;obtain ⟨y,H1,I1,ry,q⟩:=zz10;refine thn (ha i7 s1 σ H1 _ I1 q) λov s2 zz11=>?_;obtain ⟨x,H2,I2,rx,a,C,dx,fs,ex,ea,c,n,l,q2⟩:=zz11;subst ex;obtain rfl:ov=Value.ref a:=rx;exact Zf0 I2 ea c n l ry λs3 I3=>⟨σ,_,I3,q2⟩
end
section
variable {X:Cx} {i7:List (Addr × Obj)} {σ:St} {H:Hp} {s:Shared} {A:Around} {E:Value->Shared->Prop} {Q:Value->Shared->Prop} {c:Value} {b:Bool}
inductive TyOf (K:W.Frag) (H:Hp):V->Value->Prop where
 | non:TyOf K H .non (.type "NoneType")
 | bl (x:Bool):TyOf K H (.bl x) (.type "bool")
 | int (i:Int):TyOf K H (.int i) (.type "int")
 | str (x:Str):TyOf K H (.str x) (.type "str")
 | flt (x:UInt64):TyOf K H (.flt x) (.type "float")
 | lst {a:Addr} {xs:List V} (e:H a=some (.lst xs)):TyOf K H (.ref a) (.type "list")
 | frz {a:Addr} {o:Obj} {xs:List V} (e:H a=some (.frz o (.lst xs))):TyOf K H (.ref a) (.type "list")
 | tup {a:Addr} {xs:List V} (e:H a=some (.tup xs)):TyOf K H (.ref a) (.type "tuple")
 | dK {a:Addr} {kvs:List (Key × V)} (e:H a=some (.dK kvs)):TyOf K H (.ref a) (.type "dict")
 | dT {a:Addr} {kvs:List (List Key × V)} (e:H a=some (.dT kvs)):TyOf K H (.ref a) (.type "dict")
 | ins {a C dx:Addr} {fs:List (Str × V)} (e:H a=some (.ins C dx fs)) (cl:Cls K C) (ha:PySem.W.findIn K (.ref C) "__class__"=some (some (.builtin "object.__class__")))
   (hn:PySem.W.specialIn K (.builtin "object.__class__") "__get__"=some (some (.builtin "getset_descriptor.__get__"))) (htk:PySem.W.takesIn K (.builtin "object.__class__")=some true)
   (hm:PySem.W.mroIn K C (.type "object")=some true):TyOf K H (.ref a) (.ref C)
def Zii (I:Inv X i7 σ H s) (rx:RelV x u) (ty:TyOf X.K H x t) (e:PySem.W.kitOne X.K t c=some b) (h:∀ tk,Q (.bool b) { s with toks:=tk }) :
  wpAny (model X.prog X.w) A (call (.builtin "isinstance") [u,c]) Q E s:=by
 cases ty with
 | non=>cases (show u=Value.none from rx); exact PySem.W.kia_one PySem.W.kitx_none I.kIn True.intro e (λz=>nomatch z) h
 | bl y=>cases (show u=Value.bool y from rx); exact PySem.W.kia_one PySem.W.kitx_bool I.kIn True.intro e (λz=>nomatch z) h
 | int i=>obtain ⟨t,q⟩:=(show ∃ t,u=Value.int i t from rx); cases q; exact PySem.W.kia_one PySem.W.kitx_int I.kIn True.intro e (λz=>nomatch z) h
 | str y=>obtain ⟨t,q⟩:=(show ∃ t,u=Value.str y t from rx); cases q; exact PySem.W.kia_one PySem.W.kitx_str I.kIn True.intro e (λz=>nomatch z) h
 | flt y=>obtain ⟨t,q⟩:=(show ∃ t,u=Value.float y t from rx); cases q; exact PySem.W.kia_one PySem.W.kitx_float I.kIn True.intro e (λz=>nomatch z) h
 | @lst a xs ea =>
  cases (show u=Value.ref a from rx);obtain ⟨_,_,n,_,h1⟩:=(show Yi X.prog X.w H s.heap a (.lst xs) from I.hok a _ ea);exact PySem.W.kia_one PySem.W.kitx_list I.kIn ⟨_,h1,Z⟩ e (λz=>nomatch z) h
 | @frz a ob xs ea =>
  cases (show u=Value.ref a from rx);obtain ⟨_,_,_,n,_,h1⟩:=(show Yi X.prog X.w H s.heap a (.frz ob (.lst xs)) from I.hok a _ ea);exact PySem.W.kia_one PySem.W.kitx_list I.kIn ⟨_,h1,Z⟩ e (λz=>nomatch z) h
 | @tup a xs ea =>
  cases (show u=Value.ref a from rx);obtain ⟨_,_,_,p⟩:=(show Yi X.prog X.w H s.heap a (.tup xs) from I.hok a _ ea);obtain ⟨o,h1,h2,_⟩:=p;exact PySem.W.kia_one PySem.W.kitx_tuple I.kIn ⟨o,h1,h2⟩ e (λz=>nomatch z) h
 | @dK a kvs ea =>
  cases (show u=Value.ref a from rx);obtain ⟨_,_,vs,_,p⟩:=(show Yi X.prog X.w H s.heap a (.dK kvs) from I.hok a _ ea);obtain ⟨o,es,ep,h1,h2,_⟩:=p;exact PySem.W.kia_one PySem.W.kitx_dict I.kIn ⟨o,h1,h2.1⟩ e (λz=>nomatch z) h
 | @dT a kvs ea =>
  cases (show u=Value.ref a from rx);obtain ⟨_,_,xs,_,o,es,ep,h1,h2,_⟩:=(show Yi X.prog X.w H s.heap a (.dT kvs) from I.hok a _ ea);exact PySem.W.kia_one PySem.W.kitx_dict I.kIn ⟨o,h1,h2.1⟩ e (λz=>nomatch z) h
 | @ins a C dx fs ea cl ha hn htk hm =>
  cases (show u=Value.ref a from rx);obtain ⟨mA,O,_⟩:=Oi I.hok ea;obtain ⟨od,J,_⟩:=O.look;exact PySem.W.kia_one (PySem.W.kitx_own (cl.get _) cl.hd ha hn htk hm) I.kIn J e (λz=>nomatch z) h
end
structure Room (k:Nat) (A:Around):Prop where
 hd:A.handled=none
 dp:A.depth + 3 * k + 5 < recursionLimit
 un:A.units + 16 * k + 200 < cLine
def Room.mono (r:Room k A) (h:j<=k):Room j A:=⟨r.hd,by have:=r.dp; lia,by have:=r.un; lia⟩
def Room.deeper {A:Around} (r:Room (k + 1) A) (env:Env):Room k (A.deeper env) :=
 ⟨r.hd,by have:=r.dp; show A.depth + 1 + 3 * k + 5 < _; lia,by have:=r.un; show A.units + 3 + 16 * k + 200 < _; lia⟩
def Zgj {A:Around} {us:List Value} {kw:List (Str × Value)}:(A.under (.builtin "type.__call__" ⟨.ref C :: us,kw⟩)).depth=A.depth + 1:=by
 first | rfl | simp [Around.under,Code.weight,Code.isCreation,Code.isGuard,Code.isCaller,Code.frames,Code.isFrame,guardIds]
def Zgi {A:Around} {us:List Value} {kw:List (Str × Value)}:(A.under (.builtin "type.__call__" ⟨.ref C :: us,kw⟩)).units=A.units + 1:=by
 first | rfl | simp [Around.under,Code.cUnits,Code.frames,Code.isFrame]
def Room.make {A:Around} (r:Room (k + 1) A) (C:Addr) (us:List Value) (kw:List (Str × Value)):Room k (A.under (.builtin "type.__call__" ⟨.ref C :: us,kw⟩)) :=
 ⟨r.hd,by have:=r.dp; rw [Zgj]; lia,by have:=r.un; rw [Zgi]; lia⟩
def Room.depth {A:Around} (r:Room k A):A.depth < recursionLimit:=by have:=r.dp; lia
def Room.units {A:Around} (r:Room k A):A.units + 64 < cLine:=by have:=r.un; lia
def tNil:TA:=λ_ H Q=>Q [] H
def Zk0 (ta:TE) (tr:TA):TA:=λσ H Q=>ta σ H λx H1=>tr σ H1 λxs H2=>Q (x :: xs) H2
section
variable {X:Cx} {e:Expr} {es:List Expr} {te:TE} {t:TA} {pos:Pos}
def Zb:PA X [] tNil:=λ_ _ _ _ H Q I h=>Calls.spliced_nil ⟨[],H,I,.nil,h⟩
def Za (ha:PE X e te) (hr:PA X es t) (hs:starEach (e :: es) X.env=(false,eval e X.env) :: starEach es X.env:=by rfl):PA X (e :: es) (Zk0 te t):=by
 intro pos i7 s σ H Q I h;rw [hs];show wpAny _ _ (spliced ((false,eval e X.env) :: backTo pos (starEach es X.env))) _ _ s;refine Calls.spliced_cons (thn (ha i7 s σ H _ I h) λu s1 ja=>?_);obtain ⟨x,H1,I1,r1,q1⟩:=ja;refine thn (hr pos i7 s1 σ H1 _ I1 q1) λus s2 zz12=>?_;obtain ⟨xs,H2,I2,r2,q2⟩:=zz12;exact ⟨x :: xs,H2,I2,.cons r1 r2,q2⟩
def tTup (t:TA):TE:=λσ H Q=>t σ H λxs H1=>xs.length<=sizeLine/\∀ p,H1 p=none->Q (.ref p) (upd H1 p (.tup xs))
def tLst (t:TA):TE:=λσ H Q=>t σ H λxs H1=>xs.length<=sizeLine/\∀ p,H1 p=none->Q (.ref p) (upd H1 p (.lst xs))
def W7 {x1} (h:PA X es t):PE X (.Tuple es x1 pos) (tTup t):=by
 intro i7 s σ H Q I hq;refine wpAny_Tuple_spliced (thn (h pos i7 s σ H _ I hq) λus s1 qx=>?_);obtain ⟨xs,H1,I1,r,z,q⟩:=qx;refine ⟨by rw [<- r.length]; exact z,?_⟩;have hf:H1 s1.heap.objs.size=none:=I1.hok.fresh (Ao _);refine ⟨.ref s1.heap.objs.size,upd H1 s1.heap.objs.size (.tup xs),I1.laid (t':=s1.toks) (λb u e=>Al _ e) (Ao _) ?_,Z,q _ hf⟩;exact ⟨z,us,r,⟨_,Aq _ Z,Z,_,Z⟩⟩
def Ya (h:PA X es t):PE X (.List es pos) (tLst t):=by
 intro i7 s σ H Q I hq;refine wpAny_List_spliced (thn (h pos i7 s σ H _ I hq) λus s1 qx=>?_);obtain ⟨xs,H1,I1,r,z,q⟩:=qx;refine ⟨by rw [<- r.length]; exact z,?_⟩;have hf:H1 s1.heap.objs.size=none:=I1.hok.fresh (Ao _);refine ⟨.ref s1.heap.objs.size,upd H1 s1.heap.objs.size (.lst xs),I1.laid (t':=s1.toks) (λb u e=>Al _ e) (Ao _) ?_,Z,q _ hf⟩;exact ⟨z,us,0,r,Aq _ Z⟩
end
abbrev Sp:=List V->Hp->VK->XK->Prop
abbrev CXT:=List Env->Hp->Shared->XK->Value->Shared->Prop
structure Env0 (P:Program) (w:World) (K:W.Frag) (mg:Str->Option Value) (base:Heap) (A:Around) (outer:List Env) (s:Shared) (H:Hp):Prop where
 frames:A.frames=some outer
 mod:Mod K mg base
 bs:∀ b o,base.get? b=some o->s.heap.get? b=some o/\H b=none
 bsz:base.objs.size<=s.heap.objs.size
 funs:s.heap.FunFrames base outer
 frf:∀ b∈frs outer,H b=none
 hok:HOk P w H s.heap
 bare:AllBare s.gens
def CE (outer:List Env) (P:Program) (w:World) (H:Hp) (s:Shared) (Q:VK) (u:Value) (s':Shared):Prop :=
 ∃ v H',s'.os=s.os/\AllBare s'.gens/\Un (frs outer) [] H H' s.heap s'.heap/\HOk P w H' s'.heap/\RelV v u/\Q v H'
def CR (CX:CXT) (outer:List Env) (P:Program) (w:World) (H:Hp) (s:Shared) (Q:VK) (E:XK) (r:Result) (s':Shared):Prop :=
 match r with
 | .ok (.ret u)=>CE outer P w H s Q u s'
 | .ok _=>False
 | .error e=>CX outer H s E e s'
structure FnOk (P:Program) (w:World) (K:W.Frag) (mg:Str->Option Value) (base:Heap) (CX:CXT) (k:Nat) (f:Addr) (fd:FuncData) (ps:List Str) (sp:Sp):Prop where
 len:∀ vs H Q E,sp vs H Q E->vs.length=ps.length
 run:∀ (A:Around) (outer:List Env) (s:Shared) (H:Hp) (args:Args) (us:List Value) (vs:List V) (Q:VK) (E:XK),Room k A->Env0 P w K mg base A outer s H->BindsTo s fd args (ps.zip us)->Vals vs us->sp vs H Q E ->
  codeAny (model P w) A (.call (.ref f) args) (CR CX outer P w H s Q E) s
def Env0.make {P:Program} {w:World} {K:W.Frag} {mg:Str->Option Value} {base:Heap} {A:Around} {outer:List Env} {s:Shared} {H:Hp} (e:Env0 P w K mg base A outer s H) (C:Addr) (us:List Value) (kw:List (Str × Value)) :
  Env0 P w K mg base (A.under (.builtin "type.__call__" ⟨.ref C :: us,kw⟩)) outer s H:=⟨by first | exact e.frames | (simpa [Around.under,Code.envs,Code.isFrame,pushEnvs] using e.frames),e.mod,e.bs,e.bsz,e.funs,e.frf,e.hok,e.bare⟩
section
variable {X:Cx} {i7:List (Addr × Obj)} {σ:St} {H:Hp} {s s':Shared}
def Inv.env0 (I:Inv X i7 σ H s):Env0 X.prog X.w X.K X.mg X.base X.A X.stack s H :=
 ⟨I.ok.frames,I.ok.mod,I.bs,Nat.le_trans I.ok.bsz I.sz,I.stack,I.stkFree,I.hok,I.bare⟩
def Inv.after (I:Inv X i7 σ H s) (h:CE X.stack X.prog X.w H s Q u s'):EP X i7 σ Q u s':=by
 obtain ⟨v,H',os,bare,un,hok,r,q⟩:=h;obtain ⟨hh,g,d,t,yk⟩:=s';obtain rfl:yk=s.os:=os;exact ⟨v,H',I.call (h':=hh) (g':=g) (d':=d) (t':=t) (ch:=[]) un hok bare (λb z=>absurd z (by simp)),r,q⟩
end
def Zk1 (sp:Sp) (jn:List V) (E:XK) (t:TA):TE:=λσ H Q=>t σ H λvs H1=>sp (vs ++ jn) H1 Q E
def Zkx (C:Addr) (m:Str) (sp:Sp) (jn:List V) (E:XK) (ta:TE) (t:TA):TE:=λσ H Q=>ta σ H λx H1=>∃ a dx fs,x=.ref a/\H1 a=some (.ins C dx fs)/\fs.lookup m=none /\
 t σ H1 λvs H2=>sp (x :: (vs ++ jn)) H2 Q E
def Zof (C:Addr) (sp:Sp) (jn:List V) (E:XK) (t:TA):TE:=λσ H Q=>t σ H λvs H1=>∀ x dx,H1 x=none->H1 dx=none->dx≠x ->
 sp (.ref x :: (vs ++ jn)) (upd (upd H1 dx (.own x)) x (.ins C dx [])) (λv H2=>v=.non/\Q (.ref x) H2) E
def X4 (K:W.Frag) (fd:FuncData) (ps:List Str) (ds:List Value):Prop :=
 ∀ (s:Shared) (us:List Value),K.In s.heap->(us ++ ds).length=ps.length->BindsTo s fd ⟨us,[]⟩ (ps.zip (us ++ ds))
def X4.all {K:W.Frag} {fd:FuncData} {ps:List Str} (h:∀ us:List Value,us.length=ps.length->bindArgs fd ⟨us,[]⟩=pure (ps.zip us)):X4 K fd ps []:=λs us _ hl=>by
 rw [List.append_nil] at hl ⊢;exact .of_eq (h us hl)
def Qx (CX:CXT) (X:Cx) (E:XK):Prop:=∀ (i7:List (Addr × Obj)) (σ:St) (H:Hp) (s:Shared) (e:Value) (s':Shared),Inv X i7 σ H s->CX X.stack H s E e s'->X.xe e s'
section
variable {X:Cx} {CX:CXT} {k:Nat} {f C:Addr} {fd:FuncData} {ps:List Str} {sp:Sp} {jn:List V} {ds:List Value} {E:XK} {x m:Str} {p pos jg:Pos} {e o:Expr} {es:List Expr} {ta:TE} {t:TA}
def Zcq (F:FnOk X.prog X.w X.K X.mg X.base CX k f fd ps sp) (hr:Room k X.A) (hb:X4 X.K fd ps ds) (hd:Vals jn ds) (hx:Qx CX X E)
  (I:Inv X i7 σ H s) (r:Vals vs us) (h:sp (vs ++ jn) H Q E):wpAny (model X.prog X.w) X.A (call (.ref f) us) (EP X i7 σ Q) X.xe s:=by
 have r2:Vals (vs ++ jn) (us ++ ds):=r.append hd;have hl:(us ++ ds).length=ps.length:=by rw [<- r2.length]; exact F.len _ _ _ _ h
 refine wpAny_call (codeAny_mono (F.run X.A X.stack s H ⟨us,[]⟩ (us ++ ds) (vs ++ jn) Q E hr I.env0 (hb s us I.kIn hl) r2 h) λr s' hq=>?_)
 cases r with
 | error e=>exact hx i7 σ H s e s' I hq
 | ok fl =>
  cases fl with
  | ret u=>exact I.after hq
  | next=>exact False.elim hq
  | brk=>exact False.elim hq
  | cont=>exact False.elim hq
def Zl4 (F:FnOk X.prog X.w X.K X.mg X.base CX k f fd ps sp) (hr:Room k X.A) (hg:Gl X x) (hm:X.mg x=some (.ref f)) (hk:PySem.W.keepIn X.K (.ref f)=true) (hb:X4 X.K fd ps ds) (hd:Vals jn ds) (hx:Qx CX X E)
  (ha:PA X (e :: es) t) (ka:(x == ("__debug__":Str))=false:=by decide) (he:starEach (e :: es) X.env=(false,eval e X.env) :: starEach es X.env:=by rfl) (ju:(backTo pos (starEach es X.env)).any (·.1)=false:=by rfl) :
  PE X (.Call (.Name x p) (e :: es) [] pos) (Zk1 sp jn E t):=by
 intro i7 s σ H Q I h;refine wpAny_Call_Name_kw (W5 I hg hm ?_ ka);refine PySem.W.callWith_K (h₀:=X.base) I.ok.mod.kin hk (thn (ha pos i7 s σ H _ I h) λus s1 zz13=>?_) he ju;obtain ⟨vs,H1,I1,r,q⟩:=zz13;refine ⟨I1.kIn,?_⟩;exact Zcq F hr hb hd hx I1 r q
def Wk {pl:Sem Bool} (he:PE X o ta) (c:Cls X.K C) (hm:Meth X.K C m f) (F:FnOk X.prog X.w X.K X.mg X.base CX k f fd ps sp) (hr:Room k X.A) (hb:X4 X.K fd ps ds) (hd:Vals jn ds) (hx:Qx CX X E) (ha:PA X (e :: es) t)
  (j5:starEach (e :: es) X.env=(false,eval e X.env) :: starEach es X.env:=by rfl) (ju:(backTo pos (starEach es X.env)).any (·.1)=false:=by rfl)
  (ht:eval (.Call (.Attribute o m jg) (e :: es) [] pos) X.env=(do
   let ov <- eval o X.env
   standAt jg.atName
   let (f,first) <- holding [ov] (getMethod ov m pl)
   callWith pos f first (backTo pos (starEach (e :: es) X.env)) (backToKw pos (keywordEach [] X.env))):=by rfl) :
  PE X (.Call (.Attribute o m jg) (e :: es) [] pos) (Zkx C m sp jn E ta t):=by
 intro i7 s σ H Q I h;refine PySem.W.methodCall_KW (pl:=pl) (thn (he i7 s σ H _ I h) λu s1 zz14=>?_) ht;obtain ⟨x,H1,I1,rx,a,dx,fs,ex,ea,l,q⟩:=zz14;subst ex;obtain rfl:u=Value.ref a:=rx;refine V5 I1 ea c hm l ?_;refine PySem.W.callWith_K (first:=[.ref a]) (h₀:=X.base) I.ok.mod.kin hm.kp (thn (ha pos i7 s1 σ H1 _ I1 q) λus s2 zz15=>?_) j5 ju;obtain ⟨vs,H2,I2,r,q2⟩:=zz15;refine ⟨I2.kIn,?_⟩;exact Zcq (us:=.ref a :: us) (vs:=.ref a :: vs) F hr hb hd hx I2 (.cons Z r) q2
def X5 {pl:Sem Bool} (he:PE X o ta) (c:Cls X.K C) (hm:Meth X.K C m f) (F:FnOk X.prog X.w X.K X.mg X.base CX k f fd ps sp) (hr:Room k X.A) (hb:X4 X.K fd ps ds) (hd:Vals jn ds) (hx:Qx CX X E)
  (ht:eval (.Call (.Attribute o m jg) [] [] pos) X.env=(do
   let ov <- eval o X.env
   standAt jg.atName
   let (f,first) <- holding [ov] (getMethod ov m pl)
   callWith pos f first (backTo pos (starEach [] X.env)) (backToKw pos (keywordEach [] X.env))):=by rfl) :
  PE X (.Call (.Attribute o m jg) [] [] pos) (Zkx C m sp jn E ta tNil):=by
 intro i7 s σ H Q I h;refine PySem.W.methodCall_KW (pl:=pl) (thn (he i7 s σ H _ I h) λu s1 zz16=>?_) ht;obtain ⟨x,H1,I1,rx,a,dx,fs,ex,ea,l,q⟩:=zz16;subst ex;obtain rfl:u=Value.ref a:=rx;refine V5 I1 ea c hm l ?_;exact PySem.W.callWith_K0 (first:=[.ref a]) I1.kIn hm.kp (Zcq (us:=[.ref a]) (vs:=[.ref a]) F hr hb hd hx I1 (.cons Z .nil) q)
structure Mk (K:W.Frag) (C f:Addr):Prop where
 makes:PySem.W.makesIn K C=true
 init:PySem.W.findIn K (.ref C) "__init__"=some (some (.ref f))
 fn:PySem.W.isFn K (.ref f)=true
 kp:PySem.W.keepIn K (.ref C)=true
def Zjj (M:Mk X.K C f) (F:FnOk X.prog X.w X.K X.mg X.base CX k f fd ps sp) (hr:Room (k + 1) X.A) (hb:X4 X.K fd ps ds) (hd:Vals jn ds)
  (hx:Qx CX X E) (I:Inv X i7 σ H s) (r:Vals vs us)
  (h:∀ x dx,H x=none->H dx=none->dx≠x->sp (.ref x :: (vs ++ jn)) (upd (upd H dx (.own x)) x (.ins C dx [])) (λv H2=>v=.non/\Q (.ref x) H2) E) :
  wpAny (model X.prog X.w) X.A (call (.ref C) us) (EP X i7 σ Q) X.xe s:=by
 have hq:=h (s.heap.objs.size + 1) s.heap.objs.size (I.hok.fresh (Nat.le_succ _)) (I.hok.fresh (Ao _)) (At (Nat.lt_succ_self _));have I2:=Inv.made (C:=C) I;have r2:Vals (V.ref (s.heap.objs.size + 1) :: (vs ++ jn)) (Value.ref (s.heap.objs.size + 1) :: (us ++ ds)):=.cons rfl (r.append hd);have hl:(Value.ref (s.heap.objs.size + 1) :: us ++ ds).length=ps.length:=by
  have e:=r2.length
  rw [F.len _ _ _ _ hq] at e
  exact e.symm
 refine wpAny_call (Zj6 (f:=f) I.kIn M.makes M.init (beq_iff_eq.mp M.fn) (codeAny_mono (F.run _ X.stack _ _ ⟨Value.ref (s.heap.objs.size + 1) :: us,[]⟩ (Value.ref (s.heap.objs.size + 1) :: (us ++ ds)) _ _ E (hr.make C us [])
  (I2.env0.make C us []) (hb _ (Value.ref (s.heap.objs.size + 1) :: us) I2.kIn hl) r2 hq) λr s' m9=>?_))
 cases r with
 | error e=>exact hx i7 σ _ _ e s' I2 m9
 | ok fl =>
  cases fl with
  | ret u =>
   obtain ⟨v,H',I3,rv,ev,q3⟩:=I2.after m9;subst ev;exact ⟨rv,⟨V.ref (s.heap.objs.size + 1),H',I3,Z,q3⟩⟩
  | next=>exact False.elim m9
  | brk=>exact False.elim m9
  | cont=>exact False.elim m9
def Qe (M:Mk X.K C f) (F:FnOk X.prog X.w X.K X.mg X.base CX k f fd ps sp) (hr:Room (k + 1) X.A) (hg:Gl X x) (hm:X.mg x=some (.ref C)) (hb:X4 X.K fd ps ds) (hd:Vals jn ds) (hx:Qx CX X E)
  (ha:PA X (e :: es) t) (ka:(x == ("__debug__":Str))=false:=by decide) (he:starEach (e :: es) X.env=(false,eval e X.env) :: starEach es X.env:=by rfl) (ju:(backTo pos (starEach es X.env)).any (·.1)=false:=by rfl) :
  PE X (.Call (.Name x p) (e :: es) [] pos) (Zof C sp jn E t):=by
 intro i7 s σ H Q I h;refine wpAny_Call_Name_kw (W5 I hg hm ?_ ka);refine PySem.W.callWith_K (h₀:=X.base) I.ok.mod.kin M.kp (thn (ha pos i7 s σ H _ I h) λus s1 zz17=>?_) he ju;obtain ⟨vs,H1,I1,r,q⟩:=zz17;refine ⟨I1.kIn,?_⟩;exact Zjj M F hr hb hd hx I1 r q
end
structure FnScope (N P:List Str) (sc:Scope):Prop where
 kind:sc.kind=.function
 co:sc.isCoroutine=false
 gen:sc.isGenerator=false
 nd:N.Nodup
 pre:N.take P.length=P
 par:∀ x∈P,sc.names.lookup x=some .local\/sc.names.lookup x=some .cell
 nofree:∀ y∈sc.names,y.2≠.free
def An{N P:List Str}{sc:Scope}(a:sc.kind=.function:=by rfl)(b:sc.isCoroutine=false:=by rfl)(c:sc.isGenerator=false:=by rfl)(d:N.Nodup:=by decide +kernel)(e:N.take P.length=P:=by rfl)(f:∀ x∈P,sc.names.lookup x=some .local\/sc.names.lookup x=some .cell:=by decide +kernel)(g:∀ y∈sc.names,y.2≠.free:=by decide +kernel):FnScope N P sc:=⟨a,b,c,d,e,f,g⟩
theorem Zar {kindOf:Str->Option NameKind} {x:Str}:∀ {binds:List (Str × Value)} {m:Str->Option Value},(∀ v,(x,v) ∉ binds)->bindL kindOf binds m x=m x
 | [],_,_=>rfl
 | (n,v) :: r,m,h=>by
  unfold bindL;rw [Zar λw hw=>h w (List.mem_cons_of_mem _ hw)];split
  ·have:x≠n:=by rintro rfl; exact h v List.mem_cons_self
   simp [this]
  ·rfl
theorem Zat {kindOf:Str->Option NameKind} {x:Str}:∀ {binds:List (Str × Value)} {m:Str->Option Value},(∀ v,(x,v) ∉ binds)->bindC kindOf binds m x=m x
 | [],_,_=>rfl
 | (n,v) :: r,m,h=>by
  unfold bindC;rw [Zat λw hw=>h w (List.mem_cons_of_mem _ hw)];split
  ·rfl
  ·have:x≠n:=by rintro rfl; exact h v List.mem_cons_self
   simp [this]
theorem Zas {kindOf:Str->Option NameKind} {x:Str} {v:Value}:∀ {P:List Str} {vs:List Value} {i:Nat} {m:Str->Option Value},P.Nodup->P[i]?=some x->vs[i]?=some v->kindOf x=some .local ->
  bindL kindOf (P.zip vs) m x=some v
 | [],_,_,_,_,h,_,_=>by simp at h
 | _ :: _,[],_,_,_,_,h,_=>by simp at h
 | p :: P,w :: vs,0,m,nd,h1,h2,hk=>by
  simp at h1 h2; subst h1; subst h2;show bindL kindOf ((p,w) :: P.zip vs) m p=_;unfold bindL;rw [Zar λv hv=>(List.nodup_cons.mp nd).1 (List.of_mem_zip hv).1,if_pos hk];simp
 | p :: P,w :: vs,i + 1,m,nd,h1,h2,hk=>by
  show bindL kindOf ((p,w) :: P.zip vs) m x=_;unfold bindL;exact Zas (i:=i) (List.nodup_cons.mp nd).2 (by simpa using h1) (by simpa using h2) hk
theorem Zau {kindOf:Str->Option NameKind} {x:Str} {v:Value}:∀ {P:List Str} {vs:List Value} {i:Nat} {m:Str->Option Value},P.Nodup->P[i]?=some x->vs[i]?=some v->kindOf x≠some .local ->
  bindC kindOf (P.zip vs) m x=some v
 | [],_,_,_,_,h,_,_=>by simp at h
 | _ :: _,[],_,_,_,_,h,_=>by simp at h
 | p :: P,w :: vs,0,m,nd,h1,h2,hk=>by
  simp at h1 h2; subst h1; subst h2;show bindC kindOf ((p,w) :: P.zip vs) m p=_;unfold bindC;rw [Zat λv hv=>(List.nodup_cons.mp nd).1 (List.of_mem_zip hv).1,if_neg hk];simp
 | p :: P,w :: vs,i + 1,m,nd,h1,h2,hk=>by
  show bindC kindOf ((p,w) :: P.zip vs) m x=_;unfold bindC;exact Zau (i:=i) (List.nodup_cons.mp nd).2 (by simpa using h1) (by simpa using h2) hk
def start (N:List Str) (vs:List V):St:=vs.map some ++ List.replicate (N.length - vs.length) none
def cxOf (CX:CXT) (P:Program) (w:World) (K:W.Frag) (mg:Str->Option Value) (base:Heap) (N:List Str) (qual:Str) (scope:Scope) (f:Addr) (cd:Value) (A:Around) (outer:List Env) (s:Shared) (H:Hp) (E:XK):Cx where
 prog:=P
 w:=w
 K:=K
 mg:=mg
 base:=base
 A:=A.deeper (envOfC qual scope s.heap.objs.size f cd)
 N:=N
 s₀:=s
 H₀:=H
 env:=envOfC qual scope s.heap.objs.size f cd
 outer:=outer
 stack:=envOfC qual scope s.heap.objs.size f cd :: outer
 ex:=[]
 calm:=true
 fn:=λ_=>true
 pn:=[]
 xe:=λe s'=>wpAny (model P w) (A.deeper (envOfC qual scope s.heap.objs.size f cd)) (leaving (envOfC qual scope s.heap.objs.size f cd) e) (λ_ ku=>CX outer H s E e ku) (λe' ku=>CX outer H s E e' ku) s'
def Zdm {sc:Scope} (h:sc.names.lookup x=some .cell):∃ c,(cellsFrom n sc.names []).lookup x=some c:=by
 have q:=PySem.W.cellsFrom_some sc.names n [] (.inl h);exact Option.isSome_iff_exists.mp q
def Zik {CX:CXT} {P:Program} {w:World} {K:W.Frag} {mg:Str->Option Value} {base:Heap} {N ps:List Str} {qual:Str} {scope:Scope} {f:Addr} {cd:Value} {A:Around} {outer:List Env} {s s1:Shared} {H:Hp} {E:XK} {us:List Value} {vs:List V}
  (S:FnScope N ps scope) (hd:A.handled=none) (e0:Env0 P w K mg base A outer s H) (hl:vs.length=ps.length) (r:Vals vs us)
  (x:InCallC s s.heap.objs.size (bindL (envOfC qual scope s.heap.objs.size f cd).kindOf (ps.zip us) λ_=>none) (cellsFrom (s.heap.objs.size + 1) scope.names []) (bindC (envOfC qual scope s.heap.objs.size f cd).kindOf (ps.zip us) λ_=>none) s1) :
  Inv (cxOf CX P w K mg base N qual scope f cd A outer s H E) [] (start N vs) H s1:=by
 have ju:ps.length<=N.length:=by have:=congrArg List.length S.pre; rw [Aj] at this; lia
 obtain ⟨h1,tk,rfl,hk⟩:=x.done;have u8:∀ b:Addr,b ∉ (cxOf CX P w K mg base N qual scope f cd A outer s H E).ex:=λb z=>absurd (show b∈([]:List Addr) from z) (by simp);refine ⟨⟨e0.mod,S.kind,Z,Z,Ao _,λy z c h1 h2=>?_,λy hy=>?_,λy c _ h=>?_,λ_=>hd,Around.frames_deeper e0.frames,.inr ⟨Z,Z⟩,λb z=>absurd z (u8 b),e0.bs,e0.bsz,λb _ _=>u8 b,λb z=>absurd z (u8 b),e0.funs,e0.frf⟩,
  rfl,e0.bare,Un.kept hk,⟨_,x.toInCall.ns,λi y v h1 h2 h3=>?_⟩,λy c h=>⟨_,x.cell y c h⟩,e0.hok.fresh (Ao _),λy c h=>?_,λp hp=>absurd (show p∈([]:List (Addr × Obj)) from hp) (by simp),e0.hok.kept hk,?_⟩
 ·exact name_of_addr x.apart (PySem.mem_of_lookup h1) (PySem.mem_of_lookup h2)
 ·have hy:scope.names.lookup y=some .cell\/scope.names.lookup y=some .free:=hy
  rcases hy with hy | hy
  ·exact Zdm hy
  ·exact absurd Z (S.nofree _ (PySem.mem_of_lookup hy))
 ·exact Nat.le_of_lt (x.above y c (PySem.mem_of_lookup h))
 ·have hi:i < vs.length:=by
   unfold start at h2;by_cases hi:i < vs.length
   ·exact hi
   ·rw [List.getElem?_append_right (by simpa using hi)] at h2
    rw [List.getElem?_replicate] at h2;split at h2 <;> cases h2
  have ha:vs[i]?=some v:=by
   unfold start at h2;rw [Aw (by simpa using hi),Ai] at h2
   cases e:vs[i]? with
   | none=>rw [e] at h2; cases h2
   | some a=>rw [e] at h2; cases h2; rfl
  obtain ⟨u,hu,rv⟩:=r.get ha;have hp:ps[i]?=some y:=by
   rw [<- S.pre,List.getElem?_take_of_lt (by lia)]; exact h1
  have ndP:ps.Nodup:=by rw [<- S.pre]; exact S.nd.sublist (List.take_sublist _ _)
  refine ⟨u,rv,?_⟩
  rcases S.par y (Av hp) with k | k
  ·exact .inl ⟨k,Zas ndP hp hu k⟩
  ·obtain ⟨c,e⟩:=Zdm (n:=s.heap.objs.size + 1) k
   refine .inr ⟨.inl k,c,e,?_⟩;have q:=x.cell y c e;rw [Zau ndP hp hu (by show scope.names.lookup y≠_; rw [k]; decide)] at q;exact q
 ·exact e0.hok.fresh (Nat.le_of_lt (x.above y c (PySem.mem_of_lookup h)))
 ·unfold start
  show _=N.length;rw [Af,Ac,List.length_replicate];lia
def Zgn {CX:CXT} {P:Program} {w:World} {K:W.Frag} {mg:Str->Option Value} {base:Heap} {k:Nat} {f:Addr} {name qual:Str} {params:Arguments} {body:List Stmt} {scope:Scope} {dV kV jm pm jc ct oc:Value} {an od:Option Addr}
  {pd:Array (Option Value)} {N ps:List Str} {sp:Sp} (lk:K.lookup f=some ⟨oc,od,.func (PySem.W.fnOf name qual params body scope dV kV jm pm an jc ct),pd⟩) (k6:PySem.W.codeIn K jc qual=true) (S:FnScope N ps scope)
  (len:∀ vs H Q E,sp vs H Q E->vs.length=ps.length)
  (jt:∀ (A:Around) (outer:List Env) (s:Shared) (H:Hp) (vs:List V) (Q:VK) (E:XK),Room k (A.deeper (envOfC qual scope s.heap.objs.size f jc))->sp vs H Q E ->
   ∃ t,PSs (cxOf CX P w K mg base N qual scope f jc A outer s H E) body t/\t { nx:=λ_ H'=>Q .non H',rt:=Q } (start N vs) H) :
  FnOk P w K mg base CX (k + 1) f (PySem.W.fnOf name qual params body scope dV kV jm pm an jc ct) ps sp:=by
 refine ⟨len,λA outer s H args us vs Q E hr e0 hb r j7=>?_⟩;have hl:=len _ _ _ _ j7;have KX:K.In s.heap:=e0.mod.kin.keeps λb o e=>(e0.bs b o e).1;have lim:s.heap.NoLimit:=e0.mod.nolimit.keeps λb o e=>(e0.bs b o e).1;have wu:∀ y∈ps.zip us,scope.names.lookup y.1=some .local\/(scope.names.lookup y.1=some .cell/\((cellsFrom (s.heap.objs.size + 1) scope.names []).lookup y.1).isSome=true):=λ⟨n,v⟩ hy=>by
  rcases S.par n (List.of_mem_zip hy).1 with q | q
  ·exact .inl q
  ·exact .inr ⟨q,PySem.W.cellsFrom_some _ _ _ (.inl q)⟩
 refine codeAny_call_function hr.depth (KX _ _ lk) Z S.co S.gen Z (PySem.W.codeRec_of KX k6) (hb _ _ _ _ ?_);refine wpAny_newFunctionEnv_cells S.kind wu λenv he s1 x=>?_;subst he;refine ⟨lim.keeps x.toInCall.keep,codeAny_func ?_⟩;obtain ⟨t,ht,hq⟩:=jt A outer s H vs Q E (hr.deeper _) j7;have I:Inv (cxOf CX P w K mg base N qual scope f jc A outer s H E) [] (start N vs) H s1:=Zik S hr.hd e0 hl r x;refine wpAny_mono (ht [] s1 (start N vs) H _ I hq) (λfl s' hs=>?_) λe s' hs=>hs;have ji:∀ {σ':St} {H':Hp} {v:V} {u:Value},Inv (cxOf CX P w K mg base N qual scope f jc A outer s H E) [] σ' H' s'->RelV v u->Q v H'->CE outer P w H s Q u s' :=
  λ{σ' H' v u} J rv q=>⟨v,H',J.os,J.bare,J.base,J.hok,rv,q⟩
 cases fl with
 | ret u =>
  obtain ⟨v,σ',H',J,rv,q⟩:=hs;exact ji J rv q
 | next =>
  obtain ⟨σ',H',J,q⟩:=hs;exact ji (v:=V.non) (u:=Value.none) J Z q
 | brk =>
  obtain ⟨_,_,_,q⟩:=hs;exact False.elim q
 | cont =>
  obtain ⟨_,_,_,q⟩:=hs;exact False.elim q
section
variable {X:Cx} {x:Str} {p pos:Pos} {e:Expr} {es:List Expr} {t:TA} {id T:String} {r:List V->Hp->VK->Prop}
def tCB (r:List V->Hp->VK->Prop) (t:TA):TE:=λσ H Q=>t σ H λvs H1=>r vs H1 Q
def Zs (hc:X3 X (.builtin id) r) (hg:Gl X x) (hm:X.mg x=none) (hv:bootBuiltins x=some (.builtin id)) (ha:PA X (e :: es) t) (hn:x≠"__name__":=by decide) (ka:(x == ("__debug__":Str))=false:=by decide)
  (he:starEach (e :: es) X.env=(false,eval e X.env) :: starEach es X.env:=by rfl) (ju:(backTo pos (starEach es X.env)).any (·.1)=false:=by rfl):PE X (.Call (.Name x p) (e :: es) [] pos) (tCB r t):=by
 intro i7 s σ H Q I h;refine wpAny_Call_Name_kw (Wp I hg hm hv ?_ hn ka);refine PyProof.Rows.callWith_builtin1 (thn (ha pos i7 s σ H _ I h) λus s1 zz18=>?_) he ju;obtain ⟨vs,H1,I1,r1,q1⟩:=zz18;exact hc i7 s1 σ H1 vs us Q I1 r1 q1
def Xj (hc:X3 X (.type T) r) (hg:Gl X x) (hm:X.mg x=none) (hv:bootBuiltins x=some (.type T)) (ha:PA X (e :: es) t) (hn:x≠"__name__":=by decide) (ka:(x == ("__debug__":Str))=false:=by decide)
  (he:starEach (e :: es) X.env=(false,eval e X.env) :: starEach es X.env:=by rfl) (ju:(backTo pos (starEach es X.env)).any (·.1)=false:=by rfl):PE X (.Call (.Name x p) (e :: es) [] pos) (tCB r t):=by
 intro i7 s σ H Q I h;refine wpAny_Call_Name_kw (Wp I hg hm hv ?_ hn ka);refine PyProof.Rows.callWith_type1 (thn (ha pos i7 s σ H _ I h) λus s1 zz19=>?_) he ju;obtain ⟨vs,H1,I1,r1,q1⟩:=zz19;exact hc i7 s1 σ H1 vs us Q I1 r1 q1
end
end L2
namespace HT
open PySem PyProof.Rows
section
variable {prog:Program} {w:World} {A:Around} {E:Value->Shared->Prop} {s:Shared}
def sIx (n d:Nat):Option Int->Nat
 | none=>d
 | some v=>if v < 0 then (v + (n:Int)).toNat else min v.toNat n
def sIx_none (n d:Nat):sIx n d none=d:=rfl
def sIx_nat (n d k:Nat):sIx n d (some (k:Int))=min k n:=by
 show (if (k:Int) < 0 then ((k:Int) + (n:Int)).toNat else min (k:Int).toNat n)=min k n;rw [if_neg (by lia),Int.toNat_natCast]
end
end HT
namespace L2
open PySem PySem.Spec PyProof.Rows
abbrev TO:=St->Hp->(Option Int->Hp->Prop)->Prop
def PO (X:Cx) (e:Option Expr) (t:TO):Prop :=
 ∀ (i7:List (Addr × Obj)) (s:Shared) (σ:St) (H:Hp) (Q:Option Int->Hp->Prop),Inv X i7 σ H s->t σ H Q ->
  wpAny (model X.prog X.w) X.A (evalPart e X.env) (λu s'=>∃ o H',Inv X i7 σ H' s'/\IsPart u o/\Q o H') X.xe s
def Zld:TO:=λ_ H Q=>Q none H
def Zod (t:TE):TO:=λσ H Q=>t σ H λx H1=>∃ i,x=.int i/\Q (some i) H1
def V3 {ns:List Int}:∀ {us:List Value},Vals (ns.map V.int) us->IntsAre us ns:=by
 induction ns with
 | nil=>intro us r; rw [List.map_nil] at r; cases r; exact .nil
 | cons n ns ih =>
  intro us r;rw [List.map_cons] at r
  cases r with
  | cons r1 r2 =>
   obtain ⟨t,e⟩:=r1;subst e;exact .cons n t (ih r2)
section
variable {X:Cx} {e:Expr} {te:TE} {lo hi:Option Expr} {tl th:TO} {pos p2:Pos}
def Xr:PO X none Zld:=by
 intro i7 s σ H Q I h;rw [evalPart_none];exact wpAny_pure ⟨none,H,I,.none,h⟩
def Xe (h:PE X e te):PO X (some e) (Zod te):=by
 intro i7 s σ H Q I hw;rw [evalPart_some];refine thn (h i7 s σ H _ I hw) λu s1 ja=>?_;obtain ⟨x,H1,I1,r1,q1⟩:=ja;obtain ⟨i,rfl,q⟩:=q1;obtain ⟨t,rfl⟩:=r1;exact ⟨some i,H1,I1,.int i t,q⟩
def SlR (X:Cx) (r:V->Option Int->Option Int->Hp->VK->Prop):Prop :=
 ∀ (i7:List (Addr × Obj)) (s:Shared) (σ:St) (H:Hp) (x:V) (v vl vu:Value) (lo hi:Option Int) (sl:Addr) (Q:VK),Inv X i7 σ H s->RelV x v->s.heap.IsSliceOf sl vl vu .none->IsPart vl lo->IsPart vu hi->r x lo hi H Q ->
  ∃ T id,typeLookup (.type T) "__getitem__"=pure (some (.builtin id))/\s.TypeIs v T/\wpAny (model X.prog X.w) X.A (getItem v (.ref sl)) (EP X i7 σ Q) X.xe s
def tSl (r:V->Option Int->Option Int->Hp->VK->Prop) (te:TE) (tl th:TO):TE:=λσ H Q=>te σ H λx H1=>tl σ H1 λl H2=>th σ H2 λu H3=>r x l u H3 Q
def Y6 (hr:SlR X r) (he:PE X e te) (hl:PO X lo tl) (hu:PO X hi th):PE X (.Subscript e (.Slice lo hi none p2) pos) (tSl r te tl th):=by
 intro i7 s σ H Q I h;refine Subscript_ (thn (he i7 s σ H _ I h) λv s1 ja=>?_);obtain ⟨x,H1,I1,r1,q1⟩:=ja;refine wpAny_Slice (thn (hl i7 s1 σ H1 _ I1 q1) λvl s2 zz20=>?_);obtain ⟨l,H2,I2,pl,q2⟩:=zz20;refine thn (hu i7 s2 σ H2 _ I2 q2) λvu s3 ja=>?_;obtain ⟨u,H3,I3,pu,q3⟩:=ja;rw [evalPart_none];refine wpAny_pure ?_;have I4:Inv X i7 σ H3 { s3 with heap:=s3.heap.push { cls:=.type "slice",data:=.fields #[vl,vu,.none] } }:=I3.kept (t':=s3.toks) λb ob q=>Al _ q;obtain ⟨T,id,hT,ht,hg⟩:=hr i7 { s3 with heap:=s3.heap.push { cls:=.type "slice",data:=.fields #[vl,vu,.none] } } σ H3 x v vl vu l u s3.heap.objs.size Q I4 r1 (Heap.IsSliceOf.new ..) pl pu q3;show wpAny (model X.prog X.w) X.A (subscriptTail e (.Slice lo hi none p2) v (.ref s3.heap.objs.size)) (EP X i7 σ Q) X.xe { s3 with heap:=s3.heap.push { cls:=.type "slice",data:=.fields #[vl,vu,.none] } };exact tail_any (ops:=[.ref s3.heap.objs.size,v]) ht hT hg (by with_unfolding_all rfl)
def cutV (xs:List V) (lo hi:Option Int):List V:=(xs.drop (HT.sIx xs.length 0 lo)).take (HT.sIx xs.length xs.length hi - HT.sIx xs.length 0 lo)
def Zes (xs:List V) (lo hi:Option Int):(cutV xs lo hi).length<=xs.length:=by
 unfold cutV;rw [Aj,List.length_drop];lia
end
def ixN (n:Nat) (i:Int):Option Nat:=if 0<=i then (if i < n then some i.toNat else none) else if -(n:Int)<=i then some (i + n).toNat else none
def atI {α:Type} (xs:List α) (i:Int):Option α:=(ixN xs.length i).bind λj=>xs[j]?
def Zfd (h:ixN n i=some j):seqIndex? i n=some j/\j < n/\-(n:Int)<=i/\i < n:=by
 unfold ixN at h;by_cases h0:0<=i
 ·rw [if_pos h0] at h
  by_cases h1:i < n
  ·rw [if_pos h1] at h
   have e:i.toNat=j:=Ay h;exact ⟨by rw [seqIndex_of h0 h1,e],by lia,by lia,h1⟩
  ·rw [if_neg h1] at h; cases h
 ·rw [if_neg h0] at h
  by_cases h1:-(n:Int)<=i
  ·rw [if_pos h1] at h
   have e:(i + n).toNat=j:=Ay h;exact ⟨by rw [seqIndex_neg (by lia) h1,e],by lia,h1,by lia⟩
  ·rw [if_neg h1] at h; cases h
def Zfm {α:Type} {xs:List α} {i:Int} {v:α} (h:atI xs i=some v):∃ j,seqIndex? i xs.length=some j/\xs[j]?=some v/\j < xs.length/\-(xs.length:Int)<=i/\i < xs.length:=by
 unfold atI at h
 cases e:ixN xs.length i with
 | none=>rw [e] at h; cases h
 | some j =>
  rw [e] at h;obtain ⟨h1,h2,h3,h4⟩:=Zfd e;exact ⟨j,h1,h,h2,h3,h4⟩
def Wm {α:Type} {xs:List α} {j:Nat} {v:α} (h:xs[j]?=some v):atI xs (j:Int)=some v:=by
 have hj:j < xs.length:=(Aa h).1;have e:ixN xs.length (j:Int)=some j:=by
  unfold ixN
  rw [if_pos (by lia),if_pos (by lia)]; simp
 unfold atI; rw [e]; exact h
def Zms (b:Expr):Prop:=∀ o i,subscripted b false o i=operate [o,i] (getItem o i)
def IxR (X:Cx) (r:R2):Prop :=
 ∀ (value j4:Expr) (i7:List (Addr × Obj)) (s:Shared) (σ:St) (H:Hp) (x y:V) (v u:Value) (Q:VK),Inv X i7 σ H s->RelV x v->RelV y u->r x y H Q ->
  subscripted j4 false v u=operate [v,u] (getItem v u)->wpAny (model X.prog X.w) X.A (subscriptTail value j4 v u) (EP X i7 σ Q) X.xe s
def MtR (X:Cx) (id:String) (r:V->List V->Hp->VK->Prop):Prop :=
 ∀ (i7:List (Addr × Obj)) (s:Shared) (σ:St) (H:Hp) (x:V) (xs:List V) (v:Value) (us:List Value) (Q:VK),Inv X i7 σ H s->RelV x v->Vals xs us->r x xs H Q ->
  wpAny (model X.prog X.w) X.A (call (.builtin id) (v :: us)) (EP X i7 σ Q) X.xe s
section
variable {X:Cx} {a b:Expr} {ta tb:TE} {pos:Pos}
def Zt (hr:IxR X r) (ha:PE X a ta) (hb:PE X b tb) (hs:Zms b):PE X (.Subscript a b pos) (tOp r ta tb):=by
 intro i7 s σ H Q I h;exact Subscript_ (binT ha hb I h λv u s2 x y H2 I2 rx ry q=>hr a b i7 s2 σ H2 x y v u Q I2 rx ry q (hs _ _))
def rIxL (K:W.Frag):R2:=λx y H Q=>∃ p xs i v,x=.ref p/\y=.int i/\SqL K H p xs/\atI xs i=some v/\Q v H
def rIxT (K:W.Frag):R2:=λx y H Q=>∃ p xs i v,x=.ref p/\y=.int i/\SqT K H p xs/\atI xs i=some v/\Q v H
def Zo:IxR X (rIxL X.K):=by
 intro value j4 i7 s σ H x y v u Q I rx ry h hs;obtain ⟨p,xs,i,z,rfl,rfl,hq,he,q⟩:=h;cases rx;obtain ⟨t,rfl⟩:=ry;obtain ⟨its,r,pl,hz⟩:=I.list hq;obtain ⟨j,h1,h2,h3,h4,h5⟩:=Zfm he;obtain ⟨w,ew,lx⟩:=r.get h2;have hl:=r.length;have hn:=Vm;have ji:EP X i7 σ Q w s:=⟨z,H,I,lx,q⟩;by_cases h0:0<=i
 ·have hj:i.toNat=j:=by
   rw [seqIndex_of h0 h5] at h1;exact Ay h1
  exact item_listR pl.isList h0 (by lia) (by rw [hj]; simpa using ew) ji hs
 ·have hj:(i + (its.toArray.size:Int)).toNat=j:=by
   rw [seqIndex_neg (by lia) h4] at h1;rw [Ar,<- hl];exact Ay h1
  exact subscriptTail_builtinR (x:=w) pl.isList.typeIs slot_list_getitem.lookup
   (wpAny_getItem_list_neg (Q:=λr s'=>r=w/\EP X i7 σ Q r s') pl.isList (by lia) (by rw [Ar] <;> lia) (by lia) (by rw [hj]; simpa using ew) ⟨rfl,ji⟩) hs
def Qv:IxR X (rIxT X.K):=by
 intro value j4 i7 s σ H x y v u Q I rx ry h hs;obtain ⟨p,xs,i,z,rfl,rfl,hq,he,q⟩:=h;cases rx;obtain ⟨t,rfl⟩:=ry;obtain ⟨its,r,pl,hz⟩:=I.tuple hq;obtain ⟨j,h1,h2,h3,h4,h5⟩:=Zfm he;obtain ⟨w,ew,lx⟩:=r.get h2;have hl:=r.length;have hn:=Vm;have ji:EP X i7 σ Q w s:=⟨z,H,I,lx,q⟩;exact subscriptTail_builtinR (x:=w) pl.typeIs slot_tuple_getitem.lookup
  (getItem_tuple (j:=j) (Q:=λr s'=>r=w/\EP X i7 σ Q r s') pl (by lia) (by lia) (by rw [Ar,<- hl]; exact h1) (by simpa using ew) ⟨Z,ji⟩) hs
def Zgh (its:List Value) (n j:Nat) (u:Value):Obj.mapSeq (·.setIfInBounds j u) { cls:=.type "list",data:=.seq its.toArray n }={ cls:=.type "list",data:=.seq (its.set j u).toArray n }:=by
 simp [Obj.mapSeq]
def Inv.lst {s:Shared} {xs:List V} (I:Inv X i7 σ H s) (h:H p=some (.lst xs)) :
  ∃ (its:List Value) (n:Nat),Vals xs its/\s.heap.get? p=some { cls:=.type "list",data:=.seq its.toArray n }/\xs.length<=sizeLine:=by
 obtain ⟨z,its,n,r,e⟩:=I.hok p _ h;exact ⟨its,n,r,e,z⟩
def Inv.lstUpd {s:Shared} {ys:List V} {its its':List Value} (I:Inv X i7 σ H s) (h:H p=some (.lst xs))
  (ho:s.heap.get? p=some { cls:=.type "list",data:=.seq its.toArray n }) (hf:f { cls:=.type "list",data:=.seq its.toArray n }={ cls:=.type "list",data:=.seq its'.toArray n' }) (r:Vals ys its') (hz:ys.length<=sizeLine) (t:Nat) :
  Inv X i7 σ (upd H p (.lst ys)) { s with heap:=s.heap.update p f,toks:=t }:=by
 have e:(s.heap.update p f).get? p=some { cls:=.type "list",data:=.seq its'.toArray n' }:=by
  rw [Heap.get?_update_self f ho (by rw [hf] <;> rfl),hf]
 refine I.write (x:=p) (e:=p) (by rw [h]; trivial) (.inl rfl) (λb u hb q=>(Heap.get?_update_other _ _ (Ne.symm hb)).trans q) ⟨_,e⟩ ?_;exact ⟨hz,its',n',r,e⟩
def Zop:V->V->V->Hp->(Hp->Prop)->Prop:=λo i v H Q=>∃ p xs k j,o=.ref p/\i=.int k/\H p=some (.lst xs)/\ixN xs.length k=some j/\Q (upd H p (.lst (xs.set j v)))
def Vs:PSet X Zop:=by
 intro i7 s σ H o i v ov iv u Q I ro ri rv h;obtain ⟨p,xs,k,j,rfl,rfl,hp,hj,q⟩:=h;cases ro;obtain ⟨t,rfl⟩:=ri;obtain ⟨its,n,r,ho,hz⟩:=I.lst hp;obtain ⟨h1,h2,h3,h4⟩:=Zfd hj;have hl:=r.length;have hn:=Vm;have I':Inv X i7 σ (upd H p (.lst (xs.set j v))) { s with heap:=s.heap.update p (Obj.mapSeq (·.setIfInBounds j u)) } :=
  I.lstUpd hp ho (Zgh its n j u) (r.set rv j) (by rw [List.length_set]; exact hz) s.toks
 by_cases h0:0<=k
 ·have hk:k.toNat=j:=by
   rw [seqIndex_of h0 h4] at h1;exact Ay h1
  exact PySem.W.ki_setAt ho h0 (by lia) (by rw [Ar,<- hl]; exact h4) (by rw [hk]; exact ⟨_,I',q⟩)
 ·have hk:(k + (its.toArray.size:Int)).toNat=j:=by
   rw [seqIndex_neg (by lia) h3] at h1;rw [Ar,<- hl];exact Ay h1
  exact PySem.W.ki_setBack ho (by lia) (by rw [Ar,<- hl]; exact h3) (by lia) (by rw [hk]; exact ⟨_,I',q⟩)
def Zb5 (lo hi:Option Int) (n:Nat):(sliceBounds lo hi none n).1=((HT.sIx n 0 lo:Nat):Int)/\(sliceBounds lo hi none n).2.1=((HT.sIx n n hi:Nat):Int)/\(sliceBounds lo hi none n).2.2=1:=by
 refine ⟨?_,?_,Z⟩
 ·cases lo with
  | none=>simp [sliceBounds,HT.sIx]
  | some i =>
   simp only [sliceBounds,HT.sIx,Option.getD_none,show (1:Int) > 0 by decide,if_true];by_cases h:i < 0
   ·simp only [h,if_true] <;> lia
   ·simp only [h,if_false] <;> lia
 ·cases hi with
  | none=>simp [sliceBounds,HT.sIx]
  | some i =>
   simp only [sliceBounds,HT.sIx,Option.getD_none,show (1:Int) > 0 by decide,if_true];by_cases h:i < 0
   ·simp only [h,if_true] <;> lia
   ·simp only [h,if_false] <;> lia
def Za5 (its:List Value) (lo hi:Option Int):slicePick its.toArray lo hi none=((its.drop (HT.sIx its.length 0 lo)).take (HT.sIx its.length its.length hi - HT.sIx its.length 0 lo)).toArray:=by
 obtain ⟨h1,h2,h3⟩:=Zb5 lo hi its.toArray.size;unfold slicePick;rw [h1,h2,h3];simp only [sliceRange_one,pick_run,Ar] <;> rfl
def rSlL (K:W.Frag):V->Option Int->Option Int->Hp->VK->Prop:=λx lo hi H Q=>∃ a xs,x=.ref a/\SqL K H a xs/\∀ p,H p=none->Q (.ref p) (upd H p (.lst (cutV xs lo hi)))
def Xm:SlR X (rSlL X.K):=by
 intro i7 s σ H x v vl vu lo hi sl Q I rx hs pl pu h;obtain ⟨a,xs,rfl,hx,q⟩:=h;cases rx;obtain ⟨its,r,ht,hz⟩:=I.list hx;have jb:=r.length;refine ⟨"list",_,slot_list_getitem.lookup,ht.isList.typeIs,?_⟩;refine wpAny_getItem_list_slice ht.isList hs pl pu .none (by simp) ?_ (by rw [Ar] <;> lia);rw [Za5,<- jb];refine ⟨.ref s.heap.objs.size,_,I.laid (t':=s.toks) (o:=.lst (cutV xs lo hi)) (λb ob q=>Al _ q) (Ao _) ?_,Z,q _ (I.hok.fresh (Ao _))⟩;exact ⟨Nat.le_trans (Zes xs lo hi) hz,_,0,(r.drop (HT.sIx xs.length 0 lo)).take (HT.sIx xs.length xs.length hi - HT.sIx xs.length 0 lo),Aq _ Z⟩
def Qb:V->Bool
 | .non=>true
 | .bl _=>true
 | .int _=>true
 | .str _=>true
 | _=>false
def eqV:V->V->Bool
 | .non,.non=>true
 | .bl a,.bl b=>a == b
 | .bl a,.int b=>(if a then 1 else 0) == b
 | .int a,.bl b=>a == (if b then 1 else 0)
 | .int a,.int b=>a == b
 | .str a,.str b=>a == b
 | _,_=>false
def Zn2 {A:Around} {s:Shared} {y x:V} {u v:Value} (ry:RelV y u) (rx:RelV x v) (fy:Qb y=true) (fx:Qb x=true):SeqAt.EqAt A s u v (eqV y x):=by
 cases y with
 | non =>
  cases ry
  cases x with
  | non=>cases rx; exact SeqAt.EqAt.same _
  | bl b=>cases rx; exact SeqAt.EqAt.none_bool b
  | int b=>obtain ⟨t,rfl⟩:=rx; exact SeqAt.EqAt.none_int b t
  | str b=>obtain ⟨t,rfl⟩:=rx; exact SeqAt.EqAt.none_str b t
  | _=>exact absurd (show false=true from fx) Bool.false_ne_true
 | bl a =>
  cases ry
  cases x with
  | non=>cases rx; exact SeqAt.EqAt.bool_none a
  | bl b=>cases rx; exact SeqAt.EqAt.bool_bool a b
  | int b=>obtain ⟨t,rfl⟩:=rx; exact SeqAt.EqAt.bool_int a b t
  | str b=>obtain ⟨t,rfl⟩:=rx; exact SeqAt.EqAt.bool_str a b t
  | _=>exact absurd (show false=true from fx) Bool.false_ne_true
 | int a =>
  obtain ⟨t',rfl⟩:=ry
  cases x with
  | non=>cases rx; exact SeqAt.EqAt.int_none a t'
  | bl b=>cases rx; exact SeqAt.EqAt.int_bool a t' b
  | int b=>obtain ⟨t,rfl⟩:=rx; exact SeqAt.EqAt.int_int a t' b t
  | str b=>obtain ⟨t,rfl⟩:=rx; exact SeqAt.EqAt.int_str a t' b t
  | _=>exact absurd (show false=true from fx) Bool.false_ne_true
 | str a =>
  obtain ⟨t',rfl⟩:=ry
  cases x with
  | non=>cases rx; exact SeqAt.EqAt.str_none a t'
  | bl b=>cases rx; exact SeqAt.EqAt.str_bool a t' b
  | int b=>obtain ⟨t,rfl⟩:=rx; exact SeqAt.EqAt.str_int a t' b t
  | str b=>obtain ⟨t,rfl⟩:=rx; exact SeqAt.EqAt.str_str a t' b t
  | _=>exact absurd (show false=true from fx) Bool.false_ne_true
 | _=>exact absurd (show false=true from fy) Bool.false_ne_true
def eqU (x:V) (u:Value):Bool:=match u with
 | .none=>eqV .non x
 | .bool b=>eqV (.bl b) x
 | .int i _=>eqV (.int i) x
 | .str z _=>eqV (.str z) x
 | _=>false
def Zis {x y:V} {u:Value} (r:RelV y u) (f:Qb y=true):eqU x u=eqV y x:=by
 cases y with
 | non=>cases r; rfl
 | bl b=>cases r; rfl
 | int i=>obtain ⟨t,rfl⟩:=r; rfl
 | str z=>obtain ⟨t,rfl⟩:=r; rfl
 | _=>exact absurd (show false=true from f) Bool.false_ne_true
theorem Fq {x:V}:∀ {xs:List V} {us:List Value},Vals xs us->xs.all Qb=true->us.any (eqU x)=xs.any λy=>eqV y x
 | _,_,.nil,_=>rfl
 | y :: xs,u :: us,.cons r t,f=>by
  rw [List.all_cons,Bool.and_eq_true] at f;rw [List.any_cons,List.any_cons,Zis r f.1,Fq t f.2]
theorem Kq {A:Around} {s:Shared} {x:V} {v:Value} (rx:RelV x v) (fx:Qb x=true):∀ {xs:List V} {us:List Value},Vals xs us->xs.all Qb=true->∀ u∈us,SeqAt.EqAt A s u v (eqU x u)
 | _,_,.nil,_=>λu hu=>by cases hu
 | y :: xs,u :: us,.cons r t,f=>λu' hu=>by
  rw [List.all_cons,Bool.and_eq_true] at f
  rcases As hu with rfl | hu
  ·rw [Zis r f.1]; exact Zn2 r rx f.1 fx
  ·exact Kq rx fx t f.2 u' hu
def inV (x:V) (xs:List V):Bool:=xs.any λy=>eqV y x
def rIn (K:W.Frag) (neg:Bool):R2:=λx y H Q=>∃ p xs,y=.ref p/\(SqL K H p xs\/SqT K H p xs)/\Qb x=true/\xs.all Qb=true/\Q (.bl (if neg then !inV x xs else inV x xs)) H
def F9:OpR X (compareOp .In) (rIn X.K false):=by
 intro i7 s σ H x y v u Q I rx ry h;obtain ⟨p,xs,rfl,hq,fx,fs,q⟩:=h;cases ry
 rcases hq with hq | hq
 ·obtain ⟨its,r,pl,hz⟩:=I.list hq
  refine SeqAt.in_listAt (eqU x) pl.isList (λw hw=>Kq rx fx r fs w (by simpa using hw)) ⟨.bl _,H,I,Z,?_⟩;rw [show its.toArray.any (eqU x)=its.any (eqU x) by simp,Fq r fs];exact q
 ·obtain ⟨its,r,pl,hz⟩:=I.tuple hq
  refine SeqAt.in_tupleAt (eqU x) pl (λw hw=>Kq rx fx r fs w (by simpa using hw)) ⟨.bl _,H,I,Z,?_⟩;rw [show its.toArray.any (eqU x)=its.any (eqU x) by simp,Fq r fs];exact q
def Zn:X3 X (.builtin "len") (λxs H Q=>∃ p ys,xs=[.ref p]/\(SqL X.K H p ys\/SqT X.K H p ys)/\Q (.int ys.length) H):=by
 intro i7 s σ H xs us Q I r h;obtain ⟨p,ys,rfl,hq,q⟩:=h;obtain ⟨u,rfl,rx⟩:=Xv r;cases rx;have hn:=Vm
 rcases hq with hq | hq
 ·obtain ⟨its,r',pl,hz⟩:=I.list hq
  have jb:=r'.length;exact Calls.call_len_list pl.isList (by simp only [Ar] <;> lia) ⟨.int ys.length,H,I.tok _,⟨s.toks + 1,by rw [Ar,jb]⟩,q⟩
 ·obtain ⟨its,r',pl,hz⟩:=I.tuple hq
  have jb:=r'.length;exact len_tuple pl (by simp only [Ar] <;> lia) ⟨.int ys.length,H,I.tok _,⟨s.toks + 1,by rw [Ar,jb]⟩,q⟩
def U9:X3 X (.builtin "len") (λxs H Q=>∃ z,xs=[.str z]/\z.length<=sizeLine/\Q (.int z.length) H):=by
 intro i7 s σ H xs us Q I r h;obtain ⟨z,rfl,hz,q⟩:=h;obtain ⟨u,rfl,t,rfl⟩:=Xv r;have hn:=Vm;exact len_str (by lia) ⟨.int z.length,H,I.tok _,⟨_,Z⟩,q⟩
def Wq:X3 X (.type "list") (λxs H Q=>∃ p ys,xs=[.ref p]/\(SqL X.K H p ys\/SqT X.K H p ys)/\∀ l,H l=none->Q (.ref l) (upd H l (.lst ys))):=by
 intro i7 s σ H xs us Q I r h;obtain ⟨p,ys,rfl,hq,q⟩:=h;obtain ⟨u,rfl,rx⟩:=Xv r;cases rx;have ji:∀ (its:List Value),Vals ys its->ys.length<=sizeLine->∀ (h':Heap) (c':Nat),(∀ b o',s.heap.get? b=some o'->h'.get? b=some o') ->
   h'.get? s.heap.objs.size=some { cls:=.type "list",dict:=none,data:=.seq its.toArray c',slots:=#[] }->EP X i7 σ Q (.ref s.heap.objs.size) { s with heap:=h' }:=λits r' hz h' c' kp e =>
  ⟨.ref s.heap.objs.size,_,I.laid (t':=s.toks) kp (Ao _) (show Yi X.prog X.w _ h' _ (.lst ys) from ⟨hz,its,c',r',e⟩),rfl,q _ (I.hok.fresh (Ao _))⟩
 rcases hq with hq | hq
 ·obtain ⟨its,r',pl,hz⟩:=I.list hq
  have jb:=r'.length;obtain ⟨o,ho,hc,n,hd⟩:=pl.isList;exact call_list_seq p (.inl Z) ho hc hd (λh' c' kp e=>ji its r' hz h' c' kp e) (by simp only [Ar] <;> lia)
 ·obtain ⟨its,r',pl,hz⟩:=I.tuple hq
  have jb:=r'.length;obtain ⟨o,ho,hc,n,hd⟩:=pl;exact call_list_seq p (.inr Z) ho hc hd (λh' c' kp e=>ji its r' hz h' c' kp e) (by simp only [Ar] <;> lia)
def Zbj:X3 X (.type "tuple") (λxs H Q=>∃ p ys,xs=[.ref p]/\((SqL X.K H p ys/\∀ l,H l=none->Q (.ref l) (upd H l (.tup ys)))\/(SqT X.K H p ys/\Q (.ref p) H))):=by
 intro i7 s σ H xs us Q I r h;obtain ⟨p,ys,rfl,h⟩:=h;obtain ⟨u,rfl,rx⟩:=Xv r;cases rx
 rcases h with ⟨hq,q⟩ | ⟨hq,q⟩
 ·obtain ⟨its,r',pl,hz⟩:=I.list hq
  have jb:=r'.length;refine call_tuple_list pl.isList (λh' kp=>?_) (by simp only [Ar] <;> lia);have I1:Inv X i7 σ H { s with heap:=h' }:=I.kept (t':=s.toks) kp;have I2:Inv X i7 σ (upd H h'.objs.size (.tup ys)) { s with heap:=h'.push { cls:=.type "tuple",data:=.seq its.toArray } } :=
   I1.laid (t':=s.toks) (λb o e=>Al _ e) (Ao _) (show Yi X.prog X.w _ _ _ (.tup ys) from ⟨hz,its,r',IsTup.new _ _⟩)
  exact ⟨.ref h'.objs.size,_,I2,Z,q _ (I1.hok.fresh (Ao _))⟩
 ·obtain ⟨its,r',pl,hz⟩:=I.tuple hq
  exact call_tuple_same pl ⟨.ref p,H,I,Z,q⟩
def tyV (K:W.Frag) (T:String) (x:V) (H:Hp):Prop:=match x with
 | .str _=>T="str"
 | .int _=>T="int"
 | .ref p=>(T="list"/\∃ xs,SqL K H p xs)\/(T="tuple"/\∃ o,K.lookup p=some o/\o.cls=.type "tuple"/\o.dict=none) \/
   (T="dict"/\((∃ kvs,H p=some (.dK kvs))\/∃ kvs,H p=some (.dT kvs)))\/(T="set"/\∃ S n,H p=some (.set S n))
 | _=>False
def Zgz {s:Shared} (I:Inv X i7 σ H s) (r:RelV x v) (ty:tyV X.K T x H) :
  s.TypeIs v T/\∀ a,v=.ref a->∃ ob,s.heap.get? a=some ob/\ob.dict=none:=by
 cases x with
 | str z =>
  obtain ⟨t,rfl⟩:=r;cases (show T="str" from ty);exact ⟨typeIs_str s z t,λ_ e=>nomatch e⟩
 | int i =>
  obtain ⟨t,rfl⟩:=r;cases (show T="int" from ty);exact ⟨typeIs_int s i t,λ_ e=>nomatch e⟩
 | ref p =>
  cases r
  rcases ty with ⟨rfl,xs,hq⟩ | ⟨rfl,o,hk,hc,hd⟩ | ⟨rfl,hk⟩ | ⟨rfl,S,n,hk⟩
  ·obtain ⟨its,_,pl,_⟩:=I.list hq
   refine ⟨pl.isList.typeIs,λa e=>?_⟩;cases e;obtain ⟨o,n,e,c,hd,_⟩:=pl;exact ⟨o,e,hd⟩
  ·refine ⟨⟨o,I.kIn p o hk,hc⟩,λa e=>?_⟩
   cases e;exact ⟨o,I.kIn _ o hk,hd⟩
  ·have z:∃ o,s.heap.get? p=some o/\o.ExactDict:=by
    rcases hk with ⟨kvs,hk⟩ | ⟨kvs,hk⟩
    ·obtain ⟨_,_,_,_,o,_,_,e,ex,_⟩:=I.hok p _ hk
     exact ⟨o,e,ex⟩
    ·obtain ⟨_,_,_,_,o,_,_,e,ex,_⟩:=I.hok p _ hk
     exact ⟨o,e,ex⟩
   obtain ⟨o,e,ex⟩:=z;refine ⟨⟨o,e,ex.1⟩,λa e2=>?_⟩;cases e2;exact ⟨o,e,ex.2.1⟩
  ·obtain ⟨o,_,_,_,e,ex,_⟩:=I.hok p _ hk
   refine ⟨⟨o,e,ex.1⟩,λa e2=>?_⟩;cases e2;exact ⟨o,e,ex.2.1⟩
 | _=>exact False.elim ty
def tBM (K:W.Frag) (T:String) (r:V->List V->Hp->VK->Prop) (to:TE) (t:TA):TE:=λσ H Q=>to σ H λx H1=>tyV K T x H1/\t σ H1 λxs H2=>r x xs H2 Q
variable {o e:Expr} {es:List Expr} {to:TE} {t:TA} {name:Str} {jg jd:Pos} {T id:String} {r:V->List V->Hp->VK->Prop}
def Y4 (pa:PlainAttrs T) (slot:Slot T name id) (yw:typeOf (.builtin id)=pure (.type "method_descriptor")) (hm:MtR X id r) (ho:PE X o to) (ha:PA X (e :: es) t)
  (o6:attributeBase o name X.env (eval o X.env)=eval o X.env:=by rfl)
  (t9:((backTo jd (starEach (e :: es) X.env)).all (λx=>!x.1) && (backToKw jd (keywordEach [] X.env)).all (λx=>x.1.isSome)
   && decide ((e :: es).length + ([]:List Keyword).length + (if ([]:List Keyword).isEmpty then 0 else 1) < 30))=true:=by rfl)
  (oz:(jg.endLine == jd.line)=true:=by rfl) (hs:starEach (e :: es) X.env=(false,eval e X.env) :: starEach es X.env:=by rfl) (ug:(backTo jd (starEach es X.env)).any (·.1)=false:=by rfl) :
  PE X (.Call (.Attribute o name jg) (e :: es) [] jd) (tBM X.K T r to t):=by
 intro i7 s σ H Q I h;refine wpAny_Call_method_late o6 t9 oz Z (thn (ho i7 s σ H _ I h) λv s1 ja=>?_);obtain ⟨x,H1,I1,r1,ty,q1⟩:=ja;obtain ⟨h1,h2⟩:=Zgz I1 r1 ty;refine ⟨T,id,pa,slot,yw,h1,h2,?_⟩;have hA:=ha jd i7 s1 σ H1 _ I1 q1;rw [hs] at hA ⊢;refine Calls.callWith_builtin (by show (false || (backTo jd (starEach es X.env)).any (·.1))=false; rw [ug] <;> rfl) (Calls.evalArgs_plain ?_);refine thn hA λus s2 zz21=>?_;obtain ⟨vs,H2,I2,r2,q2⟩:=zz21;exact hm i7 s2 σ H2 x vs v us Q I2 r1 r2 q2
end
def MtM (X:Cx) (id:String) (r:V->List V->Hp->VK->Prop):Prop :=
 ∀ (i7:List (Addr × Obj)) (s:Shared) (σ:St) (H:Hp) (x:V) (xs:List V) (v:Value) (us:List Value) (Q:VK),Inv X i7 σ H s->RelV x v->Vals xs us->r x xs H Q ->
  wpAny (model X.prog X.w) X.A (call (.builtin id) (v :: us)) (EP X i7 σ Q) X.xe s
def Vals.one (h:Vals [x] us):∃ u,us=[u]/\RelV x u:=by
  cases h with
  | cons r t=>cases t; exact ⟨_,Z,r⟩
def Vals.two (h:Vals [x,y] us):∃ u v,us=[u,v]/\RelV x u/\RelV y v:=by
  cases h with
  | cons r t =>
    obtain ⟨v,rfl,q⟩:=Vals.one t;exact ⟨_,v,Z,r,q⟩
theorem Vals.eraseIdx:∀ {xs:List V} {us:List Value} (i:Nat),Vals xs us->Vals (xs.eraseIdx i) (us.eraseIdx i)
 | _,_,_,.nil=>.nil
 | _,_,0,.cons _ t=>t
 | _,_,i + 1,.cons r t=>.cons r (Vals.eraseIdx i t)
theorem Vals.rep (h:Vals xs us):∀ k:Nat,Vals (List.replicate k xs).flatten (List.replicate k us).flatten
 | 0=>.nil
 | k + 1=>by
  rw [List.replicate_succ,List.replicate_succ,List.flatten_cons,List.flatten_cons];exact Vals.append h (Vals.rep h k)
theorem Zad {α:Type}:∀ (l:List α) (i:Nat),(l.eraseIdx i).length<=l.length
 | [],_=>Ao _
 | _ :: _,0=>Nat.le_succ _
 | _ :: r,i + 1=>Nat.succ_le_succ (Zad r i)
theorem Zaj (its:List Value):∀ (k:Nat) (i9:List Value),
  List.foldl (λx1 x2=>x1 ++ x2) i9.toArray (List.replicate k its.toArray)=(i9 ++ (List.replicate k its).flatten).toArray
 | 0,i9=>by simp
 | k + 1,i9=>by
  have e:i9.toArray ++ its.toArray=(i9 ++ its).toArray:=by simp
  have e2:(i9 ++ its) ++ (List.replicate k its).flatten=i9 ++ (List.replicate (k + 1) its).flatten:=by
   rw [List.replicate_succ,List.flatten_cons,List.append_assoc]
  rw [<- e2,<- Zaj its k (i9 ++ its),<- e,List.replicate_succ,List.foldl_cons]
section
variable {X:Cx} {i7:List (Addr × Obj)} {σ:St} {H:Hp} {s:Shared} {l b:Addr} {xs ys zs:List V}
def Inv.lset {its its':List Value} {t':Nat} (I:Inv X i7 σ H s) (hH:H l=some (.lst xs))
  (e:s.heap.get? l=some { cls:=.type "list",data:=.seq its.toArray n }) (hf:f its.toArray=its'.toArray) (hv:Vals ys its') (hz:ys.length<=sizeLine) :
  Inv X i7 σ (upd H l (.lst ys)) { s with heap:=s.heap.update l (Obj.mapSeq f),toks:=t' }:=by
 have q:=PySem.IsL.update e f;rw [hf] at q;refine I.write (x:=l) (e:=l) (by rw [hH]; exact trivial) (.inl Z) (λb' u hb hu=>(Heap.get?_update_other s.heap (Obj.mapSeq f) (Ne.symm hb)).trans hu) ⟨_,q⟩ ?_;exact ⟨hz,its',_,hv,q⟩
def Inv.lnew {its:List Value} {t':Nat} (I:Inv X i7 σ H s) (hv:Vals ys its) (hz:ys.length<=sizeLine) :
  Inv X i7 σ (upd H s.heap.objs.size (.lst ys)) { s with heap:=s.heap.push { cls:=.type "list",data:=.seq its.toArray },toks:=t' } :=
 I.laid (λ_ _ q=>Al _ q) (Ao _) ⟨hz,its,0,hv,Aq _ rfl⟩
def Inv.fresh (I:Inv X i7 σ H s):H s.heap.objs.size=none:=I.hok.fresh (Ao _)
def Inv.lstM (I:Inv X i7 σ H s) (hH:H l=some (.lst xs)):xs.length<=sizeLine/\∃ (its:List Value) (n:Nat),Vals xs its/\xs.length=its.length/\s.heap.get? l=some { cls:=.type "list",data:=.seq its.toArray n }:=by
 obtain ⟨z,its,n,r,e⟩:=I.hok l _ hH;exact ⟨z,its,n,r,r.length,e⟩
def Zj2 (h:n<=sizeLine):Builtin.List.listTooLong n=false:=by
 unfold Builtin.List.listTooLong;exact decide_eq_false (by lia)
end
section
variable {X:Cx}
def Zlt:V->List V->Hp->VK->Prop:=λx vs H Q=>∃ l xs y,x=.ref l/\vs=[y]/\H l=some (.lst xs)/\xs.length < sizeLine/\Q .non (upd H l (.lst (xs ++ [y])))
def Xq:MtM X "list.append" Zlt:=by
 intro i7 s σ H x vs v us Q I rx rv h;obtain ⟨l,xs,y,rfl,rfl,hH,hz,q⟩:=h;cases rx;obtain ⟨u,rfl,ru⟩:=rv.one;obtain ⟨z,its,n,r,hl,e⟩:=I.lstM hH;refine call_meets F.slot_list_append ⟨_,e,Z⟩ F.entry_list_append (F.args_list_append_2 _ _) (PySem.list_append l its.toArray n u (by rw [Ar]; lia)) ⟨e,?_⟩;refine ⟨.non,_,I.lset (its':=its ++ [u]) hH e (by simp) (r.append (.cons ru .nil)) ?_,Z,q⟩;rw [Af,Au];lia
def Znb:V->List V->Hp->VK->Prop:=λx vs H Q=>∃ l xs i k y,x=.ref l/\vs=[.int i]/\H l=some (.lst xs)/\-(2 ^ 63)<=i/\i < 2 ^ 63/\seqIndex? i xs.length=some k/\xs[k]?=some y/\Q y (upd H l (.lst (xs.eraseIdx k)))
def Zdd:MtM X "list.pop" Znb:=by
 intro i7 s σ H x vs v us Q I rx rv h;obtain ⟨l,xs,i,k,y,rfl,rfl,hH,h1,h2,hk,hy,q⟩:=h;cases rx;obtain ⟨u,rfl,ru⟩:=rv.one;obtain ⟨t,rfl⟩:=ru;obtain ⟨z,its,n,r,hl,e⟩:=I.lstM hH;obtain ⟨w,hw,lx⟩:=r.get hy;refine call_meets F.slot_list_pop ⟨_,e,Z⟩ F.entry_list_pop (F.args_list_pop_2 _ _)
  (MeetsSeq.list_pop_at l its.toArray n i t k w (fitsIndex_both h1 h2) (by rw [Ar,<- hl]; exact hk) (by rw [<- Array.getElem?_toList]; exact hw) (by rw [Ar]; lia)) ⟨e,?_⟩
 refine ⟨y,_,I.lset (its':=its.eraseIdx k) hH e ?_ (r.eraseIdx k) ?_,lx,q⟩
 ·show its.toArray.eraseIdxIfInBounds k=(its.eraseIdx k).toArray
  rw [List.eraseIdxIfInBounds_toArray]
 ·have:=Zad xs k
  lia
def rCat:R2:=λx y H Q=>∃ l b xs zs,x=.ref l/\y=.ref b/\H l=some (.lst xs)/\H b=some (.lst zs)/\xs.length + zs.length<=sizeLine/\∀ p,H p=none->Q (.ref p) (upd H p (.lst (xs ++ zs)))
def Y0:OpR X (binaryOp .Add) rCat:=by
 intro i7 s σ H x y v u Q I rx ry h;obtain ⟨l,b,xs,zs,rfl,rfl,hH,hB,hz,q⟩:=h;cases rx;cases ry;obtain ⟨z,its,n,r,hl,e⟩:=I.lstM hH;obtain ⟨z2,wa,n2,r2,my,e2⟩:=I.lstM hB;refine PySem.P.add_list e e2 ?_ (by rw [Ar,Ar]; lia);have ea:its.toArray ++ wa.toArray=(its ++ wa).toArray:=by simp
 rw [ea];exact ⟨.ref _,_,I.lnew (t':=s.toks) (r.append r2) (by rw [Af]; lia),rfl,q _ I.fresh⟩
def rRep:R2:=λx y H Q=>∃ l k xs,x=.ref l/\y=.int k/\H l=some (.lst xs)/\-(2 ^ 63)<=k/\k < 2 ^ 63/\xs.length * k.toNat<=sizeLine /\
 ∀ p,H p=none->Q (.ref p) (upd H p (.lst (List.replicate k.toNat xs).flatten))
def Zme {α:Type} (xs:List α) (k:Nat):(List.replicate k xs).flatten.length=k * xs.length:=by
 induction k with
 | zero=>simp
 | succ k ih=>rw [List.replicate_succ,List.flatten_cons,Af,ih,Nat.succ_mul,Nat.add_comm]
def Zh2:OpR X (binaryOp .Mult) rRep:=by
 intro i7 s σ H x y v u Q I rx ry h;obtain ⟨l,k,xs,rfl,rfl,hH,h1,h2,hz,q⟩:=h;cases rx;obtain ⟨t,rfl⟩:=ry;obtain ⟨z,its,n,r,hl,e⟩:=I.lstM hH;have jb:its.toArray.size * k.toNat<=sizeLine:=by rw [Ar,<- hl]; exact hz
 have hcap:¬ its.toArray.size * k.toNat > (2 ^ 63 - 1) / 8:=by
  have:(sizeLine:Nat)<=(2 ^ 63 - 1) / 8:=by decide
  lia
 have hfit:¬ (!Builtin.List.listFitsIndex k)=true:=by
  rw [fitsIndex_both h1 h2];exact Bool.false_ne_true
 have wt:¬ Builtin.List.listTooLong (its.toArray.size * k.toNat)=true:=by
  rw [Zj2 jb];exact Bool.false_ne_true
 have hnew:List.foldl (λx1 x2=>x1 ++ x2) #[] (List.replicate (if its.toArray.isEmpty=true then 0 else k.toNat) its.toArray)=(List.replicate k.toNat its).flatten.toArray:=by
  have f0:∀ m:Nat,List.foldl (λx1 x2=>x1 ++ x2) #[] (List.replicate m its.toArray)=(List.replicate m its).flatten.toArray:=λm=>by
   have:=Zaj its m [];rw [List.nil_append] at this;exact this
  rw [f0]
  cases its with
  | nil=>simp
  | cons a r'=>rw [if_neg (by simp)]
 refine wpAny_binaryOp_repeat_ref (T:="list") (U:="int") (by decide) ⟨_,e,rfl⟩ (λs'=>typeIs_int s' k t) noFill_list_mul F.fills_int_mul F.slot_int_rmul repeat_list F.slot_int_index.lookup
  (call_meets F.slot_int_rmul (typeIs_int s k t) F.entry_int_rmul (F.args_int_rmul_2 _ _) (int___rmul___int_list k t l its.toArray n)
   ⟨e,rfl,⟨_,e,rfl⟩,call_meets F.slot_list_mul ⟨_,e,rfl⟩ F.entry_list_mul (F.args_list_mul_2 _ _) (AutoListH.list___mul___list_int_3 l its.toArray n k t hfit hcap wt) ⟨e,?_⟩⟩)
 rw [hnew];exact ⟨.ref _,_,I.lnew (t':=s.toks) (r.rep k.toNat) (by rw [Zme,Nat.mul_comm]; exact hz),Z,q _ I.fresh⟩
end
section
variable {κ:Type} [DecidableEq κ]
def valV (kvs:List (κ × V)) (k:κ):Option V:=(kvs.find? λkv=>decide (kv.1=k)).map (·.2)
def putK (kvs:List (κ × V)) (k:κ) (v:V):List (κ × V) :=
 if (kvs.any λkv=>decide (kv.1=k))=true then kvs.map (λkv=>if kv.1=k then (kv.1,v) else kv) else kvs ++ [(k,v)]
def Kg {p:κ × V} {r:List (κ × V)} (e:p.1=k):valV (p :: r) k=some p.2:=by simp [valV,List.find?_cons,e]
def Kh {p:κ × V} (e:¬ p.1=k):valV (p :: r) k=valV r k:=by simp [valV,List.find?_cons,e]
theorem Zbo (k:κ):∀ kvs:List (κ × V),(kvs.any λkv=>decide (kv.1=k))=(valV kvs k).isSome
 | []=>rfl
 | p :: r=>by
  rw [List.any_cons];by_cases e:p.1=k
  ·simp only [Kg e,decide_eq_true e,Bool.true_or,Option.isSome_some]
  ·rw [Kh e,decide_eq_false e,Bool.false_or]; exact Zbo k r
def Jp (kvs:List (κ × V)) (k:κ) (v:V):(putK kvs k v).length<=kvs.length + 1:=by
 unfold putK;split
 ·rw [Ac]; lia
 ·rw [Af,List.length_cons,List.length_nil]; lia
def RelO.isSome_eq {o:Option V} {u:Option Value} (r:RelO o u):o.isSome=u.isSome:=by
 cases o with
 | none=>cases u with
  | none=>rfl
  | some _=>exact (show False from r).elim
 | some _=>cases u with
  | none=>exact (show False from r).elim
  | some _=>rfl
def KV.val (r:KV kvs vs) (k:κ):RelO (valV kvs k) (valueAt vs k):=by
 unfold KV at r
 induction r with
 | nil=>exact True.intro
 | @cons p q ps qs h t ih =>
  obtain ⟨h1,h2⟩:=h;by_cases e:p.1=k
  ·have e':q.1=k:=h1.symm.trans e
   have b:valueAt (q :: qs) k=some q.2:=by simp [valueAt,List.find?_cons,e']
   rw [Kg e,b]; exact h2
  ·have e':¬ q.1=k:=λz=>e (h1.trans z)
   have b:valueAt (q :: qs) k=valueAt qs k:=by simp [valueAt,List.find?_cons,e']
   rw [Kh e,b]; exact ih
def KV.any {kvs:List (κ × V)} {vs:List (κ × Value)} (r:KV kvs vs) (k:κ):(kvs.any λkv=>decide (kv.1=k))=vs.any λkv=>decide (kv.1=k):=by
 unfold KV at r
 induction r with
 | nil=>rfl
 | cons h t ih=>rw [List.any_cons,List.any_cons,ih,h.1]
def KV.repl {kvs:List (κ × V)} {vs:List (κ × Value)} (r:KV kvs vs) (k:κ) (ry:RelV y u) :
  KV (kvs.map λkv=>if kv.1=k then (kv.1,y) else kv) (vs.map λkv=>if kv.1=k then (kv.1,u) else kv):=by
 unfold KV at r ⊢
 induction r with
 | nil=>exact .nil
 | @cons p q ps qs h t ih =>
  rw [List.map_cons,List.map_cons];refine .cons ?_ ih;obtain ⟨h1,h2⟩:=h;by_cases e:p.1=k
  ·rw [if_pos e,if_pos (h1.symm.trans e)]; exact ⟨h1,ry⟩
  ·rw [if_neg e,if_neg (λz=>e (h1.trans z))]; exact ⟨h1,h2⟩
def KV.put (r:KV kvs vs) (k:κ) (ry:RelV y u):KV (putK kvs k y) (stored vs k u):=by
 unfold putK stored;rw [r.any k];by_cases e:(vs.any λkv=>decide (kv.1=k))=true
 ·rw [if_pos e,if_pos e]; exact r.repl k ry
 ·rw [if_neg e,if_neg e]; exact Paired.snoc r ⟨Z,ry⟩
def KV.length {kvs:List (κ × V)} {vs:List (κ × Value)} (r:KV kvs vs):kvs.length=vs.length:=Paired.length r
end
def J9 (r:RelV (kV k) u):(Yj P w).is k u=true:=by
 cases k with
 | inl i=>obtain ⟨t,e⟩:=(show ∃ t,u=Value.int i t from r); subst e; exact Zep P w i t
 | inr x=>obtain ⟨t,e⟩:=(show ∃ t,u=Value.str x t from r); subst e; exact Zeo P w x t
theorem Zae:∀ {ks:List Key} {us:List Value},Vals (ks.map kV) us->ItemsAre (Yj P w) ks us
 | [],_,r=>by rw [List.map_nil] at r; cases r; exact .nil
 | k :: ks,_,r=>by
  rw [List.map_cons] at r
  cases r with
  | cons h t=>exact .cons (J9 h) (Zae t)
abbrev KT (H:Hp):List (List Key × V)->List (List Key × Addr × Value)->Prop:=Paired λp q=>p.1=q.1/\H q.2.1=some (.tup (p.1.map kV))/\RelV p.2 q.2.2
def KT.val (r:KT H kvs xs) (k:List Key):RelO (valV kvs k) ((atKey xs k).map (·.2)):=by
 induction r with
 | nil=>exact True.intro
 | @cons p q ps qs h t ih =>
  obtain ⟨h1,_,h2⟩:=h;by_cases e:p.1=k
  ·have e':q.1=k:=h1.symm.trans e
   have b:atKey (q :: qs) k=some q.2:=by simp [atKey,List.find?_cons,e']
   rw [Kg e,b]; exact h2
  ·have e':¬ q.1=k:=λz=>e (h1.trans z)
   have b:atKey (q :: qs) k=atKey qs k:=by simp [atKey,List.find?_cons,e']
   rw [Kh e,b]; exact ih
def KT.repl {kvs:List (List Key × V)} {xs:List (List Key × Addr × Value)} (r:KT H kvs xs) (k:List Key) (ry:RelV y u) :
  KT H (kvs.map λkv=>if kv.1=k then (kv.1,y) else kv) (xs.map (putAt k u)):=by
 induction r with
 | nil=>exact .nil
 | @cons p q ps qs h t ih =>
  rw [List.map_cons,List.map_cons];refine .cons ?_ ih;obtain ⟨h1,h2,h3⟩:=h;unfold putAt;by_cases e:p.1=k
  ·rw [if_pos e,if_pos (h1.symm.trans e)]; exact ⟨h1,h2,ry⟩
  ·rw [if_neg e,if_neg (λz=>e (h1.trans z))]; exact ⟨h1,h2,h3⟩
def KT.put (r:KT H kvs xs) (k:List Key) (hb:H b=some (.tup (k.map kV))) (ry:RelV y u) :
  KT H (putK kvs k y) (storedH xs k b u):=by
 have e:(kvs.any λkv=>decide (kv.1=k))=(atKey xs k).isSome:=by
  rw [Zbo,(r.val k).isSome_eq,Option.isSome_map]
 unfold putK storedH;rw [e];by_cases q:(atKey xs k).isSome=true
 ·rw [if_pos q,if_pos q]; exact r.repl k ry
 ·rw [if_neg q,if_neg q]; exact Paired.snoc r ⟨Z,hb,ry⟩
def KT.keeps (r:KT H kvs xs) (ht:∀ b ys,H b=some (.tup ys)->H' b=some (.tup ys)):KT H' kvs xs :=
 Paired.mapP r λ_ _ z=>⟨z.1,ht _ _ z.2.1,z.2.2⟩
section
variable {P:Program} {w:World} {H:Hp} {h:Heap} {a:Addr}
def Zk3 (ok:HOk P w H h) (e:Rd H a u):Yi P w H h a u:=e.ok ok
def Q9 {kvs:List (Key × V)} (ok:HOk P w H h) (e:Rd H a (.dK kvs)):kvs.length<=sizeLine/\(a == sysModules)=false/\∃ vs,KV kvs vs/\h.DictOf (Yj P w) a vs :=
 show Yi P w H h a (.dK kvs) from Zk3 ok e
def Zgp {kvs:List (Key × V)} (ok:HOk P w H h) (e:H a=some (.dK kvs)):kvs.length<=sizeLine/\(a == sysModules)=false/\∃ vs,KV kvs vs/\h.DictOf (Yj P w) a vs:=Q9 ok (.inl e)
def U6 {ks:List Key} (ok:HOk P w H h) (e:H a=some (.tup (ks.map kV))):(tupleKind (Yj P w)).is h ks a:=by
 obtain ⟨_,its,r,o,h1,h2,n,h3⟩:=(show Yi P w H h a (.tup (ks.map kV)) from ok a _ e);exact ⟨o,its.toArray,n,h1,h2,h3,by simpa using Zae r⟩
def Om {kvs:List (List Key × V)} (ok:HOk P w H h) (e:Rd H a (.dT kvs)):kvs.length<=sizeLine/\(a == sysModules)=false /\
  ∃ xs,KT H kvs xs/\h.DictOfH (tupleKind (Yj P w)) a xs:=by
 obtain ⟨z,y,xs,r,o,es,ep,h1,h2,h3,h4,h5⟩:=(show Yi P w H h a (.dT kvs) from Zk3 ok e);refine ⟨z,y,xs,r,o,es,ep,h1,h2,h3,h4,λx hx=>?_,h5⟩
 have all:∀ {l:List (List Key × V)} {m:List (List Key × Addr × Value)},KT H l m->∀ x∈m,(tupleKind (Yj P w)).is h x.1 x.2.1:=by
  intro l m q
  induction q with
  | nil=>intro x hx; exact nomatch hx
  | @cons p q ps qs hq t ih =>
   intro x hx
   rcases As hx with e | hx
   ·subst e
    exact U6 ok (by rw [<- hq.1]; exact hq.2.1)
   ·exact ih x hx
 exact all r x hx
def Zpa {kvs:List (List Key × V)} (ok:HOk P w H h) (e:H a=some (.dT kvs)):kvs.length<=sizeLine/\(a == sysModules)=false /\
  ∃ xs,KT H kvs xs/\h.DictOfH (tupleKind (Yj P w)) a xs:=Om ok (.inl e)
end
def DGet (H:Hp) (a:Addr) (y:V) (r:Option V):Prop :=
 (∃ kvs k,Rd H a (.dK kvs)/\y=kV k/\r=valV kvs k)\/∃ kvs k b,Rd H a (.dT kvs)/\y=.ref b/\H b=some (.tup (k.map kV))/\r=valV kvs k
def DPut (H:Hp) (a:Addr) (y v:V) (H':Hp):Prop :=
 (∃ kvs k,H a=some (.dK kvs)/\y=kV k/\kvs.length < sizeLine/\H'=upd H a (.dK (putK kvs k v))) \/
 ∃ kvs k b,H a=some (.dT kvs)/\y=.ref b/\H b=some (.tup (k.map kV))/\kvs.length < sizeLine/\H'=upd H a (.dT (putK kvs k v))
def DPut.k {H:Hp} {a:Addr} {kvs:List (Key × V)} {k:Key} {v:V} (e:H a=some (.dK kvs)) (hl:kvs.length < sizeLine):DPut H a (kV k) v (upd H a (.dK (putK kvs k v))):=.inl ⟨kvs,k,e,rfl,hl,rfl⟩
section
variable {X:Cx} {i7:List (Addr × Obj)} {σ:St} {H:Hp} {s:Shared} {a:Addr} {y v:V} {u r:Value} {o:Option V} {A:Around} {E:Value->Shared->Prop}
def Inv.big (I:Inv X i7 σ H s):sysModules < s.heap.objs.size:=by
 have h:mainGlobals < s.heap.objs.size:=(I.mod.glob.keeps I.bk).lt;exact Nat.lt_trans (by decide) h
def Ziw (hu:A.units + 1 < cLine) (I:Inv X i7 σ H s) (g:DGet H a y (some v)) (ry:RelV y u) (h:∀ w' s',Inv X i7 σ H s'->RelV v w'->Q w' s') :
  wpAny (model X.prog X.w) A (getItem (.ref a) u) Q E s:=by
 rcases g with ⟨kvs,k,e,ey,l⟩ | ⟨kvs,k,b,e,ey,eb,l⟩
 ·subst ey
  obtain ⟨z,hd,vs,jk,dd⟩:=Q9 I.hok e;obtain ⟨w',hw,lx⟩:=RelO.some_of (v:=v) (o:=valueAt vs k) (by rw [l]; exact jk.val k);exact wpAny_getItem_of (J9 ry) dd.mapOf hw (h w' _ (I.tok _) lx)
 ·subst ey
  cases (show u=Value.ref b from ry);obtain ⟨z,hd,xs,jk,dd⟩:=Om I.hok e;obtain ⟨w',hw,lx⟩:=RelO.some_of (v:=v) (o:=(atKey xs k).map (·.2)) (by rw [l]; exact jk.val k);obtain ⟨p,hp,lr⟩:=Option.map_eq_some_iff.mp hw;refine wpAny_getItem_heap (tupleKind_room_in1 hu) (U6 I.hok eb) dd hp ?_;rw [lr];exact h w' _ (I.tok _) lx
def d_in {Q:Value->Shared->Prop} (hu:A.units + 1 < cLine) (I:Inv X i7 σ H s) (g:DGet H a y o) (ry:RelV y u) (h:∀ s',Inv X i7 σ H s'->Q (.bool o.isSome) s') :
  wpAny (model X.prog X.w) A (compareOp .In u (.ref a)) Q E s:=by
 rcases g with ⟨kvs,k,e,ey,l⟩ | ⟨kvs,k,b,e,ey,eb,l⟩
 ·subst ey
  obtain ⟨z,hd,vs,jk,dd⟩:=Q9 I.hok e;refine wpAny_in_of (J9 ry) hd dd.mapOf ?_;rw [<- (jk.val k).isSome_eq,<- l];exact h _ (I.tok _)
 ·subst ey
  cases (show u=Value.ref b from ry);obtain ⟨z,hd,xs,jk,dd⟩:=Om I.hok e;refine wpAny_in_heap (tupleKind_room_in1 hu) (U6 I.hok eb) hd dd ?_;have q:=(jk.val k).isSome_eq;rw [Option.isSome_map] at q;rw [<- q,<- l];exact h _ (I.tok _)
def Zmk (hu:A.units + 1 < cLine) (I:Inv X i7 σ H s) (g:DGet H a y o) (ry:RelV y u) (h:∀ s',Inv X i7 σ H s'->Q (.bool (!o.isSome)) s') :
  wpAny (model X.prog X.w) A (compareOp .NotIn u (.ref a)) Q E s:=by
 rcases g with ⟨kvs,k,e,ey,l⟩ | ⟨kvs,k,b,e,ey,eb,l⟩
 ·subst ey
  obtain ⟨z,hd,vs,jk,dd⟩:=Q9 I.hok e;refine wpAny_notIn_of (J9 ry) hd dd.mapOf ?_;rw [<- (jk.val k).isSome_eq,<- l];exact h _ (I.tok _)
 ·subst ey
  cases (show u=Value.ref b from ry);obtain ⟨z,hd,xs,jk,dd⟩:=Om I.hok e;refine wpAny_notIn_heap (tupleKind_room_in1 hu) (U6 I.hok eb) hd dd ?_;have q:=(jk.val k).isSome_eq;rw [Option.isSome_map] at q;rw [<- q,<- l];exact h _ (I.tok _)
def On {h':Heap} {t':Nat} (I:Inv X i7 σ H s) (mu:Mut (H a)) (hs:Heap.SameBut a s.heap h') (he:∃ q,h'.get? a=some q) (new:Yi X.prog X.w (upd H a ob) h' a ob) :
  Inv X i7 σ (upd H a ob) { s with heap:=h',toks:=t' } :=
 I.write (x:=a) (e:=a) mu (.inl rfl) (λb q hb z=>(hs.2 b hb).trans z) he new
def Zdk {h':Heap} {kvs:List (Key × V)} (z:kvs.length<=sizeLine) (hd:(a == sysModules)=false) (jk:KV kvs vs) (dd:h'.DictOf (Yj P w) a vs) :
  Yi P w H' h' a (.dK kvs):=⟨z,hd,vs,jk,dd⟩
def Ziv (hu:A.units + 1 < cLine) (I:Inv X i7 σ H s) (g:DPut H a y v H') (ry:RelV y u) (rv:RelV v r) (h:∀ s',Inv X i7 σ H' s'->Q () s') :
  wpAny (model X.prog X.w) A (setItem (.ref a) u r) Q E s:=by
 rcases g with ⟨kvs,k,e,ey,l,eH⟩ | ⟨kvs,k,b,e,ey,eb,l,eH⟩
 ·subst ey eH
  obtain ⟨z,hd,vs,jk,dd⟩:=Zgp I.hok e;have hz:vs.length<=sizeLine:=by rw [<- jk.length]; exact z
  have hl:(putK kvs k v).length<=sizeLine:=by have:=Jp kvs k v; lia
  refine wpAny_setItem_pairs (hsz:=hz) (J9 ry) dd λh' pw hs=>h _ ?_;have he:∃ q,h'.get? a=some q:=let ⟨q,_,_,hq,_⟩:=pw; ⟨q,hq⟩
  exact On I (by rw [e]; exact True.intro) hs he (Zdk hl hd (jk.put k rv) pw)
 ·subst ey eH
  cases (show u=Value.ref b from ry);obtain ⟨z,hd,xs,jk,dd⟩:=Zpa I.hok e;have hz:xs.length<=sizeLine:=by rw [<- Paired.length jk]; exact z
  have hl:(putK kvs k v).length<=sizeLine:=by have:=Jp kvs k v; lia
  refine wpAny_setItem_heap (hsz:=hz) (tupleKind_room_in1 hu) (U6 I.hok eb) dd λh' pw hs=>h _ ?_;obtain ⟨q,es,ep,hq,h2,h3,h4,_,h5⟩:=pw;refine On I (by rw [e]; exact True.intro) hs ⟨q,hq⟩ ⟨hl,hd,_,(jk.put k eb rv).keeps λc ys ec=>?_,q,es,ep,hq,h2,h3,h4,h5⟩;rw [Zh (Zow ec e (λz=>nomatch z))];exact ec
end
def NoSl (i:Expr):Prop:=∀ ov iv,subscripted i false ov iv=operate [ov,iv] (getItem ov iv)
def Zex {prog:Program} {w:World} {A:Around} {E:Value->Shared->Prop} {s:Shared} {env:Env} {value j4:Expr} {pos:Pos} {T id:String} {Q:Value->Shared->Prop}
  (hl:typeLookup (.type T) "__getitem__"=pure (some (.builtin id))) (hs:NoSl j4)
  (h:wpAny (model prog w) A (eval value env) (λo s₁=>wpAny (model prog w) A (eval j4 env) (λi s₂=>s₂.TypeIs o T/\wpAny (model prog w) A (getItem o i) Q E s₂) E s₁) E s) :
  wpAny (model prog w) A (eval (.Subscript value j4 pos) env) Q E s:=by
 refine Subscript_ (wpAny_mono h (λo s₁ h₁=>wpAny_mono h₁ (λi s₂ h₂=>?_) λ_ _ x=>x) λ_ _ x=>x);obtain ⟨hT,h₂⟩:=h₂;unfold subscriptTail;refine Am ?_;rw [getitemInPython_of_ne hT.not_modules];refine Am (wpAny_specialOf hT hl ?_);have ji:wpAny (model prog w) A (subscripted j4 false o i) (λr s₃=>wpAny (model prog w) A (letTemporaryGo value o r >>= λ_=>pure r) Q E s₃) E s₂:=by
  rw [hs o i]
  exact wpAny_operating (wpAny_mono h₂ (λr s₃ h₃=>Am (wpAny_letTemporaryGo (wpAny_pure h₃))) λ_ _ x=>x)
 first
  | exact wpAny_pure (Am ji)
  | exact Am (wpAny_pure (Am ji))
  | exact Am ji
def Zer {s:Shared} (I:Inv X i7 σ H s) (g:DGet H a y o):s.TypeIs (.ref a) "dict":=by
 rcases g with ⟨kvs,k,e,_,_⟩ | ⟨kvs,k,b,e,_,_,_⟩
 ·obtain ⟨_,_,vs,_,dd⟩:=Q9 I.hok e
  exact dd.typeIs
 ·obtain ⟨_,_,xs,_,dd⟩:=Om I.hok e
  exact dd.typeIs
def Zoj (td ty:TE):TE:=λσ H Q=>td σ H λx H1=>ty σ H1 λy H2=>∃ a v,x=.ref a/\DGet H2 a y (some v)/\Q v H2
def tDIn (ty td:TE):TE:=λσ H Q=>ty σ H λy H1=>td σ H1 λx H2=>∃ a o,x=.ref a/\DGet H2 a y o/\Q (.bl o.isSome) H2
def Zlf (ty td:TE):TE:=λσ H Q=>ty σ H λy H1=>td σ H1 λx H2=>∃ a o,x=.ref a/\DGet H2 a y o/\Q (.bl (!o.isSome)) H2
def Zon (td ty tv:TE):TS:=λD σ H=>tv σ H λv H1=>td σ H1 λx H2=>ty σ H2 λy H3=>∃ a H4,x=.ref a/\DPut H3 a y v H4/\D.nx σ H4
section
variable {X:Cx} {o i e value:Expr} {pos j8 og:Pos} {td ty tv:TE}
def Ze9 (hu:X.A.units + 1 < cLine) (ho:PE X o td) (hi:PE X i ty) (hs:NoSl i):PE X (.Subscript o i pos) (Zoj td ty):=by
 intro i7 s σ H Q I h;refine Zex PySem.F.slot_dict_getitem.lookup hs (thn (ho i7 s σ H _ I h) λu s1 zz22=>?_);obtain ⟨x,H1,I1,rx,q1⟩:=zz22;refine thn (hi i7 s1 σ H1 _ I1 q1) λiv s2 ja=>?_;obtain ⟨y,H2,I2,ry,a,v,ex,g,q2⟩:=ja;subst ex;obtain rfl:u=Value.ref a:=rx;exact ⟨Zer I2 g,Ziw hu I2 g ry λw' s3 I3 lx=>⟨v,H2,I3,lx,q2⟩⟩
def Zhy (hu:X.A.units + 1 < cLine) (hi:PE X i ty) (ho:PE X o td):PC X .In i o (tDIn ty td):=by
 intro i7 s σ H Q I h;refine thn (hi i7 s σ H _ I h) λiv s1 zz23=>?_;obtain ⟨y,H1,I1,ry,q1⟩:=zz23;refine thn (ho i7 s1 σ H1 _ I1 q1) λu s2 ja=>?_;obtain ⟨x,H2,I2,rx,a,ov,ex,g,q2⟩:=ja;subst ex;obtain rfl:u=Value.ref a:=rx;exact d_in hu I2 g ry λs3 I3=>⟨.bl ov.isSome,H2,I3,Z,q2⟩
def Zhx (hu:X.A.units + 1 < cLine) (hi:PE X i ty) (ho:PE X o td):PC X .NotIn i o (Zlf ty td):=by
 intro i7 s σ H Q I h;refine thn (hi i7 s σ H _ I h) λiv s1 zz24=>?_;obtain ⟨y,H1,I1,ry,q1⟩:=zz24;refine thn (ho i7 s1 σ H1 _ I1 q1) λu s2 ja=>?_;obtain ⟨x,H2,I2,rx,a,ov,ex,g,q2⟩:=ja;subst ex;obtain rfl:u=Value.ref a:=rx;exact Zmk hu I2 g ry λs3 I3=>⟨.bl (!ov.isSome),H2,I3,Z,q2⟩
def Zlz (hu:X.A.units + 1 < cLine) (ho:PE X o td) (hi:PE X i ty) (hv:PE X value tv) (hs:swapsWith value (some (.Subscript o i j8)) pos.line X.env=pure false) :
  PS X (.Assign [.Subscript o i j8] value pos) (Zon td ty tv):=by
 intro i7 s σ H D I h;refine wpAny_Assign_Subscript (thn (hv i7 s σ H _ I h) λr s1 zz25=>?_) hs;obtain ⟨v,H1,I1,rv,q1⟩:=zz25;refine thn (ho i7 s1 σ H1 _ I1 q1) λu s2 zz26=>?_;obtain ⟨x,H2,I2,rx,q2⟩:=zz26;refine thn (hi i7 s2 σ H2 _ I2 q2) λiv s3 zz27=>?_;obtain ⟨y,H3,I3,ry,a,H4,ex,g,q3⟩:=zz27;subst ex;obtain rfl:u=Value.ref a:=rx;exact Ziv hu I3 g ry rv λs4 I4=>⟨σ,H4,I4,q3⟩
end
def Ku (h:Heap) (hb:sysModules < h.objs.size):Yi P w H (h.push { cls:=.type "dict",data:=.dict #[] }) h.objs.size (.dK []) :=
 ⟨A0 _,beq_eq_false_iff_ne.mpr (Ne.symm (At hb)),[],.nil,Heap.DictOf.new h⟩
def Zm3:TE:=λ_ H Q=>∀ p,H p=none->Q (.ref p) (upd H p (.dK []))
section
variable {X:Cx} {pos:Pos}
def Kn:PE X (.Dict [] [] pos) Zm3:=λi7 s σ H Q I h =>
 wpAny_Dict_empty ⟨.ref s.heap.objs.size,_,I.laid (a:=s.heap.objs.size) (o:=.dK []) (t':=s.toks) (λ_ _ q=>Al _ q) (Ao _) (Ku s.heap I.big),rfl,h _ (I.hok.fresh (Ao _))⟩
end
structure M2 (X:Cx) (o:Expr) (m:Str) (jg:Pos) (e f:Expr) (jd:Pos):Prop where
 base:attributeBase o m X.env (eval o X.env)=eval o X.env
 few:((backTo jd (starEach [e,f] X.env)).all (λx=>!x.1) && (backToKw jd (keywordEach [] X.env)).all (λx=>x.1.isSome)
  && decide (([e,f]:List Expr).length + ([]:List Keyword).length + (if ([]:List Keyword).isEmpty then 0 else 1) < 30))=true
 line:(jg.endLine == jd.line)=true
 trees:backTo jd (starEach [e,f] X.env)=[(false,eval e X.env),(false,eval f X.env)]
def IsD (H:Hp) (a:Addr):Prop:=(∃ kvs,Rd H a (.dK kvs))\/∃ kvs,Rd H a (.dT kvs)
def Zij {s:Shared} (I:Inv X i7 σ H s) (d:IsD H a) :
  s.TypeIs (.ref a) "dict"/\(∀ b,Value.ref a=.ref b->∃ ob,s.heap.get? b=some ob/\ob.dict=none)/\(a == sysModules)=false:=by
 rcases d with ⟨kvs,e⟩ | ⟨kvs,e⟩
 ·obtain ⟨_,hd,vs,_,dd⟩:=Q9 I.hok e
  refine ⟨dd.typeIs,λb q=>?_,hd⟩;cases q;obtain ⟨ob,_,_,h1,h2,_⟩:=dd;exact ⟨ob,h1,h2.2.1⟩
 ·obtain ⟨_,hd,xs,_,dd⟩:=Om I.hok e
  refine ⟨dd.typeIs,λb q=>?_,hd⟩;cases q;obtain ⟨ob,_,_,h1,h2,_⟩:=dd;exact ⟨ob,h1,h2.2.1⟩
end L2
namespace Att
open PySem PySem.W PySem.Calls PyProof.Rows
def Gv:∀ (ns:List Int) (vs:List Value),WellAll P h vs (ns.map WData.int)->IntsAre vs ns:=by
 intro ns
 induction ns with
 | nil =>
  intro vs w;rw [List.map_nil] at w;cases w;exact .nil
 | cons n ns ih =>
  intro vs w;rw [List.map_cons] at w
  cases w with
  | cons a b =>
   cases a;exact .cons _ _ (ih _ b)
def Zhg {l:OpenLaw} (hn:l.most=some n) {h:Heap}
  (qg:l.row.toRowW.claim.pre args=true) (rg:WellAll P h vw args) :
  ∃ a vs ns,vw=[Value.ref a]/\args=[WData.list (ns.map WData.int)]/\h.get? a=some { cls:=.type "list",data:=.seq vs.toArray }/\IntsAre vs ns/\ns.length<=n:=by
 have hsh:WShape.hasAll [] args [.list .int]=true:=(pre_splitW qg).1;have hc:l.pre.holds [] { args:=args }=true:=(pre_splitW qg).2;obtain ⟨d,r,rfl,h1,h2⟩:=hasAllW_cons hsh;obtain rfl:=hasAllW_nil h2;obtain ⟨xs,rfl,h3⟩:=hasW_list h1;obtain ⟨ns,rfl⟩:=items_int h3
 have jb:ns.length<=n:=by
  unfold OpenLaw.pre at hc;have h4:(WTm.not (.lt (.lit (.int (n:Int))) (.len (.arg 0)))).holds [] { args:=[.list (ns.map .int)] }=true:=by
   have h4:=(holds_andW hc).1
   rw [hn] at h4
   exact h4
  have h5:=condW_of h4 (w_not (w_lt w_lit (w_len_list (w_arg rfl))));rw [Ac] at h5;refine Nat.le_of_not_lt λq=>?_;have q':(n:Int) < ((ns.length:Nat):Int):=by lia
  first
   | (rw [decide_eq_true q'] at h5; exact absurd h5 (by decide))
   | (simp at h5; lia)
 cases rg with
 | cons w1 w2 =>
  cases w2
  cases w1 with
  | list ho oq=>exact ⟨_,_,ns,Z,Z,ho,Gv ns _ oq,jb⟩
def Zhr (l:OpenLaw) (args:List WData):l.row.toRowW.claim.post args (.bool true) args=true :=
 postW_of (r:=l.row.toRowW) (X:=(true == true))
  (show WShape.has [] (.bool true) .bool=true by first | rfl | decide | simp [WShape.has,WShape.arms,WShape.armsAll])
  (show (WTm.eq .res (.lit (.bool true))).value [] { args:=args,res:=some (.bool true),after:=args }=some (.bool (true == true)) from w_eq_bool (w_res rfl) w_lit) rfl
def attach_call {l:OpenLaw} {d:DefRec}
  (hn:l.most=some n) (vi:d.params.defaults=[])
  (call:∀ (w:World) (s₀ s₁:Shared) (mg mb:Str->Option Value) (fa:Addr) (o:Obj) (pm cd jm:Value) (a:Addr) (vs:List Value) (ns:List Int),
   Ground q mj [] XP w s₀ mg mb s₁.heap->YP w s₁.heap ->
   s₁.heap.get? fa=some o->o.data=.func (docDef d.name d.params d.body d.scope pm cd jm)->s₁.heap.CodeRec cd d.name->mg d.name=some (.ref fa) ->
   s₁.heap.get? a=some { cls:=.type "list",data:=.seq vs.toArray }->IntsAre vs ns->ns.length<=n->s₁.gens=#[] ->
   codeAny (model l.prog w) callerA (.call (.ref fa) ⟨[.ref a],[]⟩) (λr s'=>r=.ok (.ret (.bool true))/\OldK s₁.heap s'.heap/\s'.os=s₁.os/\AllBare s'.gens) s₁) :
  WalkO q mj XP YP l.row.toRowW d [] (λf vs=>PySem.call f vs):=by
 intro w s₀ s₁ mg mb G Y fa o pm cd jm dV kV ho hd k6 hD zm hg args vw as qg hlay hrd rg ut;obtain rfl:dV=.none:=Dflts.none hD vi;obtain rfl:kV=.none:=Dflts.noKw hD;obtain ⟨a,vs,ns,rfl,rfl,t7,o0,jb⟩:=Zhg hn qg rg;refine enter_call (codeAny_mono (call w s₀ s₁ mg mb fa o pm cd jm a vs ns G Y ho (fd_plain hd) k6 zm t7 o0 jb hg) λr s' hq=>?_);obtain ⟨rfl,h2,h3,h4⟩:=hq;exact ⟨.inl ⟨.bool true,.bool true,[],Z,λ_=>rfl,.bool true,Zhr l _,λ_=>⟨List.Pairwise.nil,λ_ hm=>(nomatch hm)⟩⟩,h2,h3,h4⟩
end Att
namespace L2
open PySem PySem.Spec PyProof.Rows
theorem Ft:∀ {vs:List Value} {ns:List Int},IntsAre vs ns->Vals (ns.map V.int) vs
 | _,_,.nil=>.nil
 | _,_,.cons n t h=>.cons ⟨t,rfl⟩ (Ft h)
def Only (H:Hp):Prop:=∀ b,H b=none\/∃ o xs,H b=some (.frz o (.lst xs))
def Zkb {K:W.Frag} {s₁:Shared} {vs:List Value} {ns:List Int}
  (KX:K.In s₁.heap) (nj:s₁.heap.Ns mainGlobals mg) (hb:s₁.heap.Ns builtinsNs mb) (hbb:∀ x:Str,x≠"__name__"->mb x=bootBuiltins x) (hlim:s₁.heap.NoLimit) (hg:s₁.gens=#[])
  (ha:s₁.heap.get? a=some { cls:=.type "list",data:=.seq vs.toArray }) (hi:IntsAre vs ns) (hl:ns.length<=sizeLine) (hr:Room k callerA)
  (F:∀ base:Heap,K.In base->base.Ns mainGlobals mg->FnOk P w K mg base CX k fa fd [x] sp) (wv:∀ (s:Shared) (u:Value),BindsTo s fd ⟨[u],[]⟩ [(x,u)])
  (j7:∀ H:Hp,Only H->SqL K H a (ns.map V.int)->sp [.ref a] H (λv _=>v=.bl true) λ_ _ _=>False)
  (hCX:∀ H e s',CX [] H s₁ (λ_ _ _=>False) e s'->False) :
  codeAny (model P w) callerA (.call (.ref fa) ⟨[.ref a],[]⟩) (λr s'=>r=.ok (.ret (.bool true))/\OldK s₁.heap s'.heap/\s'.os=s₁.os/\AllBare s'.gens) s₁:=by
 have rv:=Ft hi;have lenV:=hi.length
 have wm:∀ H:Hp,Only H->SqL K H a (ns.map V.int)->HOk P w H s₁.heap->(∀ b,H b≠none->b=a)->(H a≠none->K.lookup a=none) ->
   codeAny (model P w) callerA (.call (.ref fa) ⟨[.ref a],[]⟩) (λr s'=>r=.ok (.ret (.bool true))/\OldK s₁.heap s'.heap/\s'.os=s₁.os/\AllBare s'.gens) s₁:=by
  intro H hO hS hok hA hK;have mm:∀ {b:Addr} {o:Obj},s₁.heap.get? b=some o->H b=none->(hidT s₁.heap H).get? b=some o:=λe n=>Zki e n
  have u8:∀ {b:Addr} {o:Obj} {es:Array DictEntry} {ep:Nat},s₁.heap.get? b=some o->o.data=.dict es ep->H b=none:=λ{b o es ep} e d=>by
   cases q:H b with
   | none=>rfl
   | some u =>
    have e':b=a:=hA b (by rw [q]; simp);subst e';rw [ha] at e; cases e;have d':Data.seq vs.toArray _=Data.dict es ep:=d;cases d'
  have xg:∀ {b:Addr} {m:Str->Option Value},s₁.heap.Ns b m->(hidT s₁.heap H).Ns b m:=λ{b m} ⟨o,es,ep,e,d,r⟩=>⟨o,es,ep,mm e (u8 e d),d,r⟩
  have hKb:K.In (hidT s₁.heap H):=λb o e=>mm (KX b o e) (by
   cases q:H b with
   | none=>rfl
   | some u =>
    have e':b=a:=hA b (by rw [q]; simp);subst e'
    rw [hK (by rw [q]; simp)] at e; cases e)
  have hM:Mod K mg (hidT s₁.heap H):=⟨hKb,xg nj,⟨mb,xg hb,hbb⟩,let ⟨mc,h1,h2⟩:=hlim; ⟨mc,xg h1,h2⟩⟩;have e0:Env0 P w K mg (hidT s₁.heap H) callerA [] s₁ H:=⟨rfl,hM,λb o e=>Zl9 e,Nat.le_of_eq (Zim _ _),trivial,λb hb=>absurd (show b∈([]:List Addr) from hb) (by simp),hok,.of_eq hg⟩;refine codeAny_mono ((F _ hKb (xg nj)).run callerA [] s₁ H ⟨[.ref a],[]⟩ [.ref a] [.ref a] _ _ hr e0 (wv s₁ (.ref a)) (.cons Z .nil) (j7 H hO hS)) λr s' h=>?_
  cases r with
  | error e=>exact (hCX H e s' h).elim
  | ok fl =>
   cases fl with
   | next=>exact False.elim h
   | brk=>exact False.elim h
   | cont=>exact False.elim h
   | ret u =>
    obtain ⟨v,H',os,bare,un,hok',r',q⟩:=h;have q':v=.bl true:=q;subst q';obtain rfl:u=Value.bool true:=r';refine ⟨Z,OldK.of_keep λb o e=>?_,os,bare⟩
    cases q:H b with
    | none=>exact un.keep b o e q (by intro z; exact absurd (show b∈([]:List Addr) from z) (by simp)) (by simp)
    | some u =>
     rcases hO b with z | ⟨ob,xs,z⟩
     ·rw [q] at z; cases z
     ·have z2:=un.frzs b ob _ z
      obtain ⟨e1,_⟩:=hok b _ z;obtain ⟨e2,_⟩:=hok' b _ z2;rw [e] at e1; cases e1;exact e2
 cases hk:K.lookup a with
 | some o =>
  have e:=KX a o hk;rw [ha] at e;cases e;refine wm (λ_=>none) (λ_=>.inl Z) (.inr ⟨_,vs.toArray,_,hk,Z,Z,Z,by rw [Ar,lenV]; exact hl,by simpa using rv⟩) (λb u z=>by have z':(none:Option HO)=some u:=z; cases z') (λb z=>absurd rfl z) λz=>absurd rfl z
 | none =>
  refine wm (λb=>if b=a then some (.frz { cls:=.type "list",data:=.seq vs.toArray } (.lst (ns.map V.int))) else none) (λb=>?_) (.inl (.inr ⟨{ cls:=.type "list",data:=.seq vs.toArray },if_pos rfl⟩)) (λb u z=>?_) (λb z=>?_) λ_=>hk
  ·by_cases hb:b=a
   ·exact .inr ⟨_,_,if_pos hb⟩
   ·exact .inl (if_neg hb)
  ·by_cases hb:b=a
   ·have z':=(if_pos hb).symm.trans z
    cases z';subst hb;exact ⟨ha,by rw [Ac]; exact hl,vs,_,rv,ha⟩
   ·have z':=(if_neg hb).symm.trans z
    cases z'
  ·by_cases hb:b=a
   ·exact hb
   ·exact absurd (if_neg hb) z
abbrev KOf {K:W.Frag} {h:Heap} (_:K.In h):PySem.W.Frag:=K
def Zla {l:PySem.W.OpenLaw} {d:DefRec} {K:Params->PySem.W.Frag} {CX:World->CXT} {sp:World->Sp} {x:Str}
  (hn:l.most=some n) (xt:n<=sizeLine) (vi:d.params.defaults=[]) (hr:Room k callerA)
  (hY:∀ (w:World) (h:Heap),YP w h->(K w.params).In h)
  (F:∀ (w:World) (mg:Str->Option Value) (fa:Addr) (h:Heap),(K w.params).In h->h.Ns mainGlobals mg->mg d.name=some (.ref fa) ->
   ∃ fd:FuncData,(∀ (s:Shared) (u:Value),BindsTo s fd ⟨[u],[]⟩ [(x,u)]) /\
    ∀ base:Heap,(K w.params).In base->base.Ns mainGlobals mg->FnOk l.prog w (K w.params) mg base (CX w) k fa fd [x] (sp w))
  (j7:∀ (w:World) (H:Hp) (a:Addr) (ns:List Int),ns.length<=n->Only H->SqL (K w.params) H a (ns.map V.int)->sp w [.ref a] H (λv _=>v=.bl true) λ_ _ _=>False)
  (hCX:∀ (w:World) (H:Hp) (s:Shared) (e:Value) (s':Shared),CX w [] H s (λ_ _ _=>False) e s'->False) :
  PySem.W.WalkO q mj XP YP l.row.toRowW d [] (λf vs=>PySem.call f vs):=by
 refine Att.attach_call hn vi λw s₀ s₁ mg mb fa o pm cd jm a vs ns G Y ho hd k6 zm t7 o0 jb hg=>?_;have KX:=hY w _ Y;obtain ⟨fd,hb,hF⟩:=F w mg fa _ KX G.T.g zm;exact Zkb KX G.T.g G.T.b G.T.builtins G.T.nolimit hg t7 o0 (Nat.le_trans jb xt) hr hF hb (λH hO hS=>j7 w H a ns jb hO hS) λH e s'=>hCX w H s₁ e s'
def Ys (s:Stmt) (j:Nat):Stmt:=match s with
 | .ClassDef _ _ _ body _ _ _ _ _ _ _=>body.getD j (.Pass ⟨0,0,0,0⟩)
 | _=>.Pass ⟨0,0,0,0⟩
def Xn (s:Stmt):Arguments:=match s with
 | .FunctionDef _ a _ _ _ _ _ _ _ _=>a
 | _=>{ posonlyargs:=[],args:=[],vararg:=none,kwonlyargs:=[],kw_defaults:=[],kwarg:=none,defaults:=[] }
def Yt (s:Stmt):List Stmt:=match s with
 | .FunctionDef _ _ b _ _ _ _ _ _ _=>b
 | _=>[]
def Zg (s:Stmt):Scope:=match s with
 | .FunctionDef _ _ _ _ _ _ sc _ _ _=>sc
 | _=>{ kind:=.function,names:=[],isGenerator:=false,isCoroutine:=false }
abbrev E0:XK:=λ_ _ _=>False
structure Fun (K:W.Frag) (x qual:Str) (st:Stmt) (f:Addr) (fd:FuncData):Prop where
 ex:∃ (oc:Value) (od:Option Addr) (kV jm pm:Value) (an:Option Addr) (jc ct:Value) (pd:Array (Option Value)),
  fd=PySem.W.fnOf x qual (Xn st) (Yt st) (Zg st) .none kV jm pm an jc ct/\K.lookup f=some ⟨oc,od,.func fd,pd⟩/\PySem.W.codeIn K jc qual=true
 kp:PySem.W.keepIn K (.ref f)=true
section
variable {P:Program} {w:World} {K:W.Frag} {mg:Str->Option Value} {base:Heap}
def Fun.binds {x qual:Str} {st:Stmt} {f:Addr} {fd:FuncData} {ps:List Str} (F:Fun K x qual st f fd)
  (h:∀ (kV jm pm:Value) (an:Option Addr) (jc ct:Value) (us:List Value),us.length=ps.length->bindArgs (PySem.W.fnOf x qual (Xn st) (Yt st) (Zg st) .none kV jm pm an jc ct) ⟨us,[]⟩=pure (ps.zip us)):X4 K fd ps []:=by
 obtain ⟨oc,od,kV,jm,pm,an,jc,ct,pd,rfl,lk,k6⟩:=F.ex;exact .all (h kV jm pm an jc ct)
def Gw {x qual:Str} {st:Stmt} {f:Addr} {oc:Value} {od an:Option Addr} {pd:Array (Option Value)} {kV jm pm jc ct:Value} (l:K.lookup f=some ⟨oc,od,.func (PySem.W.fnOf x qual (Xn st) (Yt st) (Zg st) .none kV jm pm an jc ct),pd⟩)
  (c:PySem.W.codeIn K jc qual=true) (k:PySem.W.keepIn K (.ref f)=true):Fun K x qual st f (PySem.W.fnOf x qual (Xn st) (Yt st) (Zg st) .none kV jm pm an jc ct):=⟨⟨oc,od,kV,jm,pm,an,jc,ct,pd,rfl,l,c⟩,k⟩
end
def Qa {A:Around} (hr:Room k A):A.units + 1 < cLine:=Nat.lt_of_le_of_lt (Nat.add_le_add_left (by decide:1<=64) _) hr.units
def Z5 {n:Nat} (h:n<=1000):n < sizeLine:=Nat.lt_of_le_of_lt h (by decide)
section
variable {X:Cx}
def pv (i:Nat) (hN:X.N[i]?=some x:=by rfl) (hv:Vis X.env.scope x:=by first | exact Or.inl rfl | exact Or.inr (Or.inl rfl) | exact Or.inr (Or.inr rfl)) (hd:(x == ("__debug__":Str))=false:=by decide)
  (k6:(x == ("__classdict__":Str))=false:=by decide):PE X (.Name x pos) (tVar i):=Zhv hN hv hd k6
end
def iteF {A B:Prop} (h:B):if false=true then A else B:=by
 rw [if_neg Bool.false_ne_true];exact h
def iteT {A B:Prop} (h:A):if true=true then A else B:=by
 rw [if_pos rfl];exact h
def ite2 {A B:Prop} [Decidable c] (h1:c->A) (h2:¬ c->B):if c then A else B:=by
 by_cases h:c
 ·rw [if_pos h]
  exact h1 h
 ·rw [if_neg h]
  exact h2 h
def Same (H H':Hp):Prop:=∀ b o,H b=some o->H' b=some o
def Same.refl (H:Hp):Same H H:=λ_ _ h=>h
def Same.trans (a:Same H H1) (b:Same H1 H2):Same H H2:=λc o h=>b c o (a c o h)
def Same.free {H H':Hp} (e:Same H H') {l:Addr} (h:H' l=Option.none):H l=Option.none:=by
 cases q:H l with
 | none=>rfl
 | some o =>
  rw [e l o q] at h;cases h
def Same.seq {K:W.Frag} {H H':Hp} {a:Addr} {xs:List V} (e:Same H H') (h:SqL K H a xs):SqL K H' a xs:=by
 rcases h with (h | ⟨o,h⟩) | h
 ·exact .inl (.inl (e _ _ h))
 ·exact .inl (.inr ⟨o,e _ _ h⟩)
 ·exact .inr h
def Yx (env:Env):List (Str × NameKind)->List (Str × Addr)->List (Str × Addr)
 | [],i9=>i9
 | (n,k) :: r,i9=>if (k == NameKind.free)=true then (match env.cells.lookup n with
  | some c=>Yx env r ((n,c) :: i9)
  | none=>Yx env r i9) else Yx env r i9
theorem Wx {env:Env}:∀ (ns:List (Str × NameKind)) (i9:List (Str × Addr)),(∀ x c,i9.lookup x=some c->env.cells.lookup x=some c) ->
  ∀ x c,(Yx env ns i9).lookup x=some c->env.cells.lookup x=some c
 | [],i9,h=>h
 | (n,k) :: r,i9,h=>by
  unfold Yx;split
  ·cases e:env.cells.lookup n with
   | none=>exact Wx r i9 h
   | some c =>
    refine Wx r _ λx d hx=>?_;rw [List.lookup_cons] at hx
    cases hb:x == n with
    | true =>
     rw [hb] at hx;cases hx;rw [beq_iff_eq.mp hb];exact e
    | false =>
     rw [hb] at hx;exact h x d hx
  ·exact Wx r i9 h
theorem Wy:∀ (ns:List (Str × NameKind)) (i9:List (Str × Addr)) (x:Str),(∃ c,i9.lookup x=some c)->∃ c,(Yx env ns i9).lookup x=some c
 | [],i9,x,h=>h
 | (n,k) :: r,i9,x,h=>by
  unfold Yx;split
  ·cases e:env.cells.lookup n with
   | none=>exact Wy r i9 x h
   | some c =>
    refine Wy r _ x ?_;rw [List.lookup_cons]
    cases hb:x == n with
    | true=>exact ⟨c,Z⟩
    | false=>exact h
  ·exact Wy r i9 x h
theorem Jq {env:Env}:∀ (ns:List (Str × NameKind)) (i9:List (Str × Addr)) (x:Str),(x,NameKind.free)∈ns->(∃ c,env.cells.lookup x=some c)->∃ c,(Yx env ns i9).lookup x=some c
 | [],i9,x,h,_=>by cases h
 | (n,k) :: r,i9,x,h,hc=>by
  rcases As h with e | h
  ·cases e
   obtain ⟨c,hc⟩:=hc;unfold Yx;rw [if_pos (show (NameKind.free == NameKind.free)=true by decide),hc];exact Wy r _ n ⟨c,by rw [List.lookup_cons,beq_self_eq_true]⟩
  ·unfold Yx
   split
   ·cases e:env.cells.lookup n with
    | none=>exact Jq r i9 x h hc
    | some c=>exact Jq r _ x h hc
   ·exact Jq r i9 x h hc
theorem V7 {env:Env} (f:Str × NameKind->List (Str × Addr)->Sem (ForInStep (List (Str × Addr))))
  (hf:∀ name kind cs,f (name,kind) cs=if (kind == NameKind.free)=true then (do let a <- cellOf env name; pure (.yield ((name,a) :: cs))) else pure (.yield cs)) :
  ∀ (ns:List (Str × NameKind)) (i9:List (Str × Addr)),(∀ y∈ns,y.2=.free->∃ c,env.cells.lookup y.1=some c)->forIn ns i9 f=pure (Yx env ns i9)
 | [],i9,_=>by rw [List.forIn_nil]; rfl
 | (n,k) :: r,i9,h=>by
  rw [List.forIn_cons,hf];unfold Yx;have hr:∀ y∈r,y.2=.free->∃ c,env.cells.lookup y.1=some c:=λy hy=>h y (List.mem_cons_of_mem _ hy);split
  ·rename_i hk
   obtain ⟨c,hc⟩:=h (n,k) List.mem_cons_self (by simpa using hk);have pq:env.cells.lookup n=some c:=hc;have e:cellOf env n=pure c:=by unfold cellOf; rw [pq]
   rw [e,pq];exact V7 f hf r ((n,c) :: i9) hr
  ·exact V7 f hf r i9 hr
def Ww {env:Env} {scope:Scope} (h:∀ y∈scope.names,y.2=.free->∃ c,env.cells.lookup y.1=some c):closureFor scope env=pure (Yx env scope.names []):=by
 unfold closureFor;dsimp only;rw [V7 (env:=env) _ (λname kind cs=>by split <;> rfl) scope.names [] h];rfl
theorem Jd (env:Env):∀ (names:List (Str × NameKind)) (x:Str),
  (names.map λ(n,k)=>if (k == NameKind.free && env.scope.kind == .function && env.kindOf n == some .cell) then (n,NameKind.cell) else (n,k)).lookup x =
   (names.lookup x).map λk=>if (k == NameKind.free && env.scope.kind == .function && env.kindOf x == some .cell)=true then NameKind.cell else k
 | [],_=>rfl
 | (n,k) :: r,x=>by
  have ih:=Jd env r x;have e:(if (k == NameKind.free && env.scope.kind == .function && env.kindOf n == some .cell)=true then (n,NameKind.cell) else (n,k))=(n,if (k == NameKind.free && env.scope.kind == .function && env.kindOf n == some .cell)=true then NameKind.cell else k):=by split <;> rfl
  show List.lookup x ((if (k == NameKind.free && env.scope.kind == .function && env.kindOf n == some .cell)=true then (n,NameKind.cell) else (n,k)) :: _)=_;rw [e,List.lookup_cons,List.lookup_cons]
  cases hx:x == n with
  | true =>
   have e2:x=n:=beq_iff_eq.mp hx;subst e2;rfl
  | false=>exact ih
def Uv {env:Env} {names:List (Str × NameKind)} (hc:∀ y∈names,y.2≠.cell)
  (h:(names.map λ(n,k)=>if (k == NameKind.free && env.scope.kind == .function && env.kindOf n == some .cell) then (n,NameKind.cell) else (n,k)).lookup x=some k) (hk:k=.cell\/k=.free):names.lookup x=some .free:=by
 rw [Jd] at h
 cases e:names.lookup x with
 | none=>rw [e] at h; cases h
 | some k' =>
  rw [e] at h;have r6:k'≠.cell:=hc _ (PySem.mem_of_lookup e);have h':(if (k' == NameKind.free && env.scope.kind == .function && env.kindOf x == some .cell)=true then NameKind.cell else k')=k:=Ay h;split at h'
  ·rename_i q
   simp only [Bool.and_eq_true,beq_iff_eq] at q;rw [q.1.1]
  ·subst h'
   rcases hk with z | z
   ·exact absurd z r6
   ·rw [z]
def Ge {env:Env} {names:List (Str × NameKind)} (h:names.lookup x=some .free) :
  (names.map λ(n,k)=>if (k == NameKind.free && env.scope.kind == .function && env.kindOf n == some .cell) then (n,NameKind.cell) else (n,k)).lookup x≠some .local:=by
 rw [Jd,h];intro z;have z':(if (NameKind.free == NameKind.free && env.scope.kind == .function && env.kindOf x == some .cell)=true then NameKind.cell else NameKind.free)=.local:=Ay z;split at z' <;> cases z'
def Zz (X:Cx) (N':List Str) (scope:Scope) (C:Addr) (s₀:Shared) (H₀:Hp) (ex:List Addr):Cx :=
 { X with N:=N',s₀:=s₀,H₀:=H₀,env:=compEnvC scope (Yx X.env scope.names []) C X.env,outer:=X.stack,ex:=ex,fn:=λ_=>false,pn:=[],xe:=λ_ _=>False }
def FvOk (X:Cx) (scope:Scope):List (Str × Nat)->Prop
 | []=>True
 | (x,j) :: r=>(X.N[j]?=some x/\scope.names.lookup x=some .free/\(X.env.kindOf x=some .cell\/X.env.kindOf x=some .free))/\FvOk X scope r
theorem FvOk.mem {X:Cx} {scope:Scope}:∀ {l:List (Str × Nat)},FvOk X scope l->∀ y∈l,X.N[y.2]?=some y.1/\scope.names.lookup y.1=some .free/\(X.env.kindOf y.1=some .cell\/X.env.kindOf y.1=some .free)
 | [],_,_,h=>by cases h
 | (x,j) :: r,h,y,hy=>by
  rcases As hy with e | hy
  ·cases e; exact h.1
  ·exact FvOk.mem h.2 y hy
def blkN (ts:List Str) (fv:List (Str × Nat)):List Str:=ts ++ fv.map (·.1)
def blkS (ts:List Str) (fv:List (Str × Nat)) (σ:St):St:=ts.map (λ_=>none) ++ fv.map λy=>(σ[y.2]?).join
structure BlkOk (X:Cx) (scope:Scope) (fv:List (Str × Nat)):Prop where
 kind:scope.kind=.function
 nocell:∀ y∈scope.names,y.2≠.cell
 names:∀ y∈scope.names,y.2=.local->scope.names.lookup y.1=some .local
 free:∀ y∈scope.names,y.2=.free->X.env.kindOf y.1=some .cell\/X.env.kindOf y.1=some .free
 fvs:FvOk X scope fv
section
variable {X:Cx} {i7:List (Addr × Obj)} {σ:St} {H:Hp} {s:Shared} {scope:Scope} {ts:List Str} {fv:List (Str × Nat)}
def Va {h':Heap} {tk:Nat} (B:BlkOk X scope fv) (I:Inv X i7 σ H s) (hf:∀ b∈fp,FpOk X i7 H b) (ho:∀ b∈fp,∃ o,s.heap.get? b=some o)
  (hn:h'.Ns s.heap.objs.size (λ_=>none)) (hk:∀ b o,s.heap.get? b=some o->h'.get? b=some o) :
  Inv (Zz X (blkN ts fv) scope s.heap.objs.size s H fp) [] (blkS ts fv σ) H { s with heap:=h',toks:=tk }:=by
 have has:∀ y∈scope.names,y.2=.free->∃ c,X.env.cells.lookup y.1=some c:=λy hy e=>I.ok.has y.1 (B.free y hy e);have uh:∀ x c,(Yx X.env scope.names []).lookup x=some c->X.env.cells.lookup x=some c:=Wx _ _ (λx c h=>by simp at h);have fr:∀ x,(scope.names.lookup x=some .free)->∃ c,(Yx X.env scope.names []).lookup x=some c:=λx hx =>
  Jq _ _ x (PySem.mem_of_lookup hx) (has _ (PySem.mem_of_lookup hx) rfl)
 have nfs:∀ b∈fp,b ∉ frs X.stack:=λb hb z=>by
  obtain ⟨_,h1,h2,_⟩:=hf b hb
  rcases As (I.stkSub b z) with e | e
  ·exact h1 e
  ·exact h2 e
 have lt:∀ b∈fp,b < s.heap.objs.size:=λb hb=>let ⟨o,e⟩:=ho b hb; Ap e
 refine ⟨⟨I.ok.mod,?_,I.ok.glob,I.ok.blt,Ao _,λx y c h1 h2=>I.ok.inj x y c (uh x c h1) (uh y c h2),λx hx=>?_,λ_ _ h=>absurd (show false=true from h) Bool.false_ne_true,I.ok.hd,I.ok.frames,.inl Z,λb hb=>⟨At (lt b hb),λx c e=>(hf b hb).2.2.2.2.1 x c (uh x c e)⟩,I.bs,Nat.le_trans I.ok.bsz I.sz,λb o e hb=>?_,nfs,I.stack,I.stkFree⟩,
  rfl,I.bare,Un.kept hk,⟨_,hn,λi x v h1 h2 h3=>?_⟩,λx c e=>?_,I.fresh,λx c e=>I.freeC x c (uh x c e),λp hp=>?_,I.hok.kept hk,?_⟩
 ·exact B.kind
 ·refine fr x ?_
  have kj:(relabel scope X.env).names.lookup x=some .cell\/(relabel scope X.env).names.lookup x=some .free:=hx
  rcases kj with e | e
  ·exact Uv B.nocell e (.inl Z)
  ·exact Uv B.nocell e (.inr Z)
 ·rcases (hf b hb).2.2.2.1 with z | z
  ·exact I.ok.noex b o e z
  ·exact absurd (Ah (Ap e) (Nat.le_trans I.ok.bsz z)) (Nat.lt_irrefl _)
 ·have h1:(ts ++ fv.map (·.1))[i]?=some x:=h1
  have h2:(ts.map (λ_=>(none:Option V)) ++ fv.map λy=>(σ[y.2]?).join)[i]?=some (some v):=h2;by_cases hi:i < ts.length
  ·rw [Aw (by simpa using hi),Ai] at h2
   cases e:ts[i]? with
   | none=>rw [e] at h2; cases h2
   | some z=>rw [e] at h2; cases h2
  ·rw [List.getElem?_append_right (by simpa using hi),Ac,Ai] at h2
   rw [List.getElem?_append_right (by simpa using hi),Ai] at h1
   cases e:fv[i - ts.length]? with
   | none=>rw [e] at h2; cases h2
   | some y =>
    rw [e] at h1 h2;have e1:y.1=x:=by simpa using h1
    have e2:(σ[y.2]?).join=some v:=by simpa using h2
    obtain ⟨f1,f2,f3⟩:=B.fvs.mem y (Av e)
    have e3:σ[y.2]?=some (some v):=by
     cases q:σ[y.2]? with
     | none=>rw [q] at e2; cases e2
     | some z=>rw [q] at e2; exact congrArg some e2
    obtain ⟨m,hm,hl⟩:=I.loc;obtain ⟨u,r,l⟩:=hl y.2 y.1 v f1 e3 (by rcases f3 with z | z; exact .inr (.inl z); exact .inr (.inr z));rw [e1] at f2 f3 l;refine ⟨u,r,?_⟩;obtain ⟨c,hc⟩:=fr x f2;have pq:=uh x c hc
    rcases l with ⟨l1,_⟩ | ⟨_,c2,l2,l3⟩
    ·rcases f3 with z | z
     ·rw [l1] at z; cases z
     ·rw [l1] at z; cases z
    ·rw [pq] at l2
     cases l2;have hv:Vis (relabel scope X.env) x:=h3
     rcases hv with z | z | z
     ·exfalso
      exact Ge f2 z
     ·exact .inr ⟨.inl z,c,hc,l3.keeps hk⟩
     ·exact .inr ⟨.inr z,c,hc,l3.keeps hk⟩
 ·obtain ⟨v,z⟩:=I.cell x c (uh x c e)
  exact ⟨v,z.keeps hk⟩
 ·exact absurd (show p∈([]:List (Addr × Obj)) from hp) (by simp)
 ·show (ts.map (λ_=>(none:Option V)) ++ fv.map λy=>(σ[y.2]?).join).length=(ts ++ fv.map (·.1)).length
  simp
def Inv.apart (I:Inv X i7 σ H s) (hs:Heap.SameBut C s.heap h') (hC:H C=none) (h0:X.s₀.heap.objs.size<=C) (hL:C≠X.env.locals) (hc:∀ x c,X.env.cells.lookup x=some c->c≠C) (hp:∀ p∈X.pn ++ i7,p.1≠C) :
  Inv X i7 σ H { s with heap:=h' } :=
 I.turned (t':=s.toks) (it:=C) (λb o hb e=>(hs.2 b hb).trans e) hC hL (.inr h0) hc hp
def Vo (I:Inv X i7 σ H s) (hf:∀ b∈fp,FpOk X i7 H b) (hC:s.heap.objs.size<=C)
  (J:Inv (Zz X N' scope C s H fp) [] σ' H' s'):Inv X i7 σ H' s'/\H' C=none/\X.s₀.heap.objs.size<=C/\C≠X.env.locals/\(∀ x c,X.env.cells.lookup x=some c->c≠C)/\(∀ p∈X.pn ++ i7,p.1≠C):=by
 refine ⟨I.call' J.os J.base J.hok J.bare λb hb=>?_,J.free,Nat.le_trans I.sz hC,Nat.ne_of_gt (Ah I.lt hC),λx c e z=>?_,λp hp z=>?_⟩
 ·obtain ⟨_,h1,_,h3,h4,h5⟩:=hf b hb
  exact ⟨h3,h1,h4,h5⟩
 ·obtain ⟨v,q⟩:=I.cell x c e
  exact absurd (Ah q.lt (by rw [z]; exact hC)) (Nat.lt_irrefl _)
 ·exact absurd (Ah (Ap (I.pin p hp).1) (by rw [z]; exact hC)) (Nat.lt_irrefl _)
end
abbrev TB:=St->Hp->(St->Hp->Prop)->Prop
def PTs (X:Cx) (ifs:List Expr) (t:TT):Prop :=
 ∀ (i7:List (Addr × Obj)) (s:Shared) (σ:St) (H:Hp) (Q:Bool->Hp->Prop),Inv X i7 σ H s->t σ H Q ->
  wpAny (model X.prog X.w) X.A (forIn ifs true λc r=>if r=true then do let ok <- isTrue c X.env (eval c X.env); pure (ForInStep.yield ok) else pure (ForInStep.yield r)) (TP X i7 σ Q) X.xe s
def tYes:TT:=λ_ H Q=>Q true H
def Y8:PTs X [] tYes:=λi7 s σ H Q I h=>wpAny_tests_nil ⟨H,I,h⟩
def Ff (h:PT X c t):PTs X [c] t:=λi7 s σ H Q I hq=>wpAny_tests_one (h i7 s σ H Q I hq)
def PB (X:Cx) (je:Sem Fin) (c:Code) (t:TB):Prop :=
 ∀ (i7:List (Addr × Obj)) (s:Shared) (σ:St) (H:Hp) (N:St->Hp->Prop),Inv X i7 σ H s->t σ H N ->
  wpAny (model X.prog X.w) X.A je (λji s'=>ji=.again c/\∃ σ' H',Inv X i7 σ' H' s'/\N σ' H') X.xe s
def Wz (J:It) (g:TG) (tt:TT) (tb:TB) (R:St->Hp->Prop) (σ:St) (H:Hp):Prop :=
 ∃ W:Nat->Nat->St->Hp->Prop,(∃ m,W 0 m σ H)/\∀ i m σ H,W i m σ H ->
  (J.stop i H/\R σ H)\/(J.go i H/\∃ N:St->Hp->Prop,(∀ σ' H',N σ' H'->∃ m',m' < m/\W (i + 1) m' σ' H') /\
   ∀ x H',J.yld i H x H'->g x σ H' λσ2 H2=>tt σ2 H2 λb H3=>if b=true then tb σ2 H3 N else N σ2 H3)
section
variable {X:Cx}
theorem U7 {s:Shared} (kr:X.xe=λ_ _=>False)
  (hcq:Code.quiet (.compLoop e d (.ref it) i9 X.env)=true) (ud:(model X.prog X.w).den (.compLoop e d (.ref it) i9 X.env)=(compTurn e d (.ref it) i9 X.env).onRaise (λx=>do noteFrame x X.env; theTreesLotGoes x))
  (tm:X.A.under (.compLoop e d (.ref it) i9 X.env)=X.A)
  (kn:compTurn e d (.ref it) i9 X.env=(standAt p >>= λ_=>pyNext (.ref it) >>= λr=>match r with
   | none=>pure (.done .next)
   | some v=>letOwnedTupleGo tg (.ref it) v >>= λ_=>assign tg X.env v >>= λ_ =>
    (forIn ifs true λc r=>if r=true then do let ok <- isTrue c X.env (eval c X.env); pure (ForInStep.yield ok) else pure (ForInStep.yield r)) >>= λok =>
     if ok=true then je else again (.compLoop e d (.ref it) i9 X.env)))
  (T:Turn X.prog X.w X.K tg J fp it tn) (hc:X.calm=true) (hg:PG X tg g) (ht:PTs X ifs tt) (hb:PB X je (.compLoop e d (.ref it) i9 X.env) tb)
  (hf:∀ b∈fp,FpOk X i7 H b) (I:Inv X i7 σ H s) (st:tn 0 s.heap) (h:Wz J g tt tb R σ H)
  (hR:∀ s' σ' H',Inv X i7 σ' H' s'->R σ' H'->RR (.ok .next) s') :
  codeAny (model X.prog X.w) X.A (.compLoop e d (.ref it) i9 X.env) RR s:=by
 obtain ⟨W,⟨m0,w0⟩,ko⟩:=h;have jz:∀ {H':Hp},(∀ b∈fp,H' b=none)->∀ b∈fp,FpOk X i7 H' b:=λhn b hb=>⟨hn b hb,(hf b hb).2⟩;refine codeAny_loop hcq (λn s'=>∃ i σ' H',Inv X i7 σ' H' s'/\tn i s'.heap/\(∀ b∈fp,H' b=none)/\W i n σ' H') ?_ m0 ⟨0,σ,H,I,st,λb hb=>(hf b hb).1,w0⟩;rintro n s3 ⟨i,σ3,H3,I3,j9,oa,w3⟩;rw [ud,tm];refine wpAny_noted (wpAny_mono (E:=λ_ _=>False) ?_ (λ_ _ q=>q) λ_ _ z=>z.elim);rw [kn];have hxe':∀ {α:Type} {t:Sem α} {Q:α->Shared->Prop} {s:Shared},wpAny (model X.prog X.w) X.A t Q X.xe s->wpAny (model X.prog X.w) X.A t Q (λ_ _=>False) s:=λh=>by rw [kr] at h; exact h
 refine Am (wpAny_standAt (Am ?_))
 rcases ko i n σ3 H3 w3 with ⟨stop,qn⟩ | ⟨go,N,hN,step⟩
 ·refine thn (T.done X rfl rfl rfl hc i i7 s3 σ3 H3 _ I3 (jz oa) j9 stop) λr s4 ⟨hr,I4⟩=>?_
  subst hr;exact wpAny_pure (hR s4 σ3 H3 I4 qn)
 ·refine thn (T.item X rfl rfl rfl hc i i7 s3 σ3 H3 _ I3 (jz oa) j9 go) λr s4 ⟨u,hr,h4⟩=>?_
  subst hr;refine Am (thn h4 λ_ s5 ja=>?_);obtain ⟨x,H5,I5,r5,y5,lm,sj⟩:=ja;have sr:=I5.pinned (jz sj) (T.obj _ _ lm);refine Am (hxe' (thn (hg _ s5 σ3 H5 x u _ sr r5 (step x H5 y5)) λ_ s6 ja=>?_));obtain ⟨σ6,H6,I6,q6⟩:=ja;refine Am (kr ▸ thn (ht _ s6 σ6 H6 _ I6 q6) λok s7 ja=>?_);obtain ⟨H7,I7,q7⟩:=ja;have ow:∀ {σ7:St} {H7:Hp} {s7:Shared},Inv X (i7 ++ Jw fp s5.heap) σ7 H7 s7->N σ7 H7->∃ m,m < n/\∃ i σ' H',Inv X i7 σ' H' s7/\tn i s7.heap/\(∀ b∈fp,H' b=none)/\W i m σ' H':=λ{σ7 H7 s7} I7 n7=>by
   obtain ⟨m',hm,w7⟩:=hN σ7 H7 n7
   refine ⟨m',hm,i + 1,σ7,H7,I7.unpinned,T.keep _ _ _ lm λb hb o e=>(I7.pin (b,o) (List.mem_append_right _ (List.mem_append_right _ (Xp hb e)))).1,λb hb=>?_,w7⟩
   obtain ⟨o,e,d⟩:=T.obj _ _ lm b hb
   exact (I7.pin (b,o) (List.mem_append_right _ (List.mem_append_right _ (Xp hb e)))).2.1
  cases ok with
  | false=>exact kr ▸ wpAny_pure ⟨Z,ow I7 q7⟩
  | true =>
   refine thn (hb _ s7 σ6 H7 N I7 q7) λji s8 ja=>?_;obtain ⟨t8,σ8,H8,I8,q8⟩:=ja;subst t8;exact ⟨Z,ow I8 q8⟩
end
def Zky (te:TE) (D:Addr):TB:=λσ H N=>te σ H λv H1=>∃ xs,H1 D=some (.lst xs)/\xs.length < sizeLine/\N σ (upd H1 D (.lst (xs ++ [v])))
section
variable {X:Cx}
def Xt (he:PE X jl te) :
  PB X ((eval jl X.env >>= λx=>call (.builtin "list.append") [.ref D,x] >>= λ_=>pure ()) >>= λ_=>again c) c (Zky te D):=by
 intro i7 s σ H N I h;refine Am (Am (thn (he i7 s σ H _ I h) λu s1 ja=>?_));obtain ⟨v,H1,I1,r1,q1⟩:=ja;obtain ⟨xs,hD,hl,q⟩:=q1;refine Am (thn (Xq i7 s1 σ H1 (.ref D) [v] (.ref D) [u] (λ_ H2=>N σ H2) I1 Z (.cons r1 .nil) ⟨D,xs,v,Z,Z,hD,hl,q⟩) λ_ s2 ja=>?_);obtain ⟨_,H2,I2,_,q2⟩:=ja;exact wpAny_pure (wpAny_pure ⟨Z,σ,H2,I2,q2⟩)
def tGen (wi:TI) (g:TG) (tt:TT) (tb:TB):TB:=λσ H N=>wi σ H λJ H1=>Wz J g tt tb N σ H1
def Zgr {t0 i0:Expr} {f0:List Expr} {t1 i1:Expr} {f1:List Expr}
  (h0:codeAny (model prog w) A (.compLoop (.ListComp jl [⟨t0,i0,f0,0⟩,⟨t1,i1,f1,0⟩] scope pos) 1 it i9 env) R s)
  (h:wpAny (model prog w) A (pyIter it) (λyq s'=>codeAny (model prog w) A (.compLoop (.ListComp jl [⟨t0,i0,f0,0⟩,⟨t1,i1,f1,0⟩] scope pos) 1 yq i9 env) R s')
   (notedBy (model prog w) A env λx s'=>R (.error x) s') s) :
  codeAny (model prog w) A (.compStart (.ListComp jl [⟨t0,i0,f0,0⟩,⟨t1,i1,f1,0⟩] scope pos) 1 it i9 env) R s:=by
 refine codeAny_of_tree ?_;show wpAny _ _ ((compStart (.ListComp jl [⟨t0,i0,f0,0⟩,⟨t1,i1,f1,0⟩] scope pos) 1 it i9 env).onRaise (λx=>do noteFrame x env; standAt theWindowsPlace)) _ _ s;refine wpAny_notedAt ?_;unfold compStart;show wpAny _ _ (ask >>= _) _ _ s;refine Am (wpAny_askSetting (wpAny_ite ?_));split
 ·first
   | exact Am (wpAny_pure (wpAny_pure (And.intro Z h0)))
   | exact wpAny_pure (And.intro Z h0)
 ·first
   | exact Am (wpAny_rule (Am (wpAny_standAt (Am (wpAny_mono h (λyq s' h'=>wpAny_pure (And.intro Z h')) λ_ _ x=>x)))))
   | (refine Am (wpAny_rule ?_); show wpAny _ _ (standAt i1.pos >>= _) _ _ s; exact Am (wpAny_standAt (Am (wpAny_mono h (λyq s' h'=>wpAny_pure (And.intro Z h')) λ_ _ x=>x))))
def Znh {t0 i0 i1:Expr} {f0:List Expr} (kr:X.xe=λ_ _=>False) (hc:X.calm=true)
  (hi:PI X t1 i1 wi) (hg:PG X t1 g) (ht:PTs X f1 tt) (he:PE X jl te) (hs:∀ x,foldedSetIterable i1 X.env x=pure x:=by intro _; rfl) :
  PB X (eval i1 X.env >>= λx=>standAt i1.pos >>= λ_=>foldedSetIterable i1 X.env x >>= λx=>holding [x] (pyIter x) >>= λit =>
   runOwn (.compStart (.ListComp jl [⟨t0,i0,f0,0⟩,⟨t1,i1,f1,0⟩] scope pos) 1 it (.ref D) X.env) X.env >>= λ_=>again c) c (tGen wi g tt (Zky te D)):=by
 intro i7 s σ H N I h;refine Am (thn (hi i7 s σ H _ I h) λv s1 h1=>Am (wpAny_standAt ?_));rw [hs];refine Am (wpAny_pure (Am (wpAny_holding (thn h1 λqk s2 h2=>?_))));obtain ⟨it,fp,tn,J,H2,e,I2,T,j',f2,L⟩:=h2;subst e;have loop:∀ (A:Around),A=X.A->codeAny (model X.prog X.w) A (.compLoop (.ListComp jl [⟨t0,i0,f0,0⟩,⟨t1,i1,f1,0⟩] scope pos) 1 (.ref it) (.ref D) X.env)
   (λr s'=>match r with | .ok f=>wpAny (model X.prog X.w) X.A (again c) (λji s'=>ji=.again c/\∃ σ' H',Inv X i7 σ' H' s'/\N σ' H') X.xe s' | .error e=>cameBackBy (model X.prog X.w) X.A X.env X.xe e s') s2:=by
  rintro A rfl
  exact U7 (tg:=t1) (ifs:=f1) (R:=N) kr Z Z Z Z T hc hg ht (Xt (c:=.compLoop (.ListComp jl [⟨t0,i0,f0,0⟩,⟨t1,i1,f1,0⟩] scope pos) 1 (.ref it) (.ref D) X.env) he) f2 I2 j' L λs' σ' H' I' q=>wpAny_pure ⟨Z,σ',H',I',q⟩
 refine Am (wpAny_runOwn (h:=none) ?_);exact Zgr (loop _ Z) (T.self _ _ _ _ _ j' (loop _ Z))
end
def Zfp (ts:List Str) (fv:List (Str × Nat)) (wi:TI) (g:TG) (tt:TT) (tb:Addr->TB):TE:=λσ H Q=>wi σ H λJ H1=>∀ D,H1 D=none ->
 Wz J g tt (tb D) (λ_ H'=>Q (.ref D) H') (blkS ts fv σ) (upd H1 D (.lst []))
section
variable {X:Cx} {ts:List Str} {fv:List (Str × Nat)} {scope:Scope} {jl t0 i0:Expr} {f0:List Expr} {rest:List Comprehension} {pos:Pos} {wi:TI} {g:TG} {tt:TT} {tb:Addr->TB} {je:Env->Addr->Addr->Sem Fin}
theorem Zap (B:BlkOk X scope fv) (hc:X.calm=true) (hi:PI X t0 i0 wi)
  (hg:∀ C s₀ H₀ ex,PG (Zz X (blkN ts fv) scope C s₀ H₀ ex) t0 g) (ht:∀ C s₀ H₀ ex,PTs (Zz X (blkN ts fv) scope C s₀ H₀ ex) f0 tt)
  (kn:∀ (env:Env) (it D:Addr),compTurn (.ListComp jl (⟨t0,i0,f0,0⟩ :: rest) scope pos) 0 (.ref it) (.ref D) env=(standAt i0.pos >>= λ_=>pyNext (.ref it) >>= λr=>match r with
   | none=>pure (.done .next)
   | some v=>letOwnedTupleGo t0 (.ref it) v >>= λ_=>assign t0 env v >>= λ_ =>
    (forIn f0 true λc r=>if r=true then do let ok <- isTrue c env (eval c env); pure (ForInStep.yield ok) else pure (ForInStep.yield r)) >>= λok =>
     if ok=true then je env it D else again (.compLoop (.ListComp jl (⟨t0,i0,f0,0⟩ :: rest) scope pos) 0 (.ref it) (.ref D) env)))
  (hb:∀ C s₀ H₀ ex it D,PB (Zz X (blkN ts fv) scope C s₀ H₀ ex) (je (Zz X (blkN ts fv) scope C s₀ H₀ ex).env it D) (.compLoop (.ListComp jl (⟨t0,i0,f0,0⟩ :: rest) scope pos) 0 (.ref it) (.ref D) (Zz X (blkN ts fv) scope C s₀ H₀ ex).env) (tb D)) {RR:Value->Addr->Result->Shared->Prop} (I:Inv X i7 σ H s) (h:Zfp ts fv wi g tt tb σ H Q)
  (hRR:∀ D C s' H',Inv X i7 σ H' s'->H' C=none->X.s₀.heap.objs.size<=C->C≠X.env.locals->(∀ x c,X.env.cells.lookup x=some c->c≠C)->(∀ p∈X.pn ++ i7,p.1≠C)->(∃ m,s'.heap.Ns C m)->Q (.ref D) H'->RR (.ref D) C (.ok .next) s') :
  wpAny (model X.prog X.w) X.A (eval i0 X.env) (λx s₁=>wpAny (model X.prog X.w) X.A (pyIter x) (λit s₂=>wpAny (model X.prog X.w) X.A (newList []) (λi9 s₃ =>
   wpAny (model X.prog X.w) X.A (newFunctionEnv scope X.env.globals (Yx X.env scope.names []) [] X.env.qual none .none (some X.env)) (λkq s₄ =>
    codeAny (model X.prog X.w) X.A (.compStart (.ListComp jl (⟨t0,i0,f0,0⟩ :: rest) scope pos) 0 it i9 { kq with scope:=relabel scope X.env }) (RR i9 kq.locals) s₄) X.xe s₃) X.xe s₂) X.xe s₁) X.xe s:=by
 refine thn (hi i7 s σ H _ I h) λv s1 h1=>thn h1 λqk s2 h2=>?_;obtain ⟨it,fp,tn,J,H2,e,I2,T,j',f2,L⟩:=h2;subst e;have L:=L s2.heap.objs.size I2.fresh;refine wpAny_newObj_type ?_;have I3:Inv X i7 σ (upd H2 s2.heap.objs.size (.lst [])) { s2 with heap:=s2.heap.push { cls:=.type "list",data:=.seq ([]:List Value).toArray },toks:=s2.toks }:=I2.lnew (its:=[]) (t':=s2.toks) .nil (A0 _);have n8:∀ b∈fp,∃ o,s2.heap.get? b=some o/\∀ v,o.data≠.cell v:=T.obj _ _ j';have f3:∀ b∈fp,FpOk X i7 (upd H2 s2.heap.objs.size (.lst [])) b:=λb hb=>by
  obtain ⟨o,ho,_⟩:=n8 b hb
  refine ⟨?_,(f2 b hb).2⟩
  rw [Zh (At (Ap ho))]
  exact (f2 b hb).1
 have j9:tn 0 (s2.heap.push { cls:=.type "list",data:=.seq ([]:List Value).toArray }):=T.keep _ _ _ j' λb _ o e=>Al _ e;have ly:∀ b∈fp,∃ o,(s2.heap.push { cls:=.type "list",data:=.seq ([]:List Value).toArray }).get? b=some o:=λb hb=>let ⟨o,e,_⟩:=n8 b hb; ⟨o,Al _ e⟩
 generalize hs3:({ s2 with heap:=s2.heap.push { cls:=.type "list",data:=.seq ([]:List Value).toArray },toks:=s2.toks }:Shared)=s3 at I3;have eh:s2.heap.push { cls:=.type "list",data:=.seq ([]:List Value).toArray }=s3.heap:=by rw [<- hs3]
 rw [eh] at j9 ly;refine wpAny_newFunctionEnv B.nocell (by intro y hy; simp at hy) (λh₁ nj lq=>?_) B.kind;have hk:∀ b o,s3.heap.get? b=some o->h₁.get? b=some o:=λb o e=>lq.extBut b o (At (Ap e)) (Al _ e);have I4:=Va (ts:=ts) (tk:=s3.toks + ([]:List (Str × Value)).length) B I3 f3 ly nj hk;have f4:∀ b∈fp,FpOk (Zz X (blkN ts fv) scope s3.heap.objs.size s3 (upd H2 s2.heap.objs.size (.lst [])) fp) [] (upd H2 s2.heap.objs.size (.lst [])) b:=λb hb=>by
  obtain ⟨f0,f1,f2',f3',f4',f5'⟩:=f3 b hb
  obtain ⟨o,eo⟩:=ly b hb
  exact ⟨f0,At (Ap eo),I4.ok.exfs b hb,.inl hb,(I4.ok.exf b hb).2,λp hp=>absurd (show p∈([]:List (Addr × Obj)) from hp) (by simp)⟩
 have nq:tn 0 h₁:=T.keep _ _ _ j9 λb _ o e=>hk b o e;have loop:codeAny (model X.prog X.w) X.A (.compLoop (.ListComp jl (⟨t0,i0,f0,0⟩ :: rest) scope pos) 0 (.ref it) (.ref s2.heap.objs.size) (Zz X (blkN ts fv) scope s3.heap.objs.size s3 (upd H2 s2.heap.objs.size (.lst [])) fp).env)
   (RR (.ref s2.heap.objs.size) s3.heap.objs.size) { s3 with heap:=h₁,toks:=s3.toks + ([]:List (Str × Value)).length }:=by
  refine U7 (X:=Zz X (blkN ts fv) scope s3.heap.objs.size s3 (upd H2 s2.heap.objs.size (.lst [])) fp) (tg:=t0) (ifs:=f0) (R:=λ_ H'=>Q (.ref s2.heap.objs.size) H') Z Z Z Z (kn _ it s2.heap.objs.size) T hc (hg _ _ _ _) (ht _ _ _ _) (hb _ _ _ _ it s2.heap.objs.size) f4 I4 nq L λs' σ' H' J' q=>?_
  obtain ⟨e1,e2,e3,e4,e5,e6⟩:=Vo I3 f3 (Ao _) J'
  obtain ⟨m,hm,_⟩:=J'.loc
  exact hRR _ _ s' H' e1 e2 e3 e4 e5 e6 ⟨m,hm⟩ q
 exact codeAny_compStart_list loop (T.self _ _ _ _ _ nq loop)
theorem Wg (B:BlkOk X scope fv) (hc:X.calm=true) (hi:PI X t0 i0 wi)
  (hg:∀ C s₀ H₀ ex,PG (Zz X (blkN ts fv) scope C s₀ H₀ ex) t0 g) (ht:∀ C s₀ H₀ ex,PTs (Zz X (blkN ts fv) scope C s₀ H₀ ex) f0 tt)
  (kn:∀ (env:Env) (it D:Addr),compTurn (.ListComp jl (⟨t0,i0,f0,0⟩ :: rest) scope pos) 0 (.ref it) (.ref D) env=(standAt i0.pos >>= λ_=>pyNext (.ref it) >>= λr=>match r with
   | none=>pure (.done .next)
   | some v=>letOwnedTupleGo t0 (.ref it) v >>= λ_=>assign t0 env v >>= λ_ =>
    (forIn f0 true λc r=>if r=true then do let ok <- isTrue c env (eval c env); pure (ForInStep.yield ok) else pure (ForInStep.yield r)) >>= λok =>
     if ok=true then je env it D else again (.compLoop (.ListComp jl (⟨t0,i0,f0,0⟩ :: rest) scope pos) 0 (.ref it) (.ref D) env)))
  (hb:∀ C s₀ H₀ ex it D,PB (Zz X (blkN ts fv) scope C s₀ H₀ ex) (je (Zz X (blkN ts fv) scope C s₀ H₀ ex).env it D) (.compLoop (.ListComp jl (⟨t0,i0,f0,0⟩ :: rest) scope pos) 0 (.ref it) (.ref D) (Zz X (blkN ts fv) scope C s₀ H₀ ex).env) (tb D))
  (hs:∀ x,foldedSetIterable i0 X.env x=pure x:=by intro _; rfl) :
  PE X (.ListComp jl (⟨t0,i0,f0,0⟩ :: rest) scope pos) (Zfp ts fv wi g tt tb):=by
 intro i7 s σ H Q I h;rw [eval_ListComp];refine wpAny_comprehension_free (use:=none) Z hs (Ww λy hy e=>I.ok.has y.1 (B.free y hy e)) B.kind B.names ?_;refine Zap (RR:=λi9 C=>compPost (model X.prog X.w) X.A X.xe none (EP X i7 σ Q) i9 C) B hc hi hg ht kn hb I h λD C s' H' I' e2 e3 e4 e5 e6 hm q=>?_;obtain ⟨m,hm⟩:=hm;exact ⟨m,hm,λh' m7=>⟨.ref D,H',I'.apart m7 e2 e3 e4 e5 e6,Z,q⟩⟩
theorem Jm {oh:Pos} (B:BlkOk X scope fv) (hc:X.calm=true) (hN:X.N.Nodup) (zw:X.N[i]?=some y) (vc:X.env.scope.names.lookup y=some .local)
  (y0:swapsWith (.ListComp jl (⟨t0,i0,f0,0⟩ :: rest) scope pos) (some (.Name y py)) oh.line X.env=pure true) (hi:PI X t0 i0 wi)
  (hg:∀ C s₀ H₀ ex,PG (Zz X (blkN ts fv) scope C s₀ H₀ ex) t0 g) (ht:∀ C s₀ H₀ ex,PTs (Zz X (blkN ts fv) scope C s₀ H₀ ex) f0 tt)
  (kn:∀ (env:Env) (it D:Addr),compTurn (.ListComp jl (⟨t0,i0,f0,0⟩ :: rest) scope pos) 0 (.ref it) (.ref D) env=(standAt i0.pos >>= λ_=>pyNext (.ref it) >>= λr=>match r with
   | none=>pure (.done .next)
   | some v=>letOwnedTupleGo t0 (.ref it) v >>= λ_=>assign t0 env v >>= λ_ =>
    (forIn f0 true λc r=>if r=true then do let ok <- isTrue c env (eval c env); pure (ForInStep.yield ok) else pure (ForInStep.yield r)) >>= λok =>
     if ok=true then je env it D else again (.compLoop (.ListComp jl (⟨t0,i0,f0,0⟩ :: rest) scope pos) 0 (.ref it) (.ref D) env)))
  (hb:∀ C s₀ H₀ ex it D,PB (Zz X (blkN ts fv) scope C s₀ H₀ ex) (je (Zz X (blkN ts fv) scope C s₀ H₀ ex).env it D) (.compLoop (.ListComp jl (⟨t0,i0,f0,0⟩ :: rest) scope pos) 0 (.ref it) (.ref D) (Zz X (blkN ts fv) scope C s₀ H₀ ex).env) (tb D))
  (hs:∀ x,foldedSetIterable i0 X.env x=pure x:=by intro _; rfl) :
  PS X (.Assign [.Name y py] (.ListComp jl (⟨t0,i0,f0,0⟩ :: rest) scope pos) oh) (tAsg (Zfp ts fv wi g tt tb) (Z2 i)):=by
 intro i7 s σ H D0 I h;rw [exec_Assign_Name_used _ _ _ _ y0];refine Am (wpAny_standAt (Am ?_));show wpAny _ X.A (do let _ <- comprehension (.ListComp jl (⟨t0,i0,f0,0⟩ :: rest) scope pos) scope X.env _ (newList []) false (eval i0 X.env) (some (assign (.Name y py) X.env))) _ _ s;refine Am (wpAny_mono (wpAny_comprehension_free (use:=some (assign (.Name y py) X.env)) (Q:=λ_ s'=>SP X i7 D0 .next s') Z hs (Ww λy hy e=>I.ok.has y.1 (B.free y hy e)) B.kind B.names ?_) (λ_ s' hq=>wpAny_pure (wpAny_pure hq)) λ_ _ e=>e);refine Zap (Q:=λx H1=>Z2 i x σ H1 D0.nx) (RR:=λi9 C=>compPost (model X.prog X.w) X.A X.xe (some (assign (.Name y py) X.env)) (λ_ s'=>SP X i7 D0 .next s') i9 C) B hc hi hg ht kn hb I h λD C s' H' I' e2 e3 e4 e5 e6 hm q=>?_;obtain ⟨m,hm⟩:=hm;show wpAny _ X.A (assign (.Name y py) X.env (.ref D)) _ _ _;refine wpAny_assign_Name (Uh I' hN zw (.inl vc) (show RelV (.ref D) (.ref D) from Z) (λku I'' lw=>?_) (.inr vc));obtain ⟨a,lq,ha⟩:=lw;have haC:C≠a:=by
  rcases ha with e | e
  ·rw [e]; exact e4
  ·exact λz=>e5 y a e z.symm
 exact ⟨m,hm.sameBut lq haC,λh' m7=>⟨_,H',I''.apart m7 e2 e3 e4 e5 e6,q⟩⟩
end
def FlyT (e T:Addr) (cls a0:Value) (h:Heap):Prop :=
 ∃ oe vs oT ts,h.get? e=some oe/\(oe.cls=cls/\vs[0]?=some a0)/\oe.data=.fields vs/\vs[1]?=some (.ref T)/\T≠e/\h.get? T=some oT/\oT.data=.fields ts/\ts[3]?=some .none
def CXr (P:Program) (w:World):CXT:=λouter H s E ev s' =>
 ∃ (e T:Addr) (cls a0:Value) (H':Hp),ev=.ref e/\s'.os=s.os/\AllBare s'.gens/\Un (frs outer) [] H H' s.heap s'.heap/\HOk P w H' s'.heap /\
  s.heap.get? e=none/\s.heap.get? T=none/\H' e=none/\H' T=none/\FlyT e T cls a0 s'.heap/\E cls none H'
def Yr {X:Cx}:Qx (CXr X.prog X.w) X E0:=λ_ _ _ _ _ _ _ h=>by
 obtain ⟨_,_,_,_,_,_,_,_,_,_,_,_,_,_,_,z⟩:=h;exact z.elim
def Zml (h:CXr P w [] H s (λ_ _ _=>False) e s'):False:=by
 obtain ⟨_,_,_,_,_,_,_,_,_,_,_,_,_,_,_,z⟩:=h;exact z
section
variable {P:Program} {w:World} {K:W.Frag} {mg:Str->Option Value} {base:Heap}
def Fun.okR {x qual:Str} {st:Stmt} {f:Addr} {fd:FuncData} {N ps:List Str} {k:Nat} {sp:Sp} (F:Fun K x qual st f fd) (S:FnScope N ps (Zg st)) (len:∀ vs H Q E,sp vs H Q E->vs.length=ps.length)
  (jt:∀ (jc:Value) (A:Around) (outer:List Env) (s:Shared) (H:Hp) (vs:List V) (Q:VK) (E:XK),Room k (A.deeper (envOfC qual (Zg st) s.heap.objs.size f jc))->sp vs H Q E ->
   ∃ t,PSs (cxOf (CXr P w) P w K mg base N qual (Zg st) f jc A outer s H E).nox (Yt st) t/\t { nx:=λ_ H'=>Q .non H',rt:=Q } (start N vs) H):FnOk P w K mg base (CXr P w) (k + 1) f fd ps sp:=by
 obtain ⟨oc,od,kV,jm,pm,an,jc,ct,pd,rfl,lk,k6⟩:=F.ex;refine Zgn lk k6 S len λA outer s H vs Q E hr j7=>?_;obtain ⟨t,h,q⟩:=jt jc A outer s H vs Q E hr j7;exact ⟨t,h.nox,q⟩
end
section
variable {X:Cx}
def Zeu:X3 X (.builtin "isinstance") (λxs H Q=>∃ x T t b,xs=[x,.ty T]/\TyOf X.K H x t/\PySem.W.kitOne X.K t (.type T)=some b/\Q (.bl b) H):=by
 intro i7 s σ H xs us Q I r h;obtain ⟨x,T,t,b,rfl,yw,hk,q⟩:=h;obtain ⟨u,v,rfl,ru,rv⟩:=r.two;obtain rfl:v=Value.type T:=rv;exact Zii I ru yw hk λtk=>⟨.bl b,H,I.tok _,Z,q⟩
def Zkc {K:W.Frag} {T:String}:PySem.W.kitOne K (.type T) (.type T)=some true:=by
 unfold PySem.W.kitOne;rw [if_pos (by simp)]
def Yy {X:Cx} {scope:Scope} (h:scope.names.all (λy=>y.2 != .free || X.env.kindOf y.1 == some .cell || X.env.kindOf y.1 == some .free)=true) :
  ∀ y∈scope.names,y.2=.free->X.env.kindOf y.1=some .cell\/X.env.kindOf y.1=some .free:=λy hy e=>by
 have:=List.all_eq_true.mp h y hy;simp [e] at this;exact this
end
def walk_r {l:PySem.W.OpenLaw} {k:Nat} {q:Program} {mj:List Str} {XP:(Str->Option Value)->Heap->Prop} {YP:World->Heap->Prop} {d:DefRec} {K:Params->PySem.W.Frag} {spl:PySem.W.Frag->Sp}
  (hn:l.most=some 63) (vi:d.params.defaults=[]) (hr:Room k callerA) (hY:∀ (w:World) (h:Heap),YP w h->(K w.params).In h)
  (j7:∀ (K:W.Frag) (H:Hp) (a:Addr) (ns:List Int),ns.length<=63->SqL K H a (ns.map V.int)->spl K [.ref a] H (λv _=>v=.bl true) λ_ _ _=>False)
  (F:∀ (w:World) (mg:Str->Option Value) (fa:Addr) (h:Heap),(K w.params).In h->h.Ns mainGlobals mg->mg d.name=some (.ref fa) ->
   ∃ fd:FuncData,(∀ (s:Shared) (u:Value),BindsTo s fd ⟨[u],[]⟩ [("_law_script",u)]) /\
    ∀ base:Heap,(K w.params).In base->base.Ns mainGlobals mg->FnOk l.prog w (K w.params) mg base (CXr l.prog w) k fa fd ["_law_script"] (spl (K w.params))) :
  PySem.W.WalkO q mj XP YP l.row.toRowW d [] (λf vs=>PySem.call f vs) :=
 Zla (n:=63) (k:=k) (x:="_law_script") (CX:=λw=>CXr l.prog w) (sp:=λw=>spl (K w.params)) hn (by decide) vi hr hY F (λw H a ns hl _ hS=>j7 _ H a ns hl hS) (λw H s e s' h=>Zml h)
def ExT (e:Addr) (T:Option Addr) (cls a0:Value) (h:Heap):Prop:=match T with
 | some T=>FlyT e T cls a0 h
 | none=>∃ oe vs,h.get? e=some oe/\(oe.cls=cls/\vs[0]?=some a0)/\oe.data=.fields vs/\vs[1]?=some .none
structure FxOk (X:Cx) (i7:List (Addr × Obj)) (H:Hp) (b:Addr):Prop where
 nt:H b=none
 nl:b≠X.env.locals
 nf:b ∉ X.fs
 n0:X.s₀.heap.get? b=none
 nc:∀ x c,X.env.cells.lookup x=some c->c≠b
 np:∀ p∈X.pn ++ i7,p.1≠b
def XS (fr:Bool) (X:Cx) (i7:List (Addr × Obj)) (R:Value->St->Hp->Prop) (ev:Value) (s':Shared):Prop :=
 ∃ (e:Addr) (T:Option Addr) (cls a0:Value) (σ':St) (H':Hp),ev=.ref e/\Inv X i7 σ' H' s'/\ExT e T cls a0 s'.heap/\FxOk X i7 H' e/\(∀ t,T=some t->FxOk X i7 H' t)/\(T=none->fr=true)/\R cls σ' H'
abbrev TSX:=Ends->(Value->St->Hp->Prop)->St->Hp->Prop
abbrev TEX:=St->Hp->VK->XK->Prop
def PSX (fr:Bool) (X:Cx) (st:Stmt) (t:TSX):Prop :=
 ∀ (i7:List (Addr × Obj)) (s:Shared) (σ:St) (H:Hp) (D:Ends) (R:Value->St->Hp->Prop),Inv X i7 σ H s->t D R σ H->wpAny (model X.prog X.w) X.A (exec st X.env) (SP X i7 D) (XS fr X i7 R) s
def PSsX (fr:Bool) (X:Cx) (st:List Stmt) (t:TSX):Prop :=
 ∀ (i7:List (Addr × Obj)) (s:Shared) (σ:St) (H:Hp) (D:Ends) (R:Value->St->Hp->Prop),Inv X i7 σ H s->t D R σ H->wpAny (model X.prog X.w) X.A (execs st X.env) (SP X i7 D) (XS fr X i7 R) s
def PEX (fr:Bool) (X:Cx) (e:Expr) (t:TEX):Prop :=
 ∀ (i7:List (Addr × Obj)) (s:Shared) (σ:St) (H:Hp) (Q:VK) (E:XK),Inv X i7 σ H s->t σ H Q E->wpAny (model X.prog X.w) X.A (eval e X.env) (EP X i7 σ Q) (XS fr X i7 λcls σ' H'=>σ'=σ/\E cls none H') s
section
variable {X:Cx} {fr:Bool}
def Z7 {st:Stmt} {t:TS} (h:PS X st t) (hx:X.xe=(λ_ _=>False):=by rfl):PSX fr X st (λD _ σ H=>t D σ H):=λi7 s σ H D R I q=>by
 have:=h i7 s σ H D I q;rw [hx] at this;exact wpAny_mono this (λ_ _ z=>z) λ_ _ z=>z.elim
def Zlx {st:List Stmt} {t:TS} (h:PSs X st t) (hx:X.xe=(λ_ _=>False):=by rfl):PSsX fr X st (λD _ σ H=>t D σ H):=λi7 s σ H D R I q=>by
 have:=h i7 s σ H D I q;rw [hx] at this;exact wpAny_mono this (λ_ _ z=>z) λ_ _ z=>z.elim
def Zcx {e:Expr} {t:TE} (h:PE X e t) (hx:X.xe=(λ_ _=>False):=by rfl):PEX fr X e (λσ H Q _=>t σ H Q):=λi7 s σ H Q E I q=>by
 have:=h i7 s σ H Q I q;rw [hx] at this;exact wpAny_mono this (λ_ _ z=>z) λ_ _ z=>z.elim
def Zkw (t u:TSX):TSX:=λD R σ H=>t { D with nx:=u D R } R σ H
def Yk {st:Stmt} {rest:List Stmt} {t u:TSX} (h1:PSX fr X st t) (h2:PSsX fr X rest u):PSsX fr X (st :: rest) (Zkw t u):=by
 intro i7 s σ H D R I h;refine wpAny_execs_cons (thn (h1 i7 s σ H { D with nx:=u D R } R I h) λf s1 q=>?_)
 cases f with
 | next =>
  obtain ⟨σ',H',I',q⟩:=q;exact h2 i7 s1 σ' H' D R I' q
 | ret v=>exact q
 | brk=>exact q
 | cont=>exact q
def Yd {st:Stmt} {t:TSX} (h1:PSX fr X st t):PSsX fr X [st] t:=by
 intro i7 s σ H D R I h;refine wpAny_execs_cons (thn (h1 i7 s σ H D R I h) λf s1 q=>?_)
 cases f with
 | next=>exact wpAny_execs_nil q
 | ret v=>exact q
 | brk=>exact q
 | cont=>exact q
def Je:PSsX fr X [] (λD _ σ H=>D.nx σ H):=λ_ _ σ H _ _ I h=>wpAny_execs_nil ⟨σ,H,I,h⟩
def tIfX (c:TT) (t u:TSX):TSX:=λD R σ H=>c σ H λb H1=>if b=true then t D R σ H1 else u D R σ H1
def Jv (hc:PT X c tc) (ha:PSsX fr X a t) (hb:PSsX fr X b u) (hx:X.xe=(λ_ _=>False):=by rfl):PSX fr X (.If c a b pos) (tIfX tc t u):=by
 intro i7 s σ H D R I h;have h0:=hc i7 s σ H _ I h;rw [hx] at h0;refine wpAny_If (wpAny_mono h0 (λd s1 zz28=>?_) λ_ _ z=>z.elim);obtain ⟨H1,I1,q1⟩:=zz28
 cases d with
 | true=>exact ha i7 s1 σ H1 D R I1 q1
 | false=>exact hb i7 s1 σ H1 D R I1 q1
def Zm1 (te:TEX):TSX:=λD R σ H=>te σ H (λ_ H1=>D.nx σ H1) λcls _ H1=>R cls σ H1
def Yb {pos:Pos} (he:PEX fr X e te) (hs:swapsWith e none pos.line X.env=pure false:=by rfl):PSX fr X (.Expr e pos) (Zm1 te):=by
 intro i7 s σ H D R I h;refine wpAny_Expr_any (wpAny_mono (he i7 s σ H _ _ I h) (λv s1 ⟨x,H1,I1,r1,q1⟩=>⟨σ,H1,I1,q1⟩) ?_) I.quiet hs;rintro ev s1 ⟨e,T,cls,a0,σ',H',h1,h2,h3,h4,h5,h7,rfl,h6⟩;exact ⟨e,T,cls,a0,σ',H',h1,h2,h3,h4,h5,h7,h6⟩
def Zoc (te:TEX):TSX:=λD R σ H=>te σ H D.rt λcls _ H1=>R cls σ H1
def Zlv {e:Expr} {te:TEX} {pos:Pos} (he:PEX fr X e te):PSX fr X (.Return (some e) pos) (Zoc te):=by
 intro i7 s σ H D R I h;refine wpAny_Return_some (wpAny_mono (he i7 s σ H _ _ I h) (λv s1 ⟨x,H1,I1,r1,q1⟩=>⟨x,σ,H1,I1,r1,q1⟩) ?_);rintro ev s1 ⟨e,T,cls,a0,σ',H',h1,h2,h3,h4,h5,h7,rfl,h6⟩;exact ⟨e,T,cls,a0,σ',H',h1,h2,h3,h4,h5,h7,h6⟩
def Zob (i:Nat) (te:TEX):TSX:=λD R σ H=>te σ H (λx H1=>D.nx (σ.set i (some x)) H1) λcls _ H1=>R cls σ H1
def Zlu {pos:Pos} (hN:X.N.Nodup) (hi:X.N[i]?=some x) (hx:Loc X.env.scope x) (he:PEX fr X e te) (hs:swapsWith e (some (.Name x j8)) pos.line X.env=pure false:=by rfl)
  (hf:X.fn x=true\/X.env.scope.names.lookup x=some .local:=by first | exact .inl rfl | exact .inr rfl | assumption):PSX fr X (.Assign [.Name x j8] e pos) (Zob i te):=by
 intro i7 s σ H D R I h;refine wpAny_Assign_Name (wpAny_mono (he i7 s σ H _ _ I h) (λv s1 ⟨y,H1,I1,r1,q1⟩=>?_) ?_) hs
 ·exact Jb I1 hN hi hx r1 (λs2 I2=>⟨_,H1,I2,q1⟩) hf
 ·rintro ev s1 ⟨e,T,cls,a0,σ',H',h1,h2,h3,h4,h5,h7,rfl,h6⟩
  exact ⟨e,T,cls,a0,σ',H',h1,h2,h3,h4,h5,h7,h6⟩
def Inv.cxr (I:Inv X i7 σ H s) (hex:X.ex=[]) (h:CXr X.prog X.w X.stack H s E ev s'):XS fr X i7 (λcls σ' H'=>σ'=σ/\E cls none H') ev s':=by
 obtain ⟨e,T,cls,a0,H',rfl,os,bare,un,hok,ne,nT,he,hT,fl,q⟩:=h;have I':Inv X i7 σ H' s':=I.call' os un hok bare λb hb=>absurd hb (by simp)
 have fx:∀ b,s.heap.get? b=none->H' b=none->FxOk X i7 H' b:=λb hb hn=>by
  refine ⟨hn,λz=>?_,λz=>?_,?_,λx c e z=>?_,λp hp z=>?_⟩
  ·obtain ⟨m,⟨o,_,_,ho,_⟩,_⟩:=I.loc
   rw [z,ho] at hb; cases hb
  ·obtain ⟨_,o,ho,_⟩:=I.funs.mem z
   rw [ho] at hb; cases hb
  ·cases q:X.s₀.heap.get? b with
   | none=>rfl
   | some o =>
    obtain ⟨o',e'⟩:=I.base.there b o q (by rw [hex]; simp);rw [hb] at e'; cases e'
  ·obtain ⟨v,o,ho,_⟩:=I.cell x c e
   rw [z,hb] at ho; cases ho
  ·have:=(I.pin p hp).1
   rw [z,hb] at this; cases this
 exact ⟨e,some T,cls,a0,σ,H',rfl,I',fl,fx e ne he,λt ht=>by cases ht; exact fx T nT hT,(λz=>nomatch z),Z,q⟩
variable {k:Nat} {f C:Addr} {fd:FuncData} {ps:List Str} {sp:Sp} {jn:List V} {ds:List Value} {x m:Str} {p pos jg:Pos} {e o:Expr} {es:List Expr} {ta:TE} {t:TA}
def Oc (F:FnOk X.prog X.w X.K X.mg X.base (CXr X.prog X.w) k f fd ps sp) (hr:Room k X.A) (hb:X4 X.K fd ps ds) (hd:Vals jn ds) (hex:X.ex=[])
  (I:Inv X i7 σ H s) (r:Vals vs us) (h:sp (vs ++ jn) H Q E):wpAny (model X.prog X.w) X.A (call (.ref f) us) (EP X i7 σ Q) (XS fr X i7 λcls σ' H'=>σ'=σ/\E cls none H') s:=by
 have r2:Vals (vs ++ jn) (us ++ ds):=r.append hd;have hl:(us ++ ds).length=ps.length:=by rw [<- r2.length]; exact F.len _ _ _ _ h
 refine wpAny_call (codeAny_mono (F.run X.A X.stack s H ⟨us,[]⟩ (us ++ ds) (vs ++ jn) Q E hr I.env0 (hb s us I.kIn hl) r2 h) λr s' hq=>?_)
 cases r with
 | error e=>exact I.cxr hex hq
 | ok fl =>
  cases fl with
  | ret u=>exact I.after hq
  | next=>exact False.elim hq
  | brk=>exact False.elim hq
  | cont=>exact False.elim hq
def Ky (sp:Sp) (jn:List V) (t:TA):TEX:=λσ H Q E=>t σ H λvs H1=>sp (vs ++ jn) H1 Q E
def Zjq (F:FnOk X.prog X.w X.K X.mg X.base (CXr X.prog X.w) k f fd ps sp) (hr:Room k X.A) (hg:Gl X x) (hm:X.mg x=some (.ref f)) (hk:PySem.W.keepIn X.K (.ref f)=true) (hb:X4 X.K fd ps ds) (hd:Vals jn ds)
  (ha:PA X (e :: es) t) (hex:X.ex=[]:=by rfl) (hx:X.xe=(λ_ _=>False):=by rfl) (ka:(x == ("__debug__":Str))=false:=by decide) (he:starEach (e :: es) X.env=(false,eval e X.env) :: starEach es X.env:=by rfl) (ju:(backTo pos (starEach es X.env)).any (·.1)=false:=by rfl) :
  PEX fr X (.Call (.Name x p) (e :: es) [] pos) (Ky sp jn t):=by
 intro i7 s σ H Q E I h;have h0:=ha pos i7 s σ H _ I h;rw [hx] at h0;refine wpAny_Call_Name_kw (W5 I hg hm ?_ ka);refine PySem.W.callWith_K (h₀:=X.base) I.ok.mod.kin hk (wpAny_mono h0 (λus s1 zz29=>?_) λ_ _ z=>z.elim) he ju;obtain ⟨vs,H1,I1,r,q⟩:=zz29;refine ⟨I1.kIn,?_⟩;exact Oc F hr hb hd hex I1 r q
def Zmz (C:Addr) (m:Str) (sp:Sp) (jn:List V) (ta:TE) (t:TA):TEX:=λσ H Q E=>ta σ H λx H1=>∃ a dx fs,x=.ref a/\H1 a=some (.ins C dx fs)/\fs.lookup m=none /\
 t σ H1 λvs H2=>sp (x :: (vs ++ jn)) H2 Q E
def Zcy (he:PE X o ta) (c:Cls X.K C) (hm:Meth X.K C m f) (F:FnOk X.prog X.w X.K X.mg X.base (CXr X.prog X.w) k f fd ps sp) (hr:Room k X.A) (hb:X4 X.K fd ps ds) (hd:Vals jn ds) (ha:PA X (e :: es) t)
  (hex:X.ex=[]:=by rfl) (hx:X.xe=(λ_ _=>False):=by rfl) (j5:starEach (e :: es) X.env=(false,eval e X.env) :: starEach es X.env:=by rfl) (ju:(backTo pos (starEach es X.env)).any (·.1)=false:=by rfl)
  (ht:eval (.Call (.Attribute o m jg) (e :: es) [] pos) X.env=(do
   let ov <- eval o X.env
   standAt jg.atName
   let (f,first) <- holding [ov] (getMethod ov m pl)
   callWith pos f first (backTo pos (starEach (e :: es) X.env)) (backToKw pos (keywordEach [] X.env))):=by rfl) :
  PEX fr X (.Call (.Attribute o m jg) (e :: es) [] pos) (Zmz C m sp jn ta t):=by
 intro i7 s σ H Q E I h;have h0:=he i7 s σ H _ I h;rw [hx] at h0;refine PySem.W.methodCall_KW (pl:=pl) (wpAny_mono h0 (λu s1 zz30=>?_) λ_ _ z=>z.elim) ht;obtain ⟨x,H1,I1,rx,a,dx,fs,ex,ea,l,q⟩:=zz30;subst ex;obtain rfl:u=Value.ref a:=rx;refine V5 I1 ea c hm l ?_;have h1:=ha pos i7 s1 σ H1 _ I1 q;rw [hx] at h1;refine PySem.W.callWith_K (first:=[.ref a]) (h₀:=X.base) I.ok.mod.kin hm.kp (wpAny_mono h1 (λus s2 zz31=>?_) λ_ _ z=>z.elim) j5 ju;obtain ⟨vs,H2,I2,r,q2⟩:=zz31;refine ⟨I2.kIn,?_⟩;exact Oc (us:=.ref a :: us) (vs:=.ref a :: vs) F hr hb hd hex I2 (.cons Z r) q2
end
theorem Yi.there {h:Heap}:∀ {o:HO},Yi P w H h a o->∃ ob,h.get? a=some ob
 | .lst _,x=>by obtain ⟨_,_,_,_,e⟩:=x; exact ⟨_,e⟩
 | .tup _,x=>by obtain ⟨_,_,_,ob,e,_⟩:=x; exact ⟨_,e⟩
 | .dK _,x=>by obtain ⟨_,_,_,_,o,_,_,e,_⟩:=x; exact ⟨_,e⟩
 | .dT _,x=>by obtain ⟨_,_,_,_,o,_,_,e,_⟩:=x; exact ⟨_,e⟩
 | .set _ _,x=>by obtain ⟨o,_,_,_,e,_⟩:=x; exact ⟨_,e⟩
 | .ins _ _ _,x=>by obtain ⟨_,_,_,e,_⟩:=x; exact ⟨_,e⟩
 | .own _,x=>by obtain ⟨_,e⟩:=x; exact ⟨_,e⟩
 | .xd _,x=>by obtain ⟨_,⟨_,_,_,e,_⟩,_⟩:=x; exact ⟨_,e⟩
 | .rng _ _,x=>by obtain ⟨_,_,_,e⟩:=x; exact ⟨_,e⟩
 | .frz _ _,x=>by obtain ⟨e,_⟩:=x; exact ⟨_,e⟩
 | .tbl _,x=>⟨_,(show h.get? a=some _ from x)⟩
 | .met _ _,x=>⟨_,(show h.get? a=some _ from x)⟩
 | .ext _,x=>by obtain ⟨_,⟨_,e⟩,_⟩:=x; exact ⟨_,e⟩
section
variable {X:Cx} {i7:List (Addr × Obj)} {σ:St} {H:Hp} {s:Shared}
def Inv.untr (I:Inv X i7 σ H s) (hb:s.heap.get? b=none):H b=none:=by
 cases q:H b with
 | none=>rfl
 | some o =>
  obtain ⟨ob,e⟩:=(I.hok b o q).there;rw [hb] at e; cases e
def Inv.fxOk (I:Inv X i7 σ H s) (hex:X.ex=[]) (hb:s.heap.get? b=none):FxOk X i7 H b:=by
 refine ⟨I.untr hb,λz=>?_,λz=>?_,?_,λx c e z=>?_,λp hp z=>?_⟩
 ·obtain ⟨m,⟨o,_,_,ho,_⟩,_⟩:=I.loc
  rw [z,ho] at hb; cases hb
 ·obtain ⟨_,o,ho,_⟩:=I.funs.mem z
  rw [ho] at hb; cases hb
 ·cases q:X.s₀.heap.get? b with
  | none=>rfl
  | some o =>
   obtain ⟨o',e'⟩:=I.base.there b o q (by rw [hex]; simp);rw [hb] at e'; cases e'
 ·obtain ⟨v,o,ho,_⟩:=I.cell x c e
  rw [z,hb] at ho; cases ho
 ·have:=(I.pin p hp).1
  rw [z,hb] at this; cases this
end
structure ExcK (K:W.Frag) (C:Addr) (vt:List Value) (lg:String):Prop where
 q:PySem.W.excIn K C vt lg=true
def Zmj {K:W.Frag} {h:Heap} (X:K.In h) (q:PySem.W.excIn K C vt lg=true) :
  ∃ bm N nm q bs hdct sn sub ab col dd k0 k1 k2 k3 k5 mN,h.get? C=some (excClassObj nm q C N bs bm hdct sn sub ab col dd k0 k1 k2 k3 k5 lg)/\h.Ns N mN/\mN "__init__"=none/\OwnTail h vt bm:=by
 unfold PySem.W.excIn at q;split at q
 ·rename_i dd cd sl ho
  split at q
  ·rename_i C' bm k0 k1 k2 k3 n k5 hm hs
   simp only [Bool.and_eq_true,beq_iff_eq,Bool.not_eq_true'] at q;obtain ⟨⟨⟨⟨⟨rfl,rfl⟩,wl⟩,ht⟩,hok⟩,xq⟩:=q;obtain ⟨nm,bs,mro,ns,qn,hd,sn,sub,ab,col,del⟩:=cd;dsimp only at hm wl hok xq;subst hm wl;have ql:sl=#[k0,k1,k2,k3,some (.builtin n),k5]:=by
    obtain ⟨l⟩:=sl
    simp only at hs
    rw [hs]
   subst ql;exact ⟨bm,ns,nm,qn,bs,hd,sn,sub,ab,col,dd,k0,k1,k2,k3,k5,_,X _ _ ho,.of_isNs (PySem.W.isNs_of_in X hok),PySem.W.nsMap_none_of_in X hok xq,PySem.W.tail_of_in X ht⟩
  ·cases q
 ·cases q
section
variable {X:Cx}
def Zmy (C:Addr) (t:TA):TSX:=λ_ R σ H=>t σ H λvs H1=>vs.length<=1000/\R (.ref C) σ H1
def Ju (K:ExcK X.K C vt lg) (FB:ExcBaseFacts B lg initId vt) (hg:Gl X x) (hm:X.mg x=some (.ref C)) (hc:X.calm=true) (ha:PA X (e :: es) t)
  (hex:X.ex=[]:=by rfl) (hx:X.xe=(λ_ _=>False):=by rfl) (ka:(x == ("__debug__":Str))=false:=by decide) (he:starEach (e :: es) X.env=(false,eval e X.env) :: starEach es X.env:=by rfl) (ju:(backTo jd (starEach es X.env)).any (·.1)=false:=by rfl) :
  PSX true X (.Raise (some (.Call (.Name x np) (e :: es) [] jd)) none pos) (Zmy C t):=by
 intro i7 s σ H D R I h;obtain ⟨tl,N,nm,q,bs,hdct,sn,sub,ab,col,dd,k0,k1,k2,k3,k5,mN,hC,hN,xq,T⟩:=Zmj I.ok.mod.kin K.q;refine wpAny_Raise_call_subT (C:=C) (nm:=nm) (q:=q) (N:=N) (bs:=bs) (bm:=tl) (hdct:=hdct) (sn:=sn) (sub:=sub) (ab:=ab) (col:=col) (dd:=dd) (k0:=k0) (k1:=k1) (k2:=k2) (k3:=k3) (k5:=k5)
  FB (mN:=mN) (T.hasType FB.hasBase) (I.ok.hd hc) (by rw [he]; show (false || (backTo jd (starEach es X.env)).any (·.1))=false; rw [ju]; rfl) xq (W5 I hg hm ⟨rfl,?_⟩ ka)
 have h0:=ha jd i7 s σ H _ I h;rw [hx] at h0;rw [he] at h0 ⊢;refine Calls.evalArgs_plain (wpAny_mono h0 (λus s₂ zz32=>?_) λ_ _ z=>z.elim);obtain ⟨vs,H1,I1,r1,hl,q1⟩:=zz32;have kb:=I1.bk;refine ⟨Z,?_,kb _ _ hC,hN.keeps kb,T.keeps kb,λh' ea rq=>?_⟩
 ·rw [<- r1.length]
  exact Nat.le_of_lt (Z5 hl)
 obtain ⟨tt,h1,h2,h3⟩:=rq.there;have I2:Inv X i7 σ H1 { s₂ with heap:=h' }:=I1.kept (t':=s₂.toks) rq.keeps;have fx:=I1.fxOk hex rq.new;exact ⟨ea,none,.ref C,.ref tt,σ,H1,Z,I2,⟨_,_,h1,⟨Z,Z⟩,Z,Z⟩,⟨fx.nt,fx.nl,fx.nf,fx.n0,fx.nc,fx.np⟩,(λt z=>nomatch z),(λ_=>rfl),q1⟩
def Un.leave {h₀ h h':Heap} (u:Un fs [] H₀ H h₀ h) (hk:∀ b o,h₀.get? b=some o->b ∉ fs->h.get? b=some o->h'.get? b=some o)
  (hs:∀ b o,b∈fs->h.get? b=some o->∃ sl,h'.get? b=some { o with slots:=sl }) (ht:∀ b o,h₀.get? b=some o->∀ o',h.get? b=some o'->∃ o'',h'.get? b=some o''):Un fs [] H₀ H h₀ h' where
 keep:=λb o e n hb hx=>hk b o e hb (u.keep b o e n hb hx)
 slot:=λb o e n hb hx=>by
  obtain ⟨sl,e1⟩:=u.slot b o e n hb hx;obtain ⟨sl',e2⟩:=hs b _ hb e1;exact ⟨sl',e2⟩
 free:=u.free
 there:=λb o e hx=>by
  obtain ⟨o',e1⟩:=u.there b o e hx;exact ht b o e o' e1
 tups:=u.tups
 frzs:=u.frzs
 tbls:=u.tbls
def Ji {X:Cx} {s:Shared} (I:Inv X i7 σ H s) (as:List Addr) (hs:∀ b∈frs X.stack,b∈as):s.heap.FunFrames (PySem.W.hideAll s.heap as) X.stack:=by
 have all:∀ (l:List Env),(∀ b∈frs l,b∈as)->s.heap.FunFrames X.base l->s.heap.FunFrames (PySem.W.hideAll s.heap as) l:=by
  intro l
  induction l with
  | nil=>intro _ _; trivial
  | cons env r ih =>
   intro hs hl;obtain ⟨hk,⟨L,o,hf,hn,ho,hd⟩,hr⟩:=hl;have hL:L∈as:=hs L (by unfold frs; rw [List.filterMap_cons,hf]; exact List.mem_cons_self);exact ⟨hk,⟨L,o,hf,PySem.W.hideAll_none as hL,ho,hd⟩,ih (λb hb=>hs b (by unfold frs; rw [List.filterMap_cons,hf]; exact List.mem_cons_of_mem _ hb)) hr⟩
 exact all X.stack hs I.stack
def Inv.fnd {X:Cx} {s:Shared} (I:Inv X i7 σ H s) (hb:b∈frs X.stack) {o:Obj} (e:s.heap.get? b=some o):∀ vs,o.data≠.fields vs:=by
 obtain ⟨_,o',e',d⟩:=I.stack.mem hb;rw [e] at e'; cases e';exact d
end
def FxOk.none {X:Cx} {i7:List (Addr × Obj)} {H:Hp} {b:Addr} (h:FxOk X i7 H b):FxOk X [] H b:=⟨h.nt,h.nl,h.nf,h.n0,h.nc,λp hp=>h.np p (by rw [List.append_nil] at hp; exact List.mem_append_left _ hp)⟩
section
variable {P:Program} {w:World} {K:W.Frag} {mg:Str->Option Value} {base:Heap}
def Zdg (h:XS fr (cxOf (CXr P w) P w K mg base N qual scope f cd A outer s H E).nox [] (λcls _ H'=>E cls none H') ev s'):(cxOf (CXr P w) P w K mg base N qual scope f cd A outer s H E).xe ev s':=by
 obtain ⟨e,T,cls,a0,σ',H',rfl,I,hx,fe,fT,_,q⟩:=h;show wpAny (model P w) (A.deeper (envOfC qual scope s.heap.objs.size f cd)) (leaving (envOfC qual scope s.heap.objs.size f cd) (.ref e)) (λ_ ku=>CXr P w outer H s E (.ref e) ku) (λe' ku=>CXr P w outer H s E e' ku) s';have j5:(cxOf (CXr P w) P w K mg base N qual scope f cd A outer s H E).nox.stack=envOfC qual scope s.heap.objs.size f cd :: outer:=rfl;have ls:(A.deeper (envOfC qual scope s.heap.objs.size f cd)).frames=some (envOfC qual scope s.heap.objs.size f cd :: outer):=I.ok.frames
 have n0:∀ b,b∈e :: T.toList->s.heap.get? b=none:=λb hb=>by
  rcases As hb with z | z
  ·rw [z]; exact fe.n0
  ·cases T with
   | none=>simp at z
   | some t =>
    have:b=t:=by simpa using z
    rw [this]; exact (fT t Z).n0
 have nt:∀ b,b∈e :: T.toList->H' b=none:=λb hb=>by
  rcases As hb with z | z
  ·rw [z]; exact fe.nt
  ·cases T with
   | none=>simp at z
   | some t =>
    have:b=t:=by simpa using z
    rw [this]; exact (fT t Z).nt
 have hB:∀ b o,b ∉ e :: T.toList->b ∉ frs (envOfC qual scope s.heap.objs.size f cd :: outer)->s'.heap.get? b=some o->(PySem.W.hideAll s'.heap ((e :: T.toList) ++ frs (envOfC qual scope s.heap.objs.size f cd :: outer))).get? b=some o:=λb o h1 h2 e1 =>
  PySem.W.hideAll_get _ e1 λz=>(List.mem_append.mp z).elim h1 h2
 have hl:s'.heap.FunFrames (PySem.W.hideAll s'.heap ((e :: T.toList) ++ frs (envOfC qual scope s.heap.objs.size f cd :: outer))) (envOfC qual scope s.heap.objs.size f cd :: outer):=Ji I _ λb hb=>List.mem_append_right _ hb;have r0:(PySem.W.hideAll s'.heap ((e :: T.toList) ++ frs (envOfC qual scope s.heap.objs.size f cd :: outer))).StaysIn s'.heap:=λb o e1=>PySem.W.of_hideAll _ e1;have uw:(PySem.W.hideAll s'.heap ((e :: T.toList) ++ frs (envOfC qual scope s.heap.objs.size f cd :: outer))).get? e=none:=PySem.W.hideAll_none _ (List.mem_append_left _ List.mem_cons_self)
 have ji:∀ h',Heap.LeftW (PySem.W.hideAll s'.heap ((e :: T.toList) ++ frs (envOfC qual scope s.heap.objs.size f cd :: outer))) (envOfC qual scope s.heap.objs.size f cd :: outer) e cls a0 s'.heap h'->CXr P w outer H s E (.ref e) { s' with heap:=h' }:=λh' ⟨k1,k2,k3,k4⟩=>by
  obtain ⟨oe,vs,T',oT,ts,x1,x2,x3,x4,x5,x6,x7,x8,x9⟩:=k3;have kd:∀ b o,b∈frs (envOfC qual scope s.heap.objs.size f cd :: outer)->s'.heap.get? b=some o->∃ sl,h'.get? b=some { o with slots:=sl }:=λb o hb e1=>k4 b o e1 (I.fnd hb e1);have kept:∀ b o,b ∉ e :: T.toList->b ∉ frs (envOfC qual scope s.heap.objs.size f cd :: outer)->s'.heap.get? b=some o->h'.get? b=some o:=λb o h1 h2 e1=>k1 b o (hB b o h1 h2 e1);have nL:∀ b o,s.heap.get? b=some o->b ∉ frs outer->b ∉ frs (envOfC qual scope s.heap.objs.size f cd :: outer):=λb o e1 h2 z=>by
   have z':b∈s.heap.objs.size :: frs outer:=z
   rcases As z' with z1 | z1
   ·rw [z1] at e1; exact absurd (Ap e1) (Nat.lt_irrefl _)
   ·exact h2 z1
  have nE:∀ b o,s.heap.get? b=some o->b ∉ e :: T.toList:=λb o e1 z=>by rw [n0 b z] at e1; cases e1
  have trk:∀ b u,H' b=some u->∀ o,s'.heap.get? b=some o->h'.get? b=some o:=λb u hu o e1=>by
   refine kept b o (λz=>by rw [nt b z] at hu; cases hu) (λz=>?_) e1;rw [I.stkFree b z] at hu; cases hu
  have vp:s.heap.get? T'=none/\H' T'=none:=by
   by_cases hz:s'.heap.get? T'=none
   ·refine ⟨?_,I.untr hz⟩
    cases q':s.heap.get? T' with
    | none=>rfl
    | some o =>
     obtain ⟨o',e'⟩:=I.base.there T' o q' (by simp [cxOf]);rw [hz] at e'; cases e'
   ·obtain ⟨o,ho⟩:=Option.ne_none_iff_exists'.mp hz
    by_cases h1:T'∈e :: T.toList
    ·exact ⟨n0 T' h1,nt T' h1⟩
    ·by_cases h2:T'∈frs (envOfC qual scope s.heap.objs.size f cd :: outer)
     ·exfalso
      obtain ⟨sl,e'⟩:=kd T' o h2 ho;rw [x7] at e';cases e';exact I.fnd h2 ho ts x8
     ·rw [hB T' o h1 h2 ho] at x5; cases x5
  refine ⟨e,T',cls,a0,H',Z,I.os,I.bare,?_,λb u hu=>?_,fe.n0,vp.1,fe.nt,vp.2,⟨oe,vs,oT,ts,x1,x2,x3,x4,x6,x7,x8,x9⟩,q⟩
  ·refine Un.leave I.base (λb o e1 h1 e2=>kept b o (nE b o e1) (nL b o e1 h1) e2) (λb o hb e1=>kd b o (List.mem_cons_of_mem _ hb) e1) λb o e1 o' e2=>?_
   by_cases h2:b∈frs outer
   ·obtain ⟨sl,e'⟩:=kd b o' (List.mem_cons_of_mem _ h2) e2
    exact ⟨_,e'⟩
   ·exact ⟨o',kept b o' (nE b o e1) (nL b o e1 h2) e2⟩
  ·refine (I.hok b u hu).stay (λc v hc e1=>?_) (λ_ z=>z) λ_ _ z=>z
   rcases hc with z | z
   ·exact trk c u (by rw [z]; exact hu) v e1
   ·exact trk c _ z v e1
 cases T with
 | none =>
  obtain ⟨oe,vs,x1,x2,x3,x4⟩:=hx;obtain ⟨x21,x22⟩:=x2;subst x21;exact wpAny_leaving_firstW ls hl Z x1 r0 uw x3 x4 x22 ji
 | some t =>
  obtain ⟨oe,vs,oT,ts,x1,x2,x3,x4,x5,x6,x7,x8⟩:=hx;exact wpAny_leaving_nextW ls hl Z ⟨oe,vs,t,oT,ts,x1,x2,x3,x4,PySem.W.hideAll_none _ (List.mem_append_left _ (by simp)),x5,x6,x7,x8⟩ r0 uw ji
def Fun.okX {x qual:Str} {st:Stmt} {f:Addr} {fd:FuncData} {N ps:List Str} {k:Nat} {sp:Sp} (F:Fun K x qual st f fd) (S:FnScope N ps (Zg st)) (len:∀ vs H Q E,sp vs H Q E->vs.length=ps.length)
  (jt:∀ (jc:Value) (A:Around) (outer:List Env) (s:Shared) (H:Hp) (vs:List V) (Q:VK) (E:XK),Room k (A.deeper (envOfC qual (Zg st) s.heap.objs.size f jc))->sp vs H Q E ->
   ∃ t,PSsX true (cxOf (CXr P w) P w K mg base N qual (Zg st) f jc A outer s H E).nox (Yt st) t/\t { nx:=λ_ H'=>Q .non H',rt:=Q } (λcls _ H'=>E cls none H') (start N vs) H):FnOk P w K mg base (CXr P w) (k + 1) f fd ps sp:=by
 obtain ⟨oc,od,kV,jm,pm,an,jc,ct,pd,rfl,lk,k6⟩:=F.ex;refine Zgn lk k6 S len λA outer s H vs Q E hr j7=>?_;obtain ⟨t,h,q⟩:=jt jc A outer s H vs Q E hr j7;refine ⟨λD σ H'=>t D (λcls _ H''=>E cls none H'') σ H',λi7 s' σ' H' D I hD=>?_,q⟩;refine wpAny_mono (h i7 s' σ' H' D _ (I.wish _) hD) (λ_ _ z=>z.unwish) λev ku z=>Zdg (fr:=true) ?_;obtain ⟨e,T,cls,a0,σ2,H2,h1,h2,h3,h4,h5,h7,h6⟩:=z;exact ⟨e,T,cls,a0,σ2,H2,h1,h2.pins_of (λp hp=>absurd hp (by simp)),h3,h4.none,λt ht=>(h5 t ht).none,h7,h6⟩
end
section
variable {X:Cx}
def Inv.exc {i7:List (Addr × Obj)} {σ:St} {H:Hp} {s:Shared} {e T:Addr} {h':Heap} (I:Inv X i7 σ H s) (hex:X.ex=[]) (fe:FxOk X i7 H e) (fT:FxOk X i7 H T)
  (keep:∀ b o,b≠e->b≠T->b ∉ frs X.stack->s.heap.get? b=some o->h'.get? b=some o) (slot:∀ b o,b∈frs X.stack->s.heap.get? b=some o->∃ sl,h'.get? b=some { o with slots:=sl }):Inv X i7 σ H { s with heap:=h' }:=by
 have fss:∀ b∈X.fs,b∈frs X.stack:=λb hb=>by
  rcases I.ok.stk with z | ⟨z,hf⟩
  ·rw [z]; exact hb
  ·rw [z]; unfold frs; rw [List.filterMap_cons,hf]; exact List.mem_cons_of_mem _ hb
 have data:∀ b o,b≠e->b≠T->s.heap.get? b=some o->∃ sl,h'.get? b=some { o with slots:=sl }:=λb o h1 h2 e1=>by
  by_cases hb:b∈frs X.stack
  ·exact slot b o hb e1
  ·exact ⟨o.slots,keep b o h1 h2 hb e1⟩
 have ne0:∀ b o,X.s₀.heap.get? b=some o->b≠e/\b≠T:=λb o e1=>⟨λz=>(by rw [z,fe.n0] at e1; cases e1),λz=>(by rw [z,fT.n0] at e1; cases e1)⟩;have lh:∀ x c,X.env.cells.lookup x=some c->∀ v,s.heap.IsCell c v->h'.IsCell c v:=λx c ec v ⟨o,ho,hd⟩=>by
  obtain ⟨sl,e1⟩:=data c o (fe.nc x c ec) (fT.nc x c ec) ho
  exact ⟨_,e1,hd⟩
 refine ⟨I.ok,I.os,I.bare,⟨λb o e0 n hb hx=>?_,λb o e0 n hb hx=>?_,I.base.free,λb o e0 hx=>?_,I.base.tups,I.base.frzs,I.base.tbls⟩,?_,λx c ec=>?_,I.free,I.freeC,λp hp=>?_,λb u hu=>?_,I.len⟩
 ·obtain ⟨n1,n2⟩:=ne0 b o e0
  refine keep b o n1 n2 (λz=>?_) (I.base.keep b o e0 n hb hx)
  rcases As (I.stkSub b z) with z1 | z1
  ·rw [z1] at e0; exact absurd (Ah (Ap e0) I.ok.above) (Nat.lt_irrefl _)
  ·exact hb z1
 ·obtain ⟨sl,e1⟩:=I.base.slot b o e0 n hb hx
  obtain ⟨sl',e2⟩:=slot b _ (fss b hb) e1;exact ⟨sl',e2⟩
 ·obtain ⟨n1,n2⟩:=ne0 b o e0
  obtain ⟨o',e1⟩:=I.base.there b o e0 hx;obtain ⟨sl,e2⟩:=data b o' n1 n2 e1;exact ⟨_,e2⟩
 ·obtain ⟨m,hn,hl⟩:=I.loc
  refine ⟨m,?_,λi x v e1 e2 e3=>?_⟩
  ·obtain ⟨o,es,ep,ho,hd,r⟩:=hn
   obtain ⟨sl,e1⟩:=data _ o (Ne.symm fe.nl) (Ne.symm fT.nl) ho;exact ⟨_,es,ep,e1,hd,r⟩
  ·obtain ⟨u,r,l⟩:=hl i x v e1 e2 e3
   refine ⟨u,r,?_⟩
   rcases l with l | ⟨k,c,ec,z⟩
   ·exact .inl l
   ·exact .inr ⟨k,c,ec,lh x c ec _ z⟩
 ·obtain ⟨v,z⟩:=I.cell x c ec
  exact ⟨v,lh x c ec v z⟩
 ·obtain ⟨e1,n,ne,nf,d⟩:=I.pin p hp
  refine ⟨keep p.1 p.2 (fe.np p hp) (fT.np p hp) (λz=>?_) e1,n,ne,nf,d⟩
  rcases As (I.stkSub p.1 z) with z1 | z1
  ·exact ne z1
  ·exact nf z1
 ·have trk:∀ b u,H b=some u->∀ o,s.heap.get? b=some o->h'.get? b=some o:=λb u hu o e1=>by
   refine keep b o (λz=>by rw [z,fe.nt] at hu; cases hu) (λz=>by rw [z,fT.nt] at hu; cases hu) (λz=>?_) e1;rw [I.stkFree b z] at hu; cases hu
  refine (I.hok b u hu).stay (λc v hc e1=>?_) (λ_ z=>z) λ_ _ z=>z
  rcases hc with z | z
  ·exact trk c u (by rw [z]; exact hu) v e1
  ·exact trk c _ z v e1
def Oj (X:Cx) (e:Addr):Cx:={ X with A:=X.A.mark (some (.ref e)),calm:=false }
def Inv.hnd {i7:List (Addr × Obj)} {σ:St} {H:Hp} {s:Shared} (I:Inv X i7 σ H s) (e:Addr):Inv (Oj X e) i7 σ H s :=
 ⟨⟨I.ok.mod,I.ok.kind,I.ok.glob,I.ok.blt,I.ok.above,I.ok.inj,I.ok.has,I.ok.cab,λh=>absurd (show false=true from h) Bool.false_ne_true,I.ok.frames,I.ok.stk,I.ok.exf,I.ok.bs,I.ok.bsz,I.ok.noex,I.ok.exfs,I.ok.funs,I.ok.frf⟩,
  I.os,I.bare,I.base,I.loc,I.cell,I.free,I.freeC,I.pin,I.hok,I.len⟩
def Inv.unhnd {i7:List (Addr × Obj)} {σ:St} {H:Hp} {s:Shared} {e:Addr} (I:Inv (Oj X e) i7 σ H s) (ok:X.Ok):Inv X i7 σ H s :=
 ⟨ok,I.os,I.bare,I.base,I.loc,I.cell,I.free,I.freeC,I.pin,I.hok,I.len⟩
def SP.unhnd {i7:List (Addr × Obj)} {D:Ends} {f:Flow} {s':Shared} {e:Addr} (h:SP (Oj X e) i7 D f s') (ok:X.Ok):SP X i7 D f s':=by
 cases f with
 | next=>obtain ⟨σ',H',I,q⟩:=h; exact ⟨σ',H',I.unhnd ok,q⟩
 | brk=>obtain ⟨σ',H',I,q⟩:=h; exact ⟨σ',H',I.unhnd ok,q⟩
 | cont=>obtain ⟨σ',H',I,q⟩:=h; exact ⟨σ',H',I.unhnd ok,q⟩
 | ret u=>obtain ⟨v,σ',H',I,r,q⟩:=h; exact ⟨v,σ',H',I.unhnd ok,r,q⟩
def Zip {i7:List (Addr × Obj)} {σ:St} {H:Hp} {s:Shared} {e T:Addr} {cls a0:Value} (I:Inv X i7 σ H s) (hx:FlyT e T cls a0 s.heap) :
  Heap.FlyingW (PySem.W.hideAll s.heap (e :: T :: frs X.stack)) X.stack e cls a0 s.heap:=by
 obtain ⟨oe,vs,oT,ts,x1,x2,x3,x4,x5,x6,x7,x8⟩:=hx;exact ⟨λb o e1=>PySem.W.of_hideAll _ e1,PySem.W.hideAll_none _ (by simp),Ji I _ λb hb=>by simp [hb],oe,vs,T,oT,ts,x1,x2,x3,x4,PySem.W.hideAll_none _ (by simp),x5,x6,x7,x8⟩
def Inv.flown {i7:List (Addr × Obj)} {σ:St} {H:Hp} {s:Shared} {e T:Addr} {h':Heap} (I:Inv X i7 σ H s) (hex:X.ex=[]) (fe:FxOk X i7 H e) (fT:FxOk X i7 H T)
  (j5:(PySem.W.hideAll s.heap (e :: T :: frs X.stack)).StaysIn h') (yv:s.heap.UpToSlots h'):Inv X i7 σ H { s with heap:=h' }:=by
 refine I.exc hex fe fT (λb o h1 h2 h3 e1=>j5 b o (PySem.W.hideAll_get _ e1 λz=>?_)) λb o hb e1=>yv b o e1 (I.fnd hb e1)
 rcases As z with z | z
 ·exact h1 z
 ·rcases As z with z | z
  ·exact h2 z
  ·exact h3 z
end
section
variable {X:Cx} {i7:List (Addr × Obj)} {σ:St} {H:Hp} {s:Shared} {A:Around} {E:Value->Shared->Prop} {a:Addr}
def Zn3 {kvs:List (Key × V)} (I:Inv X i7 σ H s) (e:H a=some (.dK kvs)) (hl:kvs.length < sizeLine) (ry:RelV (kV k) u) (rd:RelV d r)
  (h1:∀ v w' s',valV kvs k=some v->Inv X i7 σ H s'->RelV v w'->Q w' s') (h2:valV kvs k=none->∀ s',Inv X i7 σ (upd H a (.dK (putK kvs k d))) s'->Q r s') :
  wpAny (model X.prog X.w) A (call (.builtin "dict.setdefault") [.ref a,u,r]) Q E s:=by
 obtain ⟨z,hd,vs,jk,dd⟩:=Zgp I.hok e;have hz:vs.length<=sizeLine:=by rw [<- jk.length]; exact z
 refine call_meetsIn PySem.F.slot_dict_setdefault dd.typeIs PySem.F.entry_dict_setdefault (PySem.F.args_dict_setdefault_3 _ _ _) (kt_meets_setdefault (Yj X.prog X.w) a (J9 ry) hd r) ⟨vs,dd,hz,λv hv=>?_,λhv h' pw hs=>?_⟩
 ·have j3:=jk.val k
  rw [hv] at j3
  cases q:valV kvs k with
  | none=>rw [q] at j3; exact j3.elim
  | some y=>rw [q] at j3; exact h1 y v _ q (I.tok _) j3
 ·have j3:=jk.val k
  rw [hv] at j3
  cases q:valV kvs k with
  | some y=>rw [q] at j3; exact j3.elim
  | none =>
   have he:∃ q,h'.get? a=some q:=let ⟨q,_,_,hq,_⟩:=pw; ⟨q,hq⟩
   have my:(putK kvs k d).length<=sizeLine:=by have:=Jp kvs k d; lia
   exact h2 q _ (On I (by rw [e]; exact True.intro) hs he (Zdk my hd (jk.put k rd) pw))
end
def Zm2 (td ty tx:TE):TE:=λσ H Q=>td σ H λx H1=>∃ a,x=.ref a/\IsD H1 a/\ty σ H1 λy H2=>tx σ H2 λz H3=>∃ kvs k,H3 a=some (.dK kvs)/\kvs.length < sizeLine/\y=kV k /\
 (∀ v,valV kvs k=some v->Q v H3)/\(valV kvs k=none->Q z (upd H3 a (.dK (putK kvs k z))))
section
variable {X:Cx} {o e f:Expr} {jg jd:Pos} {td ty tx:TE}
def Zjt (ho:PE X o td) (he:PE X e ty) (hf:PE X f tx) (m:M2 X o "setdefault" jg e f jd):PE X (.Call (.Attribute o "setdefault" jg) [e,f] [] jd) (Zm2 td ty tx):=by
 intro i7 s σ H Q I h;refine wpAny_Call_method m.base m.few m.line PySem.F.plainAttrs_dict PySem.F.slot_dict_setdefault PySem.F.type_dict_setdefault (thn (ho i7 s σ H _ I h) λu s1 ja=>?_);obtain ⟨x,H1,I1,rx,a,ex,d,q1⟩:=ja;subst ex;obtain rfl:u=Value.ref a:=rx;obtain ⟨t1,t2,_⟩:=Zij I1 d;refine ⟨t1,t2,?_⟩;rw [m.trees];refine Calls.callWith_builtin rfl (Calls.evalArgs_plain (Calls.spliced_cons (thn (he i7 s1 σ H1 _ I1 q1) λiv s2 ⟨y,H2,I2,ry,q2⟩ =>
  Calls.spliced_cons (thn (hf i7 s2 σ H2 _ I2 q2) λfv s3 ⟨z,H3,I3,rz,kvs,k,hk,hl,ey,q3,q4⟩=>Calls.spliced_nil ?_))))
 subst ey;exact Zn3 I3 hk hl ry rz (λv w' s' hv I' lx=>⟨v,H3,I',lx,q3 v hv⟩) λhv s' I'=>⟨z,_,I',rz,q4 hv⟩
def Zdh {kvs:List (Key × V)} {vs:List (Key × Value)} {ks:List Int} (jk:KV kvs vs) (hk:kvs.map (·.1)=ks.map Sum.inl) {us:List Value} (hl:us.length=vs.length)
  (hu:∀ (j:Nat) (v:Value),us[j]?=some v->∃ k x,vs[j]?=some (k,x)/\(Yj P w).is k v=true):IntsAre us ks:=by
 have kz:kvs.length=ks.length:=by have:=congrArg List.length hk; simpa using this
 have hvl:kvs.length=vs.length:=jk.length
 have key:∀ (j:Nat) (v:Value),us[j]?=some v->∃ i t,ks[j]?=some i/\v=Value.int i t:=λj v hv=>by
  obtain ⟨k,x,hx,hi⟩:=hu j v hv;have e1:(vs.map (·.1))[j]?=some k:=by rw [Ai,hx]; rfl
  have e2:vs.map (·.1)=kvs.map (·.1):=by
   clear hk hl hu kz hvl hx hi e1
   induction jk with
   | nil=>rfl
   | cons r t ih=>rw [List.map_cons,List.map_cons,ih,r.1]
  rw [e2,hk,Ai] at e1
  cases q:ks[j]? with
  | none=>rw [q] at e1; cases e1
  | some i =>
   rw [q] at e1;have e3:Sum.inl i=k:=Ay e1;subst e3;obtain ⟨t,ht⟩:=Value.isInt_shape (k:=i) (v:=v) hi;exact ⟨i,t,Z,ht⟩
 have gen:∀ (us:List Value) (ks:List Int),us.length=ks.length->(∀ (j:Nat) (v:Value),us[j]?=some v->∃ i t,ks[j]?=some i/\v=Value.int i t)->IntsAre us ks:=by
  intro us
  induction us with
  | nil =>
   intro ks hl _
   cases ks with
   | nil=>exact .nil
   | cons _ _=>simp at hl
  | cons u r ih =>
   intro ks hl h
   cases ks with
   | nil=>simp at hl
   | cons i ks =>
    obtain ⟨i',t,e1,e2⟩:=h 0 u rfl;have e1':i=i':=by simpa using e1
    subst e1' e2;exact .cons i t (ih ks (by simpa using hl) λj v hv=>h (j + 1) v (by simpa using hv))
 exact gen us ks (by lia) key
def Zdp (hc:X.calm=true):X3 X (.builtin "sorted") (λxs H Q=>∃ (d:Addr) (kvs:List (Key × V)) (ks:List Int),xs=[.ref d]/\Rd H d (.dK kvs)/\kvs.map (·.1)=ks.map Sum.inl/\ks.length < 64 /\
  ∀ (p:Addr) (out:List Int),H p=none->out.Perm ks->out.Pairwise (·<=·)->Q (.ref p) (upd H p (.lst (out.map V.int)))):=by
 intro i7 s σ H xs us Q I r h;obtain ⟨d,kvs,ks,rfl,hd,hk,lz,q⟩:=h;obtain ⟨u,rfl,ru⟩:=Xv r;obtain rfl:u=Value.ref d:=ru;obtain ⟨z,oj,vs,jk,dd⟩:=Q9 I.hok hd;obtain ⟨ep,vm⟩:=dd.dictAt;have jb:vs.length=ks.length:=by have:=congrArg List.length hk; rw [Ac,Ac] at this; have:=jk.length; lia
 have hn:vs.length<=sizeLine:=by rw [sizeLine_eq]; lia
 refine Calls.call_function_entry kind_sorted plain_sorted entry_sorted (args_sorted1 _) ?_;unfold Builtin.«sorted»;refine Am (m:=checkCount "sorted" 1 1 _) (wpAny_pure ?_);refine Am (PySem.W.kdu_collect (A:=X.A.in1) (PySem.W.kdl_dict (knd:=Yj X.prog X.w) (kvs:=vs) (ep:=ep) oj) (I.ok.hd hc) vm hn λh' tk i9 r6 ou=>?_);have hl:i9.toList.length=vs.length:=by rw [Array.length_toList]; exact ou.1
 have hI:IntsAre i9.toList ks:=Zdh (P:=X.prog) (w:=X.w) jk hk hl λj v hv=>ou.2 j v (by rw [<- Array.getElem?_toList]; exact hv);refine Am (wpAny_newList ?_ (by rw [hl]; exact hn));have I1:Inv X i7 σ H { s with heap:=h',toks:=tk }:=I.kept r6;have qa:(h'.push { cls:=.type "list",data:=.seq i9.toList.toArray }).get? h'.objs.size=some (seqObj "list" i9.toList.toArray 0):=Aq _ rfl;refine Am (wpAny_holding (wpAny_call_entry slot_list_sort ⟨_,qa,Z⟩ entry_list_sort (list_sort_tree qa hI (by lia) λout yo a1 a2 a3=>⟨_,Z,?_⟩) (args_list_sort _)));refine wpAny_pure ⟨_,Z,?_⟩;obtain ⟨e,he⟩:=sortedHeap_at (out:=out) qa;have kp:∀ b u,h'.get? b=some u->(sortedHeap (h'.push { cls:=.type "list",data:=.seq i9.toList.toArray }) h'.objs.size i9.toList out).get? b=some u:=λb u hb=>by
  have jh:b < h'.objs.size:=Ap hb
  rw [sortedHeap_old (At jh) (by rw [Heap.size_push]; exact Nat.lt_succ_of_lt jh)]
  exact Al _ hb
 have hv:Vals (yo.map V.int) out.toList:=by
  clear he kp;generalize out.toList=l at a1;clear a2 a3
  induction a1 with
  | nil=>exact .nil
  | cons i t _ ih=>exact .cons ⟨_,Z⟩ ih
 refine ⟨.ref h'.objs.size,upd H h'.objs.size (.lst (yo.map V.int)),I1.laid kp (Ao _) ?_,Z,q _ yo I1.fresh a2 a3⟩;refine ⟨?_,out.toList,e,hv,?_⟩
 ·rw [Ac,a2.length_eq,sizeLine_eq]; lia
 ·rw [he]
end
section
variable {X:Cx} {i7:List (Addr × Obj)} {σ:St} {H:Hp} {s:Shared} {a:Addr}
def Inv.freeze (I:Inv X i7 σ H s) (e:H a=some u) (mu:Mut (some u)) (ho:s.heap.get? a=some ob):Inv X i7 σ (upd H a (.frz ob u)) s:=by
 have qe:∀ c y,H c=some (.own y)->c≠a:=λc y r z=>by subst z; rw [r] at e; cases e; exact mu
 have qd:∀ c xs,H c=some (.tup xs)->c≠a:=λc xs r z=>by subst z; rw [r] at e; cases e; exact mu
 have nfrz:∀ c o xs,H c=some (.frz o xs)->c≠a:=λc o xs r z=>by subst z; rw [r] at e; cases e; exact mu
 have ntbl:∀ c ps,H c=some (.tbl ps)->c≠a:=λc ps r z=>by subst z; rw [r] at e; cases e; exact mu
 have un:Un X.fs [] H (upd H a (.frz ob u)) s.heap s.heap:=⟨λ_ _ q _ _ _=>q,λ_ o q _ _ _=>⟨o.slots,q⟩,λb o q n _=>by rw [Zh (λz=>by rw [z,e] at n; cases n)]; exact n,λb o q _=>⟨o,q⟩,
  λb xs q=>by rw [Zh (qd b xs q)]; exact q,λb o xs q=>by rw [Zh (nfrz b o xs q)]; exact q,λb ps q=>⟨#[],by rw [Zh (ntbl b ps q),q]; simp⟩⟩
 have hok:HOk X.prog X.w (upd H a (.frz ob u)) s.heap:=λb v q=>by
  have st:∀ c w',Yi X.prog X.w H s.heap c w'->Yi X.prog X.w (upd H a (.frz ob u)) s.heap c w':=λc w' x=>x.stay (λ_ _ _ q=>q) (λd r=>by rw [Zh (qe d c r)]; exact r) λd xs r=>by rw [Zh (qd d xs r)]; exact r
  by_cases hb:b=a
  ·subst hb
   rw [Zc] at q;cases q;exact ⟨ho,st _ _ (I.hok _ _ e)⟩
  ·rw [Zh hb] at q
   exact st _ _ (I.hok b v q)
 exact I.un (h':=s.heap) (t':=s.toks) un hok
end
section
def KV.at {kvs:List (Key × V)} {vs:List (Key × Value)} (r:KV kvs vs):∀ {i:Nat} {k:Key} {v:V},kvs[i]?=some (k,v)->∃ u,vs[i]?=some (k,u)/\RelV v u:=by
 induction r with
 | nil=>intro i k v h; simp at h
 | cons r t ih =>
  intro i k v h
  cases i with
  | zero =>
   simp at h;subst h;exact ⟨_,by rw [List.getElem?_cons_zero]; exact congrArg some (Prod.ext r.1.symm Z),r.2⟩
  | succ i =>
   obtain ⟨u,h1,h2⟩:=ih (by simpa using h);exact ⟨u,by simpa using h1,h2⟩
def Kr {X:Cx} {s:Shared} (I:Inv X i7 σ H s) (e:H d=some (.frz o (.dK kvs))) :
  ∃ vs ep,KV kvs vs/\s.heap.DictAt (Yj X.prog X.w) d vs ep/\s.heap.get? d=some o:=by
 obtain ⟨ho,_,_,vs,jk,dd⟩:=I.hok d _ e;obtain ⟨ep,da⟩:=dd.dictAt;exact ⟨vs,ep,jk,da,ho⟩
def epOf (o:Obj):Nat:=match o.data with
 | .dict _ ep=>ep
 | _=>0
def Zgo {h:Heap} (da:h.DictAt (Yj P w) d vs ep) (ho:h.get? d=some o):ep=epOf o:=by
 obtain ⟨o',es,h1,_,h2,_⟩:=da;rw [ho] at h1;cases h1;unfold epOf;rw [h2]
def Zg0 {P:Program} {w:World} {K:W.Frag} {tg:Expr} (d it:Addr) (kvs:List (Key × V)) (o:Obj) :
  Turn P w K tg ⟨λi H=>i < kvs.length/\H d=some (.frz o (.dK kvs)),λi H x H'=>H'=H/\∃ k,kvs[i]?=some (k,x),λi H=>kvs.length<=i/\H d=some (.frz o (.dK kvs))⟩ [it] it (λi h=>h.IsValIter it d i kvs.length (epOf o)) where
 mem:=by simp
 obj:=λi h st b hb=>by
  have e:b=it:=by simpa using hb
  subst e;obtain ⟨o,e,c,d⟩:=st;exact ⟨o,e,λv z=>by rw [d] at z; cases z⟩
 keep:=λi h h' st k=>st.at λo e=>k it (by simp) o e
 item:=by
  intro X hP hw hK hc i i7 s σ H E I hf st hg;subst hP hw hK;obtain ⟨hi,hq⟩:=hg;obtain ⟨vs,ep,jk,da,ho⟩:=Kr I hq;have vh:=Zgo da ho;subst vh;obtain ⟨f0,f1,f2,f3,f4,f5⟩:=hf it (by simp);obtain ⟨⟨k,v⟩,hx⟩:∃ p,kvs[i]?=some p:=⟨_,Ad hi⟩;obtain ⟨u,hu,ru⟩:=jk.at hx;have jb:vs.length=kvs.length:=jk.length.symm;rw [<- jb] at st;refine wpAny_pyNext_values_item st da hu λh' kh sb=>?_;have I1:Inv X i7 σ H { s with heap:=h' }:=I.turned (t':=s.toks) (λb o hb e=>(sb.2 b hb).trans e) f0 f1 f3 f4 f5;rw [jb] at kh;obtain ⟨oi,e,c,dd⟩:=id kh;exact ⟨u,Z,Ol (s:={ s with heap:=h' }) e c dd (by decide) ⟨v,H,I1,ru,⟨Z,k,hx⟩,kh,λb hb=>(hf b hb).1⟩⟩
 done:=by
  intro X hP hw hK hc i i7 s σ H E I hf st hg;subst hP hw hK;obtain ⟨hi,hq⟩:=hg;obtain ⟨vs,ep,jk,da,ho⟩:=Kr I hq;have vh:=Zgo da ho;subst vh;obtain ⟨f0,f1,f2,f3,f4,f5⟩:=hf it (by simp);have jb:vs.length=kvs.length:=jk.length.symm;rw [<- jb] at st;exact wpAny_pyNext_values_end (I.ok.hd hc) st da (by rw [Az]; lia) λh' eb=>⟨rfl,I.turned (t':=s.toks) (λb o hb e=>eb b o hb e) f0 f1 f3 f4 f5⟩
 self:=λ_ _ _ _ _ st h=>wpAny_pyIter_valiter st h
end
section
variable {X:Cx} {tg:Expr} {l:Expr} {tl:TE}
def Itv2 (d:Addr) (kvs:List (Key × V)) (o:Obj):It:=⟨λi H=>i < kvs.length/\H d=some (.frz o (.dK kvs)),λi H x H'=>H'=H/\∃ k,kvs[i]?=some (k,x),λi H=>kvs.length<=i/\H d=some (.frz o (.dK kvs))⟩
def Zo2 (J:Addr->List (Key × V)->Obj->It) (tl:TE):TI:=λσ H R=>tl σ H λx H1=>∃ a kvs,x=.ref a/\((H1 a=some (.dK kvs)/\∀ o,R (J a kvs o) (upd H1 a (.frz o (.dK kvs))))\/∃ o,H1 a=some (.frz o (.dK kvs))/\R (J a kvs o) H1)
def Zkr {R:Obj->Hp->Prop} (I:Inv X i7 σ H s)
  (h:(H a=some (.dK kvs)/\∀ o,R o (upd H a (.frz o (.dK kvs))))\/∃ o,H a=some (.frz o (.dK kvs))/\R o H):∃ o H',H' a=some (.frz o (.dK kvs))/\Inv X i7 σ H' s/\R o H':=by
 rcases h with ⟨e,r⟩ | ⟨o,e,r⟩
 ·obtain ⟨ob,ho⟩:=(I.hok a _ e).there
  exact ⟨ob,_,Zc,I.freeze e True.intro ho,r ob⟩
 ·exact ⟨o,H,e,I,r⟩
structure M0 (X:Cx) (o:Expr) (m:Str) (jg jd:Pos):Prop where
 base:attributeBase o m X.env (eval o X.env)=eval o X.env
 few:((backTo jd (starEach [] X.env)).all (λx=>!x.1) && (backToKw jd (keywordEach [] X.env)).all (λx=>x.1.isSome)
  && decide (([]:List Expr).length + ([]:List Keyword).length + (if ([]:List Keyword).isEmpty then 0 else 1) < 30))=true
 line:(jg.endLine == jd.line)=true
def Zl0 {jg jd:Pos} (hl:PE X l tl) (m:M0 X l "values" jg jd):PI X tg (.Call (.Attribute l "values" jg) [] [] jd) (Zo2 Itv2 tl):=by
 intro i7 s σ H R I h;refine wpAny_Call_method m.base m.few m.line PySem.F.plainAttrs_dict PySem.F.slot_dict_values PySem.F.type_dict_values (thn (hl i7 s σ H _ I h) λv s1 ja=>?_);obtain ⟨x,H1,I1,r1,q1⟩:=ja;obtain ⟨a,kvs,e,q⟩:=q1;subst e;cases r1;obtain ⟨o,H2,e2,I2,q2⟩:=Zkr (R:=λo H=>R (Itv2 a kvs o) H) I1 q;obtain ⟨vs,ep,jk,da,ho⟩:=Kr I2 e2;have vh:=Zgo da ho;subst vh;obtain ⟨_,_,oj,_⟩:=I2.hok a _ e2;have isd:IsD H2 a:=.inl ⟨kvs,.inr ⟨o,e2⟩⟩;obtain ⟨t1,t2,_⟩:=Zij I2 isd;refine ⟨t1,t2,?_⟩;refine Calls.callWith_builtin Z (PyProof.Rows.evalArgs_empty ?_);refine call_meetsIn PySem.F.slot_dict_values da.dictOf.typeIs PySem.F.entry_dict_values (PySem.F.args_dict_values_1 _) (meets_dict_values (Yj X.prog X.w) a oj) ⟨⟨vs,da.dictOf⟩,?_⟩;have I3:Inv X i7 σ H2 { s1 with heap:=s1.heap.push { cls:=.type "dict_values",data:=.fields #[.ref a] } }:=I2.kept (t':=s1.toks) λb o e=>Al _ e;refine wpAny_pyIter_values ⟨_,Aq _ Z,Z,Z⟩ (da.push _) ?_;have jb:vs.length=kvs.length:=jk.length.symm;rw [jb];refine ⟨(s1.heap.push { cls:=.type "dict_values",data:=.fields #[.ref a] }).objs.size,[(s1.heap.push { cls:=.type "dict_values",data:=.fields #[.ref a] }).objs.size],_,_,H2,rfl,I3.kept (t':=s1.toks) λb o e=>Al _ e,Zg0 a _ kvs o,⟨_,Aq _ rfl,rfl,rfl⟩,λb hb=>?_,q2⟩;have e:b=(s1.heap.push { cls:=.type "dict_values",data:=.fields #[.ref a] }).objs.size:=by simpa using hb
 subst e;exact I3.fpOk (Ao _) (I3.hok.fresh (Ao _))
end
section
def Ite (K:W.Frag) (a:Addr):It :=
 ⟨λi H=>∃ xs x,SqL K H a xs/\xs[i]?=some x,λi H x H'=>∃ q y,H q=none/\x=.ref q/\(∀ xs,SqL K H a xs->xs[i]?=some y)/\H'=upd H q (.tup [.int i,y]),λi H=>∃ xs,SqL K H a xs/\xs.length<=i⟩
def Zg2 {P:Program} {w:World} {K:W.Frag} {l7:List Expr} {x1:Nat} {pos:Pos} (a e it:Addr) (jo:e≠it):Turn P w K (.Tuple l7 x1 pos) (Ite K a) [e,it] e (λi h=>(∃ j6,IsEnum h e it i j6)/\h.IsListIter it a i) where
 mem:=by simp
 obj:=λi h st b hb=>by
  obtain ⟨⟨j6,h1⟩,o,h2,c,d⟩:=st
  rcases As hb with z | z
  ·subst z
   exact ⟨_,h1,λv z=>by
    have z':Data.fields _=Data.cell v:=z
    cases z'⟩
  ·have z:b=it:=by simpa using z
   subst z;exact ⟨o,h2,λv z=>by rw [d] at z; cases z⟩
 keep:=λi h h' st k=>⟨let ⟨j6,h1⟩:=st.1; ⟨j6,k e (by simp) _ h1⟩,st.2.at λo q=>k it (by simp) o q⟩
 item:=by
  intro X hP hw hK hc i i7 s σ H E I hf st hg;subst hP hw hK;obtain ⟨xs,x,hq,hx⟩:=hg;obtain ⟨its,rv,p,hz⟩:=I.list hq;obtain ⟨u,hu,ru⟩:=rv.get hx;obtain ⟨f0,f1,f2,f3,f4,f5⟩:=hf e (by simp);obtain ⟨g0,g1,g2,g3,g4,g5⟩:=hf it (by simp);obtain ⟨⟨j6,he⟩,n9⟩:=st;refine wpAny_pyNext_enum_item he n9 p.isList (x:=u) (by simpa using hu) jo λh' mw hit' ht' hsz' kk=>?_;have eo:=Ap he;have io:it < s.heap.objs.size:=let ⟨o,q,_⟩:=n9; Ap q
  refine ⟨.ref s.heap.objs.size,Z,wpAny_letOwnedTupleGo_enum mw λsi he'' sb=>?_⟩;have js:∀ b o,b≠e->b≠it->s.heap.get? b=some o->si.get? b=some o:=λb o h1 h2 q=>(sb.2 b h1).trans (kk b o h1 h2 q);have tz:si.get? s.heap.objs.size=some { cls:=.type "tuple",data:=.seq #[.int i s.toks,u] }:=(sb.2 _ (Nat.ne_of_gt eo)).trans ht';have hn:H s.heap.objs.size=none:=I.hok.fresh (Ao _)
  have I2:Inv X i7 σ (upd H s.heap.objs.size (.tup [.int i,x])) { s with heap:=si,toks:=s.toks + 1 }:=by
   refine I.step (g':=s.gens) (d':=s.drawn) (ch:=[e,it]) (λb hb=>?_) (λb o _ _ hc q _=>js b o (λz=>hc (by simp [z])) (λz=>hc (by simp [z])) q) (λb o _ _ hc q _=>⟨o.slots,js b o (λz=>hc (by simp [z])) (λz=>hc (by simp [z])) q⟩) (λb o _ q n=>by rw [Zh (At (Ap q))]; exact n)
    (λb o hc q=>⟨o,js b o (λz=>hc (by simp [z])) (λz=>hc (by simp [z])) q⟩) (λb ys q=>by rw [Zh (Zr q hn)]; exact q) (λb o ys q=>by rw [Zh (Zr q hn)]; exact q) (λb ps q=>⟨#[],by rw [Zh (Zr q hn),q]; simp⟩) (λm hm=>?_) (λb v q=>?_) I.bare
   ·rcases As hb with z | z
    ·subst z; exact ⟨f3,f1,f4,f5⟩
    ·have z:b=it:=by simpa using z
     subst z; exact ⟨g3,g1,g4,g5⟩
   ·obtain ⟨o,es,ep,ho,r⟩:=hm
    exact ⟨o,es,ep,js _ o (Ne.symm f1) (Ne.symm g1) ho,r⟩
   ·by_cases hb:b=s.heap.objs.size
    ·subst hb
     rw [Zc] at q;cases q;exact ⟨by show 2<=sizeLine; decide,[.int i s.toks,u],.cons ⟨_,rfl⟩ (.cons ru .nil),⟨_,tz,rfl,_,rfl⟩⟩
    ·rw [Zh hb] at q
     refine (I.hok b v q).stay (λc w' hc z=>js c w' ?_ ?_ z) (λd z=>by rw [Zh (Zr z hn)]; exact z) λd ys z=>by rw [Zh (Zr z hn)]; exact z
     ·rintro rfl
      rcases hc with z | z
      ·rw [z,q] at f0; cases f0
      ·rw [f0] at z; cases z
     ·rintro rfl
      rcases hc with z | z
      ·rw [z,q] at g0; cases g0
      ·rw [g0] at z; cases z
  refine ⟨.ref s.heap.objs.size,_,I2,Z,⟨_,x,hn,Z,λys hy=>by rw [I.list_inj hy hq]; exact hx,Z⟩,⟨⟨u,he''⟩,hit'.at λo q=>(sb.2 it (Ne.symm jo)).trans q⟩,λb hb=>?_⟩
  rcases As hb with z | z
  ·subst z; rw [Zh (At eo)]; exact f0
  ·have z:b=it:=by simpa using z
   subst z; rw [Zh (At io)]; exact g0
 done:=by
  intro X hP hw hK hc i i7 s σ H E I hf st hg;subst hP hw hK;obtain ⟨xs,hq,hx⟩:=hg;obtain ⟨its,rv,p,hz⟩:=I.list hq;obtain ⟨g0,g1,g2,g3,g4,g5⟩:=hf it (by simp);obtain ⟨⟨j6,he⟩,n9⟩:=st;have hl:=rv.length;exact wpAny_pyNext_enum_end (I.ok.hd hc) he n9 p.isList (by simp; lia) λh' eb=>⟨rfl,I.turned (t':=s.toks) (λb o hb e=>eb b o hb e) g0 g1 g3 g4 g5⟩
 self:=λ_ _ _ _ _ st h=>by
  obtain ⟨⟨j6,he⟩,_⟩:=st;exact wpAny_pyIter_enum he h
variable {X:Cx}
def Zo1 (K:W.Frag) (ta:TA):TI:=λσ H R=>ta σ H λvs H1=>∃ a,vs=[.ref a]/\(∃ xs,SqL K H1 a xs)/\R (Ite K a) H1
def Zl3 {l7:List Expr} {x1:Nat} {og p pos:Pos} {l:Expr} {ta:TA} (hg:Gl X "enumerate") (hm:X.mg "enumerate"=none) (ha:PA X [l] ta) (hs:starEach [l] X.env=[(false,eval l X.env)]:=by rfl):PI X (.Tuple l7 x1 og) (.Call (.Name "enumerate" p) [l] [] pos) (Zo1 X.K ta):=by
 intro i7 s σ H R I h;refine Call_ (Wp I hg hm boot_enumerate (PyProof.Rows.callWith_type1 (thn (ha pos i7 s σ H _ I h) λus s1 zz33=>?_) hs Z));obtain ⟨vs,H1,I1,r1,q1⟩:=zz33;obtain ⟨a,e,⟨xs,hq⟩,q⟩:=q1;subst e;obtain ⟨u,rfl,ru⟩:=Xv r1;cases ru;obtain ⟨its,rv,pl,hz⟩:=I1.list hq;refine call_enumerate_list pl.isList λh' he n9 hsz hk=>wpAny_pyIter_enum he ?_;have I2:Inv X i7 σ H1 { s1 with heap:=h' }:=I1.kept (t':=s1.toks) hk;refine ⟨s1.heap.objs.size + 1,[s1.heap.objs.size + 1,s1.heap.objs.size],_,_,H1,Z,I2,Zg2 a _ _ (Nat.succ_ne_self _),⟨⟨.none,he⟩,n9⟩,λb hb=>?_,q⟩
 rcases As hb with z | z
 ·subst z; exact I1.fpOk (Nat.le_succ _) (I1.hok.fresh (Nat.le_succ _))
 ·have z:b=s1.heap.objs.size:=by simpa using z
  subst z; exact I1.fpOk (Ao _) (I1.hok.fresh (Ao _))
def Zkm {K:W.Frag} {a:Addr} {xs:List V} {g:TG} {tb:TS} {D:Ends} {σ:St} {H:Hp} (Pv:Nat->St->Hp->Prop) (h0:Pv 0 σ H) (hl:∀ i σ H,i<=xs.length->Pv i σ H->SqL K H a xs)
  (hs:∀ i x σ H q,xs[i]?=some x->H q=none->Pv i σ H->g (.ref q) σ (upd H q (.tup [.int i,x])) λσ2 H2=>tb { D with nx:=Pv (i + 1),ct:=Pv (i + 1),bk:=D.nx } σ2 H2) (hd:∀ σ H,Pv xs.length σ H->D.nx σ H) :
  ∃ W:Nat->Nat->St->Hp->Prop,(∃ m,W 0 m σ H)/\∀ i m σ H,W i m σ H ->
   ((Ite K a).stop i H/\D.nx σ H)\/((Ite K a).go i H/\∃ N:St->Hp->Prop,(∀ σ' H',N σ' H'->∃ m',m' < m/\W (i + 1) m' σ' H')/\∀ x H',(Ite K a).yld i H x H'->g x σ H' λσ2 H2=>tb { D with nx:=N,ct:=N,bk:=D.nx } σ2 H2):=by
 refine ⟨λi m σ H=>m=xs.length - i/\i<=xs.length/\Pv i σ H,⟨xs.length,by simp,A0 _,h0⟩,?_⟩;rintro i m σ H ⟨rfl,hi,p⟩;have q:=hl i σ H hi p;by_cases jh:i < xs.length
 ·refine .inr ⟨⟨xs,xs[i],q,by simp [jh]⟩,Pv (i + 1),λσ' H' p'=>⟨xs.length - (i + 1),by lia,Z,jh,p'⟩,λx H' y=>?_⟩
  obtain ⟨c,z,hn,e1,e2,e3⟩:=y;subst e1 e3;exact hs i z σ H c (e2 xs q) hn p
 ·have e:i=xs.length:=by lia
  subst e;exact .inl ⟨⟨xs,q,Ao _⟩,hd σ H p⟩
def Zkk {kvs:List (Key × V)} {g:TG} {tb:TS} {D:Ends} (Pv:Nat->St->Hp->Prop) (h0:Pv 0 σ H) (hl:∀ i σ H,i<=kvs.length->Pv i σ H->H d=some (.frz o (.dK kvs)))
  (hs:∀ i k x σ H,kvs[i]?=some (k,x)->Pv i σ H->g x σ H λσ2 H2=>tb { D with nx:=Pv (i + 1),ct:=Pv (i + 1),bk:=D.nx } σ2 H2) (hd:∀ σ H,Pv kvs.length σ H->D.nx σ H) :
  ∃ W:Nat->Nat->St->Hp->Prop,(∃ m,W 0 m σ H)/\∀ i m σ H,W i m σ H ->
   ((Itv2 d kvs o).stop i H/\D.nx σ H)\/((Itv2 d kvs o).go i H/\∃ N:St->Hp->Prop,(∀ σ' H',N σ' H'->∃ m',m' < m/\W (i + 1) m' σ' H')/\∀ x H',(Itv2 d kvs o).yld i H x H'->g x σ H' λσ2 H2=>tb { D with nx:=N,ct:=N,bk:=D.nx } σ2 H2):=by
 refine ⟨λi m σ H=>m=kvs.length - i/\i<=kvs.length/\Pv i σ H,⟨kvs.length,by simp,A0 _,h0⟩,?_⟩;rintro i m σ H ⟨rfl,hi,p⟩;have q:=hl i σ H hi p;by_cases jh:i < kvs.length
 ·refine .inr ⟨⟨jh,q⟩,Pv (i + 1),λσ' H' p'=>⟨kvs.length - (i + 1),by lia,Z,jh,p'⟩,λx H' y=>?_⟩
  obtain ⟨e,k,y⟩:=y;subst e;exact hs i k x σ _ y p
 ·have e:i=kvs.length:=by lia
  subst e;exact .inl ⟨⟨Ao _,q⟩,hd σ H p⟩
def Zle (ta:TA):TE:=λσ H Q=>ta σ H λvs H1=>∃ n:Nat,vs=[.int n]/\n<=1000/\∀ p,H1 p=none->Q (.ref p) (upd H1 p (.lst ((List.range n).map λ(i:Nat)=>V.int i)))
def Zcz {p1 p2:Pos} (zx:Gl X "list") (zk:X.mg "list"=none) (hg:Gl X "range") (hm:X.mg "range"=none) (hc:X.calm=true) (ha:PA X [a] ta) (hs:starEach [a] X.env=[(false,eval a X.env)]:=by rfl)
  (n5:starEach [.Call (.Name "range" p2) [a] [] k7] X.env=[(false,eval (.Call (.Name "range" p2) [a] [] k7) X.env)]:=by rfl):PE X (.Call (.Name "list" p1) [.Call (.Name "range" p2) [a] [] k7] [] pos) (Zle ta):=by
 intro i7 s σ H Q I h;refine Call_ (Wp I zx zk PySem.Pv.boot_list (PyProof.Rows.callWith_type1 ?_ n5 Z));rw [n5];refine Calls.spliced_cons ?_;refine Call_ (Wp I hg hm boot_range (PyProof.Rows.callWith_type1 (thn (ha k7 i7 s σ H _ I h) λus s1 zz34=>?_) hs Z));obtain ⟨vs,H1,I1,r1,q1⟩:=zz34;obtain ⟨n,e,hn,q⟩:=q1;subst e;obtain ⟨u,rfl,ru⟩:=Xv r1;obtain ⟨t,rfl⟩:=ru;refine call_range_1 (Calls.spliced_nil ?_);have hr:Builtin.Range.rangeSize 0 (n:Int) 1=n:=by rw [rangeSize_one]; split <;> lia
 refine call_list_range (I.ok.hd hc) (IsRange.new ..) (small_one (by lia) (by lia) (by lia) (by lia)) hr (by lia) λh' tk i9 c' hk hS ou=>?_;have hk1:∀ b o,s1.heap.get? b=some o->h'.get? b=some o:=λb o e=>hk b o (Al _ e)
 have hv:Vals ((List.range n).map λ(i:Nat)=>V.int i) i9.toList:=by
  have gen:∀ (l:List Value) (k:Nat),(∀ (j:Nat) (v:Value),l[j]?=some v->∃ t,v=.int ((k + j:Nat):Int) t)->Vals ((List.range' k l.length).map λ(i:Nat)=>V.int i) l:=by
   intro l
   induction l with
   | nil=>intro k _; exact .nil
   | cons v r ih =>
    intro k h;obtain ⟨t,e⟩:=h 0 v rfl;rw [List.length_cons,List.range'_succ,List.map_cons];refine .cons ⟨t,by rw [e]; rfl⟩ (ih (k + 1) λj w hw=>?_);obtain ⟨t',e'⟩:=h (j + 1) w (by simpa using hw);exact ⟨t',by rw [e']; congr 1; lia⟩
  have hl:i9.toList.length=n:=by rw [Array.length_toList]; exact ou.1
  have:=gen i9.toList 0 λj v hj=>by
   obtain ⟨t,e⟩:=ou.2 j v (by rw [<- Array.getElem?_toList]; exact hj);exact ⟨t,by rw [e]; congr 1; lia⟩
  rw [hl,<- List.range_eq_range'] at this;exact this
 have hle:s1.heap.objs.size<=(s1.heap.push { cls:=.type "range",data:=.fields #[.int 0 s1.toks,.int (n:Int) t,.int 1 (s1.toks + 1)] }).objs.size:=by rw [Heap.size_push]; exact Nat.le_succ _
 refine ⟨.ref _,upd H1 _ (.lst ((List.range n).map λ(i:Nat)=>V.int i)),I1.laid hk1 (Nat.le_of_lt (by first | exact Nat.lt_of_le_of_lt hle (Ap hS) | (rw [Heap.size_push]; exact Nat.lt_succ_self _))) ⟨?_,i9.toList,c',hv,?_⟩,Z,q _ (I1.hok.fresh ?_)⟩
 ·rw [Ac,List.length_range,sizeLine_eq]; lia
 ·simpa using hS
 ·rw [Heap.size_push]; exact Nat.le_succ _
end
abbrev TJ:=Str->TE
def PJ (X:Cx) (es:List Expr) (t:TJ):Prop :=
 ∀ (out:Str) (i7:List (Addr × Obj)) (s:Shared) (σ:St) (H:Hp) (Q:VK),Inv X i7 σ H s->t out σ H Q->wpAny (model X.prog X.w) X.A (joinParts out (evalEach es X.env)) (EP X i7 σ Q) X.xe s
section
variable {X:Cx} {es:List Expr} {t:TJ} {pos:Pos}
def jNil:TJ:=λout _ H Q=>out.length<=sizeLine/\Q (.str out) H
def Zp:PJ X [] jNil:=λout i7 s σ H Q I h=>joinParts_nil (⟨.str out,H,I.tok _,⟨_,rfl⟩,h.2⟩) h.1
def jTxt (x:Str) (t:TJ):TJ:=λout σ H Q=>(out ++ x).length<=sizeLine/\t (out ++ x) σ H Q
def Zf {x:Str} {k:Nat} (h:PJ X es t):PJ X (.Constant (.str x) k pos :: es) (jTxt x t):=by
 intro out i7 s σ H Q I hq;refine joinParts_cons (Calls.Constant_str ?_);exact ⟨hq.1,h _ i7 _ σ H Q (I.tok _) hq.2⟩
def jInt (te:TE) (t:TJ):TJ:=λout σ H Q=>te σ H λv H1=>∃ i:Int,v=.int i/\i.natAbs.log2 < 1920/\(out ++ (toString i:Str)).length<=sizeLine/\t (out ++ (toString i:Str)) σ H1 Q
def Zq {e:Expr} {te:TE} (he:PE X e te) (h:PJ X es t):PJ X (.FormattedValue e (-1) none pos :: es) (jInt te t):=by
 intro out i7 s σ H Q I hq;refine joinParts_cons (FormattedValue_plain (thn (he i7 s σ H _ I hq) λu s1 ja=>?_));obtain ⟨v,H1,I1,r1,i,ev,hl,hz,q⟩:=ja;subst ev;obtain ⟨tk,rfl⟩:=r1;exact formatField_int_small hl ⟨hz,h _ i7 _ σ H1 Q (I1.tok _) q⟩
def Zm {v₁ v₂:Expr} {rest:List Expr} (h:PJ X (v₁ :: v₂ :: rest) t):PE X (.JoinedStr (v₁ :: v₂ :: rest) pos) (t Str.empty):=λi7 s σ H Q I hq=>JoinedStr_many (h Str.empty i7 s σ H Q I hq)
end
section
variable {X:Cx}
def Qw (K:W.Frag) (h:X.K=K:=by rfl):IxR X (rIxL K):=h ▸ Zo
def Fp (K:W.Frag) (h:X.K=K:=by rfl):X3 X (.type "tuple") (λxs H Q=>∃ p ys,xs=[.ref p]/\((SqL K H p ys/\∀ l,H l=none->Q (.ref l) (upd H l (.tup ys)))\/(SqT K H p ys/\Q (.ref p) H))):=h ▸ Zbj
variable {tg l e:Expr} {tl ta:TE} {f:Str} {pos:Pos}
def Zl1 (K:W.Frag) (hl:PE X l tl) (h:X.K=K:=by rfl):PI X tg l (iTup K tl):=h ▸ Zhu hl
end
def Vb (w:World) (K:W.Frag) (a:Addr) (kvs:List (Key × V)):Prop :=
 ∃ o es ep vs,K.lookup a=some o/\o.ExactDict/\o.data=.dict es ep/\(∀ e∈es,∃ k,V2 k e.key=true/\e.hash=keyH w k)/\(∀ P:Program,Pairs (Yj P w) es.toList vs)/\(vs.map (·.1)).Nodup/\KV kvs vs/\(a == sysModules)=false
section
variable {X:Cx} {i o:Expr} {ty td:TE} {pos:Pos}
def Vb.here {i7:List (Addr × Obj)} {σ:St} {H:Hp} {s:Shared} {a:Addr} {kvs:List (Key × V)} (h:Vb X.w X.K a kvs) (I:Inv X i7 σ H s):(a == sysModules)=false/\∃ vs,KV kvs vs/\s.heap.DictOf (Yj X.prog X.w) a vs:=by
 obtain ⟨o,es,ep,vs,h1,h2,h3,h4,h5,h6,h7,h8⟩:=h;exact ⟨h8,vs,h7,o,es,ep,I.kIn a o h1,h2,h3,h4,h5 X.prog,h6⟩
def Zoh (w:World) (K:W.Frag) (td ty:TE):TE:=λσ H Q=>td σ H λx H1=>ty σ H1 λy H2=>∃ a kvs k v,x=.ref a/\Vb w K a kvs/\y=kV k/\valV kvs k=some v/\Q v H2
def Qf (ho:PE X o td) (hi:PE X i ty) (hs:NoSl i):PE X (.Subscript o i pos) (Zoh X.w X.K td ty):=by
 intro i7 s σ H Q I h;refine Zex PySem.F.slot_dict_getitem.lookup hs (thn (ho i7 s σ H _ I h) λu s1 zz35=>?_);obtain ⟨x,H1,I1,rx,q1⟩:=zz35;refine thn (hi i7 s1 σ H1 _ I1 q1) λiv s2 ja=>?_;obtain ⟨y,H2,I2,ry,a,kvs,k,v,ex,g,ey,hv,q2⟩:=ja;subst ex ey;obtain rfl:u=Value.ref a:=rx;obtain ⟨hd,vs,jk,dd⟩:=g.here I2;have j3:=jk.val k;rw [hv] at j3
 cases q:valueAt vs k with
 | none=>rw [q] at j3; exact j3.elim
 | some z =>
  rw [q] at j3;exact ⟨dd.typeIs,wpAny_getItem_of (J9 ry) dd.mapOf q ⟨v,H2,I2.tok _,j3,q2⟩⟩
end
section
def Itr3 (lo st:Int) (n:Nat):It:=⟨λi _=>i < n,λi H x H'=>H'=H/\x=.int (lo + i * st),λi _=>n<=i⟩
def Zdv {P:Program} {w:World} {K:W.Frag} {tg:Expr} (it:Addr) (lo st:Int) (n:Nat):Turn P w K tg (Itr3 lo st n) [it] it (λi h=>IsRangeIter h it (lo + (i:Nat) * st) ((n:Int) - (i:Nat)) st) where
 mem:=by simp
 obj:=λi h st b hb=>by
  have e:b=it:=by simpa using hb
  subst e;exact ⟨_,st,λv z=>by
   have z':Data.fields _=Data.cell v:=z
   cases z'⟩
 keep:=λi h h' st k=>k it (by simp) _ st
 item:=by
  intro X hP hw hK hc i i7 s σ H E I hf kh hg;subst hP hw hK;obtain ⟨f0,f1,f2,f3,f4,f5⟩:=hf it (by simp);have W:=Walks.range (prog:=X.prog) (w:=X.w) (I.ok.hd hc) it lo st n;refine W.item i s _ _ hg kh λv h' tk hv j' kk=>?_;obtain ⟨t,rfl⟩:=hv;have I1:Inv X i7 σ H { s with heap:=h',toks:=tk }:=I.turned (λb o hb e=>kk b o (by simpa using hb) e) f0 f1 f3 f4 f5;exact ⟨_,Z,Ol (s:={ s with heap:=h',toks:=tk }) (n:="range_iterator") j' rfl rfl (by decide) ⟨.int (lo + i * st),H,I1,⟨t,rfl⟩,⟨rfl,rfl⟩,j',λb hb=>(hf b hb).1⟩⟩
 done:=by
  intro X hP hw hK hc i i7 s σ H E I hf kh hg;subst hP hw hK;obtain ⟨f0,f1,f2,f3,f4,f5⟩:=hf it (by simp);exact wpAny_pyNext_range_end (I.ok.hd hc) kh (by have:n<=i:=hg; lia) λh' eb=>⟨rfl,I.turned (t':=s.toks) (λb o hb e=>eb b o hb e) f0 f1 f3 f4 f5⟩
 self:=λ_ _ _ _ _ st h=>wpAny_pyIter_rangeiter st h
end
section
variable {X:Cx} {fr:Bool} {pos:Pos}
def Zol (te:TEX) (g:TG):TSX:=λD R σ H=>te σ H (λx H1=>g x σ H1 D.nx) λcls _ H1=>R cls σ H1
def Zlw {tg e:Expr} {te:TEX} {g:TG} (he:PEX fr X e te) (hg:PG X tg g) (hs:swapsWithSole [tg] e pos.line X.env=pure false:=by rfl) (hw:swappedStores [tg] e X.env=pure none:=by rfl)
  (h1:(assignEach [tg] X.env).map (·.2)=[assign tg X.env]:=by rfl) (hx:X.xe=(λ_ _=>False):=by rfl):PSX fr X (.Assign [tg] e pos) (Zol te g):=by
 intro i7 s σ H D R I h;refine wpAny_Assign_stores (wpAny_mono (he i7 s σ H _ _ I h) (λv s1 ⟨x,H1,I1,r1,q1⟩=>?_) ?_) hs hw
 ·rw [h1]
  have z:=hg i7 s1 σ H1 x v _ I1 r1 q1;rw [hx] at z;exact wpAny_mono z (λ_ _ y=>y) λ_ _ y=>y.elim
 ·rintro ev s1 ⟨e,T,cls,a0,σ',H',g1,g2,g3,g4,g5,g7,rfl,g6⟩
  exact ⟨e,T,cls,a0,σ',H',g1,g2,g3,g4,g5,g7,g6⟩
end
def kdict_mk2 {w:World} {K:W.Frag} {a:Addr} {h1 h2:Int} {t1 t2 t3 t4:Tok} {ep:Nat} {x1 y1 x2 y2:Str}
  (l:K.lookup a=some ⟨.type "dict",none,.dict #[⟨h1,.str x1 t1,.str y1 t2⟩,⟨h2,.str x2 t3,.str y2 t4⟩] ep,#[]⟩) (e1:h1=hashStr w x1) (e2:h2=hashStr w x2) (ne:x1≠x2) (sy:(a == sysModules)=false) :
  Vb w K a [(Sum.inr x1,.str y1),(Sum.inr x2,.str y2)]:=by
 refine ⟨_,_,_,[(Sum.inr x1,.str y1 t2),(Sum.inr x2,.str y2 t4)],l,⟨Z,Z,Z⟩,Z,λe he=>?_,λP=>?_,?_,?_,sy⟩
 ·have he:e=⟨h1,.str x1 t1,.str y1 t2⟩\/e=⟨h2,.str x2 t3,.str y2 t4⟩:=by simpa using he
  rcases he with rfl | rfl
  ·exact ⟨Sum.inr x1,Yq x1 t1,e1⟩
  ·exact ⟨Sum.inr x2,Yq x2 t3,e2⟩
 ·exact .cons (Yq x1 t1) Z (.cons (Yq x2 t3) Z .nil)
 ·refine List.nodup_cons.mpr ⟨?_,by simp⟩
  simp [ne]
 ·exact .cons ⟨Z,⟨_,Z⟩⟩ (.cons ⟨Z,⟨_,Z⟩⟩ .nil)
section
variable {X:Cx}
def rEqL (K:W.Frag):R2:=λx y H Q=>∃ a b ns ms,x=.ref a/\y=.ref b/\SqL K H a (List.map V.int ns)/\SqL K H b (List.map V.int ms)/\Q (.bl (decide (ns=ms))) H
def Znm (hu:X.A.units + 64 < cLine):OpR X (compareOp .Eq) (rEqL X.K):=by
 intro i7 s σ H x y v u Q I rx ry h;obtain ⟨a,b,ns,ms,rfl,rfl,ha,hb,q⟩:=h;cases rx;cases ry;obtain ⟨ia,ra,pa,_⟩:=I.list ha;obtain ⟨ib,rb,pb,_⟩:=I.list hb;exact PySem.W.eq_intsK pa.isList (V3 ra) pb.isList (V3 rb) hu ⟨.bl _,H,I,Z,q⟩
def Zi2 (bs:List Bool):((List.range bs.length).all λi=>bs.getD i true)=bs.all id:=by
 rw [Bool.eq_iff_iff,List.all_eq_true,List.all_eq_true];constructor
 ·intro h b hb
  obtain ⟨i,hi,rfl⟩:=List.mem_iff_getElem.mp hb;have:=h i (List.mem_range.mpr hi);rw [Ae,Ad hi] at this;exact this
 ·intro h i hi
  have hi:=List.mem_range.mp hi;rw [Ae,Ad hi];exact h _ (List.getElem_mem hi)
def Kv (hc:X.calm=true):X3 X (.builtin "all") (λxs H Q=>∃ p bs,xs=[.ref p]/\SqL X.K H p (List.map V.bl bs)/\Q (.bl (bs.all id)) H):=by
 intro i7 s σ H xs us Q I r h;obtain ⟨p,bs,rfl,hq,q⟩:=h;obtain ⟨u,rfl,ru⟩:=Xv r;cases ru;obtain ⟨its,rv,pl,hz⟩:=I.list hq;have ne:p≠s.heap.objs.size:=by obtain ⟨o,ho,_⟩:=pl.isList; exact At (Ap ho)
 refine call_all_walk (wpAny_pyIter_list pl.isList ⟨s.heap.objs.size,_,_,_,_,_,λi=>bs.getD i true,Z,Walks.list (A:=X.A.in1) (show X.A.in1.handled=none from I.ok.hd hc) s.heap.objs.size p ne its.toArray,⟨⟨_,Aq _ Z,Z,Z⟩,pl.isList.push _⟩,?_,?_⟩)
 ·intro i v s' Q' E' hv m9
  have hv:its[i]?=some v:=by simpa using hv
  have jb:=rv.length;rw [Ac] at jb;have hi:i < bs.length:=by have:=(Aa hv).1; lia
  obtain ⟨u,hu,ru⟩:=rv.get (show (bs.map V.bl)[i]?=some (V.bl bs[i]) by rw [Ai,Ad hi]; rfl);rw [hv] at hu;cases hu;cases ru;have e:bs.getD i true=bs[i]:=by rw [Ae,Ad hi]; rfl
  refine wpAny_truthy_bool ?_;have m9:Q' (bs.getD i true) s':=m9;rw [e] at m9;exact m9
 ·intro h' tk hk
  have I1:Inv X i7 σ H { s with heap:=h',toks:=tk }:=I.kept λb o e=>hk b o (λz=>absurd (Ap e) (by rw [Ag z]; exact Nat.lt_irrefl _)) (Al _ e);have jb:its.toArray.size=bs.length:=by have:=rv.length; rw [Ac] at this; simp; lia
  refine ⟨.bl (bs.all id),H,I1,?_,q⟩;show Value.bool _=_;rw [jb,Zi2]
end
section
def Itz (K:W.Frag) (a b:Addr):It :=
  ⟨λi H=>∃ xs ys x y,SqL K H a xs/\SqL K H b ys/\xs[i]?=some x/\ys[i]?=some y,
   λi H v H'=>∃ q x y,H q=none/\v=.ref q/\(∀ xs,SqL K H a xs->xs[i]?=some x)/\(∀ ys,SqL K H b ys->ys[i]?=some y)/\H'=upd H q (.tup [x,y]),
   λi H=>∃ xs ys,SqL K H a xs/\SqL K H b ys/\(xs.length<=i\/ys.length<=i)⟩
def Zi4 {P:Program} {w:World} {K:W.Frag} {l7:List Expr} {x1:Nat} {pos:Pos} (a b z TI TO i1 i2:Addr) (D:ZipApart z TI TO i1 i2 a b) :
  Turn P w K (.Tuple l7 x1 pos) (Itz K a b) [z,TI,TO,i1,i2] z (λi h=>IsZip h z TI TO .none/\IsPair h TI (.ref i1) (.ref i2)/\(∃ u v,IsPair h TO u v)/\h.IsListIter i1 a i/\h.IsListIter i2 b i) where
 mem:=by simp
 obj:=λi h st c hc=>by
  obtain ⟨s1,s2,⟨u,v,s3⟩,⟨o4,e4,c4,d4⟩,o5,e5,c5,d5⟩:=st;have hc:c=z\/c=TI\/c=TO\/c=i1\/c=i2:=by simpa using hc
  rcases hc with rfl | rfl | rfl | rfl | rfl
  ·exact ⟨_,s1,λv y=>by have y':Data.fields _=Data.cell v:=y; cases y'⟩
  ·exact ⟨_,s2,λv y=>by have y':Data.seq _ _=Data.cell v:=y; cases y'⟩
  ·exact ⟨_,s3,λv y=>by have y':Data.seq _ _=Data.cell v:=y; cases y'⟩
  ·exact ⟨o4,e4,λv y=>by rw [d4] at y; cases y⟩
  ·exact ⟨o5,e5,λv y=>by rw [d5] at y; cases y⟩
 keep:=λi h h' st k=>by
  obtain ⟨s1,s2,⟨u,v,s3⟩,s4,s5⟩:=st;exact ⟨k z (by simp) _ s1,k TI (by simp) _ s2,⟨u,v,k TO (by simp) _ s3⟩,s4.at λo e=>k i1 (by simp) o e,s5.at λo e=>k i2 (by simp) o e⟩
 item:=by
  intro X hP hw hK hc i i7 s σ H E I hf st hg;subst hP hw hK;obtain ⟨xs,ys,x,y,up,uo,hx,hy⟩:=hg;obtain ⟨itx,xc,px,_⟩:=I.list up;obtain ⟨ity,xb,py,_⟩:=I.list uo;obtain ⟨u,hu,ru⟩:=xc.get hx;obtain ⟨v,hv,rv⟩:=xb.get hy;obtain ⟨s1,s2,⟨u0,v0,s3⟩,s4,s5⟩:=st;refine wpAny_pyNext_zip_item D s1 s2 s3 s4 s5 px.isList py.isList (x:=u) (y:=v) (by simpa using hu) (by simpa using hv) λh' a1 a2 a3 a4 a5 a6 a7=>?_;refine ⟨.ref s.heap.objs.size,Z,wpAny_letOwnedTupleGo_zip a1 λsi b1 sb=>?_⟩;have lt:∀ c∈[z,TI,TO,i1,i2],c < s.heap.objs.size:=λc hc=>by
   obtain ⟨o,e,_⟩:∃ o,s.heap.get? c=some o/\True:=by
    have hc:c=z\/c=TI\/c=TO\/c=i1\/c=i2:=by simpa using hc
    rcases hc with rfl | rfl | rfl | rfl | rfl
    ·exact ⟨_,s1,trivial⟩
    ·exact ⟨_,s2,trivial⟩
    ·exact ⟨_,s3,trivial⟩
    ·obtain ⟨o,e,_⟩:=s4; exact ⟨o,e,trivial⟩
    ·obtain ⟨o,e,_⟩:=s5; exact ⟨o,e,trivial⟩
   exact Ap e
  have js:∀ c o,c≠z->c≠TO->c≠i1->c≠i2->s.heap.get? c=some o->si.get? c=some o:=λc o n1 n2 n3 n4 e=>(sb.2 c n1).trans (a7 c o n1 n2 n3 n4 e);have zl:=lt z (by simp);have tz:si.get? s.heap.objs.size=some { cls:=.type "tuple",data:=.seq #[u,v] }:=(sb.2 _ (Nat.ne_of_gt zl)).trans a5;have hn:H s.heap.objs.size=none:=I.hok.fresh (Ao _)
  have I2:Inv X i7 σ (upd H s.heap.objs.size (.tup [x,y])) { s with heap:=si }:=by
   have out:∀ c,c ∉ [z,TO,i1,i2]->c≠z/\c≠TO/\c≠i1/\c≠i2:=λc hc=>by simpa using hc
   refine I.step (g':=s.gens) (d':=s.drawn) (ch:=[z,TO,i1,i2]) (λc hc=>?_) (λc o _ _ hc q _=>?_) (λc o _ _ hc q _=>⟨o.slots,?_⟩) (λc o _ q n=>by rw [Zh (At (Ap q))]; exact n)
    (λc o hc q=>⟨o,?_⟩) (λc zs q=>by rw [Zh (Zr q hn)]; exact q) (λc o zs q=>by rw [Zh (Zr q hn)]; exact q) (λc ps q=>⟨#[],by rw [Zh (Zr q hn),q]; simp⟩) (λm hm=>?_) (λc v' q=>?_) I.bare
   ·have hc:c=z\/c=TO\/c=i1\/c=i2:=by simpa using hc
    have hm:c∈[z,TI,TO,i1,i2]:=by rcases hc with rfl | rfl | rfl | rfl <;> simp
    obtain ⟨f0,f1,f2,f3,f4,f5⟩:=hf c hm;exact ⟨f3,f1,f4,f5⟩
   ·obtain ⟨n1,n2,n3,n4⟩:=out c hc; exact js c o n1 n2 n3 n4 q
   ·obtain ⟨n1,n2,n3,n4⟩:=out c hc; exact js c o n1 n2 n3 n4 q
   ·obtain ⟨n1,n2,n3,n4⟩:=out c hc; exact js c o n1 n2 n3 n4 q
   ·obtain ⟨o,es,ep,ho,r⟩:=hm
    exact ⟨o,es,ep,js _ o (Ne.symm (hf z (by simp)).2.1) (Ne.symm (hf TO (by simp)).2.1) (Ne.symm (hf i1 (by simp)).2.1) (Ne.symm (hf i2 (by simp)).2.1) ho,r⟩
   ·by_cases hb:c=s.heap.objs.size
    ·subst hb
     rw [Zc] at q;cases q;exact ⟨by show 2<=sizeLine; decide,[u,v],.cons ru (.cons rv .nil),⟨_,tz,rfl,_,rfl⟩⟩
    ·rw [Zh hb] at q
     refine (I.hok c v' q).stay (λe w' he y'=>js e w' ?_ ?_ ?_ ?_ y') (λd y'=>by rw [Zh (Zr y' hn)]; exact y') λd zs y'=>by rw [Zh (Zr y' hn)]; exact y'
     all_goals
      rintro rfl;have re:H e=none:=(hf e (by simp)).1
      rcases he with y' | y'
      ·rw [y',q] at re; cases re
      ·rw [re] at y'; cases y'
  refine ⟨.ref s.heap.objs.size,_,I2,Z,⟨_,x,y,hn,Z,λxs' pe=>by rw [I.list_inj pe up]; exact hx,λys' pe=>by rw [I.list_inj pe uo]; exact hy,Z⟩,
   ⟨b1,(sb.2 TI D.TIz).trans (a7 TI _ D.TIz D.TITO D.TIi1 D.TIi2 s2),⟨u,v,(sb.2 TO D.TOz).trans a2⟩,a3.at λo e=>(sb.2 i1 D.i1z).trans e,a4.at λo e=>(sb.2 i2 D.i2z).trans e⟩,λc hc=>?_⟩;rw [Zh (At (lt c hc))];exact (hf c hc).1
 done:=by
  intro X hP hw hK hc i i7 s σ H E I hf st hg;subst hP hw hK;obtain ⟨xs,ys,up,uo,jb⟩:=hg;obtain ⟨itx,xc,px,_⟩:=I.list up;obtain ⟨ity,xb,py,_⟩:=I.list uo;obtain ⟨s1,s2,⟨u0,v0,s3⟩,s4,s5⟩:=st;have l1:=xc.length;have l2:=xb.length;refine wpAny_pyNext_zip_end (I.ok.hd hc) D s1 s2 s3 s4 s5 px.isList py.isList ?_ λh' eb=>⟨Z,?_⟩
  ·rcases jb with z | z
   ·exact .inl (by simp; lia)
   ·exact .inr (by simp; lia)
  ·have out:∀ c,c ∉ [z,TO,i1,i2]->c≠z/\c≠TO/\c≠i1/\c≠i2:=λc hc=>by simpa using hc
   refine I.step (g':=s.gens) (d':=s.drawn) (t':=s.toks) (ch:=[z,TO,i1,i2]) (λc hc=>?_) (λc o _ _ hc q _=>?_) (λc o _ _ hc q _=>⟨o.slots,?_⟩) (λc o _ q n=>n)
    (λc o hc q=>⟨o,?_⟩) (λc zs q=>q) (λc o zs q=>q) (λc ps q=>⟨#[],by rw [q]; simp⟩) (λm hm=>?_) (λc v' q=>?_) I.bare
   ·have hc:c=z\/c=TO\/c=i1\/c=i2:=by simpa using hc
    have hm:c∈[z,TI,TO,i1,i2]:=by rcases hc with rfl | rfl | rfl | rfl <;> simp
    obtain ⟨f0,f1,f2,f3,f4,f5⟩:=hf c hm;exact ⟨f3,f1,f4,f5⟩
   ·obtain ⟨n1,n2,n3,n4⟩:=out c hc; exact eb c o n1 n2 n3 n4 q
   ·obtain ⟨n1,n2,n3,n4⟩:=out c hc; exact eb c o n1 n2 n3 n4 q
   ·obtain ⟨n1,n2,n3,n4⟩:=out c hc; exact eb c o n1 n2 n3 n4 q
   ·obtain ⟨o,es,ep,ho,r⟩:=hm
    exact ⟨o,es,ep,eb _ o (Ne.symm (hf z (by simp)).2.1) (Ne.symm (hf TO (by simp)).2.1) (Ne.symm (hf i1 (by simp)).2.1) (Ne.symm (hf i2 (by simp)).2.1) ho,r⟩
   ·refine (I.hok c v' q).stay (λe w' he y'=>eb e w' ?_ ?_ ?_ ?_ y') (λd y'=>y') λd zs y'=>y'
    all_goals
     rintro rfl;have re:H e=none:=(hf e (by simp)).1
     rcases he with y' | y'
     ·rw [y',q] at re; cases re
     ·rw [re] at y'; cases y'
 self:=λ_ _ _ _ _ st h=>wpAny_pyIter_zip st.1 h
def Zgw (la:a < N) (lb:b < N):ZipApart (N + 4) (N + 2) (N + 3) N (N + 1) a b:=by
 constructor <;> (intro z; first | exact absurd (show (_:Nat)=_ from z) (by lia) | lia)
variable {X:Cx}
def iZip (K:W.Frag) (ta:TA):TI:=λσ H R=>ta σ H λvs H1=>∃ a b xs ys,vs=[.ref a,.ref b]/\SqL K H1 a xs/\SqL K H1 b ys/\R (Itz K a b) H1
def Zne {l7:List Expr} {x1:Nat} {og p pos:Pos} {l m:Expr} {ta:TA} (hg:Gl X "zip") (hm:X.mg "zip"=none) (ha:PA X [l,m] ta) (hs:starEach [l,m] X.env=[(false,eval l X.env),(false,eval m X.env)]:=by rfl) (n5:starEach [m] X.env=[(false,eval m X.env)]:=by rfl) :
  PI X (.Tuple l7 x1 og) (.Call (.Name "zip" p) [l,m] [] pos) (iZip X.K ta):=by
 intro i7 s σ H R I h;refine Call_ (Wp I hg hm boot_zip (PyProof.Rows.callWith_type1 (thn (ha pos i7 s σ H _ I h) λus s1 ⟨vs,H1,I1,r1,q1⟩=>?_) (by rw [hs,n5]) (by rw [n5]; rfl)));obtain ⟨a,b,xs,ys,e,up,uo,q⟩:=q1;subst e;obtain ⟨u,v,rfl,ru,rv⟩:=r1.two;cases ru;cases rv;obtain ⟨itx,xc,px,_⟩:=I1.list up;obtain ⟨ity,xb,py,_⟩:=I1.list uo;have la:a < s1.heap.objs.size:=by obtain ⟨o,ho,_⟩:=px.isList; exact Ap ho
 have lb:b < s1.heap.objs.size:=by obtain ⟨o,ho,_⟩:=py.isList; exact Ap ho
 refine call_zip_2 px.isList py.isList λh' z1 z2 z3 z4 z5 z6 z7=>wpAny_pyIter_zip z1 ?_;have I2:Inv X i7 σ H1 { s1 with heap:=h' }:=I1.kept (t':=s1.toks) z7;generalize hN:s1.heap.objs.size=N at *;refine ⟨N + 4,[N + 4,N + 2,N + 3,N,N + 1],_,_,H1,Z,I2,Zi4 a b (N + 4) (N + 2) (N + 3) N (N + 1) (Zgw la lb),⟨z1,z2,⟨_,_,z3⟩,z4,z5⟩,λc hc=>?_,q⟩;have hc:s1.heap.objs.size<=c:=by
  have hc:c=N + 4\/c=N + 2\/c=N + 3\/c=N\/c=N + 1:=by simpa using hc
  rw [hN]
  rcases hc with rfl | rfl | rfl | rfl | rfl
  ·exact Nat.le_add_right _ _
  ·exact Nat.le_add_right _ _
  ·exact Nat.le_add_right _ _
  ·exact Ao _
  ·exact Nat.le_add_right _ _
 exact I1.fpOk hc (I1.hok.fresh hc)
def Zj7 {K:W.Frag} {a b:Addr} {xs ys:List V} {g:TG} {tt:TT} {tb:TB} {R:St->Hp->Prop} {σ:St} {H:Hp} (jb:xs.length=ys.length) (Pv:Nat->St->Hp->Prop) (h0:Pv 0 σ H) (hl:∀ i σ H,i<=xs.length->Pv i σ H->SqL K H a xs/\SqL K H b ys)
  (hs:∀ (i:Nat) x y σ H q,xs[i]?=some x->ys[i]?=some y->H q=none->Pv i σ H->g (.ref q) σ (upd H q (.tup [x,y])) λσ2 H2=>tt σ2 H2 λb H3=>if b=true then tb σ2 H3 (Pv (i + 1)) else Pv (i + 1) σ2 H3) (hd:∀ σ H,Pv xs.length σ H->R σ H):Wz (Itz K a b) g tt tb R σ H:=by
 refine ⟨λi m σ H=>m=xs.length - i/\i<=xs.length/\Pv i σ H,⟨xs.length,by simp,A0 _,h0⟩,?_⟩;rintro i m σ H ⟨rfl,hi,p⟩;obtain ⟨q1,q2⟩:=hl i σ H hi p;by_cases jh:i < xs.length
 ·have hlt2:i < ys.length:=by lia
  refine .inr ⟨⟨xs,ys,xs[i],ys[i],q1,q2,by simp [jh],by simp [hlt2]⟩,Pv (i + 1),λσ' H' p'=>⟨xs.length - (i + 1),by lia,Z,jh,p'⟩,λx H' y=>?_⟩;obtain ⟨c,u,v,hn,e1,y1,y2,e2⟩:=y;subst e1 e2;exact hs i u v σ H c (y1 xs q1) (y2 ys q2) hn p
 ·have e:i=xs.length:=by lia
  subst e;exact .inl ⟨⟨xs,ys,q1,q2,.inl (Ao _)⟩,hd σ H p⟩
end
section
variable {prog:Program} {w:World} {A:Around} {E:Value->Shared->Prop} {s:Shared}
abbrev upIt (a n:Int):Obj:={ cls:=.type "range_iterator",data:=.fields #[rawInt (a + (n - 1) * 1),rawInt n,rawInt (-1)] }
def Vn (h1:-(2 ^ 62)<=z) (h2:z < 2 ^ 62):Builtin.Range.rangeFitsLong z=true:=by
 unfold Builtin.Range.rangeFitsLong;rw [Bool.and_eq_true,decide_eq_true_eq,decide_eq_true_eq];lia
def Zjk (r:Addr) (a b:Int) (t u v:Tok) (hs:(Builtin.Range.rangeFitsLong a && Builtin.Range.rangeFitsLong b && Builtin.Range.rangeFitsLong 1 && Builtin.Range.rangeFitsLong (-1) && Builtin.Range.rangeFitsLong (a - 1) && Builtin.Range.rangeFitsLong (Builtin.Range.rangeSize a b 1))=true) :
  Meets (Builtin.«range.__reversed__» ⟨[.ref r],[]⟩) (λ_ R s=>IsRange s.heap r a b 1 t u v/\R (.ok (.ret (.ref s.heap.objs.size))) { s with heap:=s.heap.push (upIt a (Builtin.Range.rangeSize a b 1)) }) :=
 .of_wp λprog w A R s h=>by
  obtain ⟨hp,g,d,tk,os⟩:=s;obtain ⟨hl,h⟩:=h;unfold Builtin.«range.__reversed__»;refine Am (wpAny_of_eq (a:=Value.ref r) Z ?_);refine Am (m:=Builtin.Range.rangeFields (.ref r)) ?_;unfold Builtin.Range.rangeFields;refine Am (wpAny_field hl Z (x:=.int a t) Z ?_);refine Am (wpAny_of_eq (a:=some a) Z ?_);refine Am (wpAny_field hl Z (x:=.int b u) Z ?_);refine Am (wpAny_of_eq (a:=some b) Z ?_);refine Am (wpAny_field hl Z (x:=.int 1 v) Z ?_);refine Am (wpAny_of_eq (a:=some 1) Z ?_);refine wpAny_pure ?_;dsimp only;simp only [hs,Bool.not_true,Bool.false_eq_true,if_false,if_true];exact Am (wpAny_newObj_type (wpAny_pure ⟨_,Z,h⟩))
def Zm9:isSubtype (.type "range_iterator") (.type "reversed")=pure false:=by
 rw [isSubtype_type]
 kernel_rfl
def Zlq {t:Tok} (hr:IsRange s.heap r a b 1 t u v)
  (hs:(Builtin.Range.rangeFitsLong a && Builtin.Range.rangeFitsLong b && Builtin.Range.rangeFitsLong 1 && Builtin.Range.rangeFitsLong (-1) && Builtin.Range.rangeFitsLong (a - 1) && Builtin.Range.rangeFitsLong (Builtin.Range.rangeSize a b 1))=true)
  (q:Qzj (.ref s.heap.objs.size) { s with heap:=s.heap.push (upIt a (Builtin.Range.rangeSize a b 1)) }) :
  codeAny (model prog w) A (.call (.builtin "reversed.__new__") ⟨[.type "reversed",.ref r],[]⟩) (wants Qzj E) s:=by
 have hT:s.TypeIs (.ref r) "range":=⟨_,hr,rfl⟩;refine codeAny_of_tree (show wpAny _ A.in1 (checkBuiltinCall "reversed.__new__" ⟨[.type "reversed",.ref r],[]⟩ >>= λ_=>again (.builtin "reversed.__new__" ⟨[.type "reversed",.ref r],[]⟩)) _ _ s from ?_);refine Am (wpAny_of_eq (PySem.F.newCall_reversed_1 (.ref r)) (wpAny_pure ⟨plainId_quiet PySem.F.plain_reversed_new _,codeAny_builtin PySem.F.entry_reversed_new ?_⟩));rw [Around.under_plainId PySem.F.plain_reversed_new _];unfold Builtin.«reversed.__new__»;refine Am (wpAny_of_eq (newClass_reversed (.ref r)) ?_);refine Am (wpAny_of_eq (a:=()) (by first | rfl | kernel_rfl) (Am (wpAny_of_eq (a:=()) (by first | rfl | kernel_rfl) ?_)));refine Am (wpAny_specialOf hT PySem.F.slot_range_reversed.lookup (Am (wpAny_of_eq (PySem.F.slot_range_reversed.bind (.ref r)) ?_)));have ne:¬ ((Value.builtin "range.__reversed__" == Value.none)=true):=Bool.false_ne_true;dsimp only
 first | rw [if_neg ne] | (show wpAny _ _ (if (Value.builtin "range.__reversed__" == Value.none)=true then _ else _) _ _ _; rw [if_neg ne])
 refine Am (wpAny_rule (Am (m:=runValue (.call (.builtin "range.__reversed__") ⟨[.ref r],[]⟩)) ?_));show wpAny _ _ (call (.builtin "range.__reversed__") [.ref r]) _ _ _;refine call_meets PySem.F.slot_range_reversed hT PySem.F.entry_range_reversed (PySem.F.args_range_reversed_1 _) (Zjk r a b t u v hs) ⟨hr,?_⟩
 first | exact wpAny_pure q | exact Am (wpAny_pure (wpAny_pure q))
def Zlr {t:Tok} (hr:IsRange s.heap r a b 1 t u v)
  (hs:(Builtin.Range.rangeFitsLong a && Builtin.Range.rangeFitsLong b && Builtin.Range.rangeFitsLong 1 && Builtin.Range.rangeFitsLong (-1) && Builtin.Range.rangeFitsLong (a - 1) && Builtin.Range.rangeFitsLong (Builtin.Range.rangeSize a b 1))=true)
  (q:Q (.ref s.heap.objs.size) { s with heap:=s.heap.push (upIt a (Builtin.Range.rangeSize a b 1)) }):wpAny (model prog w) A (call (.type "reversed") [.ref r]) Q E s:=by
 refine callType_other (U:="range_iterator") (Q₁:=λo z=>o=.ref s.heap.objs.size/\z={ s with heap:=s.heap.push (upIt a (Builtin.Range.rangeSize a b 1)) }) (by decide +kernel) PySem.F.create_reversed ⟨_,_,PySem.F.mro_reversed⟩ PySem.F.made_reversed Zm9 (PySem.F.typeCall_reversed_1 _) (Zlq hr hs ⟨rfl,rfl⟩) ?_;rintro o z ⟨rfl,rfl⟩;exact ⟨⟨_,Aq _ Z,Z⟩,q⟩
end
section
variable {X:Cx} {tg:Expr}
def Zoz (ta:TA):TI:=λσ H R=>ta σ H λvs H1=>∃ (i:Int) (n:Nat),vs=[.int i,.int (i + n)]/\0<=i/\i + n<=100000/\R (Itr3 (i + n - 1) (-1) n) H1
def Zl2 {a b:Expr} {ta:TA} {p1 p2 pos k7:Pos} (zx:Gl X "reversed") (zk:X.mg "reversed"=none) (hg:Gl X "range") (hm:X.mg "range"=none) (ha:PA X [a,b] ta) (hs:starEach [a,b] X.env=[(false,eval a X.env),(false,eval b X.env)]:=by rfl) (lq:starEach [b] X.env=[(false,eval b X.env)]:=by rfl)
  (n5:starEach [.Call (.Name "range" p2) [a,b] [] k7] X.env=[(false,eval (.Call (.Name "range" p2) [a,b] [] k7) X.env)]:=by rfl):PI X tg (.Call (.Name "reversed" p1) [.Call (.Name "range" p2) [a,b] [] k7] [] pos) (Zoz ta):=by
 intro i7 s σ H R I h;refine Call_ (Wp I zx zk boot_reversed (PyProof.Rows.callWith_type1 ?_ n5 Z));rw [n5];refine Calls.spliced_cons ?_;refine Call_ (Wp I hg hm boot_range (PyProof.Rows.callWith_type1 (thn (ha k7 i7 s σ H _ I h) λus s1 ⟨vs,H1,I1,r1,q1⟩=>?_) (by rw [hs,lq]) (by rw [lq]; rfl)));obtain ⟨i,n,e,h0,h1,q⟩:=q1;subst e;obtain ⟨u,v,rfl,ru,rv⟩:=r1.two;obtain ⟨t,rfl⟩:=ru;obtain ⟨t',rfl⟩:=rv;refine call_range_2 (Calls.spliced_nil ?_);have hr:Builtin.Range.rangeSize i (i + n) 1=n:=by rw [rangeSize_one]; split <;> lia
 have fits:(Builtin.Range.rangeFitsLong i && Builtin.Range.rangeFitsLong (i + n) && Builtin.Range.rangeFitsLong 1 && Builtin.Range.rangeFitsLong (-1) && Builtin.Range.rangeFitsLong (i - 1) && Builtin.Range.rangeFitsLong (Builtin.Range.rangeSize i (i + n) 1))=true:=by
  rw [hr,Vn (by lia) (by lia),Vn (by lia) (by lia),Vn (by decide) (by decide),Vn (by decide) (by decide),Vn (by lia) (by lia),Vn (by lia) (by lia)];rfl
 refine Zlr (IsRange.new ..) fits ?_;rw [hr];have I2:Inv X i7 σ H1 { s1 with heap:=s1.heap.push { cls:=.type "range",data:=.fields #[.int i t,.int (i + n) t',.int 1 s1.toks] },toks:=s1.toks + 1 }:=I1.kept λb o e=>Al _ e;have st:IsRangeIter ((s1.heap.push { cls:=.type "range",data:=.fields #[.int i t,.int (i + n) t',.int 1 s1.toks] }).push (upIt i n)) (s1.heap.push { cls:=.type "range",data:=.fields #[.int i t,.int (i + n) t',.int 1 s1.toks] }).objs.size (i + n - 1 + ((0:Nat):Int) * (-1)) ((n:Int) - ((0:Nat):Int)) (-1):=by
  have e1:i + (n:Int) - 1 + ((0:Nat):Int) * (-1)=i + ((n:Int) - 1) * 1:=by simp; lia
  have e2:(n:Int) - ((0:Nat):Int)=n:=by simp
  rw [e1,e2]
  exact Aq _ Z
 refine wpAny_pyIter_rangeiter st ?_;refine ⟨_,[(s1.heap.push { cls:=.type "range",data:=.fields #[.int i t,.int (i + n) t',.int 1 s1.toks] }).objs.size],_,_,H1,rfl,I2.kept (t':=s1.toks + 1) λb o e=>Al _ e,Zdv _ (i + n - 1) (-1) n,st,λb hb=>?_,q⟩;have e:b=(s1.heap.push { cls:=.type "range",data:=.fields #[.int i t,.int (i + n) t',.int 1 s1.toks] }).objs.size:=by simpa using hb
 subst e;exact I2.fpOk (Ao _) (I2.hok.fresh (Ao _))
def Zgm {lo st:Int} {n:Nat} {g:TG} {tb:TS} {D:Ends} {σ:St} {H:Hp} (Pv:Nat->St->Hp->Prop) (h0:Pv 0 σ H)
  (hs:∀ (i:Nat) σ H,i < n->Pv i σ H->g (.int (lo + i * st)) σ H λσ2 H2=>tb { D with nx:=Pv (i + 1),ct:=Pv (i + 1),bk:=D.nx } σ2 H2) (hd:∀ σ H,Pv n σ H->D.nx σ H) :
  ∃ W:Nat->Nat->St->Hp->Prop,(∃ m,W 0 m σ H)/\∀ i m σ H,W i m σ H ->
   ((Itr3 lo st n).stop i H/\D.nx σ H)\/((Itr3 lo st n).go i H/\∃ N:St->Hp->Prop,(∀ σ' H',N σ' H'->∃ m',m' < m/\W (i + 1) m' σ' H')/\∀ x H',(Itr3 lo st n).yld i H x H'->g x σ H' λσ2 H2=>tb { D with nx:=N,ct:=N,bk:=D.nx } σ2 H2):=by
 refine ⟨λi m σ H=>m=n - i/\i<=n/\Pv i σ H,⟨n,by simp,A0 _,h0⟩,?_⟩;rintro i m σ H ⟨rfl,hi,p⟩;by_cases jh:i < n
 ·refine .inr ⟨jh,Pv (i + 1),λσ' H' p'=>⟨n - (i + 1),by lia,Z,jh,p'⟩,λx H' y=>?_⟩
  obtain ⟨e,y⟩:=y;subst e y;exact hs i σ _ jh p
 ·have e:i=n:=by lia
  subst e;exact .inl ⟨Ao _,hd σ H p⟩
def Fh (K:W.Frag) (hc:X.calm=true) (h:PGs X es t)
  (hn:(assignEach es X.env).length=n:=by rfl) (j5:(assignEach es X.env).findIdx? (·.1)=none:=by rfl) (hk:X.K=K:=by rfl):PG X (.Tuple es k pos) (gTup K n t):=hk ▸ Gg hc h hn j5
end
end L2
namespace KT
open PySem L2
def mV:Option Nat->V
 | none=>.non
 | some j=>.int j
structure TD (M:List (Option Nat)) (ns:List Int):Prop where
 n:∃ n,1<=n/\n<=40/\M.length=3 * n
 len:ns.length=M.length
 inv:∀ (i j:Nat),M[i]?=some (some j)->M[j]?=some (some i)/\i≠j
 rng:∀ (i:Nat) x,ns[i]?=some x->0<=x/\x<=9999
 eqv:∀ (i j:Nat) x,ns[i]?=some x->ns[j]?=some x->i=j\/M[i]?=some (some j)
 eqm:∀ (i j:Nat),M[i]?=some (some j)->ns[j]?=ns[i]?
structure SewOk (N:Nat) (F:List Nat) (M:List (Option Nat)):Prop where
 len:M.length=N
 nd:F.Nodup
 free:∀ f∈F,f < N/\M[f]?=some none
 inv:∀ (i j:Nat),M[i]?=some (some j)->M[j]?=some (some i)/\i≠j
def SewOk.start (N:Nat):SewOk N (List.range N) (List.replicate N none):=by
 refine ⟨by simp,List.nodup_range,λf hf=>?_,λi j h=>?_⟩
 ·have h:=List.mem_range.mp hf
  exact ⟨h,by rw [List.getElem?_replicate,if_pos h]⟩
 ·rw [List.getElem?_replicate] at h
  split at h <;> cases h
def SewOk.skip {one:Nat} (h:SewOk N (one :: F) M):SewOk N F M :=
 ⟨h.len,(List.nodup_cons.mp h.nd).2,λf hf=>h.free f (List.mem_cons_of_mem _ hf),h.inv⟩
def SewOk.pair {F:List Nat} {M:List (Option Nat)} (h:SewOk N (one :: F) M) (hk:F[k]?=some other):SewOk N (F.eraseIdx k) ((M.set one (some other)).set other (some one)):=by
 obtain ⟨n1,n2⟩:=List.nodup_cons.mp h.nd;have hm:other∈F:=Av hk;have jo:one≠other:=λz=>n1 (z ▸ hm);obtain ⟨h1,f1⟩:=h.free one List.mem_cons_self;obtain ⟨h2,f2⟩:=h.free other (List.mem_cons_of_mem _ hm);have l1:one < M.length:=by rw [h.len]; exact h1
 have l2:other < M.length:=by rw [h.len]; exact h2
 have g1:((M.set one (some other)).set other (some one))[one]?=some (some other):=by
  rw [List.getElem?_set_ne (Ne.symm jo),List.getElem?_set_self l1]
 have g2:((M.set one (some other)).set other (some one))[other]?=some (some one):=by
  rw [List.getElem?_set_self (by rw [List.length_set]; exact l2)]
 have g3:∀ i,i≠one->i≠other->((M.set one (some other)).set other (some one))[i]?=M[i]?:=λi a b=>by
  rw [List.getElem?_set_ne (Ne.symm b),List.getElem?_set_ne (Ne.symm a)]
 refine ⟨by rw [List.length_set,List.length_set]; exact h.len,n2.sublist (List.eraseIdx_sublist F k),λf hf=>?_,λi j e=>?_⟩
 ·obtain ⟨i,hi,hik,e⟩:=List.mem_eraseIdx_iff_getElem.mp hf
  have fm:f∈F:=e ▸ List.getElem_mem hi;obtain ⟨a,b⟩:=h.free f (List.mem_cons_of_mem _ fm);have c1:f≠one:=λz=>n1 (z ▸ fm);have c2:f≠other:=λz=>by
   obtain ⟨r6,ek⟩:=Aa hk
   exact hik ((List.getElem_inj n2).mp (e.trans (z.trans ek.symm)))
  exact ⟨a,by rw [g3 f c1 c2]; exact b⟩
 ·by_cases c1:i=one
  ·subst c1
   rw [g1] at e;cases e;exact ⟨g2,jo⟩
  ·by_cases c2:i=other
   ·subst c2
    rw [g2] at e;cases e;exact ⟨g1,Ne.symm jo⟩
   ·rw [g3 i c1 c2] at e
    obtain ⟨a,b⟩:=h.inv i j e;have d1:j≠one:=λz=>by rw [z,f1] at a; cases a
    have d2:j≠other:=λz=>by rw [z,f2] at a; cases a
    exact ⟨by rw [g3 j d1 d2]; exact a,b⟩
def nm (s t:Int) (i:Nat):Int:=(s + t * i) % 10000
def rep (M:List (Option Nat)) (i:Nat):Nat:=match M[i]? with
 | some (some j)=>if j < i then j else i
 | _=>i
def flat (M:List (Option Nat)) (s t:Int):List Int:=(List.range M.length).map λi=>nm s t (rep M i)
def Vq:List Int:=[1,3,7,9,37,1009,3333,9999]
def nm_d:∀ t∈Vq,∀ d:Fin 42,t * ((d.val:Nat):Int) % 10000=0->d.val=0:=by decide +kernel
def Znp (ht:t∈Vq) (hi:i < 42) (hj:j < 42) (h:nm s t i=nm s t j):i=j:=by
  have key:∀ a b:Nat,b<=a->a < 42->nm s t a=nm s t b->a=b:=λa b nk ha e=>by
    have e2:=Int.emod_eq_emod_iff_emod_sub_eq_zero.mp e;rw [Int.add_sub_add_left,<- Int.mul_sub,<- Int.natCast_sub nk] at e2;have:=nm_d t ht ⟨a - b,Nat.lt_of_le_of_lt (Nat.sub_le _ _) ha⟩ e2;exact Nat.le_antisymm (Nat.sub_eq_zero_iff_le.mp this) nk
  rcases Nat.le_total i j with h' | h'
  · exact (key j i h' hj h.symm).symm
  · exact key i j h' hi h
def Zhn {N:Nat} (h:i < N):rep M i < N:=by
 unfold rep;split
 ·split <;> omega
 ·exact h
def Uu (M:List (Option Nat)) (i:Nat):rep M i=i\/(∃ j,M[i]?=some (some j)/\j < i/\rep M i=j):=by
 cases e:M[i]? with
 | none=>exact .inl (by unfold rep; rw [e])
 | some o =>
  cases o with
  | none=>exact .inl (by unfold rep; rw [e])
  | some j =>
   by_cases h:j < i
   ·exact .inr ⟨j,Z,h,by unfold rep; rw [e]; exact if_pos h⟩
   ·exact .inl (by unfold rep; rw [e]; exact if_neg h)
def Ks {M:List (Option Nat)} (h:(flat M s t)[i]?=some x):i < M.length/\x=nm s t (rep M i):=by
 unfold flat at h;rw [Ai] at h;by_cases hi:i < M.length
 ·rw [List.getElem?_range hi] at h
  exact ⟨hi,(Ay h).symm⟩
 ·rw [Az (by simpa using hi)] at h
  cases h
def Zfg {M:List (Option Nat)} (hi:i < M.length):(flat M s t)[i]?=some (nm s t (rep M i)):=by
 unfold flat;rw [Ai,List.getElem?_range hi];rfl
def Zlc {M:List (Option Nat)} {n:Nat} (h1:1<=n) (h2:n<=14) (hM:M.length=3 * n) (lf:∀ (i j:Nat),M[i]?=some (some j)->M[j]?=some (some i)/\i≠j) (ht:t∈Vq):TD M (flat M s t) where
 n:=⟨n,h1,by omega,hM⟩
 len:=by unfold flat; simp
 inv:=lf
 rng:=λi x h=>by
  obtain ⟨_,rfl⟩:=Ks h;unfold nm;omega
 eqv:=λi j x hi hj=>by
  obtain ⟨li,ei⟩:=Ks hi;obtain ⟨lj,ej⟩:=Ks hj;have e:rep M i=rep M j:=Znp ht (by have:=Zhn (M:=M) li; omega) (by have:=Zhn (M:=M) lj; omega) (ei.symm.trans ej)
  rcases Uu M i with a | ⟨a,ha,la,ra⟩
  ·rcases Uu M j with b | ⟨b,hb,lb,rb⟩
   ·exact .inl (a.symm.trans (e.trans b))
   ·have:b=i:=by rw [<- rb,<- e,a]
    subst this;exact .inr (lf j b hb).1
  ·rcases Uu M j with b | ⟨b,hb,lb,rb⟩
   ·have:a=j:=by rw [<- ra,e,b]
    subst this;exact .inr ha
   ·have:a=b:=by rw [<- ra,e,rb]
    subst this;have c1:=(lf i a ha).1;have c2:=(lf j a hb).1;rw [c1] at c2;exact .inl (by cases c2; rfl)
 eqm:=λi j h=>by
  obtain ⟨h',jo⟩:=lf i j h;have li:i < M.length:=(Aa h).1;have lj:j < M.length:=(Aa h').1;rw [Zfg li,Zfg lj];have e:rep M j=rep M i:=by
   by_cases c:j < i
   ·have a:rep M i=j:=by unfold rep; rw [h]; exact if_pos c
    have b:rep M j=j:=by unfold rep; rw [h']; exact if_neg (by omega)
    rw [a,b]
   ·have a:rep M i=i:=by unfold rep; rw [h]; exact if_neg c
    have b:rep M j=i:=by unfold rep; rw [h']; exact if_pos (by omega)
    rw [a,b]
  rw [e]
def pl (ns:List Int) (n:Nat) (x:Int):List Nat:=(List.range n).filter λi=>decide (ns[i]?=some x)
def keys (ns:List Int):Nat->List Int
 | 0=>[]
 | n + 1=>match ns[n]? with
  | some x=>if x∈keys ns n then keys ns n else keys ns n ++ [x]
  | none=>keys ns n
def Y9 {ns:List Int} {i:Nat}:i∈pl ns n x ↔ i < n/\ns[i]?=some x:=by
 unfold pl;rw [List.mem_filter,List.mem_range];simp
def Zjp (ns:List Int) (n:Nat) (x:Int):(pl ns n x).Nodup:=(List.nodup_range).sublist List.filter_sublist
def Zht (ns:List Int) (n:Nat) (x:Int):(pl ns n x).Pairwise (· < ·):=(List.pairwise_lt_range).sublist List.filter_sublist
def Ze7 {ns:List Int} (h:ns[n]?=some x):pl ns (n + 1) x=pl ns n x ++ [n]:=by
 unfold pl;rw [List.range_succ,List.filter_append];congr 1;simp [h]
def Zcv {ns:List Int} (h:ns[n]?≠some x):pl ns (n + 1) x=pl ns n x:=by
 unfold pl;rw [List.range_succ,List.filter_append];simp [h]
def Jy {ns:List Int} (h:ns[n]?=some x):keys ns (n + 1)=if x∈keys ns n then keys ns n else keys ns n ++ [x]:=by
 show (match ns[n]? with | some x=>if x∈keys ns n then keys ns n else keys ns n ++ [x] | none=>keys ns n)=_;rw [h]
theorem Wh {ns:List Int}:∀ {n:Nat} {x:Int},x∈keys ns n ↔ ∃ i,i < n/\ns[i]?=some x
 | 0,x=>by simp [keys]
 | n + 1,x=>by
  have ih:=Wh (ns:=ns) (n:=n) (x:=x)
  have e:x∈keys ns (n + 1) ↔ x∈keys ns n\/ns[n]?=some x:=by
   cases h:ns[n]? with
   | none =>
    have:keys ns (n + 1)=keys ns n:=by
     show (match ns[n]? with | some x=>if x∈keys ns n then keys ns n else keys ns n ++ [x] | none=>keys ns n)=_;rw [h]
    rw [this]; simp
   | some y =>
    rw [Jy h];split
    ·constructor
     ·exact .inl
     ·rintro (z | z)
      ·exact z
      ·cases z; assumption
    ·rw [List.mem_append,List.mem_singleton]
     constructor
     ·rintro (z | z)
      ·exact .inl z
      ·exact .inr (by rw [z])
     ·rintro (z | z)
      ·exact .inl z
      ·exact .inr (by cases z; rfl)
  rw [e,ih];constructor
  ·rintro (⟨i,h1,h2⟩ | h)
   ·exact ⟨i,by lia,h2⟩
   ·exact ⟨n,by lia,h⟩
  ·rintro ⟨i,h1,h2⟩
   by_cases c:i=n
   ·subst c; exact .inr h2
   ·exact .inl ⟨i,by lia,h2⟩
theorem V1 (ns:List Int):∀ n,(keys ns n).Nodup
 | 0=>List.nodup_nil
 | n + 1=>by
  have ih:=V1 ns n
  cases h:ns[n]? with
  | none =>
   have:keys ns (n + 1)=keys ns n:=by
    show (match ns[n]? with | some x=>if x∈keys ns n then keys ns n else keys ns n ++ [x] | none=>keys ns n)=_;rw [h]
   rw [this]; exact ih
  | some y =>
   rw [Jy h];split
   ·exact ih
   ·rename_i c
    refine List.nodup_append.mpr ⟨ih,by simp,λa ha b hb=>?_⟩;rw [List.mem_singleton] at hb;subst hb;rintro rfl;exact c ha
theorem Qu (ns:List Int):∀ n,(keys ns n).length<=n
 | 0=>Ao _
 | n + 1=>by
  have ih:=Qu ns n
  cases h:ns[n]? with
  | none =>
   have:keys ns (n + 1)=keys ns n:=by
    show (match ns[n]? with | some x=>if x∈keys ns n then keys ns n else keys ns n ++ [x] | none=>keys ns n)=_;rw [h]
   rw [this]; lia
  | some y =>
   rw [Jy h];split
   ·lia
   ·rw [Af,Au]; lia
def Znd (h:x ∉ keys ns n):pl ns n x=[]:=by
 cases e:pl ns n x with
 | nil=>rfl
 | cons a r =>
  have:a∈pl ns n x:=by rw [e]; exact List.mem_cons_self
  obtain ⟨h1,h2⟩:=Y9.mp this;exact absurd (Wh.mpr ⟨a,h1,h2⟩) h
def Zcw (td:TD M ns) (n:Nat) (x:Int):(pl ns n x).length<=2:=by
 match e:pl ns n x with
 | []=>simp
 | [_]=>simp
 | [_,_]=>simp
 | a :: b :: c :: r =>
  exfalso;have nd:=Zjp ns n x;rw [e] at nd;have ha:=(Y9.mp (show a∈pl ns n x by rw [e]; simp)).2;have hb:=(Y9.mp (show b∈pl ns n x by rw [e]; simp)).2;have hc:=(Y9.mp (show c∈pl ns n x by rw [e]; simp)).2;simp only [List.nodup_cons,List.mem_cons,not_or] at nd;obtain ⟨⟨n1,n2,_⟩,⟨n3,_⟩,_⟩:=nd
  rcases td.eqv a b x ha hb with z | z
  ·exact n1 z
  ·rcases td.eqv a c x ha hc with y | y
   ·exact n2 y
   ·rw [z] at y
    cases y;exact n3 Z
def Vw {M:List (Option Nat)} {ns:List Int} (td:TD M ns) (hx:x∈keys ns ns.length) :
  (∃ a,pl ns ns.length x=[a]/\ns[a]?=some x/\M[a]?=some none)\/(∃ a b,a < b/\pl ns ns.length x=[a,b]/\ns[a]?=some x/\ns[b]?=some x/\M[a]?=some (some b)/\M[b]?=some (some a)):=by
 obtain ⟨i,h1,h2⟩:=Wh.mp hx;have mi:i∈pl ns ns.length x:=Y9.mpr ⟨h1,h2⟩;have l2:=Zcw td ns.length x;have st:=Zht ns ns.length x
 match e:pl ns ns.length x with
 | []=>rw [e] at mi; simp at mi
 | [a] =>
  obtain ⟨ga,ha⟩:=Y9.mp (show a∈pl ns ns.length x by rw [e]; simp);refine .inl ⟨a,Z,ha,?_⟩;have la:a < M.length:=by rw [<- td.len]; exact ga
  cases q:M[a]? with
  | none=>rw [List.getElem?_eq_none_iff] at q; lia
  | some o =>
   cases o with
   | none=>rfl
   | some b =>
    exfalso;have hb:ns[b]?=some x:=by rw [td.eqm a b q]; exact ha
    have mb:b∈pl ns ns.length x:=Y9.mpr ⟨(Aa hb).1,hb⟩;rw [e,List.mem_singleton] at mb;exact (td.inv a b q).2 mb.symm
 | [a,b] =>
  obtain ⟨ga,ha⟩:=Y9.mp (show a∈pl ns ns.length x by rw [e]; simp);obtain ⟨gb,hb⟩:=Y9.mp (show b∈pl ns ns.length x by rw [e]; simp);rw [e] at st;have nk:a < b:=by simpa using st
  rcases td.eqv a b x ha hb with z | z
  ·lia
  ·exact .inr ⟨a,b,nk,Z,ha,hb,z,(td.inv a b z).1⟩
 | a :: b :: c :: r=>rw [e] at l2; simp at l2
def part (M:List (Option Nat)) (ns:List Int) (ks:List Int):List (Option Nat):=(List.range M.length).map λi=>match ns[i]? with
 | some x=>if x∈ks then M.getD i none else none
 | none=>none
def X6 (M:List (Option Nat)) (ns ks:List Int):(part M ns ks).length=M.length:=by unfold part; simp
def Jg {M:List (Option Nat)} {ns:List Int} (td:TD M ns) (h:ns[i]?=some x):(part M ns ks)[i]?=some (if x∈ks then M.getD i none else none):=by
 have li:i < M.length:=by rw [<- td.len]; exact (Aa h).1
 unfold part;rw [Ai,List.getElem?_range li];simp [h]
def Zjw {M:List (Option Nat)} (td:TD M ns):part M ns []=List.replicate M.length none:=by
 apply List.ext_getElem?;intro i;by_cases li:i < M.length
 ·obtain ⟨x,hx⟩:∃ x,ns[i]?=some x:=⟨_,Ad (by rw [td.len]; exact li)⟩
  rw [Jg td hx,List.getElem?_replicate,if_pos li];simp
 ·rw [Az (by rw [X6]; lia),Az (by simp; lia)]
def Zjx {ns:List Int} (td:TD M ns):part M ns (keys ns ns.length)=M:=by
 apply List.ext_getElem?;intro i;by_cases li:i < M.length
 ·have ln:i < ns.length:=by rw [td.len]; exact li
  obtain ⟨x,hx⟩:∃ x,ns[i]?=some x:=⟨_,Ad ln⟩;rw [Jg td hx,if_pos (Wh.mpr ⟨i,ln,hx⟩),Ae,Ad li];rfl
 ·rw [Az (by rw [X6]; lia),Az (by lia)]
def Zjv {M:List (Option Nat)} {ns:List Int} (td:TD M ns) {a:Nat} (hp:pl ns ns.length x=[a]) (hm:M[a]?=some none):part M ns (ks ++ [x])=part M ns ks:=by
 apply List.ext_getElem?;intro i;by_cases li:i < M.length
 ·have ln:i < ns.length:=by rw [td.len]; exact li
  obtain ⟨y,hy⟩:∃ x,ns[i]?=some x:=⟨_,Ad ln⟩;rw [Jg td hy,Jg td hy];by_cases c:y=x
  ·subst c
   have:i∈pl ns ns.length y:=Y9.mpr ⟨ln,hy⟩;rw [hp,List.mem_singleton] at this;subst this;have:M.getD i none=none:=by rw [Ae,hm]; rfl
   rw [this];simp
  ·simp [c]
 ·rw [Az (by rw [X6]; lia),Az (by rw [X6]; lia)]
def Zh0 {M:List (Option Nat)} {ns:List Int} (td:TD M ns) (hp:pl ns ns.length x=[a,b]) (nk:a < b) (ha:M[a]?=some (some b)) (hb:M[b]?=some (some a)) :
  part M ns (ks ++ [x])=((part M ns ks).set a (some b)).set b (some a):=by
 have la:a < M.length:=(Aa ha).1;have lb:b < M.length:=(Aa hb).1;have na:=(Y9.mp (show a∈pl ns ns.length x by rw [hp]; simp)).2;have nb:=(Y9.mp (show b∈pl ns ns.length x by rw [hp]; simp)).2;apply List.ext_getElem?;intro i;by_cases li:i < M.length
 ·have ln:i < ns.length:=by rw [td.len]; exact li
  obtain ⟨y,hy⟩:∃ x,ns[i]?=some x:=⟨_,Ad ln⟩;rw [Jg td hy];by_cases cb:i=b
  ·subst cb
   rw [nb] at hy; cases hy;rw [List.getElem?_set_self (by rw [List.length_set,X6]; exact lb),if_pos (by simp),Ae,hb];rfl
  ·rw [List.getElem?_set_ne (Ne.symm cb)]
   by_cases ca:i=a
   ·subst ca
    rw [na] at hy; cases hy;rw [List.getElem?_set_self (by rw [X6]; exact la),if_pos (by simp),Ae,ha];rfl
   ·rw [List.getElem?_set_ne (Ne.symm ca),Jg td hy]
    have:y≠x:=by
     rintro rfl;have:i∈pl ns ns.length y:=Y9.mpr ⟨ln,hy⟩;rw [hp] at this;simp at this;lia
    simp [this]
 ·rw [Az (by rw [X6]; lia),Az (by rw [List.length_set,List.length_set,X6]; lia)]
def nV (i:Nat):V:=.int (i:Int)
theorem Qc {g:Int->V}:∀ {ks:List Int},valV (ks.map λx=>((Sum.inl x:Key),g x)) (Sum.inl y)=if y∈ks then some (g y) else none
 | []=>by simp [valV]
 | k :: r=>by
  have ih:=Qc (g:=g) (y:=y) (ks:=r);unfold valV at ih ⊢;rw [List.map_cons,List.find?_cons];by_cases c:k=y
  ·subst c
   simp
  ·have:(decide ((Sum.inl k:Key)=Sum.inl y))=false:=by
    rw [decide_eq_false_iff_not];intro z;cases z;exact c Z
   simp only [this];rw [ih];have:(y∈k :: r) ↔ y∈r:=by
    rw [List.mem_cons]
    exact ⟨λz=>z.elim (λw=>absurd w.symm c) id,.inr⟩
   simp only [this]
def Ze5 {g:Int->V} {ks:List Int} (h:y ∉ ks):putK (ks.map λx=>((Sum.inl x:Key),g x)) (Sum.inl y) v=(ks.map λx=>((Sum.inl x:Key),g x)) ++ [(Sum.inl y,v)]:=by
 unfold putK;rw [if_neg];intro z;rw [List.any_eq_true] at z;obtain ⟨kv,h1,h2⟩:=z;obtain ⟨x,hx,rfl⟩:=List.mem_map.mp h1;have:(Sum.inl x:Key)=Sum.inl y:=of_decide_eq_true h2;cases this;exact h hx
def Yp {α:Type} {f:α->V} {l:List α} {i:Nat} {x:α} (h:l[i]?=some x):atI (l.map f) (i:Int)=some (f x):=Wm (by rw [Ai,h]; rfl)
def Qg (h:upd H p o q=none):q≠p/\H q=none:=by
 by_cases c:q=p
 ·subst c; rw [Zc] at h; cases h
 ·rw [Zh c] at h; exact ⟨c,h⟩
def after (p:Int):Int:=if p % 3=2 then p - 2 else p + 1
def Wr (p:Int):Int:=if p % 3=0 then p + 2 else p - 1
def Zo7 (left:Bool) (a b:Nat):List Int:=if left then [after a,Wr b,after b,Wr a] else [after a,Wr a,after b,Wr b]
def mvI (left:Bool) (a b:Nat) (z:Int):Int :=
 if z=after a then (if left then Wr b else Wr a) else if z=Wr b then (if left then after b else after a) else if z=after b then (if left then Wr a else Wr b) else if z=Wr a then (if left then after a else after b) else z
def mvN (left:Bool) (i j z:Nat):Nat:=(mvI left i j z).toNat
def nst (left:Bool) (i j:Nat) (ns:List Int) (k:Nat):List Int:=(List.range ns.length).map λz=>if ((mvN (!left) i j z:Nat):Int)∈(Zo7 left i j).take k then ns.getD (mvN (!left) i j z) 0 else ns.getD z 0
def side (p k:Nat):Nat:=p - p % 3 + (p + k) % 3
def Zln {n:Nat} (h:p < 3 * n):side p k < 3 * n:=by unfold side; omega
def Zb6 (p k:Nat):side p k / 3=p / 3:=by unfold side; omega
def Wb (M:List (Option Nat)) (p:Int):Bool:=decide (0<=p/\p < M.length) && (M.getD p.toNat none).isSome
def Ws (M:List (Option Nat)) (a p:Int):Bool:=match M.getD a.toNat none with
 | some m=>decide (p / 3=(m:Int) / 3) && !decide (p=(m:Int))
 | none=>false
def rot {α:Type} (ws:List α) (s:Nat):List α:=ws.drop s ++ ws.take s
def W8 (M:List (Option Nat)) (ws vs:List Int):List Bool:=(ws.zip vs).map λp=>Ws M p.1 p.2
def Wu (M:List (Option Nat)) (ws:List Int):Bool:=!ws.isEmpty && ((ws.map (Wb M)).all id && (W8 M ws (rot ws (1 % ws.length))).all id)
def Fe {α:Type} (ws:List α) (h:s<=ws.length):(rot ws s).length=ws.length:=by
 unfold rot;rw [Af,List.length_drop,Aj];lia
def Ze2 {α:Type} {ws:List α} {k:Nat} (hs:s < ws.length) (hk:k < ws.length):(rot ws s)[k]?=ws[(k + s) % ws.length]?:=by
 unfold rot;by_cases c:k < ws.length - s
 ·rw [Aw (by rw [List.length_drop]; exact c),List.getElem?_drop,Nat.mod_eq_of_lt (by lia),Nat.add_comm]
 ·rw [List.getElem?_append_right (by rw [List.length_drop]; lia),List.length_drop,List.getElem?_take_of_lt (by lia)]
  have:(k + s) % ws.length=k - (ws.length - s):=by
   rw [show k + s=(k - (ws.length - s)) + ws.length by lia,Nat.add_mod_right,Nat.mod_eq_of_lt (by lia)]
  rw [this]
structure Pl (M:List (Option Nat)) (ws:List Nat):Prop where
 ne:ws≠[]
 has:∀ p∈ws,∃ m,M[p]?=some (some m)
 nxt:∀ (k:Nat) (a p:Nat),ws[k]?=some a->ws[(k + 1) % ws.length]?=some p->∀ m,M[a]?=some (some m)->p / 3=m / 3/\p≠m
abbrev wI (ws:List Nat):List Int:=ws.map λ(x:Nat)=>(x:Int)
def Zao {M:List (Option Nat)} {p:Nat}:Wb M (p:Int)=true ↔ ∃ m,M[p]?=some (some m):=by
 unfold Wb;rw [Bool.and_eq_true,decide_eq_true_eq,Int.toNat_natCast];constructor
 ·rintro ⟨⟨_,h1⟩,h2⟩
  have h1:p < M.length:=by lia
  rw [Ae,Ad h1] at h2;obtain ⟨m,hm⟩:=Option.isSome_iff_exists.mp h2;exact ⟨m,by rw [Ad h1]; exact congrArg some hm⟩
 ·rintro ⟨m,hm⟩
  have h1:p < M.length:=(Aa hm).1;exact ⟨⟨by lia,by lia⟩,by rw [Ae,hm]; rfl⟩
def Gx {M:List (Option Nat)} {a p:Nat} (h:M[a]?=some (some m)):Ws M (a:Int) (p:Int)=true ↔ p / 3=m / 3/\p≠m:=by
 unfold Ws;rw [Int.toNat_natCast,Ae,h];show (decide ((p:Int) / 3=(m:Int) / 3) && !decide ((p:Int)=(m:Int)))=true ↔ _;rw [Bool.and_eq_true,decide_eq_true_eq,Bool.not_eq_true',decide_eq_false_iff_not];lia
def Zev {ws vs:List Int} (hl:ws.length=vs.length):(W8 M ws vs).all id=true ↔ ∀ (k:Nat) (a p:Int),ws[k]?=some a->vs[k]?=some p->Ws M a p=true:=by
 unfold W8;rw [List.all_eq_true];constructor
 ·intro h k a p ha hp
  refine h (Ws M a p) (List.mem_map.mpr ⟨(a,p),?_,Z⟩);exact Av (i:=k) (by rw [List.getElem?_zip_eq_some]; exact ⟨ha,hp⟩)
 ·intro h b hb
  obtain ⟨⟨a,p⟩,hm,rfl⟩:=List.mem_map.mp hb;obtain ⟨k,hk⟩:=List.getElem?_of_mem hm;rw [List.getElem?_zip_eq_some] at hk;exact h k a p hk.1 hk.2
def Zhs:Wu M (wI ws)=true ↔ Pl M ws:=by
 have hl:(wI ws).length=ws.length:=by simp
 unfold Wu;rw [Bool.and_eq_true,Bool.and_eq_true,Bool.not_eq_true',hl];constructor
 ·rintro ⟨h0,h1,h2⟩
  have jo:ws≠[]:=by
   rintro rfl;cases h0
  have om:0 < ws.length:=by cases ws with | nil=>exact absurd rfl jo | cons _ _=>simp
  have hh:∀ p∈ws,∃ m,M[p]?=some (some m):=λp hp=>by
   refine Zao.mp (List.all_eq_true.mp h1 _ (List.mem_map.mpr ⟨(p:Int),List.mem_map.mpr ⟨p,hp,Z⟩,Z⟩))
  refine ⟨jo,hh,λk a p ha hp m hm=>?_⟩;have hs:1 % ws.length < (wI ws).length:=by rw [hl]; exact Nat.mod_lt _ om
  have hk:k < (wI ws).length:=by rw [hl]; exact (Aa ha).1
  refine (Gx hm).mp ((Zev (by rw [Fe _ (Nat.le_of_lt hs)])).mp h2 k a p (by rw [Ai,ha]; rfl) ?_);rw [Ze2 hs hk,hl,show (k + 1 % ws.length) % ws.length=(k + 1) % ws.length by rw [Nat.add_mod_mod],Ai,hp];rfl
 ·rintro ⟨h0,h1,h2⟩
  have om:0 < ws.length:=by cases ws with | nil=>exact absurd rfl h0 | cons _ _=>simp
  have hs:1 % ws.length < (wI ws).length:=by rw [hl]; exact Nat.mod_lt _ om
  refine ⟨by cases ws with | nil=>exact absurd rfl h0 | cons _ _=>rfl,?_,?_⟩
  ·rw [List.all_eq_true]
   intro b hb;obtain ⟨p',hp',rfl⟩:=List.mem_map.mp hb;obtain ⟨p,hp,rfl⟩:=List.mem_map.mp hp';exact Zao.mpr (h1 p hp)
  ·refine (Zev (by rw [Fe _ (Nat.le_of_lt hs)])).mpr λk a p ha hp=>?_
   have hk:k < (wI ws).length:=(Aa ha).1;rw [Ze2 hs hk,hl,show (k + 1 % ws.length) % ws.length=(k + 1) % ws.length by rw [Nat.add_mod_mod]] at hp;rw [Ai] at ha hp
   cases ea:ws[k]? with
   | none=>rw [ea] at ha; cases ha
   | some a' =>
    cases ep:ws[(k + 1) % ws.length]? with
    | none=>rw [ep] at hp; cases hp
    | some p' =>
     rw [ea] at ha; cases ha;rw [ep] at hp; cases hp;obtain ⟨m,hm⟩:=h1 a' (Av ea);exact (Gx hm).mpr (h2 k a' p' ea ep m hm)
structure Ch (M:List (Option Nat)) (row:List Nat):Prop where
 has:∀ p∈row,∃ m,M[p]?=some (some m)
 nxt:∀ (k:Nat) (a p m:Nat),row[k]?=some a->row[k + 1]?=some p->M[a]?=some (some m)->p / 3=m / 3/\p≠m
def Ch.one {M:List (Option Nat)} {p:Nat} (h:M[p]?=some (some m)):Ch M [p]:=by
 refine ⟨λq hq=>?_,λk a q m' _ hq=>?_⟩
 ·rw [List.mem_singleton] at hq; subst hq; exact ⟨m,h⟩
 ·simp at hq
def Ch.snoc {M:List (Option Nat)} {row:List Nat} {p:Nat} (h:Ch M row) (hl:row.getLast?=some a) (hm:M[a]?=some (some m)) (h1:p / 3=m / 3) (h2:p≠m) (hp:∃ q,M[p]?=some (some q)):Ch M (row ++ [p]):=by
 refine ⟨λq hq=>?_,λk b q m' hb hq rq=>?_⟩
 ·rcases List.mem_append.mp hq with z | z
  ·exact h.has q z
  ·rw [List.mem_singleton] at z; subst z; exact hp
 ·by_cases c:k + 1 < row.length
  ·rw [Aw c] at hq
   rw [Aw (by lia)] at hb;exact h.nxt k b q m' hb hq rq
  ·have hk:k + 1 < (row ++ [p]).length:=(Aa hq).1
   rw [Af,Au] at hk;have hk:k + 1=row.length:=by lia
   rw [List.getElem?_append_right (by lia),hk] at hq;have:q=p:=by simpa using hq.symm
   subst this;rw [Aw (by lia)] at hb;rw [List.getLast?_eq_getElem?,show row.length - 1=k by lia,hb] at hl;cases hl;rw [hm] at rq;cases rq;exact ⟨h1,h2⟩
def Ch.cut {row:List Nat} {e:Nat} (h:Ch M row) (ul:s < e) (h1:row[s]?=some a) (h2:row[e]?=some a):Pl M ((row.drop s).take (e - s)):=by
 have he:e < row.length:=(Aa h2).1;have hl:((row.drop s).take (e - s)).length=e - s:=by rw [Aj,List.length_drop]; lia
 have gt:∀ k,k < e - s->((row.drop s).take (e - s))[k]?=row[s + k]?:=λk hk=>by rw [List.getElem?_take_of_lt hk,List.getElem?_drop]
 refine ⟨λz=>by rw [z] at hl; simp at hl; lia,λp hp=>?_,λk b p hb hp m hm=>?_⟩
 ·exact h.has p (List.mem_of_mem_drop (List.mem_of_mem_take hp))
 ·rw [hl] at hp
  have hk:k < e - s:=by have:=(Aa hb).1; rw [hl] at this; exact this
  rw [gt k hk] at hb;by_cases c:k + 1 < e - s
  ·rw [Nat.mod_eq_of_lt c,gt _ c] at hp
   exact h.nxt (s + k) b p m hb (by rw [show s + k + 1=s + (k + 1) by lia]; exact hp) hm
  ·have hk:k + 1=e - s:=by lia
   rw [hk,Nat.mod_self,gt 0 (by lia),Nat.add_zero,h1] at hp;cases hp;exact h.nxt (s + k) b a m hb (by rw [show s + k + 1=e by lia]; exact h2) hm
end KT
namespace L2
open PySem PySem.Spec PyProof.Rows
section
variable {X:Cx}
def Zbm (i j:Int):Prop:=0 < j/\j.natAbs.log2 < 9000
def Zc2:OpR X (binaryOp .FloorDiv) (rI Zbm λi j=>.int (i / j)):=opI λi j _ _ _ _ _ hc q=>by
 have h1:(0:Int) < j:=hc.1;exact floordiv_int (by lia) (by rw [Int.fdiv_eq_ediv_of_nonneg i (by lia)]; exact q) (.inl (PyProof.noPylong_of_log2 hc.2))
def log2_lt {j:Int} {k:Nat} (h:j.natAbs < 2 ^ k) (hk:0 < k):j.natAbs.log2 < k:=by
 by_cases e:j.natAbs=0
 ·rw [e]; simpa using hk
 ·exact (Nat.log2_lt e).mpr h
end
end L2
namespace HL
open PySem PyProof.Rows HT
end HL
namespace L2
open PySem PySem.Spec PyProof.Rows
end L2
namespace HT
end HT
namespace L2
open PySem PySem.Spec PyProof.Rows
section
variable {X:Cx} {i7:List (Addr × Obj)} {σ:St} {H:Hp} {s:Shared} {a:Addr} {y v:V} {u r:Value} {A:Around} {E:Value->Shared->Prop}
def Zpb {kvs:List (Key × V)} (I:Inv X i7 σ H s) (e:H a=some (.dK kvs)) (l:kvs.length < sizeLine) (ry:RelV (kV k) u) (rv:RelV v r) (h:∀ s',Inv X i7 σ (upd H a (.dK (putK kvs k v))) s'->Q () s') :
  wpAny (model X.prog X.w) A (dictSet a u r) Q E s:=by
 obtain ⟨z,hd,vs,jk,dd⟩:=Zgp I.hok e;have hz:vs.length<=sizeLine:=by rw [<- jk.length]; exact z
 have hl:(putK kvs k v).length<=sizeLine:=by have:=Jp kvs k v; lia
 refine wpAny_dictSet_pairs (hsz:=hz) (J9 ry) dd λh' pw hs=>h _ ?_;have he:∃ q,h'.get? a=some q:=let ⟨q,_,_,hq,_⟩:=pw; ⟨q,hq⟩
 exact On I (by rw [e]; exact True.intro) hs he (Zdk hl hd (jk.put k rv) pw)
end
def Zm4 (tk tv:TE) (D:Addr):TB:=λσ H N=>tk σ H λx H1=>tv σ H1 λv H2=>∃ kvs k,x=kV k/\H2 D=some (.dK kvs)/\kvs.length < sizeLine/\N σ (upd H2 D (.dK (putK kvs k v)))
section
variable {X:Cx}
def Zju (hk:PE X kx tk) (hv:PE X vx tv) :
  PB X ((eval kx X.env >>= λkv=>holding [kv] (eval vx X.env) >>= λvv=>standAt p >>= λ_=>holding [kv,vv] (dictSet D kv vv)) >>= λ_=>again c) c (Zm4 tk tv D):=by
 intro i7 s σ H N I h;refine Am (Am (thn (hk i7 s σ H _ I h) λu s1 zz36=>?_));obtain ⟨x,H1,I1,r1,q1⟩:=zz36;refine Am (wpAny_holding (thn (hv i7 s1 σ H1 _ I1 q1) λw s2 zz37=>?_));obtain ⟨v,H2,I2,r2,q2⟩:=zz37;refine Am (wpAny_standAt (wpAny_holding ?_));obtain ⟨kvs,k,rfl,hD,hl,q⟩:=q2;exact Zpb I2 hD hl r1 r2 λs3 I3=>wpAny_pure ⟨Z,σ,_,I3,q⟩
end
def Zg5 (ts:List Str) (fv:List (Str × Nat)) (wi:TI) (g:TG) (tt:TT) (tb:Addr->TB):TE:=λσ H Q=>wi σ H λJ H1=>∀ D,H1 D=none ->
 Wz J g tt (tb D) (λ_ H'=>Q (.ref D) H') (blkS ts fv σ) (upd H1 D (.dK []))
section
variable {X:Cx} {ts:List Str} {fv:List (Str × Nat)} {scope:Scope} {kx vx t0 i0:Expr} {f0:List Expr} {rest:List Comprehension} {pos:Pos} {wi:TI} {g:TG} {tt:TT} {tb:Addr->TB} {je:Env->Addr->Addr->Sem Fin}
theorem Zgq (B:BlkOk X scope fv) (hc:X.calm=true) (hi:PI X t0 i0 wi)
  (hg:∀ C s₀ H₀ ex,PG (Zz X (blkN ts fv) scope C s₀ H₀ ex) t0 g) (ht:∀ C s₀ H₀ ex,PTs (Zz X (blkN ts fv) scope C s₀ H₀ ex) f0 tt)
  (kn:∀ (env:Env) (it D:Addr),compTurn (.DictComp kx vx (⟨t0,i0,f0,0⟩ :: rest) scope pos) 0 (.ref it) (.ref D) env=(standAt i0.pos >>= λ_=>pyNext (.ref it) >>= λr=>match r with
   | none=>pure (.done .next)
   | some v=>letOwnedTupleGo t0 (.ref it) v >>= λ_=>assign t0 env v >>= λ_ =>
    (forIn f0 true λc r=>if r=true then do let ok <- isTrue c env (eval c env); pure (ForInStep.yield ok) else pure (ForInStep.yield r)) >>= λok =>
     if ok=true then je env it D else again (.compLoop (.DictComp kx vx (⟨t0,i0,f0,0⟩ :: rest) scope pos) 0 (.ref it) (.ref D) env)))
  (hb:∀ C s₀ H₀ ex it D,PB (Zz X (blkN ts fv) scope C s₀ H₀ ex) (je (Zz X (blkN ts fv) scope C s₀ H₀ ex).env it D) (.compLoop (.DictComp kx vx (⟨t0,i0,f0,0⟩ :: rest) scope pos) 0 (.ref it) (.ref D) (Zz X (blkN ts fv) scope C s₀ H₀ ex).env) (tb D)) {RR:Value->Addr->Result->Shared->Prop} (I:Inv X i7 σ H s) (h:Zg5 ts fv wi g tt tb σ H Q)
  (hRR:∀ D C s' H',Inv X i7 σ H' s'->H' C=none->X.s₀.heap.objs.size<=C->C≠X.env.locals->(∀ x c,X.env.cells.lookup x=some c->c≠C)->(∀ p∈X.pn ++ i7,p.1≠C)->(∃ m,s'.heap.Ns C m)->Q (.ref D) H'->RR (.ref D) C (.ok .next) s') :
  wpAny (model X.prog X.w) X.A (eval i0 X.env) (λx s₁=>wpAny (model X.prog X.w) X.A (pyIter x) (λit s₂=>wpAny (model X.prog X.w) X.A newDict (λi9 s₃ =>
   wpAny (model X.prog X.w) X.A (newFunctionEnv scope X.env.globals (Yx X.env scope.names []) [] X.env.qual none .none (some X.env)) (λkq s₄ =>
    codeAny (model X.prog X.w) X.A (.compStart (.DictComp kx vx (⟨t0,i0,f0,0⟩ :: rest) scope pos) 0 it i9 { kq with scope:=relabel scope X.env }) (RR i9 kq.locals) s₄) X.xe s₃) X.xe s₂) X.xe s₁) X.xe s:=by
 refine thn (hi i7 s σ H _ I h) λv s1 h1=>thn h1 λqk s2 h2=>?_;obtain ⟨it,fp,tn,J,H2,e,I2,T,j',f2,L⟩:=h2;subst e;have L:=L s2.heap.objs.size I2.fresh;refine wpAny_newObj_type ?_;have I3:Inv X i7 σ (upd H2 s2.heap.objs.size (.dK [])) { s2 with heap:=s2.heap.push { cls:=.type "dict",data:=.dict #[] },toks:=s2.toks }:=I2.laid (a:=s2.heap.objs.size) (o:=.dK []) (t':=s2.toks) (λ_ _ q=>Al _ q) (Ao _) (Ku s2.heap I2.big);have n8:∀ b∈fp,∃ o,s2.heap.get? b=some o/\∀ v,o.data≠.cell v:=T.obj _ _ j';have f3:∀ b∈fp,FpOk X i7 (upd H2 s2.heap.objs.size (.dK [])) b:=λb hb=>by
  obtain ⟨o,ho,_⟩:=n8 b hb
  refine ⟨?_,(f2 b hb).2⟩
  rw [Zh (At (Ap ho))]
  exact (f2 b hb).1
 have j9:tn 0 (s2.heap.push { cls:=.type "dict",data:=.dict #[] }):=T.keep _ _ _ j' λb _ o e=>Al _ e;have ly:∀ b∈fp,∃ o,(s2.heap.push { cls:=.type "dict",data:=.dict #[] }).get? b=some o:=λb hb=>let ⟨o,e,_⟩:=n8 b hb; ⟨o,Al _ e⟩
 generalize hs3:({ s2 with heap:=s2.heap.push { cls:=.type "dict",data:=.dict #[] },toks:=s2.toks }:Shared)=s3 at I3;have eh:s2.heap.push { cls:=.type "dict",data:=.dict #[] }=s3.heap:=by rw [<- hs3]
 rw [eh] at j9 ly;refine wpAny_newFunctionEnv B.nocell (by intro y hy; simp at hy) (λh₁ nj lq=>?_) B.kind;have hk:∀ b o,s3.heap.get? b=some o->h₁.get? b=some o:=λb o e=>lq.extBut b o (At (Ap e)) (Al _ e);have I4:=Va (ts:=ts) (tk:=s3.toks + ([]:List (Str × Value)).length) B I3 f3 ly nj hk;have f4:∀ b∈fp,FpOk (Zz X (blkN ts fv) scope s3.heap.objs.size s3 (upd H2 s2.heap.objs.size (.dK [])) fp) [] (upd H2 s2.heap.objs.size (.dK [])) b:=λb hb=>by
  obtain ⟨f0,f1,f2',f3',f4',f5'⟩:=f3 b hb
  obtain ⟨o,eo⟩:=ly b hb
  exact ⟨f0,At (Ap eo),I4.ok.exfs b hb,.inl hb,(I4.ok.exf b hb).2,λp hp=>absurd (show p∈([]:List (Addr × Obj)) from hp) (by simp)⟩
 have nq:tn 0 h₁:=T.keep _ _ _ j9 λb _ o e=>hk b o e;have loop:codeAny (model X.prog X.w) X.A (.compLoop (.DictComp kx vx (⟨t0,i0,f0,0⟩ :: rest) scope pos) 0 (.ref it) (.ref s2.heap.objs.size) (Zz X (blkN ts fv) scope s3.heap.objs.size s3 (upd H2 s2.heap.objs.size (.dK [])) fp).env)
   (RR (.ref s2.heap.objs.size) s3.heap.objs.size) { s3 with heap:=h₁,toks:=s3.toks + ([]:List (Str × Value)).length }:=by
  refine U7 (X:=Zz X (blkN ts fv) scope s3.heap.objs.size s3 (upd H2 s2.heap.objs.size (.dK [])) fp) (tg:=t0) (ifs:=f0) (R:=λ_ H'=>Q (.ref s2.heap.objs.size) H') Z Z Z Z (kn _ it s2.heap.objs.size) T hc (hg _ _ _ _) (ht _ _ _ _) (hb _ _ _ _ it s2.heap.objs.size) f4 I4 nq L λs' σ' H' J' q=>?_
  obtain ⟨e1,e2,e3,e4,e5,e6⟩:=Vo I3 f3 (Ao _) J'
  obtain ⟨m,hm,_⟩:=J'.loc
  exact hRR _ _ s' H' e1 e2 e3 e4 e5 e6 ⟨m,hm⟩ q
 exact codeAny_compStart_dict loop (T.self _ _ _ _ _ nq loop)
theorem Zhw (B:BlkOk X scope fv) (hc:X.calm=true) (hi:PI X t0 i0 wi)
  (hg:∀ C s₀ H₀ ex,PG (Zz X (blkN ts fv) scope C s₀ H₀ ex) t0 g) (ht:∀ C s₀ H₀ ex,PTs (Zz X (blkN ts fv) scope C s₀ H₀ ex) f0 tt)
  (kn:∀ (env:Env) (it D:Addr),compTurn (.DictComp kx vx (⟨t0,i0,f0,0⟩ :: rest) scope pos) 0 (.ref it) (.ref D) env=(standAt i0.pos >>= λ_=>pyNext (.ref it) >>= λr=>match r with
   | none=>pure (.done .next)
   | some v=>letOwnedTupleGo t0 (.ref it) v >>= λ_=>assign t0 env v >>= λ_ =>
    (forIn f0 true λc r=>if r=true then do let ok <- isTrue c env (eval c env); pure (ForInStep.yield ok) else pure (ForInStep.yield r)) >>= λok =>
     if ok=true then je env it D else again (.compLoop (.DictComp kx vx (⟨t0,i0,f0,0⟩ :: rest) scope pos) 0 (.ref it) (.ref D) env)))
  (hb:∀ C s₀ H₀ ex it D,PB (Zz X (blkN ts fv) scope C s₀ H₀ ex) (je (Zz X (blkN ts fv) scope C s₀ H₀ ex).env it D) (.compLoop (.DictComp kx vx (⟨t0,i0,f0,0⟩ :: rest) scope pos) 0 (.ref it) (.ref D) (Zz X (blkN ts fv) scope C s₀ H₀ ex).env) (tb D))
  (hs:∀ x,foldedSetIterable i0 X.env x=pure x:=by intro _; rfl) :
  PE X (.DictComp kx vx (⟨t0,i0,f0,0⟩ :: rest) scope pos) (Zg5 ts fv wi g tt tb):=by
 intro i7 s σ H Q I h;show wpAny _ X.A (comprehension (.DictComp kx vx (⟨t0,i0,f0,0⟩ :: rest) scope pos) scope X.env _ newDict false (eval i0 X.env)) _ _ s;refine wpAny_comprehension_free (use:=none) Z hs (Ww λy hy e=>I.ok.has y.1 (B.free y hy e)) B.kind B.names ?_;refine Zgq (RR:=λi9 C=>compPost (model X.prog X.w) X.A X.xe none (EP X i7 σ Q) i9 C) B hc hi hg ht kn hb I h λD C s' H' I' e2 e3 e4 e5 e6 hm q=>?_;obtain ⟨m,hm⟩:=hm;exact ⟨m,hm,λh' m7=>⟨.ref D,H',I'.apart m7 e2 e3 e4 e5 e6,Z,q⟩⟩
end
section
variable {X:Cx}
def Kz {ys:List Str}:∀ {us:List Value},Vals (ys.map V.str) us->StrsAre us ys:=by
 induction ys with
 | nil=>intro us r; rw [List.map_nil] at r; cases r; exact .nil
 | cons y ys ih =>
  intro us r;rw [List.map_cons] at r
  cases r with
  | cons r1 r2 =>
   obtain ⟨t,e⟩:=r1;subst e;exact .cons y t (ih r2)
def Zor (K:W.Frag):V->List V->Hp->VK->Prop:=λo xs H Q=>∃ lp p ys,o=.str lp/\xs=[.ref p]/\SqL K H p (List.map V.str ys)/\lp.length<=16/\(ys.map (·.length)).sum + ys.length<=1048576/\Q (.str (Txt.join lp ys)) H
def Zmb:MtR X "str.join" (Zor X.K):=by
 intro i7 s σ H x xs v us Q I rx rs h;obtain ⟨lp,p,ys,rfl,rfl,hq,h1,h2,q⟩:=h;obtain ⟨t,rfl⟩:=rx;obtain ⟨u,rfl,ru⟩:=Xv rs;cases ru;obtain ⟨its,rv,pl,_⟩:=I.list hq;exact join_listW pl.isList (by simpa using Kz rv) h1 h2 λt' k=>⟨.str _,H,I.tok _,⟨_,Z⟩,q⟩
def Zoq:R2:=λx y H Q=>∃ z n,x=.str z/\y=.int n/\MulOk z n/\Q (.str (Txt.mul z n)) H
def Zl6:OpR X (binaryOp .Mult) Zoq:=by
 intro i7 s σ H x y v u Q I rx ry h;obtain ⟨z,n,rfl,rfl,hok,q⟩:=h;obtain ⟨t,rfl⟩:=rx;obtain ⟨t',rfl⟩:=ry;exact SB.mul hok λt' k=>⟨.str _,H,I.tok _,⟨_,Z⟩,q⟩
end
def Str.ext' {a b:Str} (h:a.cps.toList=b.cps.toList):a=b:=by
 cases a; cases b;simp only [Str.mk.injEq];exact Array.toList_inj.mp h
theorem Zah:∀ (l:List Str) (a:Array Nat),(l.foldl (λi9 p=>i9 ++ (Str.ofString "").cps ++ p.cps) a).toList=a.toList ++ (l.map λy=>y.cps.toList).flatten
 | [],a=>by simp
 | y :: r,a=>by
  rw [List.foldl_cons,Zah r];have:(Str.ofString "").cps=#[]:=by decide +kernel
  rw [this];simp
def Zkd (ys:List Str):(Txt.join (Str.ofString "") ys).cps.toList=(ys.map λy=>y.cps.toList).flatten:=by
 unfold Txt.join Builtin.Str.glued
 cases ys with
 | nil=>rfl
 | cons y r =>
  show ((r.foldl (λi9 p=>i9 ++ (Str.ofString "").cps ++ p.cps) y.cps)).toList=_;rw [Zah];simp
end L2
namespace KT
open PySem L2
def aftN (i:Nat):Nat:=if i % 3=2 then i - 2 else i + 1
def nxC (M:List (Option Nat)) (c:Nat):Option Nat:=(M[aftN c]?).join
end KT
namespace L2
open PySem PySem.Spec PyProof.Rows
section
variable {X:Cx} {xl:Value->Shared->Prop} {R0:Value->St->Hp->Prop}
def PSL (X:Cx) (xl:Value->Shared->Prop) (R0:Value->St->Hp->Prop) (st:Stmt) (t:TSX):Prop :=
 ∀ (i7:List (Addr × Obj)) (s:Shared) (σ:St) (H:Hp) (D:Ends),Inv X i7 σ H s->t D R0 σ H->wpAny (model X.prog X.w) X.A (exec st X.env) (SP X i7 D) xl s
def PSsL (X:Cx) (xl:Value->Shared->Prop) (R0:Value->St->Hp->Prop) (st:List Stmt) (t:TSX):Prop :=
 ∀ (i7:List (Addr × Obj)) (s:Shared) (σ:St) (H:Hp) (D:Ends),Inv X i7 σ H s->t D R0 σ H->wpAny (model X.prog X.w) X.A (execs st X.env) (SP X i7 D) xl s
structure LV (X:Cx) (xl:Value->Shared->Prop) (R0:Value->St->Hp->Prop):Prop where
 lv:∀ (i7:List (Addr × Obj)) (ev:Value) (s':Shared),XS true X i7 R0 ev s'->xl ev s'
 po:PassesOwn (model X.prog X.w) X.A X.env xl
def Z3 {st:Stmt} {t:TSX} (L:LV X xl R0) (h:PSX true X st t):PSL X xl R0 st t:=λi7 s σ H D I q =>
 wpAny_mono (h i7 s σ H D R0 I q) (λ_ _ z=>z) λev s' z=>L.lv i7 ev s' z
def Zu {st:Stmt} {rest:List Stmt} {t u:TSX} (h1:PSL X xl R0 st t) (h2:PSsL X xl R0 rest u):PSsL X xl R0 (st :: rest) (Zkw t u):=by
 intro i7 s σ H D I h;refine wpAny_execs_cons (thn (h1 i7 s σ H { D with nx:=u D R0 } I h) λf s1 q=>?_)
 cases f with
 | next =>
  obtain ⟨σ',H',I',q⟩:=q;exact h2 i7 s1 σ' H' D I' q
 | ret v=>exact q
 | brk=>exact q
 | cont=>exact q
def Yv {st:Stmt} {t:TSX} (h1:PSL X xl R0 st t):PSsL X xl R0 [st] t:=by
 intro i7 s σ H D I h;refine wpAny_execs_cons (thn (h1 i7 s σ H D I h) λf s1 q=>?_)
 cases f with
 | next=>exact wpAny_execs_nil q
 | ret v=>exact q
 | brk=>exact q
 | cont=>exact q
def Zoi (wi:TI) (g:TG) (tb:TSX):TSX:=λD R σ H=>tFor wi g (λD' σ' H'=>tb D' R σ' H') D σ H
def thnF {α:Type} {m:Sem α} {Q Q':α->Shared->Prop} {s:Shared} (hx:X.xe=(λ_ _=>False)) (h:wpAny (model X.prog X.w) X.A m Q X.xe s) (k:∀ a s1,Q a s1->Q' a s1):wpAny (model X.prog X.w) X.A m Q' xl s:=by
 rw [hx] at h;exact wpAny_mono h k λ_ _ z=>z.elim
def Zly {tg iter:Expr} {body:List Stmt} {wi:TI} {g:TG} {tb:TSX} {pos:Pos} (L:LV X xl R0) (hc:X.calm=true) (hi:PI X tg iter wi) (hg:PG X tg g) (hb:PSsL X xl R0 body tb)
  (hx:X.xe=(λ_ _=>False):=by rfl) (hs:∀ x,foldedSetIterable iter X.env x=pure x:=by intro _; rfl):PSL X xl R0 (.For tg iter body [] pos) (Zoi wi g tb):=by
 intro i7 s σ H D I h;have hp:=L.po;refine wpAny_For (thnF hx (hi i7 s σ H _ I h) λv s1 h1=>thnF hx h1 λqk s2 h2=>?_) hs;obtain ⟨it,fp,tn,J,H2,e,I2,T,j',f2,W,⟨m0,w0⟩,ko⟩:=h2;subst e;have jz:∀ {H':Hp},(∀ b∈fp,H' b=none)->∀ b∈fp,FpOk X i7 H' b:=λhn b hb=>⟨hn b hb,(f2 b hb).2⟩;refine codeAny_forLoop_any (λn s'=>∃ i σ' H',Inv X i7 σ' H' s'/\tn i s'.heap/\(∀ b∈fp,H' b=none)/\W i n σ' H') ?_ m0 ⟨0,σ,H2,I2,j',λb hb=>(f2 b hb).1,w0⟩;rintro n s3 ⟨i,σ3,H3,I3,j9,oa,w3⟩
 rcases ko i n σ3 H3 w3 with ⟨stop,qn⟩ | ⟨go,N,hN,step⟩
 ·refine wpAny_passesOwn hp (thn (T.done X rfl rfl rfl hc i i7 s3 σ3 H3 xl I3 (jz oa) j9 stop) λr s4 ⟨hr,I4⟩=>?_)
  subst hr;exact wpAny_execs_nil ⟨σ3,H3,I4,qn⟩
 ·refine wpAny_passesOwn hp (thn (T.item X rfl rfl rfl hc i i7 s3 σ3 H3 xl I3 (jz oa) j9 go) λr s4 ⟨u,hr,h4⟩=>?_)
  subst hr;refine wpAny_passesOwn hp (thn h4 λ_ s5 ja=>?_);obtain ⟨x,H5,I5,r5,y5,lm,sj⟩:=ja;have sr:=I5.pinned (jz sj) (T.obj _ _ lm);refine wpAny_passesOwn hp (thnF hx (hg _ s5 σ3 H5 x u _ sr r5 (step x H5 y5)) λ_ s6 ja=>?_);obtain ⟨σ6,H6,I6,q6⟩:=ja;refine wpAny_passesOwn hp (thn (hb _ s6 σ6 H6 _ I6 q6) λf s7 q7=>?_);have again:∀ {σ7:St} {H7:Hp},Inv X (i7 ++ Jw fp s5.heap) σ7 H7 s7->N σ7 H7->∃ m,m < n/\∃ i σ' H',Inv X i7 σ' H' s7/\tn i s7.heap/\(∀ b∈fp,H' b=none)/\W i m σ' H':=λ{σ7 H7} I7 n7=>by
   obtain ⟨m',hm,w7⟩:=hN σ7 H7 n7
   refine ⟨m',hm,i + 1,σ7,H7,I7.unpinned,T.keep _ _ _ lm λb hb o e=>(I7.pin (b,o) (List.mem_append_right _ (List.mem_append_right _ (Xp hb e)))).1,λb hb=>?_,w7⟩
   obtain ⟨o,e,d⟩:=T.obj _ _ lm b hb
   exact (I7.pin (b,o) (List.mem_append_right _ (List.mem_append_right _ (Xp hb e)))).2.1
  cases f with
  | next=>obtain ⟨σ7,H7,I7,n7⟩:=q7; exact again I7 n7
  | cont=>obtain ⟨σ7,H7,I7,n7⟩:=q7; exact again I7 n7
  | brk=>obtain ⟨σ7,H7,I7,q7⟩:=q7; exact ⟨σ7,H7,I7.unpinned,q7⟩
  | ret v=>obtain ⟨x7,σ7,H7,I7,r7,q7⟩:=q7; exact ⟨x7,σ7,H7,I7.unpinned,r7,q7⟩
end
section
def Its (x:Str):It :=
 ⟨λi _=>i < x.cps.size,λi H v H'=>H'=H/\∃ c,x.cps[i]?=some c/\v=.str ⟨#[c]⟩,λi _=>x.cps.size<=i⟩
def Zi5 {P:Program} {w:World} {K:W.Frag} {tg:Expr} (x:Str) (t:Tok) (it:Addr):Turn P w K tg (Its x) [it] it (λi h=>h.IsStrIter it "str_ascii_iterator" x t i) where
 mem:=by simp
 obj:=λi h st b hb=>by
  have e:b=it:=by simpa using hb
  subst e;obtain ⟨o,e,c,d⟩:=st;exact ⟨o,e,λv z=>by rw [d] at z; cases z⟩
 keep:=λi h h' st k=>by
  obtain ⟨o,ho,r⟩:=st;exact ⟨o,k it (by simp) o ho,r⟩
 item:=by
  intro X hP hw hK hc i i7 s σ H E I hf st hg;subst hP hw hK;have hg:i < x.cps.size:=hg;obtain ⟨f0,f1,f2,f3,f4,f5⟩:=hf it (by simp);have hx:x.cps[i]?=some x.cps[i]:=by simp [hg]
  refine wpAny_pyNext_ascii_item st hx λh' kh sb=>?_;have I1:Inv X i7 σ H { s with heap:=h',toks:=s.toks + 1 }:=I.turned (t':=s.toks + 1) (λb o hb e=>(sb.2 b hb).trans e) f0 f1 f3 f4 f5;obtain ⟨o,e,c,d⟩:=id kh;exact ⟨_,Z,Ol (s:={ s with heap:=h',toks:=s.toks + 1 }) e c d (by decide) ⟨.str ⟨#[x.cps[i]]⟩,H,I1,⟨_,Z⟩,⟨Z,_,hx,Z⟩,kh,λb hb=>(hf b hb).1⟩⟩
 done:=by
  intro X hP hw hK hc i i7 s σ H E I hf st hg;subst hP hw hK;have hg:x.cps.size<=i:=hg;obtain ⟨f0,f1,f2,f3,f4,f5⟩:=hf it (by simp);exact wpAny_pyNext_ascii_end (I.ok.hd hc) st (by simp [hg]) λh' eb=>⟨Z,I.turned (t':=s.toks) (λb o hb e=>eb b o hb e) f0 f1 f3 f4 f5⟩
 self:=λ_ _ _ _ _ st h=>wpAny_pyIter_striter_ascii st h
variable {X:Cx} {tg:Expr}
def iStr (tl:TE):TI:=λσ H R=>tl σ H λv H1=>∃ x,v=.str x/\x.cps.all (· < 128)=true/\R (Its x) H1
def Znf {l:Expr} {tl:TE} (hl:PE X l tl):PI X tg l (iStr tl):=by
 intro i7 s σ H R I h;refine thn (hl i7 s σ H _ I h) λv s1 ja=>?_;obtain ⟨x,H1,I1,r1,q1⟩:=ja;obtain ⟨x,e,ha,q⟩:=q1;subst e;obtain ⟨t,rfl⟩:=r1;refine wpAny_pyIter_ascii ha ?_;refine ⟨s1.heap.objs.size,[s1.heap.objs.size],_,_,H1,Z,I1.kept (t':=s1.toks) λb o e=>Al _ e,Zi5 x t _,⟨_,Aq _ Z,Z,Z⟩,λb hb=>?_,q⟩;have e:b=s1.heap.objs.size:=by simpa using hb
 subst e;exact I1.fpOk (Ao _) (I1.hok.fresh (Ao _))
end
section
variable {P:Program} {w:World} {K:W.Frag} {mg:Str->Option Value} {base:Heap} {x qual:Str} {st:Stmt} {f:Addr} {fd:FuncData} {N ps:List Str} {k:Nat} {sp:Sp}
def Fun.aR (F:Fun K x qual st f fd) (S:FnScope N ps (Zg st))
  (jt:∀ (jc:Value) (A:Around) (outer:List Env) (s:Shared) (H:Hp) (vs:List V) (Q:VK) (E:XK),Room k (A.deeper (envOfC qual (Zg st) s.heap.objs.size f jc))->sp vs H Q E ->
   ∃ t,PSs (cxOf (CXr P w) P w K mg base N qual (Zg st) f jc A outer s H E).nox (Yt st) t/\t { nx:=λ_ H'=>Q .non H',rt:=Q } (start N vs) H)
  (len:∀ vs H Q E,sp vs H Q E->vs.length=ps.length:=by (intro vs H Q E h; (repeat obtain ⟨_,h⟩:=h); subst_vars; rfl)):FnOk P w K mg base (CXr P w) (k + 1) f fd ps sp:=F.okR S len jt
def Fun.aX (F:Fun K x qual st f fd) (S:FnScope N ps (Zg st))
  (jt:∀ (jc:Value) (A:Around) (outer:List Env) (s:Shared) (H:Hp) (vs:List V) (Q:VK) (E:XK),Room k (A.deeper (envOfC qual (Zg st) s.heap.objs.size f jc))->sp vs H Q E ->
   ∃ t,PSsX true (cxOf (CXr P w) P w K mg base N qual (Zg st) f jc A outer s H E).nox (Yt st) t/\t { nx:=λ_ H'=>Q .non H',rt:=Q } (λcls _ H'=>E cls none H') (start N vs) H)
  (len:∀ vs H Q E,sp vs H Q E->vs.length=ps.length:=by (intro vs H Q E h; (repeat obtain ⟨_,h⟩:=h); subst_vars; rfl)):FnOk P w K mg base (CXr P w) (k + 1) f fd ps sp:=F.okX S len jt
end
end L2
namespace L2
open PySem PySem.Spec PyProof.Rows PySem.SeqAt
mutual
inductive DV (K:W.Frag) (H:Hp):V->PyData->Prop
 | non:DV K H .non .none
 | bl (b:Bool):DV K H (.bl b) (.bool b)
 | int (i:Int):DV K H (.int i) (.int i)
 | str (x:Str):DV K H (.str x) (.str x)
 | lst {a:Addr} {xs:List V} {ds:List PyData}:SqL K H a xs->DVs K H xs ds->DV K H (.ref a) (.list ds)
 | tup {a:Addr} {xs:List V} {ds:List PyData}:SqT K H a xs->DVs K H xs ds->DV K H (.ref a) (.tuple ds)
inductive DVs (K:W.Frag) (H:Hp):List V->List PyData->Prop
 | nil:DVs K H [] []
 | cons {x:V} {xs:List V} {d:PyData} {ds:List PyData}:DV K H x d->DVs K H xs ds->DVs K H (x :: xs) (d :: ds)
end
section
variable {X:Cx} {i7:List (Addr × Obj)} {σ:St} {H:Hp} {s:Shared}
mutual
theorem DV.reads (I:Inv X i7 σ H s):∀ {x:V} {d:PyData} {u:Value},DV X.K H x d->RelV x u->∃ as,Reads s.heap u d as
 | _,_,_,.non,r=>by cases r; exact ⟨_,.none⟩
 | _,_,_,.bl b,r=>by cases r; exact ⟨_,.bool b⟩
 | _,_,_,.int i,r=>by obtain ⟨t,rfl⟩:=r; exact ⟨_,.int i t⟩
 | _,_,_,.str x,r=>by obtain ⟨t,rfl⟩:=r; exact ⟨_,.str x t⟩
 | _,_,_,.lst h hs,r=>by
  cases r;obtain ⟨its,rv,pl,_⟩:=I.list h;obtain ⟨as,ra⟩:=DVs.reads I hs rv;obtain ⟨o,ho,hc,n,hd⟩:=pl.isList;exact ⟨_,.list ho hc hd (by simpa using ra)⟩
 | _,_,_,.tup h hs,r=>by
  cases r;obtain ⟨its,rv,pt,_⟩:=I.tuple h;obtain ⟨as,ra⟩:=DVs.reads I hs rv;obtain ⟨o,ho,hc,n,hd⟩:=pt;exact ⟨_,.tuple ho hc hd (by simpa using ra)⟩
theorem DVs.reads (I:Inv X i7 σ H s):∀ {xs:List V} {ds:List PyData} {us:List Value},DVs X.K H xs ds->Vals xs us->∃ as,ReadsAll s.heap us ds as
 | _,_,_,.nil,r=>by cases r; exact ⟨_,.nil⟩
 | _,_,_,.cons h hs,r=>by
  cases r with
  | cons r1 r2 =>
   obtain ⟨as,ra⟩:=DV.reads I h r1;obtain ⟨bs,rb⟩:=DVs.reads I hs r2;exact ⟨_,.cons ra rb⟩
end
end
mutual
theorem Gr:∀ d:PyData,d.canLay0=true->noMix d d=true
 | .none,_=>rfl
 | .bool _,_=>rfl
 | .int _,_=>rfl
 | .str _,_=>rfl
 | .list xs,h=>by simp only [PyData.canLay0] at h; simp only [noMix]; exact noMixAll_self xs h
 | .tuple xs,h=>by simp only [PyData.canLay0] at h; simp only [noMix]; exact noMixAll_self xs h
 | .dict _,h=>by simp [PyData.canLay0] at h
theorem noMixAll_self:∀ xs:List PyData,PyData.canLayAll0 xs=true->noMixAll xs xs=true
 | [],_=>by simp [noMixAll]
 | x :: xs,h=>by
  simp only [PyData.canLayAll0,Bool.and_eq_true] at h;simp only [noMixAll,Gr x h.1,noMixAll_self xs h.2,Bool.and_self]
end
section
variable {X:Cx}
def rNeD (K:W.Frag):R2:=λx y H Q=>∃ d e,DV K H x d/\DV K H y e/\shaped d=true/\shaped e=true/\noMix d e=true/\Q (.bl (!same d e)) H
def Zc1 (hu:X.A.units + 64 < cLine):OpR X (compareOp .NotEq) (rNeD X.K):=by
 intro i7 s σ H x y v u Q I rx ry h;obtain ⟨d,e,hx,hy,sd,se,hm,q⟩:=h;obtain ⟨_,r1⟩:=hx.reads I rx;obtain ⟨_,r2⟩:=hy.reads I ry;exact ne_dataH_same r1 r2 sd se hu hm ⟨.bl _,H,I,Z,q⟩
end
def DV.nev {K:W.Frag} {H:Hp} {x y:V} {d:PyData} {Q:VK} (hx:DV K H x d) (hy:DV K H y d) (hs:shaped d=true) (q:Q (.bl false) H):rNeD K x y H Q :=
 ⟨d,d,hx,hy,hs,hs,Gr d (canLay_of_shaped hs),by rw [same_self]; exact q⟩
end L2
namespace KT
open PySem L2
def CH (R:Nat->Nat->Prop) (l:List Nat):Prop:=∀ (k u v:Nat),l[k]?=some u->l[k + 1]?=some v->R u v
end KT
namespace L2
open PySem PySem.Spec PyProof.Rows
def FlyA (e T:Addr) (cls a0 fl:Value) (h:Heap):Prop :=
 ∃ oe vs oT ts,h.get? e=some oe/\(oe.cls=cls/\vs[0]?=some a0)/\oe.data=.fields vs/\vs[1]?=some (.ref T)/\T≠e/\h.get? T=some oT/\oT.data=.fields ts/\ts[3]?=some fl
def XB (X:Cx) (i7:List (Addr × Obj)) (E:XK) (ev:Value) (s':Shared):Prop :=
 ∃ (e T:Addr) (cls a0:Value) (σ':St) (H':Hp),ev=.ref e/\Inv X i7 σ' H' s'/\FlyT e T cls a0 s'.heap/\FxOk X i7 H' e/\FxOk X i7 H' T/\E cls none H'
def XA (X:Cx) (i7:List (Addr × Obj)) (E:XK) (ev:Value) (s':Shared):Prop :=
 ∃ (e T:Addr) (cls a0 fl:Value) (σ':St) (H':Hp),ev=.ref e/\Inv X i7 σ' H' s'/\FlyA e T cls a0 fl s'.heap/\FxOk X i7 H' e/\FxOk X i7 H' T/\E cls none H'
def Held (X:Cx) (i7:List (Addr × Obj)):Prop:=∀ b∈X.ex,∃ o,(b,o)∈i7
def PEC (X:Cx) (e:Expr) (t:TEX):Prop :=
 ∀ (i7:List (Addr × Obj)) (s:Shared) (σ:St) (H:Hp) (Q:VK) (E:XK),Held X i7->Inv X i7 σ H s->t σ H Q E->wpAny (model X.prog X.w) X.A (eval e X.env) (EP X i7 σ Q) (XB X i7 E) s
abbrev TAX:=St->Hp->(List V->Hp->Prop)->XK->Prop
section
variable {X:Cx} {i7:List (Addr × Obj)} {σ:St} {H:Hp} {s:Shared}
def Inv.fxB (I:Inv X i7 σ H s) (hp:Held X i7) {b:Addr} (hb:s.heap.get? b=none):FxOk X i7 H b:=by
 refine ⟨I.untr hb,λz=>?_,λz=>?_,?_,λx c e z=>?_,λp hp z=>?_⟩
 ·obtain ⟨m,⟨o,_,_,ho,_⟩,_⟩:=I.loc
  rw [z,ho] at hb; cases hb
 ·obtain ⟨_,o,ho,_⟩:=I.funs.mem z
  rw [ho] at hb; cases hb
 ·cases q:X.s₀.heap.get? b with
  | none=>rfl
  | some o =>
   exfalso;by_cases hbx:b∈X.ex
   ·obtain ⟨o2,h2⟩:=hp b hbx
    have:=(I.pin (b,o2) (List.mem_append_right _ h2)).1;rw [hb] at this; cases this
   ·obtain ⟨o',e'⟩:=I.base.there b o q hbx
    rw [hb] at e'; cases e'
 ·obtain ⟨v,o,ho,_⟩:=I.cell x c e
  rw [z,hb] at ho; cases ho
 ·have:=(I.pin p hp).1
  rw [z,hb] at this; cases this
def Zbl {H':Hp} {b:Addr} (h:FxOk X i7 H b) (hn:H' b=none):FxOk X i7 H' b:=⟨hn,h.nl,h.nf,h.n0,h.nc,h.np⟩
def Inv.cxb {s':Shared} {E:XK} {ev:Value} (I:Inv X i7 σ H s) (hp:Held X i7) (h:CXr X.prog X.w X.stack H s E ev s'):XB X i7 E ev s':=by
 obtain ⟨e,T,cls,a0,H',rfl,os,bare,un,hok,ne,nT,he,hT,fl,q⟩:=h;have I':Inv X i7 σ H' s':=I.call' os un hok bare λb hb=>absurd hb (by simp);exact ⟨e,T,cls,a0,σ,H',Z,I',fl,Zbl (I.fxB hp ne) he,Zbl (I.fxB hp nT) hT,q⟩
variable {k:Nat} {f C:Addr} {fd:FuncData} {ps:List Str} {sp:Sp} {jn:List V} {ds:List Value} {x m:Str} {p pos jg:Pos} {e o:Expr} {es:List Expr} {ta:TE} {t:TA}
def Vx (F:FnOk X.prog X.w X.K X.mg X.base (CXr X.prog X.w) k f fd ps sp) (hr:Room k X.A) (hg:Gl X x) (hm:X.mg x=some (.ref f)) (hk:PySem.W.keepIn X.K (.ref f)=true) (hb:X4 X.K fd ps ds) (hd:Vals jn ds)
  (ha:PA X (e :: es) t) (hx:X.xe=(λ_ _=>False):=by rfl) (ka:(x == ("__debug__":Str))=false:=by decide) (he:starEach (e :: es) X.env=(false,eval e X.env) :: starEach es X.env:=by rfl) (ju:(backTo pos (starEach es X.env)).any (·.1)=false:=by rfl) :
  PEC X (.Call (.Name x p) (e :: es) [] pos) (Ky sp jn t):=by
 intro i7 s σ H Q E hp I h;have h0:=ha pos i7 s σ H _ I h;rw [hx] at h0;refine wpAny_Call_Name_kw (W5 I hg hm ?_ ka);refine PySem.W.callWith_K (h₀:=X.base) I.ok.mod.kin hk (wpAny_mono h0 (λus s1 zz38=>?_) λ_ _ z=>z.elim) he ju;obtain ⟨vs,H1,I1,r,q⟩:=zz38;refine ⟨I1.kIn,?_⟩;have r2:Vals (vs ++ jn) (us ++ ds):=r.append hd;have hl:(us ++ ds).length=ps.length:=by rw [<- r2.length]; exact F.len _ _ _ _ q
 refine wpAny_call (codeAny_mono (F.run X.A X.stack s1 H1 ⟨us,[]⟩ (us ++ ds) (vs ++ jn) Q E hr I1.env0 (hb s1 us I1.kIn hl) r2 q) λr s' hq=>?_)
 cases r with
 | error e=>exact I1.cxb hp hq
 | ok fl =>
  cases fl with
  | ret u=>exact I1.after hq
  | next=>exact False.elim hq
  | brk=>exact False.elim hq
  | cont=>exact False.elim hq
def Zn9 (t:TAX):TEX:=λσ H Q E=>t σ H (λxs H1=>xs.length<=sizeLine/\∀ p,H1 p=none->Q (.ref p) (upd H1 p (.tup xs))) E
end
abbrev TBX:=St->Hp->(St->Hp->Prop)->XK->Prop
def PBX (X:Cx) (je:Sem Fin) (c:Code) (t:TBX):Prop :=
 ∀ (i7:List (Addr × Obj)) (s:Shared) (σ:St) (H:Hp) (N:St->Hp->Prop) (E:XK),Held X i7->Inv X i7 σ H s->t σ H N E ->
  wpAny (model X.prog X.w) X.A je (λji s'=>ji=.again c/\∃ σ' H',Inv X i7 σ' H' s'/\N σ' H') (XB X i7 E) s
def Zm0 (te:TEX) (D:Addr):TBX:=λσ H N E=>te σ H (λv H1=>∃ xs,H1 D=some (.lst xs)/\xs.length < sizeLine/\N σ (upd H1 D (.lst (xs ++ [v])))) E
section
variable {X:Cx}
def Vy {jl:Expr} {te:TEX} {D:Addr} {c:Code} (he:PEC X jl te) (hx:X.xe=(λ_ _=>False):=by rfl) :
  PBX X ((eval jl X.env >>= λx=>call (.builtin "list.append") [.ref D,x] >>= λ_=>pure ()) >>= λ_=>again c) c (Zm0 te D):=by
 intro i7 s σ H N E hp I h;refine Am (Am (wpAny_mono (he i7 s σ H _ E hp I h) (λu s1 zz39=>?_) λ_ _ z=>z));obtain ⟨v,H1,I1,r1,q1⟩:=zz39;obtain ⟨xs,hD,hl,q⟩:=q1;have h0:=Xq (X:=X) i7 s1 σ H1 (.ref D) [v] (.ref D) [u] (λ_ H2=>N σ H2) I1 rfl (.cons r1 .nil) ⟨D,xs,v,rfl,rfl,hD,hl,q⟩;rw [hx] at h0;refine Am (wpAny_mono h0 (λ_ s2 zz40=>?_) λ_ _ z=>z.elim);obtain ⟨_,H2,I2,_,q2⟩:=zz40;exact wpAny_pure (wpAny_pure ⟨Z,σ,H2,I2,q2⟩)
theorem Gy {e tg:Expr} {d:Nat} {i9:Value} {ifs:List Expr} {je:Sem Fin} {J:It} {fp:List Addr} {it:Addr} {tn:Nat->Heap->Prop} {g:TG} {tt:TT} {tb:TBX} {p:Pos} {s:Shared} {σ:St} {H:Hp} {R:St->Hp->Prop} {E:XK}
  {RR:Result->Shared->Prop} (kr:X.xe=λ_ _=>False) (hex:X.ex=fp)
  (hcq:Code.quiet (.compLoop e d (.ref it) i9 X.env)=true) (ud:(model X.prog X.w).den (.compLoop e d (.ref it) i9 X.env)=(compTurn e d (.ref it) i9 X.env).onRaise (λx=>do noteFrame x X.env; theTreesLotGoes x))
  (tm:X.A.under (.compLoop e d (.ref it) i9 X.env)=X.A)
  (kn:compTurn e d (.ref it) i9 X.env=(standAt p >>= λ_=>pyNext (.ref it) >>= λr=>match r with
   | none=>pure (.done .next)
   | some v=>letOwnedTupleGo tg (.ref it) v >>= λ_=>assign tg X.env v >>= λ_ =>
    (forIn ifs true λc r=>if r=true then do let ok <- isTrue c X.env (eval c X.env); pure (ForInStep.yield ok) else pure (ForInStep.yield r)) >>= λok =>
     if ok=true then je else again (.compLoop e d (.ref it) i9 X.env)))
  (T:Turn X.prog X.w X.K tg J fp it tn) (hc:X.calm=true) (hg:PG X tg g) (ht:PTs X ifs tt) (hb:PBX X je (.compLoop e d (.ref it) i9 X.env) tb)
  (hf:∀ b∈fp,FpOk X [] H b) (I:Inv X [] σ H s) (st:tn 0 s.heap) (h:Wz J g tt (λσ H N=>tb σ H N E) R σ H)
  (hR:∀ s' σ' H',Inv X [] σ' H' s'->R σ' H'->RR (.ok .next) s')
  (hX:∀ i7 ev s',XB X i7 E ev s'->notedBy (model X.prog X.w) X.A X.env (λx s'=>RR (.error x) s') ev s') :
  codeAny (model X.prog X.w) X.A (.compLoop e d (.ref it) i9 X.env) RR s:=by
 obtain ⟨W,⟨m0,w0⟩,ko⟩:=h;have jz:∀ {H':Hp},(∀ b∈fp,H' b=none)->∀ b∈fp,FpOk X [] H' b:=λhn b hb=>⟨hn b hb,(hf b hb).2⟩;refine codeAny_loop hcq (λn s'=>∃ i σ' H',Inv X [] σ' H' s'/\tn i s'.heap/\(∀ b∈fp,H' b=none)/\W i n σ' H') ?_ m0 ⟨0,σ,H,I,st,λb hb=>(hf b hb).1,w0⟩;rintro n s3 ⟨i,σ3,H3,I3,j9,oa,w3⟩;rw [ud,tm];refine wpAny_noted ?_;rw [kn];refine Am (wpAny_standAt (Am ?_))
 rcases ko i n σ3 H3 w3 with ⟨stop,qn⟩ | ⟨go,N,hN,step⟩
 ·refine thn (T.done X rfl rfl rfl hc i [] s3 σ3 H3 _ I3 (jz oa) j9 stop) λr s4 ⟨hr,I4⟩=>?_
  subst hr;exact wpAny_pure (hR s4 σ3 H3 I4 qn)
 ·refine thn (T.item X rfl rfl rfl hc i [] s3 σ3 H3 _ I3 (jz oa) j9 go) λr s4 ⟨u,hr,h4⟩=>?_
  subst hr;refine Am (thn h4 λ_ s5 ja=>?_);obtain ⟨x,H5,I5,r5,y5,lm,sj⟩:=ja;have sr:=I5.pinned (jz sj) (T.obj _ _ lm);refine Am (thnF kr (hg _ s5 σ3 H5 x u _ sr r5 (step x H5 y5)) λ_ s6 ja=>?_);obtain ⟨σ6,H6,I6,q6⟩:=ja;refine Am (thnF kr (ht _ s6 σ6 H6 _ I6 q6) λok s7 ja=>?_);obtain ⟨H7,I7,q7⟩:=ja;have ow:∀ {σ7:St} {H7:Hp} {s7:Shared},Inv X ([] ++ Jw fp s5.heap) σ7 H7 s7->N σ7 H7->∃ m,m < n/\∃ i σ' H',Inv X [] σ' H' s7/\tn i s7.heap/\(∀ b∈fp,H' b=none)/\W i m σ' H':=λ{σ7 H7 s7} I7 n7=>by
   obtain ⟨m',hm,w7⟩:=hN σ7 H7 n7
   refine ⟨m',hm,i + 1,σ7,H7,I7.unpinned,T.keep _ _ _ lm λb hb o e=>(I7.pin (b,o) (List.mem_append_right _ (List.mem_append_right _ (Xp hb e)))).1,λb hb=>?_,w7⟩
   obtain ⟨o,e,d⟩:=T.obj _ _ lm b hb
   exact (I7.pin (b,o) (List.mem_append_right _ (List.mem_append_right _ (Xp hb e)))).2.1
  cases ok with
  | false=>exact wpAny_pure ⟨Z,ow I7 q7⟩
  | true =>
   have hp:Held X ([] ++ Jw fp s5.heap):=λb hb=>by
    rw [hex] at hb;obtain ⟨o,e,d⟩:=T.obj _ _ lm b hb;exact ⟨o,List.mem_append_right _ (Xp hb e)⟩
   refine wpAny_mono (hb _ s7 σ6 H7 N E hp I7 q7) (λji s8 zz41=>?_) λev s8 z=>hX _ ev s8 z;obtain ⟨t8,σ8,H8,I8,q8⟩:=zz41;subst t8;exact ⟨Z,ow I8 q8⟩
end
section
variable {X:Cx} {i7:List (Addr × Obj)} {σ:St} {H:Hp} {s:Shared}
def Zni {e T:Addr} {cls a0 fl:Value} {E:XK} {what:String} {kq:Env} {Q:Value->Shared->Prop} (I:Inv X i7 σ H s) (hex:X.ex=[]) (hx:FlyA e T cls a0 fl s.heap) (fe:FxOk X i7 H e) (fT:FxOk X i7 H T) (q:E cls none H) :
  wpAny (model X.prog X.w) X.A (PySem.passOn what (.ref e) kq:Sem Value) Q (XA X i7 E) s:=by
 obtain ⟨oe,vs,oT,ts,he,⟨on,h0⟩,hd,h1,vo,hT,pk,h3⟩:=hx;have wc:3 < ts.size:=(Array.getElem?_eq_some_iff.mp h3).1;unfold PySem.passOn;refine Am (wpAny_field he hd h1 ?_);rw [if_neg (show ¬ (Value.ref T == Value.none)=true from by simp)];refine Am ?_;unfold setFlight;refine Am (wpAny_field he hd h1 ?_);rw [if_pos (show (Value.ref T != Value.none)=true from by simp)];refine wpAny_setField hT pk wc (wpAny_throw ?_);generalize (kq.frame.elim Value.none λf=>rawInt f)=fl';have other:∀ b,b≠T->(s.heap.update T (Obj.mapFields (·.setIfInBounds 3 fl'))).get? b=s.heap.get? b:=λb hb=>Heap.get?_update_other _ _ (Ne.symm hb);refine ⟨e,T,cls,a0,fl',σ,H,Z,I.exc hex fe fT (λb o n1 n2 n3 z=>(other b n2).trans z) (λb o hb z=>⟨o.slots,?_⟩),?_,fe,fT,q⟩
 ·refine (other b λz2=>?_).trans z
  rw [z2] at hb z;exact I.fnd hb z ts (by rw [hT] at z; cases z; exact pk)
 ·exact ⟨oe,vs,_,_,(other e (Ne.symm vo)).trans he,⟨on,h0⟩,hd,h1,vo,Heap.get?_update_self _ hT (Obj.isFreed_of_fields (Obj.data_mapFields pk _)),Obj.data_mapFields pk _,by simp [wc]⟩
def Zab {scope:Scope} {N':List Str} {fp:List Addr} {C:Addr} {pb:List (Addr × Obj)} {E:XK} {ev:Value} {s':Shared} {Q:Value->Shared->Prop} (i9:Value) (I:Inv X i7 σ H s) (hex:X.ex=[]) (jv:∃ o,X.stack=X.env :: o) (ls:X.env.frame=some X.env.locals)
  (hf:∀ b∈fp,FpOk X i7 H b) (hC:s.heap.objs.size<=C) (h:XB (Zz X N' scope C s H fp) pb E ev s') :
  notedBy (model X.prog X.w) X.A (Zz X N' scope C s H fp).env (λx s'=>compPost (model X.prog X.w) X.A (XA X i7 E) none Q i9 C (.error x) s') ev s':=by
 obtain ⟨e,T,cls,a0,σ',H',rfl,J,hx,fe,fT,q⟩:=h;obtain ⟨I5,c1,c2,c3,c4,c5⟩:=Vo I hf hC (J.pins_of (pins':=[]) λp hp=>absurd hp (by simp));have ge:FxOk X i7 H' e:=Zbl (I.fxOk hex fe.n0) fe.nt;have gT:FxOk X i7 H' T:=Zbl (I.fxOk hex fT.n0) fT.nt;obtain ⟨outer,jv⟩:=jv;have pi:=Zip I5 hx;have hA:X.A.frames=some (X.env :: outer):=by rw [I.ok.frames,jv]
 have ua:Heap.FlyingW (PySem.W.hideAll s'.heap (e :: T :: frs X.stack)) (X.env :: outer) e cls a0 s'.heap:=by
  have:=pi;generalize PySem.W.hideAll s'.heap (e :: T :: frs X.stack)=B at this ⊢;rw [jv] at this;exact this
 show wpAny (model X.prog X.w) X.A (noteFrame (.ref e) X.env) _ _ s';refine wpAny_looks_onW hA ls ua λh₄ jx rh=>?_;have I6:Inv X i7 σ H' { s' with heap:=h₄ }:=I5.flown hex ge gT jx.1 rh;obtain ⟨_,_,_,oe,vs,T',oT,ts,x1,x2,x3,x4,x5,x6,x7,x8,x9⟩:=jx
 have gT':FxOk X i7 H' T':=by
  by_cases hz:s'.heap.get? T'=none
  ·exact I5.fxOk hex hz
  ·obtain ⟨o,ho⟩:=Option.ne_none_iff_exists'.mp hz
   by_cases h1:T'=T
   ·rw [h1]; exact gT
   ·exfalso
    by_cases h2:T'∈frs X.stack
    ·obtain ⟨sl,e'⟩:=rh T' o ho (I5.fnd h2 ho)
     rw [x7] at e';cases e';exact I5.fnd h2 ho ts x8
    ·have:=PySem.W.hideAll_get (e :: T :: frs X.stack) ho (λz=>by
      rcases As z with z | z
      ·exact x6 z
      ·rcases As z with z | z
       ·exact h1 z
       ·exact h2 z)
     rw [x5] at this; cases this
 obtain ⟨m,⟨o,es,ep,ho,hd,r⟩,_⟩:=J.loc;obtain ⟨sl,e1⟩:=rh C o ho (λvs z=>by rw [hd] at z; cases z);refine ⟨m,⟨_,es,ep,e1,hd,r⟩,λh' m7 kq _=>?_⟩;have I7:Inv X i7 σ H' { s' with heap:=h' }:=I6.apart m7 c1 c2 c3 c4 c5;have jo:∀ b,b≠C->h'.get? b=h₄.get? b:=λb hb=>m7.2 b hb;have eC:e≠C:=fe.nl
 have TC:T'≠C:=λz=>by
  rw [z,e1] at x7;cases x7;rw [hd] at x8;cases x8
 exact Zni (fl:=rawInt X.env.locals) I7 hex ⟨oe,vs,oT,ts,(jo e eC).trans x1,x2,x3,x4,x6,(jo T' TC).trans x7,x8,x9⟩ ge gT' q
variable {ts:List Str} {fv:List (Str × Nat)} {scope:Scope} {jl t0 i0:Expr} {f0:List Expr} {rest:List Comprehension} {pos:Pos} {wi:TI} {g:TG} {tt:TT} {tb:Addr->TBX} {je:Env->Addr->Addr->Sem Fin}
def Zbs (ts:List Str) (fv:List (Str × Nat)) (wi:TI) (g:TG) (tt:TT) (tb:Addr->TBX):TEX:=λσ H Q E=>wi σ H λJ H1=>∀ D,H1 D=none ->
 Wz J g tt (λσ H N=>tb D σ H N E) (λ_ H'=>Q (.ref D) H') (blkS ts fv σ) (upd H1 D (.lst []))
theorem Zpc (B:BlkOk X scope fv) (hc:X.calm=true) (hi:PI X t0 i0 wi) (hex:X.ex=[]) (kr:X.xe=(λ_ _=>False)) (jv:∃ o,X.stack=X.env :: o) (ls:X.env.frame=some X.env.locals)
  (hg:∀ C s₀ H₀ ex,PG (Zz X (blkN ts fv) scope C s₀ H₀ ex) t0 g) (ht:∀ C s₀ H₀ ex,PTs (Zz X (blkN ts fv) scope C s₀ H₀ ex) f0 tt)
  (kn:∀ (env:Env) (it D:Addr),compTurn (.ListComp jl (⟨t0,i0,f0,0⟩ :: rest) scope pos) 0 (.ref it) (.ref D) env=(standAt i0.pos >>= λ_=>pyNext (.ref it) >>= λr=>match r with
   | none=>pure (.done .next)
   | some v=>letOwnedTupleGo t0 (.ref it) v >>= λ_=>assign t0 env v >>= λ_ =>
    (forIn f0 true λc r=>if r=true then do let ok <- isTrue c env (eval c env); pure (ForInStep.yield ok) else pure (ForInStep.yield r)) >>= λok =>
     if ok=true then je env it D else again (.compLoop (.ListComp jl (⟨t0,i0,f0,0⟩ :: rest) scope pos) 0 (.ref it) (.ref D) env)))
  (hb:∀ C s₀ H₀ ex it D,PBX (Zz X (blkN ts fv) scope C s₀ H₀ ex) (je (Zz X (blkN ts fv) scope C s₀ H₀ ex).env it D) (.compLoop (.ListComp jl (⟨t0,i0,f0,0⟩ :: rest) scope pos) 0 (.ref it) (.ref D) (Zz X (blkN ts fv) scope C s₀ H₀ ex).env) (tb D))
  (hs:∀ x,foldedSetIterable i0 X.env x=pure x) {Q:VK} {E:XK} (I:Inv X i7 σ H s) (h:Zbs ts fv wi g tt tb σ H Q E) :
  wpAny (model X.prog X.w) X.A (eval (.ListComp jl (⟨t0,i0,f0,0⟩ :: rest) scope pos) X.env) (EP X i7 σ Q) (XA X i7 E) s:=by
 rw [eval_ListComp];refine wpAny_comprehension_free (use:=none) Z hs (Ww λy hy e=>I.ok.has y.1 (B.free y hy e)) B.kind B.names ?_;refine thnF kr (hi i7 s σ H _ I h) λv s1 h1=>thnF kr h1 λqk s2 h2=>?_;obtain ⟨it,fp,tn,J,H2,e,I2,T,j',f2,L⟩:=h2;subst e;have L:=L s2.heap.objs.size I2.fresh;refine wpAny_newObj_type ?_;have I3:Inv X i7 σ (upd H2 s2.heap.objs.size (.lst [])) { s2 with heap:=s2.heap.push { cls:=.type "list",data:=.seq ([]:List Value).toArray },toks:=s2.toks }:=I2.lnew (its:=[]) (t':=s2.toks) .nil (A0 _);have n8:∀ b∈fp,∃ o,s2.heap.get? b=some o/\∀ v,o.data≠.cell v:=T.obj _ _ j';have f3:∀ b∈fp,FpOk X i7 (upd H2 s2.heap.objs.size (.lst [])) b:=λb hb=>by
  obtain ⟨o,ho,_⟩:=n8 b hb
  refine ⟨?_,(f2 b hb).2⟩
  rw [Zh (At (Ap ho))]
  exact (f2 b hb).1
 have j9:tn 0 (s2.heap.push { cls:=.type "list",data:=.seq ([]:List Value).toArray }):=T.keep _ _ _ j' λb _ o e=>Al _ e;have ly:∀ b∈fp,∃ o,(s2.heap.push { cls:=.type "list",data:=.seq ([]:List Value).toArray }).get? b=some o:=λb hb=>let ⟨o,e,_⟩:=n8 b hb; ⟨o,Al _ e⟩
 generalize hs3:({ s2 with heap:=s2.heap.push { cls:=.type "list",data:=.seq ([]:List Value).toArray },toks:=s2.toks }:Shared)=s3 at I3;have eh:s2.heap.push { cls:=.type "list",data:=.seq ([]:List Value).toArray }=s3.heap:=by rw [<- hs3]
 rw [eh] at j9 ly;refine wpAny_newFunctionEnv B.nocell (by intro y hy; simp at hy) (λh₁ nj lq=>?_) B.kind;have hk:∀ b o,s3.heap.get? b=some o->h₁.get? b=some o:=λb o e=>lq.extBut b o (At (Ap e)) (Al _ e);have I4:=Va (ts:=ts) (tk:=s3.toks + ([]:List (Str × Value)).length) B I3 f3 ly nj hk;have f4:∀ b∈fp,FpOk (Zz X (blkN ts fv) scope s3.heap.objs.size s3 (upd H2 s2.heap.objs.size (.lst [])) fp) [] (upd H2 s2.heap.objs.size (.lst [])) b:=λb hb=>by
  obtain ⟨f0,f1,f2',f3',f4',f5'⟩:=f3 b hb
  obtain ⟨o,eo⟩:=ly b hb
  exact ⟨f0,At (Ap eo),I4.ok.exfs b hb,.inl hb,(I4.ok.exf b hb).2,λp hp=>absurd (show p∈([]:List (Addr × Obj)) from hp) (by simp)⟩
 have nq:tn 0 h₁:=T.keep _ _ _ j9 λb _ o e=>hk b o e;have loop:codeAny (model X.prog X.w) X.A (.compLoop (.ListComp jl (⟨t0,i0,f0,0⟩ :: rest) scope pos) 0 (.ref it) (.ref s2.heap.objs.size) (Zz X (blkN ts fv) scope s3.heap.objs.size s3 (upd H2 s2.heap.objs.size (.lst [])) fp).env)
   (compPost (model X.prog X.w) X.A (XA X i7 E) none (EP X i7 σ Q) (.ref s2.heap.objs.size) s3.heap.objs.size) { s3 with heap:=h₁,toks:=s3.toks + ([]:List (Str × Value)).length }:=by
  refine Gy (X:=Zz X (blkN ts fv) scope s3.heap.objs.size s3 (upd H2 s2.heap.objs.size (.lst [])) fp) (tg:=t0) (ifs:=f0) (R:=λ_ H'=>Q (.ref s2.heap.objs.size) H') (E:=E) Z Z Z Z Z (kn _ it s2.heap.objs.size) T hc (hg _ _ _ _) (ht _ _ _ _) (hb _ _ _ _ it s2.heap.objs.size) f4 I4 nq L (λs' σ' H' J' q=>?_) λpb ev s' z=>Zab _ I3 hex jv ls f3 (Ao _) z
  obtain ⟨e1,e2,e3,e4,e5,e6⟩:=Vo I3 f3 (Ao _) J'
  obtain ⟨m,hm,_⟩:=J'.loc
  exact ⟨m,hm,λh' m7=>⟨.ref s2.heap.objs.size,H',e1.apart m7 e2 e3 e4 e5 e6,Z,q⟩⟩
 exact codeAny_compStart_list loop (T.self _ _ _ _ _ nq loop)
end
def PEA (X:Cx) (e:Expr) (t:TEX):Prop :=
 ∀ (i7:List (Addr × Obj)) (s:Shared) (σ:St) (H:Hp) (Q:VK) (E:XK),Inv X i7 σ H s->t σ H Q E->wpAny (model X.prog X.w) X.A (eval e X.env) (EP X i7 σ Q) (XA X i7 E) s
def Op {M:Model} {A:Around} {E:Value->Shared->Prop} {s:Shared} {base:Heap} {env:Env} {outer:List Env} {L e:Addr} {cls a0 fl:Value} {Q:Unit->Shared->Prop}
  (ls:A.frames=some (env :: outer)) (hl:s.heap.FunFrames base (env :: outer)) (hf:env.frame=some L) (ht:s.heap.TracedAtW base e cls a0 fl) (r0:base.StaysIn s.heap) (uw:base.get? e=none)
  (h:∀ h',Heap.LeftW base (env :: outer) e cls a0 s.heap h'->Q () { s with heap:=h' }):wpAny M A (leaving env (.ref e)) Q E s:=by
 by_cases hb:(fl == rawInt L)=true
 ·have htt:=ht
  obtain ⟨oe,vs,T,oT,ts,he,hc0,hd,h1,hnT,vo,hT,pk,h3⟩:=ht;unfold leaving noteFrame;simp only [hf];refine Am (Am (wpAny_field he hd h1 ?_));rw [if_pos (show (Value.ref T != Value.none)=true from by simp)];refine Am (wpAny_field hT pk h3 ?_);rw [if_pos hb];refine wpAny_pure ?_;refine wpAny_setFlight_noneW r0 hl htt λh' k1 k2 k3 k4=>h h' ⟨k1,k2,k3,λb o z n=>⟨o.slots,k4 b o z n⟩⟩
 ·obtain ⟨oe,vs,T,oT,ts,he,⟨on,h0⟩,hd,h1,hnT,vo,hT,pk,h3⟩:=ht
  subst on;unfold leaving noteFrame;simp only [hf];refine Am (Am (wpAny_field he hd h1 ?_));rw [if_pos (show (Value.ref T != Value.none)=true from by simp)];refine Am (wpAny_field hT pk h3 ?_);rw [if_neg hb];refine Am (wpAny_setField hT pk (Array.getElem?_eq_some_iff.mp h3).1 ?_);have other:∀ b,b≠T->(s.heap.update T (Obj.mapFields (·.setIfInBounds 3 Value.none))).get? b=s.heap.get? b:=λb hb=>Heap.get?_update_other _ _ (Ne.symm hb);have vy:∀ b o,s.heap.get? b=some o->(∀ vs,o.data≠.fields vs)->b≠T:=λb o hb ur q=>by
   rw [q,hT] at hb; injection hb with hb; subst hb; exact ur ts pk
  exact wpAny_newEntryW ls (hl.of_keeps λb o hb ur=>⟨o,(other b (vy b o hb ur)).trans hb,Z⟩) hf ((other e (Ne.symm vo)).trans he)
   (λb o hbo=>(other b λq=>by rw [q,hnT] at hbo; cases hbo).trans (r0 b o hbo)) uw hd (Array.getElem?_eq_some_iff.mp h1).1 h0
   λh' ⟨x1,x2,x3,x4⟩=>h h' ⟨x1,x2,x3,λb o hb ur=>x4 b o ((other b (vy b o hb ur)).trans hb) ur⟩
section
variable {P:Program} {w:World} {K:W.Frag} {mg:Str->Option Value} {base:Heap}
def Zie {N:List Str} {qual:Str} {scope:Scope} {f:Addr} {cd:Value} {A:Around} {outer:List Env} {s s':Shared} {H:Hp} {E:XK} {ev:Value} {i7:List (Addr × Obj)}
  (h:XA (cxOf (CXr P w) P w K mg base N qual scope f cd A outer s H E).nox i7 E ev s'):(cxOf (CXr P w) P w K mg base N qual scope f cd A outer s H E).xe ev s':=by
 obtain ⟨e,T,cls,a0,fl,σ',H',rfl,I,hx,fe,fT,q⟩:=h;show wpAny (model P w) (A.deeper (envOfC qual scope s.heap.objs.size f cd)) (leaving (envOfC qual scope s.heap.objs.size f cd) (.ref e)) (λ_ ku=>CXr P w outer H s E (.ref e) ku) (λe' ku=>CXr P w outer H s E e' ku) s';have ls:(A.deeper (envOfC qual scope s.heap.objs.size f cd)).frames=some (envOfC qual scope s.heap.objs.size f cd :: outer):=I.ok.frames;have n0:∀ b,b∈[e,T]->s.heap.get? b=none:=λb hb=>by
  rcases As hb with z | z
  ·rw [z]; exact fe.n0
  ·obtain rfl:b=T:=by simpa using z
   exact fT.n0
 have nt:∀ b,b∈[e,T]->H' b=none:=λb hb=>by
  rcases As hb with z | z
  ·rw [z]; exact fe.nt
  ·obtain rfl:b=T:=by simpa using z
   exact fT.nt
 have hB:∀ b o,b ∉ [e,T]->b ∉ frs (envOfC qual scope s.heap.objs.size f cd :: outer)->s'.heap.get? b=some o->(PySem.W.hideAll s'.heap ([e,T] ++ frs (envOfC qual scope s.heap.objs.size f cd :: outer))).get? b=some o:=λb o h1 h2 e1 =>
  PySem.W.hideAll_get _ e1 λz=>(List.mem_append.mp z).elim h1 h2
 have hl:s'.heap.FunFrames (PySem.W.hideAll s'.heap ([e,T] ++ frs (envOfC qual scope s.heap.objs.size f cd :: outer))) (envOfC qual scope s.heap.objs.size f cd :: outer):=Ji I _ λb hb=>List.mem_append_right _ hb;have r0:(PySem.W.hideAll s'.heap ([e,T] ++ frs (envOfC qual scope s.heap.objs.size f cd :: outer))).StaysIn s'.heap:=λb o e1=>PySem.W.of_hideAll _ e1;have uw:(PySem.W.hideAll s'.heap ([e,T] ++ frs (envOfC qual scope s.heap.objs.size f cd :: outer))).get? e=none:=PySem.W.hideAll_none _ (List.mem_append_left _ List.mem_cons_self);obtain ⟨oe,vs,oT,ts,y1,y2,y3,y4,y5,y6,y7,y8⟩:=hx;refine Op ls hl Z ⟨oe,vs,T,oT,ts,y1,y2,y3,y4,PySem.W.hideAll_none _ (List.mem_append_left _ (by simp)),y5,y6,y7,y8⟩ r0 uw λh' ja=>?_;obtain ⟨k1,k2,k3,k4⟩:=ja;obtain ⟨oe,vs,T',oT,ts,x1,x2,x3,x4,x5,x6,x7,x8,x9⟩:=k3;have kd:∀ b o,b∈frs (envOfC qual scope s.heap.objs.size f cd :: outer)->s'.heap.get? b=some o->∃ sl,h'.get? b=some { o with slots:=sl }:=λb o hb e1=>k4 b o e1 (I.fnd hb e1);have kept:∀ b o,b ∉ [e,T]->b ∉ frs (envOfC qual scope s.heap.objs.size f cd :: outer)->s'.heap.get? b=some o->h'.get? b=some o:=λb o h1 h2 e1=>k1 b o (hB b o h1 h2 e1);have nL:∀ b o,s.heap.get? b=some o->b ∉ frs outer->b ∉ frs (envOfC qual scope s.heap.objs.size f cd :: outer):=λb o e1 h2 z=>by
  have z':b∈s.heap.objs.size :: frs outer:=z
  rcases As z' with z1 | z1
  ·rw [z1] at e1; exact absurd (Ap e1) (Nat.lt_irrefl _)
  ·exact h2 z1
 have nE:∀ b o,s.heap.get? b=some o->b ∉ [e,T]:=λb o e1 z=>by rw [n0 b z] at e1; cases e1
 have trk:∀ b u,H' b=some u->∀ o,s'.heap.get? b=some o->h'.get? b=some o:=λb u hu o e1=>by
  refine kept b o (λz=>by rw [nt b z] at hu; cases hu) (λz=>?_) e1;rw [I.stkFree b z] at hu; cases hu
 have vp:s.heap.get? T'=none/\H' T'=none:=by
  by_cases hz:s'.heap.get? T'=none
  ·refine ⟨?_,I.untr hz⟩
   cases q':s.heap.get? T' with
   | none=>rfl
   | some o =>
    obtain ⟨o',e'⟩:=I.base.there T' o q' (by simp [cxOf]);rw [hz] at e'; cases e'
  ·obtain ⟨o,ho⟩:=Option.ne_none_iff_exists'.mp hz
   by_cases h1:T'∈[e,T]
   ·exact ⟨n0 T' h1,nt T' h1⟩
   ·by_cases h2:T'∈frs (envOfC qual scope s.heap.objs.size f cd :: outer)
    ·exfalso
     obtain ⟨sl,e'⟩:=kd T' o h2 ho;rw [x7] at e';cases e';exact I.fnd h2 ho ts x8
    ·rw [hB T' o h1 h2 ho] at x5; cases x5
 refine ⟨e,T',cls,a0,H',Z,I.os,I.bare,?_,λb u hu=>?_,fe.n0,vp.1,fe.nt,vp.2,⟨oe,vs,oT,ts,x1,x2,x3,x4,x6,x7,x8,x9⟩,q⟩
 ·refine Un.leave I.base (λb o e1 h1 e2=>kept b o (nE b o e1) (nL b o e1 h1) e2) (λb o hb e1=>kd b o (List.mem_cons_of_mem _ hb) e1) λb o e1 o' e2=>?_
  by_cases h2:b∈frs outer
  ·obtain ⟨sl,e'⟩:=kd b o' (List.mem_cons_of_mem _ h2) e2
   exact ⟨_,e'⟩
  ·exact ⟨o',kept b o' (nE b o e1) (nL b o e1 h2) e2⟩
 ·refine (I.hok b u hu).stay (λc v hc e1=>?_) (λ_ z=>z) λ_ _ z=>z
  rcases hc with z | z
  ·exact trk c u (by rw [z]; exact hu) v e1
  ·exact trk c _ z v e1
end
section
variable {X:Cx} {ts:List Str} {fv:List (Str × Nat)} {scope:Scope} {jl t0 i0:Expr} {f0:List Expr} {rest:List Comprehension} {pos:Pos} {wi:TI} {g:TG} {tt:TT} {tb:Addr->TBX} {je:Env->Addr->Addr->Sem Fin}
theorem Zjr (B:BlkOk X scope fv) (hc:X.calm=true) (hi:PI X t0 i0 wi)
  (hg:∀ C s₀ H₀ ex,PG (Zz X (blkN ts fv) scope C s₀ H₀ ex) t0 g) (ht:∀ C s₀ H₀ ex,PTs (Zz X (blkN ts fv) scope C s₀ H₀ ex) f0 tt)
  (kn:∀ (env:Env) (it D:Addr),compTurn (.ListComp jl (⟨t0,i0,f0,0⟩ :: rest) scope pos) 0 (.ref it) (.ref D) env=(standAt i0.pos >>= λ_=>pyNext (.ref it) >>= λr=>match r with
   | none=>pure (.done .next)
   | some v=>letOwnedTupleGo t0 (.ref it) v >>= λ_=>assign t0 env v >>= λ_ =>
    (forIn f0 true λc r=>if r=true then do let ok <- isTrue c env (eval c env); pure (ForInStep.yield ok) else pure (ForInStep.yield r)) >>= λok =>
     if ok=true then je env it D else again (.compLoop (.ListComp jl (⟨t0,i0,f0,0⟩ :: rest) scope pos) 0 (.ref it) (.ref D) env)))
  (hb:∀ C s₀ H₀ ex it D,PBX (Zz X (blkN ts fv) scope C s₀ H₀ ex) (je (Zz X (blkN ts fv) scope C s₀ H₀ ex).env it D) (.compLoop (.ListComp jl (⟨t0,i0,f0,0⟩ :: rest) scope pos) 0 (.ref it) (.ref D) (Zz X (blkN ts fv) scope C s₀ H₀ ex).env) (tb D))
  (hex:X.ex=[]:=by rfl) (kr:X.xe=(λ_ _=>False):=by rfl) (jv:∃ o,X.stack=X.env :: o:=by exact ⟨_,rfl⟩) (ls:X.env.frame=some X.env.locals:=by rfl) (hs:∀ x,foldedSetIterable i0 X.env x=pure x:=by intro _; rfl) :
  PEA X (.ListComp jl (⟨t0,i0,f0,0⟩ :: rest) scope pos) (Zbs ts fv wi g tt tb):=λ_ _ _ _ _ _ I h=>Zpc B hc hi hex kr jv ls hg ht kn hb hs I h
end
inductive ZS where
 | l (a:Addr)
 | t (a:Addr)
 | s (x:Str)
def ZS.ad:ZS->List Addr
 | .l a=>[a]
 | .t a=>[a]
 | .s _=>[]
def ZS.has (K:W.Frag) (H:Hp) (S:ZS) (xs:List V):Prop:=match S with
 | .l a=>SqL K H a xs
 | .t a=>SqT K H a xs
 | .s x=>x.cps.all (· < 128)=true/\xs=x.cps.toList.map λc=>V.str ⟨#[c]⟩
def ZS.it (S:ZS) (i:Addr) (k:Nat) (h:Heap):Prop:=match S with
 | .l a=>h.IsListIter i a k
 | .t a=>IsTupIter h i a k
 | .s x=>∃ t,h.IsStrIter i "str_ascii_iterator" x t k
def ZS.v:ZS->V
 | .l a=>.ref a
 | .t a=>.ref a
 | .s x=>.str x
section
variable {X:Cx}
abbrev THs:=Value->TS
def PHs (X:Cx) (hs:List ExceptHandler) (t:THs):Prop :=
 ∀ (i7:List (Addr × Obj)) (s:Shared) (σ:St) (H:Hp) (D:Ends) (e T:Addr) (cls a0:Value) (h':Heap),Inv X i7 σ H s->FxOk X i7 H e->FxOk X i7 H T ->
  Heap.FlyingW (PySem.W.hideAll s.heap (e :: T :: frs X.stack)) X.stack e cls a0 h'->s.heap.UpToSlots h'->t cls D σ H->wpAny (model X.prog X.w) X.A (handleBy (.ref e) X.env hs) (SP X i7 D) X.xe { s with heap:=h' }
def Zil {hs:List ExceptHandler}:PHs X hs (λ_ _ _ _=>False):=λ_ _ _ _ _ _ _ _ _ _ _ _ _ _ _ z=>z.elim
def Fm {b₀:Stmt} {qv:List Stmt} {x:Str} {np om:Pos} {rest:List ExceptHandler} {ts:TS} {tr:THs} {C:Addr} (hg:Gl X x) (hm:X.mg x=some (.ref C)) (hs:∀ e,PSs (Oj X e) (b₀ :: qv) ts) (hr:PHs X rest tr)
  (hex:X.ex=[]:=by rfl) (hx:X.xe=(λ_ _=>False):=by rfl) (ka:(x == ("__debug__":Str))=false:=by decide) :
  PHs X (.ExceptHandler (some (.Name x np)) none (b₀ :: qv) om :: rest) (λcls D σ H=>∃ b,PySem.W.exmOne X.K cls (.ref C)=some b/\if b=true then ts D σ H else tr cls D σ H):=by
 intro i7 s σ H D e T cls a0 h' I fe fT jx rh q;obtain ⟨b,hb,q⟩:=q;have I5:Inv X i7 σ H { s with heap:=h' }:=I.flown hex fe fT jx.1 rh;obtain ⟨ob,qo,hobc⟩:=jx.there;refine wpAny_handleBy_cons (codeAny_handlers_test (W5 (X:=Oj X e) (I5.hnd e) hg hm ?_ ka)) (by intro q; cases q);have LT:PySem.W.Looks (model X.prog X.w) h' (typeOf (.ref e)) cls:=by
  have:PySem.W.Looks (model X.prog X.w) h' (typeOf (.ref e)) ob.cls:=(PySem.W.Looks.ld qo).andThen .now
  rw [hobc] at this
  exact this
 refine (PySem.W.exm_one I5.kIn LT hb).here ?_
 cases b with
 | false=>exact hr i7 s σ H D e T cls a0 h' I fe fT jx rh q
 | true =>
  refine codeAny_handlers_suite ?_;refine lands_againW jx λh₆ hfl₆ hsm₆=>?_;have I6:Inv X i7 σ H { s with heap:=h₆ }:=I.flown hex fe fT hfl₆.1 (rh.trans hsm₆);have h6:=hs e i7 _ σ H D (I6.hnd e) q;have kr:(Oj X e).xe=λ_ _=>False:=hx;rw [kr] at h6;refine wpAny_mono h6 (λf s2 q2=>?_) λ_ _ z=>z.elim;exact q2.unhnd I6.ok
def Zoa (tb:TSX) (th:THs):TS:=λD σ H=>tb D (λcls σ' H'=>th cls D σ' H') σ H
def Ze6 {body:List Stmt} {h₀:ExceptHandler} {hs:List ExceptHandler} {pos:Pos} {tb:TSX} {th:THs} (hb:PSsX false X body tb) (hh:PHs X (h₀ :: hs) th)
  (hex:X.ex=[]:=by rfl) (jv:∃ o,X.stack=X.env :: o:=by exact ⟨_,Z⟩) (ls:X.env.frame=some X.env.locals:=by rfl) :
  PS X (.Try body (h₀ :: hs) [] [] pos) (Zoa tb th):=by
 intro i7 s σ H D I h;obtain ⟨outer,jv⟩:=jv;refine wpAny_Try_except (wpAny_mono (hb i7 s σ H D _ I h) (λf s1 q=>?_) ?_)
 ·cases f with
  | next=>exact wpAny_execs_nil q
  | ret v=>exact q
  | brk=>exact q
  | cont=>exact q
 ·rintro ev s1 ⟨e,T,cls,a0,σ1,H1,rfl,I1,hx1,fe,fT,hT,q⟩
  obtain ⟨T,rfl⟩:∃ t,T=some t:=by
   cases T with
   | none=>exact absurd (hT Z) Bool.false_ne_true
   | some t=>exact ⟨t,Z⟩
  have fT:=fT T rfl;have pi:=Zip I1 hx1;have hA:X.A.frames=some (X.env :: outer):=by rw [I.ok.frames,jv]
  have ua:Heap.FlyingW (PySem.W.hideAll s1.heap (e :: T :: frs X.stack)) (X.env :: outer) e cls a0 s1.heap:=by
   have:=pi;generalize PySem.W.hideAll s1.heap (e :: T :: frs X.stack)=B at this ⊢;rw [jv] at this;exact this
  refine wpAny_looks_onW hA ls ua λh₄ hheld₄ hsm₄=>?_;refine wpAny_landsW hheld₄ λh₅ jx hsm₅'=>?_;refine hh i7 s1 σ1 H1 D e T cls a0 h₅ I1 fe fT ?_ (hsm₄.trans hsm₅') q;generalize PySem.W.hideAll s1.heap (e :: T :: frs X.stack)=B at jx ⊢;rw [jv];exact jx
end
def FnOk.or {P:Program} {w:World} {K:W.Frag} {mg:Str->Option Value} {base:Heap} {CX:CXT} {k:Nat} {f:Addr} {fd:FuncData} {ps:List Str} {sp u5:Sp} (F:FnOk P w K mg base CX k f fd ps sp) (G:FnOk P w K mg base CX k f fd ps u5) :
  FnOk P w K mg base CX k f fd ps (λvs H Q E=>sp vs H Q E\/u5 vs H Q E) :=
 ⟨λvs H Q E q=>q.elim (F.len vs H Q E) (G.len vs H Q E),λA outer s H args us vs Q E hr he hb hv hs=>hs.elim (F.run A outer s H args us vs Q E hr he hb hv) (G.run A outer s H args us vs Q E hr he hb hv)⟩
abbrev TAZ:=St->Hp->(List V->Hp->Prop)->XK->Prop
def PAZ (fr:Bool) (X:Cx) (es:List Expr) (t:TAZ):Prop :=
 ∀ (pos:Pos) (i7:List (Addr × Obj)) (s:Shared) (σ:St) (H:Hp) (Q:List V->Hp->Prop) (E:XK),Inv X i7 σ H s->t σ H Q E->wpAny (model X.prog X.w) X.A (spliced (backTo pos (starEach es X.env))) (AP X i7 σ Q) (XS fr X i7 λcls σ' H'=>σ'=σ/\E cls none H') s
section
variable {X:Cx} {fr:Bool} {k:Nat} {f:Addr} {fd:FuncData} {ps:List Str} {sp:Sp} {jn:List V} {ds:List Value} {x:Str} {p pos:Pos} {e:Expr} {es:List Expr}
def Zhz {t:TA} (h:PA X es t) (hx:X.xe=(λ_ _=>False):=by rfl):PAZ fr X es (λσ H Q _=>t σ H Q):=by
 intro pos i7 s σ H Q E I q;have h0:=h pos i7 s σ H Q I q;rw [hx] at h0;exact wpAny_mono h0 (λ_ _ z=>z) λ_ _ z=>z.elim
def Qs {te:TEX} {t:TAZ} (ha:PEX fr X e te) (hr:PAZ fr X es t) (hs:starEach (e :: es) X.env=(false,eval e X.env) :: starEach es X.env:=by rfl):PAZ fr X (e :: es) (λσ H Q E=>te σ H (λx H1=>t σ H1 (λxs H2=>Q (x :: xs) H2) E) E):=by
 intro pos i7 s σ H Q E I h;rw [hs];show wpAny _ _ (spliced ((false,eval e X.env) :: backTo pos (starEach es X.env))) _ _ s;refine Calls.spliced_cons (thn (ha i7 s σ H _ E I h) λu s1 ja=>?_);obtain ⟨x,H1,I1,r1,q1⟩:=ja;refine thn (hr pos i7 s1 σ H1 _ E I1 q1) λus s2 zz42=>?_;obtain ⟨xs,H2,I2,r2,q2⟩:=zz42;exact ⟨x :: xs,H2,I2,.cons r1 r2,q2⟩
def F8 {t:TAZ} (F:FnOk X.prog X.w X.K X.mg X.base (CXr X.prog X.w) k f fd ps sp) (hr:Room k X.A) (hg:Gl X x) (hm:X.mg x=some (.ref f)) (hk:PySem.W.keepIn X.K (.ref f)=true) (hb:X4 X.K fd ps ds) (hd:Vals jn ds)
  (ha:PAZ fr X (e :: es) t) (hex:X.ex=[]:=by rfl) (ka:(x == ("__debug__":Str))=false:=by decide) (he:starEach (e :: es) X.env=(false,eval e X.env) :: starEach es X.env:=by rfl) (ju:(backTo pos (starEach es X.env)).any (·.1)=false:=by rfl) :
  PEX fr X (.Call (.Name x p) (e :: es) [] pos) (λσ H Q E=>t σ H (λvs H1=>sp (vs ++ jn) H1 Q E) E):=by
 intro i7 s σ H Q E I h;have h0:=ha pos i7 s σ H _ E I h;refine wpAny_Call_Name_kw (W5 I hg hm ?_ ka);refine PySem.W.callWith_K (h₀:=X.base) I.ok.mod.kin hk (wpAny_mono h0 (λus s1 zz43=>?_) λ_ _ z=>z) he ju;obtain ⟨vs,H1,I1,r,q⟩:=zz43;refine ⟨I1.kIn,?_⟩;exact Oc F hr hb hd hex I1 r q
end
structure LW (X:Cx) (xl:Value->Shared->Prop) (E:XK):Prop where
 l:LV X xl (λcls _ H'=>E cls none H')
 a:∀ (i7:List (Addr × Obj)) (ev:Value) (s':Shared),XA X i7 E ev s'->xl ev s'
def PEL (X:Cx) (xl:Value->Shared->Prop) (E:XK) (e:Expr) (t:TEX):Prop :=
 ∀ (i7:List (Addr × Obj)) (s:Shared) (σ:St) (H:Hp) (Q:VK),Inv X i7 σ H s->t σ H Q E->wpAny (model X.prog X.w) X.A (eval e X.env) (EP X i7 σ Q) xl s
def PAL (X:Cx) (xl:Value->Shared->Prop) (E:XK) (es:List Expr) (t:TAZ):Prop :=
 ∀ (pos:Pos) (i7:List (Addr × Obj)) (s:Shared) (σ:St) (H:Hp) (Q:List V->Hp->Prop),Inv X i7 σ H s->t σ H Q E->wpAny (model X.prog X.w) X.A (spliced (backTo pos (starEach es X.env))) (AP X i7 σ Q) xl s
section
variable {X:Cx} {xl:Value->Shared->Prop} {E:XK} {e:Expr} {es:List Expr} {pos:Pos}
def W6 {t:TE} (h:PE X e t) (hx:X.xe=(λ_ _=>False):=by rfl):PEL X xl E e (λσ H Q _=>t σ H Q):=λi7 s σ H Q I q=>thnF hx (h i7 s σ H Q I q) λ_ _ z=>z
def X2 {t:TEX} (L:LW X xl E) (h:PEX true X e t):PEL X xl E e t:=λi7 s σ H Q I q =>
 wpAny_mono (h i7 s σ H Q E I q) (λ_ _ z=>z) λev s' z=>L.l.lv i7 ev s' (by
  obtain ⟨e,T,cls,a0,σ',H',h1,h2,h3,h4,h5,h7,_,h6⟩:=z
  exact ⟨e,T,cls,a0,σ',H',h1,h2,h3,h4,h5,h7,h6⟩)
def Zos {t:TEX} (L:LW X xl E) (h:PEA X e t):PEL X xl E e t:=λi7 s σ H Q I q =>
 wpAny_mono (h i7 s σ H Q E I q) (λ_ _ z=>z) λev s' z=>L.a i7 ev s' z
def X9 {t:TA} (h:PA X es t) (hx:X.xe=(λ_ _=>False):=by rfl):PAL X xl E es (λσ H Q _=>t σ H Q):=λpos i7 s σ H Q I q=>thnF hx (h pos i7 s σ H Q I q) λ_ _ z=>z
def Z6 {te:TEX} {t:TAZ} (ha:PEL X xl E e te) (hr:PAL X xl E es t) (hs:starEach (e :: es) X.env=(false,eval e X.env) :: starEach es X.env:=by rfl):PAL X xl E (e :: es) (λσ H Q E=>te σ H (λx H1=>t σ H1 (λxs H2=>Q (x :: xs) H2) E) E):=by
 intro pos i7 s σ H Q I h;rw [hs];show wpAny _ _ (spliced ((false,eval e X.env) :: backTo pos (starEach es X.env))) _ _ s;refine Calls.spliced_cons (thn (ha i7 s σ H _ I h) λu s1 ja=>?_);obtain ⟨x,H1,I1,r1,q1⟩:=ja;refine thn (hr pos i7 s1 σ H1 _ I1 q1) λus s2 zz44=>?_;obtain ⟨xs,H2,I2,r2,q2⟩:=zz44;exact ⟨x :: xs,H2,I2,.cons r1 r2,q2⟩
def Xs {x1} {t:TAZ} (h:PAL X xl E es t):PEL X xl E (.Tuple es x1 pos) (Zn9 t):=by
 intro i7 s σ H Q I hq;refine wpAny_Tuple_spliced (thn (h pos i7 s σ H _ I hq) λus s1 qx=>?_);obtain ⟨xs,H1,I1,r,z,q⟩:=qx;refine ⟨by rw [<- r.length]; exact z,?_⟩;have hf:H1 s1.heap.objs.size=none:=I1.hok.fresh (Ao _);refine ⟨.ref s1.heap.objs.size,upd H1 s1.heap.objs.size (.tup xs),I1.laid (t':=s1.toks) (λb u e=>Al _ e) (Ao _) ?_,Z,q _ hf⟩;exact ⟨z,us,r,⟨_,Aq _ Z,Z,_,Z⟩⟩
def Xd {te:TEX} (he:PEL X xl E e te):PSL X xl (λcls _ H'=>E cls none H') (.Return (some e) pos) (λD _ σ H=>te σ H D.rt E):=λi7 s σ H D I h =>
 wpAny_Return_some (wpAny_mono (he i7 s σ H _ I h) (λv s1 ⟨x,H1,I1,r1,q1⟩=>⟨x,σ,H1,I1,r1,q1⟩) λ_ _ z=>z)
def W3 {fr:Bool} {k i:Nat} {f:Addr} {fd:FuncData} {ps:List Str} {sp:Sp} {ds:List Value} {jn:List V} {x:Str} {p:Pos} {t:TA} (F:FnOk X.prog X.w X.K X.mg X.base (CXr X.prog X.w) k f fd ps sp) (hr:Room k X.A) (hN:X.N[i]?=some x) (hv:Vis X.env.scope x) (hk:PySem.W.keepIn X.K (.ref f)=true) (hb:X4 X.K fd ps ds) (hd:Vals jn ds)
  (ha:PA X (e :: es) t) (hex:X.ex=[]:=by rfl) (hx:X.xe=(λ_ _=>False):=by rfl) (ka:(x == ("__debug__":Str))=false:=by decide) (k6:(x == ("__classdict__":Str))=false:=by decide) (he:starEach (e :: es) X.env=(false,eval e X.env) :: starEach es X.env:=by rfl) (ju:(backTo pos (starEach es X.env)).any (·.1)=false:=by rfl) :
  PEX fr X (.Call (.Name x p) (e :: es) [] pos) (λσ H Q E=>σ[i]?=some (some (.ref f))/\Ky sp jn t σ H Q E):=by
 intro i7 s σ H Q E I h;obtain ⟨h0,h⟩:=h;refine wpAny_Call_Name_kw (thnF hx (Zhv hN hv ka k6 i7 s σ H (λv H'=>v=.ref f/\H'=H) I ⟨_,h0,Z,Z⟩) λv s1 ja=>?_);obtain ⟨y,H1,I1,r1,e1,e2⟩:=ja;subst e1 e2;cases r1;refine PySem.W.callWith_K (h₀:=X.base) I1.ok.mod.kin hk (thnF hx (ha pos i7 s1 σ _ _ I1 h) λus s2 zz45=>?_) he ju;obtain ⟨vs,H2,I2,r,q⟩:=zz45;refine ⟨I2.kIn,?_⟩;exact Oc F hr hb hd hex I2 r q
end
section
variable {X:Cx} {xl:Value->Shared->Prop} {E:XK} {ts:List Str} {fv:List (Str × Nat)} {scope:Scope} {jl t0 i0:Expr} {f0:List Expr} {rest:List Comprehension} {pos:Pos} {wi:TI} {g:TG} {tt:TT} {tb:Addr->TBX} {je:Env->Addr->Addr->Sem Fin}
theorem Qo {i:Nat} {y:Str} {py oh:Pos} (L:LW X xl E) (B:BlkOk X scope fv) (hc:X.calm=true) (hN:X.N.Nodup) (zw:X.N[i]?=some y) (vc:X.env.scope.names.lookup y=some .local)
  (y0:swapsWith (.ListComp jl (⟨t0,i0,f0,0⟩ :: rest) scope pos) (some (.Name y py)) oh.line X.env=pure true) (hi:PI X t0 i0 wi)
  (hg:∀ C s₀ H₀ ex,PG (Zz X (blkN ts fv) scope C s₀ H₀ ex) t0 g) (ht:∀ C s₀ H₀ ex,PTs (Zz X (blkN ts fv) scope C s₀ H₀ ex) f0 tt)
  (kn:∀ (env:Env) (it D:Addr),compTurn (.ListComp jl (⟨t0,i0,f0,0⟩ :: rest) scope pos) 0 (.ref it) (.ref D) env=(standAt i0.pos >>= λ_=>pyNext (.ref it) >>= λr=>match r with
   | none=>pure (.done .next)
   | some v=>letOwnedTupleGo t0 (.ref it) v >>= λ_=>assign t0 env v >>= λ_ =>
    (forIn f0 true λc r=>if r=true then do let ok <- isTrue c env (eval c env); pure (ForInStep.yield ok) else pure (ForInStep.yield r)) >>= λok =>
     if ok=true then je env it D else again (.compLoop (.ListComp jl (⟨t0,i0,f0,0⟩ :: rest) scope pos) 0 (.ref it) (.ref D) env)))
  (hb:∀ C s₀ H₀ ex it D,PBX (Zz X (blkN ts fv) scope C s₀ H₀ ex) (je (Zz X (blkN ts fv) scope C s₀ H₀ ex).env it D) (.compLoop (.ListComp jl (⟨t0,i0,f0,0⟩ :: rest) scope pos) 0 (.ref it) (.ref D) (Zz X (blkN ts fv) scope C s₀ H₀ ex).env) (tb D))
  (hex:X.ex=[]:=by rfl) (kr:X.xe=(λ_ _=>False):=by rfl) (jv:∃ o,X.stack=X.env :: o:=by exact ⟨_,rfl⟩) (ls:X.env.frame=some X.env.locals:=by rfl) (hs:∀ x,foldedSetIterable i0 X.env x=pure x:=by intro _; rfl) :
  PSL X xl (λcls _ H'=>E cls none H') (.Assign [.Name y py] (.ListComp jl (⟨t0,i0,f0,0⟩ :: rest) scope pos) oh) (λD0 _ σ H=>Zbs ts fv wi g tt tb σ H (λv H1=>D0.nx (σ.set i (some v)) H1) E):=by
 intro i7 s σ H D0 I h;rw [exec_Assign_Name_used _ _ _ _ y0];refine Am (wpAny_standAt (Am ?_));show wpAny _ X.A (do let _ <- comprehension (.ListComp jl (⟨t0,i0,f0,0⟩ :: rest) scope pos) scope X.env _ (newList []) false (eval i0 X.env) (some (assign (.Name y py) X.env))) _ _ s;refine Am (wpAny_mono (wpAny_comprehension_free (use:=some (assign (.Name y py) X.env)) (Q:=λ_ s'=>SP X i7 D0 .next s') (E:=XA X i7 E) Z hs (Ww λy hy e=>I.ok.has y.1 (B.free y hy e)) B.kind B.names ?_) (λ_ s' hq=>wpAny_pure (wpAny_pure hq)) λev s' z=>L.a i7 ev s' z);refine thnF kr (hi i7 s σ H _ I h) λv s1 h1=>thnF kr h1 λqk s2 h2=>?_;obtain ⟨it,fp,tn,J,H2,e,I2,T,j',f2,L0⟩:=h2;subst e;have L0:=L0 s2.heap.objs.size I2.fresh;refine wpAny_newObj_type ?_;have I3:Inv X i7 σ (upd H2 s2.heap.objs.size (.lst [])) { s2 with heap:=s2.heap.push { cls:=.type "list",data:=.seq ([]:List Value).toArray },toks:=s2.toks }:=I2.lnew (its:=[]) (t':=s2.toks) .nil (A0 _);have n8:∀ b∈fp,∃ o,s2.heap.get? b=some o/\∀ v,o.data≠.cell v:=T.obj _ _ j';have f3:∀ b∈fp,FpOk X i7 (upd H2 s2.heap.objs.size (.lst [])) b:=λb hb=>by
  obtain ⟨o,ho,_⟩:=n8 b hb
  refine ⟨?_,(f2 b hb).2⟩
  rw [Zh (At (Ap ho))]
  exact (f2 b hb).1
 have j9:tn 0 (s2.heap.push { cls:=.type "list",data:=.seq ([]:List Value).toArray }):=T.keep _ _ _ j' λb _ o e=>Al _ e;have ly:∀ b∈fp,∃ o,(s2.heap.push { cls:=.type "list",data:=.seq ([]:List Value).toArray }).get? b=some o:=λb hb=>let ⟨o,e,_⟩:=n8 b hb; ⟨o,Al _ e⟩
 generalize hs3:({ s2 with heap:=s2.heap.push { cls:=.type "list",data:=.seq ([]:List Value).toArray },toks:=s2.toks }:Shared)=s3 at I3;have eh:s2.heap.push { cls:=.type "list",data:=.seq ([]:List Value).toArray }=s3.heap:=by rw [<- hs3]
 rw [eh] at j9 ly;refine wpAny_newFunctionEnv B.nocell (by intro y hy; simp at hy) (λh₁ nj lq=>?_) B.kind;have hk:∀ b o,s3.heap.get? b=some o->h₁.get? b=some o:=λb o e=>lq.extBut b o (At (Ap e)) (Al _ e);have I4:=Va (ts:=ts) (tk:=s3.toks + ([]:List (Str × Value)).length) B I3 f3 ly nj hk;have f4:∀ b∈fp,FpOk (Zz X (blkN ts fv) scope s3.heap.objs.size s3 (upd H2 s2.heap.objs.size (.lst [])) fp) [] (upd H2 s2.heap.objs.size (.lst [])) b:=λb hb=>by
  obtain ⟨f0,f1,f2',f3',f4',f5'⟩:=f3 b hb
  obtain ⟨o,eo⟩:=ly b hb
  exact ⟨f0,At (Ap eo),I4.ok.exfs b hb,.inl hb,(I4.ok.exf b hb).2,λp hp=>absurd (show p∈([]:List (Addr × Obj)) from hp) (by simp)⟩
 have nq:tn 0 h₁:=T.keep _ _ _ j9 λb _ o e=>hk b o e;have loop:codeAny (model X.prog X.w) X.A (.compLoop (.ListComp jl (⟨t0,i0,f0,0⟩ :: rest) scope pos) 0 (.ref it) (.ref s2.heap.objs.size) (Zz X (blkN ts fv) scope s3.heap.objs.size s3 (upd H2 s2.heap.objs.size (.lst [])) fp).env)
   (compPost (model X.prog X.w) X.A (XA X i7 E) (some (assign (.Name y py) X.env)) (λ_ s'=>SP X i7 D0 .next s') (.ref s2.heap.objs.size) s3.heap.objs.size) { s3 with heap:=h₁,toks:=s3.toks + ([]:List (Str × Value)).length }:=by
  refine Gy (X:=Zz X (blkN ts fv) scope s3.heap.objs.size s3 (upd H2 s2.heap.objs.size (.lst [])) fp) (tg:=t0) (ifs:=f0) (R:=λ_ H'=>D0.nx (σ.set i (some (.ref s2.heap.objs.size))) H') (E:=E) Z Z Z Z Z (kn _ it s2.heap.objs.size) T hc (hg _ _ _ _) (ht _ _ _ _) (hb _ _ _ _ it s2.heap.objs.size) f4 I4 nq L0 (λs' σ' H' J' q=>?_) λpb ev s' z=>Zab (Q:=λ_ _=>True) Value.none I3 hex jv ls f3 (Ao _) z
  obtain ⟨e1,e2,e3,e4,e5,e6⟩:=Vo I3 f3 (Ao _) J'
  obtain ⟨m,hm,_⟩:=J'.loc
  show wpAny _ X.A (assign (.Name y py) X.env (.ref s2.heap.objs.size)) _ _ _
  refine wpAny_assign_Name (Uh e1 hN zw (.inl vc) (show RelV (.ref s2.heap.objs.size) (.ref s2.heap.objs.size) from Z) (λku I'' lw=>?_) (.inr vc))
  obtain ⟨a,lq,ha⟩:=lw
  have haC:s3.heap.objs.size≠a:=by
   rcases ha with e | e
   ·rw [e]; exact e4
   ·exact λz=>e5 y a e z.symm
  exact ⟨m,hm.sameBut lq haC,λh' m7=>⟨_,H',I''.apart m7 e2 e3 e4 e5 e6,q⟩⟩
 exact codeAny_compStart_list loop (T.self _ _ _ _ _ nq loop)
end
section
variable {P:Program} {w:World} {K:W.Frag} {mg:Str->Option Value} {base:Heap}
def Fun.okLA {x qual:Str} {st:Stmt} {f:Addr} {fd:FuncData} {N ps:List Str} {k:Nat} {sp:Sp} (F:Fun K x qual st f fd) (S:FnScope N ps (Zg st)) (len:∀ vs H Q E,sp vs H Q E->vs.length=ps.length)
  (jt:∀ (jc:Value) (A:Around) (outer:List Env) (s:Shared) (H:Hp) (vs:List V) (Q:VK) (E:XK),Room k (A.deeper (envOfC qual (Zg st) s.heap.objs.size f jc))->sp vs H Q E ->
   ∃ t,(∀ xl,LW (cxOf (CXr P w) P w K mg base N qual (Zg st) f jc A outer s H E).nox xl E->PSsL (cxOf (CXr P w) P w K mg base N qual (Zg st) f jc A outer s H E).nox xl (λcls _ H'=>E cls none H') (Yt st) t)/\t { nx:=λ_ H'=>Q .non H',rt:=Q } (λcls _ H'=>E cls none H') (start N vs) H):FnOk P w K mg base (CXr P w) (k + 1) f fd ps sp:=by
 obtain ⟨oc,od,kV,jm,pm,an,jc,ct,pd,rfl,lk,k6⟩:=F.ex;refine Zgn lk k6 S len λA outer s H vs Q E hr j7=>?_;obtain ⟨t,h,q⟩:=jt jc A outer s H vs Q E hr j7;refine ⟨λD σ H'=>t D (λcls _ H''=>E cls none H'') σ H',λi7 s' σ' H' D I hD=>?_,q⟩;refine wpAny_mono (h _ ⟨⟨λi7 ev ku z=>Zdg (fr:=true) ?_,PassesOwn.leaving⟩,λi7 ev ku z=>Zie z⟩ i7 s' σ' H' D (I.wish _) hD) (λ_ _ z=>z.unwish) λev ku z=>z;obtain ⟨e,T,cls,a0,σ2,H2,h1,h2,h3,h4,h5,h7,h6⟩:=z;exact ⟨e,T,cls,a0,σ2,H2,h1,h2.pins_of (λp hp=>absurd hp (by simp)),h3,h4.none,λt ht=>(h5 t ht).none,h7,h6⟩
def FnOk.no {CX:CXT} {k:Nat} {f:Addr} {fd:FuncData} {ps:List Str}:FnOk P w K mg base CX k f fd ps (λ_ _ _ _=>False):=⟨λ_ _ _ _ q=>q.elim,λ_ _ _ _ _ _ _ _ _ _ _ _ _ q=>q.elim⟩
end
section
variable {X:Cx} {i o:Expr} {ty td:TE} {pos:Pos}
def tKIn (w:World) (K:W.Frag) (ty td:TE):TE:=λσ H Q=>ty σ H λy H1=>td σ H1 λx H2=>∃ a kvs k,x=.ref a/\Vb w K a kvs/\y=kV k/\Q (.bl (valV kvs k).isSome) H2
def Qr (hi:PE X i ty) (ho:PE X o td):PC X .In i o (tKIn X.w X.K ty td):=by
 intro i7 s σ H Q I h;refine thn (hi i7 s σ H _ I h) λiv s1 zz46=>?_;obtain ⟨y,H1,I1,ry,q1⟩:=zz46;refine thn (ho i7 s1 σ H1 _ I1 q1) λu s2 ja=>?_;obtain ⟨x,H2,I2,rx,a,kvs,k,ex,g,ey,q2⟩:=ja;subst ex ey;obtain rfl:u=Value.ref a:=rx;obtain ⟨hd,vs,jk,dd⟩:=g.here I2;refine wpAny_in_of (J9 ry) hd dd.mapOf ?_;rw [<- (jk.val k).isSome_eq];exact ⟨.bl _,H2,I2.tok _,Z,q2⟩
end
def kdict_mk5 {w:World} {K:W.Frag} {a:Addr} {h1 h2 h3 h4 h5:Int} {t1 t2 t3 t4 t5:Tok} {ep:Nat} {x1 x2 x3 x4 x5:Str} {y1 y2 y3 y4 y5:Addr}
  (l:K.lookup a=some ⟨.type "dict",none,.dict #[⟨h1,.str x1 t1,.ref y1⟩,⟨h2,.str x2 t2,.ref y2⟩,⟨h3,.str x3 t3,.ref y3⟩,⟨h4,.str x4 t4,.ref y4⟩,⟨h5,.str x5 t5,.ref y5⟩] ep,#[]⟩)
  (e1:h1=hashStr w x1) (e2:h2=hashStr w x2) (e3:h3=hashStr w x3) (e4:h4=hashStr w x4) (e5:h5=hashStr w x5) (ne:([x1,x2,x3,x4,x5]:List Str).Nodup) (sy:(a == sysModules)=false) :
  Vb w K a [(Sum.inr x1,.ref y1),(Sum.inr x2,.ref y2),(Sum.inr x3,.ref y3),(Sum.inr x4,.ref y4),(Sum.inr x5,.ref y5)]:=by
 refine ⟨_,_,_,[(Sum.inr x1,.ref y1),(Sum.inr x2,.ref y2),(Sum.inr x3,.ref y3),(Sum.inr x4,.ref y4),(Sum.inr x5,.ref y5)],l,⟨Z,Z,Z⟩,Z,λe he=>?_,λP=>?_,?_,?_,sy⟩
 ·have he:e=⟨h1,.str x1 t1,.ref y1⟩\/e=⟨h2,.str x2 t2,.ref y2⟩\/e=⟨h3,.str x3 t3,.ref y3⟩\/e=⟨h4,.str x4 t4,.ref y4⟩\/e=⟨h5,.str x5 t5,.ref y5⟩:=by simpa using he
  rcases he with rfl | rfl | rfl | rfl | rfl
  ·exact ⟨Sum.inr x1,Yq x1 t1,e1⟩
  ·exact ⟨Sum.inr x2,Yq x2 t2,e2⟩
  ·exact ⟨Sum.inr x3,Yq x3 t3,e3⟩
  ·exact ⟨Sum.inr x4,Yq x4 t4,e4⟩
  ·exact ⟨Sum.inr x5,Yq x5 t5,e5⟩
 ·exact .cons (Yq x1 t1) Z (.cons (Yq x2 t2) Z (.cons (Yq x3 t3) Z (.cons (Yq x4 t4) Z (.cons (Yq x5 t5) Z .nil))))
 ·have:([x1,x2,x3,x4,x5].map (Sum.inr:Str->Key)).Nodup:=by
   rw [List.nodup_iff_pairwise_ne,List.pairwise_map];exact (List.nodup_iff_pairwise_ne.mp ne).imp λh e=>h (by injection e)
  exact this
 ·exact .cons ⟨Z,Z⟩ (.cons ⟨Z,Z⟩ (.cons ⟨Z,Z⟩ (.cons ⟨Z,Z⟩ (.cons ⟨Z,Z⟩ .nil))))
end L2
namespace L2
open PySem PySem.Spec PyProof.Rows PySem.SeqAt
section
variable {X:Cx}
def Gz:X3 X (.type "dict") (λxs H Q=>∃ (d:Addr) (kvs:List (Key × V)),xs=[.ref d]/\Rd H d (.dK kvs)/\∀ p,H p=none->Q (.ref p) (upd H p (.dK kvs))):=by
 intro i7 s σ H xs us Q I r h;obtain ⟨d,kvs,rfl,hd,q⟩:=h;obtain ⟨u,rfl,ru⟩:=Xv r;obtain rfl:u=Value.ref d:=ru;obtain ⟨z,oj,vs,jk,dd⟩:=Q9 I.hok hd;have hl:vs.length<=sizeLine:=by rw [<- jk.length]; exact z
 refine kt_call_dict oj dd hl λh' hD lq=>?_;have hk:∀ b u,s.heap.get? b=some u->h'.get? b=some u:=λb u e=>(lq.2 b (At (Ap e))).trans (Al _ e);refine ⟨.ref s.heap.objs.size,_,I.laid (a:=s.heap.objs.size) (o:=.dK kvs) (t':=s.toks) hk (Ao _) ⟨z,?_,vs,jk,hD⟩,Z,q _ (I.hok.fresh (Ao _))⟩;exact (Ku (P:=X.prog) (w:=X.w) (H:=H) s.heap I.big).2.1
def Zkg {i7:List (Addr × Obj)} {σ:St} {H:Hp} {s:Shared} {ns:List Int} {its:List Value} (rv:Vals (ns.map V.int) its):∀ (i:Nat) (v:Value),its.toArray[i]?=some v->∃ t,v=.int (ns.getD i 0) t:=λi v hv=>by
 have hv:its[i]?=some v:=by simpa using hv
 have jb:=rv.length;rw [Ac] at jb;have hi:i < ns.length:=by have:=(Aa hv).1; lia
 obtain ⟨u,hu,ru⟩:=rv.get (show (ns.map V.int)[i]?=some (V.int ns[i]) by rw [Ai,Ad hi]; rfl);rw [hv] at hu;cases hu;obtain ⟨t,rfl⟩:=ru;exact ⟨t,by rw [Ae,Ad hi]; rfl⟩
end
end L2
namespace L2
open PySem PySem.Spec PyProof.Rows
def Rise (l:List Nat):Prop:=l.Pairwise (· < ·)
def Vj {xs:Array Nat} (hr:Rise xs.toList) {i k x y:Nat} (hi:xs[i]?=some x) (hk:xs[k]?=some y) (h:i < k):x < y:=by
 have e1:xs.toList[i]?=some x:=by rw [Array.getElem?_toList]; exact hi
 have e2:xs.toList[k]?=some y:=by rw [Array.getElem?_toList]; exact hk
 obtain ⟨l1,q1⟩:=Aa e1;obtain ⟨l2,q2⟩:=Aa e2;have:=List.pairwise_iff_getElem.mp hr i k l1 l2 h;rw [q1,q2] at this;exact this
theorem V8 {xs:Array Nat} {j:Nat} (hr:Rise xs.toList):∀ (jw lo hi:Nat),hi - lo<=jw->lo<=hi->hi<=xs.size->(∀ i x,i < lo->xs[i]?=some x->x < j)->(∀ i x,hi<=i->xs[i]?=some x->j<=x) ->
  (∀ i x,i < SetTable.below.go xs j jw lo hi->xs[i]?=some x->x < j)/\(∀ i x,SetTable.below.go xs j jw lo hi<=i->xs[i]?=some x->j<=x)
 | 0,lo,hi,hf,hl,hs,h1,h2=>by
  have:lo=hi:=by lia
  subst this;exact ⟨h1,h2⟩
 | jw + 1,lo,hi,hf,hl,hs,h1,h2=>by
  unfold SetTable.below.go;by_cases c:lo < hi
  ·rw [if_pos c]
   have hm:(lo + hi) / 2 < xs.size:=by lia
   have em:xs[(lo + hi) / 2]?=some xs[(lo + hi) / 2]:=Array.getElem?_eq_getElem hm;have eg:xs.getD ((lo + hi) / 2) j=xs[(lo + hi) / 2]:=by rw [Array.getD_eq_getD_getElem?,em]; rfl
   dsimp only;rw [eg];by_cases z:xs[(lo + hi) / 2] < j
   ·rw [if_pos z]
    refine V8 hr jw _ _ (by lia) (by lia) hs (λi x vg hx=>?_) h2;by_cases e:i=(lo + hi) / 2
    ·subst e; rw [em] at hx; cases hx; exact z
    ·exact Nat.lt_trans (Vj hr hx em (by lia)) z
   ·rw [if_neg z]
    refine V8 hr jw _ _ (by lia) (by lia) (by lia) h1 (λi x vg hx=>?_);by_cases e:i=(lo + hi) / 2
    ·subst e; rw [em] at hx; cases hx; lia
    ·have:=Vj hr em hx (by lia); lia
  ·rw [if_neg c]
   have:lo=hi:=by lia
   subst this;exact ⟨h1,h2⟩
def Zdr {xs:Array Nat} {j:Nat} (hr:Rise xs.toList):∀ i x,i < SetTable.below xs j->xs[i]?=some x->x < j :=
 (V8 hr xs.size 0 xs.size (by lia) (by lia) (by lia) (λi x h=>by lia) (λi x h hx=>by rw [Array.getElem?_eq_none h] at hx; cases hx)).1
def Kw {xs:Array Nat} {j:Nat} (hr:Rise xs.toList):∀ i x,SetTable.below xs j<=i->xs[i]?=some x->j<=x :=
 (V8 hr xs.size 0 xs.size (by lia) (by lia) (by lia) (λi x h=>by lia) (λi x h hx=>by rw [Array.getElem?_eq_none h] at hx; cases hx)).2
def Zec {xs:Array Nat} {j:Nat} (hr:Rise xs.toList) (hn:xs[SetTable.below xs j]?≠some j):Rise (SetTable.insertAt xs (SetTable.below xs j) j).toList:=by
 unfold Rise;rw [SetTable.toList_insertAt,List.pairwise_append];have hr':xs.toList.Pairwise (· < ·):=hr;have ht:∀ a∈xs.toList.take (SetTable.below xs j),a < j:=λa ha=>by
  obtain ⟨i,hi,e⟩:=List.mem_iff_getElem.mp ha
  rw [List.getElem_take] at e
  rw [Aj] at hi
  refine Zdr hr i a (by lia) ?_
  rw [<- Array.getElem?_toList,Ad (by lia),e]
 have hd:∀ a∈xs.toList.drop (SetTable.below xs j),j < a:=λa ha=>by
  obtain ⟨i,hi,e⟩:=List.mem_iff_getElem.mp ha;rw [List.getElem_drop] at e;rw [List.length_drop] at hi;have ea:xs[SetTable.below xs j + i]?=some a:=by rw [<- Array.getElem?_toList,Ad (by lia),e]
  have h1:=Kw (j:=j) hr _ a (by lia) ea
  rcases Nat.lt_or_ge j a with z | z
  ·exact z
  ·have:a=j:=by lia
   subst this
   cases i with
   | zero=>exact absurd ea hn
   | succ i =>
    have hb:SetTable.below xs a < xs.size:=by rw [Array.length_toList] at hi; lia
    have eb:=Array.getElem?_eq_getElem hb;have h2:=Kw hr _ _ (Ao _) eb;have h3:=Vj hr eb ea (by lia);lia
 refine ⟨hr'.sublist (List.take_sublist ..),?_,λa ha b hb=>?_⟩
 ·rw [List.pairwise_cons]
  exact ⟨hd,hr'.sublist (List.drop_sublist ..)⟩
 ·rcases As hb with rfl | hb
  ·exact ht a ha
  ·exact Nat.lt_trans (ht a ha) (hd b hb)
def G1 (t:SetTable) (j:Nat):Prop:=t.place[SetTable.below t.place j]?≠some j
def Fu {t:SetTable} {j:Nat} (h:∀ i,t.slot j≠.live i):G1 t j:=by
 intro e;unfold SetTable.slot at h;refine h (SetTable.below t.place j) ?_;dsimp only;rw [if_pos (by rw [e]; exact beq_self_eq_true _)]
theorem Vv {t:SetTable} {ha:Nat->Int} {h:Int}:∀ (jw:Nat) (p:SetTable.Probe) (j:Nat) (d:Option Nat),SetTable.probe.go t ha h jw p=some (.empty j d)->(∀ e,p.dummy=some e->G1 t e)->G1 t j/\∀ e,d=some e->G1 t e
 | 0,p,j,d,e,hp=>by unfold SetTable.probe.go at e; cases e
 | jw + 1,p,j,d,e,hp=>by
  unfold SetTable.probe.go at e
  cases c:t.slot p.j with
  | empty =>
   rw [c] at e;cases e;exact ⟨Fu (λi z=>by rw [c] at z; cases z),hp⟩
  | dummy =>
   rw [c] at e;refine Vv jw _ j d e λx hx=>?_;have adv:∀ q:SetTable.Probe,(t.advance q).dummy=q.dummy:=λq=>by unfold SetTable.advance; split <;> rfl
   rw [adv] at hx;cases hx;exact Fu λi z=>by rw [c] at z; cases z
  | live i =>
   rw [c] at e;dsimp only at e;split at e
   ·cases e
   ·refine Vv jw _ j d e λx hx=>?_
    have adv:∀ q:SetTable.Probe,(t.advance q).dummy=q.dummy:=λq=>by unfold SetTable.advance; split <;> rfl
    rw [adv] at hx;exact hp x hx
def J6 (n:Nat):Rise (Array.range n).toList:=by
 unfold Rise;rw [Array.toList_range];exact List.pairwise_lt_range
def Zeq {t:SetTable} (es:Array (Int × Value)) (h:Int) (x:Value) (hr:Rise t.place.toList):Rise (layNew t es h x).2.1.place.toList/\(layNew t es h x).2.1.led=t.led:=by
 unfold layNew;split
 ·rename_i slot wd e
  have hf:G1 t slot:=by
   unfold SetTable.freeSlot SetTable.probe at e;split at e
   ·rename_i j d ep
    obtain ⟨h1,h2⟩:=Vv _ _ j d ep (λe he=>by unfold SetTable.probeStart at he; cases he)
    cases d with
    | none=>cases e; exact h1
    | some q=>cases e; exact h2 q Z
   ·cases e
  dsimp only;unfold SetTable.orStandIn;split
  ·exact ⟨Zec hr hf,Z⟩
  ·exact ⟨J6 _,Z⟩
 ·exact ⟨J6 _,Z⟩
def Zid (f:Nat->Option Nat) (n:Nat):Rise (((List.range n).filterMap λj=>(f j).map (j,·)).map (·.1)):=by
 have e:∀ l:List Nat,(l.filterMap λj=>(f j).map (j,·)).map (·.1)=l.filter λj=>(f j).isSome:=λl=>by
  induction l with
  | nil=>rfl
  | cons a l ih =>
   cases c:f a with
   | none=>rw [List.filterMap_cons_none (by rw [c]; rfl),List.filter_cons_of_neg (by rw [c]; decide),ih]
   | some b=>rw [List.filterMap_cons_some (b:=(a,b)) (by rw [c]; rfl),List.filter_cons_of_pos (by rw [c]; rfl),List.map_cons,ih]
 unfold Rise;rw [e];exact List.pairwise_lt_range.filter _
def Zbd (t:SetTable) (es:Array (Int × Value)) (n:Nat):Rise (relayAll t es n).2.1.place.toList/\(relayAll t es n).2.1.led=t.led:=by
 unfold relayAll;split
 ·rename_i t' order e
  dsimp only;split
  ·unfold SetTable.relaid SetTable.laid at e
   cases c:SetTable.layClean (SetTable.sizeAbove n - 1) (es.map (·.1)) with
   | none=>rw [c] at e; cases e
   | some owner =>
    rw [c] at e;have e:_=some (t',order):=e;simp only [Option.pure_def,Option.bind_eq_bind,Option.bind_some,Option.some.injEq,Prod.mk.injEq] at e;obtain ⟨rfl,_⟩:=e;exact ⟨Zid (λj=>owner.getD j none) _,Z⟩
  ·exact ⟨J6 _,Z⟩
 ·exact ⟨J6 _,Z⟩
def WSet (P:Program) (w:World) (h:Heap) (a:Addr) (ks:List Int):Prop :=
 ∃ (o:Obj) (es:Array (Int × Value)) (ep:Nat) (t:SetTable) (p8:List Int),h.get? a=some o/\o.ExactSet/\o.data=.set es ep t/\ElemsOf (intKind P w) es.toList/\IntsAre (es.toList.map (·.2)) p8/\p8.Perm ks /\
  es.size < scanBound/\t.fits es.size=true/\Rise t.place.toList/\(w.params.followText "set-order"=true\/t.led=true)
theorem Zag {k:Int}:∀ {es:List (Int × Value)} {ks:List Int},IntsAre (es.map (·.2)) ks->((∃ e∈es,Value.isInt k e.2=true) ↔ k∈ks)
 | [],ks,h=>by
  cases h;refine ⟨λzz47=>?_,λhk=>absurd hk List.not_mem_nil⟩;obtain ⟨e,he,_⟩:=zz47;exact absurd he List.not_mem_nil
 | (hh,v) :: es,ks,h=>by
  have h:IntsAre (v :: es.map (·.2)) ks:=h
  cases h with
  | @cons _ ns n t hr =>
   have ih:=Zag (k:=k) hr;constructor
   ·rintro ⟨e,he,hi⟩
    rcases As he with rfl | he
    ·obtain ⟨t',e'⟩:=Value.isInt_shape hi
     cases e';exact List.mem_cons_self
    ·exact List.mem_cons_of_mem _ (ih.mp ⟨e,he,hi⟩)
   ·intro hk
    rcases As hk with rfl | hk
    ·exact ⟨_,List.mem_cons_self,by simp [Value.isInt]⟩
    ·obtain ⟨e,he,hi⟩:=ih.mpr hk
     exact ⟨e,List.mem_cons_of_mem _ he,hi⟩
def Q8:∀ {us vs:List Value},us.Perm vs->∀ {ks:List Int},IntsAre vs ks->∃ p8,IntsAre us p8/\p8.Perm ks:=by
 intro us vs p
 induction p with
 | nil=>intro ks h; exact ⟨ks,h,.refl _⟩
 | cons x p ih =>
  intro ks h
  cases h with
  | cons n t hr =>
   obtain ⟨p8,h1,h2⟩:=ih hr;exact ⟨n :: p8,.cons n t h1,h2.cons n⟩
 | swap x y l =>
  intro ks h
  cases h with
  | cons n t hr =>
   cases hr with
   | cons m u hr=>exact ⟨m :: n :: _,.cons m u (.cons n t hr),.swap n m _⟩
 | trans p q ihp ihq =>
  intro ks h;obtain ⟨k1,h1,h2⟩:=ihq h;obtain ⟨k2,h3,h4⟩:=ihp h1;exact ⟨k2,h3,h4.trans h2⟩
theorem Zaf:∀ {vs:List Value} {ks:List Int},IntsAre vs ks->∀ (n:Int) (t:Tok),IntsAre (vs ++ [.int n t]) (ks ++ [n])
 | _,_,.nil,n,t=>.cons n t .nil
 | _,_,.cons m u h,n,t=>.cons m u (Zaf h n t)
section
variable {P:Program} {w:World} {A:Around} {E:Value->Shared->Prop} {s:Shared}
def WSet.lt {h:Heap} {a:Addr} {ks:List Int} (x:WSet P w h a ks):a < h.objs.size:=by obtain ⟨o,_,_,_,_,ho,_⟩:=x; exact Ap ho
def WSet.kept {h h':Heap} {a:Addr} {ks:List Int} (x:WSet P w h a ks) (k:∀ o,h.get? a=some o->h'.get? a=some o):WSet P w h' a ks:=by
 obtain ⟨o,es,ep,t,p8,ho,r⟩:=x; exact ⟨o,es,ep,t,p8,k _ ho,r⟩
def Zbn {h:Heap} {a:Addr} {o:Obj} {es:Array (Int × Value)} {ep:Nat} {t:SetTable} (ho:h.get? a=some o) (hd:o.data=.set es ep t) (sk:Array (Int × Value)) (t':SetTable) :
  (h.update a (Obj.putSet sk t')).get? a=some { o with data:=.set sk (ep + 1) t' }:=by
 have q:=putSet_of sk t' hd;rw [<- q];exact Heap.get?_update_self _ ho (by rw [q]; rfl)
def Zi3 {a:Addr} {k:Int} {tk:Tok} {ks:List Int} {Q:Bool->Shared->Prop} (hS:WSet P w s.heap a ks) (room:ks.length + 1 < scanBound)
  (h:∀ h',Heap.SameBut a s.heap h'->WSet P w h' a (step_dedup ks k)->Q (!ks.any (· == k)) { s with heap:=h' }) :
  wpAny (model P w) A (setAddHashed a (.int k tk) ((intKind P w).hash k)) Q E s:=by
 obtain ⟨o,es,ep,t,ns,ho,ex,od,el,hI,pm,lt,ft,rs,ld⟩:=id hS;have ik:(intKind P w).is k (.int k tk)=true:=intKind_is _ _ _ _;have wk:=(Zag (k:=k) hI).trans pm.mem_iff;have sz:es.size=ks.length:=by rw [<- pm.length_eq,<- hI.length,Ac,Array.length_toList]
 have ji:∀ (b:Bool) {s₁:Shared} {R:Unit->Shared->Prop},R () s₁->wpAny (model P w) A (match b with | true=>rule "set.scan.the-table-gave-way" | false=>pure ()) R E s₁:=λb s₁ R q=>by
  cases b
  ·exact wpAny_pure q
  ·exact wpAny_rule q
 unfold setAddHashed setAddHashedIn; refine wpAny_holding ?_;refine Am (wpAny_setState_of ho od ft ?_);dsimp only;rw [byScan_of (x:=.int k tk) rfl lt el,if_pos rfl];unfold setAddByScan; refine Am (Am (wpAny_rule (Am (wpAny_setScan_of ik ho od ft el ?_))))
 cases c:List.findIdx? (λe=>(intKind P w).is k e.2) es.toList with
 | some j =>
  obtain ⟨hj,pj,_⟩:=List.findIdx?_eq_some_iff_getElem.mp c;have yes:ks.any (· == k)=true:=List.any_eq_true.mpr ⟨k,wk.mp ⟨es.toList[j],List.getElem_mem hj,pj⟩,beq_self_eq_true _⟩;have z:=h s.heap (Heap.SameBut.refl a s.heap) (by unfold step_dedup; rw [if_pos yes]; exact hS);rw [yes] at z;exact wpAny_pure (wpAny_pure z)
 | none =>
  have no:ks.any (· == k)=false:=by
   rw [List.any_eq_false];intro x hx z;obtain ⟨e,he,hi⟩:=wk.mpr (show k∈ks by rw [<- (beq_iff_eq.mp z)]; exact hx);exact absurd (show (intKind P w).is k e.2=true from hi) (by rw [List.findIdx?_eq_none_iff.mp c e he]; decide)
  rw [no,show step_dedup ks k=ks ++ [k] by unfold step_dedup; rw [no]; rfl] at h;have g1:=layNew_perm t es ((intKind P w).hash k) (.int k tk);have g2:=layNew_fits t es ((intKind P w).hash k) (.int k tk);have g3:=Zeq es ((intKind P w).hash k) (.int k tk) rs;dsimp only;generalize layNew t es ((intKind P w).hash k) (.int k tk)=lay at g1 g2 g3 ⊢;obtain ⟨mz,t1,du,gv⟩:=lay;dsimp only at g1 g2 g3 ⊢;have p1:mz.toList.Perm (es.toList ++ [((intKind P w).hash k,Value.int k tk)]):=by rw [<- Array.toList_push]; exact g1
  have el1:=(el.push ik rfl).perm p1;have yp:mz.size < scanBound:=by
   have:=p1.length_eq
   rw [Af,Array.length_toList,Array.length_toList,Au] at this
   omega
  have ld1:w.params.followText "set-order"=true\/t1.led=true:=by rw [g3.2]; exact ld
  obtain ⟨n1,i1,i2⟩:=Q8 (p1.map (·.2)) (show IntsAre ((es.toList ++ [((intKind P w).hash k,Value.int k tk)]).map (·.2)) (ns ++ [k]) by rw [Ak]; exact Zaf hI k tk);replace i2:=i2.trans (pm.append_right [k]);refine Am (ji _ ?_);rw [hashByValue_scannable 8 (x:=.int k tk) rfl,show plainKind (.int k tk)=true from rfl,ite_self];refine Am (wpAny_pure ?_)
  try rw [if_pos rfl]
  refine Am (wpAny_storeSet_of ho od ?_ (fits_of_scanBound yp));have o1:=Zbn ho od mz t1;have s1:=Heap.SameBut.update s.heap a (Obj.putSet mz t1);split
  ·have q1:=relayAll_perm t1 mz (SetTable.grown mz.size)
   have q2:=relayAll_fits t1 mz (SetTable.grown mz.size);have q3:=Zbd t1 mz (SetTable.grown mz.size);generalize relayAll t1 mz (SetTable.grown mz.size)=rl at q1 q2 q3 ⊢;obtain ⟨es2,t2,g2⟩:=rl;dsimp only at q1 q2 q3 ⊢;have lt2:es2.size < scanBound:=by rw [<- Array.length_toList,q1.length_eq,Array.length_toList]; exact yp
   obtain ⟨n2,j1,j2⟩:=Q8 (q1.map (·.2)) i1;refine Am (ji _ (Am (wpAny_storeSet_of o1 Z ?_ (fits_of_scanBound lt2))));exact wpAny_pure (wpAny_pure (h _ (s1.trans (Heap.SameBut.update _ a _)) ⟨_,es2,_,t2,n2,Zbn o1 Z es2 t2,ex,Z,el1.perm q1,j1,j2.trans i2,lt2,q2,q3.1,by rw [q3.2]; exact ld1⟩))
  ·exact wpAny_pure (wpAny_pure (h _ s1 ⟨_,mz,_,t1,n1,o1,ex,Z,el1,i1,i2,yp,g2,g3.1,ld1⟩))
end
section
variable {P:Program} {w:World} {A:Around} {E:Value->Shared->Prop} {s:Shared}
def set0 (w:World):Obj:={ cls:=.type "set",dict:=none,data:=.set #[] 0 (.fresh 0 0 (!w.params.followText "set-order")) }
def Zmt {h:Heap} {a:Addr} (e:h.get? a=some (set0 w)):WSet P w h a []:=by
 refine ⟨_,#[],0,_,[],e,⟨Z,Z,Z⟩,Z,λe he=>by simp at he,.nil,.refl _,by decide,by rfl,List.Pairwise.nil,?_⟩;show w.params.followText "set-order"=true\/(!w.params.followText "set-order")=true;cases w.params.followText "set-order"
 ·exact .inr Z
 ·exact .inl Z
def Zma {x:Value} {Q:Value->Shared->Prop} (h:Q (.ref s.heap.objs.size) { s with heap:=s.heap.push (set0 w) }):codeAny (model P w) A (.call (.builtin "set.__new__") ⟨[.type "set",x],[]⟩) (wants Q E) s:=by
 refine codeAny_call_builtin_code (plainId_quiet PySem.F.plain_set_new _) (wpAny_of_eq (PySem.F.newCall_set_1 x) (codeAny_builtin PySem.F.entry_set_new ?_));rw [Around.under_plainId PySem.F.plain_set_new _];unfold Builtin.«set.__new__» Builtin.Frozenset.newClass;have hsub:=sub_set_self;obtain ⟨hp,g,d,tk,os⟩:=s
 wp_walk
 refine wpAny_askSetting (wpAny_pure ?_);simp only [newObj];exact Am (wpAny_alloc (wpAny_pure (wpAny_pure h)))
variable {R:Result->Shared->Prop} {I:Addr} {fp wr:List Addr} {G:Array GenState->Array GenState->Prop} {n:Nat} {Pv:Nat->Value->Prop} {St:Nat->Shared->Prop}
def Zkq (W:WalksS P w A.in1 I fp wr G n Pv St) {S:Addr} (hS:S ∉ fp) {val:Nat->Int} (hv:∀ i v,Pv i v->∃ t,v=.int (val i) t) (hb:n + 1 < scanBound):∀ (k i:Nat) (s:Shared),n - i=k->i<=n->St i s->WSet P w s.heap S (firstMet val i) ->
   (∀ s',Moved (S :: wr) G s s'->WSet P w s'.heap S (firstMet val n)->R (.ok (.ret .none)) s')->codeAny (model P w) A (.builtin "set.update.loop" ⟨[.ref S,.ref I],[]⟩) R s:=by
 have hw:S ∉ wr:=λz=>hS (W.sub _ z);have mn:∀ b∈wr,b∈S :: wr:=λb hb=>List.mem_cons_of_mem _ hb;intro k
 induction k with
 | zero =>
  intro i s hk hi st ws ji;obtain rfl:i=n:=by lia
  refine codeAny_builtin PyProof.Rows.F.entry_set_update_loop ?_;rw [Around.under_plainId PyProof.Rows.F.plain_set_update_loop _];show wpAny _ A.in1 (pyNext (.ref I) >>= _) _ _ s;exact Am (W.done s _ _ st λs' hm=>wpAny_pure (ji s' (hm.mono mn) (ws.kept λo e=>hm.heap S o hw e)))
 | succ k ih =>
  intro i s hk hi st ws ji;have lt:i < n:=by lia
  refine codeAny_builtin PyProof.Rows.F.entry_set_update_loop ?_;rw [Around.under_plainId PyProof.Rows.F.plain_set_update_loop _];show wpAny _ A.in1 (pyNext (.ref I) >>= _) _ _ s;refine Am (W.item i s _ _ lt st λv s1 hP st1 hm=>?_);obtain ⟨t,rfl⟩:=hv i v hP;have wx:WSet P w s1.heap S (firstMet val i):=ws.kept λo e=>hm.heap S o hw e;show wpAny _ A.in1 (holding [Value.int (val i) t] (setAdd S (.int (val i) t)) >>= _) _ _ s1;have hl:=firstMet_length_le val i;unfold setAdd;refine Am (wpAny_holding (wpAny_holding (Am ((intKind P w).pyHash (k:=val i) (intKind_is _ _ _ _) (Zi3 (s:={ s1 with toks:=s1.toks + 1 }) wx (by lia) λh' sb ws2=>?_)))));rw [<- firstMet_succ] at ws2;have ot:∀ b o,b≠S->s1.heap.get? b=some o->h'.get? b=some o:=λb o hb e=>by rw [sb.2 b hb]; exact e
  refine wpAny_pure ⟨plainId_quiet PyProof.Rows.F.plain_set_update_loop _,ih (i + 1) _ (by lia) lt (W.frame _ s1 _ _ st1 (Nat.le_succ _) λb hb o e=>ot b o (λz=>hS (z ▸ hb)) e) ws2 λs3 hm3 ws3=>?_⟩;exact ji s3 (Moved.trans W.gtrans ((hm.mono mn).then_heap (Nat.le_succ _) λb o hb e=>ot b o (λz=>hb (z ▸ List.mem_cons_self)) e) hm3) ws3
set_option maxHeartbeats 8000000 in
def Zd6 {l:Addr} {its:Array Value} {ns:List Int} {Q:Value->Shared->Prop} (hh:A.handled=none) (hl:s.heap.IsList l its) (hi:IntsAre its.toList ns) (hb:its.size + 1 < scanBound)
  (h:∀ (h':Heap) (tk:Nat),WSet P w h' s.heap.objs.size (firstMet (λi=>ns.getD i 0) its.size)->(∀ b o,s.heap.get? b=some o->h'.get? b=some o)->Q (.ref s.heap.objs.size) { s with heap:=h',toks:=tk }) :
  wpAny (model P w) A (call (.type "set") [.ref l]) Q E s:=by
 obtain ⟨c,tl,hmro⟩:=PySem.F.called_set.mro;have hmade:=PySem.F.called_set.made;have hsub:=PySem.F.called_set.sub;have h1:=PySem.F.called_set.notType;have h2:=PySem.F.called_set.canCreate;have hct:=PySem.F.typeCall_set_1 (.ref l);refine wpAny_call (codeAny_of_tree (wpAny_pure ⟨Code.quiet_builtin _ (by decide +kernel),codeAny_builtin PySem.F.entry_type_call ?_⟩));rw [Around.under_plain (weight_type_call_type "set" [.ref l] []) rfl]
 repeat (any_goals (first | assumption | wp_step))
 refine codeAny_mono (Zma (E:=E) (x:=.ref l) (Q:=λv s₁=>v=.ref s.heap.objs.size/\s₁={ s with heap:=s.heap.push (set0 w) }) ⟨Z,Z⟩) λr s₁ hr=>?_
 cases r with
 | error e=>exact hr
 | ok fl =>
  cases fl with
  | ret v =>
   obtain ⟨rfl,rfl⟩:=hr;have e0:(s.heap.push (set0 w)).get? s.heap.objs.size=some (set0 w):=Aq _ rfl;have hT:Shared.TypeIs { s with heap:=s.heap.push (set0 w) } (.ref s.heap.objs.size) "set":=⟨_,e0,rfl⟩;have hli:=PySem.F.called_set.init.lookup;have hbi:=PySem.F.called_set.init.bind (.ref s.heap.objs.size)
   repeat (any_goals (first | assumption | wp_step))
   refine codeAny_mono (codeAny_call_builtin (R:=wants (λr s₂=>r=.none/\∃ h' tk,s₂={ s with heap:=h',toks:=tk }/\WSet P w h' s.heap.objs.size (firstMet (λi=>ns.getD i 0) its.size)/\∀ b o,s.heap.get? b=some o->h'.get? b=some o) E)
    PySem.F.called_set.init.plain PySem.F.entry_set_init (check_set_init_1 hT ?_)) λr₂ s₂ hr₂=>?_
   ·obtain ⟨ol,hol,vj,nl,lu⟩:=id hl
    have ll:l < s.heap.objs.size:=Ap hol;obtain ⟨ocls,wq,odata,uf⟩:=ol;simp only at vj lu;subst vj; subst lu;have wg:(s.heap.push (set0 w)).get? l=some { cls:=.type "list",dict:=wq,data:=.seq its nl,slots:=uf }:=Al _ hol;have k1:=PySem.F.sub_list_set;have k2:=PySem.F.sub_list_frozenset;have k3:(Value.type "list" == Value.type "dict")=false:=by decide
    have km:(s.heap.push (set0 w)).IsList l its:=⟨_,wg,rfl,nl,rfl⟩;unfold Builtin.«set.__init__» noKeywords Builtin.Frozenset.updateFrom;generalize hPI:pyIter=PI;unfold set0 at e0 wg km hT ⊢
    wp_walk
    subst hPI;refine wpAny_pyIter_list km (Am (wpAny_runValue ?_));have hs:(s.heap.push (set0 w)).objs.size=s.heap.objs.size + 1:=Heap.size_push ..;unfold set0 at hs;refine Zkq ((Walks.list (show A.in1.in1.in1.handled=none by simp [hh]) _ l (by rw [hs]; exact At (Nat.lt_succ_of_lt ll)) its).toS) (S:=s.heap.objs.size) (by rw [hs]; simp only [List.mem_cons,List.not_mem_nil,or_false,not_or]; exact ⟨At (Nat.lt_succ_self _),Nat.ne_of_gt ll⟩) (val:=λi=>ns.getD i 0)
     (λi v hv=>PyProof.Rows.IntsAre.int_at hi i v (by rw [Array.getElem?_toList]; exact hv)) hb (its.size - 0) 0 _ (by lia) (A0 _)
     ⟨⟨_,Aq _ rfl,rfl,rfl⟩,(km.push _)⟩ (Zmt (Al _ e0)) λs' hm ws=>?_
    obtain ⟨h',g',d',tk',yk⟩:=s';obtain rfl:g'=s.gens:=hm.gens;obtain rfl:d'=s.drawn:=hm.drawn;obtain rfl:yk=s.os:=hm.os;refine wpAny_pure (wpAny_pure ⟨Z,h',tk',Z,ws,λb o e=>?_⟩);have hb:=Ap e;refine hm.heap b o ?_ (Al _ (Al _ e));rw [hs];simp only [List.mem_cons,List.not_mem_nil,or_false,not_or];exact ⟨At hb,At (Nat.lt_succ_of_lt hb)⟩
   ·cases r₂ with
    | error e=>exact hr₂
    | ok fl₂ =>
     cases fl₂ with
     | ret r =>
      obtain ⟨rfl,h',tk,rfl,ws,kp⟩:=hr₂
      repeat (any_goals (first | assumption | wp_step))
      exact h _ _ ws kp
     | _=>exact hr₂.elim
  | _=>exact hr.elim
end
end L2
namespace PySem.F
def sti_next:Slot "set_iterator" "__next__" "set_iterator.__next__" :=
 .of (owner:="set_iterator") (n:="__next__") (by rw [typeLookup_type,builtinLookup_eq_fast]; kernel_rfl) (by decide +kernel) (by decide +kernel) (by decide +kernel) (by first | exact .inl (by decide +kernel) | exact .inr (by decide +kernel)) (by rw [isSubtype_type]; kernel_rfl)
def sti_entry:entryFor table "set_iterator.__next__"=some Builtin.«set_iterator.__next__»:=entryFor_of_tree (by kernel_rfl)
def sti_args (a:Value):argsOk "set_iterator.__next__" ⟨[a],[]⟩:=by unfold argsOk; kernel_rfl
def st_iter_entry:entryFor table "set.__iter__"=some Builtin.«frozenset.__iter__»:=entryFor_alias (id':="frozenset.__iter__") (by kernel_rfl) rfl (by decide +kernel) (by kernel_rfl)
def sti_iter:Slot "set_iterator" "__iter__" "set_iterator.__iter__" :=
 .of (owner:="set_iterator") (n:="__iter__") (by rw [typeLookup_type,builtinLookup_eq_fast]; kernel_rfl) (by decide +kernel) (by decide +kernel) (by decide +kernel) (by first | exact .inl (by decide +kernel) | exact .inr (by decide +kernel)) (by rw [isSubtype_type]; kernel_rfl)
def sti_iter_entry:entryFor table "set_iterator.__iter__"=some Builtin.«dict_keyiterator.__iter__»:=entryFor_alias (id':="dict_keyiterator.__iter__") (by kernel_rfl) rfl (by decide +kernel) (by kernel_rfl)
def sti_iter_args (a:Value):argsOk "set_iterator.__iter__" ⟨[a],[]⟩:=by unfold argsOk; kernel_rfl
end PySem.F
namespace L2
open PySem PySem.Spec PyProof.Rows
theorem V6 {α:Type}:∀ {l:List α} {i:Nat} (hi:i < l.length),(l[i] :: l.eraseIdx i).Perm l
 | a :: l,0,_=>.refl _
 | a :: l,i + 1,hi=>(List.Perm.swap ..).trans ((V6 (l:=l) (Nat.lt_of_succ_lt_succ hi)).cons a)
theorem Ze8 {α:Type} {next:Nat->Nat}:∀ (jw k:Nat) (left:List α) (out:Array α),left.length<=jw->∃ r,(pickOrder.go next jw k left out).toList=out.toList ++ r/\r.Perm left
 | 0,k,left,out,h=>by
  have:left=[]:=List.eq_nil_of_length_eq_zero (by lia);subst this;exact ⟨[],by unfold pickOrder.go; simp,.nil⟩
 | jw + 1,k,left,out,h=>by
  unfold pickOrder.go
  cases left with
  | nil=>exact ⟨[],by simp,.nil⟩
  | cons a l =>
   have hi:next k % (a :: l).length < (a :: l).length:=Nat.mod_lt _ (by simp)
   generalize next k % (a :: l).length=i at hi
   rw [Ad hi];dsimp only;obtain ⟨r,h1,h2⟩:=Ze8 (next:=next) jw (k + 1) ((a :: l).eraseIdx i) (out.push (a :: l)[i]) (by rw [List.length_eraseIdx_of_lt hi]; lia);refine ⟨(a :: l)[i] :: r,by rw [h1,Array.toList_push,List.append_assoc]; rfl,?_⟩;exact (h2.cons _).trans (V6 hi)
def F7 {α:Type} (next:Nat->Nat) (xs:Array α):(pickOrder next xs).toList.Perm xs.toList:=by
 obtain ⟨r,h1,h2⟩:=Ze8 (next:=next) xs.size 0 xs.toList #[] (by simp);have:(pickOrder next xs).toList=r:=h1;rw [this];exact h2
section
variable {P:Program} {w:World} {A:Around} {E:Value->Shared->Prop} {s:Shared}
def Zgx {src:Source} {n:Nat} {Q:Nat->Shared->Prop} (hn:n≠0) (h:∀ i,i < n->Q i { s with drawn:=s.drawn.bump src }):wpAny (model P w) A (choose src n) Q E s:=λ_ _ _=>⟨hn,h _ (Nat.mod_lt _ (Nat.pos_of_ne_zero hn))⟩
theorem Zan {α:Type}:∀ (n:Nat) (l:List α) (s:Shared) (Q:List α->Shared->Prop),l.length<=n->(∀ r d',r.Perm l->Q r { s with drawn:=d' })->wpAny (model P w) A (drawOrder n l) Q E s
 | 0,l,s,Q,hl,h=>by
  have:l=[]:=List.eq_nil_of_length_eq_zero (by lia);subst this;exact wpAny_pure (h [] s.drawn .nil)
 | n + 1,[],s,Q,hl,h=>wpAny_pure (h [] s.drawn .nil)
 | n + 1,a :: l,s,Q,hl,h=>by
  unfold drawOrder;refine Am (Zgx (by simp) λi hi=>?_);rw [Ad hi];refine Am (Zan n _ _ _ (by rw [List.length_eraseIdx_of_lt hi]; lia) λr d' pr=>wpAny_pure (h _ d' ?_));exact (pr.cons _).trans (V6 hi)
def Xy (fst:Value) (i:Nat) (a:Addr) (n ep:Nat):Obj:={ cls:=.type "set_iterator",data:=.fields #[fst,.int i 0,.ref a,.int n 0,.int ep 0] }
def Zf1 {h:Heap} {I a:Addr} {f g:Value} {i j n ep:Nat} (ho:h.get? I=some (Xy f i a n ep)) :
  ((h.update I (Obj.mapFields (·.setIfInBounds 0 g))).update I (Obj.mapFields (·.setIfInBounds 1 (.int j 0)))).get? I=some (Xy g j a n ep):=by
 have h1:=Heap.get?_update_self (Obj.mapFields (·.setIfInBounds 0 g)) ho rfl;exact Heap.get?_update_self (Obj.mapFields (·.setIfInBounds 1 (.int j 0))) h1 Z
def Zf2 {h:Heap} {I a:Addr} {f:Value} {i j n ep:Nat} (ho:h.get? I=some (Xy f i a n ep)) :
  (h.update I (Obj.mapFields (·.setIfInBounds 1 (.int j 0)))).get? I=some (Xy f j a n ep):=Heap.get?_update_self (Obj.mapFields (·.setIfInBounds 1 (.int j 0))) ho rfl
def Zi9 {I a:Addr} {o:Obj} {es:Array (Int × Value)} {ep:Nat} {t:SetTable} {i sl sl':Nat} {x:Value} {Q:Option Value->Shared->Prop} (hI:s.heap.get? I=some (Xy (.int sl 0) i a es.size ep)) (ho:s.heap.get? a=some o) (hd:o.data=.set es ep t) (hf:t.fits es.size=true)
  (nx:∀ (B:Around) (F:Value->Shared->Prop) (R:Option (Value × Nat)->Shared->Prop),R (some (x,sl')) s->wpAny (model P w) B (setNext a sl i ep) R F s)
  (h:∀ h',h'.get? I=some (Xy (.int sl' 0) (i + 1) a es.size ep)->Heap.SameBut I s.heap h'->Q (some x) { s with heap:=h' }):wpAny (model P w) A (pyNext (.ref I)) Q E s:=by
 have hT:s.TypeIs (.ref I) "set_iterator":=⟨_,hI,rfl⟩;unfold pyNext;refine Am (wpAny_attempt (wpAny_callSpecial?_slot (name:=Str.ofString "__next__") hT PySem.F.sti_next (wpAny_call_entry PySem.F.sti_next hT PySem.F.sti_entry ?_ (PySem.F.sti_args _))));unfold Builtin.«set_iterator.__next__»;refine Am (m:=slotArgs "__next__" 0 _) (wpAny_pure ?_);refine Am (wpAny_fieldsOf hI Z ?_);dsimp only;refine Am (wpAny_setEntries_of ho hd hf ?_);rw [if_neg (by simp)];refine Am (nx _ _ _ ?_);refine Am (wpAny_setField (x:=rawInt sl') hI Z (by simp) ?_);have h1:=Heap.get?_update_self (Obj.mapFields (·.setIfInBounds 0 (rawInt sl'))) hI rfl;refine Am (wpAny_setField (x:=rawInt ((i:Int) + 1)) h1 Z (by simp) ?_);exact wpAny_pure ⟨_,Z,wpAny_pure (h _ (Zf1 hI) ((Heap.SameBut.update ..).trans (Heap.SameBut.update ..)))⟩
def Zbu {I:Addr} {ob:Obj} {vs:Array Value} {Q:Fin->Shared->Prop} (hh:A.handled=none) (hI:s.heap.get? I=some ob) (hd:ob.data=.fields vs) (hz:2 < vs.size) (h:∀ h' e,Heap.ExtBut I s.heap h'->(∃ o,h'.get? e=some o/\o.cls=.type "StopIteration")->E (.ref e) { s with heap:=h' }) :
  wpAny (model P w) A (do setField (.ref I) 2 .none; raiseNew (<- newExc (.type "StopIteration") []):Sem Fin) Q E s:=by
 refine Am (wpAny_setField hI hd hz ?_);simp only [newExc,newTuple];refine Am (Am (wpAny_newObj_type ?_ (by size_fits)));refine Am (m:=firstArgMember _ _) (wpAny_of_eq (a:=Value.none) (by first | rfl | (simp only [firstArgMember]; rfl)) ?_);refine wpAny_newObj_type ?_ (by size_fits);refine wpAny_raiseNew_none hh (h _ _ (((Heap.SameBut.update ..).extBut.push _).push _) ⟨_,Aq _ Z,Z⟩)
def Zja {I a:Addr} {o:Obj} {es:Array (Int × Value)} {ep:Nat} {t:SetTable} {i sl:Nat} {Q:Option Value->Shared->Prop} (hh:A.handled=none) (hI:s.heap.get? I=some (Xy (.int sl 0) i a es.size ep)) (ho:s.heap.get? a=some o) (hd:o.data=.set es ep t) (hf:t.fits es.size=true)
  (nx:∀ (B:Around) (F:Value->Shared->Prop) (R:Option (Value × Nat)->Shared->Prop),R none s->wpAny (model P w) B (setNext a sl i ep) R F s)
  (h:∀ h',Heap.ExtBut I s.heap h'->Q none { s with heap:=h' }):wpAny (model P w) A (pyNext (.ref I)) Q E s:=by
 have hT:s.TypeIs (.ref I) "set_iterator":=⟨_,hI,rfl⟩;unfold pyNext;refine Am (wpAny_attempt (wpAny_callSpecial?_slot (name:=Str.ofString "__next__") hT PySem.F.sti_next (wpAny_call_entry PySem.F.sti_next hT PySem.F.sti_entry ?_ (PySem.F.sti_args _))));unfold Builtin.«set_iterator.__next__»;refine Am (m:=slotArgs "__next__" 0 _) (wpAny_pure ?_);refine Am (wpAny_fieldsOf hI Z ?_);dsimp only;refine Am (wpAny_setEntries_of ho hd hf ?_);rw [if_neg (by simp)];refine Am (nx _ _ _ ?_);dsimp only;refine Zbu (A:=A.in1) hh hI Z (by simp) λh' e ex ja=>?_;obtain ⟨ob,he,hc⟩:=ja;refine Am (wpAny_isInstance (T:="StopIteration") (b:=true) ⟨ob,he,hc⟩ isSubtype_stop ?_);exact wpAny_pure (h _ ex)
def Zjb {I a T:Addr} {o:Obj} {es:Array (Int × Value)} {ep:Nat} {t:SetTable} {i p:Nat} {ob:Obj} {ps:Array Value} {c:Nat} {tk:Tok} {e:Int × Value} {Q:Option Value->Shared->Prop} (hI:s.heap.get? I=some (Xy (.ref T) i a es.size ep)) (ho:s.heap.get? a=some o) (hd:o.data=.set es ep t) (hf:t.fits es.size=true)
  (hT:s.heap.get? T=some ob) (qo:ob.data=.seq ps c) (hp:ps[i]?=some (.int p tk)) (he:es[p]?=some e)
  (h:∀ h',h'.get? I=some (Xy (.ref T) (i + 1) a es.size ep)->Heap.SameBut I s.heap h'->Q (some e.2) { s with heap:=h' }):wpAny (model P w) A (pyNext (.ref I)) Q E s:=by
 have vn:s.TypeIs (.ref I) "set_iterator":=⟨_,hI,rfl⟩;unfold pyNext;refine Am (wpAny_attempt (wpAny_callSpecial?_slot (name:=Str.ofString "__next__") vn PySem.F.sti_next (wpAny_call_entry PySem.F.sti_next vn PySem.F.sti_entry ?_ (PySem.F.sti_args _))));unfold Builtin.«set_iterator.__next__»;refine Am (m:=slotArgs "__next__" 0 _) (wpAny_pure ?_);refine Am (wpAny_fieldsOf hI Z ?_);dsimp only;refine Am (wpAny_setEntries_of ho hd hf ?_);rw [if_neg (by simp)];refine Am (wpAny_seqItems hT qo ?_);dsimp only;rw [show ((i:Int)).toNat=i from Int.toNat_natCast i,hp];dsimp only;refine Am ?_;unfold setNextDrawn;refine Am (wpAny_setState_of ho hd hf ?_);dsimp only;rw [if_neg (by simp),show ((p:Int)).toNat=p from Int.toNat_natCast p,he];refine wpAny_pure ?_;refine Am (wpAny_setField (x:=rawInt ((i:Int) + 1)) hI Z (by simp) ?_);exact wpAny_pure ⟨_,Z,wpAny_pure (h _ (Zf2 hI) (Heap.SameBut.update ..))⟩
def Zjc {I a T:Addr} {o:Obj} {es:Array (Int × Value)} {ep:Nat} {t:SetTable} {i:Nat} {ob:Obj} {ps:Array Value} {c:Nat} {Q:Option Value->Shared->Prop} (hh:A.handled=none) (hI:s.heap.get? I=some (Xy (.ref T) i a es.size ep)) (ho:s.heap.get? a=some o) (hd:o.data=.set es ep t) (hf:t.fits es.size=true)
  (hT:s.heap.get? T=some ob) (qo:ob.data=.seq ps c) (hp:ps[i]?=none)
  (h:∀ h',Heap.ExtBut I s.heap h'->Q none { s with heap:=h' }):wpAny (model P w) A (pyNext (.ref I)) Q E s:=by
 have vn:s.TypeIs (.ref I) "set_iterator":=⟨_,hI,rfl⟩;unfold pyNext;refine Am (wpAny_attempt (wpAny_callSpecial?_slot (name:=Str.ofString "__next__") vn PySem.F.sti_next (wpAny_call_entry PySem.F.sti_next vn PySem.F.sti_entry ?_ (PySem.F.sti_args _))));unfold Builtin.«set_iterator.__next__»;refine Am (m:=slotArgs "__next__" 0 _) (wpAny_pure ?_);refine Am (wpAny_fieldsOf hI Z ?_);dsimp only;refine Am (wpAny_setEntries_of ho hd hf ?_);rw [if_neg (by simp)];refine Am (wpAny_seqItems hT qo ?_);dsimp only;rw [show ((i:Int)).toNat=i from Int.toNat_natCast i,hp];dsimp only;refine Am (wpAny_setField (x:=rawInt 0) hI Z (by simp) ?_);have h1:=Heap.get?_update_self (Obj.mapFields (·.setIfInBounds 0 (rawInt 0))) hI rfl;refine Zbu (s:={ s with heap:=s.heap.update I (Obj.mapFields (·.setIfInBounds 0 (rawInt 0))) }) (A:=A.in1) hh h1 Z (by simp) λh' e ex ja=>?_;obtain ⟨ob,he,hc⟩:=ja;refine Am (wpAny_isInstance (T:="StopIteration") (b:=true) ⟨ob,he,hc⟩ isSubtype_stop ?_);exact wpAny_pure (h _ λb u hb hu=>ex b u hb ((Heap.get?_update_other _ _ (Ne.symm hb)).trans hu))
def Zbv {I a:Addr} {f:Value} {i n ep:Nat} {Q:Value->Shared->Prop} (hI:s.heap.get? I=some (Xy f i a n ep)) (h:Q (.ref I) s):wpAny (model P w) A (pyIter (.ref I)) Q E s:=by
 have hT:s.TypeIs (.ref I) "set_iterator":=⟨_,hI,rfl⟩;refine wpAny_pyIter_slot hT PySem.F.sti_iter (wpAny_call_entry PySem.F.sti_iter hT PySem.F.sti_iter_entry ?_ (PySem.F.sti_iter_args _));exact wpAny_pure ⟨_,Z,"set_iterator",_,hT,PySem.F.sti_next.lookup,h⟩
def Zib {a:Addr} {o:Obj} {es:Array (Int × Value)} {ep:Nat} {t:SetTable} {i sl:Nat} {R:Option (Value × Nat)->Shared->Prop} (ho:s.heap.get? a=some o) (hd:o.data=.set es ep t) (hf:t.fits es.size=true) (hb:w.params.followText "set-order"=true)
  (h:R (((pickOrder (w.params.setOrder a ep) es)[i]?).map λe=>(e.2,sl)) s):wpAny (model P w) A (setNext a sl i ep) R E s:=by
 unfold setNext setsByText;refine Am (wpAny_setState_of ho hd hf ?_);dsimp only;refine Am (Am (wpAny_askSetting (wpAny_pure ?_)));show wpAny _ _ (if w.params.followText "set-order"=true then _ else _) _ _ _;rw [if_pos hb,if_neg (by simp)];unfold setWalk setsByText;refine Am (Am (wpAny_setState_of ho hd hf ?_));dsimp only;refine Am (Am (wpAny_askSetting (wpAny_pure ?_)));show wpAny _ _ (if w.params.followText "set-order"=true then _ else _) _ _ _;rw [if_pos hb];exact Am (wpAny_askSetting (wpAny_pure (wpAny_pure h)))
def Zgg {a:Addr} {o:Obj} {es:Array (Int × Value)} {ep:Nat} {t:SetTable} {i sl:Nat} {R:Option (Value × Nat)->Shared->Prop} (ho:s.heap.get? a=some o) (hd:o.data=.set es ep t) (hf:t.fits es.size=true) (hb:w.params.followText "set-order"=false) (hl:t.led=true) (hp:(!t.plain && decide (es.size > 1))=false)
  (h:R (match es[SetTable.below t.place sl]?,t.place[SetTable.below t.place sl]? with | some (_,x),some j=>some (x,j + 1) | _,_=>none) s):wpAny (model P w) A (setNext a sl i ep) R E s:=by
 unfold setNext setsByText;refine Am (wpAny_setState_of ho hd hf ?_);dsimp only;refine Am (Am (wpAny_askSetting (wpAny_pure ?_)));show wpAny _ _ (if w.params.followText "set-order"=true then _ else _) _ _ _;rw [if_neg (by rw [hb]; decide)];show wpAny _ _ (if (!t.plain && decide (es.size > 1))=true then _ else _) _ _ _;rw [if_neg (by rw [hp]; decide)];refine Am ?_;show wpAny _ _ (if (!t.led && !es.isEmpty)=true then _ else _) _ _ _;rw [if_neg (by rw [hl]; simp)];exact wpAny_pure (wpAny_pure h)
end
def Zfe:∀ {vs:List Value} {ks:List Int},IntsAre vs ks->∀ (i:Nat) (v:Value),vs[i]?=some v->∃ t,v=.int (ks.getD i 0) t:=λh i v e=>PyProof.Rows.IntsAre.int_at h i v e
section
variable {P:Program} {w:World} {A:Around} {E:Value->Shared->Prop} {s:Shared}
def Fr (hh:A.handled=none) {I a:Addr} (jo:a≠I) {o:Obj} {es:Array (Int × Value)} {ep:Nat} {t:SetTable} {out:List Int} {sl:Nat->Nat} {xs:List Value} (hd:o.data=.set es ep t) (hf:t.fits es.size=true) (hx:IntsAre xs out) (hl:xs.length=es.size)
  (nx:∀ (i:Nat) (s:Shared) (B:Around) (F:Value->Shared->Prop) (R:Option (Value × Nat)->Shared->Prop),s.heap.get? a=some o->i<=es.size->R ((xs[i]?).map λx=>(x,sl (i + 1))) s->wpAny (model P w) B (setNext a (sl i) i ep) R F s) :
  Walks P w A I [I,a] [I] out.length (λi v=>∃ t,v=.int (out.getD i 0) t) (λi h=>h.get? I=some (Xy (.int (sl i) 0) i a es.size ep)/\h.get? a=some o):=by
 have ut:out.length=es.size:=by rw [<- hl]; exact hx.length.symm
 refine ⟨λb hb=>by simp at hb; simp [hb],λi h h' st k=>⟨k I (by simp) _ st.1,k a (by simp) _ st.2⟩,λi s Q E hi st hQ=>?_,λs Q E st hQ=>?_,λi s Q E st hQ=>Zbv st.1 hQ⟩
 ·have vg:i < xs.length:=by lia
  have ex:=Ad vg;refine Zi9 (x:=xs[i]) (sl':=sl (i + 1)) st.1 st.2 hd hf (λB F R r=>nx i s B F R st.2 (by lia) (by rw [ex]; exact r)) λh' e sb=>?_;exact hQ _ h' s.toks (Zfe hx i _ ex) ⟨e,(sb.2 a jo).trans st.2⟩ λb u hb hu=>(sb.2 b (λz=>hb (by simp [z]))).trans hu
 ·rw [ut] at st
  refine Zja hh st.1 st.2 hd hf (λB F R r=>nx es.size s B F R st.2 (Ao _) (by rw [Az (by lia)]; exact r)) λh' ex=>?_;exact hQ h' s.toks λb u hb hu=>ex b u (λz=>hb (by simp [z])) hu
def Zdu (hh:A.handled=none) {I a T:Addr} (jo:a≠I) (hTI:T≠I) {o ob:Obj} {es:Array (Int × Value)} {ep c:Nat} {t:SetTable} {out:List Int} {xs:List Value} {ps:List Nat} (hd:o.data=.set es ep t) (hf:t.fits es.size=true) (hx:IntsAre xs out) (qo:ob.data=.seq (ps.map λ(p:Nat)=>rawInt p).toArray c)
  (hp:∀ (i p:Nat),ps[i]?=some p->∃ e,es[p]?=some e/\xs[i]?=some e.2) (hl:xs.length=ps.length) :
  Walks P w A I [I,a,T] [I] out.length (λi v=>∃ t,v=.int (out.getD i 0) t) (λi h=>h.get? I=some (Xy (.ref T) i a es.size ep)/\h.get? a=some o/\h.get? T=some ob):=by
 have ut:out.length=ps.length:=by rw [<- hl]; exact hx.length.symm
 refine ⟨λb hb=>by simp at hb; simp [hb],λi h h' st k=>⟨k I (by simp) _ st.1,k a (by simp) _ st.2.1,k T (by simp) _ st.2.2⟩,λi s Q E hi st hQ=>?_,λs Q E st hQ=>?_,λi s Q E st hQ=>Zbv st.1 hQ⟩
 ·have uy:=Ad (show i < ps.length by lia)
  obtain ⟨e,he,rf⟩:=hp i _ uy;refine Zjb (p:=ps[i]) (tk:=0) (e:=e) st.1 st.2.1 hd hf st.2.2 qo (by rw [List.getElem?_toArray,Ai,uy]; rfl) he λh' eI sb=>?_;exact hQ _ h' s.toks (Zfe hx i _ rf) ⟨eI,(sb.2 a jo).trans st.2.1,(sb.2 T hTI).trans st.2.2⟩ λb u hb hu=>(sb.2 b (λz=>hb (by simp [z]))).trans hu
 ·refine Zjc hh st.1 st.2.1 hd hf st.2.2 qo (by rw [List.getElem?_toArray,Ai,Az (by lia)]; rfl) λh' ex=>?_
  exact hQ h' s.toks λb u hb hu=>ex b u (λz=>hb (by simp [z])) hu
def Zke (hh:A.handled=none) {a:Addr} {ks:List Int} {Q:Value->Shared->Prop} (hS:WSet P w s.heap a ks)
  (h:∀ (I:Addr) (h1:Heap) (d1:Drawn) (fp:List Addr) (out:List Int) (St:Nat->Heap->Prop),out.Perm ks->(∀ b o,s.heap.get? b=some o->h1.get? b=some o)->s.heap.objs.size<=I->(∀ b∈fp,b=a\/s.heap.objs.size<=b) ->
   Walks P w A I fp [I] out.length (λi v=>∃ t,v=.int (out.getD i 0) t) St->St 0 h1->Q (.ref I) { s with heap:=h1,drawn:=d1 }) :
  wpAny (model P w) A (pyIter (.ref a)) Q E s:=by
 obtain ⟨o,es,ep,t,ns,ho,ex,hd,el,hI,pm,lt,ft,rs,ld⟩:=hS;have hT:s.TypeIs (.ref a) "set":=⟨o,ho,ex.1⟩;have la:a < s.heap.objs.size:=Ap ho;have jo:a≠s.heap.objs.size:=At la;have hsz:es.toList.map (·.2)=(es.map (·.2)).toList:=by simp
 have mv:t.place.size=es.size:=by
  simp only [SetTable.fits,Bool.and_eq_true,beq_iff_eq] at ft;exact ft.1
 refine wpAny_pyIter_slot hT PySem.F.slot_set_iter (wpAny_call_entry PySem.F.slot_set_iter hT PySem.F.st_iter_entry ?_ (PySem.F.args_set_iter_1 _));unfold Builtin.«frozenset.__iter__» Builtin.Frozenset.slot0 Builtin.Frozenset.sizeOf;refine Am (Am (m:=slotArgs "__iter__" 0 _) (wpAny_pure (wpAny_pure ?_)));refine Am (Am (wpAny_setEntries_of ho hd ft (wpAny_pure ?_)));unfold setDrawn setsByText;refine Am (Am (wpAny_setState_of ho hd ft ?_));dsimp only;refine Am (Am (wpAny_askSetting (wpAny_pure (wpAny_pure ?_))))
 have pc:(!w.params.followText "set-order" && (!t.plain && decide (es.size > 1)))=false->wpAny (model P w) A.in1 (do
   let first <- pure (rawInt 0)
   ret (<- newFields "set_iterator" [first,rawInt 0,.ref a,rawInt es.size,rawInt (<- setEpoch a)])) (λji s'=>∃ r,ji=.done (.ret r)/\∃ T' r',s'.TypeIs r T'/\typeLookup (.type T') "__next__"=pure (some r')/\Q r s') E s:=by
  intro nd;refine Am (wpAny_pure (Am (wpAny_setEpoch_of ho hd ft ?_)));unfold newFields;refine Am (wpAny_newObj_type (wpAny_pure ⟨_,Z,"set_iterator",_,⟨_,Aq _ rfl,rfl⟩,PySem.F.sti_next.lookup,?_⟩));have e0:(s.heap.push { cls:=.type "set_iterator",data:=.fields [rawInt 0,rawInt 0,.ref a,rawInt es.size,rawInt ep].toArray }).get? s.heap.objs.size=some (Xy (.int 0 0) 0 a es.size ep):=Aq _ rfl
  cases c:w.params.followText "set-order" with
  | true =>
   obtain ⟨k2,j1,j2⟩:=Q8 ((F7 (w.params.setOrder a ep) es).map (·.2)) hI;refine h _ _ s.drawn [s.heap.objs.size,a] k2 _ (j2.trans pm) (λb u hu=>Al _ hu) (Ao _) (λb hb=>?_) (Fr (sl:=λ_=>0) hh jo hd ft j1 ?_ λi s B F R hs hi r=>Zib hs hd ft c ?_) ⟨e0,Al _ ho⟩
   ·rcases As hb with rfl | hb
    ·exact .inr (Ao _)
    ·exact .inl (Ag hb)
   ·rw [Ac,(F7 (w.params.setOrder a ep) es).length_eq,Array.length_toList]
   ·rw [Ai,Array.getElem?_toList,Option.map_map] at r
    exact r
  | false =>
   rw [c] at nd ld;have nd:(!t.plain && decide (es.size > 1))=false:=nd;have ld:t.led=true:=ld.resolve_left (by decide);refine h _ _ s.drawn [s.heap.objs.size,a] ns _ pm (λb u hu=>Al _ hu) (Ao _) (λb hb=>?_) (Fr (sl:=λi=>if i=0 then 0 else (t.place.getD (i - 1) 0) + 1) hh jo hd ft hI (by rw [Ac,Array.length_toList]) λi s B F R hs hi r=>Zgg hs hd ft c ld nd ?_) ⟨e0,Al _ ho⟩
   ·rcases As hb with rfl | hb
    ·exact .inr (Ao _)
    ·exact .inl (Ag hb)
   ·-- the place below is i
    have hb:SetTable.below t.place (if i=0 then 0 else (t.place.getD (i - 1) 0) + 1)=i\/(es.size<=SetTable.below t.place (if i=0 then 0 else (t.place.getD (i - 1) 0) + 1)/\i=es.size):=by
     generalize hj:(if i=0 then 0 else (t.place.getD (i - 1) 0) + 1)=j
     have ge:∀ k,k < i->∀ x,t.place[k]?=some x->x < j:=λk hk x hx=>by
      rw [if_neg (by lia)] at hj;have e1:=Array.getElem?_eq_getElem (show i - 1 < t.place.size by lia);have e2:t.place.getD (i - 1) 0=t.place[i - 1]'(by lia):=by rw [Array.getD_eq_getD_getElem?,e1]; rfl
      rw [e2] at hj;by_cases z:k=i - 1
      ·subst z; rw [e1] at hx; cases hx; lia
      ·have:=Vj rs hx e1 (by lia); lia
     have lt':i<=SetTable.below t.place j:=by
      rcases Nat.lt_or_ge (SetTable.below t.place j) i with z | z
      ·have e1:=Array.getElem?_eq_getElem (show SetTable.below t.place j < t.place.size by lia)
       have h1:=ge _ z _ e1;have h2:=Kw (j:=j) rs _ _ (Ao _) e1;lia
      ·exact z
     by_cases q:i < es.size
     ·left
      rcases Nat.lt_or_ge i (SetTable.below t.place j) with z | z
      ·have e1:=Array.getElem?_eq_getElem (show i < t.place.size by lia)
       have h1:=Zdr (j:=j) rs i _ z e1;by_cases i0:i=0
       ·rw [if_pos i0] at hj; lia
       ·rw [if_neg i0] at hj
        have e3:=Array.getElem?_eq_getElem (show i - 1 < t.place.size by lia);have e2:t.place.getD (i - 1) 0=t.place[i - 1]'(by lia):=by rw [Array.getD_eq_getD_getElem?,e3]; rfl
        rw [e2] at hj;have:=Vj rs e3 e1 (by lia);lia
      ·lia
     ·exact .inr ⟨by lia,by lia⟩
    rcases hb with hb | ⟨hb,rfl⟩
    ·rw [hb]
     rcases Nat.lt_or_ge i es.size with z | z
     ·have e1:=Array.getElem?_eq_getElem (show i < t.place.size by lia)
      have e2:t.place.getD (i + 1 - 1) 0=t.place[i]'(by lia):=by rw [Array.getD_eq_getD_getElem?,Nat.add_sub_cancel,e1]; rfl
      rw [Ai,Array.getElem?_toList,Array.getElem?_eq_getElem z,if_neg (by lia),e2] at r;rw [Array.getElem?_eq_getElem z,e1];exact r
     ·rw [Ai,Array.getElem?_toList,Array.getElem?_eq_none z] at r
      rw [Array.getElem?_eq_none z];exact r
    ·rw [Ai,Array.getElem?_toList,Array.getElem?_eq_none (Ao _)] at r
     rw [Array.getElem?_eq_none hb];exact r
 show wpAny _ _ (if (!w.params.followText "set-order" && (!t.plain && decide (es.size > 1)))=true then _ else _) _ _ _;split
 ·-- drawn
  refine Am (Zan _ _ _ _ (Nat.le_of_eq List.length_range) λr d' pr=>?_);refine Am (wpAny_newTuple ?_ (by rw [Ac,pr.length_eq,List.length_range]; exact fits_of_scanBound lt));refine Am (wpAny_setEpoch_of (s:={ s with heap:=_,drawn:=d' }) (Al _ ho) hd ft ?_);unfold newFields;refine Am (wpAny_newObj_type (wpAny_pure ⟨_,Z,"set_iterator",_,⟨_,Aq _ rfl,rfl⟩,PySem.F.sti_next.lookup,?_⟩));have um:=Heap.size_push s.heap { cls:=.type "tuple",data:=.seq (r.map λ(i:Nat)=>rawInt i).toArray };obtain ⟨k2,j1,j2⟩:∃ k2,IntsAre (r.filterMap λp=>(es[p]?).map (·.2)) k2/\k2.Perm ns:=by
   refine Q8 ?_ hI
   have e1:(List.range es.size).filterMap (λp=>(es[p]?).map (·.2))=es.toList.map (·.2):=by
    have:=filterMap_getElem?_range (es.map (·.2))
    rw [Array.size_map] at this
    rw [Array.toList_map] at this
    rw [<- this]
    congr 1
    funext p
    rw [Array.getElem?_map]
   rw [<- e1]
   exact pr.filterMap _
  have oq:∀ p∈r,p < es.size:=λp hp=>List.mem_range.mp (pr.mem_iff.mp hp)
  have ph:∀ (l:List Nat),(∀ p∈l,p < es.size)->(l.filterMap λp=>(es[p]?).map (·.2)).length=l.length/\∀ (i p:Nat),l[i]?=some p->∃ e,es[p]?=some e/\(l.filterMap λp=>(es[p]?).map (·.2))[i]?=some e.2:=λl=>by
   induction l with
   | nil=>intro _; exact ⟨Z,λi p e=>by simp at e⟩
   | cons q l ih =>
    intro hq;have qm:=Array.getElem?_eq_getElem (hq q List.mem_cons_self);obtain ⟨i1,i2⟩:=ih λp hp=>hq p (List.mem_cons_of_mem _ hp);rw [List.filterMap_cons_some (b:=(es[q]'(hq q List.mem_cons_self)).2) (by rw [qm]; rfl)];refine ⟨by rw [List.length_cons,List.length_cons,i1],λi p e=>?_⟩
    cases i with
    | zero=>cases e; exact ⟨_,qm,Z⟩
    | succ i=>exact i2 i p e
  obtain ⟨f1,f2⟩:=ph r oq;refine h _ _ d' [_,a,s.heap.objs.size] k2 _ (j2.trans pm) (λb u hu=>Al _ (Al _ hu)) (by rw [um]; exact Nat.le_succ _) (λb hb=>?_) (Zdu (T:=s.heap.objs.size) hh ?_ ?_ hd ft j1 (ob:={ cls:=.type "tuple",data:=.seq (r.map λ(i:Nat)=>rawInt i).toArray }) rfl f2 f1) ⟨Aq _ rfl,Al _ (Al _ ho),Al _ (Aq _ rfl)⟩
  ·rcases As hb with rfl | hb
   ·rw [um]; exact .inr (Nat.le_succ _)
   ·rcases As hb with rfl | hb
    ·exact .inl Z
    ·rw [Ag hb]; exact .inr (Ao _)
  ·rw [um]; exact At (Nat.lt_succ_of_lt la)
  ·rw [um]; exact At (Nat.lt_succ_self _)
 ·rename_i c
  exact pc (by simpa using c)
end
def dd (ks:List Int):List Int:=ks.foldl step_dedup []
theorem Zfk:∀ (ks i9:List Int),i9.Nodup->(ks.foldl step_dedup i9).Nodup/\(∀ x,x∈ks.foldl step_dedup i9 ↔ x∈i9\/x∈ks)/\(ks.foldl step_dedup i9).length<=i9.length + ks.length
 | [],i9,h=>⟨h,λx=>by simp,by simp⟩
 | k :: ks,i9,h=>by
  have hs:(step_dedup i9 k).Nodup/\(∀ x,x∈step_dedup i9 k ↔ x∈i9\/x=k)/\(step_dedup i9 k).length<=i9.length + 1:=by
   unfold step_dedup;by_cases c:i9.any (· == k)=true
   ·rw [if_pos c]
    obtain ⟨y,hy,e⟩:=List.any_eq_true.mp c;have e:=beq_iff_eq.mp e;subst e;exact ⟨h,λx=>⟨.inl,λz=>z.elim id λe=>e ▸ hy⟩,by lia⟩
   ·rw [if_neg c]
    have hk:k ∉ i9:=λz=>c (List.any_eq_true.mpr ⟨k,z,beq_self_eq_true _⟩);refine ⟨?_,λx=>by simp,by simp⟩;rw [List.nodup_append];refine ⟨h,by simp,λa ha b hb e=>?_⟩;rw [List.mem_singleton] at hb;subst hb e;exact hk ha
  obtain ⟨i1,i2,i3⟩:=Zfk ks _ hs.1;rw [List.foldl_cons];refine ⟨i1,λx=>?_,?_⟩
  ·rw [i2,hs.2.1,List.mem_cons,or_assoc]
  ·have:=hs.2.2
   rw [List.length_cons];lia
def Zkp (ks:List Int):firstMet (λi=>ks.getD i 0) ks.length=dd ks:=by
 unfold firstMet dd;congr 1;apply List.ext_getElem?;intro i;rw [Ai];by_cases h:i < ks.length
 ·rw [List.getElem?_range h,Ad h]
  show some (ks.getD i 0)=some ks[i];rw [Ae,Ad h];rfl
 ·rw [Az (by rw [List.length_range]; lia),Az (by lia)]
  rfl
section
variable {X:Cx}
def Inv.draw {i7:List (Addr × Obj)} {σ:List (Option V)} {H:Hp} {s:Shared} {d:Drawn} (I:Inv X i7 σ H s):Inv X i7 σ H { s with drawn:=d }:=⟨I.ok,I.os,I.bare,I.base,I.loc,I.cell,I.free,I.freeC,I.pin,I.hok,I.len⟩
def setH (P:Program) (w:World) (a:Addr) (ks:List Int):HO:=.ext λh=>WSet P w h a ks
def Zm8 {H:Hp} {h:Heap} {a:Addr} {ks:List Int} (ws:WSet X.prog X.w h a ks):Yi X.prog X.w H h a (setH X.prog X.w a ks):=by
 refine ⟨ws,?_,λh1 h2 w1 k=>w1.kept k⟩;obtain ⟨o,_,_,_,_,ho,_⟩:=ws;exact ⟨o,ho⟩
def Ziy (hc:X.calm=true):X3 X (.type "set") (λxs H Q=>∃ (p:Addr) (ks:List Int),xs=[.ref p]/\SqL X.K H p (ks.map V.int)/\ks.length < 64/\∀ q:Addr,H q=none->Q (.ref q) (upd H q (setH X.prog X.w q (dd ks)))):=by
 intro i7 s σ H xs us Q I r h;obtain ⟨p,ks,rfl,hp,lz,q⟩:=h;obtain ⟨u,rfl,ru⟩:=Xv r;obtain rfl:u=Value.ref p:=ru;obtain ⟨its,rv,pl,_⟩:=I.list hp;have hI:IntsAre its ks:=by simpa using V3 rv
 have hl:its.length=ks.length:=hI.length;refine Zd6 (its:=its.toArray) (ns:=ks) (I.ok.hd hc) pl.isList (by simpa using hI) (by rw [Ar,hl]; unfold scanBound; lia) λh' tk ws kp=>?_;rw [show its.toArray.size=ks.length by rw [Ar]; exact hl,Zkp] at ws;exact ⟨.ref s.heap.objs.size,_,I.laid (t':=tk) kp (Ao _) (Zm8 ws),Z,q _ (I.hok.fresh (Ao _))⟩
variable {P:Program} {w:World} {A:Around} {E:Value->Shared->Prop} {s:Shared}
def Zkh {r:Addr} {Q:Bool->Shared->Prop} (hT:s.TypeIs (.ref r) "set") (h:Q false s):wpAny (model P w) A (Builtin.List.listLengthHint (.ref r)) Q E s:=by
 unfold Builtin.List.listLengthHint;refine Am (wpAny_specialOf hT PySem.F.slot_set_len.lookup ?_);generalize hid:("set.__len__":String)=id0
 wp_delta
 rw [show splitId id0=some ("set","__len__") from by subst hid; decide +kernel];subst hid;refine Am (wpAny_isInstance (T:="set") (b:=true) hT (by rw [isSubtype_type]; kernel_rfl) (wpAny_ite_split (λz=>absurd z (by decide)) λ_=>wpAny_ite_split (λ_=>?_) λz=>absurd (by decide +kernel) z));exact Am (wpAny_typeOf hT (wpAny_pure h))
def Zet {a:Addr} {ks:List Int} {R:List Value->Shared->Prop} (hh:A.handled=none) (hS:WSet P w s.heap a ks) (hn:ks.length<=sizeLine)
  (h:∀ (h':Heap) (d':Drawn) (tk:Nat) (vs:List Value) (out:List Int),(∀ b o,s.heap.get? b=some o->h'.get? b=some o)->IntsAre vs out->out.Perm ks->R vs { s with heap:=h',drawn:=d',toks:=tk }) :
  wpAny (model P w) A (collect (.ref a)) R E s:=by
 have la:=hS.lt;unfold collect;refine Am (wpAny_runValue (codeAny_builtin entry_proto_collect' ?_));rw [Around.under_plainId PySem.F.plain_proto_collect _];show wpAny _ A.in1 (newList [] >>= λl=>again (.builtin "list.__iadd__" ⟨[l,.ref a],[]⟩)) _ _ s;refine Am (wpAny_newObj_type (wpAny_pure ⟨plainId_quiet PySem.F.plain_list_iadd _,codeAny_builtin entry_list_iadd' ?_⟩));rw [Around.under_plainId PySem.F.plain_list_iadd _];have e0:(s.heap.push { cls:=.type "list",data:=.seq ([]:List Value).toArray }).get? s.heap.objs.size=some { cls:=.type "list",data:=.seq #[] }:=Aq _ rfl;have wx:WSet P w (s.heap.push { cls:=.type "list",data:=.seq ([]:List Value).toArray }) a ks:=hS.kept λo e=>Al _ e;have hT:Shared.TypeIs { s with heap:=s.heap.push { cls:=.type "list",data:=.seq ([]:List Value).toArray } } (.ref a) "set":=by obtain ⟨o,_,_,_,_,ho,ex,_⟩:=wx; exact ⟨o,ho,ex.1⟩
 have hz:=Heap.size_push s.heap { cls:=.type "list",data:=.seq ([]:List Value).toArray };show wpAny _ A.in1 (Builtin.List.listExtendWith (.ref s.heap.objs.size) (.ref a) (.ref s.heap.objs.size)) _ _ _;unfold Builtin.List.listExtendWith;refine Am (wpAny_typeOf hT ?_);have n1:Builtin.List.listSameRef (.ref s.heap.objs.size) (.ref a)=false:=by
  show (s.heap.objs.size == a)=false
  exact beq_eq_false_iff_ne.mpr (Nat.ne_of_gt la)
 simp only [n1,show (Value.type "set" == Value.type "list")=false by decide,show (Value.type "set" == Value.type "tuple")=false by decide,Bool.or_false,Bool.false_eq_true,if_false];refine Am (Zke (A:=A.in1) hh wx λI h1 d1 fp out St pm kp hI xv W st=>?_);have eS:=kp _ _ e0;have hSf:s.heap.objs.size ∉ fp:=λz=>by
  rcases xv _ z with q | q
  ·exact Nat.ne_of_gt la q
  ·rw [hz] at q; exact absurd q (Nat.not_succ_le_self _)
 have hSI:s.heap.objs.size≠I:=λz=>by rw [hz,<- z] at hI; exact absurd hI (Nat.not_succ_le_self _)
 have tail:∀ (h2:Heap) (c tk:Nat),St 0 h2->(∀ b o,b≠s.heap.objs.size->h1.get? b=some o->h2.get? b=some o)->h2.get? s.heap.objs.size=some { cls:=.type "list",data:=.seq #[] c } ->
   codeAny (model P w) A (.builtin "list.extend.loop" ⟨[.ref s.heap.objs.size,.ref I,.ref s.heap.objs.size],[]⟩) (λq s'=>∃ (h':Heap) (tk:Nat) (i9:Array Value) (c':Nat),q=.ok (.ret (.ref s.heap.objs.size))/\s'={ s with heap:=h',drawn:=d1,toks:=tk }/\(∀ b o,s.heap.get? b=some o->h'.get? b=some o) /\
    h'.get? s.heap.objs.size=some { cls:=.type "list",dict:=none,data:=.seq i9 c',slots:=#[] }/\ItemsOf (λi v=>∃ t,v=.int (out.getD i 0) t) i9 out.length) { s with heap:=h2,drawn:=d1,toks:=tk }:=by
  intro h2 c tk j' k2 e2;refine codeAny_extend_loopS W.toS (by rw [pm.length_eq]; exact hn) _ hSf _ out.length 0 _ #[] c Z (A0 _) j' e2 (ItemsOf.nil _) λs' i9 c' hm e3 it=>?_;refine ⟨s'.heap,s'.toks,i9,c',Z,?_,λb o e=>?_,e3,it⟩
  ·have e1:s'.gens=s.gens:=hm.gens
   have e2:s'.drawn=d1:=hm.drawn;have e3:s'.os=s.os:=hm.os;rw [<- e1,<- e2,<- e3]
  ·have lb:=Ap e
   refine hm.heap b o ?_ (k2 b o (At lb) (kp _ _ (Al _ e)));simp only [List.mem_cons,List.not_mem_nil,or_false,not_or];refine ⟨At lb,λz=>?_⟩;rw [hz,<- z] at hI;exact absurd (Ah (Nat.lt_succ_of_lt lb) hI) (Nat.lt_irrefl _)
 refine Am (wpAny_holding (Zkh (by obtain ⟨o,ho,hc⟩:=hT; exact ⟨o,kp _ _ ho,hc⟩) ?_))
 have ji:∀ (q:Result) (s':Shared),(∃ (h':Heap) (tk:Nat) (i9:Array Value) (c':Nat),q=.ok (.ret (.ref s.heap.objs.size))/\s'={ s with heap:=h',drawn:=d1,toks:=tk }/\(∀ b o,s.heap.get? b=some o->h'.get? b=some o) /\
    h'.get? s.heap.objs.size=some { cls:=.type "list",dict:=none,data:=.seq i9 c',slots:=#[] }/\ItemsOf (λi v=>∃ t,v=.int (out.getD i 0) t) i9 out.length)->(match q with | .ok (.ret v)=>wpAny (model P w) A (match v with | .ref a=>(do match (<- load a).data with | .seq xs _=>pure xs.toList | _=>unsupported "internal:collect") | _=>unsupported "internal:collect") R E s' | .ok _=>False | .error e=>E e s'):=by
  rintro q s' ⟨h',tk,i9,c',rfl,rfl,kp',e3,it⟩;show wpAny _ A (load s.heap.objs.size >>= _) _ _ _;refine Am (wpAny_load e3 (wpAny_pure (h h' d1 tk i9.toList out kp' ?_ pm)))
  have gen:∀ (us:List Value) (os:List Int),us.length=os.length->(∀ (j:Nat) (v:Value),us[j]?=some v->∃ t,v=Value.int (os.getD j 0) t)->IntsAre us os:=by
   intro us
   induction us with
   | nil =>
    intro os hl _
    cases os with
    | nil=>exact .nil
    | cons _ _=>simp at hl
   | cons u r ih =>
    intro os hl hv
    cases os with
    | nil=>simp at hl
    | cons k ks =>
     obtain ⟨t,e⟩:=hv 0 u rfl;have e:u=Value.int k t:=e;subst e;exact .cons k t (ih ks (by simpa using hl) λj v hj=>hv (j + 1) v hj)
  exact gen _ _ (by rw [Array.length_toList]; exact it.1) λj v hj=>it.2 j v (by rw [<- Array.getElem?_toList]; exact hj)
 refine wpAny_ite_split (λ_=>?_) (λz=>absurd (by decide +kernel) z);refine Am (wpAny_rule (Am ?_));show wpAny _ _ (updateSeq s.heap.objs.size (·.push .none) >>= λ_=>updateSeq s.heap.objs.size (·.pop)) _ _ _;refine Am (wpAny_updateSeq eS Z ?_);have e2:=Heap.get?_update_self (Obj.mapSeq (·.push Value.none)) eS rfl;refine wpAny_updateSeq (hz:=by seq_fits) e2 Z ?_;have e3:=Heap.get?_update_self (Obj.mapSeq (·.pop)) e2 rfl;have ot:∀ b o,b≠s.heap.objs.size->h1.get? b=some o->((h1.update s.heap.objs.size (Obj.mapSeq (·.push Value.none))).update s.heap.objs.size (Obj.mapSeq (·.pop))).get? b=some o:=λb o hb e =>
  (Heap.get?_update_other _ _ (Ne.symm hb)).trans ((Heap.get?_update_other _ _ (Ne.symm hb)).trans e)
 refine wpAny_pure ⟨plainId_quiet PySem.F.plain_extend_loop _,codeAny_mono (tail _ _ _ (W.frame 0 _ _ st λb hb o e=>ot b o (λz=>hSf (z ▸ hb)) e) ot e3) λq s' y=>?_⟩;exact ji q s' y
end
def Zj3:typeLookup (.type "list_reverseiterator") "__len__"=pure none:=by
 rw [typeLookup_type];rw [builtinLookup_eq_fast]
 kernel_rfl
def Zmg:typeLookup (.type "list_reverseiterator") "__length_hint__"=pure (some (.builtin "list_reverseiterator.__length_hint__")):=by
 rw [typeLookup_type];rw [builtinLookup_eq_fast]
 kernel_rfl
section
variable {prog:Program} {w:World} {A:Around} {E:Value->Shared->Prop} {s:Shared}
def Zgs {I:Addr} {fp wr:List Addr} {G:Array GenState->Array GenState->Prop} {n:Nat} {P:Nat->Value->Prop} {St:Nat->Shared->Prop} {Q:List Value->Shared->Prop}
  (W:WalksS prog w A.in1 I fp wr G n P St) (hT:∀ i z,St i z->z.TypeIs (.ref I) "list_reverseiterator") (h0:St 0 s) (jh:∀ b∈fp,b < s.heap.objs.size) (hI:I∈fp)
  (q:∀ z i9,Moved wr G s z->ItemsOf P i9 n->Q i9.toList z) (hn:n<=sizeLine):wpAny (model prog w) A (collect (.ref I)) Q E s:=by
 have nf:s.heap.objs.size ∉ fp:=λz=>absurd (jh _ z) (Nat.lt_irrefl _);have ni:s.heap.objs.size≠I:=λz=>nf (by rw [z]; exact hI);unfold collect;refine Am ?_;refine wpAny_runValue ?_;refine codeAny_builtin F.entry_proto_collect ?_;rw [Around.under_plainId F.plain_proto_collect _];refine Am (m:=newList []) ?_;refine wpAny_newObj_type ?_;refine wpAny_pure ?_;refine ⟨plainId_quiet F.plain_list_iadd _,?_⟩;refine codeAny_builtin F.entry_list_iadd ?_;rw [Around.under_plainId F.plain_list_iadd _];have k:∀ b o,s.heap.get? b=some o->(s.heap.push { cls:=.type "list",data:=.seq ([]:List Value).toArray }).get? b=some o:=λb o e=>Al _ e;have h1:=W.frame 0 s _ s.toks h0 (Ao _) λb _ o e=>k b o e;have hS:(s.heap.push { cls:=.type "list",data:=.seq ([]:List Value).toArray }).get? s.heap.objs.size=some { cls:=.type "list",data:=.seq ([]:List Value).toArray }:=Aq _ rfl;have ns:Builtin.List.listSameRef (.ref s.heap.objs.size) (.ref I)=false:=by
  unfold Builtin.List.listSameRef
  simp [ni]
 show wpAny _ A.in1 (Builtin.List.listExtendWith (.ref s.heap.objs.size) (.ref I) (.ref s.heap.objs.size)) _ _ _;unfold Builtin.List.listExtendWith;refine Am ?_;refine wpAny_typeOf (hT 0 _ h1) ?_;rw [if_neg (by rw [ns]; decide)];refine Am ?_;refine W.self 0 _ _ _ h1 ?_;refine Am ?_;refine wpAny_holding ?_;unfold Builtin.List.listLengthHint;refine Am ?_;refine wpAny_specialOf (hT 0 _ h1) Zj3 ?_;refine Am (m:=specialOf (.ref I) (Str.ofString "__length_hint__")) ?_;refine wpAny_specialOf (hT 0 _ h1) Zmg ?_;generalize hid:("list_reverseiterator.__length_hint__":String)=nmId
 (fail_if_success (clear hid nmId))
 wp_delta
 rw [show splitId nmId=some ("list_reverseiterator","__length_hint__") by rw [<- hid]; decide +kernel];subst hid;refine Am ?_;refine wpAny_isInstance (b:=true) (hT 0 _ h1) (by rw [isSubtype_type]; kernel_rfl) ?_;refine wpAny_pure ?_;rw [if_neg (by decide)];refine wpAny_pure ?_;refine ⟨plainId_quiet F.plain_extend_loop _,?_⟩;refine codeAny_extend_loopS W hn _ nf _ n 0 _ _ _ Z (A0 _) h1 hS (ItemsOf.nil P) λz i9 c hm hz ha=>?_;show wpAny _ A (load s.heap.objs.size >>= _) _ _ z;refine Am ?_;refine wpAny_load hz ?_;refine wpAny_pure ?_;exact q z i9 (Moved.drop_new (o:={ cls:=.type "list",data:=.seq ([]:List Value).toArray }) (tk:=s.toks) hm (Ao _)) ha
def Zmf {I l:Addr} {its:List Value} {ys:List Str} {x:Str} {t:Tok} {Q:Value->Shared->Prop} (hh:A.handled=none) (jo:l≠I) (n9:s.heap.IsRevIter I l ((its.length:Int) - 1)) (hl:s.heap.IsList l its.toArray)
  (hi:StrsAre its ys) (hsep:x.length<=16) (hw:(ys.map (·.length)).sum + ys.length<=1048576)
  (q:∀ h' t' k,(∀ b o,b≠I->s.heap.get? b=some o->h'.get? b=some o)->Q (.str (Txt.join x ys.reverse) t') { s with heap:=h',toks:=k }):wpAny (model prog w) A (call (.builtin "str.join") [.str x t,.ref I]) Q E s:=by
 have W:=(Walks.listRev (prog:=prog) (w:=w) (A:=A.in1.in1) hh I l jo its.toArray).toS;have hT:∀ i (z:Shared),(i<=its.toArray.size/\z.heap.IsRevIter I l ((its.toArray.size:Int) - 1 - (i:Int))/\z.heap.IsList l its.toArray)->z.TypeIs (.ref I) "list_reverseiterator":=λi z h=>h.2.1.typeIs;have h0:0<=its.toArray.size/\s.heap.IsRevIter I l ((its.toArray.size:Int) - 1 - ((0:Nat):Int))/\s.heap.IsList l its.toArray:=⟨A0 _,by simpa using n9,hl⟩;have hly:its.length=ys.length:=hi.length;refine wpAny_call ?_;refine codeAny_call_builtin F.slot_str_join.plain F.entry_str_join ?_;refine F.slot_str_join.check _ _ _ _ _ _ _ _ (typeIs_str _ _ _) (F.args_str_join_2 _ _) ?_;rw [join_tree_other];refine Am ?_;refine wpAny_typeOf (hT 0 s h0) ?_;show wpAny _ A.in1 ((pyIter (.ref I)).tryCatch _ >>= λit=>collect it >>= λzs=>joinTail x zs) _ _ s;refine Am ?_;refine wpAny_tryCatch ?_;refine W.of_in1.self 0 s _ _ h0 ?_;refine Am ?_;have jh:∀ b∈[I,l],b < s.heap.objs.size:=λb hb=>by
  rcases As hb with z | z
  ·obtain ⟨o,e,_⟩:=n9.typeIs
   subst z
   exact Ap e
  ·rw [Ag z]
   obtain ⟨o,e,_⟩:=hl
   exact Ap e
 refine Zgs W hT h0 jh List.mem_cons_self (λz i9 hm ha=>?_) (by rw [Ar,sizeLine_eq]; lia);have ea:i9.toList=its.reverse:=by
  refine List.ext_getElem? λj=>?_
  have hz:i9.size=its.length:=ha.1.trans Ar
  by_cases c:j < its.length
  ·have hj:j < i9.size:=by lia
   have h2:=ha.2 j _ (Array.getElem?_eq_getElem hj)
   rw [Array.getElem?_toList,Array.getElem?_eq_getElem hj,List.getElem?_reverse c,<- h2]
   simp
  ·rw [Az (by rw [Array.length_toList]; lia),Az (by rw [List.length_reverse]; lia)]
 obtain ⟨ps,mv⟩:=exists_strValues its.reverse λv hv=>hi.all v (List.mem_reverse.mp hv);have ey:ps.map (·.1)=ys.reverse:=by
  rw [<- hi.strs,<- List.map_reverse,<- mv]
  unfold strValues
  rw [List.map_map]
  rfl
 rw [ea,<- mv];have ok:JoinOk x (ps.map (·.1))=true:=joinOk_of_weight (by rw [ey]; simpa using hw) hsep;unfold JoinOk at ok;rw [Bool.not_eq_true'] at ok;have g:Gives (joinTail x (strValues ps)) (joinMade x ps):=by
  have g0:=gives_joinTail x ps ok
  rcases ps with _ | ⟨p,_ | ⟨p',r⟩⟩
  ·exact g0
  ·exact g0
  ·exact g0
 refine g prog w A (wants Q E) z (post_join ps ⟨joinFit_length ok,λt' k=>?_⟩);rw [ey];obtain ⟨zh,zg,zd,zt,zo⟩:=z;obtain ⟨m1,m2,m3,m4,m5⟩:=hm;have m2:zg=s.gens:=m2;have m3:zd=s.drawn:=m3;have m4:zo=s.os:=m4;subst m2 m3 m4;exact q zh t' k λb o hb e=>m1 b o (λz=>hb (Ag z)) e
end
section
variable {X:Cx}
def Zi8 (K:W.Frag) (to:TE) (ta:TA):TE:=λσ H Q=>to σ H λx H1=>∃ lp,x=.str lp/\ta σ H1 λvs H2=>∃ a ys,vs=[.ref a]/\SqL K H2 a (List.map V.str ys)/\lp.length<=16/\(ys.map (·.length)).sum + ys.length<=1048576/\Q (.str (Txt.join lp ys.reverse)) H2
def Zf9 {o l:Expr} {to:TE} {ta:TA} {p1 jg jd m6:Pos} (hg:Gl X "reversed") (hm:X.mg "reversed"=none) (hc:X.calm=true) (ho:PE X o to) (ha:PA X [l] ta)
  (o6:attributeBase o "join" X.env (eval o X.env)=eval o X.env:=by rfl)
  (t9:((backTo jd (starEach [.Call (.Name "reversed" p1) [l] [] m6] X.env)).all (λx=>!x.1) && (backToKw jd (keywordEach [] X.env)).all (λx=>x.1.isSome)
   && decide ([Expr.Call (.Name "reversed" p1) [l] [] m6].length + ([]:List Keyword).length + (if ([]:List Keyword).isEmpty then 0 else 1) < 30))=true:=by rfl)
  (oz:(jg.endLine == jd.line)=true:=by rfl) (hs:starEach [.Call (.Name "reversed" p1) [l] [] m6] X.env=[(false,eval (.Call (.Name "reversed" p1) [l] [] m6) X.env)]:=by rfl) (ql:starEach [l] X.env=[(false,eval l X.env)]:=by rfl) :
  PE X (.Call (.Attribute o "join" jg) [.Call (.Name "reversed" p1) [l] [] m6] [] jd) (Zi8 X.K to ta):=by
 intro i7 s σ H Q I h;refine wpAny_Call_method_late o6 t9 oz Z (thn (ho i7 s σ H _ I h) λv s1 ja=>?_);obtain ⟨x,H1,I1,r1,q1⟩:=ja;obtain ⟨lp,rfl,q1⟩:=q1;obtain ⟨h1,h2⟩:=Zgz (T:="str") I1 r1 (by first | rfl | exact trivial);refine ⟨"str","str.join",PySem.F.plainAttrs_str,PySem.F.slot_str_join,PySem.F.type_str_join,h1,h2,?_⟩;obtain ⟨t,rfl⟩:=r1;rw [hs];refine Calls.callWith_builtin Z (Calls.evalArgs_plain ?_);refine Calls.spliced_cons ?_;refine Call_ (Wp I1 hg hm boot_reversed (PyProof.Rows.callWith_type1 (thn (ha m6 i7 s1 σ H1 _ I1 q1) λus s2 zz48=>?_) ql Z));obtain ⟨vs,H2,I2,r2,q2⟩:=zz48;obtain ⟨a,ys,e,hq,w1,w2,q⟩:=q2;subst e;obtain ⟨u,rfl,ru⟩:=Xv r2;cases ru;obtain ⟨its,rv,pl,_⟩:=I2.list hq;refine call_reversed_list pl.isList ?_;refine Calls.spliced_nil ?_;have I3:Inv X i7 σ H2 { s2 with heap:=s2.heap.push (revObj a ((its.toArray.size:Int) - 1)) }:=I2.kept (t':=s2.toks) λb o e=>Al _ e;have ne:a≠s2.heap.objs.size:=λz=>by
  obtain ⟨o,e,_⟩:=pl.isList
  exact At (Ap e) z
 have zr:(s2.heap.push (revObj a ((its.toArray.size:Int) - 1))).IsList a its.toArray:=pl.isList.at λo e=>Al _ e;have n9:(s2.heap.push (revObj a ((its.toArray.size:Int) - 1))).IsRevIter s2.heap.objs.size a ((its.length:Int) - 1):=by
  rw [show ((its.length:Int) - 1)=((its.toArray.size:Int) - 1) by simp]
  exact ⟨_,Aq _ Z,Z,Z⟩
 refine Zmf (I2.ok.hd hc) ne n9 zr (by simpa using Kz rv) w1 w2 λh' t' k hk=>?_;refine ⟨.str _,H2,I2.kept (t':=k) λb o e=>hk b o (λz=>?_) (Al _ e),⟨_,Z⟩,q⟩;exact At (Ap e) z
end
section
variable {X:Cx}
def Znl:OpR X (compareOp .In) (λx y H Q=>∃ a b,x=.str a/\y=.str b/\Q (.bl (Txt.contains b a)) H):=by
 intro i7 s σ H x y v u Q I rx ry h;obtain ⟨a,b,rfl,rfl,q⟩:=h;obtain ⟨t,rfl⟩:=rx;obtain ⟨t',rfl⟩:=ry;exact PySem.SB.contains ⟨.bl _,H,I,Z,q⟩
def Zdq (K:W.Frag) (h:X.K=K:=by rfl):X3 X (.builtin "isinstance") (λxs H Q=>∃ x T t b,xs=[x,V.ty T]/\TyOf K H x t/\PySem.W.kitOne K t (.type T)=some b/\Q (V.bl b) H):=h ▸ Zeu
def jStr (te:TE) (t:TJ):TJ:=λout σ H Q=>te σ H λv H1=>∃ x:Str,v=.str x/\x.length<=sizeLine/\(out ++ x).length<=sizeLine/\t (out ++ x) σ H1 Q
def Z8 {e:Expr} {es:List Expr} {te:TE} {t:TJ} {pos:Pos} (he:PE X e te) (h:PJ X es t):PJ X (.FormattedValue e (-1) none pos :: es) (jStr te t):=by
 intro out i7 s σ H Q I hq;refine joinParts_cons (FormattedValue_plain (thn (he i7 s σ H _ I hq) λu s1 ja=>?_));obtain ⟨v,H1,I1,r1,x,ev,hl,hz,q⟩:=ja;subst ev;obtain ⟨tk,rfl⟩:=r1;exact formatField_str (λt' k=>⟨hz,h _ i7 _ σ H1 Q (I1.tok _) q⟩) hl
end
section
variable {X:Cx}
def Asc (x:Str):Prop:=∀ c∈x.cps.toList,c < 128
def Asc.all {x:Str} (h:Asc x):x.cps.all (· < 128)=true:=by
 rw [<- Array.all_toList,List.all_eq_true];exact λc hc=>decide_eq_true (h c hc)
def Asc.app {x y:Str} (h:Asc x) (h':Asc y):Asc (x ++ y):=by
 intro c hc;have:(x ++ y).cps.toList=x.cps.toList ++ y.cps.toList:=Array.toList_append;rw [this] at hc;exact (List.mem_append.mp hc).elim (h c) (h' c)
def Asc.join {ys:List Str} (h:∀ y∈ys,Asc y):Asc (Txt.join (Str.ofString "") ys):=by
 intro c hc;rw [Zkd] at hc;obtain ⟨l,hl,hc⟩:=List.mem_flatten.mp hc;obtain ⟨y,hy,rfl⟩:=List.mem_map.mp hl;exact h y hy c hc
end
def Asc.num (i:Int):Asc (Str.ofString (toString i)):=λc hc=>by
 refine Decidable.byContradiction λh=>?_;exact int_text_free' c ⟨by lia,by lia⟩ i hc
theorem Zdt {lp:Str} (hs:Asc lp):∀ (l:List Str) (a:Array Nat),(∀ c∈a.toList,c < 128)->(∀ y∈l,Asc y)->∀ c∈(l.foldl (λi9 p=>i9 ++ lp.cps ++ p.cps) a).toList,c < 128
 | [],a,ha,_,c,hc=>ha c hc
 | y :: l,a,ha,hl,c,hc=>by
  refine Zdt hs l (a ++ lp.cps ++ y.cps) (λd hd=>?_) (λz hz=>hl z (List.mem_cons_of_mem _ hz)) c hc;rw [Array.toList_append,Array.toList_append] at hd
  rcases List.mem_append.mp hd with h | h
  ·rcases List.mem_append.mp h with h | h
   ·exact ha d h
   ·exact hs d h
  ·exact hl y List.mem_cons_self d h
def Asc.joinS {lp:Str} {ys:List Str} (hs:Asc lp) (h:∀ y∈ys,Asc y):Asc (Txt.join lp ys):=by
 unfold Txt.join Builtin.Str.glued
 cases ys with
 | nil=>intro c hc; have hc:c∈([]:List Nat):=hc; cases hc
 | cons y l=>exact Zdt hs l y.cps (h y List.mem_cons_self) λz hz=>h z (List.mem_cons_of_mem _ hz)
def Asc.ok {x:Str} (h:Asc x):PyData.strOk x=true:=by
 unfold PyData.strOk;rw [<- Array.all_toList,List.all_eq_true];exact λc hc=>decide_eq_true (Nat.lt_trans (h c hc) (by decide))
theorem DVs.strs {K:W.Frag} {H:Hp}:∀ ns:List Str,DVs K H (ns.map V.str) (ns.map PyData.str)
 | []=>.nil
 | n :: r=>.cons (.str n) (DVs.strs r)
theorem Zbt:∀ {ds:List Str},(∀ x∈ds,Asc x)->PyData.canLayAll0 (ds.map PyData.str)=true/\PyData.depthAll (ds.map PyData.str)<=1
 | [],_=>⟨by simp [PyData.canLayAll0],by simp [PyData.depthAll]⟩
 | d :: ds,h=>by
  obtain ⟨h1,h2⟩:=Zbt (ds:=ds) λx hx=>h x (List.mem_cons_of_mem _ hx);refine ⟨?_,?_⟩
  ·simp only [List.map_cons,PyData.canLayAll0,h1,PyData.canLay0,(h d List.mem_cons_self).ok,Bool.and_self]
  ·simp only [List.map_cons,PyData.depthAll,PyData.depth]; lia
def Oz {ds:List Str} (h:∀ x∈ds,Asc x):SeqAt.shaped (.list (ds.map PyData.str))=true:=by
 obtain ⟨h1,h2⟩:=Zbt h;unfold SeqAt.shaped;rw [Bool.and_eq_true,decide_eq_true_eq];refine ⟨by simp only [PyData.canLay0]; exact h1,?_⟩;simp only [PyData.depth];lia
end L2
namespace L2
open PySem PySem.Spec PyProof.Rows PySem.Builtin PySem.Builtin.Str
section
variable {X:Cx}
theorem Fs:∀ l:List (Str × Tok),Vals ((l.map (·.1)).map V.str) (strValues l)
 | []=>.nil
 | _ :: l=>.cons ⟨_,rfl⟩ (Fs l)
def Zg8 {x y:Str}:(Txt.split x y).length<=x.length + 2:=by
 unfold Txt.split;have e1:=StrLaws.occ_length_le x y 0 x.length (x.length + 1);split
 ·exact Nat.le_add_left 1 (x.length + 1)
 ·split
  ·exact Nat.le_add_left 1 (x.length + 1)
  ·rw [length_partsBetween]; lia
def Zna:V->List V->Hp->VK->Prop:=λo xs H Q=>∃ x y:Str,o=.str x/\xs=[.str y]/\(y.length == 0)=false/\x.length + 2<=sizeLine/\∀ p,H p=none->Q (.ref p) (upd H p (.lst ((Txt.split x y).map V.str)))
def Xu:MtR X "str.split" Zna:=by
 intro i7 s σ H o xs v us Q I rx rs h;obtain ⟨x,y,rfl,rfl,hy,hsz,q⟩:=h;obtain ⟨t,rfl⟩:=rx;obtain ⟨u,rfl,ru⟩:=Xv rs;obtain ⟨tu,rfl⟩:=ru;have hn:(partsBetween x (occurrences x y 0 x.length (x.length + 1)) y.length).length<=sizeLine:=by
  have e1:=StrLaws.occ_length_le x y 0 x.length (x.length + 1)
  rw [length_partsBetween]; lia
 have ji:∀ (l:List (Str × Tok)) (k:Nat),l.map (·.1)=Txt.split x y->EP X i7 σ Q (.ref s.heap.objs.size) { s with heap:=s.heap.push { cls:=.type "list",data:=.seq (strValues l).toArray },toks:=k }:=λl k e=>by
  refine ⟨.ref s.heap.objs.size,upd H s.heap.objs.size (.lst ((Txt.split x y).map V.str)),I.laid (λb u hb=>Al _ hb) (Ao _) ?_,Z,q _ I.fresh⟩;refine ⟨?_,strValues l,0,?_,Aq _ Z⟩
  ·rw [Ac]; exact Nat.le_trans Zg8 hsz
  ·rw [<- e]; exact Fs l
 cases h1:(decide (x.length < y.length) || decide (strKind x < strKind y))
 ·cases hf:(occurrences x y 0 x.length (x.length + 1)).isEmpty
  ·refine call_meets F.slot_str_split (typeIs_str _ _ _) F.entry_str_split (F.args_str_split_2 _ _) (meets_str_split_sep x y t tu h1 hy hf (by lia) hn) ?_
   show wants _ _ _ { s with toks:=_,heap:=s.heap.push { cls:=.type "list",data:=.seq (strsFrom s.toks (partsBetween x (occurrences x y 0 x.length (x.length + 1)) y.length)).toArray } };rw [strsFrom_eq];exact ji (numbered s.toks _) _ ((numbered_texts _ _).trans ((if_neg (ne_true_of_eq_false h1)).trans (if_neg (ne_true_of_eq_false hf))).symm)
  ·exact call_meets F.slot_str_split (typeIs_str _ _ _) F.entry_str_split (F.args_str_split_2 _ _) (meets_str_split_not_found x y t tu h1 hy hf)
    (ji [(x,t)] s.toks ((if_neg (ne_true_of_eq_false h1)).trans (if_pos hf)).symm)
 ·exact call_meets F.slot_str_split (typeIs_str _ _ _) F.entry_str_split (F.args_str_split_2 _ _) (meets_str_split_cannot_occur x y t tu h1)
   (ji [(x,t)] s.toks (if_pos h1).symm)
def Zls:V->List V->Hp->VK->Prop:=λo xs H Q=>∃ x y:Str,o=.str x/\xs=[.str y]/\Q (.bl (Txt.startswith x y)) H
def Ue:MtR X "str.startswith" Zls:=by
 intro i7 s σ H o xs v us Q I rx rs h;obtain ⟨x,y,rfl,rfl,q⟩:=h;obtain ⟨t,rfl⟩:=rx;obtain ⟨u,rfl,ru⟩:=Xv rs;obtain ⟨tu,rfl⟩:=ru;exact SC.startswith ⟨.bl _,H,I,Z,q⟩
def Zi0:X3 X (.type "int") (λxs H Q=>∃ (x:Str) (n:Int),xs=[.str x]/\intText? x=some n/\x.length<=640/\Q (.int n) H):=by
 intro i7 s σ H xs us Q I r h;obtain ⟨x,n,rfl,hn,hl,q⟩:=h;obtain ⟨u,rfl,ru⟩:=Xv r;obtain ⟨t,rfl⟩:=ru;exact PySem.W.KIN.call_text hn hl ⟨.int _,H,I.tok _,⟨_,Z⟩,q⟩
end
def jnL (c:Nat):List (List Nat)->List Nat
 | []=>[]
 | [a]=>a
 | a :: b :: r=>a ++ c :: jnL c (b :: r)
theorem Vg (c:Nat):∀ l:List Str,(Str.join ⟨#[c]⟩ l).cps.toList=jnL c (l.map λx=>x.cps.toList)
 | []=>rfl
 | [x]=>rfl
 | x :: y :: r=>by
  have ih:=Vg c (y :: r);show (x ++ ⟨#[c]⟩ ++ Str.join ⟨#[c]⟩ (y :: r)).cps.toList=x.cps.toList ++ c :: jnL c ((y :: r).map λx=>x.cps.toList);rw [<- ih];have e:∀ a b:Str,(a ++ b).cps.toList=a.cps.toList ++ b.cps.toList:=λa b=>Array.toList_append;rw [e,e,List.append_assoc];rfl
theorem Zdi {c:Nat}:∀ {a a' r r':List Nat},c ∉ a->c ∉ a'->a ++ c :: r=a' ++ c :: r'->a=a'/\r=r'
 | [],[],_,_,_,_,e=>by injection e with _ e; exact ⟨Z,e⟩
 | [],x :: a',_,_,_,h',e=>by injection e with e _; exact absurd (List.mem_cons.mpr (.inl e)) h'
 | x :: a,[],_,_,h,_,e=>by injection e with e _; exact absurd (List.mem_cons.mpr (.inl e.symm)) h
 | x :: a,y :: a',_,_,h,h',e=>by
  injection e with e1 e2
  obtain ⟨e3,e4⟩:=Zdi (λz=>h (List.mem_cons_of_mem _ z)) (λz=>h' (List.mem_cons_of_mem _ z)) e2;exact ⟨by rw [e1,e3],e4⟩
theorem Zfc {c:Nat}:∀ {l l':List (List Nat)},l≠[]->l'≠[]->(∀ p∈l,c ∉ p)->(∀ p∈l',c ∉ p)->jnL c l=jnL c l'->l=l'
 | [],_,h,_,_,_,_=>absurd rfl h
 | _,[],_,h,_,_,_=>absurd rfl h
 | [a],[a'],_,_,_,_,e=>by rw [show a=a' from e]
 | [a],a' :: b' :: r',_,_,h,_,e=>by
  have:c∈a:=by rw [show a=a' ++ c :: jnL c (b' :: r') from e]; exact List.mem_append.mpr (.inr List.mem_cons_self)
  exact absurd this (h a List.mem_cons_self)
 | a :: b :: r,[a'],_,_,_,h',e=>by
  have:c∈a':=by rw [<- show a ++ c :: jnL c (b :: r)=a' from e]; exact List.mem_append.mpr (.inr List.mem_cons_self)
  exact absurd this (h' a' List.mem_cons_self)
 | a :: b :: r,a' :: b' :: r',_,_,h,h',e=>by
  obtain ⟨e1,e2⟩:=Zdi (h a List.mem_cons_self) (h' a' List.mem_cons_self) (show a ++ c :: jnL c (b :: r)=a' ++ c :: jnL c (b' :: r') from e);have:=Zfc (l:=b :: r) (l':=b' :: r') (λz=>nomatch z) (λz=>nomatch z) (λp hp=>h p (List.mem_cons_of_mem _ hp)) (λp hp=>h' p (List.mem_cons_of_mem _ hp)) e2;rw [e1,this]
def Zje (x:Str) (c:Nat):Txt.split x ⟨#[c]⟩≠[]:=λe=>by
 have h:=StrLaws.join_split x ⟨#[c]⟩;rw [e] at h;have hx:x.length=0:=by rw [<- h]; rfl
 unfold Txt.split at e;rw [if_pos (by rw [hx]; rfl)] at e;cases e
def Zjd {x:Str} {c:Nat} {l:List Str} (jo:l≠[]) (hf:∀ p∈l,c ∉ p.cps.toList) (hx:x.cps.toList=jnL c (l.map λx=>x.cps.toList)):Txt.split x ⟨#[c]⟩=l:=by
 have h1:jnL c ((Txt.split x ⟨#[c]⟩).map λx=>x.cps.toList)=jnL c (l.map λx=>x.cps.toList):=by rw [<- hx,<- Vg,StrLaws.join_split]
 have h2:=Zfc (λz=>Zje x c (List.map_eq_nil_iff.mp z)) (λz=>jo (List.map_eq_nil_iff.mp z)) (λp hp=>by
  obtain ⟨y,hy,rfl⟩:=List.mem_map.mp hp
  exact StrLaws.split_free x c y hy) (λp hp=>by
  obtain ⟨y,hy,rfl⟩:=List.mem_map.mp hp
  exact hf y hy) h1
 have inj:∀ {l l':List Str},(l.map λx=>x.cps.toList)=(l'.map λx=>x.cps.toList)->l=l':=λ{l l'}=>by
  induction l generalizing l' with
  | nil=>intro e; cases l' with
   | nil=>rfl
   | cons y l'=>cases e
  | cons x l ih=>intro e; cases l' with
   | nil=>cases e
   | cons y l' =>
    injection e with e1 e2
    rw [ih e2,show x=y from Str.ext' e1]
 exact inj h2
end L2
namespace L2
open PySem PySem.Spec PyProof.Rows
def KTup (K:W.Frag) (a:Addr) (xs:List Str):Prop:=∀ H:Hp,SqT K H a (xs.map V.str)
def ktup_mk2 {K:W.Frag} {a:Addr} {t1 t2:Tok} {ep:Nat} {x1 x2:Str} (l:K.lookup a=some ⟨.type "tuple",none,.seq #[.str x1 t1,.str x2 t2] ep,#[]⟩):KTup K a [x1,x2] :=
 λH=>.inr ⟨_,_,_,l,rfl,rfl,(by show 2<=sizeLine; decide),.cons ⟨_,rfl⟩ (.cons ⟨_,rfl⟩ .nil)⟩
def ktup_mk3 {K:W.Frag} {a:Addr} {t1 t2 t3:Tok} {ep:Nat} {x1 x2 x3:Str} (l:K.lookup a=some ⟨.type "tuple",none,.seq #[.str x1 t1,.str x2 t2,.str x3 t3] ep,#[]⟩):KTup K a [x1,x2,x3] :=
 λH=>.inr ⟨_,_,_,l,rfl,rfl,(by show 3<=sizeLine; decide),.cons ⟨_,rfl⟩ (.cons ⟨_,rfl⟩ (.cons ⟨_,rfl⟩ .nil))⟩
theorem V4 (x:Str):∀ xs:List Str,inV (.str x) (xs.map V.str)=decide (x∈xs)
 | []=>rfl
 | y :: xs=>by
  have ih:=V4 x xs;unfold inV at ih ⊢;rw [List.map_cons,List.any_cons,ih];have e:eqV (.str y) (.str x)=decide (x=y):=by
   show decide _=_
   by_cases c:x=y
   ·subst c; simp
   ·rw [decide_eq_false c]; exact decide_eq_false (λz=>c z.symm)
  rw [e];by_cases c:x=y
  ·rw [decide_eq_true c,decide_eq_true (List.mem_cons.mpr (.inl c))]; rfl
  ·rw [decide_eq_false c,Bool.false_or]
   exact decide_eq_decide.mpr ⟨List.mem_cons_of_mem _,λz=>(As z).resolve_left c⟩
def Zak (xs:List Str):(xs.map V.str).all Qb=true:=by
 rw [List.all_eq_true];intro v hv;obtain ⟨x,_,rfl⟩:=List.mem_map.mp hv;rfl
end L2
namespace HL
open PySem PyProof.Rows HT
end HL
namespace L2
open PySem PySem.Spec PyProof.Rows
def Zkf {X:Cx}:PIp X .FloorDiv (λx y H Q=>∃ i j,x=.int i/\y=.int j/\Zbm i j/\Q (.int (i / j)) H):=by
 intro i7 s σ H x y v u Q I r1 r2 h;obtain ⟨i,j,e1,e2,hc,q⟩:=h;subst e1; subst e2;obtain ⟨t,rfl⟩:=r1;obtain ⟨t',rfl⟩:=r2;have h1:(0:Int) < j:=hc.1;refine ifloordiv_int (by lia) ?_ (.inl (PyProof.noPylong_of_log2 hc.2));rw [Int.fdiv_eq_ediv_of_nonneg i (by lia)];exact ⟨.int _,H,I.tok _,⟨_,Z⟩,q⟩
section
variable {X:Cx}
def Zdo (hc:X.calm=true):X3 X (.builtin "sorted") (λxs H Q=>∃ (p:Addr) (ks:List Int),xs=[.ref p]/\H p=some (setH X.prog X.w p ks)/\ks.length < 64 /\
  ∀ (q:Addr) (out:List Int),H q=none->out.Perm ks->out.Pairwise (·<=·)->Q (.ref q) (upd H q (.lst (out.map V.int)))):=by
 intro i7 s σ H xs us Q I r h;obtain ⟨p,ks,rfl,hp,lz,q⟩:=h;obtain ⟨u,rfl,ru⟩:=Xv r;obtain rfl:u=Value.ref p:=ru;have ws:WSet X.prog X.w s.heap p ks:=(I.hok p _ hp).1;refine Calls.call_function_entry kind_sorted plain_sorted entry_sorted (args_sorted1 _) ?_;unfold Builtin.«sorted»;refine Am (m:=checkCount "sorted" 1 1 _) (wpAny_pure ?_);refine Am (Zet (A:=X.A.in1) (I.ok.hd hc) ws (by rw [sizeLine_eq]; lia) λh' d' tk vs out kp hI pm=>?_);have hl:vs.length=out.length:=hI.length;have h64':out.length < 64:=by rw [pm.length_eq]; exact lz
 refine Am (wpAny_newList ?_ (by rw [hl,sizeLine_eq]; lia));have I1:Inv X i7 σ H { s with heap:=h',drawn:=d',toks:=tk }:=(I.kept (t':=tk) kp).draw;have qa:(h'.push { cls:=.type "list",data:=.seq vs.toArray }).get? h'.objs.size=some (seqObj "list" vs.toArray 0):=Aq _ rfl;refine Am (wpAny_holding (wpAny_call_entry slot_list_sort ⟨_,qa,Z⟩ entry_list_sort (list_sort_tree qa (by simpa using hI) (by lia) λres ns a1 a2 a3=>⟨_,Z,?_⟩) (args_list_sort _)));refine wpAny_pure ⟨_,Z,?_⟩;obtain ⟨e,he⟩:=sortedHeap_at (out:=res) qa;have k2:∀ b u,h'.get? b=some u->(sortedHeap (h'.push { cls:=.type "list",data:=.seq vs.toArray }) h'.objs.size vs res).get? b=some u:=λb u hb=>by
  have lb:=Ap hb
  rw [sortedHeap_old (At lb) (by rw [Heap.size_push]; exact Nat.lt_succ_of_lt lb)]
  exact Al _ hb
 have hv:Vals (ns.map V.int) res.toList:=by
  clear he k2;generalize res.toList=l at a1;clear a2 a3
  induction a1 with
  | nil=>exact .nil
  | cons i t _ ih=>exact .cons ⟨_,Z⟩ ih
 refine ⟨.ref h'.objs.size,upd H h'.objs.size (.lst (ns.map V.int)),I1.laid k2 (Ao _) ⟨?_,res.toList,e,hv,by rw [he]⟩,Z,q _ ns I1.fresh (a2.trans pm) a3⟩;rw [Ac,a2.length_eq,sizeLine_eq]; lia
end
abbrev Itm:=Nat ⊕ Nat
def catI (f:Nat->List Nat):List Itm->List Nat
 | []=>[]
 | .inl c :: r=>c :: catI f r
 | .inr k :: r=>f k ++ catI f r
def mkS (l:List Nat):Str:=⟨l.toArray⟩
def txI (f:Nat->List Nat) (l:List Itm):Str:=mkS (catI f l)
def Zmc (a b:List Nat):mkS a ++ mkS b=mkS (a ++ b):=by
 show Str.mk (a.toArray ++ b.toArray)=Str.mk (a ++ b).toArray;rw [List.append_toArray]
theorem Jk (f:Nat->List Nat):∀ a b:List Itm,catI f (a ++ b)=catI f a ++ catI f b
 | [],b=>rfl
 | .inl c :: r,b=>congrArg (c :: ·) (Jk f r b)
 | .inr k :: r,b=>(congrArg (f k ++ ·) (Jk f r b)).trans (List.append_assoc ..).symm
theorem Jj (f:Nat->List Nat):∀ l:List Nat,catI f (l.map Sum.inl)=l
 | []=>rfl
 | c :: r=>by
  rw [List.map_cons];unfold catI;rw [Jj f r]
def X7 (f:Nat->List Nat) (a b:List Itm):txI f a ++ txI f b=txI f (a ++ b):=by
 unfold txI;rw [Zmc,Jk]
abbrev FPt:=Str ⊕ Nat
def itF:List FPt->List Itm
 | []=>[]
 | .inl x :: r=>x.cps.toList.map Sum.inl ++ itF r
 | .inr k :: r=>.inr k :: itF r
def mkJ (te:Nat->TE) (nu:Nat->Bool):List FPt->TJ
 | []=>jNil
 | .inl x :: r=>jTxt x (mkJ te nu r)
 | .inr k :: r=>cond (nu k) (jInt (te k) (mkJ te nu r)) (jStr (te k) (mkJ te nu r))
def mkE (te:Nat->TE) (nu:Nat->Bool):List FPt->TE
 | [.inl x]=>tC (.str x)
 | ps=>mkJ te nu ps Str.empty
def mkA (te:Nat->TE) (nu:Nat->Bool):List (List FPt)->TA
 | []=>tNil
 | ps :: r=>Zk0 (mkE te nu ps) (mkA te nu r)
structure Rdb (f:Nat->List Nat) (te:Nat->TE) (nu:Nat->Bool) (σ:St) (H:Hp):Prop where
 le:∀ k,(f k).length<=62
 num:∀ k,nu k=true->∃ i:Int,(toString i:Str)=mkS (f k)/\i.natAbs.log2 < 1920/\∀ Q:VK,Q (.int i) H->te k σ H Q
 str:∀ k,nu k=false->∀ Q:VK,Q (.str (mkS (f k))) H->te k σ H Q
variable {f:Nat->List Nat} {te:Nat->TE} {nu:Nat->Bool} {σ:St} {H:Hp}
theorem Fo (h:∀ k,(f k).length<=62):∀ l:List Itm,(catI f l).length<=62 * l.length
 | []=>Ao _
 | .inl c :: r=>by
  unfold catI;rw [List.length_cons,List.length_cons];have:=Fo h r;lia
 | .inr k :: r=>by
  unfold catI;rw [Af,List.length_cons];have:=Fo h r;have:=h k;lia
def Zmw (h:∀ k,(f k).length<=62) (l:List Itm):(txI f l).length<=62 * l.length:=Fo h l
def Ki (h:∀ k,(f k).length<=62) {l:List Itm} (hl:l.length<=300):(txI f l).length<=sizeLine:=by
 have:=Zmw h l;rw [sizeLine_eq];lia
theorem U3 (R:Rdb f te nu σ H) {Q:VK}:∀ (ps:List FPt) (a:List Itm),(a ++ itF ps).length<=300->Q (.str (txI f (a ++ itF ps))) H->mkJ te nu ps (txI f a) σ H Q
 | [],a,hl,q=>by
  rw [show itF []=[] from rfl,List.append_nil] at hl q;exact ⟨Ki R.le hl,q⟩
 | .inl x :: r,a,hl,q=>by
  have e:txI f a ++ x=txI f (a ++ x.cps.toList.map Sum.inl):=by
   rw [<- X7];show _=_ ++ mkS (catI f (x.cps.toList.map Sum.inl));rw [Jj];rfl
  rw [show itF (.inl x :: r)=x.cps.toList.map Sum.inl ++ itF r from rfl,<- List.append_assoc] at hl q;show (txI f a ++ x).length<=sizeLine/\mkJ te nu r (txI f a ++ x) σ H Q;rw [e];exact ⟨Ki R.le (by rw [Af] at hl; lia),U3 R r _ hl q⟩
 | .inr k :: r,a,hl,q=>by
  have e:txI f a ++ mkS (f k)=txI f (a ++ [.inr k]):=by
   rw [<- X7];show _=_ ++ mkS (catI f [.inr k]);unfold catI catI;rw [List.append_nil]
  rw [show itF (.inr k :: r)=[.inr k] ++ itF r from rfl,<- List.append_assoc] at hl q;have z:=Ki R.le (l:=a ++ [.inr k]) (by rw [Af] at hl; lia);have y:=U3 R r _ hl q
  cases c:nu k with
  | true =>
   obtain ⟨i,h1,h2,h3⟩:=R.num k c;show cond (nu k) (jInt (te k) (mkJ te nu r)) (jStr (te k) (mkJ te nu r)) (txI f a) σ H Q;rw [c];refine h3 _ ⟨i,Z,h2,?_⟩;rw [h1,e];exact ⟨z,y⟩
  | false =>
   show cond (nu k) (jInt (te k) (mkJ te nu r)) (jStr (te k) (mkJ te nu r)) (txI f a) σ H Q;rw [c];refine R.str k c _ ⟨_,Z,?_,?_⟩
   ·have:=R.le k
    show (f k).toArray.size<=_;rw [Ar,sizeLine_eq];lia
   ·rw [e]
    exact ⟨z,y⟩
theorem Znr (R:Rdb f te nu σ H) {Q:VK}:∀ (ps:List FPt),(itF ps).length<=300->Q (.str (txI f (itF ps))) H->mkE te nu ps σ H Q
 | [.inl x],hl,q=>by
  have e:txI f (itF [.inl x])=x:=by
   unfold txI itF itF;rw [List.append_nil,Jj];rfl
  rw [e] at q;exact q
 | [],hl,q=>U3 R [] [] hl q
 | [.inr k],hl,q=>U3 R [.inr k] [] hl q
 | x :: y :: r,hl,q=>by
  have:=U3 R (x :: y :: r) [] hl q;cases x <;> exact this
theorem Zde (R:Rdb f te nu σ H):∀ (pss:List (List FPt)) {Q:List V->Hp->Prop},(∀ ps∈pss,(itF ps).length<=300)->Q (pss.map λps=>.str (txI f (itF ps))) H->mkA te nu pss σ H Q
 | [],Q,hl,q=>q
 | ps :: r,Q,hl,q=>Znr R ps (hl ps List.mem_cons_self) (Zde R r (λp hp=>hl p (List.mem_cons_of_mem _ hp)) q)
end L2
namespace KT
open PySem L2
def aN (a:Nat):Nat:=(after a).toNat
def bN (a:Nat):Nat:=(Wr a).toNat
structure PC (M:List (Option Nat)) (f:Nat->Int):Prop where
 nn:∀ p,p < M.length->0<=f p
 rim:∀ p:Nat,M[p]?=some none->f p=0
 mate:∀ p q:Nat,M[p]?=some (some q)->f q=f p
 even:∀ p,p < M.length->(f p + f (aN p) + f (bN p)) % 2=0
 tri:∀ p,p < M.length->f p<=f (aN p) + f (bN p)
def mx (x y:Int):Int:=if y > x then y else x
def bh (f:Nat->Int) (a b:Nat):Int:=mx (f (aN a) + f (aN b)) (f (bN a) + f (bN b)) - f a
def fx (left:Bool) (a b:Nat) (f:Nat->Int) (z:Nat):Int:=if z=a\/z=b then bh f a b else f (mvN (!left) a b z)
section
variable {M:List (Option Nat)} {ns:List Int} {f:Nat->Int} {g:Int->Int}
def mu (M:List (Option Nat)) (p:Nat):Nat:=match (M[p]?).join with
 | some q=>q
 | none=>p
end
end KT
namespace KT
def lowN (m n:Nat):Nat × Nat:=(m / Nat.gcd m n,n / Nat.gcd m n)
def Zmd (m n:Nat):(lowN m n).1<=m/\(lowN m n).2<=n:=⟨Nat.div_le_self _ _,Nat.div_le_self _ _⟩
def putG (g:Int->Nat × Nat) (x:Int) (v:Nat × Nat):Int->Nat × Nat:=λy=>if y=x then v else g y
end KT
namespace KT
open PySem L2
section
variable {M:List (Option Nat)} {ns:List Int} {x y:Int} {a b:Nat}
def SwN (M:List (Option Nat)) (ns:List Int) (x:Int):Prop:=∃ p j:Nat,M[p]?=some (some j)/\ns[p]?=some x
structure SwK (M:List (Option Nat)) (ns:List Int) (ks:List Int):Prop where
 nd:ks.Nodup
 mem:∀ x,x∈ks ↔ SwN M ns x
def SwN.key (td:TD M ns) (h:SwN M ns x):x∈keys ns ns.length:=by
 obtain ⟨p,j,_,e⟩:=h;exact Wh.mpr ⟨p,(Aa e).1,e⟩
end
end KT
namespace L2
open PySem PySem.Spec PyProof.Rows
section
variable {X:Cx} {fr:Bool}
def Ziz (hc:X.calm=true):X3 X (.builtin "max") (λxs H Q=>∃ (p:Addr) (ns:List Int),xs=[.ref p]/\SqT X.K H p (ns.map V.int)/\0 < ns.length/\∀ m,m∈ns->(∀ a∈ns,a<=m)->Q (.int m) H):=by
 intro i7 s σ H xs us Q I r h;obtain ⟨p,ns,rfl,hq,hn,q⟩:=h;obtain ⟨u,rfl,ru⟩:=Xv r;cases ru;obtain ⟨its,rv,pl,hz⟩:=I.tuple hq;have pl:s.heap.IsTuple p its.toArray:=pl;have lt:p < s.heap.objs.size:=by obtain ⟨o,ho,_⟩:=pl; exact Ap ho
 have jb:its.toArray.size=ns.length:=by have:=rv.length; rw [Ac] at this; simp; lia
 have W:=Zkg (i7:=i7) (σ:=σ) (H:=H) (s:=s) rv;refine call_max_walk (wpAny_pyIter_tuple pl ⟨s.heap.objs.size,_,_,_,_,_,_,Z,Walks.tuple (A:=X.A.in1) (show X.A.in1.handled=none from I.ok.hd hc) s.heap.objs.size p (At lt) its.toArray,⟨⟨_,Aq _ Z,Z,Z⟩,pl.push _⟩,?_,by rw [jb]; exact hn,CmpOf.ints_gt (λi=>ns.getD i 0) W,?_⟩)
 ·intro b hb
  show b < (s.heap.push _).objs.size;rw [Heap.size_push]
  rcases As hb with rfl | hb
  ·exact Nat.lt_succ_self _
  ·rw [Ag hb]; exact Nat.lt_succ_of_lt lt
 ·intro v h' tk hP hk
  have I1:Inv X i7 σ H { s with heap:=h',toks:=tk }:=I.kept λb o e=>hk b o (λz=>absurd (Ap e) (by rw [Ag z]; exact Nat.lt_irrefl _)) (Al _ e);rw [jb] at hP;obtain ⟨a1,a2⟩:=argBest_gt (λi=>ns.getD i 0) (ns.length - 1);obtain ⟨t,e⟩:=W _ _ hP;generalize argBest (λi j=>decide (ns.getD i 0 > ns.getD j 0)) (ns.length - 1)=k at a1 a2 e;have r6:k < ns.length:=by lia
  have ek:ns.getD k 0=ns[k]:=by rw [Ae,Ad r6]; rfl
  refine ⟨.int (ns.getD k 0),H,I1,⟨t,e⟩,q _ (by rw [ek]; exact List.getElem_mem r6) λa ha=>?_⟩;obtain ⟨j,hj,rfl⟩:=List.mem_iff_getElem.mp ha;have:=a2 j (by lia);have ej:ns.getD j 0=ns[j]:=by rw [Ae,Ad hj]; rfl
  show ns[j]<=ns.getD k 0;rw [<- ej]; exact this
end
end L2
set_option genInjectivity false
set_option genSizeOf false
namespace KT
open PySem L2
def bmV:List Value:=[.type "ValueError",.type "Exception",.type "BaseException",.type "object"]
def FBV:ExcBaseFacts "ValueError" "ValueError.__new__" "ValueError.__init__" bmV:=PySem.F.excBase_ValueError
def Y1 {α:Type} {f:α->V} {l:List α} {i:Nat} {y:V} (h:(l.map f)[i]?=some y):∃ q,l[i]?=some q/\y=f q:=by
 rw [Ai] at h
 cases e:l[i]? with
 | none=>rw [e] at h; cases h
 | some q=>rw [e] at h; cases h; exact ⟨q,Z,Z⟩
structure FT (K:W.Frag) (mg:Str->Option Value) (x:Str) (st:Stmt) (ps:List Str) (f:Addr) (d:FuncData):Prop where
 F:Fun K x x st f d
 b:X4 K d ps []
 g:mg x=some (.ref f)
structure FM (K:W.Frag) (C:Addr) (x q:Str) (st:Stmt) (ps:List Str) (f:Addr) (d:FuncData):Prop where
 F:Fun K x q st f d
 b:X4 K d ps []
 m:Meth K C x f
section
variable {X:Cx} {fr:Bool} {j k:Nat} {f:Addr} {fd:FuncData} {ps:List Str} {sp:Sp} {x:Str} {st:Stmt} {p pos:Pos} {e:Expr} {es:List Expr} {t:TA}
def pcT (F:FnOk X.prog X.w X.K X.mg X.base (CXr X.prog X.w) k f fd ps sp) (hr:Room j X.A) (q:FT X.K X.mg x st ps f fd) (ha:PA X (e :: es) t) (hk:k<=j:=by decide) (hg:Gl X x:=by rfl) (ka:(x == ("__debug__":Str))=false:=by decide) (he:starEach (e :: es) X.env=(false,eval e X.env) :: starEach es X.env:=by rfl) (ju:(backTo pos (starEach es X.env)).any (·.1)=false:=by rfl) :
  PE X (.Call (.Name x p) (e :: es) [] pos) (Zk1 sp [] E0 t):=Zl4 F (hr.mono hk) hg q.g q.F.kp q.b .nil Yr ha ka he ju
def pxT (F:FnOk X.prog X.w X.K X.mg X.base (CXr X.prog X.w) k f fd ps sp) (hr:Room j X.A) (q:FT X.K X.mg x st ps f fd) (ha:PA X (e :: es) t) (hk:k<=j:=by decide) (hg:Gl X x:=by rfl) (hex:X.ex=[]:=by rfl) (hx:X.xe=(λ_ _=>False):=by rfl) (ka:(x == ("__debug__":Str))=false:=by decide) (he:starEach (e :: es) X.env=(false,eval e X.env) :: starEach es X.env:=by rfl) (ju:(backTo pos (starEach es X.env)).any (·.1)=false:=by rfl) :
  PEX fr X (.Call (.Name x p) (e :: es) [] pos) (Ky sp [] t):=Zjq F (hr.mono hk) hg q.g q.F.kp q.b .nil ha hex hx ka he ju
end
def BA (q:Str) (st:Stmt) (ps:List Str):Prop:=∀ (x:Str) (kV jm pm:Value) (an:Option Addr) (jc ct:Value) (us:List Value),us.length=ps.length->bindArgs (PySem.W.fnOf x q (Xn st) (Yt st) (Zg st) .none kV jm pm an jc ct) ⟨us,[]⟩=pure (ps.zip us)
def Zfb {α:Type} {us:List α} (e:us.length=2):∃ a b,us=[a,b]:=by
 obtain ⟨a,us,rfl⟩:=List.exists_cons_of_length_eq_add_one e;obtain ⟨b,rfl⟩:=List.length_eq_one_iff.mp (Nat.succ.inj e);exact ⟨a,b,Z⟩
def Zac {α:Type} {us:List α} (e:us.length=3):∃ a b c,us=[a,b,c]:=by
 obtain ⟨a,us,rfl⟩:=List.exists_cons_of_length_eq_add_one e;obtain ⟨b,c,rfl⟩:=Zfb (Nat.succ.inj e);exact ⟨a,b,c,Z⟩
def ba1 {ps:List Str} (h:∀ (x:Str) (kV jm pm:Value) (an:Option Addr) (jc ct:Value) (a:Value),bindArgs (PySem.W.fnOf x q (Xn st) (Yt st) (Zg st) .none kV jm pm an jc ct) ⟨[a],[]⟩=pure (ps.zip [a])) (hl:ps.length=1):BA q st ps:=λx kV jm pm an jc ct us e=>by
 rw [hl] at e;obtain ⟨a,rfl⟩:=List.length_eq_one_iff.mp e;exact h x kV jm pm an jc ct a
def ba2 {ps:List Str} (h:∀ (x:Str) (kV jm pm:Value) (an:Option Addr) (jc ct:Value) (a b:Value),bindArgs (PySem.W.fnOf x q (Xn st) (Yt st) (Zg st) .none kV jm pm an jc ct) ⟨[a,b],[]⟩=pure (ps.zip [a,b])) (hl:ps.length=2):BA q st ps:=λx kV jm pm an jc ct us e=>by
 rw [hl] at e;obtain ⟨a,b,rfl⟩:=Zfb e;exact h x kV jm pm an jc ct a b
def ba3 {ps:List Str} (h:∀ (x:Str) (kV jm pm:Value) (an:Option Addr) (jc ct:Value) (a b c:Value),bindArgs (PySem.W.fnOf x q (Xn st) (Yt st) (Zg st) .none kV jm pm an jc ct) ⟨[a,b,c],[]⟩=pure (ps.zip [a,b,c])) (hl:ps.length=3):BA q st ps:=λx kV jm pm an jc ct us e=>by
 rw [hl] at e;obtain ⟨a,b,c,rfl⟩:=Zac e;exact h x kV jm pm an jc ct a b c
def ba4 {q:Str} {st:Stmt} {ps:List Str} (h:∀ (x:Str) (kV jm pm:Value) (an:Option Addr) (jc ct:Value) (a b c d:Value),bindArgs (PySem.W.fnOf x q (Xn st) (Yt st) (Zg st) .none kV jm pm an jc ct) ⟨[a,b,c,d],[]⟩=pure (ps.zip [a,b,c,d])) (hl:ps.length=4):BA q st ps:=λx kV jm pm an jc ct us e=>by
 rw [hl] at e;obtain ⟨a,us,rfl⟩:=List.exists_cons_of_length_eq_add_one e;obtain ⟨b,c,d,rfl⟩:=Zac (Nat.succ.inj e);exact h x kV jm pm an jc ct a b c d
def ba5 {q:Str} {st:Stmt} {ps:List Str} (h:∀ (x:Str) (kV jm pm:Value) (an:Option Addr) (jc ct:Value) (a b c d e:Value),bindArgs (PySem.W.fnOf x q (Xn st) (Yt st) (Zg st) .none kV jm pm an jc ct) ⟨[a,b,c,d,e],[]⟩=pure (ps.zip [a,b,c,d,e])) (hl:ps.length=5):BA q st ps:=λx kV jm pm an jc ct us e=>by
 rw [hl] at e
 match us,e with
 | [a,b,c,d,e],_=>exact h x kV jm pm an jc ct a b c d e
section
variable {K:W.Frag} {h:Heap} {mg:Str->Option Value} {C:Addr} {x q:Str} {st:Stmt} {ps:List Str} {f:Addr} {oc:Value} {od an:Option Addr} {sl:Array (Option Value)} {kV jm pm cd ct:Value}
def FT.of (X:K.In h) (G:h.Ns mainGlobals mg) (B:BA x st ps) (a:PySem.W.nsIn K mainGlobals x=some (some (.ref f))) (l:K.lookup f=some ⟨oc,od,.func (PySem.W.fnOf x x (Xn st) (Yt st) (Zg st) .none kV jm pm an cd ct),sl⟩)
  (c:PySem.W.codeIn K cd x=true) (k:PySem.W.keepIn K (.ref f)=true):FT K mg x st ps f (PySem.W.fnOf x x (Xn st) (Yt st) (Zg st) .none kV jm pm an cd ct):=⟨Gw l c k,(Gw l c k).binds (B x),PySem.W.mg_of X G a⟩
def FM.of (B:BA q st ps) (a:PySem.W.findIn K (.ref C) x=some (some (.ref f))) (i:PySem.W.isFn K (.ref f)=true) (l:K.lookup f=some ⟨oc,od,.func (PySem.W.fnOf x q (Xn st) (Yt st) (Zg st) .none kV jm pm an cd ct),sl⟩)
  (c:PySem.W.codeIn K cd q=true) (k:PySem.W.keepIn K (.ref f)=true):FM K C x q st ps f (PySem.W.fnOf x q (Xn st) (Yt st) (Zg st) .none kV jm pm an cd ct):=⟨Gw l c k,(Gw l c k).binds (B x),⟨a,i,k⟩⟩
end
def top (i:Nat):Stmt:=PySem.Challenge.pw_tentloops_k67_orders_refused.main.body.getD i (.Pass ⟨0,0,0,0⟩)
abbrev Zlp:Stmt:=top 24
abbrev Zji:Stmt:=top 25
abbrev Ga:Stmt:=top 26
abbrev K5:Stmt:=top 27
abbrev K7:Stmt:=top 28
abbrev Kd:Stmt:=Ys (top 29) 0
abbrev Kb:Stmt:=Ys (top 29) 1
abbrev Up:Stmt:=Ys (top 29) 3
abbrev Ql:Stmt:=Ys (top 29) 5
abbrev J3:Stmt:=Ys (top 29) 6
abbrev Fc:Stmt:=Ys (top 29) 7
abbrev Uc:Stmt:=Ys (top 29) 8
abbrev Kc:Stmt:=Ys (top 29) 9
abbrev Vi:Stmt:=Ys (top 29) 10
abbrev O9:Stmt:=top 38
abbrev F4:Stmt:=top 39
abbrev Zez:Stmt:=top 40
abbrev V9:Stmt:=top 41
abbrev Zcg:Stmt:=top 43
abbrev Qk:Stmt:=top 56
abbrev Q4:Stmt:=top 57
abbrev K9:Stmt:=top 58
abbrev Um:Stmt:=top 59
abbrev Ub:Stmt:=top 60
abbrev Fz:Stmt:=top 71
abbrev F3:Stmt:=top 72
abbrev O8:Stmt:=top 73
abbrev F5:Stmt:=top 74
abbrev K6:Stmt:=top 75
abbrev Zbc:Stmt:=top 76
abbrev Uq:Stmt:=Ys (top 80) 0
abbrev O4:Stmt:=top 81
abbrev Q3:Stmt:=top 83
abbrev Ua:Stmt:=top 84
abbrev Uo:Stmt:=top 85
abbrev Ke:Stmt:=Ys (top 87) 0
abbrev Us:Stmt:=Ys (top 87) 1
abbrev Gd:Stmt:=Ys (top 87) 2
abbrev Ur:Stmt:=Ys (top 87) 5
abbrev Zea:Stmt:=Ys (top 87) 7
abbrev Zcp:Stmt:=Ys (top 87) 8
abbrev Ut:Stmt:=Ys (top 87) 9
abbrev Qm:Stmt:=Ys (top 87) 11
abbrev Fd:Stmt:=Ys (top 87) 17
abbrev O6:Stmt:=top 91
abbrev Fy:Stmt:=top 92
abbrev O5:Stmt:=top 93
abbrev Qj:Stmt:=top 94
abbrev Ka:Stmt:=top 95
abbrev Zch:Stmt:=top 96
abbrev Fx:Stmt:=top 97
abbrev F0:Stmt:=top 98
abbrev K4:Stmt:=top 99
abbrev Fw:Stmt:=top 100
abbrev F6:Stmt:=top 102
abbrev Zhl:Stmt:=top 103
abbrev Zd9:Stmt:=top 104
abbrev Zhj:Stmt:=top 105
abbrev Gc:Stmt:=top 106
abbrev Gb:Stmt:=top 107
abbrev Jr:Stmt:=top 108
abbrev Zhk:Stmt:=top 109
abbrev Zco:Stmt:=top 111
abbrev O7:Stmt:=top 112
abbrev Zcl:Stmt:=top 113
abbrev Zcm:Stmt:=top 114
abbrev Zck:Stmt:=top 115
abbrev Zci:Stmt:=top 116
abbrev K8:Stmt:=top 117
abbrev Zcj:Stmt:=top 118
abbrev Zcn:Stmt:=top 119
abbrev Ze0:Stmt:=top 120
abbrev Vh:Stmt:=top 121
abbrev Zk2:Stmt:=top 122
structure Adr where
 (ac ah ag iw ic dQ dR dU bO cY cw bf a8 dW b7 cZ bP db fw gM b8 fZ bg bG dX cx b9 fz fA dc fD dY fi bz de bH ce cy bQ cz dZ cA f6 fQ cB bi d0 df fE dg bj dh bR bn bo aT bp az gZ f7 g8 d6 d7 aU ie f8 di f9 gc gd gf d8 gg gh gO bS iD bI ae fR aE b5 cC iE gj gP cr aQ d9 gk aa a9 fF gQ:Addr)
 (ix ig ee eu ez dj dk cD bq bb eA cf dm bT dn fG gR cg gl br bJ eB cE cj fH fI dq fJ eE fj cF dr bK ck cG dv cH eF cI gm fS cJ bt eG dw fK dy bu dz gn fL fM eJ fN aA g9 gq hE eK eO aV ii gr dA gs gu gw gx eP gy gz gS bU ij:FuncData)
 (dH dJ hG eQ eT iI cK fk dL:Tok)
structure Txt (w:World) (K:W.Frag) (mg:Str->Option Value) (t:Adr):Prop where
 iy:mg "Tent"=some (.ref t.ac)
 aj:Cls K t.ac
 bc:Xb K t.ac "cloths"
 aF:Xb K t.ac "names_at"
 aH:Xb K t.ac "spots"
 cL:Xb K t.ac "mates"
 eU:mg "Scene"=some (.ref t.ah)
 ao:Cls K t.ah
 aC:Xb K t.ah "tent"
 aG:Xb K t.ah "threads"
 aL:Xb K t.ah "pools"
 aW:Xb K t.ah "worths"
 gU:mg "Hall"=some (.ref t.ag)
 ai:Cls K t.ag
 bA:Xb K t.ag "began"
 aD:Xb K t.ag "scene"
 aP:Xb K t.ag "standing"
 cm:Xb K t.ag "undone"
 iX:FT K mg "after" Zlp ["place"] t.iw t.ix
 iO:FT K mg "before" Zji ["place"] t.ic t.ig
 aY:FT K mg "cloth_of" Ga ["place"] t.dQ t.ee
 eV:FT K mg "spots_of" K5 ["names_at"] t.dR t.eu
 eW:FT K mg "mates_of" K7 ["spots","count"] t.dU t.ez
 dC:FM K t.ac "__init__" "Tent.__init__" Kd ["self","rows"] t.bO t.dj
 bV:FM K t.ac "rows" "Tent.rows" Kb ["self"] t.cY t.dk
 bB:FM K t.ac "seams" "Tent.seams" Up ["self"] t.cw t.cD
 aq:FM K t.ac "has_place" "Tent.has_place" Ql ["self","place"] t.bf t.bq
 aI:FM K t.ac "look_place" "Tent.look_place" J3 ["self","place"] t.a8 t.bb
 il:FM K t.ac "seam_at" "Tent.seam_at" Fc ["self","place"] t.dW t.eA
 bd:FM K t.ac "places" "Tent.places" Uc ["self","seam"] t.b7 t.cf
 aM:FM K t.ac "mate" "Tent.mate" Kc ["self","place"] t.cZ t.dm
 aB:FM K t.ac "sort_of" "Tent.sort_of" Vi ["self","seam"] t.bP t.bT
 dD:FT K mg "crossable" O9 ["tent","place"] t.db t.dn
 fO:FT K mg "follows" F4 ["tent","ahead","place"] t.fw t.fG
 gV:FT K mg "plain" Zez ["tent","word"] t.gM t.gR
 cn:FT K mg "look_thread" V9 ["tent","word"] t.b8 t.cg
 gA:FT K mg "turned" Zcg ["word","by"] t.fZ t.gl
 bv:FT K mg "common_measure" Qk ["one","other"] t.bg t.br
 bL:FT K mg "look_fraction" Q4 ["top","bottom"] t.bG t.bJ
 eX:FT K mg "fraction" K9 ["top","bottom"] t.dX t.eB
 cM:FT K mg "sewn_seams" Um ["tent"] t.cx t.cE
 cp:FT K mg "even_worths" Ub ["tent"] t.b9 t.cj
 cQ:FT K mg "made_of" Fz ["text","signs"] t.fz t.fH
 cR:FT K mg "is_name" F3 ["text"] t.fA t.fI
 dE:FT K mg "is_number" O8 ["text"] t.dc t.dq
 fP:FT K mg "figures" F5 ["number"] t.fD t.fJ
 eY:FT K mg "row_text" K6 ["words"] t.dY t.eE
 fo:FT K mg "counts_text" Zbc ["counts"] t.fi t.fj
 aS:FM K t.ah "__init__" "Scene.__init__" Uq ["self","tent","threads","pools","worths"] t.bz t.cF
 bW:FT K mg "with_item" O4 ["table","name","value"] t.de t.dr
 bM:FT K mg "look_new_name" Q3 ["scene","name"] t.bH t.bK
 cq:FT K mg "look_length" Ua ["word"] t.ce t.ck
 cN:FT K mg "look_parts" Uo ["parts"] t.cy t.cG
 bX:FM K t.ag "__init__" "Hall.__init__" Ke ["self","rows"] t.bQ t.dv
 aJ:FM K t.ag "enter" "Hall.enter" Us ["self","text","scene"] t.cz t.cH
 cu:FM K t.ag "lay" "Hall.lay" Gd ["self","name","word"] t.dZ t.eF
 bD:FM K t.ag "weigh" "Hall.weigh" Ur ["self","seam","top","bottom"] t.cA t.cI
 dF:FM K t.ag "back" "Hall.back" Zea ["self"] t.f6 t.gm
 cO:FM K t.ag "again" "Hall.again" Zcp ["self"] t.fQ t.fS
 ay:FM K t.ag "deeds" "Hall.deeds" Ut ["self"] t.cB t.cJ
 au:FM K t.ag "tent_rows" "Hall.tent_rows" Qm ["self"] t.bi t.bt
 bY:FM K t.ag "numbers" "Hall.numbers" Fd ["self"] t.d0 t.eG
 af:FT K mg "look_form" O6 ["right"] t.df t.dw
 bw:FT K mg "name_in" Fy ["word"] t.fE t.fK
 ap:FT K mg "number_in" O5 ["word"] t.dg t.dy
 av:FT K mg "two_numbers_in" Qj ["word","sign"] t.bj t.bu
 dG:FT K mg "counts_in" Ka ["words"] t.dh t.dz
 eZ:FT K mg "lay_in" Zch ["words"] t.bR t.gn
 cS:FT K mg "pour_in" Fx ["words"] t.bn t.fL
 cT:FT K mg "lift_in" F0 ["words"] t.bo t.fM
 cv:FT K mg "weigh_in" K4 ["words"] t.aT t.eJ
 bx:FT K mg "turn_in" Fw ["words"] t.bp t.fN
 ax:FT K mg "deed_in" F6 ["text"] t.az t.aA
 b6:FT K mg "do_deed" Zhl ["hall","deed"] t.gZ t.g9
 gB:FT K mg "rows_text" Zd9 ["rows"] t.f7 t.gq
 cU:FT K mg "told_of" Zhj ["hall","word","name"] t.g8 t.hE
 e7:FT K mg "answered" Gc ["hall","order"] t.d6 t.eK
 bE:FT K mg "cloth_in" Gb ["row"] t.d7 t.eO
 aZ:FT K mg "cloth_rows_ahead" Jr ["rows"] t.aU t.aV
 im:FT K mg "read" Zhk ["text"] t.ie t.ii
 aK:FT K mg "_law_cell" Zco ["_law_script","_law_at"] t.f8 t.gr
 bZ:FT K mg "_law_numbers" O7 ["_law_cell_here","_law_many"] t.di t.dA
 gC:FT K mg "_law_sewn" Zcl ["_law_nums","_law_many","_law_share"] t.f9 t.gs
 gD:FT K mg "_law_rows" Zcm ["_law_mates","_law_start","_law_step"] t.gc t.gu
 gE:FT K mg "_law_tent" Zck ["_law_script"] t.gd t.gw
 gF:FT K mg "_law_walk" Zci ["_law_mates","_law_nums"] t.gf t.gx
 e8:FT K mg "_law_thread" K8 ["_law_script","_law_at","_law_mates"] t.d8 t.eP
 e9:FT K mg "_law_told" Zcj ["_law_hall","_law_order"] t.gg t.gy
 cP:FT K mg "_law_read" Zcn ["_law_text"] t.gh t.gz
 gW:FT K mg "_law_bad" Ze0 ["_law_pick","_law_seam","_law_place","_law_name"] t.gO t.gS
 b0:FT K mg "_law_bad_cloths" Vh ["_law_seam","_law_figures"] t.bS t.bU
 iF:FT K mg "law" Zk2 ["_law_script"] t.iD t.ij
 iz:Mk K t.ac t.bO
 fb:Mk K t.ah t.bz
 gX:Mk K t.ag t.bQ
 dM:mg "GREATEST_NAME"=some (.int 9999 t.dH)
 dO:mg "SMALL_LETTERS"=some (.str (Str.ofString "abcdefghijklmnopqrstuvwxyz") t.dJ)
 hJ:mg "FIGURES"=some (.str (Str.ofString "0123456789") t.hG)
 fc:mg "LONGEST_NAME"=some (.int 8 t.eQ)
 fg:mg "MOST_FIGURES"=some (.int 61 t.eT)
 ip:mg "PART"=some (.int 1000000000000000000000000000000000000000000000000000000000000 t.iI)
 gY:mg "WRITTEN_AT_ONCE"=some (.int 60 t.cK)
 fq:mg "MOST_PLACES"=some (.int 400 t.fk)
 dP:mg "GREATEST_PART"=some (.int 1000000000000000000000000000000000000000000000000000000000000 t.dL)
 hU:mg "CONTRARY_WAYS"=some (.ref t.bI)
 hV:Vb w K t.bI [(Sum.inr "left",.str "right"),(Sum.inr "right",.str "left")]
 al:mg "READERS"=some (.ref t.ae)
 am:Vb w K t.ae [(Sum.inr "lay",.ref t.bR),(Sum.inr "pour",.ref t.bn),(Sum.inr "lift",.ref t.bo),(Sum.inr "weigh",.ref t.aT),(Sum.inr "turn",.ref t.bp)]
 iA:mg "WAYS"=some (.ref t.fR)
 iB:KTup K t.fR ["left","right"]
 cV:mg "ASKED_BY_NAME"=some (.ref t.aE)
 cW:KTup K t.aE ["thread","least","pool"]
 bl:∀ (s:Shared) (u:Value),BindsTo s t.ij ⟨[u],[]⟩ [("_law_script",u)]
 iq:mg "all"=none
 ir:mg "dict"=none
 gG:mg "enumerate"=none
 iP:mg "int"=none
 fU:mg "isinstance"=none
 ak:mg "len"=none
 cX:mg "list"=none
 iQ:mg "max"=none
 bF:mg "range"=none
 fh:mg "reversed"=none
 iR:mg "set"=none
 gH:mg "sorted"=none
 iG:mg "str"=none
 i5:mg "sum"=none
 iC:mg "tuple"=none
 iS:mg "zip"=none
 gJ:mg "NoPlace"=some (.ref t.b5)
 hZ:ExcK K t.b5 bmV "ValueError.__new__"
 h9:mg "NoSeam"=some (.ref t.cC)
 iu:ExcK K t.cC bmV "ValueError.__new__"
 i4:mg "Rim"=some (.ref t.iE)
 i6:ExcK K t.iE bmV "ValueError.__new__"
 iL:mg "Locked"=some (.ref t.gj)
 iT:ExcK K t.gj bmV "ValueError.__new__"
 iU:mg "NoWay"=some (.ref t.gP)
 iY:ExcK K t.gP bmV "ValueError.__new__"
 gI:mg "NoThread"=some (.ref t.cr)
 gK:ExcK K t.cr bmV "ValueError.__new__"
 fu:mg "NoFraction"=some (.ref t.aQ)
 fV:ExcK K t.aQ bmV "ValueError.__new__"
 iH:mg "NoWorths"=some (.ref t.d9)
 iJ:ExcK K t.d9 bmV "ValueError.__new__"
 iM:mg "NoTent"=some (.ref t.gk)
 iV:ExcK K t.gk bmV "ValueError.__new__"
 b4:mg "BadOrder"=some (.ref t.aa)
 gL:ExcK K t.aa bmV "ValueError.__new__"
 fW:mg "TentError"=some (.ref t.a9)
 iK:mg "BadName"=some (.ref t.fF)
 iN:ExcK K t.fF bmV "ValueError.__new__"
 iW:mg "Taken"=some (.ref t.gQ)
 iZ:ExcK K t.gQ bmV "ValueError.__new__"
 aO:PySem.W.exmOne K (.ref t.aa) (.ref t.aa)=some true
 fX:PySem.W.exmOne K (.ref t.a9) (.ref t.a9)=some true
 fY:PySem.W.exmOne K (.ref t.a9) (.ref t.aa)=some false
def Same.add (s:Same H H1) (hp:H p=none):Same H (upd H1 p o):=λb u e=>by rw [Zh (Zr e hp)]; exact s b u e
def Same.new {H:Hp} {p:Addr} {o:HO} (hp:H p=none):Same H (upd H p o):=Same.add (Same.refl H) hp
def Yn (wn:St->Hp->Prop) (ht:∀ nx:St->Hp->Prop,(∀ σ H,wn σ H->nx σ H)->t { D with nx:=nx } σ H) (hu:∀ σ H,wn σ H->u D σ H):tSeq t u D σ H:=ht (u D) hu
def Zv (ht:∀ nx:St->Hp->Prop,(∀ σ H,u D σ H->nx σ H)->t { D with nx:=nx } σ H):tSeq t u D σ H:=ht (u D) λ_ _ h=>h
def Zdf (xs:List Int) (y:Int):xs.map V.int ++ [V.int y]=(xs ++ [y]).map V.int:=by simp
def getI {ns:List Int} (h:n < ns.length):(ns.map V.int)[n]?=some (V.int (ns.getD n 0)):=by
 rw [Ai,Ad h,Ae,Ad h];rfl
def cell (ns:List Int) (n:Int):Int:=if n < ns.length then ns.getD n.toNat 0 else if ns.length=0 then 31 * n + 7 else ns.getD (n % ns.length).toNat 0 % 1000003 + 101 * n
def Zlm (K:W.Frag):Sp:=λvs H Q _=>∃ (a:Addr) (ns:List Int) (n:Int),vs=[.ref a,.int n]/\SqL K H a (ns.map V.int)/\ns.length<=63/\0<=n/\n < 1000000/\Q (.int (cell ns n)) H
def Zfr:Sp:=λvs H Q _=>∃ (c:Int) (n:Nat),vs=[.int c,.int n]/\n<=60/\∀ (p:Addr) (xs:List Int) (H':Hp),Same H H'->H p=none->H' p=some (.lst (xs.map V.int))->xs.length=n->(∀ x∈xs,0<=x/\x < 1009)->Q (.ref p) H'
section
variable {P:Program} {w:World} {K:W.Frag} {mg:Str->Option Value} {base:Heap} {t:Adr}
def Zhi:FnScope ["_law_script","_law_at"] ["_law_script","_law_at"] (Zg Zco):=An
def Wf (T:Txt w K mg t):FnOk P w K mg base (CXr P w) 1 t.f8 t.gr ["_law_script","_law_at"] (Zlm K):=by
 refine T.aK.F.aR Zhi (λ_ _ _ _ H vs Q E hr h=>?_)
 ·obtain ⟨a,ns,n,rfl,hS,hl,h0,h1,k⟩:=h
  refine ⟨_,(Ze (Ym (Zy J7 (pv 1) (Zs Zn (by rfl) T.ak PySem.boot_len (Za (pv 0) Zb)) (Zx _)) (Zi (Zw (Zt Zo (pv 0) (pv 1) (λ_ _=>rfl)))) Yc)
   (Ze (Ym (Zy Y7 (Zs Zn (by rfl) T.ak PySem.boot_len (Za (pv 0) Zb)) Zd (Zx _)) (Zi (Zw (Zk Yo (Zk Wv Zd (pv 1)) Zd))) Yc)
   (Zi (Zw (Zk Yo (Zk Yh (Zt Zo (pv 0) (Zk Yh (pv 1) (Zs Zn (by rfl) T.ak PySem.boot_len (Za (pv 0) Zb))) (λ_ _=>rfl)) Zd) (Zk Wv Zd (pv 1))))))),?_⟩;have el:((ns.map V.int).length:Int)=ns.length:=by simp
  refine ⟨_,Z,_,Z,a,_,Z,.inl hS,_,_,Z,Z,_,Z,?_⟩;rw [el];refine ite2 (λh=>?_) (λh=>?_)
  ·have h:n < ns.length:=by simpa using h
   have e:cell ns n=ns.getD n.toNat 0:=if_pos h;have en:n=(n.toNat:Int):=by lia
   have ei:atI (ns.map V.int) n=some (V.int (ns.getD n.toNat 0)):=by rw [en]; exact Wm (getI (n:=n.toNat) (by lia))
   rw [e] at k;exact ⟨_,Z,_,Z,a,_,_,_,Z,Z,hS,ei,k⟩
  ·have h:¬ n < ns.length:=by simpa using h
   have e:cell ns n=if ns.length=0 then 31 * n + 7 else ns.getD (n % ns.length).toNat 0 % 1000003 + 101 * n:=if_neg h
   refine ⟨_,Z,a,_,Z,.inl hS,Z,_,Z,?_⟩;rw [el];refine ite2 (λg=>?_) (λg=>?_)
   ·have g:ns.length=0:=by simpa using g
    refine ⟨_,Z,_,_,Z,Z,.inl ⟨by decide,by decide⟩,_,_,Z,Z,?_⟩;rw [if_pos g] at e;rw [e] at k; exact k
   ·have g:¬ ns.length=0:=by simpa using g
    have gp:(0:Int) < ns.length:=by lia
    rw [if_neg g] at e;have m0:=Int.emod_nonneg n (show (ns.length:Int)≠0 by lia);have m1:=Int.emod_lt_of_pos n gp;refine ⟨_,Z,_,Z,_,Z,a,_,Z,.inl hS,_,_,Z,Z,(by rw [el]; exact gp),a,_,_,_,Z,Z,hS,(?_:atI _ _=some (V.int (ns.getD (n % ns.length).toNat 0))),_,_,Z,Z,(by show (0:Int) < 1000003; decide),_,rfl,_,_,rfl,rfl,.inl ⟨by decide,by decide⟩,_,_,rfl,rfl,?_⟩
    ·rw [el]
     have en:n % (ns.length:Int)=((n % (ns.length:Int)).toNat:Int):=by lia
     rw [en];exact Wm (getI (by lia))
    ·rw [e] at k; exact k
def X8:FnScope ["_law_cell_here","_law_many","_law_row","_law_rest","_law_seed"] ["_law_cell_here","_law_many"] (Zg O7):=An
def U0 (T:Txt w K mg t):FnOk P w K mg base (CXr P w) 1 t.di t.dA ["_law_cell_here","_law_many"] Zfr:=by
 refine T.bZ.F.aR X8 (λ_ _ _ _ H vs Q E hr h=>?_)
 ·obtain ⟨c,n,rfl,hn60,k⟩:=h
  refine ⟨_,(Ze (Zj (i:=2) X8.nd Z (Or.inl Z) (Ya Zb))
   (Ze (Zj (i:=3) X8.nd rfl (Or.inl rfl) (Zk Zh1 (pv 0) (Zk Znk Zd Zd)))
   (Ze (Jf PassesOwn.never (PW.pt (Gf (Zy Q6 (pv 3) Zd (Zx _)) (Oe (Zy J7 (Zs Zn (by rfl) T.ak PySem.boot_len (Za (pv 2) Zb)) (pv 1) (Zx _))))) (Ze (Yw (Y4 PySem.F.plainAttrs_list PySem.F.slot_list_append PySem.F.type_list_append Xq (pv 2) (Za (Zk Yh (pv 3) Zd) Zb)))
   (Zi (Zj (i:=3) X8.nd rfl (Or.inl rfl) (Zk Wa (pv 3) Zd)))))
   (Ze (Zj (i:=4) X8.nd rfl (Or.inl rfl) (Zk Yh (pv 0) Zd))
   (Ze (Jf PassesOwn.never (Zy J7 (Zs Zn (by rfl) T.ak PySem.boot_len (Za (pv 2) Zb)) (pv 1) (Zx _)) (Ze (Zj (i:=4) X8.nd rfl (Or.inl rfl) (Zk Yh (Zk Yo (Zk Yo (Zk Wv (pv 4) Zd) Zd) (Zs Zn (by rfl) T.ak PySem.boot_len (Za (pv 2) Zb))) Zd))
   (Zi (Yw (Y4 PySem.F.plainAttrs_list PySem.F.slot_list_append PySem.F.type_list_append Xq (pv 2) (Za (Zk Yh (Zk Wa (Zk Yh (Zk Wv (pv 4) Zd) Zd) Zd) Zd) Zb))))))
   (Zi (Zw (pv 2)))))))),?_⟩;refine ⟨A0 _,λr n6=>?_⟩;refine ⟨_,Z,_,_,Z,Z,⟨by decide,by decide,by decide⟩,_,_,Z,Z,?_⟩;show tSeq (Kx _ _) _ _ _ _;refine Yn (λσ H1=>∃ (xs:List Int) (rest:Int),σ=[some (.int c),some (.int n),some (.ref r),some (.int rest),none]/\Same H H1/\H1 r=some (.lst (xs.map V.int))/\xs.length<=n/\(∀ x∈xs,0<=x/\x < 1009)) (λnx jr=>?_) ?_
  ·refine ⟨λm σ H1=>∃ (xs:List Int) (rest:Int),m=n - xs.length/\σ=[some (.int c),some (.int n),some (.ref r),some (.int rest),none]/\Same H H1/\H1 r=some (.lst (xs.map V.int))/\xs.length<=n/\(∀ x∈xs,0<=x/\x < 1009),
    ⟨n,[],_,rfl,rfl,Same.new n6,Zc,A0 _,λx hx=>absurd hx (by simp)⟩,?_⟩
   rintro m σ H1 ⟨xs,rest,rfl,rfl,sm,h1,hl,hx⟩;have el:((xs.map V.int).length:Int)=xs.length:=by simp
   refine ⟨_,Z,_,_,Z,Z,_,Z,?_⟩;refine ite2 (λ_=>?_) (λ_=>?_)
   ·refine ⟨_,Z,r,_,Z,.inl (SqL.of h1),_,Z,_,_,Z,Z,_,Z,?_⟩
    rw [el];refine ite2 (λg=>?_) (λ_=>?_)
    ·have g:(xs.length:Int) < n:=by simpa using g
     refine ⟨_,λσ' H' h=>h,?_⟩;refine ⟨_,Z,.inl ⟨Z,_,SqL.of h1⟩,_,Z,_,_,Z,Z,(by show (0:Int) < 1009; decide),r,_,_,rfl,rfl,h1,(by rw [Ac]; exact Z5 (by lia)),?_⟩;refine ⟨_,Z,_,_,Z,Z,⟨by decide,by decide⟩,?_⟩;refine ⟨n - (xs ++ [rest % 1009]).length,?_,xs ++ [rest % 1009],_,Z,Z,Same.add sm n6,?_,?_,?_⟩
     ·rw [Af,Au]; lia
     ·rw [Zc,<- Zdf]
     ·rw [Af,Au]; lia
     ·intro x hm
      rcases List.mem_append.mp hm with z | z
      ·exact hx x z
      ·have:x=rest % 1009:=by simpa using z
       subst this;lia
    ·exact jr _ _ ⟨xs,rest,Z,sm,h1,hl,hx⟩
   ·exact jr _ _ ⟨xs,rest,Z,sm,h1,hl,hx⟩
  rintro σ H1 ⟨xs,rest,rfl,sm,h1,hl,hx⟩;refine ⟨_,Z,_,_,Z,Z,(by show (0:Int) < 2147483629; decide),?_⟩;show tSeq (Kx _ _) _ _ _ _;refine Yn (λσ H1=>∃ (xs:List Int) (rest l5:Int),σ=[some (.int c),some (.int n),some (.ref r),some (.int rest),some (.int l5)]/\Same H H1/\H1 r=some (.lst (xs.map V.int))/\xs.length=n/\(∀ x∈xs,0<=x/\x < 1009)) (λnx jr=>?_) ?_
  ·refine ⟨λm σ H1=>∃ (xs:List Int) (rest l5:Int),m=n - xs.length/\σ=[some (.int c),some (.int n),some (.ref r),some (.int rest),some (.int l5)]/\Same H H1/\H1 r=some (.lst (xs.map V.int))/\xs.length<=n/\(∀ x∈xs,0<=x/\x < 1009),
    ⟨n - xs.length,xs,rest,_,rfl,rfl,sm,h1,hl,hx⟩,?_⟩
   clear h1 hl hx sm xs rest;rintro m σ H1 ⟨xs,rest,l5,rfl,rfl,sm,h1,hl,hx⟩;have el:((xs.map V.int).length:Int)=xs.length:=by simp
   refine ⟨_,Z,r,_,Z,.inl (SqL.of h1),_,Z,_,_,Z,Z,_,Z,?_⟩;rw [el];refine ite2 (λg=>?_) (λg=>?_)
   ·have g:(xs.length:Int) < n:=by simpa using g
    refine ⟨_,λσ' H' h=>h,?_⟩;refine ⟨_,Z,_,_,Z,Z,.inr ⟨by decide,by decide⟩,_,_,Z,Z,_,Z,r,_,Z,.inl (SqL.of h1),_,_,Z,Z,_,_,Z,Z,(by show (0:Int) < 2147483647; decide),?_⟩;obtain ⟨y,hy⟩:∃ y,y=(l5 * 48271 + 12345 + ((xs.map V.int).length:Int)) % 2147483647 * 69621 % 2147483629 / 7 % 1009:=⟨_,rfl⟩;refine ⟨_,Z,.inl ⟨Z,_,SqL.of h1⟩,_,Z,_,_,Z,Z,.inr ⟨by decide,by decide⟩,_,_,Z,Z,(by show (0:Int) < 2147483629; decide),_,_,rfl,rfl,⟨by decide,by decide⟩,_,_,rfl,rfl,(by show (0:Int) < 1009; decide),r,_,_,rfl,rfl,h1,(by rw [Ac]; exact Z5 (by lia)),?_⟩;refine ⟨n - (xs ++ [y]).length,?_,xs ++ [y],_,_,Z,Z,Same.add sm n6,?_,?_,?_⟩
    ·rw [Af,Au]; lia
    ·rw [Zc,<- Zdf,hy]
    ·rw [Af,Au]; lia
    ·intro x hm
     rcases List.mem_append.mp hm with z | z
     ·exact hx x z
     ·have:x=y:=by simpa using z
      rw [this,hy];exact ⟨Int.emod_nonneg _ (by decide),Int.emod_lt_of_pos _ (by decide)⟩
   ·have g:¬ (xs.length:Int) < n:=by simpa using g
    exact jr _ _ ⟨xs,rest,l5,Z,sm,h1,by lia,hx⟩
  rintro σ H1 ⟨xs,rest,l5,rfl,sm,h1,hl,hx⟩;exact ⟨_,Z,k r xs H1 sm n6 h1 hl hx⟩
def Zlj (K:W.Frag):Sp:=λvs H Q _=>∃ (a:Addr) (xs:List Int) (n:Nat) (sh:Int),vs=[.ref a,.int n,.int sh]/\H a=some (.lst (xs.map V.int))/\xs.length=60/\(∀ x∈xs,0<=x/\x < 1009)/\1<=n/\n<=14 /\
 ∀ (p:Addr) (M:List (Option Nat)) (H':Hp),Same H H'->H p=none->H' p=some (.lst (M.map mV))->M.length=3 * n->(∀ (i j:Nat),M[i]?=some (some j)->M[j]?=some (some i)/\i≠j)->Q (.ref p) H'
def map_set {α:Type} (f:α->V) (l:List α) (i:Nat) (x:α):(l.map f).set i (f x)=(l.set i x).map f:=by rw [List.map_set]
def Oh (h:i < n):ixN n (i:Int)=some i:=by
 unfold ixN;simp;lia
theorem Zir {α β:Type} (f:α->β):∀ (l:List α) (i:Nat),(l.map f).eraseIdx i=(l.eraseIdx i).map f
 | [],_=>rfl
 | _ :: _,0=>rfl
 | a :: r,i + 1=>by rw [List.map_cons,List.eraseIdx_cons_succ,Zir f r i,List.eraseIdx_cons_succ,List.map_cons]
def natV (F:List Nat) (i:Nat):(F.map λ(j:Nat)=>V.int j)[i]?=(F[i]?).map λ(j:Nat)=>V.int j:=Ai ..
def We:FnScope ["_law_nums","_law_many","_law_share","_law_mates","_law_free","_law_at","_law_one","_law_pick","_law_other"] ["_law_nums","_law_many","_law_share"] (Zg Zcl):=An
def Zh7 (T:Txt w K mg t):FnOk P w K mg base (CXr P w) 1 t.f9 t.gs ["_law_nums","_law_many","_law_share"] (Zlj K):=by
 refine T.gC.F.aR We (λ_ _ _ _ H vs Q E hr h=>?_)
 ·obtain ⟨a,xs,n,sh,rfl,ha,hl,hx,h1,h2,k⟩:=h
  refine ⟨_,(Ze (Zj (i:=3) We.nd Z (Or.inl Z) (Zk Zh2 (Ya (Za Vl Zb)) (Zk Wv Zd (pv 1))))
   (Ze (Zj (i:=4) We.nd rfl (Or.inl rfl) (Zcz rfl T.cX rfl T.bF rfl (Za (Zk Wv Zd (pv 1)) Zb)))
   (Ze (Zj (i:=5) We.nd rfl (Or.inl rfl) Zd)
   (Ze (Jf PassesOwn.never (Zy Q6 (Zs Zn (by rfl) T.ak PySem.boot_len (Za (pv 4) Zb)) Zd (Zx _)) (Ze (Zj (i:=6) We.nd rfl (Or.inl rfl) (Y4 PySem.F.plainAttrs_list PySem.F.slot_list_pop PySem.F.type_list_pop Zdd (pv 4) (Za Zd Zb)))
   (Ze (Zj (i:=7) We.nd rfl (Or.inl rfl) (Zt Zo (pv 0) (pv 5) (λ_ _=>rfl)))
   (Ze (Zj (i:=5) We.nd rfl (Or.inl rfl) (Zk Yo (pv 5) Zd))
   (Zi (Ym (Zy Zbk (Zk Yh (pv 7) Zd) (pv 2) (Zx _)) (Ze (Zj (i:=8) We.nd rfl (Or.inl rfl) (Y4 PySem.F.plainAttrs_list PySem.F.slot_list_pop PySem.F.type_list_pop Zdd (pv 4) (Za (Zk Yh (Zk Wa (pv 7) Zd) (Zs Zn (by rfl) T.ak PySem.boot_len (Za (pv 4) Zb))) Zb)))
   (Ze (Uw (pv 8) (Gh (pv 3) (pv 6) Vs))
   (Zi (Uw (pv 6) (Gh (pv 3) (pv 8) Vs))))) Yc))))))
   (Zi (Zw (pv 3))))))),?_⟩;refine ⟨(by show 1<=sizeLine; decide),λq hq=>?_⟩;refine ⟨_,Z,_,_,Z,Z,.inl ⟨by decide,by decide⟩,q,_,_,Z,Z,Zc,(by lia),(by lia),?_,λm hm=>?_⟩
  ·have:(3 * (n:Int)).toNat=3 * n:=by lia
   show 1 * (3 * (n:Int)).toNat<=sizeLine;rw [this,sizeLine_eq]; lia
  have eN:(3 * (n:Int)).toNat=3 * n:=by lia
  have eM:(List.replicate (3 * (n:Int)).toNat [V.non]).flatten=(List.replicate (3 * n) (none:Option Nat)).map mV:=by
   rw [eN,List.flatten_replicate_singleton,List.map_replicate];rfl
  refine ⟨_,Z,_,_,Z,Z,.inl ⟨by decide,by decide⟩,3 * n,(congrArg (λz=>[V.int z]) (by lia:(3 * (n:Int))=((3 * n:Nat):Int))),by lia,λf hf=>?_⟩;have ph:f≠m:=λz=>by rw [z,Zc] at hf; cases hf
  have md:H m=none:=by
   have:m≠q:=λz=>by rw [z,Zc] at hm; cases hm
   rw [Zh this] at hm; exact hm
  have mf:H f=none:=by
   rw [Zh ph] at hf;have:f≠q:=λz=>by rw [z,Zc] at hf; cases hf
   rw [Zh this] at hf; exact hf
  have sm0:Same H (upd (upd (upd H q (.lst [.non])) m (.lst (List.replicate (3 * (n:Int)).toNat [V.non]).flatten)) f (.lst ((List.range (3 * n)).map λ(i:Nat)=>V.int i))):=Same.add (Same.add (Same.new hq) md) mf;show tSeq (Kx _ _) _ _ _ _;refine Yn (λσ H1=>∃ (M:List (Option Nat)) (v4 v5 v6 v7 v8:Option V),σ=[some (.ref a),some (.int n),some (.int sh),some (.ref m),v4,v5,v6,v7,v8]/\Same H H1/\H1 m=some (.lst (M.map mV))/\M.length=3 * n/\∀ (i j:Nat),M[i]?=some (some j)->M[j]?=some (some i)/\i≠j) (λnx jr=>?_) ?_
  ·refine ⟨λc σ H1=>∃ (F:List Nat) (M:List (Option Nat)) (at':Nat) (v6 v7 v8:Option V),c=F.length/\σ=[some (.ref a),some (.int n),some (.int sh),some (.ref m),some (.ref f),some (.int at'),v6,v7,v8]/\Same H H1/\H1 m=some (.lst (M.map mV))/\H1 f=some (.lst (F.map λ(i:Nat)=>V.int i))/\SewOk (3 * n) F M/\at' + F.length<=3 * n,
    ⟨_,List.range (3 * n),List.replicate (3 * n) none,0,none,none,none,rfl,rfl,sm0,?_,Zc,SewOk.start _,by simp⟩,?_⟩
   ·rw [Zh ph.symm,Zc,eM]
   rintro c σ H1 ⟨F,M,at',v6,v7,v8,rfl,rfl,sm,g1,g2,hs,vm⟩;refine ⟨_,Z,f,_,Z,.inl (SqL.of g2),_,_,Z,Z,_,Z,?_⟩;rw [Ac];refine ite2 (λg=>?_) (λg=>?_)
   ·have g:1 < F.length:=by have:=of_decide_eq_true g; lia
    obtain ⟨one,F',rfl⟩:∃ one F',F=one :: F':=by
     cases F with
     | nil=>simp at g
     | cons a b=>exact ⟨a,b,Z⟩
    rw [List.length_cons] at g vm;refine ⟨_,λσ' H' h=>h,?_⟩;refine ⟨_,Z,.inl ⟨Z,_,SqL.of g2⟩,f,_,0,0,V.int one,Z,Z,g2,by decide,by decide,(by simp [seqIndex?]),Z,?_⟩;have e0:((one :: F').map λ(i:Nat)=>V.int i).eraseIdx 0=F'.map λ(i:Nat)=>V.int i:=rfl;rw [e0];have vq:(upd H1 f (.lst (F'.map λ(i:Nat)=>V.int i))) f=some (.lst (F'.map λ(i:Nat)=>V.int i)):=Zc;have g1':(upd H1 f (.lst (F'.map λ(i:Nat)=>V.int i))) m=some (.lst (M.map mV)):=by rw [Zh ph.symm]; exact g1
    have w5:Same H (upd H1 f (.lst (F'.map λ(i:Nat)=>V.int i))):=Same.add sm mf;generalize upd H1 f (.lst (F'.map λ(i:Nat)=>V.int i))=H2 at g1' vq w5 ⊢;have oy:at' < xs.length:=by lia
    refine ⟨_,Z,_,Z,a,_,_,_,Z,Z,SqL.of (w5 _ _ ha),Wm (getI oy),?_⟩;obtain ⟨p0,p1⟩:=hx _ (List.getElem_mem oy);have ep:xs.getD at' 0=xs[at']:=by rw [Ae,Ad oy]; rfl
    rw [ep];generalize xs[at']=kg at p0 p1 ⊢;refine ⟨_,Z,_,_,Z,Z,?_⟩;refine ⟨_,Z,_,_,Z,Z,(by show (0:Int) < 7; decide),_,rfl,_,_,rfl,rfl,_,rfl,?_⟩;refine ite2 (λ_=>?_) (λ_=>?_)
    ·-- other=free.pop(..)
     have hF:(0:Int) < F'.length:=by lia
     have k0:=Int.emod_nonneg (kg / 7) (show (F'.length:Int)≠0 by lia);have k1:=Int.emod_lt_of_pos (kg / 7) hF;obtain ⟨kk,ve⟩:∃ kk:Nat,kg / 7 % (F'.length:Int)=kk:=⟨_,(Int.toNat_of_nonneg k0).symm⟩;have kz:kk < F'.length:=by lia
     refine ⟨_,Z,.inl ⟨Z,_,SqL.of vq⟩,_,Z,_,_,Z,Z,⟨by decide,by decide⟩,_,Z,f,_,Z,.inl (SqL.of vq),_,_,Z,Z,(by rw [Ac]; exact hF),f,_,_,kk,V.int F'[kk],Z,Z,vq,?_,?_,?_,?_,?_⟩
     ·rw [Ac,ve]; lia
     ·rw [Ac,ve]; lia
     ·rw [Ac,ve]; simp [seqIndex?]; lia
     ·rw [natV,Ad kz]; rfl
     have e1:(F'.map λ(i:Nat)=>V.int i).eraseIdx kk=(F'.eraseIdx kk).map λ(i:Nat)=>V.int i:=by rw [Zir]
     rw [e1];have hp:=hs.pair (Ad kz);have l1:one < M.length:=by rw [hs.len]; exact (hs.free one List.mem_cons_self).1
     have l2:F'[kk] < M.length:=by rw [hs.len]; exact (hs.free _ (List.mem_cons_of_mem _ (List.getElem_mem kz))).1
     have g1'':(upd H2 f (.lst ((F'.eraseIdx kk).map λ(i:Nat)=>V.int i))) m=some (.lst (M.map mV)):=by rw [Zh ph.symm]; exact g1'
     refine ⟨_,Z,_,Z,_,Z,m,_,_,one,Z,Z,g1'',(by rw [Ac]; exact Oh l1),?_⟩;refine ⟨_,Z,_,Z,_,Z,m,_,_,F'[kk],Z,Z,Zc,(by rw [List.length_set,Ac]; exact Oh l2),?_⟩;refine ⟨(F'.eraseIdx kk).length,?_,F'.eraseIdx kk,(M.set one (some F'[kk])).set F'[kk] (some one),at' + 1,_,_,_,Z,Z,Same.add (Same.add (Same.add w5 mf) md) md,?_,?_,hp,?_⟩
     ·rw [List.length_eraseIdx_of_lt kz,List.length_cons]; lia
     ·rw [Zc]
      show some (HO.lst (((M.map mV).set one (mV (some F'[kk]))).set F'[kk] (mV (some one))))=_;rw [map_set,map_set]
     ·rw [Zh ph,Zh ph,Zc]
     ·rw [List.length_eraseIdx_of_lt kz]; lia
    ·exact ⟨F'.length,by rw [List.length_cons]; lia,F',M,at' + 1,_,_,_,rfl,rfl,w5,g1',vq,hs.skip,by lia⟩
   ·exact jr _ _ ⟨M,_,_,_,_,_,Z,sm,g1,hs.len,hs.inv⟩
  rintro σ H1 ⟨M,v4,v5,v6,v7,v8,rfl,sm,g1,uu,vg⟩;exact ⟨_,Z,k m M H1 sm md g1 uu vg⟩
def figS (i:Int):Str:=Txt.join (Str.ofString "") [(Str.ofString (toString i))]
def Zfx:Sp:=λvs H Q _=>∃ i:Int,vs=[.int i]/\0<=i/\i < 1000000000000000000000000000000000000000000000000000000000000/\∀ H',Same H H'->Q (.str (figS i)) H'
def mdL (x y:Str):List Bool:=x.cps.toList.map λc=>Txt.contains y ⟨#[c]⟩
def Zft:Sp:=λvs H Q _=>∃ x y:Str,vs=[.str x,.str y]/\x.cps.all (· < 128)=true/\x.cps.size<=900/\∀ H',Same H H'->Q (.bl ((mdL x y).all id)) H'
def Zpd:(10:Int) ^ 60=1000000000000000000000000000000000000000000000000000000000000:=by decide
def Zn5:(2:Nat) ^ 200=1606938044258990275541962092341162602522202993782792835301376:=by decide
def Fn {i:Int} (h0:0<=i) (h1:i < 1000000000000000000000000000000000000000000000000000000000000):(Str.ofString (toString i)).length<=60:=PyProof.Rows.toString_length_le h0 (by decide) (by rw [Zpd]; exact h1)
def Zj9 {x:Str} {g:TG} {tt:TT} {tb:TB} {R:St->Hp->Prop} {σ:St} {H:Hp} (Pv:Nat->St->Hp->Prop) (h0:Pv 0 σ H)
  (hs:∀ (i:Nat) c σ H,x.cps[i]?=some c->Pv i σ H->g (.str ⟨#[c]⟩) σ H λσ2 H2=>tt σ2 H2 λb H3=>if b=true then tb σ2 H3 (Pv (i + 1)) else Pv (i + 1) σ2 H3) (hd:∀ σ H,Pv x.cps.size σ H->R σ H):Wz (Its x) g tt tb R σ H:=by
 refine ⟨λi m σ H=>m=x.cps.size - i/\i<=x.cps.size/\Pv i σ H,⟨x.cps.size,by simp,A0 _,h0⟩,?_⟩;rintro i m σ H ⟨rfl,hi,p⟩;by_cases jh:i < x.cps.size
 ·refine .inr ⟨jh,Pv (i + 1),λσ' H' p'=>⟨x.cps.size - (i + 1),by lia,Z,jh,p'⟩,λy H' z=>?_⟩
  obtain ⟨e,c,hc,ec⟩:=z;subst e ec;exact hs i c σ _ hc p
 ·have e:i=x.cps.size:=by lia
  subst e;exact .inl ⟨Ao _,hd σ H p⟩
def Vt:FnScope ["number","parts"] ["number"] (Zg F5):=An
def Zgd (T:Txt w K mg t):FnOk P w K mg base (CXr P w) 1 t.fD t.fJ ["number"] Zfx:=by
 refine T.fP.F.aR Vt (λ_ _ _ _ H vs Q E hr h=>?_)
 ·obtain ⟨i,rfl,h0,h1,k⟩:=h
  have hu:=Qa hr;refine ⟨_,(Ze (Zj (i:=1) Vt.nd Z (Or.inl Z) (Ya Zb))
   (Ze (Jf PassesOwn.never (Zy Zbk (pv 0) (Yg (v:=.int 1000000000000000000000000000000000000000000000000000000000000) rfl T.ip ⟨_,rfl⟩) (Zx _)) (Ze Zjn
   (Zi (Zhp (i:=0) Vt.nd rfl (Or.inl rfl) (Yg (v:=.int 1000000000000000000000000000000000000000000000000000000000000) rfl T.ip ⟨_,rfl⟩) Zkf))))
   (Ze (Yw (Y4 PySem.F.plainAttrs_list PySem.F.slot_list_append PySem.F.type_list_append Xq (pv 1) (Za (Xj Zdn (by rfl) T.iG PySem.Pv.boot_str (Za (pv 0) Zb)) Zb)))
   (Zi (Zw (Zf9 rfl T.fh (by rfl) Zl (Za (pv 1) Zb))))))),?_⟩
  refine Zv λnxC i8=>?_;refine ⟨A0 _,λp hp=>?_⟩;refine i8 _ _ ?_;have s1:Same H (upd H p (.lst [])):=Same.new hp;have h2:(upd H p (.lst [])) p=some (.lst []):=Zc;generalize upd H p (.lst [])=H1 at s1 h2 ⊢
  try dsimp only [Z2]
  refine Yn (λσ H'=>σ=[some (.int i),some (.ref p)]/\H'=H1) (λnx jr=>?_) ?_
  ·refine ⟨λm σ H'=>σ=[some (.int i),some (.ref p)]/\H'=H1,⟨0,Z,Z⟩,?_⟩
   rintro m σ H' ⟨rfl,rfl⟩;refine ⟨_,Z,_,_,Z,Z,_,Z,?_⟩;rw [decide_eq_false (by lia)];exact iteF (jr _ _ ⟨Z,Z⟩)
  rintro σ H' ⟨rfl,rfl⟩;have hlog:i.natAbs.log2 < 1920:=by
   rcases Nat.eq_zero_or_pos i.natAbs with z | z
   ·rw [z]; decide
   ·exact (Nat.log2_lt (by lia)).mpr (Ah (by rw [Zn5]; lia:i.natAbs < 2 ^ 200) (Nat.pow_le_pow_right (by decide) (by decide)))
  have jb:(Str.ofString (toString i)).length<=60:=Fn h0 h1;refine Zv λnxC i8=>?_;refine ⟨_,Z,.inl ⟨Z,_,SqL.of h2⟩,_,Z,i,Z,hlog,p,_,_,Z,Z,h2,Z5 (by decide),?_⟩;refine i8 _ _ ?_;refine ⟨_,Z,_,Z,p,[(Str.ofString (toString i))],Z,SqL.of Zc,by decide,(by show ((Str.ofString (toString i)).length + 0) + 1<=1048576; lia),?_⟩;exact k _ (Same.add s1 hp)
def Zf6:FnScope ["text","signs"] ["text","signs"] (Zg Fz):=An
def Gn (T:Txt w K mg t):FnOk P w K mg base (CXr P w) 1 t.fz t.fH ["text","signs"] Zft:=by
 refine T.cQ.F.aR Zf6 (λ_ _ _ _ H vs Q E hr h=>?_)
 ·obtain ⟨x,y,rfl,hx,hz,k⟩:=h
  refine ⟨_,(Zi (Zw (Zs (Kv Z) (by rfl) T.iq PyProof.Rows.boot_all (Za (Wg (ts:=["sign"]) (fv:=[("signs",1)]) ⟨rfl,by decide +kernel,by decide +kernel,Yy (by rfl),⟨⟨rfl,rfl,Or.inl rfl⟩,trivial⟩⟩ rfl (Znf (pv 0)) (λ_ _ _ _=>(Z0 (i:=0) (show List.Nodup (["sign","signs"]:List Str) from by decide +kernel) rfl (Or.inl rfl) (Or.inr rfl))) (λ_ _ _ _=>Y8) (λ_ _ _=>rfl) (λ_ _ _ _ _ _=>Xt (Y2 Znl (pv 0) (pv 1) (by with_unfolding_all rfl)))) Zb)))),?_⟩;refine ⟨_,Z,x,Z,hx,λD hD=>?_⟩;refine Zj9 (λi σ H6=>∃ v,σ=[v,some (.str y)]/\Same H H6/\H6 D=some (.lst (((mdL x y).take i).map V.bl))) ⟨none,Z,Same.new hD,Zc⟩ ?_ ?_
  ·rintro i c σ H6 hc ⟨v,rfl,s6,h6⟩
   have qq:i < x.cps.size:=(Array.getElem?_eq_some_iff.mp hc).1;have hm:(mdL x y)[i]?=some (Txt.contains y ⟨#[c]⟩):=by
    unfold mdL
    rw [Ai,Array.getElem?_toList,hc]
    rfl
   dsimp only [Z2,tYes];rw [if_pos rfl];refine ⟨_,Z,_,Z,_,_,Z,Z,_,h6,by rw [Ac,Aj]; exact Z5 (by lia),_,Z,Same.add s6 hD,?_⟩;rw [Zc,Ax,hm,Ak];rfl
  ·rintro σ H6 ⟨v,rfl,s6,h6⟩
   have hl:(mdL x y).length=x.cps.size:=by unfold mdL; rw [Ac,Array.length_toList]
   rw [<- hl,List.take_length] at h6;exact ⟨D,_,Z,SqL.of h6,k _ s6⟩
def V0 (Pv:Nat->St->Hp->Prop) (h0:Pv 0 σ H)
  (hs:∀ (i:Nat) σ H,i < n->Pv i σ H->g (.int (lo + i)) σ H λσ2 H2=>tt σ2 H2 λb H3=>if b=true then tb σ2 H3 (Pv (i + 1)) else Pv (i + 1) σ2 H3) (hd:∀ σ H,Pv n σ H->R σ H):Wz (Itr lo n) g tt tb R σ H:=by
 refine ⟨λi m σ H=>m=n - i/\i<=n/\Pv i σ H,⟨n,by simp,A0 _,h0⟩,?_⟩;rintro i m σ H ⟨rfl,hi,p⟩;by_cases jh:i < n
 ·refine .inr ⟨jh,Pv (i + 1),λσ' H' p'=>⟨n - (i + 1),by lia,Z,jh,p'⟩,λx H' y=>?_⟩
  obtain ⟨e,y⟩:=y;subst e y;exact hs i σ _ jh p
 ·have e:i=n:=by lia
  subst e;exact .inl ⟨Ao _,hd σ H p⟩
def Y3 {xs:List V} (Pv:Nat->St->Hp->Prop) (h0:Pv 0 σ H) (hl:∀ i σ H,i<=xs.length->Pv i σ H->SqL K H a xs)
  (hs:∀ (i:Nat) x σ H,xs[i]?=some x->Pv i σ H->g x σ H λσ2 H2=>tt σ2 H2 λb H3=>if b=true then tb σ2 H3 (Pv (i + 1)) else Pv (i + 1) σ2 H3) (hd:∀ σ H,Pv xs.length σ H->R σ H):Wz (Itl K a) g tt tb R σ H:=by
 refine ⟨λi m σ H=>m=xs.length - i/\i<=xs.length/\Pv i σ H,⟨xs.length,by simp,A0 _,h0⟩,?_⟩;rintro i m σ H ⟨rfl,hi,p⟩;have q:=hl i σ H hi p;by_cases jh:i < xs.length
 ·refine .inr ⟨⟨xs,xs[i],q,by simp [jh]⟩,Pv (i + 1),λσ' H' p'=>⟨xs.length - (i + 1),by lia,Z,jh,p'⟩,λx H' y=>?_⟩
  obtain ⟨e,y⟩:=y;subst e;exact hs i x σ _ (y xs q) p
 ·have e:i=xs.length:=by lia
  subst e;exact .inl ⟨⟨xs,q,Ao _⟩,hd σ H p⟩
def Zj8 {xs:List V} (Pv:Nat->St->Hp->Prop) (h0:Pv 0 σ H) (hl:∀ i σ H,i<=xs.length->Pv i σ H->SqT K H a xs)
  (hs:∀ (i:Nat) x σ H,xs[i]?=some x->Pv i σ H->g x σ H λσ2 H2=>tt σ2 H2 λb H3=>if b=true then tb σ2 H3 (Pv (i + 1)) else Pv (i + 1) σ2 H3) (hd:∀ σ H,Pv xs.length σ H->R σ H):Wz (Itt K a) g tt tb R σ H:=by
 refine ⟨λi m σ H=>m=xs.length - i/\i<=xs.length/\Pv i σ H,⟨xs.length,by simp,A0 _,h0⟩,?_⟩;rintro i m σ H ⟨rfl,hi,p⟩;have q:=hl i σ H hi p;by_cases jh:i < xs.length
 ·refine .inr ⟨⟨xs,xs[i],q,by simp [jh]⟩,Pv (i + 1),λσ' H' p'=>⟨xs.length - (i + 1),by lia,Z,jh,p'⟩,λx H' y=>?_⟩
  obtain ⟨e,y⟩:=y;subst e;exact hs i x σ _ (y xs q) p
 ·have e:i=xs.length:=by lia
  subst e;exact .inl ⟨⟨xs,q,Ao _⟩,hd σ H p⟩
def row3 (ns:List Int) (k:Nat):List V:=[.int (ns.getD (3 * k) 0),.int (ns.getD (3 * k + 1) 0),.int (ns.getD (3 * k + 2) 0)]
def Xa (H:Hp) (r:Addr) (ns:List Int):Prop:=∃ ts:List Addr,H r=some (.lst (ts.map V.ref))/\ns.length=3 * ts.length/\∀ (k:Nat) (t:Addr),ts[k]?=some t->H t=some (.tup (row3 ns k))
def Xa.same (h:Xa H r ns) (s:Same H H'):Xa H' r ns:=by
 obtain ⟨ts,h1,h2,h3⟩:=h;exact ⟨ts,s _ _ h1,h2,λk t e=>s _ _ (h3 k t e)⟩
def Zlk:Sp:=λvs H Q _=>∃ (a:Addr) (M:List (Option Nat)) (n:Nat) (st sp:Int),vs=[.ref a,.int st,.int sp]/\H a=some (.lst (M.map mV))/\M.length=3 * n/\1<=n/\n<=14/\(∀ (i j:Nat),M[i]?=some (some j)->M[j]?=some (some i)/\i≠j)/\sp∈Vq /\
 ∀ (p:Addr) (H':Hp),Same H H'->H p=none->Xa H' p (flat M st sp)->Q (.ref p) H'
def Oy {t:Int} (h:t∈Vq):-(2 ^ 64) < t/\t < 2 ^ 64:=by
 simp only [Vq,List.mem_cons,List.not_mem_nil,or_false] at h
 rcases h with rfl | rfl | rfl | rfl | rfl | rfl | rfl | rfl <;> decide
def Zns {M:List (Option Nat)} {i:Nat} (h:i < M.length):atI (M.map mV) (0 + (i:Int))=some (mV M[i]):=by
 rw [Int.zero_add];exact Wm (by rw [Ai,Ad h]; rfl)
def Q0:FnScope ["_law_mates","_law_start","_law_step","_law_flat","_law_at","_law_mate"] ["_law_mates","_law_start","_law_step"] (Zg Zcm):=An
def Zh8 (T:Txt w K mg t):FnOk P w K mg base (CXr P w) 1 t.gc t.gu ["_law_mates","_law_start","_law_step"] Zlk:=by
 refine T.gD.F.aR Q0 (λ_ _ _ _ H vs Q E hr h=>?_)
 ·obtain ⟨a,M,n,st,sp,rfl,ha,hM,h1,h2,hi,j7,k⟩:=h
  refine ⟨_,(Ze (Zj (i:=3) Q0.nd Z (Or.inr Z) (Ya Zb))
   (Ze (Qp PassesOwn.never rfl (Jx rfl T.bF (Za (Zs Zn (by rfl) T.ak PySem.boot_len (Za (pv 0) Zb)) Zb)) (Z0 (i:=4) Q0.nd rfl (Or.inl rfl)) (Ze (Zj (i:=5) Q0.nd rfl (Or.inl rfl) (Zt Zo (pv 0) (pv 4) (λ_ _=>rfl)))
   (Zi (Ym (PW.pt (Gf (Zy Of (pv 5) Vl (Zx _)) (Oe (Zy J7 (pv 5) (pv 4) (Zx _))))) (Zi (Yw (Y4 PySem.F.plainAttrs_list PySem.F.slot_list_append PySem.F.type_list_append Xq (pv 3) (Za (Zt Zo (pv 3) (pv 5) (λ_ _=>rfl)) Zb)))) (Zi (Yw (Y4 PySem.F.plainAttrs_list PySem.F.slot_list_append PySem.F.type_list_append Xq (pv 3) (Za (Zk Yh (Zk Yo (pv 1) (Zk Wv (pv 2) (pv 4))) Zd) Zb))))))))
   (Zi (Zw (Wg (ts:=["_law_k"]) (fv:=[("_law_flat",3)]) ⟨rfl,by decide +kernel,by decide +kernel,Yy (by rfl),⟨⟨rfl,rfl,Or.inl rfl⟩,trivial⟩⟩ rfl (Jx rfl T.bF (Za (Zk Wa (Zs Zn (by rfl) T.ak PySem.boot_len (Za (pv 0) Zb)) Zd) Zb)) (λ_ _ _ _=>(Z0 (i:=0) (show List.Nodup (["_law_k","_law_flat"]:List Str) from by decide +kernel) rfl (Or.inl rfl) (Or.inr rfl))) (λ_ _ _ _=>Y8) (λ_ _ _=>rfl) (λ_ _ _ _ _ _=>Xt (W7 (Za (Zt (Qw K) (pv 1) (Zk Wv Zd (pv 0)) (λ_ _=>rfl)) (Za (Zt (Qw K) (pv 1) (Zk Yo (Zk Wv Zd (pv 0)) Zd) (λ_ _=>rfl)) (Za (Zt (Qw K) (pv 1) (Zk Yo (Zk Wv Zd (pv 0)) Zd) (λ_ _=>rfl)) Zb)))))))))),?_⟩;refine ⟨A0 _,λf hf=>?_⟩;have eL:(((M.map mV).length:Nat):Int).toNat=M.length:=by simp
  have ha1:(upd H f (.lst [])) a=some (.lst (M.map mV)):=by rw [Zh (Zr ha hf)]; exact ha
  dsimp only [Z2];show tSeq (tFor _ _ _) _ _ _ _;refine Yn (λσ H1=>∃ (v4 v5:Option V),σ=[some (.ref a),some (.int st),some (.int sp),some (.ref f),v4,v5]/\Same H H1/\H1 f=some (.lst ((flat M st sp).map V.int))) (λnx jr=>?_) ?_
  ·refine ⟨_,Z,a,_,Z,.inl (SqL.of ha1),_,Z,by lia,by rw [Ac]; lia,?_⟩
   rw [eL];refine Zai (n:=M.length) (λi σ H1=>∃ (v4 v5:Option V),σ=[some (.ref a),some (.int st),some (.int sp),some (.ref f),v4,v5]/\Same H H1/\H1 f=some (.lst (((List.range i).map λi=>nm st sp (rep M i)).map V.int))) ⟨none,none,Z,Same.new hf,Zc⟩ ?_ ?_
   ·rintro i σ H1 jh ⟨v4,v5,rfl,sm,me⟩
    refine ⟨_,Z,_,Z,a,_,_,_,Z,Z,SqL.of (sm _ _ ha),Zns jh,?_⟩;have ji:∀ x:Int,x=nm st sp (rep M i)->(upd H1 f (.lst (((List.range i).map λi=>nm st sp (rep M i)).map V.int ++ [V.int x]))) f=some (.lst (((List.range (i + 1)).map λi=>nm st sp (rep M i)).map V.int)):=λx hx=>by
     rw [Zc,hx,List.range_succ]
     simp
    have jb:(((List.range i).map λi=>nm st sp (rep M i)).map V.int).length < sizeLine:=by
     rw [Ac,Ac,List.length_range]; exact Z5 (by lia)
    refine ⟨_,Z,Z,_,Z,?_⟩
    cases e:M[i] with
    | none =>
     have er:rep M i=i:=by unfold rep; rw [Ad jh,e]
     refine iteF ?_;refine iteF ?_;refine ⟨_,Z,.inl ⟨Z,_,SqL.of me⟩,_,Z,_,Z,_,Z,_,_,Z,Z,.inl (Oy j7),_,_,Z,Z,_,_,Z,Z,(by show (0:Int) < 10000; decide),f,_,_,rfl,rfl,me,jb,?_⟩;exact ⟨_,_,Z,Same.add sm hf,ji _ (by rw [er]; unfold nm; rw [Int.zero_add])⟩
    | some j =>
     have hMi:M[i]?=some (some j):=by rw [Ad jh,e]
     refine iteT ?_;refine ⟨_,Z,_,Z,_,_,Z,Z,_,Z,?_⟩;refine ite2 (λg=>?_) (λg=>?_)
     ·have g:j < i:=by have:=of_decide_eq_true g; lia
      have er:rep M i=j:=by unfold rep; rw [hMi]; exact if_pos g
      have erj:rep M j=j:=by unfold rep; rw [(hi i j hMi).1]; exact if_neg (by lia)
      have ej:atI (((List.range i).map λi=>nm st sp (rep M i)).map V.int) (j:Int)=some (V.int (nm st sp (rep M i))):=by
       refine Wm ?_;rw [Ai,Ai,List.getElem?_range g,er];show some (V.int (nm st sp (rep M j)))=_;rw [erj]
      refine ⟨_,Z,.inl ⟨Z,_,SqL.of me⟩,_,Z,_,Z,f,_,_,_,Z,Z,SqL.of me,ej,f,_,_,Z,Z,me,jb,?_⟩;exact ⟨_,_,Z,Same.add sm hf,ji _ Z⟩
     ·have g:¬ j < i:=by
       have:¬ ((j:Int) < 0 + (i:Int)):=λz=>g (decide_eq_true z);lia
      have er:rep M i=i:=by unfold rep; rw [hMi]; exact if_neg g
      refine ⟨_,Z,.inl ⟨Z,_,SqL.of me⟩,_,Z,_,Z,_,Z,_,_,Z,Z,.inl (Oy j7),_,_,Z,Z,_,_,Z,Z,(by show (0:Int) < 10000; decide),f,_,_,rfl,rfl,me,jb,?_⟩;exact ⟨_,_,Z,Same.add sm hf,ji _ (by rw [er]; unfold nm; rw [Int.zero_add])⟩
   ·rintro σ H1 ⟨v4,v5,rfl,sm,me⟩
    exact jr _ _ ⟨v4,v5,Z,sm,me⟩
  rintro σ H1 ⟨v4,v5,rfl,sm,me⟩;refine ⟨_,Z,a,_,Z,.inl (SqL.of (sm _ _ ha)),_,_,Z,Z,⟨by decide,by decide⟩,_,Z,by rw [Ac]; lia,by rw [Ac]; lia,λD hD=>?_⟩;have eD:((((M.map mV).length:Nat):Int) / 3).toNat=n:=by rw [Ac,hM]; lia
  have hD0:H D=none:=sm.free hD;have hfD:f≠D:=λz=>by rw [z] at me; rw [hD] at me; cases me
  have hlf:(flat M st sp).length=3 * n:=by unfold flat; simp [hM]
  show Wz (Itr 0 ((((M.map mV).length:Nat):Int) / 3).toNat) _ _ _ _ _ _;rw [eD];refine V0 (λi σ H2=>∃ (ts:List Addr) (v:Option V),σ=[v,some (.ref f)]/\Same H H2/\H2 D=some (.lst (ts.map V.ref))/\ts.length=i/\H2 f=some (.lst ((flat M st sp).map V.int))/\∀ (k:Nat) (t:Addr),ts[k]?=some t->H2 t=some (.tup (row3 (flat M st sp) k)))
   ⟨[],none,rfl,Same.add sm hD0,Zc,rfl,by rw [Zh hfD]; exact me,λk t z=>by simp at z⟩ ?_ ?_
  ·rintro i σ H2 jh ⟨ts,v,rfl,ui,g1,my,g2,g3⟩
   have at':∀ (c:Nat) (z:Int),c < 3->z=3 * (0 + (i:Int)) + c->atI ((flat M st sp).map V.int) z=some (V.int ((flat M st sp).getD (3 * i + c) 0)):=λc z hc hz=>by
    have e:z=((3 * i + c:Nat):Int):=by lia
    rw [e];exact Wm (getI (by lia))
   dsimp only [Z2,tYes];rw [if_pos rfl];refine ⟨_,Z,_,Z,_,_,Z,Z,.inl ⟨by decide,by decide⟩,f,_,_,_,Z,Z,SqL.of g2,at' 0 _ (by decide) (by simp),?_⟩;refine ⟨_,Z,_,Z,_,_,Z,Z,.inl ⟨by decide,by decide⟩,_,_,Z,Z,f,_,_,_,Z,Z,SqL.of g2,at' 1 _ (by decide) Z,?_⟩;refine ⟨_,Z,_,Z,_,_,Z,Z,.inl ⟨by decide,by decide⟩,_,_,Z,Z,f,_,_,_,Z,Z,SqL.of g2,at' 2 _ (by decide) Z,?_⟩;refine ⟨(by show 3<=sizeLine; decide),λq hq=>?_⟩;have hqD:q≠D:=λz=>by rw [z,g1] at hq; cases hq
   have hqf:q≠f:=λz=>by rw [z,g2] at hq; cases hq
   have qm:H q=none:=ui.free hq;refine ⟨_,by rw [Zh (Ne.symm hqD)]; exact g1,(by rw [Ac]; exact Z5 (by lia)),ts ++ [q],_,Z,Same.add (Same.add ui qm) hD0,?_,?_,?_,?_⟩
   ·rw [Zc]; simp
   ·rw [Af,Au,my]
   ·rw [Zh hfD,Zh (Ne.symm hqf)]; exact g2
   ·intro k t z
    by_cases hk:k < ts.length
    ·rw [Aw hk] at z
     have g:=g3 k t z;rw [Zh (λe=>by rw [e,g1] at g; cases g),Zh (Zr g hq)];exact g
    ·have hk2:k=ts.length:=by
      have:=(Aa z).1;rw [Af,Au] at this;lia
     subst hk2;have:t=q:=by simpa using z.symm
     subst this;rw [Zh hqD,Zc,my];rfl
  ·rintro σ H2 ⟨ts,v,rfl,ui,g1,my,g2,g3⟩
   exact k D H2 ui hD0 ⟨ts,g1,by rw [hlf,my],g3⟩
def isN (x:Str):Bool:=decide (1<=(x.length:Int)) && decide ((x.length:Int)<=8) && (mdL x (Str.ofString "abcdefghijklmnopqrstuvwxyz")).all id
def Zfv:Sp:=λvs H Q _=>∃ x:Str,vs=[.str x]/\x.cps.all (· < 128)=true/\x.cps.size<=900/\∀ H',Same H H'->Q (.bl (isN x)) H'
def wV:Str ⊕ Int->V
 | .inl x=>.str x
 | .inr i=>.int i
def wS:Str ⊕ Int->Str
 | .inl x=>x
 | .inr i=>figS i
def wOk:Str ⊕ Int->Prop
 | .inl _=>True
 | .inr i=>0<=i/\i < 1000000000000000000000000000000000000000000000000000000000000
theorem Zg7 {B:Nat}:∀ {l:List (Str ⊕ Int)},(∀ x∈l,(wS x).length<=B)->((l.map wS).map (·.length)).sum<=B * l.length
 | [],_=>Ao _
 | x :: l,h=>by
  have h1:=h x List.mem_cons_self;have h2:=Zg7 (l:=l) λy hy=>h y (List.mem_cons_of_mem _ hy);rw [List.map_cons,List.map_cons,List.sum_cons,List.length_cons,Nat.mul_add];lia
def Zn0 {i:Int} (h0:0<=i) (h1:i < 1000000000000000000000000000000000000000000000000000000000000):(figS i).length<=60:=by
 have e:figS i=Str.ofString (toString i):=rfl;rw [e];exact Fn h0 h1
def wAsc:Str ⊕ Int->Prop
 | .inl x=>Asc x
 | .inr _=>True
def Zmo (i:Int):Asc (figS i):=Asc.join λy hy=>by rw [Ag hy]; exact Asc.num i
def Zmn {ws:List (Str ⊕ Int)} (h:∀ x∈ws,wAsc x):Asc (Txt.join (Str.ofString " ") (ws.map wS)):=Asc.joinS (λc hc=>by have hc:c∈[32]:=hc; rw [Ag hc]; decide) λy hy=>by
 obtain ⟨x,hx,rfl⟩:=List.mem_map.mp hy;have:=h x hx
 cases x with
 | inl z=>exact this
 | inr i=>exact Zmo i
def Zdy:Sp:=λvs H Q _=>∃ (a:Addr) (ws:List (Str ⊕ Int)),vs=[.ref a]/\H a=some (.lst (ws.map wV))/\ws.length<=900/\(∀ x∈ws,wOk x)/\((ws.map wS).map (·.length)).sum + ws.length<=1048576/\∀ H',Same H H'->Q (.str (Txt.join (Str.ofString " ") (ws.map wS))) H'
def Zf8:FnScope ["text"] ["text"] (Zg F3):=An
def Gp (T:Txt w K mg t):FnOk P w K mg base (CXr P w) 2 t.fA t.fI ["text"] Zfv:=by
 refine T.cR.F.aR Zf8 (λ_ _ _ _ H vs Q E hr h=>?_)
 ·obtain ⟨x,rfl,hx,hz,k⟩:=h
  refine ⟨_,(Zi (Zw (Ux (Zc0 Gk Gk Zd (Zs U9 (by rfl) T.ak PySem.boot_len (Za (pv 0) Zb)) (Yg (v:=.int 8) Z T.fc ⟨_,Z⟩)) (Vk (pcT (Gn T) hr T.cQ (Za (pv 0) (Za (Yg (v:=.str (Str.ofString "abcdefghijklmnopqrstuvwxyz")) rfl T.dO ⟨_,rfl⟩) Zb))))))),?_⟩;have hs:x.length=x.cps.size:=rfl;refine ⟨_,Z,x,Z,by rw [sizeLine_eq]; lia,_,_,rfl,rfl,_,rfl,?_⟩;unfold isN at k;refine ite2 (λz=>?_) (λz=>?_)
  ·refine ⟨_,_,Z,Z,_,Z,?_⟩
   refine ite2 (λz2=>?_) (λz2=>?_)
   ·refine ⟨_,Z,x,_,Z,hx,hz,λH' s'=>?_⟩
    have:=k H' s';rw [z,z2,Bool.true_and,Bool.true_and] at this;exact this
   ·have:=k H (Same.refl _)
    rw [Bool.eq_false_iff.mpr z2,Bool.and_false,Bool.false_and] at this;exact this
  ·refine ⟨_,Z,iteF ?_⟩
   have:=k H (Same.refl _);rw [Bool.eq_false_iff.mpr z,Bool.false_and,Bool.false_and] at this;exact this
def Zd7:FnScope ["words"] ["words"] (Zg K6):=An
def Zef (T:Txt w K mg t):FnOk P w K mg base (CXr P w) 2 t.dY t.eE ["words"] Zdy:=by
 refine T.eY.F.aR Zd7 (λ_ _ _ _ H vs Q E hr h=>?_)
 ·obtain ⟨a,ws,rfl,ha,hl,hw,hsum,k⟩:=h
  refine ⟨_,(Zi (Zw (Y4 PySem.F.plainAttrs_str PySem.F.slot_str_join PySem.F.type_str_join Zmb Zl (Za (Wg (ts:=["word"]) (fv:=[]) ⟨rfl,by decide +kernel,by decide +kernel,Yy (by rfl),trivial⟩ rfl (Xf (pv 0)) (λ_ _ _ _=>(Z0 (i:=0) (show List.Nodup (["word"]:List Str) from by decide +kernel) rfl (Or.inl rfl) (Or.inr rfl))) (λ_ _ _ _=>Y8) (λ_ _ _=>rfl) (λ_ _ _ _ _ _=>Xt (Zjs (Jt (Zs (Zdq K) (by rfl) T.fU PyProof.Rows.boot_isinstance (Za (pv 0) (Za (Zl5 (v:=.ty "str") (by rfl) T.iG PySem.Pv.boot_str rfl) Zb)))) (pv 0) (pcT (Zgd T) hr T.fP (Za (pv 0) Zb))))) Zb)))),?_⟩;refine ⟨Z,_,Z,a,Z,⟨_,SqL.of ha⟩,λD hD=>?_⟩;refine Y3 (xs:=ws.map wV) (λi σ H6=>∃ v,σ=[v]/\Same H H6/\H6 D=some (.lst (((ws.take i).map wS).map V.str))) ⟨none,Z,Same.new hD,Zc⟩ ?_ ?_ ?_
  ·rintro i σ H6 _ ⟨v,rfl,s6,_⟩
   exact SqL.of (s6 _ _ ha)
  ·rintro i y σ H6 hy ⟨v,rfl,s6,h6⟩
   rw [Ai] at hy;obtain ⟨x,hx,rfl⟩:=Option.map_eq_some_iff.mp hy;have qq:i < ws.length:=(Aa hx).1;have ok:=hw x (Av hx);have lt:(((ws.take i).map wS).map V.str).length < sizeLine:=by rw [Ac,Ac,Aj]; exact Z5 (by lia)
   dsimp only [Z2,tYes];rw [if_pos rfl]
   cases x with
   | inl y =>
    refine ⟨_,Z,_,"str",_,true,rfl,TyOf.str y,Zkc,_,rfl,iteT ?_⟩;refine ⟨_,Z,_,h6,lt,_,Z,Same.add s6 hD,?_⟩;rw [Zc,Ax,hx,Ak,Ak];rfl
   | inr j =>
    refine ⟨_,Z,_,"str",_,false,rfl,TyOf.int j,(by rfl),_,rfl,iteF ?_⟩;refine ⟨_,Z,j,Z,ok.1,ok.2,λH7 s7=>?_⟩;refine ⟨_,s7 _ _ h6,lt,_,Z,Same.add (s6.trans s7) hD,?_⟩;rw [Zc,Ax,hx,Ak,Ak];rfl
  ·rintro σ H6 ⟨v,rfl,s6,h6⟩
   rw [Ac,List.take_length] at h6;refine ⟨_,D,ws.map wS,Z,Z,SqL.of h6,by decide,?_,k _ s6⟩;rw [Ac];exact hsum
def fgL:Str:=Str.ofString "0123456789"
def Ja (x:Str):Bool:=decide (1<=(x.length:Int)) && decide ((x.length:Int)<=61) && (mdL x fgL).all id && (decide (x=Str.ofString "0") || !Txt.startswith x (Str.ofString "0"))
def Zo8 {c:Nat} (z:c < 128) (h:Txt.contains fgL ⟨#[c]⟩=true):48<=c/\c<=57:=by
 have:∀ c:Fin 128,Txt.contains fgL ⟨#[c.val]⟩=true->48<=c.val/\c.val<=57:=by decide +kernel
 exact this ⟨c,z⟩ h
def numP (x:Str):Option Int:=if Ja x then intText? x else none
def Zj1 {x:Str} (h:Ja x=true) (ha:Asc x):∃ n,intText? x=some n:=by
 unfold Ja at h;rw [Bool.and_eq_true,Bool.and_eq_true,Bool.and_eq_true,decide_eq_true_eq,decide_eq_true_eq] at h;obtain ⟨⟨⟨h1,h2⟩,h3⟩,_⟩:=h;have hd:NumText.AllDigits x.cps.toList:=λc hc=>by
  unfold mdL at h3
  rw [List.all_map,List.all_eq_true] at h3
  exact Zo8 (ha c hc) (h3 c hc)
 have hl:x.length=x.cps.toList.length:=by rw [Array.length_toList]; rfl
 exact ⟨_,intText_digits hd (λe=>by rw [e] at hl; rw [hl] at h1; exact absurd h1 (by decide)) (by lia)⟩
def Zby (EB:Addr):Sp:=λvs H Q E=>∃ b:Bool,vs=[.bl b]/\(b=true->Q .non H)/\(b=false->E (.ref EB) none H)
def Zbz:Sp:=λvs H Q _=>∃ x:Str,vs=[.str x]/\Asc x/\x.length<=900/\∀ H',Same H H'->Q (.bl (Ja x)) H'
def Zbx (EB:Addr):Sp:=λvs H Q E=>∃ x:Str,vs=[.str x]/\Asc x/\x.length<=900/\∀ H',Same H H'->(∀ n,numP x=some n->Q (.int n) H')/\(numP x=none->E (.ref EB) none H')
def Zfs (EB:Addr):Sp:=λvs H Q E=>∃ x:Str,vs=[.str x]/\Asc x/\x.length<=900/\∀ H',Same H H'->(isN x=true->Q (.str x) H')/\(isN x=false->E (.ref EB) none H')
def Zb9:FnScope ["right"] ["right"] (Zg O6):=An
def Z4 (T:Txt w K mg t):FnOk P w K mg base (CXr P w) 1 t.df t.dw ["right"] (Zby t.aa):=by
 refine T.af.F.aX Zb9 (λ_ _ _ _ H vs Q E hr h=>?_)
 ·obtain ⟨b,rfl,h1,h2⟩:=h
  refine ⟨_,(Yd (Jv (Wt (Jt (pv 0))) (Yd (Ju T.gL FBV Z T.b4 Z (Za Zl Zb))) Je)),?_⟩
  cases b with
  | true=>exact ⟨_,Z,_,Z,iteF (h1 Z)⟩
  | false=>exact ⟨_,Z,_,Z,iteT ⟨by decide,h2 Z⟩⟩
def Zca:FnScope ["text"] ["text"] (Zg O8):=An
def Zc3 (T:Txt w K mg t):FnOk P w K mg base (CXr P w) 2 t.dc t.dq ["text"] Zbz:=by
 refine T.dE.F.aR Zca (λ_ _ _ _ H vs Q E hr h=>?_)
 ·obtain ⟨x,rfl,hx,hz,k⟩:=h
  refine ⟨_,(Ze (Ym (PW.pt (Q5 (Wt (Zjm Gk Gk Zd (Zs U9 (by rfl) T.ak PySem.boot_len (Za (pv 0) Zb)) (Yg (v:=.int 61) Z T.fg ⟨_,Z⟩))) (Qn (Wt (Jt (pcT (Gn T) hr T.cQ (Za (pv 0) (Za (Yg (v:=.str (Str.ofString "0123456789")) rfl T.hJ ⟨_,rfl⟩) Zb)))))))) (Zi (Zw Gi)) Yc)
   (Zi (Zw (Zou (Y2 Y7 (pv 0) Zl (Zx _)) (Vk (Zng (Y4 PySem.F.plainAttrs_str PySem.F.slot_str_startswith PySem.F.type_str_startswith Ue (pv 0) (Za Zl Zb)))))))),?_⟩;have hl:x.length<=sizeLine:=by rw [sizeLine_eq]; lia
  refine Yn (λσ H'=>σ=[some (.str x)]/\Same H H'/\(decide (1<=(x.length:Int)) && decide ((x.length:Int)<=61) && (mdL x fgL).all id)=true) (λnx jr=>?_) ?_
  ·have R:∀ H',Same H H'->(decide (1<=(x.length:Int)) && decide ((x.length:Int)<=61) && (mdL x fgL).all id)=false->Q (.bl false) H':=λH' s' e=>by
    have:=k H' s';unfold Ja at this;rw [e,Bool.false_and] at this;exact this
   refine ⟨_,Z,x,Z,hl,_,_,Z,Z,_,Z,?_⟩;refine ite2 (λz=>⟨_,_,Z,Z,_,Z,?_⟩) (λz=>?_)
   ·refine ite2 (λz2=>?_) (λz2=>?_)
    ·exact iteT (R _ (Same.refl _) (by rw [show decide ((x.length:Int)<=61)=false by simpa using z2,Bool.and_false,Bool.false_and]))
    ·have z2:decide ((x.length:Int)<=61)=true:=by simpa using z2
     refine ⟨_,Z,x,_,Z,hx.all,hz,λH' s'=>?_⟩;refine ⟨_,Z,?_⟩;refine ite2 (λe=>R _ s' (by rw [show (mdL x fgL).all id=false from by have e:(!(mdL x fgL).all id)=true:=e; revert e; cases (mdL x fgL).all id <;> decide,Bool.and_false])) (λe=>jr _ _ ⟨rfl,s',by rw [z,z2,show (mdL x fgL).all id=true from by have e:¬ (!(mdL x fgL).all id)=true:=e; revert e; cases (mdL x fgL).all id <;> decide]; rfl⟩)
   ·exact ⟨_,Z,iteT (iteT (R _ (Same.refl _) (by rw [Bool.eq_false_iff.mpr z,Bool.false_and,Bool.false_and])))⟩
  rintro σ H1 ⟨rfl,s1,e1⟩;have kk:=k H1 s1;unfold Ja at kk;rw [e1,Bool.true_and] at kk;refine ⟨_,Z,Z,_,Z,?_⟩;have ed:decide (V.str x=V.str (Str.ofString "0"))=decide (x=Str.ofString "0"):=decide_eq_decide.mpr ⟨λe=>by injection e,λe=>by rw [e]⟩;refine ite2 (λz=>?_) (λz=>?_)
  ·rw [ed] at z
   rw [z,Bool.true_or] at kk;exact kk
  ·rw [ed] at z
   rw [Bool.eq_false_iff.mpr z,Bool.false_or] at kk;exact ⟨_,Z,Z,_,_,Z,Z,_,Z,kk⟩
def Zb8:FnScope ["word"] ["word"] (Zg O5):=An
def Xl (T:Txt w K mg t):FnOk P w K mg base (CXr P w) 3 t.dg t.dy ["word"] (Zbx t.aa):=by
 refine T.ap.F.aX Zb8 (λ_ _ _ _ H vs Q E hr h=>?_)
 ·obtain ⟨x,rfl,hx,hz,k⟩:=h
  refine ⟨_,(Yk (Yb (pxT (Z4 T) hr T.af (Za (pcT (Zc3 T) hr T.dE (Za (pv 0) Zb)) Zb)))
   (Yd (Z7 (Zw (Xj Zi0 (by rfl) T.iP PySem.Pv.boot_int (Za (pv 0) Zb)))))),?_⟩;refine ⟨_,Z,x,Z,hx,hz,λH1 s1=>?_⟩;obtain ⟨k1,k2⟩:=k H1 s1;refine ⟨Ja x,Z,λe=>?_,λe=>k2 (by unfold numP; rw [if_neg (by rw [e]; decide)])⟩;obtain ⟨n,hn⟩:=Zj1 e hx;refine ⟨_,Z,x,n,Z,hn,?_,k1 n (by unfold numP; rw [if_pos e]; exact hn)⟩;unfold Ja at e;rw [Bool.and_eq_true,Bool.and_eq_true,Bool.and_eq_true,decide_eq_true_eq,decide_eq_true_eq] at e;lia
def Zf5:FnScope ["word"] ["word"] (Zg Fy):=An
def J8 (T:Txt w K mg t):FnOk P w K mg base (CXr P w) 3 t.fE t.fK ["word"] (Zfs t.aa):=by
 refine T.bw.F.aX Zf5 (λ_ _ _ _ H vs Q E hr h=>?_)
 ·obtain ⟨x,rfl,hx,hz,k⟩:=h
  refine ⟨_,(Yk (Yb (pxT (Z4 T) hr T.af (Za (pcT (Gp T) hr T.cR (Za (pv 0) Zb)) Zb)))
   (Yd (Z7 (Zw (pv 0))))),?_⟩;refine ⟨_,Z,x,Z,hx.all,hz,λH1 s1=>?_⟩;obtain ⟨k1,k2⟩:=k H1 s1;exact ⟨isN x,Z,λe=>⟨_,Z,k1 e⟩,k2⟩
def wdS (x:Str):List Str:=Txt.split x (Str.ofString " ")
theorem Zig {c d:Nat}:∀ {l:List (List Nat)} {a:List Nat},a∈l->d∈a->d∈jnL c l
 | [b],a,h,hd=>by rw [Ag h] at hd; exact hd
 | b :: b' :: r,a,h,hd=>by
  show d∈b ++ c :: jnL c (b' :: r)
  rcases As h with rfl | h
  ·exact List.mem_append.mpr (.inl hd)
  ·exact List.mem_append.mpr (.inr (List.mem_cons_of_mem _ (Zig h hd)))
theorem Zih {c:Nat}:∀ {l:List (List Nat)} {a:List Nat},a∈l->a.length<=(jnL c l).length
 | [b],a,h=>by rw [Ag h]; exact Ao _
 | b :: b' :: r,a,h=>by
  show a.length<=(b ++ c :: jnL c (b' :: r)).length;rw [Af,List.length_cons]
  rcases As h with rfl | h
  ·lia
  ·have:=Zih (c:=c) h
   lia
def Zjf (x:Str) (c:Nat):x.cps.toList=jnL c ((Txt.split x ⟨#[c]⟩).map λx=>x.cps.toList):=by rw [<- Vg,StrLaws.join_split]
def Vr {x p:Str} {c:Nat} (hx:Asc x) (h:p∈Txt.split x ⟨#[c]⟩):Asc p/\p.length<=x.length:=by
 have e:=Zjf x c;have hm:p.cps.toList∈(Txt.split x ⟨#[c]⟩).map λx=>x.cps.toList:=List.mem_map.mpr ⟨p,h,rfl⟩;refine ⟨λd hd=>hx d (by rw [e]; exact Zig hm hd),?_⟩;have:=Zih (c:=c) hm;rw [<- e,Array.length_toList,Array.length_toList] at this;exact this
def Xc {x p:Str} (hx:Asc x) (h:p∈wdS x):Asc p/\p.length<=x.length:=Vr hx h
def cloP (x:Str):Option (Int × Int × Int):=match wdS x with
 | [_,a,b,c]=>match numP a,numP b,numP c with
  | some i,some j,some k=>some (i,j,k)
  | _,_,_=>none
 | _=>none
def Zd3 (EB:Addr):Sp:=λvs H Q E=>∃ x:Str,vs=[.str x]/\Asc x/\x.length<=900/\(∀ i j k,cloP x=some (i,j,k)->∀ (l:Addr) (H':Hp),Same H H'->H l=none->H' l=some (.tup [.int i,.int j,.int k])->Q (.ref l) H')/\(cloP x=none->∀ H',Same H H'->E (.ref EB) none H')
def Zfu (EB:Addr):Sp:=λvs H Q E=>∃ (a:Addr) (ws:List Str),vs=[.ref a]/\H a=some (.lst (ws.map V.str))/\(∀ x∈ws,Asc x/\x.length<=900)/\(∀ x,ws=[x]->isN x=true->∀ (l:Addr) (H':Hp),Same H H'->H l=none->H' l=some (.tup [.str x])->Q (.ref l) H')/\((∀ x,ws=[x]->isN x=false)->∀ H',Same H H'->E (.ref EB) none H')
def Vz (l:List Str):Option (List Int):=if l.all (λx=>(numP x).isSome) then some (l.map λx=>(numP x).getD 0) else none
def cut1 (x:Str) (l:List Str):cutV ((x :: l).map V.str) (some 1) none=l.map V.str:=by
 unfold cutV;rw [show (some (1:Int))=some ((1:Nat):Int) from rfl,HT.sIx_nat];show List.take (((x :: l).map V.str).length - min 1 _) (List.drop (min 1 _) _)=_;rw [Ac,List.length_cons,Nat.min_eq_left (by lia)];show List.take (l.length + 1 - 1) (l.map V.str)=_;rw [Nat.add_sub_cancel,<- Ac (f:=V.str),List.take_length]
def Zhd (EB:Addr):Sp:=λvs H Q E=>∃ (a:Addr) (ws:List Str),vs=[.ref a]/\H a=some (.lst (ws.map V.str))/\ws.length<=900/\(∀ x∈ws,Asc x/\x.length<=900)/\(∀ x y r ns,ws=x :: y :: r->isN x=true->Vz (y :: r)=some ns->∀ (l m:Addr) (H':Hp),Same H H'->H l=none->H m=none->H' l=some (.tup [.str x,.ref m])->H' m=some (.lst (ns.map V.int))->Q (.ref l) H')/\((∀ x y r,ws=x :: y :: r->isN x=true->Vz (y :: r)=none)->∀ H',Same H H'->E (.ref EB) none H')
def O2:FnScope ["row","words"] ["row"] (Zg Gb):=An
def Zel (T:Txt w K mg t):FnOk P w K mg base (CXr P w) 4 t.d7 t.eO ["row"] (Zd3 t.aa):=by
 refine T.bE.F.okLA O2 (λvs H Q E h=>?_) (λ_ _ _ _ H vs Q E hr h=>?_)
 ·obtain ⟨x,rfl,_⟩:=h
  rfl
 ·obtain ⟨x,rfl,hx,hz,k1,k2⟩:=h
  refine ⟨_,(λ_ L=>(Zu (Z3 L.l (Z7 (Zj (i:=1) O2.nd Z (Or.inl Z) (Y4 PySem.F.plainAttrs_str PySem.F.slot_str_split PySem.F.type_str_split Xu (pv 0) (Za Zl Zb)))))
   (Zu (Z3 L.l (Yb (pxT (Z4 T) hr T.af (Za (Y2 Y7 (Zs Zn (by rfl) T.ak PySem.boot_len (Za (pv 1) Zb)) Zd (Zx _)) Zb))))
   (Yv (Xd (Xs (Z6 (X2 L (pxT (Xl T) hr T.ap (Za (Zt Zo (pv 1) Zd (λ_ _=>rfl)) Zb))) (Z6 (X2 L (pxT (Xl T) hr T.ap (Za (Zt Zo (pv 1) Zd (λ_ _=>rfl)) Zb))) (Z6 (X2 L (pxT (Xl T) hr T.ap (Za (Zt Zo (pv 1) Zd (λ_ _=>rfl)) Zb))) (X9 Zb)))))))))),?_⟩;refine ⟨_,Z,Z,x,Str.ofString " ",rfl,rfl,rfl,by rw [sizeLine_eq]; lia,λl hl=>?_⟩;have s1:Same H (upd H l (.lst ((Txt.split x (Str.ofString " ")).map V.str))):=Same.new hl;have h1:(upd H l (.lst ((Txt.split x (Str.ofString " ")).map V.str))) l=some (.lst ((Txt.split x (Str.ofString " ")).map V.str)):=Zc;generalize upd H l (.lst ((Txt.split x (Str.ofString " ")).map V.str))=H1 at s1 h1 ⊢;replace h1:H1 l=some (.lst ((wdS x).map V.str)):=h1;have jq:∀ p∈wdS x,Asc p/\p.length<=900:=λp hp=>⟨(Xc hx hp).1,Nat.le_trans (Xc hx hp).2 hz⟩;refine ⟨_,Z,l,_,Z,.inl (SqL.of h1),Z,_,Z,λe=>?_,λe=>?_⟩
  ·have e:(wdS x).length=4:=by
    have e:=of_decide_eq_true e;rw [Ac] at e
    injection e with e
    lia
   obtain ⟨a0,a1,a2,a3,ew⟩:∃ a0 a1 a2 a3,wdS x=[a0,a1,a2,a3]:=by
    match wdS x,e with
    | [a0,a1,a2,a3],_=>exact ⟨_,_,_,_,Z⟩
   rw [ew] at h1 jq;have p1:=jq a1 (by simp);have p2:=jq a2 (by simp);have p3:=jq a3 (by simp)
   have no:(numP a1=none\/numP a2=none\/numP a3=none)->cloP x=none:=λz=>by
    unfold cloP;rw [ew]
    rcases z with z | z | z
    ·dsimp only; rw [z]
    ·dsimp only; rw [z]; cases numP a1 <;> rfl
    ·dsimp only; rw [z]; cases numP a1 <;> cases numP a2 <;> rfl
   refine ⟨_,Z,l,_,_,_,Z,Z,SqL.of h1,(show atI [V.str a0,V.str a1,V.str a2,V.str a3] 1=some (V.str a1) from Z),a1,Z,p1.1,p1.2,λH2 s2=>⟨λi hi=>?_,λz=>k2 (no (.inl z)) _ (s1.trans s2)⟩⟩;refine ⟨_,Z,l,_,_,_,Z,Z,SqL.of (s2 _ _ h1),(show atI [V.str a0,V.str a1,V.str a2,V.str a3] 2=some (V.str a2) from Z),a2,Z,p2.1,p2.2,λH3 s3=>⟨λj hj=>?_,λz=>k2 (no (.inr (.inl z))) _ (s1.trans (s2.trans s3))⟩⟩;refine ⟨_,Z,l,_,_,_,Z,Z,SqL.of (s3 _ _ (s2 _ _ h1)),(show atI [V.str a0,V.str a1,V.str a2,V.str a3] 3=some (V.str a3) from Z),a3,Z,p3.1,p3.2,λH4 s4=>⟨λm hm=>?_,λz=>k2 (no (.inr (.inr z))) _ (s1.trans (s2.trans (s3.trans s4)))⟩⟩;have uj:=s1.trans (s2.trans (s3.trans s4));refine ⟨(by show 3<=sizeLine; decide),λq hq=>?_⟩;exact k1 i j m (by unfold cloP; rw [ew]; dsimp only; rw [hi,hj,hm]) q _ (uj.trans (Same.new hq)) (uj.free hq) Zc
  ·have e:(wdS x).length≠4:=λz=>by
    have e:=of_decide_eq_false e;exact e (by rw [Ac,z]; rfl)
   refine k2 ?_ _ s1;unfold cloP
   match wdS x,e with
   | [],_=>rfl
   | [_],_=>rfl
   | [_,_],_=>rfl
   | [_,_,_],_=>rfl
   | [_,_,_,_],e=>exact absurd Z e
   | _ :: _ :: _ :: _ :: _ :: _,_=>rfl
def Zf7:FnScope ["words"] ["words"] (Zg F0):=An
def Zgb (T:Txt w K mg t):FnOk P w K mg base (CXr P w) 4 t.bo t.fM ["words"] (Zfu t.aa):=by
 refine T.cT.F.okLA Zf7 (λvs H Q E h=>?_) (λ_ _ _ _ H vs Q E hr h=>?_)
 ·obtain ⟨a,ws,rfl,_⟩:=h
  rfl
 ·obtain ⟨a,ws,rfl,ha,hw,k1,k2⟩:=h
  refine ⟨_,(λ_ L=>(Zu (Z3 L.l (Yb (pxT (Z4 T) hr T.af (Za (Y2 Y7 (Zs Zn (by rfl) T.ak PySem.boot_len (Za (pv 0) Zb)) Zd (Zx _)) Zb))))
   (Yv (Xd (Xs (Z6 (X2 L (pxT (J8 T) hr T.bw (Za (Zt Zo (pv 0) Zd (λ_ _=>rfl)) Zb))) (X9 Zb))))))),?_⟩;refine ⟨_,Z,a,_,Z,.inl (SqL.of ha),Z,_,Z,λe=>?_,λe=>?_⟩
  ·have e:ws.length=1:=by
    have e:=of_decide_eq_true e;rw [Ac] at e
    injection e with e
    lia
   obtain ⟨x,rfl⟩:∃ x,ws=[x]:=by
    match ws,e with
    | [x],_=>exact ⟨_,Z⟩
   have p1:=hw x List.mem_cons_self;refine ⟨_,Z,a,_,_,_,Z,Z,SqL.of ha,(show atI [V.str x] 0=some (V.str x) from Z),x,Z,p1.1,p1.2,λH2 s2=>⟨λz=>?_,λz=>k2 (λy e=>by injection e with e; rw [<- e]; exact z) _ s2⟩⟩;refine ⟨(by show 1<=sizeLine; decide),λq hq=>?_⟩;exact k1 x Z z q _ (s2.trans (Same.new hq)) (s2.free hq) Zc
  ·have e:=of_decide_eq_false e
   exact k2 (λx z=>absurd (by rw [z]; rfl) e) _ (Same.refl _)
def Zhh:FnScope ["words"] ["words"] (Zg Zch):=An
def Zh4 (T:Txt w K mg t):FnOk P w K mg base (CXr P w) 4 t.bR t.gn ["words"] (Zhd t.aa):=by
 refine T.eZ.F.okLA Zhh (λvs H Q E h=>?_) (λ_ _ _ _ H vs Q E hr h=>?_)
 ·obtain ⟨a,ws,rfl,_⟩:=h
  rfl
 ·obtain ⟨a,ws,rfl,ha,rg,hw,k1,k2⟩:=h
  refine ⟨_,(λ_ L=>(Zu (Z3 L.l (Yb (pxT (Z4 T) hr T.af (Za (Y2 Zbk (Zs Zn (by rfl) T.ak PySem.boot_len (Za (pv 0) Zb)) Zd (Zx _)) Zb))))
   (Yv (Xd (Xs (Z6 (X2 L (pxT (J8 T) hr T.bw (Za (Zt Zo (pv 0) Zd (λ_ _=>rfl)) Zb))) (Z6 (Zos L (Zjr (ts:=["word"]) (fv:=[]) ⟨rfl,by decide +kernel,by decide +kernel,Yy (by rfl),trivial⟩ rfl (Xf (Y6 Xm (pv 0) (Xe Zd) Xr)) (λ_ _ _ _=>(Z0 (i:=0) (show List.Nodup (["word"]:List Str) from by decide +kernel) rfl (Or.inl rfl) (Or.inr rfl))) (λ_ _ _ _=>Y8) (λ_ _ _=>rfl) (λ_ _ _ _ _ _=>Vy (Vx (Xl T) (hr.mono (by decide)) rfl T.ap.g T.ap.F.kp T.ap.b .nil (Za (pv 0) Zb))))) (X9 Zb)))))))),?_⟩;refine ⟨_,Z,a,_,Z,.inl (SqL.of ha),_,_,Z,Z,_,Z,λe=>?_,λe=>?_⟩
  ·have e:2<=ws.length:=by
    have e:=of_decide_eq_true e;rw [Ac] at e;lia
   obtain ⟨x,y,r,rfl⟩:∃ x y r,ws=x :: y :: r:=by
    match ws,e with
    | x :: y :: r,_=>exact ⟨_,_,_,Z⟩
   have p1:=hw x List.mem_cons_self;refine ⟨_,Z,a,_,_,_,Z,Z,SqL.of ha,(show atI (List.map V.str (x :: y :: r)) ((0:Nat):Int)=some (V.str x) from Yp (i:=0) Z),x,Z,p1.1,p1.2,λH2 s2=>⟨λz=>?_,λz=>k2 (λx' y' r' e=>by injection e with e; rw [<- e,z]; exact λq=>nomatch q) _ s2⟩⟩;refine ⟨_,Z,_,Z,a,_,Z,SqL.of (s2 _ _ ha),λc hc=>?_⟩;rw [cut1];have s3:Same H2 (upd H2 c (.lst ((y :: r).map V.str))):=Same.new hc;have h3:(upd H2 c (.lst ((y :: r).map V.str))) c=some (.lst ((y :: r).map V.str)):=Zc;generalize upd H2 c (.lst ((y :: r).map V.str))=H3 at s3 h3 ⊢;have p7:=s2.trans s3;refine ⟨c,Z,⟨_,SqL.of h3⟩,λD hD=>?_⟩;have jb:(y :: r).length<=900:=by rw [List.length_cons] at rg; lia
   have oq:∀ q∈y :: r,Asc q/\q.length<=900:=λq hq=>hw q (List.mem_cons_of_mem _ hq);refine Y3 (xs:=(y :: r).map V.str) (λi σ H6=>∃ v,σ=[v]/\Same H3 H6/\H6 D=some (.lst ((((y :: r).take i).map λx=>(numP x).getD 0).map V.int))/\∀ q∈(y :: r).take i,(numP q).isSome=true) ⟨none,rfl,Same.new hD,Zc,λq hq=>by cases hq⟩ ?_ ?_ ?_
   ·rintro i σ H6 _ ⟨v,rfl,s6,_⟩
    exact SqL.of (s6 _ _ h3)
   ·rintro i q σ H6 hq ⟨v,rfl,s6,h6,hs⟩
    obtain ⟨p,hp,rfl⟩:=Y1 hq;have qq:=(Aa hp).1;have pp:=oq p (Av hp);dsimp only [Z2,tYes];rw [if_pos rfl];refine ⟨_,Z,p,Z,pp.1,pp.2,λH7 s7=>⟨λn hn=>?_,λhn=>k2 (λx' y' r' e _=>?_) _ (p7.trans (s6.trans s7))⟩⟩
    ·have et:(y :: r).take (i + 1)=(y :: r).take i ++ [p]:=by rw [Ax,hp]; rfl
     refine ⟨_,s7 _ _ h6,by rw [Ac,Ac,Aj]; exact Z5 (by lia),_,Z,Same.add (s6.trans s7) hD,?_,λq hq=>?_⟩
     ·rw [Zc,et,Ak,Ak]
      show _=some (HO.lst (_ ++ [V.int ((numP p).getD 0)]));rw [hn];rfl
     ·rw [et] at hq
      rcases List.mem_append.mp hq with z | z
      ·exact hs q z
      ·rw [Ag z,hn]; rfl
    ·injection e with _ e
     rw [<- e];unfold Vz;rw [if_neg];intro z;have:=List.all_eq_true.mp z p (Av hp);rw [hn] at this;cases this
   ·rintro σ H6 ⟨v,rfl,s6,h6,hs⟩
    rw [Ac,List.take_length] at h6 hs;refine ⟨(by show 2<=sizeLine; decide),λq hq=>?_⟩;have qz:=p7.trans s6;exact k1 x y r _ Z z (by unfold Vz; rw [if_pos (List.all_eq_true.mpr hs)]) q D _ (qz.trans (Same.new hq)) (qz.free hq) (p7.free hD) Zc (Same.new hq _ _ h6)
  ·have e:=of_decide_eq_false e
   exact k2 (λx y r z=>absurd (by rw [z]; show (2:Int)<=_; rw [Ac,List.length_cons,List.length_cons]; lia) e) _ (Same.refl _)
def prP (c:Nat) (x:Str):Option (Int × Int):=match Txt.split x ⟨#[c]⟩ with
 | [a,b]=>match numP a,numP b with
  | some i,some j=>some (i,j)
  | _,_=>none
 | _=>none
def Zm6 (EB:Addr):Sp:=λvs H Q E=>∃ (x:Str) (c:Nat),vs=[.str x,.str ⟨#[c]⟩]/\Asc x/\x.length<=900/\(∀ i j,prP c x=some (i,j)->∀ (l:Addr) (H':Hp),Same H H'->H l=none->H' l=some (.tup [.int i,.int j])->Q (.ref l) H')/\(prP c x=none->∀ H',Same H H'->E (.ref EB) none H')
def weiP (ws:List Str):Option (Int × Int × Int):=match ws with
 | [s,f]=>match prP 47 f,numP s with
  | some (i,j),some n=>some (n,i,j)
  | _,_=>none
 | _=>none
def Zdw (EB:Addr):Sp:=λvs H Q E=>∃ (a:Addr) (ws:List Str),vs=[.ref a]/\H a=some (.lst (ws.map V.str))/\(∀ x∈ws,Asc x/\x.length<=900)/\(∀ n i j,weiP ws=some (n,i,j)->∀ (l:Addr) (H':Hp),Same H H'->H l=none->H' l=some (.tup [.int n,.int i,.int j])->Q (.ref l) H')/\(weiP ws=none->∀ H',Same H H'->E (.ref EB) none H')
def trnP (ws:List Str):Option (Int × Str):=match ws with
 | [s,w]=>if w∈([Str.ofString "left",Str.ofString "right"]:List Str) then (match numP s with | some n=>some (n,w) | none=>none) else none
 | _=>none
def Zfq (EB:Addr):Sp:=λvs H Q E=>∃ (a:Addr) (ws:List Str),vs=[.ref a]/\H a=some (.lst (ws.map V.str))/\(∀ x∈ws,Asc x/\x.length<=900)/\(∀ n w,trnP ws=some (n,w)->∀ (l:Addr) (H':Hp),Same H H'->H l=none->H' l=some (.tup [.int n,.str w])->Q (.ref l) H')/\(trnP ws=none->∀ H',Same H H'->E (.ref EB) none H')
def J1:FnScope ["word","sign","parts"] ["word","sign"] (Zg Qj):=An
def J4 (T:Txt w K mg t):FnOk P w K mg base (CXr P w) 4 t.bj t.bu ["word","sign"] (Zm6 t.aa):=by
 refine T.av.F.okLA J1 (λvs H Q E h=>?_) (λ_ _ _ _ H vs Q E hr h=>?_)
 ·obtain ⟨x,c,rfl,_⟩:=h
  rfl
 ·obtain ⟨x,c,rfl,hx,hz,k1,k2⟩:=h
  refine ⟨_,(λ_ L=>(Zu (Z3 L.l (Z7 (Zj (i:=2) J1.nd Z (Or.inl Z) (Y4 PySem.F.plainAttrs_str PySem.F.slot_str_split PySem.F.type_str_split Xu (pv 0) (Za (pv 1) Zb)))))
   (Zu (Z3 L.l (Yb (pxT (Z4 T) hr T.af (Za (Y2 Y7 (Zs Zn (by rfl) T.ak PySem.boot_len (Za (pv 2) Zb)) Zd (Zx _)) Zb))))
   (Yv (Xd (Xs (Z6 (X2 L (pxT (Xl T) hr T.ap (Za (Zt Zo (pv 2) Zd (λ_ _=>rfl)) Zb))) (Z6 (X2 L (pxT (Xl T) hr T.ap (Za (Zt Zo (pv 2) Zd (λ_ _=>rfl)) Zb))) (X9 Zb))))))))),?_⟩;refine ⟨_,Z,Z,_,Z,x,⟨#[c]⟩,Z,Z,Z,by rw [sizeLine_eq]; lia,λl hl=>?_⟩;have jq:∀ p∈Txt.split x ⟨#[c]⟩,Asc p/\p.length<=900:=λp hp=>⟨(Vr hx hp).1,Nat.le_trans (Vr hx hp).2 hz⟩;have s1:Same H (upd H l (.lst ((Txt.split x ⟨#[c]⟩).map V.str))):=Same.new hl;have h1:(upd H l (.lst ((Txt.split x ⟨#[c]⟩).map V.str))) l=some (.lst ((Txt.split x ⟨#[c]⟩).map V.str)):=Zc;generalize upd H l (.lst ((Txt.split x ⟨#[c]⟩).map V.str))=H1 at s1 h1 ⊢;refine ⟨_,Z,l,_,Z,.inl (SqL.of h1),Z,_,Z,λe=>?_,λe=>?_⟩
  ·have e:(Txt.split x ⟨#[c]⟩).length=2:=by
    have e:=of_decide_eq_true e;rw [Ac] at e
    injection e with e
    lia
   obtain ⟨a1,a2,ew⟩:∃ a1 a2,Txt.split x ⟨#[c]⟩=[a1,a2]:=by
    match Txt.split x ⟨#[c]⟩,e with
    | [a1,a2],_=>exact ⟨_,_,Z⟩
   rw [ew] at h1 jq;have p1:=jq a1 (by simp);have p2:=jq a2 (by simp)
   have no:(numP a1=none\/numP a2=none)->prP c x=none:=λz=>by
    unfold prP;rw [ew]
    rcases z with z | z
    ·dsimp only; rw [z]
    ·dsimp only; rw [z]; cases numP a1 <;> rfl
   refine ⟨_,Z,l,_,_,_,Z,Z,SqL.of h1,(show atI [V.str a1,V.str a2] 0=some (V.str a1) from Z),a1,Z,p1.1,p1.2,λH2 s2=>⟨λi hi=>?_,λz=>k2 (no (.inl z)) _ (s1.trans s2)⟩⟩;refine ⟨_,Z,l,_,_,_,Z,Z,SqL.of (s2 _ _ h1),(show atI [V.str a1,V.str a2] 1=some (V.str a2) from Z),a2,Z,p2.1,p2.2,λH3 s3=>⟨λj hj=>?_,λz=>k2 (no (.inr z)) _ (s1.trans (s2.trans s3))⟩⟩;have p7:=s1.trans (s2.trans s3);refine ⟨(by show 2<=sizeLine; decide),λq hq=>?_⟩;exact k1 i j (by unfold prP; rw [ew]; dsimp only; rw [hi,hj]) q _ (p7.trans (Same.new hq)) (p7.free hq) Zc
  ·have e:(Txt.split x ⟨#[c]⟩).length≠2:=λz=>by
    have e:=of_decide_eq_false e;exact e (by rw [Ac,z]; rfl)
   refine k2 ?_ _ s1;unfold prP
   match Txt.split x ⟨#[c]⟩,e with
   | [],_=>rfl
   | [_],_=>rfl
   | [_,_],e=>exact absurd Z e
   | _ :: _ :: _ :: _,_=>rfl
def Vd:FnScope ["words","top","bottom"] ["words"] (Zg K4):=An
def Zed (T:Txt w K mg t):FnOk P w K mg base (CXr P w) 5 t.aT t.eJ ["words"] (Zdw t.aa):=by
 refine T.cv.F.okLA Vd (λvs H Q E h=>?_) (λ_ _ _ _ H vs Q E hr h=>?_)
 ·obtain ⟨a,ws,rfl,_⟩:=h
  rfl
 ·obtain ⟨a,ws,rfl,ha,hw,k1,k2⟩:=h
  refine ⟨_,(λ_ L=>(Zu (Z3 L.l (Yb (pxT (Z4 T) hr T.af (Za (Y2 Y7 (Zs Zn (by rfl) T.ak PySem.boot_len (Za (pv 0) Zb)) Zd (Zx _)) Zb))))
   (Zu (Z3 L.l (Zlw (pxT (J4 T) hr T.av (Za (Zt Zo (pv 0) Zd (λ_ _=>rfl)) (Za Zl Zb))) (Gg rfl (Xo (Z0 (i:=1) Vd.nd rfl (Or.inl rfl)) (Xo (Z0 (i:=2) Vd.nd rfl (Or.inl rfl)) Qd)))))
   (Yv (Xd (Xs (Z6 (X2 L (pxT (Xl T) hr T.ap (Za (Zt Zo (pv 0) Zd (λ_ _=>rfl)) Zb))) (Z6 (W6 (pv 1)) (Z6 (W6 (pv 2)) (X9 Zb)))))))))),?_⟩;refine ⟨_,Z,a,_,Z,.inl (SqL.of ha),Z,_,Z,λe=>?_,λe=>?_⟩
  ·have e:ws.length=2:=by
    have e:=of_decide_eq_true e;rw [Ac] at e
    injection e with e
    lia
   obtain ⟨x,y,rfl⟩:∃ x y,ws=[x,y]:=by
    match ws,e with
    | [x,y],_=>exact ⟨_,_,Z⟩
   have p1:=hw x (by simp);have p2:=hw y (by simp);refine ⟨_,Z,a,_,_,_,Z,Z,SqL.of ha,(show atI [V.str x,V.str y] 1=some (V.str y) from Z),y,47,Z,p2.1,p2.2,λi j hp l H2 s2 hl h2=>?_,λz H2 s2=>k2 (by unfold weiP; dsimp only; rw [z]) _ s2⟩;refine ⟨l,_,Z,SqT.of h2,Z,_,_,Z,_,_,Z,Z,?_⟩;refine ⟨_,Z,a,_,_,_,Z,Z,SqL.of (s2 _ _ ha),(show atI [V.str x,V.str y] 0=some (V.str x) from Z),x,Z,p1.1,p1.2,λH3 s3=>⟨λn hn=>?_,λz=>k2 (by unfold weiP; dsimp only; rw [hp,z]) _ (s2.trans s3)⟩⟩;have p7:=s2.trans s3;refine ⟨_,Z,_,Z,(by show 3<=sizeLine; decide),λq hq=>?_⟩;exact k1 n i j (by unfold weiP; dsimp only; rw [hp,hn]) q _ (p7.trans (Same.new hq)) (p7.free hq) Zc
  ·have e:ws.length≠2:=λz=>by
    have e:=of_decide_eq_false e;exact e (by rw [Ac,z]; rfl)
   refine k2 ?_ _ (Same.refl _);unfold weiP
   match ws,e with
   | [],_=>rfl
   | [_],_=>rfl
   | [_,_],e=>exact absurd Z e
   | _ :: _ :: _ :: _,_=>rfl
def Zf3:FnScope ["words"] ["words"] (Zg Fw):=An
def Gm (T:Txt w K mg t):FnOk P w K mg base (CXr P w) 4 t.bp t.fN ["words"] (Zfq t.aa):=by
 refine T.bx.F.okLA Zf3 (λvs H Q E h=>?_) (λ_ _ _ _ H vs Q E hr h=>?_)
 ·obtain ⟨a,ws,rfl,_⟩:=h
  rfl
 ·obtain ⟨a,ws,rfl,ha,hw,k1,k2⟩:=h
  refine ⟨_,(λ_ L=>(Zu (Z3 L.l (Yb (pxT (Z4 T) hr T.af (Za (Ux (Y2 Y7 (Zs Zn (by rfl) T.ak PySem.boot_len (Za (pv 0) Zb)) Zd (Zx _)) (Vk (Y2 F9 (Zt Zo (pv 0) Zd (λ_ _=>rfl)) (Yg (v:=.ref t.fR) Z T.iA Z) (by with_unfolding_all rfl)))) Zb))))
   (Yv (Xd (Xs (Z6 (X2 L (pxT (Xl T) hr T.ap (Za (Zt Zo (pv 0) Zd (λ_ _=>rfl)) Zb))) (Z6 (W6 (Zt Zo (pv 0) Zd (λ_ _=>rfl))) (X9 Zb)))))))),?_⟩;refine ⟨_,Z,a,_,Z,.inl (SqL.of ha),Z,_,Z,?_⟩;refine ite2 (λe=>?_) (λe=>⟨false,Z,(λz=>nomatch z),λ_=>?_⟩)
  ·have e:ws.length=2:=by
    have e:=of_decide_eq_true e;rw [Ac] at e
    injection e with e
    lia
   obtain ⟨x,y,rfl⟩:∃ x y,ws=[x,y]:=by
    match ws,e with
    | [x,y],_=>exact ⟨_,_,Z⟩
   have p1:=hw x (by simp);refine ⟨_,Z,a,_,_,_,Z,Z,SqL.of ha,(show atI [V.str x,V.str y] 1=some (V.str y) from Z),t.fR,_,Z,.inr (T.iB H),Z,Zak _,_,Z,λz=>?_,λz=>?_⟩
   ·have z:y∈([Str.ofString "left",Str.ofString "right"]:List Str):=by
     have z:inV (.str y) (([Str.ofString "left",Str.ofString "right"]:List Str).map V.str)=true:=z;rw [V4] at z;exact of_decide_eq_true z
    refine ⟨_,Z,a,_,_,_,Z,Z,SqL.of ha,(show atI [V.str x,V.str y] 0=some (V.str x) from Z),x,Z,p1.1,p1.2,λH3 s3=>⟨λn hn=>?_,λz'=>k2 (by unfold trnP; dsimp only; rw [if_pos z,z']) _ s3⟩⟩;refine ⟨_,Z,a,_,_,_,Z,Z,SqL.of (s3 _ _ ha),(show atI [V.str x,V.str y] 1=some (V.str y) from Z),(by show 2<=sizeLine; decide),λq hq=>?_⟩;exact k1 n y (by unfold trnP; dsimp only; rw [if_pos z,hn]) q _ (s3.trans (Same.new hq)) (s3.free hq) Zc
   ·have z:y ∉ ([Str.ofString "left",Str.ofString "right"]:List Str):=by
     have z:inV (.str y) (([Str.ofString "left",Str.ofString "right"]:List Str).map V.str)=false:=z;rw [V4] at z;exact of_decide_eq_false z
    exact k2 (by unfold trnP; dsimp only; rw [if_neg z]) _ (Same.refl _)
  ·have e:ws.length≠2:=λz=>e (decide_eq_true (by rw [Ac,z]; rfl))
   refine k2 ?_ _ (Same.refl _);unfold trnP
   match ws,e with
   | [],_=>rfl
   | [_],_=>rfl
   | [_,_],e=>exact absurd Z e
   | _ :: _ :: _ :: _,_=>rfl
def smL' (ws:List Str):List Int:=ws.map λw=>((prP 58 w).getD (0,0)).1
def Zgv (ws:List Str):Prop:=(∃ w∈ws,prP 58 w=none)\/¬ (smL' ws).Pairwise (· < ·)
def Zay (EB:Addr):Sp:=λvs H Q E=>∃ (a:Addr) (ws:List Str),vs=[.ref a]/\H a=some (.lst (ws.map V.str))/\ws.length < 64/\(∀ x∈ws,Asc x/\x.length<=900)/\Zgv ws/\∀ H',Same H H'->E (.ref EB) none H'
def Zgu (ws:List Str):Prop:=∀ n r,ws=n :: r->r≠[]->isN n=true->Zgv r
def Zdz (EB:Addr):Sp:=λvs H Q E=>∃ (a:Addr) (ws:List Str),vs=[.ref a]/\H a=some (.lst (ws.map V.str))/\ws.length < 64/\(∀ x∈ws,Asc x/\x.length<=900)/\Zgu ws/\∀ H',Same H H'->E (.ref EB) none H'
def Zn7 {l out:List Int} (e:l=out) (h1:out.Nodup) (h2:out.Pairwise (·<=·)):l.Pairwise (· < ·):=by
 subst e;exact (h1.and h2).imp λ⟨a,b⟩=>by lia
def Qi:FnScope ["words","pairs","seams"] ["words"] (Zg Ka):=An
def Zc8 (T:Txt w K mg t):FnOk P w K mg base (CXr P w) 5 t.dh t.dz ["words"] (Zay t.aa):=by
  refine T.dG.F.okLA Qi (λvs H Q E h=>?_) (λ_ _ _ _ H vs Q E hr h=>?_)
  · obtain ⟨a,ws,rfl,_⟩:=h
    rfl
  · obtain ⟨a,ws,rfl,ha,lz,hw,hb,k⟩:=h
    refine ⟨_,(λ_ L=>(Zu (Qo (ts:=["word"]) (fv:=[]) (i:=1) L ⟨rfl,by decide +kernel,by decide +kernel,Yy (by rfl),trivial⟩ rfl Qi.nd rfl rfl (by rfl) (Xf (pv 0)) (λ_ _ _ _=>(Z0 (i:=0) (show List.Nodup (["word"]:List Str) from by decide +kernel) rfl (Or.inl rfl) (Or.inr rfl))) (λ_ _ _ _=>Y8) (λ_ _ _=>rfl) (λ_ _ _ _ _ _=>Vy (Vx (J4 T) (hr.mono (by decide)) rfl T.av.g T.av.F.kp T.av.b .nil (Za (pv 0) (Za Zl Zb)))))
      (Zu (Z3 L.l (Z7 (Jm (ts:=["seam","number"]) (fv:=[]) (i:=2) ⟨rfl,by decide +kernel,by decide +kernel,Yy (by rfl),trivial⟩ rfl Qi.nd rfl rfl (by rfl) (Xf (pv 1)) (λ_ _ _ _=>(Fh (n:=2) K rfl (Xo (Z0 (i:=0) (show List.Nodup (["seam","number"]:List Str) from by decide +kernel) rfl (Or.inl rfl) (Or.inr rfl)) (Xo (Z0 (i:=1) (show List.Nodup (["seam","number"]:List Str) from by decide +kernel) rfl (Or.inl rfl) (Or.inr rfl)) Qd)))) (λ_ _ _ _=>Y8) (λ_ _ _=>rfl) (λ_ _ _ _ _ _=>Xt (pv 0)))))
      (Zu (Z3 L.l (Yb (pxT (Z4 T) hr T.af (Za (Y2 (Znm hr.units) (pv 2) (Zs (Zdo rfl) (by rfl) T.gH PyProof.Rows.boot_sorted (Za (Xj (Ziy rfl) (by rfl) T.iR PySem.Pv.boot_set (Za (pv 2) Zb)) Zb)) (Zx _)) Zb))))
      (Yv (Z3 L.l (Z7 (Zw (Xj Gz (by rfl) T.ir PySem.Pv.boot_dict (Za (pv 1) Zb)))))))))),?_⟩;refine ⟨_,Z,a,Z,⟨_,SqL.of ha⟩,λD hD=>?_⟩;refine Y3 (xs:=ws.map V.str) (λi σ H6=>∃ (v:Option V) (us:List Addr),σ=[v]/\Same H H6/\H6 D=some (.lst (us.map V.ref))/\us.length=i/\(∀ w∈ws.take i,prP 58 w≠none)/\∀ (k:Nat) u w,us[k]?=some u->ws[k]?=some w->u≠D/\∃ n,H6 u=some (.tup [.int ((prP 58 w).getD (0,0)).1,.int n])) ⟨none,[],rfl,Same.new hD,Zc,rfl,(λw hw=>by cases hw),(λk u w e=>by simp at e)⟩ ?_ ?_ ?_
    · rintro i σ H6 _ ⟨v,us,rfl,s6,_⟩
      exact SqL.of (s6 _ _ ha)
    · rintro i q σ H6 hq ⟨v,us,rfl,s6,h6,hl,hs,ea⟩
      obtain ⟨x,hx,rfl⟩:=Y1 hq;have qq:=(Aa hx).1;have hxm:=Av hx;have pp:=hw x hxm;dsimp only [Z2,tYes];rw [if_pos rfl];refine ⟨_,Z,x,58,Z,pp.1,pp.2,λi1 i2 e m H7 s7 hm h7=>?_,λe H7 s7=>k _ (s6.trans s7)⟩;have hmD:m≠D:=λz=>by rw [z,h6] at hm; cases hm
      refine ⟨_,s7 _ _ h6,by rw [Ac,hl,sizeLine_eq]; lia,_,us ++ [m],rfl,Same.add (s6.trans s7) hD,by rw [Zc,Ak]; rfl,by rw [Af,hl]; rfl,λw xj=>?_,λk' u w' e1 e2=>?_⟩
      · rw [Ax,hx] at xj
        rcases List.mem_append.mp xj with z | z
        · exact hs w z
        · have:w=x:=by simpa using z
          rw [this,e];exact λz=>nomatch z
      · by_cases c:k' < us.length
        · rw [Aw c] at e1
          obtain ⟨z1,n,z2⟩:=ea k' u w' e1 e2;exact ⟨z1,n,by rw [Zh z1]; exact s7 _ _ z2⟩
        · have e':k'=us.length:=by
            have:=(Aa e1).1;rw [Af,Au] at this;lia
          subst e';rw [List.getElem?_append_right (Ao _),Nat.sub_self] at e1;rw [hl,hx] at e2;cases e1;cases e2;exact ⟨hmD,i2,by rw [Zh hmD,e]; exact h7⟩
    rintro σ H6 ⟨v,us,rfl,s6,h6,hl,hs,ea⟩;rw [Ac] at hl;rw [Ac,List.take_length] at hs;have hb':¬ (smL' ws).Pairwise (· < ·):=by
      rcases hb with ⟨x,hx,e⟩ | hb
      · exact absurd e (hs x hx)
      · exact hb
    refine ⟨_,Z,D,Z,⟨_,SqL.of h6⟩,λD2 mh=>?_⟩;refine Y3 (xs:=us.map V.ref) (λi σ H8=>∃ (v1 v2:Option V),σ=[v1,v2]/\Same H6 H8/\H8 D2=some (.lst (((smL' ws).take i).map V.int))) ⟨none,none,Z,Same.new mh,Zc⟩ ?_ ?_ ?_
    · rintro i σ H8 _ ⟨v1,v2,rfl,s8,_⟩
      exact SqL.of (s8 _ _ h6)
    · rintro i q σ H8 hq ⟨v1,v2,rfl,s8,h8⟩
      obtain ⟨u,hu,rfl⟩:=Y1 hq;have qq:i < ws.length:=by rw [<- hl]; exact (Aa hu).1
      obtain ⟨_,n,z2⟩:=ea i u _ hu (Ad qq);refine ⟨u,_,Z,SqT.of (s8 _ _ z2),Z,_,_,Z,_,_,Z,Z,?_⟩;dsimp only [tYes];rw [if_pos rfl];refine ⟨_,Z,_,h8,by rw [Ac,Aj,sizeLine_eq]; lia,_,_,rfl,Same.add s8 mh,?_⟩;have hx:(smL' ws)[i]?=some ((prP 58 ws[i]).getD (0,0)).1:=by unfold smL'; rw [Ai,Ad qq]; rfl
      rw [Zc,Ax,hx,Ak];rfl
    rintro σ H8 ⟨v1,v2,rfl,s8,h8⟩;have ql:(smL' ws).length=ws.length:=by unfold smL'; rw [Ac]
    rw [Ac,hl,List.take_of_length_le (Nat.le_of_eq ql)] at h8;refine ⟨_,Z,_,Z,D2,smL' ws,Z,SqL.of h8,by lia,λq hq=>?_⟩;obtain ⟨d1,d2,d3⟩:=Zfk (smL' ws) [] List.nodup_nil;refine ⟨q,dd (smL' ws),Z,Zc,Nat.lt_of_le_of_lt d3 (by rw [List.length_nil,Nat.zero_add]; lia),λq2 out xn pm so=>?_⟩;have s9:=(Same.new (o:=setH P w q (dd (smL' ws))) hq).trans (Same.new (o:=.lst (out.map V.int)) xn);refine ⟨D2,q2,smL' ws,out,Z,Z,SqL.of (s9 _ _ h8),SqL.of Zc,_,Z,λe=>?_,λ_=>k _ (s6.trans (s8.trans s9))⟩;exact absurd (Zn7 (of_decide_eq_true e) (pm.nodup_iff.mpr d1) so) hb'
def Zf4:FnScope ["words"] ["words"] (Zg Fx):=An
def Zga (T:Txt w K mg t):FnOk P w K mg base (CXr P w) 6 t.bn t.fL ["words"] (Zdz t.aa):=by
 refine T.cS.F.okLA Zf4 (λvs H Q E h=>?_) (λ_ _ _ _ H vs Q E hr h=>?_)
 ·obtain ⟨a,ws,rfl,_⟩:=h
  rfl
 ·obtain ⟨a,ws,rfl,ha,lz,hw,hb,k⟩:=h
  refine ⟨_,(λ_ L=>(Zu (Z3 L.l (Yb (pxT (Z4 T) hr T.af (Za (Y2 Zbk (Zs Zn (by rfl) T.ak PySem.boot_len (Za (pv 0) Zb)) Zd (Zx _)) Zb))))
   (Yv (Xd (Xs (Z6 (X2 L (pxT (J8 T) hr T.bw (Za (Zt Zo (pv 0) Zd (λ_ _=>rfl)) Zb))) (Z6 (X2 L (pxT (Zc8 T) hr T.dG (Za (Y6 Xm (pv 0) (Xe Zd) Xr) Zb))) (X9 Zb)))))))),?_⟩;refine ⟨_,Z,a,_,Z,.inl (SqL.of ha),_,_,Z,Z,_,Z,λe=>?_,λe=>k _ (Same.refl _)⟩;have e:2<=ws.length:=by
   have e:=of_decide_eq_true e
   rw [Ac] at e
   lia
  obtain ⟨x,y,r,rfl⟩:∃ x y r,ws=x :: y :: r:=by
   match ws,e with
   | x :: y :: r,_=>exact ⟨_,_,_,Z⟩
  have p1:=hw x List.mem_cons_self;refine ⟨_,Z,a,_,_,_,Z,Z,SqL.of ha,(show atI (List.map V.str (x :: y :: r)) ((0:Nat):Int)=some (V.str x) from Yp (i:=0) Z),x,Z,p1.1,p1.2,λH2 s2=>⟨λz=>?_,λz=>k _ s2⟩⟩;refine ⟨_,Z,_,Z,a,_,Z,SqL.of (s2 _ _ ha),λc hc=>?_⟩;rw [cut1];have s3:Same H2 (upd H2 c (.lst ((y :: r).map V.str))):=Same.new hc;exact ⟨c,y :: r,Z,Zc,by rw [List.length_cons] at lz; lia,λq hq=>hw q (List.mem_cons_of_mem _ hq),hb x (y :: r) rfl (λz=>nomatch z) z,λH' s'=>k _ (s2.trans (s3.trans s'))⟩
def rdK (t:Adr):List (Key × V):=[(Sum.inr "lay",.ref t.bR),(Sum.inr "pour",.ref t.bn),(Sum.inr "lift",.ref t.bo),(Sum.inr "weigh",.ref t.aT),(Sum.inr "turn",.ref t.bp)]
def Ze4 (t:Adr):valV (rdK t) (Sum.inr (Str.ofString "lift"))=some (.ref t.bo):=rfl
def Zho (t:Adr):valV (rdK t) (Sum.inr (Str.ofString "lay"))=some (.ref t.bR):=rfl
def Ze3 (t:Adr):valV (rdK t) (Sum.inr (Str.ofString "pour"))=some (.ref t.bn):=rfl
def Zcs (t:Adr):valV (rdK t) (Sum.inr (Str.ofString "weigh"))=some (.ref t.aT):=rfl
def Od (t:Adr):valV (rdK t) (Sum.inr (Str.ofString "turn"))=some (.ref t.bp):=rfl
def rdN:List Str:=["lay","pour","lift","weigh","turn"]
def Zoo {t:Adr} {x:Str} (h:x ∉ rdN):valV (rdK t) (Sum.inr x)=none:=by
 unfold valV rdK;rw [List.find?_eq_none.mpr]
 ·rfl
 ·intro y hy e
  unfold rdN at h;simp only [List.mem_cons,List.not_mem_nil,or_false,not_or] at hy h;obtain ⟨h1,h2,h3,h4,h5⟩:=h
  rcases hy with rfl | rfl | rfl | rfl | rfl <;> (have e:=of_decide_eq_true e; injection e with e)
  ·exact h1 e.symm
  ·exact h2 e.symm
  ·exact h3 e.symm
  ·exact h4 e.symm
  ·exact h5 e.symm
def Zk9 (r:List Str):Prop:=∀ y,r=[y]->isN y=false
def Zk8 (r:List Str):Prop:=∀ y z q,r=y :: z :: q->isN y=true->Vz (z :: q)=none
def Qh (EB:Addr) (v:Str) (bad:List Str->Prop):Sp:=λvs H Q E=>∃ (x:Str) (r:List Str),vs=[.str x]/\Asc x/\x.length<=890/\r.length < 64/\wdS x=v :: r/\bad r/\∀ H',Same H H'->E (.ref EB) none H'
def Zfy (EB:Addr):Sp:=λvs H Q E=>∃ (x y:Str) (r:List Str),vs=[.str x]/\x.length<=900/\wdS x=y :: r/\y ∉ rdN/\∀ H',Same H H'->E (.ref EB) none H'
def BadG (x:Str):Prop:=∃ y r,wdS x=y :: r/\r.length < 64/\(y ∉ rdN\/(y=Str.ofString "lift"/\Zk9 r)\/(y=Str.ofString "lay"/\Zk8 r)\/(y=Str.ofString "turn"/\trnP r=none)\/(y=Str.ofString "weigh"/\weiP r=none)\/(y=Str.ofString "pour"/\Zgu r))
def Vc (EB:Addr):Sp:=λvs H Q E=>∃ x:Str,vs=[.str x]/\Asc x/\x.length<=890/\BadG x/\∀ H',Same H H'->E (.ref EB) none H'
def Z9:FnScope ["text","words","reader"] ["text"] (Zg F6):=An
def Zgf (T:Txt w K mg t):FnOk P w K mg base (CXr P w) 7 t.az t.aA ["text"] (Zfy t.aa):=by
 refine T.ax.F.aX Z9 (λ_ _ _ _ H vs Q E hr h=>?_)
 ·obtain ⟨x,y,r,rfl,hz,hw,hy,k⟩:=h
  refine ⟨_,(Yk (Z7 (Zj (i:=1) Z9.nd Z (Or.inl Z) (Y4 PySem.F.plainAttrs_str PySem.F.slot_str_split PySem.F.type_str_split Xu (pv 0) (Za Zl Zb))))
   (Yk (Yb (pxT (Z4 T) hr T.af (Za (Qq (Qr (Zt Zo (pv 1) Zd (λ_ _=>rfl)) (Yg (v:=.ref t.ae) rfl T.al rfl)) (by with_unfolding_all rfl)) Zb)))
   (Zlx X0))),?_⟩;refine ⟨_,Z,Z,x,Str.ofString " ",rfl,rfl,rfl,by rw [sizeLine_eq]; lia,λl hl=>?_⟩;have s1:Same H (upd H l (.lst ((Txt.split x (Str.ofString " ")).map V.str))):=Same.new hl;have h1:(upd H l (.lst ((Txt.split x (Str.ofString " ")).map V.str))) l=some (.lst ((Txt.split x (Str.ofString " ")).map V.str)):=Zc;generalize upd H l (.lst ((Txt.split x (Str.ofString " ")).map V.str))=H1 at s1 h1 ⊢;replace h1:H1 l=some (.lst ((wdS x).map V.str)):=h1;rw [hw] at h1;refine ⟨_,Z,l,_,_,_,Z,Z,SqL.of h1,(show atI (List.map V.str (y :: r)) ((0:Nat):Int)=some (V.str y) from Yp (i:=0) Z),t.ae,_,Sum.inr y,Z,T.am,Z,_,Z,λe=>?_,λ_=>k _ s1⟩;have e:(valV (rdK t) (Sum.inr y)).isSome=true:=e;rw [Zoo hy] at e;cases e
def Zc6 (T:Txt w K mg t):FnOk P w K mg base (CXr P w) 7 t.az t.aA ["text"] (Qh t.aa (Str.ofString "lift") Zk9):=by
 refine T.ax.F.okLA Z9 (λvs H Q E h=>?_) (λ_ _ _ _ H vs Q E hr h=>?_)
 ·obtain ⟨x,r,rfl,_⟩:=h
  rfl
 ·obtain ⟨x,r,rfl,hx,hz,sg,hw,hb,k⟩:=h
  refine ⟨_,(λ_ L=>(Zu (Z3 L.l (Z7 (Zj (i:=1) Z9.nd Z (Or.inl Z) (Y4 PySem.F.plainAttrs_str PySem.F.slot_str_split PySem.F.type_str_split Xu (pv 0) (Za Zl Zb)))))
   (Zu (Z3 L.l (Yb (pxT (Z4 T) hr T.af (Za (Qq (Qr (Zt Zo (pv 1) Zd (λ_ _=>rfl)) (Yg (v:=.ref t.ae) rfl T.al rfl)) (by with_unfolding_all rfl)) Zb))))
   (Zu (Z3 L.l (Z7 (Zj (i:=2) Z9.nd rfl (Or.inl rfl) (Qf (Yg (v:=.ref t.ae) rfl T.al rfl) (Zt Zo (pv 1) Zd (λ_ _=>rfl)) (λ_ _=>rfl)))))
   (Yv (Xd (Xs (Z6 (W6 (Zt Zo (pv 1) Zd (λ_ _=>rfl))) (Z6 (X2 L (W3 (i:=2) (Zgb T) (hr.mono (by decide)) rfl (Or.inl rfl) T.cT.F.kp T.cT.b .nil (Za (Y6 Xm (pv 1) (Xe Zd) Xr) Zb))) (X9 Zb)))))))))),?_⟩;refine ⟨_,Z,Z,x,Str.ofString " ",rfl,rfl,rfl,by rw [sizeLine_eq]; lia,λl hl=>?_⟩;have s1:Same H (upd H l (.lst ((Txt.split x (Str.ofString " ")).map V.str))):=Same.new hl;have h1:(upd H l (.lst ((Txt.split x (Str.ofString " ")).map V.str))) l=some (.lst ((Txt.split x (Str.ofString " ")).map V.str)):=Zc;generalize upd H l (.lst ((Txt.split x (Str.ofString " ")).map V.str))=H1 at s1 h1 ⊢;replace h1:H1 l=some (.lst ((wdS x).map V.str)):=h1;have jq:∀ p∈wdS x,Asc p/\p.length<=900:=λp hp=>⟨(Xc hx hp).1,Nat.le_trans (Xc hx hp).2 (by lia)⟩;rw [hw] at h1 jq;replace jq:∀ p∈r,Asc p/\p.length<=900:=λp hp=>jq p (List.mem_cons_of_mem _ hp);have h0:atI (List.map V.str (Str.ofString "lift" :: r)) ((0:Nat):Int)=some (V.str (Str.ofString "lift")):=Yp (i:=0) rfl;refine ⟨_,Z,l,_,_,_,Z,Z,SqL.of h1,h0,t.ae,_,Sum.inr (Str.ofString "lift"),rfl,T.am,rfl,_,rfl,λ_=>?_,λe=>?_⟩
  ·refine ⟨_,Z,l,_,_,_,Z,Z,SqL.of h1,h0,t.ae,_,Sum.inr (Str.ofString "lift"),_,rfl,T.am,rfl,Ze4 t,?_⟩
   refine ⟨_,Z,l,_,_,_,Z,Z,SqL.of h1,h0,?_⟩;refine ⟨Z,_,Z,_,Z,l,_,Z,SqL.of h1,λc hc=>?_⟩;rw [cut1];have s2:Same H1 (upd H1 c (.lst (r.map V.str))):=Same.new hc;have kk:∀ H',Same (upd H1 c (.lst (r.map V.str))) H'->E (.ref t.aa) none H':=λH' s'=>k _ (s1.trans (s2.trans s'));exact ⟨c,r,Z,Zc,jq,λy e n=>absurd (hb y e) (by rw [n]; decide),λ_=>kk⟩
  ·have e:(valV (rdK t) (Sum.inr (Str.ofString "lift"))).isSome=false:=e
   rw [Ze4] at e;cases e
def Zej (T:Txt w K mg t):FnOk P w K mg base (CXr P w) 7 t.az t.aA ["text"] (Qh t.aa (Str.ofString "lay") Zk8):=by
 refine T.ax.F.okLA Z9 (λvs H Q E h=>?_) (λ_ _ _ _ H vs Q E hr h=>?_)
 ·obtain ⟨x,r,rfl,_⟩:=h
  rfl
 ·obtain ⟨x,r,rfl,hx,hz,sg,hw,hb,k⟩:=h
  refine ⟨_,(λ_ L=>(Zu (Z3 L.l (Z7 (Zj (i:=1) Z9.nd Z (Or.inl Z) (Y4 PySem.F.plainAttrs_str PySem.F.slot_str_split PySem.F.type_str_split Xu (pv 0) (Za Zl Zb)))))
   (Zu (Z3 L.l (Yb (pxT (Z4 T) hr T.af (Za (Qq (Qr (Zt Zo (pv 1) Zd (λ_ _=>rfl)) (Yg (v:=.ref t.ae) rfl T.al rfl)) (by with_unfolding_all rfl)) Zb))))
   (Zu (Z3 L.l (Z7 (Zj (i:=2) Z9.nd rfl (Or.inl rfl) (Qf (Yg (v:=.ref t.ae) rfl T.al rfl) (Zt Zo (pv 1) Zd (λ_ _=>rfl)) (λ_ _=>rfl)))))
   (Yv (Xd (Xs (Z6 (W6 (Zt Zo (pv 1) Zd (λ_ _=>rfl))) (Z6 (X2 L (W3 (i:=2) (Zh4 T) (hr.mono (by decide)) rfl (Or.inl rfl) T.eZ.F.kp T.eZ.b .nil (Za (Y6 Xm (pv 1) (Xe Zd) Xr) Zb))) (X9 Zb)))))))))),?_⟩;refine ⟨_,Z,Z,x,Str.ofString " ",rfl,rfl,rfl,by rw [sizeLine_eq]; lia,λl hl=>?_⟩;have s1:Same H (upd H l (.lst ((Txt.split x (Str.ofString " ")).map V.str))):=Same.new hl;have h1:(upd H l (.lst ((Txt.split x (Str.ofString " ")).map V.str))) l=some (.lst ((Txt.split x (Str.ofString " ")).map V.str)):=Zc;generalize upd H l (.lst ((Txt.split x (Str.ofString " ")).map V.str))=H1 at s1 h1 ⊢;replace h1:H1 l=some (.lst ((wdS x).map V.str)):=h1;have jq:∀ p∈wdS x,Asc p/\p.length<=900:=λp hp=>⟨(Xc hx hp).1,Nat.le_trans (Xc hx hp).2 (by lia)⟩;rw [hw] at h1 jq;replace jq:∀ p∈r,Asc p/\p.length<=900:=λp hp=>jq p (List.mem_cons_of_mem _ hp);have h0:atI (List.map V.str (Str.ofString "lay" :: r)) ((0:Nat):Int)=some (V.str (Str.ofString "lay")):=Yp (i:=0) rfl;refine ⟨_,Z,l,_,_,_,Z,Z,SqL.of h1,h0,t.ae,_,Sum.inr (Str.ofString "lay"),rfl,T.am,rfl,_,rfl,λ_=>?_,λe=>?_⟩
  ·refine ⟨_,Z,l,_,_,_,Z,Z,SqL.of h1,h0,t.ae,_,Sum.inr (Str.ofString "lay"),_,rfl,T.am,rfl,Zho t,?_⟩
   refine ⟨_,Z,l,_,_,_,Z,Z,SqL.of h1,h0,?_⟩;refine ⟨Z,_,Z,_,Z,l,_,Z,SqL.of h1,λc hc=>?_⟩;rw [cut1];have s2:Same H1 (upd H1 c (.lst (r.map V.str))):=Same.new hc;have kk:∀ H',Same (upd H1 c (.lst (r.map V.str))) H'->E (.ref t.aa) none H':=λH' s'=>k _ (s1.trans (s2.trans s'));exact ⟨c,r,Z,Zc,by lia,jq,λy z q ns e n1 n2=>absurd (hb y z q e n1) (by rw [n2]; exact λq=>nomatch q),λ_=>kk⟩
  ·have e:(valV (rdK t) (Sum.inr (Str.ofString "lay"))).isSome=false:=e
   rw [Zho] at e;cases e
def Zc4 (T:Txt w K mg t):FnOk P w K mg base (CXr P w) 7 t.az t.aA ["text"] (Qh t.aa (Str.ofString "turn") (λr=>trnP r=none)):=by
 refine T.ax.F.okLA Z9 (λvs H Q E h=>?_) (λ_ _ _ _ H vs Q E hr h=>?_)
 ·obtain ⟨x,r,rfl,_⟩:=h
  rfl
 ·obtain ⟨x,r,rfl,hx,hz,sg,hw,hb,k⟩:=h
  refine ⟨_,(λ_ L=>(Zu (Z3 L.l (Z7 (Zj (i:=1) Z9.nd Z (Or.inl Z) (Y4 PySem.F.plainAttrs_str PySem.F.slot_str_split PySem.F.type_str_split Xu (pv 0) (Za Zl Zb)))))
   (Zu (Z3 L.l (Yb (pxT (Z4 T) hr T.af (Za (Qq (Qr (Zt Zo (pv 1) Zd (λ_ _=>rfl)) (Yg (v:=.ref t.ae) rfl T.al rfl)) (by with_unfolding_all rfl)) Zb))))
   (Zu (Z3 L.l (Z7 (Zj (i:=2) Z9.nd rfl (Or.inl rfl) (Qf (Yg (v:=.ref t.ae) rfl T.al rfl) (Zt Zo (pv 1) Zd (λ_ _=>rfl)) (λ_ _=>rfl)))))
   (Yv (Xd (Xs (Z6 (W6 (Zt Zo (pv 1) Zd (λ_ _=>rfl))) (Z6 (X2 L (W3 (i:=2) (Gm T) (hr.mono (by decide)) rfl (Or.inl rfl) T.bx.F.kp T.bx.b .nil (Za (Y6 Xm (pv 1) (Xe Zd) Xr) Zb))) (X9 Zb)))))))))),?_⟩;refine ⟨_,Z,Z,x,Str.ofString " ",rfl,rfl,rfl,by rw [sizeLine_eq]; lia,λl hl=>?_⟩;have s1:Same H (upd H l (.lst ((Txt.split x (Str.ofString " ")).map V.str))):=Same.new hl;have h1:(upd H l (.lst ((Txt.split x (Str.ofString " ")).map V.str))) l=some (.lst ((Txt.split x (Str.ofString " ")).map V.str)):=Zc;generalize upd H l (.lst ((Txt.split x (Str.ofString " ")).map V.str))=H1 at s1 h1 ⊢;replace h1:H1 l=some (.lst ((wdS x).map V.str)):=h1;have jq:∀ p∈wdS x,Asc p/\p.length<=900:=λp hp=>⟨(Xc hx hp).1,Nat.le_trans (Xc hx hp).2 (by lia)⟩;rw [hw] at h1 jq;replace jq:∀ p∈r,Asc p/\p.length<=900:=λp hp=>jq p (List.mem_cons_of_mem _ hp);have h0:atI (List.map V.str (Str.ofString "turn" :: r)) ((0:Nat):Int)=some (V.str (Str.ofString "turn")):=Yp (i:=0) rfl;refine ⟨_,Z,l,_,_,_,Z,Z,SqL.of h1,h0,t.ae,_,Sum.inr (Str.ofString "turn"),rfl,T.am,rfl,_,rfl,λ_=>?_,λe=>?_⟩
  ·refine ⟨_,Z,l,_,_,_,Z,Z,SqL.of h1,h0,t.ae,_,Sum.inr (Str.ofString "turn"),_,rfl,T.am,rfl,Od t,?_⟩
   refine ⟨_,Z,l,_,_,_,Z,Z,SqL.of h1,h0,?_⟩;refine ⟨Z,_,Z,_,Z,l,_,Z,SqL.of h1,λc hc=>?_⟩;rw [cut1];have s2:Same H1 (upd H1 c (.lst (r.map V.str))):=Same.new hc;have kk:∀ H',Same (upd H1 c (.lst (r.map V.str))) H'->E (.ref t.aa) none H':=λH' s'=>k _ (s1.trans (s2.trans s'));exact ⟨c,r,Z,Zc,jq,λn y e=>absurd (hb.symm.trans e) (λq=>nomatch q),λ_=>kk⟩
  ·have e:(valV (rdK t) (Sum.inr (Str.ofString "turn"))).isSome=false:=e
   rw [Od] at e;cases e
def Zbg (T:Txt w K mg t):FnOk P w K mg base (CXr P w) 7 t.az t.aA ["text"] (Qh t.aa (Str.ofString "weigh") (λr=>weiP r=none)):=by
 refine T.ax.F.okLA Z9 (λvs H Q E h=>?_) (λ_ _ _ _ H vs Q E hr h=>?_)
 ·obtain ⟨x,r,rfl,_⟩:=h
  rfl
 ·obtain ⟨x,r,rfl,hx,hz,sg,hw,hb,k⟩:=h
  refine ⟨_,(λ_ L=>(Zu (Z3 L.l (Z7 (Zj (i:=1) Z9.nd Z (Or.inl Z) (Y4 PySem.F.plainAttrs_str PySem.F.slot_str_split PySem.F.type_str_split Xu (pv 0) (Za Zl Zb)))))
   (Zu (Z3 L.l (Yb (pxT (Z4 T) hr T.af (Za (Qq (Qr (Zt Zo (pv 1) Zd (λ_ _=>rfl)) (Yg (v:=.ref t.ae) rfl T.al rfl)) (by with_unfolding_all rfl)) Zb))))
   (Zu (Z3 L.l (Z7 (Zj (i:=2) Z9.nd rfl (Or.inl rfl) (Qf (Yg (v:=.ref t.ae) rfl T.al rfl) (Zt Zo (pv 1) Zd (λ_ _=>rfl)) (λ_ _=>rfl)))))
   (Yv (Xd (Xs (Z6 (W6 (Zt Zo (pv 1) Zd (λ_ _=>rfl))) (Z6 (X2 L (W3 (i:=2) (Zed T) (hr.mono (by decide)) rfl (Or.inl rfl) T.cv.F.kp T.cv.b .nil (Za (Y6 Xm (pv 1) (Xe Zd) Xr) Zb))) (X9 Zb)))))))))),?_⟩;refine ⟨_,Z,Z,x,Str.ofString " ",rfl,rfl,rfl,by rw [sizeLine_eq]; lia,λl hl=>?_⟩;have s1:Same H (upd H l (.lst ((Txt.split x (Str.ofString " ")).map V.str))):=Same.new hl;have h1:(upd H l (.lst ((Txt.split x (Str.ofString " ")).map V.str))) l=some (.lst ((Txt.split x (Str.ofString " ")).map V.str)):=Zc;generalize upd H l (.lst ((Txt.split x (Str.ofString " ")).map V.str))=H1 at s1 h1 ⊢;replace h1:H1 l=some (.lst ((wdS x).map V.str)):=h1;have jq:∀ p∈wdS x,Asc p/\p.length<=900:=λp hp=>⟨(Xc hx hp).1,Nat.le_trans (Xc hx hp).2 (by lia)⟩;rw [hw] at h1 jq;replace jq:∀ p∈r,Asc p/\p.length<=900:=λp hp=>jq p (List.mem_cons_of_mem _ hp);have h0:atI (List.map V.str (Str.ofString "weigh" :: r)) ((0:Nat):Int)=some (V.str (Str.ofString "weigh")):=Yp (i:=0) rfl;refine ⟨_,Z,l,_,_,_,Z,Z,SqL.of h1,h0,t.ae,_,Sum.inr (Str.ofString "weigh"),rfl,T.am,rfl,_,rfl,λ_=>?_,λe=>?_⟩
  ·refine ⟨_,Z,l,_,_,_,Z,Z,SqL.of h1,h0,t.ae,_,Sum.inr (Str.ofString "weigh"),_,rfl,T.am,rfl,Zcs t,?_⟩
   refine ⟨_,Z,l,_,_,_,Z,Z,SqL.of h1,h0,?_⟩;refine ⟨Z,_,Z,_,Z,l,_,Z,SqL.of h1,λc hc=>?_⟩;rw [cut1];have s2:Same H1 (upd H1 c (.lst (r.map V.str))):=Same.new hc;have kk:∀ H',Same (upd H1 c (.lst (r.map V.str))) H'->E (.ref t.aa) none H':=λH' s'=>k _ (s1.trans (s2.trans s'));exact ⟨c,r,Z,Zc,jq,λn i j e=>absurd (hb.symm.trans e) (λq=>nomatch q),λ_=>kk⟩
  ·have e:(valV (rdK t) (Sum.inr (Str.ofString "weigh"))).isSome=false:=e
   rw [Zcs] at e;cases e
def Zc5 (T:Txt w K mg t):FnOk P w K mg base (CXr P w) 7 t.az t.aA ["text"] (Qh t.aa (Str.ofString "pour") Zgu):=by
 refine T.ax.F.okLA Z9 (λvs H Q E h=>?_) (λ_ _ _ _ H vs Q E hr h=>?_)
 ·obtain ⟨x,r,rfl,_⟩:=h
  rfl
 ·obtain ⟨x,r,rfl,hx,hz,sg,hw,hb,k⟩:=h
  refine ⟨_,(λ_ L=>(Zu (Z3 L.l (Z7 (Zj (i:=1) Z9.nd Z (Or.inl Z) (Y4 PySem.F.plainAttrs_str PySem.F.slot_str_split PySem.F.type_str_split Xu (pv 0) (Za Zl Zb)))))
   (Zu (Z3 L.l (Yb (pxT (Z4 T) hr T.af (Za (Qq (Qr (Zt Zo (pv 1) Zd (λ_ _=>rfl)) (Yg (v:=.ref t.ae) rfl T.al rfl)) (by with_unfolding_all rfl)) Zb))))
   (Zu (Z3 L.l (Z7 (Zj (i:=2) Z9.nd rfl (Or.inl rfl) (Qf (Yg (v:=.ref t.ae) rfl T.al rfl) (Zt Zo (pv 1) Zd (λ_ _=>rfl)) (λ_ _=>rfl)))))
   (Yv (Xd (Xs (Z6 (W6 (Zt Zo (pv 1) Zd (λ_ _=>rfl))) (Z6 (X2 L (W3 (i:=2) (Zga T) (hr.mono (by decide)) rfl (Or.inl rfl) T.cS.F.kp T.cS.b .nil (Za (Y6 Xm (pv 1) (Xe Zd) Xr) Zb))) (X9 Zb)))))))))),?_⟩;refine ⟨_,Z,Z,x,Str.ofString " ",rfl,rfl,rfl,by rw [sizeLine_eq]; lia,λl hl=>?_⟩;have s1:Same H (upd H l (.lst ((Txt.split x (Str.ofString " ")).map V.str))):=Same.new hl;have h1:(upd H l (.lst ((Txt.split x (Str.ofString " ")).map V.str))) l=some (.lst ((Txt.split x (Str.ofString " ")).map V.str)):=Zc;generalize upd H l (.lst ((Txt.split x (Str.ofString " ")).map V.str))=H1 at s1 h1 ⊢;replace h1:H1 l=some (.lst ((wdS x).map V.str)):=h1;have jq:∀ p∈wdS x,Asc p/\p.length<=900:=λp hp=>⟨(Xc hx hp).1,Nat.le_trans (Xc hx hp).2 (by lia)⟩;rw [hw] at h1 jq;replace jq:∀ p∈r,Asc p/\p.length<=900:=λp hp=>jq p (List.mem_cons_of_mem _ hp);have h0:atI (List.map V.str (Str.ofString "pour" :: r)) ((0:Nat):Int)=some (V.str (Str.ofString "pour")):=Yp (i:=0) rfl;refine ⟨_,Z,l,_,_,_,Z,Z,SqL.of h1,h0,t.ae,_,Sum.inr (Str.ofString "pour"),rfl,T.am,rfl,_,rfl,λ_=>?_,λe=>?_⟩
  ·refine ⟨_,Z,l,_,_,_,Z,Z,SqL.of h1,h0,t.ae,_,Sum.inr (Str.ofString "pour"),_,rfl,T.am,rfl,Ze3 t,?_⟩
   refine ⟨_,Z,l,_,_,_,Z,Z,SqL.of h1,h0,?_⟩;refine ⟨Z,_,Z,_,Z,l,_,Z,SqL.of h1,λc hc=>?_⟩;rw [cut1];have s2:Same H1 (upd H1 c (.lst (r.map V.str))):=Same.new hc;have kk:∀ H',Same (upd H1 c (.lst (r.map V.str))) H'->E (.ref t.aa) none H':=λH' s'=>k _ (s1.trans (s2.trans s'));exact ⟨c,r,Z,Zc,sg,jq,hb,kk⟩
  ·have e:(valV (rdK t) (Sum.inr (Str.ofString "pour"))).isSome=false:=e
   rw [Ze3] at e;cases e
def FnOk.imp {CX:CXT} {k:Nat} {f:Addr} {fd:FuncData} {ps:List Str} {sp u5:Sp} (F:FnOk P w K mg base CX k f fd ps sp) (h:∀ vs H Q E,u5 vs H Q E->sp vs H Q E):FnOk P w K mg base CX k f fd ps u5 :=
 ⟨λvs H Q E q=>F.len vs H Q E (h _ _ _ _ q),λA outer s H args us vs Q E hr he hb hv hs=>F.run A outer s H args us vs Q E hr he hb hv (h _ _ _ _ hs)⟩
def Gq (T:Txt w K mg t):FnOk P w K mg base (CXr P w) 7 t.az t.aA ["text"] (Vc t.aa):=by
 refine KT.FnOk.imp ((Zgf T).or ((Zc6 T).or ((Zej T).or ((Zc4 T).or ((Zbg T).or (Zc5 T)))))) λvs H Q E h=>?_;obtain ⟨x,rfl,hx,hz,⟨y,r,e,hr,b⟩,k⟩:=h
 rcases b with b | ⟨rfl,b⟩ | ⟨rfl,b⟩ | ⟨rfl,b⟩ | ⟨rfl,b⟩ | ⟨rfl,b⟩
 ·exact .inl ⟨x,y,r,Z,by lia,e,b,k⟩
 ·exact .inr (.inl ⟨x,r,Z,hx,hz,hr,e,b,k⟩)
 ·exact .inr (.inr (.inl ⟨x,r,Z,hx,hz,hr,e,b,k⟩))
 ·exact .inr (.inr (.inr (.inl ⟨x,r,Z,hx,hz,hr,e,b,k⟩)))
 ·exact .inr (.inr (.inr (.inr (.inl ⟨x,r,Z,hx,hz,hr,e,b,k⟩))))
 ·exact .inr (.inr (.inr (.inr (.inr ⟨x,r,Z,hx,hz,hr,e,b,k⟩))))
def askN:List Str:=[Str.ofString "thread",Str.ofString "least",Str.ofString "pool"]
def BadA (x:Str):Prop:=x≠Str.ofString "tent"/\x≠Str.ofString "numbers"/\x≠Str.ofString "back"/\x≠Str.ofString "again"/\((∃ y z,wdS x=[y,z]/\y∈askN/\isN z=false)\/((∀ y z,wdS x=[y,z]->y ∉ askN)/\BadG x))
def Zd4 (EB:Addr):Sp:=λvs H Q E=>∃ (p:Addr) (x:Str),vs=[.ref p,.str x]/\Asc x/\x.length<=890/\BadA x/\∀ H',Same H H'->E (.ref EB) none H'
def dne {x y:Str} (h:x≠y):decide (V.str x=V.str y)=false:=decide_eq_false λe=>by injection e with e; exact h e
def Jn (T:Txt w K mg t) {f:Addr} {fd:FuncData} {ps:List Str}:FnOk P w K mg base (CXr P w) 0 f fd ps (λ_ _ _ _=>False):=FnOk.no
def O3:FnScope ["hall","order","words"] ["hall","order"] (Zg Gc):=An
def Zem (T:Txt w K mg t):FnOk P w K mg base (CXr P w) 11 t.d6 t.eK ["hall","order"] (Zd4 t.aa):=by
 refine T.e7.F.aX O3 (λ_ _ _ _ H vs Q E hr h=>?_)
 ·obtain ⟨p,x,rfl,hx,hz,⟨n1,n2,n3,n4,hb⟩,k⟩:=h
  refine ⟨_,(Yk (Z7 (Zj (i:=2) O3.nd Z (Or.inl Z) (Y4 PySem.F.plainAttrs_str PySem.F.slot_str_split PySem.F.type_str_split Xu (pv 1) (Za Zl Zb))))
   (Yk (Z7 (Ym (Zy Y7 (pv 1) Zl (Zx _)) (Zi (Zw (pcT (Jn T) hr T.gB (Za (X5 (pv 0) T.ai T.au.m (Jn T) (hr.mono (by decide)) T.au.b .nil Yr) Zb)))) Yc))
   (Yk (Z7 (Ym (Zy Y7 (pv 1) Zl (Zx _)) (Zi (Zw (pcT (Jn T) hr T.fo (Za (X5 (pv 0) T.ai T.bY.m (Jn T) (hr.mono (by decide)) T.bY.b .nil Yr) Zb)))) Yc))
   (Yk (Jv (PW.pt (Gf (Zy Y7 (Zs Zn (by rfl) T.ak PySem.boot_len (Za (pv 2) Zb)) Zd (Zx _)) (Oe (Zy F9 (Zt Zo (pv 2) Zd (λ_ _=>rfl)) (Yg (v:=.ref t.aE) rfl T.cV rfl) (by with_unfolding_all rfl))))) (Yd (Zlv (F8 (Jn T) (hr.mono (by decide)) rfl T.cU.g T.cU.F.kp T.cU.b .nil (Qs (Zcx (pv 0)) (Qs (Zcx (Zt Zo (pv 2) Zd (λ_ _=>rfl))) (Qs (pxT (J8 T) hr T.bw (Za (Zt Zo (pv 2) Zd (λ_ _=>rfl)) Zb)) (Zhz Zb))))))) Je)
   (Yk (Jv (Zy Y7 (pv 1) Zl (Zx _)) (Yd (Z7 (Yw (X5 (pv 0) T.ai T.dF.m (Jn T) (hr.mono (by decide)) T.dF.b .nil Yr)))) (Yd (Jv (Zy Y7 (pv 1) Zl (Zx _)) (Yd (Z7 (Yw (X5 (pv 0) T.ai T.cO.m (Jn T) (hr.mono (by decide)) T.cO.b .nil Yr)))) (Yd (Yb (F8 (Jn T) (hr.mono (by decide)) rfl T.b6.g T.b6.F.kp T.b6.b .nil (Qs (Zcx (pv 0)) (Qs (pxT (Gq T) hr T.ax (Za (pv 1) Zb)) (Zhz Zb)))))))))
   (Yd (Z7 (Zw Zl)))))))),?_⟩;refine ⟨_,Z,Z,x,Str.ofString " ",rfl,rfl,rfl,by rw [sizeLine_eq]; lia,λl hl=>?_⟩;have s1:Same H (upd H l (.lst ((Txt.split x (Str.ofString " ")).map V.str))):=Same.new hl;have h1:(upd H l (.lst ((Txt.split x (Str.ofString " ")).map V.str))) l=some (.lst ((Txt.split x (Str.ofString " ")).map V.str)):=Zc;generalize upd H l (.lst ((Txt.split x (Str.ofString " ")).map V.str))=H1 at s1 h1 ⊢;replace h1:H1 l=some (.lst ((wdS x).map V.str)):=h1;refine ⟨_,Z,Z,false,congrArg V.bl (dne n1),iteF ?_⟩;refine ⟨_,Z,Z,false,congrArg V.bl (dne n2),iteF ?_⟩;refine ⟨_,Z,l,_,Z,.inl (SqL.of h1),Z,_,Z,?_⟩;have last:(∀ y z,wdS x=[y,z]->y ∉ askN)->BadG x->Vc t.aa [.str x] H1 (λ_ _=>False) (λc _ H'=>E c none H'):=λ_ b=>⟨x,rfl,hx,hz,b,λH' s'=>k _ (s1.trans s')⟩;refine ite2 (λe=>?_) (λe=>?_)
  ·have e:(wdS x).length=2:=by
    have e:=of_decide_eq_true e;rw [Ac] at e
    injection e with e
    lia
   obtain ⟨y,z,ew⟩:∃ y z,wdS x=[y,z]:=by
    match wdS x,e with
    | [y,z],_=>exact ⟨_,_,Z⟩
   have pz:=Xc hx (show z∈wdS x by rw [ew]; simp);rw [ew] at h1;refine ⟨_,Z,l,_,_,_,Z,Z,SqL.of h1,(show atI [V.str y,V.str z] 0=some (V.str y) from Z),t.aE,_,Z,.inr (T.cW H1),Z,Zak _,decide (y∈askN),congrArg V.bl (V4 y askN),?_⟩
   rcases hb with ⟨y',z',ew',hy,hn⟩ | ⟨hn,b⟩
   ·rw [ew] at ew'
    injection ew' with e1 e2
    injection e2 with e2
    subst e1 e2;rw [decide_eq_true hy];refine iteT ?_;refine ⟨_,Z,_,Z,l,_,_,_,Z,Z,SqL.of h1,(show atI [V.str y,V.str z] 0=some (V.str y) from Z),_,Z,l,_,_,_,Z,Z,SqL.of h1,(show atI [V.str y,V.str z] 1=some (V.str z) from Z),z,Z,pz.1,by lia,λH2 s2=>⟨λe=>absurd e (by rw [hn]; decide),λ_=>k _ (s1.trans s2)⟩⟩
   ·rw [decide_eq_false (hn y z ew)]
    refine iteF ?_;refine ⟨_,Z,Z,false,congrArg V.bl (dne n3),iteF ⟨_,Z,Z,false,congrArg V.bl (dne n4),iteF ?_⟩⟩;exact ⟨_,Z,_,Z,x,Z,hx,hz,b,λH' s'=>k _ (s1.trans s')⟩
  ·rcases hb with ⟨y',z',ew',hy,hn⟩ | ⟨hn,b⟩
   ·exact absurd (decide_eq_true (by rw [ew']; rfl)) e
   ·refine iteF ?_
    refine ⟨_,Z,Z,false,congrArg V.bl (dne n3),iteF ⟨_,Z,Z,false,congrArg V.bl (dne n4),iteF ?_⟩⟩;exact ⟨_,Z,_,Z,x,Z,hx,hz,b,λH' s'=>k _ (s1.trans s')⟩
def G0 (x:Str):Prop:=∃ r n y,wdS x=Str.ofString "turn" :: r/\trnP r=some (n,y)
def K0:Sp:=λvs H Q _=>∃ (x:Str) (r:List Str) (n:Int) (y:Str),vs=[.str x]/\Asc x/\x.length<=890/\wdS x=Str.ofString "turn" :: r/\trnP r=some (n,y)/\∀ u H',Same H H'->Q (.ref u) H'
def cloS:Str:=Str.ofString "cloth "
def Zaw:Sp:=λvs H Q _=>∃ (a:Addr) (C D:List Str),vs=[.ref a]/\H a=some (.lst ((C ++ D).map V.str))/\(∀ c∈C,Txt.startswith c cloS=true)/\(∀ d∈D.head?,Txt.startswith d cloS=false)/\Q (.int C.length) H
def cutA (C D:List Str):cutV ((C ++ D).map V.str) none (some (C.length:Int))=C.map V.str:=by
 unfold cutV;rw [HT.sIx_nat];show List.take (min C.length _ - 0) (List.drop 0 _)=_;rw [List.drop_zero,Ac,Af,Nat.min_eq_left (by lia),Nat.sub_zero,Ak,<- Ac (f:=V.str),List.take_left]
def cutB (C D:List Str):cutV ((C ++ D).map V.str) (some (C.length:Int)) none=D.map V.str:=by
 unfold cutV;rw [HT.sIx_nat];show List.take (((C ++ D).map V.str).length - min C.length _) (List.drop (min C.length _) _)=_;rw [Ac,Af,Nat.min_eq_left (by lia),Ak];rw [show List.drop C.length (C.map V.str ++ D.map V.str)=D.map V.str by rw [<- Ac (f:=V.str) (as:=C),List.drop_left]];rw [Nat.add_sub_cancel_left,<- Ac (f:=V.str),List.take_length]
def Zk7 (C D:List Str):Prop:=C=[]\/(∃ c∈C,cloP c=none)\/∃ D1 d D2,D=D1 ++ d :: D2/\(∀ g∈D1,G0 g)/\BadG d
def Zll (EB:Addr):Sp:=λvs H Q E=>∃ (x:Str) (C D:List Str),vs=[.str x]/\x.length<=100000/\Txt.split x (Str.ofString "\n")=C ++ D/\(C ++ D).length<=900/\(∀ r∈C ++ D,Asc r/\r.length<=890)/\(∀ c∈C,Txt.startswith c cloS=true)/\(∀ d∈D.head?,Txt.startswith d cloS=false)/\Zk7 C D/\∀ H',Same H H'->E (.ref EB) none H'
def Zge (T:Txt w K mg t):FnOk P w K mg base (CXr P w) 7 t.az t.aA ["text"] K0:=by
 refine T.ax.F.okLA Z9 (λvs H Q E h=>?_) (λ_ _ _ _ H vs Q E hr h=>?_)
 ·obtain ⟨x,r,m,y,rfl,_⟩:=h
  rfl
 ·obtain ⟨x,r,m,y,rfl,hx,hz,hw,hb,k⟩:=h
  refine ⟨_,(λ_ L=>(Zu (Z3 L.l (Z7 (Zj (i:=1) Z9.nd Z (Or.inl Z) (Y4 PySem.F.plainAttrs_str PySem.F.slot_str_split PySem.F.type_str_split Xu (pv 0) (Za Zl Zb)))))
   (Zu (Z3 L.l (Yb (pxT (Z4 T) hr T.af (Za (Qq (Qr (Zt Zo (pv 1) Zd (λ_ _=>rfl)) (Yg (v:=.ref t.ae) rfl T.al rfl)) (by with_unfolding_all rfl)) Zb))))
   (Zu (Z3 L.l (Z7 (Zj (i:=2) Z9.nd rfl (Or.inl rfl) (Qf (Yg (v:=.ref t.ae) rfl T.al rfl) (Zt Zo (pv 1) Zd (λ_ _=>rfl)) (λ_ _=>rfl)))))
   (Yv (Xd (Xs (Z6 (W6 (Zt Zo (pv 1) Zd (λ_ _=>rfl))) (Z6 (X2 L (W3 (i:=2) (Gm T) (hr.mono (by decide)) rfl (Or.inl rfl) T.bx.F.kp T.bx.b .nil (Za (Y6 Xm (pv 1) (Xe Zd) Xr) Zb))) (X9 Zb)))))))))),?_⟩;refine ⟨_,Z,Z,x,Str.ofString " ",rfl,rfl,rfl,by rw [sizeLine_eq]; lia,λl hl=>?_⟩;have s1:Same H (upd H l (.lst ((Txt.split x (Str.ofString " ")).map V.str))):=Same.new hl;have h1:(upd H l (.lst ((Txt.split x (Str.ofString " ")).map V.str))) l=some (.lst ((Txt.split x (Str.ofString " ")).map V.str)):=Zc;generalize upd H l (.lst ((Txt.split x (Str.ofString " ")).map V.str))=H1 at s1 h1 ⊢;replace h1:H1 l=some (.lst ((wdS x).map V.str)):=h1;have jq:∀ p∈wdS x,Asc p/\p.length<=900:=λp hp=>⟨(Xc hx hp).1,Nat.le_trans (Xc hx hp).2 (by lia)⟩;rw [hw] at h1 jq;replace jq:∀ p∈r,Asc p/\p.length<=900:=λp hp=>jq p (List.mem_cons_of_mem _ hp);have h0:atI (List.map V.str (Str.ofString "turn" :: r)) ((0:Nat):Int)=some (V.str (Str.ofString "turn")):=Yp (i:=0) rfl;refine ⟨_,Z,l,_,_,_,Z,Z,SqL.of h1,h0,t.ae,_,Sum.inr (Str.ofString "turn"),rfl,T.am,rfl,_,rfl,λ_=>?_,λe=>?_⟩
  ·refine ⟨_,Z,l,_,_,_,Z,Z,SqL.of h1,h0,t.ae,_,Sum.inr (Str.ofString "turn"),_,rfl,T.am,rfl,Od t,?_⟩
   refine ⟨_,Z,l,_,_,_,Z,Z,SqL.of h1,h0,?_⟩;refine ⟨Z,_,Z,_,Z,l,_,Z,SqL.of h1,λc hc=>?_⟩;rw [cut1];have s2:Same H1 (upd H1 c (.lst (r.map V.str))):=Same.new hc;refine ⟨c,r,Z,Zc,jq,λn y' e q H2 s3 hq h2=>?_,λe=>absurd (hb.symm.trans e) (λq=>nomatch q)⟩;exact ⟨(by show 2<=sizeLine; decide),λu hu=>k u _ (s1.trans (s2.trans (s3.trans (Same.new hu))))⟩
  ·have e:(valV (rdK t) (Sum.inr (Str.ofString "turn"))).isSome=false:=e
   rw [Od] at e;cases e
def Zek (T:Txt w K mg t):FnOk P w K mg base (CXr P w) 7 t.az t.aA ["text"] (λvs H Q E=>Vc t.aa vs H Q E\/K0 vs H Q E):=(Gq T).or (Zge T)
def Wn:FnScope ["rows","many"] ["rows"] (Zg Jr):=An
def Uf (T:Txt w K mg t):FnOk P w K mg base (CXr P w) 1 t.aU t.aV ["rows"] Zaw:=by
 refine T.aZ.F.aR Wn (λ_ _ _ _ H vs Q E hr h=>?_)
 ·obtain ⟨a,C,D,rfl,ha,hC,hD,k⟩:=h
  refine ⟨_,(Ze (Zj (i:=1) Wn.nd Z (Or.inl Z) Zd)
   (Ze (Jf PassesOwn.never (PW.pt (Gf (Zy J7 (pv 1) (Zs Zn (by rfl) T.ak PySem.boot_len (Za (pv 0) Zb)) (Zx _)) (Oe (Jt (Y4 PySem.F.plainAttrs_str PySem.F.slot_str_startswith PySem.F.type_str_startswith Ue (Zt Zo (pv 0) (pv 1) (λ_ _=>rfl)) (Za Zl Zb)))))) (Zi (Zhp (i:=1) Wn.nd rfl (Or.inl rfl) Zd Zny)))
   (Zi (Zw (pv 1))))),?_⟩;refine Zv λnxC i8=>?_;refine i8 _ _ ?_
  try dsimp only [Z2]
  refine Yn (λσ H'=>σ=[some (.ref a),some (.int C.length)]/\H=H') (λnx jr=>?_) ?_
  ·refine ⟨λm σ H'=>∃ i:Nat,i<=C.length/\m=C.length - i/\σ=[some (.ref a),some (.int i)]/\H=H',⟨C.length,0,A0 _,Z,Z,Z⟩,?_⟩
   rintro m σ H1 ⟨i,hi,rfl,rfl,rfl⟩;refine ⟨_,Z,_,Z,a,_,Z,.inl (SqL.of ha),_,_,Z,Z,_,Z,?_⟩;by_cases jh:i < (C ++ D).length
   ·rw [show decide ((i:Int) < (((C ++ D).map V.str).length:Nat))=true from decide_eq_true (by rw [Ac]; lia)]
    have he:=Ad jh;generalize (C ++ D)[i]=x at he;refine iteT ⟨_,Z,_,Z,a,_,_,_,Z,Z,SqL.of ha,Yp he,Z,x,cloS,Z,Z,_,Z,?_⟩;by_cases hc:i < C.length
    ·rw [Aw hc] at he
     rw [hC x (Av he)];refine iteT ⟨λσ' H'=>σ'=[some (.ref a),some (.int ((i:Int) + 1))]/\H=H',λσ' H' z=>⟨C.length - (i + 1),by lia,i + 1,hc,Z,by rw [z.1]; rfl,z.2⟩,?_⟩;exact ⟨_,Z,_,_,Z,Z,Z,Z⟩
    ·have e:i=C.length:=by lia
     subst e;rw [List.getElem?_append_right (Ao _),Nat.sub_self,<- List.head?_eq_getElem?] at he;rw [hD x he];exact iteF (jr _ _ ⟨Z,Z⟩)
   ·have e:i=C.length:=by rw [Af] at jh; lia
    subst e;rw [show decide (((C.length:Nat):Int) < (((C ++ D).map V.str).length:Nat))=false from decide_eq_false (by rw [Ac]; lia)];exact iteF (iteF (jr _ _ ⟨Z,Z⟩))
  rintro σ H1 ⟨rfl,rfl⟩;exact ⟨_,Z,k⟩
def Jc:FnScope ["text","rows","many","cloths","deeds","hall","deed"] ["text"] (Zg Zhk):=An
def Zl7 (T:Txt w K mg t):FnOk P w K mg base (CXr P w) 11 t.ie t.ii ["text"] (Zll t.aa):=by
  refine T.im.F.okLA Jc (λvs H Q E h=>?_) (λ_ _ _ _ H vs Q E hr h=>?_)
  · obtain ⟨x,C,D,rfl,_⟩:=h
    rfl
  · obtain ⟨x,C,D,rfl,yt,j7,jb,qf,hC,hD,hb,kE⟩:=h
    refine ⟨_,(λ_ L=>(Zu (Z3 L.l (Z7 (Zj (i:=1) Jc.nd Z (Or.inl Z) (Y4 PySem.F.plainAttrs_str PySem.F.slot_str_split PySem.F.type_str_split Xu (pv 0) (Za Zl Zb)))))
      (Zu (Z3 L.l (Z7 (Zj (i:=2) Jc.nd rfl (Or.inl rfl) (pcT (Uf T) hr T.aZ (Za (pv 1) Zb)))))
      (Zu (Z3 L.l (Yb (pxT (Z4 T) hr T.af (Za (Y2 Q6 (pv 2) Zd (Zx _)) Zb))))
      (Zu (Qo (ts:=["row"]) (fv:=[]) (i:=3) L ⟨rfl,by decide +kernel,by decide +kernel,Yy (by rfl),trivial⟩ rfl Jc.nd rfl rfl (by rfl) (Xf (Y6 Xm (pv 1) Xr (Xe (pv 2)))) (λ_ _ _ _=>(Z0 (i:=0) (show List.Nodup (["row"]:List Str) from by decide +kernel) rfl (Or.inl rfl) (Or.inr rfl))) (λ_ _ _ _=>Y8) (λ_ _ _=>rfl) (λ_ _ _ _ _ _=>Vy (Vx (Zel T) (hr.mono (by decide)) rfl T.bE.g T.bE.F.kp T.bE.b .nil (Za (pv 0) Zb))))
      (Zu (Qo (ts:=["row"]) (fv:=[]) (i:=4) L ⟨rfl,by decide +kernel,by decide +kernel,Yy (by rfl),trivial⟩ rfl Jc.nd rfl rfl (by rfl) (Xf (Y6 Xm (pv 1) (Xe (pv 2)) Xr)) (λ_ _ _ _=>(Z0 (i:=0) (show List.Nodup (["row"]:List Str) from by decide +kernel) rfl (Or.inl rfl) (Or.inr rfl))) (λ_ _ _ _=>Y8) (λ_ _ _=>rfl) (λ_ _ _ _ _ _=>Vy (Vx (Zek T) (hr.mono (by decide)) rfl T.ax.g T.ax.F.kp T.ax.b .nil (Za (pv 0) Zb))))
      (Zu (Z3 L.l (Z7 (Zj (i:=5) Jc.nd rfl (Or.inl rfl) (Qe T.gX (Jn T) (hr.mono (by decide)) rfl T.gU T.bX.b .nil Yr (Za (pv 3) Zb)))))
      (Zu (Zly L.l rfl (Xf (pv 4)) (Z0 (i:=6) Jc.nd rfl (Or.inl rfl)) (Yv (Z3 L.l (Yb (pxT (Jn T) hr T.b6 (Za (pv 5) (Za (pv 6) Zb)))))))
      (Yv (Z3 L.l (Z7 (Zw (pv 5))))))))))))),?_⟩;refine ⟨_,Z,Z,x,Str.ofString "\n",rfl,rfl,rfl,by rw [sizeLine_eq]; lia,λl hl=>?_⟩;rw [j7];have s1:Same H (upd H l (.lst ((C ++ D).map V.str))):=Same.new hl;have h1:(upd H l (.lst ((C ++ D).map V.str))) l=some (.lst ((C ++ D).map V.str)):=Zc;generalize upd H l (.lst ((C ++ D).map V.str))=H1 at s1 h1 ⊢;refine ⟨_,Z,l,C,D,Z,h1,hC,hD,?_⟩;refine ⟨_,Z,_,_,Z,Z,_,Z,λe=>?_,λe=>?_⟩
    rotate_left
    · exact kE _ s1
    have hC0:C≠[]:=λz=>by
      rw [z] at e;exact absurd (of_decide_eq_true e) (by decide)
    refine ⟨_,Z,_,Z,_,Z,l,_,Z,SqL.of h1,λc1 hc1=>?_⟩;rw [cutA];have s2:Same H1 (upd H1 c1 (.lst (C.map V.str))):=Same.new hc1;have h2:(upd H1 c1 (.lst (C.map V.str))) c1=some (.lst (C.map V.str)):=Zc;generalize upd H1 c1 (.lst (C.map V.str))=H2 at s2 h2 ⊢;have kf:=s1.trans s2;refine ⟨c1,Z,⟨_,SqL.of h2⟩,λD1 hD1=>?_⟩;refine Y3 (xs:=C.map V.str) (λi σ H6=>∃ (v:Option V) (us:List Addr),σ=[v]/\Same H2 H6/\H6 D1=some (.lst (us.map V.ref))/\us.length=i/\∀ c∈C.take i,cloP c≠none) ⟨none,[],Z,Same.new hD1,Zc,Z,λc e=>nomatch e⟩ ?_ ?_ ?_
    · rintro i σ H6 _ ⟨v,us,rfl,s6,_⟩
      exact SqL.of (s6 _ _ h2)
    · rintro i q σ H6 hq ⟨v,us,rfl,s6,h6,zq,ea⟩
      obtain ⟨c,hc,rfl⟩:=Y1 hq;have qq:=(Aa hc).1;have hcm:=Av hc;have pp:=qf c (List.mem_append.mpr (.inl hcm));dsimp only [Z2,tYes];rw [if_pos rfl];refine ⟨_,Z,c,Z,pp.1,by lia,λi1 i2 i3 e m H7 s7 hm h7=>?_,λe H7 s7=>kE _ (kf.trans (s6.trans s7))⟩;refine ⟨_,s7 _ _ h6,by rw [Ac,zq]; rw [Af] at jb; exact Z5 (by lia),_,us ++ [m],Z,Same.add (s6.trans s7) hD1,by rw [Zc,Ak]; rfl,by rw [Af,zq]; rfl,λc' pq=>?_⟩;rw [Ax,hc] at pq
      rcases List.mem_append.mp pq with z | z
      · exact ea c' z
      · have:c'=c:=by simpa using z
        rw [this,e];exact λz=>nomatch z
    rintro σ H6 ⟨v,us,rfl,s6,h6,zq,ea⟩;rw [Ac,List.take_length] at ea;obtain ⟨F1,d,F2,rfl,hg,vk⟩:∃ D1 d D2,D=D1 ++ d :: D2/\(∀ g∈D1,G0 g)/\BadG d:=by
      rcases hb with z | ⟨c,hc,e⟩ | z
      · exact absurd z hC0
      · exact absurd e (ea c hc)
      · exact z
    have qz:=kf.trans s6;have h16:=s6 _ _ (s2 _ _ h1);refine ⟨_,Z,_,Z,_,Z,l,_,Z,SqL.of h16,λc2 hc2=>?_⟩;rw [cutB];generalize hDD:F1 ++ d :: F2=D at *;have s7:Same H6 (upd H6 c2 (.lst (D.map V.str))):=Same.new hc2;have h7:(upd H6 c2 (.lst (D.map V.str))) c2=some (.lst (D.map V.str)):=Zc;generalize upd H6 c2 (.lst (D.map V.str))=H7 at s7 h7 ⊢;have ny:=qz.trans s7;refine ⟨c2,Z,⟨_,SqL.of h7⟩,λD2 mh=>?_⟩;have lu:F1.length < D.length:=by rw [<- hDD,Af,List.length_cons]; lia
    refine Y3 (xs:=D.map V.str) (λi σ H8=>∃ (v:Option V) (vs:List Addr),σ=[v]/\Same H7 H8/\H8 D2=some (.lst (vs.map V.ref))/\vs.length=i/\i<=F1.length) ⟨none,[],Z,Same.new mh,Zc,Z,A0 _⟩ ?_ ?_ ?_
    · rintro i σ H8 _ ⟨v,vs,rfl,s8,_⟩
      exact SqL.of (s8 _ _ h7)
    · rintro i q σ H8 hq ⟨v,vs,rfl,s8,h8,zp,hi⟩
      obtain ⟨d',hd,rfl⟩:=Y1 hq;have ux:=Av hd;have pp:=qf d' (List.mem_append.mpr (.inr ux));dsimp only [Z2,tYes];rw [if_pos rfl];refine ⟨_,Z,?_⟩;by_cases ci:i < F1.length
      · rw [<- hDD,Aw ci] at hd
        obtain ⟨r,n,y,e1,e2⟩:=hg d' (Av hd);refine .inr ⟨d',r,n,y,Z,pp.1,pp.2,e1,e2,λm H9 s9=>?_⟩;exact ⟨_,s9 _ _ h8,by rw [Ac,zp]; rw [Af] at jb; exact Z5 (by lia),_,vs ++ [m],Z,Same.add (s8.trans s9) mh,by rw [Zc,Ak]; rfl,by rw [Af,zp]; rfl,ci⟩
      · have e:i=F1.length:=by lia
        subst e;rw [<- hDD,List.getElem?_append_right (Ao _),Nat.sub_self] at hd;cases hd;exact .inl ⟨d,Z,pp.1,pp.2,vk,λH9 s9=>kE _ (ny.trans (s8.trans s9))⟩
    rintro σ H8 ⟨v,vs,rfl,s8,h8,zp,hi⟩;rw [Ac] at hi;lia
def badS:Str:=Str.ofString "bad order"
def Zha:Sp:=λvs H Q _=>∃ (p:Addr) (x:Str),vs=[.ref p,.str x]/\Asc x/\x.length<=890/\BadA x/\∀ H',Same H H'->Q (.str badS) H'
def RdX (x:Str):Prop:=∃ C D:List Str,x.length<=100000/\Txt.split x (Str.ofString "\n")=C ++ D/\(C ++ D).length<=900/\(∀ r∈C ++ D,Asc r/\r.length<=890)/\(∀ c∈C,Txt.startswith c cloS=true)/\(∀ d∈D.head?,Txt.startswith d cloS=false)/\Zk7 C D
def Zhc:Sp:=λvs H Q _=>∃ x:Str,vs=[.str x]/\RdX x/\∀ H',Same H H'->Q (.str badS) H'
def Uk:FnScope ["_law_hall","_law_order","_law_told_here"] ["_law_hall","_law_order"] (Zg Zcj):=An
def Zaa (T:Txt w K mg t):FnOk P w K mg base (CXr P w) 12 t.gg t.gy ["_law_hall","_law_order"] Zha:=by
 refine T.e9.F.aR Uk (λ_ _ _ _ H vs Q E hr h=>?_)
 ·obtain ⟨p,x,rfl,hx,hz,hb,k⟩:=h
  refine ⟨_,(Ze (Zj (i:=2) Uk.nd Z (Or.inl Z) Zl)
   (Ze (Ze6 (Yd (Yb (pxT (Zem T) hr T.e7 (Za (pv 0) (Za (pv 1) Zb))))) (Fm rfl T.b4 (λ_=>(Zi (Zj (i:=2) Uk.nd rfl (Or.inl rfl) Zl))) Zil))
   (Zi (Zw (pv 2))))),?_⟩;refine Zv λnxC i8=>?_;refine i8 _ _ ?_
  try dsimp only [Z2]
  refine Zv λnxC i8=>?_;refine ⟨_,Z,_,Z,p,x,Z,hx,hz,hb,λH' s'=>⟨true,T.aO,iteT ?_⟩⟩;exact i8 _ _ ⟨_,Z,k _ s'⟩
def Q1:FnScope ["_law_text","_law_told_here"] ["_law_text"] (Zg Zcn):=An
def Uz (T:Txt w K mg t):FnOk P w K mg base (CXr P w) 12 t.gh t.gz ["_law_text"] Zhc:=by
 refine T.cP.F.aR Q1 (λ_ _ _ _ H vs Q E hr h=>?_)
 ·obtain ⟨x,rfl,⟨C,D,h1,h2,h3,h4,h5,h6,h7⟩,k⟩:=h
  refine ⟨_,(Ze (Zj (i:=1) Q1.nd Z (Or.inl Z) Zl)
   (Ze (Ze6 (Yd (Yb (pxT (Zl7 T) hr T.im (Za (pv 0) Zb)))) (Fm rfl T.b4 (λ_=>(Zi (Zj (i:=1) Q1.nd rfl (Or.inl rfl) Zl))) (Fm rfl T.fW (λ_=>(Zi (Zj (i:=1) Q1.nd rfl (Or.inl rfl) Zl))) Zil)))
   (Zi (Zw (pv 1))))),?_⟩;refine Zv λnxC i8=>?_;refine i8 _ _ ?_
  try dsimp only [Z2]
  refine Zv λnxC i8=>?_;refine ⟨_,Z,x,C,D,Z,h1,h2,h3,h4,h5,h6,h7,λH' s'=>⟨true,T.aO,iteT ?_⟩⟩;exact i8 _ _ ⟨_,Z,k _ s'⟩
structure Fg (f:Nat->List Nat) (v:Nat->Int):Prop where
 dig:∀ k,∀ c∈f k,48<=c/\c<=57
 ne:∀ k,f k≠[]
 le:∀ k,(f k).length<=10
 num:∀ k,numP (mkS (f k))=some (v k)
 ord:v 0<=v 1
def sepI (c:Nat):List Itm->List (List Itm)
 | []=>[[]]
 | x :: r=>if x=.inl c then [] :: sepI c r else match sepI c r with
  | []=>[[x]]
  | w :: ws=>(x :: w) :: ws
def litI (x:Str):List Itm:=x.cps.toList.map Sum.inl
def isL (y:List Itm) (x:Str):Bool:=decide (y=litI x)
def ascB (l:List Itm):Bool:=l.all fun
 | .inl c=>decide (c < 128)
 | .inr _=>true
def noB (lo hi:Nat) (k:Bool) (l:List Itm):Bool:=l.any fun
 | .inl c=>decide (c < 128) && (decide (c < lo) || decide (hi < c))
 | .inr _=>k
def zeB:List Itm->Bool
 | .inl 48 :: _ :: _=>true
 | _=>false
def numB (w:List Itm):Bool:=w.isEmpty || noB 48 57 false w || zeB w || decide (61 < w.length)
def namB (w:List Itm):Bool:=w.isEmpty || noB 97 122 true w || decide (8 < w.length)
def bLi:List (List Itm)->Bool
 | [z]=>namB z
 | _=>true
def bLy:List (List Itm)->Bool
 | z :: y :: q=>namB z || (y :: q).any numB
 | _=>true
def bTr:List (List Itm)->Bool
 | [a,b]=>numB a || (!isL b "left" && !isL b "right")
 | _=>true
def bPr (c:Nat) (w:List Itm):Bool:=match sepI c w with
 | [a,b]=>numB a || numB b
 | _=>true
def bWe:List (List Itm)->Bool
 | [a,b]=>numB a || bPr 47 b
 | _=>true
def frI:List (List Itm)->Option Nat
 | [[.inr i],_]=>some i
 | _=>none
def bOr:List (List Itm)->Bool
 | [a,b]=>decide ((frI (sepI 58 a)=some 0\/frI (sepI 58 a)=some 1)/\frI (sepI 58 b)=some 0)
 | _=>false
def bPo:List (List Itm)->Bool
 | z :: y :: q=>namB z || (y :: q).any (bPr 58) || bOr (y :: q)
 | _=>true
def bdG (l:List Itm):Bool:=match sepI 32 l with
 | []=>false
 | y :: r=>decide (r.length < 64) && (rdN.all (λx=>!isL y x) || (isL y "lift" && bLi r) || (isL y "lay" && bLy r) || (isL y "turn" && bTr r) || (isL y "weigh" && bWe r) || (isL y "pour" && bPo r))
def bdA (l:List Itm):Bool:=!isL l "tent" && !isL l "numbers" && !isL l "back" && !isL l "again" && match sepI 32 l with
 | [y,z]=>if askN.any (isL y) then namB z else bdG l
 | _=>bdG l
def isC (l:List Itm):Bool:=decide (l.take 6=litI cloS)
def bC (l:List Itm):Bool:=match sepI 32 l with
 | [_,a,b,c]=>numB a || numB b || numB c
 | _=>true
def gdT (l:List Itm):Bool:=match sepI 32 l with
 | [y,[.inr _],z]=>isL y "turn" && isL z "left"
 | _=>false
def dB:List (List Itm)->Bool
 | []=>false
 | d :: r=>bdG d || (gdT d && dB r)
def rdC (l:List Itm):Bool:=decide (l.length<=1000) && decide ((sepI 10 l).length<=900) && (sepI 10 l).all (λr=>ascB r && decide (r.length<=89)) && (((sepI 10 l).takeWhile isC).isEmpty || ((sepI 10 l).takeWhile isC).any bC || dB ((sepI 10 l).dropWhile isC))
variable {f:Nat->List Nat} {v:Nat->Int}
theorem Fg.len (F:Fg f v):∀ l:List Itm,l.length<=(catI f l).length/\(catI f l).length<=10 * l.length
 | []=>⟨Ao _,Ao _⟩
 | .inl c :: r=>by
  have:=F.len r;show (r.length + 1)<=(catI f r).length + 1/\(catI f r).length + 1<=10 * (r.length + 1);lia
 | .inr k :: r=>by
  have:=F.len r;have h1:=F.le k;have h2:=List.length_pos_iff.mpr (F.ne k);show (r.length + 1)<=(f k ++ catI f r).length/\(f k ++ catI f r).length<=10 * (r.length + 1);rw [Af];lia
def W1 (l:List Itm):(txI f l).length=(catI f l).length:=rfl
def Oo {l:List Itm} {c:Nat}:c∈catI f l ↔ .inl c∈l\/∃ k,.inr k∈l/\c∈f k:=by
 induction l with
 | nil =>
  refine ⟨λh=>(by cases h),λh=>?_⟩
  rcases h with h | ⟨k,h,_⟩ <;> cases h
 | cons x r ih =>
  cases x with
  | inl d =>
   show c∈d :: catI f r ↔ _;rw [List.mem_cons,ih];simp only [List.mem_cons,Sum.inl.injEq,reduceCtorEq,false_or];constructor
   ·rintro (h | h | h)
    ·exact .inl (.inl h)
    ·exact .inl (.inr h)
    ·exact .inr h
   ·rintro ((h | h) | h)
    ·exact .inl h
    ·exact .inr (.inl h)
    ·exact .inr (.inr h)
  | inr k =>
   show c∈f k ++ catI f r ↔ _;rw [List.mem_append,ih];simp only [List.mem_cons,Sum.inr.injEq,reduceCtorEq,false_or];constructor
   ·rintro (h | h | ⟨k',h,h'⟩)
    ·exact .inr ⟨k,.inl Z,h⟩
    ·exact .inl h
    ·exact .inr ⟨k',.inr h,h'⟩
   ·rintro (h | ⟨k',rfl | h,h'⟩)
    ·exact .inr (.inl h)
    ·exact .inl h'
    ·exact .inr (.inr ⟨k',h,h'⟩)
theorem Zhf (c:Nat):∀ l:List Itm,sepI c l≠[]
 | []=>λh=>nomatch h
 | x :: r=>by
  unfold sepI;split
  ·exact λh=>nomatch h
  ·split
   ·exact λh=>nomatch h
   ·exact λh=>nomatch h
def Znx (c:Nat) (a b:List Nat) (l:List (List Nat)):jnL c ((a ++ b) :: l)=a ++ jnL c (b :: l):=by
 cases l with
 | nil=>rfl
 | cons x l =>
  show (a ++ b) ++ c :: _=a ++ (b ++ c :: _);rw [List.append_assoc]
theorem Zey (F:Fg f v) {c:Nat} (hc:c < 48\/57 < c):∀ l:List Itm,jnL c ((sepI c l).map (catI f))=catI f l/\∀ w∈sepI c l,c ∉ catI f w
 | []=>⟨rfl,λw hw=>by rw [Ag hw]; exact λh=>nomatch h⟩
 | x :: r=>by
  obtain ⟨h1,h2⟩:=Zey F hc r;have hx:catI f (x :: r)=catI f [x] ++ catI f r:=Jk f [x] r;have hn:=Zhf c r;unfold sepI;by_cases e:x=.inl c
  ·rw [if_pos e]
   subst e;refine ⟨?_,λw hw=>?_⟩
   ·rw [<- show c :: catI f r=catI f (.inl c :: r) from rfl,<- h1]
    generalize sepI c r=S at hn
    match S,hn with
    | a :: S,_=>rfl
   ·rcases As hw with z | z
    ·rw [z]; exact λh=>nomatch h
    ·exact h2 w z
  ·rw [if_neg e]
   generalize sepI c r=S at hn h1 h2
   match S,hn with
   | a :: S,_ =>
    refine ⟨?_,λw hw=>?_⟩
    ·show jnL c (catI f (x :: a) :: S.map (catI f))=_
     rw [show catI f (x :: a)=catI f [x] ++ catI f a from Jk f [x] a,Znx,hx,<- h1];rfl
    ·rcases As hw with z | z
     ·rw [z,show catI f (x :: a)=catI f [x] ++ catI f a from Jk f [x] a,List.mem_append,not_or]
      refine ⟨λh=>?_,h2 a List.mem_cons_self⟩
      rcases Oo.mp h with h | ⟨k,h,h'⟩
      ·exact e (Ag h).symm
      ·have:=F.dig k c h'
       lia
     ·exact h2 w (List.mem_cons_of_mem _ z)
def Ob (F:Fg f v) {c:Nat} (hc:c < 48\/57 < c) (l:List Itm):Txt.split (txI f l) ⟨#[c]⟩=(sepI c l).map (txI f):=by
 obtain ⟨h1,h2⟩:=Zey F hc l;refine Zjd (λz=>Zhf c l (List.map_eq_nil_iff.mp z)) (λp hp=>?_) ?_
 ·obtain ⟨w,hw,rfl⟩:=List.mem_map.mp hp
  exact h2 w hw
 ·rw [List.map_map]
  exact h1.symm
def wd_I (F:Fg f v) (l:List Itm):wdS (txI f l)=(sepI 32 l).map (txI f):=Ob F (.inl (by decide)) l
def Zbp (x:Str):txI f (litI x)=x:=by
 unfold txI litI;rw [Jj];rfl
theorem Zfl (F:Fg f v):∀ {w:List Itm} {l:List Nat},(∀ c∈l,c < 48\/57 < c)->catI f w=l->w=l.map Sum.inl
 | [],[],_,_=>rfl
 | [],_ :: _,_,e=>nomatch e
 | .inl c :: r,l,h,e=>by
  have e:c :: catI f r=l:=e;subst e;rw [List.map_cons,<- Zfl F (λd hd=>h d (List.mem_cons_of_mem _ hd)) rfl]
 | .inr k :: r,l,h,e=>by
  have e:f k ++ catI f r=l:=e;obtain ⟨c,q,hq⟩:=List.exists_cons_of_ne_nil (F.ne k);have hc:c∈f k:=by rw [hq]; exact List.mem_cons_self
  have h1:=F.dig k c hc;have h2:=h c (by rw [<- e]; exact List.mem_append.mpr (.inl hc));lia
def Qy (F:Fg f v) {w:List Itm} {x:Str} (hx:∀ c∈x.cps.toList,c < 48\/57 < c) (h:isL w x=false):txI f w≠x:=λe=>by
 have:=Zfl F hx (show catI f w=x.cps.toList by rw [<- e]; rfl);exact of_decide_eq_false h this
def Qz {w:List Itm} {x:Str} (h:isL w x=true):txI f w=x:=by
 rw [of_decide_eq_true h,Zbp]
def Zgt (F:Fg f v) {l:List Itm} (h:ascB l=true):Asc (txI f l):=by
 intro c hc;unfold ascB at h;rw [List.all_eq_true] at h
 rcases Oo.mp (show c∈catI f l from hc) with z | ⟨k,_,z⟩
 ·exact of_decide_eq_true (h _ z)
 ·have:=F.dig k c z
  lia
def Zo9:∀ c:Fin 128,c.val < 48\/57 < c.val->Txt.contains fgL ⟨#[c.val]⟩=false:=by decide +kernel
def Zox:∀ c:Fin 128,c.val < 97\/122 < c.val->Txt.contains (Str.ofString "abcdefghijklmnopqrstuvwxyz") ⟨#[c.val]⟩=false:=by decide +kernel
def no_I (F:Fg f v) {lo hi:Nat} {k:Bool} {l:List Itm} {y:Str} (hd:k=true->∀ c,48<=c->c<=57->c < lo\/hi < c) (hy:∀ c:Fin 128,c.val < lo\/hi < c.val->Txt.contains y ⟨#[c.val]⟩=false) (h:noB lo hi k l=true):(mdL (txI f l) y).all id=false:=by
 unfold noB at h;rw [List.any_eq_true] at h;obtain ⟨x,hx,h⟩:=h;have ji:∀ c,c < 128->(c < lo\/hi < c)->c∈catI f l->(mdL (txI f l) y).all id=false:=λc c1 c2 c3=>by
  rw [List.all_eq_false]
  exact ⟨false,List.mem_map.mpr ⟨c,c3,hy ⟨c,c1⟩ c2⟩,by decide⟩
 cases x with
 | inl c =>
  simp only [Bool.and_eq_true,Bool.or_eq_true,decide_eq_true_eq] at h;exact ji c h.1 h.2 (Oo.mpr (.inl hx))
 | inr j =>
  obtain ⟨c,q,hq⟩:=List.exists_cons_of_ne_nil (F.ne j);have hc:c∈f j:=by rw [hq]; exact List.mem_cons_self
  have h1:=F.dig j c hc;exact ji c (by lia) (hd h c h1.1 h1.2) (Oo.mpr (.inr ⟨j,hx,hc⟩))
def Og (F:Fg f v) {w:List Itm} (h:namB w=true):isN (txI f w)=false:=by
 unfold namB at h;simp only [Bool.or_eq_true,decide_eq_true_eq,List.isEmpty_iff] at h;unfold isN;have hl:=F.len w;rw [<- W1] at hl
 rcases h with (h | h) | h
 ·subst h; rfl
 ·rw [no_I F (λ_ c _ _=>by lia) Zox h,Bool.and_false]
 ·rw [decide_eq_false (by lia:¬ ((txI f w).length:Int)<=8),Bool.and_false,Bool.false_and]
def W4 (F:Fg f v) {w:List Itm} (h:numB w=true):numP (txI f w)=none:=by
 unfold numP;rw [if_neg];rw [Bool.not_eq_true];unfold numB at h;simp only [Bool.or_eq_true,decide_eq_true_eq,List.isEmpty_iff] at h;unfold Ja;have hl:=F.len w;rw [<- W1] at hl
 rcases h with ((h | h) | h) | h
 ·subst h; rfl
 ·rw [no_I F (k:=false) (λz=>by cases z) Zo9 h,Bool.and_false,Bool.false_and]
 ·unfold zeB at h
  split at h
  ·rename_i x r
   rw [show decide (txI f (.inl 48 :: x :: r)=Str.ofString "0")=false from decide_eq_false ?_,Bool.false_or]
   ·have:Txt.startswith (txI f (.inl 48 :: x :: r)) (Str.ofString "0")=true:=by
     unfold Txt.startswith;rw [Bool.and_eq_true,decide_eq_true_eq];exact (StrLaws.subAt_one _ 48 0).mpr Z
    rw [this,Bool.not_true,Bool.and_false]
   ·intro e
    have e:=congrArg Str.length e;rw [show (Str.ofString "0").length=1 from rfl] at e;rw [e,List.length_cons,List.length_cons] at hl;lia
  ·cases h
 ·rw [decide_eq_false (by lia:¬ ((txI f w).length:Int)<=61),Bool.and_false,Bool.false_and,Bool.false_and]
variable {f:Nat->List Nat} {v:Nat->Int}
def Zhq (F:Fg f v) {c:Nat} (hc:c < 48\/57 < c) {w:List Itm} (h:bPr c w=true):prP c (txI f w)=none:=by
 unfold prP;rw [Ob F hc];unfold bPr at h
 match sepI c w,h with
 | [],_=>rfl
 | [_],_=>rfl
 | [a,b],h =>
  rcases Bool.or_eq_true_iff.mp h with h | h
  ·dsimp only [List.map]; rw [W4 F h]
  ·dsimp only [List.map]; rw [W4 F h]; cases numP (txI f a) <;> rfl
 | _ :: _ :: _ :: _,_=>rfl
def Zj0 (F:Fg f v) {q:List (List Itm)} (h:q.any numB=true):Vz (q.map (txI f))=none:=by
 unfold Vz;rw [if_neg];rw [Bool.not_eq_true,List.all_eq_false];obtain ⟨z,hz,e⟩:=List.any_eq_true.mp h;exact ⟨_,List.mem_map.mpr ⟨z,hz,Z⟩,by rw [W4 F e]; decide⟩
def Zff {l:List (List Itm)} {i:Nat} (h:frI l=some i):∃ b,l=[[.inr i],b]:=by
 unfold frI at h;split at h
 ·injection h with h; exact ⟨_,by rw [h]⟩
 ·cases h
def Znj (F:Fg f v) {q:List (List Itm)} (h:bOr q=true):Zgv (q.map (txI f)):=by
 unfold bOr at h;split at h
 ·rename_i a b
  have h:=of_decide_eq_true h;obtain ⟨i,hi,ha⟩:∃ i,v 0<=v i/\frI (sepI 58 a)=some i:=by
   rcases h.1 with z | z
   ·exact ⟨0,Int.le_refl _,z⟩
   ·exact ⟨1,F.ord,z⟩
  obtain ⟨a2,ea⟩:=Zff ha;obtain ⟨b2,eb⟩:=Zff h.2
  have one:∀ {w:List Itm} {i:Nat} {w2:List Itm},sepI 58 w=[[.inr i],w2]->prP 58 (txI f w)=none\/∃ j,prP 58 (txI f w)=some (v i,j):=λ{w i w2} e=>by
   have hn:numP (txI f [.inr i])=some (v i):=by
    rw [<- F.num i];unfold txI catI catI;rw [List.append_nil]
   unfold prP;rw [Ob F (.inr (by decide)),e];dsimp only [List.map];rw [hn]
   cases numP (txI f w2) with
   | none=>exact .inl Z
   | some j=>exact .inr ⟨j,Z⟩
  rcases one ea with z | ⟨j1,z1⟩
  ·exact .inl ⟨_,by simp,z⟩
  rcases one eb with z | ⟨j2,z2⟩
  ·exact .inl ⟨txI f b,by simp,z⟩
  refine .inr λp=>?_;have e:smL' ([a,b].map (txI f))=[v i,v 0]:=by
   show [((prP 58 (txI f a)).getD (0,0)).1,((prP 58 (txI f b)).getD (0,0)).1]=_
   rw [z1,z2]
   rfl
  rw [e] at p;have:=(List.pairwise_cons.mp p).1 (v 0) (by simp);lia
 ·cases h
def Js:∀ x∈rdN ++ askN ++ [Str.ofString "left",Str.ofString "right",Str.ofString "tent",Str.ofString "numbers",Str.ofString "back",Str.ofString "again"],∀ c∈x.cps.toList,c < 48\/57 < c:=by decide +kernel
def Zds (F:Fg f v) {l:List Itm} (h:bdG l=true):BadG (txI f l):=by
 unfold bdG at h;unfold BadG;rw [wd_I F l]
 match sepI 32 l,h with
 | [],h=>cases h
 | y :: r,h =>
  simp only [Bool.and_eq_true,Bool.or_eq_true,decide_eq_true_eq] at h;refine ⟨txI f y,r.map (txI f),Z,by rw [Ac]; exact h.1,?_⟩
  rcases h.2 with ((((z | z) | z) | z) | z) | z
  ·refine .inl λm=>?_
   have:=List.all_eq_true.mp z _ m;rw [Bool.not_eq_true'] at this;exact Qy F (Js _ (List.mem_append.mpr (.inl (List.mem_append.mpr (.inl m))))) this Z
  ·refine .inr (.inl ⟨Qz z.1,λq e=>?_⟩)
   have z2:=z.2
   match r,e,z2 with
   | [a],e,z2 =>
    cases e;exact Og F z2
  ·refine .inr (.inr (.inl ⟨Qz z.1,λa b q e n=>?_⟩))
   have z2:=z.2
   match r,e,z2 with
   | a' :: b' :: q',e,z2 =>
    rw [List.map_cons,List.map_cons] at e
    injection e with e1 e
    rcases Bool.or_eq_true_iff.mp z2 with z2 | z2
    ·rw [<- e1,Og F z2] at n
     cases n
    ·rw [<- e]
     exact Zj0 F z2
  ·refine .inr (.inr (.inr (.inl ⟨Qz z.1,?_⟩)))
   have z2:=z.2;unfold trnP
   match r,z2 with
   | [],_=>rfl
   | [_],_=>rfl
   | [a,b],z2 =>
    dsimp only [List.map]
    rcases Bool.or_eq_true_iff.mp z2 with z2 | z2
    ·rw [W4 F z2]
     split <;> rfl
    ·rw [if_neg]
     rw [Bool.and_eq_true,Bool.not_eq_true',Bool.not_eq_true'] at z2;intro m;simp only [List.mem_cons,List.not_mem_nil,or_false] at m
     rcases m with m | m
     ·exact Qy F (Js _ (by simp)) z2.1 m
     ·exact Qy F (Js _ (by simp)) z2.2 m
   | _ :: _ :: _ :: _,_=>rfl
  ·refine .inr (.inr (.inr (.inr (.inl ⟨Qz z.1,?_⟩))))
   have z2:=z.2;unfold weiP
   match r,z2 with
   | [],_=>rfl
   | [_],_=>rfl
   | [a,b],z2 =>
    dsimp only [List.map]
    rcases Bool.or_eq_true_iff.mp z2 with z2 | z2
    ·rw [W4 F z2]
     cases prP 47 (txI f b) <;> rfl
    ·rw [Zhq F (.inl (by decide)) z2]
   | _ :: _ :: _ :: _,_=>rfl
  ·refine .inr (.inr (.inr (.inr (.inr ⟨Qz z.1,λn q e hq hn=>?_⟩))))
   have z2:=z.2
   match r,e,z2 with
   | [a],e,_=>cases e; exact absurd Z hq
   | a :: b :: q',e,z2 =>
    rw [List.map_cons] at e
    injection e with e1 e
    rw [<- e];unfold bPo at z2
    rcases Bool.or_eq_true_iff.mp z2 with z2 | z2
    ·rcases Bool.or_eq_true_iff.mp z2 with z2 | z2
     ·rw [<- e1,Og F z2] at hn
      cases hn
     ·obtain ⟨w,hw,e'⟩:=List.any_eq_true.mp z2
      exact .inl ⟨_,List.mem_map.mpr ⟨w,hw,Z⟩,Zhq F (.inr (by decide)) e'⟩
    ·exact Znj F z2
def Zi1 (F:Fg f v) {l:List Itm} (h:bdA l=true):BadA (txI f l):=by
 unfold bdA at h;simp only [Bool.and_eq_true,Bool.not_eq_true'] at h;obtain ⟨⟨⟨⟨h1,h2⟩,h3⟩,h4⟩,h5⟩:=h;refine ⟨Qy F (Js _ (by simp)) h1,Qy F (Js _ (by simp)) h2,Qy F (Js _ (by simp)) h3,Qy F (Js _ (by simp)) h4,?_⟩;rw [wd_I F l];split at h5
 ·rename_i y z e
  rw [e];by_cases c:askN.any (isL y)=true
  ·rw [if_pos c] at h5
   obtain ⟨x,hx,e'⟩:=List.any_eq_true.mp c;exact .inl ⟨_,_,Z,by rw [Qz e']; exact hx,Og F h5⟩
  ·rw [if_neg c] at h5
   refine .inr ⟨λy' z' e' m=>?_,Zds F h5⟩;have e':txI f y=y':=by injection e'
   rw [<- e'] at m;rw [Bool.not_eq_true,List.any_eq_false] at c;have:=c _ m;rw [Bool.not_eq_true] at this;exact Qy F (Js _ (List.mem_append.mpr (.inl (List.mem_append.mpr (.inr m))))) this Z
 ·rename_i ne
  refine .inr ⟨λy z e m=>?_,Zds F h5⟩;generalize sepI 32 l=S at *
  match S,e,ne with
  | [a,b],_,ne=>exact ne _ _ Z
def Zaq:cloS.cps.toList.length=6/\(∀ c∈cloS.cps.toList,c < 48\/57 < c):=by decide +kernel
theorem Zbq (F:Fg f v):∀ {p:List Nat} {l:List Itm},(∀ c∈p,c < 48\/57 < c)->(catI f l).take p.length=p->l.take p.length=p.map Sum.inl
 | [],l,_,_=>by rw [List.length_nil,List.take_zero]; rfl
 | c :: p,[],_,e=>by cases e
 | c :: p,.inl d :: r,h,e=>by
  have e:d :: (catI f r).take p.length=c :: p:=e
  injection e with e1 e2
  rw [List.length_cons,List.take_succ_cons,Zbq F (λx hx=>h x (List.mem_cons_of_mem _ hx)) e2,e1];rfl
 | c :: p,.inr k :: r,h,e=>by
  have e:(f k ++ catI f r).take (p.length + 1)=c :: p:=e;obtain ⟨d,q,hq⟩:=List.exists_cons_of_ne_nil (F.ne k);have hd:d∈f k:=by rw [hq]; exact List.mem_cons_self
  have h1:=F.dig k d hd;rw [hq,List.cons_append,List.take_succ_cons] at e
  injection e with e1 _
  have:=h c List.mem_cons_self;lia
def st_I (F:Fg f v) (l:List Itm):Txt.startswith (txI f l) cloS=isC l:=by
 cases c:isC l with
 | true =>
  have e:=of_decide_eq_true c;have:txI f l=cloS ++ txI f (l.drop 6):=by
   rw [<- Zbp (f:=f) cloS,X7,<- e,List.take_append_drop]
  rw [this];exact PySem.W.KT.starts_app _ _
 | false =>
  cases hs:Txt.startswith (txI f l) cloS with
  | false=>rfl
  | true =>
   exfalso;unfold Txt.startswith at hs;rw [Bool.and_eq_true,StrLaws.subAt_eq] at hs;have e:=eq_of_beq hs.2;rw [List.drop_zero] at e;have:=Zbq F Zaq.2 (l:=l) e;rw [Zaq.1] at this;exact of_decide_eq_false c this
def Zpe (F:Fg f v) {l:List Itm} (h:bC l=true):cloP (txI f l)=none:=by
 unfold bC at h;unfold cloP;rw [wd_I F l]
 match sepI 32 l,h with
 | [],_=>rfl
 | [_],_=>rfl
 | [_,_],_=>rfl
 | [_,_,_],_=>rfl
 | [_,a,b,c],h =>
  dsimp only [List.map];simp only [Bool.or_eq_true] at h
  rcases h with (h | h) | h
  ·rw [W4 F h]
  ·rw [W4 F h]; cases numP (txI f a) <;> rfl
  ·rw [W4 F h]; cases numP (txI f a) <;> cases numP (txI f b) <;> rfl
 | _ :: _ :: _ :: _ :: _ :: _,_=>rfl
def Zo5 (F:Fg f v) {l:List Itm} (h:gdT l=true):G0 (txI f l):=by
 unfold gdT at h;unfold G0;rw [wd_I F l];split at h
 ·rename_i y k z e
  rw [e];rw [Bool.and_eq_true] at h;refine ⟨_,v k,Str.ofString "left",congrArg (· :: _) (Qz h.1),?_⟩;show trnP [txI f [.inr k],txI f z]=_;rw [Qz h.2];unfold trnP;dsimp only;rw [if_pos (by simp)];have hn:numP (txI f [.inr k])=some (v k):=by
   rw [<- F.num k]
   unfold txI catI catI
   rw [List.append_nil]
  rw [hn]
 ·cases h
theorem Zk6 (F:Fg f v):∀ {D:List (List Itm)},dB D=true->∃ D1 d D2,D.map (txI f)=D1 ++ d :: D2/\(∀ g∈D1,G0 g)/\BadG d
 | [],h=>by cases h
 | d :: r,h=>by
  rcases Bool.or_eq_true_iff.mp h with h | h
  ·exact ⟨[],_,_,rfl,λg hg=>(by cases hg),Zds F h⟩
  ·rw [Bool.and_eq_true] at h
   obtain ⟨D1,d',D2,e1,e2,e3⟩:=Zk6 F h.2;refine ⟨txI f d :: D1,d',D2,by rw [List.map_cons,e1]; rfl,λg hg=>?_,e3⟩
   rcases As hg with z | z
   ·rw [z]; exact Zo5 F h.1
   ·exact e2 g z
theorem Zam {α:Type} (p:α->Bool):∀ {l:List α} {d:α},(l.dropWhile p).head?=some d->p d=false
 | [],d,h=>by cases h
 | x :: r,d,h=>by
  rw [List.dropWhile_cons] at h;by_cases c:p x=true
  ·rw [if_pos c] at h
   exact Zam p h
  ·rw [if_neg c] at h
   cases h;exact Bool.not_eq_true _ ▸ c
theorem Zbr {α:Type} (p:α->Bool):∀ {l:List α} {d:α},d∈l.takeWhile p->p d=true
 | [],d,h=>by cases h
 | x :: r,d,h=>by
  rw [List.takeWhile_cons] at h;by_cases c:p x=true
  ·rw [if_pos c] at h
   rcases As h with z | z
   ·rw [z]; exact c
   ·exact Zbr p z
  ·rw [if_neg c] at h
   cases h
def Zct (F:Fg f v) {l:List Itm} (h:rdC l=true):RdX (txI f l):=by
 unfold rdC at h;simp only [Bool.and_eq_true,Bool.or_eq_true,decide_eq_true_eq] at h;obtain ⟨⟨⟨h1,h2⟩,h3⟩,h4⟩:=h;have hl:=(F.len l).2;have es:Txt.split (txI f l) (Str.ofString "\n")=(sepI 10 l).map (txI f):=Ob F (c:=10) (.inl (by decide)) l;have et:(sepI 10 l).map (txI f)=((sepI 10 l).takeWhile isC).map (txI f) ++ ((sepI 10 l).dropWhile isC).map (txI f):=by
  rw [<- Ak,List.takeWhile_append_dropWhile]
 refine ⟨((sepI 10 l).takeWhile isC).map (txI f),((sepI 10 l).dropWhile isC).map (txI f),?_,es.trans et,?_,?_,?_,?_,?_⟩
 ·rw [W1]; lia
 ·rw [<- et,Ac]; exact h2
 ·rw [<- et]
  intro r hr;obtain ⟨w,hw,rfl⟩:=List.mem_map.mp hr;have:=List.all_eq_true.mp h3 w hw;rw [Bool.and_eq_true,decide_eq_true_eq] at this;have hl:=(F.len w).2;exact ⟨Zgt F this.1,by rw [W1]; lia⟩
 ·intro c hc
  obtain ⟨w,hw,rfl⟩:=List.mem_map.mp hc;rw [st_I F,Zbr isC hw]
 ·intro d hd
  rw [List.head?_map] at hd;obtain ⟨w,hw,e⟩:=Option.map_eq_some_iff.mp hd;rw [<- e,st_I F,Zam isC hw]
 ·rcases h4 with (z | z) | z
  ·rw [List.isEmpty_iff] at z
   exact .inl (by rw [z]; rfl)
  ·obtain ⟨c,hc,e⟩:=List.any_eq_true.mp z
   exact .inr (.inl ⟨_,List.mem_map.mpr ⟨c,hc,Z⟩,Zpe F e⟩)
  ·exact .inr (.inr (Zk6 F z))
def Zdl:∀ m:Nat,0 < m->∃ c r,(Nat.toDigits 10 m).map Char.toNat=c :: r/\49<=c:=λm=>by
 induction m using Nat.strongRecOn with
 | _ m ih =>
  intro h0;by_cases h:m < 10
  ·rw [Nat.toDigits_of_lt_base h]
   have:∀ d:Nat,d < 10->0 < d->49<=(Nat.digitChar d).toNat:=by decide
   exact ⟨_,[],Z,this m h h0⟩
  ·have hm:m % 10 < 10:=Nat.mod_lt m (by decide)
   have t:Nat.toDigits 10 (m / 10) ++ Nat.toDigits 10 (m % 10)=Nat.toDigits 10 (10 * (m / 10) + m % 10):=Nat.toDigits_append_toDigits (by decide) (by lia) hm;rw [Nat.div_add_mod] at t;obtain ⟨c,r,e,hc⟩:=ih (m / 10) (by lia) (by lia);rw [<- t,Ak,e];exact ⟨c,_,Z,hc⟩
def nmS (n:Int):Str:=Str.ofString (toString n)
def Zia (m:Nat):∀ c∈(nmS (m:Int)).cps.toList,48<=c/\c<=57:=λc hc=>by
 unfold nmS at hc;rw [PySem.W.KIN.signs_num] at hc;obtain ⟨ch,lw,e⟩:=List.mem_map.mp hc;have r:=PyProof.Rows.digit_range (Nat.isDigit_of_mem_toDigits (by decide) (by decide) lw);rw [<- e];exact r
def Zn1:∀ c:Fin 128,48<=c.val->c.val<=57->Txt.contains fgL ⟨#[c.val]⟩=true:=by decide +kernel
def Zk4 {n:Int} (h0:0<=n) (h1:n<=100000):Ja (nmS n)=true:=by
 obtain ⟨m,rfl⟩:=Int.eq_ofNat_of_zero_le h0;have hl:(nmS (m:Int)).length<=10:=PySem.W.KT.len_num h0 (by lia);have hd:=Zia m;have jo:1<=(nmS (m:Int)).length:=by
  have e:(nmS (m:Int)).length=(nmS (m:Int)).cps.toList.length:=by rw [Array.length_toList]; rfl
  rw [e]
  unfold nmS
  rw [PySem.W.KIN.signs_num,Ac]
  by_cases z:m=0
  ·subst z; decide
  ·obtain ⟨c,r,e,_⟩:=Zdl m (by lia)
   have:=congrArg List.length e
   rw [Ac,List.length_cons] at this
   lia
 unfold Ja;rw [decide_eq_true (by lia:(1:Int)<=_),decide_eq_true (by lia:_<=(61:Int)),Bool.true_and,Bool.true_and,Bool.and_eq_true];refine ⟨?_,?_⟩
 ·unfold mdL
  rw [List.all_map,List.all_eq_true];intro c hc;obtain ⟨d1,d2⟩:=hd c hc;exact Zn1 ⟨c,by lia⟩ d1 d2
 ·by_cases z:m=0
  ·subst z; rw [Bool.or_eq_true]; exact .inl (by decide)
  ·rw [Bool.or_eq_true]
   right;rw [Bool.not_eq_true'];obtain ⟨c,r,e,hc⟩:=Zdl m (by lia)
   cases hs:Txt.startswith (nmS (m:Int)) (Str.ofString "0") with
   | false=>rfl
   | true =>
    exfalso;unfold Txt.startswith at hs;rw [Bool.and_eq_true,decide_eq_true_eq] at hs;have:=(StrLaws.subAt_one (nmS (m:Int)) 48 0).mp hs;unfold nmS at this;rw [PySem.W.KIN.signs_num,e] at this;have:c=48:=by simpa using this
    lia
def Zno {n:Int} (h0:0<=n) (h1:n<=100000):numP (nmS n)=some n:=by
 unfold numP;rw [if_pos (Zk4 h0 h1)];exact PySem.W.KIN.num_reads h0 (by lia)
def oP1:List (List FPt):=[[.inl (Str.ofString "")],[.inl (Str.ofString " ")],[.inl (Str.ofString "lay")],[.inl (Str.ofString "lay "),.inr 3],[.inl (Str.ofString "lay "),.inr 3,.inl (Str.ofString " ")],[.inl (Str.ofString "lay  "),.inr 3,.inl (Str.ofString " "),.inr 2],[.inl (Str.ofString " lay "),.inr 3,.inl (Str.ofString " "),.inr 2]]
def oP2:List (List FPt):=[[.inl (Str.ofString "lay "),.inr 3,.inl (Str.ofString " "),.inr 2,.inl (Str.ofString " ")],[.inl (Str.ofString "lay "),.inr 3,.inl (Str.ofString " 0"),.inr 2],[.inl (Str.ofString "lay "),.inr 3,.inl (Str.ofString " -"),.inr 2],[.inl (Str.ofString "lay "),.inr 3,.inl (Str.ofString " +"),.inr 2]]
def oP3:List (List FPt):=[[.inl (Str.ofString "lay "),.inr 3,.inl (Str.ofString " "),.inr 2,.inl (Str.ofString ","),.inr 2],[.inl (Str.ofString "Lay "),.inr 3,.inl (Str.ofString " "),.inr 2],[.inl (Str.ofString "lay "),.inr 3,.inl (Str.ofString "1 "),.inr 2],[.inl (Str.ofString "lay "),.inr 4]]
def oP4:List (List FPt):=[[.inl (Str.ofString "lay "),.inr 3,.inl (Str.ofString " "),.inr 4],[.inl (Str.ofString "pour "),.inr 3],[.inl (Str.ofString "pour "),.inr 3,.inl (Str.ofString " "),.inr 0],[.inl (Str.ofString "pour "),.inr 3,.inl (Str.ofString " "),.inr 0,.inl (Str.ofString ":")]]
def oP5:List (List FPt):=[[.inl (Str.ofString "pour "),.inr 3,.inl (Str.ofString " :"),.inr 0],[.inl (Str.ofString "pour "),.inr 3,.inl (Str.ofString " "),.inr 0,.inl (Str.ofString ":1:2")],[.inl (Str.ofString "pour "),.inr 3,.inl (Str.ofString " "),.inr 0,.inl (Str.ofString ":1 "),.inr 0,.inl (Str.ofString ":1")]]
def oP6:List (List FPt):=[[.inl (Str.ofString "pour "),.inr 3,.inl (Str.ofString " "),.inr 1,.inl (Str.ofString ":0 "),.inr 0,.inl (Str.ofString ":0")],[.inl (Str.ofString "pour "),.inr 3,.inl (Str.ofString " "),.inr 0,.inl (Str.ofString ": 1")],[.inl (Str.ofString "lift")],[.inl (Str.ofString "lift "),.inr 3,.inl (Str.ofString " "),.inr 3]]
def oP7:List (List FPt):=[[.inl (Str.ofString "lift "),.inr 3,.inl (Str.ofString "x"),.inr 2],[.inl (Str.ofString "weigh "),.inr 0],[.inl (Str.ofString "weigh "),.inr 0,.inl (Str.ofString " 1")],[.inl (Str.ofString "weigh "),.inr 0,.inl (Str.ofString " 1/2/3")],[.inl (Str.ofString "weigh "),.inr 0,.inl (Str.ofString " 1:2")]]
def oP8:List (List FPt):=[[.inl (Str.ofString "weigh "),.inr 0,.inl (Str.ofString " /2")],[.inl (Str.ofString "weigh "),.inr 0,.inl (Str.ofString " 1/")],[.inl (Str.ofString "weigh "),.inr 0,.inl (Str.ofString " 1/2 ")],[.inl (Str.ofString "turn "),.inr 0],[.inl (Str.ofString "turn "),.inr 0,.inl (Str.ofString " Left")]]
def oP9:List (List FPt):=[[.inl (Str.ofString "turn "),.inr 0,.inl (Str.ofString " left right")],[.inl (Str.ofString "turn 0"),.inr 1,.inl (Str.ofString " left")],[.inl (Str.ofString "turn "),.inr 3,.inl (Str.ofString " left")],[.inl (Str.ofString "turn left")],[.inl (Str.ofString "back ")],[.inl (Str.ofString "Back")]]
def oP10:List (List FPt):=[[.inl (Str.ofString "again again")],[.inl (Str.ofString "cloth "),.inr 0,.inl (Str.ofString " "),.inr 0,.inl (Str.ofString " "),.inr 0,.inl (Str.ofString "x")],[.inl (Str.ofString "thread")],[.inl (Str.ofString "thread "),.inr 3,.inl (Str.ofString " "),.inr 3],[.inl (Str.ofString "least "),.inr 2]]
def oP11:List (List FPt):=[[.inl (Str.ofString "pool "),.inr 3,.inr 2],[.inl (Str.ofString "numbers 1")],[.inl (Str.ofString "tent ")],[.inl (Str.ofString "lay "),.inr 3,.inl (Str.ofString "abcdefghi "),.inr 2],[.inl (Str.ofString "turn "),.inr 0,.inl (Str.ofString " left\n")]]
def oP12:List (List FPt):=[[.inl (Str.ofString "weigh "),.inr 0,.inl (Str.ofString " 01/2")],[.inl (Str.ofString "weigh "),.inr 0,.inl (Str.ofString " 1/02")],[.inl (Str.ofString "weigh "),.inr 0,.inl (Str.ofString " 1/+2")],[.inl (Str.ofString "weigh "),.inr 0,.inl (Str.ofString " -1/2")]]
def oP13:List (List FPt):=[[.inl (Str.ofString "weigh "),.inr 0,.inl (Str.ofString " 1_0/2")],[.inl (Str.ofString "pour "),.inr 3,.inl (Str.ofString " "),.inr 0,.inl (Str.ofString ":01")],[.inl (Str.ofString "pour "),.inr 3,.inl (Str.ofString " "),.inr 0,.inl (Str.ofString ":-1")]]
def oP14:List (List FPt):=[[.inl (Str.ofString "pour "),.inr 3,.inl (Str.ofString " "),.inr 0,.inl (Str.ofString ":+1")],[.inl (Str.ofString "pour "),.inr 3,.inl (Str.ofString " 0"),.inr 1,.inl (Str.ofString ":0")],[.inl (Str.ofString "lay "),.inr 3,.inl (Str.ofString " 1_0")],[.inl (Str.ofString "turn 1_0 left")]]
def oP15:List (List FPt):=[[.inl (Str.ofString "lay Ab "),.inr 2],[.inl (Str.ofString "lift Ab")],[.inl (Str.ofString "lay abcdefghi "),.inr 2],[.inl (Str.ofString "lift abcdefghi")],[.inl (Str.ofString "thread abcdefghi")]]
def oP16:List (List FPt):=[[.inl (Str.ofString "thread aB")],[.inl (Str.ofString "pool AB")],[.inl (Str.ofString "least Ab")],[.inl (Str.ofString "pour aB "),.inr 0,.inl (Str.ofString ":0")],[.inl (Str.ofString "thread ab ")],[.inl (Str.ofString "least  ab")],[.inl (Str.ofString " pool ab")]]
def oC1:List (List FPt):=[[.inl (Str.ofString "cloth 0"),.inr 1,.inl (Str.ofString " 2 3")],[.inl (Str.ofString "cloth +"),.inr 0,.inl (Str.ofString " 2 3")],[.inl (Str.ofString "cloth -"),.inr 1,.inl (Str.ofString " 2 3")],[.inl (Str.ofString "cloth "),.inr 0,.inl (Str.ofString " 2 3 ")]]
def oC2:List (List FPt):=[[.inl (Str.ofString "cloth 1_0 2 3")],[.inl (Str.ofString "cloth  "),.inr 0,.inl (Str.ofString " 2 3")],[.inl (Str.ofString "cloth "),.inr 0,.inl (Str.ofString " 2 3 4")],[.inl (Str.ofString "cloth "),.inr 0,.inl (Str.ofString " 2")]]
def oC3:List (List FPt):=[[.inl (Str.ofString "cloth "),.inr 4,.inl (Str.ofString " 2 3")],[.inl (Str.ofString "Cloth 1 2 3")]]
def oC4:List (List FPt):=[[.inl (Str.ofString "cloth 1 2 3.")],[.inl (Str.ofString "cloth "),.inr 0,.inl (Str.ofString " 2 03")]]
def oPs:List (List FPt):=oP1 ++ oP2 ++ oP3 ++ oP4 ++ oP5 ++ oP6 ++ oP7 ++ oP8 ++ oP9 ++ oP10 ++ oP11 ++ oP12 ++ oP13 ++ oP14 ++ oP15 ++ oP16
def oCs:List (List FPt):=oC1 ++ oC2 ++ oC3 ++ oC4
def figL:Str:=Str.ofString "1" ++ Txt.mul (Str.ofString "0") 61
def fB (s p:Int) (nm:List Nat):Nat->List Nat
 | 0=>(nmS s).cps.toList
 | 1=>(nmS (s + 1)).cps.toList
 | 2=>(nmS p).cps.toList
 | 3=>nm
 | _ + 4=>figL.cps.toList
def gN (s p:Int):Nat->List Nat
 | 0=>(nmS s).cps.toList
 | 1=>(nmS (s + 1)).cps.toList
 | 2=>(nmS p).cps.toList
 | _ + 3=>(nmS (s + 2)).cps.toList
def vN (s p:Int):Nat->Int
 | 0=>s
 | 1=>s + 1
 | 2=>p
 | _ + 3=>s + 2
def Zk5 {s p:Int} (hs:0<=s/\s<=9999) (hp:0<=p/\p<=9999):Fg (gN s p) (vN s p):=by
 have e:∀ k,gN s p k=(nmS (vN s p k)).cps.toList
  | 0=>rfl
  | 1=>rfl
  | 2=>rfl
  | _ + 3=>rfl
 have b:∀ k,0<=vN s p k/\vN s p k<=100000
  | 0=>by show 0<=s/\s<=100000; lia
  | 1=>by show 0<=s + 1/\s + 1<=100000; lia
  | 2=>by show 0<=p/\p<=100000; lia
  | _ + 3=>by show 0<=s + 2/\s + 2<=100000; lia
 refine ⟨λk c hc=>?_,λk hk=>?_,λk=>?_,λk=>?_,by show s<=s + 1; lia⟩
 ·rw [e k] at hc
  obtain ⟨m,hm⟩:=Int.eq_ofNat_of_zero_le (b k).1;rw [hm] at hc;exact Zia m c hc
 ·rw [e k] at hk
  have h:=Zk4 (b k).1 (b k).2;have:nmS (vN s p k)=⟨#[]⟩:=L2.Str.ext' hk;rw [this] at h;cases h
 ·rw [e k,Array.length_toList]
  exact PySem.W.KT.len_num (b k).1 (by have:=(b k).2; lia)
 ·rw [e k]
  exact Zno (b k).1 (b k).2
def ex1 (nm:List Nat):Itm->List Itm
 | .inr 3=>nm.map Sum.inl
 | .inr (_ + 4)=>figL.cps.toList.map Sum.inl
 | x=>[x]
def exI (nm:List Nat) (l:List Itm):List Itm:=l.flatMap (ex1 nm)
theorem Zix (s p:Int) (nm:List Nat):∀ l:List Itm,catI (gN s p) (exI nm l)=catI (fB s p nm) l
 | []=>rfl
 | x :: r=>by
  show catI (gN s p) (ex1 nm x ++ exI nm r)=_;rw [Jk,Zix s p nm r]
  match x with
  | .inl c=>rfl
  | .inr 0=>show ((nmS s).cps.toList ++ []) ++ _=(nmS s).cps.toList ++ _; rw [List.append_nil]
  | .inr 1=>show ((nmS (s + 1)).cps.toList ++ []) ++ _=(nmS (s + 1)).cps.toList ++ _; rw [List.append_nil]
  | .inr 2=>show ((nmS p).cps.toList ++ []) ++ _=(nmS p).cps.toList ++ _; rw [List.append_nil]
  | .inr 3=>show catI (gN s p) (nm.map Sum.inl) ++ _=nm ++ _; rw [Jj]
  | .inr (k + 4)=>show catI (gN s p) (figL.cps.toList.map Sum.inl) ++ _=figL.cps.toList ++ _; rw [Jj]
def tI:List Itm:=litI "cloth " ++ .inr 0 :: litI " " ++ .inr 1 :: litI " " ++ [.inr 3]
def chk (l:List Itm):Bool:=bdA l && ascB l && decide (l.length<=89) && rdC l && rdC (l ++ .inl 10 :: tI) && rdC (tI ++ .inl 10 :: l)
def nmF:List Str:=["ab","z","abcdefgh","nobody"]
def Zmp:(nmF.all λnm=>(oPs ++ oCs).all λps=>chk (exI nm.cps.toList (itF ps)))=true:=by decide +kernel
def Zj4:([tI,litI "lift ab\nlift ab",litI "back\nback"].all λl=>bdA l && ascB l && decide (l.length<=89))=true:=by decide +kernel
def Zov:(oPs.length=75/\oCs.length=12)/\∀ ps∈oPs ++ oCs,(itF ps).length<=300:=by decide +kernel
def at4 (h0:0<=i) (h1:i < 4):∃ sh:Int,atI [V.int 0,V.int 0,V.int 1,V.int 3] i=some (V.int sh):=by
 obtain rfl | rfl | rfl | rfl:i=0\/i=1\/i=2\/i=3:=by lia
 all_goals exact ⟨_,Z⟩
def at8 (h0:0<=i) (h1:i < 8):∃ sp:Int,sp∈Vq/\atI [V.int 1,V.int 3,V.int 7,V.int 9,V.int 37,V.int 1009,V.int 3333,V.int 9999] i=some (V.int sp):=by
 obtain rfl | rfl | rfl | rfl | rfl | rfl | rfl | rfl:i=0\/i=1\/i=2\/i=3\/i=4\/i=5\/i=6\/i=7:=by lia
 all_goals exact ⟨_,by decide,Z⟩
def Zli (K:W.Frag):Sp:=λvs H Q _=>∃ (a:Addr) (ns:List Int),vs=[.ref a]/\SqL K H a (ns.map V.int)/\ns.length<=63 /\
 ∀ (p m r:Addr) (M:List (Option Nat)) (nms:List Int) (H':Hp),Same H H'->H' p=some (.tup [.ref m,.ref r])->H' m=some (.lst (M.map mV))->Xa H' r nms->TD M nms->M.length<=42->H m=none->H r=none->Q (.ref p) H'
def Wd:FnScope ["_law_script","_law_head","_law_many","_law_names","_law_share","_law_mates","_law_step"] ["_law_script"] (Zg Zck):=An
def Zh6 (T:Txt w K mg t):FnOk P w K mg base (CXr P w) 2 t.gd t.gw ["_law_script"] (Zli K):=by
 refine T.gE.F.aR Wd (λ_ _ _ _ H vs Q E hr h=>?_)
 ·obtain ⟨a,ns,rfl,hS,hl,k⟩:=h
  refine ⟨_,(Ze (Zj (i:=1) Wd.nd Z (Or.inl Z) (pcT (Wf T) hr T.aK (Za (pv 0) (Za Zd Zb))))
   (Ze (Zj (i:=2) Wd.nd rfl (Or.inl rfl) (Zk Yo Zd (Zk Yh (pv 1) Zd)))
   (Ze (Ym (Zy Y7 (Zk Yh (Zk Wa (pv 1) Zd) Zd) Zd (Zx _)) (Zi (Zj (i:=2) Wd.nd rfl (Or.inl rfl) (Zk Yo Zd (Zk Yh (Zk Wa (pv 1) Zd) Zd)))) Yc)
   (Ze (Zj (i:=3) Wd.nd rfl (Or.inl rfl) (pcT (Wf T) hr T.aK (Za (pv 0) (Za Zd Zb))))
   (Ze (Zj (i:=4) Wd.nd rfl (Or.inl rfl) (Zt Qv (W7 (Za Zd (Za Zd (Za Zd (Za Zd Zb))))) (Zk Yh (pv 3) Zd) (λ_ _=>rfl)))
   (Ze (Zj (i:=5) Wd.nd rfl (Or.inl rfl) (pcT (Zh7 T) hr T.gC (Za (pcT (U0 T) hr T.bZ (Za (pcT (Wf T) hr T.aK (Za (pv 0) (Za Zd Zb))) (Za Zd Zb))) (Za (pv 2) (Za (pv 4) Zb)))))
   (Ze (Zj (i:=6) Wd.nd rfl (Or.inl rfl) (Zt Qv (W7 (Za Zd (Za Zd (Za Zd (Za Zd (Za Zd (Za Zd (Za Zd (Za Zd Zb))))))))) (Zk Yh (Zk Wa (pv 3) Zd) Zd) (λ_ _=>rfl)))
   (Zi (Zw (W7 (Za (pv 5) (Za (pcT (Zh8 T) hr T.gD (Za (pv 5) (Za (Zk Yh (Zk Wa (pv 3) Zd) Zd) (Za (pv 6) Zb)))) Zb)))))))))))),?_⟩;refine ⟨_,Z,a,ns,0,Z,hS,hl,by decide,by decide,?_⟩;generalize cell ns 0=hd;refine ⟨_,Z,_,_,Z,Z,(by show (0:Int) < 6; decide),_,_,rfl,rfl,?_⟩;dsimp only [Z2];show tSeq (tIfS _ _ _) _ _ _ _;refine Yn (λσ H1=>∃ n:Nat,1<=n/\n<=14/\σ=[some (.ref a),some (.int hd),some (.int n),none,none,none,none]/\H1=H) (λnx jr=>?_) ?_
  ·refine ⟨_,Z,_,_,Z,Z,⟨by decide,by decide⟩,_,_,Z,Z,(by show (0:Int) < 9; decide),rfl,_,rfl,?_⟩
   refine ite2 (λ_=>?_) (λ_=>?_)
   ·refine ⟨_,Z,_,_,Z,Z,⟨by decide,by decide⟩,_,_,Z,Z,(by show (0:Int) < 8; decide),_,_,rfl,rfl,?_⟩
    have e:(7 + hd / 54 % 8:Int)=((7 + (hd / 54 % 8).toNat:Nat):Int):=by lia
    exact jr _ _ ⟨7 + (hd / 54 % 8).toNat,by lia,by lia,by rw [<- e]; rfl,rfl⟩
   ·have e:(1 + hd % 6:Int)=((1 + (hd % 6).toNat:Nat):Int):=by lia
    exact jr _ _ ⟨1 + (hd % 6).toNat,by lia,by lia,by rw [<- e]; rfl,rfl⟩
  rintro σ H1 ⟨n,n1,n2,rfl,rfl⟩;refine ⟨_,Z,a,ns,2,Z,hS,hl,by decide,by decide,?_⟩;generalize cell ns 2=nam;refine ⟨(by show 4<=sizeLine; decide),λq hq=>?_⟩;have m4:0<=nam % 4/\nam % 4 < 4:=by lia
  obtain ⟨sh,esh⟩:=at4 m4.1 m4.2;refine ⟨_,Z,_,_,Z,Z,(by show (0:Int) < 4; decide),q,_,_,_,rfl,rfl,SqT.of Zc,esh,?_⟩;have s1:Same H1 (upd H1 q (.tup [V.int 0,V.int 0,V.int 1,V.int 3])):=Same.new hq;refine ⟨_,Z,a,ns,1,Z,s1.seq hS,hl,by decide,by decide,?_⟩;refine ⟨_,60,Z,by decide,λp xs H2 s2 hp h2 sg hx=>?_⟩;refine ⟨_,Z,_,Z,p,xs,n,sh,Z,h2,sg,hx,n1,n2,λm M H3 s3 hm hM jb lf=>?_⟩;have nr:Same H1 H3:=(s1.trans s2).trans s3;have md:H1 m=none:=(s1.trans s2).free hm;refine ⟨(by show 8<=sizeLine; decide),λq2 xn=>?_⟩;have m8:0<=nam / 4 % 8/\nam / 4 % 8 < 8:=by lia
  obtain ⟨sp,j7,esp⟩:=at8 m8.1 m8.2;refine ⟨_,Z,_,_,Z,Z,⟨by decide,by decide⟩,_,_,Z,Z,(by show (0:Int) < 8; decide),q2,_,_,_,rfl,rfl,SqT.of Zc,esp,?_⟩;have p6:Same H1 (upd H3 q2 (.tup [V.int 1,V.int 3,V.int 7,V.int 9,V.int 37,V.int 1009,V.int 3333,V.int 9999])):=Same.add nr (nr.free xn);have hM4:(upd H3 q2 (.tup [V.int 1,V.int 3,V.int 7,V.int 9,V.int 37,V.int 1009,V.int 3333,V.int 9999])) m=some (.lst (M.map mV)):=by rw [Zh (Zr hM xn)]; exact hM
  refine ⟨_,Z,_,Z,_,Z,_,_,Z,Z,⟨by decide,by decide⟩,_,_,Z,Z,(by show (0:Int) < 10000; decide),_,rfl,m,M,n,_,sp,rfl,hM4,jb,n1,n2,lf,j7,λr H5 s5 zc qf=>?_⟩;refine ⟨(by show 2<=sizeLine; decide),λp5 vd=>?_⟩;have qy:=p6.trans s5;have n6:H1 r=none:=p6.free zc;refine k p5 m r M _ _ (Same.add qy (qy.free vd)) Zc ?_ (qf.same (Same.new vd)) (Zlc n1 n2 jb lf j7) (by lia) md n6;rw [Zh (Zr (s5 _ _ hM4) vd)];exact s5 _ _ hM4
def spk (ns:List Int) (n:Nat) (f:Int->Addr):List (Key × V):=(keys ns n).map λx=>((Sum.inl x:Key),V.ref (f x))
structure SpotsF (H:Hp) (ns:List Int) (n:Nat) (f:Int->Addr):Prop where
 inj:∀ x∈keys ns n,∀ y∈keys ns n,f x=f y->x=y
 at':∀ x∈keys ns n,H (f x)=some (.lst ((pl ns n x).map nV))
def Zdx:Sp:=λvs H Q _=>∃ (a:Addr) (M:List (Option Nat)) (ns:List Int),vs=[.ref a]/\H a=some (.lst (ns.map V.int))/\TD M ns/\ns.length<=120 /\
 ∀ (d:Addr) (f:Int->Addr) (H':Hp),Same H H'->H d=none->H' d=some (.dK (spk ns ns.length f))->SpotsF H' ns ns.length f->(∀ x∈keys ns ns.length,H (f x)=none)->Q (.ref d) H'
def Jl:FnScope ["names_at","spots","place","name"] ["names_at"] (Zg K5):=An
def Zee (T:Txt w K mg t):FnOk P w K mg base (CXr P w) 1 t.dR t.eu ["names_at"] Zdx:=by
 refine T.eV.F.aR Jl (λ_ _ _ _ H vs Q E hr h=>?_)
 ·obtain ⟨a,M,ns,rfl,ha,td,hl,k⟩:=h
  have hu:=Qa hr;refine ⟨_,(Ze (Zj (i:=1) Jl.nd Z (Or.inl Z) Kn)
   (Ze (Qp PassesOwn.never rfl (Zl3 rfl T.gG (Za (pv 0) Zb)) (Gg rfl (Xo (Z0 (i:=2) Jl.nd rfl (Or.inl rfl)) (Xo (Z0 (i:=3) Jl.nd rfl (Or.inl rfl)) Qd))) (Ze (Ym (PW.pt (Q5 (Zy J7 (pv 3) Zd (Zx _)) (Qn (Zy Q6 (pv 3) (Yg (v:=.int 9999) rfl T.dM ⟨_,rfl⟩) (Zx _))))) X0 Yc)
   (Ze (Yw (Y4 PySem.F.plainAttrs_list PySem.F.slot_list_append PySem.F.type_list_append Xq (Zjt (pv 1) (pv 3) (Ya Zb) ⟨rfl,rfl,rfl,rfl⟩) (Za (pv 2) Zb)))
   (Zi (Ym (Zy Q6 (Zs Zn (by rfl) T.ak PySem.boot_len (Za (Ze9 hu (pv 1) (pv 3) (λ_ _=>rfl)) Zb)) Zd (Zx _)) X0 Yc)))))
   (Zi (Zw (pv 1))))),?_⟩
  intro d hd;have hda:a≠d:=Zr ha hd;dsimp only [Z2];show tSeq (tFor _ _ _) _ _ _ _;refine Yn (λσ H1=>∃ (f:Int->Addr) (v2 v3:Option V),σ=[some (.ref a),some (.ref d),v2,v3]/\Same H H1/\H1 d=some (.dK (spk ns ns.length f))/\SpotsF H1 ns ns.length f/\∀ x∈keys ns ns.length,H (f x)=none) (λnx jr=>?_) ?_
  ·refine ⟨_,Z,a,Z,⟨_,SqL.of (by rw [Zh hda]; exact ha)⟩,?_⟩
   have el:(ns.map V.int).length=ns.length:=by simp
   refine Zkm (xs:=ns.map V.int) (λi σ H1=>∃ (f:Int->Addr) (v2 v3:Option V),σ=[some (.ref a),some (.ref d),v2,v3]/\Same H H1/\H1 d=some (.dK (spk ns i f))/\SpotsF H1 ns i f/\∀ x∈keys ns i,H (f x)=none)
    ⟨λ_=>0,none,none,rfl,Same.new hd,Zc,⟨λx hx=>by simp [keys] at hx,λx hx=>by simp [keys] at hx⟩,λx hx=>by simp [keys] at hx⟩ ?_ ?_ ?_
   ·rintro i σ H1 _ ⟨f,v2,v3,rfl,sm,_⟩
    exact SqL.of (sm _ _ ha)
   ·rintro i x0 σ H1 q hx hq ⟨f,v2,v3,rfl,sm,qc,sf,mf⟩
    have hi:i < ns.length:=by rw [<- el]; exact (Aa hx).1
    obtain ⟨x,kj⟩:∃ x,ns[i]?=some x:=⟨_,Ad hi⟩;obtain rfl:x0=V.int x:=by rw [Ai,kj] at hx; exact (Ay hx).symm
    refine ⟨q,_,Z,SqT.of Zc,Z,_,_,Z,_,_,Z,Z,?_⟩;obtain ⟨x0,x1⟩:=td.rng i x kj;refine ⟨_,Z,_,_,Z,Z,_,Z,?_⟩;rw [decide_eq_false (by lia:¬ x < 0)];refine iteF ?_;refine ⟨_,Z,_,_,Z,Z,_,Z,?_⟩;rw [decide_eq_false (by lia:¬ x > 9999)];refine iteF ?_;have zz:d≠q:=Zr qc hq;have hd2:(upd H1 q (.tup [.int i,.int x])) d=some (.dK (spk ns i f)):=by rw [Zh zz]; exact qc
    dsimp only [Vp];show tSeq (Zkz _) _ _ _ _;refine Yn (λσ H2=>∃ (f:Int->Addr),σ=[some (.ref a),some (.ref d),some (.int i),some (.int x)]/\Same H H2/\H2 d=some (.dK (spk ns (i + 1) f))/\SpotsF H2 ns (i + 1) f/\∀ x∈keys ns (i + 1),H (f x)=none) (λnx2 wj=>?_) ?_
    ·refine ⟨_,Z,d,Z,.inl ⟨_,.inl hd2⟩,_,Z,A0 _,λl uu=>?_⟩
     obtain ⟨hlq,km⟩:=Qg uu;have lu:d≠l:=Zr qc km;have z9:(upd (upd H1 q (.tup [.int i,.int x])) l (.lst [])) d=some (.dK (spk ns i f)):=by rw [Zh lu]; exact hd2
     have hlk:(spk ns i f).length < sizeLine:=by unfold spk; rw [Ac]; exact Z5 (by have:=Qu ns i; lia)
     have qm:H q=none:=sm.free hq;have zu:H l=none:=sm.free km;have smq:Same H (upd (upd H1 q (.tup [.int i,.int x])) l (.lst [])):=Same.add (Same.add sm qm) zu;have lr:(pl ns i x).length < sizeLine:=Z5 (by have:=Zcw td i x; lia);have j6:∀ b u,H1 b=some u->(upd (upd H1 q (.tup [.int i,.int x])) l (.lst [])) b=some u:=λb u e=>by rw [Zh (Zr e km),Zh (Zr e hq)]; exact e
     refine ⟨spk ns i f,Sum.inl x,z9,hlk,Z,λv hv=>?_,λhv=>?_⟩
     ·-- the name stands already
      have pf:x∈keys ns i:=by
       unfold spk at hv;rw [Qc] at hv;by_cases c:x∈keys ns i
       ·exact c
       ·rw [if_neg c] at hv; cases hv
      obtain rfl:v=V.ref (f x):=by
       unfold spk at hv;rw [Qc,if_pos pf] at hv;exact (Ay hv).symm
      have ek:keys ns (i + 1)=keys ns i:=by rw [Jy kj,if_pos pf]
      have qb:=j6 _ _ (sf.at' x pf);refine ⟨.inl ⟨Z,_,SqL.of qb⟩,_,Z,f x,_,_,Z,Z,qb,by rw [Ac]; exact lr,wj _ _ ⟨f,Z,Same.add smq (mf x pf),?_,⟨?_,?_⟩,?_⟩⟩
      ·have:d≠f x:=λz=>by rw [<- z,z9] at qb; cases qb
       rw [Zh this,z9];unfold spk;rw [ek]
      ·rw [ek]; exact sf.inj
      ·intro y hy
       rw [ek] at hy;by_cases c:y=x
       ·subst c
        rw [Zc,Ze7 kj,Ak];rfl
       ·have:f y≠f x:=λz=>c (sf.inj y hy x pf z)
        rw [Zh this,j6 _ _ (sf.at' y hy),Zcv (by rw [kj]; intro z; cases z; exact c Z)]
      ·rw [ek]; exact mf
     ·-- a new name
      have pf:x ∉ keys ns i:=by
       intro c;unfold spk at hv;rw [Qc,if_pos c] at hv;cases hv
      have ek:keys ns (i + 1)=keys ns i ++ [x]:=by rw [Jy kj,if_neg pf]
      have ep:putK (spk ns i f) (Sum.inl x) (V.ref l)=spk ns (i + 1) (λy=>if y=x then l else f y):=by
       unfold spk;rw [Ze5 pf,ek,Ak];congr 1
       ·apply List.map_congr_left
        intro y hy;dsimp only;rw [if_neg (λ(z:y=x)=>pf (z ▸ hy))]
       ·simp
      rw [ep];have hl4:(upd (upd (upd H1 q (.tup [.int i,.int x])) l (.lst [])) d (.dK (spk ns (i + 1) (λy=>if y=x then l else f y)))) l=some (.lst []):=by rw [Zh (Ne.symm lu),Zc]
      refine ⟨.inl ⟨Z,_,SqL.of hl4⟩,_,Z,l,_,_,Z,Z,hl4,by decide,wj _ _ ⟨λy=>if y=x then l else f y,Z,Same.add (Same.add smq hd) zu,?_,⟨?_,?_⟩,?_⟩⟩
      ·rw [Zh lu,Zc]
      ·intro y hy z hz e
       rw [ek,List.mem_append,List.mem_singleton] at hy hz;by_cases c1:y=x
       ·by_cases c2:z=x
        ·rw [c1,c2]
        ·have yr:=hz.resolve_right c2
         simp only [c1,c2,if_true,if_false] at e;exact absurd (sf.at' z yr) (by rw [<- e,km]; intro w; cases w)
       ·have pe:=hy.resolve_right c1
        by_cases c2:z=x
        ·simp only [c1,c2,if_true,if_false] at e
         exact absurd (sf.at' y pe) (by rw [e,km]; intro w; cases w)
        ·have yr:=hz.resolve_right c2
         simp only [c1,c2,if_false] at e;exact sf.inj y pe z yr e
      ·intro y hy
       rw [ek,List.mem_append,List.mem_singleton] at hy;by_cases c:y=x
       ·subst c
        simp only [if_true];rw [Zc,Ze7 kj,Znd pf];rfl
       ·have pe:=hy.resolve_right c
        have e1:=sf.at' y pe;have n1:f y≠l:=Zr e1 km;have n2:f y≠d:=λz=>by rw [z,qc] at e1; cases e1
        simp only [c,if_false];rw [Zh n1,Zh n2,j6 _ _ e1,Zcv (by rw [kj]; intro z; cases z; exact c Z)]
      ·intro y hy
       rw [ek,List.mem_append,List.mem_singleton] at hy;by_cases c:y=x
       ·simp only [c,if_true]; exact zu
       ·simp only [c,if_false]; exact mf y (hy.resolve_right c)
    rintro σ H2 ⟨f',rfl,ui,hd4,sf2,xw⟩;have hx3:x∈keys ns (i + 1):=Wh.mpr ⟨i,by lia,kj⟩;have hg:valV (spk ns (i + 1) f') (Sum.inl x)=some (V.ref (f' x)):=by unfold spk; rw [Qc,if_pos hx3]
    refine ⟨_,Z,_,Z,d,_,Z,?_,f' x,_,Z,.inl (SqL.of (sf2.at' x hx3)),_,_,Z,Z,_,Z,?_⟩
    ·exact .inl ⟨_,Sum.inl x,.inl hd4,Z,hg.symm⟩
    have h2:=Zcw td (i + 1) x;rw [decide_eq_false (by rw [Ac]; lia:¬ ((((pl ns (i + 1) x).map nV).length:Nat):Int) > 2)];refine iteF ?_;exact ⟨f',_,_,Z,ui,hd4,sf2,xw⟩
   ·rintro σ H1 ⟨f,v2,v3,rfl,sm,qc,sf,mf⟩
    rw [el] at qc sf mf;exact jr _ _ ⟨f,v2,v3,Z,sm,qc,sf,mf⟩
  rintro σ H1 ⟨f,v2,v3,rfl,sm,qc,sf,mf⟩;exact ⟨_,Z,k d f H1 sm hd qc sf mf⟩
def Zd0:Sp:=λvs H Q _=>∃ (d:Addr) (M:List (Option Nat)) (ns:List Int) (f:Int->Addr),vs=[.ref d,.int ns.length]/\H d=some (.dK (spk ns ns.length f))/\SpotsF H ns ns.length f/\TD M ns/\ns.length<=120 /\
 ∀ (m:Addr) (o:Obj) (H':Hp),(∀ b u,b≠d->H b=some u->H' b=some u)->H m=none->H' m=some (.lst (M.map mV))->H' d=some (.frz o (.dK (spk ns ns.length f)))->Q (.ref m) H'
def Ve:FnScope ["spots","count","mates","pair"] ["spots","count"] (Zg K7):=An
def Zeg (T:Txt w K mg t):FnOk P w K mg base (CXr P w) 1 t.dU t.ez ["spots","count"] Zd0:=by
 refine T.eW.F.aR Ve (λ_ _ _ _ H vs Q E hr h=>?_)
 ·obtain ⟨d,M,ns,f,rfl,hd,sf,td,hl,k⟩:=h
  refine ⟨_,(Ze (Zj (i:=2) Ve.nd Z (Or.inl Z) (Zk Zh2 (Ya (Za Vl Zb)) (pv 1)))
   (Ze (Qp PassesOwn.never rfl (Zl0 (pv 0) ⟨rfl,rfl,rfl⟩) (Z0 (i:=3) Ve.nd rfl (Or.inl rfl)) (Zi (Ym (Zy Y7 (Zs Zn (by rfl) T.ak PySem.boot_len (Za (pv 3) Zb)) Zd (Zx _)) (Ze (Uw (Zt Zo (pv 3) Zd (λ_ _=>rfl)) (Gh (pv 2) (Zt Zo (pv 3) Zd (λ_ _=>rfl)) Vs))
   (Zi (Uw (Zt Zo (pv 3) Zd (λ_ _=>rfl)) (Gh (pv 2) (Zt Zo (pv 3) Zd (λ_ _=>rfl)) Vs)))) Yc)))
   (Zi (Zw (pv 2))))),?_⟩;refine ⟨(by show 1<=sizeLine; decide),λq hq=>?_⟩;refine ⟨_,Z,q,_,_,Z,Z,Zc,by lia,by lia,?_,λm hm=>?_⟩
  ·have:((ns.length:Nat):Int).toNat=ns.length:=by lia
   show 1 * ((ns.length:Nat):Int).toNat<=sizeLine;rw [this,sizeLine_eq]; lia
  obtain ⟨hmq,md⟩:=Qg hm;have eM:(List.replicate ((ns.length:Nat):Int).toNat [V.non]).flatten=(part M ns []).map mV:=by
   have:((ns.length:Nat):Int).toNat=M.length:=by rw [<- td.len]; lia
   rw [this,List.flatten_replicate_singleton,Zjw td,List.map_replicate]
   rfl
  rw [eM];have ux:d≠m:=Zr hd md;have zz:d≠q:=Zr hd hq;dsimp only [Z2];show tSeq (tFor _ _ _) _ _ _ _;refine Yn (λσ H1=>∃ (o:Obj) (v:Option V),σ=[some (.ref d),some (.int ns.length),some (.ref m),v]/\(∀ b u,b≠d->H b=some u->H1 b=some u)/\H1 m=some (.lst (M.map mV))/\H1 d=some (.frz o (.dK (spk ns ns.length f)))) (λnx jr=>?_) ?_
  ·refine ⟨_,Z,d,_,Z,.inl ⟨by rw [Zh ux,Zh zz]; exact hd,λo=>?_⟩⟩
   refine Zkk (λj σ H1=>∃ (v:Option V),σ=[some (.ref d),some (.int ns.length),some (.ref m),v]/\(∀ b u,b≠d->H b=some u->H1 b=some u)/\H1 m=some (.lst ((part M ns ((keys ns ns.length).take j)).map mV))/\H1 d=some (.frz o (.dK (spk ns ns.length f))))
    ⟨none,rfl,λb u hb e=>?_,?_,Zc⟩ ?_ ?_ ?_
   ·rw [Zh hb,Zh (Zr e md),Zh (Zr e hq)]; exact e
   ·rw [Zh (Ne.symm ux),Zc]
    rfl
   ·rintro j σ H1 _ ⟨v,rfl,j6,h1,h2⟩
    exact h2
   ·rintro j k0 x0 σ H1 hk ⟨v,rfl,j6,h1,h2⟩
    obtain ⟨x,hx,rfl⟩:∃ x,(keys ns ns.length)[j]?=some x/\x0=V.ref (f x):=by
     unfold spk at hk;rw [Ai] at hk
     cases e:(keys ns ns.length)[j]? with
     | none=>rw [e] at hk; cases hk
     | some x=>rw [e] at hk; cases hk; exact ⟨x,Z,Z⟩
    have qp:x∈keys ns ns.length:=Av hx;have et:(keys ns ns.length).take (j + 1)=(keys ns ns.length).take j ++ [x]:=by
     rw [Ax,hx]; rfl
    have qb:=sf.at' x qp;have hfd:f x≠d:=λz=>by rw [z,hd] at qb; cases qb
    have pi:=j6 _ _ hfd qb;dsimp only [Z2];refine ⟨_,Z,f x,_,Z,.inl (SqL.of pi),Z,_,Z,?_⟩
    rcases Vw td qp with ⟨a,e,ea,ma⟩ | ⟨a,b,nk,e,ea,eb,ma,mb⟩
    ·rw [e] at pi ⊢
     refine iteF ?_;refine ⟨_,Z,j6,?_,h2⟩;rw [et,Zjv td e ma];exact h1
    ·rw [e] at pi ⊢
     refine iteT ?_;have la:a < (part M ns ((keys ns ns.length).take j)).length:=by rw [X6]; exact (Aa ma).1
     have lb:b < (part M ns ((keys ns ns.length).take j)).length:=by rw [X6]; exact (Aa mb).1
     have ph:f x≠m:=Zr qb md;refine ⟨_,Z,f x,_,_,_,Z,Z,SqL.of pi,Z,?_⟩;refine ⟨_,Z,_,Z,f x,_,_,_,Z,Z,SqL.of pi,Z,m,_,_,a,Z,Z,h1,(by rw [Ac]; exact Oh la),?_⟩;have xw:(upd H1 m (.lst (((part M ns ((keys ns ns.length).take j)).map mV).set a (nV b)))) (f x)=some (.lst ([a,b].map nV)):=by rw [Zh ph]; exact pi
     refine ⟨_,Z,f x,_,_,_,Z,Z,SqL.of xw,Z,?_⟩;refine ⟨_,Z,_,Z,f x,_,_,_,Z,Z,SqL.of xw,Z,m,_,_,b,Z,Z,Zc,(by rw [List.length_set,Ac]; exact Oh lb),?_⟩;refine ⟨_,Z,λc u hc ec=>?_,?_,?_⟩
     ·have:c≠m:=Zr ec md
      rw [Zh this,Zh this];exact j6 c u hc ec
     ·rw [Zc,et,Zh0 td e nk ma mb]
      show some (HO.lst ((((part M ns ((keys ns ns.length).take j)).map mV).set a (mV (some b))).set b (mV (some a))))=_;rw [map_set,map_set]
     ·rw [Zh ux,Zh ux]; exact h2
   ·rintro σ H1 ⟨v,rfl,j6,h1,h2⟩
    refine jr _ _ ⟨o,v,Z,j6,?_,h2⟩;have:(keys ns ns.length).take (spk ns ns.length f).length=keys ns ns.length:=by
     unfold spk; rw [Ac,List.take_length]
    rw [this,Zjx td] at h1;exact h1
  rintro σ H1 ⟨o,v,rfl,j6,h1,h2⟩;exact ⟨_,Z,k m o H1 j6 md h1 h2⟩
def Xx (cl na sp mt:Addr):List (Str × V):=putF "mates" (.ref mt) (putF "spots" (.ref sp) (putF "names_at" (.ref na) (putF "cloths" (.ref cl) [])))
theorem Xg (f:Str) (v:V):∀ fs:List (Str × V),(putF f v fs).length<=fs.length + 1
 | []=>by simp [putF]
 | (g,x) :: r=>by
  have:=Xg f v r;unfold putF;split
  ·simp
  ·simp only [List.length_cons]; lia
def s_cn:¬ ("cloths":Str)="names_at":=by decide
def s_cs:¬ ("cloths":Str)="spots":=by decide
def s_cm:¬ ("cloths":Str)="mates":=by decide
def s_ns:¬ ("names_at":Str)="spots":=by decide
def s_nm:¬ ("names_at":Str)="mates":=by decide
def s_sm:¬ ("spots":Str)="mates":=by decide
def Ziq (cl na sp mt:Addr):(Xx cl na sp mt).lookup ("cloths":Str)=some (.ref cl):=by
 unfold Xx; rw [Z1,if_neg s_cm,Z1,if_neg s_cs,Z1,if_neg s_cn,Z1,if_pos rfl]
def Zkn (cl na sp mt:Addr):(Xx cl na sp mt).lookup ("names_at":Str)=some (.ref na):=by
 unfold Xx; rw [Z1,if_neg s_nm,Z1,if_neg s_ns,Z1,if_pos rfl]
def Kt (cl na sp mt:Addr):(Xx cl na sp mt).lookup ("spots":Str)=some (.ref sp):=by
 unfold Xx; rw [Z1,if_neg s_sm,Z1,if_pos rfl]
def Zko (cl na sp mt:Addr):(Xx cl na sp mt).lookup ("mates":Str)=some (.ref mt):=by
 unfold Xx; rw [Z1,if_pos rfl]
def Wl (cl na sp mt:Addr) {m:Str} (h:m≠"cloths"/\m≠"names_at"/\m≠"spots"/\m≠"mates":=by decide):(Xx cl na sp mt).lookup m=none:=by
 obtain ⟨h1,h2,h3,h4⟩:=h;unfold Xx; rw [Z1,if_neg h4,Z1,if_neg h3,Z1,if_neg h2,Z1,if_neg h1]; rfl
structure TentB (C:Addr) (H:Hp) (p:Addr) (M:List (Option Nat)) (ns:List Int) (dx cl na sp mt:Addr) (o:Obj) (f:Int->Addr):Prop where
 ins:H p=some (.ins C dx (Xx cl na sp mt))
 rows:Xa H cl ns
 names:H na=some (.lst (ns.map V.int))
 spots:H sp=some (.frz o (.dK (spk ns ns.length f)))
 mates:H mt=some (.lst (M.map mV))
 at':∀ x∈keys ns ns.length,H (f x)=some (.lst ((pl ns ns.length x).map nV))
def Yu (C:Addr) (H:Hp) (p:Addr) (M:List (Option Nat)) (ns:List Int):Prop:=∃ dx cl na sp mt o f,TentB C H p M ns dx cl na sp mt o f
def Yu.same (h:Yu C H p M ns) (s:Same H H'):Yu C H' p M ns:=by
 obtain ⟨dx,cl,na,sp,mt,o,f,b⟩:=h;exact ⟨dx,cl,na,sp,mt,o,f,s _ _ b.ins,b.rows.same s,s _ _ b.names,s _ _ b.spots,s _ _ b.mates,λx hx=>s _ _ (b.at' x hx)⟩
def Zi7 {ns:List Int} {n:Nat} (h:ns.length=3 * n) (hk:k < n):(ns.take (3 * k)).map V.int ++ row3 ns k=(ns.take (3 * (k + 1))).map V.int:=by
 have e:ns.take (3 * (k + 1))=ns.take (3 * k) ++ [ns.getD (3 * k) 0,ns.getD (3 * k + 1) 0,ns.getD (3 * k + 2) 0]:=by
  have l0:3 * k < ns.length:=by lia
  have l1:3 * k + 1 < ns.length:=by lia
  have l2:3 * k + 2 < ns.length:=by lia
  have g:∀ i,i < ns.length->ns[i]?=some (ns.getD i 0):=λi hi=>by rw [Ae,Ad hi]; rfl
  rw [show 3 * (k + 1)=3 * k + 1 + 1 + 1 by lia,Ax,Ax,Ax,g _ l0,g _ l1,g _ l2,List.append_assoc,List.append_assoc];rfl
 rw [e,Ak];rfl
def Zb3 (C:Addr):Sp:=λvs H Q _=>∃ (p r dx:Addr) (M:List (Option Nat)) (ns:List Int),vs=[.ref p,.ref r]/\H p=some (.ins C dx [])/\Xa H r ns/\TD M ns/\ns.length<=120 /\
 ∀ (H':Hp),(∀ b u,b≠p->H b=some u->H' b=some u)->Yu C H' p M ns->Q .non H'
def Zce:FnScope ["self","rows"] ["self","rows"] (Zg Kd):=An
def Zda (T:Txt w K mg t):FnOk P w K mg base (CXr P w) 2 t.bO t.dj ["self","rows"] (Zb3 t.ac):=by
  refine T.dC.F.aR Zce (λ_ _ _ _ H vs Q E hr h=>?_)
  · obtain ⟨p,r,dx,M,ns,rfl,hp,⟨ts,ky,hr2,hr3⟩,td,hl,k⟩:=h
    refine ⟨_,(Ze (Ym (Wt (Vu (pv 1) (λ_=>rfl))) X0 Yc)
      (Ze (X1 (pv 0) (Wg (ts:=["row"]) (fv:=[]) ⟨rfl,by decide +kernel,by decide +kernel,Yy (by rfl),trivial⟩ rfl (Xf (pv 1)) (λ_ _ _ _=>(Z0 (i:=0) (show List.Nodup (["row"]:List Str) from by decide +kernel) rfl (Or.inl rfl) (Or.inr rfl))) (λ_ _ _ _=>Y8) (λ_ _ _=>rfl) (λ_ _ _ _ _ _=>Xt (Xj (Fp K) (by rfl) T.iC PySem.Pv.boot_tuple (Za (pv 0) Zb)))) rfl)
      (Ze (X1 (pv 0) (Wg (ts:=["row","name"]) (fv:=[]) ⟨rfl,by decide +kernel,by decide +kernel,Yy (by rfl),trivial⟩ rfl (Xf (Ye (pv 0) rfl)) (λ_ _ _ _=>(Z0 (i:=0) (show List.Nodup (["row","name"]:List Str) from by decide +kernel) rfl (Or.inl rfl) (Or.inr rfl))) (λ_ _ _ _=>Y8) (λ_ _ _=>rfl) (λ_ _ _ _ _ _=>Znh rfl rfl (Zl1 K (pv 0)) (Z0 (i:=1) (show List.Nodup (["row","name"]:List Str) from by decide +kernel) rfl (Or.inl rfl) (Or.inr rfl)) Y8 (pv 1))) rfl)
      (Ze (X1 (pv 0) (pcT (Zee T) hr T.eV (Za (Ye (pv 0) rfl) Zb)) rfl)
      (Zi (X1 (pv 0) (pcT (Zeg T) hr T.eW (Za (Ye (pv 0) rfl) (Za (Zs Zn (by rfl) T.ak PySem.boot_len (Za (Ye (pv 0) rfl) Zb)) Zb))) rfl)))))),?_⟩;obtain ⟨n,n1,n2,hn⟩:=td.n;have hnn:ns.length=3 * n:=by rw [td.len,hn]
    have yx:ts.length=n:=by lia
    have hrp:r≠p:=λz=>by rw [z,hp] at ky; cases ky
    refine ⟨_,Z,true,.inl ⟨_,SqL.of ky,?_⟩,?_⟩
    · cases ts with
      | nil=>simp at yx; lia
      | cons _ _=>rfl
    refine iteF ?_;dsimp only [Vp];refine ⟨_,Z,r,Z,⟨_,SqL.of ky⟩,λD hD=>?_⟩;have hDp:D≠p:=λz=>by rw [z,hp] at hD; cases hD
    refine Y3 (xs:=ts.map V.ref) (λi σ H1=>∃ (v:Option V),σ=[v]/\Same H H1/\H1 D=some (.lst ((ts.take i).map V.ref))) ⟨none,Z,Same.new hD,Zc⟩ ?_ ?_ ?_
    · rintro i σ H1 _ ⟨v,rfl,sm,h1⟩
      exact SqL.of (sm _ _ ky)
    · rintro i x σ H1 hx ⟨v,rfl,sm,h1⟩
      dsimp only [Z2,tYes];rw [if_pos rfl];obtain ⟨tt,ht,rfl⟩:=Y1 hx;refine ⟨_,Z,tt,_,Z,.inr ⟨SqT.of (sm _ _ (hr3 i tt ht)),_,h1,(by rw [Ac,Aj]; exact Z5 (by lia)),_,Z,Same.add sm hD,?_⟩⟩;rw [Zc,Ax,ht,Ak];rfl
    rintro σ H1 ⟨v,rfl,u6,h1⟩;rw [Ac,List.take_length] at h1;have xp:=u6 _ _ hp;refine ⟨_,Z,p,_,dx,_,Z,xp,T.aj,T.bc,by decide,?_⟩;have tj:∀ b u,b≠p->H b=some u->(upd H1 p (.ins t.ac dx (putF "cloths" (.ref D) []))) b=some u:=λb u hb e=>by rw [Zh hb]; exact u6 b u e
    have mh:(upd H1 p (.ins t.ac dx (putF "cloths" (.ref D) []))) D=some (.lst (ts.map V.ref)):=by rw [Zh hDp]; exact h1
    have lr:(upd H1 p (.ins t.ac dx (putF "cloths" (.ref D) []))) p=some (.ins t.ac dx (putF "cloths" (.ref D) [])):=Zc
    have xm:∀ (k:Nat) (q:Addr),ts[k]?=some q->(upd H1 p (.ins t.ac dx (putF "cloths" (.ref D) []))) q=some (.tup (row3 ns k)):=λk q e=>by
      have e1:=hr3 k q e;have:q≠p:=λz=>by rw [z,hp] at e1; cases e1
      exact tj q _ this e1
    generalize upd H1 p (.ins t.ac dx (putF "cloths" (.ref D) []))=H2 at tj mh lr xm ⊢;refine ⟨_,Z,p,_,dx,_,_,Z,lr,T.aj,T.bc,Z,D,Z,⟨_,SqL.of mh⟩,λN hN=>?_⟩;have hND:N≠D:=λz=>by rw [z,mh] at hN; cases hN
    have hNp:N≠p:=λz=>by rw [z,lr] at hN; cases hN
    refine Y3 (xs:=ts.map V.ref) (λi σ H3=>∃ (v v':Option V),σ=[v,v']/\Same H2 H3/\H3 N=some (.lst ((ns.take (3 * i)).map V.int))) ⟨none,none,Z,Same.new hN,Zc⟩ ?_ ?_ ?_
    · rintro i σ H3 _ ⟨v,v',rfl,sm,h3⟩
      exact SqL.of (sm _ _ mh)
    · rintro i x σ H3 hx ⟨v,v',rfl,sm,h3⟩
      dsimp only [Z2,tYes];rw [if_pos rfl];obtain ⟨tt,ht,rfl⟩:=Y1 hx;have hi:i < n:=by rw [<- yx]; exact (Aa ht).1
      refine ⟨_,Z,tt,Z,⟨_,SqT.of (sm _ _ (xm i tt ht))⟩,?_⟩;refine Zj8 (xs:=row3 ns i) (λj σ H4=>∃ (v':Option V),σ=[some (.ref tt),v']/\Same H2 H4/\H4 N=some (.lst ((ns.take (3 * i)).map V.int ++ (row3 ns i).take j))) ⟨v',Z,sm,by rw [h3,List.take_zero,List.append_nil]⟩ ?_ ?_ ?_
      · rintro j σ H4 _ ⟨v',rfl,sm,h4⟩
        exact SqT.of (sm _ _ (xm i tt ht))
      · rintro j x σ H4 hx ⟨v',rfl,sm,h4⟩
        dsimp only [Z2,tYes];rw [if_pos rfl];refine ⟨_,Z,_,h4,?_,_,Z,Same.add sm hN,?_⟩
        · rw [Af,Ac,Aj,Aj]
          exact Z5 (by have:(row3 ns i).length=3:=rfl; lia)
        · rw [Zc,Ax,hx,<- List.append_assoc]
          rfl
      · rintro σ H4 ⟨v',rfl,sm,h4⟩
        refine ⟨_,_,Z,sm,?_⟩;rw [h4,List.take_length,Zi7 hnn hi]
    rintro σ H3 ⟨v,v',rfl,sm3,h3⟩;have eall:ns.take (3 * (ts.map V.ref).length)=ns:=by rw [Ac,yx,<- hnn,List.take_length]
    rw [eall] at h3;have hp3:=sm3 _ _ lr;refine ⟨_,rfl,p,_,dx,_,rfl,hp3,T.aj,T.aF,(by have h1:=Xg "cloths" (.ref D) []; simp only [List.length_nil] at h1; lia),?_⟩;have v9:∀ b u,b≠p->H2 b=some u->(upd H3 p (.ins t.ac dx (putF "names_at" (.ref N) (putF "cloths" (.ref D) [])))) b=some u:=λb u hb e=>by rw [Zh hb]; exact sm3 b u e
    have hN4:(upd H3 p (.ins t.ac dx (putF "names_at" (.ref N) (putF "cloths" (.ref D) [])))) N=some (.lst (ns.map V.int)):=by rw [Zh hNp]; exact h3
    have rp:(upd H3 p (.ins t.ac dx (putF "names_at" (.ref N) (putF "cloths" (.ref D) [])))) p=some (.ins t.ac dx (putF "names_at" (.ref N) (putF "cloths" (.ref D) []))):=Zc;generalize upd H3 p (.ins t.ac dx (putF "names_at" (.ref N) (putF "cloths" (.ref D) [])))=H4 at v9 hN4 rp ⊢;have xi:(putF "names_at" (.ref N) (putF "cloths" (.ref D) [])).lookup ("names_at":Str)=some (.ref N):=by rw [Z1,if_pos rfl]
    refine ⟨_,Z,p,_,dx,_,_,Z,rp,T.aj,T.aF,xi,N,M,ns,Z,hN4,td,hl,λd f H5 sm5 z8 hd5' sf mf=>?_⟩;have vd:=sm5 _ _ rp;refine ⟨_,rfl,p,_,dx,_,rfl,vd,T.aj,T.aH,(by have h1:=Xg "cloths" (.ref D) []; have h2:=Xg "names_at" (.ref N) (putF "cloths" (.ref D) []); simp only [List.length_nil] at h1; lia),?_⟩;have z0:d≠p:=λz=>by rw [z,rp] at z8; cases z8
    have xv:∀ x∈keys ns ns.length,f x≠p:=λx hx z=>by have:=mf x hx; rw [z,rp] at this; cases this
    have tf:∀ b u,b≠p->H4 b=some u->(upd H5 p (.ins t.ac dx (putF "spots" (.ref d) (putF "names_at" (.ref N) (putF "cloths" (.ref D) []))))) b=some u:=λb u hb e=>by rw [Zh hb]; exact sm5 b u e
    have nh:(upd H5 p (.ins t.ac dx (putF "spots" (.ref d) (putF "names_at" (.ref N) (putF "cloths" (.ref D) []))))) p=some (.ins t.ac dx (putF "spots" (.ref d) (putF "names_at" (.ref N) (putF "cloths" (.ref D) [])))):=Zc;have xy:(upd H5 p (.ins t.ac dx (putF "spots" (.ref d) (putF "names_at" (.ref N) (putF "cloths" (.ref D) []))))) d=some (.dK (spk ns ns.length f)):=by rw [Zh z0]; exact hd5'
    have yf:SpotsF (upd H5 p (.ins t.ac dx (putF "spots" (.ref d) (putF "names_at" (.ref N) (putF "cloths" (.ref D) []))))) ns ns.length f:=⟨sf.inj,λx hx=>by rw [Zh (xv x hx)]; exact sf.at' x hx⟩;generalize upd H5 p (.ins t.ac dx (putF "spots" (.ref d) (putF "names_at" (.ref N) (putF "cloths" (.ref D) []))))=H6 at tf nh xy yf ⊢;have lk2:(putF "spots" (.ref d) (putF "names_at" (.ref N) (putF "cloths" (.ref D) []))).lookup ("spots":Str)=some (.ref d):=by rw [Z1,if_pos rfl]
    have lk3:(putF "spots" (.ref d) (putF "names_at" (.ref N) (putF "cloths" (.ref D) []))).lookup ("names_at":Str)=some (.ref N):=by rw [Z1,if_neg s_ns,Z1,if_pos rfl]
    have ya:=tf _ _ hNp hN4;have eln:(((ns.map V.int).length:Nat):Int)=(ns.length:Nat):=by rw [Ac]
    refine ⟨_,Z,p,_,dx,_,_,Z,nh,T.aj,T.aH,lk2,_,Z,p,_,dx,_,_,Z,nh,T.aj,T.aF,lk3,N,_,Z,.inl (SqL.of ya),d,M,ns,f,(by rw [eln]; rfl),xy,yf,td,hl,λm o H7 vz hm7 hmm hdd=>?_⟩;have hpd:p≠d:=Ne.symm z0;have uq:=vz _ _ hpd nh;refine ⟨_,rfl,p,_,dx,_,rfl,uq,T.aj,T.cL,(by have h1:=Xg "cloths" (.ref D) []; have h2:=Xg "names_at" (.ref N) (putF "cloths" (.ref D) []); have h3:=Xg "spots" (.ref d) (putF "names_at" (.ref N) (putF "cloths" (.ref D) [])); simp only [List.length_nil] at h1; lia),?_⟩;have hmp:m≠p:=λz=>by rw [z,nh] at hm7; cases hm7
    have dN:N≠d:=λz=>by rw [z,xy] at ya; cases ya
    have sv:∀ b u,b≠p->b≠d->H6 b=some u->(upd H7 p (.ins t.ac dx (Xx D N d m))) b=some u:=λb u hb vk e=>by rw [Zh hb]; exact vz b u vk e
    have wp:∀ b u,b≠p->H4 b=some u->H6 b=some u/\b≠d:=λb u hb e=>⟨tf b u hb e,λz=>by rw [z,z8] at e; cases e⟩;have ox:∀ b u,b≠p->H2 b=some u->(upd H7 p (.ins t.ac dx (Xx D N d m))) b=some u:=λb u hb e=>by
      obtain ⟨e6,vk⟩:=wp b u hb (v9 b u hb e)
      exact sv b u hb vk e6
    refine k _ (λb u hb e=>ox b u hb (tj b u hb e)) ⟨dx,D,N,d,m,o,f,Zc,⟨ts,ox _ _ hDp mh,by lia,λk q e=>?_⟩,?_,?_,?_,?_⟩
    · have e1:=xm k q e
      exact ox q _ (λz=>by rw [z,lr] at e1; cases e1) e1
    · exact sv _ _ hNp dN ya
    · rw [Zh z0]; exact hdd
    · rw [Zh hmp]; exact hmm
    · intro x hx
      have e1:=yf.at' x hx;exact sv _ _ (xv x hx) (λz=>by rw [z,xy] at e1; cases e1) e1
def Y5 (ns:List Int) (x:Int):Str:=match pl ns ns.length x with
 | [a,b]=>if a / 3=b / 3 then "locked" else "free"
 | _=>"rim"
def Zd2:Sp:=λvs H Q _=>∃ p:Int,vs=[.int p]/\Q (.int (p / 3)) H
def Zb1 (C:Addr):Sp:=λvs H Q _=>∃ (p:Addr) (M:List (Option Nat)) (ns:List Int),vs=[.ref p]/\Yu C H p M ns /\
 ∀ (l:Addr) (ts:List Addr),H l=none->ns.length=3 * ts.length->(∀ (k:Nat) (t:Addr),ts[k]?=some t->H t=some (.tup (row3 ns k)))->Q (.ref l) (upd H l (.lst (ts.map V.ref)))
def Za0 (C:Addr):Sp:=λvs H Q _=>∃ (p:Addr) (M:List (Option Nat)) (ns:List Int),vs=[.ref p]/\Yu C H p M ns/\ns.length < 64 /\
 ∀ (l:Addr) (out:List Int),H l=none->out.Perm (keys ns ns.length)->out.Pairwise (·<=·)->Q (.ref l) (upd H l (.lst (out.map V.int)))
def Oq (C:Addr):Sp:=λvs H Q _=>∃ (p:Addr) (M:List (Option Nat)) (ns:List Int) (x:Int),vs=[.ref p,.int x]/\Yu C H p M ns/\Q (.bl (decide (0<=x/\x < ns.length))) H
def Ui (C EP:Addr):Sp:=λvs H Q E=>∃ (p:Addr) (M:List (Option Nat)) (ns:List Int) (x:Int),vs=[.ref p,.int x]/\Yu C H p M ns/\(0<=x/\x < ns.length->Q .non H)/\(¬ (0<=x/\x < ns.length)->E (.ref EP) none H)
def Zb2 (C EP:Addr):Sp:=λvs H Q E=>∃ (p:Addr) (M:List (Option Nat)) (ns:List Int) (x:Int),vs=[.ref p,.int x]/\Yu C H p M ns/\M.length=ns.length/\(∀ (i:Nat) (y:Option Nat),x=i->M[i]?=some y->Q (mV y) H)/\(¬ (0<=x/\x < ns.length)->E (.ref EP) none H)
def G6 (C ES:Addr):Sp:=λvs H Q E=>∃ (p:Addr) (M:List (Option Nat)) (ns:List Int) (x:Int),vs=[.ref p,.int x]/\Yu C H p M ns/\(x∈keys ns ns.length->∀ l,H l=none->Q (.ref l) (upd H l (.lst ((pl ns ns.length x).map nV))))/\(x ∉ keys ns ns.length->E (.ref ES) none H)
def K1 (C ES:Addr):Sp:=λvs H Q E=>∃ (p:Addr) (M:List (Option Nat)) (ns:List Int) (x:Int),vs=[.ref p,.int x]/\Yu C H p M ns/\TD M ns/\(x∈keys ns ns.length->∀ H',Same H H'->Q (.str (Y5 ns x)) H')/\(x ∉ keys ns ns.length->E (.ref ES) none H)
def Zd8:FnScope ["place"] ["place"] (Zg Ga):=An
def Jo (T:Txt w K mg t):FnOk P w K mg base (CXr P w) 1 t.dQ t.ee ["place"] Zd2:=by
 refine T.aY.F.aR Zd8 (λ_ _ _ _ H vs Q E hr h=>?_)
 ·obtain ⟨p,rfl,k⟩:=h
  refine ⟨_,(Zi (Zw (Zk Wa (pv 0) Zd))),?_⟩;exact ⟨_,Z,_,_,Z,Z,⟨by decide,by decide⟩,k⟩
def Zcc:FnScope ["self"] ["self"] (Zg Kb):=An
def Zc9 (T:Txt w K mg t):FnOk P w K mg base (CXr P w) 1 t.cY t.dk ["self"] (Zb1 t.ac):=by
 refine T.bV.F.aR Zcc (λ_ _ _ _ H vs Q E hr h=>?_)
 ·obtain ⟨p,M,ns,rfl,⟨dx,cl,na,sp,mt,o,f,b⟩,k⟩:=h
  refine ⟨_,(Zi (Zw (Xj Wq (by rfl) T.cX PySem.Pv.boot_list (Za (Ye (pv 0) Z) Zb)))),?_⟩;obtain ⟨ts,h1,h2,h3⟩:=b.rows;exact ⟨_,Z,p,_,dx,_,_,Z,b.ins,T.aj,T.bc,Ziq ..,cl,_,Z,.inl (SqL.of h1),λl hl=>k l ts hl h2 h3⟩
def Za8:FnScope ["self"] ["self"] (Zg Up):=An
def Zbh (T:Txt w K mg t):FnOk P w K mg base (CXr P w) 1 t.cw t.cD ["self"] (Za0 t.ac):=by
 refine T.bB.F.aR Za8 (λ_ _ _ _ H vs Q E hr h=>?_)
 ·obtain ⟨p,M,ns,rfl,⟨dx,cl,na,sp,mt,o,f,b⟩,lz,k⟩:=h
  refine ⟨_,(Zi (Zw (Zs (Zdp Z) (by rfl) T.gH PyProof.Rows.boot_sorted (Za (Ye (pv 0) Z) Zb)))),?_⟩;refine ⟨_,rfl,p,_,dx,_,_,rfl,b.ins,T.aj,T.aH,Kt ..,sp,_,keys ns ns.length,rfl,.inr ⟨o,b.spots⟩,?_,by have:=Qu ns ns.length; lia,k⟩;unfold spk; rw [List.map_map]; rfl
def Ot:FnScope ["self","place"] ["self","place"] (Zg Ql):=An
def J5 (T:Txt w K mg t):FnOk P w K mg base (CXr P w) 1 t.bf t.bq ["self","place"] (Oq t.ac):=by
 refine T.aq.F.aR Ot (λ_ _ _ _ H vs Q E hr h=>?_)
 ·obtain ⟨p,M,ns,x,rfl,⟨dx,cl,na,sp,mt,o,f,b⟩,k⟩:=h
  refine ⟨_,(Zi (Zw (Zc0 Gk J7 Zd (pv 1) (Zs Zn (by rfl) T.ak PySem.boot_len (Za (Ye (pv 0) Z) Zb))))),?_⟩;refine ⟨_,Z,_,_,Z,Z,_,Z,?_⟩;refine ite2 (λh=>?_) (λh=>?_)
  ·have h:0<=x:=of_decide_eq_true h
   refine ⟨_,Z,p,_,dx,_,_,Z,b.ins,T.aj,T.aF,Zkn ..,na,_,Z,.inl (SqL.of b.names),_,_,Z,Z,?_⟩;have:decide (x < (((ns.map V.int).length:Nat):Int))=decide (0<=x/\x < (ns.length:Int)):=by rw [Ac]; simp [h]
   show Q (V.bl (decide (x < (((ns.map V.int).length:Nat):Int)))) H;rw [this]; exact k
  ·have h:¬ 0<=x:=λz=>h (decide_eq_true z)
   have:decide (0<=x/\x < (ns.length:Int))=false:=decide_eq_false λz=>h z.1;rw [this] at k; exact k
def Ul:FnScope ["self","place"] ["self","place"] (Zg J3):=An
def U2 (T:Txt w K mg t):FnOk P w K mg base (CXr P w) 2 t.a8 t.bb ["self","place"] (Ui t.ac t.b5):=by
 refine T.aI.F.aX Ul (λ_ _ _ _ H vs Q E hr h=>?_)
 ·obtain ⟨p,M,ns,x,rfl,ta,k1,k2⟩:=h
  obtain ⟨dx,cl,na,sp,mt,o,f,b⟩:=id ta;refine ⟨_,(Yd (Jv (Wt (Jt (Wk (pv 0) T.aj T.aq.m (J5 T) (hr.mono (by decide)) T.aq.b .nil Yr (Za (pv 1) Zb)))) (Yd (Ju T.hZ FBV Z T.gJ Z (Za Zl Zb))) Je)),?_⟩;refine ⟨_,Z,p,dx,_,Z,b.ins,Wl _ _ _ _,_,Z,p,M,ns,x,Z,ta,_,Z,?_⟩;by_cases c:0<=x/\x < (ns.length:Int)
  ·rw [decide_eq_true c]
   exact iteF (k1 c)
  ·rw [decide_eq_false c]
   exact iteT ⟨by decide,k2 c⟩
def Zcd:FnScope ["self","place"] ["self","place"] (Zg Kc):=An
def U1 (T:Txt w K mg t):FnOk P w K mg base (CXr P w) 3 t.cZ t.dm ["self","place"] (Zb2 t.ac t.b5):=by
 refine T.aM.F.aX Zcd (λ_ _ _ _ H vs Q E hr h=>?_)
 ·obtain ⟨p,M,ns,x,rfl,ta,jb,k1,k2⟩:=h
  obtain ⟨dx,cl,na,sp,mt,o,f,b⟩:=id ta;refine ⟨_,(Yk (Yb (Zcy (pv 0) T.aj T.aI.m (U2 T) (hr.mono (by decide)) T.aI.b .nil (Za (pv 1) Zb)))
   (Yd (Z7 (Zw (Zt Zo (Ye (pv 0) rfl) (pv 1) (λ_ _=>rfl)))))),?_⟩
  refine ⟨_,Z,p,dx,_,Z,b.ins,Wl _ _ _ _,_,Z,p,M,ns,x,Z,ta,λc=>?_,k2⟩;have hi:x.toNat < M.length:=by lia
  obtain ⟨y,hy⟩:∃ y,M[x.toNat]?=some y:=⟨_,Ad hi⟩;have ex:x=(x.toNat:Int):=by lia
  refine ⟨_,Z,p,_,dx,_,_,Z,b.ins,T.aj,T.cL,Zko ..,_,Z,mt,_,_,_,Z,Z,SqL.of b.mates,(by rw [ex]; exact Yp hy),k1 _ _ ex hy⟩
def Fa:FnScope ["self","seam"] ["self","seam"] (Zg Uc):=An
def Fl (T:Txt w K mg t):FnOk P w K mg base (CXr P w) 1 t.b7 t.cf ["self","seam"] (G6 t.ac t.cC):=by
 refine T.bd.F.aX Fa (λ_ _ _ _ H vs Q E hr h=>?_)
 ·obtain ⟨p,M,ns,x,rfl,ta,k1,k2⟩:=h
  obtain ⟨dx,cl,na,sp,mt,o,f,b⟩:=id ta;have hu:=Qa hr;refine ⟨_,(Yk (Jv (Zcu (Zhx hu (pv 1) (Ye (pv 0) Z)) (by with_unfolding_all rfl)) (Yd (Ju T.iu FBV Z T.h9 Z (Za Zl Zb))) Je)
   (Yd (Z7 (Zw (Xj Wq (by rfl) T.cX PySem.Pv.boot_list (Za (Ze9 hu (Ye (pv 0) rfl) (pv 1) (λ_ _=>rfl)) Zb)))))),?_⟩
  have hg:DGet H sp (.int x) (if x∈keys ns ns.length then some (V.ref (f x)) else none):=.inl ⟨_,Sum.inl x,.inr ⟨o,b.spots⟩,rfl,by unfold spk; rw [Qc]⟩;refine ⟨_,Z,_,Z,p,_,dx,_,_,Z,b.ins,T.aj,T.aH,Kt ..,sp,_,Z,hg,_,Z,?_⟩;by_cases c:x∈keys ns ns.length
  ·rw [if_pos c] at hg ⊢
   refine iteF ?_;exact ⟨_,Z,p,_,dx,_,_,Z,b.ins,T.aj,T.aH,Kt ..,_,Z,sp,_,Z,hg,f x,_,Z,.inl (SqL.of (b.at' x c)),k1 c⟩
  ·rw [if_neg c] at hg ⊢
   exact iteT ⟨by decide,k2 c⟩
def Q2:FnScope ["self","seam","spots"] ["self","seam"] (Zg Vi):=An
def Q7 (T:Txt w K mg t):FnOk P w K mg base (CXr P w) 2 t.bP t.bT ["self","seam"] (K1 t.ac t.cC):=by
 refine T.aB.F.aX Q2 (λ_ _ _ _ H vs Q E hr h=>?_)
 ·obtain ⟨p,M,ns,x,rfl,ta,td,k1,k2⟩:=h
  obtain ⟨dx,cl,na,sp,mt,o,f,b⟩:=id ta;refine ⟨_,(Yk (Zlu (i:=2) Q2.nd Z (Or.inl Z) (Zcy (pv 0) T.aj T.bd.m (Fl T) (hr.mono (by decide)) T.bd.b .nil (Za (pv 1) Zb)))
   (Yk (Z7 (Ym (Zy Y7 (Zs Zn (by rfl) T.ak PySem.boot_len (Za (pv 2) Zb)) Zd (Zx _)) (Zi (Zw Zl)) Yc))
   (Yk (Z7 (Ym (Zy Y7 (pcT (Jo T) hr T.aY (Za (Zt Zo (pv 2) Zd (λ_ _=>rfl)) Zb)) (pcT (Jo T) hr T.aY (Za (Zt Zo (pv 2) Zd (λ_ _=>rfl)) Zb)) (Zx _)) (Zi (Zw Zl)) Yc))
   (Yd (Z7 (Zw Zl)))))),?_⟩
  refine ⟨_,Z,p,dx,_,Z,b.ins,Wl _ _ _ _,_,Z,p,M,ns,x,Z,ta,λc l hl=>?_,k2⟩;have qj:=k1 c _ (Same.new (o:=.lst ((pl ns ns.length x).map nV)) hl);refine ⟨_,Z,l,_,Z,.inl (SqL.of Zc),Z,_,Z,?_⟩
  rcases Vw td c with ⟨a,e,_⟩ | ⟨a,b',nk,e,_⟩
  ·rw [e] at qj ⊢
   refine iteT ?_;have:Y5 ns x="rim":=by unfold Y5; rw [e]
   rw [this] at qj;exact qj
  ·rw [e] at qj ⊢
   refine iteF ?_;refine ⟨_,Z,l,_,_,_,Z,Z,SqL.of Zc,Z,_,Z,_,Z,l,_,_,_,Z,Z,SqL.of Zc,Z,_,Z,Z,_,Z,?_⟩;by_cases q:a / 3=b' / 3
   ·have:Y5 ns x="locked":=by unfold Y5; rw [e]; exact if_pos q
    rw [this] at qj;rw [decide_eq_true (by congr 1; lia)];exact iteT qj
   ·have:Y5 ns x="free":=by unfold Y5; rw [e]; exact if_neg q
    rw [this] at qj;rw [decide_eq_false (λz=>q (by injection z; lia))];exact iteF qj
def K2 {M:List (Option Nat)} {ns:List Int} (td:TD M ns) (hx:x∈keys ns ns.length) :
  (Y5 ns x="rim"/\∃ a,pl ns ns.length x=[a]/\M[a]?=some none)\/(Y5 ns x="locked"/\∃ a b,a < b/\pl ns ns.length x=[a,b]/\M[a]?=some (some b)/\a / 3=b / 3)\/(Y5 ns x="free"/\∃ a b,a < b/\pl ns ns.length x=[a,b]/\M[a]?=some (some b)/\a / 3≠b / 3):=by
 rcases Vw td hx with ⟨a,e,_,ma⟩ | ⟨a,b,nk,e,_,_,ma,_⟩
 ·exact .inl ⟨by unfold Y5; rw [e],a,e,ma⟩
 ·by_cases c:a / 3=b / 3
  ·exact .inr (.inl ⟨by unfold Y5; rw [e]; exact if_pos c,a,b,nk,e,ma,c⟩)
  ·exact .inr (.inr ⟨by unfold Y5; rw [e]; exact if_neg c,a,b,nk,e,ma,c⟩)
def t_lr:¬ (("locked":Str))="rim":=by decide
def t_fr:¬ (("free":Str))="rim":=by decide
def Zhm {ns:List Int} {i:Nat} (h:Xa H r ns) (hx:ns[i]?=some x):∃ ts:List Addr,∃ q,H r=some (.lst (ts.map V.ref))/\ts[i / 3]?=some q/\H q=some (.tup (row3 ns (i / 3)))/\(row3 ns (i / 3))[i % 3]?=some (V.int x):=by
 obtain ⟨ts,h1,h2,h3⟩:=h;have hi:i < ns.length:=(Aa hx).1;have hk:i / 3 < ts.length:=by lia
 refine ⟨ts,ts[i / 3],h1,Ad hk,h3 _ _ (Ad hk),?_⟩;have g:∀ j,ns[j]?=some x->ns.getD j 0=x:=λj hj=>by rw [Ae,hj]; rfl
 have hm:i % 3=0\/i % 3=1\/i % 3=2:=by lia
 rcases hm with m | m | m
 ·have:3 * (i / 3)=i:=by lia
  rw [m]; show some (V.int (ns.getD (3 * (i / 3)) 0))=_; rw [this,g i hx]
 ·have:3 * (i / 3) + 1=i:=by lia
  rw [m]; show some (V.int (ns.getD (3 * (i / 3) + 1) 0))=_; rw [this,g i hx]
 ·have:3 * (i / 3) + 2=i:=by lia
  rw [m]; show some (V.int (ns.getD (3 * (i / 3) + 2) 0))=_; rw [this,g i hx]
def sp_law (K:W.Frag):Sp:=λvs H Q _=>∃ (a:Addr) (ns:List Int),vs=[.ref a]/\SqL K H a (ns.map V.int)/\ns.length<=63/\∀ H',Q (.bl true) H'
def sp_law_start {ns:List Int} (hl:ns.length<=63) (hS:SqL K H a (ns.map V.int)):sp_law K [.ref a] H (λv _=>v=.bl true) λ_ _ _=>False:=⟨a,ns,rfl,hS,hl,λ_=>rfl⟩
def Xa.copy {ns:List Int} {ts:List Addr} (h1:H r=some (.lst (ts.map V.ref))) (h2:ns.length=3 * ts.length) (h3:∀ (k:Nat) (t:Addr),ts[k]?=some t->H t=some (.tup (row3 ns k))) (hl:H l=none):Xa (upd H l (.lst (ts.map V.ref))) l ns :=
 ⟨ts,Zc,h2,λk q e=>by rw [Zh (Zr (h3 k q e) hl)]; exact h3 k q e⟩
def Zi6 {ns:List Int} {ts:List Addr} (g1:H1 r=some (.lst (ts.map V.ref))) (g2:ns.length=3 * ts.length) (g3:∀ (k:Nat) (t:Addr),ts[k]?=some t->H1 t=some (.tup (row3 ns k)))
  (km:H1 l=none) (hx:upd H1 l (.lst (ts.map V.ref)) x=none) (xx:upd H1 l (.lst (ts.map V.ref)) dx=none) :
  Xa (upd (upd (upd H1 l (.lst (ts.map V.ref))) dx (.own x)) x (.ins C dx [])) l ns/\Same (upd H1 l (.lst (ts.map V.ref))) (upd (upd (upd H1 l (.lst (ts.map V.ref))) dx (.own x)) x (.ins C dx [])):=by
 have s:Same (upd H1 l (.lst (ts.map V.ref))) (upd (upd (upd H1 l (.lst (ts.map V.ref))) dx (.own x)) x (.ins C dx [])):=Same.add (Same.new xx) hx;exact ⟨(Xa.copy g1 g2 g3 km).same s,s⟩
def tL (f:Nat->List Nat) (L:List (List FPt)):List V:=L.map λps=>V.str (txI f (itF ps))
def Zg4 (f:Nat->List Nat) (A B:List (List FPt)):tL f A ++ tL f B=tL f (A ++ B):=by unfold tL; rw [Ak]
def Ug (f:Nat->List Nat) (A:List (List FPt)):(tL f A).length=A.length:=by unfold tL; rw [Ac]
def Zog {f:Nat->List Nat} {L:List (List FPt)} {n:Nat} (hn:L.length=n) (h0:0 < n) (y:Int):∃ ps∈L,atI (tL f L) (y % (n:Int))=some (V.str (txI f (itF ps))):=by
 have k0:=Int.emod_nonneg y (show (n:Int)≠0 by lia);have k1:=Int.emod_lt_of_pos y (show (0:Int) < n by lia);obtain ⟨j,hj⟩:∃ j:Nat,y % (n:Int)=j:=⟨_,(Int.toNat_of_nonneg k0).symm⟩;have vf:j < L.length:=by lia
 exact ⟨L[j],List.getElem_mem vf,by rw [hj]; exact Yp (Ad vf)⟩
def Yz {f:Nat->List Nat} {te:Nat->TE} {nu:Nat->Bool} {σ:St} {H:Hp} {Q:VK} {i:Nat} {a:Addr} {A pss:List (List FPt)} (R:∀ H',Rdb f te nu σ H') (hσ:σ[i]?=some (some (.ref a))) (ha:H a=some (.lst (tL f A))) (hl:A.length + pss.length<=900) (hp:∀ ps∈pss,(itF ps).length<=300) (k:∀ c H',Same H H'->H' c=some (.lst (tL f (A ++ pss)))->Q (.ref c) H'):tOp rCat (tVar i) (tLst (mkA te nu pss)) σ H Q:=by
 refine ⟨_,hσ,Zde (R H) pss hp ⟨by rw [Ac,sizeLine_eq]; lia,λp zi=>?_⟩⟩;have s1:Same H (upd H p (.lst (pss.map λps=>V.str (txI f (itF ps))))):=Same.new zi;refine ⟨a,p,tL f A,tL f pss,Z,Z,s1 _ _ ha,Zc,by rw [Ug,Ug,sizeLine_eq]; lia,λc hc=>?_⟩;exact k c _ (s1.trans (Same.new hc)) (by rw [Zc,Zg4])
def Zfa {f:Nat->List Nat} {te:Nat->TE} {nu:Nat->Bool} {σ:St} {H:Hp} {Q:VK} {pss:List (List FPt)} (R:∀ H',Rdb f te nu σ H') (hl:pss.length<=900) (hp:∀ ps∈pss,(itF ps).length<=300) (k:∀ c H',Same H H'->H' c=some (.lst (tL f pss))->Q (.ref c) H'):tLst (mkA te nu pss) σ H Q:=by
 refine Zde (R H) pss hp ⟨by rw [Ac,sizeLine_eq]; lia,λp zi=>?_⟩;exact k p _ (Same.new zi) Zc
theorem U8 {f g:Nat->List Nat}:∀ {l:List Itm},(∀ k,.inr k∈l->f k=g k)->catI f l=catI g l
 | [],_=>rfl
 | .inl c :: r,h=>congrArg (c :: ·) (U8 λk hk=>h k (List.mem_cons_of_mem _ hk))
 | .inr k :: r,h=>by
  show f k ++ catI f r=g k ++ catI g r;rw [h k List.mem_cons_self,U8 λk hk=>h k (List.mem_cons_of_mem _ hk)]
def fC (s:Int):Nat->List Nat
 | 0=>(nmS s).cps.toList
 | 1=>(nmS (s + 1)).cps.toList
 | 2=>(nmS s).cps.toList
 | _ + 3=>figL.cps.toList
def teC:Nat->TE
 | 0=>tVar 0
 | 1=>tOp (rI0 λi j=>.int (i + j)) (tVar 0) (tC (.int 1))
 | 2=>tVar 0
 | _ + 3=>tVar 1
def teB:Nat->TE
 | 0=>tVar 1
 | 1=>tOp (rI0 λi j=>.int (i + j)) (tVar 1) (tC (.int 1))
 | 2=>tVar 2
 | 3=>tVar 3
 | _ + 4=>tVar 4
def nuB:Nat->Bool
 | 0=>true
 | 1=>true
 | 2=>true
 | _ + 3=>false
def Qt {n:Int} (h0:0<=n) (h1:n<=100000):(nmS n).cps.toList.length<=62:=by
 have:=PySem.W.KT.len_num h0 (by lia:n < 10000000000);rw [Array.length_toList];exact Nat.le_trans this (by decide)
def Zal:figL.cps.toList.length<=62:=by decide +kernel
def W0 {n:Int} (h0:0<=n) (h1:n<=100000):n.natAbs.log2 < 1920:=Nat.lt_trans (log2_lt (k:=17) (by show _ < 131072; lia) (by decide)) (by decide)
def rdC' {s:Int} (hs:0<=s/\s<=9999) {σ:St} (h0:σ[0]?=some (some (.int s))) (h1:σ[1]?=some (some (.str figL))) (H:Hp):Rdb (fC s) teC nuB σ H:=by
 refine ⟨λk=>?_,λk hk=>?_,λk hk=>?_⟩
 ·match k with
  | 0=>exact Qt hs.1 (by lia)
  | 1=>exact Qt (by lia) (by lia)
  | 2=>exact Qt hs.1 (by lia)
  | _ + 3=>exact Zal
 ·match k,hk with
  | 0,_=>exact ⟨s,Z,W0 hs.1 (by lia),λQ q=>⟨_,h0,q⟩⟩
  | 1,_=>exact ⟨s + 1,Z,W0 (by lia) (by lia),λQ q=>⟨_,h0,_,_,Z,Z,q⟩⟩
  | 2,_=>exact ⟨s,Z,W0 hs.1 (by lia),λQ q=>⟨_,h0,q⟩⟩
 ·match k,hk with
  | _ + 3,_=>exact λQ q=>⟨_,h1,q⟩
def rdB' {s p:Int} {nm:Str} (hs:0<=s/\s<=9999) (hp:0<=p/\p<=9999) (hn:nm.cps.toList.length<=62) {σ:St} (h1:σ[1]?=some (some (.int s))) (h2:σ[2]?=some (some (.int p))) (h3:σ[3]?=some (some (.str nm))) (h4:σ[4]?=some (some (.str figL))) (H:Hp):Rdb (fB s p nm.cps.toList) teB nuB σ H:=by
 refine ⟨λk=>?_,λk hk=>?_,λk hk=>?_⟩
 ·match k with
  | 0=>exact Qt hs.1 (by lia)
  | 1=>exact Qt (by lia) (by lia)
  | 2=>exact Qt hp.1 (by lia)
  | 3=>exact hn
  | _ + 4=>exact Zal
 ·match k,hk with
  | 0,_=>exact ⟨s,Z,W0 hs.1 (by lia),λQ q=>⟨_,h1,q⟩⟩
  | 1,_=>exact ⟨s + 1,Z,W0 (by lia) (by lia),λQ q=>⟨_,h1,_,_,Z,Z,q⟩⟩
  | 2,_=>exact ⟨p,Z,W0 hp.1 (by lia),λQ q=>⟨_,h2,q⟩⟩
 ·match k,hk with
  | 3,_=>exact λQ q=>⟨_,h3,q⟩
  | _ + 4,_=>exact λQ q=>⟨_,h4,q⟩
def oC_k:∀ ps∈oCs,∀ x∈itF ps,x≠.inr 2/\x≠.inr 3:=by decide +kernel
def Zok {s p:Int} {nm:List Nat}:tL (fC s) oCs=tL (fB s p nm) oCs:=by
 unfold tL;refine List.map_congr_left λps mv=>?_
 have:catI (fC s) (itF ps)=catI (fB s p nm) (itF ps):=U8 λk hk=>by
  have:=oC_k ps mv _ hk
  match k,this with
  | 0,_=>rfl
  | 1,_=>rfl
  | 2,h=>exact absurd Z h.1
  | 3,h=>exact absurd Z h.2
  | _ + 4,_=>rfl
 unfold txI;rw [this]
def Zaz:Sp:=λvs H Q _=>∃ s:Int,vs=[.int s,.str figL]/\0<=s/\s<=9999/\∀ c H',Same H H'->H' c=some (.lst (tL (fC s) oCs))->Q (.ref c) H'
def Zm7:Sp:=λvs H Q _=>∃ (y s p:Int) (nm:Str),vs=[.int y,.int s,.int p,.str nm]/\0<=s/\s<=9999/\0<=p/\p<=9999/\nm.cps.toList.length<=62/\∀ H' ps,Same H H'->ps∈oPs ++ oCs->Q (.str (txI (fB s p nm.cps.toList) (itF ps))) H'
def Wo:FnScope ["_law_seam","_law_figures","_law_row"] ["_law_seam","_law_figures"] (Zg Vh):=An
def Go (T:Txt w K mg t):FnOk P w K mg base (CXr P w) 1 t.bS t.bU ["_law_seam","_law_figures"] Zaz:=by
 refine T.b0.F.aR Wo (λ_ _ _ s H vs Q E hr h=>?_)
 ·obtain ⟨s,rfl,h0,h1,k⟩:=h
  refine ⟨_,(Ze (Zj (i:=2) Wo.nd Z (Or.inl Z) (Ya (Za (Zm (Zf (Zq (Zk Yo (pv 0) Zd) (Zf Zp)))) (Za (Zm (Zf (Zq (pv 0) (Zf Zp)))) (Za (Zm (Zf (Zq (Zk Yo (pv 0) Zd) (Zf Zp)))) (Za (Zm (Zf (Zq (pv 0) (Zf Zp)))) Zb))))))
   (Ze (Zj (i:=2) Wo.nd rfl (Or.inl rfl) (Zk Y0 (pv 2) (Ya (Za Zl (Za (Zm (Zf (Zq (pv 0) (Zf Zp)))) (Za (Zm (Zf (Zq (pv 0) (Zf Zp)))) (Za (Zm (Zf (Zq (pv 0) (Zf Zp)))) Zb)))))))
   (Ze (Zj (i:=2) Wo.nd rfl (Or.inl rfl) (Zk Y0 (pv 2) (Ya (Za (Zm (Zf (Z8 (pv 1) (Zf Zp)))) (Za Zl Zb)))))
   (Zi (Zw (Zk Y0 (pv 2) (Ya (Za Zl (Za (Zm (Zf (Zq (pv 0) (Zf Zp)))) Zb))))))))),?_⟩;have R:∀ x H',Rdb (fC s) teC nuB [some (.int s),some (.str figL),x] H':=λx H'=>rdC' ⟨h0,h1⟩ rfl rfl H';refine Zv λnxC i8=>?_;refine Zfa (pss:=oC1) (R _) (by decide +kernel) (by decide +kernel) λc1 H1 s1 e1=>?_;refine i8 [some (.int s),some (.str figL),some (.ref c1)] _ ?_;refine Zv λnxC i8=>?_;refine Yz (pss:=oC2) (R _) Z e1 (by decide +kernel) (by decide +kernel) λc2 H2 s2 e2=>?_;refine i8 [some (.int s),some (.str figL),some (.ref c2)] _ ?_;refine Zv λnxC i8=>?_;refine Yz (pss:=oC3) (R _) Z e2 (by decide +kernel) (by decide +kernel) λc3 H3 s3 e3=>?_;refine i8 [some (.int s),some (.str figL),some (.ref c3)] _ ?_;refine Yz (pss:=oC4) (R _) Z e3 (by decide +kernel) (by decide +kernel) λc4 H4 s4 e4=>?_;exact k c4 H4 (s1.trans (s2.trans (s3.trans s4))) e4
def Yl:FnScope ["_law_pick","_law_seam","_law_place","_law_name","_law_figures","_law_row"] ["_law_pick","_law_seam","_law_place","_law_name"] (Zg Ze0):=An
def Zjz (T:Txt w K mg t):FnOk P w K mg base (CXr P w) 2 t.gO t.gS ["_law_pick","_law_seam","_law_place","_law_name"] Zm7:=by
 refine T.gW.F.aR Yl (λ_ _ _ s H vs Q E hr h=>?_)
 ·obtain ⟨y,s,p,nm,rfl,h0,h1,p0,p1,hn,k⟩:=h
  refine ⟨_,(Ze (Zj (i:=4) Yl.nd Z (Or.inl Z) (Zk W9 Zl (Zk Zl6 Zl Zd)))
   (Ze (Zj (i:=5) Yl.nd rfl (Or.inl rfl) (Ya (Za Zl (Za Zl (Za Zl (Za (Zm (Zf (Z8 (pv 3) Zp))) (Za (Zm (Zf (Z8 (pv 3) (Zf Zp)))) (Za (Zm (Zf (Z8 (pv 3) (Zf (Zq (pv 2) Zp))))) (Za (Zm (Zf (Z8 (pv 3) (Zf (Zq (pv 2) Zp))))) Zb)))))))))
   (Ze (Zj (i:=5) Yl.nd rfl (Or.inl rfl) (Zk Y0 (pv 5) (Ya (Za (Zm (Zf (Z8 (pv 3) (Zf (Zq (pv 2) (Zf Zp)))))) (Za (Zm (Zf (Z8 (pv 3) (Zf (Zq (pv 2) Zp))))) (Za (Zm (Zf (Z8 (pv 3) (Zf (Zq (pv 2) Zp))))) (Za (Zm (Zf (Z8 (pv 3) (Zf (Zq (pv 2) Zp))))) Zb)))))))
   (Ze (Zj (i:=5) Yl.nd rfl (Or.inl rfl) (Zk Y0 (pv 5) (Ya (Za (Zm (Zf (Z8 (pv 3) (Zf (Zq (pv 2) (Zf (Zq (pv 2) Zp))))))) (Za (Zm (Zf (Z8 (pv 3) (Zf (Zq (pv 2) Zp))))) (Za (Zm (Zf (Z8 (pv 3) (Zf (Zq (pv 2) Zp))))) (Za (Zm (Zf (Z8 (pv 4) Zp))) Zb)))))))
   (Ze (Zj (i:=5) Yl.nd rfl (Or.inl rfl) (Zk Y0 (pv 5) (Ya (Za (Zm (Zf (Z8 (pv 3) (Zf (Z8 (pv 4) Zp))))) (Za (Zm (Zf (Z8 (pv 3) Zp))) (Za (Zm (Zf (Z8 (pv 3) (Zf (Zq (pv 1) Zp))))) (Za (Zm (Zf (Z8 (pv 3) (Zf (Zq (pv 1) (Zf Zp)))))) Zb)))))))
   (Ze (Zj (i:=5) Yl.nd rfl (Or.inl rfl) (Zk Y0 (pv 5) (Ya (Za (Zm (Zf (Z8 (pv 3) (Zf (Zq (pv 1) Zp))))) (Za (Zm (Zf (Z8 (pv 3) (Zf (Zq (pv 1) (Zf Zp)))))) (Za (Zm (Zf (Z8 (pv 3) (Zf (Zq (pv 1) (Zf (Zq (pv 1) (Zf Zp)))))))) Zb))))))
   (Ze (Zj (i:=5) Yl.nd rfl (Or.inl rfl) (Zk Y0 (pv 5) (Ya (Za (Zm (Zf (Z8 (pv 3) (Zf (Zq (Zk Yo (pv 1) Zd) (Zf (Zq (pv 1) (Zf Zp)))))))) (Za (Zm (Zf (Z8 (pv 3) (Zf (Zq (pv 1) (Zf Zp)))))) (Za Zl (Za (Zm (Zf (Z8 (pv 3) (Zf (Z8 (pv 3) Zp))))) Zb)))))))
   (Ze (Zj (i:=5) Yl.nd rfl (Or.inl rfl) (Zk Y0 (pv 5) (Ya (Za (Zm (Zf (Z8 (pv 3) (Zf (Zq (pv 2) Zp))))) (Za (Zm (Zf (Zq (pv 1) Zp))) (Za (Zm (Zf (Zq (pv 1) (Zf Zp)))) (Za (Zm (Zf (Zq (pv 1) (Zf Zp)))) (Za (Zm (Zf (Zq (pv 1) (Zf Zp)))) Zb))))))))
   (Ze (Zj (i:=5) Yl.nd rfl (Or.inl rfl) (Zk Y0 (pv 5) (Ya (Za (Zm (Zf (Zq (pv 1) (Zf Zp)))) (Za (Zm (Zf (Zq (pv 1) (Zf Zp)))) (Za (Zm (Zf (Zq (pv 1) (Zf Zp)))) (Za (Zm (Zf (Zq (pv 1) Zp))) (Za (Zm (Zf (Zq (pv 1) (Zf Zp)))) Zb))))))))
   (Ze (Zj (i:=5) Yl.nd rfl (Or.inl rfl) (Zk Y0 (pv 5) (Ya (Za (Zm (Zf (Zq (pv 1) (Zf Zp)))) (Za (Zm (Zf (Zq (Zk Yo (pv 1) Zd) (Zf Zp)))) (Za (Zm (Zf (Z8 (pv 3) (Zf Zp)))) (Za Zl (Za Zl (Za Zl Zb)))))))))
   (Ze (Zj (i:=5) Yl.nd rfl (Or.inl rfl) (Zk Y0 (pv 5) (Ya (Za Zl (Za (Zm (Zf (Zq (pv 1) (Zf (Zq (pv 1) (Zf (Zq (pv 1) (Zf Zp)))))))) (Za Zl (Za (Zm (Zf (Z8 (pv 3) (Zf (Z8 (pv 3) Zp))))) (Za (Zm (Zf (Zq (pv 2) Zp))) Zb))))))))
   (Ze (Zj (i:=5) Yl.nd rfl (Or.inl rfl) (Zk Y0 (pv 5) (Ya (Za (Zm (Zf (Z8 (pv 3) (Zq (pv 2) Zp)))) (Za Zl (Za Zl (Za (Zm (Zf (Z8 (pv 3) (Zf (Zq (pv 2) Zp))))) (Za (Zm (Zf (Zq (pv 1) (Zf Zp)))) Zb))))))))
   (Ze (Zj (i:=5) Yl.nd rfl (Or.inl rfl) (Zk Y0 (pv 5) (Ya (Za (Zm (Zf (Zq (pv 1) (Zf Zp)))) (Za (Zm (Zf (Zq (pv 1) (Zf Zp)))) (Za (Zm (Zf (Zq (pv 1) (Zf Zp)))) (Za (Zm (Zf (Zq (pv 1) (Zf Zp)))) Zb)))))))
   (Ze (Zj (i:=5) Yl.nd rfl (Or.inl rfl) (Zk Y0 (pv 5) (Ya (Za (Zm (Zf (Zq (pv 1) (Zf Zp)))) (Za (Zm (Zf (Z8 (pv 3) (Zf (Zq (pv 1) (Zf Zp)))))) (Za (Zm (Zf (Z8 (pv 3) (Zf (Zq (pv 1) (Zf Zp)))))) Zb))))))
   (Ze (Zj (i:=5) Yl.nd rfl (Or.inl rfl) (Zk Y0 (pv 5) (Ya (Za (Zm (Zf (Z8 (pv 3) (Zf (Zq (pv 1) (Zf Zp)))))) (Za (Zm (Zf (Z8 (pv 3) (Zf (Zq (Zk Yo (pv 1) Zd) (Zf Zp)))))) (Za (Zm (Zf (Z8 (pv 3) (Zf Zp)))) (Za Zl Zb)))))))
   (Ze (Zj (i:=5) Yl.nd rfl (Or.inl rfl) (Zk Y0 (pv 5) (Ya (Za (Zm (Zf (Zq (pv 2) Zp))) (Za Zl (Za (Zm (Zf (Zq (pv 2) Zp))) (Za Zl (Za Zl Zb))))))))
   (Ze (Zj (i:=5) Yl.nd rfl (Or.inl rfl) (Zk Y0 (pv 5) (Ya (Za Zl (Za Zl (Za Zl (Za (Zm (Zf (Zq (pv 1) (Zf Zp)))) (Za Zl (Za Zl (Za Zl Zb))))))))))
   (Zi (Zw (Zt Zo (Zk Y0 (pv 5) (pcT (Go T) hr T.b0 (Za (pv 1) (Za (pv 4) Zb)))) (Zk Yh (pv 0) (Zk Yo (Zs Zn (by rfl) T.ak PySem.boot_len (Za (pv 5) Zb)) Zd)) (λ_ _=>rfl))))))))))))))))))))),?_⟩;have R:∀ x H',Rdb (fB s p nm.cps.toList) teB nuB [some (.int y),some (.int s),some (.int p),some (.str nm),some (.str figL),x] H':=λx H'=>rdB' ⟨h0,h1⟩ ⟨p0,p1⟩ hn rfl rfl rfl rfl H';have hmul:MulOk (Str.ofString "0") 61:=by unfold MulOk; decide +kernel
  refine Zv λnxC i8=>?_;refine ⟨_,_,Z,Z,hmul,_,_,Z,Z,(by decide +kernel),?_⟩;refine i8 _ _ ?_;refine Zv λnxC i8=>?_;refine Zfa (pss:=oP1) (R _) (by decide +kernel) (by decide +kernel) λc1 H1 s1 e=>?_;refine i8 [some (.int y),some (.int s),some (.int p),some (.str nm),some (.str figL),some (.ref c1)] _ ?_;refine Zv λnxC i8=>?_;refine Yz (pss:=oP2) (R _) Z e (by decide +kernel) (by decide +kernel) λc2 H2 s2 e=>?_;refine i8 [some (.int y),some (.int s),some (.int p),some (.str nm),some (.str figL),some (.ref c2)] _ ?_;have s2:=s1.trans s2;refine Zv λnxC i8=>?_;refine Yz (pss:=oP3) (R _) Z e (by decide +kernel) (by decide +kernel) λc3 H3 s3 e=>?_;refine i8 [some (.int y),some (.int s),some (.int p),some (.str nm),some (.str figL),some (.ref c3)] _ ?_;have s3:=s2.trans s3;refine Zv λnxC i8=>?_;refine Yz (pss:=oP4) (R _) Z e (by decide +kernel) (by decide +kernel) λc4 H4 s4 e=>?_;refine i8 [some (.int y),some (.int s),some (.int p),some (.str nm),some (.str figL),some (.ref c4)] _ ?_;have s4:=s3.trans s4;refine Zv λnxC i8=>?_;refine Yz (pss:=oP5) (R _) Z e (by decide +kernel) (by decide +kernel) λc5 H5 s5 e=>?_;refine i8 [some (.int y),some (.int s),some (.int p),some (.str nm),some (.str figL),some (.ref c5)] _ ?_;have s5:=s4.trans s5;refine Zv λnxC i8=>?_;refine Yz (pss:=oP6) (R _) Z e (by decide +kernel) (by decide +kernel) λc6 H6 s6 e=>?_;refine i8 [some (.int y),some (.int s),some (.int p),some (.str nm),some (.str figL),some (.ref c6)] _ ?_;have s6:=s5.trans s6;refine Zv λnxC i8=>?_;refine Yz (pss:=oP7) (R _) Z e (by decide +kernel) (by decide +kernel) λc7 H7 s7 e=>?_;refine i8 [some (.int y),some (.int s),some (.int p),some (.str nm),some (.str figL),some (.ref c7)] _ ?_;have s7:=s6.trans s7;refine Zv λnxC i8=>?_;refine Yz (pss:=oP8) (R _) Z e (by decide +kernel) (by decide +kernel) λc8 H8 s8 e=>?_;refine i8 [some (.int y),some (.int s),some (.int p),some (.str nm),some (.str figL),some (.ref c8)] _ ?_;have s8:=s7.trans s8;refine Zv λnxC i8=>?_;refine Yz (pss:=oP9) (R _) Z e (by decide +kernel) (by decide +kernel) λc9 H9 s9 e=>?_;refine i8 [some (.int y),some (.int s),some (.int p),some (.str nm),some (.str figL),some (.ref c9)] _ ?_;have s9:=s8.trans s9;refine Zv λnxC i8=>?_;refine Yz (pss:=oP10) (R _) Z e (by decide +kernel) (by decide +kernel) λc10 H10 l9 e=>?_;refine i8 [some (.int y),some (.int s),some (.int p),some (.str nm),some (.str figL),some (.ref c10)] _ ?_;have l9:=s9.trans l9;refine Zv λnxC i8=>?_;refine Yz (pss:=oP11) (R _) Z e (by decide +kernel) (by decide +kernel) λc11 uz nv e=>?_;refine i8 [some (.int y),some (.int s),some (.int p),some (.str nm),some (.str figL),some (.ref c11)] _ ?_;have nv:=l9.trans nv;refine Zv λnxC i8=>?_;refine Yz (pss:=oP12) (R _) Z e (by decide +kernel) (by decide +kernel) λc12 yc l8 e=>?_;refine i8 [some (.int y),some (.int s),some (.int p),some (.str nm),some (.str figL),some (.ref c12)] _ ?_;have l8:=nv.trans l8;refine Zv λnxC i8=>?_;refine Yz (pss:=oP13) (R _) Z e (by decide +kernel) (by decide +kernel) λc13 H13 nr e=>?_;refine i8 [some (.int y),some (.int s),some (.int p),some (.str nm),some (.str figL),some (.ref c13)] _ ?_;have nr:=l8.trans nr;refine Zv λnxC i8=>?_;refine Yz (pss:=oP14) (R _) Z e (by decide +kernel) (by decide +kernel) λc14 H14 p6 e=>?_;refine i8 [some (.int y),some (.int s),some (.int p),some (.str nm),some (.str figL),some (.ref c14)] _ ?_;have p6:=nr.trans p6;refine Zv λnxC i8=>?_;refine Yz (pss:=oP15) (R _) Z e (by decide +kernel) (by decide +kernel) λc15 H15 qy e=>?_;refine i8 [some (.int y),some (.int s),some (.int p),some (.str nm),some (.str figL),some (.ref c15)] _ ?_;have qy:=p6.trans qy;refine Zv λnxC i8=>?_;refine Yz (pss:=oP16) (R _) Z e (by decide +kernel) (by decide +kernel) λc16 H16 xa e=>?_;refine i8 [some (.int y),some (.int s),some (.int p),some (.str nm),some (.str figL),some (.ref c16)] _ ?_;have xa:=qy.trans xa;have el:=Zov.1;replace e:H16 c16=some (.lst (tL (fB s p nm.cps.toList) oPs)):=e;obtain ⟨ps,mv,vm⟩:=Zog (f:=fB s p nm.cps.toList) (L:=oPs ++ oCs) (n:=87) (by rw [Af,el.1,el.2]) (by decide) y;refine ⟨_,Z,_,Z,_,Z,s,Z,h0,h1,λc H' s' e'=>?_⟩;rw [Zok (p:=p) (nm:=nm.cps.toList)] at e';have e:=s' _ _ e;refine ⟨_,_,_,_,Z,Z,e,e',by rw [Ug,Ug,el.1,el.2,sizeLine_eq]; decide,λd hd=>?_⟩;rw [Zg4];have s2:Same H' (upd H' d (.lst (tL (fB s p nm.cps.toList) (oPs ++ oCs)))):=Same.new hd;have el2:(((tL (fB s p nm.cps.toList) oPs).length:Nat):Int) + 12=((87:Nat):Int):=by
   rw [Ug,el.1]
   decide
  refine ⟨_,Z,_,Z,_,_,Z,.inl (SqL.of (s2 _ _ e)),_,_,Z,Z,_,_,Z,Z,(by show (0:Int) < (((tL (fB s p nm.cps.toList) oPs).length:Nat):Int) + 12; rw [el2]; decide),d,_,_,_,rfl,rfl,SqL.of Zc,(by show atI _ (y % ((((tL (fB s p nm.cps.toList) oPs).length:Nat):Int) + 12))=_; rw [el2]; exact vm),?_⟩;exact k _ ps (xa.trans (s'.trans s2)) mv
def tp (v:Nat × Nat):HO:=.tup [V.int v.1,V.int v.2]
def wD (ks:List Int) (ad:Int->Addr):List (Key × V):=ks.map λx=>((Sum.inl x:Key),V.ref (ad x))
def WAt (H:Hp) (d:Addr) (ks:List Int) (g:Int->Nat × Nat):Prop:=∃ ad:Int->Addr,H d=some (.dK (wD ks ad))/\∀ x∈ks,H (ad x)=some (tp (g x))
def WAt.same {H H':Hp} {d:Addr} {ks:List Int} {g:Int->Nat × Nat} (h:WAt H d ks g) (s:Same H H'):WAt H' d ks g:=by
 obtain ⟨ad,h1,h2⟩:=h;exact ⟨ad,s _ _ h1,λx hx=>s _ _ (h2 x hx)⟩
def WAt.congr {H:Hp} {d:Addr} {ks:List Int} {g g':Int->Nat × Nat} (h:WAt H d ks g) (e:∀ x∈ks,g x=g' x):WAt H d ks g':=by
 obtain ⟨ad,h1,h2⟩:=h;exact ⟨ad,h1,λx hx=>by rw [<- e x hx]; exact h2 x hx⟩
def Zgy (ks:List Int) (ad:Int->Addr):(wD ks ad).length=ks.length:=by unfold wD; rw [Ac]
def WAt.new {H:Hp} {d q:Addr} {ks:List Int} {g:Int->Nat × Nat} {ad:Int->Addr} {y:Int} {v:Nat × Nat} (h1:H d=some (.dK (wD ks ad))) (h2:∀ x∈ks,H (ad x)=some (tp (g x))) (hq:H q=some (tp v)) (hy:y ∉ ks) :
  WAt (upd H d (.dK (putK (wD ks ad) (Sum.inl y) (V.ref q)))) d (ks ++ [y]) (putG g y v):=by
 have nd:∀ r u,H r=some (tp u)->r≠d:=λr u h z=>by rw [z,h1] at h; cases h
 refine ⟨λx=>if x=y then q else ad x,?_,λx hx=>?_⟩
 ·rw [Zc]
  unfold wD;rw [Ze5 hy,Ak];congr 3
  ·apply List.map_congr_left
   intro x hx;have:x≠y:=λz=>hy (z ▸ hx);simp [this]
  ·simp
 ·unfold putG
  show upd H d _ (if x=y then q else ad x)=some (tp (if x=y then v else g x));by_cases c:x=y
  ·rw [if_pos c,if_pos c,Zh (nd _ _ hq)]; exact hq
  ·rw [if_neg c,if_neg c]
   have kj:x∈ks:=by
    rcases List.mem_append.mp hx with z | z
    ·exact z
    ·exact absurd (Ag z) c
   rw [Zh (nd _ _ (h2 x kj))]; exact h2 x kj
def Zav (C:Addr):Sp:=λvs H Q _=>∃ (p:Addr) (M:List (Option Nat)) (ns:List Int),vs=[.ref p]/\Yu C H p M ns/\TD M ns/\ns.length < 64/\∀ (l:Addr) (H':Hp) (out:List Int),Same H H'->H l=none->H' l=some (.lst (out.map V.int))->out.Pairwise (·<=·)->SwK M ns out->Q (.ref l) H'
def G5 (C:Addr):Sp:=λvs H Q _=>∃ (p:Addr) (M:List (Option Nat)) (ns:List Int),vs=[.ref p]/\Yu C H p M ns/\TD M ns/\ns.length < 64/\∀ (d:Addr) (H':Hp) (ks:List Int),Same H H'->H d=none->WAt H' d ks (λ_=>(1,1))->SwK M ns ks->Q (.ref d) H'
def Zb7 {M:List (Option Nat)} {ns:List Int} (td:TD M ns) {x:Int} (hx:x∈keys ns ns.length):SwN M ns x ↔ Y5 ns x≠"rim":=by
 constructor
 ·rintro ⟨p,j,h1,h2⟩ e
  rcases K2 td hx with ⟨_,a,e1,ma⟩ | ⟨e',_⟩ | ⟨e',_⟩
  ·have hp:p∈pl ns ns.length x:=Y9.mpr ⟨(Aa h2).1,h2⟩
   rw [e1,List.mem_singleton] at hp;rw [hp,ma] at h1;cases h1
  ·exact t_lr (e'.symm.trans e)
  ·exact t_fr (e'.symm.trans e)
 ·intro e
  rcases K2 td hx with ⟨e',_⟩ | ⟨_,a,b,_,e1,ma,_⟩ | ⟨_,a,b,_,e1,ma,_⟩
  ·exact absurd e' e
  ·have hp:a∈pl ns ns.length x:=by rw [e1]; exact List.mem_cons_self
   exact ⟨a,b,ma,(Y9.mp hp).2⟩
  ·have hp:a∈pl ns ns.length x:=by rw [e1]; exact List.mem_cons_self
   exact ⟨a,b,ma,(Y9.mp hp).2⟩
def SwK.len {M:List (Option Nat)} {ns ks:List Int} (sw:SwK M ns ks) (td:TD M ns):ks.length<=ns.length:=by
 have e:ks.Perm ((keys ns ns.length).filter λx=>decide (x∈ks)):=(List.perm_ext_iff_of_nodup sw.nd ((V1 ns ns.length).filter _)).mpr λx=>by
  rw [List.mem_filter,decide_eq_true_eq];exact ⟨λh=>⟨((sw.mem x).mp h).key td,h⟩,λh=>h.2⟩
 have h1:=e.length_eq;have h2:=List.length_filter_le (λx=>decide (x∈ks)) (keys ns ns.length);have h3:=Qu ns ns.length;lia
def swB (ns:List Int) (x:Int):Bool:=!decide (V.str (Y5 ns x)=V.str "rim")
def Zlg {ns:List Int} {x:Int}:swB ns x=true ↔ Y5 ns x≠"rim":=by
 unfold swB;rw [Bool.not_eq_true',decide_eq_false_iff_not];exact ⟨λh e=>h (by rw [e]),λh e=>h (by injection e)⟩
def Ox {α:Type} {f:α->Bool} {l:List α} {i:Nat} {x:α} (h:l[i]?=some x):(l.take (i + 1)).filter f=if f x=true then (l.take i).filter f ++ [x] else (l.take i).filter f:=by
 rw [Ax,h,List.filter_append];by_cases c:f x=true
 ·simp [c]
 ·simp [c]
def Za6:FnScope ["tent"] ["tent"] (Zg Um):=An
def Zbe (T:Txt w K mg t):FnOk P w K mg base (CXr P w) 3 t.cx t.cE ["tent"] (Zav t.ac):=by
 refine T.cM.F.aR Za6 (λ_ _ _ _ H vs Q E hr h=>?_)
 ·obtain ⟨p,M,ns,rfl,ta,td,lz,k⟩:=h
  refine ⟨_,(Zi (Zw (Wg (ts:=["seam"]) (fv:=[("tent",0)]) ⟨rfl,by decide +kernel,by decide +kernel,Yy (by rfl),⟨⟨rfl,rfl,Or.inl rfl⟩,trivial⟩⟩ rfl (Xf (X5 (pv 0) T.aj T.bB.m (Zbh T) (hr.mono (by decide)) T.bB.b .nil Yr)) (λ_ _ _ _=>(Z0 (i:=0) (show List.Nodup (["seam","tent"]:List Str) from by decide +kernel) rfl (Or.inl rfl) (Or.inr rfl))) (λ_ _ _ _=>(Ff (Zy Gj (Wk (pv 1) T.aj T.aB.m (Q7 T) (hr.mono (by decide)) T.aB.b .nil Yr (Za (pv 0) Zb)) Zl (Zx _)))) (λ_ _ _=>rfl) (λ_ _ _ _ _ _=>Xt (pv 0))))),?_⟩;obtain ⟨dx,cl,na,sp,mt,o,ff,b⟩:=id ta;refine ⟨_,Z,p,dx,_,Z,b.ins,Wl _ _ _ _,p,M,ns,Z,ta,lz,λl ks km xo j5=>?_⟩;have s1:Same H (upd H l (.lst (ks.map V.int))):=Same.new km;have h1:(upd H l (.lst (ks.map V.int))) l=some (.lst (ks.map V.int)):=Zc;generalize upd H l (.lst (ks.map V.int))=H1 at s1 h1 ⊢;have kz:ks.length<=64:=by rw [xo.length_eq]; have:=Qu ns ns.length; lia
  refine ⟨l,Z,⟨_,SqL.of h1⟩,λD hD=>?_⟩;refine Y3 (xs:=ks.map V.int) (λi σ H3=>∃ v,σ=[v,some (.ref p)]/\Same H1 H3/\H3 D=some (.lst (((ks.take i).filter (swB ns)).map V.int))) ⟨none,Z,Same.new hD,Zc⟩ ?_ ?_ ?_
  ·rintro i σ H3 _ ⟨v,rfl,s3,h3⟩
   exact SqL.of (s3 _ _ h1)
  ·rintro i x σ H3 hx ⟨v,rfl,s3,h3⟩
   obtain ⟨y,hy,rfl⟩:=Y1 hx;have hyk:y∈keys ns ns.length:=xo.mem_iff.mp (Av hy);have ta3:=(ta.same s1).same s3;obtain ⟨dx,cl,na,sp,mt,o,ff,b⟩:=id ta3;dsimp only [Z2];refine ⟨_,Z,p,dx,_,Z,b.ins,Wl _ _ _ _,_,Z,p,M,ns,y,Z,ta3,td,λ_ H4 s4=>?_,λz=>absurd hyk z⟩;refine ⟨Z,_,Z,?_⟩;show if swB ns y=true then _ else _
   have lt:(((ks.take i).filter (swB ns)).map V.int).length < sizeLine:=by
    rw [Ac];have:=List.length_filter_le (swB ns) (ks.take i);rw [Aj] at this;exact Z5 (by lia)
   by_cases c:swB ns y=true
   ·rw [if_pos c]
    refine ⟨_,Z,_,s4 _ _ h3,lt,_,Z,Same.add (s3.trans s4) hD,?_⟩;rw [Zc,Ox hy,if_pos c,Ak];rfl
   ·rw [if_neg c]
    refine ⟨_,Z,s3.trans s4,?_⟩;rw [s4 _ _ h3,Ox hy,if_neg c]
  ·rintro σ H3 ⟨v,rfl,s3,h3⟩
   rw [Ac,List.take_length] at h3;refine k D H3 _ (s1.trans s3) (s1.free hD) h3 (j5.filter _) ⟨(xo.nodup_iff.mpr (V1 ns ns.length)).filter _,λx=>?_⟩;rw [List.mem_filter,xo.mem_iff,Zlg];refine ⟨λzz49=>?_,λh=>⟨h.key td,(Zb7 td (h.key td)).mp h⟩⟩;obtain ⟨h1,h2⟩:=zz49;exact (Zb7 td h1).mpr h2
def G9:FnScope ["tent"] ["tent"] (Zg Ub):=An
def Fk (T:Txt w K mg t):FnOk P w K mg base (CXr P w) 4 t.b9 t.cj ["tent"] (G5 t.ac):=by
 refine T.cp.F.aR G9 (λ_ _ _ _ H vs Q E hr h=>?_)
 ·obtain ⟨p,M,ns,rfl,ta,td,lz,k⟩:=h
  have hu:=Qa hr;refine ⟨_,(Zi (Zw (Zhw (ts:=["seam"]) (fv:=[]) ⟨rfl,by decide +kernel,by decide +kernel,Yy (by rfl),trivial⟩ rfl (Xf (pcT (Zbe T) hr T.cM (Za (pv 0) Zb))) (λ_ _ _ _=>(Z0 (i:=0) (show List.Nodup (["seam"]:List Str) from by decide +kernel) rfl (Or.inl rfl) (Or.inr rfl))) (λ_ _ _ _=>Y8) (λ_ _ _=>rfl) (λ_ _ _ _ _ _=>Zju (pv 0) (W7 (Za Zd (Za Zd Zb))))))),?_⟩;refine ⟨_,Z,p,M,ns,Z,ta,td,lz,λl H1 ks s1 km h1 _ sw=>?_⟩;have kz:ks.length<=64:=by
   have:=sw.len td
   lia
  refine ⟨l,Z,⟨_,SqL.of h1⟩,λD hD=>?_⟩;refine Y3 (xs:=ks.map V.int) (λi σ H3=>∃ v,σ=[v]/\Same H1 H3/\WAt H3 D (ks.take i) λ_=>(1,1)) ⟨none,Z,Same.new hD,λ_=>0,Zc,λx hx=>by simp at hx⟩ ?_ ?_ ?_
  ·rintro i σ H3 _ ⟨v,rfl,s3,h3⟩
   exact SqL.of (s3 _ _ h1)
  ·rintro i x σ H3 hx ⟨v,rfl,s3,ad,h3,h4⟩
   obtain ⟨y,hy,rfl⟩:=Y1 hx;dsimp only [Z2,tYes];rw [if_pos rfl];refine ⟨_,Z,(by show 2<=sizeLine; rw [sizeLine_eq]; decide),λq hq=>?_⟩;have sq:Same H3 (upd H3 q (.tup [V.int 1,V.int 1])):=Same.new hq;have m9:(upd H3 q (.tup [V.int 1,V.int 1])) q=some (tp (1,1)):=Zc;have hny:y ∉ ks.take i:=λz=>by
    have hi:i < ks.length:=(Aa hy).1
    have nd:=sw.nd
    rw [<- List.take_append_drop i ks,List.nodup_append] at nd
    refine nd.2.2 y z y ?_ Z
    rw [List.drop_eq_getElem_cons hi,(Aa hy).2]
    exact List.mem_cons_self
   refine ⟨_,Sum.inl y,Z,sq _ _ h3,(by rw [Zgy,Aj]; exact Z5 (by lia)),_,Z,Same.add (s3.trans sq) hD,?_⟩;rw [Ax,hy];have:=WAt.new (g:=λ_=>(1,1)) (v:=(1,1)) (sq _ _ h3) (λx hx=>sq _ _ (h4 x hx)) m9 hny;exact this.congr λx _=>by unfold putG; split <;> rfl
  ·rintro σ H3 ⟨v,rfl,s3,h3⟩
   rw [Ac,List.take_length] at h3;exact k D H3 ks (s1.trans s3) (s1.free hD) h3 sw
def Wc {H:Hp} {p:Addr} {a b:HO}:upd (upd H p a) p b=upd H p b:=by
 funext c;by_cases z:c=p
 ·subst z; rw [Zc,Zc]
 ·rw [Zh z,Zh z,Zh z]
def Xw (te th po wo:V):List (Str × V):=putF "worths" wo (putF "pools" po (putF "threads" th (putF "tent" te [])))
def Xi (be sc st un:Addr):List (Str × V):=putF "undone" (.ref un) (putF "standing" (.ref st) (putF "scene" (.ref sc) (putF "began" (.ref be) [])))
structure HallNew (CT CS CH:Addr) (H:Hp) (p:Addr) (M:List (Option Nat)) (ns:List Int) (dx be sc st un jf th po wo:Addr) (ks:List Int):Prop where
 ins:H p=some (.ins CH dx (Xi be sc st un))
 tent:Yu CT H be M ns
 scn:H sc=some (.ins CS jf (Xw (.ref be) (.ref th) (.ref po) (.ref wo)))
 thr:H th=some (.dK [])
 poo:H po=some (.dK [])
 wor:WAt H wo ks λ_=>(1,1)
 sw:SwK M ns ks
 sta:H st=some (.lst [])
 und:H un=some (.lst [])
def OthP (p:Addr) (H H':Hp):Prop:=∀ b u,b≠p->H b=some u->H' b=some u
def OthP.trans {p:Addr} {H H1 H':Hp} (s:OthP p H H1) (s1:OthP p H1 H'):OthP p H H':=λb u hb e=>s1 b u hb (s b u hb e)
def OthP.of {p:Addr} {H H':Hp} (s:Same H H'):OthP p H H':=λb u _ e=>s b u e
def OthP.upd {p:Addr} {H:Hp} {o:HO}:OthP p H (upd H p o):=λb u hb e=>by rw [Zh hb]; exact e
def Xk {H H':Hp} {p C dx:Addr} {fs:List (Str × V)} (hp:H p=some (.ins C dx fs)) (s:OthP p H H') {b:Addr} {u:HO} (e:H b=some u) (hu:∀ C dx fs,u≠.ins C dx fs):H' b=some u :=
 s b u (λz=>by rw [z,hp] at e; exact hu _ _ _ (Ay e).symm) e
def Xa.oth {H H':Hp} {p C dx r:Addr} {fs:List (Str × V)} {ns:List Int} (h:Xa H r ns) (hp:H p=some (.ins C dx fs)) (s:OthP p H H'):Xa H' r ns:=by
 obtain ⟨ts,h1,h2,h3⟩:=h;exact ⟨ts,Xk hp s h1 (λ_ _ _ z=>nomatch z),h2,λk q e=>Xk hp s (h3 k q e) (λ_ _ _ z=>nomatch z)⟩
def Yu.oth {C0:Addr} {H H':Hp} {p C dx x:Addr} {fs:List (Str × V)} {M:List (Option Nat)} {ns:List Int} (h:Yu C0 H x M ns) (hp:H p=some (.ins C dx fs)) (hx:x≠p) (s:OthP p H H'):Yu C0 H' x M ns:=by
 obtain ⟨dt,cl,na,sp,mt,o,f,b⟩:=h;exact ⟨dt,cl,na,sp,mt,o,f,s _ _ hx b.ins,b.rows.oth hp s,Xk hp s b.names (λ_ _ _ z=>nomatch z),Xk hp s b.spots (λ_ _ _ z=>nomatch z),Xk hp s b.mates (λ_ _ _ z=>nomatch z),λy hy=>Xk hp s (b.at' y hy) (λ_ _ _ z=>nomatch z)⟩
def WAt.oth {H H':Hp} {p C dx d:Addr} {fs:List (Str × V)} {ks:List Int} {g:Int->Nat × Nat} (h:WAt H d ks g) (hp:H p=some (.ins C dx fs)) (s:OthP p H H'):WAt H' d ks g:=by
 obtain ⟨ad,h1,h2⟩:=h;exact ⟨ad,Xk hp s h1 (λ_ _ _ z=>nomatch z),λx hx=>Xk hp s (h2 x hx) (λ_ _ _ z=>nomatch z)⟩
def Za1 (C:Addr):Sp:=λvs H Q _=>∃ (p dx:Addr) (te th po wo:V),vs=[.ref p,te,th,po,wo]/\H p=some (.ins C dx [])/\Q .non (upd H p (.ins C dx (Xw te th po wo)))
def Zb4 (CT CS CH:Addr):Sp:=λvs H Q _=>∃ (p r dx:Addr) (M:List (Option Nat)) (ns:List Int),vs=[.ref p,.ref r]/\H p=some (.ins CH dx [])/\Xa H r ns/\TD M ns/\ns.length < 64 /\
 ∀ (H':Hp),OthP p H H'->(∃ be sc st un jf th po wo ks,HallNew CT CS CH H' p M ns dx be sc st un jf th po wo ks/\H st=none/\H un=none/\st≠un)->Q .non H'
def Za9:FnScope ["self","tent","threads","pools","worths"] ["self","tent","threads","pools","worths"] (Zg Uq):=An
def Jz (T:Txt w K mg t):FnOk P w K mg base (CXr P w) 1 t.bz t.cF ["self","tent","threads","pools","worths"] (Za1 t.ah):=by
 refine T.aS.F.aR Za9 (λ_ _ _ _ H vs Q E hr h=>?_)
 ·obtain ⟨p,dx,te,th,po,wo,rfl,hp,k⟩:=h
  refine ⟨_,(Ze (X1 (pv 0) (pv 1) Z)
   (Ze (X1 (pv 0) (pv 2) rfl)
   (Ze (X1 (pv 0) (pv 3) rfl)
   (Zi (X1 (pv 0) (pv 4) rfl))))),?_⟩;have l1:=Xg "tent" te [];have l2:=Xg "threads" th (putF "tent" te []);have l3:=Xg "pools" po (putF "threads" th (putF "tent" te []));rw [List.length_nil] at l1;refine ⟨_,Z,_,Z,p,_,dx,_,Z,hp,T.ao,T.aC,by decide,?_⟩;refine ⟨_,Z,_,Z,p,_,dx,_,Z,Zc,T.ao,T.aG,by lia,?_⟩;refine ⟨_,Z,_,Z,p,_,dx,_,Z,Zc,T.ao,T.aL,by lia,?_⟩;refine ⟨_,Z,_,Z,p,_,dx,_,Z,Zc,T.ao,T.aW,by lia,?_⟩;rw [Wc,Wc,Wc];exact k
def Zcf:FnScope ["self","rows"] ["self","rows"] (Zg Ke):=An
def Zdb (T:Txt w K mg t):FnOk P w K mg base (CXr P w) 5 t.bQ t.dv ["self","rows"] (Zb4 t.ac t.ah t.ag):=by
 refine T.bX.F.aR Zcf (λ_ _ _ _ H vs Q E hr h=>?_)
 ·obtain ⟨p,r,dx,M,ns,rfl,hp,ky,td,lz,k⟩:=h
  refine ⟨_,(Ze (X1 (pv 0) (Qe T.iz (Zda T) (hr.mono (by decide)) Z T.iy T.dC.b .nil Yr (Za (pv 1) Zb)) Z)
   (Ze (X1 (pv 0) (Qe T.fb (Jz T) (hr.mono (by decide)) rfl T.eU T.aS.b .nil Yr (Za (Ye (pv 0) rfl) (Za Kn (Za Kn (Za (pcT (Fk T) hr T.cp (Za (Ye (pv 0) rfl) Zb)) Zb))))) rfl)
   (Ze (X1 (pv 0) (Ya Zb) rfl)
   (Zi (X1 (pv 0) (Ya Zb) rfl))))),?_⟩;refine ⟨_,Z,?_⟩;intro x dt hx hdt jo;have s0:Same H (upd (upd H dt (.own x)) x (.ins t.ac dt [])):=Same.add (Same.new hdt) hx;refine ⟨x,r,dt,M,ns,Z,Zc,ky.same s0,td,by lia,λH1 j6 ta=>⟨Z,?_⟩⟩;have s1:Same H H1:=λb u e=>j6 b u (Zr e hx) (s0 b u e);refine ⟨_,Z,p,_,dx,_,Z,s1 _ _ hp,T.ai,T.bA,by decide,?_⟩;have l1:=Xg "began" (.ref x) [];rw [List.length_nil] at l1;have xp:=s1 _ _ hp;have nx:x≠p:=λz=>by rw [z,hp] at hx; cases hx
  have o2:OthP p H1 (upd H1 p (.ins t.ag dx (putF "began" (.ref x) []))):=.upd;have lr:(upd H1 p (.ins t.ag dx (putF "began" (.ref x) []))) p=some (.ins t.ag dx (putF "began" (.ref x) [])):=Zc;have wy:=ta.oth xp nx o2;have ym:OthP p H _:=(OthP.of s1).trans o2;generalize upd H1 p (.ins t.ag dx (putF "began" (.ref x) []))=H2 at o2 lr wy ym ⊢;clear o2 ta j6 s1 s0 xp hdt jo ky;have xi:(putF "began" (.ref x) []).lookup ("began":Str)=some (.ref x):=by rw [Z1,if_pos rfl]
  refine ⟨_,Z,p,_,dx,_,_,Z,lr,T.ai,T.bA,xi,?_⟩;intro th mr po ng;obtain ⟨hpt,wf⟩:=Qg ng;have s3:Same H2 (upd (upd H2 th (.dK [])) po (.dK [])):=Same.add (Same.new mr) wf;have yz:(upd (upd H2 th (.dK [])) po (.dK [])) th=some (.dK []):=by rw [Zh (Ne.symm hpt),Zc]
  have zf:(upd (upd H2 th (.dK [])) po (.dK [])) po=some (.dK []):=Zc;generalize upd (upd H2 th (.dK [])) po (.dK [])=H3 at s3 yz zf ⊢;refine ⟨_,Z,p,_,dx,_,_,Z,s3 _ _ lr,T.ai,T.bA,xi,x,M,ns,Z,wy.same s3,td,lz,λwo H4 ks s4 hwo w4 sw=>?_⟩;intro sc jf rj ub qh;have s5:Same H4 (upd (upd H4 jf (.own sc)) sc (.ins t.ah jf [])):=Same.add (Same.new ub) rj;refine ⟨sc,jf,_,_,_,_,Z,Zc,Z,?_⟩;rw [Wc];have s6:Same H4 (upd (upd H4 jf (.own sc)) sc (.ins t.ah jf (Xw (.ref x) (.ref th) (.ref po) (.ref wo)))):=Same.add (Same.new ub) rj;have hc6:(upd (upd H4 jf (.own sc)) sc (.ins t.ah jf (Xw (.ref x) (.ref th) (.ref po) (.ref wo)))) sc=some (.ins t.ah jf (Xw (.ref x) (.ref th) (.ref po) (.ref wo))):=Zc;generalize upd (upd H4 jf (.own sc)) sc (.ins t.ah jf (Xw (.ref x) (.ref th) (.ref po) (.ref wo)))=H6 at s6 hc6 ⊢;clear s5;have w6:=s4.trans s6;have w8:=s3.trans w6;have nh:=w8 _ _ lr;have yn:sc≠p:=λz=>by rw [z,(s3.trans s4) _ _ lr] at rj; cases rj
  refine ⟨_,Z,p,_,dx,_,Z,nh,T.ai,T.aD,by lia,?_⟩;have l2:=Xg "scene" (.ref sc) (putF "began" (.ref x) []);have o7:OthP p H6 (upd H6 p (.ins t.ag dx (putF "scene" (.ref sc) (putF "began" (.ref x) [])))):=.upd;have uq:(upd H6 p (.ins t.ag dx (putF "scene" (.ref sc) (putF "began" (.ref x) [])))) p=some (.ins t.ag dx (putF "scene" (.ref sc) (putF "began" (.ref x) []))):=Zc;have ye:=(wy.same w8).oth nh nx o7;have yy:=Xk nh o7 (w6 _ _ yz) (λ_ _ _ z=>nomatch z);have ze:=Xk nh o7 (w6 _ _ zf) (λ_ _ _ z=>nomatch z);have w7:=(w4.same s6).oth nh o7;have hc7:=o7 _ _ yn hc6;have xf:OthP p H _:=(ym.trans (.of w8)).trans o7;generalize upd H6 p (.ins t.ag dx (putF "scene" (.ref sc) (putF "began" (.ref x) [])))=H7 at o7 uq ye yy ze w7 hc7 xf ⊢;clear o7 nh w8 w6 s6 hc6 s4 w4 s3 yz zf wy lr ym mr ng wf hwo rj ub;refine ⟨A0 _,λst j5=>?_⟩
  have hst0:H st=none:=by
   cases e:H st with
   | none=>rfl
   | some u =>
    rw [xf _ _ (λz=>by rw [z,uq] at j5; cases j5) e] at j5;cases j5
  have s8:Same H7 (upd H7 st (.lst [])):=Same.new j5;have zb:(upd H7 st (.lst [])) st=some (.lst []):=Zc;generalize upd H7 st (.lst [])=H8 at s8 zb ⊢;have rn:=s8 _ _ uq;refine ⟨_,Z,p,_,dx,_,Z,rn,T.ai,T.aP,by lia,?_⟩;have l3:=Xg "standing" (.ref st) (putF "scene" (.ref sc) (putF "began" (.ref x) []));have o9:OthP p H8 (upd H8 p (.ins t.ag dx (putF "standing" (.ref st) (putF "scene" (.ref sc) (putF "began" (.ref x) []))))):=.upd;have zj:(upd H8 p (.ins t.ag dx (putF "standing" (.ref st) (putF "scene" (.ref sc) (putF "began" (.ref x) []))))) p=some (.ins t.ag dx (putF "standing" (.ref st) (putF "scene" (.ref sc) (putF "began" (.ref x) [])))):=Zc;have ta9:=(ye.same s8).oth rn nx o9;have ht9:=Xk rn o9 (s8 _ _ yy) (λ_ _ _ z=>nomatch z);have hq9:=Xk rn o9 (s8 _ _ ze) (λ_ _ _ z=>nomatch z);have za:=Xk rn o9 zb (λ_ _ _ z=>nomatch z);have w9:=(w7.same s8).oth rn o9;have hc9:=o9 _ _ yn (s8 _ _ hc7);have yl:OthP p H _:=(xf.trans (.of s8)).trans o9;generalize upd H8 p (.ins t.ag dx (putF "standing" (.ref st) (putF "scene" (.ref sc) (putF "began" (.ref x) []))))=H9 at o9 zj ta9 ht9 hq9 za w9 hc9 yl ⊢;clear o9 rn s8 zb uq ye yy ze w7 hc7 xf j5;refine ⟨A0 _,λun kl=>?_⟩
  have tw:H un=none:=by
   cases e:H un with
   | none=>rfl
   | some u =>
    rw [yl _ _ (λz=>by rw [z,zj] at kl; cases kl) e] at kl;cases kl
  have hsu:st≠un:=λz=>by rw [<- z,za] at kl; cases kl
  have sA:Same H9 (upd H9 un (.lst [])):=Same.new kl;have hsA:(upd H9 un (.lst [])) un=some (.lst []):=Zc;generalize upd H9 un (.lst [])=HA at sA hsA ⊢;have rm:=sA _ _ zj;refine ⟨_,Z,p,_,dx,_,Z,rm,T.ai,T.cm,by lia,?_⟩;have oB:OthP p HA (upd HA p (.ins t.ag dx (Xi x sc st un))):=.upd;refine k _ ((yl.trans (.of sA)).trans oB) ⟨x,sc,st,un,jf,th,po,wo,ks,⟨Zc,(ta9.same sA).oth rm nx oB,oB _ _ yn (sA _ _ hc9),Xk rm oB (sA _ _ ht9) (λ_ _ _ z=>nomatch z),Xk rm oB (sA _ _ hq9) (λ_ _ _ z=>nomatch z),(w9.same sA).oth rm oB,sw,Xk rm oB (sA _ _ za) (λ_ _ _ z=>nomatch z),Xk rm oB hsA (λ_ _ _ z=>nomatch z)⟩,hst0,tw,hsu⟩
def Zo3 (be sc st un ke:Addr):putF "undone" (.ref ke) (Xi be sc st un)=Xi be sc st ke:=by first | rfl | decide
def Zo4 (be sc st un jy:Addr):putF "scene" (.ref jy) (Xi be sc st un)=Xi be jy st un:=by first | rfl | decide
def Zin (be sc st un:Addr):(Xi be sc st un).length < 1000:=by
 have:(Xi be sc st un).length=4:=rfl;lia
def Za3 (CH:Addr):Sp:=λvs H Q _=>∃ (p dx be sc st un jy:Addr) (x:Str) (l:List V),vs=[.ref p,.str x,.ref jy]/\H p=some (.ins CH dx (Xi be sc st un))/\H st=some (.lst l)/\l.length<=900 /\
 ∀ (q ke:Addr) (H':Hp),H q=none->H ke=none->(∀ b u,b≠p->b≠st->H b=some u->H' b=some u)->H' p=some (.ins CH dx (Xi be jy st ke))->H' st=some (.lst (l ++ [.ref q]))->H' q=some (.tup [.str x,.ref sc])->H' ke=some (.lst [])->Q .non H'
def Zba:FnScope ["self","text","scene"] ["self","text","scene"] (Zg Us):=An
def Ud (T:Txt w K mg t):FnOk P w K mg base (CXr P w) 1 t.cz t.cH ["self","text","scene"] (Za3 t.ag):=by
 refine T.aJ.F.aR Zba (λ_ _ _ _ H vs Q E hr h=>?_)
 ·obtain ⟨p,dx,be,sc,st,un,jy,x,l,rfl,hp,j5,hl,k⟩:=h
  refine ⟨_,(Ze (Yw (Y4 PySem.F.plainAttrs_list PySem.F.slot_list_append PySem.F.type_list_append Xq (Ye (pv 0) Z) (Za (W7 (Za (pv 1) (Za (Ye (pv 0) Z) Zb))) Zb)))
   (Ze (X1 (pv 0) (Ya Zb) rfl)
   (Zi (X1 (pv 0) (pv 2) rfl)))),?_⟩;have mv:p≠st:=λz=>by rw [z,j5] at hp; cases hp
  refine Zv λnxC i8=>?_;refine ⟨_,Z,p,_,dx,_,.ref st,Z,hp,T.ai,T.aP,Z,.inl ⟨Z,_,SqL.of j5⟩,_,Z,_,Z,p,_,dx,_,.ref sc,Z,hp,T.ai,T.aD,Z,(by show 2<=sizeLine; decide),λq hq=>?_⟩;have s1:Same H (upd H q (.tup [V.str x,V.ref sc])):=Same.new hq;have h1:(upd H q (.tup [V.str x,V.ref sc])) q=some (.tup [V.str x,V.ref sc]):=Zc;refine ⟨st,_,_,Z,Z,s1 _ _ j5,Z5 (by lia),?_⟩;refine i8 _ _ ?_;generalize upd H q (.tup [V.str x,V.ref sc])=H1 at s1 h1 ⊢;have hqs:q≠st:=λz=>by rw [z,j5] at hq; cases hq
  have hqp:q≠p:=λz=>by rw [z,hp] at hq; cases hq
  have p2:(upd H1 st (.lst (l ++ [V.ref q]))) p=some (.ins t.ag dx (Xi be sc st un)):=by rw [Zh mv]; exact s1 _ _ hp
  have q2:(upd H1 st (.lst (l ++ [V.ref q]))) q=some (.tup [V.str x,V.ref sc]):=by rw [Zh hqs]; exact h1
  have t2:(upd H1 st (.lst (l ++ [V.ref q]))) st=some (.lst (l ++ [V.ref q])):=Zc;have o2:∀ b u,b≠p->b≠st->H b=some u->(upd H1 st (.lst (l ++ [V.ref q]))) b=some u:=λb u _ h2 e=>by rw [Zh h2]; exact s1 _ _ e
  generalize upd H1 st (.lst (l ++ [V.ref q]))=H2 at p2 q2 t2 o2 ⊢;refine Zv λnxC i8=>?_;refine ⟨A0 _,λke kl=>?_⟩;have s3:Same H2 (upd H2 ke (.lst [])):=Same.new kl;have u3:(upd H2 ke (.lst [])) ke=some (.lst []):=Zc
  have tw:H ke=none:=by
   cases e:H ke with
   | none=>rfl
   | some u =>
    have hne1:ke≠p:=λz=>by rw [z,p2] at kl; cases kl
    have qh:ke≠st:=λz=>by rw [z,t2] at kl; cases kl
    rw [o2 _ _ hne1 qh e] at kl;cases kl
  refine ⟨_,Z,p,_,dx,_,Z,s3 _ _ p2,T.ai,T.cm,Zin _ _ _ _,?_⟩;rw [Zo3];refine i8 _ _ ?_;have yv:ke≠p:=λz=>by rw [z,p2] at kl; cases kl
  refine ⟨_,Z,_,Z,p,_,dx,_,Z,Zc,T.ai,T.aD,Zin _ _ _ _,?_⟩;rw [Zo4,Wc];refine k q ke _ hq tw (λb u b1 b2 e=>?_) Zc ?_ ?_ ?_
  ·rw [Zh b1]; exact s3 _ _ (o2 b u b1 b2 e)
  ·rw [Zh (Ne.symm mv)]; exact s3 _ _ t2
  ·rw [Zh hqp]; exact s3 _ _ q2
  ·rw [Zh yv]; exact u3
def G2 (H:Hp) (st:Addr) (ds:List Str):Prop:=∃ qs:List Addr,H st=some (.lst (qs.map V.ref))/\qs.length=ds.length/\∀ (i:Nat) (q:Addr) (x:Str),qs[i]?=some q->ds[i]?=some x->∃ v,H q=some (.tup [.str x,v])
def Za4 (CH:Addr):Sp:=λvs H Q _=>∃ (p dx be sc st un:Addr) (ds:List Str),vs=[.ref p]/\H p=some (.ins CH dx (Xi be sc st un))/\G2 H st ds/\ds.length<=900/\∀ (l:Addr) (H':Hp),Same H H'->H l=none->H' l=some (.lst (ds.map V.str))->Q (.ref l) H'
def Zbb:FnScope ["self"] ["self"] (Zg Ut):=An
def J0 (T:Txt w K mg t):FnOk P w K mg base (CXr P w) 1 t.cB t.cJ ["self"] (Za4 t.ag):=by
 refine T.ay.F.aR Zbb (λ_ _ _ _ H vs Q E hr h=>?_)
 ·obtain ⟨p,dx,be,sc,st,un,ds,rfl,hp,⟨qs,d1,d2,d3⟩,hl,k⟩:=h
  refine ⟨_,(Zi (Zw (Wg (ts:=["text","earlier"]) (fv:=[]) ⟨rfl,by decide +kernel,by decide +kernel,Yy (by rfl),trivial⟩ rfl (Xf (Ye (pv 0) rfl)) (λ_ _ _ _=>(Fh (n:=2) K rfl (Xo (Z0 (i:=0) (show List.Nodup (["text","earlier"]:List Str) from by decide +kernel) rfl (Or.inl rfl) (Or.inr rfl)) (Xo (Z0 (i:=1) (show List.Nodup (["text","earlier"]:List Str) from by decide +kernel) rfl (Or.inl rfl) (Or.inr rfl)) Qd)))) (λ_ _ _ _=>Y8) (λ_ _ _=>rfl) (λ_ _ _ _ _ _=>Xt (pv 0))))),?_⟩;refine ⟨_,Z,p,_,dx,_,.ref st,Z,hp,T.ai,T.aP,Z,st,Z,⟨_,SqL.of d1⟩,λD hD=>?_⟩;refine Y3 (xs:=qs.map V.ref) (λi σ H6=>∃ v v',σ=[v,v']/\Same H H6/\H6 D=some (.lst ((ds.take i).map V.str))) ⟨none,none,Z,Same.new hD,Zc⟩ ?_ ?_ ?_
  ·rintro i σ H6 _ ⟨v,v',rfl,s6,_⟩
   exact SqL.of (s6 _ _ d1)
  ·rintro i y σ H6 hy ⟨v,v',rfl,s6,h6⟩
   rw [Ai] at hy;obtain ⟨q,hq,rfl⟩:=Option.map_eq_some_iff.mp hy;have qq:i < qs.length:=(Aa hq).1;obtain ⟨x,hx⟩:∃ x,ds[i]?=some x:=⟨_,Ad (by lia)⟩;obtain ⟨e,he⟩:=d3 i q x hq hx;dsimp only [Z2];refine ⟨q,_,Z,SqT.of (s6 _ _ he),Z,_,_,Z,_,_,Z,Z,?_⟩;dsimp only [Z2,tYes];rw [if_pos rfl];refine ⟨_,Z,_,h6,by rw [Ac,Aj]; exact Z5 (by lia),_,_,Z,Same.add s6 hD,?_⟩;rw [Zc,Ax,hx,Ak];rfl
  ·rintro σ H6 ⟨v,v',rfl,s6,h6⟩
   rw [Ac,d2,List.take_length] at h6;exact k D H6 s6 hD h6
def dS (l:List (Str × V)):List (Key × V):=l.map λkv=>((Sum.inr kv.1:Key),kv.2)
def Zbw:Sp:=λvs H Q _=>∃ (d:Addr) (k:Key) (v:V) (l:List (Key × V)),vs=[.ref d,kV k,v]/\H d=some (.dK l)/\l.length<=900/\∀ e:Addr,H e=none->Q (.ref e) (upd H e (.dK (putK l k v)))
def thV (L:List (Str × List Nat)) (ad:Str->Addr):List (Str × V):=L.map λy=>(y.1,V.ref (ad y.1))
def nmL (L:List (Str × List Nat)):List Str:=L.map (·.1)
theorem Zew {ad:Str->Addr} {x:Str}:∀ L:List (Str × List Nat),valV (dS (thV L ad)) (Sum.inr x)=if x∈nmL L then some (V.ref (ad x)) else none
 | []=>by simp [valV,dS,thV,nmL]
 | y :: L=>by
  have ih:=Zew (ad:=ad) (x:=x) L;unfold valV dS thV nmL at ih ⊢;rw [List.map_cons,List.map_cons,List.find?_cons,List.map_cons];by_cases z:y.1=x
  ·subst z
   rw [decide_eq_true rfl,if_pos List.mem_cons_self];rfl
  ·rw [decide_eq_false (λe=>z (by injection e))]
   show Option.map _ (List.find? _ _)=_;rw [ih];by_cases c:x∈List.map (·.1) L
   ·rw [if_pos c,if_pos (List.mem_cons_of_mem _ c)]
   ·rw [if_neg c,if_neg (λe=>by rcases As e with e | e; exact z e.symm; exact c e)]
def Zlb {H:Hp} {th:Addr} {L:List (Str × List Nat)} {ad:Str->Addr} {x:Str} (h:H th=some (.dK (dS (thV L ad)))):DGet H th (.str x) (if x∈nmL L then some (V.ref (ad x)) else none):=.inl ⟨_,Sum.inr x,.inl h,rfl,(Zew L).symm⟩
def Kj (CS:Addr):Sp:=λvs H Q _=>∃ (sc jf th po:Addr) (te wo:V) (x:Str) (L:List (Str × List Nat)) (ad:Str->Addr),vs=[.ref sc,.str x]/\H sc=some (.ins CS jf (Xw te (.ref th) (.ref po) wo))/\H th=some (.dK (dS (thV L ad)))/\H po=some (.dK [])/\x.cps.all (· < 128)=true/\x.cps.size<=900/\isN x=true/\x ∉ nmL L/\∀ H',Same H H'->Q .non H'
def G4:Sp:=λvs H Q _=>∃ (a:Addr) (yd:List V),vs=[.ref a]/\H a=some (.lst yd)/\yd.length<=400/\Q .non H
def Zax:Sp:=λvs H Q _=>∃ (q:Addr) (v:Nat × Nat),vs=[.ref q]/\H q=some (tp v)/\v.1<=1000/\v.2<=1000/\Q .non H
def Uj:FnScope ["table","name","value","copied"] ["table","name","value"] (Zg O4):=An
def Uy (T:Txt w K mg t):FnOk P w K mg base (CXr P w) 1 t.de t.dr ["table","name","value"] Zbw:=by
 refine T.bW.F.aR Uj (λ_ _ _ _ H vs Q E hr h=>?_)
 ·obtain ⟨d,k,v,l,rfl,hd,hl,q⟩:=h
  have hu:=Qa hr;refine ⟨_,(Ze (Zj (i:=3) Uj.nd Z (Or.inl Z) (Xj Gz (by rfl) T.ir PySem.Pv.boot_dict (Za (pv 0) Zb)))
   (Ze (Zlz hu (pv 3) (pv 1) (pv 2) rfl)
   (Zi (Zw (pv 3))))),?_⟩
  refine Zv λnxC i8=>?_;refine ⟨_,Z,d,_,Z,.inl hd,λe he=>?_⟩;refine i8 _ _ ?_;refine ⟨_,Z,_,Z,_,Z,e,_,Z,DPut.k (k:=k) Zc (Z5 (by lia)),?_⟩;rw [Wc];exact ⟨_,Z,q e he⟩
def Kl:FnScope ["scene","name"] ["scene","name"] (Zg Q3):=An
def Ko (T:Txt w K mg t):FnOk P w K mg base (CXr P w) 3 t.bH t.bK ["scene","name"] (Kj t.ah):=by
 refine T.bM.F.aR Kl (λ_ _ _ _ H vs Q E hr h=>?_)
 ·obtain ⟨sc,jf,th,po,te,wo,x,L,ad,rfl,rj,mr,ng,hx,hz,e,hn,k⟩:=h
  have hu:=Qa hr;refine ⟨_,(Ze (Ym (Wt (Jt (pcT (Gp T) hr T.cR (Za (pv 1) Zb)))) X0 Yc)
   (Zi (Ym (PW.pt (Q5 (Zcu (Zhy hu (pv 1) (Ye (pv 0) rfl)) (by with_unfolding_all rfl)) (Qn (Zcu (Zhy hu (pv 1) (Ye (pv 0) rfl)) (by with_unfolding_all rfl))))) X0 Yc))),?_⟩
  refine ⟨_,Z,x,Z,hx,hz,λH1 s1=>⟨_,Z,?_⟩⟩;rw [e];refine iteF ?_;have we:=s1 _ _ rj;have g:=Zlb (x:=x) (s1 _ _ mr);rw [if_neg hn] at g;refine ⟨_,Z,_,Z,sc,_,jf,_,.ref th,Z,we,T.ao,T.aG,Z,th,_,Z,g,_,Z,iteF ?_⟩;exact ⟨_,Z,_,Z,sc,_,jf,_,.ref po,Z,we,T.ao,T.aL,Z,po,_,Z,.inl ⟨_,Sum.inr x,.inl (s1 _ _ ng),Z,Z⟩,_,Z,iteF (k H1 s1)⟩
def G8:FnScope ["word"] ["word"] (Zg Ua):=An
def Fj (T:Txt w K mg t):FnOk P w K mg base (CXr P w) 1 t.ce t.ck ["word"] G4:=by
 refine T.cq.F.aR G8 (λ_ _ _ _ H vs Q E hr h=>?_)
 ·obtain ⟨a,yd,rfl,ha,hl,k⟩:=h
  refine ⟨_,(Zi (Ym (Zy Q6 (Zs Zn (by rfl) T.ak PySem.boot_len (Za (pv 0) Zb)) (Yg (v:=.int 400) Z T.fq ⟨_,Z⟩) (Zx _)) X0 Yc)),?_⟩;refine ⟨_,Z,a,_,Z,.inl (SqL.of ha),_,_,Z,Z,_,Z,?_⟩;rw [decide_eq_false (by lia)];exact iteF k
def Za7:FnScope ["parts"] ["parts"] (Zg Uo):=An
def Zbf (T:Txt w K mg t):FnOk P w K mg base (CXr P w) 1 t.cy t.cG ["parts"] Zax:=by
 refine T.cN.F.aR Za7 (λ_ _ _ _ H vs Q E hr h=>?_)
 ·obtain ⟨q,v,rfl,hq,k1,k2,k⟩:=h
  refine ⟨_,(Zi (Ym (Zy Q6 (Zs (Ziz Z) (by rfl) T.iQ PyProof.Rows.boot_max (Za (pv 0) Zb)) (Yg (v:=.int 1000000000000000000000000000000000000000000000000000000000000) Z T.dP ⟨_,Z⟩) (Zx _)) X0 Yc)),?_⟩;refine ⟨_,Z,q,[(v.1:Int),(v.2:Int)],Z,SqT.of hq,(by show 0 < 2; decide),λm hm hmx=>?_⟩;refine ⟨_,_,Z,Z,_,Z,?_⟩;have:m<=1000:=by
   rcases As hm with rfl | hm
   ·lia
   ·rw [Ag hm]; lia
  rw [decide_eq_false (by lia)];exact iteF k
def okD (m n:Nat):Prop:=Nat.gcd m n < 2 ^ 8900
def Zl8 {m n:Nat} (hm:1<=m) (h:okD m n):Zbm (m:Int) (Nat.gcd m n:Nat)/\Zbm (n:Int) (Nat.gcd m n:Nat):=by
 have h1:0 < Nat.gcd m n:=Nat.gcd_pos_of_pos_left _ hm;have h3:(((Nat.gcd m n:Nat):Int)).natAbs.log2 < 9000:=by
  refine Ah (log2_lt (k:=8900) ?_ (by decide)) (by decide)
  rw [Int.natAbs_natCast]
  exact h
 exact ⟨⟨by lia,h3⟩,⟨by lia,h3⟩⟩
def Znn {m n:Nat} (hm:1<=m) (h:m < 2 ^ 8900):okD m n:=Nat.lt_of_le_of_lt (Nat.le_of_dvd hm (Nat.gcd_dvd_left _ _)) h
def Zhe:Sp:=λvs H Q _=>∃ a b:Nat,vs=[.int a,.int b]/\Q (.int (Nat.gcd a b:Nat)) H
def Kk (EF:Addr):Sp:=λvs H Q E=>∃ a b:Int,vs=[.int a,.int b]/\(1<=a->1<=b->Q .non H)/\(a < 1\/b < 1->E (.ref EF) none H)
def Zd1 (EF:Addr):Sp:=λvs H Q E=>∃ a b:Int,vs=[.int a,.int b]/\(∀ m n:Nat,a=m->b=n->1<=m->1<=n->okD m n/\∀ p,H p=none->Q (.ref p) (upd H p (tp (lowN m n))))/\(a < 1\/b < 1->E (.ref EF) none H)
def J2:FnScope ["one","other"] ["one","other"] (Zg Qk):=An
def Ov (T:Txt w K mg t):FnOk P w K mg base (CXr P w) 1 t.bg t.br ["one","other"] Zhe:=by
 refine T.bv.F.aR J2 (λ_ _ _ _ H vs Q E hr h=>?_)
 ·obtain ⟨a,b,rfl,k⟩:=h
  refine ⟨_,(Ze (Jf PassesOwn.never (Vu (pv 1) (λ_=>rfl)) (Zi (Znc (i:=0) (j:=1) Z J2.nd Z Z (by decide) Z Z (Za (pv 1) (Za (Zk Yh (pv 0) (pv 1)) Zb)) (by rfl))))
   (Zi (Zw (pv 0)))),?_⟩;refine ⟨λm σ H1=>∃ a' b':Nat,b'=m/\H1=H/\σ=[some (.int a'),some (.int b')]/\Nat.gcd a' b'=Nat.gcd a b,⟨b,a,b,Z,Z,Z,Z⟩,?_⟩;rintro m σ H1 ⟨a',b',rfl,rfl,rfl,e⟩;refine ⟨_,Z,_,Z,?_⟩;by_cases z:b'=0
  ·subst z
   refine iteF ⟨_,Z,?_⟩;rw [Nat.gcd_zero_right] at e;rw [e];exact k
  ·have hz:((b':Int) != 0)=true:=by simp; lia
   rw [hz];refine iteT ⟨_,λσ' H' h=>h,?_⟩;refine ⟨_,Z,_,Z,_,Z,_,_,Z,Z,(by show (0:Int) < b'; lia),_,_,rfl,?_⟩;refine ⟨a' % b',Nat.mod_lt _ (by lia),b',a' % b',Z,Z,?_,?_⟩
   ·rw [Int.natCast_emod]; rfl
   ·rw [<- e,Nat.gcd_comm a' b',Nat.gcd_rec b' a',Nat.gcd_comm]
def Km:FnScope ["top","bottom"] ["top","bottom"] (Zg Q4):=An
def Kp (T:Txt w K mg t):FnOk P w K mg base (CXr P w) 1 t.bG t.bJ ["top","bottom"] (Kk t.aQ):=by
 refine T.bL.F.aX Km (λ_ _ _ _ H vs Q E hr h=>?_)
 ·obtain ⟨a,b,rfl,k1,k2⟩:=h
  refine ⟨_,(Yd (Jv (PW.pt (Q5 (Zy J7 (pv 0) Zd (Zx _)) (Qn (Zy J7 (pv 1) Zd (Zx _))))) (Yd (Ju T.fV FBV Z T.fu Z (Za Zl Zb))) Je)),?_⟩;refine ⟨_,Z,_,_,Z,Z,_,Z,?_⟩;refine ite2 (λc=>?_) (λc=>?_)
  ·have c:a < 1:=by simpa using c
   exact iteT ⟨by decide,k2 (.inl c)⟩
  ·have c:¬ a < 1:=by simpa using c
   refine ⟨_,Z,_,_,Z,Z,_,Z,?_⟩;refine ite2 (λd=>?_) (λd=>?_)
   ·have d:b < 1:=by simpa using d
    exact ⟨by decide,k2 (.inr d)⟩
   ·have d:¬ b < 1:=by simpa using d
    exact k1 (by lia) (by lia)
def O1:FnScope ["top","bottom","measure"] ["top","bottom"] (Zg K9):=An
def Zei (T:Txt w K mg t):FnOk P w K mg base (CXr P w) 2 t.dX t.eB ["top","bottom"] (Zd1 t.aQ):=by
 refine T.eX.F.aX O1 (λ_ _ _ _ H vs Q E hr h=>?_)
 ·obtain ⟨a,b,rfl,k1,k2⟩:=h
  refine ⟨_,(Yk (Yb (pxT (Kp T) hr T.bL (Za (pv 0) (Za (pv 1) Zb))))
   (Yk (Z7 (Zj (i:=2) O1.nd rfl (Or.inl rfl) (pcT (Ov T) hr T.bv (Za (pv 0) (Za (pv 1) Zb)))))
   (Yd (Z7 (Zw (W7 (Za (Zk Zc2 (pv 0) (pv 2)) (Za (Zk Zc2 (pv 1) (pv 2)) Zb)))))))),?_⟩;refine ⟨_,Z,_,Z,a,b,Z,λha hb=>?_,k2⟩;obtain ⟨m,rfl⟩:∃ m:Nat,a=m:=⟨a.toNat,by lia⟩;obtain ⟨n,rfl⟩:∃ n:Nat,b=n:=⟨b.toNat,by lia⟩;obtain ⟨hbg,k⟩:=k1 m n rfl rfl (by lia) (by lia);obtain ⟨g1,g2⟩:=Zl8 (m:=m) (n:=n) (by lia) hbg;refine ⟨_,Z,_,Z,m,n,Z,?_⟩;dsimp only [Z2];refine ⟨_,Z,_,Z,_,_,Z,Z,g1,_,Z,_,Z,_,_,Z,Z,g2,(by show 2<=sizeLine; rw [sizeLine_eq]; decide),λp hp=>?_⟩;exact k p hp
def Zmu (ws:List Nat):(wI ws).map V.int=ws.map nV:=by rw [List.map_map]; rfl
def Zka {ws:List Int}:(((ws.map V.int).length:Nat):Int)=ws.length:=by rw [Ac]
def Zks (x0:Int) (xr:List Int):cutV ((x0 :: xr).map V.int) (some 1) none=xr.map V.int:=by
 unfold cutV;have e1:HT.sIx ((x0 :: xr).map V.int).length 0 (some ((1:Nat):Int))=1:=by
  rw [HT.sIx_nat,Ac,List.length_cons]
  lia
 rw [show (some (1:Int))=some ((1:Nat):Int) from rfl,e1,HT.sIx_none,List.map_cons,List.drop_succ_cons,List.drop_zero,List.length_cons,Nat.add_sub_cancel,List.take_length]
def Zdj {α:Type} {p:α->Bool} {l:List α} {i:Nat} {x:α} (h:l[i]?=some x):(l.take (i + 1)).filter p=if p x=true then (l.take i).filter p ++ [x] else (l.take i).filter p:=by
 rw [Ax,h,List.filter_append];by_cases c:p x=true
 ·simp [c]
 ·simp [c]
def Zlh:Sp:=λvs H Q _=>∃ (m a:Addr) (M:List (Option Nat)) (xs:List Int),vs=[.ref m,.ref a]/\H m=some (.lst (M.map mV))/\H a=some (.lst (xs.map V.int))/\xs≠[]/\xs.length<=60/\(∀ x∈xs,0<=x/\x < 1009)/\M.length<=42/\(∃ n,M.length=3 * n)/\(∀ (i j:Nat),M[i]?=some (some j)->M[j]?=some (some i)/\i≠j) /\
 ∀ (l:Addr) (ws:List Nat) (H':Hp),Same H H'->H l=none->H' l=some (.lst (ws.map nV))->ws.length<=60->(ws=[]\/Pl M ws)->Q (.ref l) H'
def Zhb (K:W.Frag):Sp:=λvs H Q _=>∃ (a m:Addr) (sc:List Int) (i:Int) (M:List (Option Nat)),vs=[.ref a,.int i,.ref m]/\SqL K H a (sc.map V.int)/\sc.length<=63/\0<=i/\i < 1000/\H m=some (.lst (M.map mV))/\M.length<=42/\(∃ n,M.length=3 * n)/\(∀ (i j:Nat),M[i]?=some (some j)->M[j]?=some (some i)/\i≠j) /\
 ∀ (l:Addr) (ws:List Nat) (H':Hp),Same H H'->H l=none->H' l=some (.lst (ws.map nV))->ws.length<=60->(ws=[]\/Pl M ws)->Q (.ref l) H'
def hasM (M:List (Option Nat)) (i:Nat):Bool:=match M[i]? with
 | some (some _)=>true
 | _=>false
def Jh {M:List (Option Nat)}:hasM M i=true ↔ ∃ j,M[i]?=some (some j):=by
 unfold hasM;split
 ·rename_i j h; exact ⟨λ_=>⟨j,h⟩,λ_=>rfl⟩
 ·rename_i h; exact ⟨λz=>absurd z (by decide),λ⟨j,e⟩=>absurd e (h j)⟩
def Xz:FnScope ["_law_mates","_law_nums","_law_spots","_law_row","_law_pick","_law_side","_law_ways","_law_start","_law_stop"] ["_law_mates","_law_nums"] (Zg Zci):=An
def Zh5 (T:Txt w K mg t):FnOk P w K mg base (CXr P w) 1 t.gf t.gx ["_law_mates","_law_nums"] Zlh:=by
  refine T.gF.F.aR Xz (λ_ _ _ _ H vs Q E hr h=>?_)
  · obtain ⟨m,a,M,xs,rfl,hm,ha,nz,hx60,hx,yb,⟨n,hn⟩,inv,k⟩:=h
    refine ⟨_,(Ze (Jm (ts:=["_law_p"]) (fv:=[("_law_mates",0)]) (i:=2) ⟨rfl,by decide +kernel,by decide +kernel,Yy (by rfl),⟨⟨rfl,rfl,Or.inl rfl⟩,trivial⟩⟩ rfl Xz.nd rfl rfl (by rfl) (Jx rfl T.bF (Za (Zs Zn (by rfl) T.ak PySem.boot_len (Za (pv 0) Zb)) Zb)) (λ_ _ _ _=>(Z0 (i:=0) (show List.Nodup (["_law_p","_law_mates"]:List Str) from by decide +kernel) rfl (Or.inl rfl) (Or.inr rfl))) (λ_ _ _ _=>(Ff (Zy Of (Zt (Qw K) (pv 1) (pv 0) (λ_ _=>rfl)) Vl (Zx _)))) (λ_ _ _=>rfl) (λ_ _ _ _ _ _=>Xt (pv 0)))
      (Ze (Ym (Zy Y7 (Zs Zn (by rfl) T.ak PySem.boot_len (Za (pv 2) Zb)) Zd (Zx _)) (Zi (Zw (Ya Zb))) Yc)
      (Ze (Zj (i:=3) Xz.nd rfl (Or.inl rfl) (Ya (Za (Zt Zo (pv 2) (Zk Yh (Zt Zo (pv 1) Zd (λ_ _=>rfl)) (Zs Zn (by rfl) T.ak PySem.boot_len (Za (pv 2) Zb))) (λ_ _=>rfl)) Zb)))
      (Ze (Qp PassesOwn.never rfl (Xf (Y6 Xm (pv 1) (Xe Zd) Xr)) (Z0 (i:=4) Xz.nd rfl (Or.inl rfl)) (Ze (Zj (i:=5) Xz.nd rfl (Or.inr rfl) (Zt Zo (pv 0) (Zt Zo (pv 3) (Zot Zmv Zd) (λ_ _=>rfl)) (λ_ _=>rfl)))
      (Ze (Jm (ts:=["_law_k"]) (fv:=[("_law_side",5)]) (i:=6) ⟨rfl,by decide +kernel,by decide +kernel,Yy (by rfl),⟨⟨rfl,rfl,Or.inl rfl⟩,trivial⟩⟩ rfl Xz.nd rfl rfl (by rfl) (Jx rfl T.bF (Za Zd Zb)) (λ_ _ _ _=>(Z0 (i:=0) (show List.Nodup (["_law_k","_law_side"]:List Str) from by decide +kernel) rfl (Or.inl rfl) (Or.inr rfl))) (λ_ _ _ _=>Y8) (λ_ _ _=>rfl) (λ_ _ _ _ _ _=>Xt (Zk Yo (Zk Zh1 (pv 1) (Zk Yh (pv 1) Zd)) (Zk Yh (Zk Yo (Zk Yo (pv 1) Zd) (pv 0)) Zd))))
      (Ze (Jm (ts:=["_law_p"]) (fv:=[("_law_mates",0)]) (i:=6) ⟨rfl,by decide +kernel,by decide +kernel,Yy (by rfl),⟨⟨rfl,rfl,Or.inl rfl⟩,trivial⟩⟩ rfl Xz.nd rfl rfl (by rfl) (Xf (pv 6)) (λ_ _ _ _=>(Z0 (i:=0) (show List.Nodup (["_law_p","_law_mates"]:List Str) from by decide +kernel) rfl (Or.inl rfl) (Or.inr rfl))) (λ_ _ _ _=>(Ff (Zy Of (Zt (Qw K) (pv 1) (pv 0) (λ_ _=>rfl)) Vl (Zx _)))) (λ_ _ _=>rfl) (λ_ _ _ _ _ _=>Xt (pv 0)))
      (Ze (Ym (Zy Y7 (Zs Zn (by rfl) T.ak PySem.boot_len (Za (pv 6) Zb)) Zd (Zx _)) (Zi Zjo) Yc)
      (Zi (Yw (Y4 PySem.F.plainAttrs_list PySem.F.slot_list_append PySem.F.type_list_append Xq (pv 3) (Za (Zt Zo (pv 6) (Zk Yh (pv 4) (Zs Zn (by rfl) T.ak PySem.boot_len (Za (pv 6) Zb))) (λ_ _=>rfl)) Zb)))))))))
      (Ze (Qp PassesOwn.never rfl (Jx rfl T.bF (Za (Zs Zn (by rfl) T.ak PySem.boot_len (Za (pv 3) Zb)) Zb)) (Z0 (i:=7) Xz.nd rfl (Or.inl rfl)) (Zi (Qp PassesOwn.never rfl (Zl2 rfl T.fh rfl T.bF (Za (Zk Yo (pv 7) Zd) (Za (Zs Zn (by rfl) T.ak PySem.boot_len (Za (pv 3) Zb)) Zb))) (Z0 (i:=8) Xz.nd rfl (Or.inl rfl)) (Zi (Ym (Zy Y7 (Zt Zo (pv 3) (pv 7) (λ_ _=>rfl)) (Zt Zo (pv 3) (pv 8) (λ_ _=>rfl)) (Zx _)) (Zi (Zw (Y6 Xm (pv 3) (Xe (pv 7)) (Xe (pv 8))))) Yc)))))
      (Zi (Zw (Ya Zb)))))))),?_⟩;refine Zv λnxC i8=>?_;refine ⟨_,Z,m,_,Z,.inl (SqL.of hm),_,Z,by lia,by rw [Ac]; lia,λD hD=>?_⟩;have eL:(((M.map mV).length:Nat):Int).toNat=M.length:=by simp
    rw [eL];refine V0 (λi σ H1=>∃ v,σ=[v,some (.ref m)]/\Same H H1/\H1 D=some (.lst (((List.range i).filter (hasM M)).map nV))) ⟨none,Z,Same.new hD,Zc⟩ ?_ ?_
    · rintro i σ H1 jh ⟨v,rfl,sm,h1⟩
      dsimp only [Z2];rw [Int.zero_add];obtain ⟨y,hy⟩:∃ y,M[i]?=some y:=⟨_,Ad jh⟩;have lt:(((List.range i).filter (hasM M)).map nV).length < sizeLine:=by
        rw [Ac]
        have:=List.length_filter_le (hasM M) (List.range i)
        rw [List.length_range] at this
        exact Z5 (by lia)
      refine ⟨_,Z,_,Z,m,_,_,_,Z,Z,SqL.of (sm _ _ hm),Yp hy,Z,_,Z,?_⟩
      cases y with
      | none =>
        refine iteF ⟨_,Z,sm,?_⟩;rw [h1,List.range_succ,List.filter_append];have:hasM M i=false:=by rw [Bool.eq_false_iff]; intro z; obtain ⟨j,e⟩:=Jh.mp z; rw [hy] at e; cases e
        simp [this]
      | some j =>
        refine iteT ⟨_,Z,_,h1,lt,_,Z,Same.add sm hD,?_⟩;rw [Zc,List.range_succ,List.filter_append];have:hasM M i=true:=Jh.mpr ⟨j,hy⟩;simp [this];rfl
    rintro σ H1 ⟨v,rfl,s1,h1⟩;refine i8 _ _ ?_;have j7:∀ p∈(List.range M.length).filter (hasM M),∃ j,M[p]?=some (some j):=λp hp=>Jh.mp (List.mem_filter.mp hp).2;generalize (List.range M.length).filter (hasM M)=sps at h1 j7;refine Zv λnxC i8=>?_;refine ⟨_,Z,D,_,Z,.inl (SqL.of h1),Z,_,Z,?_⟩;refine ite2 (λc=>?_) (λc=>?_)
    · exact ⟨A0 _,λl hl=>k l [] _ (Same.add s1 (s1.free hl)) (s1.free hl) Zc (A0 _) (.inl Z)⟩
    have jo:0 < sps.length:=by
      cases sps with
      | nil=>exact absurd Z c
      | cons _ _=>simp
    dsimp only [Vp];refine i8 _ _ ?_
    obtain ⟨x0,xr,rfl⟩:∃ x0 xr,xs=x0 :: xr:=by
      cases xs with
      | nil=>exact absurd Z nz
      | cons a b=>exact ⟨a,b,Z⟩
    have k0:=Int.emod_nonneg x0 (show (sps.length:Int)≠0 by lia);have k1:=Int.emod_lt_of_pos x0 (show (0:Int) < sps.length by lia);obtain ⟨kk,ve⟩:∃ kk:Nat,x0 % (sps.length:Int)=kk:=⟨_,(Int.toNat_of_nonneg k0).symm⟩;have kz:kk < sps.length:=by lia
    refine Zv λnxC i8=>?_;refine ⟨_,Z,_,Z,a,_,_,_,Z,Z,SqL.of (s1 _ _ ha),(show atI _ ((0:Nat):Int)=_ from Wm Z),_,Z,D,_,Z,.inl (SqL.of h1),_,_,Z,Z,(by rw [Ac]; lia),D,_,_,_,rfl,rfl,SqL.of h1,(by rw [Ac,ve]; exact Yp (Ad kz)),(by show 1<=sizeLine; decide),λr ky=>?_⟩;refine i8 _ _ ?_;have n6:H r=none:=s1.free ky;obtain ⟨j0,hj0⟩:=j7 _ (List.getElem_mem kz);have ch0:Ch M [sps[kk]]:=Ch.one hj0;generalize sps[kk]=p0 at ch0;have s2:Same H (upd H1 r (.lst [nV p0])):=Same.add s1 n6;have h2:(upd H1 r (.lst [nV p0])) r=some (.lst ([p0].map nV)):=Zc;generalize upd H1 r (.lst [nV p0])=H2 at s2 h2;dsimp only [Z2];show tSeq (tFor _ _ _) _ _ _ _;refine Yn (λσ H3=>∃ (row:List Nat) (v4 v5 v6:Option V),σ=[some (.ref m),some (.ref a),some (.ref D),some (.ref r),v4,v5,v6,none,none]/\Same H H3/\H3 r=some (.lst (row.map nV))/\Ch M row/\row.length<=60) (λnx jr=>?_) ?_
    · refine ⟨_,Z,_,Z,a,_,Z,SqL.of (s2 _ _ ha),λq hq=>?_⟩
      rw [Zks];have hrq:r≠q:=Zr h2 hq;have qm:H q=none:=s2.free hq;refine ⟨q,Z,⟨_,SqL.of Zc⟩,?_⟩;rw [List.length_cons] at hx60;refine Zkl (xs:=xr.map V.int) (λi σ H3=>∃ (row:List Nat) (v4 v5 v6:Option V),σ=[some (.ref m),some (.ref a),some (.ref D),some (.ref r),v4,v5,v6,none,none]/\Same H H3/\H3 q=some (.lst (xr.map V.int))/\H3 r=some (.lst (row.map nV))/\Ch M row/\row≠[]/\row.length<=i + 1)
        ⟨[p0],none,none,none,rfl,Same.add s2 qm,Zc,by rw [Zh hrq]; exact h2,ch0,by simp,by simp⟩ ?_ ?_ ?_
      · rintro i σ H3 _ ⟨row,v4,v5,v6,rfl,s3,h3,_⟩
        exact SqL.of h3
      · rintro i x σ H3 rf ⟨row,v4,v5,v6,rfl,s3,h3,h4,ch,yi,ss⟩
        have hi:i < xr.length:=by have:=(Aa rf).1; rw [Ac] at this; exact this
        obtain ⟨kg,hpk,rfl⟩:∃ kg,xr[i]?=some kg/\x=V.int kg:=by
          rw [Ai,Ad hi] at rf;exact ⟨_,Ad hi,(Ay rf).symm⟩
        obtain ⟨la,zn⟩:∃ la,row.getLast?=some la:=by
          cases e:row.getLast? with
          | none=>exact absurd (List.getLast?_eq_none_iff.mp e) yi
          | some z=>exact ⟨z,Z⟩
        have hlm:la∈row:=List.mem_of_getLast? zn;obtain ⟨sd,y9⟩:=ch.has la hlm;have hsdM:sd < M.length:=(Aa (inv la sd y9).1).1
        have ww:atI (row.map nV) (-1)=some (nV la):=by
          unfold atI ixN
          have hl:0 < row.length:=by cases row with | nil=>exact absurd rfl yi | cons _ _=>simp
          rw [if_neg (by decide),if_pos (by rw [Ac]; lia)];show ((row.map nV)[((-1:Int) + (row.map nV).length).toNat]?)=_;rw [Ac,show ((-1:Int) + (row.length:Int)).toNat=row.length - 1 by lia,Ai,<- List.getLast?_eq_getElem?,zn];rfl
        dsimp only [Z2];refine Zv λnxC i8=>?_;refine ⟨_,Z,_,Z,_,Z,r,_,_,_,Z,Z,SqL.of h4,ww,m,_,_,_,Z,Z,SqL.of (s3 _ _ hm),Yp y9,?_⟩;refine i8 _ _ ?_;refine Zv λnxC i8=>?_;refine ⟨2,Z,by decide,by decide,λW hW=>?_⟩;have hW0:H W=none:=s3.free hW;have hWr:r≠W:=Zr h4 hW;have hWq:q≠W:=Zr h3 hW;refine V0 (n:=2) (λc σ H5=>∃ v,σ=[v,some (nV sd)]/\Same H3 H5/\H5 W=some (.lst (([side sd 1,side sd 2].take c).map nV))) ⟨none,Z,Same.new hW,Zc⟩ ?_ ?_
        · rintro c σ H5 hc ⟨v,rfl,s5,h5⟩
          dsimp only [Z2,tYes];rw [if_pos rfl];refine ⟨_,Z,_,Z,_,_,Z,Z,(by show (0:Int) < 3; decide),_,_,rfl,rfl,_,rfl,_,_,rfl,rfl,_,rfl,_,_,rfl,rfl,_,_,rfl,rfl,(by show (0:Int) < 3; decide),_,_,rfl,rfl,_,h5,?_,_,rfl,Same.add s5 hW,?_⟩
          · rw [Ac,Aj]; exact Z5 (by lia)
          · rw [Zc]
            have hc:c=0\/c=1:=by lia
            have e:∀ k:Nat,(sd:Int) - (sd:Int) % 3 + ((sd:Int) + 1 + (0 + (k:Int))) % 3=((side sd (k + 1):Nat):Int):=λk=>by unfold side; omega
            rcases hc with rfl | rfl
            · show some (HO.lst ([] ++ [V.int ((sd:Int) - (sd:Int) % 3 + ((sd:Int) + 1 + (0 + ((0:Nat):Int))) % 3)]))=_
              rw [e 0]; rfl
            · show some (HO.lst ([nV (side sd 1)] ++ [V.int ((sd:Int) - (sd:Int) % 3 + ((sd:Int) + 1 + (0 + ((1:Nat):Int))) % 3)]))=_
              rw [e 1]; rfl
        rintro σ H5 ⟨v,rfl,s5,h5⟩;refine i8 _ _ ?_;have h5:H5 W=some (.lst ([side sd 1,side sd 2].map nV)):=h5;have sl:∀ c,side sd c < M.length:=λc=>by rw [hn]; exact Zln (by lia)
        refine Zv λnxC i8=>?_;refine ⟨_,Z,W,Z,⟨_,SqL.of h5⟩,λW2 hW2=>?_⟩;have s35:=s3.trans s5;refine Y3 (xs:=[side sd 1,side sd 2].map nV) (λc σ H6=>∃ v,σ=[v,some (.ref m)]/\Same H5 H6/\H6 W2=some (.lst ((([side sd 1,side sd 2].take c).filter (hasM M)).map nV))) ⟨none,Z,Same.new hW2,Zc⟩ ?_ ?_ ?_
        · rintro c σ H6 _ ⟨v,rfl,s6,h6⟩
          exact SqL.of (s6 _ _ h5)
        · rintro c x σ H6 hxc ⟨v,rfl,s6,h6⟩
          obtain ⟨p,hp,rfl⟩:=Y1 hxc;have hpM:p < M.length:=by
            have:=Av hp
            rcases As this with rfl | z
            · exact sl 1
            · rw [Ag z]; exact sl 2
          obtain ⟨y,hy⟩:∃ y,M[p]?=some y:=⟨_,Ad hpM⟩;dsimp only [Z2];refine ⟨_,Z,_,Z,m,_,_,_,Z,Z,SqL.of (s6 _ _ (s35 _ _ hm)),Yp hy,Z,_,Z,?_⟩
          cases y with
          | none =>
            refine iteF ⟨_,Z,s6,?_⟩;have:hasM M p=false:=by rw [Bool.eq_false_iff]; intro z; obtain ⟨j,e⟩:=Jh.mp z; rw [hy] at e; cases e
            rw [h6,Zdj hp,if_neg (by rw [this]; decide)]
          | some jj =>
            refine iteT ⟨_,Z,_,h6,?_,_,Z,Same.add s6 hW2,?_⟩
            · rw [Ac]
              have h1:=List.length_filter_le (hasM M) ([side sd 1,side sd 2].take c);have h2:([side sd 1,side sd 2].take c).length<=2:=by rw [Aj]; exact Nat.min_le_right _ _
              exact Z5 (by lia)
            · rw [Zc,Zdj hp,if_pos (Jh.mpr ⟨jj,hy⟩),Ak]
              rfl
        rintro σ H6 ⟨v,rfl,s6,h6⟩;refine i8 _ _ ?_;have h6:H6 W2=some (.lst (([side sd 1,side sd 2].filter (hasM M)).map nV)):=h6;have hws:∀ p∈[side sd 1,side sd 2].filter (hasM M),(∃ j,M[p]?=some (some j))/\p / 3=sd / 3/\p≠sd:=λp hp=>by
          obtain ⟨z1,z2⟩:=List.mem_filter.mp hp
          refine ⟨Jh.mp z2,?_,?_⟩
          · rcases As z1 with rfl | z
            · exact Zb6 _ _
            · rw [Ag z]; exact Zb6 _ _
          · rcases As z1 with rfl | z
            · unfold side; omega
            · rw [Ag z]; unfold side; omega
        generalize [side sd 1,side sd 2].filter (hasM M)=wys at h6 hws;have yh:=s5.trans s6;have h4':=yh _ _ h4;have h3':=yh _ _ h3;have qz:=s3.trans yh;refine Zv λnxC i8=>?_;refine ⟨_,Z,W2,_,Z,.inl (SqL.of h6),Z,_,Z,?_⟩;refine ite2 (λc=>?_) (λc=>?_)
        · exact jr _ _ ⟨row,_,_,_,Z,qz,h4',ch,by lia⟩
        have hwp:0 < wys.length:=by
          cases wys with
          | nil=>exact absurd Z c
          | cons _ _=>simp
        dsimp only [Vp];refine i8 _ _ ?_;have c0:=Int.emod_nonneg kg (show (wys.length:Int)≠0 by lia);have c1:=Int.emod_lt_of_pos kg (show (0:Int) < wys.length by lia);obtain ⟨cc,xz⟩:∃ cc:Nat,kg % (wys.length:Int)=cc:=⟨_,(Int.toNat_of_nonneg c0).symm⟩;have vj:cc < wys.length:=by lia
        obtain ⟨w1,w2,w3⟩:=hws _ (List.getElem_mem vj);have hget:=Ad vj;refine ⟨_,Z,.inl ⟨Z,_,SqL.of h4'⟩,_,Z,_,Z,_,Z,W2,_,Z,.inl (SqL.of h6),_,_,Z,Z,(by rw [Ac]; lia),W2,_,_,_,rfl,rfl,SqL.of h6,(by rw [Ac,xz]; exact Yp hget),r,_,_,Z,Z,h4',(by rw [Ac]; exact Z5 (by lia)),?_⟩;refine ⟨row ++ [wys[cc]],_,_,_,Z,Same.add qz n6,?_,?_,ch.snoc zn y9 w2 w3 w1,by simp,by rw [Af,Au]; lia⟩
        · rw [Zh (Ne.symm hrq)]; exact h3'
        · rw [Zc,Ak]; rfl
      · rintro σ H3 ⟨row,v4,v5,v6,rfl,s3,h3,h4,ch,yi,ss⟩
        rw [Ac] at ss;exact jr _ _ ⟨row,_,_,_,Z,s3,h4,ch,by lia⟩
    rintro σ H3 ⟨row,v4,v5,v6,rfl,s3,h3,ch,ss⟩;show tSeq (tFor _ _ _) _ _ _ _;refine Yn (λσ H4=>H4=H3) (λnx jr=>?_) ?_
    · refine ⟨_,Z,r,_,Z,.inl (SqL.of h3),_,Z,by lia,by rw [Ac]; lia,?_⟩
      have eR:(((row.map nV).length:Nat):Int).toNat=row.length:=by simp
      rw [eR];refine Zai (n:=row.length) (λi σ H4=>∃ v7 v8,σ=[some (.ref m),some (.ref a),some (.ref D),some (.ref r),v4,v5,v6,v7,v8]/\H4=H3) ⟨_,_,Z,Z⟩ ?_ ?_
      · rintro i σ H4 hi ⟨v7,v8,rfl,rfl⟩
        dsimp only [Z2];rw [Int.zero_add];refine ⟨_,Z,_,_,Z,Z,_,Z,r,_,Z,.inl (SqL.of h3),((i + 1:Nat):Int),row.length - (i + 1),?_,by lia,by lia,?_⟩
        · rw [Ac]
          show [V.int ((i:Int) + 1),V.int (row.length:Int)]=_;rw [show ((i:Int) + 1)=((i + 1:Nat):Int) by lia,show (row.length:Int)=((i + 1:Nat):Int) + ((row.length - (i + 1):Nat):Int) by lia]
        refine Zgm (n:=row.length - (i + 1)) (λc σ H5=>∃ v8,σ=[some (.ref m),some (.ref a),some (.ref D),some (.ref r),v4,v5,v6,some (.int i),v8]/\H5=H4) ⟨_,Z,Z⟩ ?_ ?_
        · rintro c σ H4 hc ⟨v8,rfl,rfl⟩
          obtain ⟨e,he,hie,hel⟩:∃ e:Nat,((i + 1:Nat):Int) + ((row.length - (i + 1):Nat):Int) - 1 + (c:Int) * -1=(e:Int)/\i < e/\e < row.length:=⟨row.length - 1 - c,by lia,by lia,by lia⟩;dsimp only [Z2];rw [he];have gi:=Ad hi;have ge:=Ad hel;refine ⟨_,Z,_,Z,r,_,_,_,Z,Z,SqL.of h3,Yp gi,_,Z,_,Z,r,_,_,_,Z,Z,SqL.of h3,Yp ge,Z,_,Z,?_⟩;refine ite2 (λz=>?_) (λz=>?_)
          · have z:nV row[i]=nV row[e]:=of_decide_eq_true z
            have z:row[i]=row[e]:=by unfold nV at z; injection z with z; lia
            refine ⟨_,Z,_,Z,_,Z,_,Z,_,Z,r,_,Z,SqL.of h3,λl hl=>?_⟩;have ec:cutV (row.map nV) (some (i:Int)) (some (e:Int))=((row.drop i).take (e - i)).map nV:=by
              unfold cutV
              rw [HT.sIx_nat,HT.sIx_nat,Ac,Nat.min_eq_left (by lia),Nat.min_eq_left (by lia),List.map_take,List.map_drop]
            rw [ec];refine k l _ _ (Same.add s3 (s3.free hl)) (s3.free hl) Zc ?_ (.inr (ch.cut hie gi (by rw [ge,z])));rw [Aj,List.length_drop]; lia
          · exact ⟨_,Z,Z⟩
        · rintro σ H4 ⟨v8,rfl,rfl⟩
          exact ⟨_,_,Z,Z⟩
      · rintro σ H4 ⟨v7,v8,rfl,rfl⟩
        exact jr _ _ Z
    · rintro σ H4 rfl
      exact ⟨A0 _,λl hl=>k l [] _ (Same.add s3 (s3.free hl)) (s3.free hl) Zc (A0 _) (.inl Z)⟩
def Oa (ws:List Int) (by':Int):List Int:=rot ws (by' % ws.length).toNat
def Zg9:Sp:=λvs H Q _=>∃ (a:Addr) (ws:List Int) (b:Int),vs=[.ref a,.int b]/\H a=some (.lst (ws.map V.int))/\ws.length<=100000/\∀ (l:Addr) (H':Hp),Same H H'->H l=none->H' l=some (.lst ((Oa ws b).map V.int))->Q (.ref l) H'
def Zb0 (C:Addr):Sp:=λvs H Q _=>∃ (p:Addr) (M:List (Option Nat)) (ns:List Int) (x:Int),vs=[.ref p,.int x]/\Yu C H p M ns/\M.length=ns.length/\Q (.bl (Wb M x)) H
def Zfw (C:Addr):Sp:=λvs H Q _=>∃ (p:Addr) (M:List (Option Nat)) (ns:List Int) (a x:Int),vs=[.ref p,.int a,.int x]/\Yu C H p M ns/\M.length=ns.length/\Wb M a=true/\Q (.bl (Ws M a x)) H
def Zjg (C:Addr):Sp:=λvs H Q _=>∃ (p a:Addr) (M:List (Option Nat)) (ns ws:List Int),vs=[.ref p,.ref a]/\Yu C H p M ns/\M.length=ns.length/\H a=some (.lst (ws.map V.int))/\ws.length<=100000/\∀ H',Same H H'->Q (.bl (Wu M ws)) H'
def G3 (C EN:Addr):Sp:=λvs H Q E=>∃ (p a:Addr) (M:List (Option Nat)) (ns ws:List Int),vs=[.ref p,.ref a]/\Yu C H p M ns/\M.length=ns.length/\H a=some (.lst (ws.map V.int))/\ws.length<=100000/\∀ H',Same H H'->(Wu M ws=true->Q .non H')/\(Wu M ws=false->E (.ref EN) none H')
def Zfz {n:Nat} (h:n<=100000):n<=sizeLine:=by rw [sizeLine_eq]; lia
def Zkt {ws:List Int} (h:s<=ws.length):cutV (ws.map V.int) (some (s:Int)) none=(ws.drop s).map V.int:=by
 unfold cutV;rw [HT.sIx_nat,HT.sIx_none,Ac,Nat.min_eq_left h,List.map_drop,List.take_of_length_le];rw [List.length_drop,Ac];exact Ao _
def Zn4 {ws:List Int} (h:s<=ws.length):cutV (ws.map V.int) none (some (s:Int))=(ws.take s).map V.int:=by
 unfold cutV;rw [HT.sIx_none,HT.sIx_nat,Ac,Nat.min_eq_left h,List.drop_zero,Nat.sub_zero,List.map_take]
def O0:FnScope ["_law_script","_law_at","_law_mates","_law_cell_here"] ["_law_script","_law_at","_law_mates"] (Zg K8):=An
def Zeh (T:Txt w K mg t):FnOk P w K mg base (CXr P w) 2 t.d8 t.eP ["_law_script","_law_at","_law_mates"] (Zhb K):=by
 refine T.e8.F.aR O0 (λ_ _ _ _ H vs Q E hr h=>?_)
 ·obtain ⟨a,m,sc,i,M,rfl,hS,hl,i0,i1,hm,yb,hn,inv,k⟩:=h
  refine ⟨_,(Ze (Zj (i:=3) O0.nd Z (Or.inl Z) (pcT (Wf T) hr T.aK (Za (pv 0) (Za (pv 1) Zb))))
   (Zi (Zw (pcT (Zh5 T) hr T.gF (Za (pv 2) (Za (pcT (U0 T) hr T.bZ (Za (Zk Wa (pv 3) Zd) (Za (Zk Yo Zd (Zk Yh (pv 3) Zd)) Zb))) Zb)))))),?_⟩;refine ⟨_,Z,_,Z,a,sc,i,Z,hS,hl,i0,by lia,?_⟩;dsimp only [Z2];generalize cell sc i=c;have m0:0<=c % 50:=Int.emod_nonneg _ (by decide);have m1:c % 50 < 50:=Int.emod_lt_of_pos _ (by decide);have e:(4 + c % 50:Int)=((4 + (c % 50).toNat:Nat):Int):=by lia
  refine ⟨_,Z,_,Z,_,_,Z,Z,⟨by decide,by decide⟩,_,Z,_,_,Z,Z,(by show (0:Int) < 50; decide),_,_,rfl,rfl,_,4 + (c % 50).toNat,(by rw [<- e]; rfl),by lia,λp xs H1 s1 hp h1 yt hx=>?_⟩;refine ⟨m,p,M,xs,Z,s1 _ _ hm,h1,λz=>by rw [z] at yt; simp at yt; lia,by lia,hx,yb,hn,inv,λl ws H2 s2 my h2 hw ju=>k l ws H2 (s1.trans s2) (s1.free my) h2 hw ju⟩
def Fv:FnScope ["word","by","start"] ["word","by"] (Zg Zcg):=An
def Zh3 (T:Txt w K mg t):FnOk P w K mg base (CXr P w) 1 t.fZ t.gl ["word","by"] Zg9:=by
 refine T.gA.F.aR Fv (λ_ _ _ _ H vs Q E hr h=>?_)
 ·obtain ⟨a,ws,b,rfl,ha,hl,k⟩:=h
  refine ⟨_,(Ze (Ym (Wt (Vu (pv 0) (λ_=>rfl))) (Zi (Zw (Ya Zb))) Yc)
   (Ze (Zj (i:=2) Fv.nd rfl (Or.inl rfl) (Zk Yh (pv 1) (Zs Zn (by rfl) T.ak PySem.boot_len (Za (pv 0) Zb))))
   (Zi (Zw (Zk Y0 (Y6 Xm (pv 0) (Xe (pv 2)) Xr) (Y6 Xm (pv 0) Xr (Xe (pv 2)))))))),?_⟩;refine Zv λnxC i8=>?_;refine ⟨_,Z,_,.inl ⟨_,SqL.of ha,Z⟩,?_⟩;by_cases jo:ws=[]
  ·subst jo
   exact iteT ⟨A0 _,λl uu=>k l _ (Same.new uu) uu (by rw [Zc]; unfold Oa rot; simp)⟩
  ·have e:(!(ws.map V.int).isEmpty)=true:=by cases ws with | nil=>exact absurd rfl jo | cons _ _=>rfl
   have hp:0 < ws.length:=by cases ws with | nil=>exact absurd rfl jo | cons _ _=>simp
   rw [e];refine iteF ?_;dsimp only [Vp];refine i8 _ _ ?_;have k0:=Int.emod_nonneg b (show (ws.length:Int)≠0 by lia);have k1:=Int.emod_lt_of_pos b (show (0:Int) < ws.length by lia);obtain ⟨st,j5⟩:∃ st:Nat,b % (ws.length:Int)=st:=⟨_,(Int.toNat_of_nonneg k0).symm⟩;have ql:st<=ws.length:=by lia
   have et:Oa ws b=ws.drop st ++ ws.take st:=by unfold Oa rot; rw [j5,Int.toNat_natCast]
   refine ⟨_,Z,_,Z,a,_,Z,.inl (SqL.of ha),_,_,Z,Z,(by rw [Ac]; lia),?_⟩;dsimp only [Z2];rw [Zka,j5];refine ⟨_,Z,_,Z,_,Z,a,_,Z,SqL.of ha,λl1 h1=>?_⟩;rw [Zkt ql];have s1:Same H (upd H l1 (.lst ((ws.drop st).map V.int))):=Same.new h1;refine ⟨_,Z,_,Z,_,Z,a,_,Z,SqL.of (s1 _ _ ha),λl2 h2=>?_⟩;rw [Zn4 ql];obtain ⟨qh,h2'⟩:=Qg h2;refine ⟨l1,l2,_,_,Z,Z,by rw [Zh (Ne.symm qh),Zc],Zc,?_,λl3 h3=>?_⟩
   ·rw [Ac,Ac,List.length_drop,Aj]; exact Zfz (by lia)
   ·have s3:=Same.add (o:=.lst ((ws.take st).map V.int)) s1 h2'
    refine k l3 _ (Same.add s3 (s3.free h3)) (s3.free h3) ?_;rw [Zc,et,Ak]
def Zcb:FnScope ["tent","place"] ["tent","place"] (Zg O9):=An
def Zc7 (T:Txt w K mg t):FnOk P w K mg base (CXr P w) 4 t.db t.dn ["tent","place"] (Zb0 t.ac):=by
 refine T.dD.F.aR Zcb (λ_ _ _ _ H vs Q E hr h=>?_)
 ·obtain ⟨p,M,ns,x,rfl,ta,qt,k⟩:=h
  obtain ⟨dx,cl,na,sp,mt,o,f,b⟩:=id ta;refine ⟨_,(Zi (Zw (Ux (Wk (pv 0) T.aj T.aq.m (J5 T) (hr.mono (by decide)) T.aq.b .nil Yr (Za (pv 1) Zb)) (Vk (Y2 Of (Wk (pv 0) T.aj T.aM.m (U1 T) (hr.mono (by decide)) T.aM.b .nil Yr (Za (pv 1) Zb)) Vl (Zx _)))))),?_⟩;refine ⟨_,Z,p,dx,_,Z,b.ins,Wl _ _ _ _,_,Z,p,M,ns,x,Z,ta,_,Z,?_⟩;by_cases c:0<=x/\x < (ns.length:Int)
  ·rw [decide_eq_true c]
   refine iteT ⟨_,Z,p,dx,_,Z,b.ins,Wl _ _ _ _,_,Z,p,M,ns,x,Z,ta,qt,λi y e1 e2=>?_,λz=>absurd c z⟩;refine ⟨Z,?_⟩
   have:Wb M x=!decide (mV y=.non):=by
    unfold Wb;rw [e1,Int.toNat_natCast,Ae,e2,decide_eq_true (show (0:Int)<=i/\(i:Int) < M.length by lia)];cases y <;> rfl
   rw [this] at k;exact k
  ·rw [decide_eq_false c]
   have:Wb M x=false:=by unfold Wb; rw [decide_eq_false (by lia)]; rfl
   rw [this] at k;exact iteF k
def K3:FnScope ["tent","ahead","place","entry"] ["tent","ahead","place"] (Zg F4):=An
def Zgc (T:Txt w K mg t):FnOk P w K mg base (CXr P w) 4 t.fw t.fG ["tent","ahead","place"] (Zfw t.ac):=by
 refine T.fO.F.aR K3 (λ_ _ _ _ H vs Q E hr h=>?_)
 ·obtain ⟨p,M,ns,a,x,rfl,ta,qt,hc,k⟩:=h
  obtain ⟨dx,cl,na,sp,mt,o,f,b⟩:=id ta;refine ⟨_,(Ze (Zj (i:=3) K3.nd Z (Or.inl Z) (Wk (pv 0) T.aj T.aM.m (U1 T) (hr.mono (by decide)) T.aM.b .nil Yr (Za (pv 1) Zb)))
   (Zi (Zw (Ux (Y2 Y7 (pcT (Jo T) hr T.aY (Za (pv 2) Zb)) (pcT (Jo T) hr T.aY (Za (pv 3) Zb)) (Zx _)) (Vk (Y2 Gj (pv 2) (pv 3) (Zx _))))))),?_⟩
  obtain ⟨ky,um⟩:=Bool.and_eq_true_iff.mp hc;have ky:=of_decide_eq_true ky;obtain ⟨m,hm⟩:=Option.isSome_iff_exists.mp um;have hal:a.toNat < M.length:=by lia
  have ha:M[a.toNat]?=some (some m):=by rw [Ae,Ad hal] at hm; rw [Ad hal]; exact congrArg some hm
  have ef:Ws M a x=(decide (x / 3=(m:Int) / 3) && !decide (x=(m:Int))):=by unfold Ws; rw [hm]
  rw [ef] at k;refine ⟨_,Z,p,dx,_,Z,b.ins,Wl _ _ _ _,_,Z,p,M,ns,a,Z,ta,qt,λi y e1 e2=>?_,λz=>absurd (show 0<=a/\a < (ns.length:Int) by lia) z⟩;have:i=a.toNat:=by lia
  subst this;rw [ha] at e2;cases e2;refine ⟨_,Z,_,Z,_,Z,_,Z,Z,_,Z,?_⟩;have dI:∀ u v:Int,decide (V.int u=V.int v)=decide (u=v):=λu v=>by
   by_cases z:u=v
   ·subst z; simp
   ·rw [decide_eq_false z,decide_eq_false (λy=>z (by injection y))]
  rw [dI];by_cases z:x / 3=(m:Int) / 3
  ·rw [decide_eq_true z] at k ⊢
   refine iteT ⟨_,Z,_,Z,Z,?_⟩;show Q (.bl (!decide (V.int x=V.int (m:Int)))) H;rw [dI];exact k
  ·rw [decide_eq_false z] at k ⊢
   exact iteF k
def Zjh:FnScope ["tent","word"] ["tent","word"] (Zg Zez):=An
def Zjy (T:Txt w K mg t):FnOk P w K mg base (CXr P w) 5 t.gM t.gR ["tent","word"] (Zjg t.ac):=by
  refine T.gV.F.aR Zjh (λ_ _ _ _ H vs Q E hr h=>?_)
  · obtain ⟨p,a,M,ns,ws,rfl,ta,qt,ha,hl,k⟩:=h
    refine ⟨_,(Ze (Ym (PW.pt (Q5 (Wt (Vu (pv 1) (λ_=>rfl))) (Qn (Wt (Jt (Zs (Kv Z) (by rfl) T.iq PyProof.Rows.boot_all (Za (Wg (ts:=["place"]) (fv:=[("tent",0)]) ⟨rfl,by decide +kernel,by decide +kernel,Yy (by rfl),⟨⟨rfl,rfl,Or.inl rfl⟩,trivial⟩⟩ rfl (Xf (pv 1)) (λ_ _ _ _=>(Z0 (i:=0) (show List.Nodup (["place","tent"]:List Str) from by decide +kernel) rfl (Or.inl rfl) (Or.inr rfl))) (λ_ _ _ _=>Y8) (λ_ _ _=>rfl) (λ_ _ _ _ _ _=>Xt (pcT (Zc7 T) hr T.dD (Za (pv 1) (Za (pv 0) Zb))))) Zb))))))) (Zi (Zw Gi)) Yc)
      (Zi (Zw (Zs (Kv rfl) (by rfl) T.iq PyProof.Rows.boot_all (Za (Wg (ts:=["ahead","place"]) (fv:=[("tent",0)]) ⟨rfl,by decide +kernel,by decide +kernel,Yy (by rfl),⟨⟨rfl,rfl,Or.inl rfl⟩,trivial⟩⟩ rfl (Zne rfl T.iS (Za (pv 1) (Za (pcT (Zh3 T) hr T.gA (Za (pv 1) (Za Zd Zb))) Zb))) (λ_ _ _ _=>(Fh (n:=2) K rfl (Xo (Z0 (i:=0) (show List.Nodup (["ahead","place","tent"]:List Str) from by decide +kernel) rfl (Or.inl rfl) (Or.inr rfl)) (Xo (Z0 (i:=1) (show List.Nodup (["ahead","place","tent"]:List Str) from by decide +kernel) rfl (Or.inl rfl) (Or.inr rfl)) Qd)))) (λ_ _ _ _=>Y8) (λ_ _ _=>rfl) (λ_ _ _ _ _ _=>Xt (pcT (Zgc T) hr T.fO (Za (pv 2) (Za (pv 0) (Za (pv 1) Zb)))))) Zb))))),?_⟩;refine Zv λnxC i8=>?_;refine ⟨_,Z,_,.inl ⟨_,SqL.of ha,Z⟩,?_⟩;by_cases jo:ws=[]
    · subst jo
      exact iteT (k _ (Same.refl _))
    · have e:(!(ws.map V.int).isEmpty)=true:=by cases ws with | nil=>exact absurd rfl jo | cons _ _=>rfl
      have e':(!ws.isEmpty)=true:=by cases ws with | nil=>exact absurd rfl jo | cons _ _=>rfl
      have hp:0 < ws.length:=by cases ws with | nil=>exact absurd rfl jo | cons _ _=>simp
      rw [e];refine iteF ?_;refine ⟨_,Z,a,Z,⟨_,SqL.of ha⟩,λD hD=>?_⟩;refine Y3 (xs:=ws.map V.int) (λi σ H1=>∃ v,σ=[v,some (.ref p)]/\Same H H1/\H1 D=some (.lst (((ws.take i).map (Wb M)).map V.bl))) ⟨none,Z,Same.new hD,Zc⟩ ?_ ?_ ?_
      · rintro i σ H1 _ ⟨v,rfl,sm,h1⟩
        exact SqL.of (sm _ _ ha)
      · rintro i x σ H1 hx ⟨v,rfl,sm,h1⟩
        obtain ⟨y,hy,rfl⟩:=Y1 hx;dsimp only [Z2,tYes];rw [if_pos rfl];refine ⟨_,Z,_,Z,p,M,ns,y,Z,ta.same sm,qt,_,h1,?_,_,Z,Same.add sm hD,?_⟩
        · rw [Ac,Ac,Aj,sizeLine_eq]; lia
        · rw [Zc,Ax,hy,Ak,Ak]; rfl
      rintro σ H1 ⟨v,rfl,s1,h1⟩;rw [Ac,List.take_length] at h1;refine ⟨D,_,Z,SqL.of h1,_,Z,?_⟩;by_cases hc:(ws.map (Wb M)).all id=true
      · rw [hc]
        refine iteF ?_;dsimp only [Vp];refine i8 _ _ ?_;refine ⟨_,Z,_,Z,a,ws,1,Z,s1 _ _ ha,hl,λtl H2 s2 htl h2=>?_⟩;have kf:=s1.trans s2;have et:Oa ws 1=rot ws (1 % ws.length):=by
          unfold Oa
          congr 1
        rw [et] at h2;have hrl:(rot ws (1 % ws.length)).length=ws.length:=Fe ws (Nat.le_of_lt (Nat.mod_lt _ hp));have hcr:∀ y∈ws,Wb M y=true:=λy hy=>List.all_eq_true.mp hc _ (List.mem_map.mpr ⟨y,hy,rfl⟩);have ep:Wu M ws=(W8 M ws (rot ws (1 % ws.length))).all id:=by unfold Wu; rw [e',hc]; rfl
        have k':=λH' s'=>k H' s';rw [ep] at k';generalize rot ws (1 % ws.length)=vs at h2 hrl k';refine ⟨a,tl,_,_,Z,SqL.of (kf _ _ ha),SqL.of h2,λD2 mh=>?_⟩;refine Zj7 (xs:=ws.map V.int) (ys:=vs.map V.int) (by rw [Ac,Ac,hrl]) (λi σ H3=>∃ v v',σ=[v,v',some (.ref p)]/\Same H2 H3/\H3 D2=some (.lst (((W8 M ws vs).take i).map V.bl))) ⟨none,none,Z,Same.new mh,Zc⟩ ?_ ?_ ?_
        · rintro i σ H3 _ ⟨v,v',rfl,s3,h3⟩
          exact ⟨SqL.of (s3 _ _ (kf _ _ ha)),SqL.of (s3 _ _ h2)⟩
        · rintro i x y σ H3 q hx hy hq ⟨v,v',rfl,s3,h3⟩
          obtain ⟨x',kj,rfl⟩:=Y1 hx;obtain ⟨y',pe,rfl⟩:=Y1 hy;have s4:Same H3 (upd H3 q (.tup [V.int x',V.int y'])):=Same.new hq;refine ⟨q,_,Z,SqT.of Zc,Z,_,_,Z,_,_,Z,Z,?_⟩;dsimp only [tYes];rw [if_pos rfl];refine ⟨_,Z,_,Z,_,Z,p,M,ns,x',y',Z,((ta.same kf).same s3).same s4,qt,hcr x' (Av kj),_,s4 _ _ h3,?_,_,_,Z,Same.add (s3.trans s4) mh,?_⟩
          · rw [Ac,Aj]
            have:(W8 M ws vs).length<=ws.length:=by unfold W8; rw [Ac,List.length_zip]; lia
            rw [sizeLine_eq]; lia
          · have:(W8 M ws vs)[i]?=some (Ws M x' y'):=by
              unfold W8;rw [Ai,List.getElem?_zip_eq_some (z:=(x',y')) |>.mpr ⟨kj,pe⟩];rfl
            rw [Zc,Ax,this,Ak];rfl
        rintro σ H3 ⟨v,v',rfl,s3,h3⟩;have ju:(W8 M ws vs).length=ws.length:=by unfold W8; rw [Ac,List.length_zip]; lia
        rw [Ac,List.take_of_length_le (Nat.le_of_eq ju)] at h3;exact ⟨D2,_,Z,SqL.of h3,k' _ (kf.trans s3)⟩
      · have hc:(ws.map (Wb M)).all id=false:=by rw [Bool.eq_false_iff]; exact hc
        rw [hc];have ep:Wu M ws=false:=by unfold Wu; rw [hc]; simp
        have:=k _ s1;rw [ep] at this;exact iteT this
def G7:FnScope ["tent","word"] ["tent","word"] (Zg V9):=An
def Fi (T:Txt w K mg t):FnOk P w K mg base (CXr P w) 6 t.b8 t.cg ["tent","word"] (G3 t.ac t.cr):=by
 refine T.cn.F.aX G7 (λ_ _ _ _ H vs Q E hr h=>?_)
 ·obtain ⟨p,a,M,ns,ws,rfl,ta,qt,ha,hl,k⟩:=h
  refine ⟨_,(Yd (Jv (Wt (Jt (pcT (Zjy T) hr T.gV (Za (pv 0) (Za (pv 1) Zb))))) (Yd (Ju T.gK FBV Z T.gI Z (Za Zl Zb))) Je)),?_⟩;refine ⟨_,Z,_,Z,p,a,M,ns,ws,Z,ta,qt,ha,hl,λH' s'=>⟨_,Z,?_⟩⟩;obtain ⟨k1,k2⟩:=k H' s'
  cases e:Wu M ws with
  | true=>exact iteF (k1 e)
  | false=>exact iteT ⟨by decide,k2 e⟩
def R2 (H:Hp) (p st:Addr):Hp:=λb=>if b=p\/b=st then none else H b
def R2.at {H:Hp} {p st b:Addr} {u:HO} (e:H b=some u) (h1:b≠p) (h2:b≠st):R2 H p st b=some u:=by
 unfold R2;rw [if_neg (λz=>z.elim h1 h2)];exact e
def R2.le {H:Hp} {p st b:Addr} {u:HO} (e:R2 H p st b=some u):b≠p/\b≠st/\H b=some u:=by
 unfold R2 at e;by_cases z:b=p\/b=st
 ·rw [if_pos z] at e; cases e
 ·rw [if_neg z] at e; exact ⟨λy=>z (.inl y),λy=>z (.inr y),e⟩
def R2.out {H:Hp} {p st b:Addr} (h:b=p\/b=st):R2 H p st b=none:=by unfold R2; rw [if_pos h]
def Fb {H H':Hp} {p st:Addr} (s:Same H H') (h1:H p=none) (h2:H st=none):Same H (R2 H' p st):=λb u e =>
 R2.at (s b u e) (λz=>by rw [z,h1] at e; cases e) (λz=>by rw [z,h2] at e; cases e)
def G2.same {H H':Hp} {st:Addr} {ds:List Str} (h:G2 H st ds) (s:Same H H'):G2 H' st ds:=by
 obtain ⟨qs,d1,d2,d3⟩:=h;exact ⟨qs,s _ _ d1,d2,λi q x hq hx=>(d3 i q x hq hx).imp λv hv=>s _ _ hv⟩
structure HL (CT CS CH:Addr) (H H0:Hp) (p dx be sc st un jf te wo:Addr) (th po:V) (M:List (Option Nat)) (ns:List Int) (kv:List (Key × V)) (ds:List Str):Prop where
 ins:H p=some (.ins CH dx (Xi be sc st un))
 sta:G2 H st ds
 low:Same H0 H
 np:H0 p=none
 nst:H0 st=none
 scn:H0 sc=some (.ins CS jf (Xw (.ref te) th po (.ref wo)))
 wor:H0 wo=some (.dK kv)
 ten:Yu CT H0 te M ns
 asc:∀ x∈ds,Asc x
def HLA (CT CS CH:Addr) (H H0:Hp) (p:Addr) (M:List (Option Nat)) (ns:List Int) (kv:List (Key × V)) (ds:List Str):Prop:=∃ (dx be sc st un jf te wo:Addr) (th po:V),HL CT CS CH H H0 p dx be sc st un jf te wo th po M ns kv ds
def HL.same {CT CS CH:Addr} {H H' H0:Hp} {p dx be sc st un jf te wo:Addr} {th po:V} {M:List (Option Nat)} {ns:List Int} {kv:List (Key × V)} {ds:List Str} (B:HL CT CS CH H H0 p dx be sc st un jf te wo th po M ns kv ds) (s:Same H H'):HL CT CS CH H' H0 p dx be sc st un jf te wo th po M ns kv ds :=
 ⟨s _ _ B.ins,B.sta.same s,B.low.trans s,B.np,B.nst,B.scn,B.wor,B.ten,B.asc⟩
def HL.more {CT CS CH:Addr} {H H' H0:Hp} {p dx be sc st un jf te wo:Addr} {th po:V} {M:List (Option Nat)} {ns:List Int} {kv:List (Key × V)} {ds:List Str} (B:HL CT CS CH H H0 p dx be sc st un jf te wo th po M ns kv ds) (s:Same H H'):Same H0 (R2 H' p st)/\HL CT CS CH H' (R2 H' p st) p dx be sc st un jf te wo th po M ns kv ds/\∀ b u,H' b=some u->H b=none->R2 H' p st b=some u:=by
 have s0:Same H0 (R2 H' p st):=Fb (B.low.trans s) B.np B.nst;obtain ⟨qs,d1,_⟩:=B.sta;refine ⟨s0,⟨s _ _ B.ins,B.sta.same s,λb u e=>(R2.le e).2.2,R2.out (.inl Z),R2.out (.inr Z),s0 _ _ B.scn,s0 _ _ B.wor,B.ten.same s0,B.asc⟩,λb u e e0=>R2.at e (λz=>?_) (λz=>?_)⟩
 ·rw [z,B.ins] at e0; cases e0
 ·rw [z,d1] at e0; cases e0
def HL.entered {CT CS CH:Addr} {H H0 H8 H9:Hp} {p dx be sc st un jf te wo jy jp mq q ke:Addr} {th po p4 yj:V} {qs:List Addr} {M:List (Option Nat)} {ns:List Int} {kv uk:List (Key × V)} {ds:List Str} {x:Str} {v:V} (B:HL CT CS CH H H0 p dx be sc st un jf te wo th po M ns kv ds) (d1:H st=some (.lst (qs.map V.ref))) (d2:qs.length=ds.length) (d3:∀ (i:Nat) (q:Addr) (x:Str),qs[i]?=some q->ds[i]?=some x->∃ v,H q=some (.tup [.str x,v])) (s:Same H H8) (hs:R2 H8 p st jy=some (.ins CS jp (Xw (.ref te) p4 yj (.ref mq)))) (hw:R2 H8 p st mq=some (.dK uk)) (hx:Asc x) (o9:∀ b u,b≠p->b≠st->H8 b=some u->H9 b=some u)
  (p9:H9 p=some (.ins CH dx (Xi be jy st ke))) (u4:H9 st=some (.lst (qs.map V.ref ++ [.ref q]))) (q9:H9 q=some (.tup [.str x,v])):Same H0 (R2 H8 p st)/\HLA CT CS CH H9 (R2 H8 p st) p M ns uk (ds ++ [x]):=by
 have s0:Same H0 (R2 H8 p st):=Fb (B.low.trans s) B.np B.nst;refine ⟨s0,dx,be,jy,st,ke,jp,te,mq,p4,yj,p9,⟨qs ++ [q],by rw [u4,Ak]; rfl,by rw [Af,Af,d2]; rfl,λi z y hz hy=>?_⟩,λb u e=>o9 b u (R2.le e).1 (R2.le e).2.1 (R2.le e).2.2,R2.out (.inl rfl),R2.out (.inr rfl),hs,hw,B.ten.same s0,λy hy=>?_⟩
 ·by_cases c:i < qs.length
  ·rw [Aw c] at hz
   rw [Aw (by lia)] at hy;obtain ⟨v,hv⟩:=d3 i z y hz hy;exact ⟨v,o9 _ _ (λe=>by rw [e,B.ins] at hv; cases hv) (λe=>by rw [e,d1] at hv; cases hv) (s _ _ hv)⟩
  ·have hi:i=qs.length:=by
    have:=(Aa hz).1;rw [Af,Au] at this;lia
   subst hi;rw [List.getElem?_append_right (Ao _),Nat.sub_self] at hz;rw [List.getElem?_append_right (by lia),d2,Nat.sub_self] at hy;cases hz;cases hy;exact ⟨_,q9⟩
 ·rcases List.mem_append.mp hy with z | z
  ·exact B.asc y z
  ·rw [Ag z]; exact hx
def Znz {be sc st un cl na sp mt:Addr}:Xi be sc st un≠Xx cl na sp mt:=λe=>by
 have e1:(Xi be sc st un).map (·.1)=(Xx cl na sp mt).map (·.1):=by rw [e]
 have e2:(Xi be sc st un).map (·.1)=(Xi 0 0 0 0).map (·.1):=rfl;have e3:(Xx cl na sp mt).map (·.1)=(Xx 0 0 0 0).map (·.1):=rfl;rw [e2,e3] at e1;exact absurd e1 (by decide)
def Gs {α:Type} {g:α->V} {xs:List α} (h:xs≠[]):HO.lst (xs.map g)≠.lst []:=λe=>by
 injection e with e
 exact h (List.map_eq_nil_iff.mp e)
def Zn8 {M:List (Option Nat)} {ns:List Int} (td:TD M ns):ns≠[]:=λz=>by
 obtain ⟨n,h1,_,h2⟩:=td.n;have:=td.len;rw [z,List.length_nil] at this;lia
def HallNew.hl {CT CS CH:Addr} {H H1:Hp} {p dx be sc st un jf th po wo:Addr} {M:List (Option Nat)} {ns ks:List Int} (td:TD M ns) (h:HallNew CT CS CH H p M ns dx be sc st un jf th po wo ks) (s:∀ b u,b≠p->H1 b=some u->H b=some u) (h1:H1 p=none) (h2:H1 st=none):∃ aw,Same H1 (R2 H p st)/\R2 H p st th=some (.dK [])/\R2 H p st po=some (.dK [])/\HL CT CS CH H (R2 H p st) p dx be sc st un jf be wo (.ref th) (.ref po) M ns (wD ks aw) []:=by
 have jo:=Zn8 td;have kp:∀ {b:Addr} {u:HO},H b=some u->(∀ C d f,u≠.ins C d f)->u≠.lst []->R2 H p st b=some u:=λ{b u} e c1 c2=>R2.at e (λz=>by rw [z,h.ins] at e; exact c1 _ _ _ (Ay e).symm) (λz=>by rw [z,h.sta] at e; exact c2 (Ay e).symm);have ki:∀ {b C d:Addr} {f:List (Str × V)},H b=some (.ins C d f)->(∀ be sc st un,f≠Xi be sc st un)->R2 H p st b=some (.ins C d f):=λ{b C d f} e c=>R2.at e (λz=>by
  rw [z,h.ins] at e
  injection e with e
  injection e with _ _ e
  exact c _ _ _ _ e.symm) (λz=>by rw [z,h.sta] at e; cases e)
 obtain ⟨dt,cl,na,sp,mt,o,f,B⟩:=h.tent;obtain ⟨ts,r1,r2,r3⟩:=B.rows;obtain ⟨aw,w1,w2⟩:=h.wor;refine ⟨aw,λb u e=>R2.at (s b u (λz=>by rw [z,h1] at e; cases e) e) (λz=>by rw [z,h1] at e; cases e) (λz=>by rw [z,h2] at e; cases e),kp h.thr (λ_ _ _ z=>nomatch z) (λz=>nomatch z),kp h.poo (λ_ _ _ z=>nomatch z) (λz=>nomatch z),h.ins,⟨[],h.sta,rfl,λi q x hq=>by cases hq⟩,λb u e=>(R2.le e).2.2,R2.out (.inl rfl),R2.out (.inr rfl),ki h.scn ?_,kp w1 (λ_ _ _ z=>nomatch z) (λz=>nomatch z),?_,λx hx=>by cases hx⟩
 ·intro be sc st un e
  have e1:=congrArg (List.map (·.1)) e;have e2:(Xi be sc st un).map (·.1)=(Xi 0 0 0 0).map (·.1):=rfl;rw [e2] at e1;exact absurd e1 (by show (Xw (.int 0) (.int 0) (.int 0) (.int 0)).map (·.1)≠_; decide)
 ·refine ⟨dt,cl,na,sp,mt,o,f,ki B.ins (λ_ _ _ _=>(Znz).symm),⟨ts,kp r1 (λ_ _ _ z=>nomatch z) (Gs λz=>?_),r2,λk q e=>kp (r3 k q e) (λ_ _ _ z=>nomatch z) (λz=>nomatch z)⟩,kp B.names (λ_ _ _ z=>nomatch z) (Gs jo),kp B.spots (λ_ _ _ z=>nomatch z) (λz=>nomatch z),kp B.mates (λ_ _ _ z=>nomatch z) (Gs λz=>?_),λy hy=>kp (B.at' y hy) (λ_ _ _ z=>nomatch z) (Gs λz=>?_)⟩
  ·rw [z,List.length_nil] at r2
   exact jo (List.eq_nil_of_length_eq_zero r2)
  ·have:=td.len
   have z:M=[]:=z;rw [z] at this;exact jo (List.eq_nil_of_length_eq_zero this)
  ·obtain ⟨i,hi,hx⟩:=Wh.mp hy
   have:=Y9.mpr ⟨hi,hx⟩;rw [z] at this;cases this
def Zd5 (CT CS CH:Addr):Sp:=λvs H Q _=>∃ (p a dx be sc st un jf te wo th po:Addr) (x:Str) (H0:Hp) (M:List (Option Nat)) (ns:List Int) (kv:List (Key × V)) (ds:List Str) (ws:List Nat),vs=[.ref p,.str x,.ref a]/\HL CT CS CH H H0 p dx be sc st un jf te wo (.ref th) (.ref po) M ns kv ds/\H0 th=some (.dK [])/\H0 po=some (.dK [])/\TD M ns/\ns.length<=1000/\ds.length<=800/\Asc x/\x.length<=900/\isN x=true/\H a=some (.lst (ws.map nV))/\ws.length<=400/\Pl M ws /\
 ∀ H' qu r,Same H0 qu->HLA CT CS CH H' qu p M ns kv (ds ++ [r])->Q .non H'
def Za2 (CT CS CH:Addr):Sp:=λvs H Q _=>∃ (p:Addr) (x:Int) (m n:Nat) (H0:Hp) (M:List (Option Nat)) (ns:List Int) (kv:List (Key × V)) (ds:List Str),vs=[.ref p,.int x,.int m,.int n]/\HLA CT CS CH H H0 p M ns kv ds/\TD M ns/\ds.length<=800/\kv.length<=900/\x∈keys ns ns.length/\Y5 ns x≠"rim"/\1<=m/\1<=n/\m<=100/\n<=100 /\
 ∀ H' qu uk r,Same H0 qu->HLA CT CS CH H' qu p M ns uk (ds ++ [r])->Q .non H'
def Os (CT CS CH:Addr):Sp:=λvs H Q _=>∃ (p:Addr) (H0:Hp) (M:List (Option Nat)) (ns:List Int) (kv:List (Key × V)) (ds:List Str),vs=[.ref p]/\HLA CT CS CH H H0 p M ns kv ds /\
 ∀ (l:Addr) (ts:List Addr),H l=none->ns.length=3 * ts.length->(∀ (k:Nat) (t:Addr),ts[k]?=some t->H t=some (.tup (row3 ns k)))->Q (.ref l) (upd H l (.lst (ts.map V.ref)))
def Ou:FnScope ["self"] ["self"] (Zg Qm):=An
def Ow (T:Txt w K mg t):FnOk P w K mg base (CXr P w) 2 t.bi t.bt ["self"] (Os t.ac t.ah t.ag):=by
 refine T.au.F.aR Ou (λ_ _ _ _ H vs Q E hr h=>?_)
 ·obtain ⟨p,H0,M,ns,kv,ds,rfl,⟨dx,be,sc,st,un,jf,te,wo,th,po,B⟩,k⟩:=h
  refine ⟨_,(Zi (Zw (X5 (Ye (Ye (pv 0) Z) Z) T.aj T.bV.m (Zc9 T) (hr.mono (by decide)) T.bV.b .nil Yr))),?_⟩;obtain ⟨dt,cl,na,sp,mt,o,f,BT⟩:=id (B.ten.same B.low);exact ⟨_,Z,p,_,dx,_,.ref sc,Z,B.ins,T.ai,T.aD,Z,sc,_,jf,_,.ref te,Z,B.low _ _ B.scn,T.ao,T.aC,Z,te,dt,_,Z,BT.ins,Wl _ _ _ _,te,M,ns,Z,B.ten.same B.low,k⟩
def Vf:FnScope ["self","name","word","now","threads"] ["self","name","word"] (Zg Gd):=An
def Zen (T:Txt w K mg t):FnOk P w K mg base (CXr P w) 7 t.dZ t.eF ["self","name","word"] (Zd5 t.ac t.ah t.ag):=by
 refine T.cu.F.aR Vf (λ_ _ _ _ H vs Q E hr h=>?_)
 ·obtain ⟨p,a,dx,be,sc,st,un,jf,te,wo,th,po,x,H0,M,ns,kv,ds,ws,rfl,B,mr,ng,td,nj,hS,hx,hxz,e1,ha,rg,hP,k⟩:=h
  have hu:=Qa hr;have Bs:=B.low _ _ B.scn;have BT:=B.ten.same B.low;refine ⟨_,(Ze (Zj (i:=3) Vf.nd Z (Or.inl Z) (Ye (pv 0) Z))
   (Ze (Yw (pcT (Ko T) hr T.bM (Za (pv 3) (Za (pv 1) Zb))))
   (Ze (Yw (pcT (Fi T) hr T.cn (Za (Ye (pv 3) rfl) (Za (pv 2) Zb))))
   (Ze (Yw (pcT (Fj T) hr T.cq (Za (pv 2) Zb)))
   (Ze (Zj (i:=4) Vf.nd rfl (Or.inl rfl) (pcT (Uy T) hr T.bW (Za (Ye (pv 3) rfl) (Za (pv 1) (Za (Xj Wq (by rfl) T.cX PySem.Pv.boot_list (Za (pv 2) Zb)) Zb)))))
   (Zi (Yw (Wk (pv 0) T.ai T.aJ.m (Ud T) (hr.mono (by decide)) T.aJ.b .nil Yr (Za (pcT (Zef T) hr T.eY (Za (Zk Y0 (Ya (Za Zl (Za (pv 1) Zb))) (pv 2)) Zb)) (Za (Qe T.fb (Jz T) (hr.mono (by decide)) rfl T.eU T.aS.b .nil Yr (Za (Ye (pv 3) rfl) (Za (pv 4) (Za (Ye (pv 3) rfl) (Za (Ye (pv 3) rfl) Zb))))) Zb)))))))))),?_⟩
  refine ⟨_,Z,p,_,dx,_,.ref sc,Z,B.ins,T.ai,T.aD,Z,?_⟩;refine ⟨_,rfl,_,rfl,sc,jf,th,po,_,_,x,[],λ_=>0,rfl,Bs,B.low _ _ mr,B.low _ _ ng,hx.all,hxz,e1,(λz=>by cases z),λH1 s1=>?_⟩;refine ⟨_,Z,sc,_,jf,_,.ref te,Z,s1 _ _ Bs,T.ao,T.aC,Z,_,Z,te,a,M,ns,wI ws,Z,BT.same s1,td.len.symm,(by rw [Zmu]; exact s1 _ _ ha),(by unfold wI; rw [Ac]; lia),λH2 s2=>⟨λ_=>?_,λe=>absurd (Zhs.mpr hP) (by rw [e]; decide)⟩⟩;have kf:=s1.trans s2;refine ⟨_,Z,a,_,Z,kf _ _ ha,by rw [Ac]; exact rg,?_⟩;have hx8:x.length<=16:=by
   unfold isN at e1
   rw [Bool.and_eq_true,Bool.and_eq_true,decide_eq_true_eq,decide_eq_true_eq] at e1
   lia
  have o8:∀ i∈ws,i < 1000:=λi hi=>by
   obtain ⟨m,hm⟩:=hP.has i hi;have:=(Aa hm).1;have:=td.len;lia
  refine ⟨_,Z,sc,_,jf,_,.ref th,Z,kf _ _ Bs,T.ao,T.aG,Z,_,Z,_,Z,a,_,Z,.inl (SqL.of (kf _ _ ha)),λw' xj=>?_⟩;have s3:Same H2 (upd H2 w' (.lst (ws.map nV))):=Same.new xj;generalize upd H2 w' (.lst (ws.map nV))=H3 at s3 ⊢;refine ⟨th,Sum.inr x,.ref w',[],Z,s3 _ _ (kf _ _ (B.low _ _ mr)),A0 _,λp4 hth'=>?_⟩;have s4:=Same.new (o:=.dK (putK [] (Sum.inr x) (V.ref w'))) hth';generalize upd H3 p4 (.dK (putK [] (Sum.inr x) (V.ref w')))=H4 at s4 ⊢;have uj:=kf.trans (s3.trans s4);have rp:=uj _ _ B.ins;refine ⟨_,Z,p,dx,_,Z,rp,Z,?_⟩;refine ⟨_,Z,(by show 2<=sizeLine; decide),λvb my=>?_⟩;have s5:Same H4 (upd H4 vb (.lst [V.str (Str.ofString "lay"),V.str x])):=Same.new my;have c5:(upd H4 vb (.lst [V.str (Str.ofString "lay"),V.str x])) vb=some (.lst [V.str (Str.ofString "lay"),V.str x]):=Zc;generalize upd H4 vb (.lst [V.str (Str.ofString "lay"),V.str x])=H5 at s5 c5 ⊢;refine ⟨_,Z,vb,a,_,_,Z,Z,c5,s5 _ _ (uj _ _ ha),by rw [Ac,sizeLine_eq]; show 2 + ws.length<=_; lia,λc hc=>?_⟩;have s6:=Same.new (o:=.lst ([V.str (Str.ofString "lay"),V.str x] ++ ws.map nV)) hc;refine ⟨c,[.inl (Str.ofString "lay"),.inl x] ++ ws.map (λi=>.inr (i:Int)),rfl,by rw [Zc,Ak,List.map_map]; rfl,by rw [Af,Ac]; show 2 + ws.length<=900; lia,λy hy=>?_,?_,λH7 s7=>?_⟩
  ·rcases List.mem_append.mp hy with z | z
   ·rcases As z with rfl | z
    ·exact True.intro
    ·rw [Ag z]; exact True.intro
   ·obtain ⟨i,hi,rfl⟩:=List.mem_map.mp z
    exact ⟨Int.natCast_nonneg _,Int.lt_trans (Int.ofNat_lt.mpr (o8 i hi)) (by decide)⟩
  ·have:=Zg7 (B:=60) (l:=[.inl (Str.ofString "lay"),.inl x] ++ ws.map (λi=>.inr (i:Int))) λy hy=>by
    rcases List.mem_append.mp hy with z | z
    ·rcases As z with rfl | z
     ·show (Str.ofString "lay").length<=60
      decide
     ·rw [Ag z]; exact Nat.le_trans hx8 (by decide)
    ·obtain ⟨i,hi,rfl⟩:=List.mem_map.mp z
     exact Zn0 (Int.natCast_nonneg _) (Int.lt_trans (Int.ofNat_lt.mpr (o8 i hi)) (by decide))
   have hl:([.inl (Str.ofString "lay"),.inl x] ++ ws.map (λi=>.inr (i:Int)):List (Str ⊕ Int)).length=2 + ws.length:=by rw [Af,Ac]; rfl
   rw [hl] at this ⊢;lia
  have ny:=uj.trans (s5.trans (s6.trans s7));have l6:=ny _ _ Bs;have oo:Asc (Txt.join (Str.ofString " ") (([.inl (Str.ofString "lay"),.inl x] ++ ws.map (λi=>.inr (i:Int)):List (Str ⊕ Int)).map wS)):=Zmn λy hy=>by
   rcases List.mem_append.mp hy with z | z
   ·rcases As z with rfl | z
    ·intro c hc; revert c hc; show ∀ c∈[108,97,121],c < 128; decide
    ·rw [Ag z]; exact hx
   ·obtain ⟨i,hi,rfl⟩:=List.mem_map.mp z; exact True.intro
  generalize Txt.join (Str.ofString " ") _=rr at oo ⊢;refine ⟨_,Z,sc,_,jf,_,.ref te,Z,l6,T.ao,T.aC,Z,_,Z,_,Z,sc,_,jf,_,.ref po,Z,l6,T.ao,T.aL,Z,_,Z,sc,_,jf,_,.ref wo,Z,l6,T.ao,T.aW,Z,?_⟩;intro jy jp k8 o3 hne';refine ⟨jy,jp,_,_,_,_,Z,Zc,Z,?_⟩;rw [Wc];have s8:Same H7 (upd (upd H7 jp (.own jy)) jy (.ins t.ah jp (Xw (.ref te) (.ref p4) (.ref po) (.ref wo)))):=Same.add (Same.new o3) k8;have c8:(upd (upd H7 jp (.own jy)) jy (.ins t.ah jp (Xw (.ref te) (.ref p4) (.ref po) (.ref wo)))) jy=some (.ins t.ah jp (Xw (.ref te) (.ref p4) (.ref po) (.ref wo))):=Zc;generalize upd (upd H7 jp (.own jy)) jy (.ins t.ah jp (Xw (.ref te) (.ref p4) (.ref po) (.ref wo)))=H8 at s8 c8 ⊢;have qi:=ny.trans s8;obtain ⟨qs,d1,d2,d3⟩:=B.sta;refine ⟨p,dx,be,sc,st,un,jy,rr,qs.map V.ref,Z,qi _ _ B.ins,qi _ _ d1,by rw [Ac]; lia,λq ke H9 hq kl o9 p9 u4 q9 u9=>?_⟩;obtain ⟨z1,z2⟩:=B.entered d1 d2 d3 qi (R2.at c8 (λz=>by rw [z,ny _ _ B.ins] at k8; cases k8) (λz=>by rw [z,ny _ _ d1] at k8; cases k8)) (Fb (B.low.trans qi) B.np B.nst _ _ B.wor) oo o9 p9 u4 q9;exact k H9 _ rr z1 z2
def Wj:FnScope ["self","seam","top","bottom","now","parts","worths","text"] ["self","seam","top","bottom"] (Zg Ur):=An
def Zbi (T:Txt w K mg t):FnOk P w K mg base (CXr P w) 3 t.cA t.cI ["self","seam","top","bottom"] (Za2 t.ac t.ah t.ag):=by
 refine T.bD.F.aR Wj (λ_ _ _ _ H vs Q E hr h=>?_)
 ·obtain ⟨p,x,m,n,H0,M,ns,kv,ds,rfl,⟨dx,be,sc,st,un,jf,te,wo,th,po,B⟩,td,hS,kz,hk,t6,hm,hn,qp,hn1,k⟩:=h
  have hu:=Qa hr;have Bs:=B.low _ _ B.scn;have C:=B.ten.same B.low;refine ⟨_,(Ze (Zj (i:=4) Wj.nd Z (Or.inl Z) (Ye (pv 0) Z))
   (Ze (Ym (Zy Y7 (Wk (Ye (pv 4) rfl) T.aj T.aB.m (Q7 T) (hr.mono (by decide)) T.aB.b .nil Yr (Za (pv 1) Zb)) Zl (Zx _)) X0 Yc)
   (Ze (Zj (i:=5) Wj.nd rfl (Or.inl rfl) (pcT (Zei T) hr T.eX (Za (pv 2) (Za (pv 3) Zb))))
   (Ze (Yw (pcT (Zbf T) hr T.cN (Za (pv 5) Zb)))
   (Ze (Zj (i:=6) Wj.nd rfl (Or.inl rfl) (pcT (Uy T) hr T.bW (Za (Ye (pv 4) rfl) (Za (pv 1) (Za (pv 5) Zb)))))
   (Ze (Zj (i:=7) Wj.nd rfl (Or.inl rfl) (Zm (Zf (Zq (pv 1) (Zf (Zq (Zt Qv (pv 5) Zd (λ_ _=>rfl)) (Zf (Zq (Zt Qv (pv 5) Zd (λ_ _=>rfl)) Zp))))))))
   (Zi (Yw (Wk (pv 0) T.ai T.aJ.m (Ud T) (hr.mono (by decide)) T.aJ.b .nil Yr (Za (pv 7) (Za (Qe T.fb (Jz T) (hr.mono (by decide)) rfl T.eU T.aS.b .nil Yr (Za (Ye (pv 4) rfl) (Za (Ye (pv 4) rfl) (Za (Ye (pv 4) rfl) (Za (pv 6) Zb))))) Zb))))))))))),?_⟩
  refine ⟨_,Z,p,_,dx,_,.ref sc,Z,B.ins,T.ai,T.aD,Z,?_⟩;obtain ⟨dt,cl,na,sp,mt,o,f,BT⟩:=id C;refine ⟨_,Z,sc,_,jf,_,.ref te,Z,Bs,T.ao,T.aC,Z,te,dt,_,Z,BT.ins,Wl _ _ _ _,_,Z,te,M,ns,x,Z,C,td,λ_ H1 s1=>?_,λz=>absurd hk z⟩;refine ⟨Z,_,Z,?_⟩;rw [decide_eq_false (λz=>t6 (by injection z))];refine iteF ?_;refine ⟨_,Z,_,Z,m,n,Z,λm' n' ea eb _ _=>?_,λz=>absurd z (by lia)⟩;have ea:m=m':=by lia
  have eb:n=n':=by lia
  subst ea eb;refine ⟨Znn hm (Nat.lt_of_le_of_lt qp (by decide +kernel)),λq hq=>?_⟩;have ut:=Zmd m n;have hlo1:(lowN m n).1<=100:=Nat.le_trans ut.1 qp;have hlo2:(lowN m n).2<=100:=Nat.le_trans ut.2 hn1;generalize lowN m n=v at *;have s2:Same H1 (upd H1 q (tp v)):=Same.new hq;have q2:(upd H1 q (tp v)) q=some (tp v):=Zc;generalize upd H1 q (tp v)=H2 at s2 q2 ⊢;have kf:=s1.trans s2;refine ⟨_,Z,q,v,Z,q2,by lia,by lia,?_⟩;refine ⟨_,Z,sc,_,jf,_,.ref wo,Z,kf _ _ Bs,T.ao,T.aW,Z,_,Z,_,Z,wo,Sum.inl x,.ref q,kv,Z,kf _ _ (B.low _ _ B.wor),kz,λmq wb=>?_⟩;have s3:Same H2 (upd H2 mq (.dK (putK kv (Sum.inl x) (V.ref q)))):=Same.new wb;have w3:(upd H2 mq (.dK (putK kv (Sum.inl x) (V.ref q)))) mq=some (.dK (putK kv (Sum.inl x) (V.ref q))):=Zc;generalize upd H2 mq (.dK (putK kv (Sum.inl x) (V.ref q)))=H3 at s3 w3 ⊢;have ny:=kf.trans s3;have q3:=s3 _ _ q2;obtain ⟨i,hi,rf⟩:=Wh.mp hk;have xr:=td.rng i x rf;have sm:∀ i:Int,0<=i->i<=9999->i.natAbs.log2 < 1920/\(toString i:Str).length<=60:=λi h0 h1=>⟨Nat.lt_trans (log2_lt (k:=14) (by show _ < 16384; lia) (by decide)) (by decide),Fn h0 (Int.lt_of_le_of_lt h1 (by decide))⟩;obtain ⟨x1,x2⟩:=sm x xr.1 xr.2;obtain ⟨a1,a2⟩:=sm v.1 (by lia) (by lia);obtain ⟨b1,b2⟩:=sm v.2 (by lia) (by lia);have l0:Str.empty.length=0:=rfl;have l1:(Str.ofString "weigh ").length=6:=by decide
  have l2:(Str.ofString " ").length=1:=by decide
  have l3:(Str.ofString "/").length=1:=by decide
  have ln:∀ {n:Nat},n<=1000->n<=sizeLine:=λh=>by rw [sizeLine_eq]; lia
  refine ⟨ln ?_,_,Z,x,Z,x1,ln ?_,ln ?_,_,Z,q,_,_,_,Z,Z,SqT.of q3,Z,v.1,Z,a1,ln ?_,ln ?_,_,Z,q,_,_,_,Z,Z,SqT.of q3,Z,v.2,Z,b1,ln ?_,ln ?_,?_⟩
  iterate 7
   ·simp only [Str.length_append]
    lia
  try dsimp only [Z2]
  have la:∀ y:Str,(∀ c∈y.cps.toList,c < 128)->Asc y:=λy h=>h;have oo:Asc (Str.empty ++ Str.ofString "weigh " ++ Str.ofString (toString x) ++ Str.ofString " " ++ Str.ofString (toString (v.1:Int)) ++ Str.ofString "/" ++ Str.ofString (toString (v.2:Int))):=((((((la _ (by decide)).app (la _ (by decide))).app (Asc.num x)).app (la _ (by decide))).app (Asc.num _)).app (la _ (by decide))).app (Asc.num _);generalize Str.empty ++ Str.ofString "weigh " ++ Str.ofString (toString x) ++ Str.ofString " " ++ Str.ofString (toString (v.1:Int)) ++ Str.ofString "/" ++ Str.ofString (toString (v.2:Int))=rr at oo ⊢;have l6:=ny _ _ Bs;refine ⟨_,Z,p,dx,_,Z,ny _ _ B.ins,Z,?_⟩;refine ⟨_,Z,_,Z,sc,_,jf,_,.ref te,Z,l6,T.ao,T.aC,Z,_,Z,sc,_,jf,_,th,Z,l6,T.ao,T.aG,Z,_,Z,sc,_,jf,_,po,Z,l6,T.ao,T.aL,Z,_,Z,?_⟩;intro jy jp k8 o3 hne';refine ⟨jy,jp,_,_,_,_,Z,Zc,Z,?_⟩;rw [Wc];have s8:Same H3 (upd (upd H3 jp (.own jy)) jy (.ins t.ah jp (Xw (.ref te) th po (.ref mq)))):=Same.add (Same.new o3) k8;have c8:(upd (upd H3 jp (.own jy)) jy (.ins t.ah jp (Xw (.ref te) th po (.ref mq)))) jy=some (.ins t.ah jp (Xw (.ref te) th po (.ref mq))):=Zc;generalize upd (upd H3 jp (.own jy)) jy (.ins t.ah jp (Xw (.ref te) th po (.ref mq)))=H8 at s8 c8 ⊢;have qi:=ny.trans s8;obtain ⟨qs,d1,d2,d3⟩:=B.sta;have nw:∀ {HX:Hp} {b:Addr} {u:HO},Same H HX->HX b=none->H8 b=some u->R2 H8 p st b=some u:=λ{HX b u} sx hb e=>R2.at e (λz=>by rw [z,sx _ _ B.ins] at hb; cases hb) (λz=>by rw [z,sx _ _ d1] at hb; cases hb);refine ⟨p,dx,be,sc,st,un,jy,rr,qs.map V.ref,Z,qi _ _ B.ins,qi _ _ d1,by rw [Ac]; lia,λq ke H9 hq kl o9 p9 u4 q9 u9=>?_⟩;obtain ⟨z1,z2⟩:=B.entered d1 d2 d3 qi (nw ny k8 c8) (nw kf wb (s8 _ _ w3)) oo o9 p9 u4 q9;exact k H9 _ _ rr z1 z2
def rowD (ns:List Int) (k:Nat):PyData:=.tuple [.int (ns.getD (3 * k) 0),.int (ns.getD (3 * k + 1) 0),.int (ns.getD (3 * k + 2) 0)]
theorem Zit {K:W.Frag} {H:Hp}:∀ {vs:List V} {ds:List PyData},vs.length=ds.length->(∀ (i:Nat) v d,vs[i]?=some v->ds[i]?=some d->DV K H v d)->DVs K H vs ds
 | [],[],_,_=>.nil
 | [],_ :: _,h,_=>nomatch h
 | _ :: _,[],h,_=>nomatch h
 | v :: vs,d :: ds,h,k=>.cons (k 0 v d rfl rfl) (Zit (by simpa using h) λi v' d' e1 e2=>k (i + 1) v' d' e1 e2)
def Ze1 {K:W.Frag} {H:Hp} {r:Addr} {ns:List Int} (h:Xa H r ns):DV K H (.ref r) (.list ((List.range (ns.length / 3)).map (rowD ns))):=by
 obtain ⟨ts,h1,h2,h3⟩:=h;refine .lst (SqL.of h1) (Zit (by rw [Ac,Ac,List.length_range,h2]; lia) λi v d e1 e2=>?_);obtain ⟨q,hq,rfl⟩:=Y1 e1;have hi:i < ts.length:=(Aa hq).1;rw [Ai,List.getElem?_range (by lia)] at e2;cases e2;exact .tup (SqT.of (h3 i q hq)) (.cons (.int _) (.cons (.int _) (.cons (.int _) .nil)))
theorem Zcr (ns:List Int):∀ l:List Nat,PyData.canLayAll0 (l.map (rowD ns))=true/\PyData.depthAll (l.map (rowD ns))<=3
 | []=>⟨by simp [PyData.canLayAll0],by simp [PyData.depthAll]⟩
 | d :: ds=>by
  obtain ⟨h1,h2⟩:=Zcr ns ds;refine ⟨?_,?_⟩
  ·simp only [List.map_cons,PyData.canLayAll0,h1,rowD,PyData.canLay0,Bool.and_self]
  ·simp only [List.map_cons,PyData.depthAll,rowD,PyData.depth]; lia
def Zeb (ns:List Int) (l:List Nat):SeqAt.shaped (.list (l.map (rowD ns)))=true:=by
 obtain ⟨h1,h2⟩:=Zcr ns l;unfold SeqAt.shaped;rw [Bool.and_eq_true,decide_eq_true_eq];refine ⟨by simp only [PyData.canLay0]; exact h1,?_⟩;simp only [PyData.depth];lia
def Zn6 {L:List Str} {n:Nat} (hn:L.length=n) (h0:0 < n) (y:Int):∃ x∈L,atI (L.map V.str) (y % (n:Int))=some (V.str x):=by
 have k0:=Int.emod_nonneg y (show (n:Int)≠0 by lia);have k1:=Int.emod_lt_of_pos y (show (0:Int) < n by lia);obtain ⟨j,hj⟩:∃ j:Nat,y % (n:Int)=j:=⟨_,(Int.toNat_of_nonneg k0).symm⟩;have vf:j < L.length:=by lia
 exact ⟨L[j],List.getElem_mem vf,by rw [hj]; exact Yp (Ad vf)⟩
structure AllBad (x t:Str):Prop where
 as:Asc x
 le:x.length<=890
 ba:BadA x
 r1:RdX x
 r2:RdX (t ++ Str.ofString "\n" ++ x)
 r3:RdX (x ++ Str.ofString "\n" ++ t)
def txtC (s:Int):Str:=Str.empty ++ Str.ofString "cloth " ++ nmS s ++ Str.ofString " " ++ nmS (s + 1) ++ Str.ofString " " ++ nmS (s + 2)
def U4 {f:Nat->List Nat} (x:Str):x=txI f (litI x):=(Zbp x).symm
def Znq:∀ nm∈nmF,nm.cps.toList.length<=62:=by decide +kernel
def Zku (s p:Int):txtC s=txI (gN s p) tI:=by
 have e0:nmS s=txI (gN s p) [.inr 0]:=by unfold txI catI catI; rw [List.append_nil]; rfl
 have e1:nmS (s + 1)=txI (gN s p) [.inr 1]:=by unfold txI catI catI; rw [List.append_nil]; rfl
 have e2:nmS (s + 2)=txI (gN s p) [.inr 3]:=by unfold txI catI catI; rw [List.append_nil]; rfl
 unfold txtC;rw [U4 (f:=gN s p) (Str.ofString "cloth "),U4 (f:=gN s p) (Str.ofString " "),e0,e1,e2,U4 (f:=gN s p) Str.empty];rw [X7,X7,X7,X7,X7,X7];rfl
def Zmq {s p:Int} (hs:0<=s/\s<=9999) (hp:0<=p/\p<=9999) {nm:Str} (hn:nm∈nmF) {ps:List FPt} (h:ps∈oPs ++ oCs):AllBad (txI (fB s p nm.cps.toList) (itF ps)) (txtC s):=by
 have F:=Zk5 hs hp;have c:=List.all_eq_true.mp (List.all_eq_true.mp Zmp nm hn) ps h;have e:txI (fB s p nm.cps.toList) (itF ps)=txI (gN s p) (exI nm.cps.toList (itF ps)):=by unfold txI; rw [Zix]
 rw [e,Zku s p];generalize exI nm.cps.toList (itF ps)=l at c;unfold chk at c;simp only [Bool.and_eq_true,decide_eq_true_eq] at c;obtain ⟨⟨⟨⟨⟨c1,c2⟩,c3⟩,c4⟩,c5⟩,c6⟩:=c;have en:Str.ofString "\n"=txI (gN s p) [.inl 10]:=rfl;refine ⟨Zgt F c2,?_,Zi1 F c1,Zct F c4,?_,?_⟩
 ·have:=(F.len l).2
  rw [W1];lia
 ·rw [en,X7,X7,List.append_assoc]
  exact Zct F c6
 ·rw [en,X7,X7,List.append_assoc]
  exact Zct F c5
def Zj5 {s:Int} (hs:0<=s/\s<=9999):∀ x∈[txtC s,Str.ofString "lift ab\nlift ab",Str.ofString "back\nback"],Asc x/\x.length<=890/\BadA x:=by
 have F:=Zk5 (p:=0) hs ⟨by decide,by decide⟩;have one:∀ l,(bdA l && ascB l && decide (l.length<=89))=true->Asc (txI (gN s 0) l)/\(txI (gN s 0) l).length<=890/\BadA (txI (gN s 0) l):=λl c=>by
  simp only [Bool.and_eq_true,decide_eq_true_eq] at c
  have:=(F.len l).2
  exact ⟨Zgt F c.1.2,by rw [W1]; lia,Zi1 F c.1.1⟩
 have c:=List.all_eq_true.mp Zj4;intro x hx;simp only [List.mem_cons,List.not_mem_nil,or_false] at hx
 rcases hx with rfl | rfl | rfl
 ·rw [Zku s 0]; exact one _ (c _ (by simp))
 ·rw [U4 (f:=gN s 0) (Str.ofString "lift ab\nlift ab")]; exact one _ (c _ (by simp))
 ·rw [U4 (f:=gN s 0) (Str.ofString "back\nback")]; exact one _ (c _ (by simp))
def Wi:FnScope ["_law_script","_law_mates","_law_rows_here","_law_hall","_law_word","_law_deeds","_law_name","_law_seam","_law_place","_law_order","_law_text","_law_more"] ["_law_script"] (Zg Zk2):=An
def ok_law (T:Txt w K mg t):FnOk P w K mg base (CXr P w) 13 t.iD t.ij ["_law_script"] (sp_law K):=by
 refine T.iF.F.aR Wi (λ_ _ _ _ H vs Q E hr h=>?_)
 ·obtain ⟨a,sc,rfl,hS,hl,k⟩:=h
  have hu:=Qa hr;refine ⟨_,(Ze (Uw (pcT (Zh6 T) hr T.gE (Za (pv 0) Zb)) (Gg Z (Xo (Z0 (i:=1) Wi.nd Z (Or.inl Z)) (Xo (Z0 (i:=2) Wi.nd Z (Or.inl Z)) Qd))))
   (Ze (Zj (i:=3) Wi.nd rfl (Or.inl rfl) (Qe T.gX (Zdb T) (hr.mono (by decide)) rfl T.gU T.bX.b .nil Yr (Za (Xj Wq (by rfl) T.cX PySem.Pv.boot_list (Za (pv 2) Zb)) Zb)))
   (Ze (Zj (i:=4) Wi.nd rfl (Or.inl rfl) (pcT (Zeh T) hr T.e8 (Za (pv 0) (Za Zd (Za (pv 1) Zb)))))
   (Ze (Ym (Zy Q6 (Zs Zn (by rfl) T.ak PySem.boot_len (Za (pv 4) Zb)) Zd (Zx _)) (Ze (Yw (Wk (pv 3) T.ai T.cu.m (Zen T) (hr.mono (by decide)) T.cu.b .nil Yr (Za Zl (Za (Xj Wq (by rfl) T.cX PySem.Pv.boot_list (Za (pv 4) Zb)) Zb))))
   (Zi (Yw (Wk (pv 3) T.ai T.bD.m (Zbi T) (hr.mono (by decide)) T.bD.b .nil Yr (Za (Zt Qv (Zt Zo (pv 2) (Zk Wa (Zt Zo (pv 4) Zd (λ_ _=>rfl)) Zd) (λ_ _=>rfl)) (Zk Yh (Zt Zo (pv 4) Zd (λ_ _=>rfl)) Zd) (λ_ _=>rfl)) (Za Zd (Za Zd Zb))))))) Yc)
   (Ze (Zj (i:=5) Wi.nd rfl (Or.inl rfl) (X5 (pv 3) T.ai T.ay.m (J0 T) (hr.mono (by decide)) T.ay.b .nil Yr))
   (Ze (Zj (i:=6) Wi.nd rfl (Or.inl rfl) (Zt Qv (W7 (Za Zl (Za Zl (Za Zl (Za Zl Zb))))) (Zk Yh (pcT (Wf T) hr T.aK (Za (pv 0) (Za Zd Zb))) Zd) (λ_ _=>rfl)))
   (Ze (Zj (i:=7) Wi.nd rfl (Or.inl rfl) (Zt Qv (Zt Zo (pv 2) Zd (λ_ _=>rfl)) (Zk Yh (pcT (Wf T) hr T.aK (Za (pv 0) (Za Zd Zb))) Zd) (λ_ _=>rfl)))
   (Ze (Zj (i:=8) Wi.nd rfl (Or.inl rfl) (Zk Yh (pcT (Wf T) hr T.aK (Za (pv 0) (Za Zd Zb))) (Zs Zn (by rfl) T.ak PySem.boot_len (Za (pv 1) Zb))))
   (Ze (Zj (i:=9) Wi.nd rfl (Or.inl rfl) (pcT (Zjz T) hr T.gW (Za (pcT (Wf T) hr T.aK (Za (pv 0) (Za Zd Zb))) (Za (pv 7) (Za (pv 8) (Za (pv 6) Zb))))))
   (Ze (Ym (PW.pt (Q5 (Zy Gj (pcT (Zaa T) hr T.e9 (Za (pv 3) (Za (pv 9) Zb))) Zl (Zx _)) (Q5 (Zy (Zc1 hr.units) (X5 (pv 3) T.ai T.ay.m (J0 T) (hr.mono (by decide)) T.ay.b .nil Yr) (pv 5) (Zx _)) (Qn (Zy (Zc1 hr.units) (X5 (pv 3) T.ai T.au.m (Ow T) (hr.mono (by decide)) T.au.b .nil Yr) (pv 2) (Zx _)))))) (Zi (Zw Gi)) Yc)
   (Ze (Zj (i:=10) Wi.nd rfl (Or.inl rfl) (Zm (Zf (Zq (pv 7) (Zf (Zq (Zk Yo (pv 7) Zd) (Zf (Zq (Zk Yo (pv 7) Zd) Zp))))))))
   (Ze (Qp PassesOwn.never rfl (Zhu (W7 (Za (pv 10) (Za Zl (Za Zl Zb))))) (Z0 (i:=11) Wi.nd rfl (Or.inl rfl)) (Zi (Ym (PW.pt (Q5 (Zy Gj (pcT (Zaa T) hr T.e9 (Za (pv 3) (Za (pv 11) Zb))) Zl (Zx _)) (Qn (Zy (Zc1 hr.units) (X5 (pv 3) T.ai T.ay.m (J0 T) (hr.mono (by decide)) T.ay.b .nil Yr) (pv 5) (Zx _))))) (Zi (Zw Gi)) Yc)))
   (Ze (Ym (Zy Gj (pcT (Uz T) hr T.cP (Za (Zk W9 (Zk W9 (pv 10) Zl) (pv 9)) Zb)) Zl (Zx _)) (Zi (Zw Gi)) Yc)
   (Zi (Zw (Ux (Y2 Y7 (pcT (Uz T) hr T.cP (Za (pv 9) Zb)) Zl (Zx _)) (Vk (Y2 Y7 (pcT (Uz T) hr T.cP (Za (Zk W9 (Zk W9 (pv 9) Zl) (pv 10)) Zb)) Zl (Zx _))))))))))))))))))),?_⟩
  refine Zv λnxC i8=>?_;refine ⟨_,Z,a,sc,Z,hS,hl,λp m r M ns H1 u6 hp hm ky td yb md n6=>?_⟩;refine ⟨p,_,Z,SqT.of hp,Z,_,_,Z,_,_,Z,Z,?_⟩;refine i8 _ _ ?_;obtain ⟨ts,g1,g2,g3⟩:=id ky;have lz:ns.length < 64:=by rw [td.len]; lia
  refine Zv λnxC i8=>?_;refine ⟨_,Z,r,_,Z,.inl (SqL.of g1),λl km=>?_⟩;intro x dx hx xx jo;obtain ⟨rl2,s2⟩:=Zi6 (C:=t.ag) g1 g2 g3 km hx xx;have l8:=(Same.new (o:=.lst (ts.map V.ref)) km).trans s2;refine ⟨x,l,dx,M,ns,Z,Zc,rl2,td,lz,λH3 j6 hn=>⟨Z,?_⟩⟩;obtain ⟨be,u7,st,un,jf,th,po,wo,ks,hn,n1,n2,su⟩:=hn;obtain ⟨aw,l9,mr,ng,B⟩:=HallNew.hl td hn (λb u hb e=>j6 b u hb (l8 b u e)) (Qg hx).2 (l8.free n1);have kz:(wD ks aw).length<=900:=by
   have:=hn.sw.len td
   rw [Zgy]
   lia
  refine i8 _ _ ?_
  try dsimp only [Z2]
  generalize R2 H3 x st=H0 at l9 mr ng B;have qr:=l9.seq (u6.seq hS);have lc:=l9 _ _ hm;have k9:=ky.same l9;clear j6 rl2 s2 l8 g1 g2 g3 ky hm n6 md hp u6 hx xx jo km hS hn n1 n2 su l9;refine Zv λnxC i8=>?_;refine ⟨_,Z,_,Z,a,m,sc,3,M,Z,B.low.seq qr,hl,by decide,by decide,B.low _ _ lc,yb,⟨_,td.n.choose_spec.2.2⟩,td.inv,λw1 ws H4 s4 hw1 h4 l1 p1=>?_⟩;refine i8 _ _ ?_
  try dsimp only [Z2]
  obtain ⟨z1,B,nw⟩:=B.more s4;have h1:=nw w1 _ h4 hw1;generalize R2 H4 x st=qu at z1 B nw h1;have qr:=z1.seq qr;have lc:=z1 _ _ lc;have k9:=k9.same z1;have mr:=z1 _ _ mr;have ng:=z1 _ _ ng;clear nw z1 h4 hw1 s4;refine Yn (λσ H'=>∃ H0 kv ds,σ=[some (.ref a),some (.ref m),some (.ref r),some (.ref x),some (.ref w1),none,none,none,none,none,none,none]/\HLA t.ac t.ah t.ag H' H0 x M ns kv ds/\ds.length<=2/\SqL K H0 a (sc.map V.int)/\H0 m=some (.lst (M.map mV))/\Xa H0 r ns) (λnx jr=>?_) ?_
  ·refine ⟨_,Z,w1,_,Z,.inl (SqL.of (B.low _ _ h1)),_,_,Z,Z,_,Z,?_⟩
   refine ite2 (λz=>?_) (λz=>jr _ _ ⟨qu,_,[],Z,⟨_,_,_,_,_,_,_,_,_,_,B⟩,by decide,qr,lc,k9⟩);have hP:Pl M ws:=p1.resolve_left λe=>by
    subst e
    exact absurd (of_decide_eq_true z) (by decide)
   obtain ⟨w0,wr,rfl⟩:∃ w0 wr,ws=w0 :: wr:=List.exists_cons_of_ne_nil hP.ne;obtain ⟨m0,qp⟩:=hP.has w0 List.mem_cons_self;have yu:w0 < ns.length:=by rw [td.len]; exact (Aa qp).1
   refine Zv λnxC i8=>?_;refine ⟨_,Z,x,dx,_,Z,B.ins,Z,_,Z,w1,_,Z,.inl (SqL.of (B.low _ _ h1)),λl my=>?_⟩;have sl:Same H4 (upd H4 l (.lst ((w0 :: wr).map nV))):=Same.new my;refine ⟨x,l,dx,be,u7,st,un,jf,be,wo,th,po,Str.ofString "ab",qu,M,ns,_,[],w0 :: wr,rfl,B.same sl,mr,ng,td,by lia,by decide,(by unfold Asc; decide),by decide,by decide +kernel,Zc,by lia,hP,λH5 H5' rr s5 hh=>?_⟩;refine i8 _ _ ?_;obtain ⟨dx',be',jy,kh,ke,jp,te',mq,p4,yj,B'⟩:=id hh;have nz:=Ad yu;generalize ns[w0]=sw at nz;have zc:=(k9.same s5).same B'.low;have hw5:=B'.low _ _ (s5 _ _ h1);obtain ⟨ts,tq,r1,r2,r3,r4⟩:=Zhm zc nz;have aw0:atI ((w0 :: wr).map nV) ((0:Nat):Int)=some (nV w0):=Yp (i:=0) rfl;have ar:atI (ts.map V.ref) ((w0:Int) / 3)=some (V.ref tq):=by rw [show (w0:Int) / 3=((w0 / 3:Nat):Int) by lia]; exact Yp r2
   have at3:atI (row3 ns (w0 / 3)) ((w0:Int) % 3)=some (V.int sw):=by rw [show (w0:Int) % 3=((w0 % 3:Nat):Int) by lia]; exact Wm r4
   have hsk:sw∈keys ns ns.length:=Wh.mpr ⟨w0,yu,nz⟩
   have t6:Y5 ns sw≠"rim":=λe=>by
    unfold Y5 at e
    rcases Vw td hsk with ⟨a1,ea,_,ma⟩ | ⟨a1,b1,nk,eb,_⟩
    ·have:=Y9.mpr ⟨yu,nz⟩
     rw [ea,List.mem_singleton] at this;subst this;rw [qp] at ma; cases ma
    ·rw [eb] at e
     dsimp only at e;split at e <;> exact absurd e (by decide)
   refine ⟨_,Z,x,dx',_,Z,B'.ins,Z,_,Z,_,Z,w1,_,_,_,Z,Z,SqL.of hw5,aw0,_,_,Z,Z,(by unfold CDiv; decide),r,_,_,_,rfl,rfl,SqL.of r1,ar,_,rfl,w1,_,_,_,rfl,rfl,SqL.of hw5,aw0,_,_,rfl,rfl,(by show (0:Int) < 3; decide),tq,_,_,_,rfl,rfl,SqT.of r3,at3,?_⟩;refine ⟨x,sw,3,2,H5',M,ns,_,_,Z,hh,td,(by show 1<=800; decide),kz,hsk,t6,by decide,by decide,by decide,by decide,λH6 H6' uk rr' s6 hh6=>?_⟩;have yg:=s5.trans s6;exact jr _ _ ⟨H6',uk,_,Z,hh6,Ao 2,yg.seq qr,yg _ _ lc,k9.same yg⟩
  rintro σ H7 ⟨H0,kv,ds,rfl,hh,hds,qr,lc,k9⟩;clear B mr ng h1 p1 l1 kz;obtain ⟨dx,be,u7,st,un,jf,te,wo,th,po,B⟩:=hh;refine Zv λnxC i8=>?_;refine ⟨_,Z,x,dx,_,Z,B.ins,Z,x,dx,be,u7,st,un,ds,Z,B.ins,B.sta,by lia,λdl H8 s8 _ lu=>?_⟩;refine i8 _ _ ?_
  try dsimp only [Z2]
  have B:=B.same s8;have low:=B.low;have r9:=low.seq qr;have xu:=low _ _ lc;have rk:=k9.same low;clear s8 qr lc k9;refine Zv λnxC i8=>?_;refine ⟨(by show 4<=sizeLine; decide),λtq xk=>?_⟩;have s1:Same H8 (upd H8 tq (.tup [V.str (Str.ofString "ab"),V.str (Str.ofString "z"),V.str (Str.ofString "abcdefgh"),V.str (Str.ofString "nobody")])):=Same.new xk;obtain ⟨nm,hnm,anm⟩:=Zn6 (L:=nmF) (n:=4) rfl (by decide) (cell sc 5);refine ⟨_,Z,a,sc,5,Z,s1.seq r9,hl,by decide,by decide,_,_,Z,Z,(by show (0:Int) < 4; decide),tq,_,_,_,rfl,rfl,SqT.of Zc,anm,?_⟩;refine i8 _ _ ?_
  try dsimp only [Z2]
  generalize upd H8 tq (.tup [V.str (Str.ofString "ab"),V.str (Str.ofString "z"),V.str (Str.ofString "abcdefgh"),V.str (Str.ofString "nobody")])=H9 at s1 ⊢;have B:=B.same s1;have r9:=s1.seq r9;have xu:=s1 _ _ xu;have rk:=rk.same s1;have lu:=s1 _ _ lu;clear low s1 xk anm;obtain ⟨n,n1,n40,hn⟩:=td.n;have nj:ns.length=3 * n:=by rw [td.len]; exact hn
  refine Zv λnxC i8=>?_;have c0:=Int.emod_nonneg (cell sc 6) (show (3:Int)≠0 by decide);have c1:=Int.emod_lt_of_pos (cell sc 6) (show (0:Int) < 3 by decide);obtain ⟨j,hj⟩:∃ j:Nat,cell sc 6 % 3=j:=⟨_,(Int.toNat_of_nonneg c0).symm⟩;have hj3:j < 3:=by lia
  have nz:=Ad (show j < ns.length by lia);generalize ns[j]'(by lia)=se at nz;have ul:=td.rng j se nz;obtain ⟨ts,tq,r1,r2,r3,r4⟩:=Zhm rk nz;rw [show j / 3=0 by lia] at r2 r3 r4;rw [show j % 3=j by lia] at r4;refine ⟨_,Z,r,_,_,_,Z,Z,SqL.of r1,(show atI (ts.map V.ref) ((0:Nat):Int)=some (V.ref tq) from Yp r2),_,Z,a,sc,6,Z,r9,hl,by decide,by decide,_,_,Z,Z,(by show (0:Int) < 3; decide),tq,_,_,_,rfl,rfl,SqT.of r3,(by show atI _ (cell sc 6 % 3)=_; rw [hj]; exact Wm r4),?_⟩;refine i8 _ _ ?_
  try dsimp only [Z2]
  clear r1 r2 r3 r4 hj c0 c1 nz;refine Zv λnxC i8=>?_;have hM0:(0:Int) < ((M.map mV).length:Nat):=by rw [Ac]; lia
  refine ⟨_,Z,a,sc,7,Z,r9,hl,by decide,by decide,_,Z,m,_,Z,.inl (SqL.of xu),_,_,Z,Z,hM0,?_⟩;refine i8 _ _ ?_
  try dsimp only [Z2]
  have q0:=Int.emod_nonneg (cell sc 7) (show (((M.map mV).length:Nat):Int)≠0 by lia);have q1:=Int.emod_lt_of_pos (cell sc 7) hM0;have hML:(((M.map mV).length:Nat):Int)=M.length:=by rw [Ac]
  generalize cell sc 7 % (((M.map mV).length:Nat):Int)=pl' at q0 q1 ⊢;have ju:0<=pl'/\pl'<=9999:=⟨q0,by lia⟩;refine Zv λnxC i8=>?_;refine ⟨_,Z,a,sc,4,Z,r9,hl,by decide,by decide,_,Z,_,Z,_,Z,cell sc 4,se,pl',nm,Z,ul.1,ul.2,ju.1,ju.2,Znq nm hnm,λH10 ps l9 mv=>?_⟩;have AB:=Zmq ul ju hnm mv;refine i8 _ _ ?_
  try dsimp only [Z2]
  generalize txI (fB se pl' nm.cps.toList) (itF ps)=od at AB ⊢;have B:=B.same l9;have rk:=rk.same l9;have lu:=l9 _ _ lu;have td':=B.asc;clear r9 xu q0 q1 hM0 mv l9;refine Yn (λσ H'=>σ=[some (.ref a),some (.ref m),some (.ref r),some (.ref x),some (.ref w1),some (.ref dl),some (.str nm),some (.int se),some (.int pl'),some (.str od),none,none]/\Same H10 H') (λnx jr=>?_) ?_
  ·refine ⟨_,Z,_,Z,x,od,Z,AB.as,AB.le,AB.ba,λuz nv=>?_⟩
   refine ⟨Z,_,Z,iteF ?_⟩;have B1:=B.same nv;refine ⟨_,Z,x,dx,_,Z,B1.ins,Z,x,dx,be,u7,st,un,ds,Z,B1.ins,B1.sta,by lia,λdl' yc l8 _ uc=>?_⟩;refine ⟨_,Z,DV.nev (.lst (SqL.of uc) (DVs.strs _)) (.lst (SqL.of (l8 _ _ (nv _ _ lu))) (DVs.strs _)) (Oz B.asc) ⟨_,Z,iteF ?_⟩⟩;have kf:=nv.trans l8;have B2:=B1.same l8;refine ⟨_,Z,x,dx,_,Z,B2.ins,Z,x,H0,M,ns,kv,ds,Z,⟨_,_,_,_,_,_,_,_,_,_,B2⟩,λl ts' zr e1 e2=>?_⟩;have s3:Same yc (upd yc l (.lst (ts'.map V.ref))):=Same.new zr;refine ⟨_,Z,DV.nev (Ze1 ⟨ts',Zc,e1,λk' q e=>s3 _ _ (e2 k' q e)⟩) (Ze1 ((rk.same kf).same s3)) (Zeb ns _) ⟨_,Z,iteF ?_⟩⟩;exact jr _ _ ⟨Z,kf.trans s3⟩
  rintro σ uz ⟨rfl,nv⟩;have B:=B.same nv;have lu:=nv _ _ lu;clear nv rk;have nb:∀ i:Int,0<=i->i<=100000->i.natAbs.log2 < 1920/\(nmS i).length<=62:=λi i0 i1=>⟨W0 i0 i1,by have:=Qt i0 i1; rw [Array.length_toList] at this; exact this⟩;obtain ⟨b1,b1'⟩:=nb se ul.1 (by lia);obtain ⟨b2,b2'⟩:=nb (se + 1) (by lia) (by lia);obtain ⟨b3,b3'⟩:=nb (se + 2) (by lia) (by lia);have l0:Str.empty.length=0:=rfl;have l1:(Str.ofString "cloth ").length=6:=by decide
  have l2:(Str.ofString " ").length=1:=by decide
  have l4:(Str.ofString "\n").length=1:=by decide
  have ln:∀ {n:Nat},n<=2000->n<=sizeLine:=λh=>by rw [sizeLine_eq]; lia
  have lt:(txtC se).length<=300:=by
   unfold txtC;simp only [Str.length_append];lia
  refine Zv λnxC i8=>?_;refine ⟨ln ?_,_,Z,se,Z,b1,ln ?_,ln ?_,_,Z,_,_,Z,Z,se + 1,Z,b2,ln ?_,ln ?_,_,Z,_,_,Z,Z,se + 2,Z,b3,ln ?_,ln ?_,?_⟩
  iterate 7
   ·have h1:(nmS se).length=(Str.ofString (toString se)).length:=rfl
    have h2:(nmS (se + 1)).length=(Str.ofString (toString (se + 1))).length:=rfl;have h3:(nmS (se + 2)).length=(Str.ofString (toString (se + 2))).length:=rfl;simp only [Str.length_append];lia
  refine i8 [some (.ref a),some (.ref m),some (.ref r),some (.ref x),some (.ref w1),some (.ref dl),some (.str nm),some (.int se),some (.int pl'),some (.str od),some (.str (txtC se)),none] _ ?_;have MB:=Zj5 ul;generalize txtC se=tc at AB MB lt;refine Yn (λσ H'=>∃ v,σ=[some (.ref a),some (.ref m),some (.ref r),some (.ref x),some (.ref w1),some (.ref dl),some (.str nm),some (.int se),some (.int pl'),some (.str od),some (.str tc),v]/\Same uz H') (λnx jr=>?_) ?_
  ·refine ⟨_,Z,(by show 3<=sizeLine; decide),λtq xk=>?_⟩
   have s1:Same uz (upd uz tq (.tup ([tc,Str.ofString "lift ab\nlift ab",Str.ofString "back\nback"].map V.str))):=Same.new xk;refine ⟨tq,Z,⟨_,SqT.of Zc⟩,?_⟩;refine Zmi (xs:=[tc,Str.ofString "lift ab\nlift ab",Str.ofString "back\nback"].map V.str) (λi σ H'=>∃ v,σ=[some (.ref a),some (.ref m),some (.ref r),some (.ref x),some (.ref w1),some (.ref dl),some (.str nm),some (.int se),some (.int pl'),some (.str od),some (.str tc),v]/\Same (upd uz tq (.tup ([tc,Str.ofString "lift ab\nlift ab",Str.ofString "back\nback"].map V.str))) H') ⟨none,rfl,Same.refl _⟩ ?_ ?_ ?_
   ·rintro i σ H' _ ⟨v,rfl,s'⟩
    exact SqT.of (s' _ _ Zc)
   ·rintro i y σ H' hy ⟨v,rfl,s'⟩
    obtain ⟨mo,hmo,rfl⟩:=Y1 hy;obtain ⟨m1,m2,m3⟩:=MB mo (Av hmo);have s1':=s1.trans s';dsimp only [Z2];refine ⟨_,Z,_,Z,x,mo,Z,m1,m2,m3,λH13 nr=>?_⟩;refine ⟨Z,_,Z,iteF ?_⟩;have B1:=B.same (s1'.trans nr);refine ⟨_,Z,x,dx,_,Z,B1.ins,Z,x,dx,be,u7,st,un,ds,Z,B1.ins,B1.sta,by lia,λdl' yc l8 _ uc=>?_⟩;refine ⟨_,Z,DV.nev (.lst (SqL.of uc) (DVs.strs _)) (.lst (SqL.of (l8 _ _ (nr _ _ (s1' _ _ lu)))) (DVs.strs _)) (Oz B.asc) ⟨_,Z,iteF ?_⟩⟩;exact ⟨_,Z,s'.trans (nr.trans l8)⟩
   ·rintro σ H' ⟨v,rfl,s'⟩
    exact jr _ _ ⟨v,Z,s1.trans s'⟩
  rintro σ H13 ⟨v,rfl,nr⟩;have lo:=AB.le;refine Yn (λσ H'=>σ=[some (.ref a),some (.ref m),some (.ref r),some (.ref x),some (.ref w1),some (.ref dl),some (.str nm),some (.int se),some (.int pl'),some (.str od),some (.str tc),v]/\Same H13 H') (λnx jr=>?_) ?_
  ·refine ⟨_,Z,_,_,Z,Z,ln (by lia),_,Z,_,_,Z,Z,ln (by rw [Str.length_append]; lia),_,rfl,AB.r2,λH14 p6=>?_⟩
   exact ⟨Z,_,Z,iteF (jr _ _ ⟨Z,p6⟩)⟩
  rintro σ H14 ⟨rfl,p6⟩;refine ⟨_,Z,_,Z,AB.r1,λH15 qy=>?_⟩;refine ⟨Z,?_⟩;exact ⟨_,Z,iteT ⟨_,Z,_,_,Z,Z,ln (by lia),_,Z,_,_,Z,Z,ln (by rw [Str.length_append]; lia),_,rfl,AB.r3,λH16 xa=>⟨rfl,k _⟩⟩⟩
end
end KT
open PySem PySem.W PyProof.Rows
namespace PySem.W.Fast
def tw3250247453611014775:=0
def tw15695665277387221606:=0
def tw3752141185979127931:=0
def tw12671152182643203582:=0
def tw7678141922502947407:=0
def tw11359453963387000224:=0
def tw7206065080909441403:=0
def tw17078821303762261227:=0
def tw10200025283084601225:=0
def tw16084148304884979513:=0
def tw10119666330112931373:=0
def tw6603946498592441540:=0
def tw11595864370060196880:=0
def tw17217266347942044792:=0
def tw16375161030311602933:=0
def tw13312326974294515046:=0
def tw5925475284339828669:=0
def tw13729299491110941505:=0
def tw648834566400480554:=0
def tw9278691795710592259:=0
def tw4589223214523663119:=0
def tw11122359036888577869:=0
def tw14960868024687833684:=0
def tw656648594062543795:=0
def tw3865952291131420613:=0
def tw18226711456702352069:=0
def tw11707237119340160999:=0
def tw2153997781456437727:=0
def tw439308424658085335:=0
def tw8620504443245537665:=0
def tw14043133859417948443:=0
def tw93942733521498070:=0
def tw18080674230316256778:=0
def tw12956695066520251814:=0
def tw6424455824297136903:=0
def tw5130051915452832056:=0
def tw14719380754049084962:=0
def tw3620088258095954882:=0
def tw13740355189924580446:=0
def tw3413112265956722106:=0
def tw1337080321779453472:=0
def tw16875784616927024698:=0
def tw17525317741680273550:=0
def tw13872807632962768631:=0
def tw11727019809331240448:=0
def tw15493866429708608437:=0
def tw4307472205998856933:=0
def tw10648066080325467935:=0
def tw6583892938857143483:=0
def tw7057365359278462604:=0
def tw14321414963371949942:=0
def tw13146303581315180334:=0
def tw18257827842548914266:=0
def tw17610124265449691474:=0
def tw17961283531493859208:=0
def tw15493505428715511950:=0
def tw7768105332529569985:=0
def tw3847713834066086640:=0
def tw11005221503452924076:=0
def tw8089974184045014538:=0
def tw9419223411327075727:=0
def tw7886063539328387769:=0
def tw12487084670775539400:=0
def tw13968180839159900770:=0
def tw11426372642914758731:=0
def tw6511093712538502407:=0
def tw8584880053696182210:=0
def tw1615757575792743961:=0
def tw2727629265333110913:=0
def tw4527557432675402209:=0
def tw9115664952430507742:=0
def tw3704568154787061397:=0
def tw279288820823248920:=0
def tw8790574206488127060:=0
def tw6697142362849275717:=0
def tw17873230611754868089:=0
def tw15278558519061715370:=0
def tw18185264429716536594:=0
def tw15791940418684643911:=0
def tw10827931123666222498:=0
def tw2266108667800519222:=0
def tw15558576058270119888:=0
def tw11530980311359977245:=0
def tw11414280005726386609:=0
def tw14633001703526012236:=0
def tw4218680335762458084:=0
def tw16646270899910254090:=0
def tw2283494971955253760:=0
def tw7840286597808570138:=0
def tw15429233663567545647:=0
def tw10564956952864648916:=0
def tw11983673961894354192:=0
def tw1037438482507569258:=0
def tw5601868707880124053:=0
def tw14523882008517753485:=0
def tw1573483035875000396:=0
def tw12867366978730140956:=0
def tw341152360279924128:=0
def tw2184472462878317347:=0
def tw8695270350564268506:=0
def tw9424197523728469950:=0
def tw3976319102671220890:=0
def tw18186185633199153578:=0
def tw6477621847761096424:=0
def tw2378149621520620273:=0
def tw17267793265063428172:=0
def tw2545528859006869940:=0
def tw17040479121528981358:=0
def tw9745805239448208044:=0
def tw12121292471321219872:=0
def tw3771624581186366879:=0
def tw1552258883096838940:=0
def tw16813913858897870464:=0
def tw1151987785498255870:=0
def tw711722914633167595:=0
def tw12223669857252550531:=0
def tw9556504355813207509:=0
def tw857507250335028828:=0
def tw12338353593593291432:=0
def tw11067774198408440012:=0
def tw5376655073577703313:=0
def tw2762434524713205934:=0
def tw16162778823000964242:=0
def tw14230866978013432065:=0
def tw16402145397328407223:=0
def tw4785935695469858566:=0
def tw16415399263191365394:=0
def tw15291814395755497353:=0
def tw16838676107336065231:=0
def tw9517783661783081898:=0
def tw1387009631278355815:=0
def tw13752164166120554554:=0
def tw4185522363679620654:=0
def tw8695408581895166495:=0
def tw13152716975702322270:=0
def tw15799790544030744400:=0
def tw3359343569209488725:=0
def tw258668371201952150:=0
def tw16122423397864769636:=0
def tw14360538353758790201:=0
def tw14482154407090035337:=0
def tw662923257876309905:=0
def tw5210838292385826113:=0
def tw12256593092275593910:=0
def tw17503876133452785617:=0
def tw8815959281286087257:=0
def tw9543593754453867124:=0
def tw1042180963304361168:=0
def tw10998918565254214123:=0
def tw280830890058098709:=0
def tw2210225677640710276:=0
def tw11206999614057057747:=0
def tw16253429985507274090:=0
def tw5569108641577630789:=0
def tw11864654010355912113:=0
def tw18361367929734100811:=0
def tw9253371344612364523:=0
def tw2826370774004257767:=0
def tw6529323514283564180:=0
def tw14848958584785572708:=0
def tw8412327169366701360:=0
def tw5796653155876377569:=0
def tw9564536420786048783:=0
def tw453069995624981760:=0
def tw18303508905677684632:=0
def tw9192827434344008710:=0
def tw7430148068993029151:=0
def tw10557762218218449893:=0
def tw14010682091326659150:=0
def tw8829119672365249448:=0
def tw11594937811420801127:=0
def tw941972777875739046:=0
def tw6502921162905277319:=0
def tw13116629045069827130:=0
def tw9219219343689721910:=0
def tw10784412793343002831:=0
def tw15808954682612185938:=0
def tw5664267162272564605:=0
def tw5878973574224791088:=0
def tw14473438849389274418:=0
def tw4713942722599315891:=0
def tw3483209315409929314:=0
def tw6072142056377887092:=0
def tw1925427235072441428:=0
def tw14823055000413036038:=0
def tw7680498093966386104:=0
def tw4954634376456319090:=0
def tw9414707664162296583:=0
def tw5667517279455621798:=0
def tw14551007410416504605:=0
def tw4473146662141738545:=0
def tw2415279297385778445:=0
def tw17275243726218969012:=0
def tw915557087088101523:=0
def tw13098315480973815396:=0
def tw3037223951249019643:=0
def tw11243681096948300126:=0
def tw8493914960196717207:=0
def tw5469034960949908152:=0
def tw5468805480593995672:=0
def tw4838772301915241369:=0
def tw5491422786857594399:=0
def tw13937423689630487315:=0
def tw6081433731980138566:=0
def tw3313825190051388393:=0
def tw11755772233947041424:=0
def tw15049112442622238205:=0
def tw953521373065775335:=0
def tw15620797110950704866:=0
def tw4375242994465756473:=0
def tw2862125504620252927:=0
def tw5227540244618343448:=0
def tw18205287271953184941:=0
def tw4222281574590594212:=0
def tw12637180959478508681:=0
def tw5279927054997808403:=0
def tw10200511472166927741:=0
def tw6318478531591944343:=0
def tw11541412362575224694:=0
def tw15653102804396053428:=0
def tw17153467567479716564:=0
def tw2890798581080531868:=0
def tw2535457705446100216:=0
def tw13741864780872105989:=0
def tw480968859053977010:=0
def tw1356527013405938194:=0
def tw9623622791475630795:=0
def tw6605799079321923547:=0
def tw1563067295895725451:=0
def tw5764031262980699876:=0
def tw3570007903469616026:=0
def tw13791404324708969083:=0
def tw15900409278281075014:=0
def tw1504012428760306665:=0
def tw7382305654421352762:=0
def tw14018308383616278439:=0
def tw11312421319324642114:=0
def tw8631603760326135172:=0
def tw13105905997925357136:=0
def tw2593137495097836731:=0
def tw9677696425589661755:=0
def tw12253619963675491189:=0
def tw15738537032162368784:=0
def tw13683944878006925456:=0
def tw11522297268549669770:=0
def tw2656284157297949093:=0
def tw12364176765580730678:=0
def tw1425774203606879925:=0
def tw12576252181881291230:=0
def tw11834831231819832844:=0
def tw13323760707677807067:=0
def tw18029650415757360727:=0
def tw16400732228968452604:=0
def tw4688159045874634406:=0
def tw9042882901024296082:=0
def tw2168112651266972529:=0
def tw9913768455192230649:=0
def tw3994928853765699195:=0
def tw16468669007565185350:=0
def tw5766268425547534597:=0
def tw9459604995511984381:=0
def tw11113313881128472385:=0
def tw3805335503943007148:=0
def tw14691262699062487472:=0
def tw11316896465231587573:=0
def tw16222198112382379895:=0
def tw3949665238198098130:=0
def tw16677165718507712913:=0
def tw11034732693004374416:=0
def tw2793276578914617869:=0
def tw6703607324405426576:=0
def tw2947186288529533330:=0
def tw14226517318959378711:=0
def tw2083214551841584773:=0
def tw15277803421288215899:=0
def tw2400560599012501900:=0
def tw7420106620516014470:=0
def tw18399945342032902393:=0
def tw12247171991682709104:=0
def tw16476034375437014775:=0
def tw14004091200004360327:=0
def tw13369282007305939411:=0
def tw4147147657186354164:=0
def tw18395951210726146659:=0
def tw17640921862299085404:=0
def tw5662325791450974813:=0
def tw4054684011746724844:=0
def tw8449207176364340184:=0
def tw16889620425250223148:=0
def tw3747074951025237974:=0
def tw10346356212926177769:=0
def tw2150340200301238120:=0
def tw14515894658300823556:=0
def tw14242251428179786234:=0
def tw4685101477180702713:=0
def tw16677444908503773459:=0
def tw1342019145841575933:=0
def tw12989383351454213692:=0
def tw11798282448156777862:=0
def tw3911224511212781554:=0
def tw12741525625377647093:=0
def tw7955392968598166900:=0
def tw7743056760957408423:=0
def tw6948057708045279174:=0
def tw8665442969351339453:=0
def tw3678115824849550667:=0
def tw9354468148620533165:=0
def tw1923498632098733355:=0
def tw6633251612107088437:=0
def tw4900490237392819674:=0
def tw4647728917045634407:=0
def tw3156859085005933117:=0
def tw18160738308389105542:=0
def tw1627564746896380962:=0
def tw3632832892369738410:=0
def tw2842949975609041408:=0
def tw12168478665216445225:=0
def tw18425939137190025701:=0
def tw11206136811812983019:=0
def tw10593314178043551427:=0
def tw4026751353757723958:=0
def tw17928850997327457639:=0
def tw1776921216202185307:=0
def tw16749534247153979165:=0
def tw12524697759177444343:=0
def tw9766630377387623811:=0
def tw15852693811073254273:=0
def tw10437828397190301171:=0
def tw14736260996161847558:=0
def tw2401041208926464059:=0
def tw18286517187170819227:=0
def tw7393052867513409816:=0
def tw16858447033800722387:=0
def tw2754261625285018004:=0
def tw9178837343249506567:=0
def tw6636519564347246201:=0
def tw7705758317356535288:=0
def tw4704740284923596099:=0
def tw9142897950016409509:=0
def tw2959234817958995016:=0
def tw4578267267865637884:=0
def tw4406454049708614861:=0
def tw12349379076028993804:=0
def tw17103766686872563752:=0
def tw8512563792180857467:=0
def tw2810087283376802444:=0
def tw5846689942784698037:=0
def tw3692025055722025621:=0
def tw9298422638146627567:=0
def tw8753053944090795710:=0
def tw8409458916576887139:=0
def tw7881599747269114901:=0
def tw6408607948514439067:=0
def tw6268837159467921760:=0
def tw589796533731507341:=0
def tw3069902981977813956:=0
def tw17599025765452619655:=0
def tw17413638329853256101:=0
def tw16335190210865587741:=0
def tw1491809323168035042:=0
def tw14749903198374795248:=0
def tw12235197418686855443:=0
def tw10740150680695421909:=0
def tw10243402265531199847:=0
def tw10192527462118996954:=0
def tw15460155073923957759:=0
def tw11159415591301131072:=0
def tw13974244208817051205:=0
def tw15677517938529239328:=0
def tw7354356182695417976:=0
def tw13179887679459198650:=0
def tw12959177387446743360:=0
def tw7820275413845977470:=0
def tw8557519154504755036:=0
def tw10318191525401251109:=0
def tw14439964171283606855:=0
def tw3778403802148175803:=0
def tw15573100267928191682:=0
def tw10769642061864821541:=0
def tw9585523853248195323:=0
def tw14306551349707086129:=0
def tw12813872071511186442:=0
def tw5534957086450325588:=0
def tw15191378070086579826:=0
def tw4223455593798721345:=0
def tw4632237957258815850:=0
def tw17961545922897262177:=0
def tw17107659027529064972:=0
def tw16269171875867764198:=0
def tw12532266754377878983:=0
def tw8214185513682842392:=0
def tw5926104576735984129:=0
def tw17247895147211937298:=0
def tw16432243891857536754:=0
def tw7399969982841866882:=0
def tw6504209434187361830:=0
def tw14624589233904941843:=0
def tw11415161463625684408:=0
def tw7452294122415654193:=0
def tw11572204123395365931:=0
def tw6663575846449558587:=0
def tw11216617190390942137:=0
def tw18124055794520454900:=0
def tw4618919445683667150:=0
def tw3944892194736045539:=0
def tw8148274018297829362:=0
def tw17648708992164273254:=0
def tw16260156920197623546:=0
def tw10052265264045081905:=0
def tw12266530010772888430:=0
def tw634633564488700109:=0
def tw5401154216592738724:=0
def tw8452968493864567394:=0
def tw4139385479567265662:=0
def tw18194423723068870646:=0
def tw15224634331110216607:=0
def tw7550775944817441983:=0
def tw14655998848479960059:=0
def tw15496377285132630155:=0
def tw4273864297428217934:=0
def tw2272896446011155236:=0
def tw17587014064556183549:=0
def tw1808259321829326347:=0
def tw15558216258583533888:=0
def tw611440343614870028:=0
def tw893980293231431076:=0
def tw5486931328762617624:=0
def tw6835738880159996681:=0
def tw13348211849689561551:=0
def tw9231240261902243711:=0
def tw14976961509682777172:=0
def tw8696295664977413898:=0
def tw7922533918823900195:=0
def tw7754071467373883056:=0
def tw1330493789937630786:=0
def tw15935764162084615765:=0
def tw15056561401706656376:=0
def tw13216248870050616971:=0
def tw5412916899768480191:=0
def tw11885062142229503120:=0
def tw9964871651792763481:=0
def tw6678769055103935456:=0
def tw14702249443404867463:=0
def tw10611319486765149209:=0
def tw4931073373596271132:=0
def tw17654070660854902489:=0
def tw5324056529300054471:=0
def tw3868338180457527597:=0
def tw12892968562964375791:=0
def tw9659893571435484487:=0
def tw2072714141312512570:=0
def tw18177102175028514481:=0
def tw15879400484333085194:=0
def tw5531427537222566333:=0
def tw18335545301262645468:=0
def tw16740454377025355176:=0
def tw13934324920521907924:=0
def tw13291006852798802742:=0
def tw13090129119829342150:=0
def tw4019496323648331554:=0
def tw7052545422974303716:=0
def tw16731337539569505652:=0
def tw4813087055688816549:=0
def tw10713784156333722838:=0
def tw10264395329618799252:=0
def tw7348056918737880049:=0
def tw5407243037496696228:=0
def tw2269128217415002602:=0
def tw14845551675729650731:=0
def tw9979110819080385886:=0
def tw1043630770966048472:=0
def tw5818014416750674448:=0
def tw7052968132327851812:=0
def tw2039521548272976532:=0
def tw12147325657449540138:=0
def tw9335803084141655832:=0
def tw8631332494745050586:=0
def tw5589108941912464802:=0
def tw12113883359993369585:=0
def tw5999158688700961942:=0
def tw8855359037574035227:=0
def tw18172145195042793516:=0
def tw12072926480707699504:=0
def tw1175761455352766148:=0
def tw11219652635759886952:=0
def tw2844111507735263892:=0
def tw9307273991091168127:=0
def tw6602903111894563173:=0
def tw18093883524821921978:=0
def tw12762298418984298635:=0
def tw12540065327237571632:=0
def tw5407531454568468223:=0
def tw1726288469717565779:=0
def tw16536718015057165256:=0
def tw16246882214602587276:=0
def tw15307266465207934924:=0
def tw14079549687098164743:=0
def tw12559895771618465253:=0
def tw6381117629961889524:=0
def tw1448220791682525343:=0
end PySem.W.Fast
set_option maxRecDepth 100000 in
set_option maxHeartbeats 0 in
theorem PySem.Challenge.cw_tentloops_k67_orders_refused_holds : PySem.Challenge.rw_tentloops_k67_orders_refused.Holds := by
 w_on; o_law; k_head; (case hw=>w_witness2)
 k_fill
 refine L2.walk_r (l:=PySem.Challenge.rw_tentloops_k67_orders_refused) (k:=13) (spl:=KT.sp_law) rfl rfl ⟨rfl,by decide,by decide⟩ (fun w h Y=>PySem.W.kIn_of Y) (fun K H a ns hl hS=>KT.sp_law_start hl hS) ?F
 case F =>
  intro w mg fa h KX G hmg
  have T:∃ t,KT.Txt w (L2.KOf KX) mg t:=by
   dsimp only [L2.KOf]
   refine' ⟨⟨_,_,_,_,_,_,_,_,_,_,_,_,_,_,_,_,_,_,_,_,_,_,_,_,_,_,_,_,_,_,_,_,_,_,_,_,_,_,_,_,_,_,_,_,_,_,_,_,_,_,_,_,_,_,_,_,_,_,_,_,_,_,_,_,_,_,_,_,_,_,_,_,_,_,_,_,_,_,_,_,_,_,_,_,_,_,_,_,_,_,_,_,_,_,_,_,_,_,_,_,_,_,_,_,_,_,_,_,_,_,_,_,_,_,_,_,_,_,_,_,_,_,_,_,_,_,_,_,_,_,_,_,_,_,_,_,_,_,_,_,_,_,_,_,_,_,_,_,_,_,_,_,_,_,_,_,_,_,_,_,_,_,_,_,_,_,_,_,_,_,_,_,_,_,_,_,_⟩,⟨mg_of KX G ?_,⟨?_,?_,?_,?_⟩,?_,?_,?_,?_,mg_of KX G ?_,⟨?_,?_,?_,?_⟩,?_,?_,?_,?_,mg_of KX G ?_,⟨?_,?_,?_,?_⟩,?_,?_,?_,?_,KT.FT.of KX G (KT.ba1 (fun _ _ _ _ _ _ _ _=>rfl) rfl) ?_ ?_ ?_ ?_,KT.FT.of KX G (KT.ba1 (fun _ _ _ _ _ _ _ _=>rfl) rfl) ?_ ?_ ?_ ?_,KT.FT.of KX G (KT.ba1 (fun _ _ _ _ _ _ _ _=>rfl) rfl) ?_ ?_ ?_ ?_,KT.FT.of KX G (KT.ba1 (fun _ _ _ _ _ _ _ _=>rfl) rfl) ?_ ?_ ?_ ?_,KT.FT.of KX G (KT.ba2 (fun _ _ _ _ _ _ _ _ _=>rfl) rfl) ?_ ?_ ?_ ?_,KT.FM.of (KT.ba2 (fun _ _ _ _ _ _ _ _ _=>rfl) rfl) ?_ ?_ ?_ ?_ ?_,KT.FM.of (KT.ba1 (fun _ _ _ _ _ _ _ _=>rfl) rfl) ?_ ?_ ?_ ?_ ?_,KT.FM.of (KT.ba1 (fun _ _ _ _ _ _ _ _=>rfl) rfl) ?_ ?_ ?_ ?_ ?_,KT.FM.of (KT.ba2 (fun _ _ _ _ _ _ _ _ _=>rfl) rfl) ?_ ?_ ?_ ?_ ?_,KT.FM.of (KT.ba2 (fun _ _ _ _ _ _ _ _ _=>rfl) rfl) ?_ ?_ ?_ ?_ ?_,KT.FM.of (KT.ba2 (fun _ _ _ _ _ _ _ _ _=>rfl) rfl) ?_ ?_ ?_ ?_ ?_,KT.FM.of (KT.ba2 (fun _ _ _ _ _ _ _ _ _=>rfl) rfl) ?_ ?_ ?_ ?_ ?_,KT.FM.of (KT.ba2 (fun _ _ _ _ _ _ _ _ _=>rfl) rfl) ?_ ?_ ?_ ?_ ?_,KT.FM.of (KT.ba2 (fun _ _ _ _ _ _ _ _ _=>rfl) rfl) ?_ ?_ ?_ ?_ ?_,KT.FT.of KX G (KT.ba2 (fun _ _ _ _ _ _ _ _ _=>rfl) rfl) ?_ ?_ ?_ ?_,KT.FT.of KX G (KT.ba3 (fun _ _ _ _ _ _ _ _ _ _=>rfl) rfl) ?_ ?_ ?_ ?_,KT.FT.of KX G (KT.ba2 (fun _ _ _ _ _ _ _ _ _=>rfl) rfl) ?_ ?_ ?_ ?_,KT.FT.of KX G (KT.ba2 (fun _ _ _ _ _ _ _ _ _=>rfl) rfl) ?_ ?_ ?_ ?_,KT.FT.of KX G (KT.ba2 (fun _ _ _ _ _ _ _ _ _=>rfl) rfl) ?_ ?_ ?_ ?_,KT.FT.of KX G (KT.ba2 (fun _ _ _ _ _ _ _ _ _=>rfl) rfl) ?_ ?_ ?_ ?_,KT.FT.of KX G (KT.ba2 (fun _ _ _ _ _ _ _ _ _=>rfl) rfl) ?_ ?_ ?_ ?_,KT.FT.of KX G (KT.ba2 (fun _ _ _ _ _ _ _ _ _=>rfl) rfl) ?_ ?_ ?_ ?_,KT.FT.of KX G (KT.ba1 (fun _ _ _ _ _ _ _ _=>rfl) rfl) ?_ ?_ ?_ ?_,KT.FT.of KX G (KT.ba1 (fun _ _ _ _ _ _ _ _=>rfl) rfl) ?_ ?_ ?_ ?_,KT.FT.of KX G (KT.ba2 (fun _ _ _ _ _ _ _ _ _=>rfl) rfl) ?_ ?_ ?_ ?_,KT.FT.of KX G (KT.ba1 (fun _ _ _ _ _ _ _ _=>rfl) rfl) ?_ ?_ ?_ ?_,KT.FT.of KX G (KT.ba1 (fun _ _ _ _ _ _ _ _=>rfl) rfl) ?_ ?_ ?_ ?_,KT.FT.of KX G (KT.ba1 (fun _ _ _ _ _ _ _ _=>rfl) rfl) ?_ ?_ ?_ ?_,KT.FT.of KX G (KT.ba1 (fun _ _ _ _ _ _ _ _=>rfl) rfl) ?_ ?_ ?_ ?_,KT.FT.of KX G (KT.ba1 (fun _ _ _ _ _ _ _ _=>rfl) rfl) ?_ ?_ ?_ ?_,KT.FM.of (KT.ba5 (fun _ _ _ _ _ _ _ _ _ _ _ _=>rfl) rfl) ?_ ?_ ?_ ?_ ?_,KT.FT.of KX G (KT.ba3 (fun _ _ _ _ _ _ _ _ _ _=>rfl) rfl) ?_ ?_ ?_ ?_,KT.FT.of KX G (KT.ba2 (fun _ _ _ _ _ _ _ _ _=>rfl) rfl) ?_ ?_ ?_ ?_,KT.FT.of KX G (KT.ba1 (fun _ _ _ _ _ _ _ _=>rfl) rfl) ?_ ?_ ?_ ?_,KT.FT.of KX G (KT.ba1 (fun _ _ _ _ _ _ _ _=>rfl) rfl) ?_ ?_ ?_ ?_,KT.FM.of (KT.ba2 (fun _ _ _ _ _ _ _ _ _=>rfl) rfl) ?_ ?_ ?_ ?_ ?_,KT.FM.of (KT.ba3 (fun _ _ _ _ _ _ _ _ _ _=>rfl) rfl) ?_ ?_ ?_ ?_ ?_,KT.FM.of (KT.ba3 (fun _ _ _ _ _ _ _ _ _ _=>rfl) rfl) ?_ ?_ ?_ ?_ ?_,KT.FM.of (KT.ba4 (fun _ _ _ _ _ _ _ _ _ _ _=>rfl) rfl) ?_ ?_ ?_ ?_ ?_,KT.FM.of (KT.ba1 (fun _ _ _ _ _ _ _ _=>rfl) rfl) ?_ ?_ ?_ ?_ ?_,KT.FM.of (KT.ba1 (fun _ _ _ _ _ _ _ _=>rfl) rfl) ?_ ?_ ?_ ?_ ?_,KT.FM.of (KT.ba1 (fun _ _ _ _ _ _ _ _=>rfl) rfl) ?_ ?_ ?_ ?_ ?_,KT.FM.of (KT.ba1 (fun _ _ _ _ _ _ _ _=>rfl) rfl) ?_ ?_ ?_ ?_ ?_,KT.FM.of (KT.ba1 (fun _ _ _ _ _ _ _ _=>rfl) rfl) ?_ ?_ ?_ ?_ ?_,KT.FT.of KX G (KT.ba1 (fun _ _ _ _ _ _ _ _=>rfl) rfl) ?_ ?_ ?_ ?_,KT.FT.of KX G (KT.ba1 (fun _ _ _ _ _ _ _ _=>rfl) rfl) ?_ ?_ ?_ ?_,KT.FT.of KX G (KT.ba1 (fun _ _ _ _ _ _ _ _=>rfl) rfl) ?_ ?_ ?_ ?_,KT.FT.of KX G (KT.ba2 (fun _ _ _ _ _ _ _ _ _=>rfl) rfl) ?_ ?_ ?_ ?_,KT.FT.of KX G (KT.ba1 (fun _ _ _ _ _ _ _ _=>rfl) rfl) ?_ ?_ ?_ ?_,KT.FT.of KX G (KT.ba1 (fun _ _ _ _ _ _ _ _=>rfl) rfl) ?_ ?_ ?_ ?_,KT.FT.of KX G (KT.ba1 (fun _ _ _ _ _ _ _ _=>rfl) rfl) ?_ ?_ ?_ ?_,KT.FT.of KX G (KT.ba1 (fun _ _ _ _ _ _ _ _=>rfl) rfl) ?_ ?_ ?_ ?_,KT.FT.of KX G (KT.ba1 (fun _ _ _ _ _ _ _ _=>rfl) rfl) ?_ ?_ ?_ ?_,KT.FT.of KX G (KT.ba1 (fun _ _ _ _ _ _ _ _=>rfl) rfl) ?_ ?_ ?_ ?_,KT.FT.of KX G (KT.ba1 (fun _ _ _ _ _ _ _ _=>rfl) rfl) ?_ ?_ ?_ ?_,KT.FT.of KX G (KT.ba2 (fun _ _ _ _ _ _ _ _ _=>rfl) rfl) ?_ ?_ ?_ ?_,KT.FT.of KX G (KT.ba1 (fun _ _ _ _ _ _ _ _=>rfl) rfl) ?_ ?_ ?_ ?_,KT.FT.of KX G (KT.ba3 (fun _ _ _ _ _ _ _ _ _ _=>rfl) rfl) ?_ ?_ ?_ ?_,KT.FT.of KX G (KT.ba2 (fun _ _ _ _ _ _ _ _ _=>rfl) rfl) ?_ ?_ ?_ ?_,KT.FT.of KX G (KT.ba1 (fun _ _ _ _ _ _ _ _=>rfl) rfl) ?_ ?_ ?_ ?_,KT.FT.of KX G (KT.ba1 (fun _ _ _ _ _ _ _ _=>rfl) rfl) ?_ ?_ ?_ ?_,KT.FT.of KX G (KT.ba1 (fun _ _ _ _ _ _ _ _=>rfl) rfl) ?_ ?_ ?_ ?_,KT.FT.of KX G (KT.ba2 (fun _ _ _ _ _ _ _ _ _=>rfl) rfl) ?_ ?_ ?_ ?_,KT.FT.of KX G (KT.ba2 (fun _ _ _ _ _ _ _ _ _=>rfl) rfl) ?_ ?_ ?_ ?_,KT.FT.of KX G (KT.ba3 (fun _ _ _ _ _ _ _ _ _ _=>rfl) rfl) ?_ ?_ ?_ ?_,KT.FT.of KX G (KT.ba3 (fun _ _ _ _ _ _ _ _ _ _=>rfl) rfl) ?_ ?_ ?_ ?_,KT.FT.of KX G (KT.ba1 (fun _ _ _ _ _ _ _ _=>rfl) rfl) ?_ ?_ ?_ ?_,KT.FT.of KX G (KT.ba2 (fun _ _ _ _ _ _ _ _ _=>rfl) rfl) ?_ ?_ ?_ ?_,KT.FT.of KX G (KT.ba3 (fun _ _ _ _ _ _ _ _ _ _=>rfl) rfl) ?_ ?_ ?_ ?_,KT.FT.of KX G (KT.ba2 (fun _ _ _ _ _ _ _ _ _=>rfl) rfl) ?_ ?_ ?_ ?_,KT.FT.of KX G (KT.ba1 (fun _ _ _ _ _ _ _ _=>rfl) rfl) ?_ ?_ ?_ ?_,KT.FT.of KX G (KT.ba4 (fun _ _ _ _ _ _ _ _ _ _ _=>rfl) rfl) ?_ ?_ ?_ ?_,KT.FT.of KX G (KT.ba2 (fun _ _ _ _ _ _ _ _ _=>rfl) rfl) ?_ ?_ ?_ ?_,KT.FT.of KX G (KT.ba1 (fun _ _ _ _ _ _ _ _=>rfl) rfl) ?_ ?_ ?_ ?_,⟨?_,?_,?_,?_⟩,⟨?_,?_,?_,?_⟩,⟨?_,?_,?_,?_⟩,mg_of KX G ?_,mg_of KX G ?_,mg_of KX G ?_,mg_of KX G ?_,mg_of KX G ?_,mg_of KX G ?_,mg_of KX G ?_,mg_of KX G ?_,mg_of KX G ?_,mg_of KX G ?_,L2.kdict_mk2 ?_ ?_ ?_ (by decide) ?_,mg_of KX G ?_,L2.kdict_mk5 ?_ ?_ ?_ ?_ ?_ ?_ (by decide) ?_,mg_of KX G ?_,L2.ktup_mk2 ?_,mg_of KX G ?_,L2.ktup_mk3 ?_,fun s u=>.of_eq rfl,mg_none_of KX G ?_,mg_none_of KX G ?_,mg_none_of KX G ?_,mg_none_of KX G ?_,mg_none_of KX G ?_,mg_none_of KX G ?_,mg_none_of KX G ?_,mg_none_of KX G ?_,mg_none_of KX G ?_,mg_none_of KX G ?_,mg_none_of KX G ?_,mg_none_of KX G ?_,mg_none_of KX G ?_,mg_none_of KX G ?_,mg_none_of KX G ?_,mg_none_of KX G ?_,mg_of KX G ?_,⟨?_⟩,mg_of KX G ?_,⟨?_⟩,mg_of KX G ?_,⟨?_⟩,mg_of KX G ?_,⟨?_⟩,mg_of KX G ?_,⟨?_⟩,mg_of KX G ?_,⟨?_⟩,mg_of KX G ?_,⟨?_⟩,mg_of KX G ?_,⟨?_⟩,mg_of KX G ?_,⟨?_⟩,mg_of KX G ?_,⟨?_⟩,mg_of KX G ?_,mg_of KX G ?_,⟨?_⟩,mg_of KX G ?_,⟨?_⟩,?_,?_,?_⟩⟩
   any_goals first | k_is | k_exc | rfl | kernel_rfl
  obtain ⟨t,T⟩:=T
  have e0:=hmg.symm.trans T.iF.g
  cases e0
  refine' ⟨_,?b,fun base kb nb=>KT.ok_law T⟩
  exact T.bl
#print axioms PySem.Challenge.cw_tentloops_k67_orders_refused_holds
