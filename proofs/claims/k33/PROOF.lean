import PyProof.Rows.All
import Wide.All
import OpenK.AllK
import Wide.FinOn
import Lean
import PyProof.EqAt
import PyProof.EqKinds
import PyProof.TupleCall
import PySem.Challenge.RW_tentloops_k33_too_many_crossings
set_option Elab.async false
set_option linter.all false
set_option autoImplicit true
set_option relaxedAutoImplicit true
set_option maxRecDepth 100000
universe u v
theorem Y{α:Sort v}{a:α}:a=a:=rfl
def An(n:Nat):n<=n:=Nat.le_refl n
def Ao{h:PySem.Heap}{a:PySem.Addr}{o:PySem.Obj}:h.get? a=some o->a<h.objs.size:=PySem.Heap.lt_size
def Ap(h:PySem.Heap){o:PySem.Obj}:o.isFreed=false->(h.push o).get? h.objs.size=some o:=PySem.Heap.get?_push_size h
def Aq{α:Type u}{a:List α}:a.toArray.size=a.length:=List.size_toArray
def Ar{α:Type u}{b:α}{l:List α}{a:α}:a∈b::l->a=b\/a∈l:=List.mem_cons.mp
def As{a b:Nat}:a<b->a≠b:=Nat.ne_of_lt
def At{α:Type u}{a:α}:[a].length=1:=List.length_singleton
def Au{α:Type u}{l:List α}{i:Nat}{a:α}:l[i]?=some a->a∈l:=List.mem_of_getElem?
def Av{α:Type u}{l k:List α}{i:Nat}:i<l.length->(l++k)[i]?=l[i]?:=List.getElem?_append_left
def Aw{α:Type u}{l:List α}{i:Nat}:l.take (i+1)=l.take i++l[i]?.toList:=List.take_add_one
def Ax{α:Type u}{a b:α}:some a=some b->a=b:=Option.some.inj
def Ay{α:Type u}{l:List α}{i:Nat}:l.length<=i->l[i]?=none:=List.getElem?_eq_none
def Az(n:Nat):0<=n:=Nat.zero_le n
def Aa{α:Type u}{i:Nat}{a:α}{l:List α}:l[i]?=some a->∃ h:i<l.length,l[i]=a:=List.getElem?_eq_some_iff.mp
def Ab{α:Type u}{β:Type v}{as:List α}(f:α->β):(as.map f).length=as.length:=List.length_map f
def Ac{α:Type u}{l:List α}{i:Nat}(h:i<l.length):l[i]?=some l[i]:=List.getElem?_eq_getElem h
def Ad{α:Type u}{l:List α}{i:Nat}{a:α}:l.getD i a=l[i]?.getD a:=List.getD_eq_getElem?_getD
def Ae{α:Type u}{as bs:List α}:(as++bs).length=as.length+bs.length:=List.length_append
def Af{α:Type u}{a b:α}:a∈[b]->a=b:=List.mem_singleton.mp
def Ag{n m k:Nat}:n<m->m<=k->n<k:=Nat.lt_of_lt_of_le
def Ah{α:Type u}{β:Type v}{f:α->β}{l:List α}{i:Nat}:(l.map f)[i]?=(l[i]?).map f:=List.getElem?_map
def Ai{α:Type u}{i:Nat}{l:List α}:(l.take i).length=min i l.length:=List.length_take
def Aj{α:Type u}{β:Type v}{f:α->β}{l₁ l₂:List α}:(l₁++l₂).map f=l₁.map f++l₂.map f:=List.map_append
def Ak{h:PySem.Heap}{a:PySem.Addr}{o':PySem.Obj}(o:PySem.Obj)(e:h.get? a=some o'):(h.push o).get? a=some o':=PySem.Heap.get?_push_of_some o e
def Al{α β:Type}{M:PySem.Model}{A:PySem.Around}{E:PySem.Value->PySem.Shared->Prop}{s:PySem.Shared}{m:PySem.Sem α}{f:α->PySem.Sem β}{Q:β->PySem.Shared->Prop}(h:PySem.wpAny M A m (λa s'=>PySem.wpAny M A (f a) Q E s') E s):PySem.wpAny M A (m>>=f) Q E s:=PySem.wpAny_bind h
set_option maxHeartbeats 4000000
namespace L2
open PySem PySem.Spec PyProof.Rows
abbrev Key:=Sum Int Str
def Uk:Key->Value->Bool
 | .inl k,v=>Value.isInt k v
 | .inr x,v=>Value.isStrOf x v
def keyH (w:World):Key->Int
 | .inl k=>hashInt k
 | .inr x=>hashStr w x
theorem Yx:∀ {k:Key} {v:Value},Uk k v=true->(∃ i t,k=Sum.inl i/\v=Value.int i t)\/(∃ x t,k=Sum.inr x/\v=Value.str x t)
 | .inl i,v,h=>by
  obtain ⟨t,e⟩:=Value.isInt_shape (k:=i) (v:=v) h;exact .inl ⟨i,t,Y,e⟩
 | .inr x,v,h=>by
  obtain ⟨t,e⟩:=Value.isStrOf_shape (x:=x) (v:=v) h;exact .inr ⟨x,t,Y,e⟩
def Zh2 (i:Int) (t:Tok):Uk (.inl i) (.int i t)=true:=by simp [Uk,Value.isInt]
def Qb (x:Str) (t:Tok):Uk (.inr x) (.str x t)=true:=by simp [Uk,Value.isStrOf]
def Znv (a b:Int):decide ((Sum.inl a:Key)=Sum.inl b)=(a == b):=by
 by_cases e:a=b
 ·subst e; simp
 ·have h:¬ (Sum.inl a:Key)=Sum.inl b:=λq=>e (Sum.inl.inj q)
  rw [decide_eq_false h];exact (beq_eq_false_iff_ne.mpr e).symm
def Zns (a b:Str):decide ((Sum.inr a:Key)=Sum.inr b)=decide (a=b):=by
 by_cases e:a=b
 ·subst e; simp
 ·have h:¬ (Sum.inr a:Key)=Sum.inr b:=λq=>e (Sum.inr.inj q)
  rw [decide_eq_false h,decide_eq_false e]
def Znu (a:Int) (b:Str):decide ((Sum.inl a:Key)=Sum.inr b)=false:=decide_eq_false (λq=>nomatch q)
def Znt (a:Str) (b:Int):decide ((Sum.inr a:Key)=Sum.inl b)=false:=decide_eq_false (λq=>nomatch q)
def Z1 (prog:Program) (w:World):PySem.KeyKind prog w Key where
 is:=Uk
 hash:=keyH w
 inj:=λv a b ha hb=>by
  rcases Yx ha with ⟨i,t,rfl,rfl⟩ | ⟨x,t,rfl,rfl⟩
  ·rcases Yx hb with ⟨j,u,rfl,e⟩ | ⟨y,u,rfl,e⟩
   ·injection e with e1 _; rw [e1]
   ·exact nomatch e
  ·rcases Yx hb with ⟨j,u,rfl,e⟩ | ⟨y,u,rfl,e⟩
   ·exact nomatch e
   ·injection e with e1 _; rw [e1]
 byValue:=λk v h=>by
  rcases Yx h with ⟨i,t,rfl,rfl⟩ | ⟨x,t,rfl,rfl⟩ <;> rfl
 pyHash:=λhv h=>by
  rcases Yx hv with ⟨i,t,rfl,rfl⟩ | ⟨x,t,rfl,rfl⟩
  ·exact wpAny_pyHash_int h
  ·exact wpAny_pyHash_str h
 eqBool:=λhu hv h=>by
  rcases Yx hu with ⟨i,t,rfl,rfl⟩ | ⟨x,t,rfl,rfl⟩
  ·rcases Yx hv with ⟨j,u,rfl,rfl⟩ | ⟨y,u,rfl,rfl⟩
   ·rw [Znv] at h; exact wpAny_eqBool_int h
   ·rw [Znu] at h; exact SeqAt.EqAt.int_str i t y u _ _ _ _ h
  ·rcases Yx hv with ⟨j,u,rfl,rfl⟩ | ⟨y,u,rfl,rfl⟩
   ·rw [Znt] at h; exact SeqAt.EqAt.str_int x t j u _ _ _ _ h
   ·rw [Zns] at h; exact wpAny_eqBool_str h
 «strs»:=λk x t v h=>by
  rcases Yx h with ⟨i,u,rfl,e⟩ | ⟨y,u,rfl,e⟩
  ·exact nomatch e
  ·injection e with e1 _
   subst e1;cases v <;> rfl
def Zd0 (prog:Program) (w:World) (i:Int) (t:Tok):(Z1 prog w).is (.inl i) (.int i t)=true:=Zh2 i t
def Zdz (prog:Program) (w:World) (x:Str) (t:Tok):(Z1 prog w).is (.inr x) (.str x t)=true:=Qb x t
inductive V where
 | non | bl (b:Bool) | int (i:Int) | str (x:Str) | byt (b:Array UInt8) | flt (b:UInt64) | ref (a:Addr) | ty (n:String)
 deriving DecidableEq
set_option genInjectivity false
set_option genSizeOf false
def RelV:V->Value->Prop
 | .non,u=>u=Value.none
 | .bl b,u=>u=Value.bool b
 | .int i,u=>∃ t,u=Value.int i t
 | .str x,u=>∃ t,u=Value.str x t
 | .byt b,u=>∃ t,u=Value.bytes b t
 | .flt b,u=>∃ t,u=Value.float b t
 | .ref a,u=>u=Value.ref a
 | .ty n,u=>u=Value.type n
abbrev Vals:List V->List Value->Prop:=Paired RelV
def Vals.length {xs:List V} {us:List Value} (r:Vals xs us):xs.length=us.length:=Paired.length r
theorem Vals.get:∀ {xs:List V} {us:List Value} {i:Nat} {x:V},Vals xs us->xs[i]?=some x->∃ u,us[i]?=some u/\RelV x u
 | _,_,_,_,.nil,e=>by simp at e
 | _,_,0,_,.cons r _,e=>by simp at e; subst e; exact ⟨_,Y,r⟩
 | _,_,i + 1,x,.cons _ t,e=>by
  obtain ⟨u,h1,h2⟩:=Vals.get (i:=i) (x:=x) t (by simpa using e);exact ⟨u,by simpa using h1,h2⟩
theorem Vals.set (r:RelV x u):∀ {xs:List V} {us:List Value} (i:Nat),Vals xs us->Vals (xs.set i x) (us.set i u)
 | _,_,_,.nil=>.nil
 | _,_,0,.cons _ t=>.cons r t
 | _,_,i + 1,.cons q t=>.cons q (Vals.set r i t)
theorem Vals.append:∀ {xs ys:List V} {us ws:List Value},Vals xs us->Vals ys ws->Vals (xs ++ ys) (us ++ ws)
 | _,_,_,_,.nil,s=>s
 | _,_,_,_,.cons r t,s=>.cons r (Vals.append t s)
theorem Vals.take:∀ {xs:List V} {us:List Value} (n:Nat),Vals xs us->Vals (xs.take n) (us.take n)
 | _,_,0,_=>.nil
 | _,_,_ + 1,.nil=>.nil
 | _,_,n + 1,.cons r t=>.cons r (Vals.take n t)
theorem Vals.drop:∀ {xs:List V} {us:List Value} (n:Nat),Vals xs us->Vals (xs.drop n) (us.drop n)
 | _,_,0,r=>r
 | _,_,_ + 1,.nil=>.nil
 | _,_,n + 1,.cons _ t=>Vals.drop n t
def RelO:Option V->Option Value->Prop
 | some v,some u=>RelV v u
 | none,none=>True
 | _,_=>False
def KV {κ:Type}:List (κ × V)->List (κ × Value)->Prop:=Paired λ(p:κ × V) (q:κ × Value)=>p.1=q.1/\RelV p.2 q.2
def kV:Key->V
 | .inl i=>.int i
 | .inr x=>.str x
inductive HO where
 /-- a list -/
 | lst (xs:List V)
 /-- a tuple (never changes) -/
 | tup (xs:List V)
 /-- a dict whose keys are ints and texts; one whose keys are tuples of ints and texts (the empty one is both) -/
 | dK (kvs:List (Key × V)) | dT (kvs:List (List Key × V))
 /-- a set of ints: its members,its size -/
 | set (S:Int->Bool) (n:Nat)
 /-- an instance of the class at C,its dict at dx,its attributes -/
 | ins (C dx:Addr) (fs:List (Str × V))
 /-- the dict of the instance at x -/
 | own (x:Addr)
 /-- the dict of an exception -/
 | xd (fs:List (Str × V))
 /-- a bound method,f of x -/
 | met (f x:Addr)
 /-- a range object lo,lo + 1,.. below hi -/
 | rng (lo hi:Int)
 /-- a thing that is known to the object (the script; a dict while a loop walks it): read,never written while it is so -/
 | frz (o:Obj) (u:HO)
 /-- a code object's table -/
 | tbl (ps:Array Value)
 /-- any other thing,by what is true of its one object (a def of one's own: SetO a S n:=HO.ext λh=>..) -/
 | ext (φ:Heap->Prop)
abbrev Hp:=Addr->Option HO
def upd (H:Hp) (a:Addr) (o:HO):Hp:=λb=>if b=a then some o else H b
def Zc:upd H a o a=some o:=by unfold upd; rw [if_pos rfl]
def Zf (h:b≠a):upd H a o b=H b:=by unfold upd; rw [if_neg h]
def Zoq {H:Hp} (h:H a=some o) (h':H b=some u) (d:o≠u):a≠b:=by
 intro e; subst e; rw [h] at h'; exact d (Ax h')
def Zj {H:Hp} (h:H a=some o) (h':H b=none):a≠b:=by
 intro e; subst e; rw [h] at h'; cases h'
section
variable (P:Program) (w:World)
def Z9 (H:Hp) (h:Heap) (a:Addr):HO->Prop
 | .lst xs=>xs.length<=sizeLine/\∃ (its:List Value) (n:Nat),Vals xs its/\h.get? a=some { cls:=.type "list",data:=.seq its.toArray n }
 | .tup xs=>xs.length<=sizeLine/\∃ its:List Value,Vals xs its/\IsTup h a its.toArray
 | .dK kvs=>kvs.length<=sizeLine/\(a == sysModules)=false/\∃ vs,KV kvs vs/\h.DictOf (Z1 P w) a vs
 | .dT kvs=>kvs.length<=sizeLine/\(a == sysModules)=false/\∃ xs:List (List Key × Addr × Value),
   Paired (λ(p:List Key × V) (q:List Key × Addr × Value)=>p.1=q.1/\H q.2.1=some (.tup (p.1.map kV))/\RelV p.2 q.2.2) kvs xs /\
   ∃ o es ep,h.get? a=some o/\o.ExactDict/\o.data=.dict es ep/\es.toList=xs.map (entryOfKey (tupleKind (Z1 P w)))/\(xs.map (·.1)).Nodup
 | .set S n=>h.SetOf (intKind P w) a S n
 | .ins C dx fs=>H dx=some (.own a)/\fs.length<=1000/\dx≠a/\h.get? a=some (PySem.W.instObj C dx) /\
   ∃ mA,h.Ns1 dx mA/\(∀ f,RelO (fs.lookup f) (mA f))/\PySem.Within mA (fs.map (·.1))
 | .own _=>∃ o,h.get? a=some o
 | .xd fs=>∃ mA,h.Ns1 a mA/\∀ f,RelO (fs.lookup f) (mA f)
 | .rng lo hi=>∃ t u v,h.get? a=some { cls:=.type "range",data:=.fields #[.int lo t,.int hi u,.int 1 v] }
 | .frz o u=>h.get? a=some o/\Z9 H h a u
 | .tbl ps=>h.get? a=some { cls:=.none,data:=.fields ps }
 | .met f x=>h.get? a=some (PySem.W.methodObj (.ref f) (.ref x))
 | .ext φ=>φ h/\(∃ o,h.get? a=some o)/\∀ h1 h2:Heap,φ h1->(∀ o,h1.get? a=some o->h2.get? a=some o)->φ h2
def HOk (H:Hp) (h:Heap):Prop:=∀ a o,H a=some o->Z9 P w H h a o
end
section
variable {P:Program} {w:World} {H H':Hp} {h h':Heap} {a:Addr} {o:HO}
def Z9.lt (x:Z9 P w H h a o):a < h.objs.size:=by
 cases o with
 | lst xs=>obtain ⟨_,_,_,_,e⟩:=x; exact Ao e
 | tup xs=>obtain ⟨_,_,_,p⟩:=x; exact p.lt
 | dK kvs=>obtain ⟨_,_,_,_,o,_,_,e,_⟩:=x; exact Ao e
 | dT kvs=>obtain ⟨_,_,_,_,o,_,_,e,_⟩:=x; exact Ao e
 | set S n=>obtain ⟨o,_,_,_,e,_⟩:=x; exact Ao e
 | ins C dx fs=>obtain ⟨_,_,_,e,_⟩:=x; exact Ao e
 | own y=>obtain ⟨_,e⟩:=x; exact Ao e
 | xd fs=>obtain ⟨_,⟨_,_,_,e,_⟩,_⟩:=x; exact Ao e
 | rng lo hi=>obtain ⟨_,_,_,e⟩:=x; exact Ao e
 | frz ob u=>obtain ⟨e,_⟩:=x; exact Ao e
 | tbl ps=>exact Ao (show h.get? a=some _ from x)
 | met f y=>exact Ao (show h.get? a=some _ from x)
 | ext φ=>obtain ⟨_,⟨_,e⟩,_⟩:=x; exact Ao e
theorem Paired.mapP {α β:Type} {F G:α->β->Prop}:∀ {l₁:List α} {l₂:List β},Paired F l₁ l₂->(∀ a b,F a b->G a b)->Paired G l₁ l₂
 | _,_,.nil,_=>.nil
 | _,_,.cons r t,f=>.cons (f _ _ r) (Paired.mapP t f)
def Z9.stay (x:Z9 P w H h a o) (k:∀ b u,(b=a\/H b=some (.own a))->h.get? b=some u->h'.get? b=some u)
  (ho:∀ b,H b=some (.own a)->H' b=some (.own a)) (ht:∀ b xs,H b=some (.tup xs)->H' b=some (.tup xs)):Z9 P w H' h' a o:=by
 induction o with
 | lst xs=>obtain ⟨z,its,n,r,e⟩:=x; exact ⟨z,its,n,r,k _ _ (.inl Y) e⟩
 | tup xs=>obtain ⟨z,its,r,ob,e,c⟩:=x; exact ⟨z,its,r,ob,k _ _ (.inl Y) e,c⟩
 | dK kvs=>obtain ⟨z,y,vs,r,ob,es,ep,e,c⟩:=x; exact ⟨z,y,vs,r,ob,es,ep,k _ _ (.inl Y) e,c⟩
 | dT kvs =>
  obtain ⟨z,y,xs,r,ob,es,ep,e,c⟩:=x;exact ⟨z,y,xs,Paired.mapP r λp q z=>⟨z.1,ht _ _ z.2.1,z.2.2⟩,ob,es,ep,k _ _ (.inl Y) e,c⟩
 | set S n=>obtain ⟨ob,es,ep,t,e,c⟩:=x; exact ⟨ob,es,ep,t,k _ _ (.inl Y) e,c⟩
 | ins C dx fs =>
  obtain ⟨d,z,ne,e,mA,⟨od,es,ep,e2,c⟩,r⟩:=x;exact ⟨ho _ d,z,ne,k _ _ (.inl Y) e,mA,⟨od,es,ep,k _ _ (.inr d) e2,c⟩,r⟩
 | own y=>obtain ⟨ob,e⟩:=x; exact ⟨ob,k _ _ (.inl Y) e⟩
 | xd fs=>obtain ⟨mA,⟨od,es,ep,e,c⟩,r⟩:=x; exact ⟨mA,⟨od,es,ep,k _ _ (.inl Y) e,c⟩,r⟩
 | rng lo hi=>obtain ⟨t,u,v,e⟩:=x; exact ⟨t,u,v,k _ _ (.inl Y) e⟩
 | frz ob u ih=>obtain ⟨e,q⟩:=x; exact ⟨k _ _ (.inl Y) e,ih q⟩
 | tbl ps =>
  have e:h.get? a=some { cls:=.none,data:=.fields ps }:=x;show h'.get? a=some { cls:=.none,data:=.fields ps };exact k a _ (.inl Y) e
 | met f y =>
  have e:h.get? a=some (PySem.W.methodObj (.ref f) (.ref y)):=x;show h'.get? a=some (PySem.W.methodObj (.ref f) (.ref y));exact k a _ (.inl Y) e
 | ext φ=>obtain ⟨p,⟨o,e⟩,st⟩:=x; exact ⟨st _ _ p λo q=>k _ _ (.inl Y) q,⟨o,k _ _ (.inl Y) e⟩,st⟩
def HOk.lt (x:HOk P w H h) (e:H a=some o):a < h.objs.size:=(x a o e).lt
def HOk.fresh (x:HOk P w H h) (e:h.objs.size<=a):H a=none:=by
 cases q:H a with
 | none=>rfl
 | some u=>exact absurd (Ag (x.lt q) e) (Nat.lt_irrefl _)
def HOk.kept (x:HOk P w H h) (k:∀ b u,h.get? b=some u->h'.get? b=some u):HOk P w H h':=λa o e =>
 (x a o e).stay (λb u _ q=>k b u q) (λ_ q=>q) λ_ _ q=>q
def HOk.laid (x:HOk P w H h) (k:∀ b u,h.get? b=some u->h'.get? b=some u) (hp:h.objs.size<=a) (new:Z9 P w (upd H a o) h' a o):HOk P w (upd H a o) h':=λb u e=>by
 have hn:=x.fresh hp;by_cases hb:b=a
 ·subst hb; rw [Zc] at e; cases e; exact new
 ·rw [Zf hb] at e
  exact (x b u e).stay (λc v _ q=>k c v q) (λc q=>by rw [Zf (Zj q hn)]; exact q) λc xs q=>by rw [Zf (Zj q hn)]; exact q
end
def Rd (H:Hp) (a:Addr) (u:HO):Prop:=H a=some u\/∃ o,H a=some (.frz o u)
def Rd.ok {P:Program} {w:World} {H:Hp} {h:Heap} {a:Addr} {u:HO} (r:Rd H a u) (x:HOk P w H h):Z9 P w H h a u:=by
 rcases r with r | ⟨o,r⟩
 ·exact x a u r
 ·obtain ⟨_,q⟩:=x a _ r
  exact q
def Mut:Option HO->Prop
 | some (.lst _)=>True
 | some (.dK _)=>True
 | some (.dT _)=>True
 | some (.set _ _)=>True
 | some (.ins _ _ _)=>True
 | some (.ext _)=>True
 | _=>False
section
variable {P:Program} {w:World} {H:Hp} {h h':Heap} {x e:Addr} {o':HO}
def HOk.write (ok:HOk P w H h) (mu:Mut (H x)) (he:e=x\/H e=some (.own x)) (k:∀ b u,b≠e->h.get? b=some u->h'.get? b=some u) (uz:∃ u,h'.get? e=some u)
  (new:Z9 P w (upd H x o') h' x o'):HOk P w (upd H x o') h':=λb u q=>by
 have mm:∀ c y,H c=some (.own y)->c≠x:=λc y r z=>by subst z; rw [r] at mu; exact mu
 have kz:∀ c xs,H c=some (.tup xs)->c≠x:=λc xs r z=>by subst z; rw [r] at mu; exact mu
 by_cases hb:b=x
 ·subst hb; rw [Zc] at q; cases q; exact new
 ·rw [Zf hb] at q
  by_cases su:b=e
  ·have q':H b=some (.own x):=by
    rcases he with z | z
    ·exact absurd (su.trans z) hb
    ·rw [su]; exact z
   rw [q] at q'; cases q';obtain ⟨v,hv⟩:=uz;exact ⟨v,by rw [su]; exact hv⟩
  ·refine (ok b u q).stay (λc v hc r=>k c v ?_ r) (λc r=>by rw [Zf (mm c b r)]; exact r) λc xs r=>by rw [Zf (kz c xs r)]; exact r
   rcases hc with rfl | hc
   ·exact su
   ·rintro rfl
    rcases he with z | z
    ·exact mm c b hc z
    ·rw [hc] at z; cases z; exact hb Y
end
structure Un (fs ex:List Addr) (H H':Hp) (h h':Heap):Prop where
 keep:∀ b o,h.get? b=some o->H b=none->b ∉ fs->b ∉ ex->h'.get? b=some o
 slot:∀ b o,h.get? b=some o->H b=none->b∈fs->b ∉ ex->∃ sl,h'.get? b=some { o with slots:=sl }
 free:∀ b o,h.get? b=some o->H b=none->b ∉ ex->H' b=none
 there:∀ b o,h.get? b=some o->b ∉ ex->∃ o',h'.get? b=some o'
 tups:∀ b xs,H b=some (.tup xs)->H' b=some (.tup xs)
 frzs:∀ b o u,H b=some (.frz o u)->H' b=some (.frz o u)
 tbls:∀ b ps,H b=some (.tbl ps)->∃ more,H' b=some (.tbl (ps ++ more))
section
variable {fs fs' ex ex':List Addr} {H H1 H2:Hp} {h h1 h2 h':Heap} {a x e:Addr} {o:HO}
def Un.any (u:Un fs ex H H1 h h1) (q:h.get? b=some ob) (n:H b=none) (hx:b ∉ ex):∃ sl,h1.get? b=some { ob with slots:=sl }:=by
 by_cases hb:b∈fs
 ·exact u.slot b ob q n hb hx
 ·exact ⟨ob.slots,u.keep b ob q n hb hx⟩
def Un.kept (k:∀ b u,h.get? b=some u->h'.get? b=some u):Un fs ex H H h h' :=
 ⟨λb ob q _ _ _=>k b ob q,λb ob q _ _ _=>⟨ob.slots,k b ob q⟩,λ_ _ _ n _=>n,λb ob q _=>⟨ob,k b ob q⟩,λ_ _ q=>q,λ_ _ _ q=>q,λ_ ps q=>⟨#[],by rw [q]; simp⟩⟩
def Un.refl:Un fs ex H H h h:=Un.kept λ_ _ q=>q
def Un.laid (k:∀ b u,h.get? b=some u->h'.get? b=some u) (hp:h.objs.size<=a) (hn:H a=none):Un fs ex H (upd H a o) h h' where
 keep:=λb u q _ _ _=>k b u q
 slot:=λb u q _ _ _=>⟨u.slots,k b u q⟩
 free:=λb u q n _=>by rw [Zf (As (Ag (Ao q) hp))]; exact n
 there:=λb u q _=>⟨u,k b u q⟩
 tups:=λb xs q=>by rw [Zf (Zj q hn)]; exact q
 frzs:=λb u xs q=>by rw [Zf (Zj q hn)]; exact q
 tbls:=λb ps q=>⟨#[],by rw [Zf (Zj q hn),q]; simp⟩
def Un.write (mu:Mut (H x)) (he:e=x\/H e=some (.own x)) (k:∀ b u,b≠e->h.get? b=some u->h'.get? b=some u) (uz:∃ u,h'.get? e=some u):Un fs ex H (upd H x o) h h':=by
 have hx:∀ b,H b=none->b≠x:=λb n z=>by subst z; rw [n] at mu; exact mu
 have hb:∀ b,H b=none->b≠e:=λb n z=>by
  subst z
  rcases he with r | r
  ·exact hx b n r
  ·rw [n] at r; cases r
 have hm:∀ b u,H b=some u->¬ Mut (some u)->b≠x:=λb u q nm z=>by subst z; rw [q] at mu; exact nm mu
 refine ⟨λb u q n _ _=>k b u (hb b n) q,λb u q n _ _=>⟨u.slots,k b u (hb b n) q⟩,λb u q n _=>by rw [Zf (hx b n)]; exact n,λb u q _=>?_,
  λb xs q=>by rw [Zf (hm b _ q λz=>z)]; exact q,λb u xs q=>by rw [Zf (hm b _ q λz=>z)]; exact q,λb ps q=>⟨#[],by rw [Zf (hm b _ q λz=>z),q]; simp⟩⟩;by_cases su:b=e
 ·subst su; exact uz
 ·exact ⟨u,k b u su q⟩
end
def trk (h:Heap) (H:Hp):List Addr:=(List.range h.objs.size).filter λa=>(H a).isSome
def hidT (h:Heap) (H:Hp):Heap:=PySem.W.hideAll h (trk h H)
def Zh5 (h:Heap) (H:Hp):(hidT h H).objs.size=h.objs.size:=PySem.W.hideAll_size _ _
def Zjx {h:Heap} (e:h.get? b=some o) (n:H b=none):(hidT h H).get? b=some o :=
 PySem.W.hideAll_get _ e λhm=>by
  have q:(H b).isSome=true:=(List.mem_filter.mp hm).2;rw [n] at q; simp at q
def Zlt {h:Heap} (e:(hidT h H).get? b=some o):h.get? b=some o/\H b=none:=by
 have e':h.get? b=some o:=PySem.W.of_hideAll (trk h H) e;refine ⟨e',?_⟩
 cases q:H b with
 | none=>rfl
 | some x =>
  have hm:b∈trk h H:=List.mem_filter.mpr ⟨List.mem_range.mpr (Ao e'),by simp [q]⟩;have z:(hidT h H).get? b=none:=PySem.W.hideAll_none (trk h H) hm;rw [z] at e; cases e
def Zmj (g h:Heap) (L:Addr):List (Addr × Obj):=(List.range h.objs.size).filterMap λa=>if a=L\/(g.get? a).isSome=true then none else (h.get? a).map λo=>(a,o)
def rest (g h:Heap) (L d:Addr):List (Addr × Obj):=(Zmj g h L).filter λp=>decide (p.1≠d)
structure Mod (K:W.Frag) (mg:Str->Option Value) (base:Heap):Prop where
 kin:K.In base
 glob:base.Ns mainGlobals mg
 blt:∃ mb,base.Ns builtinsNs mb/\∀ x:Str,x≠"__name__"->mb x=bootBuiltins x
 nolimit:base.NoLimit
structure Cx where
 prog:Program
 w:World
 K:PySem.W.Frag
 mg:Str->Option Value
 base:Heap
 A:Around
 N:List Str
 s₀:Shared
 H₀:Hp
 env:Env
 outer:List Env
 stack:List Env
 ex:List Addr
 fn:Str->Bool
 calm:Bool
 pn:List (Addr × Obj)
 xe:Value->Shared->Prop
def frs (l:List Env):List Addr:=l.filterMap (·.frame)
abbrev Cx.fs (X:Cx):List Addr:=frs X.outer
def Vis (sc:Scope) (x:Str):Prop:=sc.names.lookup x=some .local\/sc.names.lookup x=some .cell\/sc.names.lookup x=some .free
def Loc (sc:Scope) (x:Str):Prop:=sc.names.lookup x=some .local\/sc.names.lookup x=some .cell
def Look (env:Env) (h:Heap) (m:Str->Option Value) (x:Str) (u:Value):Prop :=
 (env.kindOf x=some .local/\m x=some u)\/((env.kindOf x=some .cell\/env.kindOf x=some .free)/\∃ c,env.cells.lookup x=some c/\h.IsCell c (some u))
structure Cx.Ok (X:Cx):Prop where
 mod:Mod X.K X.mg X.base
 kind:X.env.scope.kind=.function
 glob:X.env.globals=mainGlobals
 blt:X.env.builtins=builtinsNs
 above:X.s₀.heap.objs.size<=X.env.locals
 inj:∀ x y c,X.env.cells.lookup x=some c->X.env.cells.lookup y=some c->x=y
 has:∀ x,(X.env.kindOf x=some .cell\/X.env.kindOf x=some .free)->∃ c,X.env.cells.lookup x=some c
 cab:∀ x c,X.fn x=true->X.env.cells.lookup x=some c->X.s₀.heap.objs.size<=c
 hd:X.calm=true->X.A.handled=none
 frames:X.A.frames=some X.stack
 stk:X.stack=X.outer\/(X.stack=X.env :: X.outer/\X.env.frame=some X.env.locals)
 exf:∀ b∈X.ex,b≠X.env.locals/\∀ x c,X.env.cells.lookup x=some c->c≠b
 bs:∀ b o,X.base.get? b=some o->X.s₀.heap.get? b=some o/\X.H₀ b=none
 bsz:X.base.objs.size<=X.s₀.heap.objs.size
 noex:∀ b o,X.base.get? b=some o->b ∉ X.ex
 exfs:∀ b∈X.ex,b ∉ X.fs
 funs:X.s₀.heap.FunFrames X.base X.outer
 frf:∀ b∈X.fs,X.H₀ b=none
structure Inv (X:Cx) (f8:List (Addr × Obj)) (σ:List (Option V)) (H:Hp) (s:Shared):Prop where
 ok:X.Ok
 os:s.os=X.s₀.os
 bare:AllBare s.gens
 base:Un X.fs X.ex X.H₀ H X.s₀.heap s.heap
 loc:∃ m,s.heap.Ns X.env.locals m/\∀ (i:Nat) (x:Str) (v:V),X.N[i]?=some x->σ[i]?=some (some v)->Vis X.env.scope x->∃ u,RelV v u/\Look X.env s.heap m x u
 cell:∀ x c,X.env.cells.lookup x=some c->∃ v,s.heap.IsCell c v
 free:H X.env.locals=none
 freeC:∀ x c,X.env.cells.lookup x=some c->H c=none
 pin:∀ p∈X.pn ++ f8,s.heap.get? p.1=some p.2/\H p.1=none/\p.1≠X.env.locals/\p.1 ∉ X.fs/\∀ v,p.2.data≠.cell v
 hok:HOk X.prog X.w H s.heap
 len:σ.length=X.N.length
section
variable {X:Cx} {f8:List (Addr × Obj)} {σ:List (Option V)} {H H':Hp} {s:Shared} {h':Heap}
def Cx.Ok.nofr (ok:X.Ok) (e:X.base.get? b=some o):b ∉ X.fs:=λhb=>by
 have:=(ok.funs.mem hb).1;rw [e] at this; cases this
def Inv.bs (I:Inv X f8 σ H s):∀ b o,X.base.get? b=some o->s.heap.get? b=some o/\H b=none:=λb o e =>
 ⟨I.base.keep b o (I.ok.bs b o e).1 (I.ok.bs b o e).2 (I.ok.nofr e) (I.ok.noex b o e),I.base.free b o (I.ok.bs b o e).1 (I.ok.bs b o e).2 (I.ok.noex b o e)⟩
def Inv.bk (I:Inv X f8 σ H s):∀ b o,X.base.get? b=some o->s.heap.get? b=some o:=λb o e=>(I.bs b o e).1
def Inv.mod (I:Inv X f8 σ H s):Mod X.K X.mg X.base:=I.ok.mod
def Inv.kIn (I:Inv X f8 σ H s):X.K.In s.heap:=I.ok.mod.kin.keeps I.bk
def Inv.lt (I:Inv X f8 σ H s):X.env.locals < s.heap.objs.size:=let ⟨_,hn,_⟩:=I.loc; hn.lt
def Inv.sz (I:Inv X f8 σ H s):X.s₀.heap.objs.size<=s.heap.objs.size:=Nat.le_trans I.ok.above (Nat.le_of_lt I.lt)
def Inv.nofs (I:Inv X f8 σ H s) {a:Addr} (h:s.heap.objs.size<=a):a ∉ X.fs:=λhb=>by
 obtain ⟨_,o,ho,_⟩:=I.ok.funs.mem hb;exact absurd (Ag (Ao ho) (Nat.le_trans I.sz h)) (Nat.lt_irrefl _)
def Inv.cne (I:Inv X f8 σ H s):∀ x c,X.env.cells.lookup x=some c->c≠X.env.locals:=λx c e z=>by
 obtain ⟨v,o,ho,hd⟩:=I.cell x c e;obtain ⟨m,⟨o',es,ep,nq,hd',_⟩,_⟩:=I.loc;rw [z,nq] at ho; cases ho; rw [hd'] at hd; cases hd
def Inv.funs (I:Inv X f8 σ H s):s.heap.FunFrames X.base X.outer:=by
 have all:∀ (l:List Env),(∀ b∈frs l,b∈X.fs)->X.s₀.heap.FunFrames X.base l->s.heap.FunFrames X.base l:=by
  intro l
  induction l with
  | nil=>intro _ _; trivial
  | cons env r ih =>
   intro hs hl;obtain ⟨hk,⟨L,o,hf,hn,ho,hd⟩,hr⟩:=hl;have hL:L∈X.fs:=hs L (by unfold frs; rw [List.filterMap_cons,hf]; exact List.mem_cons_self);obtain ⟨sl,e⟩:=I.base.slot L o ho (I.ok.frf L hL) hL λz=>I.ok.exfs L z hL;exact ⟨hk,⟨L,_,hf,hn,e,hd⟩,ih (λb hb=>hs b (by unfold frs; rw [List.filterMap_cons,hf]; exact List.mem_cons_of_mem _ hb)) hr⟩
 exact all X.outer (λ_ hb=>hb) I.ok.funs
def Inv.stack (I:Inv X f8 σ H s):s.heap.FunFrames X.base X.stack:=by
 rcases I.ok.stk with e | ⟨e,hf⟩
 ·rw [e]; exact I.funs
 ·rw [e]
  obtain ⟨m,hn,_⟩:=I.loc;refine .cons (by rw [I.ok.kind]; decide) hf hn ?_ I.funs;exact Heap.get?_none_of_le (Nat.le_trans I.ok.bsz I.ok.above)
def Inv.stkSub (I:Inv X f8 σ H s):∀ b∈frs X.stack,b∈X.env.locals :: X.fs:=λb hb=>by
 rcases I.ok.stk with e | ⟨e,hf⟩
 ·rw [e] at hb; exact List.mem_cons_of_mem _ hb
 ·rw [e] at hb
  unfold frs at hb;rw [List.filterMap_cons,hf] at hb;exact hb
def Inv.stkFree (I:Inv X f8 σ H s):∀ b∈frs X.stack,H b=none:=λb hb=>by
 rcases Ar (I.stkSub b hb) with e | hb
 ·rw [e]; exact I.free
 ·obtain ⟨_,o,ho,_⟩:=I.ok.funs.mem hb
  exact I.base.free b o ho (I.ok.frf b hb) λz=>I.ok.exfs b z hb
def Inv.step {g':Array GenState} {t':Nat} {d':Drawn} {ch:List Addr} (I:Inv X f8 σ H s)
  (ko:∀ b∈ch,(b∈X.ex\/X.s₀.heap.objs.size<=b)/\b≠X.env.locals/\(∀ x c,X.env.cells.lookup x=some c->c≠b)/\∀ p∈X.pn ++ f8,p.1≠b)
  (keep:∀ b o,b≠X.env.locals->b ∉ X.fs->b ∉ ch->s.heap.get? b=some o->H b=none->h'.get? b=some o)
  (slot:∀ b o,b≠X.env.locals->b∈X.fs->b ∉ ch->s.heap.get? b=some o->H b=none->∃ sl,h'.get? b=some { o with slots:=sl }) (free:∀ b o,b ∉ ch->s.heap.get? b=some o->H b=none->H' b=none)
  (there:∀ b o,b ∉ ch->s.heap.get? b=some o->∃ o',h'.get? b=some o')
  (tups:∀ b xs,H b=some (.tup xs)->H' b=some (.tup xs)) (frzs:∀ b o u,H b=some (.frz o u)->H' b=some (.frz o u)) (tbls:∀ b ps,H b=some (.tbl ps)->∃ more,H' b=some (.tbl (ps ++ more)))
  (ns:∀ m,s.heap.Ns X.env.locals m->h'.Ns X.env.locals m) (hok:HOk X.prog X.w H' h') (hg:AllBare g') :
  Inv X f8 σ H' { s with heap:=h',gens:=g',drawn:=d',toks:=t' }:=by
 have neL:∀ b o,X.s₀.heap.get? b=some o->b≠X.env.locals:=λb o e=>As (Ag (Ao e) I.ok.above);have y6:∀ b o,X.s₀.heap.get? b=some o->b ∉ X.ex->b ∉ ch:=λb o e hx hb=>by
  rcases (ko b hb).1 with z | z
  ·exact hx z
  ·exact absurd (Ag (Ao e) z) (Nat.lt_irrefl _)
 have kf:∀ x c,X.env.cells.lookup x=some c->∀ v,s.heap.IsCell c v->h'.IsCell c v:=λx c e v ⟨o,ho,hd⟩=>by
  have vv:c ∉ ch:=λz=>(ko c z).2.2.1 x c e rfl;by_cases hc:c∈X.fs
  ·obtain ⟨sl,q⟩:=slot c o (I.cne x c e) hc vv ho (I.freeC x c e)
   exact ⟨_,q,hd⟩
  ·exact ⟨o,keep c o (I.cne x c e) hc vv ho (I.freeC x c e),hd⟩
 refine ⟨I.ok,I.os,hg,⟨λb o e n hb hx=>?_,λb o e n hb hx=>?_,λb o e n hx=>?_,λb o e hx=>?_,λb xs e=>tups b xs (I.base.tups b xs e),λb o xs e=>frzs b o xs (I.base.frzs b o xs e),λb ps e=>?_⟩,?_,λx c e=>?_,?_,λx c e=>?_,λp hp=>?_,hok,I.len⟩
 ·exact keep b o (neL b o e) hb (y6 b o e hx) (I.base.keep b o e n hb hx) (I.base.free b o e n hx)
 ·obtain ⟨sl,e1⟩:=I.base.slot b o e n hb hx
  obtain ⟨vm,e2⟩:=slot b _ (neL b o e) hb (y6 b o e hx) e1 (I.base.free b o e n hx);exact ⟨vm,e2⟩
 ·obtain ⟨o',e1⟩:=I.base.there b o e hx
  exact free b o' (y6 b o e hx) e1 (I.base.free b o e n hx)
 ·obtain ⟨o',e1⟩:=I.base.there b o e hx
  exact there b o' (y6 b o e hx) e1
 ·obtain ⟨m1,e1⟩:=I.base.tbls b ps e
  obtain ⟨m2,e2⟩:=tbls b _ e1;exact ⟨m1 ++ m2,by rw [e2,Array.append_assoc]⟩
 ·obtain ⟨m,hn,hl⟩:=I.loc
  refine ⟨m,ns m hn,λi x v e1 e2 e3=>?_⟩;obtain ⟨u,r,l⟩:=hl i x v e1 e2 e3;refine ⟨u,r,?_⟩
  rcases l with l | ⟨k,c,e,z⟩
  ·exact .inl l
  ·exact .inr ⟨k,c,e,kf x c e _ z⟩
 ·obtain ⟨v,z⟩:=I.cell x c e
  exact ⟨v,kf x c e v z⟩
 ·obtain ⟨m,⟨o,_,_,ho,_⟩,_⟩:=I.loc
  exact free _ o (λz=>(ko _ z).2.1 Y) ho I.free
 ·obtain ⟨v,o,ho,hd⟩:=I.cell x c e
  exact free c o (λz=>(ko c z).2.2.1 x c e Y) ho (I.freeC x c e)
 ·obtain ⟨e,n,ne,nf,d⟩:=I.pin p hp
  have vv:p.1 ∉ ch:=λz=>(ko p.1 z).2.2.2 p hp rfl;exact ⟨keep p.1 p.2 ne nf vv e n,free p.1 p.2 vv e n,ne,nf,d⟩
def Inv.un {t':Nat} (I:Inv X f8 σ H s) (u:Un X.fs [] H H' s.heap h') (hok:HOk X.prog X.w H' h'):Inv X f8 σ H' { s with heap:=h',toks:=t' }:=by
 obtain ⟨m,⟨o,es,ep,ho,r⟩,_⟩:=id I.loc;obtain ⟨sl,hL⟩:=u.any ho I.free (by simp);exact I.step (g':=s.gens) (d':=s.drawn) (ch:=[]) (λ_ z=>nomatch z) (λb o _ hb _ e n=>u.keep b o e n hb (by simp)) (λb o _ hb _ e n=>u.slot b o e n hb (by simp)) (λb o _ e n=>u.free b o e n (by simp)) (λb o _ e=>u.there b o e (by simp)) u.tups u.frzs u.tbls (λm' hm=>by
  obtain ⟨o',w8,tf,nq,r'⟩:=hm
  rw [ho] at nq; cases nq
  exact ⟨_,w8,tf,hL,r'⟩) hok I.bare
def Inv.call {t':Nat} {d':Drawn} (I:Inv X f8 σ H s) (u:Un (frs X.stack) ch H H' s.heap h') (hok:HOk X.prog X.w H' h') (hg:AllBare g')
  (ko:∀ b∈ch,(b∈X.ex\/X.s₀.heap.objs.size<=b)/\b≠X.env.locals/\(∀ x c,X.env.cells.lookup x=some c->c≠b)/\∀ p∈X.pn ++ f8,p.1≠b) :
  Inv X f8 σ H' { s with heap:=h',gens:=g',drawn:=d',toks:=t' }:=by
 obtain ⟨m,⟨o,es,ep,ho,r⟩,_⟩:=id I.loc;obtain ⟨sl,hL⟩:=u.any ho I.free λz=>(ko _ z).2.1 rfl;exact I.step (ch:=ch) ko (λb o hL hb hc e n=>u.keep b o e n (λz=>(Ar (I.stkSub b z)).elim hL hb) hc) (λb o _ _ hc e n=>u.any e n hc) (λb o hc e n=>u.free b o e n hc) (λb o hc e=>u.there b o e hc) u.tups u.frzs u.tbls (λm' hm=>by
  obtain ⟨o',w8,tf,nq,r'⟩:=hm
  rw [ho] at nq; cases nq
  exact ⟨_,w8,tf,hL,r'⟩) hok hg
def Inv.turned {t':Nat} (I:Inv X f8 σ H s) (k:∀ b o,b≠it->s.heap.get? b=some o->h'.get? b=some o) (hn:H it=none) (hL:it≠X.env.locals)
  (h1:it∈X.ex\/X.s₀.heap.objs.size<=it) (h2:∀ x c,X.env.cells.lookup x=some c->c≠it) (h3:∀ p∈X.pn ++ f8,p.1≠it):Inv X f8 σ H { s with heap:=h',toks:=t' }:=by
 have nit:∀ b u,H b=some u->b≠it:=λb u e z=>by rw [z,hn] at e; cases e
 refine I.step (g':=s.gens) (d':=s.drawn) (ch:=[it]) (λb hb=>?_) (λb o _ _ hc e _=>k b o (λz=>hc (by simp [z])) e) (λb o _ _ hc e _=>⟨o.slots,k b o (λz=>hc (by simp [z])) e⟩) (λ_ _ _ _ n=>n)
  (λb o hc e=>⟨o,k b o (λz=>hc (by simp [z])) e⟩) (λ_ _ e=>e) (λ_ _ _ e=>e) (λb ps e=>⟨#[],by rw [e]; simp⟩) (λm hm=>?_) (λb u e=>?_) I.bare
 ·have e:b=it:=by simpa using hb
  subst e;exact ⟨h1,hL,h2,h3⟩
 ·obtain ⟨o,es,ep,ho,r⟩:=hm
  exact ⟨o,es,ep,k _ o (Ne.symm hL) ho,r⟩
 ·refine (I.hok b u e).stay (λc v hc q=>k c v ?_ q) (λ_ q=>q) λ_ _ q=>q
  rcases hc with z | z
  ·rw [z]; exact nit b u e
  ·exact nit c _ z
def Inv.tok (I:Inv X f8 σ H s) (t:Nat):Inv X f8 σ H { s with toks:=t }:=I.un (h':=s.heap) (t':=t) Un.refl I.hok
def Inv.kept {t':Nat} (I:Inv X f8 σ H s) (k:∀ b u,s.heap.get? b=some u->h'.get? b=some u):Inv X f8 σ H { s with heap:=h',toks:=t' }:=I.un (Un.kept k) (I.hok.kept k)
def Inv.laid {t':Nat} (I:Inv X f8 σ H s) (k:∀ b u,s.heap.get? b=some u->h'.get? b=some u) (hp:s.heap.objs.size<=a) (new:Z9 X.prog X.w (upd H a o) h' a o) :
  Inv X f8 σ (upd H a o) { s with heap:=h',toks:=t' }:=I.un (Un.laid k hp (I.hok.fresh hp)) (I.hok.laid k hp new)
def Inv.write {t':Nat} (I:Inv X f8 σ H s) (mu:Mut (H x)) (he:e=x\/H e=some (.own x)) (k:∀ b u,b≠e->s.heap.get? b=some u->h'.get? b=some u) (uz:∃ u,h'.get? e=some u)
  (new:Z9 X.prog X.w (upd H x o) h' x o):Inv X f8 σ (upd H x o) { s with heap:=h',toks:=t' }:=I.un (Un.write mu he k uz) (I.hok.write mu he k uz new)
def Inv.pins_of (I:Inv X f8 σ H s) (h:∀ p∈yg,s.heap.get? p.1=some p.2/\H p.1=none/\p.1≠X.env.locals/\p.1 ∉ X.fs/\∀ v,p.2.data≠.cell v):Inv X yg σ H s :=
 ⟨I.ok,I.os,I.bare,I.base,I.loc,I.cell,I.free,I.freeC,λp hp=>(List.mem_append.mp hp).elim (λz=>I.pin p (List.mem_append_left _ z)) (h p),I.hok,I.len⟩
def Zcr {N:List Str} (hN:N.Nodup) {i j:Nat} (a:N[i]?=some x) (b:N[j]?=some x):i=j:=by
 obtain ⟨h1,e1⟩:=Aa a;obtain ⟨h2,e2⟩:=Aa b;exact (List.getElem_inj hN).mp (e1.trans e2.symm)
def Fw (I:Inv X f8 σ H s) (hN:X.N.Nodup) (hi:X.N[i]?=some x) (hx:Loc X.env.scope x) (r:RelV v u)
  (h:∀ s',Inv X f8 (σ.set i (some v)) H s'->(∃ a,Heap.SameBut a s.heap s'.heap/\(a=X.env.locals\/X.env.cells.lookup x=some a))->Q () s') (hf:X.fn x=true\/X.env.scope.names.lookup x=some .local:=by first | exact .inl rfl | exact .inr rfl | assumption):wpAny M A (storeName X.env x u) Q E s:=by
 obtain ⟨m,hn,hl⟩:=id I.loc;have hcls:(X.env.scope.kind == .class || (X.env.scope.kind == .module && X.env.locals != X.env.globals))=false:=by rw [I.ok.kind]; rfl
 have hiσ:i < σ.length:=by rw [I.len]; exact (Aa hi).1
 have cne:=I.cne
 have ly:∀ {a:Addr} {h':Heap},(∃ o,s.heap.get? a=some o/\H a=none)->Heap.SameBut a s.heap h'->HOk X.prog X.w H h':=λ{a h'} ha hs b ob e=>by
  obtain ⟨_,_,rf⟩:=ha;refine (I.hok b ob e).stay (λc w' hc q=>(hs.2 c ?_).trans q) (λ_ q=>q) λ_ _ q=>q;rintro rfl
  rcases hc with rfl | hc
  ·rw [rf] at e; cases e
  ·rw [rf] at hc; cases hc
 rcases hx with hk | hk
 ·refine wpAny_storeName_local hk hn (λh' hn' hs=>?_) hcls
  obtain ⟨oL,_,_,pz,_⟩:=id hn;refine h _ ⟨I.ok,I.os,I.bare,⟨λb o e n hb hx=>?_,λb o e n hb hx=>?_,I.base.free,λb o e hx=>?_,I.base.tups,I.base.frzs,I.base.tbls⟩,⟨_,hn',λj y v' e1 e2 e3=>?_⟩,λy c e=>?_,I.free,I.freeC,λp hp=>?_,ly ⟨oL,pz,I.free⟩ hs,by simpa using I.len⟩ ⟨_,hs,.inl Y⟩
  ·exact (hs.2 b (As (Ag (Ao e) I.ok.above))).trans (I.base.keep b o e n hb hx)
  ·obtain ⟨sl,e1⟩:=I.base.slot b o e n hb hx
   exact ⟨sl,(hs.2 b (As (Ag (Ao e) I.ok.above))).trans e1⟩
  ·obtain ⟨o',e1⟩:=I.base.there b o e hx
   exact ⟨o',(hs.2 b (As (Ag (Ao e) I.ok.above))).trans e1⟩
  ·by_cases hj:j=i
   ·subst hj
    rw [hi] at e1; cases e1;rw [List.getElem?_set_self hiσ] at e2;cases e2;exact ⟨u,r,.inl ⟨hk,by simp⟩⟩
   ·rw [List.getElem?_set_ne (Ne.symm hj)] at e2
    obtain ⟨u',r',q⟩:=hl j y v' e1 e2 e3;refine ⟨u',r',?_⟩
    rcases q with ⟨k,e⟩ | ⟨k,c,e,z⟩
    ·refine .inl ⟨k,?_⟩
     have:y≠x:=λe=>hj (Zcr hN e1 (e ▸ hi));simp [this,e]
    ·exact .inr ⟨k,c,e,z.sameBut hs (cne y c e)⟩
  ·obtain ⟨w',z⟩:=I.cell y c e
   exact ⟨w',z.sameBut hs (cne y c e)⟩
  ·obtain ⟨e,n,ne,nf,d⟩:=I.pin p hp
   exact ⟨(hs.2 p.1 ne).trans e,n,ne,nf,d⟩
 ·have hfn:X.fn x=true:=by
   rcases hf with z | z
   ·exact z
   ·rw [z] at hk; cases hk
  obtain ⟨c,hc⟩:=I.ok.has x (.inl hk);obtain ⟨w',z⟩:=I.cell x c hc;refine wpAny_storeName_cell I.ok.kind hk hc z (λh' j4 hs=>?_);obtain ⟨oc,hoc,hocd⟩:=id z;refine h { s with heap:=h' } ⟨I.ok,I.os,I.bare,⟨λb o e n hb hx=>?_,λb o e n hb hx=>?_,I.base.free,λb o e hx=>?_,I.base.tups,I.base.frzs,I.base.tbls⟩,⟨m,hn.sameBut hs (Ne.symm (cne x c hc)),λj y v' e1 e2 e3=>?_⟩,λy c' e=>?_,I.free,I.freeC,λp hp=>?_,ly ⟨oc,hoc,I.freeC x c hc⟩ hs,by simpa using I.len⟩ ⟨c,hs,.inr hc⟩
  ·exact (hs.2 b (As (Ag (Ao e) (I.ok.cab x c hfn hc)))).trans (I.base.keep b o e n hb hx)
  ·obtain ⟨sl,e1⟩:=I.base.slot b o e n hb hx
   exact ⟨sl,(hs.2 b (As (Ag (Ao e) (I.ok.cab x c hfn hc)))).trans e1⟩
  ·obtain ⟨o',e1⟩:=I.base.there b o e hx
   exact ⟨o',(hs.2 b (As (Ag (Ao e) (I.ok.cab x c hfn hc)))).trans e1⟩
  ·by_cases hj:j=i
   ·subst hj
    rw [hi] at e1; cases e1;rw [List.getElem?_set_self hiσ] at e2;cases e2;exact ⟨u,r,.inr ⟨.inl hk,c,hc,j4⟩⟩
   ·rw [List.getElem?_set_ne (Ne.symm hj)] at e2
    obtain ⟨u',r',q⟩:=hl j y v' e1 e2 e3;refine ⟨u',r',?_⟩
    rcases q with q | ⟨k,c',e,z'⟩
    ·exact .inl q
    ·refine .inr ⟨k,c',e,z'.sameBut hs ?_⟩
     rintro rfl;exact hj (Zcr hN e1 (I.ok.inj _ _ _ e hc ▸ hi))
  ·by_cases zo:c'=c
   ·subst zo; exact ⟨_,j4⟩
   ·obtain ⟨w2,z2⟩:=I.cell y c' e
    exact ⟨w2,z2.sameBut hs zo⟩
  ·obtain ⟨e,n,ne,nf,d⟩:=I.pin p hp
   refine ⟨(hs.2 p.1 ?_).trans e,n,ne,nf,d⟩;intro q;rw [q,hoc] at e;have q':oc=p.2:=Ax e;exact d w' (by rw [<- q']; exact hocd)
def Q1 {M:Model} {A:Around} {E:Value->Shared->Prop} {i:Nat} {x:Str} {v:V} {u:Value} {Q:Unit->Shared->Prop} (I:Inv X f8 σ H s) (hN:X.N.Nodup) (hi:X.N[i]?=some x) (hx:Loc X.env.scope x) (r:RelV v u)
  (h:∀ s',Inv X f8 (σ.set i (some v)) H s'->Q () s') (hf:X.fn x=true\/X.env.scope.names.lookup x=some .local:=by first | exact .inl rfl | exact .inr rfl | assumption):wpAny M A (storeName X.env x u) Q E s :=
 Fw I hN hi hx r (λs' I' _=>h s' I') hf
def Inv.call' {s':Shared} (I:Inv X f8 σ H s) (ho:s'.os=s.os) (u:Un (frs X.stack) ch H H' s.heap s'.heap) (hok:HOk X.prog X.w H' s'.heap) (hg:AllBare s'.gens)
  (ko:∀ b∈ch,(b∈X.ex\/X.s₀.heap.objs.size<=b)/\b≠X.env.locals/\(∀ x c,X.env.cells.lookup x=some c->c≠b)/\∀ p∈X.pn ++ f8,p.1≠b):Inv X f8 σ H' s':=by
 obtain ⟨h',g',d',t',o'⟩:=s';have e:o'=s.os:=ho;subst e;exact I.call (g':=g') (t':=t') (d':=d') u hok hg ko
end
abbrev XK:=Value->Option Addr->Hp->Prop
abbrev St:=List (Option V)
abbrev VK:=V->Hp->Prop
abbrev TE:=St->Hp->VK->Prop
abbrev TT:=St->Hp->(Bool->Hp->Prop)->Prop
abbrev TA:=St->Hp->(List V->Hp->Prop)->Prop
structure Ends where
 nx:St->Hp->Prop
 rt:VK
 bk:St->Hp->Prop:=λ_ _=>False
 ct:St->Hp->Prop:=λ_ _=>False
abbrev TS:=Ends->St->Hp->Prop
def EP (X:Cx) (f8:List (Addr × Obj)) (σ:St) (Q:VK) (u:Value) (s':Shared):Prop:=∃ v H',Inv X f8 σ H' s'/\RelV v u/\Q v H'
def TP (X:Cx) (f8:List (Addr × Obj)) (σ:St) (Q:Bool->Hp->Prop) (b:Bool) (s':Shared):Prop:=∃ H',Inv X f8 σ H' s'/\Q b H'
def AP (X:Cx) (f8:List (Addr × Obj)) (σ:St) (Q:List V->Hp->Prop) (us:List Value) (s':Shared):Prop:=∃ vs H',Inv X f8 σ H' s'/\Vals vs us/\Q vs H'
def SP (X:Cx) (f8:List (Addr × Obj)) (D:Ends) (f:Flow) (s':Shared):Prop :=
 match f with
 | .next=>∃ σ' H',Inv X f8 σ' H' s'/\D.nx σ' H'
 | .brk=>∃ σ' H',Inv X f8 σ' H' s'/\D.bk σ' H'
 | .cont=>∃ σ' H',Inv X f8 σ' H' s'/\D.ct σ' H'
 | .ret u=>∃ v σ' H',Inv X f8 σ' H' s'/\RelV v u/\D.rt v H'
def PE (X:Cx) (e:Expr) (t:TE):Prop :=
 ∀ (f8:List (Addr × Obj)) (s:Shared) (σ:St) (H:Hp) (Q:VK),Inv X f8 σ H s->t σ H Q->wpAny (model X.prog X.w) X.A (eval e X.env) (EP X f8 σ Q) X.xe s
def PT (X:Cx) (e:Expr) (t:TT):Prop :=
 ∀ (f8:List (Addr × Obj)) (s:Shared) (σ:St) (H:Hp) (Q:Bool->Hp->Prop),Inv X f8 σ H s->t σ H Q->wpAny (model X.prog X.w) X.A (isTrue e X.env (eval e X.env)) (TP X f8 σ Q) X.xe s
def PW (X:Cx) (e:Expr) (t:TT):Prop :=
 ∀ (ji:Sem Value) (f8:List (Addr × Obj)) (s:Shared) (σ:St) (H:Hp) (Q:Bool->Hp->Prop),Inv X f8 σ H s->t σ H Q->wpAny (model X.prog X.w) X.A (isTrue e X.env ji) (TP X f8 σ Q) X.xe s
def PW.pt {X:Cx} {e:Expr} {t:TT} (h:PW X e t):PT X e t:=h _
def PA (X:Cx) (es:List Expr) (t:TA):Prop :=
 ∀ (pos:Pos) (f8:List (Addr × Obj)) (s:Shared) (σ:St) (H:Hp) (Q:List V->Hp->Prop),Inv X f8 σ H s->t σ H Q->wpAny (model X.prog X.w) X.A (spliced (backTo pos (starEach es X.env))) (AP X f8 σ Q) X.xe s
def PS (X:Cx) (st:Stmt) (t:TS):Prop :=
 ∀ (f8:List (Addr × Obj)) (s:Shared) (σ:St) (H:Hp) (D:Ends),Inv X f8 σ H s->t D σ H->wpAny (model X.prog X.w) X.A (exec st X.env) (SP X f8 D) X.xe s
def PSs (X:Cx) (st:List Stmt) (t:TS):Prop :=
 ∀ (f8:List (Addr × Obj)) (s:Shared) (σ:St) (H:Hp) (D:Ends),Inv X f8 σ H s->t D σ H->wpAny (model X.prog X.w) X.A (execs st X.env) (SP X f8 D) X.xe s
def thn {α:Type} {t:Sem α} {Q Q':α->Shared->Prop} {M:Model} {A:Around} {E:Value->Shared->Prop} {s:Shared} (h:wpAny M A t Q E s) (hQ:∀ a s,Q a s->Q' a s):wpAny M A t Q' E s:=wpAny_mono h hQ λ_ _ x=>x
section
variable {X:Cx}
def tVar (i:Nat):TE:=λσ H Q=>∃ v,σ[i]?=some (some v)/\Q v H
def tC (v:V):TE:=λ_ H Q=>Q v H
def Znf (hN:X.N[i]?=some x) (hv:Vis X.env.scope x) (hd:(x == ("__debug__":Str))=false:=by decide) (me:(x == ("__classdict__":Str))=false:=by decide):PE X (.Name x pos) (tVar i):=by
 intro f8 s σ H Q I h;obtain ⟨v,e,h⟩:=h;obtain ⟨m,hn,hl⟩:=I.loc;obtain ⟨u,r,l⟩:=hl i x v hN e hv;have ik:EP X f8 σ Q u s:=⟨v,H,I,r,h⟩
 rcases l with ⟨hk,hm⟩ | ⟨hk,c,hc,hcell⟩
 ·exact wpAny_Name (wpAny_loadName_local I.ok.kind hk hn hm ik) hd
 ·rcases hk with hk | hk
  ·exact wpAny_Name (wpAny_loadName_cell I.ok.kind hk hc hcell ik) hd
  ·exact wpAny_Name (wpAny_loadName_free I.ok.kind hk hc hcell ik me) hd
def Ze {i j pos}:PE X (.Constant (.int i) j pos) (tC (.int i)):=λ_ _ _ H _ I h=>wpAny_Constant_int ⟨.int i,H,I.tok _,⟨_,rfl⟩,h⟩
def Wj {b j pos}:PE X (.Constant (.bool b) j pos) (tC (.bl b)):=λ_ _ _ H _ I h=>Constant_bool ⟨.bl b,H,I,rfl,h⟩
def Ws {j pos}:PE X (.Constant .none j pos) (tC .non):=λ_ _ _ H _ I h=>Constant_none ⟨.non,H,I,rfl,h⟩
def Yf {x j pos}:PE X (.Constant (.str x) j pos) (tC (.str x)):=λ_ _ _ H _ I h=>Calls.Constant_str ⟨.str x,H,I.tok _,⟨_,rfl⟩,h⟩
def Gl (X:Cx) (x:Str):Prop:=X.env.kindOf x=some .globalImplicit
def Qw (I:Inv X f8 σ H s) (hg:Gl X x) (hm:X.mg x=some u) (h:Q u s)
  (hd:(x == ("__debug__":Str))=false:=by decide):wpAny (model X.prog X.w) X.A (eval (.Name x pos) X.env) Q E s :=
 Calls.Name_function_global I.ok.kind hg (Calls.loadGlobal_global (by rw [I.ok.glob]; exact I.mod.glob.keeps I.bk) hm h) hd
def Xf {E:Value->Shared->Prop} {f8:List (Addr × Obj)} {s:Shared} {σ:St} {H:Hp} {x:Str} {u:Value} {pos:Pos} {Q:Value->Shared->Prop} (I:Inv X f8 σ H s) (hg:Gl X x) (hm:X.mg x=none) (hv:bootBuiltins x=some u) (h:Q u s)
  (hn:x≠"__name__":=by decide) (hd:(x == ("__debug__":Str))=false:=by decide):wpAny (model X.prog X.w) X.A (eval (.Name x pos) X.env) Q E s:=by
 obtain ⟨mb,h1,h2⟩:=I.mod.blt;exact Calls.Name_function_global I.ok.kind hg (Calls.loadGlobal_builtin (by rw [I.ok.glob]; exact I.mod.glob.keeps I.bk) hm (by rw [I.ok.blt]; exact h1.keeps I.bk) ((h2 x hn).trans hv) h) hd
def Oy (hg:Gl X x) (hm:X.mg x=some u) (r:RelV v u) (hd:(x == ("__debug__":Str))=false:=by decide):PE X (.Name x pos) (tC v) :=
 λ_ _ _ H _ I h=>Qw I hg hm ⟨v,H,I,r,h⟩ hd
def Oz (hg:Gl X x) (hm:X.mg x=none) (hv:bootBuiltins x=some u) (r:RelV v u) (hn:x≠"__name__":=by decide) (hd:(x == ("__debug__":Str))=false:=by decide):PE X (.Name x pos) (tC v) :=
 λ_ _ _ H _ I h=>Xf I hg hm hv ⟨v,H,I,r,h⟩ hn hd
variable {a b:Expr} {ta tb:TE} {pos:Pos}
def PC (X:Cx) (op:CmpOp) (a b:Expr) (t:TE):Prop :=
 ∀ (f8:List (Addr × Obj)) (s:Shared) (σ:St) (H:Hp) (Q:VK),Inv X f8 σ H s->t σ H Q ->
  wpAny (model X.prog X.w) X.A (eval a X.env) (λv s₁=>wpAny (model X.prog X.w) X.A (eval b X.env) (λu s₂=>wpAny (model X.prog X.w) X.A (compareOp op v u) (EP X f8 σ Q) X.xe s₂) X.xe s₁) X.xe s
def tB (t:TE):TT:=λσ H Q=>t σ H λx H1=>∃ c,x=.bl c/\Q c H1
def Zg3 {op:CmpOp} {t:TE} (h:PC X op a b t) (h1:behindInMarks op b=false:=by first | exact nobehind _ (by decide) (by decide) | rfl):PT X (.Compare a [op] [b] pos) (tB t):=by
 intro f8 s σ H Q I hw;refine wpAny_isTrue_Compare1 (thn (h f8 s σ H _ I hw) λv s1 h1=>thn h1 λu s2 h2=>thn h2 λc s3 zz0=>?_) h1;obtain ⟨x,H1,I1,r1,q1⟩:=zz0;obtain ⟨d,rfl,q⟩:=q1;cases r1;exact wpAny_truthy_bool ⟨H1,I1,q⟩
def Wp {e:Expr} {t:TE} (h:PE X e t) (he:∀ ji,isTrue e X.env ji=(do let v <- ji; standAt e.pos; holding [v] (truthy v)):=by intro _; rfl):PT X e (tB t):=by
 intro f8 s σ H Q I hw;refine isTrue_plain (thn (h f8 s σ H _ I hw) λv s1 zz1=>?_) (he _);obtain ⟨x,H1,I1,r1,q1⟩:=zz1;obtain ⟨d,rfl,q⟩:=q1;cases r1;exact wpAny_truthy_bool ⟨H1,I1,q⟩
variable {tA yp:TT} {rest:List Expr}
def tAnd (t u:TT):TT:=λσ H Q=>t σ H λc H1=>if c=true then u σ H1 Q else Q false H1
def tOr (t u:TT):TT:=λσ H Q=>t σ H λc H1=>if c=true then Q true H1 else u σ H1 Q
def tNot (t:TT):TT:=λσ H Q=>t σ H λc H1=>Q (!c) H1
def Ox (ha:PT X a tA):PW X (.BoolOp .And [a] pos) tA:=by
 intro wh f8 s σ H Q I h;refine isTrue_and (thn (ha f8 s σ H Q I h) λc s1 e=>?_)
 cases c with
 | true=>exact isTrue_and_nil e
 | false=>exact e
def Q4 (ha:PT X a tA):PW X (.BoolOp .Or [a] pos) tA:=by
 intro wh f8 s σ H Q I h;refine isTrue_or (thn (ha f8 s σ H Q I h) λc s1 e=>?_)
 cases c with
 | false=>exact isTrue_or_nil e
 | true=>exact e
def Gi (ha:PT X a tA) (hb:PW X (.BoolOp .And (b :: rest) pos) yp):PW X (.BoolOp .And (a :: b :: rest) pos) (tAnd tA yp):=by
 intro wh f8 s σ H Q I h;refine isTrue_and (thn (ha f8 s σ H _ I h) λc s1 gk=>?_);obtain ⟨H1,I1,q1⟩:=gk
 cases c with
 | true=>exact hb wh f8 s1 σ H1 Q I1 q1
 | false=>exact ⟨H1,I1,q1⟩
def Ud (ha:PT X a tA) (hb:PW X (.BoolOp .Or (b :: rest) pos) yp):PW X (.BoolOp .Or (a :: b :: rest) pos) (tOr tA yp):=by
 intro wh f8 s σ H Q I h;refine isTrue_or (thn (ha f8 s σ H _ I h) λc s1 gk=>?_);obtain ⟨H1,I1,q1⟩:=gk
 cases c with
 | true=>exact ⟨H1,I1,q1⟩
 | false=>exact hb wh f8 s1 σ H1 Q I1 q1
def Wq (ha:PT X a tA):PT X (.UnaryOp .Not a pos) (tNot tA):=by
 intro f8 s σ H Q I h;exact isTrue_not (ha f8 s σ H (λc H1=>Q (!c) H1) I h)
def Zoj (ta tb:TE):TE:=λσ H Q=>ta σ H λx H1=>∃ c,x=.bl c/\if c=true then tb σ H1 Q else Q (.bl false) H1
def Zod (ta:TE):TE:=λσ H Q=>ta σ H λx H1=>∃ c,x=.bl c/\Q (.bl (!c)) H1
def Zch {op} {t:TE} (h:PE X a t):PE X (.BoolOp op [a] pos) t:=λf8 s σ H Q I hw=>BoolOp_one (h f8 s σ H Q I hw)
def Zck (ha:PE X a ta) (hb:PE X (.BoolOp .And (b :: rest) pos) tb):PE X (.BoolOp .And (a :: b :: rest) pos) (Zoj ta tb):=by
 intro f8 s σ H Q I h;refine BoolOp_and (thn (ha f8 s σ H _ I h) λv s1 gk=>?_);obtain ⟨x,H1,I1,r1,q1⟩:=gk;obtain ⟨c,rfl,q1⟩:=q1;cases r1;refine wpAny_truthy_bool ?_
 cases c with
 | true=>exact hb f8 s1 σ H1 Q I1 q1
 | false=>exact ⟨.bl false,H1,I1,Y,q1⟩
def Zng (ha:PE X a ta):PE X (.UnaryOp .Not a pos) (Zod ta):=by
 intro f8 s σ H Q I h;refine UnaryOp_ (thn (ha f8 s σ H _ I h) λv s1 gk=>?_);obtain ⟨x,H1,I1,r1,q1⟩:=gk;obtain ⟨c,rfl,q1⟩:=q1;cases r1;exact not_of (wpAny_truthy_bool ⟨.bl (!c),H1,I1,Y,q1⟩)
def tIf (t:TT) (ta tb:TE):TE:=λσ H Q=>t σ H λc H1=>if c=true then ta σ H1 Q else tb σ H1 Q
def Zci {c:Expr} (hc:PT X c tA) (ha:PE X a ta) (hb:PE X b tb):PE X (.IfExp c a b pos) (tIf tA ta tb):=by
 intro f8 s σ H Q I h;refine wpAny_IfExp (thn (hc f8 s σ H _ I h) λd s1 gk=>?_);obtain ⟨H1,I1,q1⟩:=gk
 cases d with
 | true=>exact ha f8 s1 σ H1 Q I1 q1
 | false=>exact hb f8 s1 σ H1 Q I1 q1
end
def SqL (K:W.Frag) (H:Hp) (a:Addr) (xs:List V):Prop :=
 Rd H a (.lst xs) \/
  ∃ (o:Obj) (its:Array Value) (n:Nat),K.lookup a=some o/\o.cls=.type "list"/\o.dict=none/\o.data=.seq its n/\its.size<=sizeLine/\Vals xs its.toList
def SqT (K:W.Frag) (H:Hp) (a:Addr) (xs:List V):Prop :=
 Rd H a (.tup xs) \/
  ∃ (o:Obj) (its:Array Value) (n:Nat),K.lookup a=some o/\o.cls=.type "tuple"/\o.data=.seq its n/\its.size<=sizeLine/\Vals xs its.toList
def absV:Value->Option V
 | .none=>some .non
 | .bool b=>some (.bl b)
 | .int i _=>some (.int i)
 | .str x _=>some (.str x)
 | .bytes b _=>some (.byt b)
 | .float b _=>some (.flt b)
 | .ref a=>some (.ref a)
 | .type n=>some (.ty n)
 | _=>none
def RelV.abs (r:RelV x u):absV u=some x:=by
 cases x with
 | non=>cases r; rfl
 | bl _=>cases r; rfl
 | int _=>obtain ⟨t,rfl⟩:=r; rfl
 | str _=>obtain ⟨t,rfl⟩:=r; rfl
 | byt _=>obtain ⟨t,rfl⟩:=r; rfl
 | flt _=>obtain ⟨t,rfl⟩:=r; rfl
 | ref _=>cases r; rfl
 | ty _=>cases r; rfl
def RelV.inj (r:RelV x u) (q:RelV y u):x=y:=Ax (r.abs.symm.trans q.abs)
theorem Vals.inj:∀ {xs ys:List V} {us:List Value},Vals xs us->Vals ys us->xs=ys
 | _,_,_,.nil,.nil=>rfl
 | _,_,_,.cons r t,.cons r' t'=>by rw [r.inj r',Vals.inj t t']
section
variable {X:Cx} {f8:List (Addr × Obj)} {σ:St} {H:Hp} {s:Shared} {a:Addr} {xs ys:List V}
def SqL.of {K:W.Frag} (h:H a=some (.lst xs)):SqL K H a xs:=.inl (.inl h)
def SqT.of {K:W.Frag} (h:H a=some (.tup xs)):SqT K H a xs:=.inl (.inl h)
def Inv.list (I:Inv X f8 σ H s) (h:SqL X.K H a xs):∃ its:List Value,Vals xs its/\PlainL s.heap a its.toArray/\xs.length<=sizeLine:=by
 rcases h with h | ⟨o,its,n,hk,hc,hd,hs,hz,r⟩
 ·obtain ⟨z,its,n,r,e⟩:=h.ok I.hok
  exact ⟨its,r,⟨_,n,e,Y,Y,Y⟩,z⟩
 ·refine ⟨its.toList,r,⟨o,n,I.kIn a o hk,hc,hd,by simpa using hs⟩,?_⟩
  have e:=r.length;simp only [Array.length_toList] at e;lia
def Inv.tuple (I:Inv X f8 σ H s) (h:SqT X.K H a xs):∃ its:List Value,Vals xs its/\IsTup s.heap a its.toArray/\xs.length<=sizeLine:=by
 rcases h with h | ⟨o,its,n,hk,hc,hs,hz,r⟩
 ·obtain ⟨z,its,r,p⟩:=h.ok I.hok
  exact ⟨its,r,p,z⟩
 ·refine ⟨its.toList,r,⟨o,I.kIn a o hk,hc,n,by simpa using hs⟩,?_⟩
  have e:=r.length;simp only [Array.length_toList] at e;lia
def Inv.list_inj (I:Inv X f8 σ H s) (h:SqL X.K H a xs) (h':SqL X.K H a ys):xs=ys:=by
 obtain ⟨its,r,⟨o,n,e,_,_,d⟩,_⟩:=I.list h;obtain ⟨its',r',⟨o',n',e',_,_,d'⟩,_⟩:=I.list h';rw [e] at e'; cases e';rw [d] at d'
 injection d' with d1 _
 have:its=its':=by simpa using congrArg Array.toList d1
 subst this;exact r.inj r'
def Inv.tuple_inj (I:Inv X f8 σ H s) (h:SqT X.K H a xs) (h':SqT X.K H a ys):xs=ys:=by
 obtain ⟨its,r,⟨o,e,_,n,d⟩,_⟩:=I.tuple h;obtain ⟨its',r',⟨o',e',_,n',d'⟩,_⟩:=I.tuple h';rw [e] at e'; cases e';rw [d] at d'
 injection d' with d1 _
 have:its=its':=by simpa using congrArg Array.toList d1
 subst this;exact r.inj r'
end
abbrev Cx.wish (X:Cx) (E:Value->Shared->Prop):Cx:={ X with xe:=E }
abbrev Cx.nox (X:Cx):Cx:=X.wish λ_ _=>False
def Cx.Ok.wish {X:Cx} (ok:X.Ok) (E:Value->Shared->Prop):(X.wish E).Ok :=
 ⟨ok.mod,ok.kind,ok.glob,ok.blt,ok.above,ok.inj,ok.has,ok.cab,ok.hd,ok.frames,ok.stk,ok.exf,ok.bs,ok.bsz,ok.noex,ok.exfs,ok.funs,ok.frf⟩
def Cx.Ok.unwish {X:Cx} (ok:(X.wish E).Ok):X.Ok :=
 ⟨ok.mod,ok.kind,ok.glob,ok.blt,ok.above,ok.inj,ok.has,ok.cab,ok.hd,ok.frames,ok.stk,ok.exf,ok.bs,ok.bsz,ok.noex,ok.exfs,ok.funs,ok.frf⟩
section
variable {X:Cx} {f8:List (Addr × Obj)} {σ:St} {H:Hp} {s:Shared} {E:Value->Shared->Prop}
def Inv.wish (I:Inv X f8 σ H s) (E:Value->Shared->Prop):Inv (X.wish E) f8 σ H s:=⟨I.ok.wish E,I.os,I.bare,I.base,I.loc,I.cell,I.free,I.freeC,I.pin,I.hok,I.len⟩
def Inv.unwish (I:Inv (X.wish E) f8 σ H s):Inv X f8 σ H s:=⟨I.ok.unwish,I.os,I.bare,I.base,I.loc,I.cell,I.free,I.freeC,I.pin,I.hok,I.len⟩
def SP.unwish (h:SP (X.wish E) f8 D f s'):SP X f8 D f s':=by
 cases f with
 | next=>obtain ⟨σ',H',I,q⟩:=h; exact ⟨σ',H',I.unwish,q⟩
 | brk=>obtain ⟨σ',H',I,q⟩:=h; exact ⟨σ',H',I.unwish,q⟩
 | cont=>obtain ⟨σ',H',I,q⟩:=h; exact ⟨σ',H',I.unwish,q⟩
 | ret u=>obtain ⟨v,σ',H',I,r,q⟩:=h; exact ⟨v,σ',H',I.unwish,r,q⟩
def PSs.nox {st:List Stmt} {t:TS} (h:PSs X.nox st t):PSs X st t:=λf8 s σ H D I hw =>
 wpAny_mono (h f8 s σ H D (I.wish _) hw) (λ_ _ q=>q.unwish) λ_ _ z=>False.elim z
end
section
variable {X:Cx} {st:Stmt} {rest:List Stmt} {t u:TS} {e:Expr} {te:TE} {pos:Pos}
def Xj:TS:=λD σ H=>D.nx σ H
def tSeq (t u:TS):TS:=λD σ H=>t { D with nx:=u D } σ H
def Zv:PSs X [] Xj:=λ_ _ σ H _ I h=>wpAny_execs_nil ⟨σ,H,I,h⟩
def Zd (h1:PS X st t) (h2:PSs X rest u):PSs X (st :: rest) (tSeq t u):=by
 intro f8 s σ H D I h;refine wpAny_execs_cons (thn (h1 f8 s σ H { D with nx:=u D } I h) λf s1 q=>?_)
 cases f with
 | next =>
  obtain ⟨σ',H',I',q⟩:=q;exact h2 f8 s1 σ' H' D I' q
 | ret v=>exact q
 | brk=>exact q
 | cont=>exact q
def Zg (h1:PS X st t):PSs X [st] t:=by
 intro f8 s σ H D I h;refine wpAny_execs_cons (thn (h1 f8 s σ H D I h) λf s1 q=>?_)
 cases f with
 | next=>exact wpAny_execs_nil q
 | ret v=>exact q
 | brk=>exact q
 | cont=>exact q
def Zm1:TS:=λD σ H=>D.bk σ H
def Zja:PS X (.Break pos) Zm1:=λ_ _ σ H _ I h=>wpAny_Break ⟨σ,H,I,h⟩
def Inv.quiet {f8:List (Addr × Obj)} {σ:St} {H:Hp} {s:Shared} (I:Inv X f8 σ H s):interactive X.env=false:=by simp [interactive,I.ok.kind]
def Zkb (te:TE):TS:=λD σ H=>te σ H λ_ H1=>D.nx σ H1
def Yp (he:PE X e te) (hs:swapsWith e none pos.line X.env=pure false:=by rfl):PS X (.Expr e pos) (Zkb te):=by
 intro f8 s σ H D I h;refine wpAny_Expr_any (thn (he f8 s σ H _ I h) λv s1 zz2=>?_) I.quiet hs;obtain ⟨x,H1,I1,r1,q1⟩:=zz2;exact ⟨σ,H1,I1,q1⟩
def tRet (te:TE):TS:=λD σ H=>te σ H D.rt
def Zq (he:PE X e te):PS X (.Return (some e) pos) (tRet te):=by
 intro f8 s σ H D I h;refine wpAny_Return_some (thn (he f8 s σ H _ I h) λv s1 zz3=>?_);obtain ⟨x,H1,I1,r1,q1⟩:=zz3;exact ⟨x,σ,H1,I1,r1,q1⟩
def tIfS (c:TT) (t u:TS):TS:=λD σ H=>c σ H λb H1=>if b=true then t D σ H1 else u D σ H1
def Z2 {c:Expr} {a b:List Stmt} {tc:TT} (hc:PT X c tc) (ha:PSs X a t) (hb:PSs X b u):PS X (.If c a b pos) (tIfS tc t u):=by
 intro f8 s σ H D I h;refine wpAny_If (thn (hc f8 s σ H _ I h) λd s1 gk=>?_);obtain ⟨H1,I1,q1⟩:=gk
 cases d with
 | true=>exact ha f8 s1 σ H1 D I1 q1
 | false=>exact hb f8 s1 σ H1 D I1 q1
def Zmv:TS:=λ_ _ _=>False
def Yz:PSs X sts Zmv:=λ_ _ _ _ _ _ h=>h.elim
end
abbrev TG:=V->St->Hp->(St->Hp->Prop)->Prop
abbrev TGs:=List V->St->Hp->(St->Hp->Prop)->Prop
def PG (X:Cx) (t9:Expr) (t:TG):Prop :=
 ∀ (f8:List (Addr × Obj)) (s:Shared) (σ:St) (H:Hp) (v:V) (u:Value) (Q:St->Hp->Prop),Inv X f8 σ H s->RelV v u->t v σ H Q ->
  wpAny (model X.prog X.w) X.A (assign t9 X.env u) (λ_ s'=>∃ σ' H',Inv X f8 σ' H' s'/\Q σ' H') X.xe s
def PGs (X:Cx) (ts:List Expr) (t:TGs):Prop :=
 ∀ (f8:List (Addr × Obj)) (s:Shared) (σ:St) (H:Hp) (vs:List V) (us:List Value) (Q:St->Hp->Prop),Inv X f8 σ H s->Vals vs us->t vs σ H Q ->
  wpAny (model X.prog X.w) X.A (assignInOrder ((assignEach ts X.env).map (·.2)) us) (λ_ s'=>∃ σ' H',Inv X f8 σ' H' s'/\Q σ' H') X.xe s
abbrev TSet:=V->V->V->Hp->(Hp->Prop)->Prop
def PSet (X:Cx) (t:TSet):Prop :=
 ∀ (f8:List (Addr × Obj)) (s:Shared) (σ:St) (H:Hp) (o i v:V) (ov iv u:Value) (Q:Hp->Prop),Inv X f8 σ H s->RelV o ov->RelV i iv->RelV v u->t o i v H Q ->
  wpAny (model X.prog X.w) X.A (setItem ov iv u) (λ_ s'=>∃ H',Inv X f8 σ H' s'/\Q H') X.xe s
section
variable {X:Cx} {pos:Pos}
def Zl (i:Nat):TG:=λv σ H Q=>Q (σ.set i (some v)) H
def Zn (hN:X.N.Nodup) (hi:X.N[i]?=some x) (hx:Loc X.env.scope x) (hf:X.fn x=true\/X.env.scope.names.lookup x=some .local:=by first | exact .inl rfl | exact .inr rfl | assumption):PG X (.Name x pos) (Zl i):=by
 intro f8 s σ H v u Q I r h;exact wpAny_assign_Name (Q1 I hN hi hx r (λs' I'=>⟨_,H,I',h⟩) hf)
def gNil:TGs:=λvs σ H Q=>vs=[]/\Q σ H
def Zo2 (t:TG) (u:TGs):TGs:=λvs σ H Q=>∃ v r,vs=v :: r/\t v σ H λσ' H'=>u r σ' H' Q
def Xv:PGs X [] gNil:=by
 intro f8 s σ H vs us Q I r h;obtain ⟨e,h⟩:=h;subst e;cases r;exact assignInOrder_nil ⟨σ,H,I,h⟩
def Zz {e:Expr} {es:List Expr} {t:TG} {u:TGs} (h1:PG X e t) (h2:PGs X es u)
  (hs:(assignEach (e :: es) X.env).map (·.2)=assign e X.env :: (assignEach es X.env).map (·.2):=by rfl):PGs X (e :: es) (Zo2 t u):=by
 intro f8 s σ H vs us Q I r h;obtain ⟨v,vr,e1,h⟩:=h;subst e1
 cases r with
 | cons r rr =>
  rw [hs];refine assignInOrder_cons (thn (h1 f8 s σ H _ _ _ I r h) λ_ s1 gk=>?_);obtain ⟨σ1,H1,I1,q1⟩:=gk;exact h2 f8 s1 σ1 H1 _ _ Q I1 rr q1
def gTup (K:W.Frag) (n:Nat) (t:TGs):TG:=λv σ H Q=>∃ a xs,v=.ref a/\SqT K H a xs/\xs.length=n/\t xs σ H Q
def J7 (hc:X.calm=true) (h:PGs X es t)
  (hn:(assignEach es X.env).length=n:=by rfl) (j5:(assignEach es X.env).findIdx? (·.1)=none:=by rfl):PG X (.Tuple es k pos) (gTup X.K n t):=by
 intro f8 s σ H v u Q I r hw;obtain ⟨a,xs,e1,hq,hl,hw⟩:=hw;subst e1;cases r;obtain ⟨its,rv,ht,hz⟩:=I.tuple hq;refine assign_Tuple_tuple (I.ok.hd hc) ht (by simp [hn,<- hl,rv.length]) j5 λh' hx=>?_;have I1:Inv X f8 σ H { s with heap:=h' }:=I.kept (t':=s.toks) λb o e=>hx b o (As (Ao e)) e;exact h f8 _ σ H xs _ Q I1 (by simpa using rv) hw
def gSub (to ti:TE) (t:TSet):TG:=λv σ H Q=>to σ H λo H1=>ti σ H1 λi H2=>t o i v H2 λH3=>Q σ H3
def Jd {o i:Expr} {to ti:TE} {t:TSet} (ho:PE X o to) (hi:PE X i ti) (hs:PSet X t)
  (ha:∀ v,assign (.Subscript o i pos) X.env v=(do
   let ov <- holding [v] (eval o X.env)
   let iv <- holding [v,ov] (eval i X.env)
   standAt pos
   holding [v,ov,iv] (setItem ov iv v)
   release [v,ov,iv] []):=by intro _; rfl):PG X (.Subscript o i pos) (gSub to ti t):=by
 intro f8 s σ H v u Q I r h;rw [ha];refine Al (wpAny_holding (thn (ho f8 s σ H _ I h) λov s1 gk=>?_));obtain ⟨x,H1,I1,r1,q1⟩:=gk;refine Al (wpAny_holding (thn (hi f8 s1 σ H1 _ I1 q1) λiv s2 gk=>?_));obtain ⟨y,H2,I2,r2,q2⟩:=gk;refine Al (wpAny_standAt (Al (wpAny_holding (thn (hs f8 s2 σ H2 x y v ov iv u _ I2 r1 r2 r q2) λ_ s3 gk=>?_))));obtain ⟨H3,I3,q3⟩:=gk;exact wpAny_release ⟨σ,H3,I3,q3⟩
def tAsg (te:TE) (g:TG):TS:=λD σ H=>te σ H λx H1=>g x σ H1 D.nx
def Xm {tg e:Expr} {te:TE} {g:TG} (he:PE X e te) (hg:PG X tg g) (hs:swapsWithSole [tg] e pos.line X.env=pure false:=by rfl) (hw:swappedStores [tg] e X.env=pure none:=by rfl)
  (h1:(assignEach [tg] X.env).map (·.2)=[assign tg X.env]:=by rfl):PS X (.Assign [tg] e pos) (tAsg te g):=by
 intro f8 s σ H D I h;refine wpAny_Assign_stores (thn (he f8 s σ H _ I h) λv s1 zz4=>?_) hs hw;obtain ⟨x,H1,I1,r1,q1⟩:=zz4;rw [h1];exact thn (hg f8 s1 σ H1 x v _ I1 r1 q1) λ_ s2 q=>q
def Zp {i:Nat} {x:Str} {e:Expr} {te:TE} {jp:Pos} (hN:X.N.Nodup) (hi:X.N[i]?=some x) (hx:Loc X.env.scope x) (he:PE X e te) (hs:swapsWith e (some (.Name x jp)) pos.line X.env=pure false:=by rfl) (hf:X.fn x=true\/X.env.scope.names.lookup x=some .local:=by first | exact .inl rfl | exact .inr rfl | assumption) :
  PS X (.Assign [.Name x jp] e pos) (tAsg te (Zl i)):=by
 intro f8 s σ H D I h;refine wpAny_Assign_Name (thn (he f8 s σ H _ I h) λv s1 zz5=>?_) hs;obtain ⟨y,H1,I1,r1,q1⟩:=zz5;exact Q1 I1 hN hi hx r1 (λs2 I2=>⟨_,H1,I2,q1⟩) hf
def tPar (i j:Nat) (ta:TA):TS:=λD σ H=>ta σ H λvs H1=>∃ v w,vs=[v,w]/\D.nx ((σ.set i (some v)).set j (some w)) H1
def Zg5 {i j:Nat} {x y:Str} {a b:Expr} {ta:TA} {px py pt:Pos} {kt k2 pt2} (hc:X.calm=true) (hN:X.N.Nodup) (hi:X.N[i]?=some x) (hj:X.N[j]?=some y) (zi:i≠j)
  (hx:X.env.scope.names.lookup x=some .local) (hy:X.env.scope.names.lookup y=some .local) (ha:PA X [a,b] ta)
  (hw:swappedStores [.Tuple [.Name x px,.Name y py] kt pt] (.Tuple [a,b] k2 pt2) X.env=pure (some [x,y]))
  (hs:swapsWithSole [.Tuple [.Name x px,.Name y py] kt pt] (.Tuple [a,b] k2 pt2) pos.line X.env=pure false:=by rfl) :
  PS X (.Assign [.Tuple [.Name x px,.Name y py] kt pt] (.Tuple [a,b] k2 pt2) pos) (tPar i j ta):=by
 intro f8 s σ H D I h;rw [exec_Assign_arm];refine Al (wpAny_standAt ?_);rw [hs];refine Al (wpAny_pure ?_);rw [if_neg (by decide)];refine Al (Tuple_ (thn (ha _ f8 s σ H _ I h) λus s1 gk=>?_));obtain ⟨vs,H1,I1,r1,q1⟩:=gk;obtain ⟨v,w,e1,q1⟩:=q1;subst e1
 obtain ⟨u1,u2,rfl,rv,kl⟩:∃ u1 u2,us=[u1,u2]/\RelV v u1/\RelV w u2:=by
  cases r1 with
  | cons p q =>
   cases q with
   | cons p' q' =>
    cases q';exact ⟨_,_,Y,p,p'⟩
 refine wpAny_newObj_type ?_ (by show 2<=sizeLine; decide);have I2:Inv X f8 σ H1 { s1 with heap:=s1.heap.push { cls:=.type "tuple",data:=.seq [u1,u2].toArray } }:=I1.kept (t':=s1.toks) λb o e=>Ak _ e;rw [hw];refine Al (wpAny_pure ?_);show wpAny (model X.prog X.w) X.A (do rule "assign.swapped-stores"; let items <- unpackItems (.ref s1.heap.objs.size) 2 none; assignInOrder [λv=>bindName X.env y v,λv=>bindName X.env x v] items.reverse; pure Flow.next) _ _ _;refine Al (wpAny_rule (Al (unpackItems_tuple (items:=#[u1,u2]) (I.ok.hd hc) (IsTup.new s1.heap _) λh' jy=>?_)));have I3:=I2.kept (h':=h') (t':=s1.toks) λb o e=>jy b o (As (Ao e)) e;show wpAny _ _ (assignInOrder [λv=>bindName X.env y v,λv=>bindName X.env x v] [u2,u1] >>= λ_=>pure Flow.next) _ _ _;refine Al (assignInOrder_cons (wpAny_bindName (Q1 I3 hN hj (.inl hy) kl (λs2 I4=>?_) (.inr hy))));refine assignInOrder_cons (wpAny_bindName (Q1 I4 hN hi (.inl hx) rv (λs3 I5=>assignInOrder_nil (wpAny_pure ?_)) (.inr hx)));rw [List.set_comm _ _ (Ne.symm zi)] at I5;exact ⟨_,H1,I5,q1⟩
end
section
variable {X:Cx} {pos:Pos}
def Q0 (c:TT) (tb:TS):TS:=λD σ H=>∃ W:Nat->St->Hp->Prop,(∃ m,W m σ H)/\∀ m σ H,W m σ H ->
 c σ H λb H1=>if b=true then ∃ N:St->Hp->Prop,(∀ σ' H',N σ' H'->∃ m',m' < m/\W m' σ' H')/\tb { D with nx:=N,ct:=N,bk:=D.nx } σ H1 else D.nx σ H1
def Jr {c:Expr} {body:List Stmt} {tc:TT} {tb:TS} (hp:PassesOwn (model X.prog X.w) X.A X.env X.xe) (hc:PT X c tc) (hb:PSs X body tb):PS X (.While c body [] pos) (Q0 tc tb):=by
 intro f8 s σ H D I h;obtain ⟨W,⟨m0,w0⟩,turn⟩:=h;refine wpAny_While (codeAny_whileLoop (λn s'=>∃ σ' H',Inv X f8 σ' H' s'/\W n σ' H') ?_ m0 ⟨σ,H,I,w0⟩);rintro n s1 ⟨σ1,H1,I1,w1⟩;refine wpAny_passesOwn hp (thn (hc f8 s1 σ1 H1 _ I1 (turn n σ1 H1 w1)) λb s2 gk=>?_);obtain ⟨H2,I2,q2⟩:=gk
 cases b with
 | true =>
  obtain ⟨N,hN,q2⟩:=q2;rw [if_pos rfl];refine wpAny_passesOwn hp (thn (hb f8 s2 σ1 H2 _ I2 q2) λf s3 q3=>?_)
  cases f with
  | next =>
   obtain ⟨σ3,H3,I3,n3⟩:=q3;obtain ⟨m',hm,w3⟩:=hN σ3 H3 n3;exact ⟨m',hm,σ3,H3,I3,w3⟩
  | cont =>
   obtain ⟨σ3,H3,I3,n3⟩:=q3;obtain ⟨m',hm,w3⟩:=hN σ3 H3 n3;exact ⟨m',hm,σ3,H3,I3,w3⟩
  | brk=>exact q3
  | ret v=>exact q3
 | false =>
  rw [if_neg Bool.false_ne_true];exact wpAny_execs_nil ⟨σ1,H2,I2,q2⟩
end
structure It where
 go:Nat->Hp->Prop
 yld:Nat->Hp->V->Hp->Prop
 stop:Nat->Hp->Prop
def FpOk (X:Cx) (f8:List (Addr × Obj)) (H:Hp) (b:Addr):Prop :=
 H b=none/\b≠X.env.locals/\b ∉ X.fs/\(b∈X.ex\/X.s₀.heap.objs.size<=b)/\(∀ x c,X.env.cells.lookup x=some c->c≠b)/\∀ p∈X.pn ++ f8,p.1≠b
def Inv.fpOk {X:Cx} {f8:List (Addr × Obj)} {σ:St} {H H':Hp} {s:Shared} {b:Addr} (I:Inv X f8 σ H s) (hb:s.heap.objs.size<=b) (hn:H' b=none):FpOk X f8 H' b:=by
 refine ⟨hn,Nat.ne_of_gt (Ag I.lt hb),I.nofs hb,.inr (Nat.le_trans I.sz hb),λx c e z=>?_,λp hp z=>?_⟩
 ·obtain ⟨v,q⟩:=I.cell x c e
  exact absurd (Ag q.lt (by rw [z]; exact hb)) (Nat.lt_irrefl _)
 ·exact absurd (Ag (Ao (I.pin p hp).1) (by rw [z]; exact hb)) (Nat.lt_irrefl _)
structure Turn (P:Program) (w:World) (K:W.Frag) (tg:Expr) (J:It) (fp:List Addr) (it:Addr) (tn:Nat->Heap->Prop):Prop where
 mem:it∈fp
 obj:∀ i h,tn i h->∀ b∈fp,∃ o,h.get? b=some o/\∀ v,o.data≠.cell v
 keep:∀ i h h',tn i h->(∀ b∈fp,∀ o,h.get? b=some o->h'.get? b=some o)->tn i h'
 item:∀ (X:Cx),X.prog=P->X.w=w->X.K=K->X.calm=true->∀ (i:Nat) (f8:List (Addr × Obj)) (s:Shared) (σ:St) (H:Hp) (E:Value->Shared->Prop),Inv X f8 σ H s->(∀ b∈fp,FpOk X f8 H b)->tn i s.heap->J.go i H ->
  wpAny (model P w) X.A (pyNext (.ref it)) (λr s1=>∃ u,r=some u /\
   wpAny (model P w) X.A (letOwnedTupleGo tg (.ref it) u) (λ_ s2=>∃ x H',Inv X f8 σ H' s2/\RelV x u/\J.yld i H x H'/\tn (i + 1) s2.heap/\∀ b∈fp,H' b=none) E s1) E s
 done:∀ (X:Cx),X.prog=P->X.w=w->X.K=K->X.calm=true->∀ (i:Nat) (f8:List (Addr × Obj)) (s:Shared) (σ:St) (H:Hp) (E:Value->Shared->Prop),Inv X f8 σ H s->(∀ b∈fp,FpOk X f8 H b)->tn i s.heap->J.stop i H ->
  wpAny (model P w) X.A (pyNext (.ref it)) (λr s1=>r=none/\Inv X f8 σ H s1) E s
 self:∀ (A:Around) (i:Nat) (s:Shared) (Q:Value->Shared->Prop) (E:Value->Shared->Prop),tn i s.heap->Q (.ref it) s->wpAny (model P w) A (pyIter (.ref it)) Q E s
abbrev TI:=St->Hp->(It->Hp->Prop)->Prop
def PIE (X:Cx) (f8:List (Addr × Obj)) (σ:St) (tg:Expr) (R:It->Hp->Prop) (y7:Value) (s2:Shared):Prop :=
 ∃ (it:Addr) (fp:List Addr) (tn:Nat->Heap->Prop) (J:It) (H':Hp),y7=.ref it/\Inv X f8 σ H' s2/\Turn X.prog X.w X.K tg J fp it tn/\tn 0 s2.heap/\(∀ b∈fp,FpOk X f8 H' b)/\R J H'
def PI (X:Cx) (tg iter:Expr) (wi:TI):Prop :=
 ∀ (f8:List (Addr × Obj)) (s:Shared) (σ:St) (H:Hp) (R:It->Hp->Prop),Inv X f8 σ H s->wi σ H R ->
  wpAny (model X.prog X.w) X.A (eval iter X.env) (λv s1=>wpAny (model X.prog X.w) X.A (pyIter v) (PIE X f8 σ tg R) X.xe s1) X.xe s
def Um {s:Shared} {o:Obj} (ho:s.heap.get? it=some o) (hc:o.cls=.type n) (hd:o.data=.fields vs)
    (hn:["enumerate","zip","dict_itemiterator","dict_reverseitemiterator","odict_iterator","itertools.zip_longest","itertools.pairwise"].contains n=false) (hQ:Q () s):wpAny M A (letOwnedTupleGo tg (.ref it) u) Q E s:=by
  unfold letOwnedTupleGo
  cases tg <;> first
    | exact wpAny_pure hQ
    | (cases u <;> first
        | exact wpAny_pure hQ
        | (refine Al (wpAny_load ho ?_)
           rw [hc,hd];show wpAny M A (if (["enumerate","zip","dict_itemiterator","dict_reverseitemiterator","odict_iterator","itertools.zip_longest","itertools.pairwise"].contains n && vs[0]? == some (rawInt _))=true then _ else _) Q E s;rw [if_neg (by intro h; rw [hn,Bool.false_and] at h; cases h)]
           exact wpAny_pure hQ))
def Itl (K:W.Frag) (a:Addr):It :=
 ⟨λi H=>∃ xs x,SqL K H a xs/\xs[i]?=some x,λi H x H'=>H'=H/\∀ xs,SqL K H a xs->xs[i]?=some x,λi H=>∃ xs,SqL K H a xs/\xs.length<=i⟩
def Itt (K:W.Frag) (a:Addr):It :=
 ⟨λi H=>∃ xs x,SqT K H a xs/\xs[i]?=some x,λi H x H'=>H'=H/\∀ xs,SqT K H a xs->xs[i]?=some x,λi H=>∃ xs,SqT K H a xs/\xs.length<=i⟩
def Itr (lo:Int) (n:Nat):It:=⟨λi _=>i < n,λi H x H'=>H'=H/\x=.int (lo + i),λi _=>n<=i⟩
def Zgd {P:Program} {w:World} {K:W.Frag} {tg:Expr} (a it:Addr):Turn P w K tg (Itl K a) [it] it (λi h=>h.IsListIter it a i) where
 mem:=by simp
 obj:=λi h st b hb=>by
  have e:b=it:=by simpa using hb
  subst e;obtain ⟨o,e,c,d⟩:=st;exact ⟨o,e,λv z=>by rw [d] at z; cases z⟩
 keep:=λi h h' st k=>st.at λo e=>k it (by simp) o e
 item:=by
  intro X hP hw hK hc i f8 s σ H E I hf st hg;subst hP hw hK;obtain ⟨xs,x,hq,hx⟩:=hg;obtain ⟨its,rv,p,hz⟩:=I.list hq;obtain ⟨u,hu,ru⟩:=rv.get hx;obtain ⟨f0,f1,f2,f3,f4,f5⟩:=hf it (by simp);refine wpAny_pyNext_list_item st p.isList (x:=u) (by simpa using hu) λh' gl sb=>?_;have I1:Inv X f8 σ H { s with heap:=h' }:=I.turned (t':=s.toks) (λb o hb e=>(sb.2 b hb).trans e) f0 f1 f3 f4 f5;obtain ⟨o,e,c,d⟩:=id gl;exact ⟨u,Y,Um (s:={ s with heap:=h' }) e c d (by decide) ⟨x,H,I1,ru,⟨Y,λys hy=>by rw [I.list_inj hy hq]; exact hx⟩,gl,λb hb=>(hf b hb).1⟩⟩
 done:=by
  intro X hP hw hK hc i f8 s σ H E I hf st hg;subst hP hw hK;obtain ⟨xs,hq,hx⟩:=hg;obtain ⟨its,rv,p,hz⟩:=I.list hq;obtain ⟨f0,f1,f2,f3,f4,f5⟩:=hf it (by simp);have hl:=rv.length;exact wpAny_pyNext_list_end (I.ok.hd hc) st p.isList (by simp; lia) λh' eb=>⟨rfl,I.turned (t':=s.toks) (λb o hb e=>eb b o hb e) f0 f1 f3 f4 f5⟩
 self:=λ_ _ _ _ _ st h=>wpAny_pyIter_listiter st h
def Ze7 {P:Program} {w:World} {K:W.Frag} {tg:Expr} (a it:Addr):Turn P w K tg (Itt K a) [it] it (λi h=>h.IsTupleIter it a i) where
 mem:=by simp
 obj:=λi h st b hb=>by
  have e:b=it:=by simpa using hb
  subst e;obtain ⟨o,e,c,d⟩:=st;exact ⟨o,e,λv z=>by rw [d] at z; cases z⟩
 keep:=λi h h' st k=>st.at λo e=>k it (by simp) o e
 item:=by
  intro X hP hw hK hc i f8 s σ H E I hf st hg;subst hP hw hK;obtain ⟨xs,x,hq,hx⟩:=hg;obtain ⟨its,rv,p,hz⟩:=I.tuple hq;obtain ⟨u,hu,ru⟩:=rv.get hx;obtain ⟨f0,f1,f2,f3,f4,f5⟩:=hf it (by simp);refine wpAny_pyNext_tuple_item st (show s.heap.IsTuple a its.toArray from p) (x:=u) (by simpa using hu) λh' gl sb=>?_;have I1:Inv X f8 σ H { s with heap:=h' }:=I.turned (t':=s.toks) (λb o hb e=>(sb.2 b hb).trans e) f0 f1 f3 f4 f5;obtain ⟨o,e,c,d⟩:=id gl;exact ⟨u,Y,Um (s:={ s with heap:=h' }) e c d (by decide) ⟨x,H,I1,ru,⟨Y,λys hy=>by rw [I.tuple_inj hy hq]; exact hx⟩,gl,λb hb=>(hf b hb).1⟩⟩
 done:=by
  intro X hP hw hK hc i f8 s σ H E I hf st hg;subst hP hw hK;obtain ⟨xs,hq,hx⟩:=hg;obtain ⟨its,rv,p,hz⟩:=I.tuple hq;obtain ⟨f0,f1,f2,f3,f4,f5⟩:=hf it (by simp);have hl:=rv.length;exact wpAny_pyNext_tuple_end (I.ok.hd hc) st (show s.heap.IsTuple a its.toArray from p) (by simp; lia) λh' eb=>⟨rfl,I.turned (t':=s.toks) (λb o hb e=>eb b o hb e) f0 f1 f3 f4 f5⟩
 self:=λ_ _ _ _ _ st h=>wpAny_pyIter_tupleiter st h
def Ze8 {P:Program} {w:World} {K:W.Frag} {tg:Expr} (it:Addr) (lo:Int) (n:Nat):Turn P w K tg (Itr lo n) [it] it (λi h=>IsRangeIter h it (lo + (i:Nat) * 1) ((n:Int) - (i:Nat)) 1) where
 mem:=by simp
 obj:=λi h st b hb=>by
  have e:b=it:=by simpa using hb
  subst e;exact ⟨_,st,λv z=>by
   have z':Data.fields _=Data.cell v:=z
   cases z'⟩
 keep:=λi h h' st k=>k it (by simp) _ st
 item:=by
  intro X hP hw hK hc i f8 s σ H E I hf st hg;subst hP hw hK;obtain ⟨f0,f1,f2,f3,f4,f5⟩:=hf it (by simp);have W:=Walks.range (prog:=X.prog) (w:=X.w) (I.ok.hd hc) it lo 1 n;refine W.item i s _ _ hg st λv h' tk hv gl kk=>?_;obtain ⟨t,rfl⟩:=hv;have I1:Inv X f8 σ H { s with heap:=h',toks:=tk }:=I.turned (λb o hb e=>kk b o (by simpa using hb) e) f0 f1 f3 f4 f5;refine ⟨_,Y,Um (s:={ s with heap:=h',toks:=tk }) (n:="range_iterator") gl rfl rfl (by decide) ⟨.int (lo + i),H,I1,⟨t,?_⟩,⟨rfl,rfl⟩,gl,λb hb=>(hf b hb).1⟩⟩;rw [Int.mul_one]
 done:=by
  intro X hP hw hK hc i f8 s σ H E I hf st hg;subst hP hw hK;obtain ⟨f0,f1,f2,f3,f4,f5⟩:=hf it (by simp);exact wpAny_pyNext_range_end (I.ok.hd hc) st (by have:n<=i:=hg; lia) λh' eb=>⟨rfl,I.turned (t':=s.toks) (λb o hb e=>eb b o hb e) f0 f1 f3 f4 f5⟩
 self:=λ_ _ _ _ _ st h=>wpAny_pyIter_rangeiter st h
section
variable {X:Cx} {tg:Expr}
def Zoz (K:W.Frag) (tl:TE):TI:=λσ H R=>tl σ H λx H1=>∃ a,x=.ref a/\(∃ xs,SqL K H1 a xs)/\R (Itl K a) H1
def iTup (K:W.Frag) (tl:TE):TI:=λσ H R=>tl σ H λx H1=>∃ a,x=.ref a/\(∃ xs,SqT K H1 a xs)/\R (Itt K a) H1
def Yj {l:Expr} {tl:TE} (hl:PE X l tl):PI X tg l (Zoz X.K tl):=by
 intro f8 s σ H R I h;refine thn (hl f8 s σ H _ I h) λv s1 gk=>?_;obtain ⟨x,H1,I1,r1,q1⟩:=gk;obtain ⟨a,e,⟨xs,hq⟩,q⟩:=q1;subst e;cases r1;obtain ⟨its,rv,p,hz⟩:=I1.list hq;refine wpAny_pyIter_list p.isList ?_;refine ⟨s1.heap.objs.size,[s1.heap.objs.size],_,_,H1,Y,I1.kept (t':=s1.toks) λb o e=>Ak _ e,Zgd a _,⟨_,Ap _ Y,Y,Y⟩,λb hb=>?_,q⟩;have e:b=s1.heap.objs.size:=by simpa using hb
 subst e;exact I1.fpOk (An _) (I1.hok.fresh (An _))
def Zg9 {l:Expr} {tl:TE} (hl:PE X l tl):PI X tg l (iTup X.K tl):=by
 intro f8 s σ H R I h;refine thn (hl f8 s σ H _ I h) λv s1 gk=>?_;obtain ⟨x,H1,I1,r1,q1⟩:=gk;obtain ⟨a,e,⟨xs,hq⟩,q⟩:=q1;subst e;cases r1;obtain ⟨its,rv,p,hz⟩:=I1.tuple hq;refine wpAny_pyIter_tuple (show s1.heap.IsTuple a its.toArray from p) ?_;refine ⟨s1.heap.objs.size,[s1.heap.objs.size],_,_,H1,Y,I1.kept (t':=s1.toks) λb o e=>Ak _ e,Ze7 a _,⟨_,Ap _ Y,Y,Y⟩,λb hb=>?_,q⟩;have e:b=s1.heap.objs.size:=by simpa using hb
 subst e;exact I1.fpOk (An _) (I1.hok.fresh (An _))
def Zb9 {f8:List (Addr × Obj)} {σ:St} {H:Hp} {s:Shared} {R:It->Hp->Prop} {E:Value->Shared->Prop} {lo hi:Int} {t u v:Tok} {tk:Nat} (I:Inv X f8 σ H s) (h1:-(2 ^ 62)<=lo) (h2:lo < 2 ^ 62) (h3:-(2 ^ 62)<=hi) (h4:hi < 2 ^ 62)
  (q:R (Itr lo (hi - lo).toNat) H):wpAny (model X.prog X.w) X.A (pyIter (.ref s.heap.objs.size)) (PIE X f8 σ tg R) E { s with heap:=s.heap.push { cls:=.type "range",data:=.fields #[.int lo t,.int hi u,.int 1 v] },toks:=tk }:=by
 refine wpAny_pyIter_range (IsRange.new ..) (small_one h1 h2 h3 h4) ?_;have I1:Inv X f8 σ H { s with heap:=s.heap.push { cls:=.type "range",data:=.fields #[.int lo t,.int hi u,.int 1 v] },toks:=tk }:=I.kept λb o e=>Ak _ e;refine ⟨(s.heap.push { cls:=.type "range",data:=.fields #[.int lo t,.int hi u,.int 1 v] }).objs.size,[(s.heap.push { cls:=.type "range",data:=.fields #[.int lo t,.int hi u,.int 1 v] }).objs.size],_,_,H,rfl,
  I1.kept (t':=tk) λb o e=>Ak _ e,Ze8 _ lo (hi - lo).toNat,?_,λb hb=>?_,q⟩
 ·have e1:lo + ((0:Nat):Int) * 1=lo:=by simp
  have e2:(((hi - lo).toNat:Nat):Int) - ((0:Nat):Int)=Builtin.Range.rangeSize lo hi 1:=by rw [rangeSize_one]; split <;> lia
  show IsRangeIter _ _ (lo + ((0:Nat):Int) * 1) ((((hi - lo).toNat:Nat):Int) - ((0:Nat):Int)) 1;rw [e1,e2];exact Ap _ Y
 ·have e:b=(s.heap.push { cls:=.type "range",data:=.fields #[.int lo t,.int hi u,.int 1 v] }).objs.size:=by simpa using hb
  subst e;exact I1.fpOk (An _) (I1.hok.fresh (An _))
def Zox (ta:TA):TI:=λσ H R=>ta σ H λvs H1=>∃ j:Int,vs=[.int j]/\-(2 ^ 62)<=j/\j < 2 ^ 62/\R (Itr 0 j.toNat) H1
def Zow (ta:TA):TI:=λσ H R=>ta σ H λvs H1=>∃ i j:Int,vs=[.int i,.int j]/\(-(2 ^ 62)<=i/\i < 2 ^ 62/\-(2 ^ 62)<=j/\j < 2 ^ 62)/\R (Itr i (j - i).toNat) H1
def Y1 {a:Expr} {ta:TA} {p pos:Pos} (hg:Gl X "range") (hm:X.mg "range"=none) (ha:PA X [a] ta) (hs:starEach [a] X.env=[(false,eval a X.env)]:=by rfl):PI X tg (.Call (.Name "range" p) [a] [] pos) (Zox ta):=by
 intro f8 s σ H R I h;refine Call_ (Xf I hg hm boot_range (PyProof.Rows.callWith_type1 (thn (ha pos f8 s σ H _ I h) λus s1 zz6=>?_) hs Y));obtain ⟨vs,H1,I1,r1,q1⟩:=zz6;obtain ⟨j,e,q1,q2,q⟩:=q1;subst e
 cases r1 with
 | cons r rr =>
  cases rr;obtain ⟨t,rfl⟩:=r;exact call_range_1 (Zb9 I1 (by lia) (by lia) q1 q2 (by simpa using q))
def Zhb {a b:Expr} {ta:TA} {p pos:Pos} (hg:Gl X "range") (hm:X.mg "range"=none) (ha:PA X [a,b] ta) (hs:starEach [a,b] X.env=[(false,eval a X.env),(false,eval b X.env)]:=by rfl) (jo:starEach [b] X.env=[(false,eval b X.env)]:=by rfl) :
  PI X tg (.Call (.Name "range" p) [a,b] [] pos) (Zow ta):=by
 intro f8 s σ H R I h;refine Call_ (Xf I hg hm boot_range (PyProof.Rows.callWith_type1 (thn (ha pos f8 s σ H _ I h) λus s1 ⟨vs,H1,I1,r1,q1⟩=>?_) (by rw [hs,jo]) (by rw [jo]; rfl)));obtain ⟨i,j,e,⟨q1,q2,q3,q4⟩,q⟩:=q1;subst e
 cases r1 with
 | cons r rr =>
  cases rr with
  | cons r' rr =>
   cases rr;obtain ⟨t,rfl⟩:=r;obtain ⟨t',rfl⟩:=r';exact call_range_2 (Zb9 I1 q1 q2 q3 q4 q)
def tFor (wi:TI) (g:TG) (tb:TS):TS:=λD σ H=>wi σ H λJ H1=>∃ W:Nat->Nat->St->Hp->Prop,(∃ m,W 0 m σ H1)/\∀ i m σ H,W i m σ H ->
 (J.stop i H/\D.nx σ H)\/(J.go i H/\∃ N:St->Hp->Prop,(∀ σ' H',N σ' H'->∃ m',m' < m/\W (i + 1) m' σ' H')/\∀ x H',J.yld i H x H'->g x σ H' λσ2 H2=>tb { D with nx:=N,ct:=N,bk:=D.nx } σ2 H2)
def Of (fp:List Addr) (h:Heap):List (Addr × Obj):=fp.filterMap λb=>(h.get? b).map λo=>(b,o)
def Qn {fp:List Addr} {h:Heap} {b:Addr} {o:Obj} (hb:b∈fp) (e:h.get? b=some o):(b,o)∈Of fp h:=List.mem_filterMap.mpr ⟨b,hb,by rw [e]; rfl⟩
def Zhq {h:Heap} {p:Addr × Obj} (hp:p∈Of fp h):p.1∈fp/\h.get? p.1=some p.2:=by
 obtain ⟨b,hb,e⟩:=List.mem_filterMap.mp hp
 cases q:h.get? b with
 | none=>rw [q] at e; cases e
 | some o =>
  rw [q] at e;have e':(b,o)=p:=Ax e;subst e';exact ⟨hb,q⟩
def Inv.pinned {f8:List (Addr × Obj)} {σ:St} {H:Hp} {s:Shared} {fp:List Addr} (I:Inv X f8 σ H s) (hf:∀ b∈fp,FpOk X f8 H b) (ho:∀ b∈fp,∃ o,s.heap.get? b=some o/\∀ v,o.data≠.cell v):Inv X (f8 ++ Of fp s.heap) σ H s :=
 I.pins_of λp hp=>(List.mem_append.mp hp).elim (λz=>I.pin p (List.mem_append_right _ z)) λz=>by
  obtain ⟨hb,e⟩:=Zhq z;obtain ⟨f0,f1,f2,_⟩:=hf p.1 hb;obtain ⟨o,e',d⟩:=ho p.1 hb;rw [e] at e'; cases e';exact ⟨e,f0,f1,f2,d⟩
def Inv.unpinned {f8 pl:List (Addr × Obj)} {σ:St} {H:Hp} {s:Shared} (I:Inv X (f8 ++ pl) σ H s):Inv X f8 σ H s:=I.pins_of λp hp=>I.pin p (List.mem_append_right _ (List.mem_append_left _ hp))
def Y0 {iter:Expr} {body:List Stmt} {wi:TI} {g:TG} {tb:TS} {pos:Pos} (hp:PassesOwn (model X.prog X.w) X.A X.env X.xe) (hc:X.calm=true) (hi:PI X tg iter wi) (hg:PG X tg g) (hb:PSs X body tb)
  (hs:∀ x,foldedSetIterable iter X.env x=pure x:=by intro _; rfl):PS X (.For tg iter body [] pos) (tFor wi g tb):=by
 intro f8 s σ H D I h;refine wpAny_For (thn (hi f8 s σ H _ I h) λv s1 h1=>thn h1 λy7 s2 h2=>?_) hs;obtain ⟨it,fp,tn,J,H2,e,I2,T,ii,f2,W,⟨m0,w0⟩,turn⟩:=h2;subst e;have kr:∀ {H':Hp},(∀ b∈fp,H' b=none)->∀ b∈fp,FpOk X f8 H' b:=λhn b hb=>⟨hn b hb,(f2 b hb).2⟩;refine codeAny_forLoop_any (λn s'=>∃ i σ' H',Inv X f8 σ' H' s'/\tn i s'.heap/\(∀ b∈fp,H' b=none)/\W i n σ' H') ?_ m0 ⟨0,σ,H2,I2,ii,λb hb=>(f2 b hb).1,w0⟩;rintro n s3 ⟨i,σ3,H3,I3,k8,w6,w3⟩
 rcases turn i n σ3 H3 w3 with ⟨stop,qn⟩ | ⟨go,N,hN,step⟩
 ·refine wpAny_passesOwn hp (thn (T.done X rfl rfl rfl hc i f8 s3 σ3 H3 X.xe I3 (kr w6) k8 stop) λr s4 ⟨hr,I4⟩=>?_)
  subst hr;exact wpAny_execs_nil ⟨σ3,H3,I4,qn⟩
 ·refine wpAny_passesOwn hp (thn (T.item X rfl rfl rfl hc i f8 s3 σ3 H3 X.xe I3 (kr w6) k8 go) λr s4 ⟨u,hr,h4⟩=>?_)
  subst hr;refine wpAny_passesOwn hp (thn h4 λ_ s5 gk=>?_);obtain ⟨x,H5,I5,r5,y5,l6,fr5⟩:=gk;have I5':=I5.pinned (kr fr5) (T.obj _ _ l6);refine wpAny_passesOwn hp (thn (hg _ s5 σ3 H5 x u _ I5' r5 (step x H5 y5)) λ_ s6 gk=>?_);obtain ⟨σ6,H6,I6,q6⟩:=gk;refine wpAny_passesOwn hp (thn (hb _ s6 σ6 H6 _ I6 q6) λf s7 q7=>?_);have again:∀ {σ7:St} {H7:Hp},Inv X (f8 ++ Of fp s5.heap) σ7 H7 s7->N σ7 H7->∃ m,m < n/\∃ i σ' H',Inv X f8 σ' H' s7/\tn i s7.heap/\(∀ b∈fp,H' b=none)/\W i m σ' H':=λ{σ7 H7} I7 n7=>by
   obtain ⟨m',hm,w7⟩:=hN σ7 H7 n7
   refine ⟨m',hm,i + 1,σ7,H7,I7.unpinned,T.keep _ _ _ l6 λb hb o e=>(I7.pin (b,o) (List.mem_append_right _ (List.mem_append_right _ (Qn hb e)))).1,λb hb=>?_,w7⟩
   obtain ⟨o,e,d⟩:=T.obj _ _ l6 b hb
   exact (I7.pin (b,o) (List.mem_append_right _ (List.mem_append_right _ (Qn hb e)))).2.1
  cases f with
  | next=>obtain ⟨σ7,H7,I7,n7⟩:=q7; exact again I7 n7
  | cont=>obtain ⟨σ7,H7,I7,n7⟩:=q7; exact again I7 n7
  | brk=>obtain ⟨σ7,H7,I7,q7⟩:=q7; exact ⟨σ7,H7,I7.unpinned,q7⟩
  | ret v=>obtain ⟨x7,σ7,H7,I7,r7,q7⟩:=q7; exact ⟨x7,σ7,H7,I7.unpinned,r7,q7⟩
end
def Up {K:W.Frag} {a:Addr} {xs:List V} {g:TG} {tb:TS} {D:Ends} {σ:St} {H:Hp} (Pv:Nat->St->Hp->Prop) (h0:Pv 0 σ H) (hl:∀ i σ H,i<=xs.length->Pv i σ H->SqL K H a xs)
  (hs:∀ i x σ H,xs[i]?=some x->Pv i σ H->g x σ H λσ2 H2=>tb { D with nx:=Pv (i + 1),ct:=Pv (i + 1),bk:=D.nx } σ2 H2) (hd:∀ σ H,Pv xs.length σ H->D.nx σ H) :
  ∃ W:Nat->Nat->St->Hp->Prop,(∃ m,W 0 m σ H)/\∀ i m σ H,W i m σ H ->
   ((Itl K a).stop i H/\D.nx σ H)\/((Itl K a).go i H/\∃ N:St->Hp->Prop,(∀ σ' H',N σ' H'->∃ m',m' < m/\W (i + 1) m' σ' H')/\∀ x H',(Itl K a).yld i H x H'->g x σ H' λσ2 H2=>tb { D with nx:=N,ct:=N,bk:=D.nx } σ2 H2):=by
 refine ⟨λi m σ H=>m=xs.length - i/\i<=xs.length/\Pv i σ H,⟨xs.length,by simp,Az _,h0⟩,?_⟩;rintro i m σ H ⟨rfl,hi,p⟩;have q:=hl i σ H hi p;by_cases gr:i < xs.length
 ·refine .inr ⟨⟨xs,xs[i],q,by simp [gr]⟩,Pv (i + 1),λσ' H' p'=>⟨xs.length - (i + 1),by lia,Y,gr,p'⟩,λx H' y=>?_⟩
  obtain ⟨e,y⟩:=y;subst e;exact hs i x σ _ (y xs q) p
 ·have e:i=xs.length:=by lia
  subst e;exact .inl ⟨⟨xs,q,An _⟩,hd σ H p⟩
def X2 {lo:Int} {n:Nat} {g:TG} {tb:TS} {D:Ends} {σ:St} {H:Hp} (Pv:Nat->St->Hp->Prop) (h0:Pv 0 σ H)
  (hs:∀ i σ H,i < n->Pv i σ H->g (.int (lo + i)) σ H λσ2 H2=>tb { D with nx:=Pv (i + 1),ct:=Pv (i + 1),bk:=D.nx } σ2 H2) (hd:∀ σ H,Pv n σ H->D.nx σ H) :
  ∃ W:Nat->Nat->St->Hp->Prop,(∃ m,W 0 m σ H)/\∀ i m σ H,W i m σ H ->
   ((Itr lo n).stop i H/\D.nx σ H)\/((Itr lo n).go i H/\∃ N:St->Hp->Prop,(∀ σ' H',N σ' H'->∃ m',m' < m/\W (i + 1) m' σ' H')/\∀ x H',(Itr lo n).yld i H x H'->g x σ H' λσ2 H2=>tb { D with nx:=N,ct:=N,bk:=D.nx } σ2 H2):=by
 refine ⟨λi m σ H=>m=n - i/\i<=n/\Pv i σ H,⟨n,by simp,Az _,h0⟩,?_⟩;rintro i m σ H ⟨rfl,hi,p⟩;by_cases gr:i < n
 ·refine .inr ⟨gr,Pv (i + 1),λσ' H' p'=>⟨n - (i + 1),by lia,Y,gr,p'⟩,λx H' y=>?_⟩
  obtain ⟨e,y⟩:=y;subst e y;exact hs i σ _ gr p
 ·have e:i=n:=by lia
  subst e;exact .inl ⟨An _,hd σ H p⟩
abbrev R2:=V->V->Hp->VK->Prop
def OpR (X:Cx) (f:Value->Value->Sem Value) (r:R2):Prop :=
 ∀ (f8:List (Addr × Obj)) (s:Shared) (σ:St) (H:Hp) (x y:V) (v u:Value) (Q:VK),Inv X f8 σ H s->RelV x v->RelV y u->r x y H Q ->
  wpAny (model X.prog X.w) X.A (f v u) (EP X f8 σ Q) X.xe s
def UnR (X:Cx) (f:Value->Sem Value) (r:V->Hp->VK->Prop):Prop :=
 ∀ (f8:List (Addr × Obj)) (s:Shared) (σ:St) (H:Hp) (x:V) (v:Value) (Q:VK),Inv X f8 σ H s->RelV x v->r x H Q ->
  wpAny (model X.prog X.w) X.A (f v) (EP X f8 σ Q) X.xe s
def Y5 (X:Cx) (f:Value) (r:List V->Hp->VK->Prop):Prop :=
 ∀ (f8:List (Addr × Obj)) (s:Shared) (σ:St) (H:Hp) (xs:List V) (us:List Value) (Q:VK),Inv X f8 σ H s->Vals xs us->r xs H Q ->
  wpAny (model X.prog X.w) X.A (call f us) (EP X f8 σ Q) X.xe s
def TruR (X:Cx) (r:V->Hp->(Bool->Hp->Prop)->Prop):Prop :=
 ∀ (f8:List (Addr × Obj)) (s:Shared) (σ:St) (H:Hp) (x:V) (v:Value) (Q:Bool->Hp->Prop),Inv X f8 σ H s->RelV x v->r x H Q ->
  wpAny (model X.prog X.w) X.A (truthy v) (TP X f8 σ Q) X.xe s
def tOp (r:R2) (ta tb:TE):TE:=λσ H Q=>ta σ H λx H1=>tb σ H1 λy H2=>r x y H2 Q
def tUn (r:V->Hp->VK->Prop) (ta:TE):TE:=λσ H Q=>ta σ H λx H1=>r x H1 Q
def rI (C:Int->Int->Prop) (g:Int->Int->V):R2:=λx y H Q=>∃ i j,x=.int i/\y=.int j/\C i j/\Q (g i j) H
def rI0 (g:Int->Int->V):R2:=λx y H Q=>∃ i j,x=.int i/\y=.int j/\Q (g i j) H
def rU (g:Int->V):V->Hp->VK->Prop:=λx H Q=>∃ i,x=.int i/\Q (g i) H
section
variable {X:Cx} {a b c:Expr} {ta tb tc:TE} {pos:Pos}
def binT (ha:PE X a ta) (hb:PE X b tb) {f8:List (Addr × Obj)} {s:Shared} {σ:St} {H:Hp} {R:V->V->Hp->Prop} (I:Inv X f8 σ H s)
  (h:ta σ H λx H1=>tb σ H1 λy H2=>R x y H2) {Q:Value->Shared->Prop} {f:Value->Value->Sem Value}
  (hf:∀ v u s2 x y H2,Inv X f8 σ H2 s2->RelV x v->RelV y u->R x y H2->wpAny (model X.prog X.w) X.A (f v u) Q X.xe s2) :
  wpAny (model X.prog X.w) X.A (eval a X.env) (λv s₁=>wpAny (model X.prog X.w) X.A (eval b X.env) (λu s₂=>wpAny (model X.prog X.w) X.A (f v u) Q X.xe s₂) X.xe s₁) X.xe s:=by
 refine thn (ha f8 s σ H _ I h) λv s1 gk=>?_;obtain ⟨x,H1,I1,r1,q1⟩:=gk;refine thn (hb f8 s1 σ H1 _ I1 q1) λu s2 gk=>?_;obtain ⟨y,H2,I2,r2,q2⟩:=gk;exact hf v u s2 x y H2 I2 r1 r2 q2
def Zi (ho:OpR X (binaryOp op) r) (ha:PE X a ta) (hb:PE X b tb):PE X (.BinOp a op b pos) (tOp r ta tb):=by
 intro f8 s σ H Q I h;exact wpAny_BinOp (binT ha hb I h λv u s2 x y H2 I2 rx ry q=>ho f8 s2 σ H2 x y v u Q I2 rx ry q)
def Zoo {op:UnaryOp} {r:V->Hp->VK->Prop} (ho:UnR X (unaryOp op) r) (ha:PE X a ta):PE X (.UnaryOp op a pos) (tUn r ta):=by
 intro f8 s σ H Q I h;refine UnaryOp_ (thn (ha f8 s σ H _ I h) λv s1 u9=>?_);obtain ⟨x,H1,I1,r1,q1⟩:=u9;exact ho f8 s1 σ H1 x v Q I1 r1 q1
def opI {g:Int->Int->Int}
  (rule:∀ (i j:Int) (t u:Tok) (s:Shared) (Q:Value->Shared->Prop) (E:Value->Shared->Prop),C i j->Q (.int (g i j) s.toks) { s with toks:=s.toks + 1 }->wpAny (model X.prog X.w) X.A (f (.int i t) (.int j u)) Q E s) :
  OpR X f (rI C λi j=>.int (g i j)):=by
 intro f8 s σ H x y v u Q I rx ry h;obtain ⟨i,j,rfl,rfl,hc,q⟩:=h;obtain ⟨t,rfl⟩:=rx;obtain ⟨t',rfl⟩:=ry;exact rule i j t t' s _ _ hc ⟨.int (g i j),H,I.tok _,⟨_,Y⟩,q⟩
def opI0 {g:Int->Int->Int}
  (rule:∀ (i j:Int) (t u:Tok) (s:Shared) (Q:Value->Shared->Prop) (E:Value->Shared->Prop),Q (.int (g i j) s.toks) { s with toks:=s.toks + 1 }->wpAny (model X.prog X.w) X.A (f (.int i t) (.int j u)) Q E s) :
  OpR X f (rI0 λi j=>.int (g i j)):=by
 intro f8 s σ H x y v u Q I rx ry h;obtain ⟨i,j,rfl,rfl,q⟩:=h;obtain ⟨t,rfl⟩:=rx;obtain ⟨t',rfl⟩:=ry;exact rule i j t t' s _ _ ⟨.int (g i j),H,I.tok _,⟨_,Y⟩,q⟩
def opB0 {g:Int->Int->Bool}
  (rule:∀ (i j:Int) (t u:Tok) (s:Shared) (Q:Value->Shared->Prop) (E:Value->Shared->Prop),Q (.bool (g i j)) s->wpAny (model X.prog X.w) X.A (f (.int i t) (.int j u)) Q E s) :
  OpR X f (rI0 λi j=>.bl (g i j)):=by
 intro f8 s σ H x y v u Q I rx ry h;obtain ⟨i,j,rfl,rfl,q⟩:=h;obtain ⟨t,rfl⟩:=rx;obtain ⟨t',rfl⟩:=ry;exact rule i j t t' s _ _ ⟨.bl (g i j),H,I,Y,q⟩
def CDiv (i j:Int):Prop:=0 < j/\j < 1073741824
def CPow (i j:Int):Prop:=0<=j/\j<=1000000/\i.natAbs < 2 ^ 64
def CMul (i j:Int):Prop:=(-(2 ^ 64) < i/\i < 2 ^ 64)\/(-(2 ^ 64) < j/\j < 2 ^ 64)
def CMul.ok {i j:Int} (h:CMul i j):IntMulOk i j:=by
 rcases h with ⟨h1,h2⟩ | ⟨h1,h2⟩
 ·exact .of_left (intBits_le_64 h1 h2)
 ·exact .of_right (intBits_le_64 h1 h2)
def Z4:OpR X (binaryOp .Add) (rI0 λi j=>.int (i + j)):=opI0 λ_ _ _ _ _ _ _ q=>add_int q
def Xd:OpR X (binaryOp .Sub) (rI0 λi j=>.int (i - j)):=opI0 λ_ _ _ _ _ _ _ q=>sub_int q
def Xe:OpR X (binaryOp .Mult) (rI CMul λi j=>.int (i * j)):=opI λ_ _ _ _ _ _ _ hc q=>mul_int q hc.ok
def Yt:OpR X (binaryOp .FloorDiv) (rI CDiv λi j=>.int (i / j)):=opI λi j _ _ _ _ _ hc q=>by
 have h1:(0:Int) < j:=hc.1;have h2:j < 1073741824:=hc.2;exact floordiv_int (by lia) (by rw [Int.fdiv_eq_ediv_of_nonneg i (by lia)]; exact q) (.inl (PyProof.noPylong_small (by lia)))
def Z0:OpR X (binaryOp .Mod) (rI (λ_ j=>0 < j) λi j=>.int (i % j)):=opI λi j _ _ _ _ _ hc q=>by
 have h1:(0:Int) < j:=hc;exact mod_int' (by lia) (by rw [Int.fmod_eq_emod_of_nonneg i (by lia)]; exact q)
def Zni:OpR X (binaryOp .Pow) (rI CPow λi j=>.int (i ^ j.toNat)):=opI λ_ _ _ _ _ _ _ hc q=>pow_int_small hc.1 hc.2.1 hc.2.2 q
def unI {g:Int->Int}
  (rule:∀ (i:Int) (t:Tok) (s:Shared) (Q:Value->Shared->Prop) (E:Value->Shared->Prop),Q (.int (g i) s.toks) { s with toks:=s.toks + 1 }->wpAny (model X.prog X.w) X.A (f (.int i t)) Q E s) :
  UnR X f (rU λi=>.int (g i)):=by
 intro f8 s σ H x v Q I rx h;obtain ⟨i,rfl,q⟩:=h;obtain ⟨t,rfl⟩:=rx;exact rule i t s _ _ ⟨.int (g i),H,I.tok _,⟨_,Y⟩,q⟩
def Zmo:UnR X (unaryOp .USub) (rU λi=>.int (-i)):=unI λ_ _ _ _ _ q=>neg_int q
end
def scal:V->V->Bool
 | .non,.non=>true | .non,.int _=>true | .int _,.non=>true | .non,.bl _=>true | .bl _,.non=>true | .non,.str _=>true | .str _,.non=>true
 | .int _,.int _=>true | .bl _,.bl _=>true | .str _,.str _=>true | .byt _,.byt _=>true
 | .int _,.str _=>true | .str _,.int _=>true | .bl _,.str _=>true | .str _,.bl _=>true
 | _,_=>false
def rEq:R2:=λx y H Q=>scal x y=true/\Q (.bl (decide (x=y))) H
def rNe:R2:=λx y H Q=>scal x y=true/\Q (.bl (!decide (x=y))) H
def Ze3:decide (V.int i=V.int j)=(i == j):=by
 rw [Bool.eq_iff_iff];simp
def Zid:decide (V.bl i=V.bl j)=(i == j):=by
 rw [Bool.eq_iff_iff];simp
def Ze2:decide (V.str i=V.str j)=(i == j):=by
 rw [Bool.eq_iff_iff];simp
def Ze4 {i j:Array UInt8}:decide (V.byt i=V.byt j)=(i.toList == j.toList):=by
 rw [Bool.eq_iff_iff];cases i;cases j;simp
section
variable {X:Cx} {a b c:Expr} {ta tb tc:TE} {pos:Pos}
def Z8 (I:Inv X f8 σ H s) (q:Q (.bl k) H) (e:k=k'):EP X f8 σ Q (.bool k') s:=by
 subst e;exact ⟨.bl k,H,I,Y,q⟩
def Yw:OpR X (compareOp .Eq) rEq:=by
 intro f8 s σ H x y v u Q I rx ry h;obtain ⟨hs,q⟩:=h
 cases x with
 | non =>
  cases rx
  cases y with
  | non=>cases ry; exact PySem.EqNone.eq_none_none (Z8 I q (by simp))
  | bl j=>cases ry; exact PySem.EqNone.eq_none_bool (Z8 I q (by simp))
  | int j=>obtain ⟨t',rfl⟩:=ry; exact PySem.EqNone.eq_none_int (Z8 I q (by simp))
  | str j=>obtain ⟨t',rfl⟩:=ry; exact PySem.EqNone.eq_none_str (Z8 I q (by simp))
  | _=>exact absurd (show false=true from hs) Bool.false_ne_true
 | bl i =>
  cases rx
  cases y with
  | non=>cases ry; exact PySem.EqNone.eq_bool_none (Z8 I q (by simp))
  | bl j=>cases ry; exact eq_bool (Z8 I q Zid)
  | str j=>obtain ⟨t',rfl⟩:=ry; exact PySem.EqMixed.eq_bool_str (Z8 I q (by simp))
  | _=>exact absurd (show false=true from hs) Bool.false_ne_true
 | int i =>
  obtain ⟨t,rfl⟩:=rx
  cases y with
  | non=>cases ry; exact PySem.EqNone.eq_int_none (Z8 I q (by simp))
  | int j=>obtain ⟨t',rfl⟩:=ry; exact eq_int (Z8 I q Ze3)
  | str j=>obtain ⟨t',rfl⟩:=ry; exact PySem.EqMixed.eq_int_str (Z8 I q (by simp))
  | _=>exact absurd (show false=true from hs) Bool.false_ne_true
 | str i =>
  obtain ⟨t,rfl⟩:=rx
  cases y with
  | non=>cases ry; exact PySem.EqNone.eq_str_none (Z8 I q (by simp))
  | bl j=>cases ry; exact PySem.EqMixed.eq_str_bool (Z8 I q (by simp))
  | int j=>obtain ⟨t',rfl⟩:=ry; exact PySem.EqMixed.eq_str_int (Z8 I q (by simp))
  | str j=>obtain ⟨t',rfl⟩:=ry; exact eq_str (Z8 I q Ze2)
  | _=>exact absurd (show false=true from hs) Bool.false_ne_true
 | byt i =>
  obtain ⟨t,rfl⟩:=rx
  cases y with
  | byt j=>obtain ⟨t',rfl⟩:=ry; exact PySem.W.eq_bytes (Z8 I q Ze4)
  | _=>exact absurd (show false=true from hs) Bool.false_ne_true
 | _=>cases y <;> exact absurd (show false=true from hs) Bool.false_ne_true
def Go:OpR X (compareOp .NotEq) rNe:=by
 intro f8 s σ H x y v u Q I rx ry h;obtain ⟨hs,q⟩:=h
 cases x with
 | non =>
  cases rx
  cases y with
  | non=>cases ry; exact PySem.EqNone.ne_none_none (Z8 I q (by simp))
  | bl j=>cases ry; exact PySem.EqNone.ne_none_bool (Z8 I q (by simp))
  | int j=>obtain ⟨t',rfl⟩:=ry; exact PySem.EqNone.ne_none_int (Z8 I q (by simp))
  | str j=>obtain ⟨t',rfl⟩:=ry; exact PySem.EqNone.ne_none_str (Z8 I q (by simp))
  | _=>exact absurd (show false=true from hs) Bool.false_ne_true
 | bl i =>
  cases rx
  cases y with
  | non=>cases ry; exact PySem.EqNone.ne_bool_none (Z8 I q (by simp))
  | bl j=>cases ry; exact ne_bool (Z8 I q (congrArg not Zid))
  | str j=>obtain ⟨t',rfl⟩:=ry; exact PySem.EqMixed.ne_bool_str (Z8 I q (by simp))
  | _=>exact absurd (show false=true from hs) Bool.false_ne_true
 | int i =>
  obtain ⟨t,rfl⟩:=rx
  cases y with
  | non=>cases ry; exact PySem.EqNone.ne_int_none (Z8 I q (by simp))
  | int j=>obtain ⟨t',rfl⟩:=ry; exact ne_int (Z8 I q (congrArg not Ze3))
  | str j=>obtain ⟨t',rfl⟩:=ry; exact PySem.EqMixed.ne_int_str (Z8 I q (by simp))
  | _=>exact absurd (show false=true from hs) Bool.false_ne_true
 | str i =>
  obtain ⟨t,rfl⟩:=rx
  cases y with
  | non=>cases ry; exact PySem.EqNone.ne_str_none (Z8 I q (by simp))
  | bl j=>cases ry; exact PySem.EqMixed.ne_str_bool (Z8 I q (by simp))
  | int j=>obtain ⟨t',rfl⟩:=ry; exact PySem.EqMixed.ne_str_int (Z8 I q (by simp))
  | str j=>obtain ⟨t',rfl⟩:=ry; exact ne_str (Z8 I q (congrArg not Ze2))
  | _=>exact absurd (show false=true from hs) Bool.false_ne_true
 | byt i =>
  obtain ⟨t,rfl⟩:=rx
  cases y with
  | byt j=>obtain ⟨t',rfl⟩:=ry; exact PySem.W.ne_bytes (Z8 I q (congrArg not Ze4))
  | _=>exact absurd (show false=true from hs) Bool.false_ne_true
 | _=>cases y <;> exact absurd (show false=true from hs) Bool.false_ne_true
def Ql:OpR X (compareOp .Lt) (rI0 λi j=>.bl (decide (i < j))):=opB0 λ_ _ _ _ _ _ _ q=>lt_int q
def Zkf:OpR X (compareOp .LtE) (rI0 λi j=>.bl (decide (i<=j))):=opB0 λ_ _ _ _ _ _ _ q=>le_int q
def Wx:OpR X (compareOp .Gt) (rI0 λi j=>.bl (decide (j < i))):=opB0 λ_ _ _ _ _ _ _ q=>gt_int q
def Zop:OpR X (compareOp .GtE) (rI0 λi j=>.bl (decide (j<=i))):=opB0 λ_ _ _ _ _ _ _ q=>ge_int q
def Jv:OpR X (compareOp .IsNot) (λx y H Q=>y=.non/\Q (.bl (!decide (x=.non))) H):=by
 intro f8 s σ H x y v u Q I rx ry h;obtain ⟨rfl,q⟩:=h;cases ry;refine isnot_none_gen (Z8 I q ?_)
 cases x <;> first
  | (cases rx; rfl)
  | (obtain ⟨t,rfl⟩:=rx; rfl)
def Zs (b:Expr) (h:op≠.In:=by decide) (h2:op≠.NotIn:=by decide):behindInMarks op b=false:=by
 have e1:(op == CmpOp.In)=false:=by cases op <;> first | rfl | exact absurd Y h
 have e2:(op == CmpOp.NotIn)=false:=by cases op <;> first | rfl | exact absurd Y h2
 cases b <;> simp [behindInMarks,e1,e2]
def Qu (ho:OpR X (compareOp op) r) (ha:PE X a ta) (hb:PE X b tb) (hm:behindInMarks op b=false):PE X (.Compare a [op] [b] pos) (tOp r ta tb):=by
 intro f8 s σ H Q I h;exact wpAny_Compare1 (binT ha hb I h λv u s2 x y H2 I2 rx ry q=>ho f8 s2 σ H2 x y v u Q I2 rx ry q) hm
def Zn9 (t:TE):TT:=λσ H Q=>t σ H λx H'=>∃ k,x=.bl k/\Q k H'
def Zr {op:CmpOp} {r:R2} (ho:OpR X (compareOp op) r) (ha:PE X a ta) (hb:PE X b tb) (hm:behindInMarks op b=false):PT X (.Compare a [op] [b] pos) (Zn9 (tOp r ta tb)):=by
 intro f8 s σ H Q I h;refine wpAny_isTrue_Compare1 (thn (ha f8 s σ H _ I h) λv s1 ⟨x,H1,I1,r1,q1⟩=>thn (hb f8 s1 σ H1 _ I1 q1) λu s2 ⟨y,H2,I2,r2,q2⟩ =>
  thn (ho f8 s2 σ H2 x y v u _ I2 r1 r2 q2) λc s3 ⟨z,H3,I3,r3,k,e,q3⟩=>?_) hm
 subst e;cases r3;exact wpAny_truthy_bool ⟨H3,I3,q3⟩
def Zm0 (r r':R2) (ta tb tc:TE):TE:=λσ H Q=>ta σ H λx H1=>tb σ H1 λy H2=>r x y H2 λz H3=>∃ k,z=.bl k /\
 (if k=true then tc σ H3 λw' H4=>r' y w' H4 Q else Q (.bl false) H3)
def Zje {op op':CmpOp} {r r':R2} (ho:OpR X (compareOp op) r) (nq:OpR X (compareOp op') r') (ha:PE X a ta) (hb:PE X b tb) (hc:PE X c tc)
  (hm:lastMarks [op,op'] [b,c]=false:=by with_unfolding_all rfl):PE X (.Compare a [op,op'] [b,c] pos) (Zm0 r r' ta tb tc):=by
 intro f8 s σ H Q I h;refine Compare_chain (thn (ha f8 s σ H _ I h) λv s1 ⟨x,H1,I1,r1,q1⟩=>chain_link (thn (hb f8 s1 σ H1 _ I1 q1) λu s2 ⟨y,H2,I2,r2,q2⟩ =>
  thn (ho f8 s2 σ H2 x y v u _ I2 r1 r2 q2) λd s3 ⟨z,H3,I3,r3,k,e,q3⟩=>?_)) hm
 subst e;cases r3;refine wpAny_truthy_bool ?_
 cases k with
 | false=>exact ite_ff ⟨.bl false,H3,I3,Y,q3⟩
 | true=>exact ite_tt (chain_last (thn (hc f8 s3 σ H3 _ I3 q3) λw' s4 ⟨z',H4,I4,r4,q4⟩=>nq f8 s4 σ H4 y z' u w' Q I4 r2 r4 q4))
def TruV (K:W.Frag) (x:V) (H:Hp) (k:Bool):Prop :=
 match x with
 | .non=>k=false
 | .bl b=>k=b
 | .int i=>k=(i != 0)
 | .str y=>y.length<=sizeLine/\k=((y.length:Int) != 0)
 | .byt y=>y.size<=sizeLine/\k=((y.size:Int) != 0)
 | .ref p=>(∃ xs,SqL K H p xs/\k=!xs.isEmpty)\/(∃ xs,SqT K H p xs/\k=!xs.isEmpty)\/∃ kvs,H p=some (.dK kvs)/\k=!kvs.isEmpty
 | _=>False
def Zfy {κ:Type} {kvs:List (κ × V)} {vs:List (κ × Value)} (r:KV kvs vs):(!vs.isEmpty)=!kvs.isEmpty:=by
 cases r <;> rfl
def Gy {xs:List V} {its:List Value} (r:Vals xs its):(!its.toArray.isEmpty)=!xs.isEmpty:=by
 cases r <;> simp
def Oj:(sizeLine:Nat) < 2 ^ 63:=by rw [sizeLine_eq]; decide
def Zmr:TruR X (λx H Q=>∃ k,TruV X.K x H k/\Q k H):=by
 intro f8 s σ H x v Q I rx h;obtain ⟨k,e,q⟩:=h;have hl:=Oj;have hs:sizeLine=16777216:=sizeLine_eq
 cases x with
 | non =>
  cases rx;have e':k=false:=e;subst e';exact truthy_none ⟨H,I,q⟩
 | bl b =>
  cases rx;have e':k=b:=e;subst e';exact wpAny_truthy_bool ⟨H,I,q⟩
 | int i =>
  obtain ⟨t,rfl⟩:=rx;have e':k=(i != 0):=e;subst e';exact PySem.P.truthy_int ⟨H,I,q⟩
 | str y =>
  obtain ⟨t,rfl⟩:=rx;obtain ⟨hy,e'⟩:y.length<=sizeLine/\k=((y.length:Int) != 0):=e;subst e';exact PySem.P.truthy_str (by lia) ⟨H,I.tok _,q⟩
 | byt y =>
  obtain ⟨t,rfl⟩:=rx;obtain ⟨hy,e'⟩:y.size<=sizeLine/\k=((y.size:Int) != 0):=e;subst e';exact PySem.W.truthy_bytes (by lia) ⟨H,I.tok _,q⟩
 | ref p =>
  cases rx;have e':(∃ xs,SqL X.K H p xs/\k=!xs.isEmpty)\/(∃ xs,SqT X.K H p xs/\k=!xs.isEmpty)\/∃ kvs,H p=some (.dK kvs)/\k=!kvs.isEmpty:=e
  rcases e' with ⟨xs,hx,e'⟩ | ⟨xs,hx,e'⟩ | ⟨kvs,hx,e'⟩
  ·subst e'
   obtain ⟨its,r,pl,hz⟩:=I.list hx;have gc:=r.length;exact wpAny_truthy_list pl.isList (by simp only [Aq]; lia) ⟨H,I.tok _,by rw [Gy r]; exact q⟩
  ·subst e'
   obtain ⟨its,r,pl,hz⟩:=I.tuple hx;have gc:=r.length;exact truthy_tuple pl (by simp only [Aq]; lia) ⟨H,I.tok _,by rw [Gy r]; exact q⟩
  ·subst e'
   obtain ⟨hz,hS,vs,r,m⟩:kvs.length<=sizeLine/\(p == sysModules)=false/\∃ vs,KV kvs vs/\s.heap.DictOf (Z1 X.prog X.w) p vs:=I.hok p _ hx;have gc:kvs.length=vs.length:=Paired.length r;exact wpAny_truthy_dict hS m (by lia) ⟨H,I.tok _,by rw [Zfy r]; exact q⟩
 | _=>exact (show False from e).elim
def Kq (ha:PE X a ta) (he:∀ ji,isTrue a X.env ji=(do let v <- ji; standAt a.pos; holding [v] (truthy v))) :
  PT X a (λσ H Q=>ta σ H λx H'=>∃ k,TruV X.K x H' k/\Q k H'):=by
 intro f8 s σ H Q I h;refine isTrue_plain (thn (ha f8 s σ H _ I h) λv s1 zz8=>?_) (he _);obtain ⟨x,H1,I1,r1,q1⟩:=zz8;exact Zmr f8 s1 σ H1 x v Q I1 r1 q1
def Wb (r:Vals [x] us):∃ u,us=[u]/\RelV x u:=by
 cases r with
 | cons r1 r2=>cases r2; exact ⟨_,Y,r1⟩
def Zj8 (r:Vals [x,y] us):∃ u w',us=[u,w']/\RelV x u/\RelV y w':=by
 cases r with
 | cons r1 r2 =>
  cases r2 with
  | cons r3 r4=>cases r4; exact ⟨_,_,Y,r1,r3⟩
def Zil (hc:X.calm=true):Y5 X (.builtin "max") (λxs H Q=>∃ i j,xs=[.int i,.int j]/\Q (.int (if j > i then j else i)) H):=by
 intro f8 s σ H xs us Q I r h;obtain ⟨i,j,rfl,q⟩:=h;obtain ⟨u,w',rfl,⟨t,rfl⟩,⟨t',rfl⟩⟩:=Zj8 r;refine max_two_ints (I.ok.hd hc) λh' tk k=>⟨_,H,I.kept k,?_,q⟩;by_cases hj:j > i
 ·rw [if_pos hj,if_pos hj]; exact ⟨_,Y⟩
 ·rw [if_neg hj,if_neg hj]; exact ⟨_,Y⟩
end
structure ObjM (h:Heap) (x dx C:Addr) (mA:Str->Option Value):Prop where
 obj:h.get? x=some (PySem.W.instObj C dx)
 ns:h.Ns1 dx mA
 ne:dx≠x
def Zhz {h:Heap} (n:h.Ns1 dx mA):∃ od,h.get? dx=some od/\∀ name,PySem.W.lookIn name od=some (mA name):=by
 obtain ⟨o,es,ep,ho,hd,hk,_,hm⟩:=n;refine ⟨o,ho,λname=>?_⟩;have e:=hm name;unfold nsFind findBy at e;rw [<- Array.find?_toList] at e;unfold PySem.W.lookIn;rw [hd];dsimp only;split
 ·rename_i y q
  rw [q] at e;exact congrArg some e
 ·rename_i q
  rw [q] at e;have a:es.toList.any (·.refKey)=false:=by
   rw [List.any_eq_false]
   intro y hy
   obtain ⟨z,t,k6⟩:=hk y (Array.mem_toList_iff.mp hy)
   simp [DictEntry.refKey,k6]
  have a':¬ es.toList.any (·.refKey)=true:=by rw [a]; exact Bool.false_ne_true
  rw [if_neg a'];exact congrArg some e
def ObjM.look (I:ObjM h x dx C mA):∃ od,PySem.W.InstAt h x (PySem.W.instObj C dx) C (some od)/\∀ name,PySem.W.lookIn name od=some (mA name) :=
 let ⟨od,ho,hl⟩:=Zhz I.ns
 ⟨od,⟨I.obj,rfl,rfl,ho⟩,hl⟩
section
variable {prog:Program} {w:World} {A:Around} {E:Value->Shared->Prop} {s:Shared} {K:W.Frag} {x dx C f:Addr} {mA:Str->Option Value} {name:Str} {v:Value}
def Zl5 (X:K.In s.heap) (I:ObjM s.heap x dx C mA) (hg:PySem.W.plainGet K C name=true) (hh:PySem.W.hasDictIn K C=true)
  (ha:PySem.W.findIn K (.ref C) name=some none) (hv:mA name=some v) (za:PySem.W.handedIn v=true) (h:Q v { s with toks:=s.toks + 1 }) :
  wpAny (model prog w) A (getAttr (.ref x) name expr) Q E s:=by
 obtain ⟨od,J,hl⟩:=I.look;exact PySem.W.get_value X J (PySem.W.plainGet_of hg).1 (PySem.W.findObj_own hh ha Y (by rw [hl,hv])) za h
def Zjy (X:K.In s.heap) (I:ObjM s.heap x dx C mA) (hg:PySem.W.plainGet K C name=true)
  (hf:PySem.W.findIn K (.ref C) name=some (some (.ref f))) (ht:PySem.W.isFn K (.ref f)=true) (hv:mA name=none) (h:Q (.ref f,[.ref x]) s) :
  wpAny (model prog w) A (getMethod (.ref x) name pl) Q E s:=by
 obtain ⟨od,J,hl⟩:=I.look;exact PySem.W.method_fn X J (PySem.W.plainGet_of hg).1 (PySem.W.plainGet_of hg).2 hf (beq_iff_eq.mp ht) (by show (PySem.W.lookIn name od).map (·.isSome)=some false; rw [hl,hv]; rfl) h
def Zlc {ns:List Str} (X:K.In s.heap) (I:ObjM s.heap x dx C mA)
  (hs:PySem.W.findIn K (.ref C) "__setattr__"=some (some (.builtin "object.__setattr__"))) (hp:PySem.W.plainOver K C=true) (ht:PySem.W.takerIn K C name=some none) (hh:PySem.W.hasDictIn K C=true)
  (hw:PySem.Within mA ns) (hsz:ns.length<=sizeLine)
  (h:∀ h',ObjM h' x dx C (λy=>if y=name then some v else mA y)->Heap.SameBut dx s.heap h'->Q () { s with heap:=h',toks:=s.toks + 2 }) :
  wpAny (model prog w) A (setAttr (.ref x) name v) Q E s:=by
 obtain ⟨od,J,hl⟩:=I.look;refine PySem.W.set_plain X J hs (PySem.W.osa_open (s:={ s with toks:=s.toks + 1 }) (r:=none) X J hp ht λb=>?_);obtain ⟨cd,hc,hd'⟩:=PySem.W.any_some hh;have hx:s.heap.get? x=some ⟨.ref C,some dx,.plain,#[]⟩:=I.obj;refine Al (wpAny_pure (Al (Al (wpAny_loadPart hx (Al (PySem.W.Looks.here (s:={ s with toks:=s.toks + 1 }) (PySem.W.looks_clsIn X hc) ?_))))));rw [hd'];refine wpAny_pure (a:=some dx) (Al (wpAny_pure (Al ?_)));refine wpAny_nsSet1 (s:={ s with toks:=s.toks + 1 }) I.ns λh' uu jo=>?_;obtain ⟨oD,esD,epD,hoD,hdD,hcD⟩:=uu.count (PySem.Within.cons name v hw);refine Al (wpAny_lookBehind hoD (by rw [hdD]; exact pastItsLine_dict (Nat.le_trans hcD (by rw [List.length_cons]; lia))) ?_);exact wpAny_pure (h _ ⟨(jo.2 _ (Ne.symm I.ne)).trans I.obj,uu,I.ne⟩ jo)
def Zjq {vs:List Value} {kw:List (Str × Value)} (X:K.In s.heap) (hm:PySem.W.makesIn K C=true)
  (hi:PySem.W.findIn K (.ref C) "__init__"=some (some (.ref f))) (hf:PySem.W.typeIn K (.ref f)=some (.type "function"))
  (h:codeAny (model prog w) (A.under (.builtin "type.__call__" ⟨.ref C :: vs,kw⟩)) (.call (.ref f) ⟨.ref (s.heap.objs.size + 1) :: vs,kw⟩) (PySem.W.InitBack (s.heap.objs.size + 1) R)
   { s with heap:=(s.heap.push PySem.W.emptyDict).push (PySem.W.instObj C s.heap.objs.size) }) :
  codeAny (model prog w) A (.call (.ref C) ⟨vs,kw⟩) R s:=by
 obtain ⟨hh,g,d,t,os⟩:=s;exact PySem.W.make_core (PySem.W.makes_of X hm) (PySem.W.looks_findIn X hi) (λself=>PySem.W.bind_fn X self hf) (.inl Y) h
end
def putF (f:Str) (v:V):List (Str × V)->List (Str × V)
 | []=>[(f,v)]
 | (g,x) :: r=>if g=f then (g,v) :: r else (g,x) :: putF f v r
theorem Zy (f g:Str) (v:V):∀ fs:List (Str × V),(putF f v fs).lookup g=if g=f then some v else fs.lookup g
 | []=>by
  show List.lookup g [(f,v)]=_;by_cases h:g=f
  ·have hb:(g == f)=true:=beq_iff_eq.mpr h
   simp only [List.lookup,hb,if_pos h]
  ·have hb:(g == f)=false:=beq_eq_false_iff_ne.mpr h
   simp only [List.lookup,hb,if_neg h]
 | (k,x) :: r=>by
  have ih:=Zy f g v r;rw [show putF f v ((k,x) :: r)=(if k=f then (k,v) :: r else (k,x) :: putF f v r) from rfl];by_cases hk:k=f
  ·rw [if_pos hk]
   by_cases h:g=k
   ·have hb:(g == k)=true:=beq_iff_eq.mpr h
    simp only [List.lookup,hb,if_pos (h.trans hk)]
   ·have hb:(g == k)=false:=beq_eq_false_iff_ne.mpr h
    simp only [List.lookup,hb,if_neg (λe:g=f=>h (e.trans hk.symm))]
  ·rw [if_neg hk]
   by_cases h:g=k
   ·have hb:(g == k)=true:=beq_iff_eq.mpr h
    simp only [List.lookup,hb,if_neg (λe:g=f=>hk (h.symm.trans e))]
   ·have hb:(g == k)=false:=beq_eq_false_iff_ne.mpr h
    simp only [List.lookup,hb];exact ih
theorem Om (f:Str) (v:V):∀ fs:List (Str × V),f∈(putF f v fs).map (·.1)/\∀ g,g∈fs.map (·.1)->g∈(putF f v fs).map (·.1)
 | []=>⟨by simp [putF],λg h=>by simp at h⟩
 | (k,x) :: r=>by
  obtain ⟨i1,i2⟩:=Om f v r;rw [show putF f v ((k,x) :: r)=(if k=f then (k,v) :: r else (k,x) :: putF f v r) from rfl];by_cases hk:k=f
  ·rw [if_pos hk]
   subst hk;exact ⟨by simp,λg h=>by simpa using h⟩
  ·rw [if_neg hk]
   refine ⟨?_,λg h=>?_⟩
   ·rw [List.map_cons]
    exact List.mem_cons_of_mem _ i1
   ·rw [List.map_cons] at h ⊢
    rcases Ar h with e | e
    ·exact List.mem_cons.mpr (.inl e)
    ·exact List.mem_cons_of_mem _ (i2 g e)
theorem Ki (f:Str) (v:V):∀ fs:List (Str × V),(putF f v fs).length<=fs.length + 1
 | []=>by simp [putF]
 | (k,x) :: r=>by
  have ih:=Ki f v r;rw [show putF f v ((k,x) :: r)=(if k=f then (k,v) :: r else (k,x) :: putF f v r) from rfl];by_cases hk:k=f
  ·rw [if_pos hk,List.length_cons,List.length_cons]; lia
  ·rw [if_neg hk,List.length_cons,List.length_cons]; lia
def RelO.some_of (r:RelO (some v) o):∃ u,o=some u/\RelV v u:=by
 cases o with
 | none=>exact (show False from r).elim
 | some u=>exact ⟨u,Y,r⟩
def RelO.none_of (r:RelO none o):o=none:=by
 cases o with
 | none=>rfl
 | some u=>exact (show False from r).elim
def Zh6 (r:RelV v u):PySem.W.handedIn u=true:=by
 cases v with
 | non=>cases (show u=Value.none from r); rfl
 | bl b=>cases (show u=Value.bool b from r); rfl
 | int i=>obtain ⟨t,e⟩:=(show ∃ t,u=Value.int i t from r); cases e; rfl
 | str x=>obtain ⟨t,e⟩:=(show ∃ t,u=Value.str x t from r); cases e; rfl
 | byt b=>obtain ⟨t,e⟩:=(show ∃ t,u=Value.bytes b t from r); cases e; rfl
 | flt b=>obtain ⟨t,e⟩:=(show ∃ t,u=Value.float b t from r); cases e; rfl
 | ref a=>cases (show u=Value.ref a from r); rfl
 | ty n=>cases (show u=Value.type n from r); rfl
section
variable {P:Program} {w:World} {H H':Hp} {h h':Heap} {a C dx:Addr} {fs fs':List (Str × V)}
def O2 (hok:HOk P w H h) (e:H a=some (.ins C dx fs)):∃ mA,ObjM h a dx C mA/\(∀ f,RelO (fs.lookup f) (mA f))/\PySem.Within mA (fs.map (·.1))/\fs.length<=1000/\H dx=some (.own a):=by
 obtain ⟨d,z,ne,ob,mA,n,r,q⟩:=(show Z9 P w H h a (.ins C dx fs) from hok a _ e);exact ⟨mA,⟨ob,n,ne⟩,r,q,z,d⟩
end
structure Cls (K:W.Frag) (C:Addr):Prop where
 pg:PySem.W.plainGet K C Str.empty=true
 hd:PySem.W.hasDictIn K C=true
 po:PySem.W.plainOver K C=true
 sa:PySem.W.findIn K (.ref C) "__setattr__"=some (some (.builtin "object.__setattr__"))
def Cls.get {K:W.Frag} {C:Addr} (c:Cls K C) (f:Str):PySem.W.plainGet K C f=true:=c.pg
def Wt (K:W.Frag) (C:Addr) (f:Str):Prop:=PySem.W.findIn K (.ref C) f=some none
def Wt.taker {K:W.Frag} {C:Addr} {f:Str} (n:Wt K C f):PySem.W.takerIn K C f=some none:=by
 unfold PySem.W.takerIn;rw [show PySem.W.findIn K (.ref C) f=some none from n];rfl
structure Meth (K:W.Frag) (C:Addr) (m:Str) (f:Addr):Prop where
 at_:PySem.W.findIn K (.ref C) m=some (some (.ref f))
 fn:PySem.W.isFn K (.ref f)=true
 kp:PySem.W.keepIn K (.ref f)=true
section
variable {X:Cx} {f8:List (Addr × Obj)} {σ:St} {H:Hp} {s:Shared} {a C dx:Addr} {fs:List (Str × V)} {f:Str} {v:V} {A:Around} {E:Value->Shared->Prop}
def Zf1 (I:Inv X f8 σ H s) (e:H a=some (.ins C dx fs)) (c:Cls X.K C) (n:Wt X.K C f) (l:fs.lookup f=some v)
  (h:∀ u s',Inv X f8 σ H s'->RelV v u->Q u s'):wpAny (model X.prog X.w) A (getAttr (.ref a) f b) Q E s:=by
 obtain ⟨mA,O,r,_,_,_⟩:=O2 I.hok e;obtain ⟨u,hu,ru⟩:=RelO.some_of (v:=v) (o:=mA f) (by rw [<- l]; exact r f);exact Zl5 I.kIn O (c.get f) c.hd n hu (Zh6 ru) (h u _ (I.tok _) ru)
def Uo (I:Inv X f8 σ H s) (e:H a=some (.ins C dx fs)) (c:Cls X.K C) (k:Meth X.K C m g) (l:fs.lookup m=none)
  (h:Q (.ref g,[.ref a]) s):wpAny (model X.prog X.w) A (getMethod (.ref a) m pl) Q E s:=by
 obtain ⟨mA,O,r,_,_,_⟩:=O2 I.hok e;have hn:mA m=none:=RelO.none_of (by rw [<- l]; exact r m);exact Zjy I.kIn O (c.get m) k.at_ k.fn hn h
def Zfg (I:Inv X f8 σ H s) (e:H a=some (.ins C dx fs)) (c:Cls X.K C) (n:Wt X.K C f) (hl:fs.length < 1000) (ry:RelV y u)
  (h:∀ s',Inv X f8 σ (upd H a (.ins C dx (putF f y fs))) s'->Q () s'):wpAny (model X.prog X.w) A (setAttr (.ref a) f u) Q E s:=by
 obtain ⟨mA,O,r,wi,_,ho⟩:=O2 I.hok e;have hz:(fs.map (·.1)).length<=sizeLine:=by rw [Ab,sizeLine_eq]; lia
 refine Zlc I.kIn O c.sa c.po n.taker c.hd wi hz λh' O' sb=>h _ ?_;have hd:∃ o,h'.get? dx=some o:=let ⟨o,_,_,e',_⟩:=O'.ns; ⟨o,e'⟩
 refine I.write (x:=a) (e:=dx) (by rw [e]; exact True.intro) (.inr ho) (λb q hb z=>(sb.2 b hb).trans z) hd ?_;refine ⟨by rw [Zf O.ne]; exact ho,?_,O.ne,O'.obj,_,O'.ns,λg=>?_,λg hg=>?_⟩
 ·have:=Ki f y fs; lia
 ·show RelO ((putF f y fs).lookup g) (if g=f then some u else mA g)
  rw [Zy];by_cases q:g=f
  ·rw [if_pos q,if_pos q]; exact ry
  ·rw [if_neg q,if_neg q]; exact r g
 ·by_cases q:g=f
  ·rw [q]; exact (Om f y fs).1
  ·refine (Om f y fs).2 g (wi g λz=>hg ?_)
   show (if g=f then some u else mA g)=none;rw [if_neg q]; exact z
def Inv.made (I:Inv X f8 σ H s):Inv X f8 σ (upd (upd H s.heap.objs.size (.own (s.heap.objs.size + 1))) (s.heap.objs.size + 1) (.ins C s.heap.objs.size []))
  { s with heap:=(s.heap.push PySem.W.emptyDict).push (PySem.W.instObj C s.heap.objs.size) }:=by
 have e1:(s.heap.push PySem.W.emptyDict).get? s.heap.objs.size=some PySem.W.emptyDict:=Ap s.heap rfl;have e2:((s.heap.push PySem.W.emptyDict).push (PySem.W.instObj C s.heap.objs.size)).get? (s.heap.objs.size + 1)=some (PySem.W.instObj C s.heap.objs.size):=by
  have:=Ap (s.heap.push PySem.W.emptyDict) (o:=PySem.W.instObj C s.heap.objs.size) rfl
  rwa [Heap.size_push] at this
 have e3:(s.heap.push PySem.W.emptyDict).Ns s.heap.objs.size (λ_=>none):=⟨PySem.W.emptyDict,#[],_,e1,rfl,(λe he=>absurd he (by simp)),λ_=>rfl⟩;have I1:=I.laid (a:=s.heap.objs.size) (o:=.own (s.heap.objs.size + 1)) (h':=s.heap.push PySem.W.emptyDict) (t':=s.toks) (λb u q=>Ak _ q) (An _) ⟨_,e1⟩;refine I1.laid (a:=s.heap.objs.size + 1) (o:=.ins C s.heap.objs.size []) (t':=s.toks) (λb u q=>Ak _ q) (Nat.le_of_eq (Heap.size_push _ _)) ?_;have ne:s.heap.objs.size≠s.heap.objs.size + 1:=As (Nat.lt_succ_self _);refine ⟨by rw [Zf ne,Zc],Az _,ne,e2,λ_=>none,(Heap.Ns1.of_empty e3).at λo q=>Ak _ q,λ_=>True.intro,λy hy=>absurd Y hy⟩
def Zmi (hb:attributeBase e f env (eval e env)=eval e env)
  (h:wpAny (model prog w) A (eval e env) (λo s₁=>wpAny (model prog w) A (getAttr o f true) Q E s₁) E s):wpAny (model prog w) A (eval (.Attribute e f pos) env) Q E s :=
 Attribute_any_ h (by rw [arm_eval_Attribute,hb])
end
def tFld (K:W.Frag) (ta:TE) (f:Str):TE:=λσ H Q=>ta σ H λx H1=>∃ a C dx fs v,x=.ref a/\H1 a=some (.ins C dx fs)/\Cls K C/\Wt K C f/\fs.lookup f=some v/\Q v H1
def sFld (K:W.Frag) (ta tv:TE) (f:Str):TS:=λD σ H=>tv σ H λy H1=>ta σ H1 λx H2=>∃ a C dx fs,x=.ref a/\H2 a=some (.ins C dx fs)/\Cls K C/\Wt K C f/\fs.length < 1000 /\
 D.nx σ (upd H2 a (.ins C dx (putF f y fs)))
section
variable {X:Cx} {o e value:Expr} {f:Str} {pos jp kq:Pos} {ta tv:TE}
def X6 (he:PE X e ta) (hb:attributeBase e f X.env (eval e X.env)=eval e X.env):PE X (.Attribute e f pos) (tFld X.K ta f):=by
 intro f8 s σ H Q I h;refine Zmi hb (thn (he f8 s σ H _ I h) λu s1 gk=>?_);obtain ⟨x,H1,I1,rx,a,C,dx,fs,v,ex,ea,c,n,l,q⟩:=gk;subst ex;obtain rfl:u=Value.ref a:=rx;exact Zf1 I1 ea c n l λu' s2 I2 ru=>⟨v,H1,I2,ru,q⟩
def Gj (ha:PE X o ta) (hv:PE X value tv) (hs:swapsWith value (some (.Attribute o f jp)) pos.line X.env=pure false):PS X (.Assign [.Attribute o f jp] value pos) (sFld X.K ta tv f):=by
 intro f8 s σ H D I h;refine plainObj_wpAny_Assign_Attribute (thn (hv f8 s σ H _ I h) λu s1 gk=>?_) hs;obtain ⟨y,H1,I1,ry,q⟩:=gk;refine thn (ha f8 s1 σ H1 _ I1 q) λov s2 zz10=>?_;obtain ⟨x,H2,I2,rx,a,C,dx,fs,ex,ea,c,n,l,q2⟩:=zz10;subst ex;obtain rfl:ov=Value.ref a:=rx;exact Zfg I2 ea c n l ry λs3 I3=>⟨σ,_,I3,q2⟩
end
section
variable {X:Cx} {f8:List (Addr × Obj)} {σ:St} {H:Hp} {s:Shared} {A:Around} {E:Value->Shared->Prop} {Q:Value->Shared->Prop} {c:Value} {b:Bool}
inductive TyOf (K:W.Frag) (H:Hp):V->Value->Prop where
 | non:TyOf K H .non (.type "NoneType")
 | bl (x:Bool):TyOf K H (.bl x) (.type "bool")
 | int (i:Int):TyOf K H (.int i) (.type "int")
 | str (x:Str):TyOf K H (.str x) (.type "str")
 | flt (x:UInt64):TyOf K H (.flt x) (.type "float")
 | lst {a:Addr} {xs:List V} (e:H a=some (.lst xs)):TyOf K H (.ref a) (.type "list")
 | frz {a:Addr} {o:Obj} {xs:List V} (e:H a=some (.frz o (.lst xs))):TyOf K H (.ref a) (.type "list")
 | tup {a:Addr} {xs:List V} (e:H a=some (.tup xs)):TyOf K H (.ref a) (.type "tuple")
 | dK {a:Addr} {kvs:List (Key × V)} (e:H a=some (.dK kvs)):TyOf K H (.ref a) (.type "dict")
 | dT {a:Addr} {kvs:List (List Key × V)} (e:H a=some (.dT kvs)):TyOf K H (.ref a) (.type "dict")
 | ins {a C dx:Addr} {fs:List (Str × V)} (e:H a=some (.ins C dx fs)) (cl:Cls K C) (ha:PySem.W.findIn K (.ref C) "__class__"=some (some (.builtin "object.__class__")))
   (hn:PySem.W.specialIn K (.builtin "object.__class__") "__get__"=some (some (.builtin "getset_descriptor.__get__"))) (htk:PySem.W.takesIn K (.builtin "object.__class__")=some true)
   (hm:PySem.W.mroIn K C (.type "object")=some true):TyOf K H (.ref a) (.ref C)
def Zh3 (I:Inv X f8 σ H s) (rx:RelV x u) (ty:TyOf X.K H x t) (e:PySem.W.kitOne X.K t c=some b) (h:∀ tk,Q (.bool b) { s with toks:=tk }) :
  wpAny (model X.prog X.w) A (call (.builtin "isinstance") [u,c]) Q E s:=by
 cases ty with
 | non=>cases (show u=Value.none from rx); exact PySem.W.kia_one PySem.W.kitx_none I.kIn True.intro e (λz=>nomatch z) h
 | bl y=>cases (show u=Value.bool y from rx); exact PySem.W.kia_one PySem.W.kitx_bool I.kIn True.intro e (λz=>nomatch z) h
 | int i=>obtain ⟨t,q⟩:=(show ∃ t,u=Value.int i t from rx); cases q; exact PySem.W.kia_one PySem.W.kitx_int I.kIn True.intro e (λz=>nomatch z) h
 | str y=>obtain ⟨t,q⟩:=(show ∃ t,u=Value.str y t from rx); cases q; exact PySem.W.kia_one PySem.W.kitx_str I.kIn True.intro e (λz=>nomatch z) h
 | flt y=>obtain ⟨t,q⟩:=(show ∃ t,u=Value.float y t from rx); cases q; exact PySem.W.kia_one PySem.W.kitx_float I.kIn True.intro e (λz=>nomatch z) h
 | @lst a xs ea =>
  cases (show u=Value.ref a from rx);obtain ⟨_,_,n,_,h1⟩:=(show Z9 X.prog X.w H s.heap a (.lst xs) from I.hok a _ ea);exact PySem.W.kia_one PySem.W.kitx_list I.kIn ⟨_,h1,Y⟩ e (λz=>nomatch z) h
 | @frz a ob xs ea =>
  cases (show u=Value.ref a from rx);obtain ⟨_,_,_,n,_,h1⟩:=(show Z9 X.prog X.w H s.heap a (.frz ob (.lst xs)) from I.hok a _ ea);exact PySem.W.kia_one PySem.W.kitx_list I.kIn ⟨_,h1,Y⟩ e (λz=>nomatch z) h
 | @tup a xs ea =>
  cases (show u=Value.ref a from rx);obtain ⟨_,_,_,p⟩:=(show Z9 X.prog X.w H s.heap a (.tup xs) from I.hok a _ ea);obtain ⟨o,h1,h2,_⟩:=p;exact PySem.W.kia_one PySem.W.kitx_tuple I.kIn ⟨o,h1,h2⟩ e (λz=>nomatch z) h
 | @dK a kvs ea =>
  cases (show u=Value.ref a from rx);obtain ⟨_,_,vs,_,p⟩:=(show Z9 X.prog X.w H s.heap a (.dK kvs) from I.hok a _ ea);obtain ⟨o,es,ep,h1,h2,_⟩:=p;exact PySem.W.kia_one PySem.W.kitx_dict I.kIn ⟨o,h1,h2.1⟩ e (λz=>nomatch z) h
 | @dT a kvs ea =>
  cases (show u=Value.ref a from rx);obtain ⟨_,_,xs,_,o,es,ep,h1,h2,_⟩:=(show Z9 X.prog X.w H s.heap a (.dT kvs) from I.hok a _ ea);exact PySem.W.kia_one PySem.W.kitx_dict I.kIn ⟨o,h1,h2.1⟩ e (λz=>nomatch z) h
 | @ins a C dx fs ea cl ha hn htk hm =>
  cases (show u=Value.ref a from rx);obtain ⟨mA,O,_⟩:=O2 I.hok ea;obtain ⟨od,J,_⟩:=O.look;exact PySem.W.kia_one (PySem.W.kitx_own (cl.get _) cl.hd ha hn htk hm) I.kIn J e (λz=>nomatch z) h
end
structure Room (k:Nat) (A:Around):Prop where
 hd:A.handled=none
 dp:A.depth + 3 * k + 5 < recursionLimit
 un:A.units + 16 * k + 200 < cLine
def Room.mono (r:Room k A) (h:j<=k):Room j A:=⟨r.hd,by have:=r.dp; lia,by have:=r.un; lia⟩
def Room.deeper {A:Around} (r:Room (k + 1) A) (env:Env):Room k (A.deeper env) :=
 ⟨r.hd,by have:=r.dp; show A.depth + 1 + 3 * k + 5 < _; lia,by have:=r.un; show A.units + 3 + 16 * k + 200 < _; lia⟩
def Zft {A:Around} {us:List Value} {kw:List (Str × Value)}:(A.under (.builtin "type.__call__" ⟨.ref C :: us,kw⟩)).depth=A.depth + 1:=by
 first | rfl | simp [Around.under,Code.weight,Code.isCreation,Code.isGuard,Code.isCaller,Code.frames,Code.isFrame,guardIds]
def Zfs {A:Around} {us:List Value} {kw:List (Str × Value)}:(A.under (.builtin "type.__call__" ⟨.ref C :: us,kw⟩)).units=A.units + 1:=by
 first | rfl | simp [Around.under,Code.cUnits,Code.frames,Code.isFrame]
def Room.make {A:Around} (r:Room (k + 1) A) (C:Addr) (us:List Value) (kw:List (Str × Value)):Room k (A.under (.builtin "type.__call__" ⟨.ref C :: us,kw⟩)) :=
 ⟨r.hd,by have:=r.dp; rw [Zft]; lia,by have:=r.un; rw [Zfs]; lia⟩
def Room.depth {A:Around} (r:Room k A):A.depth < recursionLimit:=by have:=r.dp; lia
def Room.units {A:Around} (r:Room k A):A.units + 64 < cLine:=by have:=r.un; lia
def tNil:TA:=λ_ H Q=>Q [] H
def Zoh (ta:TE) (tr:TA):TA:=λσ H Q=>ta σ H λx H1=>tr σ H1 λxs H2=>Q (x :: xs) H2
section
variable {X:Cx} {e:Expr} {es:List Expr} {te:TE} {t:TA} {pos:Pos}
def Zb:PA X [] tNil:=λ_ _ _ _ H Q I h=>Calls.spliced_nil ⟨[],H,I,.nil,h⟩
def Za (ha:PE X e te) (hr:PA X es t) (hs:starEach (e :: es) X.env=(false,eval e X.env) :: starEach es X.env:=by rfl):PA X (e :: es) (Zoh te t):=by
 intro pos f8 s σ H Q I h;rw [hs];show wpAny _ _ (spliced ((false,eval e X.env) :: backTo pos (starEach es X.env))) _ _ s;refine Calls.spliced_cons (thn (ha f8 s σ H _ I h) λu s1 gk=>?_);obtain ⟨x,H1,I1,r1,q1⟩:=gk;refine thn (hr pos f8 s1 σ H1 _ I1 q1) λus s2 zz11=>?_;obtain ⟨xs,H2,I2,r2,q2⟩:=zz11;exact ⟨x :: xs,H2,I2,.cons r1 r2,q2⟩
def tTup (t:TA):TE:=λσ H Q=>t σ H λxs H1=>xs.length<=sizeLine/\∀ p,H1 p=none->Q (.ref p) (upd H1 p (.tup xs))
def tLst (t:TA):TE:=λσ H Q=>t σ H λxs H1=>xs.length<=sizeLine/\∀ p,H1 p=none->Q (.ref p) (upd H1 p (.lst xs))
def Xo {x1} (h:PA X es t):PE X (.Tuple es x1 pos) (tTup t):=by
 intro f8 s σ H Q I hq;refine wpAny_Tuple_spliced (thn (h pos f8 s σ H _ I hq) λus s1 u9=>?_);obtain ⟨xs,H1,I1,r,z,q⟩:=u9;refine ⟨by rw [<- r.length]; exact z,?_⟩;have hf:H1 s1.heap.objs.size=none:=I1.hok.fresh (An _);refine ⟨.ref s1.heap.objs.size,upd H1 s1.heap.objs.size (.tup xs),I1.laid (t':=s1.toks) (λb u e=>Ak _ e) (An _) ?_,Y,q _ hf⟩;exact ⟨z,us,r,⟨_,Ap _ Y,Y,_,Y⟩⟩
def Yl (h:PA X es t):PE X (.List es pos) (tLst t):=by
 intro f8 s σ H Q I hq;refine wpAny_List_spliced (thn (h pos f8 s σ H _ I hq) λus s1 u9=>?_);obtain ⟨xs,H1,I1,r,z,q⟩:=u9;refine ⟨by rw [<- r.length]; exact z,?_⟩;have hf:H1 s1.heap.objs.size=none:=I1.hok.fresh (An _);refine ⟨.ref s1.heap.objs.size,upd H1 s1.heap.objs.size (.lst xs),I1.laid (t':=s1.toks) (λb u e=>Ak _ e) (An _) ?_,Y,q _ hf⟩;exact ⟨z,us,0,r,Ap _ Y⟩
end
abbrev Sp:=List V->Hp->VK->XK->Prop
abbrev CXT:=List Env->Hp->Shared->XK->Value->Shared->Prop
structure Env0 (P:Program) (w:World) (K:W.Frag) (mg:Str->Option Value) (base:Heap) (A:Around) (outer:List Env) (s:Shared) (H:Hp):Prop where
 frames:A.frames=some outer
 mod:Mod K mg base
 bs:∀ b o,base.get? b=some o->s.heap.get? b=some o/\H b=none
 bsz:base.objs.size<=s.heap.objs.size
 funs:s.heap.FunFrames base outer
 frf:∀ b∈frs outer,H b=none
 hok:HOk P w H s.heap
 bare:AllBare s.gens
def CE (outer:List Env) (P:Program) (w:World) (H:Hp) (s:Shared) (Q:VK) (u:Value) (s':Shared):Prop :=
 ∃ v H',s'.os=s.os/\AllBare s'.gens/\Un (frs outer) [] H H' s.heap s'.heap/\HOk P w H' s'.heap/\RelV v u/\Q v H'
def CR (CX:CXT) (outer:List Env) (P:Program) (w:World) (H:Hp) (s:Shared) (Q:VK) (E:XK) (r:Result) (s':Shared):Prop :=
 match r with
 | .ok (.ret u)=>CE outer P w H s Q u s'
 | .ok _=>False
 | .error e=>CX outer H s E e s'
structure FnOk (P:Program) (w:World) (K:W.Frag) (mg:Str->Option Value) (base:Heap) (CX:CXT) (k:Nat) (f:Addr) (fd:FuncData) (ps:List Str) (sp:Sp):Prop where
 len:∀ vs H Q E,sp vs H Q E->vs.length=ps.length
 run:∀ (A:Around) (outer:List Env) (s:Shared) (H:Hp) (args:Args) (us:List Value) (vs:List V) (Q:VK) (E:XK),Room k A->Env0 P w K mg base A outer s H->BindsTo s fd args (ps.zip us)->Vals vs us->sp vs H Q E ->
  codeAny (model P w) A (.call (.ref f) args) (CR CX outer P w H s Q E) s
def Env0.make {P:Program} {w:World} {K:W.Frag} {mg:Str->Option Value} {base:Heap} {A:Around} {outer:List Env} {s:Shared} {H:Hp} (e:Env0 P w K mg base A outer s H) (C:Addr) (us:List Value) (kw:List (Str × Value)) :
  Env0 P w K mg base (A.under (.builtin "type.__call__" ⟨.ref C :: us,kw⟩)) outer s H:=⟨by first | exact e.frames | (simpa [Around.under,Code.envs,Code.isFrame,pushEnvs] using e.frames),e.mod,e.bs,e.bsz,e.funs,e.frf,e.hok,e.bare⟩
section
variable {X:Cx} {f8:List (Addr × Obj)} {σ:St} {H:Hp} {s s':Shared}
def Inv.env0 (I:Inv X f8 σ H s):Env0 X.prog X.w X.K X.mg X.base X.A X.stack s H :=
 ⟨I.ok.frames,I.ok.mod,I.bs,Nat.le_trans I.ok.bsz I.sz,I.stack,I.stkFree,I.hok,I.bare⟩
def Inv.after (I:Inv X f8 σ H s) (h:CE X.stack X.prog X.w H s Q u s'):EP X f8 σ Q u s':=by
 obtain ⟨v,H',os,bare,un,hok,r,q⟩:=h;obtain ⟨hh,g,d,t,mw⟩:=s';obtain rfl:mw=s.os:=os;exact ⟨v,H',I.call (h':=hh) (g':=g) (d':=d) (t':=t) (ch:=[]) un hok bare (λb z=>absurd z (by simp)),r,q⟩
end
def Zkc (sp:Sp) (ir:List V) (E:XK) (t:TA):TE:=λσ H Q=>t σ H λvs H1=>sp (vs ++ ir) H1 Q E
def Zka (C:Addr) (m:Str) (sp:Sp) (ir:List V) (E:XK) (ta:TE) (t:TA):TE:=λσ H Q=>ta σ H λx H1=>∃ a dx fs,x=.ref a/\H1 a=some (.ins C dx fs)/\fs.lookup m=none /\
 t σ H1 λvs H2=>sp (x :: (vs ++ ir)) H2 Q E
def Zoe (C:Addr) (sp:Sp) (ir:List V) (E:XK) (t:TA):TE:=λσ H Q=>t σ H λvs H1=>∀ x dx,H1 x=none->H1 dx=none->dx≠x ->
 sp (.ref x :: (vs ++ ir)) (upd (upd H1 dx (.own x)) x (.ins C dx [])) (λv H2=>v=.non/\Q (.ref x) H2) E
def Wc (K:W.Frag) (fd:FuncData) (ps:List Str) (ds:List Value):Prop :=
 ∀ (s:Shared) (us:List Value),K.In s.heap->(us ++ ds).length=ps.length->BindsTo s fd ⟨us,[]⟩ (ps.zip (us ++ ds))
def Wc.all {K:W.Frag} {fd:FuncData} {ps:List Str} (h:∀ us:List Value,us.length=ps.length->bindArgs fd ⟨us,[]⟩=pure (ps.zip us)):Wc K fd ps []:=λs us _ hl=>by
 rw [List.append_nil] at hl ⊢;exact .of_eq (h us hl)
def Vb (CX:CXT) (X:Cx) (E:XK):Prop:=∀ (f8:List (Addr × Obj)) (σ:St) (H:Hp) (s:Shared) (e:Value) (s':Shared),Inv X f8 σ H s->CX X.stack H s E e s'->X.xe e s'
section
variable {X:Cx} {CX:CXT} {k:Nat} {f C:Addr} {fd:FuncData} {ps:List Str} {sp:Sp} {ir:List V} {ds:List Value} {E:XK} {x m:Str} {p pos gu:Pos} {e o:Expr} {es:List Expr} {ta:TE} {t:TA}
def Zb7 (F:FnOk X.prog X.w X.K X.mg X.base CX k f fd ps sp) (hr:Room k X.A) (hb:Wc X.K fd ps ds) (hd:Vals ir ds) (hx:Vb CX X E)
  (I:Inv X f8 σ H s) (r:Vals vs us) (h:sp (vs ++ ir) H Q E):wpAny (model X.prog X.w) X.A (call (.ref f) us) (EP X f8 σ Q) X.xe s:=by
 have r2:Vals (vs ++ ir) (us ++ ds):=r.append hd;have hl:(us ++ ds).length=ps.length:=by rw [<- r2.length]; exact F.len _ _ _ _ h
 refine wpAny_call (codeAny_mono (F.run X.A X.stack s H ⟨us,[]⟩ (us ++ ds) (vs ++ ir) Q E hr I.env0 (hb s us I.kIn hl) r2 h) λr s' hq=>?_)
 cases r with
 | error e=>exact hx f8 σ H s e s' I hq
 | ok fl =>
  cases fl with
  | ret u=>exact I.after hq
  | next=>exact False.elim hq
  | brk=>exact False.elim hq
  | cont=>exact False.elim hq
def Zls (F:FnOk X.prog X.w X.K X.mg X.base CX k f fd ps sp) (hr:Room k X.A) (hg:Gl X x) (hm:X.mg x=some (.ref f)) (hk:PySem.W.keepIn X.K (.ref f)=true) (hb:Wc X.K fd ps ds) (hd:Vals ir ds) (hx:Vb CX X E)
  (ha:PA X (e :: es) t) (ju:(x == ("__debug__":Str))=false:=by decide) (he:starEach (e :: es) X.env=(false,eval e X.env) :: starEach es X.env:=by rfl) (ip:(backTo pos (starEach es X.env)).any (·.1)=false:=by rfl) :
  PE X (.Call (.Name x p) (e :: es) [] pos) (Zkc sp ir E t):=by
 intro f8 s σ H Q I h;refine wpAny_Call_Name_kw (Qw I hg hm ?_ ju);refine PySem.W.callWith_K (h₀:=X.base) I.ok.mod.kin hk (thn (ha pos f8 s σ H _ I h) λus s1 zz12=>?_) he ip;obtain ⟨vs,H1,I1,r,q⟩:=zz12;refine ⟨I1.kIn,?_⟩;exact Zb7 F hr hb hd hx I1 r q
def Xh {pl:Sem Bool} (he:PE X o ta) (c:Cls X.K C) (hm:Meth X.K C m f) (F:FnOk X.prog X.w X.K X.mg X.base CX k f fd ps sp) (hr:Room k X.A) (hb:Wc X.K fd ps ds) (hd:Vals ir ds) (hx:Vb CX X E) (ha:PA X (e :: es) t)
  (j5:starEach (e :: es) X.env=(false,eval e X.env) :: starEach es X.env:=by rfl) (ip:(backTo pos (starEach es X.env)).any (·.1)=false:=by rfl)
  (ht:eval (.Call (.Attribute o m gu) (e :: es) [] pos) X.env=(do
   let ov <- eval o X.env
   standAt gu.atName
   let (f,first) <- holding [ov] (getMethod ov m pl)
   callWith pos f first (backTo pos (starEach (e :: es) X.env)) (backToKw pos (keywordEach [] X.env))):=by rfl) :
  PE X (.Call (.Attribute o m gu) (e :: es) [] pos) (Zka C m sp ir E ta t):=by
 intro f8 s σ H Q I h;refine PySem.W.methodCall_KW (pl:=pl) (thn (he f8 s σ H _ I h) λu s1 zz13=>?_) ht;obtain ⟨x,H1,I1,rx,a,dx,fs,ex,ea,l,q⟩:=zz13;subst ex;obtain rfl:u=Value.ref a:=rx;refine Uo I1 ea c hm l ?_;refine PySem.W.callWith_K (first:=[.ref a]) (h₀:=X.base) I.ok.mod.kin hm.kp (thn (ha pos f8 s1 σ H1 _ I1 q) λus s2 zz14=>?_) j5 ip;obtain ⟨vs,H2,I2,r,q2⟩:=zz14;refine ⟨I2.kIn,?_⟩;exact Zb7 (us:=.ref a :: us) (vs:=.ref a :: vs) F hr hb hd hx I2 (.cons Y r) q2
def Jt {pl:Sem Bool} (he:PE X o ta) (c:Cls X.K C) (hm:Meth X.K C m f) (F:FnOk X.prog X.w X.K X.mg X.base CX k f fd ps sp) (hr:Room k X.A) (hb:Wc X.K fd ps ds) (hd:Vals ir ds) (hx:Vb CX X E)
  (ht:eval (.Call (.Attribute o m gu) [] [] pos) X.env=(do
   let ov <- eval o X.env
   standAt gu.atName
   let (f,first) <- holding [ov] (getMethod ov m pl)
   callWith pos f first (backTo pos (starEach [] X.env)) (backToKw pos (keywordEach [] X.env))):=by rfl) :
  PE X (.Call (.Attribute o m gu) [] [] pos) (Zka C m sp ir E ta tNil):=by
 intro f8 s σ H Q I h;refine PySem.W.methodCall_KW (pl:=pl) (thn (he f8 s σ H _ I h) λu s1 zz15=>?_) ht;obtain ⟨x,H1,I1,rx,a,dx,fs,ex,ea,l,q⟩:=zz15;subst ex;obtain rfl:u=Value.ref a:=rx;refine Uo I1 ea c hm l ?_;exact PySem.W.callWith_K0 (first:=[.ref a]) I1.kIn hm.kp (Zb7 (us:=[.ref a]) (vs:=[.ref a]) F hr hb hd hx I1 (.cons Y .nil) q)
structure Mk (K:W.Frag) (C f:Addr):Prop where
 makes:PySem.W.makesIn K C=true
 init:PySem.W.findIn K (.ref C) "__init__"=some (some (.ref f))
 fn:PySem.W.isFn K (.ref f)=true
 kp:PySem.W.keepIn K (.ref C)=true
def Zi6 (M:Mk X.K C f) (F:FnOk X.prog X.w X.K X.mg X.base CX k f fd ps sp) (hr:Room (k + 1) X.A) (hb:Wc X.K fd ps ds) (hd:Vals ir ds)
  (hx:Vb CX X E) (I:Inv X f8 σ H s) (r:Vals vs us)
  (h:∀ x dx,H x=none->H dx=none->dx≠x->sp (.ref x :: (vs ++ ir)) (upd (upd H dx (.own x)) x (.ins C dx [])) (λv H2=>v=.non/\Q (.ref x) H2) E) :
  wpAny (model X.prog X.w) X.A (call (.ref C) us) (EP X f8 σ Q) X.xe s:=by
 have hq:=h (s.heap.objs.size + 1) s.heap.objs.size (I.hok.fresh (Nat.le_succ _)) (I.hok.fresh (An _)) (As (Nat.lt_succ_self _));have I2:=Inv.made (C:=C) I;have r2:Vals (V.ref (s.heap.objs.size + 1) :: (vs ++ ir)) (Value.ref (s.heap.objs.size + 1) :: (us ++ ds)):=.cons rfl (r.append hd);have hl:(Value.ref (s.heap.objs.size + 1) :: us ++ ds).length=ps.length:=by
  have e:=r2.length
  rw [F.len _ _ _ _ hq] at e
  exact e.symm
 refine wpAny_call (Zjq (f:=f) I.kIn M.makes M.init (beq_iff_eq.mp M.fn) (codeAny_mono (F.run _ X.stack _ _ ⟨Value.ref (s.heap.objs.size + 1) :: us,[]⟩ (Value.ref (s.heap.objs.size + 1) :: (us ++ ds)) _ _ E (hr.make C us [])
  (I2.env0.make C us []) (hb _ (Value.ref (s.heap.objs.size + 1) :: us) I2.kIn hl) r2 hq) λr s' i7=>?_))
 cases r with
 | error e=>exact hx f8 σ _ _ e s' I2 i7
 | ok fl =>
  cases fl with
  | ret u =>
   obtain ⟨v,H',I3,rv,ev,q3⟩:=I2.after i7;subst ev;exact ⟨rv,⟨V.ref (s.heap.objs.size + 1),H',I3,Y,q3⟩⟩
  | next=>exact False.elim i7
  | brk=>exact False.elim i7
  | cont=>exact False.elim i7
def Fo (M:Mk X.K C f) (F:FnOk X.prog X.w X.K X.mg X.base CX k f fd ps sp) (hr:Room (k + 1) X.A) (hg:Gl X x) (hm:X.mg x=some (.ref C)) (hb:Wc X.K fd ps ds) (hd:Vals ir ds) (hx:Vb CX X E)
  (ha:PA X (e :: es) t) (ju:(x == ("__debug__":Str))=false:=by decide) (he:starEach (e :: es) X.env=(false,eval e X.env) :: starEach es X.env:=by rfl) (ip:(backTo pos (starEach es X.env)).any (·.1)=false:=by rfl) :
  PE X (.Call (.Name x p) (e :: es) [] pos) (Zoe C sp ir E t):=by
 intro f8 s σ H Q I h;refine wpAny_Call_Name_kw (Qw I hg hm ?_ ju);refine PySem.W.callWith_K (h₀:=X.base) I.ok.mod.kin M.kp (thn (ha pos f8 s σ H _ I h) λus s1 zz16=>?_) he ip;obtain ⟨vs,H1,I1,r,q⟩:=zz16;refine ⟨I1.kIn,?_⟩;exact Zi6 M F hr hb hd hx I1 r q
end
structure FnScope (N P:List Str) (sc:Scope):Prop where
 kind:sc.kind=.function
 co:sc.isCoroutine=false
 gen:sc.isGenerator=false
 nd:N.Nodup
 pre:N.take P.length=P
 par:∀ x∈P,sc.names.lookup x=some .local\/sc.names.lookup x=some .cell
 nofree:∀ y∈sc.names,y.2≠.free
def Am{N P:List Str}{sc:Scope}(a:sc.kind=.function:=by rfl)(b:sc.isCoroutine=false:=by rfl)(c:sc.isGenerator=false:=by rfl)(d:N.Nodup:=by decide +kernel)(e:N.take P.length=P:=by rfl)(f:∀ x∈P,sc.names.lookup x=some .local\/sc.names.lookup x=some .cell:=by decide +kernel)(g:∀ y∈sc.names,y.2≠.free:=by decide +kernel):FnScope N P sc:=⟨a,b,c,d,e,f,g⟩
theorem Zal {kindOf:Str->Option NameKind} {x:Str}:∀ {binds:List (Str × Value)} {m:Str->Option Value},(∀ v,(x,v) ∉ binds)->bindL kindOf binds m x=m x
 | [],_,_=>rfl
 | (n,v) :: r,m,h=>by
  unfold bindL;rw [Zal λw hw=>h w (List.mem_cons_of_mem _ hw)];split
  ·have:x≠n:=by rintro rfl; exact h v List.mem_cons_self
   simp [this]
  ·rfl
theorem Zan {kindOf:Str->Option NameKind} {x:Str}:∀ {binds:List (Str × Value)} {m:Str->Option Value},(∀ v,(x,v) ∉ binds)->bindC kindOf binds m x=m x
 | [],_,_=>rfl
 | (n,v) :: r,m,h=>by
  unfold bindC;rw [Zan λw hw=>h w (List.mem_cons_of_mem _ hw)];split
  ·rfl
  ·have:x≠n:=by rintro rfl; exact h v List.mem_cons_self
   simp [this]
theorem Zam {kindOf:Str->Option NameKind} {x:Str} {v:Value}:∀ {P:List Str} {vs:List Value} {i:Nat} {m:Str->Option Value},P.Nodup->P[i]?=some x->vs[i]?=some v->kindOf x=some .local ->
  bindL kindOf (P.zip vs) m x=some v
 | [],_,_,_,_,h,_,_=>by simp at h
 | _ :: _,[],_,_,_,_,h,_=>by simp at h
 | p :: P,w :: vs,0,m,nd,h1,h2,hk=>by
  simp at h1 h2; subst h1; subst h2;show bindL kindOf ((p,w) :: P.zip vs) m p=_;unfold bindL;rw [Zal λv hv=>(List.nodup_cons.mp nd).1 (List.of_mem_zip hv).1,if_pos hk];simp
 | p :: P,w :: vs,i + 1,m,nd,h1,h2,hk=>by
  show bindL kindOf ((p,w) :: P.zip vs) m x=_;unfold bindL;exact Zam (i:=i) (List.nodup_cons.mp nd).2 (by simpa using h1) (by simpa using h2) hk
theorem Zao {kindOf:Str->Option NameKind} {x:Str} {v:Value}:∀ {P:List Str} {vs:List Value} {i:Nat} {m:Str->Option Value},P.Nodup->P[i]?=some x->vs[i]?=some v->kindOf x≠some .local ->
  bindC kindOf (P.zip vs) m x=some v
 | [],_,_,_,_,h,_,_=>by simp at h
 | _ :: _,[],_,_,_,_,h,_=>by simp at h
 | p :: P,w :: vs,0,m,nd,h1,h2,hk=>by
  simp at h1 h2; subst h1; subst h2;show bindC kindOf ((p,w) :: P.zip vs) m p=_;unfold bindC;rw [Zan λv hv=>(List.nodup_cons.mp nd).1 (List.of_mem_zip hv).1,if_neg hk];simp
 | p :: P,w :: vs,i + 1,m,nd,h1,h2,hk=>by
  show bindC kindOf ((p,w) :: P.zip vs) m x=_;unfold bindC;exact Zao (i:=i) (List.nodup_cons.mp nd).2 (by simpa using h1) (by simpa using h2) hk
def start (N:List Str) (vs:List V):St:=vs.map some ++ List.replicate (N.length - vs.length) none
def cxOf (CX:CXT) (P:Program) (w:World) (K:W.Frag) (mg:Str->Option Value) (base:Heap) (N:List Str) (qual:Str) (scope:Scope) (f:Addr) (cd:Value) (A:Around) (outer:List Env) (s:Shared) (H:Hp) (E:XK):Cx where
 prog:=P
 w:=w
 K:=K
 mg:=mg
 base:=base
 A:=A.deeper (envOfC qual scope s.heap.objs.size f cd)
 N:=N
 s₀:=s
 H₀:=H
 env:=envOfC qual scope s.heap.objs.size f cd
 outer:=outer
 stack:=envOfC qual scope s.heap.objs.size f cd :: outer
 ex:=[]
 calm:=true
 fn:=λ_=>true
 pn:=[]
 xe:=λe s'=>wpAny (model P w) (A.deeper (envOfC qual scope s.heap.objs.size f cd)) (leaving (envOfC qual scope s.heap.objs.size f cd) e) (λ_ l7=>CX outer H s E e l7) (λe' l7=>CX outer H s E e' l7) s'
def Zde {sc:Scope} (h:sc.names.lookup x=some .cell):∃ c,(cellsFrom n sc.names []).lookup x=some c:=by
 have q:=PySem.W.cellsFrom_some sc.names n [] (.inl h);exact Option.isSome_iff_exists.mp q
def Zh4 {CX:CXT} {P:Program} {w:World} {K:W.Frag} {mg:Str->Option Value} {base:Heap} {N ps:List Str} {qual:Str} {scope:Scope} {f:Addr} {cd:Value} {A:Around} {outer:List Env} {s s1:Shared} {H:Hp} {E:XK} {us:List Value} {vs:List V}
  (S:FnScope N ps scope) (hd:A.handled=none) (e0:Env0 P w K mg base A outer s H) (hl:vs.length=ps.length) (r:Vals vs us)
  (x:InCallC s s.heap.objs.size (bindL (envOfC qual scope s.heap.objs.size f cd).kindOf (ps.zip us) λ_=>none) (cellsFrom (s.heap.objs.size + 1) scope.names []) (bindC (envOfC qual scope s.heap.objs.size f cd).kindOf (ps.zip us) λ_=>none) s1) :
  Inv (cxOf CX P w K mg base N qual scope f cd A outer s H E) [] (start N vs) H s1:=by
 have ip:ps.length<=N.length:=by have:=congrArg List.length S.pre; rw [Ai] at this; lia
 obtain ⟨h1,tk,rfl,hk⟩:=x.done;have vt:∀ b:Addr,b ∉ (cxOf CX P w K mg base N qual scope f cd A outer s H E).ex:=λb z=>absurd (show b∈([]:List Addr) from z) (by simp);refine ⟨⟨e0.mod,S.kind,Y,Y,An _,λy z c h1 h2=>?_,λy hy=>?_,λy c _ h=>?_,λ_=>hd,Around.frames_deeper e0.frames,.inr ⟨Y,Y⟩,λb z=>absurd z (vt b),e0.bs,e0.bsz,λb _ _=>vt b,λb z=>absurd z (vt b),e0.funs,e0.frf⟩,
  rfl,e0.bare,Un.kept hk,⟨_,x.toInCall.ns,λi y v h1 h2 h3=>?_⟩,λy c h=>⟨_,x.cell y c h⟩,e0.hok.fresh (An _),λy c h=>?_,λp hp=>absurd (show p∈([]:List (Addr × Obj)) from hp) (by simp),e0.hok.kept hk,?_⟩
 ·exact name_of_addr x.apart (PySem.mem_of_lookup h1) (PySem.mem_of_lookup h2)
 ·have hy:scope.names.lookup y=some .cell\/scope.names.lookup y=some .free:=hy
  rcases hy with hy | hy
  ·exact Zde hy
  ·exact absurd Y (S.nofree _ (PySem.mem_of_lookup hy))
 ·exact Nat.le_of_lt (x.above y c (PySem.mem_of_lookup h))
 ·have hi:i < vs.length:=by
   unfold start at h2;by_cases hi:i < vs.length
   ·exact hi
   ·rw [List.getElem?_append_right (by simpa using hi)] at h2
    rw [List.getElem?_replicate] at h2;split at h2 <;> cases h2
  have ha:vs[i]?=some v:=by
   unfold start at h2;rw [Av (by simpa using hi),Ah] at h2
   cases e:vs[i]? with
   | none=>rw [e] at h2; cases h2
   | some a=>rw [e] at h2; cases h2; rfl
  obtain ⟨u,hu,rv⟩:=r.get ha;have hp:ps[i]?=some y:=by
   rw [<- S.pre,List.getElem?_take_of_lt (by lia)]; exact h1
  have ndP:ps.Nodup:=by rw [<- S.pre]; exact S.nd.sublist (List.take_sublist _ _)
  refine ⟨u,rv,?_⟩
  rcases S.par y (Au hp) with k | k
  ·exact .inl ⟨k,Zam ndP hp hu k⟩
  ·obtain ⟨c,e⟩:=Zde (n:=s.heap.objs.size + 1) k
   refine .inr ⟨.inl k,c,e,?_⟩;have q:=x.cell y c e;rw [Zao ndP hp hu (by show scope.names.lookup y≠_; rw [k]; decide)] at q;exact q
 ·exact e0.hok.fresh (Nat.le_of_lt (x.above y c (PySem.mem_of_lookup h)))
 ·unfold start
  show _=N.length;rw [Ae,Ab,List.length_replicate];lia
def Zkq {CX:CXT} {P:Program} {w:World} {K:W.Frag} {mg:Str->Option Value} {base:Heap} {k:Nat} {f:Addr} {name qual:Str} {params:Arguments} {body:List Stmt} {scope:Scope} {dV kV im pm ij ct oc:Value} {an od:Option Addr}
  {ph:Array (Option Value)} {N ps:List Str} {sp:Sp} (lk:K.lookup f=some ⟨oc,od,.func (PySem.W.fnOf name qual params body scope dV kV im pm an ij ct),ph⟩) (me:PySem.W.codeIn K ij qual=true) (S:FnScope N ps scope)
  (len:∀ vs H Q E,sp vs H Q E->vs.length=ps.length)
  (ja:∀ (A:Around) (outer:List Env) (s:Shared) (H:Hp) (vs:List V) (Q:VK) (E:XK),Room k (A.deeper (envOfC qual scope s.heap.objs.size f ij))->sp vs H Q E ->
   ∃ t,PSs (cxOf CX P w K mg base N qual scope f ij A outer s H E) body t/\t { nx:=λ_ H'=>Q .non H',rt:=Q } (start N vs) H) :
  FnOk P w K mg base CX (k + 1) f (PySem.W.fnOf name qual params body scope dV kV im pm an ij ct) ps sp:=by
 refine ⟨len,λA outer s H args us vs Q E hr e0 hb r jn=>?_⟩;have hl:=len _ _ _ _ jn;have KX:K.In s.heap:=e0.mod.kin.keeps λb o e=>(e0.bs b o e).1;have lim:s.heap.NoLimit:=e0.mod.nolimit.keeps λb o e=>(e0.bs b o e).1;have yk:∀ y∈ps.zip us,scope.names.lookup y.1=some .local\/(scope.names.lookup y.1=some .cell/\((cellsFrom (s.heap.objs.size + 1) scope.names []).lookup y.1).isSome=true):=λ⟨n,v⟩ hy=>by
  rcases S.par n (List.of_mem_zip hy).1 with q | q
  ·exact .inl q
  ·exact .inr ⟨q,PySem.W.cellsFrom_some _ _ _ (.inl q)⟩
 refine codeAny_call_function hr.depth (KX _ _ lk) Y S.co S.gen Y (PySem.W.codeRec_of KX me) (hb _ _ _ _ ?_);refine wpAny_newFunctionEnv_cells S.kind yk λenv he s1 x=>?_;subst he;refine ⟨lim.keeps x.toInCall.keep,codeAny_func ?_⟩;obtain ⟨t,ht,hq⟩:=ja A outer s H vs Q E (hr.deeper _) jn;have I:Inv (cxOf CX P w K mg base N qual scope f ij A outer s H E) [] (start N vs) H s1:=Zh4 S hr.hd e0 hl r x;refine wpAny_mono (ht [] s1 (start N vs) H _ I hq) (λfl s' hs=>?_) λe s' hs=>hs;have ik:∀ {σ':St} {H':Hp} {v:V} {u:Value},Inv (cxOf CX P w K mg base N qual scope f ij A outer s H E) [] σ' H' s'->RelV v u->Q v H'->CE outer P w H s Q u s' :=
  λ{σ' H' v u} J rv q=>⟨v,H',J.os,J.bare,J.base,J.hok,rv,q⟩
 cases fl with
 | ret u =>
  obtain ⟨v,σ',H',J,rv,q⟩:=hs;exact ik J rv q
 | next =>
  obtain ⟨σ',H',J,q⟩:=hs;exact ik (v:=V.non) (u:=Value.none) J Y q
 | brk =>
  obtain ⟨_,_,_,q⟩:=hs;exact False.elim q
 | cont =>
  obtain ⟨_,_,_,q⟩:=hs;exact False.elim q
section
variable {X:Cx} {x:Str} {p pos:Pos} {e:Expr} {es:List Expr} {t:TA} {id T:String} {r:List V->Hp->VK->Prop}
def tCB (r:List V->Hp->VK->Prop) (t:TA):TE:=λσ H Q=>t σ H λvs H1=>r vs H1 Q
def Zo (hc:Y5 X (.builtin id) r) (hg:Gl X x) (hm:X.mg x=none) (hv:bootBuiltins x=some (.builtin id)) (ha:PA X (e :: es) t) (hn:x≠"__name__":=by decide) (ju:(x == ("__debug__":Str))=false:=by decide)
  (he:starEach (e :: es) X.env=(false,eval e X.env) :: starEach es X.env:=by rfl) (ip:(backTo pos (starEach es X.env)).any (·.1)=false:=by rfl):PE X (.Call (.Name x p) (e :: es) [] pos) (tCB r t):=by
 intro f8 s σ H Q I h;refine wpAny_Call_Name_kw (Xf I hg hm hv ?_ hn ju);refine PyProof.Rows.callWith_builtin1 (thn (ha pos f8 s σ H _ I h) λus s1 zz17=>?_) he ip;obtain ⟨vs,H1,I1,r1,q1⟩:=zz17;exact hc f8 s1 σ H1 vs us Q I1 r1 q1
def X1 (hc:Y5 X (.type T) r) (hg:Gl X x) (hm:X.mg x=none) (hv:bootBuiltins x=some (.type T)) (ha:PA X (e :: es) t) (hn:x≠"__name__":=by decide) (ju:(x == ("__debug__":Str))=false:=by decide)
  (he:starEach (e :: es) X.env=(false,eval e X.env) :: starEach es X.env:=by rfl) (ip:(backTo pos (starEach es X.env)).any (·.1)=false:=by rfl):PE X (.Call (.Name x p) (e :: es) [] pos) (tCB r t):=by
 intro f8 s σ H Q I h;refine wpAny_Call_Name_kw (Xf I hg hm hv ?_ hn ju);refine PyProof.Rows.callWith_type1 (thn (ha pos f8 s σ H _ I h) λus s1 zz18=>?_) he ip;obtain ⟨vs,H1,I1,r1,q1⟩:=zz18;exact hc f8 s1 σ H1 vs us Q I1 r1 q1
def Zfk (hc:Y5 X (.type T) r) (hg:Gl X x) (hm:X.mg x=none) (hv:bootBuiltins x=some (.type T)) (hn:x≠"__name__":=by decide) (ju:(x == ("__debug__":Str))=false:=by decide) :
  PE X (.Call (.Name x p) [] [] pos) (tCB r tNil):=by
 intro f8 s σ H Q I h;refine wpAny_Call_Name_kw (Xf I hg hm hv ?_ hn ju);exact PyProof.Rows.callWith_type0 (hc f8 s σ H [] [] Q I .nil h)
end
end L2
namespace HT
open PySem PyProof.Rows
def lexLt:List Int->List Int->Bool
 | [],[]=>false
 | [],_ :: _=>true
 | _ :: _,[]=>false
 | x :: xs,y :: ys=>if x=y then lexLt xs ys else decide (x < y)
def Qp (x y:Int) (xs ys:List Int):lexLt (x :: xs) (y :: ys)=if x=y then lexLt xs ys else decide (x < y):=rfl
def Uz:lexLt [] []=false:=rfl
def Jy (y:Int) (ys:List Int):lexLt [] (y :: ys)=true:=rfl
def Wl (x:Int) (xs:List Int):lexLt (x :: xs) []=false:=rfl
def Zj4 (A:Around) (s:Shared) (a:Int) (t:Tok) (c:Int) (u:Tok):∃ e,SeqAt.EqAt A s (.int a t) (.int c u) e/\(e=true ↔ a=c) :=
 ⟨(a == c),SeqAt.EqAt.int_int a t c u,by simp⟩
def Zi8 (A:Around) (s:Shared) (a:Int) (t:Tok) (c:Int) (u:Tok) (prog:Program) (w:World) (E:Value->Shared->Prop) (Q:Value->Shared->Prop) (h:Q (.bool (decide (a < c))) s) :
  wpAny (model prog w) A (richCompare .Lt (.int a t) (.int c u)) Q E s :=
 (PyProof.Rows.lt_int h:wpAny (model prog w) A (compareOp .Lt (.int a t) (.int c u)) Q E s)
section
variable {prog:Program} {w:World} {A:Around} {E:Value->Shared->Prop} {s:Shared}
def sIx (n d:Nat):Option Int->Nat
 | none=>d
 | some v=>if v < 0 then (v + (n:Int)).toNat else min v.toNat n
def sIx_none (n d:Nat):sIx n d none=d:=rfl
def sIx_nat (n d k:Nat):sIx n d (some (k:Int))=min k n:=by
 show (if (k:Int) < 0 then ((k:Int) + (n:Int)).toNat else min (k:Int).toNat n)=min k n;rw [if_neg (by lia),Int.toNat_natCast]
end
end HT
namespace L2
open PySem PySem.Spec PyProof.Rows
abbrev TO:=St->Hp->(Option Int->Hp->Prop)->Prop
def PO (X:Cx) (e:Option Expr) (t:TO):Prop :=
 ∀ (f8:List (Addr × Obj)) (s:Shared) (σ:St) (H:Hp) (Q:Option Int->Hp->Prop),Inv X f8 σ H s->t σ H Q ->
  wpAny (model X.prog X.w) X.A (evalPart e X.env) (λu s'=>∃ o H',Inv X f8 σ H' s'/\IsPart u o/\Q o H') X.xe s
def Zkx:TO:=λ_ H Q=>Q none H
def Zoc (t:TE):TO:=λσ H Q=>t σ H λx H1=>∃ i,x=.int i/\Q (some i) H1
def Qq {ns:List Int}:∀ {us:List Value},Vals (ns.map V.int) us->IntsAre us ns:=by
 induction ns with
 | nil=>intro us r; rw [List.map_nil] at r; cases r; exact .nil
 | cons n ns ih =>
  intro us r;rw [List.map_cons] at r
  cases r with
  | cons r1 r2 =>
   obtain ⟨t,e⟩:=r1;subst e;exact .cons n t (ih r2)
section
variable {X:Cx} {e:Expr} {te:TE} {lo hi:Option Expr} {tl th:TO} {pos p2:Pos}
def Fm:PO X none Zkx:=by
 intro f8 s σ H Q I h;rw [evalPart_none];exact wpAny_pure ⟨none,H,I,.none,h⟩
def Js (h:PE X e te):PO X (some e) (Zoc te):=by
 intro f8 s σ H Q I hw;rw [evalPart_some];refine thn (h f8 s σ H _ I hw) λu s1 gk=>?_;obtain ⟨x,H1,I1,r1,q1⟩:=gk;obtain ⟨i,rfl,q⟩:=q1;obtain ⟨t,rfl⟩:=r1;exact ⟨some i,H1,I1,.int i t,q⟩
def SlR (X:Cx) (r:V->Option Int->Option Int->Hp->VK->Prop):Prop :=
 ∀ (f8:List (Addr × Obj)) (s:Shared) (σ:St) (H:Hp) (x:V) (v vl vu:Value) (lo hi:Option Int) (sl:Addr) (Q:VK),Inv X f8 σ H s->RelV x v->s.heap.IsSliceOf sl vl vu .none->IsPart vl lo->IsPart vu hi->r x lo hi H Q ->
  ∃ T id,typeLookup (.type T) "__getitem__"=pure (some (.builtin id))/\s.TypeIs v T/\wpAny (model X.prog X.w) X.A (getItem v (.ref sl)) (EP X f8 σ Q) X.xe s
def tSl (r:V->Option Int->Option Int->Hp->VK->Prop) (te:TE) (tl th:TO):TE:=λσ H Q=>te σ H λx H1=>tl σ H1 λl H2=>th σ H2 λu H3=>r x l u H3 Q
def Q6 (hr:SlR X r) (he:PE X e te) (hl:PO X lo tl) (hu:PO X hi th):PE X (.Subscript e (.Slice lo hi none p2) pos) (tSl r te tl th):=by
 intro f8 s σ H Q I h;refine Subscript_ (thn (he f8 s σ H _ I h) λv s1 gk=>?_);obtain ⟨x,H1,I1,r1,q1⟩:=gk;refine wpAny_Slice (thn (hl f8 s1 σ H1 _ I1 q1) λvl s2 zz19=>?_);obtain ⟨l,H2,I2,pl,q2⟩:=zz19;refine thn (hu f8 s2 σ H2 _ I2 q2) λvu s3 gk=>?_;obtain ⟨u,H3,I3,pu,q3⟩:=gk;rw [evalPart_none];refine wpAny_pure ?_;have I4:Inv X f8 σ H3 { s3 with heap:=s3.heap.push { cls:=.type "slice",data:=.fields #[vl,vu,.none] } }:=I3.kept (t':=s3.toks) λb ob q=>Ak _ q;obtain ⟨T,id,hT,ht,hg⟩:=hr f8 { s3 with heap:=s3.heap.push { cls:=.type "slice",data:=.fields #[vl,vu,.none] } } σ H3 x v vl vu l u s3.heap.objs.size Q I4 r1 (Heap.IsSliceOf.new ..) pl pu q3;show wpAny (model X.prog X.w) X.A (subscriptTail e (.Slice lo hi none p2) v (.ref s3.heap.objs.size)) (EP X f8 σ Q) X.xe { s3 with heap:=s3.heap.push { cls:=.type "slice",data:=.fields #[vl,vu,.none] } };exact tail_any (ops:=[.ref s3.heap.objs.size,v]) ht hT hg (by with_unfolding_all rfl)
def cutV (xs:List V) (lo hi:Option Int):List V:=(xs.drop (HT.sIx xs.length 0 lo)).take (HT.sIx xs.length xs.length hi - HT.sIx xs.length 0 lo)
def Zd3 (xs:List V) (lo hi:Option Int):(cutV xs lo hi).length<=xs.length:=by
 unfold cutV;rw [Ai,List.length_drop];lia
end
def ixN (n:Nat) (i:Int):Option Nat:=if 0<=i then (if i < n then some i.toNat else none) else if -(n:Int)<=i then some (i + n).toNat else none
def atI {α:Type} (xs:List α) (i:Int):Option α:=(ixN xs.length i).bind λj=>xs[j]?
def Zet (h:ixN n i=some j):seqIndex? i n=some j/\j < n/\-(n:Int)<=i/\i < n:=by
 unfold ixN at h;by_cases h0:0<=i
 ·rw [if_pos h0] at h
  by_cases h1:i < n
  ·rw [if_pos h1] at h
   have e:i.toNat=j:=Ax h;exact ⟨by rw [seqIndex_of h0 h1,e],by lia,by lia,h1⟩
  ·rw [if_neg h1] at h; cases h
 ·rw [if_neg h0] at h
  by_cases h1:-(n:Int)<=i
  ·rw [if_pos h1] at h
   have e:(i + n).toNat=j:=Ax h;exact ⟨by rw [seqIndex_neg (by lia) h1,e],by lia,h1,by lia⟩
  ·rw [if_neg h1] at h; cases h
def Ze5 {α:Type} {xs:List α} {i:Int} {v:α} (h:atI xs i=some v):∃ j,seqIndex? i xs.length=some j/\xs[j]?=some v/\j < xs.length/\-(xs.length:Int)<=i/\i < xs.length:=by
 unfold atI at h
 cases e:ixN xs.length i with
 | none=>rw [e] at h; cases h
 | some j =>
  rw [e] at h;obtain ⟨h1,h2,h3,h4⟩:=Zet e;exact ⟨j,h1,h,h2,h3,h4⟩
def Yu {α:Type} {xs:List α} {j:Nat} {v:α} (h:xs[j]?=some v):atI xs (j:Int)=some v:=by
 have hj:j < xs.length:=(Aa h).1;have e:ixN xs.length (j:Int)=some j:=by
  unfold ixN
  rw [if_pos (by lia),if_pos (by lia)]; simp
 unfold atI; rw [e]; exact h
def Zmk (b:Expr):Prop:=∀ o i,subscripted b false o i=operate [o,i] (getItem o i)
def IxR (X:Cx) (r:R2):Prop :=
 ∀ (value i9:Expr) (f8:List (Addr × Obj)) (s:Shared) (σ:St) (H:Hp) (x y:V) (v u:Value) (Q:VK),Inv X f8 σ H s->RelV x v->RelV y u->r x y H Q ->
  subscripted i9 false v u=operate [v,u] (getItem v u)->wpAny (model X.prog X.w) X.A (subscriptTail value i9 v u) (EP X f8 σ Q) X.xe s
def MtR (X:Cx) (id:String) (r:V->List V->Hp->VK->Prop):Prop :=
 ∀ (f8:List (Addr × Obj)) (s:Shared) (σ:St) (H:Hp) (x:V) (xs:List V) (v:Value) (us:List Value) (Q:VK),Inv X f8 σ H s->RelV x v->Vals xs us->r x xs H Q ->
  wpAny (model X.prog X.w) X.A (call (.builtin id) (v :: us)) (EP X f8 σ Q) X.xe s
section
variable {X:Cx} {a b:Expr} {ta tb:TE} {pos:Pos}
def Zw (hr:IxR X r) (ha:PE X a ta) (hb:PE X b tb) (hs:Zmk b):PE X (.Subscript a b pos) (tOp r ta tb):=by
 intro f8 s σ H Q I h;exact Subscript_ (binT ha hb I h λv u s2 x y H2 I2 rx ry q=>hr a b f8 s2 σ H2 x y v u Q I2 rx ry q (hs _ _))
def rIxL (K:W.Frag):R2:=λx y H Q=>∃ p xs i v,x=.ref p/\y=.int i/\SqL K H p xs/\atI xs i=some v/\Q v H
def rIxT (K:W.Frag):R2:=λx y H Q=>∃ p xs i v,x=.ref p/\y=.int i/\SqT K H p xs/\atI xs i=some v/\Q v H
def Zt:IxR X (rIxL X.K):=by
 intro value i9 f8 s σ H x y v u Q I rx ry h hs;obtain ⟨p,xs,i,z,rfl,rfl,hq,he,q⟩:=h;cases rx;obtain ⟨t,rfl⟩:=ry;obtain ⟨its,r,pl,hz⟩:=I.list hq;obtain ⟨j,h1,h2,h3,h4,h5⟩:=Ze5 he;obtain ⟨w,ew,kl⟩:=r.get h2;have hl:=r.length;have hn:=Oj;have ik:EP X f8 σ Q w s:=⟨z,H,I,kl,q⟩;by_cases h0:0<=i
 ·have hj:i.toNat=j:=by
   rw [seqIndex_of h0 h5] at h1;exact Ax h1
  exact item_listR pl.isList h0 (by lia) (by rw [hj]; simpa using ew) ik hs
 ·have hj:(i + (its.toArray.size:Int)).toNat=j:=by
   rw [seqIndex_neg (by lia) h4] at h1;rw [Aq,<- hl];exact Ax h1
  exact subscriptTail_builtinR (x:=w) pl.isList.typeIs slot_list_getitem.lookup
   (wpAny_getItem_list_neg (Q:=λr s'=>r=w/\EP X f8 σ Q r s') pl.isList (by lia) (by rw [Aq] <;> lia) (by lia) (by rw [hj]; simpa using ew) ⟨rfl,ik⟩) hs
def Op:IxR X (rIxT X.K):=by
 intro value i9 f8 s σ H x y v u Q I rx ry h hs;obtain ⟨p,xs,i,z,rfl,rfl,hq,he,q⟩:=h;cases rx;obtain ⟨t,rfl⟩:=ry;obtain ⟨its,r,pl,hz⟩:=I.tuple hq;obtain ⟨j,h1,h2,h3,h4,h5⟩:=Ze5 he;obtain ⟨w,ew,kl⟩:=r.get h2;have hl:=r.length;have hn:=Oj;have ik:EP X f8 σ Q w s:=⟨z,H,I,kl,q⟩;exact subscriptTail_builtinR (x:=w) pl.typeIs slot_tuple_getitem.lookup
  (getItem_tuple (j:=j) (Q:=λr s'=>r=w/\EP X f8 σ Q r s') pl (by lia) (by lia) (by rw [Aq,<- hl]; exact h1) (by simpa using ew) ⟨Y,ik⟩) hs
def Zfr (its:List Value) (n j:Nat) (u:Value):Obj.mapSeq (·.setIfInBounds j u) { cls:=.type "list",data:=.seq its.toArray n }={ cls:=.type "list",data:=.seq (its.set j u).toArray n }:=by
 simp [Obj.mapSeq]
def Inv.lst {s:Shared} {xs:List V} (I:Inv X f8 σ H s) (h:H p=some (.lst xs)) :
  ∃ (its:List Value) (n:Nat),Vals xs its/\s.heap.get? p=some { cls:=.type "list",data:=.seq its.toArray n }/\xs.length<=sizeLine:=by
 obtain ⟨z,its,n,r,e⟩:=I.hok p _ h;exact ⟨its,n,r,e,z⟩
def Inv.lstUpd {s:Shared} {ys:List V} {its its':List Value} (I:Inv X f8 σ H s) (h:H p=some (.lst xs))
  (ho:s.heap.get? p=some { cls:=.type "list",data:=.seq its.toArray n }) (hf:f { cls:=.type "list",data:=.seq its.toArray n }={ cls:=.type "list",data:=.seq its'.toArray n' }) (r:Vals ys its') (hz:ys.length<=sizeLine) (t:Nat) :
  Inv X f8 σ (upd H p (.lst ys)) { s with heap:=s.heap.update p f,toks:=t }:=by
 have e:(s.heap.update p f).get? p=some { cls:=.type "list",data:=.seq its'.toArray n' }:=by
  rw [Heap.get?_update_self f ho (by rw [hf] <;> rfl),hf]
 refine I.write (x:=p) (e:=p) (by rw [h]; trivial) (.inl rfl) (λb u hb q=>(Heap.get?_update_other _ _ (Ne.symm hb)).trans q) ⟨_,e⟩ ?_;exact ⟨hz,its',n',r,e⟩
def Zon:V->V->V->Hp->(Hp->Prop)->Prop:=λo i v H Q=>∃ p xs k j,o=.ref p/\i=.int k/\H p=some (.lst xs)/\ixN xs.length k=some j/\Q (upd H p (.lst (xs.set j v)))
def X3:PSet X Zon:=by
 intro f8 s σ H o i v ov iv u Q I ro ri rv h;obtain ⟨p,xs,k,j,rfl,rfl,hp,hj,q⟩:=h;cases ro;obtain ⟨t,rfl⟩:=ri;obtain ⟨its,n,r,ho,hz⟩:=I.lst hp;obtain ⟨h1,h2,h3,h4⟩:=Zet hj;have hl:=r.length;have hn:=Oj;have I':Inv X f8 σ (upd H p (.lst (xs.set j v))) { s with heap:=s.heap.update p (Obj.mapSeq (·.setIfInBounds j u)) } :=
  I.lstUpd hp ho (Zfr its n j u) (r.set rv j) (by rw [List.length_set]; exact hz) s.toks
 by_cases h0:0<=k
 ·have hk:k.toNat=j:=by
   rw [seqIndex_of h0 h4] at h1;exact Ax h1
  exact PySem.W.ki_setAt ho h0 (by lia) (by rw [Aq,<- hl]; exact h4) (by rw [hk]; exact ⟨_,I',q⟩)
 ·have hk:(k + (its.toArray.size:Int)).toNat=j:=by
   rw [seqIndex_neg (by lia) h3] at h1;rw [Aq,<- hl];exact Ax h1
  exact PySem.W.ki_setBack ho (by lia) (by rw [Aq,<- hl]; exact h3) (by lia) (by rw [hk]; exact ⟨_,I',q⟩)
def Zbk (lo hi:Option Int) (n:Nat):(sliceBounds lo hi none n).1=((HT.sIx n 0 lo:Nat):Int)/\(sliceBounds lo hi none n).2.1=((HT.sIx n n hi:Nat):Int)/\(sliceBounds lo hi none n).2.2=1:=by
 refine ⟨?_,?_,Y⟩
 ·cases lo with
  | none=>simp [sliceBounds,HT.sIx]
  | some i =>
   simp only [sliceBounds,HT.sIx,Option.getD_none,show (1:Int) > 0 by decide,if_true];by_cases h:i < 0
   ·simp only [h,if_true] <;> lia
   ·simp only [h,if_false] <;> lia
 ·cases hi with
  | none=>simp [sliceBounds,HT.sIx]
  | some i =>
   simp only [sliceBounds,HT.sIx,Option.getD_none,show (1:Int) > 0 by decide,if_true];by_cases h:i < 0
   ·simp only [h,if_true] <;> lia
   ·simp only [h,if_false] <;> lia
def Zau (its:List Value) (lo hi:Option Int):slicePick its.toArray lo hi none=((its.drop (HT.sIx its.length 0 lo)).take (HT.sIx its.length its.length hi - HT.sIx its.length 0 lo)).toArray:=by
 obtain ⟨h1,h2,h3⟩:=Zbk lo hi its.toArray.size;unfold slicePick;rw [h1,h2,h3];simp only [sliceRange_one,pick_run,Aq] <;> rfl
def rSlL (K:W.Frag):V->Option Int->Option Int->Hp->VK->Prop:=λx lo hi H Q=>∃ a xs,x=.ref a/\SqL K H a xs/\∀ p,H p=none->Q (.ref p) (upd H p (.lst (cutV xs lo hi)))
def Vp:SlR X (rSlL X.K):=by
 intro f8 s σ H x v vl vu lo hi sl Q I rx hs pl pu h;obtain ⟨a,xs,rfl,hx,q⟩:=h;cases rx;obtain ⟨its,r,ht,hz⟩:=I.list hx;have gc:=r.length;refine ⟨"list",_,slot_list_getitem.lookup,ht.isList.typeIs,?_⟩;refine wpAny_getItem_list_slice ht.isList hs pl pu .none (by simp) ?_ (by rw [Aq] <;> lia);rw [Zau,<- gc];refine ⟨.ref s.heap.objs.size,_,I.laid (t':=s.toks) (o:=.lst (cutV xs lo hi)) (λb ob q=>Ak _ q) (An _) ?_,Y,q _ (I.hok.fresh (An _))⟩;exact ⟨Nat.le_trans (Zd3 xs lo hi) hz,_,0,(r.drop (HT.sIx xs.length 0 lo)).take (HT.sIx xs.length xs.length hi - HT.sIx xs.length 0 lo),Ap _ Y⟩
def Zm:Y5 X (.builtin "len") (λxs H Q=>∃ p ys,xs=[.ref p]/\(SqL X.K H p ys\/SqT X.K H p ys)/\Q (.int ys.length) H):=by
 intro f8 s σ H xs us Q I r h;obtain ⟨p,ys,rfl,hq,q⟩:=h;obtain ⟨u,rfl,rx⟩:=Wb r;cases rx;have hn:=Oj
 rcases hq with hq | hq
 ·obtain ⟨its,r',pl,hz⟩:=I.list hq
  have gc:=r'.length;exact Calls.call_len_list pl.isList (by simp only [Aq] <;> lia) ⟨.int ys.length,H,I.tok _,⟨s.toks + 1,by rw [Aq,gc]⟩,q⟩
 ·obtain ⟨its,r',pl,hz⟩:=I.tuple hq
  have gc:=r'.length;exact len_tuple pl (by simp only [Aq] <;> lia) ⟨.int ys.length,H,I.tok _,⟨s.toks + 1,by rw [Aq,gc]⟩,q⟩
def Wh:Y5 X (.type "list") (λxs H Q=>∃ p ys,xs=[.ref p]/\(SqL X.K H p ys\/SqT X.K H p ys)/\∀ l,H l=none->Q (.ref l) (upd H l (.lst ys))):=by
 intro f8 s σ H xs us Q I r h;obtain ⟨p,ys,rfl,hq,q⟩:=h;obtain ⟨u,rfl,rx⟩:=Wb r;cases rx;have ik:∀ (its:List Value),Vals ys its->ys.length<=sizeLine->∀ (h':Heap) (c':Nat),(∀ b o',s.heap.get? b=some o'->h'.get? b=some o') ->
   h'.get? s.heap.objs.size=some { cls:=.type "list",dict:=none,data:=.seq its.toArray c',slots:=#[] }->EP X f8 σ Q (.ref s.heap.objs.size) { s with heap:=h' }:=λits r' hz h' c' kp e =>
  ⟨.ref s.heap.objs.size,_,I.laid (t':=s.toks) kp (An _) (show Z9 X.prog X.w _ h' _ (.lst ys) from ⟨hz,its,c',r',e⟩),rfl,q _ (I.hok.fresh (An _))⟩
 rcases hq with hq | hq
 ·obtain ⟨its,r',pl,hz⟩:=I.list hq
  have gc:=r'.length;obtain ⟨o,ho,hc,n,hd⟩:=pl.isList;exact call_list_seq p (.inl Y) ho hc hd (λh' c' kp e=>ik its r' hz h' c' kp e) (by simp only [Aq] <;> lia)
 ·obtain ⟨its,r',pl,hz⟩:=I.tuple hq
  have gc:=r'.length;obtain ⟨o,ho,hc,n,hd⟩:=pl;exact call_list_seq p (.inr Y) ho hc hd (λh' c' kp e=>ik its r' hz h' c' kp e) (by simp only [Aq] <;> lia)
def Zax:Y5 X (.type "tuple") (λxs H Q=>∃ p ys,xs=[.ref p]/\((SqL X.K H p ys/\∀ l,H l=none->Q (.ref l) (upd H l (.tup ys)))\/(SqT X.K H p ys/\Q (.ref p) H))):=by
 intro f8 s σ H xs us Q I r h;obtain ⟨p,ys,rfl,h⟩:=h;obtain ⟨u,rfl,rx⟩:=Wb r;cases rx
 rcases h with ⟨hq,q⟩ | ⟨hq,q⟩
 ·obtain ⟨its,r',pl,hz⟩:=I.list hq
  have gc:=r'.length;refine call_tuple_list pl.isList (λh' kp=>?_) (by simp only [Aq] <;> lia);have I1:Inv X f8 σ H { s with heap:=h' }:=I.kept (t':=s.toks) kp;have I2:Inv X f8 σ (upd H h'.objs.size (.tup ys)) { s with heap:=h'.push { cls:=.type "tuple",data:=.seq its.toArray } } :=
   I1.laid (t':=s.toks) (λb o e=>Ak _ e) (An _) (show Z9 X.prog X.w _ _ _ (.tup ys) from ⟨hz,its,r',IsTup.new _ _⟩)
  exact ⟨.ref h'.objs.size,_,I2,Y,q _ (I1.hok.fresh (An _))⟩
 ·obtain ⟨its,r',pl,hz⟩:=I.tuple hq
  exact call_tuple_same pl ⟨.ref p,H,I,Y,q⟩
def tyV (K:W.Frag) (T:String) (x:V) (H:Hp):Prop:=match x with
 | .str _=>T="str"
 | .int _=>T="int"
 | .ref p=>(T="list"/\∃ xs,SqL K H p xs)\/(T="tuple"/\∃ o,K.lookup p=some o/\o.cls=.type "tuple"/\o.dict=none) \/
   (T="dict"/\((∃ kvs,H p=some (.dK kvs))\/∃ kvs,H p=some (.dT kvs)))\/(T="set"/\∃ S n,H p=some (.set S n))
 | _=>False
def Zmp {s:Shared} (I:Inv X f8 σ H s) (r:RelV x v) (ty:tyV X.K T x H) :
  s.TypeIs v T/\∀ a,v=.ref a->∃ ob,s.heap.get? a=some ob/\ob.dict=none:=by
 cases x with
 | str z =>
  obtain ⟨t,rfl⟩:=r;cases (show T="str" from ty);exact ⟨typeIs_str s z t,λ_ e=>nomatch e⟩
 | int i =>
  obtain ⟨t,rfl⟩:=r;cases (show T="int" from ty);exact ⟨typeIs_int s i t,λ_ e=>nomatch e⟩
 | ref p =>
  cases r
  rcases ty with ⟨rfl,xs,hq⟩ | ⟨rfl,o,hk,hc,hd⟩ | ⟨rfl,hk⟩ | ⟨rfl,S,n,hk⟩
  ·obtain ⟨its,_,pl,_⟩:=I.list hq
   refine ⟨pl.isList.typeIs,λa e=>?_⟩;cases e;obtain ⟨o,n,e,c,hd,_⟩:=pl;exact ⟨o,e,hd⟩
  ·refine ⟨⟨o,I.kIn p o hk,hc⟩,λa e=>?_⟩
   cases e;exact ⟨o,I.kIn _ o hk,hd⟩
  ·have z:∃ o,s.heap.get? p=some o/\o.ExactDict:=by
    rcases hk with ⟨kvs,hk⟩ | ⟨kvs,hk⟩
    ·obtain ⟨_,_,_,_,o,_,_,e,ex,_⟩:=I.hok p _ hk
     exact ⟨o,e,ex⟩
    ·obtain ⟨_,_,_,_,o,_,_,e,ex,_⟩:=I.hok p _ hk
     exact ⟨o,e,ex⟩
   obtain ⟨o,e,ex⟩:=z;refine ⟨⟨o,e,ex.1⟩,λa e2=>?_⟩;cases e2;exact ⟨o,e,ex.2.1⟩
  ·obtain ⟨o,_,_,_,e,ex,_⟩:=I.hok p _ hk
   refine ⟨⟨o,e,ex.1⟩,λa e2=>?_⟩;cases e2;exact ⟨o,e,ex.2.1⟩
 | _=>exact False.elim ty
def tBM (K:W.Frag) (T:String) (r:V->List V->Hp->VK->Prop) (to:TE) (t:TA):TE:=λσ H Q=>to σ H λx H1=>tyV K T x H1/\t σ H1 λxs H2=>r x xs H2 Q
variable {o e:Expr} {es:List Expr} {to:TE} {t:TA} {name:Str} {gu gm:Pos} {T id:String} {r:V->List V->Hp->VK->Prop}
def Je (pa:PlainAttrs T) (slot:Slot T name id) (hty:typeOf (.builtin id)=pure (.type "method_descriptor")) (hm:MtR X id r) (ho:PE X o to) (ha:PA X (e :: es) t)
  (ke:attributeBase o name X.env (eval o X.env)=eval o X.env:=by rfl)
  (t7:((backTo gm (starEach (e :: es) X.env)).all (λx=>!x.1) && (backToKw gm (keywordEach [] X.env)).all (λx=>x.1.isSome)
   && decide ((e :: es).length + ([]:List Keyword).length + (if ([]:List Keyword).isEmpty then 0 else 1) < 30))=true:=by rfl)
  (oj:(gu.endLine == gm.line)=true:=by rfl) (hs:starEach (e :: es) X.env=(false,eval e X.env) :: starEach es X.env:=by rfl) (ua:(backTo gm (starEach es X.env)).any (·.1)=false:=by rfl) :
  PE X (.Call (.Attribute o name gu) (e :: es) [] gm) (tBM X.K T r to t):=by
 intro f8 s σ H Q I h;refine wpAny_Call_method_late ke t7 oj Y (thn (ho f8 s σ H _ I h) λv s1 gk=>?_);obtain ⟨x,H1,I1,r1,ty,q1⟩:=gk;obtain ⟨h1,h2⟩:=Zmp I1 r1 ty;refine ⟨T,id,pa,slot,hty,h1,h2,?_⟩;have hA:=ha gm f8 s1 σ H1 _ I1 q1;rw [hs] at hA ⊢;refine Calls.callWith_builtin (by show (false || (backTo gm (starEach es X.env)).any (·.1))=false; rw [ua] <;> rfl) (Calls.evalArgs_plain ?_);refine thn hA λus s2 zz20=>?_;obtain ⟨vs,H2,I2,r2,q2⟩:=zz20;exact hm f8 s2 σ H2 x vs v us Q I2 r1 r2 q2
end
def MtM (X:Cx) (id:String) (r:V->List V->Hp->VK->Prop):Prop :=
 ∀ (f8:List (Addr × Obj)) (s:Shared) (σ:St) (H:Hp) (x:V) (xs:List V) (v:Value) (us:List Value) (Q:VK),Inv X f8 σ H s->RelV x v->Vals xs us->r x xs H Q ->
  wpAny (model X.prog X.w) X.A (call (.builtin id) (v :: us)) (EP X f8 σ Q) X.xe s
def Vals.one (h:Vals [x] us):∃ u,us=[u]/\RelV x u:=by
  cases h with
  | cons r t=>cases t; exact ⟨_,Y,r⟩
def Vals.two (h:Vals [x,y] us):∃ u v,us=[u,v]/\RelV x u/\RelV y v:=by
  cases h with
  | cons r t =>
    obtain ⟨v,rfl,q⟩:=Vals.one t;exact ⟨_,v,Y,r,q⟩
theorem Vals.eraseIdx:∀ {xs:List V} {us:List Value} (i:Nat),Vals xs us->Vals (xs.eraseIdx i) (us.eraseIdx i)
 | _,_,_,.nil=>.nil
 | _,_,0,.cons _ t=>t
 | _,_,i + 1,.cons r t=>.cons r (Vals.eraseIdx i t)
theorem Vals.rep (h:Vals xs us):∀ k:Nat,Vals (List.replicate k xs).flatten (List.replicate k us).flatten
 | 0=>.nil
 | k + 1=>by
  rw [List.replicate_succ,List.replicate_succ,List.flatten_cons,List.flatten_cons];exact Vals.append h (Vals.rep h k)
theorem Zab {α:Type}:∀ (l:List α) (i:Nat),(l.eraseIdx i).length<=l.length
 | [],_=>An _
 | _ :: _,0=>Nat.le_succ _
 | _ :: r,i + 1=>Nat.succ_le_succ (Zab r i)
theorem Zaf (its:List Value):∀ (k:Nat) (gj:List Value),
  List.foldl (λx1 x2=>x1 ++ x2) gj.toArray (List.replicate k its.toArray)=(gj ++ (List.replicate k its).flatten).toArray
 | 0,gj=>by simp
 | k + 1,gj=>by
  have e:gj.toArray ++ its.toArray=(gj ++ its).toArray:=by simp
  have e2:(gj ++ its) ++ (List.replicate k its).flatten=gj ++ (List.replicate (k + 1) its).flatten:=by
   rw [List.replicate_succ,List.flatten_cons,List.append_assoc]
  rw [<- e2,<- Zaf its k (gj ++ its),<- e,List.replicate_succ,List.foldl_cons]
section
variable {X:Cx} {f8:List (Addr × Obj)} {σ:St} {H:Hp} {s:Shared} {l b:Addr} {xs ys zs:List V}
def Inv.lset {its its':List Value} {t':Nat} (I:Inv X f8 σ H s) (hH:H l=some (.lst xs))
  (e:s.heap.get? l=some { cls:=.type "list",data:=.seq its.toArray n }) (hf:f its.toArray=its'.toArray) (hv:Vals ys its') (hz:ys.length<=sizeLine) :
  Inv X f8 σ (upd H l (.lst ys)) { s with heap:=s.heap.update l (Obj.mapSeq f),toks:=t' }:=by
 have q:=PySem.IsL.update e f;rw [hf] at q;refine I.write (x:=l) (e:=l) (by rw [hH]; exact trivial) (.inl Y) (λb' u hb hu=>(Heap.get?_update_other s.heap (Obj.mapSeq f) (Ne.symm hb)).trans hu) ⟨_,q⟩ ?_;exact ⟨hz,its',_,hv,q⟩
def Inv.lnew {its:List Value} {t':Nat} (I:Inv X f8 σ H s) (hv:Vals ys its) (hz:ys.length<=sizeLine) :
  Inv X f8 σ (upd H s.heap.objs.size (.lst ys)) { s with heap:=s.heap.push { cls:=.type "list",data:=.seq its.toArray },toks:=t' } :=
 I.laid (λ_ _ q=>Ak _ q) (An _) ⟨hz,its,0,hv,Ap _ rfl⟩
def Inv.fresh (I:Inv X f8 σ H s):H s.heap.objs.size=none:=I.hok.fresh (An _)
def Inv.lstM (I:Inv X f8 σ H s) (hH:H l=some (.lst xs)):xs.length<=sizeLine/\∃ (its:List Value) (n:Nat),Vals xs its/\xs.length=its.length/\s.heap.get? l=some { cls:=.type "list",data:=.seq its.toArray n }:=by
 obtain ⟨z,its,n,r,e⟩:=I.hok l _ hH;exact ⟨z,its,n,r,r.length,e⟩
def Zjo (h:n<=sizeLine):Builtin.List.listTooLong n=false:=by
 unfold Builtin.List.listTooLong;exact decide_eq_false (by lia)
end
section
variable {X:Cx}
def Zli:V->List V->Hp->VK->Prop:=λx vs H Q=>∃ l xs y,x=.ref l/\vs=[y]/\H l=some (.lst xs)/\xs.length < sizeLine/\Q .non (upd H l (.lst (xs ++ [y])))
def Y7:MtM X "list.append" Zli:=by
 intro f8 s σ H x vs v us Q I rx rv h;obtain ⟨l,xs,y,rfl,rfl,hH,hz,q⟩:=h;cases rx;obtain ⟨u,rfl,ru⟩:=rv.one;obtain ⟨z,its,n,r,hl,e⟩:=I.lstM hH;refine call_meets F.slot_list_append ⟨_,e,Y⟩ F.entry_list_append (F.args_list_append_2 _ _) (PySem.list_append l its.toArray n u (by rw [Aq]; lia)) ⟨e,?_⟩;refine ⟨.non,_,I.lset (its':=its ++ [u]) hH e (by simp) (r.append (.cons ru .nil)) ?_,Y,q⟩;rw [Ae,At];lia
def Zna:V->List V->Hp->VK->Prop:=λx vs H Q=>∃ l xs i k y,x=.ref l/\vs=[.int i]/\H l=some (.lst xs)/\-(2 ^ 63)<=i/\i < 2 ^ 63/\seqIndex? i xs.length=some k/\xs[k]?=some y/\Q y (upd H l (.lst (xs.eraseIdx k)))
def Zcu:MtM X "list.pop" Zna:=by
 intro f8 s σ H x vs v us Q I rx rv h;obtain ⟨l,xs,i,k,y,rfl,rfl,hH,h1,h2,hk,hy,q⟩:=h;cases rx;obtain ⟨u,rfl,ru⟩:=rv.one;obtain ⟨t,rfl⟩:=ru;obtain ⟨z,its,n,r,hl,e⟩:=I.lstM hH;obtain ⟨w,hw,kl⟩:=r.get hy;refine call_meets F.slot_list_pop ⟨_,e,Y⟩ F.entry_list_pop (F.args_list_pop_2 _ _)
  (MeetsSeq.list_pop_at l its.toArray n i t k w (fitsIndex_both h1 h2) (by rw [Aq,<- hl]; exact hk) (by rw [<- Array.getElem?_toList]; exact hw) (by rw [Aq]; lia)) ⟨e,?_⟩
 refine ⟨y,_,I.lset (its':=its.eraseIdx k) hH e ?_ (r.eraseIdx k) ?_,kl,q⟩
 ·show its.toArray.eraseIdxIfInBounds k=(its.eraseIdx k).toArray
  rw [List.eraseIdxIfInBounds_toArray]
 ·have:=Zab xs k
  lia
def rCat:R2:=λx y H Q=>∃ l b xs zs,x=.ref l/\y=.ref b/\H l=some (.lst xs)/\H b=some (.lst zs)/\xs.length + zs.length<=sizeLine/\∀ p,H p=none->Q (.ref p) (upd H p (.lst (xs ++ zs)))
def Znl:OpR X (binaryOp .Add) rCat:=by
 intro f8 s σ H x y v u Q I rx ry h;obtain ⟨l,b,xs,zs,rfl,rfl,hH,hB,hz,q⟩:=h;cases rx;cases ry;obtain ⟨z,its,n,r,hl,e⟩:=I.lstM hH;obtain ⟨z2,xl,n2,r2,iw,e2⟩:=I.lstM hB;refine PySem.P.add_list e e2 ?_ (by rw [Aq,Aq]; lia);have ea:its.toArray ++ xl.toArray=(its ++ xl).toArray:=by simp
 rw [ea];exact ⟨.ref _,_,I.lnew (t':=s.toks) (r.append r2) (by rw [Ae]; lia),rfl,q _ I.fresh⟩
def rRep:R2:=λx y H Q=>∃ l k xs,x=.ref l/\y=.int k/\H l=some (.lst xs)/\-(2 ^ 63)<=k/\k < 2 ^ 63/\xs.length * k.toNat<=sizeLine /\
 ∀ p,H p=none->Q (.ref p) (upd H p (.lst (List.replicate k.toNat xs).flatten))
def Zl1 {α:Type} (xs:List α) (k:Nat):(List.replicate k xs).flatten.length=k * xs.length:=by
 induction k with
 | zero=>simp
 | succ k ih=>rw [List.replicate_succ,List.flatten_cons,Ae,ih,Nat.succ_mul,Nat.add_comm]
def Gn:OpR X (binaryOp .Mult) rRep:=by
 intro f8 s σ H x y v u Q I rx ry h;obtain ⟨l,k,xs,rfl,rfl,hH,h1,h2,hz,q⟩:=h;cases rx;obtain ⟨t,rfl⟩:=ry;obtain ⟨z,its,n,r,hl,e⟩:=I.lstM hH;have gc:its.toArray.size * k.toNat<=sizeLine:=by rw [Aq,<- hl]; exact hz
 have hcap:¬ its.toArray.size * k.toNat > (2 ^ 63 - 1) / 8:=by
  have:(sizeLine:Nat)<=(2 ^ 63 - 1) / 8:=by decide
  lia
 have hfit:¬ (!Builtin.List.listFitsIndex k)=true:=by
  rw [fitsIndex_both h1 h2];exact Bool.false_ne_true
 have yj:¬ Builtin.List.listTooLong (its.toArray.size * k.toNat)=true:=by
  rw [Zjo gc];exact Bool.false_ne_true
 have n6:List.foldl (λx1 x2=>x1 ++ x2) #[] (List.replicate (if its.toArray.isEmpty=true then 0 else k.toNat) its.toArray)=(List.replicate k.toNat its).flatten.toArray:=by
  have f0:∀ m:Nat,List.foldl (λx1 x2=>x1 ++ x2) #[] (List.replicate m its.toArray)=(List.replicate m its).flatten.toArray:=λm=>by
   have:=Zaf its m [];rw [List.nil_append] at this;exact this
  rw [f0]
  cases its with
  | nil=>simp
  | cons a r'=>rw [if_neg (by simp)]
 refine wpAny_binaryOp_repeat_ref (T:="list") (U:="int") (by decide) ⟨_,e,rfl⟩ (λs'=>typeIs_int s' k t) noFill_list_mul F.fills_int_mul F.slot_int_rmul repeat_list F.slot_int_index.lookup
  (call_meets F.slot_int_rmul (typeIs_int s k t) F.entry_int_rmul (F.args_int_rmul_2 _ _) (int___rmul___int_list k t l its.toArray n)
   ⟨e,rfl,⟨_,e,rfl⟩,call_meets F.slot_list_mul ⟨_,e,rfl⟩ F.entry_list_mul (F.args_list_mul_2 _ _) (AutoListH.list___mul___list_int_3 l its.toArray n k t hfit hcap yj) ⟨e,?_⟩⟩)
 rw [n6];exact ⟨.ref _,_,I.lnew (t':=s.toks) (r.rep k.toNat) (by rw [Zl1,Nat.mul_comm]; exact hz),Y,q _ I.fresh⟩
end
section
variable {κ:Type} [DecidableEq κ]
def valV (kvs:List (κ × V)) (k:κ):Option V:=(kvs.find? λkv=>decide (kv.1=k)).map (·.2)
def putK (kvs:List (κ × V)) (k:κ) (v:V):List (κ × V) :=
 if (kvs.any λkv=>decide (kv.1=k))=true then kvs.map (λkv=>if kv.1=k then (kv.1,v) else kv) else kvs ++ [(k,v)]
def Kl {p:κ × V} {r:List (κ × V)} (e:p.1=k):valV (p :: r) k=some p.2:=by simp [valV,List.find?_cons,e]
def Km {p:κ × V} (e:¬ p.1=k):valV (p :: r) k=valV r k:=by simp [valV,List.find?_cons,e]
theorem Za9 (k:κ):∀ kvs:List (κ × V),(kvs.any λkv=>decide (kv.1=k))=(valV kvs k).isSome
 | []=>rfl
 | p :: r=>by
  rw [List.any_cons];by_cases e:p.1=k
  ·simp only [Kl e,decide_eq_true e,Bool.true_or,Option.isSome_some]
  ·rw [Km e,decide_eq_false e,Bool.false_or]; exact Za9 k r
def J2 (kvs:List (κ × V)) (k:κ) (v:V):(putK kvs k v).length<=kvs.length + 1:=by
 unfold putK;split
 ·rw [Ab]; lia
 ·rw [Ae,List.length_cons,List.length_nil]; lia
def RelO.isSome_eq {o:Option V} {u:Option Value} (r:RelO o u):o.isSome=u.isSome:=by
 cases o with
 | none=>cases u with
  | none=>rfl
  | some _=>exact (show False from r).elim
 | some _=>cases u with
  | none=>exact (show False from r).elim
  | some _=>rfl
def KV.val (r:KV kvs vs) (k:κ):RelO (valV kvs k) (valueAt vs k):=by
 unfold KV at r
 induction r with
 | nil=>exact True.intro
 | @cons p q ps qs h t ih =>
  obtain ⟨h1,h2⟩:=h;by_cases e:p.1=k
  ·have e':q.1=k:=h1.symm.trans e
   have b:valueAt (q :: qs) k=some q.2:=by simp [valueAt,List.find?_cons,e']
   rw [Kl e,b]; exact h2
  ·have e':¬ q.1=k:=λz=>e (h1.trans z)
   have b:valueAt (q :: qs) k=valueAt qs k:=by simp [valueAt,List.find?_cons,e']
   rw [Km e,b]; exact ih
def KV.any {kvs:List (κ × V)} {vs:List (κ × Value)} (r:KV kvs vs) (k:κ):(kvs.any λkv=>decide (kv.1=k))=vs.any λkv=>decide (kv.1=k):=by
 unfold KV at r
 induction r with
 | nil=>rfl
 | cons h t ih=>rw [List.any_cons,List.any_cons,ih,h.1]
def KV.repl {kvs:List (κ × V)} {vs:List (κ × Value)} (r:KV kvs vs) (k:κ) (ry:RelV y u) :
  KV (kvs.map λkv=>if kv.1=k then (kv.1,y) else kv) (vs.map λkv=>if kv.1=k then (kv.1,u) else kv):=by
 unfold KV at r ⊢
 induction r with
 | nil=>exact .nil
 | @cons p q ps qs h t ih =>
  rw [List.map_cons,List.map_cons];refine .cons ?_ ih;obtain ⟨h1,h2⟩:=h;by_cases e:p.1=k
  ·rw [if_pos e,if_pos (h1.symm.trans e)]; exact ⟨h1,ry⟩
  ·rw [if_neg e,if_neg (λz=>e (h1.trans z))]; exact ⟨h1,h2⟩
def KV.put (r:KV kvs vs) (k:κ) (ry:RelV y u):KV (putK kvs k y) (stored vs k u):=by
 unfold putK stored;rw [r.any k];by_cases e:(vs.any λkv=>decide (kv.1=k))=true
 ·rw [if_pos e,if_pos e]; exact r.repl k ry
 ·rw [if_neg e,if_neg e]; exact Paired.snoc r ⟨Y,ry⟩
def KV.length {kvs:List (κ × V)} {vs:List (κ × Value)} (r:KV kvs vs):kvs.length=vs.length:=Paired.length r
end
def Ul (r:RelV (kV k) u):(Z1 P w).is k u=true:=by
 cases k with
 | inl i=>obtain ⟨t,e⟩:=(show ∃ t,u=Value.int i t from r); subst e; exact Zd0 P w i t
 | inr x=>obtain ⟨t,e⟩:=(show ∃ t,u=Value.str x t from r); subst e; exact Zdz P w x t
theorem Zac:∀ {ks:List Key} {us:List Value},Vals (ks.map kV) us->ItemsAre (Z1 P w) ks us
 | [],_,r=>by rw [List.map_nil] at r; cases r; exact .nil
 | k :: ks,_,r=>by
  rw [List.map_cons] at r
  cases r with
  | cons h t=>exact .cons (Ul h) (Zac t)
abbrev KT (H:Hp):List (List Key × V)->List (List Key × Addr × Value)->Prop:=Paired λp q=>p.1=q.1/\H q.2.1=some (.tup (p.1.map kV))/\RelV p.2 q.2.2
def KT.val (r:KT H kvs xs) (k:List Key):RelO (valV kvs k) ((atKey xs k).map (·.2)):=by
 induction r with
 | nil=>exact True.intro
 | @cons p q ps qs h t ih =>
  obtain ⟨h1,_,h2⟩:=h;by_cases e:p.1=k
  ·have e':q.1=k:=h1.symm.trans e
   have b:atKey (q :: qs) k=some q.2:=by simp [atKey,List.find?_cons,e']
   rw [Kl e,b]; exact h2
  ·have e':¬ q.1=k:=λz=>e (h1.trans z)
   have b:atKey (q :: qs) k=atKey qs k:=by simp [atKey,List.find?_cons,e']
   rw [Km e,b]; exact ih
def KT.repl {kvs:List (List Key × V)} {xs:List (List Key × Addr × Value)} (r:KT H kvs xs) (k:List Key) (ry:RelV y u) :
  KT H (kvs.map λkv=>if kv.1=k then (kv.1,y) else kv) (xs.map (putAt k u)):=by
 induction r with
 | nil=>exact .nil
 | @cons p q ps qs h t ih =>
  rw [List.map_cons,List.map_cons];refine .cons ?_ ih;obtain ⟨h1,h2,h3⟩:=h;unfold putAt;by_cases e:p.1=k
  ·rw [if_pos e,if_pos (h1.symm.trans e)]; exact ⟨h1,h2,ry⟩
  ·rw [if_neg e,if_neg (λz=>e (h1.trans z))]; exact ⟨h1,h2,h3⟩
def KT.put (r:KT H kvs xs) (k:List Key) (hb:H b=some (.tup (k.map kV))) (ry:RelV y u) :
  KT H (putK kvs k y) (storedH xs k b u):=by
 have e:(kvs.any λkv=>decide (kv.1=k))=(atKey xs k).isSome:=by
  rw [Za9,(r.val k).isSome_eq,Option.isSome_map]
 unfold putK storedH;rw [e];by_cases q:(atKey xs k).isSome=true
 ·rw [if_pos q,if_pos q]; exact r.repl k ry
 ·rw [if_neg q,if_neg q]; exact Paired.snoc r ⟨Y,hb,ry⟩
def KT.keeps (r:KT H kvs xs) (ht:∀ b ys,H b=some (.tup ys)->H' b=some (.tup ys)):KT H' kvs xs :=
 Paired.mapP r λ_ _ z=>⟨z.1,ht _ _ z.2.1,z.2.2⟩
section
variable {P:Program} {w:World} {H:Hp} {h:Heap} {a:Addr}
def Zke (ok:HOk P w H h) (e:Rd H a u):Z9 P w H h a u:=e.ok ok
def Vk {kvs:List (Key × V)} (ok:HOk P w H h) (e:Rd H a (.dK kvs)):kvs.length<=sizeLine/\(a == sysModules)=false/\∃ vs,KV kvs vs/\h.DictOf (Z1 P w) a vs :=
 show Z9 P w H h a (.dK kvs) from Zke ok e
def Zf4 {kvs:List (Key × V)} (ok:HOk P w H h) (e:H a=some (.dK kvs)):kvs.length<=sizeLine/\(a == sysModules)=false/\∃ vs,KV kvs vs/\h.DictOf (Z1 P w) a vs:=Vk ok (.inl e)
def Gv {ks:List Key} (ok:HOk P w H h) (e:H a=some (.tup (ks.map kV))):(tupleKind (Z1 P w)).is h ks a:=by
 obtain ⟨_,its,r,o,h1,h2,n,h3⟩:=(show Z9 P w H h a (.tup (ks.map kV)) from ok a _ e);exact ⟨o,its.toArray,n,h1,h2,h3,by simpa using Zac r⟩
def G3 {kvs:List (List Key × V)} (ok:HOk P w H h) (e:Rd H a (.dT kvs)):kvs.length<=sizeLine/\(a == sysModules)=false /\
  ∃ xs,KT H kvs xs/\h.DictOfH (tupleKind (Z1 P w)) a xs:=by
 obtain ⟨z,y,xs,r,o,es,ep,h1,h2,h3,h4,h5⟩:=(show Z9 P w H h a (.dT kvs) from Zke ok e);refine ⟨z,y,xs,r,o,es,ep,h1,h2,h3,h4,λx hx=>?_,h5⟩
 have all:∀ {l:List (List Key × V)} {m:List (List Key × Addr × Value)},KT H l m->∀ x∈m,(tupleKind (Z1 P w)).is h x.1 x.2.1:=by
  intro l m q
  induction q with
  | nil=>intro x hx; exact nomatch hx
  | @cons p q ps qs hq t ih =>
   intro x hx
   rcases Ar hx with e | hx
   ·subst e
    exact Gv ok (by rw [<- hq.1]; exact hq.2.1)
   ·exact ih x hx
 exact all r x hx
def Zo4 {kvs:List (List Key × V)} (ok:HOk P w H h) (e:H a=some (.dT kvs)):kvs.length<=sizeLine/\(a == sysModules)=false /\
  ∃ xs,KT H kvs xs/\h.DictOfH (tupleKind (Z1 P w)) a xs:=G3 ok (.inl e)
end
def DGet (H:Hp) (a:Addr) (y:V) (r:Option V):Prop :=
 (∃ kvs k,Rd H a (.dK kvs)/\y=kV k/\r=valV kvs k)\/∃ kvs k b,Rd H a (.dT kvs)/\y=.ref b/\H b=some (.tup (k.map kV))/\r=valV kvs k
def DPut (H:Hp) (a:Addr) (y v:V) (H':Hp):Prop :=
 (∃ kvs k,H a=some (.dK kvs)/\y=kV k/\kvs.length < sizeLine/\H'=upd H a (.dK (putK kvs k v))) \/
 ∃ kvs k b,H a=some (.dT kvs)/\y=.ref b/\H b=some (.tup (k.map kV))/\kvs.length < sizeLine/\H'=upd H a (.dT (putK kvs k v))
def DPut.k {H:Hp} {a:Addr} {kvs:List (Key × V)} {k:Key} {v:V} (e:H a=some (.dK kvs)) (hl:kvs.length < sizeLine):DPut H a (kV k) v (upd H a (.dK (putK kvs k v))):=.inl ⟨kvs,k,e,rfl,hl,rfl⟩
section
variable {X:Cx} {f8:List (Addr × Obj)} {σ:St} {H:Hp} {s:Shared} {a:Addr} {y v:V} {u r:Value} {o:Option V} {A:Around} {E:Value->Shared->Prop}
def Inv.big (I:Inv X f8 σ H s):sysModules < s.heap.objs.size:=by
 have h:mainGlobals < s.heap.objs.size:=(I.mod.glob.keeps I.bk).lt;exact Nat.lt_trans (by decide) h
def Zif (hu:A.units + 1 < cLine) (I:Inv X f8 σ H s) (g:DGet H a y (some v)) (ry:RelV y u) (h:∀ w' s',Inv X f8 σ H s'->RelV v w'->Q w' s') :
  wpAny (model X.prog X.w) A (getItem (.ref a) u) Q E s:=by
 rcases g with ⟨kvs,k,e,ey,l⟩ | ⟨kvs,k,b,e,ey,eb,l⟩
 ·subst ey
  obtain ⟨z,hd,vs,gw,dd⟩:=Vk I.hok e;obtain ⟨w',hw,kl⟩:=RelO.some_of (v:=v) (o:=valueAt vs k) (by rw [l]; exact gw.val k);exact wpAny_getItem_of (Ul ry) dd.mapOf hw (h w' _ (I.tok _) kl)
 ·subst ey
  cases (show u=Value.ref b from ry);obtain ⟨z,hd,xs,gw,dd⟩:=G3 I.hok e;obtain ⟨w',hw,kl⟩:=RelO.some_of (v:=v) (o:=(atKey xs k).map (·.2)) (by rw [l]; exact gw.val k);obtain ⟨p,hp,nk⟩:=Option.map_eq_some_iff.mp hw;refine wpAny_getItem_heap (tupleKind_room_in1 hu) (Gv I.hok eb) dd hp ?_;rw [nk];exact h w' _ (I.tok _) kl
def Zl9 (hu:A.units + 1 < cLine) (I:Inv X f8 σ H s) (g:DGet H a y o) (ry:RelV y u) (h:∀ s',Inv X f8 σ H s'->Q (.bool (!o.isSome)) s') :
  wpAny (model X.prog X.w) A (compareOp .NotIn u (.ref a)) Q E s:=by
 rcases g with ⟨kvs,k,e,ey,l⟩ | ⟨kvs,k,b,e,ey,eb,l⟩
 ·subst ey
  obtain ⟨z,hd,vs,gw,dd⟩:=Vk I.hok e;refine wpAny_notIn_of (Ul ry) hd dd.mapOf ?_;rw [<- (gw.val k).isSome_eq,<- l];exact h _ (I.tok _)
 ·subst ey
  cases (show u=Value.ref b from ry);obtain ⟨z,hd,xs,gw,dd⟩:=G3 I.hok e;refine wpAny_notIn_heap (tupleKind_room_in1 hu) (Gv I.hok eb) hd dd ?_;have q:=(gw.val k).isSome_eq;rw [Option.isSome_map] at q;rw [<- q,<- l];exact h _ (I.tok _)
def O4 {h':Heap} {t':Nat} (I:Inv X f8 σ H s) (mu:Mut (H a)) (hs:Heap.SameBut a s.heap h') (he:∃ q,h'.get? a=some q) (new:Z9 X.prog X.w (upd H a ob) h' a ob) :
  Inv X f8 σ (upd H a ob) { s with heap:=h',toks:=t' } :=
 I.write (x:=a) (e:=a) mu (.inl rfl) (λb q hb z=>(hs.2 b hb).trans z) he new
def Zc8 {h':Heap} {kvs:List (Key × V)} (z:kvs.length<=sizeLine) (hd:(a == sysModules)=false) (gw:KV kvs vs) (dd:h'.DictOf (Z1 P w) a vs) :
  Z9 P w H' h' a (.dK kvs):=⟨z,hd,vs,gw,dd⟩
def Zie (hu:A.units + 1 < cLine) (I:Inv X f8 σ H s) (g:DPut H a y v H') (ry:RelV y u) (rv:RelV v r) (h:∀ s',Inv X f8 σ H' s'->Q () s') :
  wpAny (model X.prog X.w) A (setItem (.ref a) u r) Q E s:=by
 rcases g with ⟨kvs,k,e,ey,l,eH⟩ | ⟨kvs,k,b,e,ey,eb,l,eH⟩
 ·subst ey eH
  obtain ⟨z,hd,vs,gw,dd⟩:=Zf4 I.hok e;have hz:vs.length<=sizeLine:=by rw [<- gw.length]; exact z
  have hl:(putK kvs k v).length<=sizeLine:=by have:=J2 kvs k v; lia
  refine wpAny_setItem_pairs (hsz:=hz) (Ul ry) dd λh' o9 hs=>h _ ?_;have he:∃ q,h'.get? a=some q:=let ⟨q,_,_,hq,_⟩:=o9; ⟨q,hq⟩
  exact O4 I (by rw [e]; exact True.intro) hs he (Zc8 hl hd (gw.put k rv) o9)
 ·subst ey eH
  cases (show u=Value.ref b from ry);obtain ⟨z,hd,xs,gw,dd⟩:=Zo4 I.hok e;have hz:xs.length<=sizeLine:=by rw [<- Paired.length gw]; exact z
  have hl:(putK kvs k v).length<=sizeLine:=by have:=J2 kvs k v; lia
  refine wpAny_setItem_heap (hsz:=hz) (tupleKind_room_in1 hu) (Gv I.hok eb) dd λh' o9 hs=>h _ ?_;obtain ⟨q,es,ep,hq,h2,h3,h4,_,h5⟩:=o9;refine O4 I (by rw [e]; exact True.intro) hs ⟨q,hq⟩ ⟨hl,hd,_,(gw.put k eb rv).keeps λc ys ec=>?_,q,es,ep,hq,h2,h3,h4,h5⟩;rw [Zf (Zoq ec e (λz=>nomatch z))];exact ec
end
def NoSl (i:Expr):Prop:=∀ ov iv,subscripted i false ov iv=operate [ov,iv] (getItem ov iv)
def Zk1 {prog:Program} {w:World} {A:Around} {E:Value->Shared->Prop} {s:Shared} {env:Env} {value i9:Expr} {pos:Pos} {T id:String} {Q:Value->Shared->Prop}
  (hl:typeLookup (.type T) "__getitem__"=pure (some (.builtin id))) (hs:NoSl i9)
  (h:wpAny (model prog w) A (eval value env) (λo s₁=>wpAny (model prog w) A (eval i9 env) (λi s₂=>s₂.TypeIs o T/\wpAny (model prog w) A (getItem o i) Q E s₂) E s₁) E s) :
  wpAny (model prog w) A (eval (.Subscript value i9 pos) env) Q E s:=by
 refine Subscript_ (wpAny_mono h (λo s₁ h₁=>wpAny_mono h₁ (λi s₂ h₂=>?_) λ_ _ x=>x) λ_ _ x=>x);obtain ⟨hT,h₂⟩:=h₂;unfold subscriptTail;refine Al ?_;rw [getitemInPython_of_ne hT.not_modules];refine Al (wpAny_specialOf hT hl ?_);have ik:wpAny (model prog w) A (subscripted i9 false o i) (λr s₃=>wpAny (model prog w) A (letTemporaryGo value o r >>= λ_=>pure r) Q E s₃) E s₂:=by
  rw [hs o i]
  exact wpAny_operating (wpAny_mono h₂ (λr s₃ h₃=>Al (wpAny_letTemporaryGo (wpAny_pure h₃))) λ_ _ x=>x)
 first
  | exact wpAny_pure (Al ik)
  | exact Al (wpAny_pure (Al ik))
  | exact Al ik
def Zd2 {s:Shared} (I:Inv X f8 σ H s) (g:DGet H a y o):s.TypeIs (.ref a) "dict":=by
 rcases g with ⟨kvs,k,e,_,_⟩ | ⟨kvs,k,b,e,_,_,_⟩
 ·obtain ⟨_,_,vs,_,dd⟩:=Vk I.hok e
  exact dd.typeIs
 ·obtain ⟨_,_,xs,_,dd⟩:=G3 I.hok e
  exact dd.typeIs
def Zog (td ty:TE):TE:=λσ H Q=>td σ H λx H1=>ty σ H1 λy H2=>∃ a v,x=.ref a/\DGet H2 a y (some v)/\Q v H2
def Zk0 (ty td:TE):TE:=λσ H Q=>ty σ H λy H1=>td σ H1 λx H2=>∃ a o,x=.ref a/\DGet H2 a y o/\Q (.bl (!o.isSome)) H2
def Zol (td ty tv:TE):TS:=λD σ H=>tv σ H λv H1=>td σ H1 λx H2=>ty σ H2 λy H3=>∃ a H4,x=.ref a/\DPut H3 a y v H4/\D.nx σ H4
section
variable {X:Cx} {o i e value:Expr} {pos jp kq:Pos} {td ty tv:TE}
def W7 (hu:X.A.units + 1 < cLine) (ho:PE X o td) (hi:PE X i ty) (hs:NoSl i):PE X (.Subscript o i pos) (Zog td ty):=by
 intro f8 s σ H Q I h;refine Zk1 PySem.F.slot_dict_getitem.lookup hs (thn (ho f8 s σ H _ I h) λu s1 zz21=>?_);obtain ⟨x,H1,I1,rx,q1⟩:=zz21;refine thn (hi f8 s1 σ H1 _ I1 q1) λiv s2 gk=>?_;obtain ⟨y,H2,I2,ry,a,v,ex,g,q2⟩:=gk;subst ex;obtain rfl:u=Value.ref a:=rx;exact ⟨Zd2 I2 g,Zif hu I2 g ry λw' s3 I3 kl=>⟨v,H2,I3,kl,q2⟩⟩
def Zhe (hu:X.A.units + 1 < cLine) (hi:PE X i ty) (ho:PE X o td):PC X .NotIn i o (Zk0 ty td):=by
 intro f8 s σ H Q I h;refine thn (hi f8 s σ H _ I h) λiv s1 zz22=>?_;obtain ⟨y,H1,I1,ry,q1⟩:=zz22;refine thn (ho f8 s1 σ H1 _ I1 q1) λu s2 gk=>?_;obtain ⟨x,H2,I2,rx,a,ov,ex,g,q2⟩:=gk;subst ex;obtain rfl:u=Value.ref a:=rx;exact Zl9 hu I2 g ry λs3 I3=>⟨.bl (!ov.isSome),H2,I3,Y,q2⟩
def Zek (hu:X.A.units + 1 < cLine) (ho:PE X o td) (hi:PE X i ty) (hv:PE X value tv) (hs:swapsWith value (some (.Subscript o i jp)) pos.line X.env=pure false) :
  PS X (.Assign [.Subscript o i jp] value pos) (Zol td ty tv):=by
 intro f8 s σ H D I h;refine wpAny_Assign_Subscript (thn (hv f8 s σ H _ I h) λr s1 zz23=>?_) hs;obtain ⟨v,H1,I1,rv,q1⟩:=zz23;refine thn (ho f8 s1 σ H1 _ I1 q1) λu s2 zz24=>?_;obtain ⟨x,H2,I2,rx,q2⟩:=zz24;refine thn (hi f8 s2 σ H2 _ I2 q2) λiv s3 zz25=>?_;obtain ⟨y,H3,I3,ry,a,H4,ex,g,q3⟩:=zz25;subst ex;obtain rfl:u=Value.ref a:=rx;exact Zie hu I3 g ry rv λs4 I4=>⟨σ,H4,I4,q3⟩
end
def Kx (h:Heap) (hb:sysModules < h.objs.size):Z9 P w H (h.push { cls:=.type "dict",data:=.dict #[] }) h.objs.size (.dK []) :=
 ⟨Az _,beq_eq_false_iff_ne.mpr (Ne.symm (As hb)),[],.nil,Heap.DictOf.new h⟩
def Zmz:TE:=λ_ H Q=>∀ p,H p=none->Q (.ref p) (upd H p (.dK []))
section
variable {X:Cx} {pos:Pos}
def Zcj:PE X (.Dict [] [] pos) Zmz:=λf8 s σ H Q I h =>
 wpAny_Dict_empty ⟨.ref s.heap.objs.size,_,I.laid (a:=s.heap.objs.size) (o:=.dK []) (t':=s.toks) (λ_ _ q=>Ak _ q) (An _) (Kx s.heap I.big),rfl,h _ (I.hok.fresh (An _))⟩
end
def Zbc:List (TE × TE)->St->Hp->(List (V × V)->Hp->Prop)->Prop
 | [],_,H,Q=>Q [] H
 | (tk,tv) :: r,σ,H,Q=>tk σ H λx H1=>tv σ H1 λy H2=>Zbc r σ H2 λps H3=>Q ((x,y) :: ps) H3
abbrev VV:List (V × V)->List (Value × Value)->Prop:=Paired λp q=>RelV p.1 q.1/\RelV p.2 q.2
def PPs (X:Cx) (pos:Pos) (keys:List (Option Expr)) (jl:List Expr) (pd:List (TE × TE)):Prop :=
 ∀ (f8:List (Addr × Obj)) (s:Shared) (σ:St) (H:Hp) (Q:List (V × V)->Hp->Prop),Inv X f8 σ H s->Zbc pd σ H Q ->
  wpAny (model X.prog X.w) X.A (evalPairs (pairTrees keys jl X.env pos)) (λvs s'=>∃ ps H',Inv X f8 σ H' s'/\VV ps vs/\Q ps H') X.xe s
def Fl {X:Cx} {pos:Pos}:PPs X pos [] [] []:=λf8 s σ H Q I h=>pairTrees_nil_walk ⟨[],H,I,.nil,h⟩
def Xc {X:Cx} {pos:Pos} {k v:Expr} {ks:List (Option Expr)} {vs:List Expr} {tk tv:TE} {pd:List (TE × TE)} (hk:PE X k tk) (hv:PE X v tv) (hr:PPs X pos ks vs pd) :
  PPs X pos (some k :: ks) (v :: vs) ((tk,tv) :: pd):=λf8 s σ H Q I h =>
 pairTrees_cons_walk (thn (hk f8 s σ H _ I h) λu s1 ⟨x,H1,I1,rx,q1⟩=>thn (hv f8 s1 σ H1 _ I1 q1) λw2 s2 ⟨y,H2,I2,ry,q2⟩ =>
  thn (hr f8 s2 σ H2 _ I2 q2) λws s3 ⟨ps,H3,I3,gw,q3⟩=>⟨(x,y) :: ps,H3,I3,.cons ⟨rx,ry⟩ gw,q3⟩)
def Wg (kvs more:List (Key × V)):List (Key × V):=more.foldl (λgj kv=>putK gj kv.1 kv.2) kvs
def KV.merge:∀ {more:List (Key × V)} {rs:List (Key × Value)} {kvs:List (Key × V)} {vs:List (Key × Value)},KV more rs->KV kvs vs->KV (Wg kvs more) (merged vs rs):=by
 intro more rs kvs vs r;unfold KV at r
 induction r generalizing kvs vs with
 | nil=>intro q; exact q
 | @cons p q ps qs h t ih =>
  intro r0;have e:KV (putK kvs p.1 p.2) (stored vs q.1 q.2):=by
   have:=r0.put p.1 h.2
   rw [<- h.1]; exact this
  exact ih e
theorem U0:∀ (more kvs:List (Key × V)),(Wg kvs more).length<=kvs.length + more.length
 | [],kvs=>by show kvs.length<=kvs.length + 0; lia
 | p :: r,kvs=>by
  have h1:=U0 r (putK kvs p.1 p.2);have h2:=J2 kvs p.1 p.2;show (Wg (putK kvs p.1 p.2) r).length<=_;rw [List.length_cons]; lia
theorem G5 {P:Program} {w:World}:∀ {kvs:List (Key × V)} {ws:List (Value × Value)},VV (kvs.map λkv=>(kV kv.1,kv.2)) ws->∃ rs,Carries (Z1 P w) ws rs/\KV kvs rs
 | [],_,r=>by rw [List.map_nil] at r; cases r; exact ⟨[],True.intro,.nil⟩
 | p :: kvs,_,r=>by
  rw [List.map_cons] at r
  cases r with
  | @cons a b as bs h t =>
   obtain ⟨rs,c,q⟩:=G5 (P:=P) (w:=w) t;obtain ⟨b1,b2⟩:=b;exact ⟨(p.1,b2) :: rs,⟨Ul h.1,Y,c⟩,.cons ⟨Y,h.2⟩ q⟩
def Zof (pd:List (TE × TE)):TE:=λσ H Q=>∀ p,H p=none->Zbc pd σ (upd H p (.dK [])) λps H2=>H2 p=some (.dK [])/\∃ kvs:List (Key × V),ps=kvs.map (λkv=>(kV kv.1,kv.2))/\kvs.length<=15/\Q (.ref p) (upd H2 p (.dK (Wg [] kvs)))
def Fp {X:Cx} {pos:Pos} {keys:List (Option Expr)} {jl:List Expr} {pd:List (TE × TE)} (h:PPs X pos keys jl pd) (i8:keys.all (·.isSome)=true) (hl:keys.length=jl.length) (h0:keys≠[])
  (h15:keys.length<=15):PE X (.Dict keys jl pos) (Zof pd):=by
 intro f8 s σ H Q I q;have hn:=I.hok.fresh (An s.heap.objs.size);have I1:=I.laid (a:=s.heap.objs.size) (o:=.dK []) (h':=s.heap.push { cls:=.type "dict",data:=.dict #[] }) (t':=s.toks) (λ_ _ q=>Ak _ q) (An _) (Kx s.heap I.big);refine wpAny_Dict_walk (knd:=Z1 X.prog X.w) i8 hl h0 h15 (thn (h f8 _ σ _ _ I1 (q _ hn)) λws s2 gk=>?_);obtain ⟨ps,H2,I2,gw,e,kvs,ep,lk,q2⟩:=gk;subst ep;obtain ⟨rs,c,rk⟩:=G5 (P:=X.prog) (w:=X.w) gw;obtain ⟨z,hd,vs0,r0,dd⟩:=Zf4 I2.hok e;cases r0;refine ⟨rs,c,dd,λh' o9 hs=>⟨.ref s.heap.objs.size,_,?_,Y,q2⟩⟩;have hz:(Wg [] kvs).length<=sizeLine:=by
  have h1:=U0 kvs []
  rw [List.length_nil] at h1
  rw [sizeLine_eq]; lia
 have he:∃ q,h'.get? s.heap.objs.size=some q:=let ⟨q,_,_,hq,_⟩:=o9; ⟨q,hq⟩
 exact O4 I2 (by rw [e]; exact True.intro) hs he (Zc8 hz hd (rk.merge .nil) o9)
structure M2 (X:Cx) (o:Expr) (m:Str) (gu:Pos) (e f:Expr) (gm:Pos):Prop where
 base:attributeBase o m X.env (eval o X.env)=eval o X.env
 few:((backTo gm (starEach [e,f] X.env)).all (λx=>!x.1) && (backToKw gm (keywordEach [] X.env)).all (λx=>x.1.isSome)
  && decide (([e,f]:List Expr).length + ([]:List Keyword).length + (if ([]:List Keyword).isEmpty then 0 else 1) < 30))=true
 line:(gu.endLine == gm.line)=true
 trees:backTo gm (starEach [e,f] X.env)=[(false,eval e X.env),(false,eval f X.env)]
def IsD (H:Hp) (a:Addr):Prop:=(∃ kvs,Rd H a (.dK kvs))\/∃ kvs,Rd H a (.dT kvs)
def Gz {s:Shared} (I:Inv X f8 σ H s) (d:IsD H a) :
  s.TypeIs (.ref a) "dict"/\(∀ b,Value.ref a=.ref b->∃ ob,s.heap.get? b=some ob/\ob.dict=none)/\(a == sysModules)=false:=by
 rcases d with ⟨kvs,e⟩ | ⟨kvs,e⟩
 ·obtain ⟨_,hd,vs,_,dd⟩:=Vk I.hok e
  refine ⟨dd.typeIs,λb q=>?_,hd⟩;cases q;obtain ⟨ob,_,_,h1,h2,_⟩:=dd;exact ⟨ob,h1,h2.2.1⟩
 ·obtain ⟨_,hd,xs,_,dd⟩:=G3 I.hok e
  refine ⟨dd.typeIs,λb q=>?_,hd⟩;cases q;obtain ⟨ob,_,_,h1,h2,_⟩:=dd;exact ⟨ob,h1,h2.2.1⟩
end L2
namespace Att
open PySem PySem.W PySem.Calls PyProof.Rows
def G0:∀ (ns:List Int) (vs:List Value),WellAll P h vs (ns.map WData.int)->IntsAre vs ns:=by
 intro ns
 induction ns with
 | nil =>
  intro vs w;rw [List.map_nil] at w;cases w;exact .nil
 | cons n ns ih =>
  intro vs w;rw [List.map_cons] at w
  cases w with
  | cons a b =>
   cases a;exact .cons _ _ (ih _ b)
def Zgr {l:OpenLaw} (hn:l.most=some n) {h:Heap}
  (qe:l.row.toRowW.claim.pre args=true) (pk:WellAll P h xb args) :
  ∃ a vs ns,xb=[Value.ref a]/\args=[WData.list (ns.map WData.int)]/\h.get? a=some { cls:=.type "list",data:=.seq vs.toArray }/\IntsAre vs ns/\ns.length<=n:=by
 have wg:WShape.hasAll [] args [.list .int]=true:=(pre_splitW qe).1;have hc:l.pre.holds [] { args:=args }=true:=(pre_splitW qe).2;obtain ⟨d,r,rfl,h1,h2⟩:=hasAllW_cons wg;obtain rfl:=hasAllW_nil h2;obtain ⟨xs,rfl,h3⟩:=hasW_list h1;obtain ⟨ns,rfl⟩:=items_int h3
 have gc:ns.length<=n:=by
  unfold OpenLaw.pre at hc;have h4:(WTm.not (.lt (.lit (.int (n:Int))) (.len (.arg 0)))).holds [] { args:=[.list (ns.map .int)] }=true:=by
   have h4:=(holds_andW hc).1
   rw [hn] at h4
   exact h4
  have h5:=condW_of h4 (w_not (w_lt w_lit (w_len_list (w_arg rfl))));rw [Ab] at h5;refine Nat.le_of_not_lt λq=>?_;have q':(n:Int) < ((ns.length:Nat):Int):=by lia
  first
   | (rw [decide_eq_true q'] at h5; exact absurd h5 (by decide))
   | (simp at h5; lia)
 cases pk with
 | cons w1 w2 =>
  cases w2
  cases w1 with
  | list ho i8=>exact ⟨_,_,ns,Y,Y,ho,G0 ns _ i8,gc⟩
def Zg6 (l:OpenLaw) (args:List WData):l.row.toRowW.claim.post args (.bool true) args=true :=
 postW_of (r:=l.row.toRowW) (X:=(true == true))
  (show WShape.has [] (.bool true) .bool=true by first | rfl | decide | simp [WShape.has,WShape.arms,WShape.armsAll])
  (show (WTm.eq .res (.lit (.bool true))).value [] { args:=args,res:=some (.bool true),after:=args }=some (.bool (true == true)) from w_eq_bool (w_res rfl) w_lit) rfl
def attach_call {l:OpenLaw} {d:DefRec}
  (hn:l.most=some n) (wv:d.params.defaults=[])
  (call:∀ (w:World) (s₀ s₁:Shared) (mg mb:Str->Option Value) (fa:Addr) (o:Obj) (pm cd im:Value) (a:Addr) (vs:List Value) (ns:List Int),
   Ground q lx [] XP w s₀ mg mb s₁.heap->YP w s₁.heap ->
   s₁.heap.get? fa=some o->o.data=.func (docDef d.name d.params d.body d.scope pm cd im)->s₁.heap.CodeRec cd d.name->mg d.name=some (.ref fa) ->
   s₁.heap.get? a=some { cls:=.type "list",data:=.seq vs.toArray }->IntsAre vs ns->ns.length<=n->s₁.gens=#[] ->
   codeAny (model l.prog w) callerA (.call (.ref fa) ⟨[.ref a],[]⟩) (λr s'=>r=.ok (.ret (.bool true))/\OldK s₁.heap s'.heap/\s'.os=s₁.os/\AllBare s'.gens) s₁) :
  WalkO q lx XP YP l.row.toRowW d [] (λf vs=>PySem.call f vs):=by
 intro w s₀ s₁ mg mb G Qzj fa o pm cd im dV kV ho hd me hD hmg hg args xb as qe hlay hrd pk hlo;obtain rfl:dV=.none:=Dflts.none hD wv;obtain rfl:kV=.none:=Dflts.noKw hD;obtain ⟨a,vs,ns,rfl,rfl,tz,ol,gc⟩:=Zgr hn qe pk;refine enter_call (codeAny_mono (call w s₀ s₁ mg mb fa o pm cd im a vs ns G Qzj ho (fd_plain hd) me hmg tz ol gc hg) λr s' hq=>?_);obtain ⟨rfl,h2,h3,h4⟩:=hq;exact ⟨.inl ⟨.bool true,.bool true,[],Y,λ_=>rfl,.bool true,Zg6 l _,λ_=>⟨List.Pairwise.nil,λ_ hm=>(nomatch hm)⟩⟩,h2,h3,h4⟩
end Att
namespace L2
open PySem PySem.Spec PyProof.Rows
theorem Fv:∀ {vs:List Value} {ns:List Int},IntsAre vs ns->Vals (ns.map V.int) vs
 | _,_,.nil=>.nil
 | _,_,.cons n t h=>.cons ⟨t,rfl⟩ (Fv h)
def Only (H:Hp):Prop:=∀ b,H b=none\/∃ o xs,H b=some (.frz o (.lst xs))
def Zjw {K:W.Frag} {s₁:Shared} {vs:List Value} {ns:List Int}
  (KX:K.In s₁.heap) (r8:s₁.heap.Ns mainGlobals mg) (hb:s₁.heap.Ns builtinsNs mb) (hbb:∀ x:Str,x≠"__name__"->mb x=bootBuiltins x) (hlim:s₁.heap.NoLimit) (hg:s₁.gens=#[])
  (ha:s₁.heap.get? a=some { cls:=.type "list",data:=.seq vs.toArray }) (hi:IntsAre vs ns) (hl:ns.length<=sizeLine) (hr:Room k callerA)
  (F:∀ base:Heap,K.In base->base.Ns mainGlobals mg->FnOk P w K mg base CX k fa fd [x] sp) (yl:∀ (s:Shared) (u:Value),BindsTo s fd ⟨[u],[]⟩ [(x,u)])
  (jn:∀ H:Hp,Only H->SqL K H a (ns.map V.int)->sp [.ref a] H (λv _=>v=.bl true) λ_ _ _=>False)
  (hCX:∀ H e s',CX [] H s₁ (λ_ _ _=>False) e s'->False) :
  codeAny (model P w) callerA (.call (.ref fa) ⟨[.ref a],[]⟩) (λr s'=>r=.ok (.ret (.bool true))/\OldK s₁.heap s'.heap/\s'.os=s₁.os/\AllBare s'.gens) s₁:=by
 have rv:=Fv hi;have lenV:=hi.length
 have ya:∀ H:Hp,Only H->SqL K H a (ns.map V.int)->HOk P w H s₁.heap->(∀ b,H b≠none->b=a)->(H a≠none->K.lookup a=none) ->
   codeAny (model P w) callerA (.call (.ref fa) ⟨[.ref a],[]⟩) (λr s'=>r=.ok (.ret (.bool true))/\OldK s₁.heap s'.heap/\s'.os=s₁.os/\AllBare s'.gens) s₁:=by
  intro H hO hS hok hA hK;have lz:∀ {b:Addr} {o:Obj},s₁.heap.get? b=some o->H b=none->(hidT s₁.heap H).get? b=some o:=λe n=>Zjx e n
  have vt:∀ {b:Addr} {o:Obj} {es:Array DictEntry} {ep:Nat},s₁.heap.get? b=some o->o.data=.dict es ep->H b=none:=λ{b o es ep} e d=>by
   cases q:H b with
   | none=>rfl
   | some u =>
    have e':b=a:=hA b (by rw [q]; simp);subst e';rw [ha] at e; cases e;have d':Data.seq vs.toArray _=Data.dict es ep:=d;cases d'
  have y4:∀ {b:Addr} {m:Str->Option Value},s₁.heap.Ns b m->(hidT s₁.heap H).Ns b m:=λ{b m} ⟨o,es,ep,e,d,r⟩=>⟨o,es,ep,lz e (vt e d),d,r⟩
  have hKb:K.In (hidT s₁.heap H):=λb o e=>lz (KX b o e) (by
   cases q:H b with
   | none=>rfl
   | some u =>
    have e':b=a:=hA b (by rw [q]; simp);subst e'
    rw [hK (by rw [q]; simp)] at e; cases e)
  have hM:Mod K mg (hidT s₁.heap H):=⟨hKb,y4 r8,⟨mb,y4 hb,hbb⟩,let ⟨mc,h1,h2⟩:=hlim; ⟨mc,y4 h1,h2⟩⟩;have e0:Env0 P w K mg (hidT s₁.heap H) callerA [] s₁ H:=⟨rfl,hM,λb o e=>Zlt e,Nat.le_of_eq (Zh5 _ _),trivial,λb hb=>absurd (show b∈([]:List Addr) from hb) (by simp),hok,.of_eq hg⟩;refine codeAny_mono ((F _ hKb (y4 r8)).run callerA [] s₁ H ⟨[.ref a],[]⟩ [.ref a] [.ref a] _ _ hr e0 (yl s₁ (.ref a)) (.cons Y .nil) (jn H hO hS)) λr s' h=>?_
  cases r with
  | error e=>exact (hCX H e s' h).elim
  | ok fl =>
   cases fl with
   | next=>exact False.elim h
   | brk=>exact False.elim h
   | cont=>exact False.elim h
   | ret u =>
    obtain ⟨v,H',os,bare,un,hok',r',q⟩:=h;have q':v=.bl true:=q;subst q';obtain rfl:u=Value.bool true:=r';refine ⟨Y,OldK.of_keep λb o e=>?_,os,bare⟩
    cases q:H b with
    | none=>exact un.keep b o e q (by intro z; exact absurd (show b∈([]:List Addr) from z) (by simp)) (by simp)
    | some u =>
     rcases hO b with z | ⟨ob,xs,z⟩
     ·rw [q] at z; cases z
     ·have z2:=un.frzs b ob _ z
      obtain ⟨e1,_⟩:=hok b _ z;obtain ⟨e2,_⟩:=hok' b _ z2;rw [e] at e1; cases e1;exact e2
 cases hk:K.lookup a with
 | some o =>
  have e:=KX a o hk;rw [ha] at e;cases e;refine ya (λ_=>none) (λ_=>.inl Y) (.inr ⟨_,vs.toArray,_,hk,Y,Y,Y,by rw [Aq,lenV]; exact hl,by simpa using rv⟩) (λb u z=>by have z':(none:Option HO)=some u:=z; cases z') (λb z=>absurd rfl z) λz=>absurd rfl z
 | none =>
  refine ya (λb=>if b=a then some (.frz { cls:=.type "list",data:=.seq vs.toArray } (.lst (ns.map V.int))) else none) (λb=>?_) (.inl (.inr ⟨{ cls:=.type "list",data:=.seq vs.toArray },if_pos rfl⟩)) (λb u z=>?_) (λb z=>?_) λ_=>hk
  ·by_cases hb:b=a
   ·exact .inr ⟨_,_,if_pos hb⟩
   ·exact .inl (if_neg hb)
  ·by_cases hb:b=a
   ·have z':=(if_pos hb).symm.trans z
    cases z';subst hb;exact ⟨ha,by rw [Ab]; exact hl,vs,_,rv,ha⟩
   ·have z':=(if_neg hb).symm.trans z
    cases z'
  ·by_cases hb:b=a
   ·exact hb
   ·exact absurd (if_neg hb) z
abbrev KOf {K:W.Frag} {h:Heap} (_:K.In h):PySem.W.Frag:=K
def Zkt {l:PySem.W.OpenLaw} {d:DefRec} {K:Params->PySem.W.Frag} {CX:World->CXT} {sp:World->Sp} {x:Str}
  (hn:l.most=some n) (uu:n<=sizeLine) (wv:d.params.defaults=[]) (hr:Room k callerA)
  (hY:∀ (w:World) (h:Heap),YP w h->(K w.params).In h)
  (F:∀ (w:World) (mg:Str->Option Value) (fa:Addr) (h:Heap),(K w.params).In h->h.Ns mainGlobals mg->mg d.name=some (.ref fa) ->
   ∃ fd:FuncData,(∀ (s:Shared) (u:Value),BindsTo s fd ⟨[u],[]⟩ [(x,u)]) /\
    ∀ base:Heap,(K w.params).In base->base.Ns mainGlobals mg->FnOk l.prog w (K w.params) mg base (CX w) k fa fd [x] (sp w))
  (jn:∀ (w:World) (H:Hp) (a:Addr) (ns:List Int),ns.length<=n->Only H->SqL (K w.params) H a (ns.map V.int)->sp w [.ref a] H (λv _=>v=.bl true) λ_ _ _=>False)
  (hCX:∀ (w:World) (H:Hp) (s:Shared) (e:Value) (s':Shared),CX w [] H s (λ_ _ _=>False) e s'->False) :
  PySem.W.WalkO q lx XP YP l.row.toRowW d [] (λf vs=>PySem.call f vs):=by
 refine Att.attach_call hn wv λw s₀ s₁ mg mb fa o pm cd im a vs ns G Qzj ho hd me hmg tz ol gc hg=>?_;have KX:=hY w _ Qzj;obtain ⟨fd,hb,hF⟩:=F w mg fa _ KX G.T.g hmg;exact Zjw KX G.T.g G.T.b G.T.builtins G.T.nolimit hg tz ol (Nat.le_trans gc uu) hr hF hb (λH hO hS=>jn w H a ns gc hO hS) λH e s'=>hCX w H s₁ e s'
def Wa (s:Stmt) (j:Nat):Stmt:=match s with
 | .ClassDef _ _ _ body _ _ _ _ _ _ _=>body.getD j (.Pass ⟨0,0,0,0⟩)
 | _=>.Pass ⟨0,0,0,0⟩
def Xi (s:Stmt):Arguments:=match s with
 | .FunctionDef _ a _ _ _ _ _ _ _ _=>a
 | _=>{ posonlyargs:=[],args:=[],vararg:=none,kwonlyargs:=[],kw_defaults:=[],kwarg:=none,defaults:=[] }
def Yq (s:Stmt):List Stmt:=match s with
 | .FunctionDef _ _ b _ _ _ _ _ _ _=>b
 | _=>[]
def Zh (s:Stmt):Scope:=match s with
 | .FunctionDef _ _ _ _ _ _ sc _ _ _=>sc
 | _=>{ kind:=.function,names:=[],isGenerator:=false,isCoroutine:=false }
abbrev E0:XK:=λ_ _ _=>False
structure Fun (K:W.Frag) (x qual:Str) (st:Stmt) (f:Addr) (fd:FuncData):Prop where
 ex:∃ (oc:Value) (od:Option Addr) (kV im pm:Value) (an:Option Addr) (ij ct:Value) (ph:Array (Option Value)),
  fd=PySem.W.fnOf x qual (Xi st) (Yq st) (Zh st) .none kV im pm an ij ct/\K.lookup f=some ⟨oc,od,.func fd,ph⟩/\PySem.W.codeIn K ij qual=true
 kp:PySem.W.keepIn K (.ref f)=true
section
variable {P:Program} {w:World} {K:W.Frag} {mg:Str->Option Value} {base:Heap}
def Fun.binds {x qual:Str} {st:Stmt} {f:Addr} {fd:FuncData} {ps:List Str} (F:Fun K x qual st f fd)
  (h:∀ (kV im pm:Value) (an:Option Addr) (ij ct:Value) (us:List Value),us.length=ps.length->bindArgs (PySem.W.fnOf x qual (Xi st) (Yq st) (Zh st) .none kV im pm an ij ct) ⟨us,[]⟩=pure (ps.zip us)):Wc K fd ps []:=by
 obtain ⟨oc,od,kV,im,pm,an,ij,ct,ph,rfl,lk,me⟩:=F.ex;exact .all (h kV im pm an ij ct)
def G1 {x qual:Str} {st:Stmt} {f:Addr} {oc:Value} {od an:Option Addr} {ph:Array (Option Value)} {kV im pm ij ct:Value} (l:K.lookup f=some ⟨oc,od,.func (PySem.W.fnOf x qual (Xi st) (Yq st) (Zh st) .none kV im pm an ij ct),ph⟩)
  (c:PySem.W.codeIn K ij qual=true) (k:PySem.W.keepIn K (.ref f)=true):Fun K x qual st f (PySem.W.fnOf x qual (Xi st) (Yq st) (Zh st) .none kV im pm an ij ct):=⟨⟨oc,od,kV,im,pm,an,ij,ct,ph,rfl,l,c⟩,k⟩
end
def J3 {A:Around} (hr:Room k A):A.units + 1 < cLine:=Nat.lt_of_le_of_lt (Nat.add_le_add_left (by decide:1<=64) _) hr.units
def Zx {n:Nat} (h:n<=1000):n < sizeLine:=Nat.lt_of_le_of_lt h (by decide)
section
variable {X:Cx}
def pv (i:Nat) (hN:X.N[i]?=some x:=by rfl) (hv:Vis X.env.scope x:=by first | exact Or.inl rfl | exact Or.inr (Or.inl rfl) | exact Or.inr (Or.inr rfl)) (hd:(x == ("__debug__":Str))=false:=by decide)
  (me:(x == ("__classdict__":Str))=false:=by decide):PE X (.Name x pos) (tVar i):=Znf hN hv hd me
end
def iteF {A B:Prop} (h:B):if false=true then A else B:=by
 rw [if_neg Bool.false_ne_true];exact h
def iteT {A B:Prop} (h:A):if true=true then A else B:=by
 rw [if_pos rfl];exact h
def ite2 {A B:Prop} [Decidable c] (h1:c->A) (h2:¬ c->B):if c then A else B:=by
 by_cases h:c
 ·rw [if_pos h]
  exact h1 h
 ·rw [if_neg h]
  exact h2 h
def Same (H H':Hp):Prop:=∀ b o,H b=some o->H' b=some o
def Same.refl (H:Hp):Same H H:=λ_ _ h=>h
def Same.trans (a:Same H H1) (b:Same H1 H2):Same H H2:=λc o h=>b c o (a c o h)
def Same.free {H H':Hp} (e:Same H H') {l:Addr} (h:H' l=Option.none):H l=Option.none:=by
 cases q:H l with
 | none=>rfl
 | some o =>
  rw [e l o q] at h;cases h
def Same.seq {K:W.Frag} {H H':Hp} {a:Addr} {xs:List V} (e:Same H H') (h:SqL K H a xs):SqL K H' a xs:=by
 rcases h with (h | ⟨o,h⟩) | h
 ·exact .inl (.inl (e _ _ h))
 ·exact .inl (.inr ⟨o,e _ _ h⟩)
 ·exact .inr h
def Ym (env:Env):List (Str × NameKind)->List (Str × Addr)->List (Str × Addr)
 | [],gj=>gj
 | (n,k) :: r,gj=>if (k == NameKind.free)=true then (match env.cells.lookup n with
  | some c=>Ym env r ((n,c) :: gj)
  | none=>Ym env r gj) else Ym env r gj
theorem Wy {env:Env}:∀ (ns:List (Str × NameKind)) (gj:List (Str × Addr)),(∀ x c,gj.lookup x=some c->env.cells.lookup x=some c) ->
  ∀ x c,(Ym env ns gj).lookup x=some c->env.cells.lookup x=some c
 | [],gj,h=>h
 | (n,k) :: r,gj,h=>by
  unfold Ym;split
  ·cases e:env.cells.lookup n with
   | none=>exact Wy r gj h
   | some c =>
    refine Wy r _ λx d hx=>?_;rw [List.lookup_cons] at hx
    cases hb:x == n with
    | true =>
     rw [hb] at hx;cases hx;rw [beq_iff_eq.mp hb];exact e
    | false =>
     rw [hb] at hx;exact h x d hx
  ·exact Wy r gj h
theorem Wz:∀ (ns:List (Str × NameKind)) (gj:List (Str × Addr)) (x:Str),(∃ c,gj.lookup x=some c)->∃ c,(Ym env ns gj).lookup x=some c
 | [],gj,x,h=>h
 | (n,k) :: r,gj,x,h=>by
  unfold Ym;split
  ·cases e:env.cells.lookup n with
   | none=>exact Wz r gj x h
   | some c =>
    refine Wz r _ x ?_;rw [List.lookup_cons]
    cases hb:x == n with
    | true=>exact ⟨c,Y⟩
    | false=>exact h
  ·exact Wz r gj x h
theorem J4 {env:Env}:∀ (ns:List (Str × NameKind)) (gj:List (Str × Addr)) (x:Str),(x,NameKind.free)∈ns->(∃ c,env.cells.lookup x=some c)->∃ c,(Ym env ns gj).lookup x=some c
 | [],gj,x,h,_=>by cases h
 | (n,k) :: r,gj,x,h,hc=>by
  rcases Ar h with e | h
  ·cases e
   obtain ⟨c,hc⟩:=hc;unfold Ym;rw [if_pos (show (NameKind.free == NameKind.free)=true by decide),hc];exact Wz r _ n ⟨c,by rw [List.lookup_cons,beq_self_eq_true]⟩
  ·unfold Ym
   split
   ·cases e:env.cells.lookup n with
    | none=>exact J4 r gj x h hc
    | some c=>exact J4 r _ x h hc
   ·exact J4 r gj x h hc
theorem Uq {env:Env} (f:Str × NameKind->List (Str × Addr)->Sem (ForInStep (List (Str × Addr))))
  (hf:∀ name kind cs,f (name,kind) cs=if (kind == NameKind.free)=true then (do let a <- cellOf env name; pure (.yield ((name,a) :: cs))) else pure (.yield cs)) :
  ∀ (ns:List (Str × NameKind)) (gj:List (Str × Addr)),(∀ y∈ns,y.2=.free->∃ c,env.cells.lookup y.1=some c)->forIn ns gj f=pure (Ym env ns gj)
 | [],gj,_=>by rw [List.forIn_nil]; rfl
 | (n,k) :: r,gj,h=>by
  rw [List.forIn_cons,hf];unfold Ym;have hr:∀ y∈r,y.2=.free->∃ c,env.cells.lookup y.1=some c:=λy hy=>h y (List.mem_cons_of_mem _ hy);split
  ·rename_i hk
   obtain ⟨c,hc⟩:=h (n,k) List.mem_cons_self (by simpa using hk);have j4:env.cells.lookup n=some c:=hc;have e:cellOf env n=pure c:=by unfold cellOf; rw [j4]
   rw [e,j4];exact Uq f hf r ((n,c) :: gj) hr
  ·exact Uq f hf r gj hr
def Kk {env:Env} {scope:Scope} (h:∀ y∈scope.names,y.2=.free->∃ c,env.cells.lookup y.1=some c):closureFor scope env=pure (Ym env scope.names []):=by
 unfold closureFor;dsimp only;rw [Uq (env:=env) _ (λname kind cs=>by split <;> rfl) scope.names [] h];rfl
theorem Jp (env:Env):∀ (names:List (Str × NameKind)) (x:Str),
  (names.map λ(n,k)=>if (k == NameKind.free && env.scope.kind == .function && env.kindOf n == some .cell) then (n,NameKind.cell) else (n,k)).lookup x =
   (names.lookup x).map λk=>if (k == NameKind.free && env.scope.kind == .function && env.kindOf x == some .cell)=true then NameKind.cell else k
 | [],_=>rfl
 | (n,k) :: r,x=>by
  have ih:=Jp env r x;have e:(if (k == NameKind.free && env.scope.kind == .function && env.kindOf n == some .cell)=true then (n,NameKind.cell) else (n,k))=(n,if (k == NameKind.free && env.scope.kind == .function && env.kindOf n == some .cell)=true then NameKind.cell else k):=by split <;> rfl
  show List.lookup x ((if (k == NameKind.free && env.scope.kind == .function && env.kindOf n == some .cell)=true then (n,NameKind.cell) else (n,k)) :: _)=_;rw [e,List.lookup_cons,List.lookup_cons]
  cases hx:x == n with
  | true =>
   have e2:x=n:=beq_iff_eq.mp hx;subst e2;rfl
  | false=>exact ih
def Oe {env:Env} {names:List (Str × NameKind)} (hc:∀ y∈names,y.2≠.cell)
  (h:(names.map λ(n,k)=>if (k == NameKind.free && env.scope.kind == .function && env.kindOf n == some .cell) then (n,NameKind.cell) else (n,k)).lookup x=some k) (hk:k=.cell\/k=.free):names.lookup x=some .free:=by
 rw [Jp] at h
 cases e:names.lookup x with
 | none=>rw [e] at h; cases h
 | some k' =>
  rw [e] at h;have js:k'≠.cell:=hc _ (PySem.mem_of_lookup e);have h':(if (k' == NameKind.free && env.scope.kind == .function && env.kindOf x == some .cell)=true then NameKind.cell else k')=k:=Ax h;split at h'
  ·rename_i q
   simp only [Bool.and_eq_true,beq_iff_eq] at q;rw [q.1.1]
  ·subst h'
   rcases hk with z | z
   ·exact absurd z js
   ·rw [z]
def Gh {env:Env} {names:List (Str × NameKind)} (h:names.lookup x=some .free) :
  (names.map λ(n,k)=>if (k == NameKind.free && env.scope.kind == .function && env.kindOf n == some .cell) then (n,NameKind.cell) else (n,k)).lookup x≠some .local:=by
 rw [Jp,h];intro z;have z':(if (NameKind.free == NameKind.free && env.scope.kind == .function && env.kindOf x == some .cell)=true then NameKind.cell else NameKind.free)=.local:=Ax z;split at z' <;> cases z'
def Y3 (X:Cx) (N':List Str) (scope:Scope) (C:Addr) (s₀:Shared) (H₀:Hp) (ex:List Addr):Cx :=
 { X with N:=N',s₀:=s₀,H₀:=H₀,env:=compEnvC scope (Ym X.env scope.names []) C X.env,outer:=X.stack,ex:=ex,fn:=λ_=>false,pn:=[],xe:=λ_ _=>False }
def FvOk (X:Cx) (scope:Scope):List (Str × Nat)->Prop
 | []=>True
 | (x,j) :: r=>(X.N[j]?=some x/\scope.names.lookup x=some .free/\(X.env.kindOf x=some .cell\/X.env.kindOf x=some .free))/\FvOk X scope r
theorem FvOk.mem {X:Cx} {scope:Scope}:∀ {l:List (Str × Nat)},FvOk X scope l->∀ y∈l,X.N[y.2]?=some y.1/\scope.names.lookup y.1=some .free/\(X.env.kindOf y.1=some .cell\/X.env.kindOf y.1=some .free)
 | [],_,_,h=>by cases h
 | (x,j) :: r,h,y,hy=>by
  rcases Ar hy with e | hy
  ·cases e; exact h.1
  ·exact FvOk.mem h.2 y hy
def blkN (ts:List Str) (fv:List (Str × Nat)):List Str:=ts ++ fv.map (·.1)
def blkS (ts:List Str) (fv:List (Str × Nat)) (σ:St):St:=ts.map (λ_=>none) ++ fv.map λy=>(σ[y.2]?).join
structure BlkOk (X:Cx) (scope:Scope) (fv:List (Str × Nat)):Prop where
 kind:scope.kind=.function
 nocell:∀ y∈scope.names,y.2≠.cell
 names:∀ y∈scope.names,y.2=.local->scope.names.lookup y.1=some .local
 free:∀ y∈scope.names,y.2=.free->X.env.kindOf y.1=some .cell\/X.env.kindOf y.1=some .free
 fvs:FvOk X scope fv
section
variable {X:Cx} {f8:List (Addr × Obj)} {σ:St} {H:Hp} {s:Shared} {scope:Scope} {ts:List Str} {fv:List (Str × Nat)}
def Zim {h':Heap} {tk:Nat} (B:BlkOk X scope fv) (I:Inv X f8 σ H s) (hf:∀ b∈fp,FpOk X f8 H b) (ho:∀ b∈fp,∃ o,s.heap.get? b=some o)
  (hn:h'.Ns s.heap.objs.size (λ_=>none)) (hk:∀ b o,s.heap.get? b=some o->h'.get? b=some o) :
  Inv (Y3 X (blkN ts fv) scope s.heap.objs.size s H fp) [] (blkS ts fv σ) H { s with heap:=h',toks:=tk }:=by
 have has:∀ y∈scope.names,y.2=.free->∃ c,X.env.cells.lookup y.1=some c:=λy hy e=>I.ok.has y.1 (B.free y hy e);have snd:∀ x c,(Ym X.env scope.names []).lookup x=some c->X.env.cells.lookup x=some c:=Wy _ _ (λx c h=>by simp at h);have fr:∀ x,(scope.names.lookup x=some .free)->∃ c,(Ym X.env scope.names []).lookup x=some c:=λx hx =>
  J4 _ _ x (PySem.mem_of_lookup hx) (has _ (PySem.mem_of_lookup hx) rfl)
 have nfs:∀ b∈fp,b ∉ frs X.stack:=λb hb z=>by
  obtain ⟨_,h1,h2,_⟩:=hf b hb
  rcases Ar (I.stkSub b z) with e | e
  ·exact h1 e
  ·exact h2 e
 have lt:∀ b∈fp,b < s.heap.objs.size:=λb hb=>let ⟨o,e⟩:=ho b hb; Ao e
 refine ⟨⟨I.ok.mod,?_,I.ok.glob,I.ok.blt,An _,λx y c h1 h2=>I.ok.inj x y c (snd x c h1) (snd y c h2),λx hx=>?_,λ_ _ h=>absurd (show false=true from h) Bool.false_ne_true,I.ok.hd,I.ok.frames,.inl Y,λb hb=>⟨As (lt b hb),λx c e=>(hf b hb).2.2.2.2.1 x c (snd x c e)⟩,I.bs,Nat.le_trans I.ok.bsz I.sz,λb o e hb=>?_,nfs,I.stack,I.stkFree⟩,
  rfl,I.bare,Un.kept hk,⟨_,hn,λi x v h1 h2 h3=>?_⟩,λx c e=>?_,I.fresh,λx c e=>I.freeC x c (snd x c e),λp hp=>?_,I.hok.kept hk,?_⟩
 ·exact B.kind
 ·refine fr x ?_
  have jy:(relabel scope X.env).names.lookup x=some .cell\/(relabel scope X.env).names.lookup x=some .free:=hx
  rcases jy with e | e
  ·exact Oe B.nocell e (.inl Y)
  ·exact Oe B.nocell e (.inr Y)
 ·rcases (hf b hb).2.2.2.1 with z | z
  ·exact I.ok.noex b o e z
  ·exact absurd (Ag (Ao e) (Nat.le_trans I.ok.bsz z)) (Nat.lt_irrefl _)
 ·have h1:(ts ++ fv.map (·.1))[i]?=some x:=h1
  have h2:(ts.map (λ_=>(none:Option V)) ++ fv.map λy=>(σ[y.2]?).join)[i]?=some (some v):=h2;by_cases hi:i < ts.length
  ·rw [Av (by simpa using hi),Ah] at h2
   cases e:ts[i]? with
   | none=>rw [e] at h2; cases h2
   | some z=>rw [e] at h2; cases h2
  ·rw [List.getElem?_append_right (by simpa using hi),Ab,Ah] at h2
   rw [List.getElem?_append_right (by simpa using hi),Ah] at h1
   cases e:fv[i - ts.length]? with
   | none=>rw [e] at h2; cases h2
   | some y =>
    rw [e] at h1 h2;have e1:y.1=x:=by simpa using h1
    have e2:(σ[y.2]?).join=some v:=by simpa using h2
    obtain ⟨f1,f2,f3⟩:=B.fvs.mem y (Au e)
    have e3:σ[y.2]?=some (some v):=by
     cases q:σ[y.2]? with
     | none=>rw [q] at e2; cases e2
     | some z=>rw [q] at e2; exact congrArg some e2
    obtain ⟨m,hm,hl⟩:=I.loc;obtain ⟨u,r,l⟩:=hl y.2 y.1 v f1 e3 (by rcases f3 with z | z; exact .inr (.inl z); exact .inr (.inr z));rw [e1] at f2 f3 l;refine ⟨u,r,?_⟩;obtain ⟨c,hc⟩:=fr x f2;have j4:=snd x c hc
    rcases l with ⟨l1,_⟩ | ⟨_,c2,l2,l3⟩
    ·rcases f3 with z | z
     ·rw [l1] at z; cases z
     ·rw [l1] at z; cases z
    ·rw [j4] at l2
     cases l2;have hv:Vis (relabel scope X.env) x:=h3
     rcases hv with z | z | z
     ·exfalso
      exact Gh f2 z
     ·exact .inr ⟨.inl z,c,hc,l3.keeps hk⟩
     ·exact .inr ⟨.inr z,c,hc,l3.keeps hk⟩
 ·obtain ⟨v,z⟩:=I.cell x c (snd x c e)
  exact ⟨v,z.keeps hk⟩
 ·exact absurd (show p∈([]:List (Addr × Obj)) from hp) (by simp)
 ·show (ts.map (λ_=>(none:Option V)) ++ fv.map λy=>(σ[y.2]?).join).length=(ts ++ fv.map (·.1)).length
  simp
def Inv.apart (I:Inv X f8 σ H s) (hs:Heap.SameBut C s.heap h') (hC:H C=none) (h0:X.s₀.heap.objs.size<=C) (hL:C≠X.env.locals) (hc:∀ x c,X.env.cells.lookup x=some c->c≠C) (hp:∀ p∈X.pn ++ f8,p.1≠C) :
  Inv X f8 σ H { s with heap:=h' } :=
 I.turned (t':=s.toks) (it:=C) (λb o hb e=>(hs.2 b hb).trans e) hC hL (.inr h0) hc hp
def Zmf (I:Inv X f8 σ H s) (hf:∀ b∈fp,FpOk X f8 H b) (hC:s.heap.objs.size<=C)
  (J:Inv (Y3 X N' scope C s H fp) [] σ' H' s'):Inv X f8 σ H' s'/\H' C=none/\X.s₀.heap.objs.size<=C/\C≠X.env.locals/\(∀ x c,X.env.cells.lookup x=some c->c≠C)/\(∀ p∈X.pn ++ f8,p.1≠C):=by
 refine ⟨I.call' J.os J.base J.hok J.bare λb hb=>?_,J.free,Nat.le_trans I.sz hC,Nat.ne_of_gt (Ag I.lt hC),λx c e z=>?_,λp hp z=>?_⟩
 ·obtain ⟨_,h1,_,h3,h4,h5⟩:=hf b hb
  exact ⟨h3,h1,h4,h5⟩
 ·obtain ⟨v,q⟩:=I.cell x c e
  exact absurd (Ag q.lt (by rw [z]; exact hC)) (Nat.lt_irrefl _)
 ·exact absurd (Ag (Ao (I.pin p hp).1) (by rw [z]; exact hC)) (Nat.lt_irrefl _)
end
abbrev TB:=St->Hp->(St->Hp->Prop)->Prop
def PTs (X:Cx) (ifs:List Expr) (t:TT):Prop :=
 ∀ (f8:List (Addr × Obj)) (s:Shared) (σ:St) (H:Hp) (Q:Bool->Hp->Prop),Inv X f8 σ H s->t σ H Q ->
  wpAny (model X.prog X.w) X.A (forIn ifs true λc r=>if r=true then do let ok <- isTrue c X.env (eval c X.env); pure (ForInStep.yield ok) else pure (ForInStep.yield r)) (TP X f8 σ Q) X.xe s
def tYes:TT:=λ_ H Q=>Q true H
def Yb:PTs X [] tYes:=λf8 s σ H Q I h=>wpAny_tests_nil ⟨H,I,h⟩
def Fk (h:PT X c t):PTs X [c] t:=λf8 s σ H Q I hq=>wpAny_tests_one (h f8 s σ H Q I hq)
def PB (X:Cx) (jr:Sem Fin) (c:Code) (t:TB):Prop :=
 ∀ (f8:List (Addr × Obj)) (s:Shared) (σ:St) (H:Hp) (N:St->Hp->Prop),Inv X f8 σ H s->t σ H N ->
  wpAny (model X.prog X.w) X.A jr (λik s'=>ik=.again c/\∃ σ' H',Inv X f8 σ' H' s'/\N σ' H') X.xe s
def Wo (J:It) (g:TG) (tt:TT) (tb:TB) (R:St->Hp->Prop) (σ:St) (H:Hp):Prop :=
 ∃ W:Nat->Nat->St->Hp->Prop,(∃ m,W 0 m σ H)/\∀ i m σ H,W i m σ H ->
  (J.stop i H/\R σ H)\/(J.go i H/\∃ N:St->Hp->Prop,(∀ σ' H',N σ' H'->∃ m',m' < m/\W (i + 1) m' σ' H') /\
   ∀ x H',J.yld i H x H'->g x σ H' λσ2 H2=>tt σ2 H2 λb H3=>if b=true then tb σ2 H3 N else N σ2 H3)
section
variable {X:Cx}
theorem Zah {s:Shared} (rn:X.xe=λ_ _=>False)
  (hcq:Code.quiet (.compLoop e d (.ref it) gj X.env)=true) (hden:(model X.prog X.w).den (.compLoop e d (.ref it) gj X.env)=(compTurn e d (.ref it) gj X.env).onRaise (λx=>do noteFrame x X.env; theTreesLotGoes x))
  (hund:X.A.under (.compLoop e d (.ref it) gj X.env)=X.A)
  (nu:compTurn e d (.ref it) gj X.env=(standAt p >>= λ_=>pyNext (.ref it) >>= λr=>match r with
   | none=>pure (.done .next)
   | some v=>letOwnedTupleGo tg (.ref it) v >>= λ_=>assign tg X.env v >>= λ_ =>
    (forIn ifs true λc r=>if r=true then do let ok <- isTrue c X.env (eval c X.env); pure (ForInStep.yield ok) else pure (ForInStep.yield r)) >>= λok =>
     if ok=true then jr else again (.compLoop e d (.ref it) gj X.env)))
  (T:Turn X.prog X.w X.K tg J fp it tn) (hc:X.calm=true) (hg:PG X tg g) (ht:PTs X ifs tt) (hb:PB X jr (.compLoop e d (.ref it) gj X.env) tb)
  (hf:∀ b∈fp,FpOk X f8 H b) (I:Inv X f8 σ H s) (st:tn 0 s.heap) (h:Wo J g tt tb R σ H)
  (hR:∀ s' σ' H',Inv X f8 σ' H' s'->R σ' H'->RR (.ok .next) s') :
  codeAny (model X.prog X.w) X.A (.compLoop e d (.ref it) gj X.env) RR s:=by
 obtain ⟨W,⟨m0,w0⟩,turn⟩:=h;have kr:∀ {H':Hp},(∀ b∈fp,H' b=none)->∀ b∈fp,FpOk X f8 H' b:=λhn b hb=>⟨hn b hb,(hf b hb).2⟩;refine codeAny_loop hcq (λn s'=>∃ i σ' H',Inv X f8 σ' H' s'/\tn i s'.heap/\(∀ b∈fp,H' b=none)/\W i n σ' H') ?_ m0 ⟨0,σ,H,I,st,λb hb=>(hf b hb).1,w0⟩;rintro n s3 ⟨i,σ3,H3,I3,k8,w6,w3⟩;rw [hden,hund];refine wpAny_noted (wpAny_mono (E:=λ_ _=>False) ?_ (λ_ _ q=>q) λ_ _ z=>z.elim);rw [nu];have hxe':∀ {α:Type} {t:Sem α} {Q:α->Shared->Prop} {s:Shared},wpAny (model X.prog X.w) X.A t Q X.xe s->wpAny (model X.prog X.w) X.A t Q (λ_ _=>False) s:=λh=>by rw [rn] at h; exact h
 refine Al (wpAny_standAt (Al ?_))
 rcases turn i n σ3 H3 w3 with ⟨stop,qn⟩ | ⟨go,N,hN,step⟩
 ·refine thn (T.done X rfl rfl rfl hc i f8 s3 σ3 H3 _ I3 (kr w6) k8 stop) λr s4 ⟨hr,I4⟩=>?_
  subst hr;exact wpAny_pure (hR s4 σ3 H3 I4 qn)
 ·refine thn (T.item X rfl rfl rfl hc i f8 s3 σ3 H3 _ I3 (kr w6) k8 go) λr s4 ⟨u,hr,h4⟩=>?_
  subst hr;refine Al (thn h4 λ_ s5 gk=>?_);obtain ⟨x,H5,I5,r5,y5,l6,fr5⟩:=gk;have I5':=I5.pinned (kr fr5) (T.obj _ _ l6);refine Al (hxe' (thn (hg _ s5 σ3 H5 x u _ I5' r5 (step x H5 y5)) λ_ s6 gk=>?_));obtain ⟨σ6,H6,I6,q6⟩:=gk;refine Al (rn ▸ thn (ht _ s6 σ6 H6 _ I6 q6) λok s7 gk=>?_);obtain ⟨H7,I7,q7⟩:=gk;have back:∀ {σ7:St} {H7:Hp} {s7:Shared},Inv X (f8 ++ Of fp s5.heap) σ7 H7 s7->N σ7 H7->∃ m,m < n/\∃ i σ' H',Inv X f8 σ' H' s7/\tn i s7.heap/\(∀ b∈fp,H' b=none)/\W i m σ' H':=λ{σ7 H7 s7} I7 n7=>by
   obtain ⟨m',hm,w7⟩:=hN σ7 H7 n7
   refine ⟨m',hm,i + 1,σ7,H7,I7.unpinned,T.keep _ _ _ l6 λb hb o e=>(I7.pin (b,o) (List.mem_append_right _ (List.mem_append_right _ (Qn hb e)))).1,λb hb=>?_,w7⟩
   obtain ⟨o,e,d⟩:=T.obj _ _ l6 b hb
   exact (I7.pin (b,o) (List.mem_append_right _ (List.mem_append_right _ (Qn hb e)))).2.1
  cases ok with
  | false=>exact rn ▸ wpAny_pure ⟨Y,back I7 q7⟩
  | true =>
   refine thn (hb _ s7 σ6 H7 N I7 q7) λik s8 gk=>?_;obtain ⟨hfin,σ8,H8,I8,q8⟩:=gk;subst hfin;exact ⟨Y,back I8 q8⟩
end
def Zfa (te:TE) (D:Addr):TB:=λσ H N=>te σ H λv H1=>∃ xs,H1 D=some (.lst xs)/\xs.length < sizeLine/\N σ (upd H1 D (.lst (xs ++ [v])))
section
variable {X:Cx}
def Ye (he:PE X jd te) :
  PB X ((eval jd X.env >>= λx=>call (.builtin "list.append") [.ref D,x] >>= λ_=>pure ()) >>= λ_=>again c) c (Zfa te D):=by
 intro f8 s σ H N I h;refine Al (Al (thn (he f8 s σ H _ I h) λu s1 gk=>?_));obtain ⟨v,H1,I1,r1,q1⟩:=gk;obtain ⟨xs,hD,hl,q⟩:=q1;refine Al (thn (Y7 f8 s1 σ H1 (.ref D) [v] (.ref D) [u] (λ_ H2=>N σ H2) I1 Y (.cons r1 .nil) ⟨D,xs,v,Y,Y,hD,hl,q⟩) λ_ s2 gk=>?_);obtain ⟨_,H2,I2,_,q2⟩:=gk;exact wpAny_pure (wpAny_pure ⟨Y,σ,H2,I2,q2⟩)
def tGen (wi:TI) (g:TG) (tt:TT) (tb:TB):TB:=λσ H N=>wi σ H λJ H1=>Wo J g tt tb N σ H1
def Zf5 {t0 i0:Expr} {f0:List Expr} {t1 i1:Expr} {f1:List Expr}
  (h0:codeAny (model prog w) A (.compLoop (.ListComp jd [⟨t0,i0,f0,0⟩,⟨t1,i1,f1,0⟩] scope pos) 1 it gj env) R s)
  (h:wpAny (model prog w) A (pyIter it) (λit' s'=>codeAny (model prog w) A (.compLoop (.ListComp jd [⟨t0,i0,f0,0⟩,⟨t1,i1,f1,0⟩] scope pos) 1 it' gj env) R s')
   (notedBy (model prog w) A env λx s'=>R (.error x) s') s) :
  codeAny (model prog w) A (.compStart (.ListComp jd [⟨t0,i0,f0,0⟩,⟨t1,i1,f1,0⟩] scope pos) 1 it gj env) R s:=by
 refine codeAny_of_tree ?_;show wpAny _ _ ((compStart (.ListComp jd [⟨t0,i0,f0,0⟩,⟨t1,i1,f1,0⟩] scope pos) 1 it gj env).onRaise (λx=>do noteFrame x env; standAt theWindowsPlace)) _ _ s;refine wpAny_notedAt ?_;unfold compStart;show wpAny _ _ (ask >>= _) _ _ s;refine Al (wpAny_askSetting (wpAny_ite ?_));split
 ·first
   | exact Al (wpAny_pure (wpAny_pure (And.intro Y h0)))
   | exact wpAny_pure (And.intro Y h0)
 ·first
   | exact Al (wpAny_rule (Al (wpAny_standAt (Al (wpAny_mono h (λit' s' h'=>wpAny_pure (And.intro Y h')) λ_ _ x=>x)))))
   | (refine Al (wpAny_rule ?_); show wpAny _ _ (standAt i1.pos >>= _) _ _ s; exact Al (wpAny_standAt (Al (wpAny_mono h (λit' s' h'=>wpAny_pure (And.intro Y h')) λ_ _ x=>x))))
def Zcl {t0 i0 i1:Expr} {f0:List Expr} (rn:X.xe=λ_ _=>False) (hc:X.calm=true)
  (hi:PI X t1 i1 wi) (hg:PG X t1 g) (ht:PTs X f1 tt) (he:PE X jd te) (hs:∀ x,foldedSetIterable i1 X.env x=pure x:=by intro _; rfl) :
  PB X (eval i1 X.env >>= λx=>standAt i1.pos >>= λ_=>foldedSetIterable i1 X.env x >>= λx=>holding [x] (pyIter x) >>= λit =>
   runOwn (.compStart (.ListComp jd [⟨t0,i0,f0,0⟩,⟨t1,i1,f1,0⟩] scope pos) 1 it (.ref D) X.env) X.env >>= λ_=>again c) c (tGen wi g tt (Zfa te D)):=by
 intro f8 s σ H N I h;refine Al (thn (hi f8 s σ H _ I h) λv s1 h1=>Al (wpAny_standAt ?_));rw [hs];refine Al (wpAny_pure (Al (wpAny_holding (thn h1 λy7 s2 h2=>?_))));obtain ⟨it,fp,tn,J,H2,e,I2,T,ii,f2,L⟩:=h2;subst e;have loop:∀ (A:Around),A=X.A->codeAny (model X.prog X.w) A (.compLoop (.ListComp jd [⟨t0,i0,f0,0⟩,⟨t1,i1,f1,0⟩] scope pos) 1 (.ref it) (.ref D) X.env)
   (λr s'=>match r with | .ok f=>wpAny (model X.prog X.w) X.A (again c) (λik s'=>ik=.again c/\∃ σ' H',Inv X f8 σ' H' s'/\N σ' H') X.xe s' | .error e=>cameBackBy (model X.prog X.w) X.A X.env X.xe e s') s2:=by
  rintro A rfl
  exact Zah (tg:=t1) (ifs:=f1) (R:=N) rn Y Y Y Y T hc hg ht (Ye (c:=.compLoop (.ListComp jd [⟨t0,i0,f0,0⟩,⟨t1,i1,f1,0⟩] scope pos) 1 (.ref it) (.ref D) X.env) he) f2 I2 ii L λs' σ' H' I' q=>wpAny_pure ⟨Y,σ',H',I',q⟩
 refine Al (wpAny_runOwn (h:=none) ?_);exact Zf5 (loop _ Y) (T.self _ _ _ _ _ ii (loop _ Y))
end
def Zfb (ts:List Str) (fv:List (Str × Nat)) (wi:TI) (g:TG) (tt:TT) (tb:Addr->TB):TE:=λσ H Q=>wi σ H λJ H1=>∀ D,H1 D=none ->
 Wo J g tt (tb D) (λ_ H'=>Q (.ref D) H') (blkS ts fv σ) (upd H1 D (.lst []))
section
variable {X:Cx} {ts:List Str} {fv:List (Str × Nat)} {scope:Scope} {jd t0 i0:Expr} {f0:List Expr} {rest:List Comprehension} {pos:Pos} {wi:TI} {g:TG} {tt:TT} {tb:Addr->TB} {jr:Env->Addr->Addr->Sem Fin}
theorem Zai (B:BlkOk X scope fv) (hc:X.calm=true) (hi:PI X t0 i0 wi)
  (hg:∀ C s₀ H₀ ex,PG (Y3 X (blkN ts fv) scope C s₀ H₀ ex) t0 g) (ht:∀ C s₀ H₀ ex,PTs (Y3 X (blkN ts fv) scope C s₀ H₀ ex) f0 tt)
  (nu:∀ (env:Env) (it D:Addr),compTurn (.ListComp jd (⟨t0,i0,f0,0⟩ :: rest) scope pos) 0 (.ref it) (.ref D) env=(standAt i0.pos >>= λ_=>pyNext (.ref it) >>= λr=>match r with
   | none=>pure (.done .next)
   | some v=>letOwnedTupleGo t0 (.ref it) v >>= λ_=>assign t0 env v >>= λ_ =>
    (forIn f0 true λc r=>if r=true then do let ok <- isTrue c env (eval c env); pure (ForInStep.yield ok) else pure (ForInStep.yield r)) >>= λok =>
     if ok=true then jr env it D else again (.compLoop (.ListComp jd (⟨t0,i0,f0,0⟩ :: rest) scope pos) 0 (.ref it) (.ref D) env)))
  (hb:∀ C s₀ H₀ ex it D,PB (Y3 X (blkN ts fv) scope C s₀ H₀ ex) (jr (Y3 X (blkN ts fv) scope C s₀ H₀ ex).env it D) (.compLoop (.ListComp jd (⟨t0,i0,f0,0⟩ :: rest) scope pos) 0 (.ref it) (.ref D) (Y3 X (blkN ts fv) scope C s₀ H₀ ex).env) (tb D)) {RR:Value->Addr->Result->Shared->Prop} (I:Inv X f8 σ H s) (h:Zfb ts fv wi g tt tb σ H Q)
  (hRR:∀ D C s' H',Inv X f8 σ H' s'->H' C=none->X.s₀.heap.objs.size<=C->C≠X.env.locals->(∀ x c,X.env.cells.lookup x=some c->c≠C)->(∀ p∈X.pn ++ f8,p.1≠C)->(∃ m,s'.heap.Ns C m)->Q (.ref D) H'->RR (.ref D) C (.ok .next) s') :
  wpAny (model X.prog X.w) X.A (eval i0 X.env) (λx s₁=>wpAny (model X.prog X.w) X.A (pyIter x) (λit s₂=>wpAny (model X.prog X.w) X.A (newList []) (λgj s₃ =>
   wpAny (model X.prog X.w) X.A (newFunctionEnv scope X.env.globals (Ym X.env scope.names []) [] X.env.qual none .none (some X.env)) (λye s₄ =>
    codeAny (model X.prog X.w) X.A (.compStart (.ListComp jd (⟨t0,i0,f0,0⟩ :: rest) scope pos) 0 it gj { ye with scope:=relabel scope X.env }) (RR gj ye.locals) s₄) X.xe s₃) X.xe s₂) X.xe s₁) X.xe s:=by
 refine thn (hi f8 s σ H _ I h) λv s1 h1=>thn h1 λy7 s2 h2=>?_;obtain ⟨it,fp,tn,J,H2,e,I2,T,ii,f2,L⟩:=h2;subst e;have L:=L s2.heap.objs.size I2.fresh;refine wpAny_newObj_type ?_;have I3:Inv X f8 σ (upd H2 s2.heap.objs.size (.lst [])) { s2 with heap:=s2.heap.push { cls:=.type "list",data:=.seq ([]:List Value).toArray },toks:=s2.toks }:=I2.lnew (its:=[]) (t':=s2.toks) .nil (Az _);have rq:∀ b∈fp,∃ o,s2.heap.get? b=some o/\∀ v,o.data≠.cell v:=T.obj _ _ ii;have f3:∀ b∈fp,FpOk X f8 (upd H2 s2.heap.objs.size (.lst [])) b:=λb hb=>by
  obtain ⟨o,ho,_⟩:=rq b hb
  refine ⟨?_,(f2 b hb).2⟩
  rw [Zf (As (Ao ho))]
  exact (f2 b hb).1
 have k8:tn 0 (s2.heap.push { cls:=.type "list",data:=.seq ([]:List Value).toArray }):=T.keep _ _ _ ii λb _ o e=>Ak _ e;have ho3:∀ b∈fp,∃ o,(s2.heap.push { cls:=.type "list",data:=.seq ([]:List Value).toArray }).get? b=some o:=λb hb=>let ⟨o,e,_⟩:=rq b hb; ⟨o,Ak _ e⟩
 generalize hs3:({ s2 with heap:=s2.heap.push { cls:=.type "list",data:=.seq ([]:List Value).toArray },toks:=s2.toks }:Shared)=s3 at I3;have eh:s2.heap.push { cls:=.type "list",data:=.seq ([]:List Value).toArray }=s3.heap:=by rw [<- hs3]
 rw [eh] at k8 ho3;refine wpAny_newFunctionEnv B.nocell (by intro y hy; simp at hy) (λh₁ r8 qr=>?_) B.kind;have hk:∀ b o,s3.heap.get? b=some o->h₁.get? b=some o:=λb o e=>qr.extBut b o (As (Ao e)) (Ak _ e);have I4:=Zim (ts:=ts) (tk:=s3.toks + ([]:List (Str × Value)).length) B I3 f3 ho3 r8 hk;have f4:∀ b∈fp,FpOk (Y3 X (blkN ts fv) scope s3.heap.objs.size s3 (upd H2 s2.heap.objs.size (.lst [])) fp) [] (upd H2 s2.heap.objs.size (.lst [])) b:=λb hb=>by
  obtain ⟨f0,f1,f2',f3',f4',f5'⟩:=f3 b hb
  obtain ⟨o,eo⟩:=ho3 b hb
  exact ⟨f0,As (Ao eo),I4.ok.exfs b hb,.inl hb,(I4.ok.exf b hb).2,λp hp=>absurd (show p∈([]:List (Addr × Obj)) from hp) (by simp)⟩
 have vh:tn 0 h₁:=T.keep _ _ _ k8 λb _ o e=>hk b o e;have loop:codeAny (model X.prog X.w) X.A (.compLoop (.ListComp jd (⟨t0,i0,f0,0⟩ :: rest) scope pos) 0 (.ref it) (.ref s2.heap.objs.size) (Y3 X (blkN ts fv) scope s3.heap.objs.size s3 (upd H2 s2.heap.objs.size (.lst [])) fp).env)
   (RR (.ref s2.heap.objs.size) s3.heap.objs.size) { s3 with heap:=h₁,toks:=s3.toks + ([]:List (Str × Value)).length }:=by
  refine Zah (X:=Y3 X (blkN ts fv) scope s3.heap.objs.size s3 (upd H2 s2.heap.objs.size (.lst [])) fp) (tg:=t0) (ifs:=f0) (R:=λ_ H'=>Q (.ref s2.heap.objs.size) H') Y Y Y Y (nu _ it s2.heap.objs.size) T hc (hg _ _ _ _) (ht _ _ _ _) (hb _ _ _ _ it s2.heap.objs.size) f4 I4 vh L λs' σ' H' J' q=>?_
  obtain ⟨e1,e2,e3,e4,e5,e6⟩:=Zmf I3 f3 (An _) J'
  obtain ⟨m,hm,_⟩:=J'.loc
  exact hRR _ _ s' H' e1 e2 e3 e4 e5 e6 ⟨m,hm⟩ q
 exact codeAny_compStart_list loop (T.self _ _ _ _ _ vh loop)
theorem Yg (B:BlkOk X scope fv) (hc:X.calm=true) (hi:PI X t0 i0 wi)
  (hg:∀ C s₀ H₀ ex,PG (Y3 X (blkN ts fv) scope C s₀ H₀ ex) t0 g) (ht:∀ C s₀ H₀ ex,PTs (Y3 X (blkN ts fv) scope C s₀ H₀ ex) f0 tt)
  (nu:∀ (env:Env) (it D:Addr),compTurn (.ListComp jd (⟨t0,i0,f0,0⟩ :: rest) scope pos) 0 (.ref it) (.ref D) env=(standAt i0.pos >>= λ_=>pyNext (.ref it) >>= λr=>match r with
   | none=>pure (.done .next)
   | some v=>letOwnedTupleGo t0 (.ref it) v >>= λ_=>assign t0 env v >>= λ_ =>
    (forIn f0 true λc r=>if r=true then do let ok <- isTrue c env (eval c env); pure (ForInStep.yield ok) else pure (ForInStep.yield r)) >>= λok =>
     if ok=true then jr env it D else again (.compLoop (.ListComp jd (⟨t0,i0,f0,0⟩ :: rest) scope pos) 0 (.ref it) (.ref D) env)))
  (hb:∀ C s₀ H₀ ex it D,PB (Y3 X (blkN ts fv) scope C s₀ H₀ ex) (jr (Y3 X (blkN ts fv) scope C s₀ H₀ ex).env it D) (.compLoop (.ListComp jd (⟨t0,i0,f0,0⟩ :: rest) scope pos) 0 (.ref it) (.ref D) (Y3 X (blkN ts fv) scope C s₀ H₀ ex).env) (tb D))
  (hs:∀ x,foldedSetIterable i0 X.env x=pure x:=by intro _; rfl) :
  PE X (.ListComp jd (⟨t0,i0,f0,0⟩ :: rest) scope pos) (Zfb ts fv wi g tt tb):=by
 intro f8 s σ H Q I h;rw [eval_ListComp];refine wpAny_comprehension_free (use:=none) Y hs (Kk λy hy e=>I.ok.has y.1 (B.free y hy e)) B.kind B.names ?_;refine Zai (RR:=λgj C=>compPost (model X.prog X.w) X.A X.xe none (EP X f8 σ Q) gj C) B hc hi hg ht nu hb I h λD C s' H' I' e2 e3 e4 e5 e6 hm q=>?_;obtain ⟨m,hm⟩:=hm;exact ⟨m,hm,λh' j6=>⟨.ref D,H',I'.apart j6 e2 e3 e4 e5 e6,Y,q⟩⟩
theorem X9 {xc:Pos} (B:BlkOk X scope fv) (hc:X.calm=true) (hN:X.N.Nodup) (hiy:X.N[i]?=some y) (hyl:X.env.scope.names.lookup y=some .local)
  (hsw:swapsWith (.ListComp jd (⟨t0,i0,f0,0⟩ :: rest) scope pos) (some (.Name y py)) xc.line X.env=pure true) (hi:PI X t0 i0 wi)
  (hg:∀ C s₀ H₀ ex,PG (Y3 X (blkN ts fv) scope C s₀ H₀ ex) t0 g) (ht:∀ C s₀ H₀ ex,PTs (Y3 X (blkN ts fv) scope C s₀ H₀ ex) f0 tt)
  (nu:∀ (env:Env) (it D:Addr),compTurn (.ListComp jd (⟨t0,i0,f0,0⟩ :: rest) scope pos) 0 (.ref it) (.ref D) env=(standAt i0.pos >>= λ_=>pyNext (.ref it) >>= λr=>match r with
   | none=>pure (.done .next)
   | some v=>letOwnedTupleGo t0 (.ref it) v >>= λ_=>assign t0 env v >>= λ_ =>
    (forIn f0 true λc r=>if r=true then do let ok <- isTrue c env (eval c env); pure (ForInStep.yield ok) else pure (ForInStep.yield r)) >>= λok =>
     if ok=true then jr env it D else again (.compLoop (.ListComp jd (⟨t0,i0,f0,0⟩ :: rest) scope pos) 0 (.ref it) (.ref D) env)))
  (hb:∀ C s₀ H₀ ex it D,PB (Y3 X (blkN ts fv) scope C s₀ H₀ ex) (jr (Y3 X (blkN ts fv) scope C s₀ H₀ ex).env it D) (.compLoop (.ListComp jd (⟨t0,i0,f0,0⟩ :: rest) scope pos) 0 (.ref it) (.ref D) (Y3 X (blkN ts fv) scope C s₀ H₀ ex).env) (tb D))
  (hs:∀ x,foldedSetIterable i0 X.env x=pure x:=by intro _; rfl) :
  PS X (.Assign [.Name y py] (.ListComp jd (⟨t0,i0,f0,0⟩ :: rest) scope pos) xc) (tAsg (Zfb ts fv wi g tt tb) (Zl i)):=by
 intro f8 s σ H D0 I h;rw [exec_Assign_Name_used _ _ _ _ hsw];refine Al (wpAny_standAt (Al ?_));show wpAny _ X.A (do let _ <- comprehension (.ListComp jd (⟨t0,i0,f0,0⟩ :: rest) scope pos) scope X.env _ (newList []) false (eval i0 X.env) (some (assign (.Name y py) X.env))) _ _ s;refine Al (wpAny_mono (wpAny_comprehension_free (use:=some (assign (.Name y py) X.env)) (Q:=λ_ s'=>SP X f8 D0 .next s') Y hs (Kk λy hy e=>I.ok.has y.1 (B.free y hy e)) B.kind B.names ?_) (λ_ s' hq=>wpAny_pure (wpAny_pure hq)) λ_ _ e=>e);refine Zai (Q:=λx H1=>Zl i x σ H1 D0.nx) (RR:=λgj C=>compPost (model X.prog X.w) X.A X.xe (some (assign (.Name y py) X.env)) (λ_ s'=>SP X f8 D0 .next s') gj C) B hc hi hg ht nu hb I h λD C s' H' I' e2 e3 e4 e5 e6 hm q=>?_;obtain ⟨m,hm⟩:=hm;show wpAny _ X.A (assign (.Name y py) X.env (.ref D)) _ _ _;refine wpAny_assign_Name (Fw I' hN hiy (.inl hyl) (show RelV (.ref D) (.ref D) from Y) (λl7 I'' ko=>?_) (.inr hyl));obtain ⟨a,qr,ha⟩:=ko;have haC:C≠a:=by
  rcases ha with e | e
  ·rw [e]; exact e4
  ·exact λz=>e5 y a e z.symm
 exact ⟨m,hm.sameBut qr haC,λh' j6=>⟨_,H',I''.apart j6 e2 e3 e4 e5 e6,q⟩⟩
end
def FlyT (e T:Addr) (cls a0:Value) (h:Heap):Prop :=
 ∃ oe vs oT ts,h.get? e=some oe/\(oe.cls=cls/\vs[0]?=some a0)/\oe.data=.fields vs/\vs[1]?=some (.ref T)/\T≠e/\h.get? T=some oT/\oT.data=.fields ts/\ts[3]?=some .none
def CXr (P:Program) (w:World):CXT:=λouter H s E ev s' =>
 ∃ (e T:Addr) (cls a0:Value) (H':Hp),ev=.ref e/\s'.os=s.os/\AllBare s'.gens/\Un (frs outer) [] H H' s.heap s'.heap/\HOk P w H' s'.heap /\
  s.heap.get? e=none/\s.heap.get? T=none/\H' e=none/\H' T=none/\FlyT e T cls a0 s'.heap/\E cls none H'
def Yr {X:Cx}:Vb (CXr X.prog X.w) X E0:=λ_ _ _ _ _ _ _ h=>by
 obtain ⟨_,_,_,_,_,_,_,_,_,_,_,_,_,_,_,z⟩:=h;exact z.elim
def Zma (h:CXr P w [] H s (λ_ _ _=>False) e s'):False:=by
 obtain ⟨_,_,_,_,_,_,_,_,_,_,_,_,_,_,_,z⟩:=h;exact z
section
variable {P:Program} {w:World} {K:W.Frag} {mg:Str->Option Value} {base:Heap}
def Fun.okR {x qual:Str} {st:Stmt} {f:Addr} {fd:FuncData} {N ps:List Str} {k:Nat} {sp:Sp} (F:Fun K x qual st f fd) (S:FnScope N ps (Zh st)) (len:∀ vs H Q E,sp vs H Q E->vs.length=ps.length)
  (ja:∀ (ij:Value) (A:Around) (outer:List Env) (s:Shared) (H:Hp) (vs:List V) (Q:VK) (E:XK),Room k (A.deeper (envOfC qual (Zh st) s.heap.objs.size f ij))->sp vs H Q E ->
   ∃ t,PSs (cxOf (CXr P w) P w K mg base N qual (Zh st) f ij A outer s H E).nox (Yq st) t/\t { nx:=λ_ H'=>Q .non H',rt:=Q } (start N vs) H):FnOk P w K mg base (CXr P w) (k + 1) f fd ps sp:=by
 obtain ⟨oc,od,kV,im,pm,an,ij,ct,ph,rfl,lk,me⟩:=F.ex;refine Zkq lk me S len λA outer s H vs Q E hr jn=>?_;obtain ⟨t,h,q⟩:=ja ij A outer s H vs Q E hr jn;exact ⟨t,h.nox,q⟩
end
section
variable {X:Cx}
def J5:Y5 X (.builtin "isinstance") (λxs H Q=>∃ x T t b,xs=[x,.ty T]/\TyOf X.K H x t/\PySem.W.kitOne X.K t (.type T)=some b/\Q (.bl b) H):=by
 intro f8 s σ H xs us Q I r h;obtain ⟨x,T,t,b,rfl,hty,hk,q⟩:=h;obtain ⟨u,v,rfl,ru,rv⟩:=r.two;obtain rfl:v=Value.type T:=rv;exact Zh3 I ru hty hk λtk=>⟨.bl b,H,I.tok _,Y,q⟩
def Ks {K:W.Frag} {T:String}:PySem.W.kitOne K (.type T) (.type T)=some true:=by
 unfold PySem.W.kitOne;rw [if_pos (by simp)]
def Yc {X:Cx} {scope:Scope} (h:scope.names.all (λy=>y.2 != .free || X.env.kindOf y.1 == some .cell || X.env.kindOf y.1 == some .free)=true) :
  ∀ y∈scope.names,y.2=.free->X.env.kindOf y.1=some .cell\/X.env.kindOf y.1=some .free:=λy hy e=>by
 have:=List.all_eq_true.mp h y hy;simp [e] at this;exact this
end
def walk_r {l:PySem.W.OpenLaw} {k:Nat} {q:Program} {lx:List Str} {XP:(Str->Option Value)->Heap->Prop} {YP:World->Heap->Prop} {d:DefRec} {K:Params->PySem.W.Frag} {spl:PySem.W.Frag->Sp}
  (hn:l.most=some 63) (wv:d.params.defaults=[]) (hr:Room k callerA) (hY:∀ (w:World) (h:Heap),YP w h->(K w.params).In h)
  (jn:∀ (K:W.Frag) (H:Hp) (a:Addr) (ns:List Int),ns.length<=63->SqL K H a (ns.map V.int)->spl K [.ref a] H (λv _=>v=.bl true) λ_ _ _=>False)
  (F:∀ (w:World) (mg:Str->Option Value) (fa:Addr) (h:Heap),(K w.params).In h->h.Ns mainGlobals mg->mg d.name=some (.ref fa) ->
   ∃ fd:FuncData,(∀ (s:Shared) (u:Value),BindsTo s fd ⟨[u],[]⟩ [("_law_script",u)]) /\
    ∀ base:Heap,(K w.params).In base->base.Ns mainGlobals mg->FnOk l.prog w (K w.params) mg base (CXr l.prog w) k fa fd ["_law_script"] (spl (K w.params))) :
  PySem.W.WalkO q lx XP YP l.row.toRowW d [] (λf vs=>PySem.call f vs) :=
 Zkt (n:=63) (k:=k) (x:="_law_script") (CX:=λw=>CXr l.prog w) (sp:=λw=>spl (K w.params)) hn (by decide) wv hr hY F (λw H a ns hl _ hS=>jn _ H a ns hl hS) (λw H s e s' h=>Zma h)
def ExT (e:Addr) (T:Option Addr) (cls a0:Value) (h:Heap):Prop:=match T with
 | some T=>FlyT e T cls a0 h
 | none=>∃ oe vs,h.get? e=some oe/\(oe.cls=cls/\vs[0]?=some a0)/\oe.data=.fields vs/\vs[1]?=some .none
structure FxOk (X:Cx) (f8:List (Addr × Obj)) (H:Hp) (b:Addr):Prop where
 nt:H b=none
 nl:b≠X.env.locals
 nf:b ∉ X.fs
 n0:X.s₀.heap.get? b=none
 nc:∀ x c,X.env.cells.lookup x=some c->c≠b
 np:∀ p∈X.pn ++ f8,p.1≠b
def XS (fr:Bool) (X:Cx) (f8:List (Addr × Obj)) (R:Value->St->Hp->Prop) (ev:Value) (s':Shared):Prop :=
 ∃ (e:Addr) (T:Option Addr) (cls a0:Value) (σ':St) (H':Hp),ev=.ref e/\Inv X f8 σ' H' s'/\ExT e T cls a0 s'.heap/\FxOk X f8 H' e/\(∀ t,T=some t->FxOk X f8 H' t)/\(T=none->fr=true)/\R cls σ' H'
abbrev TSX:=Ends->(Value->St->Hp->Prop)->St->Hp->Prop
abbrev TEX:=St->Hp->VK->XK->Prop
def PSX (fr:Bool) (X:Cx) (st:Stmt) (t:TSX):Prop :=
 ∀ (f8:List (Addr × Obj)) (s:Shared) (σ:St) (H:Hp) (D:Ends) (R:Value->St->Hp->Prop),Inv X f8 σ H s->t D R σ H->wpAny (model X.prog X.w) X.A (exec st X.env) (SP X f8 D) (XS fr X f8 R) s
def PSsX (fr:Bool) (X:Cx) (st:List Stmt) (t:TSX):Prop :=
 ∀ (f8:List (Addr × Obj)) (s:Shared) (σ:St) (H:Hp) (D:Ends) (R:Value->St->Hp->Prop),Inv X f8 σ H s->t D R σ H->wpAny (model X.prog X.w) X.A (execs st X.env) (SP X f8 D) (XS fr X f8 R) s
def PEX (fr:Bool) (X:Cx) (e:Expr) (t:TEX):Prop :=
 ∀ (f8:List (Addr × Obj)) (s:Shared) (σ:St) (H:Hp) (Q:VK) (E:XK),Inv X f8 σ H s->t σ H Q E->wpAny (model X.prog X.w) X.A (eval e X.env) (EP X f8 σ Q) (XS fr X f8 λcls σ' H'=>σ'=σ/\E cls none H') s
section
variable {X:Cx} {fr:Bool}
def Y6 {st:Stmt} {t:TS} (h:PS X st t) (hx:X.xe=(λ_ _=>False):=by rfl):PSX fr X st (λD _ σ H=>t D σ H):=λf8 s σ H D R I q=>by
 have:=h f8 s σ H D I q;rw [hx] at this;exact wpAny_mono this (λ_ _ z=>z) λ_ _ z=>z.elim
def Zei {st:List Stmt} {t:TS} (h:PSs X st t) (hx:X.xe=(λ_ _=>False):=by rfl):PSsX fr X st (λD _ σ H=>t D σ H):=λf8 s σ H D R I q=>by
 have:=h f8 s σ H D I q;rw [hx] at this;exact wpAny_mono this (λ_ _ z=>z) λ_ _ z=>z.elim
def Zj9 (t u:TSX):TSX:=λD R σ H=>t { D with nx:=u D R } R σ H
def Z3 {st:Stmt} {rest:List Stmt} {t u:TSX} (h1:PSX fr X st t) (h2:PSsX fr X rest u):PSsX fr X (st :: rest) (Zj9 t u):=by
 intro f8 s σ H D R I h;refine wpAny_execs_cons (thn (h1 f8 s σ H { D with nx:=u D R } R I h) λf s1 q=>?_)
 cases f with
 | next =>
  obtain ⟨σ',H',I',q⟩:=q;exact h2 f8 s1 σ' H' D R I' q
 | ret v=>exact q
 | brk=>exact q
 | cont=>exact q
def Z7 {st:Stmt} {t:TSX} (h1:PSX fr X st t):PSsX fr X [st] t:=by
 intro f8 s σ H D R I h;refine wpAny_execs_cons (thn (h1 f8 s σ H D R I h) λf s1 q=>?_)
 cases f with
 | next=>exact wpAny_execs_nil q
 | ret v=>exact q
 | brk=>exact q
 | cont=>exact q
def W4:PSsX fr X [] (λD _ σ H=>D.nx σ H):=λ_ _ σ H _ _ I h=>wpAny_execs_nil ⟨σ,H,I,h⟩
def tIfX (c:TT) (t u:TSX):TSX:=λD R σ H=>c σ H λb H1=>if b=true then t D R σ H1 else u D R σ H1
def Q5 (hc:PT X c tc) (ha:PSsX fr X a t) (hb:PSsX fr X b u) (hx:X.xe=(λ_ _=>False):=by rfl):PSX fr X (.If c a b pos) (tIfX tc t u):=by
 intro f8 s σ H D R I h;have h0:=hc f8 s σ H _ I h;rw [hx] at h0;refine wpAny_If (wpAny_mono h0 (λd s1 zz26=>?_) λ_ _ z=>z.elim);obtain ⟨H1,I1,q1⟩:=zz26
 cases d with
 | true=>exact ha f8 s1 σ H1 D R I1 q1
 | false=>exact hb f8 s1 σ H1 D R I1 q1
def Zmx (te:TEX):TSX:=λD R σ H=>te σ H (λ_ H1=>D.nx σ H1) λcls _ H1=>R cls σ H1
def Wf {pos:Pos} (he:PEX fr X e te) (hs:swapsWith e none pos.line X.env=pure false:=by rfl):PSX fr X (.Expr e pos) (Zmx te):=by
 intro f8 s σ H D R I h;refine wpAny_Expr_any (wpAny_mono (he f8 s σ H _ _ I h) (λv s1 ⟨x,H1,I1,r1,q1⟩=>⟨σ,H1,I1,q1⟩) ?_) I.quiet hs;rintro ev s1 ⟨e,T,cls,a0,σ',H',h1,h2,h3,h4,h5,h7,rfl,h6⟩;exact ⟨e,T,cls,a0,σ',H',h1,h2,h3,h4,h5,h7,h6⟩
def Zob (i:Nat) (te:TEX):TSX:=λD R σ H=>te σ H (λx H1=>D.nx (σ.set i (some x)) H1) λcls _ H1=>R cls σ H1
def Vx {pos:Pos} (hN:X.N.Nodup) (hi:X.N[i]?=some x) (hx:Loc X.env.scope x) (he:PEX fr X e te) (hs:swapsWith e (some (.Name x jp)) pos.line X.env=pure false:=by rfl)
  (hf:X.fn x=true\/X.env.scope.names.lookup x=some .local:=by first | exact .inl rfl | exact .inr rfl | assumption):PSX fr X (.Assign [.Name x jp] e pos) (Zob i te):=by
 intro f8 s σ H D R I h;refine wpAny_Assign_Name (wpAny_mono (he f8 s σ H _ _ I h) (λv s1 ⟨y,H1,I1,r1,q1⟩=>?_) ?_) hs
 ·exact Q1 I1 hN hi hx r1 (λs2 I2=>⟨_,H1,I2,q1⟩) hf
 ·rintro ev s1 ⟨e,T,cls,a0,σ',H',h1,h2,h3,h4,h5,h7,rfl,h6⟩
  exact ⟨e,T,cls,a0,σ',H',h1,h2,h3,h4,h5,h7,h6⟩
def Inv.cxr (I:Inv X f8 σ H s) (hex:X.ex=[]) (h:CXr X.prog X.w X.stack H s E ev s'):XS fr X f8 (λcls σ' H'=>σ'=σ/\E cls none H') ev s':=by
 obtain ⟨e,T,cls,a0,H',rfl,os,bare,un,hok,ne,nT,he,hT,fl,q⟩:=h;have I':Inv X f8 σ H' s':=I.call' os un hok bare λb hb=>absurd hb (by simp)
 have fx:∀ b,s.heap.get? b=none->H' b=none->FxOk X f8 H' b:=λb hb hn=>by
  refine ⟨hn,λz=>?_,λz=>?_,?_,λx c e z=>?_,λp hp z=>?_⟩
  ·obtain ⟨m,⟨o,_,_,ho,_⟩,_⟩:=I.loc
   rw [z,ho] at hb; cases hb
  ·obtain ⟨_,o,ho,_⟩:=I.funs.mem z
   rw [ho] at hb; cases hb
  ·cases q:X.s₀.heap.get? b with
   | none=>rfl
   | some o =>
    obtain ⟨o',e'⟩:=I.base.there b o q (by rw [hex]; simp);rw [hb] at e'; cases e'
  ·obtain ⟨v,o,ho,_⟩:=I.cell x c e
   rw [z,hb] at ho; cases ho
  ·have:=(I.pin p hp).1
   rw [z,hb] at this; cases this
 exact ⟨e,some T,cls,a0,σ,H',rfl,I',fl,fx e ne he,λt ht=>by cases ht; exact fx T nT hT,(λz=>nomatch z),Y,q⟩
variable {k:Nat} {f C:Addr} {fd:FuncData} {ps:List Str} {sp:Sp} {ir:List V} {ds:List Value} {x m:Str} {p pos gu:Pos} {e o:Expr} {es:List Expr} {ta:TE} {t:TA}
def Zeg (F:FnOk X.prog X.w X.K X.mg X.base (CXr X.prog X.w) k f fd ps sp) (hr:Room k X.A) (hb:Wc X.K fd ps ds) (hd:Vals ir ds) (hex:X.ex=[])
  (I:Inv X f8 σ H s) (r:Vals vs us) (h:sp (vs ++ ir) H Q E):wpAny (model X.prog X.w) X.A (call (.ref f) us) (EP X f8 σ Q) (XS fr X f8 λcls σ' H'=>σ'=σ/\E cls none H') s:=by
 have r2:Vals (vs ++ ir) (us ++ ds):=r.append hd;have hl:(us ++ ds).length=ps.length:=by rw [<- r2.length]; exact F.len _ _ _ _ h
 refine wpAny_call (codeAny_mono (F.run X.A X.stack s H ⟨us,[]⟩ (us ++ ds) (vs ++ ir) Q E hr I.env0 (hb s us I.kIn hl) r2 h) λr s' hq=>?_)
 cases r with
 | error e=>exact I.cxr hex hq
 | ok fl =>
  cases fl with
  | ret u=>exact I.after hq
  | next=>exact False.elim hq
  | brk=>exact False.elim hq
  | cont=>exact False.elim hq
def Zgg (sp:Sp) (ir:List V) (t:TA):TEX:=λσ H Q E=>t σ H λvs H1=>sp (vs ++ ir) H1 Q E
def Zjc (F:FnOk X.prog X.w X.K X.mg X.base (CXr X.prog X.w) k f fd ps sp) (hr:Room k X.A) (hg:Gl X x) (hm:X.mg x=some (.ref f)) (hk:PySem.W.keepIn X.K (.ref f)=true) (hb:Wc X.K fd ps ds) (hd:Vals ir ds)
  (ha:PA X (e :: es) t) (hex:X.ex=[]:=by rfl) (hx:X.xe=(λ_ _=>False):=by rfl) (ju:(x == ("__debug__":Str))=false:=by decide) (he:starEach (e :: es) X.env=(false,eval e X.env) :: starEach es X.env:=by rfl) (ip:(backTo pos (starEach es X.env)).any (·.1)=false:=by rfl) :
  PEX fr X (.Call (.Name x p) (e :: es) [] pos) (Zgg sp ir t):=by
 intro f8 s σ H Q E I h;have h0:=ha pos f8 s σ H _ I h;rw [hx] at h0;refine wpAny_Call_Name_kw (Qw I hg hm ?_ ju);refine PySem.W.callWith_K (h₀:=X.base) I.ok.mod.kin hk (wpAny_mono h0 (λus s1 zz27=>?_) λ_ _ z=>z.elim) he ip;obtain ⟨vs,H1,I1,r,q⟩:=zz27;refine ⟨I1.kIn,?_⟩;exact Zeg F hr hb hd hex I1 r q
def Zmw (C:Addr) (m:Str) (sp:Sp) (ir:List V) (ta:TE) (t:TA):TEX:=λσ H Q E=>ta σ H λx H1=>∃ a dx fs,x=.ref a/\H1 a=some (.ins C dx fs)/\fs.lookup m=none /\
 t σ H1 λvs H2=>sp (x :: (vs ++ ir)) H2 Q E
def Uf (he:PE X o ta) (c:Cls X.K C) (hm:Meth X.K C m f) (F:FnOk X.prog X.w X.K X.mg X.base (CXr X.prog X.w) k f fd ps sp) (hr:Room k X.A) (hb:Wc X.K fd ps ds) (hd:Vals ir ds) (ha:PA X (e :: es) t)
  (hex:X.ex=[]:=by rfl) (hx:X.xe=(λ_ _=>False):=by rfl) (j5:starEach (e :: es) X.env=(false,eval e X.env) :: starEach es X.env:=by rfl) (ip:(backTo pos (starEach es X.env)).any (·.1)=false:=by rfl)
  (ht:eval (.Call (.Attribute o m gu) (e :: es) [] pos) X.env=(do
   let ov <- eval o X.env
   standAt gu.atName
   let (f,first) <- holding [ov] (getMethod ov m pl)
   callWith pos f first (backTo pos (starEach (e :: es) X.env)) (backToKw pos (keywordEach [] X.env))):=by rfl) :
  PEX fr X (.Call (.Attribute o m gu) (e :: es) [] pos) (Zmw C m sp ir ta t):=by
 intro f8 s σ H Q E I h;have h0:=he f8 s σ H _ I h;rw [hx] at h0;refine PySem.W.methodCall_KW (pl:=pl) (wpAny_mono h0 (λu s1 zz28=>?_) λ_ _ z=>z.elim) ht;obtain ⟨x,H1,I1,rx,a,dx,fs,ex,ea,l,q⟩:=zz28;subst ex;obtain rfl:u=Value.ref a:=rx;refine Uo I1 ea c hm l ?_;have h1:=ha pos f8 s1 σ H1 _ I1 q;rw [hx] at h1;refine PySem.W.callWith_K (first:=[.ref a]) (h₀:=X.base) I.ok.mod.kin hm.kp (wpAny_mono h1 (λus s2 zz29=>?_) λ_ _ z=>z.elim) j5 ip;obtain ⟨vs,H2,I2,r,q2⟩:=zz29;refine ⟨I2.kIn,?_⟩;exact Zeg (us:=.ref a :: us) (vs:=.ref a :: vs) F hr hb hd hex I2 (.cons Y r) q2
end
theorem Z9.there {h:Heap}:∀ {o:HO},Z9 P w H h a o->∃ ob,h.get? a=some ob
 | .lst _,x=>by obtain ⟨_,_,_,_,e⟩:=x; exact ⟨_,e⟩
 | .tup _,x=>by obtain ⟨_,_,_,ob,e,_⟩:=x; exact ⟨_,e⟩
 | .dK _,x=>by obtain ⟨_,_,_,_,o,_,_,e,_⟩:=x; exact ⟨_,e⟩
 | .dT _,x=>by obtain ⟨_,_,_,_,o,_,_,e,_⟩:=x; exact ⟨_,e⟩
 | .set _ _,x=>by obtain ⟨o,_,_,_,e,_⟩:=x; exact ⟨_,e⟩
 | .ins _ _ _,x=>by obtain ⟨_,_,_,e,_⟩:=x; exact ⟨_,e⟩
 | .own _,x=>by obtain ⟨_,e⟩:=x; exact ⟨_,e⟩
 | .xd _,x=>by obtain ⟨_,⟨_,_,_,e,_⟩,_⟩:=x; exact ⟨_,e⟩
 | .rng _ _,x=>by obtain ⟨_,_,_,e⟩:=x; exact ⟨_,e⟩
 | .frz _ _,x=>by obtain ⟨e,_⟩:=x; exact ⟨_,e⟩
 | .tbl _,x=>⟨_,(show h.get? a=some _ from x)⟩
 | .met _ _,x=>⟨_,(show h.get? a=some _ from x)⟩
 | .ext _,x=>by obtain ⟨_,⟨_,e⟩,_⟩:=x; exact ⟨_,e⟩
section
variable {X:Cx} {f8:List (Addr × Obj)} {σ:St} {H:Hp} {s:Shared}
def Inv.untr (I:Inv X f8 σ H s) (hb:s.heap.get? b=none):H b=none:=by
 cases q:H b with
 | none=>rfl
 | some o =>
  obtain ⟨ob,e⟩:=(I.hok b o q).there;rw [hb] at e; cases e
def Inv.fxOk (I:Inv X f8 σ H s) (hex:X.ex=[]) (hb:s.heap.get? b=none):FxOk X f8 H b:=by
 refine ⟨I.untr hb,λz=>?_,λz=>?_,?_,λx c e z=>?_,λp hp z=>?_⟩
 ·obtain ⟨m,⟨o,_,_,ho,_⟩,_⟩:=I.loc
  rw [z,ho] at hb; cases hb
 ·obtain ⟨_,o,ho,_⟩:=I.funs.mem z
  rw [ho] at hb; cases hb
 ·cases q:X.s₀.heap.get? b with
  | none=>rfl
  | some o =>
   obtain ⟨o',e'⟩:=I.base.there b o q (by rw [hex]; simp);rw [hb] at e'; cases e'
 ·obtain ⟨v,o,ho,_⟩:=I.cell x c e
  rw [z,hb] at ho; cases ho
 ·have:=(I.pin p hp).1
  rw [z,hb] at this; cases this
end
structure ExcK (K:W.Frag) (C:Addr) (q9:List Value) (jk:String):Prop where
 q:PySem.W.excIn K C q9 jk=true
def Ze0 {K:W.Frag} {h:Heap} (X:K.In h) (q:PySem.W.excIn K C q9 jk=true) :
  ∃ bm N nm q bs hdct sn sub ab col dd k0 k1 k2 k3 k5 mN,h.get? C=some (excClassObj nm q C N bs bm hdct sn sub ab col dd k0 k1 k2 k3 k5 jk)/\h.Ns N mN/\mN "__init__"=none/\OwnTail h q9 bm:=by
 unfold PySem.W.excIn at q;split at q
 ·rename_i dd cd sl ho
  split at q
  ·rename_i C' bm k0 k1 k2 k3 n k5 hm hs
   simp only [Bool.and_eq_true,beq_iff_eq,Bool.not_eq_true'] at q;obtain ⟨⟨⟨⟨⟨rfl,rfl⟩,xx⟩,ht⟩,hok⟩,wq⟩:=q;obtain ⟨nm,bs,mro,ns,qn,hd,sn,sub,ab,col,del⟩:=cd;dsimp only at hm xx hok wq;subst hm xx;have zb:sl=#[k0,k1,k2,k3,some (.builtin n),k5]:=by
    obtain ⟨l⟩:=sl
    simp only at hs
    rw [hs]
   subst zb;exact ⟨bm,ns,nm,qn,bs,hd,sn,sub,ab,col,dd,k0,k1,k2,k3,k5,_,X _ _ ho,.of_isNs (PySem.W.isNs_of_in X hok),PySem.W.nsMap_none_of_in X hok wq,PySem.W.tail_of_in X ht⟩
  ·cases q
 ·cases q
section
variable {X:Cx}
def Zmu (C:Addr) (t:TA):TSX:=λ_ R σ H=>t σ H λvs H1=>vs.length<=1000/\R (.ref C) σ H1
def We (K:ExcK X.K C q9 jk) (FB:ExcBaseFacts B jk initId q9) (hg:Gl X x) (hm:X.mg x=some (.ref C)) (hc:X.calm=true) (ha:PA X (e :: es) t)
  (hex:X.ex=[]:=by rfl) (hx:X.xe=(λ_ _=>False):=by rfl) (ju:(x == ("__debug__":Str))=false:=by decide) (he:starEach (e :: es) X.env=(false,eval e X.env) :: starEach es X.env:=by rfl) (ip:(backTo gm (starEach es X.env)).any (·.1)=false:=by rfl) :
  PSX true X (.Raise (some (.Call (.Name x np) (e :: es) [] gm)) none pos) (Zmu C t):=by
 intro f8 s σ H D R I h;obtain ⟨tl,N,nm,q,bs,hdct,sn,sub,ab,col,dd,k0,k1,k2,k3,k5,mN,hC,hN,wq,T⟩:=Ze0 I.ok.mod.kin K.q;refine wpAny_Raise_call_subT (C:=C) (nm:=nm) (q:=q) (N:=N) (bs:=bs) (bm:=tl) (hdct:=hdct) (sn:=sn) (sub:=sub) (ab:=ab) (col:=col) (dd:=dd) (k0:=k0) (k1:=k1) (k2:=k2) (k3:=k3) (k5:=k5)
  FB (mN:=mN) (T.hasType FB.hasBase) (I.ok.hd hc) (by rw [he]; show (false || (backTo gm (starEach es X.env)).any (·.1))=false; rw [ip]; rfl) wq (Qw I hg hm ⟨rfl,?_⟩ ju)
 have h0:=ha gm f8 s σ H _ I h;rw [hx] at h0;rw [he] at h0 ⊢;refine Calls.evalArgs_plain (wpAny_mono h0 (λus s₂ zz30=>?_) λ_ _ z=>z.elim);obtain ⟨vs,H1,I1,r1,hl,q1⟩:=zz30;have kb:=I1.bk;refine ⟨Y,?_,kb _ _ hC,hN.keeps kb,T.keeps kb,λh' ea r9=>?_⟩
 ·rw [<- r1.length]
  exact Nat.le_of_lt (Zx hl)
 obtain ⟨tt,h1,h2,h3⟩:=r9.there;have I2:Inv X f8 σ H1 { s₂ with heap:=h' }:=I1.kept (t':=s₂.toks) r9.keeps;have fx:=I1.fxOk hex r9.new;exact ⟨ea,none,.ref C,.ref tt,σ,H1,Y,I2,⟨_,_,h1,⟨Y,Y⟩,Y,Y⟩,⟨fx.nt,fx.nl,fx.nf,fx.n0,fx.nc,fx.np⟩,(λt z=>nomatch z),(λ_=>rfl),q1⟩
def Un.leave {h₀ h h':Heap} (u:Un fs [] H₀ H h₀ h) (hk:∀ b o,h₀.get? b=some o->b ∉ fs->h.get? b=some o->h'.get? b=some o)
  (hs:∀ b o,b∈fs->h.get? b=some o->∃ sl,h'.get? b=some { o with slots:=sl }) (ht:∀ b o,h₀.get? b=some o->∀ o',h.get? b=some o'->∃ o'',h'.get? b=some o''):Un fs [] H₀ H h₀ h' where
 keep:=λb o e n hb hx=>hk b o e hb (u.keep b o e n hb hx)
 slot:=λb o e n hb hx=>by
  obtain ⟨sl,e1⟩:=u.slot b o e n hb hx;obtain ⟨vm,e2⟩:=hs b _ hb e1;exact ⟨vm,e2⟩
 free:=u.free
 there:=λb o e hx=>by
  obtain ⟨o',e1⟩:=u.there b o e hx;exact ht b o e o' e1
 tups:=u.tups
 frzs:=u.frzs
 tbls:=u.tbls
def V6 {X:Cx} {s:Shared} (I:Inv X f8 σ H s) (as:List Addr) (hs:∀ b∈frs X.stack,b∈as):s.heap.FunFrames (PySem.W.hideAll s.heap as) X.stack:=by
 have all:∀ (l:List Env),(∀ b∈frs l,b∈as)->s.heap.FunFrames X.base l->s.heap.FunFrames (PySem.W.hideAll s.heap as) l:=by
  intro l
  induction l with
  | nil=>intro _ _; trivial
  | cons env r ih =>
   intro hs hl;obtain ⟨hk,⟨L,o,hf,hn,ho,hd⟩,hr⟩:=hl;have hL:L∈as:=hs L (by unfold frs; rw [List.filterMap_cons,hf]; exact List.mem_cons_self);exact ⟨hk,⟨L,o,hf,PySem.W.hideAll_none as hL,ho,hd⟩,ih (λb hb=>hs b (by unfold frs; rw [List.filterMap_cons,hf]; exact List.mem_cons_of_mem _ hb)) hr⟩
 exact all X.stack hs I.stack
def Inv.fnd {X:Cx} {s:Shared} (I:Inv X f8 σ H s) (hb:b∈frs X.stack) {o:Obj} (e:s.heap.get? b=some o):∀ vs,o.data≠.fields vs:=by
 obtain ⟨_,o',e',d⟩:=I.stack.mem hb;rw [e] at e'; cases e';exact d
end
def FxOk.none {X:Cx} {f8:List (Addr × Obj)} {H:Hp} {b:Addr} (h:FxOk X f8 H b):FxOk X [] H b:=⟨h.nt,h.nl,h.nf,h.n0,h.nc,λp hp=>h.np p (by rw [List.append_nil] at hp; exact List.mem_append_left _ hp)⟩
section
variable {P:Program} {w:World} {K:W.Frag} {mg:Str->Option Value} {base:Heap}
def Zju (h:XS fr (cxOf (CXr P w) P w K mg base N qual scope f cd A outer s H E).nox [] (λcls _ H'=>E cls none H') ev s'):(cxOf (CXr P w) P w K mg base N qual scope f cd A outer s H E).xe ev s':=by
 obtain ⟨e,T,cls,a0,σ',H',rfl,I,hx,fe,fT,_,q⟩:=h;show wpAny (model P w) (A.deeper (envOfC qual scope s.heap.objs.size f cd)) (leaving (envOfC qual scope s.heap.objs.size f cd) (.ref e)) (λ_ l7=>CXr P w outer H s E (.ref e) l7) (λe' l7=>CXr P w outer H s E e' l7) s';have j5:(cxOf (CXr P w) P w K mg base N qual scope f cd A outer s H E).nox.stack=envOfC qual scope s.heap.objs.size f cd :: outer:=rfl;have uy:(A.deeper (envOfC qual scope s.heap.objs.size f cd)).frames=some (envOfC qual scope s.heap.objs.size f cd :: outer):=I.ok.frames
 have n0:∀ b,b∈e :: T.toList->s.heap.get? b=none:=λb hb=>by
  rcases Ar hb with z | z
  ·rw [z]; exact fe.n0
  ·cases T with
   | none=>simp at z
   | some t =>
    have:b=t:=by simpa using z
    rw [this]; exact (fT t Y).n0
 have nt:∀ b,b∈e :: T.toList->H' b=none:=λb hb=>by
  rcases Ar hb with z | z
  ·rw [z]; exact fe.nt
  ·cases T with
   | none=>simp at z
   | some t =>
    have:b=t:=by simpa using z
    rw [this]; exact (fT t Y).nt
 have hB:∀ b o,b ∉ e :: T.toList->b ∉ frs (envOfC qual scope s.heap.objs.size f cd :: outer)->s'.heap.get? b=some o->(PySem.W.hideAll s'.heap ((e :: T.toList) ++ frs (envOfC qual scope s.heap.objs.size f cd :: outer))).get? b=some o:=λb o h1 h2 e1 =>
  PySem.W.hideAll_get _ e1 λz=>(List.mem_append.mp z).elim h1 h2
 have hl:s'.heap.FunFrames (PySem.W.hideAll s'.heap ((e :: T.toList) ++ frs (envOfC qual scope s.heap.objs.size f cd :: outer))) (envOfC qual scope s.heap.objs.size f cd :: outer):=V6 I _ λb hb=>List.mem_append_right _ hb;have hkb:(PySem.W.hideAll s'.heap ((e :: T.toList) ++ frs (envOfC qual scope s.heap.objs.size f cd :: outer))).StaysIn s'.heap:=λb o e1=>PySem.W.of_hideAll _ e1;have hen:(PySem.W.hideAll s'.heap ((e :: T.toList) ++ frs (envOfC qual scope s.heap.objs.size f cd :: outer))).get? e=none:=PySem.W.hideAll_none _ (List.mem_append_left _ List.mem_cons_self)
 have ik:∀ h',Heap.LeftW (PySem.W.hideAll s'.heap ((e :: T.toList) ++ frs (envOfC qual scope s.heap.objs.size f cd :: outer))) (envOfC qual scope s.heap.objs.size f cd :: outer) e cls a0 s'.heap h'->CXr P w outer H s E (.ref e) { s' with heap:=h' }:=λh' ⟨k1,k2,k3,k4⟩=>by
  obtain ⟨oe,vs,T',oT,ts,x1,x2,x3,x4,x5,x6,x7,x8,x9⟩:=k3;have og:∀ b o,b∈frs (envOfC qual scope s.heap.objs.size f cd :: outer)->s'.heap.get? b=some o->∃ sl,h'.get? b=some { o with slots:=sl }:=λb o hb e1=>k4 b o e1 (I.fnd hb e1);have kept:∀ b o,b ∉ e :: T.toList->b ∉ frs (envOfC qual scope s.heap.objs.size f cd :: outer)->s'.heap.get? b=some o->h'.get? b=some o:=λb o h1 h2 e1=>k1 b o (hB b o h1 h2 e1);have nL:∀ b o,s.heap.get? b=some o->b ∉ frs outer->b ∉ frs (envOfC qual scope s.heap.objs.size f cd :: outer):=λb o e1 h2 z=>by
   have z':b∈s.heap.objs.size :: frs outer:=z
   rcases Ar z' with z1 | z1
   ·rw [z1] at e1; exact absurd (Ao e1) (Nat.lt_irrefl _)
   ·exact h2 z1
  have nE:∀ b o,s.heap.get? b=some o->b ∉ e :: T.toList:=λb o e1 z=>by rw [n0 b z] at e1; cases e1
  have trk:∀ b u,H' b=some u->∀ o,s'.heap.get? b=some o->h'.get? b=some o:=λb u hu o e1=>by
   refine kept b o (λz=>by rw [nt b z] at hu; cases hu) (λz=>?_) e1;rw [I.stkFree b z] at hu; cases hu
  have hT':s.heap.get? T'=none/\H' T'=none:=by
   by_cases hz:s'.heap.get? T'=none
   ·refine ⟨?_,I.untr hz⟩
    cases q':s.heap.get? T' with
    | none=>rfl
    | some o =>
     obtain ⟨o',e'⟩:=I.base.there T' o q' (by simp [cxOf]);rw [hz] at e'; cases e'
   ·obtain ⟨o,ho⟩:=Option.ne_none_iff_exists'.mp hz
    by_cases h1:T'∈e :: T.toList
    ·exact ⟨n0 T' h1,nt T' h1⟩
    ·by_cases h2:T'∈frs (envOfC qual scope s.heap.objs.size f cd :: outer)
     ·exfalso
      obtain ⟨sl,e'⟩:=og T' o h2 ho;rw [x7] at e';cases e';exact I.fnd h2 ho ts x8
     ·rw [hB T' o h1 h2 ho] at x5; cases x5
  refine ⟨e,T',cls,a0,H',Y,I.os,I.bare,?_,λb u hu=>?_,fe.n0,hT'.1,fe.nt,hT'.2,⟨oe,vs,oT,ts,x1,x2,x3,x4,x6,x7,x8,x9⟩,q⟩
  ·refine Un.leave I.base (λb o e1 h1 e2=>kept b o (nE b o e1) (nL b o e1 h1) e2) (λb o hb e1=>og b o (List.mem_cons_of_mem _ hb) e1) λb o e1 o' e2=>?_
   by_cases h2:b∈frs outer
   ·obtain ⟨sl,e'⟩:=og b o' (List.mem_cons_of_mem _ h2) e2
    exact ⟨_,e'⟩
   ·exact ⟨o',kept b o' (nE b o e1) (nL b o e1 h2) e2⟩
  ·refine (I.hok b u hu).stay (λc v hc e1=>?_) (λ_ z=>z) λ_ _ z=>z
   rcases hc with z | z
   ·exact trk c u (by rw [z]; exact hu) v e1
   ·exact trk c _ z v e1
 cases T with
 | none =>
  obtain ⟨oe,vs,x1,x2,x3,x4⟩:=hx;obtain ⟨x21,x22⟩:=x2;subst x21;exact wpAny_leaving_firstW uy hl Y x1 hkb hen x3 x4 x22 ik
 | some t =>
  obtain ⟨oe,vs,oT,ts,x1,x2,x3,x4,x5,x6,x7,x8⟩:=hx;exact wpAny_leaving_nextW uy hl Y ⟨oe,vs,t,oT,ts,x1,x2,x3,x4,PySem.W.hideAll_none _ (List.mem_append_left _ (by simp)),x5,x6,x7,x8⟩ hkb hen ik
def Fun.okX {x qual:Str} {st:Stmt} {f:Addr} {fd:FuncData} {N ps:List Str} {k:Nat} {sp:Sp} (F:Fun K x qual st f fd) (S:FnScope N ps (Zh st)) (len:∀ vs H Q E,sp vs H Q E->vs.length=ps.length)
  (ja:∀ (ij:Value) (A:Around) (outer:List Env) (s:Shared) (H:Hp) (vs:List V) (Q:VK) (E:XK),Room k (A.deeper (envOfC qual (Zh st) s.heap.objs.size f ij))->sp vs H Q E ->
   ∃ t,PSsX true (cxOf (CXr P w) P w K mg base N qual (Zh st) f ij A outer s H E).nox (Yq st) t/\t { nx:=λ_ H'=>Q .non H',rt:=Q } (λcls _ H'=>E cls none H') (start N vs) H):FnOk P w K mg base (CXr P w) (k + 1) f fd ps sp:=by
 obtain ⟨oc,od,kV,im,pm,an,ij,ct,ph,rfl,lk,me⟩:=F.ex;refine Zkq lk me S len λA outer s H vs Q E hr jn=>?_;obtain ⟨t,h,q⟩:=ja ij A outer s H vs Q E hr jn;refine ⟨λD σ H'=>t D (λcls _ xa=>E cls none xa) σ H',λf8 s' σ' H' D I hD=>?_,q⟩;refine wpAny_mono (h f8 s' σ' H' D _ (I.wish _) hD) (λ_ _ z=>z.unwish) λev l7 z=>Zju (fr:=true) ?_;obtain ⟨e,T,cls,a0,σ2,H2,h1,h2,h3,h4,h5,h7,h6⟩:=z;exact ⟨e,T,cls,a0,σ2,H2,h1,h2.pins_of (λp hp=>absurd hp (by simp)),h3,h4.none,λt ht=>(h5 t ht).none,h7,h6⟩
end
section
variable {X:Cx}
def Inv.exc {f8:List (Addr × Obj)} {σ:St} {H:Hp} {s:Shared} {e T:Addr} {h':Heap} (I:Inv X f8 σ H s) (hex:X.ex=[]) (fe:FxOk X f8 H e) (fT:FxOk X f8 H T)
  (keep:∀ b o,b≠e->b≠T->b ∉ frs X.stack->s.heap.get? b=some o->h'.get? b=some o) (slot:∀ b o,b∈frs X.stack->s.heap.get? b=some o->∃ sl,h'.get? b=some { o with slots:=sl }):Inv X f8 σ H { s with heap:=h' }:=by
 have fss:∀ b∈X.fs,b∈frs X.stack:=λb hb=>by
  rcases I.ok.stk with z | ⟨z,hf⟩
  ·rw [z]; exact hb
  ·rw [z]; unfold frs; rw [List.filterMap_cons,hf]; exact List.mem_cons_of_mem _ hb
 have data:∀ b o,b≠e->b≠T->s.heap.get? b=some o->∃ sl,h'.get? b=some { o with slots:=sl }:=λb o h1 h2 e1=>by
  by_cases hb:b∈frs X.stack
  ·exact slot b o hb e1
  ·exact ⟨o.slots,keep b o h1 h2 hb e1⟩
 have ne0:∀ b o,X.s₀.heap.get? b=some o->b≠e/\b≠T:=λb o e1=>⟨λz=>(by rw [z,fe.n0] at e1; cases e1),λz=>(by rw [z,fT.n0] at e1; cases e1)⟩;have kf:∀ x c,X.env.cells.lookup x=some c->∀ v,s.heap.IsCell c v->h'.IsCell c v:=λx c ec v ⟨o,ho,hd⟩=>by
  obtain ⟨sl,e1⟩:=data c o (fe.nc x c ec) (fT.nc x c ec) ho
  exact ⟨_,e1,hd⟩
 refine ⟨I.ok,I.os,I.bare,⟨λb o e0 n hb hx=>?_,λb o e0 n hb hx=>?_,I.base.free,λb o e0 hx=>?_,I.base.tups,I.base.frzs,I.base.tbls⟩,?_,λx c ec=>?_,I.free,I.freeC,λp hp=>?_,λb u hu=>?_,I.len⟩
 ·obtain ⟨n1,n2⟩:=ne0 b o e0
  refine keep b o n1 n2 (λz=>?_) (I.base.keep b o e0 n hb hx)
  rcases Ar (I.stkSub b z) with z1 | z1
  ·rw [z1] at e0; exact absurd (Ag (Ao e0) I.ok.above) (Nat.lt_irrefl _)
  ·exact hb z1
 ·obtain ⟨sl,e1⟩:=I.base.slot b o e0 n hb hx
  obtain ⟨vm,e2⟩:=slot b _ (fss b hb) e1;exact ⟨vm,e2⟩
 ·obtain ⟨n1,n2⟩:=ne0 b o e0
  obtain ⟨o',e1⟩:=I.base.there b o e0 hx;obtain ⟨sl,e2⟩:=data b o' n1 n2 e1;exact ⟨_,e2⟩
 ·obtain ⟨m,hn,hl⟩:=I.loc
  refine ⟨m,?_,λi x v e1 e2 e3=>?_⟩
  ·obtain ⟨o,es,ep,ho,hd,r⟩:=hn
   obtain ⟨sl,e1⟩:=data _ o (Ne.symm fe.nl) (Ne.symm fT.nl) ho;exact ⟨_,es,ep,e1,hd,r⟩
  ·obtain ⟨u,r,l⟩:=hl i x v e1 e2 e3
   refine ⟨u,r,?_⟩
   rcases l with l | ⟨k,c,ec,z⟩
   ·exact .inl l
   ·exact .inr ⟨k,c,ec,kf x c ec _ z⟩
 ·obtain ⟨v,z⟩:=I.cell x c ec
  exact ⟨v,kf x c ec v z⟩
 ·obtain ⟨e1,n,ne,nf,d⟩:=I.pin p hp
  refine ⟨keep p.1 p.2 (fe.np p hp) (fT.np p hp) (λz=>?_) e1,n,ne,nf,d⟩
  rcases Ar (I.stkSub p.1 z) with z1 | z1
  ·exact ne z1
  ·exact nf z1
 ·have trk:∀ b u,H b=some u->∀ o,s.heap.get? b=some o->h'.get? b=some o:=λb u hu o e1=>by
   refine keep b o (λz=>by rw [z,fe.nt] at hu; cases hu) (λz=>by rw [z,fT.nt] at hu; cases hu) (λz=>?_) e1;rw [I.stkFree b z] at hu; cases hu
  refine (I.hok b u hu).stay (λc v hc e1=>?_) (λ_ z=>z) λ_ _ z=>z
  rcases hc with z | z
  ·exact trk c u (by rw [z]; exact hu) v e1
  ·exact trk c _ z v e1
def O3 (X:Cx) (e:Addr):Cx:={ X with A:=X.A.mark (some (.ref e)),calm:=false }
def Inv.hnd {f8:List (Addr × Obj)} {σ:St} {H:Hp} {s:Shared} (I:Inv X f8 σ H s) (e:Addr):Inv (O3 X e) f8 σ H s :=
 ⟨⟨I.ok.mod,I.ok.kind,I.ok.glob,I.ok.blt,I.ok.above,I.ok.inj,I.ok.has,I.ok.cab,λh=>absurd (show false=true from h) Bool.false_ne_true,I.ok.frames,I.ok.stk,I.ok.exf,I.ok.bs,I.ok.bsz,I.ok.noex,I.ok.exfs,I.ok.funs,I.ok.frf⟩,
  I.os,I.bare,I.base,I.loc,I.cell,I.free,I.freeC,I.pin,I.hok,I.len⟩
def Inv.unhnd {f8:List (Addr × Obj)} {σ:St} {H:Hp} {s:Shared} {e:Addr} (I:Inv (O3 X e) f8 σ H s) (ok:X.Ok):Inv X f8 σ H s :=
 ⟨ok,I.os,I.bare,I.base,I.loc,I.cell,I.free,I.freeC,I.pin,I.hok,I.len⟩
def SP.unhnd {f8:List (Addr × Obj)} {D:Ends} {f:Flow} {s':Shared} {e:Addr} (h:SP (O3 X e) f8 D f s') (ok:X.Ok):SP X f8 D f s':=by
 cases f with
 | next=>obtain ⟨σ',H',I,q⟩:=h; exact ⟨σ',H',I.unhnd ok,q⟩
 | brk=>obtain ⟨σ',H',I,q⟩:=h; exact ⟨σ',H',I.unhnd ok,q⟩
 | cont=>obtain ⟨σ',H',I,q⟩:=h; exact ⟨σ',H',I.unhnd ok,q⟩
 | ret u=>obtain ⟨v,σ',H',I,r,q⟩:=h; exact ⟨v,σ',H',I.unhnd ok,r,q⟩
def Znz {f8:List (Addr × Obj)} {σ:St} {H:Hp} {s:Shared} {e T:Addr} {cls a0:Value} (I:Inv X f8 σ H s) (hx:FlyT e T cls a0 s.heap) :
  Heap.FlyingW (PySem.W.hideAll s.heap (e :: T :: frs X.stack)) X.stack e cls a0 s.heap:=by
 obtain ⟨oe,vs,oT,ts,x1,x2,x3,x4,x5,x6,x7,x8⟩:=hx;exact ⟨λb o e1=>PySem.W.of_hideAll _ e1,PySem.W.hideAll_none _ (by simp),V6 I _ λb hb=>by simp [hb],oe,vs,T,oT,ts,x1,x2,x3,x4,PySem.W.hideAll_none _ (by simp),x5,x6,x7,x8⟩
def Inv.flown {f8:List (Addr × Obj)} {σ:St} {H:Hp} {s:Shared} {e T:Addr} {h':Heap} (I:Inv X f8 σ H s) (hex:X.ex=[]) (fe:FxOk X f8 H e) (fT:FxOk X f8 H T)
  (j5:(PySem.W.hideAll s.heap (e :: T :: frs X.stack)).StaysIn h') (ng:s.heap.UpToSlots h'):Inv X f8 σ H { s with heap:=h' }:=by
 refine I.exc hex fe fT (λb o h1 h2 h3 e1=>j5 b o (PySem.W.hideAll_get _ e1 λz=>?_)) λb o hb e1=>ng b o e1 (I.fnd hb e1)
 rcases Ar z with z | z
 ·exact h1 z
 ·rcases Ar z with z | z
  ·exact h2 z
  ·exact h3 z
def Zn7 (tb:TSX) (C:Addr) (ts:TS):TS:=λD σ H=>tb D (λcls σ' H'=>cls=.ref C/\ts D σ' H') σ H
def Zej {body:List Stmt} {b₀:Stmt} {rc:List Stmt} {x:Str} {np mq pos:Pos} {tb:TSX} {ts:TS} {C:Addr} {q9:List Value} {jk:String} (K:ExcK X.K C q9 jk) (ke:q9.contains (.type "BaseException")=true)
  (hg:Gl X x) (hm:X.mg x=some (.ref C)) (hb:PSsX false X body tb) (hs:∀ e,PSs (O3 X e) (b₀ :: rc) ts)
  (hex:X.ex=[]:=by rfl) (hx:X.xe=(λ_ _=>False):=by rfl) (qd:∃ o,X.stack=X.env :: o:=by exact ⟨_,Y⟩) (uy:X.env.frame=some X.env.locals:=by rfl) (ju:(x == ("__debug__":Str))=false:=by decide) :
  PS X (.Try body [.ExceptHandler (some (.Name x np)) none (b₀ :: rc) mq] [] [] pos) (Zn7 tb C ts):=by
 intro f8 s σ H D I h;obtain ⟨outer,qd⟩:=qd;refine wpAny_Try_except (wpAny_mono (hb f8 s σ H D _ I h) (λf s1 q=>?_) ?_)
 ·cases f with
  | next=>exact wpAny_execs_nil q
  | ret v=>exact q
  | brk=>exact q
  | cont=>exact q
 ·rintro ev s1 ⟨e,T,cls,a0,σ1,H1,rfl,I1,hx1,fe,fT,hT,rfl,q⟩
  obtain ⟨T,rfl⟩:∃ t,T=some t:=by
   cases T with
   | none=>exact absurd (hT Y) Bool.false_ne_true
   | some t=>exact ⟨t,Y⟩
  have fT:=fT T rfl;have o3:=Znz I1 hx1;have hA:X.A.frames=some (X.env :: outer):=by rw [I.ok.frames,qd]
  have hf1':Heap.FlyingW (PySem.W.hideAll s1.heap (e :: T :: frs X.stack)) (X.env :: outer) e (.ref C) a0 s1.heap:=by
   have:=o3;generalize PySem.W.hideAll s1.heap (e :: T :: frs X.stack)=B at this ⊢;rw [qd] at this;exact this
  refine wpAny_looks_onW hA uy hf1' λh₄ hheld₄ hsm₄=>?_;refine wpAny_landsW hheld₄ λh₅ om hsm₅'=>?_;have hsm₅:=hsm₄.trans hsm₅';have I5:Inv X f8 σ1 H1 { s1 with heap:=h₅ }:=I1.flown hex fe fT om.1 hsm₅;obtain ⟨ob,hob,hobc⟩:=om.there;obtain ⟨bm,N,nm,qn,bs,hdct,sn,sub,ab,col,dd,k0,k1,k2,k3,k5,mN,hC,hN,wq,TL⟩:=Ze0 I5.kIn K.q;refine wpAny_handleBy_cons (codeAny_handlers_test (Qw (X:=O3 X e) (I5.hnd e) hg hm ?_ ju)) (by intro q; cases q);refine wpAny_excMatches_sub_self hC hob hobc (TL.hasType ke) (codeAny_handlers_suite ?_);refine lands_againW om λh₆ hfl₆ hsm₆=>?_;have I6:Inv X f8 σ1 H1 { s1 with heap:=h₆ }:=I1.flown hex fe fT hfl₆.1 (hsm₅.trans hsm₆);have h6:=hs e f8 _ σ1 H1 D (I6.hnd e) q;have rn:(O3 X e).xe=λ_ _=>False:=hx;rw [rn] at h6;refine wpAny_mono h6 (λf s2 q2=>?_) λ_ _ z=>z.elim;exact q2.unhnd I6.ok
end
section
variable {X:Cx} {f8:List (Addr × Obj)} {σ:St} {H:Hp} {s:Shared} {A:Around} {E:Value->Shared->Prop} {a:Addr}
def Zn3 {kvs:List (Key × V)} (I:Inv X f8 σ H s) (e:H a=some (.dK kvs)) (hl:kvs.length < sizeLine) (ry:RelV (kV k) u) (rd:RelV d r)
  (h1:∀ v w' s',valV kvs k=some v->Inv X f8 σ H s'->RelV v w'->Q w' s') (h2:valV kvs k=none->∀ s',Inv X f8 σ (upd H a (.dK (putK kvs k d))) s'->Q r s') :
  wpAny (model X.prog X.w) A (call (.builtin "dict.setdefault") [.ref a,u,r]) Q E s:=by
 obtain ⟨z,hd,vs,gw,dd⟩:=Zf4 I.hok e;have hz:vs.length<=sizeLine:=by rw [<- gw.length]; exact z
 refine call_meetsIn PySem.F.slot_dict_setdefault dd.typeIs PySem.F.entry_dict_setdefault (PySem.F.args_dict_setdefault_3 _ _ _) (kt_meets_setdefault (Z1 X.prog X.w) a (Ul ry) hd r) ⟨vs,dd,hz,λv hv=>?_,λhv h' o9 hs=>?_⟩
 ·have jw:=gw.val k
  rw [hv] at jw
  cases q:valV kvs k with
  | none=>rw [q] at jw; exact jw.elim
  | some y=>rw [q] at jw; exact h1 y v _ q (I.tok _) jw
 ·have jw:=gw.val k
  rw [hv] at jw
  cases q:valV kvs k with
  | some y=>rw [q] at jw; exact jw.elim
  | none =>
   have he:∃ q,h'.get? a=some q:=let ⟨q,_,_,hq,_⟩:=o9; ⟨q,hq⟩
   have iw:(putK kvs k d).length<=sizeLine:=by have:=J2 kvs k d; lia
   exact h2 q _ (O4 I (by rw [e]; exact True.intro) hs he (Zc8 iw hd (gw.put k rd) o9))
end
def Zmy (td ty tx:TE):TE:=λσ H Q=>td σ H λx H1=>∃ a,x=.ref a/\IsD H1 a/\ty σ H1 λy H2=>tx σ H2 λz H3=>∃ kvs k,H3 a=some (.dK kvs)/\kvs.length < sizeLine/\y=kV k /\
 (∀ v,valV kvs k=some v->Q v H3)/\(valV kvs k=none->Q z (upd H3 a (.dK (putK kvs k z))))
section
variable {X:Cx} {o e f:Expr} {gu gm:Pos} {td ty tx:TE}
def Zjd (ho:PE X o td) (he:PE X e ty) (hf:PE X f tx) (m:M2 X o "setdefault" gu e f gm):PE X (.Call (.Attribute o "setdefault" gu) [e,f] [] gm) (Zmy td ty tx):=by
 intro f8 s σ H Q I h;refine wpAny_Call_method m.base m.few m.line PySem.F.plainAttrs_dict PySem.F.slot_dict_setdefault PySem.F.type_dict_setdefault (thn (ho f8 s σ H _ I h) λu s1 gk=>?_);obtain ⟨x,H1,I1,rx,a,ex,d,q1⟩:=gk;subst ex;obtain rfl:u=Value.ref a:=rx;obtain ⟨t1,t2,_⟩:=Gz I1 d;refine ⟨t1,t2,?_⟩;rw [m.trees];refine Calls.callWith_builtin rfl (Calls.evalArgs_plain (Calls.spliced_cons (thn (he f8 s1 σ H1 _ I1 q1) λiv s2 ⟨y,H2,I2,ry,q2⟩ =>
  Calls.spliced_cons (thn (hf f8 s2 σ H2 _ I2 q2) λfv s3 ⟨z,H3,I3,rz,kvs,k,hk,hl,ey,q3,q4⟩=>Calls.spliced_nil ?_))))
 subst ey;exact Zn3 I3 hk hl ry rz (λv w' s' hv I' kl=>⟨v,H3,I',kl,q3 v hv⟩) λhv s' I'=>⟨z,_,I',rz,q4 hv⟩
def Zc3 {kvs:List (Key × V)} {vs:List (Key × Value)} {ks:List Int} (gw:KV kvs vs) (hk:kvs.map (·.1)=ks.map Sum.inl) {us:List Value} (hl:us.length=vs.length)
  (hu:∀ (j:Nat) (v:Value),us[j]?=some v->∃ k x,vs[j]?=some (k,x)/\(Z1 P w).is k v=true):IntsAre us ks:=by
 have l9:kvs.length=ks.length:=by have:=congrArg List.length hk; simpa using this
 have hvl:kvs.length=vs.length:=gw.length
 have key:∀ (j:Nat) (v:Value),us[j]?=some v->∃ i t,ks[j]?=some i/\v=Value.int i t:=λj v hv=>by
  obtain ⟨k,x,hx,hi⟩:=hu j v hv;have e1:(vs.map (·.1))[j]?=some k:=by rw [Ah,hx]; rfl
  have e2:vs.map (·.1)=kvs.map (·.1):=by
   clear hk hl hu l9 hvl hx hi e1
   induction gw with
   | nil=>rfl
   | cons r t ih=>rw [List.map_cons,List.map_cons,ih,r.1]
  rw [e2,hk,Ah] at e1
  cases q:ks[j]? with
  | none=>rw [q] at e1; cases e1
  | some i =>
   rw [q] at e1;have e3:Sum.inl i=k:=Ax e1;subst e3;obtain ⟨t,ht⟩:=Value.isInt_shape (k:=i) (v:=v) hi;exact ⟨i,t,Y,ht⟩
 have gen:∀ (us:List Value) (ks:List Int),us.length=ks.length->(∀ (j:Nat) (v:Value),us[j]?=some v->∃ i t,ks[j]?=some i/\v=Value.int i t)->IntsAre us ks:=by
  intro us
  induction us with
  | nil =>
   intro ks hl _
   cases ks with
   | nil=>exact .nil
   | cons _ _=>simp at hl
  | cons u r ih =>
   intro ks hl h
   cases ks with
   | nil=>simp at hl
   | cons i ks =>
    obtain ⟨i',t,e1,e2⟩:=h 0 u rfl;have e1':i=i':=by simpa using e1
    subst e1' e2;exact .cons i t (ih ks (by simpa using hl) λj v hv=>h (j + 1) v (by simpa using hv))
 exact gen us ks (by lia) key
def Os (hc:X.calm=true):Y5 X (.builtin "sorted") (λxs H Q=>∃ (d:Addr) (kvs:List (Key × V)) (ks:List Int),xs=[.ref d]/\Rd H d (.dK kvs)/\kvs.map (·.1)=ks.map Sum.inl/\ks.length < 64 /\
  ∀ (p:Addr) (out:List Int),H p=none->out.Perm ks->out.Pairwise (·<=·)->Q (.ref p) (upd H p (.lst (out.map V.int)))):=by
 intro f8 s σ H xs us Q I r h;obtain ⟨d,kvs,ks,rfl,hd,hk,jm,q⟩:=h;obtain ⟨u,rfl,ru⟩:=Wb r;obtain rfl:u=Value.ref d:=ru;obtain ⟨z,jg,vs,gw,dd⟩:=Vk I.hok hd;obtain ⟨ep,ww⟩:=dd.dictAt;have gc:vs.length=ks.length:=by have:=congrArg List.length hk; rw [Ab,Ab] at this; have:=gw.length; lia
 have hn:vs.length<=sizeLine:=by rw [sizeLine_eq]; lia
 refine Calls.call_function_entry kind_sorted plain_sorted entry_sorted (args_sorted1 _) ?_;unfold Builtin.«sorted»;refine Al (m:=checkCount "sorted" 1 1 _) (wpAny_pure ?_);refine Al (PySem.W.kdu_collect (A:=X.A.in1) (PySem.W.kdl_dict (knd:=Z1 X.prog X.w) (kvs:=vs) (ep:=ep) jg) (I.ok.hd hc) ww hn λh' tk gj js n8=>?_);have hl:gj.toList.length=vs.length:=by rw [Array.length_toList]; exact n8.1
 have hI:IntsAre gj.toList ks:=Zc3 (P:=X.prog) (w:=X.w) gw hk hl λj v hv=>n8.2 j v (by rw [<- Array.getElem?_toList]; exact hv);refine Al (wpAny_newList ?_ (by rw [hl]; exact hn));have I1:Inv X f8 σ H { s with heap:=h',toks:=tk }:=I.kept js;have pz:(h'.push { cls:=.type "list",data:=.seq gj.toList.toArray }).get? h'.objs.size=some (seqObj "list" gj.toList.toArray 0):=Ap _ rfl;refine Al (wpAny_holding (wpAny_call_entry slot_list_sort ⟨_,pz,Y⟩ entry_list_sort (list_sort_tree pz hI (by lia) λout pi a1 a2 a3=>⟨_,Y,?_⟩) (args_list_sort _)));refine wpAny_pure ⟨_,Y,?_⟩;obtain ⟨e,he⟩:=sortedHeap_at (out:=out) pz;have kp:∀ b u,h'.get? b=some u->(sortedHeap (h'.push { cls:=.type "list",data:=.seq gj.toList.toArray }) h'.objs.size gj.toList out).get? b=some u:=λb u hb=>by
  have gr:b < h'.objs.size:=Ao hb
  rw [sortedHeap_old (As gr) (by rw [Heap.size_push]; exact Nat.lt_succ_of_lt gr)]
  exact Ak _ hb
 have hv:Vals (pi.map V.int) out.toList:=by
  clear he kp;generalize out.toList=l at a1;clear a2 a3
  induction a1 with
  | nil=>exact .nil
  | cons i t _ ih=>exact .cons ⟨_,Y⟩ ih
 refine ⟨.ref h'.objs.size,upd H h'.objs.size (.lst (pi.map V.int)),I1.laid kp (An _) ?_,Y,q _ pi I1.fresh a2 a3⟩;refine ⟨?_,out.toList,e,hv,?_⟩
 ·rw [Ab,a2.length_eq,sizeLine_eq]; lia
 ·rw [he]
end
section
variable {X:Cx} {f8:List (Addr × Obj)} {σ:St} {H:Hp} {s:Shared} {a:Addr}
def Inv.freeze (I:Inv X f8 σ H s) (e:H a=some u) (mu:Mut (some u)) (ho:s.heap.get? a=some ob):Inv X f8 σ (upd H a (.frz ob u)) s:=by
 have mm:∀ c y,H c=some (.own y)->c≠a:=λc y r z=>by subst z; rw [r] at e; cases e; exact mu
 have kz:∀ c xs,H c=some (.tup xs)->c≠a:=λc xs r z=>by subst z; rw [r] at e; cases e; exact mu
 have nfrz:∀ c o xs,H c=some (.frz o xs)->c≠a:=λc o xs r z=>by subst z; rw [r] at e; cases e; exact mu
 have ntbl:∀ c ps,H c=some (.tbl ps)->c≠a:=λc ps r z=>by subst z; rw [r] at e; cases e; exact mu
 have un:Un X.fs [] H (upd H a (.frz ob u)) s.heap s.heap:=⟨λ_ _ q _ _ _=>q,λ_ o q _ _ _=>⟨o.slots,q⟩,λb o q n _=>by rw [Zf (λz=>by rw [z,e] at n; cases n)]; exact n,λb o q _=>⟨o,q⟩,
  λb xs q=>by rw [Zf (kz b xs q)]; exact q,λb o xs q=>by rw [Zf (nfrz b o xs q)]; exact q,λb ps q=>⟨#[],by rw [Zf (ntbl b ps q),q]; simp⟩⟩
 have hok:HOk X.prog X.w (upd H a (.frz ob u)) s.heap:=λb v q=>by
  have st:∀ c w',Z9 X.prog X.w H s.heap c w'->Z9 X.prog X.w (upd H a (.frz ob u)) s.heap c w':=λc w' x=>x.stay (λ_ _ _ q=>q) (λd r=>by rw [Zf (mm d c r)]; exact r) λd xs r=>by rw [Zf (kz d xs r)]; exact r
  by_cases hb:b=a
  ·subst hb
   rw [Zc] at q;cases q;exact ⟨ho,st _ _ (I.hok _ _ e)⟩
  ·rw [Zf hb] at q
   exact st _ _ (I.hok b v q)
 exact I.un (h':=s.heap) (t':=s.toks) un hok
end
section
def KV.at {kvs:List (Key × V)} {vs:List (Key × Value)} (r:KV kvs vs):∀ {i:Nat} {k:Key} {v:V},kvs[i]?=some (k,v)->∃ u,vs[i]?=some (k,u)/\RelV v u:=by
 induction r with
 | nil=>intro i k v h; simp at h
 | cons r t ih =>
  intro i k v h
  cases i with
  | zero =>
   simp at h;subst h;exact ⟨_,by rw [List.getElem?_cons_zero]; exact congrArg some (Prod.ext r.1.symm Y),r.2⟩
  | succ i =>
   obtain ⟨u,h1,h2⟩:=ih (by simpa using h);exact ⟨u,by simpa using h1,h2⟩
def Zkn (h:(Z1 P w).is k u=true):RelV (kV k) u:=by
 cases k with
 | inl i=>obtain ⟨t,e⟩:=Value.isInt_shape (k:=i) (v:=u) h; exact ⟨t,e⟩
 | inr x=>obtain ⟨t,e⟩:=Value.isStrOf_shape (x:=x) (v:=u) h; exact ⟨t,e⟩
def X4 {X:Cx} {s:Shared} (I:Inv X f8 σ H s) (e:H d=some (.frz o (.dK kvs))) :
  ∃ vs ep,KV kvs vs/\s.heap.DictAt (Z1 X.prog X.w) d vs ep/\s.heap.get? d=some o:=by
 obtain ⟨ho,_,_,vs,gw,dd⟩:=I.hok d _ e;obtain ⟨ep,da⟩:=dd.dictAt;exact ⟨vs,ep,gw,da,ho⟩
def epOf (o:Obj):Nat:=match o.data with
 | .dict _ ep=>ep
 | _=>0
def Qr {h:Heap} (da:h.DictAt (Z1 P w) d vs ep) (ho:h.get? d=some o):ep=epOf o:=by
 obtain ⟨o',es,h1,_,h2,_⟩:=da;rw [ho] at h1;cases h1;unfold epOf;rw [h2]
def Zge {P:Program} {w:World} {K:W.Frag} {tg:Expr} (d it:Addr) (kvs:List (Key × V)) (o:Obj) :
  Turn P w K tg ⟨λi H=>i < kvs.length/\H d=some (.frz o (.dK kvs)),λi H x H'=>H'=H/\∃ k v,kvs[i]?=some (k,v)/\x=kV k,λi H=>kvs.length<=i/\H d=some (.frz o (.dK kvs))⟩ [it] it (λi h=>h.IsKeyIter it d i kvs.length (epOf o)) where
 mem:=by simp
 obj:=λi h st b hb=>by
  have e:b=it:=by simpa using hb
  subst e;obtain ⟨o,e,c,d⟩:=st;exact ⟨o,e,λv z=>by rw [d] at z; cases z⟩
 keep:=λi h h' st k=>st.at λo e=>k it (by simp) o e
 item:=by
  intro X hP hw hK hc i f8 s σ H E I hf st hg;subst hP hw hK;obtain ⟨hi,hq⟩:=hg;obtain ⟨vs,ep,gw,da,ho⟩:=X4 I hq;have j7:=Qr da ho;subst j7;obtain ⟨f0,f1,f2,f3,f4,f5⟩:=hf it (by simp);obtain ⟨⟨k,v⟩,hx⟩:∃ p,kvs[i]?=some p:=⟨_,Ac hi⟩;obtain ⟨u,hu,ru⟩:=gw.at hx;have gc:vs.length=kvs.length:=gw.length.symm;rw [<- gc] at st;refine wpAny_pyNext_dict_item st da hu λkey h' hk gl sb=>?_;have I1:Inv X f8 σ H { s with heap:=h' }:=I.turned (t':=s.toks) (λb o hb e=>(sb.2 b hb).trans e) f0 f1 f3 f4 f5;rw [gc] at gl;obtain ⟨oi,e,c,dd⟩:=id gl;exact ⟨key,Y,Um (s:={ s with heap:=h' }) e c dd (by decide) ⟨kV k,H,I1,Zkn hk,⟨Y,k,v,hx,Y⟩,gl,λb hb=>(hf b hb).1⟩⟩
 done:=by
  intro X hP hw hK hc i f8 s σ H E I hf st hg;subst hP hw hK;obtain ⟨hi,hq⟩:=hg;obtain ⟨vs,ep,gw,da,ho⟩:=X4 I hq;have j7:=Qr da ho;subst j7;obtain ⟨f0,f1,f2,f3,f4,f5⟩:=hf it (by simp);have gc:vs.length=kvs.length:=gw.length.symm;rw [<- gc] at st;exact wpAny_pyNext_dict_end (I.ok.hd hc) st da (by rw [Ay]; lia) λh' eb=>⟨rfl,I.turned (t':=s.toks) (λb o hb e=>eb b o hb e) f0 f1 f3 f4 f5⟩
 self:=λ_ _ _ _ _ st h=>wpAny_pyIter_keyiter st h
def Zgc {P:Program} {w:World} {K:W.Frag} {tg:Expr} (d it:Addr) (kvs:List (Key × V)) (o:Obj) :
  Turn P w K tg ⟨λi H=>i < kvs.length/\H d=some (.frz o (.dK kvs)),λi H x H'=>H'=H/\∃ k,kvs[i]?=some (k,x),λi H=>kvs.length<=i/\H d=some (.frz o (.dK kvs))⟩ [it] it (λi h=>h.IsValIter it d i kvs.length (epOf o)) where
 mem:=by simp
 obj:=λi h st b hb=>by
  have e:b=it:=by simpa using hb
  subst e;obtain ⟨o,e,c,d⟩:=st;exact ⟨o,e,λv z=>by rw [d] at z; cases z⟩
 keep:=λi h h' st k=>st.at λo e=>k it (by simp) o e
 item:=by
  intro X hP hw hK hc i f8 s σ H E I hf st hg;subst hP hw hK;obtain ⟨hi,hq⟩:=hg;obtain ⟨vs,ep,gw,da,ho⟩:=X4 I hq;have j7:=Qr da ho;subst j7;obtain ⟨f0,f1,f2,f3,f4,f5⟩:=hf it (by simp);obtain ⟨⟨k,v⟩,hx⟩:∃ p,kvs[i]?=some p:=⟨_,Ac hi⟩;obtain ⟨u,hu,ru⟩:=gw.at hx;have gc:vs.length=kvs.length:=gw.length.symm;rw [<- gc] at st;refine wpAny_pyNext_values_item st da hu λh' gl sb=>?_;have I1:Inv X f8 σ H { s with heap:=h' }:=I.turned (t':=s.toks) (λb o hb e=>(sb.2 b hb).trans e) f0 f1 f3 f4 f5;rw [gc] at gl;obtain ⟨oi,e,c,dd⟩:=id gl;exact ⟨u,Y,Um (s:={ s with heap:=h' }) e c dd (by decide) ⟨v,H,I1,ru,⟨Y,k,hx⟩,gl,λb hb=>(hf b hb).1⟩⟩
 done:=by
  intro X hP hw hK hc i f8 s σ H E I hf st hg;subst hP hw hK;obtain ⟨hi,hq⟩:=hg;obtain ⟨vs,ep,gw,da,ho⟩:=X4 I hq;have j7:=Qr da ho;subst j7;obtain ⟨f0,f1,f2,f3,f4,f5⟩:=hf it (by simp);have gc:vs.length=kvs.length:=gw.length.symm;rw [<- gc] at st;exact wpAny_pyNext_values_end (I.ok.hd hc) st da (by rw [Ay]; lia) λh' eb=>⟨rfl,I.turned (t':=s.toks) (λb o hb e=>eb b o hb e) f0 f1 f3 f4 f5⟩
 self:=λ_ _ _ _ _ st h=>wpAny_pyIter_valiter st h
end
section
variable {X:Cx} {tg:Expr} {l:Expr} {tl:TE}
def Itk2 (d:Addr) (kvs:List (Key × V)) (o:Obj):It:=⟨λi H=>i < kvs.length/\H d=some (.frz o (.dK kvs)),λi H x H'=>H'=H/\∃ k v,kvs[i]?=some (k,v)/\x=kV k,λi H=>kvs.length<=i/\H d=some (.frz o (.dK kvs))⟩
def Itv2 (d:Addr) (kvs:List (Key × V)) (o:Obj):It:=⟨λi H=>i < kvs.length/\H d=some (.frz o (.dK kvs)),λi H x H'=>H'=H/\∃ k,kvs[i]?=some (k,x),λi H=>kvs.length<=i/\H d=some (.frz o (.dK kvs))⟩
def Zf0 (J:Addr->List (Key × V)->Obj->It) (tl:TE):TI:=λσ H R=>tl σ H λx H1=>∃ a kvs,x=.ref a/\((H1 a=some (.dK kvs)/\∀ o,R (J a kvs o) (upd H1 a (.frz o (.dK kvs))))\/∃ o,H1 a=some (.frz o (.dK kvs))/\R (J a kvs o) H1)
def Ky {R:Obj->Hp->Prop} (I:Inv X f8 σ H s)
  (h:(H a=some (.dK kvs)/\∀ o,R o (upd H a (.frz o (.dK kvs))))\/∃ o,H a=some (.frz o (.dK kvs))/\R o H):∃ o H',H' a=some (.frz o (.dK kvs))/\Inv X f8 σ H' s/\R o H':=by
 rcases h with ⟨e,r⟩ | ⟨o,e,r⟩
 ·obtain ⟨ob,ho⟩:=(I.hok a _ e).there
  exact ⟨ob,_,Zc,I.freeze e True.intro ho,r ob⟩
 ·exact ⟨o,H,e,I,r⟩
def Zlq (hl:PE X l tl):PI X tg l (Zf0 Itk2 tl):=by
 intro f8 s σ H R I h;refine thn (hl f8 s σ H _ I h) λv s1 gk=>?_;obtain ⟨x,H1,I1,r1,q1⟩:=gk;obtain ⟨a,kvs,e,q⟩:=q1;subst e;cases r1;obtain ⟨o,H2,e2,I2,q2⟩:=Ky (R:=λo H=>R (Itk2 a kvs o) H) I1 q;obtain ⟨vs,ep,gw,da,ho⟩:=X4 I2 e2;have j7:=Qr da ho;subst j7;obtain ⟨_,_,jg,_⟩:=I2.hok a _ e2;refine wpAny_pyIter_dict jg da ?_;have gc:vs.length=kvs.length:=gw.length.symm;rw [gc];refine ⟨s1.heap.objs.size,[s1.heap.objs.size],_,_,H2,Y,I2.kept (t':=s1.toks) λb o e=>Ak _ e,Zge a _ kvs o,⟨_,Ap _ Y,Y,Y⟩,λb hb=>?_,q2⟩;have e:b=s1.heap.objs.size:=by simpa using hb
 subst e;exact I2.fpOk (An _) (I2.hok.fresh (An _))
structure M0 (X:Cx) (o:Expr) (m:Str) (gu gm:Pos):Prop where
 base:attributeBase o m X.env (eval o X.env)=eval o X.env
 few:((backTo gm (starEach [] X.env)).all (λx=>!x.1) && (backToKw gm (keywordEach [] X.env)).all (λx=>x.1.isSome)
  && decide (([]:List Expr).length + ([]:List Keyword).length + (if ([]:List Keyword).isEmpty then 0 else 1) < 30))=true
 line:(gu.endLine == gm.line)=true
def Zln {gu gm:Pos} (hl:PE X l tl) (m:M0 X l "values" gu gm):PI X tg (.Call (.Attribute l "values" gu) [] [] gm) (Zf0 Itv2 tl):=by
 intro f8 s σ H R I h;refine wpAny_Call_method m.base m.few m.line PySem.F.plainAttrs_dict PySem.F.slot_dict_values PySem.F.type_dict_values (thn (hl f8 s σ H _ I h) λv s1 gk=>?_);obtain ⟨x,H1,I1,r1,q1⟩:=gk;obtain ⟨a,kvs,e,q⟩:=q1;subst e;cases r1;obtain ⟨o,H2,e2,I2,q2⟩:=Ky (R:=λo H=>R (Itv2 a kvs o) H) I1 q;obtain ⟨vs,ep,gw,da,ho⟩:=X4 I2 e2;have j7:=Qr da ho;subst j7;obtain ⟨_,_,jg,_⟩:=I2.hok a _ e2;have isd:IsD H2 a:=.inl ⟨kvs,.inr ⟨o,e2⟩⟩;obtain ⟨t1,t2,_⟩:=Gz I2 isd;refine ⟨t1,t2,?_⟩;refine Calls.callWith_builtin Y (PyProof.Rows.evalArgs_empty ?_);refine call_meetsIn PySem.F.slot_dict_values da.dictOf.typeIs PySem.F.entry_dict_values (PySem.F.args_dict_values_1 _) (meets_dict_values (Z1 X.prog X.w) a jg) ⟨⟨vs,da.dictOf⟩,?_⟩;have I3:Inv X f8 σ H2 { s1 with heap:=s1.heap.push { cls:=.type "dict_values",data:=.fields #[.ref a] } }:=I2.kept (t':=s1.toks) λb o e=>Ak _ e;refine wpAny_pyIter_values ⟨_,Ap _ Y,Y,Y⟩ (da.push _) ?_;have gc:vs.length=kvs.length:=gw.length.symm;rw [gc];refine ⟨(s1.heap.push { cls:=.type "dict_values",data:=.fields #[.ref a] }).objs.size,[(s1.heap.push { cls:=.type "dict_values",data:=.fields #[.ref a] }).objs.size],_,_,H2,rfl,I3.kept (t':=s1.toks) λb o e=>Ak _ e,Zgc a _ kvs o,⟨_,Ap _ rfl,rfl,rfl⟩,λb hb=>?_,q2⟩;have e:b=(s1.heap.push { cls:=.type "dict_values",data:=.fields #[.ref a] }).objs.size:=by simpa using hb
 subst e;exact I3.fpOk (An _) (I3.hok.fresh (An _))
end
section
def Ite (K:W.Frag) (a:Addr):It :=
 ⟨λi H=>∃ xs x,SqL K H a xs/\xs[i]?=some x,λi H x H'=>∃ q y,H q=none/\x=.ref q/\(∀ xs,SqL K H a xs->xs[i]?=some y)/\H'=upd H q (.tup [.int i,y]),λi H=>∃ xs,SqL K H a xs/\xs.length<=i⟩
def Zgf {P:Program} {w:World} {K:W.Frag} {jh:List Expr} {x1:Nat} {pos:Pos} (a e it:Addr) (iu:e≠it):Turn P w K (.Tuple jh x1 pos) (Ite K a) [e,it] e (λi h=>(∃ old,IsEnum h e it i old)/\h.IsListIter it a i) where
 mem:=by simp
 obj:=λi h st b hb=>by
  obtain ⟨⟨old,h1⟩,o,h2,c,d⟩:=st
  rcases Ar hb with z | z
  ·subst z
   exact ⟨_,h1,λv z=>by
    have z':Data.fields _=Data.cell v:=z
    cases z'⟩
  ·have z:b=it:=by simpa using z
   subst z;exact ⟨o,h2,λv z=>by rw [d] at z; cases z⟩
 keep:=λi h h' st k=>⟨let ⟨old,h1⟩:=st.1; ⟨old,k e (by simp) _ h1⟩,st.2.at λo q=>k it (by simp) o q⟩
 item:=by
  intro X hP hw hK hc i f8 s σ H E I hf st hg;subst hP hw hK;obtain ⟨xs,x,hq,hx⟩:=hg;obtain ⟨its,rv,p,hz⟩:=I.list hq;obtain ⟨u,hu,ru⟩:=rv.get hx;obtain ⟨f0,f1,f2,f3,f4,f5⟩:=hf e (by simp);obtain ⟨g0,g1,g2,g3,g4,g5⟩:=hf it (by simp);obtain ⟨⟨old,he⟩,uw⟩:=st;refine wpAny_pyNext_enum_item he uw p.isList (x:=u) (by simpa using hu) iu λh' nq hit' ht' hsz' kk=>?_;have eo:=Ao he;have io:it < s.heap.objs.size:=let ⟨o,q,_⟩:=uw; Ao q
  refine ⟨.ref s.heap.objs.size,Y,wpAny_letOwnedTupleGo_enum nq λnw he'' sb=>?_⟩;have ie:∀ b o,b≠e->b≠it->s.heap.get? b=some o->nw.get? b=some o:=λb o h1 h2 q=>(sb.2 b h1).trans (kk b o h1 h2 q);have ny:nw.get? s.heap.objs.size=some { cls:=.type "tuple",data:=.seq #[.int i s.toks,u] }:=(sb.2 _ (Nat.ne_of_gt eo)).trans ht';have hn:H s.heap.objs.size=none:=I.hok.fresh (An _)
  have I2:Inv X f8 σ (upd H s.heap.objs.size (.tup [.int i,x])) { s with heap:=nw,toks:=s.toks + 1 }:=by
   refine I.step (g':=s.gens) (d':=s.drawn) (ch:=[e,it]) (λb hb=>?_) (λb o _ _ hc q _=>ie b o (λz=>hc (by simp [z])) (λz=>hc (by simp [z])) q) (λb o _ _ hc q _=>⟨o.slots,ie b o (λz=>hc (by simp [z])) (λz=>hc (by simp [z])) q⟩) (λb o _ q n=>by rw [Zf (As (Ao q))]; exact n)
    (λb o hc q=>⟨o,ie b o (λz=>hc (by simp [z])) (λz=>hc (by simp [z])) q⟩) (λb ys q=>by rw [Zf (Zj q hn)]; exact q) (λb o ys q=>by rw [Zf (Zj q hn)]; exact q) (λb ps q=>⟨#[],by rw [Zf (Zj q hn),q]; simp⟩) (λm hm=>?_) (λb v q=>?_) I.bare
   ·rcases Ar hb with z | z
    ·subst z; exact ⟨f3,f1,f4,f5⟩
    ·have z:b=it:=by simpa using z
     subst z; exact ⟨g3,g1,g4,g5⟩
   ·obtain ⟨o,es,ep,ho,r⟩:=hm
    exact ⟨o,es,ep,ie _ o (Ne.symm f1) (Ne.symm g1) ho,r⟩
   ·by_cases hb:b=s.heap.objs.size
    ·subst hb
     rw [Zc] at q;cases q;exact ⟨by show 2<=sizeLine; decide,[.int i s.toks,u],.cons ⟨_,rfl⟩ (.cons ru .nil),⟨_,ny,rfl,_,rfl⟩⟩
    ·rw [Zf hb] at q
     refine (I.hok b v q).stay (λc w' hc z=>ie c w' ?_ ?_ z) (λd z=>by rw [Zf (Zj z hn)]; exact z) λd ys z=>by rw [Zf (Zj z hn)]; exact z
     ·rintro rfl
      rcases hc with z | z
      ·rw [z,q] at f0; cases f0
      ·rw [f0] at z; cases z
     ·rintro rfl
      rcases hc with z | z
      ·rw [z,q] at g0; cases g0
      ·rw [g0] at z; cases z
  refine ⟨.ref s.heap.objs.size,_,I2,Y,⟨_,x,hn,Y,λys hy=>by rw [I.list_inj hy hq]; exact hx,Y⟩,⟨⟨u,he''⟩,hit'.at λo q=>(sb.2 it (Ne.symm iu)).trans q⟩,λb hb=>?_⟩
  rcases Ar hb with z | z
  ·subst z; rw [Zf (As eo)]; exact f0
  ·have z:b=it:=by simpa using z
   subst z; rw [Zf (As io)]; exact g0
 done:=by
  intro X hP hw hK hc i f8 s σ H E I hf st hg;subst hP hw hK;obtain ⟨xs,hq,hx⟩:=hg;obtain ⟨its,rv,p,hz⟩:=I.list hq;obtain ⟨g0,g1,g2,g3,g4,g5⟩:=hf it (by simp);obtain ⟨⟨old,he⟩,uw⟩:=st;have hl:=rv.length;exact wpAny_pyNext_enum_end (I.ok.hd hc) he uw p.isList (by simp; lia) λh' eb=>⟨rfl,I.turned (t':=s.toks) (λb o hb e=>eb b o hb e) g0 g1 g3 g4 g5⟩
 self:=λ_ _ _ _ _ st h=>by
  obtain ⟨⟨old,he⟩,_⟩:=st;exact wpAny_pyIter_enum he h
variable {X:Cx}
def Zo0 (K:W.Frag) (ta:TA):TI:=λσ H R=>ta σ H λvs H1=>∃ a,vs=[.ref a]/\(∃ xs,SqL K H1 a xs)/\R (Ite K a) H1
def Zlp {jh:List Expr} {x1:Nat} {kq p pos:Pos} {l:Expr} {ta:TA} (hg:Gl X "enumerate") (hm:X.mg "enumerate"=none) (ha:PA X [l] ta) (hs:starEach [l] X.env=[(false,eval l X.env)]:=by rfl):PI X (.Tuple jh x1 kq) (.Call (.Name "enumerate" p) [l] [] pos) (Zo0 X.K ta):=by
 intro f8 s σ H R I h;refine Call_ (Xf I hg hm boot_enumerate (PyProof.Rows.callWith_type1 (thn (ha pos f8 s σ H _ I h) λus s1 zz31=>?_) hs Y));obtain ⟨vs,H1,I1,r1,q1⟩:=zz31;obtain ⟨a,e,⟨xs,hq⟩,q⟩:=q1;subst e;obtain ⟨u,rfl,ru⟩:=Wb r1;cases ru;obtain ⟨its,rv,pl,hz⟩:=I1.list hq;refine call_enumerate_list pl.isList λh' he uw hsz hk=>wpAny_pyIter_enum he ?_;have I2:Inv X f8 σ H1 { s1 with heap:=h' }:=I1.kept (t':=s1.toks) hk;refine ⟨s1.heap.objs.size + 1,[s1.heap.objs.size + 1,s1.heap.objs.size],_,_,H1,Y,I2,Zgf a _ _ (Nat.succ_ne_self _),⟨⟨.none,he⟩,uw⟩,λb hb=>?_,q⟩
 rcases Ar hb with z | z
 ·subst z; exact I1.fpOk (Nat.le_succ _) (I1.hok.fresh (Nat.le_succ _))
 ·have z:b=s1.heap.objs.size:=by simpa using z
  subst z; exact I1.fpOk (An _) (I1.hok.fresh (An _))
def Zj0 {K:W.Frag} {a:Addr} {xs:List V} {g:TG} {tb:TS} {D:Ends} {σ:St} {H:Hp} (Pv:Nat->St->Hp->Prop) (h0:Pv 0 σ H) (hl:∀ i σ H,i<=xs.length->Pv i σ H->SqL K H a xs)
  (hs:∀ i x σ H q,xs[i]?=some x->H q=none->Pv i σ H->g (.ref q) σ (upd H q (.tup [.int i,x])) λσ2 H2=>tb { D with nx:=Pv (i + 1),ct:=Pv (i + 1),bk:=D.nx } σ2 H2) (hd:∀ σ H,Pv xs.length σ H->D.nx σ H) :
  ∃ W:Nat->Nat->St->Hp->Prop,(∃ m,W 0 m σ H)/\∀ i m σ H,W i m σ H ->
   ((Ite K a).stop i H/\D.nx σ H)\/((Ite K a).go i H/\∃ N:St->Hp->Prop,(∀ σ' H',N σ' H'->∃ m',m' < m/\W (i + 1) m' σ' H')/\∀ x H',(Ite K a).yld i H x H'->g x σ H' λσ2 H2=>tb { D with nx:=N,ct:=N,bk:=D.nx } σ2 H2):=by
 refine ⟨λi m σ H=>m=xs.length - i/\i<=xs.length/\Pv i σ H,⟨xs.length,by simp,Az _,h0⟩,?_⟩;rintro i m σ H ⟨rfl,hi,p⟩;have q:=hl i σ H hi p;by_cases gr:i < xs.length
 ·refine .inr ⟨⟨xs,xs[i],q,by simp [gr]⟩,Pv (i + 1),λσ' H' p'=>⟨xs.length - (i + 1),by lia,Y,gr,p'⟩,λx H' y=>?_⟩
  obtain ⟨c,z,hn,e1,e2,e3⟩:=y;subst e1 e3;exact hs i z σ H c (e2 xs q) hn p
 ·have e:i=xs.length:=by lia
  subst e;exact .inl ⟨⟨xs,q,An _⟩,hd σ H p⟩
def Zjz {kvs:List (Key × V)} {g:TG} {tb:TS} {D:Ends} (Pv:Nat->St->Hp->Prop) (h0:Pv 0 σ H) (hl:∀ i σ H,i<=kvs.length->Pv i σ H->H d=some (.frz o (.dK kvs)))
  (hs:∀ i k x σ H,kvs[i]?=some (k,x)->Pv i σ H->g x σ H λσ2 H2=>tb { D with nx:=Pv (i + 1),ct:=Pv (i + 1),bk:=D.nx } σ2 H2) (hd:∀ σ H,Pv kvs.length σ H->D.nx σ H) :
  ∃ W:Nat->Nat->St->Hp->Prop,(∃ m,W 0 m σ H)/\∀ i m σ H,W i m σ H ->
   ((Itv2 d kvs o).stop i H/\D.nx σ H)\/((Itv2 d kvs o).go i H/\∃ N:St->Hp->Prop,(∀ σ' H',N σ' H'->∃ m',m' < m/\W (i + 1) m' σ' H')/\∀ x H',(Itv2 d kvs o).yld i H x H'->g x σ H' λσ2 H2=>tb { D with nx:=N,ct:=N,bk:=D.nx } σ2 H2):=by
 refine ⟨λi m σ H=>m=kvs.length - i/\i<=kvs.length/\Pv i σ H,⟨kvs.length,by simp,Az _,h0⟩,?_⟩;rintro i m σ H ⟨rfl,hi,p⟩;have q:=hl i σ H hi p;by_cases gr:i < kvs.length
 ·refine .inr ⟨⟨gr,q⟩,Pv (i + 1),λσ' H' p'=>⟨kvs.length - (i + 1),by lia,Y,gr,p'⟩,λx H' y=>?_⟩
  obtain ⟨e,k,y⟩:=y;subst e;exact hs i k x σ _ y p
 ·have e:i=kvs.length:=by lia
  subst e;exact .inl ⟨⟨An _,q⟩,hd σ H p⟩
def Zky (ta:TA):TE:=λσ H Q=>ta σ H λvs H1=>∃ n:Nat,vs=[.int n]/\n<=1000/\∀ p,H1 p=none->Q (.ref p) (upd H1 p (.lst ((List.range n).map λ(i:Nat)=>V.int i)))
def Og {p1 p2:Pos} (wu:Gl X "list") (hml:X.mg "list"=none) (hg:Gl X "range") (hm:X.mg "range"=none) (hc:X.calm=true) (ha:PA X [a] ta) (hs:starEach [a] X.env=[(false,eval a X.env)]:=by rfl)
  (jo:starEach [.Call (.Name "range" p2) [a] [] j8] X.env=[(false,eval (.Call (.Name "range" p2) [a] [] j8) X.env)]:=by rfl):PE X (.Call (.Name "list" p1) [.Call (.Name "range" p2) [a] [] j8] [] pos) (Zky ta):=by
 intro f8 s σ H Q I h;refine Call_ (Xf I wu hml PySem.Pv.boot_list (PyProof.Rows.callWith_type1 ?_ jo Y));rw [jo];refine Calls.spliced_cons ?_;refine Call_ (Xf I hg hm boot_range (PyProof.Rows.callWith_type1 (thn (ha j8 f8 s σ H _ I h) λus s1 zz32=>?_) hs Y));obtain ⟨vs,H1,I1,r1,q1⟩:=zz32;obtain ⟨n,e,hn,q⟩:=q1;subst e;obtain ⟨u,rfl,ru⟩:=Wb r1;obtain ⟨t,rfl⟩:=ru;refine call_range_1 (Calls.spliced_nil ?_);have hr:Builtin.Range.rangeSize 0 (n:Int) 1=n:=by rw [rangeSize_one]; split <;> lia
 refine call_list_range (I.ok.hd hc) (IsRange.new ..) (small_one (by lia) (by lia) (by lia) (by lia)) hr (by lia) λh' tk gj c' hk hS n8=>?_;have hk1:∀ b o,s1.heap.get? b=some o->h'.get? b=some o:=λb o e=>hk b o (Ak _ e)
 have hv:Vals ((List.range n).map λ(i:Nat)=>V.int i) gj.toList:=by
  have gen:∀ (l:List Value) (k:Nat),(∀ (j:Nat) (v:Value),l[j]?=some v->∃ t,v=.int ((k + j:Nat):Int) t)->Vals ((List.range' k l.length).map λ(i:Nat)=>V.int i) l:=by
   intro l
   induction l with
   | nil=>intro k _; exact .nil
   | cons v r ih =>
    intro k h;obtain ⟨t,e⟩:=h 0 v rfl;rw [List.length_cons,List.range'_succ,List.map_cons];refine .cons ⟨t,by rw [e]; rfl⟩ (ih (k + 1) λj w hw=>?_);obtain ⟨t',e'⟩:=h (j + 1) w (by simpa using hw);exact ⟨t',by rw [e']; congr 1; lia⟩
  have hl:gj.toList.length=n:=by rw [Array.length_toList]; exact n8.1
  have:=gen gj.toList 0 λj v hj=>by
   obtain ⟨t,e⟩:=n8.2 j v (by rw [<- Array.getElem?_toList]; exact hj);exact ⟨t,by rw [e]; congr 1; lia⟩
  rw [hl,<- List.range_eq_range'] at this;exact this
 have m5:s1.heap.objs.size<=(s1.heap.push { cls:=.type "range",data:=.fields #[.int 0 s1.toks,.int (n:Int) t,.int 1 (s1.toks + 1)] }).objs.size:=by rw [Heap.size_push]; exact Nat.le_succ _
 refine ⟨.ref _,upd H1 _ (.lst ((List.range n).map λ(i:Nat)=>V.int i)),I1.laid hk1 (Nat.le_of_lt (by first | exact Nat.lt_of_le_of_lt m5 (Ao hS) | (rw [Heap.size_push]; exact Nat.lt_succ_self _))) ⟨?_,gj.toList,c',hv,?_⟩,Y,q _ (I1.hok.fresh ?_)⟩
 ·rw [Ab,List.length_range,sizeLine_eq]; lia
 ·simpa using hS
 ·rw [Heap.size_push]; exact Nat.le_succ _
end
abbrev TJ:=Str->TE
section
variable {X:Cx}
def W6 (K:W.Frag) (h:X.K=K:=by rfl):IxR X (rIxL K):=h ▸ Zt
def V9 (K:W.Frag) (h:X.K=K:=by rfl):Y5 X (.type "tuple") (λxs H Q=>∃ p ys,xs=[.ref p]/\((SqL K H p ys/\∀ l,H l=none->Q (.ref l) (upd H l (.tup ys)))\/(SqT K H p ys/\Q (.ref p) H))):=h ▸ Zax
variable {tg l e:Expr} {tl ta:TE} {f:Str} {pos:Pos}
def Fn (K:W.Frag) (hl:PE X l tl) (h:X.K=K:=by rfl):PI X tg l (iTup K tl):=h ▸ Zg9 hl
end
section
variable {prog:Program} {w:World} {A:Around} {E:Value->Shared->Prop}
def Zo5 {it l:Addr} {xs:Array Value} (ne:l≠it) (k:Nat):∀ (i:Nat) (s:Shared) (Q:List Value->Shared->Prop),s.heap.IsListIter it l i->s.heap.IsList l xs->i + k<=xs.size ->
  (∀ h',h'.IsListIter it l (i + k)->Heap.SameBut it s.heap h'->Q ((xs.toList.drop i).take k) { s with heap:=h' })->wpAny (model prog w) A (draw (.ref it) k) Q E s:=by
 induction k with
 | zero =>
  intro i s Q a b c q;have z:=q s.heap a (Heap.SameBut.refl ..);rw [List.take_zero] at z;exact wpAny_pure z
 | succ k ih =>
  intro i s Q a b c q;have lt:i < xs.size:=by lia
  refine Al (m:=pyNext (.ref it)) (wpAny_pyNext_list_item a b (x:=xs[i]) (by simp [lt]) λg st sb=>?_);refine Al (wpAny_holding (ih (i + 1) _ _ st (b.extBut sb.extBut ne) (by lia) λg2 ii sb2=>wpAny_pure ?_));have z:=q g2 (by rw [Nat.add_right_comm] at ii; exact ii) (sb.trans sb2);rwa [List.drop_eq_getElem_cons (by simpa using lt),List.take_succ_cons,Array.getElem_toList] at z
def Zku {l:Addr} {xs:Array Value} {s:Shared} {Q:List Value->Shared->Prop} (hc:A.handled=none) (b:s.heap.IsList l xs)
  (q:∀ h',Heap.ExtBut s.heap.objs.size s.heap h'->Q xs.toList { s with heap:=h' }):wpAny (model prog w) A (unpackItems (.ref l) xs.size none) Q E s:=by
 have ne:l≠s.heap.objs.size:=by obtain ⟨o,ho,_⟩:=b; exact As (Ao ho)
 unfold unpackItems notIterableAtAll;refine Al (Al (wpAny_specialOf b.typeIs PySem.F.slot_list_iter.lookup (wpAny_pure ?_)));rw [if_neg (by decide)];refine Al (wpAny_holding (wpAny_pyIter_list b ?_));refine Al (wpAny_holding (Zo5 ne xs.size 0 _ _ ⟨_,Ap _ Y,Y,Y⟩ (b.push _) (by lia) λg st sb=>?_));have e:(xs.toList.drop 0).take xs.size=xs.toList:=by rw [List.drop_zero,List.take_of_length_le]; simp
 rw [e,if_neg (by simp)];refine Al (wpAny_holding (wpAny_pyNext_list_end hc st ((b.push _).extBut sb.extBut ne) (by simp) λg2 eb=>?_));rw [if_neg (by decide)];exact wpAny_pure (q g2 λc o hb z=>eb c o hb (sb.extBut c o hb (Ak _ z)))
end
section
variable {X:Cx} {pos:Pos}
def gLst (K:W.Frag) (n:Nat) (t:TGs):TG:=λv σ H Q=>∃ a xs,v=.ref a/\SqL K H a xs/\xs.length=n/\t xs σ H Q
def Zhc {es:List Expr} {k:Nat} {t:TGs} {n:Nat} (hc:X.calm=true) (h:PGs X es t)
  (hn:(assignEach es X.env).length=n:=by rfl) (j5:(assignEach es X.env).findIdx? (·.1)=none:=by rfl):PG X (.Tuple es k pos) (gLst X.K n t):=by
 intro f8 s σ H v u Q I r hw;obtain ⟨a,xs,e1,hq,hl,hw⟩:=hw;subst e1;cases r;obtain ⟨its,rv,p,hz⟩:=I.list hq;rw [assign_Tuple];refine Al (wpAny_standAt ?_);unfold unpack;have uu:(assignEach es X.env).length=its.toArray.size:=by rw [hn,<- hl,rv.length]; simp
 rw [uu,j5];refine Al (wpAny_holding (Zku (I.ok.hd hc) p.isList λh' hx=>?_));have I1:Inv X f8 σ H { s with heap:=h' }:=I.kept (t':=s.toks) λb o e=>hx b o (As (Ao e)) e;exact h f8 _ σ H xs _ Q I1 (by simpa using rv) hw
end
def G8 (w:World) (K:W.Frag) (a:Addr) (kvs:List (Key × V)):Prop :=
 ∃ o es ep vs,K.lookup a=some o/\o.ExactDict/\o.data=.dict es ep/\(∀ e∈es,∃ k,Uk k e.key=true/\e.hash=keyH w k)/\(∀ P:Program,Pairs (Z1 P w) es.toList vs)/\(vs.map (·.1)).Nodup/\KV kvs vs/\(a == sysModules)=false
section
variable {X:Cx} {i o:Expr} {ty td:TE} {pos:Pos}
def G8.here {f8:List (Addr × Obj)} {σ:St} {H:Hp} {s:Shared} {a:Addr} {kvs:List (Key × V)} (h:G8 X.w X.K a kvs) (I:Inv X f8 σ H s):(a == sysModules)=false/\∃ vs,KV kvs vs/\s.heap.DictOf (Z1 X.prog X.w) a vs:=by
 obtain ⟨o,es,ep,vs,h1,h2,h3,h4,h5,h6,h7,h8⟩:=h;exact ⟨h8,vs,h7,o,es,ep,I.kIn a o h1,h2,h3,h4,h5 X.prog,h6⟩
def Zkz (w:World) (K:W.Frag) (ty td:TE):TE:=λσ H Q=>ty σ H λy H1=>td σ H1 λx H2=>∃ a kvs k,x=.ref a/\G8 w K a kvs/\y=kV k/\Q (.bl (!(valV kvs k).isSome)) H2
def Zhd (hi:PE X i ty) (ho:PE X o td):PC X .NotIn i o (Zkz X.w X.K ty td):=by
 intro f8 s σ H Q I h;refine thn (hi f8 s σ H _ I h) λiv s1 zz33=>?_;obtain ⟨y,H1,I1,ry,q1⟩:=zz33;refine thn (ho f8 s1 σ H1 _ I1 q1) λu s2 gk=>?_;obtain ⟨x,H2,I2,rx,a,kvs,k,ex,g,ey,q2⟩:=gk;subst ex ey;obtain rfl:u=Value.ref a:=rx;obtain ⟨hd,vs,gw,dd⟩:=g.here I2;refine wpAny_notIn_of (Ul ry) hd dd.mapOf ?_;rw [<- (gw.val k).isSome_eq];exact ⟨.bl _,H2,I2.tok _,Y,q2⟩
end
section
def Itm2 (d:Addr) (kvs:List (Key × V)) (o:Obj):It :=
 ⟨λi H=>i < kvs.length/\H d=some (.frz o (.dK kvs)),λi H x H'=>∃ q k v,H q=none/\x=.ref q/\kvs[i]?=some (k,v)/\H'=upd H q (.tup [kV k,v]),λi H=>kvs.length<=i/\H d=some (.frz o (.dK kvs))⟩
def Ze9 {P:Program} {w:World} {K:W.Frag} {jh:List Expr} {x1:Nat} {pos:Pos} (d it:Addr) (kvs:List (Key × V)) (o:Obj) :
  Turn P w K (.Tuple jh x1 pos) (Itm2 d kvs o) [it] it (λi h=>∃ a b,IsItemIter h it d i kvs.length (epOf o) a b) where
 mem:=by simp
 obj:=λi h st b hb=>by
  have e:b=it:=by simpa using hb
  subst e;obtain ⟨a,c,z⟩:=st;exact ⟨_,z,λv y=>by
   have y':Data.fields _=Data.cell v:=y
   cases y'⟩
 keep:=λi h h' st k=>by
  obtain ⟨a,c,z⟩:=st;exact ⟨a,c,k it (by simp) _ z⟩
 item:=by
  intro X hP hw hK hc i f8 s σ H E I hf st hg;subst hP hw hK;obtain ⟨hi,hq⟩:=hg;obtain ⟨vs,ep,gw,da,ho⟩:=X4 I hq;have j7:=Qr da ho;subst j7;obtain ⟨f0,f1,f2,f3,f4,f5⟩:=hf it (by simp);obtain ⟨⟨k,v⟩,hx⟩:∃ p,kvs[i]?=some p:=⟨_,Ac hi⟩;obtain ⟨u,hu,ru⟩:=gw.at hx;have gc:vs.length=kvs.length:=gw.length.symm;obtain ⟨a0,b0,st⟩:=st;rw [<- gc] at st;have xm:=Ao st;refine wpAny_pyNext_items_item st da hu λkey h' hk gl ht hsz kk=>?_;rw [gc] at gl;refine ⟨.ref s.heap.objs.size,Y,wpAny_letOwnedTupleGo_items gl λnw st'' sb=>?_⟩;have ie:∀ b z,b≠it->s.heap.get? b=some z->nw.get? b=some z:=λb z hb e=>(sb.2 b hb).trans (kk b z hb e);have ny:nw.get? s.heap.objs.size=some { cls:=.type "tuple",data:=.seq #[key,u] }:=(sb.2 _ (Nat.ne_of_gt xm)).trans ht;have hn:H s.heap.objs.size=none:=I.hok.fresh (An _)
  have I2:Inv X f8 σ (upd H s.heap.objs.size (.tup [kV k,v])) { s with heap:=nw }:=by
   refine I.step (g':=s.gens) (d':=s.drawn) (ch:=[it]) (λb hb=>?_) (λb o _ _ hc q _=>ie b o (λz=>hc (by simp [z])) q) (λb o _ _ hc q _=>⟨o.slots,ie b o (λz=>hc (by simp [z])) q⟩) (λb o _ q n=>by rw [Zf (As (Ao q))]; exact n)
    (λb o hc q=>⟨o,ie b o (λz=>hc (by simp [z])) q⟩) (λb ys q=>by rw [Zf (Zj q hn)]; exact q) (λb o ys q=>by rw [Zf (Zj q hn)]; exact q) (λb ps q=>⟨#[],by rw [Zf (Zj q hn),q]; simp⟩) (λm hm=>?_) (λb v' q=>?_) I.bare
   ·have z:b=it:=by simpa using hb
    subst z; exact ⟨f3,f1,f4,f5⟩
   ·obtain ⟨o,es,ep,ho,r⟩:=hm
    exact ⟨o,es,ep,ie _ o (Ne.symm f1) ho,r⟩
   ·by_cases hb:b=s.heap.objs.size
    ·subst hb
     rw [Zc] at q;cases q;exact ⟨by show 2<=sizeLine; decide,[key,u],.cons (Zkn hk) (.cons ru .nil),⟨_,ny,rfl,_,rfl⟩⟩
    ·rw [Zf hb] at q
     refine (I.hok b v' q).stay (λc w' hc z=>ie c w' ?_ z) (λd z=>by rw [Zf (Zj z hn)]; exact z) λd ys z=>by rw [Zf (Zj z hn)]; exact z
     rintro rfl
     rcases hc with z | z
     ·rw [z,q] at f0; cases f0
     ·rw [f0] at z; cases z
  refine ⟨.ref s.heap.objs.size,_,I2,Y,⟨_,k,v,hn,Y,hx,Y⟩,⟨_,_,st''⟩,λb hb=>?_⟩;have z:b=it:=by simpa using hb
  subst z; rw [Zf (As xm)]; exact f0
 done:=by
  intro X hP hw hK hc i f8 s σ H E I hf st hg;subst hP hw hK;obtain ⟨hi,hq⟩:=hg;obtain ⟨vs,ep,gw,da,ho⟩:=X4 I hq;have j7:=Qr da ho;subst j7;obtain ⟨f0,f1,f2,f3,f4,f5⟩:=hf it (by simp);have gc:vs.length=kvs.length:=gw.length.symm;obtain ⟨a0,b0,st⟩:=st;rw [<- gc] at st;exact wpAny_pyNext_items_end (I.ok.hd hc) st da (by rw [Ay]; lia) λh' eb=>⟨rfl,I.turned (t':=s.toks) (λb o hb e=>eb b o hb e) f0 f1 f3 f4 f5⟩
 self:=λ_ _ _ _ _ st h=>by
  obtain ⟨a,b,st⟩:=st;exact PySem.W.kcp_self st h
variable {X:Cx} {l:Expr} {tl:TE}
def Zcg {jh:List Expr} {x1:Nat} {kq gu gm:Pos} (hl:PE X l tl) (m:M0 X l "items" gu gm):PI X (.Tuple jh x1 kq) (.Call (.Attribute l "items" gu) [] [] gm) (Zf0 Itm2 tl):=by
 intro f8 s σ H R I h;refine wpAny_Call_method m.base m.few m.line PySem.F.plainAttrs_dict PySem.F.slot_dict_items PySem.F.type_dict_items (thn (hl f8 s σ H _ I h) λv s1 gk=>?_);obtain ⟨x,H1,I1,r1,q1⟩:=gk;obtain ⟨a,kvs,e,q⟩:=q1;subst e;cases r1;obtain ⟨o,H2,e2,I2,q2⟩:=Ky (R:=λo H=>R (Itm2 a kvs o) H) I1 q;obtain ⟨vs,ep,gw,da,ho⟩:=X4 I2 e2;have j7:=Qr da ho;subst j7;obtain ⟨_,_,jg,_⟩:=I2.hok a _ e2;have isd:IsD H2 a:=.inl ⟨kvs,.inr ⟨o,e2⟩⟩;obtain ⟨t1,t2,_⟩:=Gz I2 isd;refine ⟨t1,t2,?_⟩;refine Calls.callWith_builtin Y (PyProof.Rows.evalArgs_empty ?_);refine call_meetsIn PySem.F.slot_dict_items da.dictOf.typeIs PySem.F.entry_dict_items (PySem.F.args_dict_items_1 _) (meets_dict_items (Z1 X.prog X.w) a jg) ⟨⟨vs,da.dictOf⟩,?_⟩;have I3:Inv X f8 σ H2 { s1 with heap:=s1.heap.push { cls:=.type "dict_items",data:=.fields #[.ref a] } }:=I2.kept (t':=s1.toks) λb o e=>Ak _ e;refine wpAny_pyIter_items ⟨_,Ap _ Y,Y,Y⟩ (da.push _) ?_;have gc:vs.length=kvs.length:=gw.length.symm;rw [gc];refine ⟨(s1.heap.push { cls:=.type "dict_items",data:=.fields #[.ref a] }).objs.size,[(s1.heap.push { cls:=.type "dict_items",data:=.fields #[.ref a] }).objs.size],_,_,H2,rfl,I3.kept (t':=s1.toks) λb o e=>Ak _ e,Ze9 a _ kvs o,⟨_,_,Ap _ rfl⟩,λb hb=>?_,q2⟩;have e:b=(s1.heap.push { cls:=.type "dict_items",data:=.fields #[.ref a] }).objs.size:=by simpa using hb
 subst e;exact I3.fpOk (An _) (I3.hok.fresh (An _))
def Zae {kvs:List (Key × V)} {g:TG} {tb:TS} {D:Ends} (Pv:Nat->St->Hp->Prop) (h0:Pv 0 σ H) (hl:∀ i σ H,i<=kvs.length->Pv i σ H->H d=some (.frz o (.dK kvs)))
  (hs:∀ i k x σ H q,kvs[i]?=some (k,x)->H q=none->Pv i σ H->g (.ref q) σ (upd H q (.tup [kV k,x])) λσ2 H2=>tb { D with nx:=Pv (i + 1),ct:=Pv (i + 1),bk:=D.nx } σ2 H2) (hd:∀ σ H,Pv kvs.length σ H->D.nx σ H) :
  ∃ W:Nat->Nat->St->Hp->Prop,(∃ m,W 0 m σ H)/\∀ i m σ H,W i m σ H ->
   ((Itm2 d kvs o).stop i H/\D.nx σ H)\/((Itm2 d kvs o).go i H/\∃ N:St->Hp->Prop,(∀ σ' H',N σ' H'->∃ m',m' < m/\W (i + 1) m' σ' H')/\∀ x H',(Itm2 d kvs o).yld i H x H'->g x σ H' λσ2 H2=>tb { D with nx:=N,ct:=N,bk:=D.nx } σ2 H2):=by
 refine ⟨λi m σ H=>m=kvs.length - i/\i<=kvs.length/\Pv i σ H,⟨kvs.length,by simp,Az _,h0⟩,?_⟩;rintro i m σ H ⟨rfl,hi,p⟩;have q:=hl i σ H hi p;by_cases gr:i < kvs.length
 ·refine .inr ⟨⟨gr,q⟩,Pv (i + 1),λσ' H' p'=>⟨kvs.length - (i + 1),by lia,Y,gr,p'⟩,λx H' y=>?_⟩
  obtain ⟨c,k,v,hn,e1,y,e2⟩:=y;subst e1 e2;exact hs i k v σ H c y hn p
 ·have e:i=kvs.length:=by lia
  subst e;exact .inl ⟨⟨An _,q⟩,hd σ H p⟩
end
section
def Itr3 (lo st:Int) (n:Nat):It:=⟨λi _=>i < n,λi H x H'=>H'=H/\x=.int (lo + i * st),λi _=>n<=i⟩
def O7 {P:Program} {w:World} {K:W.Frag} {tg:Expr} (it:Addr) (lo st:Int) (n:Nat):Turn P w K tg (Itr3 lo st n) [it] it (λi h=>IsRangeIter h it (lo + (i:Nat) * st) ((n:Int) - (i:Nat)) st) where
 mem:=by simp
 obj:=λi h st b hb=>by
  have e:b=it:=by simpa using hb
  subst e;exact ⟨_,st,λv z=>by
   have z':Data.fields _=Data.cell v:=z
   cases z'⟩
 keep:=λi h h' st k=>k it (by simp) _ st
 item:=by
  intro X hP hw hK hc i f8 s σ H E I hf gl hg;subst hP hw hK;obtain ⟨f0,f1,f2,f3,f4,f5⟩:=hf it (by simp);have W:=Walks.range (prog:=X.prog) (w:=X.w) (I.ok.hd hc) it lo st n;refine W.item i s _ _ hg gl λv h' tk hv ii kk=>?_;obtain ⟨t,rfl⟩:=hv;have I1:Inv X f8 σ H { s with heap:=h',toks:=tk }:=I.turned (λb o hb e=>kk b o (by simpa using hb) e) f0 f1 f3 f4 f5;exact ⟨_,Y,Um (s:={ s with heap:=h',toks:=tk }) (n:="range_iterator") ii rfl rfl (by decide) ⟨.int (lo + i * st),H,I1,⟨t,rfl⟩,⟨rfl,rfl⟩,ii,λb hb=>(hf b hb).1⟩⟩
 done:=by
  intro X hP hw hK hc i f8 s σ H E I hf gl hg;subst hP hw hK;obtain ⟨f0,f1,f2,f3,f4,f5⟩:=hf it (by simp);exact wpAny_pyNext_range_end (I.ok.hd hc) gl (by have:n<=i:=hg; lia) λh' eb=>⟨rfl,I.turned (t':=s.toks) (λb o hb e=>eb b o hb e) f0 f1 f3 f4 f5⟩
 self:=λ_ _ _ _ _ st h=>wpAny_pyIter_rangeiter st h
end
section
variable {X:Cx} {tg:Expr}
def Zov (ta:TA):TI:=λσ H R=>ta σ H λvs H1=>∃ n:Nat,vs=[.int 0,.int (3 * n:Nat),.int 3]/\n<=1000/\R (Itr3 0 3 n) H1
def Zg2 {f8:List (Addr × Obj)} {σ:St} {H:Hp} {s:Shared} {R:It->Hp->Prop} {E:Value->Shared->Prop} {n:Nat} {t u v:Tok} {tk:Nat} (I:Inv X f8 σ H s) (hn:n<=1000)
  (q:R (Itr3 0 3 n) H):wpAny (model X.prog X.w) X.A (pyIter (.ref s.heap.objs.size)) (PIE X f8 σ tg R) E { s with heap:=s.heap.push { cls:=.type "range",data:=.fields #[.int 0 t,.int (3 * n:Nat) u,.int 3 v] },toks:=tk }:=by
 have hr:Builtin.Range.rangeSize 0 ((3 * n:Nat):Int) 3=n:=by
  unfold Builtin.Range.rangeSize;rw [if_pos (by decide)];split <;> lia
 have nh:Builtin.Range.small 0 ((3 * n:Nat):Int) 3=true:=by
  unfold Builtin.Range.small;rw [hr];have e:∀ z:Int,-(2 ^ 62)<=z->z < 2 ^ 62->Builtin.Range.rangeFitsLong z=true:=λz h1 h2=>by
   unfold Builtin.Range.rangeFitsLong
   rw [Bool.and_eq_true,decide_eq_true_eq,decide_eq_true_eq]
   lia
  have e2:=e ((3 * n:Nat):Int) (by lia) (by lia);have e4:=e (n:Int) (by lia) (by lia);have e5:=e (((3 * n:Nat):Int) + (3 - 1)) (by lia) (by lia);rw [e 0 (by decide) (by decide),e2,e 3 (by decide) (by decide),e4,if_pos (by decide),e5,Bool.or_true];rfl
 refine wpAny_pyIter_range (IsRange.new ..) nh ?_;have I1:Inv X f8 σ H { s with heap:=s.heap.push { cls:=.type "range",data:=.fields #[.int 0 t,.int (3 * n:Nat) u,.int 3 v] },toks:=tk }:=I.kept λb o e=>Ak _ e;refine ⟨(s.heap.push { cls:=.type "range",data:=.fields #[.int 0 t,.int (3 * n:Nat) u,.int 3 v] }).objs.size,[(s.heap.push { cls:=.type "range",data:=.fields #[.int 0 t,.int (3 * n:Nat) u,.int 3 v] }).objs.size],_,_,H,rfl,
  I1.kept (t':=tk) λb o e=>Ak _ e,O7 _ 0 3 n,?_,λb hb=>?_,q⟩
 ·show IsRangeIter _ _ ((0:Int) + ((0:Nat):Int) * 3) (((n:Nat):Int) - ((0:Nat):Int)) 3
  have e1:(0:Int) + ((0:Nat):Int) * 3=0:=by simp
  have e2:((n:Nat):Int) - ((0:Nat):Int)=Builtin.Range.rangeSize 0 ((3 * n:Nat):Int) 3:=by rw [hr]; simp
  rw [e1,e2];exact Ap _ Y
 ·have e:b=(s.heap.push { cls:=.type "range",data:=.fields #[.int 0 t,.int (3 * n:Nat) u,.int 3 v] }).objs.size:=by simpa using hb
  subst e;exact I1.fpOk (An _) (I1.hok.fresh (An _))
def Zha {a b c:Expr} {ta:TA} {p pos:Pos} (hg:Gl X "range") (hm:X.mg "range"=none) (ha:PA X [a,b,c] ta) (hs:starEach [a,b,c] X.env=[(false,eval a X.env),(false,eval b X.env),(false,eval c X.env)]:=by rfl) (jo:starEach [b,c] X.env=[(false,eval b X.env),(false,eval c X.env)]:=by rfl) :
  PI X tg (.Call (.Name "range" p) [a,b,c] [] pos) (Zov ta):=by
 intro f8 s σ H R I h;refine Call_ (Xf I hg hm boot_range (PyProof.Rows.callWith_type1 (thn (ha pos f8 s σ H _ I h) λus s1 ⟨vs,H1,I1,r1,q1⟩=>?_) (by rw [hs,jo]) (by rw [jo]; rfl)));obtain ⟨n,e,hn,q⟩:=q1;subst e
 cases r1 with
 | cons r rr =>
  cases rr with
  | cons r' rr =>
   cases rr with
   | cons r'' rr =>
    cases rr;obtain ⟨t,rfl⟩:=r;obtain ⟨t',rfl⟩:=r';obtain ⟨t'',rfl⟩:=r'';exact call_range_3 (by decide) (Zg2 I1 hn q) (.inl (PyProof.noPylong_small (by decide)))
def Zd1 {lo st:Int} {n:Nat} {g:TG} {tt:TT} {tb:TB} {R:St->Hp->Prop} {σ:St} {H:Hp} (Pv:Nat->St->Hp->Prop) (h0:Pv 0 σ H)
  (hs:∀ (i:Nat) σ H,i < n->Pv i σ H->g (.int (lo + i * st)) σ H λσ2 H2=>tt σ2 H2 λb H3=>if b=true then tb σ2 H3 (Pv (i + 1)) else Pv (i + 1) σ2 H3) (hd:∀ σ H,Pv n σ H->R σ H):Wo (Itr3 lo st n) g tt tb R σ H:=by
 refine ⟨λi m σ H=>m=n - i/\i<=n/\Pv i σ H,⟨n,by simp,Az _,h0⟩,?_⟩;rintro i m σ H ⟨rfl,hi,p⟩;by_cases gr:i < n
 ·refine .inr ⟨gr,Pv (i + 1),λσ' H' p'=>⟨n - (i + 1),by lia,Y,gr,p'⟩,λx H' y=>?_⟩
  obtain ⟨e,y⟩:=y;subst e y;exact hs i σ _ gr p
 ·have e:i=n:=by lia
  subst e;exact .inl ⟨An _,hd σ H p⟩
end
section
variable {X:Cx} {fr:Bool} {pos:Pos}
def Zoi (te:TEX) (g:TG):TSX:=λD R σ H=>te σ H (λx H1=>g x σ H1 D.nx) λcls _ H1=>R cls σ H1
def Zll {tg e:Expr} {te:TEX} {g:TG} (he:PEX fr X e te) (hg:PG X tg g) (hs:swapsWithSole [tg] e pos.line X.env=pure false:=by rfl) (hw:swappedStores [tg] e X.env=pure none:=by rfl)
  (h1:(assignEach [tg] X.env).map (·.2)=[assign tg X.env]:=by rfl) (hx:X.xe=(λ_ _=>False):=by rfl):PSX fr X (.Assign [tg] e pos) (Zoi te g):=by
 intro f8 s σ H D R I h;refine wpAny_Assign_stores (wpAny_mono (he f8 s σ H _ _ I h) (λv s1 ⟨x,H1,I1,r1,q1⟩=>?_) ?_) hs hw
 ·rw [h1]
  have z:=hg f8 s1 σ H1 x v _ I1 r1 q1;rw [hx] at z;exact wpAny_mono z (λ_ _ y=>y) λ_ _ y=>y.elim
 ·rintro ev s1 ⟨e,T,cls,a0,σ',H',g1,g2,g3,g4,g5,g7,rfl,g6⟩
  exact ⟨e,T,cls,a0,σ',H',g1,g2,g3,g4,g5,g7,g6⟩
end
def Zi2 {X:Cx} (K:W.Frag) (h:X.K=K:=by rfl):SlR X (rSlL K):=h ▸ Vp
def kdict_mk2 {w:World} {K:W.Frag} {a:Addr} {h1 h2:Int} {t1 t2 t3 t4:Tok} {ep:Nat} {x1 y1 x2 y2:Str}
  (l:K.lookup a=some ⟨.type "dict",none,.dict #[⟨h1,.str x1 t1,.str y1 t2⟩,⟨h2,.str x2 t3,.str y2 t4⟩] ep,#[]⟩) (e1:h1=hashStr w x1) (e2:h2=hashStr w x2) (ne:x1≠x2) (sy:(a == sysModules)=false) :
  G8 w K a [(Sum.inr x1,.str y1),(Sum.inr x2,.str y2)]:=by
 refine ⟨_,_,_,[(Sum.inr x1,.str y1 t2),(Sum.inr x2,.str y2 t4)],l,⟨Y,Y,Y⟩,Y,λe he=>?_,λP=>?_,?_,?_,sy⟩
 ·have he:e=⟨h1,.str x1 t1,.str y1 t2⟩\/e=⟨h2,.str x2 t3,.str y2 t4⟩:=by simpa using he
  rcases he with rfl | rfl
  ·exact ⟨Sum.inr x1,Qb x1 t1,e1⟩
  ·exact ⟨Sum.inr x2,Qb x2 t3,e2⟩
 ·exact .cons (Qb x1 t1) Y (.cons (Qb x2 t3) Y .nil)
 ·refine List.nodup_cons.mpr ⟨?_,by simp⟩
  simp [ne]
 ·exact .cons ⟨Y,⟨_,Y⟩⟩ (.cons ⟨Y,⟨_,Y⟩⟩ .nil)
section
variable {X:Cx}
def rNeL (K:W.Frag):R2:=λx y H Q=>∃ a b ns ms,x=.ref a/\y=.ref b/\SqL K H a (List.map V.int ns)/\SqL K H b (List.map V.int ms)/\Q (.bl (!decide (ns=ms))) H
def Znj (hu:X.A.units + 64 < cLine):OpR X (compareOp .NotEq) (rNeL X.K):=by
 intro f8 s σ H x y v u Q I rx ry h;obtain ⟨a,b,ns,ms,rfl,rfl,ha,hb,q⟩:=h;cases rx;cases ry;obtain ⟨ia,ra,pa,_⟩:=I.list ha;obtain ⟨ib,rb,pb,_⟩:=I.list hb;exact PySem.W.ne_intsK pa.isList (Qq ra) pb.isList (Qq rb) hu ⟨.bl _,H,I,Y,q⟩
def Zip (bs:List Bool):((List.range bs.length).all λi=>bs.getD i true)=bs.all id:=by
 rw [Bool.eq_iff_iff,List.all_eq_true,List.all_eq_true];constructor
 ·intro h b hb
  obtain ⟨i,hi,rfl⟩:=List.mem_iff_getElem.mp hb;have:=h i (List.mem_range.mpr hi);rw [Ad,Ac hi] at this;exact this
 ·intro h i hi
  have hi:=List.mem_range.mp hi;rw [Ad,Ac hi];exact h _ (List.getElem_mem hi)
def Zdf (hc:X.calm=true):Y5 X (.builtin "all") (λxs H Q=>∃ p bs,xs=[.ref p]/\SqL X.K H p (List.map V.bl bs)/\Q (.bl (bs.all id)) H):=by
 intro f8 s σ H xs us Q I r h;obtain ⟨p,bs,rfl,hq,q⟩:=h;obtain ⟨u,rfl,ru⟩:=Wb r;cases ru;obtain ⟨its,rv,pl,hz⟩:=I.list hq;have ne:p≠s.heap.objs.size:=by obtain ⟨o,ho,_⟩:=pl.isList; exact As (Ao ho)
 refine call_all_walk (wpAny_pyIter_list pl.isList ⟨s.heap.objs.size,_,_,_,_,_,λi=>bs.getD i true,Y,Walks.list (A:=X.A.in1) (show X.A.in1.handled=none from I.ok.hd hc) s.heap.objs.size p ne its.toArray,⟨⟨_,Ap _ Y,Y,Y⟩,pl.isList.push _⟩,?_,?_⟩)
 ·intro i v s' Q' E' hv i7
  have hv:its[i]?=some v:=by simpa using hv
  have gc:=rv.length;rw [Ab] at gc;have hi:i < bs.length:=by have:=(Aa hv).1; lia
  obtain ⟨u,hu,ru⟩:=rv.get (show (bs.map V.bl)[i]?=some (V.bl bs[i]) by rw [Ah,Ac hi]; rfl);rw [hv] at hu;cases hu;cases ru;have e:bs.getD i true=bs[i]:=by rw [Ad,Ac hi]; rfl
  refine wpAny_truthy_bool ?_;have i7:Q' (bs.getD i true) s':=i7;rw [e] at i7;exact i7
 ·intro h' tk hk
  have I1:Inv X f8 σ H { s with heap:=h',toks:=tk }:=I.kept λb o e=>hk b o (λz=>absurd (Ao e) (by rw [Af z]; exact Nat.lt_irrefl _)) (Ak _ e);have gc:its.toArray.size=bs.length:=by have:=rv.length; rw [Ab] at this; simp; lia
  refine ⟨.bl (bs.all id),H,I1,?_,q⟩;show Value.bool _=_;rw [gc,Zip]
end
section
def Zga (K:W.Frag) (a:Addr) (n:Nat):It :=
 ⟨λi H=>i < n/\∃ xs,SqL K H a xs/\xs.length=n,λi H x H'=>H'=H/\∀ xs,SqL K H a xs->xs[n - 1 - i]?=some x,λi H=>n<=i/\∃ xs,SqL K H a xs/\xs.length=n⟩
def Ziu {P:Program} {w:World} {K:W.Frag} {tg:Expr} (a it:Addr) (n:Nat):Turn P w K tg (Zga K a n) [it] it (λi h=>i<=n/\h.IsRevIter it a ((n:Int) - 1 - i)) where
 mem:=by simp
 obj:=λi h st b hb=>by
  have e:b=it:=by simpa using hb
  subst e;obtain ⟨_,o,e,c,d⟩:=st;exact ⟨o,e,λv z=>by rw [d] at z; cases z⟩
 keep:=λi h h' st k=>⟨st.1,st.2.at λo e=>k it (by simp) o e⟩
 item:=by
  intro X hP hw hK hc i f8 s σ H E I hf st hg;subst hP hw hK;obtain ⟨hi,xs,hq,hl⟩:=hg;obtain ⟨its,rv,p,hz⟩:=I.list hq;obtain ⟨f0,f1,f2,f3,f4,f5⟩:=hf it (by simp);have gr:n - 1 - i < xs.length:=by lia
  obtain ⟨u,hu,ru⟩:=rv.get (Ac gr);have e1:(n:Int) - 1 - i=((n - 1 - i:Nat):Int):=by lia
  have ii:=st.2;rw [e1] at ii;refine wpAny_pyNext_rev_item ii p.isList (x:=u) (by simpa using hu) λh' gl sb=>?_;have I1:Inv X f8 σ H { s with heap:=h' }:=I.turned (t':=s.toks) (λb o hb e=>(sb.2 b hb).trans e) f0 f1 f3 f4 f5;have e2:((n - 1 - i:Nat):Int) - 1=(n:Int) - 1 - ((i + 1:Nat):Int):=by lia
  rw [e2] at gl;obtain ⟨o,e,c,d⟩:=id gl;exact ⟨u,Y,Um (s:={ s with heap:=h' }) e c d (by decide) ⟨xs[n - 1 - i],H,I1,ru,⟨Y,λys hy=>by rw [I.list_inj hy hq]; exact Ac gr⟩,⟨hi,gl⟩,λb hb=>(hf b hb).1⟩⟩
 done:=by
  intro X hP hw hK hc i f8 s σ H E I hf st hg;subst hP hw hK;obtain ⟨hi,xs,hq,hl⟩:=hg;obtain ⟨f0,f1,f2,f3,f4,f5⟩:=hf it (by simp);have ii:=st.2;rw [show (n:Int) - 1 - i=-1 by have:=st.1; lia] at ii;exact wpAny_pyNext_rev_end (I.ok.hd hc) ii λh' eb=>⟨Y,I.turned (t':=s.toks) (λb o hb e=>eb b o hb e) f0 f1 f3 f4 f5⟩
 self:=λ_ _ _ _ _ st h=>wpAny_pyIter_revIter st.2 h
variable {X:Cx} {tg:Expr}
def iRev (K:W.Frag) (ta:TA):TI:=λσ H R=>ta σ H λvs H1=>∃ a xs,vs=[.ref a]/\SqL K H1 a xs/\R (Zga K a xs.length) H1
def Zne {l:Expr} {ta:TA} {p pos:Pos} (hg:Gl X "reversed") (hm:X.mg "reversed"=none) (ha:PA X [l] ta) (hs:starEach [l] X.env=[(false,eval l X.env)]:=by rfl):PI X tg (.Call (.Name "reversed" p) [l] [] pos) (iRev X.K ta):=by
 intro f8 s σ H R I h;refine Call_ (Xf I hg hm boot_reversed (PyProof.Rows.callWith_type1 (thn (ha pos f8 s σ H _ I h) λus s1 zz34=>?_) hs Y));obtain ⟨vs,H1,I1,r1,q1⟩:=zz34;obtain ⟨a,xs,e,hq,q⟩:=q1;subst e;obtain ⟨u,rfl,ru⟩:=Wb r1;cases ru;obtain ⟨its,rv,pl,hz⟩:=I1.list hq;refine call_reversed_list pl.isList ?_;have I2:Inv X f8 σ H1 { s1 with heap:=s1.heap.push (revObj a ((its.toArray.size:Int) - 1)) }:=I1.kept (t':=s1.toks) λb o e=>Ak _ e;have hn:its.toArray.size=xs.length:=by have:=rv.length; simp; lia
 rw [hn] at I2 ⊢;have st:(s1.heap.push (revObj a ((xs.length:Int) - 1))).IsRevIter s1.heap.objs.size a ((xs.length:Int) - 1 - ((0:Nat):Int)):=by
  rw [show (xs.length:Int) - 1 - ((0:Nat):Int)=(xs.length:Int) - 1 by simp]
  exact ⟨_,Ap _ Y,Y,Y⟩
 refine wpAny_pyIter_revIter st ?_;refine ⟨s1.heap.objs.size,[s1.heap.objs.size],_,_,H1,Y,I2,Ziu a _ xs.length,⟨Az _,st⟩,λb hb=>?_,q⟩;have e:b=s1.heap.objs.size:=by simpa using hb
 subst e;exact I1.fpOk (An _) (I1.hok.fresh (An _))
def Zjs {K:W.Frag} {a:Addr} {xs:List V} {g:TG} {tt:TT} {tb:TB} {R:St->Hp->Prop} {σ:St} {H:Hp} (Pv:Nat->St->Hp->Prop) (h0:Pv 0 σ H) (hl:∀ i σ H,i<=xs.length->Pv i σ H->SqL K H a xs)
  (hs:∀ (i:Nat) x σ H,xs.reverse[i]?=some x->Pv i σ H->g x σ H λσ2 H2=>tt σ2 H2 λb H3=>if b=true then tb σ2 H3 (Pv (i + 1)) else Pv (i + 1) σ2 H3) (hd:∀ σ H,Pv xs.length σ H->R σ H):Wo (Zga K a xs.length) g tt tb R σ H:=by
 refine ⟨λi m σ H=>m=xs.length - i/\i<=xs.length/\Pv i σ H,⟨xs.length,by simp,Az _,h0⟩,?_⟩;rintro i m σ H ⟨rfl,hi,p⟩;have q:=hl i σ H hi p;by_cases gr:i < xs.length
 ·refine .inr ⟨⟨gr,xs,q,Y⟩,Pv (i + 1),λσ' H' p'=>⟨xs.length - (i + 1),by lia,Y,gr,p'⟩,λx H' y=>?_⟩
  obtain ⟨e,y⟩:=y;subst e;exact hs i x σ _ (by rw [List.getElem?_reverse gr]; exact y xs q) p
 ·have e:i=xs.length:=by lia
  subst e;exact .inl ⟨⟨An _,xs,q,Y⟩,hd σ H p⟩
end
section
def Itz (K:W.Frag) (a b:Addr):It :=
  ⟨λi H=>∃ xs ys x y,SqL K H a xs/\SqL K H b ys/\xs[i]?=some x/\ys[i]?=some y,
   λi H v H'=>∃ q x y,H q=none/\v=.ref q/\(∀ xs,SqL K H a xs->xs[i]?=some x)/\(∀ ys,SqL K H b ys->ys[i]?=some y)/\H'=upd H q (.tup [x,y]),
   λi H=>∃ xs ys,SqL K H a xs/\SqL K H b ys/\(xs.length<=i\/ys.length<=i)⟩
def Zis {P:Program} {w:World} {K:W.Frag} {jh:List Expr} {x1:Nat} {pos:Pos} (a b z TI TO i1 i2:Addr) (D:ZipApart z TI TO i1 i2 a b) :
  Turn P w K (.Tuple jh x1 pos) (Itz K a b) [z,TI,TO,i1,i2] z (λi h=>IsZip h z TI TO .none/\IsPair h TI (.ref i1) (.ref i2)/\(∃ u v,IsPair h TO u v)/\h.IsListIter i1 a i/\h.IsListIter i2 b i) where
 mem:=by simp
 obj:=λi h st c hc=>by
  obtain ⟨s1,s2,⟨u,v,s3⟩,⟨o4,e4,c4,d4⟩,o5,e5,c5,d5⟩:=st;have hc:c=z\/c=TI\/c=TO\/c=i1\/c=i2:=by simpa using hc
  rcases hc with rfl | rfl | rfl | rfl | rfl
  ·exact ⟨_,s1,λv y=>by have y':Data.fields _=Data.cell v:=y; cases y'⟩
  ·exact ⟨_,s2,λv y=>by have y':Data.seq _ _=Data.cell v:=y; cases y'⟩
  ·exact ⟨_,s3,λv y=>by have y':Data.seq _ _=Data.cell v:=y; cases y'⟩
  ·exact ⟨o4,e4,λv y=>by rw [d4] at y; cases y⟩
  ·exact ⟨o5,e5,λv y=>by rw [d5] at y; cases y⟩
 keep:=λi h h' st k=>by
  obtain ⟨s1,s2,⟨u,v,s3⟩,s4,s5⟩:=st;exact ⟨k z (by simp) _ s1,k TI (by simp) _ s2,⟨u,v,k TO (by simp) _ s3⟩,s4.at λo e=>k i1 (by simp) o e,s5.at λo e=>k i2 (by simp) o e⟩
 item:=by
  intro X hP hw hK hc i f8 s σ H E I hf st hg;subst hP hw hK;obtain ⟨xs,ys,x,y,ut,ur,hx,hy⟩:=hg;obtain ⟨itx,yx,px,_⟩:=I.list ut;obtain ⟨ity,yw,py,_⟩:=I.list ur;obtain ⟨u,hu,ru⟩:=yx.get hx;obtain ⟨v,hv,rv⟩:=yw.get hy;obtain ⟨s1,s2,⟨u0,v0,s3⟩,s4,s5⟩:=st;refine wpAny_pyNext_zip_item D s1 s2 s3 s4 s5 px.isList py.isList (x:=u) (y:=v) (by simpa using hu) (by simpa using hv) λh' a1 a2 a3 a4 a5 a6 a7=>?_;refine ⟨.ref s.heap.objs.size,Y,wpAny_letOwnedTupleGo_zip a1 λnw b1 sb=>?_⟩;have lt:∀ c∈[z,TI,TO,i1,i2],c < s.heap.objs.size:=λc hc=>by
   obtain ⟨o,e,_⟩:∃ o,s.heap.get? c=some o/\True:=by
    have hc:c=z\/c=TI\/c=TO\/c=i1\/c=i2:=by simpa using hc
    rcases hc with rfl | rfl | rfl | rfl | rfl
    ·exact ⟨_,s1,trivial⟩
    ·exact ⟨_,s2,trivial⟩
    ·exact ⟨_,s3,trivial⟩
    ·obtain ⟨o,e,_⟩:=s4; exact ⟨o,e,trivial⟩
    ·obtain ⟨o,e,_⟩:=s5; exact ⟨o,e,trivial⟩
   exact Ao e
  have ie:∀ c o,c≠z->c≠TO->c≠i1->c≠i2->s.heap.get? c=some o->nw.get? c=some o:=λc o n1 n2 n3 n4 e=>(sb.2 c n1).trans (a7 c o n1 n2 n3 n4 e);have zl:=lt z (by simp);have ny:nw.get? s.heap.objs.size=some { cls:=.type "tuple",data:=.seq #[u,v] }:=(sb.2 _ (Nat.ne_of_gt zl)).trans a5;have hn:H s.heap.objs.size=none:=I.hok.fresh (An _)
  have I2:Inv X f8 σ (upd H s.heap.objs.size (.tup [x,y])) { s with heap:=nw }:=by
   have out:∀ c,c ∉ [z,TO,i1,i2]->c≠z/\c≠TO/\c≠i1/\c≠i2:=λc hc=>by simpa using hc
   refine I.step (g':=s.gens) (d':=s.drawn) (ch:=[z,TO,i1,i2]) (λc hc=>?_) (λc o _ _ hc q _=>?_) (λc o _ _ hc q _=>⟨o.slots,?_⟩) (λc o _ q n=>by rw [Zf (As (Ao q))]; exact n)
    (λc o hc q=>⟨o,?_⟩) (λc zs q=>by rw [Zf (Zj q hn)]; exact q) (λc o zs q=>by rw [Zf (Zj q hn)]; exact q) (λc ps q=>⟨#[],by rw [Zf (Zj q hn),q]; simp⟩) (λm hm=>?_) (λc v' q=>?_) I.bare
   ·have hc:c=z\/c=TO\/c=i1\/c=i2:=by simpa using hc
    have hm:c∈[z,TI,TO,i1,i2]:=by rcases hc with rfl | rfl | rfl | rfl <;> simp
    obtain ⟨f0,f1,f2,f3,f4,f5⟩:=hf c hm;exact ⟨f3,f1,f4,f5⟩
   ·obtain ⟨n1,n2,n3,n4⟩:=out c hc; exact ie c o n1 n2 n3 n4 q
   ·obtain ⟨n1,n2,n3,n4⟩:=out c hc; exact ie c o n1 n2 n3 n4 q
   ·obtain ⟨n1,n2,n3,n4⟩:=out c hc; exact ie c o n1 n2 n3 n4 q
   ·obtain ⟨o,es,ep,ho,r⟩:=hm
    exact ⟨o,es,ep,ie _ o (Ne.symm (hf z (by simp)).2.1) (Ne.symm (hf TO (by simp)).2.1) (Ne.symm (hf i1 (by simp)).2.1) (Ne.symm (hf i2 (by simp)).2.1) ho,r⟩
   ·by_cases hb:c=s.heap.objs.size
    ·subst hb
     rw [Zc] at q;cases q;exact ⟨by show 2<=sizeLine; decide,[u,v],.cons ru (.cons rv .nil),⟨_,ny,rfl,_,rfl⟩⟩
    ·rw [Zf hb] at q
     refine (I.hok c v' q).stay (λe w' he y'=>ie e w' ?_ ?_ ?_ ?_ y') (λd y'=>by rw [Zf (Zj y' hn)]; exact y') λd zs y'=>by rw [Zf (Zj y' hn)]; exact y'
     all_goals
      rintro rfl;have pj:H e=none:=(hf e (by simp)).1
      rcases he with y' | y'
      ·rw [y',q] at pj; cases pj
      ·rw [pj] at y'; cases y'
  refine ⟨.ref s.heap.objs.size,_,I2,Y,⟨_,x,y,hn,Y,λvb jt=>by rw [I.list_inj jt ut]; exact hx,λys' jt=>by rw [I.list_inj jt ur]; exact hy,Y⟩,
   ⟨b1,(sb.2 TI D.TIz).trans (a7 TI _ D.TIz D.TITO D.TIi1 D.TIi2 s2),⟨u,v,(sb.2 TO D.TOz).trans a2⟩,a3.at λo e=>(sb.2 i1 D.i1z).trans e,a4.at λo e=>(sb.2 i2 D.i2z).trans e⟩,λc hc=>?_⟩;rw [Zf (As (lt c hc))];exact (hf c hc).1
 done:=by
  intro X hP hw hK hc i f8 s σ H E I hf st hg;subst hP hw hK;obtain ⟨xs,ys,ut,ur,gc⟩:=hg;obtain ⟨itx,yx,px,_⟩:=I.list ut;obtain ⟨ity,yw,py,_⟩:=I.list ur;obtain ⟨s1,s2,⟨u0,v0,s3⟩,s4,s5⟩:=st;have l1:=yx.length;have l2:=yw.length;refine wpAny_pyNext_zip_end (I.ok.hd hc) D s1 s2 s3 s4 s5 px.isList py.isList ?_ λh' eb=>⟨Y,?_⟩
  ·rcases gc with z | z
   ·exact .inl (by simp; lia)
   ·exact .inr (by simp; lia)
  ·have out:∀ c,c ∉ [z,TO,i1,i2]->c≠z/\c≠TO/\c≠i1/\c≠i2:=λc hc=>by simpa using hc
   refine I.step (g':=s.gens) (d':=s.drawn) (t':=s.toks) (ch:=[z,TO,i1,i2]) (λc hc=>?_) (λc o _ _ hc q _=>?_) (λc o _ _ hc q _=>⟨o.slots,?_⟩) (λc o _ q n=>n)
    (λc o hc q=>⟨o,?_⟩) (λc zs q=>q) (λc o zs q=>q) (λc ps q=>⟨#[],by rw [q]; simp⟩) (λm hm=>?_) (λc v' q=>?_) I.bare
   ·have hc:c=z\/c=TO\/c=i1\/c=i2:=by simpa using hc
    have hm:c∈[z,TI,TO,i1,i2]:=by rcases hc with rfl | rfl | rfl | rfl <;> simp
    obtain ⟨f0,f1,f2,f3,f4,f5⟩:=hf c hm;exact ⟨f3,f1,f4,f5⟩
   ·obtain ⟨n1,n2,n3,n4⟩:=out c hc; exact eb c o n1 n2 n3 n4 q
   ·obtain ⟨n1,n2,n3,n4⟩:=out c hc; exact eb c o n1 n2 n3 n4 q
   ·obtain ⟨n1,n2,n3,n4⟩:=out c hc; exact eb c o n1 n2 n3 n4 q
   ·obtain ⟨o,es,ep,ho,r⟩:=hm
    exact ⟨o,es,ep,eb _ o (Ne.symm (hf z (by simp)).2.1) (Ne.symm (hf TO (by simp)).2.1) (Ne.symm (hf i1 (by simp)).2.1) (Ne.symm (hf i2 (by simp)).2.1) ho,r⟩
   ·refine (I.hok c v' q).stay (λe w' he y'=>eb e w' ?_ ?_ ?_ ?_ y') (λd y'=>y') λd zs y'=>y'
    all_goals
     rintro rfl;have pj:H e=none:=(hf e (by simp)).1
     rcases he with y' | y'
     ·rw [y',q] at pj; cases pj
     ·rw [pj] at y'; cases y'
 self:=λ_ _ _ _ _ st h=>wpAny_pyIter_zip st.1 h
def Zgb (la:a < N) (lb:b < N):ZipApart (N + 4) (N + 2) (N + 3) N (N + 1) a b:=by
 constructor <;> (intro z; first | exact absurd (show (_:Nat)=_ from z) (by lia) | lia)
variable {X:Cx}
def iZip (K:W.Frag) (ta:TA):TI:=λσ H R=>ta σ H λvs H1=>∃ a b xs ys,vs=[.ref a,.ref b]/\SqL K H1 a xs/\SqL K H1 b ys/\R (Itz K a b) H1
def Znd {jh:List Expr} {x1:Nat} {kq p pos:Pos} {l m:Expr} {ta:TA} (hg:Gl X "zip") (hm:X.mg "zip"=none) (ha:PA X [l,m] ta) (hs:starEach [l,m] X.env=[(false,eval l X.env),(false,eval m X.env)]:=by rfl) (jo:starEach [m] X.env=[(false,eval m X.env)]:=by rfl) :
  PI X (.Tuple jh x1 kq) (.Call (.Name "zip" p) [l,m] [] pos) (iZip X.K ta):=by
 intro f8 s σ H R I h;refine Call_ (Xf I hg hm boot_zip (PyProof.Rows.callWith_type1 (thn (ha pos f8 s σ H _ I h) λus s1 ⟨vs,H1,I1,r1,q1⟩=>?_) (by rw [hs,jo]) (by rw [jo]; rfl)));obtain ⟨a,b,xs,ys,e,ut,ur,q⟩:=q1;subst e;obtain ⟨u,v,rfl,ru,rv⟩:=r1.two;cases ru;cases rv;obtain ⟨itx,yx,px,_⟩:=I1.list ut;obtain ⟨ity,yw,py,_⟩:=I1.list ur;have la:a < s1.heap.objs.size:=by obtain ⟨o,ho,_⟩:=px.isList; exact Ao ho
 have lb:b < s1.heap.objs.size:=by obtain ⟨o,ho,_⟩:=py.isList; exact Ao ho
 refine call_zip_2 px.isList py.isList λh' z1 z2 z3 z4 z5 z6 z7=>wpAny_pyIter_zip z1 ?_;have I2:Inv X f8 σ H1 { s1 with heap:=h' }:=I1.kept (t':=s1.toks) z7;generalize hN:s1.heap.objs.size=N at *;refine ⟨N + 4,[N + 4,N + 2,N + 3,N,N + 1],_,_,H1,Y,I2,Zis a b (N + 4) (N + 2) (N + 3) N (N + 1) (Zgb la lb),⟨z1,z2,⟨_,_,z3⟩,z4,z5⟩,λc hc=>?_,q⟩;have hc:s1.heap.objs.size<=c:=by
  have hc:c=N + 4\/c=N + 2\/c=N + 3\/c=N\/c=N + 1:=by simpa using hc
  rw [hN]
  rcases hc with rfl | rfl | rfl | rfl | rfl
  ·exact Nat.le_add_right _ _
  ·exact Nat.le_add_right _ _
  ·exact Nat.le_add_right _ _
  ·exact An _
  ·exact Nat.le_add_right _ _
 exact I1.fpOk hc (I1.hok.fresh hc)
def Zjr {K:W.Frag} {a b:Addr} {xs ys:List V} {g:TG} {tt:TT} {tb:TB} {R:St->Hp->Prop} {σ:St} {H:Hp} (gc:xs.length=ys.length) (Pv:Nat->St->Hp->Prop) (h0:Pv 0 σ H) (hl:∀ i σ H,i<=xs.length->Pv i σ H->SqL K H a xs/\SqL K H b ys)
  (hs:∀ (i:Nat) x y σ H q,xs[i]?=some x->ys[i]?=some y->H q=none->Pv i σ H->g (.ref q) σ (upd H q (.tup [x,y])) λσ2 H2=>tt σ2 H2 λb H3=>if b=true then tb σ2 H3 (Pv (i + 1)) else Pv (i + 1) σ2 H3) (hd:∀ σ H,Pv xs.length σ H->R σ H):Wo (Itz K a b) g tt tb R σ H:=by
 refine ⟨λi m σ H=>m=xs.length - i/\i<=xs.length/\Pv i σ H,⟨xs.length,by simp,Az _,h0⟩,?_⟩;rintro i m σ H ⟨rfl,hi,p⟩;obtain ⟨q1,q2⟩:=hl i σ H hi p;by_cases gr:i < xs.length
 ·have hlt2:i < ys.length:=by lia
  refine .inr ⟨⟨xs,ys,xs[i],ys[i],q1,q2,by simp [gr],by simp [hlt2]⟩,Pv (i + 1),λσ' H' p'=>⟨xs.length - (i + 1),by lia,Y,gr,p'⟩,λx H' y=>?_⟩;obtain ⟨c,u,v,hn,e1,y1,y2,e2⟩:=y;subst e1 e2;exact hs i u v σ H c (y1 xs q1) (y2 ys q2) hn p
 ·have e:i=xs.length:=by lia
  subst e;exact .inl ⟨⟨xs,ys,q1,q2,.inl (An _)⟩,hd σ H p⟩
end
section
variable {prog:Program} {w:World} {A:Around} {E:Value->Shared->Prop} {s:Shared}
abbrev upIt (a n:Int):Obj:={ cls:=.type "range_iterator",data:=.fields #[rawInt (a + (n - 1) * 1),rawInt n,rawInt (-1)] }
def V7 (h1:-(2 ^ 62)<=z) (h2:z < 2 ^ 62):Builtin.Range.rangeFitsLong z=true:=by
 unfold Builtin.Range.rangeFitsLong;rw [Bool.and_eq_true,decide_eq_true_eq,decide_eq_true_eq];lia
def Zi7 (r:Addr) (a b:Int) (t u v:Tok) (hs:(Builtin.Range.rangeFitsLong a && Builtin.Range.rangeFitsLong b && Builtin.Range.rangeFitsLong 1 && Builtin.Range.rangeFitsLong (-1) && Builtin.Range.rangeFitsLong (a - 1) && Builtin.Range.rangeFitsLong (Builtin.Range.rangeSize a b 1))=true) :
  Meets (Builtin.«range.__reversed__» ⟨[.ref r],[]⟩) (λ_ R s=>IsRange s.heap r a b 1 t u v/\R (.ok (.ret (.ref s.heap.objs.size))) { s with heap:=s.heap.push (upIt a (Builtin.Range.rangeSize a b 1)) }) :=
 .of_wp λprog w A R s h=>by
  obtain ⟨hp,g,d,tk,os⟩:=s;obtain ⟨hl,h⟩:=h;unfold Builtin.«range.__reversed__»;refine Al (wpAny_of_eq (a:=Value.ref r) Y ?_);refine Al (m:=Builtin.Range.rangeFields (.ref r)) ?_;unfold Builtin.Range.rangeFields;refine Al (wpAny_field hl Y (x:=.int a t) Y ?_);refine Al (wpAny_of_eq (a:=some a) Y ?_);refine Al (wpAny_field hl Y (x:=.int b u) Y ?_);refine Al (wpAny_of_eq (a:=some b) Y ?_);refine Al (wpAny_field hl Y (x:=.int 1 v) Y ?_);refine Al (wpAny_of_eq (a:=some 1) Y ?_);refine wpAny_pure ?_;dsimp only;simp only [hs,Bool.not_true,Bool.false_eq_true,if_false,if_true];exact Al (wpAny_newObj_type (wpAny_pure ⟨_,Y,h⟩))
def Zm5:isSubtype (.type "range_iterator") (.type "reversed")=pure false:=by
 rw [isSubtype_type]
 kernel_rfl
def Zle {t:Tok} (hr:IsRange s.heap r a b 1 t u v)
  (hs:(Builtin.Range.rangeFitsLong a && Builtin.Range.rangeFitsLong b && Builtin.Range.rangeFitsLong 1 && Builtin.Range.rangeFitsLong (-1) && Builtin.Range.rangeFitsLong (a - 1) && Builtin.Range.rangeFitsLong (Builtin.Range.rangeSize a b 1))=true)
  (q:Z (.ref s.heap.objs.size) { s with heap:=s.heap.push (upIt a (Builtin.Range.rangeSize a b 1)) }) :
  codeAny (model prog w) A (.call (.builtin "reversed.__new__") ⟨[.type "reversed",.ref r],[]⟩) (wants Z E) s:=by
 have hT:s.TypeIs (.ref r) "range":=⟨_,hr,rfl⟩;refine codeAny_of_tree (show wpAny _ A.in1 (checkBuiltinCall "reversed.__new__" ⟨[.type "reversed",.ref r],[]⟩ >>= λ_=>again (.builtin "reversed.__new__" ⟨[.type "reversed",.ref r],[]⟩)) _ _ s from ?_);refine Al (wpAny_of_eq (PySem.F.newCall_reversed_1 (.ref r)) (wpAny_pure ⟨plainId_quiet PySem.F.plain_reversed_new _,codeAny_builtin PySem.F.entry_reversed_new ?_⟩));rw [Around.under_plainId PySem.F.plain_reversed_new _];unfold Builtin.«reversed.__new__»;refine Al (wpAny_of_eq (newClass_reversed (.ref r)) ?_);refine Al (wpAny_of_eq (a:=()) (by first | rfl | kernel_rfl) (Al (wpAny_of_eq (a:=()) (by first | rfl | kernel_rfl) ?_)));refine Al (wpAny_specialOf hT PySem.F.slot_range_reversed.lookup (Al (wpAny_of_eq (PySem.F.slot_range_reversed.bind (.ref r)) ?_)));have ne:¬ ((Value.builtin "range.__reversed__" == Value.none)=true):=Bool.false_ne_true;dsimp only
 first | rw [if_neg ne] | (show wpAny _ _ (if (Value.builtin "range.__reversed__" == Value.none)=true then _ else _) _ _ _; rw [if_neg ne])
 refine Al (wpAny_rule (Al (m:=runValue (.call (.builtin "range.__reversed__") ⟨[.ref r],[]⟩)) ?_));show wpAny _ _ (call (.builtin "range.__reversed__") [.ref r]) _ _ _;refine call_meets PySem.F.slot_range_reversed hT PySem.F.entry_range_reversed (PySem.F.args_range_reversed_1 _) (Zi7 r a b t u v hs) ⟨hr,?_⟩
 first | exact wpAny_pure q | exact Al (wpAny_pure (wpAny_pure q))
def Zlf {t:Tok} (hr:IsRange s.heap r a b 1 t u v)
  (hs:(Builtin.Range.rangeFitsLong a && Builtin.Range.rangeFitsLong b && Builtin.Range.rangeFitsLong 1 && Builtin.Range.rangeFitsLong (-1) && Builtin.Range.rangeFitsLong (a - 1) && Builtin.Range.rangeFitsLong (Builtin.Range.rangeSize a b 1))=true)
  (q:Q (.ref s.heap.objs.size) { s with heap:=s.heap.push (upIt a (Builtin.Range.rangeSize a b 1)) }):wpAny (model prog w) A (call (.type "reversed") [.ref r]) Q E s:=by
 refine callType_other (U:="range_iterator") (Q₁:=λo z=>o=.ref s.heap.objs.size/\z={ s with heap:=s.heap.push (upIt a (Builtin.Range.rangeSize a b 1)) }) (by decide +kernel) PySem.F.create_reversed ⟨_,_,PySem.F.mro_reversed⟩ PySem.F.made_reversed Zm5 (PySem.F.typeCall_reversed_1 _) (Zle hr hs ⟨rfl,rfl⟩) ?_;rintro o z ⟨rfl,rfl⟩;exact ⟨⟨_,Ap _ Y,Y⟩,q⟩
end
section
variable {X:Cx} {tg:Expr}
def Zoy (ta:TA):TI:=λσ H R=>ta σ H λvs H1=>∃ (i:Int) (n:Nat),vs=[.int i,.int (i + n)]/\0<=i/\i + n<=100000/\R (Itr3 (i + n - 1) (-1) n) H1
def Zlo {a b:Expr} {ta:TA} {p1 p2 pos j8:Pos} (wu:Gl X "reversed") (hml:X.mg "reversed"=none) (hg:Gl X "range") (hm:X.mg "range"=none) (ha:PA X [a,b] ta) (hs:starEach [a,b] X.env=[(false,eval a X.env),(false,eval b X.env)]:=by rfl) (qr:starEach [b] X.env=[(false,eval b X.env)]:=by rfl)
  (jo:starEach [.Call (.Name "range" p2) [a,b] [] j8] X.env=[(false,eval (.Call (.Name "range" p2) [a,b] [] j8) X.env)]:=by rfl):PI X tg (.Call (.Name "reversed" p1) [.Call (.Name "range" p2) [a,b] [] j8] [] pos) (Zoy ta):=by
 intro f8 s σ H R I h;refine Call_ (Xf I wu hml boot_reversed (PyProof.Rows.callWith_type1 ?_ jo Y));rw [jo];refine Calls.spliced_cons ?_;refine Call_ (Xf I hg hm boot_range (PyProof.Rows.callWith_type1 (thn (ha j8 f8 s σ H _ I h) λus s1 ⟨vs,H1,I1,r1,q1⟩=>?_) (by rw [hs,qr]) (by rw [qr]; rfl)));obtain ⟨i,n,e,h0,h1,q⟩:=q1;subst e;obtain ⟨u,v,rfl,ru,rv⟩:=r1.two;obtain ⟨t,rfl⟩:=ru;obtain ⟨t',rfl⟩:=rv;refine call_range_2 (Calls.spliced_nil ?_);have hr:Builtin.Range.rangeSize i (i + n) 1=n:=by rw [rangeSize_one]; split <;> lia
 have fits:(Builtin.Range.rangeFitsLong i && Builtin.Range.rangeFitsLong (i + n) && Builtin.Range.rangeFitsLong 1 && Builtin.Range.rangeFitsLong (-1) && Builtin.Range.rangeFitsLong (i - 1) && Builtin.Range.rangeFitsLong (Builtin.Range.rangeSize i (i + n) 1))=true:=by
  rw [hr,V7 (by lia) (by lia),V7 (by lia) (by lia),V7 (by decide) (by decide),V7 (by decide) (by decide),V7 (by lia) (by lia),V7 (by lia) (by lia)];rfl
 refine Zlf (IsRange.new ..) fits ?_;rw [hr];have I2:Inv X f8 σ H1 { s1 with heap:=s1.heap.push { cls:=.type "range",data:=.fields #[.int i t,.int (i + n) t',.int 1 s1.toks] },toks:=s1.toks + 1 }:=I1.kept λb o e=>Ak _ e;have st:IsRangeIter ((s1.heap.push { cls:=.type "range",data:=.fields #[.int i t,.int (i + n) t',.int 1 s1.toks] }).push (upIt i n)) (s1.heap.push { cls:=.type "range",data:=.fields #[.int i t,.int (i + n) t',.int 1 s1.toks] }).objs.size (i + n - 1 + ((0:Nat):Int) * (-1)) ((n:Int) - ((0:Nat):Int)) (-1):=by
  have e1:i + (n:Int) - 1 + ((0:Nat):Int) * (-1)=i + ((n:Int) - 1) * 1:=by simp; lia
  have e2:(n:Int) - ((0:Nat):Int)=n:=by simp
  rw [e1,e2]
  exact Ap _ Y
 refine wpAny_pyIter_rangeiter st ?_;refine ⟨_,[(s1.heap.push { cls:=.type "range",data:=.fields #[.int i t,.int (i + n) t',.int 1 s1.toks] }).objs.size],_,_,H1,rfl,I2.kept (t':=s1.toks + 1) λb o e=>Ak _ e,O7 _ (i + n - 1) (-1) n,st,λb hb=>?_,q⟩;have e:b=(s1.heap.push { cls:=.type "range",data:=.fields #[.int i t,.int (i + n) t',.int 1 s1.toks] }).objs.size:=by simpa using hb
 subst e;exact I2.fpOk (An _) (I2.hok.fresh (An _))
def Zf2 {lo st:Int} {n:Nat} {g:TG} {tb:TS} {D:Ends} {σ:St} {H:Hp} (Pv:Nat->St->Hp->Prop) (h0:Pv 0 σ H)
  (hs:∀ (i:Nat) σ H,i < n->Pv i σ H->g (.int (lo + i * st)) σ H λσ2 H2=>tb { D with nx:=Pv (i + 1),ct:=Pv (i + 1),bk:=D.nx } σ2 H2) (hd:∀ σ H,Pv n σ H->D.nx σ H) :
  ∃ W:Nat->Nat->St->Hp->Prop,(∃ m,W 0 m σ H)/\∀ i m σ H,W i m σ H ->
   ((Itr3 lo st n).stop i H/\D.nx σ H)\/((Itr3 lo st n).go i H/\∃ N:St->Hp->Prop,(∀ σ' H',N σ' H'->∃ m',m' < m/\W (i + 1) m' σ' H')/\∀ x H',(Itr3 lo st n).yld i H x H'->g x σ H' λσ2 H2=>tb { D with nx:=N,ct:=N,bk:=D.nx } σ2 H2):=by
 refine ⟨λi m σ H=>m=n - i/\i<=n/\Pv i σ H,⟨n,by simp,Az _,h0⟩,?_⟩;rintro i m σ H ⟨rfl,hi,p⟩;by_cases gr:i < n
 ·refine .inr ⟨gr,Pv (i + 1),λσ' H' p'=>⟨n - (i + 1),by lia,Y,gr,p'⟩,λx H' y=>?_⟩
  obtain ⟨e,y⟩:=y;subst e y;exact hs i σ _ gr p
 ·have e:i=n:=by lia
  subst e;exact .inl ⟨An _,hd σ H p⟩
def Zem (K:W.Frag) (hc:X.calm=true) (h:PGs X es t)
  (hn:(assignEach es X.env).length=n:=by rfl) (j5:(assignEach es X.env).findIdx? (·.1)=none:=by rfl) (hk:X.K=K:=by rfl):PG X (.Tuple es k pos) (gTup K n t):=hk ▸ J7 hc h hn j5
end
end L2
namespace KT
open PySem L2
def mV:Option Nat->V
 | none=>.non
 | some j=>.int j
structure TD (M:List (Option Nat)) (ns:List Int):Prop where
 n:∃ n,1<=n/\n<=40/\M.length=3 * n
 len:ns.length=M.length
 inv:∀ (i j:Nat),M[i]?=some (some j)->M[j]?=some (some i)/\i≠j
 rng:∀ (i:Nat) x,ns[i]?=some x->0<=x/\x<=9999
 eqv:∀ (i j:Nat) x,ns[i]?=some x->ns[j]?=some x->i=j\/M[i]?=some (some j)
 eqm:∀ (i j:Nat),M[i]?=some (some j)->ns[j]?=ns[i]?
structure SewOk (N:Nat) (F:List Nat) (M:List (Option Nat)):Prop where
 len:M.length=N
 nd:F.Nodup
 free:∀ f∈F,f < N/\M[f]?=some none
 inv:∀ (i j:Nat),M[i]?=some (some j)->M[j]?=some (some i)/\i≠j
def SewOk.start (N:Nat):SewOk N (List.range N) (List.replicate N none):=by
 refine ⟨by simp,List.nodup_range,λf hf=>?_,λi j h=>?_⟩
 ·have h:=List.mem_range.mp hf
  exact ⟨h,by rw [List.getElem?_replicate,if_pos h]⟩
 ·rw [List.getElem?_replicate] at h
  split at h <;> cases h
def SewOk.skip {one:Nat} (h:SewOk N (one :: F) M):SewOk N F M :=
 ⟨h.len,(List.nodup_cons.mp h.nd).2,λf hf=>h.free f (List.mem_cons_of_mem _ hf),h.inv⟩
def SewOk.pair {F:List Nat} {M:List (Option Nat)} (h:SewOk N (one :: F) M) (hk:F[k]?=some other):SewOk N (F.eraseIdx k) ((M.set one (some other)).set other (some one)):=by
 obtain ⟨n1,n2⟩:=List.nodup_cons.mp h.nd;have hm:other∈F:=Au hk;have iu:one≠other:=λz=>n1 (z ▸ hm);obtain ⟨h1,f1⟩:=h.free one List.mem_cons_self;obtain ⟨h2,f2⟩:=h.free other (List.mem_cons_of_mem _ hm);have l1:one < M.length:=by rw [h.len]; exact h1
 have l2:other < M.length:=by rw [h.len]; exact h2
 have g1:((M.set one (some other)).set other (some one))[one]?=some (some other):=by
  rw [List.getElem?_set_ne (Ne.symm iu),List.getElem?_set_self l1]
 have g2:((M.set one (some other)).set other (some one))[other]?=some (some one):=by
  rw [List.getElem?_set_self (by rw [List.length_set]; exact l2)]
 have g3:∀ i,i≠one->i≠other->((M.set one (some other)).set other (some one))[i]?=M[i]?:=λi a b=>by
  rw [List.getElem?_set_ne (Ne.symm b),List.getElem?_set_ne (Ne.symm a)]
 refine ⟨by rw [List.length_set,List.length_set]; exact h.len,n2.sublist (List.eraseIdx_sublist F k),λf hf=>?_,λi j e=>?_⟩
 ·obtain ⟨i,hi,hik,e⟩:=List.mem_eraseIdx_iff_getElem.mp hf
  have fm:f∈F:=e ▸ List.getElem_mem hi;obtain ⟨a,b⟩:=h.free f (List.mem_cons_of_mem _ fm);have c1:f≠one:=λz=>n1 (z ▸ fm);have c2:f≠other:=λz=>by
   obtain ⟨js,ek⟩:=Aa hk
   exact hik ((List.getElem_inj n2).mp (e.trans (z.trans ek.symm)))
  exact ⟨a,by rw [g3 f c1 c2]; exact b⟩
 ·by_cases c1:i=one
  ·subst c1
   rw [g1] at e;cases e;exact ⟨g2,iu⟩
  ·by_cases c2:i=other
   ·subst c2
    rw [g2] at e;cases e;exact ⟨g1,Ne.symm iu⟩
   ·rw [g3 i c1 c2] at e
    obtain ⟨a,b⟩:=h.inv i j e;have d1:j≠one:=λz=>by rw [z,f1] at a; cases a
    have d2:j≠other:=λz=>by rw [z,f2] at a; cases a
    exact ⟨by rw [g3 j d1 d2]; exact a,b⟩
def nm (s t:Int) (i:Nat):Int:=(s + t * i) % 10000
def rep (M:List (Option Nat)) (i:Nat):Nat:=match M[i]? with
 | some (some j)=>if j < i then j else i
 | _=>i
def flat (M:List (Option Nat)) (s t:Int):List Int:=(List.range M.length).map λi=>nm s t (rep M i)
def Ua:List Int:=[1,3,7,9,37,1009,3333,9999]
def nm_d:∀ t∈Ua,∀ d:Fin 42,t * ((d.val:Nat):Int) % 10000=0->d.val=0:=by decide +kernel
def Znn (ht:t∈Ua) (hi:i < 42) (hj:j < 42) (h:nm s t i=nm s t j):i=j:=by
  have key:∀ a b:Nat,b<=a->a < 42->nm s t a=nm s t b->a=b:=λa b gz ha e=>by
    have e2:=Int.emod_eq_emod_iff_emod_sub_eq_zero.mp e;rw [Int.add_sub_add_left,<- Int.mul_sub,<- Int.natCast_sub gz] at e2;have:=nm_d t ht ⟨a - b,Nat.lt_of_le_of_lt (Nat.sub_le _ _) ha⟩ e2;exact Nat.le_antisymm (Nat.sub_eq_zero_iff_le.mp this) gz
  rcases Nat.le_total i j with h' | h'
  · exact (key j i h' hj h.symm).symm
  · exact key i j h' hi h
def Zg0 {N:Nat} (h:i < N):rep M i < N:=by
 unfold rep;split
 ·split <;> omega
 ·exact h
def Od (M:List (Option Nat)) (i:Nat):rep M i=i\/(∃ j,M[i]?=some (some j)/\j < i/\rep M i=j):=by
 cases e:M[i]? with
 | none=>exact .inl (by unfold rep; rw [e])
 | some o =>
  cases o with
  | none=>exact .inl (by unfold rep; rw [e])
  | some j =>
   by_cases h:j < i
   ·exact .inr ⟨j,Y,h,by unfold rep; rw [e]; exact if_pos h⟩
   ·exact .inl (by unfold rep; rw [e]; exact if_neg h)
def Ku {M:List (Option Nat)} (h:(flat M s t)[i]?=some x):i < M.length/\x=nm s t (rep M i):=by
 unfold flat at h;rw [Ah] at h;by_cases hi:i < M.length
 ·rw [List.getElem?_range hi] at h
  exact ⟨hi,(Ax h).symm⟩
 ·rw [Ay (by simpa using hi)] at h
  cases h
def Zez {M:List (Option Nat)} (hi:i < M.length):(flat M s t)[i]?=some (nm s t (rep M i)):=by
 unfold flat;rw [Ah,List.getElem?_range hi];rfl
def Zkw {M:List (Option Nat)} {n:Nat} (h1:1<=n) (h2:n<=14) (hM:M.length=3 * n) (ka:∀ (i j:Nat),M[i]?=some (some j)->M[j]?=some (some i)/\i≠j) (ht:t∈Ua):TD M (flat M s t) where
 n:=⟨n,h1,by omega,hM⟩
 len:=by unfold flat; simp
 inv:=ka
 rng:=λi x h=>by
  obtain ⟨_,rfl⟩:=Ku h;unfold nm;omega
 eqv:=λi j x hi hj=>by
  obtain ⟨li,ei⟩:=Ku hi;obtain ⟨lj,ej⟩:=Ku hj;have e:rep M i=rep M j:=Znn ht (by have:=Zg0 (M:=M) li; omega) (by have:=Zg0 (M:=M) lj; omega) (ei.symm.trans ej)
  rcases Od M i with a | ⟨a,ha,la,ra⟩
  ·rcases Od M j with b | ⟨b,hb,lb,rb⟩
   ·exact .inl (a.symm.trans (e.trans b))
   ·have:b=i:=by rw [<- rb,<- e,a]
    subst this;exact .inr (ka j b hb).1
  ·rcases Od M j with b | ⟨b,hb,lb,rb⟩
   ·have:a=j:=by rw [<- ra,e,b]
    subst this;exact .inr ha
   ·have:a=b:=by rw [<- ra,e,rb]
    subst this;have c1:=(ka i a ha).1;have c2:=(ka j a hb).1;rw [c1] at c2;exact .inl (by cases c2; rfl)
 eqm:=λi j h=>by
  obtain ⟨h',iu⟩:=ka i j h;have li:i < M.length:=(Aa h).1;have lj:j < M.length:=(Aa h').1;rw [Zez li,Zez lj];have e:rep M j=rep M i:=by
   by_cases c:j < i
   ·have a:rep M i=j:=by unfold rep; rw [h]; exact if_pos c
    have b:rep M j=j:=by unfold rep; rw [h']; exact if_neg (by omega)
    rw [a,b]
   ·have a:rep M i=i:=by unfold rep; rw [h]; exact if_neg c
    have b:rep M j=i:=by unfold rep; rw [h']; exact if_pos (by omega)
    rw [a,b]
  rw [e]
def pl (ns:List Int) (n:Nat) (x:Int):List Nat:=(List.range n).filter λi=>decide (ns[i]?=some x)
def keys (ns:List Int):Nat->List Int
 | 0=>[]
 | n + 1=>match ns[n]? with
  | some x=>if x∈keys ns n then keys ns n else keys ns n ++ [x]
  | none=>keys ns n
def Xn {ns:List Int} {i:Nat}:i∈pl ns n x ↔ i < n/\ns[i]?=some x:=by
 unfold pl;rw [List.mem_filter,List.mem_range];simp
def Zjb (ns:List Int) (n:Nat) (x:Int):(pl ns n x).Nodup:=(List.nodup_range).sublist List.filter_sublist
def Zg8 (ns:List Int) (n:Nat) (x:Int):(pl ns n x).Pairwise (· < ·):=(List.pairwise_lt_range).sublist List.filter_sublist
def Zel {ns:List Int} (h:ns[n]?=some x):pl ns (n + 1) x=pl ns n x ++ [n]:=by
 unfold pl;rw [List.range_succ,List.filter_append];congr 1;simp [h]
def Zcd {ns:List Int} (h:ns[n]?≠some x):pl ns (n + 1) x=pl ns n x:=by
 unfold pl;rw [List.range_succ,List.filter_append];simp [h]
def Xp {ns:List Int} (h:ns[n]?=some x):keys ns (n + 1)=if x∈keys ns n then keys ns n else keys ns n ++ [x]:=by
 show (match ns[n]? with | some x=>if x∈keys ns n then keys ns n else keys ns n ++ [x] | none=>keys ns n)=_;rw [h]
theorem Yk {ns:List Int}:∀ {n:Nat} {x:Int},x∈keys ns n ↔ ∃ i,i < n/\ns[i]?=some x
 | 0,x=>by simp [keys]
 | n + 1,x=>by
  have ih:=Yk (ns:=ns) (n:=n) (x:=x)
  have e:x∈keys ns (n + 1) ↔ x∈keys ns n\/ns[n]?=some x:=by
   cases h:ns[n]? with
   | none =>
    have:keys ns (n + 1)=keys ns n:=by
     show (match ns[n]? with | some x=>if x∈keys ns n then keys ns n else keys ns n ++ [x] | none=>keys ns n)=_;rw [h]
    rw [this]; simp
   | some y =>
    rw [Xp h];split
    ·constructor
     ·exact .inl
     ·rintro (z | z)
      ·exact z
      ·cases z; assumption
    ·rw [List.mem_append,List.mem_singleton]
     constructor
     ·rintro (z | z)
      ·exact .inl z
      ·exact .inr (by rw [z])
     ·rintro (z | z)
      ·exact .inl z
      ·exact .inr (by cases z; rfl)
  rw [e,ih];constructor
  ·rintro (⟨i,h1,h2⟩ | h)
   ·exact ⟨i,by lia,h2⟩
   ·exact ⟨n,by lia,h⟩
  ·rintro ⟨i,h1,h2⟩
   by_cases c:i=n
   ·subst c; exact .inr h2
   ·exact .inl ⟨i,by lia,h2⟩
theorem Uj (ns:List Int):∀ n,(keys ns n).Nodup
 | 0=>List.nodup_nil
 | n + 1=>by
  have ih:=Uj ns n
  cases h:ns[n]? with
  | none =>
   have:keys ns (n + 1)=keys ns n:=by
    show (match ns[n]? with | some x=>if x∈keys ns n then keys ns n else keys ns n ++ [x] | none=>keys ns n)=_;rw [h]
   rw [this]; exact ih
  | some y =>
   rw [Xp h];split
   ·exact ih
   ·rename_i c
    refine List.nodup_append.mpr ⟨ih,by simp,λa ha b hb=>?_⟩;rw [List.mem_singleton] at hb;subst hb;rintro rfl;exact c ha
theorem Kt (ns:List Int):∀ n,(keys ns n).length<=n
 | 0=>An _
 | n + 1=>by
  have ih:=Kt ns n
  cases h:ns[n]? with
  | none =>
   have:keys ns (n + 1)=keys ns n:=by
    show (match ns[n]? with | some x=>if x∈keys ns n then keys ns n else keys ns n ++ [x] | none=>keys ns n)=_;rw [h]
   rw [this]; lia
  | some y =>
   rw [Xp h];split
   ·lia
   ·rw [Ae,At]; lia
def Znc (h:x ∉ keys ns n):pl ns n x=[]:=by
 cases e:pl ns n x with
 | nil=>rfl
 | cons a r =>
  have:a∈pl ns n x:=by rw [e]; exact List.mem_cons_self
  obtain ⟨h1,h2⟩:=Xn.mp this;exact absurd (Yk.mpr ⟨a,h1,h2⟩) h
def Zce (td:TD M ns) (n:Nat) (x:Int):(pl ns n x).length<=2:=by
 match e:pl ns n x with
 | []=>simp
 | [_]=>simp
 | [_,_]=>simp
 | a :: b :: c :: r =>
  exfalso;have nd:=Zjb ns n x;rw [e] at nd;have ha:=(Xn.mp (show a∈pl ns n x by rw [e]; simp)).2;have hb:=(Xn.mp (show b∈pl ns n x by rw [e]; simp)).2;have hc:=(Xn.mp (show c∈pl ns n x by rw [e]; simp)).2;simp only [List.nodup_cons,List.mem_cons,not_or] at nd;obtain ⟨⟨n1,n2,_⟩,⟨n3,_⟩,_⟩:=nd
  rcases td.eqv a b x ha hb with z | z
  ·exact n1 z
  ·rcases td.eqv a c x ha hc with y | y
   ·exact n2 y
   ·rw [z] at y
    cases y;exact n3 Y
def Ue {M:List (Option Nat)} {ns:List Int} (td:TD M ns) (hx:x∈keys ns ns.length) :
  (∃ a,pl ns ns.length x=[a]/\ns[a]?=some x/\M[a]?=some none)\/(∃ a b,a < b/\pl ns ns.length x=[a,b]/\ns[a]?=some x/\ns[b]?=some x/\M[a]?=some (some b)/\M[b]?=some (some a)):=by
 obtain ⟨i,h1,h2⟩:=Yk.mp hx;have mi:i∈pl ns ns.length x:=Xn.mpr ⟨h1,h2⟩;have l2:=Zce td ns.length x;have st:=Zg8 ns ns.length x
 match e:pl ns ns.length x with
 | []=>rw [e] at mi; simp at mi
 | [a] =>
  obtain ⟨ga,ha⟩:=Xn.mp (show a∈pl ns ns.length x by rw [e]; simp);refine .inl ⟨a,Y,ha,?_⟩;have la:a < M.length:=by rw [<- td.len]; exact ga
  cases q:M[a]? with
  | none=>rw [List.getElem?_eq_none_iff] at q; lia
  | some o =>
   cases o with
   | none=>rfl
   | some b =>
    exfalso;have hb:ns[b]?=some x:=by rw [td.eqm a b q]; exact ha
    have mb:b∈pl ns ns.length x:=Xn.mpr ⟨(Aa hb).1,hb⟩;rw [e,List.mem_singleton] at mb;exact (td.inv a b q).2 mb.symm
 | [a,b] =>
  obtain ⟨ga,ha⟩:=Xn.mp (show a∈pl ns ns.length x by rw [e]; simp);obtain ⟨gb,hb⟩:=Xn.mp (show b∈pl ns ns.length x by rw [e]; simp);rw [e] at st;have gz:a < b:=by simpa using st
  rcases td.eqv a b x ha hb with z | z
  ·lia
  ·exact .inr ⟨a,b,gz,Y,ha,hb,z,(td.inv a b z).1⟩
 | a :: b :: c :: r=>rw [e] at l2; simp at l2
def part (M:List (Option Nat)) (ns:List Int) (ks:List Int):List (Option Nat):=(List.range M.length).map λi=>match ns[i]? with
 | some x=>if x∈ks then M.getD i none else none
 | none=>none
def Xr (M:List (Option Nat)) (ns ks:List Int):(part M ns ks).length=M.length:=by unfold part; simp
def Ju {M:List (Option Nat)} {ns:List Int} (td:TD M ns) (h:ns[i]?=some x):(part M ns ks)[i]?=some (if x∈ks then M.getD i none else none):=by
 have li:i < M.length:=by rw [<- td.len]; exact (Aa h).1
 unfold part;rw [Ah,List.getElem?_range li];simp [h]
def Zjg {M:List (Option Nat)} (td:TD M ns):part M ns []=List.replicate M.length none:=by
 apply List.ext_getElem?;intro i;by_cases li:i < M.length
 ·obtain ⟨x,hx⟩:∃ x,ns[i]?=some x:=⟨_,Ac (by rw [td.len]; exact li)⟩
  rw [Ju td hx,List.getElem?_replicate,if_pos li];simp
 ·rw [Ay (by rw [Xr]; lia),Ay (by simp; lia)]
def Zjh {ns:List Int} (td:TD M ns):part M ns (keys ns ns.length)=M:=by
 apply List.ext_getElem?;intro i;by_cases li:i < M.length
 ·have ln:i < ns.length:=by rw [td.len]; exact li
  obtain ⟨x,hx⟩:∃ x,ns[i]?=some x:=⟨_,Ac ln⟩;rw [Ju td hx,if_pos (Yk.mpr ⟨i,ln,hx⟩),Ad,Ac li];rfl
 ·rw [Ay (by rw [Xr]; lia),Ay (by lia)]
def Zjf {M:List (Option Nat)} {ns:List Int} (td:TD M ns) {a:Nat} (hp:pl ns ns.length x=[a]) (hm:M[a]?=some none):part M ns (ks ++ [x])=part M ns ks:=by
 apply List.ext_getElem?;intro i;by_cases li:i < M.length
 ·have ln:i < ns.length:=by rw [td.len]; exact li
  obtain ⟨y,hy⟩:∃ x,ns[i]?=some x:=⟨_,Ac ln⟩;rw [Ju td hy,Ju td hy];by_cases c:y=x
  ·subst c
   have:i∈pl ns ns.length y:=Xn.mpr ⟨ln,hy⟩;rw [hp,List.mem_singleton] at this;subst this;have:M.getD i none=none:=by rw [Ad,hm]; rfl
   rw [this];simp
  ·simp [c]
 ·rw [Ay (by rw [Xr]; lia),Ay (by rw [Xr]; lia)]
def Zhf {M:List (Option Nat)} {ns:List Int} (td:TD M ns) (hp:pl ns ns.length x=[a,b]) (gz:a < b) (ha:M[a]?=some (some b)) (hb:M[b]?=some (some a)) :
  part M ns (ks ++ [x])=((part M ns ks).set a (some b)).set b (some a):=by
 have la:a < M.length:=(Aa ha).1;have lb:b < M.length:=(Aa hb).1;have na:=(Xn.mp (show a∈pl ns ns.length x by rw [hp]; simp)).2;have nb:=(Xn.mp (show b∈pl ns ns.length x by rw [hp]; simp)).2;apply List.ext_getElem?;intro i;by_cases li:i < M.length
 ·have ln:i < ns.length:=by rw [td.len]; exact li
  obtain ⟨y,hy⟩:∃ x,ns[i]?=some x:=⟨_,Ac ln⟩;rw [Ju td hy];by_cases cb:i=b
  ·subst cb
   rw [nb] at hy; cases hy;rw [List.getElem?_set_self (by rw [List.length_set,Xr]; exact lb),if_pos (by simp),Ad,hb];rfl
  ·rw [List.getElem?_set_ne (Ne.symm cb)]
   by_cases ca:i=a
   ·subst ca
    rw [na] at hy; cases hy;rw [List.getElem?_set_self (by rw [Xr]; exact la),if_pos (by simp),Ad,ha];rfl
   ·rw [List.getElem?_set_ne (Ne.symm ca),Ju td hy]
    have:y≠x:=by
     rintro rfl;have:i∈pl ns ns.length y:=Xn.mpr ⟨ln,hy⟩;rw [hp] at this;simp at this;lia
    simp [this]
 ·rw [Ay (by rw [Xr]; lia),Ay (by rw [List.length_set,List.length_set,Xr]; lia)]
def nV (i:Nat):V:=.int (i:Int)
theorem Jm {g:Int->V}:∀ {ks:List Int},valV (ks.map λx=>((Sum.inl x:Key),g x)) (Sum.inl y)=if y∈ks then some (g y) else none
 | []=>by simp [valV]
 | k :: r=>by
  have ih:=Jm (g:=g) (y:=y) (ks:=r);unfold valV at ih ⊢;rw [List.map_cons,List.find?_cons];by_cases c:k=y
  ·subst c
   simp
  ·have:(decide ((Sum.inl k:Key)=Sum.inl y))=false:=by
    rw [decide_eq_false_iff_not];intro z;cases z;exact c Y
   simp only [this];rw [ih];have:(y∈k :: r) ↔ y∈r:=by
    rw [List.mem_cons]
    exact ⟨λz=>z.elim (λw=>absurd w.symm c) id,.inr⟩
   simp only [this]
def Zeh {g:Int->V} {ks:List Int} (h:y ∉ ks):putK (ks.map λx=>((Sum.inl x:Key),g x)) (Sum.inl y) v=(ks.map λx=>((Sum.inl x:Key),g x)) ++ [(Sum.inl y,v)]:=by
 unfold putK;rw [if_neg];intro z;rw [List.any_eq_true] at z;obtain ⟨kv,h1,h2⟩:=z;obtain ⟨x,hx,rfl⟩:=List.mem_map.mp h1;have:(Sum.inl x:Key)=Sum.inl y:=of_decide_eq_true h2;cases this;exact h hx
def Zlj {g:Int->V} {ks:List Int} (h:y∈ks):putK (ks.map λx=>((Sum.inl x:Key),g x)) (Sum.inl y) v=ks.map λx=>((Sum.inl x:Key),if x=y then v else g x):=by
 unfold putK;rw [if_pos]
 ·rw [List.map_map]
  apply List.map_congr_left;intro x hx;show (if (Sum.inl x:Key)=Sum.inl y then ((Sum.inl x:Key),v) else (Sum.inl x,g x))=_;by_cases c:x=y
  ·subst c; simp
  ·rw [if_neg (λz=>by cases z; exact c Y),if_neg c]
 ·rw [List.any_eq_true]
  exact ⟨_,List.mem_map.mpr ⟨y,h,Y⟩,by simp⟩
def Yh {α:Type} {f:α->V} {l:List α} {i:Nat} {x:α} (h:l[i]?=some x):atI (l.map f) (i:Int)=some (f x):=Yu (by rw [Ah,h]; rfl)
def W1 (h:upd H p o q=none):q≠p/\H q=none:=by
 by_cases c:q=p
 ·subst c; rw [Zc] at h; cases h
 ·rw [Zf c] at h; exact ⟨c,h⟩
def after (p:Int):Int:=if p % 3=2 then p - 2 else p + 1
def before (p:Int):Int:=if p % 3=0 then p + 2 else p - 1
def Ys (left:Bool) (a b:Nat):List Int:=if left then [after a,before b,after b,before a] else [after a,before a,after b,before b]
def mvI (left:Bool) (a b:Nat) (z:Int):Int :=
 if z=after a then (if left then before b else before a) else if z=before b then (if left then after b else after a) else if z=after b then (if left then before a else before b) else if z=before a then (if left then after a else after b) else z
def glV (left:Bool) (a b:Nat):List (Key × V):=(Ys left a b).map λx=>((Sum.inl x:Key),V.int (mvI left a b x))
def Y2 (p:Nat):after p / 3=(p:Int) / 3/\after p≠p/\0<=after p:=by unfold after; split <;> lia
def Yn (p:Nat):before p / 3=(p:Int) / 3/\before p≠p/\0<=before p:=by unfold before; split <;> lia
def Ou (p:Nat):after p≠before p:=by unfold after before; split <;> split <;> lia
def Jk {a b:Nat} (h:a / 3≠b / 3):after a≠before a/\after a≠after b/\after a≠before b/\before a≠after b/\before a≠before b/\after b≠before b:=by
 obtain ⟨h1,_,_⟩:=Y2 a;obtain ⟨h2,_,_⟩:=Yn a;obtain ⟨h3,_,_⟩:=Y2 b;obtain ⟨h4,_,_⟩:=Yn b;have e:¬ (a:Int) / 3=(b:Int) / 3:=by lia
 refine ⟨Ou a,λz=>e ?_,λz=>e ?_,λz=>e ?_,λz=>e ?_,Ou b⟩
 ·rw [<- h1,<- h3,z]
 ·rw [<- h1,<- h4,z]
 ·rw [<- h2,<- h3,z]
 ·rw [<- h2,<- h4,z]
theorem Gs:∀ (kvs gj:List (Key × V)),((gj ++ kvs).map (·.1)).Nodup->Wg gj kvs=gj ++ kvs
 | [],gj,_=>by simp [Wg]
 | kv :: r,gj,h=>by
  have h1:(gj.any λx=>decide (x.1=kv.1))=false:=by
   rw [List.any_eq_false];intro x hx z;have z:x.1=kv.1:=of_decide_eq_true z;rw [Aj,List.map_cons] at h;have:=(List.nodup_append.mp h).2.2 x.1 (List.mem_map.mpr ⟨x,hx,rfl⟩) kv.1 List.mem_cons_self;exact this z
  have h2:putK gj kv.1 kv.2=gj ++ [kv]:=by
   unfold putK;rw [if_neg (by rw [h1]; decide)]
  show Wg (putK gj kv.1 kv.2) r=_;rw [h2,Gs r (gj ++ [kv]) (by simpa using h)];simp
def Zcw {left:Bool} {a b:Nat} (h:a / 3≠b / 3):Wg [] (glV left a b)=glV left a b:=by
 obtain ⟨h1,h2,h3,h4,h5,h6⟩:=Jk h;refine Gs (glV left a b) [] ?_;unfold glV Ys;rw [List.nil_append,List.map_map];cases left <;> simp [h1,h2,h3,h4,h5,h6,Ne.symm h1,Ne.symm h2,Ne.symm h3,Ne.symm h4,Ne.symm h5,Ne.symm h6]
def Zc5 {a b:Nat} (h:a / 3≠b / 3):glV true a b=[(Sum.inl (after a),.int (before b)),(Sum.inl (before b),.int (after b)),(Sum.inl (after b),.int (before a)),(Sum.inl (before a),.int (after a))]:=by
 obtain ⟨h1,h2,h3,h4,h5,h6⟩:=Jk h;unfold glV Ys mvI;simp [h1,h2,h3,h4,h5,h6,Ne.symm h1,Ne.symm h2,Ne.symm h3,Ne.symm h4,Ne.symm h5,Ne.symm h6]
def Zad {a b:Nat} (h:a / 3≠b / 3):glV false a b=[(Sum.inl (after a),.int (before a)),(Sum.inl (before a),.int (after b)),(Sum.inl (after b),.int (before b)),(Sum.inl (before b),.int (after a))]:=by
 obtain ⟨h1,h2,h3,h4,h5,h6⟩:=Jk h;unfold glV Ys mvI;simp [h1,h2,h3,h4,h5,h6,Ne.symm h1,Ne.symm h2,Ne.symm h3,Ne.symm h4,Ne.symm h5,Ne.symm h6]
def Zct (left:Bool) (i j:Nat) (z:Int):mvI left i j z=z\/mvI left i j z=after i\/mvI left i j z=before i\/mvI left i j z=after j\/mvI left i j z=before j:=by
 unfold mvI;by_cases c1:z=after i
 ·cases left <;> simp [c1]
 ·by_cases c2:z=before j
  ·rw [if_neg c1,if_pos c2]; cases left <;> simp
  ·by_cases c3:z=after j
   ·rw [if_neg c1,if_neg c2,if_pos c3]; cases left <;> simp
   ·by_cases c4:z=before i
    ·rw [if_neg c1,if_neg c2,if_neg c3,if_pos c4]; cases left <;> simp
    ·rw [if_neg c1,if_neg c2,if_neg c3,if_neg c4]; exact .inl Y
def mvN (left:Bool) (i j z:Nat):Nat:=(mvI left i j z).toNat
def Zht (left:Bool) (i j z:Nat):0<=mvI left i j z:=by
 have h1:=(Y2 i).2.2;have h2:=(Yn i).2.2;have h3:=(Y2 j).2.2;have h4:=(Yn j).2.2
 rcases Zct left i j z with e | e | e | e | e <;> rw [e] <;> lia
def Qa (left:Bool) (i j z:Nat):((mvN left i j z:Nat):Int)=mvI left i j z:=Int.toNat_of_nonneg (Zht left i j z)
def Zep {i j:Nat} (h:i / 3≠j / 3) (left:Bool) (z:Int):mvI (!left) i j (mvI left i j z)=z:=by
 obtain ⟨h1,h2,h3,h4,h5,h6⟩:=Jk h;by_cases c1:z=after i
 ·subst c1; cases left <;> simp [mvI,h1,h2,h3,h4,h5,h6,Ne.symm h1,Ne.symm h2,Ne.symm h3,Ne.symm h4,Ne.symm h5,Ne.symm h6]
 ·by_cases c2:z=before j
  ·subst c2; cases left <;> simp [mvI,h1,h2,h3,h4,h5,h6,Ne.symm h1,Ne.symm h2,Ne.symm h3,Ne.symm h4,Ne.symm h5,Ne.symm h6]
  ·by_cases c3:z=after j
   ·subst c3; cases left <;> simp [mvI,h1,h2,h3,h4,h5,h6,Ne.symm h1,Ne.symm h2,Ne.symm h3,Ne.symm h4,Ne.symm h5,Ne.symm h6]
   ·by_cases c4:z=before i
    ·subst c4; cases left <;> simp [mvI,h1,h2,h3,h4,h5,h6,Ne.symm h1,Ne.symm h2,Ne.symm h3,Ne.symm h4,Ne.symm h5,Ne.symm h6]
    ·cases left <;> simp [mvI,c1,c2,c3,c4]
def Wk {i j:Nat} (h:i / 3≠j / 3) (left:Bool) (z:Nat):mvN (!left) i j (mvN left i j z)=z:=by
 have:=Zep h left z;rw [<- Qa left,<- Qa] at this;lia
def Va {i j:Nat} (h:i / 3≠j / 3) (left:Bool) (z:Nat):mvN left i j (mvN (!left) i j z)=z:=by
 have:=Wk h (!left) z;rw [Bool.not_not] at this;exact this
def G4 {p:Int} {q i n:Nat} (e:(q:Int)=p) (h:p / 3=(i:Int) / 3) (hi:i < 3 * n):q < 3 * n:=by lia
def Za2 {p:Int} {i n:Nat} (h0:0<=p) (h:p / 3=(i:Int) / 3) (hi:i < 3 * n):0<=p/\p < 3 * (n:Int):=⟨h0,by lia⟩
def Jj {i j n:Nat} (hi:i < 3 * n) (hj:j < 3 * n) (left:Bool) {z:Nat} (hz:z < 3 * n):mvN left i j z < 3 * n:=by
 have e:=Qa left i j z
 rcases Zct left i j z with q | q | q | q | q <;> rw [q] at e
 ·exact G4 e Y hz
 ·exact G4 e (Y2 i).1 hi
 ·exact G4 e (Yn i).1 hi
 ·exact G4 e (Y2 j).1 hj
 ·exact G4 e (Yn j).1 hj
def V2 {i j:Nat} (h:i / 3≠j / 3) (left:Bool) {y z:Nat} (e:mvN left i j y=mvN left i j z):y=z:=by
 have:=congrArg (mvN (!left) i j) e;rw [Wk h,Wk h] at this;exact this
def exN (left:Bool) (i j:Nat) (ns:List Int):List Int:=(List.range ns.length).map λz=>ns.getD (mvN (!left) i j z) 0
def exM (left:Bool) (i j:Nat) (M:List (Option Nat)):List (Option Nat):=(List.range M.length).map λz=>(M.getD (mvN (!left) i j z) none).map (mvN left i j)
def Ja (left:Bool) (i j:Nat) (ns:List Int):(exN left i j ns).length=ns.length:=by unfold exN; simp
def Xw (left:Bool) (i j:Nat) (M:List (Option Nat)):(exM left i j M).length=M.length:=by unfold exM; simp
section
variable {M:List (Option Nat)} {ns:List Int} {i j:Nat}
def Jb (td:TD M ns) (hi:i < M.length) (hj:j < M.length) (h:i / 3≠j / 3) (left:Bool) {z:Nat}:z < M.length->(exN left i j ns)[z]?=ns[mvN (!left) i j z]?:=by
 intro hz;obtain ⟨n,_,_,hn⟩:=td.n;rw [hn] at hi hj hz;have ox:=Jj hi hj (!left) hz;have l1:z < ns.length:=by rw [td.len,hn]; exact hz
 have l2:mvN (!left) i j z < ns.length:=by rw [td.len,hn]; exact ox
 unfold exN;rw [Ah,List.getElem?_range l1];show some (ns.getD _ 0)=_;rw [Ad,Ac l2];rfl
def Qy (td:TD M ns) (hi:i < M.length) (hj:j < M.length) (h:i / 3≠j / 3) (left:Bool) {z:Nat}:z < M.length->(exM left i j M)[z]?=(M[mvN (!left) i j z]?).map (Option.map (mvN left i j)):=by
 intro hz;obtain ⟨n,_,_,hn⟩:=td.n;have pj:=hz;rw [hn] at hi hj hz;have ox:=Jj hi hj (!left) hz;have l2:mvN (!left) i j z < M.length:=by rw [hn]; exact ox
 unfold exM;rw [Ah,List.getElem?_range pj];show some ((M.getD _ none).map _)=_;rw [Ad,Ac l2];rfl
def TD.ex (td:TD M ns) (hi:i < M.length) (hj:j < M.length) (h:i / 3≠j / 3) (left:Bool):TD (exM left i j M) (exN left i j ns) where
 n:=by obtain ⟨n,a,b,c⟩:=td.n; exact ⟨n,a,b,by rw [Xw]; exact c⟩
 len:=by rw [Ja,Xw]; exact td.len
 inv:=λp q e=>by
  have hp:p < M.length:=by have:=(Aa e).1; rw [Xw] at this; exact this
  rw [Qy td hi hj h left hp] at e
  cases e1:M[mvN (!left) i j p]? with
  | none=>rw [e1] at e; cases e
  | some o =>
   cases o with
   | none=>rw [e1] at e; cases e
   | some b =>
    rw [e1] at e;have e2:mvN left i j b=q:=by have:=Ax e; exact Ax this
    obtain ⟨i1,i2⟩:=td.inv _ _ e1;have hb:b < M.length:=(Aa i1).1;obtain ⟨n,_,_,hn⟩:=td.n;have hq:q < M.length:=by rw [<- e2,hn]; rw [hn] at hi hj hb; exact Jj hi hj left hb
    have eb:mvN (!left) i j q=b:=by rw [<- e2,Wk h]
    refine ⟨?_,λz=>i2 ?_⟩
    ·rw [Qy td hi hj h left hq,eb,i1]
     show some (some (mvN left i j (mvN (!left) i j p)))=_;rw [Va h]
    ·rw [z,eb]
 rng:=λp x e=>by
  have hp:p < M.length:=by have:=(Aa e).1; rw [Ja,td.len] at this; exact this
  rw [Jb td hi hj h left hp] at e;exact td.rng _ x e
 eqv:=λp q x e1 e2=>by
  have hp:p < M.length:=by have:=(Aa e1).1; rw [Ja,td.len] at this; exact this
  have hq:q < M.length:=by have:=(Aa e2).1; rw [Ja,td.len] at this; exact this
  rw [Jb td hi hj h left hp] at e1;rw [Jb td hi hj h left hq] at e2
  rcases td.eqv _ _ x e1 e2 with z | z
  ·exact .inl (V2 h (!left) z)
  ·right
   rw [Qy td hi hj h left hp,z];show some (some (mvN left i j (mvN (!left) i j q)))=_;rw [Va h]
 eqm:=λp q e=>by
  have hp:p < M.length:=by have:=(Aa e).1; rw [Xw] at this; exact this
  have e0:=e;rw [Qy td hi hj h left hp] at e
  cases e1:M[mvN (!left) i j p]? with
  | none=>rw [e1] at e; cases e
  | some o =>
   cases o with
   | none=>rw [e1] at e; cases e
   | some b =>
    rw [e1] at e;have e2:mvN left i j b=q:=by have:=Ax e; exact Ax this
    obtain ⟨i1,i2⟩:=td.inv _ _ e1;have hb:b < M.length:=(Aa i1).1;obtain ⟨n,_,_,hn⟩:=td.n;have hq:q < M.length:=by rw [<- e2,hn]; rw [hn] at hi hj hb; exact Jj hi hj left hb
    have eb:mvN (!left) i j q=b:=by rw [<- e2,Wk h]
    rw [Jb td hi hj h left hp,Jb td hi hj h left hq,eb];exact td.eqm _ _ e1
end
def nst (left:Bool) (i j:Nat) (ns:List Int) (k:Nat):List Int:=(List.range ns.length).map λz=>if ((mvN (!left) i j z:Nat):Int)∈(Ys left i j).take k then ns.getD (mvN (!left) i j z) 0 else ns.getD z 0
def Zjm (left:Bool) (i j:Nat) (ns:List Int):nst left i j ns 0=ns:=by
 apply List.ext_getElem?;intro z;unfold nst;rw [Ah];by_cases hz:z < ns.length
 ·rw [List.getElem?_range hz,List.take_zero]
  simp [hz]
 ·rw [Ay (by simpa using hz),Ay (by lia)]
  rfl
def Zjp {i j:Nat} {left:Bool} {z:Int} (h:z ∉ Ys left i j) (l2:Bool):mvI l2 i j z=z:=by
 have n1:¬ z=after i:=λe=>h (by unfold Ys; split <;> simp [e]);have n2:¬ z=before j:=λe=>h (by unfold Ys; split <;> simp [e]);have n3:¬ z=after j:=λe=>h (by unfold Ys; split <;> simp [e]);have n4:¬ z=before i:=λe=>h (by unfold Ys; split <;> simp [e]);unfold mvI;rw [if_neg n1,if_neg n2,if_neg n3,if_neg n4]
def Zc6 (left:Bool) (i j:Nat):(Ys left i j).length=4:=by unfold Ys; split <;> rfl
def Zlu {i j:Nat} (h:i / 3≠j / 3) (left:Bool) (ns:List Int):nst left i j ns 4=exN left i j ns:=by
 unfold nst exN;apply List.map_congr_left;intro z _;by_cases c:((mvN (!left) i j z:Nat):Int)∈(Ys left i j).take 4
 ·rw [if_pos c]
 ·rw [if_neg c]
  rw [List.take_of_length_le (Nat.le_of_eq (Zc6 left i j))] at c;have e1:=Zjp c left;rw [Qa,] at e1;have e2:=Zep h (!left) (z:Int);rw [Bool.not_not] at e2;rw [e2] at e1;have:mvN (!left) i j z=z:=by have:=Qa (!left) i j z; lia
  rw [this]
def Zjn {i j:Nat} (h:i / 3≠j / 3) {left:Bool} {ns:List Int} {k p:Nat} (hk:(Ys left i j)[k]?=some (p:Int)) (hq:mvN left i j p < ns.length) :
  (nst left i j ns k).set (mvN left i j p) (ns.getD p 0)=nst left i j ns (k + 1):=by
 apply List.ext_getElem?;intro z;unfold nst;by_cases c:z=mvN left i j p
 ·subst c
  rw [List.getElem?_set_self (by simpa using hq),Ah,List.getElem?_range hq];have e:mvN (!left) i j (mvN left i j p)=p:=Wk h left p;have:((mvN (!left) i j (mvN left i j p):Nat):Int)∈(Ys left i j).take (k + 1):=by rw [e,Aw,hk]; simp
  simp only [Option.map_some,this,if_true];rw [e]
 ·rw [List.getElem?_set_ne (Ne.symm c),Ah,Ah]
  by_cases d:z < ns.length
  ·rw [List.getElem?_range d]
   have ne:¬ ((mvN (!left) i j z:Nat):Int)=(p:Int):=λe=>c (by
    have e:mvN (!left) i j z=p:=by lia
    rw [<- e,Va h]);have:((mvN (!left) i j z:Nat):Int)∈(Ys left i j).take (k + 1) ↔ ((mvN (!left) i j z:Nat):Int)∈(Ys left i j).take k:=by
    rw [Aw,hk]
    simp [ne]
   simp only [Option.map_some,this]
  ·rw [Ay (by simpa using d)]
   rfl
def Zl7 {left:Bool} {i j n k:Nat} {p:Int} (hi:i < 3 * n) (hj:j < 3 * n) (hk:(Ys left i j)[k]?=some p):0<=p/\p < 3 * (n:Int):=by
 have hm:p∈Ys left i j:=Au hk;obtain ⟨a1,_,a3⟩:=Y2 i;obtain ⟨b1,_,b3⟩:=Yn i;obtain ⟨c1,_,c3⟩:=Y2 j;obtain ⟨d1,_,d3⟩:=Yn j;have hm:p=after i\/p=before i\/p=after j\/p=before j:=by
  unfold Ys at hm
  split at hm <;> simp at hm <;> rcases hm with e | e | e | e <;> simp [e]
 rcases hm with e | e | e | e <;> rw [e]
 ·exact Za2 a3 a1 hi
 ·exact Za2 b3 b1 hi
 ·exact Za2 c3 c1 hj
 ·exact Za2 d3 d1 hj
def side (p k:Nat):Nat:=p - p % 3 + (p + k) % 3
def Zlb {n:Nat} (h:p < 3 * n):side p k < 3 * n:=by unfold side; omega
def Zbl (p k:Nat):side p k / 3=p / 3:=by unfold side; omega
def Xx (M:List (Option Nat)) (p:Int):Bool:=decide (0<=p/\p < M.length) && (M.getD p.toNat none).isSome
def Wn (M:List (Option Nat)) (a p:Int):Bool:=match M.getD a.toNat none with
 | some m=>decide (p / 3=(m:Int) / 3) && !decide (p=(m:Int))
 | none=>false
def rot {α:Type} (ws:List α) (s:Nat):List α:=ws.drop s ++ ws.take s
def Jf (M:List (Option Nat)) (ws vs:List Int):List Bool:=(ws.zip vs).map λp=>Wn M p.1 p.2
def Wr (M:List (Option Nat)) (ws:List Int):Bool:=!ws.isEmpty && ((ws.map (Xx M)).all id && (Jf M ws (rot ws (1 % ws.length))).all id)
def Ow {α:Type} (ws:List α) (h:s<=ws.length):(rot ws s).length=ws.length:=by
 unfold rot;rw [Ae,List.length_drop,Ai];lia
def Zb8 {α:Type} (ws:List α):rot ws 0=ws:=by unfold rot; simp
def Fj {α:Type} {ws:List α} {k:Nat} (hs:s < ws.length) (hk:k < ws.length):(rot ws s)[k]?=ws[(k + s) % ws.length]?:=by
 unfold rot;by_cases c:k < ws.length - s
 ·rw [Av (by rw [List.length_drop]; exact c),List.getElem?_drop,Nat.mod_eq_of_lt (by lia),Nat.add_comm]
 ·rw [List.getElem?_append_right (by rw [List.length_drop]; lia),List.length_drop,List.getElem?_take_of_lt (by lia)]
  have:(k + s) % ws.length=k - (ws.length - s):=by
   rw [show k + s=(k - (ws.length - s)) + ws.length by lia,Nat.add_mod_right,Nat.mod_eq_of_lt (by lia)]
  rw [this]
structure Pl (M:List (Option Nat)) (ws:List Nat):Prop where
 ne:ws≠[]
 has:∀ p∈ws,∃ m,M[p]?=some (some m)
 nxt:∀ (k:Nat) (a p:Nat),ws[k]?=some a->ws[(k + 1) % ws.length]?=some p->∀ m,M[a]?=some (some m)->p / 3=m / 3/\p≠m
abbrev wI (ws:List Nat):List Int:=ws.map λ(x:Nat)=>(x:Int)
def Zag {M:List (Option Nat)} {p:Nat}:Xx M (p:Int)=true ↔ ∃ m,M[p]?=some (some m):=by
 unfold Xx;rw [Bool.and_eq_true,decide_eq_true_eq,Int.toNat_natCast];constructor
 ·rintro ⟨⟨_,h1⟩,h2⟩
  have h1:p < M.length:=by lia
  rw [Ad,Ac h1] at h2;obtain ⟨m,hm⟩:=Option.isSome_iff_exists.mp h2;exact ⟨m,by rw [Ac h1]; exact congrArg some hm⟩
 ·rintro ⟨m,hm⟩
  have h1:p < M.length:=(Aa hm).1;exact ⟨⟨by lia,by lia⟩,by rw [Ad,hm]; rfl⟩
def G2 {M:List (Option Nat)} {a p:Nat} (h:M[a]?=some (some m)):Wn M (a:Int) (p:Int)=true ↔ p / 3=m / 3/\p≠m:=by
 unfold Wn;rw [Int.toNat_natCast,Ad,h];show (decide ((p:Int) / 3=(m:Int) / 3) && !decide ((p:Int)=(m:Int)))=true ↔ _;rw [Bool.and_eq_true,decide_eq_true_eq,Bool.not_eq_true',decide_eq_false_iff_not];lia
def Zd6 {ws vs:List Int} (hl:ws.length=vs.length):(Jf M ws vs).all id=true ↔ ∀ (k:Nat) (a p:Int),ws[k]?=some a->vs[k]?=some p->Wn M a p=true:=by
 unfold Jf;rw [List.all_eq_true];constructor
 ·intro h k a p ha hp
  refine h (Wn M a p) (List.mem_map.mpr ⟨(a,p),?_,Y⟩);exact Au (i:=k) (by rw [List.getElem?_zip_eq_some]; exact ⟨ha,hp⟩)
 ·intro h b hb
  obtain ⟨⟨a,p⟩,hm,rfl⟩:=List.mem_map.mp hb;obtain ⟨k,hk⟩:=List.getElem?_of_mem hm;rw [List.getElem?_zip_eq_some] at hk;exact h k a p hk.1 hk.2
def Zg7:Wr M (wI ws)=true ↔ Pl M ws:=by
 have hl:(wI ws).length=ws.length:=by simp
 unfold Wr;rw [Bool.and_eq_true,Bool.and_eq_true,Bool.not_eq_true',hl];constructor
 ·rintro ⟨h0,h1,h2⟩
  have iu:ws≠[]:=by
   rintro rfl;cases h0
  have mq:0 < ws.length:=by cases ws with | nil=>exact absurd rfl iu | cons _ _=>simp
  have hh:∀ p∈ws,∃ m,M[p]?=some (some m):=λp hp=>by
   refine Zag.mp (List.all_eq_true.mp h1 _ (List.mem_map.mpr ⟨(p:Int),List.mem_map.mpr ⟨p,hp,Y⟩,Y⟩))
  refine ⟨iu,hh,λk a p ha hp m hm=>?_⟩;have hs:1 % ws.length < (wI ws).length:=by rw [hl]; exact Nat.mod_lt _ mq
  have hk:k < (wI ws).length:=by rw [hl]; exact (Aa ha).1
  refine (G2 hm).mp ((Zd6 (by rw [Ow _ (Nat.le_of_lt hs)])).mp h2 k a p (by rw [Ah,ha]; rfl) ?_);rw [Fj hs hk,hl,show (k + 1 % ws.length) % ws.length=(k + 1) % ws.length by rw [Nat.add_mod_mod],Ah,hp];rfl
 ·rintro ⟨h0,h1,h2⟩
  have mq:0 < ws.length:=by cases ws with | nil=>exact absurd rfl h0 | cons _ _=>simp
  have hs:1 % ws.length < (wI ws).length:=by rw [hl]; exact Nat.mod_lt _ mq
  refine ⟨by cases ws with | nil=>exact absurd rfl h0 | cons _ _=>rfl,?_,?_⟩
  ·rw [List.all_eq_true]
   intro b hb;obtain ⟨p',zf,rfl⟩:=List.mem_map.mp hb;obtain ⟨p,hp,rfl⟩:=List.mem_map.mp zf;exact Zag.mpr (h1 p hp)
  ·refine (Zd6 (by rw [Ow _ (Nat.le_of_lt hs)])).mpr λk a p ha hp=>?_
   have hk:k < (wI ws).length:=(Aa ha).1;rw [Fj hs hk,hl,show (k + 1 % ws.length) % ws.length=(k + 1) % ws.length by rw [Nat.add_mod_mod]] at hp;rw [Ah] at ha hp
   cases ea:ws[k]? with
   | none=>rw [ea] at ha; cases ha
   | some a' =>
    cases ep:ws[(k + 1) % ws.length]? with
    | none=>rw [ep] at hp; cases hp
    | some p' =>
     rw [ea] at ha; cases ha;rw [ep] at hp; cases hp;obtain ⟨m,hm⟩:=h1 a' (Au ea);exact (G2 hm).mpr (h2 k a' p' ea ep m hm)
structure Ch (M:List (Option Nat)) (row:List Nat):Prop where
 has:∀ p∈row,∃ m,M[p]?=some (some m)
 nxt:∀ (k:Nat) (a p m:Nat),row[k]?=some a->row[k + 1]?=some p->M[a]?=some (some m)->p / 3=m / 3/\p≠m
def Ch.one {M:List (Option Nat)} {p:Nat} (h:M[p]?=some (some m)):Ch M [p]:=by
 refine ⟨λq hq=>?_,λk a q m' _ hq=>?_⟩
 ·rw [List.mem_singleton] at hq; subst hq; exact ⟨m,h⟩
 ·simp at hq
def Ch.snoc {M:List (Option Nat)} {row:List Nat} {p:Nat} (h:Ch M row) (hl:row.getLast?=some a) (hm:M[a]?=some (some m)) (h1:p / 3=m / 3) (h2:p≠m) (hp:∃ q,M[p]?=some (some q)):Ch M (row ++ [p]):=by
 refine ⟨λq hq=>?_,λk b q m' hb hq r9=>?_⟩
 ·rcases List.mem_append.mp hq with z | z
  ·exact h.has q z
  ·rw [List.mem_singleton] at z; subst z; exact hp
 ·by_cases c:k + 1 < row.length
  ·rw [Av c] at hq
   rw [Av (by lia)] at hb;exact h.nxt k b q m' hb hq r9
  ·have hk:k + 1 < (row ++ [p]).length:=(Aa hq).1
   rw [Ae,At] at hk;have hk:k + 1=row.length:=by lia
   rw [List.getElem?_append_right (by lia),hk] at hq;have:q=p:=by simpa using hq.symm
   subst this;rw [Av (by lia)] at hb;rw [List.getLast?_eq_getElem?,show row.length - 1=k by lia,hb] at hl;cases hl;rw [hm] at r9;cases r9;exact ⟨h1,h2⟩
def Ch.cut {row:List Nat} {e:Nat} (h:Ch M row) (hse:s < e) (h1:row[s]?=some a) (h2:row[e]?=some a):Pl M ((row.drop s).take (e - s)):=by
 have he:e < row.length:=(Aa h2).1;have hl:((row.drop s).take (e - s)).length=e - s:=by rw [Ai,List.length_drop]; lia
 have gt:∀ k,k < e - s->((row.drop s).take (e - s))[k]?=row[s + k]?:=λk hk=>by rw [List.getElem?_take_of_lt hk,List.getElem?_drop]
 refine ⟨λz=>by rw [z] at hl; simp at hl; lia,λp hp=>?_,λk b p hb hp m hm=>?_⟩
 ·exact h.has p (List.mem_of_mem_drop (List.mem_of_mem_take hp))
 ·rw [hl] at hp
  have hk:k < e - s:=by have:=(Aa hb).1; rw [hl] at this; exact this
  rw [gt k hk] at hb;by_cases c:k + 1 < e - s
  ·rw [Nat.mod_eq_of_lt c,gt _ c] at hp
   exact h.nxt (s + k) b p m hb (by rw [show s + k + 1=s + (k + 1) by lia]; exact hp) hm
  ·have hk:k + 1=e - s:=by lia
   rw [hk,Nat.mod_self,gt 0 (by lia),Nat.add_zero,h1] at hp;cases hp;exact h.nxt (s + k) b a m hb (by rw [show s + k + 1=e by lia]; exact h2) hm
end KT
namespace L2
open PySem PySem.Spec PyProof.Rows
end L2
namespace HL
open PySem PyProof.Rows HT
section
open PySem.SeqAt
open PySem.AutoSeq1 (wpAny_loadPart')
open PySem.MeetsSeq PySem.MeetsSeq2 PySem.MeetsSeq3
def Zev {us:List Value} {ns:List Int} (h:IntsAre us ns):∀ {i:Nat},i < us.length->∃ t,us[i]?=some (.int (ns.getD i 0) t):=by
 induction h with
 | nil=>intro i hi; simp at hi
 | cons n t h ih =>
  intro i hi
  cases i with
  | zero=>exact ⟨t,Y⟩
  | succ i=>obtain ⟨t',e⟩:=ih (i:=i) (by simpa using hi); exact ⟨t',e⟩
def Zl0 {a b:List Int} (h:a.length<=i\/b.length<=i):lexLt (a.drop i) (b.drop i)=decide (a.length - i < b.length - i):=by
 by_cases ha:a.length<=i
 ·rw [List.drop_eq_nil_of_le ha]
  by_cases hb:b.length<=i
  ·rw [List.drop_eq_nil_of_le hb,Uz]; exact (decide_eq_false (by omega)).symm
  ·cases e:b.drop i with
   | nil=>exact absurd (List.drop_eq_nil_iff.mp e) hb
   | cons c t=>rw [Jy]; exact (decide_eq_true (by omega)).symm
 ·have hb:b.length<=i:=by omega
  rw [List.drop_eq_nil_of_le hb]
  cases e:a.drop i with
  | nil=>exact absurd (List.drop_eq_nil_iff.mp e) ha
  | cons c t=>rw [Wl]; exact (decide_eq_false (by omega)).symm
def Ze1 {a:List Int} (h:i < a.length):a.drop i=a.getD i 0 :: a.drop (i + 1):=by
 rw [List.drop_eq_getElem_cons h,Ad,Ac h]; rfl
def Zly (l b:Addr) (xs ys:Array Value) (n n2:Nat) (dd qz:Option Addr) (sl qi:Array (Option Value)) (ns ms:List Int) (hi:IntsAre xs.toList ns) (hj:IntsAre ys.toList ms) (k:Nat) :
  ∀ i:Nat,i<=xs.size->i<=ys.size->min xs.size ys.size - i=k->Meets (Builtin.«list.__eq__.loop» ⟨[.ref l,.ref b,rawInt i,rawInt 0],[]⟩)
   (λ_ R s=>s.heap.get? l=some { cls:=.type "list",dict:=dd,data:=.seq xs n,slots:=sl }/\s.heap.get? b=some { cls:=.type "list",dict:=qz,data:=.seq ys n2,slots:=qi }/\R (.ok (.ret (.bool (lexLt (ns.drop i) (ms.drop i))))) s):=by
 have z1:xs.size=ns.length:=by rw [<- hi.length]; simp
 have z2:ys.size=ms.length:=by rw [<- hj.length]; simp
 induction k with
 | zero =>
  intro i b1 b2 hk prog w A R s h;obtain ⟨hp,g,d,tk,os⟩:=s;obtain ⟨hl,hb,h⟩:=h;rw [Zl0 (by omega)] at h;have hv:(decide (ns.length - i < ms.length - i))=decide (xs.size < ys.size):=by
   apply decide_eq_decide.mpr
   omega
  rw [hv] at h
  wp_walk using wpAny_loadPart' hl,wpAny_loadPart' hb
  by_cases c:i < xs.size
  ·have e1:xs[((i:Nat):Int).toNat]?=some xs[i]:=by simp [c]
   have e2:ys[((i:Nat):Int).toNat]?=none:=by simp; omega
   rw [e1,e2]
   wp_walk using wpAny_loadPart' hl,wpAny_loadPart' hb
   exact h
  ·have e1:xs[((i:Nat):Int).toNat]?=none:=by simp; omega
   rw [e1]
   wp_walk using wpAny_loadPart' hl,wpAny_loadPart' hb
   exact h
 | succ k ih =>
  intro i b1 b2 hk prog w A R s h;obtain ⟨hp,g,d,tk,os⟩:=s;obtain ⟨hl,hb,h⟩:=h;have c1:i < xs.size:=by omega
  have c2:i < ys.size:=by omega
  obtain ⟨t1,q1⟩:=Zev hi (i:=i) (by simpa using c1);obtain ⟨t2,q2⟩:=Zev hj (i:=i) (by simpa using c2);have e1:xs[((i:Nat):Int).toNat]?=some (.int (ns.getD i 0) t1):=by simpa using q1
  have e2:ys[((i:Nat):Int).toNat]?=some (.int (ms.getD i 0) t2):=by simpa using q2
  have hc:((i:Int) + 1)=((i + 1:Nat):Int):=by push_cast; rfl
  rw [Ze1 (a:=ns) (i:=i) (by omega),Ze1 (a:=ms) (i:=i) (by omega),Qp] at h
  wp_walk using wpAny_loadPart' hl,wpAny_loadPart' hb
  rw [e1,e2];obtain ⟨ev,he,xu⟩:=Zj4 A.in1 ⟨hp,g,d,tk,os⟩ (ns.getD i 0) t1 (ms.getD i 0) t2;refine Al (he prog w _ _ ?_)
  cases ev with
  | true =>
   rw [if_pos (xu.mp rfl)] at h
   wp_walk
   rw [hc];refine ⟨plainId_quiet plain_eq_loop _,codeAny_builtin entry_eq_loop ?_⟩;rw [Around.under_plainId plain_eq_loop _];exact ih (i + 1) (by omega) (by omega) (by omega) prog w A R _ ⟨hl,hb,h⟩
  | false =>
   rw [if_neg (λq=>absurd (xu.mpr q) Bool.false_ne_true)] at h
   wp_walk using wpAny_loadPart' hl,wpAny_loadPart' hb
   rw [e1,e2];have hri:=Zi8 A.in1 ⟨hp,g,d,tk,os⟩ (ns.getD i 0) t1 (ms.getD i 0) t2 prog w
   wp_walk using hri
   exact h
def list_lt (l b:Addr) (xs ys:Array Value) (n n2:Nat) (dd qz:Option Addr) (sl qi:Array (Option Value)) (ns ms:List Int) (hi:IntsAre xs.toList ns) (hj:IntsAre ys.toList ms) :
  Meets (Builtin.«list.__lt__» ⟨[.ref l,.ref b],[]⟩)
   (λ_ R s=>s.heap.get? l=some { cls:=.type "list",dict:=dd,data:=.seq xs n,slots:=sl }/\s.heap.get? b=some { cls:=.type "list",dict:=qz,data:=.seq ys n2,slots:=qi }/\R (.ok (.ret (.bool (lexLt ns ms)))) s):=by
 intro prog w A R s h;obtain ⟨hp,g,d,tk,os⟩:=s;obtain ⟨hl,hb,h⟩:=h;have f3:=AutoSeq1.sub_list_list
 wp_walk using wpAny_loadPart' hl,wpAny_loadPart' hb
 refine ⟨plainId_quiet plain_eq_loop _,codeAny_builtin entry_eq_loop ?_⟩;rw [Around.under_plainId plain_eq_loop _];exact Zly l b xs ys n n2 dd qz sl qi ns ms hi hj _ 0 (Az _) (Az _) Y prog w A R _ ⟨hl,hb,h⟩
end
section
variable {prog:Program} {w:World} {A:Around} {E:Value->Shared->Prop} {s:Shared}
def lt_lists {xs ys:Array Value} (hl:s.heap.IsList l xs) (hb:s.heap.IsList b ys) (hi:IntsAre xs.toList ns) (hj:IntsAre ys.toList ms)
  (hu:A.units < cLine) (h:Q (.bool (lexLt ns ms)) s):wpAny (model prog w) A (richCompare .Lt (.ref l) (.ref b)) Q E s:=by
 obtain ⟨⟨cls,dd,data,sl⟩,ho,hc,n,hd⟩:=id hl;obtain ⟨⟨cls2,qz,data2,qi⟩,rq,ki,n2,lu⟩:=id hb;simp only at hc hd ki lu;subst hc hd ki lu;exact richCompare_meets_room (op:=.Lt) ⟨_,ho,Y⟩ ⟨_,rq,Y⟩ PySem.F.slot_list_lt PySem.F.entry_list_lt (PySem.F.args_list_lt_2 _ _) (list_lt l b xs ys n n2 dd qz sl qi ns ms hi hj)
  ⟨ho,rq,show Value.bool (lexLt ns ms)≠Value.notImplemented/\Q (.bool (lexLt ns ms)) s from ⟨(λx=>nomatch x),h⟩⟩ hu
end
section
variable {prog:Program} {w:World} {A:Around} {R:Result->Shared->Prop} {I:Addr} {fp wr:List Addr} {n:Nat} {P:Nat->Value->Prop} {St:Nat->Heap->Prop}
def O1 {g:Heap} (b:Addr) (o:Obj) (bB:b≠B) (e:g.get? b=some o):(g.update B f).get? b=some o:=(Heap.get?_update_other _ _ (Ne.symm bB)).trans e
def CmpIn (prog:Program) (w:World) (A:Around) (J:Heap->Prop) (P:Nat->Value->Prop) (bt:Nat->Nat->Bool):Prop :=
 ∀ i j vi vj (s:Shared) (Q:Value->Shared->Prop) (E:Value->Shared->Prop),J s.heap->P i vi->P j vj->Q (.bool (bt i j)) s->wpAny (model prog w) A (richCompare .Lt vi vj) Q E s
def Zno (V:Walks prog w A.in1 I fp wr n P St) (bt:Nat->Nat->Bool) (cmp:CmpIn prog w A.in1 J P bt) (B:Addr) (nB:B ∉ fp) (stay:∀ h h':Heap,J h->(∀ b o,b ∉ wr->b≠B->h.get? b=some o->h'.get? b=some o)->J h') :
  ∀ (k j:Nat) (s:Shared) (u:Value) (c:Nat),n - (j + 1)=k->j + 1<=n->St (j + 1) s.heap->J s.heap->P (argBest bt j) u->s.heap.get? B=some { cls:=.type "list",dict:=none,data:=.seq #[u,u] c,slots:=#[] } ->
  (∀ v h' tk,P (argBest bt (n - 1)) v->(∀ b o,b ∉ wr->b≠B->s.heap.get? b=some o->h'.get? b=some o)->R (.ok (.ret v)) { s with heap:=h',toks:=tk }) ->
  codeAny (model prog w) A (.builtin "min.loop" ⟨[.ref I,.none,.ref B],[]⟩) R s:=by
 have nW:B ∉ wr:=λz=>nB (V.sub _ z);have nm:(toString "min" ++ toString ".loop":String)="min.loop":=by decide
 intro k
 induction k with
 | zero =>
  intro j s u c ek lj st hJ pu hB out;have last:j + 1=n:=by omega
  refine codeAny_builtin F.entry_min_loop ?_; rw [Around.under_plainId F.plain_min_loop _];show wpAny _ A.in1 (seqItems? (.ref B) >>= _) _ _ s;refine Al (wpAny_seqItems hB Y ?_); show wpAny _ A.in1 (tryCatch (pyNext (.ref I)) _ >>= _) _ _ s;refine Al (wpAny_tryCatch (V.done s _ _ (last ▸ st) λg tk kp=>?_));have qx:=kp B _ nW hB;show wpAny _ A.in1 (updateSeq B (λ_=>#[]) >>= _) _ _ _;refine Al (wpAny_updateSeq qx Y (Al (wpAny_letGo (wpAny_pure ?_))));exact out u _ tk (by rw [<- last]; exact pu) λb o bw bB e=>(Heap.get?_update_other _ _ (Ne.symm bB)).trans (kp b o bw e)
 | succ k ih =>
  intro j s u c ek lj st hJ pu hB out;have more:j + 1 < n:=by omega
  refine codeAny_builtin F.entry_min_loop ?_; rw [Around.under_plainId F.plain_min_loop _];show wpAny _ A.in1 (seqItems? (.ref B) >>= _) _ _ s;refine Al (wpAny_seqItems hB Y ?_); show wpAny _ A.in1 (tryCatch (pyNext (.ref I)) _ >>= _) _ _ s;refine Al (wpAny_tryCatch (V.item (j + 1) s _ _ more st λv g tk pv ii kp=>?_));have qx:=kp B _ nW hB;have sw:J g:=stay _ _ hJ λb o bw _ e=>kp b o bw e;show wpAny _ A.in1 (tryCatch (holding [v,v] (richCompare .Lt v u >>= _)) _ >>= _) _ _ _;refine Al (wpAny_tryCatch (wpAny_holding (Al (cmp (j + 1) (argBest bt j) v u _ _ _ sw pv pu ?_))));refine Al (wpAny_holding (wpAny_truthy_bool ?_)); refine Al (wpAny_letGo (wpAny_pure ?_))
  cases less:bt (j + 1) (argBest bt j) with
  | true =>
   simp only [if_true];refine Al (wpAny_updateSeq qx Y (Al (wpAny_letGo ?_))); rw [nm];refine wpAny_pure ⟨plainId_quiet F.plain_min_loop _,ih (j + 1) _ v _ (by omega) more (V.frame _ _ _ ii λb bf o e=>O1 b o (λz=>nB (z ▸ bf)) e) (stay _ _ sw λb o _ bB e=>O1 b o bB e) (by simp only [argBest,less,if_true]; exact pv) (Heap.get?_update_self _ qx Y) λv' g' vf vp vw=>?_⟩;exact out v' g' vf vp λb o bw bB e=>vw b o bw bB (O1 b o bB (kp b o bw e))
  | false =>
   simp only [Bool.false_eq_true,if_false];refine Al (wpAny_letGo ?_); rw [nm];refine wpAny_pure ⟨plainId_quiet F.plain_min_loop _,ih (j + 1) _ u c (by omega) more ii sw (by simp only [argBest,less,Bool.false_eq_true,if_false]; exact pu) qx λv' g' vf vp vw=>?_⟩;exact out v' g' vf vp λb o bw bB e=>vw b o bw bB (kp b o bw e)
def Zhv (V:Walks prog w A.in1 I fp wr n P St) (bt:Nat->Nat->Bool) (cmp:CmpIn prog w A.in1 J P bt) (B:Addr) (nB:B ∉ fp) (stay:∀ h h':Heap,J h->(∀ b o,b ∉ wr->b≠B->h.get? b=some o->h'.get? b=some o)->J h') (hn:0 < n) {s:Shared} (st:St 0 s.heap) (hJ:J s.heap)
  (hB:s.heap.get? B=some { cls:=.type "list",dict:=none,data:=.seq #[] c,slots:=#[] })
  (out:∀ v h' tk,P (argBest bt (n - 1)) v->(∀ b o,b ∉ wr->b≠B->s.heap.get? b=some o->h'.get? b=some o)->R (.ok (.ret v)) { s with heap:=h',toks:=tk }) :
  codeAny (model prog w) A (.builtin "min.loop" ⟨[.ref I,.none,.ref B],[]⟩) R s:=by
 have nW:B ∉ wr:=λz=>nB (V.sub _ z);have nm:(toString "min" ++ toString ".loop":String)="min.loop":=by decide
 refine codeAny_builtin F.entry_min_loop ?_; rw [Around.under_plainId F.plain_min_loop _];show wpAny _ A.in1 (seqItems? (.ref B) >>= _) _ _ s;refine Al (wpAny_seqItems hB Y ?_); show wpAny _ A.in1 (tryCatch (pyNext (.ref I)) _ >>= _) _ _ s;refine Al (wpAny_tryCatch (V.item 0 s _ _ hn st λv g tk pv ii kp=>?_));have qx:=kp B _ nW hB;have sw:J g:=stay _ _ hJ λb o bw _ e=>kp b o bw e;show wpAny _ A.in1 (updateSeq B (λ_=>#[v,v]) >>= _) _ _ _;refine Al (wpAny_updateSeq qx Y ?_); rw [nm];refine wpAny_pure ⟨plainId_quiet F.plain_min_loop _,Zno V bt cmp B nB stay _ 0 _ v _ Y hn (V.frame _ _ _ ii λb bf o e=>O1 b o (λz=>nB (z ▸ bf)) e) (stay _ _ sw λb o _ bB e=>O1 b o bB e) pv (Heap.get?_update_self _ qx Y) λv' g' vf vp vw=>?_⟩;exact out v' g' vf vp λb o bw bB e=>vw b o bw bB (O1 b o bB (kp b o bw e))
end
section
variable {prog:Program} {w:World} {A:Around} {E:Value->Shared->Prop} {s:Shared}
def min_pair {a:Value} (h:wpAny (model prog w) A.in1 (pyIter (.ref s.heap.objs.size)) (λit s₂=>∃ I fp wr n P St bt J,it=.ref I/\Walks prog w A.in1 I fp wr n P St/\St 0 s₂.heap/\(∀ b∈fp,b < s₂.heap.objs.size)/\0 < n/\CmpIn prog w A.in1 J P bt /\
   J s₂.heap/\(∀ h h':Heap,J h->(∀ b o,b ∉ wr->b≠s₂.heap.objs.size->h.get? b=some o->h'.get? b=some o)->J h') /\
   ∀ v h' tk,P (argBest bt (n - 1)) v->(∀ b o,b ∉ wr->s₂.heap.get? b=some o->h'.get? b=some o)->Q v { s₂ with heap:=h',toks:=tk }) E
   { s with heap:=s.heap.push { cls:=.type "tuple",data:=.seq #[a,b] } }):wpAny (model prog w) A (call (.builtin "min") [a,b]) Q E s:=by
 have nm:(toString "min" ++ toString ".loop":String)="min.loop":=by decide
 refine call_function_tree F.kind_min F.plain_min F.entry_min (F.args_min2 _ _) ?_;show wpAny _ A.in1 (Builtin.Builtins.bindParams "min" ["key","default"] 0 ⟨[],[]⟩ >>= _) _ _ s;have yi:Builtin.Builtins.bindParams "min" ["key","default"] 0 ⟨[],[]⟩=pure [none,none]:=rfl;refine Al (wpAny_of_eq yi ?_); show wpAny _ A.in1 (newTuple [a,b] >>= _) _ _ s;refine Al (wpAny_newObj_type (Al (wpAny_mono h (λit s₂ q=>?_) λ_ _ z=>z)));obtain ⟨I,fp,wr,n,P,St,bt,J,rfl,V,st,lo,hn,cmp,hJ,stay,out⟩:=q;refine Al (wpAny_newObj_type ?_);have nB:s₂.heap.objs.size ∉ fp:=λz=>Nat.lt_irrefl _ (lo _ z);have sw:=stay _ _ hJ λb o _ _ e=>Ak { cls:=.type "list",data:=.seq #[] } e;rw [nm];refine wpAny_pure ⟨plainId_quiet F.plain_min_loop _,Zhv V bt cmp s₂.heap.objs.size nB stay hn (V.frame _ _ _ st λb _ o e=>Ak _ e) sw (Ap _ Y) λv g tk pv kp=>?_⟩;exact out v g tk pv λb o bw e=>kp b o bw (As (Ao e)) (Ak _ e)
end
end HL
namespace L2
open PySem PySem.Spec PyProof.Rows
section
variable {X:Cx}
def LsAt (as:List Addr) (jx:Nat->List Int) (h:Heap):Prop:=∀ i a,as[i]?=some a->∃ its:List Value,h.IsList a its.toArray/\IntsAre its (jx i)
def LsAt.cmp {A:Around} {as:List Addr} (hu:A.units < cLine) :
  HL.CmpIn P w A (LsAt as jx) (λi v=>∃ a,as[i]?=some a/\v=.ref a) λi j=>HT.lexLt (jx i) (jx j):=by
 rintro i j vi vj s Q E hJ ⟨a,ea,rfl⟩ ⟨b,eb,rfl⟩ q;obtain ⟨ia,la,na⟩:=hJ i a ea;obtain ⟨ib,lb,nb⟩:=hJ j b eb;exact HL.lt_lists la lb (by simpa using na) (by simpa using nb) hu q
def LsAt.stay {as:List Addr} {h h':Heap} {no:Addr->Prop} (hJ:LsAt as jx h) (p6:∀ (i:Nat) (a:Addr),as[i]?=some a->¬ no a) (k:∀ b o,¬ no b->h.get? b=some o->h'.get? b=some o):LsAt as jx h':=by
 intro i a e;obtain ⟨its,⟨o,ho,hc⟩,n⟩:=hJ i a e;exact ⟨its,⟨o,k a o (p6 i a e) ho,hc⟩,n⟩
def LsAt.of {s:Shared} {as:List Addr} (I:Inv X f8 σ H s) (h:∀ i a,as[i]?=some a->SqL X.K H a ((jx i).map V.int)):LsAt as jx s.heap:=by
 intro i a e;obtain ⟨its,r,p,_⟩:=I.list (h i a e);exact ⟨its,p.isList,Qq r⟩
def LsAt.lt {as:List Addr} {h:Heap} (hJ:LsAt as jx h) {i:Nat} (e:as[i]?=some a):a < h.objs.size:=by
 obtain ⟨_,⟨o,ho,_⟩,_⟩:=hJ i a e;exact Ao ho
def G7 (hc:X.calm=true) (hu:X.A.units + 64 < cLine):Y5 X (.builtin "min") (λxs H Q=>∃ (a b:Addr) (ns ms:List Int),xs=[.ref a,.ref b]/\SqL X.K H a (ns.map V.int)/\SqL X.K H b (ms.map V.int) /\
  Q (.ref (if HT.lexLt ms ns=true then b else a)) H):=by
 intro f8 s σ H xs us Q I r h;obtain ⟨a,b,ns,ms,rfl,ha,hb,q⟩:=h;obtain ⟨u,v,rfl,ru,rv⟩:=Zj8 r;cases ru;cases rv
 let as:List Addr:=[a,b]
 let jx:Nat->List Int:=λi=>if i=0 then ns else ms
 have hJ:LsAt as jx s.heap:=LsAt.of I λi c e=>by
  match i,e with
  | 0,e=>cases e; exact ha
  | 1,e=>cases e; exact hb
  | n + 2,e=>cases e
 have hT:(s.heap.push { cls:=.type "tuple",data:=.seq #[.ref a,.ref b] }).IsTuple s.heap.objs.size #[.ref a,.ref b]:=⟨_,Ap _ rfl,rfl,0,rfl⟩;have hsz:(s.heap.push { cls:=.type "tuple",data:=.seq #[.ref a,.ref b] }).objs.size=s.heap.objs.size + 1:=Heap.size_push ..;have W:=Walks.tuple (prog:=X.prog) (w:=X.w) (A:=X.A.in1) (show X.A.in1.handled=none from I.ok.hd hc) (s.heap.push { cls:=.type "tuple",data:=.seq #[.ref a,.ref b] }).objs.size s.heap.objs.size (by rw [hsz]; exact As (Nat.lt_succ_self _)) #[.ref a,.ref b]
 have ww:∀ (i:Nat) (v:Value),(#[Value.ref a,Value.ref b]:Array Value)[i]?=some v->∃ c,as[i]?=some c/\v=.ref c:=λi v e=>by
  match i,e with
  | 0,e=>cases e; exact ⟨a,Y,Y⟩
  | 1,e=>cases e; exact ⟨b,Y,Y⟩
  | n + 2,e=>simp at e
 refine HL.min_pair (wpAny_pyIter_tuple hT ⟨_,[_,s.heap.objs.size],[_],_,λi v=>∃ c,as[i]?=some c/\v=.ref c,_,λi j=>HT.lexLt (jx i) (jx j),LsAt as jx,Y,
  ⟨W.sub,W.frame,λi s' Q' E' hi st hQ=>W.item i s' Q' E' hi st λv h' tk e gl k=>hQ v h' tk (ww i v e) gl k,W.done,W.self⟩,⟨⟨_,Ap _ rfl,rfl,rfl⟩,hT.push _⟩,?_,Nat.succ_pos 1,LsAt.cmp (by show X.A.units + 1 < cLine; lia),?_,?_,?_⟩)
 ·intro c j4
  show c < ((s.heap.push _).push _).objs.size;rw [Heap.size_push,hsz]
  rcases Ar j4 with rfl | j4
  ·rw [hsz]; exact Nat.lt_succ_self _
  ·have:=Af j4
   subst this;exact Nat.lt_succ_of_lt (Nat.lt_succ_self _)
 ·exact hJ.stay (no:=λ_=>False) (λ_ _ _=>id) λc o _ e=>Ak _ (Ak _ e)
 ·intro h h' j k
  refine j.stay (no:=λc=>c∈[(s.heap.push { cls:=.type "tuple",data:=.seq #[.ref a,.ref b] }).objs.size]\/c=((s.heap.push { cls:=.type "tuple",data:=.seq #[.ref a,.ref b] }).push { cls:=.type "tuple_iterator",data:=.fields #[.ref s.heap.objs.size,.int 0 0] }).objs.size) (λi c e=>?_) (λc o n e=>k c o (λz=>n (.inl z)) (λz=>n (.inr z)) e);have l:=hJ.lt e;rw [List.mem_singleton,Heap.size_push,Heap.size_push,Heap.size_push];exact λz=>z.elim (λz=>As (Nat.lt_succ_of_lt l) z) λz=>As (Nat.lt_succ_of_lt (Nat.lt_succ_of_lt l)) z
 ·rintro v h' tk ⟨c,ec,rfl⟩ hk
  have I1:Inv X f8 σ H { s with heap:=h',toks:=tk }:=I.kept λd o e=>hk d o (λz=>by
   have l:=Ao e
   rw [Af z,hsz] at l
   exact absurd l (Nat.not_lt_of_le (Nat.le_succ _))) (Ak _ (Ak _ e))
  have e1:c=if HT.lexLt ms ns=true then b else a:=by
   have w9:as[argBest (λi j=>HT.lexLt (jx i) (jx j)) 1]?=some c:=ec;have eb:argBest (λi j=>HT.lexLt (jx i) (jx j)) 1=if HT.lexLt ms ns=true then 1 else 0:=rfl
   rw [eb] at w9;by_cases z:HT.lexLt ms ns=true
   ·rw [if_pos z] at w9 ⊢; cases w9; rfl
   ·rw [if_neg z] at w9 ⊢; cases w9; rfl
  rw [e1];exact ⟨.ref _,H,I1,Y,q⟩
end
end L2
namespace HT
theorem lex_irr:∀ a:List Int,lexLt a a=false
 | []=>rfl
 | x :: a=>by rw [Qp,if_pos rfl]; exact lex_irr a
theorem Ol:∀ a b:List Int,lexLt a b=false->lexLt b a=false->a=b
 | [],[],_,_=>rfl
 | [],_ :: _,h,_=>by rw [Jy] at h; cases h
 | _ :: _,[],_,h=>by rw [Jy] at h; cases h
 | x :: a,y :: b,h1,h2=>by
  rw [Qp] at h1 h2;by_cases e:x=y
  ·subst e
   rw [if_pos rfl] at h1 h2;rw [Ol a b h1 h2]
  ·rw [if_neg e] at h1
   rw [if_neg (λz=>e z.symm)] at h2;have:=of_decide_eq_false h1;have:=of_decide_eq_false h2;lia
theorem lex_trans:∀ a b c:List Int,lexLt a b=true->lexLt b c=true->lexLt a c=true
 | [],[],_,h,_=>by rw [Uz] at h; cases h
 | [],_ :: _,[],_,h=>by rw [Wl] at h; cases h
 | [],_ :: _,_ :: _,_,_=>rfl
 | _ :: _,[],_,h,_=>by rw [Wl] at h; cases h
 | _ :: _,_ :: _,[],_,h=>by rw [Wl] at h; cases h
 | x :: a,y :: b,z :: c,h1,h2=>by
  rw [Qp] at h1 h2 ⊢;by_cases e1:x=y
  ·subst e1
   rw [if_pos rfl] at h1;by_cases e2:x=z
   ·subst e2
    rw [if_pos rfl] at h2 ⊢;exact lex_trans a b c h1 h2
   ·rw [if_neg e2] at h2 ⊢; exact h2
  ·rw [if_neg e1] at h1
   have g1:=of_decide_eq_true h1;by_cases e2:y=z
   ·subst e2
    rw [if_neg e1]; exact h1
   ·rw [if_neg e2] at h2
    have g2:=of_decide_eq_true h2;rw [if_neg (by lia)];exact decide_eq_true (by lia)
def lex_le (h1:lexLt b a=false) (h2:lexLt c b=false):lexLt c a=false:=by
 cases e:lexLt c a with
 | false=>rfl
 | true =>
  cases f:lexLt b c with
  | true=>rw [lex_trans b c a f e] at h1; cases h1
  | false =>
   have:=Ol b c f h2;subst this;rw [e] at h1;cases h1
def IsLeast (S:List Int->Prop) (a:List Int):Prop:=S a/\∀ b,S b->lexLt b a=false
def IsLeast.eq (h1:IsLeast S a) (h2:IsLeast T b) (hST:∀ x,S x ↔ T x):a=b :=
 Ol a b (h2.2 a ((hST a).mp h1.1)) (h1.2 b ((hST b).mpr h2.1))
end HT
namespace L2
open PySem PySem.Spec PyProof.Rows
section
variable {X:Cx} {f8:List (Addr × Obj)} {σ:St} {H:Hp} {s:Shared} {a:Addr}
def Inv.thaw (I:Inv X f8 σ H s) (e:H a=some (.frz ob (.dK kvs))) (h0:∀ o u,X.H₀ a≠some (.frz o u)):Inv X f8 σ (upd H a (.dK kvs)) s:=by
 have mm:∀ c y,H c=some (.own y)->c≠a:=λc y r z=>by subst z; rw [r] at e; cases e
 have kz:∀ c xs,H c=some (.tup xs)->c≠a:=λc xs r z=>by subst z; rw [r] at e; cases e
 have qc:∀ c,H c=none->c≠a:=λc r z=>by subst z; rw [r] at e; cases e
 have hok:HOk X.prog X.w (upd H a (.dK kvs)) s.heap:=λb v q=>by
  have st:∀ c w',Z9 X.prog X.w H s.heap c w'->Z9 X.prog X.w (upd H a (.dK kvs)) s.heap c w':=λc w' x=>x.stay (λ_ _ _ q=>q) (λd r=>by rw [Zf (mm d c r)]; exact r) λd xs r=>by rw [Zf (kz d xs r)]; exact r
  by_cases hb:b=a
  ·subst hb
   rw [Zc] at q;cases q;exact st _ _ (I.hok _ _ e).2
  ·rw [Zf hb] at q
   exact st _ _ (I.hok b v q)
 refine ⟨I.ok,I.os,I.bare,⟨I.base.keep,I.base.slot,λb o q n hx=>?_,I.base.there,λb xs q=>?_,λb o u q=>?_,λb ps q=>?_⟩,I.loc,I.cell,?_,λx c q=>?_,λp hp=>?_,hok,I.len⟩
 ·have:=I.base.free b o q n hx
  rw [Zf (qc b this)]; exact this
 ·have:=I.base.tups b xs q
  rw [Zf (kz b xs this)]; exact this
 ·have:=I.base.frzs b o u q
  rw [Zf (λz=>by subst z; exact h0 _ _ q)]; exact this
 ·obtain ⟨more,z⟩:=I.base.tbls b ps q
  exact ⟨more,by rw [Zf (λw=>by subst w; rw [z] at e; cases e)]; exact z⟩
 ·have:=I.free
  rw [Zf (qc _ this)]; exact this
 ·have:=I.freeC x c q
  rw [Zf (qc _ this)]; exact this
 ·obtain ⟨q1,q2,q3⟩:=I.pin p hp
  exact ⟨q1,by rw [Zf (qc _ q2)]; exact q2,q3⟩
end
def Zn8 (H0:Hp) (t:TS):TS:=λD σ H=>t { D with nx:=λσ' H'=>∃ (a:Addr) (o:Obj) (kvs:List (Key × V)),H' a=some (.frz o (.dK kvs))/\(∀ o u,H0 a≠some (.frz o u))/\D.nx σ' (upd H' a (.dK kvs)) } σ H
def Zlm {X:Cx} {st:Stmt} {t:TS} (h:PS X st t):PS X st (Zn8 X.H₀ t):=by
 intro f8 s σ H D I hw;refine wpAny_mono (h f8 s σ H _ I hw) (λf s' q=>?_) λ_ _ e=>e
 cases f with
 | next =>
  obtain ⟨σ',H',I',a,o,kvs,e,h0,q⟩:=q;exact ⟨σ',_,I'.thaw e h0,q⟩
 | ret v=>exact q
 | brk=>exact q
 | cont=>exact q
end L2
namespace KT
open PySem L2
def aftN (i:Nat):Nat:=if i % 3=2 then i - 2 else i + 1
def nxC (M:List (Option Nat)) (c:Nat):Option Nat:=(M[aftN c]?).join
abbrev InvM (M:List (Option Nat)):Prop:=∀ (i j:Nat),M[i]?=some (some j)->M[j]?=some (some i)/\i≠j
structure Fan (M:List (Option Nat)) (c:Nat) (cs:List Nat):Prop where
 head:cs[0]?=some c
 chain:∀ (i a b:Nat),cs[i]?=some a->cs[i + 1]?=some b->nxC M a=some b
 nodup:cs.Nodup
 lt:∀ a∈cs,a < M.length
structure FanEnd (M:List (Option Nat)) (c:Nat) (cs:List Nat) (cl:Bool):Prop extends Fan M c cs where
 last:∃ l,cs[cs.length - 1]?=some l/\nxC M l=if cl=true then some c else none
end KT
namespace L2
open PySem PySem.Spec PyProof.Rows
section
variable {P:Program} {w:World} {K:W.Frag} {mg:Str->Option Value} {base:Heap} {x qual:Str} {st:Stmt} {f:Addr} {fd:FuncData} {N ps:List Str} {k:Nat} {sp:Sp}
def Fun.aR (F:Fun K x qual st f fd) (S:FnScope N ps (Zh st))
  (ja:∀ (ij:Value) (A:Around) (outer:List Env) (s:Shared) (H:Hp) (vs:List V) (Q:VK) (E:XK),Room k (A.deeper (envOfC qual (Zh st) s.heap.objs.size f ij))->sp vs H Q E ->
   ∃ t,PSs (cxOf (CXr P w) P w K mg base N qual (Zh st) f ij A outer s H E).nox (Yq st) t/\t { nx:=λ_ H'=>Q .non H',rt:=Q } (start N vs) H)
  (len:∀ vs H Q E,sp vs H Q E->vs.length=ps.length:=by (intro vs H Q E h; (repeat obtain ⟨_,h⟩:=h); subst_vars; rfl)):FnOk P w K mg base (CXr P w) (k + 1) f fd ps sp:=F.okR S len ja
def Fun.aX (F:Fun K x qual st f fd) (S:FnScope N ps (Zh st))
  (ja:∀ (ij:Value) (A:Around) (outer:List Env) (s:Shared) (H:Hp) (vs:List V) (Q:VK) (E:XK),Room k (A.deeper (envOfC qual (Zh st) s.heap.objs.size f ij))->sp vs H Q E ->
   ∃ t,PSsX true (cxOf (CXr P w) P w K mg base N qual (Zh st) f ij A outer s H E).nox (Yq st) t/\t { nx:=λ_ H'=>Q .non H',rt:=Q } (λcls _ H'=>E cls none H') (start N vs) H)
  (len:∀ vs H Q E,sp vs H Q E->vs.length=ps.length:=by (intro vs H Q E h; (repeat obtain ⟨_,h⟩:=h); subst_vars; rfl)):FnOk P w K mg base (CXr P w) (k + 1) f fd ps sp:=F.okX S len ja
end
end L2
namespace L2
open PySem PySem.Spec PyProof.Rows PySem.SeqAt
mutual
inductive DV (K:W.Frag) (H:Hp):V->PyData->Prop
 | non:DV K H .non .none
 | bl (b:Bool):DV K H (.bl b) (.bool b)
 | int (i:Int):DV K H (.int i) (.int i)
 | str (x:Str):DV K H (.str x) (.str x)
 | lst {a:Addr} {xs:List V} {ds:List PyData}:SqL K H a xs->DVs K H xs ds->DV K H (.ref a) (.list ds)
 | tup {a:Addr} {xs:List V} {ds:List PyData}:SqT K H a xs->DVs K H xs ds->DV K H (.ref a) (.tuple ds)
inductive DVs (K:W.Frag) (H:Hp):List V->List PyData->Prop
 | nil:DVs K H [] []
 | cons {x:V} {xs:List V} {d:PyData} {ds:List PyData}:DV K H x d->DVs K H xs ds->DVs K H (x :: xs) (d :: ds)
end
section
variable {X:Cx} {f8:List (Addr × Obj)} {σ:St} {H:Hp} {s:Shared}
mutual
theorem DV.reads (I:Inv X f8 σ H s):∀ {x:V} {d:PyData} {u:Value},DV X.K H x d->RelV x u->∃ as,Reads s.heap u d as
 | _,_,_,.non,r=>by cases r; exact ⟨_,.none⟩
 | _,_,_,.bl b,r=>by cases r; exact ⟨_,.bool b⟩
 | _,_,_,.int i,r=>by obtain ⟨t,rfl⟩:=r; exact ⟨_,.int i t⟩
 | _,_,_,.str x,r=>by obtain ⟨t,rfl⟩:=r; exact ⟨_,.str x t⟩
 | _,_,_,.lst h hs,r=>by
  cases r;obtain ⟨its,rv,pl,_⟩:=I.list h;obtain ⟨as,ra⟩:=DVs.reads I hs rv;obtain ⟨o,ho,hc,n,hd⟩:=pl.isList;exact ⟨_,.list ho hc hd (by simpa using ra)⟩
 | _,_,_,.tup h hs,r=>by
  cases r;obtain ⟨its,rv,pt,_⟩:=I.tuple h;obtain ⟨as,ra⟩:=DVs.reads I hs rv;obtain ⟨o,ho,hc,n,hd⟩:=pt;exact ⟨_,.tuple ho hc hd (by simpa using ra)⟩
theorem DVs.reads (I:Inv X f8 σ H s):∀ {xs:List V} {ds:List PyData} {us:List Value},DVs X.K H xs ds->Vals xs us->∃ as,ReadsAll s.heap us ds as
 | _,_,_,.nil,r=>by cases r; exact ⟨_,.nil⟩
 | _,_,_,.cons h hs,r=>by
  cases r with
  | cons r1 r2 =>
   obtain ⟨as,ra⟩:=DV.reads I h r1;obtain ⟨bs,rb⟩:=DVs.reads I hs r2;exact ⟨_,.cons ra rb⟩
end
end
mutual
theorem Uh:∀ d:PyData,d.canLay0=true->noMix d d=true
 | .none,_=>rfl
 | .bool _,_=>rfl
 | .int _,_=>rfl
 | .str _,_=>rfl
 | .list xs,h=>by simp only [PyData.canLay0] at h; simp only [noMix]; exact noMixAll_self xs h
 | .tuple xs,h=>by simp only [PyData.canLay0] at h; simp only [noMix]; exact noMixAll_self xs h
 | .dict _,h=>by simp [PyData.canLay0] at h
theorem noMixAll_self:∀ xs:List PyData,PyData.canLayAll0 xs=true->noMixAll xs xs=true
 | [],_=>by simp [noMixAll]
 | x :: xs,h=>by
  simp only [PyData.canLayAll0,Bool.and_eq_true] at h;simp only [noMixAll,Uh x h.1,noMixAll_self xs h.2,Bool.and_self]
end
section
variable {X:Cx}
def rEqD (K:W.Frag):R2:=λx y H Q=>∃ d e,DV K H x d/\DV K H y e/\shaped d=true/\shaped e=true/\noMix d e=true/\Q (.bl (same d e)) H
def rNeD (K:W.Frag):R2:=λx y H Q=>∃ d e,DV K H x d/\DV K H y e/\shaped d=true/\shaped e=true/\noMix d e=true/\Q (.bl (!same d e)) H
def Znk (hu:X.A.units + 64 < cLine):OpR X (compareOp .Eq) (rEqD X.K):=by
 intro f8 s σ H x y v u Q I rx ry h;obtain ⟨d,e,hx,hy,sd,se,hm,q⟩:=h;obtain ⟨_,r1⟩:=hx.reads I rx;obtain ⟨_,r2⟩:=hy.reads I ry;exact eq_dataH_same r1 r2 sd se hu hm ⟨.bl _,H,I,Y,q⟩
def Zhg (hu:X.A.units + 64 < cLine):OpR X (compareOp .NotEq) (rNeD X.K):=by
 intro f8 s σ H x y v u Q I rx ry h;obtain ⟨d,e,hx,hy,sd,se,hm,q⟩:=h;obtain ⟨_,r1⟩:=hx.reads I rx;obtain ⟨_,r2⟩:=hy.reads I ry;exact ne_dataH_same r1 r2 sd se hu hm ⟨.bl _,H,I,Y,q⟩
end
def DV.eqv {K:W.Frag} {H:Hp} {x y:V} {d:PyData} {Q:VK} (hx:DV K H x d) (hy:DV K H y d) (hs:shaped d=true) (q:Q (.bl true) H):rEqD K x y H Q :=
 ⟨d,d,hx,hy,hs,hs,Uh d (canLay_of_shaped hs),by rw [same_self]; exact q⟩
def DV.nev {K:W.Frag} {H:Hp} {x y:V} {d:PyData} {Q:VK} (hx:DV K H x d) (hy:DV K H y d) (hs:shaped d=true) (q:Q (.bl false) H):rNeD K x y H Q :=
 ⟨d,d,hx,hy,hs,hs,Uh d (canLay_of_shaped hs),by rw [same_self]; exact q⟩
theorem DVs.ints {K:W.Frag} {H:Hp}:∀ ns:List Int,DVs K H (ns.map V.int) (ns.map PyData.int)
 | []=>.nil
 | n :: r=>.cons (.int n) (DVs.ints r)
end L2
namespace KT
open PySem L2
structure Orb (R:Nat->Nat->Prop) (p:Nat) (os:List Nat):Prop where
 head:os[0]?=some p
 chain:∀ (i a b:Nat),os[i]?=some a->os[i + 1]?=some b->R a b
 nodup:os.Nodup
structure OrbEnd (R:Nat->Nat->Prop) (p:Nat) (os:List Nat):Prop extends Orb R p os where
 last:∃ l,os[os.length - 1]?=some l/\R l p
section
variable {R:Nat->Nat->Prop}
def Orb.pos {p:Nat} {os:List Nat} (h:Orb R p os):0 < os.length:=(Aa h.head).1
def Orb.one (p:Nat):Orb R p [p]:=⟨rfl,λi a b _ h2=>by simp at h2,by simp⟩
def Orb.new (inj:∀ a b x,R a x->R b x->a=b) {p l f:Nat} {os:List Nat} (h:Orb R p os) (hl:os[os.length - 1]?=some l) (hf:R l f) (hc:f≠p):f ∉ os:=by
 intro hm;obtain ⟨i,hi,e⟩:=List.mem_iff_getElem.mp hm;have e':os[i]?=some f:=by rw [Ac hi,e]
 cases i with
 | zero=>rw [h.head] at e'; cases e'; exact hc Y
 | succ i =>
  have je:i < os.length:=by lia
  have ea:=Ac je;have e2:=inj _ _ _ (h.chain i _ f ea e') hf;have e3:os[i]=os[os.length - 1]:=by
   have:=(Aa hl).2
   rw [e2,this]
  have:=(List.getElem_inj h.nodup).mp e3;lia
def Orb.snoc {os:List Nat} (h:Orb R p os) (hl:os[os.length - 1]?=some l) (hf:R l f) (hn:f ∉ os):Orb R p (os ++ [f]):=by
 have hp:=h.pos;refine ⟨by rw [Av hp]; exact h.head,λi a b ha hb=>?_,?_⟩
 ·by_cases z:i + 1 < os.length
  ·rw [Av z] at hb
   rw [Av (by lia)] at ha;exact h.chain i a b ha hb
  ·have hi:=(Aa hb).1
   rw [Ae,At] at hi;have hi:i=os.length - 1:=by lia
   subst hi;rw [Av (by lia),hl] at ha;cases ha;rw [List.getElem?_append_right (by lia),show os.length - 1 + 1 - os.length=0 by lia] at hb;cases hb;exact hf
 ·rw [List.nodup_append]
  refine ⟨h.nodup,by simp,λa ha b hb e=>?_⟩;rw [List.mem_singleton] at hb;subst hb e;exact hn ha
def OrbEnd.same (fn:∀ a x y,R a x->R a y->x=y) {p:Nat} {os mw:List Nat} (h:OrbEnd R p os) (h':OrbEnd R p mw):os=mw:=by
 have step:∀ {os mw:List Nat},OrbEnd R p os->OrbEnd R p mw->∀ (i x:Nat),os[i]?=some x->mw[i]?=some x:=λ{os mw} h h' i=>by
  induction i with
  | zero=>intro x hx; rw [h.head] at hx; rw [h'.head]; exact hx
  | succ i ih =>
   intro x hx;have hi:i < os.length:=by have:=(Aa hx).1; lia
   have ea:=Ac hi;have eb:=ih _ ea;have e1:=h.chain i _ x ea hx
   cases e:mw[i + 1]? with
   | some y=>rw [fn _ _ _ e1 (h'.chain i _ y eb e)]
   | none =>
    exfalso;have l1:mw.length<=i + 1:=List.getElem?_eq_none_iff.mp e;have l2:=(Aa eb).1;obtain ⟨l,hl,hn⟩:=h'.last;rw [show mw.length - 1=i by lia,eb] at hl;cases hl;have ex:=fn _ _ _ e1 hn;subst ex;have e3:os[0]'(by lia)=os[i + 1]'((Aa hx).1):=by
     have q1:=(Aa h.head).2
     have q2:=(Aa hx).2
     rw [q1,q2]
    have:=(List.getElem_inj h.nodup).mp e3;lia
 apply List.ext_getElem?;intro i
 cases e1:os[i]? with
 | some x=>exact (step h h' i x e1).symm
 | none =>
  cases e2:mw[i]? with
  | none=>rfl
  | some y=>rw [step h' h i y e2] at e1; cases e1
def OrbEnd.before (inj:∀ a b x,R a x->R b x->a=b) {p a b:Nat} {os:List Nat} (h:OrbEnd R p os) (hb:b∈os) (gz:R a b):a∈os:=by
 obtain ⟨i,hi,e⟩:=List.mem_iff_getElem.mp hb;have e':os[i]?=some b:=by rw [Ac hi,e]
 cases i with
 | zero =>
  rw [h.head] at e';cases e';obtain ⟨l,hl,hn⟩:=h.last;rw [inj _ _ _ gz hn];exact Au hl
 | succ i =>
  have ea:=Ac (show i < os.length by lia);rw [inj _ _ _ gz (h.chain i _ b ea e')];exact Au ea
end
def Zkk (a:Nat):¬ (a:Int)=after a:=by have:=Y2 a; lia
def Zkj (a:Nat):¬ (a:Int)=before a:=by have:=Yn a; lia
def Zhs {a b:Nat} (h:a / 3≠b / 3):¬ (a:Int)=after b:=by have:=(Y2 b).1; lia
def Zhr {a b:Nat} (h:a / 3≠b / 3):¬ (a:Int)=before b:=by have:=(Yn b).1; lia
def mtN (M:List (Option Nat)) (h:Nat):Nat:=(M.getD h none).getD 0
def Zm7 {ws:List Nat} {j i:Nat} (hj:j < ws.length) (hi:i < ws.length):(rot ws (j + 1))[i]?=ws[(i + (j + 1)) % ws.length]?:=by
 by_cases z:j + 1 < ws.length
 ·exact Fj z hi
 ·have e:j + 1=ws.length:=by lia
  rw [e,Nat.add_mod_right,Nat.mod_eq_of_lt hi];unfold rot;rw [List.drop_length,List.take_length,List.nil_append]
def mv_a {left:Bool} {a b:Nat} (h:a / 3≠b / 3):mvN left a b a=a/\mvN left a b b=b:=by
 have h':=Ne.symm h;have i1:mvI left a b a=a:=by
  unfold mvI
  rw [if_neg (Zkk a),if_neg (Zhr h),if_neg (Zhs h),if_neg (Zkj a)]
 have i2:mvI left a b b=b:=by
  unfold mvI;rw [if_neg (Zhs h'),if_neg (Zkj b),if_neg (Zkk b),if_neg (Zhr h')]
 unfold mvN;rw [i1,i2];exact ⟨Int.toNat_natCast a,Int.toNat_natCast b⟩
structure Mv (M:List (Option Nat)) (ns:List Int) (x:Int) (a b:Nat):Prop where
 hM:M[a]?=some (some b)
 lt:a < b
 nm:ns[a]?=some x
 ab:a / 3≠b / 3
section
variable {M M':List (Option Nat)} {ns pi:List Int} {ws ws':List Nat} {mv:List (Int × Bool)} {x:Int} {left:Bool} {a b:Nat}
def Mv.lts (h:Mv M ns x a b) (td:TD M ns):a < M.length/\b < M.length:=⟨(Aa h.hM).1,(Aa (td.inv a b h.hM).1).1⟩
def Mv.td (h:Mv M ns x a b) (td:TD M ns):TD (exM left a b M) (exN left a b ns):=td.ex (h.lts td).1 (h.lts td).2 h.ab left
end
end KT
namespace L2
open PySem PySem.Spec PyProof.Rows PySem.SeqAt
section
variable {X:Cx}
def Zf8:Y5 X (.type "dict") (λxs H Q=>∃ (d:Addr) (kvs:List (Key × V)),xs=[.ref d]/\Rd H d (.dK kvs)/\∀ p,H p=none->Q (.ref p) (upd H p (.dK kvs))):=by
 intro f8 s σ H xs us Q I r h;obtain ⟨d,kvs,rfl,hd,q⟩:=h;obtain ⟨u,rfl,ru⟩:=Wb r;obtain rfl:u=Value.ref d:=ru;obtain ⟨z,jg,vs,gw,dd⟩:=Vk I.hok hd;have hl:vs.length<=sizeLine:=by rw [<- gw.length]; exact z
 refine kt_call_dict jg dd hl λh' hD qr=>?_;have hk:∀ b u,s.heap.get? b=some u->h'.get? b=some u:=λb u e=>(qr.2 b (As (Ao e))).trans (Ak _ e);refine ⟨.ref s.heap.objs.size,_,I.laid (a:=s.heap.objs.size) (o:=.dK kvs) (t':=s.toks) hk (An _) ⟨z,?_,vs,gw,hD⟩,Y,q _ (I.hok.fresh (An _))⟩;exact (Kx (P:=X.prog) (w:=X.w) (H:=H) s.heap I.big).2.1
def Zio (bs:List Bool):((List.range bs.length).any λi=>bs.getD i true)=bs.any id:=by
 rw [Bool.eq_iff_iff,List.any_eq_true,List.any_eq_true];constructor
 ·rintro ⟨i,hi,h⟩
  have hi:=List.mem_range.mp hi;rw [Ad,Ac hi] at h;exact ⟨_,List.getElem_mem hi,h⟩
 ·rintro ⟨b,hb,h⟩
  obtain ⟨i,hi,rfl⟩:=List.mem_iff_getElem.mp hb;exact ⟨i,List.mem_range.mpr hi,by rw [Ad,Ac hi]; exact h⟩
def Zak (hc:X.calm=true):Y5 X (.builtin "any") (λxs H Q=>∃ p bs,xs=[.ref p]/\SqL X.K H p (List.map V.bl bs)/\Q (.bl (bs.any id)) H):=by
 intro f8 s σ H xs us Q I r h;obtain ⟨p,bs,rfl,hq,q⟩:=h;obtain ⟨u,rfl,ru⟩:=Wb r;cases ru;obtain ⟨its,rv,pl,hz⟩:=I.list hq;have ne:p≠s.heap.objs.size:=by obtain ⟨o,ho,_⟩:=pl.isList; exact As (Ao ho)
 refine call_any_walk (wpAny_pyIter_list pl.isList ⟨s.heap.objs.size,_,_,_,_,_,λi=>bs.getD i true,Y,Walks.list (A:=X.A.in1) (show X.A.in1.handled=none from I.ok.hd hc) s.heap.objs.size p ne its.toArray,⟨⟨_,Ap _ Y,Y,Y⟩,pl.isList.push _⟩,?_,?_⟩)
 ·intro i v s' Q' E' hv i7
  have hv:its[i]?=some v:=by simpa using hv
  have gc:=rv.length;rw [Ab] at gc;have hi:i < bs.length:=by have:=(Aa hv).1; lia
  obtain ⟨u,hu,ru⟩:=rv.get (show (bs.map V.bl)[i]?=some (V.bl bs[i]) by rw [Ah,Ac hi]; rfl);rw [hv] at hu;cases hu;cases ru;have e:bs.getD i true=bs[i]:=by rw [Ad,Ac hi]; rfl
  refine wpAny_truthy_bool ?_;have i7:Q' (bs.getD i true) s':=i7;rw [e] at i7;exact i7
 ·intro h' tk hk
  have I1:Inv X f8 σ H { s with heap:=h',toks:=tk }:=I.kept λb o e=>hk b o (λz=>absurd (Ao e) (by rw [Af z]; exact Nat.lt_irrefl _)) (Ak _ e);have gc:its.toArray.size=bs.length:=by have:=rv.length; rw [Ab] at this; simp; lia
  refine ⟨.bl (bs.any id),H,I1,?_,q⟩;show Value.bool _=_;rw [gc,Zio]
theorem Fa (ns:List Int):∀ k,k<=ns.length->preSum (λi=>ns.getD i 0) k=(ns.take k).sum
 | 0,_=>by simp [preSum]
 | k + 1,h=>by
  rw [preSum,Fa ns k (by lia),Aw,Ac (by lia),List.sum_append,Ad,Ac (by lia)];simp
def Zc4 {f8:List (Addr × Obj)} {σ:St} {H:Hp} {s:Shared} {ns:List Int} {its:List Value} (rv:Vals (ns.map V.int) its):∀ (i:Nat) (v:Value),its.toArray[i]?=some v->∃ t,v=.int (ns.getD i 0) t:=λi v hv=>by
 have hv:its[i]?=some v:=by simpa using hv
 have gc:=rv.length;rw [Ab] at gc;have hi:i < ns.length:=by have:=(Aa hv).1; lia
 obtain ⟨u,hu,ru⟩:=rv.get (show (ns.map V.int)[i]?=some (V.int ns[i]) by rw [Ah,Ac hi]; rfl);rw [hv] at hu;cases hu;obtain ⟨t,rfl⟩:=ru;exact ⟨t,by rw [Ad,Ac hi]; rfl⟩
def Zaj (hc:X.calm=true):Y5 X (.builtin "sum") (λxs H Q=>∃ (p:Addr) (ns:List Int),xs=[.ref p]/\SqL X.K H p (ns.map V.int)/\Q (.int ns.sum) H):=by
 intro f8 s σ H xs us Q I r h;obtain ⟨p,ns,rfl,hq,q⟩:=h;obtain ⟨u,rfl,ru⟩:=Wb r;cases ru;obtain ⟨its,rv,pl,hz⟩:=I.list hq;have lt:p < s.heap.objs.size:=by obtain ⟨o,ho,_⟩:=pl.isList; exact Ao ho
 have gc:its.toArray.size=ns.length:=by have:=rv.length; rw [Ab] at this; simp; lia
 refine call_sum_walkG (wpAny_pyIter_list pl.isList ⟨s.heap.objs.size,_,_,_,_,_,λi=>ns.getD i 0,Y,Walks.list (A:=X.A.in1) (show X.A.in1.handled=none from I.ok.hd hc) s.heap.objs.size p (As lt) its.toArray,⟨⟨_,Ap _ Y,Y,Y⟩,pl.isList.push _⟩,?_,Zc4 (f8:=f8) (σ:=σ) (H:=H) (s:=s) rv,?_⟩)
 ·intro b hb
  show b < (s.heap.push _).objs.size;rw [Heap.size_push]
  rcases Ar hb with rfl | hb
  ·exact Nat.lt_succ_self _
  ·rw [Af hb]; exact Nat.lt_succ_of_lt lt
 ·intro h' tk t' hk
  have I1:Inv X f8 σ H { s with heap:=h',toks:=tk }:=I.kept λb o e=>hk b o (λz=>absurd (Ao e) (by rw [Af z]; exact Nat.lt_irrefl _)) (Ak _ e);refine ⟨.int ns.sum,H,I1,⟨t',?_⟩,q⟩;rw [gc,Fa ns _ (An _),List.take_length]
def Zik (hc:X.calm=true):Y5 X (.builtin "max") (λxs H Q=>∃ (p:Addr) (ns:List Int),xs=[.ref p]/\SqL X.K H p (ns.map V.int)/\0 < ns.length/\∀ m,m∈ns->(∀ a∈ns,a<=m)->Q (.int m) H):=by
 intro f8 s σ H xs us Q I r h;obtain ⟨p,ns,rfl,hq,hn,q⟩:=h;obtain ⟨u,rfl,ru⟩:=Wb r;cases ru;obtain ⟨its,rv,pl,hz⟩:=I.list hq;have lt:p < s.heap.objs.size:=by obtain ⟨o,ho,_⟩:=pl.isList; exact Ao ho
 have gc:its.toArray.size=ns.length:=by have:=rv.length; rw [Ab] at this; simp; lia
 have W:=Zc4 (f8:=f8) (σ:=σ) (H:=H) (s:=s) rv;refine call_max_walk (wpAny_pyIter_list pl.isList ⟨s.heap.objs.size,_,_,_,_,_,_,Y,Walks.list (A:=X.A.in1) (show X.A.in1.handled=none from I.ok.hd hc) s.heap.objs.size p (As lt) its.toArray,⟨⟨_,Ap _ Y,Y,Y⟩,pl.isList.push _⟩,?_,by rw [gc]; exact hn,CmpOf.ints_gt (λi=>ns.getD i 0) W,?_⟩)
 ·intro b hb
  show b < (s.heap.push _).objs.size;rw [Heap.size_push]
  rcases Ar hb with rfl | hb
  ·exact Nat.lt_succ_self _
  ·rw [Af hb]; exact Nat.lt_succ_of_lt lt
 ·intro v h' tk hP hk
  have I1:Inv X f8 σ H { s with heap:=h',toks:=tk }:=I.kept λb o e=>hk b o (λz=>absurd (Ao e) (by rw [Af z]; exact Nat.lt_irrefl _)) (Ak _ e);rw [gc] at hP;obtain ⟨a1,a2⟩:=argBest_gt (λi=>ns.getD i 0) (ns.length - 1);obtain ⟨t,e⟩:=W _ _ hP;generalize argBest (λi j=>decide (ns.getD i 0 > ns.getD j 0)) (ns.length - 1)=k at a1 a2 e;have js:k < ns.length:=by lia
  have ek:ns.getD k 0=ns[k]:=by rw [Ad,Ac js]; rfl
  refine ⟨.int (ns.getD k 0),H,I1,⟨t,e⟩,q _ (by rw [ek]; exact List.getElem_mem js) λa ha=>?_⟩;obtain ⟨j,hj,rfl⟩:=List.mem_iff_getElem.mp ha;have:=a2 j (by lia);have ej:ns.getD j 0=ns[j]:=by rw [Ad,Ac hj]; rfl
  show ns[j]<=ns.getD k 0;rw [<- ej]; exact this
def G6 (K:W.Frag) (hc:X.calm=true) (h:X.K=K:=by rfl):Y5 X (.builtin "sum") (λxs H Q=>∃ (p:Addr) (ns:List Int),xs=[.ref p]/\SqL K H p (ns.map V.int)/\Q (.int ns.sum) H):=h ▸ Zaj hc
def Zf7 (K:W.Frag) (hc:X.calm=true) (h:X.K=K:=by rfl):Y5 X (.builtin "max") (λxs H Q=>∃ (p:Addr) (ns:List Int),xs=[.ref p]/\SqL K H p (ns.map V.int)/\0 < ns.length/\∀ m,m∈ns->(∀ a∈ns,a<=m)->Q (.int m) H):=h ▸ Zik hc
end
end L2
namespace L2
open PySem PySem.Spec PyProof.Rows
section
variable {X:Cx} {l:Expr} {tl:TE}
theorem Zh1:∀ {kvs:List (Key × V)} {vs:List (Key × Value)} {ns:List Int},KV kvs vs->kvs.map (·.2)=ns.map V.int->∀ (i:Nat) (k:Key) (v:Value),vs[i]?=some (k,v)->∃ t,v=.int (ns.getD i 0) t
 | _,_,ns,.nil,_,i,k,v,h=>by simp at h
 | _,_,ns,.cons (a:=a) (b:=b) r rs,hm,i,k,v,h=>by
  cases ns with
  | nil=>cases hm
  | cons n ns =>
   rw [List.map_cons,List.map_cons] at hm
   injection hm with h1 h2
   cases i with
   | zero =>
    have h:b=(k,v):=by simpa using h
    have r2:=r.2;rw [h1,h] at r2;obtain ⟨t,e⟩:=r2;exact ⟨t,e⟩
   | succ i =>
    obtain ⟨t,e⟩:=Zh1 rs h2 i k v (by simpa using h);exact ⟨t,by simpa using e⟩
def Zoa (tl:TE):TE:=λσ H Q=>tl σ H λv H1=>∃ (d:Addr) (kvs:List (Key × V)) (ns:List Int),v=.ref d/\Rd H1 d (.dK kvs)/\kvs.map (·.2)=ns.map V.int/\Q (.int ns.sum) H1
def Gk {gu p:Pos} (hc:X.calm=true) (hl:PE X l tl) (m:M0 X l "values" gu gm) (hg:Gl X "sum") (hm:X.mg "sum"=none):PE X (.Call (.Name "sum" p) [.Call (.Attribute l "values" gu) [] [] gm] [] pos) (Zoa tl):=by
 intro f8 s σ H Q I h;refine wpAny_Call_Name_kw (Xf I hg hm PyProof.Rows.boot_sum ?_ (by decide) (by decide));refine PyProof.Rows.callWith_builtin1 ?_ Y Y;show wpAny _ _ (spliced ((false,eval (.Call (.Attribute l "values" gu) [] [] gm) X.env) :: [])) _ _ s;refine Calls.spliced_cons ?_;refine wpAny_Call_method m.base m.few m.line PySem.F.plainAttrs_dict PySem.F.slot_dict_values PySem.F.type_dict_values (thn (hl f8 s σ H _ I h) λv s1 gk=>?_);obtain ⟨x,H1,I1,r1,q1⟩:=gk;obtain ⟨a,kvs,ns,e,hd,r8,q⟩:=q1;subst e;cases r1;obtain ⟨z,jg,vs,gw,dd⟩:=Vk I1.hok hd;obtain ⟨ep,da⟩:=dd.dictAt;obtain ⟨t1,t2,_⟩:=Gz I1 (.inl ⟨kvs,hd⟩);refine ⟨t1,t2,?_⟩;refine Calls.callWith_builtin Y (PyProof.Rows.evalArgs_empty ?_);refine call_meetsIn PySem.F.slot_dict_values da.dictOf.typeIs PySem.F.entry_dict_values (PySem.F.args_dict_values_1 _) (meets_dict_values (Z1 X.prog X.w) a jg) ⟨⟨vs,da.dictOf⟩,?_⟩;refine Calls.spliced_nil ?_;have lt:a < s1.heap.objs.size:=by obtain ⟨o,es,ho,_⟩:=id da; exact Ao ho
 have I3:Inv X f8 σ H1 { s1 with heap:=s1.heap.push { cls:=.type "dict_values",data:=.fields #[.ref a] } }:=I1.kept (t':=s1.toks) λb o e=>Ak _ e;generalize jo:({ s1 with heap:=s1.heap.push { cls:=.type "dict_values",data:=.fields #[.ref a] } }:Shared)=s2 at I3 ⊢;have hv2:s2.heap.IsValuesView s1.heap.objs.size a:=by rw [<- jo]; exact ⟨_,Ap _ Y,Y,Y⟩
 have da2:s2.heap.DictAt (Z1 X.prog X.w) a vs ep:=by rw [<- jo]; exact da.push _
 have lt2:a < s2.heap.objs.size:=by rw [<- jo]; show a < (s1.heap.push _).objs.size; rw [Heap.size_push]; exact Nat.lt_succ_of_lt lt
 have gc:vs.length=ns.length:=by have h1:=gw.length; have h2:=congrArg List.length r8; rw [Ab,Ab] at h2; lia
 refine call_sum_walkG (wpAny_pyIter_values hv2 da2 ⟨s2.heap.objs.size,_,_,_,_,_,λi=>ns.getD i 0,rfl,Walks.dictValues (knd:=Z1 X.prog X.w) (A:=X.A.in1) (show X.A.in1.handled=none from I.ok.hd hc) s2.heap.objs.size a (As lt2) vs ep,⟨⟨_,Ap _ rfl,rfl,rfl⟩,da2.push _⟩,?_,λi v ⟨k,hv⟩=>Zh1 gw r8 i k v hv,?_⟩)
 ·intro b hb
  show b < (s2.heap.push _).objs.size;rw [Heap.size_push]
  rcases Ar hb with rfl | hb
  ·exact Nat.lt_succ_self _
  ·rw [Af hb]; exact Nat.lt_succ_of_lt lt2
 ·intro h' tk t' hk
  have I4:Inv X f8 σ H1 { s2 with heap:=h',toks:=tk }:=I3.kept λb o e=>hk b o (λz=>absurd (Ao e) (by rw [Af z]; exact Nat.lt_irrefl _)) (Ak _ e);refine ⟨.int ns.sum,H1,I4,⟨t',?_⟩,q⟩;rw [gc,Fa ns _ (An _),List.take_length]
end
end L2
namespace HL
open PySem PyProof.Rows HT
end HL
namespace L2
open PySem PySem.Spec PyProof.Rows
def FnOk.or {P:Program} {w:World} {K:W.Frag} {mg:Str->Option Value} {base:Heap} {CX:CXT} {k:Nat} {f:Addr} {fd:FuncData} {ps:List Str} {sp sp':Sp} (F:FnOk P w K mg base CX k f fd ps sp) (G:FnOk P w K mg base CX k f fd ps sp') :
  FnOk P w K mg base CX k f fd ps (λvs H Q E=>sp vs H Q E\/sp' vs H Q E) :=
 ⟨λvs H Q E q=>q.elim (F.len vs H Q E) (G.len vs H Q E),λA outer s H args us vs Q E hr he hb hv hs=>hs.elim (F.run A outer s H args us vs Q E hr he hb hv) (G.run A outer s H args us vs Q E hr he hb hv)⟩
inductive ZS where
 | l (a:Addr)
 | t (a:Addr)
 | s (x:Str)
def ZS.has (K:W.Frag) (H:Hp) (S:ZS) (xs:List V):Prop:=match S with
 | .l a=>SqL K H a xs
 | .t a=>SqT K H a xs
 | .s x=>x.cps.all (· < 128)=true/\xs=x.cps.toList.map λc=>V.str ⟨#[c]⟩
def ZS.it (S:ZS) (i:Addr) (k:Nat) (h:Heap):Prop:=match S with
 | .l a=>h.IsListIter i a k
 | .t a=>IsTupIter h i a k
 | .s x=>∃ t,h.IsStrIter i "str_ascii_iterator" x t k
def ZS.v:ZS->V
 | .l a=>.ref a
 | .t a=>.ref a
 | .s x=>.str x
def Zmt (H0:Hp) (t:TE):TE:=λσ H Q=>t σ H λv H'=>∃ (a:Addr) (o:Obj) (kvs:List (Key × V)),H' a=some (.frz o (.dK kvs))/\(∀ o u,H0 a≠some (.frz o u))/\Q v (upd H' a (.dK kvs))
def Zlr {X:Cx} (h:PE X e t):PE X e (Zmt X.H₀ t):=by
 intro f8 s σ H Q I hw;refine wpAny_mono (h f8 s σ H _ I hw) (λv s' q=>?_) λ_ _ e=>e;obtain ⟨x,H',I',r,a,o,kvs,e,h0,q⟩:=q;exact ⟨x,_,I'.thaw e h0,r,q⟩
end L2
namespace KT
open PySem L2
def aN (a:Nat):Nat:=(after a).toNat
def bN (a:Nat):Nat:=(before a).toNat
def Qt (a:Nat):after a=(aN a:Int):=(Int.toNat_of_nonneg (Y2 a).2.2).symm
def Qs (a:Nat):before a=(bN a:Int):=(Int.toNat_of_nonneg (Yn a).2.2).symm
def Qe (a:Nat):aN a=if a % 3=2 then a - 2 else a + 1:=by
 have h:=Qt a;unfold after at h;split at h <;> split <;> lia
def Qd (a:Nat):bN a=if a % 3=0 then a + 2 else a - 1:=by
 have h:=Qs a;unfold before at h;split at h <;> split <;> lia
def d3_0 (q:Nat):3 * q / 3=q:=Nat.mul_div_cancel_left q (by decide)
def d3_1 (q:Nat):(3 * q + 1) / 3=q:=by rw [Nat.mul_add_div (by decide)]; rfl
def d3_2 (q:Nat):(3 * q + 2) / 3=q:=by rw [Nat.mul_add_div (by decide)]; rfl
def aN_0 (q:Nat):aN (3 * q)=3 * q + 1:=by rw [Qe,if_neg (by rw [Nat.mul_mod_right]; decide)]
def aN_1 (q:Nat):aN (3 * q + 1)=3 * q + 2:=by rw [Qe,if_neg (by rw [Nat.mul_add_mod]; decide)]
def aN_2 (q:Nat):aN (3 * q + 2)=3 * q:=by rw [Qe,if_pos (by rw [Nat.mul_add_mod])]; rfl
def bN_0 (q:Nat):bN (3 * q)=3 * q + 2:=by rw [Qd,if_pos (Nat.mul_mod_right 3 q)]
def bN_1 (q:Nat):bN (3 * q + 1)=3 * q:=by rw [Qd,if_neg (by rw [Nat.mul_add_mod]; decide)]; rfl
def bN_2 (q:Nat):bN (3 * q + 2)=3 * q + 1:=by rw [Qd,if_neg (by rw [Nat.mul_add_mod]; decide)]; rfl
def three (a:Nat):∃ q,a=3 * q\/a=3 * q + 1\/a=3 * q + 2:=⟨a / 3,by lia⟩
def Xt (a:Nat):aN a / 3=a / 3/\bN a / 3=a / 3/\aN (aN a)=bN a/\bN (aN a)=a/\aN (bN a)=a/\bN (bN a)=aN a/\aN a≠a/\bN a≠a/\aN a≠bN a:=by
 have n1:∀ q,q + 1≠q:=λq=>Nat.succ_ne_self q;have n2:∀ q,q + 2≠q:=λq h=>Nat.ne_of_gt (Nat.lt_add_of_pos_right (n:=q) (k:=2) (by decide)) h;obtain ⟨q,rfl | rfl | rfl⟩:=three a
 ·rw [aN_0,bN_0,aN_1,bN_1,aN_2,bN_2,d3_0,d3_1,d3_2]
  exact ⟨Y,Y,Y,Y,Y,Y,n1 _,n2 _,λh=>n1 _ h.symm⟩
 ·rw [aN_1,bN_1,aN_2,bN_2,aN_0,bN_0,d3_0,d3_1,d3_2]
  exact ⟨Y,Y,Y,Y,Y,Y,n1 _,λh=>n1 _ h.symm,n2 _⟩
 ·rw [aN_2,bN_2,aN_0,bN_0,aN_1,bN_1,d3_0,d3_1,d3_2]
  exact ⟨Y,Y,Y,Y,Y,Y,λh=>n2 _ h.symm,λh=>n1 _ h.symm,λh=>n1 _ h.symm⟩
def Vm (a z:Nat) (h:z / 3=a / 3):z=a\/z=aN a\/z=bN a:=by
 have h1:=Qe a;have h2:=Qd a;split at h1 <;> split at h2 <;> lia
def Jn {n:Nat} (h:a < 3 * n):aN a < 3 * n/\bN a < 3 * n:=by
 obtain ⟨h1,h2,_⟩:=Xt a;exact ⟨by lia,by lia⟩
def Zhu {a b:Nat} (h:a / 3≠b / 3) (left:Bool) :
  mvN (!left) a b (aN a)=(if left then bN a else bN b)/\mvN (!left) a b (bN a)=(if left then aN b else aN a)/\mvN (!left) a b (aN b)=(if left then bN b else bN a)/\mvN (!left) a b (bN b)=if left then aN a else aN b:=by
 obtain ⟨h1,h2,h3,h4,h5,h6⟩:=Jk h;have e:∀ z:Nat,((mvN (!left) a b z:Nat):Int)=mvI (!left) a b z:=λz=>Qa _ _ _ _;have q:∀ x y:Nat,(x:Int)=y->x=y:=λx y z=>by lia
 have f1:=Qt a;have f2:=Qs a;have f3:=Qt b;have f4:=Qs b;rw [f1,f2] at h1;rw [f1,f3] at h2;rw [f1,f4] at h3;rw [f2,f3] at h4;rw [f2,f4] at h5;rw [f3,f4] at h6
 refine ⟨q _ _ ?_,q _ _ ?_,q _ _ ?_,q _ _ ?_⟩ <;> rw [e] <;> unfold mvI <;> simp only [f1,f2,f3,f4] <;> cases left <;>
  simp [h1,h2,h3,h4,h5,h6,Ne.symm h1,Ne.symm h2,Ne.symm h3,Ne.symm h4,Ne.symm h5,Ne.symm h6]
def Zlw {a b z:Nat} (left:Bool) (h1:z≠aN a) (h2:z≠bN a) (h3:z≠aN b) (h4:z≠bN b):mvN left a b z=z:=by
 have e:=Qa left a b z;unfold mvI at e;have f1:=Qt a;have f2:=Qs a;have f3:=Qt b;have f4:=Qs b;rw [if_neg (by lia),if_neg (by lia),if_neg (by lia),if_neg (by lia)] at e;lia
structure PC (M:List (Option Nat)) (f:Nat->Int):Prop where
 nn:∀ p,p < M.length->0<=f p
 rim:∀ p:Nat,M[p]?=some none->f p=0
 mate:∀ p q:Nat,M[p]?=some (some q)->f q=f p
 even:∀ p,p < M.length->(f p + f (aN p) + f (bN p)) % 2=0
 tri:∀ p,p < M.length->f p<=f (aN p) + f (bN p)
def mx (x y:Int):Int:=if y > x then y else x
def bh (f:Nat->Int) (a b:Nat):Int:=mx (f (aN a) + f (aN b)) (f (bN a) + f (bN b)) - f a
def fx (left:Bool) (a b:Nat) (f:Nat->Int) (z:Nat):Int:=if z=a\/z=b then bh f a b else f (mvN (!left) a b z)
section
variable {M:List (Option Nat)} {ns:List Int} {f:Nat->Int} {a b:Nat} {left:Bool}
def Zny (h:a / 3≠b / 3):fx left a b f a=bh f a b/\fx left a b f b=bh f a b/\fx left a b f (aN a)=(if left then f (bN a) else f (bN b))/\fx left a b f (bN a)=(if left then f (aN b) else f (aN a))/\fx left a b f (aN b)=(if left then f (bN b) else f (bN a))/\fx left a b f (bN b)=if left then f (aN a) else f (aN b):=by
 obtain ⟨m1,m2,m3,m4⟩:=Zhu h left;obtain ⟨a1,a2,_,_,_,_,a7,a8,_⟩:=Xt a;obtain ⟨b1,b2,_,_,_,_,b7,b8,_⟩:=Xt b;unfold fx;refine ⟨if_pos (.inl Y),if_pos (.inr Y),?_,?_,?_,?_⟩
 ·rw [if_neg (by lia),m1]; cases left <;> rfl
 ·rw [if_neg (by lia),m2]; cases left <;> rfl
 ·rw [if_neg (by lia),m3]; cases left <;> rfl
 ·rw [if_neg (by lia),m4]; cases left <;> rfl
def Qx (h:a / 3≠b / 3) {z:Nat} (h1:z / 3≠a / 3) (h2:z / 3≠b / 3):fx left a b f z=f z:=by
 obtain ⟨a1,a2,_⟩:=Xt a;obtain ⟨b1,b2,_⟩:=Xt b;unfold fx;rw [if_neg (λe=>by rcases e with e | e <;> rw [e] at h1 h2 <;> lia),Zlw (!left) (λe=>by rw [e] at h1; lia) (λe=>by rw [e] at h1; lia) (λe=>by rw [e] at h2; lia) (λe=>by rw [e] at h2; lia)]
def Zkp (h:a / 3≠b / 3) {p:Nat} (h1:p≠a) (h2:p≠b):fx left a b f (mvN left a b p)=f p:=by
 unfold fx;obtain ⟨e1,e2⟩:=mv_a (left:=left) h;rw [if_neg,Wk h];rintro (e | e)
 ·exact h1 (V2 h left (e.trans e1.symm))
 ·exact h2 (V2 h left (e.trans e2.symm))
def PC.ex (pc:PC M f) (td:TD M ns) (hM:M[a]?=some (some b)) (gz:a / 3≠b / 3) (left:Bool):PC (exM left a b M) (fx left a b f):=by
 obtain ⟨n,_,_,hn⟩:=td.n;have o7:=(td.inv a b hM).1;have ha:a < M.length:=(Aa hM).1;have hb:b < M.length:=(Aa o7).1;have ha':=ha;have mh:=hb;rw [hn] at ha' mh;obtain ⟨la,lb⟩:=Jn ha';obtain ⟨lc,ld⟩:=Jn mh;obtain ⟨v1,v2,v3,v4,v5,v6⟩:=Zny (left:=left) (f:=f) gz;obtain ⟨a1,a2,a3,a4,a5,a6,a7,a8,a9⟩:=Xt a;obtain ⟨b1,b2,b3,b4,b5,b6,b7,b8,b9⟩:=Xt b;have em:=pc.mate a b hM;have e1:=pc.even a ha;have e2:=pc.even b hb;have t1:=pc.tri a ha;have t2:=pc.tri (aN a) (by lia);have t3:=pc.tri (bN a) (by lia);have t4:=pc.tri b hb;have t5:=pc.tri (aN b) (by lia);have t6:=pc.tri (bN b) (by lia);have n1:=pc.nn a ha;have n2:=pc.nn (aN a) (by lia);have n3:=pc.nn (bN a) (by lia);have n4:=pc.nn (aN b) (by lia);have n5:=pc.nn (bN b) (by lia);rw [a3,a4] at t2;rw [a5,a6] at t3;rw [b3,b4] at t5;rw [b5,b6] at t6;have mf:bh f a b=(if f (bN a) + f (bN b) > f (aN a) + f (aN b) then f (bN a) + f (bN b) else f (aN a) + f (aN b)) - f a:=rfl;have on:∀ z,z < M.length->z=a\/z=aN a\/z=bN a\/z=b\/z=aN b\/z=bN b\/(z / 3≠a / 3/\z / 3≠b / 3):=λz _=>by
  by_cases c1:z / 3=a / 3
  ·rcases Vm a z c1 with e | e | e
   ·exact .inl e
   ·exact .inr (.inl e)
   ·exact .inr (.inr (.inl e))
  ·by_cases c2:z / 3=b / 3
   ·rcases Vm b z c2 with e | e | e
    ·exact .inr (.inr (.inr (.inl e)))
    ·exact .inr (.inr (.inr (.inr (.inl e))))
    ·exact .inr (.inr (.inr (.inr (.inr (.inl e)))))
   ·exact .inr (.inr (.inr (.inr (.inr (.inr ⟨c1,c2⟩)))))
 refine ⟨λz hz=>?_,λz hz=>?_,λz y hz=>?_,λz hz=>?_,λz hz=>?_⟩
 ·rw [Xw] at hz
  unfold fx;split
  ·rw [mf]; split <;> lia
  ·rw [hn] at hz
   exact pc.nn _ (by rw [hn]; exact Jj ha' mh _ hz)
 ·have rj:z < M.length:=by have:=(Aa hz).1; rw [Xw] at this; exact this
  rw [Qy td ha hb gz left rj] at hz
  have hp:M[mvN (!left) a b z]?=some none:=by
   cases e:M[mvN (!left) a b z]? with
   | none=>rw [e] at hz; cases hz
   | some o=>cases o with
    | none=>rfl
    | some y=>rw [e] at hz; cases hz
  unfold fx;rw [if_neg,pc.rim _ hp];obtain ⟨m1,m2⟩:=mv_a (left:=!left) gz;rintro (rfl | rfl)
  ·rw [m1,hM] at hp; cases hp
  ·rw [m2,o7] at hp; cases hp
 ·have rj:z < M.length:=by have:=(Aa hz).1; rw [Xw] at this; exact this
  rw [Qy td ha hb gz left rj] at hz
  obtain ⟨q,hp,rfl⟩:∃ q,M[mvN (!left) a b z]?=some (some q)/\y=mvN left a b q:=by
   cases e:M[mvN (!left) a b z]? with
   | none=>rw [e] at hz; cases hz
   | some o=>cases o with
    | none=>rw [e] at hz; cases hz
    | some y'=>rw [e] at hz; cases hz; exact ⟨y',Y,Y⟩
  have ez:mvN left a b (mvN (!left) a b z)=z:=Va gz left z;generalize mvN (!left) a b z=p at hp ez;subst ez;obtain ⟨m1,m2⟩:=mv_a (left:=left) gz;by_cases c1:p=a
  ·subst c1
   rw [hM] at hp; cases hp;rw [m1,m2,v1,v2]
  ·by_cases c2:p=b
   ·subst c2
    rw [o7] at hp; cases hp;rw [m1,m2,v1,v2]
   ·have hq:=(td.inv p q hp).1
    have d1:q≠a:=λe=>by rw [e,hM] at hq; cases hq; exact c2 Y
    have d2:q≠b:=λe=>by rw [e,o7] at hq; cases hq; exact c1 Y
    rw [Zkp gz c1 c2,Zkp gz d1 d2];exact pc.mate p q hp
 ·rw [Xw] at hz
  rcases on z hz with rfl | rfl | rfl | rfl | rfl | rfl | ⟨c1,c2⟩
  ·rw [v1,v3,v4,mf]; cases left <;> simp only [if_true,if_false,Bool.false_eq_true] <;> split <;> lia
  ·rw [a3,a4,v1,v3,v4,mf]; cases left <;> simp only [if_true,if_false,Bool.false_eq_true] <;> split <;> lia
  ·rw [a5,a6,v1,v3,v4,mf]; cases left <;> simp only [if_true,if_false,Bool.false_eq_true] <;> split <;> lia
  ·rw [v2,v5,v6,mf]; cases left <;> simp only [if_true,if_false,Bool.false_eq_true] <;> split <;> lia
  ·rw [b3,b4,v2,v5,v6,mf]; cases left <;> simp only [if_true,if_false,Bool.false_eq_true] <;> split <;> lia
  ·rw [b5,b6,v2,v5,v6,mf]; cases left <;> simp only [if_true,if_false,Bool.false_eq_true] <;> split <;> lia
  ·obtain ⟨z1,z2,_⟩:=Xt z
   rw [Qx gz c1 c2,Qx gz (by lia) (by lia),Qx gz (by lia) (by lia)];exact pc.even z hz
 ·rw [Xw] at hz
  rcases on z hz with rfl | rfl | rfl | rfl | rfl | rfl | ⟨c1,c2⟩
  ·rw [v1,v3,v4,mf]; cases left <;> simp only [if_true,if_false,Bool.false_eq_true] <;> split <;> lia
  ·rw [a3,a4,v1,v3,v4,mf]; cases left <;> simp only [if_true,if_false,Bool.false_eq_true] <;> split <;> lia
  ·rw [a5,a6,v1,v3,v4,mf]; cases left <;> simp only [if_true,if_false,Bool.false_eq_true] <;> split <;> lia
  ·rw [v2,v5,v6,mf]; cases left <;> simp only [if_true,if_false,Bool.false_eq_true] <;> split <;> lia
  ·rw [b3,b4,v2,v5,v6,mf]; cases left <;> simp only [if_true,if_false,Bool.false_eq_true] <;> split <;> lia
  ·rw [b5,b6,v2,v5,v6,mf]; cases left <;> simp only [if_true,if_false,Bool.false_eq_true] <;> split <;> lia
  ·obtain ⟨z1,z2,_⟩:=Xt z
   rw [Qx gz c1 c2,Qx gz (by lia) (by lia),Qx gz (by lia) (by lia)];exact pc.tri z hz
def Nm (ns:List Int) (f:Nat->Int) (g:Int->Int):Prop:=∀ (p:Nat) (x:Int),ns[p]?=some x->g x=f p
def Nm.ex {g:Int->Int} {x:Int} (h:Nm ns f g) (td:TD M ns) (hM:M[a]?=some (some b)) (gz:a / 3≠b / 3) (hx:ns[a]?=some x) (left:Bool):Nm (exN left a b ns) (fx left a b f) λy=>if y=x then bh f a b else g y:=by
 have o7:=(td.inv a b hM).1;have ha:a < M.length:=(Aa hM).1;have hb:b < M.length:=(Aa o7).1;intro z y hz;have rj:z < M.length:=by have:=(Aa hz).1; rw [Ja,td.len] at this; exact this
 rw [Jb td ha hb gz left rj] at hz;obtain ⟨m1,m2⟩:=mv_a (left:=!left) gz;by_cases c:z=a\/z=b
 ·have e:y=x:=by
   rcases c with rfl | rfl
   ·rw [m1,hx] at hz; cases hz; rfl
   ·rw [m2,td.eqm a z hM,hx] at hz; cases hz; rfl
  show (if y=x then bh f a b else g y)=_;rw [if_pos e];unfold fx;rw [if_pos c]
 ·have e:y≠x:=λe=>by
   subst e
   rcases td.eqv _ a y hz hx with e | e
   ·exact c (.inl (V2 gz (!left) (e.trans m1.symm)))
   ·have e:=(td.inv _ a e).1
    rw [hM] at e
    injection e with e
    injection e with e
    exact c (.inr (V2 gz (!left) (e.symm.trans m2.symm)))
  show (if y=x then bh f a b else g y)=_;rw [if_neg e];unfold fx;rw [if_neg c];exact h _ y hz
def Zl3 (td:TD M ns) (hM:M[a]?=some (some b)) (gz:a / 3≠b / 3) (left:Bool):(keys ns ns.length).Perm (keys (exN left a b ns) (exN left a b ns).length):=by
 have o7:=(td.inv a b hM).1;have ha:a < M.length:=(Aa hM).1;have hb:b < M.length:=(Aa o7).1;obtain ⟨n,_,_,hn⟩:=td.n;have hnl:=td.len;rw [List.perm_ext_iff_of_nodup (Uj _ _) (Uj _ _)];intro x;rw [Yk,Yk,Ja];constructor
 ·rintro ⟨i,hi,e⟩
  have hm:mvN left a b i < M.length:=by rw [hn]; exact Jj (by lia) (by lia) left (by lia)
  exact ⟨mvN left a b i,by lia,by rw [Jb td ha hb gz left hm,Wk gz]; exact e⟩
 ·rintro ⟨i,hi,e⟩
  have je:i < M.length:=by lia
  rw [Jb td ha hb gz left je] at e;exact ⟨_,by have:=(Aa e).1; exact this,e⟩
end
structure PreC (M:List (Option Nat)) (f:Nat->Int):Prop where
 nn:∀ p,p < M.length->0<=f p
 rim:∀ p:Nat,M[p]?=some none->f p=0
 mate:∀ p q:Nat,M[p]?=some (some q)->f q=f p
 even:∀ p,p < M.length->(f p + f (aN p) + f (bN p)) % 2=0
def sF (f:Nat->Int):Nat->Int
 | 0=>0
 | n + 1=>sF f n + f n
theorem Zfj:∀ {n:Nat},(∀ z,z < n->f z<=g z)->sF f n<=sF g n
 | 0,_=>Int.le_refl _
 | n + 1,h=>Int.add_le_add (Zfj λz hz=>h z (by lia)) (h n (by lia))
theorem Zfi:∀ {n:Nat},(∀ z,z < n->f z<=g z)->p < n->f p < g p->sF f n < sF g n
 | 0,_,hp,_=>absurd hp (by lia)
 | n + 1,h,hp,hl=>by
  show sF f n + f n < sF g n + g n;by_cases c:p=n
  ·subst c
   have:=Zfj (n:=p) λz hz=>h z (by lia);lia
  ·have:=Zfi (n:=n) (p:=p) (λz hz=>h z (by lia)) (by lia) hl
   have:=h n (by lia);lia
theorem Ov:∀ {n:Nat},(∀ z,z < n->0<=f z)->0<=sF f n
 | 0,_=>Int.le_refl _
 | n + 1,h=>Int.add_nonneg (Ov λz hz=>h z (by lia)) (h n (by lia))
def lw (f:Nat->Int) (p:Nat) (q:Option Nat) (v:Int):Nat->Int:=λz=>if z=p\/q=some z then v else f z
section
variable {M:List (Option Nat)} {f:Nat->Int} {p:Nat}
def Zlx (v:Int):lw f p none v=λz=>if z=p then v else f z:=by
 funext z;unfold lw;by_cases c:z=p
 ·rw [if_pos (.inl c),if_pos c]
 ·rw [if_neg (by rintro (h | h); exact c h; cases h),if_neg c]
def Jx (q:Nat) (v:Int):lw f p (some q) v=λz=>if z=q then v else if z=p then v else f z:=by
 funext z;unfold lw;by_cases c:z=p
 ·rw [if_pos (.inl c)]
  by_cases d:z=q
  ·rw [if_pos d]
  ·rw [if_neg d,if_pos c]
 ·by_cases d:z=q
  ·rw [if_pos (.inr (by rw [d])),if_pos d]
  ·rw [if_neg (by rintro (h | h); exact c h; cases h; exact d Y),if_neg d,if_neg c]
def PreC.lw (pc:PreC M f) (h3:∃ n,M.length=3 * n) (inv:InvM M) (hq:M[p]?=some q) (hl:f (aN p) + f (bN p) < f p) :
  PreC M (lw f p q (f (aN p) + f (bN p)))/\(∀ z,lw f p q (f (aN p) + f (bN p)) z<=f z\/z ≥ M.length)/\lw f p q (f (aN p) + f (bN p)) p < f p:=by
 have hp:p < M.length:=(Aa hq).1;obtain ⟨n,hn⟩:=h3;obtain ⟨l1,l2⟩:=Jn (show p < 3 * n by lia);have n1:=pc.nn (aN p) (by lia);have n2:=pc.nn (bN p) (by lia);have ev:=pc.even p hp
 obtain ⟨y,rfl⟩:∃ y,q=some y:=by
  cases q with
  | none=>have:=pc.rim p hq; lia
  | some y=>exact ⟨y,Y⟩
 have hy:=(inv p y hq).1;have em:=pc.mate p y hq;have par:∀ z,(KT.lw f p (some y) (f (aN p) + f (bN p)) z - f z) % 2=0:=λz=>by
  rw [Jx]
  dsimp only
  by_cases c:z=y
  ·rw [if_pos c,c]; lia
  ·rw [if_neg c]
   by_cases d:z=p
   ·rw [if_pos d,d]; lia
   ·rw [if_neg d]; lia
 refine ⟨⟨λz hz=>?_,λz hz=>?_,λz w hz=>?_,λz hz=>?_⟩,λz=>?_,?_⟩
 ·rw [Jx]
  dsimp only;split
  ·lia
  ·split
   ·lia
   ·exact pc.nn z hz
 ·rw [Jx]
  dsimp only;rw [if_neg (λe=>by rw [e,hy] at hz; cases hz),if_neg (λe=>by rw [e,hq] at hz; cases hz)];exact pc.rim z hz
 ·rw [Jx]
  dsimp only;have hw:=(inv z w hz).1;by_cases c:z=y
  ·subst c
   rw [hy] at hz;cases hz;rw [if_pos rfl,if_pos rfl];split <;> rfl
  ·rw [if_neg c]
   by_cases d:z=p
   ·subst d
    rw [hq] at hz;cases hz;rw [if_pos rfl,if_pos rfl]
   ·rw [if_neg d]
    have c2:w≠y:=λe=>by rw [e,hy] at hw; cases hw; exact d Y
    have d2:w≠p:=λe=>by rw [e,hq] at hw; cases hw; exact c Y
    rw [if_neg c2,if_neg d2];exact pc.mate z w hz
 ·have:=pc.even z hz
  have p1:=par z;have p2:=par (aN z);have p3:=par (bN z);lia
 ·left
  rw [Jx];dsimp only;split
  ·rename_i c; rw [c]; lia
  ·split
   ·rename_i c; rw [c]; lia
   ·exact Int.le_refl _
 ·rw [Jx]
  dsimp only;split
  ·exact hl
  ·rw [if_pos rfl]; exact hl
def PreC.all (pc:PreC M f) (h:∀ p,p < M.length->f p<=f (aN p) + f (bN p)):PC M f:=⟨pc.nn,pc.rim,pc.mate,pc.even,h⟩
end
def V3 {M:List (Option Nat)} (h:M[q]?=some (some m)):mtN M q=m:=by unfold mtN; rw [Ad,h]; rfl
def crN (M:List (Option Nat)) (ws:List Nat) (p:Nat):Nat:=ws.countP λq=>decide (q=p\/mtN M q=p)
def ind3 (z q:Nat):(if q=z then 1 else 0) + (if q=aN z then 1 else 0) + (if q=bN z then 1 else 0)=if q / 3=z / 3 then 1 else 0:=by
 obtain ⟨a1,a2,_,_,_,_,a7,a8,a9⟩:=Xt z;by_cases c:q / 3=z / 3
 ·rw [if_pos c]
  rcases Vm z q c with rfl | rfl | rfl
  ·rw [if_pos rfl,if_neg (Ne.symm a7),if_neg (Ne.symm a8)]
  ·rw [if_neg a7,if_pos rfl,if_neg a9]
  ·rw [if_neg a8,if_neg (Ne.symm a9),if_pos rfl]
 ·rw [if_neg c,if_neg (λe=>c (by rw [e])),if_neg (λe=>c (by rw [e]; exact a1)),if_neg (λe=>c (by rw [e]; exact a2))]
def Zfz {q m s:Nat} (h:q≠m):(if decide (q=s\/m=s)=true then 1 else 0)=(if q=s then 1 else 0) + if m=s then 1 else 0:=by
 by_cases c:q=s
 ·subst c
  rw [if_pos (decide_eq_true (.inl rfl)),if_pos rfl,if_neg (Ne.symm h)]
 ·by_cases d:m=s
  ·rw [if_pos (decide_eq_true (.inr d)),if_neg c,if_pos d]
  ·rw [if_neg (λe=>by rcases of_decide_eq_true e with e | e; exact c e; exact d e),if_neg c,if_neg d]
theorem Zii {M:List (Option Nat)} (inv:InvM M) (z:Nat):∀ ws:List Nat,(∀ p∈ws,∃ m,M[p]?=some (some m)) ->
  crN M ws z + crN M ws (aN z) + crN M ws (bN z)=(ws.countP λq=>decide (q / 3=z / 3)) + ws.countP λq=>decide (mtN M q / 3=z / 3)
 | [],_=>rfl
 | q :: r,h=>by
  have ih:=Zii inv z r λp hp=>h p (List.mem_cons_of_mem _ hp);obtain ⟨m,hm⟩:=h q List.mem_cons_self;have ne:=(inv q m hm).2;unfold crN at ih ⊢;simp only [List.countP_cons,V3 hm];rw [Zfz ne,Zfz ne,Zfz ne];have i1:=ind3 z q;have i2:=ind3 z m;have e:∀ c:Prop,[Decidable c]->(if decide c=true then 1 else 0)=if c then 1 else 0:=λc _=>by by_cases h:c <;> simp [h]
  rw [e,e];lia
def Zmc (inv:InvM M) (h:ws=[]\/Pl M ws) (z:Nat):(crN M ws z + crN M ws (aN z) + crN M ws (bN z)) % 2=0:=by
 rcases h with rfl | hP
 ·rfl
 ·rw [Zii inv z ws hP.has]
  have hl:0 < ws.length:=List.length_pos_iff.mpr hP.ne;have e:(ws.map λq=>mtN M q / 3)=(rot ws 1).map λq=>q / 3:=by
   apply List.ext_getElem?
   intro i
   rw [Ah,Ah]
   by_cases hi:i < ws.length
   ·obtain ⟨m,hm⟩:=hP.has ws[i] (List.getElem_mem hi)
    have hn:(i + 1) % ws.length < ws.length:=Nat.mod_lt _ hl
    have:=(hP.nxt i ws[i] ws[(i + 1) % ws.length] (Ac hi) (Ac hn) m hm).1
    rw [Zm7 (j:=0) hl hi,Ac hi,Ac hn]
    show some (mtN M ws[i] / 3)=some (ws[(i + 1) % ws.length] / 3)
    rw [V3 hm,this]
   ·rw [Ay (by lia),Ay (by rw [Ow _ (by lia)]; lia)]
    rfl
  have p:(rot ws 1).Perm ws:=by
   unfold rot;refine List.perm_append_comm.trans ?_;rw [List.take_append_drop]
  have c1:(ws.countP λq=>decide (mtN M q / 3=z / 3))=(ws.map λq=>mtN M q / 3).countP λx=>decide (x=z / 3):=by rw [List.countP_map]; rfl
  have c2:(ws.countP λq=>decide (q / 3=z / 3))=((rot ws 1).map λq=>q / 3).countP λx=>decide (x=z / 3):=by rw [List.countP_map,p.countP_eq]; rfl
  rw [c1,e,<- c2];lia
def fam (M:List (Option Nat)) (ws:List Nat) (h:Nat->Int) (p:Nat):Int:=match (M[p]?).join with
 | some y=>2 * h (min p y) + (crN M ws p % 2:Nat)
 | none=>0
def Zda {M:List (Option Nat)} (inv:InvM M) (has:∀ p∈ws,∃ m,M[p]?=some (some m)) (h:M[p]?=some (some y)):crN M ws y=crN M ws p:=by
 unfold crN;apply List.countP_congr;intro q hq;obtain ⟨m,hm⟩:=has q hq;have hy:=(inv p y h).1;rw [V3 hm,decide_eq_true_eq,decide_eq_true_eq];constructor
 ·rintro (rfl | rfl)
  ·right; rw [hy] at hm; cases hm; rfl
  ·left
   have:=(inv q m hm).1;rw [hy] at this; cases this; rfl
 ·rintro (rfl | rfl)
  ·right; rw [h] at hm; cases hm; rfl
  ·left
   have:=(inv q m hm).1;rw [h] at this; cases this; rfl
def Zmd {M:List (Option Nat)} (inv:InvM M) (has:∀ p∈ws,∃ m,M[p]?=some (some m)) (h:(M[p]?).join=none):crN M ws p=0:=by
 unfold crN;rw [List.countP_eq_zero];intro q hq e;obtain ⟨m,hm⟩:=has q hq;rw [V3 hm] at e
 rcases of_decide_eq_true e with rfl | rfl
 ·rw [hm] at h; cases h
 ·rw [(inv q m hm).1] at h; cases h
def Zl8 (inv:InvM M) (hw:ws=[]\/Pl M ws) (hn:∀ p,0<=h p):PreC M (fam M ws h):=by
 have has:∀ p∈ws,∃ m,M[p]?=some (some m):=by
  rcases hw with rfl | hP
  ·exact λp hp=>absurd hp List.not_mem_nil
  ·exact hP.has
 have par:∀ z,(fam M ws h z - (crN M ws z:Int)) % 2=0:=λz=>by
  unfold fam
  cases e:(M[z]?).join with
  | none=>dsimp only; rw [Zmd inv has e]; rfl
  | some y=>dsimp only; lia
 refine ⟨λp _=>?_,λp hp=>?_,λp q hp=>?_,λp _=>?_⟩
 ·unfold fam
  cases (M[p]?).join with
  | none=>exact Int.le_refl _
  | some y=>dsimp only; have:=hn (min p y); lia
 ·unfold fam; rw [hp]; rfl
 ·have hq:=(inv p q hp).1
  unfold fam;rw [hp,hq];show 2 * h (min q p) + (crN M ws q % 2:Nat)=2 * h (min p q) + (crN M ws p % 2:Nat);rw [Zda inv has hp,Nat.min_comm]
 ·have c:=Zmc inv hw p
  have p1:=par p;have p2:=par (aN p);have p3:=par (bN p);lia
def PC.mul {M:List (Option Nat)} {f:Nat->Int} {k:Int} (pc:PC M f) (hk:0<=k):PC M λp=>f p * k:=by
 refine ⟨λp hp=>Int.mul_nonneg (pc.nn p hp) hk,λp hp=>?_,λp q h=>?_,λp hp=>?_,λp hp=>?_⟩
 ·show f p * k=0
  rw [pc.rim p hp,Int.zero_mul]
 ·show f q * k=f p * k
  rw [pc.mate p q h]
 ·show (f p * k + f (aN p) * k + f (bN p) * k) % 2=0
  rw [<- Int.add_mul,<- Int.add_mul,Int.mul_emod,pc.even p hp,Int.zero_mul];rfl
 ·show f p * k<=f (aN p) * k + f (bN p) * k
  rw [<- Int.add_mul];exact Int.mul_le_mul_of_nonneg_right (pc.tri p hp) hk
def Nm.of {ns:List Int} (td:TD M ns) (pc:PC M f) (h:∀ x∈keys ns ns.length,∃ p,ns[p]?=some x/\g x=f p):Nm ns f g:=by
 intro p x hp;obtain ⟨q,hq,e⟩:=h x (Yk.mpr ⟨p,(Aa hp).1,hp⟩);rw [e]
 rcases td.eqv q p x hq hp with z | z
 ·rw [z]
 ·exact (pc.mate q p z).symm
theorem Fi (f:Nat->Int):∀ n,sF f n=((List.range n).map f).sum
 | 0=>rfl
 | n + 1=>by rw [List.range_succ,Aj,List.sum_append,<- Fi f n]; simp [sF]
def Kn {a b:List Int} (h:a.Perm b):a.sum=b.sum:=by
 induction h with
 | nil=>rfl
 | cons x _ ih=>simp [ih]
 | swap x y l=>simp only [List.sum_cons]; lia
 | trans _ _ h1 h2=>exact h1.trans h2
def Zef {μ ν:Nat->Nat} (h1:∀ z,z < n->μ z < n) (h3:∀ z,z < n->ν z < n) (h4:∀ z,z < n->μ (ν z)=z) (h5:∀ z,z < n->ν (μ z)=z):sF (λz=>f (μ z)) n=sF f n:=by
 rw [Fi,Fi];have p:((List.range n).map μ).Perm (List.range n):=by
  have nd:((List.range n).map μ).Nodup:=by
   rw [List.Nodup,List.pairwise_map]
   refine List.Pairwise.imp_of_mem (λ{a b} ha hb gz e=>?_) List.nodup_range
   have:=congrArg ν e
   rw [h5 a (List.mem_range.mp ha),h5 b (List.mem_range.mp hb)] at this
   exact gz this
  rw [List.perm_ext_iff_of_nodup nd List.nodup_range]
  intro x
  constructor
  ·intro hx
   obtain ⟨z,hz,rfl⟩:=List.mem_map.mp hx
   exact List.mem_range.mpr (h1 z (List.mem_range.mp hz))
  ·intro hx
   have hx:=List.mem_range.mp hx
   exact List.mem_map.mpr ⟨ν x,List.mem_range.mpr (h3 x hx),h4 x hx⟩
 have:=Kn (p.map f);rw [List.map_map] at this;exact this
theorem Zgu (f g:Nat->Int):∀ n,sF (λz=>f z + g z) n=sF f n + sF g n
 | 0=>rfl
 | n + 1=>by
  show sF (λz=>f z + g z) n + (f n + g n)=(sF f n + f n) + (sF g n + g n);rw [Zgu f g n]; lia
theorem Zb5:∀ {n},(∀ z,z < n->f z=g z)->sF f n=sF g n
 | 0,_=>rfl
 | n + 1,h=>by
  show sF f n + f n=sF g n + g n;rw [Zb5 λz hz=>h z (by lia),h n (by lia)]
theorem Zb6 {k:Int}:∀ {n:Nat},(∀ z,z < n->f z<=k)->sF f n<=n * k
 | 0,_=>by simp [sF]
 | n + 1,h=>by
  have:=Zb6 (n:=n) λz hz=>h z (by lia);have:=h n (by lia);show sF f n + f n<=((n + 1:Nat):Int) * k;rw [Int.natCast_add,Int.add_mul];simp;lia
section
variable {M:List (Option Nat)} {ns:List Int} {f:Nat->Int} {g:Int->Int}
def fst1 (M:List (Option Nat)) (f:Nat->Int) (p:Nat):Int:=match (M[p]?).join with
 | some q=>if q < p then 0 else f p
 | none=>f p
def mu (M:List (Option Nat)) (p:Nat):Nat:=match (M[p]?).join with
 | some q=>q
 | none=>p
theorem Zc1 (td:TD M ns) (nm:Nm ns f g):∀ n,n<=ns.length->((keys ns n).map g).sum=sF (fst1 M f) n
 | 0,_=>rfl
 | n + 1,h=>by
  have ih:=Zc1 td nm n (by lia);obtain ⟨x,hx⟩:∃ x,ns[n]?=some x:=⟨_,Ac (by lia)⟩;rw [Xp hx];show _=sF (fst1 M f) n + fst1 M f n;have hl:=td.len;by_cases c:x∈keys ns n
  ·rw [if_pos c,ih]
   obtain ⟨i,hi,e⟩:=Yk.mp c;have:fst1 M f n=0:=by
    unfold fst1
    rcases td.eqv n i x hx e with z | z
    ·lia
    ·rw [z]; exact if_pos hi
   lia
  ·rw [if_neg c,Aj,List.sum_append,ih]
   have:fst1 M f n=g x:=by
    rw [nm n x hx];unfold fst1
    cases e:M[n]? with
    | none=>rfl
    | some o=>cases o with
     | none=>rfl
     | some q =>
      refine if_neg λhq=>c (Yk.mpr ⟨q,hq,?_⟩);rw [td.eqm n q e]; exact hx
   simp [this]
def Zfq (h:M[p]?=some (some q)):mu M p=q:=by unfold mu; rw [h]; rfl
def On (td:TD M ns) (nm:Nm ns f g) (pc:PC M f):2 * ((keys ns ns.length).map g).sum=sF f ns.length:=by
 rw [Zc1 td nm _ (An _)];have hl:=td.len;have inv:=td.inv
 have e:sF f ns.length=sF (λz=>fst1 M f z + fst1 M f (mu M z)) ns.length:=Zb5 λz hz=>by
  cases e:M[z]? with
  | none=>rw [List.getElem?_eq_none_iff] at e; lia
  | some o=>cases o with
   | none =>
    have h0:=pc.rim z e;have h1:mu M z=z:=by unfold mu; rw [e]; rfl
    have h2:fst1 M f z=f z:=by unfold fst1; rw [e]; rfl
    rw [h1,h2,h0]; rfl
   | some q =>
    obtain ⟨hq,ne⟩:=inv z q e;have h1:=Zfq e;have h2:fst1 M f z=if q < z then 0 else f z:=by unfold fst1; rw [e]; rfl
    have h3:fst1 M f q=if z < q then 0 else f q:=by unfold fst1; rw [hq]; rfl
    have h4:=pc.mate z q e;rw [h1,h2,h3];by_cases c:q < z
    ·rw [if_pos c,if_neg (by lia),h4]; lia
    ·rw [if_neg c,if_pos (by lia)]; lia
 have lt:∀ z,z < ns.length->mu M z < ns.length:=by
  intro z hz;unfold mu
  cases e:M[z]? with
  | none=>exact hz
  | some o=>cases o with
   | none=>exact hz
   | some q=>have:=(Aa (inv z q e).1).1; show q < _; lia
 have back:∀ u,u < ns.length->mu M (mu M u)=u:=λu hu=>by
  cases e:M[u]? with
  | none=>rw [List.getElem?_eq_none_iff] at e; lia
  | some o=>cases o with
   | none =>
    have h1:mu M u=u:=by unfold mu; rw [e]; rfl
    rw [h1,h1]
   | some q=>rw [Zfq e,Zfq (inv u q e).1]
 rw [e,Zgu,Zef (f:=fst1 M f) (μ:=mu M) (ν:=mu M) lt lt back back];lia
end
def sv (f:Nat->Int) (a b:Nat):Int:=f a - bh f a b
def Zdi (M:List (Option Nat)) (ns:List Int) (f:Nat->Int):Prop:=∀ (y:Int) (p j:Nat),Mv M ns y p j->sv f p j<=0
structure BestAt (M:List (Option Nat)) (ns:List Int) (f:Nat->Int) (x:Int) (a b:Nat):Prop where
 mv:Mv M ns x a b
 pos:0 < sv f a b
 best:∀ (y:Int) (p j:Nat),Mv M ns y p j->sv f p j < sv f a b\/(sv f p j=sv f a b/\x<=y)
section
variable {M:List (Option Nat)} {ns:List Int} {f:Nat->Int} {x x':Int} {a a' b b':Nat}
def Mv.same (td:TD M ns) (h:Mv M ns x a b) (h':Mv M ns x a' b'):a'=a/\b'=b:=by
 have e:a'=a:=by
  rcases td.eqv a' a x h'.nm h.nm with z | z
  ·exact z
  ·have:=h'.hM
   rw [z] at this;cases this;have l1:=h'.lt;have l2:=h.lt;have:=(td.inv a' a z).1;rw [h.hM] at this;cases this;lia
 subst e;have:=h'.hM;rw [h.hM] at this;cases this;exact ⟨Y,Y⟩
def Zic (td:TD M ns) (pc:PC M f) (h:BestAt M ns f x a b) (left:Bool):sF (fx left a b f) M.length < sF f M.length:=by
 obtain ⟨n,_,_,hn⟩:=td.n;have hM:=h.mv.hM;have gz:=h.mv.ab;have o7:=(td.inv a b hM).1;have ha:a < M.length:=(Aa hM).1;have hb:b < M.length:=(Aa o7).1;obtain ⟨m1,m2⟩:=mv_a (left:=!left) gz;have pos:0 < f a - bh f a b:=h.pos;have em:=pc.mate a b hM;have e:sF (λz=>f (mvN (!left) a b z)) M.length=sF f M.length:=Zef (ν:=mvN left a b) (λz hz=>by rw [hn] at ha hb hz ⊢; exact Jj ha hb _ hz) (λz hz=>by rw [hn] at ha hb hz ⊢; exact Jj ha hb _ hz) (λz _=>Wk gz left z) λz _=>Va gz left z;rw [<- e];refine Zfi (p:=a) (λz _=>?_) ha ?_
 ·unfold fx
  by_cases c:z=a\/z=b
  ·rw [if_pos c]
   rcases c with rfl | rfl
   ·rw [m1]; lia
   ·rw [m2,em]; lia
  ·rw [if_neg c]; exact Int.le_refl _
 ·unfold fx
  rw [if_pos (.inl rfl),m1];lia
inductive Ease:List (Option Nat)->List Int->(Nat->Int)->List (Int × Bool)->Prop
 | nil {M:List (Option Nat)} {ns:List Int} {f:Nat->Int}:Zdi M ns f->Ease M ns f []
 | cons {M:List (Option Nat)} {ns:List Int} {f:Nat->Int} {x:Int} {a b:Nat} {r:List (Int × Bool)}:TD M ns->BestAt M ns f x a b->Ease (exM true a b M) (exN true a b ns) (fx true a b f) r->Ease M ns f ((x,true) :: r)
end
section
variable {M:List (Option Nat)}
open Classical in
noncomputable def fanF (M:List (Option Nat)) (c:Nat):List Nat × Bool:=if h:∃ q:List Nat × Bool,FanEnd M c q.1 q.2 then h.choose else ([],false)
end
section
variable {M:List (Option Nat)}
noncomputable def fanL (M:List (Option Nat)) (c:Nat):List Nat:=(fanF M c).1
def mn (l:List Nat):Nat:=l.min?.getD 0
noncomputable def key (M:List (Option Nat)) (c:Nat):Int:=(mn (fanL M c):Nat)
end
def it (f:Nat->Nat):Nat->Nat->Nat
 | 0,x=>x
 | k + 1,x=>f (it f k x)
theorem Gx (f:Nat->Nat) (j x:Nat):∀ k,it f (k + j) x=it f k (it f j x)
 | 0=>by rw [Nat.zero_add]; rfl
 | k + 1=>by rw [Nat.add_right_comm]; show f _=f _; rw [Gx f j x k]
def orb (D:Nat->Prop) (f:Nat->Nat) (x y:Nat):Prop:=D x/\∃ k,it f k x=y
section
variable {M:List (Option Nat)} {P:List Nat} {n:Nat}
def mtQ (M:List (Option Nat)) (p:Nat):Nat:=(M.getD p none).getD 0
def Zcv (h:M[x]?=some (some y)):mtQ M x=y:=by unfold mtQ; rw [Ad,h]; rfl
end
def nN (f:Nat->Int) (p:Nat):Nat:=(f p).toNat
def sgP (M:List (Option Nat)) (f:Nat->Int) (c:Nat):Nat:=1000 * mtQ M (c / 1000) + (nN f (c / 1000) - 1 - c % 1000)
def tuP (f:Nat->Int) (c:Nat):Nat:=if ((c % 1000:Nat):Int) < (f (bN (c / 1000)) + f (c / 1000) - f (aN (c / 1000))) / 2 then 1000 * bN (c / 1000) + (nN f (bN (c / 1000)) - 1 - c % 1000) else 1000 * aN (c / 1000) + (nN f (c / 1000) - 1 - c % 1000)
def nxP (M:List (Option Nat)) (f:Nat->Int) (c:Nat):Nat:=tuP f (sgP M f c)
def VpP (M:List (Option Nat)) (f:Nat->Int) (c:Nat):Prop:=c / 1000 < M.length/\c % 1000 < nN f (c / 1000)
structure Fam (M:List (Option Nat)) (f:Nat->Int) (n:Nat):Prop where
 pc:PC M f
 inv:InvM M
 hn:M.length=3 * n
 le:∀ p,p < M.length->f p<=900
def Xq {p s:Nat} (h:s < 1000):(1000 * p + s) / 1000=p/\(1000 * p + s) % 1000=s:=by omega
section
variable {M:List (Option Nat)} {f:Nat->Int} {n:Nat}
def Fam.nf (h:Fam M f n) (hp:p < M.length):((nN f p:Nat):Int)=f p/\nN f p<=900:=by
 have h1:=h.pc.nn p hp;have h2:=h.le p hp;unfold nN;omega
def Fam.sg (h:Fam M f n) (v:VpP M f c):∃ q,M[c / 1000]?=some (some q)/\sgP M f c=1000 * q + (nN f (c / 1000) - 1 - c % 1000)/\VpP M f (sgP M f c)/\sgP M f (sgP M f c)=c/\(sgP M f c) / 1000=q/\q≠c / 1000:=by
 obtain ⟨v1,v2⟩:=v;obtain ⟨f1,f2⟩:=h.nf v1;obtain ⟨o,ho⟩:∃ o,M[c / 1000]?=some o:=⟨_,Ac v1⟩
 cases o with
 | none=>have:=h.pc.rim _ ho; omega
 | some q =>
  obtain ⟨i1,i2⟩:=h.inv _ _ ho;have hq:q < M.length:=(Aa i1).1;have e:sgP M f c=1000 * q + (nN f (c / 1000) - 1 - c % 1000):=by unfold sgP; rw [Zcv ho]
  have eN:nN f q=nN f (c / 1000):=by unfold nN; rw [h.pc.mate _ _ ho]
  have d:=Xq (p:=q) (s:=nN f (c / 1000) - 1 - c % 1000) (by omega);refine ⟨q,ho,e,?_,?_,by rw [e]; exact d.1,λz=>i2 z.symm⟩
  ·unfold VpP
   rw [e,d.1,d.2,eN];exact ⟨hq,by omega⟩
  ·rw [e]
   unfold sgP;rw [d.1,d.2,Zcv i1,eN];omega
def Fam.sg_ne (h:Fam M f n) (v:VpP M f c):sgP M f c≠c:=λz=>by
 obtain ⟨q,_,_,_,_,h5,h6⟩:=h.sg v;rw [z] at h5;exact h6 h5.symm
def Fam.tu (h:Fam M f n) (v:VpP M f c):VpP M f (tuP f c)/\tuP f (tuP f c)=c/\(tuP f c) / 1000 / 3=c / 1000 / 3/\(tuP f c) / 1000≠c / 1000:=by
 obtain ⟨v1,v2⟩:=v;generalize hp:c / 1000=p at *;generalize hs:c % 1000=e at *;have ec:c=1000 * p + e:=by omega
 obtain ⟨d1,d2,d3,d4,d5,d6,d7,d8,d9⟩:=Xt p;have ha:aN p < M.length:=by have:=h.hn; omega
 have hb:bN p < M.length:=by have:=h.hn; omega
 obtain ⟨f1,f2⟩:=h.nf v1;obtain ⟨f3,f4⟩:=h.nf ha;obtain ⟨f5,f6⟩:=h.nf hb;have ev:=h.pc.even p v1;have t1:=h.pc.tri p v1;have t2:=h.pc.tri _ ha;have t3:=h.pc.tri _ hb;rw [d3,d4] at t2;rw [d5,d6] at t3;by_cases c1:(e:Int) < (f (bN p) + f p - f (aN p)) / 2
 ·have e1:tuP f c=1000 * bN p + (nN f (bN p) - 1 - e):=by unfold tuP; rw [hp,hs,if_pos c1]
  have dd:=Xq (p:=bN p) (s:=nN f (bN p) - 1 - e) (by omega);refine ⟨?_,?_,?_,?_⟩
  ·unfold VpP; rw [e1,dd.1,dd.2]; exact ⟨hb,by omega⟩
  ·rw [e1]
   unfold tuP;rw [dd.1,dd.2,d5,d6,if_neg (by omega)];omega
  ·rw [e1,dd.1]; exact d2
  ·rw [e1,dd.1]; exact d8
 ·have e1:tuP f c=1000 * aN p + (nN f p - 1 - e):=by unfold tuP; rw [hp,hs,if_neg c1]
  have dd:=Xq (p:=aN p) (s:=nN f p - 1 - e) (by omega);refine ⟨?_,?_,?_,?_⟩
  ·unfold VpP; rw [e1,dd.1,dd.2]; exact ⟨ha,by omega⟩
  ·rw [e1]
   unfold tuP;rw [dd.1,dd.2,d3,d4,if_pos (by omega)];omega
  ·rw [e1,dd.1]; exact d1
  ·rw [e1,dd.1]; exact d7
def Fam.tu_ne (h:Fam M f n) (v:VpP M f c):tuP f c≠c:=λz=>(h.tu v).2.2.2 (by rw [z])
def Fam.nx (h:Fam M f n) {c:Nat} (v:VpP M f c):VpP M f (nxP M f c):=(h.tu (h.sg v).choose_spec.2.2.1).1
def Fam.sgV (h:Fam M f n) (v:VpP M f c):VpP M f (sgP M f c):=(h.sg v).choose_spec.2.2.1
def Fam.sgsg (h:Fam M f n) (v:VpP M f c):sgP M f (sgP M f c)=c:=(h.sg v).choose_spec.2.2.2.1
def Fam.nx_inj (h:Fam M f n) (v:VpP M f c) (v':VpP M f d) (e:nxP M f c=nxP M f d):c=d:=by
 have e1:=congrArg (tuP f) e;unfold nxP at e1;rw [(h.tu (h.sgV v)).2.1,(h.tu (h.sgV v')).2.1] at e1;have e2:=congrArg (sgP M f) e1;rwa [h.sgsg v,h.sgsg v'] at e2
theorem Fam.itV (h:Fam M f n) (v:VpP M f c):∀ k,VpP M f (it (nxP M f) k c)
 | 0=>v
 | k + 1=>h.nx (h.itV v k)
theorem Fam.it_inj (h:Fam M f n):∀ (k:Nat) {c d:Nat},VpP M f c->VpP M f d->it (nxP M f) k c=it (nxP M f) k d->c=d
 | 0,_,_,_,_,e=>e
 | k + 1,_,_,v,v',e=>h.it_inj k v v' (h.nx_inj (h.itV v k) (h.itV v' k) e)
theorem Zc2 (g:Nat->Nat) (x:Nat):∀ k,it g (k + 1) x=it g k (g x)
 | 0=>rfl
 | k + 1=>congrArg g (Zc2 g x k)
theorem Fam.turn (h:Fam M f n) {z:Nat} (v:VpP M f z):∀ k,it (nxP M f) k (sgP M f (it (nxP M f) k z))=sgP M f z
 | 0=>rfl
 | k + 1=>by
  rw [Zc2];have w:=h.itV v k;have e:nxP M f (sgP M f (it (nxP M f) (k + 1) z))=sgP M f (it (nxP M f) k z):=by
   show tuP f (sgP M f (sgP M f (nxP M f (it (nxP M f) k z))))=_
   rw [h.sgsg (h.nx w)]
   exact (h.tu (h.sgV w)).2.1
  rw [e];exact h.turn v k
def Fam.apart (h:Fam M f n) (v:VpP M f z) (m:Nat):sgP M f z≠it (nxP M f) m z:=λe=>by
 obtain ⟨i,hi | hi⟩:∃ i,m=i + i\/m=i + 1 + i:=⟨m / 2,by omega⟩
 ·subst hi
  have w:=h.itV v i;rw [Gx,<- h.turn v i] at e;exact h.sg_ne w (h.it_inj i (h.sgV w) w e)
 ·subst hi
  have w:=h.itV v i;have e2:it (nxP M f) (i + 1 + i) z=it (nxP M f) i (nxP M f (it (nxP M f) i z)):=by
   rw [Gx,Zc2]
  rw [e2,<- h.turn v i] at e;have:=h.it_inj i (h.sgV w) (h.nx w) e;exact h.tu_ne (h.sgV w) this.symm
def RnP (M:List (Option Nat)) (f:Nat->Int) (c d:Nat):Prop:=VpP M f c/\nxP M f c=d
def Fam.rinj (h:Fam M f n):∀ a b x,RnP M f a x->RnP M f b x->a=b:=λa b x h1 h2=>h.nx_inj h1.1 h2.1 (h1.2.trans h2.2.symm)
def rfn:∀ a x y,RnP M f a x->RnP M f a y->x=y:=λa x y h1 h2=>h1.2.symm.trans h2.2
theorem Qv {os:List Nat} (o:Orb (RnP M f) c os):∀ i x,os[i]?=some x->x=it (nxP M f) i c
 | 0,x,hx=>by rw [o.head] at hx; cases hx; rfl
 | i + 1,x,hx=>by
  have hi:i < os.length:=by have:=(Aa hx).1; omega
  have e:=Ac hi;have r:=o.chain i _ x e hx;rw [<- r.2,Qv o i _ e];rfl
def Fam.orbV (h:Fam M f n) {c:Nat} (v:VpP M f c) {os:List Nat} (o:Orb (RnP M f) c os):∀ x∈os,VpP M f x:=λx hx=>by
 obtain ⟨i,hi,e⟩:=List.mem_iff_getElem.mp hx;rw [Qv o i x (by rw [Ac hi,e])];exact h.itV v i
def ptsL (f:Nat->Int):Nat->List Nat
 | 0=>[]
 | p + 1=>ptsL f p ++ (List.range (nN f p)).map λs=>1000 * p + s
theorem Zca (m5:∀ p,nN f p<=900\/True):∀ {m c:Nat},(∀ p,p < m->nN f p<=900)->(c∈ptsL f m ↔ c / 1000 < m/\c % 1000 < nN f (c / 1000))
 | 0,c,_=>by simp [ptsL]
 | m + 1,c,hl=>by
  unfold ptsL;rw [List.mem_append,Zca m5 (λp hp=>hl p (by omega)),List.mem_map];have:=hl m (Nat.lt_succ_self _);constructor
  ·rintro (⟨h1,h2⟩ | ⟨s,hs,rfl⟩)
   ·exact ⟨by omega,h2⟩
   ·have:=List.mem_range.mp hs
    have d:=Xq (p:=m) (s:=s) (by omega);rw [d.1,d.2];exact ⟨by omega,this⟩
  ·rintro ⟨h1,h2⟩
   by_cases z:c / 1000=m
   ·exact .inr ⟨c % 1000,List.mem_range.mpr (by rw [<- z]; exact h2),by omega⟩
   ·exact .inl ⟨by omega,h2⟩
def Fam.pts_mem (h:Fam M f n):c∈ptsL f M.length ↔ VpP M f c:=Zca (λ_=>.inr trivial) λp hp=>(h.nf hp).2
theorem Vw (f:Nat->Int):∀ m,(∀ p,p < m->0<=f p)->((ptsL f m).length:Int)=sF f m
 | 0,_=>rfl
 | m + 1,hl=>by
  unfold ptsL;rw [Ae,Ab,List.length_range];have:=Vw f m λp hp=>hl p (by omega);have h0:=hl m (Nat.lt_succ_self _);show ((_ + nN f m:Nat):Int)=sF f (m + 1);unfold nN sF;omega
theorem Gr:∀ (l k:List Nat),l.Nodup->(∀ x∈l,x∈k)->l.length<=k.length
 | [],_,_,_=>Az _
 | x :: l,k,nd,h=>by
  obtain ⟨n1,n2⟩:=List.nodup_cons.mp nd;have hx:=h x List.mem_cons_self;have:=Gr l (k.erase x) n2 λy hy=>(List.mem_erase_of_ne (λz=>n1 (by rw [<- z]; exact hy))).mpr (h y (List.mem_cons_of_mem _ hy));rw [List.length_erase_of_mem hx] at this;have:=List.length_pos_of_mem hx;rw [List.length_cons];omega
def Fam.few (h:Fam M f n) (hs:sF f M.length<=1200) {l:List Nat} (nd:l.Nodup) (hv:∀ c∈l,VpP M f c):l.length<=1200:=by
 have h1:=Gr l (ptsL f M.length) nd λc hc=>h.pts_mem.mpr (hv c hc);have h2:=Vw f M.length h.pc.nn;omega
theorem Fam.orb_go (h:Fam M f n) (hs:sF f M.length<=1200):∀ (k c:Nat) (os:List Nat),VpP M f c->Orb (RnP M f) c os->1200 - os.length<=k->∃ ds,OrbEnd (RnP M f) c ds
 | k,c,os,v,o,hk=>by
  have mq:=o.pos;obtain ⟨l,hl⟩:∃ l,os[os.length - 1]?=some l:=⟨_,Ac (by omega)⟩;have vl:=h.orbV v o l (Au hl);have r:RnP M f l (nxP M f l):=⟨vl,rfl⟩;by_cases e:nxP M f l=c
  ·exact ⟨os,o,l,hl,e ▸ r⟩
  ·have o2:=o.snoc hl r (o.new h.rinj hl r e)
   have:=h.few hs o2.nodup (h.orbV v o2);rw [Ae,At] at this
   cases k with
   | zero=>omega
   | succ k=>exact h.orb_go hs k c _ v o2 (by rw [Ae,At]; omega)
def Fam.orb_ex (h:Fam M f n) (hs:sF f M.length<=1200) (v:VpP M f c):∃ os,OrbEnd (RnP M f) c os:=h.orb_go hs _ c [c] v (Orb.one c) (An _)
open Classical in
noncomputable def iz (M:List (Option Nat)) (f:Nat->Int) (c:Nat):List Nat:=if h:∃ os,OrbEnd (RnP M f) c os then h.choose else []
def O0 {c:Nat} {os:List Nat} (o:OrbEnd (RnP M f) c os):iz M f c=os:=by
 have hx:∃ os,OrbEnd (RnP M f) c os:=⟨os,o⟩;unfold iz;rw [dif_pos hx];exact OrbEnd.same rfn hx.choose_spec o
def Fam.orb (h:Fam M f n) (hs:sF f M.length<=1200) (v:VpP M f c):OrbEnd (RnP M f) c (iz M f c):=by
 obtain ⟨os,o⟩:=h.orb_ex hs v;rw [O0 o];exact o
def inS (M:List (Option Nat)) (f:Nat->Int) (D:List Nat) (c:Nat):Prop:=∃ d∈D,c∈iz M f d\/sgP M f c∈iz M f d
def Znh {c a b:Nat} {os:List Nat} (o:OrbEnd (RnP M f) c os) (ha:a∈os) (r:RnP M f a b):b∈os:=by
 obtain ⟨i,hi,e⟩:=List.mem_iff_getElem.mp ha;have e':os[i]?=some a:=by rw [Ac hi,e]
 by_cases z:i + 1 < os.length
 ·have e2:=Ac z
  rw [rfn _ _ _ r (o.chain i a _ e' e2)];exact List.getElem_mem z
 ·obtain ⟨l,hl,rl⟩:=o.last
  rw [show os.length - 1=i by omega,e'] at hl;cases hl;rw [rfn _ _ _ r rl];exact Au o.head
def Fam.back (h:Fam M f n) (hs:sF f M.length<=1200) (hD:∀ d∈D,VpP M f d) (v:VpP M f c) (hi:inS M f D (nxP M f c)):inS M f D c:=by
 obtain ⟨d,hd,z | z⟩:=hi
 ·exact ⟨d,hd,.inl ((h.orb hs (hD d hd)).before h.rinj z ⟨v,Y⟩)⟩
 ·refine ⟨d,hd,.inr ?_⟩
  have e:nxP M f (sgP M f (nxP M f c))=sgP M f c:=by
   have:=h.turn v 1;exact this
  have:=Znh (h.orb hs (hD d hd)) z ⟨h.sgV (h.nx v),rfl⟩;rwa [e] at this
noncomputable def gT (M:List (Option Nat)) (f:Nat->Int):List Nat->List Nat->List Nat
 | [],D=>D
 | c :: r,D=>gT M f r (@ite _ (inS M f D c) (Classical.propDecidable _) D (D ++ [c]))
theorem Ft (c:Nat):∀ (l D:List Nat),gT M f (l ++ [c]) D=@ite _ (inS M f (gT M f l D) c) (Classical.propDecidable _) (gT M f l D) (gT M f l D ++ [c])
 | [],D=>rfl
 | x :: l,D=>Ft c l _
def Znx (h:inS M f (gT M f l []) c):gT M f (l ++ [c]) []=gT M f l []:=by rw [Ft,if_pos h]
def Zo1 (h:¬ inS M f (gT M f l []) c):gT M f (l ++ [c]) []=gT M f l [] ++ [c]:=by rw [Ft,if_neg h]
noncomputable def wdP (M:List (Option Nat)) (f:Nat->Int) (c:Nat):List Nat:=(iz M f c).map (· / 1000)
def Fam.plain (h:Fam M f n) (v:VpP M f c) {os:List Nat} (o:OrbEnd (RnP M f) c os):Pl M (os.map (· / 1000)):=by
 have hp:=o.pos;refine ⟨λz=>?_,λp hpm=>?_,λk a p ha zf m hm=>?_⟩
 ·rw [List.map_eq_nil_iff] at z; rw [z] at hp; simp at hp
 ·obtain ⟨x,hx,rfl⟩:=List.mem_map.mp hpm
  obtain ⟨q,e,_⟩:=h.sg (h.orbV v o.toOrb x hx);exact ⟨q,e⟩
 ·rw [Ab,Ah] at zf
  rw [Ah] at ha;obtain ⟨x,ex,rfl⟩:=Option.map_eq_some_iff.mp ha;obtain ⟨y,ey,rfl⟩:=Option.map_eq_some_iff.mp zf;have vx:=h.orbV v o.toOrb x (Au ex)
  have r:RnP M f x y:=by
   have hk:=(Aa ex).1;by_cases z:k + 1 < os.length
   ·rw [Nat.mod_eq_of_lt z] at ey
    exact o.chain k x y ex ey
   ·rw [show k + 1=os.length by omega,Nat.mod_self,o.head] at ey
    cases ey;obtain ⟨l,hl,rl⟩:=o.last;rw [show os.length - 1=k by omega,ex] at hl;cases hl;exact rl
  obtain ⟨q,e1,_,v2,_,e5,_⟩:=h.sg vx;rw [hm] at e1;cases e1;obtain ⟨_,_,t3,t4⟩:=h.tu v2;rw [e5] at t3 t4;rw [<- r.2];exact ⟨t3,t4⟩
end
end KT
namespace L2
open PySem PySem.SetTable
def s5:Nat->Nat
 | 0=>0
 | n + 1=>5 * s5 n + 1
theorem Gf:∀ n,4 * s5 n + 1=5 ^ n
 | 0=>rfl
 | n + 1=>by rw [Nat.pow_succ,<- Gf n]; show 4 * (5 * s5 n + 1) + 1=_; lia
def Zm3 (n:Nat):s5 (2 * n)=s5 n * (5 ^ n + 1):=by
 have h1:=Gf (2 * n);have h2:=Gf n;have e:5 ^ (2 * n)=5 ^ n * 5 ^ n:=by rw [Nat.two_mul,Nat.pow_add]
 have:4 * s5 (2 * n)=4 * (s5 n * (5 ^ n + 1)):=by
  have a1:4 * s5 (2 * n) + 1=5 ^ n * 5 ^ n:=by rw [h1,e]
  have a2:4 * (s5 n * (5 ^ n + 1)) + 1=5 ^ n * 5 ^ n:=by
   rw [<- h2];generalize s5 n=x;rw [Nat.add_assoc (4 * x) 1 1];simp only [Nat.mul_add,Nat.add_mul,Nat.mul_one,Nat.one_mul];have:4 * x * (4 * x)=4 * (x * (4 * x)):=Nat.mul_assoc _ _ _;lia
  lia
 lia
theorem Zgv:∀ n,s5 n % 2=n % 2
 | 0=>rfl
 | n + 1=>by have:=Zgv n; show (5 * s5 n + 1) % 2=_; lia
theorem Oq:∀ n,5 ^ n % 4=1
 | 0=>rfl
 | n + 1=>by have:=Oq n; rw [Nat.pow_succ]; lia
def Fr {k x y:Nat} (hy:y % 2=1) (h:2 ^ k ∣ x * y):2 ^ k ∣ x:=by
 have c:Nat.Coprime (2 ^ k) y:=by
  apply Nat.Coprime.pow_left;rw [Nat.coprime_iff_gcd_eq_one,Nat.gcd_rec,hy];rfl
 exact c.dvd_of_dvd_mul_right h
theorem Zgw:∀ (k n:Nat),2 ^ k ∣ s5 n->2 ^ k ∣ n
 | 0,n,_=>by rw [Nat.pow_zero]; exact Nat.one_dvd n
 | k + 1,n,h=>by
  have h2:2 ∣ s5 n:=Nat.dvd_trans ⟨2 ^ k,by rw [Nat.pow_succ,Nat.mul_comm]⟩ h;have ho:=Zgv n;obtain ⟨m,rfl⟩:∃ m,n=2 * m:=⟨n / 2,by lia⟩;rw [Zm3] at h;have f:=Oq m;obtain ⟨q,hq⟩:∃ q,5 ^ m + 1=2 * q:=⟨(5 ^ m + 1) / 2,by lia⟩;have wk:q % 2=1:=by lia
  rw [hq,Nat.pow_succ,<- Nat.mul_assoc,Nat.mul_right_comm,Nat.mul_comm _ 2,Nat.mul_comm (s5 m * q) 2] at h;have h:=Nat.dvd_of_mul_dvd_mul_left (by decide) h;rw [Nat.pow_succ,Nat.mul_comm];exact Nat.mul_dvd_mul_left 2 (Zgw k m (Fr wk h))
def lq (N:Nat):Nat->Nat->Nat
 | 0,x=>x
 | n + 1,x=>(lq N n x * 5 + 1) % N
theorem Zcz (N x:Nat):∀ n,lq N n x % N=(5 ^ n * x + s5 n) % N
 | 0=>by show x % N=(1 * x + 0) % N; simp
 | n + 1=>by
  have ih:=Zcz N x n;show (lq N n x * 5 + 1) % N % N=(5 ^ (n + 1) * x + (5 * s5 n + 1)) % N;rw [Nat.mod_mod,Nat.pow_succ,Nat.add_mod,Nat.mul_mod,ih,<- Nat.mul_mod,<- Nat.add_mod];congr 1;rw [Nat.add_mul,Nat.mul_right_comm,Nat.mul_comm (s5 n) 5];lia
theorem Zgx (m:Nat):∀ n,s5 (n + m)=5 ^ n * s5 m + s5 n
 | 0=>by simp [s5]
 | n + 1=>by
  rw [Nat.add_right_comm];show 5 * s5 (n + m) + 1=5 ^ (n + 1) * s5 m + (5 * s5 n + 1);rw [Zgx m n,Nat.pow_succ,Nat.mul_add,<- Nat.mul_assoc,Nat.mul_comm 5 (5 ^ n)];lia
def Znq {k:Nat} (zi:i < j) (hj:j < 2 ^ k):lq (2 ^ k) i x % 2 ^ k≠lq (2 ^ k) j x % 2 ^ k:=λe=>by
 rw [Zcz,Zcz] at e;obtain ⟨d,rfl⟩:∃ d,j=i + d:=⟨j - i,by lia⟩;have e1:5 ^ (i + d) * x + s5 (i + d)=(5 ^ i * x + s5 i) + 5 ^ i * (s5 d * (4 * x + 1)):=by
  rw [Zgx,Nat.pow_add,<- Gf d]
  generalize 5 ^ i=u
  generalize s5 d=v
  simp only [Nat.mul_add,Nat.add_mul,Nat.mul_one,Nat.one_mul]
  have:u * (4 * v) * x=u * (v * (4 * x)):=by
   rw [Nat.mul_assoc,Nat.mul_comm 4 v,Nat.mul_assoc v 4 x]
  lia
 have dv:2 ^ k ∣ 5 ^ i * (s5 d * (4 * x + 1)):=by
  have:(5 ^ i * x + s5 i) % 2 ^ k=((5 ^ i * x + s5 i) + 5 ^ i * (s5 d * (4 * x + 1))) % 2 ^ k:=by rw [<- e1]; exact e
  have:=Nat.sub_mod_eq_zero_of_mod_eq this.symm;rw [Nat.add_sub_cancel_left] at this;exact Nat.dvd_of_mod_eq_zero this
 have o1:5 ^ i % 2=1:=by have:=Oq i; lia
 rw [Nat.mul_comm] at dv;have dv:=Fr o1 dv;have dv:=Fr (show (4 * x + 1) % 2=1 by lia) dv;have:=Nat.le_of_dvd (by lia) (Zgw k d dv);lia
theorem Fs:∀ (n:Nat) (l:List Nat),l.Nodup->(∀ a∈l,a < n)->l.length<=n
 | 0,l,_,h=>by
  cases l with
  | nil=>exact An _
  | cons a r=>exact absurd (h a List.mem_cons_self) (Nat.not_lt_zero _)
 | n + 1,l,hd,h=>by
  have ih:=Fs n (l.erase n) (hd.erase n) λa ha=>by
   have:=(List.Nodup.mem_erase_iff hd).mp ha;have:=h a this.2;lia
  by_cases z:n∈l
  ·have:=List.length_erase_of_mem z
   lia
  ·rw [List.erase_of_not_mem z] at ih
   lia
def Znr {k y:Nat} (hy:y < 2 ^ k):∃ n,n < 2 ^ k/\lq (2 ^ k) n x % 2 ^ k=y:=by
 refine Classical.byContradiction λno=>?_;have pos:0 < 2 ^ k:=Nat.two_pow_pos k;have nd:(y :: (List.range (2 ^ k)).map λn=>lq (2 ^ k) n x % 2 ^ k).Nodup:=by
  refine List.nodup_cons.mpr ⟨λz=>?_,?_⟩
  ·obtain ⟨n,hn,e⟩:=List.mem_map.mp z
   exact no ⟨n,List.mem_range.mp hn,e⟩
  ·refine List.pairwise_map.mpr (List.Pairwise.imp_of_mem (λ{a b} ha hb h=>Znq h (List.mem_range.mp hb)) List.pairwise_lt_range)
 have:=Fs (2 ^ k) _ nd λa ha=>by
  rcases Ar ha with rfl | ha
  ·exact hy
  ·obtain ⟨n,_,rfl⟩:=List.mem_map.mp ha
   exact Nat.mod_lt _ pos
 rw [List.length_cons,Ab,List.length_range] at this;lia
def lp (m:Nat) (h:Int):Nat->Nat × Nat
 | 0=>(bits h % (m + 1),bits h)
 | n + 1=>leap m (lp m h n).1 (lp m h n).2
theorem Zfu (m:Nat) (h:Int):∀ n,(lp m h n).1<=m
 | 0=>Nat.le_of_lt_succ (Nat.mod_lt _ (Nat.succ_pos m))
 | n + 1=>Nat.le_of_lt_succ (Nat.mod_lt _ (Nat.succ_pos m))
def Zmg (h:Int):bits h < 2 ^ 64:=by
 unfold bits;have h1:=Int.emod_nonneg h (show (2 ^ 64:Int)≠0 by decide);have h2:=Int.emod_lt_of_pos h (show (0:Int) < 2 ^ 64 by decide);lia
theorem Zhx (m:Nat) (h:Int):∀ n,(lp m h n).2 * 32 ^ n<=bits h
 | 0=>by show bits h * 1<=_; lia
 | n + 1=>by
  have ih:=Zhx m h n;show (lp m h n).2 / 32 * 32 ^ (n + 1)<=bits h;have:(lp m h n).2 / 32 * 32<=(lp m h n).2:=Nat.div_mul_le_self _ _
  calc (lp m h n).2 / 32 * 32 ^ (n + 1)=((lp m h n).2 / 32 * 32) * 32 ^ n:=by rw [Nat.pow_succ,Nat.mul_assoc,Nat.mul_comm 32]
   _<=(lp m h n).2 * 32 ^ n:=Nat.mul_le_mul_right _ this
   _<=bits h:=ih
def Zlz (m:Nat) (h:Int) (n:Nat):(lp m h (13 + n)).2=0:=by
 have h1:=Zhx m h 13;have h2:=Zmg h;have h3:(lp m h 13).2=0:=by
  rcases Nat.eq_zero_or_pos (lp m h 13).2 with z | z
  ·exact z
  ·have:1 * 32 ^ 13<=(lp m h 13).2 * 32 ^ 13:=Nat.mul_le_mul_right _ z
   have e:(32:Nat) ^ 13=36893488147419103232:=by decide +kernel
   have e2:(2:Nat) ^ 64=18446744073709551616:=by decide +kernel
   lia
 induction n with
 | zero=>exact h3
 | succ n ih=>show (lp m h (13 + n)).2 / 32=0; rw [ih]
theorem Zkl (m:Nat) (h:Int):∀ n,(lp m h (13 + n)).1=lq (m + 1) n (lp m h 13).1
 | 0=>rfl
 | n + 1=>by
  show ((lp m h (13 + n)).1 * 5 + 1 + (lp m h (13 + n)).2 / 32) % (m + 1)=(lq (m + 1) n (lp m h 13).1 * 5 + 1) % (m + 1);rw [Zlz,Zkl m h n]
def Zhy {k:Nat} (hm:m + 1=2 ^ k) (h:Int) {y:Nat} (hy:y<=m):∃ n,n<=m + 13/\(lp m h n).1=y:=by
 obtain ⟨n,h1,h2⟩:=Znr (k:=k) (x:=(lp m h 13).1) (y:=y) (by lia);refine ⟨13 + n,by lia,?_⟩;have e:=Zkl m h n;have hl:=Zfu m h (13 + n);rw [hm] at e;rw [<- h2,<- e,Nat.mod_eq_of_lt (by lia)]
def advM (m:Nat) (p:Probe):Probe :=
 if p.more > 0 then { p with j:=p.j + 1,more:=p.more - 1 } else
 { p with j:=(leap m p.i p.perturb).1,more:=runEnd m (leap m p.i p.perturb).1 - (leap m p.i p.perturb).1,i:=(leap m p.i p.perturb).1,perturb:=(leap m p.i p.perturb).2 }
def Ziq (t:SetTable) (p:Probe):t.advance p=advM t.mask p:=by unfold advance advM; split <;> rfl
def stM (m:Nat) (h:Int):Probe:={ j:=bits h % (m + 1),more:=runEnd m (bits h % (m + 1)) - bits h % (m + 1),i:=bits h % (m + 1),perturb:=bits h,dummy:=none }
def pth (m:Nat) (h:Int):Nat->Probe
 | 0=>stM m h
 | n + 1=>advM m (pth m h n)
def runL (m i:Nat):Nat:=runEnd m i - i
def Zm4 (m i:Nat):runL m i<=9:=by unfold runL runEnd; split <;> lia
def Zgy (h:i<=m):i + runL m i<=m:=by unfold runL runEnd; split <;> lia
def ix (m:Nat) (h:Int):Nat->Nat
 | 0=>0
 | n + 1=>ix m h n + runL m (lp m h n).1 + 1
theorem Zko (m:Nat) (h:Int):∀ n,ix m h n<=10 * n
 | 0=>An _
 | n + 1=>by have:=Zko m h n; have:=Zm4 m (lp m h n).1; show ix m h n + _ + 1<=_; lia
theorem Jq (m:Nat) (h:Int):∀ n r,r<=runL m (lp m h n).1->pth m h (ix m h n + r)={ j:=(lp m h n).1 + r,more:=runL m (lp m h n).1 - r,i:=(lp m h n).1,perturb:=(lp m h n).2,dummy:=none }
 | 0,0,_=>rfl
 | n + 1,0,_=>by
  have e:=Jq m h n (runL m (lp m h n).1) (An _);show pth m h (ix m h n + runL m (lp m h n).1 + 1)=_;show advM m (pth m h (ix m h n + runL m (lp m h n).1))=_;rw [e];unfold advM;rw [if_neg (by show ¬ runL m (lp m h n).1 - runL m (lp m h n).1 > 0; lia)];rfl
 | n,r + 1,hr=>by
  have e:=Jq m h n r (by lia);show advM m (pth m h (ix m h n + r))=_;rw [e];unfold advM;rw [if_pos (by show runL m (lp m h n).1 - r > 0; lia)];show Probe.mk _ _ _ _ _=_;congr 1
theorem Zcb (m:Nat) (h:Int):∀ n,∃ L r,n=ix m h L + r/\r<=runL m (lp m h L).1
 | 0=>⟨0,0,rfl,Az _⟩
 | n + 1=>by
  obtain ⟨L,r,rfl,hr⟩:=Zcb m h n;by_cases z:r < runL m (lp m h L).1
  ·exact ⟨L,r + 1,Y,z⟩
  ·exact ⟨L + 1,0,by show _=ix m h L + runL m (lp m h L).1 + 1 + 0; lia,Az _⟩
def Za0 (m:Nat) (h:Int) (n:Nat):(pth m h n).j<=m/\(pth m h n).dummy=none:=by
 obtain ⟨L,r,rfl,hr⟩:=Zcb m h n;rw [Jq m h L r hr];exact ⟨by have:=Zgy (Zfu m h L); show (lp m h L).1 + r<=m; lia,rfl⟩
def Za7 {k:Nat} (hm:m + 1=2 ^ k) (h:Int) {O:Nat->Prop} (hy:y<=m) (ho:¬ O y):∃ N,N < 10 * turns m/\¬ O (pth m h N).j/\∀ n,n < N->O (pth m h n).j:=by
 obtain ⟨L,h1,h2⟩:=Zhy hm h hy;have e:=Jq m h L 0 (Az _);have f:¬ O (pth m h (ix m h L)).j:=by rw [show ix m h L=ix m h L + 0 from rfl,e]; show ¬ O ((lp m h L).1 + 0); rw [h2]; exact ho
 have:∀ a,¬ O (pth m h a).j->∃ N,N<=a/\¬ O (pth m h N).j/\∀ n,n < N->O (pth m h n).j:=λa=>by
  induction a using Nat.strongRecOn with
  | ind a ih =>
   intro ha;by_cases c:∃ b,b < a/\¬ O (pth m h b).j
   ·obtain ⟨b,b1,b2⟩:=c
    obtain ⟨N,n1,n2⟩:=ih b b1 b2;exact ⟨N,by lia,n2⟩
   ·exact ⟨a,An _,ha,λn hn=>Classical.byContradiction λz=>c ⟨n,hn,z⟩⟩
 obtain ⟨N,n1,n2⟩:=this _ f;refine ⟨N,?_,n2⟩;have:=Zko m h L;unfold turns;lia
theorem Ot {ps:List Nat} (hp:ps.Pairwise (· < ·)) (j:Nat):∀ (gv lo hi:Nat),hi - lo<=gv->lo<=hi->hi<=ps.length->(∀ i x,i < lo->ps[i]?=some x->x < j)->(∀ i x,hi<=i->ps[i]?=some x->j<=x) ->
  below.go ps.toArray j gv lo hi<=ps.length/\(∀ i x,i < below.go ps.toArray j gv lo hi->ps[i]?=some x->x < j)/\(∀ i x,below.go ps.toArray j gv lo hi<=i->ps[i]?=some x->j<=x)
 | 0,lo,hi,hf,hl,hh,h1,h2=>by
  have:lo=hi:=by lia
  subst this;exact ⟨hh,h1,h2⟩
 | gv + 1,lo,hi,hf,hl,hh,h1,h2=>by
  unfold below.go;by_cases c:lo < hi
  ·rw [if_pos c]
   have hm:(lo + hi) / 2 < ps.length:=by lia
   have eg:ps.toArray.getD ((lo + hi) / 2) j=ps[(lo + hi) / 2]:=by rw [Array.getD_eq_getD_getElem?,List.getElem?_toArray,Ac hm]; rfl
   simp only [eg]
   have mono:∀ (a b x y:Nat),a<=b->ps[a]?=some x->ps[b]?=some y->x<=y:=λa b x y gz ha hb=>by
    rcases Nat.eq_or_lt_of_le gz with z | z
    ·subst z; rw [ha] at hb; cases hb; exact An _
    ·obtain ⟨a1,a2⟩:=Aa ha
     obtain ⟨b1,b2⟩:=Aa hb;have:=List.pairwise_iff_getElem.mp hp a b a1 b1 z;lia
   by_cases c2:ps[(lo + hi) / 2] < j
   ·rw [if_pos c2]
    refine Ot hp j gv _ _ (by lia) (by lia) hh (λi x je hx=>?_) h2;have:=mono i ((lo + hi) / 2) x _ (by lia) hx (Ac hm);lia
   ·rw [if_neg c2]
    refine Ot hp j gv _ _ (by lia) (by lia) (by lia) h1 (λi x je hx=>?_);have:=mono ((lo + hi) / 2) i _ x je (Ac hm) hx;lia
  ·rw [if_neg c]
   have:lo=hi:=by lia
   subst this;exact ⟨hh,h1,h2⟩
def Zdg {ps:List Nat} (hp:ps.Pairwise (· < ·)) (j:Nat):below ps.toArray j<=ps.length/\(∀ i x,i < below ps.toArray j->ps[i]?=some x->x < j)/\(∀ i x,below ps.toArray j<=i->ps[i]?=some x->j<=x):=by
 unfold below;rw [Aq];exact Ot hp j _ _ _ (by lia) (Az _) (An _) (λi x h=>absurd h (Nat.not_lt_zero _)) λi x h hx=>by
  have:=(Aa hx).1
  lia
def Zew (j:Nat):has #[] j=false:=by unfold has; simp
def Fy {t:SetTable} {ps:List Nat} (hp:ps.Pairwise (· < ·)) (e:t.place=ps.toArray) (h:ps[i]?=some j):t.slot j=.live i:=by
 obtain ⟨b1,b2,b3⟩:=Zdg hp j;have hi:=(Aa h).1;have hb:below ps.toArray j=i:=by
  rcases Nat.lt_trichotomy (below ps.toArray j) i with z | z | z
  ·have hx:=Ac (show below ps.toArray j < ps.length by lia)
   have:=b3 _ _ (An _) hx
   obtain ⟨a1,a2⟩:=Aa h
   have:=List.pairwise_iff_getElem.mp hp _ i (by lia) a1 z
   lia
  ·exact z
  ·have:=b2 i j z h
   lia
 unfold slot;rw [e];simp only [hb,List.getElem?_toArray,h,beq_self_eq_true,if_true]
def Zff {t:SetTable} {ps:List Nat} (hp:ps.Pairwise (· < ·)) (e:t.place=ps.toArray) (d:t.dummies=#[]) (h:j ∉ ps):t.slot j=.empty:=by
 unfold slot;rw [e,d,Zew];have:(ps.toArray[below ps.toArray j]? == some j)=false:=by
  rw [beq_eq_false_iff_ne]
  intro z
  rw [List.getElem?_toArray] at z
  exact h (Au z)
 simp only [this,Bool.false_eq_true,if_false]
theorem Zcc {t:SetTable} {ps:List Nat} (hp:ps.Pairwise (· < ·)) (e:t.place=ps.toArray) (d:t.dummies=#[]) (hN:(pth t.mask h N).j ∉ ps) (hl:∀ n,n < N->(pth t.mask h n).j∈ps) :
  ∀ (gv n:Nat),n<=N->N - n < gv ->
   probe.go t hashAt h gv (pth t.mask h n)=some (.empty (pth t.mask h N).j none)/\(∀ n',n<=n'->n' < N->∀ i,ps[i]?=some (pth t.mask h n').j->hashAt i≠h) \/
   ∃ n' i,n<=n'/\n' < N/\ps[i]?=some (pth t.mask h n').j/\hashAt i=h/\probe.go t hashAt h gv (pth t.mask h n)=some (.candidate (pth t.mask h n').j i (pth t.mask h (n' + 1)))/\∀ ul,n<=ul->ul < n'->∀ i,ps[i]?=some (pth t.mask h ul).j->hashAt i≠h
 | 0,n,_,h0=>absurd h0 (Nat.not_lt_zero _)
 | gv + 1,n,hn,hf=>by
  unfold probe.go
  rcases Nat.eq_or_lt_of_le hn with z | z
  ·subst z
   rw [Zff hp e d hN];left;refine ⟨?_,λn' h1 h2=>by lia⟩;show some (Met.empty _ _)=_;rw [(Za0 t.mask h n).2]
  ·obtain ⟨i,hi⟩:=List.mem_iff_getElem?.mp (hl n z)
   rw [Fy hp e hi];have uq:∀ i',ps[i']?=some (pth t.mask h n).j->i'=i:=λi' je=>by
    obtain ⟨a1,a2⟩:=Aa hi
    obtain ⟨b1,b2⟩:=Aa je
    have nd:ps.Nodup:=hp.imp λh=>As h
    exact (List.getElem_inj nd).mp (b2.trans a2.symm)
   by_cases c:hashAt i=h
   ·right
    refine ⟨n,i,An _,z,hi,c,?_,λul h1 h2=>by lia⟩;show (if (hashAt i == h)=true then _ else _)=_;rw [if_pos (by simpa using c),Ziq];rfl
   ·have step:(if (hashAt i == h)=true then some (Met.candidate (pth t.mask h n).j i (t.advance (pth t.mask h n))) else probe.go t hashAt h gv (t.advance (pth t.mask h n)))=probe.go t hashAt h gv (pth t.mask h (n + 1)):=by
     rw [if_neg (by simpa using c),Ziq];rfl
    have ih:=Zcc hp e d (hashAt:=hashAt) hN hl gv (n + 1) z (by lia);show ((if (hashAt i == h)=true then _ else _)=_/\_)\/_
    rcases ih with ⟨i1,i2⟩ | ⟨n',i',i1,i2,i3,i4,i5,i6⟩
    ·left
     refine ⟨step.trans i1,λn' h1 h2 i' je=>?_⟩
     rcases Nat.eq_or_lt_of_le h1 with q | q
     ·subst q; rw [uq i' je]; exact c
     ·exact i2 n' q h2 i' je
    ·right
     refine ⟨n',i',by lia,i2,i3,i4,step.trans i5,λul h1 h2 i2' xv=>?_⟩
     rcases Nat.eq_or_lt_of_le h1 with q | q
     ·subst q; rw [uq i2' xv]; exact c
     ·exact i6 ul q h2 i2' xv
theorem Zey {gf:Array (Option Nat)} (hs:gf.size=m + 1) (h:Int):∀ (gv L:Nat) (N:Nat),(∃ L' r,L<=L'/\L' < L + gv/\r<=runL m (lp m h L').1/\N=ix m h L' + r)->gf[(pth m h N).j]?=some none->(∀ n,n < N->gf[(pth m h n).j]?≠some none) ->
  layClean.free m gf gv (lp m h L).1 (lp m h L).2=some (pth m h N).j
 | 0,L,N,⟨L',r,h1,h2,_⟩,_,_=>by lia
 | gv + 1,L,N,⟨L',r,h1,h2,h3,h4⟩,hN,hl=>by
  unfold layClean.free;have m5:=Zfu m h L;have hrun:=Zgy m5;have er:runEnd m (lp m h L).1 + 1 - (lp m h L).1=runL m (lp m h L).1 + 1:=by unfold runL runEnd; split <;> lia
  rw [er]
  have at':∀ k,k<=runL m (lp m h L).1->((gf.getD ((lp m h L).1 + k) (some 0)).isNone=true ↔ gf[(pth m h (ix m h L + k)).j]?=some none):=λk hk=>by
   rw [Jq m h L k hk];show _ ↔ gf[(lp m h L).1 + k]?=some none;have nr:(lp m h L).1 + k < gf.size:=by lia
   rw [Array.getD_eq_getD_getElem?,Array.getElem?_eq_getElem nr];cases gf[(lp m h L).1 + k] <;> simp
  rcases Nat.eq_or_lt_of_le h1 with z | z
  ·subst z
   have hf:(List.range (runL m (lp m h L).1 + 1)).find? (λk=>(gf.getD ((lp m h L).1 + k) (some 0)).isNone)=some r:=by
    rw [List.find?_range_eq_some];refine ⟨(at' r h3).mpr (by rw [<- h4]; exact hN),List.mem_range.mpr (by lia),λj hj=>?_⟩;have:=mt (at' j (by lia)).mp (hl (ix m h L + j) (by lia));rw [Bool.not_eq_true'];exact Bool.eq_false_iff.mpr this
   rw [hf];show some _=some _;rw [h4,Jq m h L r h3]
  ·have hf:(List.range (runL m (lp m h L).1 + 1)).find? (λk=>(gf.getD ((lp m h L).1 + k) (some 0)).isNone)=none:=by
    rw [List.find?_eq_none];intro k hk;have hk:=List.mem_range.mp hk
    have mono:∀ a b,a < b->ix m h a + runL m (lp m h a).1 < ix m h b:=λa b gz=>by
     induction b with
     | zero=>lia
     | succ b ih =>
      show _ < ix m h b + runL m (lp m h b).1 + 1
      rcases Nat.lt_or_ge a b with q | q
      ·have:=ih q; lia
      ·have:a=b:=by lia
       subst this; lia
    have:=mono L L' z;exact mt (at' k (by lia)).mp (hl (ix m h L + k) (by lia))
   rw [hf];exact Zey hs h gv (L + 1) N ⟨L',r,z,by lia,h3,h4⟩ hN hl
structure Good (m:Nat) (gh:List (Nat × Int × Value)):Prop where
 pw:(gh.map (·.1)).Pairwise (· < ·)
 le:∀ e∈gh,e.1<=m
 rch:∀ e∈gh,∃ n,(pth m e.2.1 n).j=e.1/\∀ n',n' < n->(pth m e.2.1 n').j∈gh.map (·.1)
def Good.nil (m:Nat):Good m []:=⟨List.Pairwise.nil,(λe h=>by cases h),(λe h=>by cases h)⟩
def U1 {α:Type} (l:List α) (p:Nat) (x:α):insertAt l.toArray p x=(l.take p ++ x :: l.drop p).toArray:=by
 unfold insertAt;apply Array.ext';simp [List.take_of_length_le]
def Good.put {gh:List (Nat × Int × Value)} (g:Good m gh) {x:Value} (hN:(pth m h N).j ∉ gh.map (·.1)) (hl:∀ n,n < N->(pth m h n).j∈gh.map (·.1)) (hp:p=below (gh.map (·.1)).toArray (pth m h N).j) :
  Good m (gh.take p ++ ((pth m h N).j,h,x) :: gh.drop p):=by
 obtain ⟨b1,b2,b3⟩:=Zdg g.pw (pth m h N).j;rw [<- hp] at b1 b2 b3;rw [Ab] at b1;have hj:=(Za0 m h N).1;generalize ej:(pth m h N).j=j at *;have mem:∀ y,y∈(gh.take p ++ (j,h,x) :: gh.drop p).map (·.1) ↔ y∈gh.map (·.1)\/y=j:=λy=>by
  have e:gh.map (·.1)=(gh.take p).map (·.1) ++ (gh.drop p).map (·.1):=by rw [<- Aj,List.take_append_drop]
  rw [e,Aj,List.map_cons,List.mem_append,List.mem_cons,List.mem_append]
  constructor
  ·rintro (z | z | z)
   ·exact .inl (.inl z)
   ·exact .inr z
   ·exact .inl (.inr z)
  ·rintro ((z | z) | z)
   ·exact .inl z
   ·exact .inr (.inr z)
   ·exact .inr (.inl z)
 have xk:∀ e,e∈gh.take p ++ (j,h,x) :: gh.drop p->e∈gh\/e=(j,h,x):=λe he=>by
  rcases List.mem_append.mp he with z | z
  ·exact .inl (List.mem_of_mem_take z)
  ·rcases Ar z with z | z
   ·exact .inr z
   ·exact .inl (List.mem_of_mem_drop z)
 refine ⟨?_,λe he=>?_,λe he=>?_⟩
 ·have e:(gh.take p ++ (j,h,x) :: gh.drop p).map (·.1)=(gh.map (·.1)).take p ++ j :: (gh.map (·.1)).drop p:=by rw [Aj,List.map_cons,List.map_take,List.map_drop]
  rw [e];have gr:∀ y∈(gh.map (·.1)).take p,y < j:=λy hy=>by
   obtain ⟨i,hi,rfl⟩:=List.mem_iff_getElem.mp hy
   rw [Ai] at hi
   rw [List.getElem_take]
   exact b2 i _ (by lia) (Ac _)
  have hgt:∀ y∈(gh.map (·.1)).drop p,j < y:=λy hy=>by
   obtain ⟨i,hi,rfl⟩:=List.mem_iff_getElem.mp hy;rw [List.length_drop] at hi;rw [List.getElem_drop];have h1:=b3 (p + i) _ (Nat.le_add_right _ _) (Ac (by lia));have h2:(gh.map (·.1))[p + i]≠j:=λz=>hN (z ▸ List.getElem_mem _);lia
  have pw:=g.pw;rw [<- List.take_append_drop p (gh.map (·.1)),List.pairwise_append] at pw;rw [List.pairwise_append,List.pairwise_cons];refine ⟨pw.1,⟨hgt,pw.2.1⟩,λa ha b hb=>?_⟩
  rcases Ar hb with z | z
  ·rw [z]; exact gr a ha
  ·exact pw.2.2 a ha b z
 ·rcases xk e he with z | z
  ·exact g.le e z
  ·rw [z]; exact hj
 ·rcases xk e he with z | z
  ·obtain ⟨n,n1,n2⟩:=g.rch e z
   exact ⟨n,n1,λn' h'=>(mem _).mpr (.inl (n2 n' h'))⟩
  ·subst z
   exact ⟨N,ej,λn' h'=>(mem _).mpr (.inl (hl n' h'))⟩
structure LC (m:Nat) (hs:List Int) (gf:Array (Option Nat)):Prop where
 sz:gf.size=m + 1
 lt:∀ (j i:Nat),gf[j]?=some (some i)->∃ h,hs[i]?=some h/\∃ n,(pth m h n).j=j/\∀ n',n' < n->gf[(pth m h n').j]?≠some none
 un:∀ (j j' i:Nat),gf[j]?=some (some i)->gf[j']?=some (some i)->j=j'
 al:∀ i,i < hs.length->∃ j:Nat,gf[j]?=some (some i)
def LC.free {m:Nat} {hs:List Int} {gf:Array (Option Nat)} (c:LC m hs gf) (hl:hs.length<=m):∃ y:Nat,y<=m/\gf[y]?=some none:=by
 refine Classical.byContradiction λno=>?_
 have all:∀ j:Nat,j<=m->∃ i,gf[j]?=some (some i):=λj hj=>by
  have nr:j < gf.size:=by rw [c.sz]; lia
  cases e:gf[j]? with
  | none=>rw [Array.getElem?_eq_getElem nr] at e; cases e
  | some o =>
   cases o with
   | none=>exact absurd ⟨j,hj,e⟩ no
   | some i=>exact ⟨i,Y⟩
 have nd:((List.range (m + 1)).map λj=>((gf[j]?).join).getD 0).Nodup:=by
  refine List.pairwise_map.mpr (List.Pairwise.imp_of_mem (λ{a b} ha hb h e=>?_) List.pairwise_lt_range);obtain ⟨i,hi⟩:=all a (Nat.le_of_lt_succ (List.mem_range.mp ha));obtain ⟨i',je⟩:=all b (Nat.le_of_lt_succ (List.mem_range.mp hb));rw [hi,je] at e;have e:i=i':=e;subst e;have:=c.un a b i hi je;lia
 have:=Fs hs.length _ nd λx hx=>by
  obtain ⟨j,hj,rfl⟩:=List.mem_map.mp hx;obtain ⟨i,hi⟩:=all j (Nat.le_of_lt_succ (List.mem_range.mp hj));rw [hi];obtain ⟨h,h1,_⟩:=c.lt j i hi;exact (Aa h1).1
 rw [Ab,List.length_range] at this;lia
def LC.step {m k:Nat} (hm:m + 1=2 ^ k) {hs:List Int} {gf:Array (Option Nat)} (c:LC m hs gf) (hl:hs.length<=m) (h:Int):∃ j,layClean.free m gf (turns m) (bits h % (m + 1)) (bits h)=some j/\LC m (hs ++ [h]) (gf.setIfInBounds j (some hs.length)):=by
 obtain ⟨y,y1,y2⟩:=c.free hl;obtain ⟨N,n1,n2,n3⟩:=Za7 hm h (O:=λj=>gf[j]?≠some none) y1 (λz=>z y2);have n2:gf[(pth m h N).j]?=some none:=Classical.byContradiction n2
 have hN:∃ L' r,0<=L'/\L' < 0 + turns m/\r<=runL m (lp m h L').1/\N=ix m h L' + r:=by
  obtain ⟨L,r,e,hr⟩:=Zcb m h N;refine ⟨L,r,Az _,?_,hr,e⟩;obtain ⟨L1,l1,l2⟩:=Zhy hm h y1;have q:N<=ix m h L1:=by
   rcases Nat.lt_or_ge (ix m h L1) N with z | z
   ·have:=n3 _ z
    have e:=Jq m h L1 0 (Az _)
    rw [show ix m h L1=ix m h L1 + 0 from rfl,e] at this
    have this:gf[(lp m h L1).1 + 0]?≠some none:=this
    rw [l2] at this
    exact absurd y2 this
   ·exact z
  have mono:∀ a b,a<=b->ix m h a<=ix m h b:=λa b gz=>by
   induction b with
   | zero=>rw [Nat.le_zero.mp gz]; exact An _
   | succ b ih =>
    rcases Nat.eq_or_lt_of_le gz with z | z
    ·rw [z]; exact An _
    ·have:=ih (by lia)
     show _<=ix m h b + _ + 1;lia
  unfold turns
  rcases Nat.lt_or_ge L1 L with z | z
  ·have h1:=mono (L1 + 1) L z
   have h2:ix m h (L1 + 1)=ix m h L1 + runL m (lp m h L1).1 + 1:=rfl;lia
  ·lia
 refine ⟨(pth m h N).j,Zey c.sz h (turns m) 0 N hN n2 n3,?_⟩;have hj:=(Za0 m h N).1;have nr:(pth m h N).j < gf.size:=by rw [c.sz]; lia
 have gs:∀ z:Nat,(gf.setIfInBounds (pth m h N).j (some hs.length))[z]?=if (pth m h N).j=z then some (some hs.length) else gf[z]?:=λz=>by
  rw [Array.getElem?_setIfInBounds];by_cases e:(pth m h N).j=z
  ·rw [if_pos e,if_pos e,if_pos nr]
  ·rw [if_neg e,if_neg e]
 have keep:∀ z:Nat,gf[z]?≠some none->(gf.setIfInBounds (pth m h N).j (some hs.length))[z]?≠some none:=λz hz=>by
  rw [gs];split
  ·exact λq=>by cases q
  ·exact hz
 refine ⟨by rw [Array.size_setIfInBounds]; exact c.sz,λj i e=>?_,λj j' i e e'=>?_,λi hi=>?_⟩
 ·rw [gs] at e
  split at e
  ·rename_i z
   cases e;exact ⟨h,by rw [List.getElem?_append_right (An _),Nat.sub_self]; rfl,N,z,λn' h'=>keep _ (n3 n' h')⟩
  ·obtain ⟨h',h1,n,h2,h3⟩:=c.lt j i e
   exact ⟨h',by rw [Av (Aa h1).1]; exact h1,n,h2,λn' q=>keep _ (h3 n' q)⟩
 ·rw [gs] at e e'
  have no:∀ z:Nat,gf[z]?≠some (some hs.length):=λz q=>by
   obtain ⟨h',h1,_⟩:=c.lt z _ q;have:=(Aa h1).1;lia
  split at e <;> split at e'
  ·rename_i z1 z2; exact z1.symm.trans z2
  ·cases e; exact absurd e' (no _)
  ·cases e'; exact absurd e (no _)
  ·exact c.un j j' i e e'
 ·rw [Ae,At] at hi
  rcases Nat.lt_or_ge i hs.length with z | z
  ·obtain ⟨j,sj⟩:=c.al i z
   refine ⟨j,?_⟩;rw [gs,if_neg (λq=>by rw [<- q,n2] at sj; cases sj)];exact sj
  ·refine ⟨(pth m h N).j,?_⟩
   rw [gs,if_pos rfl,show i=hs.length by lia]
def LC.nil (m:Nat):LC m [] (Array.replicate (m + 1) none):=by
 have e:∀ j i:Nat,(Array.replicate (m + 1) (none:Option Nat))[j]?≠some (some i):=λj i=>by
  rw [Array.getElem?_replicate];split <;> exact λz=>by cases z
 exact ⟨by simp,λj i z=>absurd z (e j i),λj j' i z=>absurd z (e j i),λi hi=>absurd hi (Nat.not_lt_zero _)⟩
theorem Zdb (hm:m + 1=2 ^ k):∀ (n:Nat) (hs:List Int),hs.length=n->n<=m + 1->∃ gf,(hs.foldl (init:=some (Array.replicate (m + 1) none,0)) λ(gj:Option (Array (Option Nat) × Nat)) h=>do
  let (gf,k) <- gj
  let j <- layClean.free m gf (turns m) (bits h % (m + 1)) (bits h)
  pure (gf.setIfInBounds j (some k),k + 1))=some (gf,n)/\LC m hs gf
 | 0,hs,e,_=>by
  rw [List.length_eq_zero_iff.mp e];exact ⟨_,Y,LC.nil m⟩
 | n + 1,hs,e,hn=>by
  obtain ⟨qs,h,rfl⟩:∃ qs h,hs=qs ++ [h]:=⟨hs.dropLast,hs.getLast (λz=>by rw [z] at e; cases e),(List.dropLast_concat_getLast _).symm⟩;rw [Ae,At] at e;obtain ⟨ow,o1,o2⟩:=Zdb hm n qs (by lia) (by lia);obtain ⟨j,j1,j2⟩:=o2.step hm (by lia) h;refine ⟨_,?_,j2⟩;rw [List.foldl_append,o1];show (do let j <- layClean.free m ow (turns m) (bits h % (m + 1)) (bits h); pure (ow.setIfInBounds j (some n),n + 1))=_;rw [j1,show qs.length=n by lia];rfl
def Zl2 {k:Nat} (hm:m + 1=2 ^ k) {es:List (Int × Value)} (hl:es.length<=m) (finger moves:Nat) (led plain:Bool) :
  ∃ gh:List (Nat × Int × Value),Good m gh/\(gh.map (·.2)).Perm es/\∃ kc:Array Nat,laid m finger moves led plain ((es.map (·.1)).toArray)=some ({ mask:=m,place:=(gh.map (·.1)).toArray,dummies:=#[],finger,led,moves,plain },kc)/\kc.filterMap (es.toArray[·]?)=(gh.map (·.2)).toArray:=by
 obtain ⟨ow,o1,o2⟩:=Zdb hm es.length (es.map (·.1)) (by rw [Ab]) (by lia);have lc:layClean m ((es.map (·.1)).toArray)=some ow:=by
  unfold layClean
  rw [List.foldl_toArray,o1]
  rfl
 have gd:∀ j:Nat,(ow.getD j none)=(ow[j]?).join:=λj=>by
  rw [Array.getD_eq_getD_getElem?]
  cases ow[j]? with
  | none=>rfl
  | some o=>rfl
 have lv:∀ (j i:Nat),(ow[j]?).join=some i ↔ ow[j]?=some (some i):=λj i=>by
  cases ow[j]? with
  | none=>simp
  | some o=>simp
 let live:=(List.range (m + 1)).filterMap λj=>(ow.getD j none).map (j,·)
 have lm:∀ q:Nat × Nat,q∈live ↔ ow[q.1]?=some (some q.2):=λ⟨j,i⟩=>by
  show (j,i)∈(List.range (m + 1)).filterMap _ ↔ _;rw [List.mem_filterMap];constructor
  ·rintro ⟨j',_,e⟩
   rw [gd] at e;obtain ⟨i',e1,e2⟩:=Option.map_eq_some_iff.mp e;cases e2;exact (lv _ _).mp e1
  ·intro e
   refine ⟨j,List.mem_range.mpr ?_,?_⟩
   ·have:=(Array.getElem?_eq_some_iff.mp e).1
    rw [o2.sz] at this;exact this
   ·rw [gd,(lv j i).mpr e]; rfl
 have pw:(live.map (·.1)).Pairwise (· < ·):=by
  rw [List.pairwise_map];refine List.pairwise_filterMap.mpr (List.pairwise_lt_range.imp λ{a b} gz x hx y hy=>?_);obtain ⟨_,_,rfl⟩:=Option.map_eq_some_iff.mp hx;obtain ⟨_,_,rfl⟩:=Option.map_eq_some_iff.mp hy;exact gz
 have p2:(live.map (·.2)).Perm (List.range es.length):=by
  refine (List.perm_ext_iff_of_nodup ?_ List.nodup_range).mpr λi=>?_
  ·have pw':live.Pairwise λa b=>a.1 < b.1:=List.pairwise_map.mp pw
   refine List.pairwise_map.mpr (List.Pairwise.imp_of_mem (λ{a b} ha hb h e=>?_) pw');have h1:=(lm a).mp ha;have h2:=(lm b).mp hb;rw [<- e] at h2;have:=o2.un _ _ _ h1 h2;lia
  ·rw [List.mem_map,List.mem_range]
   constructor
   ·rintro ⟨q,hq,rfl⟩
    obtain ⟨h,h1,_⟩:=o2.lt _ _ ((lm q).mp hq);have:=(Aa h1).1;rwa [Ab] at this
   ·intro hi
    obtain ⟨j,hj⟩:=o2.al i (by rw [Ab]; exact hi);exact ⟨(j,i),(lm (j,i)).mpr hj,Y⟩
 have hil:∀ q∈live,q.2 < es.length:=λq hq=>List.mem_range.mp (p2.mem_iff.mp (List.mem_map.mpr ⟨q,hq,rfl⟩));refine ⟨live.map λq=>(q.1,es.getD q.2 (0,.none)),⟨?_,λe he=>?_,λe he=>?_⟩,?_,(live.map (·.2)).toArray,?_,?_⟩
 ·rw [List.map_map]; exact pw
 ·obtain ⟨q,hq,rfl⟩:=List.mem_map.mp he
  have:=(Array.getElem?_eq_some_iff.mp ((lm q).mp hq)).1;rw [o2.sz] at this;exact Nat.le_of_lt_succ this
 ·obtain ⟨q,hq,rfl⟩:=List.mem_map.mp he
  obtain ⟨h,h1,n,n1,n2⟩:=o2.lt _ _ ((lm q).mp hq);have eh:(es.getD q.2 (0,.none)).1=h:=by
   rw [Ah] at h1
   rw [Ad]
   obtain ⟨z,z1,z2⟩:=Option.map_eq_some_iff.mp h1
   rw [z1]; exact z2
  refine ⟨n,by show (pth m (es.getD q.2 (0,.none)).1 n).j=q.1; rw [eh]; exact n1,λn' h'=>?_⟩;show (pth m (es.getD q.2 (0,.none)).1 n').j∈_;rw [eh,List.map_map];have iu:=n2 n' h';have nr:(pth m h n').j < ow.size:=by rw [o2.sz]; have:=(Za0 m h n').1; lia
  cases e:ow[(pth m h n').j]? with
  | none=>rw [Array.getElem?_eq_getElem nr] at e; cases e
  | some o =>
   cases o with
   | none=>exact absurd e iu
   | some i=>exact List.mem_map.mpr ⟨(_,i),(lm (_,i)).mpr e,Y⟩
 ·rw [List.map_map]
  have:live.map ((·.2) ∘ λq:Nat × Nat=>(q.1,es.getD q.2 (0,.none)))=(live.map (·.2)).map λi=>es.getD i (0,.none):=by rw [List.map_map]; rfl
  rw [this];refine (p2.map _).trans (List.Perm.of_eq ?_);apply List.ext_getElem?;intro i;rw [Ah];by_cases hi:i < es.length
  ·rw [List.getElem?_range hi,Ac hi]
   show some (es.getD i _)=_;rw [Ad,Ac hi];rfl
  ·rw [Ay (by rw [List.length_range]; lia),Ay (by lia)]
   rfl
 ·unfold laid
  rw [lc];show some (_,_)=_;rw [List.map_map];rfl
 ·rw [List.filterMap_toArray,List.map_map]
  congr 1
  have:∀ l:List (Nat × Nat),(∀ q∈l,q.2 < es.length)->(l.map (·.2)).filterMap (es.toArray[·]?)=l.map ((·.2) ∘ λq:Nat × Nat=>(q.1,es.getD q.2 (0,.none))):=λl=>by
   induction l with
   | nil=>intro _; rfl
   | cons q l ih =>
    intro hq;have h1:=hq q List.mem_cons_self;rw [List.map_cons,List.filterMap_cons,List.getElem?_toArray,Ac h1,ih λz hz=>hq z (List.mem_cons_of_mem _ hz)];show es[q.2] :: _=es.getD q.2 _ :: _;rw [Ad,Ac h1];rfl
  exact this live hil
structure STab (h:Heap) (a:Addr) (o:Obj) (ep:Nat) (t:SetTable) (gh:List (Nat × Int × Value)):Prop where
 ho:h.get? a=some o
 ex:o.ExactSet
 hd:o.data=.set (gh.map (·.2)).toArray ep t
 pl:t.place=(gh.map (·.1)).toArray
 dm:t.dummies=#[]
 gd:Good t.mask gh
 pw:∃ k,t.mask + 1=2 ^ k
 b1:t.mask<=8191
 b2:7<=t.mask
 rm:gh.length * 5 < t.mask * 3
section
variable {prog:Program} {w:World} {K:Type} [DecidableEq K] {knd:KeyKind prog w K} {A:Around} {E:Value->Shared->Prop} {s:Shared} {a:Addr}
def TK (knd:KeyKind prog w K) (h:Heap) (e:Int × Value) (k:List K):Prop:=e.1=tupleKeyHash knd k/\∃ b,e.2=.ref b/\IsTupleKey knd h k b
def STab.fits {t:SetTable} {gh:List (Nat × Int × Value)} (x:STab h a o ep t gh):t.fits (gh.map (·.2)).toArray.size=true:=by
 have:=x.rm;have:=x.b2;simp only [SetTable.fits,Bool.and_eq_true,beq_iff_eq,decide_eq_true_eq,SetTable.fill,x.pl,x.dm,Aq,Ab,Array.size_empty,List.length_nil,Nat.add_zero];exact ⟨trivial,by lia⟩
def Zdc {n:Nat} (hk:IsTupleKey knd s.heap ks c) (h:Q false s):wpAny (model prog w) A (ofAClassStatement (n + 1) (.ref c)) Q E s:=by
 have hT:=hk.typeIs;obtain ⟨o,items,m,ho,hc,hd,hi⟩:=hk;unfold ofAClassStatement;refine Al (wpAny_typeOf hT ?_);dsimp only;rw [if_pos (by decide)];refine Al (wpAny_pure ?_);simp only [Bool.not_true,Bool.false_eq_true,if_false];refine Al (wpAny_seqItems ho hd ?_);refine Al ?_;show wpAny _ _ (forIn items _ _) _ _ s;rw [<- Array.forIn_toList];refine wpAny_forIn_list _ (λrest r s'=>r.1=none/\s'=s/\∀ v∈rest,carriedByValue v=true) _ ?_ ?_ _ _ ⟨Y,Y,hi.byValue⟩
 ·rintro v rest r s' ⟨hr,rfl,i8⟩
  have hv:=i8 v List.mem_cons_self
  have e:ofAClassStatement n v=pure false:=by
   cases v with
   | ref a=>simp [carriedByValue] at hv
   | _=>cases n <;> rfl
  rw [e];refine Al (wpAny_pure ?_);simp only [Bool.false_eq_true,if_false];exact wpAny_pure ⟨Y,Y,λu hu'=>i8 u (List.mem_cons_of_mem _ hu')⟩
 ·rintro ⟨r1,r2⟩ s' ⟨hr,rfl,_⟩
  simp only at hr;subst hr;exact wpAny_pure h
def Zld {kx:List K} {c:Addr} (hx:IsTupleKey knd s.heap kx c) {stored:List Value} (hs:∀ v∈stored,∃ k b,v=.ref b/\IsTupleKey knd s.heap k b) {Q:Bool->Shared->Prop} (h:Q false s):wpAny (model prog w) A (searchCouldBeSeen (.ref c) stored) Q E s:=by
 unfold searchCouldBeSeen;refine Al ?_;refine wpAny_forIn_list _ (λrest r s'=>r.1=none/\s'=s/\∀ v∈rest,∃ k b,v=.ref b/\IsTupleKey knd s.heap k b) _ ?_ ?_ _ _ ⟨Y,Y,hs⟩
 ·rintro v rest r s' ⟨hr,rfl,i8⟩
  obtain ⟨k,b,rfl,hb⟩:=i8 v List.mem_cons_self;dsimp only;split
  ·exact wpAny_pure ⟨Y,Y,λu hu=>i8 u (List.mem_cons_of_mem _ hu)⟩
  ·refine Al (wpAny_eqIsQuiet_tuple hx ?_)
   simp only [Bool.not_true,Bool.false_eq_true,if_false];refine Al (wpAny_eqIsQuiet_tuple hb ?_);simp only [Bool.not_true,Bool.false_eq_true,if_false];refine Al (Zdc hx ?_);simp only [Bool.false_eq_true,if_false];refine Al (Zdc hb ?_);simp only [Bool.false_eq_true,if_false];exact wpAny_pure ⟨Y,Y,λu hu=>i8 u (List.mem_cons_of_mem _ hu)⟩
 ·rintro ⟨r1,r2⟩ s' ⟨hr,rfl,_⟩
  simp only at hr;subst hr;exact wpAny_pure h
def Zms {gh:List (Nat × Int × Value)} {i:Nat} (h:(gh.map (·.1))[i]?=some j):∃ e,gh[i]?=some e/\e.1=j/\(gh.map (·.2)).toArray[i]?=some e.2:=by
 rw [Ah] at h;obtain ⟨e,e1,e2⟩:=Option.map_eq_some_iff.mp h;exact ⟨e,e1,e2,by rw [List.getElem?_toArray,Ah,e1]; rfl⟩
theorem U2 {o:Obj} {ep:Nat} {t:SetTable} {gh:List (Nat × Int × Value)} {kx:List K} {c:Addr} {jb:Bool} (hu:A.units < cLine) (x:STab s.heap a o ep t gh) (hk:∀ e∈gh,∃ k,TK knd s.heap e.2 k) (hx:IsTupleKey knd s.heap kx c) {N:Nat}
  (hN:(pth t.mask (tupleKeyHash knd kx) N).j ∉ gh.map (·.1)) (hl:∀ n,n < N->(pth t.mask (tupleKeyHash knd kx) n).j∈gh.map (·.1)) (hN2:N < 10 * turns t.mask) {Q:SetFound->Shared->Prop}
  (q1:(∀ e∈gh,¬ TK knd s.heap e.2 kx)->Q (.free (pth t.mask (tupleKeyHash knd kx) N).j false) s) (q2:(∃ e∈gh,TK knd s.heap e.2 kx)->∀ i:Option Nat,(jb=false->i.isSome=true)->Q (.there i) s) :
  ∀ (gv n:Nat) (st:Option Probe),n<=N->N - n < gv->st.getD (t.probeStart (tupleKeyHash knd kx))=pth t.mask (tupleKeyHash knd kx) n ->
   (∀ n',n' < n->∀ e∈gh,e.1=(pth t.mask (tupleKeyHash knd kx) n').j->¬ TK knd s.heap e.2 kx)->wpAny (model prog w) A (setSearchFrom a (.ref c) (tupleKeyHash knd kx) jb gv st) Q E s
 | 0,n,_,_,h0,_,_=>absurd h0 (Nat.not_lt_zero _)
 | gv + 1,n,st,hn,hf,j5,p6=>by
  unfold setSearchFrom;refine Al (wpAny_setState_of x.ho x.hd x.fits ?_);dsimp only
  have odd:t.gaveWay=false:=by
   obtain ⟨k,js⟩:=x.pw;have:=x.b2;unfold SetTable.gaveWay;rw [beq_eq_false_iff_ne]
   cases k with
   | zero=>lia
   | succ k=>rw [Nat.pow_succ] at js; lia
  rw [odd];simp only [Bool.false_eq_true,if_false];rw [j5];have way:∀ e∈gh,TK knd s.heap e.2 kx->∃ n0,n<=n0/\n0 < N/\(pth t.mask (tupleKeyHash knd kx) n0).j=e.1:=λe he pq=>by
   obtain ⟨n0,r1,r2⟩:=x.gd.rch e he
   rw [pq.1] at r1 r2
   refine ⟨n0,?_,?_,r1⟩
   ·rcases Nat.lt_or_ge n0 n with z | z
    ·exact absurd pq (p6 n0 z e he r1.symm)
    ·exact z
   ·rcases Nat.lt_or_ge n0 N with z | z
    ·exact z
    ·rcases Nat.eq_or_lt_of_le z with z | z
     ·subst z
      exact absurd (by rw [r1]; exact List.mem_map.mpr ⟨e,he,Y⟩) hN
     ·exact absurd (r2 N z) hN
  have nd:(gh.map (·.1)).Nodup:=x.gd.pw.imp λh=>As h;have one:∀ e∈gh,∀ e'∈gh,e.1=e'.1->e=e':=λe he e' o6 z=>by
   obtain ⟨i,hi,rfl⟩:=List.mem_iff_getElem.mp he
   obtain ⟨i',je,rfl⟩:=List.mem_iff_getElem.mp o6
   have:=(List.getElem_inj nd (h₀:=by rw [Ab]; exact hi) (h₁:=by rw [Ab]; exact je)).mp (by rw [List.getElem_map,List.getElem_map]; exact z)
   subst this
   rfl
  have pg:=Zcc x.gd.pw x.pl x.dm (hashAt:=λi=>(((gh.map (·.2)).toArray[i]?).map (·.1)).getD 0) hN hl (10 * turns t.mask) n hn (by lia);generalize zd:t.probe _ (tupleKeyHash knd kx) (pth t.mask (tupleKeyHash knd kx) n)=pr;have zd:t.probe (λi=>(((gh.map (·.2)).toArray[i]?).map (·.1)).getD 0) (tupleKeyHash knd kx) (pth t.mask (tupleKeyHash knd kx) n)=pr:=zd
  rcases pg with ⟨p1,p2⟩ | ⟨n',i,i1,i2,i3,i4,i5,i6⟩
  ·have e:t.probe (λi=>(((gh.map (·.2)).toArray[i]?).map (·.1)).getD 0) (tupleKeyHash knd kx) (pth t.mask (tupleKeyHash knd kx) n)=some (.empty (pth t.mask (tupleKeyHash knd kx) N).j none):=p1
   rw [zd] at e;subst e;dsimp only;refine wpAny_pure (q1 λe' o6 pq=>?_);obtain ⟨n0,a1,a2,a3⟩:=way e' o6 pq;obtain ⟨i,hi,rfl⟩:=List.mem_iff_getElem.mp o6;refine p2 n0 a1 a2 i (by rw [Ah,Ac hi]; exact congrArg some a3.symm) ?_;show (((gh.map (·.2)).toArray[i]?).map (·.1)).getD 0=_;rw [List.getElem?_toArray,Ah,Ac hi];exact pq.1
  ·have e:t.probe (λi=>(((gh.map (·.2)).toArray[i]?).map (·.1)).getD 0) (tupleKeyHash knd kx) (pth t.mask (tupleKeyHash knd kx) n)=some (.candidate (pth t.mask (tupleKeyHash knd kx) n').j i (pth t.mask (tupleKeyHash knd kx) (n' + 1))):=i5
   rw [zd] at e;subst e;dsimp only;obtain ⟨ent,e1,e2,e3⟩:=Zms i3;have hem:ent∈gh:=Au e1;obtain ⟨ky,ky1,b,ky2,ky3⟩:=hk ent hem;have re:t.slot (pth t.mask (tupleKeyHash knd kx) n').j=.live i:=Fy x.gd.pw x.pl i3
   have after:wpAny (model prog w) A (do
     let some (_,y):=(gh.map (·.2)).toArray[i]? | unsupported "internal:set-entry"
     let equal <- holding [y] (eqBool y (.ref c))
     let (w8,_,t') <- setState a
     if jb && equal then return .there none
     let some same:=t'.sameMemory t.moves t.mask | unsupported "set.changed-during-lookup:is-the-new-block-at-the-old-address"
     let still <- match (if same then t'.slot (pth t.mask (tupleKeyHash knd kx) n').j else .empty) with
      | .live i'=>match w8[i']? with
       | some (_,y')=>do pure (if <- isSame y' y then some i' else none)
       | none=>pure none
      | _=>pure none
     match still with
     | none=>rule "set.search.anew"; setSearchFrom a (.ref c) (tupleKeyHash knd kx) jb gv none
     | some i'=>if equal then return .there (some i') else setSearchFrom a (.ref c) (tupleKeyHash knd kx) jb gv (some (pth t.mask (tupleKeyHash knd kx) (n' + 1)))) Q E s:=by
    rw [e3];obtain ⟨ej,eh,ev⟩:=ent;have ky2:ev=.ref b:=ky2;subst ky2;dsimp only;refine Al (wpAny_holding (wpAny_eqBool_tuple hu ky3 hx ?_));refine Al (wpAny_setState_of x.ho x.hd x.fits ?_);dsimp only;by_cases nu:ky=kx
    ·subst nu
     have hex:∃ e∈gh,TK knd s.heap e.2 ky:=⟨_,hem,ky1,b,rfl,ky3⟩;rw [decide_eq_true rfl]
     cases jb with
     | true=>exact wpAny_pure (q2 hex none (λz=>by cases z))
     | false =>
      simp only [Bool.false_and,Bool.false_eq_true,if_false];have sm:t.sameMemory t.moves t.mask=some true:=by unfold sameMemory; rw [if_pos (by simp)]
      rw [sm];dsimp only;rw [if_pos rfl,re];dsimp only;rw [e3];dsimp only;refine Al (wpAny_isSame_ref_self ?_);refine Al (wpAny_pure ?_);simp only [if_true];exact wpAny_pure (q2 hex (some i) λ_=>rfl)
    ·rw [decide_eq_false nu]
     simp only [Bool.and_false,Bool.false_eq_true,if_false];have sm:t.sameMemory t.moves t.mask=some true:=by unfold sameMemory; rw [if_pos (by simp)]
     rw [sm];dsimp only;rw [if_pos rfl,re];dsimp only;rw [e3];dsimp only;refine Al (wpAny_isSame_ref_self ?_);refine Al (wpAny_pure ?_);simp only [if_true];refine U2 hu x hk hx hN hl hN2 q1 q2 gv (n' + 1) _ i2 (by lia) Y λn2 h2 e' o6 sj pq=>?_
     rcases Nat.lt_or_ge n2 n with z | z
     ·exact p6 n2 z e' o6 sj pq
     ·rcases Nat.lt_or_ge n2 n' with z2 | z2
      ·obtain ⟨i',je,rfl⟩:=List.mem_iff_getElem.mp o6
       refine i6 n2 z z2 i' (by rw [Ah,Ac je]; exact congrArg some sj) ?_;show (((gh.map (·.2)).toArray[i']?).map (·.1)).getD 0=_;rw [List.getElem?_toArray,Ah,Ac je];exact pq.1
      ·have:n2=n':=by lia
       subst this;have:=one _ hem e' o6 (e2.trans sj.symm);subst this;obtain ⟨_,b',mh,js⟩:=pq;have:b=b':=by injection mh
       subst this;exact nu (ky3.inj js)
   by_cases xt:t.led=true
   ·rw [xt]
    simp only [Bool.not_true,Bool.false_eq_true,if_false];exact after
   ·rw [Bool.eq_false_iff.mpr xt]
    simp only [Bool.not_false,if_true];refine Al (Zld hx (λv hv=>?_) ?_)
    ·obtain ⟨e',o6,rfl⟩:=List.mem_map.mp hv
     have:=Array.mem_filter.mp (Array.mem_toList_iff.mp o6);have:=Array.mem_toList_iff.mpr this.1;obtain ⟨e2',he2',rfl⟩:=List.mem_map.mp (by simpa using this:e'∈gh.map (·.2));obtain ⟨k',_,b',mh,js⟩:=hk e2' he2';exact ⟨k',b',mh,js⟩
    ·simp only [Bool.false_eq_true,if_false]
     exact after
theorem Zd9:∀ (l k:List Nat),l.Nodup->(∀ x∈l,x∈k)->l.length<=k.length
 | [],_,_,_=>Az _
 | x :: l,k,nd,h=>by
  obtain ⟨n1,n2⟩:=List.nodup_cons.mp nd;have hx:=h x List.mem_cons_self;have:=Zd9 l (k.erase x) n2 λy hy=>(List.mem_erase_of_ne (λz=>n1 (by rw [<- z]; exact hy))).mpr (h y (List.mem_cons_of_mem _ hy));rw [List.length_erase_of_mem hx] at this;have:=List.length_pos_of_mem hx;rw [List.length_cons];lia
def STab.way {t:SetTable} {gh:List (Nat × Int × Value)} (x:STab h a o ep t gh) (hh:Int):∃ N,N < 10 * turns t.mask/\(pth t.mask hh N).j ∉ gh.map (·.1)/\∀ n,n < N->(pth t.mask hh n).j∈gh.map (·.1):=by
 obtain ⟨k,hk⟩:=x.pw;have:∃ y,y<=t.mask/\y ∉ gh.map (·.1):=by
  refine Classical.byContradiction λno=>?_
  have sub:∀ y∈List.range (t.mask + 1),y∈gh.map (·.1):=λy hy=>Classical.byContradiction λz=>no ⟨y,Nat.le_of_lt_succ (List.mem_range.mp hy),z⟩
  have:=Zd9 _ _ List.nodup_range sub
  rw [List.length_range,Ab] at this
  have:=x.rm
  lia
 obtain ⟨y,y1,y2⟩:=this;obtain ⟨N,n1,n2,n3⟩:=Za7 hk hh (O:=λj=>j∈gh.map (·.1)) y1 y2;exact ⟨N,n1,n2,n3⟩
def Zex {t:SetTable} (h:t.mask<=8191) {N:Nat} (hN:N < 10 * turns t.mask):N - 0 < 100000:=by unfold turns at hN; lia
def Zen:byScan (.ref c) es=false:=rfl
def Zkv (hu:A.units < cLine) (x:STab s.heap a o ep t gh) (hk:∀ e∈gh,∃ k,TK knd s.heap e.2 k) (hx:IsTupleKey knd s.heap kx c)
  (q1:(∀ e∈gh,¬ TK knd s.heap e.2 kx)->Q none s) (q2:(∃ e∈gh,TK knd s.heap e.2 kx)->∀ i,Q (some i) s):wpAny (model prog w) A (setFind a (.ref c) (tupleKeyHash knd kx)) Q E s:=by
 unfold setFind setFindIn;refine Al (wpAny_setState_of x.ho x.hd x.fits ?_);dsimp only;rw [Zen];simp only [Bool.false_eq_true,if_false];obtain ⟨N,n1,n2,n3⟩:=x.way (tupleKeyHash knd kx);unfold setSearch;refine Al (U2 (knd:=knd) hu x hk hx n2 n3 n1 (λh=>?_) (λh i hi=>?_) 100000 0 none (Az _) (Zex x.b1 n1) Y (λn' z=>absurd z (Nat.not_lt_zero _)))
 ·exact wpAny_pure (q1 h)
 ·cases i with
  | none=>have:=hi rfl; cases this
  | some i=>exact wpAny_pure (q2 h i)
theorem Zdh (hn:n < 8192):∀ (gv k:Nat),k<=13->3<=k->13 - k < gv->∃ k',3<=k'/\k'<=13/\sizeAbove.go n gv (2 ^ k)=2 ^ k'/\n < 2 ^ k'
 | 0,k,_,_,h=>absurd h (Nat.not_lt_zero _)
 | gv + 1,k,h1,h2,h3=>by
  unfold sizeAbove.go;by_cases c:2 ^ k<=n
  ·rw [if_pos c]
   have:k < 13:=by
    rcases Nat.lt_or_ge k 13 with z | z
    ·exact z
    ·have:k=13:=by lia
     subst this;have:(2:Nat) ^ 13=8192:=by decide
     lia
   rw [<- Nat.pow_succ];exact Zdh hn gv (k + 1) this (by lia) (by lia)
  ·rw [if_neg c]
   exact ⟨k,h2,h1,Y,by lia⟩
def Zj7 (hn:n < 8192):∃ k,3<=k/\k<=13/\sizeAbove n=2 ^ k/\n < 2 ^ k:=Zdh hn 64 3 (by decide) (by decide) (by decide)
def Zd4 (hv:∀ k v n,knd.is k v=true->hashByValue n v=pure true) (hk:IsTupleKey knd s.heap ks c) (h:Q true s):wpAny (model prog w) A (hashByValue (n + 1) (.ref c)) Q E s:=by
 have hT:=hk.typeIs;obtain ⟨o,items,m,ho,hc,hd,hi⟩:=hk;unfold hashByValue;refine Al (wpAny_specialOf hT F.slot_tuple_hash.lookup ?_);dsimp only;show wpAny _ _ (seqItems? (.ref c) >>= _) _ _ s;refine Al (wpAny_seqItems ho hd ?_);refine Al ?_;show wpAny _ _ (forIn items _ _) _ _ s;rw [<- Array.forIn_toList];refine wpAny_forIn_list _ (λrest r s'=>r.1=none/\s'=s/\∃ ks,ItemsAre knd ks rest) _ ?_ ?_ _ _ ⟨Y,Y,ks,hi⟩
 ·rintro v rest r s' ⟨hr,rfl,ks,i8⟩
  cases i8 with
  | cons h1 h2 =>
   rw [hv _ _ n h1];refine Al (wpAny_pure ?_);simp only [Bool.not_true,Bool.false_eq_true,if_false];exact wpAny_pure ⟨Y,Y,_,h2⟩
 ·rintro ⟨r1,r2⟩ s' ⟨hr,rfl,_⟩
  simp only at hr;subst hr;exact wpAny_pure h
def Zmq {gh:List (Nat × Int × Value)} (hu:A.units < cLine) (hv:∀ k v n,knd.is k v=true->hashByValue n v=pure true) (x:STab s.heap a o ep t gh) (hk:∀ e∈gh,∃ k,TK knd s.heap e.2 k) (hx:IsTupleKey knd s.heap kx c) (hroom:gh.length + 1<=2000)
  (q1:(∃ e∈gh,TK knd s.heap e.2 kx)->Q false s)
  (q2:(∀ e∈gh,¬ TK knd s.heap e.2 kx)->∀ h' o' tf t' qb,Heap.SameBut a s.heap h'->STab h' a o' tf t' qb->(qb.map (·.2)).Perm (gh.map (·.2) ++ [(tupleKeyHash knd kx,.ref c)])->Q true { s with heap:=h' }) :
  wpAny (model prog w) A (setAddHashed a (.ref c) (tupleKeyHash knd kx)) Q E s:=by
 unfold setAddHashed setAddHashedIn;refine wpAny_holding (Al (wpAny_setState_of x.ho x.hd x.fits ?_));dsimp only;rw [Zen];simp only [Bool.false_eq_true,if_false];obtain ⟨N,n1,n2,n3⟩:=x.way (tupleKeyHash knd kx);unfold setSearch;refine Al (U2 (knd:=knd) hu x hk hx n2 n3 n1 (λh=>?_) (λh i hi=>?_) 100000 0 none (Az _) (Zex x.b1 n1) Y (λn' z=>absurd z (Nat.not_lt_zero _)))
 rotate_left
 ·exact wpAny_pure (q1 h)
 have q2:=q2 h;dsimp only;refine Al (wpAny_setState_of x.ho x.hd x.fits ?_);dsimp only;generalize hp:below (gh.map (·.1)).toArray (pth t.mask (tupleKeyHash knd kx) N).j=p;have g':=x.gd.put (x:=.ref c) n2 n3 hp.symm;have hput:t.put (pth t.mask (tupleKeyHash knd kx) N).j=({ t with place:=((gh.take p ++ ((pth t.mask (tupleKeyHash knd kx) N).j,tupleKeyHash knd kx,Value.ref c) :: gh.drop p).map (·.1)).toArray,dummies:=#[] },p):=by
  unfold SetTable.put
  rw [x.pl,x.dm,Zew,hp]
  dsimp only
  rw [U1]
  simp only [Bool.false_eq_true,if_false,Aj,List.map_cons,List.map_take,List.map_drop]
 rw [hput];dsimp only;have hins:insertAt (gh.map (·.2)).toArray p (tupleKeyHash knd kx,Value.ref c)=((gh.take p ++ ((pth t.mask (tupleKeyHash knd kx) N).j,tupleKeyHash knd kx,Value.ref c) :: gh.drop p).map (·.2)).toArray:=by
  rw [U1]
  simp only [Aj,List.map_cons,List.map_take,List.map_drop]
 rw [hins];have gq:((gh.take p ++ ((pth t.mask (tupleKeyHash knd kx) N).j,tupleKeyHash knd kx,Value.ref c) :: gh.drop p).map (·.2)).Perm (gh.map (·.2) ++ [(tupleKeyHash knd kx,Value.ref c)]):=by
  rw [Aj,List.map_cons]
  refine List.perm_middle.trans ((List.perm_append_singleton _ _).symm.trans ?_ |>.trans (List.Perm.refl _))
  rw [<- Aj,List.take_append_drop]
 have gc:(gh.take p ++ ((pth t.mask (tupleKeyHash knd kx) N).j,tupleKeyHash knd kx,Value.ref c) :: gh.drop p).length=gh.length + 1:=by
  have:=gq.length_eq;simp only [Ab,Ae,List.length_cons,List.length_nil] at this ⊢;lia
 generalize gh.take p ++ ((pth t.mask (tupleKeyHash knd kx) N).j,tupleKeyHash knd kx,Value.ref c) :: gh.drop p=tab1 at g' gq gc;have rest:∀ t1:SetTable,t1.mask=t.mask->t1.place=(tab1.map (·.1)).toArray->t1.dummies=#[]->wpAny (model prog w) A (do
   storeSet a (tab1.map (·.2)).toArray t1
   if (!false && t1.tooFull)=true then do
    setRelay a (grown ((gh.map (·.2)).toArray.size + 1))
    pure true
   else pure true) Q E s:=λt1 e1 e2 e3=>by
  have hz:(tab1.map (·.2)).toArray.size<=sizeLine:=by rw [Aq,Ab,gc,sizeLine_eq]; lia
  refine Al (wpAny_storeSet_of x.ho x.hd ?_ hz)
  have r6:(s.heap.update a (Obj.putSet (tab1.map (·.2)).toArray t1)).get? a=some { o with data:=.set (tab1.map (·.2)).toArray (ep + 1) t1 }:=by
   have:=Heap.get?_update_self (Obj.putSet (tab1.map (·.2)).toArray t1) x.ho (by rw [putSet_of _ t1 x.hd]; rfl)
   rw [putSet_of _ t1 x.hd] at this; exact this
  have sb1:=Heap.SameBut.update s.heap a (Obj.putSet (tab1.map (·.2)).toArray t1)
  have rg:t1.fill=gh.length + 1:=by unfold SetTable.fill; rw [e2,e3,Aq,Ab,gc]; rfl
  have xb1:=x.b1
  have xb2:=x.b2
  by_cases qg:t1.tooFull=true
  ·rw [qg]
   simp only [Bool.not_false,Bool.and_self,if_true]
   refine Al ?_
   unfold setRelay
   have o3:t1.fits (tab1.map (·.2)).toArray.size=true:=by
    have:=x.rm
    simp only [SetTable.fits,Bool.and_eq_true,beq_iff_eq,decide_eq_true_eq,rg,e1,e2,Aq,Ab]
    exact ⟨trivial,by lia⟩
   refine Al (wpAny_setState_of r6 Y o3 ?_)
   dsimp only
   have ub:grown ((gh.map (·.2)).toArray.size + 1)=(gh.length + 1) * 4:=by
    unfold grown
    rw [Aq,Ab,if_neg (by lia)]
   rw [ub]
   obtain ⟨k,k1,k2,k3,k4⟩:=Zj7 (n:=(gh.length + 1) * 4) (by lia)
   have hk13:2 ^ k<=2 ^ 13:=Nat.pow_le_pow_right (by decide) k2
   have hk3:2 ^ 3<=2 ^ k:=Nat.pow_le_pow_right (by decide) k1
   have c13:(2:Nat) ^ 13=8192:=by decide
   have c3:(2:Nat) ^ 3=8:=by decide
   rw [if_neg (by rw [k3,sizeLine_eq]; lia)]
   obtain ⟨jf,l1,l2,kc,l3,l4⟩:=Zl2 (m:=2 ^ k - 1) (k:=k) (by lia) (es:=tab1.map (·.2)) (by rw [Ab,gc]; lia) t1.finger (t1.movedTo (2 ^ k - 1)) t1.led t1.plain
   have hrel:t1.relaid ((tab1.map (·.2)).toArray.map (·.1)) ((gh.length + 1) * 4)=some ({ mask:=2 ^ k - 1,place:=(jf.map (·.1)).toArray,dummies:=#[],finger:=t1.finger,led:=t1.led,moves:=t1.movedTo (2 ^ k - 1),plain:=t1.plain },kc):=by
    unfold relaid
    rw [k3,List.map_toArray,l3]
   rw [hrel]
   have iw:jf.length=gh.length + 1:=by have:=l2.length_eq; rw [Ab,Ab,gc] at this; exact this
   refine Al ?_
   show wpAny _ _ (if ((kc.filterMap ((tab1.map (·.2)).toArray[·]?)).size != (tab1.map (·.2)).toArray.size)=true then _ else _) _ _ _
   rw [l4]
   have hsz:((jf.map (·.2)).toArray.size != (tab1.map (·.2)).toArray.size)=false:=by
    rw [Aq,Aq,Ab,Ab,iw,gc]; simp
   rw [hsz]
   simp only [Bool.false_eq_true,if_false]
   refine wpAny_pure ?_
   dsimp only
   have uo:(jf.map (·.2)).toArray.size<=sizeLine:=by rw [Aq,Ab,iw,sizeLine_eq]; lia
   refine wpAny_storeSet_of r6 Y ?_ uo
   refine wpAny_pure (q2 _ { o with data:=.set (jf.map (·.2)).toArray (ep + 1 + 1) { mask:=2 ^ k - 1,place:=(jf.map (·.1)).toArray,dummies:=#[],finger:=t1.finger,led:=t1.led,moves:=t1.movedTo (2 ^ k - 1),plain:=t1.plain } } (ep + 1 + 1) { mask:=2 ^ k - 1,place:=(jf.map (·.1)).toArray,dummies:=#[],finger:=t1.finger,led:=t1.led,moves:=t1.movedTo (2 ^ k - 1),plain:=t1.plain } jf (sb1.trans (Heap.SameBut.update _ a _)) ⟨?_,x.ex,Y,Y,Y,l1,⟨k,by show 2 ^ k - 1 + 1=_; lia⟩,by show 2 ^ k - 1<=8191; lia,by show 7<=2 ^ k - 1; lia,by show jf.length * 5 < (2 ^ k - 1) * 3; lia⟩ (l2.trans gq))
   have:=Heap.get?_update_self (Obj.putSet (jf.map (·.2)).toArray { mask:=2 ^ k - 1,place:=(jf.map (·.1)).toArray,dummies:=#[],finger:=t1.finger,led:=t1.led,moves:=t1.movedTo (2 ^ k - 1),plain:=t1.plain }) r6 (by rw [putSet_of _ _ rfl]; rfl)
   rw [putSet_of _ _ rfl] at this
   exact this
  ·rw [Bool.eq_false_iff.mpr qg]
   simp only [Bool.not_false,Bool.and_false,Bool.false_eq_true,if_false]
   refine wpAny_pure (q2 _ _ _ t1 tab1 sb1 ⟨r6,x.ex,Y,e2,e3,e1 ▸ g',e1 ▸ x.pw,e1 ▸ x.b1,e1 ▸ x.b2,?_⟩ gq)
   unfold SetTable.tooFull at qg
   rw [decide_eq_true_iff,rg] at qg
   rw [gc]
   lia
 split
 ·refine Al (Zd4 hv hx ?_)
  exact rest _ Y Y Y
 ·refine Al (wpAny_pure ?_)
  exact rest _ Y Y Y
end
end L2
namespace L2
open PySem PySem.Spec PyProof.Rows
end L2
namespace PySem.F
end PySem.F
namespace L2
open PySem PySem.Spec PyProof.Rows
def dd (ks:List Int):List Int:=ks.foldl step_dedup []
end L2
namespace L2
open PySem PySem.Spec PyProof.Rows PySem.W
end L2
namespace L2
open PySem PySem.Spec PyProof.Rows PySem.W PySem.SetTable
def TSO (P:Program) (w:World) (a:Addr) (xs:List (List Int × Addr)) (h:Heap):Prop:=∃ o ep t gh,STab h a o ep t gh/\(gh.map (·.2)).Perm (xs.map λq=>(tupleKeyHash (intKind P w) q.1,Value.ref q.2))
def Yv (P:Program) (w:World) (a:Addr) (xs:List (List Int × Addr)):HO:=.ext (TSO P w a xs)
def Xg (H:Hp) (xs:List (List Int × Addr)):Prop:=∀ q∈xs,H q.2=some (.tup (q.1.map V.int))
def Xg.same (h:Xg H xs) (s:Same H H'):Xg H' xs:=λq hq=>s _ _ (h q hq)
def Xg.snoc {k:List Int} (h:Xg H xs) (hb:H b=some (.tup (k.map V.int))):Xg H (xs ++ [(k,b)]):=λq hq=>by
 rcases List.mem_append.mp hq with z | z
 ·exact h q z
 ·rw [Af z]; exact hb
section
variable {X:Cx}
def Zd8 (x:TSO X.prog X.w a xs h):Z9 X.prog X.w H h a (Yv X.prog X.w a xs):=by
 refine ⟨x,?_,λh1 h2 w1 k=>?_⟩
 ·obtain ⟨o,_,_,_,tt,_⟩:=x
  exact ⟨o,tt.ho⟩
 ·obtain ⟨o,ep,t,gh,tt,pm⟩:=w1
  exact ⟨o,ep,t,gh,⟨k _ tt.ho,tt.ex,tt.hd,tt.pl,tt.dm,tt.gd,tt.pw,tt.b1,tt.b2,tt.rm⟩,pm⟩
theorem Gw:∀ {k:List Int} {its:List Value},Vals (k.map V.int) its->ItemsAre (intKind X.prog X.w) k its
 | [],its,h=>by cases h; exact .nil
 | i :: k,its,h=>by
  cases h with
  | cons r t =>
   obtain ⟨tk,rfl⟩:=r;exact .cons (intKind_is _ _ _ _) (Gw t)
def V5 {s:Shared} (I:Inv X f8 σ H s) {k:List Int} (h:H b=some (.tup (k.map V.int))):IsTupleKey (intKind X.prog X.w) s.heap k b:=by
 obtain ⟨its,rv,⟨o,ho,hc,m,hd⟩,_⟩:=I.tuple (SqT.of h);exact ⟨o,_,m,ho,hc,hd,by simpa using Gw rv⟩
def Zbb {s:Shared} (I:Inv X f8 σ H s) {xs:List (List Int × Addr)} {gh:List (Nat × Int × Value)} (hk:Xg H xs) (pm:(gh.map (·.2)).Perm (xs.map λq=>(tupleKeyHash (intKind X.prog X.w) q.1,Value.ref q.2))):∀ e∈gh,∃ k,TK (intKind X.prog X.w) s.heap e.2 k:=λe he=>by
 obtain ⟨q,hq,e2⟩:=List.mem_map.mp (pm.mem_iff.mp (List.mem_map.mpr ⟨e,he,rfl⟩));exact ⟨q.1,by rw [<- e2],q.2,by rw [<- e2],V5 I (hk q hq)⟩
def Kz {s:Shared} (I:Inv X f8 σ H s) {xs:List (List Int × Addr)} {gh:List (Nat × Int × Value)} (hk:Xg H xs) (pm:(gh.map (·.2)).Perm (xs.map λq=>(tupleKeyHash (intKind X.prog X.w) q.1,Value.ref q.2))) {k:List Int}:(∃ e∈gh,TK (intKind X.prog X.w) s.heap e.2 k) ↔ k∈xs.map (·.1):=by
 constructor
 ·rintro ⟨e,he,_,b,e1,e2⟩
  obtain ⟨q,hq,e3⟩:=List.mem_map.mp (pm.mem_iff.mp (List.mem_map.mpr ⟨e,he,rfl⟩));have:q.2=b:=by rw [<- e3] at e1; injection e1
  have h1:=V5 I (hk q hq);rw [this] at h1;exact List.mem_map.mpr ⟨q,hq,h1.inj e2⟩
 ·intro h
  obtain ⟨q,hq,rfl⟩:=List.mem_map.mp h;obtain ⟨e,he,e2⟩:=List.mem_map.mp (pm.mem_iff.mpr (List.mem_map.mpr ⟨q,hq,rfl⟩));exact ⟨e,he,by rw [e2],q.2,by rw [e2],V5 I (hk q hq)⟩
def Zf6:Y5 X (.type "set") (λxs H Q=>xs=[]/\∀ p,H p=none->Q (.ref p) (upd H p (Yv X.prog X.w p []))):=by
 intro f8 s σ H xs us Q I r h;obtain ⟨rfl,q⟩:=h;cases r;refine call_set_0 λled=>?_;refine ⟨.ref s.heap.objs.size,_,I.laid (t':=s.toks) (λb o e=>Ak _ e) (An _) (Zd8 ?_),Y,q _ (I.hok.fresh (An _))⟩;exact ⟨_,0,.fresh 0 0 led,[],⟨Ap _ Y,⟨Y,Y,Y⟩,Y,Y,Y,Good.nil _,⟨3,Y⟩,by show 7<=8191; decide,by show 7<=7; decide,by show 0 * 5 < 7 * 3; decide⟩,List.Perm.refl _⟩
def STab.typeIs {s:Shared} (x:STab s.heap a o ep t gh):s.TypeIs (.ref a) "set":=⟨o,x.ho,x.ex.1⟩
def Zcm (hu:X.A.units + 64 < cLine):OpR X (compareOp .NotIn) (λx y H Q=>∃ b k p xs,x=.ref b/\y=.ref p/\H b=some (.tup (k.map V.int))/\H p=some (Yv X.prog X.w p xs)/\Xg H xs/\Q (.bl (!decide (k∈xs.map (·.1)))) H):=by
 intro f8 s σ H x y v u Q I rx ry h;obtain ⟨b,k,p,xs,rfl,rfl,hb,hp,hk,q⟩:=h;cases rx;cases ry;obtain ⟨⟨o,ep,t,gh,tt,pm⟩,_⟩:Z9 X.prog X.w H s.heap p (Yv X.prog X.w p xs):=I.hok p _ hp;have k6:=V5 I hb;show wpAny _ _ (do return Value.bool (!(<- contains (.ref p) (.ref b)))) _ _ s;refine Al ?_;unfold contains
 try with_reducible refine wpAny_holding ?_
 refine Al (wpAny_specialOf tt.typeIs F.slot_set_contains.lookup ?_);show wpAny _ _ (if (some (Value.builtin "set.__contains__") == some Value.none)=true then _ else _) _ _ s;rw [if_neg (by rw [beq_builtin_none]; exact Bool.false_ne_true)];refine Al (wpAny_callSpecialUnlessNone?_slot (name:=Str.ofString "__contains__") tt.typeIs F.slot_set_contains
  (wpAny_call_entry F.slot_set_contains tt.typeIs entry_set_contains ?_ (F.args_set_contains_2 _ _)))
 unfold Builtin.«frozenset.__contains__» Builtin.Frozenset.oneOther;simp only [List.isEmpty_nil,bind_assoc];unfold Builtin.Frozenset.addrOf Builtin.Frozenset.withSetAsKey setContains;refine Al (wpAny_pure ?_)
 try dsimp only
 refine Al (wpAny_pure ?_)
 try dsimp only
 refine Al (wpAny_tryCatch ?_);refine wpAny_holding ?_;refine Al (wpAny_pyHash_tuple (by show X.A.units + _ < _; lia) k6 ?_);refine Al (Zkv (knd:=intKind X.prog X.w) (s:={ s with toks:=s.toks + (k.length + 1) }) (by show X.A.units + _ < _; lia) tt (Zbb I hk pm) k6 (λh=>?_) (λh i=>?_))
 ·refine wpAny_pure ?_
  show wpAny _ _ (ret (Value.bool _)) _ _ _;refine wpAny_pure ⟨_,Y,wpAny_truthy_bool (wpAny_pure ⟨.bl _,H,I.tok _,Y,?_⟩)⟩;have:¬ k∈xs.map (·.1):=λz=>by obtain ⟨e,he,h'⟩:=(Kz I hk pm).mpr z; exact h e he h'
  rw [decide_eq_false this] at q;exact q
 ·refine wpAny_pure ?_
  show wpAny _ _ (ret (Value.bool _)) _ _ _;refine wpAny_pure ⟨_,Y,wpAny_truthy_bool (wpAny_pure ⟨.bl _,H,I.tok _,Y,?_⟩)⟩;rw [decide_eq_true ((Kz I hk pm).mp h)] at q;exact q
def Gm {gu gm:Pos} (hu:X.A.units + 64 < cLine) (ho:PE X o to) (ha:PA X [e] t)
  (ke:attributeBase o "add" X.env (eval o X.env)=eval o X.env:=by rfl)
  (t7:((backTo gm (starEach [e] X.env)).all (λx=>!x.1) && (backToKw gm (keywordEach [] X.env)).all (λx=>x.1.isSome)
   && decide ([e].length + ([]:List Keyword).length + (if ([]:List Keyword).isEmpty then 0 else 1) < 30))=true:=by rfl)
  (oj:(gu.endLine == gm.line)=true:=by rfl) (hs:starEach [e] X.env=(false,eval e X.env) :: starEach [] X.env:=by rfl) :
  PE X (.Call (.Attribute o "add" gu) [e] [] gm) (λσ H Q=>to σ H λx H1=>∃ p xs0,x=.ref p/\H1 p=some (Yv X.prog X.w p xs0)/\t σ H1 λvs H2=>∃ b k xs,vs=[.ref b]/\H2 b=some (.tup (k.map V.int))/\H2 p=some (Yv X.prog X.w p xs)/\Xg H2 xs/\xs.length + 1<=2000/\(k∈xs.map (·.1)->Q .non H2)/\(k ∉ xs.map (·.1)->Q .non (upd H2 p (Yv X.prog X.w p (xs ++ [(k,b)]))))):=by
 intro f8 s σ H Q I h;refine wpAny_Call_method_late ke t7 oj Y (thn (ho f8 s σ H _ I h) λv s1 gk=>?_);obtain ⟨x,H1,I1,r1,p,xs0,ex,hp0,q1⟩:=gk;subst ex;cases r1;obtain ⟨⟨o0,ep0,t0,tab0,yo,_⟩,_⟩:Z9 X.prog X.w H1 s1.heap p (Yv X.prog X.w p xs0):=I1.hok p _ hp0;refine ⟨"set",_,PySem.F.plainAttrs_set,PySem.F.slot_set_add,PySem.F.type_set_add,⟨o0,yo.ho,yo.ex.1⟩,λa z=>by cases z; exact ⟨o0,yo.ho,yo.ex.2.1⟩,?_⟩;have hA:=ha gm f8 s1 σ H1 _ I1 q1;rw [hs] at hA ⊢;refine Calls.callWith_builtin Y (Calls.evalArgs_plain ?_);refine thn hA λus s2 gk=>?_;obtain ⟨vs,H2,I2,r2,b,k,xs,ev,hb,hp,hk,hl,qy,qn⟩:=gk;subst ev;obtain ⟨u,rfl,ru⟩:=Wb r2;cases ru;obtain ⟨⟨o,ep,t,gh,tt,pm⟩,_⟩:Z9 X.prog X.w H2 s2.heap p (Yv X.prog X.w p xs):=I2.hok p _ hp;have k6:=V5 I2 hb;have gc:gh.length=xs.length:=by have:=pm.length_eq; rw [Ab,Ab] at this; exact this
 refine wpAny_call_entry PySem.F.slot_set_add tt.typeIs PySem.F.entry_set_add ?_ (PySem.F.args_set_add_2 _ _);unfold Builtin.«set.add» Builtin.Frozenset.oneOther;simp only [List.isEmpty_nil,bind_assoc];unfold Builtin.Frozenset.addrOf setAdd;refine Al (wpAny_pure ?_)
 try dsimp only
 refine Al ?_;refine wpAny_holding ?_;refine Al (wpAny_pyHash_tuple (by show X.A.units + _ < _; lia) k6 ?_);refine Zmq (knd:=intKind X.prog X.w) (s:={ s2 with toks:=s2.toks + (k.length + 1) }) (by show X.A.units + _ < _; lia) (λk v n hv=>?_) tt (Zbb I2 hk pm) k6 (by lia) (λh=>?_) (λh h' o' tf t' qb sb tt' pm'=>?_)
 ·have:v.isInt k=true:=by simpa [intKind] using hv
  cases v <;> simp [Value.isInt] at this;cases n <;> rfl
 ·show wpAny _ _ (ret Value.none) _ _ _
  exact wpAny_pure ⟨_,Y,.non,_,I2.tok _,Y,qy ((Kz I2 hk pm).mp h)⟩
 ·show wpAny _ _ (ret Value.none) _ _ _
  refine wpAny_pure ⟨_,Y,?_⟩;have hn:k ∉ xs.map (·.1):=λz=>by obtain ⟨e,he,h'⟩:=(Kz I2 hk pm).mpr z; exact h e he h'
  refine ⟨.non,_,I2.write (t':=s2.toks + (k.length + 1)) (x:=p) (e:=p) (by rw [hp]; exact trivial) (.inl Y) (λb' u hb hu=>(sb.2 b' hb).trans hu) ⟨_,tt'.ho⟩ (Zd8 ⟨o',tf,t',qb,tt',?_⟩),Y,qn hn⟩;refine pm'.trans ?_;rw [Aj];exact pm.append (List.Perm.refl _)
end
end L2
namespace L2
open PySem PyProof.Rows
def CmpK (prog:Program) (w:World) (A:Around) (E:Value->Shared->Prop) (s:Shared) (κ:SortKind) (ok:Keyed->Prop) (key:Keyed->Nat):Prop :=
 ∀ x y,ok x->ok y->∀ (st:SortSt) (Q:Option Bool->SortSt->Prop),kindOf st=κ->Q (some (decide (key x < key y))) st->wpS (model prog w) A E s (lt' x y) Q st
section
variable {key:Keyed->Nat}
abbrev UpK (key:Keyed->Nat) (l:List Keyed):Prop:=l.Pairwise λx y=>key x<=key y
end
section
variable {prog:Program} {w:World} {A:Around} {E:Value->Shared->Prop} {s:Shared} {κ:SortKind} {ok:Keyed->Prop} {key:Keyed->Nat}
def Zd7 {arr:Array Keyed} {i:Nat} {x:Keyed} {st:SortSt} {Q:Keyed->SortSt->Prop} (h:arr[i]?=some x) (q:Q x st):wpS (model prog w) A E s (elem' arr i) Q st:=by
 rw [elem'_eq,h];exact wpS_pure q
end
section
variable {prog:Program} {w:World} {A:Around} {E:Value->Shared->Prop} {s:Shared} {κ:SortKind} {ok:Keyed->Prop} {key:Keyed->Nat}
def Ze6 {xs:Array Keyed} {i:Nat} (hi:i < xs.size):∃ x,xs[i]?=some x/\x∈xs.toList:=⟨xs[i],Array.getElem?_eq_getElem hi,by simp⟩
end
def kn (key:Keyed->Nat) (xs:Array Keyed) (i:Nat):Nat:=((xs[i]?).map key).getD 0
def Gu {xs:Array Keyed} (h:xs[i]?=some x):kn key xs i=key x:=by unfold kn; rw [h]; rfl
def SRk (key:Keyed->Nat) (xs:Array Keyed) (lo hi:Nat):Prop:=∀ i j,lo<=i->i<=j->j < hi->kn key xs i<=kn key xs j
structure ChgS (lo:Nat) (st gl:SortSt):Prop where
 kind:kindOf gl=kindOf st
 pend:pendingOf gl=pendingOf st
 fail:failedOf gl=failedOf st
 perm:(arrOf gl).Perm (arrOf st)
 low:∀ z:Nat,z < lo->(arrOf gl)[z]?=(arrOf st)[z]?
def ChgS.refl (lo:Nat) (st:SortSt):ChgS lo st st:=⟨rfl,rfl,rfl,Array.Perm.refl _,λ_ _=>rfl⟩
def ChgS.size {lo:Nat} {a b:SortSt} (h:ChgS lo a b):(arrOf b).size=(arrOf a).size:=h.perm.size_eq
def Zcx {xs ys:Array Keyed} (h:xs.Perm ys) {x:Keyed} (hx:x∈xs.toList):x∈ys.toList:=(Array.perm_iff_toList_perm.mp h).mem_iff.mp hx
section
variable {prog:Program} {w:World} {A:Around} {E:Value->Shared->Prop} {s:Shared} {κ:SortKind} {ok:Keyed->Prop} {key:Keyed->Nat}
def Zkr (hc:CmpK prog w A E s κ ok key) {st:SortSt} {i j:Nat} (hk:kindOf st=κ) (ho:∀ p∈(arrOf st).toList,ok p) (hi:i < (arrOf st).size) (hj:j < (arrOf st).size) {Q:Option Bool->SortSt->Prop} (q:Q (some (decide (kn key (arrOf st) i < kn key (arrOf st) j))) st):wpS (model prog w) A E s (ltAt' i j) Q st:=by
 obtain ⟨x,ex,mx⟩:=Ze6 hi;obtain ⟨y,ey,my⟩:=Ze6 hj;rw [Gu ex,Gu ey] at q;rw [ltAt'_eq];refine wpS_bind (wpS_get ?_);refine wpS_bind (Zd7 ex ?_);refine wpS_bind (Zd7 ey ?_);exact hc x y (ho x mx) (ho y my) st _ hk q
structure CRun (prog:Program) (w:World) (A:Around) (E:Value->Shared->Prop) (s:Shared) (κ:SortKind) (ok:Keyed->Prop) (key:Keyed->Nat) (st:SortSt) (lo il:Nat):Prop where
 hc:CmpK prog w A E s κ ok key
 hk:kindOf st=κ
 ho:∀ p∈(arrOf st).toList,ok p
 hn:lo + il<=(arrOf st).size
section
variable {st:SortSt} {lo il:Nat}
def CRun.lt (h:CRun prog w A E s κ ok key st lo il) (c:ChgS lo st gl) (hi:i < lo + il) (hj:j < lo + il) (q:Q (some (decide (kn key (arrOf gl) i < kn key (arrOf gl) j))) gl):wpS (model prog w) A E s (ltAt' i j) Q gl :=
 Zkr h.hc (c.kind.trans h.hk) (λp hp=>h.ho p (Zcx c.perm hp)) (by rw [c.size]; have:=h.hn; lia) (by rw [c.size]; have:=h.hn; lia) q
theorem CRun.asc (h:CRun prog w A E s κ ok key st lo il) (c:ChgS lo st gl) {a:Nat} (ha:1<=a) (han:a<=il) (hs:SRk key (arrOf gl) lo (lo + a))
  (q:∀ n,a<=n->n<=il->SRk key (arrOf gl) lo (lo + n)->(n=il\/kn key (arrOf gl) (lo + n) < kn key (arrOf gl) (lo + n - 1))->Q (none,n) gl) :
  wpS (model prog w) A E s (forIn [a:il] ((none,a):Option (Option Nat) × Nat) λ_ __s=>do
   let __x <- ltAt' (lo + __s.snd) (lo + __s.snd - 1)
   match __x with
   | some smaller=>if smaller=true then pure (ForInStep.done (none,__s.snd)) else pure (ForInStep.yield (none,__s.snd + 1))
   | _=>pure (ForInStep.done (some none,__s.snd))) Q gl:=by
 refine wpS_forRange (I:=λx c ii=>ii=gl/\c=(none,x)/\SRk key (arrOf gl) lo (lo + x)) ?step ?ik ⟨Y,Y,hs⟩
 case ik =>
  rintro c ii ⟨rfl,rfl,j6⟩;rw [show max a il=il by lia] at j6 ⊢;exact q il han (An _) j6 (.inl Y)
 case step =>
  rintro x c2 ii hax hxn ⟨rfl,rfl,j6⟩;dsimp only;refine wpS_bind (h.lt c (by lia) (by lia) ?_);dsimp only;by_cases lt:kn key (arrOf ii) (lo + x) < kn key (arrOf ii) (lo + x - 1)
  ·rw [decide_eq_true lt,if_pos rfl]
   exact wpS_pure (q x hax (by lia) j6 (.inr lt))
  ·rw [decide_eq_false lt,if_neg (by decide)]
   refine wpS_pure ⟨Y,Y,λi j h1 h2 h3=>?_⟩
   rcases Nat.lt_or_ge j (lo + x) with z | z
   ·exact j6 i j h1 h2 z
   ·have hj:j=lo + x:=by lia
    subst hj
    rcases Nat.lt_or_ge i (lo + x) with z2 | z2
    ·have:=j6 i (lo + x - 1) h1 (by lia) (by lia)
     lia
    ·have:i=lo + x:=by lia
     rw [this]; exact An _
end
end
section
variable {prog:Program} {w:World} {A:Around} {E:Value->Shared->Prop} {s:Shared} {κ:SortKind} {ok:Keyed->Prop} {key:Keyed->Nat}
def Zn1 (xs:Array Keyed) (i j:Nat) (hj:j<=xs.size) (z:Nat):(xs.extract i j)[z]?=if z < j - i then xs[i + z]? else none:=by
 rw [Array.getElem?_extract,Nat.min_eq_left hj]
def Zmn {xs:Array Keyed} (hj:j<=xs.size) (h:SRk key xs i j):UpK key (xs.extract i j).toList:=by
 unfold UpK;rw [List.pairwise_iff_getElem];intro a b ha hb gz
 have g:∀ z (hz:z < (xs.extract i j).toList.length),z < j - i/\xs[i + z]?=some (xs.extract i j).toList[z]:=λz hz=>by
  have e2:(xs.extract i j)[z]?=some (xs.extract i j).toList[z]:=by rw [<- Array.getElem?_toList,Ac hz]
  rw [Zn1 xs i j hj] at e2;split at e2
  ·rename_i c; exact ⟨c,e2⟩
  ·cases e2
 obtain ⟨a1,a2⟩:=g a ha;obtain ⟨b1,b2⟩:=g b hb;have:=h (i + a) (i + b) (by lia) (by lia) (by lia);rwa [Gu a2,Gu b2] at this
end
def Ch5:Nat->List (Nat × Nat)->Nat->Prop
 | a,[],b=>a=b
 | a,(x,n) :: r,b=>x=a/\1<=n/\Ch5 (a + n) r b
theorem Zdd:∀ {qs:List (Nat × Nat)} {a b n:Nat},Ch5 a qs b->1<=n->Ch5 a (qs ++ [(b,n)]) (b + n)
 | [],a,b,n,h,hn=>by have:a=b:=h; subst this; exact ⟨Y,hn,Y⟩
 | (x,m) :: r,a,b,n,h,hn=>⟨h.1,h.2.1,Zdd h.2.2 hn⟩
def pr2 (q:Nat × Nat × Nat):Nat × Nat:=(q.1,q.2.1)
structure SInv (κ:SortKind) (ok:Keyed->Prop) (key:Keyed->Nat) (a₀:Array Keyed) (st:SortSt) (qs:List (Nat × Nat)) (lo:Nat):Prop where
 kind:kindOf st=κ
 fail:failedOf st=none
 perm:(arrOf st).Perm a₀
 pend:(pendingOf st).toList.map pr2=qs
 ch:Ch5 0 qs lo
 runs:∀ q∈qs,SRk key (arrOf st) q.1 (q.1 + q.2)
 le:lo<=a₀.size
 oks:∀ p∈a₀.toList,ok p
section
variable {prog:Program} {w:World} {A:Around} {E:Value->Shared->Prop} {s:Shared} {κ:SortKind} {ok:Keyed->Prop} {key:Keyed->Nat} {a₀:Array Keyed}
def SInv.ok' {st:SortSt} {qs:List (Nat × Nat)} {lo:Nat} (h:SInv κ ok key a₀ st qs lo):∀ p∈(arrOf st).toList,ok p:=λp hp=>h.oks p (Zcx h.perm hp)
def SInv.sz {st:SortSt} {qs:List (Nat × Nat)} {lo:Nat} (h:SInv κ ok key a₀ st qs lo):(arrOf st).size=a₀.size:=h.perm.size_eq
end
end L2
namespace L2
open PySem PySem.Spec PyProof.Rows PySem.W
def Zlh {ts:List Addr}:∀ {its:List Value},Vals (ts.map V.ref) its->its=ts.map Value.ref:=by
 induction ts with
 | nil=>intro its h; cases h; rfl
 | cons t r ih =>
  intro its h
  cases h with
  | cons a b =>
   obtain rfl:=(show _=Value.ref t from a);rw [ih b];rfl
def rkL (ls:List (List Int)) (l:List Int):Nat:=(ls.filter λx=>HT.lexLt x l).length
def Zaz (h:HT.lexLt l' l=false):rkL ls l<=rkL ls l':=by
 unfold rkL
 induction ls with
 | nil=>exact An _
 | cons x r ih =>
  have imp:HT.lexLt x l=true->HT.lexLt x l'=true:=λz=>by
   cases e:HT.lexLt x l' with
   | true=>rfl
   | false=>rw [HT.lex_le h e] at z; cases z
  rw [List.filter_cons,List.filter_cons]
  cases e1:HT.lexLt x l with
  | true=>rw [imp e1]; simp only [if_true,List.length_cons]; lia
  | false =>
   simp only [Bool.false_eq_true,if_false];split
   ·rw [List.length_cons]; lia
   ·exact ih
def Zom (hm:l∈ls) (h:HT.lexLt l l'=true):rkL ls l < rkL ls l':=by
 have hn:HT.lexLt l' l=false:=by
  cases e:HT.lexLt l' l with
  | false=>rfl
  | true=>have:=HT.lex_trans _ _ _ h e; rw [HT.lex_irr] at this; cases this
 obtain ⟨A,B,rfl⟩:=List.append_of_mem hm;have a1:=Zaz (ls:=A) hn;have b1:=Zaz (ls:=B) hn;unfold rkL at a1 b1 ⊢;rw [List.filter_append,List.filter_append,Ae,Ae,List.filter_cons,List.filter_cons,HT.lex_irr,h];simp only [Bool.false_eq_true,if_false,if_true,List.length_cons];lia
def Zgz (hm:l∈ls):decide (rkL ls l < rkL ls l')=HT.lexLt l l':=by
 cases e:HT.lexLt l l' with
 | true=>exact decide_eq_true (Zom hm e)
 | false=>have:=Zaz (ls:=ls) e; exact decide_eq_false (by lia)
section
variable {prog:Program} {w:World} {A:Around} {E:Value->Shared->Prop} {s:Shared}
def LsC (as:List Addr) (c:Addr->List Int) (h:Heap):Prop:=∀ a∈as,∃ its:List Value,h.IsList a its.toArray/\IntsAre its (c a)
def Znm {xs ys:Array Value} (hl:s.heap.IsList l xs) (hb:s.heap.IsList b ys) (hi:IntsAre xs.toList ns) (hj:IntsAre ys.toList ms) (hu:A.units < cLine) (h:Q (HT.lexLt ns ms) s):wpAny (model prog w) A (oneLt' true (.ref l) (.ref b)) Q E s:=by
 obtain ⟨⟨cls,dd,data,sl⟩,ho,hc,n,hd⟩:=id hl;obtain ⟨⟨cls2,qz,data2,qi⟩,rq,ki,n2,lu⟩:=id hb;simp only at hc hd ki lu;subst hc hd ki lu;rw [oneLt'_eq];simp only [if_true];refine Al (wpAny_cRoomFor hu ?_);refine Al (wpAny_callSpecialIfBound?_slot ⟨_,ho,Y⟩ PySem.F.slot_list_lt (call_meets PySem.F.slot_list_lt ⟨_,ho,Y⟩ PySem.F.entry_list_lt (PySem.F.args_list_lt_2 _ _) (_root_.HL.list_lt l b xs ys n n2 dd qz sl qi ns ms hi hj) ⟨ho,rq,?_⟩));exact wpAny_truthy_bool h
def Zfx {as:List Addr} (hJ:LsC as c s.heap) (hn:0 < as.length) (h:Q oneType' s):wpAny (model prog w) A (keyKind' (as.map Value.ref).toArray) Q E s:=by
 rw [keyKind'_eq,List.mapM_toArray];have ty:∀ a∈as,s.TypeIs (.ref a) "list":=λa ha=>by
  obtain ⟨its,⟨o,ho,hc,_⟩,_⟩:=hJ a ha
  exact ⟨o,ho,hc⟩
 have uc:∀ (l:List Addr),(∀ a∈l,a∈as)->∀ {Q:List (Option Value)->Shared->Prop},Q (l.map λ_=>none) s->wpAny (model prog w) A ((l.map Value.ref).mapM firstOfTuple') Q E s:=λl=>by
  induction l with
  | nil=>intro _ Q h; exact wpAny_pure h
  | cons a l ih =>
   intro hl Q h;rw [List.map_cons,List.mapM_cons];refine Al ?_;show wpAny _ _ (do if (<- typeOf (.ref a)) != .type "tuple" then return none else return (<- Builtin.List.listItems (.ref a))[0]?) _ _ _;refine Al (wpAny_typeOf (ty a (hl a List.mem_cons_self)) ?_);rw [if_pos (by decide)];refine wpAny_pure ?_;exact Al (ih (λb hb=>hl b (List.mem_cons_of_mem _ hb)) (wpAny_pure h))
 have yf:∀ (l:List Addr),(∀ a∈l,a∈as)->∀ {Q:List Value->Shared->Prop},Q (l.map λ_=>Value.type "list") s->wpAny (model prog w) A ((l.map Value.ref).mapM typeOf) Q E s:=λl=>by
  induction l with
  | nil=>intro _ Q h; exact wpAny_pure h
  | cons a l ih =>
   intro hl Q h;rw [List.map_cons,List.mapM_cons];refine Al (wpAny_typeOf (ty a (hl a List.mem_cons_self)) ?_);exact Al (ih (λb hb=>hl b (List.mem_cons_of_mem _ hb)) (wpAny_pure h))
 cases as with
 | nil=>simp at hn
 | cons a0 r =>
  refine Al ?_;refine wpAny_map ?_;refine uc (a0 :: r) (λa h=>h) ?_;rw [if_neg (by simp),if_neg (by simp)];rw [oneTypeOnly'_eq,List.mapM_toArray];refine Al (Al (wpAny_map (yf (a0 :: r) (λa h=>h) ?_)));have i8:((List.map (λ_=>Value.type "list") (a0 :: r)).toArray.all λx=>x == Value.type "list")=true:=by
   simp only [List.all_toArray,List.all_map,List.all_eq_true]
   intro _ _
   rfl
  have h0:(List.map (λ_=>Value.type "list") (a0 :: r)).toArray[0]?=some (Value.type "list"):=by simp
  rw [h0];simp only [i8,if_true];exact wpAny_pure (wpAny_pure h)
def LsC.stay {h h':Heap} {p:Addr} (hJ:LsC as c h) (p6:∀ a∈as,a≠p) (k:∀ b o,b≠p->h.get? b=some o->h'.get? b=some o):LsC as c h':=λa ha=>by
 obtain ⟨its,⟨o,ho,hc⟩,n⟩:=hJ a ha;exact ⟨its,⟨o,k a o (p6 a ha) ho,hc⟩,n⟩
def adrK (p:Keyed):Addr:=match p.1 with | .ref b=>b | _=>0
theorem Za5:∀ (as:List Addr),(as.map Value.ref).zip (as.map Value.ref)=as.map λb=>(Value.ref b,Value.ref b)
 | []=>rfl
 | a :: r=>by rw [List.map_cons,List.zip_cons_cons,Za5 r]; rfl
def Zij {as:List Addr} (hu:A.units < cLine) (hJ:LsC as c s.heap):CmpK prog w A E s oneType' (λp=>∃ b∈as,p=(Value.ref b,Value.ref b)) (λp=>rkL (as.map c) (c (adrK p))):=by
 rintro x y ⟨b1,m1,rfl⟩ ⟨b2,m2,rfl⟩ st Q hk q;have q:Q (some (decide (rkL (as.map c) (c b1) < rkL (as.map c) (c b2)))) st:=q;rw [Zgz (List.mem_map.mpr ⟨b1,m1,rfl⟩)] at q;obtain ⟨i1,l1,n1⟩:=hJ b1 m1;obtain ⟨i2,l2,n2⟩:=hJ b2 m2;rw [lt'_eq];refine wpS_bind (wpS_get ?_);rw [hk,keyLt'_oneType];refine wpS_bind (wpS_lift (wpAny_attempt (Znm l1 l2 (by simpa using n1) (by simpa using n2) hu ⟨Y,?_⟩)));exact wpS_pure q
end
theorem Zaa:∀ (f n r:Nat),r<=1->minRun' f n r<=n + r
 | 0,n,r,_=>An _
 | f + 1,n,r,hr=>by
  rw [minRun'_succ];split
  ·exact An _
  ·have:=Zaa f (n / 2) (max r (n % 2)) (by lia)
   lia
section
variable {prog:Program} {w:World} {A:Around} {E:Value->Shared->Prop} {s:Shared} {κ:SortKind} {ok:Keyed->Prop} {key:Keyed->Nat} {a₀:Array Keyed}
def CRun.countUp {st:SortSt} {lo il:Nat} (h:CRun prog w A E s κ ok key st lo il) (h1:1<=il) (up:SRk key (arrOf st) lo (lo + il)) {Q:Option Nat->SortSt->Prop} (q:Q (some il) st):wpS (model prog w) A E s (countRun' lo il) Q st:=by
 rw [countRun'_eq];dsimp only;have c0:=ChgS.refl lo st;refine wpS_bind (h.asc c0 (An 1) h1 (λi j i1 i2 i3=>by have e:i=j:=(by lia); rw [e]; exact An _) λn n1 n2 ns hor=>?_);dsimp only;have en:n=il:=by
  rcases hor with z | z
  ·exact z
  ·rcases Nat.lt_or_ge n il with y | y
   ·have:=up (lo + n - 1) (lo + n) (by lia) (by lia) (by lia)
    lia
   ·lia
 subst en;rw [if_pos (by simp)];exact wpS_pure q
def Zla (hc:CmpK prog w A E s κ ok key) {st:SortSt} (hk:kindOf st=κ) (hf:failedOf st=none) (hp:pendingOf st=#[]) (ho:∀ p∈(arrOf st).toList,ok p) (h2:2<=(arrOf st).size) (up:SRk key (arrOf st) 0 (0 + (arrOf st).size)) {Q:Unit->SortSt->Prop}
  (q:∀ gl,(arrOf gl).Perm (arrOf st)->failedOf gl=none->UpK key (arrOf gl).toList->Q () gl):wpS (model prog w) A E s sortRuns' Q st:=by
 have S0:SInv κ ok key (arrOf st) st [] 0:=⟨hk,hf,Array.Perm.refl _,by rw [hp]; rfl,rfl,(λq hq=>by cases hq),Az _,ho⟩;have e0:arrOf st=arrOf st:=rfl;generalize ha:arrOf st=a₀ at *;rw [sortRuns'_eq];refine wpS_bind (wpS_get ?_);dsimp only;rw [ha];have hmr:=Zaa a₀.size a₀.size 0 (by lia);generalize minRun' a₀.size a₀.size 0=mr at hmr;refine wpS_bind (wpS_mono (wpS_forRange (I:=λx c gl=>∃ lo qs,c=(none,lo)/\SInv κ ok key a₀ gl qs lo/\(lo=0/\qs=[]/\x=0/\arrOf gl=a₀\/lo=a₀.size/\qs.length=1)) (Q:=λc gl=>c=(none,a₀.size)/\∃ qs,SInv κ ok key a₀ gl qs a₀.size/\qs.length=1) ?step ?ik ?init) ?post)
 case init=>exact ⟨0,[],Y,S0,.inl ⟨Y,Y,Y,ha⟩⟩
 case ik =>
  rintro c gl ⟨lo,qs,rfl,S,z⟩
  rcases z with ⟨_,_,z,_⟩ | ⟨rfl,z⟩
  ·lia
  ·exact ⟨Y,qs,S,z⟩
 case step =>
  rintro x c gl _ hx ⟨lo,qs,rfl,S,z⟩;dsimp only
  rcases z with ⟨rfl,rfl,_,ea⟩ | ⟨rfl,z⟩
  ·rw [if_neg (by lia)]
   have sz:=S.sz;have cr:CRun prog w A E s κ ok key gl 0 (a₀.size - 0):=⟨hc,S.kind,S.ok',by lia⟩;refine wpS_bind (cr.countUp (by lia) (by rw [ea]; exact up) ?_);dsimp only;rw [if_neg (by lia)];refine wpS_bind (wpS_get ?_);have pe2:pendingOf gl=#[]:=Array.toList_eq_nil_iff.mp (List.map_eq_nil_iff.mp S.pend);rw [pe2];refine wpS_bind (wpS_modify (wpS_pure ⟨_,[(0,a₀.size - 0)],Y,⟨S.kind,S.fail,S.perm,?_,Zdd (qs:=[]) Y (by lia),λq hq=>?_,by lia,S.oks⟩,.inr ⟨by lia,Y⟩⟩))
   ·show ((pendingOf gl).push (0,a₀.size - 0,0)).toList.map pr2=_
    rw [pe2]; rfl
   ·rw [Af hq]
    show SRk key (arrOf gl) 0 (0 + a₀.size);rw [ea];exact up
  ·rw [if_pos (An _)]
   exact wpS_pure ⟨Y,qs,S,z⟩
 case post =>
  rintro c gl ⟨rfl,qs,S,wk⟩;dsimp only;refine wpS_bind (wpS_mono (wpS_forRange (I:=λx c ii=>c=(none,())/\∃ qs,SInv κ ok key a₀ ii qs a₀.size/\qs.length<=1) (Q:=λc ii=>c=(none,())/\∃ qs,SInv κ ok key a₀ ii qs a₀.size/\qs.length<=1) ?step2 ?fin2 ?init2) ?post2)
  case init2=>exact ⟨Y,qs,S,by lia⟩
  case fin2=>exact λc ii z=>z
  case step2 =>
   rintro x c ii _ hx ⟨rfl,qs,S,z⟩;refine wpS_bind (wpS_get ?_);have hl:(pendingOf ii).size=qs.length:=by rw [<- S.pend,Ab,Array.length_toList]
   try dsimp only
   rw [if_pos (by lia)];exact wpS_pure ⟨Y,qs,S,z⟩
  case post2 =>
   rintro c ii ⟨rfl,qs,S,z⟩;refine wpS_pure (q ii S.perm S.fail ?_)
   have:SRk key (arrOf ii) 0 a₀.size:=by
    have ko:=S.ch;have hr:=S.runs
    cases qs with
    | nil=>have:0=a₀.size:=ko; lia
    | cons q' r =>
     cases r with
     | nil =>
      obtain ⟨x,n⟩:=q';obtain ⟨e1,_,e2⟩:=ko;have e2:0 + n=a₀.size:=e2;have:=hr (x,n) List.mem_cons_self;subst e1;rw [Nat.zero_add] at e2;subst e2;have this:SRk key (arrOf ii) 0 (0 + a₀.size):=this;rwa [Nat.zero_add] at this
     | cons _ _=>simp at z
   have u:=Zmn (i:=0) (j:=(arrOf ii).size) (An _) (by rw [S.sz]; exact this);rwa [Array.extract_size] at u
end
def Zn6 {as:List Addr} {c:Addr->List Int} (ng:as.Pairwise (λx y=>HT.lexLt (c y) (c x)=false)) {i j:Nat} (zi:i<=j) (hj:j < as.length):kn (λp=>rkL (as.map c) (c (adrK p))) (as.map λb=>(Value.ref b,Value.ref b)).toArray i<=kn (λp=>rkL (as.map c) (c (adrK p))) (as.map λb=>(Value.ref b,Value.ref b)).toArray j:=by
 have at':∀ k (h:k < as.length),kn (λp=>rkL (as.map c) (c (adrK p))) (as.map λb=>(Value.ref b,Value.ref b)).toArray k=rkL (as.map c) (c as[k]):=λk h=>by
  rw [Gu (x:=(Value.ref as[k],Value.ref as[k]))]
  ·rfl
  ·rw [List.getElem?_toArray,Ah,Ac h]; rfl
 rw [at' i (by lia),at' j hj]
 rcases Nat.lt_or_ge i j with z | z
 ·exact Zaz (List.pairwise_iff_getElem.mp ng i j (by lia) hj z)
 ·have e:i=j:=by lia
  subst e;exact An _
section
variable {prog:Program} {w:World} {A:Around} {E:Value->Shared->Prop} {s:Shared}
def Zc0 {a:Addr} {as:List Addr} {c:Addr->List Int} {n:Nat} {P:PySem.Fin->Shared->Prop} (hu:A.units < cLine) (ho:s.heap.get? a=some (seqObj "list" (as.map Value.ref).toArray n)) (hz:as.length<=1000) (ng:as.Pairwise (λx y=>HT.lexLt (c y) (c x)=false)) (hJ:LsC as c s.heap) (hna:∀ b∈as,b≠a)
  (h:∀ bs:List Addr,bs.Perm as->bs.Pairwise (λx y=>HT.lexLt (c y) (c x)=false)->P (.done (.ret .none)) { s with heap:=sortedHeap s.heap a (as.map Value.ref) (bs.map Value.ref).toArray }) :
  wpAny (model prog w) A (Builtin.«list.sort» ⟨[.ref a],[]⟩) P E s:=by
 rw [list_sort_plain];have ha:a < s.heap.objs.size:=Ao ho;have hl:(as.map Value.ref).length=as.length:=Ab _;refine Al (listItems_at ho Y ?_);refine Al (listUpdate_at ho Y ?_ (hsz:=by rw [Aq,hl,sizeLine_eq]; lia));obtain ⟨e1,r6⟩:∃ e1,(s.heap.update a (Obj.mapSeq λ_=>#[])).get? a=some (seqObj "list" #[] e1):=⟨_,get?_update_seq ho (λ_=>#[])⟩;refine Al (seqEpoch_at r6 Y ?_);refine Al (wpAny_newTuple ?_ (by rw [hl,sizeLine_eq]; lia));refine Al (wpAny_newList ?_);refine wpAny_holding ?_;generalize hvs:as.map Value.ref=vs at *;have wp:(((s.heap.update a (Obj.mapSeq λ_=>#[])).push (seqObj "tuple" vs.toArray 0)).push (seqObj "list" #[] 0)).get? a=some (seqObj "list" #[] e1):=by
  rw [Heap.get?_push_ne _ _ _ (by rw [size_push',Heap.size_update]; exact As (Nat.lt_succ_of_lt ha)),Heap.get?_push_ne _ _ _ (by rw [Heap.size_update]; exact As ha)]
  exact r6
 have hk6:∀ b o,b≠a->s.heap.get? b=some o->(((s.heap.update a (Obj.mapSeq λ_=>#[])).push (seqObj "tuple" vs.toArray 0)).push (seqObj "list" #[] 0)).get? b=some o:=λb o hb e =>
  Ak _ (Ak _ ((Heap.get?_update_other _ _ (Ne.symm hb)).trans e))
 have wg:∀ out,sortedHeap s.heap a vs out=(((s.heap.update a (Obj.mapSeq λ_=>#[])).push (seqObj "tuple" vs.toArray 0)).push (seqObj "list" #[] 0)).update a (Obj.mapSeq λ_=>out):=λ_=>rfl;show wpAny (model prog w) A _ P E { s with heap:=((s.heap.update a (Obj.mapSeq λ_=>#[])).push (seqObj "tuple" vs.toArray 0)).push (seqObj "list" #[] 0) };generalize ((s.heap.update a (Obj.mapSeq λ_=>#[])).push (seqObj "tuple" vs.toArray 0)).push (seqObj "list" #[] 0)=h6 at wp hk6 wg ⊢;dsimp only;have hsz:vs.toArray.size=vs.length:=by simp
 by_cases h2:vs.toArray.size < 2
 ·rw [if_pos h2,if_pos h2]
  refine Al (wpAny_pure ?_);rw [StateT.run_pure];refine Al (wpAny_pure ?_);dsimp only;refine Al (seqEpoch_at wp Y ?_);refine Al (listUpdate_at wp Y ?_ (hsz2:=by rw [Array.size_map]; show (pairsOf vs).size<=_; rw [pairsOf_size,sizeLine_eq]; lia));simp only [bne_self_eq_false,Bool.false_eq_true,if_false]
  have ik:=h as (List.Perm.refl _) (by
   cases as with
   | nil=>exact List.Pairwise.nil
   | cons x r =>
    cases r with
    | nil=>exact List.pairwise_singleton _ _
    | cons y r=>simp at hl; lia)
  refine wpAny_pure ?_;have e:vs.toArray=(arrOf (SortSt.mk' general' (vs.toArray.zip vs.toArray) #[] 7 none)).map (·.2):=by
   show _=(vs.toArray.zip vs.toArray).map (·.2)
   apply Array.ext'
   simp [List.map_snd_zip]
  rw [hvs,e,wg] at ik;exact ik
 ·rw [if_neg h2,if_neg h2]
  have zz:2<=vs.length:=by lia
  have hJ6:=hJ.stay hna hk6;have kd:=λQ h=>Zfx (prog:=prog) (w:=w) (A:=A) (E:=E) (s:={ s with heap:=h6 }) hJ6 (by lia) (Q:=Q) h;rw [hvs] at kd;refine Al (kd _ ?_);have uo:vs.toArray.zip vs.toArray=(as.map λb=>(Value.ref b,Value.ref b)).toArray:=by
   apply Array.ext'
   rw [Array.toList_zip,<- hvs,Za5]
  have W:=Zla (st:=SortSt.mk' oneType' (vs.toArray.zip vs.toArray) #[] 7 none) (Zij (prog:=prog) (w:=w) (A:=A) (E:=E) (s:={ s with heap:=h6 }) hu hJ6) rfl rfl rfl (λp hp=>by
    have hp:p∈(vs.toArray.zip vs.toArray).toList:=hp;rw [uo] at hp;obtain ⟨b,hb,rfl⟩:=List.mem_map.mp hp
    exact ⟨b,hb,Y⟩) (by show 2<=(vs.toArray.zip vs.toArray).size; rw [uo,Aq,Ab]; lia) (λi j _ i2 i3=>by
    have i3:j < 0 + (vs.toArray.zip vs.toArray).size:=i3;show kn _ (vs.toArray.zip vs.toArray) i<=kn _ (vs.toArray.zip vs.toArray) j;rw [uo] at i3 ⊢
    exact Zn6 ng i2 (by simpa using i3))
   (Q:=λ_ gl=>(arrOf gl).Perm (vs.toArray.zip vs.toArray)/\failedOf gl=none/\UpK (λp=>rkL (as.map c) (c (adrK p))) (arrOf gl).toList) λgl a1 a2 a3=>⟨a1,a2,a3⟩
  refine Al (wpAny_mono W ?_ λ_ _ e=>e);rintro ⟨⟨⟩,gl⟩ s' ⟨rfl,pm,hf,up⟩;dsimp only at pm hf up ⊢;refine Al (seqEpoch_at wp Y ?_);have pl:(arrOf gl).toList.Perm (as.map λb=>(Value.ref b,Value.ref b)):=by
   have:=Array.perm_iff_toList_perm.mp pm
   rw [uo] at this
   exact this
  have sh:∀ p∈(arrOf gl).toList,p=(Value.ref (adrK p),Value.ref (adrK p)):=λp hp=>by
   obtain ⟨b,_,rfl⟩:=List.mem_map.mp (pl.mem_iff.mp hp);rfl
  have eo:(arrOf gl).map (·.2)=(((arrOf gl).toList.map adrK).map Value.ref).toArray:=by
   apply Array.ext';rw [Array.toList_map,List.map_map];exact List.map_congr_left λp hp=>by rw [sh p hp]; rfl
  have pb:((arrOf gl).toList.map adrK).Perm as:=by
   have:=pl.map adrK;rw [List.map_map] at this;have e:as.map (adrK ∘ λb=>(Value.ref b,Value.ref b))=as:=by
    have:(adrK ∘ λb=>(Value.ref b,Value.ref b))=id:=rfl
    rw [this,List.map_id]
   rwa [e] at this
  refine Al (listUpdate_at wp Y ?_ (hsz2:=by rw [eo,Aq,Ab,pb.length_eq,sizeLine_eq]; lia));rw [hf];simp only [bne_self_eq_false,Bool.false_eq_true,if_false];refine wpAny_pure ?_;rw [eo];have ik:=h _ pb (List.pairwise_map.mpr (List.Pairwise.imp_of_mem (λ{x y} hx hy y8=>?_) up))
  ·rw [wg] at ik
   exact ik
  ·have y8:rkL (as.map c) (c (adrK x))<=rkL (as.map c) (c (adrK y)):=y8
   have jt:adrK y∈as:=pb.mem_iff.mp (List.mem_map.mpr ⟨y,hy,rfl⟩);rw [<- Zgz (ls:=as.map c) (List.mem_map.mpr ⟨_,jt,rfl⟩)];exact decide_eq_false (by lia)
end
section
variable {X:Cx}
def Zay (hu:X.A.units + 64 < cLine):Y5 X (.builtin "sorted") (λxs H Q=>∃ (p:Addr) (as:List Addr) (c:Addr->List Int),xs=[.ref p]/\SqL X.K H p (as.map V.ref)/\(∀ a∈as,SqL X.K H a ((c a).map V.int))/\as.length<=1000/\as.Pairwise (λx y=>HT.lexLt (c y) (c x)=false) /\
  ∀ (q:Addr) (bs:List Addr),H q=none->bs.Perm as->bs.Pairwise (λx y=>HT.lexLt (c y) (c x)=false)->Q (.ref q) (upd H q (.lst (bs.map V.ref)))):=by
 intro f8 s σ H xs us Q I r h;obtain ⟨p,as,c,rfl,hp,hc,hz,ng,q⟩:=h;obtain ⟨u,rfl,ru⟩:=Wb r;obtain rfl:u=Value.ref p:=ru;obtain ⟨its,rv,pl,_⟩:=I.list hp;have hits:=Zlh rv;subst hits;have hl:(as.map Value.ref).length=as.length:=Ab _;have hJ:LsC as c s.heap:=λa ha=>by
  obtain ⟨its,r,p,_⟩:=I.list (hc a ha)
  exact ⟨its,p.isList,Qq r⟩
 refine Calls.call_function_entry kind_sorted plain_sorted entry_sorted (args_sorted1 _) ?_;unfold Builtin.«sorted»;refine Al (m:=checkCount "sorted" 1 1 _) (wpAny_pure ?_);refine Al (collect_list pl.isList ?_ (by rw [hl,sizeLine_eq]; lia));have js:∀ b o,s.heap.get? b=some o->((s.heap.push (seqObj "list" #[] 0)).update s.heap.objs.size (Obj.mapSeq λx=>x ++ (as.map Value.ref).toArray)).get? b=some o:=λb o e =>
  (Heap.get?_update_other _ _ (Nat.ne_of_gt (Ao e))).trans (Ak _ e)
 generalize (s.heap.push (seqObj "list" #[] 0)).update s.heap.objs.size (Obj.mapSeq λx=>x ++ (as.map Value.ref).toArray)=h' at js;refine Al (wpAny_newList ?_ (by rw [hl,sizeLine_eq]; lia));have I1:Inv X f8 σ H { s with heap:=h' }:=I.kept (t':=s.toks) js;have pz:(h'.push { cls:=.type "list",data:=.seq (as.map Value.ref).toArray }).get? h'.objs.size=some (seqObj "list" (as.map Value.ref).toArray 0):=Ap _ rfl;have hJ1:LsC as c (h'.push { cls:=.type "list",data:=.seq (as.map Value.ref).toArray }):=λa ha=>by
  obtain ⟨its,⟨o,ho,sr⟩,n⟩:=hJ a ha
  exact ⟨its,⟨o,Ak _ (js a o ho),sr⟩,n⟩
 have hna:∀ b∈as,b≠h'.objs.size:=λb hb=>by
  obtain ⟨its,⟨o,ho,_⟩,_⟩:=hJ b hb;exact As (Ao (js b o ho))
 refine Al (wpAny_holding (wpAny_call_entry slot_list_sort ⟨_,pz,Y⟩ entry_list_sort (Zc0 (by show X.A.in1.in1.units < cLine; have e:X.A.in1.in1.units<=X.A.units + 64:=(by unfold Around.in1; first | (dsimp only; lia) | (simp only; lia)); lia) pz hz ng hJ1 hna λbs ze nk=>⟨_,rfl,?_⟩) (args_list_sort _)));refine wpAny_pure ⟨_,Y,?_⟩;obtain ⟨e,he⟩:=sortedHeap_at (out:=(bs.map Value.ref).toArray) pz;have kp:∀ b u,h'.get? b=some u->(sortedHeap (h'.push { cls:=.type "list",data:=.seq (as.map Value.ref).toArray }) h'.objs.size (as.map Value.ref) (bs.map Value.ref).toArray).get? b=some u:=λb u hb=>by
  have gr:b < h'.objs.size:=Ao hb
  rw [sortedHeap_old (As gr) (by rw [Heap.size_push]; exact Nat.lt_succ_of_lt gr)]
  exact Ak _ hb
 have hv:∀ l:List Addr,Vals (l.map V.ref) (l.map Value.ref):=λl=>by
  induction l with
  | nil=>exact .nil
  | cons b l ih=>exact .cons Y ih
 refine ⟨.ref h'.objs.size,upd H h'.objs.size (.lst (bs.map V.ref)),I1.laid kp (An _) ?_,Y,q _ bs I1.fresh ze nk⟩;refine ⟨?_,bs.map Value.ref,e,hv bs,?_⟩
 ·rw [Ab,ze.length_eq,sizeLine_eq]; lia
 ·exact he
end
end L2
namespace KT
open PySem L2
def kP (c:Nat):List Int:=[((c / 1000:Nat):Int),((c % 1000:Nat):Int)]
def Znw (h:kP c=kP d):c=d:=by
 unfold kP at h
 injection h with h1 h2
 injection h2 with h2 _
 lia
theorem Zeo {α:Type} [DecidableEq α]:∀ (l k:List α),l.Nodup->(∀ x∈l,x∈k)->l.length<=k.length
 | [],_,_,_=>Az _
 | x :: l,k,nd,h=>by
  obtain ⟨n1,n2⟩:=List.nodup_cons.mp nd;have hx:=h x List.mem_cons_self;have:=Zeo l (k.erase x) n2 λy hy=>(List.mem_erase_of_ne (λz=>n1 (by rw [<- z]; exact hy))).mpr (h y (List.mem_cons_of_mem _ hy));rw [List.length_erase_of_mem hx] at this;have:=List.length_pos_of_mem hx;rw [List.length_cons];lia
section
variable {M:List (Option Nat)} {f:Nat->Int} {n:Nat}
def eP (M:List (Option Nat)) (f:Nat->Int) (D:List Nat):List Nat:=D.flatMap λd=>[d,sgP M f d]
structure PrD (M:List (Option Nat)) (f:Nat->Int) (D:List Nat):Prop where
 nd:(eP M f D).Nodup
 ok:∀ d∈D,VpP M f d
def PrD.nil:PrD M f []:=⟨by simp [eP],λd hd=>absurd hd List.not_mem_nil⟩
def Fam.self (h:Fam M f n) (hs:sF f M.length<=1200) (v:VpP M f d):d∈iz M f d:=Au (h.orb hs v).head
def Fam.prS (h:Fam M f n) (hs:sF f M.length<=1200) (hD:PrD M f D) (v:VpP M f c) (hn:¬ inS M f D c):PrD M f (D ++ [c]):=by
 refine ⟨?_,λd hd=>?_⟩
 ·unfold eP
  rw [List.flatMap_append,List.nodup_append];refine ⟨hD.nd,?_,λa ha b hb z=>?_⟩
  ·rw [List.flatMap_singleton]
   simp [(h.sg_ne v).symm]
  ·rw [List.flatMap_singleton] at hb
   subst z;obtain ⟨d,hd,hm⟩:=List.mem_flatMap.mp ha;have vd:=hD.ok d hd;have self:=h.self hs vd;simp only [List.mem_cons,List.not_mem_nil,or_false] at hm hb;apply hn
   rcases hm with rfl | rfl
   ·rcases hb with rfl | e
    ·exact ⟨_,hd,.inl self⟩
    ·exact ⟨_,hd,.inr (by rw [<- e]; exact self)⟩
   ·rcases hb with e | e
    ·exact ⟨_,hd,.inr (by rw [<- e,h.sgsg vd]; exact self)⟩
    ·refine ⟨_,hd,.inl ?_⟩
     have:=congrArg (sgP M f) e;rw [h.sgsg vd,h.sgsg v] at this;rw [<- this];exact self
 ·rcases List.mem_append.mp hd with z | z
  ·exact hD.ok d z
  ·rw [Af z]; exact v
def Zn2 (D:List Nat):(eP M f D).length=2 * D.length:=by
 induction D with
 | nil=>rfl
 | cons d D ih =>
  unfold eP at ih ⊢;rw [List.flatMap_cons,Ae,ih];simp only [List.length_cons,List.length_nil];lia
def Fam.prL (h:Fam M f n) (hs:sF f M.length<=1200) {D:List Nat} (hD:PrD M f D):D.length<=600:=by
 have:=h.few hs hD.nd λc hc=>by
  obtain ⟨d,hd,hm⟩:=List.mem_flatMap.mp hc;simp only [List.mem_cons,List.not_mem_nil,or_false] at hm
  rcases hm with rfl | rfl
  ·exact hD.ok _ hd
  ·exact h.sgV (hD.ok _ hd)
 rw [Zn2] at this;lia
def Fam.sg_key (h:Fam M f n) (v:VpP M f c) (hq:M[c / 1000]?=some (some q)):[((q:Nat):Int),f (c / 1000) - 1 - ((c % 1000:Nat):Int)]=kP (sgP M f c):=by
 obtain ⟨q',e1,e2,v2,_,e5,_⟩:=h.sg v;rw [hq] at e1;cases e1;obtain ⟨v1,v3⟩:=id v;obtain ⟨f1,f2⟩:=h.nf v1;have d:=Xq (p:=q) (s:=nN f (c / 1000) - 1 - c % 1000) (by lia);unfold kP;rw [e2,d.1,d.2];congr 2;lia
def Fam.tu_key (h:Fam M f n) (v:VpP M f c):(if ((c % 1000:Nat):Int) < (f (bN (c / 1000)) + f (c / 1000) - f (aN (c / 1000))) / 2 then [((bN (c / 1000):Nat):Int),f (bN (c / 1000)) - 1 - ((c % 1000:Nat):Int)] else [((aN (c / 1000):Nat):Int),f (c / 1000) - 1 - ((c % 1000:Nat):Int)])=kP (tuP f c):=by
 obtain ⟨v1,v2⟩:=v;generalize hp:c / 1000=p at *;generalize hs:c % 1000=e at *;obtain ⟨d1,d2,d3,d4,d5,d6,d7,d8,d9⟩:=Xt p;have ha:aN p < M.length:=by have:=h.hn; lia
 have hb:bN p < M.length:=by have:=h.hn; lia
 obtain ⟨f1,f2⟩:=h.nf v1;obtain ⟨f3,f4⟩:=h.nf ha;obtain ⟨f5,f6⟩:=h.nf hb;have ev:=h.pc.even p v1;have t1:=h.pc.tri p v1;by_cases c1:(e:Int) < (f (bN p) + f p - f (aN p)) / 2
 ·have e1:tuP f c=1000 * bN p + (nN f (bN p) - 1 - e):=by unfold tuP; rw [hp,hs,if_pos c1]
  have dd:=Xq (p:=bN p) (s:=nN f (bN p) - 1 - e) (by lia);unfold kP;rw [if_pos c1,e1,dd.1,dd.2];congr 2;lia
 ·have e1:tuP f c=1000 * aN p + (nN f p - 1 - e):=by unfold tuP; rw [hp,hs,if_neg c1]
  have dd:=Xq (p:=aN p) (s:=nN f p - 1 - e) (by lia);unfold kP;rw [if_neg c1,e1,dd.1,dd.2];congr 2;lia
def Fam.sides (h:Fam M f n) (hp:p < M.length):aN p < M.length/\bN p < M.length:=by
 obtain ⟨d1,d2,_⟩:=Xt p;have:=h.hn;lia
def Wu (M:List (Option Nat)) (f:Nat->Int) (D os:List Nat) (c:Nat):Prop:=inS M f D c\/c∈os\/sgP M f c∈os
structure SeenK (M:List (Option Nat)) (f:Nat->Int) (S:Nat->Prop) (ks:List (List Int)):Prop where
 nd:ks.Nodup
 sub:∀ k∈ks,∃ c,VpP M f c/\k=kP c
 mem:∀ c,VpP M f c->(kP c∈ks ↔ S c)
def Fam.seen_len (h:Fam M f n) (hs:sF f M.length<=1200) {ks:List (List Int)} (hk:SeenK M f S ks):ks.length<=1200:=by
 have h1:=Zeo ks ((ptsL f M.length).map kP) hk.nd λk hm=>by
  obtain ⟨c,v,rfl⟩:=hk.sub k hm;exact List.mem_map_of_mem (h.pts_mem.mpr v)
 have h2:=Vw f M.length h.pc.nn;rw [Ab] at h1;lia
def SeenK.cong (hk:SeenK M f S ks) (e:∀ c,VpP M f c->(S c ↔ S' c)):SeenK M f S' ks:=⟨hk.nd,hk.sub,λc v=>(hk.mem c v).trans (e c v)⟩
def SeenK.old {S:Nat->Prop} {ks:List (List Int)} {d:Nat} (hk:SeenK M f S ks) (hm:kP d∈ks):SeenK M f (λc=>S c\/c=d) ks:=⟨hk.nd,hk.sub,λc v=>by
 rw [hk.mem c v];constructor
 ·exact .inl
 ·rintro (z | rfl)
  ·exact z
  ·exact (hk.mem c v).mp hm⟩
def SeenK.snoc (hk:SeenK M f S ks) (vd:VpP M f d) (hm:kP d ∉ ks):SeenK M f (λc=>S c\/c=d) (ks ++ [kP d]):=by
 refine ⟨?_,λk js=>?_,λc v=>?_⟩
 ·rw [List.nodup_append]
  refine ⟨hk.nd,by simp,λa ha b hb z=>?_⟩;rw [Af hb] at z;rw [z] at ha;exact hm ha
 ·rcases List.mem_append.mp js with z | z
  ·exact hk.sub k z
  ·exact ⟨d,vd,Af z⟩
 ·rw [List.mem_append,hk.mem c v,List.mem_singleton]
  constructor
  ·rintro (z | z)
   ·exact .inl z
   ·exact .inr (Znw z)
  ·rintro (z | rfl)
   ·exact .inl z
   ·exact .inr Y
def SeenK.nil:SeenK M f (λc=>Wu M f [] [] c) []:=⟨by simp,λk hk=>absurd hk List.not_mem_nil,λc _=>by
 constructor
 ·intro z; exact absurd z List.not_mem_nil
 ·rintro (⟨d,hd,_⟩ | z | z)
  ·exact absurd hd List.not_mem_nil
  ·exact absurd z List.not_mem_nil
  ·exact absurd z List.not_mem_nil⟩
def Fam.seen_two (h:Fam M f n) {D os:List Nat} {d:Nat} (vd:VpP M f d) {ks:List (List Int)} (hk:SeenK M f (λc=>(Wu M f D os c\/c=d)\/c=sgP M f d) ks):SeenK M f (Wu M f D (os ++ [d])) ks:=hk.cong λc v=>by
 have e:sgP M f c=d ↔ c=sgP M f d:=by
  constructor
  ·intro z; rw [<- z,h.sgsg v]
  ·intro z; rw [z,h.sgsg vd]
 unfold Wu;simp only [List.mem_append,List.mem_singleton,e];constructor
 ·rintro (((z | z | z) | z) | z)
  ·exact .inl z
  ·exact .inr (.inl (.inl z))
  ·exact .inr (.inr (.inl z))
  ·exact .inr (.inl (.inr z))
  ·exact .inr (.inr (.inr z))
 ·rintro (z | (z | z) | z | z)
  ·exact .inl (.inl (.inl z))
  ·exact .inl (.inl (.inr (.inl z)))
  ·exact .inl (.inr z)
  ·exact .inl (.inl (.inr (.inr z)))
  ·exact .inr z
def Zi3 {D os:List Nat} {d:Nat} {ks:List (List Int)} (o:OrbEnd (RnP M f) d os) (hk:SeenK M f (Wu M f D os) ks):SeenK M f (Wu M f (D ++ [d]) []) ks:=hk.cong λc v=>by
 unfold Wu inS;have e:=O0 o;constructor
 ·rintro (⟨x,hx,z⟩ | z)
  ·exact .inl ⟨x,List.mem_append_left _ hx,z⟩
  ·exact .inl ⟨d,List.mem_append_right _ List.mem_cons_self,by rw [e]; exact z⟩
 ·rintro (⟨x,hx,z⟩ | z | z)
  ·rcases List.mem_append.mp hx with y | y
   ·exact .inl ⟨x,y,z⟩
   ·rw [Af y,e] at z; exact .inr z
  ·exact absurd z List.not_mem_nil
  ·exact absurd z List.not_mem_nil
def Zok:Wu M f D [] c ↔ inS M f D c:=by
 unfold Wu;simp
end
def Off (a b:Addr) (H H':Hp):Prop:=∀ x o,x≠a->x≠b->H x=some o->H' x=some o
def Off.refl:Off a b H H:=λ_ _ _ _ h=>h
def Off.trans (s:Off a b H H1) (s':Off a b H1 H2):Off a b H H2:=λx o h1 h2 h=>s' x o h1 h2 (s x o h1 h2 h)
def Off.of (s:Same H H1):Off a b H H1:=λx o _ _ h=>s x o h
def Off.a {a b:Addr} {H H1:Hp} {o:HO} (s:Off a b H H1):Off a b H (upd H1 a o):=λx u h1 h2 h=>by rw [Zf h1]; exact s x u h1 h2 h
def Off.b {a b:Addr} {H H1:Hp} {o:HO} (s:Off a b H H1):Off a b H (upd H1 b o):=λx u h1 h2 h=>by rw [Zf h2]; exact s x u h1 h2 h
def Off.same {a b:Addr} {H0 H H':Hp} (s:Off a b H H') (s0:Same H0 H) (ha:H0 a=none) (hb:H0 b=none):Same H0 H':=λx u e=>s x u (λz=>by rw [z,ha] at e; cases e) (λz=>by rw [z,hb] at e; cases e) (s0 x u e)
section
variable {M:List (Option Nat)} {f:Nat->Int} {n:Nat}
def Fam.it_end (h:Fam M f n) {os:List Nat} (o:OrbEnd (RnP M f) c os):it (nxP M f) os.length c=c:=by
 obtain ⟨l,hl,r⟩:=o.last;have hp:=o.pos;have:=Qv o.toOrb _ _ hl;rw [show os.length=(os.length - 1) + 1 by lia];show nxP M f (it (nxP M f) (os.length - 1) c)=c;rw [<- this];exact r.2
theorem Zeu (h:it g N c=c):∀ k,it g (k + N) c=it g k c
 | 0=>by rw [Nat.zero_add]; exact h
 | k + 1=>by
  rw [show k + 1 + N=(k + N) + 1 by lia];show g (it g (k + N) c)=g (it g k c);rw [Zeu h k]
end
section
variable {M:List (Option Nat)} {f:Nat->Int} {n:Nat}
theorem Fam.inS_it (h:Fam M f n) (hs:sF f M.length<=1200) (hD:∀ d∈D,VpP M f d) (v:VpP M f c):∀ k,inS M f D (it (nxP M f) k c)->inS M f D c
 | 0,z=>z
 | k + 1,z=>h.inS_it hs hD v k (h.back hs hD (h.itV v k) z)
def Fam.inS_sg (h:Fam M f n) (v:VpP M f x):inS M f D (sgP M f x) ↔ inS M f D x:=by
 unfold inS;rw [h.sgsg v];constructor
 ·rintro ⟨d,hd,z | z⟩
  ·exact ⟨d,hd,.inr z⟩
  ·exact ⟨d,hd,.inl z⟩
 ·rintro ⟨d,hd,z | z⟩
  ·exact ⟨d,hd,.inr z⟩
  ·exact ⟨d,hd,.inl z⟩
noncomputable def allP (M:List (Option Nat)) (f:Nat->Int) (D:List Nat):List Nat:=D.flatMap λd=>iz M f d ++ (iz M f d).map (sgP M f)
def Fam.allV (h:Fam M f n) (hs:sF f M.length<=1200) (hD:∀ d∈D,VpP M f d) (hx:x∈allP M f D):VpP M f x:=by
 obtain ⟨d,hd,hm⟩:=List.mem_flatMap.mp hx;have o:=h.orb hs (hD d hd)
 rcases List.mem_append.mp hm with z | z
 ·exact h.orbV (hD d hd) o.toOrb x z
 ·obtain ⟨y,hy,rfl⟩:=List.mem_map.mp z
  exact h.sgV (h.orbV (hD d hd) o.toOrb y hy)
def Fam.all_mem (h:Fam M f n) (hs:sF f M.length<=1200) (hD:∀ d∈D,VpP M f d) (v:VpP M f x):x∈allP M f D ↔ inS M f D x:=by
 unfold allP inS;rw [List.mem_flatMap];constructor
 ·rintro ⟨d,hd,hm⟩
  refine ⟨d,hd,?_⟩
  rcases List.mem_append.mp hm with z | z
  ·exact .inl z
  ·obtain ⟨y,hy,rfl⟩:=List.mem_map.mp z
   have:=h.orbV (hD d hd) (h.orb hs (hD d hd)).toOrb y hy;exact .inr (by rw [h.sgsg this]; exact hy)
 ·rintro ⟨d,hd,z | z⟩
  ·exact ⟨d,hd,List.mem_append_left _ z⟩
  ·exact ⟨d,hd,List.mem_append_right _ (List.mem_map.mpr ⟨_,z,h.sgsg v⟩)⟩
theorem Zcs:∀ {l:List Nat},l.Nodup->(∀ a∈l,∀ b∈l,g a=g b->a=b)->(l.map g).Nodup
 | [],_,_=>List.nodup_nil
 | a :: l,nd,hi=>by
  obtain ⟨n1,n2⟩:=List.nodup_cons.mp nd;rw [List.map_cons,List.nodup_cons];refine ⟨λhm=>?_,Zcs n2 λx hx y hy=>hi x (List.mem_cons_of_mem _ hx) y (List.mem_cons_of_mem _ hy)⟩;obtain ⟨b,hb,e⟩:=List.mem_map.mp hm;have:=hi b (List.mem_cons_of_mem _ hb) a List.mem_cons_self e;exact n1 (by rw [<- this]; exact hb)
def Fam.one_nd (h:Fam M f n) (hs:sF f M.length<=1200) (v:VpP M f c):(iz M f c ++ (iz M f c).map (sgP M f)).Nodup:=by
 have o:=h.orb hs v;have hV:=h.orbV v o.toOrb;rw [List.nodup_append];refine ⟨o.nodup,Zcs o.nodup λa ha b hb e=>?_,λa ha b hb z=>?_⟩
 ·have:=congrArg (sgP M f) e
  rwa [h.sgsg (hV a ha),h.sgsg (hV b hb)] at this
 ·obtain ⟨y,hy,rfl⟩:=List.mem_map.mp hb
  obtain ⟨i,hi,ei⟩:=List.mem_iff_getElem.mp ha;obtain ⟨j,hj,ej⟩:=List.mem_iff_getElem.mp hy;have ea:=Qv o.toOrb i a (by rw [Ac hi,ei]);have ey:=Qv o.toOrb j y (by rw [Ac hj,ej]);have vy:=hV y hy;have hend:=h.it_end o;have e1:a=it (nxP M f) (i + (iz M f c).length - j) y:=by
   rw [ey,<- Gx,show i + (iz M f c).length - j + j=i + (iz M f c).length by lia,Zeu hend]
   exact ea
  exact h.apart vy _ (z.symm.trans e1)
theorem Fam.all_nd (h:Fam M f n) (hs:sF f M.length<=1200):∀ (l D:List Nat),(∀ d∈D,VpP M f d)->(allP M f D).Nodup->(∀ c∈l,VpP M f c)->(allP M f (gT M f l D)).Nodup/\(∀ d∈gT M f l D,VpP M f d)/\(∀ x,inS M f D x->inS M f (gT M f l D) x)/\∀ x∈l,inS M f (gT M f l D) x
 | [],D,hD,nd,_=>⟨nd,hD,λ_ z=>z,λx hx=>absurd hx List.not_mem_nil⟩
 | c :: l,D,hD,nd,hv=>by
  have vc:=hv c List.mem_cons_self;have za:=λx hx=>hv x (List.mem_cons_of_mem _ hx);unfold gT;by_cases z:inS M f D c
  ·rw [if_pos z]
   obtain ⟨a1,a2,a3,a4⟩:=h.all_nd hs l D hD nd za;refine ⟨a1,a2,a3,λx hx=>?_⟩
   rcases Ar hx with rfl | y
   ·exact a3 _ z
   ·exact a4 x y
  ·rw [if_neg z]
   have hD':∀ d∈D ++ [c],VpP M f d:=λd hd=>by
    rcases List.mem_append.mp hd with y | y
    ·exact hD d y
    ·rw [Af y]; exact vc
   have nd':(allP M f (D ++ [c])).Nodup:=by
    unfold allP;rw [List.flatMap_append,List.nodup_append,List.flatMap_singleton];refine ⟨nd,h.one_nd hs vc,λa ha b hb e=>?_⟩;subst e;have va:=h.allV hs hD ha;have ia:=(h.all_mem hs hD va).mp ha;have o:=h.orb hs vc;apply z;have key:∀ y∈iz M f c,inS M f D y->inS M f D c:=λy hy iy=>by
     obtain ⟨i,hi,ei⟩:=List.mem_iff_getElem.mp hy
     have:=Qv o.toOrb i y (by rw [Ac hi,ei])
     rw [this] at iy
     exact h.inS_it hs hD vc i iy
    rcases List.mem_append.mp hb with y | y
    ·exact key a y ia
    ·obtain ⟨y',jt,e'⟩:=List.mem_map.mp y
     have vy:=h.orbV vc o.toOrb y' jt;rw [<- e'] at ia;exact key y' jt ((h.inS_sg vy).mp ia)
   obtain ⟨a1,a2,a3,a4⟩:=h.all_nd hs l (D ++ [c]) hD' nd' za;have mono:∀ x,inS M f D x->inS M f (D ++ [c]) x:=λx ⟨d,hd,y⟩=>⟨d,List.mem_append_left _ hd,y⟩;refine ⟨a1,a2,λx hx=>a3 x (mono x hx),λx hx=>?_⟩
   rcases Ar hx with rfl | y
   ·exact a3 _ ⟨x,List.mem_append_right _ List.mem_cons_self,.inl (h.self hs vc)⟩
   ·exact a4 x y
end
section
variable {M:List (Option Nat)} {f:Nat->Int} {n:Nat}
theorem Oi:∀ {l:List Nat},l.Nodup->(l.filter p).Nodup
 | [],_=>List.nodup_nil
 | a :: l,nd=>by
  obtain ⟨n1,n2⟩:=List.nodup_cons.mp nd;rw [List.filter_cons];by_cases c:p a=true
  ·rw [if_pos c,List.nodup_cons]
   exact ⟨λhm=>n1 (List.mem_filter.mp hm).1,Oi n2⟩
  ·rw [if_neg c]; exact Oi n2
def Zm8 (p:Nat):∀ k,((List.range k).map λs=>1000 * p + s).Nodup:=λk=>Zcs List.nodup_range λa _ b _ e=>by lia
def Fam.all_at (h:Fam M f n) (hs:sF f M.length<=1200) (hp:p < M.length):(allP M f (gT M f (ptsL f M.length) [])).countP (λx=>decide (x / 1000=p))=nN f p:=by
 obtain ⟨a1,a2,_,a4⟩:=h.all_nd hs (ptsL f M.length) [] (λd hd=>absurd hd List.not_mem_nil) List.nodup_nil λc hc=>h.pts_mem.mp hc;obtain ⟨f1,f2⟩:=h.nf hp;rw [List.countP_eq_length_filter];have l1:((List.range (nN f p)).map λs=>1000 * p + s).length=nN f p:=by rw [Ab,List.length_range]
 apply Nat.le_antisymm
 ·rw [<- l1]
  refine Gr _ _ (Oi a1) λx hx=>?_;obtain ⟨h1,h2⟩:=List.mem_filter.mp hx;have v:=h.allV hs a2 h1;have e:=of_decide_eq_true h2;obtain ⟨v1,v2⟩:=v;rw [e] at v2;exact List.mem_map.mpr ⟨x % 1000,List.mem_range.mpr v2,by lia⟩
 ·rw [<- l1]
  refine Gr _ _ (Zm8 p _) λx hx=>?_;obtain ⟨s,j6,rfl⟩:=List.mem_map.mp hx;have j6:=List.mem_range.mp j6;have d:=Xq (p:=p) (s:=s) (by lia);have v:VpP M f (1000 * p + s):=by unfold VpP; rw [d.1,d.2]; exact ⟨hp,j6⟩
  exact List.mem_filter.mpr ⟨(h.all_mem hs a2 v).mpr (a4 _ (h.pts_mem.mpr v)),decide_eq_true d.1⟩
def Fam.one_at (h:Fam M f n) (v:VpP M f c) {os:List Nat} (hV:∀ x∈os,VpP M f x) (p:Nat):(os ++ os.map (sgP M f)).countP (λx=>decide (x / 1000=p))=crN M (os.map (· / 1000)) p:=by
 unfold crN;rw [List.countP_append,List.countP_map,List.countP_map]
 induction os with
 | nil=>rfl
 | cons x os ih =>
  have ih:=ih λy hy=>hV y (List.mem_cons_of_mem _ hy);obtain ⟨q,m1,_,_,_,d1,d2⟩:=h.sg (hV x List.mem_cons_self);rw [List.countP_cons,List.countP_cons,List.countP_cons,<- ih];have e:mtN M (x / 1000)=q:=V3 m1;simp only [Function.comp_apply,e,d1,decide_eq_true_eq];by_cases c1:x / 1000=p
  ·have c2:¬ q=p:=λz=>d2 (z.trans c1.symm)
   simp only [c1,c2,if_true,if_false,true_or];lia
  ·by_cases c2:q=p
   ·simp only [c1,c2,if_true,if_false,or_true]
    lia
   ·simp only [c1,c2,if_false,or_false]
    lia
theorem Kj:∀ D:List Nat,(D.flatMap g).countP p=(D.map λd=>(g d).countP p).sum
 | []=>rfl
 | d :: D=>by rw [List.flatMap_cons,List.countP_append,List.map_cons,List.sum_cons,Kj D]
def Fam.cross (h:Fam M f n) (hs:sF f M.length<=1200) (hp:p < M.length):(((gT M f (ptsL f M.length) []).map λd=>crN M (wdP M f d) p).sum:Nat)=nN f p:=by
 obtain ⟨a1,a2,_,a4⟩:=h.all_nd hs (ptsL f M.length) [] (λd hd=>absurd hd List.not_mem_nil) List.nodup_nil λc hc=>h.pts_mem.mp hc;rw [<- h.all_at hs hp];unfold allP;rw [Kj];congr 1;apply List.map_congr_left;intro d hd;unfold wdP;exact (h.one_at (a2 d hd) (h.orbV (a2 d hd) (h.orb hs (a2 d hd)).toOrb) p).symm
end
end KT
set_option genInjectivity false
set_option genSizeOf false
namespace KT
open PySem L2
def bmV:List Value:=[.type "ValueError",.type "Exception",.type "BaseException",.type "object"]
def FBV:ExcBaseFacts "ValueError" "ValueError.__new__" "ValueError.__init__" bmV:=PySem.F.excBase_ValueError
def map_some {α:Type} {f:α->V} {l:List α} {i:Nat} {y:V} (h:(l.map f)[i]?=some y):∃ q,l[i]?=some q/\y=f q:=by
 rw [Ah] at h
 cases e:l[i]? with
 | none=>rw [e] at h; cases h
 | some q=>rw [e] at h; cases h; exact ⟨q,Y,Y⟩
structure FT (K:W.Frag) (mg:Str->Option Value) (x:Str) (st:Stmt) (ps:List Str) (f:Addr) (d:FuncData):Prop where
 F:Fun K x x st f d
 b:Wc K d ps []
 g:mg x=some (.ref f)
structure FM (K:W.Frag) (C:Addr) (x q:Str) (st:Stmt) (ps:List Str) (f:Addr) (d:FuncData):Prop where
 F:Fun K x q st f d
 b:Wc K d ps []
 m:Meth K C x f
section
variable {X:Cx} {fr:Bool} {j k:Nat} {f:Addr} {fd:FuncData} {ps:List Str} {sp:Sp} {x:Str} {st:Stmt} {p pos:Pos} {e:Expr} {es:List Expr} {t:TA}
def pcT (F:FnOk X.prog X.w X.K X.mg X.base (CXr X.prog X.w) k f fd ps sp) (hr:Room j X.A) (q:FT X.K X.mg x st ps f fd) (ha:PA X (e :: es) t) (hk:k<=j:=by decide) (hg:Gl X x:=by rfl) (ju:(x == ("__debug__":Str))=false:=by decide) (he:starEach (e :: es) X.env=(false,eval e X.env) :: starEach es X.env:=by rfl) (ip:(backTo pos (starEach es X.env)).any (·.1)=false:=by rfl) :
  PE X (.Call (.Name x p) (e :: es) [] pos) (Zkc sp [] E0 t):=Zls F (hr.mono hk) hg q.g q.F.kp q.b .nil Yr ha ju he ip
def pxT (F:FnOk X.prog X.w X.K X.mg X.base (CXr X.prog X.w) k f fd ps sp) (hr:Room j X.A) (q:FT X.K X.mg x st ps f fd) (ha:PA X (e :: es) t) (hk:k<=j:=by decide) (hg:Gl X x:=by rfl) (hex:X.ex=[]:=by rfl) (hx:X.xe=(λ_ _=>False):=by rfl) (ju:(x == ("__debug__":Str))=false:=by decide) (he:starEach (e :: es) X.env=(false,eval e X.env) :: starEach es X.env:=by rfl) (ip:(backTo pos (starEach es X.env)).any (·.1)=false:=by rfl) :
  PEX fr X (.Call (.Name x p) (e :: es) [] pos) (Zgg sp [] t):=Zjc F (hr.mono hk) hg q.g q.F.kp q.b .nil ha hex hx ju he ip
end
def BA (q:Str) (st:Stmt) (ps:List Str):Prop:=∀ (x:Str) (kV im pm:Value) (an:Option Addr) (ij ct:Value) (us:List Value),us.length=ps.length->bindArgs (PySem.W.fnOf x q (Xi st) (Yq st) (Zh st) .none kV im pm an ij ct) ⟨us,[]⟩=pure (ps.zip us)
def Zer {α:Type} {us:List α} (e:us.length=2):∃ a b,us=[a,b]:=by
 obtain ⟨a,us,rfl⟩:=List.exists_cons_of_length_eq_add_one e;obtain ⟨b,rfl⟩:=List.length_eq_one_iff.mp (Nat.succ.inj e);exact ⟨a,b,Y⟩
def Zh0 {α:Type} {us:List α} (e:us.length=3):∃ a b c,us=[a,b,c]:=by
 obtain ⟨a,us,rfl⟩:=List.exists_cons_of_length_eq_add_one e;obtain ⟨b,c,rfl⟩:=Zer (Nat.succ.inj e);exact ⟨a,b,c,Y⟩
def ba1 {ps:List Str} (h:∀ (x:Str) (kV im pm:Value) (an:Option Addr) (ij ct:Value) (a:Value),bindArgs (PySem.W.fnOf x q (Xi st) (Yq st) (Zh st) .none kV im pm an ij ct) ⟨[a],[]⟩=pure (ps.zip [a])) (hl:ps.length=1):BA q st ps:=λx kV im pm an ij ct us e=>by
 rw [hl] at e;obtain ⟨a,rfl⟩:=List.length_eq_one_iff.mp e;exact h x kV im pm an ij ct a
def ba2 {ps:List Str} (h:∀ (x:Str) (kV im pm:Value) (an:Option Addr) (ij ct:Value) (a b:Value),bindArgs (PySem.W.fnOf x q (Xi st) (Yq st) (Zh st) .none kV im pm an ij ct) ⟨[a,b],[]⟩=pure (ps.zip [a,b])) (hl:ps.length=2):BA q st ps:=λx kV im pm an ij ct us e=>by
 rw [hl] at e;obtain ⟨a,b,rfl⟩:=Zer e;exact h x kV im pm an ij ct a b
def ba3 {ps:List Str} (h:∀ (x:Str) (kV im pm:Value) (an:Option Addr) (ij ct:Value) (a b c:Value),bindArgs (PySem.W.fnOf x q (Xi st) (Yq st) (Zh st) .none kV im pm an ij ct) ⟨[a,b,c],[]⟩=pure (ps.zip [a,b,c])) (hl:ps.length=3):BA q st ps:=λx kV im pm an ij ct us e=>by
 rw [hl] at e;obtain ⟨a,b,c,rfl⟩:=Zh0 e;exact h x kV im pm an ij ct a b c
section
variable {K:W.Frag} {h:Heap} {mg:Str->Option Value} {C:Addr} {x q:Str} {st:Stmt} {ps:List Str} {f:Addr} {oc:Value} {od an:Option Addr} {sl:Array (Option Value)} {kV im pm cd ct:Value}
def FT.of (X:K.In h) (G:h.Ns mainGlobals mg) (B:BA x st ps) (a:PySem.W.nsIn K mainGlobals x=some (some (.ref f))) (l:K.lookup f=some ⟨oc,od,.func (PySem.W.fnOf x x (Xi st) (Yq st) (Zh st) .none kV im pm an cd ct),sl⟩)
  (c:PySem.W.codeIn K cd x=true) (k:PySem.W.keepIn K (.ref f)=true):FT K mg x st ps f (PySem.W.fnOf x x (Xi st) (Yq st) (Zh st) .none kV im pm an cd ct):=⟨G1 l c k,(G1 l c k).binds (B x),PySem.W.mg_of X G a⟩
def FM.of (B:BA q st ps) (a:PySem.W.findIn K (.ref C) x=some (some (.ref f))) (i:PySem.W.isFn K (.ref f)=true) (l:K.lookup f=some ⟨oc,od,.func (PySem.W.fnOf x q (Xi st) (Yq st) (Zh st) .none kV im pm an cd ct),sl⟩)
  (c:PySem.W.codeIn K cd q=true) (k:PySem.W.keepIn K (.ref f)=true):FM K C x q st ps f (PySem.W.fnOf x q (Xi st) (Yq st) (Zh st) .none kV im pm an cd ct):=⟨G1 l c k,(G1 l c k).binds (B x),⟨a,i,k⟩⟩
end
def top (i:Nat):Stmt:=PySem.Challenge.pw_tentloops_k33_too_many_crossings.main.body.getD i (.Pass ⟨0,0,0,0⟩)
abbrev Zee:Stmt:=top 16
abbrev Zb3:Stmt:=top 17
abbrev Gd:Stmt:=top 18
abbrev K8:Stmt:=top 19
abbrev K9:Stmt:=top 20
abbrev Kh:Stmt:=Wa (top 21) 0
abbrev Kf:Stmt:=Wa (top 21) 1
abbrev Ob:Stmt:=Wa (top 21) 3
abbrev Qh:Stmt:=Wa (top 21) 4
abbrev Q3:Stmt:=Wa (top 21) 5
abbrev Qg:Stmt:=Wa (top 21) 6
abbrev Vv:Stmt:=Wa (top 21) 7
abbrev Uw:Stmt:=Wa (top 21) 8
abbrev Kg:Stmt:=Wa (top 21) 9
abbrev Vu:Stmt:=Wa (top 21) 10
abbrev Ga:Stmt:=top 24
abbrev Ka:Stmt:=top 25
abbrev Zbu:Stmt:=top 26
abbrev Zbv:Stmt:=top 27
abbrev Kd:Stmt:=top 28
abbrev Ke:Stmt:=top 30
abbrev F5:Stmt:=top 31
abbrev Zea:Stmt:=top 32
abbrev Us:Stmt:=top 33
abbrev Ge:Stmt:=top 34
abbrev Zbs:Stmt:=top 35
abbrev U9:Stmt:=top 36
abbrev Zeb:Stmt:=top 37
abbrev Vs:Stmt:=top 40
abbrev Uu:Stmt:=top 41
abbrev Vf:Stmt:=top 42
abbrev Vg:Stmt:=top 43
abbrev Ut:Stmt:=top 44
abbrev Uv:Stmt:=top 45
abbrev Vt:Stmt:=top 46
abbrev Oa:Stmt:=top 47
abbrev Zbt:Stmt:=top 48
abbrev Ur:Stmt:=top 50
abbrev Zed:Stmt:=top 51
abbrev Zb2:Stmt:=top 53
abbrev Kb:Stmt:=top 54
abbrev Zby:Stmt:=top 55
abbrev Zbz:Stmt:=top 56
abbrev Zbx:Stmt:=top 57
abbrev Kc:Stmt:=top 58
abbrev Gc:Stmt:=top 59
abbrev Zbw:Stmt:=top 60
abbrev Gb:Stmt:=top 61
abbrev F3:Stmt:=top 62
abbrev Zec:Stmt:=top 63
abbrev F1:Stmt:=top 64
abbrev Zb0:Stmt:=top 65
abbrev F4:Stmt:=top 66
abbrev F2:Stmt:=top 67
abbrev Zb1:Stmt:=top 68
abbrev Zkd:Stmt:=top 69
structure Adr where
 (aa fk dP cP cQ cR bn cp bR aF aS aG bo bD cq bp cS cu dQ dR cv cw dr fo bE cT dS bS fq bq bF bc bd aL bG br bT bU bH cN dU cx dW dX dY cy cU dZ cV dt ft du d0 dw dz ed fN ar aT ay dA aU bV bP aw:Addr)
 (fu eu cW cX cY cz cA bW aH aV aI bu bI cB bv cZ cC eC eE cD cE dB fw bJ c7 eF bX fy bx bK bg bi aM bL bz bY bZ bM cO eG cF eI eJ eK cG c8 eO c9 dC fA dD eQ dE dF eS fI:FuncData)
 (cL ci:Tok)
structure Txt (w:World) (K:W.Frag) (mg:Str->Option Value) (t:Adr):Prop where
 dL:mg "Tent"=some (.ref t.aa)
 ac:Cls K t.aa
 aO:Wt K t.aa "cloths"
 ag:Wt K t.aa "names_at"
 au:Wt K t.aa "spots"
 ce:Wt K t.aa "mates"
 cf:FT K mg "after" Zee ["place"] t.fk t.fu
 bA:FT K mg "before" Zb3 ["place"] t.dP t.eu
 aC:FT K mg "cloth_of" Gd ["place"] t.cP t.cW
 db:FT K mg "spots_of" K8 ["names_at"] t.cQ t.cX
 dc:FT K mg "mates_of" K9 ["spots","count"] t.cR t.cY
 aJ:FM K t.aa "__init__" "Tent.__init__" Kh ["self","rows"] t.bn t.cz
 az:FM K t.aa "rows" "Tent.rows" Kf ["self"] t.cp t.cA
 av:FM K t.aa "seams" "Tent.seams" Ob ["self"] t.bR t.bW
 ah:FM K t.aa "all_places" "Tent.all_places" Qh ["self"] t.aF t.aH
 ao:FM K t.aa "has_place" "Tent.has_place" Q3 ["self","place"] t.aS t.aV
 ai:FM K t.aa "look_place" "Tent.look_place" Qg ["self","place"] t.aG t.aI
 ae:FM K t.aa "seam_at" "Tent.seam_at" Vv ["self","place"] t.bo t.bu
 aq:FM K t.aa "places" "Tent.places" Uw ["self","seam"] t.bD t.bI
 aj:FM K t.aa "mate" "Tent.mate" Kg ["self","place"] t.cq t.cB
 af:FM K t.aa "sort_of" "Tent.sort_of" Vu ["self","seam"] t.bp t.bv
 de:FT K mg "look_way" Ga ["way"] t.cS t.cZ
 cH:FT K mg "look_free" Ka ["tent","seam"] t.cu t.cC
 df:FT K mg "square" Zbu ["tent","seam"] t.dQ t.eC
 eU:FT K mg "shifts" Zbv ["tent","seam","way"] t.dR t.eE
 cI:FT K mg "exchanged" Kd ["tent","seam","way"] t.cv t.cD
 cJ:FT K mg "crossable" Ke ["tent","place"] t.cw t.cE
 dG:FT K mg "follows" F5 ["tent","ahead","place"] t.dr t.dB
 fB:FT K mg "plain" Zea ["tent","word"] t.fo t.fw
 bO:FT K mg "look_thread" Us ["tent","word"] t.bE t.bJ
 dg:FT K mg "backward" Ge ["tent","word"] t.cT t.c7
 dh:FT K mg "turned" Zbs ["word","by"] t.dS t.eF
 aZ:FT K mg "least_turn" U9 ["word"] t.bS t.bX
 fC:FT K mg "least" Zeb ["tent","word"] t.fq t.fy
 bC:FT K mg "look_numbers" Vs ["tent","counts"] t.bq t.bx
 aP:FT K mg "look_counts" Uu ["tent","counts"] t.bF t.bK
 aA:FT K mg "number_behind" Vf ["tent","counts","seam"] t.bc t.bg
 bj:FT K mg "counts_behind" Vg ["tent","counts","seam"] t.bd t.bi
 ap:FT K mg "look_family" Ut ["tent","counts"] t.aL t.aM
 ax:FT K mg "across_seam" Uv ["tent","numbers","at"] t.bG t.bL
 aD:FT K mg "across_cloth" Vt ["numbers","at"] t.br t.bz
 cg:FT K mg "gone_round" Oa ["tent","numbers","start"] t.bT t.bY
 di:FT K mg "traced" Zbt ["tent","counts"] t.bU t.bZ
 aQ:FT K mg "most_easing" Ur ["tent","counts"] t.bH t.bM
 dM:FT K mg "eased" Zed ["tent","counts"] t.cN t.cO
 aE:FT K mg "_law_cell" Zb2 ["_law_script","_law_at"] t.dU t.eG
 aK:FT K mg "_law_numbers" Kb ["_law_cell_here","_law_many"] t.cx t.cF
 eV:FT K mg "_law_sewn" Zby ["_law_nums","_law_many","_law_share"] t.dW t.eI
 eW:FT K mg "_law_rows" Zbz ["_law_mates","_law_start","_law_step"] t.dX t.eJ
 eX:FT K mg "_law_tent" Zbx ["_law_script"] t.dY t.eK
 cK:FT K mg "_law_lowered" Kc ["_law_mates","_law_counts"] t.cy t.cG
 dj:FT K mg "_law_family" Gc ["_law_nums","_law_mates","_law_word"] t.cU t.c8
 eY:FT K mg "_law_walk" Zbw ["_law_mates","_law_nums"] t.dZ t.eO
 dk:FT K mg "_law_thread" Gb ["_law_script","_law_at","_law_mates"] t.cV t.c9
 aW:FT K mg "_law_named" F3 ["_law_rows_here","_law_counts"] t.dt t.dC
 fD:FT K mg "_law_sum" Zec ["_law_rows_here","_law_counts"] t.ft t.fA
 dH:FT K mg "_law_whole" F1 ["_law_found"] t.du t.dD
 eZ:FT K mg "_law_list" Zb0 ["_law_found","_law_due"] t.d0 t.eQ
 dJ:FT K mg "_law_lists" F4 ["_law_found","_law_due"] t.dw t.dE
 cj:FT K mg "_law_trace" F2 ["_law_tent_here","_law_counts"] t.dz t.dF
 dl:FT K mg "_law_ease" Zb1 ["_law_tent_here","_law_counts"] t.ed t.eS
 fO:FT K mg "law" Zkd ["_law_script"] t.fN t.fI
 dO:Mk K t.aa t.bn
 cM:mg "GREATEST_NAME"=some (.int 9999 t.cL)
 aY:mg "MOST_CROSSINGS"=some (.int 600 t.ci)
 ck:mg "CONTRARY_WAYS"=some (.ref t.ar)
 cm:G8 w K t.ar [(Sum.inr "left",.str "right"),(Sum.inr "right",.str "left")]
 bl:∀ (s:Shared) (u:Value),BindsTo s t.fI ⟨[u],[]⟩ [("_law_script",u)]
 fP:mg "all"=none
 fQ:mg "any"=none
 fU:mg "bool"=none
 fV:mg "dict"=none
 fb:mg "enumerate"=none
 fX:mg "int"=none
 aB:mg "isinstance"=none
 ad:mg "len"=none
 ba:mg "list"=none
 fR:mg "max"=none
 fS:mg "min"=none
 ak:mg "range"=none
 dn:mg "reversed"=none
 fY:mg "set"=none
 dq:mg "sorted"=none
 fc:mg "sum"=none
 fE:mg "tuple"=none
 fZ:mg "zip"=none
 fh:mg "NoPlace"=some (.ref t.aT)
 fF:ExcK K t.aT bmV "ValueError.__new__"
 fG:mg "NoSeam"=some (.ref t.ay)
 fJ:ExcK K t.ay bmV "ValueError.__new__"
 fW:mg "Rim"=some (.ref t.dA)
 f7:ExcK K t.dA bmV "ValueError.__new__"
 fH:mg "Locked"=some (.ref t.aU)
 fK:ExcK K t.aU bmV "ValueError.__new__"
 fL:mg "NoWay"=some (.ref t.bV)
 fM:ExcK K t.bV bmV "ValueError.__new__"
 fg:mg "NoThread"=some (.ref t.bP)
 fj:ExcK K t.bP bmV "ValueError.__new__"
 bQ:mg "TooMany"=some (.ref t.aw)
 cn:ExcK K t.aw bmV "ValueError.__new__"
def Same.add (s:Same H H1) (hp:H p=none):Same H (upd H1 p o):=λb u e=>by rw [Zf (Zj e hp)]; exact s b u e
def Same.new {H:Hp} {p:Addr} {o:HO} (hp:H p=none):Same H (upd H p o):=Same.add (Same.refl H) hp
def Z6 (n9:St->Hp->Prop) (ht:∀ nx:St->Hp->Prop,(∀ σ H,n9 σ H->nx σ H)->t { D with nx:=nx } σ H) (hu:∀ σ H,n9 σ H->u D σ H):tSeq t u D σ H:=ht (u D) hu
def Zk (ht:∀ nx:St->Hp->Prop,(∀ σ H,u D σ H->nx σ H)->t { D with nx:=nx } σ H):tSeq t u D σ H:=ht (u D) λ_ _ h=>h
def Zcy (xs:List Int) (y:Int):xs.map V.int ++ [V.int y]=(xs ++ [y]).map V.int:=by simp
def getI {ns:List Int} (h:n < ns.length):(ns.map V.int)[n]?=some (V.int (ns.getD n 0)):=by
 rw [Ah,Ac h,Ad,Ac h];rfl
def cell (ns:List Int) (n:Int):Int:=if n < ns.length then ns.getD n.toNat 0 else if ns.length=0 then 31 * n + 7 else ns.getD (n % ns.length).toNat 0 % 1000003 + 101 * n
def Zk9 (K:W.Frag):Sp:=λvs H Q _=>∃ (a:Addr) (ns:List Int) (n:Int),vs=[.ref a,.int n]/\SqL K H a (ns.map V.int)/\ns.length<=63/\0<=n/\n < 1000000/\Q (.int (cell ns n)) H
def Ziw:Sp:=λvs H Q _=>∃ n:Int,vs=[.int n]/\Q (.bl true) H
def Zfc:Sp:=λvs H Q _=>∃ (c:Int) (n:Nat),vs=[.int c,.int n]/\n<=60/\∀ (p:Addr) (xs:List Int) (H':Hp),Same H H'->H p=none->H' p=some (.lst (xs.map V.int))->xs.length=n->(∀ x∈xs,0<=x/\x < 1009)->Q (.ref p) H'
section
variable {P:Program} {w:World} {K:W.Frag} {mg:Str->Option Value} {base:Heap} {t:Adr}
def Zfh:FnScope ["_law_found"] ["_law_found"] (Zh F1):=Am
def Zfn (T:Txt w K mg t):FnOk P w K mg base (CXr P w) 1 t.du t.dD ["_law_found"] Ziw:=by
 refine T.dH.F.aR Zfh (λ_ _ _ _ H vs Q E hr h=>?_)
 ·obtain ⟨p,rfl,k⟩:=h
  refine ⟨_,(Zg (Zq (Zck (Zo J5 (by rfl) T.aB PyProof.Rows.boot_isinstance (Za (pv 0) (Za (Oz (v:=.ty "int") (by rfl) T.fX PySem.Pv.boot_int rfl) Zb))) (Zch (Zng (Zo J5 (by rfl) T.aB PyProof.Rows.boot_isinstance (Za (pv 0) (Za (Oz (v:=.ty "bool") (by rfl) T.fU PySem.Pv.boot_bool rfl) Zb)))))))),?_⟩;refine ⟨_,Y,_,"int",_,true,rfl,TyOf.int p,Ks,_,rfl,iteT ?_⟩;refine ⟨_,Y,_,"bool",_,false,rfl,TyOf.int p,(by rfl),_,rfl,k⟩
def Zgs:FnScope ["_law_script","_law_at"] ["_law_script","_law_at"] (Zh Zb2):=Am
def W8 (T:Txt w K mg t):FnOk P w K mg base (CXr P w) 1 t.dU t.eG ["_law_script","_law_at"] (Zk9 K):=by
 refine T.aE.F.aR Zgs (λ_ _ _ _ H vs Q E hr h=>?_)
 ·obtain ⟨a,ns,n,rfl,hS,hl,h0,h1,k⟩:=h
  refine ⟨_,(Zd (Z2 (Zr Ql (pv 1) (Zo Zm (by rfl) T.ad PySem.boot_len (Za (pv 0) Zb)) (Zs _)) (Zg (Zq (Zw Zt (pv 0) (pv 1) (λ_ _=>rfl)))) Zv)
   (Zd (Z2 (Zr Yw (Zo Zm (by rfl) T.ad PySem.boot_len (Za (pv 0) Zb)) Ze (Zs _)) (Zg (Zq (Zi Z4 (Zi Xe Ze (pv 1)) Ze))) Zv)
   (Zg (Zq (Zi Z4 (Zi Z0 (Zw Zt (pv 0) (Zi Z0 (pv 1) (Zo Zm (by rfl) T.ad PySem.boot_len (Za (pv 0) Zb))) (λ_ _=>rfl)) Ze) (Zi Xe Ze (pv 1))))))),?_⟩;have el:((ns.map V.int).length:Int)=ns.length:=by simp
  refine ⟨_,Y,_,Y,a,_,Y,.inl hS,_,_,Y,Y,_,Y,?_⟩;rw [el];refine ite2 (λh=>?_) (λh=>?_)
  ·have h:n < ns.length:=by simpa using h
   have e:cell ns n=ns.getD n.toNat 0:=if_pos h;have en:n=(n.toNat:Int):=by lia
   have ei:atI (ns.map V.int) n=some (V.int (ns.getD n.toNat 0)):=by rw [en]; exact Yu (getI (n:=n.toNat) (by lia))
   rw [e] at k;exact ⟨_,Y,_,Y,a,_,_,_,Y,Y,hS,ei,k⟩
  ·have h:¬ n < ns.length:=by simpa using h
   have e:cell ns n=if ns.length=0 then 31 * n + 7 else ns.getD (n % ns.length).toNat 0 % 1000003 + 101 * n:=if_neg h
   refine ⟨_,Y,a,_,Y,.inl hS,Y,_,Y,?_⟩;rw [el];refine ite2 (λg=>?_) (λg=>?_)
   ·have g:ns.length=0:=by simpa using g
    refine ⟨_,Y,_,_,Y,Y,.inl ⟨by decide,by decide⟩,_,_,Y,Y,?_⟩;rw [if_pos g] at e;rw [e] at k; exact k
   ·have g:¬ ns.length=0:=by simpa using g
    have gp:(0:Int) < ns.length:=by lia
    rw [if_neg g] at e;have m0:=Int.emod_nonneg n (show (ns.length:Int)≠0 by lia);have m1:=Int.emod_lt_of_pos n gp;refine ⟨_,Y,_,Y,_,Y,a,_,Y,.inl hS,_,_,Y,Y,(by rw [el]; exact gp),a,_,_,_,Y,Y,hS,(?_:atI _ _=some (V.int (ns.getD (n % ns.length).toNat 0))),_,_,Y,Y,(by show (0:Int) < 1000003; decide),_,rfl,_,_,rfl,rfl,.inl ⟨by decide,by decide⟩,_,_,rfl,rfl,?_⟩
    ·rw [el]
     have en:n % (ns.length:Int)=((n % (ns.length:Int)).toNat:Int):=by lia
     rw [en];exact Yu (getI (by lia))
    ·rw [e] at k; exact k
def Xu:FnScope ["_law_cell_here","_law_many","_law_row","_law_rest","_law_seed"] ["_law_cell_here","_law_many"] (Zh Kb):=Am
def Q8 (T:Txt w K mg t):FnOk P w K mg base (CXr P w) 1 t.cx t.cF ["_law_cell_here","_law_many"] Zfc:=by
 refine T.aK.F.aR Xu (λ_ _ _ _ H vs Q E hr h=>?_)
 ·obtain ⟨c,n,rfl,hn60,k⟩:=h
  refine ⟨_,(Zd (Zp (i:=2) Xu.nd Y (Or.inl Y) (Yl Zb))
   (Zd (Zp (i:=3) Xu.nd rfl (Or.inl rfl) (Zi Xd (pv 0) (Zi Zni Ze Ze)))
   (Zd (Jr PassesOwn.never (PW.pt (Gi (Zr Wx (pv 3) Ze (Zs _)) (Ox (Zr Ql (Zo Zm (by rfl) T.ad PySem.boot_len (Za (pv 2) Zb)) (pv 1) (Zs _))))) (Zd (Yp (Je PySem.F.plainAttrs_list PySem.F.slot_list_append PySem.F.type_list_append Y7 (pv 2) (Za (Zi Z0 (pv 3) Ze) Zb)))
   (Zg (Zp (i:=3) Xu.nd rfl (Or.inl rfl) (Zi Yt (pv 3) Ze)))))
   (Zd (Zp (i:=4) Xu.nd rfl (Or.inl rfl) (Zi Z0 (pv 0) Ze))
   (Zd (Jr PassesOwn.never (Zr Ql (Zo Zm (by rfl) T.ad PySem.boot_len (Za (pv 2) Zb)) (pv 1) (Zs _)) (Zd (Zp (i:=4) Xu.nd rfl (Or.inl rfl) (Zi Z0 (Zi Z4 (Zi Z4 (Zi Xe (pv 4) Ze) Ze) (Zo Zm (by rfl) T.ad PySem.boot_len (Za (pv 2) Zb))) Ze))
   (Zg (Yp (Je PySem.F.plainAttrs_list PySem.F.slot_list_append PySem.F.type_list_append Y7 (pv 2) (Za (Zi Z0 (Zi Yt (Zi Z0 (Zi Xe (pv 4) Ze) Ze) Ze) Ze) Zb))))))
   (Zg (Zq (pv 2)))))))),?_⟩;refine ⟨Az _,λr nj=>?_⟩;refine ⟨_,Y,_,_,Y,Y,⟨by decide,by decide,by decide⟩,_,_,Y,Y,?_⟩;show tSeq (Q0 _ _) _ _ _ _;refine Z6 (λσ H1=>∃ (xs:List Int) (rest:Int),σ=[some (.int c),some (.int n),some (.ref r),some (.int rest),none]/\Same H H1/\H1 r=some (.lst (xs.map V.int))/\xs.length<=n/\(∀ x∈xs,0<=x/\x < 1009)) (λnx ig=>?_) ?_
  ·refine ⟨λm σ H1=>∃ (xs:List Int) (rest:Int),m=n - xs.length/\σ=[some (.int c),some (.int n),some (.ref r),some (.int rest),none]/\Same H H1/\H1 r=some (.lst (xs.map V.int))/\xs.length<=n/\(∀ x∈xs,0<=x/\x < 1009),
    ⟨n,[],_,rfl,rfl,Same.new nj,Zc,Az _,λx hx=>absurd hx (by simp)⟩,?_⟩
   rintro m σ H1 ⟨xs,rest,rfl,rfl,sm,h1,hl,hx⟩;have el:((xs.map V.int).length:Int)=xs.length:=by simp
   refine ⟨_,Y,_,_,Y,Y,_,Y,?_⟩;refine ite2 (λ_=>?_) (λ_=>?_)
   ·refine ⟨_,Y,r,_,Y,.inl (SqL.of h1),_,Y,_,_,Y,Y,_,Y,?_⟩
    rw [el];refine ite2 (λg=>?_) (λ_=>?_)
    ·have g:(xs.length:Int) < n:=by simpa using g
     refine ⟨_,λσ' H' h=>h,?_⟩;refine ⟨_,Y,.inl ⟨Y,_,SqL.of h1⟩,_,Y,_,_,Y,Y,(by show (0:Int) < 1009; decide),r,_,_,rfl,rfl,h1,(by rw [Ab]; exact Zx (by lia)),?_⟩;refine ⟨_,Y,_,_,Y,Y,⟨by decide,by decide⟩,?_⟩;refine ⟨n - (xs ++ [rest % 1009]).length,?_,xs ++ [rest % 1009],_,Y,Y,Same.add sm nj,?_,?_,?_⟩
     ·rw [Ae,At]; lia
     ·rw [Zc,<- Zcy]
     ·rw [Ae,At]; lia
     ·intro x hm
      rcases List.mem_append.mp hm with z | z
      ·exact hx x z
      ·have:x=rest % 1009:=by simpa using z
       subst this;lia
    ·exact ig _ _ ⟨xs,rest,Y,sm,h1,hl,hx⟩
   ·exact ig _ _ ⟨xs,rest,Y,sm,h1,hl,hx⟩
  rintro σ H1 ⟨xs,rest,rfl,sm,h1,hl,hx⟩;refine ⟨_,Y,_,_,Y,Y,(by show (0:Int) < 2147483629; decide),?_⟩;show tSeq (Q0 _ _) _ _ _ _;refine Z6 (λσ H1=>∃ (xs:List Int) (rest ku:Int),σ=[some (.int c),some (.int n),some (.ref r),some (.int rest),some (.int ku)]/\Same H H1/\H1 r=some (.lst (xs.map V.int))/\xs.length=n/\(∀ x∈xs,0<=x/\x < 1009)) (λnx ig=>?_) ?_
  ·refine ⟨λm σ H1=>∃ (xs:List Int) (rest ku:Int),m=n - xs.length/\σ=[some (.int c),some (.int n),some (.ref r),some (.int rest),some (.int ku)]/\Same H H1/\H1 r=some (.lst (xs.map V.int))/\xs.length<=n/\(∀ x∈xs,0<=x/\x < 1009),
    ⟨n - xs.length,xs,rest,_,rfl,rfl,sm,h1,hl,hx⟩,?_⟩
   clear h1 hl hx sm xs rest;rintro m σ H1 ⟨xs,rest,ku,rfl,rfl,sm,h1,hl,hx⟩;have el:((xs.map V.int).length:Int)=xs.length:=by simp
   refine ⟨_,Y,r,_,Y,.inl (SqL.of h1),_,Y,_,_,Y,Y,_,Y,?_⟩;rw [el];refine ite2 (λg=>?_) (λg=>?_)
   ·have g:(xs.length:Int) < n:=by simpa using g
    refine ⟨_,λσ' H' h=>h,?_⟩;refine ⟨_,Y,_,_,Y,Y,.inr ⟨by decide,by decide⟩,_,_,Y,Y,_,Y,r,_,Y,.inl (SqL.of h1),_,_,Y,Y,_,_,Y,Y,(by show (0:Int) < 2147483647; decide),?_⟩;obtain ⟨y,hy⟩:∃ y,y=(ku * 48271 + 12345 + ((xs.map V.int).length:Int)) % 2147483647 * 69621 % 2147483629 / 7 % 1009:=⟨_,rfl⟩;refine ⟨_,Y,.inl ⟨Y,_,SqL.of h1⟩,_,Y,_,_,Y,Y,.inr ⟨by decide,by decide⟩,_,_,Y,Y,(by show (0:Int) < 2147483629; decide),_,_,rfl,rfl,⟨by decide,by decide⟩,_,_,rfl,rfl,(by show (0:Int) < 1009; decide),r,_,_,rfl,rfl,h1,(by rw [Ab]; exact Zx (by lia)),?_⟩;refine ⟨n - (xs ++ [y]).length,?_,xs ++ [y],_,_,Y,Y,Same.add sm nj,?_,?_,?_⟩
    ·rw [Ae,At]; lia
    ·rw [Zc,<- Zcy,hy]
    ·rw [Ae,At]; lia
    ·intro x hm
     rcases List.mem_append.mp hm with z | z
     ·exact hx x z
     ·have:x=y:=by simpa using z
      rw [this,hy];exact ⟨Int.emod_nonneg _ (by decide),Int.emod_lt_of_pos _ (by decide)⟩
   ·have g:¬ (xs.length:Int) < n:=by simpa using g
    exact ig _ _ ⟨xs,rest,ku,Y,sm,h1,by lia,hx⟩
  rintro σ H1 ⟨xs,rest,ku,rfl,sm,h1,hl,hx⟩;exact ⟨_,Y,k r xs H1 sm nj h1 hl hx⟩
def Zk5 (K:W.Frag):Sp:=λvs H Q _=>∃ (a:Addr) (xs:List Int) (n:Nat) (sh:Int),vs=[.ref a,.int n,.int sh]/\H a=some (.lst (xs.map V.int))/\xs.length=60/\(∀ x∈xs,0<=x/\x < 1009)/\1<=n/\n<=14 /\
 ∀ (p:Addr) (M:List (Option Nat)) (H':Hp),Same H H'->H p=none->H' p=some (.lst (M.map mV))->M.length=3 * n->(∀ (i j:Nat),M[i]?=some (some j)->M[j]?=some (some i)/\i≠j)->Q (.ref p) H'
def map_set {α:Type} (f:α->V) (l:List α) (i:Nat) (x:α):(l.map f).set i (f x)=(l.set i x).map f:=by rw [List.map_set]
def Wm (h:i < n):ixN n (i:Int)=some i:=by
 unfold ixN;simp;lia
theorem Zib {α β:Type} (f:α->β):∀ (l:List α) (i:Nat),(l.map f).eraseIdx i=(l.eraseIdx i).map f
 | [],_=>rfl
 | _ :: _,0=>rfl
 | a :: r,i + 1=>by rw [List.map_cons,List.eraseIdx_cons_succ,Zib f r i,List.eraseIdx_cons_succ,List.map_cons]
def natV (F:List Nat) (i:Nat):(F.map λ(j:Nat)=>V.int j)[i]?=(F[i]?).map λ(j:Nat)=>V.int j:=Ah ..
def X0:FnScope ["_law_nums","_law_many","_law_share","_law_mates","_law_free","_law_at","_law_one","_law_pick","_law_other"] ["_law_nums","_law_many","_law_share"] (Zh Zby):=Am
def Zhl (T:Txt w K mg t):FnOk P w K mg base (CXr P w) 1 t.dW t.eI ["_law_nums","_law_many","_law_share"] (Zk5 K):=by
 refine T.eV.F.aR X0 (λ_ _ _ _ H vs Q E hr h=>?_)
 ·obtain ⟨a,xs,n,sh,rfl,ha,hl,hx,h1,h2,k⟩:=h
  refine ⟨_,(Zd (Zp (i:=3) X0.nd Y (Or.inl Y) (Zi Gn (Yl (Za Ws Zb)) (Zi Xe Ze (pv 1))))
   (Zd (Zp (i:=4) X0.nd rfl (Or.inl rfl) (Og rfl T.ba rfl T.ak rfl (Za (Zi Xe Ze (pv 1)) Zb)))
   (Zd (Zp (i:=5) X0.nd rfl (Or.inl rfl) Ze)
   (Zd (Jr PassesOwn.never (Zr Wx (Zo Zm (by rfl) T.ad PySem.boot_len (Za (pv 4) Zb)) Ze (Zs _)) (Zd (Zp (i:=6) X0.nd rfl (Or.inl rfl) (Je PySem.F.plainAttrs_list PySem.F.slot_list_pop PySem.F.type_list_pop Zcu (pv 4) (Za Ze Zb)))
   (Zd (Zp (i:=7) X0.nd rfl (Or.inl rfl) (Zw Zt (pv 0) (pv 5) (λ_ _=>rfl)))
   (Zd (Zp (i:=5) X0.nd rfl (Or.inl rfl) (Zi Z4 (pv 5) Ze))
   (Zg (Z2 (Zr Zop (Zi Z0 (pv 7) Ze) (pv 2) (Zs _)) (Zd (Zp (i:=8) X0.nd rfl (Or.inl rfl) (Je PySem.F.plainAttrs_list PySem.F.slot_list_pop PySem.F.type_list_pop Zcu (pv 4) (Za (Zi Z0 (Zi Yt (pv 7) Ze) (Zo Zm (by rfl) T.ad PySem.boot_len (Za (pv 4) Zb))) Zb)))
   (Zd (Xm (pv 8) (Jd (pv 3) (pv 6) X3))
   (Zg (Xm (pv 6) (Jd (pv 3) (pv 8) X3))))) Zv))))))
   (Zg (Zq (pv 3))))))),?_⟩;refine ⟨(by show 1<=sizeLine; decide),λq hq=>?_⟩;refine ⟨_,Y,_,_,Y,Y,.inl ⟨by decide,by decide⟩,q,_,_,Y,Y,Zc,(by lia),(by lia),?_,λm hm=>?_⟩
  ·have:(3 * (n:Int)).toNat=3 * n:=by lia
   show 1 * (3 * (n:Int)).toNat<=sizeLine;rw [this,sizeLine_eq]; lia
  have eN:(3 * (n:Int)).toNat=3 * n:=by lia
  have eM:(List.replicate (3 * (n:Int)).toNat [V.non]).flatten=(List.replicate (3 * n) (none:Option Nat)).map mV:=by
   rw [eN,List.flatten_replicate_singleton,List.map_replicate];rfl
  refine ⟨_,Y,_,_,Y,Y,.inl ⟨by decide,by decide⟩,3 * n,(congrArg (λz=>[V.int z]) (by lia:(3 * (n:Int))=((3 * n:Nat):Int))),by lia,λf hf=>?_⟩;have qv:f≠m:=λz=>by rw [z,Zc] at hf; cases hf
  have lg:H m=none:=by
   have:m≠q:=λz=>by rw [z,Zc] at hm; cases hm
   rw [Zf this] at hm; exact hm
  have ll:H f=none:=by
   rw [Zf qv] at hf;have:f≠q:=λz=>by rw [z,Zc] at hf; cases hf
   rw [Zf this] at hf; exact hf
  have sm0:Same H (upd (upd (upd H q (.lst [.non])) m (.lst (List.replicate (3 * (n:Int)).toNat [V.non]).flatten)) f (.lst ((List.range (3 * n)).map λ(i:Nat)=>V.int i))):=Same.add (Same.add (Same.new hq) lg) ll;show tSeq (Q0 _ _) _ _ _ _;refine Z6 (λσ H1=>∃ (M:List (Option Nat)) (v4 v5 v6 v7 v8:Option V),σ=[some (.ref a),some (.int n),some (.int sh),some (.ref m),v4,v5,v6,v7,v8]/\Same H H1/\H1 m=some (.lst (M.map mV))/\M.length=3 * n/\∀ (i j:Nat),M[i]?=some (some j)->M[j]?=some (some i)/\i≠j) (λnx ig=>?_) ?_
  ·refine ⟨λc σ H1=>∃ (F:List Nat) (M:List (Option Nat)) (at':Nat) (v6 v7 v8:Option V),c=F.length/\σ=[some (.ref a),some (.int n),some (.int sh),some (.ref m),some (.ref f),some (.int at'),v6,v7,v8]/\Same H H1/\H1 m=some (.lst (M.map mV))/\H1 f=some (.lst (F.map λ(i:Nat)=>V.int i))/\SewOk (3 * n) F M/\at' + F.length<=3 * n,
    ⟨_,List.range (3 * n),List.replicate (3 * n) none,0,none,none,none,rfl,rfl,sm0,?_,Zc,SewOk.start _,by simp⟩,?_⟩
   ·rw [Zf qv.symm,Zc,eM]
   rintro c σ H1 ⟨F,M,at',v6,v7,v8,rfl,rfl,sm,g1,g2,hs,ww⟩;refine ⟨_,Y,f,_,Y,.inl (SqL.of g2),_,_,Y,Y,_,Y,?_⟩;rw [Ab];refine ite2 (λg=>?_) (λg=>?_)
   ·have g:1 < F.length:=by have:=of_decide_eq_true g; lia
    obtain ⟨one,F',rfl⟩:∃ one F',F=one :: F':=by
     cases F with
     | nil=>simp at g
     | cons a b=>exact ⟨a,b,Y⟩
    rw [List.length_cons] at g ww;refine ⟨_,λσ' H' h=>h,?_⟩;refine ⟨_,Y,.inl ⟨Y,_,SqL.of g2⟩,f,_,0,0,V.int one,Y,Y,g2,by decide,by decide,(by simp [seqIndex?]),Y,?_⟩;have e0:((one :: F').map λ(i:Nat)=>V.int i).eraseIdx 0=F'.map λ(i:Nat)=>V.int i:=rfl;rw [e0];have w5:(upd H1 f (.lst (F'.map λ(i:Nat)=>V.int i))) f=some (.lst (F'.map λ(i:Nat)=>V.int i)):=Zc;have g1':(upd H1 f (.lst (F'.map λ(i:Nat)=>V.int i))) m=some (.lst (M.map mV)):=by rw [Zf qv.symm]; exact g1
    have yr:Same H (upd H1 f (.lst (F'.map λ(i:Nat)=>V.int i))):=Same.add sm ll;generalize upd H1 f (.lst (F'.map λ(i:Nat)=>V.int i))=H2 at g1' w5 yr ⊢;have oh:at' < xs.length:=by lia
    refine ⟨_,Y,_,Y,a,_,_,_,Y,Y,SqL.of (yr _ _ ha),Yu (getI oh),?_⟩;obtain ⟨p0,p1⟩:=hx _ (List.getElem_mem oh);have ep:xs.getD at' 0=xs[at']:=by rw [Ad,Ac oh]; rfl
    rw [ep];generalize xs[at']=jq at p0 p1 ⊢;refine ⟨_,Y,_,_,Y,Y,?_⟩;refine ⟨_,Y,_,_,Y,Y,(by show (0:Int) < 7; decide),_,rfl,_,_,rfl,rfl,_,rfl,?_⟩;refine ite2 (λ_=>?_) (λ_=>?_)
    ·-- other=free.pop(..)
     have hF:(0:Int) < F'.length:=by lia
     have k0:=Int.emod_nonneg (jq / 7) (show (F'.length:Int)≠0 by lia);have k1:=Int.emod_lt_of_pos (jq / 7) hF;obtain ⟨kk,wt⟩:∃ kk:Nat,jq / 7 % (F'.length:Int)=kk:=⟨_,(Int.toNat_of_nonneg k0).symm⟩;have l9:kk < F'.length:=by lia
     refine ⟨_,Y,.inl ⟨Y,_,SqL.of w5⟩,_,Y,_,_,Y,Y,⟨by decide,by decide⟩,_,Y,f,_,Y,.inl (SqL.of w5),_,_,Y,Y,(by rw [Ab]; exact hF),f,_,_,kk,V.int F'[kk],Y,Y,w5,?_,?_,?_,?_,?_⟩
     ·rw [Ab,wt]; lia
     ·rw [Ab,wt]; lia
     ·rw [Ab,wt]; simp [seqIndex?]; lia
     ·rw [natV,Ac l9]; rfl
     have e1:(F'.map λ(i:Nat)=>V.int i).eraseIdx kk=(F'.eraseIdx kk).map λ(i:Nat)=>V.int i:=by rw [Zib]
     rw [e1];have hp:=hs.pair (Ac l9);have l1:one < M.length:=by rw [hs.len]; exact (hs.free one List.mem_cons_self).1
     have l2:F'[kk] < M.length:=by rw [hs.len]; exact (hs.free _ (List.mem_cons_of_mem _ (List.getElem_mem l9))).1
     have g1'':(upd H2 f (.lst ((F'.eraseIdx kk).map λ(i:Nat)=>V.int i))) m=some (.lst (M.map mV)):=by rw [Zf qv.symm]; exact g1'
     refine ⟨_,Y,_,Y,_,Y,m,_,_,one,Y,Y,g1'',(by rw [Ab]; exact Wm l1),?_⟩;refine ⟨_,Y,_,Y,_,Y,m,_,_,F'[kk],Y,Y,Zc,(by rw [List.length_set,Ab]; exact Wm l2),?_⟩;refine ⟨(F'.eraseIdx kk).length,?_,F'.eraseIdx kk,(M.set one (some F'[kk])).set F'[kk] (some one),at' + 1,_,_,_,Y,Y,Same.add (Same.add (Same.add yr ll) lg) lg,?_,?_,hp,?_⟩
     ·rw [List.length_eraseIdx_of_lt l9,List.length_cons]; lia
     ·rw [Zc]
      show some (HO.lst (((M.map mV).set one (mV (some F'[kk]))).set F'[kk] (mV (some one))))=_;rw [map_set,map_set]
     ·rw [Zf qv,Zf qv,Zc]
     ·rw [List.length_eraseIdx_of_lt l9]; lia
    ·exact ⟨F'.length,by rw [List.length_cons]; lia,F',M,at' + 1,_,_,_,rfl,rfl,yr,g1',w5,hs.skip,by lia⟩
   ·exact ig _ _ ⟨M,_,_,_,_,_,Y,sm,g1,hs.len,hs.inv⟩
  rintro σ H1 ⟨M,v4,v5,v6,v7,v8,rfl,sm,g1,qu,je⟩;exact ⟨_,Y,k m M H1 sm lg g1 qu je⟩
def Qo (Pv:Nat->St->Hp->Prop) (h0:Pv 0 σ H)
  (hs:∀ (i:Nat) σ H,i < n->Pv i σ H->g (.int (lo + i)) σ H λσ2 H2=>tt σ2 H2 λb H3=>if b=true then tb σ2 H3 (Pv (i + 1)) else Pv (i + 1) σ2 H3) (hd:∀ σ H,Pv n σ H->R σ H):Wo (Itr lo n) g tt tb R σ H:=by
 refine ⟨λi m σ H=>m=n - i/\i<=n/\Pv i σ H,⟨n,by simp,Az _,h0⟩,?_⟩;rintro i m σ H ⟨rfl,hi,p⟩;by_cases gr:i < n
 ·refine .inr ⟨gr,Pv (i + 1),λσ' H' p'=>⟨n - (i + 1),by lia,Y,gr,p'⟩,λx H' y=>?_⟩
  obtain ⟨e,y⟩:=y;subst e y;exact hs i σ _ gr p
 ·have e:i=n:=by lia
  subst e;exact .inl ⟨An _,hd σ H p⟩
def Yi {xs:List V} (Pv:Nat->St->Hp->Prop) (h0:Pv 0 σ H) (hl:∀ i σ H,i<=xs.length->Pv i σ H->SqL K H a xs)
  (hs:∀ (i:Nat) x σ H,xs[i]?=some x->Pv i σ H->g x σ H λσ2 H2=>tt σ2 H2 λb H3=>if b=true then tb σ2 H3 (Pv (i + 1)) else Pv (i + 1) σ2 H3) (hd:∀ σ H,Pv xs.length σ H->R σ H):Wo (Itl K a) g tt tb R σ H:=by
 refine ⟨λi m σ H=>m=xs.length - i/\i<=xs.length/\Pv i σ H,⟨xs.length,by simp,Az _,h0⟩,?_⟩;rintro i m σ H ⟨rfl,hi,p⟩;have q:=hl i σ H hi p;by_cases gr:i < xs.length
 ·refine .inr ⟨⟨xs,xs[i],q,by simp [gr]⟩,Pv (i + 1),λσ' H' p'=>⟨xs.length - (i + 1),by lia,Y,gr,p'⟩,λx H' y=>?_⟩
  obtain ⟨e,y⟩:=y;subst e;exact hs i x σ _ (y xs q) p
 ·have e:i=xs.length:=by lia
  subst e;exact .inl ⟨⟨xs,q,An _⟩,hd σ H p⟩
def Ui {xs:List V} (Pv:Nat->St->Hp->Prop) (h0:Pv 0 σ H) (hl:∀ i σ H,i<=xs.length->Pv i σ H->SqT K H a xs)
  (hs:∀ (i:Nat) x σ H,xs[i]?=some x->Pv i σ H->g x σ H λσ2 H2=>tt σ2 H2 λb H3=>if b=true then tb σ2 H3 (Pv (i + 1)) else Pv (i + 1) σ2 H3) (hd:∀ σ H,Pv xs.length σ H->R σ H):Wo (Itt K a) g tt tb R σ H:=by
 refine ⟨λi m σ H=>m=xs.length - i/\i<=xs.length/\Pv i σ H,⟨xs.length,by simp,Az _,h0⟩,?_⟩;rintro i m σ H ⟨rfl,hi,p⟩;have q:=hl i σ H hi p;by_cases gr:i < xs.length
 ·refine .inr ⟨⟨xs,xs[i],q,by simp [gr]⟩,Pv (i + 1),λσ' H' p'=>⟨xs.length - (i + 1),by lia,Y,gr,p'⟩,λx H' y=>?_⟩
  obtain ⟨e,y⟩:=y;subst e;exact hs i x σ _ (y xs q) p
 ·have e:i=xs.length:=by lia
  subst e;exact .inl ⟨⟨xs,q,An _⟩,hd σ H p⟩
def row3 (ns:List Int) (k:Nat):List V:=[.int (ns.getD (3 * k) 0),.int (ns.getD (3 * k + 1) 0),.int (ns.getD (3 * k + 2) 0)]
def Yo (H:Hp) (r:Addr) (ns:List Int):Prop:=∃ ts:List Addr,H r=some (.lst (ts.map V.ref))/\ns.length=3 * ts.length/\∀ (k:Nat) (t:Addr),ts[k]?=some t->H t=some (.tup (row3 ns k))
def Yo.same (h:Yo H r ns) (s:Same H H'):Yo H' r ns:=by
 obtain ⟨ts,h1,h2,h3⟩:=h;exact ⟨ts,s _ _ h1,h2,λk t e=>s _ _ (h3 k t e)⟩
def Zk6:Sp:=λvs H Q _=>∃ (a:Addr) (M:List (Option Nat)) (n:Nat) (st sp:Int),vs=[.ref a,.int st,.int sp]/\H a=some (.lst (M.map mV))/\M.length=3 * n/\1<=n/\n<=14/\(∀ (i j:Nat),M[i]?=some (some j)->M[j]?=some (some i)/\i≠j)/\sp∈Ua /\
 ∀ (p:Addr) (H':Hp),Same H H'->H p=none->Yo H' p (flat M st sp)->Q (.ref p) H'
def O8 {t:Int} (h:t∈Ua):-(2 ^ 64) < t/\t < 2 ^ 64:=by
 simp only [Ua,List.mem_cons,List.not_mem_nil,or_false] at h
 rcases h with rfl | rfl | rfl | rfl | rfl | rfl | rfl | rfl <;> decide
def Znp {M:List (Option Nat)} {i:Nat} (h:i < M.length):atI (M.map mV) (0 + (i:Int))=some (mV M[i]):=by
 rw [Int.zero_add];exact Yu (by rw [Ah,Ac h]; rfl)
def Vd:FnScope ["_law_mates","_law_start","_law_step","_law_flat","_law_at","_law_mate"] ["_law_mates","_law_start","_law_step"] (Zh Zbz):=Am
def Zhm (T:Txt w K mg t):FnOk P w K mg base (CXr P w) 1 t.dX t.eJ ["_law_mates","_law_start","_law_step"] Zk6:=by
 refine T.eW.F.aR Vd (λ_ _ _ _ H vs Q E hr h=>?_)
 ·obtain ⟨a,M,n,st,sp,rfl,ha,hM,h1,h2,hi,jn,k⟩:=h
  refine ⟨_,(Zd (Zp (i:=3) Vd.nd Y (Or.inr Y) (Yl Zb))
   (Zd (Y0 PassesOwn.never rfl (Y1 rfl T.ak (Za (Zo Zm (by rfl) T.ad PySem.boot_len (Za (pv 0) Zb)) Zb)) (Zn (i:=4) Vd.nd rfl (Or.inl rfl)) (Zd (Zp (i:=5) Vd.nd rfl (Or.inl rfl) (Zw Zt (pv 0) (pv 4) (λ_ _=>rfl)))
   (Zg (Z2 (PW.pt (Gi (Zr Jv (pv 5) Ws (Zs _)) (Ox (Zr Ql (pv 5) (pv 4) (Zs _))))) (Zg (Yp (Je PySem.F.plainAttrs_list PySem.F.slot_list_append PySem.F.type_list_append Y7 (pv 3) (Za (Zw Zt (pv 3) (pv 5) (λ_ _=>rfl)) Zb)))) (Zg (Yp (Je PySem.F.plainAttrs_list PySem.F.slot_list_append PySem.F.type_list_append Y7 (pv 3) (Za (Zi Z0 (Zi Z4 (pv 1) (Zi Xe (pv 2) (pv 4))) Ze) Zb))))))))
   (Zg (Zq (Yg (ts:=["_law_k"]) (fv:=[("_law_flat",3)]) ⟨rfl,by decide +kernel,by decide +kernel,Yc (by rfl),⟨⟨rfl,rfl,Or.inl rfl⟩,trivial⟩⟩ rfl (Y1 rfl T.ak (Za (Zi Yt (Zo Zm (by rfl) T.ad PySem.boot_len (Za (pv 0) Zb)) Ze) Zb)) (λ_ _ _ _=>(Zn (i:=0) (show List.Nodup (["_law_k","_law_flat"]:List Str) from by decide +kernel) rfl (Or.inl rfl) (Or.inr rfl))) (λ_ _ _ _=>Yb) (λ_ _ _=>rfl) (λ_ _ _ _ _ _=>Ye (Xo (Za (Zw (W6 K) (pv 1) (Zi Xe Ze (pv 0)) (λ_ _=>rfl)) (Za (Zw (W6 K) (pv 1) (Zi Z4 (Zi Xe Ze (pv 0)) Ze) (λ_ _=>rfl)) (Za (Zw (W6 K) (pv 1) (Zi Z4 (Zi Xe Ze (pv 0)) Ze) (λ_ _=>rfl)) Zb)))))))))),?_⟩;refine ⟨Az _,λf hf=>?_⟩;have eL:(((M.map mV).length:Nat):Int).toNat=M.length:=by simp
  have ha1:(upd H f (.lst [])) a=some (.lst (M.map mV)):=by rw [Zf (Zj ha hf)]; exact ha
  dsimp only [Zl];show tSeq (tFor _ _ _) _ _ _ _;refine Z6 (λσ H1=>∃ (v4 v5:Option V),σ=[some (.ref a),some (.int st),some (.int sp),some (.ref f),v4,v5]/\Same H H1/\H1 f=some (.lst ((flat M st sp).map V.int))) (λnx ig=>?_) ?_
  ·refine ⟨_,Y,a,_,Y,.inl (SqL.of ha1),_,Y,by lia,by rw [Ab]; lia,?_⟩
   rw [eL];refine X2 (n:=M.length) (λi σ H1=>∃ (v4 v5:Option V),σ=[some (.ref a),some (.int st),some (.int sp),some (.ref f),v4,v5]/\Same H H1/\H1 f=some (.lst (((List.range i).map λi=>nm st sp (rep M i)).map V.int))) ⟨none,none,Y,Same.new hf,Zc⟩ ?_ ?_
   ·rintro i σ H1 gr ⟨v4,v5,rfl,sm,lh⟩
    refine ⟨_,Y,_,Y,a,_,_,_,Y,Y,SqL.of (sm _ _ ha),Znp gr,?_⟩;have ik:∀ x:Int,x=nm st sp (rep M i)->(upd H1 f (.lst (((List.range i).map λi=>nm st sp (rep M i)).map V.int ++ [V.int x]))) f=some (.lst (((List.range (i + 1)).map λi=>nm st sp (rep M i)).map V.int)):=λx hx=>by
     rw [Zc,hx,List.range_succ]
     simp
    have gc:(((List.range i).map λi=>nm st sp (rep M i)).map V.int).length < sizeLine:=by
     rw [Ab,Ab,List.length_range]; exact Zx (by lia)
    refine ⟨_,Y,Y,_,Y,?_⟩
    cases e:M[i] with
    | none =>
     have er:rep M i=i:=by unfold rep; rw [Ac gr,e]
     refine iteF ?_;refine iteF ?_;refine ⟨_,Y,.inl ⟨Y,_,SqL.of lh⟩,_,Y,_,Y,_,Y,_,_,Y,Y,.inl (O8 jn),_,_,Y,Y,_,_,Y,Y,(by show (0:Int) < 10000; decide),f,_,_,rfl,rfl,lh,gc,?_⟩;exact ⟨_,_,Y,Same.add sm hf,ik _ (by rw [er]; unfold nm; rw [Int.zero_add])⟩
    | some j =>
     have u7:M[i]?=some (some j):=by rw [Ac gr,e]
     refine iteT ?_;refine ⟨_,Y,_,Y,_,_,Y,Y,_,Y,?_⟩;refine ite2 (λg=>?_) (λg=>?_)
     ·have g:j < i:=by have:=of_decide_eq_true g; lia
      have er:rep M i=j:=by unfold rep; rw [u7]; exact if_pos g
      have erj:rep M j=j:=by unfold rep; rw [(hi i j u7).1]; exact if_neg (by lia)
      have ej:atI (((List.range i).map λi=>nm st sp (rep M i)).map V.int) (j:Int)=some (V.int (nm st sp (rep M i))):=by
       refine Yu ?_;rw [Ah,Ah,List.getElem?_range g,er];show some (V.int (nm st sp (rep M j)))=_;rw [erj]
      refine ⟨_,Y,.inl ⟨Y,_,SqL.of lh⟩,_,Y,_,Y,f,_,_,_,Y,Y,SqL.of lh,ej,f,_,_,Y,Y,lh,gc,?_⟩;exact ⟨_,_,Y,Same.add sm hf,ik _ Y⟩
     ·have g:¬ j < i:=by
       have:¬ ((j:Int) < 0 + (i:Int)):=λz=>g (decide_eq_true z);lia
      have er:rep M i=i:=by unfold rep; rw [u7]; exact if_neg g
      refine ⟨_,Y,.inl ⟨Y,_,SqL.of lh⟩,_,Y,_,Y,_,Y,_,_,Y,Y,.inl (O8 jn),_,_,Y,Y,_,_,Y,Y,(by show (0:Int) < 10000; decide),f,_,_,rfl,rfl,lh,gc,?_⟩;exact ⟨_,_,Y,Same.add sm hf,ik _ (by rw [er]; unfold nm; rw [Int.zero_add])⟩
   ·rintro σ H1 ⟨v4,v5,rfl,sm,lh⟩
    exact ig _ _ ⟨v4,v5,Y,sm,lh⟩
  rintro σ H1 ⟨v4,v5,rfl,sm,lh⟩;refine ⟨_,Y,a,_,Y,.inl (SqL.of (sm _ _ ha)),_,_,Y,Y,⟨by decide,by decide⟩,_,Y,by rw [Ab]; lia,by rw [Ab]; lia,λD hD=>?_⟩;have eD:((((M.map mV).length:Nat):Int) / 3).toNat=n:=by rw [Ab,hM]; lia
  have hD0:H D=none:=sm.free hD;have hfD:f≠D:=λz=>by rw [z] at lh; rw [hD] at lh; cases lh
  have hlf:(flat M st sp).length=3 * n:=by unfold flat; simp [hM]
  show Wo (Itr 0 ((((M.map mV).length:Nat):Int) / 3).toNat) _ _ _ _ _ _;rw [eD];refine Qo (λi σ H2=>∃ (ts:List Addr) (v:Option V),σ=[v,some (.ref f)]/\Same H H2/\H2 D=some (.lst (ts.map V.ref))/\ts.length=i/\H2 f=some (.lst ((flat M st sp).map V.int))/\∀ (k:Nat) (t:Addr),ts[k]?=some t->H2 t=some (.tup (row3 (flat M st sp) k)))
   ⟨[],none,rfl,Same.add sm hD0,Zc,rfl,by rw [Zf hfD]; exact lh,λk t z=>by simp at z⟩ ?_ ?_
  ·rintro i σ H2 gr ⟨ts,v,rfl,uf,g1,iw,g2,g3⟩
   have at':∀ (c:Nat) (z:Int),c < 3->z=3 * (0 + (i:Int)) + c->atI ((flat M st sp).map V.int) z=some (V.int ((flat M st sp).getD (3 * i + c) 0)):=λc z hc hz=>by
    have e:z=((3 * i + c:Nat):Int):=by lia
    rw [e];exact Yu (getI (by lia))
   dsimp only [Zl,tYes];rw [if_pos rfl];refine ⟨_,Y,_,Y,_,_,Y,Y,.inl ⟨by decide,by decide⟩,f,_,_,_,Y,Y,SqL.of g2,at' 0 _ (by decide) (by simp),?_⟩;refine ⟨_,Y,_,Y,_,_,Y,Y,.inl ⟨by decide,by decide⟩,_,_,Y,Y,f,_,_,_,Y,Y,SqL.of g2,at' 1 _ (by decide) Y,?_⟩;refine ⟨_,Y,_,Y,_,_,Y,Y,.inl ⟨by decide,by decide⟩,_,_,Y,Y,f,_,_,_,Y,Y,SqL.of g2,at' 2 _ (by decide) Y,?_⟩;refine ⟨(by show 3<=sizeLine; decide),λq hq=>?_⟩;have hqD:q≠D:=λz=>by rw [z,g1] at hq; cases hq
   have hqf:q≠f:=λz=>by rw [z,g2] at hq; cases hq
   have wl:H q=none:=uf.free hq;refine ⟨_,by rw [Zf (Ne.symm hqD)]; exact g1,(by rw [Ab]; exact Zx (by lia)),ts ++ [q],_,Y,Same.add (Same.add uf wl) hD0,?_,?_,?_,?_⟩
   ·rw [Zc]; simp
   ·rw [Ae,At,iw]
   ·rw [Zf hfD,Zf (Ne.symm hqf)]; exact g2
   ·intro k t z
    by_cases hk:k < ts.length
    ·rw [Av hk] at z
     have g:=g3 k t z;rw [Zf (λe=>by rw [e,g1] at g; cases g),Zf (Zj g hq)];exact g
    ·have si:k=ts.length:=by
      have:=(Aa z).1;rw [Ae,At] at this;lia
     subst si;have:t=q:=by simpa using z.symm
     subst this;rw [Zf hqD,Zc,iw];rfl
  ·rintro σ H2 ⟨ts,v,rfl,uf,g1,iw,g2,g3⟩
   exact k D H2 uf hD0 ⟨ts,g1,by rw [hlf,iw],g3⟩
def at4 (h0:0<=i) (h1:i < 4):∃ sh:Int,atI [V.int 0,V.int 0,V.int 1,V.int 3] i=some (V.int sh):=by
 obtain rfl | rfl | rfl | rfl:i=0\/i=1\/i=2\/i=3:=by lia
 all_goals exact ⟨_,Y⟩
def at8 (h0:0<=i) (h1:i < 8):∃ sp:Int,sp∈Ua/\atI [V.int 1,V.int 3,V.int 7,V.int 9,V.int 37,V.int 1009,V.int 3333,V.int 9999] i=some (V.int sp):=by
 obtain rfl | rfl | rfl | rfl | rfl | rfl | rfl | rfl:i=0\/i=1\/i=2\/i=3\/i=4\/i=5\/i=6\/i=7:=by lia
 all_goals exact ⟨_,by decide,Y⟩
def Zk4 (K:W.Frag):Sp:=λvs H Q _=>∃ (a:Addr) (ns:List Int),vs=[.ref a]/\SqL K H a (ns.map V.int)/\ns.length<=63 /\
 ∀ (p m r:Addr) (M:List (Option Nat)) (nms:List Int) (H':Hp),Same H H'->H' p=some (.tup [.ref m,.ref r])->H' m=some (.lst (M.map mV))->Yo H' r nms->TD M nms->M.length<=42->H m=none->H r=none->Q (.ref p) H'
def Xz:FnScope ["_law_script","_law_head","_law_many","_law_names","_law_share","_law_mates","_law_step"] ["_law_script"] (Zh Zbx):=Am
def Zhk (T:Txt w K mg t):FnOk P w K mg base (CXr P w) 2 t.dY t.eK ["_law_script"] (Zk4 K):=by
 refine T.eX.F.aR Xz (λ_ _ _ _ H vs Q E hr h=>?_)
 ·obtain ⟨a,ns,rfl,hS,hl,k⟩:=h
  refine ⟨_,(Zd (Zp (i:=1) Xz.nd Y (Or.inl Y) (pcT (W8 T) hr T.aE (Za (pv 0) (Za Ze Zb))))
   (Zd (Zp (i:=2) Xz.nd rfl (Or.inl rfl) (Zi Z4 Ze (Zi Z0 (pv 1) Ze)))
   (Zd (Z2 (Zr Yw (Zi Z0 (Zi Yt (pv 1) Ze) Ze) Ze (Zs _)) (Zg (Zp (i:=2) Xz.nd rfl (Or.inl rfl) (Zi Z4 Ze (Zi Z0 (Zi Yt (pv 1) Ze) Ze)))) Zv)
   (Zd (Zp (i:=3) Xz.nd rfl (Or.inl rfl) (pcT (W8 T) hr T.aE (Za (pv 0) (Za Ze Zb))))
   (Zd (Zp (i:=4) Xz.nd rfl (Or.inl rfl) (Zw Op (Xo (Za Ze (Za Ze (Za Ze (Za Ze Zb))))) (Zi Z0 (pv 3) Ze) (λ_ _=>rfl)))
   (Zd (Zp (i:=5) Xz.nd rfl (Or.inl rfl) (pcT (Zhl T) hr T.eV (Za (pcT (Q8 T) hr T.aK (Za (pcT (W8 T) hr T.aE (Za (pv 0) (Za Ze Zb))) (Za Ze Zb))) (Za (pv 2) (Za (pv 4) Zb)))))
   (Zd (Zp (i:=6) Xz.nd rfl (Or.inl rfl) (Zw Op (Xo (Za Ze (Za Ze (Za Ze (Za Ze (Za Ze (Za Ze (Za Ze (Za Ze Zb))))))))) (Zi Z0 (Zi Yt (pv 3) Ze) Ze) (λ_ _=>rfl)))
   (Zg (Zq (Xo (Za (pv 5) (Za (pcT (Zhm T) hr T.eW (Za (pv 5) (Za (Zi Z0 (Zi Yt (pv 3) Ze) Ze) (Za (pv 6) Zb)))) Zb)))))))))))),?_⟩;refine ⟨_,Y,a,ns,0,Y,hS,hl,by decide,by decide,?_⟩;generalize cell ns 0=hd;refine ⟨_,Y,_,_,Y,Y,(by show (0:Int) < 6; decide),_,_,rfl,rfl,?_⟩;dsimp only [Zl];show tSeq (tIfS _ _ _) _ _ _ _;refine Z6 (λσ H1=>∃ n:Nat,1<=n/\n<=14/\σ=[some (.ref a),some (.int hd),some (.int n),none,none,none,none]/\H1=H) (λnx ig=>?_) ?_
  ·refine ⟨_,Y,_,_,Y,Y,⟨by decide,by decide⟩,_,_,Y,Y,(by show (0:Int) < 9; decide),rfl,_,rfl,?_⟩
   refine ite2 (λ_=>?_) (λ_=>?_)
   ·refine ⟨_,Y,_,_,Y,Y,⟨by decide,by decide⟩,_,_,Y,Y,(by show (0:Int) < 8; decide),_,_,rfl,rfl,?_⟩
    have e:(7 + hd / 54 % 8:Int)=((7 + (hd / 54 % 8).toNat:Nat):Int):=by lia
    exact ig _ _ ⟨7 + (hd / 54 % 8).toNat,by lia,by lia,by rw [<- e]; rfl,rfl⟩
   ·have e:(1 + hd % 6:Int)=((1 + (hd % 6).toNat:Nat):Int):=by lia
    exact ig _ _ ⟨1 + (hd % 6).toNat,by lia,by lia,by rw [<- e]; rfl,rfl⟩
  rintro σ H1 ⟨n,n1,n2,rfl,rfl⟩;refine ⟨_,Y,a,ns,2,Y,hS,hl,by decide,by decide,?_⟩;generalize cell ns 2=nam;refine ⟨(by show 4<=sizeLine; decide),λq hq=>?_⟩;have m4:0<=nam % 4/\nam % 4 < 4:=by lia
  obtain ⟨sh,esh⟩:=at4 m4.1 m4.2;refine ⟨_,Y,_,_,Y,Y,(by show (0:Int) < 4; decide),q,_,_,_,rfl,rfl,SqT.of Zc,esh,?_⟩;have s1:Same H1 (upd H1 q (.tup [V.int 0,V.int 0,V.int 1,V.int 3])):=Same.new hq;refine ⟨_,Y,a,ns,1,Y,s1.seq hS,hl,by decide,by decide,?_⟩;refine ⟨_,60,Y,by decide,λp xs H2 s2 hp h2 h60 hx=>?_⟩;refine ⟨_,Y,_,Y,p,xs,n,sh,Y,h2,h60,hx,n1,n2,λm M H3 s3 hm hM gc ka=>?_⟩;have kh:Same H1 H3:=(s1.trans s2).trans s3;have lg:H1 m=none:=(s1.trans s2).free hm;refine ⟨(by show 8<=sizeLine; decide),λq2 rp=>?_⟩;have m8:0<=nam / 4 % 8/\nam / 4 % 8 < 8:=by lia
  obtain ⟨sp,jn,z9⟩:=at8 m8.1 m8.2;refine ⟨_,Y,_,_,Y,Y,⟨by decide,by decide⟩,_,_,Y,Y,(by show (0:Int) < 8; decide),q2,_,_,_,rfl,rfl,SqT.of Zc,z9,?_⟩;have yv:Same H1 (upd H3 q2 (.tup [V.int 1,V.int 3,V.int 7,V.int 9,V.int 37,V.int 1009,V.int 3333,V.int 9999])):=Same.add kh (kh.free rp);have hM4:(upd H3 q2 (.tup [V.int 1,V.int 3,V.int 7,V.int 9,V.int 37,V.int 1009,V.int 3333,V.int 9999])) m=some (.lst (M.map mV)):=by rw [Zf (Zj hM rp)]; exact hM
  refine ⟨_,Y,_,Y,_,Y,_,_,Y,Y,⟨by decide,by decide⟩,_,_,Y,Y,(by show (0:Int) < 10000; decide),_,rfl,m,M,n,_,sp,rfl,hM4,gc,n1,n2,ka,jn,λr H5 s5 hr5 nz=>?_⟩;refine ⟨(by show 2<=sizeLine; decide),λp5 wn=>?_⟩;have s15:=yv.trans s5;have nj:H1 r=none:=yv.free hr5;refine k p5 m r M _ _ (Same.add s15 (s15.free wn)) Zc ?_ (nz.same (Same.new wn)) (Zkw n1 n2 gc ka jn) (by lia) lg nj;rw [Zf (Zj (s5 _ _ hM4) wn)];exact s5 _ _ hM4
def spk (ns:List Int) (n:Nat) (f:Int->Addr):List (Key × V):=(keys ns n).map λx=>((Sum.inl x:Key),V.ref (f x))
structure SpotsF (H:Hp) (ns:List Int) (n:Nat) (f:Int->Addr):Prop where
 inj:∀ x∈keys ns n,∀ y∈keys ns n,f x=f y->x=y
 at':∀ x∈keys ns n,H (f x)=some (.lst ((pl ns n x).map nV))
def Zdj:Sp:=λvs H Q _=>∃ (a:Addr) (M:List (Option Nat)) (ns:List Int),vs=[.ref a]/\H a=some (.lst (ns.map V.int))/\TD M ns/\ns.length<=120 /\
 ∀ (d:Addr) (f:Int->Addr) (H':Hp),Same H H'->H d=none->H' d=some (.dK (spk ns ns.length f))->SpotsF H' ns ns.length f->(∀ x∈keys ns ns.length,H (f x)=none)->Q (.ref d) H'
def J0:FnScope ["names_at","spots","place","name"] ["names_at"] (Zh K8):=Am
def Zdt (T:Txt w K mg t):FnOk P w K mg base (CXr P w) 1 t.cQ t.cX ["names_at"] Zdj:=by
 refine T.db.F.aR J0 (λ_ _ _ _ H vs Q E hr h=>?_)
 ·obtain ⟨a,M,ns,rfl,ha,td,hl,k⟩:=h
  have hu:=J3 hr;refine ⟨_,(Zd (Zp (i:=1) J0.nd Y (Or.inl Y) Zcj)
   (Zd (Y0 PassesOwn.never rfl (Zlp rfl T.fb (Za (pv 0) Zb)) (J7 rfl (Zz (Zn (i:=2) J0.nd rfl (Or.inl rfl)) (Zz (Zn (i:=3) J0.nd rfl (Or.inl rfl)) Xv))) (Zd (Z2 (PW.pt (Ud (Zr Ql (pv 3) Ze (Zs _)) (Q4 (Zr Wx (pv 3) (Oy (v:=.int 9999) rfl T.cM ⟨_,rfl⟩) (Zs _))))) Yz Zv)
   (Zd (Yp (Je PySem.F.plainAttrs_list PySem.F.slot_list_append PySem.F.type_list_append Y7 (Zjd (pv 1) (pv 3) (Yl Zb) ⟨rfl,rfl,rfl,rfl⟩) (Za (pv 2) Zb)))
   (Zg (Z2 (Zr Wx (Zo Zm (by rfl) T.ad PySem.boot_len (Za (W7 hu (pv 1) (pv 3) (λ_ _=>rfl)) Zb)) Ze (Zs _)) Yz Zv)))))
   (Zg (Zq (pv 1))))),?_⟩
  intro d hd;have hda:a≠d:=Zj ha hd;dsimp only [Zl];show tSeq (tFor _ _ _) _ _ _ _;refine Z6 (λσ H1=>∃ (f:Int->Addr) (v2 v3:Option V),σ=[some (.ref a),some (.ref d),v2,v3]/\Same H H1/\H1 d=some (.dK (spk ns ns.length f))/\SpotsF H1 ns ns.length f/\∀ x∈keys ns ns.length,H (f x)=none) (λnx ig=>?_) ?_
  ·refine ⟨_,Y,a,Y,⟨_,SqL.of (by rw [Zf hda]; exact ha)⟩,?_⟩
   have el:(ns.map V.int).length=ns.length:=by simp
   refine Zj0 (xs:=ns.map V.int) (λi σ H1=>∃ (f:Int->Addr) (v2 v3:Option V),σ=[some (.ref a),some (.ref d),v2,v3]/\Same H H1/\H1 d=some (.dK (spk ns i f))/\SpotsF H1 ns i f/\∀ x∈keys ns i,H (f x)=none)
    ⟨λ_=>0,none,none,rfl,Same.new hd,Zc,⟨λx hx=>by simp [keys] at hx,λx hx=>by simp [keys] at hx⟩,λx hx=>by simp [keys] at hx⟩ ?_ ?_ ?_
   ·rintro i σ H1 _ ⟨f,v2,v3,rfl,sm,_⟩
    exact SqL.of (sm _ _ ha)
   ·rintro i x0 σ H1 q hx hq ⟨f,v2,v3,rfl,sm,m6,sf,ll⟩
    have hi:i < ns.length:=by rw [<- el]; exact (Aa hx).1
    obtain ⟨x,jy⟩:∃ x,ns[i]?=some x:=⟨_,Ac hi⟩;obtain rfl:x0=V.int x:=by rw [Ah,jy] at hx; exact (Ax hx).symm
    refine ⟨q,_,Y,SqT.of Zc,Y,_,_,Y,_,_,Y,Y,?_⟩;obtain ⟨x0,x1⟩:=td.rng i x jy;refine ⟨_,Y,_,_,Y,Y,_,Y,?_⟩;rw [decide_eq_false (by lia:¬ x < 0)];refine iteF ?_;refine ⟨_,Y,_,_,Y,Y,_,Y,?_⟩;rw [decide_eq_false (by lia:¬ x > 9999)];refine iteF ?_;have hdq:d≠q:=Zj m6 hq;have lu:(upd H1 q (.tup [.int i,.int x])) d=some (.dK (spk ns i f)):=by rw [Zf hdq]; exact m6
    dsimp only [Xj];show tSeq (Zkb _) _ _ _ _;refine Z6 (λσ H2=>∃ (f:Int->Addr),σ=[some (.ref a),some (.ref d),some (.int i),some (.int x)]/\Same H H2/\H2 d=some (.dK (spk ns (i + 1) f))/\SpotsF H2 ns (i + 1) f/\∀ x∈keys ns (i + 1),H (f x)=none) (λnx2 xp=>?_) ?_
    ·refine ⟨_,Y,d,Y,.inl ⟨_,.inl lu⟩,_,Y,Az _,λl qu=>?_⟩
     obtain ⟨hlq,jc⟩:=W1 qu;have hdl:d≠l:=Zj m6 jc;have u4:(upd (upd H1 q (.tup [.int i,.int x])) l (.lst [])) d=some (.dK (spk ns i f)):=by rw [Zf hdl]; exact lu
     have hlk:(spk ns i f).length < sizeLine:=by unfold spk; rw [Ab]; exact Zx (by have:=Kt ns i; lia)
     have wl:H q=none:=sm.free hq;have l8:H l=none:=sm.free jc;have smq:Same H (upd (upd H1 q (.tup [.int i,.int x])) l (.lst [])):=Same.add (Same.add sm wl) l8;have nk:(pl ns i x).length < sizeLine:=Zx (by have:=Zce td i x; lia);have old:∀ b u,H1 b=some u->(upd (upd H1 q (.tup [.int i,.int x])) l (.lst [])) b=some u:=λb u e=>by rw [Zf (Zj e jc),Zf (Zj e hq)]; exact e
     refine ⟨spk ns i f,Sum.inl x,u4,hlk,Y,λv hv=>?_,λhv=>?_⟩
     ·-- the name stands already
      have oy:x∈keys ns i:=by
       unfold spk at hv;rw [Jm] at hv;by_cases c:x∈keys ns i
       ·exact c
       ·rw [if_neg c] at hv; cases hv
      obtain rfl:v=V.ref (f x):=by
       unfold spk at hv;rw [Jm,if_pos oy] at hv;exact (Ax hv).symm
      have ek:keys ns (i + 1)=keys ns i:=by rw [Xp jy,if_pos oy]
      have p9:=old _ _ (sf.at' x oy);refine ⟨.inl ⟨Y,_,SqL.of p9⟩,_,Y,f x,_,_,Y,Y,p9,by rw [Ab]; exact nk,xp _ _ ⟨f,Y,Same.add smq (ll x oy),?_,⟨?_,?_⟩,?_⟩⟩
      ·have:d≠f x:=λz=>by rw [<- z,u4] at p9; cases p9
       rw [Zf this,u4];unfold spk;rw [ek]
      ·rw [ek]; exact sf.inj
      ·intro y hy
       rw [ek] at hy;by_cases c:y=x
       ·subst c
        rw [Zc,Zel jy,Aj];rfl
       ·have:f y≠f x:=λz=>c (sf.inj y hy x oy z)
        rw [Zf this,old _ _ (sf.at' y hy),Zcd (by rw [jy]; intro z; cases z; exact c Y)]
      ·rw [ek]; exact ll
     ·-- a new name
      have oy:x ∉ keys ns i:=by
       intro c;unfold spk at hv;rw [Jm,if_pos c] at hv;cases hv
      have ek:keys ns (i + 1)=keys ns i ++ [x]:=by rw [Xp jy,if_neg oy]
      have ep:putK (spk ns i f) (Sum.inl x) (V.ref l)=spk ns (i + 1) (λy=>if y=x then l else f y):=by
       unfold spk;rw [Zeh oy,ek,Aj];congr 1
       ·apply List.map_congr_left
        intro y hy;dsimp only;rw [if_neg (λ(z:y=x)=>oy (z ▸ hy))]
       ·simp
      rw [ep];have hl4:(upd (upd (upd H1 q (.tup [.int i,.int x])) l (.lst [])) d (.dK (spk ns (i + 1) (λy=>if y=x then l else f y)))) l=some (.lst []):=by rw [Zf (Ne.symm hdl),Zc]
      refine ⟨.inl ⟨Y,_,SqL.of hl4⟩,_,Y,l,_,_,Y,Y,hl4,by decide,xp _ _ ⟨λy=>if y=x then l else f y,Y,Same.add (Same.add smq hd) l8,?_,⟨?_,?_⟩,?_⟩⟩
      ·rw [Zf hdl,Zc]
      ·intro y hy z hz e
       rw [ek,List.mem_append,List.mem_singleton] at hy hz;by_cases c1:y=x
       ·by_cases c2:z=x
        ·rw [c1,c2]
        ·have ox:=hz.resolve_right c2
         simp only [c1,c2,if_true,if_false] at e;exact absurd (sf.at' z ox) (by rw [<- e,jc]; intro w; cases w)
       ·have jt:=hy.resolve_right c1
        by_cases c2:z=x
        ·simp only [c1,c2,if_true,if_false] at e
         exact absurd (sf.at' y jt) (by rw [e,jc]; intro w; cases w)
        ·have ox:=hz.resolve_right c2
         simp only [c1,c2,if_false] at e;exact sf.inj y jt z ox e
      ·intro y hy
       rw [ek,List.mem_append,List.mem_singleton] at hy;by_cases c:y=x
       ·subst c
        simp only [if_true];rw [Zc,Zel jy,Znc oy];rfl
       ·have jt:=hy.resolve_right c
        have e1:=sf.at' y jt;have n1:f y≠l:=Zj e1 jc;have n2:f y≠d:=λz=>by rw [z,m6] at e1; cases e1
        simp only [c,if_false];rw [Zf n1,Zf n2,old _ _ e1,Zcd (by rw [jy]; intro z; cases z; exact c Y)]
      ·intro y hy
       rw [ek,List.mem_append,List.mem_singleton] at hy;by_cases c:y=x
       ·simp only [c,if_true]; exact l8
       ·simp only [c,if_false]; exact ll y (hy.resolve_right c)
    rintro σ H2 ⟨f',rfl,uf,hd4,sf2,zk⟩;have hx3:x∈keys ns (i + 1):=Yk.mpr ⟨i,by lia,jy⟩;have hg:valV (spk ns (i + 1) f') (Sum.inl x)=some (V.ref (f' x)):=by unfold spk; rw [Jm,if_pos hx3]
    refine ⟨_,Y,_,Y,d,_,Y,?_,f' x,_,Y,.inl (SqL.of (sf2.at' x hx3)),_,_,Y,Y,_,Y,?_⟩
    ·exact .inl ⟨_,Sum.inl x,.inl hd4,Y,hg.symm⟩
    have h2:=Zce td (i + 1) x;rw [decide_eq_false (by rw [Ab]; lia:¬ ((((pl ns (i + 1) x).map nV).length:Nat):Int) > 2)];refine iteF ?_;exact ⟨f',_,_,Y,uf,hd4,sf2,zk⟩
   ·rintro σ H1 ⟨f,v2,v3,rfl,sm,m6,sf,ll⟩
    rw [el] at m6 sf ll;exact ig _ _ ⟨f,v2,v3,Y,sm,m6,sf,ll⟩
  rintro σ H1 ⟨f,v2,v3,rfl,sm,m6,sf,ll⟩;exact ⟨_,Y,k d f H1 sm hd m6 sf ll⟩
def Zdk:Sp:=λvs H Q _=>∃ (d:Addr) (M:List (Option Nat)) (ns:List Int) (f:Int->Addr),vs=[.ref d,.int ns.length]/\H d=some (.dK (spk ns ns.length f))/\SpotsF H ns ns.length f/\TD M ns/\ns.length<=120 /\
 ∀ (m:Addr) (o:Obj) (H':Hp),(∀ b u,b≠d->H b=some u->H' b=some u)->H m=none->H' m=some (.lst (M.map mV))->H' d=some (.frz o (.dK (spk ns ns.length f)))->Q (.ref m) H'
def Vl:FnScope ["spots","count","mates","pair"] ["spots","count"] (Zh K9):=Am
def Zdu (T:Txt w K mg t):FnOk P w K mg base (CXr P w) 1 t.cR t.cY ["spots","count"] Zdk:=by
 refine T.dc.F.aR Vl (λ_ _ _ _ H vs Q E hr h=>?_)
 ·obtain ⟨d,M,ns,f,rfl,hd,sf,td,hl,k⟩:=h
  refine ⟨_,(Zd (Zp (i:=2) Vl.nd Y (Or.inl Y) (Zi Gn (Yl (Za Ws Zb)) (pv 1)))
   (Zd (Y0 PassesOwn.never rfl (Zln (pv 0) ⟨rfl,rfl,rfl⟩) (Zn (i:=3) Vl.nd rfl (Or.inl rfl)) (Zg (Z2 (Zr Yw (Zo Zm (by rfl) T.ad PySem.boot_len (Za (pv 3) Zb)) Ze (Zs _)) (Zd (Xm (Zw Zt (pv 3) Ze (λ_ _=>rfl)) (Jd (pv 2) (Zw Zt (pv 3) Ze (λ_ _=>rfl)) X3))
   (Zg (Xm (Zw Zt (pv 3) Ze (λ_ _=>rfl)) (Jd (pv 2) (Zw Zt (pv 3) Ze (λ_ _=>rfl)) X3)))) Zv)))
   (Zg (Zq (pv 2))))),?_⟩;refine ⟨(by show 1<=sizeLine; decide),λq hq=>?_⟩;refine ⟨_,Y,q,_,_,Y,Y,Zc,by lia,by lia,?_,λm hm=>?_⟩
  ·have:((ns.length:Nat):Int).toNat=ns.length:=by lia
   show 1 * ((ns.length:Nat):Int).toNat<=sizeLine;rw [this,sizeLine_eq]; lia
  obtain ⟨hmq,lg⟩:=W1 hm;have eM:(List.replicate ((ns.length:Nat):Int).toNat [V.non]).flatten=(part M ns []).map mV:=by
   have:((ns.length:Nat):Int).toNat=M.length:=by rw [<- td.len]; lia
   rw [this,List.flatten_replicate_singleton,Zjg td,List.map_replicate]
   rfl
  rw [eM];have zm:d≠m:=Zj hd lg;have hdq:d≠q:=Zj hd hq;dsimp only [Zl];show tSeq (tFor _ _ _) _ _ _ _;refine Z6 (λσ H1=>∃ (o:Obj) (v:Option V),σ=[some (.ref d),some (.int ns.length),some (.ref m),v]/\(∀ b u,b≠d->H b=some u->H1 b=some u)/\H1 m=some (.lst (M.map mV))/\H1 d=some (.frz o (.dK (spk ns ns.length f)))) (λnx ig=>?_) ?_
  ·refine ⟨_,Y,d,_,Y,.inl ⟨by rw [Zf zm,Zf hdq]; exact hd,λo=>?_⟩⟩
   refine Zjz (λj σ H1=>∃ (v:Option V),σ=[some (.ref d),some (.int ns.length),some (.ref m),v]/\(∀ b u,b≠d->H b=some u->H1 b=some u)/\H1 m=some (.lst ((part M ns ((keys ns ns.length).take j)).map mV))/\H1 d=some (.frz o (.dK (spk ns ns.length f))))
    ⟨none,rfl,λb u hb e=>?_,?_,Zc⟩ ?_ ?_ ?_
   ·rw [Zf hb,Zf (Zj e lg),Zf (Zj e hq)]; exact e
   ·rw [Zf (Ne.symm zm),Zc]
    rfl
   ·rintro j σ H1 _ ⟨v,rfl,old,h1,h2⟩
    exact h2
   ·rintro j k0 x0 σ H1 hk ⟨v,rfl,old,h1,h2⟩
    obtain ⟨x,hx,rfl⟩:∃ x,(keys ns ns.length)[j]?=some x/\x0=V.ref (f x):=by
     unfold spk at hk;rw [Ah] at hk
     cases e:(keys ns ns.length)[j]? with
     | none=>rw [e] at hk; cases hk
     | some x=>rw [e] at hk; cases hk; exact ⟨x,Y,Y⟩
    have uv:x∈keys ns ns.length:=Au hx;have et:(keys ns ns.length).take (j + 1)=(keys ns ns.length).take j ++ [x]:=by
     rw [Aw,hx]; rfl
    have p9:=sf.at' x uv;have hfd:f x≠d:=λz=>by rw [z,hd] at p9; cases p9
    have o3:=old _ _ hfd p9;dsimp only [Zl];refine ⟨_,Y,f x,_,Y,.inl (SqL.of o3),Y,_,Y,?_⟩
    rcases Ue td uv with ⟨a,e,ea,ma⟩ | ⟨a,b,gz,e,ea,eb,ma,mb⟩
    ·rw [e] at o3 ⊢
     refine iteF ?_;refine ⟨_,Y,old,?_,h2⟩;rw [et,Zjf td e ma];exact h1
    ·rw [e] at o3 ⊢
     refine iteT ?_;have la:a < (part M ns ((keys ns ns.length).take j)).length:=by rw [Xr]; exact (Aa ma).1
     have lb:b < (part M ns ((keys ns ns.length).take j)).length:=by rw [Xr]; exact (Aa mb).1
     have qv:f x≠m:=Zj p9 lg;refine ⟨_,Y,f x,_,_,_,Y,Y,SqL.of o3,Y,?_⟩;refine ⟨_,Y,_,Y,f x,_,_,_,Y,Y,SqL.of o3,Y,m,_,_,a,Y,Y,h1,(by rw [Ab]; exact Wm la),?_⟩;have zk:(upd H1 m (.lst (((part M ns ((keys ns ns.length).take j)).map mV).set a (nV b)))) (f x)=some (.lst ([a,b].map nV)):=by rw [Zf qv]; exact o3
     refine ⟨_,Y,f x,_,_,_,Y,Y,SqL.of zk,Y,?_⟩;refine ⟨_,Y,_,Y,f x,_,_,_,Y,Y,SqL.of zk,Y,m,_,_,b,Y,Y,Zc,(by rw [List.length_set,Ab]; exact Wm lb),?_⟩;refine ⟨_,Y,λc u hc ec=>?_,?_,?_⟩
     ·have:c≠m:=Zj ec lg
      rw [Zf this,Zf this];exact old c u hc ec
     ·rw [Zc,et,Zhf td e gz ma mb]
      show some (HO.lst ((((part M ns ((keys ns ns.length).take j)).map mV).set a (mV (some b))).set b (mV (some a))))=_;rw [map_set,map_set]
     ·rw [Zf zm,Zf zm]; exact h2
   ·rintro σ H1 ⟨v,rfl,old,h1,h2⟩
    refine ig _ _ ⟨o,v,Y,old,?_,h2⟩;have:(keys ns ns.length).take (spk ns ns.length f).length=keys ns ns.length:=by
     unfold spk; rw [Ab,List.take_length]
    rw [this,Zjh td] at h1;exact h1
  rintro σ H1 ⟨o,v,rfl,old,h1,h2⟩;exact ⟨_,Y,k m o H1 old lg h1 h2⟩
def Wi (cl na sp mt:Addr):List (Str × V):=putF "mates" (.ref mt) (putF "spots" (.ref sp) (putF "names_at" (.ref na) (putF "cloths" (.ref cl) [])))
theorem W5 (f:Str) (v:V):∀ fs:List (Str × V),(putF f v fs).length<=fs.length + 1
 | []=>by simp [putF]
 | (g,x) :: r=>by
  have:=W5 f v r;unfold putF;split
  ·simp
  ·simp only [List.length_cons]; lia
def s_cn:¬ ("cloths":Str)="names_at":=by decide
def s_cs:¬ ("cloths":Str)="spots":=by decide
def s_cm:¬ ("cloths":Str)="mates":=by decide
def s_ns:¬ ("names_at":Str)="spots":=by decide
def s_nm:¬ ("names_at":Str)="mates":=by decide
def s_sm:¬ ("spots":Str)="mates":=by decide
def Zh9 (cl na sp mt:Addr):(Wi cl na sp mt).lookup ("cloths":Str)=some (.ref cl):=by
 unfold Wi; rw [Zy,if_neg s_cm,Zy,if_neg s_cs,Zy,if_neg s_cn,Zy,if_pos rfl]
def Kw (cl na sp mt:Addr):(Wi cl na sp mt).lookup ("names_at":Str)=some (.ref na):=by
 unfold Wi; rw [Zy,if_neg s_nm,Zy,if_neg s_ns,Zy,if_pos rfl]
def Kv (cl na sp mt:Addr):(Wi cl na sp mt).lookup ("spots":Str)=some (.ref sp):=by
 unfold Wi; rw [Zy,if_neg s_sm,Zy,if_pos rfl]
def Zj1 (cl na sp mt:Addr):(Wi cl na sp mt).lookup ("mates":Str)=some (.ref mt):=by
 unfold Wi; rw [Zy,if_pos rfl]
def Yd (cl na sp mt:Addr) {m:Str} (h:m≠"cloths"/\m≠"names_at"/\m≠"spots"/\m≠"mates":=by decide):(Wi cl na sp mt).lookup m=none:=by
 obtain ⟨h1,h2,h3,h4⟩:=h;unfold Wi; rw [Zy,if_neg h4,Zy,if_neg h3,Zy,if_neg h2,Zy,if_neg h1]; rfl
structure TentB (C:Addr) (H:Hp) (p:Addr) (M:List (Option Nat)) (ns:List Int) (dx cl na sp mt:Addr) (o:Obj) (f:Int->Addr):Prop where
 ins:H p=some (.ins C dx (Wi cl na sp mt))
 rows:Yo H cl ns
 names:H na=some (.lst (ns.map V.int))
 spots:H sp=some (.frz o (.dK (spk ns ns.length f)))
 mates:H mt=some (.lst (M.map mV))
 at':∀ x∈keys ns ns.length,H (f x)=some (.lst ((pl ns ns.length x).map nV))
def Zu (C:Addr) (H:Hp) (p:Addr) (M:List (Option Nat)) (ns:List Int):Prop:=∃ dx cl na sp mt o f,TentB C H p M ns dx cl na sp mt o f
def Zu.same (h:Zu C H p M ns) (s:Same H H'):Zu C H' p M ns:=by
 obtain ⟨dx,cl,na,sp,mt,o,f,b⟩:=h;exact ⟨dx,cl,na,sp,mt,o,f,s _ _ b.ins,b.rows.same s,s _ _ b.names,s _ _ b.spots,s _ _ b.mates,λx hx=>s _ _ (b.at' x hx)⟩
def Zba {ns:List Int} {n:Nat} (h:ns.length=3 * n) (hk:k < n):(ns.take (3 * k)).map V.int ++ row3 ns k=(ns.take (3 * (k + 1))).map V.int:=by
 have e:ns.take (3 * (k + 1))=ns.take (3 * k) ++ [ns.getD (3 * k) 0,ns.getD (3 * k + 1) 0,ns.getD (3 * k + 2) 0]:=by
  have l0:3 * k < ns.length:=by lia
  have l1:3 * k + 1 < ns.length:=by lia
  have l2:3 * k + 2 < ns.length:=by lia
  have g:∀ i,i < ns.length->ns[i]?=some (ns.getD i 0):=λi hi=>by rw [Ad,Ac hi]; rfl
  rw [show 3 * (k + 1)=3 * k + 1 + 1 + 1 by lia,Aw,Aw,Aw,g _ l0,g _ l1,g _ l2,List.append_assoc,List.append_assoc];rfl
 rw [e,Aj];rfl
def Zbj (C:Addr):Sp:=λvs H Q _=>∃ (p r dx:Addr) (M:List (Option Nat)) (ns:List Int),vs=[.ref p,.ref r]/\H p=some (.ins C dx [])/\Yo H r ns/\TD M ns/\ns.length<=120 /\
 ∀ (H':Hp),(∀ b u,b≠p->H b=some u->H' b=some u)->Zu C H' p M ns->Q .non H'
def Zbr:FnScope ["self","rows"] ["self","rows"] (Zh Kh):=Am
def Q9 (T:Txt w K mg t):FnOk P w K mg base (CXr P w) 2 t.bn t.cz ["self","rows"] (Zbj t.aa):=by
  refine T.aJ.F.aR Zbr (λ_ _ _ _ H vs Q E hr h=>?_)
  · obtain ⟨p,r,dx,M,ns,rfl,hp,⟨ts,jz,hr2,wj⟩,td,hl,k⟩:=h
    refine ⟨_,(Zd (Z2 (Wq (Kq (pv 1) (λ_=>rfl))) Yz Zv)
      (Zd (Gj (pv 0) (Yg (ts:=["row"]) (fv:=[]) ⟨rfl,by decide +kernel,by decide +kernel,Yc (by rfl),trivial⟩ rfl (Yj (pv 1)) (λ_ _ _ _=>(Zn (i:=0) (show List.Nodup (["row"]:List Str) from by decide +kernel) rfl (Or.inl rfl) (Or.inr rfl))) (λ_ _ _ _=>Yb) (λ_ _ _=>rfl) (λ_ _ _ _ _ _=>Ye (X1 (V9 K) (by rfl) T.fE PySem.Pv.boot_tuple (Za (pv 0) Zb)))) rfl)
      (Zd (Gj (pv 0) (Yg (ts:=["row","name"]) (fv:=[]) ⟨rfl,by decide +kernel,by decide +kernel,Yc (by rfl),trivial⟩ rfl (Yj (X6 (pv 0) rfl)) (λ_ _ _ _=>(Zn (i:=0) (show List.Nodup (["row","name"]:List Str) from by decide +kernel) rfl (Or.inl rfl) (Or.inr rfl))) (λ_ _ _ _=>Yb) (λ_ _ _=>rfl) (λ_ _ _ _ _ _=>Zcl rfl rfl (Fn K (pv 0)) (Zn (i:=1) (show List.Nodup (["row","name"]:List Str) from by decide +kernel) rfl (Or.inl rfl) (Or.inr rfl)) Yb (pv 1))) rfl)
      (Zd (Gj (pv 0) (pcT (Zdt T) hr T.db (Za (X6 (pv 0) rfl) Zb)) rfl)
      (Zg (Gj (pv 0) (pcT (Zdu T) hr T.dc (Za (X6 (pv 0) rfl) (Za (Zo Zm (by rfl) T.ad PySem.boot_len (Za (X6 (pv 0) rfl) Zb)) Zb))) rfl)))))),?_⟩;obtain ⟨n,n1,n2,hn⟩:=td.n;have p7:ns.length=3 * n:=by rw [td.len,hn]
    have qq:ts.length=n:=by lia
    have hrp:r≠p:=λz=>by rw [z,hp] at jz; cases jz
    refine ⟨_,Y,true,.inl ⟨_,SqL.of jz,?_⟩,?_⟩
    · cases ts with
      | nil=>simp at qq; lia
      | cons _ _=>rfl
    refine iteF ?_;dsimp only [Xj];refine ⟨_,Y,r,Y,⟨_,SqL.of jz⟩,λD hD=>?_⟩;have hDp:D≠p:=λz=>by rw [z,hp] at hD; cases hD
    refine Yi (xs:=ts.map V.ref) (λi σ H1=>∃ (v:Option V),σ=[v]/\Same H H1/\H1 D=some (.lst ((ts.take i).map V.ref))) ⟨none,Y,Same.new hD,Zc⟩ ?_ ?_ ?_
    · rintro i σ H1 _ ⟨v,rfl,sm,h1⟩
      exact SqL.of (sm _ _ jz)
    · rintro i x σ H1 hx ⟨v,rfl,sm,h1⟩
      dsimp only [Zl,tYes];rw [if_pos rfl];obtain ⟨tt,ht,rfl⟩:=map_some hx;refine ⟨_,Y,tt,_,Y,.inr ⟨SqT.of (sm _ _ (wj i tt ht)),_,h1,(by rw [Ab,Ai]; exact Zx (by lia)),_,Y,Same.add sm hD,?_⟩⟩;rw [Zc,Aw,ht,Aj];rfl
    rintro σ H1 ⟨v,rfl,vk,h1⟩;rw [Ab,List.take_length] at h1;have ze:=vk _ _ hp;refine ⟨_,Y,p,_,dx,_,Y,ze,T.ac,T.aO,by decide,?_⟩;have tw:∀ b u,b≠p->H b=some u->(upd H1 p (.ins t.aa dx (putF "cloths" (.ref D) []))) b=some u:=λb u hb e=>by rw [Zf hb]; exact vk b u e
    have kj:(upd H1 p (.ins t.aa dx (putF "cloths" (.ref D) []))) D=some (.lst (ts.map V.ref)):=by rw [Zf hDp]; exact h1
    have nk:(upd H1 p (.ins t.aa dx (putF "cloths" (.ref D) []))) p=some (.ins t.aa dx (putF "cloths" (.ref D) [])):=Zc
    have oz:∀ (k:Nat) (q:Addr),ts[k]?=some q->(upd H1 p (.ins t.aa dx (putF "cloths" (.ref D) []))) q=some (.tup (row3 ns k)):=λk q e=>by
      have e1:=wj k q e;have:q≠p:=λz=>by rw [z,hp] at e1; cases e1
      exact tw q _ this e1
    generalize upd H1 p (.ins t.aa dx (putF "cloths" (.ref D) []))=H2 at tw kj nk oz ⊢;refine ⟨_,Y,p,_,dx,_,_,Y,nk,T.ac,T.aO,Y,D,Y,⟨_,SqL.of kj⟩,λN hN=>?_⟩;have hND:N≠D:=λz=>by rw [z,kj] at hN; cases hN
    have hNp:N≠p:=λz=>by rw [z,nk] at hN; cases hN
    refine Yi (xs:=ts.map V.ref) (λi σ H3=>∃ (v v':Option V),σ=[v,v']/\Same H2 H3/\H3 N=some (.lst ((ns.take (3 * i)).map V.int))) ⟨none,none,Y,Same.new hN,Zc⟩ ?_ ?_ ?_
    · rintro i σ H3 _ ⟨v,v',rfl,sm,h3⟩
      exact SqL.of (sm _ _ kj)
    · rintro i x σ H3 hx ⟨v,v',rfl,sm,h3⟩
      dsimp only [Zl,tYes];rw [if_pos rfl];obtain ⟨tt,ht,rfl⟩:=map_some hx;have hi:i < n:=by rw [<- qq]; exact (Aa ht).1
      refine ⟨_,Y,tt,Y,⟨_,SqT.of (sm _ _ (oz i tt ht))⟩,?_⟩;refine Ui (xs:=row3 ns i) (λj σ H4=>∃ (v':Option V),σ=[some (.ref tt),v']/\Same H2 H4/\H4 N=some (.lst ((ns.take (3 * i)).map V.int ++ (row3 ns i).take j))) ⟨v',Y,sm,by rw [h3,List.take_zero,List.append_nil]⟩ ?_ ?_ ?_
      · rintro j σ H4 _ ⟨v',rfl,sm,h4⟩
        exact SqT.of (sm _ _ (oz i tt ht))
      · rintro j x σ H4 hx ⟨v',rfl,sm,h4⟩
        dsimp only [Zl,tYes];rw [if_pos rfl];refine ⟨_,Y,_,h4,?_,_,Y,Same.add sm hN,?_⟩
        · rw [Ae,Ab,Ai,Ai]
          exact Zx (by have:(row3 ns i).length=3:=rfl; lia)
        · rw [Zc,Aw,hx,<- List.append_assoc]
          rfl
      · rintro σ H4 ⟨v',rfl,sm,h4⟩
        refine ⟨_,_,Y,sm,?_⟩;rw [h4,List.take_length,Zba p7 hi]
    rintro σ H3 ⟨v,v',rfl,yq,h3⟩;have t8:ns.take (3 * (ts.map V.ref).length)=ns:=by rw [Ab,qq,<- p7,List.take_length]
    rw [t8] at h3;have hp3:=yq _ _ nk;refine ⟨_,rfl,p,_,dx,_,rfl,hp3,T.ac,T.ag,(by have h1:=W5 "cloths" (.ref D) []; simp only [List.length_nil] at h1; lia),?_⟩;have xj:∀ b u,b≠p->H2 b=some u->(upd H3 p (.ins t.aa dx (putF "names_at" (.ref N) (putF "cloths" (.ref D) [])))) b=some u:=λb u hb e=>by rw [Zf hb]; exact yq b u e
    have u6:(upd H3 p (.ins t.aa dx (putF "names_at" (.ref N) (putF "cloths" (.ref D) [])))) N=some (.lst (ns.map V.int)):=by rw [Zf hNp]; exact h3
    have wo:(upd H3 p (.ins t.aa dx (putF "names_at" (.ref N) (putF "cloths" (.ref D) [])))) p=some (.ins t.aa dx (putF "names_at" (.ref N) (putF "cloths" (.ref D) []))):=Zc;generalize upd H3 p (.ins t.aa dx (putF "names_at" (.ref N) (putF "cloths" (.ref D) [])))=H4 at xj u6 wo ⊢;have lk1:(putF "names_at" (.ref N) (putF "cloths" (.ref D) [])).lookup ("names_at":Str)=some (.ref N):=by rw [Zy,if_pos rfl]
    refine ⟨_,Y,p,_,dx,_,_,Y,wo,T.ac,T.ag,lk1,N,M,ns,Y,u6,td,hl,λd f H5 sm5 hd5 hd5' sf ll=>?_⟩;have wn:=sm5 _ _ wo;refine ⟨_,rfl,p,_,dx,_,rfl,wn,T.ac,T.au,(by have h1:=W5 "cloths" (.ref D) []; have h2:=W5 "names_at" (.ref N) (putF "cloths" (.ref D) []); simp only [List.length_nil] at h1; lia),?_⟩;have hdp:d≠p:=λz=>by rw [z,wo] at hd5; cases hd5
    have hfp:∀ x∈keys ns ns.length,f x≠p:=λx hx z=>by have:=ll x hx; rw [z,wo] at this; cases this
    have tp:∀ b u,b≠p->H4 b=some u->(upd H5 p (.ins t.aa dx (putF "spots" (.ref d) (putF "names_at" (.ref N) (putF "cloths" (.ref D) []))))) b=some u:=λb u hb e=>by rw [Zf hb]; exact sm5 b u e
    have wm:(upd H5 p (.ins t.aa dx (putF "spots" (.ref d) (putF "names_at" (.ref N) (putF "cloths" (.ref D) []))))) p=some (.ins t.aa dx (putF "spots" (.ref d) (putF "names_at" (.ref N) (putF "cloths" (.ref D) [])))):=Zc;have zn:(upd H5 p (.ins t.aa dx (putF "spots" (.ref d) (putF "names_at" (.ref N) (putF "cloths" (.ref D) []))))) d=some (.dK (spk ns ns.length f)):=by rw [Zf hdp]; exact hd5'
    have sf6:SpotsF (upd H5 p (.ins t.aa dx (putF "spots" (.ref d) (putF "names_at" (.ref N) (putF "cloths" (.ref D) []))))) ns ns.length f:=⟨sf.inj,λx hx=>by rw [Zf (hfp x hx)]; exact sf.at' x hx⟩;generalize upd H5 p (.ins t.aa dx (putF "spots" (.ref d) (putF "names_at" (.ref N) (putF "cloths" (.ref D) []))))=H6 at tp wm zn sf6 ⊢;have lk2:(putF "spots" (.ref d) (putF "names_at" (.ref N) (putF "cloths" (.ref D) []))).lookup ("spots":Str)=some (.ref d):=by rw [Zy,if_pos rfl]
    have lk3:(putF "spots" (.ref d) (putF "names_at" (.ref N) (putF "cloths" (.ref D) []))).lookup ("names_at":Str)=some (.ref N):=by rw [Zy,if_neg s_ns,Zy,if_pos rfl]
    have zu:=tp _ _ hNp u6;have eln:(((ns.map V.int).length:Nat):Int)=(ns.length:Nat):=by rw [Ab]
    refine ⟨_,Y,p,_,dx,_,_,Y,wm,T.ac,T.au,lk2,_,Y,p,_,dx,_,_,Y,wm,T.ac,T.ag,lk3,N,_,Y,.inl (SqL.of zu),d,M,ns,f,(by rw [eln]; rfl),zn,sf6,td,hl,λm o H7 xh hm7 hmm hdd=>?_⟩;have hpd:p≠d:=Ne.symm hdp;have hp7:=xh _ _ hpd wm;refine ⟨_,rfl,p,_,dx,_,rfl,hp7,T.ac,T.ce,(by have h1:=W5 "cloths" (.ref D) []; have h2:=W5 "names_at" (.ref N) (putF "cloths" (.ref D) []); have h3:=W5 "spots" (.ref d) (putF "names_at" (.ref N) (putF "cloths" (.ref D) [])); simp only [List.length_nil] at h1; lia),?_⟩;have hmp:m≠p:=λz=>by rw [z,wm] at hm7; cases hm7
    have dN:N≠d:=λz=>by rw [z,zn] at zu; cases zu
    have tm:∀ b u,b≠p->b≠d->H6 b=some u->(upd H7 p (.ins t.aa dx (Wi D N d m))) b=some u:=λb u hb hbd e=>by rw [Zf hb]; exact xh b u hbd e
    have yh:∀ b u,b≠p->H4 b=some u->H6 b=some u/\b≠d:=λb u hb e=>⟨tp b u hb e,λz=>by rw [z,hd5] at e; cases e⟩;have oa:∀ b u,b≠p->H2 b=some u->(upd H7 p (.ins t.aa dx (Wi D N d m))) b=some u:=λb u hb e=>by
      obtain ⟨e6,hbd⟩:=yh b u hb (xj b u hb e)
      exact tm b u hb hbd e6
    refine k _ (λb u hb e=>oa b u hb (tw b u hb e)) ⟨dx,D,N,d,m,o,f,Zc,⟨ts,oa _ _ hDp kj,by lia,λk q e=>?_⟩,?_,?_,?_,?_⟩
    · have e1:=oz k q e
      exact oa q _ (λz=>by rw [z,nk] at e1; cases e1) e1
    · exact tm _ _ hNp dN zu
    · rw [Zf hdp]; exact hdd
    · rw [Zf hmp]; exact hmm
    · intro x hx
      have e1:=sf6.at' x hx;exact tm _ _ (hfp x hx) (λz=>by rw [z,zn] at e1; cases e1) e1
def Z5 (ns:List Int) (x:Int):Str:=match pl ns ns.length x with
 | [a,b]=>if a / 3=b / 3 then "locked" else "free"
 | _=>"rim"
def Zi1:Sp:=λvs H Q _=>∃ p:Int,vs=[.int p]/\Q (.int (after p)) H
def Zgo:Sp:=λvs H Q _=>∃ p:Int,vs=[.int p]/\Q (.int (before p)) H
def Zdn:Sp:=λvs H Q _=>∃ p:Int,vs=[.int p]/\Q (.int (p / 3)) H
def Zbh (C:Addr):Sp:=λvs H Q _=>∃ (p:Addr) (M:List (Option Nat)) (ns:List Int),vs=[.ref p]/\Zu C H p M ns /\
 ∀ (l:Addr) (ts:List Addr),H l=none->ns.length=3 * ts.length->(∀ (k:Nat) (t:Addr),ts[k]?=some t->H t=some (.tup (row3 ns k)))->Q (.ref l) (upd H l (.lst (ts.map V.ref)))
def Zat (C:Addr):Sp:=λvs H Q _=>∃ (p:Addr) (M:List (Option Nat)) (ns:List Int),vs=[.ref p]/\Zu C H p M ns/\ns.length < 64 /\
 ∀ (l:Addr) (out:List Int),H l=none->out.Perm (keys ns ns.length)->out.Pairwise (·<=·)->Q (.ref l) (upd H l (.lst (out.map V.int)))
def O5 (C:Addr):Sp:=λvs H Q _=>∃ (p:Addr) (M:List (Option Nat)) (ns:List Int) (x:Int),vs=[.ref p,.int x]/\Zu C H p M ns/\Q (.bl (decide (0<=x/\x < ns.length))) H
def U3 (C EP:Addr):Sp:=λvs H Q E=>∃ (p:Addr) (M:List (Option Nat)) (ns:List Int) (x:Int),vs=[.ref p,.int x]/\Zu C H p M ns/\(0<=x/\x < ns.length->Q .non H)/\(¬ (0<=x/\x < ns.length)->E (.ref EP) none H)
def K3 (C EP:Addr):Sp:=λvs H Q E=>∃ (p:Addr) (M:List (Option Nat)) (ns:List Int) (x:Int),vs=[.ref p,.int x]/\Zu C H p M ns/\(∀ (i:Nat) (y:Int),x=i->ns[i]?=some y->Q (.int y) H)/\(¬ (0<=x/\x < ns.length)->E (.ref EP) none H)
def Zbi (C EP:Addr):Sp:=λvs H Q E=>∃ (p:Addr) (M:List (Option Nat)) (ns:List Int) (x:Int),vs=[.ref p,.int x]/\Zu C H p M ns/\M.length=ns.length/\(∀ (i:Nat) (y:Option Nat),x=i->M[i]?=some y->Q (mV y) H)/\(¬ (0<=x/\x < ns.length)->E (.ref EP) none H)
def Ff (C ES:Addr):Sp:=λvs H Q E=>∃ (p:Addr) (M:List (Option Nat)) (ns:List Int) (x:Int),vs=[.ref p,.int x]/\Zu C H p M ns/\(x∈keys ns ns.length->∀ l,H l=none->Q (.ref l) (upd H l (.lst ((pl ns ns.length x).map nV))))/\(x ∉ keys ns ns.length->E (.ref ES) none H)
def K2 (C ES:Addr):Sp:=λvs H Q E=>∃ (p:Addr) (M:List (Option Nat)) (ns:List Int) (x:Int),vs=[.ref p,.int x]/\Zu C H p M ns/\TD M ns/\(x∈keys ns ns.length->∀ H',Same H H'->Q (.str (Z5 ns x)) H')/\(x ∉ keys ns ns.length->E (.ref ES) none H)
def Zi5:FnScope ["place"] ["place"] (Zh Zee):=Am
def Ug (T:Txt w K mg t):FnOk P w K mg base (CXr P w) 1 t.fk t.fu ["place"] Zi1:=by
 refine T.cf.F.aR Zi5 (λ_ _ _ _ H vs Q E hr h=>?_)
 ·obtain ⟨p,rfl,k⟩:=h
  refine ⟨_,(Zg (Zq (Zci (Zr Yw (Zi Z0 (pv 0) Ze) Ze (Zs _)) (Zi Xd (pv 0) Ze) (Zi Z4 (pv 0) Ze)))),?_⟩;refine ⟨_,Y,_,_,Y,Y,(by show (0:Int) < 3; decide),rfl,_,rfl,?_⟩;refine ite2 (λh=>?_) (λh=>?_)
  ·have h:p % 3=2:=by simpa using h
   refine ⟨_,Y,_,_,Y,Y,?_⟩;have e:after p=p - 2:=if_pos h;rw [e] at k; exact k
  ·have h:¬ p % 3=2:=by simpa using h
   refine ⟨_,Y,_,_,Y,Y,?_⟩;have e:after p=p + 1:=if_neg h;rw [e] at k; exact k
def Zgt:FnScope ["place"] ["place"] (Zh Zb3):=Am
def Vi (T:Txt w K mg t):FnOk P w K mg base (CXr P w) 1 t.dP t.eu ["place"] Zgo:=by
 refine T.bA.F.aR Zgt (λ_ _ _ _ H vs Q E hr h=>?_)
 ·obtain ⟨p,rfl,k⟩:=h
  refine ⟨_,(Zg (Zq (Zci (Zr Yw (Zi Z0 (pv 0) Ze) Ze (Zs _)) (Zi Z4 (pv 0) Ze) (Zi Xd (pv 0) Ze)))),?_⟩;refine ⟨_,Y,_,_,Y,Y,(by show (0:Int) < 3; decide),rfl,_,rfl,?_⟩;refine ite2 (λh=>?_) (λh=>?_)
  ·have h:p % 3=0:=by simpa using h
   refine ⟨_,Y,_,_,Y,Y,?_⟩;have e:before p=p + 2:=if_pos h;rw [e] at k; exact k
  ·have h:¬ p % 3=0:=by simpa using h
   refine ⟨_,Y,_,_,Y,Y,?_⟩;have e:before p=p - 1:=if_neg h;rw [e] at k; exact k
def Zdq:FnScope ["place"] ["place"] (Zh Gd):=Am
def J1 (T:Txt w K mg t):FnOk P w K mg base (CXr P w) 1 t.cP t.cW ["place"] Zdn:=by
 refine T.aC.F.aR Zdq (λ_ _ _ _ H vs Q E hr h=>?_)
 ·obtain ⟨p,rfl,k⟩:=h
  refine ⟨_,(Zg (Zq (Zi Yt (pv 0) Ze))),?_⟩;exact ⟨_,Y,_,_,Y,Y,⟨by decide,by decide⟩,k⟩
def Zbp:FnScope ["self"] ["self"] (Zh Kf):=Am
def Oh (T:Txt w K mg t):FnOk P w K mg base (CXr P w) 1 t.cp t.cA ["self"] (Zbh t.aa):=by
 refine T.az.F.aR Zbp (λ_ _ _ _ H vs Q E hr h=>?_)
 ·obtain ⟨p,M,ns,rfl,⟨dx,cl,na,sp,mt,o,f,b⟩,k⟩:=h
  refine ⟨_,(Zg (Zq (X1 Wh (by rfl) T.ba PySem.Pv.boot_list (Za (X6 (pv 0) Y) Zb)))),?_⟩;obtain ⟨ts,h1,h2,h3⟩:=b.rows;exact ⟨_,Y,p,_,dx,_,_,Y,b.ins,T.ac,T.aO,Zh9 ..,cl,_,Y,.inl (SqL.of h1),λl hl=>k l ts hl h2 h3⟩
def Zav:FnScope ["self"] ["self"] (Zh Ob):=Am
def Uy (T:Txt w K mg t):FnOk P w K mg base (CXr P w) 1 t.bR t.bW ["self"] (Zat t.aa):=by
 refine T.av.F.aR Zav (λ_ _ _ _ H vs Q E hr h=>?_)
 ·obtain ⟨p,M,ns,rfl,⟨dx,cl,na,sp,mt,o,f,b⟩,jm,k⟩:=h
  refine ⟨_,(Zg (Zq (Zo (Os Y) (by rfl) T.dq PyProof.Rows.boot_sorted (Za (X6 (pv 0) Y) Zb)))),?_⟩;refine ⟨_,rfl,p,_,dx,_,_,rfl,b.ins,T.ac,T.au,Kv ..,sp,_,keys ns ns.length,rfl,.inr ⟨o,b.spots⟩,?_,by have:=Kt ns ns.length; lia,k⟩;unfold spk; rw [List.map_map]; rfl
def O6:FnScope ["self","place"] ["self","place"] (Zh Q3):=Am
def Qi (T:Txt w K mg t):FnOk P w K mg base (CXr P w) 1 t.aS t.aV ["self","place"] (O5 t.aa):=by
 refine T.ao.F.aR O6 (λ_ _ _ _ H vs Q E hr h=>?_)
 ·obtain ⟨p,M,ns,x,rfl,⟨dx,cl,na,sp,mt,o,f,b⟩,k⟩:=h
  refine ⟨_,(Zg (Zq (Zje Zkf Ql Ze (pv 1) (Zo Zm (by rfl) T.ad PySem.boot_len (Za (X6 (pv 0) Y) Zb))))),?_⟩;refine ⟨_,Y,_,_,Y,Y,_,Y,?_⟩;refine ite2 (λh=>?_) (λh=>?_)
  ·have h:0<=x:=of_decide_eq_true h
   refine ⟨_,Y,p,_,dx,_,_,Y,b.ins,T.ac,T.ag,Kw ..,na,_,Y,.inl (SqL.of b.names),_,_,Y,Y,?_⟩;have:decide (x < (((ns.map V.int).length:Nat):Int))=decide (0<=x/\x < (ns.length:Int)):=by rw [Ab]; simp [h]
   show Q (V.bl (decide (x < (((ns.map V.int).length:Nat):Int)))) H;rw [this]; exact k
  ·have h:¬ 0<=x:=λz=>h (decide_eq_true z)
   have:decide (0<=x/\x < (ns.length:Int))=false:=decide_eq_false λz=>h z.1;rw [this] at k; exact k
def U7:FnScope ["self","place"] ["self","place"] (Zh Qg):=Am
def J8 (T:Txt w K mg t):FnOk P w K mg base (CXr P w) 2 t.aG t.aI ["self","place"] (U3 t.aa t.aT):=by
 refine T.ai.F.aX U7 (λ_ _ _ _ H vs Q E hr h=>?_)
 ·obtain ⟨p,M,ns,x,rfl,ta,k1,k2⟩:=h
  obtain ⟨dx,cl,na,sp,mt,o,f,b⟩:=id ta;refine ⟨_,(Z7 (Q5 (Wq (Wp (Xh (pv 0) T.ac T.ao.m (Qi T) (hr.mono (by decide)) T.ao.b .nil Yr (Za (pv 1) Zb)))) (Z7 (We T.fF FBV Y T.fh Y (Za Yf Zb))) W4)),?_⟩;refine ⟨_,Y,p,dx,_,Y,b.ins,Yd _ _ _ _,_,Y,p,M,ns,x,Y,ta,_,Y,?_⟩;by_cases c:0<=x/\x < (ns.length:Int)
  ·rw [decide_eq_true c]
   exact iteF (k1 c)
  ·rw [decide_eq_false c]
   exact iteT ⟨by decide,k2 c⟩
def K7:FnScope ["self","place"] ["self","place"] (Zh Vv):=Am
def Jh (T:Txt w K mg t):FnOk P w K mg base (CXr P w) 3 t.bo t.bu ["self","place"] (K3 t.aa t.aT):=by
 refine T.ae.F.aX K7 (λ_ _ _ _ H vs Q E hr h=>?_)
 ·obtain ⟨p,M,ns,x,rfl,ta,k1,k2⟩:=h
  obtain ⟨dx,cl,na,sp,mt,o,f,b⟩:=id ta;refine ⟨_,(Z3 (Wf (Uf (pv 0) T.ac T.ai.m (J8 T) (hr.mono (by decide)) T.ai.b .nil (Za (pv 1) Zb)))
   (Z7 (Y6 (Zq (Zw Zt (X6 (pv 0) rfl) (pv 1) (λ_ _=>rfl)))))),?_⟩
  refine ⟨_,Y,p,dx,_,Y,b.ins,Yd _ _ _ _,_,Y,p,M,ns,x,Y,ta,λc=>?_,k2⟩;have hi:x.toNat < ns.length:=by lia
  obtain ⟨y,hy⟩:∃ y,ns[x.toNat]?=some y:=⟨_,Ac hi⟩;have ex:x=(x.toNat:Int):=by lia
  refine ⟨_,Y,p,_,dx,_,_,Y,b.ins,T.ac,T.ag,Kw ..,_,Y,na,_,_,_,Y,Y,SqL.of b.names,(by rw [ex]; exact Yh hy),k1 _ _ ex hy⟩
def Zbq:FnScope ["self","place"] ["self","place"] (Zh Kg):=Am
def Ji (T:Txt w K mg t):FnOk P w K mg base (CXr P w) 3 t.cq t.cB ["self","place"] (Zbi t.aa t.aT):=by
 refine T.aj.F.aX Zbq (λ_ _ _ _ H vs Q E hr h=>?_)
 ·obtain ⟨p,M,ns,x,rfl,ta,gc,k1,k2⟩:=h
  obtain ⟨dx,cl,na,sp,mt,o,f,b⟩:=id ta;refine ⟨_,(Z3 (Wf (Uf (pv 0) T.ac T.ai.m (J8 T) (hr.mono (by decide)) T.ai.b .nil (Za (pv 1) Zb)))
   (Z7 (Y6 (Zq (Zw Zt (X6 (pv 0) rfl) (pv 1) (λ_ _=>rfl)))))),?_⟩
  refine ⟨_,Y,p,dx,_,Y,b.ins,Yd _ _ _ _,_,Y,p,M,ns,x,Y,ta,λc=>?_,k2⟩;have hi:x.toNat < M.length:=by lia
  obtain ⟨y,hy⟩:∃ y,M[x.toNat]?=some y:=⟨_,Ac hi⟩;have ex:x=(x.toNat:Int):=by lia
  refine ⟨_,Y,p,_,dx,_,_,Y,b.ins,T.ac,T.ce,Zj1 ..,_,Y,mt,_,_,_,Y,Y,SqL.of b.mates,(by rw [ex]; exact Yh hy),k1 _ _ ex hy⟩
def Fh:FnScope ["self","seam"] ["self","seam"] (Zh Uw):=Am
def V1 (T:Txt w K mg t):FnOk P w K mg base (CXr P w) 1 t.bD t.bI ["self","seam"] (Ff t.aa t.ay):=by
 refine T.aq.F.aX Fh (λ_ _ _ _ H vs Q E hr h=>?_)
 ·obtain ⟨p,M,ns,x,rfl,ta,k1,k2⟩:=h
  obtain ⟨dx,cl,na,sp,mt,o,f,b⟩:=id ta;have hu:=J3 hr;refine ⟨_,(Z3 (Q5 (Zg3 (Zhe hu (pv 1) (X6 (pv 0) Y)) (by with_unfolding_all rfl)) (Z7 (We T.fJ FBV Y T.fG Y (Za Yf Zb))) W4)
   (Z7 (Y6 (Zq (X1 Wh (by rfl) T.ba PySem.Pv.boot_list (Za (W7 hu (X6 (pv 0) rfl) (pv 1) (λ_ _=>rfl)) Zb)))))),?_⟩
  have hg:DGet H sp (.int x) (if x∈keys ns ns.length then some (V.ref (f x)) else none):=.inl ⟨_,Sum.inl x,.inr ⟨o,b.spots⟩,rfl,by unfold spk; rw [Jm]⟩;refine ⟨_,Y,_,Y,p,_,dx,_,_,Y,b.ins,T.ac,T.au,Kv ..,sp,_,Y,hg,_,Y,?_⟩;by_cases c:x∈keys ns ns.length
  ·rw [if_pos c] at hg ⊢
   refine iteF ?_;exact ⟨_,Y,p,_,dx,_,_,Y,b.ins,T.ac,T.au,Kv ..,_,Y,sp,_,Y,hg,f x,_,Y,.inl (SqL.of (b.at' x c)),k1 c⟩
  ·rw [if_neg c] at hg ⊢
   exact iteT ⟨by decide,k2 c⟩
def Ve:FnScope ["self","seam","spots"] ["self","seam"] (Zh Vu):=Am
def Jg (T:Txt w K mg t):FnOk P w K mg base (CXr P w) 2 t.bp t.bv ["self","seam"] (K2 t.aa t.ay):=by
 refine T.af.F.aX Ve (λ_ _ _ _ H vs Q E hr h=>?_)
 ·obtain ⟨p,M,ns,x,rfl,ta,td,k1,k2⟩:=h
  obtain ⟨dx,cl,na,sp,mt,o,f,b⟩:=id ta;refine ⟨_,(Z3 (Vx (i:=2) Ve.nd Y (Or.inl Y) (Uf (pv 0) T.ac T.aq.m (V1 T) (hr.mono (by decide)) T.aq.b .nil (Za (pv 1) Zb)))
   (Z3 (Y6 (Z2 (Zr Yw (Zo Zm (by rfl) T.ad PySem.boot_len (Za (pv 2) Zb)) Ze (Zs _)) (Zg (Zq Yf)) Zv))
   (Z3 (Y6 (Z2 (Zr Yw (pcT (J1 T) hr T.aC (Za (Zw Zt (pv 2) Ze (λ_ _=>rfl)) Zb)) (pcT (J1 T) hr T.aC (Za (Zw Zt (pv 2) Ze (λ_ _=>rfl)) Zb)) (Zs _)) (Zg (Zq Yf)) Zv))
   (Z7 (Y6 (Zq Yf)))))),?_⟩
  refine ⟨_,Y,p,dx,_,Y,b.ins,Yd _ _ _ _,_,Y,p,M,ns,x,Y,ta,λc l hl=>?_,k2⟩;have qp:=k1 c _ (Same.new (o:=.lst ((pl ns ns.length x).map nV)) hl);refine ⟨_,Y,l,_,Y,.inl (SqL.of Zc),Y,_,Y,?_⟩
  rcases Ue td c with ⟨a,e,_⟩ | ⟨a,b',gz,e,_⟩
  ·rw [e] at qp ⊢
   refine iteT ?_;have:Z5 ns x="rim":=by unfold Z5; rw [e]
   rw [this] at qp;exact qp
  ·rw [e] at qp ⊢
   refine iteF ?_;refine ⟨_,Y,l,_,_,_,Y,Y,SqL.of Zc,Y,_,Y,_,Y,l,_,_,_,Y,Y,SqL.of Zc,Y,_,Y,Y,_,Y,?_⟩;by_cases q:a / 3=b' / 3
   ·have:Z5 ns x="locked":=by unfold Z5; rw [e]; exact if_pos q
    rw [this] at qp;rw [decide_eq_true (by congr 1; lia)];exact iteT qp
   ·have:Z5 ns x="free":=by unfold Z5; rw [e]; exact if_neg q
    rw [this] at qp;rw [decide_eq_false (λz=>q (by injection z; lia))];exact iteF qp
def Zbd (C ES ER EL:Addr):Sp:=λvs H Q E=>∃ (p:Addr) (M:List (Option Nat)) (ns:List Int) (x:Int),vs=[.ref p,.int x]/\Zu C H p M ns/\TD M ns /\
 (x∈keys ns ns.length->∀ H',Same H H'->(Z5 ns x="rim"->E (.ref ER) none H')/\(Z5 ns x="locked"->E (.ref EL) none H')/\(Z5 ns x="free"->Q .non H'))/\(x ∉ keys ns ns.length->E (.ref ES) none H)
def sqr (a b:Nat):List V:=[.int (after a),.int (before a),.int (after b),.int (before b)]
def Zgk (C ES ER EL:Addr):Sp:=λvs H Q E=>∃ (p:Addr) (M:List (Option Nat)) (ns:List Int) (x:Int),vs=[.ref p,.int x]/\Zu C H p M ns/\TD M ns /\
 (x∈keys ns ns.length->∀ H',Same H H'->(Z5 ns x="rim"->E (.ref ER) none H')/\(Z5 ns x="locked"->E (.ref EL) none H')/\(∀ a b l,pl ns ns.length x=[a,b]->a < b->M[a]?=some (some b)->a / 3≠b / 3->H l=none->H' l=some (.tup (sqr a b))->Q (.ref l) H'))/\(x ∉ keys ns ns.length->E (.ref ES) none H)
def Qj {M:List (Option Nat)} {ns:List Int} (td:TD M ns) (hx:x∈keys ns ns.length) :
  (Z5 ns x="rim"/\∃ a,pl ns ns.length x=[a]/\M[a]?=some none)\/(Z5 ns x="locked"/\∃ a b,a < b/\pl ns ns.length x=[a,b]/\M[a]?=some (some b)/\a / 3=b / 3)\/(Z5 ns x="free"/\∃ a b,a < b/\pl ns ns.length x=[a,b]/\M[a]?=some (some b)/\a / 3≠b / 3):=by
 rcases Ue td hx with ⟨a,e,_,ma⟩ | ⟨a,b,gz,e,_,_,ma,_⟩
 ·exact .inl ⟨by unfold Z5; rw [e],a,e,ma⟩
 ·by_cases c:a / 3=b / 3
  ·exact .inr (.inl ⟨by unfold Z5; rw [e]; exact if_pos c,a,b,gz,e,ma,c⟩)
  ·exact .inr (.inr ⟨by unfold Z5; rw [e]; exact if_neg c,a,b,gz,e,ma,c⟩)
def t_rf:¬ (("rim":Str))="free":=by decide
def t_lf:¬ (("locked":Str))="free":=by decide
def t_lr:¬ (("locked":Str))="rim":=by decide
def t_fr:¬ (("free":Str))="rim":=by decide
def t_fl:¬ (("free":Str))="locked":=by decide
def Vn (h:¬ x=y):decide (V.str x=V.str y)=false:=decide_eq_false λz=>h (by injection z)
def Zgh {x:Str}:decide (V.str x=V.str x)=true:=decide_eq_true rfl
def U5:FnScope ["tent","seam","sort"] ["tent","seam"] (Zh Ka):=Am
def Zcn (T:Txt w K mg t):FnOk P w K mg base (CXr P w) 3 t.cu t.cC ["tent","seam"] (Zbd t.aa t.ay t.dA t.aU):=by
 refine T.cH.F.aX U5 (λ_ _ _ _ H vs Q E hr h=>?_)
 ·obtain ⟨p,M,ns,x,rfl,ta,td,k1,k2⟩:=h
  obtain ⟨dx,cl,na,sp,mt,o,f,b⟩:=id ta;refine ⟨_,(Z3 (Vx (i:=2) U5.nd Y (Or.inl Y) (Uf (pv 0) T.ac T.af.m (Jg T) (hr.mono (by decide)) T.af.b .nil (Za (pv 1) Zb)))
   (Z3 (Q5 (Zr Yw (pv 2) Yf (Zs _)) (Z7 (We T.f7 FBV rfl T.fW rfl (Za Yf Zb))) W4)
   (Z7 (Q5 (Zr Yw (pv 2) Yf (Zs _)) (Z7 (We T.fK FBV rfl T.fH rfl (Za Yf Zb))) W4)))),?_⟩
  refine ⟨_,Y,p,dx,_,Y,b.ins,Yd _ _ _ _,_,Y,p,M,ns,x,Y,ta,td,λc H' sm=>?_,k2⟩;obtain ⟨j1,j2,j3⟩:=k1 c H' sm;refine ⟨_,Y,Y,_,Y,?_⟩
  rcases Qj td c with ⟨e,_⟩ | ⟨e,_⟩ | ⟨e,_⟩
  ·rw [e,Zgh]
   exact iteT ⟨by decide,j1 e⟩
  ·rw [e,Vn t_lr]
   refine iteF ⟨_,Y,Y,_,Y,?_⟩;rw [Zgh];exact iteT ⟨by decide,j2 e⟩
  ·rw [e,Vn t_fr]
   refine iteF ⟨_,Y,Y,_,Y,?_⟩;rw [Vn t_fl];exact iteF (j3 e)
def U4:FnScope ["tent","seam","lesser","greater"] ["tent","seam"] (Zh Zbu):=Am
def F8 (T:Txt w K mg t):FnOk P w K mg base (CXr P w) 4 t.dQ t.eC ["tent","seam"] (Zgk t.aa t.ay t.dA t.aU):=by
 refine T.df.F.aX U4 (λ_ _ _ _ H vs Q E hr h=>?_)
 ·obtain ⟨p,M,ns,x,rfl,ta,td,k1,k2⟩:=h
  refine ⟨_,(Z3 (Wf (pxT (Zcn T) hr T.cH (Za (pv 0) (Za (pv 1) Zb))))
   (Z3 (Y6 (Xm (Xh (pv 0) T.ac T.aq.m (V1 T) (hr.mono (by decide)) T.aq.b .nil Yr (Za (pv 1) Zb)) (Zhc rfl (Zz (Zn (i:=2) U4.nd rfl (Or.inl rfl)) (Zz (Zn (i:=3) U4.nd rfl (Or.inl rfl)) Xv)))))
   (Z7 (Y6 (Zq (Xo (Za (pcT (Ug T) hr T.cf (Za (pv 2) Zb)) (Za (pcT (Vi T) hr T.bA (Za (pv 2) Zb)) (Za (pcT (Ug T) hr T.cf (Za (pv 3) Zb)) (Za (pcT (Vi T) hr T.bA (Za (pv 3) Zb)) Zb)))))))))),?_⟩;refine ⟨_,Y,_,Y,p,M,ns,x,Y,ta,td,λc H' sm=>⟨(k1 c H' sm).1,(k1 c H' sm).2.1,λe=>?_⟩,k2⟩;obtain ⟨a,b,gz,ep,em,ne⟩:∃ a b,a < b/\pl ns ns.length x=[a,b]/\M[a]?=some (some b)/\a / 3≠b / 3:=by
   rcases Qj td c with ⟨e',_⟩ | ⟨e',_⟩ | ⟨e',q⟩
   ·exact absurd (e'.symm.trans e) t_rf
   ·exact absurd (e'.symm.trans e) t_lf
   ·exact q
  have ta':=ta.same sm;obtain ⟨dx,cl,na,sp,mt,o,f,B⟩:=id ta';refine ⟨_,Y,p,dx,_,Y,B.ins,Yd _ _ _ _,_,Y,p,M,ns,x,Y,ta',λ_ l hl=>?_,λz=>absurd c z⟩;rw [ep];refine ⟨l,_,Y,SqL.of Zc,Y,_,_,Y,_,_,Y,Y,?_⟩;refine ⟨_,Y,_,Y,?_⟩;refine ⟨_,Y,_,Y,?_⟩;refine ⟨_,Y,_,Y,?_⟩;refine ⟨_,Y,_,Y,?_⟩;refine ⟨(by show 4<=sizeLine; decide),λq hq=>?_⟩;obtain ⟨hql,i7⟩:=W1 hq;exact (k1 c _ (Same.add (Same.add sm (sm.free hl)) (sm.free i7))).2.2 a b q ep gz em ne (sm.free i7) Zc
def Zk7:Sp:=λvs H Q _=>∃ (a b:Addr) (xs:List Int),vs=[.ref a,.ref b]/\H a=some (.lst (xs.map V.int))/\H b=some (.lst (xs.map V.int))/\xs.length<=100000/\Q (.bl true) H
def Zm6 {ns:List Int} {i:Nat} (h:Yo H r ns) (hx:ns[i]?=some x):∃ ts:List Addr,∃ q,H r=some (.lst (ts.map V.ref))/\ts[i / 3]?=some q/\H q=some (.tup (row3 ns (i / 3)))/\(row3 ns (i / 3))[i % 3]?=some (V.int x):=by
 obtain ⟨ts,h1,h2,h3⟩:=h;have hi:i < ns.length:=(Aa hx).1;have hk:i / 3 < ts.length:=by lia
 refine ⟨ts,ts[i / 3],h1,Ac hk,h3 _ _ (Ac hk),?_⟩;have g:∀ j,ns[j]?=some x->ns.getD j 0=x:=λj hj=>by rw [Ad,hj]; rfl
 have hm:i % 3=0\/i % 3=1\/i % 3=2:=by lia
 rcases hm with m | m | m
 ·have:3 * (i / 3)=i:=by lia
  rw [m]; show some (V.int (ns.getD (3 * (i / 3)) 0))=_; rw [this,g i hx]
 ·have:3 * (i / 3) + 1=i:=by lia
  rw [m]; show some (V.int (ns.getD (3 * (i / 3) + 1) 0))=_; rw [this,g i hx]
 ·have:3 * (i / 3) + 2=i:=by lia
  rw [m]; show some (V.int (ns.getD (3 * (i / 3) + 2) 0))=_; rw [this,g i hx]
def div3 (i:Nat):(i:Int) / 3=((i / 3:Nat):Int):=by lia
def mod3 (i:Nat):(i:Int) % 3=((i % 3:Nat):Int):=by lia
def Zf9 (i:Nat):(i:Int) - (i:Int) % 3 + ((i:Int) + 1) % 3=after i:=by unfold after; split <;> lia
def Zd5 (i:Nat):(i:Int) - (i:Int) % 3 + ((i:Int) + 2) % 3=before i:=by unfold before; split <;> lia
def sp_law (K:W.Frag):Sp:=λvs H Q _=>∃ (a:Addr) (ns:List Int),vs=[.ref a]/\SqL K H a (ns.map V.int)/\ns.length<=63/\∀ H',Q (.bl true) H'
def sp_law_start {ns:List Int} (hl:ns.length<=63) (hS:SqL K H a (ns.map V.int)):sp_law K [.ref a] H (λv _=>v=.bl true) λ_ _ _=>False:=⟨a,ns,rfl,hS,hl,λ_=>rfl⟩
def Yo.copy {ns:List Int} {ts:List Addr} (h1:H r=some (.lst (ts.map V.ref))) (h2:ns.length=3 * ts.length) (h3:∀ (k:Nat) (t:Addr),ts[k]?=some t->H t=some (.tup (row3 ns k))) (hl:H l=none):Yo (upd H l (.lst (ts.map V.ref))) l ns :=
 ⟨ts,Zc,h2,λk q e=>by rw [Zf (Zj (h3 k q e) hl)]; exact h3 k q e⟩
def Znb {M:List (Option Nat)} {ns:List Int} (td:TD M ns) {i j:Nat} {x:Int} (hm:M[i]?=some (some j)) (zi:i < j) (hx:ns[i]?=some x):x∈keys ns ns.length/\pl ns ns.length x=[i,j]:=by
 have hi:i < ns.length:=(Aa hx).1;have hk:x∈keys ns ns.length:=Yk.mpr ⟨i,hi,hx⟩;have mi:i∈pl ns ns.length x:=Xn.mpr ⟨hi,hx⟩;refine ⟨hk,?_⟩
 rcases Ue td hk with ⟨a,e,_,ma⟩ | ⟨a,b,gz,e,_,_,ma,mb⟩
 ·rw [e,List.mem_singleton] at mi
  subst mi;rw [hm] at ma; cases ma
 ·rw [e] at mi
  rcases Ar mi with z | z
  ·subst z
   rw [hm] at ma;cases ma;exact e
  ·have z:i=b:=by simpa using z
   subst z;rw [hm] at mb;cases mb;lia
def Ziv {ns:List Int} {ts:List Addr} (g1:H1 r=some (.lst (ts.map V.ref))) (g2:ns.length=3 * ts.length) (g3:∀ (k:Nat) (t:Addr),ts[k]?=some t->H1 t=some (.tup (row3 ns k)))
  (jc:H1 l=none) (hx:upd H1 l (.lst (ts.map V.ref)) x=none) (sk:upd H1 l (.lst (ts.map V.ref)) dx=none) :
  Yo (upd (upd (upd H1 l (.lst (ts.map V.ref))) dx (.own x)) x (.ins C dx [])) l ns/\Same (upd H1 l (.lst (ts.map V.ref))) (upd (upd (upd H1 l (.lst (ts.map V.ref))) dx (.own x)) x (.ins C dx [])):=by
 have s:Same (upd H1 l (.lst (ts.map V.ref))) (upd (upd (upd H1 l (.lst (ts.map V.ref))) dx (.own x)) x (.ins C dx [])):=Same.add (Same.new sk) hx;exact ⟨(Yo.copy g1 g2 g3 jc).same s,s⟩
def Zgp {a b:List Int} (h1:a.Perm c) (h2:b.Perm c) (s1:a.Pairwise (·<=·)) (s2:b.Pairwise (·<=·)):a=b :=
 (h1.trans h2.symm).eq_of_pairwise (λx y _ _ h1 h2=>Int.le_antisymm h1 h2) s1 s2
def F0:FnScope ["_law_found","_law_due","_law_k"] ["_law_found","_law_due"] (Zh Zb0):=Am
def Zhn (T:Txt w K mg t):FnOk P w K mg base (CXr P w) 2 t.d0 t.eQ ["_law_found","_law_due"] Zk7:=by
 refine T.eZ.F.aR F0 (λ_ _ _ _ H vs Q E hr h=>?_)
 ·obtain ⟨a,b,xs,rfl,ha,hb,hl,k⟩:=h
  refine ⟨_,(Zd (Z2 (PW.pt (Ud (Wq (Wp (Zo J5 (by rfl) T.aB PyProof.Rows.boot_isinstance (Za (pv 0) (Za (Oz (v:=.ty "list") (by rfl) T.ba PySem.Pv.boot_list rfl) Zb))))) (Q4 (Zr Go (Zo Zm (by rfl) T.ad PySem.boot_len (Za (pv 0) Zb)) (Zo Zm (by rfl) T.ad PySem.boot_len (Za (pv 1) Zb)) (Zs _))))) (Zg (Zq Wj)) Zv)
   (Zd (Y0 PassesOwn.never rfl (Y1 rfl T.ak (Za (Zo Zm (by rfl) T.ad PySem.boot_len (Za (pv 1) Zb)) Zb)) (Zn (i:=2) F0.nd rfl (Or.inl rfl)) (Zg (Z2 (PW.pt (Ud (Wq (Wp (pcT (Zfn T) hr T.dH (Za (Zw Zt (pv 0) (pv 2) (λ_ _=>rfl)) Zb)))) (Q4 (Zr Go (Zw Zt (pv 0) (pv 2) (λ_ _=>rfl)) (Zw Zt (pv 1) (pv 2) (λ_ _=>rfl)) (Zs _))))) (Zg (Zq Wj)) Zv)))
   (Zg (Zq Wj)))),?_⟩;refine ⟨_,Y,_,"list",_,true,rfl,TyOf.lst ha,Ks,_,rfl,iteF ?_⟩;refine ⟨_,Y,a,_,Y,.inl (SqL.of ha),_,Y,b,_,Y,.inl (SqL.of hb),Y,_,Y,?_⟩;rw [show (!decide (V.int ((xs.map V.int).length:Nat)=V.int ((xs.map V.int).length:Nat)))=false by simp];refine iteF ?_;dsimp only [Xj];show tSeq (tFor _ _ _) _ _ _ _;refine Z6 (λσ H1=>H1=H) (λnx ig=>?_) ?_
  ·refine ⟨_,Y,b,_,Y,.inl (SqL.of hb),_,Y,by lia,by rw [Ab]; lia,?_⟩
   have eL:(((xs.map V.int).length:Nat):Int).toNat=xs.length:=by simp
   rw [eL];refine X2 (n:=xs.length) (λi σ H1=>∃ v,σ=[some (.ref a),some (.ref b),v]/\H1=H) ⟨none,Y,Y⟩ ?_ ?_
   ·rintro i σ H1 gr ⟨v,rfl,rfl⟩
    have ei:atI (xs.map V.int) (0 + (i:Int))=some (V.int xs[i]):=by rw [Int.zero_add]; exact Yh (Ac gr)
    dsimp only [Zl];refine ⟨_,Y,_,Y,a,_,_,_,Y,Y,SqL.of ha,ei,_,Y,_,Y,iteF ?_⟩;refine ⟨_,Y,_,Y,a,_,_,_,Y,Y,SqL.of ha,ei,_,Y,_,Y,b,_,_,_,Y,Y,SqL.of hb,ei,Y,_,Y,?_⟩;rw [show (!decide (V.int xs[i]=V.int xs[i]))=false by simp];exact iteF ⟨_,Y,Y⟩
   ·rintro σ H1 ⟨v,rfl,rfl⟩
    exact ig _ _ Y
  ·rintro σ H1 rfl
   exact k
def isL (way:Str):Bool:=decide (way="left")
def Zdl (EW:Addr):Sp:=λvs H Q E=>∃ way:Str,vs=[.str way]/\(way="left"\/way="right"->Q .non H)/\(¬ (way="left"\/way="right")->E (.ref EW) none H)
structure Wrong (EW ES ER EL:Addr) (M:List (Option Nat)) (ns:List Int) (x:Int) (way:Str) (H:Hp) (E:XK) (G:Nat->Nat->Hp->Prop):Prop where
 noway:¬ (way="left"\/way="right")->E (.ref EW) none H
 seam:way="left"\/way="right"->x ∉ keys ns ns.length->E (.ref ES) none H
 rim:way="left"\/way="right"->∀ H',Same H H'->x∈keys ns ns.length->Z5 ns x="rim"->E (.ref ER) none H'
 lock:way="left"\/way="right"->∀ H',Same H H'->x∈keys ns ns.length->Z5 ns x="locked"->E (.ref EL) none H'
 go:way="left"\/way="right"->∀ a b H',Same H H'->pl ns ns.length x=[a,b]->a < b->M[a]?=some (some b)->a / 3≠b / 3->G a b H'
def Zgl (C EW ES ER EL:Addr):Sp:=λvs H Q E=>∃ (p:Addr) (M:List (Option Nat)) (ns:List Int) (x:Int) (way:Str),vs=[.ref p,.int x,.str way]/\Zu C H p M ns/\TD M ns /\
 Wrong EW ES ER EL M ns x way H E λa b H'=>∀ l,H l=none->H' l=some (.dK (glV (isL way) a b))->Q (.ref l) H'
def Za6 (way:Str):(valV [((Sum.inr "left":Key),V.str "right"),(Sum.inr "right",V.str "left")] (Sum.inr way)).isSome=true ↔ way="left"\/way="right":=by
 unfold valV;by_cases c1:way="left"
 ·subst c1; simp
 ·by_cases c2:way="right"
  ·subst c2
   simp [List.find?_cons];split <;> simp
  ·have n1:¬ (Sum.inr "left":Key)=Sum.inr way:=λz=>c1 (by injection z with z; exact z.symm)
   have n2:¬ (Sum.inr "right":Key)=Sum.inr way:=λz=>c2 (by injection z with z; exact z.symm);simp [List.find?_cons,n1,n2,c1,c2]
def Zdp:FnScope ["way"] ["way"] (Zh Ga):=Am
def Zdv (T:Txt w K mg t):FnOk P w K mg base (CXr P w) 1 t.cS t.cZ ["way"] (Zdl t.bV):=by
 refine T.de.F.aX Zdp (λ_ _ _ _ H vs Q E hr h=>?_)
 ·obtain ⟨way,rfl,k1,k2⟩:=h
  refine ⟨_,(Z7 (Q5 (Zg3 (Zhd (pv 0) (Oy (v:=.ref t.ar) Y T.ck Y)) (by with_unfolding_all rfl)) (Z7 (We T.fM FBV Y T.fL Y (Za Yf Zb))) W4)),?_⟩;refine ⟨_,Y,t.ar,_,Sum.inr way,Y,T.cm,Y,_,Y,?_⟩;by_cases c:way="left"\/way="right"
  ·rw [(Za6 way).mpr c]
   exact iteF (k1 c)
  ·have:(valV [((Sum.inr "left":Key),V.str "right"),(Sum.inr "right",V.str "left")] (Sum.inr way)).isSome=false:=by
    rw [Bool.eq_false_iff]; exact λz=>c ((Za6 way).mp z)
   rw [this];exact iteT ⟨by decide,k2 c⟩
def J6:FnScope ["tent","seam","way","a","b","c","d"] ["tent","seam","way"] (Zh Zbv):=Am
def Zhi (T:Txt w K mg t):FnOk P w K mg base (CXr P w) 5 t.dR t.eE ["tent","seam","way"] (Zgl t.aa t.bV t.ay t.dA t.aU):=by
 refine T.eU.F.aX J6 (λ_ _ _ _ H vs Q E hr h=>?_)
 ·obtain ⟨p,M,ns,x,way,rfl,ta,td,W⟩:=h
  refine ⟨_,(Z3 (Wf (pxT (Zdv T) hr T.de (Za (pv 2) Zb)))
   (Z3 (Zll (pxT (F8 T) hr T.df (Za (pv 0) (Za (pv 1) Zb))) (J7 rfl (Zz (Zn (i:=3) J6.nd rfl (Or.inl rfl)) (Zz (Zn (i:=4) J6.nd rfl (Or.inl rfl)) (Zz (Zn (i:=5) J6.nd rfl (Or.inl rfl)) (Zz (Zn (i:=6) J6.nd rfl (Or.inl rfl)) Xv))))))
   (Z3 (Y6 (Z2 (Zr Yw (pv 2) Yf (Zs _)) (Zg (Zq (Fp (Xc (pv 3) (pv 6) (Xc (pv 6) (pv 5) (Xc (pv 5) (pv 4) (Xc (pv 4) (pv 3) Fl)))) rfl rfl (List.cons_ne_nil _ _) (by decide)))) Zv))
   (Z7 (Y6 (Zq (Fp (Xc (pv 3) (pv 4) (Xc (pv 4) (pv 5) (Xc (pv 5) (pv 6) (Xc (pv 6) (pv 3) Fl)))) rfl rfl (List.cons_ne_nil _ _) (by decide)))))))),?_⟩;refine ⟨_,Y,way,Y,λhw=>?_,W.noway⟩;refine ⟨_,Y,_,Y,p,M,ns,x,Y,ta,td,λc H' sm=>⟨λe=>W.rim hw H' sm c e,λe=>W.lock hw H' sm c e,λa b l e1 e2 e3 e4 e5 e6=>?_⟩,λc=>W.seam hw c⟩;refine ⟨l,_,Y,SqT.of e6,Y,_,_,Y,_,_,Y,_,_,Y,_,_,Y,Y,?_⟩;refine ⟨_,Y,Y,_,Y,?_⟩;by_cases c:way="left"
  ·have cl:isL way=true:=decide_eq_true c
   have:=λxa l7=>W.go hw a b xa l7 e1 e2 e3 e4;rw [cl] at this;rw [decide_eq_true (show V.str way=V.str "left" by rw [c])];refine iteT ?_;intro d hd;refine ⟨_,Y,_,Y,_,Y,_,Y,_,Y,_,Y,_,Y,_,Y,Zc,glV true a b,?_,?_,?_⟩
   ·rw [Zc5 e4]; rfl
   ·rw [Zc5 e4]; show 4<=15; decide
   ·rw [Zcw e4]
    exact this _ (Same.add (Same.add sm (sm.free hd)) (sm.free hd)) d (sm.free hd) Zc
  ·have cl:isL way=false:=decide_eq_false c
   have:=λxa l7=>W.go hw a b xa l7 e1 e2 e3 e4;rw [cl] at this;rw [Vn c];refine iteF ?_;intro d hd;refine ⟨_,Y,_,Y,_,Y,_,Y,_,Y,_,Y,_,Y,_,Y,Zc,glV false a b,?_,?_,?_⟩
   ·rw [Zad e4]; rfl
   ·rw [Zad e4]; show 4<=15; decide
   ·rw [Zcw e4]
    exact this _ (Same.add (Same.add sm (sm.free hd)) (sm.free hd)) d (sm.free hd) Zc
def wayS (left:Bool):Str:=if left then "left" else "right"
def Zml (left:Bool):wayS left="left"\/wayS left="right":=by cases left <;> simp [wayS]
def Zks (left:Bool):isL (wayS left)=left:=by cases left <;> decide
def Wrong.free {EW ES ER EL:Addr} {M:List (Option Nat)} {ns:List Int} {x:Int} {left:Bool} {H:Hp} {E:XK} {G:Nat->Nat->Hp->Prop} {i j:Nat} (td:TD M ns) (hk:x∈keys ns ns.length) (hp:pl ns ns.length x=[i,j]) (ne:i / 3≠j / 3) (g:∀ H',Same H H'->G i j H'):Wrong EW ES ER EL M ns x (wayS left) H E G:=by
 have es:Z5 ns x="free":=by unfold Z5; rw [hp]; exact if_neg ne
 refine ⟨λc=>absurd (Zml left) c,λ_ c=>absurd hk c,λ_ H' _ _ e=>absurd (es.symm.trans e) t_fr,λ_ H' _ _ e=>absurd (es.symm.trans e) t_fl,λ_ a b H' s e1 _ _ _=>?_⟩;rw [hp] at e1;cases e1;exact g H' s
def Zh8 {K:W.Frag} {D N:Addr} {ns:List Int} {ts:List Addr} {n:Nat} {H2:Hp} {R:St->Hp->Prop} (kj:H2 D=some (.lst (ts.map V.ref))) (oz:∀ (k:Nat) (q:Addr),ts[k]?=some q->H2 q=some (.tup (row3 ns k))) (p7:ns.length=3 * n) (qq:ts.length=n) (n2:n<=40) (hN:H2 N=none)
  (hR:∀ σ H3,Same H2 H3->H3 N=some (.lst (ns.map V.int))->R σ H3):Wo (Itl K D) (Zl 0) tYes (tGen (iTup K (tVar 0)) (Zl 1) tYes (Zfa (tVar 1) N)) R [none,none] (upd H2 N (.lst [])):=by
 refine Yi (xs:=ts.map V.ref) (λi σ H3=>∃ (v v':Option V),σ=[v,v']/\Same H2 H3/\H3 N=some (.lst ((ns.take (3 * i)).map V.int))) ⟨none,none,Y,Same.new hN,Zc⟩ ?_ ?_ ?_
 ·rintro i σ H3 _ ⟨v,v',rfl,sm,h3⟩
  exact SqL.of (sm _ _ kj)
 ·rintro i x σ H3 hx ⟨v,v',rfl,sm,h3⟩
  dsimp only [Zl,tYes];rw [if_pos rfl];obtain ⟨tt,ht,rfl⟩:=map_some hx;have hi:i < n:=by rw [<- qq]; exact (Aa ht).1
  refine ⟨_,Y,tt,Y,⟨_,SqT.of (sm _ _ (oz i tt ht))⟩,?_⟩;refine Ui (xs:=row3 ns i) (λj σ H4=>∃ (v':Option V),σ=[some (.ref tt),v']/\Same H2 H4/\H4 N=some (.lst ((ns.take (3 * i)).map V.int ++ (row3 ns i).take j))) ⟨v',Y,sm,by rw [h3,List.take_zero,List.append_nil]⟩ ?_ ?_ ?_
  ·rintro j σ H4 _ ⟨v',rfl,sm,h4⟩
   exact SqT.of (sm _ _ (oz i tt ht))
  ·rintro j x σ H4 hx ⟨v',rfl,sm,h4⟩
   dsimp only [Zl,tYes];rw [if_pos rfl];refine ⟨_,Y,_,h4,?_,_,Y,Same.add sm hN,?_⟩
   ·rw [Ae,Ab,Ai,Ai]
    exact Zx (by have:(row3 ns i).length=3:=rfl; lia)
   ·rw [Zc,Aw,hx,<- List.append_assoc]
    rfl
  ·rintro σ H4 ⟨v',rfl,sm,h4⟩
   refine ⟨_,_,Y,sm,?_⟩;rw [h4,List.take_length,Zba p7 hi]
 rintro σ H3 ⟨v,v',rfl,yq,h3⟩;have t8:ns.take (3 * (ts.map V.ref).length)=ns:=by rw [Ab,qq,<- p7,List.take_length]
 rw [t8] at h3;exact hR _ _ yq h3
def Zmb {ns:List Int} {i n:Nat} (hn:ns.length=3 * n) (hi:i < n):cutV (ns.map V.int) (some (0 + (i:Int) * 3)) (some (0 + (i:Int) * 3 + 3))=row3 ns i:=by
 have e0:(0 + (i:Int) * 3)=((3 * i:Nat):Int):=by lia
 have e3:(0 + (i:Int) * 3 + 3)=((3 * i + 3:Nat):Int):=by lia
 have l0:3 * i < ns.length:=by lia
 have l1:3 * i + 1 < ns.length:=by lia
 have l2:3 * i + 2 < ns.length:=by lia
 unfold cutV;rw [e3,e0,HT.sIx_nat,HT.sIx_nat,Ab,Nat.min_eq_left (by lia),Nat.min_eq_left (by lia),show 3 * i + 3 - 3 * i=3 by lia];have g:∀ k,(hk:k < ns.length)->(ns.map V.int).drop k=V.int (ns.getD k 0) :: (ns.map V.int).drop (k + 1):=λk hk=>by
  rw [List.drop_eq_getElem_cons (by rw [Ab]; exact hk),List.getElem_map,Ad,Ac hk]
  rfl
 rw [g _ l0,g _ l1,g _ l2];rfl
def Zbe (C EW ES ER EL:Addr):Sp:=λvs H Q E=>∃ (p:Addr) (M:List (Option Nat)) (ns:List Int) (x:Int) (way:Str),vs=[.ref p,.int x,.str way]/\Zu C H p M ns/\TD M ns /\
 Wrong EW ES ER EL M ns x way H E λa b H'=>∀ p',H p'=none->Zu C H' p' (exM (isL way) a b M) (exN (isL way) a b ns)->Q (.ref p') H'
def Wd:FnScope ["tent","seam","way","goals","names","place","goal"] ["tent","seam","way"] (Zh Kd):=Am
def Zcp (T:Txt w K mg t):FnOk P w K mg base (CXr P w) 6 t.cv t.cD ["tent","seam","way"] (Zbe t.aa t.bV t.ay t.dA t.aU):=by
  refine T.cI.F.aX Wd (λ_ _ _ _ H vs Q E hr h=>?_)
  · obtain ⟨p,M,ns,x,way,rfl,ta,td,W⟩:=h
    refine ⟨_,(Z3 (Vx (i:=3) Wd.nd Y (Or.inl Y) (pxT (Zhi T) hr T.eU (Za (pv 0) (Za (pv 1) (Za (pv 2) Zb)))))
      (Z3 (Y6 (Zp (i:=4) Wd.nd rfl (Or.inr rfl) (Yg (ts:=["row","name"]) (fv:=[]) ⟨rfl,by decide +kernel,by decide +kernel,Yc (by rfl),trivial⟩ rfl (Yj (Jt (pv 0) T.ac T.az.m (Oh T) (hr.mono (by decide)) T.az.b .nil Yr)) (λ_ _ _ _=>(Zn (i:=0) (show List.Nodup (["row","name"]:List Str) from by decide +kernel) rfl (Or.inl rfl) (Or.inr rfl))) (λ_ _ _ _=>Yb) (λ_ _ _=>rfl) (λ_ _ _ _ _ _=>Zcl rfl rfl (Fn K (pv 0)) (Zn (i:=1) (show List.Nodup (["row","name"]:List Str) from by decide +kernel) rfl (Or.inl rfl) (Or.inr rfl)) Yb (pv 1)))))
      (Z3 (Y6 (Y0 PassesOwn.never rfl (Zcg (pv 3) ⟨rfl,rfl,rfl⟩) (J7 rfl (Zz (Zn (i:=5) Wd.nd rfl (Or.inl rfl)) (Zz (Zn (i:=6) Wd.nd rfl (Or.inl rfl)) Xv))) (Zg (Xm (Xh (pv 0) T.ac T.ae.m (Jh T) (hr.mono (by decide)) T.ae.b .nil Yr (Za (pv 5) Zb)) (Jd (pv 4) (pv 6) X3)))))
      (Z7 (Y6 (Zq (Fo T.dO (Q9 T) (hr.mono (by decide)) rfl T.dL T.aJ.b .nil Yr (Za (Yg (ts:=["k"]) (fv:=[("names",4)]) ⟨rfl,by decide +kernel,by decide +kernel,Yc (by rfl),⟨⟨rfl,rfl,Or.inl rfl⟩,trivial⟩⟩ rfl (Zha rfl T.ak (Za Ze (Za (Zo Zm (by rfl) T.ad PySem.boot_len (Za (pv 4) Zb)) (Za Ze Zb)))) (λ_ _ _ _=>(Zn (i:=0) (show List.Nodup (["k","names"]:List Str) from by decide +kernel) rfl (Or.inl rfl) (Or.inr rfl))) (λ_ _ _ _=>Yb) (λ_ _ _=>rfl) (λ_ _ _ _ _ _=>Ye (X1 (V9 K) (by rfl) T.fE PySem.Pv.boot_tuple (Za (Q6 (Zi2 K) (pv 1) (Js (pv 0)) (Js (Zi Z4 (pv 0) Ze))) Zb)))) Zb)))))))),?_⟩;refine ⟨_,Y,_,Y,_,Y,p,M,ns,x,way,Y,ta,td,⟨W.noway,W.seam,W.rim,W.lock,λhw i j H1 s1 e1 e2 e3 e4 l hl m6=>?_⟩⟩;have g:=λH' s'=>W.go hw i j H' s' e1 e2 e3 e4;generalize isL way=left at g m6;obtain ⟨n,n1,uk,hn⟩:=td.n;have iq:=td.len;have p7:ns.length=3 * n:=by lia
    have hi:i < 3 * n:=by rw [<- hn]; exact (Aa e3).1
    have hj:j < 3 * n:=by rw [<- hn]; exact (Aa (td.inv i j e3).1).1
    have kg:=ta.same s1;obtain ⟨dx,cl,na,sp,mt,o,f,B⟩:=id kg;refine ⟨_,Y,p,dx,_,Y,B.ins,Yd _ _ _ _,p,M,ns,Y,kg,λl2 ts iw gc h3=>?_⟩;have s2:Same H1 (upd H1 l2 (.lst (ts.map V.ref))):=Same.new iw;refine ⟨l2,Y,⟨_,SqL.of Zc⟩,λN hN=>?_⟩;refine Zh8 (n:=n) Zc (λk q e=>s2 _ _ (h3 k q e)) p7 (by lia) uk hN λσ3 H3 s3 mj=>?_;have kh:=s2.trans s3;have zv:H N=none:=(s1.trans s2).free hN;have u4:=kh _ _ m6;have hNl:N≠l:=λz=>by rw [z,u4] at mj; cases mj
    clear h3 gc;dsimp only [Zl];show tSeq (tFor _ _ _) _ _ _ _;refine Z6 (λσ H4=>∃ v5 v6,σ=[some (.ref p),some (.int x),some (.str way),some (.ref l),some (.ref N),v5,v6]/\Same H H4/\H4 N=some (.lst ((exN left i j ns).map V.int))) (λnx ig=>?_) ?_
    · refine ⟨_,Y,l,_,Y,.inl ⟨u4,λo=>?_⟩⟩
      refine Zae (λk σ H4=>∃ v5 v6,σ=[some (.ref p),some (.int x),some (.str way),some (.ref l),some (.ref N),v5,v6]/\Same H H4/\H4 l=some (.frz o (.dK (glV left i j)))/\H4 N=some (.lst ((nst left i j ns k).map V.int)))
        ⟨_,_,rfl,Same.add (s1.trans kh) hl,Zc,by rw [Zf hNl,Zjm]; exact mj⟩ ?_ ?_ ?_
      · rintro k σ H4 _ ⟨v5,v6,rfl,s4,h4,_⟩
        exact h4
      · rintro k key v σ H4 q hk hq ⟨v5,v6,rfl,s4,h4,h5⟩
        obtain ⟨z,hz,rfl,rfl⟩:∃ z,(Ys left i j)[k]?=some z/\key=Sum.inl z/\v=V.int (mvI left i j z):=by
          unfold glV at hk;rw [Ah] at hk
          cases e:(Ys left i j)[k]? with
          | none=>rw [e] at hk; cases hk
          | some z=>rw [e] at hk; cases hk; exact ⟨z,Y,Y,Y⟩
        obtain ⟨z0,z1⟩:=Zl7 hi hj hz;obtain ⟨c,rfl⟩:∃ c:Nat,z=c:=⟨z.toNat,by lia⟩;have hc:c < ns.length:=by lia
        have i7:mvN left i j c < ns.length:=by rw [p7]; exact Jj hi hj left (by lia)
        have s5:Same H4 (upd H4 q (.tup [kV (Sum.inl (c:Int)),V.int (mvI left i j c)])):=Same.new hq;have qh:=(ta.same s4).same s5;obtain ⟨dx4,cl4,na4,sp4,mt4,o4,ff4,B4⟩:=id qh;have hNq:N≠q:=Zj h5 hq;have hlq:l≠q:=Zj h4 hq;refine ⟨q,_,Y,SqT.of Zc,Y,_,_,Y,_,_,Y,Y,?_⟩;refine ⟨_,Y,p,dx4,_,Y,B4.ins,Yd _ _ _ _,_,Y,p,M,ns,c,Y,qh,λi' y z1 z2=>?_,λz=>absurd ⟨by lia,by lia⟩ z⟩;obtain rfl:c=i':=by lia
        have ey:ns.getD c 0=y:=by rw [Ad,z2]; rfl
        have gc:((nst left i j ns k).map V.int).length=ns.length:=by unfold nst; simp
        refine ⟨_,Y,_,Y,N,_,_,mvN left i j c,Y,Y,(by rw [Zf hNq]; exact h5),(by rw [gc,<- Qa]; exact Wm i7),?_⟩;refine ⟨_,_,Y,Same.add (Same.add s4 (s4.free hq)) zv,?_,?_⟩
        · rw [Zf (Ne.symm hNl),Zf hlq]; exact h4
        · rw [Zc,<- Zjn e4 hz i7,ey,List.map_set]
      · rintro σ H4 ⟨v5,v6,rfl,s4,h4,h5⟩
        have e:(glV left i j).length=4:=by unfold glV; rw [Ab,Zc6]
        rw [e,Zlu e4] at h5;exact ig _ _ ⟨_,_,Y,s4,h5⟩
    rintro σ H4 ⟨v5,v6,rfl,s4,h4⟩;have tdx:TD (exM left i j M) (exN left i j ns):=td.ex (by lia) (by lia) e4 left;have m9:(exN left i j ns).length=3 * n:=by rw [Ja]; exact p7
    generalize exN left i j ns=pi at h4 tdx m9 g ⊢;refine ⟨_,Y,N,_,Y,.inl (SqL.of h4),n,(by rw [Ab,m9]),by lia,λD hD=>?_⟩;have hND:N≠D:=Zj h4 hD;refine Zd1 (λc σ H5=>∃ v ts,σ=[v,some (.ref N)]/\Same H4 H5/\H5 D=some (.lst (ts.map V.ref))/\ts.length=c/\∀ (k:Nat) (q:Addr),ts[k]?=some q->H5 q=some (.tup (row3 pi k)))
      ⟨none,[],rfl,Same.new hD,Zc,rfl,λk q e=>by simp at e⟩ ?_ ?_
    · rintro c σ H5 hc ⟨v,ts,rfl,s5,h5,hts,nz⟩
      dsimp only [Zl,tYes];rw [if_pos rfl];have h45:=s5 _ _ h4;refine ⟨_,Y,_,Y,_,Y,_,Y,_,_,Y,Y,_,Y,N,_,Y,SqL.of h45,λq hq=>?_⟩;rw [Zmb m9 hc];refine ⟨q,_,Y,.inl ⟨SqL.of Zc,λq2 rp=>?_⟩⟩;obtain ⟨hqq,xo⟩:=W1 rp;have hDq:D≠q:=Zj h5 hq;have hDq2:D≠q2:=Zj h5 xo;have s6:Same H5 (upd (upd H5 q (.lst (row3 pi c))) q2 (.tup (row3 pi c))):=Same.add (Same.new hq) xo;refine ⟨_,s6 _ _ h5,(by rw [Ab]; exact Zx (by lia)),_,ts ++ [q2],Y,Same.add (s5.trans s6) hD,?_,?_,?_⟩
      · rw [Zc]; simp
      · rw [Ae,At,hts]
      · intro k q3 z
        by_cases hk:k < ts.length
        · rw [Av hk] at z
          have g3:=s6 _ _ (nz k q3 z);rw [Zf (λe=>by rw [e,s6 _ _ h5] at g3; cases g3)];exact g3
        · have si:k=ts.length:=by
            have:=(Aa z).1;rw [Ae,At] at this;lia
          subst si;have:q3=q2:=by simpa using z.symm
          subst this;rw [Zf (Ne.symm hDq2),Zc,hts]
    rintro σ H5 ⟨v,ts,rfl,s5,h5,hts,nz⟩;intro y dy hy hdy iu;have s6:Same H5 (upd (upd H5 dy (.own y)) y (.ins t.aa dy [])):=Same.add (Same.new hdy) hy;refine ⟨y,D,dy,_,pi,Y,Zc,⟨ts,s6 _ _ h5,by lia,λk q e=>s6 _ _ (nz k q e)⟩,tdx,by lia,λH7 old ud=>⟨Y,?_⟩⟩;have s57:Same H5 H7:=λb u e=>old b u (Zj e hy) (s6 b u e);have s07:=(s4.trans s5).trans s57;exact g H7 s07 y ((s4.trans s5).free hy) ud
def Zjt {ws:List Int}:(((ws.map V.int).length:Nat):Int)=ws.length:=by rw [Ab]
def Zj5 (x0:Int) (xr:List Int):cutV ((x0 :: xr).map V.int) (some 1) none=xr.map V.int:=by
 unfold cutV;have e1:HT.sIx ((x0 :: xr).map V.int).length 0 (some ((1:Nat):Int))=1:=by
  rw [HT.sIx_nat,Ab,List.length_cons]
  lia
 rw [show (some (1:Int))=some ((1:Nat):Int) from rfl,e1,HT.sIx_none,List.map_cons,List.drop_succ_cons,List.drop_zero,List.length_cons,Nat.add_sub_cancel,List.take_length]
def Zc7 {α:Type} {p:α->Bool} {l:List α} {i:Nat} {x:α} (h:l[i]?=some x):(l.take (i + 1)).filter p=if p x=true then (l.take i).filter p ++ [x] else (l.take i).filter p:=by
 rw [Aw,h,List.filter_append];by_cases c:p x=true
 ·simp [c]
 ·simp [c]
def Zk3:Sp:=λvs H Q _=>∃ (m a:Addr) (M:List (Option Nat)) (xs:List Int),vs=[.ref m,.ref a]/\H m=some (.lst (M.map mV))/\H a=some (.lst (xs.map V.int))/\xs≠[]/\xs.length<=60/\(∀ x∈xs,0<=x/\x < 1009)/\M.length<=42/\(∃ n,M.length=3 * n)/\(∀ (i j:Nat),M[i]?=some (some j)->M[j]?=some (some i)/\i≠j) /\
 ∀ (l:Addr) (ws:List Nat) (H':Hp),Same H H'->H l=none->H' l=some (.lst (ws.map nV))->ws.length<=60->(ws=[]\/Pl M ws)->Q (.ref l) H'
def Zgj (K:W.Frag):Sp:=λvs H Q _=>∃ (a m:Addr) (sc:List Int) (i:Int) (M:List (Option Nat)),vs=[.ref a,.int i,.ref m]/\SqL K H a (sc.map V.int)/\sc.length<=63/\0<=i/\i < 1000/\H m=some (.lst (M.map mV))/\M.length<=42/\(∃ n,M.length=3 * n)/\(∀ (i j:Nat),M[i]?=some (some j)->M[j]?=some (some i)/\i≠j) /\
 ∀ (l:Addr) (ws:List Nat) (H':Hp),Same H H'->H l=none->H' l=some (.lst (ws.map nV))->ws.length<=60->(ws=[]\/Pl M ws)->Q (.ref l) H'
def hasM (M:List (Option Nat)) (i:Nat):Bool:=match M[i]? with
 | some (some _)=>true
 | _=>false
def Jz {M:List (Option Nat)}:hasM M i=true ↔ ∃ j,M[i]?=some (some j):=by
 unfold hasM;split
 ·rename_i j h; exact ⟨λ_=>⟨j,h⟩,λ_=>rfl⟩
 ·rename_i h; exact ⟨λz=>absurd z (by decide),λ⟨j,e⟩=>absurd e (h j)⟩
def Xk:FnScope ["_law_mates","_law_nums","_law_spots","_law_row","_law_pick","_law_side","_law_ways","_law_start","_law_stop"] ["_law_mates","_law_nums"] (Zh Zbw):=Am
def Zhj (T:Txt w K mg t):FnOk P w K mg base (CXr P w) 1 t.dZ t.eO ["_law_mates","_law_nums"] Zk3:=by
  refine T.eY.F.aR Xk (λ_ _ _ _ H vs Q E hr h=>?_)
  · obtain ⟨m,a,M,xs,rfl,hm,ha,hx0,hx60,hx,w4,⟨n,hn⟩,inv,k⟩:=h
    refine ⟨_,(Zd (X9 (ts:=["_law_p"]) (fv:=[("_law_mates",0)]) (i:=2) ⟨rfl,by decide +kernel,by decide +kernel,Yc (by rfl),⟨⟨rfl,rfl,Or.inl rfl⟩,trivial⟩⟩ rfl Xk.nd rfl rfl (by rfl) (Y1 rfl T.ak (Za (Zo Zm (by rfl) T.ad PySem.boot_len (Za (pv 0) Zb)) Zb)) (λ_ _ _ _=>(Zn (i:=0) (show List.Nodup (["_law_p","_law_mates"]:List Str) from by decide +kernel) rfl (Or.inl rfl) (Or.inr rfl))) (λ_ _ _ _=>(Fk (Zr Jv (Zw (W6 K) (pv 1) (pv 0) (λ_ _=>rfl)) Ws (Zs _)))) (λ_ _ _=>rfl) (λ_ _ _ _ _ _=>Ye (pv 0)))
      (Zd (Z2 (Zr Yw (Zo Zm (by rfl) T.ad PySem.boot_len (Za (pv 2) Zb)) Ze (Zs _)) (Zg (Zq (Yl Zb))) Zv)
      (Zd (Zp (i:=3) Xk.nd rfl (Or.inl rfl) (Yl (Za (Zw Zt (pv 2) (Zi Z0 (Zw Zt (pv 1) Ze (λ_ _=>rfl)) (Zo Zm (by rfl) T.ad PySem.boot_len (Za (pv 2) Zb))) (λ_ _=>rfl)) Zb)))
      (Zd (Y0 PassesOwn.never rfl (Yj (Q6 Vp (pv 1) (Js Ze) Fm)) (Zn (i:=4) Xk.nd rfl (Or.inl rfl)) (Zd (Zp (i:=5) Xk.nd rfl (Or.inr rfl) (Zw Zt (pv 0) (Zw Zt (pv 3) (Zoo Zmo Ze) (λ_ _=>rfl)) (λ_ _=>rfl)))
      (Zd (X9 (ts:=["_law_k"]) (fv:=[("_law_side",5)]) (i:=6) ⟨rfl,by decide +kernel,by decide +kernel,Yc (by rfl),⟨⟨rfl,rfl,Or.inl rfl⟩,trivial⟩⟩ rfl Xk.nd rfl rfl (by rfl) (Y1 rfl T.ak (Za Ze Zb)) (λ_ _ _ _=>(Zn (i:=0) (show List.Nodup (["_law_k","_law_side"]:List Str) from by decide +kernel) rfl (Or.inl rfl) (Or.inr rfl))) (λ_ _ _ _=>Yb) (λ_ _ _=>rfl) (λ_ _ _ _ _ _=>Ye (Zi Z4 (Zi Xd (pv 1) (Zi Z0 (pv 1) Ze)) (Zi Z0 (Zi Z4 (Zi Z4 (pv 1) Ze) (pv 0)) Ze))))
      (Zd (X9 (ts:=["_law_p"]) (fv:=[("_law_mates",0)]) (i:=6) ⟨rfl,by decide +kernel,by decide +kernel,Yc (by rfl),⟨⟨rfl,rfl,Or.inl rfl⟩,trivial⟩⟩ rfl Xk.nd rfl rfl (by rfl) (Yj (pv 6)) (λ_ _ _ _=>(Zn (i:=0) (show List.Nodup (["_law_p","_law_mates"]:List Str) from by decide +kernel) rfl (Or.inl rfl) (Or.inr rfl))) (λ_ _ _ _=>(Fk (Zr Jv (Zw (W6 K) (pv 1) (pv 0) (λ_ _=>rfl)) Ws (Zs _)))) (λ_ _ _=>rfl) (λ_ _ _ _ _ _=>Ye (pv 0)))
      (Zd (Z2 (Zr Yw (Zo Zm (by rfl) T.ad PySem.boot_len (Za (pv 6) Zb)) Ze (Zs _)) (Zg Zja) Zv)
      (Zg (Yp (Je PySem.F.plainAttrs_list PySem.F.slot_list_append PySem.F.type_list_append Y7 (pv 3) (Za (Zw Zt (pv 6) (Zi Z0 (pv 4) (Zo Zm (by rfl) T.ad PySem.boot_len (Za (pv 6) Zb))) (λ_ _=>rfl)) Zb)))))))))
      (Zd (Y0 PassesOwn.never rfl (Y1 rfl T.ak (Za (Zo Zm (by rfl) T.ad PySem.boot_len (Za (pv 3) Zb)) Zb)) (Zn (i:=7) Xk.nd rfl (Or.inl rfl)) (Zg (Y0 PassesOwn.never rfl (Zlo rfl T.dn rfl T.ak (Za (Zi Z4 (pv 7) Ze) (Za (Zo Zm (by rfl) T.ad PySem.boot_len (Za (pv 3) Zb)) Zb))) (Zn (i:=8) Xk.nd rfl (Or.inl rfl)) (Zg (Z2 (Zr Yw (Zw Zt (pv 3) (pv 7) (λ_ _=>rfl)) (Zw Zt (pv 3) (pv 8) (λ_ _=>rfl)) (Zs _)) (Zg (Zq (Q6 Vp (pv 3) (Js (pv 7)) (Js (pv 8))))) Zv)))))
      (Zg (Zq (Yl Zb)))))))),?_⟩;refine Zk λnxC f9=>?_;refine ⟨_,Y,m,_,Y,.inl (SqL.of hm),_,Y,by lia,by rw [Ab]; lia,λD hD=>?_⟩;have eL:(((M.map mV).length:Nat):Int).toNat=M.length:=by simp
    rw [eL];refine Qo (λi σ H1=>∃ v,σ=[v,some (.ref m)]/\Same H H1/\H1 D=some (.lst (((List.range i).filter (hasM M)).map nV))) ⟨none,Y,Same.new hD,Zc⟩ ?_ ?_
    · rintro i σ H1 gr ⟨v,rfl,sm,h1⟩
      dsimp only [Zl];rw [Int.zero_add];obtain ⟨y,hy⟩:∃ y,M[i]?=some y:=⟨_,Ac gr⟩;have lt:(((List.range i).filter (hasM M)).map nV).length < sizeLine:=by
        rw [Ab]
        have:=List.length_filter_le (hasM M) (List.range i)
        rw [List.length_range] at this
        exact Zx (by lia)
      refine ⟨_,Y,_,Y,m,_,_,_,Y,Y,SqL.of (sm _ _ hm),Yh hy,Y,_,Y,?_⟩
      cases y with
      | none =>
        refine iteF ⟨_,Y,sm,?_⟩;rw [h1,List.range_succ,List.filter_append];have:hasM M i=false:=by rw [Bool.eq_false_iff]; intro z; obtain ⟨j,e⟩:=Jz.mp z; rw [hy] at e; cases e
        simp [this]
      | some j =>
        refine iteT ⟨_,Y,_,h1,lt,_,Y,Same.add sm hD,?_⟩;rw [Zc,List.range_succ,List.filter_append];have:hasM M i=true:=Jz.mpr ⟨j,hy⟩;simp [this];rfl
    rintro σ H1 ⟨v,rfl,s1,h1⟩;refine f9 _ _ ?_;have jn:∀ p∈(List.range M.length).filter (hasM M),∃ j,M[p]?=some (some j):=λp hp=>Jz.mp (List.mem_filter.mp hp).2;generalize (List.range M.length).filter (hasM M)=sps at h1 jn;refine Zk λnxC f9=>?_;refine ⟨_,Y,D,_,Y,.inl (SqL.of h1),Y,_,Y,?_⟩;refine ite2 (λc=>?_) (λc=>?_)
    · exact ⟨Az _,λl hl=>k l [] _ (Same.add s1 (s1.free hl)) (s1.free hl) Zc (Az _) (.inl Y)⟩
    have iu:0 < sps.length:=by
      cases sps with
      | nil=>exact absurd Y c
      | cons _ _=>simp
    dsimp only [Xj];refine f9 _ _ ?_
    obtain ⟨x0,xr,rfl⟩:∃ x0 xr,xs=x0 :: xr:=by
      cases xs with
      | nil=>exact absurd Y hx0
      | cons a b=>exact ⟨a,b,Y⟩
    have k0:=Int.emod_nonneg x0 (show (sps.length:Int)≠0 by lia);have k1:=Int.emod_lt_of_pos x0 (show (0:Int) < sps.length by lia);obtain ⟨kk,wt⟩:∃ kk:Nat,x0 % (sps.length:Int)=kk:=⟨_,(Int.toNat_of_nonneg k0).symm⟩;have l9:kk < sps.length:=by lia
    refine Zk λnxC f9=>?_;refine ⟨_,Y,_,Y,a,_,_,_,Y,Y,SqL.of (s1 _ _ ha),(show atI _ ((0:Nat):Int)=_ from Yu Y),_,Y,D,_,Y,.inl (SqL.of h1),_,_,Y,Y,(by rw [Ab]; lia),D,_,_,_,rfl,rfl,SqL.of h1,(by rw [Ab,wt]; exact Yh (Ac l9)),(by show 1<=sizeLine; decide),λr jz=>?_⟩;refine f9 _ _ ?_;have nj:H r=none:=s1.free jz;obtain ⟨j0,hj0⟩:=jn _ (List.getElem_mem l9);have ch0:Ch M [sps[kk]]:=Ch.one hj0;generalize sps[kk]=p0 at ch0;have s2:Same H (upd H1 r (.lst [nV p0])):=Same.add s1 nj;have h2:(upd H1 r (.lst [nV p0])) r=some (.lst ([p0].map nV)):=Zc;generalize upd H1 r (.lst [nV p0])=H2 at s2 h2;dsimp only [Zl];show tSeq (tFor _ _ _) _ _ _ _;refine Z6 (λσ H3=>∃ (row:List Nat) (v4 v5 v6:Option V),σ=[some (.ref m),some (.ref a),some (.ref D),some (.ref r),v4,v5,v6,none,none]/\Same H H3/\H3 r=some (.lst (row.map nV))/\Ch M row/\row.length<=60) (λnx ig=>?_) ?_
    · refine ⟨_,Y,_,Y,a,_,Y,SqL.of (s2 _ _ ha),λq hq=>?_⟩
      rw [Zj5];have hrq:r≠q:=Zj h2 hq;have wl:H q=none:=s2.free hq;refine ⟨q,Y,⟨_,SqL.of Zc⟩,?_⟩;rw [List.length_cons] at hx60;refine Up (xs:=xr.map V.int) (λi σ H3=>∃ (row:List Nat) (v4 v5 v6:Option V),σ=[some (.ref m),some (.ref a),some (.ref D),some (.ref r),v4,v5,v6,none,none]/\Same H H3/\H3 q=some (.lst (xr.map V.int))/\H3 r=some (.lst (row.map nV))/\Ch M row/\row≠[]/\row.length<=i + 1)
        ⟨[p0],none,none,none,rfl,Same.add s2 wl,Zc,by rw [Zf hrq]; exact h2,ch0,by simp,by simp⟩ ?_ ?_ ?_
      · rintro i σ H3 _ ⟨row,v4,v5,v6,rfl,s3,h3,_⟩
        exact SqL.of h3
      · rintro i x σ H3 hxi ⟨row,v4,v5,v6,rfl,s3,h3,h4,ch,rne,tj⟩
        have hi:i < xr.length:=by have:=(Aa hxi).1; rw [Ab] at this; exact this
        obtain ⟨jq,hpk,rfl⟩:∃ jq,xr[i]?=some jq/\x=V.int jq:=by
          rw [Ah,Ac hi] at hxi;exact ⟨_,Ac hi,(Ax hxi).symm⟩
        obtain ⟨la,qt⟩:∃ la,row.getLast?=some la:=by
          cases e:row.getLast? with
          | none=>exact absurd (List.getLast?_eq_none_iff.mp e) rne
          | some z=>exact ⟨z,Y⟩
        have hlm:la∈row:=List.mem_of_getLast? qt;obtain ⟨sd,hsd⟩:=ch.has la hlm;have hsdM:sd < M.length:=(Aa (inv la sd hsd).1).1
        have ym:atI (row.map nV) (-1)=some (nV la):=by
          unfold atI ixN
          have hl:0 < row.length:=by cases row with | nil=>exact absurd rfl rne | cons _ _=>simp
          rw [if_neg (by decide),if_pos (by rw [Ab]; lia)];show ((row.map nV)[((-1:Int) + (row.map nV).length).toNat]?)=_;rw [Ab,show ((-1:Int) + (row.length:Int)).toNat=row.length - 1 by lia,Ah,<- List.getLast?_eq_getElem?,qt];rfl
        dsimp only [Zl];refine Zk λnxC f9=>?_;refine ⟨_,Y,_,Y,_,Y,r,_,_,_,Y,Y,SqL.of h4,ym,m,_,_,_,Y,Y,SqL.of (s3 _ _ hm),Yh hsd,?_⟩;refine f9 _ _ ?_;refine Zk λnxC f9=>?_;refine ⟨2,Y,by decide,by decide,λW hW=>?_⟩;have hW0:H W=none:=s3.free hW;have hWr:r≠W:=Zj h4 hW;have hWq:q≠W:=Zj h3 hW;refine Qo (n:=2) (λc σ H5=>∃ v,σ=[v,some (nV sd)]/\Same H3 H5/\H5 W=some (.lst (([side sd 1,side sd 2].take c).map nV))) ⟨none,Y,Same.new hW,Zc⟩ ?_ ?_
        · rintro c σ H5 hc ⟨v,rfl,s5,h5⟩
          dsimp only [Zl,tYes];rw [if_pos rfl];refine ⟨_,Y,_,Y,_,_,Y,Y,(by show (0:Int) < 3; decide),_,_,rfl,rfl,_,rfl,_,_,rfl,rfl,_,rfl,_,_,rfl,rfl,_,_,rfl,rfl,(by show (0:Int) < 3; decide),_,_,rfl,rfl,_,h5,?_,_,rfl,Same.add s5 hW,?_⟩
          · rw [Ab,Ai]; exact Zx (by lia)
          · rw [Zc]
            have hc:c=0\/c=1:=by lia
            have e:∀ k:Nat,(sd:Int) - (sd:Int) % 3 + ((sd:Int) + 1 + (0 + (k:Int))) % 3=((side sd (k + 1):Nat):Int):=λk=>by unfold side; omega
            rcases hc with rfl | rfl
            · show some (HO.lst ([] ++ [V.int ((sd:Int) - (sd:Int) % 3 + ((sd:Int) + 1 + (0 + ((0:Nat):Int))) % 3)]))=_
              rw [e 0]; rfl
            · show some (HO.lst ([nV (side sd 1)] ++ [V.int ((sd:Int) - (sd:Int) % 3 + ((sd:Int) + 1 + (0 + ((1:Nat):Int))) % 3)]))=_
              rw [e 1]; rfl
        rintro σ H5 ⟨v,rfl,s5,h5⟩;refine f9 _ _ ?_;have h5:H5 W=some (.lst ([side sd 1,side sd 2].map nV)):=h5;have sl:∀ c,side sd c < M.length:=λc=>by rw [hn]; exact Zlb (by lia)
        refine Zk λnxC f9=>?_;refine ⟨_,Y,W,Y,⟨_,SqL.of h5⟩,λW2 hW2=>?_⟩;have s35:=s3.trans s5;refine Yi (xs:=[side sd 1,side sd 2].map nV) (λc σ H6=>∃ v,σ=[v,some (.ref m)]/\Same H5 H6/\H6 W2=some (.lst ((([side sd 1,side sd 2].take c).filter (hasM M)).map nV))) ⟨none,Y,Same.new hW2,Zc⟩ ?_ ?_ ?_
        · rintro c σ H6 _ ⟨v,rfl,s6,h6⟩
          exact SqL.of (s6 _ _ h5)
        · rintro c x σ H6 hxc ⟨v,rfl,s6,h6⟩
          obtain ⟨p,hp,rfl⟩:=map_some hxc;have hpM:p < M.length:=by
            have:=Au hp
            rcases Ar this with rfl | z
            · exact sl 1
            · rw [Af z]; exact sl 2
          obtain ⟨y,hy⟩:∃ y,M[p]?=some y:=⟨_,Ac hpM⟩;dsimp only [Zl];refine ⟨_,Y,_,Y,m,_,_,_,Y,Y,SqL.of (s6 _ _ (s35 _ _ hm)),Yh hy,Y,_,Y,?_⟩
          cases y with
          | none =>
            refine iteF ⟨_,Y,s6,?_⟩;have:hasM M p=false:=by rw [Bool.eq_false_iff]; intro z; obtain ⟨j,e⟩:=Jz.mp z; rw [hy] at e; cases e
            rw [h6,Zc7 hp,if_neg (by rw [this]; decide)]
          | some jj =>
            refine iteT ⟨_,Y,_,h6,?_,_,Y,Same.add s6 hW2,?_⟩
            · rw [Ab]
              have h1:=List.length_filter_le (hasM M) ([side sd 1,side sd 2].take c);have h2:([side sd 1,side sd 2].take c).length<=2:=by rw [Ai]; exact Nat.min_le_right _ _
              exact Zx (by lia)
            · rw [Zc,Zc7 hp,if_pos (Jz.mpr ⟨jj,hy⟩),Aj]
              rfl
        rintro σ H6 ⟨v,rfl,s6,h6⟩;refine f9 _ _ ?_;have h6:H6 W2=some (.lst (([side sd 1,side sd 2].filter (hasM M)).map nV)):=h6;have hws:∀ p∈[side sd 1,side sd 2].filter (hasM M),(∃ j,M[p]?=some (some j))/\p / 3=sd / 3/\p≠sd:=λp hp=>by
          obtain ⟨z1,z2⟩:=List.mem_filter.mp hp
          refine ⟨Jz.mp z2,?_,?_⟩
          · rcases Ar z1 with rfl | z
            · exact Zbl _ _
            · rw [Af z]; exact Zbl _ _
          · rcases Ar z1 with rfl | z
            · unfold side; omega
            · rw [Af z]; unfold side; omega
        generalize [side sd 1,side sd 2].filter (hasM M)=wys at h6 hws;have qm:=s5.trans s6;have sx:=qm _ _ h4;have mj:=qm _ _ h3;have vo:=s3.trans qm;refine Zk λnxC f9=>?_;refine ⟨_,Y,W2,_,Y,.inl (SqL.of h6),Y,_,Y,?_⟩;refine ite2 (λc=>?_) (λc=>?_)
        · exact ig _ _ ⟨row,_,_,_,Y,vo,sx,ch,by lia⟩
        have hwp:0 < wys.length:=by
          cases wys with
          | nil=>exact absurd Y c
          | cons _ _=>simp
        dsimp only [Xj];refine f9 _ _ ?_;have c0:=Int.emod_nonneg jq (show (wys.length:Int)≠0 by lia);have c1:=Int.emod_lt_of_pos jq (show (0:Int) < wys.length by lia);obtain ⟨cc,zo⟩:∃ cc:Nat,jq % (wys.length:Int)=cc:=⟨_,(Int.toNat_of_nonneg c0).symm⟩;have sr:cc < wys.length:=by lia
        obtain ⟨w1,w2,w3⟩:=hws _ (List.getElem_mem sr);have hget:=Ac sr;refine ⟨_,Y,.inl ⟨Y,_,SqL.of sx⟩,_,Y,_,Y,_,Y,W2,_,Y,.inl (SqL.of h6),_,_,Y,Y,(by rw [Ab]; lia),W2,_,_,_,rfl,rfl,SqL.of h6,(by rw [Ab,zo]; exact Yh hget),r,_,_,Y,Y,sx,(by rw [Ab]; exact Zx (by lia)),?_⟩;refine ⟨row ++ [wys[cc]],_,_,_,Y,Same.add vo nj,?_,?_,ch.snoc qt hsd w2 w3 w1,by simp,by rw [Ae,At]; lia⟩
        · rw [Zf (Ne.symm hrq)]; exact mj
        · rw [Zc,Aj]; rfl
      · rintro σ H3 ⟨row,v4,v5,v6,rfl,s3,h3,h4,ch,rne,tj⟩
        rw [Ab] at tj;exact ig _ _ ⟨row,_,_,_,Y,s3,h4,ch,by lia⟩
    rintro σ H3 ⟨row,v4,v5,v6,rfl,s3,h3,ch,tj⟩;show tSeq (tFor _ _ _) _ _ _ _;refine Z6 (λσ H4=>H4=H3) (λnx ig=>?_) ?_
    · refine ⟨_,Y,r,_,Y,.inl (SqL.of h3),_,Y,by lia,by rw [Ab]; lia,?_⟩
      have eR:(((row.map nV).length:Nat):Int).toNat=row.length:=by simp
      rw [eR];refine X2 (n:=row.length) (λi σ H4=>∃ v7 v8,σ=[some (.ref m),some (.ref a),some (.ref D),some (.ref r),v4,v5,v6,v7,v8]/\H4=H3) ⟨_,_,Y,Y⟩ ?_ ?_
      · rintro i σ H4 hi ⟨v7,v8,rfl,rfl⟩
        dsimp only [Zl];rw [Int.zero_add];refine ⟨_,Y,_,_,Y,Y,_,Y,r,_,Y,.inl (SqL.of h3),((i + 1:Nat):Int),row.length - (i + 1),?_,by lia,by lia,?_⟩
        · rw [Ab]
          show [V.int ((i:Int) + 1),V.int (row.length:Int)]=_;rw [show ((i:Int) + 1)=((i + 1:Nat):Int) by lia,show (row.length:Int)=((i + 1:Nat):Int) + ((row.length - (i + 1):Nat):Int) by lia]
        refine Zf2 (n:=row.length - (i + 1)) (λc σ H5=>∃ v8,σ=[some (.ref m),some (.ref a),some (.ref D),some (.ref r),v4,v5,v6,some (.int i),v8]/\H5=H4) ⟨_,Y,Y⟩ ?_ ?_
        · rintro c σ H4 hc ⟨v8,rfl,rfl⟩
          obtain ⟨e,he,hie,hel⟩:∃ e:Nat,((i + 1:Nat):Int) + ((row.length - (i + 1):Nat):Int) - 1 + (c:Int) * -1=(e:Int)/\i < e/\e < row.length:=⟨row.length - 1 - c,by lia,by lia,by lia⟩;dsimp only [Zl];rw [he];have gi:=Ac hi;have ge:=Ac hel;refine ⟨_,Y,_,Y,r,_,_,_,Y,Y,SqL.of h3,Yh gi,_,Y,_,Y,r,_,_,_,Y,Y,SqL.of h3,Yh ge,Y,_,Y,?_⟩;refine ite2 (λz=>?_) (λz=>?_)
          · have z:nV row[i]=nV row[e]:=of_decide_eq_true z
            have z:row[i]=row[e]:=by unfold nV at z; injection z with z; lia
            refine ⟨_,Y,_,Y,_,Y,_,Y,_,Y,r,_,Y,SqL.of h3,λl hl=>?_⟩;have ec:cutV (row.map nV) (some (i:Int)) (some (e:Int))=((row.drop i).take (e - i)).map nV:=by
              unfold cutV
              rw [HT.sIx_nat,HT.sIx_nat,Ab,Nat.min_eq_left (by lia),Nat.min_eq_left (by lia),List.map_take,List.map_drop]
            rw [ec];refine k l _ _ (Same.add s3 (s3.free hl)) (s3.free hl) Zc ?_ (.inr (ch.cut hie gi (by rw [ge,z])));rw [Ai,List.length_drop]; lia
          · exact ⟨_,Y,Y⟩
        · rintro σ H4 ⟨v8,rfl,rfl⟩
          exact ⟨_,_,Y,Y⟩
      · rintro σ H4 ⟨v7,v8,rfl,rfl⟩
        exact ig _ _ Y
    · rintro σ H4 rfl
      exact ⟨Az _,λl hl=>k l [] _ (Same.add s3 (s3.free hl)) (s3.free hl) Zc (Az _) (.inl Y)⟩
def Vc (ws:List Int) (by':Int):List Int:=rot ws (by' % ws.length).toNat
def Zgi:Sp:=λvs H Q _=>∃ (a:Addr) (ws:List Int) (b:Int),vs=[.ref a,.int b]/\H a=some (.lst (ws.map V.int))/\ws.length<=100000/\∀ (l:Addr) (H':Hp),Same H H'->H l=none->H' l=some (.lst ((Vc ws b).map V.int))->Q (.ref l) H'
def Zbg (C:Addr):Sp:=λvs H Q _=>∃ (p:Addr) (M:List (Option Nat)) (ns:List Int) (x:Int),vs=[.ref p,.int x]/\Zu C H p M ns/\M.length=ns.length/\Q (.bl (Xx M x)) H
def Zfe (C:Addr):Sp:=λvs H Q _=>∃ (p:Addr) (M:List (Option Nat)) (ns:List Int) (a x:Int),vs=[.ref p,.int a,.int x]/\Zu C H p M ns/\M.length=ns.length/\Xx M a=true/\Q (.bl (Wn M a x)) H
def Ziy (C:Addr):Sp:=λvs H Q _=>∃ (p a:Addr) (M:List (Option Nat)) (ns ws:List Int),vs=[.ref p,.ref a]/\Zu C H p M ns/\M.length=ns.length/\H a=some (.lst (ws.map V.int))/\ws.length<=100000/\∀ H',Same H H'->Q (.bl (Wr M ws)) H'
def Fc (C EN:Addr):Sp:=λvs H Q E=>∃ (p a:Addr) (M:List (Option Nat)) (ns ws:List Int),vs=[.ref p,.ref a]/\Zu C H p M ns/\M.length=ns.length/\H a=some (.lst (ws.map V.int))/\ws.length<=100000/\∀ H',Same H H'->(Wr M ws=true->Q .non H')/\(Wr M ws=false->E (.ref EN) none H')
def K4 {n:Nat} (h:n<=100000):n<=sizeLine:=by rw [sizeLine_eq]; lia
def Zj6 {ws:List Int} (h:s<=ws.length):cutV (ws.map V.int) (some (s:Int)) none=(ws.drop s).map V.int:=by
 unfold cutV;rw [HT.sIx_nat,HT.sIx_none,Ab,Nat.min_eq_left h,List.map_drop,List.take_of_length_le];rw [List.length_drop,Ab];exact An _
def Zn5 {ws:List Int} (h:s<=ws.length):cutV (ws.map V.int) none (some (s:Int))=(ws.take s).map V.int:=by
 unfold cutV;rw [HT.sIx_none,HT.sIx_nat,Ab,Nat.min_eq_left h,List.drop_zero,Nat.sub_zero,List.map_take]
def O9:FnScope ["_law_script","_law_at","_law_mates","_law_cell_here"] ["_law_script","_law_at","_law_mates"] (Zh Gb):=Am
def Zdw (T:Txt w K mg t):FnOk P w K mg base (CXr P w) 2 t.cV t.c9 ["_law_script","_law_at","_law_mates"] (Zgj K):=by
 refine T.dk.F.aR O9 (λ_ _ _ _ H vs Q E hr h=>?_)
 ·obtain ⟨a,m,sc,i,M,rfl,hS,hl,i0,i1,hm,w4,hn,inv,k⟩:=h
  refine ⟨_,(Zd (Zp (i:=3) O9.nd Y (Or.inl Y) (pcT (W8 T) hr T.aE (Za (pv 0) (Za (pv 1) Zb))))
   (Zg (Zq (pcT (Zhj T) hr T.eY (Za (pv 2) (Za (pcT (Q8 T) hr T.aK (Za (Zi Yt (pv 3) Ze) (Za (Zi Z4 Ze (Zi Z0 (pv 3) Ze)) Zb))) Zb)))))),?_⟩;refine ⟨_,Y,_,Y,a,sc,i,Y,hS,hl,i0,by lia,?_⟩;dsimp only [Zl];generalize cell sc i=c;have m0:0<=c % 50:=Int.emod_nonneg _ (by decide);have m1:c % 50 < 50:=Int.emod_lt_of_pos _ (by decide);have e:(4 + c % 50:Int)=((4 + (c % 50).toNat:Nat):Int):=by lia
  refine ⟨_,Y,_,Y,_,_,Y,Y,⟨by decide,by decide⟩,_,Y,_,_,Y,Y,(by show (0:Int) < 50; decide),_,_,rfl,rfl,_,4 + (c % 50).toNat,(by rw [<- e]; rfl),by lia,λp xs H1 s1 hp h1 m9 hx=>?_⟩;refine ⟨m,p,M,xs,Y,s1 _ _ hm,h1,λz=>by rw [z] at m9; simp at m9; lia,by lia,hx,w4,hn,inv,λl ws H2 s2 iw h2 hw ip=>k l ws H2 (s1.trans s2) (s1.free iw) h2 hw ip⟩
def Fz:FnScope ["word","by","start"] ["word","by"] (Zh Zbs):=Am
def F7 (T:Txt w K mg t):FnOk P w K mg base (CXr P w) 1 t.dS t.eF ["word","by"] Zgi:=by
 refine T.dh.F.aR Fz (λ_ _ _ _ H vs Q E hr h=>?_)
 ·obtain ⟨a,ws,b,rfl,ha,hl,k⟩:=h
  refine ⟨_,(Zd (Z2 (Wq (Kq (pv 0) (λ_=>rfl))) (Zg (Zq (Yl Zb))) Zv)
   (Zd (Zp (i:=2) Fz.nd rfl (Or.inl rfl) (Zi Z0 (pv 1) (Zo Zm (by rfl) T.ad PySem.boot_len (Za (pv 0) Zb))))
   (Zg (Zq (Zi Znl (Q6 Vp (pv 0) (Js (pv 2)) Fm) (Q6 Vp (pv 0) Fm (Js (pv 2)))))))),?_⟩;refine Zk λnxC f9=>?_;refine ⟨_,Y,_,.inl ⟨_,SqL.of ha,Y⟩,?_⟩;by_cases iu:ws=[]
  ·subst iu
   exact iteT ⟨Az _,λl qu=>k l _ (Same.new qu) qu (by rw [Zc]; unfold Vc rot; simp)⟩
  ·have e:(!(ws.map V.int).isEmpty)=true:=by cases ws with | nil=>exact absurd rfl iu | cons _ _=>rfl
   have hp:0 < ws.length:=by cases ws with | nil=>exact absurd rfl iu | cons _ _=>simp
   rw [e];refine iteF ?_;dsimp only [Xj];refine f9 _ _ ?_;have k0:=Int.emod_nonneg b (show (ws.length:Int)≠0 by lia);have k1:=Int.emod_lt_of_pos b (show (0:Int) < ws.length by lia);obtain ⟨st,j5⟩:∃ st:Nat,b % (ws.length:Int)=st:=⟨_,(Int.toNat_of_nonneg k0).symm⟩;have zb:st<=ws.length:=by lia
   have et:Vc ws b=ws.drop st ++ ws.take st:=by unfold Vc rot; rw [j5,Int.toNat_natCast]
   refine ⟨_,Y,_,Y,a,_,Y,.inl (SqL.of ha),_,_,Y,Y,(by rw [Ab]; lia),?_⟩;dsimp only [Zl];rw [Zjt,j5];refine ⟨_,Y,_,Y,_,Y,a,_,Y,SqL.of ha,λl1 h1=>?_⟩;rw [Zj6 zb];have s1:Same H (upd H l1 (.lst ((ws.drop st).map V.int))):=Same.new h1;refine ⟨_,Y,_,Y,_,Y,a,_,Y,SqL.of (s1 _ _ ha),λl2 h2=>?_⟩;rw [Zn5 zb];obtain ⟨hne2,zz⟩:=W1 h2;refine ⟨l1,l2,_,_,Y,Y,by rw [Zf (Ne.symm hne2),Zc],Zc,?_,λl3 h3=>?_⟩
   ·rw [Ab,Ab,List.length_drop,Ai]; exact K4 (by lia)
   ·have s3:=Same.add (o:=.lst ((ws.take st).map V.int)) s1 zz
    refine k l3 _ (Same.add s3 (s3.free h3)) (s3.free h3) ?_;rw [Zc,et,Aj]
def Zbo:FnScope ["tent","place"] ["tent","place"] (Zh Ke):=Am
def Zcq (T:Txt w K mg t):FnOk P w K mg base (CXr P w) 4 t.cw t.cE ["tent","place"] (Zbg t.aa):=by
 refine T.cJ.F.aR Zbo (λ_ _ _ _ H vs Q E hr h=>?_)
 ·obtain ⟨p,M,ns,x,rfl,ta,iq,k⟩:=h
  obtain ⟨dx,cl,na,sp,mt,o,f,b⟩:=id ta;refine ⟨_,(Zg (Zq (Zck (Xh (pv 0) T.ac T.ao.m (Qi T) (hr.mono (by decide)) T.ao.b .nil Yr (Za (pv 1) Zb)) (Zch (Qu Jv (Xh (pv 0) T.ac T.aj.m (Ji T) (hr.mono (by decide)) T.aj.b .nil Yr (Za (pv 1) Zb)) Ws (Zs _)))))),?_⟩;refine ⟨_,Y,p,dx,_,Y,b.ins,Yd _ _ _ _,_,Y,p,M,ns,x,Y,ta,_,Y,?_⟩;by_cases c:0<=x/\x < (ns.length:Int)
  ·rw [decide_eq_true c]
   refine iteT ⟨_,Y,p,dx,_,Y,b.ins,Yd _ _ _ _,_,Y,p,M,ns,x,Y,ta,iq,λi y e1 e2=>?_,λz=>absurd c z⟩;refine ⟨Y,?_⟩
   have:Xx M x=!decide (mV y=.non):=by
    unfold Xx;rw [e1,Int.toNat_natCast,Ad,e2,decide_eq_true (show (0:Int)<=i/\(i:Int) < M.length by lia)];cases y <;> rfl
   rw [this] at k;exact k
  ·rw [decide_eq_false c]
   have:Xx M x=false:=by unfold Xx; rw [decide_eq_false (by lia)]; rfl
   rw [this] at k;exact iteF k
def K6:FnScope ["tent","ahead","place","entry"] ["tent","ahead","place"] (Zh F5):=Am
def Zfp (T:Txt w K mg t):FnOk P w K mg base (CXr P w) 4 t.dr t.dB ["tent","ahead","place"] (Zfe t.aa):=by
 refine T.dG.F.aR K6 (λ_ _ _ _ H vs Q E hr h=>?_)
 ·obtain ⟨p,M,ns,a,x,rfl,ta,iq,hc,k⟩:=h
  obtain ⟨dx,cl,na,sp,mt,o,f,b⟩:=id ta;refine ⟨_,(Zd (Zp (i:=3) K6.nd Y (Or.inl Y) (Xh (pv 0) T.ac T.aj.m (Ji T) (hr.mono (by decide)) T.aj.b .nil Yr (Za (pv 1) Zb)))
   (Zg (Zq (Zck (Qu Yw (pcT (J1 T) hr T.aC (Za (pv 2) Zb)) (pcT (J1 T) hr T.aC (Za (pv 3) Zb)) (Zs _)) (Zch (Qu Go (pv 2) (pv 3) (Zs _))))))),?_⟩
  obtain ⟨jz,hs1⟩:=Bool.and_eq_true_iff.mp hc;have jz:=of_decide_eq_true jz;obtain ⟨m,hm⟩:=Option.isSome_iff_exists.mp hs1;have wx:a.toNat < M.length:=by lia
  have ha:M[a.toNat]?=some (some m):=by rw [Ad,Ac wx] at hm; rw [Ac wx]; exact congrArg some hm
  have ef:Wn M a x=(decide (x / 3=(m:Int) / 3) && !decide (x=(m:Int))):=by unfold Wn; rw [hm]
  rw [ef] at k;refine ⟨_,Y,p,dx,_,Y,b.ins,Yd _ _ _ _,_,Y,p,M,ns,a,Y,ta,iq,λi y e1 e2=>?_,λz=>absurd (show 0<=a/\a < (ns.length:Int) by lia) z⟩;have:i=a.toNat:=by lia
  subst this;rw [ha] at e2;cases e2;refine ⟨_,Y,_,Y,_,Y,_,Y,Y,_,Y,?_⟩;have dI:∀ u v:Int,decide (V.int u=V.int v)=decide (u=v):=λu v=>by
   by_cases z:u=v
   ·subst z; simp
   ·rw [decide_eq_false z,decide_eq_false (λy=>z (by injection y))]
  rw [dI];by_cases z:x / 3=(m:Int) / 3
  ·rw [decide_eq_true z] at k ⊢
   refine iteT ⟨_,Y,_,Y,Y,?_⟩;show Q (.bl (!decide (V.int x=V.int (m:Int)))) H;rw [dI];exact k
  ·rw [decide_eq_false z] at k ⊢
   exact iteF k
def Zi4:FnScope ["tent","word"] ["tent","word"] (Zh Zea):=Am
def Zji (T:Txt w K mg t):FnOk P w K mg base (CXr P w) 5 t.fo t.fw ["tent","word"] (Ziy t.aa):=by
  refine T.fB.F.aR Zi4 (λ_ _ _ _ H vs Q E hr h=>?_)
  · obtain ⟨p,a,M,ns,ws,rfl,ta,iq,ha,hl,k⟩:=h
    refine ⟨_,(Zd (Z2 (PW.pt (Ud (Wq (Kq (pv 1) (λ_=>rfl))) (Q4 (Wq (Wp (Zo (Zdf Y) (by rfl) T.fP PyProof.Rows.boot_all (Za (Yg (ts:=["place"]) (fv:=[("tent",0)]) ⟨rfl,by decide +kernel,by decide +kernel,Yc (by rfl),⟨⟨rfl,rfl,Or.inl rfl⟩,trivial⟩⟩ rfl (Yj (pv 1)) (λ_ _ _ _=>(Zn (i:=0) (show List.Nodup (["place","tent"]:List Str) from by decide +kernel) rfl (Or.inl rfl) (Or.inr rfl))) (λ_ _ _ _=>Yb) (λ_ _ _=>rfl) (λ_ _ _ _ _ _=>Ye (pcT (Zcq T) hr T.cJ (Za (pv 1) (Za (pv 0) Zb))))) Zb))))))) (Zg (Zq Wj)) Zv)
      (Zg (Zq (Zo (Zdf rfl) (by rfl) T.fP PyProof.Rows.boot_all (Za (Yg (ts:=["ahead","place"]) (fv:=[("tent",0)]) ⟨rfl,by decide +kernel,by decide +kernel,Yc (by rfl),⟨⟨rfl,rfl,Or.inl rfl⟩,trivial⟩⟩ rfl (Znd rfl T.fZ (Za (pv 1) (Za (pcT (F7 T) hr T.dh (Za (pv 1) (Za Ze Zb))) Zb))) (λ_ _ _ _=>(Zem (n:=2) K rfl (Zz (Zn (i:=0) (show List.Nodup (["ahead","place","tent"]:List Str) from by decide +kernel) rfl (Or.inl rfl) (Or.inr rfl)) (Zz (Zn (i:=1) (show List.Nodup (["ahead","place","tent"]:List Str) from by decide +kernel) rfl (Or.inl rfl) (Or.inr rfl)) Xv)))) (λ_ _ _ _=>Yb) (λ_ _ _=>rfl) (λ_ _ _ _ _ _=>Ye (pcT (Zfp T) hr T.dG (Za (pv 2) (Za (pv 0) (Za (pv 1) Zb)))))) Zb))))),?_⟩;refine Zk λnxC f9=>?_;refine ⟨_,Y,_,.inl ⟨_,SqL.of ha,Y⟩,?_⟩;by_cases iu:ws=[]
    · subst iu
      exact iteT (k _ (Same.refl _))
    · have e:(!(ws.map V.int).isEmpty)=true:=by cases ws with | nil=>exact absurd rfl iu | cons _ _=>rfl
      have e':(!ws.isEmpty)=true:=by cases ws with | nil=>exact absurd rfl iu | cons _ _=>rfl
      have hp:0 < ws.length:=by cases ws with | nil=>exact absurd rfl iu | cons _ _=>simp
      rw [e];refine iteF ?_;refine ⟨_,Y,a,Y,⟨_,SqL.of ha⟩,λD hD=>?_⟩;refine Yi (xs:=ws.map V.int) (λi σ H1=>∃ v,σ=[v,some (.ref p)]/\Same H H1/\H1 D=some (.lst (((ws.take i).map (Xx M)).map V.bl))) ⟨none,Y,Same.new hD,Zc⟩ ?_ ?_ ?_
      · rintro i σ H1 _ ⟨v,rfl,sm,h1⟩
        exact SqL.of (sm _ _ ha)
      · rintro i x σ H1 hx ⟨v,rfl,sm,h1⟩
        obtain ⟨y,hy,rfl⟩:=map_some hx;dsimp only [Zl,tYes];rw [if_pos rfl];refine ⟨_,Y,_,Y,p,M,ns,y,Y,ta.same sm,iq,_,h1,?_,_,Y,Same.add sm hD,?_⟩
        · rw [Ab,Ab,Ai,sizeLine_eq]; lia
        · rw [Zc,Aw,hy,Aj,Aj]; rfl
      rintro σ H1 ⟨v,rfl,s1,h1⟩;rw [Ab,List.take_length] at h1;refine ⟨D,_,Y,SqL.of h1,_,Y,?_⟩;by_cases hc:(ws.map (Xx M)).all id=true
      · rw [hc]
        refine iteF ?_;dsimp only [Xj];refine f9 _ _ ?_;refine ⟨_,Y,_,Y,a,ws,1,Y,s1 _ _ ha,hl,λtl H2 s2 htl h2=>?_⟩;have pf:=s1.trans s2;have et:Vc ws 1=rot ws (1 % ws.length):=by
          unfold Vc
          congr 1
        rw [et] at h2;have hrl:(rot ws (1 % ws.length)).length=ws.length:=Ow ws (Nat.le_of_lt (Nat.mod_lt _ hp));have hcr:∀ y∈ws,Xx M y=true:=λy hy=>List.all_eq_true.mp hc _ (List.mem_map.mpr ⟨y,hy,rfl⟩);have ep:Wr M ws=(Jf M ws (rot ws (1 % ws.length))).all id:=by unfold Wr; rw [e',hc]; rfl
        have k':=λH' s'=>k H' s';rw [ep] at k';generalize rot ws (1 % ws.length)=vs at h2 hrl k';refine ⟨a,tl,_,_,Y,SqL.of (pf _ _ ha),SqL.of h2,λD2 kj=>?_⟩;refine Zjr (xs:=ws.map V.int) (ys:=vs.map V.int) (by rw [Ab,Ab,hrl]) (λi σ H3=>∃ v v',σ=[v,v',some (.ref p)]/\Same H2 H3/\H3 D2=some (.lst (((Jf M ws vs).take i).map V.bl))) ⟨none,none,Y,Same.new kj,Zc⟩ ?_ ?_ ?_
        · rintro i σ H3 _ ⟨v,v',rfl,s3,h3⟩
          exact ⟨SqL.of (s3 _ _ (pf _ _ ha)),SqL.of (s3 _ _ h2)⟩
        · rintro i x y σ H3 q hx hy hq ⟨v,v',rfl,s3,h3⟩
          obtain ⟨x',jy,rfl⟩:=map_some hx;obtain ⟨y',jt,rfl⟩:=map_some hy;have s4:Same H3 (upd H3 q (.tup [V.int x',V.int y'])):=Same.new hq;refine ⟨q,_,Y,SqT.of Zc,Y,_,_,Y,_,_,Y,Y,?_⟩;dsimp only [tYes];rw [if_pos rfl];refine ⟨_,Y,_,Y,_,Y,p,M,ns,x',y',Y,((ta.same pf).same s3).same s4,iq,hcr x' (Au jy),_,s4 _ _ h3,?_,_,_,Y,Same.add (s3.trans s4) kj,?_⟩
          · rw [Ab,Ai]
            have:(Jf M ws vs).length<=ws.length:=by unfold Jf; rw [Ab,List.length_zip]; lia
            rw [sizeLine_eq]; lia
          · have:(Jf M ws vs)[i]?=some (Wn M x' y'):=by
              unfold Jf;rw [Ah,List.getElem?_zip_eq_some (z:=(x',y')) |>.mpr ⟨jy,jt⟩];rfl
            rw [Zc,Aw,this,Aj];rfl
        rintro σ H3 ⟨v,v',rfl,s3,h3⟩;have ip:(Jf M ws vs).length=ws.length:=by unfold Jf; rw [Ab,List.length_zip]; lia
        rw [Ab,List.take_of_length_le (Nat.le_of_eq ip)] at h3;exact ⟨D2,_,Y,SqL.of h3,k' _ (pf.trans s3)⟩
      · have hc:(ws.map (Xx M)).all id=false:=by rw [Bool.eq_false_iff]; exact hc
        rw [hc];have ep:Wr M ws=false:=by unfold Wr; rw [hc]; simp
        have:=k _ s1;rw [ep] at this;exact iteT this
def Fg:FnScope ["tent","word"] ["tent","word"] (Zh Us):=Am
def Fq (T:Txt w K mg t):FnOk P w K mg base (CXr P w) 6 t.bE t.bJ ["tent","word"] (Fc t.aa t.bP):=by
 refine T.bO.F.aX Fg (λ_ _ _ _ H vs Q E hr h=>?_)
 ·obtain ⟨p,a,M,ns,ws,rfl,ta,iq,ha,hl,k⟩:=h
  refine ⟨_,(Z7 (Q5 (Wq (Wp (pcT (Zji T) hr T.fB (Za (pv 0) (Za (pv 1) Zb))))) (Z7 (We T.fj FBV Y T.fg Y (Za Yf Zb))) W4)),?_⟩;refine ⟨_,Y,_,Y,p,a,M,ns,ws,Y,ta,iq,ha,hl,λH' s'=>⟨_,Y,?_⟩⟩;obtain ⟨k1,k2⟩:=k H' s'
  cases e:Wr M ws with
  | true=>exact iteF (k1 e)
  | false=>exact iteT ⟨by decide,k2 e⟩
def Zki (ws:List Nat):ws.map nV=(wI ws).map V.int:=by rw [List.map_map]; rfl
def Za8 (ws:List Nat):(wI ws).length=ws.length:=by simp
def W0 (M:List (Option Nat)) (ws:List Nat):List Nat:=ws.reverse.map λp=>(M.getD p none).getD 0
def Qc (M:List (Option Nat)) (ws:List Nat):(W0 M ws).length=ws.length:=by unfold W0; simp
def Zin {M:List (Option Nat)} {ws:List Nat} {i:Nat} (h:ws.reverse[i]?=some p) (hm:M[p]?=some (some m)):(W0 M ws)[i]?=some m:=by
 unfold W0;rw [Ah,h];show some ((M.getD p none).getD 0)=some m;rw [Ad,hm];rfl
def Zdo (C:Addr):Sp:=λvs H Q _=>∃ (p a:Addr) (M:List (Option Nat)) (ns:List Int) (ws:List Nat),vs=[.ref p,.ref a]/\Zu C H p M ns/\M.length=ns.length/\H a=some (.lst (ws.map nV))/\ws.length<=10000/\Pl M ws/\∀ (l:Addr) (H':Hp),Same H H'->H l=none->H' l=some (.lst ((W0 M ws).map nV))->Q (.ref l) H'
def Zdr:FnScope ["tent","word"] ["tent","word"] (Zh Ge):=Am
def Zdy (T:Txt w K mg t):FnOk P w K mg base (CXr P w) 7 t.cT t.c7 ["tent","word"] (Zdo t.aa):=by
 refine T.dg.F.aX Zdr (λ_ _ _ _ H vs Q E hr h=>?_)
 ·obtain ⟨p,a,M,ns,ws,rfl,ta,iq,ha,hl,hP,k⟩:=h
  refine ⟨_,(Z3 (Wf (pxT (Fq T) hr T.bO (Za (pv 0) (Za (pv 1) Zb))))
   (Z7 (Y6 (Zq (Yg (ts:=["place"]) (fv:=[("tent",0)]) ⟨rfl,by decide +kernel,by decide +kernel,Yc (by rfl),⟨⟨rfl,rfl,Or.inl rfl⟩,trivial⟩⟩ rfl (Zne rfl T.dn (Za (pv 1) Zb)) (λ_ _ _ _=>(Zn (i:=0) (show List.Nodup (["place","tent"]:List Str) from by decide +kernel) rfl (Or.inl rfl) (Or.inr rfl))) (λ_ _ _ _=>Yb) (λ_ _ _=>rfl) (λ_ _ _ _ _ _=>Ye (Xh (pv 1) T.ac T.aj.m (Ji T) (hr.mono (by decide)) T.aj.b .nil Yr (Za (pv 0) Zb)))))))),?_⟩;refine ⟨_,Y,_,Y,p,a,M,ns,wI ws,Y,ta,iq,by rw [ha,Zki],by rw [Za8]; lia,λH1 s1=>⟨λ_=>?_,λz=>absurd ((Zg7.mpr hP).symm.trans z) (by decide)⟩⟩;refine ⟨_,Y,a,_,Y,SqL.of (s1 _ _ ha),λD hD=>?_⟩;refine Zjs (xs:=ws.map nV) (λi σ H2=>∃ v,σ=[v,some (.ref p)]/\Same H1 H2/\H2 D=some (.lst (((W0 M ws).take i).map nV))) ⟨none,Y,Same.new hD,Zc⟩ ?_ ?_ ?_
  ·rintro i σ H2 _ ⟨v,rfl,sm,h2⟩
   exact SqL.of (sm _ _ (s1 _ _ ha))
  ·rintro i x σ H2 hx ⟨v,rfl,sm,h2⟩
   obtain ⟨q,hq,rfl⟩:∃ q,ws.reverse[i]?=some q/\x=nV q:=by
    rw [<- List.map_reverse,Ah] at hx
    cases e:ws.reverse[i]? with
    | none=>rw [e] at hx; cases hx
    | some y=>rw [e] at hx; cases hx; exact ⟨y,Y,Y⟩
   obtain ⟨mt,hmt⟩:=hP.has q (List.mem_reverse.mp (Au hq));have k7:=(ta.same s1).same sm;obtain ⟨dx,cl,na,sp,mt',o,f,b⟩:=id k7;have hqM:q < M.length:=(Aa hmt).1;dsimp only [Zl,tYes];rw [if_pos rfl];refine ⟨_,Y,p,dx,_,Y,b.ins,Yd _ _ _ _,_,Y,p,M,ns,q,Y,k7,iq,λi' y e1 e2=>?_,λz=>absurd (show (0:Int)<=q/\(q:Int) < ns.length by lia) z⟩;have:i'=q:=by lia
   subst this;rw [hmt] at e2;cases e2;refine ⟨_,h2,?_,_,Y,Same.add sm hD,?_⟩
   ·rw [Ab,Ai,Qc]; exact K4 (by lia)
   ·rw [Zc,Aw,Zin hq hmt,Aj]; rfl
  ·rintro σ H2 ⟨v,rfl,sm,h2⟩
   rw [Ab,List.take_of_length_le (by rw [Qc]; exact An _)] at h2;exact k D H2 (s1.trans sm) (s1.free hD) h2
def Zmm (ws:List Nat) (b:Nat):rot (wI ws) b=wI (rot ws b):=by
 unfold rot wI; rw [Aj,List.map_drop,List.map_take]
def Qz (M:List (Option Nat)) (ws:List Nat) (x:List Int):Prop:=∃ b,b < ws.length/\(x=wI (rot ws b)\/x=wI (rot (W0 M ws) b))
def Zit (ws:List Nat) (h:b < ws.length):Vc (wI ws) (b:Int)=wI (rot ws b):=by
 unfold Vc;rw [Za8,show ((b:Int) % (ws.length:Int)).toNat=b by rw [<- Int.natCast_emod,Nat.mod_eq_of_lt h,Int.toNat_natCast],Zmm]
def Zfw {p q:Addr} (h:HT.IsLeast S a):HT.IsLeast (λx=>S x\/x=b) (if HT.lexLt b a=true then b else a):=by
 by_cases z:HT.lexLt b a=true
 ·rw [if_pos z]
  refine ⟨.inr Y,λc hc=>?_⟩
  rcases hc with hc | rfl
  ·cases e:HT.lexLt c b with
   | false=>rfl
   | true=>rw [<- HT.lex_trans c b a e z]; exact (h.2 c hc)
  ·exact HT.lex_irr _
 ·rw [if_neg z]
  refine ⟨.inl h.1,λc hc=>?_⟩
  rcases hc with hc | rfl
  ·exact h.2 c hc
  ·simpa using z
def Zaq:Sp:=λvs H Q _=>∃ (a:Addr) (ws:List Nat),vs=[.ref a]/\H a=some (.lst (ws.map nV))/\0 < ws.length/\ws.length<=10000/\∀ (l:Addr) (L:List Int) (H':Hp),Same H H'->H l=none->H' l=some (.lst (L.map V.int))->HT.IsLeast (λx=>∃ b,b < ws.length/\x=wI (rot ws b)) L->Q (.ref l) H'
def Zi0 (C:Addr):Sp:=λvs H Q _=>∃ (p a:Addr) (M:List (Option Nat)) (ns:List Int) (ws:List Nat),vs=[.ref p,.ref a]/\Zu C H p M ns/\M.length=ns.length/\H a=some (.lst (ws.map nV))/\ws.length<=10000/\Pl M ws/\∀ (l:Addr) (L:List Int) (H':Hp),Same H H'->H l=none->H' l=some (.lst (L.map V.int))->HT.IsLeast (Qz M ws) L->Q (.ref l) H'
def Zjv (h:HT.IsLeast S a) (g:HT.IsLeast T b):HT.IsLeast (λx=>S x\/T x) (if HT.lexLt b a=true then b else a):=by
 by_cases z:HT.lexLt b a=true
 ·rw [if_pos z]
  refine ⟨.inr g.1,λc hc=>?_⟩
  rcases hc with hc | hc
  ·cases e:HT.lexLt c b with
   | false=>rfl
   | true=>rw [<- HT.lex_trans c b a e z]; exact (h.2 c hc)
  ·exact g.2 c hc
 ·have z:HT.lexLt b a=false:=by simpa using z
  rw [if_neg (by rw [z]; decide)];refine ⟨.inl h.1,λc hc=>?_⟩
  rcases hc with hc | hc
  ·exact h.2 c hc
  ·exact HT.lex_le z (g.2 c hc)
def IsLeast.iff (h:HT.IsLeast S a) (e:∀ x,S x ↔ T x):HT.IsLeast T a:=⟨(e a).mp h.1,λb hb=>h.2 b ((e b).mpr hb)⟩
def Zcf {H:Hp} {a b:List Int} {c:Bool} (h1:H p=some (.lst (a.map V.int))) (h2:H q=some (.lst (b.map V.int))):H (if c=true then q else p)=some (.lst ((if c=true then b else a).map V.int)):=by
 cases c <;> assumption
def F6 {H:Hp} {c:Bool} (h1:H p=none) (h2:H q=none):H (if c=true then q else p)=none:=by
 cases c <;> assumption
def Zir (M:List (Option Nat)) (ws:List Nat) (x:List Int):((∃ b,b < ws.length/\x=wI (rot ws b))\/∃ b,b < (W0 M ws).length/\x=wI (rot (W0 M ws) b)) ↔ Qz M ws x:=by
 rw [Qc];constructor
 ·rintro (⟨b,h,e⟩ | ⟨b,h,e⟩)
  ·exact ⟨b,h,.inl e⟩
  ·exact ⟨b,h,.inr e⟩
 ·rintro ⟨b,h,e | e⟩
  ·exact .inl ⟨b,h,e⟩
  ·exact .inr ⟨b,h,e⟩
def Zkh {ws:List Nat}:ws.map nV=(wI ws).map V.int:=Zki ws
def Wv:FnScope ["word","best","by"] ["word"] (Zh U9):=Am
def Ux (T:Txt w K mg t):FnOk P w K mg base (CXr P w) 2 t.bS t.bX ["word"] Zaq:=by
 refine T.aZ.F.aR Wv (λ_ _ _ _ H vs Q E hr h=>?_)
 ·obtain ⟨a,ws,rfl,ha,h0,hl,k⟩:=h
  refine ⟨_,(Zd (Zp (i:=1) Wv.nd Y (Or.inl Y) (X1 Wh (by rfl) T.ba PySem.Pv.boot_list (Za (pv 0) Zb)))
   (Zd (Y0 PassesOwn.never rfl (Zhb rfl T.ak (Za Ze (Za (Zo Zm (by rfl) T.ad PySem.boot_len (Za (pv 0) Zb)) Zb))) (Zn (i:=2) Wv.nd rfl (Or.inl rfl)) (Zg (Zp (i:=1) Wv.nd rfl (Or.inl rfl) (Zo (G7 rfl hr.units) (by rfl) T.fS PyProof.Rows.boot_min (Za (pv 1) (Za (pcT (F7 T) hr T.dh (Za (pv 0) (Za (pv 2) Zb))) Zb))))))
   (Zg (Zq (pv 1))))),?_⟩;refine Zk λnxC f9=>?_;refine ⟨_,Y,a,_,Y,.inl (SqL.of ha),λl jc=>?_⟩;refine f9 _ _ ?_;dsimp only [Zl];have s1:Same H (upd H l (.lst (ws.map nV))):=Same.new jc;have h1:(upd H l (.lst (ws.map nV))) l=some (.lst ((wI ws).map V.int)):=by rw [Zc,Zkh]
  generalize upd H l (.lst (ws.map nV))=H1 at s1 h1 ⊢;show tSeq (tFor _ _ _) _ _ _ _;refine Z6 (λσ H2=>∃ (p:Addr) (L:List Int) (v:Option V),σ=[some (.ref a),some (.ref p),v]/\Same H H2/\H p=none/\H2 p=some (.lst (L.map V.int))/\HT.IsLeast (λx=>∃ b,b < ws.length/\x=wI (rot ws b)) L) (λnx ig=>?_) ?_
  ·refine ⟨_,Y,a,_,Y,.inl (SqL.of (s1 _ _ ha)),_,_,Y,⟨by decide,by decide,by rw [Ab]; lia,by rw [Ab]; lia⟩,?_⟩
   rw [Ab];refine X2 (n:=((ws.length:Int) - 1).toNat) (λi σ H2=>∃ (p:Addr) (L:List Int) (v:Option V),σ=[some (.ref a),some (.ref p),v]/\Same H H2/\H p=none/\H2 p=some (.lst (L.map V.int))/\HT.IsLeast (λx=>∃ b,b < 1 + i/\x=wI (rot ws b)) L)
    ⟨l,wI ws,none,rfl,s1,jc,h1,⟨0,by lia,by rw [Zb8]⟩,λc ⟨b,hb,e⟩=>?_⟩ ?_ ?_
   ·have:b=0:=by lia
    subst this;rw [e,Zb8];exact HT.lex_irr _
   ·rintro i σ H2 hi ⟨p,L,v,rfl,s2,hp,h2,m2⟩
    dsimp only [Zl];rw [show ((1:Int) + (i:Int))=((1 + i:Nat):Int) by lia];have hb:1 + i < ws.length:=by lia
    refine ⟨_,Y,_,Y,_,Y,a,wI ws,_,Y,by rw [s2 _ _ ha,Zkh],by rw [Za8]; lia,λq H3 s3 hq h3=>?_⟩;rw [Zit ws hb] at h3;refine ⟨p,q,L,_,Y,SqL.of (s3 _ _ h2),SqL.of h3,?_⟩;refine ⟨_,_,_,Y,s2.trans s3,F6 hp (s2.free hq),Zcf (s3 _ _ h2) h3,?_⟩;refine IsLeast.iff (Zfw (p:=p) (q:=q) m2) λx=>?_;constructor
    ·rintro (⟨b,g,e⟩ | rfl)
     ·exact ⟨b,by lia,e⟩
     ·exact ⟨1 + i,by lia,Y⟩
    ·rintro ⟨b,g,e⟩
     by_cases z:b=1 + i
     ·subst z; exact .inr e
     ·exact .inl ⟨b,by lia,e⟩
   ·rintro σ H2 ⟨p,L,v,rfl,s2,hp,h2,m2⟩
    refine ig _ _ ⟨p,L,v,Y,s2,hp,h2,IsLeast.iff m2 λx=>?_⟩;refine ⟨λzz35=>?_,λ⟨b,g,e⟩=>⟨b,by lia,e⟩⟩;obtain ⟨b,g,e⟩:=zz35;exact ⟨b,by lia,e⟩
  ·rintro σ H2 ⟨p,L,v,rfl,s2,hp,h2,m2⟩
   exact ⟨_,Y,k p L H2 s2 hp h2 m2⟩
def Zbm:FnScope ["tent","word","back"] ["tent","word"] (Zh Zeb):=Am
def Zjj (T:Txt w K mg t):FnOk P w K mg base (CXr P w) 8 t.fq t.fy ["tent","word"] (Zi0 t.aa):=by
 refine T.fC.F.aX Zbm (λ_ _ _ _ H vs Q E hr h=>?_)
 ·obtain ⟨p,a,M,ns,ws,rfl,ta,iq,ha,hl,hP,k⟩:=h
  have hw0:0 < ws.length:=by have:=hP.ne; cases ws with | nil=>exact absurd rfl this | cons _ _=>simp
  refine ⟨_,(Z3 (Vx (i:=2) Zbm.nd Y (Or.inl Y) (pxT (Zdy T) hr T.dg (Za (pv 0) (Za (pv 1) Zb))))
   (Z7 (Y6 (Zq (Zo (G7 rfl hr.units) (by rfl) T.fS PyProof.Rows.boot_min (Za (pcT (Ux T) hr T.aZ (Za (pv 1) Zb)) (Za (pcT (Ux T) hr T.aZ (Za (pv 2) Zb)) Zb))))))),?_⟩;refine ⟨_,Y,_,Y,p,a,M,ns,ws,Y,ta,iq,ha,hl,hP,λb H1 s1 hb h1=>?_⟩;refine ⟨_,Y,a,ws,Y,s1 _ _ ha,hw0,hl,λl2 L2 H2 s2 iw h2 m2=>?_⟩;refine ⟨_,Y,b,W0 M ws,Y,s2 _ _ h1,by rw [Qc]; exact hw0,by rw [Qc]; exact hl,λl3 L3 H3 s3 hl3 h3 m3=>?_⟩;refine ⟨l2,l3,L2,L3,Y,SqL.of (s3 _ _ h2),SqL.of h3,?_⟩;have kh:=s1.trans (s2.trans s3);exact k _ _ H3 kh (F6 (s1.free iw) (s1.free (s2.free hl3))) (Zcf (s3 _ _ h2) h3) (IsLeast.iff (Zjv m2 m3) (Zir M ws))
def dI (ks:List Int) (f:Int->Int):List (Key × V):=ks.map λx=>((Sum.inl x:Key),V.int (f x))
def Zig (h:y∈ks):valV (dI ks f) (Sum.inl y)=some (V.int (f y)):=by unfold dI; rw [Jm,if_pos h]
def Zih (h:y∈ks):putK (dI ks f) (Sum.inl y) (V.int v)=dI ks λx=>if x=y then v else f x:=by
 unfold dI;rw [Zlj h];apply List.map_congr_left;intro x _;by_cases c:x=y
 ·simp [c]
 ·simp [c]
def Zn4 (h:y ∉ ks):putK (dI ks f) (Sum.inl y) (V.int v)=dI (ks ++ [y]) λx=>if x=y then v else f x:=by
 unfold dI;rw [Zeh h,Aj];congr 1
 ·apply List.map_congr_left
  intro x hx;have:x≠y:=λz=>h (z ▸ hx);simp [this]
 ·simp
def Zc9 {ks:List Int}:(dI ks f).length=ks.length:=by unfold dI; simp
def rowI (n:Nat) (f:Nat->Int):List V:=(List.range n).map λp=>V.int (f p)
def Ya (n:Nat) (f:Nat->Int):(rowI n f).length=n:=by unfold rowI; simp
def Y9 (h:p < n):(rowI n f)[p]?=some (V.int (f p)):=by unfold rowI; rw [Ah,List.getElem?_range h]; rfl
def Uc:(rowI n f).set p (V.int v)=rowI n λq=>if q=p then v else f q:=by
 apply List.ext_getElem?;intro i;by_cases hi:i < n
 ·rw [Y9 hi,List.getElem?_set,Ya]
  by_cases c:p=i
  ·subst c; simp [hi]
  ·rw [if_neg c,Y9 hi,if_neg (λz=>c z.symm)]
 ·rw [Ay (by rw [List.length_set,Ya]; lia),Ay (by rw [Ya]; lia)]
def Gg (h:∀ p,f p=g p):rowI n f=rowI n g:=by unfold rowI; exact List.map_congr_left λp _=>by rw [h p]
def Ziz:Sp:=λvs H Q _=>∃ (r c:Addr) (ns:List Int) (f:Nat->Int),vs=[.ref r,.ref c]/\Yo H r ns/\ns.length<=1000/\H c=some (.lst (rowI ns.length f)) /\
 ∀ (l:Addr) (g:Int->Int) (H':Hp),Same H H'->H l=none->H' l=some (.dK (dI (keys ns ns.length) g))->(∀ x∈keys ns ns.length,∃ p,ns[p]?=some x/\g x=f p)->Q (.ref l) H'
theorem V4 (ns:List Int):∀ n,(keys ns n).length<=n
 | 0=>An _
 | n + 1=>by
  have ih:=V4 ns n
  cases h:ns[n]? with
  | none =>
   have:keys ns (n + 1)=keys ns n:=by
    show (match ns[n]? with | some x=>if x∈keys ns n then keys ns n else keys ns n ++ [x] | none=>keys ns n)=_;rw [h]
   rw [this]; lia
  | some x =>
   rw [Xp h];split
   ·lia
   ·rw [Ae,At]; lia
def Ub:FnScope ["_law_rows_here","_law_counts","_law_due","_law_p"] ["_law_rows_here","_law_counts"] (Zh F3):=Am
def Qm (T:Txt w K mg t):FnOk P w K mg base (CXr P w) 1 t.dt t.dC ["_law_rows_here","_law_counts"] Ziz:=by
 refine T.aW.F.aR Ub (λ_ _ _ _ H vs Q E hr h=>?_)
 ·obtain ⟨r,c,ns,f,rfl,jz,hl,hc,k⟩:=h
  have hu:=J3 hr;refine ⟨_,(Zd (Zp (i:=2) Ub.nd Y (Or.inl Y) Zcj)
   (Zd (Y0 PassesOwn.never rfl (Y1 rfl T.ak (Za (Zo Zm (by rfl) T.ad PySem.boot_len (Za (pv 1) Zb)) Zb)) (Zn (i:=3) Ub.nd rfl (Or.inl rfl)) (Zg (Zek hu (pv 2) (Zw Op (Zw Zt (pv 0) (Zi Yt (pv 3) Ze) (λ_ _=>rfl)) (Zi Z0 (pv 3) Ze) (λ_ _=>rfl)) (Zw Zt (pv 1) (pv 3) (λ_ _=>rfl)) rfl)))
   (Zg (Zq (pv 2))))),?_⟩
  intro d hd;have s1:Same H (upd H d (.dK [])):=Same.new hd;dsimp only [Zl];show tSeq (tFor _ _ _) _ _ _ _;refine Z6 (λσ H'=>∃ (g:Int->Int) (v:Option V),σ=[some (.ref r),some (.ref c),some (.ref d),v]/\Same H H'/\H' d=some (.dK (dI (keys ns ns.length) g))/\∀ x∈keys ns ns.length,∃ p,ns[p]?=some x/\g x=f p) (λnx ig=>?_) ?_
  ·refine ⟨_,Y,c,_,Y,.inl (SqL.of (s1 _ _ hc)),_,Y,by rw [Ya]; lia,by rw [Ya]; lia,?_⟩
   have eL:((((rowI ns.length f).length:Nat):Int)).toNat=ns.length:=by rw [Ya,Int.toNat_natCast]
   rw [eL];refine X2 (n:=ns.length) (λi σ H'=>∃ (g:Int->Int) (v:Option V),σ=[some (.ref r),some (.ref c),some (.ref d),v]/\Same H H'/\H' d=some (.dK (dI (keys ns i) g))/\∀ x∈keys ns i,∃ p,ns[p]?=some x/\g x=f p) ⟨λ_=>0,_,Y,s1,Zc,λx hx=>by simp [keys] at hx⟩ ?_ ?_
   ·rintro i σ H' hi ⟨g,v,rfl,s2,lu,hg⟩
    dsimp only [Zl];rw [Int.zero_add];obtain ⟨y,hy⟩:∃ y,ns[i]?=some y:=⟨_,Ac hi⟩;obtain ⟨ts',q,e1,e2,e3,e4⟩:=Zm6 (jz.same s2) hy;have ki:=s2 _ _ hc;refine ⟨_,Y,_,Y,c,_,_,_,Y,Y,SqL.of ki,Yu (Y9 hi),_,Y,?_⟩;refine ⟨_,Y,_,Y,_,_,Y,Y,⟨by decide,by decide⟩,r,_,_,_,Y,Y,SqL.of e1,(by rw [div3]; exact Yh e2),_,Y,_,_,Y,Y,(by show (0:Int) < 3; decide),q,_,_,_,rfl,rfl,SqT.of e3,(by rw [mod3]; exact Yu e4),?_⟩;refine ⟨d,_,Y,DPut.k (k:=Sum.inl y) lu (by rw [Zc9]; exact Zx (by have:=V4 ns i; lia)),?_⟩;refine ⟨λx=>if x=y then f i else g x,_,Y,Same.add s2 hd,?_,?_⟩
    ·rw [Zc,Xp hy]
     by_cases z:y∈keys ns i
     ·rw [if_pos z,Zih z]
     ·rw [if_neg z,Zn4 z]
    ·intro x hx
     by_cases z:x=y
     ·subst z
      exact ⟨i,hy,if_pos Y⟩
     ·have:x∈keys ns i:=by
       rw [Xp hy] at hx;split at hx
       ·exact hx
       ·rcases List.mem_append.mp hx with q' | q'
        ·exact q'
        ·exact absurd (Af q') z
      obtain ⟨p,h1,h2⟩:=hg x this;exact ⟨p,h1,by show (if x=y then f i else g x)=f p; rw [if_neg z]; exact h2⟩
   ·rintro σ H' ⟨g,v,rfl,s2,lu,hg⟩
    exact ig _ _ ⟨g,v,Y,s2,lu,hg⟩
  ·rintro σ H' ⟨g,v,rfl,s2,lu,hg⟩
   exact ⟨_,Y,k d g H' s2 hd lu hg⟩
structure OkC (M:List (Option Nat)) (ns:List Int) (g:Int->Int):Prop where
 nn:∀ x∈keys ns ns.length,0<=g x
 rim:∀ (i:Nat) (x:Int),M[i]?=some none->ns[i]?=some x->g x=0
 even:∀ k,3 * k + 2 < ns.length->(g (ns.getD (3 * k) 0) + g (ns.getD (3 * k + 1) 0) + g (ns.getD (3 * k + 2) 0)) % 2=0
 tri:∀ k,3 * k + 2 < ns.length->g (ns.getD (3 * k) 0)<=g (ns.getD (3 * k + 1) 0) + g (ns.getD (3 * k + 2) 0)/\g (ns.getD (3 * k + 1) 0)<=g (ns.getD (3 * k) 0) + g (ns.getD (3 * k + 2) 0)/\g (ns.getD (3 * k + 2) 0)<=g (ns.getD (3 * k) 0) + g (ns.getD (3 * k + 1) 0)
def Zo6 (H H':Hp):Prop:=∀ b u,(∀ kvs,u≠.dK kvs)->H b=some u->H' b=some u
def Zu.sameD (h:Zu C H p M ns) (s:Zo6 H H'):Zu C H' p M ns:=by
 obtain ⟨dx,cl,na,sp,mt,o,f,b⟩:=h;obtain ⟨ts,r1,r2,r3⟩:=b.rows;exact ⟨dx,cl,na,sp,mt,o,f,s _ _ (λ_ z=>nomatch z) b.ins,⟨ts,s _ _ (λ_ z=>nomatch z) r1,r2,λk t e=>s _ _ (λ_ z=>nomatch z) (r3 k t e)⟩,s _ _ (λ_ z=>nomatch z) b.names,s _ _ (λ_ z=>nomatch z) b.spots,s _ _ (λ_ z=>nomatch z) b.mates,λx hx=>s _ _ (λ_ z=>nomatch z) (b.at' x hx)⟩
def Y4 (H:Hp) (c:Addr) (ns:List Int) (g:Int->Int):Prop:=∃ ks:List Int,H c=some (.dK (dI ks g))/\ks.Perm (keys ns ns.length)
def Y4.same (h:Y4 H c ns g) (s:Same H H'):Y4 H' c ns g:=by
 obtain ⟨ks,h1,h2⟩:=h;exact ⟨ks,s _ _ h1,h2⟩
def Zm9 {M:List (Option Nat)} {ns:List Int} (td:TD M ns) (hx:x∈keys ns ns.length) (h:Z5 ns x="rim"):∃ a:Nat,M[a]?=some none/\ns[a]?=some x:=by
 rcases Qj td hx with ⟨_,a,e,ma⟩ | ⟨e,_⟩ | ⟨e,_⟩
 ·refine ⟨a,ma,?_⟩
  have:a∈pl ns ns.length x:=by rw [e]; exact List.mem_singleton.mpr Y
  unfold pl at this;exact of_decide_eq_true (List.mem_filter.mp this).2
 ·rw [h] at e; exact absurd e (by decide)
 ·rw [h] at e; exact absurd e (by decide)
def g3 (ns:List Int) (g:Int->Int) (k:Nat):List Int:=[g (ns.getD (3 * k) 0),g (ns.getD (3 * k + 1) 0),g (ns.getD (3 * k + 2) 0)]
def Oo {ns:List Int} (h:i < ns.length):ns.getD i 0∈keys ns ns.length:=by
 have e:ns[i]?=some (ns.getD i 0):=by rw [Ad,Ac h]; rfl
 exact Yk.mpr ⟨i,h,e⟩
def Zo3 {ns:List Int} {j:Nat} (h:(row3 ns i)[j]?=some x):∃ z,(3 * i + 2 < ns.length->z∈keys ns ns.length)/\x=V.int z/\(g3 ns g i)[j]?=some (g z):=by
 match j,h with
 | 0,h=>cases h; exact ⟨_,λh=>Oo (by lia),Y,Y⟩
 | 1,h=>cases h; exact ⟨_,λh=>Oo (by lia),Y,Y⟩
 | 2,h=>cases h; exact ⟨_,λh=>Oo h,Y,Y⟩
 | j + 3,h=>simp [row3] at h
def Zh7 {us:List Addr} (h:some (HO.lst (us.map V.ref))=some (HO.lst ((g3 ns g k).map V.int))):False:=by
 injection h with h
 injection h with h
 cases us with
 | nil=>cases h
 | cons a r=>injection h with h _; cases h
def V8 (h:H c=some (.dK (dI ks g))) (hz:z∈ks):DGet H c (.int z) (some (.int (g z))):=.inl ⟨_,Sum.inl z,.inl h,rfl,(Zig hz).symm⟩
def Zap (n:Nat):(List.replicate n false).any id=false:=by
 induction n with
 | zero=>rfl
 | succ n ih=>rw [List.replicate_succ,List.any_cons,ih]; rfl
structure OkN (M:List (Option Nat)) (ns:List Int) (g:Int->Int):Prop where
 nn:∀ x∈keys ns ns.length,0<=g x
 rim:∀ (i:Nat) (x:Int),M[i]?=some none->ns[i]?=some x->g x=0
def Zdm (C:Addr):Sp:=λvs H Q _=>∃ (p c:Addr) (M:List (Option Nat)) (ns:List Int) (g:Int->Int),vs=[.ref p,.ref c]/\Zu C H p M ns/\TD M ns/\ns.length < 64/\Y4 H c ns g/\OkN M ns g/\∀ H',Same H H'->Q .non H'
def K0 (C:Addr):Sp:=λvs H Q _=>∃ (p c:Addr) (M:List (Option Nat)) (ns:List Int) (g:Int->Int),vs=[.ref p,.ref c]/\Zu C H p M ns/\TD M ns/\ns.length < 64/\Y4 H c ns g/\OkC M ns g/\∀ H',Same H H'->Q .non H'
def Jc:FnScope ["tent","counts","seam","number"] ["tent","counts"] (Zh Vs):=Am
def Gp (T:Txt w K mg t):FnOk P w K mg base (CXr P w) 3 t.bq t.bx ["tent","counts"] (Zdm t.aa):=by
 refine T.bC.F.aR Jc (λ_ _ _ _ H vs Q E hr h=>?_)
 ·obtain ⟨p,c,M,ns,g,rfl,ta,td,jm,⟨ks,hc,gq⟩,ok,k⟩:=h
  refine ⟨_,(Zd (Z2 (Zr (Znj hr.units) (Zo (Os Y) (by rfl) T.dq PyProof.Rows.boot_sorted (Za (pv 1) Zb)) (Jt (pv 0) T.ac T.av.m (Uy T) (hr.mono (by decide)) T.av.b .nil Yr) (Zs _)) Yz Zv)
   (Zg (Zlm (Y0 PassesOwn.never rfl (Zcg (pv 1) ⟨rfl,rfl,rfl⟩) (J7 rfl (Zz (Zn (i:=2) Jc.nd rfl (Or.inl rfl)) (Zz (Zn (i:=3) Jc.nd rfl (Or.inl rfl)) Xv))) (Zd (Z2 (Zr Ql (pv 3) Ze (Zs _)) Yz Zv)
   (Zg (Z2 (PW.pt (Gi (Zr Wx (pv 3) Ze (Zs _)) (Ox (Zr Yw (Xh (pv 0) T.ac T.af.m (Jg T) (hr.mono (by decide)) T.af.b .nil Yr (Za (pv 2) Zb)) Yf (Zs _))))) Yz Zv))))))),?_⟩;refine Zk λnxC f9=>?_;have l9:ks.length < 64:=by have h1:=gq.length_eq; have h2:=V4 ns ns.length; lia
  refine ⟨_,Y,c,_,ks,Y,.inl hc,(by unfold dI; rw [List.map_map]; rfl),l9,λl1 ml jc pm1 ue=>?_⟩;have s1:Same H (upd H l1 (.lst (ml.map V.int))):=Same.new jc;have kg:=ta.same s1;obtain ⟨dx,cl,na,sp,mt,o,f,B⟩:=id kg;refine ⟨_,Y,p,dx,_,Y,B.ins,Yd _ _ _ _,p,M,ns,Y,kg,jm,λl2 xg iw pm2 ii=>?_⟩;have s2:Same (upd H l1 (.lst (ml.map V.int))) (upd (upd H l1 (.lst (ml.map V.int))) l2 (.lst (xg.map V.int))):=Same.new iw;refine ⟨l1,l2,ml,xg,Y,Y,SqL.of (s2 _ _ Zc),SqL.of Zc,_,Y,?_⟩;obtain rfl:=Zgp (pm1.trans gq) pm2 ue ii;rw [decide_eq_true rfl];refine iteF ?_;have oq:=s1.trans s2;generalize upd (upd H l1 (.lst (ml.map V.int))) l2 (.lst (ml.map V.int))=H2 at oq ⊢;clear B kg s1 s2 pm1 ue pm2 ii jc iw
  try dsimp only [Xj]
  refine f9 _ _ ?_;have ki:=oq _ _ hc;have k7:=ta.same oq;refine ⟨_,Y,c,_,Y,.inl ⟨ki,λo=>?_⟩⟩;refine Zae (λi σ H9=>∃ v2 v3:Option V,σ=[some (.ref p),some (.ref c),v2,v3]/\(∀ b u,b≠c->H2 b=some u->H9 b=some u)/\H9 c=some (.frz o (.dK (dI ks g)))) ⟨none,none,Y,λb u hb e=>by rw [Zf hb]; exact e,Zc⟩ ?_ ?_ ?_
  ·rintro i σ H9 _ ⟨v2,v3,rfl,_,e⟩
   exact e
  ·rintro i k0 x0 σ H9 q md hq ⟨v2,v3,rfl,s9,h9⟩
   obtain ⟨y,hy,rfl,rfl⟩:∃ y,y∈ks/\k0=Sum.inl y/\x0=V.int (g y):=by
    unfold dI at md;rw [Ah] at md
    cases e:ks[i]? with
    | none=>rw [e] at md; cases md
    | some z=>rw [e] at md; cases md; exact ⟨z,Au e,Y,Y⟩
   have jt:y∈keys ns ns.length:=gq.mem_iff.mp hy;have sq:Same H9 (upd H9 q (.tup [kV (Sum.inl y),V.int (g y)])):=Same.new hq;have taq:Zu t.aa (upd H9 q (.tup [kV (Sum.inl y),V.int (g y)])) p M ns:=(k7.sameD (λb u hu e=>s9 b u (λz=>by rw [z,ki] at e; cases e; exact hu _ Y) e)).same sq;refine ⟨q,_,Y,SqT.of Zc,Y,_,_,Y,_,_,Y,Y,?_⟩;refine Zk λnxC f9=>?_;refine ⟨_,Y,_,_,Y,Y,_,Y,?_⟩;rw [decide_eq_false (show ¬ g y < 0 from by have:=ok.nn y jt; lia)];refine iteF ?_
   try dsimp only [Xj]
   refine f9 _ _ ?_;refine ⟨_,Y,_,_,Y,Y,_,Y,?_⟩;have nx9:∀ H',Same (upd H9 q (.tup [kV (Sum.inl y),V.int (g y)])) H'->∃ v2 v3:Option V,[some (.ref p),some (.ref c),some (V.int y),some (V.int (g y))]=[some (.ref p),some (.ref c),v2,v3]/\(∀ b u,b≠c->H2 b=some u->H' b=some u)/\H' c=some (.frz o (.dK (dI ks g))):=λH' s'=>⟨_,_,rfl,λb u hb e=>s' _ _ (sq _ _ (s9 b u hb e)),s' _ _ (sq _ _ h9)⟩;refine ite2 (λz=>?_) (λ_=>iteF (nx9 _ (Same.refl _)));have hg0:0 < g y:=of_decide_eq_true z;obtain ⟨dx,cl,na,sp,mt,o',f,B⟩:=id taq;refine ⟨_,Y,p,dx,_,Y,B.ins,Yd _ _ _ _,_,Y,p,M,ns,y,Y,taq,td,λ_ H' s'=>?_,λz=>absurd jt z⟩;refine ⟨Y,_,Y,?_⟩;by_cases e:Z5 ns y="rim"
   ·obtain ⟨a,ma,na⟩:=Zm9 td jt e
    have:=ok.rim a y ma na;lia
   ·rw [Vn e]
    exact iteF (nx9 H' s')
  ·rintro σ H9 ⟨v2,v3,rfl,s9,h9⟩
   refine ⟨c,o,_,h9,λo' u z=>?_,?_⟩
   ·have z:H c=some (.frz o' u):=z
    rw [hc] at z; cases z
   ·refine k _ λb u e=>?_
    by_cases hb:b=c
    ·subst hb
     rw [Zc];rw [hc] at e; exact e
    ·rw [Zf hb]
     exact s9 b u hb (oq b u e)
def Vr:FnScope ["tent","counts","triples"] ["tent","counts"] (Zh Uu):=Am
def V0 (T:Txt w K mg t):FnOk P w K mg base (CXr P w) 4 t.bF t.bK ["tent","counts"] (K0 t.aa):=by
  refine T.aP.F.aR Vr (λ_ _ _ _ H vs Q E hr h=>?_)
  · obtain ⟨p,c,M,ns,g,rfl,ta,td,jm,ic,ok,k⟩:=h
    have hu:=J3 hr;refine ⟨_,(Zd (Yp (pcT (Gp T) hr T.bC (Za (pv 0) (Za (pv 1) Zb))))
      (Zd (X9 (ts:=["row"]) (fv:=[("counts",1)]) (i:=2) ⟨rfl,by decide +kernel,by decide +kernel,Yc (by rfl),⟨⟨rfl,rfl,Or.inl rfl⟩,trivial⟩⟩ rfl Vr.nd rfl rfl (by rfl) (Yj (Jt (pv 0) T.ac T.az.m (Oh T) (hr.mono (by decide)) T.az.b .nil Yr)) (λ_ _ _ _=>(Zn (i:=0) (show List.Nodup (["row","counts"]:List Str) from by decide +kernel) rfl (Or.inl rfl) (Or.inr rfl))) (λ_ _ _ _=>Yb) (λ_ _ _=>rfl) (λ_ _ _ _ _ _=>Ye (Yg (ts:=["seam"]) (fv:=[("counts",1)]) ⟨rfl,by decide +kernel,by decide +kernel,Yc (by rfl),⟨⟨rfl,rfl,Or.inl rfl⟩,trivial⟩⟩ rfl (Fn K (pv 0)) (λ_ _ _ _=>(Zn (i:=0) (show List.Nodup (["seam","counts"]:List Str) from by decide +kernel) rfl (Or.inl rfl) (Or.inr rfl))) (λ_ _ _ _=>Yb) (λ_ _ _=>rfl) (λ_ _ _ _ _ _=>Ye (W7 hu (pv 1) (pv 0) (λ_ _=>rfl))))))
      (Zd (Z2 (Wp (Zo (Zak rfl) (by rfl) T.fQ PyProof.Rows.boot_any (Za (Yg (ts:=["triple"]) (fv:=[]) ⟨rfl,by decide +kernel,by decide +kernel,Yc (by rfl),trivial⟩ rfl (Yj (pv 2)) (λ_ _ _ _=>(Zn (i:=0) (show List.Nodup (["triple"]:List Str) from by decide +kernel) rfl (Or.inl rfl) (Or.inr rfl))) (λ_ _ _ _=>Yb) (λ_ _ _=>rfl) (λ_ _ _ _ _ _=>Ye (Qu Yw (Zi Z0 (Zo (G6 K rfl) (by rfl) T.fc PyProof.Rows.boot_sum (Za (pv 0) Zb)) Ze) Ze (Zs _)))) Zb))) Yz Zv)
      (Zg (Z2 (Wp (Zo (Zak rfl) (by rfl) T.fQ PyProof.Rows.boot_any (Za (Yg (ts:=["triple"]) (fv:=[]) ⟨rfl,by decide +kernel,by decide +kernel,Yc (by rfl),trivial⟩ rfl (Yj (pv 2)) (λ_ _ _ _=>(Zn (i:=0) (show List.Nodup (["triple"]:List Str) from by decide +kernel) rfl (Or.inl rfl) (Or.inr rfl))) (λ_ _ _ _=>Yb) (λ_ _ _=>rfl) (λ_ _ _ _ _ _=>Ye (Qu Wx (Zi Xe Ze (Zo (Zf7 K rfl) (by rfl) T.fR PyProof.Rows.boot_max (Za (pv 0) Zb))) (Zo (G6 K rfl) (by rfl) T.fc PyProof.Rows.boot_sum (Za (pv 0) Zb)) (Zs _)))) Zb))) Yz Zv))))),?_⟩
    refine Zk λnxC f9=>?_;refine ⟨_,Y,_,Y,p,c,M,ns,g,Y,ta,td,jm,ic,⟨ok.nn,ok.rim⟩,λH1 s1=>?_⟩;refine f9 _ _ ?_;have kg:=ta.same s1;have nv:=ic.same s1;obtain ⟨n,n1,uk,hn⟩:=td.n;have iq:=td.len;refine Zk λnxC f9=>?_;obtain ⟨dx,cl,na,sp,mt,o,f,B⟩:=id kg;refine ⟨_,Y,p,dx,_,Y,B.ins,Yd _ _ _ _,p,M,ns,Y,kg,λlr ts hlr ts1 ts2=>?_⟩;have s2:Same H1 (upd H1 lr (.lst (ts.map V.ref))):=Same.new hlr;have h2:(upd H1 lr (.lst (ts.map V.ref))) lr=some (.lst (ts.map V.ref)):=Zc;have h2t:∀ (k:Nat) (t:Addr),ts[k]?=some t->(upd H1 lr (.lst (ts.map V.ref))) t=some (.tup (row3 ns k)):=λk t e=>s2 _ _ (ts2 k t e);generalize upd H1 lr (.lst (ts.map V.ref))=H2 at s2 h2 h2t ⊢;refine ⟨lr,Y,⟨_,SqL.of h2⟩,λD hD=>?_⟩;obtain ⟨ks,ki,gq⟩:=nv.same s2;clear B ts2 hlr;have oq:=s1.trans s2;have qq:ts.length=n:=by lia
    refine Yi (xs:=ts.map V.ref) (λi σ H3=>∃ (v:Option V) (us:List Addr),σ=[v,some (.ref c)]/\Same H2 H3/\H3 D=some (.lst (us.map V.ref))/\us.length=i/\∀ (k:Nat) (u:Addr),us[k]?=some u->H3 u=some (.lst ((g3 ns g k).map V.int))) ⟨none,[],Y,Same.new hD,Zc,Y,λk u e=>by simp at e⟩ ?_ ?_ ?_
    · rintro i σ H3 _ ⟨v,us,rfl,sm,_⟩
      exact SqL.of (sm _ _ h2)
    · rintro i y σ H3 hy ⟨v,us,rfl,sm,h3,wc,wb⟩
      obtain ⟨q,hq,rfl⟩:=map_some hy;have hi:i < n:=by rw [<- qq]; exact (Aa hq).1
      dsimp only [Zl,tYes];rw [if_pos rfl];have hq3:=sm _ _ (h2t i q hq);refine ⟨_,Y,q,Y,⟨_,SqT.of hq3⟩,λD2 kj=>?_⟩;refine Ui (xs:=row3 ns i) (λj σ H4=>∃ (v':Option V),σ=[v',some (.ref c)]/\Same H3 H4/\H4 D2=some (.lst (((g3 ns g i).take j).map V.int))) ⟨none,Y,Same.new kj,Zc⟩ ?_ ?_ ?_
      · rintro j σ H4 _ ⟨v',rfl,oo,h4⟩
        exact SqT.of (oo _ _ hq3)
      · rintro j x σ H4 hx ⟨v',rfl,oo,h4⟩
        dsimp only [Zl,tYes];rw [if_pos rfl];obtain ⟨z,hz,rfl,hg⟩:=Zo3 (g:=g) hx;have vz:z∈ks:=gq.mem_iff.mpr (hz (by lia));refine ⟨_,Y,_,Y,c,_,Y,V8 (oo _ _ (sm _ _ ki)) vz,?_⟩;refine ⟨_,h4,?_,_,Y,Same.add oo kj,?_⟩
        · rw [Ab,Ai]
          exact Zx (by have:(g3 ns g i).length=3:=rfl; lia)
        · rw [Zc,Aw,hg]
          simp
      · rintro σ H4 ⟨v',rfl,oo,h4⟩
        have sx:H4 D2=some (.lst ((g3 ns g i).map V.int)):=h4;refine ⟨_,oo _ _ h3,(by rw [Ab]; exact Zx (by lia)),_,us ++ [D2],Y,Same.add (sm.trans oo) hD,?_,?_,?_⟩
        · rw [Zc]; simp
        · rw [Ae,At,wc]
        · intro k u z
          by_cases hk:k < us.length
          · rw [Av hk] at z
            have gg:=oo _ _ (wb k u z);rw [Zf (λe=>by rw [e,oo _ _ h3] at gg; exact Zh7 gg)];exact gg
          · have si:k=us.length:=by
              have:=(Aa z).1;rw [Ae,At] at this;lia
            subst si;have:u=D2:=by simpa using z.symm
            subst this;rw [wc,Zf (λe=>by rw [e,oo _ _ h3] at sx; exact Zh7 sx)];exact sx
    rintro σ H3 ⟨v,us,rfl,sm,h3,wc,wb⟩;refine f9 _ _ ?_
    try dsimp only [Zl]
    have sr:∀ k,k < us.length->3 * k + 2 < ns.length:=λk hk=>by rw [wc,Ab] at hk; lia
    have hul:us.length<=1000:=by rw [wc,Ab]; lia
    clear h2 h2t hD;refine Zk λnxC f9=>?_;refine ⟨_,Y,D,Y,⟨_,SqL.of h3⟩,λD1 u8=>?_⟩;refine Yi (xs:=us.map V.ref) (λi σ H4=>∃ (v:Option V),σ=[v]/\Same H3 H4/\H4 D1=some (.lst ((List.replicate i false).map V.bl))) ⟨none,Y,Same.new u8,Zc⟩ ?_ ?_ ?_
    · rintro i σ H4 _ ⟨v,rfl,s4,_⟩
      exact SqL.of (s4 _ _ h3)
    · rintro i y σ H4 hy ⟨v,rfl,s4,h4⟩
      obtain ⟨u,we,rfl⟩:=map_some hy;have hi:i < us.length:=(Aa we).1;dsimp only [Zl,tYes];rw [if_pos rfl];refine ⟨_,Y,u,_,Y,SqL.of (s4 _ _ (wb i u we)),_,_,Y,Y,(by show (0:Int) < 2; decide),rfl,?_⟩;have e:(g3 ns g i).sum % 2=0:=by
        have:=ok.even i (sr i hi)
        simp only [g3,List.sum_cons,List.sum_nil]
        lia
      refine ⟨_,h4,(by rw [Ab,List.length_replicate]; exact Zx (by lia)),_,Y,Same.add s4 u8,?_⟩;rw [Zc,List.replicate_succ',Aj];show some (HO.lst (_ ++ [V.bl (decide (V.int ((g3 ns g i).sum % 2)=V.int 1))]))=_;rw [e];rfl
    rintro σ H4 ⟨v,rfl,s4,h4⟩;refine ⟨D1,_,Y,SqL.of h4,_,Y,?_⟩;rw [Zap];refine iteF ?_
    try dsimp only [Xj]
    refine f9 _ _ ?_;have h34:=s4 _ _ h3;have hus4:∀ (k:Nat) (u:Addr),us[k]?=some u->H4 u=some (.lst ((g3 ns g k).map V.int)):=λk u e=>s4 _ _ (wb k u e);have yv:=oq.trans (sm.trans s4);clear h3 wb h4 s4 u8;refine ⟨_,Y,D,Y,⟨_,SqL.of h34⟩,λD1 u8=>?_⟩;refine Yi (xs:=us.map V.ref) (λi σ H5=>∃ (v:Option V),σ=[v]/\Same H4 H5/\H5 D1=some (.lst ((List.replicate i false).map V.bl))) ⟨none,Y,Same.new u8,Zc⟩ ?_ ?_ ?_
    · rintro i σ H5 _ ⟨v,rfl,s5,_⟩
      exact SqL.of (s5 _ _ h34)
    · rintro i y σ H5 hy ⟨v,rfl,s5,h5⟩
      obtain ⟨u,we,rfl⟩:=map_some hy;have hi:i < us.length:=(Aa we).1;dsimp only [Zl,tYes];rw [if_pos rfl];have hu5:=s5 _ _ (hus4 i u we);refine ⟨_,Y,u,_,Y,SqL.of hu5,(by show 0 < 3; decide),λm hm hmx=>?_⟩;refine ⟨_,_,Y,Y,(by show CMul 2 m; exact .inl ⟨by decide,by decide⟩),_,Y,u,_,Y,SqL.of hu5,_,_,Y,Y,?_⟩;have e:¬ (g3 ns g i).sum < 2 * m:=by
        obtain ⟨t1,t2,t3⟩:=ok.tri i (sr i hi)
        simp only [g3,List.sum_cons,List.sum_nil]
        simp only [g3,List.mem_cons,List.not_mem_nil,or_false] at hm
        rcases hm with rfl | rfl | rfl <;> lia
      refine ⟨_,h5,(by rw [Ab,List.length_replicate]; exact Zx (by lia)),_,Y,Same.add s5 u8,?_⟩;rw [Zc,List.replicate_succ',Aj];show some (HO.lst (_ ++ [V.bl (decide ((g3 ns g i).sum < 2 * m))]))=_;rw [decide_eq_false e];rfl
    rintro σ H5 ⟨v,rfl,s5,h5⟩;refine ⟨D1,_,Y,SqL.of h5,_,Y,?_⟩;rw [Zap];refine iteF ?_;exact k _ (yv.trans s5)
def Zfd:Sp:=λvs H Q _=>∃ (m c:Addr) (M:List (Option Nat)) (f0:Nat->Int),vs=[.ref m,.ref c]/\H m=some (.lst (M.map mV))/\H c=some (.lst (rowI M.length f0))/\(∃ n,M.length=3 * n)/\M.length<=120/\InvM M/\PreC M f0 /\
 ∀ (l:Addr) (f:Nat->Int) (H':Hp),Same H H'->H l=none->H' l=some (.lst (rowI M.length f))->PC M f->(∀ p,p < M.length->f p<=f0 p)->Q (.ref l) H'
def Yy:FnScope ["_law_mates","_law_counts","_law_changed","_law_p","_law_base","_law_rest"] ["_law_mates","_law_counts"] (Zh Kc):=Am
def Zco (T:Txt w K mg t):FnOk P w K mg base (CXr P w) 1 t.cy t.cG ["_law_mates","_law_counts"] Zfd:=by
 refine T.cK.F.aR Yy (λ_ _ _ _ H vs Q E hr h=>?_)
 ·obtain ⟨m,c,M,f0,rfl,hm,hc,h3,hl,inv,pc0,k⟩:=h
  refine ⟨_,(Zd (Zp (i:=1) Yy.nd Y (Or.inl Y) (X1 Wh (by rfl) T.ba PySem.Pv.boot_list (Za (pv 1) Zb)))
   (Zd (Zp (i:=2) Yy.nd rfl (Or.inl rfl) Wj)
   (Zd (Jr PassesOwn.never (Wp (pv 2)) (Zd (Zp (i:=2) Yy.nd rfl (Or.inl rfl) Wj)
   (Zg (Y0 PassesOwn.never rfl (Y1 rfl T.ak (Za (Zo Zm (by rfl) T.ad PySem.boot_len (Za (pv 0) Zb)) Zb)) (Zn (i:=3) Yy.nd rfl (Or.inl rfl)) (Zd (Zp (i:=4) Yy.nd rfl (Or.inl rfl) (Zi Xd (pv 3) (Zi Z0 (pv 3) Ze)))
   (Zd (Zp (i:=5) Yy.nd rfl (Or.inl rfl) (Zi Z4 (Zw Zt (pv 1) (Zi Z4 (pv 4) (Zi Z0 (Zi Z4 (pv 3) Ze) Ze)) (λ_ _=>rfl)) (Zw Zt (pv 1) (Zi Z4 (pv 4) (Zi Z0 (Zi Z4 (pv 3) Ze) Ze)) (λ_ _=>rfl))))
   (Zg (Z2 (Zr Wx (Zw Zt (pv 1) (pv 3) (λ_ _=>rfl)) (pv 5) (Zs _)) (Zd (Xm (pv 5) (Jd (pv 1) (pv 3) X3))
   (Zd (Z2 (Zr Jv (Zw Zt (pv 0) (pv 3) (λ_ _=>rfl)) Ws (Zs _)) (Zg (Xm (pv 5) (Jd (pv 1) (Zw Zt (pv 0) (pv 3) (λ_ _=>rfl)) X3))) Zv)
   (Zg (Zp (i:=2) Yy.nd rfl (Or.inl rfl) Wj)))) Zv))))))))
   (Zg (Zq (pv 1)))))),?_⟩;refine Zk λnxC f9=>?_;refine ⟨_,Y,c,_,Y,.inl (SqL.of hc),λl l8=>?_⟩;refine f9 _ _ ?_;have s1:Same H (upd H l (.lst (rowI M.length f0))):=Same.new l8;have h1:(upd H l (.lst (rowI M.length f0))) l=some (.lst (rowI M.length f0)):=Zc;generalize upd H l (.lst (rowI M.length f0))=H1 at s1 h1 ⊢
  try dsimp only [Zl]
  refine Zk λnxC f9=>?_;refine f9 _ _ ?_
  try dsimp only [Zl]
  obtain ⟨n,hn⟩:=id h3;show tSeq (Q0 _ _) _ _ _ _;refine Z6 (λσ H'=>∃ (f:Nat->Int) (v2 v3 v4 v5:Option V),σ=[some (.ref m),some (.ref l),v2,v3,v4,v5]/\Same H H'/\H' l=some (.lst (rowI M.length f))/\PC M f/\∀ p,p < M.length->f p<=f0 p) (λnx ig=>?_) ?_
  ·refine ⟨fun μ σ H2=>∃ (f:Nat->Int) (b:Bool) (v3 v4 v5:Option V),μ=2 * (sF f M.length).toNat + (if b then 1 else 0)/\σ=[some (.ref m),some (.ref l),some (.bl b),v3,v4,v5]/\Same H H2/\H2 l=some (.lst (rowI M.length f))/\PreC M f/\(∀ p,p < M.length->f p<=f0 p)/\(b=false->∀ p,p < M.length->f p<=f (aN p) + f (bN p)),⟨_,f0,true,_,_,_,Y,Y,s1,h1,pc0,λp _=>Int.le_refl _,by simp⟩,?_⟩
   rintro μ σ H2 ⟨f,b,v3,v4,v5,rfl,rfl,s2,h2,pc,m5,xn⟩;refine ⟨_,Y,b,Y,?_⟩
   cases b with
   | false=>exact iteF (ig _ _ ⟨f,_,_,_,_,Y,s2,h2,pc.all (xn Y),m5⟩)
   | true =>
    refine iteT ⟨_,λσ' H' h=>h,?_⟩;refine Zk λnxC f9=>?_;refine f9 _ _ ?_
    try dsimp only [Zl]
    clear xn;have hm2:=s2 _ _ hm;refine ⟨_,Y,m,_,Y,.inl (SqL.of hm2),_,Y,by lia,by rw [Ab]; lia,?_⟩;have eL:(((M.map mV).length:Nat):Int).toNat=M.length:=by simp
    rw [eL];refine X2 (n:=M.length) (λi σ H3=>∃ (g:Nat->Int) (b:Bool) (v3 v4 v5:Option V),σ=[some (.ref m),some (.ref l),some (.bl b),v3,v4,v5]/\Same H H3/\H3 l=some (.lst (rowI M.length g))/\PreC M g/\(∀ p,p < M.length->g p<=f p)/\(b=true->sF g M.length < sF f M.length)/\(b=false->g=f/\∀ p,p < i->f p<=f (aN p) + f (bN p))) ⟨f,false,_,_,_,Y,s2,h2,pc,λp _=>Int.le_refl _,by simp,λ_=>⟨Y,λp hp=>absurd hp (by lia)⟩⟩ ?_ ?_
    ·rintro i σ H3 hi ⟨g,b,v3,v4,v5,rfl,s3,mj,pg,ux,hbt,ss⟩
     dsimp only [Zl];rw [Int.zero_add];obtain ⟨l1,l2⟩:=Jn (show i < 3 * n by lia);refine Zk λnxC f9=>?_;refine ⟨_,Y,_,Y,_,_,Y,Y,(by show (0:Int) < 3; decide),_,_,rfl,rfl,?_⟩;refine f9 _ _ ?_
     try dsimp only [Zl]
     refine Zk λnxC f9=>?_;refine ⟨_,Y,_,Y,_,Y,_,_,Y,Y,_,_,Y,Y,(by show (0:Int) < 3; decide),_,_,rfl,rfl,l,_,_,_,rfl,rfl,SqL.of mj,(by rw [Zf9,Qt]; exact Yu (Y9 (show aN i < M.length by lia))),?_⟩;refine ⟨_,Y,_,Y,_,Y,_,_,Y,Y,_,_,Y,Y,(by show (0:Int) < 3; decide),_,_,rfl,rfl,l,_,_,_,rfl,rfl,SqL.of mj,(by rw [Zd5,Qs]; exact Yu (Y9 (show bN i < M.length by lia))),_,_,Y,Y,?_⟩;refine f9 _ _ ?_
     try dsimp only [Zl]
     refine ⟨_,Y,_,Y,l,_,_,_,Y,Y,SqL.of mj,Yu (Y9 hi),_,Y,_,_,Y,Y,_,Y,?_⟩;refine ite2 (λz=>?_) (λz=>?_)
     ·have gr:g (aN i) + g (bN i) < g i:=of_decide_eq_true z
      obtain ⟨mc,k9⟩:∃ mc,M[i]?=some mc:=⟨_,Ac hi⟩;obtain ⟨pg',le',lt'⟩:=pg.lw h3 inv k9 gr
      have le2:∀ z,z < M.length->lw g i mc (g (aN i) + g (bN i)) z<=g z:=λz hz=>by rcases le' z with e | e; exact e; lia
      have slt:sF (lw g i mc (g (aN i) + g (bN i))) M.length < sF f M.length:=by
       have a1:=Zfi le2 hi lt';have a2:=Zfj ux;lia
      refine Zk λnxC f9=>?_;refine ⟨_,Y,_,Y,_,Y,l,_,_,i,Y,Y,mj,(by rw [Ya]; exact Wm hi),?_⟩;refine f9 _ _ ?_;rw [Uc];have s4:Same H (upd H3 l (.lst (rowI M.length λq=>if q=i then g (aN i) + g (bN i) else g q))):=Same.add s3 l8;have h4:(upd H3 l (.lst (rowI M.length λq=>if q=i then g (aN i) + g (bN i) else g q))) l=some (.lst (rowI M.length λq=>if q=i then g (aN i) + g (bN i) else g q)):=Zc;generalize upd H3 l (.lst (rowI M.length λq=>if q=i then g (aN i) + g (bN i) else g q))=H4 at s4 h4 ⊢;refine Zk λnxC f9=>?_;refine ⟨_,Y,_,Y,m,_,_,_,Y,Y,SqL.of (s4 _ _ hm),Yh k9,Y,_,Y,?_⟩
      cases mc with
      | none =>
       refine iteF ?_
       try dsimp only [Xj]
       refine f9 _ _ ?_;rw [<- Zlx] at h4;exact ⟨_,true,_,_,_,Y,s4,h4,pg',λz hz=>Int.le_trans (le2 z hz) (ux z hz),λ_=>slt,by simp⟩
      | some y =>
       have hy:y < M.length:=(Aa (inv i y k9).1).1;refine iteT ?_;refine ⟨_,Y,_,Y,_,Y,_,Y,m,_,_,_,Y,Y,SqL.of (s4 _ _ hm),Yh k9,l,_,_,y,Y,Y,h4,(by rw [Ya]; exact Wm hy),?_⟩;refine f9 _ _ ?_;rw [Uc,<- Jx (f:=g)];exact ⟨_,true,_,_,_,Y,Same.add s4 l8,Zc,pg',λz hz=>Int.le_trans (le2 z hz) (ux z hz),λ_=>slt,by simp⟩
     ·have hge:g i<=g (aN i) + g (bN i):=by
       have:¬ g (aN i) + g (bN i) < g i:=λy=>z (decide_eq_true y);lia
      refine ⟨g,b,_,_,_,Y,s3,mj,pg,ux,hbt,λe=>⟨(ss e).1,λp hp=>?_⟩⟩;by_cases c:p=i
      ·subst c
       rw [<- (ss e).1];exact hge
      ·exact (ss e).2 p (by lia)
    ·rintro σ H3 ⟨g,b,v3,v4,v5,rfl,s3,mj,pg,ux,hbt,ss⟩
     refine ⟨_,?_,g,b,_,_,_,Y,Y,s3,mj,pg,λp hp=>Int.le_trans (ux p hp) (m5 p hp),λe p hp=>?_⟩
     ·have n1:=Ov (n:=M.length) pg.nn
      have n2:=Ov (n:=M.length) pc.nn
      cases b with
      | true=>have:=hbt rfl; simp only [if_true]; lia
      | false=>rw [(ss rfl).1]; simp
     ·rw [(ss e).1]
      exact (ss e).2 p hp
  ·rintro σ H2 ⟨f,v2,v3,v4,v5,rfl,s2,h2,pc,m5⟩
   exact ⟨_,Y,k l f H2 s2 l8 h2 pc m5⟩
def Zds (h:∀ p,p < n->f p=g p):rowI n f=rowI n g:=by
 unfold rowI;exact List.map_congr_left λp hp=>by rw [h p (List.mem_range.mp hp)]
def Zmh (c:Int):∃ b:Int,atI [V.int 0,V.int 2,V.int 3,V.int 5] (c % 4)=some (.int b)/\0<=b/\b<=5:=by
 have h0:=Int.emod_nonneg c (show (4:Int)≠0 by decide);have h1:=Int.emod_lt_of_pos c (show (0:Int) < 4 by decide);have:c % 4=0\/c % 4=1\/c % 4=2\/c % 4=3:=by lia
 rcases this with e | e | e | e <;> rw [e] <;> exact ⟨_,Y,by decide,by decide⟩
def Zk2 (c:Int):∃ b:Int,atI [V.int 4,V.int 4,V.int 4,V.int 9] (c % 4)=some (.int b)/\0 < b/\b<=9:=by
 have h0:=Int.emod_nonneg c (show (4:Int)≠0 by decide);have h1:=Int.emod_lt_of_pos c (show (0:Int) < 4 by decide);have:c % 4=0\/c % 4=1\/c % 4=2\/c % 4=3:=by lia
 rcases this with e | e | e | e <;> rw [e] <;> exact ⟨_,Y,by decide,by decide⟩
def Zme {M:List (Option Nat)} (inv:InvM M) {ws:List Nat} (hw:ws=[]\/Pl M ws) (h:M[p]?=some (some y)):crN M ws p=(ws.filter λq=>decide (q=p\/q=y)).length:=by
 rw [<- List.countP_eq_length_filter];unfold crN;apply List.countP_congr;intro q hq
 rcases hw with rfl | hP
 ·exact absurd hq List.not_mem_nil
 obtain ⟨m,hm⟩:=hP.has q hq;rw [V3 hm,decide_eq_true_eq,decide_eq_true_eq];constructor
 ·rintro (e | e)
  ·exact .inl e
  ·subst e
   have:=(inv q m hm).1;rw [h] at this; cases this; exact .inr Y
 ·rintro (e | e)
  ·exact .inl e
  ·subst e
   rw [(inv p q h).1] at hm; cases hm; exact .inr Y
def famI (M:List (Option Nat)) (ws:List Nat) (h:Nat->Int) (i p:Nat):Int:=match (M[p]?).join with
 | some y=>if min p y < i then 2 * h (min p y) + (crN M ws p % 2:Nat) else 0
 | none=>0
def Zia {M:List (Option Nat)} (inv:InvM M) (hs:∀ y,M[i]?=some (some y)->¬ i < y) (z:Nat):famI M ws h (i + 1) z=famI M ws h i z:=by
 unfold famI
 cases e:M[z]? with
 | none=>rfl
 | some o=>cases o with
  | none=>rfl
  | some y =>
   show (if min z y < i + 1 then _ else _)=if min z y < i then _ else _
   have hy:=inv z y e;by_cases c:min z y=i
   ·exfalso
    by_cases d:z<=y
    ·rw [Nat.min_eq_left d] at c
     subst c;have:=hs y e;lia
    ·rw [Nat.min_eq_right (by lia)] at c
     subst c;have:=hs z hy.1;lia
   ·by_cases d:min z y < i
    ·rw [if_pos (by lia),if_pos d]
    ·rw [if_neg (by lia),if_neg d]
def Zj2 {M:List (Option Nat)} (inv:InvM M) (hw:ws=[]\/Pl M ws) (hm:M[i]?=some (some y)) (hi:i < y) (z:Nat) :
  famI M ws h (i + 1) z=if z=y then 2 * h i + (crN M ws i % 2:Nat) else if z=i then 2 * h i + (crN M ws i % 2:Nat) else famI M ws h i z:=by
 have has:∀ p∈ws,∃ m,M[p]?=some (some m):=by
  rcases hw with rfl | hP
  ·exact λp hp=>absurd hp List.not_mem_nil
  ·exact hP.has
 have hy:=(inv i y hm).1;by_cases c:z=y
 ·subst c
  rw [if_pos rfl];unfold famI;rw [hy];show (if min z i < i + 1 then 2 * h (min z i) + (crN M ws z % 2:Nat) else 0)=_;rw [Nat.min_eq_right (by lia),if_pos (by lia),Zda inv has hm]
 ·rw [if_neg c]
  by_cases d:z=i
  ·subst d
   rw [if_pos rfl];unfold famI;rw [hm];show (if min z y < z + 1 then 2 * h (min z y) + (crN M ws z % 2:Nat) else 0)=_;rw [Nat.min_eq_left (by lia),if_pos (by lia)]
  ·rw [if_neg d]
   unfold famI
   cases e:M[z]? with
   | none=>rfl
   | some o=>cases o with
    | none=>rfl
    | some u =>
     show (if min z u < i + 1 then _ else _)=if min z u < i then _ else _
     have hu:=(inv z u e).1
     have n1:min z u≠i:=λf=>by
      by_cases k:z<=u
      ·rw [Nat.min_eq_left k] at f; exact d f
      ·rw [Nat.min_eq_right (by lia)] at f
       subst f;rw [hm] at hu; cases hu; exact c Y
     by_cases k:min z u < i
     ·rw [if_pos (by lia),if_pos k]
     ·rw [if_neg (by lia),if_neg k]
def Zj3 {M:List (Option Nat)} (hp:p < M.length):famI M ws h M.length p=fam M ws h p:=by
 unfold famI fam
 cases (M[p]?).join with
 | none=>rfl
 | some y=>exact if_pos (by lia)
def Zn0 (hh:∀ p,h p<=13) (p:Nat):fam M ws h p<=27:=by
 unfold fam
 cases (M[p]?).join with
 | none=>show (0:Int)<=27; decide
 | some y=>dsimp only; have:=hh (min p y); lia
def Zgn:Sp:=λvs H Q _=>∃ (a m wd:Addr) (M:List (Option Nat)) (xs:List Int) (ws:List Nat),vs=[.ref a,.ref m,.ref wd]/\H a=some (.lst (xs.map V.int))/\60<=xs.length/\(∀ x∈xs,0<=x/\x < 1009)/\H m=some (.lst (M.map mV))/\(∃ n,M.length=3 * n)/\M.length<=42/\InvM M/\H wd=some (.lst (ws.map nV))/\ws.length<=60/\(ws=[]\/Pl M ws) /\
 ∀ (l:Addr) (f:Nat->Int) (H':Hp),Same H H'->H l=none->H' l=some (.lst (rowI M.length f))->PC M f->(∀ p,p < M.length->f p<=27)->Q (.ref l) H'
def X8:FnScope ["_law_nums","_law_mates","_law_word","_law_base","_law_span","_law_counts","_law_p","_law_odd"] ["_law_nums","_law_mates","_law_word"] (Zh Gc):=Am
def Zdx (T:Txt w K mg t):FnOk P w K mg base (CXr P w) 2 t.cU t.c8 ["_law_nums","_law_mates","_law_word"] Zgn:=by
  refine T.dj.F.aR X8 (λ_ _ _ _ H vs Q E hr h=>?_)
  · obtain ⟨a,m,wd,M,xs,ws,rfl,ha,hxs,hx,hm,h3,hl,inv,y9,pk,hw,k⟩:=h
    refine ⟨_,(Zd (Zp (i:=3) X8.nd Y (Or.inl Y) (Zw Op (Xo (Za Ze (Za Ze (Za Ze (Za Ze Zb))))) (Zi Z0 (Zw Zt (pv 0) Ze (λ_ _=>rfl)) Ze) (λ_ _=>rfl)))
      (Zd (Zp (i:=4) X8.nd rfl (Or.inl rfl) (Zw Op (Xo (Za Ze (Za Ze (Za Ze (Za Ze Zb))))) (Zi Z0 (Zi Yt (Zw Zt (pv 0) Ze (λ_ _=>rfl)) Ze) Ze) (λ_ _=>rfl)))
      (Zd (Zp (i:=5) X8.nd rfl (Or.inl rfl) (Zi Gn (Yl (Za Ze Zb)) (Zo Zm (by rfl) T.ad PySem.boot_len (Za (pv 1) Zb))))
      (Zd (Y0 PassesOwn.never rfl (Y1 rfl T.ak (Za (Zo Zm (by rfl) T.ad PySem.boot_len (Za (pv 1) Zb)) Zb)) (Zn (i:=6) X8.nd rfl (Or.inr rfl)) (Zg (Z2 (PW.pt (Gi (Zr Jv (Zw Zt (pv 1) (pv 6) (λ_ _=>rfl)) Ws (Zs _)) (Ox (Zr Ql (pv 6) (Zw Zt (pv 1) (pv 6) (λ_ _=>rfl)) (Zs _))))) (Zd (Zp (i:=7) X8.nd rfl (Or.inl rfl) (Zi Z0 (Zo Zm (by rfl) T.ad PySem.boot_len (Za (Yg (ts:=["_law_q"]) (fv:=[("_law_p",6),("_law_mates",1)]) ⟨rfl,by decide +kernel,by decide +kernel,Yc (by rfl),⟨⟨rfl,rfl,Or.inl rfl⟩,⟨rfl,rfl,Or.inl rfl⟩,trivial⟩⟩ rfl (Yj (pv 2)) (λ_ _ _ _=>(Zn (i:=0) (show List.Nodup (["_law_q","_law_p","_law_mates"]:List Str) from by decide +kernel) rfl (Or.inl rfl) (Or.inr rfl))) (λ_ _ _ _=>(Fk (PW.pt (Ud (Zr Yw (pv 0) (pv 1) (Zs _)) (Q4 (Zr Yw (pv 0) (Zw (W6 K) (pv 2) (pv 1) (λ_ _=>rfl)) (Zs _))))))) (λ_ _ _=>rfl) (λ_ _ _ _ _ _=>Ye (pv 0))) Zb)) Ze))
      (Zd (Xm (Zi Z4 (Zi Xe Ze (Zi Z4 (pv 3) (Zi Z0 (Zw Zt (pv 0) (Zi Z4 (pv 6) Ze) (λ_ _=>rfl)) (pv 4)))) (pv 7)) (Jd (pv 5) (pv 6) X3))
      (Zg (Xm (Zw Zt (pv 5) (pv 6) (λ_ _=>rfl)) (Jd (pv 5) (Zw Zt (pv 1) (pv 6) (λ_ _=>rfl)) X3))))) Zv)))
      (Zg (Zq (pcT (Zco T) hr T.cK (Za (pv 1) (Za (pv 5) Zb))))))))),?_⟩;obtain ⟨x0,ex0⟩:∃ x0,xs[0]?=some x0:=⟨_,Ac (by lia)⟩;obtain ⟨bs,ebs,b0,b5⟩:=Zmh x0;obtain ⟨sp,z9,sp0,sp9⟩:=Zk2 (x0 / 4);refine Zk λnxC f9=>?_;refine ⟨(by show 4<=sizeLine; decide),λtq wf=>?_⟩;have s1:Same H (upd H tq (.tup [V.int 0,V.int 2,V.int 3,V.int 5])):=Same.new wf;refine ⟨_,Y,a,_,_,_,Y,Y,SqL.of (s1 _ _ ha),(show atI (xs.map V.int) 0=some (V.int x0) from Yh (i:=0) ex0),_,_,Y,Y,(by show (0:Int) < 4; decide),tq,_,_,_,rfl,rfl,SqT.of Zc,ebs,?_⟩;refine f9 _ _ ?_;generalize upd H tq (.tup [V.int 0,V.int 2,V.int 3,V.int 5])=H1 at s1 ⊢
    try dsimp only [Zl]
    refine Zk λnxC f9=>?_;refine ⟨(by show 4<=sizeLine; decide),λtr htr=>?_⟩;have s2:Same H1 (upd H1 tr (.tup [V.int 4,V.int 4,V.int 4,V.int 9])):=Same.new htr;refine ⟨_,Y,a,_,_,_,Y,Y,SqL.of (s2 _ _ (s1 _ _ ha)),(show atI (xs.map V.int) 0=some (V.int x0) from Yh (i:=0) ex0),_,_,Y,Y,⟨by decide,by decide⟩,_,_,Y,Y,(by show (0:Int) < 4; decide),tr,_,_,_,rfl,rfl,SqT.of Zc,z9,?_⟩;refine f9 _ _ ?_;generalize upd H1 tr (.tup [V.int 4,V.int 4,V.int 4,V.int 9])=H2 at s2 ⊢
    try dsimp only [Zl]
    have pf:=s1.trans s2;clear s1 s2 wf htr ebs z9;have eT:(((M.map mV).length:Nat):Int).toNat=M.length:=by simp
    refine Zk λnxC f9=>?_;refine ⟨(by show 1<=sizeLine; decide),λq hq=>?_⟩;have s3:Same H2 (upd H2 q (.lst [.int 0])):=Same.new hq;refine ⟨_,Y,m,_,Y,.inl (SqL.of (s3 _ _ (pf _ _ hm))),q,_,_,Y,Y,Zc,by lia,by rw [Ab]; lia,(by rw [eT,sizeLine_eq]; show 1 * M.length<=_; lia),λN hN=>?_⟩
    have eN:(List.replicate (((M.map mV).length:Nat):Int).toNat [V.int 0]).flatten=rowI M.length (famI M ws (λp=>bs + xs.getD (p + 1) 0 % sp) 0):=by
      rw [eT,List.flatten_replicate_singleton];apply List.ext_getElem?;intro j;by_cases hj:j < M.length
      · rw [Y9 hj,List.getElem?_replicate,if_pos hj]
        congr 2;unfold famI
        cases (M[j]?).join with
        | none=>rfl
        | some y=>exact (if_neg (by lia)).symm
      · rw [Ay (by rw [List.length_replicate]; lia),Ay (by rw [Ya]; lia)]
    rw [eN];have s4:=(pf.trans s3).trans (Same.new (o:=.lst (rowI M.length (famI M ws (λp=>bs + xs.getD (p + 1) 0 % sp) 0))) hN);have zv:H N=none:=(pf.trans s3).free hN;have u6:(upd (upd H2 q (.lst [.int 0])) N (.lst (rowI M.length (famI M ws (λp=>bs + xs.getD (p + 1) 0 % sp) 0)))) N=some (.lst (rowI M.length (famI M ws (λp=>bs + xs.getD (p + 1) 0 % sp) 0))):=Zc;generalize upd (upd H2 q (.lst [.int 0])) N (.lst (rowI M.length (famI M ws (λp=>bs + xs.getD (p + 1) 0 % sp) 0)))=H4 at s4 u6 ⊢;refine f9 _ _ ?_
    try dsimp only [Zl]
    clear pf s3 eN hq hN;show tSeq (tFor _ _ _) _ _ _ _;refine Z6 (λσ H5=>∃ (v6 v7:Option V),σ=[some (.ref a),some (.ref m),some (.ref wd),some (.int bs),some (.int sp),some (.ref N),v6,v7]/\Same H H5/\H5 N=some (.lst (rowI M.length (fam M ws (λp=>bs + xs.getD (p + 1) 0 % sp))))) (λnx ig=>?_) ?_
    · refine ⟨_,Y,m,_,Y,.inl (SqL.of (s4 _ _ hm)),_,Y,by lia,by rw [Ab]; lia,?_⟩
      rw [eT];refine X2 (n:=M.length) (λi σ H5=>∃ (v6 v7:Option V),σ=[some (.ref a),some (.ref m),some (.ref wd),some (.int bs),some (.int sp),some (.ref N),v6,v7]/\Same H H5/\H5 N=some (.lst (rowI M.length (famI M ws (λp=>bs + xs.getD (p + 1) 0 % sp) i)))) ⟨none,none,Y,s4,u6⟩ ?_ ?_
      · rintro i σ H5 hi ⟨v6,v7,rfl,s5,h5⟩
        dsimp only [Zl];rw [Int.zero_add];obtain ⟨mc,k9⟩:∃ mc,M[i]?=some mc:=⟨_,Ac hi⟩;refine ⟨_,Y,_,Y,m,_,_,_,Y,Y,SqL.of (s5 _ _ hm),Yh k9,Y,_,Y,?_⟩;have skip:(∀ y,M[i]?=some (some y)->¬ i < y)->H5 N=some (.lst (rowI M.length (famI M ws (λp=>bs + xs.getD (p + 1) 0 % sp) (i + 1)))):=λhs=>by
          rw [h5,Gg λz=>(Zia inv hs z).symm]
        cases mc with
        | none=>exact iteF (iteF ⟨_,_,Y,s5,skip λy e=>by rw [k9] at e; cases e⟩)
        | some y =>
          have hy:y < M.length:=(Aa (inv i y k9).1).1;refine iteT ?_;refine ⟨_,Y,_,Y,_,Y,m,_,_,_,Y,Y,SqL.of (s5 _ _ hm),Yh k9,_,_,Y,Y,_,Y,?_⟩;refine ite2 (λz=>?_) (λz=>⟨_,_,Y,s5,skip λy' e=>by rw [k9] at e; cases e; exact λq=>z (decide_eq_true (show ((i:Nat):Int) < y by lia))⟩);have hiy:i < y:=by have:((i:Nat):Int) < y:=of_decide_eq_true z; lia
          clear z skip;refine Zk λnxC f9=>?_;refine ⟨_,Y,wd,Y,⟨_,SqL.of (s5 _ _ y9)⟩,λD hD=>?_⟩;refine Yi (xs:=ws.map nV) (λj σ H6=>∃ (v:Option V),σ=[v,some (.int i),some (.ref m)]/\Same H5 H6/\H6 D=some (.lst (((ws.take j).filter λq=>decide (q=i\/q=y)).map nV))) ⟨none,Y,Same.new hD,Zc⟩ ?_ ?_ ?_
          · rintro j σ H6 _ ⟨v,rfl,s6,_⟩
            exact SqL.of (s6 _ _ (s5 _ _ y9))
          · rintro j x σ H6 jy ⟨v,rfl,s6,h6⟩
            obtain ⟨q,hq,rfl⟩:=map_some jy;have hj:j < ws.length:=(Aa hq).1;dsimp only [Zl];have yes:(q=i\/q=y)->∃ vb,H6 D=some (.lst vb)/\vb.length < sizeLine/\∃ (v:Option V),[some (nV q),some (V.int i),some (V.ref m)]=[v,some (.int i),some (.ref m)]/\Same H5 (upd H6 D (.lst (vb ++ [nV q])))/\(upd H6 D (.lst (vb ++ [nV q]))) D=some (.lst (((ws.take (j + 1)).filter λq=>decide (q=i\/q=y)).map nV)):=λe=>by
              refine ⟨_,h6,?_,_,Y,Same.add s6 hD,?_⟩
              · rw [Ab]
                have:=List.length_filter_le (λq=>decide (q=i\/q=y)) (ws.take j)
                rw [Ai] at this
                exact Zx (by lia)
              · rw [Zc,Aw,hq,List.filter_append,Aj]
                simp [e]
            have no:¬ (q=i\/q=y)->∃ (v:Option V),[some (nV q),some (V.int i),some (V.ref m)]=[v,some (.int i),some (.ref m)]/\Same H5 H6/\H6 D=some (.lst (((ws.take (j + 1)).filter λq=>decide (q=i\/q=y)).map nV)):=λe=>by
              refine ⟨_,Y,s6,?_⟩;rw [h6,Aw,hq,List.filter_append];simp [e]
            have ev:∀ u:Nat,(nV q=V.int (u:Int)) ↔ q=u:=λu=>by
              constructor
              · intro e; have:((q:Nat):Int)=u:=by injection e
                lia
              · intro e; subst e; rfl
            refine ⟨_,Y,_,Y,Y,_,Y,?_⟩;refine ite2 (λz=>iteT ⟨_,Y,yes (.inl ((ev i).mp (of_decide_eq_true z)))⟩) (λz1=>?_);refine ⟨_,Y,_,Y,_,Y,m,_,_,_,Y,Y,SqL.of (s6 _ _ (s5 _ _ hm)),Yh k9,Y,_,Y,?_⟩;refine ite2 (λz=>⟨_,Y,yes (.inr ((ev y).mp (of_decide_eq_true z)))⟩) (λz2=>no ?_);rintro (e | e)
            · exact z1 (decide_eq_true ((ev i).mpr e))
            · exact z2 (decide_eq_true ((ev y).mpr e))
          rintro σ H6 ⟨v,rfl,s6,h6⟩;rw [Ab,List.take_length] at h6;refine ⟨D,_,Y,.inl (SqL.of h6),_,_,Y,Y,(by show (0:Int) < 2; decide),?_⟩;refine f9 _ _ ?_
          try dsimp only [Zl]
          have vo:=s5.trans s6;have h56:=s6 _ _ h5;rw [Ab,<- Zme inv hw k9];obtain ⟨xi,exi⟩:∃ xi,xs[i + 1]?=some xi:=⟨_,Ac (by lia)⟩;have exd:xs.getD (i + 1) 0=xi:=by rw [Ad,exi]; rfl
          refine Zk λnxC f9=>?_;refine ⟨_,Y,_,Y,_,Y,_,_,Y,Y,a,_,_,_,Y,Y,SqL.of (vo _ _ ha),(show atI (xs.map V.int) ((i:Int) + 1)=some (V.int xi) from Yh (i:=i + 1) exi),_,Y,_,_,Y,Y,sp0,_,_,Y,Y,_,_,Y,Y,.inl ⟨by decide,by decide⟩,_,Y,_,_,Y,Y,?_⟩;refine ⟨_,Y,_,Y,N,_,_,i,Y,Y,h56,(by rw [Ya]; exact Wm hi),?_⟩;refine f9 _ _ ?_;have ev2:(crN M ws i:Int) % 2=((crN M ws i % 2:Nat):Int):=by lia
          have eH:(rowI M.length (famI M ws (λp=>bs + xs.getD (p + 1) 0 % sp) i)).set i (V.int (2 * (bs + xi % sp) + (crN M ws i:Int) % 2))=rowI M.length λz=>if z=i then 2 * (bs + xi % sp) + (crN M ws i % 2:Nat) else famI M ws (λp=>bs + xs.getD (p + 1) 0 % sp) i z:=by rw [ev2,Uc]
          show tAsg _ _ _ _ (upd H6 N (.lst ((rowI M.length (famI M ws (λp=>bs + xs.getD (p + 1) 0 % sp) i)).set i (V.int (2 * (bs + xi % sp) + (crN M ws i:Int) % 2)))));rw [eH];have s7:Same H (upd H6 N (.lst (rowI M.length λz=>if z=i then 2 * (bs + xi % sp) + (crN M ws i % 2:Nat) else famI M ws (λp=>bs + xs.getD (p + 1) 0 % sp) i z))):=Same.add vo zv;have h7:(upd H6 N (.lst (rowI M.length λz=>if z=i then 2 * (bs + xi % sp) + (crN M ws i % 2:Nat) else famI M ws (λp=>bs + xs.getD (p + 1) 0 % sp) i z))) N=some (.lst (rowI M.length λz=>if z=i then 2 * (bs + xi % sp) + (crN M ws i % 2:Nat) else famI M ws (λp=>bs + xs.getD (p + 1) 0 % sp) i z)):=Zc;generalize upd H6 N (.lst (rowI M.length λz=>if z=i then 2 * (bs + xi % sp) + (crN M ws i % 2:Nat) else famI M ws (λp=>bs + xs.getD (p + 1) 0 % sp) i z))=H7 at s7 h7 ⊢;refine ⟨_,Y,_,Y,N,_,_,_,Y,Y,SqL.of h7,Yu (Y9 hi),?_⟩;refine ⟨_,Y,_,Y,_,Y,m,_,_,_,Y,Y,SqL.of (s7 _ _ hm),Yh k9,N,_,_,y,Y,Y,h7,(by rw [Ya]; exact Wm hy),?_⟩;refine ⟨_,_,Y,Same.add s7 zv,?_⟩;rw [Zc,Uc,if_pos rfl];congr 2;refine Gg λz=>?_;rw [Zj2 inv hw k9 hiy z,exd]
      · rintro σ H5 ⟨v6,v7,rfl,s5,h5⟩
        exact ig _ _ ⟨_,_,Y,s5,by rw [h5,Zds λp hp=>Zj3 hp]⟩
    · rintro σ H5 ⟨v6,v7,rfl,s5,h5⟩
      refine ⟨_,Y,_,Y,m,N,M,_,Y,s5 _ _ hm,h5,h3,by lia,inv,Zl8 inv hw (λp=>?_),λl f H6 s6 hl6 h6 pc le=>k l f H6 (s5.trans s6) (s5.free hl6) h6 pc λp hp=>Int.le_trans (le p hp) (Zn0 (λp=>?_) p)⟩
      · have:=Int.emod_nonneg (xs.getD (p + 1) 0) (show sp≠0 by lia)
        show 0<=bs + xs.getD (p + 1) 0 % sp;lia
      · have:=Int.emod_lt_of_pos (xs.getD (p + 1) 0) sp0
        show bs + xs.getD (p + 1) 0 % sp<=13;lia
def Xa (H:Hp) (l:Addr) (mv:List (Int × Bool)):Prop:=∃ ts:List Addr,H l=some (.lst (ts.map V.ref))/\ts.length=mv.length/\∀ (k:Nat) (t:Addr) (q:Int × Bool),ts[k]?=some t->mv[k]?=some q->H t=some (.tup [.int q.1,.str (wayS q.2)])
def Xa.same {H H':Hp} {l:Addr} {mv:List (Int × Bool)} (h:Xa H l mv) (s:Same H H'):Xa H' l mv:=by
 obtain ⟨ts,h1,h2,h3⟩:=h;exact ⟨ts,s _ _ h1,h2,λk t q e1 e2=>s _ _ (h3 k t q e1 e2)⟩
def Mv.two {M:List (Option Nat)} {ns:List Int} {x:Int} {a b:Nat} (h:Mv M ns x a b) (td:TD M ns):x∈keys ns ns.length/\pl ns ns.length x=[a,b]:=Znb td h.hM h.lt h.nm
def Xa.put {H:Hp} {l q:Addr} {ts:List Addr} {mv:List (Int × Bool)} {x:Int} {left:Bool} (h1:H l=some (.lst (ts.map V.ref))) (h2:ts.length=mv.length) (h3:∀ (k:Nat) (t:Addr) (q:Int × Bool),ts[k]?=some t->mv[k]?=some q->H t=some (.tup [.int q.1,.str (wayS q.2)])) (hq:H q=some (.tup [.int x,.str (wayS left)])) :
  Xa (upd H l (.lst (ts.map V.ref ++ [V.ref q]))) l (mv ++ [(x,left)]):=by
 refine ⟨ts ++ [q],by rw [Zc]; simp,by rw [Ae,Ae,h2]; rfl,λk t q' z zq=>?_⟩;by_cases hk:k < ts.length
 ·rw [Av hk] at z
  rw [Av (by lia)] at zq;have g:=h3 k t q' z zq;rw [Zf (λe=>by rw [e,h1] at g; cases g)];exact g
 ·have si:k=ts.length:=by
   have:=(Aa z).1;rw [Ae,At] at this;lia
  subst si;have:t=q:=by simpa using z.symm
  subst this;rw [h2] at zq;have:q'=(x,left):=by simpa using zq.symm
  subst this;rw [Zf (λe=>by rw [e,h1] at hq; cases hq)];exact hq
def G9 {H:Hp} {m l:Addr} {xs:List V} {ts:List Addr} (h1:H m=some (.lst xs)) (h2:H l=some (.lst (ts.map V.ref))) (h0:∃ x,xs[0]?=some x/\∀ t,x≠V.ref t):m≠l:=λz=>by
 rw [z,h2] at h1;obtain ⟨x,hx,hn⟩:=h0
 have e:ts.map V.ref=xs:=by injection h1 with h1; injection h1
 rw [<- e] at hx;obtain ⟨q,_,rfl⟩:=map_some hx;exact hn q Y
def Zlg {H:Hp} {r l:Addr} {ns:List Int} {mv:List (Int × Bool)} (h1:Yo H r ns) (h2:Xa H l mv) (h0:0 < ns.length):r≠l:=λz=>by
 obtain ⟨ts,a1,a2,a3⟩:=h1;obtain ⟨us,b1,b2,b3⟩:=h2;rw [z,b1] at a1
 have e:us.map V.ref=ts.map V.ref:=by injection a1 with a1; injection a1
 have el:us.length=ts.length:=by have:=congrArg List.length e; simpa using this
 have t0:0 < ts.length:=by lia
 have u0:0 < us.length:=by lia
 have m0:0 < mv.length:=by lia
 have ee:us[0]'u0=ts[0]'t0:=by
  have:=congrArg (λl=>l[0]?) e;simp only [Ah,Ac u0,Ac t0,Option.map_some] at this
  injection this with this
  injection this
 have g1:=a3 0 _ (Ac t0);have g2:=b3 0 _ _ (Ac u0) (Ac m0);rw [ee,g1] at g2
 injection g2 with g2
 injection g2 with g2
 have:=congrArg List.length g2;simp [row3] at this
def Yo.upd {H:Hp} {r l:Addr} {ns:List Int} {xs ys:List V} (h:Yo H r ns) (iu:r≠l) (hl:H l=some (.lst xs)):Yo (L2.upd H l (.lst ys)) r ns:=by
 obtain ⟨ts,a1,a2,a3⟩:=h;refine ⟨ts,by rw [Zf iu]; exact a1,a2,λk t e=>?_⟩;have g:=a3 k t e;rw [Zf (λz=>by rw [z,hl] at g; cases g)];exact g
def W9 {ns:List Int} (h:i < ns.length):ns[i]?=some (ns.getD i 0):=by rw [Ad,Ac h]; rfl
def Zkg (pc:PC M f) (nm:Nm ns f g) (td:TD M ns):OkC M ns g:=by
 have hl:=td.len;refine ⟨λx hx=>?_,λi x h1 h2=>?_,λk hk=>?_,λk hk=>?_⟩
 ·obtain ⟨i,hi,e⟩:=Yk.mp hx
  rw [nm i x e];exact pc.nn i (by lia)
 ·rw [nm i x h2]
  exact pc.rim i h1
 ·rw [nm _ _ (W9 (show 3 * k < ns.length by lia)),nm _ _ (W9 (show 3 * k + 1 < ns.length by lia)),nm _ _ (W9 hk)]
  have:=pc.even (3 * k) (by lia);rw [show aN (3 * k)=3 * k + 1 by rw [Qe,if_neg (by lia)],show bN (3 * k)=3 * k + 2 by rw [Qd,if_pos (by lia)]] at this;exact this
 ·rw [nm _ _ (W9 (show 3 * k < ns.length by lia)),nm _ _ (W9 (show 3 * k + 1 < ns.length by lia)),nm _ _ (W9 hk)]
  have t1:=pc.tri (3 * k) (by lia);have t2:=pc.tri (3 * k + 1) (by lia);have t3:=pc.tri (3 * k + 2) (by lia);rw [show aN (3 * k)=3 * k + 1 by rw [Qe,if_neg (by lia)],show bN (3 * k)=3 * k + 2 by rw [Qd,if_pos (by lia)]] at t1;rw [show aN (3 * k + 1)=3 * k + 2 by rw [Qe,if_neg (by lia)],show bN (3 * k + 1)=3 * k by rw [Qd,if_neg (by lia)]; lia] at t2;rw [show aN (3 * k + 2)=3 * k by rw [Qe,if_pos (by lia)]; lia,show bN (3 * k + 2)=3 * k + 1 by rw [Qd,if_neg (by lia)]; lia] at t3;exact ⟨by lia,by lia,by lia⟩
def ptD (c:Nat):PyData:=.tuple ((kP c).map PyData.int)
def Zg4 (c:Nat):PySem.SeqAt.shaped (ptD c)=true:=by unfold ptD kP; simp [PySem.SeqAt.shaped,PyData.canLay0,PyData.canLayAll0,PyData.depth,PyData.depthAll]
def Zlk (c d:Nat):PySem.SeqAt.noMix (ptD c) (ptD d)=true:=by unfold ptD kP; simp [PySem.SeqAt.noMix,PySem.SeqAt.noMixAll]
def Zi9 (c d:Nat):Spec.same (ptD c) (ptD d)=decide (c=d):=by
 unfold ptD kP;simp only [List.map_cons,List.map_nil,Spec.same,Spec.sameAll,Bool.and_true];by_cases z:c=d
 ·subst z; simp
 ·rw [decide_eq_false z]
  have:¬ (c / 1000=d / 1000/\c % 1000=d % 1000):=by lia
  simp;lia
def Xs (H:Hp) (bs:List Addr) (os:List Nat):Prop:=bs.length=os.length/\∀ (i:Nat) (b:Addr) (c:Nat),bs[i]?=some b->os[i]?=some c->H b=some (.tup ((kP c).map V.int))
def Xs.same {H H':Hp} {bs:List Addr} {os:List Nat} (h:Xs H bs os) (s:Same H H'):Xs H' bs os:=⟨h.1,λi b c hb hc=>s _ _ (h.2 i b c hb hc)⟩
def Xs.snoc {H:Hp} {bs:List Addr} {os:List Nat} {b:Addr} {c:Nat} (h:Xs H bs os) (hb:H b=some (.tup ((kP c).map V.int))):Xs H (bs ++ [b]) (os ++ [c]):=by
 obtain ⟨h1,h2⟩:=h;refine ⟨by simp [h1],λi b' c' e1 e2=>?_⟩;by_cases z:i < bs.length
 ·rw [Av z] at e1
  rw [Av (by lia)] at e2;exact h2 i b' c' e1 e2
 ·rw [List.getElem?_append_right (by lia)] at e1
  rw [List.getElem?_append_right (by lia),<- h1] at e2;obtain ⟨k,hk⟩:∃ k,i - bs.length=k:=⟨_,rfl⟩;rw [hk] at e1 e2
  cases k with
  | zero=>cases e1; cases e2; exact hb
  | succ k=>simp at e1
def Fd (C:Addr):Sp:=λvs H Q _=>∃ (p c:Addr) (M:List (Option Nat)) (ns:List Int) (f:Nat->Int) (g:Int->Int),vs=[.ref p,.ref c]/\Zu C H p M ns/\TD M ns/\ns.length < 64/\Y4 H c ns g/\Nm ns f g/\PC M f/\sF f ns.length<=1200/\∀ H',Same H H'->Q .non H'
def Zas (C:Addr):Sp:=λvs H Q _=>∃ (p:Addr) (M:List (Option Nat)) (ns:List Int),vs=[.ref p]/\Zu C H p M ns/\ns.length<=1000/\∀ l,H l=none->Q (.ref l) (upd H l (.lst ((List.range ns.length).map nV)))
def Fe (C:Addr):Sp:=λvs H Q _=>∃ (p nb b:Addr) (M:List (Option Nat)) (ns:List Int) (f:Nat->Int) (n c:Nat),vs=[.ref p,.ref nb,.ref b]/\Zu C H p M ns/\M.length=ns.length/\Fam M f n/\H nb=some (.lst (rowI M.length f))/\VpP M f c/\H b=some (.tup ((kP c).map V.int)) /\
 ∀ (q:Addr) (H':Hp),Same H H'->H q=none->H' q=some (.tup ((kP (sgP M f c)).map V.int))->Q (.ref q) H'
def K1:Sp:=λvs H Q _=>∃ (nb b:Addr) (M:List (Option Nat)) (f:Nat->Int) (n c:Nat),vs=[.ref nb,.ref b]/\Fam M f n/\H nb=some (.lst (rowI M.length f))/\VpP M f c/\H b=some (.tup ((kP c).map V.int)) /\
 ∀ (q:Addr) (H':Hp),Same H H'->H q=none->H' q=some (.tup ((kP (tuP f c)).map V.int))->Q (.ref q) H'
def Zar (C:Addr):Sp:=λvs H Q _=>∃ (p nb b:Addr) (M:List (Option Nat)) (ns:List Int) (f:Nat->Int) (n c:Nat),vs=[.ref p,.ref nb,.ref b]/\Zu C H p M ns/\M.length=ns.length/\Fam M f n/\sF f M.length<=1200/\H nb=some (.lst (rowI M.length f))/\VpP M f c/\H b=some (.tup ((kP c).map V.int)) /\
 ∀ (l:Addr) (bs:List Addr) (os:List Nat) (H':Hp),Same H H'->H l=none->H' l=some (.lst (bs.map V.ref))->Xs H' bs os->OrbEnd (RnP M f) c os->Q (.ref l) H'
def Oc (h:p < n):atI (rowI n f) (p:Int)=some (V.int (f p)):=Yu (Y9 h)
def Vq:FnScope ["tent","counts"] ["tent","counts"] (Zh Ut):=Am
def Vz (T:Txt w K mg t):FnOk P w K mg base (CXr P w) 5 t.aL t.aM ["tent","counts"] (Fd t.aa):=by
 refine T.ap.F.aR Vq (λ_ _ _ _ H vs Q E hr h=>?_)
 ·obtain ⟨p,c,M,ns,f,g,rfl,ta,td,jm,ic,nm,pc,j9,k⟩:=h
  refine ⟨_,(Zd (Yp (pcT (V0 T) hr T.aP (Za (pv 0) (Za (pv 1) Zb))))
   (Zg (Z2 (Zr Wx (Gk rfl (pv 1) ⟨rfl,rfl,rfl⟩ (by rfl) T.fc) (Oy (v:=.int 600) rfl T.aY ⟨_,rfl⟩) (Zs _)) Yz Zv))),?_⟩;refine Zk λnxC f9=>?_;refine ⟨_,Y,_,Y,p,c,M,ns,g,Y,ta,td,jm,ic,Zkg pc nm td,λH1 s1=>?_⟩;refine f9 _ _ ?_;obtain ⟨ks,nv,gq⟩:=ic.same s1;refine ⟨_,Y,c,_,ks.map g,Y,.inl nv,(by unfold dI; rw [List.map_map,List.map_map]; rfl),_,_,rfl,rfl,_,rfl,?_⟩;have e:¬ (600:Int) < (ks.map g).sum:=by
   have h1:=Kn (gq.map g)
   have h2:=On td nm pc
   lia
  show if decide ((600:Int) < (ks.map g).sum)=true then _ else _
  rw [decide_eq_false e];exact iteF (k _ s1)
def U8:FnScope ["self"] ["self"] (Zh Qh):=Am
def J9 (T:Txt w K mg t):FnOk P w K mg base (CXr P w) 1 t.aF t.aH ["self"] (Zas t.aa):=by
 refine T.ah.F.aR U8 (λ_ _ _ _ H vs Q E hr h=>?_)
 ·obtain ⟨p,M,ns,rfl,⟨dx,cl,na,sp,mt,o,f,b⟩,hl,k⟩:=h
  refine ⟨_,(Zg (Zq (Og Y T.ba Y T.ak Y (Za (Zo Zm (by rfl) T.ad PySem.boot_len (Za (X6 (pv 0) Y) Zb)) Zb)))),?_⟩;exact ⟨_,Y,p,_,dx,_,_,Y,b.ins,T.ac,T.ag,Kw ..,na,_,Y,.inl (SqL.of b.names),ns.length,by rw [Ab],hl,λl qu=>k l qu⟩
def Jo:FnScope ["tent","numbers","at","place","spot"] ["tent","numbers","at"] (Zh Uv):=Am
def Jw (T:Txt w K mg t):FnOk P w K mg base (CXr P w) 4 t.bG t.bL ["tent","numbers","at"] (Fe t.aa):=by
 refine T.ax.F.aR Jo (λ_ _ _ _ H vs Q E hr h=>?_)
 ·obtain ⟨p,nb,b,M,ns,f,n,c,rfl,ta,iq,fm,km,vc,hb,k⟩:=h
  obtain ⟨dx,cl,na,sp,mt,o,f',bb⟩:=id ta;refine ⟨_,(Zd (Xm (pv 2) (J7 Y (Zz (Zn (i:=3) Jo.nd Y (Or.inl Y)) (Zz (Zn (i:=4) Jo.nd Y (Or.inl Y)) Xv))))
   (Zg (Zq (Xo (Za (Xh (pv 0) T.ac T.aj.m (Ji T) (hr.mono (by decide)) T.aj.b .nil Yr (Za (pv 3) Zb)) (Za (Zi Xd (Zi Xd (Zw Zt (pv 1) (pv 3) (λ_ _=>rfl)) Ze) (pv 4)) Zb)))))),?_⟩
  refine ⟨_,Y,b,_,Y,SqT.of hb,Y,_,_,Y,_,_,Y,Y,?_⟩;dsimp only [Zl];obtain ⟨q,e1,_⟩:=fm.sg vc;have hp:c / 1000 < M.length:=vc.1;refine ⟨_,Y,p,dx,_,Y,bb.ins,Yd _ _ _ _,_,Y,p,M,ns,_,Y,ta,iq,λi y e2 e3=>?_,λz=>absurd (show (0:Int)<=((c / 1000:Nat):Int)/\((c / 1000:Nat):Int) < (ns.length:Int) by lia) z⟩;have:i=c / 1000:=by lia
  subst this;rw [e1] at e3;cases e3;refine ⟨_,Y,_,Y,nb,_,_,_,Y,Y,SqL.of km,Oc hp,_,_,Y,Y,_,Y,_,_,Y,Y,(by show 2<=sizeLine; decide),λq' i7=>?_⟩;refine k q' _ (Same.new i7) i7 ?_;rw [Zc,<- fm.sg_key vc e1];rfl
def Xl:FnScope ["numbers","at","place","spot","own","prior","tied_back"] ["numbers","at"] (Zh Vt):=Am
def Vj (T:Txt w K mg t):FnOk P w K mg base (CXr P w) 2 t.br t.bz ["numbers","at"] K1:=by
 refine T.aD.F.aR Xl (λ_ _ _ _ H vs Q E hr h=>?_)
 ·obtain ⟨nb,b,M,f,n,c,rfl,fm,km,vc,hb,k⟩:=h
  refine ⟨_,(Zd (Xm (pv 1) (J7 Y (Zz (Zn (i:=2) Xl.nd Y (Or.inl Y)) (Zz (Zn (i:=3) Xl.nd Y (Or.inl Y)) Xv))))
   (Zd (Zg5 (i:=4) (j:=5) rfl Xl.nd rfl rfl (by decide) rfl rfl (Za (Zw Zt (pv 0) (pv 2) (λ_ _=>rfl)) (Za (Zw Zt (pv 0) (pcT (Vi T) hr T.bA (Za (pv 2) Zb)) (λ_ _=>rfl)) Zb)) (by rfl))
   (Zd (Zp (i:=6) Xl.nd rfl (Or.inl rfl) (Zi Yt (Zi Xd (Zi Z4 (pv 5) (pv 4)) (Zw Zt (pv 0) (pcT (Ug T) hr T.cf (Za (pv 2) Zb)) (λ_ _=>rfl))) Ze))
   (Zd (Z2 (Zr Ql (pv 3) (pv 6) (Zs _)) (Zg (Zq (Xo (Za (pcT (Vi T) hr T.bA (Za (pv 2) Zb)) (Za (Zi Xd (Zi Xd (pv 5) Ze) (pv 3)) Zb))))) Zv)
   (Zg (Zq (Xo (Za (pcT (Ug T) hr T.cf (Za (pv 2) Zb)) (Za (Zi Xd (Zi Xd (pv 4) Ze) (pv 3)) Zb))))))))),?_⟩;have hp:c / 1000 < M.length:=vc.1;obtain ⟨sa,sb⟩:=fm.sides hp;have tk:=fm.tu_key vc;have eB:=Qs (c / 1000);have eA:=Qt (c / 1000);refine ⟨_,Y,b,_,Y,SqT.of hb,Y,_,_,Y,_,_,Y,Y,?_⟩
  try dsimp only [Zl]
  refine Zk λnxC f9=>?_;refine ⟨_,Y,_,Y,nb,_,_,_,Y,Y,SqL.of km,Oc hp,_,Y,_,Y,((c / 1000:Nat):Int),Y,nb,_,_,_,Y,Y,SqL.of km,(by rw [eB]; exact Oc sb),_,_,Y,?_⟩;refine f9 _ _ ?_
  try dsimp only [Zl]
  refine Zk λnxC f9=>?_;refine ⟨_,Y,_,Y,_,_,Y,Y,_,Y,_,Y,((c / 1000:Nat):Int),Y,nb,_,_,_,Y,Y,SqL.of km,(by rw [eA]; exact Oc sa),_,_,Y,Y,_,_,Y,Y,⟨by decide,by decide⟩,?_⟩;refine f9 _ _ ?_
  try dsimp only [Zl]
  refine ⟨_,Y,_,Y,_,_,Y,Y,_,Y,?_⟩;refine ite2 (λz=>?_) (λz=>?_)
  ·rw [if_pos (of_decide_eq_true z)] at tk
   refine ⟨_,Y,((c / 1000:Nat):Int),Y,_,Y,_,_,Y,Y,_,Y,_,_,Y,Y,(by show 2<=sizeLine; decide),λq' i7=>?_⟩;refine k q' _ (Same.new i7) i7 ?_;rw [Zc,<- tk,eB];rfl
  ·rw [if_neg (λy=>z (decide_eq_true y))] at tk
   refine ⟨_,Y,((c / 1000:Nat):Int),Y,_,Y,_,_,Y,Y,_,Y,_,_,Y,Y,(by show 2<=sizeLine; decide),λq' i7=>?_⟩;refine k q' _ (Same.new i7) i7 ?_;rw [Zc,<- tk,eA];rfl
def Ww:FnScope ["tent","numbers","start","way","at"] ["tent","numbers","start"] (Zh Oa):=Am
def Zaw (T:Txt w K mg t):FnOk P w K mg base (CXr P w) 5 t.bT t.bY ["tent","numbers","start"] (Zar t.aa):=by
 refine T.cg.F.aR Ww (λ_ _ _ _ H vs Q E hr h=>?_)
 ·obtain ⟨p,nb,b,M,ns,f,n,c,rfl,ta,iq,fm,nh,km,vc,hb,k⟩:=h
  refine ⟨_,(Zd (Zp (i:=3) Ww.nd Y (Or.inl Y) (Yl (Za (pv 2) Zb)))
   (Zd (Zp (i:=4) Ww.nd rfl (Or.inl rfl) (pcT (Vj T) hr T.aD (Za (pv 1) (Za (pcT (Jw T) hr T.ax (Za (pv 0) (Za (pv 1) (Za (pv 2) Zb)))) Zb))))
   (Zd (Jr PassesOwn.never (Zr (Zhg hr.units) (pv 4) (pv 2) (Zs _)) (Zd (Yp (Je PySem.F.plainAttrs_list PySem.F.slot_list_append PySem.F.type_list_append Y7 (pv 3) (Za (pv 4) Zb)))
   (Zg (Zp (i:=4) Ww.nd rfl (Or.inl rfl) (pcT (Vj T) hr T.aD (Za (pv 1) (Za (pcT (Jw T) hr T.ax (Za (pv 0) (Za (pv 1) (Za (pv 4) Zb)))) Zb)))))))
   (Zg (Zq (pv 3)))))),?_⟩;refine ⟨_,Y,(by show 1<=sizeLine; rw [sizeLine_eq]; decide),λl hl=>?_⟩;have s0:Same H (upd H l (.lst [V.ref b])):=Same.new hl;have h0:(upd H l (.lst [V.ref b])) l=some (.lst ([b].map V.ref)):=Zc;generalize upd H l (.lst [V.ref b])=H0 at s0 h0
  try dsimp only [Zl]
  refine ⟨_,Y,_,Y,_,Y,_,Y,p,nb,b,M,ns,f,n,c,Y,ta.same s0,iq,fm,s0 _ _ km,vc,s0 _ _ hb,λq1 H1 s1 wk h1=>?_⟩;refine ⟨nb,q1,M,f,n,sgP M f c,Y,fm,s1 _ _ (s0 _ _ km),fm.sgV vc,h1,λq2 H2 s2 rp h2=>?_⟩
  have p0:Xs H2 [b] [c]:=⟨rfl,λi b' c' e1 e2=>by
   cases i with
   | zero=>cases e1; cases e2; exact s2 _ _ (s1 _ _ (s0 _ _ hb))
   | succ i=>simp at e1⟩
  show tSeq (Q0 _ _) _ _ _ _;refine ⟨λm σ H3=>∃ (bs:List Addr) (os:List Nat) (la x:Nat) (q:Addr),m=1200 - os.length/\σ=[some (.ref p),some (.ref nb),some (.ref b),some (.ref l),some (.ref q)]/\Same H H3/\H3 l=some (.lst (bs.map V.ref))/\Xs H3 bs os/\Orb (RnP M f) c os/\os[os.length - 1]?=some la/\RnP M f la x/\H3 q=some (.tup ((kP x).map V.int)),⟨_,[b],[c],c,nxP M f c,q2,Y,Y,s0.trans (s1.trans s2),s2 _ _ (s1 _ _ h0),p0,Orb.one c,Y,⟨vc,Y⟩,h2⟩,?_⟩;clear p0 h2 rp s2 h1 wk s1 h0 s0;clear q1 q2 H0 H1 H2;rintro m σ H3 ⟨bs,os,la,x,q,rfl,rfl,s3,h3,pt,o,qt,r,hq⟩;refine ⟨_,Y,_,Y,?_⟩;refine ⟨ptD x,ptD c,.tup (SqT.of hq) (DVs.ints _),.tup (SqT.of (s3 _ _ hb)) (DVs.ints _),Zg4 x,Zg4 c,Zlk x c,_,Y,?_⟩;rw [Zi9];by_cases z:x=c
  ·rw [decide_eq_true z]
   subst z;exact iteF ⟨_,Y,k l bs os H3 s3 hl h3 pt ⟨o,la,qt,r⟩⟩
  ·rw [decide_eq_false z]
   have o':=o.snoc qt r (o.new fm.rinj qt r z);have gc:=fm.few nh o'.nodup (fm.orbV vc o');rw [Ae,At] at gc;have vx:VpP M f x:=fm.orbV vc o' x (List.mem_append_right _ List.mem_cons_self);have hbl:=pt.1;refine iteT ⟨_,λσ' H' h=>h,?_⟩;refine ⟨_,Y,.inl ⟨Y,_,SqL.of h3⟩,_,Y,l,_,_,Y,Y,h3,(by rw [Ab,sizeLine_eq]; lia),?_⟩;have iu:∀ {b':Addr} {k':Nat},H3 b'=some (.tup ((kP k').map V.int))->b'≠l:=λe z=>by rw [z,h3] at e; cases e
   have s4:Same H (upd H3 l (.lst (bs.map V.ref ++ [V.ref q]))):=Same.add s3 hl;have h4:(upd H3 l (.lst (bs.map V.ref ++ [V.ref q]))) l=some (.lst ((bs ++ [q]).map V.ref)):=by rw [Zc,Aj]; rfl
   have hq4:(upd H3 l (.lst (bs.map V.ref ++ [V.ref q]))) q=some (.tup ((kP x).map V.int)):=by rw [Zf (iu hq)]; exact hq
   have pt4:Xs (upd H3 l (.lst (bs.map V.ref ++ [V.ref q]))) bs os:=⟨pt.1,λi b' c' e1 e2=>by rw [Zf (iu (pt.2 i b' c' e1 e2))]; exact pt.2 i b' c' e1 e2⟩;show _;generalize upd H3 l (.lst (bs.map V.ref ++ [V.ref q]))=H4 at s4 h4 hq4 pt4
   try dsimp only [Zl]
   refine ⟨_,Y,_,Y,_,Y,_,Y,p,nb,q,M,ns,f,n,x,Y,ta.same s4,iq,fm,s4 _ _ km,vx,hq4,λq1 H5 s5 wk h5=>?_⟩;refine ⟨nb,q1,M,f,n,sgP M f x,Y,fm,s5 _ _ (s4 _ _ km),fm.sgV vx,h5,λq2 H6 s6 rp h6=>?_⟩;refine ⟨1200 - (os ++ [x]).length,by rw [Ae,At]; lia,bs ++ [q],os ++ [x],x,nxP M f x,q2,rfl,rfl,s4.trans (s5.trans s6),s6 _ _ (s5 _ _ h4),(pt4.snoc hq4).same (s5.trans s6),o',?_,⟨vx,rfl⟩,h6⟩;rw [Ae,At,Nat.add_sub_cancel,List.getElem?_append_right (An _),Nat.sub_self];rfl
def RwI (H:Hp) (as:List Addr) (gs:List (List Int)):Prop:=as.length=gs.length/\∀ (i:Nat) (a:Addr) (g:List Int),as[i]?=some a->gs[i]?=some g->H a=some (.lst (g.map V.int))
def RwI.same (h:RwI H as gs) (s:Same H H'):RwI H' as gs:=⟨h.1,λi b c hb hc=>s _ _ (h.2 i b c hb hc)⟩
def RwI.off (h:RwI H as gs) (s:Off x y H H') (n:∀ a∈as,a≠x/\a≠y):RwI H' as gs:=⟨h.1,λi b c hb hc=>s _ _ (n b (Au hb)).1 (n b (Au hb)).2 (h.2 i b c hb hc)⟩
def RwI.snoc {H:Hp} {bs:List Addr} {os:List (List Int)} {b:Addr} {c:List Int} (h:RwI H bs os) (hb:H b=some (.lst (c.map V.int))):RwI H (bs ++ [b]) (os ++ [c]):=by
 obtain ⟨h1,h2⟩:=h;refine ⟨by simp [h1],λi b' c' e1 e2=>?_⟩;by_cases z:i < bs.length
 ·rw [Av z] at e1
  rw [Av (by lia)] at e2;exact h2 i b' c' e1 e2
 ·rw [List.getElem?_append_right (by lia)] at e1
  rw [List.getElem?_append_right (by lia),<- h1] at e2;obtain ⟨k,hk⟩:∃ k,i - bs.length=k:=⟨_,rfl⟩;rw [hk] at e1 e2
  cases k with
  | zero=>cases e1; cases e2; exact hb
  | succ k=>simp at e1
def unV:V->Int
 | .int i=>i
 | _=>0
def rdI (H:Hp) (a:Addr):List Int:=match H a with
 | some (.lst xs)=>xs.map unV
 | _=>[]
def Zg1 {g:List Int} (h:H a=some (.lst (g.map V.int))):rdI H a=g:=by
 unfold rdI;rw [h];show (g.map V.int).map unV=g;rw [List.map_map];exact (List.map_congr_left λ_ _=>rfl).trans (List.map_id g)
def RwI.read {as:List Addr} (h:RwI H as gs):(∀ a∈as,H a=some (.lst ((rdI H a).map V.int)))/\gs=as.map (rdI H):=by
 obtain ⟨h1,h2⟩:=h;refine ⟨λa ha=>?_,?_⟩
 ·obtain ⟨i,hi,e⟩:=List.mem_iff_getElem.mp ha
  have:=h2 i a _ (by rw [Ac hi,e]) (Ac (by lia));rw [Zg1 this];exact this
 ·apply List.ext_getElem (by rw [Ab,h1])
  intro i a1 a2;rw [List.getElem_map];exact (Zg1 (h2 i _ _ (Ac (by lia)) (Ac a1))).symm
def RwI.of {as:List Addr} (h:∀ a∈as,H a=some (.lst ((rdI H a).map V.int))):RwI H as (as.map (rdI H)):=by
 refine ⟨by rw [Ab],λi a g e1 e2=>?_⟩;rw [Ah,e1] at e2;cases e2;exact h a (Au e1)
open Classical in
noncomputable def lstW (M:List (Option Nat)) (ws:List Nat):List Int:=if h:∃ L,HT.IsLeast (Qz M ws) L then h.choose else []
def Zeq (h:HT.IsLeast (Qz M ws) L):lstW M ws=L:=by
 have hx:∃ L,HT.IsLeast (Qz M ws) L:=⟨L,h⟩;unfold lstW;rw [dif_pos hx];exact hx.choose_spec.eq h λ_=>Iff.rfl
noncomputable def wL (M:List (Option Nat)) (f:Nat->Int) (c:Nat):List Int:=lstW M (wdP M f c)
noncomputable def thrs (M:List (Option Nat)) (f:Nat->Int):List (List Int):=(gT M f (ptsL f M.length) []).map (wL M f)
def Zo7 (H H':Hp) (l:Addr) (M:List (Option Nat)) (f:Nat->Int):Prop:=∃ (bs:List Addr) (gs:List (List Int)),H l=none/\H' l=some (.lst (bs.map V.ref))/\RwI H' bs gs/\gs.Pairwise (λx y=>HT.lexLt y x=false)/\gs.Perm (thrs M f)/\(∀ b∈bs,H b=none)/\l ∉ bs/\bs.length<=1000
def Fx (C:Addr):Sp:=λvs H Q _=>∃ (p c:Addr) (M:List (Option Nat)) (ns:List Int) (f:Nat->Int) (g:Int->Int),vs=[.ref p,.ref c]/\Zu C H p M ns/\TD M ns/\ns.length < 64/\Y4 H c ns g/\Nm ns f g/\PC M f/\sF f ns.length<=1200/\(∀ p,p < M.length->f p<=900)/\(thrs M f).Pairwise (λx y=>HT.lexLt y x=false) /\
 ∀ (l:Addr) (H':Hp),Same H H'->Zo7 H H' l M f->Q (.ref l) H'
def Zkm (h:Xg H xs) (hS:H S=some (Yv P w S ys)):Xg (upd H S o) xs:=λq hq=>by
 rw [Zf (λz=>by have:=h q hq; rw [z,hS] at this; unfold Yv at this; cases this)];exact h q hq
def Zos (h:Xg H xs) (hF:H F=some (.lst l)):Xg (upd H F o) xs:=λq hq=>by
 rw [Zf (λz=>by have:=h q hq; rw [z,hF] at this; cases this)];exact h q hq
def Xs.updF {H:Hp} {F:Addr} {bs:List Addr} {os:List Nat} {l:List V} {o:HO} (h:Xs H bs os) (hF:H F=some (.lst l)):Xs (upd H F o) bs os:=⟨h.1,λi b c hb hc=>by
 rw [Zf (λz=>by have:=h.2 i b c hb hc; rw [z,hF] at this; cases this)]
 exact h.2 i b c hb hc⟩
def Zou {i j:Nat} (h:j < 1000):kP (1000 * i + j)=[((i:Nat):Int),((j:Nat):Int)]:=by
 have d:=Xq (p:=i) (s:=j) h;unfold kP;rw [d.1,d.2]
def Xy:FnScope ["tent","counts","numbers","seen","family","start","way","at"] ["tent","counts"] (Zh Zbt):=Am
def Zhh (T:Txt w K mg t):FnOk P w K mg base (CXr P w) 9 t.bU t.bZ ["tent","counts"] (Fx t.aa):=by
  refine T.di.F.aR Xy (λ_ _ _ s H vs Q E hr h=>?_)
  · obtain ⟨p,c,M,ns,f,g,rfl,ta,td,jm,ic,nm,pc,j9,m5,ng,k⟩:=h
    have hu:=J3 hr;refine ⟨_,(Zd (Yp (pcT (Vz T) hr T.ap (Za (pv 0) (Za (pv 1) Zb))))
      (Zd (Zp (i:=2) Xy.nd rfl (Or.inr rfl) (Yg (ts:=["place"]) (fv:=[("counts",1),("tent",0)]) ⟨rfl,by decide +kernel,by decide +kernel,Yc (by rfl),⟨⟨rfl,rfl,Or.inl rfl⟩,⟨rfl,rfl,Or.inl rfl⟩,trivial⟩⟩ rfl (Yj (Jt (pv 0) T.ac T.ah.m (J9 T) (hr.mono (by decide)) T.ah.b .nil Yr)) (λ_ _ _ _=>(Zn (i:=0) (show List.Nodup (["place","counts","tent"]:List Str) from by decide +kernel) rfl (Or.inl rfl) (Or.inr rfl))) (λ_ _ _ _=>Yb) (λ_ _ _=>rfl) (λ_ _ _ _ _ _=>Ye (W7 hu (pv 1) (Xh (pv 2) T.ac T.ae.m (Jh T) (hr.mono (by decide)) T.ae.b .nil Yr (Za (pv 0) Zb)) (λ_ _=>rfl)))))
      (Zd (Zp (i:=3) Xy.nd rfl (Or.inl rfl) (Zfk Zf6 (by rfl) T.fY PySem.Pv.boot_set))
      (Zd (Zp (i:=4) Xy.nd rfl (Or.inl rfl) (Yl Zb))
      (Zd (Y0 PassesOwn.never rfl (Yj (Yg (ts:=["place","spot"]) (fv:=[("numbers",2)]) ⟨rfl,by decide +kernel,by decide +kernel,Yc (by rfl),⟨⟨rfl,rfl,Or.inl rfl⟩,trivial⟩⟩ rfl (Yj (Jt (pv 0) T.ac T.ah.m (J9 T) (hr.mono (by decide)) T.ah.b .nil Yr)) (λ_ _ _ _=>(Zn (i:=0) (show List.Nodup (["place","spot","numbers"]:List Str) from by decide +kernel) rfl (Or.inl rfl) (Or.inr rfl))) (λ_ _ _ _=>Yb) (λ_ _ _=>rfl) (λ_ _ _ _ _ _=>Zcl rfl rfl (Y1 rfl T.ak (Za (Zw (W6 K) (pv 2) (pv 0) (λ_ _=>rfl)) Zb)) (Zn (i:=1) (show List.Nodup (["place","spot","numbers"]:List Str) from by decide +kernel) rfl (Or.inl rfl) (Or.inr rfl)) Yb (Xo (Za (pv 0) (Za (pv 1) Zb)))))) (Zn (i:=5) Xy.nd rfl (Or.inl rfl)) (Zg (Z2 (Zr (Zcm hr.units) (pv 5) (pv 3) (by with_unfolding_all rfl)) (Zd (Zp (i:=6) Xy.nd rfl (Or.inl rfl) (pcT (Zaw T) hr T.cg (Za (pv 0) (Za (pv 2) (Za (pv 5) Zb)))))
      (Zd (Yp (Je PySem.F.plainAttrs_list PySem.F.slot_list_append PySem.F.type_list_append Y7 (pv 4) (Za (pcT (Zjj T) hr T.fC (Za (pv 0) (Za (Yg (ts:=["place","spot"]) (fv:=[]) ⟨rfl,by decide +kernel,by decide +kernel,Yc (by rfl),trivial⟩ rfl (Yj (pv 6)) (λ_ _ _ _=>(Zem (n:=2) K rfl (Zz (Zn (i:=0) (show List.Nodup (["place","spot"]:List Str) from by decide +kernel) rfl (Or.inl rfl) (Or.inr rfl)) (Zz (Zn (i:=1) (show List.Nodup (["place","spot"]:List Str) from by decide +kernel) rfl (Or.inl rfl) (Or.inr rfl)) Xv)))) (λ_ _ _ _=>Yb) (λ_ _ _=>rfl) (λ_ _ _ _ _ _=>Ye (pv 0))) Zb))) Zb)))
      (Zg (Y0 PassesOwn.never rfl (Yj (pv 6)) (Zn (i:=7) Xy.nd rfl (Or.inl rfl)) (Zd (Yp (Gm hr.units (pv 3) (Za (pv 7) Zb)))
      (Zg (Yp (Gm hr.units (pv 3) (Za (pcT (Jw T) hr T.ax (Za (pv 0) (Za (pv 2) (Za (pv 7) Zb)))) Zb))))))))) Zv)))
      (Zg (Zq (Zo (Zay hr.units) (by rfl) T.dq PyProof.Rows.boot_sorted (Za (pv 4) Zb))))))))),?_⟩
    have iq:M.length=ns.length:=td.len.symm;obtain ⟨n,n1,uk,hn⟩:=td.n;have fm:Fam M f n:=⟨pc,td.inv,hn,m5⟩;have nh:sF f M.length<=1200:=by rw [iq]; exact j9
    refine Zk λnxC f9=>?_;refine ⟨_,Y,_,Y,p,c,M,ns,f,g,Y,ta,td,jm,ic,nm,pc,j9,λH1 s1=>?_⟩;refine f9 _ _ ?_
    try dsimp only [Zl]
    have kg:=ta.same s1;obtain ⟨ks,nv,gq⟩:=ic.same s1;refine Zk λnxC f9=>?_;obtain ⟨dx,cl,na,sp,mt',o,f',b⟩:=id kg;refine ⟨_,Y,p,dx,_,Y,b.ins,Yd _ _ _ _,p,M,ns,Y,kg,by lia,λl hl=>?_⟩;have s2:Same H1 (upd H1 l (.lst ((List.range ns.length).map nV))):=Same.new hl;have h2:(upd H1 l (.lst ((List.range ns.length).map nV))) l=some (.lst ((List.range ns.length).map nV)):=Zc;generalize upd H1 l (.lst ((List.range ns.length).map nV))=H2 at s2 h2;clear b;refine ⟨l,Y,⟨_,SqL.of h2⟩,λnb km=>?_⟩;have k7:=kg.same s2;have ki:=s2 _ _ nv;refine Yi (xs:=(List.range ns.length).map nV) (λi σ H3=>∃ v,σ=[v,some (.ref c),some (.ref p)]/\Same H2 H3/\H3 nb=some (.lst (rowI i f))) ⟨none,Y,Same.new km,by rw [Zc]; rfl⟩ ?_ ?_ ?_
    · rintro i σ H3 _ ⟨v,rfl,s3,h3⟩
      exact SqL.of (s3 _ _ h2)
    · rintro i x σ H3 hx ⟨v,rfl,s3,h3⟩
      obtain ⟨hi,rfl⟩:i < ns.length/\x=nV i:=by
        rw [Ah] at hx;by_cases z:i < ns.length
        · rw [List.getElem?_range z] at hx; cases hx; exact ⟨z,Y⟩
        · rw [Ay (by rw [List.length_range]; lia)] at hx; cases hx
      dsimp only [Zl,tYes];rw [if_pos rfl];have vg:=k7.same s3;obtain ⟨dx,cl,na,sp,mt',o,f',b⟩:=id vg;have ey:=W9 hi;have vz:ns.getD i 0∈ks:=gq.mem_iff.mpr (Oo hi);refine ⟨_,Y,_,Y,p,dx,_,Y,b.ins,Yd _ _ _ _,_,Y,p,M,ns,i,Y,vg,λi' y e1 e2=>?_,λq=>absurd ⟨by lia,by lia⟩ q⟩;obtain rfl:i=i':=by lia
      rw [ey] at e2
      injection e2 with e2
      subst e2;refine ⟨c,_,Y,V8 (s3 _ _ ki) vz,?_⟩;refine ⟨_,h3,?_,_,Y,Same.add s3 km,?_⟩
      · rw [Ya]; exact Zx (by lia)
      · rw [Zc,nm _ _ ey]
        unfold rowI;rw [List.range_succ,Aj];rfl
    rintro σ H3 ⟨v,rfl,s3,h3⟩;rw [Ab,List.length_range,<- iq] at h3;refine f9 _ _ ?_
    try dsimp only [Zl]
    have vg:=k7.same s3;have pe:=s1.trans (s2.trans s3);have hnbH:H nb=none:=s1.free (s2.free km);clear s1 s2 s3 kg k7 nv ki h2 hl km;refine Zk λnxC f9=>?_;refine ⟨Y,λS hS=>?_⟩;refine f9 _ _ ?_;refine Zk λnxC f9=>?_;refine ⟨Az _,λF hF=>?_⟩;obtain ⟨zw,hF0⟩:=W1 hF;refine (λ(G:∀ H4:Hp,Same H3 H4->H4 S=some (Yv P w S [])->H4 F=some (.lst (([]:List Addr).map V.ref))->nxC _ H4)=>G _ (Same.add (Same.new hS) hF0) (by rw [Zf (Ne.symm zw),Zc]; rfl) Zc) ?_;intro H4 s4 zt zy;have hSH:H S=none:=pe.free hS;have hFH:H F=none:=pe.free hF0;refine f9 _ _ ?_;clear hF
    try dsimp only [Zl]
    have vn:=pe.trans s4;have qh:=vg.same s4;have h4:=s4 _ _ h3;have zg:nb≠S:=λz=>by rw [z,hS] at h3; cases h3
    have zh:nb≠F:=λz=>by rw [z,hF0] at h3; cases h3
    clear s4 vg h3 pe;show tSeq (tFor _ _ _) _ _ _ _;refine Z6 (λσ HX=>∃ (xs:List (List Int × Addr)) (as:List Addr) (v5 v6 v7:Option V),σ=[some (.ref p),some (.ref c),some (.ref nb),some (.ref S),some (.ref F),v5,v6,v7]/\Same H HX/\HX F=some (.lst (as.map V.ref))/\RwI HX as (thrs M f)/\(∀ a∈as,H a=none)/\as.length<=1000) (λnx ig=>?_) ?_
    · -- the starts
      obtain ⟨dx,cl,na,sp,mt',o,f',b⟩:=id qh;refine ⟨_,Y,p,dx,_,Y,b.ins,Yd _ _ _ _,p,M,ns,Y,qh,by lia,λl hl=>?_⟩;have s5:Same H4 (upd H4 l (.lst ((List.range ns.length).map nV))):=Same.new hl;have h5:(upd H4 l (.lst ((List.range ns.length).map nV))) l=some (.lst ((List.range ns.length).map nV)):=Zc;generalize upd H4 l (.lst ((List.range ns.length).map nV))=H5 at s5 h5;clear b;refine ⟨l,Y,⟨_,SqL.of h5⟩,λZ hZ=>?_⟩;have hn5:=s5 _ _ h4;refine Yi (xs:=(List.range ns.length).map nV) (λi σ H6=>∃ (zs:List Addr) (v v':Option V),σ=[v,v',some (.ref nb)]/\Same H5 H6/\H6 Z=some (.lst (zs.map V.ref))/\Xs H6 zs (ptsL f i)) ⟨[],none,none,Y,Same.new hZ,by rw [Zc]; rfl,rfl,λi b c e=>by simp at e⟩ ?_ ?_ ?_
      · rintro i σ H6 _ ⟨zs,v,v',rfl,s6,_⟩
        exact SqL.of (s6 _ _ h5)
      · rintro i x σ H6 hx ⟨zs,v,v',rfl,s6,h6,uj⟩
        obtain ⟨hi,rfl⟩:i < ns.length/\x=nV i:=by
          rw [Ah] at hx;by_cases z:i < ns.length
          · rw [List.getElem?_range z] at hx; cases hx; exact ⟨z,Y⟩
          · rw [Ay (by rw [List.length_range]; lia)] at hx; cases hx
        dsimp only [Zl,tYes];rw [if_pos rfl];have je:i < M.length:=by lia
        obtain ⟨f1,f2⟩:=fm.nf je
        have ip:((ptsL f i).length:Int)<=1200:=by
          have h1:=Vw f i λq hq=>pc.nn q (by lia);have h2:=Vw f M.length pc.nn
          have h3:(ptsL f i).length<=(ptsL f M.length).length:=by
            have:∀ d i,(ptsL f i).length<=(ptsL f (i + d)).length:=λd i=>by
              induction d with
              | zero=>exact An _
              | succ d ih=>show _<=(ptsL f (i + d) ++ _).length; rw [Ae]; lia
            have:=this (M.length - i) i;rwa [show i + (M.length - i)=M.length by lia] at this
          lia
        refine ⟨_,Y,_,Y,nb,_,_,_,Y,Y,SqL.of (s6 _ _ hn5),Oc je,_,Y,by lia,by lia,?_⟩;show Wo (Itr 0 (nN f i)) _ _ _ _ _ _;refine Qo (λj σ H7=>∃ (zs:List Addr) (v':Option V),σ=[some (nV i),v',some (.ref nb)]/\Same H5 H7/\H7 Z=some (.lst (zs.map V.ref))/\Xs H7 zs (ptsL f i ++ (List.range j).map λs=>1000 * i + s)) ⟨zs,v',Y,s6,h6,by rw [List.range_zero,List.map_nil,List.append_nil]; exact uj⟩ ?_ ?_
        · rintro j σ H7 hj ⟨zs,v',rfl,s7,h7,yz⟩
          dsimp only [Zl,tYes];rw [if_pos rfl,Int.zero_add];have rj:=yz.1;rw [Ae,Ab,List.length_range] at rj;refine ⟨_,Y,_,Y,(by show 2<=sizeLine; decide),λq hq=>?_⟩;have s8:Same H7 (upd H7 q (.tup [nV i,V.int j])):=Same.new hq;have e8:(upd H7 q (.tup [nV i,V.int j])) q=some (.tup ((kP (1000 * i + j)).map V.int)):=by rw [Zc,Zou (by lia)]; rfl
          show ∃ xs,(upd H7 q (.tup [nV i,V.int j])) Z=some (.lst xs)/\_;generalize upd H7 q (.tup [nV i,V.int j])=H8 at s8 e8 ⊢;refine ⟨_,s8 _ _ h7,by rw [Ab,sizeLine_eq]; lia,zs ++ [q],_,rfl,Same.add (s7.trans s8) hZ,by rw [Zc,Aj]; rfl,?_⟩;have hqZ:q≠Z:=λz=>by rw [z,h7] at hq; cases hq
          have p8:=(yz.same s8).snoc e8;rw [List.range_succ,Aj,<- List.append_assoc];refine ⟨p8.1,λi' b' c' e1 e2=>?_⟩;have:=p8.2 i' b' c' e1 e2;rw [Zf (λz=>by rw [z,s8 _ _ h7] at this; cases this)];exact this
        · rintro σ H7 ⟨zs,v',rfl,s7,h7,yz⟩
          exact ⟨zs,_,_,Y,s7,h7,yz⟩
      rintro σ H6 ⟨zs,v,v',rfl,s6,h6,uj⟩;rw [Ab,List.length_range,<- iq] at uj;have ql:=s5.trans s6;have hZS:Z≠S:=λz=>by rw [z] at hZ; rw [s5.free hZ] at zt; cases zt
      have hZF:Z≠F:=λz=>by rw [z] at hZ; rw [s5.free hZ] at zy; cases zy
      refine ⟨Z,Y,⟨_,SqL.of h6⟩,?_⟩;have e0:gT M f ((ptsL f M.length).take 0) []=[]:=rfl
      have neS:∀ {a:Addr} {x:HO},H6 a=some x->(∀ xs,x≠Yv P w S xs)->a≠S:=λe h z=>by rw [z,ql _ _ zt] at e; injection e with e; exact h _ e.symm
      have tS:∀ (a:Addr) (k:List V) (xs:List (List Int × Addr)),(HO.tup k)≠Yv P w a xs:=λa k xs z=>by unfold Yv at z; cases z
      have lS:∀ (a:Addr) (k:List V) (xs:List (List Int × Addr)),(HO.lst k)≠Yv P w a xs:=λa k xs z=>by unfold Yv at z; cases z
      refine Up (xs:=zs.map V.ref) (λi σ H7=>∃ (xs:List (List Int × Addr)) (as:List Addr) (v5 v6 v7:Option V),σ=[some (.ref p),some (.ref c),some (.ref nb),some (.ref S),some (.ref F),v5,v6,v7]/\Off S F H6 H7/\H7 S=some (Yv P w S xs)/\Xg H7 xs/\SeenK M f (Wu M f (gT M f ((ptsL f M.length).take i) []) []) (xs.map (·.1))/\H7 F=some (.lst (as.map V.ref))/\RwI H7 as ((gT M f ((ptsL f M.length).take i) []).map (wL M f))/\(∀ a∈as,H a=none/\a≠S/\a≠F)/\PrD M f (gT M f ((ptsL f M.length).take i) [])) ⟨[],[],none,none,none,Y,Off.refl,ql _ _ zt,λq hq=>absurd hq List.not_mem_nil,SeenK.nil,ql _ _ zy,⟨Y,λi a g e=>by simp at e⟩,λa ha=>absurd ha List.not_mem_nil,PrD.nil⟩ ?_ ?_ ?_
      · rintro i σ H7 _ ⟨xs,as,v5,v6,v7,rfl,ou,_⟩
        exact SqL.of (ou _ _ hZS hZF h6)
      · rintro i x σ H7 hx ⟨xs,as,v5,v6,v7,rfl,ou,qa,wz,uh,o8,ot,z8,rh⟩
        obtain ⟨b,hb,rfl⟩:=map_some hx;have hil:i < (ptsL f M.length).length:=by rw [<- uj.1]; exact (Aa hb).1
        obtain ⟨d,hd⟩:∃ d,(ptsL f M.length)[i]?=some d:=⟨_,Ac hil⟩;have vd:VpP M f d:=fm.pts_mem.mp (Au hd);have zp:=uj.2 i b d hb hd;have hbS:b≠S:=neS zp (tS _ _);have hbF:b≠F:=λz=>by rw [z,ql _ _ zy] at zp; cases zp
        have hb7:=ou _ _ hbS hbF zp;have et:(ptsL f M.length).take (i + 1)=(ptsL f M.length).take i ++ [d]:=by rw [Aw,hd]; rfl
        rw [et];generalize (ptsL f M.length).take i=L at uh ot rh ⊢;have gy:=@Znx M f L d;have gn:=@Zo1 M f L d;generalize gT M f L []=D at uh ot rh gy gn;dsimp only [Zl];have mem:=(uh.mem d vd).trans Zok;refine ⟨_,Y,_,Y,b,kP d,S,xs,Y,Y,hb7,qa,wz,_,Y,?_⟩;by_cases hm:kP d∈xs.map (·.1)
        · rw [decide_eq_true hm]
          refine iteF ?_;rw [gy (mem.mp hm)];exact ⟨xs,as,_,_,_,Y,ou,qa,wz,uh,o8,ot,z8,rh⟩
        · rw [decide_eq_false hm]
          have p6:¬ inS M f D d:=λz=>hm (mem.mpr z);rw [gn p6];have pr8:=fm.prS nh rh vd p6;have hDl:=fm.prL nh pr8;refine iteT ?_;have yt:Same H H7:=ou.same (vn.trans ql) hSH hFH;refine Zk λnxC f9=>?_;refine ⟨_,Y,_,Y,_,Y,p,nb,b,M,ns,f,n,d,Y,ta.same yt,iq,fm,nh,ou _ _ zg zh (ql _ _ h4),vd,hb7,λW ws os H8 s8 hW h8 yy o=>?_⟩;refine f9 _ _ ?_
          try dsimp only [Zl]
          have hWS:W≠S:=λz=>by rw [z,qa] at hW; cases hW
          have hWF:W≠F:=λz=>by rw [z,o8] at hW; cases hW
          have hos:=fm.few nh o.nodup (fm.orbV vd o.toOrb);have pk:=yy.1;refine Zk λnxC f9=>?_;refine ⟨_,Y,.inl ⟨Y,_,SqL.of (s8 _ _ o8)⟩,_,Y,_,Y,W,Y,⟨_,SqL.of h8⟩,λB hB=>?_⟩;refine Yi (xs:=ws.map V.ref) (λj σ H9=>∃ (v v':Option V),σ=[v,v']/\Same H8 H9/\H9 B=some (.lst (((os.take j).map (· / 1000)).map nV))) ⟨none,none,Y,Same.new hB,by rw [Zc]; rfl⟩ ?_ ?_ ?_
          · rintro j σ H9 _ ⟨v,v',rfl,s9,_⟩
            exact SqL.of (s9 _ _ h8)
          · rintro j x σ H9 hx ⟨v,v',rfl,s9,h9⟩
            obtain ⟨b',mh,rfl⟩:=map_some hx;have hj:j < os.length:=by rw [<- pk]; exact (Aa mh).1
            obtain ⟨c',j4⟩:∃ c',os[j]?=some c':=⟨_,Ac hj⟩;dsimp only [Zl,tYes];refine ⟨_,_,Y,SqT.of (s9 _ _ (yy.2 j b' c' mh j4)),Y,_,_,Y,_,_,Y,Y,?_⟩
            try rw [if_pos rfl]
            refine ⟨_,Y,_,h9,by rw [Ab,Ab,Ai,sizeLine_eq]; lia,_,_,rfl,Same.add s9 hB,?_⟩;rw [Zc,Aw,j4,Aj,Aj];rfl
          rintro σ H9 ⟨v,v',rfl,s9,h9⟩;rw [Ab,pk,List.take_length] at h9;have ui:=s8.trans s9;refine ⟨p,B,M,ns,os.map (· / 1000),Y,ta.same (yt.trans ui),iq,h9,by rw [Ab]; lia,fm.plain vd o,λl2 L2 HA sA iw hL2 isL=>?_⟩;have qk:=ui.trans sA;have qt:as.length<=600:=by rw [ot.1,Ab]; rw [Ae,At] at hDl; lia
          refine ⟨F,_,_,Y,Y,qk _ _ o8,(by rw [Ab,sizeLine_eq]; lia),?_⟩;have hl2S:l2≠S:=λz=>by rw [z,ui _ _ qa] at iw; cases iw
          have hl2F:l2≠F:=λz=>by rw [z,ui _ _ o8] at iw; cases iw
          have hl2H:H l2=none:=yt.free (ui.free iw);have ew:wL M f d=L2:=by unfold wL wdP; rw [O0 o]; exact Zeq isL
          have fr8:∀ a∈as ++ [l2],H a=none/\a≠S/\a≠F:=λa ha=>by
            rcases List.mem_append.mp ha with z | z
            · exact z8 a z
            · rw [Af z]; exact ⟨hl2H,hl2S,hl2F⟩
          refine (λ(G:∀ HB:Hp,Off S F H7 HB->HB S=some (Yv P w S xs)->HB F=some (.lst ((as ++ [l2]).map V.ref))->Xg HB xs->RwI HB (as ++ [l2]) ((D ++ [d]).map (wL M f))->HB W=some (.lst (ws.map V.ref))->Xs HB ws os->nxC _ HB)=>G _ (Off.of qk).b (by rw [Zf (Ne.symm zw)]; exact qk _ _ qa) (by rw [Zc,Aj]; rfl) (Zos (wz.same qk) (qk _ _ o8)) ?_ (by rw [Zf hWF]; exact (s9.trans sA) _ _ h8) ((yy.same (s9.trans sA)).updF (qk _ _ o8))) ?_
          · rw [Aj]
            refine ((ot.same qk).snoc ?_).off (Off.b Off.refl) λa ha=>(fr8 a ha).2;rw [ew];exact hL2
          intro HB ofB hSB hFB hKB rwB hWB ptB;refine f9 _ _ ?_
          try dsimp only [Zl]
          clear hL2 isL qk iw sA h9 s9 hB ui s8 h8 yy hW ot o8 qa wz;refine ⟨_,Y,W,Y,⟨_,SqL.of hWB⟩,?_⟩;refine Up (xs:=ws.map V.ref) (λj σ HC=>∃ (xs:List (List Int × Addr)) (v7:Option V),σ=[some (.ref p),some (.ref c),some (.ref nb),some (.ref S),some (.ref F),some (.ref b),some (.ref W),v7]/\Off S F HB HC/\HC S=some (Yv P w S xs)/\Xg HC xs/\SeenK M f (Wu M f D (os.take j)) (xs.map (·.1))/\HC F=some (.lst ((as ++ [l2]).map V.ref))) ⟨xs,_,Y,Off.refl,hSB,hKB,by rw [List.take_zero]; exact uh,hFB⟩ ?_ ?_ ?_
          · rintro j σ HC _ ⟨xs,v7,rfl,qo,_⟩
            exact SqL.of (qo _ _ hWS hWF hWB)
          · rintro j x σ HC hx ⟨xs,v7,rfl,qo,u5,wy,ug,zx⟩
            obtain ⟨b',mh,rfl⟩:=map_some hx;have hj:j < os.length:=by rw [<- pk]; exact (Aa mh).1
            obtain ⟨c',j4⟩:∃ c',os[j]?=some c':=⟨_,Ac hj⟩;have ve:VpP M f c':=fm.orbV vd o.toOrb c' (Au j4);have qw:=ptB.2 j b' c' mh j4
            have xy:b'≠S:=λz=>by rw [z,hSB] at qw; injection qw with qw; exact tS _ _ _ qw.symm
            have xz:b'≠F:=λz=>by rw [z,hFB] at qw; cases qw
            have hbC:=qo _ _ xy xz qw;have m9:=fm.seen_len nh ug;rw [Ab] at m9;dsimp only [Zl];refine Z6 (λσ HD=>∃ (xs:List (List Int × Addr)),σ=[some (.ref p),some (.ref c),some (.ref nb),some (.ref S),some (.ref F),some (.ref b),some (.ref W),some (.ref b')]/\Off S F HB HD/\HD S=some (Yv P w S xs)/\Xg HD xs/\SeenK M f (λx=>Wu M f D (os.take j) x\/x=c') (xs.map (·.1))/\HD F=some (.lst ((as ++ [l2]).map V.ref))) (λnx ig=>?_) ?_
            · refine ⟨_,Y,S,xs,Y,u5,_,Y,b',kP c',xs,Y,hbC,u5,wy,by lia,λnr=>ig _ _ ⟨xs,Y,qo,u5,wy,ug.old nr,zx⟩,λn6=>ig _ _ ⟨xs ++ [(kP c',b')],Y,qo.a,Zc,Zkm (wy.snoc hbC) u5,?_,by rw [Zf zw]; exact zx⟩⟩
              rw [Aj];exact ug.snoc ve n6
            rintro σ HD ⟨xs,rfl,vq,zr,hKD,skD,hFD⟩;have hbD:=vq _ _ xy xz qw;have sHD:Same H HD:=(ofB.trans vq).same yt hSH hFH;have m9:=fm.seen_len nh skD;rw [Ab] at m9;have e9:os.take (j + 1)=os.take j ++ [c']:=by rw [Aw,j4]; rfl
            rw [e9];refine ⟨_,Y,S,xs,Y,zr,_,Y,_,Y,_,Y,p,nb,b',M,ns,f,n,c',Y,ta.same sHD,iq,fm,vq _ _ zg zh (ofB _ _ zg zh (ou _ _ zg zh (ql _ _ h4))),ve,hbD,λq HE sE hq hqE=>?_⟩;refine ⟨q,kP (sgP M f c'),xs,Y,hqE,sE _ _ zr,hKD.same sE,by lia,λnr=>?_,λn6=>?_⟩
            · exact ⟨xs,_,Y,vq.trans (Off.of sE),sE _ _ zr,hKD.same sE,fm.seen_two ve (skD.old nr),sE _ _ hFD⟩
            · refine ⟨xs ++ [(kP (sgP M f c'),q)],_,Y,(vq.trans (Off.of sE)).a,Zc,Zkm ((hKD.same sE).snoc hqE) (sE _ _ zr),?_,by rw [Zf zw]; exact sE _ _ hFD⟩
              rw [Aj];exact fm.seen_two ve (skD.snoc (fm.sgV ve) n6)
          · rintro σ HC ⟨xs,v7,rfl,qo,u5,wy,ug,zx⟩
            rw [Ab,pk,List.take_length] at ug;exact ⟨xs,as ++ [l2],_,_,_,Y,ou.trans (ofB.trans qo),u5,wy,Zi3 o ug,zx,rwB.off qo λa ha=>(fr8 a ha).2,fr8,pr8⟩
      · rintro σ H7 ⟨xs,as,v5,v6,v7,rfl,ou,qa,wz,uh,o8,ot,z8,rh⟩
        rw [Ab,uj.1,List.take_length] at ot rh;have hDl:=fm.prL nh rh;refine ig _ _ ⟨xs,as,_,_,_,Y,ou.same (vn.trans ql) hSH hFH,o8,ot,λa ha=>(z8 a ha).1,?_⟩;rw [ot.1,Ab];lia
    · rintro σ HX ⟨xs,as,v5,v6,v7,rfl,sX,hFX,rwX,uy,wx⟩
      obtain ⟨r1,r2⟩:=rwX.read;refine ⟨_,rfl,F,as,rdI HX,rfl,SqL.of hFX,λa ha=>SqL.of (r1 a ha),wx,(by have z:=ng; rw [r2,List.pairwise_map] at z; exact z),λq bs hq pm pw=>?_⟩;have hbq:∀ b∈bs,b≠q:=λb hb z=>by have:=r1 b (pm.mem_iff.mp hb); rw [z,hq] at this; cases this
      refine k q _ (Same.add sX (sX.free hq)) ⟨bs,bs.map (rdI HX),sX.free hq,Zc,?_,?_,?_,λb hb=>uy b (pm.mem_iff.mp hb),λz=>hbq q z Y,by rw [pm.length_eq]; exact wx⟩
      · have:=RwI.of (H:=HX) (as:=bs) λb hb=>r1 b (pm.mem_iff.mp hb)
        exact ⟨this.1,λi a g e1 e2=>by rw [Zf (hbq a (Au e1))]; exact this.2 i a g e1 e2⟩
      · rw [List.pairwise_map]; exact pw
      · rw [r2]; exact pm.map _
def n4 (f:Nat->Int) (a b:Nat):List Int:=[f (aN a),f (bN a),f (aN b),f (bN b)]
def Zor {f:Nat->Int} {a b n j:Nat} {x:V} (ha:a < 3 * n) (hb:b < 3 * n) (h:(sqr a b)[j]?=some x):∃ z:Nat,z < 3 * n/\x=.int z/\(n4 f a b)[j]?=some (f z):=by
 obtain ⟨a1,a2⟩:=Jn ha;obtain ⟨b1,b2⟩:=Jn hb;unfold sqr at h;rw [Qt,Qs,Qt,Qs] at h
 match j,h with
 | 0,h=>cases h; exact ⟨_,a1,Y,Y⟩
 | 1,h=>cases h; exact ⟨_,a2,Y,Y⟩
 | 2,h=>cases h; exact ⟨_,b1,Y,Y⟩
 | 3,h=>cases h; exact ⟨_,b2,Y,Y⟩
 | j + 4,h=>simp at h
def gx (g:Int->Int) (x v:Int):Int->Int:=λy=>if y=x then v else g y
def Ko (C:Addr):Sp:=λvs H Q _=>∃ (p c:Addr) (M:List (Option Nat)) (ns:List Int) (f:Nat->Int) (g:Int->Int) (x:Int) (a b:Nat),vs=[.ref p,.ref c,.int x]/\Zu C H p M ns/\TD M ns/\Y4 H c ns g/\Nm ns f g/\Mv M ns x a b/\∀ H',Same H H'->Q (.int (bh f a b)) H'
def Kp (C:Addr):Sp:=λvs H Q _=>∃ (p c:Addr) (M:List (Option Nat)) (ns:List Int) (f:Nat->Int) (g:Int->Int) (x:Int) (a b:Nat),vs=[.ref p,.ref c,.int x]/\Zu C H p M ns/\TD M ns/\Y4 H c ns g/\Nm ns f g/\Mv M ns x a b /\
 ∀ (l:Addr) (H':Hp),Same H H'->H l=none->(∀ left,Y4 H' l (exN left a b ns) (gx g x (bh f a b)))->Q (.ref l) H'
def Xb:FnScope ["tent","counts","seam","a","b","c","d"] ["tent","counts","seam"] (Zh Vf):=Am
def Q7 (T:Txt w K mg t):FnOk P w K mg base (CXr P w) 5 t.bc t.bg ["tent","counts","seam"] (Ko t.aa):=by
  refine T.aA.F.aR Xb (λ_ _ _ _ H vs Q E hr h=>?_)
  · obtain ⟨p,c,M,ns,f,g,x,a,b,rfl,ta,td,ic,nm,mv,k⟩:=h
    have hu:=J3 hr;refine ⟨_,(Zd (Xm (Yg (ts:=["place"]) (fv:=[("counts",1),("tent",0)]) ⟨rfl,by decide +kernel,by decide +kernel,Yc (by rfl),⟨⟨rfl,rfl,Or.inl rfl⟩,⟨rfl,rfl,Or.inl rfl⟩,trivial⟩⟩ rfl (Zg9 (pcT (F8 T) hr T.df (Za (pv 0) (Za (pv 2) Zb)))) (λ_ _ _ _=>(Zn (i:=0) (show List.Nodup (["place","counts","tent"]:List Str) from by decide +kernel) rfl (Or.inl rfl) (Or.inr rfl))) (λ_ _ _ _=>Yb) (λ_ _ _=>rfl) (λ_ _ _ _ _ _=>Ye (W7 hu (pv 1) (Xh (pv 2) T.ac T.ae.m (Jh T) (hr.mono (by decide)) T.ae.b .nil Yr (Za (pv 0) Zb)) (λ_ _=>rfl)))) (Zhc rfl (Zz (Zn (i:=3) Xb.nd rfl (Or.inl rfl)) (Zz (Zn (i:=4) Xb.nd rfl (Or.inl rfl)) (Zz (Zn (i:=5) Xb.nd rfl (Or.inl rfl)) (Zz (Zn (i:=6) Xb.nd rfl (Or.inl rfl)) Xv))))))
      (Zg (Zq (Zi Xd (Zo (Zil rfl) (by rfl) T.fR PyProof.Rows.boot_max (Za (Zi Z4 (pv 3) (pv 5)) (Za (Zi Z4 (pv 4) (pv 6)) Zb))) (W7 hu (pv 1) (pv 2) (λ_ _=>rfl)))))),?_⟩
    obtain ⟨hk,ip⟩:=mv.two td;obtain ⟨n,n1,uk,hn⟩:=td.n;have hl:=td.len;obtain ⟨ha,hb⟩:=mv.lts td;have hs:Z5 ns x="free":=by unfold Z5; rw [ip]; exact if_neg mv.ab
    refine Zk λnxC f9=>?_;refine ⟨_,Y,_,Y,p,M,ns,x,Y,ta,td,λ_ H1 s1=>⟨λe=>absurd (hs.symm.trans e) (by decide),λe=>absurd (hs.symm.trans e) (by decide),λa' b' l e1 e2 e3 e4 jc hH=>?_⟩,λz=>absurd hk z⟩;rw [ip] at e1
    injection e1 with e5 e6
    injection e6 with e6 _
    subst e5;subst e6;have kg:=ta.same s1;obtain ⟨ks,nv,gq⟩:=ic.same s1;refine ⟨l,Y,⟨_,SqT.of hH⟩,λD hD=>?_⟩;refine Ui (xs:=sqr a b) (λj σ H2=>∃ (v:Option V),σ=[v,some (.ref c),some (.ref p)]/\Same H1 H2/\H2 D=some (.lst (((n4 f a b).take j).map V.int))) ⟨none,Y,Same.new hD,Zc⟩ ?_ ?_ ?_
    · rintro j σ H2 _ ⟨v,rfl,s2,_⟩
      exact SqT.of (s2 _ _ hH)
    · rintro j y σ H2 hy ⟨v,rfl,s2,h2⟩
      dsimp only [Zl,tYes];rw [if_pos rfl];obtain ⟨z,hz,rfl,hf⟩:=Zor (f:=f) (n:=n) (by lia) (by lia) hy;have k7:=kg.same s2;obtain ⟨dx,cl,na,sp,mt,o,ff,B⟩:=id k7;have ox:z < ns.length:=by lia
      have ey:=W9 ox;have vz:ns.getD z 0∈ks:=gq.mem_iff.mpr (Oo ox);refine ⟨_,Y,_,Y,p,dx,_,Y,B.ins,Yd _ _ _ _,_,Y,p,M,ns,z,Y,k7,λi y e1 e2=>?_,λq=>absurd ⟨by lia,by lia⟩ q⟩;obtain rfl:z=i:=by lia
      rw [ey] at e2
      injection e2 with e2
      subst e2;refine ⟨c,_,Y,V8 (s2 _ _ nv) vz,?_⟩;refine ⟨_,h2,?_,_,Y,Same.add s2 hD,?_⟩
      · rw [Ab,Ai]
        exact Zx (by have:(n4 f a b).length=4:=rfl; lia)
      · rw [Zc,Aw,hf,nm _ _ ey]
        simp
    rintro σ H2 ⟨v,rfl,s2,h2⟩;have zz:H2 D=some (.lst ((n4 f a b).map V.int)):=h2;refine ⟨D,_,Y,SqL.of zz,Y,_,_,Y,_,_,Y,_,_,Y,_,_,Y,Y,?_⟩;refine f9 _ _ ?_;have hxk:x∈ks:=gq.mem_iff.mpr hk;refine ⟨_,Y,_,Y,_,_,Y,Y,_,Y,_,Y,_,_,Y,Y,_,_,Y,_,Y,_,Y,c,_,Y,V8 (s2 _ _ nv) hxk,_,_,Y,Y,?_⟩;rw [nm a x mv.nm];exact k H2 (s1.trans s2)
def Q2:FnScope ["tent","counts","seam","behind"] ["tent","counts","seam"] (Zh Vg):=Am
def Kr (T:Txt w K mg t):FnOk P w K mg base (CXr P w) 6 t.bd t.bi ["tent","counts","seam"] (Kp t.aa):=by
 refine T.bj.F.aR Q2 (λ_ _ _ _ H vs Q E hr h=>?_)
 ·obtain ⟨p,c,M,ns,f,g,x,a,b,rfl,ta,td,ic,nm,mv,k⟩:=h
  have hu:=J3 hr;refine ⟨_,(Zd (Zp (i:=3) Q2.nd Y (Or.inl Y) (X1 Zf8 (by rfl) T.fV PySem.Pv.boot_dict (Za (pv 1) Zb)))
   (Zd (Zek hu (pv 3) (pv 2) (pcT (Q7 T) hr T.aA (Za (pv 0) (Za (pv 1) (Za (pv 2) Zb)))) rfl)
   (Zg (Zq (pv 3))))),?_⟩
  obtain ⟨hk,ip⟩:=mv.two td;obtain ⟨ks,hc,gq⟩:=id ic;refine Zk λnxC f9=>?_;refine ⟨_,Y,c,_,Y,.inl hc,λd hd=>?_⟩;refine f9 _ _ ?_;have s1:Same H (upd H d (.dK (dI ks g))):=Same.new hd;have h1:(upd H d (.dK (dI ks g))) d=some (.dK (dI ks g)):=Zc;generalize upd H d (.dK (dI ks g))=H1 at s1 h1 ⊢
  try dsimp only [Zl]
  refine Zk λnxC f9=>?_;have hxk:x∈ks:=gq.mem_iff.mpr hk;refine ⟨_,Y,_,Y,_,Y,p,c,M,ns,f,g,x,a,b,Y,ta.same s1,td,ic.same s1,nm,mv,λH2 s2=>?_⟩;have h2:=s2 _ _ h1;refine ⟨_,Y,_,Y,d,_,Y,DPut.k (k:=Sum.inl x) h2 (by rw [Zc9]; exact Zx (by have h3:=gq.length_eq; have h4:=V4 ns ns.length; obtain ⟨n,n1,uk,hn⟩:=td.n; have:=td.len; lia)),?_⟩;refine f9 _ _ ?_;refine ⟨_,Y,k d _ (Same.add (s1.trans s2) hd) hd λleft=>⟨ks,?_,gq.trans (Zl3 td mv.hM mv.ab left)⟩⟩;rw [Zc,Zih hxk];rfl
def Zhw {M:List (Option Nat)} (h:0 < M.length):∃ x,(M.map mV)[0]?=some x/\∀ t,x≠V.ref t:=by
 refine ⟨mV M[0],by rw [Ah,Ac h]; rfl,λt z=>?_⟩
 cases e:M[0] with
 | none=>rw [e] at z; cases z
 | some y=>rw [e] at z; cases z
def Zl4 {xs:List Int} (h:0 < xs.length):∃ x,(xs.map V.int)[0]?=some x/\∀ t,x≠V.ref t:=⟨V.int xs[0],by rw [Ah,Ac h]; rfl,λt z=>by cases z⟩
def Zlv {ws:List Nat} (h:0 < ws.length):∃ x,(ws.map nV)[0]?=some x/\∀ t,x≠V.ref t:=⟨nV ws[0],by rw [Ah,Ac h]; rfl,λt z=>by cases z⟩
def Y4.upd {H:Hp} {c l:Addr} {ns:List Int} {g:Int->Int} {xs ys:List V} (h:Y4 H c ns g) (hl:H l=some (.lst xs)):Y4 (L2.upd H l (.lst ys)) c ns g:=by
 obtain ⟨ks,h1,h2⟩:=h;exact ⟨ks,by rw [Zf (λz=>by rw [z,hl] at h1; cases h1)]; exact h1,h2⟩
def Zu.grow {C:Addr} {H:Hp} {p l:Addr} {M:List (Option Nat)} {ns:List Int} {ts:List Addr} {mv:List (Int × Bool)} {ys:List V} (h:Zu C H p M ns) (td:TD M ns) (hl:H l=some (.lst (ts.map V.ref))) (hm:Xa H l mv):Zu C (L2.upd H l (.lst ys)) p M ns:=by
 obtain ⟨dx,cl,na,sp,mt,o,f,b⟩:=h;obtain ⟨n,n1,_,hn⟩:=td.n;have hnl:=td.len;refine ⟨dx,cl,na,sp,mt,o,f,?_,b.rows.upd (Zlg b.rows hm (by lia)) hl,?_,?_,?_,λx hx=>?_⟩
 ·rw [Zf (λz=>by have:=b.ins; rw [z,hl] at this; cases this)]; exact b.ins
 ·rw [Zf (G9 b.names hl (Zl4 (by lia)))]; exact b.names
 ·rw [Zf (λz=>by have:=b.spots; rw [z,hl] at this; cases this)]; exact b.spots
 ·rw [Zf (G9 b.mates hl (Zhw (by lia)))]; exact b.mates
 ·have:0 < (pl ns ns.length x).length:=by
   obtain ⟨i,hi,e⟩:=Yk.mp hx;have:i∈pl ns ns.length x:=by unfold pl; exact List.mem_filter.mpr ⟨List.mem_range.mpr hi,decide_eq_true e⟩
   exact List.length_pos_of_mem this
  rw [Zf (G9 (b.at' x hx) hl (Zlv this))]; exact b.at' x hx
def Mv.free {M:List (Option Nat)} {ns:List Int} {x:Int} {a b:Nat} (h:Mv M ns x a b) (td:TD M ns):Z5 ns x="free":=by
 unfold Z5;rw [(h.two td).2];exact if_neg h.ab
def Zl6 {M:List (Option Nat)} {ns:List Int} {x:Int} (td:TD M ns) (hx:x∈keys ns ns.length) (h:Z5 ns x="free"):∃ a b,Mv M ns x a b:=by
 rcases Qj td hx with ⟨e,_⟩ | ⟨e,_⟩ | ⟨_,a,b,gz,e,hM,hd⟩
 ·rw [h] at e; exact absurd e (by decide)
 ·rw [h] at e; exact absurd e (by decide)
 ·refine ⟨a,b,hM,gz,?_,hd⟩
  have:a∈pl ns ns.length x:=by rw [e]; exact List.mem_cons_self
  unfold pl at this;exact of_decide_eq_true (List.mem_filter.mp this).2
def Fb (C:Addr):Sp:=λvs H Q _=>∃ (p c:Addr) (M:List (Option Nat)) (ns:List Int) (f:Nat->Int) (g:Int->Int),vs=[.ref p,.ref c]/\Zu C H p M ns/\TD M ns/\ns.length < 64/\Y4 H c ns g/\Nm ns f g /\
 (∀ H',Same H H'->Zdi M ns f->Q .non H')/\(∀ (x:Int) (a b:Nat) H',Same H H'->BestAt M ns f x a b->Q (.int x) H')
def Jl (M:List (Option Nat)) (ns:List Int) (f:Nat->Int) (ys:List Int) (v:V) (mo:Int):Prop :=
 (v=.non/\mo=0/\∀ (y:Int) (p j:Nat),y∈ys->Mv M ns y p j->sv f p j<=0) \/
 ∃ x a b,v=.int x/\Mv M ns x a b/\mo=sv f a b/\0 < mo/\x∈ys/\∀ (y:Int) (p j:Nat),y∈ys->Mv M ns y p j->sv f p j < mo\/(sv f p j=mo/\x<=y)
def X7 {ys:List Int} {i:Nat} {y z:Int} (hy:ys[i]?=some y) (h:z∈ys.take (i + 1)):z∈ys.take i\/z=y:=by
 rw [Aw,hy] at h
 rcases List.mem_append.mp h with h | h
 ·exact .inl h
 ·exact .inr (by simpa using h)
def Qf {ys:List Int} {i:Nat} {y z:Int} (hy:ys[i]?=some y) (h:z∈ys.take i\/z=y):z∈ys.take (i + 1):=by
 rw [Aw,hy]
 rcases h with h | h
 ·exact List.mem_append_left _ h
 ·exact List.mem_append_right _ (by simp [h])
def Jl.skip {M:List (Option Nat)} {ns:List Int} {f:Nat->Int} {ys:List Int} {i:Nat} {y:Int} {v:V} {mo:Int} (h:Jl M ns f (ys.take i) v mo) (hy:ys[i]?=some y) (hn:∀ p j,¬ Mv M ns y p j):Jl M ns f (ys.take (i + 1)) v mo:=by
 rcases h with ⟨e1,e2,e3⟩ | ⟨x,a,b,e1,e2,e3,e4,e5,e6⟩
 ·refine .inl ⟨e1,e2,λz p j hz mz=>?_⟩
  rcases X7 hy hz with h | rfl
  ·exact e3 z p j h mz
  ·exact absurd mz (hn p j)
 ·refine .inr ⟨x,a,b,e1,e2,e3,e4,Qf hy (.inl e5),λz p j hz mz=>?_⟩
  rcases X7 hy hz with h | rfl
  ·exact e6 z p j h mz
  ·exact absurd mz (hn p j)
def Jl.more {M:List (Option Nat)} {ns:List Int} {f:Nat->Int} {ys:List Int} {i:Nat} {y:Int} {v:V} {mo:Int} {a b:Nat} (td:TD M ns) (h:Jl M ns f (ys.take i) v mo) (hy:ys[i]?=some y) (hm:Mv M ns y a b) (hl:mo < sv f a b):Jl M ns f (ys.take (i + 1)) (.int y) (sv f a b):=by
 have m0:0<=mo:=by
  rcases h with ⟨_,e2,_⟩ | ⟨_,_,_,_,_,_,e4,_⟩ <;> lia
 refine .inr ⟨y,a,b,Y,hm,Y,by lia,Qf hy (.inr Y),λz p j hz mz=>?_⟩
 rcases X7 hy hz with hz | rfl
 ·left
  rcases h with ⟨_,e2,e3⟩ | ⟨x,a',b',_,_,e3,e4,_,e6⟩
  ·have:=e3 z p j hz mz; lia
  ·rcases e6 z p j hz mz with q | ⟨q,_⟩ <;> lia
 ·obtain ⟨rfl,rfl⟩:=Mv.same td hm mz
  exact .inr ⟨Y,Int.le_refl _⟩
def Jl.keep {M:List (Option Nat)} {ns:List Int} {f:Nat->Int} {ys:List Int} {i:Nat} {y:Int} {v:V} {mo:Int} {a b:Nat} (td:TD M ns) (hs:ys.Pairwise (·<=·)) (h:Jl M ns f (ys.take i) v mo) (hy:ys[i]?=some y) (hm:Mv M ns y a b) (hl:¬ mo < sv f a b):Jl M ns f (ys.take (i + 1)) v mo:=by
 rcases h with ⟨e1,e2,e3⟩ | ⟨x,a',b',e1,e2,e3,e4,e5,e6⟩
 ·refine .inl ⟨e1,e2,λz p j hz mz=>?_⟩
  rcases X7 hy hz with hz | rfl
  ·exact e3 z p j hz mz
  ·obtain ⟨rfl,rfl⟩:=Mv.same td hm mz
   lia
 ·refine .inr ⟨x,a',b',e1,e2,e3,e4,Qf hy (.inl e5),λz p j hz mz=>?_⟩
  rcases X7 hy hz with hz | rfl
  ·exact e6 z p j hz mz
  ·obtain ⟨rfl,rfl⟩:=Mv.same td hm mz
   have y8:x<=z:=by
    obtain ⟨k,hk,ek⟩:=List.mem_iff_getElem.mp e5;rw [Ai] at hk;have hi:=(Aa hy);rw [List.getElem_take] at ek;have:=List.pairwise_iff_getElem.mp hs k i (by lia) hi.1 (by lia);rw [ek,hi.2] at this;exact this
   rcases Int.lt_or_le (sv f p j) mo with q | q
   ·exact .inl q
   ·exact .inr ⟨by lia,y8⟩
def Zes {M:List (Option Nat)} {ns:List Int} {x:Int} {a b:Nat} (h:Mv M ns x a b):x∈keys ns ns.length:=Yk.mpr ⟨a,(Aa h.nm).1,h.nm⟩
def Za3 (M:List (Option Nat)) (ns:List Int) (f:Nat->Int) (v:V):Prop:=(v=.non/\Zdi M ns f)\/∃ x a b,v=.int x/\BestAt M ns f x a b
def Zbf (C:Addr):Sp:=λvs H Q _=>∃ (p c:Addr) (M:List (Option Nat)) (ns:List Int) (f:Nat->Int) (g:Int->Int),vs=[.ref p,.ref c]/\Zu C H p M ns/\TD M ns/\ns.length < 64/\Y4 H c ns g/\Nm ns f g/\PC M f/\sF f ns.length<=1200 /\
 ∀ (l:Addr) (mv:List (Int × Bool)) (H':Hp),Same H H'->H l=none->Xa H' l mv->Ease M ns f mv->Q (.ref l) H'
def Y8:FnScope ["tent","counts","best","most","seam","less"] ["tent","counts"] (Zh Ur):=Am
def Vy (T:Txt w K mg t):FnOk P w K mg base (CXr P w) 6 t.bH t.bM ["tent","counts"] (Fb t.aa):=by
 refine T.aQ.F.aR Y8 (λ_ _ _ _ H vs Q E hr h=>?_)
 ·obtain ⟨p,c,M,ns,f,g,rfl,ta,td,jm,ic,nm,k1,k2⟩:=h
  have hu:=J3 hr;refine ⟨_,(Zd (Zp (i:=2) Y8.nd Y (Or.inl Y) Ws)
   (Zd (Zp (i:=3) Y8.nd rfl (Or.inl rfl) Ze)
   (Zd (Y0 PassesOwn.never rfl (Yj (Jt (pv 0) T.ac T.av.m (Uy T) (hr.mono (by decide)) T.av.b .nil Yr)) (Zn (i:=4) Y8.nd rfl (Or.inl rfl)) (Zg (Z2 (Zr Yw (Xh (pv 0) T.ac T.af.m (Jg T) (hr.mono (by decide)) T.af.b .nil Yr (Za (pv 4) Zb)) Yf (Zs _)) (Zd (Zp (i:=5) Y8.nd rfl (Or.inl rfl) (Zi Xd (W7 hu (pv 1) (pv 4) (λ_ _=>rfl)) (pcT (Q7 T) hr T.aA (Za (pv 0) (Za (pv 1) (Za (pv 4) Zb))))))
   (Zg (Z2 (Zr Wx (pv 5) (pv 3) (Zs _)) (Zg (Zg5 (i:=2) (j:=3) rfl Y8.nd rfl rfl (by decide) rfl rfl (Za (pv 4) (Za (pv 5) Zb)) (by rfl))) Zv))) Zv)))
   (Zg (Zq (pv 2)))))),?_⟩
  refine Zk λnxC f9=>?_;refine f9 _ _ ?_;refine Zk λnxC f9=>?_;refine f9 _ _ ?_
  try dsimp only [Zl]
  show tSeq (tFor _ _ _) _ _ _ _;refine Z6 (λσ H'=>∃ (v2:V) (mo:Int) (v4 v5:Option V),σ=[some (.ref p),some (.ref c),some v2,some (.int mo),v4,v5]/\Same H H'/\Jl M ns f (keys ns ns.length) v2 mo) (λnx ig=>?_) ?_
  ·obtain ⟨dx,cl,na,sp,mt,o,ff,B⟩:=id ta
   refine ⟨_,Y,p,dx,_,Y,B.ins,Yd _ _ _ _,p,M,ns,Y,ta,jm,λl out hl pm st=>?_⟩;have s1:Same H (upd H l (.lst (out.map V.int))):=Same.new hl;have h1:(upd H l (.lst (out.map V.int))) l=some (.lst (out.map V.int)):=Zc;generalize upd H l (.lst (out.map V.int))=H1 at s1 h1 ⊢;refine ⟨l,Y,⟨_,SqL.of h1⟩,?_⟩;refine Up (xs:=out.map V.int) (λi σ H'=>∃ (v2:V) (mo:Int) (v4 v5:Option V),σ=[some (.ref p),some (.ref c),some v2,some (.int mo),v4,v5]/\Same H1 H'/\Jl M ns f (out.take i) v2 mo) ⟨_,_,_,_,Y,Same.refl _,.inl ⟨Y,Y,λy p j hy=>by simp at hy⟩⟩ ?_ ?_ ?_
   ·rintro i σ H' _ ⟨v2,mo,v4,v5,rfl,s2,_⟩
    exact SqL.of (s2 _ _ h1)
   ·rintro i y0 σ H2 hy0 ⟨v2,mo,v4,v5,rfl,s2,am⟩
    obtain ⟨y,hy,rfl⟩:=map_some hy0;have wa:y∈keys ns ns.length:=pm.mem_iff.mp (Au hy);have k7:=ta.same (s1.trans s2);obtain ⟨dx,cl,na,sp,mt,o,ff,B⟩:=id k7;dsimp only [Zl];refine ⟨_,Y,p,dx,_,Y,B.ins,Yd _ _ _ _,_,Y,p,M,ns,y,Y,k7,td,λ_ H3 s3=>?_,λz=>absurd wa z⟩;refine ⟨Y,_,Y,?_⟩;by_cases e:Z5 ns y="free"
    ·rw [decide_eq_true (show V.str (Z5 ns y)=V.str "free" by rw [e])]
     refine iteT ?_;obtain ⟨a,b,mv⟩:=Zl6 td wa e;have kh:=s1.trans (s2.trans s3);obtain ⟨ks,hc3,gq⟩:=ic.same kh;refine Zk λnxC f9=>?_;refine ⟨_,Y,_,Y,c,_,Y,V8 hc3 (gq.mem_iff.mpr wa),_,Y,_,Y,_,Y,p,c,M,ns,f,g,y,a,b,Y,ta.same kh,td,ic.same kh,nm,mv,λH4 s4=>⟨_,_,Y,Y,?_⟩⟩;refine f9 _ _ ?_
     try dsimp only [Zl]
     have el:g y - bh f a b=sv f a b:=by rw [nm a y mv.nm]; rfl
     refine ⟨_,Y,_,Y,_,_,Y,Y,_,Y,?_⟩;refine ite2 (λz=>?_) (λz=>?_)
     ·have z:mo < sv f a b:=by rw [<- el]; exact of_decide_eq_true z
      refine ⟨_,Y,_,Y,_,_,Y,?_⟩;refine ⟨.int y,sv f a b,some (.int y),some (.int (g y - bh f a b)),?_,s2.trans (s3.trans s4),am.more td hy mv z⟩;rw [<- el];rfl
     ·have z:¬ mo < sv f a b:=λq=>z (decide_eq_true (by rw [<- el] at q; exact q))
      exact ⟨_,_,_,_,Y,s2.trans (s3.trans s4),am.keep td st hy mv z⟩
    ·rw [Vn e]
     refine iteF ⟨_,_,_,_,Y,s2.trans s3,am.skip hy λp j mv=>e (mv.free td)⟩
   ·rintro σ H2 ⟨v2,mo,v4,v5,rfl,s2,am⟩
    rw [Ab,List.take_length] at am;refine ig _ _ ⟨_,_,_,_,Y,s1.trans s2,?_⟩
    rcases am with ⟨e1,e2,e3⟩ | ⟨x,a,b,e1,e2,e3,e4,e5,e6⟩
    ·exact .inl ⟨e1,e2,λy p j hy=>e3 y p j (pm.mem_iff.mpr hy)⟩
    ·exact .inr ⟨x,a,b,e1,e2,e3,e4,pm.mem_iff.mp e5,λy p j hy=>e6 y p j (pm.mem_iff.mpr hy)⟩
  ·rintro σ H2 ⟨v2,mo,v4,v5,rfl,s2,am⟩
   rcases am with ⟨rfl,e2,e3⟩ | ⟨x,a,b,rfl,e2,e3,e4,e5,e6⟩
   ·exact ⟨_,Y,k1 H2 s2 λy p j mv=>e3 y p j (Zes mv) mv⟩
   ·subst e3
    exact ⟨_,Y,k2 x a b H2 s2 ⟨e2,e4,λy p j mv=>e6 y p j (Zes mv) mv⟩⟩
def W3:FnScope ["tent","counts","moves","seam"] ["tent","counts"] (Zh Zed):=Am
def Zjl (T:Txt w K mg t):FnOk P w K mg base (CXr P w) 7 t.cN t.cO ["tent","counts"] (Zbf t.aa):=by
 refine T.dM.F.aR W3 (λ_ _ _ _ H vs Q E hr h=>?_)
 ·obtain ⟨p,c,M,ns,f,g,rfl,ta,td,jm,ic,nm,pc,j9,k⟩:=h
  refine ⟨_,(Zd (Yp (pcT (Vz T) hr T.ap (Za (pv 0) (Za (pv 1) Zb))))
   (Zd (Zp (i:=2) W3.nd rfl (Or.inl rfl) (Yl Zb))
   (Zd (Zp (i:=3) W3.nd rfl (Or.inl rfl) (pcT (Vy T) hr T.aQ (Za (pv 0) (Za (pv 1) Zb))))
   (Zd (Jr PassesOwn.never (Zr Jv (pv 3) Ws (Zs _)) (Zd (Yp (Je PySem.F.plainAttrs_list PySem.F.slot_list_append PySem.F.type_list_append Y7 (pv 2) (Za (Xo (Za (pv 3) (Za Yf Zb))) Zb)))
   (Zd (Zp (i:=1) W3.nd rfl (Or.inl rfl) (pcT (Kr T) hr T.bj (Za (pv 0) (Za (pv 1) (Za (pv 3) Zb)))))
   (Zd (Zp (i:=0) W3.nd rfl (Or.inl rfl) (pcT (Zcp T) hr T.cI (Za (pv 0) (Za (pv 3) (Za Yf Zb)))))
   (Zg (Zp (i:=3) W3.nd rfl (Or.inl rfl) (pcT (Vy T) hr T.aQ (Za (pv 0) (Za (pv 1) Zb)))))))))
   (Zg (Zq (pv 2))))))),?_⟩;refine Zk λnxC f9=>?_;refine ⟨_,Y,_,Y,p,c,M,ns,f,g,Y,ta,td,jm,ic,nm,pc,j9,λH1 s1=>?_⟩;refine f9 _ _ ?_;refine Zk λnxC f9=>?_;refine ⟨Az _,λl jc=>?_⟩;refine f9 _ _ ?_;have l8:H l=none:=s1.free jc;have s2:Same H1 (upd H1 l (.lst [])):=Same.new jc;have h2:Xa (upd H1 l (.lst [])) l []:=⟨[],Zc,rfl,λk t q e _=>by simp at e⟩;generalize upd H1 l (.lst [])=H2 at s2 h2 ⊢
  try dsimp only [Zl]
  have oq:=s1.trans s2;have iq:=td.len;refine Z6 (λσ H'=>∃ v3,σ=[some (.ref p),some (.ref c),some (.ref l),some v3]/\Same H2 H'/\Za3 M ns f v3) (λnx ig=>?_) ?_
  ·exact ⟨_,Y,_,Y,p,c,M,ns,f,g,Y,ta.same oq,td,jm,ic.same oq,nm,λH' s' nb=>ig _ _ ⟨_,Y,s',.inl ⟨Y,nb⟩⟩,λx a b H' s' be=>ig _ _ ⟨_,Y,s',.inr ⟨x,a,b,Y,be⟩⟩⟩
  rintro σ H3 ⟨v3,rfl,s3,sv3⟩;have h3:=h2.same s3;have kh:=oq.trans s3;have n0:=Ov (n:=M.length) pc.nn;show tSeq (Q0 _ _) _ _ _ _;refine Z6 (λσ H'=>∃ (p' c':Addr) (v3:V) (mv:List (Int × Bool)),σ=[some (.ref p'),some (.ref c'),some (.ref l),some v3]/\Same H H'/\Xa H' l mv/\Ease M ns f mv) (λnx ig=>?_) ?_
  ·refine ⟨fun μ σ H'=>∃ (p' c':Addr) (v3:V) (Mi:List (Option Nat)) (ni:List Int) (fi:Nat->Int) (gi:Int->Int) (mv:List (Int × Bool)),μ=(sF fi M.length).toNat/\σ=[some (.ref p'),some (.ref c'),some (.ref l),some v3]/\Same H H'/\Zu t.aa H' p' Mi ni/\TD Mi ni/\Mi.length=M.length/\Y4 H' c' ni gi/\Nm ni fi gi/\PC Mi fi/\Xa H' l mv/\mv.length + (sF fi M.length).toNat<=1200/\Za3 Mi ni fi v3/\∀ r,Ease Mi ni fi r->Ease M ns f (mv ++ r),
    ⟨_,p,c,v3,M,ns,f,g,[],rfl,rfl,kh,ta.same kh,td,rfl,ic.same kh,nm,pc,h3,by rw [iq] at j9; simp; lia,sv3,λr h=>h⟩,?_⟩
   clear h3 sv3 s3 kh h2;rintro μ σ H4 ⟨p',c',v3,Mi,ni,fi,gi,mv,rfl,rfl,s4,qh,m7,u7,yd,nm4,pc4,um,gc,sv4,gj⟩;refine ⟨_,Y,Y,_,Y,?_⟩
   rcases sv4 with ⟨rfl,nb⟩ | ⟨x,a,b,rfl,be⟩
   ·refine iteF (ig _ _ ⟨p',c',_,mv,Y,s4,um,?_⟩)
    have:=gj [] (.nil nb);rw [List.append_nil] at this;exact this
   ·refine iteT ⟨_,λσ' H' h=>h,?_⟩
    obtain ⟨us,u1,u2,u3⟩:=id um;have hl4:=m7.len;refine Zk λnxC f9=>?_;refine ⟨_,Y,.inl ⟨Y,_,SqL.of u1⟩,_,Y,(by show 2<=sizeLine; decide),λtq wf=>?_⟩;have sB:Same H4 (upd H4 tq (.tup [.int x,.str (wayS true)])):=Same.new wf;have hB:(upd H4 tq (.tup [.int x,.str (wayS true)])) tq=some (.tup [.int x,.str (wayS true)]):=Zc;have eB:upd H4 tq (.tup [.int x,.str "left"])=upd H4 tq (.tup [.int x,.str (wayS true)]):=rfl;refine ⟨l,_,_,Y,Y,(sB _ _ u1),(by rw [Ab,sizeLine_eq]; lia),?_⟩;refine f9 _ _ ?_;have yn:=sB _ _ u1;have mvB:=um.same sB;have sC:Same H (upd (upd H4 tq (.tup [.int x,.str (wayS true)])) l (.lst (us.map V.ref ++ [V.ref tq]))):=Same.add (s4.trans sB) l8;have taC:=(qh.same sB).grow (ys:=us.map V.ref ++ [V.ref tq]) m7 yn mvB;have yc:=(yd.same sB).upd (ys:=us.map V.ref ++ [V.ref tq]) yn;have mvC:=Xa.put yn u2 (λk t q e1 e2=>sB _ _ (u3 k t q e1 e2)) hB;show tSeq _ _ _ _ (upd (upd H4 tq (.tup [.int x,.str (wayS true)])) l (.lst (us.map V.ref ++ [V.ref tq])));generalize upd (upd H4 tq (.tup [.int x,.str (wayS true)])) l (.lst (us.map V.ref ++ [V.ref tq]))=HC at sC taC yc mvC ⊢;clear sB hB u1 u3 yn mvB wf um yd qh s4 eB
    try dsimp only [Zl]
    refine Zk λnxC f9=>?_;refine ⟨_,Y,_,Y,_,Y,p',c',Mi,ni,fi,gi,x,a,b,Y,taC,m7,yc,nm4,be.mv,λc2 HD sD ki cnt2=>?_⟩;refine f9 _ _ ?_
    try dsimp only [Zl]
    obtain ⟨hk,ip⟩:=be.mv.two m7;refine Zk λnxC f9=>?_;refine ⟨_,Y,_,Y,p',Mi,ni,x,wayS true,Y,taC.same sD,m7,Wrong.free m7 hk ip be.mv.ab λHE sE p2 _ taE=>?_⟩;rw [Zks] at taE;refine f9 _ _ ?_
    try dsimp only [Zl]
    have sCE:=sD.trans sE;have td5:TD (exM true a b Mi) (exN true a b ni):=be.mv.td m7;have nm5:Nm (exN true a b ni) (fx true a b fi) (gx gi x (bh fi a b)):=nm4.ex m7 be.mv.hM be.mv.ab be.mv.nm true;have pc5:PC (exM true a b Mi) (fx true a b fi):=pc4.ex m7 be.mv.hM be.mv.ab true;have less:=Zic m7 pc4 be true;have n5:=Ov (n:=(exM true a b Mi).length) pc5.nn;rw [Xw] at n5;rw [u7] at less n5;have yb:=(cnt2 true).same sE;have lenE:(exN true a b ni).length < 64:=by rw [Ja]; lia
    have ik:∀ (v:V) (HF:Hp),Same HE HF->Za3 (exM true a b Mi) (exN true a b ni) (fx true a b fi) v->∃ μ',μ' < (sF fi M.length).toNat/\∃ (p' c':Addr) (v3:V) (Mi:List (Option Nat)) (ni:List Int) (fi:Nat->Int) (gi:Int->Int) (mv:List (Int × Bool)),μ'=(sF fi M.length).toNat/\[some (V.ref p2),some (V.ref c2),some (V.ref l),some v]=[some (.ref p'),some (.ref c'),some (.ref l),some v3]/\Same H HF/\Zu t.aa HF p' Mi ni/\TD Mi ni/\Mi.length=M.length/\Y4 HF c' ni gi/\Nm ni fi gi/\PC Mi fi/\Xa HF l mv/\mv.length + (sF fi M.length).toNat<=1200/\Za3 Mi ni fi v3/\∀ r,Ease Mi ni fi r->Ease M ns f (mv ++ r):=λv HF qj hv =>
     ⟨_,by lia,p2,c2,v,_,_,_,_,mv ++ [(x,true)],rfl,rfl,sC.trans (sCE.trans qj),taE.same qj,td5,by rw [Xw]; exact u7,yb.same qj,nm5,pc5,mvC.same (sCE.trans qj),by rw [Ae,At]; lia,hv,λr h=>by rw [List.append_assoc]; exact gj _ (.cons m7 be h)⟩
    exact ⟨_,Y,_,Y,p2,c2,_,_,_,_,Y,taE,td5,lenE,yb,nm5,λHF qj nb=>ik _ _ qj (.inl ⟨Y,nb⟩),λx' a' b' HF qj be'=>ik _ _ qj (.inr ⟨x',a',b',Y,be'⟩)⟩
  ·rintro σ H4 ⟨p',c',v3,mv,rfl,s4,um,ease⟩
   exact ⟨_,Y,k l mv H4 s4 l8 um ease⟩
def Zfv {kvs:List (Key × V)} (Pv:Nat->St->Hp->Prop) (h0:Pv 0 σ H) (hl:∀ i σ H,i<=kvs.length->Pv i σ H->H d=some (.frz o (.dK kvs)))
  (hs:∀ (i:Nat) k x σ H,kvs[i]?=some (k,x)->Pv i σ H->g (kV k) σ H λσ2 H2=>tt σ2 H2 λb H3=>if b=true then tb σ2 H3 (Pv (i + 1)) else Pv (i + 1) σ2 H3) (hd:∀ σ H,Pv kvs.length σ H->R σ H):Wo (Itk2 d kvs o) g tt tb R σ H:=by
 refine ⟨λi m σ H=>m=kvs.length - i/\i<=kvs.length/\Pv i σ H,⟨kvs.length,by simp,Az _,h0⟩,?_⟩;rintro i m σ H ⟨rfl,hi,p⟩;have q:=hl i σ H hi p;by_cases gr:i < kvs.length
 ·refine .inr ⟨⟨gr,q⟩,Pv (i + 1),λσ' H' p'=>⟨kvs.length - (i + 1),by lia,Y,gr,p'⟩,λx H' y=>?_⟩
  obtain ⟨e,k,v,y,ex⟩:=y;subst e ex;exact hs i k v σ _ y p
 ·have e:i=kvs.length:=by lia
  subst e;exact .inl ⟨⟨An _,q⟩,hd σ H p⟩
def Zgq {t u:TSX} {D:Ends} {R:Value->St->Hp->Prop} {σ:St} {H:Hp} (n9:St->Hp->Prop) (ht:∀ nx:St->Hp->Prop,(∀ σ H,n9 σ H->nx σ H)->t { D with nx:=nx } R σ H) (hu:∀ σ H,n9 σ H->u D R σ H):Zj9 t u D R σ H:=ht (u D R) hu
def Vo (C EM:Addr):Sp:=λvs H Q E=>∃ (p c:Addr) (M:List (Option Nat)) (ns:List Int) (f:Nat->Int) (g:Int->Int),vs=[.ref p,.ref c]/\Zu C H p M ns/\TD M ns/\ns.length < 64/\Y4 H c ns g/\Nm ns f g/\PC M f/\1200 < sF f ns.length/\∀ H',Same H H'->E (.ref EM) none H'
def Zm2:Sp:=λvs H Q _=>∃ (r c:Addr) (ns:List Int) (f:Nat->Int),vs=[.ref r,.ref c]/\Yo H r ns/\ns.length<=1000/\H c=some (.lst (rowI ns.length f)) /\
 ∀ (g:Int->Int) (H':Hp),Same H H'->(∀ x∈keys ns ns.length,∃ p,ns[p]?=some x/\g x=f p)->Q (.int ((keys ns ns.length).map g).sum) H'
def Zix (C:Addr):Sp:=λvs H Q _=>∃ (p c:Addr) (M:List (Option Nat)) (ns:List Int) (f:Nat->Int) (g:Int->Int),vs=[.ref p,.ref c]/\Zu C H p M ns/\TD M ns/\ns.length < 64/\Y4 H c ns g/\Nm ns f g/\PC M f /\
 (sF f ns.length<=1200->(∀ p,p < M.length->f p<=900)/\(thrs M f).Pairwise (λx y=>HT.lexLt y x=false)/\∀ (l:Addr) (H':Hp) (bs:List Addr) (gs:List (List Int)),Same H H'->H' l=some (.lst (bs.map V.ref))->RwI H' bs gs->gs.Perm (thrs M f)->bs.length<=1000->Q (.ref l) H') /\
 (1200 < sF f ns.length->∀ (l:Addr) (H':Hp),Same H H'->H' l=some (.lst [.str "too many"])->Q (.ref l) H')
def Zk8 (C:Addr):Sp:=λvs H Q _=>∃ (p c:Addr) (M:List (Option Nat)) (ns:List Int) (f:Nat->Int) (g:Int->Int),vs=[.ref p,.ref c]/\Zu C H p M ns/\TD M ns/\ns.length < 64/\Y4 H c ns g/\Nm ns f g/\PC M f /\
 (sF f ns.length<=1200->∀ (H':Hp),Same H H'->Q (.str "") H')/\(1200 < sF f ns.length->∀ (H':Hp),Same H H'->Q (.str "too many") H')
def Vh (T:Txt w K mg t):FnOk P w K mg base (CXr P w) 5 t.aL t.aM ["tent","counts"] (Vo t.aa t.aw):=by
 refine T.ap.F.aX Vq (λ_ _ _ _ H vs Q E hr h=>?_)
 ·obtain ⟨p,c,M,ns,f,g,rfl,ta,td,jm,ic,nm,pc,j9,k⟩:=h
  refine ⟨_,(Z3 (Y6 (Yp (pcT (V0 T) hr T.aP (Za (pv 0) (Za (pv 1) Zb)))))
   (Z7 (Q5 (Zr Wx (Gk rfl (pv 1) ⟨rfl,rfl,rfl⟩ (by rfl) T.fc) (Oy (v:=.int 600) rfl T.aY ⟨_,rfl⟩) (Zs _)) (Z7 (We T.cn FBV rfl T.bQ rfl (Za Yf Zb))) W4))),?_⟩;refine Zgq (λσ H'=>σ=[some (.ref p),some (.ref c)]/\Same H H') (λnx ig=>⟨_,Y,_,Y,p,c,M,ns,g,Y,ta,td,jm,ic,Zkg pc nm td,λH1 s1=>ig _ _ ⟨Y,s1⟩⟩) ?_;rintro σ H1 ⟨rfl,s1⟩;obtain ⟨ks,nv,gq⟩:=ic.same s1;refine ⟨_,Y,c,_,ks.map g,Y,.inl nv,(by unfold dI; rw [List.map_map,List.map_map]; rfl),_,_,rfl,rfl,_,rfl,?_⟩;have e:(600:Int) < (ks.map g).sum:=by
   have h1:=Kn (gq.map g)
   have h2:=On td nm pc
   lia
  show if decide ((600:Int) < (ks.map g).sum)=true then _ else _
  rw [decide_eq_true e];exact iteT ⟨by decide,k _ s1⟩
def Zfl (T:Txt w K mg t):FnOk P w K mg base (CXr P w) 9 t.bU t.bZ ["tent","counts"] (Vo t.aa t.aw):=by
 refine T.di.F.aX Xy (λ_ _ _ _ H vs Q E hr h=>?_)
 ·obtain ⟨p,c,rfl⟩:∃ p c,vs=[.ref p,.ref c]:=by obtain ⟨p,c,M,ns,f,g,rfl,_⟩:=h; exact ⟨p,c,Y⟩
  exact ⟨_,(Z3 (Wf (pxT (Vh T) hr T.ap (Za (pv 0) (Za (pv 1) Zb))))
   (Zei Yz)),⟨_,rfl,_,rfl,h⟩⟩
def Zho (T:Txt w K mg t):FnOk P w K mg base (CXr P w) 7 t.cN t.cO ["tent","counts"] (Vo t.aa t.aw):=by
 refine T.dM.F.aX W3 (λ_ _ _ _ H vs Q E hr h=>?_)
 ·obtain ⟨p,c,rfl⟩:∃ p c,vs=[.ref p,.ref c]:=by obtain ⟨p,c,M,ns,f,g,rfl,_⟩:=h; exact ⟨p,c,Y⟩
  exact ⟨_,(Z3 (Wf (pxT (Vh T) hr T.ap (Za (pv 0) (Za (pv 1) Zb))))
   (Zei Yz)),⟨_,rfl,_,rfl,h⟩⟩
def Zfm (T:Txt w K mg t):FnOk P w K mg base (CXr P w) 9 t.bU t.bZ ["tent","counts"] (λvs H Q E=>Fx t.aa vs H Q E\/Vo t.aa t.aw vs H Q E):=(Zhh T).or (Zfl T)
def Zhp (T:Txt w K mg t):FnOk P w K mg base (CXr P w) 7 t.cN t.cO ["tent","counts"] (λvs H Q E=>Zbf t.aa vs H Q E\/Vo t.aa t.aw vs H Q E):=(Zjl T).or (Zho T)
def Qk:FnScope ["_law_tent_here","_law_counts","_law_told"] ["_law_tent_here","_law_counts"] (Zh F2):=Am
def Gq (T:Txt w K mg t):FnOk P w K mg base (CXr P w) 10 t.dz t.dF ["_law_tent_here","_law_counts"] (Zix t.aa):=by
 refine T.cj.F.aR Qk (λ_ _ _ _ H vs Q E hr h=>?_)
 ·obtain ⟨p,c,M,ns,f,g,rfl,ta,td,jm,ic,nm,pc,k1,k2⟩:=h
  refine ⟨_,(Zd (Zp (i:=2) Qk.nd Y (Or.inl Y) (Yl Zb))
   (Zd (Zej T.cn FBV.hasBase rfl T.bQ (Z7 (Vx (i:=2) Qk.nd rfl (Or.inl rfl) (pxT (Zfm T) hr T.di (Za (pv 0) (Za (pv 1) Zb))))) (λ_=>(Zg (Zp (i:=2) Qk.nd rfl (Or.inl rfl) (Yl (Za Yf Zb))))))
   (Zg (Zq (pv 2))))),?_⟩;refine Zk λnxC f9=>?_;refine ⟨Az _,λl0 l8=>?_⟩;refine f9 _ _ ?_;have s0:=Same.new (o:=.lst []) l8;by_cases hs:sF f ns.length<=1200
  ·obtain ⟨le9,ng,k⟩:=k1 hs
   refine Zk λnxC f9=>?_;refine ⟨_,Y,_,Y,.inl ⟨p,c,M,ns,f,g,Y,ta.same s0,td,jm,ic.same s0,nm,pc,hs,le9,ng,λl H1 s1 fa=>?_⟩⟩;refine f9 _ _ ?_;obtain ⟨bs,gs,_,h1,h2,_,h3,_,_,h4⟩:=fa;exact ⟨_,Y,k l H1 bs gs (s0.trans s1) h1 h2 h3 h4⟩
  ·refine Zk λnxC f9=>?_
   refine ⟨_,Y,_,Y,.inr ⟨p,c,M,ns,f,g,Y,ta.same s0,td,jm,ic.same s0,nm,pc,by lia,λH1 s1=>?_⟩⟩;refine ⟨Y,Nat.le_of_lt_succ (by decide),λl hl=>?_⟩;refine f9 _ _ ?_;exact ⟨_,Y,k2 (by lia) l _ (s0.trans (s1.trans (Same.new hl))) Zc⟩
def U6:FnScope ["_law_tent_here","_law_counts","_law_told"] ["_law_tent_here","_law_counts"] (Zh Zb1):=Am
def F9 (T:Txt w K mg t):FnOk P w K mg base (CXr P w) 8 t.ed t.eS ["_law_tent_here","_law_counts"] (Zk8 t.aa):=by
 refine T.dl.F.aR U6 (λ_ _ _ _ H vs Q E hr h=>?_)
 ·obtain ⟨p,c,M,ns,f,g,rfl,ta,td,jm,ic,nm,pc,k1,k2⟩:=h
  refine ⟨_,(Zd (Zp (i:=2) U6.nd Y (Or.inl Y) Yf)
   (Zd (Zej T.cn FBV.hasBase rfl T.bQ (Z7 (Wf (pxT (Zhp T) hr T.dM (Za (pv 0) (Za (pv 1) Zb))))) (λ_=>(Zg (Zp (i:=2) U6.nd rfl (Or.inl rfl) Yf))))
   (Zg (Zq (pv 2))))),?_⟩;refine Zk λnxC f9=>?_;refine f9 _ _ ?_;by_cases hs:sF f ns.length<=1200
  ·refine Zk λnxC f9=>?_
   refine ⟨_,Y,_,Y,.inl ⟨p,c,M,ns,f,g,Y,ta,td,jm,ic,nm,pc,hs,λl mv H1 s1 _ _ _=>?_⟩⟩;refine f9 _ _ ?_;exact ⟨_,Y,k1 hs H1 s1⟩
  ·refine Zk λnxC f9=>?_
   refine ⟨_,Y,_,Y,.inr ⟨p,c,M,ns,f,g,Y,ta,td,jm,ic,nm,pc,by lia,λH1 s1=>?_⟩⟩;refine ⟨Y,?_⟩;refine f9 _ _ ?_;exact ⟨_,Y,k2 (by lia) H1 s1⟩
def Zbn:FnScope ["_law_rows_here","_law_counts","_law_due"] ["_law_rows_here","_law_counts"] (Zh Zec):=Am
def Zjk (T:Txt w K mg t):FnOk P w K mg base (CXr P w) 2 t.ft t.fA ["_law_rows_here","_law_counts"] Zm2:=by
 refine T.fD.F.aR Zbn (λ_ _ _ _ H vs Q E hr h=>?_)
 ·obtain ⟨r,c,ns,f,rfl,jz,hn,hc,k⟩:=h
  have hu:=J3 hr;refine ⟨_,(Zd (Zp (i:=2) Zbn.nd Y (Or.inr Y) (pcT (Qm T) hr T.aW (Za (pv 0) (Za (pv 1) Zb))))
   (Zg (Zq (Zo (Zaj rfl) (by rfl) T.fc PyProof.Rows.boot_sum (Za (Zlr (Yg (ts:=["_law_seam"]) (fv:=[("_law_due",2)]) ⟨rfl,by decide +kernel,by decide +kernel,Yc (by rfl),⟨⟨rfl,rfl,Or.inl rfl⟩,trivial⟩⟩ rfl (Zlq (pv 2)) (λ_ _ _ _=>(Zn (i:=0) (show List.Nodup (["_law_seam","_law_due"]:List Str) from by decide +kernel) rfl (Or.inl rfl) (Or.inr rfl))) (λ_ _ _ _=>Yb) (λ_ _ _=>rfl) (λ_ _ _ _ _ _=>Ye (W7 hu (pv 1) (pv 0) (λ_ _=>rfl))))) Zb))))),?_⟩
  refine Zk λnxC f9=>?_;refine ⟨_,Y,_,Y,r,c,ns,f,Y,jz,hn,hc,λd g H1 s1 hd h1 hg=>?_⟩;refine f9 _ _ ?_;have l9:=V4 ns ns.length;refine ⟨_,Y,d,_,Y,.inl ⟨h1,λo=>?_⟩⟩;intro D hD;obtain ⟨hDd,hD3⟩:=W1 hD;refine Zfv (kvs:=dI (keys ns ns.length) g) (λi σ H4=>∃ v,σ=[v,some (.ref d)]/\(∀ b u,b≠d->H1 b=some u->H4 b=some u)/\H4 d=some (.frz o (.dK (dI (keys ns ns.length) g)))/\H4 D=some (.lst ((((keys ns ns.length).take i).map g).map V.int))) ⟨none,Y,λb u hb e=>by rw [Zf (Zj e hD3),Zf hb]; exact e,by rw [Zf (Ne.symm hDd),Zc],Zc⟩ ?_ ?_ ?_
  ·rintro i σ H4 _ ⟨v,rfl,_,e,_⟩
   exact e
  ·rintro i k0 x0 σ H4 md ⟨v,rfl,s4,e4,l4⟩
   obtain ⟨y,hy,rfl⟩:∃ y,(keys ns ns.length)[i]?=some y/\k0=Sum.inl y:=by
    unfold dI at md;rw [Ah] at md
    cases e:(keys ns ns.length)[i]? with
    | none=>rw [e] at md; cases md
    | some z=>rw [e] at md; cases md; exact ⟨z,Y,Y⟩
   have wa:=Au hy;dsimp only [Zl,tYes,kV];rw [if_pos rfl];refine ⟨_,Y,_,Y,d,V.int (g y),Y,.inl ⟨_,Sum.inl y,.inr ⟨o,e4⟩,Y,(Zig wa).symm⟩,_,l4,by rw [Ab,Ab,Ai]; exact Zx (by lia),_,Y,λb u hb e=>?_,?_,?_⟩
   ·rw [Zf (Zj e hD3)]; exact s4 b u hb e
   ·rw [Zf (Ne.symm hDd)]; exact e4
   ·rw [Zc,Aw,hy,Aj,Aj]; rfl
  rintro σ H4 ⟨v,rfl,s4,e4,l4⟩;rw [Zc9,List.take_length] at l4;refine ⟨d,o,_,e4,(λo' u z=>by have z:H d=some (.frz o' u):=z; rw [hd] at z; cases z),?_⟩
  have s5:Same H (upd H4 d (.dK (dI (keys ns ns.length) g))):=λb u e=>by
   have hb:b≠d:=λz=>by rw [z,hd] at e; cases e
   rw [Zf hb]; exact s4 b u hb (s1 b u e)
  have l5:(upd H4 d (.dK (dI (keys ns ns.length) g))) D=some (.lst (((keys ns ns.length).map g).map V.int)):=by rw [Zf hDd]; exact l4
  exact ⟨D,_,Y,SqL.of l5,k g _ s5 hg⟩
def M0:List (Option Nat):=[some 5,some 4,some 3,some 2,some 1,some 0]
def n0:List Int:=[1,2,3,3,2,1]
def f0 (n:Nat) (p:Nat):Int:=if p=2\/p=3 then 0 else n
def g0 (n:Nat) (x:Int):Int:=if x=3 then 0 else n
def six {p:Nat} (h:p < 6):p=0\/p=1\/p=2\/p=3\/p=4\/p=5:=by lia
def Za4 {i:Nat} {j:Option Nat} (h:M0[i]?=some j):i < 6/\j=some (5 - i):=by
 have hi:i < 6:=(Aa h).1;refine ⟨hi,?_⟩
 rcases six hi with rfl | rfl | rfl | rfl | rfl | rfl <;> exact (Ax h).symm
def Za1 {i:Nat} {x:Int} (h:n0[i]?=some x):i < 6/\x=if i=0\/i=5 then 1 else if i=1\/i=4 then 2 else 3:=by
 have hi:i < 6:=(Aa h).1;refine ⟨hi,?_⟩
 rcases six hi with rfl | rfl | rfl | rfl | rfl | rfl <;> exact (Ax h).symm
def Fu {i:Nat} (h:i < 6):M0[i]?=some (some (5 - i)):=by
 rcases six h with rfl | rfl | rfl | rfl | rfl | rfl <;> rfl
def td0:TD M0 n0:=by
 refine ⟨⟨2,by decide,by decide,Y⟩,Y,λi j h=>?_,λi x h=>?_,λi j x h h'=>?_,λi j h=>?_⟩
 ·obtain ⟨h1,h2⟩:=Za4 h
  cases h2;refine ⟨?_,by lia⟩;rw [Fu (by lia)];congr 2;lia
 ·obtain ⟨h1,rfl⟩:=Za1 h
  split
  ·lia
  ·split <;> lia
 ·obtain ⟨h1,e1⟩:=Za1 h
  obtain ⟨h2,e2⟩:=Za1 h';rw [Fu h1];have:i=j\/5 - i=j:=by
   rw [e1] at e2
   split at e2 <;> split at e2 <;> try split at e2
   all_goals (try split at e2)
   all_goals lia
  rcases this with e | e
  ·exact .inl e
  ·exact .inr (by rw [e])
 ·obtain ⟨h1,h2⟩:=Za4 h
  cases h2
  rcases six h1 with rfl | rfl | rfl | rfl | rfl | rfl <;> rfl
def Zf3 (n:Nat):f0 n 0=n/\f0 n 1=n/\f0 n 2=0/\f0 n 3=0/\f0 n 4=n/\f0 n 5=n:=⟨rfl,rfl,rfl,rfl,rfl,rfl⟩
def ab0:(aN 0=1/\bN 0=2)/\(aN 1=2/\bN 1=0)/\(aN 2=0/\bN 2=1)/\(aN 3=4/\bN 3=5)/\(aN 4=5/\bN 4=3)/\(aN 5=3/\bN 5=4):=by decide +kernel
def pc0 (n:Nat):PC M0 (f0 n):=by
 obtain ⟨a0,a1,a2,a3,a4,a5⟩:=Zf3 n;obtain ⟨⟨p0,q0⟩,⟨p1,q1⟩,⟨p2,q2⟩,⟨p3,q3⟩,⟨p4,q4⟩,p5,q5⟩:=ab0;refine ⟨λp _=>?_,λp h=>?_,λp q h=>?_,λp hp=>?_,λp hp=>?_⟩
 ·unfold f0; split <;> lia
 ·cases (Za4 h).2
 ·obtain ⟨h1,h2⟩:=Za4 h
  cases h2
  rcases six h1 with rfl | rfl | rfl | rfl | rfl | rfl <;> rfl
 ·rcases six hp with rfl | rfl | rfl | rfl | rfl | rfl
  ·rw [p0,q0]; lia
  ·rw [p1,q1]; lia
  ·rw [p2,q2]; lia
  ·rw [p3,q3]; lia
  ·rw [p4,q4]; lia
  ·rw [p5,q5]; lia
 ·rcases six hp with rfl | rfl | rfl | rfl | rfl | rfl
  ·rw [p0,q0]; lia
  ·rw [p1,q1]; lia
  ·rw [p2,q2]; lia
  ·rw [p3,q3]; lia
  ·rw [p4,q4]; lia
  ·rw [p5,q5]; lia
def nm0 (n:Nat):Nm n0 (f0 n) (g0 n):=λp x h=>by
 obtain ⟨h1,rfl⟩:=Za1 h
 rcases six h1 with rfl | rfl | rfl | rfl | rfl | rfl <;> rfl
def sF0 (n:Nat):sF (f0 n) 6=4 * n:=by
 obtain ⟨a0,a1,a2,a3,a4,a5⟩:=Zf3 n;show 0 + f0 n 0 + f0 n 1 + f0 n 2 + f0 n 3 + f0 n 4 + f0 n 5=_;lia
def Zot:keys n0 n0.length=[1,2,3]:=by decide +kernel
section
variable {n:Nat} (hn:n<=900)
include hn
def nx0 {s:Nat} (h:s < n):nxP M0 (f0 n) (1000 * 0 + s)=1000 * 4 + s/\nxP M0 (f0 n) (1000 * 4 + s)=1000 * 0 + s/\nxP M0 (f0 n) (1000 * 1 + s)=1000 * 5 + s/\nxP M0 (f0 n) (1000 * 5 + s)=1000 * 1 + s:=by
 obtain ⟨a0,a1,a2,a3,a4,a5⟩:=Zf3 n;obtain ⟨⟨p0,q0⟩,⟨p1,q1⟩,⟨p2,q2⟩,⟨p3,q3⟩,⟨p4,q4⟩,p5,q5⟩:=ab0;have nn:∀ p,f0 n p=n->nN (f0 n) p=n:=λp e=>by unfold nN; rw [e]; rfl
 have sg:∀ p s,p < 6->f0 n p=n->s < n->sgP M0 (f0 n) (1000 * p + s)=1000 * (5 - p) + (n - 1 - s):=λp s hp e hs=>by
  obtain ⟨d1,d2⟩:=Xq (p:=p) (s:=s) (by lia);unfold sgP;rw [d1,d2,Zcv (Fu hp),nn p e]
 have tu:∀ p s,s < n->f0 n p=n->tuP (f0 n) (1000 * p + s)=if (s:Int) < (f0 n (bN p) + n - f0 n (aN p)) / 2 then 1000 * bN p + (nN (f0 n) (bN p) - 1 - s) else 1000 * aN p + (n - 1 - s):=λp s hs e=>by
  obtain ⟨d1,d2⟩:=Xq (p:=p) (s:=s) (by lia);unfold tuP;rw [d1,d2,nn p e,e]
 have hs:n - 1 - s < n:=by lia
 unfold nxP;refine ⟨?_,?_,?_,?_⟩
 ·rw [sg 0 s (by lia) a0 h,tu 5 _ hs a5,p5,q5,a4,a3,nn 4 a4,if_pos (by lia)]; lia
 ·rw [sg 4 s (by lia) a4 h,tu 1 _ hs a1,p1,q1,a0,a2,nn 0 a0,if_pos (by lia)]; lia
 ·rw [sg 1 s (by lia) a1 h,tu 4 _ hs a4,p4,q4,a3,a5,if_neg (by lia)]; lia
 ·rw [sg 5 s (by lia) a5 h,tu 0 _ hs a0,p0,q0,a2,a1,if_neg (by lia)]; lia
def wd0 {d:Nat} (v:VpP M0 (f0 n) d):wdP M0 (f0 n) d∈([[0,4],[4,0],[1,5],[5,1]]:List (List Nat)):=by
 obtain ⟨v1,v2⟩:=v;have hd:d=1000 * (d / 1000) + d % 1000:=by lia
 generalize hp:d / 1000=p at v1 v2 hd;generalize hs:d % 1000=s at v2 hd;subst hd;have hz:f0 n p=n/\s < n:=by
  unfold nN f0 at v2
  unfold f0
  split at v2
  ·simp at v2
  ·rename_i z
   rw [if_neg z]
   exact ⟨Y,by simpa using v2⟩
 obtain ⟨fz,j6⟩:=hz;obtain ⟨x1,x2,x3,x4⟩:=nx0 hn j6;have V:∀ q,q < 6->f0 n q=n->VpP M0 (f0 n) (1000 * q + s):=λq hq e=>by
  obtain ⟨d1,d2⟩:=Xq (p:=q) (s:=s) (by lia)
  refine ⟨by rw [d1]; exact hq,?_⟩
  rw [d1,d2]
  unfold nN
  rw [e]
  exact j6
 have orb:∀ a b,a < 6->b < 6->a≠b->f0 n a=n->f0 n b=n->nxP M0 (f0 n) (1000 * a + s)=1000 * b + s->nxP M0 (f0 n) (1000 * b + s)=1000 * a + s->wdP M0 (f0 n) (1000 * a + s)=[a,b]:=λa b ha hb gz ea eb e1 e2=>by
  have o:OrbEnd (RnP M0 (f0 n)) (1000 * a + s) [1000 * a + s,1000 * b + s]:=by
   refine ⟨⟨Y,λi x y h1 h2=>?_,?_⟩,_,Y,V b hb eb,e2⟩
   ·cases i with
    | zero=>cases h1; cases h2; exact ⟨V a ha ea,e1⟩
    | succ i=>cases i <;> cases h2
   ·refine List.nodup_cons.mpr ⟨λz=>?_,List.nodup_cons.mpr ⟨List.not_mem_nil,List.nodup_nil⟩⟩
    have:=Af z;lia
  unfold wdP;rw [O0 o];show [(1000 * a + s) / 1000,(1000 * b + s) / 1000]=[a,b];rw [(Xq (p:=a) (s:=s) (by lia)).1,(Xq (p:=b) (s:=s) (by lia)).1]
 rcases six v1 with rfl | rfl | rfl | rfl | rfl | rfl
 ·rw [orb 0 4 (by lia) (by lia) (by lia) rfl rfl x1 x2]; decide
 ·rw [orb 1 5 (by lia) (by lia) (by lia) rfl rfl x3 x4]; decide
 ·have:(0:Int)=n:=fz
  lia
 ·have:(0:Int)=n:=fz
  lia
 ·rw [orb 4 0 (by lia) (by lia) (by lia) rfl rfl x2 x1]; decide
 ·rw [orb 5 1 (by lia) (by lia) (by lia) rfl rfl x4 x3]; decide
def fam0:Fam M0 (f0 n) 2:=⟨pc0 n,td0.inv,rfl,λp _=>by unfold f0; split <;> lia⟩
end
def lst0 {ws:List Nat} (h:ws∈([[0,4],[4,0],[1,5],[5,1]]:List (List Nat))):lstW M0 ws=[0,4]/\crN M0 ws 0=1:=by
 have key:∀ ws∈([[0,4],[4,0],[1,5],[5,1]]:List (List Nat)),ws.length=2/\(∃ b,b < 2/\(([0,4]:List Int)=wI (rot ws b)\/([0,4]:List Int)=wI (rot (W0 M0 ws) b)))/\(∀ b,b < 2->HT.lexLt (wI (rot ws b)) [0,4]=false/\HT.lexLt (wI (rot (W0 M0 ws) b)) [0,4]=false)/\crN M0 ws 0=1:=by decide +kernel
 obtain ⟨k1,k2,k3,k4⟩:=key ws h;refine ⟨Zeq ⟨?_,?_⟩,k4⟩
 ·unfold Qz
  rw [k1];exact k2
 ·rintro b ⟨i,hi,e⟩
  rw [k1] at hi;obtain ⟨u1,u2⟩:=k3 i hi
  rcases e with e | e
  ·rw [e]; exact u1
  ·rw [e]; exact u2
def thr0 {n:Nat} (hn:n<=300):thrs M0 (f0 n)=List.replicate n [0,4]:=by
 have fm:=fam0 (n:=n) (by lia);have hs:sF (f0 n) M0.length<=1200:=by show sF (f0 n) 6<=1200; rw [sF0]; lia
 obtain ⟨_,a2,_⟩:=fm.all_nd hs (ptsL (f0 n) M0.length) [] (λd hd=>absurd hd List.not_mem_nil) List.nodup_nil λc hc=>fm.pts_mem.mp hc;have c0:=fm.cross hs (p:=0) (by decide);unfold thrs;generalize gT M0 (f0 n) (ptsL (f0 n) M0.length) []=D at a2 c0;have e0:nN (f0 n) 0=n:=rfl;rw [e0] at c0
 have:∀ D:List Nat,(∀ d∈D,VpP M0 (f0 n) d)->D.map (wL M0 (f0 n))=List.replicate D.length [0,4]/\(D.map λd=>crN M0 (wdP M0 (f0 n) d) 0).sum=D.length:=λD=>by
  induction D with
  | nil=>intro _; exact ⟨Y,Y⟩
  | cons x D ih =>
   intro h;obtain ⟨i1,i2⟩:=ih λd hd=>h d (List.mem_cons_of_mem _ hd);obtain ⟨l1,l2⟩:=lst0 (wd0 (by lia) (h x List.mem_cons_self));refine ⟨?_,?_⟩
   ·rw [List.map_cons,i1]
    show lstW M0 (wdP M0 (f0 n) x) :: _=_;rw [l1];rfl
   ·rw [List.map_cons,List.sum_cons,i2,l2,List.length_cons]
    lia
 obtain ⟨r1,r2⟩:=this D a2;rw [r1,<- r2,c0]
theorem Zb4 (f:Nat->Int) (k:Int):∀ n,sF (λp=>f p * k) n=sF f n * k
 | 0=>(Int.zero_mul k).symm
 | n + 1=>by
  show sF (λp=>f p * k) n + f n * k=(sF f n + f n) * k;rw [Zb4 f k n,Int.add_mul]
def Zgm:Sp:=λvs H Q _=>∃ (a b:Addr) (ta tb:List Addr) (gs:List (List Int)),vs=[.ref a,.ref b]/\H a=some (.lst (ta.map V.ref))/\H b=some (.lst (tb.map V.ref))/\RwI H ta gs/\RwI H tb gs/\gs.length<=1000/\(∀ g∈gs,g.length<=1200)/\Q (.bl true) H
def K5:FnScope ["_law_found","_law_due","_law_k"] ["_law_found","_law_due"] (Zh F4):=Am
def Zfo (T:Txt w K mg t):FnOk P w K mg base (CXr P w) 3 t.dw t.dE ["_law_found","_law_due"] Zgm:=by
 refine T.dJ.F.aR K5 (λ_ _ _ _ H vs Q E hr h=>?_)
 ·obtain ⟨a,b,ta,tb,gs,rfl,a1,b1,⟨a2,a3⟩,⟨b2,b3⟩,hl,wu,k⟩:=h
  refine ⟨_,(Zd (Z2 (PW.pt (Ud (Wq (Wp (Zo J5 (by rfl) T.aB PyProof.Rows.boot_isinstance (Za (pv 0) (Za (Oz (v:=.ty "list") (by rfl) T.ba PySem.Pv.boot_list rfl) Zb))))) (Q4 (Zr Go (Zo Zm (by rfl) T.ad PySem.boot_len (Za (pv 0) Zb)) (Zo Zm (by rfl) T.ad PySem.boot_len (Za (pv 1) Zb)) (Zs _))))) (Zg (Zq Wj)) Zv)
   (Zd (Y0 PassesOwn.never rfl (Y1 rfl T.ak (Za (Zo Zm (by rfl) T.ad PySem.boot_len (Za (pv 1) Zb)) Zb)) (Zn (i:=2) K5.nd rfl (Or.inl rfl)) (Zg (Z2 (Wq (Wp (pcT (Zhn T) hr T.eZ (Za (Zw Zt (pv 0) (pv 2) (λ_ _=>rfl)) (Za (Zw Zt (pv 1) (pv 2) (λ_ _=>rfl)) Zb))))) (Zg (Zq Wj)) Zv)))
   (Zg (Zq Wj)))),?_⟩;have el:ta.length=tb.length:=by lia
  refine ⟨_,Y,_,"list",_,true,rfl,TyOf.lst a1,Ks,_,rfl,iteF ?_⟩;refine ⟨_,Y,a,_,Y,.inl (SqL.of a1),_,Y,b,_,Y,.inl (SqL.of b1),Y,_,Y,?_⟩;rw [show (!decide (V.int ((ta.map V.ref).length:Nat)=V.int ((tb.map V.ref).length:Nat)))=false by rw [Ab,Ab,el]; simp];refine iteF ?_;dsimp only [Xj];show tSeq (tFor _ _ _) _ _ _ _;refine Z6 (λσ H1=>H1=H) (λnx ig=>?_) ?_
  ·refine ⟨_,Y,b,_,Y,.inl (SqL.of b1),_,Y,by lia,by rw [Ab]; lia,?_⟩
   have eL:(((tb.map V.ref).length:Nat):Int).toNat=tb.length:=by simp
   rw [eL];refine X2 (n:=tb.length) (λi σ H1=>∃ v,σ=[some (.ref a),some (.ref b),v]/\H1=H) ⟨none,Y,Y⟩ ?_ ?_
   ·rintro i σ H1 gr ⟨v,rfl,rfl⟩
    have xq:i < ta.length:=by lia
    have hg:i < gs.length:=by lia
    have e1:atI (ta.map V.ref) (0 + (i:Int))=some (V.ref ta[i]):=by rw [Int.zero_add]; exact Yh (Ac xq)
    have e2:atI (tb.map V.ref) (0 + (i:Int))=some (V.ref tb[i]):=by rw [Int.zero_add]; exact Yh (Ac gr)
    have t1:=a3 i _ _ (Ac xq) (Ac hg);have t2:=b3 i _ _ (Ac gr) (Ac hg);have h3:=wu _ (List.getElem_mem hg);dsimp only [Zl];refine ⟨_,Y,_,Y,a,_,_,_,Y,Y,SqL.of a1,e1,_,Y,_,Y,b,_,_,_,Y,Y,SqL.of b1,e2,_,_,gs[i],Y,t1,t2,by lia,_,Y,iteF ?_⟩;exact ⟨_,Y,Y⟩
   ·rintro σ H1 ⟨v,rfl,rfl⟩
    exact ig _ _ Y
  ·rintro σ H1 rfl
   exact k
def X5:FnScope ["_law_script","_law_mates","_law_rows_here","_law_tent_here","_law_nums","_law_counts","_law_many","_law_factor","_law_over","_law_under","_law_found"] ["_law_script"] (Zh Zkd):=Am
def ok_law (T:Txt w K mg t):FnOk P w K mg base (CXr P w) 11 t.fN t.fI ["_law_script"] (sp_law K):=by
  refine T.fO.F.aR X5 (λ_ _ _ _ H vs Q E hr h=>?_)
  · obtain ⟨a,sc,rfl,hS,hl,k⟩:=h
    have hu:=J3 hr;refine ⟨_,(Zd (Xm (pcT (Zhk T) hr T.eX (Za (pv 0) Zb)) (J7 Y (Zz (Zn (i:=1) X5.nd Y (Or.inl Y)) (Zz (Zn (i:=2) X5.nd Y (Or.inl Y)) Xv))))
      (Zd (Zp (i:=3) X5.nd rfl (Or.inl rfl) (Fo T.dO (Q9 T) (hr.mono (by decide)) rfl T.dL T.aJ.b .nil Yr (Za (X1 Wh (by rfl) T.ba PySem.Pv.boot_list (Za (pv 2) Zb)) Zb)))
      (Zd (Zp (i:=4) X5.nd rfl (Or.inl rfl) (pcT (Q8 T) hr T.aK (Za (pcT (W8 T) hr T.aE (Za (pv 0) (Za Ze Zb))) (Za Ze Zb))))
      (Zd (Zp (i:=5) X5.nd rfl (Or.inl rfl) (pcT (Zdx T) hr T.dj (Za (pv 4) (Za (pv 1) (Za (pcT (Zdw T) hr T.dk (Za (pv 0) (Za Ze (Za (pv 1) Zb)))) Zb)))))
      (Zd (Zp (i:=6) X5.nd rfl (Or.inl rfl) (pcT (Zjk T) hr T.fD (Za (pv 2) (Za (pv 5) Zb))))
      (Zd (Z2 (Zr Wx (pv 6) Ze (Zs _)) (Zd (Zp (i:=7) X5.nd rfl (Or.inr rfl) (Zi Xd (Zi Yt Ze (pv 6)) (Zi Z0 (Zi Yt Ze (pv 6)) Ze)))
      (Zd (X9 (ts:=["_law_crossed"]) (fv:=[("_law_factor",7)]) (i:=8) ⟨rfl,by decide +kernel,by decide +kernel,Yc (by rfl),⟨⟨rfl,rfl,Or.inl rfl⟩,trivial⟩⟩ rfl X5.nd rfl rfl (by rfl) (Yj (pv 5)) (λ_ _ _ _=>(Zn (i:=0) (show List.Nodup (["_law_crossed","_law_factor"]:List Str) from by decide +kernel) rfl (Or.inl rfl) (Or.inr rfl))) (λ_ _ _ _=>Yb) (λ_ _ _=>rfl) (λ_ _ _ _ _ _=>Ye (Zi Xe (Zi Z4 (pv 1) Ze) (pv 0))))
      (Zd (Z2 (PW.pt (Ud (Zr Zkf (Zi Xe (pv 6) (Zi Z4 (pv 7) Ze)) Ze (Zs _)) (Q4 (Zr (Zhg hr.units) (pcT (Gq T) hr T.cj (Za (pv 3) (Za (pcT (Qm T) hr T.aW (Za (pv 2) (Za (pv 8) Zb))) Zb))) (Yl (Za Yf Zb)) (Zs _))))) (Zg (Zq Wj)) Zv)
      (Zd (Z2 (Zr Go (pcT (F9 T) hr T.dl (Za (pv 3) (Za (pcT (Qm T) hr T.aW (Za (pv 2) (Za (pv 8) Zb))) Zb))) Yf (Zs _)) (Zg (Zq Wj)) Zv)
      (Zg (Z2 (Zr Wx (pv 7) Ze (Zs _)) (Zd (X9 (ts:=["_law_crossed"]) (fv:=[("_law_factor",7)]) (i:=9) ⟨rfl,by decide +kernel,by decide +kernel,Yc (by rfl),⟨⟨rfl,rfl,Or.inl rfl⟩,trivial⟩⟩ rfl X5.nd rfl rfl (by rfl) (Yj (pv 5)) (λ_ _ _ _=>(Zn (i:=0) (show List.Nodup (["_law_crossed","_law_factor"]:List Str) from by decide +kernel) rfl (Or.inl rfl) (Or.inr rfl))) (λ_ _ _ _=>Yb) (λ_ _ _=>rfl) (λ_ _ _ _ _ _=>Ye (Zi Xe (pv 1) (pv 0))))
      (Zg (Z2 (Zr Yw (pcT (F9 T) hr T.dl (Za (pv 3) (Za (pcT (Qm T) hr T.aW (Za (pv 2) (Za (pv 9) Zb))) Zb))) Yf (Zs _)) (Zg (Zq Wj)) Zv))) Zv)))))) Zv)
      (Zd (Zp (i:=6) X5.nd rfl (Or.inl rfl) (Zi Z4 Ze (Zi Z0 (pcT (W8 T) hr T.aE (Za (pv 0) (Za Ze Zb))) Ze)))
      (Zd (Zp (i:=10) X5.nd rfl (Or.inl rfl) (pcT (Gq T) hr T.cj (Za (Fo T.dO (Q9 T) (hr.mono (by decide)) rfl T.dL T.aJ.b .nil Yr (Za (Yl (Za (Xo (Za Ze (Za Ze (Za Ze Zb)))) (Za (Xo (Za Ze (Za Ze (Za Ze Zb)))) Zb))) Zb)) (Za (Fp (Xc Ze (pv 6) (Xc Ze (pv 6) (Xc Ze Ze Fl))) rfl rfl (List.cons_ne_nil _ _) (by decide)) Zb))))
      (Zd (Z2 (Zr Yw (pv 6) Ze (Zs _)) (Zg (Zq (Qu (Znk hr.units) (pv 10) (Yl (Za Yf Zb)) (Zs _)))) Zv)
      (Zg (Zq (pcT (Zfo T) hr T.dJ (Za (pv 10) (Za (Zi Gn (Yl (Za (Yl (Za Ze (Za Ze Zb))) Zb)) (pv 6)) Zb)))))))))))))),?_⟩
    refine Zk λnxC f9=>?_;refine ⟨_,Y,a,sc,Y,hS,hl,λp m r M ns H1 vk hp hm jz td w4 lg nj=>?_⟩;refine ⟨p,_,Y,SqT.of hp,Y,_,_,Y,_,_,Y,Y,?_⟩;refine f9 _ _ ?_;obtain ⟨ts,g1,g2,g3⟩:=id jz;refine Zk λnxC f9=>?_;refine ⟨_,Y,r,_,Y,.inl (SqL.of g1),λl jc=>?_⟩;intro x dx hx sk iu;obtain ⟨rl2,s2⟩:=Ziv (C:=t.aa) g1 g2 g3 jc hx sk;refine ⟨x,l,dx,M,ns,Y,Zc,rl2,td,by rw [td.len]; lia,λH3 old ta=>⟨rfl,?_⟩⟩;have s3:Same H1 H3:=λb u e=>old b u (Zj ((Same.new jc) b u e) hx) (s2 b u ((Same.new jc) b u e));refine f9 _ _ ?_;have wj:=jz.same s3;have hm3:=s3 _ _ hm;have pe:=vk.trans s3;have iq:M.length=ns.length:=td.len.symm;clear old rl2 s2 g1 g2 g3 jz lg nj hp hm s3 vk hx sk iu jc;obtain ⟨n,n1,uk,hn⟩:=td.n;have inv:InvM M:=td.inv
    try dsimp only [Zl]
    refine Zk λnxC f9=>?_;refine ⟨_,Y,a,sc,4,Y,pe.seq hS,hl,by decide,by decide,_,60,Y,by decide,λnm xs H4 s4 hnm h4 m9 hxs=>?_⟩;refine f9 _ _ ?_
    try dsimp only [Zl]
    have vn:=pe.trans s4;have hm4:=s4 _ _ hm3;refine Zk λnxC f9=>?_;refine ⟨_,Y,_,Y,_,Y,_,Y,a,m,sc,3,M,Y,vn.seq hS,hl,by decide,by decide,hm4,w4,⟨_,hn⟩,inv,λwd ws H5 s5 y9 h5 hw60 ip=>?_⟩;refine ⟨nm,m,wd,M,xs,ws,Y,s5 _ _ h4,by lia,hxs,s5 _ _ hm4,⟨_,hn⟩,w4,inv,h5,hw60,ip,λc f H6 s6 hc h6 pc le=>?_⟩;refine f9 _ _ ?_
    try dsimp only [Zl]
    have qm:=s4.trans (s5.trans s6);have hr6:=wj.same qm;have ta6:=ta.same qm;have hS6:=pe.trans qm;clear qm s4 s5 s6 hm3 wj ta pe vn hm4 h4 h5 y9 ip hc hnm hxs;refine Zk λnxC f9=>?_;refine ⟨_,Y,_,Y,r,c,ns,f,Y,hr6,by lia,(by rw [<- iq]; exact h6),λg H7 s7 hg=>?_⟩;refine f9 _ _ ?_
    try dsimp only [Zl]
    have qf:=On td (Nm.of td pc hg) pc;generalize ((keys ns ns.length).map g).sum=mny at qf;have qa:=hS6.trans s7;have zc:=hr6.same s7;have ud:=ta6.same s7;have h7:=s7 _ _ h6;have nn0:=Ov (f:=f) (n:=ns.length) λz hz=>pc.nn z (by lia);clear hg s7 hr6 ta6 hS6 h6;refine Z6 (λσ H'=>∃ (v7 v8 v9:Option V),σ=[some (.ref a),some (.ref m),some (.ref r),some (.ref x),some (.ref nm),some (.ref c),some (.int mny),v7,v8,v9,none]/\Same H7 H') (λnx ig=>?_) ?_
    · refine ⟨_,Y,_,_,Y,Y,_,Y,?_⟩
      refine ite2 (λpos=>?_) (λ_=>ig _ _ ⟨_,_,_,Y,Same.refl _⟩);have uv:0 < mny:=by simpa using pos
      have j9:sF f ns.length<=1200:=by
        have:=Zb6 (n:=ns.length) (k:=27) (f:=f) λz hz=>le z (by lia);lia
      refine Zk λnxC f9=>?_;refine ⟨_,Y,_,_,Y,Y,⟨uv,by lia⟩,_,Y,_,_,Y,Y,⟨uv,by lia⟩,_,_,Y,Y,(by show (0:Int) < 2; decide),_,_,rfl,rfl,?_⟩;refine (λ(G:∀ jv:Int,jv=600 / mny - 600 / mny % 2->nxC [some (.ref a),some (.ref m),some (.ref r),some (.ref x),some (.ref nm),some (.ref c),some (.int mny),some (.int jv),none,none,none] H7)=>G _ Y) ?_;intro jv xw;refine f9 _ _ ?_
      try dsimp only [Zl]
      obtain ⟨c0,c1,c2,c6⟩:0<=jv/\jv * mny<=600/\600 < mny * (jv + 2)/\jv<=600:=by
        generalize hq:(600:Int) / mny=q at xw;have q0:0<=q:=by rw [<- hq]; exact Int.ediv_nonneg (by decide) (by lia)
        have q1:q * mny<=600:=by rw [<- hq]; exact Int.ediv_mul_le _ (by lia)
        have q2:600 < (q + 1) * mny:=by rw [<- hq]; exact Int.lt_ediv_add_one_mul_self _ uv
        have e1:jv<=q:=by lia
        have e2:q + 1<=jv + 2:=by lia
        have e3:=Int.mul_le_mul_of_nonneg_right e1 (show 0<=mny by lia);have e4:=Int.mul_le_mul_of_nonneg_right e2 (show 0<=mny by lia);have e5:q * 1<=q * mny:=Int.mul_le_mul_of_nonneg_left (by lia) q0;rw [Int.mul_comm mny];lia
      clear xw pos;have y3:=pc.mul (k:=jv + 2) (by lia);have pc3:=pc.mul (k:=jv) c0;have big:1200 < sF (λp=>f p * (jv + 2)) ns.length:=by
        rw [Zb4,<- qf,Int.mul_assoc]
        lia
      have small:sF (λp=>f p * jv) ns.length<=1200:=by
        rw [Zb4,<- qf,Int.mul_assoc,Int.mul_comm mny];lia
      have lf:∀ i,i < M.length->0<=f i/\f i<=27:=λi hi=>⟨pc.nn i hi,le i hi⟩;refine Zk λnxC f9=>?_;refine ⟨_,Y,c,Y,⟨_,SqL.of h7⟩,λD hD=>?_⟩;refine Yi (xs:=rowI M.length f) (λi σ H8=>∃ (v:Option V),σ=[v,some (.int jv)]/\Same H7 H8/\H8 D=some (.lst ((rowI M.length λp=>f p * (jv + 2)).take i))) ⟨none,Y,Same.new hD,Zc⟩ ?_ ?_ ?_
      · rintro i σ H8 _ ⟨v,rfl,s8,_⟩
        exact SqL.of (s8 _ _ h7)
      · rintro i y σ H8 hy ⟨v,rfl,s8,h8⟩
        have hi:i < M.length:=by have:=(Aa hy).1; rw [Ya] at this; exact this
        rw [Y9 hi] at hy;cases hy;dsimp only [Zl,tYes];rw [if_pos rfl];refine ⟨_,Y,_,_,Y,Y,_,Y,_,_,Y,Y,.inl ⟨by lia,by lia⟩,_,h8,?_,_,Y,Same.add s8 hD,?_⟩
        · rw [Ai,Ya]; exact Zx (by lia)
        · rw [Zc,Aw,Y9 hi]
          exact congrArg (λz=>some (HO.lst (List.take i (rowI M.length λp=>f p * (jv + 2)) ++ [V.int z]))) (Int.mul_comm _ _)
      rintro σ H8 ⟨v,rfl,s8,h8⟩;rw [Ya,List.take_of_length_le (by rw [Ya]; lia)] at h8;refine f9 _ _ ?_
      try dsimp only [Zl]
      refine Zk λnxC f9=>?_;refine ⟨_,Y,_,Y,_,_,Y,Y,_,_,Y,Y,.inl ⟨by lia,by lia⟩,_,_,Y,Y,false,congrArg V.bl (decide_eq_false (by lia)),iteF ?_⟩;refine ⟨_,Y,_,Y,_,Y,r,D,ns,_,Y,zc.same s8,by lia,(by rw [<- iq]; exact h8),λd g8 H9 s9 hd h9 hg9=>?_⟩;refine ⟨x,d,M,ns,_,g8,Y,ud.same (s8.trans s9),td,by lia,⟨_,h9,.refl _⟩,Nm.of td y3 hg9,y3,λz=>absurd z (by lia),λ_ l Ha sa ha=>?_⟩;refine ⟨Nat.le_of_lt_succ (by decide),λl2 iw=>?_⟩;have sb:=Same.new (o:=.lst [V.str "too many"]) iw;refine DV.nev (d:=.list [.str "too many"]) (.lst (SqL.of (sb _ _ ha)) (.cons (.str _) .nil)) (.lst (SqL.of Zc) (.cons (.str _) .nil)) (by decide +kernel) ⟨_,rfl,iteF ?_⟩
      try dsimp only [Xj]
      refine f9 _ _ ?_;have sB:=s9.trans (sa.trans sb);generalize L2.upd Ha l2 (.lst [V.str "too many"])=HB at sB;have h8B:=sB _ _ h8;have yu:=s8.trans sB;clear sb sa s9 ha h9 hd hg9 iw sB;refine Zk λnxC f9=>?_;refine ⟨_,Y,_,Y,_,Y,r,D,ns,_,Y,zc.same yu,by lia,(by rw [<- iq]; exact h8B),λd g9 HC sC hd hC zj=>?_⟩;refine ⟨x,d,M,ns,_,g9,Y,ud.same (yu.trans sC),td,by lia,⟨_,hC,.refl _⟩,Nm.of td y3 zj,y3,λz=>absurd z (by lia),λ_ HD sD=>?_⟩;refine ⟨Y,false,Y,iteF ?_⟩
      try dsimp only [Xj]
      refine f9 _ _ ?_;have s7D:=yu.trans (sC.trans sD);clear yu sC sD hC zj hd h8B h8 s8;refine ⟨_,Y,_,_,Y,Y,_,Y,?_⟩;refine ite2 (λ_=>?_) (λ_=>ig _ _ ⟨_,_,_,Y,s7D⟩);have h7D:=s7D _ _ h7;refine Zk λnxC f9=>?_;refine ⟨_,Y,c,Y,⟨_,SqL.of h7D⟩,λD2 kj=>?_⟩;refine Yi (xs:=rowI M.length f) (λi σ H8=>∃ (v:Option V),σ=[v,some (.int jv)]/\Same HD H8/\H8 D2=some (.lst ((rowI M.length λp=>f p * jv).take i))) ⟨none,Y,Same.new kj,Zc⟩ ?_ ?_ ?_
      · rintro i σ H8 _ ⟨v,rfl,s8,_⟩
        exact SqL.of (s8 _ _ h7D)
      · rintro i y σ H8 hy ⟨v,rfl,s8,h8⟩
        have hi:i < M.length:=by have:=(Aa hy).1; rw [Ya] at this; exact this
        rw [Y9 hi] at hy;cases hy;dsimp only [Zl,tYes];rw [if_pos rfl];refine ⟨_,Y,_,Y,_,_,Y,Y,.inl ⟨by lia,by lia⟩,_,h8,?_,_,Y,Same.add s8 kj,?_⟩
        · rw [Ai,Ya]; exact Zx (by lia)
        · rw [Zc,Aw,Y9 hi]
          exact congrArg (λz=>some (HO.lst (List.take i (rowI M.length λp=>f p * jv) ++ [V.int z]))) (Int.mul_comm _ _)
      rintro σ H8 ⟨v,rfl,s8,h8⟩;rw [Ya,List.take_of_length_le (by rw [Ya]; lia)] at h8;refine f9 _ _ ?_
      try dsimp only [Zl]
      have s78:=s7D.trans s8;refine ⟨_,Y,_,Y,_,Y,r,D2,ns,_,Y,zc.same s78,by lia,(by rw [<- iq]; exact h8),λd g9 HC sC hd hC zj=>?_⟩;refine ⟨x,d,M,ns,_,g9,Y,ud.same (s78.trans sC),td,by lia,⟨_,hC,.refl _⟩,Nm.of td pc3 zj,pc3,λ_ HE sE=>?_,λz=>absurd z (by lia)⟩;refine ⟨Y,false,Y,iteF ?_⟩
      try dsimp only [Xj]
      exact ig _ _ ⟨_,_,_,Y,s78.trans (sC.trans sE)⟩
    rintro σ H8 ⟨v7,v8,v9,rfl,s8⟩;have hS8:=qa.trans s8;clear s8 qf zc ud h7 nn0 pc le;refine Zk λnxC f9=>?_;refine ⟨_,Y,a,sc,5,Y,hS8.seq hS,hl,by decide,by decide,_,_,Y,Y,(by show (0:Int) < 3; decide),_,_,rfl,rfl,?_⟩;obtain ⟨n,en,n1,n2⟩:∃ n:Nat,299 + cell sc 5 % 3=(n:Int)/\299<=n/\n<=301:=⟨(299 + cell sc 5 % 3).toNat,by lia,by lia,by lia⟩;refine (λ(G:nxC [some (.ref a),some (.ref m),some (.ref r),some (.ref x),some (.ref nm),some (.ref c),some (.int (n:Int)),v7,v8,v9,none] H8)=>by rw [<- en] at G; exact G) ?_;refine f9 _ _ ?_
    try dsimp only [Zl]
    refine Zk λnxC f9=>?_;refine ⟨Nat.le_of_lt_succ (by decide),λt1 ht1=>⟨Nat.le_of_lt_succ (by decide),λt2 oz=>⟨(Nat.le_of_lt_succ (by decide):2<=sizeLine),λl jc=>?_⟩⟩⟩;intro x2 dx hx sk iu;have ue:=Same.new (o:=.tup [V.int 1,V.int 2,V.int 3]) ht1;have ii:=Same.new (o:=.tup [V.int 3,V.int 2,V.int 1]) oz;have k8:=Same.new (o:=.lst [V.ref t1,V.ref t2]) jc;have vh:=Same.new (o:=.own x2) sk;have l6:=Same.add (o:=.ins t.aa dx []) vh hx
    have rows:Yo (L2.upd (L2.upd (L2.upd (L2.upd (L2.upd H8 t1 (.tup [V.int 1,V.int 2,V.int 3])) t2 (.tup [V.int 3,V.int 2,V.int 1])) l (.lst [V.ref t1,V.ref t2])) dx (.own x2)) x2 (.ins t.aa dx [])) l n0:=by
      refine ⟨[t1,t2],l6 _ _ Zc,Y,λk t' e=>?_⟩
      cases k with
      | zero=>cases e; exact l6 _ _ (k8 _ _ (ii _ _ Zc))
      | succ k =>
        cases k with
        | zero=>cases e; exact l6 _ _ (k8 _ _ Zc)
        | succ k=>cases e
    have xf:=ue.trans (ii.trans (k8.trans l6));refine ⟨x2,l,dx,M0,n0,Y,Zc,rows,td0,by decide,λH3 old ta=>⟨Y,?_⟩⟩;have s3:Same H8 H3:=λb u e=>old b u (Zj ((ue.trans (ii.trans k8)) b u e) hx) (xf b u e);clear rows xf ue ii k8 vh l6 old ht1 oz jc hx sk iu;intro d hd;refine ⟨_,Y,_,Y,?_⟩;show _/\_;refine ⟨Zc,[(Sum.inl 1,V.int n),(Sum.inl 2,V.int n),(Sum.inl 3,V.int 0)],Y,(by decide:3<=15),?_⟩;have s4:Same H8 (L2.upd (L2.upd H3 d (.dK [])) d (.dK (Wg [] [(Sum.inl 1,V.int n),(Sum.inl 2,V.int n),(Sum.inl 3,V.int 0)]))):=Same.add (s3.trans (Same.new hd)) (s3.free hd);have s4':Same H3 (L2.upd (L2.upd H3 d (.dK [])) d (.dK (Wg [] [(Sum.inl 1,V.int n),(Sum.inl 2,V.int n),(Sum.inl 3,V.int 0)]))):=Same.add (Same.new hd) hd;have e6:sF (f0 n) n0.length=4 * n:=sF0 n;refine ⟨x2,d,M0,n0,f0 n,g0 n,Y,ta.same s4',td0,by decide,⟨[1,2,3],Zc,by rw [Zot]⟩,nm0 n,pc0 n,λhs=>⟨λp _=>by unfold f0; split <;> lia,by rw [thr0 (by lia)]; exact List.pairwise_replicate.mpr (.inr (by decide)),λl' H5 bs gs s5 hl5 rw5 pm5 bl5=>?_⟩,λhs l' H5 s5 hl5=>?_⟩
    · refine f9 _ _ ?_
      try dsimp only [Zl]
      refine Zk λnxC f9=>?_;refine ⟨_,Y,Y,false,congrArg V.bl (decide_eq_false λz=>?_),iteF ?_⟩
      · have z:V.int (n:Int)=V.int 301:=z
        injection z;lia
      try dsimp only [Xj]
      refine f9 _ _ ?_;rw [thr0 (by lia)] at pm5;obtain rfl:=List.perm_replicate.mp pm5;refine ⟨_,Y,⟨Nat.le_of_lt_succ (by decide),λb1 hb1=>⟨(Nat.le_of_lt_succ (by decide):1<=sizeLine),λb2 hb2=>?_⟩⟩⟩;have r1:=Same.new (o:=.lst [V.int 0,V.int 4]) hb1;have r2:=Same.new (o:=.lst [V.ref b1]) hb2;refine ⟨_,Y,b2,n,[V.ref b1],Y,Y,Zc,by lia,by lia,?_,λpp hpp=>?_⟩
      · rw [sizeLine_eq]
        show 1 * (n:Int).toNat<=_;lia
      have r3:=Same.new (o:=.lst (List.replicate (n:Int).toNat [V.ref b1]).flatten) hpp;have e7:(List.replicate (n:Int).toNat [V.ref b1]).flatten=(List.replicate n b1).map V.ref:=by
        rw [List.flatten_replicate_singleton,List.map_replicate]
        rfl
      refine ⟨l',pp,bs,List.replicate n b1,List.replicate n [0,4],Y,r3 _ _ (r2 _ _ (r1 _ _ hl5)),by rw [Zc,e7],((rw5.same r1).same r2).same r3,⟨by rw [List.length_replicate,List.length_replicate],λi a' g' h1 h2=>?_⟩,by rw [List.length_replicate]; lia,λg' hg'=>?_,k _⟩
      · obtain rfl:=List.eq_of_mem_replicate (Au h1)
        obtain rfl:=List.eq_of_mem_replicate (Au h2);exact r3 _ _ (r2 _ _ Zc)
      · obtain rfl:=List.eq_of_mem_replicate hg'
        decide
    · refine f9 _ _ ?_
      try dsimp only [Zl]
      have e8:n=301:=by lia
      refine Zk λnxC f9=>?_;refine ⟨_,Y,Y,true,congrArg V.bl (decide_eq_true ?_),iteT ?_⟩
      · rw [e8]; rfl
      refine ⟨_,Y,⟨Nat.le_of_lt_succ (by decide),λl2 iw=>?_⟩⟩;have sb:=Same.new (o:=.lst [V.str "too many"]) iw;exact DV.eqv (d:=.list [.str "too many"]) (.lst (SqL.of (sb _ _ hl5)) (.cons (.str _) .nil)) (.lst (SqL.of Zc) (.cons (.str _) .nil)) (by decide +kernel) (k _)
end
end KT
open PySem PySem.W PyProof.Rows
namespace PySem.W.Fast
def tw16645737388330912396:=0
def tw6894202664291343481:=0
def tw17865410070340859846:=0
def tw3958056860087648721:=0
def tw4325750929117793402:=0
def tw11094255337738470196:=0
def tw6227409610631842446:=0
def tw9424976513026022526:=0
def tw12918411338522330558:=0
def tw12358860760743282208:=0
def tw6241091435416502600:=0
def tw12160355364709770443:=0
def tw6960630397458440121:=0
def tw14824581681302072725:=0
def tw13708562905211040687:=0
def tw18388250449849016445:=0
def tw14327963324152946082:=0
def tw18018395192323197436:=0
def tw5718348281205675991:=0
def tw11401740930258660960:=0
def tw6227590390121151296:=0
def tw5851201485837817125:=0
def tw1603571808380083960:=0
def tw10513914627504921508:=0
def tw6446270838496208698:=0
def tw10934717726294920709:=0
def tw1208684648846239977:=0
def tw5339587131176805842:=0
def tw6912103619318497383:=0
def tw10861481099905770037:=0
def tw14028045013018780647:=0
def tw6214422294485283600:=0
def tw4024070614804949800:=0
def tw3797243218547525255:=0
def tw15931127068009107265:=0
def tw8424682137903681386:=0
def tw9275686319040517288:=0
def tw17448604702815969689:=0
def tw2105891509393320563:=0
def tw5423723929577648026:=0
def tw5557985810689236176:=0
def tw4203097116649286356:=0
def tw5049682687502930707:=0
def tw11998464506189723521:=0
def tw6813637425326540608:=0
def tw10341602671965098133:=0
def tw7459960978067505280:=0
def tw15924862347596032223:=0
def tw14814557515467019283:=0
def tw11765701180388339920:=0
def tw15798871848966360152:=0
def tw9758948543897476764:=0
def tw11593613626533938776:=0
def tw2242205874933033:=0
def tw11903361875952710199:=0
def tw1521766093950560707:=0
def tw14723866246440377636:=0
def tw1021347037149477844:=0
def tw7735274853214255231:=0
def tw5450500669577059599:=0
def tw3928040666422737230:=0
def tw796460952927891355:=0
def tw15472927893129705476:=0
def tw5568805571387575612:=0
def tw4245684115876548371:=0
def tw6641055788777373952:=0
def tw17859718210469677547:=0
def tw5338252328361556976:=0
def tw13109005022849015896:=0
def tw6475844106994249997:=0
def tw906573205704983879:=0
def tw7568049288191039056:=0
def tw10588878243066369266:=0
def tw10786647150938556019:=0
def tw12368376436339806145:=0
def tw10454894623800145834:=0
def tw12173145364921974050:=0
def tw984166552110706987:=0
def tw2187114817426261812:=0
def tw17498640016210723237:=0
def tw5160758122213180182:=0
def tw11619225378169169204:=0
def tw13865656743547555638:=0
def tw16248369086318895982:=0
def tw2811202782022217798:=0
def tw5272211183792102326:=0
def tw4444342576240720499:=0
def tw17003294367101256154:=0
def tw13939262757914403053:=0
def tw989170294215722548:=0
def tw11792498444337542839:=0
def tw1081272341580641155:=0
def tw5173265956547226293:=0
def tw6176164943336007347:=0
def tw8351186595189113623:=0
def tw626269775656904387:=0
def tw8821003275560109413:=0
def tw5015425591894879792:=0
def tw3613059705553159489:=0
def tw4918213514021378625:=0
def tw8150358055364694341:=0
def tw8552333499119791969:=0
def tw16568583792812566328:=0
def tw16638668851454030820:=0
def tw275582977657101395:=0
def tw2725789386068614843:=0
def tw14819034053400513223:=0
def tw3220684778820204691:=0
def tw1764615439935722119:=0
def tw17215971711964192916:=0
def tw329523581746137591:=0
def tw12087494480189108716:=0
def tw17646805784680715609:=0
def tw15289984523493562453:=0
def tw12017554523030718415:=0
def tw3503540991659927910:=0
def tw2224402676870149843:=0
def tw10117090544261771364:=0
def tw18410567394167505267:=0
def tw5387931517916856773:=0
def tw4214248269683682097:=0
def tw3151195395235157100:=0
def tw6582908393281849913:=0
def tw9418684852987232780:=0
def tw4815889445756122668:=0
def tw2519203756269197621:=0
def tw14635687994048440612:=0
def tw10935083652462099229:=0
def tw13146157664032699346:=0
def tw4516283814030447210:=0
def tw11700042485592418104:=0
def tw14984624103410601387:=0
def tw5528772761769142828:=0
def tw10448780383511000349:=0
def tw14999848885011407965:=0
def tw7747707514589348028:=0
def tw2816737573164100452:=0
def tw12816164831109457157:=0
def tw13909499583316870890:=0
def tw10297251954279607504:=0
def tw8746527728139107556:=0
def tw1317600811971151883:=0
def tw97183835608777145:=0
def tw5226640760039450336:=0
def tw17047457833197366556:=0
def tw13258354629026082384:=0
def tw8981830305548405611:=0
def tw2553268194788838861:=0
def tw4049666591526262416:=0
def tw8045614201665618216:=0
def tw3238796535581741631:=0
def tw9320865963911558544:=0
def tw3218605044074234979:=0
def tw15747230863854651796:=0
def tw15077415940980746612:=0
def tw8217137619467604346:=0
def tw13173450625474987600:=0
def tw1964392461336913421:=0
def tw16099106172262784439:=0
def tw7803871298594473780:=0
def tw6247954351557684905:=0
def tw18160604536414067264:=0
def tw1769691665237590852:=0
def tw14006034983499648090:=0
def tw3159169271885291059:=0
def tw12390322380881459878:=0
def tw13110737334326904656:=0
def tw660181794254383897:=0
def tw16566252533077588057:=0
def tw7410062743422466948:=0
def tw1895327982552604199:=0
def tw17785015393615339177:=0
def tw2002216834801887315:=0
def tw4095292513111207746:=0
def tw14360951757750266146:=0
def tw7290747820099454114:=0
def tw621777056710447948:=0
def tw5629876385708898914:=0
def tw4700916441109952112:=0
def tw4497100087962593020:=0
def tw17624484545853535578:=0
def tw17227799246189155361:=0
def tw12246966053177842261:=0
def tw1122114384858937936:=0
def tw16645322778904846071:=0
def tw12547905112581932600:=0
def tw8008318258093431346:=0
def tw6052733894230737222:=0
def tw10760593825576298559:=0
def tw11028913817629548413:=0
def tw2412574846353786103:=0
def tw10667211161640091361:=0
def tw13637071448746580242:=0
def tw15889179767394502730:=0
def tw9684397312416664762:=0
def tw3754521737075992740:=0
def tw16396688442947364626:=0
def tw3881070062020853613:=0
def tw4588730772416645765:=0
def tw11986517912319587339:=0
def tw12916043877820377854:=0
def tw9606643632842317861:=0
def tw7828970056113835166:=0
def tw7077890402701910751:=0
def tw11838316455575859973:=0
def tw17121101905924367743:=0
def tw14620262338504535150:=0
def tw16885701624652065396:=0
def tw7111999388439561522:=0
def tw15383580777475353259:=0
def tw15368932951059762972:=0
def tw9837969104581738233:=0
def tw7390513031472210812:=0
def tw8752595276446691806:=0
def tw4813869663101510190:=0
def tw3556913279143032559:=0
def tw850047954732159707:=0
def tw961943194171897470:=0
def tw5579669931650433691:=0
def tw14767823506419993631:=0
def tw514040752565789887:=0
def tw16901786747694600118:=0
def tw13793904414607069945:=0
def tw13216514256427555035:=0
def tw17482837395008276247:=0
def tw9320745806895061977:=0
def tw9210848052041821077:=0
def tw8529961315434414442:=0
def tw6001186844028355478:=0
def tw7928030597320139206:=0
def tw11821590454657455213:=0
def tw16630483884577492378:=0
def tw3395577755794632462:=0
def tw3323505435735180348:=0
def tw2696949243155601053:=0
def tw101974682543716666:=0
def tw10041636720476001677:=0
def tw9070433806182075423:=0
def tw12307359212574916166:=0
def tw854526768189412063:=0
def tw2574018779692578040:=0
def tw13467971204660540091:=0
def tw5967623025615036123:=0
def tw4381126378073100294:=0
def tw5082680881941373897:=0
def tw14692699728367386464:=0
def tw8423472651697361577:=0
def tw2819202836563534781:=0
def tw2402759784599291190:=0
def tw57869270648273149:=0
def tw4428524657317431977:=0
def tw9250019232093465572:=0
def tw755374498269879471:=0
def tw12675185958255982855:=0
def tw5308703765237526918:=0
def tw17756833927560616836:=0
def tw8377144994736769886:=0
def tw17081608684853673010:=0
def tw17045213163576513839:=0
def tw14918826376116958282:=0
def tw8297435421296381195:=0
def tw13637643190540026161:=0
def tw10551782140649241892:=0
def tw18404092764322142675:=0
def tw12607307203806028930:=0
def tw7742074780477068849:=0
def tw7020574242692407829:=0
def tw15934685106032680076:=0
def tw14005690310557429405:=0
def tw14572272838409389893:=0
def tw2161179416696454210:=0
def tw12475631284225935071:=0
def tw7098847107124677707:=0
def tw2335726397313148203:=0
def tw16567279168850373105:=0
def tw17218049400192822711:=0
def tw15816438534370716953:=0
def tw14059948820147942411:=0
def tw6943837079270731269:=0
def tw10616999800282023385:=0
def tw2524942635580749446:=0
def tw13587623809577575910:=0
def tw13565416768273984915:=0
def tw15390699770416136899:=0
def tw9324587584769541392:=0
def tw7045363900620032646:=0
def tw17721545250816636110:=0
def tw16736670404730501746:=0
def tw18110484133700897195:=0
def tw17106350142543790529:=0
def tw11217598270845165354:=0
def tw7109313871602859353:=0
def tw5857655536721933068:=0
def tw7791819096149141481:=0
def tw768629822793494630:=0
def tw13286215234523288961:=0
def tw14843232634720783062:=0
def tw13929993144406683985:=0
def tw4085117832629979246:=0
def tw18006924774367485722:=0
def tw8313957261753548299:=0
def tw8950982659731576124:=0
def tw16521722239960356493:=0
def tw18216903093773803157:=0
def tw17966706808517053608:=0
def tw4227677619174695137:=0
def tw7630709570859728634:=0
def tw1384960811986680149:=0
def tw12097068402834514193:=0
def tw17429513957124418393:=0
def tw6473590543101983909:=0
def tw16805294598738891189:=0
def tw3339062111636262538:=0
def tw11891773773270402244:=0
def tw7269300023881520273:=0
def tw4767417093020545577:=0
def tw11551599688475206108:=0
def tw3851064095518471837:=0
def tw17353664618391806314:=0
def tw12667779101357078628:=0
def tw10709339481725264562:=0
def tw10582993707954634241:=0
def tw1007783488645201896:=0
def tw3635892978489306779:=0
def tw5471692596557122052:=0
def tw8983424959269220720:=0
def tw6666850512932094075:=0
def tw504932350690891116:=0
def tw4272147119839216664:=0
def tw1746374043529241073:=0
def tw16565754163881032221:=0
def tw16277360827713377037:=0
def tw1624553466321385545:=0
def tw14881246432442070634:=0
def tw14198316774645211343:=0
def tw11869091326156073789:=0
def tw10725329554649569450:=0
def tw5210519467100741531:=0
def tw260669507680779577:=0
def tw1403980618801705960:=0
def tw13293737020449074986:=0
def tw13085254629097135551:=0
def tw10240703937742283815:=0
def tw6756536452722913895:=0
def tw18020103856650347639:=0
def tw12596735622391726829:=0
def tw7649227610150818506:=0
def tw13119824495473997974:=0
def tw6946358700302495464:=0
def tw1513298937873131129:=0
def tw7324179155651896228:=0
def tw438538384098083715:=0
def tw7908439513548354727:=0
def tw1615451084335718756:=0
def tw12279790062112819005:=0
def tw7090946601986944542:=0
def tw18166727248152706380:=0
def tw15582956650451888708:=0
def tw1526723289738194320:=0
def tw15092057039118107860:=0
def tw4028675110516920229:=0
def tw7914068040805225367:=0
def tw996093185229712806:=0
def tw9279557805059645150:=0
def tw7171166568173617347:=0
def tw7027844582467228891:=0
def tw6652222168443125996:=0
def tw6325480498935616068:=0
def tw6315435861250405389:=0
def tw2766611905567473642:=0
def tw17777721563132150732:=0
def tw15967298705006631625:=0
def tw13533611492765749802:=0
def tw13147839135117717325:=0
def tw1279978989594419955:=0
def tw9910635441026280304:=0
def tw8604975685982888384:=0
def tw5954911044389379392:=0
def tw5905394845492968879:=0
def tw2745350142058937417:=0
def tw2080507186504847690:=0
def tw17264414908068926758:=0
def tw16346681582707998404:=0
def tw16031627252467165437:=0
def tw15724044581196794953:=0
def tw1372980146003302465:=0
def tw12432948883281137566:=0
def tw10543052358404636174:=0
def tw659567415277500409:=0
def tw8950904971750520880:=0
def tw8072001535848639722:=0
def tw5136837680100080645:=0
def tw4860985258995494229:=0
def tw4583267151809133073:=0
def tw3278697589701913755:=0
def tw16412792442910227244:=0
def tw13688296289226789020:=0
def tw13549666754533394552:=0
def tw13343295060879986444:=0
def tw11470814468831699481:=0
def tw8642779233769420572:=0
def tw7050571161362245735:=0
def tw5980785694187666174:=0
def tw4733152678541200054:=0
def tw4216594035760294753:=0
def tw2939613456505922517:=0
def tw17445562859848834362:=0
def tw17011809851098295689:=0
def tw1665749765184268661:=0
def tw15190451018670096602:=0
def tw12934627533466114647:=0
def tw12560520947807536783:=0
def tw11930641106476577990:=0
def tw9886923976379783858:=0
def tw9662391908714345415:=0
def tw9647136798456759146:=0
def tw9386745208178803394:=0
def tw8824173152247037667:=0
def tw8697392740354861951:=0
def tw8401413940907368580:=0
def tw8386768360102516891:=0
def tw8321589659254448853:=0
def tw8321283544148716101:=0
def tw8316475572952774141:=0
def tw8271403544951975069:=0
def tw7537076775936499591:=0
def tw7132577567221419025:=0
def tw7100999481777507807:=0
def tw701303067235942225:=0
def tw6790063894157110319:=0
def tw6786697061441178601:=0
def tw6678387438167990550:=0
def tw654883301150784827:=0
def tw6506637205718707602:=0
def tw648082822532348589:=0
def tw6474758733285848628:=0
def tw6027190464249149543:=0
def tw5622669876605465273:=0
def tw5550423459921759658:=0
def tw5494591103681912137:=0
def tw5418865400888584954:=0
def tw5413852995158816540:=0
def tw5374691386036173650:=0
def tw5283135178182691284:=0
def tw5107042239447860648:=0
def tw5005006694277701224:=0
def tw4885475232011409874:=0
def tw4860576118870870902:=0
def tw4796010746343224237:=0
def tw477086977655018021:=0
def tw4606901096260610215:=0
def tw453061623367582378:=0
def tw450101952235075479:=0
def tw4441735014095229673:=0
def tw443260568897029027:=0
def tw4367204520642842364:=0
def tw4334848552196647505:=0
def tw4268419446023779194:=0
def tw4223635873229448269:=0
def tw41249807350094123:=0
def tw409152592412485408:=0
def tw4051878431416434234:=0
def tw3631999749418970505:=0
def tw3472810496400113807:=0
def tw3354542709900884060:=0
def tw3334923225409399687:=0
def tw3056123791737142328:=0
def tw2874634266020301743:=0
def tw2833498615734855366:=0
def tw247636751547314973:=0
def tw2454084757748312565:=0
def tw2405031836904551356:=0
def tw2388374331211735954:=0
def tw224350264586630398:=0
def tw1917309007957388133:=0
def tw18416422843870058954:=0
def tw1832272687416888515:=0
def tw18258834693108991918:=0
def tw18168558396602649698:=0
def tw18061238617663794357:=0
def tw18030046678066281362:=0
def tw1801069064530948642:=0
def tw17964642077570672941:=0
def tw1787610765966773890:=0
def tw17853113566433142747:=0
def tw17736779818035344318:=0
def tw17723060170406436300:=0
def tw1761000035666753863:=0
def tw17363889762097302936:=0
def tw17193492432820173360:=0
def tw17031552363872541903:=0
def tw16788168561383426063:=0
def tw16752695193305271599:=0
def tw16730293181583201391:=0
def tw16560487704149430461:=0
def tw16450308259381105614:=0
def tw16428684864121637391:=0
def tw16141238890577699521:=0
def tw15838494906263796436:=0
def tw15732838199576176936:=0
end PySem.W.Fast
set_option maxRecDepth 100000 in
set_option maxHeartbeats 0 in
theorem PySem.Challenge.cw_tentloops_k33_too_many_crossings_holds : PySem.Challenge.rw_tentloops_k33_too_many_crossings.Holds := by
 w_on; o_law; k_head; (case hw=>w_witness2)
 k_fill
 refine L2.walk_r (l:=PySem.Challenge.rw_tentloops_k33_too_many_crossings) (k:=11) (spl:=KT.sp_law) rfl rfl ⟨rfl,by decide,by decide⟩ (fun w h Y=>PySem.W.kIn_of Y) (fun K H a ns hl hS=>KT.sp_law_start hl hS) ?F
 case F =>
  intro w mg fa h KX G hmg
  have T:∃ t,KT.Txt w (L2.KOf KX) mg t:=by
   dsimp only [L2.KOf]
   refine' ⟨⟨_,_,_,_,_,_,_,_,_,_,_,_,_,_,_,_,_,_,_,_,_,_,_,_,_,_,_,_,_,_,_,_,_,_,_,_,_,_,_,_,_,_,_,_,_,_,_,_,_,_,_,_,_,_,_,_,_,_,_,_,_,_,_,_,_,_,_,_,_,_,_,_,_,_,_,_,_,_,_,_,_,_,_,_,_,_,_,_,_,_,_,_,_,_,_,_,_,_,_,_,_,_,_,_,_,_,_,_,_,_,_,_,_,_,_,_,_,_,_,_,_,_,_⟩,⟨mg_of KX G ?_,⟨?_,?_,?_,?_⟩,?_,?_,?_,?_,KT.FT.of KX G (KT.ba1 (fun _ _ _ _ _ _ _ _=>rfl) rfl) ?_ ?_ ?_ ?_,KT.FT.of KX G (KT.ba1 (fun _ _ _ _ _ _ _ _=>rfl) rfl) ?_ ?_ ?_ ?_,KT.FT.of KX G (KT.ba1 (fun _ _ _ _ _ _ _ _=>rfl) rfl) ?_ ?_ ?_ ?_,KT.FT.of KX G (KT.ba1 (fun _ _ _ _ _ _ _ _=>rfl) rfl) ?_ ?_ ?_ ?_,KT.FT.of KX G (KT.ba2 (fun _ _ _ _ _ _ _ _ _=>rfl) rfl) ?_ ?_ ?_ ?_,KT.FM.of (KT.ba2 (fun _ _ _ _ _ _ _ _ _=>rfl) rfl) ?_ ?_ ?_ ?_ ?_,KT.FM.of (KT.ba1 (fun _ _ _ _ _ _ _ _=>rfl) rfl) ?_ ?_ ?_ ?_ ?_,KT.FM.of (KT.ba1 (fun _ _ _ _ _ _ _ _=>rfl) rfl) ?_ ?_ ?_ ?_ ?_,KT.FM.of (KT.ba1 (fun _ _ _ _ _ _ _ _=>rfl) rfl) ?_ ?_ ?_ ?_ ?_,KT.FM.of (KT.ba2 (fun _ _ _ _ _ _ _ _ _=>rfl) rfl) ?_ ?_ ?_ ?_ ?_,KT.FM.of (KT.ba2 (fun _ _ _ _ _ _ _ _ _=>rfl) rfl) ?_ ?_ ?_ ?_ ?_,KT.FM.of (KT.ba2 (fun _ _ _ _ _ _ _ _ _=>rfl) rfl) ?_ ?_ ?_ ?_ ?_,KT.FM.of (KT.ba2 (fun _ _ _ _ _ _ _ _ _=>rfl) rfl) ?_ ?_ ?_ ?_ ?_,KT.FM.of (KT.ba2 (fun _ _ _ _ _ _ _ _ _=>rfl) rfl) ?_ ?_ ?_ ?_ ?_,KT.FM.of (KT.ba2 (fun _ _ _ _ _ _ _ _ _=>rfl) rfl) ?_ ?_ ?_ ?_ ?_,KT.FT.of KX G (KT.ba1 (fun _ _ _ _ _ _ _ _=>rfl) rfl) ?_ ?_ ?_ ?_,KT.FT.of KX G (KT.ba2 (fun _ _ _ _ _ _ _ _ _=>rfl) rfl) ?_ ?_ ?_ ?_,KT.FT.of KX G (KT.ba2 (fun _ _ _ _ _ _ _ _ _=>rfl) rfl) ?_ ?_ ?_ ?_,KT.FT.of KX G (KT.ba3 (fun _ _ _ _ _ _ _ _ _ _=>rfl) rfl) ?_ ?_ ?_ ?_,KT.FT.of KX G (KT.ba3 (fun _ _ _ _ _ _ _ _ _ _=>rfl) rfl) ?_ ?_ ?_ ?_,KT.FT.of KX G (KT.ba2 (fun _ _ _ _ _ _ _ _ _=>rfl) rfl) ?_ ?_ ?_ ?_,KT.FT.of KX G (KT.ba3 (fun _ _ _ _ _ _ _ _ _ _=>rfl) rfl) ?_ ?_ ?_ ?_,KT.FT.of KX G (KT.ba2 (fun _ _ _ _ _ _ _ _ _=>rfl) rfl) ?_ ?_ ?_ ?_,KT.FT.of KX G (KT.ba2 (fun _ _ _ _ _ _ _ _ _=>rfl) rfl) ?_ ?_ ?_ ?_,KT.FT.of KX G (KT.ba2 (fun _ _ _ _ _ _ _ _ _=>rfl) rfl) ?_ ?_ ?_ ?_,KT.FT.of KX G (KT.ba2 (fun _ _ _ _ _ _ _ _ _=>rfl) rfl) ?_ ?_ ?_ ?_,KT.FT.of KX G (KT.ba1 (fun _ _ _ _ _ _ _ _=>rfl) rfl) ?_ ?_ ?_ ?_,KT.FT.of KX G (KT.ba2 (fun _ _ _ _ _ _ _ _ _=>rfl) rfl) ?_ ?_ ?_ ?_,KT.FT.of KX G (KT.ba2 (fun _ _ _ _ _ _ _ _ _=>rfl) rfl) ?_ ?_ ?_ ?_,KT.FT.of KX G (KT.ba2 (fun _ _ _ _ _ _ _ _ _=>rfl) rfl) ?_ ?_ ?_ ?_,KT.FT.of KX G (KT.ba3 (fun _ _ _ _ _ _ _ _ _ _=>rfl) rfl) ?_ ?_ ?_ ?_,KT.FT.of KX G (KT.ba3 (fun _ _ _ _ _ _ _ _ _ _=>rfl) rfl) ?_ ?_ ?_ ?_,KT.FT.of KX G (KT.ba2 (fun _ _ _ _ _ _ _ _ _=>rfl) rfl) ?_ ?_ ?_ ?_,KT.FT.of KX G (KT.ba3 (fun _ _ _ _ _ _ _ _ _ _=>rfl) rfl) ?_ ?_ ?_ ?_,KT.FT.of KX G (KT.ba2 (fun _ _ _ _ _ _ _ _ _=>rfl) rfl) ?_ ?_ ?_ ?_,KT.FT.of KX G (KT.ba3 (fun _ _ _ _ _ _ _ _ _ _=>rfl) rfl) ?_ ?_ ?_ ?_,KT.FT.of KX G (KT.ba2 (fun _ _ _ _ _ _ _ _ _=>rfl) rfl) ?_ ?_ ?_ ?_,KT.FT.of KX G (KT.ba2 (fun _ _ _ _ _ _ _ _ _=>rfl) rfl) ?_ ?_ ?_ ?_,KT.FT.of KX G (KT.ba2 (fun _ _ _ _ _ _ _ _ _=>rfl) rfl) ?_ ?_ ?_ ?_,KT.FT.of KX G (KT.ba2 (fun _ _ _ _ _ _ _ _ _=>rfl) rfl) ?_ ?_ ?_ ?_,KT.FT.of KX G (KT.ba2 (fun _ _ _ _ _ _ _ _ _=>rfl) rfl) ?_ ?_ ?_ ?_,KT.FT.of KX G (KT.ba3 (fun _ _ _ _ _ _ _ _ _ _=>rfl) rfl) ?_ ?_ ?_ ?_,KT.FT.of KX G (KT.ba3 (fun _ _ _ _ _ _ _ _ _ _=>rfl) rfl) ?_ ?_ ?_ ?_,KT.FT.of KX G (KT.ba1 (fun _ _ _ _ _ _ _ _=>rfl) rfl) ?_ ?_ ?_ ?_,KT.FT.of KX G (KT.ba2 (fun _ _ _ _ _ _ _ _ _=>rfl) rfl) ?_ ?_ ?_ ?_,KT.FT.of KX G (KT.ba3 (fun _ _ _ _ _ _ _ _ _ _=>rfl) rfl) ?_ ?_ ?_ ?_,KT.FT.of KX G (KT.ba2 (fun _ _ _ _ _ _ _ _ _=>rfl) rfl) ?_ ?_ ?_ ?_,KT.FT.of KX G (KT.ba3 (fun _ _ _ _ _ _ _ _ _ _=>rfl) rfl) ?_ ?_ ?_ ?_,KT.FT.of KX G (KT.ba2 (fun _ _ _ _ _ _ _ _ _=>rfl) rfl) ?_ ?_ ?_ ?_,KT.FT.of KX G (KT.ba2 (fun _ _ _ _ _ _ _ _ _=>rfl) rfl) ?_ ?_ ?_ ?_,KT.FT.of KX G (KT.ba1 (fun _ _ _ _ _ _ _ _=>rfl) rfl) ?_ ?_ ?_ ?_,KT.FT.of KX G (KT.ba2 (fun _ _ _ _ _ _ _ _ _=>rfl) rfl) ?_ ?_ ?_ ?_,KT.FT.of KX G (KT.ba2 (fun _ _ _ _ _ _ _ _ _=>rfl) rfl) ?_ ?_ ?_ ?_,KT.FT.of KX G (KT.ba2 (fun _ _ _ _ _ _ _ _ _=>rfl) rfl) ?_ ?_ ?_ ?_,KT.FT.of KX G (KT.ba2 (fun _ _ _ _ _ _ _ _ _=>rfl) rfl) ?_ ?_ ?_ ?_,KT.FT.of KX G (KT.ba1 (fun _ _ _ _ _ _ _ _=>rfl) rfl) ?_ ?_ ?_ ?_,⟨?_,?_,?_,?_⟩,mg_of KX G ?_,mg_of KX G ?_,mg_of KX G ?_,L2.kdict_mk2 ?_ ?_ ?_ (by decide) ?_,fun s u=>.of_eq rfl,mg_none_of KX G ?_,mg_none_of KX G ?_,mg_none_of KX G ?_,mg_none_of KX G ?_,mg_none_of KX G ?_,mg_none_of KX G ?_,mg_none_of KX G ?_,mg_none_of KX G ?_,mg_none_of KX G ?_,mg_none_of KX G ?_,mg_none_of KX G ?_,mg_none_of KX G ?_,mg_none_of KX G ?_,mg_none_of KX G ?_,mg_none_of KX G ?_,mg_none_of KX G ?_,mg_none_of KX G ?_,mg_none_of KX G ?_,mg_of KX G ?_,⟨?_⟩,mg_of KX G ?_,⟨?_⟩,mg_of KX G ?_,⟨?_⟩,mg_of KX G ?_,⟨?_⟩,mg_of KX G ?_,⟨?_⟩,mg_of KX G ?_,⟨?_⟩,mg_of KX G ?_,⟨?_⟩⟩⟩
   any_goals first | k_is | k_exc | rfl | kernel_rfl
  obtain ⟨t,T⟩:=T
  have e0:=hmg.symm.trans T.fO.g
  cases e0
  refine' ⟨_,?b,fun base kb nb=>KT.ok_law T⟩
  exact T.bl
#print axioms PySem.Challenge.cw_tentloops_k33_too_many_crossings_holds
