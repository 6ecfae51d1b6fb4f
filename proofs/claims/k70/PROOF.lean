import PyProof.Rows.All
import Wide.All
import OpenK.AllK
import Wide.FinOn
import Lean
import PyProof.EqAt
import PyProof.EqKinds
import PyProof.TupleCall
import PySem.Challenge.RW_tentloops_k70_books_read
set_option Elab.async false
set_option linter.all false
set_option autoImplicit true
set_option relaxedAutoImplicit true
set_option maxRecDepth 100000
universe u v
theorem Z{α:Sort v}{a:α}:a=a:=rfl
def An(n:Nat):n<=n:=Nat.le_refl n
def Ao{h:PySem.Heap}{a:PySem.Addr}{o:PySem.Obj}:h.get? a=some o->a<h.objs.size:=PySem.Heap.lt_size
def Ap(h:PySem.Heap){o:PySem.Obj}:o.isFreed=false->(h.push o).get? h.objs.size=some o:=PySem.Heap.get?_push_size h
def Aq{α:Type u}{a:List α}:a.toArray.size=a.length:=List.size_toArray
def Ar{α:Type u}{b:α}{l:List α}{a:α}:a∈b::l->a=b\/a∈l:=List.mem_cons.mp
def As{a b:Nat}:a<b->a≠b:=Nat.ne_of_lt
def At{α:Type u}{a:α}:[a].length=1:=List.length_singleton
def Au{α:Type u}{l:List α}{i:Nat}{a:α}:l[i]?=some a->a∈l:=List.mem_of_getElem?
def Av{α:Type u}{l k:List α}{i:Nat}:i<l.length->(l++k)[i]?=l[i]?:=List.getElem?_append_left
def Aw{α:Type u}{l:List α}{i:Nat}:l.take (i+1)=l.take i++l[i]?.toList:=List.take_add_one
def Ax{α:Type u}{a b:α}:some a=some b->a=b:=Option.some.inj
def Ay{α:Type u}{l:List α}{i:Nat}:l.length<=i->l[i]?=none:=List.getElem?_eq_none
def Az(n:Nat):0<=n:=Nat.zero_le n
def Aa{α:Type u}{i:Nat}{a:α}{l:List α}:l[i]?=some a->∃ h:i<l.length,l[i]=a:=List.getElem?_eq_some_iff.mp
def Ab{α:Type u}{β:Type v}{as:List α}(f:α->β):(as.map f).length=as.length:=List.length_map f
def Ac{α:Type u}{l:List α}{i:Nat}(h:i<l.length):l[i]?=some l[i]:=List.getElem?_eq_getElem h
def Ad{α:Type u}{l:List α}{i:Nat}{a:α}:l.getD i a=l[i]?.getD a:=List.getD_eq_getElem?_getD
def Ae{α:Type u}{as bs:List α}:(as++bs).length=as.length+bs.length:=List.length_append
def Af{α:Type u}{a b:α}:a∈[b]->a=b:=List.mem_singleton.mp
def Ag{n m k:Nat}:n<m->m<=k->n<k:=Nat.lt_of_lt_of_le
def Ah{α:Type u}{β:Type v}{f:α->β}{l:List α}{i:Nat}:(l.map f)[i]?=(l[i]?).map f:=List.getElem?_map
def Ai{α:Type u}{i:Nat}{l:List α}:(l.take i).length=min i l.length:=List.length_take
def Aj{α:Type u}{β:Type v}{f:α->β}{l₁ l₂:List α}:(l₁++l₂).map f=l₁.map f++l₂.map f:=List.map_append
def Ak{h:PySem.Heap}{a:PySem.Addr}{o':PySem.Obj}(o:PySem.Obj)(e:h.get? a=some o'):(h.push o).get? a=some o':=PySem.Heap.get?_push_of_some o e
def Al{α β:Type}{M:PySem.Model}{A:PySem.Around}{E:PySem.Value->PySem.Shared->Prop}{s:PySem.Shared}{m:PySem.Sem α}{f:α->PySem.Sem β}{Q:β->PySem.Shared->Prop}(h:PySem.wpAny M A m (λa s'=>PySem.wpAny M A (f a) Q E s') E s):PySem.wpAny M A (m>>=f) Q E s:=PySem.wpAny_bind h
set_option maxHeartbeats 4000000
namespace L2
open PySem PySem.Spec PyProof.Rows
abbrev Key:=Sum Int Str
def Qw:Key->Value->Bool
 | .inl k,v=>Value.isInt k v
 | .inr x,v=>Value.isStrOf x v
def keyH (w:World):Key->Int
 | .inl k=>hashInt k
 | .inr x=>hashStr w x
theorem Yz:∀ {k:Key} {v:Value},Qw k v=true->(∃ i t,k=Sum.inl i/\v=Value.int i t)\/(∃ x t,k=Sum.inr x/\v=Value.str x t)
 | .inl i,v,h=>by
  obtain ⟨t,e⟩:=Value.isInt_shape (k:=i) (v:=v) h;exact .inl ⟨i,t,Z,e⟩
 | .inr x,v,h=>by
  obtain ⟨t,e⟩:=Value.isStrOf_shape (x:=x) (v:=v) h;exact .inr ⟨x,t,Z,e⟩
def Zey (i:Int) (t:Tok):Qw (.inl i) (.int i t)=true:=by simp [Qw,Value.isInt]
def Yg (x:Str) (t:Tok):Qw (.inr x) (.str x t)=true:=by simp [Qw,Value.isStrOf]
def Zjd (a b:Int):decide ((Sum.inl a:Key)=Sum.inl b)=(a == b):=by
 by_cases e:a=b
 ·subst e; simp
 ·have h:¬ (Sum.inl a:Key)=Sum.inl b:=λq=>e (Sum.inl.inj q)
  rw [decide_eq_false h];exact (beq_eq_false_iff_ne.mpr e).symm
def Zja (a b:Str):decide ((Sum.inr a:Key)=Sum.inr b)=decide (a=b):=by
 by_cases e:a=b
 ·subst e; simp
 ·have h:¬ (Sum.inr a:Key)=Sum.inr b:=λq=>e (Sum.inr.inj q)
  rw [decide_eq_false h,decide_eq_false e]
def Zjc (a:Int) (b:Str):decide ((Sum.inl a:Key)=Sum.inr b)=false:=decide_eq_false (λq=>nomatch q)
def Zjb (a:Str) (b:Int):decide ((Sum.inr a:Key)=Sum.inl b)=false:=decide_eq_false (λq=>nomatch q)
def Z7 (prog:Program) (w:World):PySem.KeyKind prog w Key where
 is:=Qw
 hash:=keyH w
 inj:=λv a b ha hb=>by
  rcases Yz ha with ⟨i,t,rfl,rfl⟩ | ⟨x,t,rfl,rfl⟩
  ·rcases Yz hb with ⟨j,u,rfl,e⟩ | ⟨y,u,rfl,e⟩
   ·injection e with e1 _; rw [e1]
   ·exact nomatch e
  ·rcases Yz hb with ⟨j,u,rfl,e⟩ | ⟨y,u,rfl,e⟩
   ·exact nomatch e
   ·injection e with e1 _; rw [e1]
 byValue:=λk v h=>by
  rcases Yz h with ⟨i,t,rfl,rfl⟩ | ⟨x,t,rfl,rfl⟩ <;> rfl
 pyHash:=λhv h=>by
  rcases Yz hv with ⟨i,t,rfl,rfl⟩ | ⟨x,t,rfl,rfl⟩
  ·exact wpAny_pyHash_int h
  ·exact wpAny_pyHash_str h
 eqBool:=λhu hv h=>by
  rcases Yz hu with ⟨i,t,rfl,rfl⟩ | ⟨x,t,rfl,rfl⟩
  ·rcases Yz hv with ⟨j,u,rfl,rfl⟩ | ⟨y,u,rfl,rfl⟩
   ·rw [Zjd] at h; exact wpAny_eqBool_int h
   ·rw [Zjc] at h; exact SeqAt.EqAt.int_str i t y u _ _ _ _ h
  ·rcases Yz hv with ⟨j,u,rfl,rfl⟩ | ⟨y,u,rfl,rfl⟩
   ·rw [Zjb] at h; exact SeqAt.EqAt.str_int x t j u _ _ _ _ h
   ·rw [Zja] at h; exact wpAny_eqBool_str h
 «strs»:=λk x t v h=>by
  rcases Yz h with ⟨i,u,rfl,e⟩ | ⟨y,u,rfl,e⟩
  ·exact nomatch e
  ·injection e with e1 _
   subst e1;cases v <;> rfl
def Zb0 (prog:Program) (w:World) (i:Int) (t:Tok):(Z7 prog w).is (.inl i) (.int i t)=true:=Zey i t
def Zbz (prog:Program) (w:World) (x:Str) (t:Tok):(Z7 prog w).is (.inr x) (.str x t)=true:=Yg x t
inductive V where
 | non | bl (b:Bool) | int (i:Int) | str (x:Str) | byt (b:Array UInt8) | flt (b:UInt64) | ref (a:Addr) | ty (n:String)
 deriving DecidableEq
set_option genInjectivity false
set_option genSizeOf false
def RelV:V->Value->Prop
 | .non,u=>u=Value.none
 | .bl b,u=>u=Value.bool b
 | .int i,u=>∃ t,u=Value.int i t
 | .str x,u=>∃ t,u=Value.str x t
 | .byt b,u=>∃ t,u=Value.bytes b t
 | .flt b,u=>∃ t,u=Value.float b t
 | .ref a,u=>u=Value.ref a
 | .ty n,u=>u=Value.type n
abbrev Vals:List V->List Value->Prop:=Paired RelV
def Vals.length {xs:List V} {us:List Value} (r:Vals xs us):xs.length=us.length:=Paired.length r
theorem Vals.get:∀ {xs:List V} {us:List Value} {i:Nat} {x:V},Vals xs us->xs[i]?=some x->∃ u,us[i]?=some u/\RelV x u
 | _,_,_,_,.nil,e=>by simp at e
 | _,_,0,_,.cons r _,e=>by simp at e; subst e; exact ⟨_,Z,r⟩
 | _,_,i + 1,x,.cons _ t,e=>by
  obtain ⟨u,h1,h2⟩:=Vals.get (i:=i) (x:=x) t (by simpa using e);exact ⟨u,by simpa using h1,h2⟩
theorem Vals.set (r:RelV x u):∀ {xs:List V} {us:List Value} (i:Nat),Vals xs us->Vals (xs.set i x) (us.set i u)
 | _,_,_,.nil=>.nil
 | _,_,0,.cons _ t=>.cons r t
 | _,_,i + 1,.cons q t=>.cons q (Vals.set r i t)
theorem Vals.append:∀ {xs ys:List V} {us ws:List Value},Vals xs us->Vals ys ws->Vals (xs ++ ys) (us ++ ws)
 | _,_,_,_,.nil,s=>s
 | _,_,_,_,.cons r t,s=>.cons r (Vals.append t s)
theorem Vals.take:∀ {xs:List V} {us:List Value} (n:Nat),Vals xs us->Vals (xs.take n) (us.take n)
 | _,_,0,_=>.nil
 | _,_,_ + 1,.nil=>.nil
 | _,_,n + 1,.cons r t=>.cons r (Vals.take n t)
theorem Vals.drop:∀ {xs:List V} {us:List Value} (n:Nat),Vals xs us->Vals (xs.drop n) (us.drop n)
 | _,_,0,r=>r
 | _,_,_ + 1,.nil=>.nil
 | _,_,n + 1,.cons _ t=>Vals.drop n t
def RelO:Option V->Option Value->Prop
 | some v,some u=>RelV v u
 | none,none=>True
 | _,_=>False
def KV {κ:Type}:List (κ × V)->List (κ × Value)->Prop:=Paired λ(p:κ × V) (q:κ × Value)=>p.1=q.1/\RelV p.2 q.2
def kV:Key->V
 | .inl i=>.int i
 | .inr x=>.str x
inductive HO where
 /-- a list -/
 | lst (xs:List V)
 /-- a tuple (never changes) -/
 | tup (xs:List V)
 /-- a dict whose keys are ints and texts; one whose keys are tuples of ints and texts (the empty one is both) -/
 | dK (kvs:List (Key × V)) | dT (kvs:List (List Key × V))
 /-- a set of ints: its members,its size -/
 | set (S:Int->Bool) (n:Nat)
 /-- an instance of the class at C,its dict at dx,its attributes -/
 | ins (C dx:Addr) (fs:List (Str × V))
 /-- the dict of the instance at x -/
 | own (x:Addr)
 /-- the dict of an exception -/
 | xd (fs:List (Str × V))
 /-- a bound method,f of x -/
 | met (f x:Addr)
 /-- a range object lo,lo + 1,.. below hi -/
 | rng (lo hi:Int)
 /-- a thing that is known to the object (the script; a dict while a loop walks it): read,never written while it is so -/
 | frz (o:Obj) (u:HO)
 /-- a code object's table -/
 | tbl (ps:Array Value)
 /-- any other thing,by what is true of its one object (a def of one's own: SetO a S n:=HO.ext λh=>..) -/
 | ext (φ:Heap->Prop)
abbrev Hp:=Addr->Option HO
def upd (H:Hp) (a:Addr) (o:HO):Hp:=λb=>if b=a then some o else H b
def Zb:upd H a o a=some o:=by unfold upd; rw [if_pos rfl]
def Ze (h:b≠a):upd H a o b=H b:=by unfold upd; rw [if_neg h]
def Zh {H:Hp} (h:H a=some o) (h':H b=none):a≠b:=by
 intro e; subst e; rw [h] at h'; cases h'
section
variable (P:Program) (w:World)
def Yh (H:Hp) (h:Heap) (a:Addr):HO->Prop
 | .lst xs=>xs.length<=sizeLine/\∃ (its:List Value) (n:Nat),Vals xs its/\h.get? a=some { cls:=.type "list",data:=.seq its.toArray n }
 | .tup xs=>xs.length<=sizeLine/\∃ its:List Value,Vals xs its/\IsTup h a its.toArray
 | .dK kvs=>kvs.length<=sizeLine/\(a == sysModules)=false/\∃ vs,KV kvs vs/\h.DictOf (Z7 P w) a vs
 | .dT kvs=>kvs.length<=sizeLine/\(a == sysModules)=false/\∃ xs:List (List Key × Addr × Value),
   Paired (λ(p:List Key × V) (q:List Key × Addr × Value)=>p.1=q.1/\H q.2.1=some (.tup (p.1.map kV))/\RelV p.2 q.2.2) kvs xs /\
   ∃ o es ep,h.get? a=some o/\o.ExactDict/\o.data=.dict es ep/\es.toList=xs.map (entryOfKey (tupleKind (Z7 P w)))/\(xs.map (·.1)).Nodup
 | .set S n=>h.SetOf (intKind P w) a S n
 | .ins C dx fs=>H dx=some (.own a)/\fs.length<=1000/\dx≠a/\h.get? a=some (PySem.W.instObj C dx) /\
   ∃ mA,h.Ns1 dx mA/\(∀ f,RelO (fs.lookup f) (mA f))/\PySem.Within mA (fs.map (·.1))
 | .own _=>∃ o,h.get? a=some o
 | .xd fs=>∃ mA,h.Ns1 a mA/\∀ f,RelO (fs.lookup f) (mA f)
 | .rng lo hi=>∃ t u v,h.get? a=some { cls:=.type "range",data:=.fields #[.int lo t,.int hi u,.int 1 v] }
 | .frz o u=>h.get? a=some o/\Yh H h a u
 | .tbl ps=>h.get? a=some { cls:=.none,data:=.fields ps }
 | .met f x=>h.get? a=some (PySem.W.methodObj (.ref f) (.ref x))
 | .ext φ=>φ h/\(∃ o,h.get? a=some o)/\∀ h1 h2:Heap,φ h1->(∀ o,h1.get? a=some o->h2.get? a=some o)->φ h2
def HOk (H:Hp) (h:Heap):Prop:=∀ a o,H a=some o->Yh P w H h a o
end
section
variable {P:Program} {w:World} {H H':Hp} {h h':Heap} {a:Addr} {o:HO}
def Yh.lt (x:Yh P w H h a o):a < h.objs.size:=by
 cases o with
 | lst xs=>obtain ⟨_,_,_,_,e⟩:=x; exact Ao e
 | tup xs=>obtain ⟨_,_,_,p⟩:=x; exact p.lt
 | dK kvs=>obtain ⟨_,_,_,_,o,_,_,e,_⟩:=x; exact Ao e
 | dT kvs=>obtain ⟨_,_,_,_,o,_,_,e,_⟩:=x; exact Ao e
 | set S n=>obtain ⟨o,_,_,_,e,_⟩:=x; exact Ao e
 | ins C dx fs=>obtain ⟨_,_,_,e,_⟩:=x; exact Ao e
 | own y=>obtain ⟨_,e⟩:=x; exact Ao e
 | xd fs=>obtain ⟨_,⟨_,_,_,e,_⟩,_⟩:=x; exact Ao e
 | rng lo hi=>obtain ⟨_,_,_,e⟩:=x; exact Ao e
 | frz ob u=>obtain ⟨e,_⟩:=x; exact Ao e
 | tbl ps=>exact Ao (show h.get? a=some _ from x)
 | met f y=>exact Ao (show h.get? a=some _ from x)
 | ext φ=>obtain ⟨_,⟨_,e⟩,_⟩:=x; exact Ao e
theorem Paired.mapP {α β:Type} {F G:α->β->Prop}:∀ {l₁:List α} {l₂:List β},Paired F l₁ l₂->(∀ a b,F a b->G a b)->Paired G l₁ l₂
 | _,_,.nil,_=>.nil
 | _,_,.cons r t,f=>.cons (f _ _ r) (Paired.mapP t f)
def Yh.stay (x:Yh P w H h a o) (k:∀ b u,(b=a\/H b=some (.own a))->h.get? b=some u->h'.get? b=some u)
  (ho:∀ b,H b=some (.own a)->H' b=some (.own a)) (ht:∀ b xs,H b=some (.tup xs)->H' b=some (.tup xs)):Yh P w H' h' a o:=by
 induction o with
 | lst xs=>obtain ⟨z,its,n,r,e⟩:=x; exact ⟨z,its,n,r,k _ _ (.inl Z) e⟩
 | tup xs=>obtain ⟨z,its,r,ob,e,c⟩:=x; exact ⟨z,its,r,ob,k _ _ (.inl Z) e,c⟩
 | dK kvs=>obtain ⟨z,y,vs,r,ob,es,ep,e,c⟩:=x; exact ⟨z,y,vs,r,ob,es,ep,k _ _ (.inl Z) e,c⟩
 | dT kvs =>
  obtain ⟨z,y,xs,r,ob,es,ep,e,c⟩:=x;exact ⟨z,y,xs,Paired.mapP r λp q z=>⟨z.1,ht _ _ z.2.1,z.2.2⟩,ob,es,ep,k _ _ (.inl Z) e,c⟩
 | set S n=>obtain ⟨ob,es,ep,t,e,c⟩:=x; exact ⟨ob,es,ep,t,k _ _ (.inl Z) e,c⟩
 | ins C dx fs =>
  obtain ⟨d,z,ne,e,mA,⟨od,es,ep,e2,c⟩,r⟩:=x;exact ⟨ho _ d,z,ne,k _ _ (.inl Z) e,mA,⟨od,es,ep,k _ _ (.inr d) e2,c⟩,r⟩
 | own y=>obtain ⟨ob,e⟩:=x; exact ⟨ob,k _ _ (.inl Z) e⟩
 | xd fs=>obtain ⟨mA,⟨od,es,ep,e,c⟩,r⟩:=x; exact ⟨mA,⟨od,es,ep,k _ _ (.inl Z) e,c⟩,r⟩
 | rng lo hi=>obtain ⟨t,u,v,e⟩:=x; exact ⟨t,u,v,k _ _ (.inl Z) e⟩
 | frz ob u ih=>obtain ⟨e,q⟩:=x; exact ⟨k _ _ (.inl Z) e,ih q⟩
 | tbl ps =>
  have e:h.get? a=some { cls:=.none,data:=.fields ps }:=x;show h'.get? a=some { cls:=.none,data:=.fields ps };exact k a _ (.inl Z) e
 | met f y =>
  have e:h.get? a=some (PySem.W.methodObj (.ref f) (.ref y)):=x;show h'.get? a=some (PySem.W.methodObj (.ref f) (.ref y));exact k a _ (.inl Z) e
 | ext φ=>obtain ⟨p,⟨o,e⟩,st⟩:=x; exact ⟨st _ _ p λo q=>k _ _ (.inl Z) q,⟨o,k _ _ (.inl Z) e⟩,st⟩
def HOk.lt (x:HOk P w H h) (e:H a=some o):a < h.objs.size:=(x a o e).lt
def HOk.fresh (x:HOk P w H h) (e:h.objs.size<=a):H a=none:=by
 cases q:H a with
 | none=>rfl
 | some u=>exact absurd (Ag (x.lt q) e) (Nat.lt_irrefl _)
def HOk.kept (x:HOk P w H h) (k:∀ b u,h.get? b=some u->h'.get? b=some u):HOk P w H h':=λa o e =>
 (x a o e).stay (λb u _ q=>k b u q) (λ_ q=>q) λ_ _ q=>q
def HOk.laid (x:HOk P w H h) (k:∀ b u,h.get? b=some u->h'.get? b=some u) (hp:h.objs.size<=a) (new:Yh P w (upd H a o) h' a o):HOk P w (upd H a o) h':=λb u e=>by
 have hn:=x.fresh hp;by_cases hb:b=a
 ·subst hb; rw [Zb] at e; cases e; exact new
 ·rw [Ze hb] at e
  exact (x b u e).stay (λc v _ q=>k c v q) (λc q=>by rw [Ze (Zh q hn)]; exact q) λc xs q=>by rw [Ze (Zh q hn)]; exact q
end
def Rd (H:Hp) (a:Addr) (u:HO):Prop:=H a=some u\/∃ o,H a=some (.frz o u)
def Rd.ok {P:Program} {w:World} {H:Hp} {h:Heap} {a:Addr} {u:HO} (r:Rd H a u) (x:HOk P w H h):Yh P w H h a u:=by
 rcases r with r | ⟨o,r⟩
 ·exact x a u r
 ·obtain ⟨_,q⟩:=x a _ r
  exact q
def Mut:Option HO->Prop
 | some (.lst _)=>True
 | some (.dK _)=>True
 | some (.dT _)=>True
 | some (.set _ _)=>True
 | some (.ins _ _ _)=>True
 | some (.ext _)=>True
 | _=>False
section
variable {P:Program} {w:World} {H:Hp} {h h':Heap} {x e:Addr} {o':HO}
def HOk.write (ok:HOk P w H h) (mu:Mut (H x)) (he:e=x\/H e=some (.own x)) (k:∀ b u,b≠e->h.get? b=some u->h'.get? b=some u) (ul:∃ u,h'.get? e=some u)
  (new:Yh P w (upd H x o') h' x o'):HOk P w (upd H x o') h':=λb u q=>by
 have p4:∀ c y,H c=some (.own y)->c≠x:=λc y r z=>by subst z; rw [r] at mu; exact mu
 have pz:∀ c xs,H c=some (.tup xs)->c≠x:=λc xs r z=>by subst z; rw [r] at mu; exact mu
 by_cases hb:b=x
 ·subst hb; rw [Zb] at q; cases q; exact new
 ·rw [Ze hb] at q
  by_cases rl:b=e
  ·have q':H b=some (.own x):=by
    rcases he with z | z
    ·exact absurd (rl.trans z) hb
    ·rw [rl]; exact z
   rw [q] at q'; cases q';obtain ⟨v,hv⟩:=ul;exact ⟨v,by rw [rl]; exact hv⟩
  ·refine (ok b u q).stay (λc v hc r=>k c v ?_ r) (λc r=>by rw [Ze (p4 c b r)]; exact r) λc xs r=>by rw [Ze (pz c xs r)]; exact r
   rcases hc with rfl | hc
   ·exact rl
   ·rintro rfl
    rcases he with z | z
    ·exact p4 c b hc z
    ·rw [hc] at z; cases z; exact hb Z
end
structure Un (fs ex:List Addr) (H H':Hp) (h h':Heap):Prop where
 keep:∀ b o,h.get? b=some o->H b=none->b ∉ fs->b ∉ ex->h'.get? b=some o
 slot:∀ b o,h.get? b=some o->H b=none->b∈fs->b ∉ ex->∃ sl,h'.get? b=some { o with slots:=sl }
 free:∀ b o,h.get? b=some o->H b=none->b ∉ ex->H' b=none
 there:∀ b o,h.get? b=some o->b ∉ ex->∃ o',h'.get? b=some o'
 tups:∀ b xs,H b=some (.tup xs)->H' b=some (.tup xs)
 frzs:∀ b o u,H b=some (.frz o u)->H' b=some (.frz o u)
 tbls:∀ b ps,H b=some (.tbl ps)->∃ r9,H' b=some (.tbl (ps ++ r9))
section
variable {fs fs' ex ex':List Addr} {H H1 H2:Hp} {h h1 h2 h':Heap} {a x e:Addr} {o:HO}
def Un.any (u:Un fs ex H H1 h h1) (q:h.get? b=some ob) (n:H b=none) (hx:b ∉ ex):∃ sl,h1.get? b=some { ob with slots:=sl }:=by
 by_cases hb:b∈fs
 ·exact u.slot b ob q n hb hx
 ·exact ⟨ob.slots,u.keep b ob q n hb hx⟩
def Un.kept (k:∀ b u,h.get? b=some u->h'.get? b=some u):Un fs ex H H h h' :=
 ⟨λb ob q _ _ _=>k b ob q,λb ob q _ _ _=>⟨ob.slots,k b ob q⟩,λ_ _ _ n _=>n,λb ob q _=>⟨ob,k b ob q⟩,λ_ _ q=>q,λ_ _ _ q=>q,λ_ ps q=>⟨#[],by rw [q]; simp⟩⟩
def Un.refl:Un fs ex H H h h:=Un.kept λ_ _ q=>q
def Un.laid (k:∀ b u,h.get? b=some u->h'.get? b=some u) (hp:h.objs.size<=a) (hn:H a=none):Un fs ex H (upd H a o) h h' where
 keep:=λb u q _ _ _=>k b u q
 slot:=λb u q _ _ _=>⟨u.slots,k b u q⟩
 free:=λb u q n _=>by rw [Ze (As (Ag (Ao q) hp))]; exact n
 there:=λb u q _=>⟨u,k b u q⟩
 tups:=λb xs q=>by rw [Ze (Zh q hn)]; exact q
 frzs:=λb u xs q=>by rw [Ze (Zh q hn)]; exact q
 tbls:=λb ps q=>⟨#[],by rw [Ze (Zh q hn),q]; simp⟩
def Un.write (mu:Mut (H x)) (he:e=x\/H e=some (.own x)) (k:∀ b u,b≠e->h.get? b=some u->h'.get? b=some u) (ul:∃ u,h'.get? e=some u):Un fs ex H (upd H x o) h h':=by
 have hx:∀ b,H b=none->b≠x:=λb n z=>by subst z; rw [n] at mu; exact mu
 have hb:∀ b,H b=none->b≠e:=λb n z=>by
  subst z
  rcases he with r | r
  ·exact hx b n r
  ·rw [n] at r; cases r
 have hm:∀ b u,H b=some u->¬ Mut (some u)->b≠x:=λb u q nm z=>by subst z; rw [q] at mu; exact nm mu
 refine ⟨λb u q n _ _=>k b u (hb b n) q,λb u q n _ _=>⟨u.slots,k b u (hb b n) q⟩,λb u q n _=>by rw [Ze (hx b n)]; exact n,λb u q _=>?_,
  λb xs q=>by rw [Ze (hm b _ q λz=>z)]; exact q,λb u xs q=>by rw [Ze (hm b _ q λz=>z)]; exact q,λb ps q=>⟨#[],by rw [Ze (hm b _ q λz=>z),q]; simp⟩⟩;by_cases rl:b=e
 ·subst rl; exact ul
 ·exact ⟨u,k b u rl q⟩
end
def trk (h:Heap) (H:Hp):List Addr:=(List.range h.objs.size).filter λa=>(H a).isSome
def hidT (h:Heap) (H:Hp):Heap:=PySem.W.hideAll h (trk h H)
def Ze3 (h:Heap) (H:Hp):(hidT h H).objs.size=h.objs.size:=PySem.W.hideAll_size _ _
def Zgh {h:Heap} (e:h.get? b=some o) (n:H b=none):(hidT h H).get? b=some o :=
 PySem.W.hideAll_get _ e λhm=>by
  have q:(H b).isSome=true:=(List.mem_filter.mp hm).2;rw [n] at q; simp at q
def Zh1 {h:Heap} (e:(hidT h H).get? b=some o):h.get? b=some o/\H b=none:=by
 have e':h.get? b=some o:=PySem.W.of_hideAll (trk h H) e;refine ⟨e',?_⟩
 cases q:H b with
 | none=>rfl
 | some x =>
  have hm:b∈trk h H:=List.mem_filter.mpr ⟨List.mem_range.mpr (Ao e'),by simp [q]⟩;have z:(hidT h H).get? b=none:=PySem.W.hideAll_none (trk h H) hm;rw [z] at e; cases e
def Zie (g h:Heap) (L:Addr):List (Addr × Obj):=(List.range h.objs.size).filterMap λa=>if a=L\/(g.get? a).isSome=true then none else (h.get? a).map λo=>(a,o)
def rest (g h:Heap) (L d:Addr):List (Addr × Obj):=(Zie g h L).filter λp=>decide (p.1≠d)
structure Mod (K:W.Frag) (mg:Str->Option Value) (base:Heap):Prop where
 kin:K.In base
 glob:base.Ns mainGlobals mg
 blt:∃ mb,base.Ns builtinsNs mb/\∀ x:Str,x≠"__name__"->mb x=bootBuiltins x
 nolimit:base.NoLimit
structure Cx where
 prog:Program
 w:World
 K:PySem.W.Frag
 mg:Str->Option Value
 base:Heap
 A:Around
 N:List Str
 s₀:Shared
 H₀:Hp
 env:Env
 outer:List Env
 stack:List Env
 ex:List Addr
 fn:Str->Bool
 calm:Bool
 pn:List (Addr × Obj)
 xe:Value->Shared->Prop
def frs (l:List Env):List Addr:=l.filterMap (·.frame)
abbrev Cx.fs (X:Cx):List Addr:=frs X.outer
def Vis (sc:Scope) (x:Str):Prop:=sc.names.lookup x=some .local\/sc.names.lookup x=some .cell\/sc.names.lookup x=some .free
def Loc (sc:Scope) (x:Str):Prop:=sc.names.lookup x=some .local\/sc.names.lookup x=some .cell
def Look (env:Env) (h:Heap) (m:Str->Option Value) (x:Str) (u:Value):Prop :=
 (env.kindOf x=some .local/\m x=some u)\/((env.kindOf x=some .cell\/env.kindOf x=some .free)/\∃ c,env.cells.lookup x=some c/\h.IsCell c (some u))
structure Cx.Ok (X:Cx):Prop where
 mod:Mod X.K X.mg X.base
 kind:X.env.scope.kind=.function
 glob:X.env.globals=mainGlobals
 blt:X.env.builtins=builtinsNs
 above:X.s₀.heap.objs.size<=X.env.locals
 inj:∀ x y c,X.env.cells.lookup x=some c->X.env.cells.lookup y=some c->x=y
 has:∀ x,(X.env.kindOf x=some .cell\/X.env.kindOf x=some .free)->∃ c,X.env.cells.lookup x=some c
 cab:∀ x c,X.fn x=true->X.env.cells.lookup x=some c->X.s₀.heap.objs.size<=c
 hd:X.calm=true->X.A.handled=none
 frames:X.A.frames=some X.stack
 stk:X.stack=X.outer\/(X.stack=X.env :: X.outer/\X.env.frame=some X.env.locals)
 exf:∀ b∈X.ex,b≠X.env.locals/\∀ x c,X.env.cells.lookup x=some c->c≠b
 bs:∀ b o,X.base.get? b=some o->X.s₀.heap.get? b=some o/\X.H₀ b=none
 bsz:X.base.objs.size<=X.s₀.heap.objs.size
 noex:∀ b o,X.base.get? b=some o->b ∉ X.ex
 exfs:∀ b∈X.ex,b ∉ X.fs
 funs:X.s₀.heap.FunFrames X.base X.outer
 frf:∀ b∈X.fs,X.H₀ b=none
structure Inv (X:Cx) (j0:List (Addr × Obj)) (σ:List (Option V)) (H:Hp) (s:Shared):Prop where
 ok:X.Ok
 os:s.os=X.s₀.os
 bare:AllBare s.gens
 base:Un X.fs X.ex X.H₀ H X.s₀.heap s.heap
 loc:∃ m,s.heap.Ns X.env.locals m/\∀ (i:Nat) (x:Str) (v:V),X.N[i]?=some x->σ[i]?=some (some v)->Vis X.env.scope x->∃ u,RelV v u/\Look X.env s.heap m x u
 cell:∀ x c,X.env.cells.lookup x=some c->∃ v,s.heap.IsCell c v
 free:H X.env.locals=none
 freeC:∀ x c,X.env.cells.lookup x=some c->H c=none
 pin:∀ p∈X.pn ++ j0,s.heap.get? p.1=some p.2/\H p.1=none/\p.1≠X.env.locals/\p.1 ∉ X.fs/\∀ v,p.2.data≠.cell v
 hok:HOk X.prog X.w H s.heap
 len:σ.length=X.N.length
section
variable {X:Cx} {j0:List (Addr × Obj)} {σ:List (Option V)} {H H':Hp} {s:Shared} {h':Heap}
def Cx.Ok.nofr (ok:X.Ok) (e:X.base.get? b=some o):b ∉ X.fs:=λhb=>by
 have:=(ok.funs.mem hb).1;rw [e] at this; cases this
def Inv.bs (I:Inv X j0 σ H s):∀ b o,X.base.get? b=some o->s.heap.get? b=some o/\H b=none:=λb o e =>
 ⟨I.base.keep b o (I.ok.bs b o e).1 (I.ok.bs b o e).2 (I.ok.nofr e) (I.ok.noex b o e),I.base.free b o (I.ok.bs b o e).1 (I.ok.bs b o e).2 (I.ok.noex b o e)⟩
def Inv.bk (I:Inv X j0 σ H s):∀ b o,X.base.get? b=some o->s.heap.get? b=some o:=λb o e=>(I.bs b o e).1
def Inv.mod (I:Inv X j0 σ H s):Mod X.K X.mg X.base:=I.ok.mod
def Inv.kIn (I:Inv X j0 σ H s):X.K.In s.heap:=I.ok.mod.kin.keeps I.bk
def Inv.lt (I:Inv X j0 σ H s):X.env.locals < s.heap.objs.size:=let ⟨_,hn,_⟩:=I.loc; hn.lt
def Inv.sz (I:Inv X j0 σ H s):X.s₀.heap.objs.size<=s.heap.objs.size:=Nat.le_trans I.ok.above (Nat.le_of_lt I.lt)
def Inv.nofs (I:Inv X j0 σ H s) {a:Addr} (h:s.heap.objs.size<=a):a ∉ X.fs:=λhb=>by
 obtain ⟨_,o,ho,_⟩:=I.ok.funs.mem hb;exact absurd (Ag (Ao ho) (Nat.le_trans I.sz h)) (Nat.lt_irrefl _)
def Inv.cne (I:Inv X j0 σ H s):∀ x c,X.env.cells.lookup x=some c->c≠X.env.locals:=λx c e z=>by
 obtain ⟨v,o,ho,hd⟩:=I.cell x c e;obtain ⟨m,⟨o',es,ep,l8,vm,_⟩,_⟩:=I.loc;rw [z,l8] at ho; cases ho; rw [vm] at hd; cases hd
def Inv.funs (I:Inv X j0 σ H s):s.heap.FunFrames X.base X.outer:=by
 have all:∀ (l:List Env),(∀ b∈frs l,b∈X.fs)->X.s₀.heap.FunFrames X.base l->s.heap.FunFrames X.base l:=by
  intro l
  induction l with
  | nil=>intro _ _; trivial
  | cons env r ih =>
   intro hs hl;obtain ⟨hk,⟨L,o,hf,hn,ho,hd⟩,hr⟩:=hl;have hL:L∈X.fs:=hs L (by unfold frs; rw [List.filterMap_cons,hf]; exact List.mem_cons_self);obtain ⟨sl,e⟩:=I.base.slot L o ho (I.ok.frf L hL) hL λz=>I.ok.exfs L z hL;exact ⟨hk,⟨L,_,hf,hn,e,hd⟩,ih (λb hb=>hs b (by unfold frs; rw [List.filterMap_cons,hf]; exact List.mem_cons_of_mem _ hb)) hr⟩
 exact all X.outer (λ_ hb=>hb) I.ok.funs
def Inv.stack (I:Inv X j0 σ H s):s.heap.FunFrames X.base X.stack:=by
 rcases I.ok.stk with e | ⟨e,hf⟩
 ·rw [e]; exact I.funs
 ·rw [e]
  obtain ⟨m,hn,_⟩:=I.loc;refine .cons (by rw [I.ok.kind]; decide) hf hn ?_ I.funs;exact Heap.get?_none_of_le (Nat.le_trans I.ok.bsz I.ok.above)
def Inv.stkSub (I:Inv X j0 σ H s):∀ b∈frs X.stack,b∈X.env.locals :: X.fs:=λb hb=>by
 rcases I.ok.stk with e | ⟨e,hf⟩
 ·rw [e] at hb; exact List.mem_cons_of_mem _ hb
 ·rw [e] at hb
  unfold frs at hb;rw [List.filterMap_cons,hf] at hb;exact hb
def Inv.stkFree (I:Inv X j0 σ H s):∀ b∈frs X.stack,H b=none:=λb hb=>by
 rcases Ar (I.stkSub b hb) with e | hb
 ·rw [e]; exact I.free
 ·obtain ⟨_,o,ho,_⟩:=I.ok.funs.mem hb
  exact I.base.free b o ho (I.ok.frf b hb) λz=>I.ok.exfs b z hb
def Inv.step {g':Array GenState} {t':Nat} {d':Drawn} {ch:List Addr} (I:Inv X j0 σ H s)
  (mq:∀ b∈ch,(b∈X.ex\/X.s₀.heap.objs.size<=b)/\b≠X.env.locals/\(∀ x c,X.env.cells.lookup x=some c->c≠b)/\∀ p∈X.pn ++ j0,p.1≠b)
  (keep:∀ b o,b≠X.env.locals->b ∉ X.fs->b ∉ ch->s.heap.get? b=some o->H b=none->h'.get? b=some o)
  (slot:∀ b o,b≠X.env.locals->b∈X.fs->b ∉ ch->s.heap.get? b=some o->H b=none->∃ sl,h'.get? b=some { o with slots:=sl }) (free:∀ b o,b ∉ ch->s.heap.get? b=some o->H b=none->H' b=none)
  (there:∀ b o,b ∉ ch->s.heap.get? b=some o->∃ o',h'.get? b=some o')
  (tups:∀ b xs,H b=some (.tup xs)->H' b=some (.tup xs)) (frzs:∀ b o u,H b=some (.frz o u)->H' b=some (.frz o u)) (tbls:∀ b ps,H b=some (.tbl ps)->∃ r9,H' b=some (.tbl (ps ++ r9)))
  (ns:∀ m,s.heap.Ns X.env.locals m->h'.Ns X.env.locals m) (hok:HOk X.prog X.w H' h') (hg:AllBare g') :
  Inv X j0 σ H' { s with heap:=h',gens:=g',drawn:=d',toks:=t' }:=by
 have neL:∀ b o,X.s₀.heap.get? b=some o->b≠X.env.locals:=λb o e=>As (Ag (Ao e) I.ok.above);have xq:∀ b o,X.s₀.heap.get? b=some o->b ∉ X.ex->b ∉ ch:=λb o e hx hb=>by
  rcases (mq b hb).1 with z | z
  ·exact hx z
  ·exact absurd (Ag (Ao e) z) (Nat.lt_irrefl _)
 have mj:∀ x c,X.env.cells.lookup x=some c->∀ v,s.heap.IsCell c v->h'.IsCell c v:=λx c e v ⟨o,ho,hd⟩=>by
  have uz:c ∉ ch:=λz=>(mq c z).2.2.1 x c e rfl;by_cases hc:c∈X.fs
  ·obtain ⟨sl,q⟩:=slot c o (I.cne x c e) hc uz ho (I.freeC x c e)
   exact ⟨_,q,hd⟩
  ·exact ⟨o,keep c o (I.cne x c e) hc uz ho (I.freeC x c e),hd⟩
 refine ⟨I.ok,I.os,hg,⟨λb o e n hb hx=>?_,λb o e n hb hx=>?_,λb o e n hx=>?_,λb o e hx=>?_,λb xs e=>tups b xs (I.base.tups b xs e),λb o xs e=>frzs b o xs (I.base.frzs b o xs e),λb ps e=>?_⟩,?_,λx c e=>?_,?_,λx c e=>?_,λp hp=>?_,hok,I.len⟩
 ·exact keep b o (neL b o e) hb (xq b o e hx) (I.base.keep b o e n hb hx) (I.base.free b o e n hx)
 ·obtain ⟨sl,e1⟩:=I.base.slot b o e n hb hx
  obtain ⟨uw,e2⟩:=slot b _ (neL b o e) hb (xq b o e hx) e1 (I.base.free b o e n hx);exact ⟨uw,e2⟩
 ·obtain ⟨o',e1⟩:=I.base.there b o e hx
  exact free b o' (xq b o e hx) e1 (I.base.free b o e n hx)
 ·obtain ⟨o',e1⟩:=I.base.there b o e hx
  exact there b o' (xq b o e hx) e1
 ·obtain ⟨m1,e1⟩:=I.base.tbls b ps e
  obtain ⟨m2,e2⟩:=tbls b _ e1;exact ⟨m1 ++ m2,by rw [e2,Array.append_assoc]⟩
 ·obtain ⟨m,hn,hl⟩:=I.loc
  refine ⟨m,ns m hn,λi x v e1 e2 e3=>?_⟩;obtain ⟨u,r,l⟩:=hl i x v e1 e2 e3;refine ⟨u,r,?_⟩
  rcases l with l | ⟨k,c,e,z⟩
  ·exact .inl l
  ·exact .inr ⟨k,c,e,mj x c e _ z⟩
 ·obtain ⟨v,z⟩:=I.cell x c e
  exact ⟨v,mj x c e v z⟩
 ·obtain ⟨m,⟨o,_,_,ho,_⟩,_⟩:=I.loc
  exact free _ o (λz=>(mq _ z).2.1 Z) ho I.free
 ·obtain ⟨v,o,ho,hd⟩:=I.cell x c e
  exact free c o (λz=>(mq c z).2.2.1 x c e Z) ho (I.freeC x c e)
 ·obtain ⟨e,n,ne,nf,d⟩:=I.pin p hp
  have uz:p.1 ∉ ch:=λz=>(mq p.1 z).2.2.2 p hp rfl;exact ⟨keep p.1 p.2 ne nf uz e n,free p.1 p.2 uz e n,ne,nf,d⟩
def Inv.un {t':Nat} (I:Inv X j0 σ H s) (u:Un X.fs [] H H' s.heap h') (hok:HOk X.prog X.w H' h'):Inv X j0 σ H' { s with heap:=h',toks:=t' }:=by
 obtain ⟨m,⟨o,es,ep,ho,r⟩,_⟩:=id I.loc;obtain ⟨sl,hL⟩:=u.any ho I.free (by simp);exact I.step (g':=s.gens) (d':=s.drawn) (ch:=[]) (λ_ z=>nomatch z) (λb o _ hb _ e n=>u.keep b o e n hb (by simp)) (λb o _ hb _ e n=>u.slot b o e n hb (by simp)) (λb o _ e n=>u.free b o e n (by simp)) (λb o _ e=>u.there b o e (by simp)) u.tups u.frzs u.tbls (λm' hm=>by
  obtain ⟨o',es',ep',l8,r'⟩:=hm
  rw [ho] at l8; cases l8
  exact ⟨_,es',ep',hL,r'⟩) hok I.bare
def Inv.call {t':Nat} {d':Drawn} (I:Inv X j0 σ H s) (u:Un (frs X.stack) ch H H' s.heap h') (hok:HOk X.prog X.w H' h') (hg:AllBare g')
  (mq:∀ b∈ch,(b∈X.ex\/X.s₀.heap.objs.size<=b)/\b≠X.env.locals/\(∀ x c,X.env.cells.lookup x=some c->c≠b)/\∀ p∈X.pn ++ j0,p.1≠b) :
  Inv X j0 σ H' { s with heap:=h',gens:=g',drawn:=d',toks:=t' }:=by
 obtain ⟨m,⟨o,es,ep,ho,r⟩,_⟩:=id I.loc;obtain ⟨sl,hL⟩:=u.any ho I.free λz=>(mq _ z).2.1 rfl;exact I.step (ch:=ch) mq (λb o hL hb hc e n=>u.keep b o e n (λz=>(Ar (I.stkSub b z)).elim hL hb) hc) (λb o _ _ hc e n=>u.any e n hc) (λb o hc e n=>u.free b o e n hc) (λb o hc e=>u.there b o e hc) u.tups u.frzs u.tbls (λm' hm=>by
  obtain ⟨o',es',ep',l8,r'⟩:=hm
  rw [ho] at l8; cases l8
  exact ⟨_,es',ep',hL,r'⟩) hok hg
def Inv.turned {t':Nat} (I:Inv X j0 σ H s) (k:∀ b o,b≠it->s.heap.get? b=some o->h'.get? b=some o) (hn:H it=none) (hL:it≠X.env.locals)
  (h1:it∈X.ex\/X.s₀.heap.objs.size<=it) (h2:∀ x c,X.env.cells.lookup x=some c->c≠it) (h3:∀ p∈X.pn ++ j0,p.1≠it):Inv X j0 σ H { s with heap:=h',toks:=t' }:=by
 have nit:∀ b u,H b=some u->b≠it:=λb u e z=>by rw [z,hn] at e; cases e
 refine I.step (g':=s.gens) (d':=s.drawn) (ch:=[it]) (λb hb=>?_) (λb o _ _ hc e _=>k b o (λz=>hc (by simp [z])) e) (λb o _ _ hc e _=>⟨o.slots,k b o (λz=>hc (by simp [z])) e⟩) (λ_ _ _ _ n=>n)
  (λb o hc e=>⟨o,k b o (λz=>hc (by simp [z])) e⟩) (λ_ _ e=>e) (λ_ _ _ e=>e) (λb ps e=>⟨#[],by rw [e]; simp⟩) (λm hm=>?_) (λb u e=>?_) I.bare
 ·have e:b=it:=by simpa using hb
  subst e;exact ⟨h1,hL,h2,h3⟩
 ·obtain ⟨o,es,ep,ho,r⟩:=hm
  exact ⟨o,es,ep,k _ o (Ne.symm hL) ho,r⟩
 ·refine (I.hok b u e).stay (λc v hc q=>k c v ?_ q) (λ_ q=>q) λ_ _ q=>q
  rcases hc with z | z
  ·rw [z]; exact nit b u e
  ·exact nit c _ z
def Inv.tok (I:Inv X j0 σ H s) (t:Nat):Inv X j0 σ H { s with toks:=t }:=I.un (h':=s.heap) (t':=t) Un.refl I.hok
def Inv.kept {t':Nat} (I:Inv X j0 σ H s) (k:∀ b u,s.heap.get? b=some u->h'.get? b=some u):Inv X j0 σ H { s with heap:=h',toks:=t' }:=I.un (Un.kept k) (I.hok.kept k)
def Inv.laid {t':Nat} (I:Inv X j0 σ H s) (k:∀ b u,s.heap.get? b=some u->h'.get? b=some u) (hp:s.heap.objs.size<=a) (new:Yh X.prog X.w (upd H a o) h' a o) :
  Inv X j0 σ (upd H a o) { s with heap:=h',toks:=t' }:=I.un (Un.laid k hp (I.hok.fresh hp)) (I.hok.laid k hp new)
def Inv.write {t':Nat} (I:Inv X j0 σ H s) (mu:Mut (H x)) (he:e=x\/H e=some (.own x)) (k:∀ b u,b≠e->s.heap.get? b=some u->h'.get? b=some u) (ul:∃ u,h'.get? e=some u)
  (new:Yh X.prog X.w (upd H x o) h' x o):Inv X j0 σ (upd H x o) { s with heap:=h',toks:=t' }:=I.un (Un.write mu he k ul) (I.hok.write mu he k ul new)
def Inv.pins_of (I:Inv X j0 σ H s) (h:∀ p∈pins',s.heap.get? p.1=some p.2/\H p.1=none/\p.1≠X.env.locals/\p.1 ∉ X.fs/\∀ v,p.2.data≠.cell v):Inv X pins' σ H s :=
 ⟨I.ok,I.os,I.bare,I.base,I.loc,I.cell,I.free,I.freeC,λp hp=>(List.mem_append.mp hp).elim (λz=>I.pin p (List.mem_append_left _ z)) (h p),I.hok,I.len⟩
def Zax {N:List Str} (hN:N.Nodup) {i j:Nat} (a:N[i]?=some x) (b:N[j]?=some x):i=j:=by
 obtain ⟨h1,e1⟩:=Aa a;obtain ⟨h2,e2⟩:=Aa b;exact (List.getElem_inj hN).mp (e1.trans e2.symm)
def Q7 (I:Inv X j0 σ H s) (hN:X.N.Nodup) (hi:X.N[i]?=some x) (hx:Loc X.env.scope x) (r:RelV v u)
  (h:∀ s',Inv X j0 (σ.set i (some v)) H s'->(∃ a,Heap.SameBut a s.heap s'.heap/\(a=X.env.locals\/X.env.cells.lookup x=some a))->Q () s') (hf:X.fn x=true\/X.env.scope.names.lookup x=some .local:=by first | exact .inl rfl | exact .inr rfl | assumption):wpAny M A (storeName X.env x u) Q E s:=by
 obtain ⟨m,hn,hl⟩:=id I.loc;have oq:(X.env.scope.kind == .class || (X.env.scope.kind == .module && X.env.locals != X.env.globals))=false:=by rw [I.ok.kind]; rfl
 have hiσ:i < σ.length:=by rw [I.len]; exact (Aa hi).1
 have cne:=I.cne
 have nj:∀ {a:Addr} {h':Heap},(∃ o,s.heap.get? a=some o/\H a=none)->Heap.SameBut a s.heap h'->HOk X.prog X.w H h':=λ{a h'} ha hs b ob e=>by
  obtain ⟨_,_,qm⟩:=ha;refine (I.hok b ob e).stay (λc w' hc q=>(hs.2 c ?_).trans q) (λ_ q=>q) λ_ _ q=>q;rintro rfl
  rcases hc with rfl | hc
  ·rw [qm] at e; cases e
  ·rw [qm] at hc; cases hc
 rcases hx with hk | hk
 ·refine wpAny_storeName_local hk hn (λh' hn' hs=>?_) oq
  obtain ⟨oL,_,_,va,_⟩:=id hn;refine h _ ⟨I.ok,I.os,I.bare,⟨λb o e n hb hx=>?_,λb o e n hb hx=>?_,I.base.free,λb o e hx=>?_,I.base.tups,I.base.frzs,I.base.tbls⟩,⟨_,hn',λj y v' e1 e2 e3=>?_⟩,λy c e=>?_,I.free,I.freeC,λp hp=>?_,nj ⟨oL,va,I.free⟩ hs,by simpa using I.len⟩ ⟨_,hs,.inl Z⟩
  ·exact (hs.2 b (As (Ag (Ao e) I.ok.above))).trans (I.base.keep b o e n hb hx)
  ·obtain ⟨sl,e1⟩:=I.base.slot b o e n hb hx
   exact ⟨sl,(hs.2 b (As (Ag (Ao e) I.ok.above))).trans e1⟩
  ·obtain ⟨o',e1⟩:=I.base.there b o e hx
   exact ⟨o',(hs.2 b (As (Ag (Ao e) I.ok.above))).trans e1⟩
  ·by_cases hj:j=i
   ·subst hj
    rw [hi] at e1; cases e1;rw [List.getElem?_set_self hiσ] at e2;cases e2;exact ⟨u,r,.inl ⟨hk,by simp⟩⟩
   ·rw [List.getElem?_set_ne (Ne.symm hj)] at e2
    obtain ⟨u',r',q⟩:=hl j y v' e1 e2 e3;refine ⟨u',r',?_⟩
    rcases q with ⟨k,e⟩ | ⟨k,c,e,z⟩
    ·refine .inl ⟨k,?_⟩
     have:y≠x:=λe=>hj (Zax hN e1 (e ▸ hi));simp [this,e]
    ·exact .inr ⟨k,c,e,z.sameBut hs (cne y c e)⟩
  ·obtain ⟨w',z⟩:=I.cell y c e
   exact ⟨w',z.sameBut hs (cne y c e)⟩
  ·obtain ⟨e,n,ne,nf,d⟩:=I.pin p hp
   exact ⟨(hs.2 p.1 ne).trans e,n,ne,nf,d⟩
 ·have zd:X.fn x=true:=by
   rcases hf with z | z
   ·exact z
   ·rw [z] at hk; cases hk
  obtain ⟨c,hc⟩:=I.ok.has x (.inl hk);obtain ⟨w',z⟩:=I.cell x c hc;refine wpAny_storeName_cell I.ok.kind hk hc z (λh' rk hs=>?_);obtain ⟨oc,hoc,hocd⟩:=id z;refine h { s with heap:=h' } ⟨I.ok,I.os,I.bare,⟨λb o e n hb hx=>?_,λb o e n hb hx=>?_,I.base.free,λb o e hx=>?_,I.base.tups,I.base.frzs,I.base.tbls⟩,⟨m,hn.sameBut hs (Ne.symm (cne x c hc)),λj y v' e1 e2 e3=>?_⟩,λy c' e=>?_,I.free,I.freeC,λp hp=>?_,nj ⟨oc,hoc,I.freeC x c hc⟩ hs,by simpa using I.len⟩ ⟨c,hs,.inr hc⟩
  ·exact (hs.2 b (As (Ag (Ao e) (I.ok.cab x c zd hc)))).trans (I.base.keep b o e n hb hx)
  ·obtain ⟨sl,e1⟩:=I.base.slot b o e n hb hx
   exact ⟨sl,(hs.2 b (As (Ag (Ao e) (I.ok.cab x c zd hc)))).trans e1⟩
  ·obtain ⟨o',e1⟩:=I.base.there b o e hx
   exact ⟨o',(hs.2 b (As (Ag (Ao e) (I.ok.cab x c zd hc)))).trans e1⟩
  ·by_cases hj:j=i
   ·subst hj
    rw [hi] at e1; cases e1;rw [List.getElem?_set_self hiσ] at e2;cases e2;exact ⟨u,r,.inr ⟨.inl hk,c,hc,rk⟩⟩
   ·rw [List.getElem?_set_ne (Ne.symm hj)] at e2
    obtain ⟨u',r',q⟩:=hl j y v' e1 e2 e3;refine ⟨u',r',?_⟩
    rcases q with q | ⟨k,c',e,z'⟩
    ·exact .inl q
    ·refine .inr ⟨k,c',e,z'.sameBut hs ?_⟩
     rintro rfl;exact hj (Zax hN e1 (I.ok.inj _ _ _ e hc ▸ hi))
  ·by_cases hcc:c'=c
   ·subst hcc; exact ⟨_,rk⟩
   ·obtain ⟨w2,z2⟩:=I.cell y c' e
    exact ⟨w2,z2.sameBut hs hcc⟩
  ·obtain ⟨e,n,ne,nf,d⟩:=I.pin p hp
   refine ⟨(hs.2 p.1 ?_).trans e,n,ne,nf,d⟩;intro q;rw [q,hoc] at e;have q':oc=p.2:=Ax e;exact d w' (by rw [<- q']; exact hocd)
def Jm {M:Model} {A:Around} {E:Value->Shared->Prop} {i:Nat} {x:Str} {v:V} {u:Value} {Q:Unit->Shared->Prop} (I:Inv X j0 σ H s) (hN:X.N.Nodup) (hi:X.N[i]?=some x) (hx:Loc X.env.scope x) (r:RelV v u)
  (h:∀ s',Inv X j0 (σ.set i (some v)) H s'->Q () s') (hf:X.fn x=true\/X.env.scope.names.lookup x=some .local:=by first | exact .inl rfl | exact .inr rfl | assumption):wpAny M A (storeName X.env x u) Q E s :=
 Q7 I hN hi hx r (λs' I' _=>h s' I') hf
def Inv.call' {s':Shared} (I:Inv X j0 σ H s) (ho:s'.os=s.os) (u:Un (frs X.stack) ch H H' s.heap s'.heap) (hok:HOk X.prog X.w H' s'.heap) (hg:AllBare s'.gens)
  (mq:∀ b∈ch,(b∈X.ex\/X.s₀.heap.objs.size<=b)/\b≠X.env.locals/\(∀ x c,X.env.cells.lookup x=some c->c≠b)/\∀ p∈X.pn ++ j0,p.1≠b):Inv X j0 σ H' s':=by
 obtain ⟨h',g',d',t',o'⟩:=s';have e:o'=s.os:=ho;subst e;exact I.call (g':=g') (t':=t') (d':=d') u hok hg mq
end
abbrev XK:=Value->Option Addr->Hp->Prop
abbrev St:=List (Option V)
abbrev VK:=V->Hp->Prop
abbrev TE:=St->Hp->VK->Prop
abbrev TT:=St->Hp->(Bool->Hp->Prop)->Prop
abbrev TA:=St->Hp->(List V->Hp->Prop)->Prop
structure Ends where
 nx:St->Hp->Prop
 rt:VK
 bk:St->Hp->Prop:=λ_ _=>False
 ct:St->Hp->Prop:=λ_ _=>False
abbrev TS:=Ends->St->Hp->Prop
def EP (X:Cx) (j0:List (Addr × Obj)) (σ:St) (Q:VK) (u:Value) (s':Shared):Prop:=∃ v H',Inv X j0 σ H' s'/\RelV v u/\Q v H'
def TP (X:Cx) (j0:List (Addr × Obj)) (σ:St) (Q:Bool->Hp->Prop) (b:Bool) (s':Shared):Prop:=∃ H',Inv X j0 σ H' s'/\Q b H'
def AP (X:Cx) (j0:List (Addr × Obj)) (σ:St) (Q:List V->Hp->Prop) (us:List Value) (s':Shared):Prop:=∃ vs H',Inv X j0 σ H' s'/\Vals vs us/\Q vs H'
def SP (X:Cx) (j0:List (Addr × Obj)) (D:Ends) (f:Flow) (s':Shared):Prop :=
 match f with
 | .next=>∃ σ' H',Inv X j0 σ' H' s'/\D.nx σ' H'
 | .brk=>∃ σ' H',Inv X j0 σ' H' s'/\D.bk σ' H'
 | .cont=>∃ σ' H',Inv X j0 σ' H' s'/\D.ct σ' H'
 | .ret u=>∃ v σ' H',Inv X j0 σ' H' s'/\RelV v u/\D.rt v H'
def PE (X:Cx) (e:Expr) (t:TE):Prop :=
 ∀ (j0:List (Addr × Obj)) (s:Shared) (σ:St) (H:Hp) (Q:VK),Inv X j0 σ H s->t σ H Q->wpAny (model X.prog X.w) X.A (eval e X.env) (EP X j0 σ Q) X.xe s
def PT (X:Cx) (e:Expr) (t:TT):Prop :=
 ∀ (j0:List (Addr × Obj)) (s:Shared) (σ:St) (H:Hp) (Q:Bool->Hp->Prop),Inv X j0 σ H s->t σ H Q->wpAny (model X.prog X.w) X.A (isTrue e X.env (eval e X.env)) (TP X j0 σ Q) X.xe s
def PW (X:Cx) (e:Expr) (t:TT):Prop :=
 ∀ (lg:Sem Value) (j0:List (Addr × Obj)) (s:Shared) (σ:St) (H:Hp) (Q:Bool->Hp->Prop),Inv X j0 σ H s->t σ H Q->wpAny (model X.prog X.w) X.A (isTrue e X.env lg) (TP X j0 σ Q) X.xe s
def PW.pt {X:Cx} {e:Expr} {t:TT} (h:PW X e t):PT X e t:=h _
def PA (X:Cx) (es:List Expr) (t:TA):Prop :=
 ∀ (pos:Pos) (j0:List (Addr × Obj)) (s:Shared) (σ:St) (H:Hp) (Q:List V->Hp->Prop),Inv X j0 σ H s->t σ H Q->wpAny (model X.prog X.w) X.A (spliced (backTo pos (starEach es X.env))) (AP X j0 σ Q) X.xe s
def PS (X:Cx) (st:Stmt) (t:TS):Prop :=
 ∀ (j0:List (Addr × Obj)) (s:Shared) (σ:St) (H:Hp) (D:Ends),Inv X j0 σ H s->t D σ H->wpAny (model X.prog X.w) X.A (exec st X.env) (SP X j0 D) X.xe s
def PSs (X:Cx) (st:List Stmt) (t:TS):Prop :=
 ∀ (j0:List (Addr × Obj)) (s:Shared) (σ:St) (H:Hp) (D:Ends),Inv X j0 σ H s->t D σ H->wpAny (model X.prog X.w) X.A (execs st X.env) (SP X j0 D) X.xe s
def thn {α:Type} {t:Sem α} {Q Q':α->Shared->Prop} {M:Model} {A:Around} {E:Value->Shared->Prop} {s:Shared} (h:wpAny M A t Q E s) (hQ:∀ a s,Q a s->Q' a s):wpAny M A t Q' E s:=wpAny_mono h hQ λ_ _ x=>x
section
variable {X:Cx}
def tVar (i:Nat):TE:=λσ H Q=>∃ v,σ[i]?=some (some v)/\Q v H
def tC (v:V):TE:=λ_ H Q=>Q v H
def Zeg (hN:X.N[i]?=some x) (hv:Vis X.env.scope x) (hd:(x == ("__debug__":Str))=false:=by decide) (ly:(x == ("__classdict__":Str))=false:=by decide):PE X (.Name x pos) (tVar i):=by
 intro j0 s σ H Q I h;obtain ⟨v,e,h⟩:=h;obtain ⟨m,hn,hl⟩:=I.loc;obtain ⟨u,r,l⟩:=hl i x v hN e hv;have ki:EP X j0 σ Q u s:=⟨v,H,I,r,h⟩
 rcases l with ⟨hk,hm⟩ | ⟨hk,c,hc,hcell⟩
 ·exact wpAny_Name (wpAny_loadName_local I.ok.kind hk hn hm ki) hd
 ·rcases hk with hk | hk
  ·exact wpAny_Name (wpAny_loadName_cell I.ok.kind hk hc hcell ki) hd
  ·exact wpAny_Name (wpAny_loadName_free I.ok.kind hk hc hcell ki ly) hd
def Zd {i j pos}:PE X (.Constant (.int i) j pos) (tC (.int i)):=λ_ _ _ H _ I h=>wpAny_Constant_int ⟨.int i,H,I.tok _,⟨_,rfl⟩,h⟩
def Zgy {b j pos}:PE X (.Constant (.bool b) j pos) (tC (.bl b)):=λ_ _ _ H _ I h=>Constant_bool ⟨.bl b,H,I,rfl,h⟩
def Ou {j pos}:PE X (.Constant .none j pos) (tC .non):=λ_ _ _ H _ I h=>Constant_none ⟨.non,H,I,rfl,h⟩
def Zl {x j pos}:PE X (.Constant (.str x) j pos) (tC (.str x)):=λ_ _ _ H _ I h=>Calls.Constant_str ⟨.str x,H,I.tok _,⟨_,rfl⟩,h⟩
def Gl (X:Cx) (x:Str):Prop:=X.env.kindOf x=some .globalImplicit
def Wl (I:Inv X j0 σ H s) (hg:Gl X x) (hm:X.mg x=some u) (h:Q u s)
  (hd:(x == ("__debug__":Str))=false:=by decide):wpAny (model X.prog X.w) X.A (eval (.Name x pos) X.env) Q E s :=
 Calls.Name_function_global I.ok.kind hg (Calls.loadGlobal_global (by rw [I.ok.glob]; exact I.mod.glob.keeps I.bk) hm h) hd
def Jv {E:Value->Shared->Prop} {j0:List (Addr × Obj)} {s:Shared} {σ:St} {H:Hp} {x:Str} {u:Value} {pos:Pos} {Q:Value->Shared->Prop} (I:Inv X j0 σ H s) (hg:Gl X x) (hm:X.mg x=none) (hv:bootBuiltins x=some u) (h:Q u s)
  (hn:x≠"__name__":=by decide) (hd:(x == ("__debug__":Str))=false:=by decide):wpAny (model X.prog X.w) X.A (eval (.Name x pos) X.env) Q E s:=by
 obtain ⟨mb,h1,h2⟩:=I.mod.blt;exact Calls.Name_function_global I.ok.kind hg (Calls.loadGlobal_builtin (by rw [I.ok.glob]; exact I.mod.glob.keeps I.bk) hm (by rw [I.ok.blt]; exact h1.keeps I.bk) ((h2 x hn).trans hv) h) hd
def Y3 (hg:Gl X x) (hm:X.mg x=some u) (r:RelV v u) (hd:(x == ("__debug__":Str))=false:=by decide):PE X (.Name x pos) (tC v) :=
 λ_ _ _ H _ I h=>Wl I hg hm ⟨v,H,I,r,h⟩ hd
variable {a b:Expr} {ta tb:TE} {pos:Pos}
def PC (X:Cx) (op:CmpOp) (a b:Expr) (t:TE):Prop :=
 ∀ (j0:List (Addr × Obj)) (s:Shared) (σ:St) (H:Hp) (Q:VK),Inv X j0 σ H s->t σ H Q ->
  wpAny (model X.prog X.w) X.A (eval a X.env) (λv s₁=>wpAny (model X.prog X.w) X.A (eval b X.env) (λu s₂=>wpAny (model X.prog X.w) X.A (compareOp op v u) (EP X j0 σ Q) X.xe s₂) X.xe s₁) X.xe s
def tB (t:TE):TT:=λσ H Q=>t σ H λx H1=>∃ c,x=.bl c/\Q c H1
def Ov {op:CmpOp} {t:TE} (h:PC X op a b t) (h1:behindInMarks op b=false:=by first | exact nobehind _ (by decide) (by decide) | rfl):PE X (.Compare a [op] [b] pos) t:=λj0 s σ H Q I hw=>wpAny_Compare1 (h j0 s σ H Q I hw) h1
def Vn {op:CmpOp} {t:TE} (h:PC X op a b t) (h1:behindInMarks op b=false:=by first | exact nobehind _ (by decide) (by decide) | rfl):PT X (.Compare a [op] [b] pos) (tB t):=by
 intro j0 s σ H Q I hw;refine wpAny_isTrue_Compare1 (thn (h j0 s σ H _ I hw) λv s1 h1=>thn h1 λu s2 h2=>thn h2 λc s3 zz0=>?_) h1;obtain ⟨x,H1,I1,r1,q1⟩:=zz0;obtain ⟨d,rfl,q⟩:=q1;cases r1;exact wpAny_truthy_bool ⟨H1,I1,q⟩
def Jr {e:Expr} {t:TE} (h:PE X e t) (he:∀ lg,isTrue e X.env lg=(do let v <- lg; standAt e.pos; holding [v] (truthy v)):=by intro _; rfl):PT X e (tB t):=by
 intro j0 s σ H Q I hw;refine isTrue_plain (thn (h j0 s σ H _ I hw) λv s1 zz1=>?_) (he _);obtain ⟨x,H1,I1,r1,q1⟩:=zz1;obtain ⟨d,rfl,q⟩:=q1;cases r1;exact wpAny_truthy_bool ⟨H1,I1,q⟩
variable {tA wz:TT} {rest:List Expr}
def tAnd (t u:TT):TT:=λσ H Q=>t σ H λc H1=>if c=true then u σ H1 Q else Q false H1
def tOr (t u:TT):TT:=λσ H Q=>t σ H λc H1=>if c=true then Q true H1 else u σ H1 Q
def tNot (t:TT):TT:=λσ H Q=>t σ H λc H1=>Q (!c) H1
def Qf (ha:PT X a tA):PW X (.BoolOp .And [a] pos) tA:=by
 intro wh j0 s σ H Q I h;refine isTrue_and (thn (ha j0 s σ H Q I h) λc s1 e=>?_)
 cases c with
 | true=>exact isTrue_and_nil e
 | false=>exact e
def Qe (ha:PT X a tA):PW X (.BoolOp .Or [a] pos) tA:=by
 intro wh j0 s σ H Q I h;refine isTrue_or (thn (ha j0 s σ H Q I h) λc s1 e=>?_)
 cases c with
 | false=>exact isTrue_or_nil e
 | true=>exact e
def Vm (ha:PT X a tA) (hb:PW X (.BoolOp .And (b :: rest) pos) wz):PW X (.BoolOp .And (a :: b :: rest) pos) (tAnd tA wz):=by
 intro wh j0 s σ H Q I h;refine isTrue_and (thn (ha j0 s σ H _ I h) λc s1 j2=>?_);obtain ⟨H1,I1,q1⟩:=j2
 cases c with
 | true=>exact hb wh j0 s1 σ H1 Q I1 q1
 | false=>exact ⟨H1,I1,q1⟩
def V3 (ha:PT X a tA) (hb:PW X (.BoolOp .Or (b :: rest) pos) wz):PW X (.BoolOp .Or (a :: b :: rest) pos) (tOr tA wz):=by
 intro wh j0 s σ H Q I h;refine isTrue_or (thn (ha j0 s σ H _ I h) λc s1 j2=>?_);obtain ⟨H1,I1,q1⟩:=j2
 cases c with
 | true=>exact ⟨H1,I1,q1⟩
 | false=>exact hb wh j0 s1 σ H1 Q I1 q1
def X2 (ha:PT X a tA):PT X (.UnaryOp .Not a pos) (tNot tA):=by
 intro j0 s σ H Q I h;exact isTrue_not (ha j0 s σ H (λc H1=>Q (!c) H1) I h)
def Zjy (ta tb:TE):TE:=λσ H Q=>ta σ H λx H1=>∃ c,x=.bl c/\if c=true then tb σ H1 Q else Q (.bl false) H1
def tOrV (ta tb:TE):TE:=λσ H Q=>ta σ H λx H1=>∃ c,x=.bl c/\if c=true then Q (.bl true) H1 else tb σ H1 Q
def Zjt (ta:TE):TE:=λσ H Q=>ta σ H λx H1=>∃ c,x=.bl c/\Q (.bl (!c)) H1
def Vs {op} {t:TE} (h:PE X a t):PE X (.BoolOp op [a] pos) t:=λj0 s σ H Q I hw=>BoolOp_one (h j0 s σ H Q I hw)
def Ow (ha:PE X a ta) (hb:PE X (.BoolOp .And (b :: rest) pos) tb):PE X (.BoolOp .And (a :: b :: rest) pos) (Zjy ta tb):=by
 intro j0 s σ H Q I h;refine BoolOp_and (thn (ha j0 s σ H _ I h) λv s1 j2=>?_);obtain ⟨x,H1,I1,r1,q1⟩:=j2;obtain ⟨c,rfl,q1⟩:=q1;cases r1;refine wpAny_truthy_bool ?_
 cases c with
 | true=>exact hb j0 s1 σ H1 Q I1 q1
 | false=>exact ⟨.bl false,H1,I1,Z,q1⟩
def Zj6 (ha:PE X a ta) (hb:PE X (.BoolOp .Or (b :: rest) pos) tb):PE X (.BoolOp .Or (a :: b :: rest) pos) (tOrV ta tb):=by
 intro j0 s σ H Q I h;refine BoolOp_or (thn (ha j0 s σ H _ I h) λv s1 j2=>?_);obtain ⟨x,H1,I1,r1,q1⟩:=j2;obtain ⟨c,rfl,q1⟩:=q1;cases r1;refine wpAny_truthy_bool ?_
 cases c with
 | false=>exact hb j0 s1 σ H1 Q I1 q1
 | true=>exact ⟨.bl true,H1,I1,Z,q1⟩
def Zi1 (ha:PE X a ta):PE X (.UnaryOp .Not a pos) (Zjt ta):=by
 intro j0 s σ H Q I h;refine UnaryOp_ (thn (ha j0 s σ H _ I h) λv s1 j2=>?_);obtain ⟨x,H1,I1,r1,q1⟩:=j2;obtain ⟨c,rfl,q1⟩:=q1;cases r1;exact not_of (wpAny_truthy_bool ⟨.bl (!c),H1,I1,Z,q1⟩)
end
def SqL (K:W.Frag) (H:Hp) (a:Addr) (xs:List V):Prop :=
 Rd H a (.lst xs) \/
  ∃ (o:Obj) (its:Array Value) (n:Nat),K.lookup a=some o/\o.cls=.type "list"/\o.dict=none/\o.data=.seq its n/\its.size<=sizeLine/\Vals xs its.toList
def SqT (K:W.Frag) (H:Hp) (a:Addr) (xs:List V):Prop :=
 Rd H a (.tup xs) \/
  ∃ (o:Obj) (its:Array Value) (n:Nat),K.lookup a=some o/\o.cls=.type "tuple"/\o.data=.seq its n/\its.size<=sizeLine/\Vals xs its.toList
def absV:Value->Option V
 | .none=>some .non
 | .bool b=>some (.bl b)
 | .int i _=>some (.int i)
 | .str x _=>some (.str x)
 | .bytes b _=>some (.byt b)
 | .float b _=>some (.flt b)
 | .ref a=>some (.ref a)
 | .type n=>some (.ty n)
 | _=>none
def RelV.abs (r:RelV x u):absV u=some x:=by
 cases x with
 | non=>cases r; rfl
 | bl _=>cases r; rfl
 | int _=>obtain ⟨t,rfl⟩:=r; rfl
 | str _=>obtain ⟨t,rfl⟩:=r; rfl
 | byt _=>obtain ⟨t,rfl⟩:=r; rfl
 | flt _=>obtain ⟨t,rfl⟩:=r; rfl
 | ref _=>cases r; rfl
 | ty _=>cases r; rfl
def RelV.inj (r:RelV x u) (q:RelV y u):x=y:=Ax (r.abs.symm.trans q.abs)
theorem Vals.inj:∀ {xs ys:List V} {us:List Value},Vals xs us->Vals ys us->xs=ys
 | _,_,_,.nil,.nil=>rfl
 | _,_,_,.cons r t,.cons r' t'=>by rw [r.inj r',Vals.inj t t']
section
variable {X:Cx} {j0:List (Addr × Obj)} {σ:St} {H:Hp} {s:Shared} {a:Addr} {xs ys:List V}
def SqL.of {K:W.Frag} (h:H a=some (.lst xs)):SqL K H a xs:=.inl (.inl h)
def SqT.of {K:W.Frag} (h:H a=some (.tup xs)):SqT K H a xs:=.inl (.inl h)
def Inv.list (I:Inv X j0 σ H s) (h:SqL X.K H a xs):∃ its:List Value,Vals xs its/\PlainL s.heap a its.toArray/\xs.length<=sizeLine:=by
 rcases h with h | ⟨o,its,n,hk,hc,hd,hs,hz,r⟩
 ·obtain ⟨z,its,n,r,e⟩:=h.ok I.hok
  exact ⟨its,r,⟨_,n,e,Z,Z,Z⟩,z⟩
 ·refine ⟨its.toList,r,⟨o,n,I.kIn a o hk,hc,hd,by simpa using hs⟩,?_⟩
  have e:=r.length;simp only [Array.length_toList] at e;lia
def Inv.tuple (I:Inv X j0 σ H s) (h:SqT X.K H a xs):∃ its:List Value,Vals xs its/\IsTup s.heap a its.toArray/\xs.length<=sizeLine:=by
 rcases h with h | ⟨o,its,n,hk,hc,hs,hz,r⟩
 ·obtain ⟨z,its,r,p⟩:=h.ok I.hok
  exact ⟨its,r,p,z⟩
 ·refine ⟨its.toList,r,⟨o,I.kIn a o hk,hc,n,by simpa using hs⟩,?_⟩
  have e:=r.length;simp only [Array.length_toList] at e;lia
def Inv.list_inj (I:Inv X j0 σ H s) (h:SqL X.K H a xs) (h':SqL X.K H a ys):xs=ys:=by
 obtain ⟨its,r,⟨o,n,e,_,_,d⟩,_⟩:=I.list h;obtain ⟨its',r',⟨o',n',e',_,_,d'⟩,_⟩:=I.list h';rw [e] at e'; cases e';rw [d] at d'
 injection d' with d1 _
 have:its=its':=by simpa using congrArg Array.toList d1
 subst this;exact r.inj r'
def Inv.tuple_inj (I:Inv X j0 σ H s) (h:SqT X.K H a xs) (h':SqT X.K H a ys):xs=ys:=by
 obtain ⟨its,r,⟨o,e,_,n,d⟩,_⟩:=I.tuple h;obtain ⟨its',r',⟨o',e',_,n',d'⟩,_⟩:=I.tuple h';rw [e] at e'; cases e';rw [d] at d'
 injection d' with d1 _
 have:its=its':=by simpa using congrArg Array.toList d1
 subst this;exact r.inj r'
end
abbrev Cx.wish (X:Cx) (E:Value->Shared->Prop):Cx:={ X with xe:=E }
abbrev Cx.nox (X:Cx):Cx:=X.wish λ_ _=>False
def Cx.Ok.wish {X:Cx} (ok:X.Ok) (E:Value->Shared->Prop):(X.wish E).Ok :=
 ⟨ok.mod,ok.kind,ok.glob,ok.blt,ok.above,ok.inj,ok.has,ok.cab,ok.hd,ok.frames,ok.stk,ok.exf,ok.bs,ok.bsz,ok.noex,ok.exfs,ok.funs,ok.frf⟩
def Cx.Ok.unwish {X:Cx} (ok:(X.wish E).Ok):X.Ok :=
 ⟨ok.mod,ok.kind,ok.glob,ok.blt,ok.above,ok.inj,ok.has,ok.cab,ok.hd,ok.frames,ok.stk,ok.exf,ok.bs,ok.bsz,ok.noex,ok.exfs,ok.funs,ok.frf⟩
section
variable {X:Cx} {j0:List (Addr × Obj)} {σ:St} {H:Hp} {s:Shared} {E:Value->Shared->Prop}
def Inv.wish (I:Inv X j0 σ H s) (E:Value->Shared->Prop):Inv (X.wish E) j0 σ H s:=⟨I.ok.wish E,I.os,I.bare,I.base,I.loc,I.cell,I.free,I.freeC,I.pin,I.hok,I.len⟩
def Inv.unwish (I:Inv (X.wish E) j0 σ H s):Inv X j0 σ H s:=⟨I.ok.unwish,I.os,I.bare,I.base,I.loc,I.cell,I.free,I.freeC,I.pin,I.hok,I.len⟩
def SP.unwish (h:SP (X.wish E) j0 D f s'):SP X j0 D f s':=by
 cases f with
 | next=>obtain ⟨σ',H',I,q⟩:=h; exact ⟨σ',H',I.unwish,q⟩
 | brk=>obtain ⟨σ',H',I,q⟩:=h; exact ⟨σ',H',I.unwish,q⟩
 | cont=>obtain ⟨σ',H',I,q⟩:=h; exact ⟨σ',H',I.unwish,q⟩
 | ret u=>obtain ⟨v,σ',H',I,r,q⟩:=h; exact ⟨v,σ',H',I.unwish,r,q⟩
def PSs.nox {st:List Stmt} {t:TS} (h:PSs X.nox st t):PSs X st t:=λj0 s σ H D I hw =>
 wpAny_mono (h j0 s σ H D (I.wish _) hw) (λ_ _ q=>q.unwish) λ_ _ z=>False.elim z
end
section
variable {X:Cx} {st:Stmt} {rest:List Stmt} {t u:TS} {e:Expr} {te:TE} {pos:Pos}
def U9:TS:=λD σ H=>D.nx σ H
def tSeq (t u:TS):TS:=λD σ H=>t { D with nx:=u D } σ H
def Yc:PSs X [] U9:=λ_ _ σ H _ I h=>wpAny_execs_nil ⟨σ,H,I,h⟩
def Zg (h1:PS X st t) (h2:PSs X rest u):PSs X (st :: rest) (tSeq t u):=by
 intro j0 s σ H D I h;refine wpAny_execs_cons (thn (h1 j0 s σ H { D with nx:=u D } I h) λf s1 q=>?_)
 cases f with
 | next =>
  obtain ⟨σ',H',I',q⟩:=q;exact h2 j0 s1 σ' H' D I' q
 | ret v=>exact q
 | brk=>exact q
 | cont=>exact q
def Zi (h1:PS X st t):PSs X [st] t:=by
 intro j0 s σ H D I h;refine wpAny_execs_cons (thn (h1 j0 s σ H D I h) λf s1 q=>?_)
 cases f with
 | next=>exact wpAny_execs_nil q
 | ret v=>exact q
 | brk=>exact q
 | cont=>exact q
def Inv.quiet {j0:List (Addr × Obj)} {σ:St} {H:Hp} {s:Shared} (I:Inv X j0 σ H s):interactive X.env=false:=by simp [interactive,I.ok.kind]
def Zgu (te:TE):TS:=λD σ H=>te σ H λ_ H1=>D.nx σ H1
def Xe (he:PE X e te) (hs:swapsWith e none pos.line X.env=pure false:=by rfl):PS X (.Expr e pos) (Zgu te):=by
 intro j0 s σ H D I h;refine wpAny_Expr_any (thn (he j0 s σ H _ I h) λv s1 zz2=>?_) I.quiet hs;obtain ⟨x,H1,I1,r1,q1⟩:=zz2;exact ⟨σ,H1,I1,q1⟩
def tRet (te:TE):TS:=λD σ H=>te σ H D.rt
def Zw (he:PE X e te):PS X (.Return (some e) pos) (tRet te):=by
 intro j0 s σ H D I h;refine wpAny_Return_some (thn (he j0 s σ H _ I h) λv s1 zz3=>?_);obtain ⟨x,H1,I1,r1,q1⟩:=zz3;exact ⟨x,σ,H1,I1,r1,q1⟩
def tIfS (c:TT) (t u:TS):TS:=λD σ H=>c σ H λb H1=>if b=true then t D σ H1 else u D σ H1
def Yt {c:Expr} {a b:List Stmt} {tc:TT} (hc:PT X c tc) (ha:PSs X a t) (hb:PSs X b u):PS X (.If c a b pos) (tIfS tc t u):=by
 intro j0 s σ H D I h;refine wpAny_If (thn (hc j0 s σ H _ I h) λd s1 j2=>?_);obtain ⟨H1,I1,q1⟩:=j2
 cases d with
 | true=>exact ha j0 s1 σ H1 D I1 q1
 | false=>exact hb j0 s1 σ H1 D I1 q1
def Zik:TS:=λ_ _ _=>False
def X3:PSs X sts Zik:=λ_ _ _ _ _ _ h=>h.elim
end
abbrev TG:=V->St->Hp->(St->Hp->Prop)->Prop
abbrev TGs:=List V->St->Hp->(St->Hp->Prop)->Prop
def PG (X:Cx) (tz:Expr) (t:TG):Prop :=
 ∀ (j0:List (Addr × Obj)) (s:Shared) (σ:St) (H:Hp) (v:V) (u:Value) (Q:St->Hp->Prop),Inv X j0 σ H s->RelV v u->t v σ H Q ->
  wpAny (model X.prog X.w) X.A (assign tz X.env u) (λ_ s'=>∃ σ' H',Inv X j0 σ' H' s'/\Q σ' H') X.xe s
def PGs (X:Cx) (ts:List Expr) (t:TGs):Prop :=
 ∀ (j0:List (Addr × Obj)) (s:Shared) (σ:St) (H:Hp) (vs:List V) (us:List Value) (Q:St->Hp->Prop),Inv X j0 σ H s->Vals vs us->t vs σ H Q ->
  wpAny (model X.prog X.w) X.A (assignInOrder ((assignEach ts X.env).map (·.2)) us) (λ_ s'=>∃ σ' H',Inv X j0 σ' H' s'/\Q σ' H') X.xe s
abbrev TSet:=V->V->V->Hp->(Hp->Prop)->Prop
def PSet (X:Cx) (t:TSet):Prop :=
 ∀ (j0:List (Addr × Obj)) (s:Shared) (σ:St) (H:Hp) (o i v:V) (ov iv u:Value) (Q:Hp->Prop),Inv X j0 σ H s->RelV o ov->RelV i iv->RelV v u->t o i v H Q ->
  wpAny (model X.prog X.w) X.A (setItem ov iv u) (λ_ s'=>∃ H',Inv X j0 σ H' s'/\Q H') X.xe s
abbrev TIp:=V->V->Hp->VK->Prop
def PIp (X:Cx) (op:Operator) (t:TIp):Prop :=
 ∀ (j0:List (Addr × Obj)) (s:Shared) (σ:St) (H:Hp) (x y:V) (v u:Value) (Q:VK),Inv X j0 σ H s->RelV x v->RelV y u->t x y H Q ->
  wpAny (model X.prog X.w) X.A (inplaceOp op v u) (EP X j0 σ Q) X.xe s
section
variable {X:Cx} {pos:Pos}
def Zv (i:Nat):TG:=λv σ H Q=>Q (σ.set i (some v)) H
def Zs (hN:X.N.Nodup) (hi:X.N[i]?=some x) (hx:Loc X.env.scope x) (hf:X.fn x=true\/X.env.scope.names.lookup x=some .local:=by first | exact .inl rfl | exact .inr rfl | assumption):PG X (.Name x pos) (Zv i):=by
 intro j0 s σ H v u Q I r h;exact wpAny_assign_Name (Jm I hN hi hx r (λs' I'=>⟨_,H,I',h⟩) hf)
def gNil:TGs:=λvs σ H Q=>vs=[]/\Q σ H
def Zkc (t:TG) (u:TGs):TGs:=λvs σ H Q=>∃ v r,vs=v :: r/\t v σ H λσ' H'=>u r σ' H' Q
def Wv:PGs X [] gNil:=by
 intro j0 s σ H vs us Q I r h;obtain ⟨e,h⟩:=h;subst e;cases r;exact assignInOrder_nil ⟨σ,H,I,h⟩
def Yl {e:Expr} {es:List Expr} {t:TG} {u:TGs} (h1:PG X e t) (h2:PGs X es u)
  (hs:(assignEach (e :: es) X.env).map (·.2)=assign e X.env :: (assignEach es X.env).map (·.2):=by rfl):PGs X (e :: es) (Zkc t u):=by
 intro j0 s σ H vs us Q I r h;obtain ⟨v,vr,e1,h⟩:=h;subst e1
 cases r with
 | cons r rr =>
  rw [hs];refine assignInOrder_cons (thn (h1 j0 s σ H _ _ _ I r h) λ_ s1 j2=>?_);obtain ⟨σ1,H1,I1,q1⟩:=j2;exact h2 j0 s1 σ1 H1 _ _ Q I1 rr q1
def gTup (K:W.Frag) (n:Nat) (t:TGs):TG:=λv σ H Q=>∃ a xs,v=.ref a/\SqT K H a xs/\xs.length=n/\t xs σ H Q
def Vp (hc:X.calm=true) (h:PGs X es t)
  (hn:(assignEach es X.env).length=n:=by rfl) (ll:(assignEach es X.env).findIdx? (·.1)=none:=by rfl):PG X (.Tuple es k pos) (gTup X.K n t):=by
 intro j0 s σ H v u Q I r hw;obtain ⟨a,xs,e1,hq,hl,hw⟩:=hw;subst e1;cases r;obtain ⟨its,rv,ht,hz⟩:=I.tuple hq;refine assign_Tuple_tuple (I.ok.hd hc) ht (by simp [hn,<- hl,rv.length]) ll λh' hx=>?_;have I1:Inv X j0 σ H { s with heap:=h' }:=I.kept (t':=s.toks) λb o e=>hx b o (As (Ao e)) e;exact h j0 _ σ H xs _ Q I1 (by simpa using rv) hw
def gSub (to ti:TE) (t:TSet):TG:=λv σ H Q=>to σ H λo H1=>ti σ H1 λi H2=>t o i v H2 λH3=>Q σ H3
def Vq {o i:Expr} {to ti:TE} {t:TSet} (ho:PE X o to) (hi:PE X i ti) (hs:PSet X t)
  (ha:∀ v,assign (.Subscript o i pos) X.env v=(do
   let ov <- holding [v] (eval o X.env)
   let iv <- holding [v,ov] (eval i X.env)
   standAt pos
   holding [v,ov,iv] (setItem ov iv v)
   release [v,ov,iv] []):=by intro _; rfl):PG X (.Subscript o i pos) (gSub to ti t):=by
 intro j0 s σ H v u Q I r h;rw [ha];refine Al (wpAny_holding (thn (ho j0 s σ H _ I h) λov s1 j2=>?_));obtain ⟨x,H1,I1,r1,q1⟩:=j2;refine Al (wpAny_holding (thn (hi j0 s1 σ H1 _ I1 q1) λiv s2 j2=>?_));obtain ⟨y,H2,I2,r2,q2⟩:=j2;refine Al (wpAny_standAt (Al (wpAny_holding (thn (hs j0 s2 σ H2 x y v ov iv u _ I2 r1 r2 r q2) λ_ s3 j2=>?_))));obtain ⟨H3,I3,q3⟩:=j2;exact wpAny_release ⟨σ,H3,I3,q3⟩
def tAsg (te:TE) (g:TG):TS:=λD σ H=>te σ H λx H1=>g x σ H1 D.nx
def Js {tg e:Expr} {te:TE} {g:TG} (he:PE X e te) (hg:PG X tg g) (hs:swapsWithSole [tg] e pos.line X.env=pure false:=by rfl) (hw:swappedStores [tg] e X.env=pure none:=by rfl)
  (h1:(assignEach [tg] X.env).map (·.2)=[assign tg X.env]:=by rfl):PS X (.Assign [tg] e pos) (tAsg te g):=by
 intro j0 s σ H D I h;refine wpAny_Assign_stores (thn (he j0 s σ H _ I h) λv s1 zz4=>?_) hs hw;obtain ⟨x,H1,I1,r1,q1⟩:=zz4;rw [h1];exact thn (hg j0 s1 σ H1 x v _ I1 r1 q1) λ_ s2 q=>q
def Zm {i:Nat} {x:Str} {e:Expr} {te:TE} {km:Pos} (hN:X.N.Nodup) (hi:X.N[i]?=some x) (hx:Loc X.env.scope x) (he:PE X e te) (hs:swapsWith e (some (.Name x km)) pos.line X.env=pure false:=by rfl) (hf:X.fn x=true\/X.env.scope.names.lookup x=some .local:=by first | exact .inl rfl | exact .inr rfl | assumption) :
  PS X (.Assign [.Name x km] e pos) (tAsg te (Zv i)):=by
 intro j0 s σ H D I h;refine wpAny_Assign_Name (thn (he j0 s σ H _ I h) λv s1 zz5=>?_) hs;obtain ⟨y,H1,I1,r1,q1⟩:=zz5;exact Jm I1 hN hi hx r1 (λs2 I2=>⟨_,H1,I2,q1⟩) hf
def tAug (i:Nat) (te:TE) (ti:TIp):TS:=λD σ H=>∃ x,σ[i]?=some (some x)/\te σ H λy H1=>ti x y H1 λz H2=>D.nx (σ.set i (some z)) H2
def Ziv {i:Nat} {x:Str} {e:Expr} {te:TE} {op:Operator} {ti:TIp} {km:Pos} (hN:X.N.Nodup) (hi:X.N[i]?=some x) (hx:Loc X.env.scope x) (he:PE X e te) (ho:PIp X op ti) (hf:X.fn x=true\/X.env.scope.names.lookup x=some .local:=by first | exact .inl rfl | exact .inr rfl | assumption) :
  PS X (.AugAssign (.Name x km) op e pos) (tAug i te ti):=by
 intro j0 s σ H D I h;obtain ⟨v,e1,h⟩:=h;obtain ⟨m,hn,hl⟩:=I.loc
 have vis:Vis X.env.scope x:=by rcases hx with k | k; exact .inl k; exact .inr (.inl k)
 obtain ⟨u,r,l⟩:=hl i x v hi e1 vis;refine wpAny_AugAssign_Name ?_;have go:wpAny (model X.prog X.w) X.A (eval e X.env) (λw s₂=>wpAny (model X.prog X.w) X.A (inplaceOp op u w) (λr s₃=>wpAny (model X.prog X.w) X.A (storeName X.env x r) (λ_=>SP X j0 D .next) X.xe s₃) X.xe s₂) X.xe s:=by
  refine thn (he j0 s σ H _ I h) λw s1 j2=>?_
  obtain ⟨y,H1,I1,r1,q1⟩:=j2
  refine thn (ho j0 s1 σ H1 v y u w _ I1 r r1 q1) λz s2 j2=>?_
  obtain ⟨zv,H2,I2,r2,q2⟩:=j2
  exact Jm I2 hN hi hx r2 (λs3 I3=>⟨_,H2,I3,q2⟩) hf
 rcases l with ⟨hk,hm⟩ | ⟨hk,c,hc,hcell⟩
 ·exact wpAny_loadName_local I.ok.kind hk hn hm go
 ·rcases hk with hk | hk
  ·exact wpAny_loadName_cell I.ok.kind hk hc hcell go
  ·rcases hx with k | k
   ·have:X.env.scope.names.lookup x=some .free:=hk
    rw [k] at this; cases this
   ·have:X.env.scope.names.lookup x=some .free:=hk
    rw [k] at this; cases this
def ipI (f:Int->Int->Int):TIp:=λx y H Q=>∃ i j,x=.int i/\y=.int j/\Q (.int (f i j)) H
def Zje:PIp X .Add (ipI λi j=>i + j):=by
 intro j0 s σ H x y v u Q I r1 r2 h;obtain ⟨i,j,e1,e2,q⟩:=h;subst e1; subst e2;obtain ⟨t,rfl⟩:=r1;obtain ⟨t',rfl⟩:=r2;exact iadd_int ⟨.int _,H,I.tok _,⟨_,Z⟩,q⟩
end
section
variable {X:Cx} {pos:Pos}
def U8 (c:TT) (tb:TS):TS:=λD σ H=>∃ W:Nat->St->Hp->Prop,(∃ m,W m σ H)/\∀ m σ H,W m σ H ->
 c σ H λb H1=>if b=true then ∃ N:St->Hp->Prop,(∀ σ' H',N σ' H'->∃ m',m' < m/\W m' σ' H')/\tb { D with nx:=N,ct:=N,bk:=D.nx } σ H1 else D.nx σ H1
def Qs {c:Expr} {body:List Stmt} {tc:TT} {tb:TS} (hp:PassesOwn (model X.prog X.w) X.A X.env X.xe) (hc:PT X c tc) (hb:PSs X body tb):PS X (.While c body [] pos) (U8 tc tb):=by
 intro j0 s σ H D I h;obtain ⟨W,⟨m0,w0⟩,lz⟩:=h;refine wpAny_While (codeAny_whileLoop (λn s'=>∃ σ' H',Inv X j0 σ' H' s'/\W n σ' H') ?_ m0 ⟨σ,H,I,w0⟩);rintro n s1 ⟨σ1,H1,I1,w1⟩;refine wpAny_passesOwn hp (thn (hc j0 s1 σ1 H1 _ I1 (lz n σ1 H1 w1)) λb s2 j2=>?_);obtain ⟨H2,I2,q2⟩:=j2
 cases b with
 | true =>
  obtain ⟨N,hN,q2⟩:=q2;rw [if_pos rfl];refine wpAny_passesOwn hp (thn (hb j0 s2 σ1 H2 _ I2 q2) λf s3 q3=>?_)
  cases f with
  | next =>
   obtain ⟨σ3,H3,I3,n3⟩:=q3;obtain ⟨m',hm,w3⟩:=hN σ3 H3 n3;exact ⟨m',hm,σ3,H3,I3,w3⟩
  | cont =>
   obtain ⟨σ3,H3,I3,n3⟩:=q3;obtain ⟨m',hm,w3⟩:=hN σ3 H3 n3;exact ⟨m',hm,σ3,H3,I3,w3⟩
  | brk=>exact q3
  | ret v=>exact q3
 | false =>
  rw [if_neg Bool.false_ne_true];exact wpAny_execs_nil ⟨σ1,H2,I2,q2⟩
end
structure It where
 go:Nat->Hp->Prop
 yld:Nat->Hp->V->Hp->Prop
 stop:Nat->Hp->Prop
def FpOk (X:Cx) (j0:List (Addr × Obj)) (H:Hp) (b:Addr):Prop :=
 H b=none/\b≠X.env.locals/\b ∉ X.fs/\(b∈X.ex\/X.s₀.heap.objs.size<=b)/\(∀ x c,X.env.cells.lookup x=some c->c≠b)/\∀ p∈X.pn ++ j0,p.1≠b
def Inv.fpOk {X:Cx} {j0:List (Addr × Obj)} {σ:St} {H H':Hp} {s:Shared} {b:Addr} (I:Inv X j0 σ H s) (hb:s.heap.objs.size<=b) (hn:H' b=none):FpOk X j0 H' b:=by
 refine ⟨hn,Nat.ne_of_gt (Ag I.lt hb),I.nofs hb,.inr (Nat.le_trans I.sz hb),λx c e z=>?_,λp hp z=>?_⟩
 ·obtain ⟨v,q⟩:=I.cell x c e
  exact absurd (Ag q.lt (by rw [z]; exact hb)) (Nat.lt_irrefl _)
 ·exact absurd (Ag (Ao (I.pin p hp).1) (by rw [z]; exact hb)) (Nat.lt_irrefl _)
structure Turn (P:Program) (w:World) (K:W.Frag) (tg:Expr) (J:It) (fp:List Addr) (it:Addr) (tn:Nat->Heap->Prop):Prop where
 mem:it∈fp
 obj:∀ i h,tn i h->∀ b∈fp,∃ o,h.get? b=some o/\∀ v,o.data≠.cell v
 keep:∀ i h h',tn i h->(∀ b∈fp,∀ o,h.get? b=some o->h'.get? b=some o)->tn i h'
 item:∀ (X:Cx),X.prog=P->X.w=w->X.K=K->X.calm=true->∀ (i:Nat) (j0:List (Addr × Obj)) (s:Shared) (σ:St) (H:Hp) (E:Value->Shared->Prop),Inv X j0 σ H s->(∀ b∈fp,FpOk X j0 H b)->tn i s.heap->J.go i H ->
  wpAny (model P w) X.A (pyNext (.ref it)) (λr s1=>∃ u,r=some u /\
   wpAny (model P w) X.A (letOwnedTupleGo tg (.ref it) u) (λ_ s2=>∃ x H',Inv X j0 σ H' s2/\RelV x u/\J.yld i H x H'/\tn (i + 1) s2.heap/\∀ b∈fp,H' b=none) E s1) E s
 done:∀ (X:Cx),X.prog=P->X.w=w->X.K=K->X.calm=true->∀ (i:Nat) (j0:List (Addr × Obj)) (s:Shared) (σ:St) (H:Hp) (E:Value->Shared->Prop),Inv X j0 σ H s->(∀ b∈fp,FpOk X j0 H b)->tn i s.heap->J.stop i H ->
  wpAny (model P w) X.A (pyNext (.ref it)) (λr s1=>r=none/\Inv X j0 σ H s1) E s
 self:∀ (A:Around) (i:Nat) (s:Shared) (Q:Value->Shared->Prop) (E:Value->Shared->Prop),tn i s.heap->Q (.ref it) s->wpAny (model P w) A (pyIter (.ref it)) Q E s
abbrev TI:=St->Hp->(It->Hp->Prop)->Prop
def PIE (X:Cx) (j0:List (Addr × Obj)) (σ:St) (tg:Expr) (R:It->Hp->Prop) (qb:Value) (s2:Shared):Prop :=
 ∃ (it:Addr) (fp:List Addr) (tn:Nat->Heap->Prop) (J:It) (H':Hp),qb=.ref it/\Inv X j0 σ H' s2/\Turn X.prog X.w X.K tg J fp it tn/\tn 0 s2.heap/\(∀ b∈fp,FpOk X j0 H' b)/\R J H'
def PI (X:Cx) (tg iter:Expr) (wi:TI):Prop :=
 ∀ (j0:List (Addr × Obj)) (s:Shared) (σ:St) (H:Hp) (R:It->Hp->Prop),Inv X j0 σ H s->wi σ H R ->
  wpAny (model X.prog X.w) X.A (eval iter X.env) (λv s1=>wpAny (model X.prog X.w) X.A (pyIter v) (PIE X j0 σ tg R) X.xe s1) X.xe s
def O7 {s:Shared} {o:Obj} (ho:s.heap.get? it=some o) (hc:o.cls=.type n) (hd:o.data=.fields vs)
    (hn:["enumerate","zip","dict_itemiterator","dict_reverseitemiterator","odict_iterator","itertools.zip_longest","itertools.pairwise"].contains n=false) (hQ:Q () s):wpAny M A (letOwnedTupleGo tg (.ref it) u) Q E s:=by
  unfold letOwnedTupleGo
  cases tg <;> first
    | exact wpAny_pure hQ
    | (cases u <;> first
        | exact wpAny_pure hQ
        | (refine Al (wpAny_load ho ?_)
           rw [hc,hd];show wpAny M A (if (["enumerate","zip","dict_itemiterator","dict_reverseitemiterator","odict_iterator","itertools.zip_longest","itertools.pairwise"].contains n && vs[0]? == some (rawInt _))=true then _ else _) Q E s;rw [if_neg (by intro h; rw [hn,Bool.false_and] at h; cases h)]
           exact wpAny_pure hQ))
def Itl (K:W.Frag) (a:Addr):It :=
 ⟨λi H=>∃ xs x,SqL K H a xs/\xs[i]?=some x,λi H x H'=>H'=H/\∀ xs,SqL K H a xs->xs[i]?=some x,λi H=>∃ xs,SqL K H a xs/\xs.length<=i⟩
def Itt (K:W.Frag) (a:Addr):It :=
 ⟨λi H=>∃ xs x,SqT K H a xs/\xs[i]?=some x,λi H x H'=>H'=H/\∀ xs,SqT K H a xs->xs[i]?=some x,λi H=>∃ xs,SqT K H a xs/\xs.length<=i⟩
def Itr (lo:Int) (n:Nat):It:=⟨λi _=>i < n,λi H x H'=>H'=H/\x=.int (lo + i),λi _=>n<=i⟩
def Zdu {P:Program} {w:World} {K:W.Frag} {tg:Expr} (a it:Addr):Turn P w K tg (Itl K a) [it] it (λi h=>h.IsListIter it a i) where
 mem:=by simp
 obj:=λi h st b hb=>by
  have e:b=it:=by simpa using hb
  subst e;obtain ⟨o,e,c,d⟩:=st;exact ⟨o,e,λv z=>by rw [d] at z; cases z⟩
 keep:=λi h h' st k=>st.at λo e=>k it (by simp) o e
 item:=by
  intro X hP hw hK hc i j0 s σ H E I hf st hg;subst hP hw hK;obtain ⟨xs,x,hq,hx⟩:=hg;obtain ⟨its,rv,p,hz⟩:=I.list hq;obtain ⟨u,hu,ru⟩:=rv.get hx;obtain ⟨f0,f1,f2,f3,f4,f5⟩:=hf it (by simp);refine wpAny_pyNext_list_item st p.isList (x:=u) (by simpa using hu) λh' ms sb=>?_;have I1:Inv X j0 σ H { s with heap:=h' }:=I.turned (t':=s.toks) (λb o hb e=>(sb.2 b hb).trans e) f0 f1 f3 f4 f5;obtain ⟨o,e,c,d⟩:=id ms;exact ⟨u,Z,O7 (s:={ s with heap:=h' }) e c d (by decide) ⟨x,H,I1,ru,⟨Z,λys hy=>by rw [I.list_inj hy hq]; exact hx⟩,ms,λb hb=>(hf b hb).1⟩⟩
 done:=by
  intro X hP hw hK hc i j0 s σ H E I hf st hg;subst hP hw hK;obtain ⟨xs,hq,hx⟩:=hg;obtain ⟨its,rv,p,hz⟩:=I.list hq;obtain ⟨f0,f1,f2,f3,f4,f5⟩:=hf it (by simp);have hl:=rv.length;exact wpAny_pyNext_list_end (I.ok.hd hc) st p.isList (by simp; lia) λh' eb=>⟨rfl,I.turned (t':=s.toks) (λb o hb e=>eb b o hb e) f0 f1 f3 f4 f5⟩
 self:=λ_ _ _ _ _ st h=>wpAny_pyIter_listiter st h
def Zcn {P:Program} {w:World} {K:W.Frag} {tg:Expr} (a it:Addr):Turn P w K tg (Itt K a) [it] it (λi h=>h.IsTupleIter it a i) where
 mem:=by simp
 obj:=λi h st b hb=>by
  have e:b=it:=by simpa using hb
  subst e;obtain ⟨o,e,c,d⟩:=st;exact ⟨o,e,λv z=>by rw [d] at z; cases z⟩
 keep:=λi h h' st k=>st.at λo e=>k it (by simp) o e
 item:=by
  intro X hP hw hK hc i j0 s σ H E I hf st hg;subst hP hw hK;obtain ⟨xs,x,hq,hx⟩:=hg;obtain ⟨its,rv,p,hz⟩:=I.tuple hq;obtain ⟨u,hu,ru⟩:=rv.get hx;obtain ⟨f0,f1,f2,f3,f4,f5⟩:=hf it (by simp);refine wpAny_pyNext_tuple_item st (show s.heap.IsTuple a its.toArray from p) (x:=u) (by simpa using hu) λh' ms sb=>?_;have I1:Inv X j0 σ H { s with heap:=h' }:=I.turned (t':=s.toks) (λb o hb e=>(sb.2 b hb).trans e) f0 f1 f3 f4 f5;obtain ⟨o,e,c,d⟩:=id ms;exact ⟨u,Z,O7 (s:={ s with heap:=h' }) e c d (by decide) ⟨x,H,I1,ru,⟨Z,λys hy=>by rw [I.tuple_inj hy hq]; exact hx⟩,ms,λb hb=>(hf b hb).1⟩⟩
 done:=by
  intro X hP hw hK hc i j0 s σ H E I hf st hg;subst hP hw hK;obtain ⟨xs,hq,hx⟩:=hg;obtain ⟨its,rv,p,hz⟩:=I.tuple hq;obtain ⟨f0,f1,f2,f3,f4,f5⟩:=hf it (by simp);have hl:=rv.length;exact wpAny_pyNext_tuple_end (I.ok.hd hc) st (show s.heap.IsTuple a its.toArray from p) (by simp; lia) λh' eb=>⟨rfl,I.turned (t':=s.toks) (λb o hb e=>eb b o hb e) f0 f1 f3 f4 f5⟩
 self:=λ_ _ _ _ _ st h=>wpAny_pyIter_tupleiter st h
def Zco {P:Program} {w:World} {K:W.Frag} {tg:Expr} (it:Addr) (lo:Int) (n:Nat):Turn P w K tg (Itr lo n) [it] it (λi h=>IsRangeIter h it (lo + (i:Nat) * 1) ((n:Int) - (i:Nat)) 1) where
 mem:=by simp
 obj:=λi h st b hb=>by
  have e:b=it:=by simpa using hb
  subst e;exact ⟨_,st,λv z=>by
   have z':Data.fields _=Data.cell v:=z
   cases z'⟩
 keep:=λi h h' st k=>k it (by simp) _ st
 item:=by
  intro X hP hw hK hc i j0 s σ H E I hf st hg;subst hP hw hK;obtain ⟨f0,f1,f2,f3,f4,f5⟩:=hf it (by simp);have W:=Walks.range (prog:=X.prog) (w:=X.w) (I.ok.hd hc) it lo 1 n;refine W.item i s _ _ hg st λv h' tk hv ms kk=>?_;obtain ⟨t,rfl⟩:=hv;have I1:Inv X j0 σ H { s with heap:=h',toks:=tk }:=I.turned (λb o hb e=>kk b o (by simpa using hb) e) f0 f1 f3 f4 f5;refine ⟨_,Z,O7 (s:={ s with heap:=h',toks:=tk }) (n:="range_iterator") ms rfl rfl (by decide) ⟨.int (lo + i),H,I1,⟨t,?_⟩,⟨rfl,rfl⟩,ms,λb hb=>(hf b hb).1⟩⟩;rw [Int.mul_one]
 done:=by
  intro X hP hw hK hc i j0 s σ H E I hf st hg;subst hP hw hK;obtain ⟨f0,f1,f2,f3,f4,f5⟩:=hf it (by simp);exact wpAny_pyNext_range_end (I.ok.hd hc) st (by have:n<=i:=hg; lia) λh' eb=>⟨rfl,I.turned (t':=s.toks) (λb o hb e=>eb b o hb e) f0 f1 f3 f4 f5⟩
 self:=λ_ _ _ _ _ st h=>wpAny_pyIter_rangeiter st h
section
variable {X:Cx} {tg:Expr}
def Zj9 (K:W.Frag) (tl:TE):TI:=λσ H R=>tl σ H λx H1=>∃ a,x=.ref a/\(∃ xs,SqL K H1 a xs)/\R (Itl K a) H1
def iTup (K:W.Frag) (tl:TE):TI:=λσ H R=>tl σ H λx H1=>∃ a,x=.ref a/\(∃ xs,SqT K H1 a xs)/\R (Itt K a) H1
def Xf {l:Expr} {tl:TE} (hl:PE X l tl):PI X tg l (Zj9 X.K tl):=by
 intro j0 s σ H R I h;refine thn (hl j0 s σ H _ I h) λv s1 j2=>?_;obtain ⟨x,H1,I1,r1,q1⟩:=j2;obtain ⟨a,e,⟨xs,hq⟩,q⟩:=q1;subst e;cases r1;obtain ⟨its,rv,p,hz⟩:=I1.list hq;refine wpAny_pyIter_list p.isList ?_;refine ⟨s1.heap.objs.size,[s1.heap.objs.size],_,_,H1,Z,I1.kept (t':=s1.toks) λb o e=>Ak _ e,Zdu a _,⟨_,Ap _ Z,Z,Z⟩,λb hb=>?_,q⟩;have e:b=s1.heap.objs.size:=by simpa using hb
 subst e;exact I1.fpOk (An _) (I1.hok.fresh (An _))
def Ziz {l:Expr} {tl:TE} (hl:PE X l tl):PI X tg l (iTup X.K tl):=by
 intro j0 s σ H R I h;refine thn (hl j0 s σ H _ I h) λv s1 j2=>?_;obtain ⟨x,H1,I1,r1,q1⟩:=j2;obtain ⟨a,e,⟨xs,hq⟩,q⟩:=q1;subst e;cases r1;obtain ⟨its,rv,p,hz⟩:=I1.tuple hq;refine wpAny_pyIter_tuple (show s1.heap.IsTuple a its.toArray from p) ?_;refine ⟨s1.heap.objs.size,[s1.heap.objs.size],_,_,H1,Z,I1.kept (t':=s1.toks) λb o e=>Ak _ e,Zcn a _,⟨_,Ap _ Z,Z,Z⟩,λb hb=>?_,q⟩;have e:b=s1.heap.objs.size:=by simpa using hb
 subst e;exact I1.fpOk (An _) (I1.hok.fresh (An _))
def Zfv {j0:List (Addr × Obj)} {σ:St} {H:Hp} {s:Shared} {R:It->Hp->Prop} {E:Value->Shared->Prop} {lo hi:Int} {t u v:Tok} {tk:Nat} (I:Inv X j0 σ H s) (h1:-(2 ^ 62)<=lo) (h2:lo < 2 ^ 62) (h3:-(2 ^ 62)<=hi) (h4:hi < 2 ^ 62)
  (q:R (Itr lo (hi - lo).toNat) H):wpAny (model X.prog X.w) X.A (pyIter (.ref s.heap.objs.size)) (PIE X j0 σ tg R) E { s with heap:=s.heap.push { cls:=.type "range",data:=.fields #[.int lo t,.int hi u,.int 1 v] },toks:=tk }:=by
 refine wpAny_pyIter_range (IsRange.new ..) (small_one h1 h2 h3 h4) ?_;have I1:Inv X j0 σ H { s with heap:=s.heap.push { cls:=.type "range",data:=.fields #[.int lo t,.int hi u,.int 1 v] },toks:=tk }:=I.kept λb o e=>Ak _ e;refine ⟨(s.heap.push { cls:=.type "range",data:=.fields #[.int lo t,.int hi u,.int 1 v] }).objs.size,[(s.heap.push { cls:=.type "range",data:=.fields #[.int lo t,.int hi u,.int 1 v] }).objs.size],_,_,H,rfl,
  I1.kept (t':=tk) λb o e=>Ak _ e,Zco _ lo (hi - lo).toNat,?_,λb hb=>?_,q⟩
 ·have e1:lo + ((0:Nat):Int) * 1=lo:=by simp
  have e2:(((hi - lo).toNat:Nat):Int) - ((0:Nat):Int)=Builtin.Range.rangeSize lo hi 1:=by rw [rangeSize_one]; split <;> lia
  show IsRangeIter _ _ (lo + ((0:Nat):Int) * 1) ((((hi - lo).toNat:Nat):Int) - ((0:Nat):Int)) 1;rw [e1,e2];exact Ap _ Z
 ·have e:b=(s.heap.push { cls:=.type "range",data:=.fields #[.int lo t,.int hi u,.int 1 v] }).objs.size:=by simpa using hb
  subst e;exact I1.fpOk (An _) (I1.hok.fresh (An _))
def Zj8 (ta:TA):TI:=λσ H R=>ta σ H λvs H1=>∃ j:Int,vs=[.int j]/\-(2 ^ 62)<=j/\j < 2 ^ 62/\R (Itr 0 j.toNat) H1
def Jd {a:Expr} {ta:TA} {p pos:Pos} (hg:Gl X "range") (hm:X.mg "range"=none) (ha:PA X [a] ta) (hs:starEach [a] X.env=[(false,eval a X.env)]:=by rfl):PI X tg (.Call (.Name "range" p) [a] [] pos) (Zj8 ta):=by
 intro j0 s σ H R I h;refine Call_ (Jv I hg hm boot_range (PyProof.Rows.callWith_type1 (thn (ha pos j0 s σ H _ I h) λus s1 zz6=>?_) hs Z));obtain ⟨vs,H1,I1,r1,q1⟩:=zz6;obtain ⟨j,e,q1,q2,q⟩:=q1;subst e
 cases r1 with
 | cons r rr =>
  cases rr;obtain ⟨t,rfl⟩:=r;exact call_range_1 (Zfv I1 (by lia) (by lia) q1 q2 (by simpa using q))
def tFor (wi:TI) (g:TG) (tb:TS):TS:=λD σ H=>wi σ H λJ H1=>∃ W:Nat->Nat->St->Hp->Prop,(∃ m,W 0 m σ H1)/\∀ i m σ H,W i m σ H ->
 (J.stop i H/\D.nx σ H)\/(J.go i H/\∃ N:St->Hp->Prop,(∀ σ' H',N σ' H'->∃ m',m' < m/\W (i + 1) m' σ' H')/\∀ x H',J.yld i H x H'->g x σ H' λσ2 H2=>tb { D with nx:=N,ct:=N,bk:=D.nx } σ2 H2)
def Jc (fp:List Addr) (h:Heap):List (Addr × Obj):=fp.filterMap λb=>(h.get? b).map λo=>(b,o)
def Xa {fp:List Addr} {h:Heap} {b:Addr} {o:Obj} (hb:b∈fp) (e:h.get? b=some o):(b,o)∈Jc fp h:=List.mem_filterMap.mpr ⟨b,hb,by rw [e]; rfl⟩
def Zeu {h:Heap} {p:Addr × Obj} (hp:p∈Jc fp h):p.1∈fp/\h.get? p.1=some p.2:=by
 obtain ⟨b,hb,e⟩:=List.mem_filterMap.mp hp
 cases q:h.get? b with
 | none=>rw [q] at e; cases e
 | some o =>
  rw [q] at e;have e':(b,o)=p:=Ax e;subst e';exact ⟨hb,q⟩
def Inv.pinned {j0:List (Addr × Obj)} {σ:St} {H:Hp} {s:Shared} {fp:List Addr} (I:Inv X j0 σ H s) (hf:∀ b∈fp,FpOk X j0 H b) (ho:∀ b∈fp,∃ o,s.heap.get? b=some o/\∀ v,o.data≠.cell v):Inv X (j0 ++ Jc fp s.heap) σ H s :=
 I.pins_of λp hp=>(List.mem_append.mp hp).elim (λz=>I.pin p (List.mem_append_right _ z)) λz=>by
  obtain ⟨hb,e⟩:=Zeu z;obtain ⟨f0,f1,f2,_⟩:=hf p.1 hb;obtain ⟨o,e',d⟩:=ho p.1 hb;rw [e] at e'; cases e';exact ⟨e,f0,f1,f2,d⟩
def Inv.unpinned {j0 pl:List (Addr × Obj)} {σ:St} {H:Hp} {s:Shared} (I:Inv X (j0 ++ pl) σ H s):Inv X j0 σ H s:=I.pins_of λp hp=>I.pin p (List.mem_append_right _ (List.mem_append_left _ hp))
def Ot {iter:Expr} {body:List Stmt} {wi:TI} {g:TG} {tb:TS} {pos:Pos} (hp:PassesOwn (model X.prog X.w) X.A X.env X.xe) (hc:X.calm=true) (hi:PI X tg iter wi) (hg:PG X tg g) (hb:PSs X body tb)
  (hs:∀ x,foldedSetIterable iter X.env x=pure x:=by intro _; rfl):PS X (.For tg iter body [] pos) (tFor wi g tb):=by
 intro j0 s σ H D I h;refine wpAny_For (thn (hi j0 s σ H _ I h) λv s1 h1=>thn h1 λqb s2 h2=>?_) hs;obtain ⟨it,fp,tn,J,H2,e,I2,T,l5,f2,W,⟨m0,w0⟩,lz⟩:=h2;subst e;have kt:∀ {H':Hp},(∀ b∈fp,H' b=none)->∀ b∈fp,FpOk X j0 H' b:=λhn b hb=>⟨hn b hb,(f2 b hb).2⟩;refine codeAny_forLoop_any (λn s'=>∃ i σ' H',Inv X j0 σ' H' s'/\tn i s'.heap/\(∀ b∈fp,H' b=none)/\W i n σ' H') ?_ m0 ⟨0,σ,H2,I2,l5,λb hb=>(f2 b hb).1,w0⟩;rintro n s3 ⟨i,σ3,H3,I3,k8,oh,w3⟩
 rcases lz i n σ3 H3 w3 with ⟨stop,qn⟩ | ⟨go,N,hN,step⟩
 ·refine wpAny_passesOwn hp (thn (T.done X rfl rfl rfl hc i j0 s3 σ3 H3 X.xe I3 (kt oh) k8 stop) λr s4 ⟨hr,I4⟩=>?_)
  subst hr;exact wpAny_execs_nil ⟨σ3,H3,I4,qn⟩
 ·refine wpAny_passesOwn hp (thn (T.item X rfl rfl rfl hc i j0 s3 σ3 H3 X.xe I3 (kt oh) k8 go) λr s4 ⟨u,hr,h4⟩=>?_)
  subst hr;refine wpAny_passesOwn hp (thn h4 λ_ s5 j2=>?_);obtain ⟨x,H5,I5,r5,y5,ml,rq⟩:=j2;have r0:=I5.pinned (kt rq) (T.obj _ _ ml);refine wpAny_passesOwn hp (thn (hg _ s5 σ3 H5 x u _ r0 r5 (step x H5 y5)) λ_ s6 j2=>?_);obtain ⟨σ6,H6,I6,q6⟩:=j2;refine wpAny_passesOwn hp (thn (hb _ s6 σ6 H6 _ I6 q6) λf s7 q7=>?_);have again:∀ {σ7:St} {H7:Hp},Inv X (j0 ++ Jc fp s5.heap) σ7 H7 s7->N σ7 H7->∃ m,m < n/\∃ i σ' H',Inv X j0 σ' H' s7/\tn i s7.heap/\(∀ b∈fp,H' b=none)/\W i m σ' H':=λ{σ7 H7} I7 n7=>by
   obtain ⟨m',hm,w7⟩:=hN σ7 H7 n7
   refine ⟨m',hm,i + 1,σ7,H7,I7.unpinned,T.keep _ _ _ ml λb hb o e=>(I7.pin (b,o) (List.mem_append_right _ (List.mem_append_right _ (Xa hb e)))).1,λb hb=>?_,w7⟩
   obtain ⟨o,e,d⟩:=T.obj _ _ ml b hb
   exact (I7.pin (b,o) (List.mem_append_right _ (List.mem_append_right _ (Xa hb e)))).2.1
  cases f with
  | next=>obtain ⟨σ7,H7,I7,n7⟩:=q7; exact again I7 n7
  | cont=>obtain ⟨σ7,H7,I7,n7⟩:=q7; exact again I7 n7
  | brk=>obtain ⟨σ7,H7,I7,q7⟩:=q7; exact ⟨σ7,H7,I7.unpinned,q7⟩
  | ret v=>obtain ⟨x7,σ7,H7,I7,r7,q7⟩:=q7; exact ⟨x7,σ7,H7,I7.unpinned,r7,q7⟩
end
def Zgk {K:W.Frag} {a:Addr} {xs:List V} {g:TG} {tb:TS} {D:Ends} {σ:St} {H:Hp} (Pv:Nat->St->Hp->Prop) (h0:Pv 0 σ H) (hl:∀ i σ H,i<=xs.length->Pv i σ H->SqL K H a xs)
  (hs:∀ i x σ H,xs[i]?=some x->Pv i σ H->g x σ H λσ2 H2=>tb { D with nx:=Pv (i + 1),ct:=Pv (i + 1),bk:=D.nx } σ2 H2) (hd:∀ σ H,Pv xs.length σ H->D.nx σ H) :
  ∃ W:Nat->Nat->St->Hp->Prop,(∃ m,W 0 m σ H)/\∀ i m σ H,W i m σ H ->
   ((Itl K a).stop i H/\D.nx σ H)\/((Itl K a).go i H/\∃ N:St->Hp->Prop,(∀ σ' H',N σ' H'->∃ m',m' < m/\W (i + 1) m' σ' H')/\∀ x H',(Itl K a).yld i H x H'->g x σ H' λσ2 H2=>tb { D with nx:=N,ct:=N,bk:=D.nx } σ2 H2):=by
 refine ⟨λi m σ H=>m=xs.length - i/\i<=xs.length/\Pv i σ H,⟨xs.length,by simp,Az _,h0⟩,?_⟩;rintro i m σ H ⟨rfl,hi,p⟩;have q:=hl i σ H hi p;by_cases kf:i < xs.length
 ·refine .inr ⟨⟨xs,xs[i],q,by simp [kf]⟩,Pv (i + 1),λσ' H' p'=>⟨xs.length - (i + 1),by lia,Z,kf,p'⟩,λx H' y=>?_⟩
  obtain ⟨e,y⟩:=y;subst e;exact hs i x σ _ (y xs q) p
 ·have e:i=xs.length:=by lia
  subst e;exact .inl ⟨⟨xs,q,An _⟩,hd σ H p⟩
def Gh {lo:Int} {n:Nat} {g:TG} {tb:TS} {D:Ends} {σ:St} {H:Hp} (Pv:Nat->St->Hp->Prop) (h0:Pv 0 σ H)
  (hs:∀ i σ H,i < n->Pv i σ H->g (.int (lo + i)) σ H λσ2 H2=>tb { D with nx:=Pv (i + 1),ct:=Pv (i + 1),bk:=D.nx } σ2 H2) (hd:∀ σ H,Pv n σ H->D.nx σ H) :
  ∃ W:Nat->Nat->St->Hp->Prop,(∃ m,W 0 m σ H)/\∀ i m σ H,W i m σ H ->
   ((Itr lo n).stop i H/\D.nx σ H)\/((Itr lo n).go i H/\∃ N:St->Hp->Prop,(∀ σ' H',N σ' H'->∃ m',m' < m/\W (i + 1) m' σ' H')/\∀ x H',(Itr lo n).yld i H x H'->g x σ H' λσ2 H2=>tb { D with nx:=N,ct:=N,bk:=D.nx } σ2 H2):=by
 refine ⟨λi m σ H=>m=n - i/\i<=n/\Pv i σ H,⟨n,by simp,Az _,h0⟩,?_⟩;rintro i m σ H ⟨rfl,hi,p⟩;by_cases kf:i < n
 ·refine .inr ⟨kf,Pv (i + 1),λσ' H' p'=>⟨n - (i + 1),by lia,Z,kf,p'⟩,λx H' y=>?_⟩
  obtain ⟨e,y⟩:=y;subst e y;exact hs i σ _ kf p
 ·have e:i=n:=by lia
  subst e;exact .inl ⟨An _,hd σ H p⟩
abbrev R2:=V->V->Hp->VK->Prop
def OpR (X:Cx) (f:Value->Value->Sem Value) (r:R2):Prop :=
 ∀ (j0:List (Addr × Obj)) (s:Shared) (σ:St) (H:Hp) (x y:V) (v u:Value) (Q:VK),Inv X j0 σ H s->RelV x v->RelV y u->r x y H Q ->
  wpAny (model X.prog X.w) X.A (f v u) (EP X j0 σ Q) X.xe s
def W9 (X:Cx) (f:Value) (r:List V->Hp->VK->Prop):Prop :=
 ∀ (j0:List (Addr × Obj)) (s:Shared) (σ:St) (H:Hp) (xs:List V) (us:List Value) (Q:VK),Inv X j0 σ H s->Vals xs us->r xs H Q ->
  wpAny (model X.prog X.w) X.A (call f us) (EP X j0 σ Q) X.xe s
def TruR (X:Cx) (r:V->Hp->(Bool->Hp->Prop)->Prop):Prop :=
 ∀ (j0:List (Addr × Obj)) (s:Shared) (σ:St) (H:Hp) (x:V) (v:Value) (Q:Bool->Hp->Prop),Inv X j0 σ H s->RelV x v->r x H Q ->
  wpAny (model X.prog X.w) X.A (truthy v) (TP X j0 σ Q) X.xe s
def tOp (r:R2) (ta tb:TE):TE:=λσ H Q=>ta σ H λx H1=>tb σ H1 λy H2=>r x y H2 Q
def rI (C:Int->Int->Prop) (g:Int->Int->V):R2:=λx y H Q=>∃ i j,x=.int i/\y=.int j/\C i j/\Q (g i j) H
def rI0 (g:Int->Int->V):R2:=λx y H Q=>∃ i j,x=.int i/\y=.int j/\Q (g i j) H
section
variable {X:Cx} {a b c:Expr} {ta tb tc:TE} {pos:Pos}
def binT (ha:PE X a ta) (hb:PE X b tb) {j0:List (Addr × Obj)} {s:Shared} {σ:St} {H:Hp} {R:V->V->Hp->Prop} (I:Inv X j0 σ H s)
  (h:ta σ H λx H1=>tb σ H1 λy H2=>R x y H2) {Q:Value->Shared->Prop} {f:Value->Value->Sem Value}
  (hf:∀ v u s2 x y H2,Inv X j0 σ H2 s2->RelV x v->RelV y u->R x y H2->wpAny (model X.prog X.w) X.A (f v u) Q X.xe s2) :
  wpAny (model X.prog X.w) X.A (eval a X.env) (λv s₁=>wpAny (model X.prog X.w) X.A (eval b X.env) (λu s₂=>wpAny (model X.prog X.w) X.A (f v u) Q X.xe s₂) X.xe s₁) X.xe s:=by
 refine thn (ha j0 s σ H _ I h) λv s1 j2=>?_;obtain ⟨x,H1,I1,r1,q1⟩:=j2;refine thn (hb j0 s1 σ H1 _ I1 q1) λu s2 j2=>?_;obtain ⟨y,H2,I2,r2,q2⟩:=j2;exact hf v u s2 x y H2 I2 r1 r2 q2
def Zj (ho:OpR X (binaryOp op) r) (ha:PE X a ta) (hb:PE X b tb):PE X (.BinOp a op b pos) (tOp r ta tb):=by
 intro j0 s σ H Q I h;exact wpAny_BinOp (binT ha hb I h λv u s2 x y H2 I2 rx ry q=>ho j0 s2 σ H2 x y v u Q I2 rx ry q)
def opI {g:Int->Int->Int}
  (rule:∀ (i j:Int) (t u:Tok) (s:Shared) (Q:Value->Shared->Prop) (E:Value->Shared->Prop),C i j->Q (.int (g i j) s.toks) { s with toks:=s.toks + 1 }->wpAny (model X.prog X.w) X.A (f (.int i t) (.int j u)) Q E s) :
  OpR X f (rI C λi j=>.int (g i j)):=by
 intro j0 s σ H x y v u Q I rx ry h;obtain ⟨i,j,rfl,rfl,hc,q⟩:=h;obtain ⟨t,rfl⟩:=rx;obtain ⟨t',rfl⟩:=ry;exact rule i j t t' s _ _ hc ⟨.int (g i j),H,I.tok _,⟨_,Z⟩,q⟩
def opI0 {g:Int->Int->Int}
  (rule:∀ (i j:Int) (t u:Tok) (s:Shared) (Q:Value->Shared->Prop) (E:Value->Shared->Prop),Q (.int (g i j) s.toks) { s with toks:=s.toks + 1 }->wpAny (model X.prog X.w) X.A (f (.int i t) (.int j u)) Q E s) :
  OpR X f (rI0 λi j=>.int (g i j)):=by
 intro j0 s σ H x y v u Q I rx ry h;obtain ⟨i,j,rfl,rfl,q⟩:=h;obtain ⟨t,rfl⟩:=rx;obtain ⟨t',rfl⟩:=ry;exact rule i j t t' s _ _ ⟨.int (g i j),H,I.tok _,⟨_,Z⟩,q⟩
def opB0 {g:Int->Int->Bool}
  (rule:∀ (i j:Int) (t u:Tok) (s:Shared) (Q:Value->Shared->Prop) (E:Value->Shared->Prop),Q (.bool (g i j)) s->wpAny (model X.prog X.w) X.A (f (.int i t) (.int j u)) Q E s) :
  OpR X f (rI0 λi j=>.bl (g i j)):=by
 intro j0 s σ H x y v u Q I rx ry h;obtain ⟨i,j,rfl,rfl,q⟩:=h;obtain ⟨t,rfl⟩:=rx;obtain ⟨t',rfl⟩:=ry;exact rule i j t t' s _ _ ⟨.bl (g i j),H,I,Z,q⟩
def CDiv (i j:Int):Prop:=0 < j/\j < 1073741824
def CPow (i j:Int):Prop:=0<=j/\j<=1000000/\i.natAbs < 2 ^ 64
def CMul (i j:Int):Prop:=(-(2 ^ 64) < i/\i < 2 ^ 64)\/(-(2 ^ 64) < j/\j < 2 ^ 64)
def CMul.ok {i j:Int} (h:CMul i j):IntMulOk i j:=by
 rcases h with ⟨h1,h2⟩ | ⟨h1,h2⟩
 ·exact .of_left (intBits_le_64 h1 h2)
 ·exact .of_right (intBits_le_64 h1 h2)
def Y9:OpR X (binaryOp .Add) (rI0 λi j=>.int (i + j)):=opI0 λ_ _ _ _ _ _ _ q=>add_int q
def Zi3:OpR X (binaryOp .Sub) (rI0 λi j=>.int (i - j)):=opI0 λ_ _ _ _ _ _ _ q=>sub_int q
def Xl:OpR X (binaryOp .Mult) (rI CMul λi j=>.int (i * j)):=opI λ_ _ _ _ _ _ _ hc q=>mul_int q hc.ok
def Xs:OpR X (binaryOp .FloorDiv) (rI CDiv λi j=>.int (i / j)):=opI λi j _ _ _ _ _ hc q=>by
 have h1:(0:Int) < j:=hc.1;have h2:j < 1073741824:=hc.2;exact floordiv_int (by lia) (by rw [Int.fdiv_eq_ediv_of_nonneg i (by lia)]; exact q) (.inl (PyProof.noPylong_small (by lia)))
def Z1:OpR X (binaryOp .Mod) (rI (λ_ j=>0 < j) λi j=>.int (i % j)):=opI λi j _ _ _ _ _ hc q=>by
 have h1:(0:Int) < j:=hc;exact mod_int' (by lia) (by rw [Int.fmod_eq_emod_of_nonneg i (by lia)]; exact q)
def Zi4:OpR X (binaryOp .Pow) (rI CPow λi j=>.int (i ^ j.toNat)):=opI λ_ _ _ _ _ _ _ hc q=>pow_int_small hc.1 hc.2.1 hc.2.2 q
end
def scal:V->V->Bool
 | .non,.non=>true | .non,.int _=>true | .int _,.non=>true | .non,.bl _=>true | .bl _,.non=>true | .non,.str _=>true | .str _,.non=>true
 | .int _,.int _=>true | .bl _,.bl _=>true | .str _,.str _=>true | .byt _,.byt _=>true
 | .int _,.str _=>true | .str _,.int _=>true | .bl _,.str _=>true | .str _,.bl _=>true
 | _,_=>false
def rEq:R2:=λx y H Q=>scal x y=true/\Q (.bl (decide (x=y))) H
def rNe:R2:=λx y H Q=>scal x y=true/\Q (.bl (!decide (x=y))) H
def Zcj:decide (V.int i=V.int j)=(i == j):=by
 rw [Bool.eq_iff_iff];simp
def Zfb:decide (V.bl i=V.bl j)=(i == j):=by
 rw [Bool.eq_iff_iff];simp
def Zci:decide (V.str i=V.str j)=(i == j):=by
 rw [Bool.eq_iff_iff];simp
def Zck {i j:Array UInt8}:decide (V.byt i=V.byt j)=(i.toList == j.toList):=by
 rw [Bool.eq_iff_iff];cases i;cases j;simp
section
variable {X:Cx} {a b c:Expr} {ta tb tc:TE} {pos:Pos}
def Z4 (I:Inv X j0 σ H s) (q:Q (.bl k) H) (e:k=k'):EP X j0 σ Q (.bool k') s:=by
 subst e;exact ⟨.bl k,H,I,Z,q⟩
def Yv:OpR X (compareOp .Eq) rEq:=by
 intro j0 s σ H x y v u Q I rx ry h;obtain ⟨hs,q⟩:=h
 cases x with
 | non =>
  cases rx
  cases y with
  | non=>cases ry; exact PySem.EqNone.eq_none_none (Z4 I q (by simp))
  | bl j=>cases ry; exact PySem.EqNone.eq_none_bool (Z4 I q (by simp))
  | int j=>obtain ⟨t',rfl⟩:=ry; exact PySem.EqNone.eq_none_int (Z4 I q (by simp))
  | str j=>obtain ⟨t',rfl⟩:=ry; exact PySem.EqNone.eq_none_str (Z4 I q (by simp))
  | _=>exact absurd (show false=true from hs) Bool.false_ne_true
 | bl i =>
  cases rx
  cases y with
  | non=>cases ry; exact PySem.EqNone.eq_bool_none (Z4 I q (by simp))
  | bl j=>cases ry; exact eq_bool (Z4 I q Zfb)
  | str j=>obtain ⟨t',rfl⟩:=ry; exact PySem.EqMixed.eq_bool_str (Z4 I q (by simp))
  | _=>exact absurd (show false=true from hs) Bool.false_ne_true
 | int i =>
  obtain ⟨t,rfl⟩:=rx
  cases y with
  | non=>cases ry; exact PySem.EqNone.eq_int_none (Z4 I q (by simp))
  | int j=>obtain ⟨t',rfl⟩:=ry; exact eq_int (Z4 I q Zcj)
  | str j=>obtain ⟨t',rfl⟩:=ry; exact PySem.EqMixed.eq_int_str (Z4 I q (by simp))
  | _=>exact absurd (show false=true from hs) Bool.false_ne_true
 | str i =>
  obtain ⟨t,rfl⟩:=rx
  cases y with
  | non=>cases ry; exact PySem.EqNone.eq_str_none (Z4 I q (by simp))
  | bl j=>cases ry; exact PySem.EqMixed.eq_str_bool (Z4 I q (by simp))
  | int j=>obtain ⟨t',rfl⟩:=ry; exact PySem.EqMixed.eq_str_int (Z4 I q (by simp))
  | str j=>obtain ⟨t',rfl⟩:=ry; exact eq_str (Z4 I q Zci)
  | _=>exact absurd (show false=true from hs) Bool.false_ne_true
 | byt i =>
  obtain ⟨t,rfl⟩:=rx
  cases y with
  | byt j=>obtain ⟨t',rfl⟩:=ry; exact PySem.W.eq_bytes (Z4 I q Zck)
  | _=>exact absurd (show false=true from hs) Bool.false_ne_true
 | _=>cases y <;> exact absurd (show false=true from hs) Bool.false_ne_true
def Zgz:OpR X (compareOp .NotEq) rNe:=by
 intro j0 s σ H x y v u Q I rx ry h;obtain ⟨hs,q⟩:=h
 cases x with
 | non =>
  cases rx
  cases y with
  | non=>cases ry; exact PySem.EqNone.ne_none_none (Z4 I q (by simp))
  | bl j=>cases ry; exact PySem.EqNone.ne_none_bool (Z4 I q (by simp))
  | int j=>obtain ⟨t',rfl⟩:=ry; exact PySem.EqNone.ne_none_int (Z4 I q (by simp))
  | str j=>obtain ⟨t',rfl⟩:=ry; exact PySem.EqNone.ne_none_str (Z4 I q (by simp))
  | _=>exact absurd (show false=true from hs) Bool.false_ne_true
 | bl i =>
  cases rx
  cases y with
  | non=>cases ry; exact PySem.EqNone.ne_bool_none (Z4 I q (by simp))
  | bl j=>cases ry; exact ne_bool (Z4 I q (congrArg not Zfb))
  | str j=>obtain ⟨t',rfl⟩:=ry; exact PySem.EqMixed.ne_bool_str (Z4 I q (by simp))
  | _=>exact absurd (show false=true from hs) Bool.false_ne_true
 | int i =>
  obtain ⟨t,rfl⟩:=rx
  cases y with
  | non=>cases ry; exact PySem.EqNone.ne_int_none (Z4 I q (by simp))
  | int j=>obtain ⟨t',rfl⟩:=ry; exact ne_int (Z4 I q (congrArg not Zcj))
  | str j=>obtain ⟨t',rfl⟩:=ry; exact PySem.EqMixed.ne_int_str (Z4 I q (by simp))
  | _=>exact absurd (show false=true from hs) Bool.false_ne_true
 | str i =>
  obtain ⟨t,rfl⟩:=rx
  cases y with
  | non=>cases ry; exact PySem.EqNone.ne_str_none (Z4 I q (by simp))
  | bl j=>cases ry; exact PySem.EqMixed.ne_str_bool (Z4 I q (by simp))
  | int j=>obtain ⟨t',rfl⟩:=ry; exact PySem.EqMixed.ne_str_int (Z4 I q (by simp))
  | str j=>obtain ⟨t',rfl⟩:=ry; exact ne_str (Z4 I q (congrArg not Zci))
  | _=>exact absurd (show false=true from hs) Bool.false_ne_true
 | byt i =>
  obtain ⟨t,rfl⟩:=rx
  cases y with
  | byt j=>obtain ⟨t',rfl⟩:=ry; exact PySem.W.ne_bytes (Z4 I q (congrArg not Zck))
  | _=>exact absurd (show false=true from hs) Bool.false_ne_true
 | _=>cases y <;> exact absurd (show false=true from hs) Bool.false_ne_true
def J3:OpR X (compareOp .Lt) (rI0 λi j=>.bl (decide (i < j))):=opB0 λ_ _ _ _ _ _ _ q=>lt_int q
def Oy:OpR X (compareOp .LtE) (rI0 λi j=>.bl (decide (i<=j))):=opB0 λ_ _ _ _ _ _ _ q=>le_int q
def J4:OpR X (compareOp .Gt) (rI0 λi j=>.bl (decide (j < i))):=opB0 λ_ _ _ _ _ _ _ q=>gt_int q
def Zg0:OpR X (compareOp .GtE) (rI0 λi j=>.bl (decide (j<=i))):=opB0 λ_ _ _ _ _ _ _ q=>ge_int q
def Zcc:OpR X (compareOp .IsNot) (λx y H Q=>y=.non/\Q (.bl (!decide (x=.non))) H):=by
 intro j0 s σ H x y v u Q I rx ry h;obtain ⟨rfl,q⟩:=h;cases ry;refine isnot_none_gen (Z4 I q ?_)
 cases x <;> first
  | (cases rx; rfl)
  | (obtain ⟨t,rfl⟩:=rx; rfl)
def Zr (b:Expr) (h:op≠.In:=by decide) (h2:op≠.NotIn:=by decide):behindInMarks op b=false:=by
 have e1:(op == CmpOp.In)=false:=by cases op <;> first | rfl | exact absurd Z h
 have e2:(op == CmpOp.NotIn)=false:=by cases op <;> first | rfl | exact absurd Z h2
 cases b <;> simp [behindInMarks,e1,e2]
def Xi (ho:OpR X (compareOp op) r) (ha:PE X a ta) (hb:PE X b tb) (hm:behindInMarks op b=false):PE X (.Compare a [op] [b] pos) (tOp r ta tb):=by
 intro j0 s σ H Q I h;exact wpAny_Compare1 (binT ha hb I h λv u s2 x y H2 I2 rx ry q=>ho j0 s2 σ H2 x y v u Q I2 rx ry q) hm
def Zgq (t:TE):TT:=λσ H Q=>t σ H λx H'=>∃ k,x=.bl k/\Q k H'
def Zt {op:CmpOp} {r:R2} (ho:OpR X (compareOp op) r) (ha:PE X a ta) (hb:PE X b tb) (hm:behindInMarks op b=false):PT X (.Compare a [op] [b] pos) (Zgq (tOp r ta tb)):=by
 intro j0 s σ H Q I h;refine wpAny_isTrue_Compare1 (thn (ha j0 s σ H _ I h) λv s1 ⟨x,H1,I1,r1,q1⟩=>thn (hb j0 s1 σ H1 _ I1 q1) λu s2 ⟨y,H2,I2,r2,q2⟩ =>
  thn (ho j0 s2 σ H2 x y v u _ I2 r1 r2 q2) λc s3 ⟨z,H3,I3,r3,k,e,q3⟩=>?_) hm
 subst e;cases r3;exact wpAny_truthy_bool ⟨H3,I3,q3⟩
def Zdx (r r':R2) (ta tb tc:TE):TE:=λσ H Q=>ta σ H λx H1=>tb σ H1 λy H2=>r x y H2 λz H3=>∃ k,z=.bl k /\
 (if k=true then tc σ H3 λw' H4=>r' y w' H4 Q else Q (.bl false) H3)
def Zan {op qq:CmpOp} {r r':R2} (ho:OpR X (compareOp op) r) (l8:OpR X (compareOp qq) r') (ha:PE X a ta) (hb:PE X b tb) (hc:PE X c tc)
  (hm:lastMarks [op,qq] [b,c]=false:=by with_unfolding_all rfl):PE X (.Compare a [op,qq] [b,c] pos) (Zdx r r' ta tb tc):=by
 intro j0 s σ H Q I h;refine Compare_chain (thn (ha j0 s σ H _ I h) λv s1 ⟨x,H1,I1,r1,q1⟩=>chain_link (thn (hb j0 s1 σ H1 _ I1 q1) λu s2 ⟨y,H2,I2,r2,q2⟩ =>
  thn (ho j0 s2 σ H2 x y v u _ I2 r1 r2 q2) λd s3 ⟨z,H3,I3,r3,k,e,q3⟩=>?_)) hm
 subst e;cases r3;refine wpAny_truthy_bool ?_
 cases k with
 | false=>exact ite_ff ⟨.bl false,H3,I3,Z,q3⟩
 | true=>exact ite_tt (chain_last (thn (hc j0 s3 σ H3 _ I3 q3) λw' s4 ⟨z',H4,I4,r4,q4⟩=>l8 j0 s4 σ H4 y z' u w' Q I4 r2 r4 q4))
def Zfx {op qq:CmpOp} {r r':R2} (ho:OpR X (compareOp op) r) (l8:OpR X (compareOp qq) r') (ha:PE X a ta) (hb:PE X b tb) (hc:PE X c tc)
  (hm:lastMarks [op,qq] [b,c]=false:=by with_unfolding_all rfl):PT X (.Compare a [op,qq] [b,c] pos) (Zgq (Zdx r r' ta tb tc)):=by
 intro j0 s σ H Q I h;refine isTrue_chain (thn (ha j0 s σ H _ I h) λv s1 ⟨x,H1,I1,r1,q1⟩=>test_link (thn (hb j0 s1 σ H1 _ I1 q1) λu s2 ⟨y,H2,I2,r2,q2⟩ =>
  thn (ho j0 s2 σ H2 x y v u _ I2 r1 r2 q2) λd s3 ⟨z,H3,I3,r3,k,e,q3⟩=>?_)) hm
 subst e;cases r3;refine wpAny_truthy_bool ?_
 cases k with
 | false =>
  obtain ⟨k',e',q'⟩:=q3;cases e';exact ite_ff ⟨H3,I3,q'⟩
 | true =>
  refine ite_tt (test_last (thn (hc j0 s3 σ H3 _ I3 q3) λw' s4 qo=>?_));obtain ⟨z',H4,I4,r4,q4⟩:=qo;refine thn (l8 j0 s4 σ H4 y z' u w' _ I4 r2 r4 q4) λd' s5 j2=>?_;obtain ⟨z2,H5,I5,r5,k2,e2,q5⟩:=j2;subst e2;cases r5;exact wpAny_truthy_bool ⟨H5,I5,q5⟩
def TruV (K:W.Frag) (x:V) (H:Hp) (k:Bool):Prop :=
 match x with
 | .non=>k=false
 | .bl b=>k=b
 | .int i=>k=(i != 0)
 | .str y=>y.length<=sizeLine/\k=((y.length:Int) != 0)
 | .byt y=>y.size<=sizeLine/\k=((y.size:Int) != 0)
 | .ref p=>(∃ xs,SqL K H p xs/\k=!xs.isEmpty)\/(∃ xs,SqT K H p xs/\k=!xs.isEmpty)\/∃ kvs,H p=some (.dK kvs)/\k=!kvs.isEmpty
 | _=>False
def Zdl {κ:Type} {kvs:List (κ × V)} {vs:List (κ × Value)} (r:KV kvs vs):(!vs.isEmpty)=!kvs.isEmpty:=by
 cases r <;> rfl
def O5 {xs:List V} {its:List Value} (r:Vals xs its):(!its.toArray.isEmpty)=!xs.isEmpty:=by
 cases r <;> simp
def Qi:(sizeLine:Nat) < 2 ^ 63:=by rw [sizeLine_eq]; decide
def Zii:TruR X (λx H Q=>∃ k,TruV X.K x H k/\Q k H):=by
 intro j0 s σ H x v Q I rx h;obtain ⟨k,e,q⟩:=h;have hl:=Qi;have hs:sizeLine=16777216:=sizeLine_eq
 cases x with
 | non =>
  cases rx;have e':k=false:=e;subst e';exact truthy_none ⟨H,I,q⟩
 | bl b =>
  cases rx;have e':k=b:=e;subst e';exact wpAny_truthy_bool ⟨H,I,q⟩
 | int i =>
  obtain ⟨t,rfl⟩:=rx;have e':k=(i != 0):=e;subst e';exact PySem.P.truthy_int ⟨H,I,q⟩
 | str y =>
  obtain ⟨t,rfl⟩:=rx;obtain ⟨hy,e'⟩:y.length<=sizeLine/\k=((y.length:Int) != 0):=e;subst e';exact PySem.P.truthy_str (by lia) ⟨H,I.tok _,q⟩
 | byt y =>
  obtain ⟨t,rfl⟩:=rx;obtain ⟨hy,e'⟩:y.size<=sizeLine/\k=((y.size:Int) != 0):=e;subst e';exact PySem.W.truthy_bytes (by lia) ⟨H,I.tok _,q⟩
 | ref p =>
  cases rx;have e':(∃ xs,SqL X.K H p xs/\k=!xs.isEmpty)\/(∃ xs,SqT X.K H p xs/\k=!xs.isEmpty)\/∃ kvs,H p=some (.dK kvs)/\k=!kvs.isEmpty:=e
  rcases e' with ⟨xs,hx,e'⟩ | ⟨xs,hx,e'⟩ | ⟨kvs,hx,e'⟩
  ·subst e'
   obtain ⟨its,r,pl,hz⟩:=I.list hx;have j1:=r.length;exact wpAny_truthy_list pl.isList (by simp only [Aq]; lia) ⟨H,I.tok _,by rw [O5 r]; exact q⟩
  ·subst e'
   obtain ⟨its,r,pl,hz⟩:=I.tuple hx;have j1:=r.length;exact truthy_tuple pl (by simp only [Aq]; lia) ⟨H,I.tok _,by rw [O5 r]; exact q⟩
  ·subst e'
   obtain ⟨hz,hS,vs,r,m⟩:kvs.length<=sizeLine/\(p == sysModules)=false/\∃ vs,KV kvs vs/\s.heap.DictOf (Z7 X.prog X.w) p vs:=I.hok p _ hx;have j1:kvs.length=vs.length:=Paired.length r;exact wpAny_truthy_dict hS m (by lia) ⟨H,I.tok _,by rw [Zdl r]; exact q⟩
 | _=>exact (show False from e).elim
def Qr (ha:PE X a ta) (he:∀ lg,isTrue a X.env lg=(do let v <- lg; standAt a.pos; holding [v] (truthy v))) :
  PT X a (λσ H Q=>ta σ H λx H'=>∃ k,TruV X.K x H' k/\Q k H'):=by
 intro j0 s σ H Q I h;refine isTrue_plain (thn (ha j0 s σ H _ I h) λv s1 zz8=>?_) (he _);obtain ⟨x,H1,I1,r1,q1⟩:=zz8;exact Zii j0 s1 σ H1 x v Q I1 r1 q1
def Zda:OpR X (binaryOp .Add) (λx y H Q=>∃ i j,x=.str i/\y=.str j/\i.length + j.length<=sizeLine/\Q (.str (i ++ j)) H):=by
 intro j0 s σ H x y v u Q I rx ry h;obtain ⟨i,j,rfl,rfl,hz,q⟩:=h;obtain ⟨t,rfl⟩:=rx;obtain ⟨t',rfl⟩:=ry;exact add_str (λt' tk=>⟨.str (i ++ j),H,I.tok _,⟨_,Z⟩,q⟩) hz
def X8 (r:Vals [x] us):∃ u,us=[u]/\RelV x u:=by
 cases r with
 | cons r1 r2=>cases r2; exact ⟨_,Z,r1⟩
end
structure ObjM (h:Heap) (x dx C:Addr) (mA:Str->Option Value):Prop where
 obj:h.get? x=some (PySem.W.instObj C dx)
 ns:h.Ns1 dx mA
 ne:dx≠x
def Zew {h:Heap} (n:h.Ns1 dx mA):∃ od,h.get? dx=some od/\∀ name,PySem.W.lookIn name od=some (mA name):=by
 obtain ⟨o,es,ep,ho,hd,hk,_,hm⟩:=n;refine ⟨o,ho,λname=>?_⟩;have e:=hm name;unfold nsFind findBy at e;rw [<- Array.find?_toList] at e;unfold PySem.W.lookIn;rw [hd];dsimp only;split
 ·rename_i y q
  rw [q] at e;exact congrArg some e
 ·rename_i q
  rw [q] at e;have a:es.toList.any (·.refKey)=false:=by
   rw [List.any_eq_false]
   intro y hy
   obtain ⟨z,t,hkey⟩:=hk y (Array.mem_toList_iff.mp hy)
   simp [DictEntry.refKey,hkey]
  have a':¬ es.toList.any (·.refKey)=true:=by rw [a]; exact Bool.false_ne_true
  rw [if_neg a'];exact congrArg some e
def ObjM.look (I:ObjM h x dx C mA):∃ od,PySem.W.InstAt h x (PySem.W.instObj C dx) C (some od)/\∀ name,PySem.W.lookIn name od=some (mA name) :=
 let ⟨od,ho,hl⟩:=Zew I.ns
 ⟨od,⟨I.obj,rfl,rfl,ho⟩,hl⟩
section
variable {prog:Program} {w:World} {A:Around} {E:Value->Shared->Prop} {s:Shared} {K:W.Frag} {x dx C f:Addr} {mA:Str->Option Value} {name:Str} {v:Value}
def Zh7 (X:K.In s.heap) (I:ObjM s.heap x dx C mA) (hg:PySem.W.plainGet K C name=true) (hh:PySem.W.hasDictIn K C=true)
  (ha:PySem.W.findIn K (.ref C) name=some none) (hv:mA name=some v) (hv':PySem.W.handedIn v=true) (h:Q v { s with toks:=s.toks + 1 }) :
  wpAny (model prog w) A (getAttr (.ref x) name expr) Q E s:=by
 obtain ⟨od,J,hl⟩:=I.look;exact PySem.W.get_value X J (PySem.W.plainGet_of hg).1 (PySem.W.findObj_own hh ha Z (by rw [hl,hv])) hv' h
def Zgi (X:K.In s.heap) (I:ObjM s.heap x dx C mA) (hg:PySem.W.plainGet K C name=true)
  (hf:PySem.W.findIn K (.ref C) name=some (some (.ref f))) (ht:PySem.W.isFn K (.ref f)=true) (hv:mA name=none) (h:Q (.ref f,[.ref x]) s) :
  wpAny (model prog w) A (getMethod (.ref x) name pl) Q E s:=by
 obtain ⟨od,J,hl⟩:=I.look;exact PySem.W.method_fn X J (PySem.W.plainGet_of hg).1 (PySem.W.plainGet_of hg).2 hf (beq_iff_eq.mp ht) (by show (PySem.W.lookIn name od).map (·.isSome)=some false; rw [hl,hv]; rfl) h
def Zhk {ns:List Str} (X:K.In s.heap) (I:ObjM s.heap x dx C mA)
  (hs:PySem.W.findIn K (.ref C) "__setattr__"=some (some (.builtin "object.__setattr__"))) (hp:PySem.W.plainOver K C=true) (ht:PySem.W.takerIn K C name=some none) (hh:PySem.W.hasDictIn K C=true)
  (hw:PySem.Within mA ns) (hsz:ns.length<=sizeLine)
  (h:∀ h',ObjM h' x dx C (λy=>if y=name then some v else mA y)->Heap.SameBut dx s.heap h'->Q () { s with heap:=h',toks:=s.toks + 2 }) :
  wpAny (model prog w) A (setAttr (.ref x) name v) Q E s:=by
 obtain ⟨od,J,hl⟩:=I.look;refine PySem.W.set_plain X J hs (PySem.W.osa_open (s:={ s with toks:=s.toks + 1 }) (r:=none) X J hp ht λb=>?_);obtain ⟨cd,hc,vm⟩:=PySem.W.any_some hh;have hx:s.heap.get? x=some ⟨.ref C,some dx,.plain,#[]⟩:=I.obj;refine Al (wpAny_pure (Al (Al (wpAny_loadPart hx (Al (PySem.W.Looks.here (s:={ s with toks:=s.toks + 1 }) (PySem.W.looks_clsIn X hc) ?_))))));rw [vm];refine wpAny_pure (a:=some dx) (Al (wpAny_pure (Al ?_)));refine wpAny_nsSet1 (s:={ s with toks:=s.toks + 1 }) I.ns λh' ui pj=>?_;obtain ⟨oD,esD,epD,hoD,hdD,hcD⟩:=ui.count (PySem.Within.cons name v hw);refine Al (wpAny_lookBehind hoD (by rw [hdD]; exact pastItsLine_dict (Nat.le_trans hcD (by rw [List.length_cons]; lia))) ?_);exact wpAny_pure (h _ ⟨(pj.2 _ (Ne.symm I.ne)).trans I.obj,ui,I.ne⟩ pj)
def Za1 {vs:List Value} {kw:List (Str × Value)} (X:K.In s.heap) (hm:PySem.W.makesIn K C=true)
  (hi:PySem.W.findIn K (.ref C) "__init__"=some (some (.ref f))) (hf:PySem.W.typeIn K (.ref f)=some (.type "function"))
  (h:codeAny (model prog w) (A.under (.builtin "type.__call__" ⟨.ref C :: vs,kw⟩)) (.call (.ref f) ⟨.ref (s.heap.objs.size + 1) :: vs,kw⟩) (PySem.W.InitBack (s.heap.objs.size + 1) R)
   { s with heap:=(s.heap.push PySem.W.emptyDict).push (PySem.W.instObj C s.heap.objs.size) }) :
  codeAny (model prog w) A (.call (.ref C) ⟨vs,kw⟩) R s:=by
 obtain ⟨hh,g,d,t,os⟩:=s;exact PySem.W.make_core (PySem.W.makes_of X hm) (PySem.W.looks_findIn X hi) (λself=>PySem.W.bind_fn X self hf) (.inl Z) h
end
def putF (f:Str) (v:V):List (Str × V)->List (Str × V)
 | []=>[(f,v)]
 | (g,x) :: r=>if g=f then (g,v) :: r else (g,x) :: putF f v r
theorem Zz (f g:Str) (v:V):∀ fs:List (Str × V),(putF f v fs).lookup g=if g=f then some v else fs.lookup g
 | []=>by
  show List.lookup g [(f,v)]=_;by_cases h:g=f
  ·have hb:(g == f)=true:=beq_iff_eq.mpr h
   simp only [List.lookup,hb,if_pos h]
  ·have hb:(g == f)=false:=beq_eq_false_iff_ne.mpr h
   simp only [List.lookup,hb,if_neg h]
 | (k,x) :: r=>by
  have ih:=Zz f g v r;rw [show putF f v ((k,x) :: r)=(if k=f then (k,v) :: r else (k,x) :: putF f v r) from rfl];by_cases hk:k=f
  ·rw [if_pos hk]
   by_cases h:g=k
   ·have hb:(g == k)=true:=beq_iff_eq.mpr h
    simp only [List.lookup,hb,if_pos (h.trans hk)]
   ·have hb:(g == k)=false:=beq_eq_false_iff_ne.mpr h
    simp only [List.lookup,hb,if_neg (λe:g=f=>h (e.trans hk.symm))]
  ·rw [if_neg hk]
   by_cases h:g=k
   ·have hb:(g == k)=true:=beq_iff_eq.mpr h
    simp only [List.lookup,hb,if_neg (λe:g=f=>hk (h.symm.trans e))]
   ·have hb:(g == k)=false:=beq_eq_false_iff_ne.mpr h
    simp only [List.lookup,hb];exact ih
theorem Vy (f:Str) (v:V):∀ fs:List (Str × V),f∈(putF f v fs).map (·.1)/\∀ g,g∈fs.map (·.1)->g∈(putF f v fs).map (·.1)
 | []=>⟨by simp [putF],λg h=>by simp at h⟩
 | (k,x) :: r=>by
  obtain ⟨i1,i2⟩:=Vy f v r;rw [show putF f v ((k,x) :: r)=(if k=f then (k,v) :: r else (k,x) :: putF f v r) from rfl];by_cases hk:k=f
  ·rw [if_pos hk]
   subst hk;exact ⟨by simp,λg h=>by simpa using h⟩
  ·rw [if_neg hk]
   refine ⟨?_,λg h=>?_⟩
   ·rw [List.map_cons]
    exact List.mem_cons_of_mem _ i1
   ·rw [List.map_cons] at h ⊢
    rcases Ar h with e | e
    ·exact List.mem_cons.mpr (.inl e)
    ·exact List.mem_cons_of_mem _ (i2 g e)
theorem Us (f:Str) (v:V):∀ fs:List (Str × V),(putF f v fs).length<=fs.length + 1
 | []=>by simp [putF]
 | (k,x) :: r=>by
  have ih:=Us f v r;rw [show putF f v ((k,x) :: r)=(if k=f then (k,v) :: r else (k,x) :: putF f v r) from rfl];by_cases hk:k=f
  ·rw [if_pos hk,List.length_cons,List.length_cons]; lia
  ·rw [if_neg hk,List.length_cons,List.length_cons]; lia
def RelO.some_of (r:RelO (some v) o):∃ u,o=some u/\RelV v u:=by
 cases o with
 | none=>exact (show False from r).elim
 | some u=>exact ⟨u,Z,r⟩
def RelO.none_of (r:RelO none o):o=none:=by
 cases o with
 | none=>rfl
 | some u=>exact (show False from r).elim
def Ze4 (r:RelV v u):PySem.W.handedIn u=true:=by
 cases v with
 | non=>cases (show u=Value.none from r); rfl
 | bl b=>cases (show u=Value.bool b from r); rfl
 | int i=>obtain ⟨t,e⟩:=(show ∃ t,u=Value.int i t from r); cases e; rfl
 | str x=>obtain ⟨t,e⟩:=(show ∃ t,u=Value.str x t from r); cases e; rfl
 | byt b=>obtain ⟨t,e⟩:=(show ∃ t,u=Value.bytes b t from r); cases e; rfl
 | flt b=>obtain ⟨t,e⟩:=(show ∃ t,u=Value.float b t from r); cases e; rfl
 | ref a=>cases (show u=Value.ref a from r); rfl
 | ty n=>cases (show u=Value.type n from r); rfl
section
variable {P:Program} {w:World} {H H':Hp} {h h':Heap} {a C dx:Addr} {fs fs':List (Str × V)}
def Ku (hok:HOk P w H h) (e:H a=some (.ins C dx fs)):∃ mA,ObjM h a dx C mA/\(∀ f,RelO (fs.lookup f) (mA f))/\PySem.Within mA (fs.map (·.1))/\fs.length<=1000/\H dx=some (.own a):=by
 obtain ⟨d,z,ne,ob,mA,n,r,q⟩:=(show Yh P w H h a (.ins C dx fs) from hok a _ e);exact ⟨mA,⟨ob,n,ne⟩,r,q,z,d⟩
end
structure Cls (K:W.Frag) (C:Addr):Prop where
 pg:PySem.W.plainGet K C Str.empty=true
 hd:PySem.W.hasDictIn K C=true
 po:PySem.W.plainOver K C=true
 sa:PySem.W.findIn K (.ref C) "__setattr__"=some (some (.builtin "object.__setattr__"))
def Cls.get {K:W.Frag} {C:Addr} (c:Cls K C) (f:Str):PySem.W.plainGet K C f=true:=c.pg
def Yr (K:W.Frag) (C:Addr) (f:Str):Prop:=PySem.W.findIn K (.ref C) f=some none
def Yr.taker {K:W.Frag} {C:Addr} {f:Str} (n:Yr K C f):PySem.W.takerIn K C f=some none:=by
 unfold PySem.W.takerIn;rw [show PySem.W.findIn K (.ref C) f=some none from n];rfl
structure Meth (K:W.Frag) (C:Addr) (m:Str) (f:Addr):Prop where
 at_:PySem.W.findIn K (.ref C) m=some (some (.ref f))
 fn:PySem.W.isFn K (.ref f)=true
 kp:PySem.W.keepIn K (.ref f)=true
section
variable {X:Cx} {j0:List (Addr × Obj)} {σ:St} {H:Hp} {s:Shared} {a C dx:Addr} {fs:List (Str × V)} {f:Str} {v:V} {A:Around} {E:Value->Shared->Prop}
def Zdm (I:Inv X j0 σ H s) (e:H a=some (.ins C dx fs)) (c:Cls X.K C) (n:Yr X.K C f) (l:fs.lookup f=some v)
  (h:∀ u s',Inv X j0 σ H s'->RelV v u->Q u s'):wpAny (model X.prog X.w) A (getAttr (.ref a) f b) Q E s:=by
 obtain ⟨mA,O,r,_,_,_⟩:=Ku I.hok e;obtain ⟨u,hu,ru⟩:=RelO.some_of (v:=v) (o:=mA f) (by rw [<- l]; exact r f);exact Zh7 I.kIn O (c.get f) c.hd n hu (Ze4 ru) (h u _ (I.tok _) ru)
def Jj (I:Inv X j0 σ H s) (e:H a=some (.ins C dx fs)) (c:Cls X.K C) (k:Meth X.K C m g) (l:fs.lookup m=none)
  (h:Q (.ref g,[.ref a]) s):wpAny (model X.prog X.w) A (getMethod (.ref a) m pl) Q E s:=by
 obtain ⟨mA,O,r,_,_,_⟩:=Ku I.hok e;have hn:mA m=none:=RelO.none_of (by rw [<- l]; exact r m);exact Zgi I.kIn O (c.get m) k.at_ k.fn hn h
def Od (I:Inv X j0 σ H s) (e:H a=some (.ins C dx fs)) (c:Cls X.K C) (n:Yr X.K C f) (hl:fs.length < 1000) (ry:RelV y u)
  (h:∀ s',Inv X j0 σ (upd H a (.ins C dx (putF f y fs))) s'->Q () s'):wpAny (model X.prog X.w) A (setAttr (.ref a) f u) Q E s:=by
 obtain ⟨mA,O,r,wi,_,ho⟩:=Ku I.hok e;have hz:(fs.map (·.1)).length<=sizeLine:=by rw [Ab,sizeLine_eq]; lia
 refine Zhk I.kIn O c.sa c.po n.taker c.hd wi hz λh' O' sb=>h _ ?_;have hd:∃ o,h'.get? dx=some o:=let ⟨o,_,_,e',_⟩:=O'.ns; ⟨o,e'⟩
 refine I.write (x:=a) (e:=dx) (by rw [e]; exact True.intro) (.inr ho) (λb q hb z=>(sb.2 b hb).trans z) hd ?_;refine ⟨by rw [Ze O.ne]; exact ho,?_,O.ne,O'.obj,_,O'.ns,λg=>?_,λg hg=>?_⟩
 ·have:=Us f y fs; lia
 ·show RelO ((putF f y fs).lookup g) (if g=f then some u else mA g)
  rw [Zz];by_cases q:g=f
  ·rw [if_pos q,if_pos q]; exact ry
  ·rw [if_neg q,if_neg q]; exact r g
 ·by_cases q:g=f
  ·rw [q]; exact (Vy f y fs).1
  ·refine (Vy f y fs).2 g (wi g λz=>hg ?_)
   show (if g=f then some u else mA g)=none;rw [if_neg q]; exact z
def Inv.made (I:Inv X j0 σ H s):Inv X j0 σ (upd (upd H s.heap.objs.size (.own (s.heap.objs.size + 1))) (s.heap.objs.size + 1) (.ins C s.heap.objs.size []))
  { s with heap:=(s.heap.push PySem.W.emptyDict).push (PySem.W.instObj C s.heap.objs.size) }:=by
 have e1:(s.heap.push PySem.W.emptyDict).get? s.heap.objs.size=some PySem.W.emptyDict:=Ap s.heap rfl;have e2:((s.heap.push PySem.W.emptyDict).push (PySem.W.instObj C s.heap.objs.size)).get? (s.heap.objs.size + 1)=some (PySem.W.instObj C s.heap.objs.size):=by
  have:=Ap (s.heap.push PySem.W.emptyDict) (o:=PySem.W.instObj C s.heap.objs.size) rfl
  rwa [Heap.size_push] at this
 have e3:(s.heap.push PySem.W.emptyDict).Ns s.heap.objs.size (λ_=>none):=⟨PySem.W.emptyDict,#[],_,e1,rfl,(λe he=>absurd he (by simp)),λ_=>rfl⟩;have I1:=I.laid (a:=s.heap.objs.size) (o:=.own (s.heap.objs.size + 1)) (h':=s.heap.push PySem.W.emptyDict) (t':=s.toks) (λb u q=>Ak _ q) (An _) ⟨_,e1⟩;refine I1.laid (a:=s.heap.objs.size + 1) (o:=.ins C s.heap.objs.size []) (t':=s.toks) (λb u q=>Ak _ q) (Nat.le_of_eq (Heap.size_push _ _)) ?_;have ne:s.heap.objs.size≠s.heap.objs.size + 1:=As (Nat.lt_succ_self _);refine ⟨by rw [Ze ne,Zb],Az _,ne,e2,λ_=>none,(Heap.Ns1.of_empty e3).at λo q=>Ak _ q,λ_=>True.intro,λy hy=>absurd Z hy⟩
def Zid (hb:attributeBase e f env (eval e env)=eval e env)
  (h:wpAny (model prog w) A (eval e env) (λo s₁=>wpAny (model prog w) A (getAttr o f true) Q E s₁) E s):wpAny (model prog w) A (eval (.Attribute e f pos) env) Q E s :=
 Attribute_any_ h (by rw [arm_eval_Attribute,hb])
end
def tFld (K:W.Frag) (ta:TE) (f:Str):TE:=λσ H Q=>ta σ H λx H1=>∃ a C dx fs v,x=.ref a/\H1 a=some (.ins C dx fs)/\Cls K C/\Yr K C f/\fs.lookup f=some v/\Q v H1
def sFld (K:W.Frag) (ta tv:TE) (f:Str):TS:=λD σ H=>tv σ H λy H1=>ta σ H1 λx H2=>∃ a C dx fs,x=.ref a/\H2 a=some (.ins C dx fs)/\Cls K C/\Yr K C f/\fs.length < 1000 /\
 D.nx σ (upd H2 a (.ins C dx (putF f y fs)))
section
variable {X:Cx} {o e value:Expr} {f:Str} {pos km oj:Pos} {ta tv:TE}
def Z6 (he:PE X e ta) (hb:attributeBase e f X.env (eval e X.env)=eval e X.env):PE X (.Attribute e f pos) (tFld X.K ta f):=by
 intro j0 s σ H Q I h;refine Zid hb (thn (he j0 s σ H _ I h) λu s1 j2=>?_);obtain ⟨x,H1,I1,rx,a,C,dx,fs,v,ex,ea,c,n,l,q⟩:=j2;subst ex;obtain rfl:u=Value.ref a:=rx;exact Zdm I1 ea c n l λu' s2 I2 ru=>⟨v,H1,I2,ru,q⟩
def Yx (ha:PE X o ta) (hv:PE X value tv) (hs:swapsWith value (some (.Attribute o f km)) pos.line X.env=pure false):PS X (.Assign [.Attribute o f km] value pos) (sFld X.K ta tv f):=by
 intro j0 s σ H D I h;refine plainObj_wpAny_Assign_Attribute (thn (hv j0 s σ H _ I h) λu s1 j2=>?_) hs;obtain ⟨y,H1,I1,ry,q⟩:=j2;refine thn (ha j0 s1 σ H1 _ I1 q) λov s2 zz10=>?_;obtain ⟨x,H2,I2,rx,a,C,dx,fs,ex,ea,c,n,l,q2⟩:=zz10;subst ex;obtain rfl:ov=Value.ref a:=rx;exact Od I2 ea c n l ry λs3 I3=>⟨σ,_,I3,q2⟩
end
structure Room (k:Nat) (A:Around):Prop where
 hd:A.handled=none
 dp:A.depth + 3 * k + 5 < recursionLimit
 un:A.units + 16 * k + 200 < cLine
def Room.mono (r:Room k A) (h:j<=k):Room j A:=⟨r.hd,by have:=r.dp; lia,by have:=r.un; lia⟩
def Room.deeper {A:Around} (r:Room (k + 1) A) (env:Env):Room k (A.deeper env) :=
 ⟨r.hd,by have:=r.dp; show A.depth + 1 + 3 * k + 5 < _; lia,by have:=r.un; show A.units + 3 + 16 * k + 200 < _; lia⟩
def Zdk {A:Around} {us:List Value} {kw:List (Str × Value)}:(A.under (.builtin "type.__call__" ⟨.ref C :: us,kw⟩)).depth=A.depth + 1:=by
 first | rfl | simp [Around.under,Code.weight,Code.isCreation,Code.isGuard,Code.isCaller,Code.frames,Code.isFrame,guardIds]
def Zdj {A:Around} {us:List Value} {kw:List (Str × Value)}:(A.under (.builtin "type.__call__" ⟨.ref C :: us,kw⟩)).units=A.units + 1:=by
 first | rfl | simp [Around.under,Code.cUnits,Code.frames,Code.isFrame]
def Room.make {A:Around} (r:Room (k + 1) A) (C:Addr) (us:List Value) (kw:List (Str × Value)):Room k (A.under (.builtin "type.__call__" ⟨.ref C :: us,kw⟩)) :=
 ⟨r.hd,by have:=r.dp; rw [Zdk]; lia,by have:=r.un; rw [Zdj]; lia⟩
def Room.depth {A:Around} (r:Room k A):A.depth < recursionLimit:=by have:=r.dp; lia
def Room.units {A:Around} (r:Room k A):A.units + 64 < cLine:=by have:=r.un; lia
def tNil:TA:=λ_ H Q=>Q [] H
def Zjx (ta:TE) (tr:TA):TA:=λσ H Q=>ta σ H λx H1=>tr σ H1 λxs H2=>Q (x :: xs) H2
section
variable {X:Cx} {e:Expr} {es:List Expr} {te:TE} {t:TA} {pos:Pos}
def Zc:PA X [] tNil:=λ_ _ _ _ H Q I h=>Calls.spliced_nil ⟨[],H,I,.nil,h⟩
def Za (ha:PE X e te) (hr:PA X es t) (hs:starEach (e :: es) X.env=(false,eval e X.env) :: starEach es X.env:=by rfl):PA X (e :: es) (Zjx te t):=by
 intro pos j0 s σ H Q I h;rw [hs];show wpAny _ _ (spliced ((false,eval e X.env) :: backTo pos (starEach es X.env))) _ _ s;refine Calls.spliced_cons (thn (ha j0 s σ H _ I h) λu s1 j2=>?_);obtain ⟨x,H1,I1,r1,q1⟩:=j2;refine thn (hr pos j0 s1 σ H1 _ I1 q1) λus s2 zz11=>?_;obtain ⟨xs,H2,I2,r2,q2⟩:=zz11;exact ⟨x :: xs,H2,I2,.cons r1 r2,q2⟩
def tTup (t:TA):TE:=λσ H Q=>t σ H λxs H1=>xs.length<=sizeLine/\∀ p,H1 p=none->Q (.ref p) (upd H1 p (.tup xs))
def tLst (t:TA):TE:=λσ H Q=>t σ H λxs H1=>xs.length<=sizeLine/\∀ p,H1 p=none->Q (.ref p) (upd H1 p (.lst xs))
def Wo {x1} (h:PA X es t):PE X (.Tuple es x1 pos) (tTup t):=by
 intro j0 s σ H Q I hq;refine wpAny_Tuple_spliced (thn (h pos j0 s σ H _ I hq) λus s1 qo=>?_);obtain ⟨xs,H1,I1,r,z,q⟩:=qo;refine ⟨by rw [<- r.length]; exact z,?_⟩;have hf:H1 s1.heap.objs.size=none:=I1.hok.fresh (An _);refine ⟨.ref s1.heap.objs.size,upd H1 s1.heap.objs.size (.tup xs),I1.laid (t':=s1.toks) (λb u e=>Ak _ e) (An _) ?_,Z,q _ hf⟩;exact ⟨z,us,r,⟨_,Ap _ Z,Z,_,Z⟩⟩
def Ya (h:PA X es t):PE X (.List es pos) (tLst t):=by
 intro j0 s σ H Q I hq;refine wpAny_List_spliced (thn (h pos j0 s σ H _ I hq) λus s1 qo=>?_);obtain ⟨xs,H1,I1,r,z,q⟩:=qo;refine ⟨by rw [<- r.length]; exact z,?_⟩;have hf:H1 s1.heap.objs.size=none:=I1.hok.fresh (An _);refine ⟨.ref s1.heap.objs.size,upd H1 s1.heap.objs.size (.lst xs),I1.laid (t':=s1.toks) (λb u e=>Ak _ e) (An _) ?_,Z,q _ hf⟩;exact ⟨z,us,0,r,Ap _ Z⟩
end
abbrev Sp:=List V->Hp->VK->XK->Prop
abbrev CXT:=List Env->Hp->Shared->XK->Value->Shared->Prop
structure Env0 (P:Program) (w:World) (K:W.Frag) (mg:Str->Option Value) (base:Heap) (A:Around) (outer:List Env) (s:Shared) (H:Hp):Prop where
 frames:A.frames=some outer
 mod:Mod K mg base
 bs:∀ b o,base.get? b=some o->s.heap.get? b=some o/\H b=none
 bsz:base.objs.size<=s.heap.objs.size
 funs:s.heap.FunFrames base outer
 frf:∀ b∈frs outer,H b=none
 hok:HOk P w H s.heap
 bare:AllBare s.gens
def CE (outer:List Env) (P:Program) (w:World) (H:Hp) (s:Shared) (Q:VK) (u:Value) (s':Shared):Prop :=
 ∃ v H',s'.os=s.os/\AllBare s'.gens/\Un (frs outer) [] H H' s.heap s'.heap/\HOk P w H' s'.heap/\RelV v u/\Q v H'
def CR (CX:CXT) (outer:List Env) (P:Program) (w:World) (H:Hp) (s:Shared) (Q:VK) (E:XK) (r:Result) (s':Shared):Prop :=
 match r with
 | .ok (.ret u)=>CE outer P w H s Q u s'
 | .ok _=>False
 | .error e=>CX outer H s E e s'
structure FnOk (P:Program) (w:World) (K:W.Frag) (mg:Str->Option Value) (base:Heap) (CX:CXT) (k:Nat) (f:Addr) (fd:FuncData) (ps:List Str) (sp:Sp):Prop where
 len:∀ vs H Q E,sp vs H Q E->vs.length=ps.length
 run:∀ (A:Around) (outer:List Env) (s:Shared) (H:Hp) (args:Args) (us:List Value) (vs:List V) (Q:VK) (E:XK),Room k A->Env0 P w K mg base A outer s H->BindsTo s fd args (ps.zip us)->Vals vs us->sp vs H Q E ->
  codeAny (model P w) A (.call (.ref f) args) (CR CX outer P w H s Q E) s
def Env0.make {P:Program} {w:World} {K:W.Frag} {mg:Str->Option Value} {base:Heap} {A:Around} {outer:List Env} {s:Shared} {H:Hp} (e:Env0 P w K mg base A outer s H) (C:Addr) (us:List Value) (kw:List (Str × Value)) :
  Env0 P w K mg base (A.under (.builtin "type.__call__" ⟨.ref C :: us,kw⟩)) outer s H:=⟨by first | exact e.frames | (simpa [Around.under,Code.envs,Code.isFrame,pushEnvs] using e.frames),e.mod,e.bs,e.bsz,e.funs,e.frf,e.hok,e.bare⟩
section
variable {X:Cx} {j0:List (Addr × Obj)} {σ:St} {H:Hp} {s s':Shared}
def Inv.env0 (I:Inv X j0 σ H s):Env0 X.prog X.w X.K X.mg X.base X.A X.stack s H :=
 ⟨I.ok.frames,I.ok.mod,I.bs,Nat.le_trans I.ok.bsz I.sz,I.stack,I.stkFree,I.hok,I.bare⟩
def Inv.after (I:Inv X j0 σ H s) (h:CE X.stack X.prog X.w H s Q u s'):EP X j0 σ Q u s':=by
 obtain ⟨v,H',os,bare,un,hok,r,q⟩:=h;obtain ⟨hh,g,d,t,os'⟩:=s';obtain rfl:os'=s.os:=os;exact ⟨v,H',I.call (h':=hh) (g':=g) (d':=d) (t':=t) (ch:=[]) un hok bare (λb z=>absurd z (by simp)),r,q⟩
end
def Zgv (sp:Sp) (j8:List V) (E:XK) (t:TA):TE:=λσ H Q=>t σ H λvs H1=>sp (vs ++ j8) H1 Q E
def Zgr (C:Addr) (m:Str) (sp:Sp) (j8:List V) (E:XK) (ta:TE) (t:TA):TE:=λσ H Q=>ta σ H λx H1=>∃ a dx fs,x=.ref a/\H1 a=some (.ins C dx fs)/\fs.lookup m=none /\
 t σ H1 λvs H2=>sp (x :: (vs ++ j8)) H2 Q E
def Zju (C:Addr) (sp:Sp) (j8:List V) (E:XK) (t:TA):TE:=λσ H Q=>t σ H λvs H1=>∀ x dx,H1 x=none->H1 dx=none->dx≠x ->
 sp (.ref x :: (vs ++ j8)) (upd (upd H1 dx (.own x)) x (.ins C dx [])) (λv H2=>v=.non/\Q (.ref x) H2) E
def Xb (K:W.Frag) (fd:FuncData) (ps:List Str) (ds:List Value):Prop :=
 ∀ (s:Shared) (us:List Value),K.In s.heap->(us ++ ds).length=ps.length->BindsTo s fd ⟨us,[]⟩ (ps.zip (us ++ ds))
def Xb.all {K:W.Frag} {fd:FuncData} {ps:List Str} (h:∀ us:List Value,us.length=ps.length->bindArgs fd ⟨us,[]⟩=pure (ps.zip us)):Xb K fd ps []:=λs us _ hl=>by
 rw [List.append_nil] at hl ⊢;exact .of_eq (h us hl)
def Jx (CX:CXT) (X:Cx) (E:XK):Prop:=∀ (j0:List (Addr × Obj)) (σ:St) (H:Hp) (s:Shared) (e:Value) (s':Shared),Inv X j0 σ H s->CX X.stack H s E e s'->X.xe e s'
section
variable {X:Cx} {CX:CXT} {k:Nat} {f C:Addr} {fd:FuncData} {ps:List Str} {sp:Sp} {j8:List V} {ds:List Value} {E:XK} {x m:Str} {p pos j7:Pos} {e o:Expr} {es:List Expr} {ta:TE} {t:TA}
def Zaf (F:FnOk X.prog X.w X.K X.mg X.base CX k f fd ps sp) (hr:Room k X.A) (hb:Xb X.K fd ps ds) (hd:Vals j8 ds) (hx:Jx CX X E)
  (I:Inv X j0 σ H s) (r:Vals vs us) (h:sp (vs ++ j8) H Q E):wpAny (model X.prog X.w) X.A (call (.ref f) us) (EP X j0 σ Q) X.xe s:=by
 have r2:Vals (vs ++ j8) (us ++ ds):=r.append hd;have hl:(us ++ ds).length=ps.length:=by rw [<- r2.length]; exact F.len _ _ _ _ h
 refine wpAny_call (codeAny_mono (F.run X.A X.stack s H ⟨us,[]⟩ (us ++ ds) (vs ++ j8) Q E hr I.env0 (hb s us I.kIn hl) r2 h) λr s' hq=>?_)
 cases r with
 | error e=>exact hx j0 σ H s e s' I hq
 | ok fl =>
  cases fl with
  | ret u=>exact I.after hq
  | next=>exact False.elim hq
  | brk=>exact False.elim hq
  | cont=>exact False.elim hq
def Zhx (F:FnOk X.prog X.w X.K X.mg X.base CX k f fd ps sp) (hr:Room k X.A) (hg:Gl X x) (hm:X.mg x=some (.ref f)) (hk:PySem.W.keepIn X.K (.ref f)=true) (hb:Xb X.K fd ps ds) (hd:Vals j8 ds) (hx:Jx CX X E)
  (ha:PA X (e :: es) t) (lf:(x == ("__debug__":Str))=false:=by decide) (he:starEach (e :: es) X.env=(false,eval e X.env) :: starEach es X.env:=by rfl) (kz:(backTo pos (starEach es X.env)).any (·.1)=false:=by rfl) :
  PE X (.Call (.Name x p) (e :: es) [] pos) (Zgv sp j8 E t):=by
 intro j0 s σ H Q I h;refine wpAny_Call_Name_kw (Wl I hg hm ?_ lf);refine PySem.W.callWith_K (h₀:=X.base) I.ok.mod.kin hk (thn (ha pos j0 s σ H _ I h) λus s1 zz12=>?_) he kz;obtain ⟨vs,H1,I1,r,q⟩:=zz12;refine ⟨I1.kIn,?_⟩;exact Zaf F hr hb hd hx I1 r q
def Ww {pl:Sem Bool} (he:PE X o ta) (c:Cls X.K C) (hm:Meth X.K C m f) (F:FnOk X.prog X.w X.K X.mg X.base CX k f fd ps sp) (hr:Room k X.A) (hb:Xb X.K fd ps ds) (hd:Vals j8 ds) (hx:Jx CX X E) (ha:PA X (e :: es) t)
  (ll:starEach (e :: es) X.env=(false,eval e X.env) :: starEach es X.env:=by rfl) (kz:(backTo pos (starEach es X.env)).any (·.1)=false:=by rfl)
  (ht:eval (.Call (.Attribute o m j7) (e :: es) [] pos) X.env=(do
   let ov <- eval o X.env
   standAt j7.atName
   let (f,first) <- holding [ov] (getMethod ov m pl)
   callWith pos f first (backTo pos (starEach (e :: es) X.env)) (backToKw pos (keywordEach [] X.env))):=by rfl) :
  PE X (.Call (.Attribute o m j7) (e :: es) [] pos) (Zgr C m sp j8 E ta t):=by
 intro j0 s σ H Q I h;refine PySem.W.methodCall_KW (pl:=pl) (thn (he j0 s σ H _ I h) λu s1 zz13=>?_) ht;obtain ⟨x,H1,I1,rx,a,dx,fs,ex,ea,l,q⟩:=zz13;subst ex;obtain rfl:u=Value.ref a:=rx;refine Jj I1 ea c hm l ?_;refine PySem.W.callWith_K (first:=[.ref a]) (h₀:=X.base) I.ok.mod.kin hm.kp (thn (ha pos j0 s1 σ H1 _ I1 q) λus s2 zz14=>?_) ll kz;obtain ⟨vs,H2,I2,r,q2⟩:=zz14;refine ⟨I2.kIn,?_⟩;exact Zaf (us:=.ref a :: us) (vs:=.ref a :: vs) F hr hb hd hx I2 (.cons Z r) q2
def Zf2 {pl:Sem Bool} (he:PE X o ta) (c:Cls X.K C) (hm:Meth X.K C m f) (F:FnOk X.prog X.w X.K X.mg X.base CX k f fd ps sp) (hr:Room k X.A) (hb:Xb X.K fd ps ds) (hd:Vals j8 ds) (hx:Jx CX X E)
  (ht:eval (.Call (.Attribute o m j7) [] [] pos) X.env=(do
   let ov <- eval o X.env
   standAt j7.atName
   let (f,first) <- holding [ov] (getMethod ov m pl)
   callWith pos f first (backTo pos (starEach [] X.env)) (backToKw pos (keywordEach [] X.env))):=by rfl) :
  PE X (.Call (.Attribute o m j7) [] [] pos) (Zgr C m sp j8 E ta tNil):=by
 intro j0 s σ H Q I h;refine PySem.W.methodCall_KW (pl:=pl) (thn (he j0 s σ H _ I h) λu s1 zz15=>?_) ht;obtain ⟨x,H1,I1,rx,a,dx,fs,ex,ea,l,q⟩:=zz15;subst ex;obtain rfl:u=Value.ref a:=rx;refine Jj I1 ea c hm l ?_;exact PySem.W.callWith_K0 (first:=[.ref a]) I1.kIn hm.kp (Zaf (us:=[.ref a]) (vs:=[.ref a]) F hr hb hd hx I1 (.cons Z .nil) q)
structure Mk (K:W.Frag) (C f:Addr):Prop where
 makes:PySem.W.makesIn K C=true
 init:PySem.W.findIn K (.ref C) "__init__"=some (some (.ref f))
 fn:PySem.W.isFn K (.ref f)=true
 kp:PySem.W.keepIn K (.ref C)=true
def Zfu (M:Mk X.K C f) (F:FnOk X.prog X.w X.K X.mg X.base CX k f fd ps sp) (hr:Room (k + 1) X.A) (hb:Xb X.K fd ps ds) (hd:Vals j8 ds)
  (hx:Jx CX X E) (I:Inv X j0 σ H s) (r:Vals vs us)
  (h:∀ x dx,H x=none->H dx=none->dx≠x->sp (.ref x :: (vs ++ j8)) (upd (upd H dx (.own x)) x (.ins C dx [])) (λv H2=>v=.non/\Q (.ref x) H2) E) :
  wpAny (model X.prog X.w) X.A (call (.ref C) us) (EP X j0 σ Q) X.xe s:=by
 have hq:=h (s.heap.objs.size + 1) s.heap.objs.size (I.hok.fresh (Nat.le_succ _)) (I.hok.fresh (An _)) (As (Nat.lt_succ_self _));have I2:=Inv.made (C:=C) I;have r2:Vals (V.ref (s.heap.objs.size + 1) :: (vs ++ j8)) (Value.ref (s.heap.objs.size + 1) :: (us ++ ds)):=.cons rfl (r.append hd);have hl:(Value.ref (s.heap.objs.size + 1) :: us ++ ds).length=ps.length:=by
  have e:=r2.length
  rw [F.len _ _ _ _ hq] at e
  exact e.symm
 refine wpAny_call (Za1 (f:=f) I.kIn M.makes M.init (beq_iff_eq.mp M.fn) (codeAny_mono (F.run _ X.stack _ _ ⟨Value.ref (s.heap.objs.size + 1) :: us,[]⟩ (Value.ref (s.heap.objs.size + 1) :: (us ++ ds)) _ _ E (hr.make C us [])
  (I2.env0.make C us []) (hb _ (Value.ref (s.heap.objs.size + 1) :: us) I2.kIn hl) r2 hq) λr s' l7=>?_))
 cases r with
 | error e=>exact hx j0 σ _ _ e s' I2 l7
 | ok fl =>
  cases fl with
  | ret u =>
   obtain ⟨v,H',I3,rv,ev,q3⟩:=I2.after l7;subst ev;exact ⟨rv,⟨V.ref (s.heap.objs.size + 1),H',I3,Z,q3⟩⟩
  | next=>exact False.elim l7
  | brk=>exact False.elim l7
  | cont=>exact False.elim l7
def Kp (M:Mk X.K C f) (F:FnOk X.prog X.w X.K X.mg X.base CX k f fd ps sp) (hr:Room (k + 1) X.A) (hg:Gl X x) (hm:X.mg x=some (.ref C)) (hb:Xb X.K fd ps ds) (hd:Vals j8 ds) (hx:Jx CX X E)
  (ha:PA X (e :: es) t) (lf:(x == ("__debug__":Str))=false:=by decide) (he:starEach (e :: es) X.env=(false,eval e X.env) :: starEach es X.env:=by rfl) (kz:(backTo pos (starEach es X.env)).any (·.1)=false:=by rfl) :
  PE X (.Call (.Name x p) (e :: es) [] pos) (Zju C sp j8 E t):=by
 intro j0 s σ H Q I h;refine wpAny_Call_Name_kw (Wl I hg hm ?_ lf);refine PySem.W.callWith_K (h₀:=X.base) I.ok.mod.kin M.kp (thn (ha pos j0 s σ H _ I h) λus s1 zz16=>?_) he kz;obtain ⟨vs,H1,I1,r,q⟩:=zz16;refine ⟨I1.kIn,?_⟩;exact Zfu M F hr hb hd hx I1 r q
end
structure FnScope (N P:List Str) (sc:Scope):Prop where
 kind:sc.kind=.function
 co:sc.isCoroutine=false
 gen:sc.isGenerator=false
 nd:N.Nodup
 pre:N.take P.length=P
 par:∀ x∈P,sc.names.lookup x=some .local\/sc.names.lookup x=some .cell
 nofree:∀ y∈sc.names,y.2≠.free
def Am{N P:List Str}{sc:Scope}(a:sc.kind=.function:=by rfl)(b:sc.isCoroutine=false:=by rfl)(c:sc.isGenerator=false:=by rfl)(d:N.Nodup:=by decide +kernel)(e:N.take P.length=P:=by rfl)(f:∀ x∈P,sc.names.lookup x=some .local\/sc.names.lookup x=some .cell:=by decide +kernel)(g:∀ y∈sc.names,y.2≠.free:=by decide +kernel):FnScope N P sc:=⟨a,b,c,d,e,f,g⟩
theorem Gk {kindOf:Str->Option NameKind} {x:Str}:∀ {binds:List (Str × Value)} {m:Str->Option Value},(∀ v,(x,v) ∉ binds)->bindL kindOf binds m x=m x
 | [],_,_=>rfl
 | (n,v) :: r,m,h=>by
  unfold bindL;rw [Gk λw hw=>h w (List.mem_cons_of_mem _ hw)];split
  ·have:x≠n:=by rintro rfl; exact h v List.mem_cons_self
   simp [this]
  ·rfl
theorem Gn {kindOf:Str->Option NameKind} {x:Str}:∀ {binds:List (Str × Value)} {m:Str->Option Value},(∀ v,(x,v) ∉ binds)->bindC kindOf binds m x=m x
 | [],_,_=>rfl
 | (n,v) :: r,m,h=>by
  unfold bindC;rw [Gn λw hw=>h w (List.mem_cons_of_mem _ hw)];split
  ·rfl
  ·have:x≠n:=by rintro rfl; exact h v List.mem_cons_self
   simp [this]
theorem Gm {kindOf:Str->Option NameKind} {x:Str} {v:Value}:∀ {P:List Str} {vs:List Value} {i:Nat} {m:Str->Option Value},P.Nodup->P[i]?=some x->vs[i]?=some v->kindOf x=some .local ->
  bindL kindOf (P.zip vs) m x=some v
 | [],_,_,_,_,h,_,_=>by simp at h
 | _ :: _,[],_,_,_,_,h,_=>by simp at h
 | p :: P,w :: vs,0,m,nd,h1,h2,hk=>by
  simp at h1 h2; subst h1; subst h2;show bindL kindOf ((p,w) :: P.zip vs) m p=_;unfold bindL;rw [Gk λv hv=>(List.nodup_cons.mp nd).1 (List.of_mem_zip hv).1,if_pos hk];simp
 | p :: P,w :: vs,i + 1,m,nd,h1,h2,hk=>by
  show bindL kindOf ((p,w) :: P.zip vs) m x=_;unfold bindL;exact Gm (i:=i) (List.nodup_cons.mp nd).2 (by simpa using h1) (by simpa using h2) hk
theorem Go {kindOf:Str->Option NameKind} {x:Str} {v:Value}:∀ {P:List Str} {vs:List Value} {i:Nat} {m:Str->Option Value},P.Nodup->P[i]?=some x->vs[i]?=some v->kindOf x≠some .local ->
  bindC kindOf (P.zip vs) m x=some v
 | [],_,_,_,_,h,_,_=>by simp at h
 | _ :: _,[],_,_,_,_,h,_=>by simp at h
 | p :: P,w :: vs,0,m,nd,h1,h2,hk=>by
  simp at h1 h2; subst h1; subst h2;show bindC kindOf ((p,w) :: P.zip vs) m p=_;unfold bindC;rw [Gn λv hv=>(List.nodup_cons.mp nd).1 (List.of_mem_zip hv).1,if_neg hk];simp
 | p :: P,w :: vs,i + 1,m,nd,h1,h2,hk=>by
  show bindC kindOf ((p,w) :: P.zip vs) m x=_;unfold bindC;exact Go (i:=i) (List.nodup_cons.mp nd).2 (by simpa using h1) (by simpa using h2) hk
def start (N:List Str) (vs:List V):St:=vs.map some ++ List.replicate (N.length - vs.length) none
def cxOf (CX:CXT) (P:Program) (w:World) (K:W.Frag) (mg:Str->Option Value) (base:Heap) (N:List Str) (qual:Str) (scope:Scope) (f:Addr) (cd:Value) (A:Around) (outer:List Env) (s:Shared) (H:Hp) (E:XK):Cx where
 prog:=P
 w:=w
 K:=K
 mg:=mg
 base:=base
 A:=A.deeper (envOfC qual scope s.heap.objs.size f cd)
 N:=N
 s₀:=s
 H₀:=H
 env:=envOfC qual scope s.heap.objs.size f cd
 outer:=outer
 stack:=envOfC qual scope s.heap.objs.size f cd :: outer
 ex:=[]
 calm:=true
 fn:=λ_=>true
 pn:=[]
 xe:=λe s'=>wpAny (model P w) (A.deeper (envOfC qual scope s.heap.objs.size f cd)) (leaving (envOfC qual scope s.heap.objs.size f cd) e) (λ_ lw=>CX outer H s E e lw) (λe' lw=>CX outer H s E e' lw) s'
def Zbb {sc:Scope} (h:sc.names.lookup x=some .cell):∃ c,(cellsFrom n sc.names []).lookup x=some c:=by
 have q:=PySem.W.cellsFrom_some sc.names n [] (.inl h);exact Option.isSome_iff_exists.mp q
def Ze2 {CX:CXT} {P:Program} {w:World} {K:W.Frag} {mg:Str->Option Value} {base:Heap} {N ps:List Str} {qual:Str} {scope:Scope} {f:Addr} {cd:Value} {A:Around} {outer:List Env} {s s1:Shared} {H:Hp} {E:XK} {us:List Value} {vs:List V}
  (S:FnScope N ps scope) (hd:A.handled=none) (e0:Env0 P w K mg base A outer s H) (hl:vs.length=ps.length) (r:Vals vs us)
  (x:InCallC s s.heap.objs.size (bindL (envOfC qual scope s.heap.objs.size f cd).kindOf (ps.zip us) λ_=>none) (cellsFrom (s.heap.objs.size + 1) scope.names []) (bindC (envOfC qual scope s.heap.objs.size f cd).kindOf (ps.zip us) λ_=>none) s1) :
  Inv (cxOf CX P w K mg base N qual scope f cd A outer s H E) [] (start N vs) H s1:=by
 have kz:ps.length<=N.length:=by have:=congrArg List.length S.pre; rw [Ai] at this; lia
 obtain ⟨h1,tk,rfl,hk⟩:=x.done;have uy:∀ b:Addr,b ∉ (cxOf CX P w K mg base N qual scope f cd A outer s H E).ex:=λb z=>absurd (show b∈([]:List Addr) from z) (by simp);refine ⟨⟨e0.mod,S.kind,Z,Z,An _,λy z c h1 h2=>?_,λy hy=>?_,λy c _ h=>?_,λ_=>hd,Around.frames_deeper e0.frames,.inr ⟨Z,Z⟩,λb z=>absurd z (uy b),e0.bs,e0.bsz,λb _ _=>uy b,λb z=>absurd z (uy b),e0.funs,e0.frf⟩,
  rfl,e0.bare,Un.kept hk,⟨_,x.toInCall.ns,λi y v h1 h2 h3=>?_⟩,λy c h=>⟨_,x.cell y c h⟩,e0.hok.fresh (An _),λy c h=>?_,λp hp=>absurd (show p∈([]:List (Addr × Obj)) from hp) (by simp),e0.hok.kept hk,?_⟩
 ·exact name_of_addr x.apart (PySem.mem_of_lookup h1) (PySem.mem_of_lookup h2)
 ·have hy:scope.names.lookup y=some .cell\/scope.names.lookup y=some .free:=hy
  rcases hy with hy | hy
  ·exact Zbb hy
  ·exact absurd Z (S.nofree _ (PySem.mem_of_lookup hy))
 ·exact Nat.le_of_lt (x.above y c (PySem.mem_of_lookup h))
 ·have hi:i < vs.length:=by
   unfold start at h2;by_cases hi:i < vs.length
   ·exact hi
   ·rw [List.getElem?_append_right (by simpa using hi)] at h2
    rw [List.getElem?_replicate] at h2;split at h2 <;> cases h2
  have ha:vs[i]?=some v:=by
   unfold start at h2;rw [Av (by simpa using hi),Ah] at h2
   cases e:vs[i]? with
   | none=>rw [e] at h2; cases h2
   | some a=>rw [e] at h2; cases h2; rfl
  obtain ⟨u,hu,rv⟩:=r.get ha;have hp:ps[i]?=some y:=by
   rw [<- S.pre,List.getElem?_take_of_lt (by lia)]; exact h1
  have ndP:ps.Nodup:=by rw [<- S.pre]; exact S.nd.sublist (List.take_sublist _ _)
  refine ⟨u,rv,?_⟩
  rcases S.par y (Au hp) with k | k
  ·exact .inl ⟨k,Gm ndP hp hu k⟩
  ·obtain ⟨c,e⟩:=Zbb (n:=s.heap.objs.size + 1) k
   refine .inr ⟨.inl k,c,e,?_⟩;have q:=x.cell y c e;rw [Go ndP hp hu (by show scope.names.lookup y≠_; rw [k]; decide)] at q;exact q
 ·exact e0.hok.fresh (Nat.le_of_lt (x.above y c (PySem.mem_of_lookup h)))
 ·unfold start
  show _=N.length;rw [Ae,Ab,List.length_replicate];lia
def Fd {CX:CXT} {P:Program} {w:World} {K:W.Frag} {mg:Str->Option Value} {base:Heap} {k:Nat} {f:Addr} {name qual:Str} {params:Arguments} {body:List Stmt} {scope:Scope} {dV kV ka pm j5 ct oc:Value} {an od:Option Addr}
  {n6:Array (Option Value)} {N ps:List Str} {sp:Sp} (lk:K.lookup f=some ⟨oc,od,.func (PySem.W.fnOf name qual params body scope dV kV ka pm an j5 ct),n6⟩) (ly:PySem.W.codeIn K j5 qual=true) (S:FnScope N ps scope)
  (len:∀ vs H Q E,sp vs H Q E->vs.length=ps.length)
  (kg:∀ (A:Around) (outer:List Env) (s:Shared) (H:Hp) (vs:List V) (Q:VK) (E:XK),Room k (A.deeper (envOfC qual scope s.heap.objs.size f j5))->sp vs H Q E ->
   ∃ t,PSs (cxOf CX P w K mg base N qual scope f j5 A outer s H E) body t/\t { nx:=λ_ H'=>Q .non H',rt:=Q } (start N vs) H) :
  FnOk P w K mg base CX (k + 1) f (PySem.W.fnOf name qual params body scope dV kV ka pm an j5 ct) ps sp:=by
 refine ⟨len,λA outer s H args us vs Q E hr e0 hb r k7=>?_⟩;have hl:=len _ _ _ _ k7;have KX:K.In s.heap:=e0.mod.kin.keeps λb o e=>(e0.bs b o e).1;have lim:s.heap.NoLimit:=e0.mod.nolimit.keeps λb o e=>(e0.bs b o e).1;have wt:∀ y∈ps.zip us,scope.names.lookup y.1=some .local\/(scope.names.lookup y.1=some .cell/\((cellsFrom (s.heap.objs.size + 1) scope.names []).lookup y.1).isSome=true):=λ⟨n,v⟩ hy=>by
  rcases S.par n (List.of_mem_zip hy).1 with q | q
  ·exact .inl q
  ·exact .inr ⟨q,PySem.W.cellsFrom_some _ _ _ (.inl q)⟩
 refine codeAny_call_function hr.depth (KX _ _ lk) Z S.co S.gen Z (PySem.W.codeRec_of KX ly) (hb _ _ _ _ ?_);refine wpAny_newFunctionEnv_cells S.kind wt λenv he s1 x=>?_;subst he;refine ⟨lim.keeps x.toInCall.keep,codeAny_func ?_⟩;obtain ⟨t,ht,hq⟩:=kg A outer s H vs Q E (hr.deeper _) k7;have I:Inv (cxOf CX P w K mg base N qual scope f j5 A outer s H E) [] (start N vs) H s1:=Ze2 S hr.hd e0 hl r x;refine wpAny_mono (ht [] s1 (start N vs) H _ I hq) (λfl s' hs=>?_) λe s' hs=>hs;have ki:∀ {σ':St} {H':Hp} {v:V} {u:Value},Inv (cxOf CX P w K mg base N qual scope f j5 A outer s H E) [] σ' H' s'->RelV v u->Q v H'->CE outer P w H s Q u s' :=
  λ{σ' H' v u} J rv q=>⟨v,H',J.os,J.bare,J.base,J.hok,rv,q⟩
 cases fl with
 | ret u =>
  obtain ⟨v,σ',H',J,rv,q⟩:=hs;exact ki J rv q
 | next =>
  obtain ⟨σ',H',J,q⟩:=hs;exact ki (v:=V.non) (u:=Value.none) J Z q
 | brk =>
  obtain ⟨_,_,_,q⟩:=hs;exact False.elim q
 | cont =>
  obtain ⟨_,_,_,q⟩:=hs;exact False.elim q
section
variable {X:Cx} {x:Str} {p pos:Pos} {e:Expr} {es:List Expr} {t:TA} {id T:String} {r:List V->Hp->VK->Prop}
def tCB (r:List V->Hp->VK->Prop) (t:TA):TE:=λσ H Q=>t σ H λvs H1=>r vs H1 Q
def Zp (hc:W9 X (.builtin id) r) (hg:Gl X x) (hm:X.mg x=none) (hv:bootBuiltins x=some (.builtin id)) (ha:PA X (e :: es) t) (hn:x≠"__name__":=by decide) (lf:(x == ("__debug__":Str))=false:=by decide)
  (he:starEach (e :: es) X.env=(false,eval e X.env) :: starEach es X.env:=by rfl) (kz:(backTo pos (starEach es X.env)).any (·.1)=false:=by rfl):PE X (.Call (.Name x p) (e :: es) [] pos) (tCB r t):=by
 intro j0 s σ H Q I h;refine wpAny_Call_Name_kw (Jv I hg hm hv ?_ hn lf);refine PyProof.Rows.callWith_builtin1 (thn (ha pos j0 s σ H _ I h) λus s1 zz17=>?_) he kz;obtain ⟨vs,H1,I1,r1,q1⟩:=zz17;exact hc j0 s1 σ H1 vs us Q I1 r1 q1
def J2 (hc:W9 X (.type T) r) (hg:Gl X x) (hm:X.mg x=none) (hv:bootBuiltins x=some (.type T)) (ha:PA X (e :: es) t) (hn:x≠"__name__":=by decide) (lf:(x == ("__debug__":Str))=false:=by decide)
  (he:starEach (e :: es) X.env=(false,eval e X.env) :: starEach es X.env:=by rfl) (kz:(backTo pos (starEach es X.env)).any (·.1)=false:=by rfl):PE X (.Call (.Name x p) (e :: es) [] pos) (tCB r t):=by
 intro j0 s σ H Q I h;refine wpAny_Call_Name_kw (Jv I hg hm hv ?_ hn lf);refine PyProof.Rows.callWith_type1 (thn (ha pos j0 s σ H _ I h) λus s1 zz18=>?_) he kz;obtain ⟨vs,H1,I1,r1,q1⟩:=zz18;exact hc j0 s1 σ H1 vs us Q I1 r1 q1
end
end L2
namespace HT
open PySem PyProof.Rows
section
variable {prog:Program} {w:World} {A:Around} {E:Value->Shared->Prop} {s:Shared}
def cat_tup {t b:Addr} {vs ws:List Value} {Q:Value->Shared->Prop} (ht:IsTup s.heap t vs.toArray) (hb:IsTup s.heap b ws.toArray) (hv:vs≠[])
  (h1:ws=[]->Q (.ref t) s) (h2:ws≠[]->Q (.ref s.heap.objs.size) { s with heap:=s.heap.push { cls:=.type "tuple",data:=.seq (vs ++ ws).toArray } })
  (hsz:vs.length + ws.length<=sizeLine):wpAny (model prog w) A (binaryOp .Add (.ref t) (.ref b)) Q E s:=by
 obtain ⟨⟨cls,dd,data,sl⟩,ho,hc,n,hd⟩:=id ht;obtain ⟨⟨cls2,dd2,data2,sl2⟩,lq,vn,n2,qj⟩:=id hb;simp only at hc hd vn qj;subst hc hd vn qj;have e:vs.toArray ++ ws.toArray=(vs ++ ws).toArray:=by simp
 by_cases hw:ws=[]
 ·exact concat_meets ⟨_,ho,Z⟩ ⟨_,lq,Z⟩ noFill_tuple_add seq_tuple_add PySem.F.slot_tuple_add PySem.F.entry_tuple_add (PySem.F.args_tuple_add_2 _ _)
   (tuple_addW1 t b vs.toArray ws.toArray n n2 dd dd2 sl sl2 (by simpa using hv) (by simp [hw])) ⟨ho,lq,h1 hw⟩
 ·refine concat_meets ⟨_,ho,Z⟩ ⟨_,lq,Z⟩ noFill_tuple_add seq_tuple_add PySem.F.slot_tuple_add PySem.F.entry_tuple_add (PySem.F.args_tuple_add_2 _ _)
   (tuple_addW2 t b vs.toArray ws.toArray n n2 dd dd2 sl sl2 (by simpa using hv) (by simpa using hw) (by rw [Aq,Aq]; exact hsz)) ⟨ho,lq,?_⟩
  rw [e];exact h2 hw
def sIx (n d:Nat):Option Int->Nat
 | none=>d
 | some v=>if v < 0 then (v + (n:Int)).toNat else min v.toNat n
def sIx_none (n d:Nat):sIx n d none=d:=rfl
def sIx_nat (n d k:Nat):sIx n d (some (k:Int))=min k n:=by
 show (if (k:Int) < 0 then ((k:Int) + (n:Int)).toNat else min (k:Int).toNat n)=min k n;rw [if_neg (by lia),Int.toNat_natCast]
end
end HT
namespace L2
open PySem PySem.Spec PyProof.Rows
abbrev TO:=St->Hp->(Option Int->Hp->Prop)->Prop
def PO (X:Cx) (e:Option Expr) (t:TO):Prop :=
 ∀ (j0:List (Addr × Obj)) (s:Shared) (σ:St) (H:Hp) (Q:Option Int->Hp->Prop),Inv X j0 σ H s->t σ H Q ->
  wpAny (model X.prog X.w) X.A (evalPart e X.env) (λu s'=>∃ o H',Inv X j0 σ H' s'/\IsPart u o/\Q o H') X.xe s
def Zg7:TO:=λ_ H Q=>Q none H
def Zjs (t:TE):TO:=λσ H Q=>t σ H λx H1=>∃ i,x=.int i/\Q (some i) H1
section
variable {X:Cx} {e:Expr} {te:TE} {lo hi:Option Expr} {tl th:TO} {pos p2:Pos}
def Wh:PO X none Zg7:=by
 intro j0 s σ H Q I h;rw [evalPart_none];exact wpAny_pure ⟨none,H,I,.none,h⟩
def Wg (h:PE X e te):PO X (some e) (Zjs te):=by
 intro j0 s σ H Q I hw;rw [evalPart_some];refine thn (h j0 s σ H _ I hw) λu s1 j2=>?_;obtain ⟨x,H1,I1,r1,q1⟩:=j2;obtain ⟨i,rfl,q⟩:=q1;obtain ⟨t,rfl⟩:=r1;exact ⟨some i,H1,I1,.int i t,q⟩
def SlR (X:Cx) (r:V->Option Int->Option Int->Hp->VK->Prop):Prop :=
 ∀ (j0:List (Addr × Obj)) (s:Shared) (σ:St) (H:Hp) (x:V) (v vl vu:Value) (lo hi:Option Int) (sl:Addr) (Q:VK),Inv X j0 σ H s->RelV x v->s.heap.IsSliceOf sl vl vu .none->IsPart vl lo->IsPart vu hi->r x lo hi H Q ->
  ∃ T id,typeLookup (.type T) "__getitem__"=pure (some (.builtin id))/\s.TypeIs v T/\wpAny (model X.prog X.w) X.A (getItem v (.ref sl)) (EP X j0 σ Q) X.xe s
def tSl (r:V->Option Int->Option Int->Hp->VK->Prop) (te:TE) (tl th:TO):TE:=λσ H Q=>te σ H λx H1=>tl σ H1 λl H2=>th σ H2 λu H3=>r x l u H3 Q
def X4 (hr:SlR X r) (he:PE X e te) (hl:PO X lo tl) (hu:PO X hi th):PE X (.Subscript e (.Slice lo hi none p2) pos) (tSl r te tl th):=by
 intro j0 s σ H Q I h;refine Subscript_ (thn (he j0 s σ H _ I h) λv s1 j2=>?_);obtain ⟨x,H1,I1,r1,q1⟩:=j2;refine wpAny_Slice (thn (hl j0 s1 σ H1 _ I1 q1) λvl s2 zz19=>?_);obtain ⟨l,H2,I2,pl,q2⟩:=zz19;refine thn (hu j0 s2 σ H2 _ I2 q2) λvu s3 j2=>?_;obtain ⟨u,H3,I3,pu,q3⟩:=j2;rw [evalPart_none];refine wpAny_pure ?_;have I4:Inv X j0 σ H3 { s3 with heap:=s3.heap.push { cls:=.type "slice",data:=.fields #[vl,vu,.none] } }:=I3.kept (t':=s3.toks) λb ob q=>Ak _ q;obtain ⟨T,id,hT,ht,hg⟩:=hr j0 { s3 with heap:=s3.heap.push { cls:=.type "slice",data:=.fields #[vl,vu,.none] } } σ H3 x v vl vu l u s3.heap.objs.size Q I4 r1 (Heap.IsSliceOf.new ..) pl pu q3;show wpAny (model X.prog X.w) X.A (subscriptTail e (.Slice lo hi none p2) v (.ref s3.heap.objs.size)) (EP X j0 σ Q) X.xe { s3 with heap:=s3.heap.push { cls:=.type "slice",data:=.fields #[vl,vu,.none] } };exact tail_any (ops:=[.ref s3.heap.objs.size,v]) ht hT hg (by with_unfolding_all rfl)
def cutV (xs:List V) (lo hi:Option Int):List V:=(xs.drop (HT.sIx xs.length 0 lo)).take (HT.sIx xs.length xs.length hi - HT.sIx xs.length 0 lo)
def Zb2 (xs:List V) (lo hi:Option Int):(cutV xs lo hi).length<=xs.length:=by
 unfold cutV;rw [Ai,List.length_drop];lia
def Zj4 (K:W.Frag):R2:=λx y H Q=>∃ a b xs ys,x=.ref a/\y=.ref b/\SqT K H a xs/\SqT K H b ys/\xs≠[]/\xs.length + ys.length<=sizeLine /\
 (ys=[]->Q (.ref a) H)/\(ys≠[]->∀ p,H p=none->Q (.ref p) (upd H p (.tup (xs ++ ys))))
def Vals.nil_iff {xs:List V} {us:List Value} (r:Vals xs us):us=[] ↔ xs=[]:=by
 cases r with
 | nil=>simp
 | cons _ _=>simp
def Zhz:OpR X (binaryOp .Add) (Zj4 X.K):=by
 intro j0 s σ H x y v u Q I rx ry h;obtain ⟨a,b,xs,ys,rfl,rfl,ha,hb,hx,hz,q1,q2⟩:=h;cases rx;cases ry;obtain ⟨its,r1,p1,_⟩:=I.tuple ha;obtain ⟨sg,r2,p2,_⟩:=I.tuple hb;refine HT.cat_tup p1 p2 (λz=>hx (r1.nil_iff.mp z)) (λz=>⟨.ref a,H,I,Z,q1 (r2.nil_iff.mp z)⟩) (λz=>?_) (by rw [<- r1.length,<- r2.length]; exact hz);refine ⟨.ref s.heap.objs.size,_,I.laid (t':=s.toks) (o:=.tup (xs ++ ys)) (λb ob q=>Ak _ q) (An _) ?_,Z,q2 (λw=>z (r2.nil_iff.mpr w)) _ (I.hok.fresh (An _))⟩;exact ⟨by rw [Ae]; exact hz,_,r1.append r2,IsTup.new _ _⟩
end
def ixN (n:Nat) (i:Int):Option Nat:=if 0<=i then (if i < n then some i.toNat else none) else if -(n:Int)<=i then some (i + n).toNat else none
def atI {α:Type} (xs:List α) (i:Int):Option α:=(ixN xs.length i).bind λj=>xs[j]?
def Zcf (h:ixN n i=some j):seqIndex? i n=some j/\j < n/\-(n:Int)<=i/\i < n:=by
 unfold ixN at h;by_cases h0:0<=i
 ·rw [if_pos h0] at h
  by_cases h1:i < n
  ·rw [if_pos h1] at h
   have e:i.toNat=j:=Ax h;exact ⟨by rw [seqIndex_of h0 h1,e],by lia,by lia,h1⟩
  ·rw [if_neg h1] at h; cases h
 ·rw [if_neg h0] at h
  by_cases h1:-(n:Int)<=i
  ·rw [if_pos h1] at h
   have e:(i + n).toNat=j:=Ax h;exact ⟨by rw [seqIndex_neg (by lia) h1,e],by lia,h1,by lia⟩
  ·rw [if_neg h1] at h; cases h
def Zcm {α:Type} {xs:List α} {i:Int} {v:α} (h:atI xs i=some v):∃ j,seqIndex? i xs.length=some j/\xs[j]?=some v/\j < xs.length/\-(xs.length:Int)<=i/\i < xs.length:=by
 unfold atI at h
 cases e:ixN xs.length i with
 | none=>rw [e] at h; cases h
 | some j =>
  rw [e] at h;obtain ⟨h1,h2,h3,h4⟩:=Zcf e;exact ⟨j,h1,h,h2,h3,h4⟩
def X6 {α:Type} {xs:List α} {j:Nat} {v:α} (h:xs[j]?=some v):atI xs (j:Int)=some v:=by
 have hj:j < xs.length:=(Aa h).1;have e:ixN xs.length (j:Int)=some j:=by
  unfold ixN
  rw [if_pos (by lia),if_pos (by lia)]; simp
 unfold atI; rw [e]; exact h
def Zif (b:Expr):Prop:=∀ o i,subscripted b false o i=operate [o,i] (getItem o i)
def IxR (X:Cx) (r:R2):Prop :=
 ∀ (value ky:Expr) (j0:List (Addr × Obj)) (s:Shared) (σ:St) (H:Hp) (x y:V) (v u:Value) (Q:VK),Inv X j0 σ H s->RelV x v->RelV y u->r x y H Q ->
  subscripted ky false v u=operate [v,u] (getItem v u)->wpAny (model X.prog X.w) X.A (subscriptTail value ky v u) (EP X j0 σ Q) X.xe s
def MtR (X:Cx) (id:String) (r:V->List V->Hp->VK->Prop):Prop :=
 ∀ (j0:List (Addr × Obj)) (s:Shared) (σ:St) (H:Hp) (x:V) (xs:List V) (v:Value) (us:List Value) (Q:VK),Inv X j0 σ H s->RelV x v->Vals xs us->r x xs H Q ->
  wpAny (model X.prog X.w) X.A (call (.builtin id) (v :: us)) (EP X j0 σ Q) X.xe s
section
variable {X:Cx} {a b:Expr} {ta tb:TE} {pos:Pos}
def Zn (hr:IxR X r) (ha:PE X a ta) (hb:PE X b tb) (hs:Zif b):PE X (.Subscript a b pos) (tOp r ta tb):=by
 intro j0 s σ H Q I h;exact Subscript_ (binT ha hb I h λv u s2 x y H2 I2 rx ry q=>hr a b j0 s2 σ H2 x y v u Q I2 rx ry q (hs _ _))
def rIxL (K:W.Frag):R2:=λx y H Q=>∃ p xs i v,x=.ref p/\y=.int i/\SqL K H p xs/\atI xs i=some v/\Q v H
def rIxT (K:W.Frag):R2:=λx y H Q=>∃ p xs i v,x=.ref p/\y=.int i/\SqT K H p xs/\atI xs i=some v/\Q v H
def Zo:IxR X (rIxL X.K):=by
 intro value ky j0 s σ H x y v u Q I rx ry h hs;obtain ⟨p,xs,i,z,rfl,rfl,hq,he,q⟩:=h;cases rx;obtain ⟨t,rfl⟩:=ry;obtain ⟨its,r,pl,hz⟩:=I.list hq;obtain ⟨j,h1,h2,h3,h4,h5⟩:=Zcm he;obtain ⟨w,ew,nq⟩:=r.get h2;have hl:=r.length;have hn:=Qi;have ki:EP X j0 σ Q w s:=⟨z,H,I,nq,q⟩;by_cases h0:0<=i
 ·have hj:i.toNat=j:=by
   rw [seqIndex_of h0 h5] at h1;exact Ax h1
  exact item_listR pl.isList h0 (by lia) (by rw [hj]; simpa using ew) ki hs
 ·have hj:(i + (its.toArray.size:Int)).toNat=j:=by
   rw [seqIndex_neg (by lia) h4] at h1;rw [Aq,<- hl];exact Ax h1
  exact subscriptTail_builtinR (x:=w) pl.isList.typeIs slot_list_getitem.lookup
   (wpAny_getItem_list_neg (Q:=λr s'=>r=w/\EP X j0 σ Q r s') pl.isList (by lia) (by rw [Aq] <;> lia) (by lia) (by rw [hj]; simpa using ew) ⟨rfl,ki⟩) hs
def Xg:IxR X (rIxT X.K):=by
 intro value ky j0 s σ H x y v u Q I rx ry h hs;obtain ⟨p,xs,i,z,rfl,rfl,hq,he,q⟩:=h;cases rx;obtain ⟨t,rfl⟩:=ry;obtain ⟨its,r,pl,hz⟩:=I.tuple hq;obtain ⟨j,h1,h2,h3,h4,h5⟩:=Zcm he;obtain ⟨w,ew,nq⟩:=r.get h2;have hl:=r.length;have hn:=Qi;have ki:EP X j0 σ Q w s:=⟨z,H,I,nq,q⟩;exact subscriptTail_builtinR (x:=w) pl.typeIs slot_tuple_getitem.lookup
  (getItem_tuple (j:=j) (Q:=λr s'=>r=w/\EP X j0 σ Q r s') pl (by lia) (by lia) (by rw [Aq,<- hl]; exact h1) (by simpa using ew) ⟨Z,ki⟩) hs
def Zdi (its:List Value) (n j:Nat) (u:Value):Obj.mapSeq (·.setIfInBounds j u) { cls:=.type "list",data:=.seq its.toArray n }={ cls:=.type "list",data:=.seq (its.set j u).toArray n }:=by
 simp [Obj.mapSeq]
def Inv.lst {s:Shared} {xs:List V} (I:Inv X j0 σ H s) (h:H p=some (.lst xs)) :
  ∃ (its:List Value) (n:Nat),Vals xs its/\s.heap.get? p=some { cls:=.type "list",data:=.seq its.toArray n }/\xs.length<=sizeLine:=by
 obtain ⟨z,its,n,r,e⟩:=I.hok p _ h;exact ⟨its,n,r,e,z⟩
def Inv.lstUpd {s:Shared} {ys:List V} {its its':List Value} (I:Inv X j0 σ H s) (h:H p=some (.lst xs))
  (ho:s.heap.get? p=some { cls:=.type "list",data:=.seq its.toArray n }) (hf:f { cls:=.type "list",data:=.seq its.toArray n }={ cls:=.type "list",data:=.seq its'.toArray n' }) (r:Vals ys its') (hz:ys.length<=sizeLine) (t:Nat) :
  Inv X j0 σ (upd H p (.lst ys)) { s with heap:=s.heap.update p f,toks:=t }:=by
 have e:(s.heap.update p f).get? p=some { cls:=.type "list",data:=.seq its'.toArray n' }:=by
  rw [Heap.get?_update_self f ho (by rw [hf] <;> rfl),hf]
 refine I.write (x:=p) (e:=p) (by rw [h]; trivial) (.inl rfl) (λb u hb q=>(Heap.get?_update_other _ _ (Ne.symm hb)).trans q) ⟨_,e⟩ ?_;exact ⟨hz,its',n',r,e⟩
def Zj1:V->V->V->Hp->(Hp->Prop)->Prop:=λo i v H Q=>∃ p xs k j,o=.ref p/\i=.int k/\H p=some (.lst xs)/\ixN xs.length k=some j/\Q (upd H p (.lst (xs.set j v)))
def Jp:PSet X Zj1:=by
 intro j0 s σ H o i v ov iv u Q I ro ri rv h;obtain ⟨p,xs,k,j,rfl,rfl,hp,hj,q⟩:=h;cases ro;obtain ⟨t,rfl⟩:=ri;obtain ⟨its,n,r,ho,hz⟩:=I.lst hp;obtain ⟨h1,h2,h3,h4⟩:=Zcf hj;have hl:=r.length;have hn:=Qi;have I':Inv X j0 σ (upd H p (.lst (xs.set j v))) { s with heap:=s.heap.update p (Obj.mapSeq (·.setIfInBounds j u)) } :=
  I.lstUpd hp ho (Zdi its n j u) (r.set rv j) (by rw [List.length_set]; exact hz) s.toks
 by_cases h0:0<=k
 ·have hk:k.toNat=j:=by
   rw [seqIndex_of h0 h4] at h1;exact Ax h1
  exact PySem.W.ki_setAt ho h0 (by lia) (by rw [Aq,<- hl]; exact h4) (by rw [hk]; exact ⟨_,I',q⟩)
 ·have hk:(k + (its.toArray.size:Int)).toNat=j:=by
   rw [seqIndex_neg (by lia) h3] at h1;rw [Aq,<- hl];exact Ax h1
  exact PySem.W.ki_setBack ho (by lia) (by rw [Aq,<- hl]; exact h3) (by lia) (by rw [hk]; exact ⟨_,I',q⟩)
def Fs (lo hi:Option Int) (n:Nat):(sliceBounds lo hi none n).1=((HT.sIx n 0 lo:Nat):Int)/\(sliceBounds lo hi none n).2.1=((HT.sIx n n hi:Nat):Int)/\(sliceBounds lo hi none n).2.2=1:=by
 refine ⟨?_,?_,Z⟩
 ·cases lo with
  | none=>simp [sliceBounds,HT.sIx]
  | some i =>
   simp only [sliceBounds,HT.sIx,Option.getD_none,show (1:Int) > 0 by decide,if_true];by_cases h:i < 0
   ·simp only [h,if_true] <;> lia
   ·simp only [h,if_false] <;> lia
 ·cases hi with
  | none=>simp [sliceBounds,HT.sIx]
  | some i =>
   simp only [sliceBounds,HT.sIx,Option.getD_none,show (1:Int) > 0 by decide,if_true];by_cases h:i < 0
   ·simp only [h,if_true] <;> lia
   ·simp only [h,if_false] <;> lia
def Gv (its:List Value) (lo hi:Option Int):slicePick its.toArray lo hi none=((its.drop (HT.sIx its.length 0 lo)).take (HT.sIx its.length its.length hi - HT.sIx its.length 0 lo)).toArray:=by
 obtain ⟨h1,h2,h3⟩:=Fs lo hi its.toArray.size;unfold slicePick;rw [h1,h2,h3];simp only [sliceRange_one,pick_run,Aq] <;> rfl
def rSlL (K:W.Frag):V->Option Int->Option Int->Hp->VK->Prop:=λx lo hi H Q=>∃ a xs,x=.ref a/\SqL K H a xs/\∀ p,H p=none->Q (.ref p) (upd H p (.lst (cutV xs lo hi)))
def Wf:SlR X (rSlL X.K):=by
 intro j0 s σ H x v vl vu lo hi sl Q I rx hs pl pu h;obtain ⟨a,xs,rfl,hx,q⟩:=h;cases rx;obtain ⟨its,r,ht,hz⟩:=I.list hx;have j1:=r.length;refine ⟨"list",_,slot_list_getitem.lookup,ht.isList.typeIs,?_⟩;refine wpAny_getItem_list_slice ht.isList hs pl pu .none (by simp) ?_ (by rw [Aq] <;> lia);rw [Gv,<- j1];refine ⟨.ref s.heap.objs.size,_,I.laid (t':=s.toks) (o:=.lst (cutV xs lo hi)) (λb ob q=>Ak _ q) (An _) ?_,Z,q _ (I.hok.fresh (An _))⟩;exact ⟨Nat.le_trans (Zb2 xs lo hi) hz,_,0,(r.drop (HT.sIx xs.length 0 lo)).take (HT.sIx xs.length xs.length hi - HT.sIx xs.length 0 lo),Ap _ Z⟩
def J6:V->Bool
 | .non=>true
 | .bl _=>true
 | .int _=>true
 | .str _=>true
 | _=>false
def eqV:V->V->Bool
 | .non,.non=>true
 | .bl a,.bl b=>a == b
 | .bl a,.int b=>(if a then 1 else 0) == b
 | .int a,.bl b=>a == (if b then 1 else 0)
 | .int a,.int b=>a == b
 | .str a,.str b=>a == b
 | _,_=>false
def Zjj {A:Around} {s:Shared} {y x:V} {u v:Value} (ry:RelV y u) (rx:RelV x v) (fy:J6 y=true) (fx:J6 x=true):SeqAt.EqAt A s u v (eqV y x):=by
 cases y with
 | non =>
  cases ry
  cases x with
  | non=>cases rx; exact SeqAt.EqAt.same _
  | bl b=>cases rx; exact SeqAt.EqAt.none_bool b
  | int b=>obtain ⟨t,rfl⟩:=rx; exact SeqAt.EqAt.none_int b t
  | str b=>obtain ⟨t,rfl⟩:=rx; exact SeqAt.EqAt.none_str b t
  | _=>exact absurd (show false=true from fx) Bool.false_ne_true
 | bl a =>
  cases ry
  cases x with
  | non=>cases rx; exact SeqAt.EqAt.bool_none a
  | bl b=>cases rx; exact SeqAt.EqAt.bool_bool a b
  | int b=>obtain ⟨t,rfl⟩:=rx; exact SeqAt.EqAt.bool_int a b t
  | str b=>obtain ⟨t,rfl⟩:=rx; exact SeqAt.EqAt.bool_str a b t
  | _=>exact absurd (show false=true from fx) Bool.false_ne_true
 | int a =>
  obtain ⟨t',rfl⟩:=ry
  cases x with
  | non=>cases rx; exact SeqAt.EqAt.int_none a t'
  | bl b=>cases rx; exact SeqAt.EqAt.int_bool a t' b
  | int b=>obtain ⟨t,rfl⟩:=rx; exact SeqAt.EqAt.int_int a t' b t
  | str b=>obtain ⟨t,rfl⟩:=rx; exact SeqAt.EqAt.int_str a t' b t
  | _=>exact absurd (show false=true from fx) Bool.false_ne_true
 | str a =>
  obtain ⟨t',rfl⟩:=ry
  cases x with
  | non=>cases rx; exact SeqAt.EqAt.str_none a t'
  | bl b=>cases rx; exact SeqAt.EqAt.str_bool a t' b
  | int b=>obtain ⟨t,rfl⟩:=rx; exact SeqAt.EqAt.str_int a t' b t
  | str b=>obtain ⟨t,rfl⟩:=rx; exact SeqAt.EqAt.str_str a t' b t
  | _=>exact absurd (show false=true from fx) Bool.false_ne_true
 | _=>exact absurd (show false=true from fy) Bool.false_ne_true
def eqU (x:V) (u:Value):Bool:=match u with
 | .none=>eqV .non x
 | .bool b=>eqV (.bl b) x
 | .int i _=>eqV (.int i) x
 | .str z _=>eqV (.str z) x
 | _=>false
def Ze9 {x y:V} {u:Value} (r:RelV y u) (f:J6 y=true):eqU x u=eqV y x:=by
 cases y with
 | non=>cases r; rfl
 | bl b=>cases r; rfl
 | int i=>obtain ⟨t,rfl⟩:=r; rfl
 | str z=>obtain ⟨t,rfl⟩:=r; rfl
 | _=>exact absurd (show false=true from f) Bool.false_ne_true
theorem Kw {x:V}:∀ {xs:List V} {us:List Value},Vals xs us->xs.all J6=true->us.any (eqU x)=xs.any λy=>eqV y x
 | _,_,.nil,_=>rfl
 | y :: xs,u :: us,.cons r t,f=>by
  rw [List.all_cons,Bool.and_eq_true] at f;rw [List.any_cons,List.any_cons,Ze9 r f.1,Kw t f.2]
theorem U1 {A:Around} {s:Shared} {x:V} {v:Value} (rx:RelV x v) (fx:J6 x=true):∀ {xs:List V} {us:List Value},Vals xs us->xs.all J6=true->∀ u∈us,SeqAt.EqAt A s u v (eqU x u)
 | _,_,.nil,_=>λu hu=>by cases hu
 | y :: xs,u :: us,.cons r t,f=>λu' hu=>by
  rw [List.all_cons,Bool.and_eq_true] at f
  rcases Ar hu with rfl | hu
  ·rw [Ze9 r f.1]; exact Zjj r rx f.1 fx
  ·exact U1 rx fx t f.2 u' hu
def inV (x:V) (xs:List V):Bool:=xs.any λy=>eqV y x
def rIn (K:W.Frag) (neg:Bool):R2:=λx y H Q=>∃ p xs,y=.ref p/\(SqL K H p xs\/SqT K H p xs)/\J6 x=true/\xs.all J6=true/\Q (.bl (if neg then !inV x xs else inV x xs)) H
def Zel:OpR X (compareOp .In) (rIn X.K false):=by
 intro j0 s σ H x y v u Q I rx ry h;obtain ⟨p,xs,rfl,hq,fx,fs,q⟩:=h;cases ry
 rcases hq with hq | hq
 ·obtain ⟨its,r,pl,hz⟩:=I.list hq
  refine SeqAt.in_listAt (eqU x) pl.isList (λw hw=>U1 rx fx r fs w (by simpa using hw)) ⟨.bl _,H,I,Z,?_⟩;rw [show its.toArray.any (eqU x)=its.any (eqU x) by simp,Kw r fs];exact q
 ·obtain ⟨its,r,pl,hz⟩:=I.tuple hq
  refine SeqAt.in_tupleAt (eqU x) pl (λw hw=>U1 rx fx r fs w (by simpa using hw)) ⟨.bl _,H,I,Z,?_⟩;rw [show its.toArray.any (eqU x)=its.any (eqU x) by simp,Kw r fs];exact q
def Zk:W9 X (.builtin "len") (λxs H Q=>∃ p ys,xs=[.ref p]/\(SqL X.K H p ys\/SqT X.K H p ys)/\Q (.int ys.length) H):=by
 intro j0 s σ H xs us Q I r h;obtain ⟨p,ys,rfl,hq,q⟩:=h;obtain ⟨u,rfl,rx⟩:=X8 r;cases rx;have hn:=Qi
 rcases hq with hq | hq
 ·obtain ⟨its,r',pl,hz⟩:=I.list hq
  have j1:=r'.length;exact Calls.call_len_list pl.isList (by simp only [Aq] <;> lia) ⟨.int ys.length,H,I.tok _,⟨s.toks + 1,by rw [Aq,j1]⟩,q⟩
 ·obtain ⟨its,r',pl,hz⟩:=I.tuple hq
  have j1:=r'.length;exact len_tuple pl (by simp only [Aq] <;> lia) ⟨.int ys.length,H,I.tok _,⟨s.toks + 1,by rw [Aq,j1]⟩,q⟩
def V0:W9 X (.builtin "len") (λxs H Q=>∃ z,xs=[.str z]/\z.length<=sizeLine/\Q (.int z.length) H):=by
 intro j0 s σ H xs us Q I r h;obtain ⟨z,rfl,hz,q⟩:=h;obtain ⟨u,rfl,t,rfl⟩:=X8 r;have hn:=Qi;exact len_str (by lia) ⟨.int z.length,H,I.tok _,⟨_,Z⟩,q⟩
def Zbd:W9 X (.type "list") (λxs H Q=>∃ p ys,xs=[.ref p]/\(SqL X.K H p ys\/SqT X.K H p ys)/\∀ l,H l=none->Q (.ref l) (upd H l (.lst ys))):=by
 intro j0 s σ H xs us Q I r h;obtain ⟨p,ys,rfl,hq,q⟩:=h;obtain ⟨u,rfl,rx⟩:=X8 r;cases rx;have ki:∀ (its:List Value),Vals ys its->ys.length<=sizeLine->∀ (h':Heap) (c':Nat),(∀ b o',s.heap.get? b=some o'->h'.get? b=some o') ->
   h'.get? s.heap.objs.size=some { cls:=.type "list",dict:=none,data:=.seq its.toArray c',slots:=#[] }->EP X j0 σ Q (.ref s.heap.objs.size) { s with heap:=h' }:=λits r' hz h' c' kp e =>
  ⟨.ref s.heap.objs.size,_,I.laid (t':=s.toks) kp (An _) (show Yh X.prog X.w _ h' _ (.lst ys) from ⟨hz,its,c',r',e⟩),rfl,q _ (I.hok.fresh (An _))⟩
 rcases hq with hq | hq
 ·obtain ⟨its,r',pl,hz⟩:=I.list hq
  have j1:=r'.length;obtain ⟨o,ho,hc,n,hd⟩:=pl.isList;exact call_list_seq p (.inl Z) ho hc hd (λh' c' kp e=>ki its r' hz h' c' kp e) (by simp only [Aq] <;> lia)
 ·obtain ⟨its,r',pl,hz⟩:=I.tuple hq
  have j1:=r'.length;obtain ⟨o,ho,hc,n,hd⟩:=pl;exact call_list_seq p (.inr Z) ho hc hd (λh' c' kp e=>ki its r' hz h' c' kp e) (by simp only [Aq] <;> lia)
def Fa:W9 X (.type "tuple") (λxs H Q=>∃ p ys,xs=[.ref p]/\((SqL X.K H p ys/\∀ l,H l=none->Q (.ref l) (upd H l (.tup ys)))\/(SqT X.K H p ys/\Q (.ref p) H))):=by
 intro j0 s σ H xs us Q I r h;obtain ⟨p,ys,rfl,h⟩:=h;obtain ⟨u,rfl,rx⟩:=X8 r;cases rx
 rcases h with ⟨hq,q⟩ | ⟨hq,q⟩
 ·obtain ⟨its,r',pl,hz⟩:=I.list hq
  have j1:=r'.length;refine call_tuple_list pl.isList (λh' kp=>?_) (by simp only [Aq] <;> lia);have I1:Inv X j0 σ H { s with heap:=h' }:=I.kept (t':=s.toks) kp;have I2:Inv X j0 σ (upd H h'.objs.size (.tup ys)) { s with heap:=h'.push { cls:=.type "tuple",data:=.seq its.toArray } } :=
   I1.laid (t':=s.toks) (λb o e=>Ak _ e) (An _) (show Yh X.prog X.w _ _ _ (.tup ys) from ⟨hz,its,r',IsTup.new _ _⟩)
  exact ⟨.ref h'.objs.size,_,I2,Z,q _ (I1.hok.fresh (An _))⟩
 ·obtain ⟨its,r',pl,hz⟩:=I.tuple hq
  exact call_tuple_same pl ⟨.ref p,H,I,Z,q⟩
def tyV (K:W.Frag) (T:String) (x:V) (H:Hp):Prop:=match x with
 | .str _=>T="str"
 | .int _=>T="int"
 | .ref p=>(T="list"/\∃ xs,SqL K H p xs)\/(T="tuple"/\∃ o,K.lookup p=some o/\o.cls=.type "tuple"/\o.dict=none) \/
   (T="dict"/\((∃ kvs,H p=some (.dK kvs))\/∃ kvs,H p=some (.dT kvs)))\/(T="set"/\∃ S n,H p=some (.set S n))
 | _=>False
def Zih {s:Shared} (I:Inv X j0 σ H s) (r:RelV x v) (ty:tyV X.K T x H) :
  s.TypeIs v T/\∀ a,v=.ref a->∃ ob,s.heap.get? a=some ob/\ob.dict=none:=by
 cases x with
 | str z =>
  obtain ⟨t,rfl⟩:=r;cases (show T="str" from ty);exact ⟨typeIs_str s z t,λ_ e=>nomatch e⟩
 | int i =>
  obtain ⟨t,rfl⟩:=r;cases (show T="int" from ty);exact ⟨typeIs_int s i t,λ_ e=>nomatch e⟩
 | ref p =>
  cases r
  rcases ty with ⟨rfl,xs,hq⟩ | ⟨rfl,o,hk,hc,hd⟩ | ⟨rfl,hk⟩ | ⟨rfl,S,n,hk⟩
  ·obtain ⟨its,_,pl,_⟩:=I.list hq
   refine ⟨pl.isList.typeIs,λa e=>?_⟩;cases e;obtain ⟨o,n,e,c,hd,_⟩:=pl;exact ⟨o,e,hd⟩
  ·refine ⟨⟨o,I.kIn p o hk,hc⟩,λa e=>?_⟩
   cases e;exact ⟨o,I.kIn _ o hk,hd⟩
  ·have z:∃ o,s.heap.get? p=some o/\o.ExactDict:=by
    rcases hk with ⟨kvs,hk⟩ | ⟨kvs,hk⟩
    ·obtain ⟨_,_,_,_,o,_,_,e,ex,_⟩:=I.hok p _ hk
     exact ⟨o,e,ex⟩
    ·obtain ⟨_,_,_,_,o,_,_,e,ex,_⟩:=I.hok p _ hk
     exact ⟨o,e,ex⟩
   obtain ⟨o,e,ex⟩:=z;refine ⟨⟨o,e,ex.1⟩,λa e2=>?_⟩;cases e2;exact ⟨o,e,ex.2.1⟩
  ·obtain ⟨o,_,_,_,e,ex,_⟩:=I.hok p _ hk
   refine ⟨⟨o,e,ex.1⟩,λa e2=>?_⟩;cases e2;exact ⟨o,e,ex.2.1⟩
 | _=>exact False.elim ty
def tBM (K:W.Frag) (T:String) (r:V->List V->Hp->VK->Prop) (to:TE) (t:TA):TE:=λσ H Q=>to σ H λx H1=>tyV K T x H1/\t σ H1 λxs H2=>r x xs H2 Q
variable {o e:Expr} {es:List Expr} {to:TE} {t:TA} {name:Str} {j7 j9:Pos} {T id:String} {r:V->List V->Hp->VK->Prop}
def Yu (pa:PlainAttrs T) (slot:Slot T name id) (hty:typeOf (.builtin id)=pure (.type "method_descriptor")) (hm:MtR X id r) (ho:PE X o to) (ha:PA X (e :: es) t)
  (wv:attributeBase o name X.env (eval o X.env)=eval o X.env:=by rfl)
  (hfew:((backTo j9 (starEach (e :: es) X.env)).all (λx=>!x.1) && (backToKw j9 (keywordEach [] X.env)).all (λx=>x.1.isSome)
   && decide ((e :: es).length + ([]:List Keyword).length + (if ([]:List Keyword).isEmpty then 0 else 1) < 30))=true:=by rfl)
  (wr:(j7.endLine == j9.line)=true:=by rfl) (hs:starEach (e :: es) X.env=(false,eval e X.env) :: starEach es X.env:=by rfl) (t6:(backTo j9 (starEach es X.env)).any (·.1)=false:=by rfl) :
  PE X (.Call (.Attribute o name j7) (e :: es) [] j9) (tBM X.K T r to t):=by
 intro j0 s σ H Q I h;refine wpAny_Call_method_late wv hfew wr Z (thn (ho j0 s σ H _ I h) λv s1 j2=>?_);obtain ⟨x,H1,I1,r1,ty,q1⟩:=j2;obtain ⟨h1,h2⟩:=Zih I1 r1 ty;refine ⟨T,id,pa,slot,hty,h1,h2,?_⟩;have hA:=ha j9 j0 s1 σ H1 _ I1 q1;rw [hs] at hA ⊢;refine Calls.callWith_builtin (by show (false || (backTo j9 (starEach es X.env)).any (·.1))=false; rw [t6] <;> rfl) (Calls.evalArgs_plain ?_);refine thn hA λus s2 zz20=>?_;obtain ⟨vs,H2,I2,r2,q2⟩:=zz20;exact hm j0 s2 σ H2 x vs v us Q I2 r1 r2 q2
end
def MtM (X:Cx) (id:String) (r:V->List V->Hp->VK->Prop):Prop :=
 ∀ (j0:List (Addr × Obj)) (s:Shared) (σ:St) (H:Hp) (x:V) (xs:List V) (v:Value) (us:List Value) (Q:VK),Inv X j0 σ H s->RelV x v->Vals xs us->r x xs H Q ->
  wpAny (model X.prog X.w) X.A (call (.builtin id) (v :: us)) (EP X j0 σ Q) X.xe s
def Vals.one (h:Vals [x] us):∃ u,us=[u]/\RelV x u:=by
  cases h with
  | cons r t=>cases t; exact ⟨_,Z,r⟩
def Vals.two (h:Vals [x,y] us):∃ u v,us=[u,v]/\RelV x u/\RelV y v:=by
  cases h with
  | cons r t =>
    obtain ⟨v,rfl,q⟩:=Vals.one t;exact ⟨_,v,Z,r,q⟩
theorem Vals.eraseIdx:∀ {xs:List V} {us:List Value} (i:Nat),Vals xs us->Vals (xs.eraseIdx i) (us.eraseIdx i)
 | _,_,_,.nil=>.nil
 | _,_,0,.cons _ t=>t
 | _,_,i + 1,.cons r t=>.cons r (Vals.eraseIdx i t)
theorem Vals.rep (h:Vals xs us):∀ k:Nat,Vals (List.replicate k xs).flatten (List.replicate k us).flatten
 | 0=>.nil
 | k + 1=>by
  rw [List.replicate_succ,List.replicate_succ,List.flatten_cons,List.flatten_cons];exact Vals.append h (Vals.rep h k)
theorem Gf {α:Type}:∀ (l:List α) (i:Nat),(l.eraseIdx i).length<=l.length
 | [],_=>An _
 | _ :: _,0=>Nat.le_succ _
 | _ :: r,i + 1=>Nat.succ_le_succ (Gf r i)
theorem Gi (its:List Value):∀ (k:Nat) (j3:List Value),
  List.foldl (λx1 x2=>x1 ++ x2) j3.toArray (List.replicate k its.toArray)=(j3 ++ (List.replicate k its).flatten).toArray
 | 0,j3=>by simp
 | k + 1,j3=>by
  have e:j3.toArray ++ its.toArray=(j3 ++ its).toArray:=by simp
  have e2:(j3 ++ its) ++ (List.replicate k its).flatten=j3 ++ (List.replicate (k + 1) its).flatten:=by
   rw [List.replicate_succ,List.flatten_cons,List.append_assoc]
  rw [<- e2,<- Gi its k (j3 ++ its),<- e,List.replicate_succ,List.foldl_cons]
section
variable {X:Cx} {j0:List (Addr × Obj)} {σ:St} {H:Hp} {s:Shared} {l b:Addr} {xs ys zs:List V}
def Inv.lset {its its':List Value} {t':Nat} (I:Inv X j0 σ H s) (hH:H l=some (.lst xs))
  (e:s.heap.get? l=some { cls:=.type "list",data:=.seq its.toArray n }) (hf:f its.toArray=its'.toArray) (hv:Vals ys its') (hz:ys.length<=sizeLine) :
  Inv X j0 σ (upd H l (.lst ys)) { s with heap:=s.heap.update l (Obj.mapSeq f),toks:=t' }:=by
 have q:=PySem.IsL.update e f;rw [hf] at q;refine I.write (x:=l) (e:=l) (by rw [hH]; exact trivial) (.inl Z) (λb' u hb hu=>(Heap.get?_update_other s.heap (Obj.mapSeq f) (Ne.symm hb)).trans hu) ⟨_,q⟩ ?_;exact ⟨hz,its',_,hv,q⟩
def Inv.lnew {its:List Value} {t':Nat} (I:Inv X j0 σ H s) (hv:Vals ys its) (hz:ys.length<=sizeLine) :
  Inv X j0 σ (upd H s.heap.objs.size (.lst ys)) { s with heap:=s.heap.push { cls:=.type "list",data:=.seq its.toArray },toks:=t' } :=
 I.laid (λ_ _ q=>Ak _ q) (An _) ⟨hz,its,0,hv,Ap _ rfl⟩
def Inv.fresh (I:Inv X j0 σ H s):H s.heap.objs.size=none:=I.hok.fresh (An _)
def Inv.lstM (I:Inv X j0 σ H s) (hH:H l=some (.lst xs)):xs.length<=sizeLine/\∃ (its:List Value) (n:Nat),Vals xs its/\xs.length=its.length/\s.heap.get? l=some { cls:=.type "list",data:=.seq its.toArray n }:=by
 obtain ⟨z,its,n,r,e⟩:=I.hok l _ hH;exact ⟨z,its,n,r,r.length,e⟩
def Zga (h:n<=sizeLine):Builtin.List.listTooLong n=false:=by
 unfold Builtin.List.listTooLong;exact decide_eq_false (by lia)
end
section
variable {X:Cx}
def Zhq:V->List V->Hp->VK->Prop:=λx vs H Q=>∃ l xs y,x=.ref l/\vs=[y]/\H l=some (.lst xs)/\xs.length < sizeLine/\Q .non (upd H l (.lst (xs ++ [y])))
def Y1:MtM X "list.append" Zhq:=by
 intro j0 s σ H x vs v us Q I rx rv h;obtain ⟨l,xs,y,rfl,rfl,hH,hz,q⟩:=h;cases rx;obtain ⟨u,rfl,ru⟩:=rv.one;obtain ⟨z,its,n,r,hl,e⟩:=I.lstM hH;refine call_meets F.slot_list_append ⟨_,e,Z⟩ F.entry_list_append (F.args_list_append_2 _ _) (PySem.list_append l its.toArray n u (by rw [Aq]; lia)) ⟨e,?_⟩;refine ⟨.non,_,I.lset (its':=its ++ [u]) hH e (by simp) (r.append (.cons ru .nil)) ?_,Z,q⟩;rw [Ae,At];lia
def Ziu:V->List V->Hp->VK->Prop:=λx vs H Q=>∃ l xs i k y,x=.ref l/\vs=[.int i]/\H l=some (.lst xs)/\-(2 ^ 63)<=i/\i < 2 ^ 63/\seqIndex? i xs.length=some k/\xs[k]?=some y/\Q y (upd H l (.lst (xs.eraseIdx k)))
def Zaz:MtM X "list.pop" Ziu:=by
 intro j0 s σ H x vs v us Q I rx rv h;obtain ⟨l,xs,i,k,y,rfl,rfl,hH,h1,h2,hk,hy,q⟩:=h;cases rx;obtain ⟨u,rfl,ru⟩:=rv.one;obtain ⟨t,rfl⟩:=ru;obtain ⟨z,its,n,r,hl,e⟩:=I.lstM hH;obtain ⟨w,hw,nq⟩:=r.get hy;refine call_meets F.slot_list_pop ⟨_,e,Z⟩ F.entry_list_pop (F.args_list_pop_2 _ _)
  (MeetsSeq.list_pop_at l its.toArray n i t k w (fitsIndex_both h1 h2) (by rw [Aq,<- hl]; exact hk) (by rw [<- Array.getElem?_toList]; exact hw) (by rw [Aq]; lia)) ⟨e,?_⟩
 refine ⟨y,_,I.lset (its':=its.eraseIdx k) hH e ?_ (r.eraseIdx k) ?_,nq,q⟩
 ·show its.toArray.eraseIdxIfInBounds k=(its.eraseIdx k).toArray
  rw [List.eraseIdxIfInBounds_toArray]
 ·have:=Gf xs k
  lia
def rCat:R2:=λx y H Q=>∃ l b xs zs,x=.ref l/\y=.ref b/\H l=some (.lst xs)/\H b=some (.lst zs)/\xs.length + zs.length<=sizeLine/\∀ p,H p=none->Q (.ref p) (upd H p (.lst (xs ++ zs)))
def Zem:OpR X (binaryOp .Add) rCat:=by
 intro j0 s σ H x y v u Q I rx ry h;obtain ⟨l,b,xs,zs,rfl,rfl,hH,hB,hz,q⟩:=h;cases rx;cases ry;obtain ⟨z,its,n,r,hl,e⟩:=I.lstM hH;obtain ⟨z2,sg,n2,r2,nz,e2⟩:=I.lstM hB;refine PySem.P.add_list e e2 ?_ (by rw [Aq,Aq]; lia);have ea:its.toArray ++ sg.toArray=(its ++ sg).toArray:=by simp
 rw [ea];exact ⟨.ref _,_,I.lnew (t':=s.toks) (r.append r2) (by rw [Ae]; lia),rfl,q _ I.fresh⟩
def rRep:R2:=λx y H Q=>∃ l k xs,x=.ref l/\y=.int k/\H l=some (.lst xs)/\-(2 ^ 63)<=k/\k < 2 ^ 63/\xs.length * k.toNat<=sizeLine /\
 ∀ p,H p=none->Q (.ref p) (upd H p (.lst (List.replicate k.toNat xs).flatten))
def Zh3 {α:Type} (xs:List α) (k:Nat):(List.replicate k xs).flatten.length=k * xs.length:=by
 induction k with
 | zero=>simp
 | succ k ih=>rw [List.replicate_succ,List.flatten_cons,Ae,ih,Nat.succ_mul,Nat.add_comm]
def Zao:OpR X (binaryOp .Mult) rRep:=by
 intro j0 s σ H x y v u Q I rx ry h;obtain ⟨l,k,xs,rfl,rfl,hH,h1,h2,hz,q⟩:=h;cases rx;obtain ⟨t,rfl⟩:=ry;obtain ⟨z,its,n,r,hl,e⟩:=I.lstM hH;have j1:its.toArray.size * k.toNat<=sizeLine:=by rw [Aq,<- hl]; exact hz
 have hcap:¬ its.toArray.size * k.toNat > (2 ^ 63 - 1) / 8:=by
  have:(sizeLine:Nat)<=(2 ^ 63 - 1) / 8:=by decide
  lia
 have hfit:¬ (!Builtin.List.listFitsIndex k)=true:=by
  rw [fitsIndex_both h1 h2];exact Bool.false_ne_true
 have wq:¬ Builtin.List.listTooLong (its.toArray.size * k.toNat)=true:=by
  rw [Zga j1];exact Bool.false_ne_true
 have nu:List.foldl (λx1 x2=>x1 ++ x2) #[] (List.replicate (if its.toArray.isEmpty=true then 0 else k.toNat) its.toArray)=(List.replicate k.toNat its).flatten.toArray:=by
  have f0:∀ m:Nat,List.foldl (λx1 x2=>x1 ++ x2) #[] (List.replicate m its.toArray)=(List.replicate m its).flatten.toArray:=λm=>by
   have:=Gi its m [];rw [List.nil_append] at this;exact this
  rw [f0]
  cases its with
  | nil=>simp
  | cons a r'=>rw [if_neg (by simp)]
 refine wpAny_binaryOp_repeat_ref (T:="list") (U:="int") (by decide) ⟨_,e,rfl⟩ (λs'=>typeIs_int s' k t) noFill_list_mul F.fills_int_mul F.slot_int_rmul repeat_list F.slot_int_index.lookup
  (call_meets F.slot_int_rmul (typeIs_int s k t) F.entry_int_rmul (F.args_int_rmul_2 _ _) (int___rmul___int_list k t l its.toArray n)
   ⟨e,rfl,⟨_,e,rfl⟩,call_meets F.slot_list_mul ⟨_,e,rfl⟩ F.entry_list_mul (F.args_list_mul_2 _ _) (AutoListH.list___mul___list_int_3 l its.toArray n k t hfit hcap wq) ⟨e,?_⟩⟩)
 rw [nu];exact ⟨.ref _,_,I.lnew (t':=s.toks) (r.rep k.toNat) (by rw [Zh3,Nat.mul_comm]; exact hz),Z,q _ I.fresh⟩
end
section
variable {κ:Type} [DecidableEq κ]
def valV (kvs:List (κ × V)) (k:κ):Option V:=(kvs.find? λkv=>decide (kv.1=k)).map (·.2)
def putK (kvs:List (κ × V)) (k:κ) (v:V):List (κ × V) :=
 if (kvs.any λkv=>decide (kv.1=k))=true then kvs.map (λkv=>if kv.1=k then (kv.1,v) else kv) else kvs ++ [(k,v)]
def Fg {p:κ × V} {r:List (κ × V)} (e:p.1=k):valV (p :: r) k=some p.2:=by simp [valV,List.find?_cons,e]
def Fh {p:κ × V} (e:¬ p.1=k):valV (p :: r) k=valV r k:=by simp [valV,List.find?_cons,e]
def Ur (kvs:List (κ × V)) (k:κ) (v:V):(putK kvs k v).length<=kvs.length + 1:=by
 unfold putK;split
 ·rw [Ab]; lia
 ·rw [Ae,List.length_cons,List.length_nil]; lia
def RelO.isSome_eq {o:Option V} {u:Option Value} (r:RelO o u):o.isSome=u.isSome:=by
 cases o with
 | none=>cases u with
  | none=>rfl
  | some _=>exact (show False from r).elim
 | some _=>cases u with
  | none=>exact (show False from r).elim
  | some _=>rfl
def KV.val (r:KV kvs vs) (k:κ):RelO (valV kvs k) (valueAt vs k):=by
 unfold KV at r
 induction r with
 | nil=>exact True.intro
 | @cons p q ps qs h t ih =>
  obtain ⟨h1,h2⟩:=h;by_cases e:p.1=k
  ·have e':q.1=k:=h1.symm.trans e
   have b:valueAt (q :: qs) k=some q.2:=by simp [valueAt,List.find?_cons,e']
   rw [Fg e,b]; exact h2
  ·have e':¬ q.1=k:=λz=>e (h1.trans z)
   have b:valueAt (q :: qs) k=valueAt qs k:=by simp [valueAt,List.find?_cons,e']
   rw [Fh e,b]; exact ih
def KV.any {kvs:List (κ × V)} {vs:List (κ × Value)} (r:KV kvs vs) (k:κ):(kvs.any λkv=>decide (kv.1=k))=vs.any λkv=>decide (kv.1=k):=by
 unfold KV at r
 induction r with
 | nil=>rfl
 | cons h t ih=>rw [List.any_cons,List.any_cons,ih,h.1]
def KV.repl {kvs:List (κ × V)} {vs:List (κ × Value)} (r:KV kvs vs) (k:κ) (ry:RelV y u) :
  KV (kvs.map λkv=>if kv.1=k then (kv.1,y) else kv) (vs.map λkv=>if kv.1=k then (kv.1,u) else kv):=by
 unfold KV at r ⊢
 induction r with
 | nil=>exact .nil
 | @cons p q ps qs h t ih =>
  rw [List.map_cons,List.map_cons];refine .cons ?_ ih;obtain ⟨h1,h2⟩:=h;by_cases e:p.1=k
  ·rw [if_pos e,if_pos (h1.symm.trans e)]; exact ⟨h1,ry⟩
  ·rw [if_neg e,if_neg (λz=>e (h1.trans z))]; exact ⟨h1,h2⟩
def KV.put (r:KV kvs vs) (k:κ) (ry:RelV y u):KV (putK kvs k y) (stored vs k u):=by
 unfold putK stored;rw [r.any k];by_cases e:(vs.any λkv=>decide (kv.1=k))=true
 ·rw [if_pos e,if_pos e]; exact r.repl k ry
 ·rw [if_neg e,if_neg e]; exact Paired.snoc r ⟨Z,ry⟩
def KV.length {kvs:List (κ × V)} {vs:List (κ × Value)} (r:KV kvs vs):kvs.length=vs.length:=Paired.length r
end
def J5 (r:RelV (kV k) u):(Z7 P w).is k u=true:=by
 cases k with
 | inl i=>obtain ⟨t,e⟩:=(show ∃ t,u=Value.int i t from r); subst e; exact Zb0 P w i t
 | inr x=>obtain ⟨t,e⟩:=(show ∃ t,u=Value.str x t from r); subst e; exact Zbz P w x t
theorem Gg:∀ {ks:List Key} {us:List Value},Vals (ks.map kV) us->ItemsAre (Z7 P w) ks us
 | [],_,r=>by rw [List.map_nil] at r; cases r; exact .nil
 | k :: ks,_,r=>by
  rw [List.map_cons] at r
  cases r with
  | cons h t=>exact .cons (J5 h) (Gg t)
abbrev KT (H:Hp):List (List Key × V)->List (List Key × Addr × Value)->Prop:=Paired λp q=>p.1=q.1/\H q.2.1=some (.tup (p.1.map kV))/\RelV p.2 q.2.2
def KT.val (r:KT H kvs xs) (k:List Key):RelO (valV kvs k) ((atKey xs k).map (·.2)):=by
 induction r with
 | nil=>exact True.intro
 | @cons p q ps qs h t ih =>
  obtain ⟨h1,_,h2⟩:=h;by_cases e:p.1=k
  ·have e':q.1=k:=h1.symm.trans e
   have b:atKey (q :: qs) k=some q.2:=by simp [atKey,List.find?_cons,e']
   rw [Fg e,b]; exact h2
  ·have e':¬ q.1=k:=λz=>e (h1.trans z)
   have b:atKey (q :: qs) k=atKey qs k:=by simp [atKey,List.find?_cons,e']
   rw [Fh e,b]; exact ih
section
variable {P:Program} {w:World} {H:Hp} {h:Heap} {a:Addr}
def Zgx (ok:HOk P w H h) (e:Rd H a u):Yh P w H h a u:=e.ok ok
def Qy {kvs:List (Key × V)} (ok:HOk P w H h) (e:Rd H a (.dK kvs)):kvs.length<=sizeLine/\(a == sysModules)=false/\∃ vs,KV kvs vs/\h.DictOf (Z7 P w) a vs :=
 show Yh P w H h a (.dK kvs) from Zgx ok e
def Zg3 {kvs:List (Key × V)} (ok:HOk P w H h) (e:H a=some (.dK kvs)):kvs.length<=sizeLine/\(a == sysModules)=false/\∃ vs,KV kvs vs/\h.DictOf (Z7 P w) a vs:=Qy ok (.inl e)
def O4 {ks:List Key} (ok:HOk P w H h) (e:H a=some (.tup (ks.map kV))):(tupleKind (Z7 P w)).is h ks a:=by
 obtain ⟨_,its,r,o,h1,h2,n,h3⟩:=(show Yh P w H h a (.tup (ks.map kV)) from ok a _ e);exact ⟨o,its.toArray,n,h1,h2,h3,by simpa using Gg r⟩
def O9 {kvs:List (List Key × V)} (ok:HOk P w H h) (e:Rd H a (.dT kvs)):kvs.length<=sizeLine/\(a == sysModules)=false /\
  ∃ xs,KT H kvs xs/\h.DictOfH (tupleKind (Z7 P w)) a xs:=by
 obtain ⟨z,y,xs,r,o,es,ep,h1,h2,h3,h4,h5⟩:=(show Yh P w H h a (.dT kvs) from Zgx ok e);refine ⟨z,y,xs,r,o,es,ep,h1,h2,h3,h4,λx hx=>?_,h5⟩
 have all:∀ {l:List (List Key × V)} {m:List (List Key × Addr × Value)},KT H l m->∀ x∈m,(tupleKind (Z7 P w)).is h x.1 x.2.1:=by
  intro l m q
  induction q with
  | nil=>intro x hx; exact nomatch hx
  | @cons p q ps qs hq t ih =>
   intro x hx
   rcases Ar hx with e | hx
   ·subst e
    exact O4 ok (by rw [<- hq.1]; exact hq.2.1)
   ·exact ih x hx
 exact all r x hx
end
def DGet (H:Hp) (a:Addr) (y:V) (r:Option V):Prop :=
 (∃ kvs k,Rd H a (.dK kvs)/\y=kV k/\r=valV kvs k)\/∃ kvs k b,Rd H a (.dT kvs)/\y=.ref b/\H b=some (.tup (k.map kV))/\r=valV kvs k
section
variable {X:Cx} {j0:List (Addr × Obj)} {σ:St} {H:Hp} {s:Shared} {a:Addr} {y v:V} {u r:Value} {o:Option V} {A:Around} {E:Value->Shared->Prop}
def Inv.big (I:Inv X j0 σ H s):sysModules < s.heap.objs.size:=by
 have h:mainGlobals < s.heap.objs.size:=(I.mod.glob.keeps I.bk).lt;exact Nat.lt_trans (by decide) h
def Zfc (hu:A.units + 1 < cLine) (I:Inv X j0 σ H s) (g:DGet H a y (some v)) (ry:RelV y u) (h:∀ w' s',Inv X j0 σ H s'->RelV v w'->Q w' s') :
  wpAny (model X.prog X.w) A (getItem (.ref a) u) Q E s:=by
 rcases g with ⟨kvs,k,e,ey,l⟩ | ⟨kvs,k,b,e,ey,eb,l⟩
 ·subst ey
  obtain ⟨z,hd,vs,kh,dd⟩:=Qy I.hok e;obtain ⟨w',hw,nq⟩:=RelO.some_of (v:=v) (o:=valueAt vs k) (by rw [l]; exact kh.val k);exact wpAny_getItem_of (J5 ry) dd.mapOf hw (h w' _ (I.tok _) nq)
 ·subst ey
  cases (show u=Value.ref b from ry);obtain ⟨z,hd,xs,kh,dd⟩:=O9 I.hok e;obtain ⟨w',hw,nq⟩:=RelO.some_of (v:=v) (o:=(atKey xs k).map (·.2)) (by rw [l]; exact kh.val k);obtain ⟨p,hp,lc⟩:=Option.map_eq_some_iff.mp hw;refine wpAny_getItem_heap (tupleKind_room_in1 hu) (O4 I.hok eb) dd hp ?_;rw [lc];exact h w' _ (I.tok _) nq
def d_in {Q:Value->Shared->Prop} (hu:A.units + 1 < cLine) (I:Inv X j0 σ H s) (g:DGet H a y o) (ry:RelV y u) (h:∀ s',Inv X j0 σ H s'->Q (.bool o.isSome) s') :
  wpAny (model X.prog X.w) A (compareOp .In u (.ref a)) Q E s:=by
 rcases g with ⟨kvs,k,e,ey,l⟩ | ⟨kvs,k,b,e,ey,eb,l⟩
 ·subst ey
  obtain ⟨z,hd,vs,kh,dd⟩:=Qy I.hok e;refine wpAny_in_of (J5 ry) hd dd.mapOf ?_;rw [<- (kh.val k).isSome_eq,<- l];exact h _ (I.tok _)
 ·subst ey
  cases (show u=Value.ref b from ry);obtain ⟨z,hd,xs,kh,dd⟩:=O9 I.hok e;refine wpAny_in_heap (tupleKind_room_in1 hu) (O4 I.hok eb) hd dd ?_;have q:=(kh.val k).isSome_eq;rw [Option.isSome_map] at q;rw [<- q,<- l];exact h _ (I.tok _)
def Zia (hu:A.units + 1 < cLine) (I:Inv X j0 σ H s) (g:DGet H a y o) (ry:RelV y u) (h:∀ s',Inv X j0 σ H s'->Q (.bool (!o.isSome)) s') :
  wpAny (model X.prog X.w) A (compareOp .NotIn u (.ref a)) Q E s:=by
 rcases g with ⟨kvs,k,e,ey,l⟩ | ⟨kvs,k,b,e,ey,eb,l⟩
 ·subst ey
  obtain ⟨z,hd,vs,kh,dd⟩:=Qy I.hok e;refine wpAny_notIn_of (J5 ry) hd dd.mapOf ?_;rw [<- (kh.val k).isSome_eq,<- l];exact h _ (I.tok _)
 ·subst ey
  cases (show u=Value.ref b from ry);obtain ⟨z,hd,xs,kh,dd⟩:=O9 I.hok e;refine wpAny_notIn_heap (tupleKind_room_in1 hu) (O4 I.hok eb) hd dd ?_;have q:=(kh.val k).isSome_eq;rw [Option.isSome_map] at q;rw [<- q,<- l];exact h _ (I.tok _)
def Zcl {h':Heap} {t':Nat} (I:Inv X j0 σ H s) (mu:Mut (H a)) (hs:Heap.SameBut a s.heap h') (he:∃ q,h'.get? a=some q) (new:Yh X.prog X.w (upd H a ob) h' a ob) :
  Inv X j0 σ (upd H a ob) { s with heap:=h',toks:=t' } :=
 I.write (x:=a) (e:=a) mu (.inl rfl) (λb q hb z=>(hs.2 b hb).trans z) he new
def Zfa {h':Heap} {kvs:List (Key × V)} (z:kvs.length<=sizeLine) (hd:(a == sysModules)=false) (kh:KV kvs vs) (dd:h'.DictOf (Z7 P w) a vs) :
  Yh P w H' h' a (.dK kvs):=⟨z,hd,vs,kh,dd⟩
end
def NoSl (i:Expr):Prop:=∀ ov iv,subscripted i false ov iv=operate [ov,iv] (getItem ov iv)
def Zb3 {prog:Program} {w:World} {A:Around} {E:Value->Shared->Prop} {s:Shared} {env:Env} {value ky:Expr} {pos:Pos} {T id:String} {Q:Value->Shared->Prop}
  (hl:typeLookup (.type T) "__getitem__"=pure (some (.builtin id))) (hs:NoSl ky)
  (h:wpAny (model prog w) A (eval value env) (λo s₁=>wpAny (model prog w) A (eval ky env) (λi s₂=>s₂.TypeIs o T/\wpAny (model prog w) A (getItem o i) Q E s₂) E s₁) E s) :
  wpAny (model prog w) A (eval (.Subscript value ky pos) env) Q E s:=by
 refine Subscript_ (wpAny_mono h (λo s₁ h₁=>wpAny_mono h₁ (λi s₂ h₂=>?_) λ_ _ x=>x) λ_ _ x=>x);obtain ⟨hT,h₂⟩:=h₂;unfold subscriptTail;refine Al ?_;rw [getitemInPython_of_ne hT.not_modules];refine Al (wpAny_specialOf hT hl ?_);have ki:wpAny (model prog w) A (subscripted ky false o i) (λr s₃=>wpAny (model prog w) A (letTemporaryGo value o r >>= λ_=>pure r) Q E s₃) E s₂:=by
  rw [hs o i]
  exact wpAny_operating (wpAny_mono h₂ (λr s₃ h₃=>Al (wpAny_letTemporaryGo (wpAny_pure h₃))) λ_ _ x=>x)
 first
  | exact wpAny_pure (Al ki)
  | exact Al (wpAny_pure (Al ki))
  | exact Al ki
def Zb1 {s:Shared} (I:Inv X j0 σ H s) (g:DGet H a y o):s.TypeIs (.ref a) "dict":=by
 rcases g with ⟨kvs,k,e,_,_⟩ | ⟨kvs,k,b,e,_,_,_⟩
 ·obtain ⟨_,_,vs,_,dd⟩:=Qy I.hok e
  exact dd.typeIs
 ·obtain ⟨_,_,xs,_,dd⟩:=O9 I.hok e
  exact dd.typeIs
def Zjw (td ty:TE):TE:=λσ H Q=>td σ H λx H1=>ty σ H1 λy H2=>∃ a v,x=.ref a/\DGet H2 a y (some v)/\Q v H2
def tDIn (ty td:TE):TE:=λσ H Q=>ty σ H λy H1=>td σ H1 λx H2=>∃ a o,x=.ref a/\DGet H2 a y o/\Q (.bl o.isSome) H2
def Zg9 (ty td:TE):TE:=λσ H Q=>ty σ H λy H1=>td σ H1 λx H2=>∃ a o,x=.ref a/\DGet H2 a y o/\Q (.bl (!o.isSome)) H2
section
variable {X:Cx} {o i e value:Expr} {pos km oj:Pos} {td ty tv:TE}
def Kr (hu:X.A.units + 1 < cLine) (ho:PE X o td) (hi:PE X i ty) (hs:NoSl i):PE X (.Subscript o i pos) (Zjw td ty):=by
 intro j0 s σ H Q I h;refine Zb3 PySem.F.slot_dict_getitem.lookup hs (thn (ho j0 s σ H _ I h) λu s1 zz21=>?_);obtain ⟨x,H1,I1,rx,q1⟩:=zz21;refine thn (hi j0 s1 σ H1 _ I1 q1) λiv s2 j2=>?_;obtain ⟨y,H2,I2,ry,a,v,ex,g,q2⟩:=j2;subst ex;obtain rfl:u=Value.ref a:=rx;exact ⟨Zb1 I2 g,Zfc hu I2 g ry λw' s3 I3 nq=>⟨v,H2,I3,nq,q2⟩⟩
def Zei (hu:X.A.units + 1 < cLine) (hi:PE X i ty) (ho:PE X o td):PC X .In i o (tDIn ty td):=by
 intro j0 s σ H Q I h;refine thn (hi j0 s σ H _ I h) λiv s1 zz22=>?_;obtain ⟨y,H1,I1,ry,q1⟩:=zz22;refine thn (ho j0 s1 σ H1 _ I1 q1) λu s2 j2=>?_;obtain ⟨x,H2,I2,rx,a,ov,ex,g,q2⟩:=j2;subst ex;obtain rfl:u=Value.ref a:=rx;exact d_in hu I2 g ry λs3 I3=>⟨.bl ov.isSome,H2,I3,Z,q2⟩
def Vt (hu:X.A.units + 1 < cLine) (hi:PE X i ty) (ho:PE X o td):PC X .NotIn i o (Zg9 ty td):=by
 intro j0 s σ H Q I h;refine thn (hi j0 s σ H _ I h) λiv s1 zz23=>?_;obtain ⟨y,H1,I1,ry,q1⟩:=zz23;refine thn (ho j0 s1 σ H1 _ I1 q1) λu s2 j2=>?_;obtain ⟨x,H2,I2,rx,a,ov,ex,g,q2⟩:=j2;subst ex;obtain rfl:u=Value.ref a:=rx;exact Zia hu I2 g ry λs3 I3=>⟨.bl (!ov.isSome),H2,I3,Z,q2⟩
end
def Za9 (h:Heap) (hb:sysModules < h.objs.size):Yh P w H (h.push { cls:=.type "dict",data:=.dict #[] }) h.objs.size (.dK []) :=
 ⟨Az _,beq_eq_false_iff_ne.mpr (Ne.symm (As hb)),[],.nil,Heap.DictOf.new h⟩
def Ziq:TE:=λ_ H Q=>∀ p,H p=none->Q (.ref p) (upd H p (.dK []))
section
variable {X:Cx} {pos:Pos}
def Wx:PE X (.Dict [] [] pos) Ziq:=λj0 s σ H Q I h =>
 wpAny_Dict_empty ⟨.ref s.heap.objs.size,_,I.laid (a:=s.heap.objs.size) (o:=.dK []) (t':=s.toks) (λ_ _ q=>Ak _ q) (An _) (Za9 s.heap I.big),rfl,h _ (I.hok.fresh (An _))⟩
end
structure M2 (X:Cx) (o:Expr) (m:Str) (j7:Pos) (e f:Expr) (j9:Pos):Prop where
 base:attributeBase o m X.env (eval o X.env)=eval o X.env
 few:((backTo j9 (starEach [e,f] X.env)).all (λx=>!x.1) && (backToKw j9 (keywordEach [] X.env)).all (λx=>x.1.isSome)
  && decide (([e,f]:List Expr).length + ([]:List Keyword).length + (if ([]:List Keyword).isEmpty then 0 else 1) < 30))=true
 line:(j7.endLine == j9.line)=true
 trees:backTo j9 (starEach [e,f] X.env)=[(false,eval e X.env),(false,eval f X.env)]
def IsD (H:Hp) (a:Addr):Prop:=(∃ kvs,Rd H a (.dK kvs))\/∃ kvs,Rd H a (.dT kvs)
def Ze1 {s:Shared} (I:Inv X j0 σ H s) (d:IsD H a) :
  s.TypeIs (.ref a) "dict"/\(∀ b,Value.ref a=.ref b->∃ ob,s.heap.get? b=some ob/\ob.dict=none)/\(a == sysModules)=false:=by
 rcases d with ⟨kvs,e⟩ | ⟨kvs,e⟩
 ·obtain ⟨_,hd,vs,_,dd⟩:=Qy I.hok e
  refine ⟨dd.typeIs,λb q=>?_,hd⟩;cases q;obtain ⟨ob,_,_,h1,h2,_⟩:=dd;exact ⟨ob,h1,h2.2.1⟩
 ·obtain ⟨_,hd,xs,_,dd⟩:=O9 I.hok e
  refine ⟨dd.typeIs,λb q=>?_,hd⟩;cases q;obtain ⟨ob,_,_,h1,h2,_⟩:=dd;exact ⟨ob,h1,h2.2.1⟩
end L2
namespace Att
open PySem PySem.W PySem.Calls PyProof.Rows
def O6:∀ (ns:List Int) (vs:List Value),WellAll P h vs (ns.map WData.int)->IntsAre vs ns:=by
 intro ns
 induction ns with
 | nil =>
  intro vs w;rw [List.map_nil] at w;cases w;exact .nil
 | cons n ns ih =>
  intro vs w;rw [List.map_cons] at w
  cases w with
  | cons a b =>
   cases a;exact .cons _ _ (ih _ b)
def Zd2 {l:OpenLaw} (hn:l.most=some n) {h:Heap}
  (p7:l.row.toRowW.claim.pre args=true) (u6:WellAll P h v9 args) :
  ∃ a vs ns,v9=[Value.ref a]/\args=[WData.list (ns.map WData.int)]/\h.get? a=some { cls:=.type "list",data:=.seq vs.toArray }/\IntsAre vs ns/\ns.length<=n:=by
 have hsh:WShape.hasAll [] args [.list .int]=true:=(pre_splitW p7).1;have hc:l.pre.holds [] { args:=args }=true:=(pre_splitW p7).2;obtain ⟨d,r,rfl,h1,h2⟩:=hasAllW_cons hsh;obtain rfl:=hasAllW_nil h2;obtain ⟨xs,rfl,h3⟩:=hasW_list h1;obtain ⟨ns,rfl⟩:=items_int h3
 have j1:ns.length<=n:=by
  unfold OpenLaw.pre at hc;have h4:(WTm.not (.lt (.lit (.int (n:Int))) (.len (.arg 0)))).holds [] { args:=[.list (ns.map .int)] }=true:=by
   have h4:=(holds_andW hc).1
   rw [hn] at h4
   exact h4
  have h5:=condW_of h4 (w_not (w_lt w_lit (w_len_list (w_arg rfl))));rw [Ab] at h5;refine Nat.le_of_not_lt λq=>?_;have q':(n:Int) < ((ns.length:Nat):Int):=by lia
  first
   | (rw [decide_eq_true q'] at h5; exact absurd h5 (by decide))
   | (simp at h5; lia)
 cases u6 with
 | cons w1 w2 =>
  cases w2
  cases w1 with
  | list ho tj=>exact ⟨_,_,ns,Z,Z,ho,O6 ns _ tj,j1⟩
def Zec (l:OpenLaw) (args:List WData):l.row.toRowW.claim.post args (.bool true) args=true :=
 postW_of (r:=l.row.toRowW) (X:=(true == true))
  (show WShape.has [] (.bool true) .bool=true by first | rfl | decide | simp [WShape.has,WShape.arms,WShape.armsAll])
  (show (WTm.eq .res (.lit (.bool true))).value [] { args:=args,res:=some (.bool true),after:=args }=some (.bool (true == true)) from w_eq_bool (w_res rfl) w_lit) rfl
def attach_call {l:OpenLaw} {d:DefRec}
  (hn:l.most=some n) (vj:d.params.defaults=[])
  (call:∀ (w:World) (s₀ s₁:Shared) (mg mb:Str->Option Value) (fa:Addr) (o:Obj) (pm cd ka:Value) (a:Addr) (vs:List Value) (ns:List Int),
   Ground q ni [] XP w s₀ mg mb s₁.heap->YP w s₁.heap ->
   s₁.heap.get? fa=some o->o.data=.func (docDef d.name d.params d.body d.scope pm cd ka)->s₁.heap.CodeRec cd d.name->mg d.name=some (.ref fa) ->
   s₁.heap.get? a=some { cls:=.type "list",data:=.seq vs.toArray }->IntsAre vs ns->ns.length<=n->s₁.gens=#[] ->
   codeAny (model l.prog w) callerA (.call (.ref fa) ⟨[.ref a],[]⟩) (λr s'=>r=.ok (.ret (.bool true))/\OldK s₁.heap s'.heap/\s'.os=s₁.os/\AllBare s'.gens) s₁) :
  WalkO q ni XP YP l.row.toRowW d [] (λf vs=>PySem.call f vs):=by
 intro w s₀ s₁ mg mb G Y fa o pm cd ka dV kV ho hd ly hD yy hg args v9 as p7 hlay hrd u6 hlo;obtain rfl:dV=.none:=Dflts.none hD vj;obtain rfl:kV=.none:=Dflts.noKw hD;obtain ⟨a,vs,ns,rfl,rfl,ss,o0,j1⟩:=Zd2 hn p7 u6;refine enter_call (codeAny_mono (call w s₀ s₁ mg mb fa o pm cd ka a vs ns G Y ho (fd_plain hd) ly yy ss o0 j1 hg) λr s' hq=>?_);obtain ⟨rfl,h2,h3,h4⟩:=hq;exact ⟨.inl ⟨.bool true,.bool true,[],Z,λ_=>rfl,.bool true,Zec l _,λ_=>⟨List.Pairwise.nil,λ_ hm=>(nomatch hm)⟩⟩,h2,h3,h4⟩
end Att
namespace L2
open PySem PySem.Spec PyProof.Rows
theorem Ky:∀ {vs:List Value} {ns:List Int},IntsAre vs ns->Vals (ns.map V.int) vs
 | _,_,.nil=>.nil
 | _,_,.cons n t h=>.cons ⟨t,rfl⟩ (Ky h)
def Only (H:Hp):Prop:=∀ b,H b=none\/∃ o xs,H b=some (.frz o (.lst xs))
def Zge {K:W.Frag} {s₁:Shared} {vs:List Value} {ns:List Int}
  (KX:K.In s₁.heap) (nr:s₁.heap.Ns mainGlobals mg) (hb:s₁.heap.Ns builtinsNs mb) (hbb:∀ x:Str,x≠"__name__"->mb x=bootBuiltins x) (hlim:s₁.heap.NoLimit) (hg:s₁.gens=#[])
  (ha:s₁.heap.get? a=some { cls:=.type "list",data:=.seq vs.toArray }) (hi:IntsAre vs ns) (hl:ns.length<=sizeLine) (hr:Room k callerA)
  (F:∀ base:Heap,K.In base->base.Ns mainGlobals mg->FnOk P w K mg base CX k fa fd [x] sp) (wu:∀ (s:Shared) (u:Value),BindsTo s fd ⟨[u],[]⟩ [(x,u)])
  (k7:∀ H:Hp,Only H->SqL K H a (ns.map V.int)->sp [.ref a] H (λv _=>v=.bl true) λ_ _ _=>False)
  (zx:∀ H e s',CX [] H s₁ (λ_ _ _=>False) e s'->False) :
  codeAny (model P w) callerA (.call (.ref fa) ⟨[.ref a],[]⟩) (λr s'=>r=.ok (.ret (.bool true))/\OldK s₁.heap s'.heap/\s'.os=s₁.os/\AllBare s'.gens) s₁:=by
 have rv:=Ky hi;have lenV:=hi.length
 have wn:∀ H:Hp,Only H->SqL K H a (ns.map V.int)->HOk P w H s₁.heap->(∀ b,H b≠none->b=a)->(H a≠none->K.lookup a=none) ->
   codeAny (model P w) callerA (.call (.ref fa) ⟨[.ref a],[]⟩) (λr s'=>r=.ok (.ret (.bool true))/\OldK s₁.heap s'.heap/\s'.os=s₁.os/\AllBare s'.gens) s₁:=by
  intro H hO hS hok hA hK;have nk:∀ {b:Addr} {o:Obj},s₁.heap.get? b=some o->H b=none->(hidT s₁.heap H).get? b=some o:=λe n=>Zgh e n
  have uy:∀ {b:Addr} {o:Obj} {es:Array DictEntry} {ep:Nat},s₁.heap.get? b=some o->o.data=.dict es ep->H b=none:=λ{b o es ep} e d=>by
   cases q:H b with
   | none=>rfl
   | some u =>
    have e':b=a:=hA b (by rw [q]; simp);subst e';rw [ha] at e; cases e;have d':Data.seq vs.toArray _=Data.dict es ep:=d;cases d'
  have xm:∀ {b:Addr} {m:Str->Option Value},s₁.heap.Ns b m->(hidT s₁.heap H).Ns b m:=λ{b m} ⟨o,es,ep,e,d,r⟩=>⟨o,es,ep,nk e (uy e d),d,r⟩
  have hKb:K.In (hidT s₁.heap H):=λb o e=>nk (KX b o e) (by
   cases q:H b with
   | none=>rfl
   | some u =>
    have e':b=a:=hA b (by rw [q]; simp);subst e'
    rw [hK (by rw [q]; simp)] at e; cases e)
  have hM:Mod K mg (hidT s₁.heap H):=⟨hKb,xm nr,⟨mb,xm hb,hbb⟩,let ⟨mc,h1,h2⟩:=hlim; ⟨mc,xm h1,h2⟩⟩;have e0:Env0 P w K mg (hidT s₁.heap H) callerA [] s₁ H:=⟨rfl,hM,λb o e=>Zh1 e,Nat.le_of_eq (Ze3 _ _),trivial,λb hb=>absurd (show b∈([]:List Addr) from hb) (by simp),hok,.of_eq hg⟩;refine codeAny_mono ((F _ hKb (xm nr)).run callerA [] s₁ H ⟨[.ref a],[]⟩ [.ref a] [.ref a] _ _ hr e0 (wu s₁ (.ref a)) (.cons Z .nil) (k7 H hO hS)) λr s' h=>?_
  cases r with
  | error e=>exact (zx H e s' h).elim
  | ok fl =>
   cases fl with
   | next=>exact False.elim h
   | brk=>exact False.elim h
   | cont=>exact False.elim h
   | ret u =>
    obtain ⟨v,H',os,bare,un,hok',r',q⟩:=h;have q':v=.bl true:=q;subst q';obtain rfl:u=Value.bool true:=r';refine ⟨Z,OldK.of_keep λb o e=>?_,os,bare⟩
    cases q:H b with
    | none=>exact un.keep b o e q (by intro z; exact absurd (show b∈([]:List Addr) from z) (by simp)) (by simp)
    | some u =>
     rcases hO b with z | ⟨ob,xs,z⟩
     ·rw [q] at z; cases z
     ·have z2:=un.frzs b ob _ z
      obtain ⟨e1,_⟩:=hok b _ z;obtain ⟨e2,_⟩:=hok' b _ z2;rw [e] at e1; cases e1;exact e2
 cases hk:K.lookup a with
 | some o =>
  have e:=KX a o hk;rw [ha] at e;cases e;refine wn (λ_=>none) (λ_=>.inl Z) (.inr ⟨_,vs.toArray,_,hk,Z,Z,Z,by rw [Aq,lenV]; exact hl,by simpa using rv⟩) (λb u z=>by have z':(none:Option HO)=some u:=z; cases z') (λb z=>absurd rfl z) λz=>absurd rfl z
 | none =>
  refine wn (λb=>if b=a then some (.frz { cls:=.type "list",data:=.seq vs.toArray } (.lst (ns.map V.int))) else none) (λb=>?_) (.inl (.inr ⟨{ cls:=.type "list",data:=.seq vs.toArray },if_pos rfl⟩)) (λb u z=>?_) (λb z=>?_) λ_=>hk
  ·by_cases hb:b=a
   ·exact .inr ⟨_,_,if_pos hb⟩
   ·exact .inl (if_neg hb)
  ·by_cases hb:b=a
   ·have z':=(if_pos hb).symm.trans z
    cases z';subst hb;exact ⟨ha,by rw [Ab]; exact hl,vs,_,rv,ha⟩
   ·have z':=(if_neg hb).symm.trans z
    cases z'
  ·by_cases hb:b=a
   ·exact hb
   ·exact absurd (if_neg hb) z
abbrev KOf {K:W.Frag} {h:Heap} (_:K.In h):PySem.W.Frag:=K
def Zg5 {l:PySem.W.OpenLaw} {d:DefRec} {K:Params->PySem.W.Frag} {CX:World->CXT} {sp:World->Sp} {x:Str}
  (hn:l.most=some n) (ui:n<=sizeLine) (vj:d.params.defaults=[]) (hr:Room k callerA)
  (hY:∀ (w:World) (h:Heap),YP w h->(K w.params).In h)
  (F:∀ (w:World) (mg:Str->Option Value) (fa:Addr) (h:Heap),(K w.params).In h->h.Ns mainGlobals mg->mg d.name=some (.ref fa) ->
   ∃ fd:FuncData,(∀ (s:Shared) (u:Value),BindsTo s fd ⟨[u],[]⟩ [(x,u)]) /\
    ∀ base:Heap,(K w.params).In base->base.Ns mainGlobals mg->FnOk l.prog w (K w.params) mg base (CX w) k fa fd [x] (sp w))
  (k7:∀ (w:World) (H:Hp) (a:Addr) (ns:List Int),ns.length<=n->Only H->SqL (K w.params) H a (ns.map V.int)->sp w [.ref a] H (λv _=>v=.bl true) λ_ _ _=>False)
  (zx:∀ (w:World) (H:Hp) (s:Shared) (e:Value) (s':Shared),CX w [] H s (λ_ _ _=>False) e s'->False) :
  PySem.W.WalkO q ni XP YP l.row.toRowW d [] (λf vs=>PySem.call f vs):=by
 refine Att.attach_call hn vj λw s₀ s₁ mg mb fa o pm cd ka a vs ns G Y ho hd ly yy ss o0 j1 hg=>?_;have KX:=hY w _ Y;obtain ⟨fd,hb,hF⟩:=F w mg fa _ KX G.T.g yy;exact Zge KX G.T.g G.T.b G.T.builtins G.T.nolimit hg ss o0 (Nat.le_trans j1 ui) hr hF hb (λH hO hS=>k7 w H a ns j1 hO hS) λH e s'=>zx w H s₁ e s'
def Z5 (s:Stmt) (j:Nat):Stmt:=match s with
 | .ClassDef _ _ _ body _ _ _ _ _ _ _=>body.getD j (.Pass ⟨0,0,0,0⟩)
 | _=>.Pass ⟨0,0,0,0⟩
def Y4 (s:Stmt):Arguments:=match s with
 | .FunctionDef _ a _ _ _ _ _ _ _ _=>a
 | _=>{ posonlyargs:=[],args:=[],vararg:=none,kwonlyargs:=[],kw_defaults:=[],kwarg:=none,defaults:=[] }
def Yd (s:Stmt):List Stmt:=match s with
 | .FunctionDef _ _ b _ _ _ _ _ _ _=>b
 | _=>[]
def Zf (s:Stmt):Scope:=match s with
 | .FunctionDef _ _ _ _ _ _ sc _ _ _=>sc
 | _=>{ kind:=.function,names:=[],isGenerator:=false,isCoroutine:=false }
abbrev E0:XK:=λ_ _ _=>False
structure Fun (K:W.Frag) (x qual:Str) (st:Stmt) (f:Addr) (fd:FuncData):Prop where
 ex:∃ (oc:Value) (od:Option Addr) (kV ka pm:Value) (an:Option Addr) (j5 ct:Value) (n6:Array (Option Value)),
  fd=PySem.W.fnOf x qual (Y4 st) (Yd st) (Zf st) .none kV ka pm an j5 ct/\K.lookup f=some ⟨oc,od,.func fd,n6⟩/\PySem.W.codeIn K j5 qual=true
 kp:PySem.W.keepIn K (.ref f)=true
section
variable {P:Program} {w:World} {K:W.Frag} {mg:Str->Option Value} {base:Heap}
def Fun.binds {x qual:Str} {st:Stmt} {f:Addr} {fd:FuncData} {ps:List Str} (F:Fun K x qual st f fd)
  (h:∀ (kV ka pm:Value) (an:Option Addr) (j5 ct:Value) (us:List Value),us.length=ps.length->bindArgs (PySem.W.fnOf x qual (Y4 st) (Yd st) (Zf st) .none kV ka pm an j5 ct) ⟨us,[]⟩=pure (ps.zip us)):Xb K fd ps []:=by
 obtain ⟨oc,od,kV,ka,pm,an,j5,ct,n6,rfl,lk,ly⟩:=F.ex;exact .all (h kV ka pm an j5 ct)
def O8 {x qual:Str} {st:Stmt} {f:Addr} {oc:Value} {od an:Option Addr} {n6:Array (Option Value)} {kV ka pm j5 ct:Value} (l:K.lookup f=some ⟨oc,od,.func (PySem.W.fnOf x qual (Y4 st) (Yd st) (Zf st) .none kV ka pm an j5 ct),n6⟩)
  (c:PySem.W.codeIn K j5 qual=true) (k:PySem.W.keepIn K (.ref f)=true):Fun K x qual st f (PySem.W.fnOf x qual (Y4 st) (Yd st) (Zf st) .none kV ka pm an j5 ct):=⟨⟨oc,od,kV,ka,pm,an,j5,ct,n6,rfl,l,c⟩,k⟩
end
def Qx {A:Around} (hr:Room k A):A.units + 1 < cLine:=Nat.lt_of_le_of_lt (Nat.add_le_add_left (by decide:1<=64) _) hr.units
def Z0 {n:Nat} (h:n<=1000):n < sizeLine:=Nat.lt_of_le_of_lt h (by decide)
section
variable {X:Cx}
def pv (i:Nat) (hN:X.N[i]?=some x:=by rfl) (hv:Vis X.env.scope x:=by first | exact Or.inl rfl | exact Or.inr (Or.inl rfl) | exact Or.inr (Or.inr rfl)) (hd:(x == ("__debug__":Str))=false:=by decide)
  (ly:(x == ("__classdict__":Str))=false:=by decide):PE X (.Name x pos) (tVar i):=Zeg hN hv hd ly
end
def iteF {A B:Prop} (h:B):if false=true then A else B:=by
 rw [if_neg Bool.false_ne_true];exact h
def iteT {A B:Prop} (h:A):if true=true then A else B:=by
 rw [if_pos rfl];exact h
def ite2 {A B:Prop} [Decidable c] (h1:c->A) (h2:¬ c->B):if c then A else B:=by
 by_cases h:c
 ·rw [if_pos h]
  exact h1 h
 ·rw [if_neg h]
  exact h2 h
def Same (H H':Hp):Prop:=∀ b o,H b=some o->H' b=some o
def Same.refl (H:Hp):Same H H:=λ_ _ h=>h
def Same.trans (a:Same H H1) (b:Same H1 H2):Same H H2:=λc o h=>b c o (a c o h)
def Same.free {H H':Hp} (e:Same H H') {l:Addr} (h:H' l=Option.none):H l=Option.none:=by
 cases q:H l with
 | none=>rfl
 | some o =>
  rw [e l o q] at h;cases h
def Same.seq {K:W.Frag} {H H':Hp} {a:Addr} {xs:List V} (e:Same H H') (h:SqL K H a xs):SqL K H' a xs:=by
 rcases h with (h | ⟨o,h⟩) | h
 ·exact .inl (.inl (e _ _ h))
 ·exact .inl (.inr ⟨o,e _ _ h⟩)
 ·exact .inr h
def Yj (env:Env):List (Str × NameKind)->List (Str × Addr)->List (Str × Addr)
 | [],j3=>j3
 | (n,k) :: r,j3=>if (k == NameKind.free)=true then (match env.cells.lookup n with
  | some c=>Yj env r ((n,c) :: j3)
  | none=>Yj env r j3) else Yj env r j3
theorem Wa {env:Env}:∀ (ns:List (Str × NameKind)) (j3:List (Str × Addr)),(∀ x c,j3.lookup x=some c->env.cells.lookup x=some c) ->
  ∀ x c,(Yj env ns j3).lookup x=some c->env.cells.lookup x=some c
 | [],j3,h=>h
 | (n,k) :: r,j3,h=>by
  unfold Yj;split
  ·cases e:env.cells.lookup n with
   | none=>exact Wa r j3 h
   | some c =>
    refine Wa r _ λx d hx=>?_;rw [List.lookup_cons] at hx
    cases hb:x == n with
    | true =>
     rw [hb] at hx;cases hx;rw [beq_iff_eq.mp hb];exact e
    | false =>
     rw [hb] at hx;exact h x d hx
  ·exact Wa r j3 h
theorem Wb:∀ (ns:List (Str × NameKind)) (j3:List (Str × Addr)) (x:Str),(∃ c,j3.lookup x=some c)->∃ c,(Yj env ns j3).lookup x=some c
 | [],j3,x,h=>h
 | (n,k) :: r,j3,x,h=>by
  unfold Yj;split
  ·cases e:env.cells.lookup n with
   | none=>exact Wb r j3 x h
   | some c =>
    refine Wb r _ x ?_;rw [List.lookup_cons]
    cases hb:x == n with
    | true=>exact ⟨c,Z⟩
    | false=>exact h
  ·exact Wb r j3 x h
theorem W5 {env:Env}:∀ (ns:List (Str × NameKind)) (j3:List (Str × Addr)) (x:Str),(x,NameKind.free)∈ns->(∃ c,env.cells.lookup x=some c)->∃ c,(Yj env ns j3).lookup x=some c
 | [],j3,x,h,_=>by cases h
 | (n,k) :: r,j3,x,h,hc=>by
  rcases Ar h with e | h
  ·cases e
   obtain ⟨c,hc⟩:=hc;unfold Yj;rw [if_pos (show (NameKind.free == NameKind.free)=true by decide),hc];exact Wb r _ n ⟨c,by rw [List.lookup_cons,beq_self_eq_true]⟩
  ·unfold Yj
   split
   ·cases e:env.cells.lookup n with
    | none=>exact W5 r j3 x h hc
    | some c=>exact W5 r _ x h hc
   ·exact W5 r j3 x h hc
theorem Qz {env:Env} (f:Str × NameKind->List (Str × Addr)->Sem (ForInStep (List (Str × Addr))))
  (hf:∀ name kind cs,f (name,kind) cs=if (kind == NameKind.free)=true then (do let a <- cellOf env name; pure (.yield ((name,a) :: cs))) else pure (.yield cs)) :
  ∀ (ns:List (Str × NameKind)) (j3:List (Str × Addr)),(∀ y∈ns,y.2=.free->∃ c,env.cells.lookup y.1=some c)->forIn ns j3 f=pure (Yj env ns j3)
 | [],j3,_=>by rw [List.forIn_nil]; rfl
 | (n,k) :: r,j3,h=>by
  rw [List.forIn_cons,hf];unfold Yj;have hr:∀ y∈r,y.2=.free->∃ c,env.cells.lookup y.1=some c:=λy hy=>h y (List.mem_cons_of_mem _ hy);split
  ·rename_i hk
   obtain ⟨c,hc⟩:=h (n,k) List.mem_cons_self (by simpa using hk);have rk:env.cells.lookup n=some c:=hc;have e:cellOf env n=pure c:=by unfold cellOf; rw [rk]
   rw [e,rk];exact Qz f hf r ((n,c) :: j3) hr
  ·exact Qz f hf r j3 hr
def X7 {env:Env} {scope:Scope} (h:∀ y∈scope.names,y.2=.free->∃ c,env.cells.lookup y.1=some c):closureFor scope env=pure (Yj env scope.names []):=by
 unfold closureFor;dsimp only;rw [Qz (env:=env) _ (λname kind cs=>by split <;> rfl) scope.names [] h];rfl
theorem Wt (env:Env):∀ (names:List (Str × NameKind)) (x:Str),
  (names.map λ(n,k)=>if (k == NameKind.free && env.scope.kind == .function && env.kindOf n == some .cell) then (n,NameKind.cell) else (n,k)).lookup x =
   (names.lookup x).map λk=>if (k == NameKind.free && env.scope.kind == .function && env.kindOf x == some .cell)=true then NameKind.cell else k
 | [],_=>rfl
 | (n,k) :: r,x=>by
  have ih:=Wt env r x;have e:(if (k == NameKind.free && env.scope.kind == .function && env.kindOf n == some .cell)=true then (n,NameKind.cell) else (n,k))=(n,if (k == NameKind.free && env.scope.kind == .function && env.kindOf n == some .cell)=true then NameKind.cell else k):=by split <;> rfl
  show List.lookup x ((if (k == NameKind.free && env.scope.kind == .function && env.kindOf n == some .cell)=true then (n,NameKind.cell) else (n,k)) :: _)=_;rw [e,List.lookup_cons,List.lookup_cons]
  cases hx:x == n with
  | true =>
   have e2:x=n:=beq_iff_eq.mp hx;subst e2;rfl
  | false=>exact ih
def Vl {env:Env} {names:List (Str × NameKind)} (hc:∀ y∈names,y.2≠.cell)
  (h:(names.map λ(n,k)=>if (k == NameKind.free && env.scope.kind == .function && env.kindOf n == some .cell) then (n,NameKind.cell) else (n,k)).lookup x=some k) (hk:k=.cell\/k=.free):names.lookup x=some .free:=by
 rw [Wt] at h
 cases e:names.lookup x with
 | none=>rw [e] at h; cases h
 | some k' =>
  rw [e] at h;have uj:k'≠.cell:=hc _ (PySem.mem_of_lookup e);have h':(if (k' == NameKind.free && env.scope.kind == .function && env.kindOf x == some .cell)=true then NameKind.cell else k')=k:=Ax h;split at h'
  ·rename_i q
   simp only [Bool.and_eq_true,beq_iff_eq] at q;rw [q.1.1]
  ·subst h'
   rcases hk with z | z
   ·exact absurd z uj
   ·rw [z]
def Os {env:Env} {names:List (Str × NameKind)} (h:names.lookup x=some .free) :
  (names.map λ(n,k)=>if (k == NameKind.free && env.scope.kind == .function && env.kindOf n == some .cell) then (n,NameKind.cell) else (n,k)).lookup x≠some .local:=by
 rw [Wt,h];intro z;have z':(if (NameKind.free == NameKind.free && env.scope.kind == .function && env.kindOf x == some .cell)=true then NameKind.cell else NameKind.free)=.local:=Ax z;split at z' <;> cases z'
def Zq (X:Cx) (N':List Str) (scope:Scope) (C:Addr) (s₀:Shared) (H₀:Hp) (ex:List Addr):Cx :=
 { X with N:=N',s₀:=s₀,H₀:=H₀,env:=compEnvC scope (Yj X.env scope.names []) C X.env,outer:=X.stack,ex:=ex,fn:=λ_=>false,pn:=[],xe:=λ_ _=>False }
def FvOk (X:Cx) (scope:Scope):List (Str × Nat)->Prop
 | []=>True
 | (x,j) :: r=>(X.N[j]?=some x/\scope.names.lookup x=some .free/\(X.env.kindOf x=some .cell\/X.env.kindOf x=some .free))/\FvOk X scope r
theorem FvOk.mem {X:Cx} {scope:Scope}:∀ {l:List (Str × Nat)},FvOk X scope l->∀ y∈l,X.N[y.2]?=some y.1/\scope.names.lookup y.1=some .free/\(X.env.kindOf y.1=some .cell\/X.env.kindOf y.1=some .free)
 | [],_,_,h=>by cases h
 | (x,j) :: r,h,y,hy=>by
  rcases Ar hy with e | hy
  ·cases e; exact h.1
  ·exact FvOk.mem h.2 y hy
def blkN (ts:List Str) (fv:List (Str × Nat)):List Str:=ts ++ fv.map (·.1)
def blkS (ts:List Str) (fv:List (Str × Nat)) (σ:St):St:=ts.map (λ_=>none) ++ fv.map λy=>(σ[y.2]?).join
structure BlkOk (X:Cx) (scope:Scope) (fv:List (Str × Nat)):Prop where
 kind:scope.kind=.function
 nocell:∀ y∈scope.names,y.2≠.cell
 names:∀ y∈scope.names,y.2=.local->scope.names.lookup y.1=some .local
 free:∀ y∈scope.names,y.2=.free->X.env.kindOf y.1=some .cell\/X.env.kindOf y.1=some .free
 fvs:FvOk X scope fv
section
variable {X:Cx} {j0:List (Addr × Obj)} {σ:St} {H:Hp} {s:Shared} {scope:Scope} {ts:List Str} {fv:List (Str × Nat)}
def J7 {h':Heap} {tk:Nat} (B:BlkOk X scope fv) (I:Inv X j0 σ H s) (hf:∀ b∈fp,FpOk X j0 H b) (ho:∀ b∈fp,∃ o,s.heap.get? b=some o)
  (hn:h'.Ns s.heap.objs.size (λ_=>none)) (hk:∀ b o,s.heap.get? b=some o->h'.get? b=some o) :
  Inv (Zq X (blkN ts fv) scope s.heap.objs.size s H fp) [] (blkS ts fv σ) H { s with heap:=h',toks:=tk }:=by
 have has:∀ y∈scope.names,y.2=.free->∃ c,X.env.cells.lookup y.1=some c:=λy hy e=>I.ok.has y.1 (B.free y hy e);have t7:∀ x c,(Yj X.env scope.names []).lookup x=some c->X.env.cells.lookup x=some c:=Wa _ _ (λx c h=>by simp at h);have fr:∀ x,(scope.names.lookup x=some .free)->∃ c,(Yj X.env scope.names []).lookup x=some c:=λx hx =>
  W5 _ _ x (PySem.mem_of_lookup hx) (has _ (PySem.mem_of_lookup hx) rfl)
 have nfs:∀ b∈fp,b ∉ frs X.stack:=λb hb z=>by
  obtain ⟨_,h1,h2,_⟩:=hf b hb
  rcases Ar (I.stkSub b z) with e | e
  ·exact h1 e
  ·exact h2 e
 have lt:∀ b∈fp,b < s.heap.objs.size:=λb hb=>let ⟨o,e⟩:=ho b hb; Ao e
 refine ⟨⟨I.ok.mod,?_,I.ok.glob,I.ok.blt,An _,λx y c h1 h2=>I.ok.inj x y c (t7 x c h1) (t7 y c h2),λx hx=>?_,λ_ _ h=>absurd (show false=true from h) Bool.false_ne_true,I.ok.hd,I.ok.frames,.inl Z,λb hb=>⟨As (lt b hb),λx c e=>(hf b hb).2.2.2.2.1 x c (t7 x c e)⟩,I.bs,Nat.le_trans I.ok.bsz I.sz,λb o e hb=>?_,nfs,I.stack,I.stkFree⟩,
  rfl,I.bare,Un.kept hk,⟨_,hn,λi x v h1 h2 h3=>?_⟩,λx c e=>?_,I.fresh,λx c e=>I.freeC x c (t7 x c e),λp hp=>?_,I.hok.kept hk,?_⟩
 ·exact B.kind
 ·refine fr x ?_
  have k6:(relabel scope X.env).names.lookup x=some .cell\/(relabel scope X.env).names.lookup x=some .free:=hx
  rcases k6 with e | e
  ·exact Vl B.nocell e (.inl Z)
  ·exact Vl B.nocell e (.inr Z)
 ·rcases (hf b hb).2.2.2.1 with z | z
  ·exact I.ok.noex b o e z
  ·exact absurd (Ag (Ao e) (Nat.le_trans I.ok.bsz z)) (Nat.lt_irrefl _)
 ·have h1:(ts ++ fv.map (·.1))[i]?=some x:=h1
  have h2:(ts.map (λ_=>(none:Option V)) ++ fv.map λy=>(σ[y.2]?).join)[i]?=some (some v):=h2;by_cases hi:i < ts.length
  ·rw [Av (by simpa using hi),Ah] at h2
   cases e:ts[i]? with
   | none=>rw [e] at h2; cases h2
   | some z=>rw [e] at h2; cases h2
  ·rw [List.getElem?_append_right (by simpa using hi),Ab,Ah] at h2
   rw [List.getElem?_append_right (by simpa using hi),Ah] at h1
   cases e:fv[i - ts.length]? with
   | none=>rw [e] at h2; cases h2
   | some y =>
    rw [e] at h1 h2;have e1:y.1=x:=by simpa using h1
    have e2:(σ[y.2]?).join=some v:=by simpa using h2
    obtain ⟨f1,f2,f3⟩:=B.fvs.mem y (Au e)
    have e3:σ[y.2]?=some (some v):=by
     cases q:σ[y.2]? with
     | none=>rw [q] at e2; cases e2
     | some z=>rw [q] at e2; exact congrArg some e2
    obtain ⟨m,hm,hl⟩:=I.loc;obtain ⟨u,r,l⟩:=hl y.2 y.1 v f1 e3 (by rcases f3 with z | z; exact .inr (.inl z); exact .inr (.inr z));rw [e1] at f2 f3 l;refine ⟨u,r,?_⟩;obtain ⟨c,hc⟩:=fr x f2;have rk:=t7 x c hc
    rcases l with ⟨l1,_⟩ | ⟨_,c2,l2,l3⟩
    ·rcases f3 with z | z
     ·rw [l1] at z; cases z
     ·rw [l1] at z; cases z
    ·rw [rk] at l2
     cases l2;have hv:Vis (relabel scope X.env) x:=h3
     rcases hv with z | z | z
     ·exfalso
      exact Os f2 z
     ·exact .inr ⟨.inl z,c,hc,l3.keeps hk⟩
     ·exact .inr ⟨.inr z,c,hc,l3.keeps hk⟩
 ·obtain ⟨v,z⟩:=I.cell x c (t7 x c e)
  exact ⟨v,z.keeps hk⟩
 ·exact absurd (show p∈([]:List (Addr × Obj)) from hp) (by simp)
 ·show (ts.map (λ_=>(none:Option V)) ++ fv.map λy=>(σ[y.2]?).join).length=(ts ++ fv.map (·.1)).length
  simp
def Inv.apart (I:Inv X j0 σ H s) (hs:Heap.SameBut C s.heap h') (hC:H C=none) (h0:X.s₀.heap.objs.size<=C) (hL:C≠X.env.locals) (hc:∀ x c,X.env.cells.lookup x=some c->c≠C) (hp:∀ p∈X.pn ++ j0,p.1≠C) :
  Inv X j0 σ H { s with heap:=h' } :=
 I.turned (t':=s.toks) (it:=C) (λb o hb e=>(hs.2 b hb).trans e) hC hL (.inr h0) hc hp
def Qm (I:Inv X j0 σ H s) (hf:∀ b∈fp,FpOk X j0 H b) (hC:s.heap.objs.size<=C)
  (J:Inv (Zq X N' scope C s H fp) [] σ' H' s'):Inv X j0 σ H' s'/\H' C=none/\X.s₀.heap.objs.size<=C/\C≠X.env.locals/\(∀ x c,X.env.cells.lookup x=some c->c≠C)/\(∀ p∈X.pn ++ j0,p.1≠C):=by
 refine ⟨I.call' J.os J.base J.hok J.bare λb hb=>?_,J.free,Nat.le_trans I.sz hC,Nat.ne_of_gt (Ag I.lt hC),λx c e z=>?_,λp hp z=>?_⟩
 ·obtain ⟨_,h1,_,h3,h4,h5⟩:=hf b hb
  exact ⟨h3,h1,h4,h5⟩
 ·obtain ⟨v,q⟩:=I.cell x c e
  exact absurd (Ag q.lt (by rw [z]; exact hC)) (Nat.lt_irrefl _)
 ·exact absurd (Ag (Ao (I.pin p hp).1) (by rw [z]; exact hC)) (Nat.lt_irrefl _)
end
abbrev TB:=St->Hp->(St->Hp->Prop)->Prop
def PTs (X:Cx) (ifs:List Expr) (t:TT):Prop :=
 ∀ (j0:List (Addr × Obj)) (s:Shared) (σ:St) (H:Hp) (Q:Bool->Hp->Prop),Inv X j0 σ H s->t σ H Q ->
  wpAny (model X.prog X.w) X.A (forIn ifs true λc r=>if r=true then do let ok <- isTrue c X.env (eval c X.env); pure (ForInStep.yield ok) else pure (ForInStep.yield r)) (TP X j0 σ Q) X.xe s
def tYes:TT:=λ_ H Q=>Q true H
def Yi:PTs X [] tYes:=λj0 s σ H Q I h=>wpAny_tests_nil ⟨H,I,h⟩
def Zht (h:PT X c t):PTs X [c] t:=λj0 s σ H Q I hq=>wpAny_tests_one (h j0 s σ H Q I hq)
def PB (X:Cx) (j6:Sem Fin) (c:Code) (t:TB):Prop :=
 ∀ (j0:List (Addr × Obj)) (s:Shared) (σ:St) (H:Hp) (N:St->Hp->Prop),Inv X j0 σ H s->t σ H N ->
  wpAny (model X.prog X.w) X.A j6 (λki s'=>ki=.again c/\∃ σ' H',Inv X j0 σ' H' s'/\N σ' H') X.xe s
def X0 (J:It) (g:TG) (tt:TT) (tb:TB) (R:St->Hp->Prop) (σ:St) (H:Hp):Prop :=
 ∃ W:Nat->Nat->St->Hp->Prop,(∃ m,W 0 m σ H)/\∀ i m σ H,W i m σ H ->
  (J.stop i H/\R σ H)\/(J.go i H/\∃ N:St->Hp->Prop,(∀ σ' H',N σ' H'->∃ m',m' < m/\W (i + 1) m' σ' H') /\
   ∀ x H',J.yld i H x H'->g x σ H' λσ2 H2=>tt σ2 H2 λb H3=>if b=true then tb σ2 H3 N else N σ2 H3)
section
variable {X:Cx}
theorem Vz {s:Shared} (l6:X.xe=λ_ _=>False)
  (zi:Code.quiet (.compLoop e d (.ref it) j3 X.env)=true) (tf:(model X.prog X.w).den (.compLoop e d (.ref it) j3 X.env)=(compTurn e d (.ref it) j3 X.env).onRaise (λx=>do noteFrame x X.env; theTreesLotGoes x))
  (sj:X.A.under (.compLoop e d (.ref it) j3 X.env)=X.A)
  (lx:compTurn e d (.ref it) j3 X.env=(standAt p >>= λ_=>pyNext (.ref it) >>= λr=>match r with
   | none=>pure (.done .next)
   | some v=>letOwnedTupleGo tg (.ref it) v >>= λ_=>assign tg X.env v >>= λ_ =>
    (forIn ifs true λc r=>if r=true then do let ok <- isTrue c X.env (eval c X.env); pure (ForInStep.yield ok) else pure (ForInStep.yield r)) >>= λok =>
     if ok=true then j6 else again (.compLoop e d (.ref it) j3 X.env)))
  (T:Turn X.prog X.w X.K tg J fp it tn) (hc:X.calm=true) (hg:PG X tg g) (ht:PTs X ifs tt) (hb:PB X j6 (.compLoop e d (.ref it) j3 X.env) tb)
  (hf:∀ b∈fp,FpOk X j0 H b) (I:Inv X j0 σ H s) (st:tn 0 s.heap) (h:X0 J g tt tb R σ H)
  (hR:∀ s' σ' H',Inv X j0 σ' H' s'->R σ' H'->RR (.ok .next) s') :
  codeAny (model X.prog X.w) X.A (.compLoop e d (.ref it) j3 X.env) RR s:=by
 obtain ⟨W,⟨m0,w0⟩,lz⟩:=h;have kt:∀ {H':Hp},(∀ b∈fp,H' b=none)->∀ b∈fp,FpOk X j0 H' b:=λhn b hb=>⟨hn b hb,(hf b hb).2⟩;refine codeAny_loop zi (λn s'=>∃ i σ' H',Inv X j0 σ' H' s'/\tn i s'.heap/\(∀ b∈fp,H' b=none)/\W i n σ' H') ?_ m0 ⟨0,σ,H,I,st,λb hb=>(hf b hb).1,w0⟩;rintro n s3 ⟨i,σ3,H3,I3,k8,oh,w3⟩;rw [tf,sj];refine wpAny_noted (wpAny_mono (E:=λ_ _=>False) ?_ (λ_ _ q=>q) λ_ _ z=>z.elim);rw [lx];have hxe':∀ {α:Type} {t:Sem α} {Q:α->Shared->Prop} {s:Shared},wpAny (model X.prog X.w) X.A t Q X.xe s->wpAny (model X.prog X.w) X.A t Q (λ_ _=>False) s:=λh=>by rw [l6] at h; exact h
 refine Al (wpAny_standAt (Al ?_))
 rcases lz i n σ3 H3 w3 with ⟨stop,qn⟩ | ⟨go,N,hN,step⟩
 ·refine thn (T.done X rfl rfl rfl hc i j0 s3 σ3 H3 _ I3 (kt oh) k8 stop) λr s4 ⟨hr,I4⟩=>?_
  subst hr;exact wpAny_pure (hR s4 σ3 H3 I4 qn)
 ·refine thn (T.item X rfl rfl rfl hc i j0 s3 σ3 H3 _ I3 (kt oh) k8 go) λr s4 ⟨u,hr,h4⟩=>?_
  subst hr;refine Al (thn h4 λ_ s5 j2=>?_);obtain ⟨x,H5,I5,r5,y5,ml,rq⟩:=j2;have r0:=I5.pinned (kt rq) (T.obj _ _ ml);refine Al (hxe' (thn (hg _ s5 σ3 H5 x u _ r0 r5 (step x H5 y5)) λ_ s6 j2=>?_));obtain ⟨σ6,H6,I6,q6⟩:=j2;refine Al (l6 ▸ thn (ht _ s6 σ6 H6 _ I6 q6) λok s7 j2=>?_);obtain ⟨H7,I7,q7⟩:=j2;have ou:∀ {σ7:St} {H7:Hp} {s7:Shared},Inv X (j0 ++ Jc fp s5.heap) σ7 H7 s7->N σ7 H7->∃ m,m < n/\∃ i σ' H',Inv X j0 σ' H' s7/\tn i s7.heap/\(∀ b∈fp,H' b=none)/\W i m σ' H':=λ{σ7 H7 s7} I7 n7=>by
   obtain ⟨m',hm,w7⟩:=hN σ7 H7 n7
   refine ⟨m',hm,i + 1,σ7,H7,I7.unpinned,T.keep _ _ _ ml λb hb o e=>(I7.pin (b,o) (List.mem_append_right _ (List.mem_append_right _ (Xa hb e)))).1,λb hb=>?_,w7⟩
   obtain ⟨o,e,d⟩:=T.obj _ _ ml b hb
   exact (I7.pin (b,o) (List.mem_append_right _ (List.mem_append_right _ (Xa hb e)))).2.1
  cases ok with
  | false=>exact l6 ▸ wpAny_pure ⟨Z,ou I7 q7⟩
  | true =>
   refine thn (hb _ s7 σ6 H7 N I7 q7) λki s8 j2=>?_;obtain ⟨su,σ8,H8,I8,q8⟩:=j2;subst su;exact ⟨Z,ou I8 q8⟩
end
def Zgt (te:TE) (D:Addr):TB:=λσ H N=>te σ H λv H1=>∃ xs,H1 D=some (.lst xs)/\xs.length < sizeLine/\N σ (upd H1 D (.lst (xs ++ [v])))
section
variable {X:Cx}
def Xj (he:PE X kd te) :
  PB X ((eval kd X.env >>= λx=>call (.builtin "list.append") [.ref D,x] >>= λ_=>pure ()) >>= λ_=>again c) c (Zgt te D):=by
 intro j0 s σ H N I h;refine Al (Al (thn (he j0 s σ H _ I h) λu s1 j2=>?_));obtain ⟨v,H1,I1,r1,q1⟩:=j2;obtain ⟨xs,hD,hl,q⟩:=q1;refine Al (thn (Y1 j0 s1 σ H1 (.ref D) [v] (.ref D) [u] (λ_ H2=>N σ H2) I1 Z (.cons r1 .nil) ⟨D,xs,v,Z,Z,hD,hl,q⟩) λ_ s2 j2=>?_);obtain ⟨_,H2,I2,_,q2⟩:=j2;exact wpAny_pure (wpAny_pure ⟨Z,σ,H2,I2,q2⟩)
def tGen (wi:TI) (g:TG) (tt:TT) (tb:TB):TB:=λσ H N=>wi σ H λJ H1=>X0 J g tt tb N σ H1
def Zdq {t0 i0:Expr} {f0:List Expr} {t1 i1:Expr} {f1:List Expr}
  (h0:codeAny (model prog w) A (.compLoop (.ListComp kd [⟨t0,i0,f0,0⟩,⟨t1,i1,f1,0⟩] scope pos) 1 it j3 env) R s)
  (h:wpAny (model prog w) A (pyIter it) (λyl s'=>codeAny (model prog w) A (.compLoop (.ListComp kd [⟨t0,i0,f0,0⟩,⟨t1,i1,f1,0⟩] scope pos) 1 yl j3 env) R s')
   (notedBy (model prog w) A env λx s'=>R (.error x) s') s) :
  codeAny (model prog w) A (.compStart (.ListComp kd [⟨t0,i0,f0,0⟩,⟨t1,i1,f1,0⟩] scope pos) 1 it j3 env) R s:=by
 refine codeAny_of_tree ?_;show wpAny _ _ ((compStart (.ListComp kd [⟨t0,i0,f0,0⟩,⟨t1,i1,f1,0⟩] scope pos) 1 it j3 env).onRaise (λx=>do noteFrame x env; standAt theWindowsPlace)) _ _ s;refine wpAny_notedAt ?_;unfold compStart;show wpAny _ _ (ask >>= _) _ _ s;refine Al (wpAny_askSetting (wpAny_ite ?_));split
 ·first
   | exact Al (wpAny_pure (wpAny_pure (And.intro Z h0)))
   | exact wpAny_pure (And.intro Z h0)
 ·first
   | exact Al (wpAny_rule (Al (wpAny_standAt (Al (wpAny_mono h (λyl s' h'=>wpAny_pure (And.intro Z h')) λ_ _ x=>x)))))
   | (refine Al (wpAny_rule ?_); show wpAny _ _ (standAt i1.pos >>= _) _ _ s; exact Al (wpAny_standAt (Al (wpAny_mono h (λyl s' h'=>wpAny_pure (And.intro Z h')) λ_ _ x=>x))))
def Zej {t0 i0 i1:Expr} {f0:List Expr} (l6:X.xe=λ_ _=>False) (hc:X.calm=true)
  (hi:PI X t1 i1 wi) (hg:PG X t1 g) (ht:PTs X f1 tt) (he:PE X kd te) (hs:∀ x,foldedSetIterable i1 X.env x=pure x:=by intro _; rfl) :
  PB X (eval i1 X.env >>= λx=>standAt i1.pos >>= λ_=>foldedSetIterable i1 X.env x >>= λx=>holding [x] (pyIter x) >>= λit =>
   runOwn (.compStart (.ListComp kd [⟨t0,i0,f0,0⟩,⟨t1,i1,f1,0⟩] scope pos) 1 it (.ref D) X.env) X.env >>= λ_=>again c) c (tGen wi g tt (Zgt te D)):=by
 intro j0 s σ H N I h;refine Al (thn (hi j0 s σ H _ I h) λv s1 h1=>Al (wpAny_standAt ?_));rw [hs];refine Al (wpAny_pure (Al (wpAny_holding (thn h1 λqb s2 h2=>?_))));obtain ⟨it,fp,tn,J,H2,e,I2,T,l5,f2,L⟩:=h2;subst e;have loop:∀ (A:Around),A=X.A->codeAny (model X.prog X.w) A (.compLoop (.ListComp kd [⟨t0,i0,f0,0⟩,⟨t1,i1,f1,0⟩] scope pos) 1 (.ref it) (.ref D) X.env)
   (λr s'=>match r with | .ok f=>wpAny (model X.prog X.w) X.A (again c) (λki s'=>ki=.again c/\∃ σ' H',Inv X j0 σ' H' s'/\N σ' H') X.xe s' | .error e=>cameBackBy (model X.prog X.w) X.A X.env X.xe e s') s2:=by
  rintro A rfl
  exact Vz (tg:=t1) (ifs:=f1) (R:=N) l6 Z Z Z Z T hc hg ht (Xj (c:=.compLoop (.ListComp kd [⟨t0,i0,f0,0⟩,⟨t1,i1,f1,0⟩] scope pos) 1 (.ref it) (.ref D) X.env) he) f2 I2 l5 L λs' σ' H' I' q=>wpAny_pure ⟨Z,σ',H',I',q⟩
 refine Al (wpAny_runOwn (h:=none) ?_);exact Zdq (loop _ Z) (T.self _ _ _ _ _ l5 (loop _ Z))
end
def Zcq (ts:List Str) (fv:List (Str × Nat)) (wi:TI) (g:TG) (tt:TT) (tb:Addr->TB):TE:=λσ H Q=>wi σ H λJ H1=>∀ D,H1 D=none ->
 X0 J g tt (tb D) (λ_ H'=>Q (.ref D) H') (blkS ts fv σ) (upd H1 D (.lst []))
section
variable {X:Cx} {ts:List Str} {fv:List (Str × Nat)} {scope:Scope} {kd t0 i0:Expr} {f0:List Expr} {rest:List Comprehension} {pos:Pos} {wi:TI} {g:TG} {tt:TT} {tb:Addr->TB} {j6:Env->Addr->Addr->Sem Fin}
theorem Gj (B:BlkOk X scope fv) (hc:X.calm=true) (hi:PI X t0 i0 wi)
  (hg:∀ C s₀ H₀ ex,PG (Zq X (blkN ts fv) scope C s₀ H₀ ex) t0 g) (ht:∀ C s₀ H₀ ex,PTs (Zq X (blkN ts fv) scope C s₀ H₀ ex) f0 tt)
  (lx:∀ (env:Env) (it D:Addr),compTurn (.ListComp kd (⟨t0,i0,f0,0⟩ :: rest) scope pos) 0 (.ref it) (.ref D) env=(standAt i0.pos >>= λ_=>pyNext (.ref it) >>= λr=>match r with
   | none=>pure (.done .next)
   | some v=>letOwnedTupleGo t0 (.ref it) v >>= λ_=>assign t0 env v >>= λ_ =>
    (forIn f0 true λc r=>if r=true then do let ok <- isTrue c env (eval c env); pure (ForInStep.yield ok) else pure (ForInStep.yield r)) >>= λok =>
     if ok=true then j6 env it D else again (.compLoop (.ListComp kd (⟨t0,i0,f0,0⟩ :: rest) scope pos) 0 (.ref it) (.ref D) env)))
  (hb:∀ C s₀ H₀ ex it D,PB (Zq X (blkN ts fv) scope C s₀ H₀ ex) (j6 (Zq X (blkN ts fv) scope C s₀ H₀ ex).env it D) (.compLoop (.ListComp kd (⟨t0,i0,f0,0⟩ :: rest) scope pos) 0 (.ref it) (.ref D) (Zq X (blkN ts fv) scope C s₀ H₀ ex).env) (tb D)) {RR:Value->Addr->Result->Shared->Prop} (I:Inv X j0 σ H s) (h:Zcq ts fv wi g tt tb σ H Q)
  (zq:∀ D C s' H',Inv X j0 σ H' s'->H' C=none->X.s₀.heap.objs.size<=C->C≠X.env.locals->(∀ x c,X.env.cells.lookup x=some c->c≠C)->(∀ p∈X.pn ++ j0,p.1≠C)->(∃ m,s'.heap.Ns C m)->Q (.ref D) H'->RR (.ref D) C (.ok .next) s') :
  wpAny (model X.prog X.w) X.A (eval i0 X.env) (λx s₁=>wpAny (model X.prog X.w) X.A (pyIter x) (λit s₂=>wpAny (model X.prog X.w) X.A (newList []) (λj3 s₃ =>
   wpAny (model X.prog X.w) X.A (newFunctionEnv scope X.env.globals (Yj X.env scope.names []) [] X.env.qual none .none (some X.env)) (λl4 s₄ =>
    codeAny (model X.prog X.w) X.A (.compStart (.ListComp kd (⟨t0,i0,f0,0⟩ :: rest) scope pos) 0 it j3 { l4 with scope:=relabel scope X.env }) (RR j3 l4.locals) s₄) X.xe s₃) X.xe s₂) X.xe s₁) X.xe s:=by
 refine thn (hi j0 s σ H _ I h) λv s1 h1=>thn h1 λqb s2 h2=>?_;obtain ⟨it,fp,tn,J,H2,e,I2,T,l5,f2,L⟩:=h2;subst e;have L:=L s2.heap.objs.size I2.fresh;refine wpAny_newObj_type ?_;have I3:Inv X j0 σ (upd H2 s2.heap.objs.size (.lst [])) { s2 with heap:=s2.heap.push { cls:=.type "list",data:=.seq ([]:List Value).toArray },toks:=s2.toks }:=I2.lnew (its:=[]) (t':=s2.toks) .nil (Az _);have lq:∀ b∈fp,∃ o,s2.heap.get? b=some o/\∀ v,o.data≠.cell v:=T.obj _ _ l5;have f3:∀ b∈fp,FpOk X j0 (upd H2 s2.heap.objs.size (.lst [])) b:=λb hb=>by
  obtain ⟨o,ho,_⟩:=lq b hb
  refine ⟨?_,(f2 b hb).2⟩
  rw [Ze (As (Ao ho))]
  exact (f2 b hb).1
 have k8:tn 0 (s2.heap.push { cls:=.type "list",data:=.seq ([]:List Value).toArray }):=T.keep _ _ _ l5 λb _ o e=>Ak _ e;have my:∀ b∈fp,∃ o,(s2.heap.push { cls:=.type "list",data:=.seq ([]:List Value).toArray }).get? b=some o:=λb hb=>let ⟨o,e,_⟩:=lq b hb; ⟨o,Ak _ e⟩
 generalize hs3:({ s2 with heap:=s2.heap.push { cls:=.type "list",data:=.seq ([]:List Value).toArray },toks:=s2.toks }:Shared)=s3 at I3;have eh:s2.heap.push { cls:=.type "list",data:=.seq ([]:List Value).toArray }=s3.heap:=by rw [<- hs3]
 rw [eh] at k8 my;refine wpAny_newFunctionEnv B.nocell (by intro y hy; simp at hy) (λh₁ nr n8=>?_) B.kind;have hk:∀ b o,s3.heap.get? b=some o->h₁.get? b=some o:=λb o e=>n8.extBut b o (As (Ao e)) (Ak _ e);have I4:=J7 (ts:=ts) (tk:=s3.toks + ([]:List (Str × Value)).length) B I3 f3 my nr hk;have f4:∀ b∈fp,FpOk (Zq X (blkN ts fv) scope s3.heap.objs.size s3 (upd H2 s2.heap.objs.size (.lst [])) fp) [] (upd H2 s2.heap.objs.size (.lst [])) b:=λb hb=>by
  obtain ⟨f0,f1,z9,z8,z0,zz⟩:=f3 b hb
  obtain ⟨o,eo⟩:=my b hb
  exact ⟨f0,As (Ao eo),I4.ok.exfs b hb,.inl hb,(I4.ok.exf b hb).2,λp hp=>absurd (show p∈([]:List (Addr × Obj)) from hp) (by simp)⟩
 have n5:tn 0 h₁:=T.keep _ _ _ k8 λb _ o e=>hk b o e;have loop:codeAny (model X.prog X.w) X.A (.compLoop (.ListComp kd (⟨t0,i0,f0,0⟩ :: rest) scope pos) 0 (.ref it) (.ref s2.heap.objs.size) (Zq X (blkN ts fv) scope s3.heap.objs.size s3 (upd H2 s2.heap.objs.size (.lst [])) fp).env)
   (RR (.ref s2.heap.objs.size) s3.heap.objs.size) { s3 with heap:=h₁,toks:=s3.toks + ([]:List (Str × Value)).length }:=by
  refine Vz (X:=Zq X (blkN ts fv) scope s3.heap.objs.size s3 (upd H2 s2.heap.objs.size (.lst [])) fp) (tg:=t0) (ifs:=f0) (R:=λ_ H'=>Q (.ref s2.heap.objs.size) H') Z Z Z Z (lx _ it s2.heap.objs.size) T hc (hg _ _ _ _) (ht _ _ _ _) (hb _ _ _ _ it s2.heap.objs.size) f4 I4 n5 L λs' σ' H' J' q=>?_
  obtain ⟨e1,e2,e3,e4,e5,e6⟩:=Qm I3 f3 (An _) J'
  obtain ⟨m,hm,_⟩:=J'.loc
  exact zq _ _ s' H' e1 e2 e3 e4 e5 e6 ⟨m,hm⟩ q
 exact codeAny_compStart_list loop (T.self _ _ _ _ _ n5 loop)
theorem Y5 (B:BlkOk X scope fv) (hc:X.calm=true) (hi:PI X t0 i0 wi)
  (hg:∀ C s₀ H₀ ex,PG (Zq X (blkN ts fv) scope C s₀ H₀ ex) t0 g) (ht:∀ C s₀ H₀ ex,PTs (Zq X (blkN ts fv) scope C s₀ H₀ ex) f0 tt)
  (lx:∀ (env:Env) (it D:Addr),compTurn (.ListComp kd (⟨t0,i0,f0,0⟩ :: rest) scope pos) 0 (.ref it) (.ref D) env=(standAt i0.pos >>= λ_=>pyNext (.ref it) >>= λr=>match r with
   | none=>pure (.done .next)
   | some v=>letOwnedTupleGo t0 (.ref it) v >>= λ_=>assign t0 env v >>= λ_ =>
    (forIn f0 true λc r=>if r=true then do let ok <- isTrue c env (eval c env); pure (ForInStep.yield ok) else pure (ForInStep.yield r)) >>= λok =>
     if ok=true then j6 env it D else again (.compLoop (.ListComp kd (⟨t0,i0,f0,0⟩ :: rest) scope pos) 0 (.ref it) (.ref D) env)))
  (hb:∀ C s₀ H₀ ex it D,PB (Zq X (blkN ts fv) scope C s₀ H₀ ex) (j6 (Zq X (blkN ts fv) scope C s₀ H₀ ex).env it D) (.compLoop (.ListComp kd (⟨t0,i0,f0,0⟩ :: rest) scope pos) 0 (.ref it) (.ref D) (Zq X (blkN ts fv) scope C s₀ H₀ ex).env) (tb D))
  (hs:∀ x,foldedSetIterable i0 X.env x=pure x:=by intro _; rfl) :
  PE X (.ListComp kd (⟨t0,i0,f0,0⟩ :: rest) scope pos) (Zcq ts fv wi g tt tb):=by
 intro j0 s σ H Q I h;rw [eval_ListComp];refine wpAny_comprehension_free (use:=none) Z hs (X7 λy hy e=>I.ok.has y.1 (B.free y hy e)) B.kind B.names ?_;refine Gj (RR:=λj3 C=>compPost (model X.prog X.w) X.A X.xe none (EP X j0 σ Q) j3 C) B hc hi hg ht lx hb I h λD C s' H' I' e2 e3 e4 e5 e6 hm q=>?_;obtain ⟨m,hm⟩:=hm;exact ⟨m,hm,λh' nv=>⟨.ref D,H',I'.apart nv e2 e3 e4 e5 e6,Z,q⟩⟩
theorem Zbt {ol:Pos} (B:BlkOk X scope fv) (hc:X.calm=true) (hN:X.N.Nodup) (zc:X.N[i]?=some y) (u4:X.env.scope.names.lookup y=some .local)
  (yq:swapsWith (.ListComp kd (⟨t0,i0,f0,0⟩ :: rest) scope pos) (some (.Name y py)) ol.line X.env=pure true) (hi:PI X t0 i0 wi)
  (hg:∀ C s₀ H₀ ex,PG (Zq X (blkN ts fv) scope C s₀ H₀ ex) t0 g) (ht:∀ C s₀ H₀ ex,PTs (Zq X (blkN ts fv) scope C s₀ H₀ ex) f0 tt)
  (lx:∀ (env:Env) (it D:Addr),compTurn (.ListComp kd (⟨t0,i0,f0,0⟩ :: rest) scope pos) 0 (.ref it) (.ref D) env=(standAt i0.pos >>= λ_=>pyNext (.ref it) >>= λr=>match r with
   | none=>pure (.done .next)
   | some v=>letOwnedTupleGo t0 (.ref it) v >>= λ_=>assign t0 env v >>= λ_ =>
    (forIn f0 true λc r=>if r=true then do let ok <- isTrue c env (eval c env); pure (ForInStep.yield ok) else pure (ForInStep.yield r)) >>= λok =>
     if ok=true then j6 env it D else again (.compLoop (.ListComp kd (⟨t0,i0,f0,0⟩ :: rest) scope pos) 0 (.ref it) (.ref D) env)))
  (hb:∀ C s₀ H₀ ex it D,PB (Zq X (blkN ts fv) scope C s₀ H₀ ex) (j6 (Zq X (blkN ts fv) scope C s₀ H₀ ex).env it D) (.compLoop (.ListComp kd (⟨t0,i0,f0,0⟩ :: rest) scope pos) 0 (.ref it) (.ref D) (Zq X (blkN ts fv) scope C s₀ H₀ ex).env) (tb D))
  (hs:∀ x,foldedSetIterable i0 X.env x=pure x:=by intro _; rfl) :
  PS X (.Assign [.Name y py] (.ListComp kd (⟨t0,i0,f0,0⟩ :: rest) scope pos) ol) (tAsg (Zcq ts fv wi g tt tb) (Zv i)):=by
 intro j0 s σ H D0 I h;rw [exec_Assign_Name_used _ _ _ _ yq];refine Al (wpAny_standAt (Al ?_));show wpAny _ X.A (do let _ <- comprehension (.ListComp kd (⟨t0,i0,f0,0⟩ :: rest) scope pos) scope X.env _ (newList []) false (eval i0 X.env) (some (assign (.Name y py) X.env))) _ _ s;refine Al (wpAny_mono (wpAny_comprehension_free (use:=some (assign (.Name y py) X.env)) (Q:=λ_ s'=>SP X j0 D0 .next s') Z hs (X7 λy hy e=>I.ok.has y.1 (B.free y hy e)) B.kind B.names ?_) (λ_ s' hq=>wpAny_pure (wpAny_pure hq)) λ_ _ e=>e);refine Gj (Q:=λx H1=>Zv i x σ H1 D0.nx) (RR:=λj3 C=>compPost (model X.prog X.w) X.A X.xe (some (assign (.Name y py) X.env)) (λ_ s'=>SP X j0 D0 .next s') j3 C) B hc hi hg ht lx hb I h λD C s' H' I' e2 e3 e4 e5 e6 hm q=>?_;obtain ⟨m,hm⟩:=hm;show wpAny _ X.A (assign (.Name y py) X.env (.ref D)) _ _ _;refine wpAny_assign_Name (Q7 I' hN zc (.inl u4) (show RelV (.ref D) (.ref D) from Z) (λlw I'' mq=>?_) (.inr u4));obtain ⟨a,n8,ha⟩:=mq;have zp:C≠a:=by
  rcases ha with e | e
  ·rw [e]; exact e4
  ·exact λz=>e5 y a e z.symm
 exact ⟨m,hm.sameBut n8 zp,λh' nv=>⟨_,H',I''.apart nv e2 e3 e4 e5 e6,q⟩⟩
end
def FlyT (e T:Addr) (cls a0:Value) (h:Heap):Prop :=
 ∃ oe vs oT ts,h.get? e=some oe/\(oe.cls=cls/\vs[0]?=some a0)/\oe.data=.fields vs/\vs[1]?=some (.ref T)/\T≠e/\h.get? T=some oT/\oT.data=.fields ts/\ts[3]?=some .none
def CXr (P:Program) (w:World):CXT:=λouter H s E ev s' =>
 ∃ (e T:Addr) (cls a0:Value) (H':Hp),ev=.ref e/\s'.os=s.os/\AllBare s'.gens/\Un (frs outer) [] H H' s.heap s'.heap/\HOk P w H' s'.heap /\
  s.heap.get? e=none/\s.heap.get? T=none/\H' e=none/\H' T=none/\FlyT e T cls a0 s'.heap/\E cls none H'
def X9 {X:Cx}:Jx (CXr X.prog X.w) X E0:=λ_ _ _ _ _ _ _ h=>by
 obtain ⟨_,_,_,_,_,_,_,_,_,_,_,_,_,_,_,z⟩:=h;exact z.elim
def Zib (h:CXr P w [] H s (λ_ _ _=>False) e s'):False:=by
 obtain ⟨_,_,_,_,_,_,_,_,_,_,_,_,_,_,_,z⟩:=h;exact z
section
variable {P:Program} {w:World} {K:W.Frag} {mg:Str->Option Value} {base:Heap}
def Fun.okR {x qual:Str} {st:Stmt} {f:Addr} {fd:FuncData} {N ps:List Str} {k:Nat} {sp:Sp} (F:Fun K x qual st f fd) (S:FnScope N ps (Zf st)) (len:∀ vs H Q E,sp vs H Q E->vs.length=ps.length)
  (kg:∀ (j5:Value) (A:Around) (outer:List Env) (s:Shared) (H:Hp) (vs:List V) (Q:VK) (E:XK),Room k (A.deeper (envOfC qual (Zf st) s.heap.objs.size f j5))->sp vs H Q E ->
   ∃ t,PSs (cxOf (CXr P w) P w K mg base N qual (Zf st) f j5 A outer s H E).nox (Yd st) t/\t { nx:=λ_ H'=>Q .non H',rt:=Q } (start N vs) H):FnOk P w K mg base (CXr P w) (k + 1) f fd ps sp:=by
 obtain ⟨oc,od,kV,ka,pm,an,j5,ct,n6,rfl,lk,ly⟩:=F.ex;refine Fd lk ly S len λA outer s H vs Q E hr k7=>?_;obtain ⟨t,h,q⟩:=kg j5 A outer s H vs Q E hr k7;exact ⟨t,h.nox,q⟩
end
section
variable {X:Cx}
def Ym {X:Cx} {scope:Scope} (h:scope.names.all (λy=>y.2 != .free || X.env.kindOf y.1 == some .cell || X.env.kindOf y.1 == some .free)=true) :
  ∀ y∈scope.names,y.2=.free->X.env.kindOf y.1=some .cell\/X.env.kindOf y.1=some .free:=λy hy e=>by
 have:=List.all_eq_true.mp h y hy;simp [e] at this;exact this
end
def walk_r {l:PySem.W.OpenLaw} {k:Nat} {q:Program} {ni:List Str} {XP:(Str->Option Value)->Heap->Prop} {YP:World->Heap->Prop} {d:DefRec} {K:Params->PySem.W.Frag} {spl:PySem.W.Frag->Sp}
  (hn:l.most=some 63) (vj:d.params.defaults=[]) (hr:Room k callerA) (hY:∀ (w:World) (h:Heap),YP w h->(K w.params).In h)
  (k7:∀ (K:W.Frag) (H:Hp) (a:Addr) (ns:List Int),ns.length<=63->SqL K H a (ns.map V.int)->spl K [.ref a] H (λv _=>v=.bl true) λ_ _ _=>False)
  (F:∀ (w:World) (mg:Str->Option Value) (fa:Addr) (h:Heap),(K w.params).In h->h.Ns mainGlobals mg->mg d.name=some (.ref fa) ->
   ∃ fd:FuncData,(∀ (s:Shared) (u:Value),BindsTo s fd ⟨[u],[]⟩ [("_law_script",u)]) /\
    ∀ base:Heap,(K w.params).In base->base.Ns mainGlobals mg->FnOk l.prog w (K w.params) mg base (CXr l.prog w) k fa fd ["_law_script"] (spl (K w.params))) :
  PySem.W.WalkO q ni XP YP l.row.toRowW d [] (λf vs=>PySem.call f vs) :=
 Zg5 (n:=63) (k:=k) (x:="_law_script") (CX:=λw=>CXr l.prog w) (sp:=λw=>spl (K w.params)) hn (by decide) vj hr hY F (λw H a ns hl _ hS=>k7 _ H a ns hl hS) (λw H s e s' h=>Zib h)
def ExT (e:Addr) (T:Option Addr) (cls a0:Value) (h:Heap):Prop:=match T with
 | some T=>FlyT e T cls a0 h
 | none=>∃ oe vs,h.get? e=some oe/\(oe.cls=cls/\vs[0]?=some a0)/\oe.data=.fields vs/\vs[1]?=some .none
structure FxOk (X:Cx) (j0:List (Addr × Obj)) (H:Hp) (b:Addr):Prop where
 nt:H b=none
 nl:b≠X.env.locals
 nf:b ∉ X.fs
 n0:X.s₀.heap.get? b=none
 nc:∀ x c,X.env.cells.lookup x=some c->c≠b
 np:∀ p∈X.pn ++ j0,p.1≠b
def XS (fr:Bool) (X:Cx) (j0:List (Addr × Obj)) (R:Value->St->Hp->Prop) (ev:Value) (s':Shared):Prop :=
 ∃ (e:Addr) (T:Option Addr) (cls a0:Value) (σ':St) (H':Hp),ev=.ref e/\Inv X j0 σ' H' s'/\ExT e T cls a0 s'.heap/\FxOk X j0 H' e/\(∀ t,T=some t->FxOk X j0 H' t)/\(T=none->fr=true)/\R cls σ' H'
abbrev TSX:=Ends->(Value->St->Hp->Prop)->St->Hp->Prop
abbrev TEX:=St->Hp->VK->XK->Prop
def PSX (fr:Bool) (X:Cx) (st:Stmt) (t:TSX):Prop :=
 ∀ (j0:List (Addr × Obj)) (s:Shared) (σ:St) (H:Hp) (D:Ends) (R:Value->St->Hp->Prop),Inv X j0 σ H s->t D R σ H->wpAny (model X.prog X.w) X.A (exec st X.env) (SP X j0 D) (XS fr X j0 R) s
def PSsX (fr:Bool) (X:Cx) (st:List Stmt) (t:TSX):Prop :=
 ∀ (j0:List (Addr × Obj)) (s:Shared) (σ:St) (H:Hp) (D:Ends) (R:Value->St->Hp->Prop),Inv X j0 σ H s->t D R σ H->wpAny (model X.prog X.w) X.A (execs st X.env) (SP X j0 D) (XS fr X j0 R) s
def PEX (fr:Bool) (X:Cx) (e:Expr) (t:TEX):Prop :=
 ∀ (j0:List (Addr × Obj)) (s:Shared) (σ:St) (H:Hp) (Q:VK) (E:XK),Inv X j0 σ H s->t σ H Q E->wpAny (model X.prog X.w) X.A (eval e X.env) (EP X j0 σ Q) (XS fr X j0 λcls σ' H'=>σ'=σ/\E cls none H') s
section
variable {X:Cx} {fr:Bool}
def Z3 {st:Stmt} {t:TS} (h:PS X st t) (hx:X.xe=(λ_ _=>False):=by rfl):PSX fr X st (λD _ σ H=>t D σ H):=λj0 s σ H D R I q=>by
 have:=h j0 s σ H D I q;rw [hx] at this;exact wpAny_mono this (λ_ _ z=>z) λ_ _ z=>z.elim
def V4 {st:List Stmt} {t:TS} (h:PSs X st t) (hx:X.xe=(λ_ _=>False):=by rfl):PSsX fr X st (λD _ σ H=>t D σ H):=λj0 s σ H D R I q=>by
 have:=h j0 s σ H D I q;rw [hx] at this;exact wpAny_mono this (λ_ _ z=>z) λ_ _ z=>z.elim
def Fb (t u:TSX):TSX:=λD R σ H=>t { D with nx:=u D R } R σ H
def Zx {st:Stmt} {rest:List Stmt} {t u:TSX} (h1:PSX fr X st t) (h2:PSsX fr X rest u):PSsX fr X (st :: rest) (Fb t u):=by
 intro j0 s σ H D R I h;refine wpAny_execs_cons (thn (h1 j0 s σ H { D with nx:=u D R } R I h) λf s1 q=>?_)
 cases f with
 | next =>
  obtain ⟨σ',H',I',q⟩:=q;exact h2 j0 s1 σ' H' D R I' q
 | ret v=>exact q
 | brk=>exact q
 | cont=>exact q
def Zu {st:Stmt} {t:TSX} (h1:PSX fr X st t):PSsX fr X [st] t:=by
 intro j0 s σ H D R I h;refine wpAny_execs_cons (thn (h1 j0 s σ H D R I h) λf s1 q=>?_)
 cases f with
 | next=>exact wpAny_execs_nil q
 | ret v=>exact q
 | brk=>exact q
 | cont=>exact q
def Xn:PSsX fr X [] (λD _ σ H=>D.nx σ H):=λ_ _ σ H _ _ I h=>wpAny_execs_nil ⟨σ,H,I,h⟩
def tIfX (c:TT) (t u:TSX):TSX:=λD R σ H=>c σ H λb H1=>if b=true then t D R σ H1 else u D R σ H1
def Xr (hc:PT X c tc) (ha:PSsX fr X a t) (hb:PSsX fr X b u) (hx:X.xe=(λ_ _=>False):=by rfl):PSX fr X (.If c a b pos) (tIfX tc t u):=by
 intro j0 s σ H D R I h;have h0:=hc j0 s σ H _ I h;rw [hx] at h0;refine wpAny_If (wpAny_mono h0 (λd s1 zz24=>?_) λ_ _ z=>z.elim);obtain ⟨H1,I1,q1⟩:=zz24
 cases d with
 | true=>exact ha j0 s1 σ H1 D R I1 q1
 | false=>exact hb j0 s1 σ H1 D R I1 q1
def Zio (te:TEX):TSX:=λD R σ H=>te σ H (λ_ H1=>D.nx σ H1) λcls _ H1=>R cls σ H1
def Z9 {pos:Pos} (he:PEX fr X e te) (hs:swapsWith e none pos.line X.env=pure false:=by rfl):PSX fr X (.Expr e pos) (Zio te):=by
 intro j0 s σ H D R I h;refine wpAny_Expr_any (wpAny_mono (he j0 s σ H _ _ I h) (λv s1 ⟨x,H1,I1,r1,q1⟩=>⟨σ,H1,I1,q1⟩) ?_) I.quiet hs;rintro ev s1 ⟨e,T,cls,a0,σ',H',h1,h2,h3,h4,h5,h7,rfl,h6⟩;exact ⟨e,T,cls,a0,σ',H',h1,h2,h3,h4,h5,h7,h6⟩
def Zjr (i:Nat) (te:TEX):TSX:=λD R σ H=>te σ H (λx H1=>D.nx (σ.set i (some x)) H1) λcls _ H1=>R cls σ H1
def Zb7 {pos:Pos} (hN:X.N.Nodup) (hi:X.N[i]?=some x) (hx:Loc X.env.scope x) (he:PEX fr X e te) (hs:swapsWith e (some (.Name x km)) pos.line X.env=pure false:=by rfl)
  (hf:X.fn x=true\/X.env.scope.names.lookup x=some .local:=by first | exact .inl rfl | exact .inr rfl | assumption):PSX fr X (.Assign [.Name x km] e pos) (Zjr i te):=by
 intro j0 s σ H D R I h;refine wpAny_Assign_Name (wpAny_mono (he j0 s σ H _ _ I h) (λv s1 ⟨y,H1,I1,r1,q1⟩=>?_) ?_) hs
 ·exact Jm I1 hN hi hx r1 (λs2 I2=>⟨_,H1,I2,q1⟩) hf
 ·rintro ev s1 ⟨e,T,cls,a0,σ',H',h1,h2,h3,h4,h5,h7,rfl,h6⟩
  exact ⟨e,T,cls,a0,σ',H',h1,h2,h3,h4,h5,h7,h6⟩
def Inv.cxr (I:Inv X j0 σ H s) (hex:X.ex=[]) (h:CXr X.prog X.w X.stack H s E ev s'):XS fr X j0 (λcls σ' H'=>σ'=σ/\E cls none H') ev s':=by
 obtain ⟨e,T,cls,a0,H',rfl,os,bare,un,hok,ne,nT,he,hT,fl,q⟩:=h;have I':Inv X j0 σ H' s':=I.call' os un hok bare λb hb=>absurd hb (by simp)
 have fx:∀ b,s.heap.get? b=none->H' b=none->FxOk X j0 H' b:=λb hb hn=>by
  refine ⟨hn,λz=>?_,λz=>?_,?_,λx c e z=>?_,λp hp z=>?_⟩
  ·obtain ⟨m,⟨o,_,_,ho,_⟩,_⟩:=I.loc
   rw [z,ho] at hb; cases hb
  ·obtain ⟨_,o,ho,_⟩:=I.funs.mem z
   rw [ho] at hb; cases hb
  ·cases q:X.s₀.heap.get? b with
   | none=>rfl
   | some o =>
    obtain ⟨o',e'⟩:=I.base.there b o q (by rw [hex]; simp);rw [hb] at e'; cases e'
  ·obtain ⟨v,o,ho,_⟩:=I.cell x c e
   rw [z,hb] at ho; cases ho
  ·have:=(I.pin p hp).1
   rw [z,hb] at this; cases this
 exact ⟨e,some T,cls,a0,σ,H',rfl,I',fl,fx e ne he,λt ht=>by cases ht; exact fx T nT hT,(λz=>nomatch z),Z,q⟩
variable {k:Nat} {f C:Addr} {fd:FuncData} {ps:List Str} {sp:Sp} {j8:List V} {ds:List Value} {x m:Str} {p pos j7:Pos} {e o:Expr} {es:List Expr} {ta:TE} {t:TA}
def V2 (F:FnOk X.prog X.w X.K X.mg X.base (CXr X.prog X.w) k f fd ps sp) (hr:Room k X.A) (hb:Xb X.K fd ps ds) (hd:Vals j8 ds) (hex:X.ex=[])
  (I:Inv X j0 σ H s) (r:Vals vs us) (h:sp (vs ++ j8) H Q E):wpAny (model X.prog X.w) X.A (call (.ref f) us) (EP X j0 σ Q) (XS fr X j0 λcls σ' H'=>σ'=σ/\E cls none H') s:=by
 have r2:Vals (vs ++ j8) (us ++ ds):=r.append hd;have hl:(us ++ ds).length=ps.length:=by rw [<- r2.length]; exact F.len _ _ _ _ h
 refine wpAny_call (codeAny_mono (F.run X.A X.stack s H ⟨us,[]⟩ (us ++ ds) (vs ++ j8) Q E hr I.env0 (hb s us I.kIn hl) r2 h) λr s' hq=>?_)
 cases r with
 | error e=>exact I.cxr hex hq
 | ok fl =>
  cases fl with
  | ret u=>exact I.after hq
  | next=>exact False.elim hq
  | brk=>exact False.elim hq
  | cont=>exact False.elim hq
def Oa (sp:Sp) (j8:List V) (t:TA):TEX:=λσ H Q E=>t σ H λvs H1=>sp (vs ++ j8) H1 Q E
def Zf0 (F:FnOk X.prog X.w X.K X.mg X.base (CXr X.prog X.w) k f fd ps sp) (hr:Room k X.A) (hg:Gl X x) (hm:X.mg x=some (.ref f)) (hk:PySem.W.keepIn X.K (.ref f)=true) (hb:Xb X.K fd ps ds) (hd:Vals j8 ds)
  (ha:PA X (e :: es) t) (hex:X.ex=[]:=by rfl) (hx:X.xe=(λ_ _=>False):=by rfl) (lf:(x == ("__debug__":Str))=false:=by decide) (he:starEach (e :: es) X.env=(false,eval e X.env) :: starEach es X.env:=by rfl) (kz:(backTo pos (starEach es X.env)).any (·.1)=false:=by rfl) :
  PEX fr X (.Call (.Name x p) (e :: es) [] pos) (Oa sp j8 t):=by
 intro j0 s σ H Q E I h;have h0:=ha pos j0 s σ H _ I h;rw [hx] at h0;refine wpAny_Call_Name_kw (Wl I hg hm ?_ lf);refine PySem.W.callWith_K (h₀:=X.base) I.ok.mod.kin hk (wpAny_mono h0 (λus s1 zz25=>?_) λ_ _ z=>z.elim) he kz;obtain ⟨vs,H1,I1,r,q⟩:=zz25;refine ⟨I1.kIn,?_⟩;exact V2 F hr hb hd hex I1 r q
def Zil (C:Addr) (m:Str) (sp:Sp) (j8:List V) (ta:TE) (t:TA):TEX:=λσ H Q E=>ta σ H λx H1=>∃ a dx fs,x=.ref a/\H1 a=some (.ins C dx fs)/\fs.lookup m=none /\
 t σ H1 λvs H2=>sp (x :: (vs ++ j8)) H2 Q E
def Ju (he:PE X o ta) (c:Cls X.K C) (hm:Meth X.K C m f) (F:FnOk X.prog X.w X.K X.mg X.base (CXr X.prog X.w) k f fd ps sp) (hr:Room k X.A) (hb:Xb X.K fd ps ds) (hd:Vals j8 ds) (ha:PA X (e :: es) t)
  (hex:X.ex=[]:=by rfl) (hx:X.xe=(λ_ _=>False):=by rfl) (ll:starEach (e :: es) X.env=(false,eval e X.env) :: starEach es X.env:=by rfl) (kz:(backTo pos (starEach es X.env)).any (·.1)=false:=by rfl)
  (ht:eval (.Call (.Attribute o m j7) (e :: es) [] pos) X.env=(do
   let ov <- eval o X.env
   standAt j7.atName
   let (f,first) <- holding [ov] (getMethod ov m pl)
   callWith pos f first (backTo pos (starEach (e :: es) X.env)) (backToKw pos (keywordEach [] X.env))):=by rfl) :
  PEX fr X (.Call (.Attribute o m j7) (e :: es) [] pos) (Zil C m sp j8 ta t):=by
 intro j0 s σ H Q E I h;have h0:=he j0 s σ H _ I h;rw [hx] at h0;refine PySem.W.methodCall_KW (pl:=pl) (wpAny_mono h0 (λu s1 zz26=>?_) λ_ _ z=>z.elim) ht;obtain ⟨x,H1,I1,rx,a,dx,fs,ex,ea,l,q⟩:=zz26;subst ex;obtain rfl:u=Value.ref a:=rx;refine Jj I1 ea c hm l ?_;have h1:=ha pos j0 s1 σ H1 _ I1 q;rw [hx] at h1;refine PySem.W.callWith_K (first:=[.ref a]) (h₀:=X.base) I.ok.mod.kin hm.kp (wpAny_mono h1 (λus s2 zz27=>?_) λ_ _ z=>z.elim) ll kz;obtain ⟨vs,H2,I2,r,q2⟩:=zz27;refine ⟨I2.kIn,?_⟩;exact V2 (us:=.ref a :: us) (vs:=.ref a :: vs) F hr hb hd hex I2 (.cons Z r) q2
end
theorem Yh.there {h:Heap}:∀ {o:HO},Yh P w H h a o->∃ ob,h.get? a=some ob
 | .lst _,x=>by obtain ⟨_,_,_,_,e⟩:=x; exact ⟨_,e⟩
 | .tup _,x=>by obtain ⟨_,_,_,ob,e,_⟩:=x; exact ⟨_,e⟩
 | .dK _,x=>by obtain ⟨_,_,_,_,o,_,_,e,_⟩:=x; exact ⟨_,e⟩
 | .dT _,x=>by obtain ⟨_,_,_,_,o,_,_,e,_⟩:=x; exact ⟨_,e⟩
 | .set _ _,x=>by obtain ⟨o,_,_,_,e,_⟩:=x; exact ⟨_,e⟩
 | .ins _ _ _,x=>by obtain ⟨_,_,_,e,_⟩:=x; exact ⟨_,e⟩
 | .own _,x=>by obtain ⟨_,e⟩:=x; exact ⟨_,e⟩
 | .xd _,x=>by obtain ⟨_,⟨_,_,_,e,_⟩,_⟩:=x; exact ⟨_,e⟩
 | .rng _ _,x=>by obtain ⟨_,_,_,e⟩:=x; exact ⟨_,e⟩
 | .frz _ _,x=>by obtain ⟨e,_⟩:=x; exact ⟨_,e⟩
 | .tbl _,x=>⟨_,(show h.get? a=some _ from x)⟩
 | .met _ _,x=>⟨_,(show h.get? a=some _ from x)⟩
 | .ext _,x=>by obtain ⟨_,⟨_,e⟩,_⟩:=x; exact ⟨_,e⟩
section
variable {X:Cx} {j0:List (Addr × Obj)} {σ:St} {H:Hp} {s:Shared}
def Inv.untr (I:Inv X j0 σ H s) (hb:s.heap.get? b=none):H b=none:=by
 cases q:H b with
 | none=>rfl
 | some o =>
  obtain ⟨ob,e⟩:=(I.hok b o q).there;rw [hb] at e; cases e
def Inv.fxOk (I:Inv X j0 σ H s) (hex:X.ex=[]) (hb:s.heap.get? b=none):FxOk X j0 H b:=by
 refine ⟨I.untr hb,λz=>?_,λz=>?_,?_,λx c e z=>?_,λp hp z=>?_⟩
 ·obtain ⟨m,⟨o,_,_,ho,_⟩,_⟩:=I.loc
  rw [z,ho] at hb; cases hb
 ·obtain ⟨_,o,ho,_⟩:=I.funs.mem z
  rw [ho] at hb; cases hb
 ·cases q:X.s₀.heap.get? b with
  | none=>rfl
  | some o =>
   obtain ⟨o',e'⟩:=I.base.there b o q (by rw [hex]; simp);rw [hb] at e'; cases e'
 ·obtain ⟨v,o,ho,_⟩:=I.cell x c e
  rw [z,hb] at ho; cases ho
 ·have:=(I.pin p hp).1
  rw [z,hb] at this; cases this
end
structure ExcK (K:W.Frag) (C:Addr) (vy:List Value) (mh:String):Prop where
 q:PySem.W.excIn K C vy mh=true
def Zh9 {K:W.Frag} {h:Heap} (X:K.In h) (q:PySem.W.excIn K C vy mh=true) :
  ∃ bm N nm q bs hdct sn sub ab col dd k0 k1 k2 k3 k5 mN,h.get? C=some (excClassObj nm q C N bs bm hdct sn sub ab col dd k0 k1 k2 k3 k5 mh)/\h.Ns N mN/\mN "__init__"=none/\OwnTail h vy bm:=by
 unfold PySem.W.excIn at q;split at q
 ·rename_i dd cd sl ho
  split at q
  ·rename_i C' bm k0 k1 k2 k3 n k5 hm hs
   simp only [Bool.and_eq_true,beq_iff_eq,Bool.not_eq_true'] at q;obtain ⟨⟨⟨⟨⟨rfl,rfl⟩,wg⟩,ht⟩,hok⟩,xw⟩:=q;obtain ⟨nm,bs,mro,ns,qn,hd,sn,sub,ab,col,del⟩:=cd;dsimp only at hm wg hok xw;subst hm wg;have qx:sl=#[k0,k1,k2,k3,some (.builtin n),k5]:=by
    obtain ⟨l⟩:=sl
    simp only at hs
    rw [hs]
   subst qx;exact ⟨bm,ns,nm,qn,bs,hd,sn,sub,ab,col,dd,k0,k1,k2,k3,k5,_,X _ _ ho,.of_isNs (PySem.W.isNs_of_in X hok),PySem.W.nsMap_none_of_in X hok xw,PySem.W.tail_of_in X ht⟩
  ·cases q
 ·cases q
section
variable {X:Cx}
def Zij (C:Addr) (t:TA):TSX:=λ_ R σ H=>t σ H λvs H1=>vs.length<=1000/\R (.ref C) σ H1
def Xd (K:ExcK X.K C vy mh) (FB:ExcBaseFacts B mh initId vy) (hg:Gl X x) (hm:X.mg x=some (.ref C)) (hc:X.calm=true) (ha:PA X (e :: es) t)
  (hex:X.ex=[]:=by rfl) (hx:X.xe=(λ_ _=>False):=by rfl) (lf:(x == ("__debug__":Str))=false:=by decide) (he:starEach (e :: es) X.env=(false,eval e X.env) :: starEach es X.env:=by rfl) (kz:(backTo j9 (starEach es X.env)).any (·.1)=false:=by rfl) :
  PSX true X (.Raise (some (.Call (.Name x np) (e :: es) [] j9)) none pos) (Zij C t):=by
 intro j0 s σ H D R I h;obtain ⟨tl,N,nm,q,bs,hdct,sn,sub,ab,col,dd,k0,k1,k2,k3,k5,mN,hC,hN,xw,T⟩:=Zh9 I.ok.mod.kin K.q;refine wpAny_Raise_call_subT (C:=C) (nm:=nm) (q:=q) (N:=N) (bs:=bs) (bm:=tl) (hdct:=hdct) (sn:=sn) (sub:=sub) (ab:=ab) (col:=col) (dd:=dd) (k0:=k0) (k1:=k1) (k2:=k2) (k3:=k3) (k5:=k5)
  FB (mN:=mN) (T.hasType FB.hasBase) (I.ok.hd hc) (by rw [he]; show (false || (backTo j9 (starEach es X.env)).any (·.1))=false; rw [kz]; rfl) xw (Wl I hg hm ⟨rfl,?_⟩ lf)
 have h0:=ha j9 j0 s σ H _ I h;rw [hx] at h0;rw [he] at h0 ⊢;refine Calls.evalArgs_plain (wpAny_mono h0 (λus s₂ zz28=>?_) λ_ _ z=>z.elim);obtain ⟨vs,H1,I1,r1,hl,q1⟩:=zz28;have kb:=I1.bk;refine ⟨Z,?_,kb _ _ hC,hN.keeps kb,T.keeps kb,λh' ea qg=>?_⟩
 ·rw [<- r1.length]
  exact Nat.le_of_lt (Z0 hl)
 obtain ⟨tt,h1,h2,h3⟩:=qg.there;have I2:Inv X j0 σ H1 { s₂ with heap:=h' }:=I1.kept (t':=s₂.toks) qg.keeps;have fx:=I1.fxOk hex qg.new;exact ⟨ea,none,.ref C,.ref tt,σ,H1,Z,I2,⟨_,_,h1,⟨Z,Z⟩,Z,Z⟩,⟨fx.nt,fx.nl,fx.nf,fx.n0,fx.nc,fx.np⟩,(λt z=>nomatch z),(λ_=>rfl),q1⟩
def Un.leave {h₀ h h':Heap} (u:Un fs [] H₀ H h₀ h) (hk:∀ b o,h₀.get? b=some o->b ∉ fs->h.get? b=some o->h'.get? b=some o)
  (hs:∀ b o,b∈fs->h.get? b=some o->∃ sl,h'.get? b=some { o with slots:=sl }) (ht:∀ b o,h₀.get? b=some o->∀ o',h.get? b=some o'->∃ o'',h'.get? b=some o''):Un fs [] H₀ H h₀ h' where
 keep:=λb o e n hb hx=>hk b o e hb (u.keep b o e n hb hx)
 slot:=λb o e n hb hx=>by
  obtain ⟨sl,e1⟩:=u.slot b o e n hb hx;obtain ⟨uw,e2⟩:=hs b _ hb e1;exact ⟨uw,e2⟩
 free:=u.free
 there:=λb o e hx=>by
  obtain ⟨o',e1⟩:=u.there b o e hx;exact ht b o e o' e1
 tups:=u.tups
 frzs:=u.frzs
 tbls:=u.tbls
def W1 {X:Cx} {s:Shared} (I:Inv X j0 σ H s) (as:List Addr) (hs:∀ b∈frs X.stack,b∈as):s.heap.FunFrames (PySem.W.hideAll s.heap as) X.stack:=by
 have all:∀ (l:List Env),(∀ b∈frs l,b∈as)->s.heap.FunFrames X.base l->s.heap.FunFrames (PySem.W.hideAll s.heap as) l:=by
  intro l
  induction l with
  | nil=>intro _ _; trivial
  | cons env r ih =>
   intro hs hl;obtain ⟨hk,⟨L,o,hf,hn,ho,hd⟩,hr⟩:=hl;have hL:L∈as:=hs L (by unfold frs; rw [List.filterMap_cons,hf]; exact List.mem_cons_self);exact ⟨hk,⟨L,o,hf,PySem.W.hideAll_none as hL,ho,hd⟩,ih (λb hb=>hs b (by unfold frs; rw [List.filterMap_cons,hf]; exact List.mem_cons_of_mem _ hb)) hr⟩
 exact all X.stack hs I.stack
def Inv.fnd {X:Cx} {s:Shared} (I:Inv X j0 σ H s) (hb:b∈frs X.stack) {o:Obj} (e:s.heap.get? b=some o):∀ vs,o.data≠.fields vs:=by
 obtain ⟨_,o',e',d⟩:=I.stack.mem hb;rw [e] at e'; cases e';exact d
end
def FxOk.none {X:Cx} {j0:List (Addr × Obj)} {H:Hp} {b:Addr} (h:FxOk X j0 H b):FxOk X [] H b:=⟨h.nt,h.nl,h.nf,h.n0,h.nc,λp hp=>h.np p (by rw [List.append_nil] at hp; exact List.mem_append_left _ hp)⟩
section
variable {P:Program} {w:World} {K:W.Frag} {mg:Str->Option Value} {base:Heap}
def U2 (h:XS fr (cxOf (CXr P w) P w K mg base N qual scope f cd A outer s H E).nox [] (λcls _ H'=>E cls none H') ev s'):(cxOf (CXr P w) P w K mg base N qual scope f cd A outer s H E).xe ev s':=by
 obtain ⟨e,T,cls,a0,σ',H',rfl,I,hx,fe,fT,_,q⟩:=h;show wpAny (model P w) (A.deeper (envOfC qual scope s.heap.objs.size f cd)) (leaving (envOfC qual scope s.heap.objs.size f cd) (.ref e)) (λ_ lw=>CXr P w outer H s E (.ref e) lw) (λe' lw=>CXr P w outer H s E e' lw) s';have ll:(cxOf (CXr P w) P w K mg base N qual scope f cd A outer s H E).nox.stack=envOfC qual scope s.heap.objs.size f cd :: outer:=rfl;have mo:(A.deeper (envOfC qual scope s.heap.objs.size f cd)).frames=some (envOfC qual scope s.heap.objs.size f cd :: outer):=I.ok.frames
 have n0:∀ b,b∈e :: T.toList->s.heap.get? b=none:=λb hb=>by
  rcases Ar hb with z | z
  ·rw [z]; exact fe.n0
  ·cases T with
   | none=>simp at z
   | some t =>
    have:b=t:=by simpa using z
    rw [this]; exact (fT t Z).n0
 have nt:∀ b,b∈e :: T.toList->H' b=none:=λb hb=>by
  rcases Ar hb with z | z
  ·rw [z]; exact fe.nt
  ·cases T with
   | none=>simp at z
   | some t =>
    have:b=t:=by simpa using z
    rw [this]; exact (fT t Z).nt
 have hB:∀ b o,b ∉ e :: T.toList->b ∉ frs (envOfC qual scope s.heap.objs.size f cd :: outer)->s'.heap.get? b=some o->(PySem.W.hideAll s'.heap ((e :: T.toList) ++ frs (envOfC qual scope s.heap.objs.size f cd :: outer))).get? b=some o:=λb o h1 h2 e1 =>
  PySem.W.hideAll_get _ e1 λz=>(List.mem_append.mp z).elim h1 h2
 have hl:s'.heap.FunFrames (PySem.W.hideAll s'.heap ((e :: T.toList) ++ frs (envOfC qual scope s.heap.objs.size f cd :: outer))) (envOfC qual scope s.heap.objs.size f cd :: outer):=W1 I _ λb hb=>List.mem_append_right _ hb;have re:(PySem.W.hideAll s'.heap ((e :: T.toList) ++ frs (envOfC qual scope s.heap.objs.size f cd :: outer))).StaysIn s'.heap:=λb o e1=>PySem.W.of_hideAll _ e1;have um:(PySem.W.hideAll s'.heap ((e :: T.toList) ++ frs (envOfC qual scope s.heap.objs.size f cd :: outer))).get? e=none:=PySem.W.hideAll_none _ (List.mem_append_left _ List.mem_cons_self)
 have ki:∀ h',Heap.LeftW (PySem.W.hideAll s'.heap ((e :: T.toList) ++ frs (envOfC qual scope s.heap.objs.size f cd :: outer))) (envOfC qual scope s.heap.objs.size f cd :: outer) e cls a0 s'.heap h'->CXr P w outer H s E (.ref e) { s' with heap:=h' }:=λh' ⟨k1,k2,k3,k4⟩=>by
  obtain ⟨oe,vs,T',oT,ts,x1,x2,x3,x4,x5,x6,x7,x8,x9⟩:=k3;have lh:∀ b o,b∈frs (envOfC qual scope s.heap.objs.size f cd :: outer)->s'.heap.get? b=some o->∃ sl,h'.get? b=some { o with slots:=sl }:=λb o hb e1=>k4 b o e1 (I.fnd hb e1);have kept:∀ b o,b ∉ e :: T.toList->b ∉ frs (envOfC qual scope s.heap.objs.size f cd :: outer)->s'.heap.get? b=some o->h'.get? b=some o:=λb o h1 h2 e1=>k1 b o (hB b o h1 h2 e1);have nL:∀ b o,s.heap.get? b=some o->b ∉ frs outer->b ∉ frs (envOfC qual scope s.heap.objs.size f cd :: outer):=λb o e1 h2 z=>by
   have z':b∈s.heap.objs.size :: frs outer:=z
   rcases Ar z' with z1 | z1
   ·rw [z1] at e1; exact absurd (Ao e1) (Nat.lt_irrefl _)
   ·exact h2 z1
  have nE:∀ b o,s.heap.get? b=some o->b ∉ e :: T.toList:=λb o e1 z=>by rw [n0 b z] at e1; cases e1
  have trk:∀ b u,H' b=some u->∀ o,s'.heap.get? b=some o->h'.get? b=some o:=λb u hu o e1=>by
   refine kept b o (λz=>by rw [nt b z] at hu; cases hu) (λz=>?_) e1;rw [I.stkFree b z] at hu; cases hu
  have vp:s.heap.get? T'=none/\H' T'=none:=by
   by_cases hz:s'.heap.get? T'=none
   ·refine ⟨?_,I.untr hz⟩
    cases q':s.heap.get? T' with
    | none=>rfl
    | some o =>
     obtain ⟨o',e'⟩:=I.base.there T' o q' (by simp [cxOf]);rw [hz] at e'; cases e'
   ·obtain ⟨o,ho⟩:=Option.ne_none_iff_exists'.mp hz
    by_cases h1:T'∈e :: T.toList
    ·exact ⟨n0 T' h1,nt T' h1⟩
    ·by_cases h2:T'∈frs (envOfC qual scope s.heap.objs.size f cd :: outer)
     ·exfalso
      obtain ⟨sl,e'⟩:=lh T' o h2 ho;rw [x7] at e';cases e';exact I.fnd h2 ho ts x8
     ·rw [hB T' o h1 h2 ho] at x5; cases x5
  refine ⟨e,T',cls,a0,H',Z,I.os,I.bare,?_,λb u hu=>?_,fe.n0,vp.1,fe.nt,vp.2,⟨oe,vs,oT,ts,x1,x2,x3,x4,x6,x7,x8,x9⟩,q⟩
  ·refine Un.leave I.base (λb o e1 h1 e2=>kept b o (nE b o e1) (nL b o e1 h1) e2) (λb o hb e1=>lh b o (List.mem_cons_of_mem _ hb) e1) λb o e1 o' e2=>?_
   by_cases h2:b∈frs outer
   ·obtain ⟨sl,e'⟩:=lh b o' (List.mem_cons_of_mem _ h2) e2
    exact ⟨_,e'⟩
   ·exact ⟨o',kept b o' (nE b o e1) (nL b o e1 h2) e2⟩
  ·refine (I.hok b u hu).stay (λc v hc e1=>?_) (λ_ z=>z) λ_ _ z=>z
   rcases hc with z | z
   ·exact trk c u (by rw [z]; exact hu) v e1
   ·exact trk c _ z v e1
 cases T with
 | none =>
  obtain ⟨oe,vs,x1,x2,x3,x4⟩:=hx;obtain ⟨x21,x22⟩:=x2;subst x21;exact wpAny_leaving_firstW mo hl Z x1 re um x3 x4 x22 ki
 | some t =>
  obtain ⟨oe,vs,oT,ts,x1,x2,x3,x4,x5,x6,x7,x8⟩:=hx;exact wpAny_leaving_nextW mo hl Z ⟨oe,vs,t,oT,ts,x1,x2,x3,x4,PySem.W.hideAll_none _ (List.mem_append_left _ (by simp)),x5,x6,x7,x8⟩ re um ki
def Fun.okX {x qual:Str} {st:Stmt} {f:Addr} {fd:FuncData} {N ps:List Str} {k:Nat} {sp:Sp} (F:Fun K x qual st f fd) (S:FnScope N ps (Zf st)) (len:∀ vs H Q E,sp vs H Q E->vs.length=ps.length)
  (kg:∀ (j5:Value) (A:Around) (outer:List Env) (s:Shared) (H:Hp) (vs:List V) (Q:VK) (E:XK),Room k (A.deeper (envOfC qual (Zf st) s.heap.objs.size f j5))->sp vs H Q E ->
   ∃ t,PSsX true (cxOf (CXr P w) P w K mg base N qual (Zf st) f j5 A outer s H E).nox (Yd st) t/\t { nx:=λ_ H'=>Q .non H',rt:=Q } (λcls _ H'=>E cls none H') (start N vs) H):FnOk P w K mg base (CXr P w) (k + 1) f fd ps sp:=by
 obtain ⟨oc,od,kV,ka,pm,an,j5,ct,n6,rfl,lk,ly⟩:=F.ex;refine Fd lk ly S len λA outer s H vs Q E hr k7=>?_;obtain ⟨t,h,q⟩:=kg j5 A outer s H vs Q E hr k7;refine ⟨λD σ H'=>t D (λcls _ vz=>E cls none vz) σ H',λj0 s' σ' H' D I hD=>?_,q⟩;refine wpAny_mono (h j0 s' σ' H' D _ (I.wish _) hD) (λ_ _ z=>z.unwish) λev lw z=>U2 (fr:=true) ?_;obtain ⟨e,T,cls,a0,σ2,H2,h1,h2,h3,h4,h5,h7,h6⟩:=z;exact ⟨e,T,cls,a0,σ2,H2,h1,h2.pins_of (λp hp=>absurd hp (by simp)),h3,h4.none,λt ht=>(h5 t ht).none,h7,h6⟩
end
section
variable {X:Cx}
def Inv.exc {j0:List (Addr × Obj)} {σ:St} {H:Hp} {s:Shared} {e T:Addr} {h':Heap} (I:Inv X j0 σ H s) (hex:X.ex=[]) (fe:FxOk X j0 H e) (fT:FxOk X j0 H T)
  (keep:∀ b o,b≠e->b≠T->b ∉ frs X.stack->s.heap.get? b=some o->h'.get? b=some o) (slot:∀ b o,b∈frs X.stack->s.heap.get? b=some o->∃ sl,h'.get? b=some { o with slots:=sl }):Inv X j0 σ H { s with heap:=h' }:=by
 have fss:∀ b∈X.fs,b∈frs X.stack:=λb hb=>by
  rcases I.ok.stk with z | ⟨z,hf⟩
  ·rw [z]; exact hb
  ·rw [z]; unfold frs; rw [List.filterMap_cons,hf]; exact List.mem_cons_of_mem _ hb
 have data:∀ b o,b≠e->b≠T->s.heap.get? b=some o->∃ sl,h'.get? b=some { o with slots:=sl }:=λb o h1 h2 e1=>by
  by_cases hb:b∈frs X.stack
  ·exact slot b o hb e1
  ·exact ⟨o.slots,keep b o h1 h2 hb e1⟩
 have ne0:∀ b o,X.s₀.heap.get? b=some o->b≠e/\b≠T:=λb o e1=>⟨λz=>(by rw [z,fe.n0] at e1; cases e1),λz=>(by rw [z,fT.n0] at e1; cases e1)⟩;have mj:∀ x c,X.env.cells.lookup x=some c->∀ v,s.heap.IsCell c v->h'.IsCell c v:=λx c ec v ⟨o,ho,hd⟩=>by
  obtain ⟨sl,e1⟩:=data c o (fe.nc x c ec) (fT.nc x c ec) ho
  exact ⟨_,e1,hd⟩
 refine ⟨I.ok,I.os,I.bare,⟨λb o e0 n hb hx=>?_,λb o e0 n hb hx=>?_,I.base.free,λb o e0 hx=>?_,I.base.tups,I.base.frzs,I.base.tbls⟩,?_,λx c ec=>?_,I.free,I.freeC,λp hp=>?_,λb u hu=>?_,I.len⟩
 ·obtain ⟨n1,n2⟩:=ne0 b o e0
  refine keep b o n1 n2 (λz=>?_) (I.base.keep b o e0 n hb hx)
  rcases Ar (I.stkSub b z) with z1 | z1
  ·rw [z1] at e0; exact absurd (Ag (Ao e0) I.ok.above) (Nat.lt_irrefl _)
  ·exact hb z1
 ·obtain ⟨sl,e1⟩:=I.base.slot b o e0 n hb hx
  obtain ⟨uw,e2⟩:=slot b _ (fss b hb) e1;exact ⟨uw,e2⟩
 ·obtain ⟨n1,n2⟩:=ne0 b o e0
  obtain ⟨o',e1⟩:=I.base.there b o e0 hx;obtain ⟨sl,e2⟩:=data b o' n1 n2 e1;exact ⟨_,e2⟩
 ·obtain ⟨m,hn,hl⟩:=I.loc
  refine ⟨m,?_,λi x v e1 e2 e3=>?_⟩
  ·obtain ⟨o,es,ep,ho,hd,r⟩:=hn
   obtain ⟨sl,e1⟩:=data _ o (Ne.symm fe.nl) (Ne.symm fT.nl) ho;exact ⟨_,es,ep,e1,hd,r⟩
  ·obtain ⟨u,r,l⟩:=hl i x v e1 e2 e3
   refine ⟨u,r,?_⟩
   rcases l with l | ⟨k,c,ec,z⟩
   ·exact .inl l
   ·exact .inr ⟨k,c,ec,mj x c ec _ z⟩
 ·obtain ⟨v,z⟩:=I.cell x c ec
  exact ⟨v,mj x c ec v z⟩
 ·obtain ⟨e1,n,ne,nf,d⟩:=I.pin p hp
  refine ⟨keep p.1 p.2 (fe.np p hp) (fT.np p hp) (λz=>?_) e1,n,ne,nf,d⟩
  rcases Ar (I.stkSub p.1 z) with z1 | z1
  ·exact ne z1
  ·exact nf z1
 ·have trk:∀ b u,H b=some u->∀ o,s.heap.get? b=some o->h'.get? b=some o:=λb u hu o e1=>by
   refine keep b o (λz=>by rw [z,fe.nt] at hu; cases hu) (λz=>by rw [z,fT.nt] at hu; cases hu) (λz=>?_) e1;rw [I.stkFree b z] at hu; cases hu
  refine (I.hok b u hu).stay (λc v hc e1=>?_) (λ_ z=>z) λ_ _ z=>z
  rcases hc with z | z
  ·exact trk c u (by rw [z]; exact hu) v e1
  ·exact trk c _ z v e1
def V7 (X:Cx) (e:Addr):Cx:={ X with A:=X.A.mark (some (.ref e)),calm:=false }
def Inv.hnd {j0:List (Addr × Obj)} {σ:St} {H:Hp} {s:Shared} (I:Inv X j0 σ H s) (e:Addr):Inv (V7 X e) j0 σ H s :=
 ⟨⟨I.ok.mod,I.ok.kind,I.ok.glob,I.ok.blt,I.ok.above,I.ok.inj,I.ok.has,I.ok.cab,λh=>absurd (show false=true from h) Bool.false_ne_true,I.ok.frames,I.ok.stk,I.ok.exf,I.ok.bs,I.ok.bsz,I.ok.noex,I.ok.exfs,I.ok.funs,I.ok.frf⟩,
  I.os,I.bare,I.base,I.loc,I.cell,I.free,I.freeC,I.pin,I.hok,I.len⟩
def Inv.unhnd {j0:List (Addr × Obj)} {σ:St} {H:Hp} {s:Shared} {e:Addr} (I:Inv (V7 X e) j0 σ H s) (ok:X.Ok):Inv X j0 σ H s :=
 ⟨ok,I.os,I.bare,I.base,I.loc,I.cell,I.free,I.freeC,I.pin,I.hok,I.len⟩
def SP.unhnd {j0:List (Addr × Obj)} {D:Ends} {f:Flow} {s':Shared} {e:Addr} (h:SP (V7 X e) j0 D f s') (ok:X.Ok):SP X j0 D f s':=by
 cases f with
 | next=>obtain ⟨σ',H',I,q⟩:=h; exact ⟨σ',H',I.unhnd ok,q⟩
 | brk=>obtain ⟨σ',H',I,q⟩:=h; exact ⟨σ',H',I.unhnd ok,q⟩
 | cont=>obtain ⟨σ',H',I,q⟩:=h; exact ⟨σ',H',I.unhnd ok,q⟩
 | ret u=>obtain ⟨v,σ',H',I,r,q⟩:=h; exact ⟨v,σ',H',I.unhnd ok,r,q⟩
def Ze7 {j0:List (Addr × Obj)} {σ:St} {H:Hp} {s:Shared} {e T:Addr} {cls a0:Value} (I:Inv X j0 σ H s) (hx:FlyT e T cls a0 s.heap) :
  Heap.FlyingW (PySem.W.hideAll s.heap (e :: T :: frs X.stack)) X.stack e cls a0 s.heap:=by
 obtain ⟨oe,vs,oT,ts,x1,x2,x3,x4,x5,x6,x7,x8⟩:=hx;exact ⟨λb o e1=>PySem.W.of_hideAll _ e1,PySem.W.hideAll_none _ (by simp),W1 I _ λb hb=>by simp [hb],oe,vs,T,oT,ts,x1,x2,x3,x4,PySem.W.hideAll_none _ (by simp),x5,x6,x7,x8⟩
def Inv.flown {j0:List (Addr × Obj)} {σ:St} {H:Hp} {s:Shared} {e T:Addr} {h':Heap} (I:Inv X j0 σ H s) (hex:X.ex=[]) (fe:FxOk X j0 H e) (fT:FxOk X j0 H T)
  (ll:(PySem.W.hideAll s.heap (e :: T :: frs X.stack)).StaysIn h') (hup:s.heap.UpToSlots h'):Inv X j0 σ H { s with heap:=h' }:=by
 refine I.exc hex fe fT (λb o h1 h2 h3 e1=>ll b o (PySem.W.hideAll_get _ e1 λz=>?_)) λb o hb e1=>hup b o e1 (I.fnd hb e1)
 rcases Ar z with z | z
 ·exact h1 z
 ·rcases Ar z with z | z
  ·exact h2 z
  ·exact h3 z
end
section
variable {X:Cx} {j0:List (Addr × Obj)} {σ:St} {H:Hp} {s:Shared} {A:Around} {E:Value->Shared->Prop} {a:Addr}
def Zjk {kvs:List (Key × V)} (I:Inv X j0 σ H s) (e:H a=some (.dK kvs)) (hl:kvs.length < sizeLine) (ry:RelV (kV k) u) (rd:RelV d r)
  (h1:∀ v w' s',valV kvs k=some v->Inv X j0 σ H s'->RelV v w'->Q w' s') (h2:valV kvs k=none->∀ s',Inv X j0 σ (upd H a (.dK (putK kvs k d))) s'->Q r s') :
  wpAny (model X.prog X.w) A (call (.builtin "dict.setdefault") [.ref a,u,r]) Q E s:=by
 obtain ⟨z,hd,vs,kh,dd⟩:=Zg3 I.hok e;have hz:vs.length<=sizeLine:=by rw [<- kh.length]; exact z
 refine call_meetsIn PySem.F.slot_dict_setdefault dd.typeIs PySem.F.entry_dict_setdefault (PySem.F.args_dict_setdefault_3 _ _ _) (kt_meets_setdefault (Z7 X.prog X.w) a (J5 ry) hd r) ⟨vs,dd,hz,λv hv=>?_,λhv h' vw hs=>?_⟩
 ·have ku:=kh.val k
  rw [hv] at ku
  cases q:valV kvs k with
  | none=>rw [q] at ku; exact ku.elim
  | some y=>rw [q] at ku; exact h1 y v _ q (I.tok _) ku
 ·have ku:=kh.val k
  rw [hv] at ku
  cases q:valV kvs k with
  | some y=>rw [q] at ku; exact ku.elim
  | none =>
   have he:∃ q,h'.get? a=some q:=let ⟨q,_,_,hq,_⟩:=vw; ⟨q,hq⟩
   have nz:(putK kvs k d).length<=sizeLine:=by have:=Ur kvs k d; lia
   exact h2 q _ (Zcl I (by rw [e]; exact True.intro) hs he (Zfa nz hd (kh.put k rd) vw))
end
def Zip (td ty tx:TE):TE:=λσ H Q=>td σ H λx H1=>∃ a,x=.ref a/\IsD H1 a/\ty σ H1 λy H2=>tx σ H2 λz H3=>∃ kvs k,H3 a=some (.dK kvs)/\kvs.length < sizeLine/\y=kV k /\
 (∀ v,valV kvs k=some v->Q v H3)/\(valV kvs k=none->Q z (upd H3 a (.dK (putK kvs k z))))
section
variable {X:Cx} {o e f:Expr} {j7 j9:Pos} {td ty tx:TE}
def Zam (ho:PE X o td) (he:PE X e ty) (hf:PE X f tx) (m:M2 X o "setdefault" j7 e f j9):PE X (.Call (.Attribute o "setdefault" j7) [e,f] [] j9) (Zip td ty tx):=by
 intro j0 s σ H Q I h;refine wpAny_Call_method m.base m.few m.line PySem.F.plainAttrs_dict PySem.F.slot_dict_setdefault PySem.F.type_dict_setdefault (thn (ho j0 s σ H _ I h) λu s1 j2=>?_);obtain ⟨x,H1,I1,rx,a,ex,d,q1⟩:=j2;subst ex;obtain rfl:u=Value.ref a:=rx;obtain ⟨t1,t2,_⟩:=Ze1 I1 d;refine ⟨t1,t2,?_⟩;rw [m.trees];refine Calls.callWith_builtin rfl (Calls.evalArgs_plain (Calls.spliced_cons (thn (he j0 s1 σ H1 _ I1 q1) λiv s2 ⟨y,H2,I2,ry,q2⟩ =>
  Calls.spliced_cons (thn (hf j0 s2 σ H2 _ I2 q2) λfv s3 ⟨z,H3,I3,rz,kvs,k,hk,hl,ey,q3,q4⟩=>Calls.spliced_nil ?_))))
 subst ey;exact Zjk I3 hk hl ry rz (λv w' s' hv I' nq=>⟨v,H3,I',nq,q3 v hv⟩) λhv s' I'=>⟨z,_,I',rz,q4 hv⟩
def Za4 {kvs:List (Key × V)} {vs:List (Key × Value)} {ks:List Int} (kh:KV kvs vs) (hk:kvs.map (·.1)=ks.map Sum.inl) {us:List Value} (hl:us.length=vs.length)
  (hu:∀ (j:Nat) (v:Value),us[j]?=some v->∃ k x,vs[j]?=some (k,x)/\(Z7 P w).is k v=true):IntsAre us ks:=by
 have pq:kvs.length=ks.length:=by have:=congrArg List.length hk; simpa using this
 have hvl:kvs.length=vs.length:=kh.length
 have key:∀ (j:Nat) (v:Value),us[j]?=some v->∃ i t,ks[j]?=some i/\v=Value.int i t:=λj v hv=>by
  obtain ⟨k,x,hx,hi⟩:=hu j v hv;have e1:(vs.map (·.1))[j]?=some k:=by rw [Ah,hx]; rfl
  have e2:vs.map (·.1)=kvs.map (·.1):=by
   clear hk hl hu pq hvl hx hi e1
   induction kh with
   | nil=>rfl
   | cons r t ih=>rw [List.map_cons,List.map_cons,ih,r.1]
  rw [e2,hk,Ah] at e1
  cases q:ks[j]? with
  | none=>rw [q] at e1; cases e1
  | some i =>
   rw [q] at e1;have e3:Sum.inl i=k:=Ax e1;subst e3;obtain ⟨t,ht⟩:=Value.isInt_shape (k:=i) (v:=v) hi;exact ⟨i,t,Z,ht⟩
 have gen:∀ (us:List Value) (ks:List Int),us.length=ks.length->(∀ (j:Nat) (v:Value),us[j]?=some v->∃ i t,ks[j]?=some i/\v=Value.int i t)->IntsAre us ks:=by
  intro us
  induction us with
  | nil =>
   intro ks hl _
   cases ks with
   | nil=>exact .nil
   | cons _ _=>simp at hl
  | cons u r ih =>
   intro ks hl h
   cases ks with
   | nil=>simp at hl
   | cons i ks =>
    obtain ⟨i',t,e1,e2⟩:=h 0 u rfl;have e1':i=i':=by simpa using e1
    subst e1' e2;exact .cons i t (ih ks (by simpa using hl) λj v hv=>h (j + 1) v (by simpa using hv))
 exact gen us ks (by lia) key
def Zbc (hc:X.calm=true):W9 X (.builtin "sorted") (λxs H Q=>∃ (d:Addr) (kvs:List (Key × V)) (ks:List Int),xs=[.ref d]/\Rd H d (.dK kvs)/\kvs.map (·.1)=ks.map Sum.inl/\ks.length < 64 /\
  ∀ (p:Addr) (out:List Int),H p=none->out.Perm ks->out.Pairwise (·<=·)->Q (.ref p) (upd H p (.lst (out.map V.int)))):=by
 intro j0 s σ H xs us Q I r h;obtain ⟨d,kvs,ks,rfl,hd,hk,mr,q⟩:=h;obtain ⟨u,rfl,ru⟩:=X8 r;obtain rfl:u=Value.ref d:=ru;obtain ⟨z,sr,vs,kh,dd⟩:=Qy I.hok hd;obtain ⟨ep,zo⟩:=dd.dictAt;have j1:vs.length=ks.length:=by have:=congrArg List.length hk; rw [Ab,Ab] at this; have:=kh.length; lia
 have hn:vs.length<=sizeLine:=by rw [sizeLine_eq]; lia
 refine Calls.call_function_entry kind_sorted plain_sorted entry_sorted (args_sorted1 _) ?_;unfold Builtin.«sorted»;refine Al (m:=checkCount "sorted" 1 1 _) (wpAny_pure ?_);refine Al (PySem.W.kdu_collect (A:=X.A.in1) (PySem.W.kdl_dict (knd:=Z7 X.prog X.w) (kvs:=vs) (ep:=ep) sr) (I.ok.hd hc) zo hn λh' tk j3 uj ot=>?_);have hl:j3.toList.length=vs.length:=by rw [Array.length_toList]; exact ot.1
 have hI:IntsAre j3.toList ks:=Za4 (P:=X.prog) (w:=X.w) kh hk hl λj v hv=>ot.2 j v (by rw [<- Array.getElem?_toList]; exact hv);refine Al (wpAny_newList ?_ (by rw [hl]; exact hn));have I1:Inv X j0 σ H { s with heap:=h',toks:=tk }:=I.kept uj;have va:(h'.push { cls:=.type "list",data:=.seq j3.toList.toArray }).get? h'.objs.size=some (seqObj "list" j3.toList.toArray 0):=Ap _ rfl;refine Al (wpAny_holding (wpAny_call_entry slot_list_sort ⟨_,va,Z⟩ entry_list_sort (list_sort_tree va hI (by lia) λout xn a1 a2 a3=>⟨_,Z,?_⟩) (args_list_sort _)));refine wpAny_pure ⟨_,Z,?_⟩;obtain ⟨e,he⟩:=sortedHeap_at (out:=out) va;have kp:∀ b u,h'.get? b=some u->(sortedHeap (h'.push { cls:=.type "list",data:=.seq j3.toList.toArray }) h'.objs.size j3.toList out).get? b=some u:=λb u hb=>by
  have kf:b < h'.objs.size:=Ao hb
  rw [sortedHeap_old (As kf) (by rw [Heap.size_push]; exact Nat.lt_succ_of_lt kf)]
  exact Ak _ hb
 have hv:Vals (xn.map V.int) out.toList:=by
  clear he kp;generalize out.toList=l at a1;clear a2 a3
  induction a1 with
  | nil=>exact .nil
  | cons i t _ ih=>exact .cons ⟨_,Z⟩ ih
 refine ⟨.ref h'.objs.size,upd H h'.objs.size (.lst (xn.map V.int)),I1.laid kp (An _) ?_,Z,q _ xn I1.fresh a2 a3⟩;refine ⟨?_,out.toList,e,hv,?_⟩
 ·rw [Ab,a2.length_eq,sizeLine_eq]; lia
 ·rw [he]
end
section
variable {X:Cx} {j0:List (Addr × Obj)} {σ:St} {H:Hp} {s:Shared} {a:Addr}
def Inv.freeze (I:Inv X j0 σ H s) (e:H a=some u) (mu:Mut (some u)) (ho:s.heap.get? a=some ob):Inv X j0 σ (upd H a (.frz ob u)) s:=by
 have p4:∀ c y,H c=some (.own y)->c≠a:=λc y r z=>by subst z; rw [r] at e; cases e; exact mu
 have pz:∀ c xs,H c=some (.tup xs)->c≠a:=λc xs r z=>by subst z; rw [r] at e; cases e; exact mu
 have nfrz:∀ c o xs,H c=some (.frz o xs)->c≠a:=λc o xs r z=>by subst z; rw [r] at e; cases e; exact mu
 have ntbl:∀ c ps,H c=some (.tbl ps)->c≠a:=λc ps r z=>by subst z; rw [r] at e; cases e; exact mu
 have un:Un X.fs [] H (upd H a (.frz ob u)) s.heap s.heap:=⟨λ_ _ q _ _ _=>q,λ_ o q _ _ _=>⟨o.slots,q⟩,λb o q n _=>by rw [Ze (λz=>by rw [z,e] at n; cases n)]; exact n,λb o q _=>⟨o,q⟩,
  λb xs q=>by rw [Ze (pz b xs q)]; exact q,λb o xs q=>by rw [Ze (nfrz b o xs q)]; exact q,λb ps q=>⟨#[],by rw [Ze (ntbl b ps q),q]; simp⟩⟩
 have hok:HOk X.prog X.w (upd H a (.frz ob u)) s.heap:=λb v q=>by
  have st:∀ c w',Yh X.prog X.w H s.heap c w'->Yh X.prog X.w (upd H a (.frz ob u)) s.heap c w':=λc w' x=>x.stay (λ_ _ _ q=>q) (λd r=>by rw [Ze (p4 d c r)]; exact r) λd xs r=>by rw [Ze (pz d xs r)]; exact r
  by_cases hb:b=a
  ·subst hb
   rw [Zb] at q;cases q;exact ⟨ho,st _ _ (I.hok _ _ e)⟩
  ·rw [Ze hb] at q
   exact st _ _ (I.hok b v q)
 exact I.un (h':=s.heap) (t':=s.toks) un hok
end
section
def KV.at {kvs:List (Key × V)} {vs:List (Key × Value)} (r:KV kvs vs):∀ {i:Nat} {k:Key} {v:V},kvs[i]?=some (k,v)->∃ u,vs[i]?=some (k,u)/\RelV v u:=by
 induction r with
 | nil=>intro i k v h; simp at h
 | cons r t ih =>
  intro i k v h
  cases i with
  | zero =>
   simp at h;subst h;exact ⟨_,by rw [List.getElem?_cons_zero]; exact congrArg some (Prod.ext r.1.symm Z),r.2⟩
  | succ i =>
   obtain ⟨u,h1,h2⟩:=ih (by simpa using h);exact ⟨u,by simpa using h1,h2⟩
def U3 {X:Cx} {s:Shared} (I:Inv X j0 σ H s) (e:H d=some (.frz o (.dK kvs))) :
  ∃ vs ep,KV kvs vs/\s.heap.DictAt (Z7 X.prog X.w) d vs ep/\s.heap.get? d=some o:=by
 obtain ⟨ho,_,_,vs,kh,dd⟩:=I.hok d _ e;obtain ⟨ep,da⟩:=dd.dictAt;exact ⟨vs,ep,kh,da,ho⟩
def epOf (o:Obj):Nat:=match o.data with
 | .dict _ ep=>ep
 | _=>0
def Zdn {h:Heap} (da:h.DictAt (Z7 P w) d vs ep) (ho:h.get? d=some o):ep=epOf o:=by
 obtain ⟨o',es,h1,_,h2,_⟩:=da;rw [ho] at h1;cases h1;unfold epOf;rw [h2]
def Zdt {P:Program} {w:World} {K:W.Frag} {tg:Expr} (d it:Addr) (kvs:List (Key × V)) (o:Obj) :
  Turn P w K tg ⟨λi H=>i < kvs.length/\H d=some (.frz o (.dK kvs)),λi H x H'=>H'=H/\∃ k,kvs[i]?=some (k,x),λi H=>kvs.length<=i/\H d=some (.frz o (.dK kvs))⟩ [it] it (λi h=>h.IsValIter it d i kvs.length (epOf o)) where
 mem:=by simp
 obj:=λi h st b hb=>by
  have e:b=it:=by simpa using hb
  subst e;obtain ⟨o,e,c,d⟩:=st;exact ⟨o,e,λv z=>by rw [d] at z; cases z⟩
 keep:=λi h h' st k=>st.at λo e=>k it (by simp) o e
 item:=by
  intro X hP hw hK hc i j0 s σ H E I hf st hg;subst hP hw hK;obtain ⟨hi,hq⟩:=hg;obtain ⟨vs,ep,kh,da,ho⟩:=U3 I hq;have vg:=Zdn da ho;subst vg;obtain ⟨f0,f1,f2,f3,f4,f5⟩:=hf it (by simp);obtain ⟨⟨k,v⟩,hx⟩:∃ p,kvs[i]?=some p:=⟨_,Ac hi⟩;obtain ⟨u,hu,ru⟩:=kh.at hx;have j1:vs.length=kvs.length:=kh.length.symm;rw [<- j1] at st;refine wpAny_pyNext_values_item st da hu λh' ms sb=>?_;have I1:Inv X j0 σ H { s with heap:=h' }:=I.turned (t':=s.toks) (λb o hb e=>(sb.2 b hb).trans e) f0 f1 f3 f4 f5;rw [j1] at ms;obtain ⟨oi,e,c,dd⟩:=id ms;exact ⟨u,Z,O7 (s:={ s with heap:=h' }) e c dd (by decide) ⟨v,H,I1,ru,⟨Z,k,hx⟩,ms,λb hb=>(hf b hb).1⟩⟩
 done:=by
  intro X hP hw hK hc i j0 s σ H E I hf st hg;subst hP hw hK;obtain ⟨hi,hq⟩:=hg;obtain ⟨vs,ep,kh,da,ho⟩:=U3 I hq;have vg:=Zdn da ho;subst vg;obtain ⟨f0,f1,f2,f3,f4,f5⟩:=hf it (by simp);have j1:vs.length=kvs.length:=kh.length.symm;rw [<- j1] at st;exact wpAny_pyNext_values_end (I.ok.hd hc) st da (by rw [Ay]; lia) λh' eb=>⟨rfl,I.turned (t':=s.toks) (λb o hb e=>eb b o hb e) f0 f1 f3 f4 f5⟩
 self:=λ_ _ _ _ _ st h=>wpAny_pyIter_valiter st h
end
section
variable {X:Cx} {tg:Expr} {l:Expr} {tl:TE}
def Itv2 (d:Addr) (kvs:List (Key × V)) (o:Obj):It:=⟨λi H=>i < kvs.length/\H d=some (.frz o (.dK kvs)),λi H x H'=>H'=H/\∃ k,kvs[i]?=some (k,x),λi H=>kvs.length<=i/\H d=some (.frz o (.dK kvs))⟩
def Zkb (J:Addr->List (Key × V)->Obj->It) (tl:TE):TI:=λσ H R=>tl σ H λx H1=>∃ a kvs,x=.ref a/\((H1 a=some (.dK kvs)/\∀ o,R (J a kvs o) (upd H1 a (.frz o (.dK kvs))))\/∃ o,H1 a=some (.frz o (.dK kvs))/\R (J a kvs o) H1)
def Zgn {R:Obj->Hp->Prop} (I:Inv X j0 σ H s)
  (h:(H a=some (.dK kvs)/\∀ o,R o (upd H a (.frz o (.dK kvs))))\/∃ o,H a=some (.frz o (.dK kvs))/\R o H):∃ o H',H' a=some (.frz o (.dK kvs))/\Inv X j0 σ H' s/\R o H':=by
 rcases h with ⟨e,r⟩ | ⟨o,e,r⟩
 ·obtain ⟨ob,ho⟩:=(I.hok a _ e).there
  exact ⟨ob,_,Zb,I.freeze e True.intro ho,r ob⟩
 ·exact ⟨o,H,e,I,r⟩
structure M0 (X:Cx) (o:Expr) (m:Str) (j7 j9:Pos):Prop where
 base:attributeBase o m X.env (eval o X.env)=eval o X.env
 few:((backTo j9 (starEach [] X.env)).all (λx=>!x.1) && (backToKw j9 (keywordEach [] X.env)).all (λx=>x.1.isSome)
  && decide (([]:List Expr).length + ([]:List Keyword).length + (if ([]:List Keyword).isEmpty then 0 else 1) < 30))=true
 line:(j7.endLine == j9.line)=true
def Zhv {j7 j9:Pos} (hl:PE X l tl) (m:M0 X l "values" j7 j9):PI X tg (.Call (.Attribute l "values" j7) [] [] j9) (Zkb Itv2 tl):=by
 intro j0 s σ H R I h;refine wpAny_Call_method m.base m.few m.line PySem.F.plainAttrs_dict PySem.F.slot_dict_values PySem.F.type_dict_values (thn (hl j0 s σ H _ I h) λv s1 j2=>?_);obtain ⟨x,H1,I1,r1,q1⟩:=j2;obtain ⟨a,kvs,e,q⟩:=q1;subst e;cases r1;obtain ⟨o,H2,e2,I2,q2⟩:=Zgn (R:=λo H=>R (Itv2 a kvs o) H) I1 q;obtain ⟨vs,ep,kh,da,ho⟩:=U3 I2 e2;have vg:=Zdn da ho;subst vg;obtain ⟨_,_,sr,_⟩:=I2.hok a _ e2;have isd:IsD H2 a:=.inl ⟨kvs,.inr ⟨o,e2⟩⟩;obtain ⟨t1,t2,_⟩:=Ze1 I2 isd;refine ⟨t1,t2,?_⟩;refine Calls.callWith_builtin Z (PyProof.Rows.evalArgs_empty ?_);refine call_meetsIn PySem.F.slot_dict_values da.dictOf.typeIs PySem.F.entry_dict_values (PySem.F.args_dict_values_1 _) (meets_dict_values (Z7 X.prog X.w) a sr) ⟨⟨vs,da.dictOf⟩,?_⟩;have I3:Inv X j0 σ H2 { s1 with heap:=s1.heap.push { cls:=.type "dict_values",data:=.fields #[.ref a] } }:=I2.kept (t':=s1.toks) λb o e=>Ak _ e;refine wpAny_pyIter_values ⟨_,Ap _ Z,Z,Z⟩ (da.push _) ?_;have j1:vs.length=kvs.length:=kh.length.symm;rw [j1];refine ⟨(s1.heap.push { cls:=.type "dict_values",data:=.fields #[.ref a] }).objs.size,[(s1.heap.push { cls:=.type "dict_values",data:=.fields #[.ref a] }).objs.size],_,_,H2,rfl,I3.kept (t':=s1.toks) λb o e=>Ak _ e,Zdt a _ kvs o,⟨_,Ap _ rfl,rfl,rfl⟩,λb hb=>?_,q2⟩;have e:b=(s1.heap.push { cls:=.type "dict_values",data:=.fields #[.ref a] }).objs.size:=by simpa using hb
 subst e;exact I3.fpOk (An _) (I3.hok.fresh (An _))
end
section
def Ite (K:W.Frag) (a:Addr):It :=
 ⟨λi H=>∃ xs x,SqL K H a xs/\xs[i]?=some x,λi H x H'=>∃ q y,H q=none/\x=.ref q/\(∀ xs,SqL K H a xs->xs[i]?=some y)/\H'=upd H q (.tup [.int i,y]),λi H=>∃ xs,SqL K H a xs/\xs.length<=i⟩
def Zdv {P:Program} {w:World} {K:W.Frag} {m7:List Expr} {x1:Nat} {pos:Pos} (a e it:Addr) (kc:e≠it):Turn P w K (.Tuple m7 x1 pos) (Ite K a) [e,it] e (λi h=>(∃ kl,IsEnum h e it i kl)/\h.IsListIter it a i) where
 mem:=by simp
 obj:=λi h st b hb=>by
  obtain ⟨⟨kl,h1⟩,o,h2,c,d⟩:=st
  rcases Ar hb with z | z
  ·subst z
   exact ⟨_,h1,λv z=>by
    have z':Data.fields _=Data.cell v:=z
    cases z'⟩
  ·have z:b=it:=by simpa using z
   subst z;exact ⟨o,h2,λv z=>by rw [d] at z; cases z⟩
 keep:=λi h h' st k=>⟨let ⟨kl,h1⟩:=st.1; ⟨kl,k e (by simp) _ h1⟩,st.2.at λo q=>k it (by simp) o q⟩
 item:=by
  intro X hP hw hK hc i j0 s σ H E I hf st hg;subst hP hw hK;obtain ⟨xs,x,hq,hx⟩:=hg;obtain ⟨its,rv,p,hz⟩:=I.list hq;obtain ⟨u,hu,ru⟩:=rv.get hx;obtain ⟨f0,f1,f2,f3,f4,f5⟩:=hf e (by simp);obtain ⟨g0,g1,g2,g3,g4,g5⟩:=hf it (by simp);obtain ⟨⟨kl,he⟩,uk⟩:=st;refine wpAny_pyNext_enum_item he uk p.isList (x:=u) (by simpa using hu) kc λh' l8 hit' ht' hsz' kk=>?_;have eo:=Ao he;have io:it < s.heap.objs.size:=let ⟨o,q,_⟩:=uk; Ao q
  refine ⟨.ref s.heap.objs.size,Z,wpAny_letOwnedTupleGo_enum l8 λrp he'' sb=>?_⟩;have kj:∀ b o,b≠e->b≠it->s.heap.get? b=some o->rp.get? b=some o:=λb o h1 h2 q=>(sb.2 b h1).trans (kk b o h1 h2 q);have sk:rp.get? s.heap.objs.size=some { cls:=.type "tuple",data:=.seq #[.int i s.toks,u] }:=(sb.2 _ (Nat.ne_of_gt eo)).trans ht';have hn:H s.heap.objs.size=none:=I.hok.fresh (An _)
  have I2:Inv X j0 σ (upd H s.heap.objs.size (.tup [.int i,x])) { s with heap:=rp,toks:=s.toks + 1 }:=by
   refine I.step (g':=s.gens) (d':=s.drawn) (ch:=[e,it]) (λb hb=>?_) (λb o _ _ hc q _=>kj b o (λz=>hc (by simp [z])) (λz=>hc (by simp [z])) q) (λb o _ _ hc q _=>⟨o.slots,kj b o (λz=>hc (by simp [z])) (λz=>hc (by simp [z])) q⟩) (λb o _ q n=>by rw [Ze (As (Ao q))]; exact n)
    (λb o hc q=>⟨o,kj b o (λz=>hc (by simp [z])) (λz=>hc (by simp [z])) q⟩) (λb ys q=>by rw [Ze (Zh q hn)]; exact q) (λb o ys q=>by rw [Ze (Zh q hn)]; exact q) (λb ps q=>⟨#[],by rw [Ze (Zh q hn),q]; simp⟩) (λm hm=>?_) (λb v q=>?_) I.bare
   ·rcases Ar hb with z | z
    ·subst z; exact ⟨f3,f1,f4,f5⟩
    ·have z:b=it:=by simpa using z
     subst z; exact ⟨g3,g1,g4,g5⟩
   ·obtain ⟨o,es,ep,ho,r⟩:=hm
    exact ⟨o,es,ep,kj _ o (Ne.symm f1) (Ne.symm g1) ho,r⟩
   ·by_cases hb:b=s.heap.objs.size
    ·subst hb
     rw [Zb] at q;cases q;exact ⟨by show 2<=sizeLine; decide,[.int i s.toks,u],.cons ⟨_,rfl⟩ (.cons ru .nil),⟨_,sk,rfl,_,rfl⟩⟩
    ·rw [Ze hb] at q
     refine (I.hok b v q).stay (λc w' hc z=>kj c w' ?_ ?_ z) (λd z=>by rw [Ze (Zh z hn)]; exact z) λd ys z=>by rw [Ze (Zh z hn)]; exact z
     ·rintro rfl
      rcases hc with z | z
      ·rw [z,q] at f0; cases f0
      ·rw [f0] at z; cases z
     ·rintro rfl
      rcases hc with z | z
      ·rw [z,q] at g0; cases g0
      ·rw [g0] at z; cases z
  refine ⟨.ref s.heap.objs.size,_,I2,Z,⟨_,x,hn,Z,λys hy=>by rw [I.list_inj hy hq]; exact hx,Z⟩,⟨⟨u,he''⟩,hit'.at λo q=>(sb.2 it (Ne.symm kc)).trans q⟩,λb hb=>?_⟩
  rcases Ar hb with z | z
  ·subst z; rw [Ze (As eo)]; exact f0
  ·have z:b=it:=by simpa using z
   subst z; rw [Ze (As io)]; exact g0
 done:=by
  intro X hP hw hK hc i j0 s σ H E I hf st hg;subst hP hw hK;obtain ⟨xs,hq,hx⟩:=hg;obtain ⟨its,rv,p,hz⟩:=I.list hq;obtain ⟨g0,g1,g2,g3,g4,g5⟩:=hf it (by simp);obtain ⟨⟨kl,he⟩,uk⟩:=st;have hl:=rv.length;exact wpAny_pyNext_enum_end (I.ok.hd hc) he uk p.isList (by simp; lia) λh' eb=>⟨rfl,I.turned (t':=s.toks) (λb o hb e=>eb b o hb e) g0 g1 g3 g4 g5⟩
 self:=λ_ _ _ _ _ st h=>by
  obtain ⟨⟨kl,he⟩,_⟩:=st;exact wpAny_pyIter_enum he h
variable {X:Cx}
def Zka (K:W.Frag) (ta:TA):TI:=λσ H R=>ta σ H λvs H1=>∃ a,vs=[.ref a]/\(∃ xs,SqL K H1 a xs)/\R (Ite K a) H1
def Zcb {m7:List Expr} {x1:Nat} {oj p pos:Pos} {l:Expr} {ta:TA} (hg:Gl X "enumerate") (hm:X.mg "enumerate"=none) (ha:PA X [l] ta) (hs:starEach [l] X.env=[(false,eval l X.env)]:=by rfl):PI X (.Tuple m7 x1 oj) (.Call (.Name "enumerate" p) [l] [] pos) (Zka X.K ta):=by
 intro j0 s σ H R I h;refine Call_ (Jv I hg hm boot_enumerate (PyProof.Rows.callWith_type1 (thn (ha pos j0 s σ H _ I h) λus s1 zz29=>?_) hs Z));obtain ⟨vs,H1,I1,r1,q1⟩:=zz29;obtain ⟨a,e,⟨xs,hq⟩,q⟩:=q1;subst e;obtain ⟨u,rfl,ru⟩:=X8 r1;cases ru;obtain ⟨its,rv,pl,hz⟩:=I1.list hq;refine call_enumerate_list pl.isList λh' he uk hsz hk=>wpAny_pyIter_enum he ?_;have I2:Inv X j0 σ H1 { s1 with heap:=h' }:=I1.kept (t':=s1.toks) hk;refine ⟨s1.heap.objs.size + 1,[s1.heap.objs.size + 1,s1.heap.objs.size],_,_,H1,Z,I2,Zdv a _ _ (Nat.succ_ne_self _),⟨⟨.none,he⟩,uk⟩,λb hb=>?_,q⟩
 rcases Ar hb with z | z
 ·subst z; exact I1.fpOk (Nat.le_succ _) (I1.hok.fresh (Nat.le_succ _))
 ·have z:b=s1.heap.objs.size:=by simpa using z
  subst z; exact I1.fpOk (An _) (I1.hok.fresh (An _))
def Za7 {K:W.Frag} {a:Addr} {xs:List V} {g:TG} {tb:TS} {D:Ends} {σ:St} {H:Hp} (Pv:Nat->St->Hp->Prop) (h0:Pv 0 σ H) (hl:∀ i σ H,i<=xs.length->Pv i σ H->SqL K H a xs)
  (hs:∀ i x σ H q,xs[i]?=some x->H q=none->Pv i σ H->g (.ref q) σ (upd H q (.tup [.int i,x])) λσ2 H2=>tb { D with nx:=Pv (i + 1),ct:=Pv (i + 1),bk:=D.nx } σ2 H2) (hd:∀ σ H,Pv xs.length σ H->D.nx σ H) :
  ∃ W:Nat->Nat->St->Hp->Prop,(∃ m,W 0 m σ H)/\∀ i m σ H,W i m σ H ->
   ((Ite K a).stop i H/\D.nx σ H)\/((Ite K a).go i H/\∃ N:St->Hp->Prop,(∀ σ' H',N σ' H'->∃ m',m' < m/\W (i + 1) m' σ' H')/\∀ x H',(Ite K a).yld i H x H'->g x σ H' λσ2 H2=>tb { D with nx:=N,ct:=N,bk:=D.nx } σ2 H2):=by
 refine ⟨λi m σ H=>m=xs.length - i/\i<=xs.length/\Pv i σ H,⟨xs.length,by simp,Az _,h0⟩,?_⟩;rintro i m σ H ⟨rfl,hi,p⟩;have q:=hl i σ H hi p;by_cases kf:i < xs.length
 ·refine .inr ⟨⟨xs,xs[i],q,by simp [kf]⟩,Pv (i + 1),λσ' H' p'=>⟨xs.length - (i + 1),by lia,Z,kf,p'⟩,λx H' y=>?_⟩
  obtain ⟨c,z,hn,e1,e2,e3⟩:=y;subst e1 e3;exact hs i z σ H c (e2 xs q) hn p
 ·have e:i=xs.length:=by lia
  subst e;exact .inl ⟨⟨xs,q,An _⟩,hd σ H p⟩
def Zgj {kvs:List (Key × V)} {g:TG} {tb:TS} {D:Ends} (Pv:Nat->St->Hp->Prop) (h0:Pv 0 σ H) (hl:∀ i σ H,i<=kvs.length->Pv i σ H->H d=some (.frz o (.dK kvs)))
  (hs:∀ i k x σ H,kvs[i]?=some (k,x)->Pv i σ H->g x σ H λσ2 H2=>tb { D with nx:=Pv (i + 1),ct:=Pv (i + 1),bk:=D.nx } σ2 H2) (hd:∀ σ H,Pv kvs.length σ H->D.nx σ H) :
  ∃ W:Nat->Nat->St->Hp->Prop,(∃ m,W 0 m σ H)/\∀ i m σ H,W i m σ H ->
   ((Itv2 d kvs o).stop i H/\D.nx σ H)\/((Itv2 d kvs o).go i H/\∃ N:St->Hp->Prop,(∀ σ' H',N σ' H'->∃ m',m' < m/\W (i + 1) m' σ' H')/\∀ x H',(Itv2 d kvs o).yld i H x H'->g x σ H' λσ2 H2=>tb { D with nx:=N,ct:=N,bk:=D.nx } σ2 H2):=by
 refine ⟨λi m σ H=>m=kvs.length - i/\i<=kvs.length/\Pv i σ H,⟨kvs.length,by simp,Az _,h0⟩,?_⟩;rintro i m σ H ⟨rfl,hi,p⟩;have q:=hl i σ H hi p;by_cases kf:i < kvs.length
 ·refine .inr ⟨⟨kf,q⟩,Pv (i + 1),λσ' H' p'=>⟨kvs.length - (i + 1),by lia,Z,kf,p'⟩,λx H' y=>?_⟩
  obtain ⟨e,k,y⟩:=y;subst e;exact hs i k x σ _ y p
 ·have e:i=kvs.length:=by lia
  subst e;exact .inl ⟨⟨An _,q⟩,hd σ H p⟩
def Zg8 (ta:TA):TE:=λσ H Q=>ta σ H λvs H1=>∃ n:Nat,vs=[.int n]/\n<=1000/\∀ p,H1 p=none->Q (.ref p) (upd H1 p (.lst ((List.range n).map λ(i:Nat)=>V.int i)))
def Zal {p1 p2:Pos} (hgl:Gl X "list") (hml:X.mg "list"=none) (hg:Gl X "range") (hm:X.mg "range"=none) (hc:X.calm=true) (ha:PA X [a] ta) (hs:starEach [a] X.env=[(false,eval a X.env)]:=by rfl)
  (pj:starEach [.Call (.Name "range" p2) [a] [] pos2] X.env=[(false,eval (.Call (.Name "range" p2) [a] [] pos2) X.env)]:=by rfl):PE X (.Call (.Name "list" p1) [.Call (.Name "range" p2) [a] [] pos2] [] pos) (Zg8 ta):=by
 intro j0 s σ H Q I h;refine Call_ (Jv I hgl hml PySem.Pv.boot_list (PyProof.Rows.callWith_type1 ?_ pj Z));rw [pj];refine Calls.spliced_cons ?_;refine Call_ (Jv I hg hm boot_range (PyProof.Rows.callWith_type1 (thn (ha pos2 j0 s σ H _ I h) λus s1 zz30=>?_) hs Z));obtain ⟨vs,H1,I1,r1,q1⟩:=zz30;obtain ⟨n,e,hn,q⟩:=q1;subst e;obtain ⟨u,rfl,ru⟩:=X8 r1;obtain ⟨t,rfl⟩:=ru;refine call_range_1 (Calls.spliced_nil ?_);have hr:Builtin.Range.rangeSize 0 (n:Int) 1=n:=by rw [rangeSize_one]; split <;> lia
 refine call_list_range (I.ok.hd hc) (IsRange.new ..) (small_one (by lia) (by lia) (by lia) (by lia)) hr (by lia) λh' tk j3 c' hk hS ot=>?_;have hk1:∀ b o,s1.heap.get? b=some o->h'.get? b=some o:=λb o e=>hk b o (Ak _ e)
 have hv:Vals ((List.range n).map λ(i:Nat)=>V.int i) j3.toList:=by
  have gen:∀ (l:List Value) (k:Nat),(∀ (j:Nat) (v:Value),l[j]?=some v->∃ t,v=.int ((k + j:Nat):Int) t)->Vals ((List.range' k l.length).map λ(i:Nat)=>V.int i) l:=by
   intro l
   induction l with
   | nil=>intro k _; exact .nil
   | cons v r ih =>
    intro k h;obtain ⟨t,e⟩:=h 0 v rfl;rw [List.length_cons,List.range'_succ,List.map_cons];refine .cons ⟨t,by rw [e]; rfl⟩ (ih (k + 1) λj w hw=>?_);obtain ⟨t',e'⟩:=h (j + 1) w (by simpa using hw);exact ⟨t',by rw [e']; congr 1; lia⟩
  have hl:j3.toList.length=n:=by rw [Array.length_toList]; exact ot.1
  have:=gen j3.toList 0 λj v hj=>by
   obtain ⟨t,e⟩:=ot.2 j v (by rw [<- Array.getElem?_toList]; exact hj);exact ⟨t,by rw [e]; congr 1; lia⟩
  rw [hl,<- List.range_eq_range'] at this;exact this
 have hle:s1.heap.objs.size<=(s1.heap.push { cls:=.type "range",data:=.fields #[.int 0 s1.toks,.int (n:Int) t,.int 1 (s1.toks + 1)] }).objs.size:=by rw [Heap.size_push]; exact Nat.le_succ _
 refine ⟨.ref _,upd H1 _ (.lst ((List.range n).map λ(i:Nat)=>V.int i)),I1.laid hk1 (Nat.le_of_lt (by first | exact Nat.lt_of_le_of_lt hle (Ao hS) | (rw [Heap.size_push]; exact Nat.lt_succ_self _))) ⟨?_,j3.toList,c',hv,?_⟩,Z,q _ (I1.hok.fresh ?_)⟩
 ·rw [Ab,List.length_range,sizeLine_eq]; lia
 ·simpa using hS
 ·rw [Heap.size_push]; exact Nat.le_succ _
end
abbrev TJ:=Str->TE
def PJ (X:Cx) (es:List Expr) (t:TJ):Prop :=
 ∀ (out:Str) (j0:List (Addr × Obj)) (s:Shared) (σ:St) (H:Hp) (Q:VK),Inv X j0 σ H s->t out σ H Q->wpAny (model X.prog X.w) X.A (joinParts out (evalEach es X.env)) (EP X j0 σ Q) X.xe s
section
variable {X:Cx} {es:List Expr} {t:TJ} {pos:Pos}
def jNil:TJ:=λout _ H Q=>out.length<=sizeLine/\Q (.str out) H
def Zix:PJ X [] jNil:=λout j0 s σ H Q I h=>joinParts_nil (⟨.str out,H,I.tok _,⟨_,rfl⟩,h.2⟩) h.1
def jTxt (x:Str) (t:TJ):TJ:=λout σ H Q=>(out ++ x).length<=sizeLine/\t (out ++ x) σ H Q
def Zah {x:Str} {k:Nat} (h:PJ X es t):PJ X (.Constant (.str x) k pos :: es) (jTxt x t):=by
 intro out j0 s σ H Q I hq;refine joinParts_cons (Calls.Constant_str ?_);exact ⟨hq.1,h _ j0 _ σ H Q (I.tok _) hq.2⟩
def jInt (te:TE) (t:TJ):TJ:=λout σ H Q=>te σ H λv H1=>∃ i:Int,v=.int i/\i.natAbs.log2 < 1920/\(out ++ (toString i:Str)).length<=sizeLine/\t (out ++ (toString i:Str)) σ H1 Q
def Zai {e:Expr} {te:TE} (he:PE X e te) (h:PJ X es t):PJ X (.FormattedValue e (-1) none pos :: es) (jInt te t):=by
 intro out j0 s σ H Q I hq;refine joinParts_cons (FormattedValue_plain (thn (he j0 s σ H _ I hq) λu s1 j2=>?_));obtain ⟨v,H1,I1,r1,i,ev,hl,hz,q⟩:=j2;subst ev;obtain ⟨tk,rfl⟩:=r1;exact formatField_int_small hl ⟨hz,h _ j0 _ σ H1 Q (I1.tok _) q⟩
def Zhw {v₁ v₂:Expr} {rest:List Expr} (h:PJ X (v₁ :: v₂ :: rest) t):PE X (.JoinedStr (v₁ :: v₂ :: rest) pos) (t Str.empty):=λj0 s σ H Q I hq=>JoinedStr_many (h Str.empty j0 s σ H Q I hq)
end
section
variable {X:Cx}
def We (K:W.Frag) (h:X.K=K:=by rfl):IxR X (rIxL K):=h ▸ Zo
def Zh6 (K:W.Frag) (h:X.K=K:=by rfl):IxR X (rIxT K):=h ▸ Xg
def Ql (K:W.Frag) (h:X.K=K:=by rfl):W9 X (.type "tuple") (λxs H Q=>∃ p ys,xs=[.ref p]/\((SqL K H p ys/\∀ l,H l=none->Q (.ref l) (upd H l (.tup ys)))\/(SqT K H p ys/\Q (.ref p) H))):=h ▸ Fa
variable {tg l e:Expr} {tl ta:TE} {f:Str} {pos:Pos}
def Zca (K:W.Frag) (hl:PE X l tl) (h:X.K=K:=by rfl):PI X tg l (iTup K tl):=h ▸ Ziz hl
end
def J8 (w:World) (K:W.Frag) (a:Addr) (kvs:List (Key × V)):Prop :=
 ∃ o es ep vs,K.lookup a=some o/\o.ExactDict/\o.data=.dict es ep/\(∀ e∈es,∃ k,Qw k e.key=true/\e.hash=keyH w k)/\(∀ P:Program,Pairs (Z7 P w) es.toList vs)/\(vs.map (·.1)).Nodup/\KV kvs vs/\(a == sysModules)=false
section
variable {X:Cx} {i o:Expr} {ty td:TE} {pos:Pos}
def J8.here {j0:List (Addr × Obj)} {σ:St} {H:Hp} {s:Shared} {a:Addr} {kvs:List (Key × V)} (h:J8 X.w X.K a kvs) (I:Inv X j0 σ H s):(a == sysModules)=false/\∃ vs,KV kvs vs/\s.heap.DictOf (Z7 X.prog X.w) a vs:=by
 obtain ⟨o,es,ep,vs,h1,h2,h3,h4,h5,h6,h7,h8⟩:=h;exact ⟨h8,vs,h7,o,es,ep,I.kIn a o h1,h2,h3,h4,h5 X.prog,h6⟩
def Zjv (w:World) (K:W.Frag) (td ty:TE):TE:=λσ H Q=>td σ H λx H1=>ty σ H1 λy H2=>∃ a kvs k v,x=.ref a/\J8 w K a kvs/\y=kV k/\valV kvs k=some v/\Q v H2
def Kq (ho:PE X o td) (hi:PE X i ty) (hs:NoSl i):PE X (.Subscript o i pos) (Zjv X.w X.K td ty):=by
 intro j0 s σ H Q I h;refine Zb3 PySem.F.slot_dict_getitem.lookup hs (thn (ho j0 s σ H _ I h) λu s1 zz31=>?_);obtain ⟨x,H1,I1,rx,q1⟩:=zz31;refine thn (hi j0 s1 σ H1 _ I1 q1) λiv s2 j2=>?_;obtain ⟨y,H2,I2,ry,a,kvs,k,v,ex,g,ey,hv,q2⟩:=j2;subst ex ey;obtain rfl:u=Value.ref a:=rx;obtain ⟨hd,vs,kh,dd⟩:=g.here I2;have ku:=kh.val k;rw [hv] at ku
 cases q:valueAt vs k with
 | none=>rw [q] at ku; exact ku.elim
 | some z =>
  rw [q] at ku;exact ⟨dd.typeIs,wpAny_getItem_of (J5 ry) dd.mapOf q ⟨v,H2,I2.tok _,ku,q2⟩⟩
end
def kdict_mk2 {w:World} {K:W.Frag} {a:Addr} {h1 h2:Int} {t1 t2 t3 t4:Tok} {ep:Nat} {x1 y1 x2 y2:Str}
  (l:K.lookup a=some ⟨.type "dict",none,.dict #[⟨h1,.str x1 t1,.str y1 t2⟩,⟨h2,.str x2 t3,.str y2 t4⟩] ep,#[]⟩) (e1:h1=hashStr w x1) (e2:h2=hashStr w x2) (ne:x1≠x2) (sy:(a == sysModules)=false) :
  J8 w K a [(Sum.inr x1,.str y1),(Sum.inr x2,.str y2)]:=by
 refine ⟨_,_,_,[(Sum.inr x1,.str y1 t2),(Sum.inr x2,.str y2 t4)],l,⟨Z,Z,Z⟩,Z,λe he=>?_,λP=>?_,?_,?_,sy⟩
 ·have he:e=⟨h1,.str x1 t1,.str y1 t2⟩\/e=⟨h2,.str x2 t3,.str y2 t4⟩:=by simpa using he
  rcases he with rfl | rfl
  ·exact ⟨Sum.inr x1,Yg x1 t1,e1⟩
  ·exact ⟨Sum.inr x2,Yg x2 t3,e2⟩
 ·exact .cons (Yg x1 t1) Z (.cons (Yg x2 t3) Z .nil)
 ·refine List.nodup_cons.mpr ⟨?_,by simp⟩
  simp [ne]
 ·exact .cons ⟨Z,⟨_,Z⟩⟩ (.cons ⟨Z,⟨_,Z⟩⟩ .nil)
section
variable {X:Cx}
def Zfg (bs:List Bool):((List.range bs.length).all λi=>bs.getD i true)=bs.all id:=by
 rw [Bool.eq_iff_iff,List.all_eq_true,List.all_eq_true];constructor
 ·intro h b hb
  obtain ⟨i,hi,rfl⟩:=List.mem_iff_getElem.mp hb;have:=h i (List.mem_range.mpr hi);rw [Ad,Ac hi] at this;exact this
 ·intro h i hi
  have hi:=List.mem_range.mp hi;rw [Ad,Ac hi];exact h _ (List.getElem_mem hi)
def U7 (hc:X.calm=true):W9 X (.builtin "all") (λxs H Q=>∃ p bs,xs=[.ref p]/\SqL X.K H p (List.map V.bl bs)/\Q (.bl (bs.all id)) H):=by
 intro j0 s σ H xs us Q I r h;obtain ⟨p,bs,rfl,hq,q⟩:=h;obtain ⟨u,rfl,ru⟩:=X8 r;cases ru;obtain ⟨its,rv,pl,hz⟩:=I.list hq;have ne:p≠s.heap.objs.size:=by obtain ⟨o,ho,_⟩:=pl.isList; exact As (Ao ho)
 refine call_all_walk (wpAny_pyIter_list pl.isList ⟨s.heap.objs.size,_,_,_,_,_,λi=>bs.getD i true,Z,Walks.list (A:=X.A.in1) (show X.A.in1.handled=none from I.ok.hd hc) s.heap.objs.size p ne its.toArray,⟨⟨_,Ap _ Z,Z,Z⟩,pl.isList.push _⟩,?_,?_⟩)
 ·intro i v s' Q' E' hv l7
  have hv:its[i]?=some v:=by simpa using hv
  have j1:=rv.length;rw [Ab] at j1;have hi:i < bs.length:=by have:=(Aa hv).1; lia
  obtain ⟨u,hu,ru⟩:=rv.get (show (bs.map V.bl)[i]?=some (V.bl bs[i]) by rw [Ah,Ac hi]; rfl);rw [hv] at hu;cases hu;cases ru;have e:bs.getD i true=bs[i]:=by rw [Ad,Ac hi]; rfl
  refine wpAny_truthy_bool ?_;have l7:Q' (bs.getD i true) s':=l7;rw [e] at l7;exact l7
 ·intro h' tk hk
  have I1:Inv X j0 σ H { s with heap:=h',toks:=tk }:=I.kept λb o e=>hk b o (λz=>absurd (Ao e) (by rw [Af z]; exact Nat.lt_irrefl _)) (Ak _ e);have j1:its.toArray.size=bs.length:=by have:=rv.length; rw [Ab] at this; simp; lia
  refine ⟨.bl (bs.all id),H,I1,?_,q⟩;show Value.bool _=_;rw [j1,Zfg]
end
section
def Itz (K:W.Frag) (a b:Addr):It :=
  ⟨λi H=>∃ xs ys x y,SqL K H a xs/\SqL K H b ys/\xs[i]?=some x/\ys[i]?=some y,
   λi H v H'=>∃ q x y,H q=none/\v=.ref q/\(∀ xs,SqL K H a xs->xs[i]?=some x)/\(∀ ys,SqL K H b ys->ys[i]?=some y)/\H'=upd H q (.tup [x,y]),
   λi H=>∃ xs ys,SqL K H a xs/\SqL K H b ys/\(xs.length<=i\/ys.length<=i)⟩
def Zfh {P:Program} {w:World} {K:W.Frag} {m7:List Expr} {x1:Nat} {pos:Pos} (a b z TI TO i1 i2:Addr) (D:ZipApart z TI TO i1 i2 a b) :
  Turn P w K (.Tuple m7 x1 pos) (Itz K a b) [z,TI,TO,i1,i2] z (λi h=>IsZip h z TI TO .none/\IsPair h TI (.ref i1) (.ref i2)/\(∃ u v,IsPair h TO u v)/\h.IsListIter i1 a i/\h.IsListIter i2 b i) where
 mem:=by simp
 obj:=λi h st c hc=>by
  obtain ⟨s1,s2,⟨u,v,s3⟩,⟨o4,e4,c4,d4⟩,o5,e5,c5,d5⟩:=st;have hc:c=z\/c=TI\/c=TO\/c=i1\/c=i2:=by simpa using hc
  rcases hc with rfl | rfl | rfl | rfl | rfl
  ·exact ⟨_,s1,λv y=>by have y':Data.fields _=Data.cell v:=y; cases y'⟩
  ·exact ⟨_,s2,λv y=>by have y':Data.seq _ _=Data.cell v:=y; cases y'⟩
  ·exact ⟨_,s3,λv y=>by have y':Data.seq _ _=Data.cell v:=y; cases y'⟩
  ·exact ⟨o4,e4,λv y=>by rw [d4] at y; cases y⟩
  ·exact ⟨o5,e5,λv y=>by rw [d5] at y; cases y⟩
 keep:=λi h h' st k=>by
  obtain ⟨s1,s2,⟨u,v,s3⟩,s4,s5⟩:=st;exact ⟨k z (by simp) _ s1,k TI (by simp) _ s2,⟨u,v,k TO (by simp) _ s3⟩,s4.at λo e=>k i1 (by simp) o e,s5.at λo e=>k i2 (by simp) o e⟩
 item:=by
  intro X hP hw hK hc i j0 s σ H E I hf st hg;subst hP hw hK;obtain ⟨xs,ys,x,y,ue,ud,hx,hy⟩:=hg;obtain ⟨itx,xi,px,_⟩:=I.list ue;obtain ⟨ity,xh,py,_⟩:=I.list ud;obtain ⟨u,hu,ru⟩:=xi.get hx;obtain ⟨v,hv,rv⟩:=xh.get hy;obtain ⟨s1,s2,⟨u0,v0,s3⟩,s4,s5⟩:=st;refine wpAny_pyNext_zip_item D s1 s2 s3 s4 s5 px.isList py.isList (x:=u) (y:=v) (by simpa using hu) (by simpa using hv) λh' a1 a2 a3 a4 a5 a6 a7=>?_;refine ⟨.ref s.heap.objs.size,Z,wpAny_letOwnedTupleGo_zip a1 λrp b1 sb=>?_⟩;have lt:∀ c∈[z,TI,TO,i1,i2],c < s.heap.objs.size:=λc hc=>by
   obtain ⟨o,e,_⟩:∃ o,s.heap.get? c=some o/\True:=by
    have hc:c=z\/c=TI\/c=TO\/c=i1\/c=i2:=by simpa using hc
    rcases hc with rfl | rfl | rfl | rfl | rfl
    ·exact ⟨_,s1,trivial⟩
    ·exact ⟨_,s2,trivial⟩
    ·exact ⟨_,s3,trivial⟩
    ·obtain ⟨o,e,_⟩:=s4; exact ⟨o,e,trivial⟩
    ·obtain ⟨o,e,_⟩:=s5; exact ⟨o,e,trivial⟩
   exact Ao e
  have kj:∀ c o,c≠z->c≠TO->c≠i1->c≠i2->s.heap.get? c=some o->rp.get? c=some o:=λc o n1 n2 n3 n4 e=>(sb.2 c n1).trans (a7 c o n1 n2 n3 n4 e);have zl:=lt z (by simp);have sk:rp.get? s.heap.objs.size=some { cls:=.type "tuple",data:=.seq #[u,v] }:=(sb.2 _ (Nat.ne_of_gt zl)).trans a5;have hn:H s.heap.objs.size=none:=I.hok.fresh (An _)
  have I2:Inv X j0 σ (upd H s.heap.objs.size (.tup [x,y])) { s with heap:=rp }:=by
   have out:∀ c,c ∉ [z,TO,i1,i2]->c≠z/\c≠TO/\c≠i1/\c≠i2:=λc hc=>by simpa using hc
   refine I.step (g':=s.gens) (d':=s.drawn) (ch:=[z,TO,i1,i2]) (λc hc=>?_) (λc o _ _ hc q _=>?_) (λc o _ _ hc q _=>⟨o.slots,?_⟩) (λc o _ q n=>by rw [Ze (As (Ao q))]; exact n)
    (λc o hc q=>⟨o,?_⟩) (λc zs q=>by rw [Ze (Zh q hn)]; exact q) (λc o zs q=>by rw [Ze (Zh q hn)]; exact q) (λc ps q=>⟨#[],by rw [Ze (Zh q hn),q]; simp⟩) (λm hm=>?_) (λc v' q=>?_) I.bare
   ·have hc:c=z\/c=TO\/c=i1\/c=i2:=by simpa using hc
    have hm:c∈[z,TI,TO,i1,i2]:=by rcases hc with rfl | rfl | rfl | rfl <;> simp
    obtain ⟨f0,f1,f2,f3,f4,f5⟩:=hf c hm;exact ⟨f3,f1,f4,f5⟩
   ·obtain ⟨n1,n2,n3,n4⟩:=out c hc; exact kj c o n1 n2 n3 n4 q
   ·obtain ⟨n1,n2,n3,n4⟩:=out c hc; exact kj c o n1 n2 n3 n4 q
   ·obtain ⟨n1,n2,n3,n4⟩:=out c hc; exact kj c o n1 n2 n3 n4 q
   ·obtain ⟨o,es,ep,ho,r⟩:=hm
    exact ⟨o,es,ep,kj _ o (Ne.symm (hf z (by simp)).2.1) (Ne.symm (hf TO (by simp)).2.1) (Ne.symm (hf i1 (by simp)).2.1) (Ne.symm (hf i2 (by simp)).2.1) ho,r⟩
   ·by_cases hb:c=s.heap.objs.size
    ·subst hb
     rw [Zb] at q;cases q;exact ⟨by show 2<=sizeLine; decide,[u,v],.cons ru (.cons rv .nil),⟨_,sk,rfl,_,rfl⟩⟩
    ·rw [Ze hb] at q
     refine (I.hok c v' q).stay (λe w' he y'=>kj e w' ?_ ?_ ?_ ?_ y') (λd y'=>by rw [Ze (Zh y' hn)]; exact y') λd zs y'=>by rw [Ze (Zh y' hn)]; exact y'
     all_goals
      rintro rfl;have qu:H e=none:=(hf e (by simp)).1
      rcases he with y' | y'
      ·rw [y',q] at qu; cases qu
      ·rw [qu] at y'; cases y'
  refine ⟨.ref s.heap.objs.size,_,I2,Z,⟨_,x,y,hn,Z,λxs' mv=>by rw [I.list_inj mv ue]; exact hx,λys' mv=>by rw [I.list_inj mv ud]; exact hy,Z⟩,
   ⟨b1,(sb.2 TI D.TIz).trans (a7 TI _ D.TIz D.TITO D.TIi1 D.TIi2 s2),⟨u,v,(sb.2 TO D.TOz).trans a2⟩,a3.at λo e=>(sb.2 i1 D.i1z).trans e,a4.at λo e=>(sb.2 i2 D.i2z).trans e⟩,λc hc=>?_⟩;rw [Ze (As (lt c hc))];exact (hf c hc).1
 done:=by
  intro X hP hw hK hc i j0 s σ H E I hf st hg;subst hP hw hK;obtain ⟨xs,ys,ue,ud,j1⟩:=hg;obtain ⟨itx,xi,px,_⟩:=I.list ue;obtain ⟨ity,xh,py,_⟩:=I.list ud;obtain ⟨s1,s2,⟨u0,v0,s3⟩,s4,s5⟩:=st;have l1:=xi.length;have l2:=xh.length;refine wpAny_pyNext_zip_end (I.ok.hd hc) D s1 s2 s3 s4 s5 px.isList py.isList ?_ λh' eb=>⟨Z,?_⟩
  ·rcases j1 with z | z
   ·exact .inl (by simp; lia)
   ·exact .inr (by simp; lia)
  ·have out:∀ c,c ∉ [z,TO,i1,i2]->c≠z/\c≠TO/\c≠i1/\c≠i2:=λc hc=>by simpa using hc
   refine I.step (g':=s.gens) (d':=s.drawn) (t':=s.toks) (ch:=[z,TO,i1,i2]) (λc hc=>?_) (λc o _ _ hc q _=>?_) (λc o _ _ hc q _=>⟨o.slots,?_⟩) (λc o _ q n=>n)
    (λc o hc q=>⟨o,?_⟩) (λc zs q=>q) (λc o zs q=>q) (λc ps q=>⟨#[],by rw [q]; simp⟩) (λm hm=>?_) (λc v' q=>?_) I.bare
   ·have hc:c=z\/c=TO\/c=i1\/c=i2:=by simpa using hc
    have hm:c∈[z,TI,TO,i1,i2]:=by rcases hc with rfl | rfl | rfl | rfl <;> simp
    obtain ⟨f0,f1,f2,f3,f4,f5⟩:=hf c hm;exact ⟨f3,f1,f4,f5⟩
   ·obtain ⟨n1,n2,n3,n4⟩:=out c hc; exact eb c o n1 n2 n3 n4 q
   ·obtain ⟨n1,n2,n3,n4⟩:=out c hc; exact eb c o n1 n2 n3 n4 q
   ·obtain ⟨n1,n2,n3,n4⟩:=out c hc; exact eb c o n1 n2 n3 n4 q
   ·obtain ⟨o,es,ep,ho,r⟩:=hm
    exact ⟨o,es,ep,eb _ o (Ne.symm (hf z (by simp)).2.1) (Ne.symm (hf TO (by simp)).2.1) (Ne.symm (hf i1 (by simp)).2.1) (Ne.symm (hf i2 (by simp)).2.1) ho,r⟩
   ·refine (I.hok c v' q).stay (λe w' he y'=>eb e w' ?_ ?_ ?_ ?_ y') (λd y'=>y') λd zs y'=>y'
    all_goals
     rintro rfl;have qu:H e=none:=(hf e (by simp)).1
     rcases he with y' | y'
     ·rw [y',q] at qu; cases qu
     ·rw [qu] at y'; cases y'
 self:=λ_ _ _ _ _ st h=>wpAny_pyIter_zip st.1 h
def Zdr (la:a < N) (lb:b < N):ZipApart (N + 4) (N + 2) (N + 3) N (N + 1) a b:=by
 constructor <;> (intro z; first | exact absurd (show (_:Nat)=_ from z) (by lia) | lia)
variable {X:Cx}
def iZip (K:W.Frag) (ta:TA):TI:=λσ H R=>ta σ H λvs H1=>∃ a b xs ys,vs=[.ref a,.ref b]/\SqL K H1 a xs/\SqL K H1 b ys/\R (Itz K a b) H1
def Ziy {m7:List Expr} {x1:Nat} {oj p pos:Pos} {l m:Expr} {ta:TA} (hg:Gl X "zip") (hm:X.mg "zip"=none) (ha:PA X [l,m] ta) (hs:starEach [l,m] X.env=[(false,eval l X.env),(false,eval m X.env)]:=by rfl) (pj:starEach [m] X.env=[(false,eval m X.env)]:=by rfl) :
  PI X (.Tuple m7 x1 oj) (.Call (.Name "zip" p) [l,m] [] pos) (iZip X.K ta):=by
 intro j0 s σ H R I h;refine Call_ (Jv I hg hm boot_zip (PyProof.Rows.callWith_type1 (thn (ha pos j0 s σ H _ I h) λus s1 ⟨vs,H1,I1,r1,q1⟩=>?_) (by rw [hs,pj]) (by rw [pj]; rfl)));obtain ⟨a,b,xs,ys,e,ue,ud,q⟩:=q1;subst e;obtain ⟨u,v,rfl,ru,rv⟩:=r1.two;cases ru;cases rv;obtain ⟨itx,xi,px,_⟩:=I1.list ue;obtain ⟨ity,xh,py,_⟩:=I1.list ud;have la:a < s1.heap.objs.size:=by obtain ⟨o,ho,_⟩:=px.isList; exact Ao ho
 have lb:b < s1.heap.objs.size:=by obtain ⟨o,ho,_⟩:=py.isList; exact Ao ho
 refine call_zip_2 px.isList py.isList λh' z1 z2 z3 z4 z5 z6 z7=>wpAny_pyIter_zip z1 ?_;have I2:Inv X j0 σ H1 { s1 with heap:=h' }:=I1.kept (t':=s1.toks) z7;generalize hN:s1.heap.objs.size=N at *;refine ⟨N + 4,[N + 4,N + 2,N + 3,N,N + 1],_,_,H1,Z,I2,Zfh a b (N + 4) (N + 2) (N + 3) N (N + 1) (Zdr la lb),⟨z1,z2,⟨_,_,z3⟩,z4,z5⟩,λc hc=>?_,q⟩;have hc:s1.heap.objs.size<=c:=by
  have hc:c=N + 4\/c=N + 2\/c=N + 3\/c=N\/c=N + 1:=by simpa using hc
  rw [hN]
  rcases hc with rfl | rfl | rfl | rfl | rfl
  ·exact Nat.le_add_right _ _
  ·exact Nat.le_add_right _ _
  ·exact Nat.le_add_right _ _
  ·exact An _
  ·exact Nat.le_add_right _ _
 exact I1.fpOk hc (I1.hok.fresh hc)
def Zgb {K:W.Frag} {a b:Addr} {xs ys:List V} {g:TG} {tt:TT} {tb:TB} {R:St->Hp->Prop} {σ:St} {H:Hp} (j1:xs.length=ys.length) (Pv:Nat->St->Hp->Prop) (h0:Pv 0 σ H) (hl:∀ i σ H,i<=xs.length->Pv i σ H->SqL K H a xs/\SqL K H b ys)
  (hs:∀ (i:Nat) x y σ H q,xs[i]?=some x->ys[i]?=some y->H q=none->Pv i σ H->g (.ref q) σ (upd H q (.tup [x,y])) λσ2 H2=>tt σ2 H2 λb H3=>if b=true then tb σ2 H3 (Pv (i + 1)) else Pv (i + 1) σ2 H3) (hd:∀ σ H,Pv xs.length σ H->R σ H):X0 (Itz K a b) g tt tb R σ H:=by
 refine ⟨λi m σ H=>m=xs.length - i/\i<=xs.length/\Pv i σ H,⟨xs.length,by simp,Az _,h0⟩,?_⟩;rintro i m σ H ⟨rfl,hi,p⟩;obtain ⟨q1,q2⟩:=hl i σ H hi p;by_cases kf:i < xs.length
 ·have hlt2:i < ys.length:=by lia
  refine .inr ⟨⟨xs,ys,xs[i],ys[i],q1,q2,by simp [kf],by simp [hlt2]⟩,Pv (i + 1),λσ' H' p'=>⟨xs.length - (i + 1),by lia,Z,kf,p'⟩,λx H' y=>?_⟩;obtain ⟨c,u,v,hn,e1,y1,y2,e2⟩:=y;subst e1 e2;exact hs i u v σ H c (y1 xs q1) (y2 ys q2) hn p
 ·have e:i=xs.length:=by lia
  subst e;exact .inl ⟨⟨xs,ys,q1,q2,.inl (An _)⟩,hd σ H p⟩
end
section
variable {X:Cx} {tg:Expr}
def Ko (K:W.Frag) (hc:X.calm=true) (h:PGs X es t)
  (hn:(assignEach es X.env).length=n:=by rfl) (ll:(assignEach es X.env).findIdx? (·.1)=none:=by rfl) (hk:X.K=K:=by rfl):PG X (.Tuple es k pos) (gTup K n t):=hk ▸ Vp hc h hn ll
end
end L2
namespace KT
open PySem L2
def mV:Option Nat->V
 | none=>.non
 | some j=>.int j
structure TD (M:List (Option Nat)) (ns:List Int):Prop where
 n:∃ n,1<=n/\n<=40/\M.length=3 * n
 len:ns.length=M.length
 inv:∀ (i j:Nat),M[i]?=some (some j)->M[j]?=some (some i)/\i≠j
 rng:∀ (i:Nat) x,ns[i]?=some x->0<=x/\x<=9999
 eqv:∀ (i j:Nat) x,ns[i]?=some x->ns[j]?=some x->i=j\/M[i]?=some (some j)
 eqm:∀ (i j:Nat),M[i]?=some (some j)->ns[j]?=ns[i]?
structure SewOk (N:Nat) (F:List Nat) (M:List (Option Nat)):Prop where
 len:M.length=N
 nd:F.Nodup
 free:∀ f∈F,f < N/\M[f]?=some none
 inv:∀ (i j:Nat),M[i]?=some (some j)->M[j]?=some (some i)/\i≠j
def SewOk.start (N:Nat):SewOk N (List.range N) (List.replicate N none):=by
 refine ⟨by simp,List.nodup_range,λf hf=>?_,λi j h=>?_⟩
 ·have h:=List.mem_range.mp hf
  exact ⟨h,by rw [List.getElem?_replicate,if_pos h]⟩
 ·rw [List.getElem?_replicate] at h
  split at h <;> cases h
def SewOk.skip {one:Nat} (h:SewOk N (one :: F) M):SewOk N F M :=
 ⟨h.len,(List.nodup_cons.mp h.nd).2,λf hf=>h.free f (List.mem_cons_of_mem _ hf),h.inv⟩
def SewOk.pair {F:List Nat} {M:List (Option Nat)} (h:SewOk N (one :: F) M) (hk:F[k]?=some other):SewOk N (F.eraseIdx k) ((M.set one (some other)).set other (some one)):=by
 obtain ⟨n1,n2⟩:=List.nodup_cons.mp h.nd;have hm:other∈F:=Au hk;have kc:one≠other:=λz=>n1 (z ▸ hm);obtain ⟨h1,f1⟩:=h.free one List.mem_cons_self;obtain ⟨h2,f2⟩:=h.free other (List.mem_cons_of_mem _ hm);have l1:one < M.length:=by rw [h.len]; exact h1
 have l2:other < M.length:=by rw [h.len]; exact h2
 have g1:((M.set one (some other)).set other (some one))[one]?=some (some other):=by
  rw [List.getElem?_set_ne (Ne.symm kc),List.getElem?_set_self l1]
 have g2:((M.set one (some other)).set other (some one))[other]?=some (some one):=by
  rw [List.getElem?_set_self (by rw [List.length_set]; exact l2)]
 have g3:∀ i,i≠one->i≠other->((M.set one (some other)).set other (some one))[i]?=M[i]?:=λi a b=>by
  rw [List.getElem?_set_ne (Ne.symm b),List.getElem?_set_ne (Ne.symm a)]
 refine ⟨by rw [List.length_set,List.length_set]; exact h.len,n2.sublist (List.eraseIdx_sublist F k),λf hf=>?_,λi j e=>?_⟩
 ·obtain ⟨i,hi,hik,e⟩:=List.mem_eraseIdx_iff_getElem.mp hf
  have fm:f∈F:=e ▸ List.getElem_mem hi;obtain ⟨a,b⟩:=h.free f (List.mem_cons_of_mem _ fm);have c1:f≠one:=λz=>n1 (z ▸ fm);have c2:f≠other:=λz=>by
   obtain ⟨uj,ek⟩:=Aa hk
   exact hik ((List.getElem_inj n2).mp (e.trans (z.trans ek.symm)))
  exact ⟨a,by rw [g3 f c1 c2]; exact b⟩
 ·by_cases c1:i=one
  ·subst c1
   rw [g1] at e;cases e;exact ⟨g2,kc⟩
  ·by_cases c2:i=other
   ·subst c2
    rw [g2] at e;cases e;exact ⟨g1,Ne.symm kc⟩
   ·rw [g3 i c1 c2] at e
    obtain ⟨a,b⟩:=h.inv i j e;have d1:j≠one:=λz=>by rw [z,f1] at a; cases a
    have d2:j≠other:=λz=>by rw [z,f2] at a; cases a
    exact ⟨by rw [g3 j d1 d2]; exact a,b⟩
def nm (s t:Int) (i:Nat):Int:=(s + t * i) % 10000
def rep (M:List (Option Nat)) (i:Nat):Nat:=match M[i]? with
 | some (some j)=>if j < i then j else i
 | _=>i
def flat (M:List (Option Nat)) (s t:Int):List Int:=(List.range M.length).map λi=>nm s t (rep M i)
def Qn:List Int:=[1,3,7,9,37,1009,3333,9999]
def nm_d:∀ t∈Qn,∀ d:Fin 42,t * ((d.val:Nat):Int) % 10000=0->d.val=0:=by decide +kernel
def Zi8 (ht:t∈Qn) (hi:i < 42) (hj:j < 42) (h:nm s t i=nm s t j):i=j:=by
  have key:∀ a b:Nat,b<=a->a < 42->nm s t a=nm s t b->a=b:=λa b oa ha e=>by
    have e2:=Int.emod_eq_emod_iff_emod_sub_eq_zero.mp e;rw [Int.add_sub_add_left,<- Int.mul_sub,<- Int.natCast_sub oa] at e2;have:=nm_d t ht ⟨a - b,Nat.lt_of_le_of_lt (Nat.sub_le _ _) ha⟩ e2;exact Nat.le_antisymm (Nat.sub_eq_zero_iff_le.mp this) oa
  rcases Nat.le_total i j with h' | h'
  · exact (key j i h' hj h.symm).symm
  · exact key i j h' hi h
def Zea {N:Nat} (h:i < N):rep M i < N:=by
 unfold rep;split
 ·split <;> omega
 ·exact h
def Vk (M:List (Option Nat)) (i:Nat):rep M i=i\/(∃ j,M[i]?=some (some j)/\j < i/\rep M i=j):=by
 cases e:M[i]? with
 | none=>exact .inl (by unfold rep; rw [e])
 | some o =>
  cases o with
  | none=>exact .inl (by unfold rep; rw [e])
  | some j =>
   by_cases h:j < i
   ·exact .inr ⟨j,Z,h,by unfold rep; rw [e]; exact if_pos h⟩
   ·exact .inl (by unfold rep; rw [e]; exact if_neg h)
def U4 {M:List (Option Nat)} (h:(flat M s t)[i]?=some x):i < M.length/\x=nm s t (rep M i):=by
 unfold flat at h;rw [Ah] at h;by_cases hi:i < M.length
 ·rw [List.getElem?_range hi] at h
  exact ⟨hi,(Ax h).symm⟩
 ·rw [Ay (by simpa using hi)] at h
  cases h
def Zch {M:List (Option Nat)} (hi:i < M.length):(flat M s t)[i]?=some (nm s t (rep M i)):=by
 unfold flat;rw [Ah,List.getElem?_range hi];rfl
def Zg6 {M:List (Option Nat)} {n:Nat} (h1:1<=n) (h2:n<=14) (hM:M.length=3 * n) (mf:∀ (i j:Nat),M[i]?=some (some j)->M[j]?=some (some i)/\i≠j) (ht:t∈Qn):TD M (flat M s t) where
 n:=⟨n,h1,by omega,hM⟩
 len:=by unfold flat; simp
 inv:=mf
 rng:=λi x h=>by
  obtain ⟨_,rfl⟩:=U4 h;unfold nm;omega
 eqv:=λi j x hi hj=>by
  obtain ⟨li,ei⟩:=U4 hi;obtain ⟨lj,ej⟩:=U4 hj;have e:rep M i=rep M j:=Zi8 ht (by have:=Zea (M:=M) li; omega) (by have:=Zea (M:=M) lj; omega) (ei.symm.trans ej)
  rcases Vk M i with a | ⟨a,ha,la,ra⟩
  ·rcases Vk M j with b | ⟨b,hb,lb,rb⟩
   ·exact .inl (a.symm.trans (e.trans b))
   ·have:b=i:=by rw [<- rb,<- e,a]
    subst this;exact .inr (mf j b hb).1
  ·rcases Vk M j with b | ⟨b,hb,lb,rb⟩
   ·have:a=j:=by rw [<- ra,e,b]
    subst this;exact .inr ha
   ·have:a=b:=by rw [<- ra,e,rb]
    subst this;have c1:=(mf i a ha).1;have c2:=(mf j a hb).1;rw [c1] at c2;exact .inl (by cases c2; rfl)
 eqm:=λi j h=>by
  obtain ⟨h',kc⟩:=mf i j h;have li:i < M.length:=(Aa h).1;have lj:j < M.length:=(Aa h').1;rw [Zch li,Zch lj];have e:rep M j=rep M i:=by
   by_cases c:j < i
   ·have a:rep M i=j:=by unfold rep; rw [h]; exact if_pos c
    have b:rep M j=j:=by unfold rep; rw [h']; exact if_neg (by omega)
    rw [a,b]
   ·have a:rep M i=i:=by unfold rep; rw [h]; exact if_neg c
    have b:rep M j=i:=by unfold rep; rw [h']; exact if_pos (by omega)
    rw [a,b]
  rw [e]
def pl (ns:List Int) (n:Nat) (x:Int):List Nat:=(List.range n).filter λi=>decide (ns[i]?=some x)
def keys (ns:List Int):Nat->List Int
 | 0=>[]
 | n + 1=>match ns[n]? with
  | some x=>if x∈keys ns n then keys ns n else keys ns n ++ [x]
  | none=>keys ns n
def Y8 {ns:List Int} {i:Nat}:i∈pl ns n x ↔ i < n/\ns[i]?=some x:=by
 unfold pl;rw [List.mem_filter,List.mem_range];simp
def Zfz (ns:List Int) (n:Nat) (x:Int):(pl ns n x).Nodup:=(List.nodup_range).sublist List.filter_sublist
def Zed (ns:List Int) (n:Nat) (x:Int):(pl ns n x).Pairwise (· < ·):=(List.pairwise_lt_range).sublist List.filter_sublist
def V5 {ns:List Int} (h:ns[n]?=some x):pl ns (n + 1) x=pl ns n x ++ [n]:=by
 unfold pl;rw [List.range_succ,List.filter_append];congr 1;simp [h]
def Jt {ns:List Int} (h:ns[n]?≠some x):pl ns (n + 1) x=pl ns n x:=by
 unfold pl;rw [List.range_succ,List.filter_append];simp [h]
def X5 {ns:List Int} (h:ns[n]?=some x):keys ns (n + 1)=if x∈keys ns n then keys ns n else keys ns n ++ [x]:=by
 show (match ns[n]? with | some x=>if x∈keys ns n then keys ns n else keys ns n ++ [x] | none=>keys ns n)=_;rw [h]
theorem Wd {ns:List Int}:∀ {n:Nat} {x:Int},x∈keys ns n ↔ ∃ i,i < n/\ns[i]?=some x
 | 0,x=>by simp [keys]
 | n + 1,x=>by
  have ih:=Wd (ns:=ns) (n:=n) (x:=x)
  have e:x∈keys ns (n + 1) ↔ x∈keys ns n\/ns[n]?=some x:=by
   cases h:ns[n]? with
   | none =>
    have:keys ns (n + 1)=keys ns n:=by
     show (match ns[n]? with | some x=>if x∈keys ns n then keys ns n else keys ns n ++ [x] | none=>keys ns n)=_;rw [h]
    rw [this]; simp
   | some y =>
    rw [X5 h];split
    ·constructor
     ·exact .inl
     ·rintro (z | z)
      ·exact z
      ·cases z; assumption
    ·rw [List.mem_append,List.mem_singleton]
     constructor
     ·rintro (z | z)
      ·exact .inl z
      ·exact .inr (by rw [z])
     ·rintro (z | z)
      ·exact .inl z
      ·exact .inr (by cases z; rfl)
  rw [e,ih];constructor
  ·rintro (⟨i,h1,h2⟩ | h)
   ·exact ⟨i,by lia,h2⟩
   ·exact ⟨n,by lia,h⟩
  ·rintro ⟨i,h1,h2⟩
   by_cases c:i=n
   ·subst c; exact .inr h2
   ·exact .inl ⟨i,by lia,h2⟩
theorem Qv (ns:List Int):∀ n,(keys ns n).Nodup
 | 0=>List.nodup_nil
 | n + 1=>by
  have ih:=Qv ns n
  cases h:ns[n]? with
  | none =>
   have:keys ns (n + 1)=keys ns n:=by
    show (match ns[n]? with | some x=>if x∈keys ns n then keys ns n else keys ns n ++ [x] | none=>keys ns n)=_;rw [h]
   rw [this]; exact ih
  | some y =>
   rw [X5 h];split
   ·exact ih
   ·rename_i c
    refine List.nodup_append.mpr ⟨ih,by simp,λa ha b hb=>?_⟩;rw [List.mem_singleton] at hb;subst hb;rintro rfl;exact c ha
theorem W0 (ns:List Int):∀ n,(keys ns n).length<=n
 | 0=>An _
 | n + 1=>by
  have ih:=W0 ns n
  cases h:ns[n]? with
  | none =>
   have:keys ns (n + 1)=keys ns n:=by
    show (match ns[n]? with | some x=>if x∈keys ns n then keys ns n else keys ns n ++ [x] | none=>keys ns n)=_;rw [h]
   rw [this]; lia
  | some y =>
   rw [X5 h];split
   ·lia
   ·rw [Ae,At]; lia
def Zee (h:x ∉ keys ns n):pl ns n x=[]:=by
 cases e:pl ns n x with
 | nil=>rfl
 | cons a r =>
  have:a∈pl ns n x:=by rw [e]; exact List.mem_cons_self
  obtain ⟨h1,h2⟩:=Y8.mp this;exact absurd (Wd.mpr ⟨a,h1,h2⟩) h
def Zag (td:TD M ns) (n:Nat) (x:Int):(pl ns n x).length<=2:=by
 match e:pl ns n x with
 | []=>simp
 | [_]=>simp
 | [_,_]=>simp
 | a :: b :: c :: r =>
  exfalso;have nd:=Zfz ns n x;rw [e] at nd;have ha:=(Y8.mp (show a∈pl ns n x by rw [e]; simp)).2;have hb:=(Y8.mp (show b∈pl ns n x by rw [e]; simp)).2;have hc:=(Y8.mp (show c∈pl ns n x by rw [e]; simp)).2;simp only [List.nodup_cons,List.mem_cons,not_or] at nd;obtain ⟨⟨n1,n2,_⟩,⟨n3,_⟩,_⟩:=nd
  rcases td.eqv a b x ha hb with z | z
  ·exact n1 z
  ·rcases td.eqv a c x ha hc with y | y
   ·exact n2 y
   ·rw [z] at y
    cases y;exact n3 Z
def Ux {M:List (Option Nat)} {ns:List Int} (td:TD M ns) (hx:x∈keys ns ns.length) :
  (∃ a,pl ns ns.length x=[a]/\ns[a]?=some x/\M[a]?=some none)\/(∃ a b,a < b/\pl ns ns.length x=[a,b]/\ns[a]?=some x/\ns[b]?=some x/\M[a]?=some (some b)/\M[b]?=some (some a)):=by
 obtain ⟨i,h1,h2⟩:=Wd.mp hx;have mi:i∈pl ns ns.length x:=Y8.mpr ⟨h1,h2⟩;have l2:=Zag td ns.length x;have st:=Zed ns ns.length x
 match e:pl ns ns.length x with
 | []=>rw [e] at mi; simp at mi
 | [a] =>
  obtain ⟨ga,ha⟩:=Y8.mp (show a∈pl ns ns.length x by rw [e]; simp);refine .inl ⟨a,Z,ha,?_⟩;have la:a < M.length:=by rw [<- td.len]; exact ga
  cases q:M[a]? with
  | none=>rw [List.getElem?_eq_none_iff] at q; lia
  | some o =>
   cases o with
   | none=>rfl
   | some b =>
    exfalso;have hb:ns[b]?=some x:=by rw [td.eqm a b q]; exact ha
    have mb:b∈pl ns ns.length x:=Y8.mpr ⟨(Aa hb).1,hb⟩;rw [e,List.mem_singleton] at mb;exact (td.inv a b q).2 mb.symm
 | [a,b] =>
  obtain ⟨ga,ha⟩:=Y8.mp (show a∈pl ns ns.length x by rw [e]; simp);obtain ⟨gb,hb⟩:=Y8.mp (show b∈pl ns ns.length x by rw [e]; simp);rw [e] at st;have oa:a < b:=by simpa using st
  rcases td.eqv a b x ha hb with z | z
  ·lia
  ·exact .inr ⟨a,b,oa,Z,ha,hb,z,(td.inv a b z).1⟩
 | a :: b :: c :: r=>rw [e] at l2; simp at l2
def part (M:List (Option Nat)) (ns:List Int) (ks:List Int):List (Option Nat):=(List.range M.length).map λi=>match ns[i]? with
 | some x=>if x∈ks then M.getD i none else none
 | none=>none
def Xp (M:List (Option Nat)) (ns ks:List Int):(part M ns ks).length=M.length:=by unfold part; simp
def Wy {M:List (Option Nat)} {ns:List Int} (td:TD M ns) (h:ns[i]?=some x):(part M ns ks)[i]?=some (if x∈ks then M.getD i none else none):=by
 have li:i < M.length:=by rw [<- td.len]; exact (Aa h).1
 unfold part;rw [Ah,List.getElem?_range li];simp [h]
def Zf5 {M:List (Option Nat)} (td:TD M ns):part M ns []=List.replicate M.length none:=by
 apply List.ext_getElem?;intro i;by_cases li:i < M.length
 ·obtain ⟨x,hx⟩:∃ x,ns[i]?=some x:=⟨_,Ac (by rw [td.len]; exact li)⟩
  rw [Wy td hx,List.getElem?_replicate,if_pos li];simp
 ·rw [Ay (by rw [Xp]; lia),Ay (by simp; lia)]
def Zf6 {ns:List Int} (td:TD M ns):part M ns (keys ns ns.length)=M:=by
 apply List.ext_getElem?;intro i;by_cases li:i < M.length
 ·have ln:i < ns.length:=by rw [td.len]; exact li
  obtain ⟨x,hx⟩:∃ x,ns[i]?=some x:=⟨_,Ac ln⟩;rw [Wy td hx,if_pos (Wd.mpr ⟨i,ln,hx⟩),Ad,Ac li];rfl
 ·rw [Ay (by rw [Xp]; lia),Ay (by lia)]
def Zf4 {M:List (Option Nat)} {ns:List Int} (td:TD M ns) {a:Nat} (hp:pl ns ns.length x=[a]) (hm:M[a]?=some none):part M ns (ks ++ [x])=part M ns ks:=by
 apply List.ext_getElem?;intro i;by_cases li:i < M.length
 ·have ln:i < ns.length:=by rw [td.len]; exact li
  obtain ⟨y,hy⟩:∃ x,ns[i]?=some x:=⟨_,Ac ln⟩;rw [Wy td hy,Wy td hy];by_cases c:y=x
  ·subst c
   have:i∈pl ns ns.length y:=Y8.mpr ⟨ln,hy⟩;rw [hp,List.mem_singleton] at this;subst this;have:M.getD i none=none:=by rw [Ad,hm]; rfl
   rw [this];simp
  ·simp [c]
 ·rw [Ay (by rw [Xp]; lia),Ay (by rw [Xp]; lia)]
def Zek {M:List (Option Nat)} {ns:List Int} (td:TD M ns) (hp:pl ns ns.length x=[a,b]) (oa:a < b) (ha:M[a]?=some (some b)) (hb:M[b]?=some (some a)) :
  part M ns (ks ++ [x])=((part M ns ks).set a (some b)).set b (some a):=by
 have la:a < M.length:=(Aa ha).1;have lb:b < M.length:=(Aa hb).1;have na:=(Y8.mp (show a∈pl ns ns.length x by rw [hp]; simp)).2;have nb:=(Y8.mp (show b∈pl ns ns.length x by rw [hp]; simp)).2;apply List.ext_getElem?;intro i;by_cases li:i < M.length
 ·have ln:i < ns.length:=by rw [td.len]; exact li
  obtain ⟨y,hy⟩:∃ x,ns[i]?=some x:=⟨_,Ac ln⟩;rw [Wy td hy];by_cases cb:i=b
  ·subst cb
   rw [nb] at hy; cases hy;rw [List.getElem?_set_self (by rw [List.length_set,Xp]; exact lb),if_pos (by simp),Ad,hb];rfl
  ·rw [List.getElem?_set_ne (Ne.symm cb)]
   by_cases ca:i=a
   ·subst ca
    rw [na] at hy; cases hy;rw [List.getElem?_set_self (by rw [Xp]; exact la),if_pos (by simp),Ad,ha];rfl
   ·rw [List.getElem?_set_ne (Ne.symm ca),Wy td hy]
    have:y≠x:=by
     rintro rfl;have:i∈pl ns ns.length y:=Y8.mpr ⟨ln,hy⟩;rw [hp] at this;simp at this;lia
    simp [this]
 ·rw [Ay (by rw [Xp]; lia),Ay (by rw [List.length_set,List.length_set,Xp]; lia)]
def nV (i:Nat):V:=.int (i:Int)
theorem Xy {g:Int->V}:∀ {ks:List Int},valV (ks.map λx=>((Sum.inl x:Key),g x)) (Sum.inl y)=if y∈ks then some (g y) else none
 | []=>by simp [valV]
 | k :: r=>by
  have ih:=Xy (g:=g) (y:=y) (ks:=r);unfold valV at ih ⊢;rw [List.map_cons,List.find?_cons];by_cases c:k=y
  ·subst c
   simp
  ·have:(decide ((Sum.inl k:Key)=Sum.inl y))=false:=by
    rw [decide_eq_false_iff_not];intro z;cases z;exact c Z
   simp only [this];rw [ih];have:(y∈k :: r) ↔ y∈r:=by
    rw [List.mem_cons]
    exact ⟨λz=>z.elim (λw=>absurd w.symm c) id,.inr⟩
   simp only [this]
def Kn {g:Int->V} {ks:List Int} (h:y ∉ ks):putK (ks.map λx=>((Sum.inl x:Key),g x)) (Sum.inl y) v=(ks.map λx=>((Sum.inl x:Key),g x)) ++ [(Sum.inl y,v)]:=by
 unfold putK;rw [if_neg];intro z;rw [List.any_eq_true] at z;obtain ⟨kv,h1,h2⟩:=z;obtain ⟨x,hx,rfl⟩:=List.mem_map.mp h1;have:(Sum.inl x:Key)=Sum.inl y:=of_decide_eq_true h2;cases this;exact h hx
def Xt {α:Type} {f:α->V} {l:List α} {i:Nat} {x:α} (h:l[i]?=some x):atI (l.map f) (i:Int)=some (f x):=X6 (by rw [Ah,h]; rfl)
def Wc (h:upd H p o q=none):q≠p/\H q=none:=by
 by_cases c:q=p
 ·subst c; rw [Zb] at h; cases h
 ·rw [Ze c] at h; exact ⟨c,h⟩
def after (p:Int):Int:=if p % 3=2 then p - 2 else p + 1
def Jw (p:Int):Int:=if p % 3=0 then p + 2 else p - 1
def mvI (left:Bool) (a b:Nat) (z:Int):Int :=
 if z=after a then (if left then Jw b else Jw a) else if z=Jw b then (if left then after b else after a) else if z=after b then (if left then Jw a else Jw b) else if z=Jw a then (if left then after a else after b) else z
def mvN (left:Bool) (i j z:Nat):Nat:=(mvI left i j z).toNat
def Xm (M:List (Option Nat)) (p:Int):Bool:=decide (0<=p/\p < M.length) && (M.getD p.toNat none).isSome
def Qk (M:List (Option Nat)) (a p:Int):Bool:=match M.getD a.toNat none with
 | some m=>decide (p / 3=(m:Int) / 3) && !decide (p=(m:Int))
 | none=>false
def rot {α:Type} (ws:List α) (s:Nat):List α:=ws.drop s ++ ws.take s
def Ji (M:List (Option Nat)) (ws vs:List Int):List Bool:=(ws.zip vs).map λp=>Qk M p.1 p.2
def Xk (M:List (Option Nat)) (ws:List Int):Bool:=!ws.isEmpty && ((ws.map (Xm M)).all id && (Ji M ws (rot ws (1 % ws.length))).all id)
def Zhn {α:Type} (ws:List α) (h:s<=ws.length):(rot ws s).length=ws.length:=by
 unfold rot;rw [Ae,List.length_drop,Ai];lia
end KT
namespace L2
open PySem PySem.Spec PyProof.Rows
section
variable {X:Cx}
def Zhp:V->List V->Hp->VK->Prop:=λx vs H Q=>∃ l xs k y,x=.ref l/\vs=[.int (k:Nat),y]/\H l=some (.lst xs)/\k<=xs.length/\xs.length < sizeLine/\Q .non (upd H l (.lst (xs.take k ++ y :: xs.drop k)))
def Zgf {prog:Program} {w:World} {A:Around} {E:Value->Shared->Prop} {s:Shared} {Q:Value->Shared->Prop} {l:Addr} {its:Array Value} {n:Nat} {x:Int} {t:Tok} {u:Value} (h:¬ (!Builtin.List.listFitsIndex x)=true) (hz:its.size<=sizeLine)
  (e:s.heap.get? l=some { cls:=.type "list",dict:=none,data:=.seq its n,slots:=#[] })
  (q:Q Value.none { s with heap:=s.heap.update l (Obj.mapSeq λxs=>have k:=if x < 0 then (x + ((xs.size:Nat):Int)).toNat else min x.toNat xs.size; (xs.extract 0 k).push u ++ xs.extract k),toks:=s.toks }) :
  wpAny (model prog w) A (call (Value.builtin "list.insert") [.ref l,.int x t,u]) Q E s:=by
 have M:=@PySem.AutoListH.list_insert_list_int_val_1 l its n x t u h hz;have ar:=F.args_list_insert_3 (.ref l) (.int x t) u;exact @call_meets prog w A E s _ _ _ _ (.ref l) [.int x t,u] _ Q F.slot_list_insert ⟨_,e,Z⟩ F.entry_list_insert ar M ⟨e,q⟩
def Gc:MtM X "list.insert" Zhp:=by
 intro j0 s σ H x vs v us Q I rx rv h;obtain ⟨l,xs,k,y,rfl,rfl,hH,hk,hz,q⟩:=h;cases rx;obtain ⟨u1,u2,rfl,r1,r2⟩:=rv.two;obtain ⟨t,rfl⟩:=r1;obtain ⟨z,its,n,r,hl,e⟩:=I.lstM hH;have hsz:its.toArray.size<=sizeLine:=by rw [Aq]; lia
 have pj:sizeLine < 2 ^ 62:=by rw [sizeLine_eq]; lia
 have hf:Builtin.List.listFitsIndex (k:Int)=true:=fitsIndex_both (by lia) (by lia);have ls:¬ (!Builtin.List.listFitsIndex (k:Int))=true:=by rw [hf]; simp
 have xr:(k:Int).toNat=k/\¬ (k:Int) < 0:=⟨Int.toNat_natCast k,by lia⟩
 revert ls xr
 clear hf;generalize (k:Int)=x;intro ls xr;refine Zgf ls hsz e ?_;refine ⟨.non,_,I.lset (its':=its.take k ++ u2 :: its.drop k) hH e ?_ ?_ ?_,Z,q⟩
 ·have uj:k<=its.length:=by lia
  show (its.toArray.extract 0 (if x < 0 then (x + ((its.toArray.size:Nat):Int)).toNat else min x.toNat its.toArray.size)).push u2 ++ its.toArray.extract (if x < 0 then (x + ((its.toArray.size:Nat):Int)).toNat else min x.toNat its.toArray.size)=_;rw [if_neg xr.2,xr.1,Aq,Nat.min_eq_left uj];simp;exact List.take_of_length_le (by rw [List.length_drop]; exact An _)
 ·exact (r.take k).append (.cons r2 (r.drop k))
 ·rw [Ae,List.length_cons,Ai,List.length_drop]
  lia
end
section
variable {X:Cx}
def log2_lt {j:Int} {k:Nat} (h:j.natAbs < 2 ^ k) (hk:0 < k):j.natAbs.log2 < k:=by
 by_cases e:j.natAbs=0
 ·rw [e]; simpa using hk
 ·exact (Nat.log2_lt e).mpr h
end
end L2
namespace HL
open PySem PyProof.Rows HT
end HL
namespace L2
open PySem PySem.Spec PyProof.Rows
end L2
namespace HT
end HT
namespace L2
open PySem PySem.Spec PyProof.Rows
section
variable {X:Cx} {j0:List (Addr × Obj)} {σ:St} {H:Hp} {s:Shared} {a:Addr} {y v:V} {u r:Value} {A:Around} {E:Value->Shared->Prop}
def Zke {kvs:List (Key × V)} (I:Inv X j0 σ H s) (e:H a=some (.dK kvs)) (l:kvs.length < sizeLine) (ry:RelV (kV k) u) (rv:RelV v r) (h:∀ s',Inv X j0 σ (upd H a (.dK (putK kvs k v))) s'->Q () s') :
  wpAny (model X.prog X.w) A (dictSet a u r) Q E s:=by
 obtain ⟨z,hd,vs,kh,dd⟩:=Zg3 I.hok e;have hz:vs.length<=sizeLine:=by rw [<- kh.length]; exact z
 have hl:(putK kvs k v).length<=sizeLine:=by have:=Ur kvs k v; lia
 refine wpAny_dictSet_pairs (hsz:=hz) (J5 ry) dd λh' vw hs=>h _ ?_;have he:∃ q,h'.get? a=some q:=let ⟨q,_,_,hq,_⟩:=vw; ⟨q,hq⟩
 exact Zcl I (by rw [e]; exact True.intro) hs he (Zfa hl hd (kh.put k rv) vw)
end
def Zir (tk tv:TE) (D:Addr):TB:=λσ H N=>tk σ H λx H1=>tv σ H1 λv H2=>∃ kvs k,x=kV k/\H2 D=some (.dK kvs)/\kvs.length < sizeLine/\N σ (upd H2 D (.dK (putK kvs k v)))
section
variable {X:Cx}
def Zf3 (hk:PE X kx tk) (hv:PE X vx tv) :
  PB X ((eval kx X.env >>= λkv=>holding [kv] (eval vx X.env) >>= λvv=>standAt p >>= λ_=>holding [kv,vv] (dictSet D kv vv)) >>= λ_=>again c) c (Zir tk tv D):=by
 intro j0 s σ H N I h;refine Al (Al (thn (hk j0 s σ H _ I h) λu s1 zz32=>?_));obtain ⟨x,H1,I1,r1,q1⟩:=zz32;refine Al (wpAny_holding (thn (hv j0 s1 σ H1 _ I1 q1) λw s2 zz33=>?_));obtain ⟨v,H2,I2,r2,q2⟩:=zz33;refine Al (wpAny_standAt (wpAny_holding ?_));obtain ⟨kvs,k,rfl,hD,hl,q⟩:=q2;exact Zke I2 hD hl r1 r2 λs3 I3=>wpAny_pure ⟨Z,σ,_,I3,q⟩
end
def Zdw (ts:List Str) (fv:List (Str × Nat)) (wi:TI) (g:TG) (tt:TT) (tb:Addr->TB):TE:=λσ H Q=>wi σ H λJ H1=>∀ D,H1 D=none ->
 X0 J g tt (tb D) (λ_ H'=>Q (.ref D) H') (blkS ts fv σ) (upd H1 D (.dK []))
section
variable {X:Cx} {ts:List Str} {fv:List (Str × Nat)} {scope:Scope} {kx vx t0 i0:Expr} {f0:List Expr} {rest:List Comprehension} {pos:Pos} {wi:TI} {g:TG} {tt:TT} {tb:Addr->TB} {j6:Env->Addr->Addr->Sem Fin}
theorem Zdp (B:BlkOk X scope fv) (hc:X.calm=true) (hi:PI X t0 i0 wi)
  (hg:∀ C s₀ H₀ ex,PG (Zq X (blkN ts fv) scope C s₀ H₀ ex) t0 g) (ht:∀ C s₀ H₀ ex,PTs (Zq X (blkN ts fv) scope C s₀ H₀ ex) f0 tt)
  (lx:∀ (env:Env) (it D:Addr),compTurn (.DictComp kx vx (⟨t0,i0,f0,0⟩ :: rest) scope pos) 0 (.ref it) (.ref D) env=(standAt i0.pos >>= λ_=>pyNext (.ref it) >>= λr=>match r with
   | none=>pure (.done .next)
   | some v=>letOwnedTupleGo t0 (.ref it) v >>= λ_=>assign t0 env v >>= λ_ =>
    (forIn f0 true λc r=>if r=true then do let ok <- isTrue c env (eval c env); pure (ForInStep.yield ok) else pure (ForInStep.yield r)) >>= λok =>
     if ok=true then j6 env it D else again (.compLoop (.DictComp kx vx (⟨t0,i0,f0,0⟩ :: rest) scope pos) 0 (.ref it) (.ref D) env)))
  (hb:∀ C s₀ H₀ ex it D,PB (Zq X (blkN ts fv) scope C s₀ H₀ ex) (j6 (Zq X (blkN ts fv) scope C s₀ H₀ ex).env it D) (.compLoop (.DictComp kx vx (⟨t0,i0,f0,0⟩ :: rest) scope pos) 0 (.ref it) (.ref D) (Zq X (blkN ts fv) scope C s₀ H₀ ex).env) (tb D)) {RR:Value->Addr->Result->Shared->Prop} (I:Inv X j0 σ H s) (h:Zdw ts fv wi g tt tb σ H Q)
  (zq:∀ D C s' H',Inv X j0 σ H' s'->H' C=none->X.s₀.heap.objs.size<=C->C≠X.env.locals->(∀ x c,X.env.cells.lookup x=some c->c≠C)->(∀ p∈X.pn ++ j0,p.1≠C)->(∃ m,s'.heap.Ns C m)->Q (.ref D) H'->RR (.ref D) C (.ok .next) s') :
  wpAny (model X.prog X.w) X.A (eval i0 X.env) (λx s₁=>wpAny (model X.prog X.w) X.A (pyIter x) (λit s₂=>wpAny (model X.prog X.w) X.A newDict (λj3 s₃ =>
   wpAny (model X.prog X.w) X.A (newFunctionEnv scope X.env.globals (Yj X.env scope.names []) [] X.env.qual none .none (some X.env)) (λl4 s₄ =>
    codeAny (model X.prog X.w) X.A (.compStart (.DictComp kx vx (⟨t0,i0,f0,0⟩ :: rest) scope pos) 0 it j3 { l4 with scope:=relabel scope X.env }) (RR j3 l4.locals) s₄) X.xe s₃) X.xe s₂) X.xe s₁) X.xe s:=by
 refine thn (hi j0 s σ H _ I h) λv s1 h1=>thn h1 λqb s2 h2=>?_;obtain ⟨it,fp,tn,J,H2,e,I2,T,l5,f2,L⟩:=h2;subst e;have L:=L s2.heap.objs.size I2.fresh;refine wpAny_newObj_type ?_;have I3:Inv X j0 σ (upd H2 s2.heap.objs.size (.dK [])) { s2 with heap:=s2.heap.push { cls:=.type "dict",data:=.dict #[] },toks:=s2.toks }:=I2.laid (a:=s2.heap.objs.size) (o:=.dK []) (t':=s2.toks) (λ_ _ q=>Ak _ q) (An _) (Za9 s2.heap I2.big);have lq:∀ b∈fp,∃ o,s2.heap.get? b=some o/\∀ v,o.data≠.cell v:=T.obj _ _ l5;have f3:∀ b∈fp,FpOk X j0 (upd H2 s2.heap.objs.size (.dK [])) b:=λb hb=>by
  obtain ⟨o,ho,_⟩:=lq b hb
  refine ⟨?_,(f2 b hb).2⟩
  rw [Ze (As (Ao ho))]
  exact (f2 b hb).1
 have k8:tn 0 (s2.heap.push { cls:=.type "dict",data:=.dict #[] }):=T.keep _ _ _ l5 λb _ o e=>Ak _ e;have my:∀ b∈fp,∃ o,(s2.heap.push { cls:=.type "dict",data:=.dict #[] }).get? b=some o:=λb hb=>let ⟨o,e,_⟩:=lq b hb; ⟨o,Ak _ e⟩
 generalize hs3:({ s2 with heap:=s2.heap.push { cls:=.type "dict",data:=.dict #[] },toks:=s2.toks }:Shared)=s3 at I3;have eh:s2.heap.push { cls:=.type "dict",data:=.dict #[] }=s3.heap:=by rw [<- hs3]
 rw [eh] at k8 my;refine wpAny_newFunctionEnv B.nocell (by intro y hy; simp at hy) (λh₁ nr n8=>?_) B.kind;have hk:∀ b o,s3.heap.get? b=some o->h₁.get? b=some o:=λb o e=>n8.extBut b o (As (Ao e)) (Ak _ e);have I4:=J7 (ts:=ts) (tk:=s3.toks + ([]:List (Str × Value)).length) B I3 f3 my nr hk;have f4:∀ b∈fp,FpOk (Zq X (blkN ts fv) scope s3.heap.objs.size s3 (upd H2 s2.heap.objs.size (.dK [])) fp) [] (upd H2 s2.heap.objs.size (.dK [])) b:=λb hb=>by
  obtain ⟨f0,f1,z9,z8,z0,zz⟩:=f3 b hb
  obtain ⟨o,eo⟩:=my b hb
  exact ⟨f0,As (Ao eo),I4.ok.exfs b hb,.inl hb,(I4.ok.exf b hb).2,λp hp=>absurd (show p∈([]:List (Addr × Obj)) from hp) (by simp)⟩
 have n5:tn 0 h₁:=T.keep _ _ _ k8 λb _ o e=>hk b o e;have loop:codeAny (model X.prog X.w) X.A (.compLoop (.DictComp kx vx (⟨t0,i0,f0,0⟩ :: rest) scope pos) 0 (.ref it) (.ref s2.heap.objs.size) (Zq X (blkN ts fv) scope s3.heap.objs.size s3 (upd H2 s2.heap.objs.size (.dK [])) fp).env)
   (RR (.ref s2.heap.objs.size) s3.heap.objs.size) { s3 with heap:=h₁,toks:=s3.toks + ([]:List (Str × Value)).length }:=by
  refine Vz (X:=Zq X (blkN ts fv) scope s3.heap.objs.size s3 (upd H2 s2.heap.objs.size (.dK [])) fp) (tg:=t0) (ifs:=f0) (R:=λ_ H'=>Q (.ref s2.heap.objs.size) H') Z Z Z Z (lx _ it s2.heap.objs.size) T hc (hg _ _ _ _) (ht _ _ _ _) (hb _ _ _ _ it s2.heap.objs.size) f4 I4 n5 L λs' σ' H' J' q=>?_
  obtain ⟨e1,e2,e3,e4,e5,e6⟩:=Qm I3 f3 (An _) J'
  obtain ⟨m,hm,_⟩:=J'.loc
  exact zq _ _ s' H' e1 e2 e3 e4 e5 e6 ⟨m,hm⟩ q
 exact codeAny_compStart_dict loop (T.self _ _ _ _ _ n5 loop)
theorem Zeh (B:BlkOk X scope fv) (hc:X.calm=true) (hi:PI X t0 i0 wi)
  (hg:∀ C s₀ H₀ ex,PG (Zq X (blkN ts fv) scope C s₀ H₀ ex) t0 g) (ht:∀ C s₀ H₀ ex,PTs (Zq X (blkN ts fv) scope C s₀ H₀ ex) f0 tt)
  (lx:∀ (env:Env) (it D:Addr),compTurn (.DictComp kx vx (⟨t0,i0,f0,0⟩ :: rest) scope pos) 0 (.ref it) (.ref D) env=(standAt i0.pos >>= λ_=>pyNext (.ref it) >>= λr=>match r with
   | none=>pure (.done .next)
   | some v=>letOwnedTupleGo t0 (.ref it) v >>= λ_=>assign t0 env v >>= λ_ =>
    (forIn f0 true λc r=>if r=true then do let ok <- isTrue c env (eval c env); pure (ForInStep.yield ok) else pure (ForInStep.yield r)) >>= λok =>
     if ok=true then j6 env it D else again (.compLoop (.DictComp kx vx (⟨t0,i0,f0,0⟩ :: rest) scope pos) 0 (.ref it) (.ref D) env)))
  (hb:∀ C s₀ H₀ ex it D,PB (Zq X (blkN ts fv) scope C s₀ H₀ ex) (j6 (Zq X (blkN ts fv) scope C s₀ H₀ ex).env it D) (.compLoop (.DictComp kx vx (⟨t0,i0,f0,0⟩ :: rest) scope pos) 0 (.ref it) (.ref D) (Zq X (blkN ts fv) scope C s₀ H₀ ex).env) (tb D))
  (hs:∀ x,foldedSetIterable i0 X.env x=pure x:=by intro _; rfl) :
  PE X (.DictComp kx vx (⟨t0,i0,f0,0⟩ :: rest) scope pos) (Zdw ts fv wi g tt tb):=by
 intro j0 s σ H Q I h;show wpAny _ X.A (comprehension (.DictComp kx vx (⟨t0,i0,f0,0⟩ :: rest) scope pos) scope X.env _ newDict false (eval i0 X.env)) _ _ s;refine wpAny_comprehension_free (use:=none) Z hs (X7 λy hy e=>I.ok.has y.1 (B.free y hy e)) B.kind B.names ?_;refine Zdp (RR:=λj3 C=>compPost (model X.prog X.w) X.A X.xe none (EP X j0 σ Q) j3 C) B hc hi hg ht lx hb I h λD C s' H' I' e2 e3 e4 e5 e6 hm q=>?_;obtain ⟨m,hm⟩:=hm;exact ⟨m,hm,λh' nv=>⟨.ref D,H',I'.apart nv e2 e3 e4 e5 e6,Z,q⟩⟩
end
section
variable {X:Cx}
def Zcr {ys:List Str}:∀ {us:List Value},Vals (ys.map V.str) us->StrsAre us ys:=by
 induction ys with
 | nil=>intro us r; rw [List.map_nil] at r; cases r; exact .nil
 | cons y ys ih =>
  intro us r;rw [List.map_cons] at r
  cases r with
  | cons r1 r2 =>
   obtain ⟨t,e⟩:=r1;subst e;exact .cons y t (ih r2)
def Zj3 (K:W.Frag):V->List V->Hp->VK->Prop:=λo xs H Q=>∃ w8 p ys,o=.str w8/\xs=[.ref p]/\SqL K H p (List.map V.str ys)/\w8.length<=16/\(ys.map (·.length)).sum + ys.length<=1048576/\Q (.str (Txt.join w8 ys)) H
def Zh2:MtR X "str.join" (Zj3 X.K):=by
 intro j0 s σ H x xs v us Q I rx rs h;obtain ⟨w8,p,ys,rfl,rfl,hq,h1,h2,q⟩:=h;obtain ⟨t,rfl⟩:=rx;obtain ⟨u,rfl,ru⟩:=X8 rs;cases ru;obtain ⟨its,rv,pl,_⟩:=I.list hq;exact join_listW pl.isList (by simpa using Zcr rv) h1 h2 λt' k=>⟨.str _,H,I.tok _,⟨_,Z⟩,q⟩
def Zj2:R2:=λx y H Q=>∃ z n,x=.str z/\y=.int n/\MulOk z n/\Q (.str (Txt.mul z n)) H
def Zhy:OpR X (binaryOp .Mult) Zj2:=by
 intro j0 s σ H x y v u Q I rx ry h;obtain ⟨z,n,rfl,rfl,hok,q⟩:=h;obtain ⟨t,rfl⟩:=rx;obtain ⟨t',rfl⟩:=ry;exact SB.mul hok λt' k=>⟨.str _,H,I.tok _,⟨_,Z⟩,q⟩
end
def Str.ext' {a b:Str} (h:a.cps.toList=b.cps.toList):a=b:=by
 cases a; cases b;simp only [Str.mk.injEq];exact Array.toList_inj.mp h
end L2
namespace KT
open PySem L2
def aftN (i:Nat):Nat:=if i % 3=2 then i - 2 else i + 1
def nxC (M:List (Option Nat)) (c:Nat):Option Nat:=(M[aftN c]?).join
end KT
namespace L2
open PySem PySem.Spec PyProof.Rows
section
variable {X:Cx} {xl:Value->Shared->Prop} {R0:Value->St->Hp->Prop}
def PSL (X:Cx) (xl:Value->Shared->Prop) (R0:Value->St->Hp->Prop) (st:Stmt) (t:TSX):Prop :=
 ∀ (j0:List (Addr × Obj)) (s:Shared) (σ:St) (H:Hp) (D:Ends),Inv X j0 σ H s->t D R0 σ H->wpAny (model X.prog X.w) X.A (exec st X.env) (SP X j0 D) xl s
def PSsL (X:Cx) (xl:Value->Shared->Prop) (R0:Value->St->Hp->Prop) (st:List Stmt) (t:TSX):Prop :=
 ∀ (j0:List (Addr × Obj)) (s:Shared) (σ:St) (H:Hp) (D:Ends),Inv X j0 σ H s->t D R0 σ H->wpAny (model X.prog X.w) X.A (execs st X.env) (SP X j0 D) xl s
structure LV (X:Cx) (xl:Value->Shared->Prop) (R0:Value->St->Hp->Prop):Prop where
 lv:∀ (j0:List (Addr × Obj)) (ev:Value) (s':Shared),XS true X j0 R0 ev s'->xl ev s'
 po:PassesOwn (model X.prog X.w) X.A X.env xl
def Ye {st:Stmt} {t:TSX} (L:LV X xl R0) (h:PSX true X st t):PSL X xl R0 st t:=λj0 s σ H D I q =>
 wpAny_mono (h j0 s σ H D R0 I q) (λ_ _ z=>z) λev s' z=>L.lv j0 ev s' z
def Zy {st:Stmt} {rest:List Stmt} {t u:TSX} (h1:PSL X xl R0 st t) (h2:PSsL X xl R0 rest u):PSsL X xl R0 (st :: rest) (Fb t u):=by
 intro j0 s σ H D I h;refine wpAny_execs_cons (thn (h1 j0 s σ H { D with nx:=u D R0 } I h) λf s1 q=>?_)
 cases f with
 | next =>
  obtain ⟨σ',H',I',q⟩:=q;exact h2 j0 s1 σ' H' D I' q
 | ret v=>exact q
 | brk=>exact q
 | cont=>exact q
def Xo {st:Stmt} {t:TSX} (h1:PSL X xl R0 st t):PSsL X xl R0 [st] t:=by
 intro j0 s σ H D I h;refine wpAny_execs_cons (thn (h1 j0 s σ H D I h) λf s1 q=>?_)
 cases f with
 | next=>exact wpAny_execs_nil q
 | ret v=>exact q
 | brk=>exact q
 | cont=>exact q
def Zgs (wi:TI) (g:TG) (tb:TSX):TSX:=λD R σ H=>tFor wi g (λD' σ' H'=>tb D' R σ' H') D σ H
def thnF {α:Type} {m:Sem α} {Q Q':α->Shared->Prop} {s:Shared} (hx:X.xe=(λ_ _=>False)) (h:wpAny (model X.prog X.w) X.A m Q X.xe s) (k:∀ a s1,Q a s1->Q' a s1):wpAny (model X.prog X.w) X.A m Q' xl s:=by
 rw [hx] at h;exact wpAny_mono h k λ_ _ z=>z.elim
def Zb9 {tg iter:Expr} {body:List Stmt} {wi:TI} {g:TG} {tb:TSX} {pos:Pos} (L:LV X xl R0) (hc:X.calm=true) (hi:PI X tg iter wi) (hg:PG X tg g) (hb:PSsL X xl R0 body tb)
  (hx:X.xe=(λ_ _=>False):=by rfl) (hs:∀ x,foldedSetIterable iter X.env x=pure x:=by intro _; rfl):PSL X xl R0 (.For tg iter body [] pos) (Zgs wi g tb):=by
 intro j0 s σ H D I h;have hp:=L.po;refine wpAny_For (thnF hx (hi j0 s σ H _ I h) λv s1 h1=>thnF hx h1 λqb s2 h2=>?_) hs;obtain ⟨it,fp,tn,J,H2,e,I2,T,l5,f2,W,⟨m0,w0⟩,lz⟩:=h2;subst e;have kt:∀ {H':Hp},(∀ b∈fp,H' b=none)->∀ b∈fp,FpOk X j0 H' b:=λhn b hb=>⟨hn b hb,(f2 b hb).2⟩;refine codeAny_forLoop_any (λn s'=>∃ i σ' H',Inv X j0 σ' H' s'/\tn i s'.heap/\(∀ b∈fp,H' b=none)/\W i n σ' H') ?_ m0 ⟨0,σ,H2,I2,l5,λb hb=>(f2 b hb).1,w0⟩;rintro n s3 ⟨i,σ3,H3,I3,k8,oh,w3⟩
 rcases lz i n σ3 H3 w3 with ⟨stop,qn⟩ | ⟨go,N,hN,step⟩
 ·refine wpAny_passesOwn hp (thn (T.done X rfl rfl rfl hc i j0 s3 σ3 H3 xl I3 (kt oh) k8 stop) λr s4 ⟨hr,I4⟩=>?_)
  subst hr;exact wpAny_execs_nil ⟨σ3,H3,I4,qn⟩
 ·refine wpAny_passesOwn hp (thn (T.item X rfl rfl rfl hc i j0 s3 σ3 H3 xl I3 (kt oh) k8 go) λr s4 ⟨u,hr,h4⟩=>?_)
  subst hr;refine wpAny_passesOwn hp (thn h4 λ_ s5 j2=>?_);obtain ⟨x,H5,I5,r5,y5,ml,rq⟩:=j2;have r0:=I5.pinned (kt rq) (T.obj _ _ ml);refine wpAny_passesOwn hp (thnF hx (hg _ s5 σ3 H5 x u _ r0 r5 (step x H5 y5)) λ_ s6 j2=>?_);obtain ⟨σ6,H6,I6,q6⟩:=j2;refine wpAny_passesOwn hp (thn (hb _ s6 σ6 H6 _ I6 q6) λf s7 q7=>?_);have again:∀ {σ7:St} {H7:Hp},Inv X (j0 ++ Jc fp s5.heap) σ7 H7 s7->N σ7 H7->∃ m,m < n/\∃ i σ' H',Inv X j0 σ' H' s7/\tn i s7.heap/\(∀ b∈fp,H' b=none)/\W i m σ' H':=λ{σ7 H7} I7 n7=>by
   obtain ⟨m',hm,w7⟩:=hN σ7 H7 n7
   refine ⟨m',hm,i + 1,σ7,H7,I7.unpinned,T.keep _ _ _ ml λb hb o e=>(I7.pin (b,o) (List.mem_append_right _ (List.mem_append_right _ (Xa hb e)))).1,λb hb=>?_,w7⟩
   obtain ⟨o,e,d⟩:=T.obj _ _ ml b hb
   exact (I7.pin (b,o) (List.mem_append_right _ (List.mem_append_right _ (Xa hb e)))).2.1
  cases f with
  | next=>obtain ⟨σ7,H7,I7,n7⟩:=q7; exact again I7 n7
  | cont=>obtain ⟨σ7,H7,I7,n7⟩:=q7; exact again I7 n7
  | brk=>obtain ⟨σ7,H7,I7,q7⟩:=q7; exact ⟨σ7,H7,I7.unpinned,q7⟩
  | ret v=>obtain ⟨x7,σ7,H7,I7,r7,q7⟩:=q7; exact ⟨x7,σ7,H7,I7.unpinned,r7,q7⟩
end
section
variable {P:Program} {w:World} {K:W.Frag} {mg:Str->Option Value} {base:Heap}
def Fun.okL {x qual:Str} {st:Stmt} {f:Addr} {fd:FuncData} {N ps:List Str} {k:Nat} {sp:Sp} (F:Fun K x qual st f fd) (S:FnScope N ps (Zf st)) (len:∀ vs H Q E,sp vs H Q E->vs.length=ps.length)
  (kg:∀ (j5:Value) (A:Around) (outer:List Env) (s:Shared) (H:Hp) (vs:List V) (Q:VK) (E:XK),Room k (A.deeper (envOfC qual (Zf st) s.heap.objs.size f j5))->sp vs H Q E ->
   ∃ t,(∀ xl,LV (cxOf (CXr P w) P w K mg base N qual (Zf st) f j5 A outer s H E).nox xl (λcls _ H'=>E cls none H')->PSsL (cxOf (CXr P w) P w K mg base N qual (Zf st) f j5 A outer s H E).nox xl (λcls _ H'=>E cls none H') (Yd st) t)/\t { nx:=λ_ H'=>Q .non H',rt:=Q } (λcls _ H'=>E cls none H') (start N vs) H):FnOk P w K mg base (CXr P w) (k + 1) f fd ps sp:=by
 obtain ⟨oc,od,kV,ka,pm,an,j5,ct,n6,rfl,lk,ly⟩:=F.ex;refine Fd lk ly S len λA outer s H vs Q E hr k7=>?_;obtain ⟨t,h,q⟩:=kg j5 A outer s H vs Q E hr k7;refine ⟨λD σ H'=>t D (λcls _ vz=>E cls none vz) σ H',λj0 s' σ' H' D I hD=>?_,q⟩;refine wpAny_mono (h _ ⟨λj0 ev lw z=>U2 (fr:=true) ?_,PassesOwn.leaving⟩ j0 s' σ' H' D (I.wish _) hD) (λ_ _ z=>z.unwish) λev lw z=>z;obtain ⟨e,T,cls,a0,σ2,H2,h1,h2,h3,h4,h5,h7,h6⟩:=z;exact ⟨e,T,cls,a0,σ2,H2,h1,h2.pins_of (λp hp=>absurd hp (by simp)),h3,h4.none,λt ht=>(h5 t ht).none,h7,h6⟩
end
section
def Its (x:Str):It :=
 ⟨λi _=>i < x.cps.size,λi H v H'=>H'=H/\∃ c,x.cps[i]?=some c/\v=.str ⟨#[c]⟩,λi _=>x.cps.size<=i⟩
def Zfi {P:Program} {w:World} {K:W.Frag} {tg:Expr} (x:Str) (t:Tok) (it:Addr):Turn P w K tg (Its x) [it] it (λi h=>h.IsStrIter it "str_ascii_iterator" x t i) where
 mem:=by simp
 obj:=λi h st b hb=>by
  have e:b=it:=by simpa using hb
  subst e;obtain ⟨o,e,c,d⟩:=st;exact ⟨o,e,λv z=>by rw [d] at z; cases z⟩
 keep:=λi h h' st k=>by
  obtain ⟨o,ho,r⟩:=st;exact ⟨o,k it (by simp) o ho,r⟩
 item:=by
  intro X hP hw hK hc i j0 s σ H E I hf st hg;subst hP hw hK;have hg:i < x.cps.size:=hg;obtain ⟨f0,f1,f2,f3,f4,f5⟩:=hf it (by simp);have hx:x.cps[i]?=some x.cps[i]:=by simp [hg]
  refine wpAny_pyNext_ascii_item st hx λh' ms sb=>?_;have I1:Inv X j0 σ H { s with heap:=h',toks:=s.toks + 1 }:=I.turned (t':=s.toks + 1) (λb o hb e=>(sb.2 b hb).trans e) f0 f1 f3 f4 f5;obtain ⟨o,e,c,d⟩:=id ms;exact ⟨_,Z,O7 (s:={ s with heap:=h',toks:=s.toks + 1 }) e c d (by decide) ⟨.str ⟨#[x.cps[i]]⟩,H,I1,⟨_,Z⟩,⟨Z,_,hx,Z⟩,ms,λb hb=>(hf b hb).1⟩⟩
 done:=by
  intro X hP hw hK hc i j0 s σ H E I hf st hg;subst hP hw hK;have hg:x.cps.size<=i:=hg;obtain ⟨f0,f1,f2,f3,f4,f5⟩:=hf it (by simp);exact wpAny_pyNext_ascii_end (I.ok.hd hc) st (by simp [hg]) λh' eb=>⟨Z,I.turned (t':=s.toks) (λb o hb e=>eb b o hb e) f0 f1 f3 f4 f5⟩
 self:=λ_ _ _ _ _ st h=>wpAny_pyIter_striter_ascii st h
variable {X:Cx} {tg:Expr}
def iStr (tl:TE):TI:=λσ H R=>tl σ H λv H1=>∃ x,v=.str x/\x.cps.all (· < 128)=true/\R (Its x) H1
def Zi0 {l:Expr} {tl:TE} (hl:PE X l tl):PI X tg l (iStr tl):=by
 intro j0 s σ H R I h;refine thn (hl j0 s σ H _ I h) λv s1 j2=>?_;obtain ⟨x,H1,I1,r1,q1⟩:=j2;obtain ⟨x,e,ha,q⟩:=q1;subst e;obtain ⟨t,rfl⟩:=r1;refine wpAny_pyIter_ascii ha ?_;refine ⟨s1.heap.objs.size,[s1.heap.objs.size],_,_,H1,Z,I1.kept (t':=s1.toks) λb o e=>Ak _ e,Zfi x t _,⟨_,Ap _ Z,Z,Z⟩,λb hb=>?_,q⟩;have e:b=s1.heap.objs.size:=by simpa using hb
 subst e;exact I1.fpOk (An _) (I1.hok.fresh (An _))
end
section
variable {P:Program} {w:World} {K:W.Frag} {mg:Str->Option Value} {base:Heap} {x qual:Str} {st:Stmt} {f:Addr} {fd:FuncData} {N ps:List Str} {k:Nat} {sp:Sp}
def Fun.aR (F:Fun K x qual st f fd) (S:FnScope N ps (Zf st))
  (kg:∀ (j5:Value) (A:Around) (outer:List Env) (s:Shared) (H:Hp) (vs:List V) (Q:VK) (E:XK),Room k (A.deeper (envOfC qual (Zf st) s.heap.objs.size f j5))->sp vs H Q E ->
   ∃ t,PSs (cxOf (CXr P w) P w K mg base N qual (Zf st) f j5 A outer s H E).nox (Yd st) t/\t { nx:=λ_ H'=>Q .non H',rt:=Q } (start N vs) H)
  (len:∀ vs H Q E,sp vs H Q E->vs.length=ps.length:=by (intro vs H Q E h; (repeat obtain ⟨_,h⟩:=h); subst_vars; rfl)):FnOk P w K mg base (CXr P w) (k + 1) f fd ps sp:=F.okR S len kg
def Fun.aX (F:Fun K x qual st f fd) (S:FnScope N ps (Zf st))
  (kg:∀ (j5:Value) (A:Around) (outer:List Env) (s:Shared) (H:Hp) (vs:List V) (Q:VK) (E:XK),Room k (A.deeper (envOfC qual (Zf st) s.heap.objs.size f j5))->sp vs H Q E ->
   ∃ t,PSsX true (cxOf (CXr P w) P w K mg base N qual (Zf st) f j5 A outer s H E).nox (Yd st) t/\t { nx:=λ_ H'=>Q .non H',rt:=Q } (λcls _ H'=>E cls none H') (start N vs) H)
  (len:∀ vs H Q E,sp vs H Q E->vs.length=ps.length:=by (intro vs H Q E h; (repeat obtain ⟨_,h⟩:=h); subst_vars; rfl)):FnOk P w K mg base (CXr P w) (k + 1) f fd ps sp:=F.okX S len kg
end
end L2
namespace L2
open PySem PySem.Spec PyProof.Rows PySem.SeqAt
mutual
inductive DV (K:W.Frag) (H:Hp):V->PyData->Prop
 | non:DV K H .non .none
 | bl (b:Bool):DV K H (.bl b) (.bool b)
 | int (i:Int):DV K H (.int i) (.int i)
 | str (x:Str):DV K H (.str x) (.str x)
 | lst {a:Addr} {xs:List V} {ds:List PyData}:SqL K H a xs->DVs K H xs ds->DV K H (.ref a) (.list ds)
 | tup {a:Addr} {xs:List V} {ds:List PyData}:SqT K H a xs->DVs K H xs ds->DV K H (.ref a) (.tuple ds)
inductive DVs (K:W.Frag) (H:Hp):List V->List PyData->Prop
 | nil:DVs K H [] []
 | cons {x:V} {xs:List V} {d:PyData} {ds:List PyData}:DV K H x d->DVs K H xs ds->DVs K H (x :: xs) (d :: ds)
end
section
variable {X:Cx} {j0:List (Addr × Obj)} {σ:St} {H:Hp} {s:Shared}
mutual
theorem DV.reads (I:Inv X j0 σ H s):∀ {x:V} {d:PyData} {u:Value},DV X.K H x d->RelV x u->∃ as,Reads s.heap u d as
 | _,_,_,.non,r=>by cases r; exact ⟨_,.none⟩
 | _,_,_,.bl b,r=>by cases r; exact ⟨_,.bool b⟩
 | _,_,_,.int i,r=>by obtain ⟨t,rfl⟩:=r; exact ⟨_,.int i t⟩
 | _,_,_,.str x,r=>by obtain ⟨t,rfl⟩:=r; exact ⟨_,.str x t⟩
 | _,_,_,.lst h hs,r=>by
  cases r;obtain ⟨its,rv,pl,_⟩:=I.list h;obtain ⟨as,ra⟩:=DVs.reads I hs rv;obtain ⟨o,ho,hc,n,hd⟩:=pl.isList;exact ⟨_,.list ho hc hd (by simpa using ra)⟩
 | _,_,_,.tup h hs,r=>by
  cases r;obtain ⟨its,rv,pt,_⟩:=I.tuple h;obtain ⟨as,ra⟩:=DVs.reads I hs rv;obtain ⟨o,ho,hc,n,hd⟩:=pt;exact ⟨_,.tuple ho hc hd (by simpa using ra)⟩
theorem DVs.reads (I:Inv X j0 σ H s):∀ {xs:List V} {ds:List PyData} {us:List Value},DVs X.K H xs ds->Vals xs us->∃ as,ReadsAll s.heap us ds as
 | _,_,_,.nil,r=>by cases r; exact ⟨_,.nil⟩
 | _,_,_,.cons h hs,r=>by
  cases r with
  | cons r1 r2 =>
   obtain ⟨as,ra⟩:=DV.reads I h r1;obtain ⟨bs,rb⟩:=DVs.reads I hs r2;exact ⟨_,.cons ra rb⟩
end
end
section
variable {X:Cx}
def rEqD (K:W.Frag):R2:=λx y H Q=>∃ d e,DV K H x d/\DV K H y e/\shaped d=true/\shaped e=true/\noMix d e=true/\Q (.bl (same d e)) H
def Zi6 (hu:X.A.units + 64 < cLine):OpR X (compareOp .Eq) (rEqD X.K):=by
 intro j0 s σ H x y v u Q I rx ry h;obtain ⟨d,e,hx,hy,sd,se,hm,q⟩:=h;obtain ⟨_,r1⟩:=hx.reads I rx;obtain ⟨_,r2⟩:=hy.reads I ry;exact eq_dataH_same r1 r2 sd se hu hm ⟨.bl _,H,I,Z,q⟩
end
end L2
namespace KT
open PySem L2
def CH (R:Nat->Nat->Prop) (l:List Nat):Prop:=∀ (k u v:Nat),l[k]?=some u->l[k + 1]?=some v->R u v
end KT
namespace L2
open PySem PySem.Spec PyProof.Rows
end L2
namespace L2
open PySem PySem.Spec PyProof.Rows PySem.SeqAt
end L2
namespace L2
open PySem PySem.Spec PyProof.Rows
end L2
namespace PySem.F
end PySem.F
namespace L2
open PySem PySem.Spec PyProof.Rows
def dd (ks:List Int):List Int:=ks.foldl step_dedup []
section
variable {X:Cx}
def Zi5:OpR X (compareOp .In) (λx y H Q=>∃ a b,x=.str a/\y=.str b/\Q (.bl (Txt.contains b a)) H):=by
 intro j0 s σ H x y v u Q I rx ry h;obtain ⟨a,b,rfl,rfl,q⟩:=h;obtain ⟨t,rfl⟩:=rx;obtain ⟨t',rfl⟩:=ry;exact PySem.SB.contains ⟨.bl _,H,I,Z,q⟩
end
end L2
namespace HL
open PySem PyProof.Rows HT
end HL
namespace L2
open PySem PySem.Spec PyProof.Rows
section
variable {X:Cx}
def Asc (x:Str):Prop:=∀ c∈x.cps.toList,c < 128
def Asc.all {x:Str} (h:Asc x):x.cps.all (· < 128)=true:=by
 rw [<- Array.all_toList,List.all_eq_true];exact λc hc=>decide_eq_true (h c hc)
end
theorem Kb {B:Nat}:∀ {l:List Str},(∀ x∈l,x.length<=B)->(l.map (·.length)).sum<=B * l.length
 | [],_=>An _
 | x :: l,h=>by
  have h1:=h x List.mem_cons_self;have h2:=Kb (l:=l) λy hy=>h y (List.mem_cons_of_mem _ hy);rw [List.map_cons,List.sum_cons,List.length_cons,Nat.mul_add];lia
def Z2 (x y:Str):(x ++ y).length=x.length + y.length:=Array.size_append
def FlyA (e T:Addr) (cls a0 fl:Value) (h:Heap):Prop :=
 ∃ oe vs oT ts,h.get? e=some oe/\(oe.cls=cls/\vs[0]?=some a0)/\oe.data=.fields vs/\vs[1]?=some (.ref T)/\T≠e/\h.get? T=some oT/\oT.data=.fields ts/\ts[3]?=some fl
def XB (X:Cx) (j0:List (Addr × Obj)) (E:XK) (ev:Value) (s':Shared):Prop :=
 ∃ (e T:Addr) (cls a0:Value) (σ':St) (H':Hp),ev=.ref e/\Inv X j0 σ' H' s'/\FlyT e T cls a0 s'.heap/\FxOk X j0 H' e/\FxOk X j0 H' T/\E cls none H'
def XA (X:Cx) (j0:List (Addr × Obj)) (E:XK) (ev:Value) (s':Shared):Prop :=
 ∃ (e T:Addr) (cls a0 fl:Value) (σ':St) (H':Hp),ev=.ref e/\Inv X j0 σ' H' s'/\FlyA e T cls a0 fl s'.heap/\FxOk X j0 H' e/\FxOk X j0 H' T/\E cls none H'
def Held (X:Cx) (j0:List (Addr × Obj)):Prop:=∀ b∈X.ex,∃ o,(b,o)∈j0
def PEC (X:Cx) (e:Expr) (t:TEX):Prop :=
 ∀ (j0:List (Addr × Obj)) (s:Shared) (σ:St) (H:Hp) (Q:VK) (E:XK),Held X j0->Inv X j0 σ H s->t σ H Q E->wpAny (model X.prog X.w) X.A (eval e X.env) (EP X j0 σ Q) (XB X j0 E) s
abbrev TAX:=St->Hp->(List V->Hp->Prop)->XK->Prop
section
variable {X:Cx} {j0:List (Addr × Obj)} {σ:St} {H:Hp} {s:Shared}
def Inv.fxB (I:Inv X j0 σ H s) (hp:Held X j0) {b:Addr} (hb:s.heap.get? b=none):FxOk X j0 H b:=by
 refine ⟨I.untr hb,λz=>?_,λz=>?_,?_,λx c e z=>?_,λp hp z=>?_⟩
 ·obtain ⟨m,⟨o,_,_,ho,_⟩,_⟩:=I.loc
  rw [z,ho] at hb; cases hb
 ·obtain ⟨_,o,ho,_⟩:=I.funs.mem z
  rw [ho] at hb; cases hb
 ·cases q:X.s₀.heap.get? b with
  | none=>rfl
  | some o =>
   exfalso;by_cases hbx:b∈X.ex
   ·obtain ⟨o2,h2⟩:=hp b hbx
    have:=(I.pin (b,o2) (List.mem_append_right _ h2)).1;rw [hb] at this; cases this
   ·obtain ⟨o',e'⟩:=I.base.there b o q hbx
    rw [hb] at e'; cases e'
 ·obtain ⟨v,o,ho,_⟩:=I.cell x c e
  rw [z,hb] at ho; cases ho
 ·have:=(I.pin p hp).1
  rw [z,hb] at this; cases this
def Fc {H':Hp} {b:Addr} (h:FxOk X j0 H b) (hn:H' b=none):FxOk X j0 H' b:=⟨hn,h.nl,h.nf,h.n0,h.nc,h.np⟩
def Inv.cxb {s':Shared} {E:XK} {ev:Value} (I:Inv X j0 σ H s) (hp:Held X j0) (h:CXr X.prog X.w X.stack H s E ev s'):XB X j0 E ev s':=by
 obtain ⟨e,T,cls,a0,H',rfl,os,bare,un,hok,ne,nT,he,hT,fl,q⟩:=h;have I':Inv X j0 σ H' s':=I.call' os un hok bare λb hb=>absurd hb (by simp);exact ⟨e,T,cls,a0,σ,H',Z,I',fl,Fc (I.fxB hp ne) he,Fc (I.fxB hp nT) hT,q⟩
variable {k:Nat} {f C:Addr} {fd:FuncData} {ps:List Str} {sp:Sp} {j8:List V} {ds:List Value} {x m:Str} {p pos j7:Pos} {e o:Expr} {es:List Expr} {ta:TE} {t:TA}
def Uy (F:FnOk X.prog X.w X.K X.mg X.base (CXr X.prog X.w) k f fd ps sp) (hr:Room k X.A) (hg:Gl X x) (hm:X.mg x=some (.ref f)) (hk:PySem.W.keepIn X.K (.ref f)=true) (hb:Xb X.K fd ps ds) (hd:Vals j8 ds)
  (ha:PA X (e :: es) t) (hx:X.xe=(λ_ _=>False):=by rfl) (lf:(x == ("__debug__":Str))=false:=by decide) (he:starEach (e :: es) X.env=(false,eval e X.env) :: starEach es X.env:=by rfl) (kz:(backTo pos (starEach es X.env)).any (·.1)=false:=by rfl) :
  PEC X (.Call (.Name x p) (e :: es) [] pos) (Oa sp j8 t):=by
 intro j0 s σ H Q E hp I h;have h0:=ha pos j0 s σ H _ I h;rw [hx] at h0;refine wpAny_Call_Name_kw (Wl I hg hm ?_ lf);refine PySem.W.callWith_K (h₀:=X.base) I.ok.mod.kin hk (wpAny_mono h0 (λus s1 zz34=>?_) λ_ _ z=>z.elim) he kz;obtain ⟨vs,H1,I1,r,q⟩:=zz34;refine ⟨I1.kIn,?_⟩;have r2:Vals (vs ++ j8) (us ++ ds):=r.append hd;have hl:(us ++ ds).length=ps.length:=by rw [<- r2.length]; exact F.len _ _ _ _ q
 refine wpAny_call (codeAny_mono (F.run X.A X.stack s1 H1 ⟨us,[]⟩ (us ++ ds) (vs ++ j8) Q E hr I1.env0 (hb s1 us I1.kIn hl) r2 q) λr s' hq=>?_)
 cases r with
 | error e=>exact I1.cxb hp hq
 | ok fl =>
  cases fl with
  | ret u=>exact I1.after hq
  | next=>exact False.elim hq
  | brk=>exact False.elim hq
  | cont=>exact False.elim hq
def Zjp (t:TAX):TEX:=λσ H Q E=>t σ H (λxs H1=>xs.length<=sizeLine/\∀ p,H1 p=none->Q (.ref p) (upd H1 p (.tup xs))) E
end
abbrev TBX:=St->Hp->(St->Hp->Prop)->XK->Prop
def PBX (X:Cx) (j6:Sem Fin) (c:Code) (t:TBX):Prop :=
 ∀ (j0:List (Addr × Obj)) (s:Shared) (σ:St) (H:Hp) (N:St->Hp->Prop) (E:XK),Held X j0->Inv X j0 σ H s->t σ H N E ->
  wpAny (model X.prog X.w) X.A j6 (λki s'=>ki=.again c/\∃ σ' H',Inv X j0 σ' H' s'/\N σ' H') (XB X j0 E) s
def Zin (te:TEX) (D:Addr):TBX:=λσ H N E=>te σ H (λv H1=>∃ xs,H1 D=some (.lst xs)/\xs.length < sizeLine/\N σ (upd H1 D (.lst (xs ++ [v])))) E
section
variable {X:Cx}
def Uz {kd:Expr} {te:TEX} {D:Addr} {c:Code} (he:PEC X kd te) (hx:X.xe=(λ_ _=>False):=by rfl) :
  PBX X ((eval kd X.env >>= λx=>call (.builtin "list.append") [.ref D,x] >>= λ_=>pure ()) >>= λ_=>again c) c (Zin te D):=by
 intro j0 s σ H N E hp I h;refine Al (Al (wpAny_mono (he j0 s σ H _ E hp I h) (λu s1 zz35=>?_) λ_ _ z=>z));obtain ⟨v,H1,I1,r1,q1⟩:=zz35;obtain ⟨xs,hD,hl,q⟩:=q1;have h0:=Y1 (X:=X) j0 s1 σ H1 (.ref D) [v] (.ref D) [u] (λ_ H2=>N σ H2) I1 rfl (.cons r1 .nil) ⟨D,xs,v,rfl,rfl,hD,hl,q⟩;rw [hx] at h0;refine Al (wpAny_mono h0 (λ_ s2 zz36=>?_) λ_ _ z=>z.elim);obtain ⟨_,H2,I2,_,q2⟩:=zz36;exact wpAny_pure (wpAny_pure ⟨Z,σ,H2,I2,q2⟩)
theorem Ka {e tg:Expr} {d:Nat} {j3:Value} {ifs:List Expr} {j6:Sem Fin} {J:It} {fp:List Addr} {it:Addr} {tn:Nat->Heap->Prop} {g:TG} {tt:TT} {tb:TBX} {p:Pos} {s:Shared} {σ:St} {H:Hp} {R:St->Hp->Prop} {E:XK}
  {RR:Result->Shared->Prop} (l6:X.xe=λ_ _=>False) (hex:X.ex=fp)
  (zi:Code.quiet (.compLoop e d (.ref it) j3 X.env)=true) (tf:(model X.prog X.w).den (.compLoop e d (.ref it) j3 X.env)=(compTurn e d (.ref it) j3 X.env).onRaise (λx=>do noteFrame x X.env; theTreesLotGoes x))
  (sj:X.A.under (.compLoop e d (.ref it) j3 X.env)=X.A)
  (lx:compTurn e d (.ref it) j3 X.env=(standAt p >>= λ_=>pyNext (.ref it) >>= λr=>match r with
   | none=>pure (.done .next)
   | some v=>letOwnedTupleGo tg (.ref it) v >>= λ_=>assign tg X.env v >>= λ_ =>
    (forIn ifs true λc r=>if r=true then do let ok <- isTrue c X.env (eval c X.env); pure (ForInStep.yield ok) else pure (ForInStep.yield r)) >>= λok =>
     if ok=true then j6 else again (.compLoop e d (.ref it) j3 X.env)))
  (T:Turn X.prog X.w X.K tg J fp it tn) (hc:X.calm=true) (hg:PG X tg g) (ht:PTs X ifs tt) (hb:PBX X j6 (.compLoop e d (.ref it) j3 X.env) tb)
  (hf:∀ b∈fp,FpOk X [] H b) (I:Inv X [] σ H s) (st:tn 0 s.heap) (h:X0 J g tt (λσ H N=>tb σ H N E) R σ H)
  (hR:∀ s' σ' H',Inv X [] σ' H' s'->R σ' H'->RR (.ok .next) s')
  (hX:∀ j0 ev s',XB X j0 E ev s'->notedBy (model X.prog X.w) X.A X.env (λx s'=>RR (.error x) s') ev s') :
  codeAny (model X.prog X.w) X.A (.compLoop e d (.ref it) j3 X.env) RR s:=by
 obtain ⟨W,⟨m0,w0⟩,lz⟩:=h;have kt:∀ {H':Hp},(∀ b∈fp,H' b=none)->∀ b∈fp,FpOk X [] H' b:=λhn b hb=>⟨hn b hb,(hf b hb).2⟩;refine codeAny_loop zi (λn s'=>∃ i σ' H',Inv X [] σ' H' s'/\tn i s'.heap/\(∀ b∈fp,H' b=none)/\W i n σ' H') ?_ m0 ⟨0,σ,H,I,st,λb hb=>(hf b hb).1,w0⟩;rintro n s3 ⟨i,σ3,H3,I3,k8,oh,w3⟩;rw [tf,sj];refine wpAny_noted ?_;rw [lx];refine Al (wpAny_standAt (Al ?_))
 rcases lz i n σ3 H3 w3 with ⟨stop,qn⟩ | ⟨go,N,hN,step⟩
 ·refine thn (T.done X rfl rfl rfl hc i [] s3 σ3 H3 _ I3 (kt oh) k8 stop) λr s4 ⟨hr,I4⟩=>?_
  subst hr;exact wpAny_pure (hR s4 σ3 H3 I4 qn)
 ·refine thn (T.item X rfl rfl rfl hc i [] s3 σ3 H3 _ I3 (kt oh) k8 go) λr s4 ⟨u,hr,h4⟩=>?_
  subst hr;refine Al (thn h4 λ_ s5 j2=>?_);obtain ⟨x,H5,I5,r5,y5,ml,rq⟩:=j2;have r0:=I5.pinned (kt rq) (T.obj _ _ ml);refine Al (thnF l6 (hg _ s5 σ3 H5 x u _ r0 r5 (step x H5 y5)) λ_ s6 j2=>?_);obtain ⟨σ6,H6,I6,q6⟩:=j2;refine Al (thnF l6 (ht _ s6 σ6 H6 _ I6 q6) λok s7 j2=>?_);obtain ⟨H7,I7,q7⟩:=j2;have ou:∀ {σ7:St} {H7:Hp} {s7:Shared},Inv X ([] ++ Jc fp s5.heap) σ7 H7 s7->N σ7 H7->∃ m,m < n/\∃ i σ' H',Inv X [] σ' H' s7/\tn i s7.heap/\(∀ b∈fp,H' b=none)/\W i m σ' H':=λ{σ7 H7 s7} I7 n7=>by
   obtain ⟨m',hm,w7⟩:=hN σ7 H7 n7
   refine ⟨m',hm,i + 1,σ7,H7,I7.unpinned,T.keep _ _ _ ml λb hb o e=>(I7.pin (b,o) (List.mem_append_right _ (List.mem_append_right _ (Xa hb e)))).1,λb hb=>?_,w7⟩
   obtain ⟨o,e,d⟩:=T.obj _ _ ml b hb
   exact (I7.pin (b,o) (List.mem_append_right _ (List.mem_append_right _ (Xa hb e)))).2.1
  cases ok with
  | false=>exact wpAny_pure ⟨Z,ou I7 q7⟩
  | true =>
   have hp:Held X ([] ++ Jc fp s5.heap):=λb hb=>by
    rw [hex] at hb;obtain ⟨o,e,d⟩:=T.obj _ _ ml b hb;exact ⟨o,List.mem_append_right _ (Xa hb e)⟩
   refine wpAny_mono (hb _ s7 σ6 H7 N E hp I7 q7) (λki s8 zz37=>?_) λev s8 z=>hX _ ev s8 z;obtain ⟨su,σ8,H8,I8,q8⟩:=zz37;subst su;exact ⟨Z,ou I8 q8⟩
end
section
variable {X:Cx} {j0:List (Addr × Obj)} {σ:St} {H:Hp} {s:Shared}
def Zi2 {e T:Addr} {cls a0 fl:Value} {E:XK} {what:String} {l4:Env} {Q:Value->Shared->Prop} (I:Inv X j0 σ H s) (hex:X.ex=[]) (hx:FlyA e T cls a0 fl s.heap) (fe:FxOk X j0 H e) (fT:FxOk X j0 H T) (q:E cls none H) :
  wpAny (model X.prog X.w) X.A (PySem.passOn what (.ref e) l4:Sem Value) Q (XA X j0 E) s:=by
 obtain ⟨oe,vs,oT,ts,he,⟨oq,h0⟩,hd,h1,vo,hT,pd,h3⟩:=hx;have wd:3 < ts.size:=(Array.getElem?_eq_some_iff.mp h3).1;unfold PySem.passOn;refine Al (wpAny_field he hd h1 ?_);rw [if_neg (show ¬ (Value.ref T == Value.none)=true from by simp)];refine Al ?_;unfold setFlight;refine Al (wpAny_field he hd h1 ?_);rw [if_pos (show (Value.ref T != Value.none)=true from by simp)];refine wpAny_setField hT pd wd (wpAny_throw ?_);generalize (l4.frame.elim Value.none λf=>rawInt f)=fl';have other:∀ b,b≠T->(s.heap.update T (Obj.mapFields (·.setIfInBounds 3 fl'))).get? b=s.heap.get? b:=λb hb=>Heap.get?_update_other _ _ (Ne.symm hb);refine ⟨e,T,cls,a0,fl',σ,H,Z,I.exc hex fe fT (λb o n1 n2 n3 z=>(other b n2).trans z) (λb o hb z=>⟨o.slots,?_⟩),?_,fe,fT,q⟩
 ·refine (other b λz2=>?_).trans z
  rw [z2] at hb z;exact I.fnd hb z ts (by rw [hT] at z; cases z; exact pd)
 ·exact ⟨oe,vs,_,_,(other e (Ne.symm vo)).trans he,⟨oq,h0⟩,hd,h1,vo,Heap.get?_update_self _ hT (Obj.isFreed_of_fields (Obj.data_mapFields pd _)),Obj.data_mapFields pd _,by simp [wd]⟩
def Gb {scope:Scope} {N':List Str} {fp:List Addr} {C:Addr} {pb:List (Addr × Obj)} {E:XK} {ev:Value} {s':Shared} {Q:Value->Shared->Prop} (j3:Value) (I:Inv X j0 σ H s) (hex:X.ex=[]) (ko:∃ o,X.stack=X.env :: o) (mo:X.env.frame=some X.env.locals)
  (hf:∀ b∈fp,FpOk X j0 H b) (hC:s.heap.objs.size<=C) (h:XB (Zq X N' scope C s H fp) pb E ev s') :
  notedBy (model X.prog X.w) X.A (Zq X N' scope C s H fp).env (λx s'=>compPost (model X.prog X.w) X.A (XA X j0 E) none Q j3 C (.error x) s') ev s':=by
 obtain ⟨e,T,cls,a0,σ',H',rfl,J,hx,fe,fT,q⟩:=h;obtain ⟨I5,c1,c2,c3,c4,c5⟩:=Qm I hf hC (J.pins_of (pins':=[]) λp hp=>absurd hp (by simp));have ge:FxOk X j0 H' e:=Fc (I.fxOk hex fe.n0) fe.nt;have gT:FxOk X j0 H' T:=Fc (I.fxOk hex fT.n0) fT.nt;obtain ⟨outer,ko⟩:=ko;have pc:=Ze7 I5 hx;have hA:X.A.frames=some (X.env :: outer):=by rw [I.ok.frames,ko]
 have sv:Heap.FlyingW (PySem.W.hideAll s'.heap (e :: T :: frs X.stack)) (X.env :: outer) e cls a0 s'.heap:=by
  have:=pc;generalize PySem.W.hideAll s'.heap (e :: T :: frs X.stack)=B at this ⊢;rw [ko] at this;exact this
 show wpAny (model X.prog X.w) X.A (noteFrame (.ref e) X.env) _ _ s';refine wpAny_looks_onW hA mo sv λh₄ kr qw=>?_;have I6:Inv X j0 σ H' { s' with heap:=h₄ }:=I5.flown hex ge gT kr.1 qw;obtain ⟨_,_,_,oe,vs,T',oT,ts,x1,x2,x3,x4,x5,x6,x7,x8,x9⟩:=kr
 have gT':FxOk X j0 H' T':=by
  by_cases hz:s'.heap.get? T'=none
  ·exact I5.fxOk hex hz
  ·obtain ⟨o,ho⟩:=Option.ne_none_iff_exists'.mp hz
   by_cases h1:T'=T
   ·rw [h1]; exact gT
   ·exfalso
    by_cases h2:T'∈frs X.stack
    ·obtain ⟨sl,e'⟩:=qw T' o ho (I5.fnd h2 ho)
     rw [x7] at e';cases e';exact I5.fnd h2 ho ts x8
    ·have:=PySem.W.hideAll_get (e :: T :: frs X.stack) ho (λz=>by
      rcases Ar z with z | z
      ·exact x6 z
      ·rcases Ar z with z | z
       ·exact h1 z
       ·exact h2 z)
     rw [x5] at this; cases this
 obtain ⟨m,⟨o,es,ep,ho,hd,r⟩,_⟩:=J.loc;obtain ⟨sl,e1⟩:=qw C o ho (λvs z=>by rw [hd] at z; cases z);refine ⟨m,⟨_,es,ep,e1,hd,r⟩,λh' nv l4 _=>?_⟩;have I7:Inv X j0 σ H' { s' with heap:=h' }:=I6.apart nv c1 c2 c3 c4 c5;have kc:∀ b,b≠C->h'.get? b=h₄.get? b:=λb hb=>nv.2 b hb;have eC:e≠C:=fe.nl
 have TC:T'≠C:=λz=>by
  rw [z,e1] at x7;cases x7;rw [hd] at x8;cases x8
 exact Zi2 (fl:=rawInt X.env.locals) I7 hex ⟨oe,vs,oT,ts,(kc e eC).trans x1,x2,x3,x4,x6,(kc T' TC).trans x7,x8,x9⟩ ge gT' q
variable {ts:List Str} {fv:List (Str × Nat)} {scope:Scope} {kd t0 i0:Expr} {f0:List Expr} {rest:List Comprehension} {pos:Pos} {wi:TI} {g:TG} {tt:TT} {tb:Addr->TBX} {j6:Env->Addr->Addr->Sem Fin}
def Fj (ts:List Str) (fv:List (Str × Nat)) (wi:TI) (g:TG) (tt:TT) (tb:Addr->TBX):TEX:=λσ H Q E=>wi σ H λJ H1=>∀ D,H1 D=none ->
 X0 J g tt (λσ H N=>tb D σ H N E) (λ_ H'=>Q (.ref D) H') (blkS ts fv σ) (upd H1 D (.lst []))
theorem Zkf (B:BlkOk X scope fv) (hc:X.calm=true) (hi:PI X t0 i0 wi) (hex:X.ex=[]) (l6:X.xe=(λ_ _=>False)) (ko:∃ o,X.stack=X.env :: o) (mo:X.env.frame=some X.env.locals)
  (hg:∀ C s₀ H₀ ex,PG (Zq X (blkN ts fv) scope C s₀ H₀ ex) t0 g) (ht:∀ C s₀ H₀ ex,PTs (Zq X (blkN ts fv) scope C s₀ H₀ ex) f0 tt)
  (lx:∀ (env:Env) (it D:Addr),compTurn (.ListComp kd (⟨t0,i0,f0,0⟩ :: rest) scope pos) 0 (.ref it) (.ref D) env=(standAt i0.pos >>= λ_=>pyNext (.ref it) >>= λr=>match r with
   | none=>pure (.done .next)
   | some v=>letOwnedTupleGo t0 (.ref it) v >>= λ_=>assign t0 env v >>= λ_ =>
    (forIn f0 true λc r=>if r=true then do let ok <- isTrue c env (eval c env); pure (ForInStep.yield ok) else pure (ForInStep.yield r)) >>= λok =>
     if ok=true then j6 env it D else again (.compLoop (.ListComp kd (⟨t0,i0,f0,0⟩ :: rest) scope pos) 0 (.ref it) (.ref D) env)))
  (hb:∀ C s₀ H₀ ex it D,PBX (Zq X (blkN ts fv) scope C s₀ H₀ ex) (j6 (Zq X (blkN ts fv) scope C s₀ H₀ ex).env it D) (.compLoop (.ListComp kd (⟨t0,i0,f0,0⟩ :: rest) scope pos) 0 (.ref it) (.ref D) (Zq X (blkN ts fv) scope C s₀ H₀ ex).env) (tb D))
  (hs:∀ x,foldedSetIterable i0 X.env x=pure x) {Q:VK} {E:XK} (I:Inv X j0 σ H s) (h:Fj ts fv wi g tt tb σ H Q E) :
  wpAny (model X.prog X.w) X.A (eval (.ListComp kd (⟨t0,i0,f0,0⟩ :: rest) scope pos) X.env) (EP X j0 σ Q) (XA X j0 E) s:=by
 rw [eval_ListComp];refine wpAny_comprehension_free (use:=none) Z hs (X7 λy hy e=>I.ok.has y.1 (B.free y hy e)) B.kind B.names ?_;refine thnF l6 (hi j0 s σ H _ I h) λv s1 h1=>thnF l6 h1 λqb s2 h2=>?_;obtain ⟨it,fp,tn,J,H2,e,I2,T,l5,f2,L⟩:=h2;subst e;have L:=L s2.heap.objs.size I2.fresh;refine wpAny_newObj_type ?_;have I3:Inv X j0 σ (upd H2 s2.heap.objs.size (.lst [])) { s2 with heap:=s2.heap.push { cls:=.type "list",data:=.seq ([]:List Value).toArray },toks:=s2.toks }:=I2.lnew (its:=[]) (t':=s2.toks) .nil (Az _);have lq:∀ b∈fp,∃ o,s2.heap.get? b=some o/\∀ v,o.data≠.cell v:=T.obj _ _ l5;have f3:∀ b∈fp,FpOk X j0 (upd H2 s2.heap.objs.size (.lst [])) b:=λb hb=>by
  obtain ⟨o,ho,_⟩:=lq b hb
  refine ⟨?_,(f2 b hb).2⟩
  rw [Ze (As (Ao ho))]
  exact (f2 b hb).1
 have k8:tn 0 (s2.heap.push { cls:=.type "list",data:=.seq ([]:List Value).toArray }):=T.keep _ _ _ l5 λb _ o e=>Ak _ e;have my:∀ b∈fp,∃ o,(s2.heap.push { cls:=.type "list",data:=.seq ([]:List Value).toArray }).get? b=some o:=λb hb=>let ⟨o,e,_⟩:=lq b hb; ⟨o,Ak _ e⟩
 generalize hs3:({ s2 with heap:=s2.heap.push { cls:=.type "list",data:=.seq ([]:List Value).toArray },toks:=s2.toks }:Shared)=s3 at I3;have eh:s2.heap.push { cls:=.type "list",data:=.seq ([]:List Value).toArray }=s3.heap:=by rw [<- hs3]
 rw [eh] at k8 my;refine wpAny_newFunctionEnv B.nocell (by intro y hy; simp at hy) (λh₁ nr n8=>?_) B.kind;have hk:∀ b o,s3.heap.get? b=some o->h₁.get? b=some o:=λb o e=>n8.extBut b o (As (Ao e)) (Ak _ e);have I4:=J7 (ts:=ts) (tk:=s3.toks + ([]:List (Str × Value)).length) B I3 f3 my nr hk;have f4:∀ b∈fp,FpOk (Zq X (blkN ts fv) scope s3.heap.objs.size s3 (upd H2 s2.heap.objs.size (.lst [])) fp) [] (upd H2 s2.heap.objs.size (.lst [])) b:=λb hb=>by
  obtain ⟨f0,f1,z9,z8,z0,zz⟩:=f3 b hb
  obtain ⟨o,eo⟩:=my b hb
  exact ⟨f0,As (Ao eo),I4.ok.exfs b hb,.inl hb,(I4.ok.exf b hb).2,λp hp=>absurd (show p∈([]:List (Addr × Obj)) from hp) (by simp)⟩
 have n5:tn 0 h₁:=T.keep _ _ _ k8 λb _ o e=>hk b o e;have loop:codeAny (model X.prog X.w) X.A (.compLoop (.ListComp kd (⟨t0,i0,f0,0⟩ :: rest) scope pos) 0 (.ref it) (.ref s2.heap.objs.size) (Zq X (blkN ts fv) scope s3.heap.objs.size s3 (upd H2 s2.heap.objs.size (.lst [])) fp).env)
   (compPost (model X.prog X.w) X.A (XA X j0 E) none (EP X j0 σ Q) (.ref s2.heap.objs.size) s3.heap.objs.size) { s3 with heap:=h₁,toks:=s3.toks + ([]:List (Str × Value)).length }:=by
  refine Ka (X:=Zq X (blkN ts fv) scope s3.heap.objs.size s3 (upd H2 s2.heap.objs.size (.lst [])) fp) (tg:=t0) (ifs:=f0) (R:=λ_ H'=>Q (.ref s2.heap.objs.size) H') (E:=E) Z Z Z Z Z (lx _ it s2.heap.objs.size) T hc (hg _ _ _ _) (ht _ _ _ _) (hb _ _ _ _ it s2.heap.objs.size) f4 I4 n5 L (λs' σ' H' J' q=>?_) λpb ev s' z=>Gb _ I3 hex ko mo f3 (An _) z
  obtain ⟨e1,e2,e3,e4,e5,e6⟩:=Qm I3 f3 (An _) J'
  obtain ⟨m,hm,_⟩:=J'.loc
  exact ⟨m,hm,λh' nv=>⟨.ref s2.heap.objs.size,H',e1.apart nv e2 e3 e4 e5 e6,Z,q⟩⟩
 exact codeAny_compStart_list loop (T.self _ _ _ _ _ n5 loop)
end
def PEA (X:Cx) (e:Expr) (t:TEX):Prop :=
 ∀ (j0:List (Addr × Obj)) (s:Shared) (σ:St) (H:Hp) (Q:VK) (E:XK),Inv X j0 σ H s->t σ H Q E->wpAny (model X.prog X.w) X.A (eval e X.env) (EP X j0 σ Q) (XA X j0 E) s
def V9 {M:Model} {A:Around} {E:Value->Shared->Prop} {s:Shared} {base:Heap} {env:Env} {outer:List Env} {L e:Addr} {cls a0 fl:Value} {Q:Unit->Shared->Prop}
  (mo:A.frames=some (env :: outer)) (hl:s.heap.FunFrames base (env :: outer)) (hf:env.frame=some L) (ht:s.heap.TracedAtW base e cls a0 fl) (re:base.StaysIn s.heap) (um:base.get? e=none)
  (h:∀ h',Heap.LeftW base (env :: outer) e cls a0 s.heap h'->Q () { s with heap:=h' }):wpAny M A (leaving env (.ref e)) Q E s:=by
 by_cases hb:(fl == rawInt L)=true
 ·have htt:=ht
  obtain ⟨oe,vs,T,oT,ts,he,hc0,hd,h1,hnT,vo,hT,pd,h3⟩:=ht;unfold leaving noteFrame;simp only [hf];refine Al (Al (wpAny_field he hd h1 ?_));rw [if_pos (show (Value.ref T != Value.none)=true from by simp)];refine Al (wpAny_field hT pd h3 ?_);rw [if_pos hb];refine wpAny_pure ?_;refine wpAny_setFlight_noneW re hl htt λh' k1 k2 k3 k4=>h h' ⟨k1,k2,k3,λb o z n=>⟨o.slots,k4 b o z n⟩⟩
 ·obtain ⟨oe,vs,T,oT,ts,he,⟨oq,h0⟩,hd,h1,hnT,vo,hT,pd,h3⟩:=ht
  subst oq;unfold leaving noteFrame;simp only [hf];refine Al (Al (wpAny_field he hd h1 ?_));rw [if_pos (show (Value.ref T != Value.none)=true from by simp)];refine Al (wpAny_field hT pd h3 ?_);rw [if_neg hb];refine Al (wpAny_setField hT pd (Array.getElem?_eq_some_iff.mp h3).1 ?_);have other:∀ b,b≠T->(s.heap.update T (Obj.mapFields (·.setIfInBounds 3 Value.none))).get? b=s.heap.get? b:=λb hb=>Heap.get?_update_other _ _ (Ne.symm hb);have wa:∀ b o,s.heap.get? b=some o->(∀ vs,o.data≠.fields vs)->b≠T:=λb o hb uh q=>by
   rw [q,hT] at hb; injection hb with hb; subst hb; exact uh ts pd
  exact wpAny_newEntryW mo (hl.of_keeps λb o hb uh=>⟨o,(other b (wa b o hb uh)).trans hb,Z⟩) hf ((other e (Ne.symm vo)).trans he)
   (λb o zm=>(other b λq=>by rw [q,hnT] at zm; cases zm).trans (re b o zm)) um hd (Array.getElem?_eq_some_iff.mp h1).1 h0
   λh' ⟨x1,x2,x3,x4⟩=>h h' ⟨x1,x2,x3,λb o hb uh=>x4 b o ((other b (wa b o hb uh)).trans hb) uh⟩
section
variable {P:Program} {w:World} {K:W.Frag} {mg:Str->Option Value} {base:Heap}
def Zex {N:List Str} {qual:Str} {scope:Scope} {f:Addr} {cd:Value} {A:Around} {outer:List Env} {s s':Shared} {H:Hp} {E:XK} {ev:Value} {j0:List (Addr × Obj)}
  (h:XA (cxOf (CXr P w) P w K mg base N qual scope f cd A outer s H E).nox j0 E ev s'):(cxOf (CXr P w) P w K mg base N qual scope f cd A outer s H E).xe ev s':=by
 obtain ⟨e,T,cls,a0,fl,σ',H',rfl,I,hx,fe,fT,q⟩:=h;show wpAny (model P w) (A.deeper (envOfC qual scope s.heap.objs.size f cd)) (leaving (envOfC qual scope s.heap.objs.size f cd) (.ref e)) (λ_ lw=>CXr P w outer H s E (.ref e) lw) (λe' lw=>CXr P w outer H s E e' lw) s';have mo:(A.deeper (envOfC qual scope s.heap.objs.size f cd)).frames=some (envOfC qual scope s.heap.objs.size f cd :: outer):=I.ok.frames;have n0:∀ b,b∈[e,T]->s.heap.get? b=none:=λb hb=>by
  rcases Ar hb with z | z
  ·rw [z]; exact fe.n0
  ·obtain rfl:b=T:=by simpa using z
   exact fT.n0
 have nt:∀ b,b∈[e,T]->H' b=none:=λb hb=>by
  rcases Ar hb with z | z
  ·rw [z]; exact fe.nt
  ·obtain rfl:b=T:=by simpa using z
   exact fT.nt
 have hB:∀ b o,b ∉ [e,T]->b ∉ frs (envOfC qual scope s.heap.objs.size f cd :: outer)->s'.heap.get? b=some o->(PySem.W.hideAll s'.heap ([e,T] ++ frs (envOfC qual scope s.heap.objs.size f cd :: outer))).get? b=some o:=λb o h1 h2 e1 =>
  PySem.W.hideAll_get _ e1 λz=>(List.mem_append.mp z).elim h1 h2
 have hl:s'.heap.FunFrames (PySem.W.hideAll s'.heap ([e,T] ++ frs (envOfC qual scope s.heap.objs.size f cd :: outer))) (envOfC qual scope s.heap.objs.size f cd :: outer):=W1 I _ λb hb=>List.mem_append_right _ hb;have re:(PySem.W.hideAll s'.heap ([e,T] ++ frs (envOfC qual scope s.heap.objs.size f cd :: outer))).StaysIn s'.heap:=λb o e1=>PySem.W.of_hideAll _ e1;have um:(PySem.W.hideAll s'.heap ([e,T] ++ frs (envOfC qual scope s.heap.objs.size f cd :: outer))).get? e=none:=PySem.W.hideAll_none _ (List.mem_append_left _ List.mem_cons_self);obtain ⟨oe,vs,oT,ts,y1,y2,y3,y4,y5,y6,y7,y8⟩:=hx;refine V9 mo hl Z ⟨oe,vs,T,oT,ts,y1,y2,y3,y4,PySem.W.hideAll_none _ (List.mem_append_left _ (by simp)),y5,y6,y7,y8⟩ re um λh' j2=>?_;obtain ⟨k1,k2,k3,k4⟩:=j2;obtain ⟨oe,vs,T',oT,ts,x1,x2,x3,x4,x5,x6,x7,x8,x9⟩:=k3;have lh:∀ b o,b∈frs (envOfC qual scope s.heap.objs.size f cd :: outer)->s'.heap.get? b=some o->∃ sl,h'.get? b=some { o with slots:=sl }:=λb o hb e1=>k4 b o e1 (I.fnd hb e1);have kept:∀ b o,b ∉ [e,T]->b ∉ frs (envOfC qual scope s.heap.objs.size f cd :: outer)->s'.heap.get? b=some o->h'.get? b=some o:=λb o h1 h2 e1=>k1 b o (hB b o h1 h2 e1);have nL:∀ b o,s.heap.get? b=some o->b ∉ frs outer->b ∉ frs (envOfC qual scope s.heap.objs.size f cd :: outer):=λb o e1 h2 z=>by
  have z':b∈s.heap.objs.size :: frs outer:=z
  rcases Ar z' with z1 | z1
  ·rw [z1] at e1; exact absurd (Ao e1) (Nat.lt_irrefl _)
  ·exact h2 z1
 have nE:∀ b o,s.heap.get? b=some o->b ∉ [e,T]:=λb o e1 z=>by rw [n0 b z] at e1; cases e1
 have trk:∀ b u,H' b=some u->∀ o,s'.heap.get? b=some o->h'.get? b=some o:=λb u hu o e1=>by
  refine kept b o (λz=>by rw [nt b z] at hu; cases hu) (λz=>?_) e1;rw [I.stkFree b z] at hu; cases hu
 have vp:s.heap.get? T'=none/\H' T'=none:=by
  by_cases hz:s'.heap.get? T'=none
  ·refine ⟨?_,I.untr hz⟩
   cases q':s.heap.get? T' with
   | none=>rfl
   | some o =>
    obtain ⟨o',e'⟩:=I.base.there T' o q' (by simp [cxOf]);rw [hz] at e'; cases e'
  ·obtain ⟨o,ho⟩:=Option.ne_none_iff_exists'.mp hz
   by_cases h1:T'∈[e,T]
   ·exact ⟨n0 T' h1,nt T' h1⟩
   ·by_cases h2:T'∈frs (envOfC qual scope s.heap.objs.size f cd :: outer)
    ·exfalso
     obtain ⟨sl,e'⟩:=lh T' o h2 ho;rw [x7] at e';cases e';exact I.fnd h2 ho ts x8
    ·rw [hB T' o h1 h2 ho] at x5; cases x5
 refine ⟨e,T',cls,a0,H',Z,I.os,I.bare,?_,λb u hu=>?_,fe.n0,vp.1,fe.nt,vp.2,⟨oe,vs,oT,ts,x1,x2,x3,x4,x6,x7,x8,x9⟩,q⟩
 ·refine Un.leave I.base (λb o e1 h1 e2=>kept b o (nE b o e1) (nL b o e1 h1) e2) (λb o hb e1=>lh b o (List.mem_cons_of_mem _ hb) e1) λb o e1 o' e2=>?_
  by_cases h2:b∈frs outer
  ·obtain ⟨sl,e'⟩:=lh b o' (List.mem_cons_of_mem _ h2) e2
   exact ⟨_,e'⟩
  ·exact ⟨o',kept b o' (nE b o e1) (nL b o e1 h2) e2⟩
 ·refine (I.hok b u hu).stay (λc v hc e1=>?_) (λ_ z=>z) λ_ _ z=>z
  rcases hc with z | z
  ·exact trk c u (by rw [z]; exact hu) v e1
  ·exact trk c _ z v e1
end
section
variable {X:Cx} {ts:List Str} {fv:List (Str × Nat)} {scope:Scope} {kd t0 i0:Expr} {f0:List Expr} {rest:List Comprehension} {pos:Pos} {wi:TI} {g:TG} {tt:TT} {tb:Addr->TBX} {j6:Env->Addr->Addr->Sem Fin}
theorem Zf1 (B:BlkOk X scope fv) (hc:X.calm=true) (hi:PI X t0 i0 wi)
  (hg:∀ C s₀ H₀ ex,PG (Zq X (blkN ts fv) scope C s₀ H₀ ex) t0 g) (ht:∀ C s₀ H₀ ex,PTs (Zq X (blkN ts fv) scope C s₀ H₀ ex) f0 tt)
  (lx:∀ (env:Env) (it D:Addr),compTurn (.ListComp kd (⟨t0,i0,f0,0⟩ :: rest) scope pos) 0 (.ref it) (.ref D) env=(standAt i0.pos >>= λ_=>pyNext (.ref it) >>= λr=>match r with
   | none=>pure (.done .next)
   | some v=>letOwnedTupleGo t0 (.ref it) v >>= λ_=>assign t0 env v >>= λ_ =>
    (forIn f0 true λc r=>if r=true then do let ok <- isTrue c env (eval c env); pure (ForInStep.yield ok) else pure (ForInStep.yield r)) >>= λok =>
     if ok=true then j6 env it D else again (.compLoop (.ListComp kd (⟨t0,i0,f0,0⟩ :: rest) scope pos) 0 (.ref it) (.ref D) env)))
  (hb:∀ C s₀ H₀ ex it D,PBX (Zq X (blkN ts fv) scope C s₀ H₀ ex) (j6 (Zq X (blkN ts fv) scope C s₀ H₀ ex).env it D) (.compLoop (.ListComp kd (⟨t0,i0,f0,0⟩ :: rest) scope pos) 0 (.ref it) (.ref D) (Zq X (blkN ts fv) scope C s₀ H₀ ex).env) (tb D))
  (hex:X.ex=[]:=by rfl) (l6:X.xe=(λ_ _=>False):=by rfl) (ko:∃ o,X.stack=X.env :: o:=by exact ⟨_,rfl⟩) (mo:X.env.frame=some X.env.locals:=by rfl) (hs:∀ x,foldedSetIterable i0 X.env x=pure x:=by intro _; rfl) :
  PEA X (.ListComp kd (⟨t0,i0,f0,0⟩ :: rest) scope pos) (Fj ts fv wi g tt tb):=λ_ _ _ _ _ _ I h=>Zkf B hc hi hex l6 ko mo hg ht lx hb hs I h
end
def Ze5 {K:W.Frag} {a:Addr} {xs:List V} {g:TG} {tb:TSX} {R:Value->St->Hp->Prop} {D:Ends} {σ:St} {H:Hp} (Pv:Nat->St->Hp->Prop) (h0:Pv 0 σ H) (hl:∀ i σ H,i<=xs.length->Pv i σ H->SqL K H a xs)
  (hs:∀ i x σ H,xs[i]?=some x->Pv i σ H->g x σ H λσ2 H2=>tb { D with nx:=Pv (i + 1),ct:=Pv (i + 1),bk:=D.nx } R σ2 H2) (hd:∀ σ H,Pv xs.length σ H->D.nx σ H) :
  ∃ W:Nat->Nat->St->Hp->Prop,(∃ m,W 0 m σ H)/\∀ i m σ H,W i m σ H ->
   ((Itl K a).stop i H/\D.nx σ H)\/((Itl K a).go i H/\∃ N:St->Hp->Prop,(∀ σ' H',N σ' H'->∃ m',m' < m/\W (i + 1) m' σ' H')/\∀ x H',(Itl K a).yld i H x H'->g x σ H' λσ2 H2=>tb { D with nx:=N,ct:=N,bk:=D.nx } R σ2 H2) :=
 Zgk (tb:=λD' σ' H'=>tb D' R σ' H') Pv h0 hl hs hd
inductive ZS where
 | l (a:Addr)
 | t (a:Addr)
 | s (x:Str)
def ZS.ad:ZS->List Addr
 | .l a=>[a]
 | .t a=>[a]
 | .s _=>[]
def ZS.has (K:W.Frag) (H:Hp) (S:ZS) (xs:List V):Prop:=match S with
 | .l a=>SqL K H a xs
 | .t a=>SqT K H a xs
 | .s x=>x.cps.all (· < 128)=true/\xs=x.cps.toList.map λc=>V.str ⟨#[c]⟩
def ZS.it (S:ZS) (i:Addr) (k:Nat) (h:Heap):Prop:=match S with
 | .l a=>h.IsListIter i a k
 | .t a=>IsTupIter h i a k
 | .s x=>∃ t,h.IsStrIter i "str_ascii_iterator" x t k
def ZS.v:ZS->V
 | .l a=>.ref a
 | .t a=>.ref a
 | .s x=>.str x
section
variable {X:Cx}
abbrev THs:=Value->TS
def PHs (X:Cx) (hs:List ExceptHandler) (t:THs):Prop :=
 ∀ (j0:List (Addr × Obj)) (s:Shared) (σ:St) (H:Hp) (D:Ends) (e T:Addr) (cls a0:Value) (h':Heap),Inv X j0 σ H s->FxOk X j0 H e->FxOk X j0 H T ->
  Heap.FlyingW (PySem.W.hideAll s.heap (e :: T :: frs X.stack)) X.stack e cls a0 h'->s.heap.UpToSlots h'->t cls D σ H->wpAny (model X.prog X.w) X.A (handleBy (.ref e) X.env hs) (SP X j0 D) X.xe { s with heap:=h' }
def Zjf {hs:List ExceptHandler}:PHs X hs (λ_ _ _ _=>False):=λ_ _ _ _ _ _ _ _ _ _ _ _ _ _ _ z=>z.elim
def V6 {b₀:Stmt} {ql:List Stmt} {x:Str} {np p8:Pos} {rest:List ExceptHandler} {ts:TS} {tr:THs} {C:Addr} (hg:Gl X x) (hm:X.mg x=some (.ref C)) (hs:∀ e,PSs (V7 X e) (b₀ :: ql) ts) (hr:PHs X rest tr)
  (hex:X.ex=[]:=by rfl) (hx:X.xe=(λ_ _=>False):=by rfl) (lf:(x == ("__debug__":Str))=false:=by decide) :
  PHs X (.ExceptHandler (some (.Name x np)) none (b₀ :: ql) p8 :: rest) (λcls D σ H=>∃ b,PySem.W.exmOne X.K cls (.ref C)=some b/\if b=true then ts D σ H else tr cls D σ H):=by
 intro j0 s σ H D e T cls a0 h' I fe fT kr qw q;obtain ⟨b,hb,q⟩:=q;have I5:Inv X j0 σ H { s with heap:=h' }:=I.flown hex fe fT kr.1 qw;obtain ⟨ob,hob,hobc⟩:=kr.there;refine wpAny_handleBy_cons (codeAny_handlers_test (Wl (X:=V7 X e) (I5.hnd e) hg hm ?_ lf)) (by intro q; cases q);have LT:PySem.W.Looks (model X.prog X.w) h' (typeOf (.ref e)) cls:=by
  have:PySem.W.Looks (model X.prog X.w) h' (typeOf (.ref e)) ob.cls:=(PySem.W.Looks.ld hob).andThen .now
  rw [hobc] at this
  exact this
 refine (PySem.W.exm_one I5.kIn LT hb).here ?_
 cases b with
 | false=>exact hr j0 s σ H D e T cls a0 h' I fe fT kr qw q
 | true =>
  refine codeAny_handlers_suite ?_;refine lands_againW kr λh₆ hfl₆ hsm₆=>?_;have I6:Inv X j0 σ H { s with heap:=h₆ }:=I.flown hex fe fT hfl₆.1 (qw.trans hsm₆);have h6:=hs e j0 _ σ H D (I6.hnd e) q;have l6:(V7 X e).xe=λ_ _=>False:=hx;rw [l6] at h6;refine wpAny_mono h6 (λf s2 q2=>?_) λ_ _ z=>z.elim;exact q2.unhnd I6.ok
def Zjq (tb:TSX) (th:THs):TS:=λD σ H=>tb D (λcls σ' H'=>th cls D σ' H') σ H
def Zhu {body:List Stmt} {h₀:ExceptHandler} {hs:List ExceptHandler} {pos:Pos} {tb:TSX} {th:THs} (hb:PSsX false X body tb) (hh:PHs X (h₀ :: hs) th)
  (hex:X.ex=[]:=by rfl) (ko:∃ o,X.stack=X.env :: o:=by exact ⟨_,Z⟩) (mo:X.env.frame=some X.env.locals:=by rfl) :
  PS X (.Try body (h₀ :: hs) [] [] pos) (Zjq tb th):=by
 intro j0 s σ H D I h;obtain ⟨outer,ko⟩:=ko;refine wpAny_Try_except (wpAny_mono (hb j0 s σ H D _ I h) (λf s1 q=>?_) ?_)
 ·cases f with
  | next=>exact wpAny_execs_nil q
  | ret v=>exact q
  | brk=>exact q
  | cont=>exact q
 ·rintro ev s1 ⟨e,T,cls,a0,σ1,H1,rfl,I1,hx1,fe,fT,hT,q⟩
  obtain ⟨T,rfl⟩:∃ t,T=some t:=by
   cases T with
   | none=>exact absurd (hT Z) Bool.false_ne_true
   | some t=>exact ⟨t,Z⟩
  have fT:=fT T rfl;have pc:=Ze7 I1 hx1;have hA:X.A.frames=some (X.env :: outer):=by rw [I.ok.frames,ko]
  have sv:Heap.FlyingW (PySem.W.hideAll s1.heap (e :: T :: frs X.stack)) (X.env :: outer) e cls a0 s1.heap:=by
   have:=pc;generalize PySem.W.hideAll s1.heap (e :: T :: frs X.stack)=B at this ⊢;rw [ko] at this;exact this
  refine wpAny_looks_onW hA mo sv λh₄ hheld₄ hsm₄=>?_;refine wpAny_landsW hheld₄ λh₅ kr hsm₅'=>?_;refine hh j0 s1 σ1 H1 D e T cls a0 h₅ I1 fe fT ?_ (hsm₄.trans hsm₅') q;generalize PySem.W.hideAll s1.heap (e :: T :: frs X.stack)=B at kr ⊢;rw [ko];exact kr
end
def FnOk.or {P:Program} {w:World} {K:W.Frag} {mg:Str->Option Value} {base:Heap} {CX:CXT} {k:Nat} {f:Addr} {fd:FuncData} {ps:List Str} {sp sp':Sp} (F:FnOk P w K mg base CX k f fd ps sp) (G:FnOk P w K mg base CX k f fd ps sp') :
  FnOk P w K mg base CX k f fd ps (λvs H Q E=>sp vs H Q E\/sp' vs H Q E) :=
 ⟨λvs H Q E q=>q.elim (F.len vs H Q E) (G.len vs H Q E),λA outer s H args us vs Q E hr he hb hv hs=>hs.elim (F.run A outer s H args us vs Q E hr he hb hv) (G.run A outer s H args us vs Q E hr he hb hv)⟩
abbrev TAZ:=St->Hp->(List V->Hp->Prop)->XK->Prop
structure LW (X:Cx) (xl:Value->Shared->Prop) (E:XK):Prop where
 l:LV X xl (λcls _ H'=>E cls none H')
 a:∀ (j0:List (Addr × Obj)) (ev:Value) (s':Shared),XA X j0 E ev s'->xl ev s'
def PEL (X:Cx) (xl:Value->Shared->Prop) (E:XK) (e:Expr) (t:TEX):Prop :=
 ∀ (j0:List (Addr × Obj)) (s:Shared) (σ:St) (H:Hp) (Q:VK),Inv X j0 σ H s->t σ H Q E->wpAny (model X.prog X.w) X.A (eval e X.env) (EP X j0 σ Q) xl s
def PAL (X:Cx) (xl:Value->Shared->Prop) (E:XK) (es:List Expr) (t:TAZ):Prop :=
 ∀ (pos:Pos) (j0:List (Addr × Obj)) (s:Shared) (σ:St) (H:Hp) (Q:List V->Hp->Prop),Inv X j0 σ H s->t σ H Q E->wpAny (model X.prog X.w) X.A (spliced (backTo pos (starEach es X.env))) (AP X j0 σ Q) xl s
section
variable {X:Cx} {xl:Value->Shared->Prop} {E:XK} {e:Expr} {es:List Expr} {pos:Pos}
def Zak {t:TE} (h:PE X e t) (hx:X.xe=(λ_ _=>False):=by rfl):PEL X xl E e (λσ H Q _=>t σ H Q):=λj0 s σ H Q I q=>thnF hx (h j0 s σ H Q I q) λ_ _ z=>z
def Jh {t:TEX} (L:LW X xl E) (h:PEX true X e t):PEL X xl E e t:=λj0 s σ H Q I q =>
 wpAny_mono (h j0 s σ H Q E I q) (λ_ _ z=>z) λev s' z=>L.l.lv j0 ev s' (by
  obtain ⟨e,T,cls,a0,σ',H',h1,h2,h3,h4,h5,h7,_,h6⟩:=z
  exact ⟨e,T,cls,a0,σ',H',h1,h2,h3,h4,h5,h7,h6⟩)
def Zj5 {t:TEX} (L:LW X xl E) (h:PEA X e t):PEL X xl E e t:=λj0 s σ H Q I q =>
 wpAny_mono (h j0 s σ H Q E I q) (λ_ _ z=>z) λev s' z=>L.a j0 ev s' z
def Qg {t:TA} (h:PA X es t) (hx:X.xe=(λ_ _=>False):=by rfl):PAL X xl E es (λσ H Q _=>t σ H Q):=λpos j0 s σ H Q I q=>thnF hx (h pos j0 s σ H Q I q) λ_ _ z=>z
def Y6 {te:TEX} {t:TAZ} (ha:PEL X xl E e te) (hr:PAL X xl E es t) (hs:starEach (e :: es) X.env=(false,eval e X.env) :: starEach es X.env:=by rfl):PAL X xl E (e :: es) (λσ H Q E=>te σ H (λx H1=>t σ H1 (λxs H2=>Q (x :: xs) H2) E) E):=by
 intro pos j0 s σ H Q I h;rw [hs];show wpAny _ _ (spliced ((false,eval e X.env) :: backTo pos (starEach es X.env))) _ _ s;refine Calls.spliced_cons (thn (ha j0 s σ H _ I h) λu s1 j2=>?_);obtain ⟨x,H1,I1,r1,q1⟩:=j2;refine thn (hr pos j0 s1 σ H1 _ I1 q1) λus s2 zz38=>?_;obtain ⟨xs,H2,I2,r2,q2⟩:=zz38;exact ⟨x :: xs,H2,I2,.cons r1 r2,q2⟩
def Jk {x1} {t:TAZ} (h:PAL X xl E es t):PEL X xl E (.Tuple es x1 pos) (Zjp t):=by
 intro j0 s σ H Q I hq;refine wpAny_Tuple_spliced (thn (h pos j0 s σ H _ I hq) λus s1 qo=>?_);obtain ⟨xs,H1,I1,r,z,q⟩:=qo;refine ⟨by rw [<- r.length]; exact z,?_⟩;have hf:H1 s1.heap.objs.size=none:=I1.hok.fresh (An _);refine ⟨.ref s1.heap.objs.size,upd H1 s1.heap.objs.size (.tup xs),I1.laid (t':=s1.toks) (λb u e=>Ak _ e) (An _) ?_,Z,q _ hf⟩;exact ⟨z,us,r,⟨_,Ap _ Z,Z,_,Z⟩⟩
def Wu {te:TEX} (he:PEL X xl E e te):PSL X xl (λcls _ H'=>E cls none H') (.Return (some e) pos) (λD _ σ H=>te σ H D.rt E):=λj0 s σ H D I h =>
 wpAny_Return_some (wpAny_mono (he j0 s σ H _ I h) (λv s1 ⟨x,H1,I1,r1,q1⟩=>⟨x,σ,H1,I1,r1,q1⟩) λ_ _ z=>z)
def Zfy {i:Nat} {x:Str} {te:TEX} {km:Pos} (L:LW X xl E) (hN:X.N.Nodup) (hi:X.N[i]?=some x) (hx:Loc X.env.scope x) (he:PEL X xl E e te) (hs:swapsWith e (some (.Name x km)) pos.line X.env=pure false:=by rfl)
  (hf:X.fn x=true\/X.env.scope.names.lookup x=some .local:=by first | exact .inl rfl | exact .inr rfl | assumption):PSL X xl (λcls _ H'=>E cls none H') (.Assign [.Name x km] e pos) (λD _ σ H=>te σ H (λv H1=>D.nx (σ.set i (some v)) H1) E):=by
 intro j0 s σ H D I h;refine wpAny_Assign_Name (wpAny_mono (he j0 s σ H _ I h) (λv s1 zz39=>?_) λ_ _ z=>z) hs;obtain ⟨y,H1,I1,r1,q1⟩:=zz39;exact Jm I1 hN hi hx r1 (λs2 I2=>⟨_,H1,I2,q1⟩) hf
def Vr {fr:Bool} {k i:Nat} {f:Addr} {fd:FuncData} {ps:List Str} {sp:Sp} {ds:List Value} {j8:List V} {x:Str} {p:Pos} {t:TA} (F:FnOk X.prog X.w X.K X.mg X.base (CXr X.prog X.w) k f fd ps sp) (hr:Room k X.A) (hN:X.N[i]?=some x) (hv:Vis X.env.scope x) (hk:PySem.W.keepIn X.K (.ref f)=true) (hb:Xb X.K fd ps ds) (hd:Vals j8 ds)
  (ha:PA X (e :: es) t) (hex:X.ex=[]:=by rfl) (hx:X.xe=(λ_ _=>False):=by rfl) (lf:(x == ("__debug__":Str))=false:=by decide) (ly:(x == ("__classdict__":Str))=false:=by decide) (he:starEach (e :: es) X.env=(false,eval e X.env) :: starEach es X.env:=by rfl) (kz:(backTo pos (starEach es X.env)).any (·.1)=false:=by rfl) :
  PEX fr X (.Call (.Name x p) (e :: es) [] pos) (λσ H Q E=>σ[i]?=some (some (.ref f))/\Oa sp j8 t σ H Q E):=by
 intro j0 s σ H Q E I h;obtain ⟨h0,h⟩:=h;refine wpAny_Call_Name_kw (thnF hx (Zeg hN hv lf ly j0 s σ H (λv H'=>v=.ref f/\H'=H) I ⟨_,h0,Z,Z⟩) λv s1 j2=>?_);obtain ⟨y,H1,I1,r1,e1,e2⟩:=j2;subst e1 e2;cases r1;refine PySem.W.callWith_K (h₀:=X.base) I1.ok.mod.kin hk (thnF hx (ha pos j0 s1 σ _ _ I1 h) λus s2 zz40=>?_) he kz;obtain ⟨vs,H2,I2,r,q⟩:=zz40;refine ⟨I2.kIn,?_⟩;exact V2 F hr hb hd hex I2 r q
def Zef {fr:Bool} {k:Nat} {f C:Addr} {fd:FuncData} {ps:List Str} {sp:Sp} {ds:List Value} {j8:List V} {m:Str} {j7:Pos} {o:Expr} {ta:TEX} {pl:Sem Bool} (he:PEX fr X o ta) (c:Cls X.K C) (hm:Meth X.K C m f) (F:FnOk X.prog X.w X.K X.mg X.base (CXr X.prog X.w) k f fd ps sp) (hr:Room k X.A) (hb:Xb X.K fd ps ds) (hd:Vals j8 ds) (hex:X.ex=[]:=by rfl)
  (ht:eval (.Call (.Attribute o m j7) [] [] pos) X.env=(do
   let ov <- eval o X.env
   standAt j7.atName
   let (f,first) <- holding [ov] (getMethod ov m pl)
   callWith pos f first (backTo pos (starEach [] X.env)) (backToKw pos (keywordEach [] X.env))):=by rfl) :
  PEX fr X (.Call (.Attribute o m j7) [] [] pos) (λσ H Q E=>ta σ H (λx H1=>∃ a dx fs,x=.ref a/\H1 a=some (.ins C dx fs)/\fs.lookup m=none/\sp (x :: j8) H1 Q E) E):=by
 intro j0 s σ H Q E I h;refine PySem.W.methodCall_KW (pl:=pl) (thn (he j0 s σ H _ E I h) λu s1 zz41=>?_) ht;obtain ⟨x,H1,I1,rx,a,dx,fs,ex,ea,l,q⟩:=zz41;subst ex;obtain rfl:u=Value.ref a:=rx;refine Jj I1 ea c hm l ?_;exact PySem.W.callWith_K0 (first:=[.ref a]) I1.kIn hm.kp (V2 (us:=[.ref a]) (vs:=[.ref a]) F hr hb hd hex I1 (.cons Z .nil) q)
end
section
variable {X:Cx} {xl:Value->Shared->Prop} {E:XK} {ts:List Str} {fv:List (Str × Nat)} {scope:Scope} {kd t0 i0:Expr} {f0:List Expr} {rest:List Comprehension} {pos:Pos} {wi:TI} {g:TG} {tt:TT} {tb:Addr->TBX} {j6:Env->Addr->Addr->Sem Fin}
theorem Vo {i:Nat} {y:Str} {py ol:Pos} (L:LW X xl E) (B:BlkOk X scope fv) (hc:X.calm=true) (hN:X.N.Nodup) (zc:X.N[i]?=some y) (u4:X.env.scope.names.lookup y=some .local)
  (yq:swapsWith (.ListComp kd (⟨t0,i0,f0,0⟩ :: rest) scope pos) (some (.Name y py)) ol.line X.env=pure true) (hi:PI X t0 i0 wi)
  (hg:∀ C s₀ H₀ ex,PG (Zq X (blkN ts fv) scope C s₀ H₀ ex) t0 g) (ht:∀ C s₀ H₀ ex,PTs (Zq X (blkN ts fv) scope C s₀ H₀ ex) f0 tt)
  (lx:∀ (env:Env) (it D:Addr),compTurn (.ListComp kd (⟨t0,i0,f0,0⟩ :: rest) scope pos) 0 (.ref it) (.ref D) env=(standAt i0.pos >>= λ_=>pyNext (.ref it) >>= λr=>match r with
   | none=>pure (.done .next)
   | some v=>letOwnedTupleGo t0 (.ref it) v >>= λ_=>assign t0 env v >>= λ_ =>
    (forIn f0 true λc r=>if r=true then do let ok <- isTrue c env (eval c env); pure (ForInStep.yield ok) else pure (ForInStep.yield r)) >>= λok =>
     if ok=true then j6 env it D else again (.compLoop (.ListComp kd (⟨t0,i0,f0,0⟩ :: rest) scope pos) 0 (.ref it) (.ref D) env)))
  (hb:∀ C s₀ H₀ ex it D,PBX (Zq X (blkN ts fv) scope C s₀ H₀ ex) (j6 (Zq X (blkN ts fv) scope C s₀ H₀ ex).env it D) (.compLoop (.ListComp kd (⟨t0,i0,f0,0⟩ :: rest) scope pos) 0 (.ref it) (.ref D) (Zq X (blkN ts fv) scope C s₀ H₀ ex).env) (tb D))
  (hex:X.ex=[]:=by rfl) (l6:X.xe=(λ_ _=>False):=by rfl) (ko:∃ o,X.stack=X.env :: o:=by exact ⟨_,rfl⟩) (mo:X.env.frame=some X.env.locals:=by rfl) (hs:∀ x,foldedSetIterable i0 X.env x=pure x:=by intro _; rfl) :
  PSL X xl (λcls _ H'=>E cls none H') (.Assign [.Name y py] (.ListComp kd (⟨t0,i0,f0,0⟩ :: rest) scope pos) ol) (λD0 _ σ H=>Fj ts fv wi g tt tb σ H (λv H1=>D0.nx (σ.set i (some v)) H1) E):=by
 intro j0 s σ H D0 I h;rw [exec_Assign_Name_used _ _ _ _ yq];refine Al (wpAny_standAt (Al ?_));show wpAny _ X.A (do let _ <- comprehension (.ListComp kd (⟨t0,i0,f0,0⟩ :: rest) scope pos) scope X.env _ (newList []) false (eval i0 X.env) (some (assign (.Name y py) X.env))) _ _ s;refine Al (wpAny_mono (wpAny_comprehension_free (use:=some (assign (.Name y py) X.env)) (Q:=λ_ s'=>SP X j0 D0 .next s') (E:=XA X j0 E) Z hs (X7 λy hy e=>I.ok.has y.1 (B.free y hy e)) B.kind B.names ?_) (λ_ s' hq=>wpAny_pure (wpAny_pure hq)) λev s' z=>L.a j0 ev s' z);refine thnF l6 (hi j0 s σ H _ I h) λv s1 h1=>thnF l6 h1 λqb s2 h2=>?_;obtain ⟨it,fp,tn,J,H2,e,I2,T,l5,f2,L0⟩:=h2;subst e;have L0:=L0 s2.heap.objs.size I2.fresh;refine wpAny_newObj_type ?_;have I3:Inv X j0 σ (upd H2 s2.heap.objs.size (.lst [])) { s2 with heap:=s2.heap.push { cls:=.type "list",data:=.seq ([]:List Value).toArray },toks:=s2.toks }:=I2.lnew (its:=[]) (t':=s2.toks) .nil (Az _);have lq:∀ b∈fp,∃ o,s2.heap.get? b=some o/\∀ v,o.data≠.cell v:=T.obj _ _ l5;have f3:∀ b∈fp,FpOk X j0 (upd H2 s2.heap.objs.size (.lst [])) b:=λb hb=>by
  obtain ⟨o,ho,_⟩:=lq b hb
  refine ⟨?_,(f2 b hb).2⟩
  rw [Ze (As (Ao ho))]
  exact (f2 b hb).1
 have k8:tn 0 (s2.heap.push { cls:=.type "list",data:=.seq ([]:List Value).toArray }):=T.keep _ _ _ l5 λb _ o e=>Ak _ e;have my:∀ b∈fp,∃ o,(s2.heap.push { cls:=.type "list",data:=.seq ([]:List Value).toArray }).get? b=some o:=λb hb=>let ⟨o,e,_⟩:=lq b hb; ⟨o,Ak _ e⟩
 generalize hs3:({ s2 with heap:=s2.heap.push { cls:=.type "list",data:=.seq ([]:List Value).toArray },toks:=s2.toks }:Shared)=s3 at I3;have eh:s2.heap.push { cls:=.type "list",data:=.seq ([]:List Value).toArray }=s3.heap:=by rw [<- hs3]
 rw [eh] at k8 my;refine wpAny_newFunctionEnv B.nocell (by intro y hy; simp at hy) (λh₁ nr n8=>?_) B.kind;have hk:∀ b o,s3.heap.get? b=some o->h₁.get? b=some o:=λb o e=>n8.extBut b o (As (Ao e)) (Ak _ e);have I4:=J7 (ts:=ts) (tk:=s3.toks + ([]:List (Str × Value)).length) B I3 f3 my nr hk;have f4:∀ b∈fp,FpOk (Zq X (blkN ts fv) scope s3.heap.objs.size s3 (upd H2 s2.heap.objs.size (.lst [])) fp) [] (upd H2 s2.heap.objs.size (.lst [])) b:=λb hb=>by
  obtain ⟨f0,f1,z9,z8,z0,zz⟩:=f3 b hb
  obtain ⟨o,eo⟩:=my b hb
  exact ⟨f0,As (Ao eo),I4.ok.exfs b hb,.inl hb,(I4.ok.exf b hb).2,λp hp=>absurd (show p∈([]:List (Addr × Obj)) from hp) (by simp)⟩
 have n5:tn 0 h₁:=T.keep _ _ _ k8 λb _ o e=>hk b o e;have loop:codeAny (model X.prog X.w) X.A (.compLoop (.ListComp kd (⟨t0,i0,f0,0⟩ :: rest) scope pos) 0 (.ref it) (.ref s2.heap.objs.size) (Zq X (blkN ts fv) scope s3.heap.objs.size s3 (upd H2 s2.heap.objs.size (.lst [])) fp).env)
   (compPost (model X.prog X.w) X.A (XA X j0 E) (some (assign (.Name y py) X.env)) (λ_ s'=>SP X j0 D0 .next s') (.ref s2.heap.objs.size) s3.heap.objs.size) { s3 with heap:=h₁,toks:=s3.toks + ([]:List (Str × Value)).length }:=by
  refine Ka (X:=Zq X (blkN ts fv) scope s3.heap.objs.size s3 (upd H2 s2.heap.objs.size (.lst [])) fp) (tg:=t0) (ifs:=f0) (R:=λ_ H'=>D0.nx (σ.set i (some (.ref s2.heap.objs.size))) H') (E:=E) Z Z Z Z Z (lx _ it s2.heap.objs.size) T hc (hg _ _ _ _) (ht _ _ _ _) (hb _ _ _ _ it s2.heap.objs.size) f4 I4 n5 L0 (λs' σ' H' J' q=>?_) λpb ev s' z=>Gb (Q:=λ_ _=>True) Value.none I3 hex ko mo f3 (An _) z
  obtain ⟨e1,e2,e3,e4,e5,e6⟩:=Qm I3 f3 (An _) J'
  obtain ⟨m,hm,_⟩:=J'.loc
  show wpAny _ X.A (assign (.Name y py) X.env (.ref s2.heap.objs.size)) _ _ _
  refine wpAny_assign_Name (Q7 e1 hN zc (.inl u4) (show RelV (.ref s2.heap.objs.size) (.ref s2.heap.objs.size) from Z) (λlw I'' mq=>?_) (.inr u4))
  obtain ⟨a,n8,ha⟩:=mq
  have zp:s3.heap.objs.size≠a:=by
   rcases ha with e | e
   ·rw [e]; exact e4
   ·exact λz=>e5 y a e z.symm
  exact ⟨m,hm.sameBut n8 zp,λh' nv=>⟨_,H',I''.apart nv e2 e3 e4 e5 e6,q⟩⟩
 exact codeAny_compStart_list loop (T.self _ _ _ _ _ n5 loop)
end
section
variable {P:Program} {w:World} {K:W.Frag} {mg:Str->Option Value} {base:Heap}
def Fun.okLA {x qual:Str} {st:Stmt} {f:Addr} {fd:FuncData} {N ps:List Str} {k:Nat} {sp:Sp} (F:Fun K x qual st f fd) (S:FnScope N ps (Zf st)) (len:∀ vs H Q E,sp vs H Q E->vs.length=ps.length)
  (kg:∀ (j5:Value) (A:Around) (outer:List Env) (s:Shared) (H:Hp) (vs:List V) (Q:VK) (E:XK),Room k (A.deeper (envOfC qual (Zf st) s.heap.objs.size f j5))->sp vs H Q E ->
   ∃ t,(∀ xl,LW (cxOf (CXr P w) P w K mg base N qual (Zf st) f j5 A outer s H E).nox xl E->PSsL (cxOf (CXr P w) P w K mg base N qual (Zf st) f j5 A outer s H E).nox xl (λcls _ H'=>E cls none H') (Yd st) t)/\t { nx:=λ_ H'=>Q .non H',rt:=Q } (λcls _ H'=>E cls none H') (start N vs) H):FnOk P w K mg base (CXr P w) (k + 1) f fd ps sp:=by
 obtain ⟨oc,od,kV,ka,pm,an,j5,ct,n6,rfl,lk,ly⟩:=F.ex;refine Fd lk ly S len λA outer s H vs Q E hr k7=>?_;obtain ⟨t,h,q⟩:=kg j5 A outer s H vs Q E hr k7;refine ⟨λD σ H'=>t D (λcls _ vz=>E cls none vz) σ H',λj0 s' σ' H' D I hD=>?_,q⟩;refine wpAny_mono (h _ ⟨⟨λj0 ev lw z=>U2 (fr:=true) ?_,PassesOwn.leaving⟩,λj0 ev lw z=>Zex z⟩ j0 s' σ' H' D (I.wish _) hD) (λ_ _ z=>z.unwish) λev lw z=>z;obtain ⟨e,T,cls,a0,σ2,H2,h1,h2,h3,h4,h5,h7,h6⟩:=z;exact ⟨e,T,cls,a0,σ2,H2,h1,h2.pins_of (λp hp=>absurd hp (by simp)),h3,h4.none,λt ht=>(h5 t ht).none,h7,h6⟩
def FnOk.no {CX:CXT} {k:Nat} {f:Addr} {fd:FuncData} {ps:List Str}:FnOk P w K mg base CX k f fd ps (λ_ _ _ _=>False):=⟨λ_ _ _ _ q=>q.elim,λ_ _ _ _ _ _ _ _ _ _ _ _ _ q=>q.elim⟩
end
section
variable {X:Cx} {i o:Expr} {ty td:TE} {pos:Pos}
def tKIn (w:World) (K:W.Frag) (ty td:TE):TE:=λσ H Q=>ty σ H λy H1=>td σ H1 λx H2=>∃ a kvs k,x=.ref a/\J8 w K a kvs/\y=kV k/\Q (.bl (valV kvs k).isSome) H2
def Ox (hi:PE X i ty) (ho:PE X o td):PC X .In i o (tKIn X.w X.K ty td):=by
 intro j0 s σ H Q I h;refine thn (hi j0 s σ H _ I h) λiv s1 zz42=>?_;obtain ⟨y,H1,I1,ry,q1⟩:=zz42;refine thn (ho j0 s1 σ H1 _ I1 q1) λu s2 j2=>?_;obtain ⟨x,H2,I2,rx,a,kvs,k,ex,g,ey,q2⟩:=j2;subst ex ey;obtain rfl:u=Value.ref a:=rx;obtain ⟨hd,vs,kh,dd⟩:=g.here I2;refine wpAny_in_of (J5 ry) hd dd.mapOf ?_;rw [<- (kh.val k).isSome_eq];exact ⟨.bl _,H2,I2.tok _,Z,q2⟩
end
def kdict_mk5 {w:World} {K:W.Frag} {a:Addr} {h1 h2 h3 h4 h5:Int} {t1 t2 t3 t4 t5:Tok} {ep:Nat} {x1 x2 x3 x4 x5:Str} {y1 y2 y3 y4 y5:Addr}
  (l:K.lookup a=some ⟨.type "dict",none,.dict #[⟨h1,.str x1 t1,.ref y1⟩,⟨h2,.str x2 t2,.ref y2⟩,⟨h3,.str x3 t3,.ref y3⟩,⟨h4,.str x4 t4,.ref y4⟩,⟨h5,.str x5 t5,.ref y5⟩] ep,#[]⟩)
  (e1:h1=hashStr w x1) (e2:h2=hashStr w x2) (e3:h3=hashStr w x3) (e4:h4=hashStr w x4) (e5:h5=hashStr w x5) (ne:([x1,x2,x3,x4,x5]:List Str).Nodup) (sy:(a == sysModules)=false) :
  J8 w K a [(Sum.inr x1,.ref y1),(Sum.inr x2,.ref y2),(Sum.inr x3,.ref y3),(Sum.inr x4,.ref y4),(Sum.inr x5,.ref y5)]:=by
 refine ⟨_,_,_,[(Sum.inr x1,.ref y1),(Sum.inr x2,.ref y2),(Sum.inr x3,.ref y3),(Sum.inr x4,.ref y4),(Sum.inr x5,.ref y5)],l,⟨Z,Z,Z⟩,Z,λe he=>?_,λP=>?_,?_,?_,sy⟩
 ·have he:e=⟨h1,.str x1 t1,.ref y1⟩\/e=⟨h2,.str x2 t2,.ref y2⟩\/e=⟨h3,.str x3 t3,.ref y3⟩\/e=⟨h4,.str x4 t4,.ref y4⟩\/e=⟨h5,.str x5 t5,.ref y5⟩:=by simpa using he
  rcases he with rfl | rfl | rfl | rfl | rfl
  ·exact ⟨Sum.inr x1,Yg x1 t1,e1⟩
  ·exact ⟨Sum.inr x2,Yg x2 t2,e2⟩
  ·exact ⟨Sum.inr x3,Yg x3 t3,e3⟩
  ·exact ⟨Sum.inr x4,Yg x4 t4,e4⟩
  ·exact ⟨Sum.inr x5,Yg x5 t5,e5⟩
 ·exact .cons (Yg x1 t1) Z (.cons (Yg x2 t2) Z (.cons (Yg x3 t3) Z (.cons (Yg x4 t4) Z (.cons (Yg x5 t5) Z .nil))))
 ·have:([x1,x2,x3,x4,x5].map (Sum.inr:Str->Key)).Nodup:=by
   rw [List.nodup_iff_pairwise_ne,List.pairwise_map];exact (List.nodup_iff_pairwise_ne.mp ne).imp λh e=>h (by injection e)
  exact this
 ·exact .cons ⟨Z,Z⟩ (.cons ⟨Z,Z⟩ (.cons ⟨Z,Z⟩ (.cons ⟨Z,Z⟩ (.cons ⟨Z,Z⟩ .nil))))
end L2
namespace L2
open PySem PySem.Spec PyProof.Rows PySem.Builtin PySem.Builtin.Str
section
variable {X:Cx}
theorem Kx:∀ l:List (Str × Tok),Vals ((l.map (·.1)).map V.str) (strValues l)
 | []=>.nil
 | _ :: l=>.cons ⟨_,rfl⟩ (Kx l)
def Kz {x y:Str}:(Txt.split x y).length<=x.length + 2:=by
 unfold Txt.split;have e1:=StrLaws.occ_length_le x y 0 x.length (x.length + 1);split
 ·exact Nat.le_add_left 1 (x.length + 1)
 ·split
  ·exact Nat.le_add_left 1 (x.length + 1)
  ·rw [length_partsBetween]; lia
def Zit:V->List V->Hp->VK->Prop:=λo xs H Q=>∃ x y:Str,o=.str x/\xs=[.str y]/\(y.length == 0)=false/\x.length + 2<=sizeLine/\∀ p,H p=none->Q (.ref p) (upd H p (.lst ((Txt.split x y).map V.str)))
def Wz:MtR X "str.split" Zit:=by
 intro j0 s σ H o xs v us Q I rx rs h;obtain ⟨x,y,rfl,rfl,hy,hsz,q⟩:=h;obtain ⟨t,rfl⟩:=rx;obtain ⟨u,rfl,ru⟩:=X8 rs;obtain ⟨tu,rfl⟩:=ru;have hn:(partsBetween x (occurrences x y 0 x.length (x.length + 1)) y.length).length<=sizeLine:=by
  have e1:=StrLaws.occ_length_le x y 0 x.length (x.length + 1)
  rw [length_partsBetween]; lia
 have ki:∀ (l:List (Str × Tok)) (k:Nat),l.map (·.1)=Txt.split x y->EP X j0 σ Q (.ref s.heap.objs.size) { s with heap:=s.heap.push { cls:=.type "list",data:=.seq (strValues l).toArray },toks:=k }:=λl k e=>by
  refine ⟨.ref s.heap.objs.size,upd H s.heap.objs.size (.lst ((Txt.split x y).map V.str)),I.laid (λb u hb=>Ak _ hb) (An _) ?_,Z,q _ I.fresh⟩;refine ⟨?_,strValues l,0,?_,Ap _ Z⟩
  ·rw [Ab]; exact Nat.le_trans Kz hsz
  ·rw [<- e]; exact Kx l
 cases h1:(decide (x.length < y.length) || decide (strKind x < strKind y))
 ·cases hf:(occurrences x y 0 x.length (x.length + 1)).isEmpty
  ·refine call_meets F.slot_str_split (typeIs_str _ _ _) F.entry_str_split (F.args_str_split_2 _ _) (meets_str_split_sep x y t tu h1 hy hf (by lia) hn) ?_
   show wants _ _ _ { s with toks:=_,heap:=s.heap.push { cls:=.type "list",data:=.seq (strsFrom s.toks (partsBetween x (occurrences x y 0 x.length (x.length + 1)) y.length)).toArray } };rw [strsFrom_eq];exact ki (numbered s.toks _) _ ((numbered_texts _ _).trans ((if_neg (ne_true_of_eq_false h1)).trans (if_neg (ne_true_of_eq_false hf))).symm)
  ·exact call_meets F.slot_str_split (typeIs_str _ _ _) F.entry_str_split (F.args_str_split_2 _ _) (meets_str_split_not_found x y t tu h1 hy hf)
    (ki [(x,t)] s.toks ((if_neg (ne_true_of_eq_false h1)).trans (if_pos hf)).symm)
 ·exact call_meets F.slot_str_split (typeIs_str _ _ _) F.entry_str_split (F.args_str_split_2 _ _) (meets_str_split_cannot_occur x y t tu h1)
   (ki [(x,t)] s.toks (if_pos h1).symm)
def Zho:V->List V->Hp->VK->Prop:=λo xs H Q=>∃ x y:Str,o=.str x/\xs=[.str y]/\Q (.bl (Txt.startswith x y)) H
def Q5:MtR X "str.startswith" Zho:=by
 intro j0 s σ H o xs v us Q I rx rs h;obtain ⟨x,y,rfl,rfl,q⟩:=h;obtain ⟨t,rfl⟩:=rx;obtain ⟨u,rfl,ru⟩:=X8 rs;obtain ⟨tu,rfl⟩:=ru;exact SC.startswith ⟨.bl _,H,I,Z,q⟩
def Zfe:W9 X (.type "int") (λxs H Q=>∃ (x:Str) (n:Int),xs=[.str x]/\intText? x=some n/\x.length<=640/\Q (.int n) H):=by
 intro j0 s σ H xs us Q I r h;obtain ⟨x,n,rfl,hn,hl,q⟩:=h;obtain ⟨u,rfl,ru⟩:=X8 r;obtain ⟨t,rfl⟩:=ru;exact PySem.W.KIN.call_text hn hl ⟨.int _,H,I.tok _,⟨_,Z⟩,q⟩
end
def jnL (c:Nat):List (List Nat)->List Nat
 | []=>[]
 | [a]=>a
 | a :: b :: r=>a ++ c :: jnL c (b :: r)
theorem W3 (c:Nat):∀ l:List Str,(Str.join ⟨#[c]⟩ l).cps.toList=jnL c (l.map λx=>x.cps.toList)
 | []=>rfl
 | [x]=>rfl
 | x :: y :: r=>by
  have ih:=W3 c (y :: r);show (x ++ ⟨#[c]⟩ ++ Str.join ⟨#[c]⟩ (y :: r)).cps.toList=x.cps.toList ++ c :: jnL c ((y :: r).map λx=>x.cps.toList);rw [<- ih];have e:∀ a b:Str,(a ++ b).cps.toList=a.cps.toList ++ b.cps.toList:=λa b=>Array.toList_append;rw [e,e,List.append_assoc];rfl
theorem Za6 {c:Nat}:∀ {a a' r r':List Nat},c ∉ a->c ∉ a'->a ++ c :: r=a' ++ c :: r'->a=a'/\r=r'
 | [],[],_,_,_,_,e=>by injection e with _ e; exact ⟨Z,e⟩
 | [],x :: a',_,_,_,h',e=>by injection e with e _; exact absurd (List.mem_cons.mpr (.inl e)) h'
 | x :: a,[],_,_,h,_,e=>by injection e with e _; exact absurd (List.mem_cons.mpr (.inl e.symm)) h
 | x :: a,y :: a',_,_,h,h',e=>by
  injection e with e1 e2
  obtain ⟨e3,e4⟩:=Za6 (λz=>h (List.mem_cons_of_mem _ z)) (λz=>h' (List.mem_cons_of_mem _ z)) e2;exact ⟨by rw [e1,e3],e4⟩
theorem Zce {c:Nat}:∀ {l l':List (List Nat)},l≠[]->l'≠[]->(∀ p∈l,c ∉ p)->(∀ p∈l',c ∉ p)->jnL c l=jnL c l'->l=l'
 | [],_,h,_,_,_,_=>absurd rfl h
 | _,[],_,h,_,_,_=>absurd rfl h
 | [a],[a'],_,_,_,_,e=>by rw [show a=a' from e]
 | [a],a' :: b' :: r',_,_,h,_,e=>by
  have:c∈a:=by rw [show a=a' ++ c :: jnL c (b' :: r') from e]; exact List.mem_append.mpr (.inr List.mem_cons_self)
  exact absurd this (h a List.mem_cons_self)
 | a :: b :: r,[a'],_,_,_,h',e=>by
  have:c∈a':=by rw [<- show a ++ c :: jnL c (b :: r)=a' from e]; exact List.mem_append.mpr (.inr List.mem_cons_self)
  exact absurd this (h' a' List.mem_cons_self)
 | a :: b :: r,a' :: b' :: r',_,_,h,h',e=>by
  obtain ⟨e1,e2⟩:=Za6 (h a List.mem_cons_self) (h' a' List.mem_cons_self) (show a ++ c :: jnL c (b :: r)=a' ++ c :: jnL c (b' :: r') from e);have:=Zce (l:=b :: r) (l':=b' :: r') (λz=>nomatch z) (λz=>nomatch z) (λp hp=>h p (List.mem_cons_of_mem _ hp)) (λp hp=>h' p (List.mem_cons_of_mem _ hp)) e2;rw [e1,this]
def Zfk (x:Str) (c:Nat):Txt.split x ⟨#[c]⟩≠[]:=λe=>by
 have h:=StrLaws.join_split x ⟨#[c]⟩;rw [e] at h;have hx:x.length=0:=by rw [<- h]; rfl
 unfold Txt.split at e;rw [if_pos (by rw [hx]; rfl)] at e;cases e
def Fk {x:Str} {c:Nat} {l:List Str} (kc:l≠[]) (hf:∀ p∈l,c ∉ p.cps.toList) (hx:x.cps.toList=jnL c (l.map λx=>x.cps.toList)):Txt.split x ⟨#[c]⟩=l:=by
 have h1:jnL c ((Txt.split x ⟨#[c]⟩).map λx=>x.cps.toList)=jnL c (l.map λx=>x.cps.toList):=by rw [<- hx,<- W3,StrLaws.join_split]
 have h2:=Zce (λz=>Zfk x c (List.map_eq_nil_iff.mp z)) (λz=>kc (List.map_eq_nil_iff.mp z)) (λp hp=>by
  obtain ⟨y,hy,rfl⟩:=List.mem_map.mp hp
  exact StrLaws.split_free x c y hy) (λp hp=>by
  obtain ⟨y,hy,rfl⟩:=List.mem_map.mp hp
  exact hf y hy) h1
 have inj:∀ {l l':List Str},(l.map λx=>x.cps.toList)=(l'.map λx=>x.cps.toList)->l=l':=λ{l l'}=>by
  induction l generalizing l' with
  | nil=>intro e; cases l' with
   | nil=>rfl
   | cons y l'=>cases e
  | cons x l ih=>intro e; cases l' with
   | nil=>cases e
   | cons y l' =>
    injection e with e1 e2
    rw [ih e2,show x=y from Str.ext' e1]
 exact inj h2
end L2
namespace L2
open PySem PySem.Spec PyProof.Rows
def Zim (C:Addr) (sp:Sp) (j8:List V) (t:TA):TEX:=λσ H Q E=>t σ H λvs H1=>∀ x dx,H1 x=none->H1 dx=none->dx≠x ->
 sp (.ref x :: (vs ++ j8)) (upd (upd H1 dx (.own x)) x (.ins C dx [])) (λv H2=>v=.non/\Q (.ref x) H2) E
section
variable {X:Cx} {fr:Bool} {k:Nat} {f C:Addr} {fd:FuncData} {ps:List Str} {sp:Sp} {j8:List V} {ds:List Value} {x:Str} {p pos:Pos} {e:Expr} {es:List Expr} {t:TA}
def Zd9 {j0:List (Addr × Obj)} {σ:St} {H:Hp} {s:Shared} {E:XK} {us:List Value} {vs:List V} {Q:VK} (M:Mk X.K C f) (F:FnOk X.prog X.w X.K X.mg X.base (CXr X.prog X.w) k f fd ps sp) (hr:Room (k + 1) X.A) (hb:Xb X.K fd ps ds) (hd:Vals j8 ds)
  (hex:X.ex=[]) (I:Inv X j0 σ H s) (r:Vals vs us)
  (h:∀ x dx,H x=none->H dx=none->dx≠x->sp (.ref x :: (vs ++ j8)) (upd (upd H dx (.own x)) x (.ins C dx [])) (λv H2=>v=.non/\Q (.ref x) H2) E) :
  wpAny (model X.prog X.w) X.A (call (.ref C) us) (EP X j0 σ Q) (XS fr X j0 λcls σ' H'=>σ'=σ/\E cls none H') s:=by
 have hq:=h (s.heap.objs.size + 1) s.heap.objs.size (I.hok.fresh (Nat.le_succ _)) (I.hok.fresh (An _)) (As (Nat.lt_succ_self _));have I2:=Inv.made (C:=C) I;have r2:Vals (V.ref (s.heap.objs.size + 1) :: (vs ++ j8)) (Value.ref (s.heap.objs.size + 1) :: (us ++ ds)):=.cons rfl (r.append hd);have hl:(Value.ref (s.heap.objs.size + 1) :: us ++ ds).length=ps.length:=by
  have e:=r2.length
  rw [F.len _ _ _ _ hq] at e
  exact e.symm
 refine wpAny_call (Za1 (f:=f) I.kIn M.makes M.init (beq_iff_eq.mp M.fn) (codeAny_mono (F.run _ X.stack _ _ ⟨Value.ref (s.heap.objs.size + 1) :: us,[]⟩ (Value.ref (s.heap.objs.size + 1) :: (us ++ ds)) _ _ E (hr.make C us [])
  (I2.env0.make C us []) (hb _ (Value.ref (s.heap.objs.size + 1) :: us) I2.kIn hl) r2 hq) λr s' l7=>?_))
 cases r with
 | error e=>exact I2.cxr hex l7
 | ok fl =>
  cases fl with
  | ret u =>
   obtain ⟨v,H',I3,rv,ev,q3⟩:=I2.after l7;subst ev;exact ⟨rv,⟨V.ref (s.heap.objs.size + 1),H',I3,Z,q3⟩⟩
  | next=>exact False.elim l7
  | brk=>exact False.elim l7
  | cont=>exact False.elim l7
def Zaj (M:Mk X.K C f) (F:FnOk X.prog X.w X.K X.mg X.base (CXr X.prog X.w) k f fd ps sp) (hr:Room (k + 1) X.A) (hg:Gl X x) (hm:X.mg x=some (.ref C)) (hb:Xb X.K fd ps ds) (hd:Vals j8 ds)
  (ha:PA X (e :: es) t) (hex:X.ex=[]:=by rfl) (hx:X.xe=(λ_ _=>False):=by rfl) (lf:(x == ("__debug__":Str))=false:=by decide) (he:starEach (e :: es) X.env=(false,eval e X.env) :: starEach es X.env:=by rfl) (kz:(backTo pos (starEach es X.env)).any (·.1)=false:=by rfl) :
  PEX fr X (.Call (.Name x p) (e :: es) [] pos) (Zim C sp j8 t):=by
 intro j0 s σ H Q E I h;have h0:=ha pos j0 s σ H _ I h;rw [hx] at h0;refine wpAny_Call_Name_kw (Wl I hg hm ?_ lf);refine PySem.W.callWith_K (h₀:=X.base) I.ok.mod.kin M.kp (wpAny_mono h0 (λus s1 zz43=>?_) λ_ _ z=>z.elim) he kz;obtain ⟨vs,H1,I1,r,q⟩:=zz43;refine ⟨I1.kIn,?_⟩;exact Zd9 M F hr hb hd hex I1 r q
def Zjz (K:W.Frag) (ta:TE) (tv:TEX) (f:Str):TSX:=λD R σ H=>tv σ H (λy H1=>ta σ H1 λx H2=>∃ a C dx fs,x=.ref a/\H2 a=some (.ins C dx fs)/\Cls K C/\Yr K C f/\fs.length < 1000/\D.nx σ (upd H2 a (.ins C dx (putF f y fs)))) λcls _ H1=>R cls σ H1
def Zb8 {o value:Expr} {ta:TE} {tv:TEX} {f:Str} {km:Pos} (ha:PE X o ta) (hv:PEX fr X value tv) (hs:swapsWith value (some (.Attribute o f km)) pos.line X.env=pure false) (hx:X.xe=(λ_ _=>False):=by rfl) :
  PSX fr X (.Assign [.Attribute o f km] value pos) (Zjz X.K ta tv f):=by
 intro j0 s σ H D R I h;refine plainObj_wpAny_Assign_Attribute (wpAny_mono (hv j0 s σ H _ _ I h) (λu s1 ⟨y,H1,I1,ry,q⟩=>?_) ?_) hs
 ·have z:=ha j0 s1 σ H1 _ I1 q
  rw [hx] at z;refine wpAny_mono z (λov s2 zz44=>?_) λ_ _ y=>y.elim;obtain ⟨x,H2,I2,rx,a,C,dx,fs,ex,ea,c,n,l,q2⟩:=zz44;subst ex;obtain rfl:ov=Value.ref a:=rx;exact Od I2 ea c n l ry λs3 I3=>⟨σ,_,I3,q2⟩
 ·rintro ev s1 ⟨e,T,cls,a0,σ',H',g1,g2,g3,g4,g5,g7,rfl,g6⟩
  exact ⟨e,T,cls,a0,σ',H',g1,g2,g3,g4,g5,g7,g6⟩
end
def Ze6 {K:W.Frag} {a:Addr} {xs:List V} {g:TG} {tb:TSX} {R:Value->St->Hp->Prop} {D:Ends} {σ:St} {H:Hp} (Pv:Nat->St->Hp->Prop) (h0:Pv 0 σ H) (hl:∀ i σ H,i<=xs.length->Pv i σ H->SqL K H a xs)
  (hs:∀ i x σ H q,xs[i]?=some x->H q=none->Pv i σ H->g (.ref q) σ (upd H q (.tup [.int i,x])) λσ2 H2=>tb { D with nx:=Pv (i + 1),ct:=Pv (i + 1),bk:=D.nx } R σ2 H2) (hd:∀ σ H,Pv xs.length σ H->D.nx σ H) :
  ∃ W:Nat->Nat->St->Hp->Prop,(∃ m,W 0 m σ H)/\∀ i m σ H,W i m σ H ->
   ((Ite K a).stop i H/\D.nx σ H)\/((Ite K a).go i H/\∃ N:St->Hp->Prop,(∀ σ' H',N σ' H'->∃ m',m' < m/\W (i + 1) m' σ' H')/\∀ x H',(Ite K a).yld i H x H'->g x σ H' λσ2 H2=>tb { D with nx:=N,ct:=N,bk:=D.nx } R σ2 H2) :=
 Za7 (tb:=λD' σ' H'=>tb D' R σ' H') Pv h0 hl hs hd
end L2
namespace KT
open PySem L2
def aN (a:Nat):Nat:=(after a).toNat
def bN (a:Nat):Nat:=(Jw a).toNat
structure PC (M:List (Option Nat)) (f:Nat->Int):Prop where
 nn:∀ p,p < M.length->0<=f p
 rim:∀ p:Nat,M[p]?=some none->f p=0
 mate:∀ p q:Nat,M[p]?=some (some q)->f q=f p
 even:∀ p,p < M.length->(f p + f (aN p) + f (bN p)) % 2=0
 tri:∀ p,p < M.length->f p<=f (aN p) + f (bN p)
def mx (x y:Int):Int:=if y > x then y else x
def bh (f:Nat->Int) (a b:Nat):Int:=mx (f (aN a) + f (aN b)) (f (bN a) + f (bN b)) - f a
def fx (left:Bool) (a b:Nat) (f:Nat->Int) (z:Nat):Int:=if z=a\/z=b then bh f a b else f (mvN (!left) a b z)
section
variable {M:List (Option Nat)} {ns:List Int} {f:Nat->Int} {g:Int->Int}
def mu (M:List (Option Nat)) (p:Nat):Nat:=match (M[p]?).join with
 | some q=>q
 | none=>p
end
end KT
namespace KT
def putG (g:Int->Nat × Nat) (x:Int) (v:Nat × Nat):Int->Nat × Nat:=λy=>if y=x then v else g y
end KT
namespace KT
open PySem L2
section
variable {M:List (Option Nat)} {ns:List Int} {x y:Int} {a b:Nat}
def SwN (M:List (Option Nat)) (ns:List Int) (x:Int):Prop:=∃ p j:Nat,M[p]?=some (some j)/\ns[p]?=some x
structure SwK (M:List (Option Nat)) (ns:List Int) (ks:List Int):Prop where
 nd:ks.Nodup
 mem:∀ x,x∈ks ↔ SwN M ns x
def SwN.key (td:TD M ns) (h:SwN M ns x):x∈keys ns ns.length:=by
 obtain ⟨p,j,_,e⟩:=h;exact Wd.mpr ⟨p,(Aa e).1,e⟩
end
end KT
set_option genInjectivity false
set_option genSizeOf false
namespace KT
open PySem L2
def bmV:List Value:=[.type "ValueError",.type "Exception",.type "BaseException",.type "object"]
def FBV:ExcBaseFacts "ValueError" "ValueError.__new__" "ValueError.__init__" bmV:=PySem.F.excBase_ValueError
def Yp {α:Type} {f:α->V} {l:List α} {i:Nat} {y:V} (h:(l.map f)[i]?=some y):∃ q,l[i]?=some q/\y=f q:=by
 rw [Ah] at h
 cases e:l[i]? with
 | none=>rw [e] at h; cases h
 | some q=>rw [e] at h; cases h; exact ⟨q,Z,Z⟩
structure FT (K:W.Frag) (mg:Str->Option Value) (x:Str) (st:Stmt) (ps:List Str) (f:Addr) (d:FuncData):Prop where
 F:Fun K x x st f d
 b:Xb K d ps []
 g:mg x=some (.ref f)
structure FM (K:W.Frag) (C:Addr) (x q:Str) (st:Stmt) (ps:List Str) (f:Addr) (d:FuncData):Prop where
 F:Fun K x q st f d
 b:Xb K d ps []
 m:Meth K C x f
section
variable {X:Cx} {fr:Bool} {j k:Nat} {f:Addr} {fd:FuncData} {ps:List Str} {sp:Sp} {x:Str} {st:Stmt} {p pos:Pos} {e:Expr} {es:List Expr} {t:TA}
def pcT (F:FnOk X.prog X.w X.K X.mg X.base (CXr X.prog X.w) k f fd ps sp) (hr:Room j X.A) (q:FT X.K X.mg x st ps f fd) (ha:PA X (e :: es) t) (hk:k<=j:=by decide) (hg:Gl X x:=by rfl) (lf:(x == ("__debug__":Str))=false:=by decide) (he:starEach (e :: es) X.env=(false,eval e X.env) :: starEach es X.env:=by rfl) (kz:(backTo pos (starEach es X.env)).any (·.1)=false:=by rfl) :
  PE X (.Call (.Name x p) (e :: es) [] pos) (Zgv sp [] E0 t):=Zhx F (hr.mono hk) hg q.g q.F.kp q.b .nil X9 ha lf he kz
def pxT (F:FnOk X.prog X.w X.K X.mg X.base (CXr X.prog X.w) k f fd ps sp) (hr:Room j X.A) (q:FT X.K X.mg x st ps f fd) (ha:PA X (e :: es) t) (hk:k<=j:=by decide) (hg:Gl X x:=by rfl) (hex:X.ex=[]:=by rfl) (hx:X.xe=(λ_ _=>False):=by rfl) (lf:(x == ("__debug__":Str))=false:=by decide) (he:starEach (e :: es) X.env=(false,eval e X.env) :: starEach es X.env:=by rfl) (kz:(backTo pos (starEach es X.env)).any (·.1)=false:=by rfl) :
  PEX fr X (.Call (.Name x p) (e :: es) [] pos) (Oa sp [] t):=Zf0 F (hr.mono hk) hg q.g q.F.kp q.b .nil ha hex hx lf he kz
end
def BA (q:Str) (st:Stmt) (ps:List Str):Prop:=∀ (x:Str) (kV ka pm:Value) (an:Option Addr) (j5 ct:Value) (us:List Value),us.length=ps.length->bindArgs (PySem.W.fnOf x q (Y4 st) (Yd st) (Zf st) .none kV ka pm an j5 ct) ⟨us,[]⟩=pure (ps.zip us)
def Zcd {α:Type} {us:List α} (e:us.length=2):∃ a b,us=[a,b]:=by
 obtain ⟨a,us,rfl⟩:=List.exists_cons_of_length_eq_add_one e;obtain ⟨b,rfl⟩:=List.length_eq_one_iff.mp (Nat.succ.inj e);exact ⟨a,b,Z⟩
def Ge {α:Type} {us:List α} (e:us.length=3):∃ a b c,us=[a,b,c]:=by
 obtain ⟨a,us,rfl⟩:=List.exists_cons_of_length_eq_add_one e;obtain ⟨b,c,rfl⟩:=Zcd (Nat.succ.inj e);exact ⟨a,b,c,Z⟩
def ba1 {ps:List Str} (h:∀ (x:Str) (kV ka pm:Value) (an:Option Addr) (j5 ct:Value) (a:Value),bindArgs (PySem.W.fnOf x q (Y4 st) (Yd st) (Zf st) .none kV ka pm an j5 ct) ⟨[a],[]⟩=pure (ps.zip [a])) (hl:ps.length=1):BA q st ps:=λx kV ka pm an j5 ct us e=>by
 rw [hl] at e;obtain ⟨a,rfl⟩:=List.length_eq_one_iff.mp e;exact h x kV ka pm an j5 ct a
def ba2 {ps:List Str} (h:∀ (x:Str) (kV ka pm:Value) (an:Option Addr) (j5 ct:Value) (a b:Value),bindArgs (PySem.W.fnOf x q (Y4 st) (Yd st) (Zf st) .none kV ka pm an j5 ct) ⟨[a,b],[]⟩=pure (ps.zip [a,b])) (hl:ps.length=2):BA q st ps:=λx kV ka pm an j5 ct us e=>by
 rw [hl] at e;obtain ⟨a,b,rfl⟩:=Zcd e;exact h x kV ka pm an j5 ct a b
def ba3 {ps:List Str} (h:∀ (x:Str) (kV ka pm:Value) (an:Option Addr) (j5 ct:Value) (a b c:Value),bindArgs (PySem.W.fnOf x q (Y4 st) (Yd st) (Zf st) .none kV ka pm an j5 ct) ⟨[a,b,c],[]⟩=pure (ps.zip [a,b,c])) (hl:ps.length=3):BA q st ps:=λx kV ka pm an j5 ct us e=>by
 rw [hl] at e;obtain ⟨a,b,c,rfl⟩:=Ge e;exact h x kV ka pm an j5 ct a b c
def ba4 {q:Str} {st:Stmt} {ps:List Str} (h:∀ (x:Str) (kV ka pm:Value) (an:Option Addr) (j5 ct:Value) (a b c d:Value),bindArgs (PySem.W.fnOf x q (Y4 st) (Yd st) (Zf st) .none kV ka pm an j5 ct) ⟨[a,b,c,d],[]⟩=pure (ps.zip [a,b,c,d])) (hl:ps.length=4):BA q st ps:=λx kV ka pm an j5 ct us e=>by
 rw [hl] at e;obtain ⟨a,us,rfl⟩:=List.exists_cons_of_length_eq_add_one e;obtain ⟨b,c,d,rfl⟩:=Ge (Nat.succ.inj e);exact h x kV ka pm an j5 ct a b c d
def ba5 {q:Str} {st:Stmt} {ps:List Str} (h:∀ (x:Str) (kV ka pm:Value) (an:Option Addr) (j5 ct:Value) (a b c d e:Value),bindArgs (PySem.W.fnOf x q (Y4 st) (Yd st) (Zf st) .none kV ka pm an j5 ct) ⟨[a,b,c,d,e],[]⟩=pure (ps.zip [a,b,c,d,e])) (hl:ps.length=5):BA q st ps:=λx kV ka pm an j5 ct us e=>by
 rw [hl] at e
 match us,e with
 | [a,b,c,d,e],_=>exact h x kV ka pm an j5 ct a b c d e
section
variable {K:W.Frag} {h:Heap} {mg:Str->Option Value} {C:Addr} {x q:Str} {st:Stmt} {ps:List Str} {f:Addr} {oc:Value} {od an:Option Addr} {sl:Array (Option Value)} {kV ka pm cd ct:Value}
def FT.of (X:K.In h) (G:h.Ns mainGlobals mg) (B:BA x st ps) (a:PySem.W.nsIn K mainGlobals x=some (some (.ref f))) (l:K.lookup f=some ⟨oc,od,.func (PySem.W.fnOf x x (Y4 st) (Yd st) (Zf st) .none kV ka pm an cd ct),sl⟩)
  (c:PySem.W.codeIn K cd x=true) (k:PySem.W.keepIn K (.ref f)=true):FT K mg x st ps f (PySem.W.fnOf x x (Y4 st) (Yd st) (Zf st) .none kV ka pm an cd ct):=⟨O8 l c k,(O8 l c k).binds (B x),PySem.W.mg_of X G a⟩
def FM.of (B:BA q st ps) (a:PySem.W.findIn K (.ref C) x=some (some (.ref f))) (i:PySem.W.isFn K (.ref f)=true) (l:K.lookup f=some ⟨oc,od,.func (PySem.W.fnOf x q (Y4 st) (Yd st) (Zf st) .none kV ka pm an cd ct),sl⟩)
  (c:PySem.W.codeIn K cd q=true) (k:PySem.W.keepIn K (.ref f)=true):FM K C x q st ps f (PySem.W.fnOf x q (Y4 st) (Yd st) (Zf st) .none kV ka pm an cd ct):=⟨O8 l c k,(O8 l c k).binds (B x),⟨a,i,k⟩⟩
end
def top (i:Nat):Stmt:=PySem.Challenge.pw_tentloops_k70_books_read.main.body.getD i (.Pass ⟨0,0,0,0⟩)
abbrev Zhm:Stmt:=top 24
abbrev Zft:Stmt:=top 25
abbrev On:Stmt:=top 26
abbrev Of:Stmt:=top 27
abbrev Oh:Stmt:=top 28
abbrev Um:Stmt:=Z5 (top 29) 0
abbrev Zbp:Stmt:=Z5 (top 29) 1
abbrev Vh:Stmt:=Z5 (top 29) 3
abbrev Jq:Stmt:=Z5 (top 29) 5
abbrev Jf:Stmt:=Z5 (top 29) 6
abbrev Kl:Stmt:=Z5 (top 29) 7
abbrev Q3:Stmt:=Z5 (top 29) 8
abbrev Ul:Stmt:=Z5 (top 29) 9
abbrev Qd:Stmt:=Z5 (top 29) 10
abbrev Zc8:Stmt:=top 32
abbrev Zbm:Stmt:=top 33
abbrev Zfq:Stmt:=top 34
abbrev Zfr:Stmt:=top 35
abbrev Zbn:Stmt:=top 36
abbrev Uk:Stmt:=top 38
abbrev K7:Stmt:=top 39
abbrev Zb4:Stmt:=top 40
abbrev Q1:Stmt:=top 41
abbrev Fz:Stmt:=top 42
abbrev Zhl:Stmt:=top 44
abbrev Kk:Stmt:=top 45
abbrev G1:Stmt:=top 46
abbrev Og:Stmt:=top 47
abbrev Om:Stmt:=top 48
abbrev Vg:Stmt:=top 50
abbrev Zfs:Stmt:=top 51
abbrev Uv:Stmt:=top 53
abbrev Oj:Stmt:=top 54
abbrev Zc9:Stmt:=top 55
abbrev Vf:Stmt:=top 56
abbrev Q2:Stmt:=top 57
abbrev Oi:Stmt:=top 58
abbrev Zd6:Stmt:=top 59
abbrev Zbl:Stmt:=top 60
abbrev K4:Stmt:=top 68
abbrev K6:Stmt:=top 69
abbrev Uj:Stmt:=top 70
abbrev Zd8:Stmt:=top 71
abbrev Zc7:Stmt:=top 72
abbrev G2:Stmt:=top 73
abbrev Vi:Stmt:=Z5 (top 77) 0
abbrev Zbk:Stmt:=top 78
abbrev Ki:Stmt:=top 79
abbrev J1:Stmt:=top 80
abbrev G0:Stmt:=top 81
abbrev F0:Stmt:=top 82
abbrev Kj:Stmt:=top 83
abbrev Up:Stmt:=Z5 (top 84) 0
abbrev Zad:Stmt:=Z5 (top 84) 1
abbrev Op:Stmt:=Z5 (top 84) 2
abbrev Zbr:Stmt:=Z5 (top 84) 3
abbrev Uo:Stmt:=Z5 (top 84) 4
abbrev Zab:Stmt:=Z5 (top 84) 5
abbrev Zbq:Stmt:=Z5 (top 84) 6
abbrev Zbs:Stmt:=Z5 (top 84) 7
abbrev Zae:Stmt:=Z5 (top 84) 8
abbrev Vj:Stmt:=Z5 (top 84) 9
abbrev Zac:Stmt:=Z5 (top 84) 12
abbrev Oq:Stmt:=Z5 (top 84) 13
abbrev G3:Stmt:=Z5 (top 84) 14
abbrev Km:Stmt:=Z5 (top 84) 17
abbrev Uw:Stmt:=Z5 (top 84) 18
abbrev Uh:Stmt:=top 87
abbrev K3:Stmt:=top 88
abbrev Ug:Stmt:=top 89
abbrev Uu:Stmt:=top 90
abbrev Zbo:Stmt:=top 91
abbrev F1:Stmt:=top 92
abbrev Zd7:Stmt:=top 93
abbrev K5:Stmt:=top 94
abbrev Zc6:Stmt:=top 95
abbrev K2:Stmt:=top 96
abbrev K9:Stmt:=top 98
abbrev K8:Stmt:=top 99
abbrev Oo:Stmt:=top 100
abbrev Jb:Stmt:=top 101
abbrev Zd5:Stmt:=top 102
abbrev Zaa:Stmt:=top 104
abbrev Ui:Stmt:=top 105
abbrev F8:Stmt:=top 106
abbrev F9:Stmt:=top 107
abbrev F7:Stmt:=top 108
abbrev F6:Stmt:=top 109
abbrev Ol:Stmt:=top 110
abbrev Zgw:Stmt:=top 111
structure Adr where
 (aa ak ae iK hU dr bW dv aQ fk b9 a8 aS dw bP cJ bz gj fo hV hW fq cK eH gx bQ ft iL dy d9 c9 db bX hZ cw dc gk cc bR de gG fu eI eJ cL gH gl ee bf fw dz br eg eZ dA aF e7 dB fz cM e8 fA fB e9 ce fb df eu dC cx cN eK cO cy fC bA cz a9 bY ba aI eO dD aK ie fD cP fE fF fG fH dE iZ bt ag ig bJ cf i4 fI gy ai cg dF ao ac ap fJ eP gz:Addr)
 (iM ii dG bZ dH bB fK ci bb aT dJ bS cQ bC gm fL ij ik fM cR eQ gA bT fN iN dL ez dg dh b0 il cA di gn cj bU dj gI fO eR eS cS gJ gq eA ck fP dM bu eB fc dO aU fg dP fQ cT fh fR fS fi cm fj dk eE dQ cB cU eT cV cC fU fV gK eU gr eV aJ eW dR aL im fW cW fX fY fZ f6 dS ip:FuncData)
 (dl dm gL dU dW je cn eF dn:Tok)
structure Txt (w:World) (K:W.Frag) (mg:Str->Option Value) (t:Adr):Prop where
 gB:mg "Tent"=some (.ref t.aa)
 af:Cls K t.aa
 aE:Yr K t.aa "cloths"
 al:Yr K t.aa "names_at"
 aA:Yr K t.aa "spots"
 cp:Yr K t.aa "mates"
 f7:mg "Scene"=some (.ref t.ak)
 aB:Cls K t.ak
 cq:Yr K t.ak "tent"
 aH:Yr K t.ak "threads"
 aW:Yr K t.ak "pools"
 dX:Yr K t.ak "worths"
 iO:mg "Hall"=some (.ref t.ae)
 au:Cls K t.ae
 bg:Yr K t.ae "began"
 bi:Yr K t.ae "scene"
 bv:Yr K t.ae "standing"
 eG:Yr K t.ae "undone"
 jx:FT K mg "after" Zhm ["place"] t.iK t.iM
 jp:FT K mg "before" Zft ["place"] t.hU t.ii
 aM:FT K mg "cloth_of" On ["place"] t.dr t.dG
 bj:FT K mg "spots_of" Of ["names_at"] t.bW t.bZ
 b4:FT K mg "mates_of" Oh ["spots","count"] t.dv t.dH
 aV:FM K t.aa "__init__" "Tent.__init__" Um ["self","rows"] t.aQ t.bB
 i5:FM K t.aa "rows" "Tent.rows" Zbp ["self"] t.fk t.fK
 bn:FM K t.aa "seams" "Tent.seams" Vh ["self"] t.b9 t.ci
 aq:FM K t.aa "has_place" "Tent.has_place" Jq ["self","place"] t.a8 t.bb
 aC:FM K t.aa "look_place" "Tent.look_place" Jf ["self","place"] t.aS t.aT
 iq:FM K t.aa "seam_at" "Tent.seam_at" Kl ["self","place"] t.dw t.dJ
 aY:FM K t.aa "places" "Tent.places" Q3 ["self","seam"] t.bP t.bS
 aG:FM K t.aa "mate" "Tent.mate" Ul ["self","place"] t.cJ t.cQ
 aO:FM K t.aa "sort_of" "Tent.sort_of" Qd ["self","seam"] t.bz t.bC
 jf:FT K mg "look_way" Zc8 ["way"] t.gj t.gm
 i6:FT K mg "look_free" Zbm ["tent","seam"] t.fo t.fL
 jq:FT K mg "square" Zfq ["tent","seam"] t.hV t.ij
 jr:FT K mg "shifts" Zfr ["tent","seam","way"] t.hW t.ik
 i7:FT K mg "exchanged" Zbn ["tent","seam","way"] t.fq t.fM
 cX:FT K mg "crossable" Uk ["tent","place"] t.cK t.cR
 eX:FT K mg "follows" K7 ["tent","ahead","place"] t.eH t.eQ
 gC:FT K mg "plain" Zb4 ["tent","word"] t.gx t.gA
 bV:FT K mg "look_thread" Q1 ["tent","word"] t.bQ t.bT
 gc:FT K mg "turned" Fz ["word","by"] t.ft t.fN
 jy:FT K mg "tally" Zhl ["tent","word"] t.iL t.iN
 ir:FT K mg "look_numbers" Kk ["tent","counts"] t.dy t.dL
 iE:FT K mg "look_counts" G1 ["tent","counts"] t.d9 t.ez
 gX:FT K mg "number_behind" Og ["tent","counts","seam"] t.c9 t.dg
 gY:FT K mg "counts_behind" Om ["tent","counts","seam"] t.db t.dh
 gs:FT K mg "crossing_between" Vg ["own","entry","leaving"] t.bX t.b0
 js:FT K mg "pulled" Zfs ["tent","seam","way","word"] t.hZ t.il
 gM:FT K mg "common_measure" Uv ["one","other"] t.cw t.cA
 gZ:FT K mg "look_fraction" Oj ["top","bottom"] t.dc t.di
 jg:FT K mg "fraction" Zc9 ["top","bottom"] t.gk t.gn
 cr:FT K mg "sewn_seams" Vf ["tent"] t.cc t.cj
 aZ:FT K mg "even_worths" Q2 ["tent"] t.bR t.bU
 g8:FT K mg "lowest_worths" Oi ["tent","worths"] t.de t.dj
 jl:FT K mg "product" Zd6 ["one","other"] t.gG t.gI
 i8:FT K mg "stretched" Zbl ["tent","worths","seam"] t.fu t.fO
 cD:FT K mg "made_of" K4 ["text","signs"] t.eI t.eR
 cE:FT K mg "is_name" K6 ["text"] t.eJ t.eS
 cY:FT K mg "is_number" Uj ["text"] t.cL t.cS
 jm:FT K mg "figures" Zd8 ["number"] t.gH t.gJ
 jh:FT K mg "row_text" Zc7 ["words"] t.gl t.gq
 iF:FT K mg "counts_text" G2 ["counts"] t.ee t.eA
 bo:FM K t.ak "__init__" "Scene.__init__" Vi ["self","tent","threads","pools","worths"] t.bf t.ck
 i9:FT K mg "with_item" Zbk ["table","name","value"] t.fw t.fP
 iu:FT K mg "without_item" Ki ["table","name"] t.dz t.dM
 bw:FT K mg "look_new_name" J1 ["scene","name"] t.br t.bu
 iG:FT K mg "look_length" G0 ["word"] t.eg t.eB
 iP:FT K mg "look_parts" F0 ["parts"] t.eZ t.fc
 iw:FT K mg "turned_scene" Kj ["scene","seam","way"] t.dA t.dO
 bD:FM K t.ae "__init__" "Hall.__init__" Up ["self","rows"] t.aF t.aU
 iQ:FM K t.ae "enter" "Hall.enter" Zad ["self","text","scene"] t.e7 t.fg
 b5:FM K t.ae "lay" "Hall.lay" Op ["self","name","word"] t.dB t.dP
 cZ:FM K t.ae "pour" "Hall.pour" Zbr ["self","name","counts"] t.fz t.fQ
 bE:FM K t.ae "lift" "Hall.lift" Uo ["self","name"] t.cM t.cT
 cu:FM K t.ae "weigh" "Hall.weigh" Zab ["self","seam","top","bottom"] t.e8 t.fh
 c0:FM K t.ae "turn" "Hall.turn" Zbq ["self","seam","way"] t.fA t.fR
 ja:FM K t.ae "back" "Hall.back" Zbs ["self"] t.fB t.fS
 iR:FM K t.ae "again" "Hall.again" Zae ["self"] t.e9 t.fi
 bp:FM K t.ae "deeds" "Hall.deeds" Vj ["self"] t.ce t.cm
 iS:FM K t.ae "names" "Hall.names" Zac ["self"] t.fb t.fj
 g9:FM K t.ae "families" "Hall.families" Oq ["self"] t.df t.dk
 iH:FM K t.ae "thread" "Hall.thread" G3 ["self","name"] t.eu t.eE
 ix:FM K t.ae "numbers" "Hall.numbers" Km ["self"] t.dC t.dQ
 gN:FM K t.ae "fractions" "Hall.fractions" Uw ["self"] t.cx t.cB
 ah:FT K mg "look_form" Uh ["right"] t.cN t.cU
 cF:FT K mg "name_in" K3 ["word"] t.eK t.eT
 av:FT K mg "number_in" Ug ["word"] t.cO t.cV
 gO:FT K mg "two_numbers_in" Uu ["word","sign"] t.cy t.cC
 jb:FT K mg "counts_in" Zbo ["words"] t.fC t.fU
 dY:FT K mg "lay_in" F1 ["words"] t.bA t.fV
 jn:FT K mg "pour_in" Zd7 ["words"] t.cz t.gK
 cG:FT K mg "lift_in" K5 ["words"] t.a9 t.eU
 ji:FT K mg "weigh_in" Zc6 ["words"] t.bY t.gr
 cH:FT K mg "turn_in" K2 ["words"] t.ba t.eV
 aD:FT K mg "deed_in" K9 ["text"] t.aI t.aJ
 eY:FT K mg "do_deed" K8 ["hall","deed"] t.eO t.eW
 bq:FT K mg "cloth_in" Oo ["row"] t.dD t.dR
 aP:FT K mg "cloth_rows_ahead" Jb ["rows"] t.aK t.aL
 iy:FT K mg "read" Zd5 ["text"] t.ie t.im
 bc:FT K mg "_law_cell" Zaa ["_law_script","_law_at"] t.fD t.fW
 bF:FT K mg "_law_numbers" Ui ["_law_cell_here","_law_many"] t.cP t.cW
 gd:FT K mg "_law_sewn" F8 ["_law_nums","_law_many","_law_share"] t.fE t.fX
 gf:FT K mg "_law_rows" F9 ["_law_mates","_law_start","_law_step"] t.fF t.fY
 gg:FT K mg "_law_tent" F7 ["_law_script"] t.fG t.fZ
 gh:FT K mg "_law_told" F6 ["_law_text"] t.fH t.f6
 dZ:FT K mg "_law_spoilt" Ol ["_law_rows_here","_law_pick"] t.dE t.dS
 jc:FT K mg "law" Zgw ["_law_script"] t.iZ t.ip
 gD:Mk K t.aa t.aQ
 gi:Mk K t.ak t.bf
 iT:Mk K t.ae t.aF
 bx:mg "GREATEST_NAME"=some (.int 9999 t.dl)
 dq:mg "SMALL_LETTERS"=some (.str (Str.ofString "abcdefghijklmnopqrstuvwxyz") t.dm)
 gP:mg "FIGURES"=some (.str (Str.ofString "0123456789") t.gL)
 d3:mg "LONGEST_NAME"=some (.int 8 t.dU)
 d6:mg "MOST_FIGURES"=some (.int 61 t.dW)
 jA:mg "PART"=some (.int 1000000000000000000000000000000000000000000000000000000000000 t.je)
 gE:mg "WRITTEN_AT_ONCE"=some (.int 60 t.cn)
 iI:mg "MOST_PLACES"=some (.int 400 t.eF)
 hG:mg "GREATEST_PART"=some (.int 1000000000000000000000000000000000000000000000000000000000000 t.dn)
 gQ:mg "CONTRARY_WAYS"=some (.ref t.bt)
 gR:J8 w K t.bt [(Sum.inr "left",.str "right"),(Sum.inr "right",.str "left")]
 aw:mg "READERS"=some (.ref t.ag)
 az:J8 w K t.ag [(Sum.inr "lay",.ref t.bA),(Sum.inr "pour",.ref t.cz),(Sum.inr "lift",.ref t.a9),(Sum.inr "weigh",.ref t.bY),(Sum.inr "turn",.ref t.ba)]
 iU:mg "WAYS"=some (.ref t.ig)
 bl:∀ (s:Shared) (u:Value),BindsTo s t.ip ⟨[u],[]⟩ [("_law_script",u)]
 iz:mg "all"=none
 jD:mg "any"=none
 jB:mg "dict"=none
 c6:mg "enumerate"=none
 jt:mg "int"=none
 iV:mg "isinstance"=none
 aj:mg "len"=none
 iA:mg "list"=none
 jE:mg "max"=none
 bK:mg "range"=none
 jj:mg "reversed"=none
 jF:mg "set"=none
 iB:mg "sorted"=none
 jG:mg "str"=none
 jH:mg "sum"=none
 gF:mg "tuple"=none
 ju:mg "zip"=none
 gt:mg "NoPlace"=some (.ref t.bJ)
 gS:ExcK K t.bJ bmV "ValueError.__new__"
 gU:mg "NoSeam"=some (.ref t.cf)
 iC:ExcK K t.cf bmV "ValueError.__new__"
 jC:mg "Rim"=some (.ref t.i4)
 jI:ExcK K t.i4 bmV "ValueError.__new__"
 jo:mg "Locked"=some (.ref t.fI)
 jv:ExcK K t.fI bmV "ValueError.__new__"
 jw:mg "NoWay"=some (.ref t.gy)
 jz:ExcK K t.gy bmV "ValueError.__new__"
 c7:mg "NoThread"=some (.ref t.ai)
 gu:ExcK K t.ai bmV "ValueError.__new__"
 iJ:mg "NoFraction"=some (.ref t.cg)
 iW:ExcK K t.cg bmV "ValueError.__new__"
 jd:mg "NoWorths"=some (.ref t.dF)
 jk:ExcK K t.dF bmV "ValueError.__new__"
 bL:mg "NoTent"=some (.ref t.ao)
 d7:ExcK K t.ao bmV "ValueError.__new__"
 c8:mg "BadOrder"=some (.ref t.ac)
 gv:ExcK K t.ac bmV "ValueError.__new__"
 d8:mg "Unknown"=some (.ref t.ap)
 gV:ExcK K t.ap bmV "ValueError.__new__"
 iX:mg "TentError"=some (.ref t.fJ)
 gw:mg "BadName"=some (.ref t.eP)
 gW:ExcK K t.eP bmV "ValueError.__new__"
 iD:mg "Taken"=some (.ref t.gz)
 iY:ExcK K t.gz bmV "ValueError.__new__"
 bG:PySem.W.exmOne K (.ref t.ac) (.ref t.ac)=some true
 cI:PySem.W.exmOne K (.ref t.ao) (.ref t.ao)=some true
 bH:PySem.W.exmOne K (.ref t.ai) (.ref t.ai)=some true
 b6:PySem.W.exmOne K (.ref t.ap) (.ref t.ap)=some true
 b7:PySem.W.exmOne K (.ref t.ao) (.ref t.ac)=some false
 bI:PySem.W.exmOne K (.ref t.ai) (.ref t.ac)=some false
 b8:PySem.W.exmOne K (.ref t.ai) (.ref t.ao)=some false
 bM:PySem.W.exmOne K (.ref t.ap) (.ref t.ac)=some false
 cv:PySem.W.exmOne K (.ref t.ap) (.ref t.ao)=some false
 bO:PySem.W.exmOne K (.ref t.ap) (.ref t.ai)=some false
def Same.add (s:Same H H1) (hp:H p=none):Same H (upd H1 p o):=λb u e=>by rw [Ze (Zh e hp)]; exact s b u e
def Same.new {H:Hp} {p:Addr} {o:HO} (hp:H p=none):Same H (upd H p o):=Same.add (Same.refl H) hp
def Z8 (ow:St->Hp->Prop) (ht:∀ nx:St->Hp->Prop,(∀ σ H,ow σ H->nx σ H)->t { D with nx:=nx } σ H) (hu:∀ σ H,ow σ H->u D σ H):tSeq t u D σ H:=ht (u D) hu
def Yb (ht:∀ nx:St->Hp->Prop,(∀ σ H,u D σ H->nx σ H)->t { D with nx:=nx } σ H):tSeq t u D σ H:=ht (u D) λ_ _ h=>h
def Za0 (xs:List Int) (y:Int):xs.map V.int ++ [V.int y]=(xs ++ [y]).map V.int:=by simp
def getI {ns:List Int} (h:n < ns.length):(ns.map V.int)[n]?=some (V.int (ns.getD n 0)):=by
 rw [Ah,Ac h,Ad,Ac h];rfl
def cell (ns:List Int) (n:Int):Int:=if n < ns.length then ns.getD n.toNat 0 else if ns.length=0 then 31 * n + 7 else ns.getD (n % ns.length).toNat 0 % 1000003 + 101 * n
def Zhj (K:W.Frag):Sp:=λvs H Q _=>∃ (a:Addr) (ns:List Int) (n:Int),vs=[.ref a,.int n]/\SqL K H a (ns.map V.int)/\ns.length<=63/\0<=n/\n < 1000000/\Q (.int (cell ns n)) H
def Zct:Sp:=λvs H Q _=>∃ (c:Int) (n:Nat),vs=[.int c,.int n]/\n<=60/\∀ (p:Addr) (xs:List Int) (H':Hp),Same H H'->H p=none->H' p=some (.lst (xs.map V.int))->xs.length=n->(∀ x∈xs,0<=x/\x < 1009)->Q (.ref p) H'
section
variable {P:Program} {w:World} {K:W.Frag} {mg:Str->Option Value} {base:Heap} {t:Adr}
def Zd4:FnScope ["_law_script","_law_at"] ["_law_script","_law_at"] (Zf Zaa):=Am
def Je (T:Txt w K mg t):FnOk P w K mg base (CXr P w) 1 t.fD t.fW ["_law_script","_law_at"] (Zhj K):=by
 refine T.bc.F.aR Zd4 (λ_ _ _ _ H vs Q E hr h=>?_)
 ·obtain ⟨a,ns,n,rfl,hS,hl,h0,h1,k⟩:=h
  refine ⟨_,(Zg (Yt (Zt J3 (pv 1) (Zp Zk (by rfl) T.aj PySem.boot_len (Za (pv 0) Zc)) (Zr _)) (Zi (Zw (Zn Zo (pv 0) (pv 1) (λ_ _=>rfl)))) Yc)
   (Zg (Yt (Zt Yv (Zp Zk (by rfl) T.aj PySem.boot_len (Za (pv 0) Zc)) Zd (Zr _)) (Zi (Zw (Zj Y9 (Zj Xl Zd (pv 1)) Zd))) Yc)
   (Zi (Zw (Zj Y9 (Zj Z1 (Zn Zo (pv 0) (Zj Z1 (pv 1) (Zp Zk (by rfl) T.aj PySem.boot_len (Za (pv 0) Zc))) (λ_ _=>rfl)) Zd) (Zj Xl Zd (pv 1))))))),?_⟩;have el:((ns.map V.int).length:Int)=ns.length:=by simp
  refine ⟨_,Z,_,Z,a,_,Z,.inl hS,_,_,Z,Z,_,Z,?_⟩;rw [el];refine ite2 (λh=>?_) (λh=>?_)
  ·have h:n < ns.length:=by simpa using h
   have e:cell ns n=ns.getD n.toNat 0:=if_pos h;have en:n=(n.toNat:Int):=by lia
   have ei:atI (ns.map V.int) n=some (V.int (ns.getD n.toNat 0)):=by rw [en]; exact X6 (getI (n:=n.toNat) (by lia))
   rw [e] at k;exact ⟨_,Z,_,Z,a,_,_,_,Z,Z,hS,ei,k⟩
  ·have h:¬ n < ns.length:=by simpa using h
   have e:cell ns n=if ns.length=0 then 31 * n + 7 else ns.getD (n % ns.length).toNat 0 % 1000003 + 101 * n:=if_neg h
   refine ⟨_,Z,a,_,Z,.inl hS,Z,_,Z,?_⟩;rw [el];refine ite2 (λg=>?_) (λg=>?_)
   ·have g:ns.length=0:=by simpa using g
    refine ⟨_,Z,_,_,Z,Z,.inl ⟨by decide,by decide⟩,_,_,Z,Z,?_⟩;rw [if_pos g] at e;rw [e] at k; exact k
   ·have g:¬ ns.length=0:=by simpa using g
    have gp:(0:Int) < ns.length:=by lia
    rw [if_neg g] at e;have m0:=Int.emod_nonneg n (show (ns.length:Int)≠0 by lia);have m1:=Int.emod_lt_of_pos n gp;refine ⟨_,Z,_,Z,_,Z,a,_,Z,.inl hS,_,_,Z,Z,(by rw [el]; exact gp),a,_,_,_,Z,Z,hS,(?_:atI _ _=some (V.int (ns.getD (n % ns.length).toNat 0))),_,_,Z,Z,(by show (0:Int) < 1000003; decide),_,rfl,_,_,rfl,rfl,.inl ⟨by decide,by decide⟩,_,_,rfl,rfl,?_⟩
    ·rw [el]
     have en:n % (ns.length:Int)=((n % (ns.length:Int)).toNat:Int):=by lia
     rw [en];exact X6 (getI (by lia))
    ·rw [e] at k; exact k
def Xq:FnScope ["_law_cell_here","_law_many","_law_row","_law_rest","_law_seed"] ["_law_cell_here","_law_many"] (Zf Ui):=Am
def Vu (T:Txt w K mg t):FnOk P w K mg base (CXr P w) 1 t.cP t.cW ["_law_cell_here","_law_many"] Zct:=by
 refine T.bF.F.aR Xq (λ_ _ _ _ H vs Q E hr h=>?_)
 ·obtain ⟨c,n,rfl,hn60,k⟩:=h
  refine ⟨_,(Zg (Zm (i:=2) Xq.nd Z (Or.inl Z) (Ya Zc))
   (Zg (Zm (i:=3) Xq.nd rfl (Or.inl rfl) (Zj Zi3 (pv 0) (Zj Zi4 Zd Zd)))
   (Zg (Qs PassesOwn.never (PW.pt (Vm (Zt J4 (pv 3) Zd (Zr _)) (Qf (Zt J3 (Zp Zk (by rfl) T.aj PySem.boot_len (Za (pv 2) Zc)) (pv 1) (Zr _))))) (Zg (Xe (Yu PySem.F.plainAttrs_list PySem.F.slot_list_append PySem.F.type_list_append Y1 (pv 2) (Za (Zj Z1 (pv 3) Zd) Zc)))
   (Zi (Zm (i:=3) Xq.nd rfl (Or.inl rfl) (Zj Xs (pv 3) Zd)))))
   (Zg (Zm (i:=4) Xq.nd rfl (Or.inl rfl) (Zj Z1 (pv 0) Zd))
   (Zg (Qs PassesOwn.never (Zt J3 (Zp Zk (by rfl) T.aj PySem.boot_len (Za (pv 2) Zc)) (pv 1) (Zr _)) (Zg (Zm (i:=4) Xq.nd rfl (Or.inl rfl) (Zj Z1 (Zj Y9 (Zj Y9 (Zj Xl (pv 4) Zd) Zd) (Zp Zk (by rfl) T.aj PySem.boot_len (Za (pv 2) Zc))) Zd))
   (Zi (Xe (Yu PySem.F.plainAttrs_list PySem.F.slot_list_append PySem.F.type_list_append Y1 (pv 2) (Za (Zj Z1 (Zj Xs (Zj Z1 (Zj Xl (pv 4) Zd) Zd) Zd) Zd) Zc))))))
   (Zi (Zw (pv 2)))))))),?_⟩;refine ⟨Az _,λr qe=>?_⟩;refine ⟨_,Z,_,_,Z,Z,⟨by decide,by decide,by decide⟩,_,_,Z,Z,?_⟩;show tSeq (U8 _ _) _ _ _ _;refine Z8 (λσ H1=>∃ (xs:List Int) (rest:Int),σ=[some (.int c),some (.int n),some (.ref r),some (.int rest),none]/\Same H H1/\H1 r=some (.lst (xs.map V.int))/\xs.length<=n/\(∀ x∈xs,0<=x/\x < 1009)) (λnx ke=>?_) ?_
  ·refine ⟨λm σ H1=>∃ (xs:List Int) (rest:Int),m=n - xs.length/\σ=[some (.int c),some (.int n),some (.ref r),some (.int rest),none]/\Same H H1/\H1 r=some (.lst (xs.map V.int))/\xs.length<=n/\(∀ x∈xs,0<=x/\x < 1009),
    ⟨n,[],_,rfl,rfl,Same.new qe,Zb,Az _,λx hx=>absurd hx (by simp)⟩,?_⟩
   rintro m σ H1 ⟨xs,rest,rfl,rfl,sm,h1,hl,hx⟩;have el:((xs.map V.int).length:Int)=xs.length:=by simp
   refine ⟨_,Z,_,_,Z,Z,_,Z,?_⟩;refine ite2 (λ_=>?_) (λ_=>?_)
   ·refine ⟨_,Z,r,_,Z,.inl (SqL.of h1),_,Z,_,_,Z,Z,_,Z,?_⟩
    rw [el];refine ite2 (λg=>?_) (λ_=>?_)
    ·have g:(xs.length:Int) < n:=by simpa using g
     refine ⟨_,λσ' H' h=>h,?_⟩;refine ⟨_,Z,.inl ⟨Z,_,SqL.of h1⟩,_,Z,_,_,Z,Z,(by show (0:Int) < 1009; decide),r,_,_,rfl,rfl,h1,(by rw [Ab]; exact Z0 (by lia)),?_⟩;refine ⟨_,Z,_,_,Z,Z,⟨by decide,by decide⟩,?_⟩;refine ⟨n - (xs ++ [rest % 1009]).length,?_,xs ++ [rest % 1009],_,Z,Z,Same.add sm qe,?_,?_,?_⟩
     ·rw [Ae,At]; lia
     ·rw [Zb,<- Za0]
     ·rw [Ae,At]; lia
     ·intro x hm
      rcases List.mem_append.mp hm with z | z
      ·exact hx x z
      ·have:x=rest % 1009:=by simpa using z
       subst this;lia
    ·exact ke _ _ ⟨xs,rest,Z,sm,h1,hl,hx⟩
   ·exact ke _ _ ⟨xs,rest,Z,sm,h1,hl,hx⟩
  rintro σ H1 ⟨xs,rest,rfl,sm,h1,hl,hx⟩;refine ⟨_,Z,_,_,Z,Z,(by show (0:Int) < 2147483629; decide),?_⟩;show tSeq (U8 _ _) _ _ _ _;refine Z8 (λσ H1=>∃ (xs:List Int) (rest m3:Int),σ=[some (.int c),some (.int n),some (.ref r),some (.int rest),some (.int m3)]/\Same H H1/\H1 r=some (.lst (xs.map V.int))/\xs.length=n/\(∀ x∈xs,0<=x/\x < 1009)) (λnx ke=>?_) ?_
  ·refine ⟨λm σ H1=>∃ (xs:List Int) (rest m3:Int),m=n - xs.length/\σ=[some (.int c),some (.int n),some (.ref r),some (.int rest),some (.int m3)]/\Same H H1/\H1 r=some (.lst (xs.map V.int))/\xs.length<=n/\(∀ x∈xs,0<=x/\x < 1009),
    ⟨n - xs.length,xs,rest,_,rfl,rfl,sm,h1,hl,hx⟩,?_⟩
   clear h1 hl hx sm xs rest;rintro m σ H1 ⟨xs,rest,m3,rfl,rfl,sm,h1,hl,hx⟩;have el:((xs.map V.int).length:Int)=xs.length:=by simp
   refine ⟨_,Z,r,_,Z,.inl (SqL.of h1),_,Z,_,_,Z,Z,_,Z,?_⟩;rw [el];refine ite2 (λg=>?_) (λg=>?_)
   ·have g:(xs.length:Int) < n:=by simpa using g
    refine ⟨_,λσ' H' h=>h,?_⟩;refine ⟨_,Z,_,_,Z,Z,.inr ⟨by decide,by decide⟩,_,_,Z,Z,_,Z,r,_,Z,.inl (SqL.of h1),_,_,Z,Z,_,_,Z,Z,(by show (0:Int) < 2147483647; decide),?_⟩;obtain ⟨y,hy⟩:∃ y,y=(m3 * 48271 + 12345 + ((xs.map V.int).length:Int)) % 2147483647 * 69621 % 2147483629 / 7 % 1009:=⟨_,rfl⟩;refine ⟨_,Z,.inl ⟨Z,_,SqL.of h1⟩,_,Z,_,_,Z,Z,.inr ⟨by decide,by decide⟩,_,_,Z,Z,(by show (0:Int) < 2147483629; decide),_,_,rfl,rfl,⟨by decide,by decide⟩,_,_,rfl,rfl,(by show (0:Int) < 1009; decide),r,_,_,rfl,rfl,h1,(by rw [Ab]; exact Z0 (by lia)),?_⟩;refine ⟨n - (xs ++ [y]).length,?_,xs ++ [y],_,_,Z,Z,Same.add sm qe,?_,?_,?_⟩
    ·rw [Ae,At]; lia
    ·rw [Zb,<- Za0,hy]
    ·rw [Ae,At]; lia
    ·intro x hm
     rcases List.mem_append.mp hm with z | z
     ·exact hx x z
     ·have:x=y:=by simpa using z
      rw [this,hy];exact ⟨Int.emod_nonneg _ (by decide),Int.emod_lt_of_pos _ (by decide)⟩
   ·have g:¬ (xs.length:Int) < n:=by simpa using g
    exact ke _ _ ⟨xs,rest,m3,Z,sm,h1,by lia,hx⟩
  rintro σ H1 ⟨xs,rest,m3,rfl,sm,h1,hl,hx⟩;exact ⟨_,Z,k r xs H1 sm qe h1 hl hx⟩
def Zhf (K:W.Frag):Sp:=λvs H Q _=>∃ (a:Addr) (xs:List Int) (n:Nat) (sh:Int),vs=[.ref a,.int n,.int sh]/\H a=some (.lst (xs.map V.int))/\xs.length=60/\(∀ x∈xs,0<=x/\x < 1009)/\1<=n/\n<=14 /\
 ∀ (p:Addr) (M:List (Option Nat)) (H':Hp),Same H H'->H p=none->H' p=some (.lst (M.map mV))->M.length=3 * n->(∀ (i j:Nat),M[i]?=some (some j)->M[j]?=some (some i)/\i≠j)->Q (.ref p) H'
def map_set {α:Type} (f:α->V) (l:List α) (i:Nat) (x:α):(l.map f).set i (f x)=(l.set i x).map f:=by rw [List.map_set]
def Qj (h:i < n):ixN n (i:Int)=some i:=by
 unfold ixN;simp;lia
theorem Ze8 {α β:Type} (f:α->β):∀ (l:List α) (i:Nat),(l.map f).eraseIdx i=(l.eraseIdx i).map f
 | [],_=>rfl
 | _ :: _,0=>rfl
 | a :: r,i + 1=>by rw [List.map_cons,List.eraseIdx_cons_succ,Ze8 f r i,List.eraseIdx_cons_succ,List.map_cons]
def natV (F:List Nat) (i:Nat):(F.map λ(j:Nat)=>V.int j)[i]?=(F[i]?).map λ(j:Nat)=>V.int j:=Ah ..
def Xw:FnScope ["_law_nums","_law_many","_law_share","_law_mates","_law_free","_law_at","_law_one","_law_pick","_law_other"] ["_law_nums","_law_many","_law_share"] (Zf F8):=Am
def Zer (T:Txt w K mg t):FnOk P w K mg base (CXr P w) 1 t.fE t.fX ["_law_nums","_law_many","_law_share"] (Zhf K):=by
 refine T.gd.F.aR Xw (λ_ _ _ _ H vs Q E hr h=>?_)
 ·obtain ⟨a,xs,n,sh,rfl,ha,hl,hx,h1,h2,k⟩:=h
  refine ⟨_,(Zg (Zm (i:=3) Xw.nd Z (Or.inl Z) (Zj Zao (Ya (Za Ou Zc)) (Zj Xl Zd (pv 1))))
   (Zg (Zm (i:=4) Xw.nd rfl (Or.inl rfl) (Zal rfl T.iA rfl T.bK rfl (Za (Zj Xl Zd (pv 1)) Zc)))
   (Zg (Zm (i:=5) Xw.nd rfl (Or.inl rfl) Zd)
   (Zg (Qs PassesOwn.never (Zt J4 (Zp Zk (by rfl) T.aj PySem.boot_len (Za (pv 4) Zc)) Zd (Zr _)) (Zg (Zm (i:=6) Xw.nd rfl (Or.inl rfl) (Yu PySem.F.plainAttrs_list PySem.F.slot_list_pop PySem.F.type_list_pop Zaz (pv 4) (Za Zd Zc)))
   (Zg (Zm (i:=7) Xw.nd rfl (Or.inl rfl) (Zn Zo (pv 0) (pv 5) (λ_ _=>rfl)))
   (Zg (Zm (i:=5) Xw.nd rfl (Or.inl rfl) (Zj Y9 (pv 5) Zd))
   (Zi (Yt (Zt Zg0 (Zj Z1 (pv 7) Zd) (pv 2) (Zr _)) (Zg (Zm (i:=8) Xw.nd rfl (Or.inl rfl) (Yu PySem.F.plainAttrs_list PySem.F.slot_list_pop PySem.F.type_list_pop Zaz (pv 4) (Za (Zj Z1 (Zj Xs (pv 7) Zd) (Zp Zk (by rfl) T.aj PySem.boot_len (Za (pv 4) Zc))) Zc)))
   (Zg (Js (pv 8) (Vq (pv 3) (pv 6) Jp))
   (Zi (Js (pv 6) (Vq (pv 3) (pv 8) Jp))))) Yc))))))
   (Zi (Zw (pv 3))))))),?_⟩;refine ⟨(by show 1<=sizeLine; decide),λq hq=>?_⟩;refine ⟨_,Z,_,_,Z,Z,.inl ⟨by decide,by decide⟩,q,_,_,Z,Z,Zb,(by lia),(by lia),?_,λm hm=>?_⟩
  ·have:(3 * (n:Int)).toNat=3 * n:=by lia
   show 1 * (3 * (n:Int)).toNat<=sizeLine;rw [this,sizeLine_eq]; lia
  have eN:(3 * (n:Int)).toNat=3 * n:=by lia
  have eM:(List.replicate (3 * (n:Int)).toNat [V.non]).flatten=(List.replicate (3 * n) (none:Option Nat)).map mV:=by
   rw [eN,List.flatten_replicate_singleton,List.map_replicate];rfl
  refine ⟨_,Z,_,_,Z,Z,.inl ⟨by decide,by decide⟩,3 * n,(congrArg (λz=>[V.int z]) (by lia:(3 * (n:Int))=((3 * n:Nat):Int))),by lia,λf hf=>?_⟩;have qi:f≠m:=λz=>by rw [z,Zb] at hf; cases hf
  have ng:H m=none:=by
   have:m≠q:=λz=>by rw [z,Zb] at hm; cases hm
   rw [Ze this] at hm; exact hm
  have lu:H f=none:=by
   rw [Ze qi] at hf;have:f≠q:=λz=>by rw [z,Zb] at hf; cases hf
   rw [Ze this] at hf; exact hf
  have sm0:Same H (upd (upd (upd H q (.lst [.non])) m (.lst (List.replicate (3 * (n:Int)).toNat [V.non]).flatten)) f (.lst ((List.range (3 * n)).map λ(i:Nat)=>V.int i))):=Same.add (Same.add (Same.new hq) ng) lu;show tSeq (U8 _ _) _ _ _ _;refine Z8 (λσ H1=>∃ (M:List (Option Nat)) (v4 v5 v6 v7 v8:Option V),σ=[some (.ref a),some (.int n),some (.int sh),some (.ref m),v4,v5,v6,v7,v8]/\Same H H1/\H1 m=some (.lst (M.map mV))/\M.length=3 * n/\∀ (i j:Nat),M[i]?=some (some j)->M[j]?=some (some i)/\i≠j) (λnx ke=>?_) ?_
  ·refine ⟨λc σ H1=>∃ (F:List Nat) (M:List (Option Nat)) (at':Nat) (v6 v7 v8:Option V),c=F.length/\σ=[some (.ref a),some (.int n),some (.int sh),some (.ref m),some (.ref f),some (.int at'),v6,v7,v8]/\Same H H1/\H1 m=some (.lst (M.map mV))/\H1 f=some (.lst (F.map λ(i:Nat)=>V.int i))/\SewOk (3 * n) F M/\at' + F.length<=3 * n,
    ⟨_,List.range (3 * n),List.replicate (3 * n) none,0,none,none,none,rfl,rfl,sm0,?_,Zb,SewOk.start _,by simp⟩,?_⟩
   ·rw [Ze qi.symm,Zb,eM]
   rintro c σ H1 ⟨F,M,at',v6,v7,v8,rfl,rfl,sm,g1,g2,hs,zo⟩;refine ⟨_,Z,f,_,Z,.inl (SqL.of g2),_,_,Z,Z,_,Z,?_⟩;rw [Ab];refine ite2 (λg=>?_) (λg=>?_)
   ·have g:1 < F.length:=by have:=of_decide_eq_true g; lia
    obtain ⟨one,F',rfl⟩:∃ one F',F=one :: F':=by
     cases F with
     | nil=>simp at g
     | cons a b=>exact ⟨a,b,Z⟩
    rw [List.length_cons] at g zo;refine ⟨_,λσ' H' h=>h,?_⟩;refine ⟨_,Z,.inl ⟨Z,_,SqL.of g2⟩,f,_,0,0,V.int one,Z,Z,g2,by decide,by decide,(by simp [seqIndex?]),Z,?_⟩;have e0:((one :: F').map λ(i:Nat)=>V.int i).eraseIdx 0=F'.map λ(i:Nat)=>V.int i:=rfl;rw [e0];have vt:(upd H1 f (.lst (F'.map λ(i:Nat)=>V.int i))) f=some (.lst (F'.map λ(i:Nat)=>V.int i)):=Zb;have zy:(upd H1 f (.lst (F'.map λ(i:Nat)=>V.int i))) m=some (.lst (M.map mV)):=by rw [Ze qi.symm]; exact g1
    have w6:Same H (upd H1 f (.lst (F'.map λ(i:Nat)=>V.int i))):=Same.add sm lu;generalize upd H1 f (.lst (F'.map λ(i:Nat)=>V.int i))=H2 at zy vt w6 ⊢;have oz:at' < xs.length:=by lia
    refine ⟨_,Z,_,Z,a,_,_,_,Z,Z,SqL.of (w6 _ _ ha),X6 (getI oz),?_⟩;obtain ⟨p0,p1⟩:=hx _ (List.getElem_mem oz);have ep:xs.getD at' 0=xs[at']:=by rw [Ad,Ac oz]; rfl
    rw [ep];generalize xs[at']=pick at p0 p1 ⊢;refine ⟨_,Z,_,_,Z,Z,?_⟩;refine ⟨_,Z,_,_,Z,Z,(by show (0:Int) < 7; decide),_,rfl,_,_,rfl,rfl,_,rfl,?_⟩;refine ite2 (λ_=>?_) (λ_=>?_)
    ·-- other=free.pop(..)
     have hF:(0:Int) < F'.length:=by lia
     have k0:=Int.emod_nonneg (pick / 7) (show (F'.length:Int)≠0 by lia);have k1:=Int.emod_lt_of_pos (pick / 7) hF;obtain ⟨kk,za⟩:∃ kk:Nat,pick / 7 % (F'.length:Int)=kk:=⟨_,(Int.toNat_of_nonneg k0).symm⟩;have pq:kk < F'.length:=by lia
     refine ⟨_,Z,.inl ⟨Z,_,SqL.of vt⟩,_,Z,_,_,Z,Z,⟨by decide,by decide⟩,_,Z,f,_,Z,.inl (SqL.of vt),_,_,Z,Z,(by rw [Ab]; exact hF),f,_,_,kk,V.int F'[kk],Z,Z,vt,?_,?_,?_,?_,?_⟩
     ·rw [Ab,za]; lia
     ·rw [Ab,za]; lia
     ·rw [Ab,za]; simp [seqIndex?]; lia
     ·rw [natV,Ac pq]; rfl
     have e1:(F'.map λ(i:Nat)=>V.int i).eraseIdx kk=(F'.eraseIdx kk).map λ(i:Nat)=>V.int i:=by rw [Ze8]
     rw [e1];have hp:=hs.pair (Ac pq);have l1:one < M.length:=by rw [hs.len]; exact (hs.free one List.mem_cons_self).1
     have l2:F'[kk] < M.length:=by rw [hs.len]; exact (hs.free _ (List.mem_cons_of_mem _ (List.getElem_mem pq))).1
     have g1'':(upd H2 f (.lst ((F'.eraseIdx kk).map λ(i:Nat)=>V.int i))) m=some (.lst (M.map mV)):=by rw [Ze qi.symm]; exact zy
     refine ⟨_,Z,_,Z,_,Z,m,_,_,one,Z,Z,g1'',(by rw [Ab]; exact Qj l1),?_⟩;refine ⟨_,Z,_,Z,_,Z,m,_,_,F'[kk],Z,Z,Zb,(by rw [List.length_set,Ab]; exact Qj l2),?_⟩;refine ⟨(F'.eraseIdx kk).length,?_,F'.eraseIdx kk,(M.set one (some F'[kk])).set F'[kk] (some one),at' + 1,_,_,_,Z,Z,Same.add (Same.add (Same.add w6 lu) ng) ng,?_,?_,hp,?_⟩
     ·rw [List.length_eraseIdx_of_lt pq,List.length_cons]; lia
     ·rw [Zb]
      show some (HO.lst (((M.map mV).set one (mV (some F'[kk]))).set F'[kk] (mV (some one))))=_;rw [map_set,map_set]
     ·rw [Ze qi,Ze qi,Zb]
     ·rw [List.length_eraseIdx_of_lt pq]; lia
    ·exact ⟨F'.length,by rw [List.length_cons]; lia,F',M,at' + 1,_,_,_,rfl,rfl,w6,zy,vt,hs.skip,by lia⟩
   ·exact ke _ _ ⟨M,_,_,_,_,_,Z,sm,g1,hs.len,hs.inv⟩
  rintro σ H1 ⟨M,v4,v5,v6,v7,v8,rfl,sm,g1,qh,hi'⟩;exact ⟨_,Z,k m M H1 sm ng g1 qh hi'⟩
def mdL (x y:Str):List Bool:=x.cps.toList.map λc=>Txt.contains y ⟨#[c]⟩
def Zcv:Sp:=λvs H Q _=>∃ x y:Str,vs=[.str x,.str y]/\x.cps.all (· < 128)=true/\x.cps.size<=900/\∀ H',Same H H'->Q (.bl ((mdL x y).all id)) H'
def Zkg:(10:Int) ^ 60=1000000000000000000000000000000000000000000000000000000000000:=by decide
def Zh8 {i:Int} (h0:0<=i) (h1:i < 1000000000000000000000000000000000000000000000000000000000000):(Str.ofString (toString i)).length<=60:=PyProof.Rows.toString_length_le h0 (by decide) (by rw [Zkg]; exact h1)
def Zgc {x:Str} {g:TG} {tt:TT} {tb:TB} {R:St->Hp->Prop} {σ:St} {H:Hp} (Pv:Nat->St->Hp->Prop) (h0:Pv 0 σ H)
  (hs:∀ (i:Nat) c σ H,x.cps[i]?=some c->Pv i σ H->g (.str ⟨#[c]⟩) σ H λσ2 H2=>tt σ2 H2 λb H3=>if b=true then tb σ2 H3 (Pv (i + 1)) else Pv (i + 1) σ2 H3) (hd:∀ σ H,Pv x.cps.size σ H->R σ H):X0 (Its x) g tt tb R σ H:=by
 refine ⟨λi m σ H=>m=x.cps.size - i/\i<=x.cps.size/\Pv i σ H,⟨x.cps.size,by simp,Az _,h0⟩,?_⟩;rintro i m σ H ⟨rfl,hi,p⟩;by_cases kf:i < x.cps.size
 ·refine .inr ⟨kf,Pv (i + 1),λσ' H' p'=>⟨x.cps.size - (i + 1),by lia,Z,kf,p'⟩,λy H' z=>?_⟩
  obtain ⟨e,c,hc,ec⟩:=z;subst e ec;exact hs i c σ _ hc p
 ·have e:i=x.cps.size:=by lia
  subst e;exact .inl ⟨An _,hd σ H p⟩
def Zc3:FnScope ["text","signs"] ["text","signs"] (Zf K4):=Am
def O0 (T:Txt w K mg t):FnOk P w K mg base (CXr P w) 1 t.eI t.eR ["text","signs"] Zcv:=by
 refine T.cD.F.aR Zc3 (λ_ _ _ _ H vs Q E hr h=>?_)
 ·obtain ⟨x,y,rfl,hx,hz,k⟩:=h
  refine ⟨_,(Zi (Zw (Zp (U7 Z) (by rfl) T.iz PyProof.Rows.boot_all (Za (Y5 (ts:=["sign"]) (fv:=[("signs",1)]) ⟨rfl,by decide +kernel,by decide +kernel,Ym (by rfl),⟨⟨rfl,rfl,Or.inl rfl⟩,trivial⟩⟩ rfl (Zi0 (pv 0)) (λ_ _ _ _=>(Zs (i:=0) (show List.Nodup (["sign","signs"]:List Str) from by decide +kernel) rfl (Or.inl rfl) (Or.inr rfl))) (λ_ _ _ _=>Yi) (λ_ _ _=>rfl) (λ_ _ _ _ _ _=>Xj (Xi Zi5 (pv 0) (pv 1) (by with_unfolding_all rfl)))) Zc)))),?_⟩;refine ⟨_,Z,x,Z,hx,λD hD=>?_⟩;refine Zgc (λi σ H6=>∃ v,σ=[v,some (.str y)]/\Same H H6/\H6 D=some (.lst (((mdL x y).take i).map V.bl))) ⟨none,Z,Same.new hD,Zb⟩ ?_ ?_
  ·rintro i c σ H6 hc ⟨v,rfl,s6,h6⟩
   have vd:i < x.cps.size:=(Array.getElem?_eq_some_iff.mp hc).1;have hm:(mdL x y)[i]?=some (Txt.contains y ⟨#[c]⟩):=by
    unfold mdL
    rw [Ah,Array.getElem?_toList,hc]
    rfl
   dsimp only [Zv,tYes];rw [if_pos rfl];refine ⟨_,Z,_,Z,_,_,Z,Z,_,h6,by rw [Ab,Ai]; exact Z0 (by lia),_,Z,Same.add s6 hD,?_⟩;rw [Zb,Aw,hm,Aj];rfl
  ·rintro σ H6 ⟨v,rfl,s6,h6⟩
   have hl:(mdL x y).length=x.cps.size:=by unfold mdL; rw [Ab,Array.length_toList]
   rw [<- hl,List.take_length] at h6;exact ⟨D,_,Z,SqL.of h6,k _ s6⟩
def Qt (Pv:Nat->St->Hp->Prop) (h0:Pv 0 σ H)
  (hs:∀ (i:Nat) σ H,i < n->Pv i σ H->g (.int (lo + i)) σ H λσ2 H2=>tt σ2 H2 λb H3=>if b=true then tb σ2 H3 (Pv (i + 1)) else Pv (i + 1) σ2 H3) (hd:∀ σ H,Pv n σ H->R σ H):X0 (Itr lo n) g tt tb R σ H:=by
 refine ⟨λi m σ H=>m=n - i/\i<=n/\Pv i σ H,⟨n,by simp,Az _,h0⟩,?_⟩;rintro i m σ H ⟨rfl,hi,p⟩;by_cases kf:i < n
 ·refine .inr ⟨kf,Pv (i + 1),λσ' H' p'=>⟨n - (i + 1),by lia,Z,kf,p'⟩,λx H' y=>?_⟩
  obtain ⟨e,y⟩:=y;subst e y;exact hs i σ _ kf p
 ·have e:i=n:=by lia
  subst e;exact .inl ⟨An _,hd σ H p⟩
def Ys {xs:List V} (Pv:Nat->St->Hp->Prop) (h0:Pv 0 σ H) (hl:∀ i σ H,i<=xs.length->Pv i σ H->SqL K H a xs)
  (hs:∀ (i:Nat) x σ H,xs[i]?=some x->Pv i σ H->g x σ H λσ2 H2=>tt σ2 H2 λb H3=>if b=true then tb σ2 H3 (Pv (i + 1)) else Pv (i + 1) σ2 H3) (hd:∀ σ H,Pv xs.length σ H->R σ H):X0 (Itl K a) g tt tb R σ H:=by
 refine ⟨λi m σ H=>m=xs.length - i/\i<=xs.length/\Pv i σ H,⟨xs.length,by simp,Az _,h0⟩,?_⟩;rintro i m σ H ⟨rfl,hi,p⟩;have q:=hl i σ H hi p;by_cases kf:i < xs.length
 ·refine .inr ⟨⟨xs,xs[i],q,by simp [kf]⟩,Pv (i + 1),λσ' H' p'=>⟨xs.length - (i + 1),by lia,Z,kf,p'⟩,λx H' y=>?_⟩
  obtain ⟨e,y⟩:=y;subst e;exact hs i x σ _ (y xs q) p
 ·have e:i=xs.length:=by lia
  subst e;exact .inl ⟨⟨xs,q,An _⟩,hd σ H p⟩
def Za2 {xs:List V} (Pv:Nat->St->Hp->Prop) (h0:Pv 0 σ H) (hl:∀ i σ H,i<=xs.length->Pv i σ H->SqT K H a xs)
  (hs:∀ (i:Nat) x σ H,xs[i]?=some x->Pv i σ H->g x σ H λσ2 H2=>tt σ2 H2 λb H3=>if b=true then tb σ2 H3 (Pv (i + 1)) else Pv (i + 1) σ2 H3) (hd:∀ σ H,Pv xs.length σ H->R σ H):X0 (Itt K a) g tt tb R σ H:=by
 refine ⟨λi m σ H=>m=xs.length - i/\i<=xs.length/\Pv i σ H,⟨xs.length,by simp,Az _,h0⟩,?_⟩;rintro i m σ H ⟨rfl,hi,p⟩;have q:=hl i σ H hi p;by_cases kf:i < xs.length
 ·refine .inr ⟨⟨xs,xs[i],q,by simp [kf]⟩,Pv (i + 1),λσ' H' p'=>⟨xs.length - (i + 1),by lia,Z,kf,p'⟩,λx H' y=>?_⟩
  obtain ⟨e,y⟩:=y;subst e;exact hs i x σ _ (y xs q) p
 ·have e:i=xs.length:=by lia
  subst e;exact .inl ⟨⟨xs,q,An _⟩,hd σ H p⟩
def row3 (ns:List Int) (k:Nat):List V:=[.int (ns.getD (3 * k) 0),.int (ns.getD (3 * k + 1) 0),.int (ns.getD (3 * k + 2) 0)]
def Y2 (H:Hp) (r:Addr) (ns:List Int):Prop:=∃ ts:List Addr,H r=some (.lst (ts.map V.ref))/\ns.length=3 * ts.length/\∀ (k:Nat) (t:Addr),ts[k]?=some t->H t=some (.tup (row3 ns k))
def Y2.same (h:Y2 H r ns) (s:Same H H'):Y2 H' r ns:=by
 obtain ⟨ts,h1,h2,h3⟩:=h;exact ⟨ts,s _ _ h1,h2,λk t e=>s _ _ (h3 k t e)⟩
def Zhg:Sp:=λvs H Q _=>∃ (a:Addr) (M:List (Option Nat)) (n:Nat) (st sp:Int),vs=[.ref a,.int st,.int sp]/\H a=some (.lst (M.map mV))/\M.length=3 * n/\1<=n/\n<=14/\(∀ (i j:Nat),M[i]?=some (some j)->M[j]?=some (some i)/\i≠j)/\sp∈Qn /\
 ∀ (p:Addr) (H':Hp),Same H H'->H p=none->Y2 H' p (flat M st sp)->Q (.ref p) H'
def Ud {t:Int} (h:t∈Qn):-(2 ^ 64) < t/\t < 2 ^ 64:=by
 simp only [Qn,List.mem_cons,List.not_mem_nil,or_false] at h
 rcases h with rfl | rfl | rfl | rfl | rfl | rfl | rfl | rfl <;> decide
def Zi9 {M:List (Option Nat)} {i:Nat} (h:i < M.length):atI (M.map mV) (0 + (i:Int))=some (mV M[i]):=by
 rw [Int.zero_add];exact X6 (by rw [Ah,Ac h]; rfl)
def Jz:FnScope ["_law_mates","_law_start","_law_step","_law_flat","_law_at","_law_mate"] ["_law_mates","_law_start","_law_step"] (Zf F9):=Am
def Zes (T:Txt w K mg t):FnOk P w K mg base (CXr P w) 1 t.fF t.fY ["_law_mates","_law_start","_law_step"] Zhg:=by
 refine T.gf.F.aR Jz (λ_ _ _ _ H vs Q E hr h=>?_)
 ·obtain ⟨a,M,n,st,sp,rfl,ha,hM,h1,h2,hi,k7,k⟩:=h
  refine ⟨_,(Zg (Zm (i:=3) Jz.nd Z (Or.inr Z) (Ya Zc))
   (Zg (Ot PassesOwn.never rfl (Jd rfl T.bK (Za (Zp Zk (by rfl) T.aj PySem.boot_len (Za (pv 0) Zc)) Zc)) (Zs (i:=4) Jz.nd rfl (Or.inl rfl)) (Zg (Zm (i:=5) Jz.nd rfl (Or.inl rfl) (Zn Zo (pv 0) (pv 4) (λ_ _=>rfl)))
   (Zi (Yt (PW.pt (Vm (Zt Zcc (pv 5) Ou (Zr _)) (Qf (Zt J3 (pv 5) (pv 4) (Zr _))))) (Zi (Xe (Yu PySem.F.plainAttrs_list PySem.F.slot_list_append PySem.F.type_list_append Y1 (pv 3) (Za (Zn Zo (pv 3) (pv 5) (λ_ _=>rfl)) Zc)))) (Zi (Xe (Yu PySem.F.plainAttrs_list PySem.F.slot_list_append PySem.F.type_list_append Y1 (pv 3) (Za (Zj Z1 (Zj Y9 (pv 1) (Zj Xl (pv 2) (pv 4))) Zd) Zc))))))))
   (Zi (Zw (Y5 (ts:=["_law_k"]) (fv:=[("_law_flat",3)]) ⟨rfl,by decide +kernel,by decide +kernel,Ym (by rfl),⟨⟨rfl,rfl,Or.inl rfl⟩,trivial⟩⟩ rfl (Jd rfl T.bK (Za (Zj Xs (Zp Zk (by rfl) T.aj PySem.boot_len (Za (pv 0) Zc)) Zd) Zc)) (λ_ _ _ _=>(Zs (i:=0) (show List.Nodup (["_law_k","_law_flat"]:List Str) from by decide +kernel) rfl (Or.inl rfl) (Or.inr rfl))) (λ_ _ _ _=>Yi) (λ_ _ _=>rfl) (λ_ _ _ _ _ _=>Xj (Wo (Za (Zn (We K) (pv 1) (Zj Xl Zd (pv 0)) (λ_ _=>rfl)) (Za (Zn (We K) (pv 1) (Zj Y9 (Zj Xl Zd (pv 0)) Zd) (λ_ _=>rfl)) (Za (Zn (We K) (pv 1) (Zj Y9 (Zj Xl Zd (pv 0)) Zd) (λ_ _=>rfl)) Zc)))))))))),?_⟩;refine ⟨Az _,λf hf=>?_⟩;have eL:(((M.map mV).length:Nat):Int).toNat=M.length:=by simp
  have ha1:(upd H f (.lst [])) a=some (.lst (M.map mV)):=by rw [Ze (Zh ha hf)]; exact ha
  dsimp only [Zv];show tSeq (tFor _ _ _) _ _ _ _;refine Z8 (λσ H1=>∃ (v4 v5:Option V),σ=[some (.ref a),some (.int st),some (.int sp),some (.ref f),v4,v5]/\Same H H1/\H1 f=some (.lst ((flat M st sp).map V.int))) (λnx ke=>?_) ?_
  ·refine ⟨_,Z,a,_,Z,.inl (SqL.of ha1),_,Z,by lia,by rw [Ab]; lia,?_⟩
   rw [eL];refine Gh (n:=M.length) (λi σ H1=>∃ (v4 v5:Option V),σ=[some (.ref a),some (.int st),some (.int sp),some (.ref f),v4,v5]/\Same H H1/\H1 f=some (.lst (((List.range i).map λi=>nm st sp (rep M i)).map V.int))) ⟨none,none,Z,Same.new hf,Zb⟩ ?_ ?_
   ·rintro i σ H1 kf ⟨v4,v5,rfl,sm,lr⟩
    refine ⟨_,Z,_,Z,a,_,_,_,Z,Z,SqL.of (sm _ _ ha),Zi9 kf,?_⟩;have ki:∀ x:Int,x=nm st sp (rep M i)->(upd H1 f (.lst (((List.range i).map λi=>nm st sp (rep M i)).map V.int ++ [V.int x]))) f=some (.lst (((List.range (i + 1)).map λi=>nm st sp (rep M i)).map V.int)):=λx hx=>by
     rw [Zb,hx,List.range_succ]
     simp
    have j1:(((List.range i).map λi=>nm st sp (rep M i)).map V.int).length < sizeLine:=by
     rw [Ab,Ab,List.length_range]; exact Z0 (by lia)
    refine ⟨_,Z,Z,_,Z,?_⟩
    cases e:M[i] with
    | none =>
     have er:rep M i=i:=by unfold rep; rw [Ac kf,e]
     refine iteF ?_;refine iteF ?_;refine ⟨_,Z,.inl ⟨Z,_,SqL.of lr⟩,_,Z,_,Z,_,Z,_,_,Z,Z,.inl (Ud k7),_,_,Z,Z,_,_,Z,Z,(by show (0:Int) < 10000; decide),f,_,_,rfl,rfl,lr,j1,?_⟩;exact ⟨_,_,Z,Same.add sm hf,ki _ (by rw [er]; unfold nm; rw [Int.zero_add])⟩
    | some j =>
     have zt:M[i]?=some (some j):=by rw [Ac kf,e]
     refine iteT ?_;refine ⟨_,Z,_,Z,_,_,Z,Z,_,Z,?_⟩;refine ite2 (λg=>?_) (λg=>?_)
     ·have g:j < i:=by have:=of_decide_eq_true g; lia
      have er:rep M i=j:=by unfold rep; rw [zt]; exact if_pos g
      have erj:rep M j=j:=by unfold rep; rw [(hi i j zt).1]; exact if_neg (by lia)
      have ej:atI (((List.range i).map λi=>nm st sp (rep M i)).map V.int) (j:Int)=some (V.int (nm st sp (rep M i))):=by
       refine X6 ?_;rw [Ah,Ah,List.getElem?_range g,er];show some (V.int (nm st sp (rep M j)))=_;rw [erj]
      refine ⟨_,Z,.inl ⟨Z,_,SqL.of lr⟩,_,Z,_,Z,f,_,_,_,Z,Z,SqL.of lr,ej,f,_,_,Z,Z,lr,j1,?_⟩;exact ⟨_,_,Z,Same.add sm hf,ki _ Z⟩
     ·have g:¬ j < i:=by
       have:¬ ((j:Int) < 0 + (i:Int)):=λz=>g (decide_eq_true z);lia
      have er:rep M i=i:=by unfold rep; rw [zt]; exact if_neg g
      refine ⟨_,Z,.inl ⟨Z,_,SqL.of lr⟩,_,Z,_,Z,_,Z,_,_,Z,Z,.inl (Ud k7),_,_,Z,Z,_,_,Z,Z,(by show (0:Int) < 10000; decide),f,_,_,rfl,rfl,lr,j1,?_⟩;exact ⟨_,_,Z,Same.add sm hf,ki _ (by rw [er]; unfold nm; rw [Int.zero_add])⟩
   ·rintro σ H1 ⟨v4,v5,rfl,sm,lr⟩
    exact ke _ _ ⟨v4,v5,Z,sm,lr⟩
  rintro σ H1 ⟨v4,v5,rfl,sm,lr⟩;refine ⟨_,Z,a,_,Z,.inl (SqL.of (sm _ _ ha)),_,_,Z,Z,⟨by decide,by decide⟩,_,Z,by rw [Ab]; lia,by rw [Ab]; lia,λD hD=>?_⟩;have eD:((((M.map mV).length:Nat):Int) / 3).toNat=n:=by rw [Ab,hM]; lia
  have rn:H D=none:=sm.free hD;have vf:f≠D:=λz=>by rw [z] at lr; rw [hD] at lr; cases lr
  have hlf:(flat M st sp).length=3 * n:=by unfold flat; simp [hM]
  show X0 (Itr 0 ((((M.map mV).length:Nat):Int) / 3).toNat) _ _ _ _ _ _;rw [eD];refine Qt (λi σ H2=>∃ (ts:List Addr) (v:Option V),σ=[v,some (.ref f)]/\Same H H2/\H2 D=some (.lst (ts.map V.ref))/\ts.length=i/\H2 f=some (.lst ((flat M st sp).map V.int))/\∀ (k:Nat) (t:Addr),ts[k]?=some t->H2 t=some (.tup (row3 (flat M st sp) k)))
   ⟨[],none,rfl,Same.add sm rn,Zb,rfl,by rw [Ze vf]; exact lr,λk t z=>by simp at z⟩ ?_ ?_
  ·rintro i σ H2 kf ⟨ts,v,rfl,m9,g1,nz,g2,g3⟩
   have at':∀ (c:Nat) (z:Int),c < 3->z=3 * (0 + (i:Int)) + c->atI ((flat M st sp).map V.int) z=some (V.int ((flat M st sp).getD (3 * i + c) 0)):=λc z hc hz=>by
    have e:z=((3 * i + c:Nat):Int):=by lia
    rw [e];exact X6 (getI (by lia))
   dsimp only [Zv,tYes];rw [if_pos rfl];refine ⟨_,Z,_,Z,_,_,Z,Z,.inl ⟨by decide,by decide⟩,f,_,_,_,Z,Z,SqL.of g2,at' 0 _ (by decide) (by simp),?_⟩;refine ⟨_,Z,_,Z,_,_,Z,Z,.inl ⟨by decide,by decide⟩,_,_,Z,Z,f,_,_,_,Z,Z,SqL.of g2,at' 1 _ (by decide) Z,?_⟩;refine ⟨_,Z,_,Z,_,_,Z,Z,.inl ⟨by decide,by decide⟩,_,_,Z,Z,f,_,_,_,Z,Z,SqL.of g2,at' 2 _ (by decide) Z,?_⟩;refine ⟨(by show 3<=sizeLine; decide),λq hq=>?_⟩;have u8:q≠D:=λz=>by rw [z,g1] at hq; cases hq
   have yt:q≠f:=λz=>by rw [z,g2] at hq; cases hq
   have qz:H q=none:=m9.free hq;refine ⟨_,by rw [Ze (Ne.symm u8)]; exact g1,(by rw [Ab]; exact Z0 (by lia)),ts ++ [q],_,Z,Same.add (Same.add m9 qz) rn,?_,?_,?_,?_⟩
   ·rw [Zb]; simp
   ·rw [Ae,At,nz]
   ·rw [Ze vf,Ze (Ne.symm yt)]; exact g2
   ·intro k t z
    by_cases hk:k < ts.length
    ·rw [Av hk] at z
     have g:=g3 k t z;rw [Ze (λe=>by rw [e,g1] at g; cases g),Ze (Zh g hq)];exact g
    ·have zb:k=ts.length:=by
      have:=(Aa z).1;rw [Ae,At] at this;lia
     subst zb;have:t=q:=by simpa using z.symm
     subst this;rw [Ze u8,Zb,nz];rfl
  ·rintro σ H2 ⟨ts,v,rfl,m9,g1,nz,g2,g3⟩
   exact k D H2 m9 rn ⟨ts,g1,by rw [hlf,nz],g3⟩
def isN (x:Str):Bool:=decide (1<=(x.length:Int)) && decide ((x.length:Int)<=8) && (mdL x (Str.ofString "abcdefghijklmnopqrstuvwxyz")).all id
def Zcx:Sp:=λvs H Q _=>∃ x:Str,vs=[.str x]/\x.cps.all (· < 128)=true/\x.cps.size<=900/\∀ H',Same H H'->Q (.bl (isN x)) H'
def Zc5:FnScope ["text"] ["text"] (Zf K6):=Am
def O1 (T:Txt w K mg t):FnOk P w K mg base (CXr P w) 2 t.eJ t.eS ["text"] Zcx:=by
 refine T.cE.F.aR Zc5 (λ_ _ _ _ H vs Q E hr h=>?_)
 ·obtain ⟨x,rfl,hx,hz,k⟩:=h
  refine ⟨_,(Zi (Zw (Ow (Zan Oy Oy Zd (Zp V0 (by rfl) T.aj PySem.boot_len (Za (pv 0) Zc)) (Y3 (v:=.int 8) Z T.d3 ⟨_,Z⟩)) (Vs (pcT (O0 T) hr T.cD (Za (pv 0) (Za (Y3 (v:=.str (Str.ofString "abcdefghijklmnopqrstuvwxyz")) rfl T.dq ⟨_,rfl⟩) Zc))))))),?_⟩;have hs:x.length=x.cps.size:=rfl;refine ⟨_,Z,x,Z,by rw [sizeLine_eq]; lia,_,_,rfl,rfl,_,rfl,?_⟩;unfold isN at k;refine ite2 (λz=>?_) (λz=>?_)
  ·refine ⟨_,_,Z,Z,_,Z,?_⟩
   refine ite2 (λz2=>?_) (λz2=>?_)
   ·refine ⟨_,Z,x,_,Z,hx,hz,λH' s'=>?_⟩
    have:=k H' s';rw [z,z2,Bool.true_and,Bool.true_and] at this;exact this
   ·have:=k H (Same.refl _)
    rw [Bool.eq_false_iff.mpr z2,Bool.and_false,Bool.false_and] at this;exact this
  ·refine ⟨_,Z,iteF ?_⟩
   have:=k H (Same.refl _);rw [Bool.eq_false_iff.mpr z,Bool.false_and,Bool.false_and] at this;exact this
def fgL:Str:=Str.ofString "0123456789"
def W4 (x:Str):Bool:=decide (1<=(x.length:Int)) && decide ((x.length:Int)<=61) && (mdL x fgL).all id && (decide (x=Str.ofString "0") || !Txt.startswith x (Str.ofString "0"))
def Zkd {c:Nat} (z:c < 128) (h:Txt.contains fgL ⟨#[c]⟩=true):48<=c/\c<=57:=by
 have:∀ c:Fin 128,Txt.contains fgL ⟨#[c.val]⟩=true->48<=c.val/\c.val<=57:=by decide +kernel
 exact this ⟨c,z⟩ h
def numP (x:Str):Option Int:=if W4 x then intText? x else none
def Zf9 {x:Str} (h:W4 x=true) (ha:Asc x):∃ n,intText? x=some n:=by
 unfold W4 at h;rw [Bool.and_eq_true,Bool.and_eq_true,Bool.and_eq_true,decide_eq_true_eq,decide_eq_true_eq] at h;obtain ⟨⟨⟨h1,h2⟩,h3⟩,_⟩:=h;have hd:NumText.AllDigits x.cps.toList:=λc hc=>by
  unfold mdL at h3
  rw [List.all_map,List.all_eq_true] at h3
  exact Zkd (ha c hc) (h3 c hc)
 have hl:x.length=x.cps.toList.length:=by rw [Array.length_toList]; rfl
 exact ⟨_,intText_digits hd (λe=>by rw [e] at hl; rw [hl] at h1; exact absurd h1 (by decide)) (by lia)⟩
def Fn (EB:Addr):Sp:=λvs H Q E=>∃ b:Bool,vs=[.bl b]/\(b=true->Q .non H)/\(b=false->E (.ref EB) none H)
def Fo:Sp:=λvs H Q _=>∃ x:Str,vs=[.str x]/\Asc x/\x.length<=900/\∀ H',Same H H'->Q (.bl (W4 x)) H'
def Fm (EB:Addr):Sp:=λvs H Q E=>∃ x:Str,vs=[.str x]/\Asc x/\x.length<=900/\∀ H',Same H H'->(∀ n,numP x=some n->Q (.int n) H')/\(numP x=none->E (.ref EB) none H')
def Zcu (EB:Addr):Sp:=λvs H Q E=>∃ x:Str,vs=[.str x]/\Asc x/\x.length<=900/\∀ H',Same H H'->(isN x=true->Q (.str x) H')/\(isN x=false->E (.ref EB) none H')
def Fv:FnScope ["right"] ["right"] (Zf Uh):=Am
def Yf (T:Txt w K mg t):FnOk P w K mg base (CXr P w) 1 t.cN t.cU ["right"] (Fn t.ac):=by
 refine T.ah.F.aX Fv (λ_ _ _ _ H vs Q E hr h=>?_)
 ·obtain ⟨b,rfl,h1,h2⟩:=h
  refine ⟨_,(Zu (Xr (X2 (Jr (pv 0))) (Zu (Xd T.gv FBV Z T.c8 Z (Za Zl Zc))) Xn)),?_⟩
  cases b with
  | true=>exact ⟨_,Z,_,Z,iteF (h1 Z)⟩
  | false=>exact ⟨_,Z,_,Z,iteT ⟨by decide,h2 Z⟩⟩
def Fw:FnScope ["text"] ["text"] (Zf Uj):=Am
def Zaq (T:Txt w K mg t):FnOk P w K mg base (CXr P w) 2 t.cL t.cS ["text"] Fo:=by
 refine T.cY.F.aR Fw (λ_ _ _ _ H vs Q E hr h=>?_)
 ·obtain ⟨x,rfl,hx,hz,k⟩:=h
  refine ⟨_,(Zg (Yt (PW.pt (V3 (X2 (Zfx Oy Oy Zd (Zp V0 (by rfl) T.aj PySem.boot_len (Za (pv 0) Zc)) (Y3 (v:=.int 61) Z T.d6 ⟨_,Z⟩))) (Qe (X2 (Jr (pcT (O0 T) hr T.cD (Za (pv 0) (Za (Y3 (v:=.str (Str.ofString "0123456789")) rfl T.gP ⟨_,rfl⟩) Zc)))))))) (Zi (Zw Zgy)) Yc)
   (Zi (Zw (Zj6 (Xi Yv (pv 0) Zl (Zr _)) (Vs (Zi1 (Yu PySem.F.plainAttrs_str PySem.F.slot_str_startswith PySem.F.type_str_startswith Q5 (pv 0) (Za Zl Zc)))))))),?_⟩;have hl:x.length<=sizeLine:=by rw [sizeLine_eq]; lia
  refine Z8 (λσ H'=>σ=[some (.str x)]/\Same H H'/\(decide (1<=(x.length:Int)) && decide ((x.length:Int)<=61) && (mdL x fgL).all id)=true) (λnx ke=>?_) ?_
  ·have R:∀ H',Same H H'->(decide (1<=(x.length:Int)) && decide ((x.length:Int)<=61) && (mdL x fgL).all id)=false->Q (.bl false) H':=λH' s' e=>by
    have:=k H' s';unfold W4 at this;rw [e,Bool.false_and] at this;exact this
   refine ⟨_,Z,x,Z,hl,_,_,Z,Z,_,Z,?_⟩;refine ite2 (λz=>⟨_,_,Z,Z,_,Z,?_⟩) (λz=>?_)
   ·refine ite2 (λz2=>?_) (λz2=>?_)
    ·exact iteT (R _ (Same.refl _) (by rw [show decide ((x.length:Int)<=61)=false by simpa using z2,Bool.and_false,Bool.false_and]))
    ·have z2:decide ((x.length:Int)<=61)=true:=by simpa using z2
     refine ⟨_,Z,x,_,Z,hx.all,hz,λH' s'=>?_⟩;refine ⟨_,Z,?_⟩;refine ite2 (λe=>R _ s' (by rw [show (mdL x fgL).all id=false from by have e:(!(mdL x fgL).all id)=true:=e; revert e; cases (mdL x fgL).all id <;> decide,Bool.and_false])) (λe=>ke _ _ ⟨rfl,s',by rw [z,z2,show (mdL x fgL).all id=true from by have e:¬ (!(mdL x fgL).all id)=true:=e; revert e; cases (mdL x fgL).all id <;> decide]; rfl⟩)
   ·exact ⟨_,Z,iteT (iteT (R _ (Same.refl _) (by rw [Bool.eq_false_iff.mpr z,Bool.false_and,Bool.false_and])))⟩
  rintro σ H1 ⟨rfl,s1,e1⟩;have kk:=k H1 s1;unfold W4 at kk;rw [e1,Bool.true_and] at kk;refine ⟨_,Z,Z,_,Z,?_⟩;have ed:decide (V.str x=V.str (Str.ofString "0"))=decide (x=Str.ofString "0"):=decide_eq_decide.mpr ⟨λe=>by injection e,λe=>by rw [e]⟩;refine ite2 (λz=>?_) (λz=>?_)
  ·rw [ed] at z
   rw [z,Bool.true_or] at kk;exact kk
  ·rw [ed] at z
   rw [Bool.eq_false_iff.mpr z,Bool.false_or] at kk;exact ⟨_,Z,Z,_,_,Z,Z,_,Z,kk⟩
def Fu:FnScope ["word"] ["word"] (Zf Ug):=Am
def Wp (T:Txt w K mg t):FnOk P w K mg base (CXr P w) 3 t.cO t.cV ["word"] (Fm t.ac):=by
 refine T.av.F.aX Fu (λ_ _ _ _ H vs Q E hr h=>?_)
 ·obtain ⟨x,rfl,hx,hz,k⟩:=h
  refine ⟨_,(Zx (Z9 (pxT (Yf T) hr T.ah (Za (pcT (Zaq T) hr T.cY (Za (pv 0) Zc)) Zc)))
   (Zu (Z3 (Zw (J2 Zfe (by rfl) T.jt PySem.Pv.boot_int (Za (pv 0) Zc)))))),?_⟩;refine ⟨_,Z,x,Z,hx,hz,λH1 s1=>?_⟩;obtain ⟨k1,k2⟩:=k H1 s1;refine ⟨W4 x,Z,λe=>?_,λe=>k2 (by unfold numP; rw [if_neg (by rw [e]; decide)])⟩;obtain ⟨n,hn⟩:=Zf9 e hx;refine ⟨_,Z,x,n,Z,hn,?_,k1 n (by unfold numP; rw [if_pos e]; exact hn)⟩;unfold W4 at e;rw [Bool.and_eq_true,Bool.and_eq_true,Bool.and_eq_true,decide_eq_true_eq,decide_eq_true_eq] at e;lia
def Zc2:FnScope ["word"] ["word"] (Zf K3):=Am
def Oz (T:Txt w K mg t):FnOk P w K mg base (CXr P w) 3 t.eK t.eT ["word"] (Zcu t.ac):=by
 refine T.cF.F.aX Zc2 (λ_ _ _ _ H vs Q E hr h=>?_)
 ·obtain ⟨x,rfl,hx,hz,k⟩:=h
  refine ⟨_,(Zx (Z9 (pxT (Yf T) hr T.ah (Za (pcT (O1 T) hr T.cE (Za (pv 0) Zc)) Zc)))
   (Zu (Z3 (Zw (pv 0))))),?_⟩;refine ⟨_,Z,x,Z,hx.all,hz,λH1 s1=>?_⟩;obtain ⟨k1,k2⟩:=k H1 s1;exact ⟨isN x,Z,λe=>⟨_,Z,k1 e⟩,k2⟩
def wdS (x:Str):List Str:=Txt.split x (Str.ofString " ")
theorem Zez {c d:Nat}:∀ {l:List (List Nat)} {a:List Nat},a∈l->d∈a->d∈jnL c l
 | [b],a,h,hd=>by rw [Af h] at hd; exact hd
 | b :: b' :: r,a,h,hd=>by
  show d∈b ++ c :: jnL c (b' :: r)
  rcases Ar h with rfl | h
  ·exact List.mem_append.mpr (.inl hd)
  ·exact List.mem_append.mpr (.inr (List.mem_cons_of_mem _ (Zez h hd)))
theorem Ze0 {c:Nat}:∀ {l:List (List Nat)} {a:List Nat},a∈l->a.length<=(jnL c l).length
 | [b],a,h=>by rw [Af h]; exact An _
 | b :: b' :: r,a,h=>by
  show a.length<=(b ++ c :: jnL c (b' :: r)).length;rw [Ae,List.length_cons]
  rcases Ar h with rfl | h
  ·lia
  ·have:=Ze0 (c:=c) h
   lia
def Zfl (x:Str) (c:Nat):x.cps.toList=jnL c ((Txt.split x ⟨#[c]⟩).map λx=>x.cps.toList):=by rw [<- W3,StrLaws.join_split]
def Zcs {x p:Str} {c:Nat} (hx:Asc x) (h:p∈Txt.split x ⟨#[c]⟩):Asc p/\p.length<=x.length:=by
 have e:=Zfl x c;have hm:p.cps.toList∈(Txt.split x ⟨#[c]⟩).map λx=>x.cps.toList:=List.mem_map.mpr ⟨p,h,rfl⟩;refine ⟨λd hd=>hx d (by rw [e]; exact Zez hm hd),?_⟩;have:=Ze0 (c:=c) hm;rw [<- e,Array.length_toList,Array.length_toList] at this;exact this
def Wr {x p:Str} (hx:Asc x) (h:p∈wdS x):Asc p/\p.length<=x.length:=Zcs hx h
def Ff (x:Str):(wdS x).length<=x.length + 2:=Kz
def cloP (x:Str):Option (Int × Int × Int):=match wdS x with
 | [_,a,b,c]=>match numP a,numP b,numP c with
  | some i,some j,some k=>some (i,j,k)
  | _,_,_=>none
 | _=>none
def Zbi (EB:Addr):Sp:=λvs H Q E=>∃ x:Str,vs=[.str x]/\Asc x/\x.length<=900/\(∀ i j k,cloP x=some (i,j,k)->∀ (l:Addr) (H':Hp),Same H H'->H l=none->H' l=some (.tup [.int i,.int j,.int k])->Q (.ref l) H')/\(cloP x=none->∀ H',Same H H'->E (.ref EB) none H')
def Zcw (EB:Addr):Sp:=λvs H Q E=>∃ (a:Addr) (ws:List Str),vs=[.ref a]/\H a=some (.lst (ws.map V.str))/\(∀ x∈ws,Asc x/\x.length<=900)/\(∀ x,ws=[x]->isN x=true->∀ (l:Addr) (H':Hp),Same H H'->H l=none->H' l=some (.tup [.str x])->Q (.ref l) H')/\((∀ x,ws=[x]->isN x=false)->∀ H',Same H H'->E (.ref EB) none H')
def Xx (l:List Str):Option (List Int):=if l.all (λx=>(numP x).isSome) then some (l.map λx=>(numP x).getD 0) else none
def cut1 (x:Str) (l:List Str):cutV ((x :: l).map V.str) (some 1) none=l.map V.str:=by
 unfold cutV;rw [show (some (1:Int))=some ((1:Nat):Int) from rfl,HT.sIx_nat];show List.take (((x :: l).map V.str).length - min 1 _) (List.drop (min 1 _) _)=_;rw [Ab,List.length_cons,Nat.min_eq_left (by lia)];show List.take (l.length + 1 - 1) (l.map V.str)=_;rw [Nat.add_sub_cancel,<- Ab (f:=V.str),List.take_length]
def Zd0 (EB:Addr):Sp:=λvs H Q E=>∃ (a:Addr) (ws:List Str),vs=[.ref a]/\H a=some (.lst (ws.map V.str))/\ws.length<=900/\(∀ x∈ws,Asc x/\x.length<=900)/\(∀ x y r ns,ws=x :: y :: r->isN x=true->Xx (y :: r)=some ns->∀ (l m:Addr) (H':Hp),Same H H'->H l=none->H m=none->H' l=some (.tup [.str x,.ref m])->H' m=some (.lst (ns.map V.int))->Q (.ref l) H')/\((∀ x y r,ws=x :: y :: r->isN x=true->Xx (y :: r)=none)->∀ H',Same H H'->E (.ref EB) none H')
def Ue:FnScope ["row","words"] ["row"] (Zf Oo):=Am
def Zbx (T:Txt w K mg t):FnOk P w K mg base (CXr P w) 4 t.dD t.dR ["row"] (Zbi t.ac):=by
 refine T.bq.F.okLA Ue (λvs H Q E h=>?_) (λ_ _ _ _ H vs Q E hr h=>?_)
 ·obtain ⟨x,rfl,_⟩:=h
  rfl
 ·obtain ⟨x,rfl,hx,hz,k1,k2⟩:=h
  refine ⟨_,(λ_ L=>(Zy (Ye L.l (Z3 (Zm (i:=1) Ue.nd Z (Or.inl Z) (Yu PySem.F.plainAttrs_str PySem.F.slot_str_split PySem.F.type_str_split Wz (pv 0) (Za Zl Zc)))))
   (Zy (Ye L.l (Z9 (pxT (Yf T) hr T.ah (Za (Xi Yv (Zp Zk (by rfl) T.aj PySem.boot_len (Za (pv 1) Zc)) Zd (Zr _)) Zc))))
   (Xo (Wu (Jk (Y6 (Jh L (pxT (Wp T) hr T.av (Za (Zn Zo (pv 1) Zd (λ_ _=>rfl)) Zc))) (Y6 (Jh L (pxT (Wp T) hr T.av (Za (Zn Zo (pv 1) Zd (λ_ _=>rfl)) Zc))) (Y6 (Jh L (pxT (Wp T) hr T.av (Za (Zn Zo (pv 1) Zd (λ_ _=>rfl)) Zc))) (Qg Zc)))))))))),?_⟩;refine ⟨_,Z,Z,x,Str.ofString " ",rfl,rfl,rfl,by rw [sizeLine_eq]; lia,λl hl=>?_⟩;have s1:Same H (upd H l (.lst ((Txt.split x (Str.ofString " ")).map V.str))):=Same.new hl;have h1:(upd H l (.lst ((Txt.split x (Str.ofString " ")).map V.str))) l=some (.lst ((Txt.split x (Str.ofString " ")).map V.str)):=Zb;generalize upd H l (.lst ((Txt.split x (Str.ofString " ")).map V.str))=H1 at s1 h1 ⊢;replace h1:H1 l=some (.lst ((wdS x).map V.str)):=h1;have o6:∀ p∈wdS x,Asc p/\p.length<=900:=λp hp=>⟨(Wr hx hp).1,Nat.le_trans (Wr hx hp).2 hz⟩;refine ⟨_,Z,l,_,Z,.inl (SqL.of h1),Z,_,Z,λe=>?_,λe=>?_⟩
  ·have e:(wdS x).length=4:=by
    have e:=of_decide_eq_true e;rw [Ab] at e
    injection e with e
    lia
   obtain ⟨a0,a1,a2,a3,ew⟩:∃ a0 a1 a2 a3,wdS x=[a0,a1,a2,a3]:=by
    match wdS x,e with
    | [a0,a1,a2,a3],_=>exact ⟨_,_,_,_,Z⟩
   rw [ew] at h1 o6;have p1:=o6 a1 (by simp);have p2:=o6 a2 (by simp);have p3:=o6 a3 (by simp)
   have no:(numP a1=none\/numP a2=none\/numP a3=none)->cloP x=none:=λz=>by
    unfold cloP;rw [ew]
    rcases z with z | z | z
    ·dsimp only; rw [z]
    ·dsimp only; rw [z]; cases numP a1 <;> rfl
    ·dsimp only; rw [z]; cases numP a1 <;> cases numP a2 <;> rfl
   refine ⟨_,Z,l,_,_,_,Z,Z,SqL.of h1,(show atI [V.str a0,V.str a1,V.str a2,V.str a3] 1=some (V.str a1) from Z),a1,Z,p1.1,p1.2,λH2 s2=>⟨λi hi=>?_,λz=>k2 (no (.inl z)) _ (s1.trans s2)⟩⟩;refine ⟨_,Z,l,_,_,_,Z,Z,SqL.of (s2 _ _ h1),(show atI [V.str a0,V.str a1,V.str a2,V.str a3] 2=some (V.str a2) from Z),a2,Z,p2.1,p2.2,λH3 s3=>⟨λj hj=>?_,λz=>k2 (no (.inr (.inl z))) _ (s1.trans (s2.trans s3))⟩⟩;refine ⟨_,Z,l,_,_,_,Z,Z,SqL.of (s3 _ _ (s2 _ _ h1)),(show atI [V.str a0,V.str a1,V.str a2,V.str a3] 3=some (V.str a3) from Z),a3,Z,p3.1,p3.2,λH4 s4=>⟨λm hm=>?_,λz=>k2 (no (.inr (.inr z))) _ (s1.trans (s2.trans (s3.trans s4)))⟩⟩;have s04:=s1.trans (s2.trans (s3.trans s4));refine ⟨(by show 3<=sizeLine; decide),λq hq=>?_⟩;exact k1 i j m (by unfold cloP; rw [ew]; dsimp only; rw [hi,hj,hm]) q _ (s04.trans (Same.new hq)) (s04.free hq) Zb
  ·have e:(wdS x).length≠4:=λz=>by
    have e:=of_decide_eq_false e;exact e (by rw [Ab,z]; rfl)
   refine k2 ?_ _ s1;unfold cloP
   match wdS x,e with
   | [],_=>rfl
   | [_],_=>rfl
   | [_,_],_=>rfl
   | [_,_,_],_=>rfl
   | [_,_,_,_],e=>exact absurd Z e
   | _ :: _ :: _ :: _ :: _ :: _,_=>rfl
def Zc4:FnScope ["words"] ["words"] (Zf K5):=Am
def Zdd (T:Txt w K mg t):FnOk P w K mg base (CXr P w) 4 t.a9 t.eU ["words"] (Zcw t.ac):=by
 refine T.cG.F.okLA Zc4 (λvs H Q E h=>?_) (λ_ _ _ _ H vs Q E hr h=>?_)
 ·obtain ⟨a,ws,rfl,_⟩:=h
  rfl
 ·obtain ⟨a,ws,rfl,ha,hw,k1,k2⟩:=h
  refine ⟨_,(λ_ L=>(Zy (Ye L.l (Z9 (pxT (Yf T) hr T.ah (Za (Xi Yv (Zp Zk (by rfl) T.aj PySem.boot_len (Za (pv 0) Zc)) Zd (Zr _)) Zc))))
   (Xo (Wu (Jk (Y6 (Jh L (pxT (Oz T) hr T.cF (Za (Zn Zo (pv 0) Zd (λ_ _=>rfl)) Zc))) (Qg Zc))))))),?_⟩;refine ⟨_,Z,a,_,Z,.inl (SqL.of ha),Z,_,Z,λe=>?_,λe=>?_⟩
  ·have e:ws.length=1:=by
    have e:=of_decide_eq_true e;rw [Ab] at e
    injection e with e
    lia
   obtain ⟨x,rfl⟩:∃ x,ws=[x]:=by
    match ws,e with
    | [x],_=>exact ⟨_,Z⟩
   have p1:=hw x List.mem_cons_self;refine ⟨_,Z,a,_,_,_,Z,Z,SqL.of ha,(show atI [V.str x] 0=some (V.str x) from Z),x,Z,p1.1,p1.2,λH2 s2=>⟨λz=>?_,λz=>k2 (λy e=>by injection e with e; rw [<- e]; exact z) _ s2⟩⟩;refine ⟨(by show 1<=sizeLine; decide),λq hq=>?_⟩;exact k1 x Z z q _ (s2.trans (Same.new hq)) (s2.free hq) Zb
  ·have e:=of_decide_eq_false e
   exact k2 (λx z=>absurd (by rw [z]; rfl) e) _ (Same.refl _)
def Zd3:FnScope ["words"] ["words"] (Zf F1):=Am
def Zeo (T:Txt w K mg t):FnOk P w K mg base (CXr P w) 4 t.bA t.fV ["words"] (Zd0 t.ac):=by
 refine T.dY.F.okLA Zd3 (λvs H Q E h=>?_) (λ_ _ _ _ H vs Q E hr h=>?_)
 ·obtain ⟨a,ws,rfl,_⟩:=h
  rfl
 ·obtain ⟨a,ws,rfl,ha,u6,hw,k1,k2⟩:=h
  refine ⟨_,(λ_ L=>(Zy (Ye L.l (Z9 (pxT (Yf T) hr T.ah (Za (Xi Zg0 (Zp Zk (by rfl) T.aj PySem.boot_len (Za (pv 0) Zc)) Zd (Zr _)) Zc))))
   (Xo (Wu (Jk (Y6 (Jh L (pxT (Oz T) hr T.cF (Za (Zn Zo (pv 0) Zd (λ_ _=>rfl)) Zc))) (Y6 (Zj5 L (Zf1 (ts:=["word"]) (fv:=[]) ⟨rfl,by decide +kernel,by decide +kernel,Ym (by rfl),trivial⟩ rfl (Xf (X4 Wf (pv 0) (Wg Zd) Wh)) (λ_ _ _ _=>(Zs (i:=0) (show List.Nodup (["word"]:List Str) from by decide +kernel) rfl (Or.inl rfl) (Or.inr rfl))) (λ_ _ _ _=>Yi) (λ_ _ _=>rfl) (λ_ _ _ _ _ _=>Uz (Uy (Wp T) (hr.mono (by decide)) rfl T.av.g T.av.F.kp T.av.b .nil (Za (pv 0) Zc))))) (Qg Zc)))))))),?_⟩;refine ⟨_,Z,a,_,Z,.inl (SqL.of ha),_,_,Z,Z,_,Z,λe=>?_,λe=>?_⟩
  ·have e:2<=ws.length:=by
    have e:=of_decide_eq_true e;rw [Ab] at e;lia
   obtain ⟨x,y,r,rfl⟩:∃ x y r,ws=x :: y :: r:=by
    match ws,e with
    | x :: y :: r,_=>exact ⟨_,_,_,Z⟩
   have p1:=hw x List.mem_cons_self;refine ⟨_,Z,a,_,_,_,Z,Z,SqL.of ha,(show atI (List.map V.str (x :: y :: r)) ((0:Nat):Int)=some (V.str x) from Xt (i:=0) Z),x,Z,p1.1,p1.2,λH2 s2=>⟨λz=>?_,λz=>k2 (λx' y' r' e=>by injection e with e; rw [<- e,z]; exact λq=>nomatch q) _ s2⟩⟩;refine ⟨_,Z,_,Z,a,_,Z,SqL.of (s2 _ _ ha),λc hc=>?_⟩;rw [cut1];have s3:Same H2 (upd H2 c (.lst ((y :: r).map V.str))):=Same.new hc;have h3:(upd H2 c (.lst ((y :: r).map V.str))) c=some (.lst ((y :: r).map V.str)):=Zb;generalize upd H2 c (.lst ((y :: r).map V.str))=H3 at s3 h3 ⊢;have ph:=s2.trans s3;refine ⟨c,Z,⟨_,SqL.of h3⟩,λD hD=>?_⟩;have j1:(y :: r).length<=900:=by rw [List.length_cons] at u6; lia
   have tj:∀ q∈y :: r,Asc q/\q.length<=900:=λq hq=>hw q (List.mem_cons_of_mem _ hq);refine Ys (xs:=(y :: r).map V.str) (λi σ H6=>∃ v,σ=[v]/\Same H3 H6/\H6 D=some (.lst ((((y :: r).take i).map λx=>(numP x).getD 0).map V.int))/\∀ q∈(y :: r).take i,(numP q).isSome=true) ⟨none,rfl,Same.new hD,Zb,λq hq=>by cases hq⟩ ?_ ?_ ?_
   ·rintro i σ H6 _ ⟨v,rfl,s6,_⟩
    exact SqL.of (s6 _ _ h3)
   ·rintro i q σ H6 hq ⟨v,rfl,s6,h6,hs⟩
    obtain ⟨p,hp,rfl⟩:=Yp hq;have vd:=(Aa hp).1;have pp:=tj p (Au hp);dsimp only [Zv,tYes];rw [if_pos rfl];refine ⟨_,Z,p,Z,pp.1,pp.2,λH7 s7=>⟨λn hn=>?_,λhn=>k2 (λx' y' r' e _=>?_) _ (ph.trans (s6.trans s7))⟩⟩
    ·have et:(y :: r).take (i + 1)=(y :: r).take i ++ [p]:=by rw [Aw,hp]; rfl
     refine ⟨_,s7 _ _ h6,by rw [Ab,Ab,Ai]; exact Z0 (by lia),_,Z,Same.add (s6.trans s7) hD,?_,λq hq=>?_⟩
     ·rw [Zb,et,Aj,Aj]
      show _=some (HO.lst (_ ++ [V.int ((numP p).getD 0)]));rw [hn];rfl
     ·rw [et] at hq
      rcases List.mem_append.mp hq with z | z
      ·exact hs q z
      ·rw [Af z,hn]; rfl
    ·injection e with _ e
     rw [<- e];unfold Xx;rw [if_neg];intro z;have:=List.all_eq_true.mp z p (Au hp);rw [hn] at this;cases this
   ·rintro σ H6 ⟨v,rfl,s6,h6,hs⟩
    rw [Ab,List.take_length] at h6 hs;refine ⟨(by show 2<=sizeLine; decide),λq hq=>?_⟩;have ub:=ph.trans s6;exact k1 x y r _ Z z (by unfold Xx; rw [if_pos (List.all_eq_true.mpr hs)]) q D _ (ub.trans (Same.new hq)) (ub.free hq) (ph.free hD) Zb (Same.new hq _ _ h6)
  ·have e:=of_decide_eq_false e
   exact k2 (λx y r z=>absurd (by rw [z]; show (2:Int)<=_; rw [Ab,List.length_cons,List.length_cons]; lia) e) _ (Same.refl _)
def rdK (t:Adr):List (Key × V):=[(Sum.inr "lay",.ref t.bA),(Sum.inr "pour",.ref t.cz),(Sum.inr "lift",.ref t.a9),(Sum.inr "weigh",.ref t.bY),(Sum.inr "turn",.ref t.ba)]
def Zb6 (t:Adr):valV (rdK t) (Sum.inr (Str.ofString "lift"))=some (.ref t.a9):=rfl
def Zeb (t:Adr):valV (rdK t) (Sum.inr (Str.ofString "lay"))=some (.ref t.bA):=rfl
def Zb5 (t:Adr):valV (rdK t) (Sum.inr (Str.ofString "turn"))=some (.ref t.ba):=rfl
def rdN:List Str:=["lay","pour","lift","weigh","turn"]
def Zj0 {t:Adr} {x:Str} (h:x ∉ rdN):valV (rdK t) (Sum.inr x)=none:=by
 unfold valV rdK;rw [List.find?_eq_none.mpr]
 ·rfl
 ·intro y hy e
  unfold rdN at h;simp only [List.mem_cons,List.not_mem_nil,or_false,not_or] at hy h;obtain ⟨h1,h2,h3,h4,h5⟩:=h
  rcases hy with rfl | rfl | rfl | rfl | rfl <;> (have e:=of_decide_eq_true e; injection e with e)
  ·exact h1 e.symm
  ·exact h2 e.symm
  ·exact h3 e.symm
  ·exact h4 e.symm
  ·exact h5 e.symm
def Zbe (EB:Addr):Sp:=λvs H Q E=>∃ (a:Addr) (ws:List Str),vs=[.ref a]/\H a=some (.lst (ws.map V.str))/\ws.length≠2/\E (.ref EB) none H
def Qo (EB:Addr):Sp:=λvs H Q E=>∃ (x y:Str) (r:List Str),vs=[.str x]/\x.length<=900/\wdS x=y :: r/\y ∉ rdN/\∀ H',Same H H'->E (.ref EB) none H'
def Jn (EB:Addr):Sp:=λvs H Q E=>∃ (x:Str) (r:List Str),vs=[.str x]/\x.length<=900/\wdS x=Str.ofString "turn" :: r/\r.length≠2/\∀ H',Same H H'->E (.ref EB) none H'
def Jo (EB:Addr):Sp:=λvs H Q E=>∃ (x:Str) (r:List Str),vs=[.str x]/\Asc x/\x.length<=900/\wdS x=Str.ofString "lift" :: r/\(∀ y,r=[y]->isN y=true->∀ (l m:Addr) (H':Hp),Same H H'->H l=none->H m=none->H' l=some (.tup [.str (Str.ofString "lift"),.ref m])->H' m=some (.tup [.str y])->Q (.ref l) H')/\((∀ y,r=[y]->isN y=false)->∀ H',Same H H'->E (.ref EB) none H')
def J9 (EB:Addr):Sp:=λvs H Q E=>∃ (x:Str) (r:List Str),vs=[.str x]/\Asc x/\x.length<=890/\wdS x=Str.ofString "lay" :: r/\(∀ y z q ns,r=y :: z :: q->isN y=true->Xx (z :: q)=some ns->∀ (l m n:Addr) (H':Hp),Same H H'->H l=none->H m=none->H n=none->H' l=some (.tup [.str (Str.ofString "lay"),.ref m])->H' m=some (.tup [.str y,.ref n])->H' n=some (.lst (ns.map V.int))->Q (.ref l) H')/\((∀ y z q,r=y :: z :: q->isN y=true->Xx (z :: q)=none)->∀ H',Same H H'->E (.ref EB) none H')
def Zc1:FnScope ["words"] ["words"] (Zf K2):=Am
def Zdb (T:Txt w K mg t):FnOk P w K mg base (CXr P w) 4 t.ba t.eV ["words"] (Zbe t.ac):=by
 refine T.cH.F.aX Zc1 (λ_ _ _ _ H vs Q E hr h=>?_)
 ·obtain ⟨a,ws,rfl,ha,kc,k⟩:=h
  refine ⟨_,(Zx (Z9 (pxT (Yf T) hr T.ah (Za (Ow (Xi Yv (Zp Zk (by rfl) T.aj PySem.boot_len (Za (pv 0) Zc)) Zd (Zr _)) (Vs (Xi Zel (Zn Zo (pv 0) Zd (λ_ _=>rfl)) (Y3 (v:=.ref t.ig) Z T.iU Z) (by with_unfolding_all rfl)))) Zc)))
   (V4 X3)),?_⟩;refine ⟨_,Z,a,_,Z,.inl (SqL.of ha),Z,_,Z,?_⟩;refine ite2 (λz=>absurd ?_ kc) (λz=>⟨false,Z,λe=>(nomatch e),λ_=>k⟩);have z:=of_decide_eq_true z;rw [Ab] at z
  injection z with z
  lia
def Yo:FnScope ["text","words","reader"] ["text"] (Zf K9):=Am
def Zdg (T:Txt w K mg t):FnOk P w K mg base (CXr P w) 5 t.aI t.aJ ["text"] (Qo t.ac):=by
 refine T.aD.F.aX Yo (λ_ _ _ _ H vs Q E hr h=>?_)
 ·obtain ⟨x,y,r,rfl,hz,hw,hy,k⟩:=h
  refine ⟨_,(Zx (Z3 (Zm (i:=1) Yo.nd Z (Or.inl Z) (Yu PySem.F.plainAttrs_str PySem.F.slot_str_split PySem.F.type_str_split Wz (pv 0) (Za Zl Zc))))
   (Zx (Z9 (pxT (Yf T) hr T.ah (Za (Ov (Ox (Zn Zo (pv 1) Zd (λ_ _=>rfl)) (Y3 (v:=.ref t.ag) rfl T.aw rfl)) (by with_unfolding_all rfl)) Zc)))
   (V4 X3))),?_⟩;refine ⟨_,Z,Z,x,Str.ofString " ",rfl,rfl,rfl,by rw [sizeLine_eq]; lia,λl hl=>?_⟩;have s1:Same H (upd H l (.lst ((Txt.split x (Str.ofString " ")).map V.str))):=Same.new hl;have h1:(upd H l (.lst ((Txt.split x (Str.ofString " ")).map V.str))) l=some (.lst ((Txt.split x (Str.ofString " ")).map V.str)):=Zb;generalize upd H l (.lst ((Txt.split x (Str.ofString " ")).map V.str))=H1 at s1 h1 ⊢;replace h1:H1 l=some (.lst ((wdS x).map V.str)):=h1;rw [hw] at h1;refine ⟨_,Z,l,_,_,_,Z,Z,SqL.of h1,(show atI (List.map V.str (y :: r)) ((0:Nat):Int)=some (V.str y) from Xt (i:=0) Z),t.ag,_,Sum.inr y,Z,T.az,Z,_,Z,λe=>?_,λ_=>k _ s1⟩;have e:(valV (rdK t) (Sum.inr y)).isSome=true:=e;rw [Zj0 hy] at e;cases e
def Zar (T:Txt w K mg t):FnOk P w K mg base (CXr P w) 5 t.aI t.aJ ["text"] (Jn t.ac):=by
 refine T.aD.F.okLA Yo (λvs H Q E h=>?_) (λ_ _ _ _ H vs Q E hr h=>?_)
 ·obtain ⟨x,r,rfl,_⟩:=h
  rfl
 ·obtain ⟨x,r,rfl,hz,hw,qd,k⟩:=h
  refine ⟨_,(λ_ L=>(Zy (Ye L.l (Z3 (Zm (i:=1) Yo.nd Z (Or.inl Z) (Yu PySem.F.plainAttrs_str PySem.F.slot_str_split PySem.F.type_str_split Wz (pv 0) (Za Zl Zc)))))
   (Zy (Ye L.l (Z9 (pxT (Yf T) hr T.ah (Za (Ov (Ox (Zn Zo (pv 1) Zd (λ_ _=>rfl)) (Y3 (v:=.ref t.ag) rfl T.aw rfl)) (by with_unfolding_all rfl)) Zc))))
   (Zy (Ye L.l (Z3 (Zm (i:=2) Yo.nd rfl (Or.inl rfl) (Kq (Y3 (v:=.ref t.ag) rfl T.aw rfl) (Zn Zo (pv 1) Zd (λ_ _=>rfl)) (λ_ _=>rfl)))))
   (Xo (Wu (Jk (Y6 (Zak (Zn Zo (pv 1) Zd (λ_ _=>rfl))) (Y6 (Jh L (Vr (i:=2) (Zdb T) (hr.mono (by decide)) rfl (Or.inl rfl) T.cH.F.kp T.cH.b .nil (Za (X4 Wf (pv 1) (Wg Zd) Wh) Zc))) (Qg Zc)))))))))),?_⟩;refine ⟨_,Z,Z,x,Str.ofString " ",rfl,rfl,rfl,by rw [sizeLine_eq]; lia,λl hl=>?_⟩;have s1:Same H (upd H l (.lst ((Txt.split x (Str.ofString " ")).map V.str))):=Same.new hl;have h1:(upd H l (.lst ((Txt.split x (Str.ofString " ")).map V.str))) l=some (.lst ((Txt.split x (Str.ofString " ")).map V.str)):=Zb;generalize upd H l (.lst ((Txt.split x (Str.ofString " ")).map V.str))=H1 at s1 h1 ⊢;replace h1:H1 l=some (.lst ((wdS x).map V.str)):=h1;rw [hw] at h1;have h0:atI (List.map V.str (Str.ofString "turn" :: r)) ((0:Nat):Int)=some (V.str (Str.ofString "turn")):=Xt (i:=0) rfl;refine ⟨_,Z,l,_,_,_,Z,Z,SqL.of h1,h0,t.ag,_,Sum.inr (Str.ofString "turn"),rfl,T.az,rfl,_,rfl,λ_=>?_,λe=>?_⟩
  ·refine ⟨_,Z,l,_,_,_,Z,Z,SqL.of h1,h0,t.ag,_,Sum.inr (Str.ofString "turn"),_,rfl,T.az,rfl,Zb5 t,?_⟩
   refine ⟨_,Z,l,_,_,_,Z,Z,SqL.of h1,h0,?_⟩;refine ⟨Z,_,Z,_,Z,l,_,Z,SqL.of h1,λc hc=>?_⟩;rw [cut1];exact ⟨c,r,Z,Zb,qd,k _ (s1.trans (Same.new hc))⟩
  ·have e:(valV (rdK t) (Sum.inr (Str.ofString "turn"))).isSome=false:=e
   rw [Zb5] at e;cases e
def Zas (T:Txt w K mg t):FnOk P w K mg base (CXr P w) 5 t.aI t.aJ ["text"] (Jo t.ac):=by
 refine T.aD.F.okLA Yo (λvs H Q E h=>?_) (λ_ _ _ _ H vs Q E hr h=>?_)
 ·obtain ⟨x,r,rfl,_⟩:=h
  rfl
 ·obtain ⟨x,r,rfl,hx,hz,hw,k1,k2⟩:=h
  refine ⟨_,(λ_ L=>(Zy (Ye L.l (Z3 (Zm (i:=1) Yo.nd Z (Or.inl Z) (Yu PySem.F.plainAttrs_str PySem.F.slot_str_split PySem.F.type_str_split Wz (pv 0) (Za Zl Zc)))))
   (Zy (Ye L.l (Z9 (pxT (Yf T) hr T.ah (Za (Ov (Ox (Zn Zo (pv 1) Zd (λ_ _=>rfl)) (Y3 (v:=.ref t.ag) rfl T.aw rfl)) (by with_unfolding_all rfl)) Zc))))
   (Zy (Ye L.l (Z3 (Zm (i:=2) Yo.nd rfl (Or.inl rfl) (Kq (Y3 (v:=.ref t.ag) rfl T.aw rfl) (Zn Zo (pv 1) Zd (λ_ _=>rfl)) (λ_ _=>rfl)))))
   (Xo (Wu (Jk (Y6 (Zak (Zn Zo (pv 1) Zd (λ_ _=>rfl))) (Y6 (Jh L (Vr (i:=2) (Zdd T) (hr.mono (by decide)) rfl (Or.inl rfl) T.cG.F.kp T.cG.b .nil (Za (X4 Wf (pv 1) (Wg Zd) Wh) Zc))) (Qg Zc)))))))))),?_⟩;refine ⟨_,Z,Z,x,Str.ofString " ",rfl,rfl,rfl,by rw [sizeLine_eq]; lia,λl hl=>?_⟩;have s1:Same H (upd H l (.lst ((Txt.split x (Str.ofString " ")).map V.str))):=Same.new hl;have h1:(upd H l (.lst ((Txt.split x (Str.ofString " ")).map V.str))) l=some (.lst ((Txt.split x (Str.ofString " ")).map V.str)):=Zb;generalize upd H l (.lst ((Txt.split x (Str.ofString " ")).map V.str))=H1 at s1 h1 ⊢;replace h1:H1 l=some (.lst ((wdS x).map V.str)):=h1;have o6:∀ p∈wdS x,Asc p/\p.length<=900:=λp hp=>⟨(Wr hx hp).1,Nat.le_trans (Wr hx hp).2 (by lia)⟩;have wl:=Ff x;rw [hw] at h1 o6 wl;have h0:atI (List.map V.str (Str.ofString "lift" :: r)) ((0:Nat):Int)=some (V.str (Str.ofString "lift")):=Xt (i:=0) rfl;refine ⟨_,Z,l,_,_,_,Z,Z,SqL.of h1,h0,t.ag,_,Sum.inr (Str.ofString "lift"),rfl,T.az,rfl,_,rfl,λ_=>?_,λe=>?_⟩
  ·refine ⟨_,Z,l,_,_,_,Z,Z,SqL.of h1,h0,t.ag,_,Sum.inr (Str.ofString "lift"),_,rfl,T.az,rfl,Zb6 t,?_⟩
   refine ⟨_,Z,l,_,_,_,Z,Z,SqL.of h1,h0,?_⟩;refine ⟨Z,_,Z,_,Z,l,_,Z,SqL.of h1,λc hc=>?_⟩;rw [cut1];have s2:Same H1 (upd H1 c (.lst (r.map V.str))):=Same.new hc;have l9:=s1.trans s2;refine ⟨c,r,Z,Zb,λp hp=>o6 p (List.mem_cons_of_mem _ hp),λy ey ny m H3 s3 hm h3=>?_,λz H3 s3=>k2 z _ (l9.trans s3)⟩;have ph:=l9.trans s3;refine ⟨(by show 2<=sizeLine; decide),λq hq=>?_⟩;exact k1 y ey ny q m _ (ph.trans (Same.new hq)) (ph.free hq) (l9.free hm) Zb (Same.new hq _ _ h3)
  ·have e:(valV (rdK t) (Sum.inr (Str.ofString "lift"))).isSome=false:=e
   rw [Zb6] at e;cases e
def Zbw (T:Txt w K mg t):FnOk P w K mg base (CXr P w) 5 t.aI t.aJ ["text"] (J9 t.ac):=by
 refine T.aD.F.okLA Yo (λvs H Q E h=>?_) (λ_ _ _ _ H vs Q E hr h=>?_)
 ·obtain ⟨x,r,rfl,_⟩:=h
  rfl
 ·obtain ⟨x,r,rfl,hx,hz,hw,k1,k2⟩:=h
  refine ⟨_,(λ_ L=>(Zy (Ye L.l (Z3 (Zm (i:=1) Yo.nd Z (Or.inl Z) (Yu PySem.F.plainAttrs_str PySem.F.slot_str_split PySem.F.type_str_split Wz (pv 0) (Za Zl Zc)))))
   (Zy (Ye L.l (Z9 (pxT (Yf T) hr T.ah (Za (Ov (Ox (Zn Zo (pv 1) Zd (λ_ _=>rfl)) (Y3 (v:=.ref t.ag) rfl T.aw rfl)) (by with_unfolding_all rfl)) Zc))))
   (Zy (Ye L.l (Z3 (Zm (i:=2) Yo.nd rfl (Or.inl rfl) (Kq (Y3 (v:=.ref t.ag) rfl T.aw rfl) (Zn Zo (pv 1) Zd (λ_ _=>rfl)) (λ_ _=>rfl)))))
   (Xo (Wu (Jk (Y6 (Zak (Zn Zo (pv 1) Zd (λ_ _=>rfl))) (Y6 (Jh L (Vr (i:=2) (Zeo T) (hr.mono (by decide)) rfl (Or.inl rfl) T.dY.F.kp T.dY.b .nil (Za (X4 Wf (pv 1) (Wg Zd) Wh) Zc))) (Qg Zc)))))))))),?_⟩;refine ⟨_,Z,Z,x,Str.ofString " ",rfl,rfl,rfl,by rw [sizeLine_eq]; lia,λl hl=>?_⟩;have s1:Same H (upd H l (.lst ((Txt.split x (Str.ofString " ")).map V.str))):=Same.new hl;have h1:(upd H l (.lst ((Txt.split x (Str.ofString " ")).map V.str))) l=some (.lst ((Txt.split x (Str.ofString " ")).map V.str)):=Zb;generalize upd H l (.lst ((Txt.split x (Str.ofString " ")).map V.str))=H1 at s1 h1 ⊢;replace h1:H1 l=some (.lst ((wdS x).map V.str)):=h1;have o6:∀ p∈wdS x,Asc p/\p.length<=900:=λp hp=>⟨(Wr hx hp).1,Nat.le_trans (Wr hx hp).2 (by lia)⟩;have wl:=Ff x;rw [hw] at h1 o6 wl;have h0:atI (List.map V.str (Str.ofString "lay" :: r)) ((0:Nat):Int)=some (V.str (Str.ofString "lay")):=Xt (i:=0) rfl;refine ⟨_,Z,l,_,_,_,Z,Z,SqL.of h1,h0,t.ag,_,Sum.inr (Str.ofString "lay"),rfl,T.az,rfl,_,rfl,λ_=>?_,λe=>?_⟩
  ·refine ⟨_,Z,l,_,_,_,Z,Z,SqL.of h1,h0,t.ag,_,Sum.inr (Str.ofString "lay"),_,rfl,T.az,rfl,Zeb t,?_⟩
   refine ⟨_,Z,l,_,_,_,Z,Z,SqL.of h1,h0,?_⟩;refine ⟨Z,_,Z,_,Z,l,_,Z,SqL.of h1,λc hc=>?_⟩;rw [cut1];have s2:Same H1 (upd H1 c (.lst (r.map V.str))):=Same.new hc;have l9:=s1.trans s2;refine ⟨c,r,Z,Zb,(by rw [List.length_cons] at wl; lia),λp hp=>o6 p (List.mem_cons_of_mem _ hp),λy z' q' ns ey ny en m n H3 s3 hm hn h3 h4=>?_,λz H3 s3=>k2 z _ (l9.trans s3)⟩;have ph:=l9.trans s3;refine ⟨(by show 2<=sizeLine; decide),λq hq=>?_⟩;exact k1 y z' q' ns ey ny en q m n _ (ph.trans (Same.new hq)) (ph.free hq) (l9.free hm) (l9.free hn) Zb (Same.new hq _ _ h3) (Same.new hq _ _ h4)
  ·have e:(valV (rdK t) (Sum.inr (Str.ofString "lay"))).isSome=false:=e
   rw [Zeb] at e;cases e
def Zdh (T:Txt w K mg t):FnOk P w K mg base (CXr P w) 5 t.aI t.aJ ["text"] (λvs H Q E=>Qo t.ac vs H Q E\/Jn t.ac vs H Q E\/Jo t.ac vs H Q E\/J9 t.ac vs H Q E):=(Zdg T).or ((Zar T).or ((Zas T).or (Zbw T)))
def at4 (h0:0<=i) (h1:i < 4):∃ sh:Int,atI [V.int 0,V.int 0,V.int 1,V.int 3] i=some (V.int sh):=by
 obtain rfl | rfl | rfl | rfl:i=0\/i=1\/i=2\/i=3:=by lia
 all_goals exact ⟨_,Z⟩
def at8 (h0:0<=i) (h1:i < 8):∃ sp:Int,sp∈Qn/\atI [V.int 1,V.int 3,V.int 7,V.int 9,V.int 37,V.int 1009,V.int 3333,V.int 9999] i=some (V.int sp):=by
 obtain rfl | rfl | rfl | rfl | rfl | rfl | rfl | rfl:i=0\/i=1\/i=2\/i=3\/i=4\/i=5\/i=6\/i=7:=by lia
 all_goals exact ⟨_,by decide,Z⟩
def Zhe (K:W.Frag):Sp:=λvs H Q _=>∃ (a:Addr) (ns:List Int),vs=[.ref a]/\SqL K H a (ns.map V.int)/\ns.length<=63 /\
 ∀ (p m r:Addr) (M:List (Option Nat)) (nms:List Int) (H':Hp),Same H H'->H' p=some (.tup [.ref m,.ref r])->H' m=some (.lst (M.map mV))->Y2 H' r nms->TD M nms->M.length<=42->H m=none->H r=none->Q (.ref p) H'
def Xv:FnScope ["_law_script","_law_head","_law_many","_law_names","_law_share","_law_mates","_law_step"] ["_law_script"] (Zf F7):=Am
def Zeq (T:Txt w K mg t):FnOk P w K mg base (CXr P w) 2 t.fG t.fZ ["_law_script"] (Zhe K):=by
 refine T.gg.F.aR Xv (λ_ _ _ _ H vs Q E hr h=>?_)
 ·obtain ⟨a,ns,rfl,hS,hl,k⟩:=h
  refine ⟨_,(Zg (Zm (i:=1) Xv.nd Z (Or.inl Z) (pcT (Je T) hr T.bc (Za (pv 0) (Za Zd Zc))))
   (Zg (Zm (i:=2) Xv.nd rfl (Or.inl rfl) (Zj Y9 Zd (Zj Z1 (pv 1) Zd)))
   (Zg (Yt (Zt Yv (Zj Z1 (Zj Xs (pv 1) Zd) Zd) Zd (Zr _)) (Zi (Zm (i:=2) Xv.nd rfl (Or.inl rfl) (Zj Y9 Zd (Zj Z1 (Zj Xs (pv 1) Zd) Zd)))) Yc)
   (Zg (Zm (i:=3) Xv.nd rfl (Or.inl rfl) (pcT (Je T) hr T.bc (Za (pv 0) (Za Zd Zc))))
   (Zg (Zm (i:=4) Xv.nd rfl (Or.inl rfl) (Zn Xg (Wo (Za Zd (Za Zd (Za Zd (Za Zd Zc))))) (Zj Z1 (pv 3) Zd) (λ_ _=>rfl)))
   (Zg (Zm (i:=5) Xv.nd rfl (Or.inl rfl) (pcT (Zer T) hr T.gd (Za (pcT (Vu T) hr T.bF (Za (pcT (Je T) hr T.bc (Za (pv 0) (Za Zd Zc))) (Za Zd Zc))) (Za (pv 2) (Za (pv 4) Zc)))))
   (Zg (Zm (i:=6) Xv.nd rfl (Or.inl rfl) (Zn Xg (Wo (Za Zd (Za Zd (Za Zd (Za Zd (Za Zd (Za Zd (Za Zd (Za Zd Zc))))))))) (Zj Z1 (Zj Xs (pv 3) Zd) Zd) (λ_ _=>rfl)))
   (Zi (Zw (Wo (Za (pv 5) (Za (pcT (Zes T) hr T.gf (Za (pv 5) (Za (Zj Z1 (Zj Xs (pv 3) Zd) Zd) (Za (pv 6) Zc)))) Zc)))))))))))),?_⟩;refine ⟨_,Z,a,ns,0,Z,hS,hl,by decide,by decide,?_⟩;generalize cell ns 0=hd;refine ⟨_,Z,_,_,Z,Z,(by show (0:Int) < 6; decide),_,_,rfl,rfl,?_⟩;dsimp only [Zv];show tSeq (tIfS _ _ _) _ _ _ _;refine Z8 (λσ H1=>∃ n:Nat,1<=n/\n<=14/\σ=[some (.ref a),some (.int hd),some (.int n),none,none,none,none]/\H1=H) (λnx ke=>?_) ?_
  ·refine ⟨_,Z,_,_,Z,Z,⟨by decide,by decide⟩,_,_,Z,Z,(by show (0:Int) < 9; decide),rfl,_,rfl,?_⟩
   refine ite2 (λ_=>?_) (λ_=>?_)
   ·refine ⟨_,Z,_,_,Z,Z,⟨by decide,by decide⟩,_,_,Z,Z,(by show (0:Int) < 8; decide),_,_,rfl,rfl,?_⟩
    have e:(7 + hd / 54 % 8:Int)=((7 + (hd / 54 % 8).toNat:Nat):Int):=by lia
    exact ke _ _ ⟨7 + (hd / 54 % 8).toNat,by lia,by lia,by rw [<- e]; rfl,rfl⟩
   ·have e:(1 + hd % 6:Int)=((1 + (hd % 6).toNat:Nat):Int):=by lia
    exact ke _ _ ⟨1 + (hd % 6).toNat,by lia,by lia,by rw [<- e]; rfl,rfl⟩
  rintro σ H1 ⟨n,n1,n2,rfl,rfl⟩;refine ⟨_,Z,a,ns,2,Z,hS,hl,by decide,by decide,?_⟩;generalize cell ns 2=nam;refine ⟨(by show 4<=sizeLine; decide),λq hq=>?_⟩;have m4:0<=nam % 4/\nam % 4 < 4:=by lia
  obtain ⟨sh,esh⟩:=at4 m4.1 m4.2;refine ⟨_,Z,_,_,Z,Z,(by show (0:Int) < 4; decide),q,_,_,_,rfl,rfl,SqT.of Zb,esh,?_⟩;have s1:Same H1 (upd H1 q (.tup [V.int 0,V.int 0,V.int 1,V.int 3])):=Same.new hq;refine ⟨_,Z,a,ns,1,Z,s1.seq hS,hl,by decide,by decide,?_⟩;refine ⟨_,60,Z,by decide,λp xs H2 s2 hp h2 h60 hx=>?_⟩;refine ⟨_,Z,_,Z,p,xs,n,sh,Z,h2,h60,hx,n1,n2,λm M H3 s3 hm hM j1 mf=>?_⟩;have ua:Same H1 H3:=(s1.trans s2).trans s3;have ng:H1 m=none:=(s1.trans s2).free hm;refine ⟨(by show 8<=sizeLine; decide),λq2 hq2=>?_⟩;have m8:0<=nam / 4 % 8/\nam / 4 % 8 < 8:=by lia
  obtain ⟨sp,k7,esp⟩:=at8 m8.1 m8.2;refine ⟨_,Z,_,_,Z,Z,⟨by decide,by decide⟩,_,_,Z,Z,(by show (0:Int) < 8; decide),q2,_,_,_,rfl,rfl,SqT.of Zb,esp,?_⟩;have xg:Same H1 (upd H3 q2 (.tup [V.int 1,V.int 3,V.int 7,V.int 9,V.int 37,V.int 1009,V.int 3333,V.int 9999])):=Same.add ua (ua.free hq2);have zu:(upd H3 q2 (.tup [V.int 1,V.int 3,V.int 7,V.int 9,V.int 37,V.int 1009,V.int 3333,V.int 9999])) m=some (.lst (M.map mV)):=by rw [Ze (Zh hM hq2)]; exact hM
  refine ⟨_,Z,_,Z,_,Z,_,_,Z,Z,⟨by decide,by decide⟩,_,_,Z,Z,(by show (0:Int) < 10000; decide),_,rfl,m,M,n,_,sp,rfl,zu,j1,n1,n2,mf,k7,λr H5 s5 hr5 j'=>?_⟩;refine ⟨(by show 2<=sizeLine; decide),λp5 u9=>?_⟩;have s15:=xg.trans s5;have qe:H1 r=none:=xg.free hr5;refine k p5 m r M _ _ (Same.add s15 (s15.free u9)) Zb ?_ (j'.same (Same.new u9)) (Zg6 n1 n2 j1 mf k7) (by lia) ng qe;rw [Ze (Zh (s5 _ _ zu) u9)];exact s5 _ _ zu
def spk (ns:List Int) (n:Nat) (f:Int->Addr):List (Key × V):=(keys ns n).map λx=>((Sum.inl x:Key),V.ref (f x))
structure SpotsF (H:Hp) (ns:List Int) (n:Nat) (f:Int->Addr):Prop where
 inj:∀ x∈keys ns n,∀ y∈keys ns n,f x=f y->x=y
 at':∀ x∈keys ns n,H (f x)=some (.lst ((pl ns n x).map nV))
def Zbf:Sp:=λvs H Q _=>∃ (a:Addr) (M:List (Option Nat)) (ns:List Int),vs=[.ref a]/\H a=some (.lst (ns.map V.int))/\TD M ns/\ns.length<=120 /\
 ∀ (d:Addr) (f:Int->Addr) (H':Hp),Same H H'->H d=none->H' d=some (.dK (spk ns ns.length f))->SpotsF H' ns ns.length f->(∀ x∈keys ns ns.length,H (f x)=none)->Q (.ref d) H'
def Xc:FnScope ["names_at","spots","place","name"] ["names_at"] (Zf Of):=Am
def Zbu (T:Txt w K mg t):FnOk P w K mg base (CXr P w) 1 t.bW t.bZ ["names_at"] Zbf:=by
 refine T.bj.F.aR Xc (λ_ _ _ _ H vs Q E hr h=>?_)
 ·obtain ⟨a,M,ns,rfl,ha,td,hl,k⟩:=h
  have hu:=Qx hr;refine ⟨_,(Zg (Zm (i:=1) Xc.nd Z (Or.inl Z) Wx)
   (Zg (Ot PassesOwn.never rfl (Zcb rfl T.c6 (Za (pv 0) Zc)) (Vp rfl (Yl (Zs (i:=2) Xc.nd rfl (Or.inl rfl)) (Yl (Zs (i:=3) Xc.nd rfl (Or.inl rfl)) Wv))) (Zg (Yt (PW.pt (V3 (Zt J3 (pv 3) Zd (Zr _)) (Qe (Zt J4 (pv 3) (Y3 (v:=.int 9999) rfl T.bx ⟨_,rfl⟩) (Zr _))))) X3 Yc)
   (Zg (Xe (Yu PySem.F.plainAttrs_list PySem.F.slot_list_append PySem.F.type_list_append Y1 (Zam (pv 1) (pv 3) (Ya Zc) ⟨rfl,rfl,rfl,rfl⟩) (Za (pv 2) Zc)))
   (Zi (Yt (Zt J4 (Zp Zk (by rfl) T.aj PySem.boot_len (Za (Kr hu (pv 1) (pv 3) (λ_ _=>rfl)) Zc)) Zd (Zr _)) X3 Yc)))))
   (Zi (Zw (pv 1))))),?_⟩
  intro d hd;have zg:a≠d:=Zh ha hd;dsimp only [Zv];show tSeq (tFor _ _ _) _ _ _ _;refine Z8 (λσ H1=>∃ (f:Int->Addr) (v2 v3:Option V),σ=[some (.ref a),some (.ref d),v2,v3]/\Same H H1/\H1 d=some (.dK (spk ns ns.length f))/\SpotsF H1 ns ns.length f/\∀ x∈keys ns ns.length,H (f x)=none) (λnx ke=>?_) ?_
  ·refine ⟨_,Z,a,Z,⟨_,SqL.of (by rw [Ze zg]; exact ha)⟩,?_⟩
   have el:(ns.map V.int).length=ns.length:=by simp
   refine Za7 (xs:=ns.map V.int) (λi σ H1=>∃ (f:Int->Addr) (v2 v3:Option V),σ=[some (.ref a),some (.ref d),v2,v3]/\Same H H1/\H1 d=some (.dK (spk ns i f))/\SpotsF H1 ns i f/\∀ x∈keys ns i,H (f x)=none)
    ⟨λ_=>0,none,none,rfl,Same.new hd,Zb,⟨λx hx=>by simp [keys] at hx,λx hx=>by simp [keys] at hx⟩,λx hx=>by simp [keys] at hx⟩ ?_ ?_ ?_
   ·rintro i σ H1 _ ⟨f,v2,v3,rfl,sm,_⟩
    exact SqL.of (sm _ _ ha)
   ·rintro i x0 σ H1 q hx hq ⟨f,v2,v3,rfl,sm,mz,sf,lu⟩
    have hi:i < ns.length:=by rw [<- el]; exact (Aa hx).1
    obtain ⟨x,k6⟩:∃ x,ns[i]?=some x:=⟨_,Ac hi⟩;obtain rfl:x0=V.int x:=by rw [Ah,k6] at hx; exact (Ax hx).symm
    refine ⟨q,_,Z,SqT.of Zb,Z,_,_,Z,_,_,Z,Z,?_⟩;obtain ⟨x0,x1⟩:=td.rng i x k6;refine ⟨_,Z,_,_,Z,Z,_,Z,?_⟩;rw [decide_eq_false (by lia:¬ x < 0)];refine iteF ?_;refine ⟨_,Z,_,_,Z,Z,_,Z,?_⟩;rw [decide_eq_false (by lia:¬ x > 9999)];refine iteF ?_;have vi:d≠q:=Zh mz hq;have qj:(upd H1 q (.tup [.int i,.int x])) d=some (.dK (spk ns i f)):=by rw [Ze vi]; exact mz
    dsimp only [U9];show tSeq (Zgu _) _ _ _ _;refine Z8 (λσ H2=>∃ (f:Int->Addr),σ=[some (.ref a),some (.ref d),some (.int i),some (.int x)]/\Same H H2/\H2 d=some (.dK (spk ns (i + 1) f))/\SpotsF H2 ns (i + 1) f/\∀ x∈keys ns (i + 1),H (f x)=none) (λnx2 oo=>?_) ?_
    ·refine ⟨_,Z,d,Z,.inl ⟨_,.inl qj⟩,_,Z,Az _,λl qh=>?_⟩
     obtain ⟨hlq,mm⟩:=Wc qh;have rh:d≠l:=Zh mz mm;have rj:(upd (upd H1 q (.tup [.int i,.int x])) l (.lst [])) d=some (.dK (spk ns i f)):=by rw [Ze rh]; exact qj
     have yz:(spk ns i f).length < sizeLine:=by unfold spk; rw [Ab]; exact Z0 (by have:=W0 ns i; lia)
     have qz:H q=none:=sm.free hq;have rc:H l=none:=sm.free mm;have uu:Same H (upd (upd H1 q (.tup [.int i,.int x])) l (.lst [])):=Same.add (Same.add sm qz) rc;have lc:(pl ns i x).length < sizeLine:=Z0 (by have:=Zag td i x; lia);have kl:∀ b u,H1 b=some u->(upd (upd H1 q (.tup [.int i,.int x])) l (.lst [])) b=some u:=λb u e=>by rw [Ze (Zh e mm),Ze (Zh e hq)]; exact e
     refine ⟨spk ns i f,Sum.inl x,rj,yz,Z,λv hv=>?_,λhv=>?_⟩
     ·-- the name stands already
      have lp:x∈keys ns i:=by
       unfold spk at hv;rw [Xy] at hv;by_cases c:x∈keys ns i
       ·exact c
       ·rw [if_neg c] at hv; cases hv
      obtain rfl:v=V.ref (f x):=by
       unfold spk at hv;rw [Xy,if_pos lp] at hv;exact (Ax hv).symm
      have ek:keys ns (i + 1)=keys ns i:=by rw [X5 k6,if_pos lp]
      have nh:=kl _ _ (sf.at' x lp);refine ⟨.inl ⟨Z,_,SqL.of nh⟩,_,Z,f x,_,_,Z,Z,nh,by rw [Ab]; exact lc,oo _ _ ⟨f,Z,Same.add uu (lu x lp),?_,⟨?_,?_⟩,?_⟩⟩
      ·have:d≠f x:=λz=>by rw [<- z,rj] at nh; cases nh
       rw [Ze this,rj];unfold spk;rw [ek]
      ·rw [ek]; exact sf.inj
      ·intro y hy
       rw [ek] at hy;by_cases c:y=x
       ·subst c
        rw [Zb,V5 k6,Aj];rfl
       ·have:f y≠f x:=λz=>c (sf.inj y hy x lp z)
        rw [Ze this,kl _ _ (sf.at' y hy),Jt (by rw [k6]; intro z; cases z; exact c Z)]
      ·rw [ek]; exact lu
     ·-- a new name
      have lp:x ∉ keys ns i:=by
       intro c;unfold spk at hv;rw [Xy,if_pos c] at hv;cases hv
      have ek:keys ns (i + 1)=keys ns i ++ [x]:=by rw [X5 k6,if_neg lp]
      have ep:putK (spk ns i f) (Sum.inl x) (V.ref l)=spk ns (i + 1) (λy=>if y=x then l else f y):=by
       unfold spk;rw [Kn lp,ek,Aj];congr 1
       ·apply List.map_congr_left
        intro y hy;dsimp only;rw [if_neg (λ(z:y=x)=>lp (z ▸ hy))]
       ·simp
      rw [ep];have vc:(upd (upd (upd H1 q (.tup [.int i,.int x])) l (.lst [])) d (.dK (spk ns (i + 1) (λy=>if y=x then l else f y)))) l=some (.lst []):=by rw [Ze (Ne.symm rh),Zb]
      refine ⟨.inl ⟨Z,_,SqL.of vc⟩,_,Z,l,_,_,Z,Z,vc,by decide,oo _ _ ⟨λy=>if y=x then l else f y,Z,Same.add (Same.add uu hd) rc,?_,⟨?_,?_⟩,?_⟩⟩
      ·rw [Ze rh,Zb]
      ·intro y hy z hz e
       rw [ek,List.mem_append,List.mem_singleton] at hy hz;by_cases c1:y=x
       ·by_cases c2:z=x
        ·rw [c1,c2]
        ·have qv:=hz.resolve_right c2
         simp only [c1,c2,if_true,if_false] at e;exact absurd (sf.at' z qv) (by rw [<- e,mm]; intro w; cases w)
       ·have mv:=hy.resolve_right c1
        by_cases c2:z=x
        ·simp only [c1,c2,if_true,if_false] at e
         exact absurd (sf.at' y mv) (by rw [e,mm]; intro w; cases w)
        ·have qv:=hz.resolve_right c2
         simp only [c1,c2,if_false] at e;exact sf.inj y mv z qv e
      ·intro y hy
       rw [ek,List.mem_append,List.mem_singleton] at hy;by_cases c:y=x
       ·subst c
        simp only [if_true];rw [Zb,V5 k6,Zee lp];rfl
       ·have mv:=hy.resolve_right c
        have e1:=sf.at' y mv;have n1:f y≠l:=Zh e1 mm;have n2:f y≠d:=λz=>by rw [z,mz] at e1; cases e1
        simp only [c,if_false];rw [Ze n1,Ze n2,kl _ _ e1,Jt (by rw [k6]; intro z; cases z; exact c Z)]
      ·intro y hy
       rw [ek,List.mem_append,List.mem_singleton] at hy;by_cases c:y=x
       ·simp only [c,if_true]; exact rc
       ·simp only [c,if_false]; exact lu y (hy.resolve_right c)
    rintro σ H2 ⟨f',rfl,m9,vk,ux,ls⟩;have u5:x∈keys ns (i + 1):=Wd.mpr ⟨i,by lia,k6⟩;have hg:valV (spk ns (i + 1) f') (Sum.inl x)=some (V.ref (f' x)):=by unfold spk; rw [Xy,if_pos u5]
    refine ⟨_,Z,_,Z,d,_,Z,?_,f' x,_,Z,.inl (SqL.of (ux.at' x u5)),_,_,Z,Z,_,Z,?_⟩
    ·exact .inl ⟨_,Sum.inl x,.inl vk,Z,hg.symm⟩
    have h2:=Zag td (i + 1) x;rw [decide_eq_false (by rw [Ab]; lia:¬ ((((pl ns (i + 1) x).map nV).length:Nat):Int) > 2)];refine iteF ?_;exact ⟨f',_,_,Z,m9,vk,ux,ls⟩
   ·rintro σ H1 ⟨f,v2,v3,rfl,sm,mz,sf,lu⟩
    rw [el] at mz sf lu;exact ke _ _ ⟨f,v2,v3,Z,sm,mz,sf,lu⟩
  rintro σ H1 ⟨f,v2,v3,rfl,sm,mz,sf,lu⟩;exact ⟨_,Z,k d f H1 sm hd mz sf lu⟩
def Zbg:Sp:=λvs H Q _=>∃ (d:Addr) (M:List (Option Nat)) (ns:List Int) (f:Int->Addr),vs=[.ref d,.int ns.length]/\H d=some (.dK (spk ns ns.length f))/\SpotsF H ns ns.length f/\TD M ns/\ns.length<=120 /\
 ∀ (m:Addr) (o:Obj) (H':Hp),(∀ b u,b≠d->H b=some u->H' b=some u)->H m=none->H' m=some (.lst (M.map mV))->H' d=some (.frz o (.dK (spk ns ns.length f)))->Q (.ref m) H'
def Qa:FnScope ["spots","count","mates","pair"] ["spots","count"] (Zf Oh):=Am
def Uq (T:Txt w K mg t):FnOk P w K mg base (CXr P w) 1 t.dv t.dH ["spots","count"] Zbg:=by
 refine T.b4.F.aR Qa (λ_ _ _ _ H vs Q E hr h=>?_)
 ·obtain ⟨d,M,ns,f,rfl,hd,sf,td,hl,k⟩:=h
  refine ⟨_,(Zg (Zm (i:=2) Qa.nd Z (Or.inl Z) (Zj Zao (Ya (Za Ou Zc)) (pv 1)))
   (Zg (Ot PassesOwn.never rfl (Zhv (pv 0) ⟨rfl,rfl,rfl⟩) (Zs (i:=3) Qa.nd rfl (Or.inl rfl)) (Zi (Yt (Zt Yv (Zp Zk (by rfl) T.aj PySem.boot_len (Za (pv 3) Zc)) Zd (Zr _)) (Zg (Js (Zn Zo (pv 3) Zd (λ_ _=>rfl)) (Vq (pv 2) (Zn Zo (pv 3) Zd (λ_ _=>rfl)) Jp))
   (Zi (Js (Zn Zo (pv 3) Zd (λ_ _=>rfl)) (Vq (pv 2) (Zn Zo (pv 3) Zd (λ_ _=>rfl)) Jp)))) Yc)))
   (Zi (Zw (pv 2))))),?_⟩;refine ⟨(by show 1<=sizeLine; decide),λq hq=>?_⟩;refine ⟨_,Z,q,_,_,Z,Z,Zb,by lia,by lia,?_,λm hm=>?_⟩
  ·have:((ns.length:Nat):Int).toNat=ns.length:=by lia
   show 1 * ((ns.length:Nat):Int).toNat<=sizeLine;rw [this,sizeLine_eq]; lia
  obtain ⟨hmq,ng⟩:=Wc hm;have eM:(List.replicate ((ns.length:Nat):Int).toNat [V.non]).flatten=(part M ns []).map mV:=by
   have:((ns.length:Nat):Int).toNat=M.length:=by rw [<- td.len]; lia
   rw [this,List.flatten_replicate_singleton,Zf5 td,List.map_replicate]
   rfl
  rw [eM];have n9:d≠m:=Zh hd ng;have vi:d≠q:=Zh hd hq;dsimp only [Zv];show tSeq (tFor _ _ _) _ _ _ _;refine Z8 (λσ H1=>∃ (o:Obj) (v:Option V),σ=[some (.ref d),some (.int ns.length),some (.ref m),v]/\(∀ b u,b≠d->H b=some u->H1 b=some u)/\H1 m=some (.lst (M.map mV))/\H1 d=some (.frz o (.dK (spk ns ns.length f)))) (λnx ke=>?_) ?_
  ·refine ⟨_,Z,d,_,Z,.inl ⟨by rw [Ze n9,Ze vi]; exact hd,λo=>?_⟩⟩
   refine Zgj (λj σ H1=>∃ (v:Option V),σ=[some (.ref d),some (.int ns.length),some (.ref m),v]/\(∀ b u,b≠d->H b=some u->H1 b=some u)/\H1 m=some (.lst ((part M ns ((keys ns ns.length).take j)).map mV))/\H1 d=some (.frz o (.dK (spk ns ns.length f))))
    ⟨none,rfl,λb u hb e=>?_,?_,Zb⟩ ?_ ?_ ?_
   ·rw [Ze hb,Ze (Zh e ng),Ze (Zh e hq)]; exact e
   ·rw [Ze (Ne.symm n9),Zb]
    rfl
   ·rintro j σ H1 _ ⟨v,rfl,kl,h1,h2⟩
    exact h2
   ·rintro j k0 x0 σ H1 hk ⟨v,rfl,kl,h1,h2⟩
    obtain ⟨x,hx,rfl⟩:∃ x,(keys ns ns.length)[j]?=some x/\x0=V.ref (f x):=by
     unfold spk at hk;rw [Ah] at hk
     cases e:(keys ns ns.length)[j]? with
     | none=>rw [e] at hk; cases hk
     | some x=>rw [e] at hk; cases hk; exact ⟨x,Z,Z⟩
    have hm1:x∈keys ns ns.length:=Au hx;have et:(keys ns ns.length).take (j + 1)=(keys ns ns.length).take j ++ [x]:=by
     rw [Aw,hx]; rfl
    have nh:=sf.at' x hm1;have hfd:f x≠d:=λz=>by rw [z,hd] at nh; cases nh
    have pc:=kl _ _ hfd nh;dsimp only [Zv];refine ⟨_,Z,f x,_,Z,.inl (SqL.of pc),Z,_,Z,?_⟩
    rcases Ux td hm1 with ⟨a,e,ea,ma⟩ | ⟨a,b,oa,e,ea,eb,ma,mb⟩
    ·rw [e] at pc ⊢
     refine iteF ?_;refine ⟨_,Z,kl,?_,h2⟩;rw [et,Zf4 td e ma];exact h1
    ·rw [e] at pc ⊢
     refine iteT ?_;have la:a < (part M ns ((keys ns ns.length).take j)).length:=by rw [Xp]; exact (Aa ma).1
     have lb:b < (part M ns ((keys ns ns.length).take j)).length:=by rw [Xp]; exact (Aa mb).1
     have qi:f x≠m:=Zh nh ng;refine ⟨_,Z,f x,_,_,_,Z,Z,SqL.of pc,Z,?_⟩;refine ⟨_,Z,_,Z,f x,_,_,_,Z,Z,SqL.of pc,Z,m,_,_,a,Z,Z,h1,(by rw [Ab]; exact Qj la),?_⟩;have ls:(upd H1 m (.lst (((part M ns ((keys ns ns.length).take j)).map mV).set a (nV b)))) (f x)=some (.lst ([a,b].map nV)):=by rw [Ze qi]; exact pc
     refine ⟨_,Z,f x,_,_,_,Z,Z,SqL.of ls,Z,?_⟩;refine ⟨_,Z,_,Z,f x,_,_,_,Z,Z,SqL.of ls,Z,m,_,_,b,Z,Z,Zb,(by rw [List.length_set,Ab]; exact Qj lb),?_⟩;refine ⟨_,Z,λc u hc ec=>?_,?_,?_⟩
     ·have:c≠m:=Zh ec ng
      rw [Ze this,Ze this];exact kl c u hc ec
     ·rw [Zb,et,Zek td e oa ma mb]
      show some (HO.lst ((((part M ns ((keys ns ns.length).take j)).map mV).set a (mV (some b))).set b (mV (some a))))=_;rw [map_set,map_set]
     ·rw [Ze n9,Ze n9]; exact h2
   ·rintro σ H1 ⟨v,rfl,kl,h1,h2⟩
    refine ke _ _ ⟨o,v,Z,kl,?_,h2⟩;have:(keys ns ns.length).take (spk ns ns.length f).length=keys ns ns.length:=by
     unfold spk; rw [Ab,List.take_length]
    rw [this,Zf6 td] at h1;exact h1
  rintro σ H1 ⟨o,v,rfl,kl,h1,h2⟩;exact ⟨_,Z,k m o H1 kl ng h1 h2⟩
def Wn (cl na sp mt:Addr):List (Str × V):=putF "mates" (.ref mt) (putF "spots" (.ref sp) (putF "names_at" (.ref na) (putF "cloths" (.ref cl) [])))
theorem Yq (f:Str) (v:V):∀ fs:List (Str × V),(putF f v fs).length<=fs.length + 1
 | []=>by simp [putF]
 | (g,x) :: r=>by
  have:=Yq f v r;unfold putF;split
  ·simp
  ·simp only [List.length_cons]; lia
def s_ns:¬ ("names_at":Str)="spots":=by decide
def s_nm:¬ ("names_at":Str)="mates":=by decide
def s_sm:¬ ("spots":Str)="mates":=by decide
def Zgl (cl na sp mt:Addr):(Wn cl na sp mt).lookup ("names_at":Str)=some (.ref na):=by
 unfold Wn; rw [Zz,if_neg s_nm,Zz,if_neg s_ns,Zz,if_pos rfl]
def U5 (cl na sp mt:Addr):(Wn cl na sp mt).lookup ("spots":Str)=some (.ref sp):=by
 unfold Wn; rw [Zz,if_neg s_sm,Zz,if_pos rfl]
def Zgm (cl na sp mt:Addr):(Wn cl na sp mt).lookup ("mates":Str)=some (.ref mt):=by
 unfold Wn; rw [Zz,if_pos rfl]
def Wm (cl na sp mt:Addr) {m:Str} (h:m≠"cloths"/\m≠"names_at"/\m≠"spots"/\m≠"mates":=by decide):(Wn cl na sp mt).lookup m=none:=by
 obtain ⟨h1,h2,h3,h4⟩:=h;unfold Wn; rw [Zz,if_neg h4,Zz,if_neg h3,Zz,if_neg h2,Zz,if_neg h1]; rfl
structure TentB (C:Addr) (H:Hp) (p:Addr) (M:List (Option Nat)) (ns:List Int) (dx cl na sp mt:Addr) (o:Obj) (f:Int->Addr):Prop where
 ins:H p=some (.ins C dx (Wn cl na sp mt))
 rows:Y2 H cl ns
 names:H na=some (.lst (ns.map V.int))
 spots:H sp=some (.frz o (.dK (spk ns ns.length f)))
 mates:H mt=some (.lst (M.map mV))
 at':∀ x∈keys ns ns.length,H (f x)=some (.lst ((pl ns ns.length x).map nV))
def Yn (C:Addr) (H:Hp) (p:Addr) (M:List (Option Nat)) (ns:List Int):Prop:=∃ dx cl na sp mt o f,TentB C H p M ns dx cl na sp mt o f
def Yn.same (h:Yn C H p M ns) (s:Same H H'):Yn C H' p M ns:=by
 obtain ⟨dx,cl,na,sp,mt,o,f,b⟩:=h;exact ⟨dx,cl,na,sp,mt,o,f,s _ _ b.ins,b.rows.same s,s _ _ b.names,s _ _ b.spots,s _ _ b.mates,λx hx=>s _ _ (b.at' x hx)⟩
def Fi {ns:List Int} {n:Nat} (h:ns.length=3 * n) (hk:k < n):(ns.take (3 * k)).map V.int ++ row3 ns k=(ns.take (3 * (k + 1))).map V.int:=by
 have e:ns.take (3 * (k + 1))=ns.take (3 * k) ++ [ns.getD (3 * k) 0,ns.getD (3 * k + 1) 0,ns.getD (3 * k + 2) 0]:=by
  have l0:3 * k < ns.length:=by lia
  have l1:3 * k + 1 < ns.length:=by lia
  have l2:3 * k + 2 < ns.length:=by lia
  have g:∀ i,i < ns.length->ns[i]?=some (ns.getD i 0):=λi hi=>by rw [Ad,Ac hi]; rfl
  rw [show 3 * (k + 1)=3 * k + 1 + 1 + 1 by lia,Aw,Aw,Aw,g _ l0,g _ l1,g _ l2,List.append_assoc,List.append_assoc];rfl
 rw [e,Aj];rfl
def Fr (C:Addr):Sp:=λvs H Q _=>∃ (p r dx:Addr) (M:List (Option Nat)) (ns:List Int),vs=[.ref p,.ref r]/\H p=some (.ins C dx [])/\Y2 H r ns/\TD M ns/\ns.length<=120 /\
 ∀ (H':Hp),(∀ b u,b≠p->H b=some u->H' b=some u)->Yn C H' p M ns->Q .non H'
def Vc:FnScope ["self","rows"] ["self","rows"] (Zf Um):=Am
def Zau (T:Txt w K mg t):FnOk P w K mg base (CXr P w) 2 t.aQ t.bB ["self","rows"] (Fr t.aa):=by
  refine T.aV.F.aR Vc (λ_ _ _ _ H vs Q E hr h=>?_)
  · obtain ⟨p,r,dx,M,ns,rfl,hp,⟨ts,k9,qd,u7⟩,td,hl,k⟩:=h
    refine ⟨_,(Zg (Yt (X2 (Qr (pv 1) (λ_=>rfl))) X3 Yc)
      (Zg (Yx (pv 0) (Y5 (ts:=["row"]) (fv:=[]) ⟨rfl,by decide +kernel,by decide +kernel,Ym (by rfl),trivial⟩ rfl (Xf (pv 1)) (λ_ _ _ _=>(Zs (i:=0) (show List.Nodup (["row"]:List Str) from by decide +kernel) rfl (Or.inl rfl) (Or.inr rfl))) (λ_ _ _ _=>Yi) (λ_ _ _=>rfl) (λ_ _ _ _ _ _=>Xj (J2 (Ql K) (by rfl) T.gF PySem.Pv.boot_tuple (Za (pv 0) Zc)))) rfl)
      (Zg (Yx (pv 0) (Y5 (ts:=["row","name"]) (fv:=[]) ⟨rfl,by decide +kernel,by decide +kernel,Ym (by rfl),trivial⟩ rfl (Xf (Z6 (pv 0) rfl)) (λ_ _ _ _=>(Zs (i:=0) (show List.Nodup (["row","name"]:List Str) from by decide +kernel) rfl (Or.inl rfl) (Or.inr rfl))) (λ_ _ _ _=>Yi) (λ_ _ _=>rfl) (λ_ _ _ _ _ _=>Zej rfl rfl (Zca K (pv 0)) (Zs (i:=1) (show List.Nodup (["row","name"]:List Str) from by decide +kernel) rfl (Or.inl rfl) (Or.inr rfl)) Yi (pv 1))) rfl)
      (Zg (Yx (pv 0) (pcT (Zbu T) hr T.bj (Za (Z6 (pv 0) rfl) Zc)) rfl)
      (Zi (Yx (pv 0) (pcT (Uq T) hr T.b4 (Za (Z6 (pv 0) rfl) (Za (Zp Zk (by rfl) T.aj PySem.boot_len (Za (Z6 (pv 0) rfl) Zc)) Zc))) rfl)))))),?_⟩;obtain ⟨n,n1,n2,hn⟩:=td.n;have vb:ns.length=3 * n:=by rw [td.len,hn]
    have pi:ts.length=n:=by lia
    have hrp:r≠p:=λz=>by rw [z,hp] at k9; cases k9
    refine ⟨_,Z,true,.inl ⟨_,SqL.of k9,?_⟩,?_⟩
    · cases ts with
      | nil=>simp at pi; lia
      | cons _ _=>rfl
    refine iteF ?_;dsimp only [U9];refine ⟨_,Z,r,Z,⟨_,SqL.of k9⟩,λD hD=>?_⟩;have xz:D≠p:=λz=>by rw [z,hp] at hD; cases hD
    refine Ys (xs:=ts.map V.ref) (λi σ H1=>∃ (v:Option V),σ=[v]/\Same H H1/\H1 D=some (.lst ((ts.take i).map V.ref))) ⟨none,Z,Same.new hD,Zb⟩ ?_ ?_ ?_
    · rintro i σ H1 _ ⟨v,rfl,sm,h1⟩
      exact SqL.of (sm _ _ k9)
    · rintro i x σ H1 hx ⟨v,rfl,sm,h1⟩
      dsimp only [Zv,tYes];rw [if_pos rfl];obtain ⟨tt,ht,rfl⟩:=Yp hx;refine ⟨_,Z,tt,_,Z,.inr ⟨SqT.of (sm _ _ (u7 i tt ht)),_,h1,(by rw [Ab,Ai]; exact Z0 (by lia)),_,Z,Same.add sm hD,?_⟩⟩;rw [Zb,Aw,ht,Aj];rfl
    rintro σ H1 ⟨v,rfl,pf,h1⟩;rw [Ab,List.take_length] at h1;have ug:=pf _ _ hp;refine ⟨_,Z,p,_,dx,_,Z,ug,T.af,T.aE,by decide,?_⟩;have m5:∀ b u,b≠p->H b=some u->(upd H1 p (.ins t.aa dx (putF "cloths" (.ref D) []))) b=some u:=λb u hb e=>by rw [Ze hb]; exact pf b u e
    have md:(upd H1 p (.ins t.aa dx (putF "cloths" (.ref D) []))) D=some (.lst (ts.map V.ref)):=by rw [Ze xz]; exact h1
    have lc:(upd H1 p (.ins t.aa dx (putF "cloths" (.ref D) []))) p=some (.ins t.aa dx (putF "cloths" (.ref D) [])):=Zb
    have qc:∀ (k:Nat) (q:Addr),ts[k]?=some q->(upd H1 p (.ins t.aa dx (putF "cloths" (.ref D) []))) q=some (.tup (row3 ns k)):=λk q e=>by
      have e1:=u7 k q e;have:q≠p:=λz=>by rw [z,hp] at e1; cases e1
      exact m5 q _ this e1
    generalize upd H1 p (.ins t.aa dx (putF "cloths" (.ref D) []))=H2 at m5 md lc qc ⊢;refine ⟨_,Z,p,_,dx,_,_,Z,lc,T.af,T.aE,Z,D,Z,⟨_,SqL.of md⟩,λN hN=>?_⟩;have hND:N≠D:=λz=>by rw [z,md] at hN; cases hN
    have vq:N≠p:=λz=>by rw [z,lc] at hN; cases hN
    refine Ys (xs:=ts.map V.ref) (λi σ H3=>∃ (v v':Option V),σ=[v,v']/\Same H2 H3/\H3 N=some (.lst ((ns.take (3 * i)).map V.int))) ⟨none,none,Z,Same.new hN,Zb⟩ ?_ ?_ ?_
    · rintro i σ H3 _ ⟨v,v',rfl,sm,h3⟩
      exact SqL.of (sm _ _ md)
    · rintro i x σ H3 hx ⟨v,v',rfl,sm,h3⟩
      dsimp only [Zv,tYes];rw [if_pos rfl];obtain ⟨tt,ht,rfl⟩:=Yp hx;have hi:i < n:=by rw [<- pi]; exact (Aa ht).1
      refine ⟨_,Z,tt,Z,⟨_,SqT.of (sm _ _ (qc i tt ht))⟩,?_⟩;refine Za2 (xs:=row3 ns i) (λj σ H4=>∃ (v':Option V),σ=[some (.ref tt),v']/\Same H2 H4/\H4 N=some (.lst ((ns.take (3 * i)).map V.int ++ (row3 ns i).take j))) ⟨v',Z,sm,by rw [h3,List.take_zero,List.append_nil]⟩ ?_ ?_ ?_
      · rintro j σ H4 _ ⟨v',rfl,sm,h4⟩
        exact SqT.of (sm _ _ (qc i tt ht))
      · rintro j x σ H4 hx ⟨v',rfl,sm,h4⟩
        dsimp only [Zv,tYes];rw [if_pos rfl];refine ⟨_,Z,_,h4,?_,_,Z,Same.add sm hN,?_⟩
        · rw [Ae,Ab,Ai,Ai]
          exact Z0 (by have:(row3 ns i).length=3:=rfl; lia)
        · rw [Zb,Aw,hx,<- List.append_assoc]
          rfl
      · rintro σ H4 ⟨v',rfl,sm,h4⟩
        refine ⟨_,_,Z,sm,?_⟩;rw [h4,List.take_length,Fi vb hi]
    rintro σ H3 ⟨v,v',rfl,uv,h3⟩;have tw:ns.take (3 * (ts.map V.ref).length)=ns:=by rw [Ab,pi,<- vb,List.take_length]
    rw [tw] at h3;have yw:=uv _ _ lc;refine ⟨_,rfl,p,_,dx,_,rfl,yw,T.af,T.al,(by have h1:=Yq "cloths" (.ref D) []; simp only [List.length_nil] at h1; lia),?_⟩;have om:∀ b u,b≠p->H2 b=some u->(upd H3 p (.ins t.aa dx (putF "names_at" (.ref N) (putF "cloths" (.ref D) [])))) b=some u:=λb u hb e=>by rw [Ze hb]; exact uv b u e
    have qk:(upd H3 p (.ins t.aa dx (putF "names_at" (.ref N) (putF "cloths" (.ref D) [])))) N=some (.lst (ns.map V.int)):=by rw [Ze vq]; exact h3
    have qf:(upd H3 p (.ins t.aa dx (putF "names_at" (.ref N) (putF "cloths" (.ref D) [])))) p=some (.ins t.aa dx (putF "names_at" (.ref N) (putF "cloths" (.ref D) []))):=Zb;generalize upd H3 p (.ins t.aa dx (putF "names_at" (.ref N) (putF "cloths" (.ref D) [])))=H4 at om qk qf ⊢;have uc:(putF "names_at" (.ref N) (putF "cloths" (.ref D) [])).lookup ("names_at":Str)=some (.ref N):=by rw [Zz,if_pos rfl]
    refine ⟨_,Z,p,_,dx,_,_,Z,qf,T.af,T.al,uc,N,M,ns,Z,qk,td,hl,λd f H5 w5 zh hd5' sf lu=>?_⟩;have u9:=w5 _ _ qf;refine ⟨_,rfl,p,_,dx,_,rfl,u9,T.af,T.aA,(by have h1:=Yq "cloths" (.ref D) []; have h2:=Yq "names_at" (.ref N) (putF "cloths" (.ref D) []); simp only [List.length_nil] at h1; lia),?_⟩;have zf:d≠p:=λz=>by rw [z,qf] at zh; cases zh
    have hfp:∀ x∈keys ns ns.length,f x≠p:=λx hx z=>by have:=lu x hx; rw [z,qf] at this; cases this
    have r8:∀ b u,b≠p->H4 b=some u->(upd H5 p (.ins t.aa dx (putF "spots" (.ref d) (putF "names_at" (.ref N) (putF "cloths" (.ref D) []))))) b=some u:=λb u hb e=>by rw [Ze hb]; exact w5 b u e
    have nw:(upd H5 p (.ins t.aa dx (putF "spots" (.ref d) (putF "names_at" (.ref N) (putF "cloths" (.ref D) []))))) p=some (.ins t.aa dx (putF "spots" (.ref d) (putF "names_at" (.ref N) (putF "cloths" (.ref D) [])))):=Zb;have xx:(upd H5 p (.ins t.aa dx (putF "spots" (.ref d) (putF "names_at" (.ref N) (putF "cloths" (.ref D) []))))) d=some (.dK (spk ns ns.length f)):=by rw [Ze zf]; exact hd5'
    have yd:SpotsF (upd H5 p (.ins t.aa dx (putF "spots" (.ref d) (putF "names_at" (.ref N) (putF "cloths" (.ref D) []))))) ns ns.length f:=⟨sf.inj,λx hx=>by rw [Ze (hfp x hx)]; exact sf.at' x hx⟩;generalize upd H5 p (.ins t.aa dx (putF "spots" (.ref d) (putF "names_at" (.ref N) (putF "cloths" (.ref D) []))))=H6 at r8 nw xx yd ⊢;have lk2:(putF "spots" (.ref d) (putF "names_at" (.ref N) (putF "cloths" (.ref D) []))).lookup ("spots":Str)=some (.ref d):=by rw [Zz,if_pos rfl]
    have lk3:(putF "spots" (.ref d) (putF "names_at" (.ref N) (putF "cloths" (.ref D) []))).lookup ("names_at":Str)=some (.ref N):=by rw [Zz,if_neg s_ns,Zz,if_pos rfl]
    have xy:=r8 _ _ vq qk;have eln:(((ns.map V.int).length:Nat):Int)=(ns.length:Nat):=by rw [Ab]
    refine ⟨_,Z,p,_,dx,_,_,Z,nw,T.af,T.aA,lk2,_,Z,p,_,dx,_,_,Z,nw,T.af,T.al,lk3,N,_,Z,.inl (SqL.of xy),d,M,ns,f,(by rw [eln]; rfl),xx,yd,td,hl,λm o H7 wb hm7 hmm hdd=>?_⟩;have hpd:p≠d:=Ne.symm zf;have uf:=wb _ _ hpd nw;refine ⟨_,rfl,p,_,dx,_,rfl,uf,T.af,T.cp,(by have h1:=Yq "cloths" (.ref D) []; have h2:=Yq "names_at" (.ref N) (putF "cloths" (.ref D) []); have h3:=Yq "spots" (.ref d) (putF "names_at" (.ref N) (putF "cloths" (.ref D) [])); simp only [List.length_nil] at h1; lia),?_⟩;have hmp:m≠p:=λz=>by rw [z,nw] at hm7; cases hm7
    have dN:N≠d:=λz=>by rw [z,xx] at xy; cases xy
    have r6:∀ b u,b≠p->b≠d->H6 b=some u->(upd H7 p (.ins t.aa dx (Wn D N d m))) b=some u:=λb u hb zn e=>by rw [Ze hb]; exact wb b u zn e
    have wp:∀ b u,b≠p->H4 b=some u->H6 b=some u/\b≠d:=λb u hb e=>⟨r8 b u hb e,λz=>by rw [z,zh] at e; cases e⟩;have ox:∀ b u,b≠p->H2 b=some u->(upd H7 p (.ins t.aa dx (Wn D N d m))) b=some u:=λb u hb e=>by
      obtain ⟨e6,zn⟩:=wp b u hb (om b u hb e)
      exact r6 b u hb zn e6
    refine k _ (λb u hb e=>ox b u hb (m5 b u hb e)) ⟨dx,D,N,d,m,o,f,Zb,⟨ts,ox _ _ xz md,by lia,λk q e=>?_⟩,?_,?_,?_,?_⟩
    · have e1:=qc k q e
      exact ox q _ (λz=>by rw [z,lc] at e1; cases e1) e1
    · exact r6 _ _ vq dN xy
    · rw [Ze zf]; exact hdd
    · rw [Ze hmp]; exact hmm
    · intro x hx
      have e1:=yd.at' x hx;exact r6 _ _ (hfp x hx) (λz=>by rw [z,xx] at e1; cases e1) e1
def Y7 (ns:List Int) (x:Int):Str:=match pl ns ns.length x with
 | [a,b]=>if a / 3=b / 3 then "locked" else "free"
 | _=>"rim"
def Zbh:Sp:=λvs H Q _=>∃ p:Int,vs=[.int p]/\Q (.int (p / 3)) H
def Gr (C:Addr):Sp:=λvs H Q _=>∃ (p:Addr) (M:List (Option Nat)) (ns:List Int),vs=[.ref p]/\Yn C H p M ns/\ns.length < 64 /\
 ∀ (l:Addr) (out:List Int),H l=none->out.Perm (keys ns ns.length)->out.Pairwise (·<=·)->Q (.ref l) (upd H l (.lst (out.map V.int)))
def Ua (C:Addr):Sp:=λvs H Q _=>∃ (p:Addr) (M:List (Option Nat)) (ns:List Int) (x:Int),vs=[.ref p,.int x]/\Yn C H p M ns/\Q (.bl (decide (0<=x/\x < ns.length))) H
def Q9 (C EP:Addr):Sp:=λvs H Q E=>∃ (p:Addr) (M:List (Option Nat)) (ns:List Int) (x:Int),vs=[.ref p,.int x]/\Yn C H p M ns/\(0<=x/\x < ns.length->Q .non H)/\(¬ (0<=x/\x < ns.length)->E (.ref EP) none H)
def Fq (C EP:Addr):Sp:=λvs H Q E=>∃ (p:Addr) (M:List (Option Nat)) (ns:List Int) (x:Int),vs=[.ref p,.int x]/\Yn C H p M ns/\M.length=ns.length/\(∀ (i:Nat) (y:Option Nat),x=i->M[i]?=some y->Q (mV y) H)/\(¬ (0<=x/\x < ns.length)->E (.ref EP) none H)
def Ke (C ES:Addr):Sp:=λvs H Q E=>∃ (p:Addr) (M:List (Option Nat)) (ns:List Int) (x:Int),vs=[.ref p,.int x]/\Yn C H p M ns/\(x∈keys ns ns.length->∀ l,H l=none->Q (.ref l) (upd H l (.lst ((pl ns ns.length x).map nV))))/\(x ∉ keys ns ns.length->E (.ref ES) none H)
def Ob (C ES:Addr):Sp:=λvs H Q E=>∃ (p:Addr) (M:List (Option Nat)) (ns:List Int) (x:Int),vs=[.ref p,.int x]/\Yn C H p M ns/\TD M ns/\(x∈keys ns ns.length->∀ H',Same H H'->Q (.str (Y7 ns x)) H')/\(x ∉ keys ns ns.length->E (.ref ES) none H)
def Zbj:FnScope ["place"] ["place"] (Zf On):=Am
def W2 (T:Txt w K mg t):FnOk P w K mg base (CXr P w) 1 t.dr t.dG ["place"] Zbh:=by
 refine T.aM.F.aR Zbj (λ_ _ _ _ H vs Q E hr h=>?_)
 ·obtain ⟨p,rfl,k⟩:=h
  refine ⟨_,(Zi (Zw (Zj Xs (pv 0) Zd))),?_⟩;exact ⟨_,Z,_,_,Z,Z,⟨by decide,by decide⟩,k⟩
def Gx:FnScope ["self"] ["self"] (Zf Vh):=Am
def G5 (T:Txt w K mg t):FnOk P w K mg base (CXr P w) 1 t.b9 t.ci ["self"] (Gr t.aa):=by
 refine T.bn.F.aR Gx (λ_ _ _ _ H vs Q E hr h=>?_)
 ·obtain ⟨p,M,ns,rfl,⟨dx,cl,na,sp,mt,o,f,b⟩,mr,k⟩:=h
  refine ⟨_,(Zi (Zw (Zp (Zbc Z) (by rfl) T.iB PyProof.Rows.boot_sorted (Za (Z6 (pv 0) Z) Zc)))),?_⟩;refine ⟨_,rfl,p,_,dx,_,_,rfl,b.ins,T.af,T.aA,U5 ..,sp,_,keys ns ns.length,rfl,.inr ⟨o,b.spots⟩,?_,by have:=W0 ns ns.length; lia,k⟩;unfold spk; rw [List.map_map]; rfl
def Ub:FnScope ["self","place"] ["self","place"] (Zf Jq):=Am
def Jg (T:Txt w K mg t):FnOk P w K mg base (CXr P w) 1 t.a8 t.bb ["self","place"] (Ua t.aa):=by
 refine T.aq.F.aR Ub (λ_ _ _ _ H vs Q E hr h=>?_)
 ·obtain ⟨p,M,ns,x,rfl,⟨dx,cl,na,sp,mt,o,f,b⟩,k⟩:=h
  refine ⟨_,(Zi (Zw (Zan Oy J3 Zd (pv 1) (Zp Zk (by rfl) T.aj PySem.boot_len (Za (Z6 (pv 0) Z) Zc))))),?_⟩;refine ⟨_,Z,_,_,Z,Z,_,Z,?_⟩;refine ite2 (λh=>?_) (λh=>?_)
  ·have h:0<=x:=of_decide_eq_true h
   refine ⟨_,Z,p,_,dx,_,_,Z,b.ins,T.af,T.al,Zgl ..,na,_,Z,.inl (SqL.of b.names),_,_,Z,Z,?_⟩;have:decide (x < (((ns.map V.int).length:Nat):Int))=decide (0<=x/\x < (ns.length:Int)):=by rw [Ab]; simp [h]
   show Q (V.bl (decide (x < (((ns.map V.int).length:Nat):Int)))) H;rw [this]; exact k
  ·have h:¬ 0<=x:=λz=>h (decide_eq_true z)
   have:decide (0<=x/\x < (ns.length:Int))=false:=decide_eq_false λz=>h z.1;rw [this] at k; exact k
def Vb:FnScope ["self","place"] ["self","place"] (Zf Jf):=Am
def Vw (T:Txt w K mg t):FnOk P w K mg base (CXr P w) 2 t.aS t.aT ["self","place"] (Q9 t.aa t.bJ):=by
 refine T.aC.F.aX Vb (λ_ _ _ _ H vs Q E hr h=>?_)
 ·obtain ⟨p,M,ns,x,rfl,ta,k1,k2⟩:=h
  obtain ⟨dx,cl,na,sp,mt,o,f,b⟩:=id ta;refine ⟨_,(Zu (Xr (X2 (Jr (Ww (pv 0) T.af T.aq.m (Jg T) (hr.mono (by decide)) T.aq.b .nil X9 (Za (pv 1) Zc)))) (Zu (Xd T.gS FBV Z T.gt Z (Za Zl Zc))) Xn)),?_⟩;refine ⟨_,Z,p,dx,_,Z,b.ins,Wm _ _ _ _,_,Z,p,M,ns,x,Z,ta,_,Z,?_⟩;by_cases c:0<=x/\x < (ns.length:Int)
  ·rw [decide_eq_true c]
   exact iteF (k1 c)
  ·rw [decide_eq_false c]
   exact iteT ⟨by decide,k2 c⟩
def Fy:FnScope ["self","place"] ["self","place"] (Zf Ul):=Am
def Vv (T:Txt w K mg t):FnOk P w K mg base (CXr P w) 3 t.cJ t.cQ ["self","place"] (Fq t.aa t.bJ):=by
 refine T.aG.F.aX Fy (λ_ _ _ _ H vs Q E hr h=>?_)
 ·obtain ⟨p,M,ns,x,rfl,ta,j1,k1,k2⟩:=h
  obtain ⟨dx,cl,na,sp,mt,o,f,b⟩:=id ta;refine ⟨_,(Zx (Z9 (Ju (pv 0) T.af T.aC.m (Vw T) (hr.mono (by decide)) T.aC.b .nil (Za (pv 1) Zc)))
   (Zu (Z3 (Zw (Zn Zo (Z6 (pv 0) rfl) (pv 1) (λ_ _=>rfl)))))),?_⟩
  refine ⟨_,Z,p,dx,_,Z,b.ins,Wm _ _ _ _,_,Z,p,M,ns,x,Z,ta,λc=>?_,k2⟩;have hi:x.toNat < M.length:=by lia
  obtain ⟨y,hy⟩:∃ y,M[x.toNat]?=some y:=⟨_,Ac hi⟩;have ex:x=(x.toNat:Int):=by lia
  refine ⟨_,Z,p,_,dx,_,_,Z,b.ins,T.af,T.cp,Zgm ..,_,Z,mt,_,_,_,Z,Z,SqL.of b.mates,(by rw [ex]; exact Xt hy),k1 _ _ ex hy⟩
def Kh:FnScope ["self","seam"] ["self","seam"] (Zf Q3):=Am
def Kt (T:Txt w K mg t):FnOk P w K mg base (CXr P w) 1 t.bP t.bS ["self","seam"] (Ke t.aa t.cf):=by
 refine T.aY.F.aX Kh (λ_ _ _ _ H vs Q E hr h=>?_)
 ·obtain ⟨p,M,ns,x,rfl,ta,k1,k2⟩:=h
  obtain ⟨dx,cl,na,sp,mt,o,f,b⟩:=id ta;have hu:=Qx hr;refine ⟨_,(Zx (Xr (Vn (Vt hu (pv 1) (Z6 (pv 0) Z)) (by with_unfolding_all rfl)) (Zu (Xd T.iC FBV Z T.gU Z (Za Zl Zc))) Xn)
   (Zu (Z3 (Zw (J2 Zbd (by rfl) T.iA PySem.Pv.boot_list (Za (Kr hu (Z6 (pv 0) rfl) (pv 1) (λ_ _=>rfl)) Zc)))))),?_⟩
  have hg:DGet H sp (.int x) (if x∈keys ns ns.length then some (V.ref (f x)) else none):=.inl ⟨_,Sum.inl x,.inr ⟨o,b.spots⟩,rfl,by unfold spk; rw [Xy]⟩;refine ⟨_,Z,_,Z,p,_,dx,_,_,Z,b.ins,T.af,T.aA,U5 ..,sp,_,Z,hg,_,Z,?_⟩;by_cases c:x∈keys ns ns.length
  ·rw [if_pos c] at hg ⊢
   refine iteF ?_;exact ⟨_,Z,p,_,dx,_,_,Z,b.ins,T.af,T.aA,U5 ..,_,Z,sp,_,Z,hg,f x,_,Z,.inl (SqL.of (b.at' x c)),k1 c⟩
  ·rw [if_neg c] at hg ⊢
   exact iteT ⟨by decide,k2 c⟩
def J0:FnScope ["self","seam","spots"] ["self","seam"] (Zf Qd):=Am
def O2 (T:Txt w K mg t):FnOk P w K mg base (CXr P w) 2 t.bz t.bC ["self","seam"] (Ob t.aa t.cf):=by
 refine T.aO.F.aX J0 (λ_ _ _ _ H vs Q E hr h=>?_)
 ·obtain ⟨p,M,ns,x,rfl,ta,td,k1,k2⟩:=h
  obtain ⟨dx,cl,na,sp,mt,o,f,b⟩:=id ta;refine ⟨_,(Zx (Zb7 (i:=2) J0.nd Z (Or.inl Z) (Ju (pv 0) T.af T.aY.m (Kt T) (hr.mono (by decide)) T.aY.b .nil (Za (pv 1) Zc)))
   (Zx (Z3 (Yt (Zt Yv (Zp Zk (by rfl) T.aj PySem.boot_len (Za (pv 2) Zc)) Zd (Zr _)) (Zi (Zw Zl)) Yc))
   (Zx (Z3 (Yt (Zt Yv (pcT (W2 T) hr T.aM (Za (Zn Zo (pv 2) Zd (λ_ _=>rfl)) Zc)) (pcT (W2 T) hr T.aM (Za (Zn Zo (pv 2) Zd (λ_ _=>rfl)) Zc)) (Zr _)) (Zi (Zw Zl)) Yc))
   (Zu (Z3 (Zw Zl)))))),?_⟩
  refine ⟨_,Z,p,dx,_,Z,b.ins,Wm _ _ _ _,_,Z,p,M,ns,x,Z,ta,λc l hl=>?_,k2⟩;have qa:=k1 c _ (Same.new (o:=.lst ((pl ns ns.length x).map nV)) hl);refine ⟨_,Z,l,_,Z,.inl (SqL.of Zb),Z,_,Z,?_⟩
  rcases Ux td c with ⟨a,e,_⟩ | ⟨a,b',oa,e,_⟩
  ·rw [e] at qa ⊢
   refine iteT ?_;have:Y7 ns x="rim":=by unfold Y7; rw [e]
   rw [this] at qa;exact qa
  ·rw [e] at qa ⊢
   refine iteF ?_;refine ⟨_,Z,l,_,_,_,Z,Z,SqL.of Zb,Z,_,Z,_,Z,l,_,_,_,Z,Z,SqL.of Zb,Z,_,Z,Z,_,Z,?_⟩;by_cases q:a / 3=b' / 3
   ·have:Y7 ns x="locked":=by unfold Y7; rw [e]; exact if_pos q
    rw [this] at qa;rw [decide_eq_true (by congr 1; lia)];exact iteT qa
   ·have:Y7 ns x="free":=by unfold Y7; rw [e]; exact if_neg q
    rw [this] at qa;rw [decide_eq_false (λz=>q (by injection z; lia))];exact iteF qa
def Oc {M:List (Option Nat)} {ns:List Int} (td:TD M ns) (hx:x∈keys ns ns.length) :
  (Y7 ns x="rim"/\∃ a,pl ns ns.length x=[a]/\M[a]?=some none)\/(Y7 ns x="locked"/\∃ a b,a < b/\pl ns ns.length x=[a,b]/\M[a]?=some (some b)/\a / 3=b / 3)\/(Y7 ns x="free"/\∃ a b,a < b/\pl ns ns.length x=[a,b]/\M[a]?=some (some b)/\a / 3≠b / 3):=by
 rcases Ux td hx with ⟨a,e,_,ma⟩ | ⟨a,b,oa,e,_,_,ma,_⟩
 ·exact .inl ⟨by unfold Y7; rw [e],a,e,ma⟩
 ·by_cases c:a / 3=b / 3
  ·exact .inr (.inl ⟨by unfold Y7; rw [e]; exact if_pos c,a,b,oa,e,ma,c⟩)
  ·exact .inr (.inr ⟨by unfold Y7; rw [e]; exact if_neg c,a,b,oa,e,ma,c⟩)
def t_lr:¬ (("locked":Str))="rim":=by decide
def t_fr:¬ (("free":Str))="rim":=by decide
def Zis {ns:List Int} {i:Nat} (h:Y2 H r ns) (hx:ns[i]?=some x):∃ ts:List Addr,∃ q,H r=some (.lst (ts.map V.ref))/\ts[i / 3]?=some q/\H q=some (.tup (row3 ns (i / 3)))/\(row3 ns (i / 3))[i % 3]?=some (V.int x):=by
 obtain ⟨ts,h1,h2,h3⟩:=h;have hi:i < ns.length:=(Aa hx).1;have hk:i / 3 < ts.length:=by lia
 refine ⟨ts,ts[i / 3],h1,Ac hk,h3 _ _ (Ac hk),?_⟩;have g:∀ j,ns[j]?=some x->ns.getD j 0=x:=λj hj=>by rw [Ad,hj]; rfl
 have hm:i % 3=0\/i % 3=1\/i % 3=2:=by lia
 rcases hm with m | m | m
 ·have:3 * (i / 3)=i:=by lia
  rw [m]; show some (V.int (ns.getD (3 * (i / 3)) 0))=_; rw [this,g i hx]
 ·have:3 * (i / 3) + 1=i:=by lia
  rw [m]; show some (V.int (ns.getD (3 * (i / 3) + 1) 0))=_; rw [this,g i hx]
 ·have:3 * (i / 3) + 2=i:=by lia
  rw [m]; show some (V.int (ns.getD (3 * (i / 3) + 2) 0))=_; rw [this,g i hx]
def sp_law (K:W.Frag):Sp:=λvs H Q _=>∃ (a:Addr) (ns:List Int),vs=[.ref a]/\SqL K H a (ns.map V.int)/\ns.length<=63/\∀ H',Q (.bl true) H'
def sp_law_start {ns:List Int} (hl:ns.length<=63) (hS:SqL K H a (ns.map V.int)):sp_law K [.ref a] H (λv _=>v=.bl true) λ_ _ _=>False:=⟨a,ns,rfl,hS,hl,λ_=>rfl⟩
def Zgd {ws:List Int}:(((ws.map V.int).length:Nat):Int)=ws.length:=by rw [Ab]
def V1 (ws:List Int) (by':Int):List Int:=rot ws (by' % ws.length).toNat
def Zdy:Sp:=λvs H Q _=>∃ (a:Addr) (ws:List Int) (b:Int),vs=[.ref a,.int b]/\H a=some (.lst (ws.map V.int))/\ws.length<=100000/\∀ (l:Addr) (H':Hp),Same H H'->H l=none->H' l=some (.lst ((V1 ws b).map V.int))->Q (.ref l) H'
def Fp (C:Addr):Sp:=λvs H Q _=>∃ (p:Addr) (M:List (Option Nat)) (ns:List Int) (x:Int),vs=[.ref p,.int x]/\Yn C H p M ns/\M.length=ns.length/\Q (.bl (Xm M x)) H
def Zcy (C:Addr):Sp:=λvs H Q _=>∃ (p:Addr) (M:List (Option Nat)) (ns:List Int) (a x:Int),vs=[.ref p,.int a,.int x]/\Yn C H p M ns/\M.length=ns.length/\Xm M a=true/\Q (.bl (Qk M a x)) H
def Zfm (C:Addr):Sp:=λvs H Q _=>∃ (p a:Addr) (M:List (Option Nat)) (ns ws:List Int),vs=[.ref p,.ref a]/\Yn C H p M ns/\M.length=ns.length/\H a=some (.lst (ws.map V.int))/\ws.length<=100000/\∀ H',Same H H'->Q (.bl (Xk M ws)) H'
def Kc (C EN:Addr):Sp:=λvs H Q E=>∃ (p a:Addr) (M:List (Option Nat)) (ns ws:List Int),vs=[.ref p,.ref a]/\Yn C H p M ns/\M.length=ns.length/\H a=some (.lst (ws.map V.int))/\ws.length<=100000/\∀ H',Same H H'->(Xk M ws=true->Q .non H')/\(Xk M ws=false->E (.ref EN) none H')
def Zc0 {n:Nat} (h:n<=100000):n<=sizeLine:=by rw [sizeLine_eq]; lia
def Zgo {ws:List Int} (h:s<=ws.length):cutV (ws.map V.int) (some (s:Int)) none=(ws.drop s).map V.int:=by
 unfold cutV;rw [HT.sIx_nat,HT.sIx_none,Ab,Nat.min_eq_left h,List.map_drop,List.take_of_length_le];rw [List.length_drop,Ab];exact An _
def Zjl {ws:List Int} (h:s<=ws.length):cutV (ws.map V.int) none (some (s:Int))=(ws.take s).map V.int:=by
 unfold cutV;rw [HT.sIx_none,HT.sIx_nat,Ab,Nat.min_eq_left h,List.drop_zero,Nat.sub_zero,List.map_take]
def K1:FnScope ["word","by","start"] ["word","by"] (Zf Fz):=Am
def Zen (T:Txt w K mg t):FnOk P w K mg base (CXr P w) 1 t.ft t.fN ["word","by"] Zdy:=by
 refine T.gc.F.aR K1 (λ_ _ _ _ H vs Q E hr h=>?_)
 ·obtain ⟨a,ws,b,rfl,ha,hl,k⟩:=h
  refine ⟨_,(Zg (Yt (X2 (Qr (pv 0) (λ_=>rfl))) (Zi (Zw (Ya Zc))) Yc)
   (Zg (Zm (i:=2) K1.nd rfl (Or.inl rfl) (Zj Z1 (pv 1) (Zp Zk (by rfl) T.aj PySem.boot_len (Za (pv 0) Zc))))
   (Zi (Zw (Zj Zem (X4 Wf (pv 0) (Wg (pv 2)) Wh) (X4 Wf (pv 0) Wh (Wg (pv 2)))))))),?_⟩;refine Yb λnxC j4=>?_;refine ⟨_,Z,_,.inl ⟨_,SqL.of ha,Z⟩,?_⟩;by_cases kc:ws=[]
  ·subst kc
   exact iteT ⟨Az _,λl qh=>k l _ (Same.new qh) qh (by rw [Zb]; unfold V1 rot; simp)⟩
  ·have e:(!(ws.map V.int).isEmpty)=true:=by cases ws with | nil=>exact absurd rfl kc | cons _ _=>rfl
   have hp:0 < ws.length:=by cases ws with | nil=>exact absurd rfl kc | cons _ _=>simp
   rw [e];refine iteF ?_;dsimp only [U9];refine j4 _ _ ?_;have k0:=Int.emod_nonneg b (show (ws.length:Int)≠0 by lia);have k1:=Int.emod_lt_of_pos b (show (0:Int) < ws.length by lia);obtain ⟨st,ll⟩:∃ st:Nat,b % (ws.length:Int)=st:=⟨_,(Int.toNat_of_nonneg k0).symm⟩;have qx:st<=ws.length:=by lia
   have et:V1 ws b=ws.drop st ++ ws.take st:=by unfold V1 rot; rw [ll,Int.toNat_natCast]
   refine ⟨_,Z,_,Z,a,_,Z,.inl (SqL.of ha),_,_,Z,Z,(by rw [Ab]; lia),?_⟩;dsimp only [Zv];rw [Zgd,ll];refine ⟨_,Z,_,Z,_,Z,a,_,Z,SqL.of ha,λl1 h1=>?_⟩;rw [Zgo qx];have s1:Same H (upd H l1 (.lst ((ws.drop st).map V.int))):=Same.new h1;refine ⟨_,Z,_,Z,_,Z,a,_,Z,SqL.of (s1 _ _ ha),λl2 h2=>?_⟩;rw [Zjl qx];obtain ⟨p9,h2'⟩:=Wc h2;refine ⟨l1,l2,_,_,Z,Z,by rw [Ze (Ne.symm p9),Zb],Zb,?_,λl3 h3=>?_⟩
   ·rw [Ab,Ab,List.length_drop,Ai]; exact Zc0 (by lia)
   ·have s3:=Same.add (o:=.lst ((ws.take st).map V.int)) s1 h2'
    refine k l3 _ (Same.add s3 (s3.free h3)) (s3.free h3) ?_;rw [Zb,et,Aj]
def Fx:FnScope ["tent","place"] ["tent","place"] (Zf Uk):=Am
def Zat (T:Txt w K mg t):FnOk P w K mg base (CXr P w) 4 t.cK t.cR ["tent","place"] (Fp t.aa):=by
 refine T.cX.F.aR Fx (λ_ _ _ _ H vs Q E hr h=>?_)
 ·obtain ⟨p,M,ns,x,rfl,ta,og,k⟩:=h
  obtain ⟨dx,cl,na,sp,mt,o,f,b⟩:=id ta;refine ⟨_,(Zi (Zw (Ow (Ww (pv 0) T.af T.aq.m (Jg T) (hr.mono (by decide)) T.aq.b .nil X9 (Za (pv 1) Zc)) (Vs (Xi Zcc (Ww (pv 0) T.af T.aG.m (Vv T) (hr.mono (by decide)) T.aG.b .nil X9 (Za (pv 1) Zc)) Ou (Zr _)))))),?_⟩;refine ⟨_,Z,p,dx,_,Z,b.ins,Wm _ _ _ _,_,Z,p,M,ns,x,Z,ta,_,Z,?_⟩;by_cases c:0<=x/\x < (ns.length:Int)
  ·rw [decide_eq_true c]
   refine iteT ⟨_,Z,p,dx,_,Z,b.ins,Wm _ _ _ _,_,Z,p,M,ns,x,Z,ta,og,λi y e1 e2=>?_,λz=>absurd c z⟩;refine ⟨Z,?_⟩
   have:Xm M x=!decide (mV y=.non):=by
    unfold Xm;rw [e1,Int.toNat_natCast,Ad,e2,decide_eq_true (show (0:Int)<=i/\(i:Int) < M.length by lia)];cases y <;> rfl
   rw [this] at k;exact k
  ·rw [decide_eq_false c]
   have:Xm M x=false:=by unfold Xm; rw [decide_eq_false (by lia)]; rfl
   rw [this] at k;exact iteF k
def Oe:FnScope ["tent","ahead","place","entry"] ["tent","ahead","place"] (Zf K7):=Am
def Zde (T:Txt w K mg t):FnOk P w K mg base (CXr P w) 4 t.eH t.eQ ["tent","ahead","place"] (Zcy t.aa):=by
 refine T.eX.F.aR Oe (λ_ _ _ _ H vs Q E hr h=>?_)
 ·obtain ⟨p,M,ns,a,x,rfl,ta,og,hc,k⟩:=h
  obtain ⟨dx,cl,na,sp,mt,o,f,b⟩:=id ta;refine ⟨_,(Zg (Zm (i:=3) Oe.nd Z (Or.inl Z) (Ww (pv 0) T.af T.aG.m (Vv T) (hr.mono (by decide)) T.aG.b .nil X9 (Za (pv 1) Zc)))
   (Zi (Zw (Ow (Xi Yv (pcT (W2 T) hr T.aM (Za (pv 2) Zc)) (pcT (W2 T) hr T.aM (Za (pv 3) Zc)) (Zr _)) (Vs (Xi Zgz (pv 2) (pv 3) (Zr _))))))),?_⟩
  obtain ⟨k9,hs1⟩:=Bool.and_eq_true_iff.mp hc;have k9:=of_decide_eq_true k9;obtain ⟨m,hm⟩:=Option.isSome_iff_exists.mp hs1;have hal:a.toNat < M.length:=by lia
  have ha:M[a.toNat]?=some (some m):=by rw [Ad,Ac hal] at hm; rw [Ac hal]; exact congrArg some hm
  have ef:Qk M a x=(decide (x / 3=(m:Int) / 3) && !decide (x=(m:Int))):=by unfold Qk; rw [hm]
  rw [ef] at k;refine ⟨_,Z,p,dx,_,Z,b.ins,Wm _ _ _ _,_,Z,p,M,ns,a,Z,ta,og,λi y e1 e2=>?_,λz=>absurd (show 0<=a/\a < (ns.length:Int) by lia) z⟩;have:i=a.toNat:=by lia
  subst this;rw [ha] at e2;cases e2;refine ⟨_,Z,_,Z,_,Z,_,Z,Z,_,Z,?_⟩;have dI:∀ u v:Int,decide (V.int u=V.int v)=decide (u=v):=λu v=>by
   by_cases z:u=v
   ·subst z; simp
   ·rw [decide_eq_false z,decide_eq_false (λy=>z (by injection y))]
  rw [dI];by_cases z:x / 3=(m:Int) / 3
  ·rw [decide_eq_true z] at k ⊢
   refine iteT ⟨_,Z,_,Z,Z,?_⟩;show Q (.bl (!decide (V.int x=V.int (m:Int)))) H;rw [dI];exact k
  ·rw [decide_eq_false z] at k ⊢
   exact iteF k
def Zfo:FnScope ["tent","word"] ["tent","word"] (Zf Zb4):=Am
def Zf7 (T:Txt w K mg t):FnOk P w K mg base (CXr P w) 5 t.gx t.gA ["tent","word"] (Zfm t.aa):=by
  refine T.gC.F.aR Zfo (λ_ _ _ _ H vs Q E hr h=>?_)
  · obtain ⟨p,a,M,ns,ws,rfl,ta,og,ha,hl,k⟩:=h
    refine ⟨_,(Zg (Yt (PW.pt (V3 (X2 (Qr (pv 1) (λ_=>rfl))) (Qe (X2 (Jr (Zp (U7 Z) (by rfl) T.iz PyProof.Rows.boot_all (Za (Y5 (ts:=["place"]) (fv:=[("tent",0)]) ⟨rfl,by decide +kernel,by decide +kernel,Ym (by rfl),⟨⟨rfl,rfl,Or.inl rfl⟩,trivial⟩⟩ rfl (Xf (pv 1)) (λ_ _ _ _=>(Zs (i:=0) (show List.Nodup (["place","tent"]:List Str) from by decide +kernel) rfl (Or.inl rfl) (Or.inr rfl))) (λ_ _ _ _=>Yi) (λ_ _ _=>rfl) (λ_ _ _ _ _ _=>Xj (pcT (Zat T) hr T.cX (Za (pv 1) (Za (pv 0) Zc))))) Zc))))))) (Zi (Zw Zgy)) Yc)
      (Zi (Zw (Zp (U7 rfl) (by rfl) T.iz PyProof.Rows.boot_all (Za (Y5 (ts:=["ahead","place"]) (fv:=[("tent",0)]) ⟨rfl,by decide +kernel,by decide +kernel,Ym (by rfl),⟨⟨rfl,rfl,Or.inl rfl⟩,trivial⟩⟩ rfl (Ziy rfl T.ju (Za (pv 1) (Za (pcT (Zen T) hr T.gc (Za (pv 1) (Za Zd Zc))) Zc))) (λ_ _ _ _=>(Ko (n:=2) K rfl (Yl (Zs (i:=0) (show List.Nodup (["ahead","place","tent"]:List Str) from by decide +kernel) rfl (Or.inl rfl) (Or.inr rfl)) (Yl (Zs (i:=1) (show List.Nodup (["ahead","place","tent"]:List Str) from by decide +kernel) rfl (Or.inl rfl) (Or.inr rfl)) Wv)))) (λ_ _ _ _=>Yi) (λ_ _ _=>rfl) (λ_ _ _ _ _ _=>Xj (pcT (Zde T) hr T.eX (Za (pv 2) (Za (pv 0) (Za (pv 1) Zc)))))) Zc))))),?_⟩;refine Yb λnxC j4=>?_;refine ⟨_,Z,_,.inl ⟨_,SqL.of ha,Z⟩,?_⟩;by_cases kc:ws=[]
    · subst kc
      exact iteT (k _ (Same.refl _))
    · have e:(!(ws.map V.int).isEmpty)=true:=by cases ws with | nil=>exact absurd rfl kc | cons _ _=>rfl
      have e':(!ws.isEmpty)=true:=by cases ws with | nil=>exact absurd rfl kc | cons _ _=>rfl
      have hp:0 < ws.length:=by cases ws with | nil=>exact absurd rfl kc | cons _ _=>simp
      rw [e];refine iteF ?_;refine ⟨_,Z,a,Z,⟨_,SqL.of ha⟩,λD hD=>?_⟩;refine Ys (xs:=ws.map V.int) (λi σ H1=>∃ v,σ=[v,some (.ref p)]/\Same H H1/\H1 D=some (.lst (((ws.take i).map (Xm M)).map V.bl))) ⟨none,Z,Same.new hD,Zb⟩ ?_ ?_ ?_
      · rintro i σ H1 _ ⟨v,rfl,sm,h1⟩
        exact SqL.of (sm _ _ ha)
      · rintro i x σ H1 hx ⟨v,rfl,sm,h1⟩
        obtain ⟨y,hy,rfl⟩:=Yp hx;dsimp only [Zv,tYes];rw [if_pos rfl];refine ⟨_,Z,_,Z,p,M,ns,y,Z,ta.same sm,og,_,h1,?_,_,Z,Same.add sm hD,?_⟩
        · rw [Ab,Ab,Ai,sizeLine_eq]; lia
        · rw [Zb,Aw,hy,Aj,Aj]; rfl
      rintro σ H1 ⟨v,rfl,s1,h1⟩;rw [Ab,List.take_length] at h1;refine ⟨D,_,Z,SqL.of h1,_,Z,?_⟩;by_cases hc:(ws.map (Xm M)).all id=true
      · rw [hc]
        refine iteF ?_;dsimp only [U9];refine j4 _ _ ?_;refine ⟨_,Z,_,Z,a,ws,1,Z,s1 _ _ ha,hl,λtl H2 s2 htl h2=>?_⟩;have l9:=s1.trans s2;have et:V1 ws 1=rot ws (1 % ws.length):=by
          unfold V1
          congr 1
        rw [et] at h2;have hrl:(rot ws (1 % ws.length)).length=ws.length:=Zhn ws (Nat.le_of_lt (Nat.mod_lt _ hp));have hcr:∀ y∈ws,Xm M y=true:=λy hy=>List.all_eq_true.mp hc _ (List.mem_map.mpr ⟨y,hy,rfl⟩);have ep:Xk M ws=(Ji M ws (rot ws (1 % ws.length))).all id:=by unfold Xk; rw [e',hc]; rfl
        have k':=λH' s'=>k H' s';rw [ep] at k';generalize rot ws (1 % ws.length)=vs at h2 hrl k';refine ⟨a,tl,_,_,Z,SqL.of (l9 _ _ ha),SqL.of h2,λD2 md=>?_⟩;refine Zgb (xs:=ws.map V.int) (ys:=vs.map V.int) (by rw [Ab,Ab,hrl]) (λi σ H3=>∃ v v',σ=[v,v',some (.ref p)]/\Same H2 H3/\H3 D2=some (.lst (((Ji M ws vs).take i).map V.bl))) ⟨none,none,Z,Same.new md,Zb⟩ ?_ ?_ ?_
        · rintro i σ H3 _ ⟨v,v',rfl,s3,h3⟩
          exact ⟨SqL.of (s3 _ _ (l9 _ _ ha)),SqL.of (s3 _ _ h2)⟩
        · rintro i x y σ H3 q hx hy hq ⟨v,v',rfl,s3,h3⟩
          obtain ⟨x',k6,rfl⟩:=Yp hx;obtain ⟨y',mv,rfl⟩:=Yp hy;have s4:Same H3 (upd H3 q (.tup [V.int x',V.int y'])):=Same.new hq;refine ⟨q,_,Z,SqT.of Zb,Z,_,_,Z,_,_,Z,Z,?_⟩;dsimp only [tYes];rw [if_pos rfl];refine ⟨_,Z,_,Z,_,Z,p,M,ns,x',y',Z,((ta.same l9).same s3).same s4,og,hcr x' (Au k6),_,s4 _ _ h3,?_,_,_,Z,Same.add (s3.trans s4) md,?_⟩
          · rw [Ab,Ai]
            have:(Ji M ws vs).length<=ws.length:=by unfold Ji; rw [Ab,List.length_zip]; lia
            rw [sizeLine_eq]; lia
          · have:(Ji M ws vs)[i]?=some (Qk M x' y'):=by
              unfold Ji;rw [Ah,List.getElem?_zip_eq_some (z:=(x',y')) |>.mpr ⟨k6,mv⟩];rfl
            rw [Zb,Aw,this,Aj];rfl
        rintro σ H3 ⟨v,v',rfl,s3,h3⟩;have kz:(Ji M ws vs).length=ws.length:=by unfold Ji; rw [Ab,List.length_zip]; lia
        rw [Ab,List.take_of_length_le (Nat.le_of_eq kz)] at h3;exact ⟨D2,_,Z,SqL.of h3,k' _ (l9.trans s3)⟩
      · have hc:(ws.map (Xm M)).all id=false:=by rw [Bool.eq_false_iff]; exact hc
        rw [hc];have ep:Xk M ws=false:=by unfold Xk; rw [hc]; simp
        have:=k _ s1;rw [ep] at this;exact iteT this
def Kf:FnScope ["tent","word"] ["tent","word"] (Zf Q1):=Am
def Ks (T:Txt w K mg t):FnOk P w K mg base (CXr P w) 6 t.bQ t.bT ["tent","word"] (Kc t.aa t.ai):=by
 refine T.bV.F.aX Kf (λ_ _ _ _ H vs Q E hr h=>?_)
 ·obtain ⟨p,a,M,ns,ws,rfl,ta,og,ha,hl,k⟩:=h
  refine ⟨_,(Zu (Xr (X2 (Jr (pcT (Zf7 T) hr T.gC (Za (pv 0) (Za (pv 1) Zc))))) (Zu (Xd T.gu FBV Z T.c7 Z (Za Zl Zc))) Xn)),?_⟩;refine ⟨_,Z,_,Z,p,a,M,ns,ws,Z,ta,og,ha,hl,λH' s'=>⟨_,Z,?_⟩⟩;obtain ⟨k1,k2⟩:=k H' s'
  cases e:Xk M ws with
  | true=>exact iteF (k1 e)
  | false=>exact iteT ⟨by decide,k2 e⟩
def K0 {t u:TSX} {D:Ends} {R:Value->St->Hp->Prop} {σ:St} {H:Hp} (ow:St->Hp->Prop) (ht:∀ nx:St->Hp->Prop,(∀ σ H,ow σ H->nx σ H)->t { D with nx:=nx } R σ H) (hu:∀ σ H,ow σ H->u D R σ H):Fb t u D R σ H:=ht (u D R) hu
def Ziw (ns:List Int) (n:Nat) (x:Int):(pl ns n x).length<=n:=by
 unfold pl;have:=List.length_filter_le (λi=>decide (ns[i]?=some x)) (List.range n);rw [List.length_range] at this;exact this
def Gd (ns:List Int):Prop:=(∀ (i:Nat) x,ns[i]?=some x->0<=x/\x<=9999)/\∀ x,(pl ns ns.length x).length<=2
def okN (ns:List Int) (n:Nat):Prop:=∀ (j:Nat) x,j < n->ns[j]?=some x->0<=x/\x<=9999/\(pl ns (j + 1) x).length<=2
def Zf8 {ns:List Int} {n:Nat} {x:Int} (h:okN ns n) (hx:ns[n]?=some x) (h1:0<=x) (h2:x<=9999) (h3:(pl ns (n + 1) x).length<=2):okN ns (n + 1):=λj y hj hy=>by
 rcases Nat.lt_or_ge j n with c | c
 ·exact h j y c hy
 ·obtain rfl:j=n:=by lia
  rw [hx] at hy;cases hy;exact ⟨h1,h2,h3⟩
theorem Zet {ns:List Int}:∀ {n:Nat},okN ns n->∀ x,(pl ns n x).length<=2
 | 0,_,x=>by unfold pl; simp
 | n + 1,h,x=>by
  by_cases c:ns[n]?=some x
  ·exact (h n x (Nat.lt_succ_self _) c).2.2
  ·rw [Jt c]
   exact Zet (λj y hj hy=>h j y (by lia) hy) x
def Zi7 {ns:List Int} (h:okN ns ns.length):Gd ns:=⟨λi x hx=>by
 have:=h i x (Aa hx).1 hx
 exact ⟨this.1,this.2.1⟩,Zet h⟩
def Fl (EN:Addr):Sp:=λvs H Q E=>∃ (a:Addr) (ns:List Int),vs=[.ref a]/\H a=some (.lst (ns.map V.int))/\ns.length<=120/\¬ Gd ns/\∀ H',Same H H'->E (.ref EN) none H'
def Gs (C EN:Addr):Sp:=λvs H Q E=>∃ (p r dx:Addr) (ns:List Int),vs=[.ref p,.ref r]/\H p=some (.ins C dx [])/\Y2 H r ns/\ns.length<=120/\¬ (ns≠[]/\Gd ns)/\∀ H',(∀ b u,b≠p->H b=some u->H' b=some u)->E (.ref EN) none H'
def Zap (T:Txt w K mg t):FnOk P w K mg base (CXr P w) 1 t.bW t.bZ ["names_at"] (Fl t.ao):=by
 refine T.bj.F.okL Xc (λvs H Q E h=>?_) (λ_ _ _ _ H vs Q E hr h=>?_)
 ·obtain ⟨a,ns,rfl,_⟩:=h
  rfl
 ·obtain ⟨a,ns,rfl,ha,hl,bd,k⟩:=h
  have hu:=Qx hr;refine ⟨_,(λ_ L=>(Zy (Ye L (Z3 (Zm (i:=1) Xc.nd Z (Or.inl Z) Wx)))
   (Zy (Zb9 L rfl (Zcb rfl T.c6 (Za (pv 0) Zc)) (Vp rfl (Yl (Zs (i:=2) Xc.nd rfl (Or.inl rfl)) (Yl (Zs (i:=3) Xc.nd rfl (Or.inl rfl)) Wv))) (Zy (Ye L (Xr (PW.pt (V3 (Zt J3 (pv 3) Zd (Zr _)) (Qe (Zt J4 (pv 3) (Y3 (v:=.int 9999) rfl T.bx ⟨_,rfl⟩) (Zr _))))) (Zu (Xd T.d7 FBV rfl T.bL rfl (Za Zl Zc))) Xn))
   (Zy (Ye L (Z3 (Xe (Yu PySem.F.plainAttrs_list PySem.F.slot_list_append PySem.F.type_list_append Y1 (Zam (pv 1) (pv 3) (Ya Zc) ⟨rfl,rfl,rfl,rfl⟩) (Za (pv 2) Zc)))))
   (Xo (Ye L (Xr (Zt J4 (Zp Zk (by rfl) T.aj PySem.boot_len (Za (Kr hu (pv 1) (pv 3) (λ_ _=>rfl)) Zc)) Zd (Zr _)) (Zu (Xd T.d7 FBV rfl T.bL rfl (Za Zl Zc))) Xn))))))
   (Xo (Ye L (Z3 (Zw (pv 1)))))))),?_⟩
  intro d hd;have zg:a≠d:=Zh ha hd;dsimp only [Zv];show Fb (Zgs _ _ _) _ _ _ _ _;refine K0 (λ_ _=>False) (λnx ke=>?_) (λ_ _ z=>z.elim);refine ⟨_,Z,a,Z,⟨_,SqL.of (by rw [Ze zg]; exact ha)⟩,?_⟩;have el:(ns.map V.int).length=ns.length:=by simp
  refine Ze6 (xs:=ns.map V.int) (λi σ H1=>∃ (f:Int->Addr) (v2 v3:Option V),σ=[some (.ref a),some (.ref d),v2,v3]/\Same H H1/\H1 d=some (.dK (spk ns i f))/\SpotsF H1 ns i f/\(∀ x∈keys ns i,H (f x)=none)/\okN ns i)
    ⟨λ_=>0,none,none,rfl,Same.new hd,Zb,⟨λx hx=>by simp [keys] at hx,λx hx=>by simp [keys] at hx⟩,(λx hx=>by simp [keys] at hx),λj x hj=>by lia⟩ ?_ ?_ ?_
  ·rintro i σ H1 _ ⟨f,v2,v3,rfl,sm,_⟩
   exact SqL.of (sm _ _ ha)
  ·rintro i x0 σ H1 q hx hq ⟨f,v2,v3,rfl,sm,mz,sf,lu,xj⟩
   have hi:i < ns.length:=by rw [<- el]; exact (Aa hx).1
   obtain ⟨x,k6⟩:∃ x,ns[i]?=some x:=⟨_,Ac hi⟩;obtain rfl:x0=V.int x:=by rw [Ah,k6] at hx; exact (Ax hx).symm
   have sq:Same H (upd H1 q (.tup [.int i,.int x])):=Same.add sm (sm.free hq);refine ⟨q,_,Z,SqT.of Zb,Z,_,_,Z,_,_,Z,Z,?_⟩;refine ⟨_,Z,_,_,Z,Z,_,Z,?_⟩;refine ite2 (λc=>iteT ⟨by decide,k _ sq⟩) (λc1=>?_);have c1:¬ x < 0:=λz=>c1 (decide_eq_true z);refine ⟨_,Z,_,_,Z,Z,_,Z,?_⟩;refine ite2 (λc=>⟨by decide,k _ sq⟩) (λc2=>?_);have c2:¬ x > 9999:=λz=>c2 (decide_eq_true z);have vi:d≠q:=Zh mz hq;have qj:(upd H1 q (.tup [.int i,.int x])) d=some (.dK (spk ns i f)):=by rw [Ze vi]; exact mz
   dsimp only;refine K0 (λσ H2=>∃ (f:Int->Addr),σ=[some (.ref a),some (.ref d),some (.int i),some (.int x)]/\Same H H2/\H2 d=some (.dK (spk ns (i + 1) f))/\SpotsF H2 ns (i + 1) f/\∀ x∈keys ns (i + 1),H (f x)=none) (λnx2 oo=>?_) ?_
   ·refine ⟨_,Z,d,Z,.inl ⟨_,.inl qj⟩,_,Z,Az _,λl qh=>?_⟩
    obtain ⟨hlq,mm⟩:=Wc qh;have rh:d≠l:=Zh mz mm;have rj:(upd (upd H1 q (.tup [.int i,.int x])) l (.lst [])) d=some (.dK (spk ns i f)):=by rw [Ze rh]; exact qj
    have yz:(spk ns i f).length < sizeLine:=by unfold spk; rw [Ab]; exact Z0 (by have:=W0 ns i; lia)
    have qz:H q=none:=sm.free hq;have rc:H l=none:=sm.free mm;have uu:Same H (upd (upd H1 q (.tup [.int i,.int x])) l (.lst [])):=Same.add (Same.add sm qz) rc;have lc:(pl ns i x).length < sizeLine:=Z0 (by have:=Ziw ns i x; lia);have kl:∀ b u,H1 b=some u->(upd (upd H1 q (.tup [.int i,.int x])) l (.lst [])) b=some u:=λb u e=>by rw [Ze (Zh e mm),Ze (Zh e hq)]; exact e
    refine ⟨spk ns i f,Sum.inl x,rj,yz,Z,λv hv=>?_,λhv=>?_⟩
    ·-- the name stands already
     have lp:x∈keys ns i:=by
      unfold spk at hv;rw [Xy] at hv;by_cases c:x∈keys ns i
      ·exact c
      ·rw [if_neg c] at hv; cases hv
     obtain rfl:v=V.ref (f x):=by
      unfold spk at hv;rw [Xy,if_pos lp] at hv;exact (Ax hv).symm
     have ek:keys ns (i + 1)=keys ns i:=by rw [X5 k6,if_pos lp]
     have nh:=kl _ _ (sf.at' x lp);refine ⟨.inl ⟨Z,_,SqL.of nh⟩,_,Z,f x,_,_,Z,Z,nh,by rw [Ab]; exact lc,oo _ _ ⟨f,Z,Same.add uu (lu x lp),?_,⟨?_,?_⟩,?_⟩⟩
     ·have:d≠f x:=λz=>by rw [<- z,rj] at nh; cases nh
      rw [Ze this,rj];unfold spk;rw [ek]
     ·rw [ek]; exact sf.inj
     ·intro y hy
      rw [ek] at hy;by_cases c:y=x
      ·subst c
       rw [Zb,V5 k6,Aj];rfl
      ·have:f y≠f x:=λz=>c (sf.inj y hy x lp z)
       rw [Ze this,kl _ _ (sf.at' y hy),Jt (by rw [k6]; intro z; cases z; exact c Z)]
     ·rw [ek]; exact lu
    ·-- a new name
     have lp:x ∉ keys ns i:=by
      intro c;unfold spk at hv;rw [Xy,if_pos c] at hv;cases hv
     have ek:keys ns (i + 1)=keys ns i ++ [x]:=by rw [X5 k6,if_neg lp]
     have ep:putK (spk ns i f) (Sum.inl x) (V.ref l)=spk ns (i + 1) (λy=>if y=x then l else f y):=by
      unfold spk;rw [Kn lp,ek,Aj];congr 1
      ·apply List.map_congr_left
       intro y hy;dsimp only;rw [if_neg (λ(z:y=x)=>lp (z ▸ hy))]
      ·simp
     rw [ep];have vc:(upd (upd (upd H1 q (.tup [.int i,.int x])) l (.lst [])) d (.dK (spk ns (i + 1) (λy=>if y=x then l else f y)))) l=some (.lst []):=by rw [Ze (Ne.symm rh),Zb]
     refine ⟨.inl ⟨Z,_,SqL.of vc⟩,_,Z,l,_,_,Z,Z,vc,by decide,oo _ _ ⟨λy=>if y=x then l else f y,Z,Same.add (Same.add uu hd) rc,?_,⟨?_,?_⟩,?_⟩⟩
     ·rw [Ze rh,Zb]
     ·intro y hy z hz e
      rw [ek,List.mem_append,List.mem_singleton] at hy hz;by_cases c1:y=x
      ·by_cases c2:z=x
       ·rw [c1,c2]
       ·have qv:=hz.resolve_right c2
        simp only [c1,c2,if_true,if_false] at e;exact absurd (sf.at' z qv) (by rw [<- e,mm]; intro w; cases w)
      ·have mv:=hy.resolve_right c1
       by_cases c2:z=x
       ·simp only [c1,c2,if_true,if_false] at e
        exact absurd (sf.at' y mv) (by rw [e,mm]; intro w; cases w)
       ·have qv:=hz.resolve_right c2
        simp only [c1,c2,if_false] at e;exact sf.inj y mv z qv e
     ·intro y hy
      rw [ek,List.mem_append,List.mem_singleton] at hy;by_cases c:y=x
      ·subst c
       simp only [if_true];rw [Zb,V5 k6,Zee lp];rfl
      ·have mv:=hy.resolve_right c
       have e1:=sf.at' y mv;have n1:f y≠l:=Zh e1 mm;have n2:f y≠d:=λz=>by rw [z,mz] at e1; cases e1
       simp only [c,if_false];rw [Ze n1,Ze n2,kl _ _ e1,Jt (by rw [k6]; intro z; cases z; exact c Z)]
     ·intro y hy
      rw [ek,List.mem_append,List.mem_singleton] at hy;by_cases c:y=x
      ·simp only [c,if_true]; exact rc
      ·simp only [c,if_false]; exact lu y (hy.resolve_right c)
   rintro σ H2 ⟨f',rfl,m9,vk,ux,ls⟩;have u5:x∈keys ns (i + 1):=Wd.mpr ⟨i,by lia,k6⟩;have hg:valV (spk ns (i + 1) f') (Sum.inl x)=some (V.ref (f' x)):=by unfold spk; rw [Xy,if_pos u5]
   refine ⟨_,Z,_,Z,d,_,Z,?_,f' x,_,Z,.inl (SqL.of (ux.at' x u5)),_,_,Z,Z,_,Z,?_⟩
   ·exact .inl ⟨_,Sum.inl x,.inl vk,Z,hg.symm⟩
   refine ite2 (λc=>⟨by decide,k _ m9⟩) (λc3=>?_);have c3:¬ ((((pl ns (i + 1) x).map nV).length:Nat):Int) > 2:=λz=>c3 (decide_eq_true z);rw [Ab] at c3;exact ⟨f',_,_,Z,m9,vk,ux,ls,Zf8 xj k6 (by lia) (by lia) (by lia)⟩
  ·rintro σ H1 ⟨f,v2,v3,rfl,sm,mz,sf,lu,xj⟩
   rw [el] at xj;exact absurd (Zi7 xj) bd
def G6 (T:Txt w K mg t):FnOk P w K mg base (CXr P w) 2 t.aQ t.bB ["self","rows"] (Gs t.aa t.ao):=by
  refine T.aV.F.aX Vc (λ_ _ _ _ H vs Q E hr h=>?_)
  · obtain ⟨p,r,dx,ns,rfl,hp,⟨ts,k9,qd,u7⟩,hl,bd,k⟩:=h
    refine ⟨_,(Zx (Xr (X2 (Qr (pv 1) (λ_=>rfl))) (Zu (Xd T.d7 FBV Z T.bL Z (Za Zl Zc))) Xn)
      (Zx (Z3 (Yx (pv 0) (Y5 (ts:=["row"]) (fv:=[]) ⟨rfl,by decide +kernel,by decide +kernel,Ym (by rfl),trivial⟩ rfl (Xf (pv 1)) (λ_ _ _ _=>(Zs (i:=0) (show List.Nodup (["row"]:List Str) from by decide +kernel) rfl (Or.inl rfl) (Or.inr rfl))) (λ_ _ _ _=>Yi) (λ_ _ _=>rfl) (λ_ _ _ _ _ _=>Xj (J2 (Ql K) (by rfl) T.gF PySem.Pv.boot_tuple (Za (pv 0) Zc)))) rfl))
      (Zx (Z3 (Yx (pv 0) (Y5 (ts:=["row","name"]) (fv:=[]) ⟨rfl,by decide +kernel,by decide +kernel,Ym (by rfl),trivial⟩ rfl (Xf (Z6 (pv 0) rfl)) (λ_ _ _ _=>(Zs (i:=0) (show List.Nodup (["row","name"]:List Str) from by decide +kernel) rfl (Or.inl rfl) (Or.inr rfl))) (λ_ _ _ _=>Yi) (λ_ _ _=>rfl) (λ_ _ _ _ _ _=>Zej rfl rfl (Zca K (pv 0)) (Zs (i:=1) (show List.Nodup (["row","name"]:List Str) from by decide +kernel) rfl (Or.inl rfl) (Or.inr rfl)) Yi (pv 1))) rfl))
      (Zx (Zb8 (pv 0) (pxT (Zap T) hr T.bj (Za (Z6 (pv 0) rfl) Zc)) rfl)
      (Zu (Z3 (Yx (pv 0) (pcT (Uq T) hr T.b4 (Za (Z6 (pv 0) rfl) (Za (Zp Zk (by rfl) T.aj PySem.boot_len (Za (Z6 (pv 0) rfl) Zc)) Zc))) rfl))))))),?_⟩;obtain ⟨n,vb⟩:∃ n,ns.length=3 * n:=⟨_,qd⟩;have pi:ts.length=n:=by lia
    have hrp:r≠p:=λz=>by rw [z,hp] at k9; cases k9
    by_cases em:ts=[]
    · subst em
      refine ⟨_,Z,false,.inl ⟨_,SqL.of k9,Z⟩,?_⟩;exact iteT ⟨by decide,k H λb u _ e=>e⟩
    have bd2:¬ Gd ns:=λz=>bd ⟨λe=>em (List.length_eq_zero_iff.mp (by rw [e] at qd; simp at qd; lia)),z⟩;refine ⟨_,Z,true,.inl ⟨_,SqL.of k9,?_⟩,?_⟩
    · cases ts with
      | nil=>exact absurd Z em
      | cons _ _=>rfl
    refine iteF ?_;refine ⟨_,Z,r,Z,⟨_,SqL.of k9⟩,λD hD=>?_⟩;have xz:D≠p:=λz=>by rw [z,hp] at hD; cases hD
    refine Ys (xs:=ts.map V.ref) (λi σ H1=>∃ (v:Option V),σ=[v]/\Same H H1/\H1 D=some (.lst ((ts.take i).map V.ref))) ⟨none,Z,Same.new hD,Zb⟩ ?_ ?_ ?_
    · rintro i σ H1 _ ⟨v,rfl,sm,h1⟩
      exact SqL.of (sm _ _ k9)
    · rintro i x σ H1 hx ⟨v,rfl,sm,h1⟩
      dsimp only [Zv,tYes];rw [if_pos rfl];obtain ⟨tt,ht,rfl⟩:=Yp hx;refine ⟨_,Z,tt,_,Z,.inr ⟨SqT.of (sm _ _ (u7 i tt ht)),_,h1,(by rw [Ab,Ai]; exact Z0 (by lia)),_,Z,Same.add sm hD,?_⟩⟩;rw [Zb,Aw,ht,Aj];rfl
    rintro σ H1 ⟨v,rfl,pf,h1⟩;rw [Ab,List.take_length] at h1;have ug:=pf _ _ hp;refine ⟨_,Z,p,_,dx,_,Z,ug,T.af,T.aE,by decide,?_⟩;have m5:∀ b u,b≠p->H b=some u->(upd H1 p (.ins t.aa dx (putF "cloths" (.ref D) []))) b=some u:=λb u hb e=>by rw [Ze hb]; exact pf b u e
    have md:(upd H1 p (.ins t.aa dx (putF "cloths" (.ref D) []))) D=some (.lst (ts.map V.ref)):=by rw [Ze xz]; exact h1
    have lc:(upd H1 p (.ins t.aa dx (putF "cloths" (.ref D) []))) p=some (.ins t.aa dx (putF "cloths" (.ref D) [])):=Zb
    have qc:∀ (k:Nat) (q:Addr),ts[k]?=some q->(upd H1 p (.ins t.aa dx (putF "cloths" (.ref D) []))) q=some (.tup (row3 ns k)):=λk q e=>by
      have e1:=u7 k q e;have:q≠p:=λz=>by rw [z,hp] at e1; cases e1
      exact m5 q _ this e1
    generalize upd H1 p (.ins t.aa dx (putF "cloths" (.ref D) []))=H2 at m5 md lc qc ⊢;refine ⟨_,Z,p,_,dx,_,_,Z,lc,T.af,T.aE,Z,D,Z,⟨_,SqL.of md⟩,λN hN=>?_⟩;have hND:N≠D:=λz=>by rw [z,md] at hN; cases hN
    have vq:N≠p:=λz=>by rw [z,lc] at hN; cases hN
    refine Ys (xs:=ts.map V.ref) (λi σ H3=>∃ (v v':Option V),σ=[v,v']/\Same H2 H3/\H3 N=some (.lst ((ns.take (3 * i)).map V.int))) ⟨none,none,Z,Same.new hN,Zb⟩ ?_ ?_ ?_
    · rintro i σ H3 _ ⟨v,v',rfl,sm,h3⟩
      exact SqL.of (sm _ _ md)
    · rintro i x σ H3 hx ⟨v,v',rfl,sm,h3⟩
      dsimp only [Zv,tYes];rw [if_pos rfl];obtain ⟨tt,ht,rfl⟩:=Yp hx;have hi:i < n:=by rw [<- pi]; exact (Aa ht).1
      refine ⟨_,Z,tt,Z,⟨_,SqT.of (sm _ _ (qc i tt ht))⟩,?_⟩;refine Za2 (xs:=row3 ns i) (λj σ H4=>∃ (v':Option V),σ=[some (.ref tt),v']/\Same H2 H4/\H4 N=some (.lst ((ns.take (3 * i)).map V.int ++ (row3 ns i).take j))) ⟨v',Z,sm,by rw [h3,List.take_zero,List.append_nil]⟩ ?_ ?_ ?_
      · rintro j σ H4 _ ⟨v',rfl,sm,h4⟩
        exact SqT.of (sm _ _ (qc i tt ht))
      · rintro j x σ H4 hx ⟨v',rfl,sm,h4⟩
        dsimp only [Zv,tYes];rw [if_pos rfl];refine ⟨_,Z,_,h4,?_,_,Z,Same.add sm hN,?_⟩
        · rw [Ae,Ab,Ai,Ai]
          exact Z0 (by have:(row3 ns i).length=3:=rfl; lia)
        · rw [Zb,Aw,hx,<- List.append_assoc]
          rfl
      · rintro σ H4 ⟨v',rfl,sm,h4⟩
        refine ⟨_,_,Z,sm,?_⟩;rw [h4,List.take_length,Fi vb hi]
    rintro σ H3 ⟨v,v',rfl,uv,h3⟩;have tw:ns.take (3 * (ts.map V.ref).length)=ns:=by rw [Ab,pi,<- vb,List.take_length]
    rw [tw] at h3;have yw:=uv _ _ lc;refine ⟨_,rfl,p,_,dx,_,rfl,yw,T.af,T.al,(by have h1:=Yq "cloths" (.ref D) []; simp only [List.length_nil] at h1; lia),?_⟩;have om:∀ b u,b≠p->H2 b=some u->(upd H3 p (.ins t.aa dx (putF "names_at" (.ref N) (putF "cloths" (.ref D) [])))) b=some u:=λb u hb e=>by rw [Ze hb]; exact uv b u e
    have qk:(upd H3 p (.ins t.aa dx (putF "names_at" (.ref N) (putF "cloths" (.ref D) [])))) N=some (.lst (ns.map V.int)):=by rw [Ze vq]; exact h3
    have qf:(upd H3 p (.ins t.aa dx (putF "names_at" (.ref N) (putF "cloths" (.ref D) [])))) p=some (.ins t.aa dx (putF "names_at" (.ref N) (putF "cloths" (.ref D) []))):=Zb;generalize upd H3 p (.ins t.aa dx (putF "names_at" (.ref N) (putF "cloths" (.ref D) [])))=H4 at om qk qf ⊢;have uc:(putF "names_at" (.ref N) (putF "cloths" (.ref D) [])).lookup ("names_at":Str)=some (.ref N):=by rw [Zz,if_pos rfl]
    exact ⟨_,Z,p,_,dx,_,_,Z,qf,T.af,T.al,uc,N,ns,Z,qk,hl,bd2,λH5 w5=>k H5 λb u hb e=>w5 _ _ (om b u hb (m5 b u hb e))⟩
def tp (v:Nat × Nat):HO:=.tup [V.int v.1,V.int v.2]
def wD (ks:List Int) (ad:Int->Addr):List (Key × V):=ks.map λx=>((Sum.inl x:Key),V.ref (ad x))
def WAt (H:Hp) (d:Addr) (ks:List Int) (g:Int->Nat × Nat):Prop:=∃ ad:Int->Addr,H d=some (.dK (wD ks ad))/\∀ x∈ks,H (ad x)=some (tp (g x))
def WAt.same {H H':Hp} {d:Addr} {ks:List Int} {g:Int->Nat × Nat} (h:WAt H d ks g) (s:Same H H'):WAt H' d ks g:=by
 obtain ⟨ad,h1,h2⟩:=h;exact ⟨ad,s _ _ h1,λx hx=>s _ _ (h2 x hx)⟩
def WAt.congr {H:Hp} {d:Addr} {ks:List Int} {g g':Int->Nat × Nat} (h:WAt H d ks g) (e:∀ x∈ks,g x=g' x):WAt H d ks g':=by
 obtain ⟨ad,h1,h2⟩:=h;exact ⟨ad,h1,λx hx=>by rw [<- e x hx]; exact h2 x hx⟩
def Zig (ks:List Int) (ad:Int->Addr):(wD ks ad).length=ks.length:=by unfold wD; rw [Ab]
def WAt.new {H:Hp} {d q:Addr} {ks:List Int} {g:Int->Nat × Nat} {ad:Int->Addr} {y:Int} {v:Nat × Nat} (h1:H d=some (.dK (wD ks ad))) (h2:∀ x∈ks,H (ad x)=some (tp (g x))) (hq:H q=some (tp v)) (hy:y ∉ ks) :
  WAt (upd H d (.dK (putK (wD ks ad) (Sum.inl y) (V.ref q)))) d (ks ++ [y]) (putG g y v):=by
 have nd:∀ r u,H r=some (tp u)->r≠d:=λr u h z=>by rw [z,h1] at h; cases h
 refine ⟨λx=>if x=y then q else ad x,?_,λx hx=>?_⟩
 ·rw [Zb]
  unfold wD;rw [Kn hy,Aj];congr 3
  ·apply List.map_congr_left
   intro x hx;have:x≠y:=λz=>hy (z ▸ hx);simp [this]
  ·simp
 ·unfold putG
  show upd H d _ (if x=y then q else ad x)=some (tp (if x=y then v else g x));by_cases c:x=y
  ·rw [if_pos c,if_pos c,Ze (nd _ _ hq)]; exact hq
  ·rw [if_neg c,if_neg c]
   have k6:x∈ks:=by
    rcases List.mem_append.mp hx with z | z
    ·exact z
    ·exact absurd (Af z) c
   rw [Ze (nd _ _ (h2 x k6))]; exact h2 x k6
def Gp (C:Addr):Sp:=λvs H Q _=>∃ (p:Addr) (M:List (Option Nat)) (ns:List Int),vs=[.ref p]/\Yn C H p M ns/\TD M ns/\ns.length < 64/\∀ (l:Addr) (H':Hp) (out:List Int),Same H H'->H l=none->H' l=some (.lst (out.map V.int))->out.Pairwise (·<=·)->SwK M ns out->Q (.ref l) H'
def Kd (C:Addr):Sp:=λvs H Q _=>∃ (p:Addr) (M:List (Option Nat)) (ns:List Int),vs=[.ref p]/\Yn C H p M ns/\TD M ns/\ns.length < 64/\∀ (d:Addr) (H':Hp) (ks:List Int),Same H H'->H d=none->WAt H' d ks (λ_=>(1,1))->SwK M ns ks->Q (.ref d) H'
def Ft {M:List (Option Nat)} {ns:List Int} (td:TD M ns) {x:Int} (hx:x∈keys ns ns.length):SwN M ns x ↔ Y7 ns x≠"rim":=by
 constructor
 ·rintro ⟨p,j,h1,h2⟩ e
  rcases Oc td hx with ⟨_,a,e1,ma⟩ | ⟨e',_⟩ | ⟨e',_⟩
  ·have hp:p∈pl ns ns.length x:=Y8.mpr ⟨(Aa h2).1,h2⟩
   rw [e1,List.mem_singleton] at hp;rw [hp,ma] at h1;cases h1
  ·exact t_lr (e'.symm.trans e)
  ·exact t_fr (e'.symm.trans e)
 ·intro e
  rcases Oc td hx with ⟨e',_⟩ | ⟨_,a,b,_,e1,ma,_⟩ | ⟨_,a,b,_,e1,ma,_⟩
  ·exact absurd e' e
  ·have hp:a∈pl ns ns.length x:=by rw [e1]; exact List.mem_cons_self
   exact ⟨a,b,ma,(Y8.mp hp).2⟩
  ·have hp:a∈pl ns ns.length x:=by rw [e1]; exact List.mem_cons_self
   exact ⟨a,b,ma,(Y8.mp hp).2⟩
def SwK.len {M:List (Option Nat)} {ns ks:List Int} (sw:SwK M ns ks) (td:TD M ns):ks.length<=ns.length:=by
 have e:ks.Perm ((keys ns ns.length).filter λx=>decide (x∈ks)):=(List.perm_ext_iff_of_nodup sw.nd ((Qv ns ns.length).filter _)).mpr λx=>by
  rw [List.mem_filter,decide_eq_true_eq];exact ⟨λh=>⟨((sw.mem x).mp h).key td,h⟩,λh=>h.2⟩
 have h1:=e.length_eq;have h2:=List.length_filter_le (λx=>decide (x∈ks)) (keys ns ns.length);have h3:=W0 ns ns.length;lia
def swB (ns:List Int) (x:Int):Bool:=!decide (V.str (Y7 ns x)=V.str "rim")
def Zha {ns:List Int} {x:Int}:swB ns x=true ↔ Y7 ns x≠"rim":=by
 unfold swB;rw [Bool.not_eq_true',decide_eq_false_iff_not];exact ⟨λh e=>h (by rw [e]),λh e=>h (by injection e)⟩
def Uc {α:Type} {f:α->Bool} {l:List α} {i:Nat} {x:α} (h:l[i]?=some x):(l.take (i + 1)).filter f=if f x=true then (l.take i).filter f ++ [x] else (l.take i).filter f:=by
 rw [Aw,h,List.filter_append];by_cases c:f x=true
 ·simp [c]
 ·simp [c]
def Gw:FnScope ["tent"] ["tent"] (Zf Vf):=Am
def G4 (T:Txt w K mg t):FnOk P w K mg base (CXr P w) 3 t.cc t.cj ["tent"] (Gp t.aa):=by
 refine T.cr.F.aR Gw (λ_ _ _ _ H vs Q E hr h=>?_)
 ·obtain ⟨p,M,ns,rfl,ta,td,mr,k⟩:=h
  refine ⟨_,(Zi (Zw (Y5 (ts:=["seam"]) (fv:=[("tent",0)]) ⟨rfl,by decide +kernel,by decide +kernel,Ym (by rfl),⟨⟨rfl,rfl,Or.inl rfl⟩,trivial⟩⟩ rfl (Xf (Zf2 (pv 0) T.af T.bn.m (G5 T) (hr.mono (by decide)) T.bn.b .nil X9)) (λ_ _ _ _=>(Zs (i:=0) (show List.Nodup (["seam","tent"]:List Str) from by decide +kernel) rfl (Or.inl rfl) (Or.inr rfl))) (λ_ _ _ _=>(Zht (Zt Zgz (Ww (pv 1) T.af T.aO.m (O2 T) (hr.mono (by decide)) T.aO.b .nil X9 (Za (pv 0) Zc)) Zl (Zr _)))) (λ_ _ _=>rfl) (λ_ _ _ _ _ _=>Xj (pv 0))))),?_⟩;obtain ⟨dx,cl,na,sp,mt,o,ff,b⟩:=id ta;refine ⟨_,Z,p,dx,_,Z,b.ins,Wm _ _ _ _,p,M,ns,Z,ta,mr,λl ks mm xv ll=>?_⟩;have s1:Same H (upd H l (.lst (ks.map V.int))):=Same.new mm;have h1:(upd H l (.lst (ks.map V.int))) l=some (.lst (ks.map V.int)):=Zb;generalize upd H l (.lst (ks.map V.int))=H1 at s1 h1 ⊢;have pq:ks.length<=64:=by rw [xv.length_eq]; have:=W0 ns ns.length; lia
  refine ⟨l,Z,⟨_,SqL.of h1⟩,λD hD=>?_⟩;refine Ys (xs:=ks.map V.int) (λi σ H3=>∃ v,σ=[v,some (.ref p)]/\Same H1 H3/\H3 D=some (.lst (((ks.take i).filter (swB ns)).map V.int))) ⟨none,Z,Same.new hD,Zb⟩ ?_ ?_ ?_
  ·rintro i σ H3 _ ⟨v,rfl,s3,h3⟩
   exact SqL.of (s3 _ _ h1)
  ·rintro i x σ H3 hx ⟨v,rfl,s3,h3⟩
   obtain ⟨y,hy,rfl⟩:=Yp hx;have hyk:y∈keys ns ns.length:=xv.mem_iff.mp (Au hy);have ta3:=(ta.same s1).same s3;obtain ⟨dx,cl,na,sp,mt,o,ff,b⟩:=id ta3;dsimp only [Zv];refine ⟨_,Z,p,dx,_,Z,b.ins,Wm _ _ _ _,_,Z,p,M,ns,y,Z,ta3,td,λ_ H4 s4=>?_,λz=>absurd hyk z⟩;refine ⟨Z,_,Z,?_⟩;show if swB ns y=true then _ else _
   have lt:(((ks.take i).filter (swB ns)).map V.int).length < sizeLine:=by
    rw [Ab];have:=List.length_filter_le (swB ns) (ks.take i);rw [Ai] at this;exact Z0 (by lia)
   by_cases c:swB ns y=true
   ·rw [if_pos c]
    refine ⟨_,Z,_,s4 _ _ h3,lt,_,Z,Same.add (s3.trans s4) hD,?_⟩;rw [Zb,Uc hy,if_pos c,Aj];rfl
   ·rw [if_neg c]
    refine ⟨_,Z,s3.trans s4,?_⟩;rw [s4 _ _ h3,Uc hy,if_neg c]
  ·rintro σ H3 ⟨v,rfl,s3,h3⟩
   rw [Ab,List.take_length] at h3;refine k D H3 _ (s1.trans s3) (s1.free hD) h3 (ll.filter _) ⟨(xv.nodup_iff.mpr (Qv ns ns.length)).filter _,λx=>?_⟩;rw [List.mem_filter,xv.mem_iff,Zha];refine ⟨λzz45=>?_,λh=>⟨h.key td,(Ft td (h.key td)).mp h⟩⟩;obtain ⟨h1,h2⟩:=zz45;exact (Ft td h1).mpr h2
def Kg:FnScope ["tent"] ["tent"] (Zf Q2):=Am
def Qh (T:Txt w K mg t):FnOk P w K mg base (CXr P w) 4 t.bR t.bU ["tent"] (Kd t.aa):=by
 refine T.aZ.F.aR Kg (λ_ _ _ _ H vs Q E hr h=>?_)
 ·obtain ⟨p,M,ns,rfl,ta,td,mr,k⟩:=h
  have hu:=Qx hr;refine ⟨_,(Zi (Zw (Zeh (ts:=["seam"]) (fv:=[]) ⟨rfl,by decide +kernel,by decide +kernel,Ym (by rfl),trivial⟩ rfl (Xf (pcT (G4 T) hr T.cr (Za (pv 0) Zc))) (λ_ _ _ _=>(Zs (i:=0) (show List.Nodup (["seam"]:List Str) from by decide +kernel) rfl (Or.inl rfl) (Or.inr rfl))) (λ_ _ _ _=>Yi) (λ_ _ _=>rfl) (λ_ _ _ _ _ _=>Zf3 (pv 0) (Wo (Za Zd (Za Zd Zc))))))),?_⟩;refine ⟨_,Z,p,M,ns,Z,ta,td,mr,λl H1 ks s1 mm h1 _ sw=>?_⟩;have pq:ks.length<=64:=by
   have:=sw.len td
   lia
  refine ⟨l,Z,⟨_,SqL.of h1⟩,λD hD=>?_⟩;refine Ys (xs:=ks.map V.int) (λi σ H3=>∃ v,σ=[v]/\Same H1 H3/\WAt H3 D (ks.take i) λ_=>(1,1)) ⟨none,Z,Same.new hD,λ_=>0,Zb,λx hx=>by simp at hx⟩ ?_ ?_ ?_
  ·rintro i σ H3 _ ⟨v,rfl,s3,h3⟩
   exact SqL.of (s3 _ _ h1)
  ·rintro i x σ H3 hx ⟨v,rfl,s3,ad,h3,h4⟩
   obtain ⟨y,hy,rfl⟩:=Yp hx;dsimp only [Zv,tYes];rw [if_pos rfl];refine ⟨_,Z,(by show 2<=sizeLine; rw [sizeLine_eq]; decide),λq hq=>?_⟩;have sq:Same H3 (upd H3 q (.tup [V.int 1,V.int 1])):=Same.new hq;have l7:(upd H3 q (.tup [V.int 1,V.int 1])) q=some (tp (1,1)):=Zb;have hny:y ∉ ks.take i:=λz=>by
    have hi:i < ks.length:=(Aa hy).1
    have nd:=sw.nd
    rw [<- List.take_append_drop i ks,List.nodup_append] at nd
    refine nd.2.2 y z y ?_ Z
    rw [List.drop_eq_getElem_cons hi,(Aa hy).2]
    exact List.mem_cons_self
   refine ⟨_,Sum.inl y,Z,sq _ _ h3,(by rw [Zig,Ai]; exact Z0 (by lia)),_,Z,Same.add (s3.trans sq) hD,?_⟩;rw [Aw,hy];have:=WAt.new (g:=λ_=>(1,1)) (v:=(1,1)) (sq _ _ h3) (λx hx=>sq _ _ (h4 x hx)) l7 hny;exact this.congr λx _=>by unfold putG; split <;> rfl
  ·rintro σ H3 ⟨v,rfl,s3,h3⟩
   rw [Ab,List.take_length] at h3;exact k D H3 ks (s1.trans s3) (s1.free hD) h3 sw
def Jy {H:Hp} {p:Addr} {a b:HO}:upd (upd H p a) p b=upd H p b:=by
 funext c;by_cases z:c=p
 ·subst z; rw [Zb,Zb]
 ·rw [Ze z,Ze z,Ze z]
def Qp (te th po wo:V):List (Str × V):=putF "worths" wo (putF "pools" po (putF "threads" th (putF "tent" te [])))
def Zg2 (be sc st un:Addr):List (Str × V):=putF "undone" (.ref un) (putF "standing" (.ref st) (putF "scene" (.ref sc) (putF "began" (.ref be) [])))
structure HallNew (CT CS CH:Addr) (H:Hp) (p:Addr) (M:List (Option Nat)) (ns:List Int) (dx be sc st un kq th po wo:Addr) (ks:List Int):Prop where
 ins:H p=some (.ins CH dx (Zg2 be sc st un))
 tent:Yn CT H be M ns
 scn:H sc=some (.ins CS kq (Qp (.ref be) (.ref th) (.ref po) (.ref wo)))
 thr:H th=some (.dK [])
 poo:H po=some (.dK [])
 wor:WAt H wo ks λ_=>(1,1)
 sw:SwK M ns ks
 sta:H st=some (.lst [])
 und:H un=some (.lst [])
def OthP (p:Addr) (H H':Hp):Prop:=∀ b u,b≠p->H b=some u->H' b=some u
def OthP.trans {p:Addr} {H H1 H':Hp} (s:OthP p H H1) (s1:OthP p H1 H'):OthP p H H':=λb u hb e=>s1 b u hb (s b u hb e)
def OthP.of {p:Addr} {H H':Hp} (s:Same H H'):OthP p H H':=λb u _ e=>s b u e
def OthP.upd {p:Addr} {H:Hp} {o:HO}:OthP p H (upd H p o):=λb u hb e=>by rw [Ze hb]; exact e
def Y0 {H H':Hp} {p C dx:Addr} {fs:List (Str × V)} (hp:H p=some (.ins C dx fs)) (s:OthP p H H') {b:Addr} {u:HO} (e:H b=some u) (hu:∀ C dx fs,u≠.ins C dx fs):H' b=some u :=
 s b u (λz=>by rw [z,hp] at e; exact hu _ _ _ (Ax e).symm) e
def Y2.oth {H H':Hp} {p C dx r:Addr} {fs:List (Str × V)} {ns:List Int} (h:Y2 H r ns) (hp:H p=some (.ins C dx fs)) (s:OthP p H H'):Y2 H' r ns:=by
 obtain ⟨ts,h1,h2,h3⟩:=h;exact ⟨ts,Y0 hp s h1 (λ_ _ _ z=>nomatch z),h2,λk q e=>Y0 hp s (h3 k q e) (λ_ _ _ z=>nomatch z)⟩
def Yn.oth {C0:Addr} {H H':Hp} {p C dx x:Addr} {fs:List (Str × V)} {M:List (Option Nat)} {ns:List Int} (h:Yn C0 H x M ns) (hp:H p=some (.ins C dx fs)) (hx:x≠p) (s:OthP p H H'):Yn C0 H' x M ns:=by
 obtain ⟨dt,cl,na,sp,mt,o,f,b⟩:=h;exact ⟨dt,cl,na,sp,mt,o,f,s _ _ hx b.ins,b.rows.oth hp s,Y0 hp s b.names (λ_ _ _ z=>nomatch z),Y0 hp s b.spots (λ_ _ _ z=>nomatch z),Y0 hp s b.mates (λ_ _ _ z=>nomatch z),λy hy=>Y0 hp s (b.at' y hy) (λ_ _ _ z=>nomatch z)⟩
def WAt.oth {H H':Hp} {p C dx d:Addr} {fs:List (Str × V)} {ks:List Int} {g:Int->Nat × Nat} (h:WAt H d ks g) (hp:H p=some (.ins C dx fs)) (s:OthP p H H'):WAt H' d ks g:=by
 obtain ⟨ad,h1,h2⟩:=h;exact ⟨ad,Y0 hp s h1 (λ_ _ _ z=>nomatch z),λx hx=>Y0 hp s (h2 x hx) (λ_ _ _ z=>nomatch z)⟩
def Gu (C:Addr):Sp:=λvs H Q _=>∃ (p dx:Addr) (te th po wo:V),vs=[.ref p,te,th,po,wo]/\H p=some (.ins C dx [])/\Q .non (upd H p (.ins C dx (Qp te th po wo)))
def Va (CT CS CH:Addr):Sp:=λvs H Q _=>∃ (p r dx:Addr) (M:List (Option Nat)) (ns:List Int),vs=[.ref p,.ref r]/\H p=some (.ins CH dx [])/\Y2 H r ns/\TD M ns/\ns.length < 64 /\
 ∀ (H':Hp),OthP p H H'->(∃ be sc st un kq th po wo ks,HallNew CT CS CH H' p M ns dx be sc st un kq th po wo ks/\H st=none)->Q .non H'
def Q0 (CH EN:Addr):Sp:=λvs H Q E=>∃ (p r dx:Addr) (ns:List Int),vs=[.ref p,.ref r]/\H p=some (.ins CH dx [])/\Y2 H r ns/\ns.length<=120/\¬ (ns≠[]/\Gd ns)/\∀ H',OthP p H H'->E (.ref EN) none H'
def Gy:FnScope ["self","tent","threads","pools","worths"] ["self","tent","threads","pools","worths"] (Zf Vi):=Am
def Q4 (T:Txt w K mg t):FnOk P w K mg base (CXr P w) 1 t.bf t.ck ["self","tent","threads","pools","worths"] (Gu t.ak):=by
 refine T.bo.F.aR Gy (λ_ _ _ _ H vs Q E hr h=>?_)
 ·obtain ⟨p,dx,te,th,po,wo,rfl,hp,k⟩:=h
  refine ⟨_,(Zg (Yx (pv 0) (pv 1) Z)
   (Zg (Yx (pv 0) (pv 2) rfl)
   (Zg (Yx (pv 0) (pv 3) rfl)
   (Zi (Yx (pv 0) (pv 4) rfl))))),?_⟩;have l1:=Yq "tent" te [];have l2:=Yq "threads" th (putF "tent" te []);have l3:=Yq "pools" po (putF "threads" th (putF "tent" te []));rw [List.length_nil] at l1;refine ⟨_,Z,_,Z,p,_,dx,_,Z,hp,T.aB,T.cq,by decide,?_⟩;refine ⟨_,Z,_,Z,p,_,dx,_,Z,Zb,T.aB,T.aH,by lia,?_⟩;refine ⟨_,Z,_,Z,p,_,dx,_,Z,Zb,T.aB,T.aW,by lia,?_⟩;refine ⟨_,Z,_,Z,p,_,dx,_,Z,Zb,T.aB,T.dX,by lia,?_⟩;rw [Jy,Jy,Jy];exact k
def Ve:FnScope ["self","rows"] ["self","rows"] (Zf Up):=Am
def Zaw (T:Txt w K mg t):FnOk P w K mg base (CXr P w) 5 t.aF t.aU ["self","rows"] (Va t.aa t.ak t.ae):=by
 refine T.bD.F.aR Ve (λ_ _ _ _ H vs Q E hr h=>?_)
 ·obtain ⟨p,r,dx,M,ns,rfl,hp,k9,td,mr,k⟩:=h
  refine ⟨_,(Zg (Yx (pv 0) (Kp T.gD (Zau T) (hr.mono (by decide)) Z T.gB T.aV.b .nil X9 (Za (pv 1) Zc)) Z)
   (Zg (Yx (pv 0) (Kp T.gi (Q4 T) (hr.mono (by decide)) rfl T.f7 T.bo.b .nil X9 (Za (Z6 (pv 0) rfl) (Za Wx (Za Wx (Za (pcT (Qh T) hr T.aZ (Za (Z6 (pv 0) rfl) Zc)) Zc))))) rfl)
   (Zg (Yx (pv 0) (Ya Zc) rfl)
   (Zi (Yx (pv 0) (Ya Zc) rfl))))),?_⟩;refine ⟨_,Z,?_⟩;intro x dt hx rg kc;have s0:Same H (upd (upd H dt (.own x)) x (.ins t.aa dt [])):=Same.add (Same.new rg) hx;refine ⟨x,r,dt,M,ns,Z,Zb,k9.same s0,td,by lia,λH1 kl ta=>⟨Z,?_⟩⟩;have s1:Same H H1:=λb u e=>kl b u (Zh e hx) (s0 b u e);refine ⟨_,Z,p,_,dx,_,Z,s1 _ _ hp,T.au,T.bg,by decide,?_⟩;have l1:=Yq "began" (.ref x) [];rw [List.length_nil] at l1;have ug:=s1 _ _ hp;have nx:x≠p:=λz=>by rw [z,hp] at hx; cases hx
  have o2:OthP p H1 (upd H1 p (.ins t.ae dx (putF "began" (.ref x) []))):=.upd;have lc:(upd H1 p (.ins t.ae dx (putF "began" (.ref x) []))) p=some (.ins t.ae dx (putF "began" (.ref x) [])):=Zb;have wy:=ta.oth ug nx o2;have yi:OthP p H _:=(OthP.of s1).trans o2;generalize upd H1 p (.ins t.ae dx (putF "began" (.ref x) []))=H2 at o2 lc wy yi ⊢;clear o2 ta kl s1 s0 ug rg kc k9;have uc:(putF "began" (.ref x) []).lookup ("began":Str)=some (.ref x):=by rw [Zz,if_pos rfl]
  refine ⟨_,Z,p,_,dx,_,_,Z,lc,T.au,T.bg,uc,?_⟩;intro th xt po xu;obtain ⟨hpt,wf⟩:=Wc xu;have s3:Same H2 (upd (upd H2 th (.dK [])) po (.dK [])):=Same.add (Same.new xt) wf;have yp:(upd (upd H2 th (.dK [])) po (.dK [])) th=some (.dK []):=by rw [Ze (Ne.symm hpt),Zb]
  have yv:(upd (upd H2 th (.dK [])) po (.dK [])) po=some (.dK []):=Zb;generalize upd (upd H2 th (.dK [])) po (.dK [])=H3 at s3 yp yv ⊢;refine ⟨_,Z,p,_,dx,_,_,Z,s3 _ _ lc,T.au,T.bg,uc,x,M,ns,Z,wy.same s3,td,mr,λwo H4 ks s4 hwo w4 sw=>?_⟩;intro sc kq qy sx p9;have s5:Same H4 (upd (upd H4 kq (.own sc)) sc (.ins t.ak kq [])):=Same.add (Same.new sx) qy;refine ⟨sc,kq,_,_,_,_,Z,Zb,Z,?_⟩;rw [Jy];have s6:Same H4 (upd (upd H4 kq (.own sc)) sc (.ins t.ak kq (Qp (.ref x) (.ref th) (.ref po) (.ref wo)))):=Same.add (Same.new sx) qy;have zk:(upd (upd H4 kq (.own sc)) sc (.ins t.ak kq (Qp (.ref x) (.ref th) (.ref po) (.ref wo)))) sc=some (.ins t.ak kq (Qp (.ref x) (.ref th) (.ref po) (.ref wo))):=Zb;generalize upd (upd H4 kq (.own sc)) sc (.ins t.ak kq (Qp (.ref x) (.ref th) (.ref po) (.ref wo)))=H6 at s6 zk ⊢;clear s5;have xc:=s4.trans s6;have xf:=s3.trans xc;have nw:=xf _ _ lc;have yj:sc≠p:=λz=>by rw [z,(s3.trans s4) _ _ lc] at qy; cases qy
  refine ⟨_,Z,p,_,dx,_,Z,nw,T.au,T.bi,by lia,?_⟩;have l2:=Yq "scene" (.ref sc) (putF "began" (.ref x) []);have o7:OthP p H6 (upd H6 p (.ins t.ae dx (putF "scene" (.ref sc) (putF "began" (.ref x) [])))):=.upd;have uf:(upd H6 p (.ins t.ae dx (putF "scene" (.ref sc) (putF "began" (.ref x) [])))) p=some (.ins t.ae dx (putF "scene" (.ref sc) (putF "began" (.ref x) []))):=Zb;have yb:=(wy.same xf).oth nw nx o7;have yo:=Y0 nw o7 (xc _ _ yp) (λ_ _ _ z=>nomatch z);have yu:=Y0 nw o7 (xc _ _ yv) (λ_ _ _ z=>nomatch z);have w7:=(w4.same s6).oth nw o7;have zj:=o7 _ _ yj zk;have xk:OthP p H _:=(yi.trans (.of xf)).trans o7;generalize upd H6 p (.ins t.ae dx (putF "scene" (.ref sc) (putF "began" (.ref x) [])))=H7 at o7 uf yb yo yu w7 zj xk ⊢;clear o7 nw xf xc s6 zk s4 w4 s3 yp yv wy lc yi xt xu wf hwo qy sx;refine ⟨Az _,λst ll=>?_⟩
  have hst0:H st=none:=by
   cases e:H st with
   | none=>rfl
   | some u =>
    rw [xk _ _ (λz=>by rw [z,uf] at ll; cases ll) e] at ll;cases ll
  have s8:Same H7 (upd H7 st (.lst [])):=Same.new ll;have yr:(upd H7 st (.lst [])) st=some (.lst []):=Zb;generalize upd H7 st (.lst [])=H8 at s8 yr ⊢;have q9:=s8 _ _ uf;refine ⟨_,Z,p,_,dx,_,Z,q9,T.au,T.bv,by lia,?_⟩;have l3:=Yq "standing" (.ref st) (putF "scene" (.ref sc) (putF "began" (.ref x) []));have o9:OthP p H8 (upd H8 p (.ins t.ae dx (putF "standing" (.ref st) (putF "scene" (.ref sc) (putF "began" (.ref x) []))))):=.upd;have hp9:(upd H8 p (.ins t.ae dx (putF "standing" (.ref st) (putF "scene" (.ref sc) (putF "began" (.ref x) []))))) p=some (.ins t.ae dx (putF "standing" (.ref st) (putF "scene" (.ref sc) (putF "began" (.ref x) [])))):=Zb;have ta9:=(yb.same s8).oth q9 nx o9;have ht9:=Y0 q9 o9 (s8 _ _ yo) (λ_ _ _ z=>nomatch z);have hq9:=Y0 q9 o9 (s8 _ _ yu) (λ_ _ _ z=>nomatch z);have hs9:=Y0 q9 o9 yr (λ_ _ _ z=>nomatch z);have w9:=(w7.same s8).oth q9 o9;have hc9:=o9 _ _ yj (s8 _ _ zj);have o09:OthP p H _:=(xk.trans (.of s8)).trans o9;generalize upd H8 p (.ins t.ae dx (putF "standing" (.ref st) (putF "scene" (.ref sc) (putF "began" (.ref x) []))))=H9 at o9 hp9 ta9 ht9 hq9 hs9 w9 hc9 o09 ⊢;clear o9 q9 s8 yr uf yb yo yu w7 zj xk ll;refine ⟨Az _,λun hun=>?_⟩;have sA:Same H9 (upd H9 un (.lst [])):=Same.new hun;have hsA:(upd H9 un (.lst [])) un=some (.lst []):=Zb;generalize upd H9 un (.lst [])=HA at sA hsA ⊢;have q0:=sA _ _ hp9;refine ⟨_,Z,p,_,dx,_,Z,q0,T.au,T.eG,by lia,?_⟩;have oB:OthP p HA (upd HA p (.ins t.ae dx (Zg2 x sc st un))):=.upd;refine k _ ((o09.trans (.of sA)).trans oB) ⟨x,sc,st,un,kq,th,po,wo,ks,⟨Zb,(ta9.same sA).oth q0 nx oB,oB _ _ yj (sA _ _ hc9),Y0 q0 oB (sA _ _ ht9) (λ_ _ _ z=>nomatch z),Y0 q0 oB (sA _ _ hq9) (λ_ _ _ z=>nomatch z),(w9.same sA).oth q0 oB,sw,Y0 q0 oB (sA _ _ hs9) (λ_ _ _ z=>nomatch z),Y0 q0 oB hsA (λ_ _ _ z=>nomatch z)⟩,hst0⟩
def G7 (T:Txt w K mg t):FnOk P w K mg base (CXr P w) 5 t.aF t.aU ["self","rows"] (Q0 t.ae t.ao):=by
 refine T.bD.F.aX Ve (λ_ _ _ _ H vs Q E hr h=>?_)
 ·obtain ⟨p,r,dx,ns,rfl,hp,k9,hl,bd,k⟩:=h
  refine ⟨_,(Zx (Zb8 (pv 0) (Zaj T.gD (G6 T) (hr.mono (by decide)) Z T.gB T.aV.b .nil (Za (pv 1) Zc)) Z)
   (Zx (Z3 (Yx (pv 0) (Kp T.gi (Q4 T) (hr.mono (by decide)) rfl T.f7 T.bo.b .nil X9 (Za (Z6 (pv 0) rfl) (Za Wx (Za Wx (Za (pcT (Qh T) hr T.aZ (Za (Z6 (pv 0) rfl) Zc)) Zc))))) rfl))
   (Zx (Z3 (Yx (pv 0) (Ya Zc) rfl))
   (Zu (Z3 (Yx (pv 0) (Ya Zc) rfl)))))),?_⟩;refine ⟨_,Z,?_⟩;intro x dt hx rg kc;have s0:Same H (upd (upd H dt (.own x)) x (.ins t.aa dt [])):=Same.add (Same.new rg) hx;exact ⟨x,r,dt,ns,Z,Zb,k9.same s0,hl,bd,λH1 kl=>k H1 λb u _ e=>kl b u (Zh e hx) (s0 b u e)⟩
def G8 (T:Txt w K mg t):FnOk P w K mg base (CXr P w) 5 t.aF t.aU ["self","rows"] (λvs H Q E=>Va t.aa t.ak t.ae vs H Q E\/Q0 t.ae t.ao vs H Q E):=(Zaw T).or (G7 T)
def cloS:Str:=Str.ofString "cloth "
def Gq:Sp:=λvs H Q _=>∃ (a:Addr) (C D:List Str),vs=[.ref a]/\H a=some (.lst ((C ++ D).map V.str))/\(∀ c∈C,Txt.startswith c cloS=true)/\(∀ d∈D.head?,Txt.startswith d cloS=false)/\Q (.int C.length) H
structure HN (t:Adr) (H:Hp) (p:Addr) (M:List (Option Nat)) (ns:List Int):Prop where
 ex:∃ dx be sc st un kq th po wo ks,HallNew t.aa t.ak t.ae H p M ns dx be sc st un kq th po wo ks
def O3 {H:Hp} {th:Addr} {x:Str} (h:H th=some (.dK [])):DGet H th (.str x) none:=.inl ⟨_,Sum.inr x,.inl h,rfl,rfl⟩
def Zhh (CS:Addr):Sp:=λvs H Q _=>∃ (sc kq th po:Addr) (te wo:V) (x:Str),vs=[.ref sc,.str x]/\H sc=some (.ins CS kq (Qp te (.ref th) (.ref po) wo))/\H th=some (.dK [])/\H po=some (.dK [])/\Asc x/\x.length<=900/\isN x=true/\∀ H',Same H H'->Q .non H'
def Zhi (t:Adr):Sp:=λvs H Q E=>∃ (p a:Addr) (x:Str) (M:List (Option Nat)) (ns ws:List Int),vs=[.ref p,.str x,.ref a]/\HN t H p M ns/\TD M ns/\Asc x/\x.length<=900/\isN x=true/\H a=some (.lst (ws.map V.int))/\ws.length<=1000/\Xk M ws=false/\∀ H',Same H H'->E (.ref t.ai) none H'
def Zfn (t:Adr):Sp:=λvs H Q E=>∃ (p:Addr) (x:Str) (M:List (Option Nat)) (ns:List Int),vs=[.ref p,.str x]/\HN t H p M ns/\E (.ref t.ap) none H
def Zd1 (t:Adr):Sp:=λvs H Q _=>∃ (p:Addr) (M:List (Option Nat)) (ns:List Int),vs=[.ref p]/\HN t H p M ns/\∀ l,H l=none->Q (.ref l) (upd H l (.lst []))
def Wq (H:Hp) (u:Addr) (d:Str):Prop:=(∃ y m,wdS d=[Str.ofString "lift",y]/\isN y=true/\H u=some (.tup [.str (Str.ofString "lift"),.ref m])/\H m=some (.tup [.str y])) \/
 ∃ y z q ns m n,wdS d=Str.ofString "lay" :: y :: z :: q/\isN y=true/\Xx (z :: q)=some ns/\H u=some (.tup [.str (Str.ofString "lay"),.ref m])/\H m=some (.tup [.str y,.ref n])/\H n=some (.lst (ns.map V.int))
def Wq.same {H H':Hp} {u:Addr} {d:Str} (h:Wq H u d) (s:Same H H'):Wq H' u d:=by
 rcases h with ⟨y,m,h1,h2,h3,h4⟩ | ⟨y,z,q,ns,m,n,h1,h2,h3,h4,h5,h6⟩
 ·exact .inl ⟨y,m,h1,h2,s _ _ h3,s _ _ h4⟩
 ·exact .inr ⟨y,z,q,ns,m,n,h1,h2,h3,s _ _ h4,s _ _ h5,s _ _ h6⟩
def Zcz (t:Adr):Sp:=λvs H Q E=>∃ (p u:Addr) (d:Str) (M:List (Option Nat)) (ns:List Int),vs=[.ref p,.ref u]/\HN t H p M ns/\TD M ns/\Wq H u d/\Asc d/\d.length<=890/\(∀ y,wdS d=[Str.ofString "lift",y]->∀ H',Same H H'->E (.ref t.ap) none H')/\(∀ y z q xs,wdS d=Str.ofString "lay" :: y :: z :: q->Xx (z :: q)=some xs->Xk M xs=false/\∀ H',Same H H'->E (.ref t.ai) none H')
def Zdc (T:Txt w K mg t) {f:Addr} {fd:FuncData} {ps:List Str}:FnOk P w K mg base (CXr P w) 0 f fd ps (λ_ _ _ _=>False):=FnOk.no
def Xz:FnScope ["rows","many"] ["rows"] (Zf Jb):=Am
def Q6 (T:Txt w K mg t):FnOk P w K mg base (CXr P w) 1 t.aK t.aL ["rows"] Gq:=by
 refine T.aP.F.aR Xz (λ_ _ _ _ H vs Q E hr h=>?_)
 ·obtain ⟨a,C,D,rfl,ha,hC,hD,k⟩:=h
  refine ⟨_,(Zg (Zm (i:=1) Xz.nd Z (Or.inl Z) Zd)
   (Zg (Qs PassesOwn.never (PW.pt (Vm (Zt J3 (pv 1) (Zp Zk (by rfl) T.aj PySem.boot_len (Za (pv 0) Zc)) (Zr _)) (Qf (Jr (Yu PySem.F.plainAttrs_str PySem.F.slot_str_startswith PySem.F.type_str_startswith Q5 (Zn Zo (pv 0) (pv 1) (λ_ _=>rfl)) (Za Zl Zc)))))) (Zi (Ziv (i:=1) Xz.nd rfl (Or.inl rfl) Zd Zje)))
   (Zi (Zw (pv 1))))),?_⟩;refine Yb λnxC j4=>?_;refine j4 _ _ ?_
  try dsimp only [Zv]
  refine Z8 (λσ H'=>σ=[some (.ref a),some (.int C.length)]/\H=H') (λnx ke=>?_) ?_
  ·refine ⟨λm σ H'=>∃ i:Nat,i<=C.length/\m=C.length - i/\σ=[some (.ref a),some (.int i)]/\H=H',⟨C.length,0,Az _,Z,Z,Z⟩,?_⟩
   rintro m σ H1 ⟨i,hi,rfl,rfl,rfl⟩;refine ⟨_,Z,_,Z,a,_,Z,.inl (SqL.of ha),_,_,Z,Z,_,Z,?_⟩;by_cases kf:i < (C ++ D).length
   ·rw [show decide ((i:Int) < (((C ++ D).map V.str).length:Nat))=true from decide_eq_true (by rw [Ab]; lia)]
    have he:=Ac kf;generalize (C ++ D)[i]=x at he;refine iteT ⟨_,Z,_,Z,a,_,_,_,Z,Z,SqL.of ha,Xt he,Z,x,cloS,Z,Z,_,Z,?_⟩;by_cases hc:i < C.length
    ·rw [Av hc] at he
     rw [hC x (Au he)];refine iteT ⟨λσ' H'=>σ'=[some (.ref a),some (.int ((i:Int) + 1))]/\H=H',λσ' H' z=>⟨C.length - (i + 1),by lia,i + 1,hc,Z,by rw [z.1]; rfl,z.2⟩,?_⟩;exact ⟨_,Z,_,_,Z,Z,Z,Z⟩
    ·have e:i=C.length:=by lia
     subst e;rw [List.getElem?_append_right (An _),Nat.sub_self,<- List.head?_eq_getElem?] at he;rw [hD x he];exact iteF (ke _ _ ⟨Z,Z⟩)
   ·have e:i=C.length:=by rw [Ae] at kf; lia
    subst e;rw [show decide (((C.length:Nat):Int) < (((C ++ D).map V.str).length:Nat))=false from decide_eq_false (by rw [Ab]; lia)];exact iteF (iteF (ke _ _ ⟨Z,Z⟩))
  rintro σ H1 ⟨rfl,rfl⟩;exact ⟨_,Z,k⟩
def Ut:FnScope ["scene","name"] ["scene","name"] (Zf J1):=Am
def U0 (T:Txt w K mg t):FnOk P w K mg base (CXr P w) 3 t.br t.bu ["scene","name"] (Zhh t.ak):=by
 refine T.bw.F.aX Ut (λ_ _ _ _ H vs Q E hr h=>?_)
 ·obtain ⟨sc,kq,th,po,te,wo,x,rfl,qy,xt,xu,hx,hz,e,k⟩:=h
  have hu:=Qx hr;refine ⟨_,(Zx (Xr (X2 (Jr (pcT (O1 T) hr T.cE (Za (pv 1) Zc)))) (Zu (Xd T.gW FBV Z T.gw Z (Za Zl Zc))) Xn)
   (Zu (Xr (PW.pt (V3 (Vn (Zei hu (pv 1) (Z6 (pv 0) rfl)) (by with_unfolding_all rfl)) (Qe (Vn (Zei hu (pv 1) (Z6 (pv 0) rfl)) (by with_unfolding_all rfl))))) (Zu (Xd T.iY FBV rfl T.iD rfl (Za Zl Zc))) Xn))),?_⟩
  refine ⟨_,Z,x,Z,hx.all,hz,λH1 s1=>⟨_,Z,?_⟩⟩;rw [e];refine iteF ?_;have we:=s1 _ _ qy;refine ⟨_,Z,_,Z,sc,_,kq,_,.ref th,Z,we,T.aB,T.aH,Z,th,_,Z,O3 (s1 _ _ xt),_,Z,iteF ?_⟩;exact ⟨_,Z,_,Z,sc,_,kq,_,.ref po,Z,we,T.aB,T.aW,Z,po,_,Z,O3 (s1 _ _ xu),_,Z,iteF (k H1 s1)⟩
def Uf:FnScope ["self","name","word","now","threads"] ["self","name","word"] (Zf Op):=Am
def Zby (T:Txt w K mg t):FnOk P w K mg base (CXr P w) 7 t.dB t.dP ["self","name","word"] (Zhi t):=by
 refine T.b5.F.aX Uf (λ_ _ _ _ H vs Q E hr h=>?_)
 ·obtain ⟨p,a,x,M,ns,ws,rfl,⟨dx,be,sc,st,un,kq,th,po,wo,ks,B⟩,td,hx,hxz,hn,ha,hl,hp,k⟩:=h
  refine ⟨_,(Zx (Z3 (Zm (i:=3) Uf.nd Z (Or.inl Z) (Z6 (pv 0) Z)))
   (Zx (Z9 (pxT (U0 T) hr T.bw (Za (pv 3) (Za (pv 1) Zc))))
   (Zx (Z9 (pxT (Ks T) hr T.bV (Za (Z6 (pv 3) rfl) (Za (pv 2) Zc))))
   (V4 X3)))),?_⟩;refine ⟨_,Z,p,_,dx,_,.ref sc,Z,B.ins,T.au,T.bi,Z,?_⟩;refine ⟨_,Z,_,Z,sc,kq,th,po,_,_,x,Z,B.scn,B.thr,B.poo,hx,hxz,hn,λH1 s1=>?_⟩;exact ⟨_,Z,sc,_,kq,_,.ref be,Z,s1 _ _ B.scn,T.aB,T.cq,Z,_,Z,be,a,M,ns,ws,Z,B.tent.same s1,td.len.symm,s1 _ _ ha,by lia,λH2 s2=>⟨λe=>absurd (hp.symm.trans e) (by decide),λ_=>k _ (s1.trans s2)⟩⟩
def Vd:FnScope ["self","name","now","threads","pools"] ["self","name"] (Zf Uo):=Am
def Zav (T:Txt w K mg t):FnOk P w K mg base (CXr P w) 3 t.cM t.cT ["self","name"] (Zfn t):=by
 refine T.bE.F.aX Vd (λ_ _ _ _ H vs Q E hr h=>?_)
 ·obtain ⟨p,x,M,ns,rfl,⟨dx,be,sc,st,un,kq,th,po,wo,ks,B⟩,k⟩:=h
  have hu:=Qx hr;refine ⟨_,(Zx (Z3 (Zm (i:=2) Vd.nd Z (Or.inl Z) (Z6 (pv 0) Z)))
   (Zx (Xr (PW.pt (Vm (Vn (Vt hu (pv 1) (Z6 (pv 2) rfl)) (by with_unfolding_all rfl)) (Qf (Vn (Vt hu (pv 1) (Z6 (pv 2) rfl)) (by with_unfolding_all rfl))))) (Zu (Xd T.gV FBV rfl T.d8 rfl (Za Zl Zc))) Xn)
   (V4 X3))),?_⟩
  refine ⟨_,Z,p,_,dx,_,.ref sc,Z,B.ins,T.au,T.bi,Z,?_⟩;exact ⟨_,Z,_,Z,sc,_,kq,_,.ref th,Z,B.scn,T.aB,T.aH,Z,th,_,Z,O3 B.thr,_,Z,iteT ⟨_,Z,_,Z,sc,_,kq,_,.ref po,Z,B.scn,T.aB,T.aW,Z,po,_,Z,O3 B.poo,_,Z,iteT ⟨by decide,k⟩⟩⟩
def Gz:FnScope ["self"] ["self"] (Zf Vj):=Am
def G9 (T:Txt w K mg t):FnOk P w K mg base (CXr P w) 1 t.ce t.cm ["self"] (Zd1 t):=by
 refine T.bp.F.aR Gz (λ_ _ _ _ H vs Q E hr h=>?_)
 ·obtain ⟨p,M,ns,rfl,⟨dx,be,sc,st,un,kq,th,po,wo,ks,B⟩,k⟩:=h
  refine ⟨_,(Zi (Zw (Y5 (ts:=["text","earlier"]) (fv:=[]) ⟨rfl,by decide +kernel,by decide +kernel,Ym (by rfl),trivial⟩ rfl (Xf (Z6 (pv 0) rfl)) (λ_ _ _ _=>(Ko (n:=2) K rfl (Yl (Zs (i:=0) (show List.Nodup (["text","earlier"]:List Str) from by decide +kernel) rfl (Or.inl rfl) (Or.inr rfl)) (Yl (Zs (i:=1) (show List.Nodup (["text","earlier"]:List Str) from by decide +kernel) rfl (Or.inl rfl) (Or.inr rfl)) Wv)))) (λ_ _ _ _=>Yi) (λ_ _ _=>rfl) (λ_ _ _ _ _ _=>Xj (pv 0))))),?_⟩;refine ⟨_,Z,p,_,dx,_,.ref st,Z,B.ins,T.au,T.bv,Z,st,Z,⟨_,SqL.of B.sta⟩,λD hD=>?_⟩;refine Ys (xs:=[]) (λi σ H6=>H6=upd H D (.lst [])) Z ?_ ?_ ?_
  ·rintro i σ H6 _ rfl
   exact SqL.of (Same.new hD _ _ B.sta)
  ·rintro i y σ H6 hy _
   cases hy
  ·rintro σ H6 rfl
   exact k D hD
def Qq:FnScope ["hall","deed","verb","parts"] ["hall","deed"] (Zf K8):=Am
def Zdf (T:Txt w K mg t):FnOk P w K mg base (CXr P w) 10 t.eO t.eW ["hall","deed"] (Zcz t):=by
 refine T.eY.F.aX Qq (λ_ _ _ _ H vs Q E hr h=>?_)
 ·obtain ⟨p,u,d,M,ns,rfl,hn,td,hg,hd,hz,k1,k2⟩:=h
  obtain ⟨dx,be,sc,st,un,kq,th,po,wo,ks,B⟩:=hn.ex;refine ⟨_,(Zx (Z3 (Js (pv 1) (Vp Z (Yl (Zs (i:=2) Qq.nd Z (Or.inl Z)) (Yl (Zs (i:=3) Qq.nd Z (Or.inl Z)) Wv)))))
   (Zu (Xr (Zt Yv (pv 2) Zl (Zr _)) (Zu (Z9 (Ju (pv 0) T.au T.b5.m (Zby T) (hr.mono (by decide)) T.b5.b .nil (Za (Zn Xg (pv 3) Zd (λ_ _=>rfl)) (Za (Zn Xg (pv 3) Zd (λ_ _=>rfl)) Zc))))) (Zu (Xr (Zt Yv (pv 2) Zl (Zr _)) (Zu (Z9 (Ju (pv 0) T.au T.cZ.m (Zdc T) (hr.mono (by decide)) T.cZ.b .nil (Za (Zn Xg (pv 3) Zd (λ_ _=>rfl)) (Za (Zn Xg (pv 3) Zd (λ_ _=>rfl)) Zc))))) (Zu (Xr (Zt Yv (pv 2) Zl (Zr _)) (Zu (Z9 (Ju (pv 0) T.au T.bE.m (Zav T) (hr.mono (by decide)) T.bE.b .nil (Za (Zn Xg (pv 3) Zd (λ_ _=>rfl)) Zc)))) (Zu (Z3 (Yt (Zt Yv (pv 2) Zl (Zr _)) (Zi (Xe (Ww (pv 0) T.au T.cu.m (Zdc T) (hr.mono (by decide)) T.cu.b .nil X9 (Za (Zn Xg (pv 3) Zd (λ_ _=>rfl)) (Za (Zn Xg (pv 3) Zd (λ_ _=>rfl)) (Za (Zn Xg (pv 3) Zd (λ_ _=>rfl)) Zc)))))) (Zi (Xe (Ww (pv 0) T.au T.c0.m (Zdc T) (hr.mono (by decide)) T.c0.b .nil X9 (Za (Zn Xg (pv 3) Zd (λ_ _=>rfl)) (Za (Zn Xg (pv 3) Zd (λ_ _=>rfl)) Zc))))))))))))))),?_⟩
  rcases hg with ⟨y,m,e1,e2,e3,e4⟩ | ⟨y,z,q,xs,m,n,e1,e2,e3,e4,e5,e6⟩
  ·refine ⟨_,Z,u,_,Z,SqT.of e3,Z,_,_,Z,_,_,Z,Z,?_⟩
   refine ⟨_,Z,Z,_,Z,iteF ⟨_,Z,Z,_,Z,iteF ⟨_,Z,Z,_,Z,iteT ?_⟩⟩⟩;exact ⟨_,Z,p,dx,_,Z,B.ins,Z,_,Z,m,_,_,_,Z,Z,SqT.of e4,Z,p,y,M,ns,Z,hn,k1 y e1 _ (Same.refl _)⟩
  ·obtain ⟨kp,k2⟩:=k2 y z q xs e1 e3
   have hy:=Wr hd (show y∈wdS d by rw [e1]; simp);refine ⟨_,Z,u,_,Z,SqT.of e4,Z,_,_,Z,_,_,Z,Z,?_⟩;refine ⟨_,Z,Z,_,Z,iteT ?_⟩;refine ⟨_,Z,p,dx,_,Z,B.ins,Z,_,Z,m,_,_,_,Z,Z,SqT.of e5,Z,_,Z,m,_,_,_,Z,Z,SqT.of e5,Z,p,n,y,M,ns,xs,Z,hn,td,hy.1,by lia,e2,e6,?_,kp,k2⟩
   have hl:xs.length=(z :: q).length:=by
    unfold Xx at e3;split at e3
    ·injection e3 with e3; rw [<- e3,Ab]
    ·cases e3
   have:=Ff d;rw [e1,List.length_cons,List.length_cons] at this;lia
def BadD (d:Str):Prop:=(∃ y r,wdS d=y :: r/\y ∉ rdN)\/(∃ r,wdS d=Str.ofString "turn" :: r/\r.length≠2)\/(∃ r,wdS d=Str.ofString "lift" :: r/\∀ y,r=[y]->isN y=false)\/∃ r,wdS d=Str.ofString "lay" :: r/\∀ y z q,r=y :: z :: q->isN y=true->Xx (z :: q)=none
def W8 (d:Str):Prop:=(∃ y,wdS d=[Str.ofString "lift",y]/\isN y=true)\/∃ y z q ns,wdS d=Str.ofString "lay" :: y :: z :: q/\isN y=true/\Xx (z :: q)=some ns
def Wq.good {H:Hp} {u:Addr} {d:Str} (h:Wq H u d):W8 d:=by
 rcases h with ⟨y,m,h1,h2,_⟩ | ⟨y,z,q,ns,m,n,h1,h2,h3,_⟩
 ·exact .inl ⟨y,h1,h2⟩
 ·exact .inr ⟨y,z,q,ns,h1,h2,h3⟩
def cutA (C D:List Str):cutV ((C ++ D).map V.str) none (some (C.length:Int))=C.map V.str:=by
 unfold cutV;rw [HT.sIx_nat];show List.take (min C.length _ - 0) (List.drop 0 _)=_;rw [List.drop_zero,Ab,Ae,Nat.min_eq_left (by lia),Nat.sub_zero,Aj,<- Ab (f:=V.str),List.take_left]
def cutB (C D:List Str):cutV ((C ++ D).map V.str) (some (C.length:Int)) none=D.map V.str:=by
 unfold cutV;rw [HT.sIx_nat];show List.take (((C ++ D).map V.str).length - min C.length _) (List.drop (min C.length _) _)=_;rw [Ab,Ae,Nat.min_eq_left (by lia),Aj];rw [show List.drop C.length (C.map V.str ++ D.map V.str)=D.map V.str by rw [<- Ab (f:=V.str) (as:=C),List.drop_left]];rw [Nat.add_sub_cancel_left,<- Ab (f:=V.str),List.take_length]
def V8 (H:Hp) (u:Addr) (c:Str):Prop:=∃ i j k,cloP c=some (i,j,k)/\H u=some (.tup [.int i,.int j,.int k])
def V8.same {H H':Hp} {u:Addr} {c:Str} (h:V8 H u c) (s:Same H H'):V8 H' u c:=by
 obtain ⟨i,j,k,h1,h2⟩:=h;exact ⟨i,j,k,h1,s _ _ h2⟩
def Xu (R:Addr->Str->Prop) (us:List Addr) (l:List Str):Prop:=us.length=l.length/\∀ (k:Nat) u d,us[k]?=some u->l[k]?=some d->R u d
def Xu.mono {R R':Addr->Str->Prop} {us:List Addr} {l:List Str} (h:Xu R us l) (m:∀ u d,R u d->R' u d):Xu R' us l:=⟨h.1,λk u d e1 e2=>m u d (h.2 k u d e1 e2)⟩
def Xu.snoc {R:Addr->Str->Prop} {us:List Addr} {l:List Str} {u:Addr} {d:Str} (h:Xu R us l) (hr:R u d):Xu R (us ++ [u]) (l ++ [d]):=by
 refine ⟨by rw [Ae,Ae,h.1]; rfl,λk u' d' e1 e2=>?_⟩;by_cases c:k < us.length
 ·rw [Av c] at e1
  rw [Av (by rw [<- h.1]; exact c)] at e2;exact h.2 k u' d' e1 e2
 ·have e:k=us.length:=by
   have:=(Aa e1).1;rw [Ae,At] at this;lia
  subst e;rw [List.getElem?_append_right (An _),Nat.sub_self] at e1;rw [h.1,List.getElem?_append_right (An _),Nat.sub_self] at e2;cases e1;cases e2;exact hr
def hid (H:Hp) (D:Addr):Hp:=λb=>if b=D then none else H b
def Zjh {H:Hp} {D b:Addr} {u:HO} (h:H b=some u) (n:b≠D):hid H D b=some u:=by unfold hid; rw [if_neg n]; exact h
def Zjg {H:Hp} {D:Addr}:Same (hid H D) H:=λb u e=>by
 unfold hid at e;by_cases z:b=D
 ·rw [if_pos z] at e; cases e
 ·rw [if_neg z] at e; exact e
def Zgg {H H':Hp} {D:Addr} {o:HO} (s:Same H H'):Same (hid H D) (hid (upd H' D o) D):=λb u e=>by
 unfold hid at e ⊢;by_cases z:b=D
 ·rw [if_pos z] at e; cases e
 ·rw [if_neg z] at e
  rw [if_neg z,Ze z];exact s _ _ e
def Zdo {t:Adr} {H:Hp} {Q:VK} {E:XK} {d:Str} (hd:Asc d) (hz:d.length<=890) (kn:W8 d\/BadD d) (kQ:∀ (u:Addr) H',Same H H'->(∀ D o,H D=some o->∀ o',Wq (hid (upd H' D o') D) u d)->Q (.ref u) H') (kE:BadD d->∀ H',Same H H'->E (.ref t.ac) none H') :
  Qo t.ac [.str d] H Q E\/Jn t.ac [.str d] H Q E\/Jo t.ac [.str d] H Q E\/J9 t.ac [.str d] H Q E:=by
 have at':∀ {H':Hp} {D b:Addr} {o o' u:HO},H D=some o->H b=none->H' b=some u->hid (upd H' D o') D b=some u:=λ{H' D b o o' u} h1 h2 h3=>by
  have n:b≠D:=λz=>by rw [z,h1] at h2; cases h2
  exact Zjh (by rw [Ze n]; exact h3) n
 rcases kn with (⟨y,e1,e2⟩ | ⟨y,z,q,ns,e1,e2,e3⟩) | b
 ·refine .inr (.inr (.inl ⟨d,[y],Z,hd,by lia,e1,λy' e n l m H' s' hl hm h1 h2=>kQ l H' s' λD o hD o'=>.inl ⟨y,m,e1,e2,at' hD hl h1,?_⟩,λk=>absurd (k y Z) (by rw [e2]; decide)⟩))
  injection e with e
  rw [e];exact at' hD hm h2
 ·refine .inr (.inr (.inr ⟨d,y :: z :: q,Z,hd,hz,e1,λy' z' q' xn e n1 n2 l m n H' s' hl hm hn h1 h2 h3=>kQ l H' s' λD o hD o'=>?_,λk=>absurd (k y z q Z e2) (by rw [e3]; exact λq=>nomatch q)⟩))
  injection e with ea e
  injection e with eb ec
  subst ea eb ec;rw [e3] at n2
  injection n2 with n2
  subst n2;exact .inr ⟨y,z,q,ns,m,n,e1,e2,e3,at' hD hl h1,at' hD hm h2,at' hD hn h3⟩
 ·rcases id b with ⟨y,r,e1,e2⟩ | ⟨r,e1,e2⟩ | ⟨r,e1,e2⟩ | ⟨r,e1,e2⟩
  ·exact .inl ⟨d,y,r,Z,by lia,e1,e2,kE b⟩
  ·exact .inr (.inl ⟨d,r,Z,by lia,e1,e2,kE b⟩)
  ·exact .inr (.inr (.inl ⟨d,r,Z,hd,by lia,e1,λy e n=>absurd (e2 y e) (by rw [n]; decide),λ_=>kE b⟩))
  ·exact .inr (.inr (.inr ⟨d,r,Z,hd,hz,e1,λy z q ns e n1 n2=>absurd (e2 y z q e n1) (by rw [n2]; exact λq=>nomatch q),λ_=>kE b⟩))
def Qc (t:Adr):Sp:=λvs H Q E=>∃ (x:Str) (C D:List Str),vs=[.str x]/\x.length<=100000/\Txt.split x (Str.ofString "\n")=C ++ D/\(C ++ D).length<=900/\(∀ r∈C ++ D,Asc r/\r.length<=890)/\C≠[]/\(∀ c∈C,Txt.startswith c cloS=true)/\(∀ d∈D.head?,Txt.startswith d cloS=false)/\(∀ d∈D,W8 d\/BadD d) /\
 (((∃ c∈C,cloP c=none)\/∃ d∈D,BadD d)->∀ H',Same H H'->E (.ref t.ac) none H') /\
 ((∀ c∈C,cloP c≠none)->(∀ d∈D,W8 d)->∃ ns:List Int,ns.length=3 * C.length/\ns.length < 64/\(∀ (k:Nat) c,C[k]?=some c->cloP c=some (ns.getD (3 * k) 0,ns.getD (3 * k + 1) 0,ns.getD (3 * k + 2) 0)) /\
  ((¬ (ns≠[]/\Gd ns)/\∀ H',Same H H'->E (.ref t.ao) none H')\/∃ M,TD M ns /\
   (∀ d∈D.head?,(∀ y,wdS d=[Str.ofString "lift",y]->∀ H',Same H H'->E (.ref t.ap) none H')/\∀ y z q xs,wdS d=Str.ofString "lay" :: y :: z :: q->Xx (z :: q)=some xs->Xk M xs=false/\∀ H',Same H H'->E (.ref t.ai) none H') /\
   (D=[]->∀ p H',Same H H'->HN t H' p M ns->Q (.ref p) H')))
def Ws:FnScope ["text","rows","many","cloths","deeds","hall","deed"] ["text"] (Zf Zd5):=Am
def Zh0 (T:Txt w K mg t):FnOk P w K mg base (CXr P w) 11 t.ie t.im ["text"] (Qc t):=by
  refine T.iy.F.okLA Ws (λvs H Q E h=>?_) (λ_ _ _ _ H vs Q E hr h=>?_)
  · obtain ⟨x,C,D,rfl,_⟩:=h
    rfl
  · obtain ⟨x,C,D,rfl,ym,k7,j1,j',up,hC,hD,hkn,kB,kG⟩:=h
    refine ⟨_,(λ_ L=>(Zy (Ye L.l (Z3 (Zm (i:=1) Ws.nd Z (Or.inl Z) (Yu PySem.F.plainAttrs_str PySem.F.slot_str_split PySem.F.type_str_split Wz (pv 0) (Za Zl Zc)))))
      (Zy (Ye L.l (Z3 (Zm (i:=2) Ws.nd rfl (Or.inl rfl) (pcT (Q6 T) hr T.aP (Za (pv 1) Zc)))))
      (Zy (Ye L.l (Z9 (pxT (Yf T) hr T.ah (Za (Xi J4 (pv 2) Zd (Zr _)) Zc))))
      (Zy (Vo (ts:=["row"]) (fv:=[]) (i:=3) L ⟨rfl,by decide +kernel,by decide +kernel,Ym (by rfl),trivial⟩ rfl Ws.nd rfl rfl (by rfl) (Xf (X4 Wf (pv 1) Wh (Wg (pv 2)))) (λ_ _ _ _=>(Zs (i:=0) (show List.Nodup (["row"]:List Str) from by decide +kernel) rfl (Or.inl rfl) (Or.inr rfl))) (λ_ _ _ _=>Yi) (λ_ _ _=>rfl) (λ_ _ _ _ _ _=>Uz (Uy (Zbx T) (hr.mono (by decide)) rfl T.bq.g T.bq.F.kp T.bq.b .nil (Za (pv 0) Zc))))
      (Zy (Vo (ts:=["row"]) (fv:=[]) (i:=4) L ⟨rfl,by decide +kernel,by decide +kernel,Ym (by rfl),trivial⟩ rfl Ws.nd rfl rfl (by rfl) (Xf (X4 Wf (pv 1) (Wg (pv 2)) Wh)) (λ_ _ _ _=>(Zs (i:=0) (show List.Nodup (["row"]:List Str) from by decide +kernel) rfl (Or.inl rfl) (Or.inr rfl))) (λ_ _ _ _=>Yi) (λ_ _ _=>rfl) (λ_ _ _ _ _ _=>Uz (Uy (Zdh T) (hr.mono (by decide)) rfl T.aD.g T.aD.F.kp T.aD.b .nil (Za (pv 0) Zc))))
      (Zy (Zfy (i:=5) L Ws.nd rfl (Or.inl rfl) (Jh L (Zaj T.iT (G8 T) (hr.mono (by decide)) rfl T.iO T.bD.b .nil (Za (pv 3) Zc))))
      (Zy (Zb9 L.l rfl (Xf (pv 4)) (Zs (i:=6) Ws.nd rfl (Or.inl rfl)) (Xo (Ye L.l (Z9 (pxT (Zdf T) hr T.eY (Za (pv 5) (Za (pv 6) Zc)))))))
      (Xo (Ye L.l (Z3 (Zw (pv 5))))))))))))),?_⟩;refine ⟨_,Z,Z,x,Str.ofString "\n",rfl,rfl,rfl,by rw [sizeLine_eq]; lia,λl hl=>?_⟩;rw [k7];have s1:Same H (upd H l (.lst ((C ++ D).map V.str))):=Same.new hl;have h1:(upd H l (.lst ((C ++ D).map V.str))) l=some (.lst ((C ++ D).map V.str)):=Zb;generalize upd H l (.lst ((C ++ D).map V.str))=H1 at s1 h1 ⊢;refine ⟨_,Z,l,C,D,Z,h1,hC,hD,?_⟩;refine ⟨_,Z,_,_,Z,Z,_,Z,λ_=>?_,λe=>?_⟩
    rotate_left
    · have:=List.length_pos_iff.mpr up
      exact absurd (of_decide_eq_false e) (by lia)
    refine ⟨_,Z,_,Z,_,Z,l,_,Z,SqL.of h1,λc1 hc1=>?_⟩;rw [cutA];have s2:Same H1 (upd H1 c1 (.lst (C.map V.str))):=Same.new hc1;have h2:(upd H1 c1 (.lst (C.map V.str))) c1=some (.lst (C.map V.str)):=Zb;generalize upd H1 c1 (.lst (C.map V.str))=H2 at s2 h2 ⊢;have l9:=s1.trans s2;refine ⟨c1,Z,⟨_,SqL.of h2⟩,λD1 zw=>?_⟩;refine Ys (xs:=C.map V.str) (λi σ H6=>∃ (v:Option V) (us:List Addr),σ=[v]/\Same H2 H6/\H6 D1=some (.lst (us.map V.ref))/\Xu (λu d=>u≠D1/\V8 H6 u d) us (C.take i)) ⟨none,[],Z,Same.new zw,Zb,Z,λk u d e=>by simp at e⟩ ?_ ?_ ?_
    · rintro i σ H6 _ ⟨v,us,rfl,s6,_⟩
      exact SqL.of (s6 _ _ h2)
    · rintro i q σ H6 hq ⟨v,us,rfl,s6,h6,ea⟩
      obtain ⟨c,hc,rfl⟩:=Yp hq;have vd:=(Aa hc).1;have hcm:=Au hc;have pp:=j' c (List.mem_append.mpr (.inl hcm));dsimp only [Zv,tYes];rw [if_pos rfl];refine ⟨_,Z,c,Z,pp.1,by lia,λi1 i2 i3 e m H7 s7 hm h7=>?_,λe H7 s7=>kB (.inl ⟨c,hcm,e⟩) _ (l9.trans (s6.trans s7))⟩;have hul:us.length<=900:=by have:=ea.1; rw [Ai] at this; rw [Ae] at j1; lia
      have hmD:m≠D1:=λz=>by rw [z,h6] at hm; cases hm
      refine ⟨_,s7 _ _ h6,by rw [Ab]; exact Z0 (by lia),_,us ++ [m],Z,Same.add (s6.trans s7) zw,by rw [Zb,Aj]; rfl,?_⟩;rw [Aw,hc];refine Xu.snoc (ea.mono λu d ⟨z1,i,j,k,z2,z3⟩=>⟨z1,i,j,k,z2,by rw [Ze z1]; exact s7 _ _ z3⟩) ⟨hmD,i1,i2,i3,e,by rw [Ze hmD]; exact h7⟩
    rintro σ H6 ⟨v,us,rfl,s6,h6,ea⟩;rw [Ab,List.take_length] at ea;have ea:Xu (λu d=>V8 H6 u d) us C:=ea.mono λu d z=>z.2;have ub:=l9.trans s6;have h16:=s6 _ _ (s2 _ _ h1);clear s6 s2 h2 hc1 zw l9 s1 h1 hl;refine ⟨_,Z,_,Z,_,Z,l,_,Z,SqL.of h16,λc2 vn=>?_⟩;rw [cutB];have s7:Same H6 (upd H6 c2 (.lst (D.map V.str))):=Same.new vn;have h7:(upd H6 c2 (.lst (D.map V.str))) c2=some (.lst (D.map V.str)):=Zb;generalize upd H6 c2 (.lst (D.map V.str))=H7 at s7 h7 ⊢;have s07:=ub.trans s7;refine ⟨c2,Z,⟨_,SqL.of h7⟩,λD2 md=>?_⟩;refine Ys (xs:=D.map V.str) (λi σ H8=>∃ (v:Option V) (vs:List Addr),σ=[v]/\Same H7 H8/\H8 D2=some (.lst (vs.map V.ref))/\Xu (λu d=>Wq (hid H8 D2) u d) vs (D.take i)) ⟨none,[],Z,Same.new md,Zb,Z,λk u d e=>by simp at e⟩ ?_ ?_ ?_
    · rintro i σ H8 _ ⟨v,vs,rfl,s8,_⟩
      exact SqL.of (s8 _ _ h7)
    · rintro i q σ H8 hq ⟨v,vs,rfl,s8,h8,eb⟩
      obtain ⟨d,hd,rfl⟩:=Yp hq;have vd:=(Aa hd).1;have n9:=Au hd;have pp:=j' d (List.mem_append.mpr (.inr n9));dsimp only [Zv,tYes];rw [if_pos rfl];refine ⟨_,Z,?_⟩;refine Zdo pp.1 pp.2 (hkn d n9) (λm H9 s9 hg=>?_) (λb H9 s9=>kB (.inr ⟨d,n9,b⟩) _ (s07.trans (s8.trans s9)));have hul:vs.length<=900:=by have:=eb.1; rw [Ai] at this; rw [Ae] at j1; lia
      refine ⟨_,s9 _ _ h8,by rw [Ab]; exact Z0 (by lia),_,vs ++ [m],Z,Same.add (s8.trans s9) md,by rw [Zb,Aj]; rfl,?_⟩;rw [Aw,hd];exact Xu.snoc (eb.mono λu d z=>z.same (Zgg s9)) (hg D2 _ h8 _)
    rintro σ H8 ⟨v,vs,rfl,s8,h8,eb⟩;rw [Ab,List.take_length] at eb;replace eb:Xu (λu d=>Wq H8 u d) vs D:=eb.mono λu d z=>z.same Zjg;have xa:=s7.trans s8;replace ea:Xu (λu d=>V8 H8 u d) us C:=ea.mono λu d z=>z.same xa;have h68:=xa _ _ h6;have s08:=ub.trans xa;clear s7 h7 vn md s07 s8 xa h6 h16 ub;obtain ⟨ns,hn1,ui,hn3,kk⟩:=kG (λc hc=>by
      obtain ⟨k,hk⟩:=List.getElem?_of_mem hc
      have y9:k < us.length:=by rw [ea.1]; exact (Aa hk).1
      obtain ⟨i,j,m,e,_⟩:=ea.2 k _ c (Ac y9) hk
      rw [e]
      exact λz=>nomatch z) (λd hd=>by
      obtain ⟨k,hk⟩:=List.getElem?_of_mem hd
      have y9:k < vs.length:=by rw [eb.1]; exact (Aa hk).1
      exact (eb.2 k _ d (Ac y9) hk).good)
    have ra:Y2 H8 D1 ns:=by
      refine ⟨us,h68,by rw [hn1,ea.1],λk u hu=>?_⟩;have hkC:k < C.length:=by rw [<- ea.1]; exact (Aa hu).1
      obtain ⟨i,j,m,e1,e2⟩:=ea.2 k u _ hu (Ac hkC);rw [hn3 k _ (Ac hkC)] at e1;cases e1;exact e2
    refine ⟨_,Z,?_⟩;intro p dt hp rg kc;have s0:Same H8 (upd (upd H8 dt (.own p)) p (.ins t.ae dt [])):=Same.add (Same.new rg) hp
    rcases kk with ⟨c,kE⟩ | ⟨M,td,k1,k2⟩
    · exact .inr ⟨p,D1,dt,ns,Z,Zb,ra.same s0,by lia,c,λH9 kl=>kE H9 (s08.trans λb u e=>kl b u (Zh e hp) (s0 b u e))⟩
    · refine .inl ⟨p,D1,dt,M,ns,Z,Zb,ra.same s0,td,ui,λH9 kl nu=>⟨Z,?_⟩⟩
      obtain ⟨be,sc,st,un,kq,th,po,wo,ks,nu,_⟩:=nu;have hn:HN t H9 p M ns:=⟨_,_,_,_,_,_,_,_,_,_,nu⟩;have s9:Same H8 H9:=λb u e=>kl b u (Zh e hp) (s0 b u e);have yf:=s08.trans s9;have h9:=s9 _ _ h8;clear s0 ra kl nu hp rg kc ea kB kG;refine ⟨_,Z,D2,Z,⟨_,SqL.of h9⟩,?_⟩;refine Ze5 (xs:=vs.map V.ref) (λi σ HX=>i=0/\(∃ v,σ=[some (.str x),some (.ref l),some (.int C.length),some (.ref D1),some (.ref D2),some (.ref p),v])/\HX=H9) ⟨Z,⟨none,Z⟩,Z⟩ ?_ ?_ ?_
      · rintro i σ HX _ ⟨_,_,rfl⟩
        exact SqL.of h9
      · rintro i q σ HX hq ⟨rfl,⟨v,rfl⟩,rfl⟩
        obtain ⟨u,hu,rfl⟩:=Yp hq;have h0:0 < D.length:=by rw [<- eb.1]; exact (Aa hu).1
        have hd:=Ac h0;have n9:=List.getElem_mem h0;generalize D[0]=d at hd n9;have pp:=j' d (List.mem_append.mpr (.inr n9));obtain ⟨q1,q2⟩:=k1 d (by rw [List.head?_eq_getElem?,hd]; rfl);dsimp only [Zv];refine ⟨_,Z,_,Z,p,u,d,M,ns,Z,hn,td,(eb.2 0 u d hu hd).same s9,pp.1,pp.2,λy e H' s'=>q1 y e _ (yf.trans s'),λy z q xs e1 e2=>?_⟩;obtain ⟨w1,w2⟩:=q2 y z q xs e1 e2;exact ⟨w1,λH' s'=>w2 _ (yf.trans s')⟩
      · rintro σ HX ⟨e,⟨v,rfl⟩,rfl⟩
        have:D=[]:=List.eq_nil_of_length_eq_zero (by rw [<- eb.1,<- Ab (f:=V.ref),e]);exact ⟨_,Z,k2 this p _ yf hn⟩
def Zev {t:Adr} {vs:List V} {H:Hp} {Q Q':VK} {E E':XK} (hQ:∀ v H',Q v H'->Q' v H') (hE:∀ c o H',E c o H'->E' c o H') (h:Qc t vs H Q E):Qc t vs H Q' E':=by
 obtain ⟨x,C,D,e,h1,h2,h3,h4,h5,h6,h7,h8,kB,kG⟩:=h;refine ⟨x,C,D,e,h1,h2,h3,h4,h5,h6,h7,h8,λb H' s'=>hE _ _ _ (kB b H' s'),λa b=>?_⟩;obtain ⟨ns,n1,n2,n3,k⟩:=kG a b;refine ⟨ns,n1,n2,n3,?_⟩
 rcases k with ⟨c,k⟩ | ⟨M,td,k1,k2⟩
 ·exact .inl ⟨c,λH' s'=>hE _ _ _ (k H' s')⟩
 ·refine .inr ⟨M,td,λd hd=>?_,λe p H' s' hn=>hQ _ _ (k2 e p H' s' hn)⟩
  obtain ⟨q1,q2⟩:=k1 d hd;refine ⟨λy e H' s'=>hE _ _ _ (q1 y e H' s'),λy z q xs e1 e2=>?_⟩;obtain ⟨w1,w2⟩:=q2 y z q xs e1 e2;exact ⟨w1,λH' s'=>hE _ _ _ (w2 H' s')⟩
inductive Ans (t:Adr):Value->Str->Prop
 | bad:Ans t (.ref t.ac) (Str.ofString "bad order")
 | tent:Ans t (.ref t.ao) (Str.ofString "no tent")
 | thr:Ans t (.ref t.ai) (Str.ofString "no thread")
 | unk:Ans t (.ref t.ap) (Str.ofString "unknown")
def Q8 (t:Adr):Sp:=λvs H Q _=>(∃ x:Str,vs=[.str x])/\Qc t vs H (λv H'=>∃ p M ns,v=.ref p/\HN t H' p M ns/\∀ l,H' l=none->Q (.ref l) (upd H' l (.lst []))) (λcls _ H'=>∃ lit,Ans t cls lit/\∀ l,H' l=none->Q (.ref l) (upd H' l (.lst [.str lit])))
def spo (ns:List Int) (pick:Int):List Int:=if pick % 6=1 then ns.set (pick / 6 % ns.length).toNat 10000 else if pick % 6=2 then List.replicate ns.length (ns.getD 0 0) else ns
def Zdz:Sp:=λvs H Q _=>∃ (r:Addr) (ns:List Int) (pick:Int),vs=[.ref r,.int pick]/\Y2 H r ns/\ns≠[]/\ns.length<=300/\∀ (l:Addr) (H':Hp),Same H H'->H l=none->Y2 H' l (spo ns pick)->Q (.ref l) H'
def X1:FnScope ["_law_text","_law_told_here"] ["_law_text"] (Zf F6):=Am
def Zep (T:Txt w K mg t):FnOk P w K mg base (CXr P w) 12 t.fH t.f6 ["_law_text"] (Q8 t):=by
 refine T.gh.F.aR X1 (λ_ _ _ _ H vs Q E hr h=>?_)
 ·obtain ⟨⟨x,rfl⟩,h⟩:=h
  refine ⟨_,(Zg (Zm (i:=1) X1.nd Z (Or.inl Z) Zl)
   (Zg (Zhu (Zu (Zb7 (i:=1) X1.nd rfl (Or.inl rfl) (Zef (pxT (Zh0 T) hr T.iy (Za (pv 0) Zc)) T.au T.bp.m (G9 T) (hr.mono (by decide)) T.bp.b .nil))) (V6 rfl T.c8 (λ_=>(Zi (Zm (i:=1) X1.nd rfl (Or.inl rfl) (Ya (Za Zl Zc))))) (V6 rfl T.bL (λ_=>(Zi (Zm (i:=1) X1.nd rfl (Or.inl rfl) (Ya (Za Zl Zc))))) (V6 rfl T.c7 (λ_=>(Zi (Zm (i:=1) X1.nd rfl (Or.inl rfl) (Ya (Za Zl Zc))))) (V6 rfl T.d8 (λ_=>(Zi (Zm (i:=1) X1.nd rfl (Or.inl rfl) (Ya (Za Zl Zc))))) Zjf)))))
   (Zi (Zw (pv 1))))),?_⟩;refine Yb λnxC j4=>?_;refine j4 _ _ ?_
  try dsimp only [Zv]
  refine Yb λnxC j4=>?_;refine ⟨_,Z,?_⟩;dsimp only [tNil];show Qc t [.str x] H _ _;refine Zev (λv H' q=>?_) (λcls o H' q=>?_) h
  ·obtain ⟨p,M,ns,rfl,hn,q⟩:=q
   obtain ⟨dx,be,sc,st,un,kq,th,po,wo,ks,B⟩:=hn.ex;exact ⟨p,dx,_,Z,B.ins,Z,p,M,ns,Z,hn,λl hl=>j4 _ _ ⟨_,Z,q l hl⟩⟩
  ·obtain ⟨lit,a,q⟩:=q
   cases a with
   | bad=>exact ⟨true,T.bG,iteT ⟨(by show 1<=sizeLine; decide),λl hl=>j4 _ _ ⟨_,rfl,q l hl⟩⟩⟩
   | tent=>exact ⟨false,T.b7,iteF ⟨true,T.cI,iteT ⟨(by show 1<=sizeLine; decide),λl hl=>j4 _ _ ⟨_,rfl,q l hl⟩⟩⟩⟩
   | thr=>exact ⟨false,T.bI,iteF ⟨false,T.b8,iteF ⟨true,T.bH,iteT ⟨(by show 1<=sizeLine; decide),λl hl=>j4 _ _ ⟨_,rfl,q l hl⟩⟩⟩⟩⟩
   | unk=>exact ⟨false,T.bM,iteF ⟨false,T.cv,iteF ⟨false,T.bO,iteF ⟨true,T.b6,iteT ⟨(by show 1<=sizeLine; decide),λl hl=>j4 _ _ ⟨_,rfl,q l hl⟩⟩⟩⟩⟩⟩
def Qb:FnScope ["_law_rows_here","_law_pick","_law_flat"] ["_law_rows_here","_law_pick"] (Zf Ol):=Am
def Zbv (T:Txt w K mg t):FnOk P w K mg base (CXr P w) 1 t.dE t.dS ["_law_rows_here","_law_pick"] Zdz:=by
  refine T.dZ.F.aR Qb (λ_ _ _ _ H vs Q E hr h=>?_)
  · obtain ⟨r,ns,pick,rfl,hrw,kc,hl,k⟩:=h
    obtain ⟨ts,r1,r2,r3⟩:=id hrw;have p8:=List.length_pos_iff.mpr kc;refine ⟨_,(Zg (Zm (i:=2) Qb.nd Z (Or.inr Z) (Y5 (ts:=["_law_p"]) (fv:=[("_law_rows_here",0)]) ⟨rfl,by decide +kernel,by decide +kernel,Ym (by rfl),⟨⟨rfl,rfl,Or.inl rfl⟩,trivial⟩⟩ rfl (Jd rfl T.bK (Za (Zj Xl Zd (Zp Zk (by rfl) T.aj PySem.boot_len (Za (pv 0) Zc))) Zc)) (λ_ _ _ _=>(Zs (i:=0) (show List.Nodup (["_law_p","_law_rows_here"]:List Str) from by decide +kernel) rfl (Or.inl rfl) (Or.inr rfl))) (λ_ _ _ _=>Yi) (λ_ _ _=>rfl) (λ_ _ _ _ _ _=>Xj (Zn (Zh6 K) (Zn (We K) (pv 1) (Zj Xs (pv 0) Zd) (λ_ _=>rfl)) (Zj Z1 (pv 0) Zd) (λ_ _=>rfl)))))
      (Zg (Yt (Zt Yv (Zj Z1 (pv 1) Zd) Zd (Zr _)) (Zi (Js Zd (Vq (pv 2) (Zj Z1 (Zj Xs (pv 1) Zd) (Zp Zk (by rfl) T.aj PySem.boot_len (Za (pv 2) Zc))) Jp))) Yc)
      (Zg (Yt (Zt Yv (Zj Z1 (pv 1) Zd) Zd (Zr _)) (Zi (Zm (i:=2) Qb.nd rfl (Or.inr rfl) (Zj Zao (Ya (Za (Zn Zo (pv 2) Zd (λ_ _=>rfl)) Zc)) (Zp Zk (by rfl) T.aj PySem.boot_len (Za (pv 2) Zc))))) Yc)
      (Zi (Zw (Y5 (ts:=["_law_k"]) (fv:=[("_law_flat",2)]) ⟨rfl,by decide +kernel,by decide +kernel,Ym (by rfl),⟨⟨rfl,rfl,Or.inl rfl⟩,trivial⟩⟩ rfl (Jd rfl T.bK (Za (Zp Zk (by rfl) T.aj PySem.boot_len (Za (pv 0) Zc)) Zc)) (λ_ _ _ _=>(Zs (i:=0) (show List.Nodup (["_law_k","_law_flat"]:List Str) from by decide +kernel) rfl (Or.inl rfl) (Or.inr rfl))) (λ_ _ _ _=>Yi) (λ_ _ _=>rfl) (λ_ _ _ _ _ _=>Xj (Wo (Za (Zn (We K) (pv 1) (Zj Xl Zd (pv 0)) (λ_ _=>rfl)) (Za (Zn (We K) (pv 1) (Zj Y9 (Zj Xl Zd (pv 0)) Zd) (λ_ _=>rfl)) (Za (Zn (We K) (pv 1) (Zj Y9 (Zj Xl Zd (pv 0)) Zd) (λ_ _=>rfl)) Zc))))))))))),?_⟩
    refine Yb λnxC j4=>?_;refine ⟨_,Z,r,_,Z,.inl (SqL.of r1),_,_,Z,Z,.inl ⟨by decide,by decide⟩,_,Z,by lia,by rw [Ab]; lia,λD hD=>?_⟩;have eN:(3 * (((ts.map V.ref).length:Nat):Int)).toNat=ns.length:=by rw [Ab]; lia
    show X0 (Itr 0 (3 * (((ts.map V.ref).length:Nat):Int)).toNat) _ _ _ _ _ _;rw [eN];refine Qt (λi σ H2=>∃ v,σ=[v,some (.ref r)]/\Same H H2/\H2 D=some (.lst ((ns.take i).map V.int))) ⟨none,Z,Same.new hD,Zb⟩ ?_ ?_
    · rintro i σ H2 kf ⟨v,rfl,s2,h2⟩
      have hx:=Ac kf;generalize ns[i]=x at hx;obtain ⟨ts',q,w1,w2,w3,w4⟩:=Zis (hrw.same s2) hx;dsimp only [Zv,tYes];rw [if_pos rfl,Int.zero_add];have e1:atI (ts'.map V.ref) ((i:Int) / 3)=some (V.ref q):=by rw [show (i:Int) / 3=((i / 3:Nat):Int) by lia]; exact Xt w2
      have e2:atI (row3 ns (i / 3)) ((i:Int) % 3)=some (V.int x):=by rw [show (i:Int) % 3=((i % 3:Nat):Int) by lia]; exact X6 w4
      refine ⟨_,Z,_,Z,_,_,Z,Z,⟨by decide,by decide⟩,r,_,_,_,Z,Z,SqL.of w1,e1,_,Z,_,_,Z,Z,(by show (0:Int) < 3; decide),q,_,_,_,rfl,rfl,SqT.of w3,e2,?_⟩;refine ⟨_,h2,by rw [Ab,Ai]; exact Z0 (by lia),_,Z,Same.add s2 hD,?_⟩;rw [Zb,Aw,hx,Aj];rfl
    rintro σ H2 ⟨v,rfl,s2,h2⟩;rw [List.take_length] at h2;refine j4 _ _ ?_
    try dsimp only [Zv]
    refine Z8 (λσ H'=>σ=[some (.ref r),some (.int pick),some (.ref D)]/\Same H H'/\H' D=some (.lst ((if pick % 6=1 then ns.set (pick / 6 % ns.length).toNat 10000 else ns).map V.int))) (λnx ke=>?_) ?_
    · refine ⟨_,Z,_,_,Z,Z,(by show (0:Int) < 6; decide),rfl,_,rfl,?_⟩
      refine ite2 (λz=>?_) (λz=>?_)
      · have z:pick % 6=1:=by
          have z:=of_decide_eq_true z;injection z
        have k0:=Int.emod_nonneg (pick / 6) (show (ns.length:Int)≠0 by lia);have k1:=Int.emod_lt_of_pos (pick / 6) (show (0:Int) < ns.length by lia);obtain ⟨j,hj⟩:∃ j:Nat,pick / 6 % (ns.length:Int)=j:=⟨_,(Int.toNat_of_nonneg k0).symm⟩;have pr:j < ns.length:=by lia
        refine ⟨_,Z,_,Z,_,_,Z,Z,⟨by decide,by decide⟩,_,Z,D,_,Z,.inl (SqL.of h2),_,_,Z,Z,(by rw [Ab]; lia),?_⟩;refine ⟨D,_,_,j,Z,Z,h2,(by rw [Ab,hj]; exact Qj pr),?_⟩;refine ke _ _ ⟨Z,Same.add s2 hD,?_⟩;rw [Zb,if_pos z,hj,Int.toNat_natCast,List.map_set]
      · refine ke _ _ ⟨Z,s2,?_⟩
        rw [if_neg (λe=>z (decide_eq_true (congrArg V.int e)))];exact h2
    rintro σ H3 ⟨rfl,s3,h3⟩;refine Z8 (λσ H'=>∃ f,σ=[some (.ref r),some (.int pick),some (.ref f)]/\Same H H'/\H f=none/\H' f=some (.lst ((spo ns pick).map V.int))) (λnx ke=>?_) ?_
    · refine ⟨_,Z,_,_,Z,Z,(by show (0:Int) < 6; decide),rfl,_,rfl,?_⟩
      refine ite2 (λz=>?_) (λz=>?_)
      · have z:pick % 6=2:=by
          have z:=of_decide_eq_true z;injection z
        rw [if_neg (by lia)] at h3;have h0:atI (ns.map V.int) ((0:Nat):Int)=some (V.int (ns.getD 0 0)):=Xt (by rw [Ac p8,Ad,Ac p8]; rfl);refine ⟨_,Z,D,_,_,_,Z,Z,SqL.of h3,h0,(by show 1<=sizeLine; decide),λq hq=>?_⟩;have s4:Same H3 (upd H3 q (.lst [V.int (ns.getD 0 0)])):=Same.new hq;refine ⟨_,Z,D,_,Z,.inl (SqL.of (s4 _ _ h3)),q,_,_,Z,Z,Zb,by lia,by rw [Ab]; lia,?_,λf hf=>?_⟩
        · show 1 * _<=_
          rw [Ab,Int.toNat_natCast,Nat.one_mul,sizeLine_eq];lia
        refine ke _ _ ⟨f,Z,(s3.trans s4).trans (Same.new hf),(s3.trans s4).free hf,?_⟩;rw [Zb,Ab,Int.toNat_natCast,List.flatten_replicate_singleton];unfold spo;rw [if_neg (by lia),if_pos z,List.map_replicate]
      · have z:pick % 6≠2:=λe=>z (decide_eq_true (congrArg V.int e))
        refine ke _ _ ⟨D,Z,s3,hD,?_⟩;unfold spo;rw [if_neg z];exact h3
    rintro σ H4 ⟨f,rfl,s4,lu,h4⟩;have qx:(spo ns pick).length=ns.length:=by
      unfold spo
      split
      · rw [List.length_set]
      · split
        · rw [List.length_replicate]
        · rfl
    generalize spo ns pick=fl at k h4 qx;refine ⟨_,Z,r,_,Z,.inl (SqL.of (s4 _ _ r1)),_,Z,by lia,by rw [Ab]; lia,λD' hD'=>?_⟩;have eN:((((ts.map V.ref).length:Nat):Int)).toNat=ts.length:=by rw [Ab]; lia
    have rn:H D'=none:=s4.free hD';have vf:f≠D':=λz=>by rw [z] at h4; rw [hD'] at h4; cases h4
    show X0 (Itr 0 ((((ts.map V.ref).length:Nat):Int)).toNat) _ _ _ _ _ _;rw [eN];refine Qt (λi σ H2=>∃ (us:List Addr) (v:Option V),σ=[v,some (.ref f)]/\Same H H2/\H2 D'=some (.lst (us.map V.ref))/\us.length=i/\H2 f=some (.lst (fl.map V.int))/\∀ (k:Nat) (t:Addr),us[k]?=some t->H2 t=some (.tup (row3 fl k)))
      ⟨[],none,rfl,Same.add s4 rn,Zb,rfl,by rw [Ze vf]; exact h4,λk t z=>by simp at z⟩ ?_ ?_
    · rintro i σ H2 kf ⟨us,v,rfl,m9,g1,nz,g2,g3⟩
      have at':∀ (c:Nat) (z:Int),c < 3->z=3 * (0 + (i:Int)) + c->atI (fl.map V.int) z=some (V.int (fl.getD (3 * i + c) 0)):=λc z hc hz=>by
        have e:z=((3 * i + c:Nat):Int):=by lia
        rw [e];exact X6 (getI (by lia))
      dsimp only [Zv,tYes];rw [if_pos rfl];refine ⟨_,Z,_,Z,_,_,Z,Z,.inl ⟨by decide,by decide⟩,f,_,_,_,Z,Z,SqL.of g2,at' 0 _ (by decide) (by simp),?_⟩;refine ⟨_,Z,_,Z,_,_,Z,Z,.inl ⟨by decide,by decide⟩,_,_,Z,Z,f,_,_,_,Z,Z,SqL.of g2,at' 1 _ (by decide) Z,?_⟩;refine ⟨_,Z,_,Z,_,_,Z,Z,.inl ⟨by decide,by decide⟩,_,_,Z,Z,f,_,_,_,Z,Z,SqL.of g2,at' 2 _ (by decide) Z,?_⟩;refine ⟨(by show 3<=sizeLine; decide),λq hq=>?_⟩;have u8:q≠D':=λz=>by rw [z,g1] at hq; cases hq
      have yt:q≠f:=λz=>by rw [z,g2] at hq; cases hq
      have qz:H q=none:=m9.free hq;refine ⟨_,by rw [Ze (Ne.symm u8)]; exact g1,(by rw [Ab]; exact Z0 (by lia)),us ++ [q],_,Z,Same.add (Same.add m9 qz) rn,?_,?_,?_,?_⟩
      · rw [Zb]; simp
      · rw [Ae,At,nz]
      · rw [Ze vf,Ze (Ne.symm yt)]; exact g2
      · intro k t z
        by_cases hk:k < us.length
        · rw [Av hk] at z
          have g:=g3 k t z;rw [Ze (λe=>by rw [e,g1] at g; cases g),Ze (Zh g hq)];exact g
        · have zb:k=us.length:=by
            have:=(Aa z).1;rw [Ae,At] at this;lia
          subst zb;have:t=q:=by simpa using z.symm
          subst this;rw [Ze u8,Zb,nz];rfl
    · rintro σ H2 ⟨us,v,rfl,m9,g1,nz,g2,g3⟩
      exact k D' H2 m9 rn ⟨us,g1,by rw [qx,nz,r2],g3⟩
def Zba:∀ m:Nat,0 < m->∃ c r,(Nat.toDigits 10 m).map Char.toNat=c :: r/\49<=c:=λm=>by
 induction m using Nat.strongRecOn with
 | _ m ih =>
  intro h0;by_cases h:m < 10
  ·rw [Nat.toDigits_of_lt_base h]
   have:∀ d:Nat,d < 10->0 < d->49<=(Nat.digitChar d).toNat:=by decide
   exact ⟨_,[],Z,this m h h0⟩
  ·have hm:m % 10 < 10:=Nat.mod_lt m (by decide)
   have t:Nat.toDigits 10 (m / 10) ++ Nat.toDigits 10 (m % 10)=Nat.toDigits 10 (10 * (m / 10) + m % 10):=Nat.toDigits_append_toDigits (by decide) (by lia) hm;rw [Nat.div_add_mod] at t;obtain ⟨c,r,e,hc⟩:=ih (m / 10) (by lia) (by lia);rw [<- t,Aj,e];exact ⟨c,_,Z,hc⟩
def nmS (n:Int):Str:=Str.ofString (toString n)
def Vx (m:Nat):∀ c∈(nmS (m:Int)).cps.toList,48<=c/\c<=57:=λc hc=>by
 unfold nmS at hc;rw [PySem.W.KIN.signs_num] at hc;obtain ⟨ch,mq,e⟩:=List.mem_map.mp hc;have r:=PyProof.Rows.digit_range (Nat.isDigit_of_mem_toDigits (by decide) (by decide) mq);rw [<- e];exact r
def Zji:∀ c:Fin 128,48<=c.val->c.val<=57->Txt.contains fgL ⟨#[c.val]⟩=true:=by decide +kernel
def Zj7 {n:Int} (h0:0<=n) (h1:n<=10000):W4 (nmS n)=true:=by
 obtain ⟨m,rfl⟩:=Int.eq_ofNat_of_zero_le h0;have hl:(nmS (m:Int)).length<=10:=PySem.W.KT.len_num h0 (by lia);have hd:=Vx m;have kc:1<=(nmS (m:Int)).length:=by
  have e:(nmS (m:Int)).length=(nmS (m:Int)).cps.toList.length:=by rw [Array.length_toList]; rfl
  rw [e]
  unfold nmS
  rw [PySem.W.KIN.signs_num,Ab]
  by_cases z:m=0
  ·subst z; decide
  ·obtain ⟨c,r,e,_⟩:=Zba m (by lia)
   have:=congrArg List.length e
   rw [Ab,List.length_cons] at this
   lia
 unfold W4;rw [decide_eq_true (by lia:(1:Int)<=_),decide_eq_true (by lia:_<=(61:Int)),Bool.true_and,Bool.true_and,Bool.and_eq_true];refine ⟨?_,?_⟩
 ·unfold mdL
  rw [List.all_map,List.all_eq_true];intro c hc;obtain ⟨d1,d2⟩:=hd c hc;exact Zji ⟨c,by lia⟩ d1 d2
 ·by_cases z:m=0
  ·subst z; rw [Bool.or_eq_true]; exact .inl (by decide)
  ·rw [Bool.or_eq_true]
   right;rw [Bool.not_eq_true'];obtain ⟨c,r,e,hc⟩:=Zba m (by lia)
   cases hs:Txt.startswith (nmS (m:Int)) (Str.ofString "0") with
   | false=>rfl
   | true =>
    exfalso;unfold Txt.startswith at hs;rw [Bool.and_eq_true,decide_eq_true_eq] at hs;have:=(StrLaws.subAt_one (nmS (m:Int)) 48 0).mp hs;unfold nmS at this;rw [PySem.W.KIN.signs_num,e] at this;have:c=48:=by simpa using this
    lia
def Zay {n:Int} (h0:0<=n) (h1:n<=10000):numP (nmS n)=some n:=by
 unfold numP;rw [if_pos (Zj7 h0 h1)];exact PySem.W.KIN.num_reads h0 (by lia)
def cl (a b c:Int):Str:=Str.empty ++ Str.ofString "cloth " ++ (toString a:Str) ++ Str.ofString " " ++ (toString b:Str) ++ Str.ofString " " ++ (toString c:Str)
def Zic (a b c:Int):(cl a b c).cps.toList=[99,108,111,116,104] ++ 32 :: ((nmS a).cps.toList ++ 32 :: ((nmS b).cps.toList ++ 32 :: (nmS c).cps.toList)):=by
 have e:∀ a b:Str,(a ++ b).cps.toList=a.cps.toList ++ b.cps.toList:=λa b=>Array.toList_append;unfold cl;rw [e,e,e,e,e,e];show ([]:List Nat) ++ [99,108,111,116,104,32] ++ (nmS a).cps.toList ++ [32] ++ (nmS b).cps.toList ++ [32] ++ (nmS c).cps.toList=_;simp
def W7 (r:Str):Prop:=Asc r/\r.length<=100/\10 ∉ r.cps.toList
structure Clo (r:Str):Prop where
 ok:W7 r
 st:Txt.startswith r cloS=true
def Zg4 {a b c:Int} (ha:0<=a/\a<=10000) (hb:0<=b/\b<=10000) (hc:0<=c/\c<=10000):Clo (cl a b c)/\cloP (cl a b c)=some (a,b,c):=by
 obtain ⟨i,rfl⟩:=Int.eq_ofNat_of_zero_le ha.1;obtain ⟨j,rfl⟩:=Int.eq_ofNat_of_zero_le hb.1;obtain ⟨k,rfl⟩:=Int.eq_ofNat_of_zero_le hc.1;have l1:(nmS (i:Int)).length<=10:=PySem.W.KT.len_num ha.1 (by lia);have l2:(nmS (j:Int)).length<=10:=PySem.W.KT.len_num hb.1 (by lia);have l3:(nmS (k:Int)).length<=10:=PySem.W.KT.len_num hc.1 (by lia);have hl:=Zic (i:Int) j k;have mem:∀ d∈(cl (i:Int) j k).cps.toList,d∈[99,108,111,116,104,32]\/48<=d/\d<=57:=λd hd=>by
  rw [hl] at hd
  simp only [List.mem_append,List.mem_cons,List.not_mem_nil,or_false] at hd ⊢
  rcases hd with h | h | h | h | h | h | h
  ·rcases h with h | h | h | h | h <;> simp [h]
  ·simp [h]
  ·exact .inr (Vx i d h)
  ·simp [h]
  ·exact .inr (Vx j d h)
  ·simp [h]
  ·exact .inr (Vx k d h)
 refine ⟨⟨⟨λd hd=>?_,?_,λhd=>?_⟩,?_⟩,?_⟩
 ·rcases mem d hd with h | h
  ·have:∀ d∈[99,108,111,116,104,32],d < 128:=by decide
   exact this d h
  ·lia
 ·have e:(cl (i:Int) j k).length=(cl (i:Int) j k).cps.toList.length:=by rw [Array.length_toList]; rfl
  have f:∀ n:Int,(nmS n).cps.toList.length=(nmS n).length:=λn=>by rw [Array.length_toList]; rfl
  rw [e,hl];simp only [Ae,List.length_cons,f,List.length_nil];lia
 ·rcases mem 10 hd with h | h
  ·revert h; decide
  ·lia
 ·have:cl (i:Int) j k=cloS ++ ⟨((nmS (i:Int)).cps.toList ++ 32 :: ((nmS (j:Int)).cps.toList ++ 32 :: (nmS (k:Int)).cps.toList)).toArray⟩:=by
   apply L2.Str.ext';rw [hl];have e:∀ a b:Str,(a ++ b).cps.toList=a.cps.toList ++ b.cps.toList:=λa b=>Array.toList_append;rw [e];show _=[99,108,111,116,104,32] ++ _;simp
  rw [this];exact PySem.W.KT.starts_app _ _
 ·have no:∀ m:Nat,32 ∉ (nmS (m:Int)).cps.toList:=λm h=>by have:=Vx m _ h; lia
  have ew:wdS (cl (i:Int) j k)=[Str.ofString "cloth",nmS i,nmS j,nmS k]:=by
   refine Fk (c:=32) (λz=>nomatch z) (λp hp=>?_) ?_
   ·simp only [List.mem_cons,List.not_mem_nil,or_false] at hp
    rcases hp with rfl | rfl | rfl | rfl
    ·decide
    ·exact no i
    ·exact no j
    ·exact no k
   ·rw [hl]
    rfl
  unfold cloP;rw [ew];dsimp only;rw [Zay ha.1 ha.2,Zay hb.1 hb.2,Zay hc.1 hc.2]
def Yk:List Str:=["lift nobody","lay ab 119","lay ab 4 99999999999999999999","lift ab"]
def dueL:List Str:=["unknown","no thread","no thread","unknown"]
def badL:List Str:=["lift","","cloth 1 2","back","turn 3","lay ab 1 ","tent"]
def cloL:List Str:=["cloth 01 2 3","cloth 1 2","cloth 1 2 3 4","cloth  1 2 3","cloth 1 2 3 ","cloth +1 2 3"]
def Zg1:Str:=Txt.mul (Str.ofString "9") 62
def W6:List Str:=[Str.ofString "cloth 1 2 " ++ Zg1,"cloth 1_0 2 3"]
def Qu:Str:="cloth 1 2 3"
def okB (r:Str):Bool:=r.cps.toList.all (λc=>decide (c < 128) && decide (c≠10)) && decide (r.length<=100)
def Wi {r:Str} (h:okB r=true):W7 r:=by
 unfold okB at h;rw [Bool.and_eq_true,List.all_eq_true,decide_eq_true_eq] at h;refine ⟨λc hc=>?_,h.2,λhc=>?_⟩
 ·have:=h.1 c hc
  rw [Bool.and_eq_true,decide_eq_true_eq] at this;exact this.1
 ·have:=h.1 _ hc
  rw [Bool.and_eq_true,decide_eq_true_eq,decide_eq_true_eq] at this;exact this.2 Z
def Wk:∀ r∈Yk ++ badL ++ cloL ++ W6 ++ [Qu],okB r=true:=by decide +kernel
def Jl:∀ r∈Yk,Txt.startswith r cloS=false:=by decide +kernel
def Zjo:∀ r∈badL,r=Str.ofString "cloth 1 2"\/Txt.startswith r cloS=false:=by decide +kernel
def Zfd:∀ r∈cloL ++ W6,Txt.startswith r cloS=true:=by decide +kernel
def Zjm:∀ r∈cloL ++ W6,cloP r=none:=by decide +kernel
def Zjn:cloP (Str.ofString "cloth 1 2")=none:=by decide +kernel
def Wj:∀ r∈Yk,W8 r:=by
 intro r hr;unfold Yk at hr;simp only [List.mem_cons,List.not_mem_nil,or_false] at hr
 rcases hr with rfl | rfl | rfl | rfl
 ·exact .inl ⟨Str.ofString "nobody",by decide +kernel,by decide +kernel⟩
 ·exact .inr ⟨Str.ofString "ab",Str.ofString "119",[],[119],by decide +kernel,by decide +kernel,by decide +kernel⟩
 ·exact .inr ⟨Str.ofString "ab",Str.ofString "4",[Str.ofString "99999999999999999999"],[4,99999999999999999999],by decide +kernel,by decide +kernel,by decide +kernel⟩
 ·exact .inl ⟨Str.ofString "ab",by decide +kernel,by decide +kernel⟩
def Kv:∀ r∈badL,BadD r:=by
 intro r hr;unfold badL at hr;simp only [List.mem_cons,List.not_mem_nil,or_false] at hr
 rcases hr with rfl | rfl | rfl | rfl | rfl | rfl | rfl
 ·exact .inr (.inr (.inl ⟨[],by decide +kernel,λy e=>nomatch e⟩))
 ·exact .inl ⟨Str.ofString "",[],by decide +kernel,by decide +kernel⟩
 ·exact .inl ⟨Str.ofString "cloth",[Str.ofString "1",Str.ofString "2"],by decide +kernel,by decide +kernel⟩
 ·exact .inl ⟨Str.ofString "back",[],by decide +kernel,by decide +kernel⟩
 ·exact .inr (.inl ⟨[Str.ofString "3"],by decide +kernel,by decide⟩)
 ·refine .inr (.inr (.inr ⟨[Str.ofString "ab",Str.ofString "1",Str.ofString ""],by decide +kernel,λy z q e _=>?_⟩))
  injection e with _ e
  rw [<- e];decide +kernel
 ·exact .inl ⟨Str.ofString "tent",[],by decide +kernel,by decide +kernel⟩
def Za3:BadD Qu:=.inl ⟨Str.ofString "cloth",[Str.ofString "1",Str.ofString "2",Str.ofString "3"],by decide +kernel,by decide +kernel⟩
def Za5 {d:Str} (g:W8 d) (b:BadD d):False:=by
 have l1:Str.ofString "lift"∈rdN:=by decide
 have l2:Str.ofString "lay"∈rdN:=by decide
 rcases g with ⟨y,e1,e2⟩ | ⟨y,z,q,ns,e1,e2,e3⟩ <;> rcases b with ⟨y',r,b1,b2⟩ | ⟨r,b1,b2⟩ | ⟨r,b1,b2⟩ | ⟨r,b1,b2⟩ <;> rw [e1] at b1 <;> injection b1 with c1 c2
 ·rw [<- c1] at b2; exact b2 l1
 ·exact absurd c1 (by decide)
 ·have:=b2 y c2.symm; rw [e2] at this; cases this
 ·exact absurd c1 (by decide)
 ·rw [<- c1] at b2; exact b2 l2
 ·exact absurd c1 (by decide)
 ·exact absurd c1 (by decide)
 ·have:=b2 y z q c2.symm e2; rw [e3] at this; cases this
def Ga {M:List (Option Nat)} {ws:List Int} {x:Int} (hx:x∈ws) (h:(M.length:Int)<=x):Xk M ws=false:=by
 have hc:Xm M x=false:=by
  unfold Xm;rw [decide_eq_false (by lia),Bool.false_and]
 unfold Xk;have:(ws.map (Xm M)).all id=false:=by
  rw [List.all_eq_false]
  exact ⟨false,List.mem_map.mpr ⟨x,hx,hc⟩,by decide⟩
 rw [this,Bool.false_and,Bool.and_false]
def Zh4 {l:List Str} (kc:l≠[]) (h:∀ r∈l,10 ∉ r.cps.toList):Txt.split (Txt.join (Str.ofString "\n") l) (Str.ofString "\n")=l:=by
 refine Fk (c:=10) kc h ?_;show (Builtin.Str.glued _ l).cps.toList=_;rw [StrLaws.glued_eq_join];exact W3 10 l
def Zh5 {l:List Str} (h:∀ r∈l,r.length<=100) (hl:l.length<=100):(Txt.join (Str.ofString "\n") l).length<=100000:=by
 have e:Txt.join (Str.ofString "\n") l=Str.join (Str.ofString "\n") l:=StrLaws.glued_eq_join _ l;rw [e];have h1:=StrLaws.join_length_le (Str.ofString "\n") l;have h2:=Kb (B:=100) h;have h3:(Str.ofString "\n").length=1:=rfl;rw [h3] at h1;lia
def Fe (t:Adr) (l F:List Str):Prop:=∀ (H:Hp) (Q:VK) (E:XK),(∀ (a:Addr) (H':Hp),Same H H'->H' a=some (.lst (F.map V.str))->Q (.ref a) H')->Q8 t [.str (Txt.join (Str.ofString "\n") l)] H Q E
def Zgp {t:Adr} {C D F:List Str} (up:C≠[]) (j1:(C ++ D).length<=100) (j':∀ r∈C ++ D,W7 r) (hC:∀ c∈C,Txt.startswith c cloS=true) (hD:∀ d∈D.head?,Txt.startswith d cloS=false) (kn:∀ d∈D,W8 d\/BadD d)
  (kB:((∃ c∈C,cloP c=none)\/∃ d∈D,BadD d)->F=[Str.ofString "bad order"])
  (kG:(∀ c∈C,cloP c≠none)->(∀ d∈D,W8 d)->∃ ns:List Int,ns.length=3 * C.length/\ns.length < 64/\(∀ (k:Nat) c,C[k]?=some c->cloP c=some (ns.getD (3 * k) 0,ns.getD (3 * k + 1) 0,ns.getD (3 * k + 2) 0)) /\
   ((¬ (ns≠[]/\Gd ns)/\F=[Str.ofString "no tent"])\/∃ M,TD M ns /\
    (∀ d∈D.head?,(∀ y,wdS d=[Str.ofString "lift",y]->F=[Str.ofString "unknown"])/\∀ y z q xs,wdS d=Str.ofString "lay" :: y :: z :: q->Xx (z :: q)=some xs->Xk M xs=false/\F=[Str.ofString "no thread"]) /\
    (D=[]->F=[]))):Fe t (C ++ D) F:=by
 intro H Q E k;have kc:C ++ D≠[]:=λz=>up (List.append_eq_nil_iff.mp z).1;have k1:∀ (lit:Str) (H':Hp),F=[lit]->Same H H'->∀ l,H' l=none->Q (.ref l) (upd H' l (.lst [.str lit])):=λlit H' e s' l hl=>k l _ (s'.trans (Same.new hl)) (by rw [Zb,e]; rfl);refine ⟨⟨_,Z⟩,_,C,D,Z,Zh5 (λr hr=>(j' r hr).2.1) j1,Zh4 kc (λr hr=>(j' r hr).2.2),by lia,λr hr=>⟨(j' r hr).1,Nat.le_trans (j' r hr).2.1 (by decide)⟩,up,hC,hD,kn,λb H' s'=>⟨_,.bad,k1 _ _ (kB b) s'⟩,λa b=>?_⟩;obtain ⟨ns,n1,n2,n3,kk⟩:=kG a b;refine ⟨ns,n1,n2,n3,?_⟩
 rcases kk with ⟨c,e⟩ | ⟨M,td,q1,q2⟩
 ·exact .inl ⟨c,λH' s'=>⟨_,.tent,k1 _ _ e s'⟩⟩
 ·refine .inr ⟨M,td,λd hd=>?_,λe p H' s' hn=>⟨p,M,ns,Z,hn,λl hl=>k l _ (s'.trans (Same.new hl)) (by rw [Zb,q2 e]; rfl)⟩⟩
  obtain ⟨w1,w2⟩:=q1 d hd;refine ⟨λy e H' s'=>⟨_,.unk,k1 _ _ (w1 y e) s'⟩,λy z q xs e1 e2=>?_⟩;obtain ⟨v1,v2⟩:=w2 y z q xs e1 e2;exact ⟨v1,λH' s'=>⟨_,.thr,k1 _ _ v2 s'⟩⟩
def Ja {t:Adr} {C D:List Str} (up:C≠[]) (j1:(C ++ D).length<=100) (j':∀ r∈C ++ D,W7 r) (hC:∀ c∈C,Txt.startswith c cloS=true) (hD:∀ d∈D.head?,Txt.startswith d cloS=false) (kn:∀ d∈D,W8 d\/BadD d) (b:(∃ c∈C,cloP c=none)\/∃ d∈D,BadD d):Fe t (C ++ D) [Str.ofString "bad order"] :=
 Zgp up j1 j' hC hD kn (λ_=>rfl) λh1 h2=>by
  rcases b with ⟨c,hc,e⟩ | ⟨d,hd,e⟩
  ·exact absurd e (h1 c hc)
  ·exact (Za5 (h2 d hd) e).elim
def txtL (ns:List Int) (n:Nat):List Str:=(List.range n).map λk=>cl (ns.getD (3 * k) 0) (ns.getD (3 * k + 1) 0) (ns.getD (3 * k + 2) 0)
def Yy (ns:List Int) (n:Nat):(txtL ns n).length=n:=by unfold txtL; rw [Ab,List.length_range]
def Zds {ns:List Int} {n k:Nat} {c:Str} (h:(txtL ns n)[k]?=some c):k < n/\c=cl (ns.getD (3 * k) 0) (ns.getD (3 * k + 1) 0) (ns.getD (3 * k + 2) 0):=by
 have hk:k < n:=by have:=(Aa h).1; rw [Yy] at this; exact this
 unfold txtL at h;rw [Ah,List.getElem?_range hk] at h;exact ⟨hk,(Ax h).symm⟩
def Xh {ns:List Int} {n:Nat} (hr:∀ i,0<=ns.getD i 0/\ns.getD i 0<=10000) {c:Str} (h:c∈txtL ns n):Clo c/\cloP c≠none:=by
 obtain ⟨k,hk⟩:=List.getElem?_of_mem h;obtain ⟨_,rfl⟩:=Zds hk;obtain ⟨h1,h2⟩:=Zg4 (hr (3 * k)) (hr (3 * k + 1)) (hr (3 * k + 2));exact ⟨h1,by rw [h2]; exact λz=>nomatch z⟩
def Zcp {t:Adr} {ns:List Int} {n:Nat} {D F:List Str} (hn:ns.length=3 * n) (h1:1<=n) (mr:ns.length < 64) (hr:∀ i,0<=ns.getD i 0/\ns.getD i 0<=10000) (ya:D.length<=50) (lm:∀ d∈D,d∈Yk)
  (kG:(¬ (ns≠[]/\Gd ns)/\F=[Str.ofString "no tent"])\/∃ M,TD M ns/\(∀ d∈D.head?,∃ j:Nat,Yk[j]?=some d/\F=[dueL.getD j (Str.ofString "")])/\(D=[]->F=[])):Fe t (txtL ns n ++ D) F:=by
 have kc:txtL ns n≠[]:=λz=>by have:=Yy ns n; rw [z,List.length_nil] at this; lia
 refine Zgp kc (by rw [Ae,Yy]; lia) (λr mw=>?_) (λc hc=>(Xh hr hc).1.st) (λd hd=>Jl d (lm d (List.mem_of_mem_head? hd))) (λd hd=>.inl (Wj d (lm d hd))) (λb=>?_) (λ_ _=>⟨ns,by rw [hn,Yy],mr,λk c hk=>?_,?_⟩)
 ·rcases List.mem_append.mp mw with z | z
  ·exact (Xh hr z).1.ok
  ·exact Wi (Wk r (by simp only [List.mem_append]; exact .inl (.inl (.inl (.inl (lm r z))))))
 ·rcases b with ⟨c,hc,e⟩ | ⟨d,hd,e⟩
  ·exact absurd e (Xh hr hc).2
  ·exact (Za5 (Wj d (lm d hd)) e).elim
 ·obtain ⟨_,rfl⟩:=Zds hk
  exact (Zg4 (hr _) (hr _) (hr _)).2
 ·rcases kG with h | ⟨M,td,q1,q2⟩
  ·exact .inl h
  ·refine .inr ⟨M,td,λd hd=>?_,q2⟩
   obtain ⟨j,hj,e⟩:=q1 d hd;have hM:M.length < 64:=by rw [<- td.len]; exact mr
   have hj4:j < 4:=(Aa hj).1;have w1:wdS (Str.ofString "lift nobody")=[Str.ofString "lift",Str.ofString "nobody"]:=by decide +kernel
   have w2:wdS (Str.ofString "lay ab 119")=[Str.ofString "lay",Str.ofString "ab",Str.ofString "119"]:=by decide +kernel
   have w3:wdS (Str.ofString "lay ab 4 99999999999999999999")=[Str.ofString "lay",Str.ofString "ab",Str.ofString "4",Str.ofString "99999999999999999999"]:=by decide +kernel
   have w4:wdS (Str.ofString "lift ab")=[Str.ofString "lift",Str.ofString "ab"]:=by decide +kernel
   have n2:Xx [Str.ofString "119"]=some [119]:=by decide +kernel
   have n3:Xx [Str.ofString "4",Str.ofString "99999999999999999999"]=some [4,99999999999999999999]:=by decide +kernel
   have:j=0\/j=1\/j=2\/j=3:=by lia
   rcases this with rfl | rfl | rfl | rfl <;> cases hj
   ·exact ⟨λ_ _=>e,λy z q xs e1 _=>by rw [show wdS ("lift nobody":Str)=_ from w1] at e1; injection e1 with e1; exact absurd e1 (by decide)⟩
   ·refine ⟨λy e1=>by rw [show wdS ("lay ab 119":Str)=_ from w2] at e1; injection e1 with e1; exact absurd e1 (by decide),λy z q xs e1 e2=>?_⟩
    rw [show wdS ("lay ab 119":Str)=_ from w2] at e1
    injection e1 with _ e1
    injection e1 with _ e1
    rw [<- e1,n2] at e2
    injection e2 with e2
    rw [<- e2];exact ⟨Ga List.mem_cons_self (by lia),e⟩
   ·refine ⟨λy e1=>by rw [show wdS ("lay ab 4 99999999999999999999":Str)=_ from w3] at e1; injection e1 with e1; exact absurd e1 (by decide),λy z q xs e1 e2=>?_⟩
    rw [show wdS ("lay ab 4 99999999999999999999":Str)=_ from w3] at e1
    injection e1 with _ e1
    injection e1 with _ e1
    rw [<- e1,n3] at e2
    injection e2 with e2
    rw [<- e2];exact ⟨Ga (List.mem_cons_of_mem _ List.mem_cons_self) (by lia),e⟩
   ·exact ⟨λ_ _=>e,λy z q xs e1 _=>by rw [show wdS ("lift ab":Str)=_ from w4] at e1; injection e1 with e1; exact absurd e1 (by decide)⟩
def Zcg {ns:List Int} {B:Int} (hB:0<=B) (h:∀ (i:Nat) x,ns[i]?=some x->0<=x/\x<=B) (i:Nat):0<=ns.getD i 0/\ns.getD i 0<=B:=by
 rw [Ad]
 cases e:ns[i]? with
 | none=>exact ⟨Int.le_refl _,hB⟩
 | some x=>exact h i x e
def Zhb {ns:List Int} {pick:Int} (kc:ns≠[]) (h:∀ (i:Nat) x,ns[i]?=some x->0<=x/\x<=9999) (i:Nat):0<=(spo ns pick).getD i 0/\(spo ns pick).getD i 0<=10000:=by
 refine Zcg (by decide) (λi x e=>?_) i;unfold spo at e;split at e
 ·rw [List.getElem?_set] at e
  split at e
  ·split at e
   ·cases e; decide
   ·cases e
  ·have:=h i x e; lia
 ·split at e
  ·rw [List.getElem?_replicate] at e
   split at e
   ·cases e
    have:=Zcg (B:=9999) (by decide) h 0;lia
   ·cases e
  ·have:=h i x e; lia
def Zhd {ns:List Int} {pick:Int} {n:Nat} (hn:ns.length=3 * n) (h1:1<=n) (hp:pick % 6=1\/pick % 6=2):¬ (spo ns pick≠[]/\Gd (spo ns pick)):=λ⟨_,g1,g2⟩=>by
 rcases hp with hp | hp
 ·have k0:=Int.emod_nonneg (pick / 6) (show (ns.length:Int)≠0 by lia)
  have k1:=Int.emod_lt_of_pos (pick / 6) (show (0:Int) < ns.length by lia);have:=g1 (pick / 6 % ns.length).toNat 10000 (by unfold spo; rw [if_pos hp,List.getElem?_set_self (by lia)]);lia
 ·have e:spo ns pick=List.replicate ns.length (ns.getD 0 0):=by unfold spo; rw [if_neg (by lia),if_pos hp]
  have:=g2 (ns.getD 0 0);rw [e] at this;unfold pl at this;rw [List.filter_eq_self.mpr (λi hi=>?_),List.length_range,List.length_replicate] at this
  ·lia
  ·rw [List.mem_range,List.length_replicate] at hi
   rw [List.getElem?_replicate,if_pos hi];exact decide_eq_true Z
def Zfj {ns:List Int} {pick:Int} (hp:¬ (pick % 6=1\/pick % 6=2)):spo ns pick=ns:=by
 unfold spo;rw [if_neg (λz=>hp (.inl z)),if_neg (λz=>hp (.inr z))]
def Zhc (ns:List Int) (pick:Int):(spo ns pick).length=ns.length:=by
 unfold spo;split
 ·rw [List.length_set]
 ·split
  ·rw [List.length_replicate]
  ·rfl
def ansL:List (List Str):=[[],["bad order"],["no tent"],["unknown"],["no thread"]]
structure FinT (t:Adr) (L1 L2 F:List Str):Prop where
 te:Fe t (L1 ++ L2) F
 ln:∀ r∈L1 ++ L2,r.length<=100
 le:(L1 ++ L2).length<=100
 an:F∈ansL
def Zhs {t:Adr} {ns:List Int} {n i:Nat} {D:List Str} {x:Str} (hn:ns.length=3 * n) (h1:1<=n) (mr:ns.length < 64) (hr:∀ i,0<=ns.getD i 0/\ns.getD i 0<=10000) (ya:D.length<=10) (lm:∀ d∈D,d∈Yk) (hx:x∈badL) (hi:i<=D.length):FinT t (txtL ns n) (D.take i ++ x :: D.drop i) [Str.ofString "bad order"]:=by
 have kc:txtL ns n≠[]:=λz=>by have:=Yy ns n; rw [z,List.length_nil] at this; lia
 have m6:∀ d∈D.take i ++ x :: D.drop i,d=x\/d∈D:=λd hd=>by
  rcases List.mem_append.mp hd with z | z
  ·exact .inr (List.mem_of_mem_take z)
  ·rcases Ar z with z | z
   ·exact .inl z
   ·exact .inr (List.mem_of_mem_drop z)
 have si:W7 x:=Wi (Wk x (by simp only [List.mem_append]; exact .inl (.inl (.inl (.inr hx)))));have hdok:∀ d∈D,W7 d:=λd hd=>Wi (Wk d (by simp only [List.mem_append]; exact .inl (.inl (.inl (.inl (lm d hd))))));have j':∀ r∈txtL ns n ++ (D.take i ++ x :: D.drop i),W7 r:=λr mw=>by
  rcases List.mem_append.mp mw with z | z
  ·exact (Xh hr z).1.ok
  ·rcases m6 r z with rfl | z
   ·exact si
   ·exact hdok r z
 have j1:(txtL ns n ++ (D.take i ++ x :: D.drop i)).length<=100:=by
  rw [Ae,Yy,Ae,List.length_cons,Ai,List.length_drop];lia
 have kn:∀ d,d=x\/d∈D->W8 d\/BadD d:=λd hd=>by
  rcases hd with rfl | hd
  ·exact .inr (Kv d hx)
  ·exact .inl (Wj d (lm d hd))
 have wc:x∈D.take i ++ x :: D.drop i:=List.mem_append.mpr (.inr List.mem_cons_self);refine ⟨?_,λr mw=>(j' r mw).2.1,j1,by simp [ansL]⟩
 rcases Zjo x hx with e | e
 ·-- the row that looks like a cloth
  cases i with
  | zero =>
   rw [List.take_zero,List.nil_append,List.drop_zero] at j' j1 ⊢;rw [show txtL ns n ++ x :: D=(txtL ns n ++ [x]) ++ D by rw [List.append_assoc]; rfl] at j' j1 ⊢;refine Ja (λz=>kc (List.append_eq_nil_iff.mp z).1) j1 j' (λc hc=>?_) (λd hd=>Jl d (lm d (List.mem_of_mem_head? hd))) (λd hd=>.inl (Wj d (lm d hd))) (.inl ⟨x,List.mem_append.mpr (.inr List.mem_cons_self),by rw [e]; exact Zjn⟩)
   rcases List.mem_append.mp hc with z | z
   ·exact (Xh hr z).1.st
   ·rw [Af z,e]; exact Zfd _ (by decide)
  | succ i =>
   refine Ja kc j1 j' (λc hc=>(Xh hr hc).1.st) (λd hd=>?_) (λd hd=>kn d (m6 d hd)) (.inr ⟨x,wc,Kv x hx⟩)
   cases D with
   | nil=>exact absurd hi (by simp)
   | cons d0 D =>
    rw [List.take_succ_cons,List.cons_append] at hd;cases hd;exact Jl _ (lm _ List.mem_cons_self)
 ·refine Ja kc j1 j' (λc hc=>(Xh hr hc).1.st) (λd hd=>?_) (λd hd=>kn d (m6 d hd)) (.inr ⟨x,wc,Kv x hx⟩)
  rcases m6 d (List.mem_of_mem_head? hd) with rfl | z
  ·exact e
  ·exact Jl d (lm d z)
def Zhr {t:Adr} {ns:List Int} {n i:Nat} {D:List Str} {x:Str} (hn:ns.length=3 * n) (h1:1<=n) (mr:ns.length < 64) (hr:∀ i,0<=ns.getD i 0/\ns.getD i 0<=10000) (ya:D.length<=10) (lm:∀ d∈D,d∈Yk) (hx:x∈cloL ++ W6):FinT t ((txtL ns n).take i ++ x :: (txtL ns n).drop i) D [Str.ofString "bad order"]:=by
 have m6:∀ d∈(txtL ns n).take i ++ x :: (txtL ns n).drop i,d=x\/d∈txtL ns n:=λd hd=>by
  rcases List.mem_append.mp hd with z | z
  ·exact .inr (List.mem_of_mem_take z)
  ·rcases Ar z with z | z
   ·exact .inl z
   ·exact .inr (List.mem_of_mem_drop z)
 have si:W7 x:=Wi (Wk x (by
  simp only [List.mem_append] at hx ⊢
  rcases hx with z | z
  ·exact .inl (.inl (.inr z))
  ·exact .inl (.inr z)));have j':∀ r∈((txtL ns n).take i ++ x :: (txtL ns n).drop i) ++ D,W7 r:=λr mw=>by
  rcases List.mem_append.mp mw with z | z
  ·rcases m6 r z with rfl | z
   ·exact si
   ·exact (Xh hr z).1.ok
  ·exact Wi (Wk r (by simp only [List.mem_append]; exact .inl (.inl (.inl (.inl (lm r z))))))
 have j1:(((txtL ns n).take i ++ x :: (txtL ns n).drop i) ++ D).length<=100:=by
  rw [Ae,Ae,List.length_cons,Ai,List.length_drop,Yy];lia
 refine ⟨Ja (λz=>by have:=congrArg List.length z; rw [Ae,List.length_cons] at this; simp at this) j1 j' (λc hc=>?_) (λd hd=>Jl d (lm d (List.mem_of_mem_head? hd))) (λd hd=>.inl (Wj d (lm d hd))) (.inl ⟨x,List.mem_append.mpr (.inr List.mem_cons_self),Zjm x hx⟩),λr mw=>(j' r mw).2.1,j1,by simp [ansL]⟩
 rcases m6 c hc with rfl | z
 ·exact Zfd c hx
 ·exact (Xh hr z).1.st
def Zfw {t:Adr} {ns:List Int} {n:Nat} {D:List Str} (hn:ns.length=3 * n) (h1:1<=n) (mr:ns.length < 64) (hr:∀ i,0<=ns.getD i 0/\ns.getD i 0<=10000) (ya:D.length<=10) (lm:∀ d∈D,d∈Yk) (hD:D≠[]):FinT t (txtL ns n) (D ++ [Qu]) [Str.ofString "bad order"]:=by
 have kc:txtL ns n≠[]:=λz=>by have:=Yy ns n; rw [z,List.length_nil] at this; lia
 have j':∀ r∈txtL ns n ++ (D ++ [Qu]),W7 r:=λr mw=>by
  rcases List.mem_append.mp mw with z | z
  ·exact (Xh hr z).1.ok
  ·rcases List.mem_append.mp z with z | z
   ·exact Wi (Wk r (by simp only [List.mem_append]; exact .inl (.inl (.inl (.inl (lm r z))))))
   ·rw [Af z]; exact Wi (Wk _ (by simp only [List.mem_append]; exact .inr List.mem_cons_self))
 have j1:(txtL ns n ++ (D ++ [Qu])).length<=100:=by
  rw [Ae,Yy,Ae,At];lia
 refine ⟨Ja kc j1 j' (λc hc=>(Xh hr hc).1.st) (λd hd=>?_) (λd hd=>?_) (.inr ⟨Qu,List.mem_append.mpr (.inr List.mem_cons_self),Za3⟩),λr mw=>(j' r mw).2.1,j1,by simp [ansL]⟩
 ·cases D with
  | nil=>exact absurd Z hD
  | cons d0 D =>
   rw [List.cons_append] at hd;cases hd;exact Jl _ (lm _ List.mem_cons_self)
 ·rcases List.mem_append.mp hd with z | z
  ·exact .inl (Wj d (lm d z))
  ·rw [Af z]; exact .inr Za3
def Zfp:∀ F∈ansL,PySem.Spec.same (.list (F.map PyData.str)) (.list (F.map PyData.str))=true/\SeqAt.shaped (.list (F.map PyData.str))=true/\SeqAt.noMix (.list (F.map PyData.str)) (.list (F.map PyData.str))=true:=by
 intro F hF;unfold ansL at hF;simp only [List.mem_cons,List.not_mem_nil,or_false] at hF
 rcases hF with rfl | rfl | rfl | rfl | rfl <;> decide +kernel
theorem U6 {K:W.Frag} {H:Hp}:∀ F:List Str,DVs K H (F.map V.str) (F.map PyData.str)
 | []=>.nil
 | x :: F=>.cons (.str x) (U6 F)
def Zff {L:List Str} {n:Nat} (hn:L.length=n) (h0:0 < n) (y:Int):∃ x∈L,atI (L.map V.str) (y % (n:Int))=some (V.str x):=by
 have k0:=Int.emod_nonneg y (show (n:Int)≠0 by lia);have k1:=Int.emod_lt_of_pos y (show (0:Int) < n by lia);obtain ⟨j,hj⟩:∃ j:Nat,y % (n:Int)=j:=⟨_,(Int.toNat_of_nonneg k0).symm⟩;have pr:j < L.length:=by lia
 exact ⟨L[j],List.getElem_mem pr,by rw [hj]; exact Xt (Ac pr)⟩
def Za8 {t:Adr} {ns:List Int} {n:Nat} {D F:List Str} (hn:ns.length=3 * n) (h1:1<=n) (mr:ns.length < 64) (hr:∀ i,0<=ns.getD i 0/\ns.getD i 0<=10000) (ya:D.length<=10) (lm:∀ d∈D,d∈Yk)
  (kG:(¬ (ns≠[]/\Gd ns)/\F=[Str.ofString "no tent"])\/∃ M,TD M ns/\(∀ d∈D.head?,∃ j:Nat,Yk[j]?=some d/\F=[dueL.getD j (Str.ofString "")])/\(D=[]->F=[])):FinT t (txtL ns n) D F:=by
 refine ⟨Zcp hn h1 mr hr (by lia) lm kG,λr mw=>?_,by rw [Ae,Yy]; lia,?_⟩
 ·rcases List.mem_append.mp mw with z | z
  ·exact (Xh hr z).1.ok.2.1
  ·exact (Wi (Wk r (by simp only [List.mem_append]; exact .inl (.inl (.inl (.inl (lm r z))))))).2.1
 ·rcases kG with ⟨_,rfl⟩ | ⟨M,td,q1,q2⟩
  ·simp [ansL]
  ·cases D with
   | nil=>rw [q2 rfl]; simp [ansL]
   | cons d D =>
    obtain ⟨j,hj,rfl⟩:=q1 d rfl;have hj4:j < 4:=(Aa hj).1;have:j=0\/j=1\/j=2\/j=3:=by lia
    rcases this with rfl | rfl | rfl | rfl <;> decide
def Yw:FnScope ["_law_script","_law_mates","_law_rows_here","_law_pick","_law_texts","_law_menu","_law_dues","_law_orders","_law_found","_law_nums","_law_k","_law_bad","_law_cloths"] ["_law_script"] (Zf Zgw):=Am
def ok_law (T:Txt w K mg t):FnOk P w K mg base (CXr P w) 13 t.iZ t.ip ["_law_script"] (sp_law K):=by
  refine T.jc.F.aR Yw (λ_ _ _ _ H vs Q E hr h=>?_)
  · obtain ⟨a,sc,rfl,hS,hl,k⟩:=h
    have hu:=Qx hr;refine ⟨_,(Zg (Js (pcT (Zeq T) hr T.gg (Za (pv 0) Zc)) (Vp Z (Yl (Zs (i:=1) Yw.nd Z (Or.inl Z)) (Yl (Zs (i:=2) Yw.nd Z (Or.inl Z)) Wv))))
      (Zg (Zm (i:=3) Yw.nd rfl (Or.inl rfl) (pcT (Je T) hr T.bc (Za (pv 0) (Za Zd Zc))))
      (Zg (Zm (i:=2) Yw.nd rfl (Or.inl rfl) (pcT (Zbv T) hr T.dZ (Za (pv 2) (Za (pv 3) Zc))))
      (Zg (Zbt (ts:=["_law_a","_law_b","_law_c"]) (fv:=[]) (i:=4) ⟨rfl,by decide +kernel,by decide +kernel,Ym (by rfl),trivial⟩ rfl Yw.nd rfl rfl (by rfl) (Xf (pv 2)) (λ_ _ _ _=>(Ko (n:=3) K rfl (Yl (Zs (i:=0) (show List.Nodup (["_law_a","_law_b","_law_c"]:List Str) from by decide +kernel) rfl (Or.inl rfl) (Or.inr rfl)) (Yl (Zs (i:=1) (show List.Nodup (["_law_a","_law_b","_law_c"]:List Str) from by decide +kernel) rfl (Or.inl rfl) (Or.inr rfl)) (Yl (Zs (i:=2) (show List.Nodup (["_law_a","_law_b","_law_c"]:List Str) from by decide +kernel) rfl (Or.inl rfl) (Or.inr rfl)) Wv))))) (λ_ _ _ _=>Yi) (λ_ _ _=>rfl) (λ_ _ _ _ _ _=>Xj (Zhw (Zah (Zai (pv 0) (Zah (Zai (pv 1) (Zah (Zai (pv 2) Zix)))))))))
      (Zg (Zm (i:=5) Yw.nd rfl (Or.inl rfl) (Ya (Za Zl (Za Zl (Za Zl (Za Zl Zc))))))
      (Zg (Zm (i:=6) Yw.nd rfl (Or.inl rfl) (Ya (Za Zl (Za Zl (Za Zl (Za Zl Zc))))))
      (Zg (Zm (i:=7) Yw.nd rfl (Or.inl rfl) (Ya Zc))
      (Zg (Zm (i:=8) Yw.nd rfl (Or.inl rfl) (Ya Zc))
      (Zg (Zm (i:=9) Yw.nd rfl (Or.inl rfl) (pcT (Vu T) hr T.bF (Za (pcT (Je T) hr T.bc (Za (pv 0) (Za Zd Zc))) (Za Zd Zc))))
      (Zg (Ot PassesOwn.never rfl (Jd rfl T.bK (Za (Zj Z1 (Zn Zo (pv 9) Zd (λ_ _=>rfl)) Zd) Zc)) (Zs (i:=10) Yw.nd rfl (Or.inl rfl)) (Zg (Xe (Yu PySem.F.plainAttrs_list PySem.F.slot_list_append PySem.F.type_list_append Y1 (pv 7) (Za (Zn Zo (pv 5) (Zj Z1 (Zn Zo (pv 9) (Zj Y9 (pv 10) Zd) (λ_ _=>rfl)) Zd) (λ_ _=>rfl)) Zc)))
      (Zi (Yt (Zt Yv (Zp Zk (by rfl) T.aj PySem.boot_len (Za (pv 8) Zc)) Zd (Zr _)) (Zi (Xe (Yu PySem.F.plainAttrs_list PySem.F.slot_list_append PySem.F.type_list_append Y1 (pv 8) (Za (Zn Zo (pv 6) (Zj Z1 (Zn Zo (pv 9) (Zj Y9 (pv 10) Zd) (λ_ _=>rfl)) Zd) (λ_ _=>rfl)) Zc)))) Yc))))
      (Zg (Yt (PW.pt (V3 (Zt Yv (Zj Z1 (pv 3) Zd) Zd (Zr _)) (Qe (Zt Yv (Zj Z1 (pv 3) Zd) Zd (Zr _))))) (Zi (Zm (i:=8) Yw.nd rfl (Or.inl rfl) (Ya (Za Zl Zc)))) Yc)
      (Zg (Yt (Zt Yv (Zj Z1 (Zn Zo (pv 9) Zd (λ_ _=>rfl)) Zd) Zd (Zr _)) (Zg (Zm (i:=11) Yw.nd rfl (Or.inl rfl) (Zn Xg (Wo (Za Zl (Za Zl (Za Zl (Za Zl (Za Zl (Za Zl (Za Zl Zc)))))))) (Zj Z1 (Zn Zo (pv 9) Zd (λ_ _=>rfl)) Zd) (λ_ _=>rfl)))
      (Zg (Xe (Yu PySem.F.plainAttrs_list PySem.F.slot_list_insert PySem.F.type_list_insert Gc (pv 7) (Za (Zj Z1 (Zn Zo (pv 9) Zd (λ_ _=>rfl)) (Zj Y9 (Zp Zk (by rfl) T.aj PySem.boot_len (Za (pv 7) Zc)) Zd)) (Za (pv 11) Zc))))
      (Zi (Zm (i:=8) Yw.nd rfl (Or.inl rfl) (Ya (Za Zl Zc)))))) Yc)
      (Zg (Yt (Zt Yv (Zj Z1 (Zn Zo (pv 9) Zd (λ_ _=>rfl)) Zd) Zd (Zr _)) (Zg (Zm (i:=12) Yw.nd rfl (Or.inl rfl) (Wo (Za Zl (Za Zl (Za Zl (Za Zl (Za Zl (Za Zl Zc))))))))
      (Zg (Xe (Yu PySem.F.plainAttrs_list PySem.F.slot_list_insert PySem.F.type_list_insert Gc (pv 4) (Za (Zj Y9 Zd (Zj Z1 (Zn Zo (pv 9) Zd (λ_ _=>rfl)) (Zp Zk (by rfl) T.aj PySem.boot_len (Za (pv 4) Zc)))) (Za (Zn Xg (Zj Zhz (pv 12) (Wo (Za (Zj Zda Zl (Zj Zhy Zl Zd)) (Za Zl Zc)))) (Zj Z1 (Zn Zo (pv 9) Zd (λ_ _=>rfl)) Zd) (λ_ _=>rfl)) Zc))))
      (Zi (Zm (i:=8) Yw.nd rfl (Or.inl rfl) (Ya (Za Zl Zc)))))) Yc)
      (Zg (Yt (PW.pt (Vm (Zt Yv (Zj Z1 (Zn Zo (pv 9) Zd (λ_ _=>rfl)) Zd) Zd (Zr _)) (Qf (Zt J4 (Zp Zk (by rfl) T.aj PySem.boot_len (Za (pv 7) Zc)) Zd (Zr _))))) (Zg (Xe (Yu PySem.F.plainAttrs_list PySem.F.slot_list_append PySem.F.type_list_append Y1 (pv 7) (Za Zl Zc)))
      (Zi (Zm (i:=8) Yw.nd rfl (Or.inl rfl) (Ya (Za Zl Zc))))) Yc)
      (Zi (Zw (Xi (Zi6 hr.units) (pcT (Zep T) hr T.gh (Za (Yu PySem.F.plainAttrs_str PySem.F.slot_str_join PySem.F.type_str_join Zh2 Zl (Za (Zj Zem (pv 4) (pv 7)) Zc)) Zc)) (pv 8) (Zr _)))))))))))))))))),?_⟩
    refine Yb λnxC j4=>?_;refine ⟨_,Z,a,sc,Z,hS,hl,λp m r M ns H1 pf hp hm k9 td h42 ng qe=>?_⟩;refine ⟨p,_,Z,SqT.of hp,Z,_,_,Z,_,_,Z,Z,?_⟩;refine j4 _ _ ?_
    try dsimp only [Zv]
    have og:M.length=ns.length:=td.len.symm;obtain ⟨n,n1,n40,hn⟩:=td.n;have nr:ns.length=3 * n:=by rw [<- og]; exact hn
    have mr:ns.length < 64:=by lia
    have kc:ns≠[]:=λz=>by rw [z,List.length_nil] at nr; lia
    refine Yb λnxC j4=>?_;refine ⟨_,Z,a,sc,3,Z,pf.seq hS,hl,by decide,by decide,?_⟩;refine j4 _ _ ?_
    try dsimp only [Zv]
    generalize cell sc 3=pick;refine Yb λnxC j4=>?_;refine ⟨_,Z,_,Z,r,ns,pick,Z,k9,kc,by lia,λr2 H2 s2 qd yg=>?_⟩;refine j4 _ _ ?_
    try dsimp only [Zv]
    have pk:=Zhb (pick:=pick) kc td.rng;have hln:=Zhc ns pick;have o3:(¬ (spo ns pick≠[]/\Gd (spo ns pick))/\(pick % 6=1\/pick % 6=2))\/(TD M (spo ns pick)/\¬ (pick % 6=1\/pick % 6=2)):=by
      by_cases c:pick % 6=1\/pick % 6=2
      · exact .inl ⟨Zhd nr n1 c,c⟩
      · exact .inr ⟨by rw [Zfj c]; exact td,c⟩
    generalize spo ns pick=fl at yg pk hln o3;have lr:fl.length=3 * n:=by lia
    have sH2:=pf.trans s2;clear k9 hm ng qe hp;obtain ⟨ts,q1,q2,q3⟩:=id yg;have pi:ts.length=n:=by lia
    refine Z8 (λσ H'=>∃ tx,σ=[some (.ref a),some (.ref m),some (.ref r2),some (.int pick),some (.ref tx),none,none,none,none,none,none,none,none]/\Same H H'/\H' tx=some (.lst ((txtL fl n).map V.str))) (λnx ke=>?_) ?_
    · refine ⟨_,Z,r2,Z,⟨_,SqL.of q1⟩,λD hD=>?_⟩
      refine Ys (xs:=ts.map V.ref) (λi σ H6=>∃ (v1 v2 v3:Option V),σ=[v1,v2,v3]/\Same H2 H6/\H6 D=some (.lst (((txtL fl n).take i).map V.str))) ⟨none,none,none,Z,Same.new hD,Zb⟩ ?_ ?_ ?_
      · rintro i σ H6 _ ⟨v1,v2,v3,rfl,s6,_⟩
        exact SqL.of (s6 _ _ q1)
      · rintro i y σ H6 hy ⟨v1,v2,v3,rfl,s6,h6⟩
        obtain ⟨q,hq,rfl⟩:=Yp hy;have vd:i < n:=by rw [<- pi]; exact (Aa hq).1
        have ht:=s6 _ _ (q3 i q hq);refine ⟨q,_,Z,SqT.of ht,Z,_,_,Z,_,_,Z,_,_,Z,Z,?_⟩;dsimp only [tYes];rw [if_pos rfl];have b1:=pk (3 * i);have b2:=pk (3 * i + 1);have b3:=pk (3 * i + 2);have hx:(txtL fl n)[i]?=some (cl (fl.getD (3 * i) 0) (fl.getD (3 * i + 1) 0) (fl.getD (3 * i + 2) 0)):=by unfold txtL; rw [Ah,List.getElem?_range vd]; rfl
        generalize fl.getD (3 * i) 0=ia at b1 hx;generalize fl.getD (3 * i + 1) 0=ib at b2 hx;generalize fl.getD (3 * i + 2) 0=ic at b3 hx;have sm:∀ i:Int,0<=i->i<=10000->i.natAbs.log2 < 1920/\(toString i:Str).length<=60:=λi h0 h1=>⟨Nat.lt_trans (log2_lt (k:=14) (by show _ < 16384; lia) (by decide)) (by decide),Zh8 h0 (Int.lt_of_le_of_lt h1 (by decide))⟩;obtain ⟨x1,x2⟩:=sm ia b1.1 b1.2;obtain ⟨a1,a2⟩:=sm ib b2.1 b2.2;obtain ⟨c1,c2⟩:=sm ic b3.1 b3.2;have l0:Str.empty.length=0:=rfl;have l1:(Str.ofString "cloth ").length=6:=by decide
        have l2:(Str.ofString " ").length=1:=by decide
        have ln:∀ {n:Nat},n<=1000->n<=sizeLine:=λh=>by rw [sizeLine_eq]; lia
        refine ⟨ln ?_,_,Z,ia,Z,x1,ln ?_,ln ?_,_,Z,ib,Z,a1,ln ?_,ln ?_,_,Z,ic,Z,c1,ln ?_,ln ?_,?_⟩
        · rw [Z2]; lia
        · rw [Z2,Z2]; lia
        · rw [Z2,Z2,Z2]; lia
        · rw [Z2,Z2,Z2,Z2]; lia
        · rw [Z2,Z2,Z2,Z2,Z2]; lia
        · rw [Z2,Z2,Z2,Z2,Z2,Z2]; lia
        · rw [Z2,Z2,Z2,Z2,Z2,Z2]; lia
        refine ⟨_,h6,by rw [Ab,Ai]; exact Z0 (by lia),_,_,_,Z,Same.add s6 hD,?_⟩;rw [Zb,Aw,hx,Aj];rfl
      · rintro σ H6 ⟨v1,v2,v3,rfl,s6,h6⟩
        rw [Ab,pi,List.take_of_length_le (Nat.le_of_eq (Yy fl n))] at h6;exact ke _ _ ⟨D,Z,sH2.trans s6,h6⟩
    rintro σ H3 ⟨tx,rfl,s3,h3⟩;clear pf s2 sH2 q1 q2 q3 yg qd;refine Yb λnxC j4=>?_;refine ⟨(by show 4<=sizeLine; decide),λmn yx=>?_⟩;refine j4 _ _ ?_
    try dsimp only [Zv]
    have s4:=s3.trans (Same.new (o:=.lst (Yk.map V.str)) yx);have h4:(upd H3 mn (.lst (Yk.map V.str))) tx=some (.lst ((txtL fl n).map V.str)):=Same.new yx _ _ h3;have m4:(upd H3 mn (.lst (Yk.map V.str))) mn=some (.lst (Yk.map V.str)):=Zb;generalize hH4:upd H3 mn (.lst (Yk.map V.str))=H4 at s4 h4 m4;refine Yb λnxC j4=>?_;refine ⟨(by show 4<=sizeLine; decide),λdu vh=>?_⟩;replace vh:H4 du=none:=by rw [<- hH4]; exact vh
    refine j4 _ _ ?_
    try dsimp only [Zv]
    have s5:=s4.trans (Same.new (o:=.lst (dueL.map V.str)) vh);have sd:Same H4 (upd H4 du (.lst (dueL.map V.str))):=Same.new vh;have d5:(upd H4 du (.lst (dueL.map V.str))) du=some (.lst (dueL.map V.str)):=Zb;generalize hH5:upd H4 du (.lst (dueL.map V.str))=H5 at s5 sd d5;refine Yb λnxC j4=>?_;refine ⟨(by show 0<=sizeLine; decide),λo ho=>?_⟩;replace ho:H5 o=none:=by rw [<- hH5,<- hH4]; exact ho
    refine j4 _ _ ?_
    try dsimp only [Zv]
    refine Yb λnxC j4=>?_;refine ⟨(by show 0<=sizeLine; decide),λf hf=>?_⟩;replace hf:(upd H5 o (.lst [])) f=none:=by rw [<- hH5,<- hH4]; exact hf
    refine j4 _ _ ?_
    try dsimp only [Zv]
    have ve:f≠o:=(Wc hf).1;have rf:H5 f=none:=(Wc hf).2;refine Yb λnxC j4=>?_;have ye:Same H5 (upd (upd H5 o (.lst [])) f (.lst [])):=Same.add (Same.new ho) rf;refine ⟨_,Z,a,sc,4,Z,?_,hl,by decide,by decide,_,8,Z,by decide,λnm xs H8 s8 hnm h8 ym hxs=>?_⟩
    · have:=(s5.trans ye).seq hS
      rw [<- hH5,<- hH4] at this;exact this
    refine j4 _ _ ?_
    try dsimp only [Zv]
    replace s8:Same (upd (upd H5 o (.lst [])) f (.lst [])) H8:=by rw [<- hH5,<- hH4]; exact s8
    have o8:H8 o=some (.lst (([]:List Str).map V.str)):=s8 _ _ (by rw [Ze (Ne.symm ve),Zb]; rfl);have f8:H8 f=some (.lst (([]:List Str).map V.str)):=s8 _ _ (by rw [Zb]; rfl);have xb:=ye.trans s8;have t8:=xb _ _ (sd _ _ h4);have mn8:=xb _ _ (sd _ _ m4);have du8:=xb _ _ d5
    have oy:∀ {H':Hp} {b:Addr} {L:List Str},H' b=some (.lst (L.map V.str))->H' nm=some (.lst (xs.map V.int))->nm≠b:=λ{H' b L} e1 e2 z=>by
      rw [z,e1] at e2
      injection e2 with e2
      injection e2 with e2
      have:=congrArg List.length e2;rw [Ab,Ab,ym] at this
      cases L with
      | nil=>cases this
      | cons x L=>cases xs with
        | nil=>cases ym
        | cons y xs=>cases e2
    have xo:=oy o8 h8;have xp:=oy f8 h8;have ur:tx≠o:=Zh (sd _ _ h4) ho;have nmt:=oy t8 h8;have txf:tx≠f:=Zh (sd _ _ h4) rf;have mno:mn≠o:=Zh (sd _ _ m4) ho;have mnf:mn≠f:=Zh (sd _ _ m4) rf;have duo:du≠o:=Zh d5 ho;have duf:du≠f:=Zh d5 rf;clear ye s8 sd s4 h4 m4 vh s5 d5 ho hf hH4 hH5 yx s3 h3 rf xb hnm hS;have at':∀ i:Nat,i < 8->∃ y:Int,atI (xs.map V.int) (i:Int)=some (V.int y):=λi hi=>by
      have e:xs[i]?=some (xs[i]'(by lia)):=Ac (by lia)
      exact ⟨_,Xt e⟩
    obtain ⟨y0,a0⟩:=at' 0 (by decide);obtain ⟨N,hN⟩:∃ N:Nat,y0 % 4=N:=⟨_,(Int.toNat_of_nonneg (Int.emod_nonneg _ (by decide))).symm⟩;have qk:N < 4:=by have:=Int.emod_lt_of_pos y0 (show (0:Int) < 4 by decide); lia
    refine Z8 (λσ H'=>∃ (v:Option V) (O F:List Str),σ=[some (.ref a),some (.ref m),some (.ref r2),some (.int pick),some (.ref tx),some (.ref mn),some (.ref du),some (.ref o),some (.ref f),some (.ref nm),v,none,none]/\H' tx=some (.lst ((txtL fl n).map V.str))/\H' nm=some (.lst (xs.map V.int))/\H' o=some (.lst (O.map V.str))/\H' f=some (.lst (F.map V.str))/\O.length<=4/\(∀ d∈O,d∈Yk)/\(O=[]->F=[])/\∀ d∈O.head?,∃ j:Nat,Yk[j]?=some d/\F=[dueL.getD j (Str.ofString "")]) (λnx ke=>?_) ?_
    · refine ⟨_,Z,nm,_,_,_,Z,Z,SqL.of h8,a0,_,_,Z,Z,(by show (0:Int) < 4; decide),_,rfl,by lia,by lia,?_⟩
      rw [show (y0 % 4).toNat=N by lia];refine Gh (n:=N) (λi σ H'=>∃ (v:Option V) (O F:List Str),σ=[some (.ref a),some (.ref m),some (.ref r2),some (.int pick),some (.ref tx),some (.ref mn),some (.ref du),some (.ref o),some (.ref f),some (.ref nm),v,none,none]/\(∀ b u,b≠o->b≠f->H8 b=some u->H' b=some u)/\H' o=some (.lst (O.map V.str))/\H' f=some (.lst (F.map V.str))/\O.length=i/\(∀ d∈O,d∈Yk)/\(O=[]->F=[])/\∀ d∈O.head?,∃ j:Nat,Yk[j]?=some d/\F=[dueL.getD j (Str.ofString "")]) ⟨none,[],[],rfl,λ_ _ _ _ e=>e,o8,f8,rfl,λd hd=>(by cases hd),λ_=>rfl,λd hd=>(by cases hd)⟩ ?_ ?_
      · rintro i σ H' kf ⟨v,O,F,rfl,kp,l8,ze,zr,pw,uo,rm⟩
        obtain ⟨y,ay⟩:=at' (i + 1) (by lia);obtain ⟨J,hJ⟩:∃ J:Nat,y % 4=J:=⟨_,(Int.toNat_of_nonneg (Int.emod_nonneg _ (by decide))).symm⟩;have hJ4:J < 4:=by have:=Int.emod_lt_of_pos y (show (0:Int) < 4 by decide); lia
        have qg:Yk[J]?=some (Yk[J]'hJ4):=Ac hJ4;generalize Yk[J]'hJ4=d at qg;have vm:dueL[J]?=some (dueL.getD J (Str.ofString "")):=by rw [Ad,Ac (show J < dueL.length from hJ4)]; rfl
        have hnm':=kp _ _ xo xp h8;have ay':atI (xs.map V.int) (0 + (i:Int) + 1)=some (V.int y):=by rw [Int.zero_add]; exact ay
        have am:atI (Yk.map V.str) (y % 4)=some (V.str d):=by rw [hJ]; exact Xt qg
        have ad:atI (dueL.map V.str) (y % 4)=some (V.str (dueL.getD J (Str.ofString ""))):=by rw [hJ]; exact Xt vm
        dsimp only [Zv];refine Yb λnxC j4=>?_;refine ⟨_,Z,.inl ⟨Z,_,SqL.of l8⟩,_,Z,_,Z,_,Z,_,_,Z,Z,nm,_,_,_,Z,Z,SqL.of hnm',ay',_,_,Z,Z,(by show (0:Int) < 4; decide),mn,_,_,_,rfl,rfl,SqL.of (kp _ _ mno mnf mn8),am,o,_,_,rfl,rfl,l8,by rw [Ab,sizeLine_eq]; lia,?_⟩;refine j4 _ _ ?_
        try dsimp only [Zv]
        have u3:∀ b u,b≠o->b≠f->H8 b=some u->(upd H' o (.lst (O.map V.str ++ [V.str d]))) b=some u:=λb u h1 h2 e=>by rw [Ze h1]; exact kp b u h1 h2 e
        have lq:(upd H' o (.lst (O.map V.str ++ [V.str d]))) o=some (.lst ((O ++ [d]).map V.str)):=by rw [Zb,Aj]; rfl
        have ls:(upd H' o (.lst (O.map V.str ++ [V.str d]))) f=some (.lst (F.map V.str)):=by rw [Ze ve]; exact ze
        generalize upd H' o (.lst (O.map V.str ++ [V.str d]))=HX at u3 lq ls ⊢;have hnm2:=u3 _ _ xo xp h8;have tm:(O ++ [d]).length=i + 1:=by rw [Ae,zr]; rfl
        have wj:∀ d'∈O ++ [d],d'∈Yk:=λd' hd=>by
          rcases List.mem_append.mp hd with z | z
          · exact pw d' z
          · rw [Af z]; exact Au qg
        have p9:O ++ [d]≠[]:=λz=>by have:=congrArg List.length z; rw [tm] at this; cases this
        refine ⟨_,Z,f,_,Z,.inl (SqL.of ls),Z,_,Z,?_⟩;refine ite2 (λz=>?_) (λz=>?_)
        · have hF:F=[]:=by
            have z:=of_decide_eq_true z;rw [Ab] at z
            injection z with z
            exact List.eq_nil_of_length_eq_zero (by lia)
          subst hF
          have hO:O=[]:=by
            cases O with
            | nil=>rfl
            | cons d0 O =>
              obtain ⟨j,_,e⟩:=rm d0 rfl;cases e
          subst hO;refine ⟨_,Z,.inl ⟨Z,_,SqL.of ls⟩,_,Z,_,Z,_,Z,_,_,Z,Z,nm,_,_,_,Z,Z,SqL.of hnm2,ay',_,_,Z,Z,(by show (0:Int) < 4; decide),du,_,_,_,rfl,rfl,SqL.of (u3 _ _ duo duf du8),ad,f,_,_,rfl,rfl,ls,(by show 0 < sizeLine; decide),?_⟩;refine ⟨_,[d],[dueL.getD J (Str.ofString "")],rfl,λb u h1 h2 e=>by rw [Ze h2]; exact u3 b u h1 h2 e,by rw [Ze (Ne.symm ve)]; exact lq,by rw [Zb]; rfl,tm,wj,λz=>absurd z (by simp),λd' hd=>?_⟩;cases hd;exact ⟨J,qg,Z⟩
        · refine ⟨_,O ++ [d],F,Z,u3,lq,ls,tm,wj,λz=>absurd z p9,λd' hd=>?_⟩
          cases O with
          | nil =>
            exfalso;rw [uo rfl] at z;exact z Z
          | cons d0 O=>exact rm d' hd
      · rintro σ H' ⟨v,O,F,rfl,kp,l8,ze,zr,pw,uo,rm⟩
        exact ke _ _ ⟨v,O,F,Z,kp _ _ ur txf t8,kp _ _ xo xp h8,l8,ze,by lia,pw,uo,rm⟩
    rintro σ H9 ⟨wx,O,F,rfl,t9,yk,o9,f9,zr,pw,uo,rm⟩;clear a0 hN qk mn8 du8 t8 h8 o8 f8 xp txf mno mnf duo duf;refine Z8 (λσ H'=>∃ f2 F2,σ=[some (.ref a),some (.ref m),some (.ref r2),some (.int pick),some (.ref tx),some (.ref mn),some (.ref du),some (.ref o),some (.ref f2),some (.ref nm),wx,none,none]/\H' tx=some (.lst ((txtL fl n).map V.str))/\H' nm=some (.lst (xs.map V.int))/\H' o=some (.lst (O.map V.str))/\H' f2=some (.lst (F2.map V.str))/\f2≠o/\FinT t (txtL fl n) O F2) (λnx ke=>?_) ?_
    · have h6:(0:Int) < 6:=by decide
      refine ⟨_,Z,_,_,Z,Z,h6,Z,_,Z,?_⟩;refine (λR=>ite2 (λz=>iteT (R (.inl ?h1))) (λz=>⟨_,Z,_,_,Z,Z,h6,Z,_,Z,ite2 (λz'=>R (.inr ?h2)) (λz'=>?h3)⟩)) (λ(c:pick % 6=1\/pick % 6=2)=>?hR)
      case h1 =>
        have z:=of_decide_eq_true z;injection z
      case h2 =>
        have z':=of_decide_eq_true z';injection z'
      case h3 =>
        have c:¬ (pick % 6=1\/pick % 6=2):=λc=>c.elim (λe=>z (decide_eq_true (congrArg V.int e))) (λe=>z' (decide_eq_true (congrArg V.int e)))
        rcases o3 with ⟨_,c'⟩ | ⟨td',_⟩
        · exact absurd c' c
        · exact ke _ _ ⟨f,F,Z,t9,yk,o9,f9,ve,Za8 lr n1 (by lia) pk (by lia) pw (.inr ⟨M,td',rm,uo⟩)⟩
      case hR =>
        rcases o3 with ⟨g,_⟩ | ⟨_,c'⟩
        · refine ⟨(by show 1<=sizeLine; decide),λf2 ls=>?_⟩
          have s1:Same H9 (upd H9 f2 (.lst [V.str (Str.ofString "no tent")])):=Same.new ls;exact ke _ _ ⟨f2,[Str.ofString "no tent"],rfl,s1 _ _ t9,s1 _ _ yk,s1 _ _ o9,Zb,(λz=>by rw [z,o9] at ls; cases ls),Za8 lr n1 (by lia) pk (by lia) pw (.inl ⟨g,rfl⟩)⟩
        · exact absurd c c'
    rintro σ H10 ⟨f2,F2,rfl,yc,on,yh,f10,f2o,ki⟩;clear t9 yk o9 f9 uo rm ve f td og hn;obtain ⟨y5,a5⟩:=at' 5 (by decide);obtain ⟨y6,a6⟩:=at' 6 (by decide);obtain ⟨y7,a7⟩:=at' 7 (by decide);clear at';have h4:(0:Int) < 4:=by decide
    have o1:fl.length < 64:=by lia
    refine Z8 (λσ H'=>∃ f2 pe L2 F,σ=[some (.ref a),some (.ref m),some (.ref r2),some (.int pick),some (.ref tx),some (.ref mn),some (.ref du),some (.ref o),some (.ref f2),some (.ref nm),wx,pe,none]/\H' tx=some (.lst ((txtL fl n).map V.str))/\H' nm=some (.lst (xs.map V.int))/\H' o=some (.lst (L2.map V.str))/\H' f2=some (.lst (F.map V.str))/\FinT t (txtL fl n) L2 F/\(y6 % 4≠1->L2=O)) (λnx ke=>?_) ?_
    · refine ⟨_,Z,nm,_,_,_,Z,Z,SqL.of on,a6,_,_,Z,Z,h4,Z,_,Z,?_⟩
      refine ite2 (λz=>?_) (λz=>ke _ _ ⟨f2,none,O,F2,Z,yc,on,yh,f10,ki,λ_=>rfl⟩);have z:y6 % 4=1:=by
        have z:=of_decide_eq_true z
        injection z
      refine Yb λnxC j4=>?_;refine ⟨(by show 7<=sizeLine; decide),λtq yn=>?_⟩;have s1:Same H10 (upd H10 tq (.tup (badL.map V.str))):=Same.new yn;obtain ⟨x,hx,ax⟩:=Zff (L:=badL) (n:=7) rfl (by decide) y7;refine ⟨_,Z,nm,_,_,_,Z,Z,SqL.of (s1 _ _ on),a7,_,_,Z,Z,(by show (0:Int) < 7; decide),tq,_,_,_,rfl,rfl,SqT.of Zb,ax,?_⟩;refine j4 _ _ ?_
      try dsimp only [Zv]
      have qp:=s1 _ _ yc;have me:=s1 _ _ on;have qt:=s1 _ _ yh;refine Yb λnxC j4=>?_;have k0:=Int.emod_nonneg y5 (show (O.length:Int) + 1≠0 by lia);have k1:=Int.emod_lt_of_pos y5 (show (0:Int) < (O.length:Int) + 1 by lia);obtain ⟨j,hj⟩:∃ j:Nat,y5 % ((O.length:Int) + 1)=j:=⟨_,(Int.toNat_of_nonneg k0).symm⟩;have pr:j<=O.length:=by lia
      refine ⟨_,Z,.inl ⟨Z,_,SqL.of qt⟩,_,Z,nm,_,_,_,Z,Z,SqL.of me,a5,_,Z,o,_,Z,.inl (SqL.of qt),_,_,Z,Z,_,_,Z,Z,(by show (0:Int) < ((O.map V.str).length:Nat) + 1; lia),_,rfl,o,_,j,_,rfl,(by show [V.int (y5 % (((O.map V.str).length:Nat) + 1)),V.str x]=_; rw [Ab,hj]),qt,by rw [Ab]; exact pr,by rw [Ab,sizeLine_eq]; lia,?_⟩;refine j4 _ _ ?_
      try dsimp only [Zv]
      have txo':=ur;refine ⟨(by show 1<=sizeLine; decide),λf3 hf3=>?_⟩;have s2:=Same.new (o:=.lst [V.str (Str.ofString "bad order")]) hf3;refine ke _ _ ⟨f3,_,O.take j ++ x :: O.drop j,[Str.ofString "bad order"],rfl,s2 _ _ (by rw [Ze ur]; exact qp),s2 _ _ (by rw [Ze xo]; exact me),s2 _ _ (by rw [Zb,Aj,List.map_cons,List.map_take,List.map_drop]),Zb,Zhs lr n1 o1 pk (by lia) pw hx pr,λe=>absurd z e⟩
    rintro σ uq ⟨f3,pe,L2,F3,rfl,qp,me,qt,f11,wm,hL2⟩;clear yc on yh f10 f2o ki f2 F2;refine Z8 (λσ H'=>∃ f2 pe ww L1 F,σ=[some (.ref a),some (.ref m),some (.ref r2),some (.int pick),some (.ref tx),some (.ref mn),some (.ref du),some (.ref o),some (.ref f2),some (.ref nm),wx,pe,ww]/\H' tx=some (.lst (L1.map V.str))/\H' nm=some (.lst (xs.map V.int))/\H' o=some (.lst (L2.map V.str))/\H' f2=some (.lst (F.map V.str))/\FinT t L1 L2 F/\(y6 % 4≠3->L1=txtL fl n)) (λnx ke=>?_) ?_
    · refine ⟨_,Z,nm,_,_,_,Z,Z,SqL.of me,a6,_,_,Z,Z,h4,Z,_,Z,?_⟩
      refine ite2 (λz=>?_) (λz=>ke _ _ ⟨f3,pe,none,_,F3,Z,qp,me,qt,f11,wm,λ_=>rfl⟩);have z:y6 % 4=3:=by
        have z:=of_decide_eq_true z
        injection z
      have eL:=hL2 (by lia);subst eL;refine Yb λnxC j4=>?_;refine ⟨(by show 6<=sizeLine; decide),λtc htc=>?_⟩;have s1:Same uq (upd uq tc (.tup (cloL.map V.str))):=Same.new htc;refine j4 _ _ ?_
      try dsimp only [Zv]
      refine Yb λnxC j4=>?_;have k0:=Int.emod_nonneg y5 (show (n:Int)≠0 by lia);have k1:=Int.emod_lt_of_pos y5 (show (0:Int) < (n:Int) by lia);obtain ⟨j,hj⟩:∃ j:Nat,1 + y5 % (n:Int)=j:=⟨_,(Int.toNat_of_nonneg (by lia)).symm⟩;have pr:j<=n:=by lia
      have hmul:MulOk (Str.ofString "9") 62:=by unfold MulOk; decide +kernel
      obtain ⟨x,hx,ax⟩:=Zff (L:=cloL ++ W6) (n:=8) (by decide +kernel) (by decide) y7;refine ⟨_,Z,.inl ⟨Z,_,SqL.of (s1 _ _ qp)⟩,_,Z,nm,_,_,_,Z,Z,SqL.of (s1 _ _ me),a5,_,Z,tx,_,Z,.inl (SqL.of (s1 _ _ qp)),_,_,Z,Z,(by rw [Ab,Yy]; lia),_,_,rfl,rfl,?_⟩;refine ⟨_,Z,Str.ofString "9",62,rfl,rfl,hmul,Str.ofString "cloth 1 2 ",Zg1,rfl,rfl,(by decide +kernel),(by show 2<=sizeLine; decide),λtq yn=>?_⟩;have s2:Same (upd uq tc (.tup (cloL.map V.str))) (upd (upd uq tc (.tup (cloL.map V.str))) tq (.tup (W6.map V.str))):=Same.new yn;refine ⟨tc,tq,cloL.map V.str,W6.map V.str,Z,Z,SqT.of (s2 _ _ Zb),SqT.of Zb,(λz=>nomatch z),(by show 8<=sizeLine; decide),(λz=>nomatch z),λ_ tp htp=>?_⟩;have s3:Same (upd (upd uq tc (.tup (cloL.map V.str))) tq (.tup (W6.map V.str))) (upd (upd (upd uq tc (.tup (cloL.map V.str))) tq (.tup (W6.map V.str))) tp (.tup (cloL.map V.str ++ W6.map V.str))):=Same.new htp;have ua:=s1.trans (s2.trans s3);have ut:=ua _ _ qp;have p6:=ua _ _ me;have qr:=ua _ _ qt;refine ⟨_,Z,nm,_,_,_,Z,Z,SqL.of p6,a7,_,_,Z,Z,(by show (0:Int) < 8; decide),tp,_,_,_,rfl,rfl,SqT.of Zb,(by rw [<- Aj]; exact ax),?_⟩;refine ⟨tx,_,j,_,Z,(by show [V.int (1 + y5 % (((txtL fl n).map V.str).length:Nat)),V.str x]=_; rw [Ab,Yy,hj]),ut,(by rw [Ab,Yy]; exact pr),(by rw [Ab,Yy,sizeLine_eq]; lia),?_⟩;refine j4 _ _ ?_
      try dsimp only [Zv]
      refine ⟨(by show 1<=sizeLine; decide),λf4 hf4=>?_⟩;have s4:=Same.new (o:=.lst [V.str (Str.ofString "bad order")]) hf4;refine ke _ _ ⟨f4,pe,_,(txtL fl n).take j ++ x :: (txtL fl n).drop j,[Str.ofString "bad order"],rfl,s4 _ _ (by rw [Zb,Aj,List.map_cons,List.map_take,List.map_drop]),s4 _ _ (by rw [Ze nmt]; exact p6),s4 _ _ (by rw [Ze (Ne.symm ur)]; exact qr),Zb,Zhr lr n1 o1 pk (by lia) pw hx,λe=>absurd z e⟩
    rintro σ H12 ⟨f4,v11',ww,L1,F4,rfl,ut,p6,qr,f12,wk,hL1⟩;clear qp me qt f11 wm f3 F3;refine Z8 (λσ H'=>∃ f2 pe ww L2 F,σ=[some (.ref a),some (.ref m),some (.ref r2),some (.int pick),some (.ref tx),some (.ref mn),some (.ref du),some (.ref o),some (.ref f2),some (.ref nm),wx,pe,ww]/\H' tx=some (.lst (L1.map V.str))/\H' o=some (.lst (L2.map V.str))/\H' f2=some (.lst (F.map V.str))/\FinT t L1 L2 F) (λnx ke=>?_) ?_
    · refine ⟨_,Z,nm,_,_,_,Z,Z,SqL.of p6,a6,_,_,Z,Z,h4,Z,_,Z,?_⟩
      refine ite2 (λz=>⟨_,Z,o,_,Z,.inl (SqL.of qr),_,_,Z,Z,_,Z,ite2 (λz'=>?_) (λz'=>ke _ _ ⟨f4,_,_,L2,F4,Z,ut,qr,f12,wk⟩)⟩) (λz=>iteF (ke _ _ ⟨f4,_,_,L2,F4,Z,ut,qr,f12,wk⟩));have z:y6 % 4=2:=by
        have z:=of_decide_eq_true z
        injection z
      have eL:=hL2 (by lia);have eL1:=hL1 (by lia);have hOne:O≠[]:=λe=>by
        have z':=of_decide_eq_true z'
        rw [eL,e] at z'
        exact absurd z' (by decide)
      subst eL eL1;refine Yb λnxC j4=>?_;refine ⟨_,Z,.inl ⟨Z,_,SqL.of qr⟩,o,_,_,Z,Z,qr,by rw [Ab,sizeLine_eq]; lia,?_⟩;refine j4 _ _ ?_
      try dsimp only [Zv]
      refine ⟨(by show 1<=sizeLine; decide),λf5 rf=>?_⟩;have s4:=Same.new (o:=.lst [V.str (Str.ofString "bad order")]) rf;refine ke _ _ ⟨f5,_,_,L2 ++ [Qu],[Str.ofString "bad order"],rfl,s4 _ _ (by rw [Ze ur]; exact ut),s4 _ _ (by rw [Zb,Aj]; rfl),Zb,Zfw lr n1 o1 pk (by lia) pw hOne⟩
    rintro σ H13 ⟨f5,pe,v12',L3,F5,rfl,t13,o13,f13,fin3⟩;obtain ⟨te,ln,le,an⟩:=fin3;have llen:L1.length + L3.length<=100:=by rw [<- Ae]; exact le
    refine ⟨Z,_,Z,_,Z,tx,o,_,_,Z,Z,t13,o13,by rw [Ab,Ab,sizeLine_eq]; lia,λc hc=>?_⟩;have s1:=Same.new (o:=.lst (L1.map V.str ++ L3.map V.str)) hc;have c1:(upd H13 c (.lst (L1.map V.str ++ L3.map V.str))) c=some (.lst ((L1 ++ L3).map V.str)):=by rw [Zb,Aj]
    have sm:=Kb (B:=100) ln;refine ⟨_,c,L1 ++ L3,Z,Z,SqL.of c1,by decide,by lia,?_⟩;dsimp only [tNil];show Q8 t [.str (Txt.join (Str.ofString "\n") (L1 ++ L3))] _ _ _;refine te _ _ _ λq H14 xg h14=>?_;have f14:=xg _ _ (s1 _ _ f13);obtain ⟨e1,e2,e3⟩:=Zfp F5 an;refine ⟨_,Z,_,_,.lst (SqL.of h14) (U6 F5),.lst (SqL.of f14) (U6 F5),e2,e2,e3,?_⟩;rw [e1];exact k _
end
end KT
open PySem PySem.W PyProof.Rows
namespace PySem.W.Fast
def tw243166506389318401:=0
def tw12593399887755243816:=0
def tw17183680956959356428:=0
def tw7465651794985507595:=0
def tw1623370390672992797:=0
def tw13937288347424438641:=0
def tw4540451358230879988:=0
def tw7312735287847761591:=0
def tw11624662539941374406:=0
def tw12019027703169939486:=0
def tw10498268096730485779:=0
def tw200818292153943170:=0
def tw9520098112706443797:=0
def tw5533113606601135869:=0
def tw10676222019368667248:=0
def tw17648302760744681400:=0
def tw18021845935076757020:=0
def tw7521176431315348047:=0
def tw364772981381272670:=0
def tw1557519193006898216:=0
def tw4940350970566744736:=0
def tw6748348960677192627:=0
def tw6617211758257950164:=0
def tw12371744312291817024:=0
def tw4646389510506061728:=0
def tw6938209888087228016:=0
def tw10554060977468295261:=0
def tw13411358539671123250:=0
def tw16551953987160556506:=0
def tw13397917054916860107:=0
def tw4011968155629320330:=0
def tw16801588181254579001:=0
def tw18214134231225478403:=0
def tw4465252334333982375:=0
def tw13614693649252478840:=0
def tw11189484348306107839:=0
def tw17239091216069374289:=0
def tw15067617786856864541:=0
def tw16962850758813334505:=0
def tw5400700315133390239:=0
def tw14357864056009587013:=0
def tw3827992537739230783:=0
def tw6590893798332332809:=0
def tw8125570304338067186:=0
def tw12518007493714356690:=0
def tw4148995811039935408:=0
def tw815022963497972918:=0
def tw7344750715675382929:=0
def tw1093259768257556987:=0
def tw5036712026880507699:=0
def tw9833274725734318175:=0
def tw6560944399988362065:=0
def tw16513987509760075161:=0
def tw14164772781794295851:=0
def tw1318942955116371661:=0
def tw7559332327230447279:=0
def tw11343701780721728234:=0
def tw16330554162360919443:=0
def tw1606371161259129776:=0
def tw5635333230531856322:=0
def tw4977403341347057703:=0
def tw7634121803864026370:=0
def tw3764589268940118599:=0
def tw2444935713151046784:=0
def tw2980453161267286332:=0
def tw9207897306062064771:=0
def tw15299349794023851664:=0
def tw4088163117259549032:=0
def tw11506348242850890784:=0
def tw14471514425012763754:=0
def tw1342193952018299501:=0
def tw13371368600631219286:=0
def tw12087591398160140017:=0
def tw6500040373749874747:=0
def tw17705496287276006925:=0
def tw14073133582213511504:=0
def tw6626030311935194835:=0
def tw8264849476281654737:=0
def tw4812791254751968359:=0
def tw13057580422233016521:=0
def tw11531255353394358053:=0
def tw12828332199548686040:=0
def tw1257215915597742849:=0
def tw9238648416608574101:=0
def tw17569887726690635671:=0
def tw17530133077481224720:=0
def tw16172562070229719886:=0
def tw11121406935774525639:=0
def tw10166782542115617706:=0
def tw391385515164876756:=0
def tw8500207575705863678:=0
def tw15971088771513665503:=0
def tw13272672323181813220:=0
def tw7108622133022379147:=0
def tw14601267195343249102:=0
def tw1032091025756647309:=0
def tw15935117534172048541:=0
def tw15508622835275302920:=0
def tw6714119056542224985:=0
def tw5395292205632664511:=0
def tw6796974932699403890:=0
def tw6678866016157305712:=0
def tw15463453072975899313:=0
def tw17252988191839509698:=0
def tw11009531751149978:=0
def tw2356737723387286869:=0
def tw2100651904115667820:=0
def tw8374813695782232997:=0
def tw5639110817070941987:=0
def tw15237642107257574638:=0
def tw3229780191657871070:=0
def tw11071472537182950648:=0
def tw3769937201278115230:=0
def tw18247437907611828413:=0
def tw4669616807530641357:=0
def tw16546862534043351458:=0
def tw7044097446679113612:=0
def tw3343439915393226931:=0
def tw16141169206822576241:=0
def tw11471999148184285482:=0
def tw18264362353783749138:=0
def tw13988254202591653931:=0
def tw1825511407888812154:=0
def tw4453090566925351850:=0
def tw2231717681940969679:=0
def tw17771073197112579938:=0
def tw12881987747036469274:=0
def tw17483545290174503769:=0
def tw10718839112315997443:=0
def tw8918271503879758293:=0
def tw1156391696358685165:=0
def tw11696474004822525205:=0
def tw99247633193017615:=0
def tw5495355135249606304:=0
def tw12832260435572792452:=0
def tw8828118066137728820:=0
def tw11549350835528485888:=0
def tw5239507499401097911:=0
def tw1092595252416962380:=0
def tw1811389000395018676:=0
def tw15204296016034156437:=0
def tw14885047730277669537:=0
def tw2167260247287139526:=0
def tw4504110134567089292:=0
def tw2669431551190353405:=0
def tw14306895447945864841:=0
def tw16947029534141820948:=0
def tw12326986134822183405:=0
def tw3172832012065603613:=0
def tw8775705876953392582:=0
def tw3027771570278573538:=0
def tw11792175640106939089:=0
def tw11691583507494543425:=0
def tw3526274923983723940:=0
def tw14996465295225596619:=0
def tw13040773373133949012:=0
def tw13741867803284561957:=0
def tw9464057262197334730:=0
def tw17924107955172099851:=0
def tw2220488943966908223:=0
def tw4731545846634992339:=0
def tw5876449117692568824:=0
def tw4079621219335930100:=0
def tw2971770690988920553:=0
def tw2411041376939127172:=0
def tw18197018121560750218:=0
def tw17140471805791282807:=0
def tw8131770355661653045:=0
def tw8452624295269578816:=0
def tw11751373536159562153:=0
def tw1305764300238083172:=0
def tw15829610273390691588:=0
def tw12678949859346010151:=0
def tw9864940638597179989:=0
def tw4223031147054224536:=0
def tw10953803604839081040:=0
def tw10784031767889503788:=0
def tw4990007900950348392:=0
def tw12232970992014772070:=0
def tw7153965077308598812:=0
def tw1402850801942631848:=0
def tw11457326601345047158:=0
def tw2723756442484293252:=0
def tw5265394358630009721:=0
def tw15880165530218482586:=0
def tw14323432732408248875:=0
def tw146584759591667699:=0
def tw6650938359507074829:=0
def tw3190483908518242549:=0
def tw2717419955336077031:=0
def tw13433444927971384442:=0
def tw1754048834746126272:=0
def tw15003385029780749494:=0
def tw3688606420733005873:=0
def tw15777077660593900085:=0
def tw15782530824780109317:=0
def tw8254800082033554680:=0
def tw11483122619734456065:=0
def tw16121615478640204497:=0
def tw10616161709816811221:=0
def tw1723064618795592820:=0
def tw14080999062708842407:=0
def tw15563951306632827041:=0
def tw2916091917177911383:=0
def tw9950606146330528592:=0
def tw9969691424047979829:=0
def tw9831993261481571132:=0
def tw7222156866716431590:=0
def tw7174257822670689224:=0
def tw3595360429171539888:=0
def tw2220480467234401172:=0
def tw7325813645201629037:=0
def tw16900038961062454:=0
def tw2032219031512846930:=0
def tw3915699234090003746:=0
def tw9284107694554444743:=0
def tw8994786795722646921:=0
def tw12689103757560275264:=0
def tw17252301501690618085:=0
def tw14656452902944979913:=0
def tw3417817363416307189:=0
def tw15939908440474678173:=0
def tw9493117461728047019:=0
def tw15443012122605474539:=0
def tw11387266122944493042:=0
def tw9150323703472952439:=0
def tw5620383935245732088:=0
def tw14161308402082776170:=0
def tw16451656156409981698:=0
def tw13031823799538091979:=0
def tw274687470246362527:=0
def tw8897308336420693997:=0
def tw14816794431184159747:=0
def tw15709969361232959884:=0
def tw8636914152920171510:=0
def tw15090912402327570027:=0
def tw7767899174060127840:=0
def tw5824962841590935160:=0
def tw3936948708417128411:=0
def tw1908646556673452465:=0
def tw614302083256160693:=0
def tw17584889650120013424:=0
def tw9621807575696186987:=0
def tw5544811169013027299:=0
def tw7078921008117626579:=0
def tw11189333553963023278:=0
def tw7104227292456658587:=0
def tw1487377914342592889:=0
def tw6386607149106170813:=0
def tw6236593197605353106:=0
def tw16034737965571884656:=0
def tw10217034196023645697:=0
def tw3683699555834198147:=0
def tw13482483964314747099:=0
def tw15776698653758172342:=0
def tw17166251589298061778:=0
def tw18081587860147890086:=0
def tw10713180471105025870:=0
def tw14486224155022741273:=0
def tw1679787729746440442:=0
def tw8443012033420434177:=0
def tw11822722544069550680:=0
def tw9442547071119733238:=0
def tw771167776697014998:=0
def tw11593372464328108445:=0
def tw8381321433941969885:=0
def tw10185643830183442585:=0
def tw15073300136717088781:=0
def tw17177266296188084233:=0
def tw16796911561933793122:=0
def tw4810195522063749491:=0
def tw11993107321192649579:=0
def tw14633498821483590000:=0
def tw14192578406743545814:=0
def tw9362908845784085481:=0
def tw10128647904559157098:=0
def tw10343997018975027084:=0
def tw4162883736471618201:=0
def tw1961009420927043177:=0
def tw12296971553264421922:=0
def tw16663891026816846571:=0
def tw346955578654395681:=0
def tw12411265596830951462:=0
def tw8672573888040485640:=0
def tw10410215986706875014:=0
def tw3801411162642334687:=0
def tw17180354799872648240:=0
def tw13329136132142111800:=0
def tw12193930827057915746:=0
def tw156740153261445163:=0
def tw14927273395944983719:=0
def tw9236641409355776676:=0
def tw16251194544924505893:=0
def tw1495385531528136143:=0
def tw8119950912932594743:=0
def tw6086773302929227584:=0
def tw10906414129532757446:=0
def tw17285708530916924502:=0
def tw17048675438010864955:=0
def tw14550038726983401314:=0
def tw13281253323876229330:=0
def tw10714838176868490392:=0
def tw10496965875417306334:=0
def tw17383732513981966556:=0
def tw2110203053114872686:=0
def tw13751858155471565227:=0
def tw5330716872992373302:=0
def tw6344301776964794902:=0
def tw9786522733342331897:=0
def tw7437079893861118367:=0
def tw16873100761925532177:=0
def tw16299265920552787054:=0
def tw8117545588131394462:=0
def tw13025329886292799613:=0
def tw9723681836760791070:=0
def tw11003362942001015424:=0
def tw5844758859960775649:=0
def tw16570533223391026518:=0
def tw18314620901170519841:=0
def tw13513604891788310952:=0
def tw4472610904457449233:=0
def tw703825434086009677:=0
def tw4216624912405288950:=0
def tw18312724931948071057:=0
def tw1709957183876708528:=0
def tw9415659576535374480:=0
def tw7714063818752156136:=0
def tw7632618259341888640:=0
def tw7528406833889470943:=0
def tw683881362664945342:=0
def tw6660288663637051623:=0
def tw4848892131110761314:=0
def tw4750508733820140746:=0
def tw4653721049858161269:=0
def tw4407016994658893328:=0
def tw3375944134052195401:=0
def tw17451905953799813902:=0
def tw17122885263703271190:=0
def tw13888453433915612568:=0
def tw13505053212609496962:=0
def tw12984192103641086307:=0
def tw11225642617797075461:=0
def tw10667435390866901328:=0
def tw16315101391830645626:=0
def tw15564677060830213605:=0
def tw9203019060194603296:=0
def tw6520516718759033597:=0
def tw11644148240959833279:=0
def tw17102299539952417765:=0
def tw1801715194723290787:=0
def tw9934699272312353281:=0
def tw9036981378489579520:=0
def tw17033938199303251138:=0
def tw1567189195293326151:=0
def tw14240607108269101494:=0
def tw15411602965863710208:=0
def tw7201642459090021164:=0
def tw7139748258918497455:=0
def tw5663967205832237686:=0
def tw7317676771575000441:=0
def tw1627229204906023831:=0
def tw2016096423393442332:=0
def tw8954624361277557263:=0
def tw5610993233329587644:=0
def tw340896393562209129:=0
def tw17781581049151487289:=0
def tw16756520482689777803:=0
def tw8671719247686416055:=0
def tw11508943827975120285:=0
def tw11180672083996303196:=0
def tw5773015500781445036:=0
def tw1671063717466692631:=0
def tw18387502794299394183:=0
def tw9233543619193291595:=0
def tw16705626092806339854:=0
def tw15319463607169072573:=0
def tw2587553626788005676:=0
def tw778576108465777542:=0
def tw7610844236760024630:=0
def tw6864513636955170382:=0
def tw2726608920916106265:=0
def tw340763745132830329:=0
def tw12379242968069677886:=0
def tw9468733205010725592:=0
def tw2886047414991378874:=0
def tw5696299877077729154:=0
def tw3262196108270754228:=0
def tw3359524706403220979:=0
def tw17921183179061363479:=0
def tw13651444662601579561:=0
def tw4244425976591900191:=0
def tw400903841978575463:=0
def tw17847599251730757622:=0
def tw14913615744209985678:=0
def tw1169226614368116360:=0
def tw10491985326975340218:=0
def tw12449845976405126630:=0
def tw15449569598905235667:=0
def tw9650781290121969976:=0
def tw16924559009055584440:=0
def tw6522107071041617099:=0
def tw2815806263526454335:=0
def tw15725506880331295249:=0
def tw8328051499011293597:=0
def tw7261115189911360682:=0
def tw15608500390959634368:=0
def tw12355163903000928490:=0
def tw12691924393227140491:=0
def tw11349408228376736861:=0
def tw7886588505308608142:=0
def tw6332642890814679294:=0
def tw3967189544438501807:=0
def tw271735984034646956:=0
def tw7071748585866874538:=0
def tw402350862348798950:=0
def tw15780951249370243920:=0
def tw1537510346245210692:=0
def tw13547374468190675633:=0
def tw6188891311307187318:=0
def tw4883517108252119143:=0
def tw14938766904615923333:=0
def tw1465888368175089396:=0
def tw525912968422635340:=0
def tw3430435413929337447:=0
def tw17040143759776177856:=0
def tw16554017118337416327:=0
def tw11098636826998098015:=0
def tw6419223669567177688:=0
def tw13978115180544616653:=0
def tw11105731891307469240:=0
def tw7207347675909997250:=0
def tw1905356273822641211:=0
def tw17526283028979285300:=0
def tw15057998519219909193:=0
def tw10544717270741616186:=0
def tw13953016118680423042:=0
def tw2199505875120462815:=0
def tw5964279421361382880:=0
def tw1844553146828800445:=0
def tw5280513629225202807:=0
def tw13690106396327649353:=0
def tw11168091415533255426:=0
def tw9821623995538235756:=0
def tw2999025139566763229:=0
def tw17933580046040403103:=0
def tw1184064157269544797:=0
def tw5555047885720002598:=0
def tw7532830289649972270:=0
def tw6594903441376367951:=0
def tw5025174941820386963:=0
def tw1934131299576548377:=0
def tw3524934540862858923:=0
def tw2845747072816582695:=0
def tw5352551861149693816:=0
def tw18102136037037605193:=0
def tw12847052088108398252:=0
def tw9623114589490445:=0
def tw6880091594854700464:=0
def tw4692954135981579832:=0
def tw3921779518169106625:=0
def tw13111003247831424476:=0
def tw1206073611061749348:=0
def tw9137027106128947857:=0
def tw8307783476996205000:=0
def tw4427561323776348520:=0
def tw15752249329952899113:=0
def tw13022360586377023725:=0
def tw10084854271839882048:=0
def tw14227913547064438984:=0
def tw11133178181909905429:=0
def tw977871858203653750:=0
def tw9613872168542126832:=0
def tw4542019479467589339:=0
def tw283728691607678329:=0
def tw16673632951925186649:=0
def tw15543344301174700919:=0
def tw12800434065557566500:=0
def tw6419054545717037711:=0
def tw4816552204454758794:=0
def tw3750493434988221166:=0
def tw12604643720636742749:=0
def tw11473477404599954073:=0
def tw10382170460477778313:=0
def tw7048418094120803639:=0
def tw17956650052353249663:=0
def tw15341803588295417696:=0
def tw14379279870671943317:=0
def tw13662135230472509207:=0
def tw15695188683075586424:=0
def tw14293915358466970488:=0
def tw8292102523297775529:=0
def tw5486431802165880463:=0
def tw1977314095963261748:=0
def tw17608397479816791857:=0
def tw17463873295321675871:=0
def tw13313442714382076985:=0
def tw3246223804355270738:=0
def tw4435613536552277463:=0
def tw653521514252956586:=0
def tw6368412072327617149:=0
end PySem.W.Fast
set_option maxRecDepth 100000 in
set_option maxHeartbeats 0 in
theorem PySem.Challenge.cw_tentloops_k70_books_read_holds : PySem.Challenge.rw_tentloops_k70_books_read.Holds := by
 w_on; o_law; k_head; (case hw=>w_witness2)
 k_fill
 refine L2.walk_r (l:=PySem.Challenge.rw_tentloops_k70_books_read) (k:=13) (spl:=KT.sp_law) rfl rfl ⟨rfl,by decide,by decide⟩ (fun w h Y=>PySem.W.kIn_of Y) (fun K H a ns hl hS=>KT.sp_law_start hl hS) ?F
 case F =>
  intro w mg fa h KX G hmg
  have T:∃ t,KT.Txt w (L2.KOf KX) mg t:=by
   dsimp only [L2.KOf]
   refine' ⟨⟨_,_,_,_,_,_,_,_,_,_,_,_,_,_,_,_,_,_,_,_,_,_,_,_,_,_,_,_,_,_,_,_,_,_,_,_,_,_,_,_,_,_,_,_,_,_,_,_,_,_,_,_,_,_,_,_,_,_,_,_,_,_,_,_,_,_,_,_,_,_,_,_,_,_,_,_,_,_,_,_,_,_,_,_,_,_,_,_,_,_,_,_,_,_,_,_,_,_,_,_,_,_,_,_,_,_,_,_,_,_,_,_,_,_,_,_,_,_,_,_,_,_,_,_,_,_,_,_,_,_,_,_,_,_,_,_,_,_,_,_,_,_,_,_,_,_,_,_,_,_,_,_,_,_,_,_,_,_,_,_,_,_,_,_,_,_,_,_,_,_,_,_,_,_,_,_,_,_,_,_,_,_,_,_,_,_,_,_,_,_,_,_,_,_,_,_,_,_,_,_,_,_,_,_,_,_,_,_,_⟩,⟨mg_of KX G ?_,⟨?_,?_,?_,?_⟩,?_,?_,?_,?_,mg_of KX G ?_,⟨?_,?_,?_,?_⟩,?_,?_,?_,?_,mg_of KX G ?_,⟨?_,?_,?_,?_⟩,?_,?_,?_,?_,KT.FT.of KX G (KT.ba1 (fun _ _ _ _ _ _ _ _=>rfl) rfl) ?_ ?_ ?_ ?_,KT.FT.of KX G (KT.ba1 (fun _ _ _ _ _ _ _ _=>rfl) rfl) ?_ ?_ ?_ ?_,KT.FT.of KX G (KT.ba1 (fun _ _ _ _ _ _ _ _=>rfl) rfl) ?_ ?_ ?_ ?_,KT.FT.of KX G (KT.ba1 (fun _ _ _ _ _ _ _ _=>rfl) rfl) ?_ ?_ ?_ ?_,KT.FT.of KX G (KT.ba2 (fun _ _ _ _ _ _ _ _ _=>rfl) rfl) ?_ ?_ ?_ ?_,KT.FM.of (KT.ba2 (fun _ _ _ _ _ _ _ _ _=>rfl) rfl) ?_ ?_ ?_ ?_ ?_,KT.FM.of (KT.ba1 (fun _ _ _ _ _ _ _ _=>rfl) rfl) ?_ ?_ ?_ ?_ ?_,KT.FM.of (KT.ba1 (fun _ _ _ _ _ _ _ _=>rfl) rfl) ?_ ?_ ?_ ?_ ?_,KT.FM.of (KT.ba2 (fun _ _ _ _ _ _ _ _ _=>rfl) rfl) ?_ ?_ ?_ ?_ ?_,KT.FM.of (KT.ba2 (fun _ _ _ _ _ _ _ _ _=>rfl) rfl) ?_ ?_ ?_ ?_ ?_,KT.FM.of (KT.ba2 (fun _ _ _ _ _ _ _ _ _=>rfl) rfl) ?_ ?_ ?_ ?_ ?_,KT.FM.of (KT.ba2 (fun _ _ _ _ _ _ _ _ _=>rfl) rfl) ?_ ?_ ?_ ?_ ?_,KT.FM.of (KT.ba2 (fun _ _ _ _ _ _ _ _ _=>rfl) rfl) ?_ ?_ ?_ ?_ ?_,KT.FM.of (KT.ba2 (fun _ _ _ _ _ _ _ _ _=>rfl) rfl) ?_ ?_ ?_ ?_ ?_,KT.FT.of KX G (KT.ba1 (fun _ _ _ _ _ _ _ _=>rfl) rfl) ?_ ?_ ?_ ?_,KT.FT.of KX G (KT.ba2 (fun _ _ _ _ _ _ _ _ _=>rfl) rfl) ?_ ?_ ?_ ?_,KT.FT.of KX G (KT.ba2 (fun _ _ _ _ _ _ _ _ _=>rfl) rfl) ?_ ?_ ?_ ?_,KT.FT.of KX G (KT.ba3 (fun _ _ _ _ _ _ _ _ _ _=>rfl) rfl) ?_ ?_ ?_ ?_,KT.FT.of KX G (KT.ba3 (fun _ _ _ _ _ _ _ _ _ _=>rfl) rfl) ?_ ?_ ?_ ?_,KT.FT.of KX G (KT.ba2 (fun _ _ _ _ _ _ _ _ _=>rfl) rfl) ?_ ?_ ?_ ?_,KT.FT.of KX G (KT.ba3 (fun _ _ _ _ _ _ _ _ _ _=>rfl) rfl) ?_ ?_ ?_ ?_,KT.FT.of KX G (KT.ba2 (fun _ _ _ _ _ _ _ _ _=>rfl) rfl) ?_ ?_ ?_ ?_,KT.FT.of KX G (KT.ba2 (fun _ _ _ _ _ _ _ _ _=>rfl) rfl) ?_ ?_ ?_ ?_,KT.FT.of KX G (KT.ba2 (fun _ _ _ _ _ _ _ _ _=>rfl) rfl) ?_ ?_ ?_ ?_,KT.FT.of KX G (KT.ba2 (fun _ _ _ _ _ _ _ _ _=>rfl) rfl) ?_ ?_ ?_ ?_,KT.FT.of KX G (KT.ba2 (fun _ _ _ _ _ _ _ _ _=>rfl) rfl) ?_ ?_ ?_ ?_,KT.FT.of KX G (KT.ba2 (fun _ _ _ _ _ _ _ _ _=>rfl) rfl) ?_ ?_ ?_ ?_,KT.FT.of KX G (KT.ba3 (fun _ _ _ _ _ _ _ _ _ _=>rfl) rfl) ?_ ?_ ?_ ?_,KT.FT.of KX G (KT.ba3 (fun _ _ _ _ _ _ _ _ _ _=>rfl) rfl) ?_ ?_ ?_ ?_,KT.FT.of KX G (KT.ba3 (fun _ _ _ _ _ _ _ _ _ _=>rfl) rfl) ?_ ?_ ?_ ?_,KT.FT.of KX G (KT.ba4 (fun _ _ _ _ _ _ _ _ _ _ _=>rfl) rfl) ?_ ?_ ?_ ?_,KT.FT.of KX G (KT.ba2 (fun _ _ _ _ _ _ _ _ _=>rfl) rfl) ?_ ?_ ?_ ?_,KT.FT.of KX G (KT.ba2 (fun _ _ _ _ _ _ _ _ _=>rfl) rfl) ?_ ?_ ?_ ?_,KT.FT.of KX G (KT.ba2 (fun _ _ _ _ _ _ _ _ _=>rfl) rfl) ?_ ?_ ?_ ?_,KT.FT.of KX G (KT.ba1 (fun _ _ _ _ _ _ _ _=>rfl) rfl) ?_ ?_ ?_ ?_,KT.FT.of KX G (KT.ba1 (fun _ _ _ _ _ _ _ _=>rfl) rfl) ?_ ?_ ?_ ?_,KT.FT.of KX G (KT.ba2 (fun _ _ _ _ _ _ _ _ _=>rfl) rfl) ?_ ?_ ?_ ?_,KT.FT.of KX G (KT.ba2 (fun _ _ _ _ _ _ _ _ _=>rfl) rfl) ?_ ?_ ?_ ?_,KT.FT.of KX G (KT.ba3 (fun _ _ _ _ _ _ _ _ _ _=>rfl) rfl) ?_ ?_ ?_ ?_,KT.FT.of KX G (KT.ba2 (fun _ _ _ _ _ _ _ _ _=>rfl) rfl) ?_ ?_ ?_ ?_,KT.FT.of KX G (KT.ba1 (fun _ _ _ _ _ _ _ _=>rfl) rfl) ?_ ?_ ?_ ?_,KT.FT.of KX G (KT.ba1 (fun _ _ _ _ _ _ _ _=>rfl) rfl) ?_ ?_ ?_ ?_,KT.FT.of KX G (KT.ba1 (fun _ _ _ _ _ _ _ _=>rfl) rfl) ?_ ?_ ?_ ?_,KT.FT.of KX G (KT.ba1 (fun _ _ _ _ _ _ _ _=>rfl) rfl) ?_ ?_ ?_ ?_,KT.FT.of KX G (KT.ba1 (fun _ _ _ _ _ _ _ _=>rfl) rfl) ?_ ?_ ?_ ?_,KT.FM.of (KT.ba5 (fun _ _ _ _ _ _ _ _ _ _ _ _=>rfl) rfl) ?_ ?_ ?_ ?_ ?_,KT.FT.of KX G (KT.ba3 (fun _ _ _ _ _ _ _ _ _ _=>rfl) rfl) ?_ ?_ ?_ ?_,KT.FT.of KX G (KT.ba2 (fun _ _ _ _ _ _ _ _ _=>rfl) rfl) ?_ ?_ ?_ ?_,KT.FT.of KX G (KT.ba2 (fun _ _ _ _ _ _ _ _ _=>rfl) rfl) ?_ ?_ ?_ ?_,KT.FT.of KX G (KT.ba1 (fun _ _ _ _ _ _ _ _=>rfl) rfl) ?_ ?_ ?_ ?_,KT.FT.of KX G (KT.ba1 (fun _ _ _ _ _ _ _ _=>rfl) rfl) ?_ ?_ ?_ ?_,KT.FT.of KX G (KT.ba3 (fun _ _ _ _ _ _ _ _ _ _=>rfl) rfl) ?_ ?_ ?_ ?_,KT.FM.of (KT.ba2 (fun _ _ _ _ _ _ _ _ _=>rfl) rfl) ?_ ?_ ?_ ?_ ?_,KT.FM.of (KT.ba3 (fun _ _ _ _ _ _ _ _ _ _=>rfl) rfl) ?_ ?_ ?_ ?_ ?_,KT.FM.of (KT.ba3 (fun _ _ _ _ _ _ _ _ _ _=>rfl) rfl) ?_ ?_ ?_ ?_ ?_,KT.FM.of (KT.ba3 (fun _ _ _ _ _ _ _ _ _ _=>rfl) rfl) ?_ ?_ ?_ ?_ ?_,KT.FM.of (KT.ba2 (fun _ _ _ _ _ _ _ _ _=>rfl) rfl) ?_ ?_ ?_ ?_ ?_,KT.FM.of (KT.ba4 (fun _ _ _ _ _ _ _ _ _ _ _=>rfl) rfl) ?_ ?_ ?_ ?_ ?_,KT.FM.of (KT.ba3 (fun _ _ _ _ _ _ _ _ _ _=>rfl) rfl) ?_ ?_ ?_ ?_ ?_,KT.FM.of (KT.ba1 (fun _ _ _ _ _ _ _ _=>rfl) rfl) ?_ ?_ ?_ ?_ ?_,KT.FM.of (KT.ba1 (fun _ _ _ _ _ _ _ _=>rfl) rfl) ?_ ?_ ?_ ?_ ?_,KT.FM.of (KT.ba1 (fun _ _ _ _ _ _ _ _=>rfl) rfl) ?_ ?_ ?_ ?_ ?_,KT.FM.of (KT.ba1 (fun _ _ _ _ _ _ _ _=>rfl) rfl) ?_ ?_ ?_ ?_ ?_,KT.FM.of (KT.ba1 (fun _ _ _ _ _ _ _ _=>rfl) rfl) ?_ ?_ ?_ ?_ ?_,KT.FM.of (KT.ba2 (fun _ _ _ _ _ _ _ _ _=>rfl) rfl) ?_ ?_ ?_ ?_ ?_,KT.FM.of (KT.ba1 (fun _ _ _ _ _ _ _ _=>rfl) rfl) ?_ ?_ ?_ ?_ ?_,KT.FM.of (KT.ba1 (fun _ _ _ _ _ _ _ _=>rfl) rfl) ?_ ?_ ?_ ?_ ?_,KT.FT.of KX G (KT.ba1 (fun _ _ _ _ _ _ _ _=>rfl) rfl) ?_ ?_ ?_ ?_,KT.FT.of KX G (KT.ba1 (fun _ _ _ _ _ _ _ _=>rfl) rfl) ?_ ?_ ?_ ?_,KT.FT.of KX G (KT.ba1 (fun _ _ _ _ _ _ _ _=>rfl) rfl) ?_ ?_ ?_ ?_,KT.FT.of KX G (KT.ba2 (fun _ _ _ _ _ _ _ _ _=>rfl) rfl) ?_ ?_ ?_ ?_,KT.FT.of KX G (KT.ba1 (fun _ _ _ _ _ _ _ _=>rfl) rfl) ?_ ?_ ?_ ?_,KT.FT.of KX G (KT.ba1 (fun _ _ _ _ _ _ _ _=>rfl) rfl) ?_ ?_ ?_ ?_,KT.FT.of KX G (KT.ba1 (fun _ _ _ _ _ _ _ _=>rfl) rfl) ?_ ?_ ?_ ?_,KT.FT.of KX G (KT.ba1 (fun _ _ _ _ _ _ _ _=>rfl) rfl) ?_ ?_ ?_ ?_,KT.FT.of KX G (KT.ba1 (fun _ _ _ _ _ _ _ _=>rfl) rfl) ?_ ?_ ?_ ?_,KT.FT.of KX G (KT.ba1 (fun _ _ _ _ _ _ _ _=>rfl) rfl) ?_ ?_ ?_ ?_,KT.FT.of KX G (KT.ba1 (fun _ _ _ _ _ _ _ _=>rfl) rfl) ?_ ?_ ?_ ?_,KT.FT.of KX G (KT.ba2 (fun _ _ _ _ _ _ _ _ _=>rfl) rfl) ?_ ?_ ?_ ?_,KT.FT.of KX G (KT.ba1 (fun _ _ _ _ _ _ _ _=>rfl) rfl) ?_ ?_ ?_ ?_,KT.FT.of KX G (KT.ba1 (fun _ _ _ _ _ _ _ _=>rfl) rfl) ?_ ?_ ?_ ?_,KT.FT.of KX G (KT.ba1 (fun _ _ _ _ _ _ _ _=>rfl) rfl) ?_ ?_ ?_ ?_,KT.FT.of KX G (KT.ba2 (fun _ _ _ _ _ _ _ _ _=>rfl) rfl) ?_ ?_ ?_ ?_,KT.FT.of KX G (KT.ba2 (fun _ _ _ _ _ _ _ _ _=>rfl) rfl) ?_ ?_ ?_ ?_,KT.FT.of KX G (KT.ba3 (fun _ _ _ _ _ _ _ _ _ _=>rfl) rfl) ?_ ?_ ?_ ?_,KT.FT.of KX G (KT.ba3 (fun _ _ _ _ _ _ _ _ _ _=>rfl) rfl) ?_ ?_ ?_ ?_,KT.FT.of KX G (KT.ba1 (fun _ _ _ _ _ _ _ _=>rfl) rfl) ?_ ?_ ?_ ?_,KT.FT.of KX G (KT.ba1 (fun _ _ _ _ _ _ _ _=>rfl) rfl) ?_ ?_ ?_ ?_,KT.FT.of KX G (KT.ba2 (fun _ _ _ _ _ _ _ _ _=>rfl) rfl) ?_ ?_ ?_ ?_,KT.FT.of KX G (KT.ba1 (fun _ _ _ _ _ _ _ _=>rfl) rfl) ?_ ?_ ?_ ?_,⟨?_,?_,?_,?_⟩,⟨?_,?_,?_,?_⟩,⟨?_,?_,?_,?_⟩,mg_of KX G ?_,mg_of KX G ?_,mg_of KX G ?_,mg_of KX G ?_,mg_of KX G ?_,mg_of KX G ?_,mg_of KX G ?_,mg_of KX G ?_,mg_of KX G ?_,mg_of KX G ?_,L2.kdict_mk2 ?_ ?_ ?_ (by decide) ?_,mg_of KX G ?_,L2.kdict_mk5 ?_ ?_ ?_ ?_ ?_ ?_ (by decide) ?_,mg_of KX G ?_,fun s u=>.of_eq rfl,mg_none_of KX G ?_,mg_none_of KX G ?_,mg_none_of KX G ?_,mg_none_of KX G ?_,mg_none_of KX G ?_,mg_none_of KX G ?_,mg_none_of KX G ?_,mg_none_of KX G ?_,mg_none_of KX G ?_,mg_none_of KX G ?_,mg_none_of KX G ?_,mg_none_of KX G ?_,mg_none_of KX G ?_,mg_none_of KX G ?_,mg_none_of KX G ?_,mg_none_of KX G ?_,mg_none_of KX G ?_,mg_of KX G ?_,⟨?_⟩,mg_of KX G ?_,⟨?_⟩,mg_of KX G ?_,⟨?_⟩,mg_of KX G ?_,⟨?_⟩,mg_of KX G ?_,⟨?_⟩,mg_of KX G ?_,⟨?_⟩,mg_of KX G ?_,⟨?_⟩,mg_of KX G ?_,⟨?_⟩,mg_of KX G ?_,⟨?_⟩,mg_of KX G ?_,⟨?_⟩,mg_of KX G ?_,⟨?_⟩,mg_of KX G ?_,mg_of KX G ?_,⟨?_⟩,mg_of KX G ?_,⟨?_⟩,?_,?_,?_,?_,?_,?_,?_,?_,?_,?_⟩⟩
   any_goals first | k_is | k_exc | rfl | kernel_rfl
  obtain ⟨t,T⟩:=T
  have e0:=hmg.symm.trans T.jc.g
  cases e0
  refine' ⟨_,?b,fun base kb nb=>KT.ok_law T⟩
  exact T.bl
#print axioms PySem.Challenge.cw_tentloops_k70_books_read_holds
